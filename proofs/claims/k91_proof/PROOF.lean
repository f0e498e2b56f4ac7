import PyProof.Rows.All
import Wide.All
import OpenK.AllK
import Wide.FinOn
import Lean
import PyProof.EqAt
import PyProof.EqKinds
import PyProof.TupleCall
import KE.KIntText
import KE.KRevIter
import PyProof.CollectIter
import PyProof.ListNew
import PyProof.StrBlockH
import PyProof.StrWalks
import PyProof.StrLawsChain
import PyProof.StrLawsTight
import KE.IntTextText
import PySem.Challenge.RW_longrounds_k91_whole_texts_led_and_undon
set_option Elab.async false
set_option linter.all false
set_option maxRecDepth 100000
set_option genSizeOf false
set_option maxHeartbeats 4000000
open Array renaming length_toList->qR,getElem_toList->Ai,getElem?_eq_getElem->Aj,getElem?_toList->SG,all_toList->Tb,getElem?_eq_none->a9t
open Bool renaming and_eq_true->ir,false_ne_true->sv,false_eq_true->wU,or_eq_true->wW,or_false->Sz,eq_iff_iff->b0l
open Char renaming toNat->SQ
open False renaming elim->b6
open ForInStep renaming yield->oN
open Int renaming toNat_natCast->oI,eq_ofNat_of_zero_le->pJ,emod_eq_of_lt->qX,zero_add->zZ,lt_or_le->Df,mul_le_mul->Dg,mul_comm->KG,neg_mul->KP,sub_emod->SK,emod_nonneg->SM,emod_lt_of_pos->SN,emod_add_mul_ediv->S0,mul_le_mul_of_nonneg_right->S8,natAbs_natCast->S_,natCast_nonneg->Ta,fdiv_eq_ediv_of_nonneg->a7t,lt_trichotomy->a8k,mul_neg_of_pos_of_neg->a8l,mul_emod_left->a8m,ediv_nonneg->a8n,ediv_le_self->a8o,ediv_eq_zero_of_lt->a9k
open List renaming length_map->a6,mem_append_right->b8,length_cons->cx,size_toArray->cY,mem_cons_of_mem->dJ,replicate->dN,length_append->dW,getElem?_set_ne->eD,getElem?_eq_getElem->eO,range->eY,getElem?_map->eZ,map_cons->e8,mem_cons_self->fi,length_set->fD,getElem?_set_self->gU,map_map->iu,mem_append_left->iO,length_nil->i_,map_append->jv,getElem?_eq_none->jP,append_nil->kM,mem_cons->kP,all_eq_true->ng,length_take->oG,cons_append->oK,not_mem_nil->oM,replicate_succ->pF,append_assoc->pG,nil_append->pI,getElem_mem->pK,length_reverse->qY,mem_of_getElem?->sr,map_nil->su,set_cons_succ->sD,set_cons_zero->sE,getElem?_append_right->uA,getElem?_append_left->wH,length_drop->wJ,take_length->wN,range_succ->wO,reverse_cons->zW,flatten_cons->zX,drop_zero->zY,any_cons->z8,eq_of_mem_replicate->z9,filterMap_cons->C0,all_map->C5,map_take->C6,map_drop->C7,take_of_length_le->C8,drop_length->C9,getElem?_range->Dc,ext_getElem->De,mem_of_mem_take->Dh,range'->Dj,all_cons->Dk,length->Kq,getElem?_replicate->Kr,length_singleton->KA,mem_singleton->KD,map_congr_left->KN,take_append_drop->KQ,take_add_one->KU,getD->KW,mem_map->K5,nodup_nil->K7,drop_eq_getElem_cons->K8,of_mem_zip->Si,foldl_cons->SE,range_succ_eq_map->SW,map_set->SY,mem_append->S9,findSome?_cons->Tc,map_reverse->Td,getElem_inj->a7o,length_replicate->a7z,length_dropLast->a8g,getElem_set->a8j,mem_of_mem_drop->a8p,range'_succ->a8r,range_eq_range'->a8s,mem_or_eq_of_mem_set->a8t,take_succ_cons->a8u,take_zero->a8x,getElem?_reverse->a9v,getElem_append_left->b0d,getElem_append_right->b0e,getElem_cons_succ->b0f,take_succ_eq_append_getElem->b0g
open List.cons renaming injEq->KI
open Nat renaming le_refl->a7,lt_of_lt_of_le->cW,le_trans->dD,ne_of_lt->dS,toDigits->kO,lt_irrefl->lT,ne_of_gt->nc,zero_le->ni,zero_add->sA,toDigits_of_lt_base->wR,lt_succ_self->wV,le_of_not_lt->C4,not_lt_zero->C_,le_of_lt->Km,lt_of_le_of_lt->KC,sub_self->KH,lt_or_ge->KR,mul_comm->KS,le_antisymm->K_,min_eq_left->SI,sub_zero->SJ,mod_lt->SR,toDigits_append_toDigits->SS,div_add_mod->SU,pow_succ->SV,le_succ_of_le->Tr,succ_le_succ->Ts,le_succ->TX,min_eq_right->a8i,two_pow_pos->a8q,lt_succ_of_lt->b0m
open Ne renaming symm->dM
open Option renaming map_some->KO,getD_none->SD,getD_some->SX
open Option.some renaming inj->kK,injEq->z_
open Or renaming inr->dX,inl->fR
open Prod renaming fst->uD,snd->Ae
open Prod.mk renaming injEq->Ln
open PyProof renaming noPylong_small->a7u
open PyProof.Rows renaming AllBare->m_,callWith_type1->pM,IsTup->sj,envOfC->uz,IntsAre->uB,Call_->wZ,slot_tuple_getitem->Kw,Subscript_->K1,callWith_builtin1->K2,boot_range->K4,len_tuple->Sg,slicePart_none->a8a,entry_tuple_getitem->a8d,args_tuple_getitem->a8e,subscriptTail_builtinR->a8f
open PyProof.Rows.F renaming plain_set_update_loop->TV,entry_set_update_loop->b0k
open PySem renaming Shared->ah,wpAny->au,wpAny_mono->av,model->aB,wpAny_bind->aH,World->aN,Program->aQ,starEach->aV,sizeLine->bR,wpAny_pure->bS,backTo->cC,FuncData->cG,mainGlobals->cQ,Scope->dA,spliced->eE,compEnvC->gH,binaryOp->gW,mem_of_lookup->iq,compareOp->iP,codeAny->iQ,relabel->iS,sizeLine_eq->ju,strValues->jQ,Keyword->km,rawInt->kL,bootBuiltins->lU,assign->lX,cLine->lZ,wpAny_holding->l0,wpAny_Call_Name_kw->l8,SetTable->l9,Model->oB,isTrue->oE,NameKind->oF,wpAny_field->oH,Result->pB,wpAny_newObj_type->pE,lookup_relabel_local->pO,wpAny_execs_nil->pP,swapsWith->pQ,pyIter->qS,IsPart->qT,call_meets->qU,Params->qV,codeAny_mono->qW,scanBound->rd,execs->sm,pyNext->sq,JoinOk->sC,wpAny_passesOwn->sF,Fin->sG,backToKw->uv,keywordEach->uw,bindL->ux,bindC->uy,callerA->uC,foldedSetIterable->uF,wpAny_execs_cons->uG,attributeBase->uH,getItem->wI,sliceBounds->wM,wpAny_truthy_bool->wX,closureFor->w9,wpAny_Call_method_late->w_,wpAny_loadPart_at->xf,notedBy->xg,wpAny_of_eq->xh,typeLookup_type->xi,builtinLookup_eq_fast->xj,GenState->zR,assignEach->zS,wpAny_call_entry->zV,holding->Aa,wpAny_call->Ac,newList->Af,wpAny_Return_some->Ag,relayAll->Ak,revObj->Al,behindInMarks->C1,typeLookup->C3,Meets->Dl,newFunctionEnv->Dn,wpAny_comprehension_free->Dp,compPost->Dq,wpAny_standAt->Dr,wpAny_Expr_any->Ds,codeAny_builtin->Dt,wpAny_specialOf->Du,field->Dv,importedModules->Dy,treeTable->Dz,letOwnedTupleGo->Kn,IsRangeIter->Ko,CmpOp->Kp,concat_meets->Kt,wpAny_callSpecial?_slot->Kv,wpAny_typeOf->Kx,wpAny_ite_false->KY,wpAny_pyIter_list->K3,wpAny_newFunctionEnv->K6,wpAny_list_append_plain->K9,codeAny_compStart_list->La,eval_ListComp->Lb,wpAny_If->Lc,wpAny_Assign_Name->Ld,comprehension->Le,noteFrame->Lg,wpAny_rule->Lh,numAt->Lk,wpAny_attempt->Ll,ElemsOf->Ls,wpAny_eqBool_str->R8,builtinsNs->R_,wpAny_Name->Sa,wpAny_assign_Name->Sd,bindArgs->Sh,leaving->Sj,cellsFrom->Sk,noFill_tuple_add->Sl,seq_tuple_add->Sm,seqIndex?->Sv,seqIndex_of->Sw,seqIndex_neg->Sy,call->SH,wpAny_BinOp->Tf,standAt->Tg,wpAny_tests_nil->Tp,codeAny_compLoop_tests->Tq,codeAny_call_builtin->Tv,checkBuiltinCall->Tw,isSubtype_type->TF,wpAny_isInstance->TK,wpAny_setField_rec->TL,plainId_quiet->TM,OsState->T6,wpAny_pyNext_range_end->a7q,wpAny_pyIter_rangeiter->a7r,wpAny_pyIter_range->a7s,recursionLimit->a7x,wpAny_sequenceKey->a8c,wpAny_isTrue_Compare1->a8y,wpAny_Tuple_spliced->a8z,wpAny_List_spliced->a9a,seqSlot_of->a9c,wpAny_tests_one->a9e,exec_Assign_Name_used->a9f,codeAny_whileLoop->a9i,wpAny_Try_except->a9o,wpAny_pyIter_enum->a9p,wpAny_comp_letGo->a9q,firstArgMember->a9u,codeAny_of_tree->a9x,wpAny_storeSet_of->b0h,fits_of_scanBound->b0i
open PySem.Around renaming under_plainId->TN
open PySem.AutoSeq1 renaming idx_int->Th
open PySem.Bind renaming checkArgs->a9s
open PySem.Builtin.Int renaming intBits->TB
open PySem.Builtin.List renaming listExtendWith->Lu,listTooLong->SF,listSameRef->b0n,listItems->b0o
open PySem.Builtin.Range renaming rangeSize->zT,small->a9l
open PySem.Builtin.Slice renaming slicePlaces->Ku,sliceAdjust->Ss,sliceApplied->a8b
open PySem.Builtin.Str renaming occurrences->zU,partsBetween->b0b,strKind->b0c
open PySem.Builtin.Tuple renaming tupleExact->Ky,tupleItemsOf->Su,tupleTooMany->a9b
open PySem.Calls renaming spliced_cons->fw,spliced_nil->h_,callWith_builtin->uI,evalArgs_plain->xc,Constant_str->Sb,Name_function_global->a7p,call_len_list->a7v
open PySem.Challenge renaming pw_longrounds_k91_whole_texts_led_and_undon->Lw
open PySem.Code renaming quiet_builtin->a9n
open PySem.Data renaming fields->Se,cell->Sf
open PySem.F renaming plainAttrs_list->Lf,slot_str_split->Lr,slot_tuple_add->Sn,entry_tuple_add->So,args_tuple_add_2->Sr,slot_tuple_mul->Ti,entry_tuple_mul->Tj,args_tuple_mul_2->Tn,typeOf_object_class->Tu,sub_reversed_self->TJ,entry_str_split->TQ,args_str_split_2->TR,slot_int_rmul->a9d,slot_list_append->a9g,type_list_append->a9h,plain_set_new->a9y,plainAttrs_str->b0a,slot_tuple_index->b0p
open PySem.Heap renaming lt_size->bH,get?_push_of_some->cX,get?_push_size->fu,SameBut->uq,size_push->uE,get?_none_of_le->wF,get?_update_other->Kz,get?_update_self->SA
open PySem.Heap.SameBut renaming update->b0j
open PySem.Manifest renaming signature?->a9r
open PySem.NameKind renaming free->q_
open PySem.Obj renaming mapSeq->wL,putSet->TU,data_mapFields->a9j
open PySem.PyData renaming eqv->pL,canLay0->wY,depth->Ab,eqvAll->Dm,canLayAll0->KZ,depthAll->K0
open PySem.SetTable renaming Probe->xk,grown->xl,below->Dw,leap->Dx,bits->Lq,runEnd->a9z
open PySem.SetTable.below renaming go->Lm
open PySem.SetTable.probe renaming go->a9w
open PySem.Slot renaming of->TH
open PySem.Str renaming ofString->iR,join->kN,length_append->qZ,length->wK,ext'->KJ,cps_append->SO
open PySem.StrLaws renaming glued_eq_join->KL,join_length_le->a8v,joinFits->a8w
open PySem.Txt renaming join->oJ,split->pH,mul->wQ
open PySem.Value renaming ref->ft,int->mZ,none->qQ,type->wD,str->zQ,bool->CZ,builtin->Tz
open PySem.W renaming Frag->aA,nsIn->fv,boot_heap->jR,mg_of->sy,findIn->ur,mroIn->uu,kia_one->uJ,keepIn->wG,callWith_K->Ad,kitOne->Ah,SharedT->Am,fnOf->C2,codeIn->Ks,clsIn->Li,looks_mroIn->Lj,through->Lv,methodObj->R9,excIn->Tt,looks_findIn->Tx,staticsOk->TZ,namesBound->T3,gensDone->T4,laidKept->T5,topFrom->T7,view->T8,instObj->a7n,specialIn->a7w,cellsFrom_some->a7y,OpenLaw->a8h,typeIn->a9m,mg_none_of->b0q
open PySem.Walks renaming list->To
open Std.Legacy renaming Range->TY
open Sum renaming inl->wB,inr->wC
open True renaming intro->Di
noncomputable section
namespace L2
open PySem PySem.Spec PyProof.Rows
abbrev Key:=Sum Int Str
def Lx:Key->Value->Bool
 | .inl k,v=>Value.isInt k v
 | .inr x,v=>Value.isStrOf x v
def T9(w:aN):Key->Int
 | .inl k=>hashInt k
 | .inr x=>hashStr w x
theorem pR:∀{k:Key} {v:Value},Lx k v=true->(∃i t,k=wB i/\v=mZ i t)∨(∃x t,k=wC x/\v=zQ x t)
 | .inl i,v,h=>by
   obtain⟨t,e⟩:=Value.isInt_shape (k:=i) (v:=v) h
   exact .inl ⟨i,t,rfl,e⟩
 | .inr x,v,h=>by
   obtain⟨t,e⟩:=Value.isStrOf_shape (x:=x) (v:=v) h
   exact .inr ⟨x,t,rfl,e⟩
theorem T_(a b:Int):decide ((wB a:Key)=wB b)=(a==b):=by
 by_cases e:a=b
 ·subst e;simp
 ·have h:¬(wB a:Key)=wB b:=λq=>e (Sum.inl.inj q)
  rw[decide_eq_false h]
  exact(beq_eq_false_iff_ne.mpr e).symm
theorem Ua(a b:Str):decide ((wC a:Key)=wC b)=decide (a=b):=by
 by_cases e:a=b
 ·subst e;simp
 ·have h:¬(wC a:Key)=wC b:=λq=>e (Sum.inr.inj q)
  rw[decide_eq_false h,decide_eq_false e]
theorem Ub(a:Int)(b:Str):decide ((wB a:Key)=wC b)=false:=decide_eq_false (λq=>nomatch q)
theorem Uc(a:Str)(b:Int):decide ((wC a:Key)=wB b)=false:=decide_eq_false (λq=>nomatch q)
def Ly(prog:aQ)(w:aN):PySem.KeyKind prog w Key where
 is:=Lx
 hash:=T9 w
 inj:=λv a b ha hb=>by
  rcases pR ha with ⟨i,t,rfl,rfl⟩ | ⟨x,t,rfl,rfl⟩
  ·rcases pR hb with ⟨j,u,rfl,e⟩ | ⟨y,u,rfl,e⟩
   ·injection e with e1 _;rw[e1]
   ·exact nomatch e
  ·rcases pR hb with ⟨j,u,rfl,e⟩ | ⟨y,u,rfl,e⟩
   ·exact nomatch e
   ·injection e with e1 _;rw[e1]
 byValue:=λk v h=>by
  rcases pR h with ⟨i,t,rfl,rfl⟩ | ⟨x,t,rfl,rfl⟩<;>rfl
 pyHash:=λhv h=>by
  rcases pR hv with ⟨i,t,rfl,rfl⟩ | ⟨x,t,rfl,rfl⟩
  ·exact wpAny_pyHash_int h
  ·exact wpAny_pyHash_str h
 eqBool:=λhu hv h=>by
  rcases pR hu with ⟨i,t,rfl,rfl⟩ | ⟨x,t,rfl,rfl⟩
  ·rcases pR hv with ⟨j,u,rfl,rfl⟩ | ⟨y,u,rfl,rfl⟩
   ·rw[T_] at h;exact wpAny_eqBool_int h
   ·rw[Ub] at h;exact SeqAt.EqAt.int_str i t y u _ _ _ _ h
  ·rcases pR hv with ⟨j,u,rfl,rfl⟩ | ⟨y,u,rfl,rfl⟩
   ·rw[Uc] at h;exact SeqAt.EqAt.str_int x t j u _ _ _ _ h
   ·rw[Ua] at h;exact R8 h
 «strs»:=λk x t v h=>by
  rcases pR h with ⟨i,u,rfl,e⟩ | ⟨y,u,rfl,e⟩
  ·exact nomatch e
  ·injection e with e1 _
   subst e1
   cases v<;>rfl
end L2
namespace L2
open PySem PySem.Spec PyProof.Rows
inductive V where
 | cH | bl (b:Bool) | int (i:Int) | str (x:Str) | xm (b:Array UInt8) | xn (b:UInt64) | ref (a:Addr) | ty (n:String)
 deriving DecidableEq
def RelV:V->Value->Prop
 | .cH,u=>u=qQ
 | .bl b,u=>u=CZ b
 | .int i,u=>∃t,u=mZ i t
 | .str x,u=>∃t,u=zQ x t
 | .xm b,u=>∃t,u=Value.bytes b t
 | .xn b,u=>∃t,u=Value.float b t
 | .ref a,u=>u=ft a
 | .ty n,u=>u=wD n
abbrev Vals:List V->List Value->Prop:=Paired RelV
theorem Vals.length{xs:List V}{us:List Value}(r:Vals xs us):xs.length=us.length:=Paired.length r
theorem Vals.get:∀{xs:List V} {us:List Value} {i:Nat} {x:V},Vals xs us->xs[i]? = some x->∃u,us[i]? = some u/\RelV x u
 | _,_,_,_,.nil,e=>by simp at e
 | _,_,0,_,.cons r _,e=>by simp at e;subst e;exact⟨_,rfl,r⟩
 | _,_,i+1,x,.cons _ t,e=>by
   obtain⟨u,h1,h2⟩:=Vals.get (i:=i) (x:=x) t (by simpa using e)
   exact⟨u,by simpa using h1,h2⟩
theorem Vals.set{x:V}{u:Value}(r:RelV x u):∀{xs:List V} {us:List Value} (i:Nat),Vals xs us->Vals (xs.set i x) (us.set i u)
 | _,_,_,.nil=>.nil
 | _,_,0,.cons _ t=>.cons r t
 | _,_,i+1,.cons q t=>.cons q (Vals.set r i t)
theorem Vals.append:∀{xs ys:List V} {us ws:List Value},Vals xs us->Vals ys ws->Vals (xs++ys) (us++ws)
 | _,_,_,_,.nil,s=>s
 | _,_,_,_,.cons r t,s=>.cons r (Vals.append t s)
theorem Vals.take:∀{xs:List V} {us:List Value} (n:Nat),Vals xs us->Vals (xs.take n) (us.take n)
 | _,_,0,_=>.nil
 | _,_,_+1,.nil=>.nil
 | _,_,n+1,.cons r t=>.cons r (Vals.take n t)
theorem Vals.drop:∀{xs:List V} {us:List Value} (n:Nat),Vals xs us->Vals (xs.drop n) (us.drop n)
 | _,_,0,r=>r
 | _,_,_+1,.nil=>.nil
 | _,_,n+1,.cons _ t=>Vals.drop n t
def Lz:Option V->Option Value->Prop
 | some v,some u=>RelV v u
 | none,none=>True
 | _,_=>False
def KV{κ:Type}:List (κ×V)->List (κ×Value)->Prop:=Paired λ(p:κ×V) (q:κ×Value)=>p.1=q.1/\RelV p.2 q.2
def kV:Key->V
 | .inl i=>.int i
 | .inr x=>.str x
inductive HO where
 | lst (xs:List V)
 | tup (xs:List V)
 | dK (gp:List (Key×V)) | dT (gp:List (List Key×V))
 | set (S:Int->Bool) (n:Nat)
 | ins (C dx:Addr) (fs:List (Str×V))
 | own (x:Addr)
 | xd (fs:List (Str×V))
 | met (f x:Addr)
 | An (lo hi:Int)
 | gq (o:Obj) (u:HO)
 | rf (ps:Array Value)
 | ext (φ:Heap->Prop)
abbrev Hp:=Addr->Option HO
def upd(H:Hp)(a:Addr)(o:HO):Hp:=λb=>if b=a then some o else H b
theorem dc{H:Hp}{a:Addr}{o:HO}:upd H a o a=some o:=by unfold upd;rw[if_pos rfl]
theorem bD{H:Hp}{a b:Addr}{o:HO}(h:b≠a):upd H a o b=H b:=by unfold upd;rw[if_neg h]
theorem gI{H:Hp}{a b:Addr}{o:HO}(h:H a=some o)(h':H b=none):a≠b:=by
 intro e;subst e;rw[h] at h';cases h'
section
variable (P:aQ)(w:aN)
def l_(h:Heap)(a:Addr)(items:Array Value):Prop:=∃o,h.get? a=some o/\o.cls = .type "tuple"/\∃n,(o.data,o.dict)=(.seq items n,none)
theorem l_.tup{h:Heap}{a:Addr}{items:Array Value}(x:l_ h a items):sj h a items:=by
 obtain⟨o,e,c,n,d⟩:=x
 exact⟨o,e,c,n,(Prod.mk.inj d).1⟩
theorem l_.new(h:Heap)(items:Array Value):l_ (h.push { cls:=.type "tuple",data:=.seq items }) h.objs.size items:=⟨_,fu h rfl,rfl,_,rfl⟩
def iT(H:Hp)(h:Heap)(a:Addr):HO->Prop
 | .lst xs=>xs.length<=bR/\∃(its:List Value) (n:Nat),Vals xs its/\h.get? a=some { cls:=.type "list",data:=.seq its.toArray n }
 | .tup xs=>xs.length<=bR/\∃its:List Value,Vals xs its/\l_ h a its.toArray
 | .dK gp=>gp.length<=bR/\(a==sysModules)=false/\∃vs,KV gp vs/\h.DictOf (Ly P w) a vs
 | .dT gp=>gp.length<=bR/\(a==sysModules)=false/\∃xs:List (List Key×Addr×Value),
    Paired (λ(p:List Key×V) (q:List Key×Addr×Value)=>p.1=q.1/\H q.2.1=some (.tup (p.1.map kV))/\RelV p.2 q.2.2) gp xs /\
    ∃o es ep,h.get? a=some o/\o.ExactDict/\o.data = .dict es ep/\es.toList=xs.map (entryOfKey (tupleKind (Ly P w)))/\(xs.map (·.1)).Nodup
 | .set S n=>h.SetOf (intKind P w) a S n
 | .ins C dx fs=>H dx=some (.own a)/\fs.length<=1000/\dx≠a/\h.get? a=some (a7n C dx) /\
    ∃mA,h.Ns1 dx mA/\(∀f,Lz (fs.lookup f) (mA f))/\PySem.Within mA (fs.map (·.1))
 | .own _=>∃o,h.get? a=some o
 | .xd fs=>∃mA,h.Ns1 a mA/\∀f,Lz (fs.lookup f) (mA f)
 | .An lo hi=>∃t u v,h.get? a=some { cls:=.type "range",data:=.fields #[.int lo t,.int hi u,.int 1 v] }
 | .gq o u=>h.get? a=some o/\iT H h a u
 | .rf ps=>h.get? a=some { cls:=.none,data:=.fields ps }
 | .met f x=>h.get? a=some (R9 (.ref f) (.ref x))
 | .ext φ=>φ h/\(∃o,h.get? a=some o)/\∀h1 h2:Heap,φ h1->(∀o,h1.get? a=some o->h2.get? a=some o)->φ h2
def dY(H:Hp)(h:Heap):Prop:=∀a o,H a=some o->iT P w H h a o
end
section
variable {P:aQ}{w:aN}{H H':Hp}{h h':Heap}{a:Addr}{o:HO}
theorem iT.lt(x:iT P w H h a o):a<h.objs.size:=by
 cases o with
 | lst xs=>obtain⟨_,_,_,_,e⟩:=x;exact bH e
 | tup xs=>obtain⟨_,_,_,p⟩:=x;exact(l_.tup p).lt
 | dK gp=>obtain⟨_,_,_,_,o,_,_,e,_⟩:=x;exact bH e
 | dT gp=>obtain⟨_,_,_,_,o,_,_,e,_⟩:=x;exact bH e
 | set S n=>obtain⟨o,_,_,_,e,_⟩:=x;exact bH e
 | ins C dx fs=>obtain⟨_,_,_,e,_⟩:=x;exact bH e
 | own y=>obtain⟨_,e⟩:=x;exact bH e
 | xd fs=>obtain⟨_,⟨_,_,_,e,_⟩,_⟩:=x;exact bH e
 | An lo hi=>obtain⟨_,_,_,e⟩:=x;exact bH e
 | gq ob u=>obtain⟨e,_⟩:=x;exact bH e
 | rf ps=>exact bH (show h.get? a=some _ from x)
 | met f y=>exact bH (show h.get? a=some _ from x)
 | ext φ=>obtain⟨_,⟨_,e⟩,_⟩:=x;exact bH e
theorem Paired.LA{α β:Type}{F G:α->β->Prop}:∀{LB:List α} {LC:List β},Paired F LB LC->(∀a b,F a b->G a b)->Paired G LB LC
 | _,_,.nil,_=>.nil
 | _,_,.cons r t,f=>.cons (f _ _ r) (Paired.LA t f)
theorem iT.kQ(x:iT P w H h a o)(k:∀b u,(b=a∨H b=some (.own a))->h.get? b=some u->h'.get? b=some u)
 (ho:∀b,H b=some (.own a)->H' b=some (.own a)) (ht:∀b xs,H b=some (.tup xs)->H' b=some (.tup xs)):iT P w H' h' a o:=by
 induction o with
 | lst xs=>obtain⟨z,its,n,r,e⟩:=x;exact⟨z,its,n,r,k _ _ (.inl rfl) e⟩
 | tup xs=>obtain⟨z,its,r,ob,e,c⟩:=x;exact⟨z,its,r,ob,k _ _ (.inl rfl) e,c⟩
 | dK gp=>obtain⟨z,y,vs,r,ob,es,ep,e,c⟩:=x;exact⟨z,y,vs,r,ob,es,ep,k _ _ (.inl rfl) e,c⟩
 | dT gp =>
   obtain⟨z,y,xs,r,ob,es,ep,e,c⟩:=x
   exact⟨z,y,xs,Paired.LA r λp q z=>⟨z.1,ht _ _ z.2.1,z.2.2⟩,ob,es,ep,k _ _ (.inl rfl) e,c⟩
 | set S n=>obtain⟨ob,es,ep,t,e,c⟩:=x;exact⟨ob,es,ep,t,k _ _ (.inl rfl) e,c⟩
 | ins C dx fs =>
   obtain⟨d,z,ne,e,mA,⟨od,es,ep,e2,c⟩,r⟩:=x
   exact⟨ho _ d,z,ne,k _ _ (.inl rfl) e,mA,⟨od,es,ep,k _ _ (.inr d) e2,c⟩,r⟩
 | own y=>obtain⟨ob,e⟩:=x;exact⟨ob,k _ _ (.inl rfl) e⟩
 | xd fs=>obtain⟨mA,⟨od,es,ep,e,c⟩,r⟩:=x;exact⟨mA,⟨od,es,ep,k _ _ (.inl rfl) e,c⟩,r⟩
 | An lo hi=>obtain⟨t,u,v,e⟩:=x;exact⟨t,u,v,k _ _ (.inl rfl) e⟩
 | gq ob u ih=>obtain⟨e,q⟩:=x;exact⟨k _ _ (.inl rfl) e,ih q⟩
 | rf ps =>
   have e:h.get? a=some { cls:=.none,data:=.fields ps }:=x
   show h'.get? a=some { cls:=.none,data:=.fields ps }
   exact k a _ (.inl rfl) e
 | met f y =>
   have e:h.get? a=some (R9 (.ref f) (.ref y)):=x
   show h'.get? a=some (R9 (.ref f) (.ref y))
   exact k a _ (.inl rfl) e
 | ext φ=>obtain⟨p,⟨o,e⟩,st⟩:=x;exact⟨st _ _ p λo q=>k _ _ (.inl rfl) q,⟨o,k _ _ (.inl rfl) e⟩,st⟩
theorem dY.lt(x:dY P w H h)(e:H a=some o):a<h.objs.size:=(x a o e).lt
theorem dY.fresh(x:dY P w H h)(e:h.objs.size<=a):H a=none:=by
 cases q:H a with
 | none=>rfl
 | some u=>exact absurd (cW (x.lt q) e) (lT _)
theorem dY.kept(x:dY P w H h)(k:∀b u,h.get? b=some u->h'.get? b=some u):dY P w H h':=λa o e =>
 (x a o e).kQ (λb u _ q=>k b u q) (λ_ q=>q) λ_ _ q=>q
theorem dY.laid(x:dY P w H h)(k:∀b u,h.get? b=some u->h'.get? b=some u)(hp:h.objs.size<=a)(new:iT P w (upd H a o) h' a o):dY P w (upd H a o) h':=λb u e=>by
 have hn:=x.fresh hp
 by_cases hb:b=a
 ·subst hb;rw[dc] at e;cases e;exact new
 ·rw[bD hb] at e
  exact(x b u e).kQ (λc v _ q=>k c v q) (λc q=>by rw[bD (gI q hn)];exact q) λc xs q=>by rw[bD (gI q hn)];exact q
end
def Rd(H:Hp)(a:Addr)(u:HO):Prop:=H a=some u∨∃o,H a=some (.gq o u)
theorem Rd.ok{P:aQ}{w:aN}{H:Hp}{h:Heap}{a:Addr}{u:HO}(r:Rd H a u)(x:dY P w H h):iT P w H h a u:=by
 rcases r with r | ⟨o,r⟩
 ·exact x a u r
 ·obtain⟨_,q⟩:=x a _ r
  exact q
def Ao:Option HO->Prop
 | some (.lst _)=>True
 | some (.dK _)=>True
 | some (.dT _)=>True
 | some (.set _ _)=>True
 | some (.ins _ _ _)=>True
 | some (.ext _)=>True
 | _=>False
section
variable {P:aQ}{w:aN}{H:Hp}{h h':Heap}{x e:Addr}{o':HO}
theorem dY.write(ok:dY P w H h)(mu:Ao (H x))(he:e=x∨H e=some (.own x))(k:∀b u,b≠e->h.get? b=some u->h'.get? b=some u)(uK:∃u,h'.get? e=some u)
 (new:iT P w (upd H x o') h' x o'):dY P w (upd H x o') h':=λb u q=>by
 have LD:∀c y,H c=some (.own y)->c≠x:=λc y r z=>by subst z;rw[r] at mu;exact mu
 have Ud:∀c xs,H c=some (.tup xs)->c≠x:=λc xs r z=>by subst z;rw[r] at mu;exact mu
 by_cases hb:b=x
 ·subst hb;rw[dc] at q;cases q;exact new
 ·rw[bD hb] at q
  by_cases sH:b=e
  ·have q':H b=some (.own x):=by
    rcases he with z | z
    ·exact absurd (sH.trans z) hb
    ·rw[sH];exact z
   rw[q] at q';cases q'
   obtain⟨v,hv⟩:=uK
   exact⟨v,by rw[sH];exact hv⟩
  ·refine(ok b u q).kQ (λc v hc r=>k c v ?_ r) (λc r=>by rw[bD (LD c b r)];exact r) λc xs r=>by rw[bD (Ud c xs r)];exact r
   rcases hc with rfl | hc
   ·exact sH
   ·rintro rfl
    rcases he with z | z
    ·exact LD c b hc z
    ·rw[hc] at z;cases z;exact hb rfl
end
structure Un (fs ex:List Addr) (H H':Hp) (h h':Heap):Prop where
 keep:∀b o,h.get? b=some o->H b=none->b ∉ fs->b ∉ ex->h'.get? b=some o
 slot:∀b o,h.get? b=some o->H b=none->b∈fs->b ∉ ex->∃sl,h'.get? b=some { o with slots:=sl }
 free:∀b o,h.get? b=some o->H b=none->b ∉ ex->H' b=none
 there:∀b o,h.get? b=some o->b ∉ ex->∃o',h'.get? b=some o'
 kn:∀b xs,H b=some (.tup xs)->H' b=some (.tup xs)
 jS:∀b o u,H b=some (.gq o u)->H' b=some (.gq o u)
 ko:∀b ps,H b=some (.rf ps)->∃more,H' b=some (.rf (ps++more))
section
variable {fs Ue ex ex':List Addr}{H H1 H2:Hp}{h h1 h2 h':Heap}{a x e:Addr}{o:HO}
theorem Un.any(u:Un fs ex H H1 h h1){b:Addr}{ob:Obj}(q:h.get? b=some ob)(n:H b=none)(hx:b ∉ ex):∃sl,h1.get? b=some { ob with slots:=sl }:=by
 by_cases hb:b∈fs
 ·exact u.slot b ob q n hb hx
 ·exact⟨ob.slots,u.keep b ob q n hb hx⟩
theorem Un.kept(k:∀b u,h.get? b=some u->h'.get? b=some u):Un fs ex H H h h' :=
 ⟨λb ob q _ _ _=>k b ob q,λb ob q _ _ _=>⟨ob.slots,k b ob q⟩,λ_ _ _ n _=>n,λb ob q _=>⟨ob,k b ob q⟩,λ_ _ q=>q,λ_ _ _ q=>q,λ_ ps q=>⟨#[],by rw[q];simp⟩⟩
theorem Un.refl:Un fs ex H H h h:=Un.kept λ_ _ q=>q
theorem Un.laid(k:∀b u,h.get? b=some u->h'.get? b=some u)(hp:h.objs.size<=a)(hn:H a=none):Un fs ex H (upd H a o) h h' where
 keep:=λb u q _ _ _=>k b u q
 slot:=λb u q _ _ _=>⟨u.slots,k b u q⟩
 free:=λb u q n _=>by rw[bD (dS (cW (bH q) hp))];exact n
 there:=λb u q _=>⟨u,k b u q⟩
 kn:=λb xs q=>by rw[bD (gI q hn)];exact q
 jS:=λb u xs q=>by rw[bD (gI q hn)];exact q
 ko:=λb ps q=>⟨#[],by rw[bD (gI q hn),q];simp⟩
theorem Un.write(mu:Ao (H x))(he:e=x∨H e=some (.own x))(k:∀b u,b≠e->h.get? b=some u->h'.get? b=some u)(uK:∃u,h'.get? e=some u):Un fs ex H (upd H x o) h h':=by
 have hx:∀b,H b=none->b≠x:=λb n z=>by subst z;rw[n] at mu;exact mu
 have hb:∀b,H b=none->b≠e:=λb n z=>by
  subst z
  rcases he with r | r
  ·exact hx b n r
  ·rw[n] at r;cases r
 have hm:∀b u,H b=some u->¬Ao (some u)->b≠x:=λb u q nm z=>by subst z;rw[q] at mu;exact nm mu
 refine⟨λb u q n _ _=>k b u (hb b n) q,λb u q n _ _=>⟨u.slots,k b u (hb b n) q⟩,λb u q n _=>by rw[bD (hx b n)];exact n,λb u q _=>?_,
  λb xs q=>by rw[bD (hm b _ q λz=>z)];exact q,λb u xs q=>by rw[bD (hm b _ q λz=>z)];exact q,λb ps q=>⟨#[],by rw[bD (hm b _ q λz=>z),q];simp⟩⟩
 by_cases sH:b=e
 ·subst sH;exact uK
 ·exact⟨u,k b u sH q⟩
end
def Ap(h:Heap)(H:Hp):List Addr:=(eY h.objs.size).filter λa=>(H a).isSome
def jx(h:Heap)(H:Hp):Heap:=PySem.W.hideAll h (Ap h H)
theorem Ug(h:Heap)(H:Hp):(jx h H).objs.size=h.objs.size:=PySem.W.hideAll_size _ _
theorem DA{h:Heap}{H:Hp}{b:Addr}{o:Obj}(e:h.get? b=some o)(n:H b=none):(jx h H).get? b=some o :=
 PySem.W.hideAll_get _ e λhm=>by
  have q:(H b).isSome=true:=(List.mem_filter.mp hm).2
  rw[n] at q;simp at q
theorem DB{h:Heap}{H:Hp}{b:Addr}{o:Obj}(e:(jx h H).get? b=some o):h.get? b=some o/\H b=none:=by
 have e':h.get? b=some o:=PySem.W.of_hideAll (Ap h H) e
 refine⟨e',?_⟩
 cases q:H b with
 | none=>rfl
 | some x =>
   have hm:b∈Ap h H:=List.mem_filter.mpr ⟨List.mem_range.mpr (bH e'),by simp[q]⟩
   have z:(jx h H).get? b=none:=PySem.W.hideAll_none (Ap h H) hm
   rw[z] at e;cases e
def Uh(g h:Heap)(L:Addr):List (Addr×Obj):=(eY h.objs.size).filterMap λa=>if a=L∨(g.get? a).isSome=true then none else (h.get? a).map λo=>(a,o)
def rest(g h:Heap)(L d:Addr):List (Addr×Obj):=(Uh g h L).filter λp=>decide (p.1≠d)
end L2
namespace L2
open PySem PySem.Spec PyProof.Rows
structure Mod (K:aA) (mg:Str->Option Value) (base:Heap):Prop where
 pS:K.In base
 glob:base.Ns cQ mg
 blt:∃mb,base.Ns R_ mb/\∀x:Str,x≠"__name__"->mb x=lU x
 nolimit:base.NoLimit
structure Cx where
 prog:aQ
 w:aN
 K:aA
 mg:Str->Option Value
 base:Heap
 A:Around
 N:List Str
 s₀:ah
 H₀:Hp
 env:Env
 outer:List Env
 stack:List Env
 ex:List Addr
 fn:Str->Bool
 calm:Bool
 pn:List (Addr×Obj)
 xe:Value->ah->Prop
def dj(l:List Env):List Addr:=l.filterMap (·.frame)
abbrev Cx.fs (X:Cx):List Addr:=dj X.outer
def kR(sc:dA)(x:Str):Prop:=sc.names.lookup x=some .local∨sc.names.lookup x=some .cell∨sc.names.lookup x=some .free
def Loc(sc:dA)(x:Str):Prop:=sc.names.lookup x=some .local∨sc.names.lookup x=some .cell
def Look(env:Env)(h:Heap)(m:Str->Option Value)(x:Str)(u:Value):Prop :=
 (env.kindOf x=some .local/\m x=some u)∨((env.kindOf x=some .cell∨env.kindOf x=some .free)/\∃c,env.cells.lookup x=some c/\h.IsCell c (some u))
structure Cx.Ok (X:Cx):Prop where
 mod:Mod X.K X.mg X.base
 kind:X.env.scope.kind = .function
 glob:X.env.globals=cQ
 blt:X.env.builtins=R_
 above:X.s₀.heap.objs.size<=X.env.locals
 inj:∀x y c,X.env.cells.lookup x=some c->X.env.cells.lookup y=some c->x=y
 has:∀x,(X.env.kindOf x=some .cell∨X.env.kindOf x=some .free)->∃c,X.env.cells.lookup x=some c
 rg:∀x c,X.fn x=true->X.env.cells.lookup x=some c->X.s₀.heap.objs.size<=c
 hd:X.calm=true->X.A.handled=none
 frames:X.A.frames=some X.stack
 sI:X.stack=X.outer∨(X.stack=X.env::X.outer/\X.env.frame=some X.env.locals)
 xo:∀b∈X.ex,b≠X.env.locals/\∀x c,X.env.cells.lookup x=some c->c≠b
 bs:∀b o,X.base.get? b=some o->X.s₀.heap.get? b=some o/\X.H₀ b=none
 jT:X.base.objs.size<=X.s₀.heap.objs.size
 pT:∀b o,X.base.get? b=some o->b ∉ X.ex
 sJ:∀b∈X.ex,b ∉ X.fs
 jy:X.s₀.heap.FunFrames X.base X.outer
 kT:∀b∈X.fs,X.H₀ b=none
structure Inv (X:Cx) (pins:List (Addr×Obj)) (σ:List (Option V)) (H:Hp) (s:ah):Prop where
 ok:X.Ok
 os:s.os=X.s₀.os
 bare:m_ s.gens
 base:Un X.fs X.ex X.H₀ H X.s₀.heap s.heap
 loc:∃m,s.heap.Ns X.env.locals m/\∀(i:Nat) (x:Str) (v:V),X.N[i]? = some x->σ[i]? = some (some v)->kR X.env.scope x->∃u,RelV v u/\Look X.env s.heap m x u
 cell:∀x c,X.env.cells.lookup x=some c->∃v,s.heap.IsCell c v
 free:H X.env.locals=none
 jz:∀x c,X.env.cells.lookup x=some c->H c=none
 pin:∀p∈X.pn++pins,s.heap.get? p.1=some p.2/\H p.1=none/\p.1≠X.env.locals/\p.1 ∉ X.fs/\∀v,p.2.data ≠ .cell v
 aK:dY X.prog X.w H s.heap
 len:σ.length=X.N.length
section
variable {X:Cx}{pins:List (Addr×Obj)}{σ:List (Option V)}{H H':Hp}{s:ah}{h':Heap}
theorem Cx.Ok.Ui(ok:X.Ok){b:Addr}{o:Obj}(e:X.base.get? b=some o):b ∉ X.fs:=λhb=>by
 have:=(ok.jy.mem hb).1
 rw[e] at this;cases this
theorem Inv.bs(I:Inv X pins σ H s):∀b o,X.base.get? b=some o->s.heap.get? b=some o/\H b=none:=λb o e =>
 ⟨I.base.keep b o (I.ok.bs b o e).1 (I.ok.bs b o e).2 (I.ok.Ui e) (I.ok.pT b o e),I.base.free b o (I.ok.bs b o e).1 (I.ok.bs b o e).2 (I.ok.pT b o e)⟩
theorem Inv.bk(I:Inv X pins σ H s):∀b o,X.base.get? b=some o->s.heap.get? b=some o:=λb o e=>(I.bs b o e).1
theorem Inv.mod(I:Inv X pins σ H s):Mod X.K X.mg X.base:=I.ok.mod
theorem Inv.fS(I:Inv X pins σ H s):X.K.In s.heap:=I.ok.mod.pS.keeps I.bk
theorem Inv.lt(I:Inv X pins σ H s):X.env.locals<s.heap.objs.size:=let ⟨_,hn,_⟩:=I.loc;hn.lt
theorem Inv.sz(I:Inv X pins σ H s):X.s₀.heap.objs.size<=s.heap.objs.size:=dD I.ok.above (Km I.lt)
theorem Inv.Aq(I:Inv X pins σ H s){a:Addr}(h:s.heap.objs.size<=a):a ∉ X.fs:=λhb=>by
 obtain⟨_,o,ho,_⟩:=I.ok.jy.mem hb
 exact absurd (cW (bH ho) (dD I.sz h)) (lT _)
theorem Inv.nj(I:Inv X pins σ H s):∀x c,X.env.cells.lookup x=some c->c≠X.env.locals:=λx c e z=>by
 obtain⟨v,o,ho,hd⟩:=I.cell x c e
 obtain⟨m,⟨o',es,ep,dO,pU,_⟩,_⟩:=I.loc
 rw[z,dO] at ho;cases ho;rw[pU] at hd;cases hd
theorem Inv.jy(I:Inv X pins σ H s):s.heap.FunFrames X.base X.outer:=by
 have all:∀(l:List Env),(∀b∈dj l,b∈X.fs)->X.s₀.heap.FunFrames X.base l->s.heap.FunFrames X.base l:=by
  intro l
  induction l with
  | nil=>intro _ _;trivial
  | cons env r ih =>
    intro hs hl
    obtain⟨hk,⟨L,o,hf,hn,ho,hd⟩,hr⟩:=hl
    have hL:L∈X.fs:=hs L (by unfold dj;rw[C0,hf];exact fi)
    obtain⟨sl,e⟩:=I.base.slot L o ho (I.ok.kT L hL) hL λz=>I.ok.sJ L z hL
    exact⟨hk,⟨L,_,hf,hn,e,hd⟩,ih (λb hb=>hs b (by unfold dj;rw[C0,hf];exact dJ _ hb)) hr⟩
 exact all X.outer (λ_ hb=>hb) I.ok.jy
theorem Inv.stack(I:Inv X pins σ H s):s.heap.FunFrames X.base X.stack:=by
 rcases I.ok.sI with e | ⟨e,hf⟩
 ·rw[e];exact I.jy
 ·rw[e]
  obtain⟨m,hn,_⟩:=I.loc
  refine .cons (by rw[I.ok.kind];decide) hf hn ?_ I.jy
  exact wF (dD I.ok.jT I.ok.above)
theorem Inv.md(I:Inv X pins σ H s):∀b∈dj X.stack,b∈X.env.locals::X.fs:=λb hb=>by
 rcases I.ok.sI with e | ⟨e,hf⟩
 ·rw[e] at hb;exact dJ _ hb
 ·rw[e] at hb
  unfold dj at hb
  rw[C0,hf] at hb
  exact hb
theorem Inv.Ar(I:Inv X pins σ H s):∀b∈dj X.stack,H b=none:=λb hb=>by
 rcases List.mem_cons.mp (I.md b hb) with e | hb
 ·rw[e];exact I.free
 ·obtain⟨_,o,ho,_⟩:=I.ok.jy.mem hb
  exact I.base.free b o ho (I.ok.kT b hb) λz=>I.ok.sJ b z hb
theorem Inv.step{g':Array zR}{t':Nat}{d':Drawn}{ch:List Addr}(I:Inv X pins σ H s)
 (iw:∀b∈ch,(b∈X.ex∨X.s₀.heap.get? b=none)/\b≠X.env.locals/\(∀x c,X.env.cells.lookup x=some c->c≠b)/\∀p∈X.pn++pins,p.1≠b)
 (keep:∀b o,b≠X.env.locals->b ∉ X.fs->b ∉ ch->s.heap.get? b=some o->H b=none->h'.get? b=some o)
 (slot:∀b o,b≠X.env.locals->b∈X.fs->b ∉ ch->s.heap.get? b=some o->H b=none->∃sl,h'.get? b=some { o with slots:=sl }) (free:∀b o,b ∉ ch->s.heap.get? b=some o->H b=none->H' b=none)
 (there:∀b o,b ∉ ch->s.heap.get? b=some o->∃o',h'.get? b=some o')
 (kn:∀b xs,H b=some (.tup xs)->H' b=some (.tup xs)) (jS:∀b o u,H b=some (.gq o u)->H' b=some (.gq o u)) (ko:∀b ps,H b=some (.rf ps)->∃more,H' b=some (.rf (ps++more)))
 (ns:∀m,s.heap.Ns X.env.locals m->h'.Ns X.env.locals m) (aK:dY X.prog X.w H' h') (hg:m_ g') :
 Inv X pins σ H' { s with heap:=h',gens:=g',drawn:=d',toks:=t' }:=by
 have LF:∀b o,X.s₀.heap.get? b=some o->b≠X.env.locals:=λb o e=>dS (cW (bH e) I.ok.above)
 have As:∀b o,X.s₀.heap.get? b=some o->b ∉ X.ex->b ∉ ch:=λb o e hx hb=>by
  rcases(iw b hb).1 with z | z
  ·exact hx z
  ·rw[e] at z;cases z
 have cellK:∀x c,X.env.cells.lookup x=some c->∀v,s.heap.IsCell c v->h'.IsCell c v:=λx c e v ⟨o,ho,hd⟩=>by
  have xp:c ∉ ch:=λz=>(iw c z).2.2.1 x c e rfl
  by_cases hc:c∈X.fs
  ·obtain⟨sl,q⟩:=slot c o (I.nj x c e) hc xp ho (I.jz x c e)
   exact⟨_,q,hd⟩
  ·exact⟨o,keep c o (I.nj x c e) hc xp ho (I.jz x c e),hd⟩
 refine⟨I.ok,I.os,hg,⟨λb o e n hb hx=>?_,λb o e n hb hx=>?_,λb o e n hx=>?_,λb o e hx=>?_,λb xs e=>kn b xs (I.base.kn b xs e),λb o xs e=>jS b o xs (I.base.jS b o xs e),λb ps e=>?_⟩,?_,λx c e=>?_,?_,λx c e=>?_,λp hp=>?_,aK,I.len⟩
 ·exact keep b o (LF b o e) hb (As b o e hx) (I.base.keep b o e n hb hx) (I.base.free b o e n hx)
 ·obtain⟨sl,e1⟩:=I.base.slot b o e n hb hx
  obtain⟨rh,e2⟩:=slot b _ (LF b o e) hb (As b o e hx) e1 (I.base.free b o e n hx)
  exact⟨rh,e2⟩
 ·obtain⟨o',e1⟩:=I.base.there b o e hx
  exact free b o' (As b o e hx) e1 (I.base.free b o e n hx)
 ·obtain⟨o',e1⟩:=I.base.there b o e hx
  exact there b o' (As b o e hx) e1
 ·obtain⟨m1,e1⟩:=I.base.ko b ps e
  obtain⟨m2,e2⟩:=ko b _ e1
  exact⟨m1++m2,by rw[e2,Array.append_assoc]⟩
 ·obtain⟨m,hn,hl⟩:=I.loc
  refine⟨m,ns m hn,λi x v e1 e2 e3=>?_⟩
  obtain⟨u,r,l⟩:=hl i x v e1 e2 e3
  refine⟨u,r,?_⟩
  rcases l with l | ⟨k,c,e,z⟩
  ·exact .inl l
  ·exact .inr ⟨k,c,e,cellK x c e _ z⟩
 ·obtain⟨v,z⟩:=I.cell x c e
  exact⟨v,cellK x c e v z⟩
 ·obtain⟨m,⟨o,_,_,ho,_⟩,_⟩:=I.loc
  exact free _ o (λz=>(iw _ z).2.1 rfl) ho I.free
 ·obtain⟨v,o,ho,hd⟩:=I.cell x c e
  exact free c o (λz=>(iw c z).2.2.1 x c e rfl) ho (I.jz x c e)
 ·obtain⟨e,n,ne,nf,d⟩:=I.pin p hp
  have xp:p.1 ∉ ch:=λz=>(iw p.1 z).2.2.2 p hp rfl
  exact⟨keep p.1 p.2 ne nf xp e n,free p.1 p.2 xp e n,ne,nf,d⟩
theorem Inv.un{t':Nat}(I:Inv X pins σ H s)(u:Un X.fs [] H H' s.heap h')(aK:dY X.prog X.w H' h'):Inv X pins σ H' { s with heap:=h',toks:=t' }:=by
 obtain⟨m,⟨o,es,ep,ho,r⟩,_⟩:=id I.loc
 obtain⟨sl,hL⟩:=u.any ho I.free (by simp)
 exact I.step (g':=s.gens) (d':=s.drawn) (ch:=[]) (λ_ z=>nomatch z) (λb o _ hb _ e n=>u.keep b o e n hb (by simp)) (λb o _ hb _ e n=>u.slot b o e n hb (by simp)) (λb o _ e n=>u.free b o e n (by simp)) (λb o _ e=>u.there b o e (by simp)) u.kn u.jS u.ko (λm' hm=>by
  obtain⟨o',cJ,DC,dO,r'⟩:=hm
  rw[ho] at dO;cases dO
  exact⟨_,cJ,DC,hL,r'⟩) aK I.bare
theorem Inv.call{g':Array zR}{t':Nat}{d':Drawn}{ch:List Addr}(I:Inv X pins σ H s)(u:Un (dj X.stack) ch H H' s.heap h')(aK:dY X.prog X.w H' h')(hg:m_ g')
 (iw:∀b∈ch,(b∈X.ex∨X.s₀.heap.get? b=none)/\b≠X.env.locals/\(∀x c,X.env.cells.lookup x=some c->c≠b)/\∀p∈X.pn++pins,p.1≠b) :
 Inv X pins σ H' { s with heap:=h',gens:=g',drawn:=d',toks:=t' }:=by
 obtain⟨m,⟨o,es,ep,ho,r⟩,_⟩:=id I.loc
 obtain⟨sl,hL⟩:=u.any ho I.free λz=>(iw _ z).2.1 rfl
 exact I.step (ch:=ch) iw (λb o hL hb hc e n=>u.keep b o e n (λz=>(List.mem_cons.mp (I.md b z)).elim hL hb) hc) (λb o _ _ hc e n=>u.any e n hc) (λb o hc e n=>u.free b o e n hc) (λb o hc e=>u.there b o e hc) u.kn u.jS u.ko (λm' hm=>by
  obtain⟨o',cJ,DC,dO,r'⟩:=hm
  rw[ho] at dO;cases dO
  exact⟨_,cJ,DC,hL,r'⟩) aK hg
theorem Inv.turned{t':Nat}{it:Addr}(I:Inv X pins σ H s)(k:∀b o,b≠it->s.heap.get? b=some o->h'.get? b=some o)(hn:H it=none)(hL:it≠X.env.locals)
 (h1:it∈X.ex∨X.s₀.heap.objs.size<=it) (h2:∀x c,X.env.cells.lookup x=some c->c≠it) (h3:∀p∈X.pn++pins,p.1≠it):Inv X pins σ H { s with heap:=h',toks:=t' }:=by
 have rj:∀b u,H b=some u->b≠it:=λb u e z=>by rw[z,hn] at e;cases e
 refine I.step (g':=s.gens) (d':=s.drawn) (ch:=[it]) (λb hb=>?_) (λb o _ _ hc e _=>k b o (λz=>hc (by simp[z])) e) (λb o _ _ hc e _=>⟨o.slots,k b o (λz=>hc (by simp[z])) e⟩) (λ_ _ _ _ n=>n)
  (λb o hc e=>⟨o,k b o (λz=>hc (by simp[z])) e⟩) (λ_ _ e=>e) (λ_ _ _ e=>e) (λb ps e=>⟨#[],by rw[e];simp⟩) (λm hm=>?_) (λb u e=>?_) I.bare
 ·have e:b=it:=by simpa using hb
  subst e
  exact⟨h1.imp_right λz=>wF z,hL,h2,h3⟩
 ·obtain⟨o,es,ep,ho,r⟩:=hm
  exact⟨o,es,ep,k _ o (dM hL) ho,r⟩
 ·refine(I.aK b u e).kQ (λc v hc q=>k c v ?_ q) (λ_ q=>q) λ_ _ q=>q
  rcases hc with z | z
  ·rw[z];exact rj b u e
  ·exact rj c _ z
theorem Inv.tok(I:Inv X pins σ H s)(t:Nat):Inv X pins σ H { s with toks:=t }:=I.un (h':=s.heap) (t':=t) Un.refl I.aK
theorem Inv.kept{t':Nat}(I:Inv X pins σ H s)(k:∀b u,s.heap.get? b=some u->h'.get? b=some u):Inv X pins σ H { s with heap:=h',toks:=t' }:=I.un (Un.kept k) (I.aK.kept k)
theorem Inv.laid{a:Addr}{o:HO}{t':Nat}(I:Inv X pins σ H s)(k:∀b u,s.heap.get? b=some u->h'.get? b=some u)(hp:s.heap.objs.size<=a)(new:iT X.prog X.w (upd H a o) h' a o) :
 Inv X pins σ (upd H a o) { s with heap:=h',toks:=t' }:=I.un (Un.laid k hp (I.aK.fresh hp)) (I.aK.laid k hp new)
theorem Inv.write{x e:Addr}{o:HO}{t':Nat}(I:Inv X pins σ H s)(mu:Ao (H x))(he:e=x∨H e=some (.own x))(k:∀b u,b≠e->s.heap.get? b=some u->h'.get? b=some u)(uK:∃u,h'.get? e=some u)
 (new:iT X.prog X.w (upd H x o) h' x o):Inv X pins σ (upd H x o) { s with heap:=h',toks:=t' }:=I.un (Un.write mu he k uK) (I.aK.write mu he k uK new)
theorem Inv.me{rk:List (Addr×Obj)}(I:Inv X pins σ H s)(h:∀p∈rk,s.heap.get? p.1=some p.2/\H p.1=none/\p.1≠X.env.locals/\p.1 ∉ X.fs/\∀v,p.2.data ≠ .cell v):Inv X rk σ H s :=
 ⟨I.ok,I.os,I.bare,I.base,I.loc,I.cell,I.free,I.jz,λp hp=>(List.mem_append.mp hp).elim (λz=>I.pin p (iO _ z)) (h p),I.aK,I.len⟩
theorem DD{N:List Str}(hN:N.Nodup){i j:Nat}{x:Str}(a:N[i]? = some x)(b:N[j]? = some x):i=j:=by
 obtain⟨h1,e1⟩:=List.getElem?_eq_some_iff.mp a
 obtain⟨h2,e2⟩:=List.getElem?_eq_some_iff.mp b
 exact(a7o hN).mp (e1.trans e2.symm)
theorem DE{M:oB}{A:Around}{E:Value->ah->Prop}{i:Nat}{x:Str}{v:V}{u:Value}{Q:Unit->ah->Prop}(I:Inv X pins σ H s)(hN:X.N.Nodup)(hi:X.N[i]? = some x)(hx:Loc X.env.scope x)(r:RelV v u)
 (h:∀s',Inv X pins (σ.set i (some v)) H s'->(∃a,uq a s.heap s'.heap/\(a=X.env.locals∨X.env.cells.lookup x=some a))->Q () s') (hf:X.fn x=true∨X.env.scope.names.lookup x=some .local:=by first | exact .inl rfl | exact .inr rfl | assumption):au M A (storeName X.env x u) Q E s:=by
 obtain⟨m,hn,hl⟩:=id I.loc
 have DG:(X.env.scope.kind == .class||(X.env.scope.kind == .module&&X.env.locals != X.env.globals))=false:=by rw[I.ok.kind];rfl
 have Au:i<σ.length:=by rw[I.len];exact(List.getElem?_eq_some_iff.mp hi).1
 have nj:=I.nj
 have tracked:∀{a:Addr} {h':Heap},(∃o,s.heap.get? a=some o/\H a=none)->uq a s.heap h'->dY X.prog X.w H h':=λ{a h'} ha hs b ob e=>by
  obtain⟨_,_,xq⟩:=ha
  refine(I.aK b ob e).kQ (λc w' hc q=>(hs.2 c ?_).trans q) (λ_ q=>q) λ_ _ q=>q
  rintro rfl
  rcases hc with rfl | hc
  ·rw[xq] at e;cases e
  ·rw[xq] at hc;cases hc
 rcases hx with hk | hk
 ·refine wpAny_storeName_local hk hn (λh' gX hs=>?_) DG
  obtain⟨oL,_,_,Uj,_⟩:=id hn
  refine h _ ⟨I.ok,I.os,I.bare,⟨λb o e n hb hx=>?_,λb o e n hb hx=>?_,I.base.free,λb o e hx=>?_,I.base.kn,I.base.jS,I.base.ko⟩,⟨_,gX,λj y v' e1 e2 e3=>?_⟩,λy c e=>?_,I.free,I.jz,λp hp=>?_,tracked ⟨oL,Uj,I.free⟩ hs,by simpa using I.len⟩ ⟨_,hs,.inl rfl⟩
  ·exact(hs.2 b (dS (cW (bH e) I.ok.above))).trans (I.base.keep b o e n hb hx)
  ·obtain⟨sl,e1⟩:=I.base.slot b o e n hb hx
   exact⟨sl,(hs.2 b (dS (cW (bH e) I.ok.above))).trans e1⟩
  ·obtain⟨o',e1⟩:=I.base.there b o e hx
   exact⟨o',(hs.2 b (dS (cW (bH e) I.ok.above))).trans e1⟩
  ·by_cases hj:j=i
   ·subst hj
    rw[hi] at e1;cases e1
    rw[gU Au] at e2
    cases e2
    exact⟨u,r,.inl ⟨hk,by simp⟩⟩
   ·rw[eD (dM hj)] at e2
    obtain⟨u',r',q⟩:=hl j y v' e1 e2 e3
    refine⟨u',r',?_⟩
    rcases q with ⟨k,e⟩ | ⟨k,c,e,z⟩
    ·refine .inl ⟨k,?_⟩
     have:y≠x:=λe=>hj (DD hN e1 (e ▸ hi))
     simp[this,e]
    ·exact .inr ⟨k,c,e,z.sameBut hs (nj y c e)⟩
  ·obtain⟨w',z⟩:=I.cell y c e
   exact⟨w',z.sameBut hs (nj y c e)⟩
  ·obtain⟨e,n,ne,nf,d⟩:=I.pin p hp
   exact⟨(hs.2 p.1 ne).trans e,n,ne,nf,d⟩
 ·have DH:X.fn x=true:=by
   rcases hf with z | z
   ·exact z
   ·rw[z] at hk;cases hk
  obtain⟨c,hc⟩:=I.ok.has x (.inl hk)
  obtain⟨w',z⟩:=I.cell x c hc
  refine wpAny_storeName_cell I.ok.kind hk hc z (λh' oO hs=>?_)
  obtain⟨oc,LG,Uk⟩:=id z
  refine h { s with heap:=h' } ⟨I.ok,I.os,I.bare,⟨λb o e n hb hx=>?_,λb o e n hb hx=>?_,I.base.free,λb o e hx=>?_,I.base.kn,I.base.jS,I.base.ko⟩,⟨m,hn.sameBut hs (dM (nj x c hc)),λj y v' e1 e2 e3=>?_⟩,λy c' e=>?_,I.free,I.jz,λp hp=>?_,tracked ⟨oc,LG,I.jz x c hc⟩ hs,by simpa using I.len⟩ ⟨c,hs,.inr hc⟩
  ·exact(hs.2 b (dS (cW (bH e) (I.ok.rg x c DH hc)))).trans (I.base.keep b o e n hb hx)
  ·obtain⟨sl,e1⟩:=I.base.slot b o e n hb hx
   exact⟨sl,(hs.2 b (dS (cW (bH e) (I.ok.rg x c DH hc)))).trans e1⟩
  ·obtain⟨o',e1⟩:=I.base.there b o e hx
   exact⟨o',(hs.2 b (dS (cW (bH e) (I.ok.rg x c DH hc)))).trans e1⟩
  ·by_cases hj:j=i
   ·subst hj
    rw[hi] at e1;cases e1
    rw[gU Au] at e2
    cases e2
    exact⟨u,r,.inr ⟨.inl hk,c,hc,oO⟩⟩
   ·rw[eD (dM hj)] at e2
    obtain⟨u',r',q⟩:=hl j y v' e1 e2 e3
    refine⟨u',r',?_⟩
    rcases q with q | ⟨k,c',e,z'⟩
    ·exact .inl q
    ·refine .inr ⟨k,c',e,z'.sameBut hs ?_⟩
     rintro rfl
     exact hj (DD hN e1 (I.ok.inj _ _ _ e hc ▸ hi))
  ·by_cases uL:c'=c
   ·subst uL;exact⟨_,oO⟩
   ·obtain⟨w2,z2⟩:=I.cell y c' e
    exact⟨w2,z2.sameBut hs uL⟩
  ·obtain⟨e,n,ne,nf,d⟩:=I.pin p hp
   refine⟨(hs.2 p.1 ?_).trans e,n,ne,nf,d⟩
   intro q
   rw[q,LG] at e
   have q':oc=p.2:=kK e
   exact d w' (by rw[<-q'];exact Uk)
theorem uM{M:oB}{A:Around}{E:Value->ah->Prop}{i:Nat}{x:Str}{v:V}{u:Value}{Q:Unit->ah->Prop}(I:Inv X pins σ H s)(hN:X.N.Nodup)(hi:X.N[i]? = some x)(hx:Loc X.env.scope x)(r:RelV v u)
 (h:∀s',Inv X pins (σ.set i (some v)) H s'->Q () s') (hf:X.fn x=true∨X.env.scope.names.lookup x=some .local:=by first | exact .inl rfl | exact .inr rfl | assumption):au M A (storeName X.env x u) Q E s :=
 DE I hN hi hx r (λs' I' _=>h s' I') hf
theorem Inv.DI{s':ah}{ch:List Addr}(I:Inv X pins σ H s)(ho:s'.os=s.os)(u:Un (dj X.stack) ch H H' s.heap s'.heap)(aK:dY X.prog X.w H' s'.heap)(hg:m_ s'.gens)
 (iw:∀b∈ch,(b∈X.ex∨X.s₀.heap.get? b=none)/\b≠X.env.locals/\(∀x c,X.env.cells.lookup x=some c->c≠b)/\∀p∈X.pn++pins,p.1≠b):Inv X pins σ H' s':=by
 obtain⟨h',g',d',t',o'⟩:=s'
 have e:o'=s.os:=ho
 subst e
 exact I.call (g':=g') (t':=t') (d':=d') u aK hg iw
end
abbrev XK:=Value->Option Addr->Hp->Prop
abbrev St:=List (Option V)
abbrev VK:=V->Hp->Prop
abbrev TE:=St->Hp->VK->Prop
abbrev TT:=St->Hp->(Bool->Hp->Prop)->Prop
abbrev TA:=St->Hp->(List V->Hp->Prop)->Prop
structure Ends where
 nx:St->Hp->Prop
 rt:VK
 bk:St->Hp->Prop:=λ_ _=>False
 ct:St->Hp->Prop:=λ_ _=>False
abbrev TS:=Ends->St->Hp->Prop
def EP(X:Cx)(pins:List (Addr×Obj))(σ:St)(Q:VK)(u:Value)(s':ah):Prop:=∃v H',Inv X pins σ H' s'/\RelV v u/\Q v H'
def TP(X:Cx)(pins:List (Addr×Obj))(σ:St)(Q:Bool->Hp->Prop)(b:Bool)(s':ah):Prop:=∃H',Inv X pins σ H' s'/\Q b H'
def AP(X:Cx)(pins:List (Addr×Obj))(σ:St)(Q:List V->Hp->Prop)(us:List Value)(s':ah):Prop:=∃vs H',Inv X pins σ H' s'/\Vals vs us/\Q vs H'
def SP(X:Cx)(pins:List (Addr×Obj))(D:Ends)(f:Flow)(s':ah):Prop :=
 match f with
 | .next=>∃aE H',Inv X pins aE H' s'/\D.nx aE H'
 | .brk=>∃aE H',Inv X pins aE H' s'/\D.bk aE H'
 | .cont=>∃aE H',Inv X pins aE H' s'/\D.ct aE H'
 | .ret u=>∃v aE H',Inv X pins aE H' s'/\RelV v u/\D.rt v H'
def PE(X:Cx)(e:Expr)(t:TE):Prop :=
 ∀(pins:List (Addr×Obj)) (s:ah) (σ:St) (H:Hp) (Q:VK),Inv X pins σ H s->t σ H Q->au (aB X.prog X.w) X.A (eval e X.env) (EP X pins σ Q) X.xe s
def PT(X:Cx)(e:Expr)(t:TT):Prop :=
 ∀(pins:List (Addr×Obj)) (s:ah) (σ:St) (H:Hp) (Q:Bool->Hp->Prop),Inv X pins σ H s->t σ H Q->au (aB X.prog X.w) X.A (oE e X.env (eval e X.env)) (TP X pins σ Q) X.xe s
def PW(X:Cx)(e:Expr)(t:TT):Prop :=
 ∀(whole:Sem Value) (pins:List (Addr×Obj)) (s:ah) (σ:St) (H:Hp) (Q:Bool->Hp->Prop),Inv X pins σ H s->t σ H Q->au (aB X.prog X.w) X.A (oE e X.env whole) (TP X pins σ Q) X.xe s
def Ul(X:Cx)(st:List Stmt)(t:TS):Prop :=
 ∀(pins:List (Addr×Obj)) (s:ah) (σ:St) (H:Hp) (D:Ends),Inv X pins σ H s->t D σ H->au (aB X.prog X.w) X.A (sm st X.env) (SP X pins D) X.xe s
theorem fE{α:Type}{t:Sem α}{Q Q':α->ah->Prop}{M:oB}{A:Around}{E:Value->ah->Prop}{s:ah}(h:au M A t Q E s)(hQ:∀a s,Q a s->Q' a s):au M A t Q' E s:=av h hQ λ_ _ x=>x
end L2
namespace L2
open PySem PySem.Spec PyProof.Rows
section
variable {X:Cx}
def LH(i:Nat):TE:=λσ H Q=>∃v,σ[i]? = some (some v)/\Q v H
def tC(v:V):TE:=λ_ H Q=>Q v H
theorem pV{i:Nat}{x:Str}{pos:Pos}(hN:X.N[i]? = some x)(hv:kR X.env.scope x)(hd:(x==("__debug__":Str))=false:=by decide)(dE:(x==("__classdict__":Str))=false:=by decide):PE X (.Name x pos) (LH i):=by
 intro pins s σ H Q I h
 obtain⟨v,e,h⟩:=h
 obtain⟨m,hn,hl⟩:=I.loc
 obtain⟨u,r,l⟩:=hl i x v hN e hv
 have fin:EP X pins σ Q u s:=⟨v,H,I,r,h⟩
 rcases l with ⟨hk,hm⟩ | ⟨hk,c,hc,LI⟩
 ·exact Sa (wpAny_loadName_local I.ok.kind hk hn hm fin) hd
 ·rcases hk with hk | hk
  ·exact Sa (wpAny_loadName_cell I.ok.kind hk hc LI fin) hd
  ·exact Sa (wpAny_loadName_free I.ok.kind hk hc LI fin dE) hd
theorem Um{i j pos}:PE X (.Constant (.int i) j pos) (tC (.int i)):=λ_ _ _ H _ I h=>wpAny_Constant_int ⟨.int i,H,I.tok _,⟨_,rfl⟩,h⟩
theorem Uo{b j pos}:PE X (.Constant (.bool b) j pos) (tC (.bl b)):=λ_ _ _ H _ I h=>Constant_bool ⟨.bl b,H,I,rfl,h⟩
theorem Up{x j pos}:PE X (.Constant (.str x) j pos) (tC (.str x)):=λ_ _ _ H _ I h=>Sb ⟨.str x,H,I.tok _,⟨_,rfl⟩,h⟩
def Gl(X:Cx)(x:Str):Prop:=X.env.kindOf x=some .globalImplicit
theorem oP{E:Value->ah->Prop}{pins:List (Addr×Obj)}{s:ah}{σ:St}{H:Hp}{x:Str}{u:Value}{pos:Pos}{Q:Value->ah->Prop}(I:Inv X pins σ H s)(hg:Gl X x)(hm:X.mg x=some u)(h:Q u s)
 (hd:(x==("__debug__":Str))=false:=by decide):au (aB X.prog X.w) X.A (eval (.Name x pos) X.env) Q E s :=
 a7p I.ok.kind hg (Calls.loadGlobal_global (by rw[I.ok.glob];exact I.mod.glob.keeps I.bk) hm h) hd
theorem iA{E:Value->ah->Prop}{pins:List (Addr×Obj)}{s:ah}{σ:St}{H:Hp}{x:Str}{u:Value}{pos:Pos}{Q:Value->ah->Prop}(I:Inv X pins σ H s)(hg:Gl X x)(hm:X.mg x=none)(hv:lU x=some u)(h:Q u s)
 (hn:x≠"__name__":=by decide) (hd:(x==("__debug__":Str))=false:=by decide):au (aB X.prog X.w) X.A (eval (.Name x pos) X.env) Q E s:=by
 obtain⟨mb,h1,h2⟩:=I.mod.blt
 exact a7p I.ok.kind hg (Calls.loadGlobal_builtin (by rw[I.ok.glob];exact I.mod.glob.keeps I.bk) hm (by rw[I.ok.blt];exact h1.keeps I.bk) ((h2 x hn).trans hv) h) hd
theorem Uq{x:Str}{v:V}{u:Value}{pos:Pos}(hg:Gl X x)(hm:X.mg x=some u)(r:RelV v u)(hd:(x==("__debug__":Str))=false:=by decide):PE X (.Name x pos) (tC v) :=
 λ_ _ _ H _ I h=>oP I hg hm ⟨v,H,I,r,h⟩ hd
variable {a b:Expr}{ta tb:TE}{pos:Pos}
variable {tA tB':TT}{rest:List Expr}
end
end L2
namespace L2
open PySem PySem.Spec PyProof.Rows
def b9(K:aA)(H:Hp)(a:Addr)(xs:List V):Prop :=
 Rd H a (.lst xs) ∨
  ∃(o:Obj) (its:Array Value) (n:Nat),K.lookup a=some o/\o.cls = .type "list"/\o.dict=none/\o.data = .seq its n/\its.size<=bR/\Vals xs its.toList
def cy(K:aA)(H:Hp)(a:Addr)(xs:List V):Prop :=
 Rd H a (.tup xs) ∨
  ∃(o:Obj) (its:Array Value) (n:Nat),K.lookup a=some o/\o.cls = .type "tuple"/\(o.data,o.dict)=(.seq its n,none)/\its.size<=bR/\Vals xs its.toList
def Ur:Value->Option V
 | .none=>some .cH
 | .bool b=>some (.bl b)
 | .int i _=>some (.int i)
 | .str x _=>some (.str x)
 | .bytes b _=>some (.xm b)
 | .float b _=>some (.xn b)
 | .ref a=>some (.ref a)
 | .type n=>some (.ty n)
 | _=>none
theorem RelV.abs{x:V}{u:Value}(r:RelV x u):Ur u=some x:=by
 cases x with
 | cH=>cases r;rfl
 | bl _=>cases r;rfl
 | int _=>obtain⟨t,rfl⟩:=r;rfl
 | str _=>obtain⟨t,rfl⟩:=r;rfl
 | xm _=>obtain⟨t,rfl⟩:=r;rfl
 | xn _=>obtain⟨t,rfl⟩:=r;rfl
 | ref _=>cases r;rfl
 | ty _=>cases r;rfl
theorem RelV.inj{x y:V}{u:Value}(r:RelV x u)(q:RelV y u):x=y:=kK (r.abs.symm.trans q.abs)
theorem Vals.inj:∀{xs ys:List V} {us:List Value},Vals xs us->Vals ys us->xs=ys
 | _,_,_,.nil,.nil=>rfl
 | _,_,_,.cons r t,.cons r' t'=>by rw[r.inj r',Vals.inj t t']
section
variable {X:Cx}{pins:List (Addr×Obj)}{σ:St}{H:Hp}{s:ah}{a:Addr}{xs ys:List V}
theorem b9.of{K:aA}(h:H a=some (.lst xs)):b9 K H a xs:=.inl (.inl h)
theorem cy.of{K:aA}(h:H a=some (.tup xs)):cy K H a xs:=.inl (.inl h)
theorem Inv.list(I:Inv X pins σ H s)(h:b9 X.K H a xs):∃its:List Value,Vals xs its/\PlainL s.heap a its.toArray/\xs.length<=bR:=by
 rcases h with h | ⟨o,its,n,hk,hc,hd,hs,hz,r⟩
 ·obtain⟨z,its,n,r,e⟩:=h.ok I.aK
  exact⟨its,r,⟨_,n,e,rfl,rfl,rfl⟩,z⟩
 ·refine⟨its.toList,r,⟨o,n,I.fS a o hk,hc,hd,by simpa using hs⟩,?_⟩
  have e:=r.length
  simp only[qR] at e
  lia
theorem Inv.LJ(I:Inv X pins σ H s)(h:cy X.K H a xs):∃its:List Value,Vals xs its/\l_ s.heap a its.toArray/\xs.length<=bR:=by
 rcases h with h | ⟨o,its,n,hk,hc,hs,hz,r⟩
 ·obtain⟨z,its,r,p⟩:=h.ok I.aK
  exact⟨its,r,p,z⟩
 ·refine⟨its.toList,r,⟨o,I.fS a o hk,hc,n,by simpa using hs⟩,?_⟩
  have e:=r.length
  simp only[qR] at e
  lia
theorem Inv.tuple(I:Inv X pins σ H s)(h:cy X.K H a xs):∃its:List Value,Vals xs its/\sj s.heap a its.toArray/\xs.length<=bR:=by
 obtain⟨its,r,p,z⟩:=I.LJ h
 exact⟨its,r,p.tup,z⟩
theorem Inv.LK(I:Inv X pins σ H s)(h:b9 X.K H a xs)(h':b9 X.K H a ys):xs=ys:=by
 obtain⟨its,r,⟨o,n,e,_,_,d⟩,_⟩:=I.list h
 obtain⟨its',r',⟨o',n',e',_,_,d'⟩,_⟩:=I.list h'
 rw[e] at e';cases e'
 rw[d] at d'
 injection d' with d1 _
 have:its=its':=by simpa using congrArg Array.toList d1
 subst this
 exact r.inj r'
theorem Inv.LL(I:Inv X pins σ H s)(h:cy X.K H a xs)(h':cy X.K H a ys):xs=ys:=by
 obtain⟨its,r,⟨o,e,_,n,d⟩,_⟩:=I.tuple h
 obtain⟨its',r',⟨o',e',_,n',d'⟩,_⟩:=I.tuple h'
 rw[e] at e';cases e'
 rw[d] at d'
 injection d' with d1 _
 have:its=its':=by simpa using congrArg Array.toList d1
 subst this
 exact r.inj r'
end
abbrev Cx.dm (X:Cx) (E:Value->ah->Prop):Cx:={ X with xe:=E }
abbrev Cx.bT (X:Cx):Cx:=X.dm λ_ _=>False
theorem Cx.Ok.dm{X:Cx}(ok:X.Ok)(E:Value->ah->Prop):(X.dm E).Ok :=
 ⟨ok.mod,ok.kind,ok.glob,ok.blt,ok.above,ok.inj,ok.has,ok.rg,ok.hd,ok.frames,ok.sI,ok.xo,ok.bs,ok.jT,ok.pT,ok.sJ,ok.jy,ok.kT⟩
theorem Cx.Ok.eQ{X:Cx}{E:Value->ah->Prop}(ok:(X.dm E).Ok):X.Ok :=
 ⟨ok.mod,ok.kind,ok.glob,ok.blt,ok.above,ok.inj,ok.has,ok.rg,ok.hd,ok.frames,ok.sI,ok.xo,ok.bs,ok.jT,ok.pT,ok.sJ,ok.jy,ok.kT⟩
section
variable {X:Cx}{pins:List (Addr×Obj)}{σ:St}{H:Hp}{s:ah}{E:Value->ah->Prop}
theorem Inv.dm(I:Inv X pins σ H s)(E:Value->ah->Prop):Inv (X.dm E) pins σ H s:=⟨I.ok.dm E,I.os,I.bare,I.base,I.loc,I.cell,I.free,I.jz,I.pin,I.aK,I.len⟩
theorem Inv.eQ(I:Inv (X.dm E) pins σ H s):Inv X pins σ H s:=⟨I.ok.eQ,I.os,I.bare,I.base,I.loc,I.cell,I.free,I.jz,I.pin,I.aK,I.len⟩
end
section
variable {X:Cx}{st:Stmt}{rest:List Stmt}{t u:TS}{e:Expr}{te:TE}{pos:Pos}
theorem Inv.quiet{pins:List (Addr×Obj)}{σ:St}{H:Hp}{s:ah}(I:Inv X pins σ H s):interactive X.env=false:=by simp[interactive,I.ok.kind]
end
abbrev TG:=V->St->Hp->(St->Hp->Prop)->Prop
abbrev sL:=List V->St->Hp->(St->Hp->Prop)->Prop
def PG(X:Cx)(target:Expr)(t:TG):Prop :=
 ∀(pins:List (Addr×Obj)) (s:ah) (σ:St) (H:Hp) (v:V) (u:Value) (Q:St->Hp->Prop),Inv X pins σ H s->RelV v u->t v σ H Q ->
  au (aB X.prog X.w) X.A (lX target X.env u) (λ_ s'=>∃aE H',Inv X pins aE H' s'/\Q aE H') X.xe s
def Av(X:Cx)(ts:List Expr)(t:sL):Prop :=
 ∀(pins:List (Addr×Obj)) (s:ah) (σ:St) (H:Hp) (vs:List V) (us:List Value) (Q:St->Hp->Prop),Inv X pins σ H s->Vals vs us->t vs σ H Q ->
  au (aB X.prog X.w) X.A (assignInOrder ((zS ts X.env).map (·.2)) us) (λ_ s'=>∃aE H',Inv X pins aE H' s'/\Q aE H') X.xe s
abbrev Us:=V->V->V->Hp->(Hp->Prop)->Prop
def Ut(X:Cx)(t:Us):Prop :=
 ∀(pins:List (Addr×Obj)) (s:ah) (σ:St) (H:Hp) (o i v:V) (ov iv u:Value) (Q:Hp->Prop),Inv X pins σ H s->RelV o ov->RelV i iv->RelV v u->t o i v H Q ->
  au (aB X.prog X.w) X.A (setItem ov iv u) (λ_ s'=>∃H',Inv X pins σ H' s'/\Q H') X.xe s
section
variable {X:Cx}{pos:Pos}
def sM(i:Nat):TG:=λv σ H Q=>Q (σ.set i (some v)) H
theorem uN{i:Nat}{x:Str}(hN:X.N.Nodup)(hi:X.N[i]? = some x)(hx:Loc X.env.scope x)(hf:X.fn x=true∨X.env.scope.names.lookup x=some .local:=by first | exact .inl rfl | exact .inr rfl | assumption):PG X (.Name x pos) (sM i):=by
 intro pins s σ H v u Q I r h
 exact Sd (uM I hN hi hx r (λs' I'=>⟨_,H,I',h⟩) hf)
def ak:sL:=λvs σ H Q=>vs=[]/\Q σ H
def ae(t:TG)(u:sL):sL:=λvs σ H Q=>∃v r,vs=v::r/\t v σ H λaE H'=>u r aE H' Q
theorem Uu:Av X [] ak:=by
 intro pins s σ H vs us Q I r h
 obtain⟨e,h⟩:=h
 subst e
 cases r
 exact assignInOrder_nil ⟨σ,H,I,h⟩
theorem LM{e:Expr}{es:List Expr}{t:TG}{u:sL}(h1:PG X e t)(h2:Av X es u)
 (hs:(zS (e::es) X.env).map (·.2)=lX e X.env::(zS es X.env).map (·.2):=by rfl):Av X (e::es) (ae t u):=by
 intro pins s σ H vs us Q I r h
 obtain⟨v,vr,e1,h⟩:=h
 subst e1
 cases r with
 | cons r rr =>
   rw[hs]
   refine assignInOrder_cons (fE (h1 pins s σ H _ _ _ I r h) λ_ s1 ⟨kU,H1,I1,q1⟩=>?_)
   exact h2 pins s1 kU H1 _ _ Q I1 rr q1
def fT(K:aA)(n:Nat)(t:sL):TG:=λv σ H Q=>∃a xs,v = .ref a/\cy K H a xs/\xs.length=n/\t xs σ H Q
theorem Uv{es:List Expr}{k:Nat}{t:sL}{n:Nat}(hc:X.calm=true)(h:Av X es t)
 (hn:(zS es X.env).length=n:=by rfl) (oQ:(zS es X.env).findIdx? (·.1)=none:=by rfl):PG X (.Tuple es k pos) (fT X.K n t):=by
 intro pins s σ H v u Q I r hw
 obtain⟨a,xs,e1,hq,hl,hw⟩:=hw
 subst e1
 cases r
 obtain⟨its,rv,ht,hz⟩:=I.tuple hq
 refine assign_Tuple_tuple (I.ok.hd hc) ht (by simp[hn,<-hl,rv.length]) oQ λh' hx=>?_
 have I1:Inv X pins σ H { s with heap:=h' }:=I.kept (t':=s.toks) λb o e=>hx b o (dS (bH e)) e
 exact h pins _ σ H xs _ Q I1 (by simpa using rv) hw
end
section
variable {X:Cx}{pos:Pos}
end
structure It where
 go:Nat->Hp->Prop
 Aw:Nat->Hp->V->Hp->Prop
 stop:Nat->Hp->Prop
def fx(X:Cx)(pins:List (Addr×Obj))(H:Hp)(b:Addr):Prop :=
 H b=none/\b≠X.env.locals/\b ∉ X.fs/\(b∈X.ex∨X.s₀.heap.objs.size<=b)/\(∀x c,X.env.cells.lookup x=some c->c≠b)/\∀p∈X.pn++pins,p.1≠b
theorem Inv.sN{X:Cx}{pins:List (Addr×Obj)}{σ:St}{H H':Hp}{s:ah}{b:Addr}(I:Inv X pins σ H s)(hb:s.heap.objs.size<=b)(hn:H' b=none):fx X pins H' b:=by
 refine⟨hn,nc (cW I.lt hb),I.Aq hb,.inr (dD I.sz hb),λx c e z=>?_,λp hp z=>?_⟩
 ·obtain⟨v,q⟩:=I.cell x c e
  exact absurd (cW q.lt (by rw[z];exact hb)) (lT _)
 ·exact absurd (cW (bH (I.pin p hp).1) (by rw[z];exact hb)) (lT _)
structure Turn (P:aQ) (w:aN) (K:aA) (tg:Expr) (J:It) (fp:List Addr) (it:Addr) (tn:Nat->Heap->Prop):Prop where
 mem:it∈fp
 obj:∀i h,tn i h->∀b∈fp,∃o,h.get? b=some o/\∀v,o.data ≠ .cell v
 keep:∀i h h',tn i h->(∀b∈fp,∀o,h.get? b=some o->h'.get? b=some o)->tn i h'
 item:∀(X:Cx),X.prog=P->X.w=w->X.K=K->X.calm=true->∀(i:Nat) (pins:List (Addr×Obj)) (s:ah) (σ:St) (H:Hp) (E:Value->ah->Prop),Inv X pins σ H s->(∀b∈fp,fx X pins H b)->tn i s.heap->J.go i H ->
  au (aB P w) X.A (sq (.ref it)) (λr s1=>∃u,r=some u /\
   au (aB P w) X.A (Kn tg (.ref it) u) (λ_ s2=>∃x H',Inv X pins σ H' s2/\RelV x u/\J.Aw i H x H'/\tn (i+1) s2.heap/\∀b∈fp,H' b=none) E s1) E s
 done:∀(X:Cx),X.prog=P->X.w=w->X.K=K->X.calm=true->∀(i:Nat) (pins:List (Addr×Obj)) (s:ah) (σ:St) (H:Hp) (E:Value->ah->Prop),Inv X pins σ H s->(∀b∈fp,fx X pins H b)->tn i s.heap->J.stop i H ->
  au (aB P w) X.A (sq (.ref it)) (λr s1=>r=none/\Inv X pins σ H s1) E s
 self:∀(A:Around) (i:Nat) (s:ah) (Q:Value->ah->Prop) (E:Value->ah->Prop),tn i s.heap->Q (.ref it) s->au (aB P w) A (qS (.ref it)) Q E s
abbrev TI:=St->Hp->(It->Hp->Prop)->Prop
def DJ(X:Cx)(pins:List (Addr×Obj))(σ:St)(tg:Expr)(R:It->Hp->Prop)(kW:Value)(s2:ah):Prop :=
 ∃(it:Addr) (fp:List Addr) (tn:Nat->Heap->Prop) (J:It) (H':Hp),kW = .ref it/\Inv X pins σ H' s2/\Turn X.prog X.w X.K tg J fp it tn/\tn 0 s2.heap/\(∀b∈fp,fx X pins H' b)/\R J H'
def PI(X:Cx)(tg iter:Expr)(wi:TI):Prop :=
 ∀(pins:List (Addr×Obj)) (s:ah) (σ:St) (H:Hp) (R:It->Hp->Prop),Inv X pins σ H s->wi σ H R ->
  au (aB X.prog X.w) X.A (eval iter X.env) (λv s1=>au (aB X.prog X.w) X.A (qS v) (DJ X pins σ tg R) X.xe s1) X.xe s
theorem uO{M:oB}{A:Around}{E:Value->ah->Prop}{s:ah}{tg:Expr}{it:Addr}{u:Value}{o:Obj}{n:String}{vs:Array Value}{Q:Unit->ah->Prop}(ho:s.heap.get? it=some o)(hc:o.cls = .type n)(hd:o.data = .fields vs)
 (hn:["enumerate","zip","dict_itemiterator","dict_reverseitemiterator","odict_iterator","itertools.zip_longest","itertools.pairwise"].contains n=false) (hQ:Q () s):au M A (Kn tg (.ref it) u) Q E s:=by
 unfold Kn
 cases tg<;>first
  | exact bS hQ
  | (cases u<;>first
      | exact bS hQ
      | (refine aH (wpAny_load ho ?_)
         rw[hc,hd]
         show au M A (if (["enumerate","zip","dict_itemiterator","dict_reverseitemiterator","odict_iterator","itertools.zip_longest","itertools.pairwise"].contains n&&vs[0]? == some (kL _))=true then _ else _) Q E s
         rw[if_neg (by intro h;rw[hn,Bool.false_and] at h;cases h)]
         exact bS hQ))
def Ax(K:aA)(a:Addr):It :=
 ⟨λi H=>∃xs x,b9 K H a xs/\xs[i]? = some x,λi H x H'=>H'=H/\∀xs,b9 K H a xs->xs[i]? = some x,λi H=>∃xs,b9 K H a xs/\xs.length<=i⟩
def DK(K:aA)(a:Addr):It :=
 ⟨λi H=>∃xs x,cy K H a xs/\xs[i]? = some x,λi H x H'=>H'=H/\∀xs,cy K H a xs->xs[i]? = some x,λi H=>∃xs,cy K H a xs/\xs.length<=i⟩
def sO(lo:Int)(n:Nat):It:=⟨λi _=>i<n,λi H x H'=>H'=H/\x = .int (lo+i),λi _=>n<=i⟩
theorem Uw{P:aQ}{w:aN}{K:aA}{tg:Expr}(a it:Addr):Turn P w K tg (Ax K a) [it] it (λi h=>h.IsListIter it a i) where
 mem:=by simp
 obj:=λi h st b hb=>by
  have e:b=it:=by simpa using hb
  subst e
  obtain⟨o,e,c,d⟩:=st
  exact⟨o,e,λv z=>by rw[d] at z;cases z⟩
 keep:=λi h h' st k=>st.at λo e=>k it (by simp) o e
 item:=by
  intro X hP hw hK hc i pins s σ H E I hf st hg
  subst hP hw hK
  obtain⟨xs,x,hq,hx⟩:=hg
  obtain⟨its,rv,p,hz⟩:=I.list hq
  obtain⟨u,hu,ru⟩:=rv.get hx
  obtain⟨f0,f1,f2,f3,f4,f5⟩:=hf it (by simp)
  refine wpAny_pyNext_list_item st p.isList (x:=u) (by simpa using hu) λh' ib sb=>?_
  have I1:Inv X pins σ H { s with heap:=h' }:=I.turned (t':=s.toks) (λb o hb e=>(sb.2 b hb).trans e) f0 f1 f3 f4 f5
  obtain⟨o,e,c,d⟩:=id ib
  exact⟨u,rfl,uO (s:={ s with heap:=h' }) e c d (by decide) ⟨x,H,I1,ru,⟨rfl,λys hy=>by rw[I.LK hy hq];exact hx⟩,ib,λb hb=>(hf b hb).1⟩⟩
 done:=by
  intro X hP hw hK hc i pins s σ H E I hf st hg
  subst hP hw hK
  obtain⟨xs,hq,hx⟩:=hg
  obtain⟨its,rv,p,hz⟩:=I.list hq
  obtain⟨f0,f1,f2,f3,f4,f5⟩:=hf it (by simp)
  have hl:=rv.length
  exact wpAny_pyNext_list_end (I.ok.hd hc) st p.isList (by simp;lia) λh' eb=>⟨rfl,I.turned (t':=s.toks) (λb o hb e=>eb b o hb e) f0 f1 f3 f4 f5⟩
 self:=λ_ _ _ _ _ st h=>wpAny_pyIter_listiter st h
theorem Ux{P:aQ}{w:aN}{K:aA}{tg:Expr}(a it:Addr):Turn P w K tg (DK K a) [it] it (λi h=>h.IsTupleIter it a i) where
 mem:=by simp
 obj:=λi h st b hb=>by
  have e:b=it:=by simpa using hb
  subst e
  obtain⟨o,e,c,d⟩:=st
  exact⟨o,e,λv z=>by rw[d] at z;cases z⟩
 keep:=λi h h' st k=>st.at λo e=>k it (by simp) o e
 item:=by
  intro X hP hw hK hc i pins s σ H E I hf st hg
  subst hP hw hK
  obtain⟨xs,x,hq,hx⟩:=hg
  obtain⟨its,rv,p,hz⟩:=I.tuple hq
  obtain⟨u,hu,ru⟩:=rv.get hx
  obtain⟨f0,f1,f2,f3,f4,f5⟩:=hf it (by simp)
  refine wpAny_pyNext_tuple_item st (show s.heap.IsTuple a its.toArray from p) (x:=u) (by simpa using hu) λh' ib sb=>?_
  have I1:Inv X pins σ H { s with heap:=h' }:=I.turned (t':=s.toks) (λb o hb e=>(sb.2 b hb).trans e) f0 f1 f3 f4 f5
  obtain⟨o,e,c,d⟩:=id ib
  exact⟨u,rfl,uO (s:={ s with heap:=h' }) e c d (by decide) ⟨x,H,I1,ru,⟨rfl,λys hy=>by rw[I.LL hy hq];exact hx⟩,ib,λb hb=>(hf b hb).1⟩⟩
 done:=by
  intro X hP hw hK hc i pins s σ H E I hf st hg
  subst hP hw hK
  obtain⟨xs,hq,hx⟩:=hg
  obtain⟨its,rv,p,hz⟩:=I.tuple hq
  obtain⟨f0,f1,f2,f3,f4,f5⟩:=hf it (by simp)
  have hl:=rv.length
  exact wpAny_pyNext_tuple_end (I.ok.hd hc) st (show s.heap.IsTuple a its.toArray from p) (by simp;lia) λh' eb=>⟨rfl,I.turned (t':=s.toks) (λb o hb e=>eb b o hb e) f0 f1 f3 f4 f5⟩
 self:=λ_ _ _ _ _ st h=>wpAny_pyIter_tupleiter st h
theorem Uy{P:aQ}{w:aN}{K:aA}{tg:Expr}(it:Addr)(lo:Int)(n:Nat):Turn P w K tg (sO lo n) [it] it (λi h=>Ko h it (lo+(i:Nat)*1) ((n:Int)-(i:Nat)) 1) where
 mem:=by simp
 obj:=λi h st b hb=>by
  have e:b=it:=by simpa using hb
  subst e
  exact⟨_,st,λv z=>by
   have z':Se _=Sf v:=z
   cases z'⟩
 keep:=λi h h' st k=>k it (by simp) _ st
 item:=by
  intro X hP hw hK hc i pins s σ H E I hf st hg
  subst hP hw hK
  obtain⟨f0,f1,f2,f3,f4,f5⟩:=hf it (by simp)
  have W:=Walks.range (prog:=X.prog) (w:=X.w) (I.ok.hd hc) it lo 1 n
  refine W.item i s _ _ hg st λv h' tk hv ib kk=>?_
  obtain⟨t,rfl⟩:=hv
  have I1:Inv X pins σ H { s with heap:=h',toks:=tk }:=I.turned (λb o hb e=>kk b o (by simpa using hb) e) f0 f1 f3 f4 f5
  refine⟨_,rfl,uO (s:={ s with heap:=h',toks:=tk }) (n:="range_iterator") ib rfl rfl (by decide) ⟨.int (lo+i),H,I1,⟨t,?_⟩,⟨rfl,rfl⟩,ib,λb hb=>(hf b hb).1⟩⟩
  rw[Int.mul_one]
 done:=by
  intro X hP hw hK hc i pins s σ H E I hf st hg
  subst hP hw hK
  obtain⟨f0,f1,f2,f3,f4,f5⟩:=hf it (by simp)
  exact a7q (I.ok.hd hc) st (by have:n<=i:=hg;lia) λh' eb=>⟨rfl,I.turned (t':=s.toks) (λb o hb e=>eb b o hb e) f0 f1 f3 f4 f5⟩
 self:=λ_ _ _ _ _ st h=>a7r st h
end L2
namespace L2
open PySem PySem.Spec PyProof.Rows
section
variable {X:Cx}{tg:Expr}
theorem DL{pins:List (Addr×Obj)}{σ:St}{H:Hp}{s:ah}{R:It->Hp->Prop}{E:Value->ah->Prop}{lo hi:Int}{t u v:Tok}{tk:Nat}(I:Inv X pins σ H s)(h1:-(2^62)<=lo)(h2:lo<2^62)(h3:-(2^62)<=hi)(h4:hi<2^62)
 (q:R (sO lo (hi-lo).toNat) H):au (aB X.prog X.w) X.A (qS (.ref s.heap.objs.size)) (DJ X pins σ tg R) E { s with heap:=s.heap.push { cls:=.type "range",data:=.fields #[.int lo t,.int hi u,.int 1 v] },toks:=tk }:=by
 refine a7s (IsRange.new ..) (small_one h1 h2 h3 h4) ?_
 have I1:Inv X pins σ H { s with heap:=s.heap.push { cls:=.type "range",data:=.fields #[.int lo t,.int hi u,.int 1 v] },toks:=tk }:=I.kept λb o e=>cX _ e
 refine⟨(s.heap.push { cls:=.type "range",data:=.fields #[.int lo t,.int hi u,.int 1 v] }).objs.size,[(s.heap.push { cls:=.type "range",data:=.fields #[.int lo t,.int hi u,.int 1 v] }).objs.size],_,_,H,rfl,
  I1.kept (t':=tk) λb o e=>cX _ e,Uy _ lo (hi-lo).toNat,?_,λb hb=>?_,q⟩
 ·have e1:lo+((0:Nat):Int)*1=lo:=by simp
  have e2:(((hi-lo).toNat:Nat):Int)-((0:Nat):Int)=zT lo hi 1:=by rw[rangeSize_one];split<;>lia
  show Ko _ _ (lo+((0:Nat):Int)*1) ((((hi-lo).toNat:Nat):Int)-((0:Nat):Int)) 1
  rw[e1,e2]
  exact fu _ rfl
 ·have e:b=(s.heap.push { cls:=.type "range",data:=.fields #[.int lo t,.int hi u,.int 1 v] }).objs.size:=by simpa using hb
  subst e
  exact I1.sN (a7 _) (I1.aK.fresh (a7 _))
def jU(fp:List Addr)(h:Heap):List (Addr×Obj):=fp.filterMap λb=>(h.get? b).map λo=>(b,o)
theorem nv{fp:List Addr}{h:Heap}{b:Addr}{o:Obj}(hb:b∈fp)(e:h.get? b=some o):(b,o)∈jU fp h:=List.mem_filterMap.mpr ⟨b,hb,by rw[e];rfl⟩
theorem Uz{fp:List Addr}{h:Heap}{p:Addr×Obj}(hp:p∈jU fp h):p.1∈fp/\h.get? p.1=some p.2:=by
 obtain⟨b,hb,e⟩:=List.mem_filterMap.mp hp
 cases q:h.get? b with
 | none=>rw[q] at e;cases e
 | some o =>
   rw[q] at e
   have e':(b,o)=p:=kK e
   subst e'
   exact⟨hb,q⟩
theorem Inv.pinned{pins:List (Addr×Obj)}{σ:St}{H:Hp}{s:ah}{fp:List Addr}(I:Inv X pins σ H s)(hf:∀b∈fp,fx X pins H b)(ho:∀b∈fp,∃o,s.heap.get? b=some o/\∀v,o.data ≠ .cell v):Inv X (pins++jU fp s.heap) σ H s :=
 I.me λp hp=>(List.mem_append.mp hp).elim (λz=>I.pin p (b8 _ z)) λz=>by
  obtain⟨hb,e⟩:=Uz z
  obtain⟨f0,f1,f2,_⟩:=hf p.1 hb
  obtain⟨o,e',d⟩:=ho p.1 hb
  rw[e] at e';cases e'
  exact⟨e,f0,f1,f2,d⟩
theorem Inv.ny{pins pl:List (Addr×Obj)}{σ:St}{H:Hp}{s:ah}(I:Inv X (pins++pl) σ H s):Inv X pins σ H s:=I.me λp hp=>I.pin p (b8 _ (iO _ hp))
end
end L2
namespace L2
open PySem PySem.Spec PyProof.Rows
abbrev R2:=V->V->Hp->VK->Prop
def e9(X:Cx)(f:Value->Value->Sem Value)(r:R2):Prop :=
 ∀(pins:List (Addr×Obj)) (s:ah) (σ:St) (H:Hp) (x y:V) (v u:Value) (Q:VK),Inv X pins σ H s->RelV x v->RelV y u->r x y H Q ->
  au (aB X.prog X.w) X.A (f v u) (EP X pins σ Q) X.xe s
def iU(X:Cx)(f:Value)(r:List V->Hp->VK->Prop):Prop :=
 ∀(pins:List (Addr×Obj)) (s:ah) (σ:St) (H:Hp) (xs:List V) (us:List Value) (Q:VK),Inv X pins σ H s->Vals xs us->r xs H Q ->
  au (aB X.prog X.w) X.A (call f us) (EP X pins σ Q) X.xe s
def rI(C:Int->Int->Prop)(g:Int->Int->V):R2:=λx y H Q=>∃i j,x = .int i/\y = .int j/\C i j/\Q (g i j) H
def pW(g:Int->Int->V):R2:=λx y H Q=>∃i j,x = .int i/\y = .int j/\Q (g i j) H
section
variable {X:Cx}{a b c:Expr}{ta tb tc:TE}{pos:Pos}
theorem xr{f:Value->Value->Sem Value}{C:Int->Int->Prop}{g:Int->Int->Int}
 (rule:∀(i j:Int) (t u:Tok) (s:ah) (Q:Value->ah->Prop) (E:Value->ah->Prop),C i j->Q (.int (g i j) s.toks) { s with toks:=s.toks+1 }->au (aB X.prog X.w) X.A (f (.int i t) (.int j u)) Q E s) :
 e9 X f (rI C λi j=>.int (g i j)):=by
 intro pins s σ H x y v u Q I rx ry h
 obtain⟨i,j,rfl,rfl,hc,q⟩:=h
 obtain⟨t,rfl⟩:=rx
 obtain⟨t',rfl⟩:=ry
 exact rule i j t t' s _ _ hc ⟨.int (g i j),H,I.tok _,⟨_,rfl⟩,q⟩
theorem LN{f:Value->Value->Sem Value}{g:Int->Int->Int}
 (rule:∀(i j:Int) (t u:Tok) (s:ah) (Q:Value->ah->Prop) (E:Value->ah->Prop),Q (.int (g i j) s.toks) { s with toks:=s.toks+1 }->au (aB X.prog X.w) X.A (f (.int i t) (.int j u)) Q E s) :
 e9 X f (pW λi j=>.int (g i j)):=by
 intro pins s σ H x y v u Q I rx ry h
 obtain⟨i,j,rfl,rfl,q⟩:=h
 obtain⟨t,rfl⟩:=rx
 obtain⟨t',rfl⟩:=ry
 exact rule i j t t' s _ _ ⟨.int (g i j),H,I.tok _,⟨_,rfl⟩,q⟩
theorem Ay{f:Value->Value->Sem Value}{g:Int->Int->Bool}
 (rule:∀(i j:Int) (t u:Tok) (s:ah) (Q:Value->ah->Prop) (E:Value->ah->Prop),Q (.bool (g i j)) s->au (aB X.prog X.w) X.A (f (.int i t) (.int j u)) Q E s) :
 e9 X f (pW λi j=>.bl (g i j)):=by
 intro pins s σ H x y v u Q I rx ry h
 obtain⟨i,j,rfl,rfl,q⟩:=h
 obtain⟨t,rfl⟩:=rx
 obtain⟨t',rfl⟩:=ry
 exact rule i j t t' s _ _ ⟨.bl (g i j),H,I,rfl,q⟩
def UA(i j:Int):Prop:=0<j/\j<1073741824
def UB(i j:Int):Prop:=0<=j/\j<=1000000/\i.natAbs<2^64
def DM(i j:Int):Prop:=(-(2^64)<i/\i<2^64)∨(-(2^64)<j/\j<2^64)
theorem DM.ok{i j:Int}(h:DM i j):IntMulOk i j:=by
 rcases h with ⟨h1,h2⟩ | ⟨h1,h2⟩
 ·exact .of_left (intBits_le_64 h1 h2)
 ·exact .of_right (intBits_le_64 h1 h2)
theorem UC:e9 X (gW .Add) (pW λi j=>.int (i+j)):=LN λ_ _ _ _ _ _ _ q=>add_int q
theorem UD:e9 X (gW .Sub) (pW λi j=>.int (i-j)):=LN λ_ _ _ _ _ _ _ q=>sub_int q
theorem UE:e9 X (gW .Mult) (rI DM λi j=>.int (i*j)):=xr λ_ _ _ _ _ _ _ hc q=>mul_int q hc.ok
theorem UG:e9 X (gW .FloorDiv) (rI UA λi j=>.int (i/j)):=xr λi j _ _ _ _ _ hc q=>by
 have h1:(0:Int)<j:=hc.1
 have h2:j<1073741824:=hc.2
 exact floordiv_int (by lia) (by rw[a7t i (by lia)];exact q) (.inl (a7u (by lia)))
theorem UH:e9 X (gW .Mod) (rI (λ_ j=>0<j) λi j=>.int (i%j)):=xr λi j _ _ _ _ _ hc q=>by
 have h1:(0:Int)<j:=hc
 exact mod_int' (by lia) (by rw[Int.fmod_eq_emod_of_nonneg i (by lia)];exact q)
theorem UI:e9 X (gW .Pow) (rI UB λi j=>.int (i^j.toNat)):=xr λ_ _ _ _ _ _ _ hc q=>pow_int_small hc.1 hc.2.1 hc.2.2 q
end
section
variable {X:Cx}{a b c:Expr}{ta tb tc:TE}{pos:Pos}
theorem UJ{pins:List (Addr×Obj)}{σ:St}{H:Hp}{s:ah}{Q:VK}{k k':Bool}(I:Inv X pins σ H s)(q:Q (.bl k) H)(e:k=k'):EP X pins σ Q (.bool k') s:=by
 subst e
 exact⟨.bl k,H,I,rfl,q⟩
theorem UK:e9 X (iP .Lt) (pW λi j=>.bl (decide (i<j))):=Ay λ_ _ _ _ _ _ _ q=>lt_int q
theorem UM:e9 X (iP .LtE) (pW λi j=>.bl (decide (i<=j))):=Ay λ_ _ _ _ _ _ _ q=>le_int q
theorem UN:e9 X (iP .Gt) (pW λi j=>.bl (decide (j<i))):=Ay λ_ _ _ _ _ _ _ q=>gt_int q
theorem UO:e9 X (iP .GtE) (pW λi j=>.bl (decide (j<=i))):=Ay λ_ _ _ _ _ _ _ q=>ge_int q
theorem UP:e9 X (iP .In) (λx y H Q=>∃i j,x = .str i/\y = .str j/\Q (.bl (!(zU j i 0 j.length 1).isEmpty)) H):=by
 intro pins s σ H x y v u Q I rx ry h
 obtain⟨i,j,rfl,rfl,q⟩:=h
 obtain⟨t,rfl⟩:=rx
 obtain⟨t',rfl⟩:=ry
 exact in_str (UJ I q rfl)
theorem e9.or{f:Value->Value->Sem Value}{r r':R2}(h:e9 X f r)(h':e9 X f r'):e9 X f (λx y H Q=>r x y H Q∨r' x y H Q):=by
 intro pins s σ H x y v u Q I rx ry q
 rcases q with q | q
 ·exact h pins s σ H x y v u Q I rx ry q
 ·exact h' pins s σ H x y v u Q I rx ry q
theorem b_(b:Expr){op:Kp}(h:op ≠ .In:=by decide)(h2:op ≠ .NotIn:=by decide):C1 op b=false:=by
 have e1:(op==CmpOp.In)=false:=by cases op<;>first | rfl | exact absurd rfl h
 have e2:(op==CmpOp.NotIn)=false:=by cases op<;>first | rfl | exact absurd rfl h2
 cases b<;>simp[C1,e1,e2]
theorem uP:(bR:Nat)<2^63:=by rw[ju];decide
theorem UQ:e9 X (gW .Add) (λx y H Q=>∃i j,x = .str i/\y = .str j/\i.length+j.length<=bR/\Q (.str (i++j)) H):=by
 intro pins s σ H x y v u Q I rx ry h
 obtain⟨i,j,rfl,rfl,hz,q⟩:=h
 obtain⟨t,rfl⟩:=rx
 obtain⟨t',rfl⟩:=ry
 exact add_str (λt' tk=>⟨.str (i++j),H,I.tok _,⟨_,rfl⟩,q⟩) hz
theorem oR{x:V}{us:List Value}(r:Vals [x] us):∃u,us=[u]/\RelV x u:=by
 cases r with
 | cons r1 r2=>cases r2;exact⟨_,rfl,r1⟩
theorem LO{x y:V}{us:List Value}(r:Vals [x,y] us):∃u w',us=[u,w']/\RelV x u/\RelV y w':=by
 cases r with
 | cons r1 r2 =>
   cases r2 with
   | cons r3 r4=>cases r4;exact⟨_,_,rfl,r1,r3⟩
theorem UR(hc:X.calm=true):iU X (.builtin "max") (λxs H Q=>∃i j,xs=[.int i,.int j]/\Q (.int (if j>i then j else i)) H):=by
 intro pins s σ H xs us Q I r h
 obtain⟨i,j,rfl,q⟩:=h
 obtain⟨u,w',rfl,⟨t,rfl⟩,⟨t',rfl⟩⟩:=LO r
 refine max_two_ints (I.ok.hd hc) λh' tk k=>⟨_,H,I.kept k,?_,q⟩
 by_cases hj:j>i
 ·rw[if_pos hj,if_pos hj];exact⟨_,rfl⟩
 ·rw[if_neg hj,if_neg hj];exact⟨_,rfl⟩
theorem US(hc:X.calm=true):iU X (.builtin "min") (λxs H Q=>∃i j,xs=[.int i,.int j]/\Q (.int (if j<i then j else i)) H):=by
 intro pins s σ H xs us Q I r h
 obtain⟨i,j,rfl,q⟩:=h
 obtain⟨u,w',rfl,⟨t,rfl⟩,⟨t',rfl⟩⟩:=LO r
 refine min_two_ints (I.ok.hd hc) λh' tk k=>⟨_,H,I.kept k,?_,q⟩
 by_cases hj:j<i
 ·rw[if_pos hj,if_pos hj];exact⟨_,rfl⟩
 ·rw[if_neg hj,if_neg hj];exact⟨_,rfl⟩
theorem UT:iU X (.type "str") (λxs H Q=>∃i,xs=[.int i]/\i.natAbs.log2<1920/\Q (.str (toString i)) H):=by
 intro pins s σ H xs us Q I r h
 obtain⟨i,rfl,hz,q⟩:=h
 obtain⟨u,rfl,t,rfl⟩:=oR r
 exact PySem.P.str_of_int hz ⟨.str _,H,I.tok _,⟨_,rfl⟩,q⟩
def UU(K:aA)(x:V)(H:Hp)(n:Nat):Prop :=
 match x with
 | .str y=>y.length<=bR/\n=y.length
 | .xm y=>y.size<=bR/\n=y.size
 | .ref p=>(∃xs,b9 K H p xs/\n=xs.length)∨∃xs,cy K H p xs/\n=xs.length
 | _=>False
theorem UW:iU X (.builtin "len") (λxs H Q=>∃x n,xs=[x]/\UU X.K x H n/\Q (.int n) H):=by
 intro pins s σ H xs us Q I r h
 obtain⟨x,n,rfl,e,q⟩:=h
 obtain⟨u,rfl,rx⟩:=oR r
 have hl:=uP
 have hs:bR=16777216:=ju
 cases x with
 | str y =>
   obtain⟨t,rfl⟩:=rx
   obtain⟨hy,e'⟩:y.length<=bR/\n=y.length:=e
   subst e'
   exact len_str (by lia) ⟨.int _,H,I.tok _,⟨_,rfl⟩,q⟩
 | xm y =>
   obtain⟨t,rfl⟩:=rx
   obtain⟨hy,e'⟩:y.size<=bR/\n=y.size:=e
   subst e'
   exact PySem.W.len_bytes (by lia) ⟨.int _,H,I.tok _,⟨_,rfl⟩,q⟩
 | ref p =>
   cases rx
   have e':(∃xs,b9 X.K H p xs/\n=xs.length)∨∃xs,cy X.K H p xs/\n=xs.length:=e
   rcases e' with ⟨xs,hx,e'⟩ | ⟨xs,hx,e'⟩
   ·subst e'
    obtain⟨its,r',pl,hz⟩:=I.list hx
    have hlen:=r'.length
    exact a7v pl.isList (by simp only[cY];lia) ⟨.int xs.length,H,I.tok _,⟨_,by simp only[cY];rw[hlen]⟩,q⟩
   ·subst e'
    obtain⟨its,r',pl,hz⟩:=I.tuple hx
    have hlen:=r'.length
    exact Sg pl (by simp only[cY];lia) ⟨.int xs.length,H,I.tok _,⟨_,by simp only[cY];rw[hlen]⟩,q⟩
 | _=>exact(show False from e).elim
end
end L2
namespace L2
open PySem PySem.Spec PyProof.Rows
structure b0r (h:Heap) (x dx C:Addr) (mA:Str->Option Value):Prop where
 obj:h.get? x=some (a7n C dx)
 ns:h.Ns1 dx mA
 ne:dx≠x
section
variable {prog:aQ}{w:aN}{A:Around}{E:Value->ah->Prop}{s:ah}{K:aA}{x dx C f:Addr}{mA:Str->Option Value}{name:Str}{v:Value}
end
section
variable {P:aQ}{w:aN}{H H':Hp}{h h':Heap}{a C dx:Addr}{fs Ue:List (Str×V)}
end
structure UX (K:aA) (C:Addr):Prop where
 pg:PySem.W.plainGet K C Str.empty=true
 hd:PySem.W.hasDictIn K C=true
 po:PySem.W.plainOver K C=true
 sa:ur K (.ref C) "__setattr__"=some (some (.builtin "object.__setattr__"))
structure Con (K:aA) (C:Addr) (f:Str) (v:V) (u:Value):Prop where
 at_:ur K (.ref C) f=some (some u)
 rel:RelV v u
 get:a7w K u "__get__"=some none
 cp:PySem.W.copiedNames.contains f=false
structure Meth (K:aA) (C:Addr) (m:Str) (f:Addr):Prop where
 at_:ur K (.ref C) m=some (some (.ref f))
 fn:PySem.W.isFn K (.ref f)=true
 kp:wG K (.ref f)=true
section
variable {X:Cx}{pins:List (Addr×Obj)}{σ:St}{H:Hp}{s:ah}{a C dx:Addr}{fs:List (Str×V)}{f:Str}{v:V}{A:Around}{E:Value->ah->Prop}
end
section
variable {X:Cx}{o e value:Expr}{f:Str}{pos pos' b0s:Pos}{ta tv:TE}
end
section
variable {X:Cx}{pins:List (Addr×Obj)}{σ:St}{H:Hp}{s:ah}{A:Around}{E:Value->ah->Prop}{Q:Value->ah->Prop}{c:Value}{b:Bool}
inductive nA (K:aA) (H:Hp):V->Value->Prop where
 | cH:nA K H .cH (.type "NoneType")
 | bl (x:Bool):nA K H (.bl x) (.type "bool")
 | int (i:Int):nA K H (.int i) (.type "int")
 | str (x:Str):nA K H (.str x) (.type "str")
 | xn (x:UInt64):nA K H (.xn x) (.type "float")
 | lst {a:Addr} {xs:List V} (e:H a=some (.lst xs)):nA K H (.ref a) (.type "list")
 | gq {a:Addr} {o:Obj} {xs:List V} (e:H a=some (.gq o (.lst xs))):nA K H (.ref a) (.type "list")
 | tup {a:Addr} {xs:List V} (e:H a=some (.tup xs)):nA K H (.ref a) (.type "tuple")
 | dK {a:Addr} {gp:List (Key×V)} (e:H a=some (.dK gp)):nA K H (.ref a) (.type "dict")
 | dT {a:Addr} {gp:List (List Key×V)} (e:H a=some (.dT gp)):nA K H (.ref a) (.type "dict")
 | ins {a C dx:Addr} {fs:List (Str×V)} (e:H a=some (.ins C dx fs)) (cl:UX K C) (ha:ur K (.ref C) "__class__"=some (some (.builtin "object.__class__")))
    (hn:a7w K (.builtin "object.__class__") "__get__"=some (some (.builtin "getset_descriptor.__get__"))) (htk:PySem.W.takesIn K (.builtin "object.__class__")=some true)
    (hm:uu K C (.type "object")=some true):nA K H (.ref a) (.ref C)
end
end L2
namespace L2
open PySem PySem.Spec PyProof.Rows
structure eh (k:Nat) (A:Around):Prop where
 hd:A.handled=none
 dp:A.depth+3*k+5<a7x
 un:A.units+16*k+200<lZ
theorem eh.mono{j k:Nat}{A:Around}(r:eh k A)(h:j<=k):eh j A:=⟨r.hd,by have:=r.dp;lia,by have:=r.un;lia⟩
theorem eh.deeper{k:Nat}{A:Around}(r:eh (k+1) A)(env:Env):eh k (A.deeper env) :=
 ⟨r.hd,by have:=r.dp;show A.depth+1+3*k+5<_;lia,by have:=r.un;show A.units+3+16*k+200<_;lia⟩
theorem eh.depth{k:Nat}{A:Around}(r:eh k A):A.depth<a7x:=by have:=r.dp;lia
theorem eh.units{k:Nat}{A:Around}(r:eh k A):A.units+64<lZ:=by have:=r.un;lia
section
variable {X:Cx}{e:Expr}{es:List Expr}{te:TE}{t:TA}{pos:Pos}
end
abbrev Sp:=List V->Hp->VK->XK->Prop
abbrev kX:=List Env->Hp->ah->XK->Value->ah->Prop
structure uQ (P:aQ) (w:aN) (K:aA) (mg:Str->Option Value) (base:Heap) (A:Around) (outer:List Env) (s:ah) (H:Hp):Prop where
 frames:A.frames=some outer
 mod:Mod K mg base
 bs:∀b o,base.get? b=some o->s.heap.get? b=some o/\H b=none
 jT:base.objs.size<=s.heap.objs.size
 jy:s.heap.FunFrames base outer
 kT:∀b∈dj outer,H b=none
 aK:dY P w H s.heap
 bare:m_ s.gens
def CE(outer:List Env)(P:aQ)(w:aN)(H:Hp)(s:ah)(Q:VK)(u:Value)(s':ah):Prop :=
 ∃v H',s'.os=s.os/\m_ s'.gens/\Un (dj outer) [] H H' s.heap s'.heap/\dY P w H' s'.heap/\RelV v u/\Q v H'
def CR(CX:kX)(outer:List Env)(P:aQ)(w:aN)(H:Hp)(s:ah)(Q:VK)(E:XK)(r:pB)(s':ah):Prop :=
 match r with
 | .ok (.ret u)=>CE outer P w H s Q u s'
 | .ok _=>False
 | .error e=>CX outer H s E e s'
structure ja (P:aQ) (w:aN) (K:aA) (mg:Str->Option Value) (base:Heap) (CX:kX) (k:Nat) (f:Addr) (fd:cG) (ps:List Str) (sp:Sp):Prop where
 len:∀vs H Q E,sp vs H Q E->vs.length=ps.length
 run:∀(A:Around) (outer:List Env) (s:ah) (H:Hp) (args:Args) (us:List Value) (vs:List V) (Q:VK) (E:XK),eh k A->uQ P w K mg base A outer s H->BindsTo s fd args (ps.zip us)->Vals vs us->sp vs H Q E ->
  iQ (aB P w) A (.call (.ref f) args) (CR CX outer P w H s Q E) s
theorem ja.mono{P:aQ}{w:aN}{K:aA}{mg:Str->Option Value}{base:Heap}{CX:kX}{j k:Nat}{f:Addr}{fd:cG}{ps:List Str}{sp:Sp}(F:ja P w K mg base CX j f fd ps sp)(h:j<=k) :
 ja P w K mg base CX k f fd ps sp:=⟨F.len,λA outer s H args us vs Q E hr=>F.run A outer s H args us vs Q E (hr.mono h)⟩
theorem ja.imp{P:aQ}{w:aN}{K:aA}{mg:Str->Option Value}{base:Heap}{CX:kX}{k:Nat}{f:Addr}{fd:cG}{ps:List Str}{sp LP:Sp}(F:ja P w K mg base CX k f fd ps sp)
 (h:∀vs H Q E,LP vs H Q E->sp vs H Q E):ja P w K mg base CX k f fd ps LP :=
 ⟨λvs H Q E q=>F.len vs H Q E (h _ _ _ _ q),λA outer s H args us vs Q E hr he hb hv hs=>F.run A outer s H args us vs Q E hr he hb hv (h _ _ _ _ hs)⟩
section
variable {X:Cx}{pins:List (Addr×Obj)}{σ:St}{H:Hp}{s s':ah}
theorem Inv.xt(I:Inv X pins σ H s):uQ X.prog X.w X.K X.mg X.base X.A X.stack s H :=
 ⟨I.ok.frames,I.ok.mod,I.bs,dD I.ok.jT I.sz,I.stack,I.Ar,I.aK,I.bare⟩
theorem Inv.after{Q:VK}{u:Value}(I:Inv X pins σ H s)(h:CE X.stack X.prog X.w H s Q u s'):EP X pins σ Q u s':=by
 obtain⟨v,H',os,bare,un,aK,r,q⟩:=h
 obtain⟨hh,g,d,t,nB⟩:=s'
 obtain rfl:nB=s.os:=os
 exact⟨v,H',I.call (h':=hh) (g':=g) (d':=d) (t':=t) (ch:=[]) un aK bare (λb z=>absurd z (by simp)),r,q⟩
end
def jV(K:aA)(fd:cG)(ps:List Str)(ds:List Value):Prop :=
 ∀(s:ah) (us:List Value),K.In s.heap->(us++ds).length=ps.length->BindsTo s fd ⟨us,[]⟩ (ps.zip (us++ds))
theorem jV.all{K:aA}{fd:cG}{ps:List Str}(h:∀us:List Value,us.length=ps.length->Sh fd ⟨us,[]⟩=pure (ps.zip us)):jV K fd ps []:=λs us _ hl=>by
 rw[kM] at hl ⊢
 exact .of_eq (h us hl)
section
variable {X:Cx}{CX:kX}{k:Nat}{f C:Addr}{fd:cG}{ps:List Str}{sp:Sp}{dvs:List V}{ds:List Value}{E:XK}{x m:Str}{p pos apos:Pos}{e o:Expr}{es:List Expr}{ta:TE}{t:TA}
structure Mk (K:aA) (C f:Addr):Prop where
 makes:PySem.W.makesIn K C=true
 init:ur K (.ref C) "__init__"=some (some (.ref f))
 fn:PySem.W.isFn K (.ref f)=true
 kp:wG K (.ref C)=true
end
def PK(X:Cx)(LQ:List km)(t:TA):Prop :=
 ∀(pos:Pos) (pins:List (Addr×Obj)) (s:ah) (σ:St) (H:Hp) (Q:List V->Hp->Prop),Inv X pins σ H s->t σ H Q->au (aB X.prog X.w) X.A (evalAll ((uv pos (uw LQ X.env)).map (·.2))) (AP X pins σ Q) X.xe s
section
variable {X:Cx}{CX:kX}{k:Nat}{f C:Addr}{fd:cG}{ps ks:List Str}{sp:Sp}{E:XK}{x m:Str}{p pos apos b0t:Pos}{e o:Expr}{es:List Expr}{LQ:List km}{te ta:TE}{t tk:TA}{nm:Option Str}
structure b0u (K:aA) (fd:cG) (ps ks:List Str) (g:List Value->List Value->List Value) (gV:List V->List V->List V):Prop where
 to:∀(s:ah) (us ws:List Value),K.In s.heap->(g us ws).length=ps.length->BindsTo s fd ⟨us,ks.zip ws⟩ (ps.zip (g us ws))
 rel:∀{vs:List V} {us:List Value} {zs:List V} {ws:List Value},Vals vs us->Vals zs ws->Vals (gV vs zs) (g us ws)
variable {g:List Value->List Value->List Value}{gV:List V->List V->List V}
end
structure aZ (N P:List Str) (sc:dA):Prop where
 kind:sc.kind = .function
 co:sc.isCoroutine=false
 gen:sc.isGenerator=false
 nd:N.Nodup
 pre:N.take P.length=P
 par:∀x∈P,sc.names.lookup x=some .local∨sc.names.lookup x=some .cell
 UY:∀y∈sc.names,y.2 ≠ .free
theorem LR{kindOf:Str->Option oF}{x:Str}:∀{binds:List (Str×Value)} {m:Str->Option Value},(∀v,(x,v) ∉ binds)->ux kindOf binds m x=m x
 | [],_,_=>rfl
 | (n,v)::r,m,h=>by
   unfold ux
   rw[LR λw hw=>h w (dJ _ hw)]
   split
   ·have:x≠n:=by rintro rfl;exact h v fi
    simp[this]
   ·rfl
theorem LS{kindOf:Str->Option oF}{x:Str}:∀{binds:List (Str×Value)} {m:Str->Option Value},(∀v,(x,v) ∉ binds)->uy kindOf binds m x=m x
 | [],_,_=>rfl
 | (n,v)::r,m,h=>by
   unfold uy
   rw[LS λw hw=>h w (dJ _ hw)]
   split
   ·rfl
   ·have:x≠n:=by rintro rfl;exact h v fi
    simp[this]
theorem LU{kindOf:Str->Option oF}{x:Str}{v:Value}:∀{P:List Str} {vs:List Value} {i:Nat} {m:Str->Option Value},P.Nodup->P[i]? = some x->vs[i]? = some v->kindOf x=some .local ->
 ux kindOf (P.zip vs) m x=some v
 | [],_,_,_,_,h,_,_=>by simp at h
 | _::_,[],_,_,_,_,h,_=>by simp at h
 | p::P,w::vs,0,m,nd,h1,h2,hk=>by
   simp at h1 h2;subst h1;subst h2
   show ux kindOf ((p,w)::P.zip vs) m p=_
   unfold ux
   rw[LR λv hv=>(List.nodup_cons.mp nd).1 (Si hv).1,if_pos hk]
   simp
 | p::P,w::vs,i+1,m,nd,h1,h2,hk=>by
   show ux kindOf ((p,w)::P.zip vs) m x=_
   unfold ux
   exact LU (i:=i) (List.nodup_cons.mp nd).2 (by simpa using h1) (by simpa using h2) hk
theorem LV{kindOf:Str->Option oF}{x:Str}{v:Value}:∀{P:List Str} {vs:List Value} {i:Nat} {m:Str->Option Value},P.Nodup->P[i]? = some x->vs[i]? = some v->kindOf x≠some .local ->
 uy kindOf (P.zip vs) m x=some v
 | [],_,_,_,_,h,_,_=>by simp at h
 | _::_,[],_,_,_,_,h,_=>by simp at h
 | p::P,w::vs,0,m,nd,h1,h2,hk=>by
   simp at h1 h2;subst h1;subst h2
   show uy kindOf ((p,w)::P.zip vs) m p=_
   unfold uy
   rw[LS λv hv=>(List.nodup_cons.mp nd).1 (Si hv).1,if_neg hk]
   simp
 | p::P,w::vs,i+1,m,nd,h1,h2,hk=>by
   show uy kindOf ((p,w)::P.zip vs) m x=_
   unfold uy
   exact LV (i:=i) (List.nodup_cons.mp nd).2 (by simpa using h1) (by simpa using h2) hk
def start(N:List Str)(vs:List V):St:=vs.map some++dN (N.length-vs.length) none
def uR(CX:kX)(P:aQ)(w:aN)(K:aA)(mg:Str->Option Value)(base:Heap)(N:List Str)(qual:Str)(scope:dA)(f:Addr)(cd:Value)(A:Around)(outer:List Env)(s:ah)(H:Hp)(E:XK):Cx where
 prog:=P
 w:=w
 K:=K
 mg:=mg
 base:=base
 A:=A.deeper (uz qual scope s.heap.objs.size f cd)
 N:=N
 s₀:=s
 H₀:=H
 env:=uz qual scope s.heap.objs.size f cd
 outer:=outer
 stack:=uz qual scope s.heap.objs.size f cd::outer
 ex:=[]
 calm:=true
 fn:=λ_=>true
 pn:=[]
 xe:=λe s'=>au (aB P w) (A.deeper (uz qual scope s.heap.objs.size f cd)) (Sj (uz qual scope s.heap.objs.size f cd) e) (λ_ xu=>CX outer H s E e xu) (λe' xu=>CX outer H s E e' xu) s'
theorem LW{sc:dA}{n:Nat}{x:Str}(h:sc.names.lookup x=some .cell):∃c,(Sk n sc.names []).lookup x=some c:=by
 have q:=a7y sc.names n [] (.inl h)
 exact Option.isSome_iff_exists.mp q
theorem UZ{CX:kX}{P:aQ}{w:aN}{K:aA}{mg:Str->Option Value}{base:Heap}{N ps:List Str}{qual:Str}{scope:dA}{f:Addr}{cd:Value}{A:Around}{outer:List Env}{s s1:ah}{H:Hp}{E:XK}{us:List Value}{vs:List V}
 (S:aZ N ps scope) (hd:A.handled=none) (e0:uQ P w K mg base A outer s H) (hl:vs.length=ps.length) (r:Vals vs us)
 (x:InCallC s s.heap.objs.size (ux (uz qual scope s.heap.objs.size f cd).kindOf (ps.zip us) λ_=>none) (Sk (s.heap.objs.size+1) scope.names []) (uy (uz qual scope s.heap.objs.size f cd).kindOf (ps.zip us) λ_=>none) s1) :
 Inv (uR CX P w K mg base N qual scope f cd A outer s H E) [] (start N vs) H s1:=by
 have gJ:ps.length<=N.length:=by have:=congrArg Kq S.pre;rw[oG] at this;lia
 obtain⟨h1,tk,rfl,hk⟩:=x.done
 have xw:∀b:Addr,b ∉ (uR CX P w K mg base N qual scope f cd A outer s H E).ex:=λb z=>absurd (show b∈([]:List Addr) from z) (by simp)
 refine⟨⟨e0.mod,S.kind,rfl,rfl,a7 _,λy z c h1 h2=>?_,λy hy=>?_,λy c _ h=>?_,λ_=>hd,Around.frames_deeper e0.frames,.inr ⟨rfl,rfl⟩,λb z=>absurd z (xw b),e0.bs,e0.jT,λb _ _=>xw b,λb z=>absurd z (xw b),e0.jy,e0.kT⟩,
  rfl,e0.bare,Un.kept hk,⟨_,x.toInCall.ns,λi y v h1 h2 h3=>?_⟩,λy c h=>⟨_,x.cell y c h⟩,e0.aK.fresh (a7 _),λy c h=>?_,λp hp=>absurd (show p∈([]:List (Addr×Obj)) from hp) (by simp),e0.aK.kept hk,?_⟩
 ·exact name_of_addr x.apart (iq h1) (iq h2)
 ·have hy:scope.names.lookup y=some .cell∨scope.names.lookup y=some .free:=hy
  rcases hy with hy | hy
  ·exact LW hy
  ·exact absurd rfl (S.UY _ (iq hy))
 ·exact Km (x.above y c (iq h))
 ·have hi:i<vs.length:=by
   unfold start at h2
   by_cases hi:i<vs.length
   ·exact hi
   ·rw[uA (by simpa using hi)] at h2
    rw[Kr] at h2
    split at h2<;>cases h2
  have ha:vs[i]? = some v:=by
   unfold start at h2
   rw[wH (by simpa using hi),eZ] at h2
   cases e:vs[i]? with
   | none=>rw[e] at h2;cases h2
   | some a=>rw[e] at h2;cases h2;rfl
  obtain⟨u,hu,rv⟩:=r.get ha
  have hp:ps[i]? = some y:=by
   rw[<-S.pre,List.getElem?_take_of_lt (by lia)];exact h1
  have LX:ps.Nodup:=by rw[<-S.pre];exact S.nd.sublist (List.take_sublist _ _)
  refine⟨u,rv,?_⟩
  rcases S.par y (sr hp) with k | k
  ·exact .inl ⟨k,LU LX hp hu k⟩
  ·obtain⟨c,e⟩:=LW (n:=s.heap.objs.size+1) k
   refine .inr ⟨.inl k,c,e,?_⟩
   have q:=x.cell y c e
   rw[LV LX hp hu (by show scope.names.lookup y≠_;rw[k];decide)] at q
   exact q
 ·exact e0.aK.fresh (Km (x.above y c (iq h)))
 ·unfold start
  show _=N.length
  rw[dW,a6,a7z]
  lia
theorem xy{CX:kX}{P:aQ}{w:aN}{K:aA}{mg:Str->Option Value}{base:Heap}{k:Nat}{f:Addr}{name qual:Str}{params:Arguments}{body:List Stmt}{scope:dA}{dV kV doc pm aY ct oc:Value}{an od:Option Addr}
 {pX:Array (Option Value)} {N ps:List Str} {sp:Sp} (lk:K.lookup f=some ⟨oc,od,.func (C2 name qual params body scope dV kV doc pm an aY ct),pX⟩) (dE:Ks K aY qual=true) (S:aZ N ps scope)
 (len:∀vs H Q E,sp vs H Q E->vs.length=ps.length)
 (kY:∀(A:Around) (outer:List Env) (s:ah) (H:Hp) (vs:List V) (Q:VK) (E:XK),eh k (A.deeper (uz qual scope s.heap.objs.size f aY))->sp vs H Q E ->
   ∃t,Ul (uR CX P w K mg base N qual scope f aY A outer s H E) body t/\t { nx:=λ_ H'=>Q .cH H',rt:=Q } (start N vs) H) :
 ja P w K mg base CX (k+1) f (C2 name qual params body scope dV kV doc pm an aY ct) ps sp:=by
 refine⟨len,λA outer s H args us vs Q E hr e0 hb r dZ=>?_⟩
 have hl:=len _ _ _ _ dZ
 have KX:K.In s.heap:=e0.mod.pS.keeps λb o e=>(e0.bs b o e).1
 have lim:s.heap.NoLimit:=e0.mod.nolimit.keeps λb o e=>(e0.bs b o e).1
 have Az:∀y∈ps.zip us,scope.names.lookup y.1=some .local∨(scope.names.lookup y.1=some .cell/\((Sk (s.heap.objs.size+1) scope.names []).lookup y.1).isSome=true):=λ⟨n,v⟩ hy=>by
  rcases S.par n (Si hy).1 with q | q
  ·exact .inl q
  ·exact .inr ⟨q,a7y _ _ _ (.inl q)⟩
 refine codeAny_call_function hr.depth (KX _ _ lk) rfl S.co S.gen rfl (PySem.W.codeRec_of KX dE) (hb _ _ _ _ ?_)
 refine wpAny_newFunctionEnv_cells S.kind Az λenv he s1 x=>?_
 subst he
 refine⟨lim.keeps x.toInCall.keep,codeAny_func ?_⟩
 obtain⟨t,ht,hq⟩:=kY A outer s H vs Q E (hr.deeper _) dZ
 have I:Inv (uR CX P w K mg base N qual scope f aY A outer s H E) [] (start N vs) H s1:=UZ S hr.hd e0 hl r x
 refine av (ht [] s1 (start N vs) H _ I hq) (λfl s' hs=>?_) λe s' hs=>hs
 have fin:∀{aE:St} {H':Hp} {v:V} {u:Value},Inv (uR CX P w K mg base N qual scope f aY A outer s H E) [] aE H' s'->RelV v u->Q v H'->CE outer P w H s Q u s' :=
  λ{aE H' v u} J rv q=>⟨v,H',J.os,J.bare,J.base,J.aK,rv,q⟩
 cases fl with
 | ret u =>
   obtain⟨v,aE,H',J,rv,q⟩:=hs
   exact fin J rv q
 | next =>
   obtain⟨aE,H',J,q⟩:=hs
   exact fin (v:=V.cH) (u:=qQ) J rfl q
 | brk =>
   obtain⟨_,_,_,q⟩:=hs
   exact b6 q
 | cont =>
   obtain⟨_,_,_,q⟩:=hs
   exact b6 q
end L2
namespace L2
open PySem PySem.Spec PyProof.Rows
section
variable {X:Cx}{x:Str}{p pos:Pos}{e:Expr}{es:List Expr}{t:TA}{id T:String}{r:List V->Hp->VK->Prop}
end
end L2
namespace HT
open PySem PyProof.Rows
section
open PySem.SeqAt
open PySem.AutoSeq1 (wpAny_loadPart')
open PySem.MeetsSeq PySem.MeetsSeq2 PySem.MeetsSeq3
end
section
variable {prog:aQ}{w:aN}{A:Around}{E:Value->ah->Prop}{s:ah}
theorem U0{t b:Addr}{vs ws:List Value}{Q:Value->ah->Prop}(ht:sj s.heap t vs.toArray)(hb:sj s.heap b ws.toArray)(hv:vs≠[])
 (h1:ws=[]->Q (.ref t) s) (h2:ws≠[]->Q (.ref s.heap.objs.size) { s with heap:=s.heap.push { cls:=.type "tuple",data:=.seq (vs++ws).toArray } })
 (jA:vs.length+ws.length<=bR):au (aB prog w) A (gW .Add (.ref t) (.ref b)) Q E s:=by
 obtain⟨⟨cls,dd,data,sl⟩,ho,hc,n,hd⟩:=id ht
 obtain⟨⟨U1,AA,data2,AB⟩,sP,nC,n2,hd2⟩:=id hb
 simp only at hc hd nC hd2
 subst hc hd nC hd2
 have e:vs.toArray++ws.toArray=(vs++ws).toArray:=by simp
 by_cases hw:ws=[]
 ·exact Kt ⟨_,ho,rfl⟩ ⟨_,sP,rfl⟩ Sl Sm Sn So (Sr _ _)
   (tuple_addW1 t b vs.toArray ws.toArray n n2 dd AA sl AB (by simpa using hv) (by simp[hw])) ⟨ho,sP,h1 hw⟩
 ·refine Kt ⟨_,ho,rfl⟩ ⟨_,sP,rfl⟩ Sl Sm Sn So (Sr _ _)
   (tuple_addW2 t b vs.toArray ws.toArray n n2 dd AA sl AB (by simpa using hv) (by simpa using hw) (by rw[cY,cY];exact jA)) ⟨ho,sP,?_⟩
  rw[e]
  exact h2 hw
def bA(n d:Nat):Option Int->Nat
 | none=>d
 | some v=>if v<0 then (v+(n:Int)).toNat else min v.toNat n
theorem U2(n d:Nat)(hd:d<=n)(o:Option Int):bA n d o<=n:=by
 cases o with
 | none=>exact hd
 | some v =>
   show(if v<0 then (v+(n:Int)).toNat else min v.toNat n)<=n
   by_cases hv:v<0
   ·rw[if_pos hv];lia
   ·rw[if_neg hv];exact Nat.min_le_right _ _
theorem LY(v:Int)(n d:Nat):(if v<0 then max (v+(n:Int)) 0 else min v (n:Int))=((bA n d (some v):Nat):Int):=by
 show(if v<0 then max (v+(n:Int)) 0 else min v (n:Int))=(((if v<0 then (v+(n:Int)).toNat else min v.toNat n):Nat):Int)
 by_cases hv:v<0
 ·simp only[if_pos hv];lia
 ·simp only[if_neg hv];lia
theorem U3(lo hi:Option Int)(n:Nat):Ss lo hi 1 (n:Int)=(((bA n 0 lo:Nat):Int),((bA n n hi:Nat):Int)):=by
 have h1:¬((1:Int)<0):=by lia
 unfold Ss
 simp only[h1,if_false]
 refine Prod.ext ?_ ?_
 ·cases lo with
  | none=>rfl
  | some v=>exact LY v n 0
 ·cases hi with
  | none=>rfl
  | some v=>exact LY v n n
theorem U4(i j:Nat):Ku (i:Int) (j:Int) 1=j-i:=by
 unfold Ku
 have h1:(1:Int)>0:=by lia
 simp only[h1,if_true,Int.ediv_one]
 split<;>lia
theorem LZ{v:Value}{o:Option Int}{Q:Option Int->ah->Prop}(p:qT v o)(h:Q o s):au (aB prog w) A (Builtin.Slice.slicePartIndex v) Q E s:=by
 cases p with
 | none=>exact a8a h
 | int i t=>exact slicePart_int h
theorem L5{sl:Addr}{vl vu:Value}{lo hi:Option Int}{n:Nat}{Q:Int×Int×Nat->ah->Prop}(hs:s.heap.IsSliceOf sl vl vu .none)(pl:qT vl lo)(pu:qT vu hi)
 (h:Q (((bA n 0 lo:Nat):Int),1,bA n n hi-bA n 0 lo) s):au (aB prog w) A (a8b (.ref sl) (pure (n:Int))) Q E s:=by
 obtain⟨os,sQ,sR,xA⟩:=id hs
 unfold a8b Builtin.Slice.sliceFields
 refine aH (aH (oH sQ xA (x:=vl) rfl (aH (oH sQ xA (x:=vu) rfl (aH (oH sQ xA (x:=.none) rfl (bS ?_)))))))
 refine aH (a8a ?_)
 show au _ _ (if ((1:Int)==0)=true then _ else _) _ _ s
 rw[if_neg (by decide)]
 refine aH (LZ pl (aH (LZ pu (aH (bS ?_)))))
 show au _ _ (match Ss lo hi 1 (n:Int) with | (lo,hi)=>pure (lo,(1:Int),Ku lo hi 1)) _ _ s
 rw[U3 lo hi n]
 show au _ _ (pure (((bA n 0 lo:Nat):Int),(1:Int),Ku ((bA n 0 lo:Nat):Int) ((bA n n hi:Nat):Int) 1)) _ _ s
 rw[U4]
 exact bS h
theorem U5(xs:Array Value)(i k:Nat):((eY k).filterMap λ(m:Nat)=>xs[((i:Int)+(m:Int)*1).toNat]?).toArray=((xs.toList.drop i).take k).toArray:=by
 have e:(λ(m:Nat)=>xs[((i:Int)+(m:Int)*1).toNat]?)=λm=>xs[i+m]?:=by
  funext m
  have:((i:Int)+(m:Int)*1).toNat=i+m:=by lia
  rw[this]
 rw[e]
 have:=pick_run xs i k
 rw[List.filterMap_map] at this
 have e2:((λx=>xs[x]?) ∘ λx=>i+x)=λm=>xs[i+m]?:=rfl
 rw[e2] at this
 rw[this]
theorem U6{t sl:Addr}{items:Array Value}{vl vu:Value}{lo hi:Option Int}{Q:Value->ah->Prop}(ht:sj s.heap t items)(hs:s.heap.IsSliceOf sl vl vu .none)(pl:qT vl lo)(pu:qT vu hi)
 (hw:¬(bA items.size 0 lo=0/\bA items.size items.size hi=items.size))
 (h:Q (.ref s.heap.objs.size) { s with heap:=s.heap.push { cls:=.type "tuple",data:=.seq ((items.toList.drop (bA items.size 0 lo)).take (bA items.size items.size hi-bA items.size 0 lo)).toArray } })
 (jA:items.size<=bR):au (aB prog w) A (wI (.ref t) (.ref sl)) Q E s:=by
 have AD:sizeOk (.seq ((items.toList.drop (bA items.size 0 lo)).take (bA items.size items.size hi-bA items.size 0 lo)).toArray):=by
  show((items.toList.drop (bA items.size 0 lo)).take (bA items.size items.size hi-bA items.size 0 lo)).toArray.size<=bR
  rw[cY,oG,wJ,qR]
  lia
 have hj:bA items.size items.size hi<=items.size:=U2 _ _ (a7 _) hi
 obtain⟨os,sQ,sR,xA⟩:=id hs
 have DN:s.TypeIs (.ref sl) "slice":=⟨os,sQ,sR⟩
 unfold wI
 try with_reducible refine l0 ?_
 first | refine aH (bS ?_) | skip
 refine aH (a8c ht.typeIs (by decide) ?_)
 refine aH (Kv (name:=iR "__getitem__") ht.typeIs Kw
  (zV Kw ht.typeIs a8d ?_ (a8e _ _)))
 show au _ _ (Su (.ref t)>>=_) _ _ s
 refine aH (tupleItemsOf_ ht ?_)
 refine aH (Kx DN ?_)
 rw[if_pos (by decide)]
 refine aH (L5 hs pl pu ?_)
 have pY:¬((((bA items.size 0 lo:Nat):Int)==0&&(1:Int)==1&&(bA items.size items.size hi-bA items.size 0 lo)==items.size)=true):=by
  intro q
  rw[ir,ir] at q
  have q1:((bA items.size 0 lo:Nat):Int)=0:=eq_of_beq q.1.1
  have q2:bA items.size items.size hi-bA items.size 0 lo=items.size:=eq_of_beq q.2
  exact hw ⟨by lia,by lia⟩
 show au _ _ (if (((bA items.size 0 lo:Nat):Int)==0&&(1:Int)==1&&(bA items.size items.size hi-bA items.size 0 lo)==items.size)=true then _ else _) _ _ s
 rw[if_neg pY,U5]
 first
  | exact aH (m:=Ky _) (pE (bS ⟨_,rfl,bS h⟩) AD)
  | exact aH (m:=Ky _) (pE (aH (bS (bS ⟨_,rfl,bS h⟩))) AD)
  | exact aH (aH (m:=Ky _) (pE (bS (bS ⟨_,rfl,bS h⟩)) AD))
  | exact aH (aH (m:=Ky _) (pE (bS ⟨_,rfl,bS h⟩) AD))
end
end HT
namespace L2
open PySem PySem.Spec PyProof.Rows
abbrev TO:=St->Hp->(Option Int->Hp->Prop)->Prop
theorem L6{ns:List Int}:∀{us:List Value},Vals (ns.map V.int) us->uB us ns:=by
 induction ns with
 | nil=>intro us r;rw[su] at r;cases r;exact .nil
 | cons n ns ih =>
   intro us r
   rw[e8] at r
   cases r with
   | cons r1 r2 =>
     obtain⟨t,e⟩:=r1
     subst e
     exact .cons n t (ih r2)
section
variable {X:Cx}{e:Expr}{te:TE}{lo hi:Option Expr}{tl th:TO}{pos p2:Pos}
def oS(X:Cx)(r:V->Option Int->Option Int->Hp->VK->Prop):Prop :=
 ∀(pins:List (Addr×Obj)) (s:ah) (σ:St) (H:Hp) (x:V) (v vl vu:Value) (lo hi:Option Int) (sl:Addr) (Q:VK),Inv X pins σ H s->RelV x v->s.heap.IsSliceOf sl vl vu .none->qT vl lo->qT vu hi->r x lo hi H Q ->
  ∃T id,C3 (.type T) "__getitem__"=pure (some (.builtin id))/\s.TypeIs v T/\au (aB X.prog X.w) X.A (wI v (.ref sl)) (EP X pins σ Q) X.xe s
theorem oS.or{r r':V->Option Int->Option Int->Hp->VK->Prop}(h:oS X r)(h':oS X r'):oS X (λx lo hi H Q=>r x lo hi H Q∨r' x lo hi H Q):=by
 intro pins s σ H x v vl vu lo hi sl Q I rx hs pl pu q
 rcases q with q | q
 ·exact h pins s σ H x v vl vu lo hi sl Q I rx hs pl pu q
 ·exact h' pins s σ H x v vl vu lo hi sl Q I rx hs pl pu q
def kZ(xs:List V)(lo hi:Option Int):List V:=(xs.drop (HT.bA xs.length 0 lo)).take (HT.bA xs.length xs.length hi-HT.bA xs.length 0 lo)
theorem L7(xs:List V)(lo hi:Option Int):(kZ xs lo hi).length<=xs.length:=by
 unfold kZ
 rw[oG,wJ]
 lia
def U7(K:aA):V->Option Int->Option Int->Hp->VK->Prop:=λx lo hi H Q=>∃a xs,x = .ref a/\cy K H a xs /\
 ¬(HT.bA xs.length 0 lo=0/\HT.bA xs.length xs.length hi=xs.length)/\∀p,H p=none->Q (.ref p) (upd H p (.tup (kZ xs lo hi)))
theorem U8:oS X (U7 X.K):=by
 intro pins s σ H x v vl vu lo hi sl Q I rx hs pl pu h
 obtain⟨a,xs,rfl,hx,hw,q⟩:=h
 cases rx
 obtain⟨its,r,ht,hz⟩:=I.tuple hx
 have hlen:its.toArray.size=xs.length:=by rw[cY];exact r.length.symm
 refine⟨"tuple",_,PyProof.Rows.slot_tuple_getitem.lookup,ht.typeIs,?_⟩
 refine HT.U6 ht hs pl pu (by rw[hlen];exact hw) ?_ (by rw[hlen];exact hz)
 rw[hlen]
 refine⟨.ref s.heap.objs.size,_,I.laid (t':=s.toks) (o:=.tup (kZ xs lo hi)) (λb ob q=>cX _ q) (a7 _) ?_,rfl,q _ (I.aK.fresh (a7 _))⟩
 exact⟨dD (L7 xs lo hi) hz,_,(r.drop (HT.bA xs.length 0 lo)).take (HT.bA xs.length xs.length hi-HT.bA xs.length 0 lo),l_.new _ _⟩
def U9(K:aA):R2:=λx y H Q=>∃a b xs ys,x = .ref a/\y = .ref b/\cy K H a xs/\cy K H b ys/\xs≠[]/\xs.length+ys.length<=bR /\
 (ys=[]->Q (.ref a) H)/\(ys≠[]->∀p,H p=none->Q (.ref p) (upd H p (.tup (xs++ys))))
theorem Vals.jb{xs:List V}{us:List Value}(r:Vals xs us):us=[]↔xs=[]:=by
 cases r with
 | nil=>simp
 | cons _ _=>simp
theorem U_:e9 X (gW .Add) (U9 X.K):=by
 intro pins s σ H x y v u Q I rx ry h
 obtain⟨a,b,xs,ys,rfl,rfl,ha,hb,hx,hz,q1,q2⟩:=h
 cases rx
 cases ry
 obtain⟨its,r1,p1,_⟩:=I.tuple ha
 obtain⟨oU,r2,p2,_⟩:=I.tuple hb
 refine HT.U0 p1 p2 (λz=>hx (r1.jb.mp z)) (λz=>⟨.ref a,H,I,rfl,q1 (r2.jb.mp z)⟩) (λz=>?_) (by rw[<-r1.length,<-r2.length];exact hz)
 refine⟨.ref s.heap.objs.size,_,I.laid (t':=s.toks) (o:=.tup (xs++ys)) (λb ob q=>cX _ q) (a7 _) ?_,rfl,q2 (λw=>z (r2.jb.mpr w)) _ (I.aK.fresh (a7 _))⟩
 exact⟨by rw[dW];exact hz,_,r1.append r2,l_.new _ _⟩
end
end L2
namespace L2
open PySem PySem.Spec PyProof.Rows
def iV(n:Nat)(i:Int):Option Nat:=if 0<=i then (if i<n then some i.toNat else none) else if -(n:Int)<=i then some (i+n).toNat else none
def cS{α:Type}(xs:List α)(i:Int):Option α:=(iV xs.length i).bind λj=>xs[j]?
theorem L8{n:Nat}{i:Int}{j:Nat}(h:iV n i=some j):Sv i n=some j/\j<n /\ -(n:Int)<=i/\i<n:=by
 unfold iV at h
 by_cases h0:0<=i
 ·rw[if_pos h0] at h
  by_cases h1:i<n
  ·rw[if_pos h1] at h
   have e:i.toNat=j:=kK h
   exact⟨by rw[Sw h0 h1,e],by lia,by lia,h1⟩
  ·rw[if_neg h1] at h;cases h
 ·rw[if_neg h0] at h
  by_cases h1:-(n:Int)<=i
  ·rw[if_pos h1] at h
   have e:(i+n).toNat=j:=kK h
   exact⟨by rw[Sy (by lia) h1,e],by lia,h1,by lia⟩
  ·rw[if_neg h1] at h;cases h
theorem DO{α:Type}{xs:List α}{i:Int}{v:α}(h:cS xs i=some v):∃j,Sv i xs.length=some j/\xs[j]? = some v/\j<xs.length /\ -(xs.length:Int)<=i/\i<xs.length:=by
 unfold cS at h
 cases e:iV xs.length i with
 | none=>rw[e] at h;cases h
 | some j =>
   rw[e] at h
   obtain⟨h1,h2,h3,h4⟩:=L8 e
   exact⟨j,h1,h,h2,h3,h4⟩
def DP(b:Expr):Prop:=∀o i,subscripted b false o i=operate [o,i] (wI o i)
def DQ(X:Cx)(r:R2):Prop :=
 ∀(value slice:Expr) (pins:List (Addr×Obj)) (s:ah) (σ:St) (H:Hp) (x y:V) (v u:Value) (Q:VK),Inv X pins σ H s->RelV x v->RelV y u->r x y H Q ->
  subscripted slice false v u=operate [v,u] (wI v u)->au (aB X.prog X.w) X.A (subscriptTail value slice v u) (EP X pins σ Q) X.xe s
section
variable {X:Cx}{a b:Expr}{ta tb:TE}{pos:Pos}
def Va(K:aA):R2:=λx y H Q=>∃p xs i v,x = .ref p/\y = .int i/\b9 K H p xs/\cS xs i=some v/\Q v H
def Vb(K:aA):R2:=λx y H Q=>∃p xs i v,x = .ref p/\y = .int i/\cy K H p xs/\cS xs i=some v/\Q v H
def Vc:R2:=λx y H Q=>∃z i c,x = .str z/\y = .int i/\z.length<=bR/\cS z.cps.toList i=some c/\Q (.str ⟨#[c]⟩) H
theorem L9:DQ X (Va X.K):=by
 intro value slice pins s σ H x y v u Q I rx ry h hs
 obtain⟨p,xs,i,z,rfl,rfl,hq,he,q⟩:=h
 cases rx
 obtain⟨t,rfl⟩:=ry
 obtain⟨its,r,pl,hz⟩:=I.list hq
 obtain⟨j,h1,h2,h3,h4,h5⟩:=DO he
 obtain⟨w,ew,DR⟩:=r.get h2
 have hl:=r.length
 have hn:=uP
 have fin:EP X pins σ Q w s:=⟨z,H,I,DR,q⟩
 by_cases h0:0<=i
 ·have hj:i.toNat=j:=by
   rw[Sw h0 h5] at h1
   exact kK h1
  exact item_listR pl.isList h0 (by lia) (by rw[hj];simpa using ew) fin hs
 ·have hj:(i+(its.toArray.size:Int)).toNat=j:=by
   rw[Sy (by lia) h4] at h1
   rw[cY,<-hl]
   exact kK h1
  exact a8f (x:=w) pl.isList.typeIs slot_list_getitem.lookup
   (wpAny_getItem_list_neg (Q:=λr s'=>r=w/\EP X pins σ Q r s') pl.isList (by lia) (by rw[cY]<;>lia) (by lia) (by rw[hj];simpa using ew) ⟨rfl,fin⟩) hs
theorem L_:DQ X (Vb X.K):=by
 intro value slice pins s σ H x y v u Q I rx ry h hs
 obtain⟨p,xs,i,z,rfl,rfl,hq,he,q⟩:=h
 cases rx
 obtain⟨t,rfl⟩:=ry
 obtain⟨its,r,pl,hz⟩:=I.tuple hq
 obtain⟨j,h1,h2,h3,h4,h5⟩:=DO he
 obtain⟨w,ew,DR⟩:=r.get h2
 have hl:=r.length
 have hn:=uP
 have fin:EP X pins σ Q w s:=⟨z,H,I,DR,q⟩
 exact a8f (x:=w) pl.typeIs slot_tuple_getitem.lookup
  (getItem_tuple (j:=j) (Q:=λr s'=>r=w/\EP X pins σ Q r s') pl (by lia) (by lia) (by rw[cY,<-hl];exact h1) (by simpa using ew) ⟨rfl,fin⟩) hs
theorem Vd:DQ X Vc:=by
 intro value slice pins s σ H x y v u Q I rx ry h hs
 obtain⟨z,i,c,rfl,rfl,hz,he,q⟩:=h
 obtain⟨t,rfl⟩:=rx
 obtain⟨t',rfl⟩:=ry
 obtain⟨j,h1,h2,h3,h4,h5⟩:=DO he
 have hl:z.cps.toList.length=z.length:=by simp[wK]
 rw[hl] at h1 h4 h5
 have hn:=uP
 exact tail_any (typeIs_str s z t) slot_str_getitem.lookup (getItem_str (c:=c) (by
  have e1:decide (i < -(2^63:Int))=false:=decide_eq_false (by lia)
  have e2:decide (i≥2^63)=false:=decide_eq_false (by lia)
  rw[e1,e2,Sz]) (by rw[h1];simpa using h2) ⟨.str ⟨#[c]⟩,H,I.tok _,⟨_,rfl⟩,q⟩) hs
theorem Ve(its:List Value)(n j:Nat)(u:Value):wL (·.setIfInBounds j u) { cls:=.type "list",data:=.seq its.toArray n }={ cls:=.type "list",data:=.seq (its.set j u).toArray n }:=by
 simp[wL]
theorem Inv.lst{pins:List (Addr×Obj)}{σ:St}{H:Hp}{s:ah}{p:Addr}{xs:List V}(I:Inv X pins σ H s)(h:H p=some (.lst xs)) :
 ∃(its:List Value) (n:Nat),Vals xs its/\s.heap.get? p=some { cls:=.type "list",data:=.seq its.toArray n }/\xs.length<=bR:=by
 obtain⟨z,its,n,r,e⟩:=I.aK p _ h
 exact⟨its,n,r,e,z⟩
theorem Inv.Vf{pins:List (Addr×Obj)}{σ:St}{H:Hp}{s:ah}{p:Addr}{xs ys:List V}{its its':List Value}{n n':Nat}{f:Obj->Obj}(I:Inv X pins σ H s)(h:H p=some (.lst xs))
 (ho:s.heap.get? p=some { cls:=.type "list",data:=.seq its.toArray n }) (hf:f { cls:=.type "list",data:=.seq its.toArray n }={ cls:=.type "list",data:=.seq its'.toArray n' }) (r:Vals ys its') (hz:ys.length<=bR) (t:Nat) :
 Inv X pins σ (upd H p (.lst ys)) { s with heap:=s.heap.update p f,toks:=t }:=by
 have e:(s.heap.update p f).get? p=some { cls:=.type "list",data:=.seq its'.toArray n' }:=by
  rw[SA f ho (by rw[hf]<;>rfl),hf]
 refine I.write (x:=p) (e:=p) (by rw[h];trivial) (.inl rfl) (λb u hb q=>(Kz _ _ (dM hb)).trans q) ⟨_,e⟩ ?_
 exact⟨hz,its',n',r,e⟩
def Vg:V->V->V->Hp->(Hp->Prop)->Prop:=λo i v H Q=>∃p xs k j,o = .ref p/\i = .int k/\H p=some (.lst xs)/\iV xs.length k=some j/\Q (upd H p (.lst (xs.set j v)))
theorem Vh:Ut X Vg:=by
 intro pins s σ H o i v ov iv u Q I ro ri rv h
 obtain⟨p,xs,k,j,rfl,rfl,hp,hj,q⟩:=h
 cases ro
 obtain⟨t,rfl⟩:=ri
 obtain⟨its,n,r,ho,hz⟩:=I.lst hp
 obtain⟨h1,h2,h3,h4⟩:=L8 hj
 have hl:=r.length
 have hn:=uP
 have I':Inv X pins σ (upd H p (.lst (xs.set j v))) { s with heap:=s.heap.update p (wL (·.setIfInBounds j u)) } :=
  I.Vf hp ho (Ve its n j u) (r.set rv j) (by rw[fD];exact hz) s.toks
 by_cases h0:0<=k
 ·have hk:k.toNat=j:=by
   rw[Sw h0 h4] at h1
   exact kK h1
  exact PySem.W.ki_setAt ho h0 (by lia) (by rw[cY,<-hl];exact h4) (by rw[hk];exact⟨_,I',q⟩)
 ·have hk:(k+(its.toArray.size:Int)).toNat=j:=by
   rw[Sy (by lia) h3] at h1
   rw[cY,<-hl]
   exact kK h1
  exact PySem.W.ki_setBack ho (by lia) (by rw[cY,<-hl];exact h3) (by lia) (by rw[hk];exact⟨_,I',q⟩)
theorem Vi(lo hi:Option Int)(n:Nat):(wM lo hi none n).1=((HT.bA n 0 lo:Nat):Int)/\(wM lo hi none n).2.1=((HT.bA n n hi:Nat):Int)/\(wM lo hi none n).2.2=1:=by
 refine⟨?_,?_,rfl⟩
 ·cases lo with
  | none=>simp[wM,HT.bA]
  | some i =>
    simp only[wM,HT.bA,SD,show(1:Int)>0 by decide,if_true]
    by_cases h:i<0
    ·simp only[h,if_true]<;>lia
    ·simp only[h,if_false]<;>lia
 ·cases hi with
  | none=>simp[wM,HT.bA]
  | some i =>
    simp only[wM,HT.bA,SD,show(1:Int)>0 by decide,if_true]
    by_cases h:i<0
    ·simp only[h,if_true]<;>lia
    ·simp only[h,if_false]<;>lia
theorem Vj(its:List Value)(lo hi:Option Int):slicePick its.toArray lo hi none=((its.drop (HT.bA its.length 0 lo)).take (HT.bA its.length its.length hi-HT.bA its.length 0 lo)).toArray:=by
 obtain⟨h1,h2,h3⟩:=Vi lo hi its.toArray.size
 unfold slicePick
 rw[h1,h2,h3]
 simp only[sliceRange_one,pick_run,cY]<;>rfl
def Vk(K:aA):V->Option Int->Option Int->Hp->VK->Prop:=λx lo hi H Q=>∃a xs,x = .ref a/\b9 K H a xs/\∀p,H p=none->Q (.ref p) (upd H p (.lst (kZ xs lo hi)))
theorem Ma:oS X (Vk X.K):=by
 intro pins s σ H x v vl vu lo hi sl Q I rx hs pl pu h
 obtain⟨a,xs,rfl,hx,q⟩:=h
 cases rx
 obtain⟨its,r,ht,hz⟩:=I.list hx
 have hlen:=r.length
 refine⟨"list",_,slot_list_getitem.lookup,ht.isList.typeIs,?_⟩
 refine wpAny_getItem_list_slice ht.isList hs pl pu .none (by simp) ?_ (by rw[cY]<;>lia)
 rw[Vj,<-hlen]
 refine⟨.ref s.heap.objs.size,_,I.laid (t':=s.toks) (o:=.lst (kZ xs lo hi)) (λb ob q=>cX _ q) (a7 _) ?_,rfl,q _ (I.aK.fresh (a7 _))⟩
 exact⟨dD (L7 xs lo hi) hz,_,0,(r.drop (HT.bA xs.length 0 lo)).take (HT.bA xs.length xs.length hi-HT.bA xs.length 0 lo),fu _ rfl⟩
theorem Vl:iU X (.builtin "len") (λxs H Q=>∃p ys,xs=[.ref p]/\(b9 X.K H p ys∨cy X.K H p ys)/\Q (.int ys.length) H):=by
 intro pins s σ H xs us Q I r h
 obtain⟨p,ys,rfl,hq,q⟩:=h
 obtain⟨u,rfl,rx⟩:=oR r
 cases rx
 have hn:=uP
 rcases hq with hq | hq
 ·obtain⟨its,r',pl,hz⟩:=I.list hq
  have hlen:=r'.length
  exact a7v pl.isList (by simp only[cY]<;>lia) ⟨.int ys.length,H,I.tok _,⟨s.toks+1,by rw[cY,hlen]⟩,q⟩
 ·obtain⟨its,r',pl,hz⟩:=I.tuple hq
  have hlen:=r'.length
  exact Sg pl (by simp only[cY]<;>lia) ⟨.int ys.length,H,I.tok _,⟨s.toks+1,by rw[cY,hlen]⟩,q⟩
theorem iU.or{f:Value}{r r':List V->Hp->VK->Prop}(h:iU X f r)(h':iU X f r'):iU X f (λxs H Q=>r xs H Q∨r' xs H Q):=by
 intro pins s σ H xs us Q I rs q
 rcases q with q | q
 ·exact h pins s σ H xs us Q I rs q
 ·exact h' pins s σ H xs us Q I rs q
theorem Vm:iU X (.type "list") (λxs H Q=>∃p ys,xs=[.ref p]/\(b9 X.K H p ys∨cy X.K H p ys)/\∀l,H l=none->Q (.ref l) (upd H l (.lst ys))):=by
 intro pins s σ H xs us Q I r h
 obtain⟨p,ys,rfl,hq,q⟩:=h
 obtain⟨u,rfl,rx⟩:=oR r
 cases rx
 have fin:∀(its:List Value),Vals ys its->ys.length<=bR->∀(h':Heap) (c':Nat),(∀b o',s.heap.get? b=some o'->h'.get? b=some o') ->
  h'.get? s.heap.objs.size=some { cls:=.type "list",dict:=none,data:=.seq its.toArray c',slots:=#[] }->EP X pins σ Q (.ref s.heap.objs.size) { s with heap:=h' }:=λits r' hz h' c' kp e =>
  ⟨.ref s.heap.objs.size,_,I.laid (t':=s.toks) kp (a7 _) (show iT X.prog X.w _ h' _ (.lst ys) from⟨hz,its,c',r',e⟩),rfl,q _ (I.aK.fresh (a7 _))⟩
 rcases hq with hq | hq
 ·obtain⟨its,r',pl,hz⟩:=I.list hq
  have hlen:=r'.length
  obtain⟨o,ho,hc,n,hd⟩:=pl.isList
  exact call_list_seq p (.inl rfl) ho hc hd (λh' c' kp e=>fin its r' hz h' c' kp e) (by simp only[cY]<;>lia)
 ·obtain⟨its,r',pl,hz⟩:=I.tuple hq
  have hlen:=r'.length
  obtain⟨o,ho,hc,n,hd⟩:=pl
  exact call_list_seq p (.inr rfl) ho hc hd (λh' c' kp e=>fin its r' hz h' c' kp e) (by simp only[cY]<;>lia)
theorem Vn:iU X (.type "tuple") (λxs H Q=>∃p ys,xs=[.ref p]/\((b9 X.K H p ys/\∀l,H l=none->Q (.ref l) (upd H l (.tup ys)))∨(cy X.K H p ys/\Q (.ref p) H))):=by
 intro pins s σ H xs us Q I r h
 obtain⟨p,ys,rfl,h⟩:=h
 obtain⟨u,rfl,rx⟩:=oR r
 cases rx
 rcases h with ⟨hq,q⟩ | ⟨hq,q⟩
 ·obtain⟨its,r',pl,hz⟩:=I.list hq
  have hlen:=r'.length
  refine call_tuple_list pl.isList (λh' kp=>?_) (by simp only[cY]<;>lia)
  have I1:Inv X pins σ H { s with heap:=h' }:=I.kept (t':=s.toks) kp
  have I2:Inv X pins σ (upd H h'.objs.size (.tup ys)) { s with heap:=h'.push { cls:=.type "tuple",data:=.seq its.toArray } } :=
   I1.laid (t':=s.toks) (λb o e=>cX _ e) (a7 _) (show iT X.prog X.w _ _ _ (.tup ys) from⟨hz,its,r',l_.new _ _⟩)
  exact⟨.ref h'.objs.size,_,I2,rfl,q _ (I1.aK.fresh (a7 _))⟩
 ·obtain⟨its,r',pl,hz⟩:=I.tuple hq
  exact call_tuple_same pl ⟨.ref p,H,I,rfl,q⟩
def Vo(K:aA)(T:String)(x:V)(H:Hp):Prop:=match x with
 | .str _=>T="str"
 | .int _=>T="int"
 | .ref p=>(T="list"/\∃xs,b9 K H p xs)∨(T="tuple"/\∃o,K.lookup p=some o/\o.cls = .type "tuple"/\o.dict=none) ∨
    (T="dict"/\((∃gp,H p=some (.dK gp))∨∃gp,H p=some (.dT gp)))∨(T="set"/\∃S n,H p=some (.set S n))
 | _=>False
theorem AE{pins:List (Addr×Obj)}{σ:St}{H:Hp}{s:ah}{T:String}{x:V}{v:Value}(I:Inv X pins σ H s)(r:RelV x v)(ty:Vo X.K T x H) :
 s.TypeIs v T/\∀a,v = .ref a->∃ob,s.heap.get? a=some ob/\ob.dict=none:=by
 cases x with
 | str z =>
   obtain⟨t,rfl⟩:=r
   cases (show T="str" from ty)
   exact⟨typeIs_str s z t,λ_ e=>nomatch e⟩
 | int i =>
   obtain⟨t,rfl⟩:=r
   cases (show T="int" from ty)
   exact⟨typeIs_int s i t,λ_ e=>nomatch e⟩
 | ref p =>
   cases r
   rcases ty with ⟨rfl,xs,hq⟩ | ⟨rfl,o,hk,hc,hd⟩ | ⟨rfl,hk⟩ | ⟨rfl,S,n,hk⟩
   ·obtain⟨its,_,pl,_⟩:=I.list hq
    refine⟨pl.isList.typeIs,λa e=>?_⟩
    cases e
    obtain⟨o,n,e,c,hd,_⟩:=pl
    exact⟨o,e,hd⟩
   ·refine⟨⟨o,I.fS p o hk,hc⟩,λa e=>?_⟩
    cases e
    exact⟨o,I.fS _ o hk,hd⟩
   ·have z:∃o,s.heap.get? p=some o/\o.ExactDict:=by
     rcases hk with ⟨gp,hk⟩ | ⟨gp,hk⟩
     ·obtain⟨_,_,_,_,o,_,_,e,ex,_⟩:=I.aK p _ hk
      exact⟨o,e,ex⟩
     ·obtain⟨_,_,_,_,o,_,_,e,ex,_⟩:=I.aK p _ hk
      exact⟨o,e,ex⟩
    obtain⟨o,e,ex⟩:=z
    refine⟨⟨o,e,ex.1⟩,λa e2=>?_⟩
    cases e2
    exact⟨o,e,ex.2.1⟩
   ·obtain⟨o,_,_,_,e,ex,_⟩:=I.aK p _ hk
    refine⟨⟨o,e,ex.1⟩,λa e2=>?_⟩
    cases e2
    exact⟨o,e,ex.2.1⟩
 | _=>exact b6 ty
variable {o e:Expr}{es:List Expr}{to:TE}{t:TA}{name:Str}{apos cD:Pos}{T id:String}{r:V->List V->Hp->VK->Prop}
end
end L2
namespace L2
open PySem PySem.Spec PyProof.Rows
def DS(X:Cx)(id:String)(r:V->List V->Hp->VK->Prop):Prop :=
 ∀(pins:List (Addr×Obj)) (s:ah) (σ:St) (H:Hp) (x:V) (xs:List V) (v:Value) (us:List Value) (Q:VK),Inv X pins σ H s->RelV x v->Vals xs us->r x xs H Q ->
  au (aB X.prog X.w) X.A (call (.builtin id) (v::us)) (EP X pins σ Q) X.xe s
theorem Vals.one:∀{x:V} {us:List Value},Vals [x] us->∃u,us=[u]/\RelV x u
 | _,_,.cons r .nil=>⟨_,rfl,r⟩
theorem Vals.zero:∀{us:List Value},Vals [] us->us=[]
 | _,.nil=>rfl
theorem Vals.dropLast{xs:List V}{us:List Value}(h:Vals xs us):Vals xs.dropLast us.dropLast:=by
 induction h with
 | nil=>exact .nil
 | cons r t ih =>
   cases t with
   | nil=>exact .nil
   | cons q t'=>exact .cons r ih
theorem Vals.reverse{xs:List V}{us:List Value}(h:Vals xs us):Vals xs.reverse us.reverse:=by
 induction h with
 | nil=>exact .nil
 | cons r t ih=>rw[zW,zW];exact Vals.append ih (.cons r .nil)
theorem Vals.rep{xs:List V}{us:List Value}(h:Vals xs us):∀k:Nat,Vals (dN k xs).flatten (dN k us).flatten
 | 0=>.nil
 | k+1=>by
   rw[pF,pF,zX,zX]
   exact Vals.append h (Vals.rep h k)
theorem Vp{α:Type}(l:List α):l.eraseIdx (l.length-1)=l.dropLast:=by
 induction l with
 | nil=>rfl
 | cons a r ih =>
   cases r with
   | nil=>rfl
   | cons b r =>
     have e:(a::b::r).length-1=((b::r).length-1)+1:=by
      have h1:(a::b::r).length=r.length+2:=rfl
      have h2:(b::r).length=r.length+1:=rfl
      lia
     rw[e,List.eraseIdx_cons_succ,ih]
     all_goals rfl
theorem Mb(its:List Value):∀(k:Nat) (acc:List Value),
 List.foldl (λx1 x2=>x1++x2) acc.toArray (dN k its.toArray)=(acc++(dN k its).flatten).toArray
 | 0,acc=>by simp
 | k+1,acc=>by
   have e:acc.toArray++its.toArray=(acc++its).toArray:=by simp
   have e2:(acc++its)++(dN k its).flatten=acc++(dN (k+1) its).flatten:=by
    rw[pF,zX,pG]
   rw[<-e2,<-Mb its k (acc++its),<-e,pF,SE]
section
variable {X:Cx}{pins:List (Addr×Obj)}{σ:St}{H:Hp}{s:ah}{l b:Addr}{xs ys zs:List V}
theorem Inv.DT{its its':List Value}{n:Nat}{f:Array Value->Array Value}{t':Nat}(I:Inv X pins σ H s)(hH:H l=some (.lst xs))
 (e:s.heap.get? l=some { cls:=.type "list",data:=.seq its.toArray n }) (hf:f its.toArray=its'.toArray) (hv:Vals ys its') (hz:ys.length<=bR) :
 Inv X pins σ (upd H l (.lst ys)) { s with heap:=s.heap.update l (wL f),toks:=t' }:=by
 have q:=PySem.IsL.update e f
 rw[hf] at q
 refine I.write (x:=l) (e:=l) (by rw[hH];exact trivial) (.inl rfl) (λb' u hb hu=>(Kz s.heap (wL f) (dM hb)).trans hu) ⟨_,q⟩ ?_
 exact⟨hz,its',_,hv,q⟩
theorem Inv.Mc{its:List Value}{t':Nat}(I:Inv X pins σ H s)(hv:Vals ys its)(hz:ys.length<=bR) :
 Inv X pins σ (upd H s.heap.objs.size (.lst ys)) { s with heap:=s.heap.push { cls:=.type "list",data:=.seq its.toArray },toks:=t' } :=
 I.laid (λ_ _ q=>cX _ q) (a7 _) ⟨hz,its,0,hv,fu _ rfl⟩
theorem Inv.fresh(I:Inv X pins σ H s):H s.heap.objs.size=none:=I.aK.fresh (a7 _)
theorem Inv.uS(I:Inv X pins σ H s)(hH:H l=some (.lst xs)):xs.length<=bR/\∃(its:List Value) (n:Nat),Vals xs its/\xs.length=its.length/\s.heap.get? l=some { cls:=.type "list",data:=.seq its.toArray n }:=by
 obtain⟨z,its,n,r,e⟩:=I.aK l _ hH
 exact⟨z,its,n,r,r.length,e⟩
theorem Vq{n:Nat}(h:n<=bR):SF n=false:=by
 unfold SF
 exact decide_eq_false (by lia)
end
section
variable {X:Cx}
def Vr:V->List V->Hp->VK->Prop:=λx vs H Q=>∃l xs y,x = .ref l/\vs=[y]/\H l=some (.lst xs)/\xs.length<bR/\Q .cH (upd H l (.lst (xs++[y])))
theorem Md:DS X "list.append" Vr:=by
 intro pins s σ H x vs v us Q I rx rv h
 obtain⟨l,xs,y,rfl,rfl,hH,hz,q⟩:=h
 cases rx
 obtain⟨u,rfl,ru⟩:=rv.one
 obtain⟨z,its,n,r,hl,e⟩:=I.uS hH
 refine qU F.slot_list_append ⟨_,e,rfl⟩ F.entry_list_append (F.args_list_append_2 _ _) (PySem.list_append l its.toArray n u (by rw[cY];lia)) ⟨e,?_⟩
 refine⟨.cH,_,I.DT (its':=its++[u]) hH e (by simp) (r.append (.cons ru .nil)) ?_,rfl,q⟩
 rw[dW,KA]
 lia
def Vs:V->List V->Hp->VK->Prop:=λx vs H Q=>∃l b xs zs,x = .ref l/\vs=[.ref b]/\H l=some (.lst xs)/\H b=some (.lst zs)/\xs.length+zs.length<=bR/\Q .cH (upd H l (.lst (xs++zs)))
theorem Vt:DS X "list.extend" Vs:=by
 intro pins s σ H x vs v us Q I rx rv h
 obtain⟨l,b,xs,zs,rfl,rfl,hH,hB,hz,q⟩:=h
 cases rx
 obtain⟨u,rfl,ru⟩:=rv.one
 cases ru
 obtain⟨z,its,n,r,hl,e⟩:=I.uS hH
 obtain⟨z2,oU,n2,r2,AF,e2⟩:=I.uS hB
 have jA:its.toArray.size+oU.toArray.size<=bR:=by rw[cY,cY];lia
 have Vu:¬(!its.toArray.isEmpty&&SF (its.toArray.size+oU.toArray.size))=true:=by
  rw[Vq jA,Bool.and_false]
  exact sv
 refine qU F.slot_list_extend ⟨_,e,rfl⟩ F.entry_list_extend (F.args_list_extend_2 _ _)
  (AutoSeq1.list_extend_list_list_0 l its.toArray n b oU.toArray n2 Vu (by rw[cY];lia) (by lia)) ⟨e,e2,?_⟩
 refine⟨.cH,_,I.DT (its':=its++oU) hH e (by simp) (r.append r2) ?_,rfl,q⟩
 rw[dW]
 lia
def Vv:V->List V->Hp->VK->Prop:=λx vs H Q=>∃l xs y,x = .ref l/\vs=[]/\H l=some (.lst xs)/\xs[xs.length-1]? = some y/\Q y (upd H l (.lst xs.dropLast))
theorem Vw:DS X "list.pop" Vv:=by
 intro pins s σ H x vs v us Q I rx rv h
 obtain⟨l,xs,y,rfl,rfl,hH,hy,q⟩:=h
 cases rx
 have Vx:=rv.zero
 subst Vx
 obtain⟨z,its,n,r,hl,e⟩:=I.uS hH
 obtain⟨u,hu,ru⟩:=r.get hy
 have AG:its.toArray[its.toArray.size-1]? = some u:=by
  show its.toArray[its.length-1]? = some u
  rw[<-SG,<-hl]
  exact hu
 refine qU F.slot_list_pop ⟨_,e,rfl⟩ F.entry_list_pop (F.args_list_pop_1 _) (MeetsSeq.list_pop_last l its.toArray n u AG (by rw[cY];lia)) ⟨e,?_⟩
 refine⟨y,_,I.DT (its':=its.dropLast) hH e ?_ r.dropLast ?_,ru,q⟩
 ·show its.toArray.eraseIdxIfInBounds (its.toArray.size-1)=its.dropLast.toArray
  rw[cY,List.eraseIdxIfInBounds_toArray,Vp]
 ·rw[a8g]
  lia
def Vy:R2:=λx y H Q=>∃l b xs zs,x = .ref l/\y = .ref b/\H l=some (.lst xs)/\H b=some (.lst zs)/\xs.length+zs.length<=bR/\∀p,H p=none->Q (.ref p) (upd H p (.lst (xs++zs)))
theorem Vz:e9 X (gW .Add) Vy:=by
 intro pins s σ H x y v u Q I rx ry h
 obtain⟨l,b,xs,zs,rfl,rfl,hH,hB,hz,q⟩:=h
 cases rx
 cases ry
 obtain⟨z,its,n,r,hl,e⟩:=I.uS hH
 obtain⟨z2,oU,n2,r2,AF,e2⟩:=I.uS hB
 refine PySem.P.add_list e e2 ?_ (by rw[cY,cY];lia)
 have ea:its.toArray++oU.toArray=(its++oU).toArray:=by simp
 rw[ea]
 exact⟨.ref _,_,I.Mc (t':=s.toks) (r.append r2) (by rw[dW];lia),rfl,q _ I.fresh⟩
theorem Me{α:Type}(xs:List α)(k:Nat):(dN k xs).flatten.length=k*xs.length:=by
 induction k with
 | zero=>simp
 | succ k ih=>rw[pF,zX,dW,ih,Nat.succ_mul,Nat.add_comm]
end
section
variable {prog:aQ}{w:aN}{A:Around}{E:Value->ah->Prop}{s:ah}
end
section
variable {X:Cx}
end
end L2
namespace Mf
open PySem PySem.W PySem.Calls PyProof.Rows
theorem VA{P:qV}{h:Heap}:∀(ns:List Int) (vs:List Value),WellAll P h vs (ns.map WData.int)->uB vs ns:=by
 intro ns
 induction ns with
 | nil =>
   intro vs w
   rw[su] at w
   cases w
   exact .nil
 | cons n ns ih =>
   intro vs w
   rw[e8] at w
   cases w with
   | cons a b =>
     cases a
     exact .cons _ _ (ih _ b)
theorem VB{l:OpenLaw}{n:Nat}(hn:l.most=some n){P:qV}{h:Heap}{args:List WData}{vals:List Value}
 (AH:l.row.toRowW.claim.pre args=true) (DU:WellAll P h vals args) :
 ∃a vs ns,vals=[ft a]/\args=[WData.list (ns.map WData.int)]/\h.get? a=some { cls:=.type "list",data:=.seq vs.toArray }/\uB vs ns/\ns.length<=n:=by
 have VC:WShape.hasAll [] args [.list .int]=true:=(pre_splitW AH).1
 have hc:l.pre.holds [] { args:=args }=true:=(pre_splitW AH).2
 obtain⟨d,r,rfl,h1,h2⟩:=hasAllW_cons VC
 obtain rfl:=hasAllW_nil h2
 obtain⟨xs,rfl,h3⟩:=hasW_list h1
 obtain⟨ns,rfl⟩:=items_int h3
 have hlen:ns.length<=n:=by
  unfold OpenLaw.pre at hc
  have h4:(WTm.not (.lt (.lit (.int (n:Int))) (.len (.arg 0)))).holds [] { args:=[.list (ns.map .int)] }=true:=by
   have h4:=(holds_andW hc).1
   rw[hn] at h4
   exact h4
  have h5:=condW_of h4 (w_not (w_lt w_lit (w_len_list (w_arg rfl))))
  rw[a6] at h5
  refine C4 λq=>?_
  have q':(n:Int)<((ns.length:Nat):Int):=by lia
  first
   | (rw[decide_eq_true q'] at h5;exact absurd h5 (by decide))
   | (simp at h5;lia)
 cases DU with
 | cons w1 w2 =>
   cases w2
   cases w1 with
   | list ho xB=>exact⟨_,_,ns,rfl,rfl,ho,VA ns _ xB,hlen⟩
theorem VD(l:OpenLaw)(args:List WData):l.row.toRowW.claim.post args (.bool true) args=true :=
 postW_of (r:=l.row.toRowW) (X:=(true==true))
  (show WShape.has [] (.bool true) .bool=true by first | rfl | decide | simp[WShape.has,WShape.arms,WShape.armsAll])
  (show(WTm.eq .res (.lit (.bool true))).value [] { args:=args,res:=some (.bool true),after:=args }=some (.bool (true==true)) from w_eq_bool (w_res rfl) w_lit) rfl
theorem VE{l:OpenLaw}{n:Nat}{q:aQ}{loose:List Str}{XP:(Str->Option Value)->Heap->Prop}{YP:aN->Heap->Prop}{d:DefRec}
 (hn:l.most=some n) (xC:d.params.defaults=[])
 (call:∀(w:aN) (s₀ cq:ah) (mg mb:Str->Option Value) (fa:Addr) (o:Obj) (pm cd doc:Value) (a:Addr) (vs:List Value) (ns:List Int),
   Ground q loose [] XP w s₀ mg mb cq.heap->YP w cq.heap ->
   cq.heap.get? fa=some o->o.data = .func (docDef d.name d.params d.body d.scope pm cd doc)->cq.heap.CodeRec cd d.name->mg d.name=some (.ref fa) ->
   cq.heap.get? a=some { cls:=.type "list",data:=.seq vs.toArray }->uB vs ns->ns.length<=n->cq.gens=#[] ->
   iQ (aB l.prog w) uC (.call (.ref fa) ⟨[.ref a],[]⟩) (λr s'=>r = .ok (.ret (.bool true))/\OldK cq.heap s'.heap/\s'.os=cq.os/\m_ s'.gens) cq) :
 WalkO q loose XP YP l.row.toRowW d [] (λf vs=>SH f vs):=by
 intro w s₀ cq mg mb G Y fa o pm cd doc dV kV ho hd dE hD pZ hg args vals as AH b0v hrd DU hlo
 obtain rfl:dV = .none:=Dflts.none hD xC
 obtain rfl:kV = .none:=Dflts.noKw hD
 obtain⟨a,vs,ns,rfl,rfl,DV,hints,hlen⟩:=VB hn AH DU
 refine enter_call (qW (call w s₀ cq mg mb fa o pm cd doc a vs ns G Y ho (fd_plain hd) dE pZ DV hints hlen hg) λr s' hq=>?_)
 obtain⟨rfl,h2,h3,h4⟩:=hq
 exact⟨.inl ⟨.bool true,.bool true,[],rfl,λ_=>rfl,.bool true,VD l _,λ_=>⟨List.Pairwise.nil,λ_ hm=>(nomatch hm)⟩⟩,h2,h3,h4⟩
section
variable {prog:aQ}{w:aN}{A:Around}{E:Value->ah->Prop}{s:ah}{K:Frag}
end
end Mf
namespace L2
open PySem PySem.Spec PyProof.Rows
theorem Mg:∀{vs:List Value} {ns:List Int},uB vs ns->Vals (ns.map V.int) vs
 | _,_,.nil=>.nil
 | _,_,.cons n t h=>.cons ⟨t,rfl⟩ (Mg h)
def DW(H:Hp):Prop:=∀b,H b=none∨∃o xs,H b=some (.gq o (.lst xs))
theorem VF{P:aQ}{w:aN}{K:aA}{mg mb:Str->Option Value}{CX:kX}{k:Nat}{fa a:Addr}{fd:cG}{x:Str}{sp:Sp}{cq:ah}{vs:List Value}{ns:List Int}
 (KX:K.In cq.heap) (rm:cq.heap.Ns cQ mg) (hb:cq.heap.Ns R_ mb) (VG:∀x:Str,x≠"__name__"->mb x=lU x) (VH:cq.heap.NoLimit) (hg:cq.gens=#[])
 (ha:cq.heap.get? a=some { cls:=.type "list",data:=.seq vs.toArray }) (hi:uB vs ns) (hl:ns.length<=bR) (hr:eh k uC)
 (F:∀base:Heap,K.In base->base.Ns cQ mg->ja P w K mg base CX k fa fd [x] sp) (VI:∀(s:ah) (u:Value),BindsTo s fd ⟨[u],[]⟩ [(x,u)])
 (dZ:∀H:Hp,DW H->b9 K H a (ns.map V.int)->sp [.ref a] H (λv _=>v = .bl true) λ_ _ _=>False)
 (xD:∀H e s',CX [] H cq (λ_ _ _=>False) e s'->False) :
 iQ (aB P w) uC (.call (.ref fa) ⟨[.ref a],[]⟩) (λr s'=>r = .ok (.ret (.bool true))/\OldK cq.heap s'.heap/\s'.os=cq.os/\m_ s'.gens) cq:=by
 have rv:=Mg hi
 have VJ:=hi.length
 have core:∀H:Hp,DW H->b9 K H a (ns.map V.int)->dY P w H cq.heap->(∀b,H b≠none->b=a)->(H a≠none->K.lookup a=none) ->
  iQ (aB P w) uC (.call (.ref fa) ⟨[.ref a],[]⟩) (λr s'=>r = .ok (.ret (.bool true))/\OldK cq.heap s'.heap/\s'.os=cq.os/\m_ s'.gens) cq:=by
  intro H hO hS aK hA hK
  have Mh:∀{b:Addr} {o:Obj},cq.heap.get? b=some o->H b=none->(jx cq.heap H).get? b=some o:=λe n=>DA e n
  have xw:∀{b:Addr} {o:Obj} {es:Array DictEntry} {ep:Nat},cq.heap.get? b=some o->o.data = .dict es ep->H b=none:=λ{b o es ep} e d=>by
   cases q:H b with
   | none=>rfl
   | some u =>
     have e':b=a:=hA b (by rw[q];simp)
     subst e'
     rw[ha] at e;cases e
     have d':Data.seq vs.toArray _=Data.dict es ep:=d
     cases d'
  have AI:∀{b:Addr} {m:Str->Option Value},cq.heap.Ns b m->(jx cq.heap H).Ns b m:=λ{b m} ⟨o,es,ep,e,d,r⟩=>⟨o,es,ep,Mh e (xw e d),d,r⟩
  have Mi:K.In (jx cq.heap H):=λb o e=>Mh (KX b o e) (by
   cases q:H b with
   | none=>rfl
   | some u =>
     have e':b=a:=hA b (by rw[q];simp)
     subst e'
     rw[hK (by rw[q];simp)] at e;cases e)
  have hM:Mod K mg (jx cq.heap H):=⟨Mi,AI rm,⟨mb,AI hb,VG⟩,let ⟨mc,h1,h2⟩:=VH;⟨mc,AI h1,h2⟩⟩
  have e0:uQ P w K mg (jx cq.heap H) uC [] cq H:=⟨rfl,hM,λb o e=>DB e,Nat.le_of_eq (Ug _ _),trivial,λb hb=>absurd (show b∈([]:List Addr) from hb) (by simp),aK,.of_eq hg⟩
  refine qW ((F _ Mi (AI rm)).run uC [] cq H ⟨[.ref a],[]⟩ [.ref a] [.ref a] _ _ hr e0 (VI cq (.ref a)) (.cons rfl .nil) (dZ H hO hS)) λr s' h=>?_
  cases r with
  | error e=>exact(xD H e s' h).elim
  | ok fl =>
    cases fl with
    | next=>exact b6 h
    | brk=>exact b6 h
    | cont=>exact b6 h
    | ret u =>
      obtain⟨v,H',os,bare,un,VL,r',q⟩:=h
      have q':v = .bl true:=q
      subst q'
      obtain rfl:u=CZ true:=r'
      refine⟨rfl,OldK.of_keep λb o e=>?_,os,bare⟩
      cases q:H b with
      | none=>exact un.keep b o e q (by intro z;exact absurd (show b∈([]:List Addr) from z) (by simp)) (by simp)
      | some u =>
        rcases hO b with z | ⟨ob,xs,z⟩
        ·rw[q] at z;cases z
        ·have z2:=un.jS b ob _ z
         obtain⟨e1,_⟩:=aK b _ z
         obtain⟨e2,_⟩:=VL b _ z2
         rw[e] at e1;cases e1
         exact e2
 cases hk:K.lookup a with
 | some o =>
   have e:=KX a o hk
   rw[ha] at e
   cases e
   refine core (λ_=>none) (λ_=>.inl rfl) (.inr ⟨_,vs.toArray,_,hk,rfl,rfl,rfl,by rw[cY,VJ];exact hl,by simpa using rv⟩) (λb u z=>by have z':(none:Option HO)=some u:=z;cases z') (λb z=>absurd rfl z) λz=>absurd rfl z
 | none =>
   refine core (λb=>if b=a then some (.gq { cls:=.type "list",data:=.seq vs.toArray } (.lst (ns.map V.int))) else none) (λb=>?_) (.inl (.inr ⟨{ cls:=.type "list",data:=.seq vs.toArray },if_pos rfl⟩)) (λb u z=>?_) (λb z=>?_) λ_=>hk
   ·by_cases hb:b=a
    ·exact .inr ⟨_,_,if_pos hb⟩
    ·exact .inl (if_neg hb)
   ·by_cases hb:b=a
    ·have z':=(if_pos hb).symm.trans z
     cases z'
     subst hb
     exact⟨ha,by rw[a6];exact hl,vs,_,rv,ha⟩
    ·have z':=(if_neg hb).symm.trans z
     cases z'
   ·by_cases hb:b=a
    ·exact hb
    ·exact absurd (if_neg hb) z
end L2
namespace L2
open PySem PySem.Spec PyProof.Rows
abbrev Mj {K:aA} {h:Heap} (_:K.In h):aA:=K
theorem Ml{l:a8h}{n k:Nat}{q:aQ}{loose:List Str}{XP:(Str->Option Value)->Heap->Prop}{YP:aN->Heap->Prop}{d:DefRec}{K:qV->aA}{CX:aN->kX}{sp:aN->Sp}{x:Str}
 (hn:l.most=some n) (AJ:n<=bR) (xC:d.params.defaults=[]) (hr:eh k uC)
 (hY:∀(w:aN) (h:Heap),YP w h->(K w.params).In h)
 (F:∀(w:aN) (mg:Str->Option Value) (fa:Addr) (h:Heap),(K w.params).In h->h.Ns cQ mg->mg d.name=some (.ref fa) ->
   ∃fd:cG,(∀(s:ah) (u:Value),BindsTo s fd ⟨[u],[]⟩ [(x,u)]) /\
    ∀base:Heap,(K w.params).In base->base.Ns cQ mg->ja l.prog w (K w.params) mg base (CX w) k fa fd [x] (sp w))
 (dZ:∀(w:aN) (H:Hp) (a:Addr) (ns:List Int),ns.length<=n->DW H->b9 (K w.params) H a (ns.map V.int)->sp w [.ref a] H (λv _=>v = .bl true) λ_ _ _=>False)
 (xD:∀(w:aN) (H:Hp) (s:ah) (e:Value) (s':ah),CX w [] H s (λ_ _ _=>False) e s'->False) :
 PySem.W.WalkO q loose XP YP l.row.toRowW d [] (λf vs=>SH f vs):=by
 refine Mf.VE hn xC λw s₀ cq mg mb fa o pm cd doc a vs ns G Y ho hd dE pZ DV hints hlen hg=>?_
 have KX:=hY w _ Y
 obtain⟨fd,hb,hF⟩:=F w mg fa _ KX G.T.g pZ
 exact VF KX G.T.g G.T.b G.T.builtins G.T.nolimit hg DV hints (dD hlen AJ) hr hF hb (λH hO hS=>dZ w H a ns hlen hO hS) λH e s'=>xD w H cq e s'
end L2
/- THE b0w b0x (shape;LID,My.* are b0y):
   My.Adr: a structure of the addresses b0z b1a b1b names (classes,b1c);My.Txt K t: a structure (Prop) of the equations over K;
   My.VM:{K} {implicit addresses ..} (e1:nsIn K cQ "law"=some (some (.ref f))) (e2:K.lookup f=some ⟨oc,od,.func (fnOf "law" "law" params body scope dV kV doc pm an aY ct),sl⟩) (e3:codeIn K aY "law"=true) ..:∃t,My.Txt K t
set_option maxRecDepth 100000 in
set_option maxHeartbeats 0 in
theorem PySem.Challenge.cw_LID_holds : PySem.Challenge.rw_LID.Holds := by
 w_on;o_law;k_head;(case hw=>w_witness2)
 k_fill
 refine L2.Ml (l:=PySem.Challenge.rw_LID) (n:=63) (k:=40) (x:="script") (CX:=λw=>..) (sp:=λ_=>My.b1d) rfl (by decide) rfl ⟨rfl,by decide,by decide⟩ (λw h Y=>PySem.W.kIn_of Y) ?F ?S ?C
 case F =>
  intro w mg fa h KX G pZ
  have T:∃t,My.Txt (L2.Mj KX) t:=by
   dsimp only[L2.Mj]                          -- K b1e stand as «<heap const> w.params» for k_is
   refine' My.VM ?e1 ?e2 ?e3 ..
   (case e1=>PySem.W.k_is)                    -- in the order: a name->its address->its object->its parts
   (case e2=>PySem.W.k_is)
   ..
  obtain⟨t,T⟩:=T
  have e0:=pZ.symm.trans (sy KX G T.law)
  cases e0                                       -- fa is the b1f own address
  exact⟨_,λs u=>.of_eq rfl,λbase kb nb=>My.VN T kb nb⟩     -- if «.of_eq rfl» comes too early: refine' ⟨_,?b,λbase kb nb=>My.VN T kb nb⟩;exact λs u=>.of_eq rfl
 case S=>exact λw H a ns hl hO hS=>..
 case C=>exact ..
(the tactic k_is has no namespace: write k_is) -/
namespace L2
open PySem PySem.Spec PyProof.Rows
def xE(s:Stmt):Arguments:=match s with
 | .FunctionDef _ a _ _ _ _ _ _ _ _=>a
 | _=>{ posonlyargs:=[],args:=[],vararg:=none,kwonlyargs:=[],kw_defaults:=[],kwarg:=none,defaults:=[] }
def nD(s:Stmt):List Stmt:=match s with
 | .FunctionDef _ _ b _ _ _ _ _ _ _=>b
 | _=>[]
def aW(s:Stmt):dA:=match s with
 | .FunctionDef _ _ _ _ _ _ sc _ _ _=>sc
 | _=>{ kind:=.function,names:=[],isGenerator:=false,isCoroutine:=false }
structure mf (K:aA) (x qual:Str) (st:Stmt) (f:Addr) (fd:cG):Prop where
 ex:∃(oc:Value) (od:Option Addr) (kV doc pm:Value) (an:Option Addr) (aY ct:Value) (pX:Array (Option Value)),
  fd=C2 x qual (xE st) (nD st) (aW st) .none kV doc pm an aY ct/\K.lookup f=some ⟨oc,od,.func fd,pX⟩/\Ks K aY qual=true
 kp:wG K (.ref f)=true
section
variable {P:aQ}{w:aN}{K:aA}{mg:Str->Option Value}{base:Heap}
theorem mf.binds{x qual:Str}{st:Stmt}{f:Addr}{fd:cG}{ps:List Str}(F:mf K x qual st f fd)
 (h:∀(kV doc pm:Value) (an:Option Addr) (aY ct:Value) (us:List Value),us.length=ps.length->Sh (C2 x qual (xE st) (nD st) (aW st) .none kV doc pm an aY ct) ⟨us,[]⟩=pure (ps.zip us)):jV K fd ps []:=by
 obtain⟨oc,od,kV,doc,pm,an,aY,ct,pX,rfl,lk,dE⟩:=F.ex
 exact .all (h kV doc pm an aY ct)
end
theorem VO{n:Nat}(h:n<=1000):n<bR:=KC h (by decide)
section
variable {X:Cx}
end
def aO(H H':Hp):Prop:=∀b o,H b=some o->H' b=some o
theorem aO.refl(H:Hp):aO H H:=λ_ _ h=>h
theorem aO.trans{H H1 H2:Hp}(a:aO H H1)(b:aO H1 H2):aO H H2:=λc o h=>b c o (a c o h)
theorem aO.free{H H':Hp}(e:aO H H'){l:Addr}(h:H' l=Option.none):H l=Option.none:=by
 cases q:H l with
 | none=>rfl
 | some o =>
   rw[e l o q] at h
   cases h
theorem aO.seq{K:aA}{H H':Hp}{a:Addr}{xs:List V}(e:aO H H')(h:b9 K H a xs):b9 K H' a xs:=by
 rcases h with (h | ⟨o,h⟩) | h
 ·exact .inl (.inl (e _ _ h))
 ·exact .inl (.inr ⟨o,e _ _ h⟩)
 ·exact .inr h
end L2
namespace L3
open PySem
noncomputable section
inductive Er where
 | oV | nE | jW | tooLong | fK | iB
 deriving DecidableEq
def Er.nm:Er->Str
 | .oV=>"NoPrime" | .nE=>"NoNumber" | .jW=>"NoProgram" | .tooLong=>"TooLong" | .fK=>"Lossy" | .iB=>"NoText"
inductive D where
 | cH | bl (b:Bool) | int (i:Int) | str (x:Str) | tup (ds:List D) | lst (ds:List D) | jX | exc (c:Er)
mutual
def D.cu:D->Bool
 | .lst _=>false
 | .jX=>false
 | .tup ds=>D.a_ ds
 | _=>true
def D.a_:List D->Bool
 | []=>true
 | d::ds=>d.cu&&D.a_ ds
end
theorem VP:D.a_ []=true:=by unfold D.a_;rfl
theorem DX:∀ds:List D,D.a_ ds=ds.all D.cu
 | []=>by unfold D.a_;rfl
 | d::ds=>by unfold D.a_;rw[DX ds];rfl
theorem AK(i:Int):D.cu (.int i)=true:=by simp[D.cu]
theorem Mm(i:Bool):D.cu (.bl i)=true:=by simp[D.cu]
theorem VQ(i:Str):D.cu (.str i)=true:=by simp[D.cu]
theorem VR:D.cu .cH=true:=by simp[D.cu]
theorem Mn(ds:List D):D.cu (.tup ds)=D.a_ ds:=by simp[D.cu]
theorem VS{ds:List D}(h:∀d∈ds,d.cu=true):D.a_ ds=true:=by rw[DX,ng];exact h
theorem VT{ds:List D}(h:D.a_ ds=true){d:D}(hd:d∈ds):d.cu=true:=by rw[DX,ng] at h;exact h d hd
theorem xF{α:Type}{f:α->D}{l:List α}(h:∀x∈l,(f x).cu=true):D.a_ (l.map f)=true:=VS λd hd=>by
 obtain⟨x,hx,rfl⟩:=List.mem_map.mp hd;exact h x hx
theorem k_(ns:List Int):D.a_ (ns.map D.int)=true:=xF λ_ _=>AK _
theorem AL(ns:List Int):D.cu (.tup (ns.map D.int))=true:=by rw[Mn];exact k_ ns
inductive R (α:Type) where
 | no | ok (a:α) | er (c:Er)
def R.bind{α β:Type}(r:R α)(k:α->R β):R β:=match r with
 | .no=>.no
 | .ok a=>k a
 | .er c=>.er c
instance:Monad R where
 pure:=R.ok
 bind:=R.bind
@[simp] theorem R.VU {α β:Type} (k:α->R β):(R.no>>=k)=R.no:=rfl
@[simp] theorem R.cE {α β:Type} (a:α) (k:α->R β):(R.ok a>>=k)=k a:=rfl
@[simp] theorem R.VV {α β:Type} (c:Er) (k:α->R β):(R.er c>>=k)=R.er c:=rfl
@[simp] theorem R.b1g {α:Type} (a:α):(pure a:R α)=R.ok a:=rfl
theorem R.left{α β:Type}{r:R α}{k:α->R β}(h:(r>>=k) ≠ .no):r ≠ .no:=λe=>h (by rw[e];rfl)
theorem R.next{α β:Type}{r:R α}{k:α->R β}{a:α}(h:(r>>=k) ≠ .no)(e:r = .ok a):k a ≠ .no:=by
 rw[e] at h;exact h
theorem R.step{α β:Type}{r:R α}{a:α}(e:r = .ok a)(k:α->R β):(r>>=k)=k a:=by rw[e];rfl
theorem R.stop{α β:Type}{r:R α}{c:Er}(e:r = .er c)(k:α->R β):(r>>=k) = .er c:=by rw[e];rfl
def R.guard{α:Type}(p:Prop)(r:R α):R α:=@ite _ p (Classical.propDecidable p) r .no
theorem R.guard_pos{α:Type}{p:Prop}{r:R α}(h:p):R.guard p r=r:=if_pos h
theorem R.cT{α:Type}{p:Prop}{r:R α}(h:R.guard p r ≠ .no):p/\R.guard p r=r:=by
 unfold R.guard at h ⊢
 by_cases q:p
 ·exact⟨q,if_pos q⟩
 ·rw[if_neg q] at h;exact absurd rfl h
theorem VW{α:Type}{r:R α}:R.guard True r=r:=R.guard_pos trivial
theorem bW{α:Type}{p:Prop}{r:R α}(h:p):R.guard p r=r:=R.guard_pos h
inductive En where
 | no | ro (d:D) | own (ds:List D)
abbrev G:=List En
def lk(Γ:G)(i:Nat):R D:=match Γ[i]? with
 | some (.ro d)=>.ok d
 | some (.own ds)=>.ok (.lst ds)
 | _=>.no
def oW(Γ:G)(i:Nat):R D:=match Γ[i]? with
 | some (.ro d)=>.ok d
 | _=>.no
theorem VX{Γ:G}{i:Nat}(h:lk Γ i ≠ .no):∃d,lk Γ i = .ok d:=by
 cases e:lk Γ i with
 | no=>exact absurd e h
 | ok d=>exact⟨d,rfl⟩
 | er c =>
   unfold lk at e
   cases q:Γ[i]? with
   | none=>rw[q] at e;cases e
   | some en=>rw[q] at e;cases en<;>cases e
theorem VY{Γ:G}{i:Nat}(h:oW Γ i ≠ .no):∃d,oW Γ i = .ok d:=by
 cases e:oW Γ i with
 | no=>exact absurd e h
 | ok d=>exact⟨d,rfl⟩
 | er c =>
   unfold oW at e
   cases q:Γ[i]? with
   | none=>rw[q] at e;cases e
   | some en=>rw[q] at e;cases en<;>cases e
theorem fy(d:D)(Γ:G):lk (En.ro d::Γ) 0 = .ok d:=rfl
theorem uT(ds:List D)(Γ:G):lk (En.own ds::Γ) 0 = .ok (.lst ds):=rfl
theorem gK(e:En)(Γ:G)(i:Nat):lk (e::Γ) (i+1)=lk Γ i:=rfl
theorem VZ(d:D)(Γ:G):oW (En.ro d::Γ) 0 = .ok d:=rfl
theorem V0(e:En)(Γ:G)(i:Nat):oW (e::Γ) (i+1)=oW Γ i:=rfl
def gV(i:Nat):G->R D:=λΓ=>lk Γ i
def d8(i:Nat):G->R D:=λΓ=>oW Γ i
def gC(d:D):G->R D:=λ_=>.ok d
def aG(g:G->R D):G->R D:=λΓ=>g Γ>>=λd=>R.guard (d.cu=true) (.ok d)
def gL(g:G->R (List D)):G->R D:=λΓ=>g Γ>>=λds=>.ok (.lst ds)
def aj(g:D->D->R D)(ga gb:G->R D):G->R D:=λΓ=>ga Γ>>=λx=>gb Γ>>=λy=>g x y
def rn(d:D):R Bool:=match d with
 | .bl b=>.ok b
 | _=>.no
theorem DY{d:D}(h:rn d ≠ .no):∃b,d = .bl b/\rn d = .ok b:=by
 cases d<;>first | exact⟨_,rfl,rfl⟩ | exact absurd rfl h
theorem AM(b:Bool):rn (.bl b) = .ok b:=rfl
def gT(g:G->R D):G->R Bool:=λΓ=>g Γ>>=rn
def je(ga gb:G->R Bool):G->R Bool:=λΓ=>ga Γ>>=λk=>if k=true then gb Γ else .ok false
def nG(ga gb:G->R Bool):G->R Bool:=λΓ=>ga Γ>>=λk=>if k=true then .ok true else gb Γ
def jB(ga:G->R Bool):G->R Bool:=λΓ=>ga Γ>>=λk=>.ok (!k)
def kq(ga gb:G->R D):G->R D:=λΓ=>ga Γ>>=λd=>rn d>>=λk=>if k=true then gb Γ else .ok (.bl false)
def DZ(ga:G->R D):G->R D:=λΓ=>ga Γ>>=λd=>rn d>>=λk=>.ok (.bl (!k))
def AN(d:D):R D:=match d with | .int i=>.ok (.int (-i)) | _=>.no
def nH(ga:G->R D):G->R D:=λΓ=>ga Γ>>=AN
def D0(gc:G->R Bool)(ga gb:G->R D):G->R D:=λΓ=>gc Γ>>=λk=>if k=true then ga Γ else gb Γ
def ak:G->R (List D):=λ_=>.ok []
def ae(g:G->R D)(gs:G->R (List D)):G->R (List D):=λΓ=>g Γ>>=λd=>gs Γ>>=λds=>.ok (d::ds)
def Mo(ns:List Int):G->R (List D):=λ_=>.ok (ns.map D.int)
def fT(gs:G->R (List D)):G->R D:=λΓ=>gs Γ>>=λds=>R.guard (ds.length<=1000) (.ok (.tup ds))
def eA(gs:G->R (List D)):G->R (List D):=λΓ=>gs Γ>>=λds=>R.guard (ds.length<=1000/\D.a_ ds=true) (.ok ds)
def mh(i:Int):Prop:=-18446744073709551616<i/\i<18446744073709551616
instance (i:Int):Decidable (mh i):=by unfold mh;exact inferInstance
def sS(i j:Int):Prop:=mh i∨mh j
instance (i j:Int):Decidable (sS i j):=by unfold sS;exact inferInstance
def uU(j:Int):Prop:=-4611686018427387904<=j/\j<4611686018427387904
instance (j:Int):Decidable (uU j):=by unfold uU;exact inferInstance
theorem D2{j:Int}(h:-4611686018427387904<=j/\j<4611686018427387904):uU j:=h
theorem D3{j:Int}(h:-18446744073709551616<j/\j<18446744073709551616):mh j:=h
theorem V1{i j:Int}(h:mh i):sS i j:=.inl h
theorem V2{i j:Int}(h:mh j):sS i j:=.inr h
def d9(x y:D):R D:=match x,y with
 | .int i,.int j=>.ok (.int (i+j))
 | .tup xs,.tup ys=>R.guard (xs.length+ys.length<=1000) (.ok (.tup (xs++ys)))
 | _,_=>.no
def p4(x y:D):R D:=match x,y with
 | .int i,.int j=>.ok (.int (i-j))
 | _,_=>.no
def oX(x y:D):R D:=match x,y with
 | .int i,.int j=>R.guard (sS i j) (.ok (.int (i*j)))
 | .tup xs,.int j=>R.guard (0<=j/\j<1000000/\xs.length*j.toNat<=1000) (.ok (.tup (dN j.toNat xs).flatten))
 | _,_=>.no
def jY(x y:D):R D:=match x,y with
 | .int i,.int j=>R.guard (0<j/\j<1073741824) (.ok (.int (i/j)))
 | _,_=>.no
def eG(x y:D):R D:=match x,y with
 | .int i,.int j=>R.guard (0<j) (.ok (.int (i%j)))
 | _,_=>.no
def xG(x y:D):R D:=match x,y with
 | .int i,.int j=>R.guard (0<=j/\j<=1000000/\i.natAbs<18446744073709551616) (.ok (.int (i^j.toNat)))
 | _,_=>.no
def rp(x y:D):R D:=match x,y with
 | .int i,.int j=>.ok (.bl (decide (i<j)))
 | _,_=>.no
def p5(x y:D):R D:=match x,y with
 | .int i,.int j=>.ok (.bl (decide (i<=j)))
 | _,_=>.no
def rq(x y:D):R D:=match x,y with
 | .int i,.int j=>.ok (.bl (decide (j<i)))
 | _,_=>.no
def xH(x y:D):R D:=match x,y with
 | .int i,.int j=>.ok (.bl (decide (j<=i)))
 | _,_=>.no
def dP(x:Str):Bool:=x.cps.all (·<0x110000)
mutual
def D.lay:Nat->D->Bool
 | n+1,.tup ds=>D.mi n ds
 | n+1,.lst ds=>D.mi n ds
 | 0,.tup _=>false
 | 0,.lst _=>false
 | _,.jX=>false
 | _,.exc _=>false
 | _,.str x=>dP x
 | _,_=>true
def D.mi:Nat->List D->Bool
 | _,[]=>true
 | n,d::ds=>D.lay n d&&D.mi n ds
end
theorem D.D4(n:Nat):∀ds:List D,D.mi n ds=ds.all (D.lay n)
 | []=>by unfold D.mi;rfl
 | d::ds=>by unfold D.mi;rw[D.D4 n ds];rfl
theorem Mp(n:Nat)(i:Int):D.lay n (.int i)=true:=by cases n<;>simp[D.lay]
theorem V3(n:Nat)(i:Bool):D.lay n (.bl i)=true:=by cases n<;>simp[D.lay]
theorem nJ(n:Nat)(x:Str):D.lay n (.str x)=dP x:=by cases n<;>simp[D.lay]
theorem AO(n:Nat)(ds:List D):D.lay (n+1) (.tup ds)=ds.all (D.lay n):=by rw[D.lay,D.D4]
theorem V4(n:Nat)(ds:List D):D.lay (n+1) (.lst ds)=ds.all (D.lay n):=by rw[D.lay,D.D4]
theorem D5(n:Nat)(ns:List Int):D.lay (n+1) (.tup (ns.map D.int))=true:=by
 rw[AO,C5,ng];intro x _;exact Mp n x
mutual
def cz:D->D->Bool
 | .cH,y=>(match y with | .cH=>true | _=>false)
 | .bl a,y=>(match y with | .bl b=>a==b | .int j=>(if a then 1 else 0)==j | _=>false)
 | .int i,y=>(match y with | .bl b=>i==(if b then 1 else 0) | .int j=>i==j | _=>false)
 | .str x,y=>(match y with | .str z=>x==z | _=>false)
 | .tup xs,y=>(match y with | .tup ys=>la xs ys | _=>false)
 | .lst xs,y=>(match y with | .lst ys=>la xs ys | _=>false)
 | .jX,_=>false
 | .exc _,_=>false
def la:List D->List D->Bool
 | [],[]=>true
 | x::xs,y::ys=>cz x y&&la xs ys
 | [],_::_=>false
 | _::_,[]=>false
end
theorem V5(i j:Int):cz (.int i) (.int j)=(i==j):=by rw[cz]
theorem V6(i j:Bool):cz (.bl i) (.bl j)=(i==j):=by rw[cz]
theorem z8j(i j:Str):cz (.str i) (.str j)=(i==j):=by rw[cz]
mutual
def D.pl:D->Bool
 | .bl _=>false
 | .jX=>false
 | .exc _=>false
 | .tup ds=>D.lb ds
 | .lst ds=>D.lb ds
 | _=>true
def D.lb:List D->Bool
 | []=>true
 | d::ds=>d.pl&&D.lb ds
end
theorem D6:∀ds:List D,D.lb ds=ds.all D.pl
 | []=>by unfold D.lb;rfl
 | d::ds=>by unfold D.lb;rw[D6 ds];rfl
theorem V7(i:Int):D.pl (.int i)=true:=by simp[D.pl]
theorem Mq(ds:List D):D.pl (.tup ds)=ds.all D.pl:=by rw[D.pl,D6]
theorem V8(ds:List D):D.pl (.lst ds)=ds.all D.pl:=by rw[D.pl,D6]
theorem Mr(ns:List Int):D.pl (.tup (ns.map D.int))=true:=by
 rw[Mq,C5,ng];intro x _;exact V7 x
mutual
theorem AQ:∀(x y:D),x.pl=true->y.pl=true->(cz x y=true↔x=y)
 | .cH,y,_,hy=>by cases y<;>simp_all [cz,D.pl]
 | .bl _,y,hx,hy=>by simp[D.pl] at hx
 | .int i,y,_,hy=>by cases y<;>simp_all [cz,D.pl]
 | .str i,y,_,hy=>by cases y<;>simp_all [cz,D.pl]
 | .jX,y,hx,hy=>by simp[D.pl] at hx
 | .exc _,y,hx,hy=>by simp[D.pl] at hx
 | .tup xs,y,hx,hy=>by
   cases y with
   | tup ys=>rw[cz,D7 xs ys (by simpa [D.pl] using hx) (by simpa [D.pl] using hy)];simp
   | _=>simp_all [cz,D.pl]
 | .lst xs,y,hx,hy=>by
   cases y with
   | lst ys=>rw[cz,D7 xs ys (by simpa [D.pl] using hx) (by simpa [D.pl] using hy)];simp
   | _=>simp_all [cz,D.pl]
theorem D7:∀(xs ys:List D),D.lb xs=true->D.lb ys=true->(la xs ys=true↔xs=ys)
 | [],[],_,_=>by simp[la]
 | [],y::ys,_,_=>by simp[la]
 | x::xs,[],_,_=>by simp[la]
 | x::xs,y::ys,hx,hy=>by
   have uV:x.pl=true/\D.lb xs=true:=by simpa [D.lb] using hx
   have AG:y.pl=true/\D.lb ys=true:=by simpa [D.lb] using hy
   rw[la,ir,AQ x y uV.1 AG.1,D7 xs ys uV.2 AG.2];simp
end
theorem AR{x:D}(h:x.pl=true):cz x x=true:=(AQ x x h h).mpr rfl
theorem Ms{x y:D}(hx:x.pl=true)(hy:y.pl=true){p:Prop}[Decidable p](h:x=y↔p):cz x y=decide p:=by
 by_cases q:p
 ·rw[decide_eq_true q];exact(AQ x y hx hy).mpr (h.mpr q)
 ·rw[decide_eq_false q]
  cases e:cz x y with
  | false=>rfl
  | true=>exact absurd (h.mp ((AQ x y hx hy).mp e)) q
def dQ(x y:D):R D:=R.guard (D.lay 40 x=true/\D.lay 40 y=true) (.ok (.bl (cz x y)))
def gM(x y:D):R D:=R.guard (D.lay 40 x=true/\D.lay 40 y=true) (.ok (.bl (!cz x y)))
def iV(n:Nat)(i:Int):Option Nat:=if 0<=i then (if i<n then some i.toNat else none) else if -(n:Int)<=i then some (i+n).toNat else none
def cS{α:Type}(xs:List α)(i:Int):Option α:=(iV xs.length i).bind λj=>xs[j]?
theorem rA{α:Type}{ds:List α}(i:Nat):cS ds (i:Int)=ds[i]?:=by
 unfold cS iV
 rw[if_pos (by lia)]
 by_cases h:(i:Int)<ds.length
 ·rw[if_pos h];simp
 ·rw[if_neg h]
  have:ds.length<=i:=by lia
  rw[jP this];rfl
theorem D8{α:Type}{ds:List α}{i:Int}(h:0<=i):cS ds i=ds[i.toNat]?:=by
 obtain⟨n,rfl⟩:∃n:Nat,i=(n:Int):=⟨i.toNat,by lia⟩
 rw[rA];rfl
theorem V9{α:Type}{ds:List α}{i:Int}(h:i<0)(h2:-(ds.length:Int)<=i):cS ds i=ds[(i+ds.length).toNat]?:=by
 unfold cS iV
 rw[if_neg (by lia),if_pos h2];rfl
theorem D9{α:Type}(a:α)(ds:List α):cS (a::ds) 0=some a:=rA 0
theorem Mt{α:Type}(a b:α)(ds:List α):cS (a::b::ds) 1=some b:=rA 1
theorem Mu{α:Type}(a b c:α)(ds:List α):cS (a::b::c::ds) 2=some c:=rA 2
theorem V_{α:Type}(a b c d:α)(ds:List α):cS (a::b::c::d::ds) 3=some d:=rA 3
def aI(x y:D):R D:=match x,y with
 | .tup ds,.int i=>(match cS ds i with | some d=>.ok d | none=>.no)
 | .lst ds,.int i=>(match cS ds i with | some d=>.ok d | none=>.no)
 | _,_=>.no
def bA(n d:Nat):Option Int->Nat
 | none=>d
 | some v=>if v<0 then (v+(n:Int)).toNat else min v.toNat n
theorem Mv(n d:Nat):bA n d none=d:=rfl
theorem Mw(n d k:Nat):bA n d (some (k:Int))=min k n:=by
 show(if (k:Int)<0 then ((k:Int)+(n:Int)).toNat else min (k:Int).toNat n)=min k n
 rw[if_neg (by lia),oI]
def gN{α:Type}(xs:List α)(lo hi:Option Int):List α:=(xs.drop (bA xs.length 0 lo)).take (bA xs.length xs.length hi-bA xs.length 0 lo)
def p6:G->R (Option Int):=λ_=>.ok none
def Mx(d:D):R (Option Int):=match d with | .int i=>.ok (some i) | _=>.no
def nK(g:G->R D):G->R (Option Int):=λΓ=>g Γ>>=Mx
def AS(d:D)(lo hi:Option Int):R D:=match d with
 | .tup xs=>.ok (.tup (gN xs lo hi))
 | .lst xs=>.ok (.lst (gN xs lo hi))
 | _=>.no
def p7(ga:G->R D)(lo hi:G->R (Option Int)):G->R D:=λΓ=>ga Γ>>=λd=>lo Γ>>=λl=>hi Γ>>=λh=>AS d l h
def AU(d:D)(lo hi:Option Int):R (List D):=match d with
 | .lst xs=>R.guard (D.a_ (gN xs lo hi)=true) (.ok (gN xs lo hi))
 | _=>.no
def D_(ga:G->R D)(lo hi:G->R (Option Int)):G->R (List D):=λΓ=>ga Γ>>=λd=>lo Γ>>=λl=>hi Γ>>=λh=>AU d l h
theorem Wa{α β:Type}(f:α->β)(xs:List α)(lo hi:Option Int):gN (xs.map f) lo hi=(gN xs lo hi).map f:=by
 unfold gN;rw[a6,C6,C7]
theorem AV{α:Type}(xs:List α)(k:Nat):gN xs (some (k:Int)) none=xs.drop k:=by
 unfold gN
 rw[Mv,Mw]
 by_cases h:k<=xs.length
 ·rw[SI h,C8 (by rw[wJ];lia)]
 ·rw[a8i (by lia),C9,List.drop_of_length_le (by lia)];simp
theorem Ea{α:Type}(xs:List α)(k:Nat):gN xs none (some (k:Int))=xs.take k:=by
 unfold gN
 rw[Mv,Mw,SJ,zY]
 by_cases h:k<=xs.length
 ·rw[SI h]
 ·rw[a8i (by lia),wN,C8 (by lia)]
inductive Cl where
 | oV | nE | jW | tooLong | fK | iB | Wb | AW
def uW(c:Er)(k:Cl):Bool:=match c,k with
 | _,.Wb=>true
 | _,.AW=>true
 | .oV,.oV=>true
 | .nE,.nE=>true
 | .jW,.jW=>true
 | .tooLong,.tooLong=>true
 | .fK,.fK=>true
 | .iB,.iB=>true
 | _,_=>false
def Mz(ks:List Cl)(d:D):R D:=match d with
 | .exc c=>.ok (.bl (ks.any (uW c)))
 | _=>.no
def AX(i:Nat)(ks:List Cl):G->R D:=λΓ=>lk Γ i>>=Mz ks
def ay(g:List D->R D)(gs:G->R (List D)):G->R D:=λΓ=>gs Γ>>=g
def dF(ds:List D):R D:=match ds with
 | [.tup xs]=>.ok (.int xs.length)
 | [.lst xs]=>.ok (.int xs.length)
 | _=>.no
def fL(ds:List D):R D:=match ds with
 | [.tup xs]=>.ok (.tup xs)
 | [.lst xs]=>.ok (.tup xs)
 | _=>.no
def xI(ds:List D):R D:=match ds with
 | [.int i,.int j]=>.ok (.int (if j<i then j else i))
 | _=>.no
def mj:List D->Option (List Int)
 | []=>some []
 | .int i::ds=>(mj ds).map (i::·)
 | _::_=>none
theorem Eb:∀{ds:List D} {ns:List Int},mj ds=some ns->ds=ns.map D.int
 | [],ns,h=>by unfold mj at h;cases h;rfl
 | d::ds,ns,h=>by
   cases d with
   | int i =>
     unfold mj at h
     cases q:mj ds with
     | none=>rw[q] at h;cases h
     | some ms=>rw[q] at h;cases h;rw[Eb q];rfl
   | _=>unfold mj at h;cases h
theorem AY:∀ns:List Int,mj (ns.map D.int)=some ns
 | []=>rfl
 | n::ns=>by show(mj (ns.map D.int)).map (n::·)=_;rw[AY ns];rfl
def ml:List D->Option (List Bool)
 | []=>some []
 | .bl i::ds=>(ml ds).map (i::·)
 | _::_=>none
theorem Ec:∀{ds:List D} {ns:List Bool},ml ds=some ns->ds=ns.map D.bl
 | [],ns,h=>by unfold ml at h;cases h;rfl
 | d::ds,ns,h=>by
   cases d with
   | bl i =>
     unfold ml at h
     cases q:ml ds with
     | none=>rw[q] at h;cases h
     | some ms=>rw[q] at h;cases h;rw[Ec q];rfl
   | _=>unfold ml at h;cases h
theorem AZ:∀ns:List Bool,ml (ns.map D.bl)=some ns
 | []=>rfl
 | n::ns=>by show(ml (ns.map D.bl)).map (n::·)=_;rw[AZ ns];rfl
def rB(ds:List D):R D:=match ds with
 | [.lst xs]=>(match mj xs with | some ns=>.ok (.int ns.sum) | none=>.no)
 | _=>.no
theorem Wc(ns:List Int):rB [.lst (ns.map D.int)] = .ok (.int ns.sum):=by simp only[rB,AY]
def p8(ds:List D):R D:=match ds with
 | [.lst xs]=>(match ml xs with | some bs=>.ok (.bl (bs.any (λb=>b))) | none=>.no)
 | _=>.no
theorem Wd(ns:List Bool):p8 [.lst (ns.map D.bl)] = .ok (.bl (ns.any λb=>b)):=by simp only[p8,AZ]
def oY(ds:List D):R D:=match ds with
 | [.lst xs]=>(match ml xs with | some bs=>.ok (.bl (bs.all (λb=>b))) | none=>.no)
 | _=>.no
theorem A0(ns:List Bool):oY [.lst (ns.map D.bl)] = .ok (.bl (ns.all λb=>b)):=by simp only[oY,AZ]
def fF(φ:List D->R D):List D->R D:=λds=>match φ ds with
 | .ok d=>.ok d
 | _=>.no
theorem MA{φ:List D->R D}{ds:List D}(h:fF φ ds ≠ .no):∃d,φ ds = .ok d/\fF φ ds = .ok d:=by
 unfold fF at h ⊢
 cases q:φ ds with
 | ok d=>exact⟨d,rfl,rfl⟩
 | no=>rw[q] at h;exact absurd rfl h
 | er c=>rw[q] at h;exact absurd rfl h
def fV(φ:List D->R (List D))(gs:G->R (List D)):G->R (List D):=λΓ=>gs Γ>>=λds=>φ ds>>=λes=>R.guard (D.a_ es=true) (.ok es)
def Ed(d:D):R (List D):=match d with
 | .tup ds=>R.guard (D.a_ ds=true) (.ok ds)
 | .lst ds=>R.guard (D.a_ ds=true) (.ok ds)
 | _=>.no
def jZ(g:G->R D):G->R (List D):=λΓ=>g Γ>>=Ed
def iC(ga gb:G->R (List D)):G->R (List D):=λΓ=>ga Γ>>=λx=>gb Γ>>=λy=>R.guard (x.length+y.length<=1000) (.ok (x++y))
def MB(x y:D):R (List D):=match x,y with
 | .lst xs,.lst ys=>R.guard (xs.length+ys.length<=1000/\D.a_ (xs++ys)=true) (.ok (xs++ys))
 | _,_=>.no
def p9(ga gb:G->R D):G->R (List D):=λΓ=>ga Γ>>=λx=>gb Γ>>=λy=>MB x y
def D.ty:D->String
 | .cH=>"NoneType"
 | .bl _=>"bool"
 | .int _=>"int"
 | .str _=>"str"
 | .tup _=>"tuple"
 | .lst _=>"list"
 | .jX=>"dict"
 | .exc _=>""
def D.j0:D->Bool
 | .exc _=>false
 | _=>true
def A1(f:String->Bool)(d:D):R D:=match d with
 | .exc _=>.no
 | d=>.ok (.bl (f d.ty))
def xJ(f:String->Bool)(g:G->R D):G->R D:=λΓ=>g Γ>>=A1 f
theorem We{f:String->Bool}{d:D}(h:A1 f d ≠ .no):d.j0=true/\A1 f d = .ok (.bl (f d.ty)):=by
 cases d<;>first | exact⟨rfl,rfl⟩ | exact absurd rfl h
def A2(t:String):Bool:=t=="int"||t=="bool"
def A3(t:String):Bool:=t=="bool"
def A4(t:String):Bool:=t=="str"
def sT(d:D):R (List D):=match d with
 | .tup ds=>.ok ds
 | .lst ds=>.ok ds
 | _=>.no
def ku(g:G->R D):G->R (List D):=λΓ=>g Γ>>=sT
def fW(g:G->R D):G->R (List D):=λΓ=>g Γ>>=λd=>sT d>>=λds=>R.guard (D.a_ ds=true) (.ok ds)
def iW(lo:Int)(n:Nat):List D:=(eY n).map λ(i:Nat)=>D.int (lo+(i:Int))
theorem sU(lo:Int)(n:Nat):(iW lo n).length=n:=by unfold iW;simp
theorem Ee(lo:Int)(n i:Nat)(h:i<n):(iW lo n)[i]? = some (.int (lo+(i:Int))):=by unfold iW;simp[h]
theorem Wf(lo:Int):iW lo 0=[]:=rfl
def lg(lo:Int)(step:Int)(n:Nat):List D:=(eY n).map λ(i:Nat)=>D.int (lo+step*(i:Int))
def kv(lo hi step:Int):Nat:=((hi-lo+step-1)/step).toNat
def mq(g:G->R D):G->R (List D):=λΓ=>g Γ>>=λd=>match d with
 | .int j=>R.guard (uU j) (.ok (iW 0 j.toNat))
 | _=>.no
def xK(ga gb:G->R D):G->R (List D):=λΓ=>ga Γ>>=λd=>gb Γ>>=λd'=>match d,d' with
 | .int i,.int j=>R.guard (uU i/\uU j) (.ok (iW i (j-i).toNat))
 | _,_=>.no
def Ef(ga gb gc:G->R D):G->R (List D):=λΓ=>ga Γ>>=λd=>gb Γ>>=λd'=>gc Γ>>=λWg=>match d,d',Wg with
 | .int i,.int j,.int k=>R.guard ((-1073741824<=i/\i<1073741824)/\(-1073741824<=j/\j<1073741824)/\0<k/\k<1073741824) (.ok (lg i k (kv i j k)))
 | _,_,_=>.no
def c8(f:D->R (Option D)):List D->List D->R (List D)
 | [],acc=>.ok acc
 | d::r,acc=>match f d with
   | .ok (some e)=>c8 f r (acc++[e])
   | .ok none=>c8 f r acc
   | _=>.no
theorem Wh(f:D->R (Option D))(acc:List D):c8 f [] acc = .ok acc:=rfl
theorem Eg(f:D->R (Option D))(d:D)(r acc:List D):c8 f (d::r) acc=match f d with
 | .ok (some e)=>c8 f r (acc++[e])
 | .ok none=>c8 f r acc
 | _=>.no:=rfl
theorem xM{f:D->R (Option D)}:∀{ds acc:List D},c8 f ds acc ≠ .no->∃es,c8 f ds acc = .ok es
 | [],acc,_=>⟨acc,rfl⟩
 | d::r,acc,h=>by
   unfold c8 at h ⊢
   cases q:f d with
   | no=>rw[q] at h;exact absurd rfl h
   | er c=>rw[q] at h;exact absurd rfl h
   | ok o =>
     rw[q] at h
     cases o with
     | none=>exact xM h
     | some e=>exact xM h
theorem jC{α:Type}{f:D->R (Option D)}{k h:α->D}{l:List α}(q:∀x∈l,f (k x) = .ok (some (h x))):c8 f (l.map k) [] = .ok (l.map h):=by
 suffices H:∀(l:List α) (acc:List D),(∀x∈l,f (k x) = .ok (some (h x)))->c8 f (l.map k) acc = .ok (acc++l.map h) by
  have:=H l [] q;simpa using this
 intro l
 induction l with
 | nil=>intro acc _;simp[c8]
 | cons x l ih =>
   intro acc q
   rw[e8,Eg,q x fi]
   simp only
   rw[ih _ λy hy=>q y (dJ _ hy)]
   simp
theorem Wi{α:Type}{f:D->R (Option D)}{k:α->D}{h:α->Option D}{l:List α}(q:∀x∈l,f (k x) = .ok (h x)):c8 f (l.map k) [] = .ok (l.filterMap h):=by
 suffices H:∀(l:List α) (acc:List D),(∀x∈l,f (k x) = .ok (h x))->c8 f (l.map k) acc = .ok (acc++l.filterMap h) by
  have:=H l [] q;simpa using this
 intro l
 induction l with
 | nil=>intro acc _;simp[c8]
 | cons x l ih =>
   intro acc q
   rw[e8,Eg,q x fi]
   cases e:h x with
   | none=>simp only;rw[ih _ λy hy=>q y (dJ _ hy)];simp[e]
   | some z=>simp only;rw[ih _ λy hy=>q y (dJ _ hy)];simp[e]
theorem xN{f:D->R (Option D)}{lo:Int}{n:Nat}{h:Nat->D}(q:∀i,i<n->f (.int (lo+(i:Int))) = .ok (some (h i))):c8 f (iW lo n) [] = .ok ((eY n).map h) :=
 jC (k:=λ(i:Nat)=>D.int (lo+(i:Int))) λi hi=>q i (List.mem_range.mp hi)
def c9(ge:G->R D):D->G->R (Option D):=λd Γ=>ge (.ro d::Γ)>>=λe=>.ok (some e)
def rC(gc:G->R Bool)(ge:G->R D):D->G->R (Option D):=λd Γ=>gc (.ro d::Γ)>>=λk=>if k=true then ge (.ro d::Γ)>>=λe=>.ok (some e) else .ok none
def cR(gi:G->R (List D))(f:D->G->R (Option D)):G->R (List D):=λΓ=>gi Γ>>=λitems=>R.guard (items.length<=100000) (c8 (λd=>f d Γ) items [])
inductive Fl where
 | nx (Γ:G) | rt (d:D) | fz (ds:List D) | bk (Γ:G) | ct (Γ:G) | ex (c:Er) (Γ:G)
def lift{α:Type}(r:R α)(Γ:G)(k:α->R Fl):R Fl:=match r with
 | .no=>.no
 | .er c=>.ok (.ex c Γ)
 | .ok a=>k a
theorem jD{α:Type}{r:R α}{Γ:G}{k:α->R Fl}(h:lift r Γ k ≠ .no):r ≠ .no:=λe=>h (by rw[e];rfl)
theorem jE{α:Type}{r:R α}{Γ:G}{k:α->R Fl}{a:α}(e:r = .ok a):lift r Γ k=k a:=by rw[e];rfl
theorem A5{α:Type}{r:R α}{Γ:G}{k:α->R Fl}{a:α}(h:lift r Γ k ≠ .no)(e:r = .ok a):k a ≠ .no:=by rw[e] at h;exact h
theorem sV{α:Type}(a:α)(Γ:G)(k:α->R Fl):lift (.ok a) Γ k=k a:=rfl
theorem Wj{α:Type}(c:Er)(Γ:G)(k:α->R Fl):lift (.er c:R α) Γ k = .ok (.ex c Γ):=rfl
def gq(i:Nat)(Γ:G):G:=match Γ[i]? with
 | some (.own ds)=>Γ.set i (.ro (.lst ds))
 | _=>Γ
def cL:G->R Fl:=λΓ=>.ok (.nx Γ)
def aD(t u:G->R Fl):G->R Fl:=λΓ=>t Γ>>=λr=>match r with
 | .nx Γ'=>u Γ'
 | r=>.ok r
def p_(g:G->R (List D)):G->R Fl:=λΓ=>lift (g Γ) Γ λds=>.ok (.fz ds)
def rD(i:Nat):G->R Fl:=λΓ=>match Γ[i]? with
 | some (.own ds)=>.ok (.fz ds)
 | _=>.no
def uX(g:G->R D):G->R Fl:=λΓ=>lift (g Γ) Γ λ_=>.ok (.nx Γ)
def gY(c:Er):G->R Fl:=λΓ=>.ok (.ex c Γ)
def sW(i:Nat)(t u:G->R Fl):G->R Fl:=λΓ=>t Γ>>=λr=>match r with
 | .ex c Γ'=>u (Γ'.set i (.ro (.exc c)))>>=λf=>(match f with
   | .nx sX=>.ok (.nx (sX.set i .no))
   | _=>.no)
 | r=>.ok r
def a8(g:G->R D):G->R Fl:=λΓ=>lift (g Γ) Γ λd=>.ok (.rt d)
def b5(gc:G->R Bool)(t u:G->R Fl):G->R Fl:=λΓ=>lift (gc Γ) Γ λk=>if k=true then t Γ else u Γ
def bJ(i:Nat)(g:G->R D):G->R Fl:=λΓ=>lift (g Γ) Γ λd=>.ok (.nx (Γ.set i (.ro d)))
def Wk:En->En
 | .own ds=>.ro (.lst ds)
 | e=>e
def fG(i:Nat)(g:G->R (List D)):G->R Fl:=λΓ=>lift (g Γ) Γ λds=>.ok (.nx (Γ.set i (.own ds)))
def nM(i:Nat)(g:G->R D):G->R Fl:=λΓ=>match Γ[i]? with
 | some (.own ds)=>lift (g Γ) Γ λd=>R.guard (ds.length<=100000) (.ok (.nx (Γ.set i (.own (ds++[d])))))
 | _=>.no
def oZ(i:Nat)(gi g:G->R D):G->R Fl:=λΓ=>match Γ[i]? with
 | some (.own ds)=>lift (g Γ) Γ λd=>lift (gi Γ) Γ λk=>(match k with
   | .int j=>(match iV ds.length j with | some j'=>.ok (.nx (Γ.set i (.own (ds.set j' d)))) | none=>.no)
   | _=>.no)
 | _=>.no
def e_(gb:G->R Fl)(i:Nat):List D->G->R Fl
 | [],Γ=>.ok (.nx Γ)
 | d::r,Γ=>match gb (Γ.set i (.ro d)) with
   | .ok (.nx Γ')=>e_ gb i r Γ'
   | .ok (.ct Γ')=>e_ gb i r Γ'
   | .ok (.bk Γ')=>.ok (.nx Γ')
   | .ok (.rt d)=>.ok (.rt d)
   | .ok (.fz d)=>.ok (.fz d)
   | .ok (.ex c Γ')=>.ok (.ex c Γ')
   | _=>.no
def iX(i:Nat)(gi:G->R (List D))(gb:G->R Fl):G->R Fl:=λΓ=>lift (gi Γ) Γ λds=>e_ gb i ds Γ
def eI(gc:G->R Bool)(gb:G->R Fl):Nat->G->R Fl
 | 0,_=>.no
 | n+1,Γ=>lift (gc Γ) Γ λk=>if k=true then (match gb Γ with
    | .ok (.nx Γ')=>eI gc gb n Γ'
    | .ok (.ct Γ')=>eI gc gb n Γ'
    | .ok (.bk Γ')=>.ok (.nx Γ')
    | .ok (.rt d)=>.ok (.rt d)
    | .ok (.fz d)=>.ok (.fz d)
    | .ok (.ex c Γ')=>.ok (.ex c Γ')
    | _=>.no) else .ok (.nx Γ)
theorem Wl(gb:G->R Fl)(i:Nat)(Γ:G):e_ gb i [] Γ = .ok (.nx Γ):=rfl
theorem A6(gb:G->R Fl)(i:Nat)(d:D)(ds:List D)(Γ:G):e_ gb i (d::ds) Γ=match gb (Γ.set i (.ro d)) with
 | .ok (.nx Γ')=>e_ gb i ds Γ'
 | .ok (.ct Γ')=>e_ gb i ds Γ'
 | .ok (.bk Γ')=>.ok (.nx Γ')
 | .ok (.rt d)=>.ok (.rt d)
 | .ok (.fz d)=>.ok (.fz d)
 | .ok (.ex c Γ')=>.ok (.ex c Γ')
 | _=>.no:=rfl
theorem A7{gb:G->R Fl}{i:Nat}(I:Nat->G->Prop):∀(ds:List D) (k:Nat) (Γ:G),I k Γ ->
 (∀(j:Nat) (d:D) (Γ:G),ds[j]? = some d->I (k+j) Γ->∃Γ',(gb (Γ.set i (.ro d)) = .ok (.nx Γ')∨gb (Γ.set i (.ro d)) = .ok (.ct Γ'))/\I (k+j+1) Γ') ->
 ∃Γ',e_ gb i ds Γ = .ok (.nx Γ')/\I (k+ds.length) Γ'
 | [],k,Γ,h,_=>⟨Γ,rfl,h⟩
 | d::ds,k,Γ,h,q=>by
   obtain⟨dG,e1,h1⟩:=q 0 d Γ rfl h
   obtain⟨sX,e2,h2⟩:=A7 I ds (k+1) dG h1 λj d' Γ' hd hI=>by
    have:=q (j+1) d' Γ' (by simpa using hd) (by rw[show k+(j+1)=k+1+j by lia];exact hI)
    rw[show k+(j+1)=k+1+j by lia] at this
    exact this
   refine⟨sX,?_,by rw[cx,show k+(ds.length+1)=k+1+ds.length by lia];exact h2⟩
   rw[A6]
   rcases e1 with e1 | e1<;>rw[e1]<;>exact e2
theorem Wm{gb:G->R Fl}{i:Nat}(S:Nat->G)(ds:List D)(q:∀(j:Nat) (d:D),ds[j]? = some d->gb ((S j).set i (.ro d)) = .ok (.nx (S (j+1)))):e_ gb i ds (S 0) = .ok (.nx (S ds.length)):=by
 obtain⟨Γ',e,h⟩:=A7 (gb:=gb) (i:=i) (λk Γ=>Γ=S k) ds 0 (S 0) rfl λj d Γ hd hI=>by
  rw[sA] at hI ⊢
  subst hI
  exact⟨_,.inl (q j d hd),rfl⟩
 rw[sA] at h
 rw[e,h]
theorem Wn{gb:G->R Fl}{i:Nat}{Γ:G}(S:Nat->G){ds:List D}(h0:Γ=S 0)(q:∀(j:Nat) (d:D),ds[j]? = some d->gb ((S j).set i (.ro d)) = .ok (.nx (S (j+1)))):e_ gb i ds Γ = .ok (.nx (S ds.length)):=by
 rw[h0];exact Wm S ds q
theorem Wo{gb:G->R Fl}{i:Nat}{Γ:G}(S:Nat->G){lo:Int}{n:Nat}(h0:Γ=S 0)(q:∀(j:Nat),j<n->gb ((S j).set i (.ro (.int (lo+(j:Int))))) = .ok (.nx (S (j+1)))):e_ gb i (iW lo n) Γ = .ok (.nx (S n)):=by
 rw[Wn S h0,sU]
 intro j d hd
 have hj:j<n:=by
  have:=(List.getElem?_eq_some_iff.mp hd).1
  rw[sU] at this;exact this
 rw[Ee lo _ _ hj] at hd
 cases hd
 exact q j hj
theorem Eh(gc:G->R Bool)(gb:G->R Fl)(n:Nat)(Γ:G):eI gc gb (n+1) Γ=lift (gc Γ) Γ λk=>if k=true then (match gb Γ with
 | .ok (.nx Γ')=>eI gc gb n Γ'
 | .ok (.ct Γ')=>eI gc gb n Γ'
 | .ok (.bk Γ')=>.ok (.nx Γ')
 | .ok (.rt d)=>.ok (.rt d)
 | .ok (.fz d)=>.ok (.fz d)
 | .ok (.ex c Γ')=>.ok (.ex c Γ')
 | _=>.no) else .ok (.nx Γ):=rfl
theorem A8{gc:G->R Bool}{gb:G->R Fl}(I:Nat->G->Prop)(Q:R Fl->Prop)(q:∀m Γ,I m Γ->(gc Γ = .ok false/\Q (.ok (.nx Γ)))∨(gc Γ = .ok true /\
 ((∃Γ' m',m'<m/\(gb Γ = .ok (.nx Γ')∨gb Γ = .ok (.ct Γ'))/\I m' Γ')∨(∃Γ',gb Γ = .ok (.bk Γ')/\Q (.ok (.nx Γ')))∨(∃d,gb Γ = .ok (.rt d)/\Q (.ok (.rt d)))∨(∃d,gb Γ = .ok (.fz d)/\Q (.ok (.fz d)))∨(∃c Γ',gb Γ = .ok (.ex c Γ')/\Q (.ok (.ex c Γ')))))) :
 ∀(n m:Nat) (Γ:G),m<n->I m Γ->Q (eI gc gb n Γ)
 | 0,m,Γ,h,_=>absurd h (C_ _)
 | n+1,m,Γ,h,hI=>by
   rw[Eh]
   rcases q m Γ hI with ⟨e,hq⟩ | ⟨e,h2⟩
   ·rw[e,sV,if_neg sv];exact hq
   ·rw[e,sV,if_pos rfl]
    rcases h2 with ⟨Γ',m',hm,e',h'⟩ | ⟨Γ',e',h'⟩ | ⟨d,e',h'⟩ | ⟨d,e',h'⟩ | ⟨c,Γ',e',h'⟩
    ·rcases e' with e' | e'<;>rw[e']<;>exact A8 I Q q n m' Γ' (by lia) h'
    ·rw[e'];exact h'
    ·rw[e'];exact h'
    ·rw[e'];exact h'
    ·rw[e'];exact h'
def fc(n:Nat)(ds:List D):G:=ds.map En.ro++dN (n-ds.length) En.no
def fin(r:R Fl):R D:=match r with
 | .ok (.rt d)=>.ok d
 | .ok (.nx _)=>.ok .cH
 | .ok (.ex c _)=>.er c
 | _=>.no
def A9(r:R Fl):R (List D):=match r with
 | .ok (.fz d)=>.ok d
 | .ok (.ex c _)=>.er c
 | _=>.no
def bB(p n:Nat)(g:G->R Fl):List D->R D:=λds=>if ds.length=p then fin (g (fc n ds)) else .no
theorem fX{p n:Nat}{g:G->R Fl}{ds:List D}(h:bB p n g ds ≠ .no):ds.length=p:=by
 unfold bB at h
 by_cases q:ds.length=p
 ·exact q
 ·rw[if_neg q] at h;exact absurd rfl h
theorem kx{p n:Nat}{g:G->R Fl}{ds:List D}(h:ds.length=p):bB p n g ds=fin (g (fc n ds)):=if_pos h
def jF(p n:Nat)(g:G->R Fl):List D->R (List D):=λds=>if ds.length=p then A9 (g (fc n ds)) else .no
theorem rF{p n:Nat}{g:G->R Fl}{ds:List D}(h:jF p n g ds ≠ .no):ds.length=p:=by
 unfold jF at h
 by_cases q:ds.length=p
 ·exact q
 ·rw[if_neg q] at h;exact absurd rfl h
theorem xO{p n:Nat}{g:G->R Fl}{ds:List D}(h:ds.length=p):jF p n g ds=A9 (g (fc n ds)):=if_pos h
theorem Wq:((0:Nat):Int)=0:=rfl
theorem Wr:((1:Nat):Int)=1:=rfl
theorem Ws:((2:Nat):Int)=2:=rfl
theorem Wt:((3:Nat):Int)=3:=rfl
theorem Wu:((4:Nat):Int)=4:=rfl
end
def ky:List Int->Int
 | []=>0
 | [a]=>a
 | a::b::r=>if ky (b::r)>a then ky (b::r) else a
theorem MC:∀{ns:List Int},ns≠[]->ky ns∈ns
 | [a],_=>by simp[ky]
 | a::b::r,_=>by
   have ih:=MC (ns:=b::r) (by simp)
   unfold ky
   split
   ·exact dJ _ ih
   ·exact fi
theorem MD:∀{ns:List Int} {a:Int},a∈ns->a<=ky ns
 | [b],a,h=>by simp only[KD] at h;subst h;exact Int.le_refl _
 | b::c::r,a,h=>by
   unfold ky
   rcases List.mem_cons.mp h with rfl | h
   ·split<;>lia
   ·have:=MD h
    split<;>lia
theorem ME{ns:List Int}{m:Int}(h:m∈ns)(g:∀a∈ns,a<=m):m=ky ns:=Int.le_antisymm (MD h) (g _ (MC λz=>by rw[z] at h;cases h))
def uY(ds:List D):R D:=match ds with
 | [.lst xs]=>(match mj xs with | some (n::ns)=>.ok (.int (ky (n::ns))) | _=>.no)
 | [.int i,.int j]=>.ok (.int (if j>i then j else i))
 | _=>.no
theorem z6s(n:Int)(ns:List Int):uY [.lst (D.int n::ns.map D.int)] = .ok (.int (ky (n::ns))):=by
 have h:=AY (n::ns)
 rw[e8] at h
 simp only[uY,h]
def MF:Nat:=10^1200
def MG(i j:Int):Prop:=i.natAbs<MF/\j.natAbs<MF
instance (i j:Int):Decidable (MG i j):=by unfold MG;exact inferInstance
def D.isNon:D->Bool
 | .cH=>true
 | _=>false
def xP(n:Int):Nat:=if n==0 then 0 else n.natAbs.log2+1
def y9m(d:D):R D:=match d with
 | .int n=>.ok (.int (xP n))
 | _=>.no
noncomputable def y7l(ga:G->R D):G->R D:=λΓ=>ga Γ>>=y9m
noncomputable def Ei(x y:D):R D:=match x,y with
 | .int i,.int j=>R.guard (0<=i/\0<=j) (.ok (.int (i/2^j.toNat)))
 | _,_=>.no
noncomputable def y3b(gs:G->R (List D)):G->R (List D):=λΓ=>gs Γ>>=λds=>R.guard (ds.length<=1000) (.ok ds)
noncomputable def uZ(gc:G->R Bool)(ge:G->R D):D->D->G->R (Option D):=λd d2 Γ=>gc (.ro d :: .ro d2::Γ)>>=λk=>if k=true then ge (.ro d :: .ro d2::Γ)>>=λe=>.ok (some e) else .ok none
def y0e(f:D->D->G->R (Option D))(Γ:G)(d:D):R (Option D):=match d with
 | .tup [a,b]=>f a b Γ
 | _=>.no
noncomputable def y4r(gi:G->R (List D))(f:D->D->G->R (Option D)):G->R (List D):=λΓ=>gi Γ>>=λitems=>R.guard (items.length<=100000) (c8 (y0e f Γ) items [])
def jf:Nat->List D->List D
 | _,[]=>[]
 | k,x::xs=>.tup [.int k,x]::jf (k+1) xs
noncomputable def y7k(ga:G->R D):G->R (List D):=λΓ=>ga Γ>>=λa=>match a with
 | .lst xs=>R.guard (D.a_ xs=true) (.ok (jf 0 xs))
 | _=>.no
def z9m(ga:G->R D):G->R Bool:=λΓ=>ga Γ>>=λd=>match d with
 | .lst ds=>.ok (!ds.isEmpty)
 | _=>.no
def jg(f:D->R (Option D)):List D->List D->R (List D)
 | [],acc=>.ok acc
 | d::ds,acc=>match f d with
   | .no=>.no
   | .er c=>.er c
   | .ok none=>jg f ds acc
   | .ok (some e)=>jg f ds (acc++[e])
noncomputable def z9d(gi:G->R (List D))(f:D->G->R (Option D)):G->R (List D):=λΓ=>gi Γ>>=λitems=>R.guard (items.length<=100000) (jg (λd=>f d Γ) items [])
noncomputable def gRev(g:G->R D):G->R (List D):=λΓ=>g Γ>>=λd=>match d with
 | .tup ds=>R.guard (D.a_ ds=true) (.ok ds.reverse)
 | _=>.no
noncomputable def sY(i:Nat)(gs:G->R (List D)):G->R Fl:=λΓ=>match Γ[i]? with
 | some (.own ds)=>lift (gs Γ) Γ λes=>R.guard (ds.length+es.length<=100000) (.ok (.nx (Γ.set i (.own (ds++es)))))
 | _=>.no
theorem Wv{i:Nat}{gs:G->R (List D)}{Γ:G}{ds es:List D}(hi:Γ[i]? = some (.own ds))(h:gs Γ = .ok es)(hl:ds.length+es.length<=100000):sY i gs Γ = .ok (.nx (Γ.set i (.own (ds++es)))):=by
 unfold sY;rw[hi]
 show lift (gs Γ) Γ _=_
 rw[h,sV,bW hl]
end L3
namespace L3
section
variable {Γ Γ':G}{i:Nat}{g gk:G->R D}{gs:G->R (List D)}{gc:G->R Bool}{t u e gb:G->R Fl}{r:R Fl}{d k:D}{ds:List D}{c:Er}
theorem jh(h:t Γ = .ok (.nx Γ'))(h2:u Γ'=r):aD t u Γ=r:=by unfold aD;rw[h];exact h2
theorem qc(h:t Γ = .ok (.rt d)):aD t u Γ = .ok (.rt d):=by unfold aD;rw[h];rfl
theorem Ww(h:t Γ = .ok (.fz ds)):aD t u Γ = .ok (.fz ds):=by unfold aD;rw[h];rfl
theorem Ej(h:t Γ = .ok (.ex c Γ')):aD t u Γ = .ok (.ex c Γ'):=by unfold aD;rw[h];rfl
theorem nO(h:g Γ = .ok d):bJ i g Γ = .ok (.nx (Γ.set i (.ro d))):=by unfold bJ;rw[h];rfl
theorem A_(h:gs Γ = .ok ds):fG i gs Γ = .ok (.nx (Γ.set i (.own ds))):=by unfold fG;rw[h];rfl
theorem Wx(ho:Γ[i]? = some (.own ds))(h:g Γ = .ok d)(hl:ds.length<=100000):nM i g Γ = .ok (.nx (Γ.set i (.own (ds++[d])))):=by
 unfold nM;rw[ho];simp only[h,sV,bW hl]
theorem Ek{j:Int}{n:Nat}(ho:Γ[i]? = some (.own ds))(h:g Γ = .ok d)(hk:gk Γ = .ok (.int j))(hn:iV ds.length j=some n):oZ i gk g Γ = .ok (.nx (Γ.set i (.own (ds.set n d)))):=by
 unfold oZ;rw[ho];simp only[h,hk,sV,hn]
theorem jG(hc:gc Γ = .ok true)(h:t Γ=r):b5 gc t u Γ=r:=by unfold b5;rw[hc];exact h
theorem El(hc:gc Γ = .ok false)(h:u Γ=r):b5 gc t u Γ=r:=by unfold b5;rw[hc];exact h
theorem rG(hc:gc Γ = .ok false):b5 gc t cL Γ = .ok (.nx Γ):=El hc rfl
theorem MH(hi:gs Γ = .ok ds)(h:e_ gb i ds Γ=r):iX i gs gb Γ=r:=by unfold iX;rw[hi];exact h
theorem b7(h:g Γ = .ok d):a8 g Γ = .ok (.rt d):=by unfold a8;rw[h];rfl
theorem xQ(h:gs Γ = .ok ds):p_ gs Γ = .ok (.fz ds):=by unfold p_;rw[h];rfl
theorem MI(h:Γ[i]? = some (.own ds)):rD i Γ = .ok (.fz ds):=by unfold rD;rw[h]
theorem MJ(h:g Γ = .ok d):uX g Γ = .ok (.nx Γ):=by unfold uX;rw[h];rfl
theorem cV(hg:g Γ = .ok d)(h:u (Γ.set i (.ro d))=r):aD (bJ i g) u Γ=r:=jh (nO hg) h
theorem kz(hg:gs Γ = .ok ds)(h:u (Γ.set i (.own ds))=r):aD (fG i gs) u Γ=r:=jh (A_ hg) h
theorem dB(hc:gc Γ = .ok false)(h:u Γ=r):aD (b5 gc t cL) u Γ=r:=jh (rG hc) h
theorem Wy(hc:gc Γ = .ok true)(ht:t Γ = .ok (.nx Γ'))(h:u Γ'=r):aD (b5 gc t e) u Γ=r:=jh (jG hc ht) h
theorem Em(hi:gs Γ = .ok ds)(hf:e_ gb i ds Γ = .ok (.nx Γ'))(h:u Γ'=r):aD (iX i gs gb) u Γ=r:=jh (MH hi hf) h
theorem cF{p n:Nat}(hl:ds.length=p)(h:t (fc n ds) = .ok (.rt d)):bB p n t ds = .ok d:=by rw[kx hl,h];rfl
theorem sZ{p n:Nat}(hl:ds.length=p)(h:t (fc n ds) = .ok (.ex c Γ)):bB p n t ds = .er c:=by rw[kx hl,h];rfl
theorem s8{p n:Nat}{es:List D}(hl:ds.length=p)(h:t (fc n ds) = .ok (.fz es)):jF p n t ds = .ok es:=by rw[xO hl,h];rfl
def Ends(r:R Fl)(I:G->Prop):Prop:=∃Γ',(r = .ok (.nx Γ')∨r = .ok (.ct Γ'))/\I Γ'
theorem Ends.nx{I:G->Prop}{r:R Fl}(h:r = .ok (.nx Γ))(hI:I Γ):Ends r I:=⟨Γ,.inl h,hI⟩
theorem u0(I:Nat->G->Prop)(hi:gs Γ = .ok ds)(h0:I 0 Γ)(hq:∀(j:Nat) (d:D) (Γ:G),ds[j]? = some d->I j Γ->Ends (gb (Γ.set i (.ro d))) (I (j+1)))(h:∀Γ',I ds.length Γ'->u Γ'=r):aD (iX i gs gb) u Γ=r:=by
 obtain⟨Γ',e,h'⟩:=A7 I ds 0 Γ h0 λj d Γ hd hI=>by rw[sA] at hI ⊢;exact hq j d Γ hd hI
 rw[sA] at h'
 exact Em hi e (h Γ' h')
end
def bC(f:Nat->Int):Nat->Int
 | 0=>0
 | n+1=>bC f n+f n
theorem Wz(f:Nat->Int):bC f 0=0:=rfl
theorem j4(f:Nat->Int)(n:Nat):bC f (n+1)=bC f n+f n:=rfl
theorem rH{f g:Nat->Int}:∀{n:Nat},(∀i,i<n->f i=g i)->bC f n=bC g n
 | 0,_=>rfl
 | n+1,h=>by rw[j4,j4,rH λi hi=>h i (by lia),h n (by lia)]
theorem Eo(f g:Nat->Int):∀n:Nat,bC (λi=>f i+g i) n=bC f n+bC g n
 | 0=>rfl
 | n+1=>by rw[j4,j4,j4,Eo f g n];lia
theorem Ep(c:Int)(f:Nat->Int):∀n:Nat,bC (λi=>c*f i) n=c*bC f n
 | 0=>by simp[bC]
 | n+1=>by rw[j4,j4,Ep c f n,Int.mul_add]
theorem WA(c:Int)(f:Nat->Int)(n:Nat):bC (λi=>f i*c) n=bC f n*c:=by
 rw[rH (g:=λi=>c*f i) λi _=>KG _ _,Ep,KG]
theorem Ba:∀n:Nat,bC (λ_=>0) n=0
 | 0=>rfl
 | n+1=>by rw[j4,Ba n];rfl
theorem MK(f:Nat->Nat->Int)(m:Nat):∀n:Nat,bC (λi=>bC (λj=>f i j) m) n=bC (λj=>bC (λi=>f i j) n) m
 | 0=>by simp only[Wz,Ba]
 | n+1=>by
   rw[j4,MK f m n,<-Eo]
   rfl
theorem Es{f:Nat->Int}{k:Nat}:∀{n:Nat},k<n->(∀i,i<n->i≠k->f i=0)->bC f n=f k
 | 0,h,_=>absurd h (C_ _)
 | n+1,h,q=>by
   rw[j4]
   by_cases e:k=n
   ·subst e
    rw[rH (g:=λ_=>0) λi hi=>q i (by lia) (by lia),Ba];lia
   ·rw[Es (by lia) λi hi hk=>q i (by lia) hk,q n (by lia) (dM e)];lia
theorem WB{f:Nat->Int}{n:Nat}(q:∀i,i<n->f i=0):bC f n=0:=by
 rw[rH (g:=λ_=>0) q,Ba]
theorem Et(f:Nat->Int):∀n:Nat,((eY n).map f).sum=bC f n
 | 0=>rfl
 | n+1=>by rw[wO,jv,List.sum_append,Et f n,j4];simp
def cg(P a b:Int):Prop:=a%P=b%P
theorem cg.refl{P a:Int}:cg P a a:=rfl
theorem cg.symm{P a b:Int}(h:cg P a b):cg P b a:=Eq.symm h
theorem cg.trans{P a b c:Int}(h:cg P a b)(g:cg P b c):cg P a c:=Eq.trans h g
theorem cg.of_eq{P a b:Int}(h:a=b):cg P a b:=by rw[h];exact cg.refl
theorem qd{P a:Int}:cg P (a%P) a:=by unfold cg;exact Int.emod_emod_of_dvd a (Int.dvd_refl P)
theorem cg.add{P a b c d:Int}(h:cg P a b)(g:cg P c d):cg P (a+c) (b+d):=by unfold cg at *;rw[Int.add_emod,h,g,<-Int.add_emod]
theorem cg.sub{P a b c d:Int}(h:cg P a b)(g:cg P c d):cg P (a-c) (b-d):=by unfold cg at *;rw[SK,h,g,<-SK]
theorem cg.mul{P a b c d:Int}(h:cg P a b)(g:cg P c d):cg P (a*c) (b*d):=by unfold cg at *;rw[Int.mul_emod,h,g,<-Int.mul_emod]
theorem cg.bC{P:Int}{f g:Nat->Int}:∀{n:Nat},(∀i,i<n->cg P (f i) (g i))->cg P (L3.bC f n) (L3.bC g n)
 | 0,_=>cg.refl
 | n+1,h=>(cg.bC λi hi=>h i (by lia)).add (h n (by lia))
theorem cg.ML{P a b:Int}(h:cg P a b)(ha:0<=a)(MM:a<P)(hb:0<=b)(xR:b<P):a=b:=by
 unfold cg at h;rw[qX ha MM,qX hb xR] at h;exact h
theorem WC{P a b:Int}:cg P a b↔(a-b)%P=0:=by
 unfold cg
 constructor
 ·intro h;rw[SK,h,Int.sub_self,Int.zero_emod]
 ·intro h
  have:cg P (a-b+b) (0+b):=cg.add (by unfold cg;rw[h,Int.zero_emod]) cg.refl
  unfold cg at this
  rw[show a-b+b=a by lia,zZ] at this
  exact this
theorem mr{w P:Int}(h:0<P):0<=w%P:=SM _ (by lia)
theorem mw{w P:Int}(h:0<P):w%P<P:=SN _ h
end L3
namespace L3
open PySem
noncomputable def lh(ds:List D):R D:=match ds with
 | [.int i]=>R.guard (i.natAbs.log2<1920) (.ok (.str (toString i)))
 | _=>.no
noncomputable def x2v(ds:List D):R D:=match ds with
 | [.str x]=>R.guard (x.length<=100000) (.ok (.int x.length))
 | _=>.no
noncomputable def dIxS(x y:D):R D:=match x,y with
 | .str z,.int i=>R.guard (z.length<=100000) (match cS z.cps.toList i with | some c=>.ok (.str ⟨#[c]⟩) | none=>.no)
 | _,_=>.no
noncomputable def y3y(x y:D):R D:=match x,y with
 | .str i,.str j=>R.guard (i.length+j.length<=100000) (.ok (.str (i++j)))
 | _,_=>.no
def u9(i j:Str):Bool:=!(zU j i 0 j.length 1).isEmpty
noncomputable def dInS(x y:D):R D:=match x,y with
 | .str i,.str j=>.ok (.bl (u9 i j))
 | _,_=>.no
noncomputable def z9n(x c:D):R D:=match c with
 | .tup ys=>R.guard (D.lay 40 x=true/\D.lay 40 (.tup ys)=true) (.ok (.bl (!(ys.any λy=>cz y x))))
 | _=>.no
def strs?:List D->Option (List Str)
 | []=>some []
 | .str x::r=>(strs? r).map (x::·)
 | _::_=>none
theorem strs?_map:∀xs:List Str,strs? (xs.map D.str)=some xs
 | []=>rfl
 | x::r=>by rw[e8,strs?,strs?_map r];rfl
theorem Bb:∀{ds:List D} {xs:List Str},strs? ds=some xs->ds=xs.map D.str
 | [],xs,h=>by cases h;rfl
 | .str x::r,xs,h=>by
   rw[strs?] at h
   obtain⟨ys,e,rfl⟩:=Option.map_eq_some_iff.mp h
   rw[Bb e];rfl
 | .cH::_,_,h=>by cases h
 | .bl _::_,_,h=>by cases h
 | .int _::_,_,h=>by cases h
 | .tup _::_,_,h=>by cases h
 | .lst _::_,_,h=>by cases h
 | .jX::_,_,h=>by cases h
 | .exc _::_,_,h=>by cases h
noncomputable def nP(sep:Str)(g:G->R D):G->R D:=λΓ=>g Γ>>=λd=>match d with
 | .lst ds=>(match strs? ds with | some xs=>R.guard (sC sep xs=true) (.ok (.str (oJ sep xs))) | none=>.no)
 | _=>.no
noncomputable def xS(sep:Str)(g:G->R D):G->R (List D):=λΓ=>g Γ>>=λd=>match d with
 | .str x=>R.guard (x.length<=100000/\(sep.length==0)=false) (.ok ((pH x sep).map D.str))
 | _=>.no
def nQ(x:Str):List D:=x.cps.toList.map λc=>.str ⟨#[c]⟩
noncomputable def y2y(g:G->R D):G->R (List D):=λΓ=>g Γ>>=λd=>match d with
 | .str x=>R.guard (x.length<=100000) (.ok (nQ x))
 | _=>.no
def R.good{α:Type}(r:R α):R α:=match r with
 | .ok a=>.ok a
 | _=>.no
theorem R.Bc{α:Type}{r:R α}(h:R.good r ≠ .no):∃a,r = .ok a:=by
 cases r with
 | ok a=>exact⟨a,rfl⟩
 | no=>exact absurd rfl h
 | er c=>exact absurd rfl h
def gZ(φ:List D->R (D×List D))(gs:G->R (List D)):G->R (D×List D):=λΓ=>R.good (gs Γ)>>=λds=>R.good (φ ds)
theorem WD{φ:List D->R (D×List D)}{gs:G->R (List D)}{Γ:G}(h:gZ φ gs Γ ≠ .no):∃ds r,gs Γ = .ok ds/\φ ds = .ok r/\gZ φ gs Γ = .ok r:=by
 obtain⟨ds,e1⟩:=R.Bc (R.left h)
 have e2:gZ φ gs Γ=R.good (φ ds):=by unfold gZ;rw[e1];rfl
 rw[e2] at h ⊢
 obtain⟨r,e3⟩:=R.Bc h
 exact⟨ds,r,e1,e3,by rw[e3];rfl⟩
def u_(i:Nat)(gc:G->R D):G->R (D×List D):=λΓ=>R.good (gc Γ)>>=λd=>match d with
 | .int n=>(match Γ[i]? with
   | some (.own ws)=>if (0<=n/\n.toNat<=ws.length/\ws.length<=100000) then .ok (.lst (ws.reverse.take n.toNat),ws.take (ws.length-n.toNat)) else .no
   | _=>.no)
 | _=>.no
theorem WE{i:Nat}{gc:G->R D}{Γ:G}(h:u_ i gc Γ ≠ .no):∃(n:Int) (ws:List D),gc Γ = .ok (.int n)/\Γ[i]? = some (.own ws)/\0<=n/\n.toNat<=ws.length/\ws.length<=100000/\u_ i gc Γ = .ok (.lst (ws.reverse.take n.toNat),ws.take (ws.length-n.toNat)):=by
 unfold u_ at h ⊢
 cases e1:gc Γ with
 | no=>rw[e1] at h;exact absurd rfl h
 | er c=>rw[e1] at h;exact absurd rfl h
 | ok d =>
   rw[e1] at h
   cases d with
   | int n =>
     cases hw:Γ[i]? with
     | none=>rw[hw] at h;exact absurd rfl h
     | some en =>
       cases en with
       | no=>rw[hw] at h;exact absurd rfl h
       | ro d'=>rw[hw] at h;exact absurd rfl h
       | own ws =>
         rw[hw] at h
         by_cases hq:(0<=n/\n.toNat<=ws.length/\ws.length<=100000)
         ·refine⟨n,ws,rfl,rfl,hq.1,hq.2.1,hq.2.2,?_⟩
          show(if (0<=n/\n.toNat<=ws.length/\ws.length<=100000) then R.ok (D.lst (ws.reverse.take n.toNat),ws.take (ws.length-n.toNat)) else .no)=_
          rw[if_pos hq]
         ·exact absurd (show(if (0<=n/\n.toNat<=ws.length/\ws.length<=100000) then R.ok (D.lst (ws.reverse.take n.toNat),ws.take (ws.length-n.toNat)) else .no) = .no by rw[if_neg hq]) h
   | _=>exact absurd rfl h
def o4(j w:Nat)(u:G->R (D×List D)):G->R Fl:=λΓ=>match u Γ with
 | .ok (d,ws)=>.ok (.nx ((Γ.set w (.own ws)).set j (.ro d)))
 | _=>.no
def s_(w:Nat)(u:G->R (D×List D)):G->R Fl:=λΓ=>match u Γ with
 | .ok (_,ws)=>.ok (.nx (Γ.set w (.own ws)))
 | _=>.no
def qe(m w:Nat)(u:G->R (D×List D)):G->R Fl:=λΓ=>match u Γ with
 | .ok (d,ws)=>(match (Γ.set w (.own ws))[m]? with
   | some (.own ds)=>if ds.length<=100000 then .ok (.nx ((Γ.set w (.own ws)).set m (.own (ds++[d])))) else .no
   | _=>.no)
 | _=>.no
def td(w:Nat)(u:G->R (D×List D)):G->R Fl:=λΓ=>match u Γ with
 | .ok (.bl false,ws)=>.ok (.nx (Γ.set w (.own ws)))
 | _=>.no
def rJ(w:Nat)(u:G->R (D×List D))(gb:G->R D):G->R (D×List D):=λΓ=>match u Γ with
 | .ok (d,ws)=>(match gb (Γ.set w (.own ws)) with
   | .ok b=>(match aI d b with | .ok r=>.ok (r,ws) | _=>.no)
   | _=>.no)
 | _=>.no
def o5(φ:D->D->R D)(w:Nat)(u:G->R (D×List D))(gb:G->R D):G->R (D×List D):=λΓ=>match u Γ with
 | .ok (d,ws)=>(match gb (Γ.set w (.own ws)) with
   | .ok b=>(match φ d b with | .ok r=>.ok (r,ws) | _=>.no)
   | _=>.no)
 | _=>.no
def vc(φ:List D->R D)(u:G->R (D×List D)):G->R (D×List D):=λΓ=>match u Γ with
 | .ok (d,ws)=>(match φ [d] with | .ok r=>.ok (r,ws) | _=>.no)
 | _=>.no
def tf(j w:Nat)(u:G->R (D×List D))(f:D->G->R (Option D)):G->R Fl:=λΓ=>match u Γ with
 | .ok (.lst items,ws)=>if items.length<=100000 then (match c8 (λd=>f d (Γ.set w (.own ws))) items [] with | .ok total=>.ok (.nx ((Γ.set w (.own ws)).set j (.own total))) | _=>.no) else .no
 | _=>.no
theorem WG{j w:Nat}{u:G->R (D×List D)}{f:D->G->R (Option D)}{Γ:G}(h:tf j w u f Γ ≠ .no):∃items ws total,u Γ = .ok (.lst items,ws)/\items.length<=100000/\c8 (λd=>f d (Γ.set w (.own ws))) items [] = .ok total/\tf j w u f Γ = .ok (.nx ((Γ.set w (.own ws)).set j (.own total))):=by
 unfold tf at h ⊢
 cases e1:u Γ with
 | no=>rw[e1] at h;exact absurd rfl h
 | er c=>rw[e1] at h;exact absurd rfl h
 | ok r =>
   obtain⟨d,ws⟩:=r
   cases d with
   | lst items =>
     rw[e1] at h
     dsimp only at h ⊢
     by_cases q:items.length<=100000
     ·rw[if_pos q] at h ⊢
      cases e2:c8 (λd=>f d (Γ.set w (.own ws))) items [] with
      | no=>rw[e2] at h;exact absurd rfl h
      | er c=>rw[e2] at h;exact absurd rfl h
      | ok total=>exact⟨items,ws,total,rfl,q,e2,rfl⟩
     ·rw[if_neg q] at h;exact absurd rfl h
   | _=>rw[e1] at h;exact absurd rfl h
def fA(xs:List Str):List Str:=xs.foldl (λl k=>if k∈l then l else k::l) []
theorem Eu(xs:List Str)(k:Str):fA (xs++[k])=if k∈fA xs then fA xs else k::fA xs:=by
 unfold fA
 rw[List.foldl_append];rfl
noncomputable def Bd(ga:G->R D):G->R D:=λΓ=>ga Γ>>=λd=>match d with
 | .lst ds=>(match strs? ds with | some xs=>R.guard (xs.length<=1000) (.ok (.int (fA xs).length)) | none=>.no)
 | _=>.no
noncomputable def z8u(g:G->R D):G->R (List D):=λΓ=>g Γ>>=λd=>match d with
 | .lst ds=>R.guard (ds.length<=100000/\D.a_ ds=true) (.ok ds.reverse)
 | _=>.no
noncomputable def nR(xs:List Str)(x:Str):R D:=match xs.findIdx? (·==x) with
 | some j=>R.guard (xs.length<=1000) (.ok (.int (j:Int)))
 | none=>.no
noncomputable def xT(ga gb:G->R D):G->R D:=λΓ=>ga Γ>>=λa=>match a with
 | .tup ds=>gb Γ>>=λb=>(match b with
   | .str x=>(match strs? ds with | some xs=>nR xs x | none=>.no)
   | _=>.no)
 | _=>.no
noncomputable def xU(ds:List D):R D:=match ds with
 | [.str x]=>R.guard (x.length<=640) (match intText? x with | some n=>.ok (.int n) | none=>.no)
 | _=>.no
def qf(i:Nat)(g:G->R D):G->R (D×List D):=λΓ=>R.good (g Γ)>>=λd=>match Γ[i]? with
 | some (.own ws)=>.ok (d,ws)
 | _=>.no
def dH(t:G->R Fl)(u:G->R (D×List D)):G->R (D×List D):=λΓ=>match t Γ with
 | .ok (.nx Γ')=>u Γ'
 | _=>.no
def nS(c:G->R Bool)(t u:G->R (D×List D)):G->R (D×List D):=λΓ=>R.good (c Γ)>>=λb=>if b=true then t Γ else u Γ
def Be:G->R Fl:=λ_=>.no
def Ew:G->R (D×List D):=λ_=>.no
def ic(i:Nat)(t:G->R Fl):G->R (D×List D):=λΓ=>match t Γ with
 | .ok (.nx Γ')=>(match Γ'[i]? with | some (.own ws)=>.ok (.cH,ws) | _=>.no)
 | _=>.no
def gNoX(t:G->R Fl):G->R Fl:=λΓ=>match t Γ with
 | .ok (.ex _ _)=>.no
 | r=>r
def nU(p n i:Nat)(g:G->R (D×List D)):List D->R (D×List D):=λds=>if ds.length=p then (match ds[i]? with | some (.lst ws)=>g ((fc n ds).set i (.own ws)) | _=>.no) else .no
theorem rK{p n i:Nat}{g:G->R (D×List D)}{ds:List D}(h:nU p n i g ds ≠ .no):ds.length=p:=by
 unfold nU at h
 by_cases q:ds.length=p
 ·exact q
 ·rw[if_neg q] at h;exact absurd rfl h
theorem o6{p n i:Nat}{g:G->R (D×List D)}{as bs ws:List D}(hi:as.length=i)(h:(as++D.lst ws::bs).length=p):nU p n i g (as++D.lst ws::bs)=g ((fc n (as++D.lst ws::bs)).set i (.own ws)):=by
 unfold nU
 rw[if_pos h,uA (by lia),hi,KH]
 rfl
def z8f(w:Nat)(gs:G->R (List D)):G->R (List D):=λΓ=>match Γ[w]? with
 | some (.own ws)=>gs Γ>>=λbs=>.ok (.lst ws::bs)
 | _=>.no
noncomputable def xV(x y:D):R D:=match x,y with
 | .str i,.int n=>R.guard (i.length<=1000/\0<=n/\n<=1000) (.ok (.str (wQ i n)))
 | _,_=>.no
theorem MN{c:Nat}:∀{a b r q:List Nat},c ∉ a->c ∉ b->a++c::r=b++c::q->a=b/\r=q
 | [],[],r,q,_,_,h=>by simpa using h
 | [],y::b,r,q,_,hb,h=>by
   simp only[pI,oK,KI] at h
   exact absurd (h.1 ▸ fi ..) hb
 | x::a,[],r,q,ha,_,h=>by
   simp only[pI,oK,KI] at h
   exact absurd (h.1 ▸ fi ..) ha
 | x::a,y::b,r,q,ha,hb,h=>by
   simp only[oK,KI] at h
   obtain⟨h1,h2⟩:=MN (λz=>ha (dJ _ z)) (λz=>hb (dJ _ z)) h.2
   exact⟨by rw[h.1,h1],h2⟩
def one(c:Nat):Str:=⟨#[c]⟩
theorem ti(c:Nat)(x y:Str)(r:List Str):(kN (one c) (x::y::r)).cps.toList=x.cps.toList++c::(kN (one c) (y::r)).cps.toList:=by
 show((x++one c++kN (one c) (y::r)).cps).toList=_
 rw[SO,SO]
 simp[one]
theorem MO{c:Nat}{x:Str}(hx:c ∉ x.cps.toList){y z:Str}{r:List Str}:x≠kN (one c) (y::z::r):=λh=>by
 have e:=congrArg (λs:Str=>s.cps.toList) h
 rw[ti] at e
 exact hx (e ▸ b8 _ (fi ..))
theorem MP(c:Nat):∀{xs ys:List Str},xs≠[]->ys≠[]->(∀x∈xs,c ∉ x.cps.toList)->(∀y∈ys,c ∉ y.cps.toList)->kN (one c) xs=kN (one c) ys->xs=ys
 | [],_,h,_,_,_,_=>absurd rfl h
 | _,[],_,h,_,_,_=>absurd rfl h
 | [x],[y],_,_,_,_,h=>by rw[show x=y from h]
 | [x],y::z::r,_,_,hx,_,h=>absurd h (MO (hx x (fi ..)))
 | x::w::q,[y],_,_,_,hy,h=>absurd h.symm (MO (hy y (fi ..)))
 | x::w::q,y::z::r,_,_,hx,hy,h=>by
   have e:=congrArg (λs:Str=>s.cps.toList) h
   rw[ti,ti] at e
   obtain⟨h1,h2⟩:=MN (hx x (fi ..)) (hy y (fi ..)) e
   have h3:kN (one c) (w::q)=kN (one c) (z::r):=KJ (Array.toList_inj.mp h2)
   rw[show x=y from KJ (Array.toList_inj.mp h1),MP c (by simp) (by simp) (λa ha=>hx a (dJ _ ha)) (λa ha=>hy a (dJ _ ha)) h3]
theorem WH(x y:Str):pH x y≠[]:=by
 unfold pH
 split
 ·simp
 ·split
  ·simp
  ·rw[StrLaws.partsBetween_eq]
   obtain⟨p,q,e⟩:=StrLaws.partsFrom_ne x y.length 0 (zU x y 0 x.length (x.length+1))
   rw[e];simp
theorem MQ(c:Nat){xs:List Str}(h0:xs≠[])(h:∀x∈xs,c ∉ x.cps.toList):pH (oJ (one c) xs) (one c)=xs:=by
 have e:oJ (one c) xs=kN (one c) xs:=KL _ _
 rw[e]
 exact MP c (WH _ _) h0 (StrLaws.split_free _ c) h (StrLaws.join_split _ _)
end L3
namespace L3
open PySem PySem.NumText
def aU(n:Int):Str:=toString n
theorem WI(s:String):(iR s).cps.toList=s.toList.map SQ:=by
 simp only[Str.ofString_eq_toList,List.toList_toArray]
theorem rL(m:Nat):(aU (m:Int)).cps.toList=(kO 10 m).map SQ:=by
 show(iR (Nat.repr m)).cps.toList=_
 rw[WI,Nat.toList_repr]
theorem WJ(m:Nat):1<=(kO 10 m).length:=by
 by_cases h:m<10
 ·rw[wR h];simp
 ·have hm:m%10<10:=SR m (by decide)
  have t:kO 10 (m/10)++kO 10 (m%10)=kO 10 (10*(m/10)+m%10):=SS (by decide) (by lia) hm
  rw[SU] at t
  rw[<-t,dW,wR hm]
  simp
theorem MR:∀d:Nat,d<10->(Nat.digitChar d).toNat-48=d:=by decide
theorem MS(m:Nat):digitsVal ((kO 10 m).map SQ)=m:=by
 induction m using Nat.strongRecOn with
 | _ m ih =>
   by_cases h:m<10
   ·rw[wR h]
    have e:=MR m h
    show 0*10+((Nat.digitChar m).toNat-48)=m
    lia
   ·have hm:m%10<10:=SR m (by decide)
    have t:kO 10 (m/10)++kO 10 (m%10)=kO 10 (10*(m/10)+m%10):=SS (by decide) (by lia) hm
    rw[SU] at t
    rw[<-t,jv,wR hm,e8,su,digitsVal_snoc,ih (m/10) (by lia),MR (m%10) hm]
    lia
theorem WK{ch:Char}(h:ch.isDigit=true):48<=ch.toNat/\ch.toNat<=57:=by
 unfold Char.isDigit at h
 simp only[ir,decide_eq_true_eq] at h
 exact⟨h.1,h.2⟩
theorem tj{n:Int}(h0:0<=n):PySem.NumText.AllDigits (aU n).cps.toList:=by
 obtain⟨m,rfl⟩:=pJ h0
 intro c hc
 rw[rL] at hc
 obtain⟨ch,iw,e⟩:=List.mem_map.mp hc
 have r:=WK (Nat.isDigit_of_mem_toDigits (by decide) (by decide) iw)
 rw[<-e]
 exact r
theorem Ey{n:Int}(h0:0<=n):(aU n).cps.toList≠[]:=by
 obtain⟨m,rfl⟩:=pJ h0
 rw[rL]
 intro e
 have h:=WJ m
 rw[List.map_eq_nil_iff.mp e] at h
 exact absurd h (by decide)
theorem WL:∀(k m:Nat),m<10^(k+1)->(kO 10 m).length<=k+1:=by
 intro k
 induction k with
 | zero=>intro m h;rw[wR (by simpa using h)];simp
 | succ k ih =>
   intro m h
   by_cases q:m<10
   ·rw[wR q];simp
   ·have hm:m%10<10:=SR m (by decide)
    have t:kO 10 (m/10)++kO 10 (m%10)=kO 10 (10*(m/10)+m%10):=SS (by decide) (by lia) hm
    rw[SU] at t
    rw[<-t,dW,wR hm]
    have:=ih (m/10) (by rw[SV] at h;lia)
    simp only[cx,i_]
    lia
theorem vd{n:Int}(h0:0<=n)(h1:n<=10^30):(aU n).length<=31:=by
 obtain⟨m,rfl⟩:=pJ h0
 have e:(aU (m:Int)).length=(kO 10 m).length:=by
  have:=congrArg Kq (rL m)
  rw[a6] at this
  simpa [wK] using this
 rw[e]
 refine WL 30 m ?_
 have:(m:Int)<=((10^30:Nat):Int):=by simpa using h1
 have:=Int.ofNat_le.mp this
 exact KC this (by decide)
theorem WM{n:Int}(h0:0<=n):1<=(aU n).length:=by
 have:=Ey h0
 have e:(aU n).length=(aU n).cps.toList.length:=by simp[wK]
 rw[e]
 exact List.length_pos_iff.mpr this
theorem WN{n:Int}(h0:0<=n)(h1:n<=10^30):intText? (aU n)=some n:=by
 have e:=intText_digits (tj h0) (Ey h0) (dD (vd h0 h1) (by decide))
 obtain⟨m,rfl⟩:=pJ h0
 rw[rL,MS] at e
 exact e
theorem WO{n:Int}(h0:0<=n){r:List Nat}(h:(aU n).cps.toList=48::r):aU n=aU 0:=by
 obtain⟨m,rfl⟩:=pJ h0
 have hd:=tj h0
 have hv:PySem.NumText.digitsVal (aU (m:Int)).cps.toList=m:=by rw[rL,MS]
 have t:=toDigits_all (aU (m:Int)).cps.toList hd
 rw[hv] at t
 have hl:(aU (m:Int)).cps.toList.length=(kO 10 m).length:=by rw[rL,a6]
 rw[h] at t hl
 rw[List.dropWhile_cons] at t
 simp only[beq_self_eq_true,if_true] at t
 cases q:r.dropWhile (·==48) with
 | nil =>
   rw[q] at t
   refine KJ (Array.toList_inj.mp ?_)
   rw[rL,t]
   exact(rL 0).symm
 | cons c s =>
   rw[q] at t
   have l1:=congrArg Kq t
   rw[a6] at l1
   have l2:(c::s).length<=r.length:=by
    rw[<-q]
    exact(List.dropWhile_sublist _).length_le
   simp only[cx] at l1 l2 hl
   lia
end L3
namespace L3
open PySem
noncomputable section
def MT:G->R Fl :=
 (aD (b5 (gT (aj rp (gV 1) (ay dF (ae (gV 0) ak)))) (a8 (aj aI (gV 0) (gV 1))) cL)
 (a8 (gC (.int 0))))
def o7:List D->R D:=bB 2 2 MT
def MU:G->R Fl :=
 (aD (fG 3 (eA ak))
 (aD (iX 4 (mq (gV 2))
 (aD (nM 3 (aG (aj eG (gV 0) (gV 1))))
 (bJ 0 (aG (aj jY (gV 0) (gV 1))))))
 (a8 (ay fL (ae (gV 3) ak)))))
def ve:List D->R D:=bB 3 5 MU
def MV:G->R Fl :=
 (aD (b5 (gT (aj dQ (aj eG (gV 0) (gC (.int 2))) (gC (.int 0)))) (a8 (aj aI (fT (Mo [3,5,7,11,13,17,19,23])) (aj eG (aj jY (gV 0) (gC (.int 2))) (gC (.int 8))))) cL)
 (aD (bJ 1 (aG (aj d9 (gC (.int 3)) (aj eG (aj jY (gV 0) (gC (.int 2))) (gC (.int 9971))))))
 (aD (eI (gT (ay p8 (ae (gL (cR (xK (gC (.int 2)) (gC (.int 100))) (rC (gT (aj rp (gV 0) (gV 2))) (aG (aj dQ (aj eG (gV 2) (gV 0)) (gC (.int 0))))))) ak))) (bJ 1 (aG (aj d9 (gV 1) (gC (.int 1))))) 10000)
 (a8 (gV 1)))))
def Bf:List D->R D:=bB 1 2 MV
def MW:G->R Fl :=
 (a8 (aj eG (gV 1) (gV 0)))
def o8:List D->R D:=bB 2 2 MW
def MX:G->R Fl :=
 (aD (bJ 3 (aG (ay dF (ae (gV 2) ak))))
 (a8 (ay o8 (ae (gV 0) (ae (aj d9 (ay rB (ae (gL (cR (mq (gV 3)) (c9 (aG (aj oX (aj aI (gV 2) (gV 0)) (aj aI (gV 3) (gV 0))))))) ak)) (aj aI (gV 1) (gV 3))) ak)))))
def xW:List D->R D:=bB 3 4 MX
def MY:G->R Fl :=
 (a8 (ay fL (ae (gL (cR (fW (gV 1)) (c9 (aG (ay (fF xW) (ae (gV 1) (ae (gV 0) (ae (gV 3) ak)))))))) ak)))
def Bg:List D->R D:=bB 3 3 MY
def MZ:G->R Fl :=
 (a8 (ay rB (ae (gL (cR (mq (ay dF (ae (gV 1) ak))) (c9 (aG (aj oX (aj aI (gV 1) (gV 0)) (aj aI (aj aI (gV 2) (gV 0)) (gV 3))))))) ak)))
def Ez:List D->R D:=bB 3 3 MZ
def M0:G->R Fl :=
 (aD (bJ 3 (aG (ay dF (ae (gV 1) ak))))
 (aD (fG 4 (cR (mq (aj d9 (gV 3) (gC (.int 1)))) (c9 (aG (ay (fF Ez) (ae (gV 3) (ae (gV 2) (ae (gV 0) ak))))))))
 (aD (oZ 4 (gV 3) (aG (aj d9 (aj aI (gV 4) (gV 3)) (aj aI (gV 2) (gV 3)))))
 (a8 (ay fL (ae (gL (cR (fW (gV 4)) (c9 (aG (ay (fF o8) (ae (gV 1) (ae (gV 0) ak))))))) ak))))))
def EA:List D->R D:=bB 3 5 M0
def M1:G->R Fl :=
 (a8 (ay fL (ae (gL (cR (fW (gV 2)) (c9 (aG (ay (fF EA) (ae (gV 1) (ae (gV 2) (ae (gV 0) ak)))))))) ak)))
def xX:List D->R D:=bB 3 3 M1
def M3:G->R Fl :=
 (a8 (ay fL (ae (gL (cR (mq (gV 0)) (c9 (aG (D0 (gT (aj dQ (gV 0) (gV 2))) (gC (.int 1)) (gC (.int 0))))))) ak)))
def EB:List D->R D:=bB 2 2 M3
def M4:G->R Fl :=
 (a8 (ay fL (ae (gL (cR (mq (gV 0)) (c9 (aG (ay (fF EB) (ae (aj d9 (gV 1) (gC (.int 1))) (ae (gV 0) ak))))))) ak)))
def xY:List D->R D:=bB 1 1 M4
def M5:G->R Fl :=
 (aD (fG 3 (jZ (ay xY (ae (gV 0) ak))))
 (aD (oZ 3 (gV 1) (aG (ay fL (ae (gV 2) ak))))
 (a8 (ay fL (ae (gV 3) ak)))))
def EC:List D->R D:=bB 3 4 M5
def ED:G->R Fl :=
 (aD (bJ 2 (aG (ay o8 (ae (gV 0) (ae (gV 1) ak)))))
 (aD (b5 (gT (aj dQ (gV 2) (gC (.int 0)))) (gY .nE) cL)
 (aD (bJ 3 (aG (gC (.int 1))))
 (aD (eI (gT (aj gM (gV 2) (gC (.int 1)))) (aD (bJ 3 (aG (ay o8 (ae (gV 0) (ae (aj oX (nH (gV 3)) (aj jY (gV 0) (gV 2))) ak)))))
 (bJ 2 (aG (aj eG (gV 0) (gV 2))))) 100000)
 (a8 (gV 3))))))
def vf:List D->R D:=bB 2 4 ED
end
def wkL (e : String) : Lean.MacroM (Lean.TSyntax `tactic) := do let l <- (("L3.fin L3.A9 L3.bB L3.jF L3.gV L3.d8 L3.gC L3.ak L3.Mo L3.cL L3.aD L3.bJ L3.fG L3.aG L3.ay L3.fV L3.ae L3.a8 L3.p_ L3.rD L3.uX L3.aj L3.gL L3.cR L3.mq L3.xK L3.Ef L3.c9 L3.rC L3.gT L3.je L3.nG L3.jB L3.kq L3.DZ L3.nH L3.AN L3.D0 L3.b5 L3.fT L3.eA L3.Wk L3.ku L3.fW L3.sT L3.iX L3.nM L3.oZ L3.xJ L3.A1 L3.AX L3.Mz L3.sW L3.gY L3.p7 L3.D_ L3.p6 L3.nK L3.Mx L3.AS L3.AU L3.iC L3.p9 L3.MB L3.jZ L3.Ed L3.D.ty L3.A2 L3.A3 L3.A4 L3.sV L3.Wj L3.fy L3.uT L3.gK L3.VZ L3.V0 L3.fc L3.dF L3.fL L3.d9 L3.p4 L3.oX L3.jY L3.eG L3.xG L3.rp L3.p5 L3.rq L3.xH L3.dQ L3.gM L3.aI L3.xI L3.fF L3.AM R.cE R.VV R.VU L3.bW L3.VW L3.Wl Bool.not_true Bool.not_false if_true if_false Bool.false_eq_true beq_self_eq_true ite_true ite_false Int.reduceToNat L3.sU L3.Wq L3.Wr L3.Ws L3.Wt L3.Wu L3.AK L3.Mm L3.VQ L3.VR L3.VP L3.Mp L3.V3 and_true true_and and_self List.map_cons List.map_nil List.length_cons List.length_nil List.length_map List.length_range List.length_set List.length_append List.length_replicate List.cons_append List.nil_append List.append_assoc List.replicate List.set_cons_zero List.set_cons_succ List.getElem?_cons_zero List.getElem?_cons_succ L3.AY L3.AZ L3.Wc L3.Wd L3.A0 L3.V5 L3.V6 Nat.reduceAdd Nat.reduceSub Nat.reduceMul Int.reduceAdd Int.reduceSub Int.reduceMul Int.reduceNeg Int.toNat_natCast L3.Wf L3.Wh L3.D9 L3.Mt L3.Mu L3.V_ Option.map_some Int.add_zero Nat.reduceEqDiff Nat.reduceLeDiff Nat.zero_add Nat.add_zero Nat.sub_zero Nat.sub_self" ++ e).splitOn " ").toArray.mapM λn => `(Lean.Parser.Tactic.simpLemma| $(Lean.mkIdent n.toName):term); `(tactic| try simp (disch := first | decide | omega | exact AK _ | exact Mm _ | exact AL _ | exact k_ _ | exact D5 _ _ | exact D2 (by omega) | exact ⟨D2 (by omega), D2 (by omega)⟩ | exact V1 (by first | assumption | exact D3 (by omega)) | exact V2 (by first | assumption | exact D3 (by omega)) | assumption) only [$l,*])
local macro_rules | `(tactic| walk_at "ev") => wkL ""
def de(ns:List Int)(k:Int):Int:=(ns[k.toNat]?).getD 0
theorem EF{ns:List Int}{k:Int}(h0:0<=k)(h:k<(ns.length:Int)):cS (ns.map D.int) k=some (.int (de ns k)):=by
 rw[D8 h0,eZ]
 unfold de
 rw[eO (by lia)];rfl
theorem WQ{ns:List Int}{k:Int}(h0:0<=k)(h:¬k<(ns.length:Int)):de ns k=0:=by
 unfold de
 rw[jP (by lia)];rfl
theorem y1k{ns:List Int}{k:Int}(h0:0<=k):o7 [.lst (ns.map D.int),.int k] = .ok (.int (de ns k)):=by
 unfold o7 MT
 by_cases h:k<(ns.length:Int)
 ·have e1:=EF h0 h
  have e2:decide (k<(ns.length:Int))=true:=decide_eq_true h
  walk_at "ev"
  simp only[e1,e2]
  walk_at "ev"
 ·have e2:decide (k<(ns.length:Int))=false:=decide_eq_false h
  have e3:=WQ h0 h
  walk_at "ev"
  simp only[e2,e3]
  walk_at "ev"
def z3w:D->Bool
 | .int _=>true
 | _=>false
def nV(P:Int):Nat->Int->List Int
 | 0,_=>[]
 | n+1,c=>c%P::nV P n (c/P)
theorem EG(P:Int):∀(n:Nat) (c:Int),(nV P n c).length=n
 | 0,_=>rfl
 | n+1,c=>by rw[nV,cx,EG P n]
def c_(P:Int)(ns:List Int):Prop:=∀n∈ns,0<=n/\n<P
theorem EH{P:Int}(hp:0<P):∀(n:Nat) (c:Int),c_ P (nV P n c)
 | 0,_=>λx hx=>by simp[nV] at hx
 | n+1,c=>λx hx=>by
   rw[nV] at hx
   rcases List.mem_cons.mp hx with e | e
   ·subst e;exact⟨mr hp,mw hp⟩
   ·exact EH hp n _ x e
def qg(P:Int):Nat->Int->Int
 | 0,c=>c
 | n+1,c=>qg P n c/P
def rM(P:Int)(n:Nat)(c:Int):List Int:=(eY n).map λi=>qg P i c%P
theorem WR(P:Int)(n:Nat)(c:Int):rM P (n+1) c=rM P n c++[qg P n c%P]:=by
 unfold rM;rw[wO,jv];rfl
theorem M6(P:Int):∀(n:Nat) (c:Int),qg P (n+1) c=qg P n (c/P)
 | 0,c=>rfl
 | n+1,c=>by rw[qg,M6 P n c];rfl
theorem M7(P:Int):∀(n:Nat) (c:Int),rM P n c=nV P n c
 | 0,c=>rfl
 | n+1,c=>by
   rw[nV,<-M7 P n (c/P)]
   unfold rM
   rw[SW,e8,iu]
   congr 1
   apply KN
   intro i _
   show qg P (i+1) c%P=_
   rw[M6]
theorem z6b{c P n:Int}(h1:0<P)(h2:P<1000000)(h3:0<=n)(h4:n<=20):ve [.int c,.int P,.int n] = .ok (.tup ((nV P n.toNat c).map D.int)):=by
 unfold ve MU
 walk_at "ev"
 rw[Wo (λj=>[.ro (.int (qg P j c)),.ro (.int P),.ro (.int n),.own ((rM P j c).map D.int),(match j with | 0=>.no | k+1=>.ro (.int (0+(k:Int))))])]
 ·walk_at "ev"
  rw[M7]
 ·rfl
 ·intro j hj
  have hl:(rM P j c).length<=100000:=by unfold rM;simp;lia
  walk_at "ev"
  rw[WR]
  simp[qg]
def dR(n:Int):Bool:=((eY 98).filterMap λ(i:Nat)=>if 2+(i:Int)<n then some (n%(2+(i:Int))==0) else none).any λb=>b
theorem Bh(n:Int):dR n=true↔∃b:Int,2<=b/\b<100/\b<n/\n%b=0:=by
 unfold dR
 simp only[List.any_eq_true,List.mem_filterMap,List.mem_range]
 constructor
 ·rintro⟨x,⟨i,hi,e⟩,hx⟩
  by_cases q:2+(i:Int)<n
  ·rw[if_pos q] at e;cases e
   exact⟨2+i,by lia,by lia,q,by simpa using hx⟩
  ·rw[if_neg q] at e;cases e
 ·rintro⟨b,h1,h2,h3,h4⟩
  refine⟨true,⟨(b-2).toNat,by lia,?_⟩,rfl⟩
  have e:(2+(((b-2).toNat:Nat):Int))=b:=by lia
  rw[e,if_pos h3,h4];rfl
theorem WS{f:D->R (Option D)}{lo:Int}{n:Nat}{h:Nat->Option Bool}(q:∀i,i<n->f (.int (lo+(i:Int))) = .ok ((h i).map D.bl)):c8 f (iW lo n) [] = .ok (((eY n).filterMap h).map D.bl):=by
 unfold iW
 rw[Wi (h:=λi=>(h i).map D.bl) λi hi=>q i (List.mem_range.mp hi),List.map_filterMap]
theorem WT{n c:Int}(Γ:G):gT (ay p8 (ae (gL (cR (xK (gC (.int 2)) (gC (.int 100))) (rC (gT (aj rp (gV 0) (gV 2))) (aG (aj dQ (aj eG (gV 2) (gV 0)) (gC (.int 0))))))) ak)) (.ro (.int c) :: .ro (.int n)::Γ) = .ok (dR n):=by
 walk_at "ev"
 rw[WS (h:=λ(i:Nat)=>if 2+(i:Int)<n then some (n%(2+(i:Int))==0) else none)]
 ·walk_at "ev";rfl
 ·intro i hi
  walk_at "ev"
  by_cases q:2+(i:Int)<n
  ·simp only[decide_eq_true q,if_pos q]
   walk_at "ev"
  ·simp only[decide_eq_false q,if_neg q]
   rfl
theorem WU{k:Int}(h0:0<=k)(h1:k<8):∃p:Int,cS (([3,5,7,11,13,17,19,23]:List Int).map D.int) k=some (.int p)/\3<=p/\p<=23/\dR p=false:=by
 have:k=0∨k=1∨k=2∨k=3∨k=4∨k=5∨k=6∨k=7:=by lia
 rcases this with rfl | rfl | rfl | rfl | rfl | rfl | rfl | rfl
 ·exact⟨3,rfl,by decide,by decide,by decide +kernel⟩
 ·exact⟨5,rfl,by decide,by decide,by decide +kernel⟩
 ·exact⟨7,rfl,by decide,by decide,by decide +kernel⟩
 ·exact⟨11,rfl,by decide,by decide,by decide +kernel⟩
 ·exact⟨13,rfl,by decide,by decide,by decide +kernel⟩
 ·exact⟨17,rfl,by decide,by decide,by decide +kernel⟩
 ·exact⟨19,rfl,by decide,by decide,by decide +kernel⟩
 ·exact⟨23,rfl,by decide,by decide,by decide +kernel⟩
theorem xZ(c:Int):∃p:Int,Bf [.int c] = .ok (.int p)/\3<=p/\p<=9973/\dR p=false:=by
 unfold Bf MV
 by_cases h:c%2=0
 ·have h0:0<=c/2%8:=by lia
  obtain⟨p,e,h1,h2,h3⟩:=WU (k:=c/2%8) (by lia) (by lia)
  refine⟨p,?_,h1,by lia,h3⟩
  have hb:(c%2==0)=true:=by simpa using h
  have hm:0<=c/2%8/\c/2%8<8:=by lia
  walk_at "ev"
  simp only[hb]
  simp only[e8,su] at e
  walk_at "ev"
  simp only[e]
  rfl
 ·have hb:(c%2==0)=false:=by simpa using h
  have key:∀(n m:Nat) (Γ:G),m<n->(∃z:Int,Γ=[.ro (.int c),.ro (.int z)]/\3<=z/\z<=9973/\(9973-z).toNat=m) ->
   ∃z:Int,eI (gT (ay p8 (ae (gL (cR (xK (gC (.int 2)) (gC (.int 100))) (rC (gT (aj rp (gV 0) (gV 2))) (aG (aj dQ (aj eG (gV 2) (gV 0)) (gC (.int 0))))))) ak))) (bJ 1 (aG (aj d9 (gV 1) (gC (.int 1))))) n Γ = .ok (.nx [.ro (.int c),.ro (.int z)])/\3<=z/\z<=9973/\dR z=false:=by
   refine A8 _ (λr=>∃z:Int,r = .ok (.nx [.ro (.int c),.ro (.int z)])/\3<=z/\z<=9973/\dR z=false) ?_
   rintro m Γ ⟨z,rfl,h1,h2,h3⟩
   rw[WT]
   cases q:dR z with
   | false=>exact .inl ⟨rfl,z,rfl,h1,h2,q⟩
   | true =>
     have hz:z≠9973:=λe=>by rw[e] at q;exact absurd q (by decide +kernel)
     refine .inr ⟨rfl,.inl ⟨[.ro (.int c),.ro (.int (z+1))],(9973-(z+1)).toNat,by lia,.inl ?_,z+1,rfl,by lia,by lia,rfl⟩⟩
     walk_at "ev"
  have hz:3<=3+c/2%9971/\3+c/2%9971<=9973:=by lia
  obtain⟨z,e,h1,h2,h3⟩:=key 10000 (9973-(3+c/2%9971)).toNat [.ro (.int c),.ro (.int (3+c/2%9971))] (by lia) ⟨_,rfl,hz.1,hz.2,rfl⟩
  refine⟨z,?_,h1,h2,h3⟩
  walk_at "ev"
  simp only[hb]
  walk_at "ev"
  rw[e]
  walk_at "ev"
def aT(f s:List Int):Int:=bC (λi=>(f[i]?).getD 0*(s[i]?).getD 0) s.length+(f[s.length]?).getD 0
theorem s_on{P n:Int}(h:0<P):o8 [.int P,.int n] = .ok (.int (n%P)):=by
 unfold o8 MW
 walk_at "ev"
theorem rN{l:List Int}{i:Nat}(h:i<l.length):cS (l.map D.int) (i:Int)=some (.int ((l[i]?).getD 0)):=by
 rw[rA,eZ,eO h];rfl
def fits(l:List Int):Prop:=∀n∈l,mh n
theorem M8{l:List Int}(h:fits l)(i:Nat):mh ((l[i]?).getD 0):=by
 by_cases q:i<l.length
 ·rw[eO q];exact h _ (pK q)
 ·rw[jP (by lia)];exact⟨by decide,by decide⟩
theorem c_.fits{P:Int}{l:List Int}(h:c_ P l)(hp:P<18446744073709551616):fits l:=λn hn=>by
 have:=h n hn
 exact⟨by lia,by lia⟩
theorem x9{P:Int}{fs ss:List Int}(hp:0<P)(hf:fits fs)(hl:fs.length=ss.length+1)(hn:ss.length<=1000):xW [.int P,.tup (fs.map D.int),.tup (ss.map D.int)] = .ok (.int (aT fs ss%P)):=by
 unfold xW MX
 walk_at "ev"
 rw[xN (h:=λi=>D.int ((fs[i]?).getD 0*(ss[i]?).getD 0))]
 ·have e1:((eY ss.length).map λi=>D.int ((fs[i]?).getD 0*(ss[i]?).getD 0))=((eY ss.length).map λi=>(fs[i]?).getD 0*(ss[i]?).getD 0).map D.int:=by rw[iu];rfl
  rw[e1]
  have e2:=rN (l:=fs) (i:=ss.length) (by lia)
  walk_at "ev"
  simp only[e2]
  walk_at "ev"
  rw[s_on hp,Et]
  rfl
 ·intro i hi
  have e1:=rN (l:=fs) (i:=i) (by lia)
  have e2:=rN (l:=ss) (i:=i) (by lia)
  have e3:=M8 hf i
  walk_at "ev"
  simp only[zZ,e1,e2]
  walk_at "ev"
def aR(r:List Int):D:=.tup (r.map D.int)
theorem lj(r:List Int):aR r = .tup (r.map D.int):=rfl
theorem z3u(r:List Int):(aR r).cu=true:=AL r
theorem Bj(t:List (List Int)):D.a_ (t.map aR)=true:=xF λr _=>AL r
theorem rO(t:List (List Int)):D.cu (.tup (t.map aR))=true:=by rw[Mn];exact Bj t
theorem z9k(n:Nat)(r:List Int):D.lay (n+1) (aR r)=true:=D5 n r
theorem WV(n:Nat)(t:List (List Int)):D.lay (n+2) (.tup (t.map aR))=true:=by
 rw[AO,C5,ng];intro x _;exact D5 n x
theorem M9(r:List Int):D.pl (aR r)=true:=Mr r
theorem M_(t:List (List Int)):D.pl (.tup (t.map aR))=true:=by
 rw[Mq,C5,ng];intro x _;exact Mr x
theorem Na:∀{a b:List Int},a.map D.int=b.map D.int->a=b
 | [],[],_=>rfl
 | [],_::_,h=>by simp at h
 | _::_,[],h=>by simp at h
 | x::a,y::b,h=>by simp at h;rw[h.1,Na h.2]
theorem Nb{a b:List Int}(h:aR a=aR b):a=b:=Na (by unfold aR at h;simpa using h)
theorem Nc:∀{a b:List (List Int)},a.map aR=b.map aR->a=b
 | [],[],_=>rfl
 | [],_::_,h=>by simp at h
 | _::_,[],h=>by simp at h
 | x::a,y::b,h=>by simp only[e8,KI] at h;rw[Nb h.1,Nc h.2]
theorem z8k(a b:List Int):cz (aR a) (aR b)=decide (a=b):=Ms (M9 a) (M9 b) ⟨Nb,λh=>by rw[h]⟩
theorem z7f(a b:List Int):cz (.tup (a.map D.int)) (.tup (b.map D.int))=decide (a=b):=z8k a b
theorem WW(a b:List (List Int)):cz (.tup (a.map aR)) (.tup (b.map aR))=decide (a=b):=Ms (M_ a) (M_ b) ⟨λh=>Nc (by simpa using h),λh=>by rw[h]⟩
theorem atT{t:List (List Int)}{i:Nat}(h:i<t.length):cS (t.map aR) (i:Int)=some (aR ((t[i]?).getD [])):=by
 rw[rA,eZ,eO h];rfl
def vg(P:Int)(n:Nat)(r:List Int):Prop:=c_ P r/\r.length=n+1
def dn(P:Int)(n:Nat)(t:List (List Int)):Prop:=t.length=n/\∀r∈t,vg P n r
def df(P:Int)(t:List (List Int))(s:List Int):List Int:=t.map λr=>aT r s%P
theorem tm(P:Int)(t:List (List Int))(s:List Int):(df P t s).length=t.length:=by unfold df;simp
theorem EI{P:Int}(hp:0<P)(t:List (List Int))(s:List Int):c_ P (df P t s):=λn hn=>by
 unfold df at hn
 obtain⟨r,_,rfl⟩:=List.mem_map.mp hn
 exact⟨mr hp,mw hp⟩
theorem x_{P:Int}{ts:List (List Int)}{ss:List Int}(hp:0<P)(rP:P<18446744073709551616)(ht:dn P ss.length ts)(hn:ss.length<=1000):Bg [.int P,.tup (ts.map aR),.tup (ss.map D.int)] = .ok (.tup ((df P ts ss).map D.int)):=by
 unfold Bg MY
 have cw:ts.length<=100000:=by rw[ht.1];lia
 have EJ:=Bj ts
 walk_at "ev"
 rw[jC (h:=λr=>D.int (aT r ss%P))]
 ·walk_at "ev"
  unfold df
  rw[iu];rfl
 ·intro r hr
  have q:=ht.2 r hr
  have e1:xW [D.int P,aR r,D.tup (ss.map D.int)]=R.ok (D.int (aT r ss%P)):=x9 hp (q.1.fits rP) q.2 hn
  rw[e1]
  walk_at "ev"
def WX(c:List D->R D):Prop:=∀ns:List Int,ns.length<=63->c [.lst (ns.map D.int)] = .ok (.bl true)
theorem ya{α:Type}{l:List α}{i:Nat}{d:α}(h:i<l.length):(l[i]?).getD d=l[i]:=by rw[eO h];rfl
def j5(P:Int)(t:List (List Int))(f:List Int):List Int:=(eY (t.length+1)).map λplace =>
 (bC (λx=>(f[x]?).getD 0*(((t[x]?).getD [])[place]?).getD 0) t.length+(if place=t.length then (f[t.length]?).getD 0 else 0))%P
def dC(P:Int)(a b:List (List Int)):List (List Int):=b.map (j5 P a)
theorem WY(P:Int)(t:List (List Int))(f:List Int):(j5 P t f).length=t.length+1:=by unfold j5;simp
theorem WZ{P:Int}(hp:0<P)(t:List (List Int))(f:List Int):c_ P (j5 P t f):=λn hn=>by
 unfold j5 at hn
 obtain⟨r,_,rfl⟩:=List.mem_map.mp hn
 exact⟨mr hp,mw hp⟩
theorem nW{P:Int}(hp:0<P){n:Nat}{a b:List (List Int)}(ha:a.length=n)(hb:b.length=n):dn P n (dC P a b):=by
 unfold dC
 refine⟨by rw[a6,hb],λr hr=>?_⟩
 obtain⟨f,_,rfl⟩:=List.mem_map.mp hr
 exact⟨WZ hp _ _,by rw[WY,ha]⟩
theorem Nd{P:Int}{t:List (List Int)}{f:List Int}{k:Nat}(h:k<=t.length):((j5 P t f)[k]?).getD 0=(bC (λx=>(f[x]?).getD 0*(((t[x]?).getD [])[k]?).getD 0) t.length+(if k=t.length then (f[t.length]?).getD 0 else 0))%P:=by
 unfold j5
 rw[eZ,Dc (by lia)];rfl
theorem W0{P:Int}{t:List (List Int)}{f s:List Int}(hs:s.length=t.length):cg P (aT (j5 P t f) s) (aT f (df P t s)):=by
 unfold aT
 rw[tm,hs]
 have h1:cg P (bC (λi=>((j5 P t f)[i]?).getD 0*(s[i]?).getD 0) t.length+((j5 P t f)[t.length]?).getD 0)
  (bC (λi=>bC (λx=>(f[x]?).getD 0*(((t[x]?).getD [])[i]?).getD 0) t.length*(s[i]?).getD 0) t.length+(bC (λx=>(f[x]?).getD 0*(((t[x]?).getD [])[t.length]?).getD 0) t.length+(f[t.length]?).getD 0)):=by
  refine cg.add (cg.bC λi hi=>cg.mul ?_ cg.refl) ?_
  ·rw[Nd (by lia),if_neg (by lia),Int.add_zero];exact qd
  ·rw[Nd (a7 _),if_pos rfl];exact qd
 have h2:cg P (bC (λi=>(f[i]?).getD 0*((df P t s)[i]?).getD 0) t.length+(f[t.length]?).getD 0)
  (bC (λx=>(f[x]?).getD 0*(bC (λi=>(((t[x]?).getD [])[i]?).getD 0*(s[i]?).getD 0) t.length+(((t[x]?).getD [])[t.length]?).getD 0)) t.length+(f[t.length]?).getD 0):=by
  refine cg.add (cg.bC λx hx=>cg.mul cg.refl ?_) cg.refl
  unfold df
  rw[eZ,eO hx]
  show cg P (aT t[x] s%P) _
  refine qd.trans (cg.of_eq ?_)
  unfold aT
  rw[hs];rfl
 refine h1.trans (cg.trans (cg.of_eq ?_) h2.symm)
 have e1:bC (λi=>bC (λx=>(f[x]?).getD 0*(((t[x]?).getD [])[i]?).getD 0) t.length*(s[i]?).getD 0) t.length=bC (λx=>(f[x]?).getD 0*bC (λi=>(((t[x]?).getD [])[i]?).getD 0*(s[i]?).getD 0) t.length) t.length:=by
  rw[rH (g:=λi=>bC (λx=>(f[x]?).getD 0*((((t[x]?).getD [])[i]?).getD 0*(s[i]?).getD 0)) t.length) λi _=>by
   rw[<-WA];exact rH λx _=>Int.mul_assoc _ _ _]
  rw[MK]
  exact rH λx _=>Ep _ _ _
 rw[e1,rH (f:=λx=>(f[x]?).getD 0*(bC (λi=>(((t[x]?).getD [])[i]?).getD 0*(s[i]?).getD 0) t.length+(((t[x]?).getD [])[t.length]?).getD 0)) (g:=λx=>(f[x]?).getD 0*bC (λi=>(((t[x]?).getD [])[i]?).getD 0*(s[i]?).getD 0) t.length+(f[x]?).getD 0*(((t[x]?).getD [])[t.length]?).getD 0) λx _=>Int.mul_add _ _ _,Eo]
 lia
def qh(n:Nat):List Int:=dN n 0
def jH(n k:Nat):List Int:=(eY n).map λi=>if i=k then 1 else 0
theorem EK(n:Nat):(qh n).length=n:=by unfold qh;simp
theorem Bk(n k:Nat):(jH n k).length=n:=by unfold jH;simp
theorem W2(n i:Nat):((qh n)[i]?).getD 0=0:=by
 unfold qh
 rw[Kr];split<;>rfl
theorem yb{n k i:Nat}(h:i<n):((jH n k)[i]?).getD 0=if i=k then 1 else 0:=by
 unfold jH
 rw[eZ,Dc h];rfl
theorem Nf(f:List Int)(n:Nat):aT f (qh n)=(f[n]?).getD 0:=by
 unfold aT
 rw[EK,WB λi _=>by rw[W2,Int.mul_zero]];lia
theorem Ng(f:List Int){n k:Nat}(h:k<n):aT f (jH n k)=(f[k]?).getD 0+(f[n]?).getD 0:=by
 unfold aT
 rw[Bk,Es h λi hi hk=>by rw[yb hi,if_neg hk,Int.mul_zero]]
 rw[yb h,if_pos rfl,Int.mul_one]
theorem lq{P:Int}{f:List Int}(hp:0<P)(h:c_ P f)(k:Nat):0<=(f[k]?).getD 0/\(f[k]?).getD 0<P:=by
 by_cases q:k<f.length
 ·rw[ya q];exact h _ (pK q)
 ·rw[jP (by lia)];exact⟨by simp,by simpa using hp⟩
theorem Nh{a b:List Int}(hl:a.length=b.length)(h:∀k,k<a.length->(a[k]?).getD 0=(b[k]?).getD 0):a=b:=by
 apply De hl
 intro k h1 h2
 have:=h k h1
 rw[ya h1,ya h2] at this
 exact this
theorem Ni{P:Int}{n:Nat}{f g:List Int}(hp:0<P)(hf:vg P n f)(hg:vg P n g)(h0:cg P (aT f (qh n)) (aT g (qh n)))(h1:∀k,k<n->cg P (aT f (jH n k)) (aT g (jH n k))):f=g:=by
 have e0:(f[n]?).getD 0=(g[n]?).getD 0:=by
  rw[Nf,Nf] at h0
  exact h0.ML (lq hp hf.1 n).1 (lq hp hf.1 n).2 (lq hp hg.1 n).1 (lq hp hg.1 n).2
 refine Nh (by rw[hf.2,hg.2]) λk hk=>?_
 rw[hf.2] at hk
 by_cases q:k=n
 ·rw[q];exact e0
 ·have fY:k<n:=by lia
  have h2:=h1 k fY
  rw[Ng f fY,Ng g fY,e0] at h2
  have h3:=h2.sub (cg.refl (P:=P) (a:=(g[n]?).getD 0))
  rw[show(f[k]?).getD 0+(g[n]?).getD 0-(g[n]?).getD 0=(f[k]?).getD 0 by lia,show(g[k]?).getD 0+(g[n]?).getD 0-(g[n]?).getD 0=(g[k]?).getD 0 by lia] at h3
  exact h3.ML (lq hp hf.1 k).1 (lq hp hf.1 k).2 (lq hp hg.1 k).1 (lq hp hg.1 k).2
theorem qi{P:Int}{n:Nat}{a b:List (List Int)}{s:List Int}(ha:a.length=n)(hs:s.length=n):df P (dC P a b) s=df P b (df P a s):=by
 unfold dC
 show(b.map (j5 P a)).map (λr=>aT r s%P)=b.map λr=>aT r (df P a s)%P
 rw[iu]
 apply KN
 intro f _
 exact W0 (by rw[hs,ha])
theorem EL{P:Int}{n:Nat}{a b:List (List Int)}(hp:0<P)(ha:dn P n a)(hb:dn P n b)(h:∀s,s.length=n->df P a s=df P b s):a=b:=by
 apply De (by rw[ha.1,hb.1])
 intro k h1 h2
 have hw:∀s,s.length=n->cg P (aT a[k] s) (aT b[k] s):=λs hs=>by
  have e:=congrArg (λl=>(l[k]?).getD 0) (h s hs)
  unfold df at e
  simp only[eZ,eO h1,eO h2,KO,SX] at e
  exact e
 exact Ni hp (ha.2 _ (pK h1)) (hb.2 _ (pK h2)) (hw _ (EK n)) λj _=>hw _ (Bk n j)
theorem Bl{P:Int}{n:Nat}{a b c:List (List Int)}(hp:0<P)(ha:a.length=n)(hb:b.length=n)(hc:c.length=n):dC P (dC P a b) c=dC P a (dC P b c):=by
 have h1:=(nW hp ha hb).1
 have h2:=(nW hp hb hc).1
 refine EL hp (nW hp h1 hc) (nW hp ha h2) λs hs=>?_
 rw[qi h1 hs,qi ha hs,qi ha hs,qi hb (by rw[tm,ha])]
def eK(n:Nat):List (List Int):=(eY n).map λx=>jH (n+1) x
theorem tq(n:Nat):(eK n).length=n:=by unfold eK;simp
theorem tu{P:Int}(hp:1<P)(n:Nat):dn P n (eK n):=by
 refine⟨tq n,λr hr=>?_⟩
 unfold eK at hr
 obtain⟨x,_,rfl⟩:=List.mem_map.mp hr
 refine⟨λz hz=>?_,by rw[Bk]⟩
 unfold jH at hz
 obtain⟨i,_,rfl⟩:=List.mem_map.mp hz
 split<;>lia
theorem W3{n x:Nat}{s:List Int}(h:x<n)(hs:s.length=n):aT (jH (n+1) x) s=(s[x]?).getD 0:=by
 unfold aT
 rw[hs,Es h λi hi hk=>by rw[yb (by lia),if_neg hk,Int.zero_mul],yb (by lia),if_pos rfl,yb (by lia),if_neg (by lia)]
 lia
theorem vh{P:Int}{n:Nat}{s:List Int}(hs:s.length=n)(ho:c_ P s):df P (eK n) s=s:=by
 refine Nh (by rw[tm,tq,hs]) λk hk=>?_
 rw[tm,tq] at hk
 have e:((df P (eK n) s)[k]?).getD 0=aT (jH (n+1) k) s%P:=by
  unfold df eK
  rw[iu,eZ,Dc hk];rfl
 rw[e,W3 hk hs]
 have h2:k<s.length:=by lia
 rw[ya h2]
 have:=ho _ (pK h2)
 exact qX this.1 this.2
theorem W4{P:Int}{f s:List Int}:cg P (aT f (s.map (·%P))) (aT f s):=by
 unfold aT
 rw[a6]
 refine cg.add (cg.bC λi hi=>cg.mul cg.refl ?_) cg.refl
 rw[eZ,eO hi]
 exact qd
theorem Nj{P:Int}{t:List (List Int)}{s:List Int}:df P t (s.map (·%P))=df P t s:=by
 unfold df
 exact KN λr _=>W4
theorem W5{P:Int}{n:Nat}{s:List Int}(hp:0<P)(hs:s.length=n):df P (eK n) s=s.map (·%P):=by
 rw[<-Nj,vh (by rw[a6,hs])]
 intro z hz
 obtain⟨y,_,rfl⟩:=List.mem_map.mp hz
 exact⟨mr hp,mw hp⟩
theorem yc{P:Int}{n:Nat}{t:List (List Int)}(hp:1<P)(ht:dn P n t):dC P (eK n) t=t:=by
 refine EL (by lia) (nW (by lia) (tq n) ht.1) ht λs hs=>?_
 rw[qi (tq n) hs,W5 (by lia) hs,Nj]
theorem Nk{P:Int}{n:Nat}{t:List (List Int)}(hp:1<P)(ht:dn P n t):dC P t (eK n)=t:=by
 refine EL (by lia) (nW (by lia) ht.1 (tq n)) ht λs hs=>?_
 rw[qi ht.1 hs,vh (by rw[tm,ht.1]) (EI (by lia) _ _)]
local macro_rules | `(tactic| walk_at "evs") => wkL " L3.y1k L3.z6b L3.s_on L3.z3w"
theorem yd{α:Type}(l:List α)(f:α->Int):l.map (λx=>D.int (f x))=(l.map f).map D.int:=by rw[iu];rfl
theorem W6{α:Type}(l:List α)(f:α->List Int):l.map (λx=>aR (f x))=(l.map f).map aR:=by rw[iu];rfl
theorem W7{P:Int}{n k:Nat}{t:List (List Int)}(ht:dn P n t)(hk:k<n):vg P n ((t[k]?).getD []):=by
 rw[ya (by rw[ht.1];exact hk)]
 exact ht.2 _ (pK _)
theorem ye{P:Int}{n k:Nat}{f:List Int}{t:List (List Int)}(hf:fits f)(hl:n<=f.length)(ht:dn P n t)(hn:n<=1000)(hk:k<=n):Ez [.tup (f.map D.int),.tup (t.map aR),.int k] = .ok (.int (bC (λx=>(f[x]?).getD 0*(((t[x]?).getD [])[k]?).getD 0) n)):=by
 refine cF rfl ?_
 delta MZ
 refine b7 ?_
 have Bm:=ht.1
 walk_at "evs"
 rw[xN (h:=λx=>D.int ((f[x]?).getD 0*(((t[x]?).getD [])[k]?).getD 0)),yd]
 ·walk_at "evs"
  rw[Et,Bm]
 ·intro x hx
  have hr:=W7 ht (k:=x) (by lia)
  have e1:=rN (l:=f) (i:=x) (by lia)
  have e2:=atT (t:=t) (i:=x) (by lia)
  have e3:=rN (l:=(t[x]?).getD []) (i:=k) (by rw[hr.2];lia)
  have e4:=M8 hf x
  walk_at "evs"
  simp only[zZ,e1,e2]
  walk_at "evs"
  simp only[lj,e3]
  walk_at "evs"
theorem yf{P:Int}{n:Nat}{f:List Int}{t:List (List Int)}(hp:0<P)(rP:P<1000000)(hf:vg P n f)(ht:dn P n t)(hn:n<=100):EA [.int P,.tup (t.map aR),.tup (f.map D.int)] = .ok (aR (j5 P t f)):=by
 have Bm:=ht.1
 refine cF rfl ?_
 delta M0
 refine cV (d:=.int n) (by walk_at "evs";rw[Bm]) ?_
 refine kz (ds:=((eY (n+1)).map λk=>bC (λx=>(f[x]?).getD 0*(((t[x]?).getD [])[k]?).getD 0) n).map D.int) ?_ ?_
 ·walk_at "evs"
  rw[show((n:Int)+1).toNat=n+1 by lia,xN (h:=λk=>D.int (bC (λx=>(f[x]?).getD 0*(((t[x]?).getD [])[k]?).getD 0) n)),yd]
  intro k hk
  have e:=ye (f:=f) (k:=k) (hf.1.fits (by lia)) (by rw[hf.2];lia) ht (by lia) (by lia)
  walk_at "evs"
  simp only[zZ,e]
  walk_at "evs"
 have e1:=rN (l:=f) (i:=n) (by rw[hf.2];lia)
 have e2:=rN (l:=(eY (n+1)).map λk=>bC (λx=>(f[x]?).getD 0*(((t[x]?).getD [])[k]?).getD 0) n) (i:=n) (by simp)
 have e3:((((eY (n+1)).map λk=>bC (λx=>(f[x]?).getD 0*(((t[x]?).getD [])[k]?).getD 0) n)[n]?).getD 0)=bC (λx=>(f[x]?).getD 0*(((t[x]?).getD [])[n]?).getD 0) n:=by
  rw[eZ,Dc (by lia)];rfl
 rw[e3] at e2
 generalize hL:((eY (n+1)).map λk=>bC (λx=>(f[x]?).getD 0*(((t[x]?).getD [])[k]?).getD 0) n)=L at *
 have W8:L.length=n+1:=by rw[<-hL];simp
 refine jh (Ek (ds:=L.map D.int) (j:=n) (n:=n) (d:=.int (bC (λx=>(f[x]?).getD 0*(((t[x]?).getD [])[n]?).getD 0) n+(f[n]?).getD 0)) ?_ ?_ ?_ ?_) ?_
 ·rfl
 ·walk_at "evs"
  simp only[e1,e2]
  walk_at "evs"
 ·walk_at "evs"
 ·rw[a6,W8]
  unfold iV
  rw[if_pos (by lia),if_pos (by lia)];simp
 refine b7 ?_
 have e4:(L.map D.int).set n (.int (bC (λx=>(f[x]?).getD 0*(((t[x]?).getD [])[n]?).getD 0) n+(f[n]?).getD 0))=((eY (n+1)).map λk=>D.int (bC (λx=>(f[x]?).getD 0*(((t[x]?).getD [])[k]?).getD 0) n+(if k=n then (f[n]?).getD 0 else 0))):=by
  rw[<-hL]
  apply De (by simp)
  intro k h1 h2
  rw[a8j]
  by_cases q:n=k
  ·subst q;simp
  ·rw[if_neg q];simp[dM q]
 walk_at "evs"
 rw[e4]
 have e5:D.a_ ((eY (n+1)).map λk=>D.int (bC (λx=>(f[x]?).getD 0*(((t[x]?).getD [])[k]?).getD 0) n+(if k=n then (f[n]?).getD 0 else 0)))=true:=xF λ_ _=>AK _
 rw[bW e5]
 walk_at "evs"
 rw[jC (h:=λk=>D.int ((bC (λx=>(f[x]?).getD 0*(((t[x]?).getD [])[k]?).getD 0) n+(if k=n then (f[n]?).getD 0 else 0))%P))]
 ·walk_at "evs"
  unfold j5
  rw[Bm]
  unfold aR
  rw[iu];rfl
 ·intro k hk
  walk_at "evs"
theorem tw{P:Int}{n:Nat}{a b:List (List Int)}(hp:0<P)(rP:P<1000000)(ha:dn P n a)(hb:dn P n b)(hn:n<=100):xX [.int P,.tup (a.map aR),.tup (b.map aR)] = .ok (.tup ((dC P a b).map aR)):=by
 refine cF rfl ?_
 delta M1
 refine b7 ?_
 have h1:=Bj b
 have h2:b.length<=100000:=by rw[hb.1];lia
 walk_at "evs"
 rw[jC (h:=λf=>aR (j5 P a f))]
 ·walk_at "evs"
  unfold dC
  rw[iu];rfl
 ·intro f hf
  have e:=yf hp rP (hb.2 f hf) ha hn
  have e2:=z3u (j5 P a f)
  walk_at "evs"
  simp only[lj f,e]
  walk_at "evs"
theorem yg{n x:Nat}(hn:n<=1000):EB [.int n,.int x] = .ok (aR (jH n x)):=by
 refine cF rfl ?_
 delta M3
 refine b7 ?_
 walk_at "evs"
 rw[xN (h:=λi=>D.int (if i=x then 1 else 0)),yd]
 ·walk_at "evs";rfl
 ·intro i hi
  walk_at "evs"
  by_cases q:i=x
  ·subst q
   have e:((0:Int)+(i:Int)==(i:Int))=true:=by simp
   simp only[e]
   walk_at "evs"
  ·have e:((0:Int)+(i:Int)==(x:Int))=false:=by simp;lia
   simp only[e,if_neg q]
   walk_at "evs"
theorem tx{n:Nat}(hn:n<=100):xY [.int n] = .ok (.tup ((eK n).map aR)):=by
 refine cF rfl ?_
 delta M4
 refine b7 ?_
 walk_at "evs"
 rw[xN (h:=λx=>aR (jH (n+1) x)),W6]
 ·walk_at "evs";rfl
 ·intro x hx
  have e:=yg (n:=n+1) (x:=x) (by lia)
  rw[show(((n+1:Nat):Int))=(n:Int)+1 by lia] at e
  have e2:=z3u (jH (n+1) x)
  walk_at "evs"
  simp only[zZ,e]
  walk_at "evs"
def cZ(t:List (List Int)):D:=.tup (t.map aR)
theorem z6y(t:List (List Int)):(cZ t).cu=true:=rO t
theorem Nl(l:List (List (List Int))):D.a_ (l.map cZ)=true:=xF λt _=>rO t
theorem z7c(n:Nat)(t:List (List Int)):D.lay (n+2) (cZ t)=true:=WV n t
theorem z7e(a b:List (List Int)):cz (cZ a) (cZ b)=decide (a=b):=WW a b
theorem W9(lo st:Int)(n:Nat):(lg lo st n).length=n:=by unfold lg;simp
theorem W_{lo st:Int}{n j:Nat}{d:D}(h:(lg lo st n)[j]? = some d):j<n/\d = .int (lo+st*(j:Int)):=by
 have hj:j<n:=by
  have:=(List.getElem?_eq_some_iff.mp h).1
  rw[W9] at this;exact this
 refine⟨hj,?_⟩
 unfold lg at h
 rw[eZ,Dc hj] at h
 cases h;rfl
theorem Xa{lo:Int}{n j:Nat}{d:D}(h:(iW lo n)[j]? = some d):j<n/\d = .int (lo+(j:Int)):=by
 have hj:j<n:=by
  have:=(List.getElem?_eq_some_iff.mp h).1
  rw[sU] at this;exact this
 rw[Ee lo _ _ hj] at h
 cases h;exact⟨hj,rfl⟩
end L3
namespace L3
open PySem
local macro_rules | `(tactic| walk_at "evs") => wkL " L3.y1k L3.z6b L3.s_on L3.z3w L3.z6y L3.z7c L3.z7e L3.z9k L3.z8k L3.z7f L3.z3u"
def vi(n:Nat):List (List Int):=qh n::(eY n).map (jH n)
theorem yh{n x:Nat}{f:List Int}(hn:n<=100)(hx:x<n):EC [.int n,.int x,aR f] = .ok (cZ ((eK n).set x f)):=by
 refine cF rfl ?_
 delta M5
 have e:=tx hn
 have EJ:=Bj (eK n)
 refine kz (ds:=(eK n).map aR) (by walk_at "evs";simp only[e];walk_at "evs") ?_
 refine jh (Ek (ds:=(eK n).map aR) (j:=x) (n:=x) (d:=aR f) rfl (by simp only[lj];walk_at "evs") (by walk_at "evs") ?_) ?_
 ·rw[a6,tq]
  unfold iV
  rw[if_pos (by lia),if_pos (by lia)];simp
 refine b7 ?_
 walk_at "evs"
 unfold cZ
 rw[SY]
theorem Xb{P d:Int}(hp:dR P=false)(h3:3<=P)(h:P<=9973)(h1:2<=d)(h2:d<P):P%d≠0:=by
 intro e
 have hn:¬∃b:Int,2<=b/\b<100/\b<P/\P%b=0:=λq=>by rw[(Bh P).mpr q] at hp;cases hp
 by_cases hd:d<100
 ·exact hn ⟨d,h1,hd,h2,e⟩
 ·have e1:P=d*(P/d):=by have:=S0 P d;lia
  generalize hq:P/d=q at *
  have q0:0<q:=by
   rcases a8k 0 q with z | z | z
   ·exact z
   ·rw[<-z] at e1;simp at e1;lia
   ·have:d*q<0:=a8l (by lia) z
    lia
  have q1:q≠1:=λz=>by rw[z] at e1;lia
  have q2:q<100:=by
   rcases Df q 100 with z | z
   ·exact z
   ·have:100*100<=d*q:=Dg (by lia) z (by lia) (by lia)
    lia
  refine hn ⟨q,by lia,q2,?_,?_⟩
  ·have:2*q<=d*q:=S8 h1 (by lia)
   lia
  ·rw[e1];exact a8m d q
theorem Xc{P n0:Int}(hp:dR P=false)(h3:3<=P)(h:P<=9973)(x1:En):∀(k m:Nat) (Γ:G),m<k ->
 (∃a b:Int,Γ=[.ro (.int P),x1,.ro (.int b),.ro (.int a)]/\1<=b/\b<P/\0<=a/\a<P/\cg P (a*n0) b/\b.toNat=m) ->
 ∃a:Int,eI (gT (aj gM (gV 2) (gC (.int 1)))) (aD (bJ 3 (aG (ay o8 (ae (gV 0) (ae (aj oX (nH (gV 3)) (aj jY (gV 0) (gV 2))) ak))))) (bJ 2 (aG (aj eG (gV 0) (gV 2))))) k Γ = .ok (.nx [.ro (.int P),x1,.ro (.int 1),.ro (.int a)])/\0<=a/\a<P/\cg P (a*n0) 1:=by
 refine A8 _ (λr=>∃a:Int,r = .ok (.nx [.ro (.int P),x1,.ro (.int 1),.ro (.int a)])/\0<=a/\a<P/\cg P (a*n0) 1) ?_
 rintro m Γ ⟨a,b,rfl,b1,b2,a1,a2,hc,hm⟩
 by_cases hb:b=1
 ·subst hb
  refine .inl ⟨by walk_at "evs",a,rfl,a1,a2,hc⟩
 ·have EM:(b==1)=false:=by simpa using hb
  have hnd:=Xb hp h3 h (d:=b) (by lia) b2
  have r1:0<=P%b:=mr (by lia)
  have r2:P%b<b:=mw (by lia)
  have hq0:0<=P/b:=a8n (by lia) (by lia)
  have hq1:P/b<=P:=a8o b (by lia)
  have he:P%b=P-b*(P/b):=by have:=S0 P b;lia
  refine .inr ⟨by walk_at "evs";simp only[EM];walk_at "evs",.inl ⟨[.ro (.int P),x1,.ro (.int (P%b)),.ro (.int ((-a*(P/b))%P))],(P%b).toNat,by lia,.inl ?_,_,_,rfl,by lia,by lia,mr (by lia),mw (by lia),?_,rfl⟩⟩
  ·refine cV (d:=.int ((-a*(P/b))%P)) (by walk_at "evs") ?_
   refine nO ?_
   walk_at "evs"
  ·have c1:cg P ((-a*(P/b))%P*n0) (-(P/b)*(a*n0)):=by
    refine(qd.mul cg.refl).trans (cg.of_eq ?_)
    rw[KP,KP,KP,Int.mul_assoc,Int.mul_left_comm]
   have c2:cg P (-(P/b)*(a*n0)) (-(P/b)*b):=cg.mul cg.refl hc
   refine(c1.trans c2).trans ?_
   rw[he]
   have:cg P (-(P/b)*b) (P-b*(P/b)):=by
    rw[WC]
    rw[show -(P/b)*b-(P-b*(P/b)) = -P by rw[KP,KG];lia]
    simp
   exact this
theorem yi{P n:Int}(hp:dR P=false)(h3:3<=P)(h:P<=9973):(n%P=0->vf [.int P,.int n] = .er .nE)/\(n%P≠0->∃a:Int,vf [.int P,.int n] = .ok (.int a)/\0<a/\a<P/\(a*n)%P=1):=by
 have r1:0<=n%P:=mr (by lia)
 have r2:n%P<P:=mw (by lia)
 refine⟨λe=>?_,λe=>?_⟩
 ·refine sZ (Γ:=[.ro (.int P),.ro (.int n),.ro (.int 0),.no]) rfl ?_
  delta ED
  refine cV (d:=.int 0) (by walk_at "evs";rw[e];walk_at "evs") ?_
  refine Ej (jG (by walk_at "evs") ?_)
  rfl
 ·have EM:(n%P==0)=false:=by simpa using e
  obtain⟨a,ea,a1,a2,ac⟩:=Xc (n0:=n%P) hp h3 h (.ro (.int n)) 100000 (n%P).toNat [.ro (.int P),.ro (.int n),.ro (.int (n%P)),.ro (.int 1)] (by lia) ⟨1,n%P,rfl,by lia,r2,by lia,by lia,cg.of_eq (by lia),rfl⟩
  have hc:cg P (a*n) 1:=(cg.mul cg.refl qd.symm).trans ac
  have h1:(a*n)%P=1:=by
   unfold cg at hc
   rw[hc,qX (by lia) (by lia)]
  have a0:a≠0:=λz=>by rw[z] at h1;simp at h1
  refine⟨a,?_,by lia,a2,h1⟩
  refine cF rfl ?_
  delta ED
  refine cV (d:=.int (n%P)) (by walk_at "evs") ?_
  refine dB (by walk_at "evs";simp only[EM];walk_at "evs") ?_
  refine cV (d:=.int 1) (by walk_at "evs") ?_
  refine jh ea ?_
  exact b7 (by walk_at "evs")
noncomputable section
def Nm:G->R Fl :=
 (a8 (kq (xJ A2 (gV 0)) (DZ (xJ A3 (gV 0)))))
def Bn:List D->R D:=bB 1 1 Nm
def Nn:G->R Fl :=
 (a8 (kq (ay Bn (ae (gV 0) ak)) (kq (aj p5 (gV 1) (gV 0)) (aj p5 (gV 0) (gV 2)))))
def rQ:List D->R D:=bB 3 3 Nn
def EN:G->R Fl :=
 (aD (bJ 1 (aG (gC (.int 2))))
 (aD (eI (gT (aj p5 (aj oX (gV 1) (gV 1)) (gV 0))) (aD (b5 (gT (aj dQ (aj eG (gV 0) (gV 1)) (gC (.int 0)))) (a8 (gV 1)) cL)
 (bJ 1 (aG (aj d9 (gV 1) (gC (.int 1)))))) 10000)
 (a8 (gV 0))))
def EO:List D->R D:=bB 1 2 EN
def Np:G->R Fl :=
 (a8 (kq (ay rQ (ae (gV 0) (ae (gC (.int 3)) (ae (gC (.int 9999)) ak)))) (aj dQ (ay EO (ae (gV 0) ak)) (gV 0))))
def Bo:List D->R D:=bB 1 1 Np
def Nq:G->R Fl :=
 (aD (b5 (jB (gT (ay Bo (ae (gV 0) ak)))) (gY .oV) cL)
 (a8 (gV 0)))
def ER:List D->R D:=bB 1 1 Nq
end
theorem yj{d:D}(h:d.j0=true):Bn [d] = .ok (.bl (z3w d)):=by
 unfold Bn Nm
 cases d<;>first | rfl | (simp[D.j0] at h)
def tB(n q:Int):Prop:=(n=1/\q=1)∨(2<=q/\q<=n/\n%q=0/\∀e:Int,2<=e->e<q->n%e≠0)
theorem Nr{n b:Int}(hn:1<=n)(b1:2<=b)(b2:b<n)(hb:n%b=0):n=b*(n/b)/\2<=n/b/\n/b<n/\n%(n/b)=0:=by
 have e1:n=b*(n/b):=by have:=S0 n b;lia
 generalize hq:n/b=q at *
 have q0:0<q:=by
  rcases a8k 0 q with z | z | z
  ·exact z
  ·rw[<-z] at e1;simp at e1;lia
  ·have:b*q<0:=a8l (by lia) z
   lia
 have q1:q≠1:=λz=>by rw[z] at e1;lia
 have q2:2*q<=b*q:=S8 b1 (by lia)
 exact⟨e1,by lia,by lia,by rw[e1];exact a8m b q⟩
theorem Xd{n d:Int}(h1:1<=n)(d1:2<=d)(hq:¬d*d<=n)(hd:∀e:Int,2<=e->e<d->n%e≠0):tB n n:=by
 by_cases hn:n=1
 ·exact .inl ⟨hn,hn⟩
 refine .inr ⟨by lia,by lia,Int.emod_self,λe e1 e2 z=>?_⟩
 obtain⟨c1,c2,c3,c4⟩:=Nr h1 e1 e2 z
 have e3:d<=e:=by
  rcases Df e d with w | w
  ·exact absurd z (hd e e1 w)
  ·exact w
 have e4:d<=n/e:=by
  rcases Df (n/e) d with w | w
  ·exact absurd c4 (hd _ c2 w)
  ·exact w
 have:d*d<=e*(n/e):=Dg e3 e4 (by lia) (by lia)
 lia
theorem Xe{n:Int}(h1:1<=n)(h2:n<=100000000):∀(k m:Nat) (Γ:G),m<k ->
 (∃d:Int,Γ=[.ro (.int n),.ro (.int d)]/\2<=d/\d<=10001/\(∀e:Int,2<=e->e<d->n%e≠0)/\(10001-d).toNat=m) ->
 (∃q,tB n q/\eI (gT (aj p5 (aj oX (gV 1) (gV 1)) (gV 0))) (aD (b5 (gT (aj dQ (aj eG (gV 0) (gV 1)) (gC (.int 0)))) (a8 (gV 1)) cL) (bJ 1 (aG (aj d9 (gV 1) (gC (.int 1)))))) k Γ = .ok (.rt (.int q))) ∨
 (tB n n/\∃x,eI (gT (aj p5 (aj oX (gV 1) (gV 1)) (gV 0))) (aD (b5 (gT (aj dQ (aj eG (gV 0) (gV 1)) (gC (.int 0)))) (a8 (gV 1)) cL) (bJ 1 (aG (aj d9 (gV 1) (gC (.int 1)))))) k Γ = .ok (.nx [.ro (.int n),x])):=by
 refine A8 _ (λr=>(∃q,tB n q/\r = .ok (.rt (.int q)))∨(tB n n/\∃x,r = .ok (.nx [.ro (.int n),x]))) ?_
 rintro m Γ ⟨d,rfl,d1,d2,hd,hm⟩
 by_cases hq:d*d<=n
 ·have e1:decide (d*d<=n)=true:=decide_eq_true hq
  have d3:d<10001:=by
   rcases Df d 10001 with z | z
   ·exact z
   ·have:10001*10001<=d*d:=Dg z z (by lia) (by lia)
    lia
  refine .inr ⟨by walk_at "evs";simp only[e1],?_⟩
  by_cases hz:n%d=0
  ·have e2:(n%d==0)=true:=by simpa using hz
   have d5:2*d<=d*d:=S8 d1 (by lia)
   refine .inr (.inr (.inl ⟨.int d,?_,.inl ⟨d,.inr ⟨d1,by lia,hz,hd⟩,rfl⟩⟩))
   refine qc (jG (by walk_at "evs";simp only[e2]) ?_)
   exact b7 (by walk_at "evs")
  ·have e2:(n%d==0)=false:=by simpa using hz
   refine .inl ⟨[.ro (.int n),.ro (.int (d+1))],(10001-(d+1)).toNat,by lia,.inl ?_,d+1,rfl,by lia,by lia,λe z1 z2=>?_,rfl⟩
   ·refine dB (by walk_at "evs";simp only[e2]) ?_
    refine nO ?_
    walk_at "evs"
   ·by_cases ee:e=d
    ·rw[ee];exact hz
    ·exact hd e z1 (by lia)
 ·have e1:decide (d*d<=n)=false:=decide_eq_false hq
  exact .inl ⟨by walk_at "evs";simp only[e1],.inr ⟨Xd h1 d1 hq hd,_,rfl⟩⟩
theorem Xf{n:Int}(h1:1<=n)(h2:n<=100000000):∃q,tB n q/\EO [.int n] = .ok (.int q):=by
 rcases Xe h1 h2 10000 (10001-2:Int).toNat [.ro (.int n),.ro (.int 2)] (by decide) ⟨2,rfl,by lia,by lia,λe z1 z2=>by lia,rfl⟩ with ⟨q,hl,e⟩ | ⟨hl,x,e⟩
 ·refine⟨q,hl,cF rfl ?_⟩
  delta EN
  refine cV (d:=.int 2) (by walk_at "evs") ?_
  exact qc e
 ·refine⟨n,hl,cF rfl ?_⟩
  delta EN
  refine cV (d:=.int 2) (by walk_at "evs") ?_
  exact jh e (b7 (by walk_at "evs"))
theorem Xg{n q:Int}(h1:3<=n)(h2:n<=9999)(h:tB n q):(q==n)=!dR n:=by
 rcases h with ⟨z,_⟩ | ⟨q1,q2,q3,q4⟩
 ·lia
 by_cases e:q=n
 ·subst e
  have:dR q=false:=by
   cases w:dR q with
   | false=>rfl
   | true =>
     obtain⟨b,b1,b2,b3,b4⟩:=(Bh _).mp w
     exact absurd b4 (q4 b b1 b3)
  rw[this];simp
 ·have:dR n=true:=by
   obtain⟨c1,c2,c3,c4⟩:=Nr (by lia) q1 (by lia) q3
   by_cases w:q<100
   ·exact(Bh _).mpr ⟨q,q1,w,by lia,q3⟩
   ·refine(Bh _).mpr ⟨n/q,c2,?_,c3,c4⟩
    rcases Df (n/q) 100 with z | z
    ·exact z
    ·have:100*100<=q*(n/q):=Dg (by lia) z (by lia) (by lia)
     lia
  rw[this]
  simp[e]
def Xh(n:Int):Bool:=decide (3<=n)&&(decide (n<=9999)&&!dR n)
def Bp:D->Bool
 | .int n=>Xh n
 | _=>false
def qj(d:D)(a b:Int):Bool :=
 match d with
 | .int n=>decide (a<=n)&&decide (n<=b)
 | _=>false
theorem qk{d:D}{a b:Int}(h:d.j0=true):rQ [d,.int a,.int b] = .ok (.bl (qj d a b)):=by
 refine cF rfl ?_
 delta Nn
 refine b7 ?_
 have hw:=yj h
 cases hd:z3w d with
 | false =>
   rw[hd] at hw
   have:qj d a b=false:=by cases d<;>first | rfl | (simp[z3w] at hd)
   rw[this]
   walk_at "evs"
   simp only[hw]
   walk_at "evs"
 | true =>
   rw[hd] at hw
   cases d with
   | int n =>
     walk_at "evs"
     simp only[hw]
     walk_at "evs"
     by_cases h3:a<=n
     ·have e1:decide (a<=n)=true:=decide_eq_true h3
      simp only[e1]
      walk_at "evs"
      show _=R.ok (D.bl (decide (a<=n)&&decide (n<=b)))
      rw[e1];rfl
     ·have e1:decide (a<=n)=false:=decide_eq_false h3
      simp only[e1]
      walk_at "evs"
      show _=R.ok (D.bl (decide (a<=n)&&decide (n<=b)))
      rw[e1];rfl
   | _=>simp[z3w] at hd
theorem vj{d:D}(h:d.j0=true):Bo [d] = .ok (.bl (Bp d)):=by
 refine cF rfl ?_
 delta Np
 refine b7 ?_
 have hw:=qk (a:=3) (b:=9999) h
 cases hd:qj d 3 9999 with
 | false =>
   rw[hd] at hw
   have:Bp d=false:=by
    cases d<;>first | rfl | skip
    rename_i n
    have hd:(decide (3<=n)&&decide (n<=9999))=false:=hd
    show(decide (3<=n)&&(decide (n<=9999)&&!dR n))=false
    simp only[Bool.and_eq_false_imp,decide_eq_true_eq,decide_eq_false_iff_not] at hd
    by_cases h3:3<=n
    ·rw[decide_eq_false (hd h3)];simp
    ·rw[decide_eq_false h3];rfl
   rw[this]
   walk_at "evs"
   simp only[hw]
   walk_at "evs"
 | true =>
   rw[hd] at hw
   cases d with
   | int n =>
     have hd:(decide (3<=n)&&decide (n<=9999))=true:=hd
     simp only[ir,decide_eq_true_eq] at hd
     obtain⟨q,hq,e3⟩:=Xf (n:=n) (by lia) (by lia)
     have e4:=Xg (by lia) (by lia) hq
     walk_at "evs"
     simp only[hw]
     walk_at "evs"
     simp only[e3]
     walk_at "evs"
     rw[e4]
     show _=R.ok (D.bl (decide (3<=n)&&(decide (n<=9999)&&!dR n)))
     rw[decide_eq_true (show 3<=n by lia),decide_eq_true (show n<=9999 by lia)];rfl
   | _=>simp[qj] at hd
theorem Xi{d:D}(h:d.j0=true)(hp:Bp d=true):ER [d] = .ok d:=by
 refine cF rfl ?_
 delta Nq
 have e:=vj h
 rw[hp] at e
 refine dB (by walk_at "evs";simp only[e];walk_at "evs") (b7 ?_)
 walk_at "evs"
noncomputable section
def Xj:G->R Fl :=
 (a8 (aj aI (gL (eA (ae (aj eG (aj jY (gV 0) (gC (.int 3))) (gC (.int 5))) (ae (aj eG (aj jY (gV 0) (gC (.int 3))) (gC (.int 1000))) (ae (aj eG (aj jY (gV 0) (gC (.int 3))) (aj d9 (aj xG (gC (.int 10)) (gC (.int 30))) (gC (.int 1)))) ak))))) (aj eG (gV 0) (gC (.int 3)))))
def ES:List D->R D:=bB 1 1 Xj
def ET:G->R Fl :=
 (aD (bJ 4 (aG (aj eG (gV 0) (gV 3))))
 (aD (bJ 5 (aG (ay ve (ae (gV 1) (ae (gV 2) (ae (aj d9 (gV 3) (gC (.int 1))) ak))))))
 (aD (b5 (je (gT (aj dQ (aj aI (gV 5) (gV 4)) (gC (.int 0)))) (gT (aj rq (aj eG (aj jY (gV 0) (gC (.int 3))) (gC (.int 6))) (gC (.int 0))))) (bJ 5 (aG (aj d9 (aj d9 (p7 (gV 5) p6 (nK (gV 4))) (fT (ae (aj d9 (gC (.int 1)) (aj eG (aj jY (gV 0) (gC (.int 18))) (aj p4 (gV 2) (gC (.int 1))))) ak))) (p7 (gV 5) (nK (aj d9 (gV 4) (gC (.int 1)))) p6)))) cL)
 (a8 (fT (ae (gC (.str "set")) (ae (gV 4) (ae (gV 5) ak))))))))
def EU:List D->R D:=bB 4 6 ET
def EV:G->R Fl :=
 (aD (fG 4 (eA ak))
 (aD (fG 5 (eA ak))
 (aD (iX 6 (Ef (gC (.int 0)) (aj p4 (ay xI (ae (ay dF (ae (gV 0) ak)) (ae (gC (.int 60)) ak))) (gC (.int 1))) (gC (.int 2)))
 (aD (bJ 7 (aG (aj p4 (ay dF (ae (gV 4) ak)) (ay xI (ae (aj eG (aj jY (aj aI (gV 0) (gV 6)) (gC (.int 4))) (gC (.int 4))) (ae (ay dF (ae (gV 4) ak)) ak))))))
 (aD (bJ 8 (aG (aj d9 (gC (.int 1)) (ay uY (ae (gL (p9 (gL (eA (ae (gC (.int 0)) ak))) (p7 (gV 5) (nK (gV 7)) p6))) ak)))))
 (b5 (je (gT (aj dQ (aj eG (aj aI (gV 0) (gV 6)) (gC (.int 4))) (gC (.int 3)))) (je (gT (aj rp (gV 8) (gC (.int 4)))) (gT (aj rq (gV 3) (gC (.int 0)))))) (aD (fG 4 (p9 (p7 (gV 4) p6 (nK (gV 7))) (gL (eA (ae (fT (ae (gC (.str "again")) (ae (ay ES (ae (aj aI (gV 0) (aj d9 (gV 6) (gC (.int 1)))) ak)) (ae (ay fL (ae (p7 (gV 4) (nK (gV 7)) p6) ak)) ak)))) ak)))))
 (aD (fG 5 (p9 (p7 (gV 5) p6 (nK (gV 7))) (gL (eA (ae (gV 8) ak)))))
 (bJ 3 (aG (aj p4 (gV 3) (gC (.int 1))))))) (aD (nM 4 (aG (ay EU (ae (aj jY (aj aI (gV 0) (gV 6)) (gC (.int 4))) (ae (aj aI (gV 0) (aj d9 (gV 6) (gC (.int 1)))) (ae (gV 1) (ae (gV 2) ak)))))))
 (nM 5 (aG (gC (.int 0)))))))))
 (a8 (ay fL (ae (gV 4) ak))))))
def Bq:List D->R D:=bB 4 9 EV
end
noncomputable section
def Nt:G->R Fl :=
 (aD (fG 3 (eA ak))
 (aD (bJ 4 (aG (gV 1)))
 (aD (iX 5 (mq (y7l (gV 2)))
 (aD (nM 3 (aG (gV 4)))
 (bJ 4 (aG (ay xX (ae (gV 0) (ae (gV 4) (ae (gV 4) ak))))))))
 (rD 3))))
def EW:List D->R (List D):=jF 3 6 Nt
def Xk:G->R Fl :=
 (p_ (y4r (y7k (gV 0)) (uZ (gT (aj dQ (aj eG (aj Ei (gV 3) (gV 0)) (gC (.int 2))) (gC (.int 1)))) (aG (gV 1)))))
def EX:List D->R (List D):=jF 2 2 Xk
def Nu:G->R Fl :=
 (aD (bJ 3 (aG (ay xY (ae (ay dF (ae (gV 1) ak)) ak))))
 (aD (iX 4 (ku (gL (fV EX (ae (gL (fV EW (ae (gV 0) (ae (gV 1) (ae (gV 2) ak))))) (ae (gV 2) ak)))))
 (bJ 3 (aG (ay xX (ae (gV 0) (ae (gV 3) (ae (gV 4) ak)))))))
 (a8 (gV 3))))
def Br:List D->R D:=bB 3 5 Nu
def Bs(Nv:List D->R D)(Nw:List D->R D):G->R Fl :=
 (aD (bJ 3 (aG (ay xY (ae (gV 1) ak))))
 (aD (iX 4 (ku (d8 2))
 (bJ 3 (aG (ay xX (ae (gV 0) (ae (gV 3) (ae (ay Nw (ae (gV 0) (ae (gV 1) (ae (gV 4) ak)))) ak)))))))
 (a8 (gV 3))))
def Bt(Nv:List D->R D)(Nw:List D->R D):G->R Fl :=
 (aD (b5 (gT (aj dQ (aj aI (gV 2) (gC (.int 0))) (gC (.str "set")))) (a8 (ay EC (ae (gV 1) (ae (aj aI (gV 2) (gC (.int 1))) (ae (aj aI (gV 2) (gC (.int 2))) ak))))) cL)
 (a8 (ay Br (ae (gV 0) (ae (ay Nv (ae (gV 0) (ae (gV 1) (ae (aj aI (gV 2) (gC (.int 2))) ak)))) (ae (aj aI (gV 2) (gC (.int 1))) ak))))))
mutual
def nX:Nat->List D->R D
 | 0=>λ_=>.no
 | n+1=>bB 3 5 (Bs (nX n) (ql n))
def ql:Nat->List D->R D
 | 0=>λ_=>.no
 | n+1=>bB 3 3 (Bt (nX n) (ql n))
end
def Nx:G->R Fl :=
 (a8 (ay Bg (ae (gV 0) (ae (ay Br (ae (gV 0) (ae (ay (nX 12) (ae (gV 0) (ae (gV 1) (ae (gV 2) ak)))) (ae (gV 3) ak)))) (ae (gV 4) ak)))))
def Bu:List D->R D:=bB 5 5 Nx
end
end L3
namespace L3
open PySem
local macro_rules | `(tactic| walk_at "evs") => wkL " L3.y1k L3.z6b L3.s_on L3.z3w L3.z6y L3.z7c L3.z7e L3.z9k L3.z8k L3.z7f L3.z3u L3.z6s L3.y7l L3.y9m L3.y3b"
inductive Item where
 | set (x:Int) (f:List Int)
 | again (n:Int) (its:List Item)
mutual
def Item.d:Item->D
 | .set x f=>.tup [.str "set",.int x,aR f]
 | .again n its=>.tup [.str "again",.int n,.tup (Item.ds its)]
def Item.ds:List Item->List D
 | []=>[]
 | a::r=>a.d::Item.ds r
end
theorem Item.ds_map:∀its:List Item,Item.ds its=its.map Item.d
 | []=>rfl
 | a::r=>by rw[Item.ds,Item.ds_map r];rfl
mutual
def Item.deep:Item->Nat
 | .set _ _=>0
 | .again _ its=>1+Item.bP its
def Item.bP:List Item->Nat
 | []=>0
 | a::r=>max a.deep (Item.bP r)
end
mutual
def Item.many:Item->Nat
 | .set _ _=>1
 | .again _ its=>1+Item.aP its
def Item.aP:List Item->Nat
 | []=>0
 | a::r=>a.many+Item.aP r
end
mutual
def Item.ok(P many:Int):Item->Prop
 | .set x f=>0<=x/\x<many/\(f.length:Int)=many+1/\c_ P f
 | .again n its=>0<=n/\n<=10^30/\Item.bK P many its
def Item.bK(P many:Int):List Item->Prop
 | []=>True
 | a::r=>a.ok P many/\Item.bK P many r
end
theorem Item.iD{P many:Int}:∀{its:List Item},Item.bK P many its↔∀a∈its,a.ok P many
 | []=>by simp[Item.bK]
 | a::r=>by simp[Item.bK,Item.iD (its:=r)]
theorem Item.ji{k:Nat}:∀{its:List Item},Item.bP its<=k↔∀a∈its,a.deep<=k
 | []=>by simp[Item.bP]
 | a::r=>by
   have:=Item.ji (k:=k) (its:=r)
   simp only[Item.bP,kP,forall_eq_or_imp,<-this]
   lia
theorem Item.nY:∀{a b:List Item},Item.aP (a++b)=Item.aP a+Item.aP b
 | [],b=>by simp[Item.aP]
 | x::a,b=>by simp[Item.aP,Item.nY (a:=a)];lia
theorem Item.vn:∀a:Item,0<a.many
 | .set _ _=>by simp[Item.many]
 | .again _ _=>by simp[Item.many];lia
theorem Item.nZ:∀its:List Item,its.length<=Item.aP its
 | []=>a7 _
 | a::r=>by have:=a.vn;have:=Item.nZ r;simp only[Item.aP,cx];lia
mutual
theorem Item.cu:∀a:Item,a.d.cu=true
 | .set x f=>by
   have:=z3u f
   simp[Item.d,D.cu,D.a_,this]
 | .again n its=>by
   have:=Item.a_ its
   simp[Item.d,D.cu,D.a_,this]
theorem Item.a_:∀its:List Item,D.a_ (Item.ds its)=true
 | []=>rfl
 | a::r=>by
   have h1:=Item.cu a
   have h2:=Item.a_ r
   simp[Item.ds,D.a_,h1,h2]
end
theorem Item.Bv(its:List Item):D.a_ (its.map Item.d)=true:=by rw[<-Item.ds_map];exact Item.a_ its
theorem Xl(c:Int):∃n:Int,ES [.int c] = .ok (.int n)/\0<=n/\n<=10^30:=by
 have hw:c%3=0∨c%3=1∨c%3=2:=by lia
 have Xm:(0:Int)<10^30+1:=by decide
 have n3:D.a_ [D.int (c/3%5),D.int (c/3%1000),D.int (c/3%(10^30+1))]=true:=k_ [_,_,_]
 obtain⟨n,e,h1,h2⟩:∃n:Int,cS [D.int (c/3%5),D.int (c/3%1000),D.int (c/3%(10^30+1))] (c%3)=some (.int n)/\0<=n/\n<=10^30:=by
  rcases hw with w | w | w<;>rw[w]
  ·exact⟨_,rfl,by omega,by have:(5:Int)<=10^30:=by decide
                           lia⟩
  ·exact⟨_,rfl,by omega,by have:(1000:Int)<=10^30:=by decide
                           lia⟩
  ·refine⟨_,rfl,SM _ (by lia),?_⟩
   have:=SN (c/3) Xm
   exact Int.lt_add_one_iff.mp this
 refine⟨n,cF rfl (b7 ?_),h1,h2⟩
 walk_at "evs"
 simp only[e]
theorem Xn{f:List Int}{x:Nat}{v P:Int}(hx:x<f.length)(hf:c_ P f)(h0:0<=v)(hv:v<P):∃g:List Int,f.take x++[v]++f.drop (x+1)=g/\g.length=f.length/\c_ P g/\g[x]? = some v:=by
 refine⟨_,rfl,?_,λn hn=>?_,?_⟩
 ·simp only[dW,oG,wJ,cx,i_];lia
 ·simp only[S9,KD] at hn
  rcases hn with (h | h) | h
  ·exact hf n (Dh h)
  ·rw[h];exact⟨h0,hv⟩
  ·exact hf n (a8p h)
 ·rw[pG,uA (by rw[oG];lia),oG,SI (by lia),KH];rfl
theorem Xo{c m P many:Int}(p1:3<=P)(p2:P<=9973)(m1:1<=many)(m2:many<=3):∃(x:Int) (f:List Int),EU [.int c,.int m,.int P,.int many] = .ok (Item.set x f).d/\(Item.set x f).ok P many:=by
 have hl:=EG P (many+1).toNat m
 have ho:=EH (P:=P) (by lia) (many+1).toNat m
 have hx0:=mr (w:=c) (P:=many) (by lia)
 have hx1:=mw (w:=c) (P:=many) (by lia)
 generalize hf:nV P (many+1).toNat m=f at hl ho
 obtain⟨x,ex⟩:∃x:Nat,c%many=(x:Int):=⟨(c%many).toNat,by lia⟩
 have hx:x<f.length:=by lia
 have start:∀u r,u [.ro (.int c),.ro (.int m),.ro (.int P),.ro (.int many),.ro (.int x),.ro (aR f)]=r->aD (bJ 4 (aG (aj eG (gV 0) (gV 3)))) (aD (bJ 5 (aG (ay ve (ae (gV 1) (ae (gV 2) (ae (aj d9 (gV 3) (gC (.int 1))) ak)))))) u) [.ro (.int c),.ro (.int m),.ro (.int P),.ro (.int many),.no,.no]=r:=λu r h=>by
  refine cV (d:=.int x) (by walk_at "evs";rw[ex]) (cV (d:=aR f) (by walk_at "evs";rw[hf];rfl) h)
 have Ny:cS (f.map D.int) (x:Int)=some (.int (f[x]'hx)):=by
  rw[D8 (by lia),eZ,oI,eO hx];rfl
 by_cases hz:(f[x]'hx==0&&decide (0<c/3%6))=true
 ·have hv0:=mr (w:=c/18) (P:=P-1) (by lia)
  have hv1:=mw (w:=c/18) (P:=P-1) (by lia)
  obtain⟨g,eg,gl,go,_⟩:=Xn (v:=1+c/18%(P-1)) hx ho (by lia) (by lia)
  rw[ir] at hz
  refine⟨x,g,cF rfl ?_,by simp only[Item.ok];exact⟨by lia,by lia,by lia,go⟩⟩
  delta ET
  refine start _ _ (Wy (Γ':=[.ro (.int c),.ro (.int m),.ro (.int P),.ro (.int many),.ro (.int x),.ro (aR g)]) ?_ ?_ ?_)
  ·walk_at "evs"
   simp only[aR,aI,Ny]
   walk_at "evs"
   simp only[hz.1,hz.2]
   walk_at "evs"
  ·refine(nO (d:=aR g) ?_).trans rfl
   have Xp:(x:Int)+1=((x+1:Nat):Int):=rfl
   have hlen:f.length<=4:=by lia
   walk_at "evs"
   simp only[aR,AS,R.cE]
   rw[Xp,Ea,AV,<-C6,<-C7]
   have lt:(f.take x).length<=4:=by rw[oG];lia
   have ld:(f.drop (x+1)).length<=4:=by rw[wJ];lia
   have e2:(f.take x).map D.int++(D.int (1+c/18%(P-1))::(f.drop (x+1)).map D.int)=g.map D.int:=by rw[<-eg];simp
   have n2:=AL g
   walk_at "evs"
   rw[e2]
   walk_at "evs"
  ·exact b7 (by walk_at "evs";rfl)
 ·refine⟨x,f,cF rfl ?_,by simp only[Item.ok];exact⟨by lia,by lia,by lia,ho⟩⟩
  delta ET
  refine start _ _ (dB ?_ (b7 (by walk_at "evs";rfl)))
  walk_at "evs"
  simp only[aR,aI,Ny]
  walk_at "evs"
  cases q:(f[x]'hx==0) with
  | false=>simp
  | true =>
    rw[q,Bool.true_and] at hz
    simp[hz]
def gu(its:List Item):List Int:=its.map λa=>(a.deep:Int)
theorem Xq(its:List Item):ky (0::gu its)=(Item.bP its:Int):=by
 refine Eq.symm (ME ?_ ?_)
 ·induction its with
  | nil=>simp[Item.bP]
  | cons a r ih =>
    simp only[Item.bP,gu,e8,kP]
    by_cases h:Item.bP r<=a.deep
    ·rw[Nat.max_eq_left h];exact .inr (.inl rfl)
    ·rw[Nat.max_eq_right (by lia)]
     rcases List.mem_cons.mp ih with e | e
     ·exact .inl e
     ·exact .inr (.inr e)
 ·intro b hb
  rcases List.mem_cons.mp hb with rfl | hb
  ·lia
  ·obtain⟨a,ha,rfl⟩:=List.mem_map.mp hb
   have:=Item.ji.mp (a7 (Item.bP its)) a ha
   lia
theorem Xr{gb:G->R Fl}{i:Nat}{ds:List D}{Γ:G}(I:Nat->G->Prop)(h0:I 0 Γ)(hq:∀(j:Nat) (d:D) (Γ:G),ds[j]? = some d->I j Γ->Ends (gb (Γ.set i (.ro d))) (I (j+1))):∃Γ',e_ gb i ds Γ = .ok (.nx Γ')/\I ds.length Γ':=by
 obtain⟨Γ',e,h'⟩:=A7 I ds 0 Γ h0 λj d Γ hd hI=>by rw[sA] at hI ⊢;exact hq j d Γ hd hI
 rw[sA] at h'
 exact⟨Γ',e,h'⟩
theorem Xs{gs:G->R (List D)}{gb u:G->R Fl}{i:Nat}{ds:List D}{Γ:G}(T:R Fl->Prop)(I:Nat->G->Prop)(hi:gs Γ = .ok ds)(h0:I 0 Γ)(hq:∀(j:Nat) (d:D) (Γ:G),ds[j]? = some d->I j Γ->Ends (gb (Γ.set i (.ro d))) (I (j+1)))(h:∀Γ',I ds.length Γ'->T (u Γ')):T (aD (iX i gs gb) u Γ):=by
 obtain⟨Γ',e,h'⟩:=Xr I h0 hq
 rw[Em hi e rfl];exact h Γ' h'
theorem Xu{cs:List Int}{P many ag:Int}(p1:3<=P)(p2:P<=9973)(m1:1<=many)(m2:many<=3)(sR:cs.length<=63) :
 ∃its:List Item,Bq [.lst (cs.map D.int),.int P,.int many,.int ag] = .ok (.tup (its.map Item.d))/\Item.bK P many its/\Item.bP its<=3/\Item.aP its<=30/\2*Item.aP its<=cs.length:=by
 suffices h:∃its:List Item,EV [.ro (.lst (cs.map D.int)),.ro (.int P),.ro (.int many),.ro (.int ag),.no,.no,.no,.no,.no] = .ok (.rt (.tup (its.map Item.d)))/\Item.bK P many its/\Item.bP its<=3/\Item.aP its<=30/\2*Item.aP its<=cs.length by
  obtain⟨its,e,h'⟩:=h
  exact⟨its,cF rfl e,h'⟩
 delta EV
 rw[kz (ds:=[]) (by walk_at "evs") rfl,kz (ds:=[]) (by walk_at "evs") rfl]
 let I:Nat->G->Prop:=λj Γ=>∃(its:List Item) (a:Int) (x6 x7 x8:En),Γ=[.ro (.lst (cs.map D.int)),.ro (.int P),.ro (.int many),.ro (.int a),.own (its.map Item.d),.own ((gu its).map D.int),x6,x7,x8]/\Item.bK P many its/\Item.bP its<=3/\Item.aP its<=j
 obtain⟨n,hn,AJ,en⟩:∃n:Nat,n<=30/\2*n<=cs.length/\kv 0 ((if (60:Int)<cs.length then 60 else (cs.length:Int))-1) 2=n:=by
  refine⟨_,?_,?_,rfl⟩<;>unfold kv<;>split<;>lia
 have iY:(lg 0 2 n).length=n:=by unfold lg;simp
 refine Xs (ds:=lg 0 2 n) (λr=>∃its:List Item,r = .ok (.rt (.tup (its.map Item.d)))/\Item.bK P many its/\Item.bP its<=3/\Item.aP its<=30/\2*Item.aP its<=cs.length) I ?_ ⟨[],ag,.no,.no,.no,rfl,Di,ni _,ni _⟩ ?turn ?_
 ·walk_at "evs"
  have r1:(-1073741824:Int)<=(if (60:Int)<cs.length then 60 else (cs.length:Int))-1/\(if (60:Int)<cs.length then 60 else (cs.length:Int))-1<1073741824:=by split<;>lia
  walk_at "evs"
  rw[en]
 case turn =>
  clear en iY
  rintro j d Γ hd ⟨its,a,x6,x7,x8,rfl,h1,h2,h3⟩
  obtain⟨hj,rfl⟩:=W_ hd
  have yk:=Item.nZ its
  have e0:(0:Int)+2*(j:Int)=((2*j:Nat):Int):=by lia
  rw[e0]
  have c0:=EF (ns:=cs) (k:=((2*j:Nat):Int)) (by lia) (by lia)
  have c1:=EF (ns:=cs) (k:=((2*j:Nat):Int)+1) (by lia) (by lia)
  generalize de cs ((2*j:Nat):Int)=y at c0
  generalize de cs (((2*j:Nat):Int)+1)=z at c1
  clear e0
  obtain⟨w,hw,ew⟩:∃w:Nat,w<=its.length/\(its.length:Int)-(if (its.length:Int)<y/4%4 then (its.length:Int) else y/4%4)=w:=by
   refine⟨((its.length:Int)-(if (its.length:Int)<y/4%4 then (its.length:Int) else y/4%4)).toNat,?_,?_⟩<;>split<;>lia
  have hd2:(gu its).drop w=gu (its.drop w):=by unfold gu;rw[C7]
  have n0:D.a_ [D.int 0]=true:=k_ [0]
  have nd:D.a_ (D.int 0::(gu (its.drop w)).map D.int)=true:=k_ (0::gu (its.drop w))
  have ll:(gu (its.drop w)).length<=30:=by unfold gu;rw[a6,wJ];lia
  rw[cV (d:=.int w) (by walk_at "evs";simp only[aI,c0];walk_at "evs";rw[ew]) rfl]
  rw[cV (d:=.int (1+(Item.bP (its.drop w):Int))) (by
   walk_at "evs"
   rw[AV,<-C7,hd2]
   walk_at "evs"
   rw[bW ⟨by lia,nd⟩]
   walk_at "evs"
   rw[Xq]) rfl]
  generalize hk:Item.bP (its.drop w)=lv
  by_cases hc:y%4=3/\lv<3/\0<a
  ·obtain⟨o9,nC,EY⟩:=hc
   have b1:(y%4==3)=true:=by simpa using o9
   have b2:decide (1+(lv:Int)<4)=true:=decide_eq_true (by lia)
   have b3:decide (0<a)=true:=decide_eq_true EY
   obtain⟨m,em,m3,m4⟩:=Xl z
   have d4:(Item.again m (its.drop w)).d = .tup [.str "again",.int m,.tup ((its.drop w).map Item.d)]:=by rw[Item.d,Item.ds_map]
   have q4:D.a_ [(Item.again m (its.drop w)).d]=true:=by have:=Item.cu (Item.again m (its.drop w));simp only[D.a_,this,Bool.and_true]
   have q5:D.a_ ((its.take w).map Item.d++[(Item.again m (its.drop w)).d])=true:=by have:=Item.Bv (its.take w++[Item.again m (its.drop w)]);rwa [jv] at this
   have l4:((its.take w).map Item.d).length<=30:=by rw[a6,oG];lia
   refine .nx (Γ:=[.ro (.lst (cs.map D.int)),.ro (.int P),.ro (.int many),.ro (.int (a-1)),.own ((its.take w++[Item.again m (its.drop w)]).map Item.d),.own ((gu (its.take w++[Item.again m (its.drop w)])).map D.int),.ro (.int ((2*j:Nat):Int)),.ro (.int w),.ro (.int (1+(lv:Int)))]) (jG ?_ (kz (ds:=(its.take w++[Item.again m (its.drop w)]).map Item.d) ?_ (kz (ds:=(gu (its.take w++[Item.again m (its.drop w)])).map D.int) ?_ ((nO (d:=.int (a-1)) ?_).trans rfl)))) ⟨_,_,_,_,_,rfl,?_,?_,?_⟩
   ·walk_at "evs"
    simp only[aI,c0]
    walk_at "evs"
    simp only[b1,b2,b3]
    walk_at "evs"
   ·walk_at "evs"
    simp only[aI,c1,R.cE,em]
    walk_at "evs"
    rw[AV,Ea,<-C7,<-C6,<-d4,bW q4]
    walk_at "evs"
    rw[bW ⟨by rw[a6] at l4;lia,q5⟩,jv]
    rfl
   ·have n1:D.a_ [D.int (1+(lv:Int))]=true:=k_ [_]
    have e5:(gu (its.take w++[Item.again m (its.drop w)])).map D.int=((gu its).take w).map D.int++[D.int (1+(lv:Int))]:=by
     unfold gu
     rw[jv,jv,C6]
     simp only[e8,su,Item.deep,hk]
     push_cast
     rfl
    have n5:=k_ (gu (its.take w++[Item.again m (its.drop w)]))
    have l5:((gu its).take w).length<=30:=by unfold gu;rw[oG,a6];lia
    rw[e5] at n5 ⊢
    walk_at "evs"
    rw[Ea,<-C6,bW ⟨by rw[a6];lia,n5⟩]
   ·walk_at "evs"
   ·rw[Item.iD] at h1 ⊢
    intro b hb
    rcases List.mem_append.mp hb with hb | hb
    ·exact h1 b (Dh hb)
    ·rw[List.mem_singleton.mp hb,Item.ok]
     exact⟨m3,m4,Item.iD.mpr λb hb=>h1 b (a8p hb)⟩
   ·rw[Item.ji] at h2 ⊢
    intro b hb
    rcases List.mem_append.mp hb with hb | hb
    ·exact h2 b (Dh hb)
    ·rw[List.mem_singleton.mp hb,Item.deep,hk];lia
   ·have e1:Item.aP its=Item.aP (its.take w)+Item.aP (its.drop w):=by rw[<-Item.nY,KQ]
    rw[Item.nY]
    simp only[Item.aP,Item.many]
    lia
  ·obtain⟨x,f,es,hx⟩:=Xo (c:=y/4) (m:=z) p1 p2 m1 m2
   have nx:=Item.cu (Item.set x f)
   have l6:(its.map Item.d).length<=30:=by rw[a6];lia
   have l7:((gu its).map D.int).length<=30:=by unfold gu;rw[a6,a6];lia
   refine .nx (Γ:=[.ro (.lst (cs.map D.int)),.ro (.int P),.ro (.int many),.ro (.int a),.own ((its++[Item.set x f]).map Item.d),.own ((gu (its++[Item.set x f])).map D.int),.ro (.int ((2*j:Nat):Int)),.ro (.int w),.ro (.int (1+(lv:Int)))]) (El ?_ (jh (Γ':=[.ro (.lst (cs.map D.int)),.ro (.int P),.ro (.int many),.ro (.int a),.own ((its++[Item.set x f]).map Item.d),.own ((gu its).map D.int),.ro (.int ((2*j:Nat):Int)),.ro (.int w),.ro (.int (1+(lv:Int)))]) ?_ ?_)) ⟨_,_,_,_,_,rfl,?_,?_,?_⟩
   ·walk_at "evs"
    simp only[aI,c0]
    walk_at "evs"
    cases b1:(y%4==3) with
    | false=>rfl
    | true =>
      simp only[if_true]
      have:¬(1+(lv:Int)<4/\0<a):=λz=>hc ⟨by simpa using b1,by lia,z.2⟩
      by_cases b2:1+(lv:Int)<4
      ·have b3:decide (0<a)=false:=decide_eq_false λz=>this ⟨b2,z⟩
       simp only[decide_eq_true b2,b3,if_true]
      ·simp only[decide_eq_false b2]
       rfl
   ·rw[jv]
    walk_at "evs"
    simp only[aI,c0,c1]
    walk_at "evs"
    simp only[es]
    walk_at "evs"
   ·unfold gu
    rw[jv,jv]
    simp only[e8,su,Item.deep]
    walk_at "evs"
    simp
   ·rw[Item.iD] at h1 ⊢
    intro b hb
    rcases List.mem_append.mp hb with hb | hb
    ·exact h1 b hb
    ·rw[List.mem_singleton.mp hb];exact hx
   ·rw[Item.ji] at h2 ⊢
    intro b hb
    rcases List.mem_append.mp hb with hb | hb
    ·exact h2 b hb
    ·rw[List.mem_singleton.mp hb,Item.deep];lia
   ·rw[Item.nY]
    simp only[Item.aP,Item.many]
    lia
 ·rintro Γ ⟨its,a,x6,x7,x8,rfl,h1,h2,h3⟩
  rw[iY] at h3
  exact⟨its,b7 (by walk_at "evs"),h1,h2,by lia,by lia⟩
theorem Xv{cs:List Int}{P many ag:Int}(p1:3<=P)(p2:P<=9973)(m1:1<=many)(m2:many<=3)(sR:cs.length<=63) :
 ∃its:List Item,Bq [.lst (cs.map D.int),.int P,.int many,.int ag] = .ok (.tup (its.map Item.d))/\Item.bK P many its/\Item.bP its<=3/\Item.aP its<=30 :=
 let ⟨its,e,h1,h2,h3,_⟩:=Xu (ag:=ag) p1 p2 m1 m2 sR;⟨its,e,h1,h2,h3⟩
theorem y9y:((iR "set")==(iR "again"))=false:=by decide +kernel
theorem y9z:((iR "again")==(iR "set"))=false:=by decide +kernel
theorem y5r(n:Nat):D.lay n (.str (iR "set"))=true:=by rw[nJ];decide +kernel
theorem y0k(n:Nat):D.lay n (.str (iR "again"))=true:=by rw[nJ];decide +kernel
theorem vo(a b c:D):aI (.tup [a,b,c]) (.int 2) = .ok c:=rfl
theorem Item.rR:∀{its:List Item} {a:Item},a∈its->a.many<=Item.aP its
 | b::r,a,h=>by
   rcases List.mem_cons.mp h with rfl | h
   ·simp only[Item.aP];lia
   ·have:=Item.rR h
    simp only[Item.aP];lia
def cM(P:Int)(n:Nat)(t:List (List Int)):Nat->List (List Int)
 | 0=>eK n
 | k+1=>dC P (cM P n t k) t
section
variable {P:Int}{n:Nat}{t:List (List Int)}
theorem jI(hp:1<P)(ht:dn P n t):∀k,dn P n (cM P n t k)
 | 0=>tu hp n
 | k+1=>nW (by lia) (jI hp ht k).1 ht.1
theorem Nz(hp:1<P)(ht:dn P n t):cM P n t 1=t:=yc hp ht
theorem Bw(hp:1<P)(ht:dn P n t)(a:Nat):∀b,cM P n t (a+b)=dC P (cM P n t a) (cM P n t b)
 | 0=>(Nk hp (jI hp ht a)).symm
 | b+1=>by
   show dC P (cM P n t (a+b)) t=dC P (cM P n t a) (dC P (cM P n t b) t)
   rw[Bw hp ht a b,Bl (by lia) (jI hp ht a).1 (jI hp ht b).1 ht.1]
theorem Xw(hp:1<P)(ht:dn P n t)(k:Nat):dC P (cM P n t k) (cM P n t k)=cM P n t (2*k):=by
 rw[<-Bw hp ht,Nat.two_mul]
end
def g0(n:Nat):Nat:=if n=0 then 0 else n.log2+1
theorem NA{n j:Nat}:j<g0 n↔2^j<=n:=by
 unfold g0
 by_cases h:n=0
 ·rw[if_pos h,h]
  have:0<2^j:=a8q j
  lia
 ·rw[if_neg h,Nat.lt_succ_iff,Nat.le_log2 h]
theorem NB{n k:Nat}(h:n<2^k):g0 n<=k:=by
 rcases KR k (g0 n) with z | z
 ·have:=NA.mp z
  lia
 ·exact z
def jJ(P:Int)(m:Nat)(t:List (List Int))(n:Nat):List (List (List Int)):=(eY n).map λj=>cM P m t (2^j)
theorem Xx(P:Int)(m:Nat)(t:List (List Int))(n:Nat):jJ P m t (n+1)=jJ P m t n++[cM P m t (2^n)]:=by
 unfold jJ;rw[wO,jv];rfl
theorem Xy(n:Nat):xP (n:Int)=g0 n:=by
 unfold xP g0
 by_cases h:n=0
 ·subst h;rfl
 ·rw[if_neg h,S_,if_neg]
  intro z
  have:(n:Int)=0:=by simpa using z
  lia
theorem ym{P:Int}{m n:Nat}{t:List (List Int)}(p1:3<=P)(p2:P<=9973)(hm:m<=3)(ht:dn P m t)(hn:n<2^150):EW [.int P,cZ t,.int n] = .ok ((jJ P m t (g0 n)).map cZ):=by
 refine s8 rfl ?_
 delta Nt
 have hp:1<P:=by lia
 have hF:=NB hn
 refine kz (ds:=[]) (by walk_at "evs") ?_
 refine cV (d:=cZ (cM P m t (2^0))) (by rw[Nat.pow_zero,Nz hp ht];walk_at "evs") ?_
 refine u0 (ds:=iW 0 (g0 n)) (λj Γ=>∃x5,Γ=[.ro (.int P),.ro (cZ t),.ro (.int n),.own ((jJ P m t j).map cZ),.ro (cZ (cM P m t (2^j))),x5]) ?_ ⟨_,rfl⟩ ?_ ?_
 ·walk_at "evs"
  rw[Xy]
  walk_at "evs"
 ·rintro j d Γ hd ⟨x5,rfl⟩
  obtain⟨hj,rfl⟩:=Xa hd
  have hl:((jJ P m t j).map cZ).length<=200:=by unfold jJ;rw[a6,a6,List.length_range];lia
  have tD:=tw (P:=P) (n:=m) (by lia) (by lia) (jI hp ht (2^j)) (jI hp ht (2^j)) (by lia)
  rw[Xw hp ht] at tD
  refine .nx (jh (Wx (d:=cZ (cM P m t (2^j))) rfl (by walk_at "evs") (by lia)) ((nO (d:=cZ (cM P m t (2^(j+1)))) ?_).trans ?_)) ⟨.ro (.int (0+(j:Int))),rfl⟩
  ·walk_at "evs"
   simp only[cZ,tD,SV,KS _ 2]
   have:=rO (cM P m t (2*2^j))
   walk_at "evs"
  ·rw[Xx,jv]
   rfl
 ·rintro Γ ⟨x5,rfl⟩
  rw[sU]
  walk_at "evs"
theorem Xz(n j:Nat):n%2^(j+1)=n%2^j+(n/2^j%2)*2^j:=by
 rw[SV,Nat.mod_mul,KS (2^j)]
theorem XA(n:Nat):n%2^g0 n=n:=Nat.mod_eq_of_lt (by
 rcases KR n (2^g0 n) with z | z
 ·exact z
 ·exact absurd (NA.mpr z) (lT _))
def n4(n j:Nat):Bool:=n/2^j%2==1
def iZ(n k:Nat):List Nat:=(eY k).filter (n4 n)
def lr:List Nat->Nat
 | []=>0
 | j::js=>2^j+lr js
theorem EZ:∀(a b:List Nat),lr (a++b)=lr a+lr b
 | [],b=>(sA _).symm
 | j::a,b=>by rw[oK,lr,lr,EZ a b,Nat.add_assoc]
theorem NC(n:Nat):∀k,lr (iZ n k)=n%2^k
 | 0=>by rw[Nat.pow_zero,Nat.mod_one];rfl
 | k+1=>by
   have h:iZ n (k+1)=iZ n k++(if n4 n k then [k] else []):=by
    unfold iZ
    rw[wO,List.filter_append]
    cases q:n4 n k<;>simp[q]
   rw[h,EZ,NC n k,Xz]
   have w:n/2^k%2=0∨n/2^k%2=1:=by lia
   rcases w with w | w
   ·have:n4 n k=false:=by unfold n4;rw[w];rfl
    rw[this,w,Nat.zero_mul];rfl
   ·have:n4 n k=true:=by unfold n4;rw[w];rfl
    rw[this,w,Nat.one_mul];rfl
def tE(p:Nat->Bool):Nat->List D->List D
 | _,[]=>[]
 | k,x::xs=>if p k=true then x::tE p (k+1) xs else tE p (k+1) xs
theorem ND{f:D->D->G->R (Option D)}{Γ:G}(p:Nat->Bool):∀(xs:List D) (k:Nat) (acc:List D),(∀j x,xs[j]? = some x->f (.int ((k+j:Nat):Int)) x Γ = .ok (if p (k+j)=true then some x else none)) ->
 c8 (y0e f Γ) (jf k xs) acc = .ok (acc++tE p k xs)
 | [],k,acc,_=>by rw[jf,tE,kM];rfl
 | x::xs,k,acc,h=>by
   have h0:=h 0 x rfl
   have ih:=λacc=>ND p xs (k+1) acc (λj y hy=>by
    have:=h (j+1) y hy
    rw[show k+1+j=k+(j+1) by lia];exact this)
   rw[jf,Eg,show y0e f Γ (.tup [.int (k:Int),x])=f (.int (k:Int)) x Γ from rfl,show f (.int (k:Int)) x Γ=_ from h0]
   rw[Nat.add_zero,tE]
   by_cases q:p k=true
   ·rw[if_pos q,if_pos q]
    show c8 (y0e f Γ) (jf (k+1) xs) (acc++[x])=_
    rw[ih,pG];rfl
   ·rw[if_neg q,if_neg q]
    exact ih acc
theorem NF(p:Nat->Bool)(F:Nat->D):∀(l s:Nat),tE p s ((Dj s l).map F)=((Dj s l).filter p).map F
 | 0,s=>rfl
 | l+1,s=>by
   rw[a8r,e8,tE,NF p F l (s+1),List.filter_cons]
   by_cases q:p s=true
   ·rw[if_pos q,if_pos q,e8]
   ·rw[if_neg q,if_neg q]
theorem XB(P:Int)(m:Nat)(t:List (List Int))(k:Nat):(jJ P m t k).map cZ=(eY k).map λj=>cZ (cM P m t (2^j)):=by
 unfold jJ;rw[iu];rfl
theorem NG:∀(k:Nat) (xs:List D),(jf k xs).length=xs.length
 | _,[]=>rfl
 | k,a::xs=>by rw[jf,cx,NG (k+1) xs,cx]
theorem yn{P:Int}{m n k:Nat}{t:List (List Int)}(hk:k<=1000):EX [.lst ((jJ P m t k).map cZ),.int n] = .ok ((iZ n k).map λj=>cZ (cM P m t (2^j))):=by
 refine s8 rfl (xQ ?_)
 have nt:=Nl (jJ P m t k)
 have hl:((jJ P m t k).map cZ).length=k:=by unfold jJ;simp
 show(y7k (gV 0) _>>=λitems=>R.guard _ _)=_
 have e1:y7k (gV 0) (fc 2 [.lst ((jJ P m t k).map cZ),.int n]) = .ok (jf 0 ((jJ P m t k).map cZ)):=by
  show(R.guard _ _:R (List D))=_
  rw[bW nt]
 rw[e1]
 show R.guard _ _=_
 rw[bW (by rw[NG,hl];lia),ND (n4 n),pI,XB,a8s,NF]
 ·unfold iZ;rw[a8s]
 ·intro j x hx
  have nx:D.cu x=true:=VT nt (sr hx)
  rw[sA]
  have e2:(n:Int)/2^j%2=((n/2^j%2:Nat):Int):=by
   rw[Int.natCast_emod,Int.natCast_ediv,Int.natCast_pow];rfl
  have e3:((n:Int)/2^j%2==1)=n4 n j:=by
   rw[e2];unfold n4
   cases q:(n/2^j%2==1) with
   | true=>rw[beq_iff_eq] at q;rw[q];rfl
   | false =>
     have:n/2^j%2=0:=by
      have h1:n/2^j%2≠1:=by simpa using q
      lia
     rw[this];rfl
  have e4:Ei (.int (n:Int)) (.int ((j:Nat):Int)) = .ok (.int ((n:Int)/2^j)):=by
   show R.guard _ (R.ok (D.int ((n:Int)/2^((j:Nat):Int).toNat)))=_
   rw[bW ⟨Ta n,Ta j⟩,oI]
  unfold uZ
  walk_at "evs"
  rw[e4]
  walk_at "evs"
  rw[e3]
  cases q:n4 n j with
  | true=>walk_at "evs"
  | false=>rfl
theorem XC{n k i:Nat}{d:D}{F:Nat->D}(h:((iZ n k).map F)[i]? = some d):∃j,(iZ n k)[i]? = some j/\d=F j:=by
 rw[eZ] at h
 cases q:(iZ n k)[i]? with
 | none=>rw[q] at h;cases h
 | some j=>rw[q] at h;injection h with h;exact⟨j,rfl,h.symm⟩
theorem XD{l:List Nat}{i j:Nat}(h:l[i]? = some j):lr (l.take (i+1))=lr (l.take i)+2^j:=by
 rw[KU,h,EZ]
 show _+(2^j+0)=_
 rw[Nat.add_zero]
theorem vp{P:Int}{m n:Nat}{t:List (List Int)}(p1:3<=P)(p2:P<=9973)(hm:m<=3)(ht:dn P m t)(hn:n<2^150):Br [.int P,cZ t,.int n] = .ok (cZ (cM P m t n)):=by
 refine cF rfl ?_
 delta Nu
 have hp:1<P:=by lia
 have el:=ym p1 p2 hm ht hn
 have ei:=tx (n:=m) (by lia)
 have hF:=NB hn
 have er:=yn (P:=P) (m:=m) (n:=n) (k:=g0 n) (t:=t) (by lia)
 refine cV (d:=cZ (cM P m t 0)) ?_ ?_
 ·have:=rO (eK m)
  simp only[cZ,cM]
  walk_at "evs"
  rw[show(t.length:Int)=(m:Int) by rw[ht.1]]
  simp only[ei]
  walk_at "evs"
 refine u0 (ds:=(iZ n (g0 n)).map λj=>cZ (cM P m t (2^j))) (λi Γ=>∃x4,Γ=[.ro (.int P),.ro (cZ t),.ro (.int n),.ro (cZ (cM P m t (lr ((iZ n (g0 n)).take i)))),x4]) ?_ ⟨_,rfl⟩ ?_ ?_
 ·have nt:=Nl (jJ P m t (g0 n))
  walk_at "evs"
  simp only[el]
  walk_at "evs"
  simp only[er]
  have nt2:D.a_ ((iZ n (g0 n)).map λj=>cZ (cM P m t (2^j)))=true:=xF λj _=>rO _
  walk_at "evs"
 ·rintro i d Γ hd ⟨x4,rfl⟩
  obtain⟨j,hj,rfl⟩:=XC hd
  have tD:=tw (P:=P) (n:=m) (by lia) (by lia) (jI hp ht (lr ((iZ n (g0 n)).take i))) (jI hp ht (2^j)) (by lia)
  rw[<-Bw hp ht,<-XD hj] at tD
  refine .nx (nO (d:=cZ (cM P m t (lr ((iZ n (g0 n)).take (i+1))))) ?_) ⟨_,rfl⟩
  walk_at "evs"
  simp only[cZ,tD]
  have:=rO (cM P m t (lr ((iZ n (g0 n)).take (i+1))))
  walk_at "evs"
 ·rintro Γ ⟨x4,rfl⟩
  refine b7 ?_
  walk_at "evs"
  rw[show((iZ n (g0 n)).take (iZ n (g0 n)).length)=iZ n (g0 n) from wN,NC,XA]
end L3
namespace L3
open PySem
local macro_rules | `(tactic| walk_at "evs") => wkL " L3.y1k L3.z6b L3.s_on L3.z3w L3.z6y L3.z7c L3.z7e L3.z9k L3.z8k L3.z7f L3.z3u L3.z6s L3.y7l L3.y9m L3.y3b L3.Item.d L3.Item.ds_map L3.z8j L3.y9y L3.y9z L3.y5r L3.y0k"
mutual
def Item.tab(P:Int)(m:Nat):Item->List (List Int)
 | .set x f=>(eK m).set x.toNat f
 | .again n its=>cM P m (Item.tabs P m its) n.toNat
def Item.tabs(P:Int)(m:Nat):List Item->List (List Int)
 | []=>eK m
 | a::r=>dC P (a.tab P m) (Item.tabs P m r)
end
theorem E0{P:Int}{m x:Nat}{f:List Int}(hp:1<P)(h:vg P m f):dn P m ((eK m).set x f):=by
 obtain⟨h1,h2⟩:=tu hp m
 refine⟨by rw[fD];exact h1,λr hr=>?_⟩
 rcases a8t hr with z | z
 ·exact h2 r z
 ·rw[z];exact h
mutual
theorem Item.vq{P:Int}{m:Nat}(hp:1<P):∀a:Item,a.ok P m->dn P m (a.tab P m)
 | .set x f,h=>by
   simp only[Item.ok] at h
   exact E0 hp ⟨h.2.2.2,by lia⟩
 | .again n its,h=>by
   simp only[Item.ok] at h
   exact jI hp (Item.tabs_ok hp its h.2.2) _
theorem Item.tabs_ok{P:Int}{m:Nat}(hp:1<P):∀its:List Item,Item.bK P m its->dn P m (Item.tabs P m its)
 | [],_=>tu hp m
 | a::r,h=>by
   simp only[Item.bK] at h
   exact nW (by lia) (Item.vq hp a h.1).1 (Item.tabs_ok hp r h.2).1
end
theorem Item.NH{P many:Int}:∀{a b:List Item},Item.bK P many (a++b)↔Item.bK P many a/\Item.bK P many b
 | [],b=>by simp[Item.bK]
 | x::a,b=>by simp[Item.bK,Item.NH (a:=a),and_assoc]
theorem Item.E4{P:Int}{m:Nat}(hp:1<P):∀{a b:List Item},Item.bK P m a->Item.bK P m b->Item.tabs P m (a++b)=dC P (Item.tabs P m a) (Item.tabs P m b)
 | [],b,_,hb=>(yc hp (Item.tabs_ok hp b hb)).symm
 | x::a,b,ha,hb=>by
   simp only[Item.bK] at ha
   show dC P (x.tab P m) (Item.tabs P m (a++b))=dC P (dC P (x.tab P m) (Item.tabs P m a)) (Item.tabs P m b)
   rw[Item.E4 hp ha.2 hb,Bl (by lia) (Item.vq hp x ha.1).1 (Item.tabs_ok hp a ha.2).1 (Item.tabs_ok hp b hb).1]
theorem Item.NI{P:Int}{m:Nat}(hp:1<P){a:Item}(h:a.ok P m):Item.tabs P m [a]=a.tab P m:=Nk hp (Item.vq hp a h)
theorem XE{its:List Item}{j:Nat}{d:D}(h:(its.map Item.d)[j]? = some d):∃a:Item,its[j]? = some a/\d=a.d/\a∈its:=by
 rw[eZ] at h
 cases q:its[j]? with
 | none=>rw[q] at h;cases h
 | some a=>rw[q] at h;cases h;exact⟨a,rfl,rfl,sr q⟩
theorem XF{α:Type}{l:List α}{j:Nat}{a:α}(h:l[j]? = some a):l.take (j+1)=l.take j++[a]:=by
 rw[KU,h];rfl
theorem Item.XG{P many:Int}{its:List Item}(h:Item.bK P many its)(j:Nat):Item.bK P many (its.take j):=Item.iD.mpr λa ha=>Item.iD.mp h a (Dh ha)
theorem XH:(10:Int)^30<2^150:=by decide
theorem XI{n:Int}(h0:0<=n)(h:n<=10^30):∃k:Nat,n=(k:Int)/\n.toNat=k/\k<2^150:=by
 have:=XH
 exact⟨n.toNat,by lia,rfl,by lia⟩
theorem vt{P:Int}{m:Nat}(p1:3<=P)(p2:P<=9973)(hm:m<=3):∀(k:Nat) (its:List Item),2*Item.bP its+2<=k->Item.bK P m its->nX k [.int P,.int m,.tup (its.map Item.d)] = .ok (cZ (Item.tabs P m its))
 | 0,_,h,_=>by lia
 | 1,_,h,_=>by lia
 | k+2,its,h,ho=>by
   have hp:1<P:=by lia
   show bB 3 5 (Bs (nX (k+1)) (ql (k+1))) _=_
   refine cF rfl ?_
   delta Bs
   have hn:=Item.Bv its
   have ei:=tx (n:=m) (by lia)
   refine cV (d:=cZ (Item.tabs P m (its.take 0))) ?_ ?_
   ·have:=rO (eK m)
    walk_at "evs"
    simp only[ei]
    walk_at "evs"
    rfl
   refine u0 (ds:=its.map Item.d) (λj Γ=>∃x4,Γ=[.ro (.int P),.ro (.int m),.ro (.tup (its.map Item.d)),.ro (cZ (Item.tabs P m (its.take j))),x4]) (by walk_at "evs") ⟨_,rfl⟩ ?_ ?_
   ·rintro j d Γ hd ⟨x4,rfl⟩
    obtain⟨a,ea,rfl,ha⟩:=XE hd
    have cA:=Item.iD.mp ho a ha
    have NJ:=Item.XG ho j
    have e:ql (k+1) [.int P,.int m,a.d] = .ok (cZ (a.tab P m)):=by
     show bB 3 3 (Bt (nX k) (ql k)) _=_
     refine cF rfl ?_
     delta Bt
     cases a with
     | set x f =>
       simp only[Item.ok] at cA
       obtain⟨y,rfl⟩:∃y:Nat,x=(y:Int):=⟨x.toNat,by lia⟩
       have es:=yh (n:=m) (x:=y) (f:=f) (by lia) (by lia)
       refine qc (jG (by walk_at "evs") (b7 ?_))
       walk_at "evs"
       simp only[es]
       rfl
     | again n i =>
       have h1:=Item.ji.mp (a7 (Item.bP its)) _ ha
       simp only[Item.deep] at h1
       simp only[Item.ok] at cA
       obtain⟨y,rfl,ey,hy⟩:=XI cA.1 cA.2.1
       have ih:=vt p1 p2 hm k i (by lia) cA.2.2
       have er:=vp (n:=y) p1 p2 hm (Item.tabs_ok hp i cA.2.2) hy
       refine dB (by walk_at "evs") (b7 ?_)
       walk_at "evs"
       simp only[ih]
       walk_at "evs"
       simp only[er]
       rfl
    have tD:=tw (P:=P) (n:=m) (by lia) (by lia) (Item.tabs_ok hp _ NJ) (Item.vq hp a cA) (by lia)
    have et:Item.tabs P m (its.take (j+1))=dC P (Item.tabs P m (its.take j)) (a.tab P m):=by
     rw[XF ea,Item.E4 hp NJ (by simp only[Item.bK];exact⟨cA,trivial⟩),Item.NI hp cA]
    refine .nx (nO (d:=cZ (Item.tabs P m (its.take (j+1)))) ?_) ⟨_,rfl⟩
    have:=rO (dC P (Item.tabs P m (its.take j)) (a.tab P m))
    walk_at "evs"
    simp only[e]
    walk_at "evs"
    simp only[cZ,tD,et]
    walk_at "evs"
   ·rintro Γ ⟨x4,rfl⟩
    refine b7 ?_
    walk_at "evs"
    rw[C8 (a7 _)]
theorem vv{P:Int}{m n:Nat}{its:List Item}{s:List Int}(p1:3<=P)(p2:P<=9973)(hm:m<=3)(hd:Item.bP its<=5)(ho:Item.bK P m its)(hs:s.length=m)(hn:n<2^150):Bu [.int P,.int m,.tup (its.map Item.d),.int n,aR s] = .ok (aR (df P (cM P m (Item.tabs P m its) n) s)):=by
 have hp:1<P:=by lia
 refine cF rfl ?_
 delta Nx
 have et:=vt p1 p2 hm 12 its (by lia) ho
 have ok:=Item.tabs_ok hp its ho
 have er:=vp (n:=n) p1 p2 hm ok hn
 have ea:=x_ (P:=P) (ts:=cM P m (Item.tabs P m its) n) (ss:=s) (by lia) (by lia) (by rw[hs];exact jI hp ok n) (by lia)
 refine b7 ?_
 walk_at "evs"
 simp only[et]
 walk_at "evs"
 simp only[er]
 walk_at "evs"
 simp only[cZ,aR,ea]
theorem XJ(ns:List Int)(lo hi:Option Int):gN (ns.map D.int) lo hi=(gN ns lo hi).map D.int:=Wa D.int ns lo hi
theorem XM{α:Type}(xs:List α)(lo hi:Option Int):(gN xs lo hi).length<=xs.length:=by
 unfold gN;rw[oG,wJ];lia
theorem rT(its:List Item):(D.tup (its.map Item.d)).cu=true:=by have:=Item.Bv its;simpa [D.cu] using this
theorem XN(c:Int):∃m:Nat,1+c%3=(m:Int)/\1<=m/\m<=3:=⟨(1+c%3).toNat,by lia,by lia,by lia⟩
mutual
def Item.XO:Item->Int
 | .set _ _=>1
 | .again n its=>n*Item.E5 its
def Item.E5:List Item->Int
 | []=>0
 | a::r=>a.XO+Item.E5 r
end
noncomputable section
end
theorem NK{its:List Item}{j:Nat}{d:D}(h:(its.map Item.d)[j]? = some d):∃a:Item,its[j]? = some a/\d=a.d/\a∈its:=by
 rw[eZ] at h
 cases q:its[j]? with
 | none=>rw[q] at h;cases h
 | some a=>rw[q] at h;cases h;exact⟨a,rfl,rfl,sr q⟩
mutual
def Item.few:Item->Item
 | .set x f=>.set x f
 | .again n its=>.again (if Item.E5 (Item.E8 its)=0 then n else n%5) (Item.E8 its)
def Item.E8:List Item->List Item
 | []=>[]
 | a::r=>a.few::Item.E8 r
end
noncomputable section
def Bx(XQ:List D->R D):G->R Fl :=
 (aD (bJ 2 (aG (gV 1)))
 (aD (iX 3 (ku (d8 0))
 (aD (bJ 2 (aG (aj d9 (gV 2) (gC (.int 1)))))
 (aD (b5 (gT (aj rq (gV 2) (gC (.int 30)))) (gY .jW) cL)
 (b5 (gT (aj dQ (aj aI (gV 3) (gC (.int 0))) (gC (.str "again")))) (bJ 2 (aG (ay XQ (ae (aj aI (gV 3) (gC (.int 2))) (ae (gV 2) ak))))) cL))))
 (a8 (gV 2))))
def rU:Nat->List D->R D
 | 0=>λ_=>.no
 | n+1=>bB 2 4 (Bx (rU n))
def NL:G->R Fl :=
 (aD (b5 (jB (gT (ay rQ (ae (gV 2) (ae (gC (.int 0)) (ae (aj p4 (gV 1) (gC (.int 1))) ak)))))) (gY .jW) cL)
 (aD (b5 (gT (aj gM (ay dF (ae (gV 3) ak)) (aj d9 (gV 1) (gC (.int 1))))) (gY .jW) cL)
 (a8 (fT (ae (gC (.str "set")) (ae (gV 2) (ae (ay fL (ae (gL (cR (fW (gV 3)) (c9 (aG (ay (fF o8) (ae (gV 1) (ae (gV 0) ak))))))) ak)) ak)))))))
def E9:List D->R D:=bB 4 4 NL
def By(E_:List D->R D)(Fb:List D->R D)(Fc:List D->R D):G->R Fl :=
 (aD (b5 (gT (aj xH (gV 4) (gC (.int 3)))) (gY .jW) cL)
 (aD (b5 (jB (gT (ay rQ (ae (gV 2) (ae (gC (.int 0)) (ae (aj xG (gC (.int 10)) (gC (.int 30))) ak)))))) (gY .jW) cL)
 (a8 (fT (ae (gC (.str "again")) (ae (gV 2) (ae (ay Fc (ae (gV 0) (ae (gV 1) (ae (gV 3) (ae (aj d9 (gV 4) (gC (.int 1))) ak))))) ak)))))))
def Bz(E_:List D->R D)(Fb:List D->R D)(Fc:List D->R D):G->R Fl :=
 (aD (b5 (gT (aj dQ (aj aI (gV 2) (gC (.int 0))) (gC (.str "set")))) (a8 (ay E9 (ae (gV 0) (ae (gV 1) (ae (aj aI (gV 2) (gC (.int 1))) (ae (aj aI (gV 2) (gC (.int 2))) ak)))))) cL)
 (a8 (ay E_ (ae (gV 0) (ae (gV 1) (ae (aj aI (gV 2) (gC (.int 1))) (ae (aj aI (gV 2) (gC (.int 2))) (ae (gV 3) ak))))))))
def BA(E_:List D->R D)(Fb:List D->R D)(Fc:List D->R D):G->R Fl :=
 (a8 (ay fL (ae (gL (cR (ku (d8 2)) (c9 (aG (ay (fF Fb) (ae (gV 1) (ae (gV 2) (ae (gV 0) (ae (gV 4) ak))))))))) ak)))
mutual
def mx:Nat->List D->R D
 | 0=>λ_=>.no
 | n+1=>bB 5 5 (By (mx n) (my n) (kA n))
def my:Nat->List D->R D
 | 0=>λ_=>.no
 | n+1=>bB 4 4 (Bz (mx n) (my n) (kA n))
def kA:Nat->List D->R D
 | 0=>λ_=>.no
 | n+1=>bB 4 4 (BA (mx n) (my n) (kA n))
end
def NM:G->R Fl :=
 (aD (uX (ay ER (ae (gV 0) ak)))
 (aD (b5 (jB (gT (ay rQ (ae (gV 1) (ae (gC (.int 1)) (ae (gC (.int 3)) ak)))))) (gY .jW) cL)
 (aD (uX (ay (rU 12) (ae (gV 2) (ae (gC (.int 0)) ak))))
 (a8 (ay (kA 12) (ae (gV 0) (ae (gV 1) (ae (gV 2) (ae (gC (.int 0)) ak)))))))))
def BB:List D->R D:=bB 3 3 NM
end
inductive Raw where
 | set (x:Int) (f:List Int)
 | again (n:Int) (l:Bool) (its:List Raw)
def fH(l:Bool)(ds:List D):D:=if l then .lst ds else .tup ds
mutual
def Raw.d:Raw->D
 | .set x f=>.tup [.str "set",.int x,aR f]
 | .again n l its=>.tup [.str "again",.int n,fH l (Raw.ds its)]
def Raw.ds:List Raw->List D
 | []=>[]
 | a::r=>a.d::Raw.ds r
end
theorem Raw.ds_map:∀its:List Raw,Raw.ds its=its.map Raw.d
 | []=>rfl
 | a::r=>by rw[Raw.ds,Raw.ds_map r];rfl
mutual
def Raw.deep:Raw->Nat
 | .set _ _=>0
 | .again _ _ its=>1+Raw.bP its
def Raw.bP:List Raw->Nat
 | []=>0
 | a::r=>max a.deep (Raw.bP r)
end
mutual
def Raw.many:Raw->Nat
 | .set _ _=>1
 | .again _ _ its=>1+Raw.aP its
def Raw.aP:List Raw->Nat
 | []=>0
 | a::r=>a.many+Raw.aP r
end
mutual
def Raw.ok(many:Int):Raw->Prop
 | .set x f=>0<=x/\x<many/\(f.length:Int)=many+1
 | .again n _ its=>0<=n/\n<=10^30/\Raw.bK many its
def Raw.bK(many:Int):List Raw->Prop
 | []=>True
 | a::r=>a.ok many/\Raw.bK many r
end
mutual
def Raw.made(P:Int):Raw->Item
 | .set x f=>.set x (f.map (·%P))
 | .again n _ its=>.again n (Raw.n6 P its)
def Raw.n6(P:Int):List Raw->List Item
 | []=>[]
 | a::r=>a.made P::Raw.n6 P r
end
theorem Raw.NN(P:Int):∀its:List Raw,Raw.n6 P its=its.map (Raw.made P)
 | []=>rfl
 | a::r=>by rw[Raw.n6,Raw.NN P r];rfl
theorem Raw.iD{many:Int}:∀{its:List Raw},Raw.bK many its↔∀a∈its,a.ok many
 | []=>by simp[Raw.bK]
 | a::r=>by simp[Raw.bK,Raw.iD (its:=r)]
theorem Raw.Fd:∀{its:List Raw} {a:Raw},a∈its->a.deep<=Raw.bP its
 | b::r,a,h=>by
   simp only[Raw.bP]
   rcases List.mem_cons.mp h with rfl | h
   ·lia
   ·have:=Raw.Fd h;lia
theorem Raw.rR:∀{its:List Raw} {a:Raw},a∈its->a.many<=Raw.aP its
 | b::r,a,h=>by
   simp only[Raw.aP]
   rcases List.mem_cons.mp h with rfl | h
   ·lia
   ·have:=Raw.rR h;lia
theorem Raw.nY:∀{a b:List Raw},Raw.aP (a++b)=Raw.aP a+Raw.aP b
 | [],b=>by simp[Raw.aP]
 | x::a,b=>by simp[Raw.aP,Raw.nY (a:=a)];lia
theorem Raw.vn:∀a:Raw,0<a.many
 | .set _ _=>by simp[Raw.many]
 | .again _ _ _=>by simp[Raw.many];lia
theorem Raw.nZ:∀its:List Raw,its.length<=Raw.aP its
 | []=>a7 _
 | a::r=>by have:=a.vn;have:=Raw.nZ r;simp only[Raw.aP,cx];lia
theorem XR{its:List Raw}{j:Nat}{d:D}(h:(its.map Raw.d)[j]? = some d):∃a:Raw,its[j]? = some a/\d=a.d/\a∈its:=by
 rw[eZ] at h
 cases q:its[j]? with
 | none=>rw[q] at h;cases h
 | some a=>rw[q] at h;cases h;exact⟨a,rfl,rfl,sr q⟩
theorem Fe(a b c:D):aI (.tup [a,b,c]) (.int 0) = .ok a:=rfl
theorem tF(a b c:D):aI (.tup [a,b,c]) (.int 1) = .ok b:=rfl
theorem NO:∀(k:Nat) (its:List Raw) (l:Bool) (c:Nat),Raw.bP its<k->c+Raw.aP its<=30->rU k [fH l (its.map Raw.d),.int c] = .ok (.int ((c+Raw.aP its:Nat):Int))
 | 0,_,_,_,h,_=>absurd h (C_ _)
 | k+1,its,l,c,h,hm=>by
   show bB 2 4 (Bx (rU k)) _=_
   refine cF rfl ?_
   delta Bx
   refine cV (d:=.int c) (by walk_at "evs") ?_
   refine u0 (ds:=its.map Raw.d) (λj Γ=>∃x3,Γ=[.ro (fH l (its.map Raw.d)),.ro (.int c),.ro (.int ((c+Raw.aP (its.take j):Nat):Int)),x3]) (by walk_at "evs";cases l<;>rfl) ⟨_,by simp[Raw.aP];rfl⟩ ?_ ?_
   ·rintro j d Γ hd ⟨x3,rfl⟩
    obtain⟨a,ea,rfl,ha⟩:=XR hd
    have et:Raw.aP (its.take (j+1))=Raw.aP (its.take j)+a.many:=by
     rw[KU,ea,Raw.nY]
     simp[Raw.aP]
    have es:Raw.aP its=Raw.aP (its.take (j+1))+Raw.aP (its.drop (j+1)):=by rw[<-Raw.nY,KQ]
    have hp:=a.vn
    have e1:((c+Raw.aP (its.take j):Nat):Int)+1=((c+Raw.aP (its.take j)+1:Nat):Int):=rfl
    rw[cV (d:=.int ((c+Raw.aP (its.take j)+1:Nat):Int)) (by walk_at "evs";rw[e1]) rfl]
    have b1:decide ((30:Int)<((c+Raw.aP (its.take j)+1:Nat):Int))=false:=decide_eq_false (by lia)
    rw[dB (by walk_at "evs";rw[b1]) rfl]
    cases a with
    | set x f =>
      have e2:Raw.aP (its.take (j+1))=Raw.aP (its.take j)+1:=by rw[et];rfl
      refine .nx (rG ?_) ⟨.ro (Raw.set x f).d,?_⟩
      ·simp only[Raw.d]
       walk_at "evs"
      ·rw[e2];rfl
    | again n l2 i =>
      have h1:=Raw.Fd ha
      simp only[Raw.deep] at h1
      simp only[Raw.many] at et hp
      have ih:=NO k i l2 (c+Raw.aP (its.take j)+1) (by lia) (by lia)
      refine .nx (jG ?_ (nO (d:=.int ((c+Raw.aP (its.take (j+1)):Nat):Int)) ?_)) ⟨_,rfl⟩
      ·simp only[Raw.d]
       walk_at "evs"
      ·simp only[Raw.d,Raw.ds_map]
       walk_at "evs"
       simp only[ih]
       walk_at "evs"
       rw[et]
       congr 3
       lia
   ·rintro Γ ⟨x3,rfl⟩
    refine b7 ?_
    walk_at "evs"
    rw[C8 (a7 _)]
theorem yo{P many x:Int}{f:List Int}(p1:3<=P)(p2:P<=9999)(m1:1<=many)(m3:many<=3)(h0:0<=x)(h1:x<many)(hf:(f.length:Int)=many+1):E9 [.int P,.int many,.int x,aR f] = .ok (Item.set x (f.map (·%P))).d:=by
 refine cF rfl ?_
 delta NL
 have ef:=qk (d:=.int x) (a:=0) (b:=many-1) rfl
 have b:qj (.int x) 0 (many-1)=true:=by
  show(decide (0<=x)&&decide (x<=many-1))=true
  rw[decide_eq_true h0,decide_eq_true (by lia)];rfl
 rw[b] at ef
 refine dB (by walk_at "evs";simp only[ef];walk_at "evs") ?_
 refine dB (by simp only[lj];walk_at "evs";simp only[hf];walk_at "evs";try simp) ?_
 refine b7 ?_
 simp only[Item.d,lj]
 have hl:f.length<=100000:=by lia
 walk_at "evs"
 rw[jC (h:=λn=>D.int (n%P))]
 ·rw[yd]
  walk_at "evs"
 ·intro n hn
  walk_at "evs"
theorem NP{P many:Int}(p1:3<=P)(p2:P<=9999)(m1:1<=many)(m3:many<=3):∀(k:Nat) (its:List Raw) (l:Bool) (ar:Nat),3*Raw.bP its+3<=k->ar+Raw.bP its<=3->Raw.aP its<=60->Raw.bK many its->kA k [.int P,.int many,fH l (its.map Raw.d),.int ar] = .ok (.tup ((Raw.n6 P its).map Item.d))
 | 0,_,_,_,h,_,_,_=>by lia
 | 1,_,_,_,h,_,_,_=>by lia
 | 2,_,_,_,h,_,_,_=>by lia
 | k+3,its,l,ar,h,XS,hm,ho=>by
   show bB 4 4 (BA (mx (k+2)) (my (k+2)) (kA (k+2))) _=_
   refine cF rfl ?_
   delta BA
   refine b7 ?_
   have hlen:=Raw.nZ its
   have hl:(its.map Raw.d).length<=100000:=by rw[a6];lia
   have XT:ku (d8 2) [En.ro (.int P),.ro (.int many),.ro (fH l (its.map Raw.d)),.ro (.int ar)] = .ok (its.map Raw.d):=by
    walk_at "evs"
    cases l<;>rfl
   have key:∀F:D->G->R (Option D),(∀a∈its,F a.d [En.ro (.int P),.ro (.int many),.ro (fH l (its.map Raw.d)),.ro (.int ar)] = .ok (some (a.made P).d))->ay fL (ae (gL (cR (ku (d8 2)) F)) ak) [En.ro (.int P),.ro (.int many),.ro (fH l (its.map Raw.d)),.ro (.int ar)] = .ok (.tup ((Raw.n6 P its).map Item.d)):=λF hF=>by
    have e:cR (ku (d8 2)) F [En.ro (.int P),.ro (.int many),.ro (fH l (its.map Raw.d)),.ro (.int ar)] = .ok (its.map λa=>(a.made P).d):=by
     unfold cR
     rw[XT]
     show R.guard _ _=_
     rw[bW hl,jC hF]
    rw[Raw.NN,iu]
    simp only[ay,ae,ak,gL,e]
    rfl
   refine key _ ?_
   ·intro a ha
    have cA:=Raw.iD.mp ho a ha
    have nL:=Item.cu (a.made P)
    have e:my (k+2) [.int P,.int many,a.d,.int ar] = .ok (a.made P).d:=by
     show bB 4 4 (Bz (mx (k+1)) (my (k+1)) (kA (k+1))) _=_
     refine cF rfl ?_
     delta Bz
     cases a with
     | set x f =>
       simp only[Raw.ok] at cA
       have es:=yo (P:=P) (many:=many) (x:=x) (f:=f) p1 p2 m1 m3 cA.1 cA.2.1 cA.2.2
       simp only[Raw.d]
       refine qc (jG (by walk_at "evs") (b7 ?_))
       walk_at "evs"
       simp only[es]
       rfl
     | again n l2 i =>
       simp only[Raw.ok] at cA
       have h1:=Raw.Fd ha
       have h2:=Raw.rR ha
       simp only[Raw.deep,Raw.many] at h1 h2
       have ih:=NP p1 p2 m1 m3 k i l2 (ar+1) (by lia) (by lia) (by lia) cA.2.2
       have ef:=qk (d:=.int n) (a:=0) (b:=10^30) rfl
       have b:qj (.int n) 0 (10^30)=true:=by
        show(decide (0<=n)&&decide (n<=10^30))=true
        rw[decide_eq_true cA.1,decide_eq_true cA.2.1];rfl
       rw[b] at ef
       have nI:=rT (Raw.n6 P i)
       have eg:mx (k+1) [.int P,.int many,.int n,fH l2 (i.map Raw.d),.int ar] = .ok (Item.again n (Raw.n6 P i)).d:=by
        show bB 5 5 (By (mx k) (my k) (kA k)) _=_
        refine cF rfl ?_
        delta By
        have b1:decide ((3:Int)<=(ar:Int))=false:=decide_eq_false (by lia)
        refine dB (by walk_at "evs";rw[b1]) ?_
        refine dB (by walk_at "evs";simp only[ef];walk_at "evs") ?_
        refine b7 ?_
        have ea:(ar:Int)+1=((ar+1:Nat):Int):=rfl
        walk_at "evs"
        simp only[ea,ih]
        walk_at "evs"
       simp only[Raw.d,Raw.ds_map]
       refine dB (by walk_at "evs") (b7 ?_)
       walk_at "evs"
       simp only[eg]
       rfl
    walk_at "evs"
    simp only[e]
    walk_at "evs"
theorem yp{P many:Int}{its:List Raw}{l:Bool}(p1:3<=P)(p2:P<=9973)(hd:dR P=false)(m1:1<=many)(m3:many<=3)(d3:Raw.bP its<=3)(hm:Raw.aP its<=30)(ho:Raw.bK many its):BB [.int P,.int many,fH l (its.map Raw.d)] = .ok (.tup ((Raw.n6 P its).map Item.d)):=by
 refine cF rfl ?_
 delta NM
 have ep:=Xi (d:=.int P) rfl (show(decide (3<=P)&&(decide (P<=9999)&&!dR P))=true by rw[decide_eq_true p1,decide_eq_true (show P<=9999 by lia),hd];rfl)
 have ef:=qk (d:=.int many) (a:=1) (b:=3) rfl
 have b:qj (.int many) 1 3=true:=by
  show(decide (1<=many)&&decide (many<=3))=true
  rw[decide_eq_true m1,decide_eq_true m3];rfl
 rw[b] at ef
 have ec:=NO 12 its l 0 (by lia) (by lia)
 have em:=NP (P:=P) p1 (by lia) m1 m3 12 its l 0 (by lia) (by lia) (by lia) ho
 refine jh (MJ (d:=.int P) (by walk_at "evs";simp only[ep])) ?_
 refine dB (by walk_at "evs";simp only[ef];walk_at "evs") ?_
 refine jh (MJ (d:=.int ((0+Raw.aP its:Nat):Int)) (by walk_at "evs";simp only[show(D.int 0)=D.int ((0:Nat):Int) from rfl,ec];try simp)) (b7 ?_)
 walk_at "evs"
 simp only[show(D.int 0)=D.int ((0:Nat):Int) from rfl,em]
noncomputable section
end
mutual
def Item.lu:Item->Raw
 | .set x f=>.set x f
 | .again n its=>.again n false (Item.lx its)
def Item.lx:List Item->List Raw
 | []=>[]
 | a::r=>a.lu::Item.lx r
end
theorem XU{P:Int}{f:List Int}(h:c_ P f):f.map (·%P)=f:=by
 have:∀n∈f,n%P=n:=λn hn=>qX (h n hn).1 (h n hn).2
 exact(KN this).trans (List.map_id _)
mutual
theorem Item.XW{P many:Int}:∀a:Item,a.ok P many->a.lu.deep=a.deep/\a.lu.many=a.many/\a.lu.ok many/\a.lu.made P=a/\a.lu.d=a.d
 | .set x f,h=>by
   simp only[Item.ok] at h
   refine⟨rfl,rfl,?_,?_,rfl⟩
   ·simp only[Item.lu,Raw.ok];exact⟨h.1,h.2.1,h.2.2.1⟩
   ·simp only[Item.lu,Raw.made,XU h.2.2.2]
 | .again n its,h=>by
   simp only[Item.ok] at h
   obtain⟨h1,h2,h3,h4,h5⟩:=Item.Ff its h.2.2
   refine⟨by simp only[Item.lu,Raw.deep,Item.deep,h1],by simp only[Item.lu,Raw.many,Item.many,h2],?_,by simp only[Item.lu,Raw.made,h4],?_⟩
   ·simp only[Item.lu,Raw.ok]
    exact⟨h.1,h.2.1,h3⟩
   ·simp only[Item.lu,Raw.d,Item.d,fH,h5]
    rfl
theorem Item.Ff{P many:Int}:∀its:List Item,Item.bK P many its->Raw.bP (Item.lx its)=Item.bP its/\Raw.aP (Item.lx its)=Item.aP its/\Raw.bK many (Item.lx its)/\Raw.n6 P (Item.lx its)=its/\Raw.ds (Item.lx its)=Item.ds its
 | [],_=>⟨rfl,rfl,trivial,rfl,rfl⟩
 | a::r,h=>by
   simp only[Item.bK] at h
   obtain⟨h1,h2,h3,h4,h5⟩:=Item.XW a h.1
   obtain⟨k1,k2,k3,k4,k5⟩:=Item.Ff r h.2
   exact⟨by simp only[Item.lx,Raw.bP,Item.bP,h1,k1],by simp only[Item.lx,Raw.aP,Item.aP,h2,k2],by simp only[Item.lx,Raw.bK];exact⟨h3,k3⟩,by simp only[Item.lx,Raw.n6,h4,k4],by simp only[Item.lx,Raw.ds,Item.ds,h5,k5]⟩
end
noncomputable section
def BC(XX:List D->R (List D)):G->R Fl :=
 (aD (fG 2 (eA ak))
 (aD (iX 3 (ku (d8 1))
 (b5 (gT (aj dQ (aj aI (gV 3) (gC (.int 0))) (gC (.str "set")))) (fG 2 (iC (p9 (gV 2) (gL (eA (ae (gC (.str "set")) (ae (aj aI (gV 0) (aj aI (gV 3) (gC (.int 1)))) ak))))) (cR (fW (aj aI (gV 3) (gC (.int 2)))) (c9 (aG (ay lh (ae (gV 0) ak))))))) (fG 2 (iC (iC (p9 (gV 2) (gL (eA (ae (gC (.str "again")) (ae (ay lh (ae (aj aI (gV 3) (gC (.int 1))) ak)) (ae (gC (.str "[")) ak)))))) (fV XX (ae (gV 0) (ae (aj aI (gV 3) (gC (.int 2))) ak)))) (eA (ae (gC (.str "]")) ak))))))
 (rD 2)))
def rV:Nat->List D->R (List D)
 | 0=>λ_=>.no
 | n+1=>jF 2 4 (BC (rV n))
def NQ:G->R Fl :=
 (a8 (kq (aj p5 (gC (.int 1)) (ay x2v (ae (gV 0) ak))) (kq (aj p5 (ay x2v (ae (gV 0) ak)) (gV 2)) (ay oY (ae (gL (cR (y2y (gV 0)) (c9 (aG (aj dInS (gV 0) (gV 2)))))) ak)))))
def tG:List D->R D:=bB 3 3 NQ
def NR:G->R Fl :=
 (aD (b5 (nG (jB (gT (ay tG (ae (gV 0) (ae (gC (.str "0123456789")) (ae (gC (.int 31)) ak)))))) (je (gT (aj dQ (aj dIxS (gV 0) (gC (.int 0))) (gC (.str "0")))) (gT (aj gM (gV 0) (gC (.str "0")))))) (gY .iB) cL)
 (a8 (ay xU (ae (gV 0) ak))))
def yq:List D->R D:=bB 1 1 NR
def Fg:G->R (D×List D) :=
 (dH (b5 (gT (aj rp (ay dF (ae (gV 0) ak)) (gV 1))) Be cL)
 (u_ 0 (gV 1)))
def rW:List D->R (D×List D):=nU 2 2 0 Fg
def Fh:G->R (D×List D) :=
 (ic 0 (td 0 (o5 gM 0 (gZ rW (z8f 0 (ae (aG (gC (.int 1))) ak))) (gL (eA (ae (gV 1) ak))))))
def BD:List D->R (D×List D):=nU 2 2 0 Fh
def NS:G->R Fl :=
 (aD (bJ 2 (aG (ay yq (ae (gV 1) ak))))
 (aD (b5 (gT (aj xH (gV 2) (gV 0))) (gY .iB) cL)
 (a8 (gV 2))))
def Fi:List D->R D:=bB 2 3 NS
def Fj:G->R (D×List D) :=
 (dH (o4 3 2 (rJ 2 (gZ rW (z8f 2 (ae (aG (gC (.int 1))) ak))) (gC (.int 0))))
 (dH (b5 (gT (aj z9n (gV 3) (gV 1))) Be cL)
 (dH (tf 4 2 (gZ rW (z8f 2 (ae (aG (aj d9 (ay dF (ae (gV 1) ak)) (gC (.int 1)))) ak))) (c9 (aG (ay (fF Fi) (ae (gV 1) (ae (gV 0) ak))))))
 (qf 2 (fT (ae (aG (gC (.str "set"))) (ae (aG (xT (gV 1) (gV 3))) (ae (aG (ay fL (ae (gV 4) ak))) ak))))))))
def Fm:List D->R (D×List D):=nU 3 5 2 Fj
def BE(Fo:List D->R (D×List D))(Fp:List D->R (D×List D))(Fq:List D->R (D×List D)):G->R (D×List D) :=
 (dH (b5 (gT (aj xH (gV 3) (gC (.int 3)))) Be cL)
 (dH (o4 4 2 (vc yq (rJ 2 (gZ rW (z8f 2 (ae (aG (gC (.int 1))) ak))) (gC (.int 0)))))
 (dH (s_ 2 (gZ BD (z8f 2 (ae (aG (gC (.str "["))) ak))))
 (dH (o4 5 2 (gZ Fq (ae (d8 0) (ae (d8 1) (z8f 2 (ae (aG (aj d9 (gV 3) (gC (.int 1)))) ak))))))
 (dH (s_ 2 (gZ BD (z8f 2 (ae (aG (gC (.str "]"))) ak))))
 (qf 2 (fT (ae (aG (gC (.str "again"))) (ae (d8 4) (ae (d8 5) ak))))))))))
def BF(Fo:List D->R (D×List D))(Fp:List D->R (D×List D))(Fq:List D->R (D×List D)):G->R (D×List D) :=
 (dH (o4 4 2 (rJ 2 (gZ rW (z8f 2 (ae (aG (gC (.int 1))) ak))) (gC (.int 0))))
 (nS (gT (aj dQ (gV 4) (gC (.str "set")))) (gZ Fm (ae (d8 0) (ae (d8 1) (z8f 2 ak))))
 (nS (gT (aj dQ (gV 4) (gC (.str "again")))) (gZ Fo (ae (d8 0) (ae (d8 1) (z8f 2 (ae (d8 3) ak)))))
 Ew)))
def BG(Fo:List D->R (D×List D))(Fp:List D->R (D×List D))(Fq:List D->R (D×List D)):G->R (D×List D) :=
 (dH (fG 4 (eA ak))
 (dH (eI (je (z9m (gV 2)) (gT (aj gM (aj aI (gV 2) (nH (gC (.int 1)))) (gC (.str "]"))))) (qe 4 2 (gZ Fp (ae (d8 0) (ae (d8 1) (z8f 2 (ae (d8 3) ak)))))) 200)
 (qf 2 (aG (ay fL (ae (gV 4) ak))))))
mutual
def mz:Nat->List D->R (D×List D)
 | 0=>λ_=>.no
 | n+1=>nU 4 6 2 (BE (mz n) (mB n) (kB n))
def mB:Nat->List D->R (D×List D)
 | 0=>λ_=>.no
 | n+1=>nU 4 5 2 (BF (mz n) (mB n) (kB n))
def kB:Nat->List D->R (D×List D)
 | 0=>λ_=>.no
 | n+1=>nU 4 5 2 (BG (mz n) (mB n) (kB n))
end
def NT:G->R Fl :=
 (aD (fG 3 (z8u (gV 2)))
 (aD (o4 4 3 (gZ (kB 12) (ae (d8 0) (ae (d8 1) (z8f 3 (ae (aG (gC (.int 0))) ak))))))
 (aD (b5 (z9m (gV 3)) (gY .iB) cL)
 (gNoX (a8 (ay BB (ae (gV 0) (ae (ay dF (ae (gV 1) ak)) (ae (gV 4) ak)))))))))
def BH:List D->R D:=bB 3 5 NT
def NU:G->R Fl :=
 (a8 (kq (ay tG (ae (gV 0) (ae (gC (.str "abcdefghijklmnopqrstuvwxyz")) (ae (gC (.int 8)) ak)))) (aj z9n (gV 0) (fT (ae (gC (.str "set")) (ae (gC (.str "again")) ak))))))
def yr:List D->R D:=bB 1 1 NU
def NV:G->R Fl :=
 (aD (b5 (nG (jB (z9m (gV 0))) (nG (gT (aj rq (ay dF (ae (gV 0) ak)) (gC (.int 3)))) (gT (aj gM (Bd (gV 0)) (ay dF (ae (gV 0) ak)))))) (gY .iB) cL)
 (aD (b5 (jB (gT (ay oY (ae (gL (cR (fW (gV 0)) (c9 (aG (ay (fF yr) (ae (gV 0) ak)))))) ak)))) (gY .iB) cL)
 (a8 (ay fL (ae (gV 0) ak)))))
def Fs:List D->R D:=bB 1 1 NV
def NW:G->R Fl :=
 (aD (b5 (gT (aj gM (ay dF (ae (gV 0) ak)) (gC (.int 1)))) (gY .iB) cL)
 (aD (bJ 1 (aG (ay yq (ae (aj aI (gV 0) (gC (.int 0))) ak))))
 (aD (b5 (jB (gT (ay Bo (ae (gV 1) ak)))) (gY .iB) cL)
 (a8 (gV 1)))))
def Ft:List D->R D:=bB 1 2 NW
def NX:G->R Fl :=
 (aD (fG 2 (xS " " (gV 0)))
 (aD (b5 (gT (aj gM (aj aI (gV 2) (gC (.int 0))) (gV 1))) (gY .iB) cL)
 (p_ (D_ (gV 2) (nK (gC (.int 1))) p6))))
def vw:List D->R (List D):=jF 2 3 NX
def NY:G->R Fl :=
 (aD (fG 1 (xS "\n" (gV 0)))
 (aD (b5 (gT (aj gM (ay dF (ae (gV 1) ak)) (gC (.int 3)))) (gY .iB) cL)
 (aD (bJ 2 (aG (ay Ft (ae (gL (fV vw (ae (aj aI (gV 1) (gC (.int 0))) (ae (gC (.str "prime")) ak)))) ak))))
 (aD (bJ 3 (aG (ay Fs (ae (gL (fV vw (ae (aj aI (gV 1) (gC (.int 1))) (ae (gC (.str "boxes")) ak)))) ak))))
 (a8 (fT (ae (gV 2) (ae (gV 3) (ae (ay BH (ae (gV 2) (ae (gV 3) (ae (gL (fV vw (ae (aj aI (gV 1) (gC (.int 2))) (ae (gC (.str "do")) ak)))) ak)))) ak)))))))))
def BI:List D->R D:=bB 1 4 NY
def NZ:G->R Fl :=
 (p_ (cR (fW (gV 0)) (c9 (aG (ay lh (ae (gV 0) ak))))))
def yt:List D->R (List D):=jF 1 1 NZ
def BJ(N0:List D->R (List D))(N1:List D->R (List D)):G->R Fl :=
 (aD (fG 2 (eA ak))
 (aD (iX 3 (ku (d8 1))
 (sY 2 (fV N1 (ae (gV 0) (ae (gV 3) ak)))))
 (rD 2)))
def BK(N0:List D->R (List D))(N1:List D->R (List D)):G->R Fl :=
 (aD (b5 (gT (aj dQ (aj aI (gV 1) (gC (.int 0))) (gC (.str "set")))) (p_ (iC (eA (ae (gC (.str "set")) (ae (aj aI (gV 0) (aj aI (gV 1) (gC (.int 1)))) ak))) (fV yt (ae (aj aI (gV 1) (gC (.int 2))) ak)))) cL)
 (p_ (iC (iC (eA (ae (gC (.str "again")) (ae (ay lh (ae (aj aI (gV 1) (gC (.int 1))) ak)) (ae (gC (.str "[")) ak)))) (fV N0 (ae (gV 0) (ae (aj aI (gV 1) (gC (.int 2))) ak)))) (eA (ae (gC (.str "]")) ak)))))
mutual
def o_:Nat->List D->R (List D)
 | 0=>λ_=>.no
 | n+1=>jF 2 4 (BJ (o_ n) (rX n))
def rX:Nat->List D->R (List D)
 | 0=>λ_=>.no
 | n+1=>jF 2 2 (BK (o_ n) (rX n))
end
def N2:G->R Fl :=
 (aD (bJ 3 (gL (y3b (ae (gL (y3b (ae (aG (gC (.str "prime"))) (ae (aG (ay lh (ae (gV 0) ak))) ak)))) (ae (gL (iC (eA (ae (gC (.str "boxes")) ak)) (jZ (gV 1)))) (ae (gL (iC (eA (ae (gC (.str "do")) ak)) (fV (o_ 12) (ae (gV 1) (ae (gV 2) ak))))) ak))))))
 (a8 (nP "\n" (gL (cR (ku (d8 3)) (c9 (aG (nP " " (gV 0)))))))))
def Fv:List D->R D:=bB 3 4 N2
end
end L3
namespace L3
open PySem
local macro_rules | `(tactic| walk_at "evs") => wkL " L3.y1k L3.z6b L3.s_on L3.z3w L3.z6y L3.z7c L3.z7e L3.z9k L3.z8k L3.z7f L3.z3u L3.z6s L3.y7l L3.y9m L3.y3b L3.Item.d L3.Item.ds_map L3.z8j L3.y9y L3.y9z L3.y5r L3.y0k L3.y4r L3.y7k L3.y0e L3.z9m L3.D.isNon L3.gRev L3.z9d L3.z8f L3.x2v L3.dInS L3.dIxS L3.y2y L3.z9n L3.z8u L3.gNoX L3.y3y"
section
variable {t:G->R Fl}{u v:G->R (D×List D)}{g gb:G->R D}{Γ Γ':G}{d b r:D}{ws:List D}{w j i m:Nat}{q:R (D×List D)}
theorem ly(h:t Γ = .ok (.nx Γ'))(hr:u Γ'=q):dH t u Γ=q:=by unfold dH;rw[h];exact hr
theorem vz(h:u Γ = .ok (d,ws)):o4 j w u Γ = .ok (.nx ((Γ.set w (.own ws)).set j (.ro d))):=by unfold o4;rw[h]
theorem N3(h:u Γ = .ok (d,ws)):s_ w u Γ = .ok (.nx (Γ.set w (.own ws))):=by unfold s_;rw[h]
theorem XY{ds:List D}(h:u Γ = .ok (d,ws))(hm:(Γ.set w (.own ws))[m]? = some (.own ds))(hl:ds.length<=100000):qe m w u Γ = .ok (.nx ((Γ.set w (.own ws)).set m (.own (ds++[d])))):=by
 unfold qe;rw[h];dsimp only;rw[hm];dsimp only;rw[if_pos hl]
theorem XZ(h:u Γ = .ok (.bl false,ws)):td w u Γ = .ok (.nx (Γ.set w (.own ws))):=by unfold td;rw[h]
theorem BL(h:u Γ = .ok (d,ws))(hb:gb (Γ.set w (.own ws)) = .ok b)(hr:aI d b = .ok r):rJ w u gb Γ = .ok (r,ws):=by unfold rJ;rw[h];dsimp only;rw[hb];dsimp only;rw[hr]
theorem X0{φ:D->D->R D}(h:u Γ = .ok (d,ws))(hb:gb (Γ.set w (.own ws)) = .ok b)(hr:φ d b = .ok r):o5 φ w u gb Γ = .ok (r,ws):=by unfold o5;rw[h];dsimp only;rw[hb];dsimp only;rw[hr]
theorem X1{φ:List D->R D}(h:u Γ = .ok (d,ws))(hr:φ [d] = .ok r):vc φ u Γ = .ok (r,ws):=by unfold vc;rw[h];dsimp only;rw[hr]
theorem lz{φ:List D->R (D×List D)}{gs:G->R (List D)}{ds:List D}{x:D×List D}(h:gs Γ = .ok ds)(e:φ ds = .ok x):gZ φ gs Γ = .ok x:=by unfold gZ;rw[h];show R.good (φ ds)=_;rw[e];rfl
theorem Fw(h:g Γ = .ok d)(hw:Γ[i]? = some (.own ws)):qf i g Γ = .ok (d,ws):=by unfold qf;rw[h];show(match Γ[i]? with | some (.own ws)=>R.ok (d,ws) | _=>R.no)=_;rw[hw]
theorem N4{c:G->R Bool}(h:c Γ = .ok true)(hr:u Γ=q):nS c u v Γ=q:=by unfold nS;rw[h];exact hr
theorem X2{c:G->R Bool}(h:c Γ = .ok false)(hr:v Γ=q):nS c u v Γ=q:=by unfold nS;rw[h];exact hr
theorem X3(h:t Γ = .ok (.nx Γ'))(hw:Γ'[i]? = some (.own ws)):ic i t Γ = .ok (.cH,ws):=by unfold ic;rw[h];dsimp only;rw[hw]
theorem X4{f:D->G->R (Option D)}{items total:List D}(h:u Γ = .ok (.lst items,ws))(hl:items.length<=100000)(et:c8 (λd=>f d (Γ.set w (.own ws))) items [] = .ok total):tf j w u f Γ = .ok (.nx ((Γ.set w (.own ws)).set j (.own total))):=by
 unfold tf;rw[h];dsimp only;rw[if_pos hl,et]
end
theorem vA{T:List D}{n:Nat}(h:n<=T.length)(hl:T.length<=100000):rW [.lst T.reverse,.int n] = .ok (.lst (T.take n),(T.drop n).reverse):=by
 refine(o6 (as:=[]) (bs:=[.int n]) rfl rfl).trans ?_
 show Fg [.own T.reverse,.ro (.int n)]=_
 delta Fg
 have b1:decide (((T.length:Nat):Int)<(n:Int))=false:=decide_eq_false (by lia)
 refine ly (rG (by walk_at "evs";simp only[qY,b1])) ?_
 unfold u_
 show(match ([En.own T.reverse,.ro (.int n)]:G)[0]? with | some (.own ws)=>if (0<=(n:Int)/\(n:Int).toNat<=ws.length/\ws.length<=100000) then R.ok (D.lst (ws.reverse.take (n:Int).toNat),ws.take (ws.length-(n:Int).toNat)) else .no | _=>.no)=_
 show(if (0<=(n:Int)/\(n:Int).toNat<=T.reverse.length/\T.reverse.length<=100000) then R.ok (D.lst (T.reverse.reverse.take (n:Int).toNat),T.reverse.take (T.reverse.length-(n:Int).toNat)) else .no)=_
 rw[oI,qY,if_pos ⟨by lia,h,hl⟩,List.reverse_reverse]
 have e:T.reverse.take (T.length-n)=(T.drop n).reverse:=by
  rw[List.reverse_drop]
 rw[e]
theorem yu{d:D}{T:List D}(hl:T.length<100000):rW [.lst (d::T).reverse,.int 1] = .ok (.lst [d],T.reverse):=by
 have:=vA (T:=d::T) (n:=1) (by simp) (by simp only[cx];lia)
 simpa using this
theorem X5(x:Str):cz (.lst [.str x]) (.lst [.str x])=true:=AR (by rw[V8];simp[D.pl,D.lb])
theorem X6{x:Str}(h:dP x=true):D.lay 40 (.lst [.str x])=true:=by rw[V4];simp[D.lay,h]
theorem iE:∀xs:List Str,D.a_ (xs.map D.str)=true
 | []=>rfl
 | x::r=>by rw[e8];simp[D.a_,D.cu,iE r]
theorem N5{x:Str}{T:List D}(hx:dP x=true)(hl:T.length<100000):BD [.lst (D.str x::T).reverse,.str x] = .ok (.cH,T.reverse):=by
 refine(o6 (as:=[]) (bs:=[.str x]) rfl rfl).trans ?_
 show Fh [.own (D.str x::T).reverse,.ro (.str x)]=_
 delta Fh
 refine X3 (Γ':=[.own T.reverse,.ro (.str x)]) (XZ (ws:=T.reverse) (X0 (d:=.lst [.str x]) (b:=.lst [.str x]) (lz (ds:=[.lst (D.str x::T).reverse,.int 1]) ?_ (yu hl)) ?_ ?_)) rfl
 ·walk_at "evs"
 ·have n1:D.a_ [D.str x]=true:=iE [x]
  walk_at "evs"
 ·have l1:=X6 hx
  have e1:=X5 x
  show R.guard _ _=_
  rw[bW ⟨l1,l1⟩,e1]
  rfl
theorem Fx{a b:G->R D}{Γ:G}{r:R D}(h:a Γ = .ok (.bl true))(h2:b Γ=r):kq a b Γ=r:=by unfold kq;rw[h];exact h2
theorem N6{w S:Str}{m:Int}(h1:1<=w.length)(h2:(w.length:Int)<=m)(h3:w.length<=100000)(h:∀c∈w.cps.toList,u9 ⟨#[c]⟩ S=true):tG [.str w,.str S,.int m] = .ok (.bl true):=by
 refine cF rfl ?_
 delta NQ
 refine b7 ?_
 show kq _ _ [En.ro (.str w),.ro (.str S),.ro (.int m)]=_
 have b1:decide ((1:Int)<=(w.length:Int))=true:=decide_eq_true (by lia)
 have b2:decide ((w.length:Int)<=m)=true:=decide_eq_true h2
 have hl:(nQ w).length<=100000:=by unfold nQ;rw[a6];simpa [wK] using h3
 have ec:cR (y2y (gV 0)) (c9 (aG (aj dInS (gV 0) (gV 2)))) [En.ro (.str w),.ro (.str S),.ro (.int m)] = .ok ((w.cps.toList.map λ_=>true).map D.bl):=by
  unfold cR
  rw[show y2y (gV 0) [En.ro (.str w),.ro (.str S),.ro (.int m)] = .ok (nQ w) by walk_at "evs"]
  show R.guard _ _=_
  rw[bW hl]
  unfold nQ
  rw[iu]
  refine jC λc hc=>?_
  have:=h c hc
  walk_at "evs"
  rw[this];rfl
 refine Fx (by walk_at "evs";rw[b1]) (Fx (by walk_at "evs";rw[b2]) ?_)
 simp only[ay,ae,ak,gL,ec]
 show oY [.lst _]=_
 rw[A0]
 simp
theorem X7:∀c:Nat,48<=c->c<=57->u9 ⟨#[c]⟩ "0123456789"=true:=by
 intro c h1 h2
 have:c=48∨c=49∨c=50∨c=51∨c=52∨c=53∨c=54∨c=55∨c=56∨c=57:=by lia
 rcases this with rfl | rfl | rfl | rfl | rfl | rfl | rfl | rfl | rfl | rfl<;>decide +kernel
theorem vB{a b:Str}(ha:dP a=true)(hb:dP b=true):dQ (.str a) (.str b) = .ok (.bl (decide (a=b))):=by
 show R.guard _ _=_
 rw[bW ⟨by rw[nJ];exact ha,by rw[nJ];exact hb⟩]
 by_cases q:a=b
 ·subst q;rw[decide_eq_true rfl,AR rfl]
 ·rw[decide_eq_false q,z8j];simp[q]
theorem vC{a b:Str}(ha:dP a=true)(hb:dP b=true):gM (.str a) (.str b) = .ok (.bl (!decide (a=b))):=by
 show R.guard _ _=_
 rw[bW ⟨by rw[nJ];exact ha,by rw[nJ];exact hb⟩]
 by_cases q:a=b
 ·subst q;rw[decide_eq_true rfl,AR rfl]
 ·rw[decide_eq_false q,z8j];simp[q]
theorem X8{n:Int}(h0:0<=n)(h1:n<=10^30):xU [.str (aU n)] = .ok (.int n):=by
 unfold xU
 show R.guard _ _=_
 rw[bW (dD (vd h0 h1) (by decide)),WN h0 h1]
theorem X9{n:Int}(h0:0<=n)(h1:n<=10^30):tG [.str (aU n),.str "0123456789",.int 31] = .ok (.bl true):=by
 have l1:=WM h0
 have l2:=vd h0 h1
 exact N6 l1 (by lia) (by lia) λc hc=>X7 c (tj h0 c hc).1 (tj h0 c hc).2
theorem N7{n:Int}(h0:0<=n):dP (aU n)=true:=by
 unfold dP
 rw[<-Tb,ng]
 intro c hc
 have:=tj h0 c hc
 simpa using (show c<0x110000 by lia)
theorem tH{n:Int}(h0:0<=n)(h1:n<=10^30):yq [.str (aU n)] = .ok (.int n):=by
 have l2:=vd h0 h1
 have l3:(aU n).length<=100000:=by lia
 refine cF rfl ?_
 delta NR
 have hc:nG (jB (gT (ay tG (ae (gV 0) (ae (gC (.str "0123456789")) (ae (gC (.int 31)) ak)))))) (je (gT (aj dQ (aj dIxS (gV 0) (gC (.int 0))) (gC (.str "0")))) (gT (aj gM (gV 0) (gC (.str "0"))))) [En.ro (.str (aU n))] = .ok false:=by
  have e1:=X9 h0 h1
  have q1:jB (gT (ay tG (ae (gV 0) (ae (gC (.str "0123456789")) (ae (gC (.int 31)) ak))))) [En.ro (.str (aU n))] = .ok false:=by
   walk_at "evs"
   simp only[e1]
   walk_at "evs"
  unfold nG
  rw[q1]
  show je _ _ _=_
  cases hL:(aU n).cps.toList with
  | nil=>exact absurd hL (Ey h0)
  | cons c r =>
    have ei:dIxS (.str (aU n)) (.int 0) = .ok (.str ⟨#[c]⟩):=by
     unfold dIxS
     show R.guard _ _=_
     rw[bW l3,hL,D8 (by lia)]
     rfl
    have lc:dP ⟨#[c]⟩=true:=by
     have:=tj h0 c (by rw[hL];exact fi ..)
     simp only[dP]
     simpa using (show c<0x110000 by lia)
    have k0:dP "0"=true:=by decide +kernel
    have ln:=N7 h0
    by_cases q:c=48
    ·subst q
     have e0:=WO h0 hL
     have z0:aU 0="0":=by decide +kernel
     have en:aU n="0":=e0.trans z0
     have ec:(⟨#[48]⟩:Str)="0":=by decide +kernel
     have q2:gT (aj dQ (aj dIxS (gV 0) (gC (.int 0))) (gC (.str "0"))) [En.ro (.str (aU n))] = .ok true:=by
      simp only[gT,aj,gV,gC,fy,R.cE,ei,ec]
      rw[vB k0 k0];simp[AM]
     have q3:gT (aj gM (gV 0) (gC (.str "0"))) [En.ro (.str (aU n))] = .ok false:=by
      simp only[gT,aj,gV,gC,fy,R.cE,en]
      rw[vC k0 k0];simp[AM]
     unfold je
     rw[q2]
     exact q3
    ·have ne:(⟨#[c]⟩:Str)≠"0":=λz=>q (by
      have:=congrArg (λs:Str=>s.cps.toList) z
      have X_:("0":Str).cps.toList=[48]:=by decide +kernel
      dsimp only at this
      rw[X_] at this
      simpa using this)
     have q2:gT (aj dQ (aj dIxS (gV 0) (gC (.int 0))) (gC (.str "0"))) [En.ro (.str (aU n))] = .ok false:=by
      simp only[gT,aj,gV,gC,fy,R.cE,ei]
      rw[vB lc k0,decide_eq_false ne];rfl
     unfold je
     rw[q2]
     rfl
 refine dB hc ?_
 refine b7 ?_
 show ay _ _ [En.ro (.str (aU n))]=_
 have:=X8 h0 h1
 simp only[ay,ae,ak,gV,fy,R.cE,this]
mutual
def Item.ws(ns:List Str):Item->List Str
 | .set x f=>"set"::ns.getD x.toNat ""::f.map aU
 | .again n its=>"again"::aU n::"["::(Item.bE ns its++[("]":Str)])
def Item.bE(ns:List Str):List Item->List Str
 | []=>[]
 | a::r=>Item.ws ns a++Item.bE ns r
end
structure Names (ns:List Str):Prop where
 nd:ns.Nodup
 ok:∀x∈ns,dP x=true
 l1:1<=ns.length
 l3:ns.length<=3
def dv(ns:List Str):D:=.tup (ns.map D.str)
theorem Yb{P n:Int}(h0:0<=n)(h1:n<P)(h2:P<=9999):Fi [.int P,.str (aU n)] = .ok (.int n):=by
 have e:=tH h0 (show n<=10^30 by lia)
 refine cF rfl ?_
 delta NS
 have b:decide (P<=n)=false:=decide_eq_false (by lia)
 refine cV (d:=.int n) (by walk_at "evs";simp only[e];walk_at "evs") ?_
 refine dB (by walk_at "evs";rw[b]) (b7 ?_)
 walk_at "evs"
theorem Yc{ns:List Str}(h:∀x∈ns,dP x=true):D.lay 40 (dv ns)=true:=by
 unfold dv
 rw[AO,ng]
 intro d hd
 obtain⟨x,hx,rfl⟩:=List.mem_map.mp hd
 rw[nJ];exact h x hx
theorem Yd{ns:List Str}(h:∀x∈ns,dP x=true){x:Str}(hx:x∈ns):z9n (.str x) (dv ns) = .ok (.bl false):=by
 show R.guard _ _=_
 rw[bW ⟨by rw[nJ];exact h x hx,Yc h⟩]
 have:(ns.map D.str).any (λy=>cz y (.str x))=true:=List.any_eq_true.mpr ⟨.str x,List.mem_map.mpr ⟨x,hx,rfl⟩,AR rfl⟩
 rw[this];rfl
theorem Ye{ns:List Str}(N:Names ns){j:Nat}(hj:j<ns.length):nR ns (ns.getD j "") = .ok (.int (j:Int)):=by
 have e:ns.getD j ""=ns[j]:=by simp[KW,hj]
 have f:ns.findIdx? (·==ns.getD j "")=some j:=by
  rw[e,List.findIdx?_eq_some_iff_getElem]
  refine⟨hj,by simp,λk hk=>?_⟩
  have:ns[k]≠ns[j]:=λz=>dS hk ((a7o N.nd).mp z)
  simpa using this
 unfold nR
 rw[f]
 show R.guard _ _=_
 rw[bW (by have:=N.l3;lia)]
theorem yv{P x:Int}{f:List Int}{ns:List Str}{Z:List D}(N:Names ns)(h2:P<=9999)(x0:0<=x)(x1:x<ns.length)(hf:(f.length:Int)=ns.length+1)(ho:c_ P f)(hZ:Z.length<=99000) :
 Fm [.int P,dv ns,.lst ((ns.getD x.toNat ""::f.map aU).map D.str++Z).reverse] = .ok ((Item.set x f).d,Z.reverse):=by
 obtain⟨j,rfl⟩:=pJ x0
 have hj:j<ns.length:=by lia
 have l3:=N.l3
 rw[oI]
 have hm:ns.getD j ""∈ns:=by
  have e:ns.getD j ""=ns[j]:=by simp[KW,hj]
  rw[e];exact pK hj
 generalize Yg:ns.getD j ""=nm at *
 have fl:f.length=ns.length+1:=by lia
 have eF:((f.map aU).map D.str).length=ns.length+1:=by rw[a6,a6,fl]
 generalize hF:(f.map aU).map D.str=F at *
 rw[e8,hF,oK]
 have t1:=yu (d:=.str nm) (T:=F++Z) (by rw[dW];lia)
 have t2:=vA (T:=F++Z) (n:=ns.length+1) (by rw[dW];lia) (by rw[dW];lia)
 rw[List.take_left' eF,List.drop_left' eF] at t2
 refine(o6 (as:=[.int P,dv ns]) (bs:=[]) rfl rfl).trans ?_
 show Fj [.ro (.int P),.ro (dv ns),.own (D.str nm::(F++Z)).reverse,.no,.no]=_
 delta Fj
 refine ly (vz (d:=.str nm) (ws:=(F++Z).reverse) (BL (d:=.lst [.str nm]) (b:=.int 0) (lz (ds:=[.lst (D.str nm::(F++Z)).reverse,.int 1]) (by walk_at "evs") t1) (by walk_at "evs") rfl)) ?_
 show dH _ _ [En.ro (.int P),.ro (dv ns),.own (F++Z).reverse,.ro (.str nm),.no]=_
 refine ly (rG (by
  have:=Yd N.ok hm
  simp only[gT,aj,gV,fy,gK,uT,R.cE,this,AM])) ?_
 have ec:(((ns.length:Nat):Int)+1)=((ns.length+1:Nat):Int):=by lia
 refine ly (X4 (items:=F) (ws:=Z.reverse) (total:=f.map D.int) (lz (ds:=[.lst (F++Z).reverse,.int ((ns.length+1:Nat):Int)]) (by
  unfold dv
  walk_at "evs"
  simp only[a6,ec]
  try walk_at "evs") t2) (by rw[eF];lia) ?_) ?_
 ·rw[<-hF,iu]
  refine jC λv hv=>?_
  have ov:=ho v hv
  have e:=Yb (P:=P) (n:=v) ov.1 ov.2 h2
  show(c9 _) (.str (aU v)) [En.ro (.int P),.ro (dv ns),.own Z.reverse,.ro (.str nm),.no]=_
  simp only[c9,aG,ay,ae,ak,gV,fy,gK,R.cE,fF,e]
  walk_at "evs"
  try rfl
 ·show qf _ _ [En.ro (.int P),.ro (dv ns),.own Z.reverse,.ro (.str nm),.own (f.map D.int)]=_
  refine Fw ?_ rfl
  have ei:xT (gV 1) (gV 3) [En.ro (.int P),.ro (dv ns),.own Z.reverse,.ro (.str nm),.own (f.map D.int)] = .ok (.int (j:Int)):=by
   have:=Ye N hj
   rw[Yg] at this
   simp only[xT,gV,fy,gK,R.cE,dv,strs?_map,this]
  have nr:=z3u f
  unfold aR at nr
  simp only[Item.d,aR,fT,ae,ak,aG,ei]
  walk_at "evs"
  try rfl
theorem N8(d:D)(T:List D):aI (.lst (d::T).reverse) (.int (-1)) = .ok d:=by
 have e:cS (d::T).reverse (-1)=some d:=by
  have h1:(-1+((d::T).reverse.length:Int)).toNat=T.length:=by rw[qY,cx];lia
  rw[V9 (by lia) (by rw[qY,cx];lia),h1,zW,uA (by simp)]
  simp
 simp only[aI,e]
theorem Item.mD{P:Int}{ns:List Str}(h3:ns.length<=3):∀(k:Nat) (its:List Item),Item.aP its<=k->Item.bK P ns.length its->(Item.bE ns its).length<=6*Item.aP its
 | _,[],_,_=>ni _
 | 0,a::r,h,_=>by have:=a.vn;simp only[Item.aP] at h;lia
 | k+1,.set x f::r,h,ho=>by
   simp only[Item.bK,Item.ok] at ho
   simp only[Item.aP,Item.many] at h ⊢
   have:=Item.mD h3 k r (by lia) ho.2
   simp only[Item.bE,Item.ws,dW,cx,a6]
   lia
 | k+1,.again n i::r,h,ho=>by
   simp only[Item.bK,Item.ok] at ho
   simp only[Item.aP,Item.many] at h ⊢
   have h1:=Item.mD h3 k r (by lia) ho.2
   have h2:=Item.mD h3 k i (by lia) ho.1.2.2
   simp only[Item.bE,Item.ws,dW,cx,i_]
   lia
def Stop(Z:List D):Prop:=Z=[]∨∃Z',Z = .str "]"::Z'
noncomputable def vD:G->R Bool:=je (z9m (gV 2)) (gT (aj gM (aj aI (gV 2) (nH (gC (.int 1)))) (gC (.str "]"))))
theorem Yh{Z:List D}(h:Stop Z){e0 e1 e3 e4:En}:vD [e0,e1,.own Z.reverse,e3,e4] = .ok false:=by
 unfold vD
 rcases h with rfl | ⟨Z',rfl⟩
 ·rfl
 ·have q1:z9m (gV 2) [e0,e1,.own (D.str "]"::Z').reverse,e3,e4] = .ok true:=by
   simp only[z9m,gV,gK,uT,R.cE]
   simp
  have q2:gT (aj gM (aj aI (gV 2) (nH (gC (.int 1)))) (gC (.str "]"))) [e0,e1,.own (D.str "]"::Z').reverse,e3,e4] = .ok false:=by
   have k0:dP "]"=true:=by decide +kernel
   simp only[gT,aj,gV,gC,nH,AN,gK,uT,R.cE,N8]
   rw[vC k0 k0,decide_eq_true rfl];rfl
  unfold je
  rw[q1]
  exact q2
theorem N9{x:Str}(hx:dP x=true)(ne:x≠"]"){T:List D}{e0 e1 e3 e4:En}:vD [e0,e1,.own (D.str x::T).reverse,e3,e4] = .ok true:=by
 unfold vD
 have q1:z9m (gV 2) [e0,e1,.own (D.str x::T).reverse,e3,e4] = .ok true:=by
  simp only[z9m,gV,gK,uT,R.cE]
  simp
 have q2:gT (aj gM (aj aI (gV 2) (nH (gC (.int 1)))) (gC (.str "]"))) [e0,e1,.own (D.str x::T).reverse,e3,e4] = .ok true:=by
  have k0:dP "]"=true:=by decide +kernel
  simp only[gT,aj,gV,gC,nH,AN,gK,uT,R.cE,N8]
  rw[vC hx k0,decide_eq_false ne];rfl
 unfold je
 rw[q1]
 exact q2
theorem N_{P:Int}{ns:List Str}{ar:Nat}{φ:List D->R (D×List D)}:∀(its:List Item) (Z:List D) (m:Nat) (ds:List D),its.length<m->ds.length+its.length<=60->Stop Z ->
 (∀a r,∀pre,its=pre++a::r->φ [.int P,dv ns,.lst ((Item.ws ns a).map D.str++((Item.bE ns r).map D.str++Z)).reverse,.int ar] = .ok (a.d,((Item.bE ns r).map D.str++Z).reverse)) ->
 eI vD (qe 4 2 (gZ φ (ae (d8 0) (ae (d8 1) (z8f 2 (ae (d8 3) ak)))))) m [.ro (.int P),.ro (dv ns),.own ((Item.bE ns its).map D.str++Z).reverse,.ro (.int ar),.own ds] = .ok (.nx [.ro (.int P),.ro (dv ns),.own Z.reverse,.ro (.int ar),.own (ds++its.map Item.d)])
 | _,_,0,_,h,_,_,_=>absurd h (C_ _)
 | [],Z,m+1,ds,_,_,hs,_=>by
   rw[Eh]
   simp only[Item.bE,su,pI,kM]
   rw[Yh hs]
   rfl
 | a::r,Z,m+1,ds,h,hl,hs,qm=>by
   have h1:=qm a r [] rfl
   have ih:=N_ r Z m (ds++[a.d]) (by simp only[cx] at h;lia) (by simp only[dW,cx,i_] at hl ⊢;lia) hs (λb q pre e=>qm b q (a::pre) (by rw[e];rfl))
   have ew:(Item.bE ns (a::r)).map D.str++Z=(Item.ws ns a).map D.str++((Item.bE ns r).map D.str++Z):=by rw[Item.bE,jv,pG]
   rw[ew,Eh]
   have hg:vD [.ro (.int P),.ro (dv ns),.own ((Item.ws ns a).map D.str++((Item.bE ns r).map D.str++Z)).reverse,.ro (.int ar),.own ds] = .ok true:=by
    cases a with
    | set x f=>exact N9 (x:="set") (by decide +kernel) (by decide +kernel)
    | again n i=>exact N9 (x:="again") (by decide +kernel) (by decide +kernel)
   rw[hg]
   have hb:qe 4 2 (gZ φ (ae (d8 0) (ae (d8 1) (z8f 2 (ae (d8 3) ak))))) [.ro (.int P),.ro (dv ns),.own ((Item.ws ns a).map D.str++((Item.bE ns r).map D.str++Z)).reverse,.ro (.int ar),.own ds] = .ok (.nx [.ro (.int P),.ro (dv ns),.own ((Item.bE ns r).map D.str++Z).reverse,.ro (.int ar),.own (ds++[a.d])]):=by
    refine XY (ds:=ds) (lz (ds:=[.int P,dv ns,.lst ((Item.ws ns a).map D.str++((Item.bE ns r).map D.str++Z)).reverse,.int ar]) ?_ h1) rfl (by simp only[cx] at hl;lia)
    walk_at "evs"
   rw[sV,if_pos rfl,hb]
   dsimp only
   rw[ih,pG]
   rfl
theorem vE{P:Int}{ns:List Str}(N:Names ns)(h2:P<=9999):∀(k:Nat) (its:List Item) (ar:Nat) (Z:List D),3*Item.bP its+2<=k->ar+Item.bP its<=3->Item.aP its<=60->Item.bK P ns.length its->Stop Z->Z.length+7*Item.aP its<=9000 ->
 kB k [.int P,dv ns,.lst ((Item.bE ns its).map D.str++Z).reverse,.int ar] = .ok (.tup (its.map Item.d),Z.reverse)
 | 0,_,_,_,h,_,_,_,_,_=>by lia
 | 1,_,_,_,h,_,_,_,_,_=>by lia
 | k+2,its,ar,Z,h,XS,hm,ho,hs,hz=>by
   have l3:=N.l3
   have hlen:=Item.nZ its
   refine(o6 (as:=[.int P,dv ns]) (bs:=[.int ar]) rfl rfl).trans ?_
   show BG (mz (k+1)) (mB (k+1)) (kB (k+1)) [.ro (.int P),.ro (dv ns),.own ((Item.bE ns its).map D.str++Z).reverse,.ro (.int ar),.no]=_
   delta BG
   refine ly (A_ (ds:=[]) (by walk_at "evs")) ?_
   have lp:=N_ (P:=P) (ns:=ns) (ar:=ar) (φ:=mB (k+1)) its Z 200 [] (by lia) (by simp only[i_];lia) hs ?_
   ·refine ly lp (Fw ?_ rfl)
    have nI:=rT its
    rw[pI]
    walk_at "evs"
   intro a r pre eq
   have vF:a∈its:=by rw[eq];simp
   have yw:=Item.ji.mp (a7 (Item.bP its)) _ vF
   have cA:=Item.iD.mp ho _ vF
   have Yi:Item.bK P ns.length r:=Item.iD.mpr λb hb=>Item.iD.mp ho b (by rw[eq];simp[hb])
   have Oa:a.many+Item.aP r<=Item.aP its:=by
    rw[eq,Item.nY]
    simp only[Item.aP]
    lia
   have wr:=Item.mD (P:=P) (ns:=ns) l3 _ r (a7 _) Yi
   have lY:((Item.bE ns r).map D.str++Z).length<=6*Item.aP r+Z.length:=by rw[dW,a6];lia
   generalize hY:(Item.bE ns r).map D.str++Z=Y at lY
   refine(o6 (as:=[.int P,dv ns]) (bs:=[.int ar]) rfl rfl).trans ?_
   show BF (mz k) (mB k) (kB k) [.ro (.int P),.ro (dv ns),.own ((Item.ws ns a).map D.str++Y).reverse,.ro (.int ar),.no]=_
   delta BF
   have k1:dP "set"=true:=by decide +kernel
   have k2:dP "again"=true:=by decide +kernel
   cases a with
   | set x f =>
     simp only[Item.ok] at cA
     simp only[Item.many] at Oa
     have es:=yv (P:=P) (x:=x) (f:=f) (ns:=ns) (Z:=Y) N h2 cA.1 cA.2.1 cA.2.2.1 cA.2.2.2 (by lia)
     generalize hV:(ns.getD x.toNat ""::f.map aU).map D.str++Y=V at es
     have eV:(Item.ws ns (.set x f)).map D.str++Y=D.str "set"::V:=by rw[<-hV];rfl
     have lV:V.length<100000:=by
      rw[<-hV,dW,a6,cx,a6]
      have:=cA.2.2.1
      lia
     rw[eV]
     have t1:=yu (d:=.str "set") (T:=V) lV
     refine ly (vz (d:=.str "set") (ws:=V.reverse) (BL (d:=.lst [.str "set"]) (b:=.int 0) (lz (ds:=[.lst (D.str "set"::V).reverse,.int 1]) (by walk_at "evs") t1) (by walk_at "evs") rfl)) ?_
     show nS _ _ _ [En.ro (.int P),.ro (dv ns),.own V.reverse,.ro (.int ar),.ro (.str "set")]=_
     refine N4 ?_ (lz (ds:=[.int P,dv ns,.lst V.reverse]) (by walk_at "evs") es)
     simp only[gT,aj,gV,gC,fy,gK,R.cE]
     rw[vB k1 k1,decide_eq_true rfl];rfl
   | again n i =>
     simp only[Item.ok] at cA
     simp only[Item.many] at Oa
     simp only[Item.deep] at yw
     obtain⟨k,rfl⟩:∃k',k=k'+1:=⟨k-1,by lia⟩
     have ih:=vE N h2 k i (ar+1) (.str "]"::Y) (by lia) (by lia) (by lia) cA.2.2 (.inr ⟨Y,rfl⟩) (by simp only[cx];lia)
     have wi:=Item.mD (P:=P) (ns:=ns) l3 _ i (a7 _) cA.2.2
     have lW:((Item.bE ns i).map D.str++D.str "]"::Y).length<=6*Item.aP i+1+Y.length:=by rw[dW,a6,cx];lia
     generalize hW:(Item.bE ns i).map D.str++D.str "]"::Y=W at ih lW
     have eV:(Item.ws ns (.again n i)).map D.str++Y=D.str "again"::D.str (aU n)::D.str "["::W:=by
      rw[<-hW]
      simp only[Item.ws,e8,jv,su,oK,pG,pI]
     have b1:decide ((3:Int)<=(ar:Int))=false:=decide_eq_false (by lia)
     have en:=tH cA.1 cA.2.1
     have q1:dP "["=true:=by decide +kernel
     have q2:dP "]"=true:=by decide +kernel
     have t1:=yu (d:=.str "again") (T:=D.str (aU n)::D.str "["::W) (by simp only[cx];lia)
     have t2:=yu (d:=.str (aU n)) (T:=D.str "["::W) (by simp only[cx];lia)
     have t3:=N5 (x:="[") (T:=W) q1 (by lia)
     have t4:=N5 (x:="]") (T:=Y) q2 (by lia)
     have ea:(ar:Int)+1=((ar+1:Nat):Int):=by lia
     have nI:=rT i
     have eg:mz (k+1) [.int P,dv ns,.lst (D.str (aU n)::D.str "["::W).reverse,.int ar] = .ok ((Item.again n i).d,Y.reverse):=by
      refine(o6 (as:=[.int P,dv ns]) (bs:=[.int ar]) rfl rfl).trans ?_
      show BE (mz k) (mB k) (kB k) [.ro (.int P),.ro (dv ns),.own (D.str (aU n)::D.str "["::W).reverse,.ro (.int ar),.no,.no]=_
      delta BE
      refine ly (rG (by walk_at "evs";rw[b1])) ?_
      refine ly (vz (d:=.int n) (ws:=(D.str "["::W).reverse) (X1 (d:=.str (aU n)) (BL (d:=.lst [.str (aU n)]) (b:=.int 0) (lz (ds:=[.lst (D.str (aU n)::D.str "["::W).reverse,.int 1]) (by walk_at "evs") t2) (by walk_at "evs") rfl) en)) ?_
      show dH _ _ [En.ro (.int P),.ro (dv ns),.own (D.str "["::W).reverse,.ro (.int ar),.ro (.int n),.no]=_
      refine ly (N3 (lz (ds:=[.lst (D.str "["::W).reverse,.str "["]) (by walk_at "evs") t3)) ?_
      show dH _ _ [En.ro (.int P),.ro (dv ns),.own W.reverse,.ro (.int ar),.ro (.int n),.no]=_
      refine ly (vz (lz (ds:=[.int P,dv ns,.lst W.reverse,.int ((ar+1:Nat):Int)]) (by walk_at "evs";simp only[ea];try walk_at "evs") ih)) ?_
      show dH _ _ [En.ro (.int P),.ro (dv ns),.own (D.str "]"::Y).reverse,.ro (.int ar),.ro (.int n),.ro (.tup (i.map Item.d))]=_
      refine ly (N3 (lz (ds:=[.lst (D.str "]"::Y).reverse,.str "]"]) (by walk_at "evs") t4)) ?_
      refine Fw ?_ rfl
      show fT _ [En.ro (.int P),.ro (dv ns),.own Y.reverse,.ro (.int ar),.ro (.int n),.ro (.tup (i.map Item.d))]=_
      walk_at "evs"
     rw[eV]
     refine ly (vz (d:=.str "again") (ws:=(D.str (aU n)::D.str "["::W).reverse) (BL (d:=.lst [.str "again"]) (b:=.int 0) (lz (ds:=[.lst (D.str "again"::D.str (aU n)::D.str "["::W).reverse,.int 1]) (by walk_at "evs") t1) (by walk_at "evs") rfl)) ?_
     show nS _ _ _ [En.ro (.int P),.ro (dv ns),.own (D.str (aU n)::D.str "["::W).reverse,.ro (.int ar),.ro (.str "again")]=_
     have ne:("again":Str)≠"set":=by decide +kernel
     refine X2 ?_ (N4 ?_ (lz (ds:=[.int P,dv ns,.lst (D.str (aU n)::D.str "["::W).reverse,.int ar]) (by walk_at "evs") eg))
     ·simp only[gT,aj,gV,gC,fy,gK,R.cE]
      rw[vB k2 k1,decide_eq_false ne];rfl
     ·simp only[gT,aj,gV,gC,fy,gK,R.cE]
      rw[vB k2 k2,decide_eq_true rfl];rfl
def bQ(l:Bool)(ns:List Str):D:=fH l (ns.map D.str)
theorem tI{n:Int}(h0:0<=n)(h1:n<=10^30):lh [.int n] = .ok (.str (aU n)):=by
 show R.guard _ _=_
 rw[bW]
 ·rfl
 ·obtain⟨m,rfl⟩:=pJ h0
  rw[S_]
  by_cases q:m=0
  ·subst q;decide
  ·rw[Nat.log2_lt q]
   have h2:m<=10^30:=by
    have:(m:Int)<=((10^30:Nat):Int):=by simpa using h1
    exact Int.ofNat_le.mp this
   exact KC h2 (by decide +kernel)
theorem vG{P:Int}{f:List Int}(hP:P<=9999)(ho:c_ P f)(hl:f.length<=100):yt [aR f] = .ok ((f.map aU).map D.str):=by
 refine s8 rfl ?_
 delta NZ
 refine xQ ?_
 show cR _ _ [En.ro (aR f)]=_
 unfold cR
 have nf:D.a_ (f.map D.int)=true:=k_ f
 rw[show fW (gV 0) [En.ro (aR f)] = .ok (f.map D.int) by unfold aR;walk_at "evs"]
 show R.guard _ _=_
 rw[bW (by rw[a6];lia),iu]
 refine jC λv hv=>?_
 have ov:=ho v hv
 have e:=tI ov.1 (show v<=10^30 by lia)
 simp only[c9,aG,ay,ae,ak,gV,fy,R.cE,e]
 walk_at "evs"
 try rfl
theorem Ob{ns:List Str}{j:Nat}(hj:j<ns.length)(l:Bool):aI (bQ l ns) (.int (j:Int)) = .ok (.str (ns.getD j "")):=by
 have e:cS (ns.map D.str) (j:Int)=some (.str (ns.getD j "")):=by
  rw[rA,eZ]
  simp[KW,hj]
 unfold bQ fH
 cases l<;>simp only[if_true,if_false,aI,e,wU]
theorem Yj{P:Int}{ns:List Str}{l:Bool}{a:Item}{φ:List D->R (List D)}{ψ:List D->R (List D)}(h3:ns.length<=3)(hP:P<=9999)(ho:a.ok P ns.length)(hm:a.many<=60)
 (qm:∀n i,a = .again n i->φ [bQ l ns,.tup (i.map Item.d)] = .ok ((Item.bE ns i).map D.str)):jF 2 2 (BK φ ψ) [bQ l ns,a.d] = .ok ((Item.ws ns a).map D.str):=by
 refine s8 rfl ?_
 delta BK
 cases a with
 | set x f =>
   simp only[Item.ok] at ho
   obtain⟨j,rfl⟩:=pJ ho.1
   have hj:j<ns.length:=by lia
   have e1:=Ob (ns:=ns) hj l
   have e2:=vG hP ho.2.2.2 (by have:=ho.2.2.1;lia)
   refine Ww (jG (by simp only[Item.d];walk_at "evs") (xQ ?_))
   have hl:((f.map aU).map D.str).length<=4:=by rw[a6,a6];have:=ho.2.2.1;lia
   show iC _ _ [En.ro (bQ l ns),.ro (Item.set (j:Int) f).d]=_
   have q1:eA (ae (gC (.str "set")) (ae (aj aI (gV 0) (aj aI (gV 1) (gC (.int 1)))) ak)) [En.ro (bQ l ns),.ro (Item.set (j:Int) f).d] = .ok [.str "set",.str (ns.getD j "")]:=by
    have n2:[D.str "set",D.str (ns.getD j "")].length<=1000/\D.a_ [D.str "set",D.str (ns.getD j "")]=true:=⟨by simp,iE ["set",ns.getD j ""]⟩
    simp only[Item.d,eA,ae,ak,aj,gV,gC,fy,gK,R.cE,tF,e1,bW n2]
   have q2:fV yt (ae (aj aI (gV 1) (gC (.int 2))) ak) [En.ro (bQ l ns),.ro (Item.set (j:Int) f).d] = .ok ((f.map aU).map D.str):=by
    simp only[Item.d,fV,ae,ak,aj,gV,gC,fy,gK,R.cE,vo,e2,bW (iE (f.map aU))]
   unfold iC
   rw[q1,q2]
   show R.guard _ _=_
   rw[bW (by simp only[cx,i_];lia)]
   simp only[Item.ws,oI,e8]
   rfl
 | again n i =>
   simp only[Item.ok] at ho
   simp only[Item.many] at hm
   have e1:=qm n i rfl
   have e2:=tI ho.1 ho.2.1
   have wi:=Item.mD (P:=P) (ns:=ns) h3 _ i (a7 _) ho.2.2
   refine dB (by simp only[Item.d];walk_at "evs") (xQ ?_)
   show iC _ _ [En.ro (bQ l ns),.ro (Item.again n i).d]=_
   have q1:eA (ae (gC (.str "again")) (ae (ay lh (ae (aj aI (gV 1) (gC (.int 1))) ak)) (ae (gC (.str "[")) ak))) [En.ro (bQ l ns),.ro (Item.again n i).d] = .ok [.str "again",.str (aU n),.str "["]:=by
    have n2:[D.str "again",D.str (aU n),D.str "["].length<=1000/\D.a_ [D.str "again",D.str (aU n),D.str "["]=true:=⟨by simp,iE ["again",aU n,"["]⟩
    simp only[Item.d,eA,ay,ae,ak,aj,gV,gC,fy,gK,R.cE,tF,e2,bW n2]
   have q2:fV φ (ae (gV 0) (ae (aj aI (gV 1) (gC (.int 2))) ak)) [En.ro (bQ l ns),.ro (Item.again n i).d] = .ok ((Item.bE ns i).map D.str):=by
    simp only[Item.d,Item.ds_map,fV,ae,ak,aj,gV,gC,fy,gK,R.cE,vo,e1,bW (iE (Item.bE ns i))]
   have q3:eA (ae (gC (.str "]")) ak) [En.ro (bQ l ns),.ro (Item.again n i).d] = .ok [.str "]"]:=by
    have n2:[D.str "]"].length<=1000/\D.a_ [D.str "]"]=true:=⟨by simp,iE ["]"]⟩
    simp only[eA,ae,ak,gC,R.cE,bW n2]
   have lw:((Item.bE ns i).map D.str).length<=360:=by rw[a6];lia
   have q4:iC (eA (ae (gC (.str "again")) (ae (ay lh (ae (aj aI (gV 1) (gC (.int 1))) ak)) (ae (gC (.str "[")) ak)))) (fV φ (ae (gV 0) (ae (aj aI (gV 1) (gC (.int 2))) ak))) [En.ro (bQ l ns),.ro (Item.again n i).d] = .ok ([.str "again",.str (aU n),.str "["]++(Item.bE ns i).map D.str):=by
    unfold iC
    rw[q1,q2]
    show R.guard _ _=_
    rw[bW (by simp only[cx,i_];lia)]
   rw[iC,q4,q3]
   show R.guard _ _=_
   rw[bW (by simp only[dW,cx,i_];lia)]
   simp only[Item.ws,e8,jv,su,oK,pI]
theorem BM(ns:List Str):∀(its:List Item) (j:Nat) (a:Item),its[j]? = some a->Item.bE ns (its.take (j+1))=Item.bE ns (its.take j)++Item.ws ns a
 | [],j,a,h=>by cases j<;>cases h
 | b::r,0,a,h=>by cases h;simp[Item.bE]
 | b::r,j+1,a,h=>by
   rw[a8u,a8u,Item.bE,Item.bE,BM ns r j a (by simpa using h),pG]
theorem Oc{P:Int}{ns:List Str}(h3:ns.length<=3){its:List Item}(ho:Item.bK P ns.length its)(hm:Item.aP its<=60)(j:Nat):(Item.bE ns (its.take j)).length<=360:=by
 have h1:Item.bK P ns.length (its.take j):=Item.iD.mpr λa ha=>Item.iD.mp ho a (Dh ha)
 have h2:Item.aP (its.take j)<=Item.aP its:=by
  have:=Item.nY (a:=its.take j) (b:=its.drop j)
  rw[KQ] at this
  lia
 have:=Item.mD (P:=P) (ns:=ns) h3 _ (its.take j) (a7 _) h1
 lia
theorem vH{P:Int}{ns:List Str}{l:Bool}(h3:ns.length<=3)(hP:P<=9999):∀(k:Nat) (its:List Item),2*Item.bP its+2<=k->Item.aP its<=60->Item.bK P ns.length its->o_ k [bQ l ns,.tup (its.map Item.d)] = .ok ((Item.bE ns its).map D.str)
 | 0,_,h,_,_=>by lia
 | 1,_,h,_,_=>by lia
 | k+2,its,h,hm,ho=>by
   show jF 2 4 (BJ (o_ (k+1)) (rX (k+1))) _=_
   refine s8 rfl ?_
   delta BJ
   have hlen:=Item.nZ its
   have n0:D.a_ []=true:=rfl
   refine kz (ds:=[]) (by walk_at "evs") ?_
   refine u0 (ds:=its.map Item.d) (λj Γ=>∃(x3:En),Γ=[.ro (bQ l ns),.ro (.tup (its.map Item.d)),.own ((Item.bE ns (its.take j)).map D.str),x3]) (by walk_at "evs") ⟨_,rfl⟩ ?_ ?_
   ·rintro j d Γ hd ⟨x3,rfl⟩
    obtain⟨a,ea,rfl,ha⟩:=NK hd
    have cA:=Item.iD.mp ho _ ha
    have yw:=Item.ji.mp (a7 (Item.bP its)) _ ha
    have vF:=Item.rR ha
    have e:rX (k+1) [bQ l ns,a.d] = .ok ((Item.ws ns a).map D.str):=by
     refine Yj h3 hP cA (by lia) λn i e=>?_
     subst e
     simp only[Item.ok] at cA
     simp only[Item.deep] at yw
     simp only[Item.many] at vF
     exact vH h3 hP k i (by lia) (by lia) cA.2.2
    refine .nx (Wv (ds:=(Item.bE ns (its.take j)).map D.str) (es:=(Item.ws ns a).map D.str) rfl ?_ ?_) ⟨.ro a.d,?_⟩
    ·show fV _ _ [En.ro (bQ l ns),.ro (.tup (its.map Item.d)),.own ((Item.bE ns (its.take j)).map D.str),.ro a.d]=_
     simp only[fV,ae,ak,gV,fy,gK,R.cE,e,bW (iE (Item.ws ns a))]
    ·have q1:=Oc (P:=P) h3 ho hm (j+1)
     rw[BM ns its j a ea,dW] at q1
     rw[a6,a6]
     lia
    ·rw[BM ns its j a ea,jv]
     rfl
   ·rintro Γ ⟨x3,rfl⟩
    rw[a6,wN]
    exact MI rfl
def g6(w:Str):Prop:=w.length<=31/\∀c∈w.cps.toList,c≠32/\c≠10
structure n7 (ns:List Str):Prop extends Names ns where
 w1:∀x∈ns,1<=x.length/\x.length<=8
 lt:∀x∈ns,∀c∈x.cps.toList,97<=c/\c<=122
 nk:∀x∈ns,x≠"set"/\x≠"again"
theorem BN{n:Int}(h0:0<=n)(h1:n<=10^30):g6 (aU n):=⟨vd h0 h1,λc hc=>by have:=tj h0 c hc;lia⟩
theorem Fy{ns:List Str}(N:n7 ns){x:Str}(hx:x∈ns):g6 x:=⟨by have:=(N.w1 x hx).2;lia,λc hc=>by have:=N.lt x hx c hc;lia⟩
theorem Yk:g6 "set":=⟨by decide +kernel,by decide +kernel⟩
theorem Yl:g6 "again":=⟨by decide +kernel,by decide +kernel⟩
theorem Ym:g6 "[":=⟨by decide +kernel,by decide +kernel⟩
theorem Yn:g6 "]":=⟨by decide +kernel,by decide +kernel⟩
theorem Yo:g6 "prime":=⟨by decide +kernel,by decide +kernel⟩
theorem Yp:g6 "boxes":=⟨by decide +kernel,by decide +kernel⟩
theorem Yq:g6 "do":=⟨by decide +kernel,by decide +kernel⟩
theorem Yr{ns:List Str}{j:Nat}(hj:j<ns.length):ns.getD j ""∈ns:=by
 have e:ns.getD j ""=ns[j]:=by simp[KW,hj]
 rw[e];exact pK hj
theorem BO{P:Int}{ns:List Str}(N:n7 ns)(hP:P<=9999):∀(k:Nat) (its:List Item),Item.aP its<=k->Item.bK P ns.length its->∀w∈Item.bE ns its,g6 w
 | _,[],_,_,w,hw=>by simp[Item.bE] at hw
 | 0,a::r,h,_,_,_=>by have:=a.vn;simp only[Item.aP] at h;lia
 | k+1,.set x f::r,h,ho,w,hw=>by
   simp only[Item.bK,Item.ok] at ho
   simp only[Item.aP,Item.many] at h
   simp only[Item.bE,Item.ws,oK,kP,S9] at hw
   rcases hw with rfl | rfl | hw | hw
   ·exact Yk
   ·exact Fy N (Yr (by lia))
   ·obtain⟨v,hv,rfl⟩:=List.mem_map.mp hw
    have:=ho.1.2.2.2 v hv
    exact BN this.1 (by lia)
   ·exact BO N hP k r (by lia) ho.2 w hw
 | k+1,.again n i::r,h,ho,w,hw=>by
   simp only[Item.bK,Item.ok] at ho
   simp only[Item.aP,Item.many] at h
   simp only[Item.bE,Item.ws,oK,kP,S9,pG,oM,or_false,false_or] at hw
   rcases hw with rfl | rfl | rfl | hw | rfl | hw
   ·exact Yl
   ·exact BN ho.1.1 ho.1.2.1
   ·exact Ym
   ·exact BO N hP k i (by lia) ho.1.2.2 w hw
   ·exact Yn
   ·exact BO N hP k r (by lia) ho.2 w hw
theorem Fz:(" ":Str)=one 32:=by decide +kernel
theorem BP:("\n":Str)=one 10:=by decide +kernel
theorem FA(s:Nat):∀{xs:List Str} {c:Nat},c∈(kN (one s) xs).cps.toList->c=s∨∃x∈xs,c∈x.cps.toList
 | [],c,h=>by simp[kN,Str.empty] at h
 | [x],c,h=>.inr ⟨x,fi ..,h⟩
 | x::y::r,c,h=>by
   rw[ti] at h
   rcases List.mem_append.mp h with h | h
   ·exact .inr ⟨x,fi ..,h⟩
   ·rcases List.mem_cons.mp h with h | h
    ·exact .inl h
    ·rcases FA s h with h | ⟨z,hz,hc⟩
     ·exact .inl h
     ·exact .inr ⟨z,dJ _ hz,hc⟩
def cU(ws:List Str):Str:=oJ " " ws
theorem vI(ws:List Str):cU ws=kN (one 32) ws:=by unfold cU;rw[Fz];exact KL _ _
theorem FC{B:Nat}:∀(xs:List Str),(∀y∈xs,y.length<=B)->(xs.map (·.length)).sum<=xs.length*B
 | [],_=>by simp
 | y::r,h=>by
   have h1:=h y (fi ..)
   have h2:=FC r λz hz=>h z (dJ _ hz)
   simp only[e8,List.sum_cons,cx,Nat.succ_mul]
   lia
theorem yx{ws:List Str}(h:∀w∈ws,g6 w):(cU ws).length<=32*ws.length:=by
 rw[vI]
 have h1:=a8v (one 32) ws
 have h2:=FC (B:=31) ws λy hy=>(h y hy).1
 have h3:(one 32).length=1:=rfl
 rw[h3] at h1
 lia
theorem yy{ws:List Str}(h:∀w∈ws,g6 w)(hl:ws.length<=1000):sC " " ws=true:=by
 unfold sC
 rw[Fz]
 have h3:(one 32).length=1:=rfl
 rw[a8w (B:=31) (λy hy=>(h y hy).1) (by rw[h3];lia)];rfl
theorem Ys{ws:List Str}(h:∀w∈ws,g6 w)(h0:ws≠[]):pH (cU ws) " "=ws:=by
 unfold cU
 rw[Fz]
 exact MQ 32 h0 λx hx z=>((h x hx).2 32 z).1 rfl
theorem Yt{ws:List Str}(h:∀w∈ws,g6 w):10 ∉ (cU ws).cps.toList:=λz=>by
 rw[vI] at z
 rcases FA 32 z with e | ⟨x,hx,hc⟩
 ·exact absurd e (by decide)
 ·exact((h x hx).2 10 hc).2 rfl
def gO(rs:List (List Str)):Str:=oJ "\n" (rs.map cU)
theorem Yu{rs:List (List Str)}(h:∀ws∈rs,ws.length<=400/\∀w∈ws,g6 w)(hl:rs.length<=3):sC "\n" (rs.map cU)=true:=by
 unfold sC
 rw[BP]
 have h3:(one 10).length=1:=rfl
 rw[a8w (B:=12800) (λy hy=>by
  obtain⟨ws,hw,rfl⟩:=List.mem_map.mp hy
  have:=yx (h ws hw).2
  have:=(h ws hw).1
  lia) (by rw[h3,a6];lia)];rfl
theorem Yv{rs:List (List Str)}(h:∀ws∈rs,ws.length<=400/\∀w∈ws,g6 w)(hl:rs.length<=3):(gO rs).length<=50000:=by
 unfold gO
 have e:oJ "\n" (rs.map cU)=kN (one 10) (rs.map cU):=by rw[BP];exact KL _ _
 rw[e]
 have h1:=a8v (one 10) (rs.map cU)
 have h2:=FC (B:=12800) (rs.map cU) λy hy=>by
  obtain⟨ws,hw,rfl⟩:=List.mem_map.mp hy
  have:=yx (h ws hw).2
  have:=(h ws hw).1
  lia
 have h3:(one 10).length=1:=rfl
 rw[h3] at h1
 rw[a6] at h1 h2
 lia
theorem Yw{rs:List (List Str)}(h:∀ws∈rs,ws.length<=400/\∀w∈ws,g6 w)(h0:rs≠[]):pH (gO rs) "\n"=rs.map cU:=by
 unfold gO
 rw[BP]
 refine MQ 10 (by simpa using h0) λx hx=>?_
 obtain⟨ws,hw,rfl⟩:=List.mem_map.mp hx
 exact Yt (h ws hw).2
def dw(P:Int)(ns:List Str)(its:List Item):List (List Str):=[["prime",aU P],"boxes"::ns,"do"::Item.bE ns its]
theorem FD{P:Int}{ns:List Str}{its:List Item}(N:n7 ns)(h0:0<=P)(hP:P<=9999)(hm:Item.aP its<=60)(ho:Item.bK P ns.length its):∀ws∈dw P ns its,ws.length<=400/\∀w∈ws,g6 w:=by
 intro ws hw
 have l3:=N.l3
 have wl:=Item.mD (P:=P) (ns:=ns) l3 _ its (a7 _) ho
 simp only[dw,kP,oM,or_false] at hw
 rcases hw with rfl | rfl | rfl
 ·refine⟨by simp,λw hw=>?_⟩
  simp only[kP,oM,or_false] at hw
  rcases hw with rfl | rfl
  ·exact Yo
  ·exact BN h0 (by lia)
 ·refine⟨by simp only[cx];lia,λw hw=>?_⟩
  rcases List.mem_cons.mp hw with rfl | hw
  ·exact Yp
  ·exact Fy N hw
 ·refine⟨by simp only[cx];lia,λw hw=>?_⟩
  rcases List.mem_cons.mp hw with rfl | hw
  ·exact Yq
  ·exact BO N hP _ its (a7 _) ho w hw
theorem vJ{sep:Str}{ws:List Str}(h:sC sep ws=true){g:G->R D}{Γ:G}(hg:g Γ = .ok (.lst (ws.map D.str))):nP sep g Γ = .ok (.str (oJ sep ws)):=by
 unfold nP
 rw[hg,R.cE]
 dsimp only
 rw[strs?_map]
 dsimp only
 rw[bW h]
theorem tJ{gs:G->R (List D)}{Γ:G}{ws:List Str}(h:gs Γ = .ok (ws.map D.str))(hl:ws.length<=1000):eA gs Γ = .ok (ws.map D.str):=by
 unfold eA
 rw[h,R.cE,bW ⟨by rw[a6];exact hl,iE ws⟩]
theorem vK{ga gb:G->R (List D)}{Γ:G}{us ws:List Str}(h1:ga Γ = .ok (us.map D.str))(h2:gb Γ = .ok (ws.map D.str))(hl:us.length+ws.length<=1000):iC ga gb Γ = .ok ((us++ws).map D.str):=by
 unfold iC
 rw[h1,h2,R.cE,R.cE,bW (by rw[a6,a6];exact hl),jv]
theorem Yx{ns:List Str}{l:Bool}{g:G->R D}{Γ:G}(h:g Γ = .ok (bQ l ns)):jZ g Γ = .ok (ns.map D.str):=by
 unfold jZ
 rw[h,R.cE]
 unfold bQ fH
 cases l<;>simp only[if_true,if_false,wU,Ed,bW (iE ns)]
theorem tK{φ:List D->R (List D)}{gs:G->R (List D)}{Γ:G}{ds:List D}{ws:List Str}(h:gs Γ = .ok ds)(e:φ ds = .ok (ws.map D.str)):fV φ gs Γ = .ok (ws.map D.str):=by
 unfold fV
 rw[h,R.cE,e,R.cE,bW (iE ws)]
theorem jK{gs:G->R (List D)}{Γ:G}{ds:List D}(h:gs Γ = .ok ds):gL gs Γ = .ok (.lst ds):=by unfold gL;rw[h];rfl
theorem bX{g:G->R D}{gs:G->R (List D)}{Γ:G}{d:D}{ds:List D}(h:g Γ = .ok d)(h2:gs Γ = .ok ds):ae g gs Γ = .ok (d::ds):=by unfold ae;rw[h,h2];rfl
theorem dr{φ:List D->R D}{gs:G->R (List D)}{Γ:G}{ds:List D}{r:R D}(h:gs Γ = .ok ds)(e:φ ds=r):ay φ gs Γ=r:=by unfold ay;rw[h];exact e
theorem fZ{g:G->R D}{Γ:G}{d:D}(h:g Γ = .ok d)(n:d.cu=true):aG g Γ = .ok d:=by unfold aG;rw[h,R.cE,bW n]
theorem Od{gs:G->R (List D)}{Γ:G}{ds:List D}(h:gs Γ = .ok ds)(hl:ds.length<=1000):y3b gs Γ = .ok ds:=by unfold y3b;rw[h,R.cE,bW hl]
theorem yz{P:Int}{ns:List Str}{its:List Item}{l:Bool}(N:n7 ns)(h0:0<=P)(hP:P<=9999)(hm:Item.aP its<=60)(hd:Item.bP its<=4)(ho:Item.bK P ns.length its):Fv [.int P,bQ l ns,.tup (its.map Item.d)] = .ok (.str (gO (dw P ns its))):=by
 have l3:=N.l3
 have n8:=FD N h0 hP hm ho
 have wl:=Item.mD (P:=P) (ns:=ns) l3 _ its (a7 _) ho
 have ew:=vH (P:=P) (ns:=ns) (l:=l) l3 hP 12 its (by lia) hm ho
 have es:=tI h0 (show P<=10^30 by lia)
 refine cF rfl ?_
 delta N2
 refine cV (d:=.lst ((dw P ns its).map λws=>.lst (ws.map D.str))) ?_ ?_
 ·show gL _ [En.ro (.int P),.ro (bQ l ns),.ro (.tup (its.map Item.d)),.no]=_
  refine jK (Od (bX ?_ (bX ?_ (bX ?_ rfl))) (by simp[dw]))
  ·refine jK (ds:=(["prime",aU P]:List Str).map D.str) (Od (bX (fZ rfl rfl) (bX (fZ (dr (bX rfl rfl) es) rfl) rfl)) (by simp))
  ·refine jK (ds:=(("boxes":Str)::ns).map D.str) (vK (us:=["boxes"]) (tJ (ws:=["boxes"]) rfl (by simp)) (Yx rfl) (by simp only[cx,i_];lia))
  ·refine jK (ds:=(("do":Str)::Item.bE ns its).map D.str) (vK (us:=["do"]) (tJ (ws:=["do"]) rfl (by simp)) (tK (bX rfl (bX rfl rfl)) ew) (by simp only[cx,i_];lia))
 ·refine b7 ?_
  show nP _ _ [En.ro (.int P),.ro (bQ l ns),.ro (.tup (its.map Item.d)),.ro (.lst ((dw P ns its).map λws=>.lst (ws.map D.str)))]=_
  refine vJ (ws:=(dw P ns its).map cU) (Yu n8 (by simp[dw])) (jK ?_)
  unfold cR
  rw[show ku (d8 3) [En.ro (.int P),.ro (bQ l ns),.ro (.tup (its.map Item.d)),.ro (.lst ((dw P ns its).map λws=>.lst (ws.map D.str)))] = .ok ((dw P ns its).map λws=>.lst (ws.map D.str)) from rfl]
  show R.guard _ _=_
  rw[bW (by simp[dw]),iu]
  refine jC λws hw=>?_
  have:=vJ (sep:=" ") (ws:=ws) (yy (n8 ws hw).2 (by have:=(n8 ws hw).1;lia)) (g:=gV 0) (Γ:=En.ro (.lst (ws.map D.str))::[En.ro (.int P),.ro (bQ l ns),.ro (.tup (its.map Item.d)),.ro (.lst ((dw P ns its).map λws=>.lst (ws.map D.str)))]) rfl
  have e2:=fZ this rfl
  show(aG (nP " " (gV 0)) _>>=λe=>R.ok (some e))=_
  rw[e2]
  rfl
theorem Oe{ga gb:G->R D}{Γ:G}{us ws:List Str}(h1:ga Γ = .ok (.lst (us.map D.str)))(h2:gb Γ = .ok (.lst (ws.map D.str)))(hl:us.length+ws.length<=1000):p9 ga gb Γ = .ok ((us++ws).map D.str):=by
 unfold p9
 rw[h1,h2,R.cE,R.cE]
 show R.guard _ _=_
 rw[<-jv,bW ⟨by rw[a6,a6];exact hl,iE _⟩]
theorem Of{P:Int}{ns:List Str}{l:Bool}(h3:ns.length<=3)(hP:P<=9999):∀(k:Nat) (its:List Item),Item.bP its<k->Item.aP its<=60->Item.bK P ns.length its->rV k [bQ l ns,.tup (its.map Item.d)] = .ok ((Item.bE ns its).map D.str)
 | 0,_,h,_,_=>by lia
 | k+1,its,h,hm,ho=>by
   show jF 2 4 (BC (rV k)) _=_
   refine s8 rfl ?_
   delta BC
   refine kz (ds:=([]:List Str).map D.str) (tJ (ws:=[]) rfl (by simp)) ?_
   refine u0 (ds:=its.map Item.d) (λj Γ=>∃(x3:En),Γ=[.ro (bQ l ns),.ro (.tup (its.map Item.d)),.own ((Item.bE ns (its.take j)).map D.str),x3]) rfl ⟨_,rfl⟩ ?_ ?_
   ·rintro j d Γ hd ⟨x3,rfl⟩
    obtain⟨a,ea,rfl,ha⟩:=NK hd
    have cA:=Item.iD.mp ho _ ha
    have yw:=Item.ji.mp (a7 (Item.bP its)) _ ha
    have vF:=Item.rR ha
    have q1:=Oc (P:=P) h3 ho hm (j+1)
    have q0:=BM ns its j a ea
    rw[q0,dW] at q1
    show Ends (b5 _ _ _ [En.ro (bQ l ns),.ro (.tup (its.map Item.d)),.own ((Item.bE ns (its.take j)).map D.str),.ro a.d]) _
    generalize hU:Item.bE ns (its.take j)=U at q0 q1
    cases a with
    | set x f =>
      simp only[Item.ok] at cA
      obtain⟨i,rfl⟩:=pJ cA.1
      have e1:=Ob (ns:=ns) (show i<ns.length by lia) l
      rw[jG (by simp only[Item.d];walk_at "evs") rfl]
      refine .nx (A_ (ds:=(U++Item.ws ns (.set (i:Int) f)).map D.str) ?_) ⟨_,by rw[q0];rfl⟩
      have yA:U++Item.ws ns (.set (i:Int) f)=(U++([("set":Str),ns.getD i ""]:List Str))++f.map aU:=by simp only[Item.ws,oI,pG,oK,pI]
      rw[<-dW,yA] at q1
      rw[yA]
      simp only[dW,cx,i_,a6] at q1
      refine vK (Oe rfl (jK (tJ (ws:=["set",ns.getD i ""]) (bX rfl (bX ?_ rfl)) (by simp))) (by simp only[cx,i_];lia)) ?_ (by simp only[dW,cx,i_,a6];lia)
      ·simp only[Item.d,aj,gV,gC,fy,gK,R.cE,tF,e1]
      ·unfold cR
       have nf:D.a_ (f.map D.int)=true:=k_ f
       rw[show fW (aj aI (gV 3) (gC (.int 2))) [En.ro (bQ l ns),.ro (.tup (its.map Item.d)),.own (U.map D.str),.ro (Item.set (i:Int) f).d] = .ok (f.map D.int) by
        simp only[Item.d,fW,aj,gV,gC,fy,gK,R.cE,vo,aR,sT,bW nf]]
       show R.guard _ _=_
       rw[bW (by rw[a6];lia),iu]
       refine jC λv hv=>?_
       have ov:=cA.2.2.2 v hv
       have e:=tI ov.1 (show v<=10^30 by lia)
       simp only[c9,aG,ay,ae,ak,gV,fy,R.cE,e]
       walk_at "evs"
       try rfl
    | again n i =>
      simp only[Item.ok] at cA
      simp only[Item.deep] at yw
      simp only[Item.many] at vF
      have ih:=Of (l:=l) h3 hP k i (by lia) (by lia) cA.2.2
      have e2:=tI cA.1 cA.2.1
      rw[El (by simp only[Item.d];walk_at "evs") rfl]
      refine .nx (A_ (ds:=(U++Item.ws ns (.again n i)).map D.str) ?_) ⟨_,by rw[q0];rfl⟩
      have yA:U++Item.ws ns (.again n i)=((U++([("again":Str),aU n,"["]:List Str))++Item.bE ns i)++([("]":Str)]:List Str):=by simp only[Item.ws,pG,oK,pI]
      rw[<-dW,yA] at q1
      rw[yA]
      simp only[dW,cx,i_] at q1
      refine vK (vK (Oe rfl (jK (tJ (ws:=["again",aU n,"["]) (bX rfl (bX ?_ (bX rfl rfl))) (by simp))) (by simp only[cx,i_];lia)) (tK (bX rfl (bX ?_ rfl)) ih) (by simp only[dW,cx,i_];lia)) (tJ (ws:=["]"]) rfl (by simp)) (by simp only[dW,cx,i_];lia)
      ·refine dr (ds:=[.int n]) (bX ?_ rfl) e2
       simp only[Item.d,aj,gV,gC,fy,gK,R.cE,tF]
      ·simp only[Item.d,Item.ds_map,aj,gV,gC,fy,gK,R.cE,vo]
   ·rintro Γ ⟨x3,rfl⟩
    rw[a6,wN]
    exact MI rfl
theorem Yy(x:Str):("prime ":Str)++x=cU ["prime",x]:=by
 rw[vI]
 show _="prime"++one 32++x
 rw[show("prime":Str)++one 32="prime " by decide +kernel]
theorem Og{sep x:Str}{g:G->R D}{Γ:G}{ws:List Str}(h:g Γ = .ok (.str x))(hx:x.length<=100000)(hs:(sep.length==0)=false)(e:pH x sep=ws):xS sep g Γ = .ok (ws.map D.str):=by
 unfold xS
 rw[h,R.cE]
 dsimp only
 rw[bW ⟨hx,hs⟩,e]
theorem yB{g:G->R Bool}{Γ:G}{b:Bool}(h:g Γ = .ok b):jB g Γ = .ok (!b):=by unfold jB;rw[h];rfl
theorem BQ{a b:G->R Bool}{Γ:G}{r:R Bool}(h:a Γ = .ok false)(h2:b Γ=r):nG a b Γ=r:=by unfold nG;rw[h];exact h2
theorem lA{g:G->R D}{Γ:G}{b:Bool}(h:g Γ = .ok (.bl b)):gT g Γ = .ok b:=by unfold gT;rw[h];rfl
theorem fj{φ:D->D->R D}{ga gb:G->R D}{Γ:G}{a b:D}{r:R D}(h1:ga Γ = .ok a)(h2:gb Γ = .ok b)(e:φ a b=r):aj φ ga gb Γ=r:=by unfold aj;rw[h1,h2];exact e
theorem FE{first:Str}{ws:List Str}(hf:dP first=true)(hp:∀w∈first::ws,g6 w)(hl:ws.length<=1000):vw [.str (cU (first::ws)),.str first] = .ok (ws.map D.str):=by
 refine s8 rfl ?_
 delta NX
 have rl:=yx hp
 simp only[cx] at rl
 refine kz (ds:=(first::ws).map D.str) (Og rfl (by lia) (by decide +kernel) (Ys hp (by simp))) ?_
 refine dB (lA (fj (a:=.str first) (b:=.str first) (fj (a:=.lst ((first::ws).map D.str)) (b:=.int 0) rfl rfl (by simp only[e8,aI,D9])) rfl ?_)) ?_
 ·rw[vC hf hf,decide_eq_true rfl];rfl
 ·refine xQ ?_
  have e:gN ((first::ws).map D.str) (some ((1:Nat):Int)) none=ws.map D.str:=by rw[AV];rfl
  show AU (.lst ((first::ws).map D.str)) (some ((1:Nat):Int)) none=_
  show R.guard _ _=_
  rw[e,bW (iE ws)]
theorem yC{P:Int}(p1:3<=P)(p2:P<=9973)(hd:dR P=false):Ft [.lst [.str (aU P)]] = .ok (.int P):=by
 have en:=tH (show 0<=P by lia) (show P<=10^30 by lia)
 have ep:=vj (d:=.int P) rfl
 have eb:Bp (.int P)=true:=by
  show(decide (3<=P)&&(decide (P<=9999)&&!dR P))=true
  rw[decide_eq_true p1,decide_eq_true (show P<=9999 by lia),hd];rfl
 rw[eb] at ep
 refine cF rfl ?_
 delta NW
 refine dB (by walk_at "evs";try rfl) ?_
 refine cV (d:=.int P) (fZ (dr (ds:=[.str (aU P)]) (bX (fj (a:=.lst [.str (aU P)]) (b:=.int 0) rfl rfl rfl) rfl) en) rfl) ?_
 refine dB (yB (lA (dr (ds:=[.int P]) (bX rfl rfl) ep))) (b7 rfl)
theorem Yz:∀c:Nat,97<=c->c<=122->u9 ⟨#[c]⟩ "abcdefghijklmnopqrstuvwxyz"=true:=by
 have key:∀i:Fin 26,u9 ⟨#[97+i.val]⟩ "abcdefghijklmnopqrstuvwxyz"=true:=by decide +kernel
 intro c h1 h2
 have:=key ⟨c-97,by lia⟩
 rw[show 97+(c-97)=c by lia] at this
 exact this
theorem YA{x:Str}(hx:dP x=true)(h:x≠"set"/\x≠"again"):z9n (.str x) (.tup [.str "set",.str "again"]) = .ok (.bl true):=by
 have k1:dP "set"=true:=by decide +kernel
 have k2:dP "again"=true:=by decide +kernel
 show R.guard _ _=_
 rw[bW ⟨by rw[nJ];exact hx,by rw[AO];simp only[Dk,List.all_nil,nJ,k1,k2,Bool.and_self]⟩]
 have e1:cz (.str "set") (.str x)=false:=by rw[z8j];simpa using dM h.1
 have e2:cz (.str "again") (.str x)=false:=by rw[z8j];simpa using dM h.2
 simp only[z8,List.any_nil,e1,e2,Bool.or_self,Bool.not_false]
theorem yD{ns:List Str}(N:n7 ns){x:Str}(hx:x∈ns):yr [.str x] = .ok (.bl true):=by
 have w:=N.w1 x hx
 have em:=N6 (w:=x) (S:="abcdefghijklmnopqrstuvwxyz") (m:=8) w.1 (by lia) (by lia) λc hc=>Yz c (N.lt x hx c hc).1 (N.lt x hx c hc).2
 refine cF rfl ?_
 delta NU
 refine b7 (Fx (dr (ds:=[.str x,.str "abcdefghijklmnopqrstuvwxyz",.int 8]) rfl em) ?_)
 exact fj (a:=.str x) (b:=.tup [.str "set",.str "again"]) rfl (by walk_at "evs") (YA (N.ok x hx) (N.nk x hx))
theorem Oh:∀(xs acc:List Str),xs.Nodup->(∀x∈xs,x ∉ acc)->xs.foldl (λl k=>if k∈l then l else k::l) acc=xs.reverse++acc
 | [],_,_,_=>rfl
 | x::r,acc,nd,h=>by
   obtain⟨n1,n2⟩:=List.nodup_cons.mp nd
   rw[SE,if_neg (h x (fi ..)),Oh r (x::acc) n2 (λy hy z=>by
    rcases List.mem_cons.mp z with rfl | z
    ·exact n1 hy
    ·exact h y (dJ _ hy) z)]
   simp
theorem YB{xs:List Str}(h:xs.Nodup):(fA xs).length=xs.length:=by
 unfold fA
 rw[Oh xs [] h (λ_ _ z=>nomatch z)];simp
theorem yE{ns:List Str}(N:n7 ns):Fs [.lst (ns.map D.str)] = .ok (bQ false ns):=by
 have l1:=N.l1
 have l3:=N.l3
 refine cF rfl ?_
 delta NV
 have el:ay dF (ae (gV 0) ak) [En.ro (.lst (ns.map D.str))] = .ok (.int (ns.length:Int)):=by
  walk_at "evs"
  try rw[a6]
 refine dB (BQ (yB (b:=true) ?_) (BQ (lA (fj (a:=.int (ns.length:Int)) (b:=.int 3) el rfl ?_)) (lA (fj (a:=.int ((fA ns).length:Int)) (b:=.int (ns.length:Int)) ?_ el ?_)))) ?_
 ·show z9m (gV 0) [En.ro (.lst (ns.map D.str))]=_
  simp only[z9m,gV,fy,R.cE]
  cases ns with
  | nil=>simp at l1
  | cons a r=>rfl
 ·have b:decide ((3:Int)<(ns.length:Int))=false:=decide_eq_false (by lia)
  simp only[rq]
  rw[b]
 ·show Bd (gV 0) [En.ro (.lst (ns.map D.str))]=_
  unfold Bd
  rw[show gV 0 [En.ro (.lst (ns.map D.str))] = .ok (.lst (ns.map D.str)) from rfl,R.cE]
  dsimp only
  rw[strs?_map]
  dsimp only
  rw[bW (by lia)]
 ·rw[YB N.nd]
  show gM (.int (ns.length:Int)) (.int (ns.length:Int)) = .ok (.bl false)
  walk_at "evs"
  try simp
 ·have ec:cR (fW (gV 0)) (c9 (aG (ay (fF yr) (ae (gV 0) ak)))) [En.ro (.lst (ns.map D.str))] = .ok ((ns.map λ_=>true).map D.bl):=by
   unfold cR
   rw[show fW (gV 0) [En.ro (.lst (ns.map D.str))] = .ok (ns.map D.str) by
    simp only[fW,gV,fy,R.cE,sT,bW (iE ns)]]
   show R.guard _ _=_
   rw[bW (by rw[a6];lia),iu]
   refine jC λx hx=>?_
   have e:=yD N hx
   show(aG (ay (fF yr) (ae (gV 0) ak)) (En.ro (.str x)::[En.ro (.lst (ns.map D.str))])>>=λe=>R.ok (some e))=_
   rw[fZ (d:=.bl true) (dr (ds:=[.str x]) rfl (by unfold fF;rw[e])) rfl]
   rfl
  refine dB (yB (b:=true) (lA (dr (ds:=[.lst ((ns.map λ_=>true).map D.bl)]) (bX (jK ec) rfl) ?_))) ?_
  ·rw[A0];simp
  ·refine b7 ?_
   show ay fL _ [En.ro (.lst (ns.map D.str))]=_
   have n1:=iE ns
   walk_at "evs"
   try rfl
theorem yF{P:Int}{ns:List Str}{its:List Item}(N:n7 ns)(p1:3<=P)(p2:P<=9973)(hd:dR P=false)(d3:Item.bP its<=3)(hm:Item.aP its<=30)(ho:Item.bK P ns.length its):BH [.int P,bQ false ns,.lst ((Item.bE ns its).map D.str)] = .ok (.tup (its.map Item.d)):=by
 have l1:=N.l1
 have l3:=N.l3
 have wl:=Item.mD (P:=P) (ns:=ns) l3 _ its (a7 _) ho
 have ei:=vE N.toNames (show P<=9999 by lia) 12 its 0 [] (by lia) (by lia) (by lia) ho (.inl rfl) (by simp only[i_];lia)
 rw[kM] at ei
 obtain⟨r1,r2,r3,r4,r5⟩:=Item.Ff (P:=P) (many:=(ns.length:Int)) its ho
 have ep:=yp (P:=P) (many:=(ns.length:Int)) (its:=Item.lx its) (l:=false) p1 p2 hd (by lia) (by lia) (by lia) (by lia) r3
 rw[r4,<-Raw.ds_map,r5,Item.ds_map] at ep
 refine cF rfl ?_
 delta NT
 refine kz (ds:=((Item.bE ns its).map D.str).reverse) ?_ ?_
 ·show z8u (gV 2) [En.ro (.int P),.ro (bQ false ns),.ro (.lst ((Item.bE ns its).map D.str)),.no,.no]=_
  simp only[z8u,gV,fy,gK,R.cE]
  rw[bW ⟨by rw[a6];lia,iE _⟩]
 ·refine jh (vz (d:=.tup (its.map Item.d)) (ws:=([]:List D).reverse) (lz (ds:=[.int P,dv ns,.lst ((Item.bE ns its).map D.str).reverse,.int ((0:Nat):Int)]) ?_ ei)) ?_
  ·show ae _ _ [En.ro (.int P),.ro (bQ false ns),.ro (.lst ((Item.bE ns its).map D.str)),.own ((Item.bE ns its).map D.str).reverse,.no]=_
   exact bX rfl (bX rfl (by walk_at "evs";try rfl))
  ·show aD _ _ [En.ro (.int P),.ro (bQ false ns),.ro (.lst ((Item.bE ns its).map D.str)),.own [],.ro (.tup (its.map Item.d))]=_
   refine dB rfl ?_
   have e:a8 (ay BB (ae (gV 0) (ae (ay dF (ae (gV 1) ak)) (ae (gV 4) ak)))) [En.ro (.int P),.ro (bQ false ns),.ro (.lst ((Item.bE ns its).map D.str)),.own [],.ro (.tup (its.map Item.d))] = .ok (.rt (.tup (its.map Item.d))):=by
    refine b7 (dr (ds:=[.int P,.int (ns.length:Int),.tup (its.map Item.d)]) (bX rfl (bX ?_ (bX rfl rfl))) ep)
    refine dr (ds:=[bQ false ns]) (bX rfl rfl) ?_
    show dF [.tup (ns.map D.str)]=_
    simp only[dF,a6]
   unfold gNoX
   rw[e]
theorem vL{P:Int}{ns:List Str}{its:List Item}(N:n7 ns)(p1:3<=P)(p2:P<=9973)(hd:dR P=false)(d3:Item.bP its<=3)(hm:Item.aP its<=30)(ho:Item.bK P ns.length its):BI [.str (gO (dw P ns its))] = .ok (.tup [.int P,bQ false ns,.tup (its.map Item.d)]):=by
 have l3:=N.l3
 have n8:=FD N (show 0<=P by lia) (show P<=9999 by lia) (show Item.aP its<=60 by lia) ho
 have wl:=Item.mD (P:=P) (ns:=ns) l3 _ its (a7 _) ho
 have tl:=Yv n8 (by simp[dw])
 have o1:=(n8 ["prime",aU P] (by simp[dw])).2
 have o2:=(n8 ("boxes"::ns) (by simp[dw])).2
 have o3:=(n8 ("do"::Item.bE ns its) (by simp[dw])).2
 have b1:=FE (first:="prime") (ws:=[aU P]) (by decide +kernel) o1 (by simp)
 have b2:=FE (first:="boxes") (ws:=ns) (by decide +kernel) o2 (by lia)
 have b3:=FE (first:="do") (ws:=Item.bE ns its) (by decide +kernel) o3 (by lia)
 have e1:=yC p1 p2 hd
 have e2:=yE N
 have e3:=yF N p1 p2 hd d3 hm ho
 have nI:=rT its
 have nN:(bQ false ns).cu=true:=by
  show(D.tup (ns.map D.str)).cu=true
  simp[D.cu,iE]
 refine cF rfl ?_
 delta NY
 have YC:(dw P ns its).map cU=[cU ["prime",aU P],cU ("boxes"::ns),cU ("do"::Item.bE ns its)]:=rfl
 refine kz (ds:=((dw P ns its).map cU).map D.str) (Og rfl (by lia) (by decide +kernel) (Yw n8 (by simp[dw]))) ?_
 rw[YC]
 generalize cU ["prime",aU P]=t1 at *
 generalize cU ("boxes"::ns)=t2 at *
 generalize cU ("do"::Item.bE ns its)=t3 at *
 show aD _ _ [En.ro (.str (gO (dw P ns its))),.own [.str t1,.str t2,.str t3],.no,.no]=_
 refine dB (by walk_at "evs";try rfl) ?_
 refine cV (d:=.int P) (fZ (dr (ds:=[.lst (([aU P]:List Str).map D.str)]) (bX (jK (tK (ds:=[.str t1,.str "prime"]) (bX (fj (a:=.lst [.str t1,.str t2,.str t3]) (b:=.int 0) rfl rfl (by simp only[aI,D9])) rfl) b1)) rfl) e1) rfl) ?_
 refine cV (d:=bQ false ns) (fZ (dr (ds:=[.lst (ns.map D.str)]) (bX (jK (tK (ds:=[.str t2,.str "boxes"]) (bX (fj (a:=.lst [.str t1,.str t2,.str t3]) (b:=.int 1) rfl rfl (by simp only[aI,Mt])) rfl) b2)) rfl) e2) nN) ?_
 refine b7 ?_
 show fT _ [En.ro (.str (gO (dw P ns its))),.own [.str t1,.str t2,.str t3],.ro (.int P),.ro (bQ false ns)]=_
 have q:ay BH (ae (gV 2) (ae (gV 3) (ae (gL (fV vw (ae (aj aI (gV 1) (gC (.int 2))) (ae (gC (.str "do")) ak)))) ak))) [En.ro (.str (gO (dw P ns its))),.own [.str t1,.str t2,.str t3],.ro (.int P),.ro (bQ false ns)] = .ok (.tup (its.map Item.d)) :=
  dr (ds:=[.int P,bQ false ns,.lst ((Item.bE ns its).map D.str)]) (bX rfl (bX rfl (bX (jK (tK (ds:=[.str t3,.str "do"]) (bX (fj (a:=.lst [.str t1,.str t2,.str t3]) (b:=.int 2) rfl rfl (by simp only[aI,Mu])) rfl) b3)) rfl))) e3
 unfold fT
 rw[bX (d:=.int P) rfl (bX (d:=bQ false ns) rfl (bX q rfl))]
 rw[R.cE,bW (by simp)]
def let1(v:Int):Nat:=97+(v%26).toNat
theorem YD(v:Int):97<=let1 v/\let1 v<=122:=by unfold let1;lia
theorem YE(v:Int):dIxS (.str "abcdefghijklmnopqrstuvwxyz") (.int (v%26)) = .ok (.str ⟨#[let1 v]⟩):=by
 have key:∀i:Fin 26,cS ("abcdefghijklmnopqrstuvwxyz":Str).cps.toList (i.val:Int)=some (97+i.val):=by decide +kernel
 have hv:v%26=(((v%26).toNat:Nat):Int):=by lia
 have e:=key ⟨(v%26).toNat,by lia⟩
 show R.guard _ _=_
 rw[bW (by decide +kernel),hv,e]
 rfl
theorem YF{w:Str}(h:∀x∈w.cps.toList,97<=x/\x<=122):dP w=true:=by
 unfold dP
 rw[<-Tb,ng]
 intro c hc
 have:=h c hc
 simpa using (show c<0x110000 by lia)
def vec(r:List Int):Nat->Int:=λi=>(r[i]?).getD 0
inductive Span (P:Int) (S:List (List Int)):(Nat->Int)->Prop
 | zero {v:Nat->Int}:(∀i,cg P (v i) 0)->Span P S v
 | add {u v:Nat->Int} {c:Int} {r:List Int}:r∈S->Span P S u->(∀i,cg P (v i) (u i+c*vec r i))->Span P S v
section
variable {P:Int}{S T:List (List Int)}{u v:Nat->Int}{c:Int}{r:List Int}
end
def pa(r:List Int):Nat:=r.findIdx (λx=>!(x==0))
structure YG (P:Int) (w:Nat) (S:List (List Int)):Prop where
 row:∀r∈S,r.length=w/\c_ P r/\pa r<w/\vec r (pa r)=1
 pair:S.Pairwise λr r'=>pa r<pa r'/\vec r (pa r')=0
section
variable {P:Int}{w:Nat}{S T:List (List Int)}{v:Nat->Int}
end
def n9(P:Int)(r:List Int)(c:Int):List Int:=r.map λn=>(c*n)%P
section
variable {P:Int}{w p:Nat}{r l:List Int}{c:Int}
theorem YH(i:Nat):vec (n9 P r c) i=(c*vec r i)%P:=by
 unfold vec n9
 rw[eZ]
 cases r[i]? with
 | none=>simp
 | some x=>rfl
theorem BR:(n9 P r c).length=r.length:=by unfold n9;simp
theorem YI(hp:0<P):c_ P (n9 P r c):=λn hn=>by
 obtain⟨x,_,rfl⟩:=List.mem_map.mp hn
 exact⟨mr hp,mw hp⟩
end
structure b1h (P:Int) (w p:Nat) (rows left steps:List (List Int)):Prop where
 lft:∀r∈left,r.length=w/\c_ P r/\∀i,i<p->vec r i=0
 step:∀r∈steps,r.length=w/\c_ P r/\pa r<p/\vec r (pa r)=1
 pair:steps.Pairwise λr r'=>pa r<pa r'/\vec r (pa r')=0
 ofL:∀r∈left,Span P rows (vec r)
 YJ:∀r∈steps,Span P rows (vec r)
 all:∀r∈rows,Span P (left++steps) (vec r)
section
variable {P:Int}{w p:Nat}{rows left steps:List (List Int)}
structure b1i (P:Int) (w:Nat) (rows S:List (List Int)):Prop where
 steps:YG P w S
 YJ:∀r∈S,Span P rows (vec r)
 all:∀r∈rows,Span P S (vec r)
end
noncomputable section
def Oi:G->R Fl :=
 (a8 (ay fL (ae (gL (cR (fW (gV 1)) (c9 (aG (ay (fF o8) (ae (gV 1) (ae (aj oX (gV 3) (gV 0)) ak))))))) ak)))
def FF:List D->R D:=bB 3 3 Oi
end
noncomputable section
end
noncomputable section
end
end L3
namespace L3
open PySem
local macro_rules | `(tactic| walk_at "evs") => wkL " L3.y1k L3.z6b L3.s_on L3.z3w L3.z6y L3.z7c L3.z7e L3.z9k L3.z8k L3.z7f L3.z3u L3.z6s L3.y7l L3.y9m L3.y3b L3.y4r L3.y7k L3.y0e L3.z9m L3.D.isNon"
theorem yG{P c:Int}{r:List Int}(hp:0<P)(hc:mh c)(hr:r.length<=1000):FF [.int P,aR r,.int c] = .ok (aR (n9 P r c)):=by
 refine cF rfl ?_
 delta Oi
 refine b7 ?_
 simp only[lj]
 walk_at "evs"
 rw[jC (h:=λn=>D.int ((c*n)%P)),yd]
 ·walk_at "evs"
  rfl
 ·intro n hn
  walk_at "evs"
theorem FG{r:List Int}{p:Nat}(h:p<r.length):cS (r.map D.int) (p:Int)=some (.int (vec r p)):=rN h
noncomputable section
def Oj:G->R Fl :=
 (aD (bJ 3 (aG (ay vf (ae (gV 0) (ae (aj aI (gV 2) (gV 1)) ak)))))
 (aD (fG 4 (jZ (ay FF (ae (gV 0) (ae (gV 2) (ae (nH (gV 3)) ak))))))
 (aD (oZ 4 (gV 1) (aG (gV 3)))
 (a8 (ay fL (ae (gV 4) ak))))))
def FH:List D->R D:=bB 3 5 Oj
def FI:G->R Fl :=
 (aD (b5 (gT (aj dQ (aj aI (gV 2) (gV 1)) (gC (.int 0)))) (gY .fK) cL)
 (a8 (fT (ae (gC (.str "set")) (ae (gV 1) (ae (ay FH (ae (gV 0) (ae (gV 1) (ae (gV 2) ak)))) ak))))))
def FJ:List D->R D:=bB 3 3 FI
def yH(FK:List D->R D)(FL:List D->R D)(FN:List D->R D):G->R Fl :=
 (a8 (ay fL (ae (gL (z9d (gRev (gV 2)) (c9 (aG (ay FN (ae (gV 1) (ae (gV 2) (ae (gV 0) ak)))))))) ak)))
def vM(FK:List D->R D)(FL:List D->R D)(FN:List D->R D):G->R Fl :=
 (aD (b5 (gT (aj dQ (gV 2) (gC (.int 0)))) (a8 (fT (ae (gC (.str "again")) (ae (gC (.int 0)) (ae (fT ak) ak))))) cL)
 (a8 (fT (ae (gC (.str "again")) (ae (gV 2) (ae (ay FK (ae (gV 0) (ae (gV 1) (ae (gV 3) ak)))) ak))))))
def tL(FK:List D->R D)(FL:List D->R D)(FN:List D->R D):G->R Fl :=
 (aD (b5 (gT (aj dQ (aj aI (gV 2) (gC (.int 0))) (gC (.str "set")))) (a8 (ay FJ (ae (gV 0) (ae (aj aI (gV 2) (gC (.int 1))) (ae (aj aI (gV 2) (gC (.int 2))) ak))))) cL)
 (a8 (ay FL (ae (gV 0) (ae (gV 1) (ae (aj aI (gV 2) (gC (.int 1))) (ae (aj aI (gV 2) (gC (.int 2))) ak)))))))
mutual
def kC:Nat->List D->R D
 | 0=>λ_=>.no
 | n+1=>bB 3 3 (yH (kC n) (mE n) (i0 n))
def mE:Nat->List D->R D
 | 0=>λ_=>.no
 | n+1=>bB 4 4 (vM (kC n) (mE n) (i0 n))
def i0:Nat->List D->R D
 | 0=>λ_=>.no
 | n+1=>bB 3 3 (tL (kC n) (mE n) (i0 n))
end
end
theorem Ol{α:Type}{gb:G->R Fl}{i:Nat}{I:G->Prop}{e:α->D}{res:α->Option D}:∀{l:List α} {Γ:G},I Γ->(∀a∈l,∀Γ,I Γ->(res a=none/\∃Γ',gb (Γ.set i (.ro (e a))) = .ok (.nx Γ')/\I Γ')∨∃v,res a=some v/\gb (Γ.set i (.ro (e a))) = .ok (.rt v))->(l.findSome? res=none/\∃Γ',e_ gb i (l.map e) Γ = .ok (.nx Γ')/\I Γ')∨∃v,l.findSome? res=some v/\e_ gb i (l.map e) Γ = .ok (.rt v)
 | [],Γ,h,_=>.inl ⟨rfl,Γ,rfl,h⟩
 | a::l,Γ,h,q=>by
   rcases q a (by simp) Γ h with ⟨r,Γ',e1,i1⟩ | ⟨v,r,e1⟩
   ·rcases Ol (l:=l) i1 (λb hb=>q b (dJ _ hb)) with ⟨r2,z⟩ | ⟨v,r2,z⟩
    ·refine .inl ⟨by rw[Tc,r];exact r2,?_⟩
     rw[e8,A6,e1];exact z
    ·refine .inr ⟨v,by rw[Tc,r];exact r2,?_⟩
     rw[e8,A6,e1];exact z
   ·refine .inr ⟨v,by rw[Tc,r],?_⟩
    rw[e8,A6,e1]
theorem YK{α:Type}{gs:G->R (List D)}{gb u:G->R Fl}{i:Nat}{Γ:G}{r:R Fl}(l:List α)(e:α->D)(res:α->Option D)(I:G->Prop)(hi:gs Γ = .ok (l.map e))(h0:I Γ)(hq:∀a∈l,∀Γ,I Γ->(res a=none/\∃Γ',gb (Γ.set i (.ro (e a))) = .ok (.nx Γ')/\I Γ')∨∃v,res a=some v/\gb (Γ.set i (.ro (e a))) = .ok (.rt v))(hn:l.findSome? res=none->∀Γ',I Γ'->u Γ'=r)(hs:∀v,l.findSome? res=some v->r = .ok (.rt v)):aD (iX i gs gb) u Γ=r:=by
 rcases Ol (l:=l) h0 hq with ⟨n,Γ',e1,i1⟩ | ⟨v,n,e1⟩
 ·exact Em hi e1 (hn n Γ' i1)
 ·rw[hs v n];exact qc (MH hi e1)
theorem Om{n:Nat}{s:List Int}(h:s∈vi n):s.length=n/\∀P:Int,1<P->c_ P s:=by
 unfold vi at h
 rcases List.mem_cons.mp h with rfl | h
 ·refine⟨EK n,λP hp x hx=>?_⟩
  unfold qh at hx
  rw[z9 hx];lia
 ·obtain⟨k,_,rfl⟩:=List.mem_map.mp h
  refine⟨Bk n k,λP hp x hx=>?_⟩
  unfold jH at hx
  obtain⟨i,_,rfl⟩:=List.mem_map.mp hx
  split<;>lia
theorem Oo{P:Int}{n:Nat}{a b:List (List Int)}(hp:0<P)(ha:dn P n a)(hb:dn P n b)(h:∀s∈vi n,df P a s=df P b s):a=b:=by
 refine De (by rw[ha.1,hb.1]) λi h1 h2=>?_
 have at':∀s∈vi n,cg P (aT a[i] s) (aT b[i] s):=λs hs=>by
  have e:=congrArg (λl=>l[i]?) (h s hs)
  simp only[df,eZ,eO h1,eO h2,KO,z_] at e
  exact e
 refine Ni hp (ha.2 _ (pK h1)) (hb.2 _ (pK h2)) (at' _ (by unfold vi;simp)) λk hk=>at' _ ?_
 unfold vi
 exact dJ _ (List.mem_map.mpr ⟨k,List.mem_range.mpr hk,rfl⟩)
noncomputable def fM(P n:Int):Int:=match vf [.int P,.int n] with | .ok (.int a)=>a | _=>0
theorem FO{P n:Int}(hD:dR P=false)(p1:3<=P)(p2:P<=9973)(h0:0<=n)(h:n<P)(hn:n≠0):vf [.int P,.int n] = .ok (.int (fM P n))/\0<fM P n/\fM P n<P/\cg P (fM P n*n) 1:=by
 have e:n%P≠0:=by rw[qX h0 h];exact hn
 obtain⟨a,ea,a1,a2,a3⟩:=(yi (P:=P) (n:=n) hD p1 p2).2 e
 have:fM P n=a:=by unfold fM;rw[ea]
 rw[this]
 exact⟨ea,a1,a2,by unfold cg;rw[a3,qX (by lia) (by lia)]⟩
noncomputable def fN(P:Int)(x:Nat)(f:List Int):List Int:=(n9 P f (-(fM P (vec f x)))).set x (fM P (vec f x))
theorem Oq(P:Int)(x:Nat)(f:List Int):(fN P x f).length=f.length:=by unfold fN;rw[fD,BR]
theorem BS{l:List Int}{x i:Nat}{v:Int}(h:x<l.length):vec (l.set x v) i=if i=x then v else vec l i:=by
 unfold vec
 rw[List.getElem?_set]
 by_cases q:i=x
 ·subst q;simp[h]
 ·rw[if_neg (dM q),if_neg q]
theorem c_.set{P:Int}{l:List Int}{x:Nat}{v:Int}(h:c_ P l)(h0:0<=v)(hv:v<P):c_ P (l.set x v):=λn hn=>by
 rcases a8t hn with z | z
 ·exact h n z
 ·rw[z];exact⟨h0,hv⟩
theorem Ot(f s:List Int){x:Nat}{v:Int}(h:x<s.length):∀n:Nat,bC (λi=>vec f i*vec (s.set x v) i) n=bC (λi=>vec f i*vec s i) n+(if x<n then vec f x*(v-vec s x) else 0)
 | 0=>by simp[bC]
 | n+1=>by
   rw[j4,j4,Ot f s h n,BS h]
   by_cases q:n=x
   ·subst q
    rw[if_pos rfl,if_neg (lT _),if_pos (wV _)]
    grind
   ·rw[if_neg q]
    by_cases q2:x<n
    ·rw[if_pos q2,if_pos (by lia)];grind
    ·rw[if_neg q2,if_neg (by lia)];grind
theorem Ou{f s:List Int}{x:Nat}{v:Int}(h:x<s.length):aT f (s.set x v)=aT f s+vec f x*(v-vec s x):=by
 have e:∀u:List Int,aT f u=bC (λi=>vec f i*vec u i) u.length+vec f u.length:=λu=>rfl
 rw[e,e,fD,Ot f s h,if_pos h]
 grind
theorem Ov{P:Int}{f s:List Int}{x:Nat}(hx:x<s.length)(hl:f.length=s.length+1):cg P (aT (fN P x f) s) (-(fM P (vec f x))*aT f s+(fM P (vec f x)+fM P (vec f x)*vec f x)*vec s x):=by
 generalize hb:fM P (vec f x)=b
 have hv:∀i,cg P (vec (fN P x f) i) (if i=x then b else -b*vec f i):=λi=>by
  unfold fN
  rw[hb,BS (by rw[BR];lia),YH]
  split
  ·exact cg.refl
  ·exact qd
 have e:∀g:List Int,aT g s=bC (λi=>vec g i*vec s i) s.length+vec g s.length:=λu=>rfl
 have e2:∀n:Nat,bC (λi=>(if i=x then b else -b*vec f i)*vec s i) n = -b*bC (λi=>vec f i*vec s i) n+(if x<n then (b+b*vec f x)*vec s x else 0):=λn=>by
  induction n with
  | zero=>simp[bC]
  | succ n ih =>
    rw[j4,j4,ih]
    by_cases q:n=x
    ·subst q
     rw[if_pos rfl,if_neg (lT _),if_pos (wV _)]
     grind
    ·rw[if_neg q]
     by_cases q2:x<n
     ·rw[if_pos q2,if_pos (by lia)];grind
     ·rw[if_neg q2,if_neg (by lia)];grind
 rw[e,e]
 have h1:cg P (bC (λi=>vec (fN P x f) i*vec s i) s.length) (bC (λi=>(if i=x then b else -b*vec f i)*vec s i) s.length):=cg.bC λi _=>(hv i).mul cg.refl
 rw[e2,if_pos hx] at h1
 have h2:=hv s.length
 rw[if_neg (by lia)] at h2
 refine(h1.add h2).trans (cg.of_eq ?_)
 grind
theorem Ow{s:List Int}{x:Nat}(h:x<s.length):s.set x (vec s x)=s:=by
 refine De (by simp) λi h1 h2=>?_
 rw[a8j]
 split
 ·rename_i q;subst q;unfold vec;rw[eO h2];rfl
 ·rfl
theorem YL{P:Int}{f s:List Int}{x:Nat}(p0:0<P)(hb:cg P (fM P (vec f x)*vec f x) 1)(hx:x<s.length)(hl:f.length=s.length+1)(so:c_ P s):(s.set x (aT f s%P)).set x (aT (fN P x f) (s.set x (aT f s%P))%P)=s:=by
 rw[List.set_set]
 have hw:=Ov (P:=P) (f:=f) (s:=s.set x (aT f s%P)) (x:=x) (by rw[fD];exact hx) (by rw[fD];exact hl)
 rw[Ou (f:=f) hx,BS hx,if_pos rfl] at hw
 generalize hB:fM P (vec f x)=b at hb hw
 have key:cg P (aT (fN P x f) (s.set x (aT f s%P))) (vec s x):=by
  refine hw.trans ?_
  have m1:cg P (aT f s%P) (aT f s):=qd
  have:cg P (-b*(aT f s+vec f x*(aT f s%P-vec s x))+(b+b*vec f x)*(aT f s%P)) (-b*aT f s-(b*vec f x)*(aT f s)+(b*vec f x)*vec s x+(b+b*vec f x)*aT f s):=by
   have h1:cg P (-b*(aT f s+vec f x*(aT f s%P-vec s x))) (-b*(aT f s+vec f x*(aT f s-vec s x))):=(cg.refl).mul (cg.refl.add (cg.refl.mul (m1.sub cg.refl)))
   have h2:cg P ((b+b*vec f x)*(aT f s%P)) ((b+b*vec f x)*aT f s):=cg.refl.mul m1
   refine(h1.add h2).trans (cg.of_eq ?_)
   grind
  refine this.trans ?_
  have h3:cg P ((b*vec f x)*vec s x) (1*vec s x):=hb.mul cg.refl
  refine(cg.of_eq (by grind:-b*aT f s-(b*vec f x)*(aT f s)+(b*vec f x)*vec s x+(b+b*vec f x)*aT f s=(b*vec f x)*vec s x)).trans (h3.trans (cg.of_eq (Int.one_mul _)))
 have vs:=lq p0 so x
 rw[show aT (fN P x f) (s.set x (aT f s%P))%P=vec s x from(show _%P=_%P from key).trans (qX vs.1 vs.2),Ow hx]
theorem YM{P:Int}{f s:List Int}{x:Nat}(p0:0<P)(hb:cg P (fM P (vec f x)*vec f x) 1)(hx:x<s.length)(hl:f.length=s.length+1)(so:c_ P s):(s.set x (aT (fN P x f) s%P)).set x (aT f (s.set x (aT (fN P x f) s%P))%P)=s:=by
 rw[List.set_set]
 have hw:=Ov (P:=P) (f:=f) (s:=s) (x:=x) hx hl
 generalize hB:fM P (vec f x)=b at hb hw
 have m1:cg P (aT (fN P x f) s%P) (-b*aT f s+(b+b*vec f x)*vec s x):=qd.trans hw
 have key:cg P (aT f (s.set x (aT (fN P x f) s%P))) (vec s x):=by
  rw[Ou hx]
  have h1:cg P (aT f s+vec f x*(aT (fN P x f) s%P-vec s x)) (aT f s+vec f x*((-b*aT f s+(b+b*vec f x)*vec s x)-vec s x)):=cg.refl.add (cg.refl.mul (m1.sub cg.refl))
  refine h1.trans ?_
  have e:aT f s+vec f x*((-b*aT f s+(b+b*vec f x)*vec s x)-vec s x)=aT f s-(b*vec f x)*aT f s+(b*vec f x)*vec s x+(b*vec f x)*(vec f x*vec s x)-vec f x*vec s x:=by grind
  rw[e]
  have h2:cg P (aT f s-(b*vec f x)*aT f s+(b*vec f x)*vec s x+(b*vec f x)*(vec f x*vec s x)-vec f x*vec s x) (aT f s-1*aT f s+1*vec s x+1*(vec f x*vec s x)-vec f x*vec s x):=(((cg.refl.sub (hb.mul cg.refl)).add (hb.mul cg.refl)).add (hb.mul cg.refl)).sub cg.refl
  exact h2.trans (cg.of_eq (by grind))
 have vs:=lq p0 so x
 rw[show aT f (s.set x (aT (fN P x f) s%P))%P=vec s x from(show _%P=_%P from key).trans (qX vs.1 vs.2),Ow hx]
theorem BU{P:Int}{m x:Nat}{f s:List Int}(hs:s.length=m)(so:c_ P s):df P ((eK m).set x f) s=s.set x (aT f s%P):=by
 unfold df
 rw[SY]
 have:=vh hs so
 unfold df at this
 rw[this]
def fe(P:Int)(m:Nat)(a b:List (List Int)):Prop:=dC P a b=eK m/\dC P b a=eK m
theorem fe.YN{P:Int}{m:Nat}{a b:List (List Int)}(hp:1<P)(ha:dn P m a)(hb:dn P m b)(h1:∀s,s.length=m->c_ P s->df P b (df P a s)=s)(h2:∀s,s.length=m->c_ P s->df P a (df P b s)=s):fe P m a b:=by
 refine⟨Oo (by lia) (nW (by lia) ha.1 hb.1) (tu hp m) λs hs=>?_,Oo (by lia) (nW (by lia) hb.1 ha.1) (tu hp m) λs hs=>?_⟩
 ·obtain⟨sl,so⟩:=Om hs
  rw[qi ha.1 sl,vh sl (so P hp),h1 s sl (so P hp)]
 ·obtain⟨sl,so⟩:=Om hs
  rw[qi hb.1 sl,vh sl (so P hp),h2 s sl (so P hp)]
theorem fe.turn{P:Int}{m:Nat}{a b:List (List Int)}(ha:dn P m a)(h:fe P m a b){s:List Int}(hs:s.length=m)(so:c_ P s):df P b (df P a s)=s:=by
 rw[<-qi ha.1 hs,h.1,vh hs so]
theorem fe.idle{P:Int}{m:Nat}(hp:1<P):fe P m (eK m) (eK m):=⟨yc hp (tu hp m),yc hp (tu hp m)⟩
theorem fe.comp{P:Int}{m:Nat}{a b c d:List (List Int)}(hp:1<P)(ha:dn P m a)(hb:dn P m b)(hc:dn P m c)(hd:dn P m d)(h:fe P m a b)(g:fe P m c d):fe P m (dC P a c) (dC P d b):=by
 have p0:0<P:=by lia
 have key:∀{a b c d:List (List Int)},dn P m a->dn P m b->dn P m c->dn P m d->dC P a b=eK m->dC P c d=eK m->dC P (dC P a c) (dC P d b)=eK m:=λ{a b c d} ha hb hc hd h g=>by
  rw[Bl p0 ha.1 hc.1 (nW p0 hd.1 hb.1).1,<-Bl p0 hc.1 hd.1 hb.1,g,yc hp hb,h]
 exact⟨key ha hb hc hd h.1 g.1,key hd hc hb ha g.2 h.2⟩
theorem YO{P:Int}{m:Nat}{t:List (List Int)}(hp:1<P)(ht:dn P m t)(k:Nat):cM P m t (k+1)=dC P t (cM P m t k):=by
 rw[Nat.add_comm,Bw hp ht,Nz hp ht]
theorem fe.pow{P:Int}{m:Nat}{a b:List (List Int)}(hp:1<P)(ha:dn P m a)(hb:dn P m b)(h:fe P m a b):∀k,fe P m (cM P m a k) (cM P m b k)
 | 0=>fe.idle hp
 | k+1=>by
   have ih:=fe.pow hp ha hb h k
   rw[YO hp hb]
   show fe P m (dC P (cM P m a k) a) _
   exact fe.comp hp (jI hp ha k) (jI hp hb k) ha hb ih h
mutual
noncomputable def Item.eM(P:Int):Item->Item
 | .set x f=>.set x (fN P x.toNat f)
 | .again n its=>if n=0 then .again 0 [] else .again n (Item.eB P its)
noncomputable def Item.eB(P:Int):List Item->List Item
 | []=>[]
 | a::r=>Item.eB P r++[a.eM P]
end
mutual
def Item.free:Item->Bool
 | .set x f=>vec f x.toNat != 0
 | .again n its=>n==0||Item.frees its
def Item.frees:List Item->Bool
 | []=>true
 | a::r=>a.free&&Item.frees r
end
theorem Item.Ox(P:Int):∀its:List Item,Item.eB P its=(its.map (Item.eM P)).reverse
 | []=>rfl
 | a::r=>by rw[Item.eB,Item.Ox P r,e8,zW]
theorem Item.yI:∀its:List Item,Item.frees its=its.all Item.free
 | []=>rfl
 | a::r=>by rw[Item.frees,Item.yI r,Dk]
theorem Item.YQ{a b:List Item}{k:Nat}:Item.bP (a++b)<=k↔Item.bP a<=k/\Item.bP b<=k:=by
 rw[Item.ji,Item.ji,Item.ji]
 exact⟨λh=>⟨λx hx=>h x (iO _ hx),λx hx=>h x (b8 _ hx)⟩,λh x hx=>(List.mem_append.mp hx).elim (h.1 x) (h.2 x)⟩
mutual
theorem Item.YR(P:Int):∀a:Item,(a.eM P).deep<=a.deep
 | .set x f=>by simp[Item.eM,Item.deep]
 | .again n its=>by
   have:=Item.yJ P its
   simp only[Item.eM]
   split
   ·simp only[Item.deep,Item.bP];lia
   ·simp only[Item.deep];lia
theorem Item.yJ(P:Int):∀its:List Item,Item.bP (Item.eB P its)<=Item.bP its
 | []=>by simp[Item.eB]
 | a::r=>by
   have h1:=Item.YR P a
   have h2:=Item.yJ P r
   rw[Item.eB]
   refine Item.YQ.mpr ⟨?_,?_⟩
   ·refine dD h2 ?_
    exact Item.ji.mpr λb hb=>Item.ji.mp (a7 (Item.bP (a::r))) b (dJ _ hb)
   ·refine Item.ji.mpr λb hb=>?_
    rw[List.mem_singleton.mp hb]
    exact dD h1 (Item.ji.mp (a7 (Item.bP (a::r))) a fi)
end
mutual
theorem Item.YS{P:Int}{m:Nat}(hD:dR P=false)(p1:3<=P)(p2:P<=9973):∀a:Item,a.ok P m->a.free=true->(a.eM P).ok P m/\fe P m (a.tab P m) ((a.eM P).tab P m)
 | .set x f,ho,hf=>by
   have hp:1<P:=by lia
   simp only[Item.ok] at ho
   simp only[Item.free,bne_iff_ne] at hf
   obtain⟨y,rfl⟩:∃y:Nat,x=(y:Int):=⟨x.toNat,by lia⟩
   rw[oI] at hf
   have hv:=lq (show 0<P by lia) ho.2.2.2 y
   obtain⟨b0,b1,b2,b3⟩:=FO hD p1 p2 hv.1 hv.2 hf
   have qo:c_ P (fN P y f):=c_.set (YI (by lia)) (Int.le_of_lt b1) b2
   have FP:=E0 (m:=m) (x:=y) (f:=f) hp ⟨ho.2.2.2,by lia⟩
   have YT:=E0 (m:=m) (x:=y) (f:=fN P y f) hp ⟨qo,by rw[Oq];lia⟩
   refine⟨?_,?_⟩
   ·simp only[Item.eM,Item.ok,oI]
    exact⟨ho.1,ho.2.1,by rw[Oq];exact ho.2.2.1,qo⟩
   ·show fe P m ((eK m).set (y:Int).toNat f) ((eK m).set (y:Int).toNat (fN P (y:Int).toNat f))
    rw[oI]
    refine fe.YN hp FP YT (λs hs so=>?_) λs hs so=>?_
    ·have w0:=mr (w:=aT f s) (show 0<P by lia)
     have w1:=mw (w:=aT f s) (show 0<P by lia)
     rw[BU hs so,BU (by rw[fD];exact hs) (c_.set so w0 w1)]
     exact YL (by lia) b3 (by lia) (by lia) so
    ·have w0:=mr (w:=aT (fN P y f) s) (show 0<P by lia)
     have w1:=mw (w:=aT (fN P y f) s) (show 0<P by lia)
     rw[BU hs so,BU (by rw[fD];exact hs) (c_.set so w0 w1)]
     exact YM (by lia) b3 (by lia) (by lia) so
 | .again n its,ho,hf=>by
   have hp:1<P:=by lia
   simp only[Item.ok] at ho
   simp only[Item.free,wW,beq_iff_eq] at hf
   by_cases q:n=0
   ·subst q
    simp only[Item.eM,if_true,Item.ok,Item.bK,Item.tab,Int.toNat_zero,cM]
    exact⟨⟨by lia,by decide,trivial⟩,fe.idle hp⟩
   ·obtain⟨h1,h2⟩:=Item.yK hD p1 p2 its ho.2.2 (hf.resolve_left q)
    simp only[Item.eM,if_neg q,Item.ok,Item.tab]
    exact⟨⟨ho.1,ho.2.1,h1⟩,fe.pow hp (Item.tabs_ok hp its ho.2.2) (Item.tabs_ok hp _ h1) h2 _⟩
theorem Item.yK{P:Int}{m:Nat}(hD:dR P=false)(p1:3<=P)(p2:P<=9973):∀its:List Item,Item.bK P m its->Item.frees its=true->Item.bK P m (Item.eB P its)/\fe P m (Item.tabs P m its) (Item.tabs P m (Item.eB P its))
 | [],_,_=>⟨trivial,fe.idle (by lia)⟩
 | a::r,ho,hf=>by
   have hp:1<P:=by lia
   simp only[Item.bK] at ho
   simp only[Item.frees,ir] at hf
   obtain⟨a1,a2⟩:=Item.YS hD p1 p2 a ho.1 hf.1
   obtain⟨r1,r2⟩:=Item.yK hD p1 p2 r ho.2 hf.2
   have o1:Item.bK P m [a.eM P]:=by simp only[Item.bK];exact⟨a1,trivial⟩
   rw[Item.eB,Item.E4 hp r1 o1,Item.NI hp a1]
   exact⟨Item.NH.mpr ⟨r1,o1⟩,fe.comp hp (Item.vq hp a ho.1) (Item.vq hp _ a1) (Item.tabs_ok hp r ho.2) (Item.tabs_ok hp _ r1) a2 r2⟩
end
end L3
namespace L3
open PySem
local macro_rules | `(tactic| walk_at "evs") => wkL " L3.y1k L3.z6b L3.s_on L3.z3w L3.z6y L3.z7c L3.z7e L3.z9k L3.z8k L3.z7f L3.z3u L3.z6s L3.y7l L3.y9m L3.y3b L3.Item.d L3.Item.ds_map L3.z8j L3.y9y L3.y9z L3.y5r L3.y0k L3.y4r L3.y7k L3.y0e L3.z9m L3.D.isNon L3.gRev L3.z9d"
theorem yL{g:G->R D}{Γ:G}{c:Er}(h:g Γ = .er c):a8 g Γ = .ok (.ex c Γ):=by unfold a8;rw[h];rfl
theorem YU{f:List D->R D}{a:G->R D}{Γ:G}{d:D}(h:a Γ = .ok d):ay f (ae a ak) Γ=f [d]:=by unfold ay ae ak;rw[h];rfl
theorem YV{f:List D->R D}{a:G->R D}{Γ:G}{c:Er}(h:a Γ = .er c):ay f (ae a ak) Γ = .er c:=by unfold ay ae ak;rw[h];rfl
theorem yM{P:Int}{y m:Nat}{f:List Int}(hD:dR P=false)(p1:3<=P)(p2:P<=9973)(hf:c_ P f)(hl:f.length=m+1)(hm:m<=3)(hy:y<m)(hv:vec f y≠0):FH [.int P,.int y,aR f] = .ok (aR (fN P y f)):=by
 have v:0<=vec f y/\vec f y<P:=lq (show 0<P by lia) hf y
 obtain⟨b0,b1,b2,b3⟩:=FO hD p1 p2 v.1 v.2 hv
 have va:=FG (r:=f) (p:=y) (by lia)
 refine cF rfl ?_
 delta Oj
 refine cV (d:=.int (fM P (vec f y))) (by
  simp only[lj]
  walk_at "evs"
  simp only[aI,va]
  walk_at "evs"
  simp only[b0]
  walk_at "evs") ?_
 have fb:mh (-(fM P (vec f y))):=D3 (by lia)
 have et:=yG (P:=P) (r:=f) (c:=-(fM P (vec f y))) (by lia) fb (by lia)
 have lt:(n9 P f (-(fM P (vec f y)))).length=m+1:=by rw[BR,hl]
 have nt:=k_ (n9 P f (-(fM P (vec f y))))
 refine kz (ds:=(n9 P f (-(fM P (vec f y)))).map D.int) (by
  simp only[lj] at et ⊢
  walk_at "evs"
  simp only[et]
  walk_at "evs") ?_
 refine jh (Ek (n:=y) (j:=(y:Int)) (d:=.int (fM P (vec f y))) rfl (by walk_at "evs") (by walk_at "evs") ?_) ?_
 ·rw[a6,lt]
  unfold iV
  simp
  lia
 ·refine b7 ?_
  have e:((n9 P f (-(fM P (vec f y)))).map D.int).set y (.int (fM P (vec f y)))=(fN P y f).map D.int:=by
   unfold fN;rw[SY]
  simp only[lj,<-e]
  walk_at "evs"
theorem yN{P:Int}{y m:Nat}{f:List Int}(hD:dR P=false)(p1:3<=P)(p2:P<=9973)(hf:c_ P f)(hl:f.length=m+1)(hm:m<=3)(hy:y<m):FJ [.int P,.int y,aR f]=if (Item.set y f).free=true then .ok ((Item.set y f).eM P).d else .er .fK:=by
 have va:=FG (r:=f) (p:=y) (by lia)
 by_cases q:vec f y=0
 ·rw[if_neg (by simp[Item.free,q])]
  apply sZ rfl
  delta FI
  refine Ej (jG (by
   simp only[lj]
   walk_at "evs"
   simp only[aI,va,q]
   walk_at "evs"
   try rfl) rfl)
 ·rw[if_pos (by simp[Item.free,q])]
  have ef:=yM hD p1 p2 hf hl hm hy q
  have bq:(vec f y==0)=false:=by simp[q]
  refine cF rfl ?_
  delta FI
  refine dB (by
   simp only[lj]
   walk_at "evs"
   simp only[aI,va]
   walk_at "evs"
   simp only[bq]) (b7 ?_)
  walk_at "evs"
  simp only[ef]
  walk_at "evs"
  simp only[Item.eM,Item.d,oI]
  try rfl
theorem Oy{g:Item->Bool}{h:Item->D}{F:D->R (Option D)}:∀{its:List Item} {acc:List D},(∀a∈its,F a.d=if g a=true then .ok (some (h a)) else .er .fK)->jg F (its.map Item.d) acc=if its.all g=true then .ok (acc++its.map h) else .er .fK
 | [],acc,_=>by simp[jg]
 | a::r,acc,q=>by
   have ha:=q a fi
   have ih:=λacc=>Oy (its:=r) (acc:=acc) λb hb=>q b (dJ _ hb)
   rw[e8,jg]
   cases e:g a with
   | false=>rw[e] at ha;simp[ha,e]
   | true =>
     rw[e,if_pos rfl] at ha
     simp only[ha,ih,Dk,e,Bool.true_and]
     simp
theorem vN{P:Int}{m:Nat}(hD:dR P=false)(p1:3<=P)(p2:P<=9973)(hm:m<=3):∀(k:Nat) (its:List Item),3*Item.bP its+3<=k->its.length<=1000->Item.aP its<=1000->Item.bK P m its->kC k [.int P,.int m,.tup (its.map Item.d)]=if Item.frees its=true then .ok (.tup ((Item.eB P its).map Item.d)) else .er .fK
 | 0,_,h,_,_,_=>by lia
 | 1,_,h,_,_,_=>by lia
 | 2,_,h,_,_,_=>by lia
 | k+3,its,h,hl,YW,ho=>by
   have one:∀a∈its,i0 (k+2) [.int P,.int m,a.d]=if a.free=true then .ok (a.eM P).d else .er .fK:=λa ha=>by
    have cA:=Item.iD.mp ho a ha
    show bB 3 3 (tL (kC (k+1)) (mE (k+1)) (i0 (k+1))) _=_
    cases a with
    | set x f =>
      simp only[Item.ok] at cA
      obtain⟨y,rfl⟩:∃y:Nat,x=(y:Int):=⟨x.toNat,by lia⟩
      have es:=yN (y:=y) (m:=m) hD p1 p2 cA.2.2.2 (by lia) hm (by lia)
      by_cases hg:(Item.set (y:Int) f).free=true
      ·rw[if_pos hg] at es ⊢
       generalize ((Item.set (y:Int) f).eM P).d=dd at es ⊢
       refine cF rfl ?_
       delta tL
       refine qc (jG (by walk_at "evs") (b7 ?_))
       walk_at "evs"
       simp only[es]
      ·rw[if_neg hg] at es ⊢
       apply sZ rfl
       delta tL
       refine Ej (jG (by walk_at "evs") (yL ?_))
       walk_at "evs"
       simp only[es]
    | again n i =>
      have h1:=Item.ji.mp (a7 (Item.bP its)) _ ha
      have h2:=Item.rR ha
      have h3:=Item.nZ i
      simp only[Item.deep] at h1
      simp only[Item.many] at h2
      simp only[Item.ok] at cA
      have eg:mE (k+1) [.int P,.int m,.int n,.tup (i.map Item.d)]=if (Item.again n i).free=true then .ok ((Item.again n i).eM P).d else .er .fK:=by
       show bB 4 4 (vM (kC k) (mE k) (i0 k)) _=_
       by_cases q:n=0
       ·subst q
        rw[if_pos (by simp[Item.free])]
        refine cF rfl ?_
        delta vM
        refine qc (jG (by walk_at "evs";try rfl) (b7 ?_))
        simp only[Item.eM,if_true]
        walk_at "evs"
        try rfl
       ·have ih:=vN hD p1 p2 hm k i (by lia) (by lia) (by lia) cA.2.2
        have bq:(n==0)=false:=by simp[q]
        have ef:(Item.again n i).free=Item.frees i:=by simp[Item.free,bq]
        rw[ef]
        by_cases hg:Item.frees i=true
        ·rw[if_pos hg] at ih ⊢
         have nI:=rT (Item.eB P i)
         refine cF rfl ?_
         delta vM
         refine dB (by walk_at "evs";simp only[bq]) (b7 ?_)
         walk_at "evs"
         simp only[ih]
         walk_at "evs"
         simp only[Item.eM,if_neg q,Item.d,Item.ds_map]
         try rfl
        ·rw[if_neg hg] at ih ⊢
         apply sZ rfl
         delta vM
         refine dB (by walk_at "evs";simp only[bq]) (yL ?_)
         walk_at "evs"
         simp only[ih]
         try rfl
      by_cases hg:(Item.again n i).free=true
      ·rw[if_pos hg] at eg ⊢
       generalize ((Item.again n i).eM P).d=dd at eg ⊢
       refine cF rfl ?_
       delta tL
       refine dB (by walk_at "evs") (b7 ?_)
       walk_at "evs"
       simp only[eg]
      ·rw[if_neg hg] at eg ⊢
       apply sZ rfl
       delta tL
       refine dB (by walk_at "evs") (yL ?_)
       walk_at "evs"
       simp only[eg]
       try rfl
   show bB 3 3 (yH (kC (k+2)) (mE (k+2)) (i0 (k+2))) _=_
   have nI:=Item.Bv its
   have ec:jg (λd=>(do let e <-aG (ay (i0 (k+2)) (ae (gV 1) (ae (gV 2) (ae (gV 0) ak)))) [.ro d,.ro (.int P),.ro (.int m),.ro (.tup (its.map Item.d))];R.ok (some e))) (its.reverse.map Item.d) []=if its.reverse.all Item.free=true then .ok ([]++its.reverse.map λa=>(a.eM P).d) else .er .fK:=by
    refine Oy λa ha=>?_
    have e1:=one a (List.mem_reverse.mp ha)
    have nu:=Item.cu (a.eM P)
    have e2:ay (i0 (k+2)) (ae (gV 1) (ae (gV 2) (ae (gV 0) ak))) [.ro a.d,.ro (.int P),.ro (.int m),.ro (.tup (its.map Item.d))]=i0 (k+2) [.int P,.int m,a.d]:=rfl
    unfold aG
    rw[e2,e1]
    by_cases hg:a.free=true
    ·rw[if_pos hg,if_pos hg]
     generalize (a.eM P).d=dd at nu ⊢
     walk_at "evs"
    ·rw[if_neg hg,if_neg hg];rfl
   rw[List.all_reverse,<-Item.yI] at ec
   have er:(its.map Item.d).reverse=its.reverse.map Item.d:=by rw[Td]
   have gr:gRev (gV 2) [.ro (.int P),.ro (.int m),.ro (.tup (its.map Item.d))] = .ok (its.reverse.map Item.d):=by
    walk_at "evs"
    rw[<-er]
   have gc:z9d (gRev (gV 2)) (c9 (aG (ay (i0 (k+2)) (ae (gV 1) (ae (gV 2) (ae (gV 0) ak)))))) [.ro (.int P),.ro (.int m),.ro (.tup (its.map Item.d))]=if Item.frees its=true then .ok ([]++its.reverse.map λa=>(a.eM P).d) else .er .fK:=by
    unfold z9d
    rw[gr,<-ec]
    exact R.guard_pos (by rw[a6,qY];lia)
   have eu:(its.reverse.map λa=>(a.eM P).d)=(Item.eB P its).map Item.d:=by
    rw[Item.Ox,Td,Td,iu];rfl
   rw[eu] at gc
   by_cases hg:Item.frees its=true
   ·rw[if_pos hg] at gc ⊢
    refine cF rfl ?_
    delta yH
    refine b7 ?_
    have e3:gL (z9d (gRev (gV 2)) (c9 (aG (ay (i0 (k+2)) (ae (gV 1) (ae (gV 2) (ae (gV 0) ak))))))) [.ro (.int P),.ro (.int m),.ro (.tup (its.map Item.d))] = .ok (.lst ((Item.eB P its).map Item.d)):=by
     unfold gL;rw[gc];rfl
    refine(YU e3).trans ?_
    try walk_at "evs"
    try rfl
   ·rw[if_neg hg] at gc ⊢
    apply sZ rfl
    delta yH
    refine yL ?_
    have e3:gL (z9d (gRev (gV 2)) (c9 (aG (ay (i0 (k+2)) (ae (gV 1) (ae (gV 2) (ae (gV 0) ak))))))) [.ro (.int P),.ro (.int m),.ro (.tup (its.map Item.d))] = .er .fK:=by
     unfold gL;rw[gc];rfl
    exact YV e3
noncomputable section
def BV(YX:List D->R D):G->R Fl :=
 (aD (iX 1 (ku (d8 0))
 (aD (b5 (je (gT (aj dQ (aj aI (gV 1) (gC (.int 0))) (gC (.str "set")))) (gT (aj dQ (aj aI (aj aI (gV 1) (gC (.int 2))) (aj aI (gV 1) (gC (.int 1)))) (gC (.int 0))))) (a8 (gC (.bl true))) cL)
 (b5 (je (gT (aj dQ (aj aI (gV 1) (gC (.int 0))) (gC (.str "again")))) (je (gT (aj rq (aj aI (gV 1) (gC (.int 1))) (gC (.int 0)))) (gT (ay YX (ae (aj aI (gV 1) (gC (.int 2))) ak))))) (a8 (gC (.bl true))) cL)))
 (a8 (gC (.bl false))))
def rY:Nat->List D->R D
 | 0=>λ_=>.no
 | n+1=>bB 1 2 (BV (rY n))
def Oz:G->R Fl :=
 (a8 (nP " " (gL (cR (fW (gV 0)) (c9 (aG (ay lh (ae (gV 0) ak))))))))
def yO:List D->R D:=bB 1 1 Oz
def OA:G->R Fl :=
 (aD (b5 (nG (gT (aj gM (ay dF (ae (gV 2) ak)) (gV 1))) (jB (gT (ay oY (ae (gL (cR (fW (gV 2)) (c9 (aG (ay (fF rQ) (ae (gV 0) (ae (gC (.int 0)) (ae (aj p4 (gV 1) (gC (.int 1))) ak)))))))) ak))))) (gY .iB) cL)
 (a8 (ay fL (ae (gV 2) ak))))
def FQ:List D->R D:=bB 3 3 OA
def OB:G->R Fl :=
 (aD (bJ 3 (aG (ay BI (ae (gV 0) ak))))
 (aD (bJ 4 (aG (aj aI (gV 3) (gC (.int 0)))))
 (aD (bJ 5 (aG (ay dF (ae (aj aI (gV 3) (gC (.int 1))) ak))))
 (a8 (nP " " (gL (fV yt (ae (ay Bu (ae (gV 4) (ae (gV 5) (ae (aj aI (gV 3) (gC (.int 2))) (ae (gV 1) (ae (ay FQ (ae (gV 4) (ae (gV 5) (ae (gV 2) ak)))) ak)))))) ak))))))))
def yP:List D->R D:=bB 3 6 OB
def FR:G->R Fl :=
 (aD (bJ 1 (aG (ay BI (ae (gV 0) ak))))
 (aD (bJ 2 (aG (aj aI (gV 1) (gC (.int 0)))))
 (aD (bJ 3 (aG (aj aI (gV 1) (gC (.int 1)))))
 (a8 (ay Fv (ae (gV 2) (ae (gV 3) (ae (ay (kC 12) (ae (gV 2) (ae (ay dF (ae (gV 3) ak)) (ae (aj aI (gV 1) (gC (.int 2))) ak)))) ak))))))))
def BW:List D->R D:=bB 1 4 FR
end
end L3
namespace L3
open PySem
local macro_rules | `(tactic| walk_at "evs") => wkL " L3.y1k L3.z6b L3.s_on L3.z3w L3.z6y L3.z7c L3.z7e L3.z9k L3.z8k L3.z7f L3.z3u L3.z6s L3.y7l L3.y9m L3.y3b L3.Item.d L3.Item.ds_map L3.z8j L3.y9y L3.y9z L3.y5r L3.y0k L3.y4r L3.y7k L3.y0e L3.z9m L3.D.isNon L3.gRev L3.z9d L3.z8f L3.x2v L3.dInS L3.dIxS L3.y2y L3.z9n L3.z8u L3.gNoX L3.y3y"
theorem OC{x:Str}:dP x=true↔∀z∈x.cps.toList,z<0x110000:=by
 unfold dP
 rw[<-Tb,ng]
 exact⟨λh z hz=>by simpa using h z hz,λh z hz=>by simpa using h z hz⟩
theorem YY{ws:List Str}(h:∀w∈ws,dP w=true):dP (cU ws)=true:=by
 rw[OC]
 intro z hz
 rw[vI] at hz
 rcases FA 32 hz with rfl | ⟨y,hy,n_⟩
 ·decide
 ·exact OC.mp (h y hy) z n_
theorem OD{P:Int}{f:List Int}(ho:c_ P f):dP (cU (f.map aU))=true:=YY λw hw=>by
 obtain⟨v,hv,rfl⟩:=List.mem_map.mp hw
 exact N7 (ho v hv).1
theorem OE{P:Int}{f:List Int}(hP:P<=9999)(ho:c_ P f):∀w∈f.map aU,g6 w:=λw hw=>by
 obtain⟨v,hv,rfl⟩:=List.mem_map.mp hw
 have:=ho v hv
 exact BN this.1 (by lia)
theorem YZ{P:Int}{f:List Int}{Γ:G}{g:G->R D}(hP:P<=9999)(ho:c_ P f)(hl:f.length<=100)(hg:g Γ = .ok (aR f)):cR (fW g) (c9 (aG (ay lh (ae (gV 0) ak)))) Γ = .ok ((f.map aU).map D.str):=by
 unfold cR
 have nf:D.a_ (f.map D.int)=true:=k_ f
 rw[show fW g Γ = .ok (f.map D.int) by unfold fW;rw[hg];simp only[R.cE,aR,sT,bW nf]]
 show R.guard _ _=_
 rw[bW (by rw[a6];lia),iu]
 refine jC λv hv=>?_
 have ov:=ho v hv
 have e:=tI ov.1 (show v<=10^30 by lia)
 simp only[c9,aG,ay,ae,ak,gV,fy,R.cE,e]
 walk_at "evs"
 try rfl
theorem OF{P:Int}{f:List Int}(hP:P<=9999)(ho:c_ P f)(hl:f.length<=100):yO [aR f] = .ok (.str (cU (f.map aU))):=by
 refine cF rfl ?_
 delta Oz
 exact b7 (vJ (yy (OE hP ho) (by rw[a6];lia)) (jK (YZ hP ho hl rfl)))
theorem yQ{P:Int}{m:Nat}{s:List Int}(l:Bool)(hs:s.length=m)(so:c_ P s)(m3:m<=3):FQ [.int P,.int m,fH l (s.map D.int)] = .ok (aR s):=by
 refine cF rfl ?_
 delta OA
 have el:dF [fH l (s.map D.int)] = .ok (.int (m:Int)):=by
  unfold fH
  cases l<;>simp only[if_true,if_false,wU,dF,a6,hs]
 have nf:D.a_ (s.map D.int)=true:=k_ s
 have es:fW (gV 2) [En.ro (.int P),.ro (.int m),.ro (fH l (s.map D.int))] = .ok (s.map D.int):=by
  unfold fH
  cases l<;>simp only[if_true,if_false,wU,fW,gV,fy,gK,R.cE,sT,bW nf]
 have ec:cR (fW (gV 2)) (c9 (aG (ay (fF rQ) (ae (gV 0) (ae (gC (.int 0)) (ae (aj p4 (gV 1) (gC (.int 1))) ak)))))) [En.ro (.int P),.ro (.int m),.ro (fH l (s.map D.int))] = .ok ((s.map λ_=>true).map D.bl):=by
  unfold cR
  rw[es]
  show R.guard _ _=_
  rw[bW (by rw[a6];lia),iu]
  refine jC λv hv=>?_
  have ov:=so v hv
  have ef:=qk (d:=.int v) (a:=0) (b:=P-1) rfl
  have Y0:qj (.int v) 0 (P-1)=true:=by simp only[qj,ir,decide_eq_true_eq];lia
  rw[Y0] at ef
  walk_at "evs"
  simp only[ef]
  walk_at "evs"
  try rfl
 refine dB (BQ (lA (fj (a:=.int (m:Int)) (b:=.int (m:Int)) (dr (ds:=[fH l (s.map D.int)]) rfl el) rfl ?_)) (yB (b:=true) (lA (dr (ds:=[.lst ((s.map λ_=>true).map D.bl)]) (bX (jK ec) rfl) ?_)))) (b7 (dr (ds:=[fH l (s.map D.int)]) rfl ?_))
 ·walk_at "evs"
  try simp
 ·rw[A0]
  simp
 ·unfold fH
  cases l<;>simp only[if_true,if_false,wU,fL,aR]
theorem tM{P:Int}{ns:List Str}{its:List Item}{n:Nat}{s:List Int}(l:Bool)(N:n7 ns)(p1:3<=P)(p2:P<=9973)(hd:dR P=false)(d3:Item.bP its<=3)(hm:Item.aP its<=30)(ho:Item.bK P ns.length its)(hs:s.length=ns.length)(so:c_ P s)(hn:n<2^150) :
 yP [.str (gO (dw P ns its)),.int n,fH l (s.map D.int)] = .ok (.str (cU ((df P (cM P ns.length (Item.tabs P ns.length its) n) s).map aU))):=by
 have l3:=N.l3
 have er:=vL N p1 p2 hd d3 hm ho
 have ea:=vv (n:=n) (s:=s) p1 p2 l3 (show Item.bP its<=5 by lia) ho hs hn
 have et:=yQ (P:=P) l hs so l3
 have FP:=Item.tabs_ok (show 1<P by lia) its ho
 have tl:=(jI (show 1<P by lia) FP n).1
 have el:=(tm P (cM P ns.length (Item.tabs P ns.length its) n) s).trans tl
 have eo:=EI (show 0<P by lia) (cM P ns.length (Item.tabs P ns.length its) n) s
 generalize df P (cM P ns.length (Item.tabs P ns.length its) n) s=e at *
 have ew:=vG (show P<=9999 by lia) eo (by lia)
 have nN:(bQ false ns).cu=true:=by
  show(D.tup (ns.map D.str)).cu=true
  simp[D.cu,iE]
 have nI:=rT its
 have nT:(D.tup [.int P,bQ false ns,.tup (its.map Item.d)]).cu=true:=by
  generalize bQ false ns=a at *
  generalize D.tup (its.map Item.d)=b at *
  simp[D.cu,D.a_,nN,nI]
 have FT:dF [bQ false ns] = .ok (.int (ns.length:Int)):=by
  show dF [.tup (ns.map D.str)]=_
  simp only[dF,a6]
 refine cF rfl ?_
 delta OB
 generalize gO (dw P ns its)=T at *
 refine cV (d:=.tup [.int P,bQ false ns,.tup (its.map Item.d)]) (fZ (dr (ds:=[.str T]) rfl er) nT) ?_
 refine cV (d:=.int P) (fZ (fj rfl rfl (Fe ..)) rfl) ?_
 refine cV (d:=.int (ns.length:Int)) (fZ (dr (ds:=[bQ false ns]) (bX (fj rfl rfl (tF ..)) rfl) FT) rfl) ?_
 refine b7 (vJ (yy (OE (show P<=9999 by lia) eo) (by rw[a6];lia)) (jK (tK (ds:=[aR e]) (bX ?_ rfl) ew)))
 refine dr (ds:=[.int P,.int (ns.length:Int),.tup (its.map Item.d),.int n,aR s]) ?_ ea
 refine bX rfl (bX rfl (bX (fj rfl rfl (vo ..)) (bX rfl (bX (dr (ds:=[.int P,.int (ns.length:Int),fH l (s.map D.int)]) rfl et) rfl))))
mutual
theorem Item.Y1(P:Int):∀a:Item,(a.eM P).many<=a.many
 | .set x f=>by simp[Item.eM,Item.many]
 | .again n its=>by
   have:=Item.yR P its
   simp only[Item.eM]
   split
   ·simp only[Item.many,Item.aP];lia
   ·simp only[Item.many];lia
theorem Item.yR(P:Int):∀its:List Item,Item.aP (Item.eB P its)<=Item.aP its
 | []=>by simp[Item.eB]
 | a::r=>by
   have h1:=Item.Y1 P a
   have h2:=Item.yR P r
   rw[Item.eB,Item.nY]
   simp only[Item.aP]
   lia
end
mutual
theorem Item.Y2{P:Int}{m:Nat}(hD:dR P=false)(p1:3<=P)(p2:P<=9973):∀a:Item,a.ok P m->a.free=true->(a.eM P).free=true
 | .set x f,ho,hf=>by
   simp only[Item.ok] at ho
   simp only[Item.free,bne_iff_ne] at hf
   have hv:=lq (show 0<P by lia) ho.2.2.2 x.toNat
   obtain⟨b0,b1,b2,b3⟩:=FO hD p1 p2 hv.1 hv.2 hf
   simp only[Item.eM,Item.free,bne_iff_ne]
   unfold fN
   rw[BS (by rw[BR];lia),if_pos rfl]
   exact dM (Int.ne_of_lt b1)
 | .again n its,ho,hf=>by
   simp only[Item.ok] at ho
   simp only[Item.free,wW,beq_iff_eq] at hf
   by_cases q:n=0
   ·subst q
    simp only[Item.eM,if_true,Item.free]
    rfl
   ·have h1:=Item.FU hD p1 p2 its ho.2.2 (hf.resolve_left q)
    simp only[Item.eM,if_neg q,Item.free,h1,Bool.or_true]
theorem Item.FU{P:Int}{m:Nat}(hD:dR P=false)(p1:3<=P)(p2:P<=9973):∀its:List Item,Item.bK P m its->Item.frees its=true->Item.frees (Item.eB P its)=true
 | [],_,_=>rfl
 | a::r,ho,hf=>by
   simp only[Item.bK] at ho
   simp only[Item.frees,ir] at hf
   have h1:=Item.Y2 hD p1 p2 a ho.1 hf.1
   have h2:=Item.FU hD p1 p2 r ho.2 hf.2
   rw[Item.yI] at h2 ⊢
   rw[Item.eB,List.all_append,h2]
   simp[h1]
end
theorem FV(ns:List Str):(bQ false ns).cu=true:=by
 show(D.tup (ns.map D.str)).cu=true
 simp[D.cu,iE]
theorem Y3(P:Int)(ns:List Str)(its:List Item):(D.tup [.int P,bQ false ns,.tup (its.map Item.d)]).cu=true:=by
 have nN:=FV ns
 have nI:=rT its
 generalize bQ false ns=a at *
 generalize D.tup (its.map Item.d)=b at *
 simp[D.cu,D.a_,nN,nI]
theorem Y4(ns:List Str):dF [bQ false ns] = .ok (.int (ns.length:Int)):=by
 show dF [.tup (ns.map D.str)]=_
 simp only[dF,a6]
theorem Y5{φ:List D->R D}{gs:G->R (List D)}{Γ:G}{c:Er}(h:gs Γ = .er c):ay φ gs Γ = .er c:=by unfold ay;rw[h];rfl
theorem Y6{g:G->R D}{gs:G->R (List D)}{Γ:G}{c:Er}(h:g Γ = .er c):ae g gs Γ = .er c:=by unfold ae;rw[h];rfl
theorem OG{g:G->R D}{gs:G->R (List D)}{Γ:G}{d:D}{c:Er}(h:g Γ = .ok d)(h2:gs Γ = .er c):ae g gs Γ = .er c:=by unfold ae;rw[h,h2];rfl
theorem Y7{g:G->R D}{Γ:G}{c:Er}(h:g Γ = .er c):aG g Γ = .er c:=by unfold aG;rw[h];rfl
theorem Y8{i:Nat}{g:G->R D}{Γ:G}{c:Er}(h:g Γ = .er c):bJ i g Γ = .ok (.ex c Γ):=by unfold bJ;rw[h];rfl
theorem vO{P:Int}{ns:List Str}{its:List Item}(N:n7 ns)(p1:3<=P)(p2:P<=9973)(hd:dR P=false)(d3:Item.bP its<=3)(hm:Item.aP its<=30)(ho:Item.bK P ns.length its) :
 BW [.str (gO (dw P ns its))]=if Item.frees its=true then .ok (.str (gO (dw P ns (Item.eB P its)))) else .er .fK:=by
 have l3:=N.l3
 have er:=vL N p1 p2 hd d3 hm ho
 have hl:=Item.nZ its
 have U:=vN hd p1 p2 l3 12 its (by lia) (by lia) (by lia) ho
 have nT:=Y3 P ns its
 have FT:=Y4 ns
 have ea:∀T,ae (gV 2) (ae (ay dF (ae (gV 3) ak)) (ae (aj aI (gV 1) (gC (.int 2))) ak)) [En.ro (.str T),.ro (.tup [.int P,bQ false ns,.tup (its.map Item.d)]),.ro (.int P),.ro (bQ false ns)] = .ok [.int P,.int (ns.length:Int),.tup (its.map Item.d)]:=λT =>
  bX rfl (bX (dr (ds:=[bQ false ns]) rfl FT) (bX (fj rfl rfl (vo ..)) rfl))
 by_cases hf:Item.frees its=true
 ·rw[if_pos hf] at U ⊢
  obtain⟨qo,_⟩:=Item.yK hd p1 p2 its ho hf
  have dU:=Item.yJ P its
  have mU:=Item.yR P its
  have es:=yz (l:=false) N (show 0<=P by lia) (show P<=9999 by lia) (show Item.aP (Item.eB P its)<=60 by lia) (show Item.bP (Item.eB P its)<=4 by lia) qo
  refine cF rfl ?_
  delta FR
  generalize gO (dw P ns its)=T at *
  refine cV (d:=.tup [.int P,bQ false ns,.tup (its.map Item.d)]) (fZ (dr (ds:=[.str T]) rfl er) nT) ?_
  refine cV (d:=.int P) (fZ (fj rfl rfl (Fe ..)) rfl) ?_
  refine cV (d:=bQ false ns) (fZ (fj rfl rfl (tF ..)) (FV ns)) ?_
  exact b7 (dr (ds:=[.int P,bQ false ns,.tup ((Item.eB P its).map Item.d)]) (bX rfl (bX rfl (bX (dr (ea T) U) rfl))) es)
 ·rw[if_neg hf] at U ⊢
  generalize gO (dw P ns its)=T at *
  refine sZ (Γ:=[En.ro (.str T),.ro (.tup [.int P,bQ false ns,.tup (its.map Item.d)]),.ro (.int P),.ro (bQ false ns)]) rfl ?_
  delta FR
  refine cV (d:=.tup [.int P,bQ false ns,.tup (its.map Item.d)]) (fZ (dr (ds:=[.str T]) rfl er) nT) ?_
  refine cV (d:=.int P) (fZ (fj rfl rfl (Fe ..)) rfl) ?_
  refine cV (d:=bQ false ns) (fZ (fj rfl rfl (tF ..)) (FV ns)) ?_
  exact yL (Y5 (OG (d:=.int P) rfl (OG (d:=bQ false ns) rfl (Y6 (dr (ea T) U)))))
theorem OH(a:Nat):∀(n:Nat) (acc:Array Nat),((dN n #[a]).foldl (λx y=>x++y) acc).toList=acc.toList++dN n a
 | 0,acc=>by simp
 | n+1,acc=>by rw[pF,SE,OH a n];simp[pF]
theorem Y9(a:Nat){n:Int}(h:1<=n):(wQ ⟨#[a]⟩ n).cps.toList=dN n.toNat a:=by
 unfold wQ
 rw[if_neg (by lia)]
 split
 ·rename_i q
  have:n=1:=by
   rcases wW _ _ ▸ q with q | q
   ·simpa using q
   ·simp[wK] at q
  subst this
  rfl
 ·show((dN n.toNat #[a]).foldl (λx y=>x++y) #[]).toList=_
  rw[OH]
  rfl
def jL(v:Int)(w:Int):Str:=wQ ⟨#[let1 v]⟩ w
theorem vP{v w:Int}(h:1<=w):(jL v w).cps.toList=dN w.toNat (let1 v):=Y9 _ h
theorem Y_{v w:Int}(h:1<=w):(jL v w).length=w.toNat:=by
 have:=congrArg Kq (vP (v:=v) h)
 simpa [wK] using this
theorem OI{v w:Int}(h:1<=w):∀c∈(jL v w).cps.toList,97<=c/\c<=122:=λc hc=>by
 rw[vP h] at hc
 rw[z9 hc]
 exact YD v
theorem FW{u v w:Int}(h:1<=w)(hu:0<=u)(hv:u<v)(h2:v<26):jL u w≠jL v w:=λz=>by
 have e:=congrArg (λs:Str=>s.cps.toList) z
 rw[vP h,vP h] at e
 obtain⟨k,hk⟩:∃k,w.toNat=k+1:=⟨w.toNat-1,by lia⟩
 rw[hk,pF,pF] at e
 have:=(List.cons.inj e).1
 unfold let1 at this
 lia
theorem Za{v w:Int}(h:1<=w):jL v w≠"set"/\jL v w≠"again":=by
 refine⟨λz=>?_,λz=>?_⟩
 ·have e:=congrArg (λs:Str=>s.cps.toList) z
  rw[vP h,show("set":Str).cps.toList=[115,101,116] by decide +kernel] at e
  have h1:=z9 (show 115∈dN w.toNat (let1 v) by rw[e];simp)
  have h2:=z9 (show 101∈dN w.toNat (let1 v) by rw[e];simp)
  lia
 ·have e:=congrArg (λs:Str=>s.cps.toList) z
  rw[vP h,show("again":Str).cps.toList=[97,103,97,105,110] by decide +kernel] at e
  have h1:=z9 (show 103∈dN w.toNat (let1 v) by rw[e];simp)
  have h2:=z9 (show 97∈dN w.toNat (let1 v) by rw[e];simp)
  lia
def mF(a w:Int)(n:Nat):List Str:=(eY n).map λ(k:Nat)=>jL (a+(k:Int)) w
theorem Zb{a w:Int}{n:Nat}(a0:0<=a)(a1:a<24)(w1:1<=w)(w8:w<=8)(n1:1<=n)(n3:n<=3):n7 (mF a w n):=by
 have mem:∀x∈mF a w n,∃v,x=jL v w:=λx hx=>by
  obtain⟨k,_,rfl⟩:=List.mem_map.mp hx
  exact⟨_,rfl⟩
 refine⟨⟨?_,λx hx=>?_,by simp[mF];exact n1,by simp[mF];exact n3⟩,λx hx=>?_,λx hx=>?_,λx hx=>?_⟩
 ·have q1:jL a w≠jL (a+1) w:=FW w1 a0 (by lia) (by lia)
  have q2:jL a w≠jL (a+2) w:=FW w1 a0 (by lia) (by lia)
  have q3:jL (a+1) w≠jL (a+2) w:=FW w1 (by lia) (by lia) (by lia)
  have:n=1∨n=2∨n=3:=by lia
  rcases this with rfl | rfl | rfl
  ·simp[mF,wO]
  ·simp[mF,wO,q1]
  ·simp[mF,wO,q1,q2,q3]
 ·obtain⟨v,rfl⟩:=mem x hx
  exact YF (OI w1)
 ·obtain⟨v,rfl⟩:=mem x hx
  rw[Y_ w1]
  lia
 ·obtain⟨v,rfl⟩:=mem x hx
  exact OI w1
 ·obtain⟨v,rfl⟩:=mem x hx
  exact Za w1
theorem Zc(a b:Str):(a++b).cps.toList=a.cps.toList++b.cps.toList:=by rw[SO,Array.toList_append]
theorem Zd{P:Int}{ns:List Str}{its:List Item}(h:ns≠[]):(((((("prime ":Str)++aU P)++"\nboxes ")++cU ns)++"\n")++cU ("do"::Item.bE ns its))=gO (dw P ns its):=by
 have e:gO (dw P ns its)=kN (one 10) ((dw P ns its).map cU):=by unfold gO;rw[BP];exact KL _ _
 refine KJ (Array.toList_inj.mp ?_)
 rw[e]
 show _=(kN (one 10) [cU ["prime",aU P],cU ("boxes"::ns),cU ("do"::Item.bE ns its)]).cps.toList
 have eb:(cU ("boxes"::ns)).cps.toList=("boxes":Str).cps.toList++32::(cU ns).cps.toList:=by
  rw[vI,vI]
  cases ns with
  | nil=>exact absurd rfl h
  | cons x r=>rw[ti]
 rw[ti,ti,<-Yy,eb]
 show _=(("prime ":Str)++aU P).cps.toList++10::((("boxes":Str).cps.toList++32::(cU ns).cps.toList)++10::(cU ("do"::Item.bE ns its)).cps.toList)
 simp only[Zc,show("\nboxes ":Str).cps.toList=10::(("boxes":Str).cps.toList++[32]) by decide +kernel,show("\n":Str).cps.toList=[10] by decide +kernel,pG,oK,pI]
theorem OJ{P:Int}{m:Nat}:∀(k:Nat) (its:List Item),Item.bP its<k->Item.aP its<=1000->Item.bK P m its->rY k [.tup (its.map Item.d)] = .ok (.bl (!Item.frees its))
 | 0,_,h,_,_=>by lia
 | k+1,its,h,YW,ho=>by
   show bB 1 2 (BV (rY k)) _=_
   refine cF rfl ?_
   delta BV
   have hl:=Item.nZ its
   refine YK its Item.d (λa=>if a.free=true then none else some (D.bl true)) (λΓ=>∃x1,Γ=[.ro (.tup (its.map Item.d)),x1]) ?_ ⟨_,rfl⟩ ?_ ?_ ?_
   ·walk_at "evs"
   ·rintro a ha Γ ⟨x1,rfl⟩
    have cA:=Item.iD.mp ho a ha
    show _∨_
    cases a with
    | set x f =>
      simp only[Item.ok] at cA
      obtain⟨y,rfl⟩:∃y:Nat,x=(y:Int):=⟨x.toNat,by lia⟩
      have va:=FG (r:=f) (p:=y) (by lia)
      by_cases q:vec f y=0
      ·refine .inr ⟨_,if_neg (by simp[Item.free,q]),qc (jG ?_ (b7 rfl))⟩
       simp only[sD,sE]
       walk_at "evs"
       simp only[lj,aI,va,q]
       walk_at "evs"
       try rfl
      ·have bq:(vec f y==0)=false:=by simp[q]
       refine .inl ⟨if_pos (by simp[Item.free,q]),_,dB ?_ (rG ?_),⟨_,rfl⟩⟩
       ·simp only[sD,sE]
        walk_at "evs"
        simp only[lj,aI,va]
        walk_at "evs"
        simp only[bq]
       ·simp only[sD,sE]
        walk_at "evs"
    | again n i =>
      have h1:=Item.ji.mp (a7 (Item.bP its)) _ ha
      have h2:=Item.rR ha
      simp only[Item.deep] at h1
      simp only[Item.many] at h2
      simp only[Item.ok] at cA
      have ih:=OJ (P:=P) (m:=m) k i (by lia) (by lia) cA.2.2
      by_cases q:0<n
      ·have dq:decide (0<n)=true:=decide_eq_true q
       have nq:(n==0)=false:=by simp;lia
       cases e:Item.frees i with
       | true =>
         rw[e] at ih
         refine .inl ⟨if_pos (by simp[Item.free,e]),_,dB ?_ (rG ?_),⟨_,rfl⟩⟩
         ·simp only[sD,sE]
          walk_at "evs"
         ·simp only[sD,sE]
          walk_at "evs"
          simp only[dq,ih]
          walk_at "evs"
          try rfl
       | false =>
         rw[e] at ih
         refine .inr ⟨_,if_neg (by rw[Item.free,nq,e];decide),dB ?_ (jG ?_ (b7 rfl))⟩
         ·simp only[sD,sE]
          walk_at "evs"
         ·simp only[sD,sE]
          walk_at "evs"
          simp only[dq,ih]
          walk_at "evs"
          try rfl
      ·have dq:decide (0<n)=false:=decide_eq_false q
       have nq:(n==0)=true:=by simp;lia
       refine .inl ⟨if_pos (by rw[Item.free,nq];rfl),_,dB ?_ (rG ?_),⟨_,rfl⟩⟩
       ·simp only[sD,sE]
        walk_at "evs"
       ·simp only[sD,sE]
        walk_at "evs"
        simp only[dq]
        try walk_at "evs"
   ·rintro hN Γ ⟨x1,rfl⟩
    refine b7 ?_
    have:Item.frees its=true:=by
     rw[Item.yI,ng]
     intro a ha
     have:=List.findSome?_eq_none_iff.mp hN a ha
     by_cases q:a.free=true
     ·exact q
     ·rw[if_neg q] at this;cases this
    rw[this]
    rfl
   ·intro v hv
    obtain⟨a,ha,e⟩:=List.exists_of_findSome?_eq_some hv
    by_cases q:a.free=true
    ·rw[if_pos q] at e;cases e
    ·rw[if_neg q] at e
     cases e
     have:Item.frees its=false:=by
      rw[Item.yI,List.all_eq_false]
      exact⟨a,ha,q⟩
     rw[this]
     rfl
noncomputable section
def FX:G->R Fl :=
 (aD (bJ 1 (aG (ay Bf (ae (ay o7 (ae (gV 0) (ae (gC (.int 0)) ak))) ak))))
 (aD (bJ 2 (aG (aj d9 (gC (.int 1)) (aj eG (ay o7 (ae (gV 0) (ae (gC (.int 1)) ak))) (gC (.int 3))))))
 (aD (bJ 3 (aG (aj eG (aj jY (ay o7 (ae (gV 0) (ae (gC (.int 1)) ak))) (gC (.int 3))) (gC (.int 24)))))
 (aD (fG 4 (cR (mq (gV 2)) (c9 (aG (aj xV (aj dIxS (gC (.str "abcdefghijklmnopqrstuvwxyz")) (aj d9 (gV 4) (gV 0))) (aj d9 (gC (.int 1)) (aj eG (ay (fF o7) (ae (gV 1) (ae (gC (.int 4)) ak))) (gC (.int 8)))))))))
 (aD (bJ 5 (aG (ay ve (ae (ay o7 (ae (gV 0) (ae (gC (.int 2)) ak))) (ae (gV 1) (ae (gV 2) ak))))))
 (aD (bJ 6 (aG (aj eG (ay o7 (ae (gV 0) (ae (gC (.int 3)) ak))) (aj d9 (aj xG (gC (.int 10)) (gC (.int 30))) (gC (.int 1))))))
 (aD (bJ 7 (aG (ay Bq (ae (p7 (gV 0) (nK (gC (.int 5))) (nK (gC (.int 63)))) (ae (gV 1) (ae (gV 2) (ae (gC (.int 2)) ak)))))))
 (aD (bJ 8 (aG (aj y3y (aj y3y (aj y3y (aj y3y (gC (.str "prime ")) (ay lh (ae (gV 1) ak))) (gC (.str "\nboxes "))) (nP " " (gV 4))) (gC (.str "\n")))))
 (aD (bJ 8 (aG (aj y3y (gV 8) (nP " " (gL (iC (eA (ae (gC (.str "do")) ak)) (fV (rV 12) (ae (gV 4) (ae (gV 7) ak)))))))))
 (aD (bJ 9 (aG (ay Bu (ae (gV 1) (ae (gV 2) (ae (gV 7) (ae (gV 6) (ae (gV 5) ak))))))))
 (aD (b5 (gT (aj gM (ay yP (ae (gV 8) (ae (gV 6) (ae (gL (jZ (gV 5))) ak)))) (ay yO (ae (gV 9) ak)))) (a8 (gC (.bl false))) cL)
 (aD (bJ 10 (aG (gC (.str ""))))
 (aD (bJ 11 (aG (gC (.bl false))))
 (aD (sW 12 (bJ 10 (aG (ay BW (ae (gV 8) ak)))) (bJ 11 (aG (kq (AX 12 [.fK]) (AX 12 [.AW])))))
 (aD (b5 (gT (ay (rY 12) (ae (gV 7) ak))) (a8 (gV 11)) cL)
 (aD (b5 (nG (gT (gV 11)) (jB (gT (xJ A4 (gV 10))))) (a8 (gC (.bl false))) cL)
 (aD (b5 (gT (aj gM (ay yP (ae (gV 10) (ae (gV 6) (ae (gV 9) ak)))) (ay yO (ae (gV 5) ak)))) (a8 (gC (.bl false))) cL)
 (a8 (aj dQ (ay yP (ae (ay BW (ae (gV 10) ak)) (ae (gV 6) (ae (gV 5) ak)))) (ay yO (ae (gV 9) ak)))))))))))))))))))))
def BX:List D->R D:=bB 1 13 FX
end
theorem yS{a b:Str}(h:a.length+b.length<=100000):y3y (.str a) (.str b) = .ok (.str (a++b)):=by
 show R.guard _ _=_
 rw[bW h]
theorem Ze{i:Nat}{t u v:G->R Fl}{Γ Γ' sX:G}{c:Er}{r:R Fl}(h:t Γ = .ok (.ex c Γ'))(hu:u (Γ'.set i (.ro (.exc c))) = .ok (.nx sX))(h2:v (sX.set i .no)=r):aD (sW i t u) v Γ=r:=by
 refine jh (Γ':=sX.set i .no) ?_ h2
 unfold sW
 rw[h]
 show(u (Γ'.set i (.ro (.exc c)))>>=_)=_
 rw[hu]
 rfl
theorem Zf{i:Nat}{t u v:G->R Fl}{Γ Γ':G}{r:R Fl}(h:t Γ = .ok (.nx Γ'))(h2:v Γ'=r):aD (sW i t u) v Γ=r:=by
 refine jh (Γ':=Γ') ?_ h2
 unfold sW
 rw[h]
 rfl
theorem Zg:WX BX:=by
 intro ns hn
 obtain⟨P,eP,p1,p2,hP⟩:=xZ (de ns 0)
 obtain⟨m,em,m1,m3⟩:=XN (de ns 1)
 have hp:1<P:=by lia
 have N:=Zb (a:=de ns 1/3%24) (w:=1+de ns 4%8) (n:=m) (by lia) (by lia) (by lia) (by lia) (by lia) m3
 have nl:(mF (de ns 1/3%24) (1+de ns 4%8) m).length=m:=by simp[mF]
 have en:∀Γ,cR (mq (gV 2)) (c9 (aG (aj xV (aj dIxS (gC (.str "abcdefghijklmnopqrstuvwxyz")) (aj d9 (gV 4) (gV 0))) (aj d9 (gC (.int 1)) (aj eG (ay (fF o7) (ae (gV 1) (ae (gC (.int 4)) ak))) (gC (.int 8))))))) (En.ro (.lst (ns.map D.int)) :: .ro (.int P) :: .ro (.int m) :: .ro (.int (de ns 1/3%24))::Γ) = .ok ((mF (de ns 1/3%24) (1+de ns 4%8) m).map D.str):=λΓ=>by
  unfold cR
  rw[show mq (gV 2) (En.ro (.lst (ns.map D.int)) :: .ro (.int P) :: .ro (.int m) :: .ro (.int (de ns 1/3%24))::Γ) = .ok (iW 0 m) by walk_at "evs";try rfl]
  show R.guard _ _=_
  rw[bW (by rw[sU];lia)]
  unfold iW mF
  rw[iu]
  refine jC λk hk=>?_
  have fY:=List.mem_range.mp hk
  have e1:=YE (de ns 1/3%24+(k:Int))
  rw[qX (by lia) (by lia)] at e1
  have e2:xV (.str ⟨#[let1 (de ns 1/3%24+(k:Int))]⟩) (.int (1+de ns 4%8)) = .ok (.str (jL (de ns 1/3%24+(k:Int)) (1+de ns 4%8))):=by
   show R.guard _ _=_
   rw[bW ⟨by simp[wK],by lia,by lia⟩]
   rfl
  simp only[zZ]
  refine(congrArg (λr:R D=>r>>=λe=>R.ok (some e)) (fZ (fj (fj (a:=.str "abcdefghijklmnopqrstuvwxyz") (b:=.int (de ns 1/3%24+(k:Int))) rfl ?_ e1) (b:=.int (1+de ns 4%8)) ?_ e2) rfl)).trans rfl
  ·walk_at "evs"
  ·walk_at "evs"
   try rfl
 generalize mF (de ns 1/3%24) (1+de ns 4%8) m=nm at *
 obtain⟨its,ei,ho,hd,hc⟩:=Xv (cs:=gN ns (some 5) (some 63)) (P:=P) (many:=m) (ag:=2) p1 p2 (by lia) (by lia) (dD (XM ns _ _) hn)
 have hl:=Item.nZ its
 obtain⟨n,FY,BY⟩:∃n:Nat,de ns 3%(10^30+1)=(n:Int)/\n<2^150:=by
  have h1:=SM (de ns 3) (show(10^30+1:Int)≠0 by decide)
  have h2:=SN (de ns 3) (show(0:Int)<10^30+1 by decide)
  exact⟨(de ns 3%(10^30+1)).toNat,by lia,by lia⟩
 have sl:=EG P m (de ns 2)
 have so:=EH (P:=P) (by lia) m (de ns 2)
 generalize hs:nV P m (de ns 2)=s at sl so
 subst nl
 have BZ:P<=9999:=by lia
 have FZ:=Item.tabs_ok hp its ho
 have ew:=Of (P:=P) (ns:=nm) (l:=true) m3 BZ 12 its (by lia) (by lia) ho
 have ea:=vv (n:=n) p1 p2 m3 (show Item.bP its<=5 by lia) ho sl BY
 have eL:=λ(l:Bool)=>tM (n:=n) (s:=s) l N p1 p2 hP hd hc ho sl so BY
 have eU:=vO N p1 p2 hP hd hc ho
 have eX:=OJ (P:=P) (m:=nm.length) 12 its (by lia) (by lia) ho
 have tl:=(tm P (cM P nm.length (Item.tabs P nm.length its) n) s).trans (jI hp FZ n).1
 have te:=EI (show 0<P by lia) (cM P nm.length (Item.tabs P nm.length its) n) s
 have wl:=Item.mD (P:=P) (ns:=nm) m3 _ its (a7 _) ho
 have n8:=FD N (show 0<=P by lia) BZ (show Item.aP its<=60 by lia) ho
 have pD:=(n8 ("do"::Item.bE nm its) (by simp[dw])).2
 have pN:∀w∈nm,g6 w:=λw hw=>Fy N hw
 have lN:=yx pN
 have lD:=yx pD
 simp only[cx] at lD
 have lP:=vd (show 0<=P by lia) (show P<=10^30 by lia)
 have tp:=Zd (P:=P) (ns:=nm) (its:=its) (λz=>by rw[z] at m1;simp at m1)
 have l1:("prime ":Str).length=6:=by decide +kernel
 have l2:("\nboxes ":Str).length=7:=by decide +kernel
 have l3:("\n":Str).length=1:=by decide +kernel
 have nI:=rT its
 refine cF rfl ?_
 unfold FX
 refine cV (d:=.int P) (by walk_at "evs";simp only[eP];walk_at "evs") ?_
 refine cV (d:=.int (nm.length:Nat)) (by walk_at "evs";rw[em]) ?_
 refine cV (d:=.int (de ns 1/3%24)) (by walk_at "evs") ?_
 refine kz (en _) ?_
 refine cV (d:=aR s) (by walk_at "evs";rw[<-hs];rfl) ?_
 refine cV (d:=.int n) (by walk_at "evs";rw[FY]) ?_
 refine cV (d:=.tup (its.map Item.d)) (by walk_at "evs";rw[XJ];simp only[ei];walk_at "evs") ?_
 show aD _ _ [En.ro (.lst (ns.map D.int)),.ro (.int P),.ro (.int (nm.length:Nat)),.ro (.int (de ns 1/3%24)),.own (nm.map D.str),.ro (aR s),.ro (.int n),.ro (.tup (its.map Item.d)),.no,.no,.no,.no,.no]=_
 refine cV (d:=.str ((((("prime ":Str)++aU P)++"\nboxes ")++cU nm)++"\n")) (fZ (fj (fj (fj (fj rfl (dr (ds:=[.int P]) rfl (tI (show 0<=P by lia) (show P<=10^30 by lia))) (yS ?_)) rfl (yS ?_)) (vJ (yy pN (by lia)) rfl) (yS ?_)) rfl (yS ?_)) rfl) ?_
 ·rw[l1];lia
 ·rw[qZ,l1,l2];lia
 ·rw[qZ,qZ,l1,l2]
  show _+(cU nm).length<=_
  lia
 ·rw[qZ,qZ,qZ,l1,l2,l3]
  show _+(cU nm).length+_<=_
  lia
 refine cV (d:=.str (gO (dw P nm its))) (fZ (fj (a:=.str ((((("prime ":Str)++aU P)++"\nboxes ")++cU nm)++"\n")) (b:=.str (cU ("do"::Item.bE nm its))) rfl (vJ (yy pD (by simp only[cx];lia)) (jK (ds:=(("do":Str)::Item.bE nm its).map D.str) (vK (us:=["do"]) (tJ (ws:=["do"]) rfl (by simp)) (tK (ds:=[bQ true nm,.tup (its.map Item.d)]) (bX rfl (bX rfl rfl)) ew) (by simp only[cx,i_];lia)))) (by rw[yS,tp];rw[qZ,qZ,qZ,qZ,l1,l2,l3];lia)) rfl) ?_
 generalize hT:gO (dw P nm its)=T at *
 show aD _ _ [En.ro (.lst (ns.map D.int)),.ro (.int P),.ro (.int (nm.length:Nat)),.ro (.int (de ns 1/3%24)),.own (nm.map D.str),.ro (aR s),.ro (.int n),.ro (.tup (its.map Item.d)),.ro (.str T),.no,.no,.no,.no]=_
 generalize he:df P (cM P nm.length (Item.tabs P nm.length its) n) s=e at *
 refine cV (d:=aR e) (fZ (dr (ds:=[.int P,.int (nm.length:Nat),.tup (its.map Item.d),.int n,aR s]) rfl ea) (z3u e)) ?_
 have rE:=OF BZ te (by lia)
 have rS:=OF BZ so (by lia)
 have kE:=OD te
 have kS:=OD so
 refine dB (lA (fj (dr (ds:=[.str T,.int n,fH true (s.map D.int)]) (bX rfl (bX rfl (bX (jK (ds:=s.map D.int) ?_) rfl))) (eL true)) (dr (ds:=[aR e]) rfl rE) ?_)) ?_
 ·show jZ (gV 5) [En.ro (.lst (ns.map D.int)),.ro (.int P),.ro (.int (nm.length:Nat)),.ro (.int (de ns 1/3%24)),.own (nm.map D.str),.ro (aR s),.ro (.int n),.ro (.tup (its.map Item.d)),.ro (.str T),.ro (aR e),.no,.no,.no]=_
  unfold aR
  have nf:D.a_ (s.map D.int)=true:=k_ s
  walk_at "evs"
 ·rw[vC kE kE,decide_eq_true rfl];rfl
 refine cV (d:=.str "") (fZ rfl rfl) ?_
 refine cV (d:=.bl false) (fZ rfl rfl) ?_
 show aD _ _ [En.ro (.lst (ns.map D.int)),.ro (.int P),.ro (.int (nm.length:Nat)),.ro (.int (de ns 1/3%24)),.own (nm.map D.str),.ro (aR s),.ro (.int n),.ro (.tup (its.map Item.d)),.ro (.str T),.ro (aR e),.ro (.str ""),.ro (.bl false),.no]=_
 cases hf:Item.frees its with
 | false =>
   rw[hf] at eU eX
   rw[if_neg (by decide)] at eU
   refine Ze (c:=.fK) (Y8 (Y7 (dr (ds:=[.str T]) rfl eU))) (nO (d:=.bl true) (fZ ?_ rfl)) ?_
   ·show kq _ _ [En.ro (.lst (ns.map D.int)),.ro (.int P),.ro (.int (nm.length:Nat)),.ro (.int (de ns 1/3%24)),.own (nm.map D.str),.ro (aR s),.ro (.int n),.ro (.tup (its.map Item.d)),.ro (.str T),.ro (aR e),.ro (.str ""),.ro (.bl false),.ro (.exc .fK)]=_
    walk_at "evs"
    try simp[uW]
    try walk_at "evs"
   ·exact qc (jG (lA (dr (ds:=[.tup (its.map Item.d)]) rfl eX)) (b7 rfl))
 | true =>
   rw[hf] at eU eX
   rw[if_pos rfl] at eU
   obtain⟨qo,hU⟩:=Item.yK hP p1 p2 its ho hf
   have dU:=Item.yJ P its
   have mU:=Item.yR P its
   have fU:=Item.FU hP p1 p2 its ho hf
   obtain⟨OK,hV⟩:=Item.yK hP p1 p2 _ qo fU
   have dV:=Item.yJ P (Item.eB P its)
   have mV:=Item.yR P (Item.eB P its)
   have F4:=Item.tabs_ok hp _ qo
   have Zh:=Item.tabs_ok hp _ OK
   have OL:=vO N p1 p2 hP (show Item.bP (Item.eB P its)<=3 by lia) (by lia) qo
   rw[if_pos fU] at OL
   have b1:=fe.turn (jI hp FZ n) (fe.pow hp FZ F4 hU n) sl so
   rw[he] at b1
   have b2:=fe.turn (jI hp F4 n) (fe.pow hp F4 Zh hV n) tl te
   rw[b1] at b2
   have g1:=tM (n:=n) (s:=e) false N p1 p2 hP (show Item.bP (Item.eB P its)<=3 by lia) (by lia) qo tl te BY
   have g2:=tM (n:=n) (s:=s) false N p1 p2 hP (show Item.bP (Item.eB P (Item.eB P its))<=3 by lia) (by lia) OK sl so BY
   rw[b1] at g1
   rw[b2] at g2
   generalize gO (dw P nm (Item.eB P its))=T1 at *
   generalize gO (dw P nm (Item.eB P (Item.eB P its)))=T2 at *
   refine Zf (nO (d:=.str T1) (fZ (dr (ds:=[.str T]) rfl eU) rfl)) ?_
   refine dB (lA (dr (ds:=[.tup (its.map Item.d)]) rfl eX)) ?_
   refine dB (BQ (lA rfl) (yB (b:=true) (lA rfl))) ?_
   refine dB (lA (fj (dr (ds:=[.str T1,.int n,aR e]) rfl g1) (dr (ds:=[aR s]) rfl rS) ?_)) ?_
   ·rw[vC kS kS,decide_eq_true rfl];rfl
   refine b7 (fj (dr (ds:=[.str T2,.int n,aR s]) (bX (dr (ds:=[.str T1]) rfl OL) rfl) g2) (dr (ds:=[aR e]) rfl rE) ?_)
   rw[vB kE kE,decide_eq_true rfl]
end L3
namespace L3
open PySem PySem.Spec PyProof.Rows L2
abbrev St:=L2.St
instance:Monad R where
 pure:=R.ok
 bind:=R.bind
mutual
def Is(K:aA)(H:Hp):D->V->Prop
 | .cH,v=>v = .cH
 | .bl b,v=>v = .bl b
 | .int i,v=>v = .int i
 | .str x,v=>v = .str x
 | .tup ds,v=>∃a xs,v = .ref a/\cy K H a xs/\ao K H ds xs
 | .lst ds,v=>∃a xs,v = .ref a/\b9 K H a xs/\ao K H ds xs
 | .jX,v=>∃a ob,v = .ref a/\H a=some (.gq ob (.own 0))/\ob.cls = .type "dict"
 | .exc c,v=>∃e oe C,v = .ref e/\H e=some (.gq oe (.own 0))/\oe.cls = .ref C/\fv K cQ c.nm=some (some (.ref C))
def ao(K:aA)(H:Hp):List D->List V->Prop
 | [],xs=>xs=[]
 | d::ds,xs=>∃x r,xs=x::r/\Is K H d x/\ao K H ds r
end
structure Sub (K:aA) (H H':Hp):Prop where
 t:∀a xs,cy K H a xs->cy K H' a xs
 l:∀a xs,b9 K H a xs->b9 K H' a xs
 x:∀a o u,H a=some (.gq o u)->H' a=some (.gq o u)
theorem tN{K:aA}{H H':Hp}{a:Addr}{xs:List V}(e:aO H H')(h:cy K H a xs):cy K H' a xs:=by
 rcases h with (h | ⟨o,h⟩) | h
 ·exact .inl (.inl (e _ _ h))
 ·exact .inl (.inr ⟨o,e _ _ h⟩)
 ·exact .inr h
theorem Sub.of_same{K:aA}{H H':Hp}(e:aO H H'):Sub K H H':=⟨λ_ _ h=>tN e h,λ_ _ h=>e.seq h,λ_ _ _ h=>e _ _ h⟩
mutual
theorem Is.sub{K:aA}{H H':Hp}(s:Sub K H H'):∀(d:D) (v:V),Is K H d v->Is K H' d v
 | .cH,_,h=>h
 | .bl _,_,h=>h
 | .int _,_,h=>h
 | .str _,_,h=>h
 | .tup ds,v,h=>by
   unfold Is at h ⊢
   obtain⟨a,xs,e,h1,h2⟩:=h
   exact⟨a,xs,e,s.t a xs h1,ao.sub s ds xs h2⟩
 | .lst ds,v,h=>by
   unfold Is at h ⊢
   obtain⟨a,xs,e,h1,h2⟩:=h
   exact⟨a,xs,e,s.l a xs h1,ao.sub s ds xs h2⟩
 | .jX,v,h=>by
   unfold Is at h ⊢
   obtain⟨a,ob,e,h1,h2⟩:=h
   exact⟨a,ob,e,s.x a ob _ h1,h2⟩
 | .exc c,v,h=>by
   unfold Is at h ⊢
   obtain⟨a,oe,C,e,h1,h2⟩:=h
   exact⟨a,oe,C,e,s.x a oe _ h1,h2⟩
theorem ao.sub{K:aA}{H H':Hp}(s:Sub K H H'):∀(ds:List D) (xs:List V),ao K H ds xs->ao K H' ds xs
 | [],_,h=>h
 | d::ds,xs,h=>by
   unfold ao at h ⊢
   obtain⟨x,r,e,h1,h2⟩:=h
   exact⟨x,r,e,Is.sub s d x h1,ao.sub s ds r h2⟩
end
theorem Is.same{K:aA}{H H':Hp}{d:D}{v:V}(h:Is K H d v)(e:aO H H'):Is K H' d v:=Is.sub (.of_same e) d v h
theorem ao.same{K:aA}{H H':Hp}{ds:List D}{xs:List V}(h:ao K H ds xs)(e:aO H H'):ao K H' ds xs:=ao.sub (.of_same e) ds xs h
theorem Is.bU{K:aA}{H:Hp}{i:Int}{v:V}:Is K H (.int i) v↔v = .int i:=by unfold Is;rfl
theorem Is.gv{K:aA}{H:Hp}{b:Bool}{v:V}:Is K H (.bl b) v↔v = .bl b:=by unfold Is;rfl
theorem Is.gx{K:aA}{H:Hp}{x:Str}{v:V}:Is K H (.str x) v↔v = .str x:=by unfold Is;rfl
theorem Is.B0{K:aA}{H:Hp}{v:V}:Is K H .cH v↔v = .cH:=by unfold Is;rfl
theorem Is.fB{K:aA}{H:Hp}{ds:List D}{v:V}:Is K H (.tup ds) v↔∃a xs,v = .ref a/\cy K H a xs/\ao K H ds xs:=by conv=>lhs;unfold Is
theorem Is.fm{K:aA}{H:Hp}{ds:List D}{v:V}:Is K H (.lst ds) v↔∃a xs,v = .ref a/\b9 K H a xs/\ao K H ds xs:=by conv=>lhs;unfold Is
theorem Is.OM{K:aA}{H:Hp}{c:Er}{v:V}:Is K H (.exc c) v↔∃e oe C,v = .ref e/\H e=some (.gq oe (.own 0))/\oe.cls = .ref C/\fv K cQ c.nm=some (some (.ref C)):=by conv=>lhs;unfold Is
theorem ao.jb{K:aA}{H:Hp}{xs:List V}:ao K H [] xs↔xs=[]:=by unfold ao;rfl
theorem ao.i4{K:aA}{H:Hp}{d:D}{ds:List D}{xs:List V}:ao K H (d::ds) xs↔∃x r,xs=x::r/\Is K H d x/\ao K H ds r:=by conv=>lhs;unfold ao
theorem ao.nil{K:aA}{H:Hp}:ao K H [] []:=ao.jb.mpr rfl
theorem ao.cons{K:aA}{H:Hp}{d:D}{ds:List D}{x:V}{xs:List V}(h:Is K H d x)(t:ao K H ds xs):ao K H (d::ds) (x::xs):=ao.i4.mpr ⟨x,xs,rfl,h,t⟩
theorem ao.length{K:aA}{H:Hp}:∀{ds:List D} {xs:List V},ao K H ds xs->ds.length=xs.length
 | [],xs,h=>by rw[ao.jb.mp h];rfl
 | d::ds,xs,h=>by
   obtain⟨x,r,rfl,_,t⟩:=ao.i4.mp h
   rw[cx,cx,ao.length t]
theorem ao.get{K:aA}{H:Hp}:∀{ds:List D} {xs:List V} {i:Nat} {d:D},ao K H ds xs->ds[i]? = some d->∃x,xs[i]? = some x/\Is K H d x
 | [],_,_,_,_,e=>by simp at e
 | d::ds,xs,0,d',h,e=>by
   obtain⟨x,r,rfl,hx,t⟩:=ao.i4.mp h
   simp at e;subst e
   exact⟨x,rfl,hx⟩
 | d::ds,xs,i+1,d',h,e=>by
   obtain⟨x,r,rfl,hx,t⟩:=ao.i4.mp h
   obtain⟨y,e1,hy⟩:=ao.get (i:=i) t (by simpa using e)
   exact⟨y,by simpa using e1,hy⟩
theorem ao.yT{K:aA}{H:Hp}{ds:List D}{xs:List V}{i:Nat}{x:V}(h:ao K H ds xs)(e:xs[i]? = some x):∃d,ds[i]? = some d/\Is K H d x:=by
 have hi:i<xs.length:=(List.getElem?_eq_some_iff.mp e).1
 have hd:i<ds.length:=by rw[h.length];exact hi
 obtain⟨y,e1,hy⟩:=h.get (eO hd)
 rw[e] at e1;cases e1
 exact⟨_,eO hd,hy⟩
theorem ao.append{K:aA}{H:Hp}:∀{ds es:List D} {xs ys:List V},ao K H ds xs->ao K H es ys->ao K H (ds++es) (xs++ys)
 | [],_,_,_,h,t=>by rw[ao.jb.mp h];exact t
 | d::ds,es,xs,ys,h,t=>by
   obtain⟨x,r,rfl,hx,tr⟩:=ao.i4.mp h
   exact ao.cons hx (ao.append tr t)
theorem ao.drop{K:aA}{H:Hp}:∀{ds:List D} {xs:List V} (n:Nat),ao K H ds xs->ao K H (ds.drop n) (xs.drop n)
 | _,_,0,h=>h
 | [],xs,n+1,h=>by rw[ao.jb.mp h];exact ao.nil
 | d::ds,xs,n+1,h=>by
   obtain⟨x,r,rfl,hx,tr⟩:=ao.i4.mp h
   exact ao.drop n tr
theorem ao.take{K:aA}{H:Hp}:∀{ds:List D} {xs:List V} (n:Nat),ao K H ds xs->ao K H (ds.take n) (xs.take n)
 | _,_,0,_=>by rw[a8x,a8x];exact ao.nil
 | [],xs,n+1,h=>by rw[ao.jb.mp h];exact ao.nil
 | d::ds,xs,n+1,h=>by
   obtain⟨x,r,rfl,hx,tr⟩:=ao.i4.mp h
   exact ao.cons hx (ao.take n tr)
theorem ao.set{K:aA}{H:Hp}{d':D}{x':V}(q:Is K H d' x'):∀{ds:List D} {xs:List V} (n:Nat),ao K H ds xs->ao K H (ds.set n d') (xs.set n x')
 | [],xs,n,h=>by rw[ao.jb.mp h];exact ao.nil
 | d::ds,xs,0,h=>by
   obtain⟨x,r,rfl,hx,tr⟩:=ao.i4.mp h
   exact ao.cons q tr
 | d::ds,xs,n+1,h=>by
   obtain⟨x,r,rfl,hx,tr⟩:=ao.i4.mp h
   exact ao.cons hx (ao.set q n tr)
theorem ao.ints{K:aA}{H:Hp}:∀ns:List Int,ao K H (ns.map D.int) (ns.map V.int)
 | []=>ao.nil
 | n::ns=>ao.cons (Is.bU.mpr rfl) (ao.ints ns)
theorem ao.F5{K:aA}{H:Hp}:∀{ns:List Int} {xs:List V},ao K H (ns.map D.int) xs->xs=ns.map V.int
 | [],xs,h=>ao.jb.mp h
 | n::ns,xs,h=>by
   obtain⟨x,r,rfl,hx,tr⟩:=ao.i4.mp h
   rw[Is.bU.mp hx,ao.F5 tr];rfl
def aF(F:List Addr)(H:Hp):Hp:=λb=>if b∈F then none else H b
theorem rZ{F:List Addr}{H:Hp}{b:Addr}(h:b∈F):aF F H b=none:=by unfold aF;rw[if_pos h]
theorem da{F:List Addr}{H:Hp}{b:Addr}(h:b ∉ F):aF F H b=H b:=by unfold aF;rw[if_neg h]
theorem iF{F:List Addr}{H:Hp}{b:Addr}{o:HO}(h:aF F H b=some o):b ∉ F/\H b=some o:=by
 unfold aF at h
 by_cases q:b∈F
 ·rw[if_pos q] at h;cases h
 ·rw[if_neg q] at h;exact⟨q,h⟩
def bI(H:Hp)(F:List Addr):Prop:=∀b∈F,∃xs,H b=some (.lst xs)
theorem bI.same{H H':Hp}{F:List Addr}(h:bI H F)(e:aO H H'):bI H' F:=λb hb=>let ⟨xs,q⟩:=h b hb;⟨xs,e _ _ q⟩
theorem bI.nil{H:Hp}:bI H []:=λb hb=>by simp at hb
theorem bI.cons{H:Hp}{F:List Addr}{a:Addr}{xs:List V}(h:bI H F)(e:H a=some (.lst xs)):bI H (a::F):=λb hb=>by
 rcases List.mem_cons.mp hb with z | z
 ·subst z;exact⟨xs,e⟩
 ·exact h b z
theorem Zi{H:Hp}{F:List Addr}{a:Addr}:aO (aF (a::F) H) (aF F H):=λb o h=>by
 obtain⟨h1,h2⟩:=iF h
 rw[da λz=>h1 (dJ _ z)];exact h2
theorem F8{H H':Hp}{F:List Addr}{a:Addr}(e:aO H H')(hn:H a=none):aO (aF F H) (aF (a::F) H'):=λb o h=>by
 obtain⟨h1,h2⟩:=iF h
 rw[da λz=>(List.mem_cons.mp z).elim (λq=>by rw[q,hn] at h2;cases h2) h1]
 exact e _ _ h2
theorem g7{H H':Hp}{F:List Addr}(e:aO H H'):aO (aF F H) (aF F H'):=λb o h=>by
 obtain⟨h1,h2⟩:=iF h
 rw[da h1];exact e _ _ h2
theorem kD{H:Hp}{F:List Addr}:aO (aF F H) H:=λb o h=>(iF h).2
theorem ON{K:aA}{H:Hp}{F:List Addr}{a:Addr}{xs:List V}(fo:bI H F)(h:cy K H a xs):cy K (aF F H) a xs:=by
 rcases h with (h1 | ⟨o,h1⟩) | h1
 ·refine .inl (.inl ?_)
  rw[da λq=>by obtain⟨ys,z⟩:=fo a q;rw[h1] at z;cases z];exact h1
 ·refine .inl (.inr ⟨o,?_⟩)
  rw[da λq=>by obtain⟨ys,z⟩:=fo a q;rw[h1] at z;cases z];exact h1
 ·exact .inr h1
mutual
theorem Is.aF{K:aA}{H:Hp}{F:List Addr}(fo:bI H F):∀(d:D) (v:V),d.cu=true->Is K H d v->Is K (aF F H) d v
 | .cH,_,_,h=>h
 | .bl _,_,_,h=>h
 | .int _,_,_,h=>h
 | .str _,_,_,h=>h
 | .tup ds,v,n,h=>by
   obtain⟨a,xs,e,h1,h2⟩:=Is.fB.mp h
   exact Is.fB.mpr ⟨a,xs,e,ON fo h1,ao.aF fo ds xs (by simpa [D.cu] using n) h2⟩
 | .lst ds,v,n,h=>by simp[D.cu] at n
 | .jX,v,n,h=>by simp[D.cu] at n
 | .exc c,v,n,h=>by
   unfold Is at h ⊢
   obtain⟨a,oe,C,e,h1,h2⟩:=h
   refine⟨a,oe,C,e,?_,h2⟩
   rw[da λq=>by obtain⟨ys,z⟩:=fo a q;rw[h1] at z;cases z];exact h1
theorem ao.aF{K:aA}{H:Hp}{F:List Addr}(fo:bI H F):∀(ds:List D) (xs:List V),D.a_ ds=true->ao K H ds xs->ao K (aF F H) ds xs
 | [],_,_,h=>h
 | d::ds,xs,n,h=>by
   obtain⟨x,r,e,h1,h2⟩:=ao.i4.mp h
   have n':d.cu=true/\D.a_ ds=true:=by simpa [D.a_] using n
   exact ao.i4.mpr ⟨x,r,e,Is.aF fo d x n'.1 h1,ao.aF fo ds r n'.2 h2⟩
end
structure Rel (K:aA) (H:Hp) (F:List Addr) (Γ:G) (σ:St):Prop where
 len:Γ.length=σ.length
 ro:∀(i:Nat) d,Γ[i]? = some (.ro d)->∃v,σ[i]? = some (some v)/\Is K (aF F H) d v
 own:∀(i:Nat) ds,Γ[i]? = some (.own ds)->∃a xs,σ[i]? = some (some (.ref a))/\a∈F/\H a=some (.lst xs)/\ao K (aF F H) ds xs
 inj:∀(i j:Nat) ds es a,Γ[i]? = some (.own ds)->Γ[j]? = some (.own es)->σ[i]? = some (some (.ref a))->σ[j]? = some (some (.ref a))->i=j
theorem Rel.same{K:aA}{H H':Hp}{F:List Addr}{Γ:G}{σ:St}(r:Rel K H F Γ σ)(e:aO H H'):Rel K H' F Γ σ :=
 ⟨r.len,λi d h=>let ⟨v,h1,h2⟩:=r.ro i d h;⟨v,h1,h2.same (g7 e)⟩,λi ds h=>let ⟨a,xs,h1,h2,h3,h4⟩:=r.own i ds h;⟨a,xs,h1,h2,e _ _ h3,h4.same (g7 e)⟩,r.inj⟩
theorem Rel.look{K:aA}{H:Hp}{F:List Addr}{Γ:G}{σ:St}(r:Rel K H F Γ σ){i:Nat}{d:D}(h:lk Γ i = .ok d):∃v,σ[i]? = some (some v)/\Is K H d v:=by
 unfold lk at h
 cases e:Γ[i]? with
 | none=>rw[e] at h;cases h
 | some en =>
   rw[e] at h
   cases en with
   | no=>cases h
   | ro d'=>cases h;obtain⟨v,h1,h2⟩:=r.ro i d e;exact⟨v,h1,h2.same kD⟩
   | own ds =>
     cases h
     obtain⟨a,xs,h1,h2,h3,h4⟩:=r.own i ds e
     exact⟨.ref a,h1,Is.fm.mpr ⟨a,xs,rfl,b9.of h3,h4.same kD⟩⟩
theorem Rel.Zj{K:aA}{H:Hp}{F:List Addr}{Γ:G}{σ:St}(r:Rel K H F Γ σ){i:Nat}{d:D}(h:oW Γ i = .ok d):∃v,σ[i]? = some (some v)/\Is K (aF F H) d v:=by
 unfold oW at h
 cases e:Γ[i]? with
 | none=>rw[e] at h;cases h
 | some en =>
   rw[e] at h
   cases en with
   | no=>cases h
   | ro d'=>cases h;exact r.ro i d e
   | own ds=>cases h
structure Ext (H:Hp) (F:List Addr) (H':Hp) (F':List Addr):Prop where
 keep:∀b o,b ∉ F->H b=some o->H' b=some o
 old:∀b,b∈F'->b∈F∨H b=none
theorem Ext.refl{H:Hp}{F:List Addr}:Ext H F H F:=⟨λ_ _ _ h=>h,λ_ h=>.inl h⟩
theorem Ext.of_same{H H':Hp}{F:List Addr}(e:aO H H'):Ext H F H' F:=⟨λ_ _ _ h=>e _ _ h,λ_ h=>.inl h⟩
theorem Ext.trans{H H1 H2:Hp}{F F1 F2:List Addr}(a:Ext H F H1 F1)(b:Ext H1 F1 H2 F2):Ext H F H2 F2 where
 keep:=λc o hc h=>b.keep c o (λz=>(a.old c z).elim hc λn=>by rw[h] at n;cases n) (a.keep c o hc h)
 old:=λc hc=>by
  rcases b.old c hc with h | h
  ·exact a.old c h
  ·by_cases q:c∈F
   ·exact .inl q
   ·refine .inr ?_
    cases e:H c with
    | none=>rfl
    | some o=>rw[a.keep c o q e] at h;cases h
theorem Ext.same{H H':Hp}{F':List Addr}(e:Ext H [] H' F'):aO H H':=λb o h=>e.keep b o (by simp) h
theorem Ext.aF{H H':Hp}{F F':List Addr}(e:Ext H F H' F'):aO (aF F H) (aF F' H'):=λb o h=>by
 obtain⟨h1,h2⟩:=iF h
 have h3:=e.keep b o h1 h2
 rw[da λz=>(e.old b z).elim h1 λn=>by rw[h2] at n;cases n]
 exact h3
def pb(X:Cx)(pins:List (Addr×Obj))(σ:St)(H:Hp)(c:Er)(x:Value)(s:ah):Prop :=
 Inv X pins σ H s/\∃(e C:Addr) (oe:Obj) (vs:Array Value),x = .ref e/\X.mg c.nm=some (.ref C)/\H e=none/\X.s₀.heap.get? e=none/\e≠X.env.locals/\(∀y k,X.env.cells.lookup y=some k->k≠e)/\(∀p∈X.pn++pins,p.1≠e) /\
  s.heap.get? e=some oe/\oe.cls = .ref C/\oe.data = .fields vs/\(∃a0,vs[0]? = some a0) /\
  (vs[1]? = some .none∨∃(T:Addr) (oT:Obj) (ts:Array Value),vs[1]? = some (.ref T)/\H T=none/\X.s₀.heap.get? T=none/\T≠X.env.locals/\(∀y k,X.env.cells.lookup y=some k->k≠T)/\(∀p∈X.pn++pins,p.1≠T)/\T≠e /\
    s.heap.get? T=some oT/\oT.data = .fields ts/\(ts[3]? = some .none∨∃L,X.env.frame=some L/\ts[3]? = some (kL L)))
def dg(X:Cx)(pins:List (Addr×Obj))(σ:St)(H:Hp)(r:R D)(u:Value)(s':ah):Prop :=
 ∃d v H',r = .ok d/\Inv X pins σ H' s'/\RelV v u/\aO H H'/\Is X.K H' d v
def bY{α:Type}(X:Cx)(pins:List (Addr×Obj))(σ:St)(H:Hp)(r:R α)(x:Value)(s':ah):Prop :=
 ∃c H',r = .er c/\aO H H'/\pb X pins σ H' c x s'
theorem bY.bind{α β:Type}{X:Cx}{pins:List (Addr×Obj)}{σ:St}{H:Hp}{r:R α}{x:Value}{s':ah}(h:bY X pins σ H r x s')(k:α->R β):bY X pins σ H (r>>=k) x s':=by
 obtain⟨c,H',e,h1,h2⟩:=h
 exact⟨c,H',R.stop e k,h1,h2⟩
theorem bY.later{α β:Type}{X:Cx}{pins:List (Addr×Obj)}{σ:St}{H H1:Hp}{r:R α}{a:α}{k:α->R β}{x:Value}{s':ah}(e:r = .ok a)(s:aO H H1)(h:bY X pins σ H1 (k a) x s'):bY X pins σ H (r>>=k) x s':=by
 obtain⟨c,H',e1,h1,h2⟩:=h
 exact⟨c,H',(R.step e k).trans e1,s.trans h1,h2⟩
structure PD (X:Cx) (e:Expr) (g:G->R D):Prop where
 run:∀(pins:List (Addr×Obj)) (s:ah) (σ:St) (H:Hp) (F:List Addr) (Γ:G),Inv X pins σ H s->bI H F->Rel X.K H F Γ σ->g Γ ≠ .no ->
  au (aB X.prog X.w) X.A (eval e X.env) (dg X pins σ H (g Γ)) (bY X pins σ H (g Γ)) s
structure jj (X:Cx) (e:Expr) (g:G->R D):Prop where
 run:∀(pins:List (Addr×Obj)) (s:ah) (σ:St) (H:Hp) (F:List Addr) (Γ:G),Inv X pins σ H s->bI H F->Rel X.K H F Γ σ->g Γ ≠ .no ->
  au (aB X.prog X.w) X.A (eval e X.env) (λu s'=>∃d v H',g Γ = .ok d/\Inv X pins σ H' s'/\RelV v u/\aO H H'/\Is X.K (aF F H') d v) (bY X pins σ H (g Γ)) s
structure PF (X:Cx) (e:Expr) (g:G->R (List D)):Prop where
 run:∀(pins:List (Addr×Obj)) (s:ah) (σ:St) (H:Hp) (F:List Addr) (Γ:G),Inv X pins σ H s->bI H F->Rel X.K H F Γ σ->g Γ ≠ .no ->
  au (aB X.prog X.w) X.A (eval e X.env) (λu s'=>∃ds a xs H',g Γ = .ok ds/\Inv X pins σ H' s'/\u = .ref a/\aO H H'/\H a=none/\H' a=some (.lst xs)/\ao X.K (aF (a::F) H') ds xs) (bY X pins σ H (g Γ)) s
structure i5 (X:Cx) (e:Expr) (g:G->R Bool):Prop where
 run:∀(pins:List (Addr×Obj)) (s:ah) (σ:St) (H:Hp) (F:List Addr) (Γ:G),Inv X pins σ H s->bI H F->Rel X.K H F Γ σ->g Γ ≠ .no ->
  au (aB X.prog X.w) X.A (oE e X.env (eval e X.env)) (λb s'=>∃H',g Γ = .ok b/\Inv X pins σ H' s'/\aO H H') (bY X pins σ H (g Γ)) s
structure i6 (X:Cx) (e:Expr) (g:G->R Bool):Prop where
 run:∀(whole:Sem Value) (pins:List (Addr×Obj)) (s:ah) (σ:St) (H:Hp) (F:List Addr) (Γ:G),Inv X pins σ H s->bI H F->Rel X.K H F Γ σ->g Γ ≠ .no ->
  au (aB X.prog X.w) X.A (oE e X.env whole) (λb s'=>∃H',g Γ = .ok b/\Inv X pins σ H' s'/\aO H H') (bY X pins σ H (g Γ)) s
theorem i6.pt{X:Cx}{e:Expr}{g:G->R Bool}(h:i6 X e g):i5 X e g:=⟨h.run _⟩
structure mG (X:Cx) (es:List Expr) (g:G->R (List D)):Prop where
 run:∀(pos:Pos) (pins:List (Addr×Obj)) (s:ah) (σ:St) (H:Hp) (F:List Addr) (Γ:G),Inv X pins σ H s->bI H F->Rel X.K H F Γ σ->g Γ ≠ .no ->
  au (aB X.prog X.w) X.A (eE (cC pos (aV es X.env))) (λus s'=>∃ds vs H',g Γ = .ok ds/\Inv X pins σ H' s'/\Vals vs us/\aO H H'/\ao X.K H' ds vs) (bY X pins σ H (g Γ)) s
section
variable {X:Cx}{e a b c:Expr}{g ga gb gc:G->R D}{pos:Pos}
theorem jj.pd(h:jj X e g):PD X e g:=⟨λpins s σ H F Γ I fo rl hg =>
 fE (h.run pins s σ H F Γ I fo rl hg) λ_ _ ⟨d,v,H',e1,I',r,S,i⟩=>⟨d,v,H',e1,I',r,S,i.same kD⟩⟩
theorem PD.ro(h:PD X e g):jj X e (aG g):=⟨λpins s σ H F Γ I fo rl hg =>
 av (h.run pins s σ H F Γ I fo rl (R.left hg)) (λ_ _ ⟨d,v,H',e1,I',r,S,i⟩=>by
  have fg:=R.next hg e1
  obtain⟨n,e2⟩:=R.cT fg
  exact⟨d,v,H',(R.step e1 _).trans e2,I',r,S,Is.aF (fo.same S) d v n i⟩) λ_ _ x=>x.bind _⟩
theorem PF.ro{g:G->R (List D)}(h:PF X e g):jj X e (gL g):=⟨λpins s σ H F Γ I fo rl hg =>
 av (h.run pins s σ H F Γ I fo rl (R.left hg)) (λ_ _ ⟨ds,p,xs,H',e1,I',eu,S,hn,hp,i⟩=>by
  have hF:p ∉ F:=λz=>by obtain⟨ys,q⟩:=fo p z;rw[hn] at q;cases q
  exact⟨.lst ds,.ref p,H',(R.step e1 _),I',eu,S,Is.fm.mpr ⟨p,xs,rfl,b9.of (by rw[da hF];exact hp),i.same Zi⟩⟩) λ_ _ x=>x.bind _⟩
theorem PF.pd{g:G->R (List D)}(h:PF X e g):PD X e (gL g):=h.ro.pd
theorem PD.of{t:TE}(h:PE X.bT e t)(hq:∀σ H F Γ,bI H F->Rel X.K H F Γ σ->g Γ ≠ .no->t σ H λv H'=>∃d,g Γ = .ok d/\aO H H'/\Is X.K H' d v):PD X e g:=⟨λpins s σ H F Γ I fo rl hg =>
 av (h pins s σ H _ (I.dm _) (hq σ H F Γ fo rl hg)) (λ_ _ ⟨v,H',I',r,d,e1,S,i⟩=>⟨d,v,H',e1,I'.eQ,r,S,i⟩) λ_ _ z=>b6 z⟩
theorem af(i:Nat){x:Str}(hN:X.N[i]? = some x:=by rfl)(hv:kR X.env.scope x:=by first | exact fR rfl | exact dX (fR rfl) | exact dX (dX rfl))(hd:(x==("__debug__":Str))=false:=by decide)
 (dE:(x==("__classdict__":Str))=false:=by decide):PD X (.Name x pos) (gV i) :=
 PD.of (t:=LH i) (pV (X:=X.bT) hN hv hd dE) λσ H F Γ fo rl hg=>by
  obtain⟨d,e⟩:=VX hg
  obtain⟨v,h1,h2⟩:=rl.look e
  exact⟨v,h1,d,e,.refl _,h2⟩
theorem g8(i:Nat){x:Str}(hN:X.N[i]? = some x:=by rfl)(hv:kR X.env.scope x:=by first | exact fR rfl | exact dX (fR rfl) | exact dX (dX rfl))(hd:(x==("__debug__":Str))=false:=by decide)
 (dE:(x==("__classdict__":Str))=false:=by decide):jj X (.Name x pos) (d8 i):=by
 refine⟨λpins s σ H F Γ I fo rl hg=>?_⟩
 obtain⟨d,e⟩:=VY hg
 obtain⟨v,h1,h2⟩:=rl.Zj e
 exact av (pV (X:=X.bT) hN hv hd dE pins s σ H (λv' H'=>v'=v/\H'=H) (I.dm _) ⟨v,h1,rfl,rfl⟩) (λ_ _ ⟨v',H',I',r,e1,e2⟩=>by
  subst e1 e2
  exact⟨d,v',H',e,I'.eQ,r,.refl _,h2⟩) λ_ _ z=>b6 z
theorem aC{i:Int}{j}:PD X (.Constant (.int i) j pos) (gC (.int i)):=PD.of (t:=tC (.int i)) Um λ_ _ _ _ _ _ _=>⟨_,rfl,.refl _,Is.bU.mpr rfl⟩
theorem tO{b:Bool}{j}:PD X (.Constant (.bool b) j pos) (gC (.bl b)):=PD.of (t:=tC (.bl b)) Uo λ_ _ _ _ _ _ _=>⟨_,rfl,.refl _,Is.gv.mpr rfl⟩
theorem bL{x:Str}{j}:PD X (.Constant (.str x) j pos) (gC (.str x)):=PD.of (t:=tC (.str x)) Up λ_ _ _ _ _ _ _=>⟨_,rfl,.refl _,Is.gx.mpr rfl⟩
theorem OO{x:Str}{d:D}{v:V}{u:Value}(hg:Gl X x)(hm:X.mg x=some u)(r:RelV v u)(i:∀H,Is X.K H d v)(hd:(x==("__debug__":Str))=false:=by decide):PD X (.Name x pos) (gC d) :=
 PD.of (t:=tC v) (Uq (X:=X.bT) hg hm r hd) λ_ H _ _ _ _ _=>⟨_,rfl,.refl _,i H⟩
def fI(X:Cx)(f:Value->Value->Sem Value)(g:D->D->R D):Prop:=∃r:R2,e9 X.bT f r/\∀H x y dx dy,Is X.K H dx x->Is X.K H dy y->g dx dy ≠ .no->r x y H λz H'=>∃d,g dx dy = .ok d/\aO H H'/\Is X.K H' d z
theorem fI.run{f:Value->Value->Sem Value}{g:D->D->R D}(h:fI X f g){pins:List (Addr×Obj)}{s:ah}{σ:St}{H:Hp}{x y:V}{v u:Value}{dx dy:D}(I:Inv X pins σ H s)(rx:RelV x v)(ry:RelV y u)
 (ix:Is X.K H dx x) (iy:Is X.K H dy y) (hg:g dx dy ≠ .no) {E:Value->ah->Prop}:au (aB X.prog X.w) X.A (f v u) (dg X pins σ H (g dx dy)) E s:=by
 obtain⟨r,ho,hr⟩:=h
 exact av (ho pins s σ H x y v u _ (I.dm _) rx ry (hr H x y dx dy ix iy hg)) (λ_ _ ⟨z,H',I',rz,d,e,S,i⟩=>⟨d,z,H',e,I'.eQ,rz,S,i⟩) λ_ _ z=>b6 z
theorem dg.bind{pins:List (Addr×Obj)}{σ:St}{H H1:Hp}{α:Type}{r:R α}{k:α->R D}{a:α}{u:Value}{s':ah}(e:r = .ok a)(S:aO H H1)(h:dg X pins σ H1 (k a) u s'):dg X pins σ H (r>>=k) u s':=by
 obtain⟨d,v,H',e1,I,rv,S1,i⟩:=h
 exact⟨d,v,H',(R.step e k).trans e1,I,rv,S.trans S1,i⟩
theorem F9{g2:D->D->R D}{f:Value->Value->Sem Value}(ho:fI X f g2)(ha:PD X a ga)(hb:PD X b gb){pins:List (Addr×Obj)}{s:ah}{σ:St}{H:Hp}{F:List Addr}{Γ:G}(I:Inv X pins σ H s)(fo:bI H F)(rl:Rel X.K H F Γ σ)(hg:aj g2 ga gb Γ ≠ .no) :
 au (aB X.prog X.w) X.A (eval a X.env) (λv cq=>au (aB X.prog X.w) X.A (eval b X.env) (λu aq=>au (aB X.prog X.w) X.A (f v u) (dg X pins σ H (aj g2 ga gb Γ)) (bY X pins σ H (aj g2 ga gb Γ)) aq) (bY X pins σ H (aj g2 ga gb Γ)) cq) (bY X pins σ H (aj g2 ga gb Γ)) s:=by
 refine av (ha.run pins s σ H F Γ I fo rl (R.left hg)) (λv s1 ⟨dx,x,H1,e1,I1,r1,S1,i1⟩=>?_) λ_ _ x=>x.bind _
 have aJ:=R.next hg e1
 refine av (hb.run pins s1 σ H1 F Γ I1 (fo.same S1) (rl.same S1) (R.left aJ)) (λu s2 ⟨dy,y,H2,e2,I2,r2,S2,i2⟩=>?_) λ_ _ x=>bY.later e1 S1 (x.bind _)
 have dt:=R.next aJ e2
 exact fE (ho.run I2 r1 r2 (i1.same S2) i2 dt) λ_ _ q=>dg.bind e1 S1 (dg.bind e2 S2 q)
theorem aX{op:Operator}{g2:D->D->R D}(ho:fI X (gW op) g2)(ha:PD X a ga)(hb:PD X b gb):PD X (.BinOp a op b pos) (aj g2 ga gb):=⟨λpins s σ H F Γ I fo rl hg=>Tf (F9 ho ha hb I fo rl hg)⟩
theorem qp{op:Kp}{g2:D->D->R D}(ho:fI X (iP op) g2)(ha:PD X a ga)(hb:PD X b gb)(hm:C1 op b=false):PD X (.Compare a [op] [b] pos) (aj g2 ga gb):=⟨λpins s σ H F Γ I fo rl hg=>wpAny_Compare1 (F9 ho ha hb I fo rl hg) hm⟩
theorem OP{pins:List (Addr×Obj)}{σ:St}{H:Hp}{r:R D}{u:Value}{s':ah}(h:dg X pins σ H r u s')(hg:(r>>=rn) ≠ .no):∃b H',u = .bool b/\(r>>=rn) = .ok b/\Inv X pins σ H' s'/\aO H H':=by
 obtain⟨d,v,H',e1,I,rv,S,i⟩:=h
 obtain⟨b,rfl,e2⟩:=DY (R.next hg e1)
 rw[Is.gv.mp i] at rv
 exact⟨b,H',rv,(R.step e1 _).trans e2,I,S⟩
theorem cK{op:Kp}{g2:D->D->R D}(ho:fI X (iP op) g2)(ha:PD X a ga)(hb:PD X b gb)(hm:C1 op b=false):i5 X (.Compare a [op] [b] pos) (gT (aj g2 ga gb)):=by
 refine⟨λpins s σ H F Γ I fo rl hg=>?_⟩
 refine a8y (av (F9 ho ha hb I fo rl (R.left hg)) (λv s1 h1=>av h1 (λu s2 h2=>av h2 (λz s3 h3=>?_) λ_ _ x=>x.bind _) λ_ _ x=>x.bind _) λ_ _ x=>x.bind _) hm
 obtain⟨b,H',rfl,e,I',S⟩:=OP h3 hg
 exact wX ⟨H',e,I',S⟩
theorem lB(ha:PD X a ga)(he:∀whole,oE a X.env whole=(do let v <-whole;Tg a.pos;Aa [v] (truthy v)):=by intro _;rfl):i5 X a (gT ga):=by
 refine⟨λpins s σ H F Γ I fo rl hg=>?_⟩
 refine isTrue_plain (av (ha.run pins s σ H F Γ I fo rl (R.left hg)) (λv s1 h3=>?_) λ_ _ x=>x.bind _) (he _)
 obtain⟨b,H',rfl,e,I',S⟩:=OP h3 hg
 exact wX ⟨H',e,I',S⟩
variable {gA gB:G->R Bool}{rest:List Expr}
theorem vQ(ha:i5 X a gA):i6 X (.BoolOp .And [a] pos) gA:=by
 refine⟨λwh pins s σ H F Γ I fo rl hg=>?_⟩
 refine isTrue_and (fE (ha.run pins s σ H F Γ I fo rl hg) λc s1 e=>?_)
 cases c with
 | true=>exact isTrue_and_nil e
 | false=>exact e
theorem B1(ha:i5 X a gA):i6 X (.BoolOp .Or [a] pos) gA:=by
 refine⟨λwh pins s σ H F Γ I fo rl hg=>?_⟩
 refine isTrue_or (fE (ha.run pins s σ H F Γ I fo rl hg) λc s1 e=>?_)
 cases c with
 | false=>exact isTrue_or_nil e
 | true=>exact e
theorem r0(ha:i5 X a gA)(hb:i6 X (.BoolOp .And (b::rest) pos) gB):i6 X (.BoolOp .And (a::b::rest) pos) (je gA gB):=by
 refine⟨λwh pins s σ H F Γ I fo rl hg=>?_⟩
 refine isTrue_and (av (ha.run pins s σ H F Γ I fo rl (R.left hg)) (λc s1 ⟨H1,e1,I1,S1⟩=>?_) λ_ _ x=>x.bind _)
 have aJ:=R.next hg e1
 cases c with
 | true=>exact av (hb.run wh pins s1 σ H1 F Γ I1 (fo.same S1) (rl.same S1) aJ) (λ_ _ ⟨H2,e2,I2,S2⟩=>⟨H2,(R.step e1 _).trans e2,I2,S1.trans S2⟩) λ_ _ x=>bY.later e1 S1 x
 | false=>exact⟨H1,R.step e1 _,I1,S1⟩
theorem yU(ha:i5 X a gA)(hb:i6 X (.BoolOp .Or (b::rest) pos) gB):i6 X (.BoolOp .Or (a::b::rest) pos) (nG gA gB):=by
 refine⟨λwh pins s σ H F Γ I fo rl hg=>?_⟩
 refine isTrue_or (av (ha.run pins s σ H F Γ I fo rl (R.left hg)) (λc s1 ⟨H1,e1,I1,S1⟩=>?_) λ_ _ x=>x.bind _)
 have aJ:=R.next hg e1
 cases c with
 | false=>exact av (hb.run wh pins s1 σ H1 F Γ I1 (fo.same S1) (rl.same S1) aJ) (λ_ _ ⟨H2,e2,I2,S2⟩=>⟨H2,(R.step e1 _).trans e2,I2,S1.trans S2⟩) λ_ _ x=>bY.later e1 S1 x
 | true=>exact⟨H1,R.step e1 _,I1,S1⟩
theorem pe(ha:i5 X a gA):i5 X (.UnaryOp .Not a pos) (jB gA):=⟨λpins s σ H F Γ I fo rl hg =>
 isTrue_not (av (ha.run pins s σ H F Γ I fo rl (R.left hg)) (λc s1 ⟨H1,e1,I1,S1⟩=>⟨H1,R.step e1 _,I1,S1⟩) λ_ _ x=>x.bind _)⟩
theorem vR{op}(h:PD X a ga):PD X (.BoolOp op [a] pos) ga:=⟨λpins s σ H F Γ I fo rl hg=>BoolOp_one (h.run pins s σ H F Γ I fo rl hg)⟩
theorem r6(ha:PD X a ga)(hb:PD X (.BoolOp .And (b::rest) pos) gb):PD X (.BoolOp .And (a::b::rest) pos) (kq ga gb):=by
 refine⟨λpins s σ H F Γ I fo rl hg=>?_⟩
 refine BoolOp_and (av (ha.run pins s σ H F Γ I fo rl (R.left hg)) (λv s1 ⟨d,x,H1,e1,I1,r1,S1,i1⟩=>?_) λ_ _ x=>x.bind _)
 have aJ:=R.next hg e1
 obtain⟨k,rfl,e2⟩:=DY (R.left aJ)
 have dt:=R.next aJ e2
 rw[Is.gv.mp i1] at r1
 cases r1
 refine wX ?_
 cases k with
 | true=>exact av (hb.run pins s1 σ H1 F Γ I1 (fo.same S1) (rl.same S1) dt) (λ_ _ q=>dg.bind e1 S1 (dg.bind e2 (.refl _) q)) λ_ _ q=>bY.later e1 S1 (bY.later e2 (.refl _) q)
 | false=>exact dg.bind e1 S1 (dg.bind e2 (.refl _) ⟨.bl false,.bl false,H1,rfl,I1,rfl,.refl _,Is.gv.mpr rfl⟩)
theorem Zk(ha:PD X a ga):PD X (.UnaryOp .Not a pos) (DZ ga):=by
 refine⟨λpins s σ H F Γ I fo rl hg=>?_⟩
 refine UnaryOp_ (av (ha.run pins s σ H F Γ I fo rl (R.left hg)) (λv s1 ⟨d,x,H1,e1,I1,r1,S1,i1⟩=>?_) λ_ _ x=>x.bind _)
 have aJ:=R.next hg e1
 obtain⟨k,rfl,e2⟩:=DY (R.left aJ)
 rw[Is.gv.mp i1] at r1
 cases r1
 exact not_of (wX (dg.bind e1 S1 (dg.bind e2 (.refl _) ⟨.bl (!k),.bl (!k),H1,rfl,I1,rfl,.refl _,Is.gv.mpr rfl⟩)))
theorem F_(ha:PD X a ga):PD X (.UnaryOp .USub a pos) (nH ga):=by
 refine⟨λpins s σ H F Γ I fo rl hg=>?_⟩
 refine UnaryOp_ (av (ha.run pins s σ H F Γ I fo rl (R.left hg)) (λv s1 ⟨d,x,H1,e1,I1,r1,S1,i1⟩=>?_) λ_ _ x=>x.bind _)
 have aJ:=R.next hg e1
 cases d with
 | int i =>
   rw[Is.bU.mp i1] at r1
   obtain⟨t,rfl⟩:=r1
   exact neg_int (dg.bind e1 S1 ⟨.int (-i),.int (-i),H1,rfl,I1.tok _,⟨_,rfl⟩,.refl _,Is.bU.mpr rfl⟩)
 | _=>exact absurd rfl aJ
theorem Zl(hc:i5 X c gA)(ha:PD X a ga)(hb:PD X b gb):PD X (.IfExp c a b pos) (D0 gA ga gb):=by
 refine⟨λpins s σ H F Γ I fo rl hg=>?_⟩
 refine wpAny_IfExp (av (hc.run pins s σ H F Γ I fo rl (R.left hg)) (λk s1 ⟨H1,e1,I1,S1⟩=>?_) λ_ _ x=>x.bind _)
 have aJ:=R.next hg e1
 cases k with
 | true=>exact av (ha.run pins s1 σ H1 F Γ I1 (fo.same S1) (rl.same S1) aJ) (λ_ _ q=>dg.bind e1 S1 q) λ_ _ q=>bY.later e1 S1 q
 | false=>exact av (hb.run pins s1 σ H1 F Γ I1 (fo.same S1) (rl.same S1) aJ) (λ_ _ q=>dg.bind e1 S1 q) λ_ _ q=>bY.later e1 S1 q
variable {es:List Expr}{gs:G->R (List D)}
theorem az:mG X [] ak:=⟨λpos pins s σ H F Γ I fo rl hg=>h_ ⟨[],[],H,rfl,I,.nil,.refl _,ao.nil⟩⟩
theorem ai(ha:PD X e g)(hr:mG X es gs)(hs:aV (e::es) X.env=(false,eval e X.env)::aV es X.env:=by rfl):mG X (e::es) (ae g gs):=by
 refine⟨λpos pins s σ H F Γ I fo rl hg=>?_⟩
 rw[hs]
 show au _ _ (eE ((false,eval e X.env)::cC pos (aV es X.env))) _ _ s
 refine fw (av (ha.run pins s σ H F Γ I fo rl (R.left hg)) (λu s1 ⟨d,x,H1,e1,I1,r1,S1,i1⟩=>?_) λ_ _ x=>x.bind _)
 have aJ:=R.next hg e1
 refine av (hr.run pos pins s1 σ H1 F Γ I1 (fo.same S1) (rl.same S1) (R.left aJ)) (λus s2 ⟨ds,vs,H2,e2,I2,r2,S2,i2⟩=>?_) λ_ _ x=>bY.later e1 S1 (x.bind _)
 exact⟨d::ds,x::vs,H2,(R.step e1 _).trans (R.step e2 _),I2,.cons r1 r2,S1.trans S2,ao.cons (i1.same S2) i2⟩
theorem qq{n:Nat}(h:n<=1000):n<=bR:=Km (VO h)
theorem gP{H:Hp}{p:Addr}(h:H p=none)(o:HO):aO H (upd H p o):=λb u q=>by rw[bD (gI q h)];exact q
theorem mH{x1}(h:mG X es gs):PD X (.Tuple es x1 pos) (fT gs):=by
 refine⟨λpins s σ H F Γ I fo rl hg=>?_⟩
 refine a8z (av (h.run pos pins s σ H F Γ I fo rl (R.left hg)) (λus s1 ⟨ds,vs,H1,e1,I1,r1,S1,i1⟩=>?_) λ_ _ x=>x.bind _)
 have fg:=R.next hg e1
 obtain⟨hl,e2⟩:=R.cT fg
 have hz:vs.length<=bR:=by rw[<-i1.length];exact qq hl
 refine⟨by rw[<-r1.length];exact hz,?_⟩
 have hf:H1 s1.heap.objs.size=none:=I1.aK.fresh (a7 _)
 have S2:=gP hf (.tup vs)
 refine dg.bind e1 S1 ⟨.tup ds,.ref s1.heap.objs.size,upd H1 s1.heap.objs.size (.tup vs),e2,I1.laid (t':=s1.toks) (λb u e=>cX _ e) (a7 _) ?_,rfl,S2,Is.fB.mpr ⟨_,vs,rfl,cy.of dc,i1.same S2⟩⟩
 exact⟨hz,us,r1,⟨_,fu _ rfl,rfl,_,rfl⟩⟩
theorem g9(h:mG X es gs):PF X (.List es pos) (eA gs):=by
 refine⟨λpins s σ H F Γ I fo rl hg=>?_⟩
 refine a9a (av (h.run pos pins s σ H F Γ I fo rl (R.left hg)) (λus s1 ⟨ds,vs,H1,e1,I1,r1,S1,i1⟩=>?_) λ_ _ x=>x.bind _)
 have fg:=R.next hg e1
 obtain⟨⟨hl,hn⟩,e2⟩:=R.cT fg
 have hz:vs.length<=bR:=by rw[<-i1.length];exact qq hl
 refine⟨by rw[<-r1.length];exact hz,?_⟩
 have hf:H1 s1.heap.objs.size=none:=I1.aK.fresh (a7 _)
 have S2:=gP hf (.lst vs)
 have hH:H s1.heap.objs.size=none:=S1.free hf
 refine⟨ds,s1.heap.objs.size,vs,upd H1 s1.heap.objs.size (.lst vs),(R.step e1 _).trans e2,I1.laid (t':=s1.toks) (λb u e=>cX _ e) (a7 _) ?_,rfl,S1.trans S2,hH,dc,?_⟩
 ·exact⟨hz,us,0,r1,fu _ rfl⟩
 ·exact ao.aF (((fo.same S1).same S2).cons dc) ds vs hn (i1.same S2)
end
section
variable {X:Cx}{e a b c:Expr}{g ga gb gc:G->R D}{pos:Pos}
theorem B3{f:Value->Value->Sem Value}{C:Int->Int->Prop}[∀i j,Decidable (C i j)]{v:Int->Int->V}{d:Int->Int->D}(hd:∀K H i j,Is K H (d i j) (v i j))(ho:e9 X.bT f (rI C v)) :
 fI X f (λx y=>match x,y with | .int i,.int j=>R.guard (C i j) (.ok (d i j)) | _,_=>.no):=by
 refine⟨_,ho,λH x y dx dy ix iy hg=>?_⟩
 cases dx with
 | int i =>
   cases dy with
   | int j =>
     obtain⟨hc,e⟩:=R.cT (show R.guard (C i j) (.ok (d i j)) ≠ .no from hg)
     exact⟨i,j,Is.bU.mp ix,Is.bU.mp iy,hc,d i j,e,.refl _,hd _ _ _ _⟩
   | _=>exact absurd rfl hg
 | _=>exact absurd rfl hg
theorem yV{f:Value->Value->Sem Value}{v:Int->Int->V}{d:Int->Int->D}(hd:∀K H i j,Is K H (d i j) (v i j))(ho:e9 X.bT f (pW v)) :
 fI X f (λx y=>match x,y with | .int i,.int j=>.ok (d i j) | _,_=>.no):=by
 refine⟨_,ho,λH x y dx dy ix iy hg=>?_⟩
 cases dx with
 | int i =>
   cases dy with
   | int j=>exact⟨i,j,Is.bU.mp ix,Is.bU.mp iy,d i j,rfl,.refl _,hd _ _ _ _⟩
   | _=>exact absurd rfl hg
 | _=>exact absurd rfl hg
theorem vS:fI X (gW .Sub) p4:=yV (d:=λi j=>.int (i-j)) (λ_ _ _ _=>Is.bU.mpr rfl) UD
theorem mI:fI X (gW .FloorDiv) jY:=B3 (d:=λi j=>.int (i/j)) (λ_ _ _ _=>Is.bU.mpr rfl) (C:=λi j=>0<j/\j<1073741824) UG
theorem gQ:fI X (gW .Mod) eG:=B3 (d:=λi j=>.int (i%j)) (λ_ _ _ _=>Is.bU.mpr rfl) (C:=λi j=>0<j) UH
theorem Ga:fI X (gW .Pow) xG:=B3 (d:=λi j=>.int (i^j.toNat)) (λ_ _ _ _=>Is.bU.mpr rfl) (C:=λi j=>0<=j/\j<=1000000/\i.natAbs<18446744073709551616) UI
theorem B4:fI X (iP .Lt) rp:=yV (d:=λi j=>.bl (decide (i<j))) (λ_ _ _ _=>Is.gv.mpr rfl) UK
theorem yW:fI X (iP .LtE) p5:=yV (d:=λi j=>.bl (decide (i<=j))) (λ_ _ _ _=>Is.gv.mpr rfl) UM
theorem yX:fI X (iP .Gt) rq:=yV (d:=λi j=>.bl (decide (j<i))) (λ_ _ _ _=>Is.gv.mpr rfl) UN
theorem Gb:fI X (iP .GtE) xH:=yV (d:=λi j=>.bl (decide (j<=i))) (λ_ _ _ _=>Is.gv.mpr rfl) UO
def Zm(K:aA):R2:=λx y H Q=>∃a b xs ys,x = .ref a/\y = .ref b/\cy K H a xs/\cy K H b ys/\xs.length+ys.length<=bR /\
 (xs=[]->Q (.ref b) H)/\(xs≠[]->ys=[]->Q (.ref a) H)/\(xs≠[]->ys≠[]->∀p,H p=none->Q (.ref p) (upd H p (.tup (xs++ys))))
theorem Zn:e9 X (gW .Add) (Zm X.K):=by
 intro pins s σ H x y v u Q I rx ry h
 obtain⟨a,b,xs,ys,rfl,rfl,ha,hb,hz,q0,q1,q2⟩:=h
 by_cases hx:xs=[]
 ·cases rx
  cases ry
  obtain⟨its,r1,p1,_⟩:=I.tuple ha
  obtain⟨oU,r2,p2,_⟩:=I.tuple hb
  have hi:its=[]:=r1.jb.mpr hx
  obtain⟨⟨cls,dd,data,sl⟩,ho,hc,n,hd⟩:=id p1
  obtain⟨⟨U1,AA,data2,AB⟩,sP,nC,n2,hd2⟩:=id p2
  simp only at hc hd nC hd2
  subst hc hd nC hd2
  exact Kt ⟨_,ho,rfl⟩ ⟨_,sP,rfl⟩ Sl Sm Sn So (Sr _ _)
   (tuple_addW0 a b its.toArray oU.toArray n n2 dd AA sl AB (by rw[hi];rfl)) ⟨ho,sP,⟨.ref b,H,I,rfl,q0 hx⟩⟩
 ·exact U_ pins s σ H _ _ v u Q I rx ry ⟨a,b,xs,ys,rfl,rfl,ha,hb,hx,hz,q1 hx,q2 hx⟩
theorem fP:fI X (gW .Add) d9:=by
 refine⟨_,e9.or (UC (X:=X.bT)) (Zn (X:=X.bT)),λH x y dx dy ix iy hg=>?_⟩
 cases dx with
 | int i =>
   cases dy with
   | int j=>exact .inl ⟨i,j,Is.bU.mp ix,Is.bU.mp iy,.int (i+j),rfl,.refl _,Is.bU.mpr rfl⟩
   | _=>exact absurd rfl hg
 | tup ds =>
   cases dy with
   | tup es =>
     obtain⟨hc,e⟩:=R.cT (show R.guard (ds.length+es.length<=1000) (R.ok (D.tup (ds++es)))≠R.no from hg)
     obtain⟨a,xs,rfl,h1,h2⟩:=Is.fB.mp ix
     obtain⟨b,ys,rfl,h3,h4⟩:=Is.fB.mp iy
     refine .inr ⟨a,b,xs,ys,rfl,rfl,h1,h3,by rw[<-h2.length,<-h4.length];exact qq hc,λz=>?_,λz z'=>?_,λz z' p hp=>?_⟩
     ·refine⟨.tup (ds++es),e,.refl _,Is.fB.mpr ⟨b,ys,rfl,h3,?_⟩⟩
      have:ds=[]:=List.length_eq_zero_iff.mp (by rw[h2.length,z];rfl)
      rw[this];exact h4
     ·refine⟨.tup (ds++es),e,.refl _,Is.fB.mpr ⟨a,xs,rfl,h1,?_⟩⟩
      have:es=[]:=List.length_eq_zero_iff.mp (by rw[h4.length,z'];rfl)
      rw[this,kM];exact h2
     ·have S:=gP hp (.tup (xs++ys))
      exact⟨.tup (ds++es),e,S,Is.fB.mpr ⟨p,xs++ys,rfl,cy.of dc,(h2.append h4).same S⟩⟩
   | _=>exact absurd rfl hg
 | _=>exact absurd rfl hg
theorem Zo(l:Addr)(items:Array Value)(n:Nat)(dd:Option Addr)(sl:Array (Option Value))(k:Int)(u:Tok)(h1:(decide (k < -(2^63))||decide (k≥2^63))=false)(hc:(items.isEmpty||k==1)=true) :
 Dl (Builtin.«tuple.__mul__» ⟨[.ref l,.int k u],[]⟩) (λ_ Q s=>s.heap.get? l=some { cls:=.type "tuple",dict:=dd,data:=.seq items n,slots:=sl }/\Q (.ok (.ret (ft l))) s) :=
 .of_wp λprog w A Q s h=>by obtain⟨hp,g,d,tk,os⟩:=s;obtain⟨hl,h⟩:=h;have f1:=Th;wp_walk using wpAny_loadPart' hl;refine KY (by rw[h1];rfl) ?_;wp_walk using wpAny_loadPart' hl;exact⟨_,rfl,h⟩
theorem Zp(l:Addr)(items:Array Value)(n:Nat)(dd:Option Addr)(sl:Array (Option Value))(k:Int)(u:Tok)(h1:(decide (k < -(2^63))||decide (k≥2^63))=false)(hc:(items.isEmpty||k==1)=false)(nC:(decide (k<=0)||items.isEmpty)=true) :
 Dl (Builtin.«tuple.__mul__» ⟨[.ref l,.int k u],[]⟩) (λ_ Q s=>s.heap.get? l=some { cls:=.type "tuple",dict:=dd,data:=.seq items n,slots:=sl }/\Q (.ok (.ret (ft s.heap.objs.size))) { s with heap:=s.heap.push { cls:=.type "tuple",data:=.seq #[] } }) :=
 .of_wp λprog w A Q s h=>by obtain⟨hp,g,d,tk,os⟩:=s;obtain⟨hl,h⟩:=h;have f1:=Th;wp_walk using wpAny_loadPart' hl;refine KY (by rw[h1];rfl) ?_;wp_walk using wpAny_loadPart' hl;exact⟨_,rfl,h⟩
theorem Zq(l:Addr)(items:Array Value)(n:Nat)(dd:Option Addr)(sl:Array (Option Value))(k:Int)(u:Tok)(h1:(decide (k < -(2^63))||decide (k≥2^63))=false)(hc:(items.isEmpty||k==1)=false)(nC:(decide (k<=0)||items.isEmpty)=false)(EY:¬((items.size:Int)*k>(2^63-1)/8))(hc4:a9b ((items.size:Int)*k)=false)(hc5:¬((dN k.toNat items).foldl (λx1 x2=>x1++x2) #[]).size>bR) :
 Dl (Builtin.«tuple.__mul__» ⟨[.ref l,.int k u],[]⟩) (λ_ Q s=>s.heap.get? l=some { cls:=.type "tuple",dict:=dd,data:=.seq items n,slots:=sl }/\Q (.ok (.ret (ft s.heap.objs.size))) { s with heap:=s.heap.push { cls:=.type "tuple",data:=.seq ((dN k.toNat items).foldl (·++·) #[]) } }) :=
 .of_wp λprog w A Q s h=>by obtain⟨hp,g,d,tk,os⟩:=s;obtain⟨hl,h⟩:=h;have f1:=Th;wp_walk using wpAny_loadPart' hl;refine KY (by rw[h1];rfl) ?_;wp_walk using wpAny_loadPart' hl;refine KY (decide_eq_false EY) ?_;wp_walk using wpAny_loadPart' hl;exact⟨_,rfl,h⟩
theorem Zr:fillsNumberSlot (.type "tuple") "mul"=pure false :=
 PySem.fillsNumberSlot_seq (id:="tuple.__mul__") (r:=some (.builtin "tuple.__rmul__")) F.slot_tuple_mul.lookup (by decide +kernel) F.slot_tuple_rmul.lookup (by decide +kernel)
theorem Zs:seqRepeat? (.type "tuple")=pure (some (.builtin "tuple.__mul__")):=by
 unfold seqRepeat?
 rw[a9c (T:="tuple") (name:="__mul__") (id:="tuple.__mul__") F.slot_tuple_mul.lookup (by decide +kernel),a9c (T:="tuple") (name:="__rmul__") (id:="tuple.__rmul__") F.slot_tuple_rmul.lookup (by decide +kernel)]
 rfl
theorem Zt(a:Int)(t:Tok)(l:Addr)(items:Array Value)(n:Nat)(dd:Option Addr)(sl:Array (Option Value)) :
 Dl (Builtin.«int.__rmul__» ⟨[.int a t,.ref l],[]⟩) (λ_ Q s=>s.heap.get? l=some { cls:=.type "tuple",dict:=dd,data:=.seq items n,slots:=sl }/\Q (.ok (.ret Value.notImplemented)) s) :=
 .of_wp λprog w A Q s h=>by obtain⟨hp,g,d,tk,os⟩:=s;obtain⟨hl,h⟩:=h;wp_walk;exact⟨_,rfl,h⟩
def Zu(K:aA):R2:=λx y H Q=>∃l k xs,x = .ref l/\y = .int k/\cy K H l xs/\0<=k/\k<1000000/\xs.length*k.toNat<=1000 /\
 ((xs=[]∨k=1)->Q (.ref l) H)/\(xs≠[]->k≠1->∀p,H p=none->Q (.ref p) (upd H p (.tup (dN k.toNat xs).flatten)))
theorem Zv:e9 X (gW .Mult) (Zu X.K):=by
 intro pins s σ H x y v u Q I rx ry h
 obtain⟨l,k,xs,rfl,rfl,hH,h1,h2,hz,q0,q1⟩:=h
 cases rx
 obtain⟨t,rfl⟩:=ry
 obtain⟨its,r,p1,hz2⟩:=I.tuple hH
 have hl:its.length=xs.length:=r.length.symm
 obtain⟨⟨cls,dd,data,sl⟩,ho,hc,n,hd⟩:=id p1
 simp only at hc hd
 subst hc hd
 have hb:(decide (k < -(2^63))||decide (k≥2^63))=false:=by
  rw[decide_eq_false (by lia),decide_eq_false (by lia)];rfl
 refine wpAny_binaryOp_repeat_ref (T:="tuple") (U:="int") (by decide) ⟨_,ho,rfl⟩ (λs'=>typeIs_int s' k t) Zr F.fills_int_mul a9d Zs F.slot_int_index.lookup
  (qU a9d (typeIs_int s k t) F.entry_int_rmul (F.args_int_rmul_2 _ _) (Zt k t l its.toArray n dd sl) ⟨ho,rfl,⟨_,ho,rfl⟩,?_⟩)
 by_cases c1:xs=[]∨k=1
 ·have o9:(its.toArray.isEmpty||k==1)=true:=by
   rcases c1 with c | c
   ·have:its=[]:=List.length_eq_zero_iff.mp (by rw[hl,c];rfl)
    rw[this];rfl
   ·rw[c];simp
  exact qU Ti ⟨_,ho,rfl⟩ Tj (Tn _ _) (Zo l its.toArray n dd sl k t hb o9) ⟨ho,⟨.ref l,H,I,rfl,q0 c1⟩⟩
 ·have hx:xs≠[]:=λe=>c1 (.inl e)
  have Gd:k≠1:=λe=>c1 (.inr e)
  have aS:its≠[]:=λe=>hx (List.length_eq_zero_iff.mp (by rw[<-hl,e];rfl))
  have he:its.toArray.isEmpty=false:=by cases its with | nil=>exact absurd rfl aS | cons a b=>rfl
  have o9:(its.toArray.isEmpty||k==1)=false:=by rw[he];simpa using Gd
  by_cases c2:k<=0
  ·have Zw:k=0:=by lia
   refine qU Ti ⟨_,ho,rfl⟩ Tj (Tn _ _) (Zp l its.toArray n dd sl k t hb o9 (by rw[decide_eq_true c2];rfl)) ⟨ho,?_⟩
   have e0:(dN k.toNat xs).flatten=[]:=by rw[Zw];rfl
   refine⟨.ref s.heap.objs.size,_,I.laid (t':=s.toks) (o:=.tup (dN k.toNat xs).flatten) (λb ob q=>cX _ q) (a7 _) ?_,rfl,q1 hx Gd _ (I.aK.fresh (a7 _))⟩
   rw[e0]
   exact⟨by decide,[],.nil,⟨_,fu _ rfl,rfl,_,rfl⟩⟩
  ·have f0:∀m:Nat,List.foldl (λx1 x2=>x1++x2) #[] (dN m its.toArray)=(dN m its).flatten.toArray:=λm=>by
    have:=Mb its m []
    rw[pI] at this
    exact this
   have Zx:(dN k.toNat its).flatten.length<=1000:=by rw[Me,hl,KS];exact hz
   have jA:(its.toArray.size:Int)*k<=1000:=by
    rw[cY,hl,show k=((k.toNat:Nat):Int) by lia]
    exact_mod_cast hz
   refine qU Ti ⟨_,ho,rfl⟩ Tj (Tn _ _) (Zq l its.toArray n dd sl k t hb o9 (by rw[decide_eq_false c2,he];rfl) (by lia) ?_ ?_) ⟨ho,?_⟩
   ·unfold a9b
    have:(1000:Int)<=(bR:Int):=by decide
    exact decide_eq_false (by lia)
   ·rw[f0,cY]
    have:=qq Zx
    lia
   ·rw[f0]
    refine⟨.ref s.heap.objs.size,_,I.laid (t':=s.toks) (o:=.tup (dN k.toNat xs).flatten) (λb ob q=>cX _ q) (a7 _) ?_,rfl,q1 hx Gd _ (I.aK.fresh (a7 _))⟩
    exact⟨by rw[Me,KS];exact qq hz,_,r.rep k.toNat,⟨_,fu _ rfl,rfl,_,rfl⟩⟩
theorem ao.rep{K:aA}{H:Hp}{ds:List D}{xs:List V}(h:ao K H ds xs):∀n:Nat,ao K H (dN n ds).flatten (dN n xs).flatten
 | 0=>ao.nil
 | n+1=>by rw[pF,zX,pF,zX];exact h.append (ao.rep h n)
theorem yY:fI X (gW .Mult) oX:=by
 refine⟨_,e9.or (UE (X:=X.bT)) (Zv (X:=X.bT)),λH x y dx dy ix iy hg=>?_⟩
 cases dx with
 | int i =>
   cases dy with
   | int j =>
     obtain⟨hc,e⟩:=R.cT (show R.guard (sS i j) (R.ok (D.int (i*j)))≠R.no from hg)
     refine .inl ⟨i,j,Is.bU.mp ix,Is.bU.mp iy,?_,.int (i*j),e,.refl _,Is.bU.mpr rfl⟩
     unfold sS mh at hc
     show(-(2^64)<i/\i<2^64)∨(-(2^64)<j/\j<2^64)
     lia
   | _=>exact absurd rfl hg
 | tup ds =>
   cases dy with
   | int j =>
     obtain⟨⟨o9,nC⟩,e⟩:=R.cT (show R.guard (0<=j/\j<1000000/\ds.length*j.toNat<=1000) (R.ok (D.tup (dN j.toNat ds).flatten))≠R.no from hg)
     obtain⟨a,xs,rfl,h1,h2⟩:=Is.fB.mp ix
     have jk:=h2.length
     refine .inr ⟨a,j,xs,rfl,Is.bU.mp iy,h1,o9,nC.1,by rw[<-jk];exact nC.2,λc=>?_,λz z' p hp=>?_⟩
     ·refine⟨_,e,.refl _,Is.fB.mpr ⟨a,xs,rfl,h1,?_⟩⟩
      rcases c with c | c
      ·have:ds=[]:=List.length_eq_zero_iff.mp (by rw[jk,c];rfl)
       rw[this,c]
       have e2:∀m:Nat,(dN m ([]:List D)).flatten=[]:=λm=>by simp
       rw[e2];exact ao.nil
      ·subst c
       show ao X.K H (dN 1 ds).flatten xs
       rw[show(dN 1 ds).flatten=ds by simp];exact h2
     ·have S:=gP hp (.tup (dN j.toNat xs).flatten)
      exact⟨_,e,S,Is.fB.mpr ⟨p,_,rfl,cy.of dc,(h2.rep _).same S⟩⟩
   | _=>exact absurd rfl hg
 | _=>exact absurd rfl hg
mutual
def D.py:D->PyData
 | .cH=>.none
 | .bl b=>.bool b
 | .int i=>.int i
 | .str x=>.str x
 | .tup ds=>.tuple (D.f_ ds)
 | .lst ds=>.list (D.f_ ds)
 | .jX=>.dict []
 | .exc _=>.dict []
def D.f_:List D->List PyData
 | []=>[]
 | d::ds=>d.py::D.f_ ds
end
mutual
theorem tP:∀(n:Nat) (d:D),D.lay n d=true->d.py.canLay0=true/\d.py.depth<=n
 | n,.cH,_=>by simp[D.py,wY,Ab]
 | n,.bl _,_=>by simp[D.py,wY,Ab]
 | n,.int _,_=>by simp[D.py,wY,Ab]
 | n,.str x,h=>by
   have h':PyData.strOk x=true:=by have:=h;rw[nJ] at this;exact this
   simp[D.py,wY,Ab,h']
 | 0,.tup ds,h=>by simp[D.lay] at h
 | 0,.lst ds,h=>by simp[D.lay] at h
 | n+1,.tup ds,h=>by
   have q:=Ge n ds (by simpa [D.lay] using h)
   constructor
   ·simpa [D.py,wY] using q.1
   ·have:=q.2
    simp only[D.py,Ab];lia
 | n+1,.lst ds,h=>by
   have q:=Ge n ds (by simpa [D.lay] using h)
   constructor
   ·simpa [D.py,wY] using q.1
   ·have:=q.2
    simp only[D.py,Ab];lia
 | n,.jX,h=>by cases n<;>simp[D.lay] at h
 | n,.exc _,h=>by cases n<;>simp[D.lay] at h
theorem Ge:∀(n:Nat) (ds:List D),D.mi n ds=true->KZ (D.f_ ds)=true/\K0 (D.f_ ds)<=n
 | n,[],_=>by simp[D.f_,KZ,K0]
 | n,d::ds,h=>by
   have h':D.lay n d=true/\D.mi n ds=true:=by simpa [D.mi] using h
   have q1:=tP n d h'.1
   have q2:=Ge n ds h'.2
   constructor
   ·simp[D.f_,KZ,q1.1,q2.1]
   ·have:=q1.2;have:=q2.2
    simp only[D.f_,K0];lia
end
mutual
theorem tQ{pins:List (Addr×Obj)}{σ:St}{H:Hp}{s:ah}(I:Inv X pins σ H s):∀(n:Nat) (d:D) (v:V) (u:Value),D.lay n d=true->Is X.K H d v->RelV v u->∃as,Reads s.heap u d.py as
 | _,.cH,v,u,_,i,r=>by
   rw[Is.B0.mp i] at r;cases (show u=qQ from r)
   exact⟨_,.none⟩
 | _,.bl b,v,u,_,i,r=>by
   rw[Is.gv.mp i] at r;cases (show u=CZ b from r)
   exact⟨_,.bool b⟩
 | _,.int k,v,u,_,i,r=>by
   rw[Is.bU.mp i] at r
   obtain⟨t,rfl⟩:=(show ∃t,u=mZ k t from r)
   exact⟨_,.int k t⟩
 | _,.str x,v,u,_,i,r=>by
   rw[Is.gx.mp i] at r
   obtain⟨t,rfl⟩:=(show ∃t,u=zQ x t from r)
   exact⟨_,.str x t⟩
 | 0,.tup ds,v,u,h,_,_=>by simp[D.lay] at h
 | 0,.lst ds,v,u,h,_,_=>by simp[D.lay] at h
 | n+1,.tup ds,v,u,h,i,r=>by
   obtain⟨a,xs,rfl,h1,h2⟩:=Is.fB.mp i
   cases (show u=ft a from r)
   obtain⟨its,rv,⟨o,ho,hc,m,hd⟩,_⟩:=I.tuple h1
   obtain⟨as,ra⟩:=Gf I n ds xs its (by simpa [D.lay] using h) h2 rv
   exact⟨as,by unfold D.py;exact .tuple ho hc hd (by simpa using ra)⟩
 | n+1,.lst ds,v,u,h,i,r=>by
   obtain⟨a,xs,rfl,h1,h2⟩:=Is.fm.mp i
   cases (show u=ft a from r)
   obtain⟨its,rv,⟨o,m,ho,hc,_,hd⟩,_⟩:=I.list h1
   obtain⟨as,ra⟩:=Gf I n ds xs its (by simpa [D.lay] using h) h2 rv
   exact⟨a::as,by unfold D.py;exact .list ho hc hd (by simpa using ra)⟩
 | n,.jX,v,u,h,_,_=>by cases n<;>simp[D.lay] at h
 | n,.exc _,v,u,h,_,_=>by cases n<;>simp[D.lay] at h
theorem Gf{pins:List (Addr×Obj)}{σ:St}{H:Hp}{s:ah}(I:Inv X pins σ H s):∀(n:Nat) (ds:List D) (xs:List V) (us:List Value),D.mi n ds=true->ao X.K H ds xs->Vals xs us->∃as,ReadsAll s.heap us (D.f_ ds) as
 | n,[],xs,us,_,i,r=>by
   rw[ao.jb.mp i] at r
   cases r
   exact⟨_,by unfold D.f_;exact .nil⟩
 | n,d::ds,xs,us,h,i,r=>by
   obtain⟨x,r',rfl,h1,h2⟩:=ao.i4.mp i
   have h':D.lay n d=true/\D.mi n ds=true:=by simpa [D.mi] using h
   cases r with
   | cons q1 q2 =>
     obtain⟨as,ra⟩:=tQ I n d x _ h'.1 h1 q1
     obtain⟨bs,rb⟩:=Gf I n ds r' _ h'.2 h2 q2
     exact⟨as++bs,by unfold D.f_;exact .cons ra rb⟩
end
mutual
theorem B5:∀x y:D,cz x y=pL x.py y.py
 | .cH,y=>by cases y<;>simp[cz,D.py,pL]
 | .bl _,y=>by cases y<;>simp[cz,D.py,pL]
 | .int _,y=>by cases y<;>simp[cz,D.py,pL]
 | .str _,y=>by cases y<;>simp[cz,D.py,pL]
 | .jX,y=>by cases y<;>simp[cz,D.py,pL]
 | .exc _,y=>by cases y<;>simp[cz,D.py,pL]
 | .tup xs,y=>by
   cases y with
   | tup ys=>rw[cz,D.py,D.py,pL,Gg xs ys]
   | _=>simp[cz,D.py,pL]
 | .lst xs,y=>by
   cases y with
   | lst ys=>rw[cz,D.py,D.py,pL,Gg xs ys]
   | _=>simp[cz,D.py,pL]
theorem Gg:∀xs ys:List D,la xs ys=Dm (D.f_ xs) (D.f_ ys)
 | [],[]=>by simp[la,D.f_,Dm]
 | [],_::_=>by simp[la,D.f_,Dm]
 | _::_,[]=>by simp[la,D.f_,Dm]
 | x::xs,y::ys=>by rw[la,D.f_,D.f_,Dm,B5 x y,Gg xs ys]
end
theorem gd(hu:X.A.units+64<lZ):fI X (iP .Eq) dQ:=by
 refine⟨λx y H Q=>∃dx dy,Is X.K H dx x/\Is X.K H dy y/\D.lay 40 dx=true/\D.lay 40 dy=true/\Q (.bl (cz dx dy)) H,?_,λH x y dx dy ix iy hg=>?_⟩
 ·intro pins s σ H x y v u Q I rx ry h
  obtain⟨dx,dy,ix,iy,l1,l2,q⟩:=h
  obtain⟨as,ra⟩:=tQ I 40 dx x v l1 ix rx
  obtain⟨bs,rb⟩:=tQ I 40 dy y u l2 iy ry
  have p1:=tP 40 dx l1
  have p2:=tP 40 dy l2
  have OQ:X.A.units+64<lZ:=hu
  refine PySem.SeqAt.compareEq_reads ra rb p1.1 p2.1 (show X.A.units+min dx.py.depth dy.py.depth<lZ by lia) ⟨.bl (cz dx dy),H,I,by rw[B5];rfl,q⟩
 ·obtain⟨⟨l1,l2⟩,e⟩:=R.cT hg
  exact⟨dx,dy,ix,iy,l1,l2,.bl (cz dx dy),e,.refl _,Is.gv.mpr rfl⟩
theorem mJ(hu:X.A.units+64<lZ):fI X (iP .NotEq) gM:=by
 refine⟨λx y H Q=>∃dx dy,Is X.K H dx x/\Is X.K H dy y/\D.lay 40 dx=true/\D.lay 40 dy=true/\Q (.bl (!cz dx dy)) H,?_,λH x y dx dy ix iy hg=>?_⟩
 ·intro pins s σ H x y v u Q I rx ry h
  obtain⟨dx,dy,ix,iy,l1,l2,q⟩:=h
  obtain⟨as,ra⟩:=tQ I 40 dx x v l1 ix rx
  obtain⟨bs,rb⟩:=tQ I 40 dy y u l2 iy ry
  have p1:=tP 40 dx l1
  have p2:=tP 40 dy l2
  have OQ:X.A.units+64<lZ:=hu
  refine PySem.SeqAt.compareNe_reads ra rb p1.1 p2.1 (show X.A.units+min dx.py.depth dy.py.depth<lZ by lia) ⟨.bl (!cz dx dy),H,I,by rw[B5];rfl,q⟩
 ·obtain⟨⟨l1,l2⟩,e⟩:=R.cT hg
  exact⟨dx,dy,ix,iy,l1,l2,.bl (!cz dx dy),e,.refl _,Is.gv.mpr rfl⟩
theorem ao.cS{K:aA}{H:Hp}{ds:List D}{xs:List V}{i:Int}{d:D}(h:ao K H ds xs)(e:cS ds i=some d):∃x,L2.cS xs i=some x/\Is K H d x:=by
 unfold L2.cS
 unfold L3.cS at e
 rw[<-h.length]
 show ∃x,((L3.iV ds.length i).bind λj=>xs[j]?)=some x/\Is K H d x
 cases q:L3.iV ds.length i with
 | none=>rw[q] at e;cases e
 | some j =>
   rw[q] at e
   exact h.get (by simpa using e)
theorem bF(ha:PD X a ga)(hb:PD X b gb)(hs:DP b:=by intro _ _;rfl):PD X (.Subscript a b pos) (aj aI ga gb):=by
 refine⟨λpins s σ H F Γ I fo rl hg=>?_⟩
 refine K1 (av (ha.run pins s σ H F Γ I fo rl (R.left hg)) (λv s1 ⟨dx,x,H1,e1,I1,r1,S1,i1⟩=>?_) λ_ _ x=>x.bind _)
 have aJ:=R.next hg e1
 refine av (hb.run pins s1 σ H1 F Γ I1 (fo.same S1) (rl.same S1) (R.left aJ)) (λu s2 ⟨dy,y,H2,e2,I2,r2,S2,i2⟩=>?_) λ_ _ x=>bY.later e1 S1 (x.bind _)
 have dt:=R.next aJ e2
 have qr:=i1.same S2
 have fin:∀(d:D) (z:V),aI dx dy = .ok d->Is X.K H2 d z->∀(w':Value) (s':ah),EP X.bT pins σ (λz' H'=>z'=z/\H'=H2) w' s'->dg X pins σ H (aj aI ga gb Γ) w' s':=λd z ed iz w' s' ⟨z',H',I',rz,ez,eH⟩=>by
  subst ez eH
  exact dg.bind e1 S1 (dg.bind e2 S2 ⟨d,z',H',ed,I'.eQ,rz,.refl _,iz⟩)
 cases dx with
 | tup ds =>
   cases dy with
   | int i =>
     obtain⟨p,xs,rfl,h1,h2⟩:=Is.fB.mp qr
     cases q:cS ds i with
     | none=>exact absurd (show aI (.tup ds) (.int i) = .no by simp only[aI,q]) dt
     | some d =>
       obtain⟨z,ez,iz⟩:=h2.cS q
       exact av (L_ (X:=X.bT) a b pins s2 σ H2 _ y v u _ (I2.dm _) r1 r2 ⟨p,xs,i,z,rfl,Is.bU.mp i2,h1,ez,rfl,rfl⟩ (hs _ _)) (λw' s' h=>fin d z (by show aI (.tup ds) (.int i) = .ok d;simp only[aI,q]) iz w' s' h) λ_ _ z=>b6 z
   | _=>exact absurd rfl dt
 | lst ds =>
   cases dy with
   | int i =>
     obtain⟨p,xs,rfl,h1,h2⟩:=Is.fm.mp qr
     cases q:cS ds i with
     | none=>exact absurd (show aI (.lst ds) (.int i) = .no by simp only[aI,q]) dt
     | some d =>
       obtain⟨z,ez,iz⟩:=h2.cS q
       exact av (L9 (X:=X.bT) a b pins s2 σ H2 _ y v u _ (I2.dm _) r1 r2 ⟨p,xs,i,z,rfl,Is.bU.mp i2,h1,ez,rfl,rfl⟩ (hs _ _)) (λw' s' h=>fin d z (by show aI (.lst ds) (.int i) = .ok d;simp only[aI,q]) iz w' s' h) λ_ _ z=>b6 z
   | _=>exact absurd rfl dt
 | _=>exact absurd rfl dt
variable {x:Str}{p:Pos}{es:List Expr}{gs:G->R (List D)}{OR T:String}
def kF(X:Cx)(f:Value)(g:List D->R D):Prop:=∃r:List V->Hp->VK->Prop,iU X.bT f r/\∀H xs ds,ao X.K H ds xs->g ds ≠ .no->r xs H λz H'=>∃d,g ds = .ok d/\aO H H'/\Is X.K H' d z
theorem kF.run{f:Value}{g:List D->R D}(h:kF X f g){pins:List (Addr×Obj)}{s:ah}{σ:St}{H:Hp}{xs:List V}{us:List Value}{ds:List D}(I:Inv X pins σ H s)(r:Vals xs us)(i:ao X.K H ds xs)(hg:g ds ≠ .no){E:Value->ah->Prop} :
 au (aB X.prog X.w) X.A (call f us) (dg X pins σ H (g ds)) E s:=by
 obtain⟨r',ho,hr⟩:=h
 exact av (ho pins s σ H xs us _ (I.dm _) r (hr H xs ds i hg)) (λ_ _ ⟨z,H',I',rz,d,e,S,i⟩=>⟨d,z,H',e,I'.eQ,rz,S,i⟩) λ_ _ z=>b6 z
theorem eS{g:List D->R D}(hc:kF X (.builtin OR) g)(hm:X.mg x=none)(hv:lU x=some (.builtin OR))(ha:mG X (e::es) gs)(hg:Gl X x:=by rfl)(hn:x≠"__name__":=by decide)(g_:(x==("__debug__":Str))=false:=by decide)
 (he:aV (e::es) X.env=(false,eval e X.env)::aV es X.env:=by rfl) (gJ:(cC pos (aV es X.env)).any (·.1)=false:=by rfl):PD X (.Call (.Name x p) (e::es) [] pos) (ay g gs):=by
 refine⟨λpins s σ H F Γ I fo rl bZ=>?_⟩
 refine l8 (iA I hg hm hv ?_ hn g_)
 refine K2 (av (ha.run pos pins s σ H F Γ I fo rl (R.left bZ)) (λus s1 ⟨ds,vs,H1,e1,I1,r1,S1,i1⟩=>?_) λ_ _ x=>x.bind _) he gJ
 exact fE (hc.run I1 r1 i1 (R.next bZ e1)) λ_ _ q=>dg.bind e1 S1 q
theorem fC{g:List D->R D}(hc:kF X (.type T) g)(hm:X.mg x=none)(hv:lU x=some (.type T))(ha:mG X (e::es) gs)(hg:Gl X x:=by rfl)(hn:x≠"__name__":=by decide)(g_:(x==("__debug__":Str))=false:=by decide)
 (he:aV (e::es) X.env=(false,eval e X.env)::aV es X.env:=by rfl) (gJ:(cC pos (aV es X.env)).any (·.1)=false:=by rfl):PD X (.Call (.Name x p) (e::es) [] pos) (ay g gs):=by
 refine⟨λpins s σ H F Γ I fo rl bZ=>?_⟩
 refine l8 (iA I hg hm hv ?_ hn g_)
 refine pM (av (ha.run pos pins s σ H F Γ I fo rl (R.left bZ)) (λus s1 ⟨ds,vs,H1,e1,I1,r1,S1,i1⟩=>?_) λ_ _ x=>x.bind _) he gJ
 exact fE (hc.run I1 r1 i1 (R.next bZ e1)) λ_ _ q=>dg.bind e1 S1 q
theorem lE{K:aA}{H:Hp}{d:D}{xs:List V}(h:ao K H [d] xs):∃v,xs=[v]/\Is K H d v:=by
 obtain⟨x,r,rfl,h1,h2⟩:=ao.i4.mp h
 rw[ao.jb.mp h2]
 exact⟨x,rfl,h1⟩
theorem OS{K:aA}{H:Hp}{d d':D}{xs:List V}(h:ao K H [d,d'] xs):∃v v',xs=[v,v']/\Is K H d v/\Is K H d' v':=by
 obtain⟨x,r,rfl,h1,h2⟩:=ao.i4.mp h
 obtain⟨v,rfl,h3⟩:=lE h2
 exact⟨x,v,rfl,h1,h3⟩
theorem iG:kF X (.builtin "len") dF:=by
 refine⟨_,Vl (X:=X.bT),λH xs ds i hg=>?_⟩
 unfold dF at hg
 split at hg
 ·rename_i ys
  obtain⟨v,rfl,h⟩:=lE i
  obtain⟨a,zs,rfl,h1,h2⟩:=Is.fB.mp h
  exact⟨a,zs,rfl,.inr h1,.int ys.length,rfl,.refl _,Is.bU.mpr (by rw[h2.length])⟩
 ·rename_i ys
  obtain⟨v,rfl,h⟩:=lE i
  obtain⟨a,zs,rfl,h1,h2⟩:=Is.fm.mp h
  exact⟨a,zs,rfl,.inl h1,.int ys.length,rfl,.refl _,Is.bU.mpr (by rw[h2.length])⟩
 ·exact absurd rfl hg
theorem iH:kF X (.type "tuple") fL:=by
 refine⟨_,Vn (X:=X.bT),λH xs ds i hg=>?_⟩
 unfold fL at hg
 split at hg
 ·rename_i ys
  obtain⟨v,rfl,h⟩:=lE i
  obtain⟨a,zs,rfl,h1,h2⟩:=Is.fB.mp h
  exact⟨a,zs,rfl,.inr ⟨h1,.tup ys,rfl,.refl _,h⟩⟩
 ·rename_i ys
  obtain⟨v,rfl,h⟩:=lE i
  obtain⟨a,zs,rfl,h1,h2⟩:=Is.fm.mp h
  refine⟨a,zs,rfl,.inl ⟨h1,λl hl=>?_⟩⟩
  have S:=gP hl (.tup zs)
  exact⟨.tup ys,rfl,S,Is.fB.mpr ⟨l,zs,rfl,cy.of dc,h2.same S⟩⟩
 ·exact absurd rfl hg
theorem OT(hc:X.calm=true):kF X (.builtin "min") xI:=by
 refine⟨_,US (X:=X.bT) hc,λH xs ds i hg=>?_⟩
 unfold xI at hg
 split at hg
 ·rename_i i' j'
  obtain⟨v,v',rfl,h,h'⟩:=OS i
  exact⟨i',j',by rw[Is.bU.mp h,Is.bU.mp h'],_,rfl,.refl _,Is.bU.mpr rfl⟩
 ·exact absurd rfl hg
theorem Zy(hc:X.calm=true):iU X (.builtin "sum") (λxs H Q=>∃(a:Addr) (ns:List Int),xs=[.ref a]/\b9 X.K H a (ns.map V.int)/\Q (.int ns.sum) H):=by
 intro pins s σ H xs us Q I r h
 obtain⟨a,ns,rfl,hq,q⟩:=h
 obtain⟨u,rfl,ru⟩:=oR r
 cases ru
 obtain⟨its,rv,pl,_⟩:=I.list hq
 have hi:uB its ns:=L6 rv
 obtain⟨ys,hy⟩:=hi.allInts.items
 have hl:=pl.isList
 rw[hy] at hl
 refine sum_intListG (I.ok.hd hc) hl λh' tk t' hk=>⟨.int ns.sum,H,I.kept hk,⟨t',?_⟩,q⟩
 have hn:numsOf its.toArray.toList=ns:=by rw[show its.toArray.toList=its from rfl,hi.numsOf]
 rw[hy,nums_intItems] at hn
 rw[preSum_eq,C8 (by simp),hn]
theorem OU(hc:X.calm=true):kF X (.builtin "sum") rB:=by
 refine⟨_,Zy (X:=X.bT) hc,λH xs ds i hg=>?_⟩
 unfold rB at hg
 split at hg
 ·rename_i ys
  obtain⟨v,rfl,h⟩:=lE i
  obtain⟨a,zs,rfl,h1,h2⟩:=Is.fm.mp h
  cases q:mj ys with
  | none=>rw[q] at hg;exact absurd rfl hg
  | some ns =>
    have:=Eb q
    subst this
    rw[h2.F5] at h1
    exact⟨a,ns,rfl,h1,.int ns.sum,by show rB [.lst (ns.map D.int)]=_;simp only[rB,q],.refl _,Is.bU.mpr rfl⟩
 ·exact absurd rfl hg
theorem ao.Gh{K:aA}{H:Hp}:∀{ns:List Bool} {xs:List V},ao K H (ns.map D.bl) xs->xs=ns.map V.bl
 | [],xs,h=>ao.jb.mp h
 | n::ns,xs,h=>by
   obtain⟨x,r,rfl,hx,tr⟩:=ao.i4.mp h
   rw[Is.gv.mp hx,ao.Gh tr];rfl
theorem Gi:∀{bs:List Bool} {us:List Value} {i:Nat} {v:Value},Vals (bs.map V.bl) us->us[i]? = some v->∃b,bs[i]? = some b/\v = .bool b
 | [],us,i,v,r,e=>by cases r;simp at e
 | b::bs,us,0,v,r,e=>by
   cases r with
   | cons r1 r2=>simp at e;subst e;exact⟨b,rfl,r1⟩
 | b::bs,us,i+1,v,r,e=>by
   cases r with
   | cons r1 r2 =>
     obtain⟨b',e1,e2⟩:=Gi (i:=i) r2 (by simpa using e)
     exact⟨b',by simpa using e1,e2⟩
theorem OV:∀bs:List Bool,((eY bs.length).any λi=>(bs[i]?).getD false)=bs.any (λb=>b)
 | []=>rfl
 | b::bs=>by
   rw[cx,SW,z8,List.any_map,z8,<-OV bs]
   rfl
theorem Zz(hc:X.calm=true):iU X (.builtin "any") (λxs H Q=>∃(a:Addr) (bs:List Bool),xs=[.ref a]/\b9 X.K H a (bs.map V.bl)/\Q (.bl (bs.any (λb=>b))) H):=by
 intro pins s σ H xs us Q I r h
 obtain⟨a,bs,rfl,hq,q⟩:=h
 obtain⟨u,rfl,ru⟩:=oR r
 cases ru
 obtain⟨its,rv,pl,_⟩:=I.list hq
 have hl:=pl.isList
 have cw:a<s.heap.objs.size:=by obtain⟨_,e,_⟩:=hl;exact bH e
 have hlen:its.length=bs.length:=by rw[<-rv.length,a6]
 refine call_any_walk (K3 hl ?_)
 refine⟨s.heap.objs.size,[s.heap.objs.size,a],[s.heap.objs.size],its.toArray.size,_,_,λi=>(bs[i]?).getD false,rfl,To (A:=X.A.in1) (I.ok.hd hc) _ a (dS cw) its.toArray,
  ⟨⟨_,fu _ rfl,rfl,rfl⟩,hl.push _⟩,λi v s' Q' E' hP hQ=>?_,λh' tk hk=>?_⟩
 ·obtain⟨b,e,rfl⟩:=Gi rv (i:=i) (v:=v) (by simpa using hP)
  simp only[e,SX] at hQ
  exact wX hQ
 ·have e:((eY its.toArray.size).any λi=>(bs[i]?).getD false)=bs.any (λb=>b):=by
   rw[cY,hlen];exact OV bs
  refine⟨.bl (bs.any (λb=>b)),H,I.kept (λb x ex=>hk b x (λhm=>by rw[List.mem_singleton.mp hm] at ex;exact lT _ (bH ex)) (cX _ ex)),by rw[e];rfl,q⟩
theorem ZA(hc:X.calm=true):kF X (.builtin "any") p8:=by
 refine⟨_,Zz (X:=X.bT) hc,λH xs ds i hg=>?_⟩
 unfold p8 at hg
 split at hg
 ·rename_i ys
  obtain⟨v,rfl,h⟩:=lE i
  obtain⟨a,zs,rfl,h1,h2⟩:=Is.fm.mp h
  cases q:ml ys with
  | none=>rw[q] at hg;exact absurd rfl hg
  | some ns =>
    have:=Ec q
    subst this
    rw[h2.Gh] at h1
    exact⟨a,ns,rfl,h1,.bl (ns.any (λb=>b)),by show p8 [.lst (ns.map D.bl)]=_;simp only[p8,q],.refl _,Is.gv.mpr rfl⟩
 ·exact absurd rfl hg
end
def mK(P:aQ)(w:aN):kX:=λouter H s E x s'=>∃(e C T:Addr) (oe oT:Obj) (vs ts:Array Value) (H':Hp),x = .ref e/\s'.os=s.os/\m_ s'.gens/\Un (dj outer) [] H H' s.heap s'.heap/\dY P w H' s'.heap /\
 H' e=none/\s.heap.get? e=none/\s'.heap.get? e=some oe/\oe.cls = .ref C/\oe.data = .fields vs/\(∃a0,vs[0]? = some a0)/\vs[1]? = some (.ref T)/\H' T=none/\s.heap.get? T=none/\T≠e/\s'.heap.get? T=some oT/\oT.data = .fields ts/\ts[3]? = some .none/\E (.ref C) none H'
def yZ(K:aA)(mg:Str->Option Value)(φ:List D->R D):Sp:=λvs H Q E=>∃ds,ao K H ds vs/\φ ds ≠ .no/\(∀d v H',φ ds = .ok d->aO H H'->Is K H' d v->Q v H')/\(∀c C H',φ ds = .er c->mg c.nm=some (.ref C)->aO H H'->E (.ref C) none H')
def OW(K:aA)(mg:Str->Option Value)(φ:List D->R (List D)):Sp:=λvs H Q E=>∃ds,ao K H ds vs/\φ ds ≠ .no/\(∀es a xs H',φ ds = .ok es->aO H H'->H a=none->H' a=some (.lst xs)->ao K H' es xs->Q (.ref a) H')/\(∀c C H',φ ds = .er c->mg c.nm=some (.ref C)->aO H H'->E (.ref C) none H')
structure eN (P:aQ) (w:aN) (K:aA) (mg:Str->Option Value) (base:Heap) (k:Nat) (f:Addr) (fd:cG) (ps:List Str) (φ:List D->R D):Prop where
 ok:ja P w K mg base (mK P w) k f fd ps (yZ K mg φ)
 binds:jV K fd ps []
 kp:wG K (.ref f)=true
structure mL (P:aQ) (w:aN) (K:aA) (mg:Str->Option Value) (base:Heap) (k:Nat) (f:Addr) (fd:cG) (ps:List Str) (φ:List D->R (List D)):Prop where
 ok:ja P w K mg base (mK P w) k f fd ps (OW K mg φ)
 binds:jV K fd ps []
 kp:wG K (.ref f)=true
theorem eN.mono{P:aQ}{w:aN}{K:aA}{mg:Str->Option Value}{base:Heap}{j k:Nat}{f:Addr}{fd:cG}{ps:List Str}{φ:List D->R D}(F:eN P w K mg base j f fd ps φ)(h:j<=k):eN P w K mg base k f fd ps φ:=⟨F.ok.mono h,F.binds,F.kp⟩
section
variable {X:Cx}{e a b c:Expr}{g ga gb gc:G->R D}{pos p:Pos}{x:Str}{es:List Expr}{gs:G->R (List D)}
theorem _root_.L2.Inv.gone{pins:List (Addr×Obj)}{σ:St}{H:Hp}{s:ah}{q:Addr}(I:Inv X pins σ H s)(hex:X.ex=[])(hq:s.heap.get? q=none):X.s₀.heap.get? q=none/\q≠X.env.locals/\(∀y k,X.env.cells.lookup y=some k->k≠q)/\(∀p∈X.pn++pins,p.1≠q):=by
 refine⟨?_,λz=>?_,λy k ek z=>?_,λp hp z=>?_⟩
 ·cases e0:X.s₀.heap.get? q with
  | none=>rfl
  | some o =>
    obtain⟨o',e1⟩:=I.base.there q o e0 (by rw[hex];simp)
    rw[hq] at e1;cases e1
 ·obtain⟨m,⟨o,_,_,ho,_⟩,_⟩:=I.loc
  rw[<-z,hq] at ho;cases ho
 ·obtain⟨v,o,ho,_⟩:=I.cell y k ek
  rw[z,hq] at ho;cases ho
 ·have ho:=(I.pin p hp).1
  rw[z,hq] at ho;cases ho
theorem OX{pins:List (Addr×Obj)}{σ:St}{H:Hp}{s s':ah}{u:Value}{r:R D}{E:XK}(hex:X.ex=[]∨∀C H',¬E (.ref C) none H')(I:Inv X pins σ H s)(h:mK X.prog X.w X.stack H s E u s')
 (hE:∀C H',E (.ref C) none H'->∃c,r = .er c/\X.mg c.nm=some (.ref C)/\aO H H'):bY X pins σ H r u s':=by
 obtain⟨e,C,T,oe,oT,vs,ts,H',rfl,os,bare,un,aK,Gj,Gk,tR,Gm,Gn,Gp,hv,Gq,Gr,Gs,Gu,Gv,vT,B6⟩:=h
 have hex:X.ex=[]:=hex.resolve_right λz=>z C H' B6
 obtain⟨c,er,hm,S⟩:=hE C H' B6
 obtain⟨hh,gg,dd,tt,nB⟩:=s'
 obtain rfl:nB=s.os:=os
 have I':Inv X pins σ H' { s with heap:=hh,gens:=gg,drawn:=dd,toks:=tt }:=I.call (h':=hh) (g':=gg) (d':=dd) (t':=tt) (ch:=[]) un aK bare (λb z=>absurd z (by simp))
 have fr:∀q:Addr,s.heap.get? q=none->X.s₀.heap.get? q=none/\q≠X.env.locals/\(∀y k,X.env.cells.lookup y=some k->k≠q)/\(∀p∈X.pn++pins,p.1≠q):=λq hq=>I.gone hex hq
 obtain⟨f1,f2,f3,f4⟩:=fr e Gk
 obtain⟨g1,g2,g3,g4⟩:=fr T Gr
 exact⟨c,H',er,S,I',e,C,oe,vs,rfl,hm,Gj,f1,f2,f3,f4,tR,Gm,Gn,Gp,.inr ⟨T,oT,ts,hv,Gq,g1,g2,g3,g4,Gs,Gu,Gv,.inl vT⟩⟩
theorem OY{k:Nat}{f:Addr}{fd:cG}{ps:List Str}{φ:List D->R D}(Fn:eN X.prog X.w X.K X.mg X.base k f fd ps φ)(hr:eh k X.A){pins:List (Addr×Obj)}{σ:St}{H:Hp}{s:ah}{us:List Value}{vs:List V}{ds:List D}
 (I:Inv X pins σ H s) (r:Vals vs us) (i:ao X.K H ds vs) (hg:φ ds ≠ .no) (hx:X.ex=[]∨∀c,φ ds ≠ .er c):au (aB X.prog X.w) X.A (call (.ref f) us) (dg X pins σ H (φ ds)) (bY X pins σ H (φ ds)) s:=by
 have dZ:yZ X.K X.mg φ vs H (λv H'=>∃d,φ ds = .ok d/\aO H H'/\Is X.K H' d v) (λC' _ H'=>∃c C,C' = .ref C/\φ ds = .er c/\X.mg c.nm=some (.ref C)/\aO H H') :=
  ⟨ds,i,hg,λd v H' e S iv=>⟨d,e,S,iv⟩,λc C H' e hm S=>⟨c,C,rfl,e,hm,S⟩⟩
 have hl:us.length=ps.length:=by rw[<-r.length];exact Fn.ok.len _ _ _ _ dZ
 have hb:=Fn.binds s us I.fS (by rw[kM];exact hl)
 rw[kM] at hb
 refine Ac (qW (Fn.ok.run X.A X.stack s H ⟨us,[]⟩ us vs _ _ hr I.xt hb r dZ) λr' s' hq=>?_)
 cases r' with
 | error u =>
   refine OX (E:=λC' _ H'=>∃c C,C' = .ref C/\φ ds = .er c/\X.mg c.nm=some (.ref C)/\aO H H') (hx.imp_right λz C H' ⟨c,_,_,q,_⟩=>z c q) I hq λC H' hE=>?_
   obtain⟨c,C',e,h1,h2,h3⟩:=hE
   cases e
   exact⟨c,h1,h2,h3⟩
 | ok fl =>
   cases fl with
   | ret u =>
     obtain⟨v,H',I',rv,d,e,S,iv⟩:=I.after hq
     exact⟨d,v,H',e,I',rv,S,iv⟩
   | next=>exact b6 hq
   | brk=>exact b6 hq
   | cont=>exact b6 hq
theorem a9{k:Nat}{f:Addr}{fd:cG}{ps:List Str}{φ:List D->R D}(Fn:eN X.prog X.w X.K X.mg X.base k f fd ps φ)(hr:eh k X.A)(hm:X.mg x=some (.ref f))(ha:mG X (e::es) gs)(hex:X.ex=[]:=by rfl)(hg:Gl X x:=by rfl)(g_:(x==("__debug__":Str))=false:=by decide)
 (he:aV (e::es) X.env=(false,eval e X.env)::aV es X.env:=by rfl) (gJ:(cC pos (aV es X.env)).any (·.1)=false:=by rfl):PD X (.Call (.Name x p) (e::es) [] pos) (ay φ gs):=by
 refine⟨λpins s σ H F Γ I fo rl bZ=>?_⟩
 refine l8 (oP I hg hm ?_ g_)
 refine Ad (h₀:=X.base) I.ok.mod.pS Fn.kp (av (ha.run pos pins s σ H F Γ I fo rl (R.left bZ)) (λus s1 ⟨ds,vs,H1,e1,I1,r1,S1,i1⟩=>⟨I1.fS,?_⟩) λ_ _ x=>x.bind _) he gJ
 exact av (OY Fn hr I1 r1 i1 (R.next bZ e1) (.inl hex)) (λ_ _ q=>dg.bind e1 S1 q) λ_ _ q=>bY.later e1 S1 q
theorem eN.fF{P:aQ}{w:aN}{K:aA}{mg:Str->Option Value}{base:Heap}{k:Nat}{f:Addr}{fd:cG}{ps:List Str}{φ:List D->R D}(F:eN P w K mg base k f fd ps φ):eN P w K mg base k f fd ps (L3.fF φ):=by
 refine⟨F.ok.imp λvs H Q E h=>?_,F.binds,F.kp⟩
 obtain⟨ds,i,aS,aK,B7⟩:=h
 obtain⟨d,e1,e2⟩:=MA aS
 exact⟨ds,i,(by rw[e1];exact λz=>nomatch z),λd' v H' e S iv=>aK d' v H' (e2.trans (e1.symm.trans e)) S iv,λc C H' e=>by rw[e1] at e;cases e⟩
theorem mM{k:Nat}{f:Addr}{fd:cG}{ps:List Str}{φ:List D->R D}(Fn:eN X.prog X.w X.K X.mg X.base k f fd ps φ)(hr:eh k X.A)(hm:X.mg x=some (.ref f))(ha:mG X (e::es) gs)(hg:Gl X x:=by rfl)(g_:(x==("__debug__":Str))=false:=by decide)
 (he:aV (e::es) X.env=(false,eval e X.env)::aV es X.env:=by rfl) (gJ:(cC pos (aV es X.env)).any (·.1)=false:=by rfl):PD X (.Call (.Name x p) (e::es) [] pos) (ay (L3.fF φ) gs):=by
 refine⟨λpins s σ H F Γ I fo rl bZ=>?_⟩
 refine l8 (oP I hg hm ?_ g_)
 refine Ad (h₀:=X.base) I.ok.mod.pS Fn.kp (av (ha.run pos pins s σ H F Γ I fo rl (R.left bZ)) (λus s1 ⟨ds,vs,H1,e1,I1,r1,S1,i1⟩=>⟨I1.fS,?_⟩) λ_ _ x=>x.bind _) he gJ
 have aJ:=R.next bZ e1
 obtain⟨d,_,e3⟩:=MA aJ
 exact av (OY Fn.fF hr I1 r1 i1 aJ (.inr λc z=>by rw[e3] at z;cases z)) (λ_ _ q=>dg.bind e1 S1 q) λ_ _ q=>bY.later e1 S1 q
theorem ZC{k:Nat}{f:Addr}{fd:cG}{ps:List Str}{φ:List D->R (List D)}(Fn:mL X.prog X.w X.K X.mg X.base k f fd ps φ)(hr:eh k X.A){pins:List (Addr×Obj)}{σ:St}{H:Hp}{s:ah}{us:List Value}{vs:List V}{ds:List D}
 (I:Inv X pins σ H s) (r:Vals vs us) (i:ao X.K H ds vs) (hg:φ ds ≠ .no) (hx:X.ex=[]∨∀c,φ ds ≠ .er c):au (aB X.prog X.w) X.A (call (.ref f) us) (λu s'=>∃es a xs H',φ ds = .ok es/\Inv X pins σ H' s'/\u = .ref a/\aO H H'/\H a=none/\H' a=some (.lst xs)/\ao X.K H' es xs) (bY X pins σ H (φ ds)) s:=by
 have dZ:OW X.K X.mg φ vs H (λv H'=>∃es a xs,v = .ref a/\φ ds = .ok es/\aO H H'/\H a=none/\H' a=some (.lst xs)/\ao X.K H' es xs) (λC' _ H'=>∃c C,C' = .ref C/\φ ds = .er c/\X.mg c.nm=some (.ref C)/\aO H H') :=
  ⟨ds,i,hg,λes a xs H' e S h1 h2 h3=>⟨es,a,xs,rfl,e,S,h1,h2,h3⟩,λc C H' e hm S=>⟨c,C,rfl,e,hm,S⟩⟩
 have hl:us.length=ps.length:=by rw[<-r.length];exact Fn.ok.len _ _ _ _ dZ
 have hb:=Fn.binds s us I.fS (by rw[kM];exact hl)
 rw[kM] at hb
 refine Ac (qW (Fn.ok.run X.A X.stack s H ⟨us,[]⟩ us vs _ _ hr I.xt hb r dZ) λr' s' hq=>?_)
 cases r' with
 | error u =>
   obtain⟨c,H',e1,S,fl⟩:=OX (r:=φ ds>>=λ_=>.ok D.cH) (E:=λC' _ H'=>∃c C,C' = .ref C/\φ ds = .er c/\X.mg c.nm=some (.ref C)/\aO H H') (hx.imp_right λz C H' ⟨c,_,_,q,_⟩=>z c q) I hq λC H' hE=>by
    obtain⟨c,C',e,h1,h2,h3⟩:=hE
    cases e
    exact⟨c,R.stop h1 _,h2,h3⟩
   refine⟨c,H',?_,S,fl⟩
   cases q:φ ds with
   | no=>exact absurd q hg
   | ok _=>rw[q] at e1;cases e1
   | er c'=>rw[q] at e1;cases e1;rfl
 | ok fl =>
   cases fl with
   | ret u =>
     obtain⟨v,H',I',rv,es,a,xs,rfl,e,S,h1,h2,h3⟩:=I.after hq
     exact⟨es,a,xs,H',e,I',rv,S,h1,h2,h3⟩
   | next=>exact b6 hq
   | brk=>exact b6 hq
   | cont=>exact b6 hq
theorem mO{k:Nat}{f:Addr}{fd:cG}{ps:List Str}{φ:List D->R (List D)}(Fn:mL X.prog X.w X.K X.mg X.base k f fd ps φ)(hr:eh k X.A)(hm:X.mg x=some (.ref f))(ha:mG X (e::es) gs)(hex:X.ex=[]:=by rfl)(hg:Gl X x:=by rfl)(g_:(x==("__debug__":Str))=false:=by decide)
 (he:aV (e::es) X.env=(false,eval e X.env)::aV es X.env:=by rfl) (gJ:(cC pos (aV es X.env)).any (·.1)=false:=by rfl):PF X (.Call (.Name x p) (e::es) [] pos) (fV φ gs):=by
 refine⟨λpins s σ H F Γ I fo rl bZ=>?_⟩
 refine l8 (oP I hg hm ?_ g_)
 refine Ad (h₀:=X.base) I.ok.mod.pS Fn.kp (av (ha.run pos pins s σ H F Γ I fo rl (R.left bZ)) (λus s1 ⟨ds,vs,H1,e1,I1,r1,S1,i1⟩=>⟨I1.fS,?_⟩) λ_ _ x=>x.bind _) he gJ
 have aJ:=R.next bZ e1
 refine av (ZC Fn hr I1 r1 i1 (R.left aJ) (.inl hex)) (λu s' ⟨cJ,a,xs,H',e2,I2,eu,S2,h1,h2,h3⟩=>?_) λ_ _ q=>bY.later e1 S1 (q.bind _)
 have fg:=R.next aJ e2
 obtain⟨n,e3⟩:=R.cT fg
 exact⟨cJ,a,xs,H',(R.step e1 _).trans ((R.step e2 _).trans e3),I2,eu,S1.trans S2,S1.free h1,h2,ao.aF (((fo.same S1).same S2).cons h2) cJ xs n h3⟩
theorem B8{x:Str}(ha:PD X a ga)(hm:X.mg x=none)(hv:lU x=some (.type "list"))(hg:Gl X x:=by rfl)(hn:x≠"__name__":=by decide)(g_:(x==("__debug__":Str))=false:=by decide)
 (he:aV [a] X.env=(false,eval a X.env)::aV [] X.env:=by rfl) (gJ:(cC pos (aV [] X.env)).any (·.1)=false:=by rfl):PF X (.Call (.Name x p) [a] [] pos) (jZ ga):=by
 refine⟨λpins s σ H F Γ I fo rl bZ=>?_⟩
 refine l8 (iA I hg hm hv ?_ hn g_)
 refine pM (av ((ai ha az he).run pos pins s σ H F Γ I fo rl (λz=>?_)) (λus s1 ⟨ds,vs,H1,e1,I1,r1,S1,i1⟩=>?_) λ_ _ q=>?_) he gJ
 ·unfold ae at z
  cases q:ga Γ with
  | no=>exact absurd (show jZ ga Γ = .no by unfold jZ;rw[q];rfl) bZ
  | ok d=>rw[q] at z;cases z
  | er c=>rw[q] at z;cases z
 ·have e0:∃d,ga Γ = .ok d/\ds=[d]:=by
   unfold ae at e1
   cases q:ga Γ with
   | no=>rw[q] at e1;cases e1
   | ok d=>rw[q] at e1;cases e1;exact⟨d,rfl,rfl⟩
   | er c=>rw[q] at e1;cases e1
  obtain⟨d,ed,rfl⟩:=e0
  obtain⟨v,rfl,iv⟩:=lE i1
  have aJ:=R.next bZ ed
  have fin:∀(p':Addr) (ys:List V) (cJ:List D),v = .ref p'->(b9 X.K H1 p' ys∨cy X.K H1 p' ys)->ao X.K H1 cJ ys->D.a_ cJ=true->jZ ga Γ = .ok cJ ->
   au (aB X.prog X.w) X.A (call (.type "list") us) (λu s'=>∃ds a xs H',jZ ga Γ = .ok ds/\Inv X pins σ H' s'/\u = .ref a/\aO H H'/\H a=none/\H' a=some (.lst xs)/\ao X.K (aF (a::F) H') ds xs) (bY X pins σ H (jZ ga Γ)) s1:=λp' ys cJ ev hq ie gX eg=>by
   subst ev
   refine av (Vm (X:=X.bT) pins s1 σ H1 _ us (λz H'=>∃l,z = .ref l/\H1 l=none/\H'=upd H1 l (.lst ys)) (I1.dm _) r1 ⟨p',ys,rfl,hq,λl hl=>⟨l,rfl,hl,rfl⟩⟩) (λu s' ⟨z,H',I',rz,l,ez,hl,eH⟩=>?_) λ_ _ z=>b6 z
   subst ez eH
   have S2:=gP hl (.lst ys)
   exact⟨cJ,l,ys,_,eg,I'.eQ,rz,S1.trans S2,S1.free hl,dc,ao.aF (((fo.same S1).same S2).cons dc) cJ ys gX (ie.same S2)⟩
  cases d with
  | tup cJ =>
    obtain⟨n,e2⟩:=R.cT (show R.guard (D.a_ cJ=true) (.ok cJ) ≠ .no from aJ)
    obtain⟨p',ys,ev,h1,h2⟩:=Is.fB.mp iv
    exact fin p' ys cJ ev (.inr h1) h2 n ((R.step ed _).trans e2)
  | lst cJ =>
    obtain⟨n,e2⟩:=R.cT (show R.guard (D.a_ cJ=true) (.ok cJ) ≠ .no from aJ)
    obtain⟨p',ys,ev,h1,h2⟩:=Is.fm.mp iv
    exact fin p' ys cJ ev (.inl h1) h2 n ((R.step ed _).trans e2)
  | _=>exact absurd rfl aJ
 ·obtain⟨c',H',e1,S,fl⟩:=q
  refine⟨c',H',?_,S,fl⟩
  unfold ae at e1
  cases q:ga Γ with
  | no=>rw[q] at e1;cases e1
  | ok d=>rw[q] at e1;cases e1
  | er c=>rw[q] at e1;cases e1;unfold jZ;rw[q];rfl
theorem qt{ga gb:G->R (List D)}(ha:PF X a ga)(hb:PF X b gb):PF X (.BinOp a .Add b pos) (iC ga gb):=by
 refine⟨λpins s σ H F Γ I fo rl hg=>?_⟩
 refine Tf (av (ha.run pins s σ H F Γ I fo rl (R.left hg)) (λv s1 ⟨dx,a1,xs,H1,e1,I1,r1,S1,n1,h1,i1⟩=>?_) λ_ _ x=>x.bind _)
 have aJ:=R.next hg e1
 refine av (hb.run pins s1 σ H1 F Γ I1 (fo.same S1) (rl.same S1) (R.left aJ)) (λu s2 ⟨dy,a2,ys,H2,e2,I2,r2,S2,n2,h2,i2⟩=>?_) λ_ _ x=>bY.later e1 S1 (x.bind _)
 have fg:=R.next aJ e2
 obtain⟨hc,e3⟩:=R.cT fg
 subst r1 r2
 have hz:xs.length+ys.length<=bR:=by rw[<-i1.length,<-i2.length];exact qq hc
 refine av (Vz (X:=X.bT) pins s2 σ H2 (.ref a1) (.ref a2) _ _ (λz H'=>∃l,z = .ref l/\H2 l=none/\H'=upd H2 l (.lst (xs++ys))) (I2.dm _) rfl rfl ⟨a1,a2,xs,ys,rfl,rfl,S2 _ _ h1,h2,hz,λl hl=>⟨l,rfl,hl,rfl⟩⟩) (λu s' ⟨z,H',I',rz,l,ez,hl,eH⟩=>?_) λ_ _ z=>b6 z
 subst ez eH
 have S3:=gP hl (.lst (xs++ys))
 have up:∀{q:Addr} {Hq:Hp} {zs:List V} {ds:List D},aO Hq H2->Hq q≠none->ao X.K (aF (q::F) Hq) ds zs->ao X.K (aF (l::F) (upd H2 l (.lst (xs++ys)))) ds zs:=λ{q Hq zs ds} Sq hq i=>by
  refine i.same λb o hb=>?_
  obtain⟨z1,z2⟩:=iF hb
  have z3:=Sq _ _ z2
  have fJ:b≠l:=gI z3 hl
  rw[da λz=>(List.mem_cons.mp z).elim fJ λz'=>z1 (dJ _ z'),bD fJ]
  exact z3
 exact⟨dx++dy,l,xs++ys,_,(R.step e1 _).trans ((R.step e2 _).trans e3),I'.eQ,rz,(S1.trans S2).trans S3,S1.free (S2.free hl),dc,(up S2 (by rw[h1];simp) i1).append (up (.refl _) (by rw[h2];simp) i2)⟩
end
def JD(K:aA)(H:Hp)(F:List Addr)(J:It)(ds:List D):Prop:=∀H1,(∀b o,b ∉ F->H b=some o->H1 b=some o) ->
 (∀i:Nat,i<ds.length->J.go i H1/\∀x H2,J.Aw i H1 x H2->H2=H1/\∃d,ds[i]? = some d/\∀F',(∀b,b∈F'->b∈F∨H b=none)->Is K (aF F' H1) d x)/\J.stop ds.length H1
def JC(K:aA)(H:Hp)(F:List Addr)(J:It)(ds:List D):Prop:=∀H1,aO H H1 ->
 (∀i:Nat,i<ds.length->J.go i H1/\∀x H2,J.Aw i H1 x H2->H2=H1/\∃d,ds[i]? = some d/\Is K (aF F H1) d x)/\J.stop ds.length H1
theorem JD.jc{K:aA}{H:Hp}{F:List Addr}{J:It}{ds:List D}(h:JD K H F J ds):JC K H F J ds:=λH1 S=>by
 obtain⟨h1,h2⟩:=h H1 λb o _ q=>S b o q
 refine⟨λi hi=>⟨(h1 i hi).1,λx H2 y=>?_⟩,h2⟩
 obtain⟨e,d,ed,iv⟩:=(h1 i hi).2 x H2 y
 exact⟨e,d,ed,iv F λb hb=>.inl hb⟩
structure kG (Jx:aA->Hp->List Addr->It->List D->Prop) (X:Cx) (tg iter:Expr) (g:G->R (List D)):Prop where
 run:∀(pins:List (Addr×Obj)) (s:ah) (σ:St) (H:Hp) (F:List Addr) (Γ:G),Inv X pins σ H s->bI H F->Rel X.K H F Γ σ->g Γ ≠ .no ->
  au (aB X.prog X.w) X.A (eval iter X.env) (λv s1=>au (aB X.prog X.w) X.A (qS v) (λkW s2=>∃(ds:List D) (it:Addr) (fp:List Addr) (tn:Nat->Heap->Prop) (J:It) (H':Hp),g Γ = .ok ds/\kW = .ref it/\Inv X pins σ H' s2/\aO H H' /\
   Turn X.prog X.w X.K tg J fp it tn/\tn 0 s2.heap/\(∀b∈fp,fx X pins H' b)/\Jx X.K H' F J ds) (bY X pins σ H (g Γ)) s1) (bY X pins σ H (g Γ)) s
abbrev vU:=kG JD
abbrev tS:=kG JC
theorem kG.qu{X:Cx}{tg iter:Expr}{g:G->R (List D)}(h:vU X tg iter g):tS X tg iter g:=⟨λpins s σ H F Γ I fo rl hg =>
 fE (h.run pins s σ H F Γ I fo rl hg) λv s1 h1=>fE h1 λkW s2 ⟨ds,it,fp,tn,J,H',e,ei,I',S,T,t0,fk,j⟩=>⟨ds,it,fp,tn,J,H',e,ei,I',S,T,t0,fk,j.jc⟩⟩
section
variable {X:Cx}{tg a b:Expr}{ga gb:G->R D}
theorem OZ{K:aA}{H:Hp}{F:List Addr}{p:Addr}{xs:List V}{ds:List D}(h:b9 K H p xs)(i:ao K (aF F H) ds xs):JC K H F (Ax K p) ds:=λH1 S=>by
 have h1:=S.seq h
 have il:=i.length
 refine⟨λj hj=>⟨⟨xs,xs[j]'(by lia),h1,eO (by lia)⟩,λx H2 y=>⟨y.1,?_⟩⟩,⟨xs,h1,by lia⟩⟩
 exact(i.same (g7 S)).yT (y.2 xs h1)
theorem B9{H H1:Hp}{F F':List Addr}(S:∀b o,b ∉ F->H b=some o->H1 b=some o)(o:∀b,b∈F'->b∈F∨H b=none):aO (aF F H) (aF F' H1):=Ext.aF ⟨S,o⟩
theorem O0{K:aA}{H:Hp}{F:List Addr}{p:Addr}{xs:List V}{ds:List D}(h:cy K (aF F H) p xs)(i:ao K (aF F H) ds xs):JD K H F (DK K p) ds:=λH1 S=>by
 have h1:cy K H1 p xs:=tN (kD (F:=F)) (tN (B9 S λb hb=>.inl hb) h)
 have il:=i.length
 refine⟨λj hj=>⟨⟨xs,xs[j]'(by lia),h1,eO (by lia)⟩,λx H2 y=>⟨y.1,?_⟩⟩,⟨xs,h1,by lia⟩⟩
 obtain⟨d,ed,iv⟩:=i.yT (y.2 xs h1)
 exact⟨d,ed,λF' hF=>iv.same (B9 S hF)⟩
theorem ZD{K:aA}{H:Hp}{F:List Addr}{p:Addr}{xs:List V}{ds:List D}(h:b9 K (aF F H) p xs)(i:ao K (aF F H) ds xs):JD K H F (Ax K p) ds:=λH1 S=>by
 have h1:b9 K H1 p xs:=(kD (F:=F)).seq ((B9 S λb hb=>.inl hb).seq h)
 have il:=i.length
 refine⟨λj hj=>⟨⟨xs,xs[j]'(by lia),h1,eO (by lia)⟩,λx H2 y=>⟨y.1,?_⟩⟩,⟨xs,h1,by lia⟩⟩
 obtain⟨d,ed,iv⟩:=i.yT (y.2 xs h1)
 exact⟨d,ed,λF' hF=>iv.same (B9 S hF)⟩
theorem Gw{pins:List (Addr×Obj)}{σ:St}{H:Hp}{s:ah}{p:Addr}{xs:List V}{E:Value->ah->Prop}{Q:Value->ah->Prop}(I:Inv X pins σ H s)(h:b9 X.K H p xs)
 (q:∀it s2,Inv X pins σ H s2->Turn X.prog X.w X.K tg (Ax X.K p) [it] it (λi h=>h.IsListIter it p i)->s2.heap.IsListIter it p 0->(∀b∈[it],fx X pins H b)->Q (.ref it) s2):au (aB X.prog X.w) X.A (qS (.ref p)) Q E s:=by
 obtain⟨its,rv,pl,hz⟩:=I.list h
 refine K3 pl.isList (q s.heap.objs.size _ (I.kept (t':=s.toks) λb o e=>cX _ e) (Uw p _) ⟨_,fu _ rfl,rfl,rfl⟩ λb hb=>?_)
 have e:b=s.heap.objs.size:=by simpa using hb
 subst e
 exact I.sN (a7 _) (I.aK.fresh (a7 _))
theorem O1{pins:List (Addr×Obj)}{σ:St}{H:Hp}{s:ah}{p:Addr}{xs:List V}{E:Value->ah->Prop}{Q:Value->ah->Prop}(I:Inv X pins σ H s)(h:cy X.K H p xs)
 (q:∀it s2,Inv X pins σ H s2->Turn X.prog X.w X.K tg (DK X.K p) [it] it (λi h=>h.IsTupleIter it p i)->s2.heap.IsTupleIter it p 0->(∀b∈[it],fx X pins H b)->Q (.ref it) s2):au (aB X.prog X.w) X.A (qS (.ref p)) Q E s:=by
 obtain⟨its,rv,pl,hz⟩:=I.tuple h
 refine wpAny_pyIter_tuple (show s.heap.IsTuple p its.toArray from pl) (q s.heap.objs.size _ (I.kept (t':=s.toks) λb o e=>cX _ e) (Ux p _) ⟨_,fu _ rfl,rfl,rfl⟩ λb hb=>?_)
 have e:b=s.heap.objs.size:=by simpa using hb
 subst e
 exact I.sN (a7 _) (I.aK.fresh (a7 _))
theorem r8(ha:jj X a ga):vU X tg a (ku ga):=by
 refine⟨λpins s σ H F Γ I fo rl hg=>?_⟩
 refine av (ha.run pins s σ H F Γ I fo rl (R.left hg)) (λv s1 ⟨d,x,H1,e1,I1,r1,S1,i1⟩=>?_) λ_ _ x=>x.bind _
 have aJ:=R.next hg e1
 cases d with
 | tup ds =>
   obtain⟨p,xs,rfl,h1,h2⟩:=Is.fB.mp i1
   cases (show v=ft p from r1)
   exact O1 (tg:=tg) I1 (tN (kD (F:=F)) h1) λit s2 I2 T t0 fk=>⟨ds,it,_,_,_,H1,R.step e1 _,rfl,I2,S1,T,t0,fk,O0 h1 h2⟩
 | lst ds =>
   obtain⟨p,xs,rfl,h1,h2⟩:=Is.fm.mp i1
   cases (show v=ft p from r1)
   exact Gw (tg:=tg) I1 ((kD (F:=F)).seq h1) λit s2 I2 T t0 fk=>⟨ds,it,_,_,_,H1,R.step e1 _,rfl,I2,S1,T,t0,fk,ZD h1 h2⟩
 | _=>exact absurd rfl aJ
theorem pf(ha:PD X a ga):tS X tg a (fW ga):=by
 refine⟨λpins s σ H F Γ I fo rl hg=>?_⟩
 refine av (ha.run pins s σ H F Γ I fo rl (R.left hg)) (λv s1 ⟨d,x,H1,e1,I1,r1,S1,i1⟩=>?_) λ_ _ x=>x.bind _
 have aJ:=R.next hg e1
 cases d with
 | tup ds =>
   obtain⟨n,e2⟩:=R.cT (show R.guard (D.a_ ds=true) (.ok ds) ≠ .no from aJ)
   obtain⟨p,xs,rfl,h1,h2⟩:=Is.fB.mp i1
   cases (show v=ft p from r1)
   exact O1 (tg:=tg) I1 h1 λit s2 I2 T t0 fk=>⟨ds,it,_,_,_,H1,(R.step e1 _).trans e2,rfl,I2,S1,T,t0,fk,(O0 (ON (fo.same S1) h1) (ao.aF (fo.same S1) ds xs n h2)).jc⟩
 | lst ds =>
   obtain⟨n,e2⟩:=R.cT (show R.guard (D.a_ ds=true) (.ok ds) ≠ .no from aJ)
   obtain⟨p,xs,rfl,h1,h2⟩:=Is.fm.mp i1
   cases (show v=ft p from r1)
   exact Gw (tg:=tg) I1 h1 λit s2 I2 T t0 fk=>⟨ds,it,_,_,_,H1,(R.step e1 _).trans e2,rfl,I2,S1,T,t0,fk,OZ h1 (ao.aF (fo.same S1) ds xs n h2)⟩
 | _=>exact absurd rfl aJ
theorem O2{K:aA}{H:Hp}{F:List Addr}(lo:Int)(n:Nat):JD K H F (sO lo n) (iW lo n):=λH1 S=>by
 rw[sU]
 refine⟨λj hj=>⟨hj,λx H2 y=>⟨y.1,.int (lo+(j:Int)),Ee lo n j hj,λF' _=>?_⟩⟩,a7 _⟩
 exact Is.bU.mpr y.2
theorem r9{p pos:Pos}(ha:PD X a ga)(hm:X.mg "range"=none)(hg:Gl X "range":=by rfl)(hs:aV [a] X.env=[(false,eval a X.env)]:=by rfl):vU X tg (.Call (.Name "range" p) [a] [] pos) (mq ga):=by
 refine⟨λpins s σ H F Γ I fo rl bZ=>?_⟩
 refine wZ (iA I hg hm K4 (pM ?_ hs rfl))
 rw[hs]
 show au _ _ (eE ((false,eval a X.env)::cC pos [])) _ _ s
 refine fw (av (ha.run pins s σ H F Γ I fo rl (R.left bZ)) (λu s1 ⟨d,v,H1,e1,I1,r1,S1,i1⟩=>h_ ?_) λ_ _ x=>x.bind _)
 have aJ:=R.next bZ e1
 cases d with
 | int j =>
   obtain⟨⟨h1,h2⟩,e2⟩:=R.cT (show R.guard (-(2^62)<=j/\j<2^62) (.ok (iW 0 j.toNat)) ≠ .no from aJ)
   rw[Is.bU.mp i1] at r1
   obtain⟨t,rfl⟩:=(show ∃t,u=mZ j t from r1)
   refine call_range_1 (fE (DL (tg:=tg) (R:=λJ H'=>J=sO 0 (j-0).toNat/\H'=H1) I1 (by lia) (by lia) h1 h2 ⟨rfl,rfl⟩) λkW s2 ⟨it,fp,tn,J,H',ei,I2,T,t0,fk,eJ,eH⟩=>?_)
   subst eJ eH
   rw[Int.sub_zero] at T
   exact⟨_,it,fp,tn,_,H',(R.step e1 _).trans e2,ei,I2,S1,T,t0,fk,O2 0 j.toNat⟩
 | _=>exact absurd rfl aJ
theorem ZE{p pos:Pos}(ha:PD X a ga)(hb:PD X b gb)(hm:X.mg "range"=none)(hg:Gl X "range":=by rfl)(hs:aV [a,b] X.env=[(false,eval a X.env),(false,eval b X.env)]:=by rfl)(r_:aV [b] X.env=[(false,eval b X.env)]:=by rfl) :
 vU X tg (.Call (.Name "range" p) [a,b] [] pos) (xK ga gb):=by
 refine⟨λpins s σ H F Γ I fo rl bZ=>?_⟩
 refine wZ (iA I hg hm K4 (pM ?_ (by rw[hs,r_]) (by rw[r_];rfl)))
 rw[hs]
 show au _ _ (eE ((false,eval a X.env)::cC pos [(false,eval b X.env)])) _ _ s
 refine fw (av (ha.run pins s σ H F Γ I fo rl (R.left bZ)) (λu s1 ⟨d,v,H1,e1,I1,r1,S1,i1⟩=>?_) λ_ _ x=>x.bind _)
 have aJ:=R.next bZ e1
 show au _ _ (eE ((false,eval b X.env)::cC pos [])) _ _ s1
 refine fw (av (hb.run pins s1 σ H1 F Γ I1 (fo.same S1) (rl.same S1) (R.left aJ)) (λu2 s2 ⟨d2,v2,H2,e2,I2,r2,S2,i2⟩=>h_ ?_) λ_ _ x=>bY.later e1 S1 (x.bind _))
 have dt:=R.next aJ e2
 cases d with
 | int i =>
   cases d2 with
   | int j =>
     obtain⟨⟨⟨h1,h2⟩,h3,h4⟩,e3⟩:=R.cT (show R.guard ((-(2^62)<=i/\i<2^62) /\ -(2^62)<=j/\j<2^62) (.ok (iW i (j-i).toNat)) ≠ .no from dt)
     rw[Is.bU.mp i1] at r1
     rw[Is.bU.mp i2] at r2
     obtain⟨t,rfl⟩:=(show ∃t,u=mZ i t from r1)
     obtain⟨t',rfl⟩:=(show ∃t,u2=mZ j t from r2)
     refine call_range_2 (fE (DL (tg:=tg) (R:=λJ H'=>J=sO i (j-i).toNat/\H'=H2) I2 h1 h2 h3 h4 ⟨rfl,rfl⟩) λkW s3 ⟨it,fp,tn,J,H',ei,I3,T,t0,fk,eJ,eH⟩=>?_)
     subst eJ eH
     exact⟨_,it,fp,tn,_,H',(R.step e1 _).trans ((R.step e2 _).trans e3),ei,I3,S1.trans S2,T,t0,fk,O2 i (j-i).toNat⟩
   | _=>exact absurd rfl dt
 | _=>exact absurd rfl dt
end
theorem B_{k:oF}(h:(k==q_)=true):k = .free:=by cases k<;>first | rfl | (exact absurd h (by decide))
def cI(env:Env):List (Str×oF)->List (Str×Addr)->List (Str×Addr)
 | [],cs=>cs
 | (n,k)::r,cs=>if (k == .free)=true then (match env.cells.lookup n with | some a=>cI env r ((n,a)::cs) | none=>cI env r cs) else cI env r cs
theorem j6{env:Env}{x:Str}{c:Addr}:∀(names:List (Str×oF)) (cs:List (Str×Addr)),(x,c)∈cI env names cs->(x,c)∈cs∨env.cells.lookup x=some c
 | [],cs,h=>.inl h
 | (n,k)::r,cs,h=>by
   unfold cI at h
   split at h
   ·split at h
    ·rename_i a e
     rcases j6 r _ h with q | q
     ·rcases List.mem_cons.mp q with z | z
      ·cases z;exact .inr e
      ·exact .inl z
     ·exact .inr q
    ·exact j6 r _ h
   ·exact j6 r _ h
theorem Ca{env:Env}{p:Str×Addr}:∀(names:List (Str×oF)) (cs:List (Str×Addr)),p∈cs->p∈cI env names cs
 | [],cs,h=>h
 | (n,k)::r,cs,h=>by
   unfold cI
   split
   ·split
    ·exact Ca r _ (dJ _ h)
    ·exact Ca r _ h
   ·exact Ca r _ h
theorem tU{env:Env}{x:Str}{c:Addr}(e:env.cells.lookup x=some c):∀(names:List (Str×oF)) (cs:List (Str×Addr)),(x,q_)∈names->(x,c)∈cI env names cs
 | [],cs,h=>by simp at h
 | (n,k)::r,cs,h=>by
   unfold cI
   rcases List.mem_cons.mp h with z | z
   ·cases z
    rw[if_pos (show(q_==q_)=true by decide),e]
    exact Ca r _ fi
   ·split
    ·split
     ·exact tU e r _ z
     ·exact tU e r _ z
    ·exact tU e r _ z
theorem tV{α:Type}:∀{l:List (Str×α)} {x:Str} {c:α},(x,c)∈l->∃c',l.lookup x=some c'/\(x,c')∈l
 | [],_,_,h=>by simp at h
 | (n,a)::r,x,c,h=>by
   by_cases e:x=n
   ·subst e;exact⟨a,by simp[List.lookup],fi⟩
   ·rcases List.mem_cons.mp h with z | z
    ·cases z;exact absurd rfl e
    ·obtain⟨c',h1,h2⟩:=tV z
     exact⟨c',by rw[List.lookup_cons,beq_eq_false_iff_ne.mpr e];exact h1,dJ _ h2⟩
def tW(N:List Str)(env:Env)(y:Str)(scope:dA):Bool :=
 decide (scope.kind = .function)&&scope.names.all (λp=>decide (p.2 ≠ .cell)&&(decide (p.2 ≠ .local)||decide (scope.names.lookup p.1=some .local))&&(decide (p.2 ≠ .free)||((env.cells.lookup p.1).isSome&&(decide (env.scope.names.lookup p.1=some .cell)||decide (env.scope.names.lookup p.1=some .free)))))
  && decide (scope.names.lookup y=some .local)&&decide (scope.names.lookup (("":Str))=none)&&N.all (λz=>decide (scope.names.lookup z≠some .local)||decide (z=y))&&N.all (λz=>decide (z≠("":Str)))
structure vV (N:List Str) (env:Env) (y:Str) (scope:dA):Prop where
 kind:scope.kind = .function
 ph:∀p∈scope.names,p.2 ≠ .cell
 names:∀p∈scope.names,p.2 = .local->scope.names.lookup p.1=some .local
 free:∀p∈scope.names,p.2 = .free->(∃c,env.cells.lookup p.1=some c)/\(env.scope.names.lookup p.1=some .cell∨env.scope.names.lookup p.1=some .free)
 loc:scope.names.lookup y=some .local
 nil:scope.names.lookup (("":Str))=none
 only:∀z∈N,scope.names.lookup z=some .local->z=y
 none:∀z∈N,z≠("":Str)
theorem y0{N:List Str}{env:Env}{y:Str}{scope:dA}(h:tW N env y scope=true):vV N env y scope:=by
 unfold tW at h
 simp only[ir,ng,wW,decide_eq_true_eq] at h
 obtain⟨⟨⟨⟨⟨h1,h2⟩,h3⟩,h4⟩,h5⟩,h6⟩:=h
 refine⟨h1,λp hp=>(h2 p hp).1.1,λp hp e=>((h2 p hp).1.2).resolve_left λz=>z e,λp hp e=>?_,h3,h4,λz hz e=>(h5 z hz).resolve_left λq=>q e,h6⟩
 have q:=((h2 p hp).2).resolve_left λz=>z e
 exact⟨Option.isSome_iff_exists.mp q.1,q.2⟩
def bM(X:Cx)(y:Str)(scope:dA)(C:Addr)(aq:ah)(ax:Hp)(fp:List Addr)(pn:List (Addr×Obj)):Cx :=
 { X with N:=y::X.N.map (λz=>if z=y then ("":Str) else z),s₀:=aq,H₀:=ax,env:=gH scope (cI X.env scope.names []) C X.env,outer:=X.stack,ex:=fp,fn:=λ_=>false,pn:=pn,xe:=λ_ _=>False }
theorem Gx{α β:Type}{M:oB}{A:Around}{E E':Value->ah->Prop}{s:ah}{a:α}{t:Sem β}{P:α->ah->Prop}{Q:β->ah->Prop}(h:au M A (pure a) P E s)(k:P a s->au M A t Q E' s):au M A t Q E' s:=λΓ p Cb=>k (h Γ p Cb) Γ p Cb
theorem Gy{P:aQ}{w:aN}{H:Hp}{h:Heap}{a:Addr}{o:HO}(x:dY P w H h)(hn:H a=none)(new:iT P w (upd H a o) h a o):dY P w (upd H a o) h:=λb u e=>by
 by_cases hb:b=a
 ·subst hb;rw[dc] at e;cases e;exact new
 ·rw[bD hb] at e
  exact(x b u e).kQ (λc v _ q=>q) (λc q=>by rw[bD (gI q hn)];exact q) λc xs q=>by rw[bD (gI q hn)];exact q
theorem Gz{X:Cx}{y:Str}{scope:dA}{C Dd:Addr}{fp:List Addr}{pins pl:List (Addr×Obj)}{σ aE:St}{ax H':Hp}{aq s1:ah}{xs:List V}{its:List Value}{n:Nat}(I:Inv X pins σ ax aq)
 (J:Inv (bM X y scope C aq ax fp (X.pn++pins)) pl aE H' s1) (hD:aq.heap.objs.size<=Dd) (hn:H' Dd=none) (hd:s1.heap.get? Dd=some { cls:=.type "list",data:=.seq its.toArray n }) (rv:Vals xs its) (hz:xs.length<=bR) (hf:∀b∈fp,fx X pins ax b) :
 Inv X pins σ (upd H' Dd (.lst xs)) s1:=by
 have os:s1.os=aq.os:=J.os
 have un:Un (dj X.stack) fp ax H' aq.heap s1.heap:=J.base
 have aK:dY X.prog X.w H' s1.heap:=J.aK
 have bare:m_ s1.gens:=J.bare
 clear J
 obtain⟨hh,gg,dd,tt,nB⟩:=s1
 obtain rfl:nB=aq.os:=os
 have GA:∀b o,aq.heap.get? b=some o->b≠Dd:=λb o e=>dS (cW (bH e) hD)
 refine I.call (h':=hh) (g':=gg) (d':=dd) (t':=tt) (ch:=fp) ⟨un.keep,un.slot,λb o e n' hx=>?_,un.there,λb ys e=>?_,λb o u e=>?_,λb ps e=>?_⟩ (Gy aK hn ⟨hz,its,n,rv,hd⟩) bare λb hb=>?_
 ·rw[bD (GA b o e)];exact un.free b o e n' hx
 ·have q:=un.kn b ys e
  rw[bD (gI q hn)];exact q
 ·have q:=un.jS b o u e
  rw[bD (gI q hn)];exact q
 ·obtain⟨more,q⟩:=un.ko b ps e
  exact⟨more,by rw[bD (gI q hn)];exact q⟩
 ·obtain⟨f0,f1,f2,f3,f4,f5⟩:=hf b hb
  exact⟨f3.imp_right λz=>wF z,f1,f4,f5⟩
theorem ZF{X:Cx}{y:Str}{scope:dA}{C:Addr}{fp:List Addr}{pins:List (Addr×Obj)}{σ:St}{ax:Hp}{aq:ah}(I:Inv X pins σ ax aq)(c:vV X.N X.env y scope)(hC:aq.heap.objs.size<=C)(hf:∀b∈fp,fx X pins ax b)(ho:∀b∈fp,b<aq.heap.objs.size) :
 (bM X y scope C aq ax fp (X.pn++pins)).Ok:=by
 have cells:∀x k,(cI X.env scope.names []).lookup x=some k->X.env.cells.lookup x=some k:=λx k e=>by
  rcases j6 scope.names [] (iq e) with q | q
  ·simp at q
  ·exact q
 refine⟨I.ok.mod,c.kind,I.ok.glob,I.ok.blt,hC,λx z k h1 h2=>I.ok.inj x z k (cells x k h1) (cells z k h2),λx hx=>?_,λx k h _=>absurd h (by simp[bM]),I.ok.hd,I.ok.frames,.inl rfl,λb hb=>?_,I.bs,dD I.ok.jT I.sz,λb o e hb=>?_,λb hb z=>?_,I.stack,I.Ar⟩
 ·have uV:(iS scope X.env).names.lookup x=some .cell∨(iS scope X.env).names.lookup x=some .free:=hx
  have hm:∃k,(x,k)∈scope.names/\(k = .free∨k = .cell):=by
   rcases uV with q | q <;>
   ·have m:=iq q
    unfold iS at m
    simp only[K5] at m
    obtain⟨⟨n,k⟩,hm,e⟩:=m
    by_cases hc:(k==q_&&X.env.scope.kind == .function&&X.env.kindOf n==some .cell)=true
    ·rw[if_pos hc] at e
     have e1:n=x:=congrArg uD e
     subst e1
     rw[ir,ir] at hc
     exact⟨k,hm,.inl (B_ hc.1.1)⟩
    ·rw[if_neg hc] at e
     have e1:n=x:=congrArg uD e
     have e2:=congrArg Ae e
     dsimp only at e2
     subst e1 e2
     exact⟨_,hm,by first | exact .inr rfl | exact .inl rfl⟩
  obtain⟨k,hm,hk⟩:=hm
  rcases hk with rfl | rfl
  ·obtain⟨⟨a,ea⟩,_⟩:=c.free _ hm rfl
   obtain⟨c',h1,_⟩:=tV (tU ea scope.names [] hm)
   exact⟨c',h1⟩
  ·exact absurd rfl (c.ph _ hm)
 ·refine⟨dS (cW (ho b hb) hC),λx k e=>(hf b hb).2.2.2.2.1 x k (cells x k e)⟩
 ·rcases(hf b hb).2.2.2.1 with z | z
  ·exact I.ok.pT b o e z
  ·exact absurd (cW (cW (bH e) I.ok.jT) z) (lT _)
 ·rcases List.mem_cons.mp (I.md b z) with q | q
  ·exact(hf b hb).2.1 q
  ·exact(hf b hb).2.2.1 q
section
variable {X:Cx}{y:Str}{scope:dA}
theorem GB{C Dd:Addr}{fp:List Addr}{pins:List (Addr×Obj)}{σ:St}{ax:Hp}{aq:ah}{cN:Heap}{tk:Nat}{oD:Obj}{m:Str->Option Value}(I:Inv X pins σ ax aq)(c:vV X.N X.env y scope)(hC:aq.heap.objs.size<=C)(hD:aq.heap.objs.size<=Dd)(dh:Dd≠C)(hf:∀b∈fp,fx X pins ax b)(ho:∀b∈fp,b<aq.heap.objs.size)
 (old:∀b o,aq.heap.get? b=some o->cN.get? b=some o) (rm:cN.Ns C m) (hd:cN.get? Dd=some oD) (GC:∀v,oD.data ≠ .cell v) :
 Inv (bM X y scope C aq ax fp (X.pn++pins)) [(Dd,oD)] (none::σ) ax { aq with heap:=cN,toks:=tk }:=by
 have cells:∀x k,(cI X.env scope.names []).lookup x=some k->X.env.cells.lookup x=some k:=λx k e=>by
  rcases j6 scope.names [] (iq e) with q | q
  ·simp at q
  ·exact q
 have GD:∀b,aq.heap.objs.size<=b->b ∉ dj X.stack:=λb hb z=>by
  rcases List.mem_cons.mp (I.md b z) with q | q
  ·exact absurd (cW I.lt (by rw[<-q];exact hb)) (lT _)
  ·exact I.Aq hb q
 refine⟨ZF I c hC hf ho,rfl,I.bare,Un.kept old,⟨m,rm,λi x v e1 e2 e3=>?_⟩,λx k e=>?_,I.aK.fresh hC,λx k e=>I.jz x k (cells x k e),λp hp=>?_,I.aK.kept old,?_⟩
 ·cases i with
  | zero=>simp at e2
  | succ i =>
    have y1:σ[i]? = some (some v):=by simpa using e2
    have hG:(X.N.map (λz=>if z=y then ("":Str) else z))[i]? = some x:=by simpa [bM] using e1
    rw[eZ] at hG
    cases hz:X.N[i]? with
    | none=>rw[hz] at hG;cases hG
    | some z =>
      rw[hz] at hG
      simp only[KO,z_] at hG
      have tX:kR (iS scope X.env) x:=e3
      have oa:∀{k:oF},(iS scope X.env).names.lookup x=some k->∃k',(x,k')∈scope.names/\(k'=k∨(k' = .free/\k = .cell)):=λ{k} q=>by
       have m':=iq q
       unfold iS at m'
       simp only[K5] at m'
       obtain⟨⟨n,k0⟩,hm,e⟩:=m'
       by_cases hc:(k0==q_&&X.env.scope.kind == .function&&X.env.kindOf n==some .cell)=true
       ·rw[if_pos hc] at e
        have e1:n=x:=congrArg uD e
        have e2:=congrArg Ae e
        dsimp only at e2
        subst e1 e2
        rw[ir,ir] at hc
        exact⟨k0,hm,.inr ⟨B_ hc.1.1,rfl⟩⟩
       ·rw[if_neg hc] at e
        have e1:n=x:=congrArg uD e
        have e2:=congrArg Ae e
        dsimp only at e2
        subst e1 e2
        exact⟨_,hm,.inl rfl⟩
      have GF:∀k',(x,k')∈scope.names->x≠("":Str):=λk' hm z=>by
       subst z
       obtain⟨c',h1,_⟩:=tV hm
       rw[c.nil] at h1;cases h1
      have ne:x≠("":Str):=by
       rcases tX with q | q | q<;>(obtain⟨k',hm,_⟩:=oa q;exact GF k' hm)
      by_cases n_:z=y
      ·rw[if_pos n_] at hG;exact absurd hG.symm ne
      ·rw[if_neg n_] at hG
       subst hG
       have fr:(z,q_)∈scope.names:=by
        rcases tX with q | q | q
        ·obtain⟨k',hm,hk⟩:=oa q
         rcases hk with rfl | ⟨_,hk⟩
         ·exact absurd (c.only z (sr hz) (c.names _ hm rfl)) n_
         ·cases hk
        ·obtain⟨k',hm,hk⟩:=oa q
         rcases hk with rfl | ⟨rfl,_⟩
         ·exact absurd rfl (c.ph _ hm)
         ·exact hm
        ·obtain⟨k',hm,hk⟩:=oa q
         rcases hk with rfl | ⟨_,hk⟩
         ·exact hm
         ·cases hk
       obtain⟨⟨ca,ZG⟩,hv⟩:=c.free _ fr rfl
       obtain⟨m0,FY,GG⟩:=I.loc
       obtain⟨u,ru,lk⟩:=GG i z v hz y1 (.inr hv)
       refine⟨u,ru,?_⟩
       rcases lk with ⟨q,_⟩ | ⟨_,k,ek,hk⟩
       ·exfalso
        have q':X.env.scope.names.lookup z=some .local:=q
        rcases hv with w | w<;>(rw[q'] at w;cases w)
       ·obtain⟨c',h1,_⟩:=tV (tU ek scope.names [] fr)
        have h2:=cells z c' h1
        rw[ek] at h2;cases h2
        refine .inr ⟨?_,k,h1,?_⟩
        ·rcases tX with q | q | q
         ·exfalso
          obtain⟨k',hm,fY⟩:=oa q
          rcases fY with rfl | ⟨_,fY⟩
          ·exact n_ (c.only z (sr hz) (c.names _ hm rfl))
          ·cases fY
         ·exact .inl q
         ·exact .inr q
        ·obtain⟨o,dO,pU⟩:=hk
         exact⟨o,old _ _ dO,pU⟩
 ·obtain⟨v,o,dO,pU⟩:=I.cell x k (cells x k e)
  exact⟨v,o,old _ _ dO,pU⟩
 ·rcases List.mem_append.mp hp with q | q
  ·obtain⟨h1,h2,h3,h4,h5⟩:=I.pin p q
   refine⟨old _ _ h1,h2,dS (cW (bH h1) hC),λz=>?_,h5⟩
   rcases List.mem_cons.mp (I.md p.1 z) with q' | q'
   ·exact h3 q'
   ·exact h4 q'
  ·have e:p=(Dd,oD):=by simpa using q
   subst e
   exact⟨hd,I.aK.fresh hD,dh,GD Dd hD,GC⟩
 ·show σ.length+1=(y::X.N.map _).length
  rw[cx,a6,I.len]
def ZH(X:Cx)(y:Str)(scope:dA)(ifs:List Expr)(elt:Expr)(r:R (Option D))(C:Addr)(aq:ah)(ax:Hp)(fp:List Addr)(pn pins:List (Addr×Obj))(s:ah)(σ:St)(H:Hp)(F:List Addr):Prop :=
    au (aB X.prog X.w) X.A (forIn ifs true λc r=>if r=true then do let ok <-oE c (gH scope (cI X.env scope.names []) C X.env) (eval c (gH scope (cI X.env scope.names []) C X.env));pure (oN ok) else pure (oN r)) (λok fQ =>
     if ok=true then au (aB X.prog X.w) X.A (eval elt (gH scope (cI X.env scope.names []) C X.env)) (λu du=>∃e v H',r = .ok (some e)/\Inv (bM X y scope C aq ax fp pn) pins σ H' du/\RelV v u/\aO H H'/\Is X.K (aF F H') e v) (λ_ _=>False) fQ
     else r = .ok none/\∃H',Inv (bM X y scope C aq ax fp pn) pins σ H' fQ/\aO H H') (λ_ _=>False) s
structure y4 (X:Cx) (y:Str) (scope:dA) (ifs:List Expr) (elt:Expr) (f:D->G->R (Option D)):Prop where
 run:∀(C:Addr) (aq:ah) (ax:Hp) (fp:List Addr) (pn:List (Addr×Obj)) (pins:List (Addr×Obj)) (s:ah) (σ:St) (H:Hp) (F:List Addr) (Γ:G) (d:D),Inv (bM X y scope C aq ax fp pn) pins σ H s->bI H F->Rel X.K H F (.ro d::Γ) σ->(∃o,f d Γ = .ok o) ->
  au (aB X.prog X.w) X.A (forIn ifs true λc r=>if r=true then do let ok <-oE c (gH scope (cI X.env scope.names []) C X.env) (eval c (gH scope (cI X.env scope.names []) C X.env));pure (oN ok) else pure (oN r)) (λok fQ =>
   if ok=true then au (aB X.prog X.w) X.A (eval elt (gH scope (cI X.env scope.names []) C X.env)) (λu du=>∃e v H',f d Γ = .ok (some e)/\Inv (bM X y scope C aq ax fp pn) pins σ H' du/\RelV v u/\aO H H'/\Is X.K (aF F H') e v) (λ_ _=>False) fQ
   else f d Γ = .ok none/\∃H',Inv (bM X y scope C aq ax fp pn) pins σ H' fQ/\aO H H') (λ_ _=>False) s
theorem ig{elt:Expr}{ge:G->R D}(he:∀C aq ax fp pn,jj (bM X y scope C aq ax fp pn) elt ge):y4 X y scope [] elt (c9 ge):=by
 refine⟨λC aq ax fp pn pins s σ H F Γ d I fo rl ⟨o,eo⟩=>?_⟩
 refine Tp ?_
 rw[if_pos rfl]
 have aS:ge (.ro d::Γ) ≠ .no:=λz=>by unfold c9 at eo;rw[z] at eo;cases eo
 refine av ((he C aq ax fp pn).run pins s σ H F (.ro d::Γ) I fo rl aS) (λu s4 ⟨e,v,H',e1,I',rv,S,iv⟩=>⟨e,v,H',R.step e1 _,I',rv,S,iv⟩) λx s' ⟨c,H',e1,_⟩=>?_
 unfold c9 at eo;rw[e1] at eo;cases eo
theorem ZI{elt c:Expr}{gc:G->R Bool}{ge:G->R D}(hc:∀C aq ax fp pn,i5 (bM X y scope C aq ax fp pn) c gc)(he:∀C aq ax fp pn,jj (bM X y scope C aq ax fp pn) elt ge):y4 X y scope [c] elt (rC gc ge):=by
 refine⟨λC aq ax fp pn pins s σ H F Γ d I fo rl ⟨o,eo⟩=>?_⟩
 have aS:gc (.ro d::Γ) ≠ .no:=λz=>by unfold rC at eo;rw[z] at eo;cases eo
 refine a9e (av ((hc C aq ax fp pn).run pins s σ H F (.ro d::Γ) I fo rl aS) (λk s3 ⟨H1,e1,I1,S1⟩=>?_) λx s' ⟨c',H',e1,_⟩=>?_)
 ·have og:(if k=true then ge (.ro d::Γ)>>=λe=>R.ok (some e) else .ok none) = .ok o:=by
   unfold rC at eo;rw[e1] at eo;exact eo
  cases k with
  | false =>
    rw[if_neg sv]
    exact⟨R.step e1 _,H1,I1,S1⟩
  | true =>
    rw[if_pos rfl] at og ⊢
    have GH:ge (.ro d::Γ) ≠ .no:=λz=>by rw[z] at og;cases og
    refine av ((he C aq ax fp pn).run pins s3 σ H1 F (.ro d::Γ) I1 (fo.same S1) (rl.same S1) GH) (λu s4 ⟨e,v,H',e2,I',rv,S,iv⟩=>⟨e,v,H',(R.step e1 _).trans (R.step e2 _),I',rv,S1.trans S,iv⟩) λx s' ⟨c',H',e2,_⟩=>?_
    rw[e2] at og;cases og
 ·unfold rC at eo;rw[e1] at eo;cases eo
theorem Cc{K:aA}{H:Hp}{F:List Addr}{Γ:G}{σ:St}{d:D}{v:V}(r:Rel K H F Γ σ)(i:Is K (aF F H) d v):Rel K H F (.ro d::Γ) (some v::σ) where
 len:=by rw[cx,cx,r.len]
 ro:=λj d' h=>by
  cases j with
  | zero=>simp at h;cases h;exact⟨v,rfl,i⟩
  | succ j=>exact r.ro j d' (by simpa using h)
 own:=λj ds h=>by
  cases j with
  | zero=>simp at h
  | succ j=>exact r.own j ds (by simpa using h)
 inj:=λj k ds es a h1 h2 h3 h4=>by
  cases j with
  | zero=>simp at h1
  | succ j =>
    cases k with
    | zero=>simp at h2
    | succ k=>rw[r.inj j k ds es a (by simpa using h1) (by simpa using h2) (by simpa using h3) (by simpa using h4)]
theorem vW{n a i:Nat}(e:n=a-i)(h:i<a):a-(i+1)<n:=by lia
theorem Cd{a c d:Nat}(h:c=d+1)(e:a=d):(d≠c/\a<=c/\a<=d)/\∀b,b<a->b≠c/\b≠d:=⟨⟨by lia,by lia,by lia⟩,λb hb=>⟨by lia,by lia⟩⟩
theorem GI{elt iter:Expr}{px pos:Pos}{ifs:List Expr}{f:D->G->R (Option D)}{pins:List (Addr×Obj)}{σ:St}{ax:Hp}{aq:ah}{F:List Addr}{Γ:G}{items:List D}{it:Addr}{fp:List Addr}{tn:Nat->Heap->Prop}{J:It}{E:Value->ah->Prop}{total:List D}
 (hp:∀(C:Addr) (ps:List (Addr×Obj)) (s:ah) (x:V) (H:Hp) (d:D),Inv (bM X y scope C aq ax fp (X.pn++pins)) ps (some x::σ) H s->aO ax H->bI H F->Rel X.K H F (.ro d::Γ) (some x::σ)->(∃o,f d Γ = .ok o)->ZH X y scope ifs elt (f d Γ) C aq ax fp (X.pn++pins) ps s (some x::σ) H F)
 (c:vV X.N X.env y scope) (hN:X.N.Nodup) (fh:X.calm=true) (I:Inv X pins σ ax aq) (fo:bI ax F) (rl:Rel X.K ax F Γ σ) (T:Turn X.prog X.w X.K (.Name y px) J fp it tn) (t0:tn 0 aq.heap) (hf:∀b∈fp,fx X pins ax b) (hj:JC X.K ax F J items)
 (ht:c8 (λd=>f d Γ) items [] = .ok total) (hl:items.length<=100000) {RR:Value->Addr->pB->ah->Prop}
 (hR:∀(Dd C:Addr) (xs:List V) (H':Hp) (m:Str->Option Value) (s':ah),aq.heap.objs.size<=C->Dd≠C->ax Dd=none->H' Dd=none->H' C=none->aq.heap.objs.size<=Dd->aO ax H'->ao X.K (aF F H') total xs->Inv X pins σ (upd H' Dd (.lst xs)) s'->s'.heap.Ns C m->RR (.ref Dd) C (.ok .next) s') :
 au (aB X.prog X.w) X.A (Af []) (λacc fQ=>au (aB X.prog X.w) X.A (Dn scope X.env.globals (cI X.env scope.names []) [] X.env.qual none .none (some X.env)) (λcenv du =>
  iQ (aB X.prog X.w) X.A (.compStart (.ListComp elt [⟨.Name y px,iter,ifs,0⟩] scope pos) 0 (.ref it) acc { cenv with scope:=iS scope X.env }) (RR acc cenv.locals) du) E fQ) E aq:=by
 have ho:∀b∈fp,b<aq.heap.objs.size:=λb hb=>by obtain⟨o,e,_⟩:=T.obj _ _ t0 b hb;exact bH e
 refine pE (K6 c.ph (by intro y hy;simp at hy) (λcN iI gy=>?_) c.kind)
 dsimp only at iI gy ⊢
 generalize j7:aq.heap.push { cls:=.type "list",dict:=none,data:=.seq ([]:List Value).toArray }=H2 at iI gy ⊢
 have j8:H2.objs.size=aq.heap.objs.size+1:=by rw[<-j7,uE]
 generalize GJ:H2.objs.size=C at iI gy j8 ⊢
 generalize oh:aq.heap.objs.size=Dd at j8 ⊢
 obtain⟨⟨dh,hC,hD⟩,below⟩:=Cd j8 oh
 have old:∀b o,aq.heap.get? b=some o->cN.get? b=some o:=λb o e=>by
  refine gy.extBut b o (below b (bH e)).1 ?_
  exact cX _ (j7 ▸ cX _ e)
 have kH:cN.get? Dd=some { cls:=.type "list",dict:=none,data:=.seq ([]:List Value).toArray }:=by
  refine gy.extBut _ _ dh ?_
  refine cX _ ?_
  rw[<-j7,<-oh]
  exact fu _ rfl
 have J0:∀tk,Inv (bM X y scope C aq ax fp (X.pn++pins)) [(Dd,{ cls:=.type "list",dict:=none,data:=.seq ([]:List Value).toArray })] (none::σ) ax { aq with heap:=cN,toks:=tk }:=λtk =>
  GB I c hC hD dh hf ho old iI kH (λv z=>nomatch z)
 have t1:tn 0 cN:=T.keep _ _ _ t0 λb hb o e=>old b o e
 have j9:∀{H':Hp} {o:Obj},(∀b∈fp,H' b=none)->∀b∈fp,fx (bM X y scope C aq ax fp (X.pn++pins)) [(Dd,o)] H' b:=λ{H' o} hn b hb=>by
  obtain⟨f0,f1,f2,f3,f4,f5⟩:=hf b hb
  have lt:=ho b hb
  refine⟨hn b hb,(below b lt).1,λz=>?_,.inl hb,λx k e=>?_,λp bG=>?_⟩
  ·rcases List.mem_cons.mp (I.md b z) with q | q
   ·exact f1 q
   ·exact f2 q
  ·rcases j6 scope.names [] (iq e) with q | q
   ·simp at q
   ·exact f4 x k q
  ·rcases List.mem_append.mp bG with q | q
   ·exact f5 p q
   ·have e:p=(Dd,o):=by simpa using q
    subst e
    exact dM (below b lt).2
 have sd:(bM X y scope C aq ax fp (X.pn++pins)).N.Nodup:=by
  show(y::X.N.map (λz=>if z=y then ("":Str) else z)).Nodup
  refine List.nodup_cons.mpr ⟨λz=>?_,?_⟩
  ·obtain⟨z',hz,e⟩:=List.mem_map.mp z
   by_cases q:z'=y
   ·rw[if_pos q] at e
    subst e
    have:=c.loc;rw[c.nil] at this;cases this
   ·rw[if_neg q] at e;exact q e
  ·have inj:∀a∈X.N,∀b∈X.N,(if a=y then ("":Str) else a)=(if b=y then ("":Str) else b)->a=b:=λa ha b hb e=>by
    by_cases qa:a=y
    ·by_cases qb:b=y
     ·rw[qa,qb]
     ·rw[if_pos qa,if_neg qb] at e;exact absurd e.symm (c.none b hb)
    ·by_cases qb:b=y
     ·rw[if_neg qa,if_pos qb] at e;exact absurd e (c.none a ha)
     ·rw[if_neg qa,if_neg qb] at e;exact e
   have gen:∀l:List Str,(∀a∈l,a∈X.N)->l.Nodup->(l.map (λz=>if z=y then ("":Str) else z)).Nodup:=by
    intro l
    induction l with
    | nil=>intro _ _;exact K7
    | cons a l ih =>
      intro hs nd
      obtain⟨n1,n2⟩:=List.nodup_cons.mp nd
      rw[e8]
      refine List.nodup_cons.mpr ⟨λz=>?_,ih (λb hb=>hs b (dJ _ hb)) n2⟩
      obtain⟨b,hb,e⟩:=List.mem_map.mp z
      exact n1 (inj b (hs b (dJ _ hb)) a (hs a fi) e ▸ hb)
   exact gen X.N (λ_ h=>h) hN
 let L:Nat->ah->Prop:=λn s'=>∃(i:Nat) (H':Hp) (o:Option V) (xs:List V) (its:List Value) (acc:List D) (k:Nat),n=items.length-i/\i<=items.length/\Inv (bM X y scope C aq ax fp (X.pn++pins)) [(Dd,{ cls:=.type "list",dict:=none,data:=.seq its.toArray k })] (o::σ) H' s' /\
  aO ax H'/\(∀b∈fp,H' b=none)/\tn i s'.heap/\Vals xs its/\acc.length<=i/\ao X.K (aF F H') acc xs/\c8 (λd=>f d Γ) (items.drop i) acc = .ok total
 have loop:∀du:ah,L items.length du->iQ (aB X.prog X.w) X.A (.compLoop (.ListComp elt [⟨.Name y px,iter,ifs,0⟩] scope pos) 0 (.ref it) (.ref Dd) (gH scope (cI X.env scope.names []) C X.env)) (RR (.ref Dd) C) du:=λdu h4=>by
  refine Tq L (λn s' hL=>av (E:=λ_ _=>False) ?_ (λ_ _ q=>q) λ_ _ z=>z.elim) items.length h4
  obtain⟨i,H',o,xs,its,acc,k,en,hi,J',S',oi,oj,rv,om,ia,eg⟩:=hL
  obtain⟨tY,tZ⟩:=hj H' S'
  have GK:=J'.pin (Dd,{ cls:=.type "list",dict:=none,data:=.seq its.toArray k }) (b8 _ (by simp))
  have jk:xs.length<=100000:=by rw[<-ia.length];exact dD om (dD hi hl)
  have iY:(100000:Nat)<=bR:=by rw[ju];decide
  by_cases cw:i<items.length
  ·obtain⟨go,yl⟩:=tY i cw
   refine fE (T.item (bM X y scope C aq ax fp (X.pn++pins)) rfl rfl rfl fh i _ s' _ H' (λ_ _=>False) J' (j9 oi) oj go) λr s2 ⟨u,hr,h1⟩=>?_
   subst hr
   refine Gx (a:=()) h1 λ⟨x,H5,J5,r5,y5,ij,qv⟩=>?_
   obtain⟨e5,d,ed,iv⟩:=yl x H5 y5
   subst e5
   have t5:=J5.pinned (j9 qv) (T.obj _ _ ij)
   have t6:items.drop i=d::items.drop (i+1):=by
    rw[K8 cw]
    have:items[i]=d:=by
     have:=eO cw
     rw[ed] at this;exact(kK this).symm
    rw[this]
   rw[t6] at eg
   have GL:∃od,f d Γ = .ok od/\(match od with | some e=>c8 (λd=>f d Γ) (items.drop (i+1)) (acc++[e]) | none=>c8 (λd=>f d Γ) (items.drop (i+1)) acc) = .ok total:=by
    unfold c8 at eg
    cases q:f d Γ with
    | no=>simp only[q] at eg;cases eg
    | er c'=>simp only[q] at eg;cases eg
    | ok od =>
      refine⟨od,rfl,?_⟩
      cases od with
      | none=>simp only[q] at eg;exact eg
      | some e=>simp only[q] at eg;exact eg
   obtain⟨od,t7,qw⟩:=GL
   have qx:PG (bM X y scope C aq ax fp (X.pn++pins)).bT (.Name y px) (sM 0):=uN (X:=(bM X y scope C aq ax fp (X.pn++pins)).bT) sd rfl (.inl (pO c.loc)) (.inr (pO c.loc))
   refine av (qx _ s2 (o::σ) H5 x u (λaE H'=>aE=some x::σ/\H'=H5) (t5.dm _) r5 ⟨rfl,rfl⟩) (λ_ s3 ⟨vX,H6,J6,e6,qy⟩=>?_) λ_ _ z=>z.elim
   subst e6 qy
   have t8:=J6.eQ
   have t9:=fo.same S'
   refine av (hp C _ s3 x H6 d t8 S' t9 (Cc (rl.same S') iv) ⟨od,t7⟩) (λok s4 h4=>?_) λ_ _ z=>z.elim
   have back:∀{s5:ah} {H7:Hp} {cP:St},Inv (bM X y scope C aq ax fp (X.pn++pins)) ([(Dd,{ cls:=.type "list",dict:=none,data:=.seq its.toArray k })]++jU fp s2.heap) cP H7 s5->tn (i+1) s5.heap/\(∀b∈fp,H7 b=none):=λ{s5 H7 cP} J7=>by
    refine⟨T.keep _ _ _ ij λb hb o' e=>(J7.pin (b,o') (b8 _ (b8 _ (nv hb e)))).1,λb hb=>?_⟩
    obtain⟨o',e,dd⟩:=T.obj _ _ ij b hb
    exact(J7.pin (b,o') (b8 _ (b8 _ (nv hb e)))).2.1
   cases ok with
   | false =>
     rw[if_neg sv] at h4 ⊢
     obtain⟨ef,H7,J7,S7⟩:=h4
     rw[t7] at ef;cases ef
     obtain⟨lF,lG⟩:=back J7
     exact⟨items.length-(i+1),vW en cw,i+1,H7,some x,xs,its,acc,k,rfl,cw,J7.ny,S'.trans S7,lG,lF,rv,Tr om,ia.same (g7 S7),qw⟩
   | true =>
     rw[if_pos rfl] at h4 ⊢
     refine av h4 (λu7 s5 ⟨e,v7,H7,ef,J7,r7,S7,y6⟩=>?_) λ_ _ z=>z.elim
     rw[t7] at ef;cases ef
     obtain⟨lF,lG⟩:=back J7
     have J8:=J7.ny
     have iJ:=J8.pin (Dd,{ cls:=.type "list",dict:=none,data:=.seq its.toArray k }) (b8 _ (by simp))
     have hlen:its.length=acc.length:=by rw[<-rv.length,<-ia.length]
     refine K9 (l:=Dd) (items:=its.toArray) (x:=u7) ⟨k,iJ.1⟩ (λh' kI j_=>?_) (by rw[cY,<-rv.length];exact dD jk iY)
     obtain⟨k',fY⟩:=kI
     have t_:its.toArray.push u7=(its++[u7]).toArray:=by simp
     rw[t_] at fY
     have J9:Inv (bM X y scope C aq ax fp (X.pn++pins)) [] (some x::σ) H7 s5:=J8.me λp bG=>by simp at bG
     have ua:Inv (bM X y scope C aq ax fp (X.pn++pins)) [] (some x::σ) H7 { s5 with heap:=h' }:=J9.turned (t':=s5.toks) (it:=Dd) (λb o' hb e'=>(j_.2 b hb).trans e') iJ.2.1 dh (.inr hD) (λx' oo e' z=>by
      rcases j6 scope.names [] (iq e') with q | q
      ·simp at q
      ·obtain⟨v',o',dO,_⟩:=I.cell x' oo q
       exact(below oo (bH dO)).2 z) (λp bG z=>by
      rcases List.mem_append.mp bG with q | q
      ·obtain⟨ik,_⟩:=I.pin p q
       exact(below p.1 (bH ik)).2 z
      ·simp at q)
     have ub:Inv (bM X y scope C aq ax fp (X.pn++pins)) [(Dd,{ cls:=.type "list",dict:=none,data:=.seq (its++[u7]).toArray k' })] (some x::σ) H7 { s5 with heap:=h' }:=ua.me λp bG=>by
      have e':p=(Dd,{ cls:=.type "list",dict:=none,data:=.seq (its++[u7]).toArray k' }):=by simpa using bG
      subst e'
      exact⟨fY,iJ.2.1,dh,iJ.2.2.2.1,λv z=>nomatch z⟩
     refine⟨items.length-(i+1),vW en cw,i+1,H7,some x,xs++[v7],its++[u7],acc++[e],k',rfl,cw,ub,S'.trans S7,lG,T.keep _ _ _ lF λb hb o' e'=>(j_.2 b (below b (ho b hb)).2).trans e',rv.append (.cons r7 .nil),by rw[dW,KA];exact Ts om,(ia.same (g7 S7)).append (ao.cons y6 ao.nil),qw⟩
  ·have qz:i=items.length:=K_ hi (C4 cw)
   subst qz
   refine fE (T.done (bM X y scope C aq ax fp (X.pn++pins)) rfl rfl rfl fh _ _ s' _ H' (λ_ _=>False) J' (j9 oi) oj tZ) λr s1 ⟨hr,J1⟩=>?_
   subst hr
   have ka:=J1.pin (Dd,{ cls:=.type "list",dict:=none,data:=.seq its.toArray k }) (b8 _ (by simp))
   rw[C9] at eg
   have:acc=total:=by unfold c8 at eg;cases eg;rfl
   subst this
   obtain⟨mC,iK,_⟩:=J1.loc
   exact hR Dd C xs H' mC s1 hC dh (I.aK.fresh hD) ka.2.1 J1.free hD S' ia (Gz I J1 hD ka.2.1 ka.1 rv (dD jk iY) hf) iK
 have L0:∀tk,L items.length { aq with heap:=cN,toks:=tk }:=λtk=>⟨0,ax,none,[],[],[],_,rfl,ni _,J0 tk,.refl _,λb hb=>(hf b hb).1,t1,.nil,a7 _,ao.nil,by rw[zY];exact ht⟩
 exact La (loop _ (L0 _)) (T.self _ 0 _ _ _ t1 (loop _ (L0 _)))
theorem i7{elt iter:Expr}{px pos:Pos}{ifs:List Expr}{f:D->G->R (Option D)}{gi:G->R (List D)}(hi:tS X (.Name y px) iter gi)(hp:y4 X y scope ifs elt f)(hN:X.N.Nodup)(fh:X.calm=true)
 (oq:tW X.N X.env y scope=true:=by rfl) (lH:w9 scope X.env=pure (cI X.env scope.names []):=by rfl) (hs:∀x,uF iter X.env x=pure x:=by intro _;rfl) :
 PF X (.ListComp elt [⟨.Name y px,iter,ifs,0⟩] scope pos) (cR gi f):=by
 refine⟨λpins s σ H F Γ I fo rl hg=>?_⟩
 have c:=y0 oq
 rw[Lb]
 refine Dp (use:=none) rfl hs lH c.kind c.names (av (hi.run pins s σ H F Γ I fo rl (R.left hg)) (λxv cq cN=>av cN (λkW aq qA=>?_) λ_ _ x=>x.bind _) λ_ _ x=>x.bind _)
 obtain⟨items,it,fp,tn,J,ax,e1,rfl,I2,S2,T,t0,fk,jc⟩:=qA
 have fg:=R.next hg e1
 obtain⟨hl,e2⟩:=R.cT fg
 have aS:c8 (λd=>f d Γ) items [] ≠ .no:=by
  have:=R.next hg e1
  rw[e2] at this;exact this
 obtain⟨total,et⟩:=xM aS
 refine GI (RR:=λacc C=>Dq (aB X.prog X.w) X.A _ none _ acc C) (λC ps s x H d J _ fo rl e=>hp.run C aq ax fp (X.pn++pins) ps s _ H F Γ d J fo rl e) c hN fh I2 (fo.same S2) (rl.same S2) T t0 fk jc et hl ?_
 intro Dd C xs H' m s' hC dh hn gX iK hD S' ia I' ot
 refine⟨m,ot,λjl jM=>?_⟩
 have gR:∀{b:Addr} {o:Obj},aq.heap.get? b=some o->b≠C:=λe=>dS (cW (bH e) hC)
 have qB:Inv X pins σ (upd H' Dd (.lst xs)) { s' with heap:=jl }:=I'.turned (t':=s'.toks) (it:=C) (λb o hb e=>jM.extBut b o hb e) (by rw[bD (dM dh)];exact iK) (nc (cW I2.lt hC)) (.inr (dD I2.sz hC))
  (λx k e=>by obtain⟨v,o,ho,_⟩:=I2.cell x k e;exact gR ho) (λp bG=>gR (I2.pin p bG).1)
 have S3:=gP gX (.lst xs)
 refine⟨total,Dd,xs,_,(R.step e1 _).trans (e2.trans et),qB,rfl,(S2.trans S').trans S3,S2.free hn,dc,ia.same λb o hb=>?_⟩
 obtain⟨z1,z2⟩:=iF hb
 have fJ:b≠Dd:=gI z2 gX
 rw[da λz=>(List.mem_cons.mp z).elim fJ z1,bD fJ]
 exact z2
end
def GN(X:Cx)(pins:List (Addr×Obj))(H:Hp)(F:List Addr)(Γ:G)(s':ah):Prop:=∃aE H' F',Inv X pins aE H' s'/\bI H' F'/\Rel X.K H' F' Γ aE/\Ext H F H' F'
def mP(X:Cx)(pins:List (Addr×Obj))(H:Hp)(F:List Addr)(r:R Fl)(u:Value)(s':ah):Prop:=∃v aE H' F',Inv X pins aE H' s'/\RelV v u/\Ext H F H' F' /\
 ((∃d,r = .ok (.rt d)/\Is X.K H' d v)∨∃ds a xs,r = .ok (.fz ds)/\v = .ref a/\(a∈F∨H a=none)/\H' a=some (.lst xs)/\ao X.K H' ds xs)
theorem mP.map{X:Cx}{pins rk:List (Addr×Obj)}{H H1:Hp}{F F1:List Addr}{r r':R Fl}{u:Value}{s':ah}(h:mP X pins H1 F1 r u s')(E:Ext H F H1 F1)(hI:∀aE H',Inv X pins aE H' s'->Inv X rk aE H' s')
 (h1:∀d,r = .ok (.rt d)->r' = .ok (.rt d)) (h2:∀ds,r = .ok (.fz ds)->r' = .ok (.fz ds)):mP X rk H F r' u s':=by
 obtain⟨v,aE,H',F',I,rv,E',q⟩:=h
 refine⟨v,aE,H',F',hI _ _ I,rv,E.trans E',?_⟩
 rcases q with ⟨d,e,i⟩ | ⟨ds,a,xs,e,ev,hn,ha,i⟩
 ·exact .inl ⟨d,h1 d e,i⟩
 ·refine .inr ⟨ds,a,xs,h2 ds e,ev,?_,ha,i⟩
  rcases hn with z | z
  ·exact E.old a z
  ·by_cases c:a∈F
   ·exact .inl c
   ·refine .inr ?_
    cases q:H a with
    | none=>rfl
    | some o=>rw[E.keep a o c q] at z;cases z
def uc(X:Cx)(pins:List (Addr×Obj))(H:Hp)(F:List Addr)(r:R Fl)(fl:Flow)(s':ah):Prop:=match fl with
 | .next=>∃Γ',r = .ok (.nx Γ')/\GN X pins H F Γ' s'
 | .brk=>∃Γ',r = .ok (.bk Γ')/\GN X pins H F Γ' s'
 | .cont=>∃Γ',r = .ok (.ct Γ')/\GN X pins H F Γ' s'
 | .ret u=>mP X pins H F r u s'
def ou(X:Cx)(pins:List (Addr×Obj))(H:Hp)(F:List Addr)(r:R Fl)(x:Value)(s':ah):Prop:=∃c Γ' aE H' F',r = .ok (.ex c Γ')/\pb X pins aE H' c x s'/\bI H' F'/\Rel X.K H' F' Γ' aE/\Ext H F H' F'
structure PQ (X:Cx) (st:Stmt) (g:G->R Fl):Prop where
 run:∀(pins:List (Addr×Obj)) (s:ah) (σ:St) (H:Hp) (F:List Addr) (Γ:G),Inv X pins σ H s->bI H F->Rel X.K H F Γ σ->g Γ ≠ .no ->
  au (aB X.prog X.w) X.A (exec st X.env) (uc X pins H F (g Γ)) (ou X pins H F (g Γ)) s
structure kc (X:Cx) (st:List Stmt) (g:G->R Fl):Prop where
 run:∀(pins:List (Addr×Obj)) (s:ah) (σ:St) (H:Hp) (F:List Addr) (Γ:G),Inv X pins σ H s->bI H F->Rel X.K H F Γ σ->g Γ ≠ .no ->
  au (aB X.prog X.w) X.A (sm st X.env) (uc X pins H F (g Γ)) (ou X pins H F (g Γ)) s
theorem uc.later{X:Cx}{pins:List (Addr×Obj)}{H H1:Hp}{F F1:List Addr}{r:R Fl}{fl:Flow}{s':ah}(E:Ext H F H1 F1)(h:uc X pins H1 F1 r fl s'):uc X pins H F r fl s':=by
 cases fl with
 | next=>obtain⟨Γ',e,aE,H',F',h1,h2,h3,h4⟩:=h;exact⟨Γ',e,aE,H',F',h1,h2,h3,E.trans h4⟩
 | brk=>obtain⟨Γ',e,aE,H',F',h1,h2,h3,h4⟩:=h;exact⟨Γ',e,aE,H',F',h1,h2,h3,E.trans h4⟩
 | cont=>obtain⟨Γ',e,aE,H',F',h1,h2,h3,h4⟩:=h;exact⟨Γ',e,aE,H',F',h1,h2,h3,E.trans h4⟩
 | ret u=>exact mP.map h E (λ_ _ I=>I) (λ_ e=>e) λ_ e=>e
theorem ou.later{X:Cx}{pins:List (Addr×Obj)}{H H1:Hp}{F F1:List Addr}{r:R Fl}{x:Value}{s':ah}(E:Ext H F H1 F1)(h:ou X pins H1 F1 r x s'):ou X pins H F r x s':=by
 obtain⟨c,Γ',aE,H',F',e,h1,h2,h3,h4⟩:=h
 exact⟨c,Γ',aE,H',F',e,h1,h2,h3,E.trans h4⟩
theorem bY.lift{α:Type}{X:Cx}{pins:List (Addr×Obj)}{σ:St}{H:Hp}{F:List Addr}{Γ:G}{r:R α}{x:Value}{s':ah}(fo:bI H F)(rl:Rel X.K H F Γ σ)(h:bY X pins σ H r x s')(k:α->R Fl):ou X pins H F (lift r Γ k) x s':=by
 obtain⟨c,H',e,S,fl⟩:=h
 exact⟨c,Γ,σ,H',F,by rw[e];rfl,fl,fo.same S,rl.same S,.of_same S⟩
theorem Rel.Cf{K:aA}{H:Hp}{F:List Addr}{Γ:G}{σ:St}{i:Nat}{d:D}{v:V}(r:Rel K H F Γ σ)(iv:Is K (aF F H) d v):Rel K H F (Γ.set i (.ro d)) (σ.set i (some v)) where
 len:=by rw[fD,fD,r.len]
 ro:=λj d' h=>by
  by_cases e:i=j
  ·subst e
   by_cases hi:i<Γ.length
   ·rw[gU hi] at h;cases h
    exact⟨v,gU (by rw[<-r.len];exact hi),iv⟩
   ·rw[jP (by rw[fD];lia)] at h;cases h
  ·rw[eD e] at h
   rw[eD e]
   exact r.ro j d' h
 own:=λj ds h=>by
  by_cases e:i=j
  ·subst e
   by_cases hi:i<Γ.length
   ·rw[gU hi] at h;cases h
   ·rw[jP (by rw[fD];lia)] at h;cases h
  ·rw[eD e] at h
   rw[eD e]
   exact r.own j ds h
 inj:=λj k ds es a h1 h2 h3 h4=>by
  by_cases ej:i=j
  ·subst ej
   by_cases hi:i<Γ.length
   ·rw[gU hi] at h1;cases h1
   ·rw[jP (by rw[fD];lia)] at h1;cases h1
  ·by_cases ek:i=k
   ·subst ek
    by_cases hi:i<Γ.length
    ·rw[gU hi] at h2;cases h2
    ·rw[jP (by rw[fD];lia)] at h2;cases h2
   ·rw[eD ej] at h1 h3
    rw[eD ek] at h2 h4
    exact r.inj j k ds es a h1 h2 h3 h4
theorem Rel.set_own{K:aA}{H H':Hp}{F:List Addr}{Γ:G}{σ:St}{i:Nat}{ds:List D}{xs:List V}{a:Addr}(r:Rel K H F Γ σ)(fo:bI H F)(S:aO H H')(hn:H a=none)(ha:H' a=some (.lst xs))(iv:ao K (aF (a::F) H') ds xs):Rel K H' (a::F) (Γ.set i (.own ds)) (σ.set i (some (.ref a))) where
 len:=by rw[fD,fD,r.len]
 ro:=λj d' h=>by
  by_cases e:i=j
  ·subst e
   by_cases hi:i<Γ.length
   ·rw[gU hi] at h;cases h
   ·rw[jP (by rw[fD];lia)] at h;cases h
  ·rw[eD e] at h
   rw[eD e]
   obtain⟨v,h1,h2⟩:=r.ro j d' h
   exact⟨v,h1,h2.same (F8 S hn)⟩
 own:=λj ds' h=>by
  by_cases e:i=j
  ·subst e
   by_cases hi:i<Γ.length
   ·rw[gU hi] at h;cases h
    exact⟨a,xs,gU (by rw[<-r.len];exact hi),fi,ha,iv⟩
   ·rw[jP (by rw[fD];lia)] at h;cases h
  ·rw[eD e] at h
   rw[eD e]
   obtain⟨b,ys,h1,h2,h3,h4⟩:=r.own j ds' h
   exact⟨b,ys,h1,dJ _ h2,S _ _ h3,h4.same (F8 S hn)⟩
 inj:=λj k ds' es b h1 h2 h3 h4=>by
  have nF:∀(l:Nat) (cJ:List D),i≠l->Γ[l]? = some (.own cJ)->σ[l]? ≠ some (some (.ref a)):=λl cJ _ h z=>by
   obtain⟨b',ys,q1,q2,q3,_⟩:=r.own l cJ h
   rw[z] at q1;cases q1
   rw[hn] at q3;cases q3
  by_cases ej:i=j
  ·by_cases ek:i=k
   ·rw[<-ej,<-ek]
   ·exfalso
    subst ej
    have hi:i<σ.length:=by
     by_cases hi:i<σ.length
     ·exact hi
     ·rw[jP (by rw[fD];lia)] at h3;cases h3
    rw[gU hi] at h3;cases h3
    rw[eD ek] at h2 h4
    exact nF k es ek h2 h4
  ·by_cases ek:i=k
   ·exfalso
    subst ek
    have hi:i<σ.length:=by
     by_cases hi:i<σ.length
     ·exact hi
     ·rw[jP (by rw[fD];lia)] at h4;cases h4
    rw[gU hi] at h4;cases h4
    rw[eD ej] at h1 h3
    exact nF j ds' ej h1 h3
   ·rw[eD ej] at h1 h3
    rw[eD ek] at h2 h4
    exact r.inj j k ds' es b h1 h2 h3 h4
theorem Rel.put{K:aA}{H:Hp}{F:List Addr}{Γ:G}{σ:St}{i:Nat}{ds ds':List D}{xs':List V}{a:Addr}(r:Rel K H F Γ σ)(e:Γ[i]? = some (.own ds))(ea:σ[i]? = some (some (.ref a)))(iv:ao K (aF F H) ds' xs'):Rel K (upd H a (.lst xs')) F (Γ.set i (.own ds')) σ/\a∈F:=by
 obtain⟨a',xs,h1,hF,h3,h4⟩:=r.own i ds e
 rw[ea] at h1;cases h1
 have hh:aF F (upd H a (.lst xs'))=aF F H:=by
  funext b
  by_cases hb:b∈F
  ·rw[rZ hb,rZ hb]
  ·rw[da hb,da hb,bD (λz=>hb (by rw[z];exact hF))]
 have hi:i<Γ.length:=(List.getElem?_eq_some_iff.mp e).1
 refine⟨⟨by rw[fD,r.len],λj d' h=>?_,λj es h=>?_,λj k d_ vY b h1 h2 GO GP=>?_⟩,hF⟩
 ·by_cases ej:i=j
  ·subst ej;rw[gU hi] at h;cases h
  ·rw[eD ej] at h
   rw[hh];exact r.ro j d' h
 ·by_cases ej:i=j
  ·subst ej;rw[gU hi] at h;cases h
   exact⟨a,xs',ea,hF,dc,by rw[hh];exact iv⟩
  ·rw[eD ej] at h
   obtain⟨b,ys,q1,q2,q3,q4⟩:=r.own j es h
   refine⟨b,ys,q1,q2,?_,by rw[hh];exact q4⟩
   rw[bD (λz=>ej (r.inj i j ds es a e h ea (by rw[<-z];exact q1)))];exact q3
 ·have old:∀(l:Nat) (cJ:List D),(Γ.set i (En.own ds'))[l]? = some (En.own cJ)->∃GQ,Γ[l]? = some (En.own GQ):=λl cJ h=>by
   by_cases el:i=l
   ·subst el;exact⟨ds,e⟩
   ·rw[eD el] at h;exact⟨cJ,h⟩
  obtain⟨e1,q1⟩:=old j d_ h1
  obtain⟨e2,q2⟩:=old k vY h2
  exact r.inj j k e1 e2 b q1 q2 GO GP
section
variable {X:Cx}{st:Stmt}{rest:List Stmt}{t u:G->R Fl}{e a b c:Expr}{g ga gb:G->R D}{pos p pos':Pos}
theorem dI:kc X [] cL:=⟨λpins s σ H F Γ I fo rl _=>pP ⟨Γ,rfl,σ,H,F,I,fo,rl,.refl⟩⟩
theorem aM(h1:PQ X st t)(h2:kc X rest u):kc X (st::rest) (aD t u):=by
 refine⟨λpins s σ H F Γ I fo rl hg=>?_⟩
 refine uG (av (h1.run pins s σ H F Γ I fo rl (R.left hg)) (λfl s1 q=>?_) λx s1 q=>?_)
 ·cases fl with
  | next =>
    obtain⟨Γ',e,aE,H',F',I',Cg,lI,E⟩:=q
    have e2:aD t u Γ=u Γ':=R.step e _
    rw[e2] at hg ⊢
    exact av (h2.run pins s1 aE H' F' Γ' I' Cg lI hg) (λ_ _ q=>q.later E) λ_ _ q=>q.later E
  | ret v=>exact mP.map q .refl (λ_ _ I=>I) (λ_ e=>R.step e _) λ_ e=>R.step e _
  | brk=>obtain⟨Γ',e,r⟩:=q;exact⟨Γ',R.step e _,r⟩
  | cont=>obtain⟨Γ',e,r⟩:=q;exact⟨Γ',R.step e _,r⟩
 ·obtain⟨c,Γ',aE,H',F',e,r⟩:=q
  exact⟨c,Γ',aE,H',F',R.step e _,r⟩
theorem aL(h1:PQ X st t):kc X [st] t:=by
 refine⟨λpins s σ H F Γ I fo rl hg=>?_⟩
 refine uG (fE (h1.run pins s σ H F Γ I fo rl hg) λfl s1 q=>?_)
 cases fl with
 | next=>exact pP q
 | ret v=>exact q
 | brk=>exact q
 | cont=>exact q
theorem bN(he:PD X e g):PQ X (.Return (some e) pos) (a8 g):=⟨λpins s σ H F Γ I fo rl hg =>
 Ag (av (he.run pins s σ H F Γ I fo rl (jD hg)) (λu s1 ⟨d,v,H',e1,I',rv,S,i⟩=>⟨v,σ,H',F,I',rv,.of_same S,.inl ⟨d,jE e1,i⟩⟩) λ_ _ x=>x.lift fo rl _)⟩
theorem y7{g:G->R (List D)}(he:PF X e g):PQ X (.Return (some e) pos) (p_ g):=⟨λpins s σ H F Γ I fo rl hg =>
 Ag (av (he.run pins s σ H F Γ I fo rl (jD hg)) (λu s1 ⟨ds,a,xs,H',e1,I',eu,S,hn,ha,i⟩=>⟨.ref a,σ,H',F,I',eu,.of_same S,.inr ⟨ds,a,xs,jE e1,rfl,.inr hn,ha,i.same kD⟩⟩) λ_ _ x=>x.lift fo rl _)⟩
theorem GR(i:Nat){x:Str}{p:Pos}(hN:X.N[i]? = some x:=by rfl)(hv:kR X.env.scope x:=by first | exact fR rfl | exact dX (fR rfl) | exact dX (dX rfl))(hd:(x==("__debug__":Str))=false:=by decide)
 (dE:(x==("__classdict__":Str))=false:=by decide):PQ X (.Return (some (.Name x p)) pos) (rD i):=by
 refine⟨λpins s σ H F Γ I fo rl hg=>?_⟩
 unfold rD at hg ⊢
 cases q:Γ[i]? with
 | none=>rw[q] at hg;exact absurd rfl hg
 | some en =>
   cases en with
   | own ds =>
     obtain⟨a,xs,h1,h2,h3,h4⟩:=rl.own i ds q
     refine Ag (av (pV (X:=X.bT) hN hv hd dE pins s σ H (λv' H'=>v' = .ref a/\H'=H) (I.dm _) ⟨.ref a,h1,rfl,rfl⟩) (λu s1 ⟨v',H',I',r,e1,e2⟩=>?_) λ_ _ z=>b6 z)
     subst e1 e2
     exact⟨.ref a,σ,H',F,I'.eQ,r,.refl,.inr ⟨ds,a,xs,rfl,rfl,.inl h2,h3,h4.same kD⟩⟩
   | _=>rw[q] at hg;exact absurd rfl hg
theorem dz{cs ds:List Stmt}{gc:G->R Bool}(hc:i5 X c gc)(ha:kc X cs t)(hb:kc X ds u):PQ X (.If c cs ds pos) (b5 gc t u):=by
 refine⟨λpins s σ H F Γ I fo rl hg=>?_⟩
 refine Lc (av (hc.run pins s σ H F Γ I fo rl (jD hg)) (λk s1 ⟨H1,e1,I1,S1⟩=>?_) λ_ _ x=>x.lift fo rl _)
 have e2:b5 gc t u Γ=if k=true then t Γ else u Γ:=jE e1
 rw[e2] at hg ⊢
 cases k with
 | true=>exact av (ha.run pins s1 σ H1 F Γ I1 (fo.same S1) (rl.same S1) hg) (λ_ _ q=>q.later (.of_same S1)) λ_ _ q=>q.later (.of_same S1)
 | false=>exact av (hb.run pins s1 σ H1 F Γ I1 (fo.same S1) (rl.same S1) hg) (λ_ _ q=>q.later (.of_same S1)) λ_ _ q=>q.later (.of_same S1)
theorem cB(i:Nat){x:Str}(he:jj X e g)(hN:X.N.Nodup)(hi:X.N[i]? = some x:=by rfl)(hx:Loc X.env.scope x:=by first | exact fR rfl | exact dX rfl)(hs:pQ e (some (.Name x pos')) pos.line X.env=pure false:=by rfl)(hf:X.fn x=true∨X.env.scope.names.lookup x=some .local:=by first | exact .inl rfl | exact .inr rfl | assumption) :
 PQ X (.Assign [.Name x pos'] e pos) (bJ i g):=by
 refine⟨λpins s σ H F Γ I fo rl hg=>?_⟩
 refine Ld (av (he.run pins s σ H F Γ I fo rl (jD hg)) (λv s1 ⟨d,y,H1,e1,I1,r1,S1,i1⟩=>?_) λ_ _ x=>x.lift fo rl _) hs
 exact uM I1 hN hi hx r1 (λs2 I2=>⟨_,jE e1,_,H1,F,I2,fo.same S1,(rl.same S1).Cf i1,.of_same S1⟩) hf
theorem kd(i:Nat){x:Str}{g:G->R (List D)}(he:PF X e g)(hN:X.N.Nodup)(hi:X.N[i]? = some x:=by rfl)(hx:Loc X.env.scope x:=by first | exact fR rfl | exact dX rfl)(hs:pQ e (some (.Name x pos')) pos.line X.env=pure false:=by rfl)(hf:X.fn x=true∨X.env.scope.names.lookup x=some .local:=by first | exact .inl rfl | exact .inr rfl | assumption) :
 PQ X (.Assign [.Name x pos'] e pos) (fG i g):=by
 refine⟨λpins s σ H F Γ I fo rl hg=>?_⟩
 refine Ld (av (he.run pins s σ H F Γ I fo rl (jD hg)) (λv s1 ⟨ds,a,xs,H1,e1,I1,eu,S1,hn,ha,i1⟩=>?_) λ_ _ x=>x.lift fo rl _) hs
 subst eu
 exact uM (v:=.ref a) I1 hN hi hx rfl (λs2 I2=>⟨_,jE e1,_,H1,a::F,I2,(fo.same S1).cons ha,rl.set_own fo S1 hn ha i1,⟨λb o _ h=>S1 _ _ h,λb hb=>(List.mem_cons.mp hb).elim (λz=>.inr (z ▸ hn)) .inl⟩⟩) hf
theorem O3(i:Nat){x y:Str}{elt iter:Expr}{px:Pos}{ifs:List Expr}{scope:dA}{f:D->G->R (Option D)}{gi:G->R (List D)}(qz:tS X (.Name y px) iter gi)(hp:y4 X y scope ifs elt f)(hN:X.N.Nodup)(fh:X.calm=true)(hi:X.N[i]? = some x:=by rfl)(hx:Loc X.env.scope x:=by first | exact fR rfl | exact dX rfl)
 (ox:pQ (.ListComp elt [⟨.Name y px,iter,ifs,0⟩] scope p) (some (.Name x pos')) pos.line X.env=pure true:=by rfl) (hf:X.fn x=true∨X.env.scope.names.lookup x=some .local:=by first | exact .inl rfl | exact .inr rfl | assumption)
 (oq:tW X.N X.env y scope=true:=by rfl) (lH:w9 scope X.env=pure (cI X.env scope.names []):=by rfl) (hs:∀x,uF iter X.env x=pure x:=by intro _;rfl) :
 PQ X (.Assign [.Name x pos'] (.ListComp elt [⟨.Name y px,iter,ifs,0⟩] scope p) pos) (fG i (cR gi f)):=by
 refine⟨λpins s σ H F Γ I fo rl hg=>?_⟩
 have c:=y0 oq
 rw[a9f _ _ _ _ ox]
 refine aH (Dr (aH ?_))
 show au _ X.A (do let _ <-Le (.ListComp elt [⟨.Name y px,iter,ifs,0⟩] scope p) scope X.env _ (Af []) false (eval iter X.env) (some (lX (.Name x pos') X.env))) _ _ s
 have GS:=jD hg
 refine aH (av (Dp (use:=some (lX (.Name x pos') X.env)) (Q:=λ_ s'=>uc X pins H F (fG i (cR gi f) Γ) .next s') rfl hs lH c.kind c.names
  (av (qz.run pins s σ H F Γ I fo rl (R.left GS)) (λxv cq cN=>av cN (λkW aq qA=>?_) λ_ _ x=>(x.bind _).lift fo rl _) λ_ _ x=>(x.bind _).lift fo rl _)) (λ_ s' hq=>bS (bS hq)) λ_ _ e=>e)
 obtain⟨items,it,fp,tn,J,ax,e1,rfl,I2,S2,T,t0,fk,jc⟩:=qA
 have fg:=R.next GS e1
 obtain⟨hl,e2⟩:=R.cT fg
 have aS:c8 (λd=>f d Γ) items [] ≠ .no:=by
  have:=R.next GS e1
  rw[e2] at this;exact this
 obtain⟨total,et⟩:=xM aS
 have eT:cR gi f Γ = .ok total:=(R.step e1 _).trans (e2.trans et)
 refine GI (RR:=λacc C=>Dq (aB X.prog X.w) X.A _ (some (lX (.Name x pos') X.env)) _ acc C) (λC ps s x H d J _ fo rl e=>hp.run C aq ax fp (X.pn++pins) ps s _ H F Γ d J fo rl e) c hN fh I2 (fo.same S2) (rl.same S2) T t0 fk jc et hl ?_
 intro Dd C xs H' m s' hC dh hn gX iK hD S' ia I' ot
 have gR:∀{b:Addr} {o:Obj},aq.heap.get? b=some o->b≠C:=λe=>dS (cW (bH e) hC)
 have S3:=gP gX (.lst xs)
 have xB:aO H (upd H' Dd (.lst xs)):=(S2.trans S').trans S3
 have hH:H Dd=none:=S2.free hn
 have y8:ao X.K (aF (Dd::F) (upd H' Dd (.lst xs))) total xs:=ia.same λb o hb=>by
  obtain⟨z1,z2⟩:=iF hb
  have fJ:b≠Dd:=gI z2 gX
  rw[da λz=>(List.mem_cons.mp z).elim fJ z1,bD fJ]
  exact z2
 show au _ X.A (lX (.Name x pos') X.env (.ref Dd)) _ _ s'
 refine Sd (DE (v:=.ref Dd) I' hN hi hx rfl (λs3 I3 ud=>?_) hf)
 obtain⟨aa,ud,GU⟩:=ud
 have GV:aa≠C:=by
  rcases GU with z | z
  ·subst z;exact dS (cW I2.lt hC)
  ·obtain⟨v,o,ho,_⟩:=I2.cell x aa z;exact gR ho
 refine⟨m,ot.sameBut ud (dM GV),λjl jM=>?_⟩
 have I4:Inv X pins (σ.set i (some (.ref Dd))) (upd H' Dd (.lst xs)) { s3 with heap:=jl }:=I3.turned (t':=s3.toks) (it:=C) (λb o hb e=>jM.extBut b o hb e) (by rw[bD (dM dh)];exact iK) (nc (cW I2.lt hC)) (.inr (dD I2.sz hC))
  (λx k e=>by obtain⟨v,o,ho,_⟩:=I2.cell x k e;exact gR ho) (λp bG=>gR (I2.pin p bG).1)
 exact⟨_,jE eT,_,_,Dd::F,I4,(fo.same xB).cons dc,rl.set_own fo xB hH dc y8,⟨λb o _ h=>xB _ _ h,λb hb=>(List.mem_cons.mp hb).elim (λz=>.inr (z ▸ hH)) .inl⟩⟩
theorem Ci(i:Nat){x:Str}{apos cD:Pos}(he:jj X e g)(hN:X.N[i]? = some x:=by rfl)(hv:kR X.env.scope x:=by first | exact fR rfl | exact dX (fR rfl) | exact dX (dX rfl))(hd:(x==("__debug__":Str))=false:=by decide)(dE:(x==("__classdict__":Str))=false:=by decide)
 (ox:pQ (.Call (.Attribute (.Name x p) "append" apos) [e] [] cD) none pos.line X.env=pure false:=by rfl)
 (ke:uH (.Name x p) "append" X.env (eval (.Name x p) X.env)=eval (.Name x p) X.env:=by rfl)
 (lJ:((cC cD (aV [e] X.env)).all (λx=>!x.1)&&(uv cD (uw [] X.env)).all (λx=>x.1.isSome)
   && decide ([e].length+([]:List km).length+(if ([]:List km).isEmpty then 0 else 1)<30))=true:=by rfl)
 (kf:(apos.endLine==cD.line)=true:=by rfl) (hs:aV [e] X.env=(false,eval e X.env)::aV [] X.env:=by rfl) :
 PQ X (.Expr (.Call (.Attribute (.Name x p) "append" apos) [e] [] cD) pos) (nM i g):=by
 refine⟨λpins s σ H F Γ I fo rl hg=>?_⟩
 refine Ds ?_ I.quiet ox
 have y9:∃ds,Γ[i]? = some (.own ds):=by
  unfold nM at hg
  split at hg
  ·rename_i ds e1;exact⟨ds,e1⟩
  ·exact absurd rfl hg
 obtain⟨ds,eo⟩:=y9
 have y_:nM i g Γ=lift (g Γ) Γ λd=>R.guard (ds.length<=100000) (.ok (.nx (Γ.set i (.own (ds++[d]))))):=by unfold nM;rw[eo]
 rw[y_] at hg ⊢
 obtain⟨a',xs,h1,hF,h3,h4⟩:=rl.own i ds eo
 refine w_ ke lJ kf rfl (av (pV (X:=X.bT) hN hv hd dE pins s σ H (λv' H'=>v' = .ref a'/\H'=H) (I.dm _) ⟨.ref a',h1,rfl,rfl⟩) (λv s1 ⟨v',H',I1,r1,e1,e2⟩=>?_) λ_ _ z=>b6 z)
 subst e1 e2
 have se:=I1.eQ
 obtain⟨t1,t2⟩:=AE (T:="list") se r1 (.inl ⟨rfl,xs,b9.of h3⟩)
 refine⟨"list",_,Lf,a9g,a9h,t1,t2,?_⟩
 rw[hs]
 refine uI rfl (xc ?_)
 show au _ _ (eE ((false,eval e X.env)::cC cD [])) _ _ s1
 refine fw (av (he.run pins s1 σ H' F Γ se fo rl (jD hg)) (λu s2 ⟨d,y,H2,e3,I2,r2,S2,i2⟩=>h_ ?_) λ_ _ x=>x.lift fo rl _)
 have fg:=A5 hg e3
 obtain⟨hl,e4⟩:=R.cT fg
 have Cj:=S2 _ _ h3
 have iY:(100001:Nat)<=bR:=by rw[ju];decide
 have jk:=h4.length
 refine av (Md (X:=X.bT) pins s2 σ H2 (.ref a') [y] v [u] (λz lK=>z = .cH/\lK=upd H2 a' (.lst (xs++[y]))) (I2.dm _) r1 (.cons r2 .nil) ⟨a',xs,y,rfl,rfl,Cj,by lia,rfl,rfl⟩) (λw' s3 ⟨z,lK,I3,rz,ez,eH⟩=>?_) λ_ _ z=>b6 z
 subst ez eH
 obtain⟨lI,za⟩:=(rl.same S2).put eo h1 (xs':=xs++[y]) (ds':=ds++[d]) ((h4.same (g7 S2)).append (ao.cons i2 ao.nil))
 refine⟨_,(jE e3).trans e4,σ,_,F,I3.eQ,λb hb=>?_,lI,⟨λb o hb h=>?_,λb hb=>.inl hb⟩⟩
 ·by_cases oy:b=a'
  ·exact⟨xs++[y],by rw[oy];exact dc⟩
  ·obtain⟨ys,q⟩:=fo b hb
   exact⟨ys,by rw[bD oy];exact S2 _ _ q⟩
 ·rw[bD (λz=>hb (by rw[z];exact hF))];exact S2 _ _ h
theorem GW(i:Nat){x:Str}{k:Expr}{gk:G->R D}{sf:Pos}(hk:PD X k gk)(he:jj X e g)(hN:X.N[i]? = some x:=by rfl)(hv:kR X.env.scope x:=by first | exact fR rfl | exact dX (fR rfl) | exact dX (dX rfl))(hd:(x==("__debug__":Str))=false:=by decide)(dE:(x==("__classdict__":Str))=false:=by decide)
 (ha:∀v,lX (.Subscript (.Name x p) k sf) X.env v=(do
   let ov <-Aa [v] (eval (.Name x p) X.env)
   let iv <-Aa [v,ov] (eval k X.env)
   Tg sf
   Aa [v,ov,iv] (setItem ov iv v)
   release [v,ov,iv] []):=by intro _;rfl)
 (hs:swapsWithSole [.Subscript (.Name x p) k sf] e pos.line X.env=pure false:=by rfl) (hw:swappedStores [.Subscript (.Name x p) k sf] e X.env=pure none:=by rfl)
 (ik:(zS [.Subscript (.Name x p) k sf] X.env).map (·.2)=[lX (.Subscript (.Name x p) k sf) X.env]:=by rfl) :
 PQ X (.Assign [.Subscript (.Name x p) k sf] e pos) (oZ i gk g):=by
 refine⟨λpins s σ H F Γ I fo rl hg=>?_⟩
 have y9:∃ds,Γ[i]? = some (.own ds):=by
  unfold oZ at hg
  split at hg
  ·rename_i ds e1;exact⟨ds,e1⟩
  ·exact absurd rfl hg
 obtain⟨ds,eo⟩:=y9
 have y_:oZ i gk g Γ=lift (g Γ) Γ λd=>lift (gk Γ) Γ λk=>(match k with
  | .int j=>(match iV ds.length j with | some j'=>.ok (.nx (Γ.set i (.own (ds.set j' d)))) | none=>.no)
  | _=>.no):=by(unfold oZ;rw[eo])<;>rfl
 rw[y_] at hg ⊢
 obtain⟨a',xs,h1,hF,h3,h4⟩:=rl.own i ds eo
 refine wpAny_Assign_stores (av (he.run pins s σ H F Γ I fo rl (jD hg)) (λu s1 ⟨d,y,H1,e1,I1,r1,S1,i1⟩=>?_) λ_ _ x=>x.lift fo rl _) hs hw
 have aJ:=A5 hg e1
 rw[ik]
 rw[jE e1] at hg ⊢
 show au _ _ (lX (.Subscript (.Name x p) k sf) X.env u) _ _ s1
 rw[ha]
 refine aH (l0 (av (pV (X:=X.bT) hN hv hd dE pins s1 σ H1 (λv' H'=>v' = .ref a'/\H'=H1) (I1.dm _) ⟨.ref a',h1,rfl,rfl⟩) (λv s2 ⟨v',H',I2,r2,e2,e3⟩=>?_) λ_ _ z=>b6 z))
 subst e2 e3
 refine aH (l0 (av (hk.run pins s2 σ H' F Γ I2.eQ (fo.same S1) (rl.same S1) (jD hg)) (λw' s3 ⟨dk,vk,H3,e4,I3,r3,S3,i3⟩=>?_) λ_ _ x=>(x.lift (fo.same S1) (rl.same S1) _).later (.of_same S1)))
 have dt:=A5 hg e4
 rw[jE e4] at hg ⊢
 cases dk with
 | int j =>
   cases q:iV ds.length j with
   | none=>simp only[q] at dt;exact absurd rfl dt
   | some j' =>
     have ZJ:=S3 _ _ (S1 _ _ h3)
     refine aH (Dr (aH (l0 (av (Vh (X:=X.bT) pins s3 σ H3 (.ref a') vk y v w' u (λlK=>lK=upd H3 a' (.lst (xs.set j' y))) (I3.dm _) r2 r3 r1 ⟨a',xs,j,j',rfl,Is.bU.mp i3,ZJ,by rw[<-h4.length];exact q,rfl⟩) (λ_ s4 ⟨lK,I4,eH⟩=>?_) λ_ _ z=>b6 z))))
     subst eH
     refine wpAny_release ?_
     have Ck:=S1.trans S3
     obtain⟨lI,za⟩:=(rl.same Ck).put eo h1 (xs':=xs.set j' y) (ds':=ds.set j' d) (ao.set (i1.same (g7 S3)) j' (h4.same (g7 Ck)))
     refine⟨_,by simp only[q],σ,_,F,I4.eQ,λb hb=>?_,lI,⟨λb o hb h=>?_,λb hb=>.inl hb⟩⟩
     ·by_cases oy:b=a'
      ·exact⟨_,by rw[oy];exact dc⟩
      ·obtain⟨ys,q'⟩:=fo b hb
       exact⟨ys,by rw[bD oy];exact Ck _ _ q'⟩
     ·rw[bD (λz=>hb (by rw[z];exact hF))];exact Ck _ _ h
 | _=>exact absurd rfl dt
def zb(X:Cx):Prop:=∀pins H F r,PassesOwn (aB X.prog X.w) X.A X.env (ou X pins H F r)
theorem qC(i:Nat){x:Str}{px:Pos}{iter:Expr}{body:List Stmt}{gi:G->R (List D)}{gb:G->R Fl}(hp:zb X)(fh:X.calm=true)(hi:vU X (.Name x px) iter gi)(hb:kc X body gb)(hN:X.N.Nodup)(GX:X.N[i]? = some x:=by rfl)(hx:Loc X.env.scope x:=by first | exact fR rfl | exact dX rfl)
 (hf:X.fn x=true∨X.env.scope.names.lookup x=some .local:=by first | exact .inl rfl | exact .inr rfl | assumption)
 (hs:∀x,uF iter X.env x=pure x:=by intro _;rfl):PQ X (.For (.Name x px) iter body [] pos) (iX i gi gb):=by
 refine⟨λpins s σ H F Γ I fo rl hg=>?_⟩
 refine wpAny_For (av (hi.run pins s σ H F Γ I fo rl (jD hg)) (λv s1 h1=>av h1 (λkW s2 h2=>?_) λ_ _ x=>x.lift fo rl _) λ_ _ x=>x.lift fo rl _) hs
 obtain⟨ds,it,fp,tn,J,H2,e1,rfl,I2,S2,T,t0,fk,jd⟩:=h2
 have eg:iX i gi gb Γ=e_ gb i ds Γ:=jE e1
 rw[eg] at hg ⊢
 have bG:=hp pins H F (e_ gb i ds Γ)
 have GY:∀{H':Hp},(∀b∈fp,H' b=none)->∀b∈fp,fx X pins H' b:=λhn b hb=>⟨hn b hb,(fk b hb).2⟩
 refine codeAny_forLoop_any (λn s'=>∃(j:Nat) (aE:St) (H':Hp) (F':List Addr) (Γ':G),n=ds.length-j/\j<=ds.length/\Inv X pins aE H' s'/\tn j s'.heap/\(∀b∈fp,H' b=none)/\bI H' F'/\Rel X.K H' F' Γ' aE/\Ext H2 F H' F'/\e_ gb i (ds.drop j) Γ'=e_ gb i ds Γ) ?_ ds.length
  ⟨0,σ,H2,F,Γ,by lia,ni _,I2,t0,λb hb=>(fk b hb).1,fo.same S2,rl.same S2,.refl,by rw[zY]⟩
 rintro n s3 ⟨j,zc,H3,F3,GZ,en,hj,I3,t3,O4,zd,Cm,E3,G0⟩
 have Cn:Ext H F H3 F3:=(Ext.of_same S2).trans E3
 obtain⟨tY,tZ⟩:=jd H3 λb o hb h=>E3.keep b o hb h
 by_cases cw:j<ds.length
 ·obtain⟨go,yl⟩:=tY j cw
  refine sF bG (fE (T.item X rfl rfl rfl fh j pins s3 zc H3 _ I3 (GY O4) t3 go) λr s4 ⟨u,hr,h4⟩=>?_)
  subst hr
  refine sF bG (fE h4 λ_ s5 ⟨y,H5,I5,r5,y5,ij,qv⟩=>?_)
  obtain⟨e5,d,ed,iv⟩:=yl y H5 y5
  subst e5
  have ZK:=iv F3 λb hb=>E3.old b hb
  have t6:ds.drop j=d::ds.drop (j+1):=by
   rw[K8 cw]
   have:ds[j]=d:=by
    have:=eO cw
    rw[ed] at this;exact(kK this).symm
   rw[this]
  have ZL:=I5.pinned (GY qv) (T.obj _ _ ij)
  have qx:PG X.bT (.Name x px) (sM i):=uN (X:=X.bT) hN GX hx hf
  refine sF bG (av (qx _ s5 zc H5 y u (λaE H'=>aE=zc.set i (some y)/\H'=H5) (ZL.dm _) r5 ⟨rfl,rfl⟩) (λ_ s6 ⟨vX,H6,I6,e6,qy⟩=>?_) λ_ _ z=>b6 z)
  subst e6 qy
  have ue:e_ gb i (d::ds.drop (j+1)) GZ=e_ gb i ds Γ:=by rw[<-t6];exact G0
  have gz:gb (GZ.set i (.ro d)) ≠ .no:=λz=>by
   rw[<-ue] at hg
   unfold e_ at hg
   rw[z] at hg
   exact hg rfl
  have back:∀{s7:ah} {cP:St} {H7:Hp},Inv X (pins++jU fp s5.heap) cP H7 s7->Inv X pins cP H7 s7/\tn (j+1) s7.heap/\∀b∈fp,H7 b=none:=λ{s7 cP H7} I7=>by
   refine⟨I7.ny,T.keep _ _ _ ij λb hb o e=>(I7.pin (b,o) (b8 _ (b8 _ (nv hb e)))).1,λb hb=>?_⟩
   obtain⟨o,e,dd⟩:=T.obj _ _ ij b hb
   exact(I7.pin (b,o) (b8 _ (b8 _ (nv hb e)))).2.1
  refine sF bG (av (hb.run _ s6 _ H6 F3 _ I6.eQ zd (Cm.Cf ZK) gz) (λf s7 q7=>?_) λx7 s7 q7=>?_)
  ·cases f with
   | next =>
     obtain⟨gD,e7,cP,H7,F7,I7,gE,gF,E7⟩:=q7
     obtain⟨b1,b2,b3⟩:=back I7
     refine⟨ds.length-(j+1),by lia,j+1,cP,H7,F7,gD,rfl,cw,b1,b2,b3,gE,gF,E3.trans E7,?_⟩
     rw[<-ue]
     conv=>rhs;unfold e_
     rw[e7]
   | cont =>
     obtain⟨gD,e7,cP,H7,F7,I7,gE,gF,E7⟩:=q7
     obtain⟨b1,b2,b3⟩:=back I7
     refine⟨ds.length-(j+1),by lia,j+1,cP,H7,F7,gD,rfl,cw,b1,b2,b3,gE,gF,E3.trans E7,?_⟩
     rw[<-ue]
     conv=>rhs;unfold e_
     rw[e7]
   | brk =>
     obtain⟨gD,e7,cP,H7,F7,I7,gE,gF,E7⟩:=q7
     refine⟨gD,?_,cP,H7,F7,I7.ny,gE,gF,Cn.trans E7⟩
     rw[<-ue]
     conv=>lhs;unfold e_
     rw[e7]
   | ret v7 =>
     refine mP.map q7 Cn (λ_ _ I7=>I7.ny) (λd7 e7=>?_) λd7 e7=>?_
     ·rw[<-ue]
      conv=>lhs;unfold e_
      rw[e7]
     ·rw[<-ue]
      conv=>lhs;unfold e_
      rw[e7]
  ·obtain⟨c7,gD,cP,H7,F7,e7,ze,gE,gF,E7⟩:=q7
   refine⟨c7,gD,cP,H7,F7,?_,?_,gE,gF,Cn.trans E7⟩
   ·rw[<-ue]
    conv=>lhs;unfold e_
    rw[e7]
   ·obtain⟨I7,e',C',oe,vs,q1,q2,q3,q4,q5,q6,ZM,q8⟩:=ze
    refine⟨I7.ny,e',C',oe,vs,q1,q2,q3,q4,q5,q6,λp rP=>ZM p ?_,?_⟩
    ·rcases List.mem_append.mp rP with z | z
     ·exact iO _ z
     ·exact b8 _ (iO _ z)
    ·obtain⟨w1,w2,w3,w4,w5⟩:=q8
     refine⟨w1,w2,w3,w4,?_⟩
     rcases w5 with w5 | ⟨T',oT,ts,z1,z2,z3,z4,z5,z6,z7⟩
     ·exact .inl w5
     ·refine .inr ⟨T',oT,ts,z1,z2,z3,z4,z5,λp rP=>z6 p ?_,z7⟩
      rcases List.mem_append.mp rP with z | z
      ·exact iO _ z
      ·exact b8 _ (iO _ z)
 ·have ej:j=ds.length:=by lia
  subst ej
  refine sF bG (fE (T.done X rfl rfl rfl fh _ pins s3 zc H3 _ I3 (GY O4) t3 tZ) λr s4 ⟨hr,I4⟩=>?_)
  subst hr
  rw[C9] at G0
  exact pP ⟨GZ,G0.symm,zc,H3,F3,I4,zd,Cm,Cn⟩
theorem G1(n:Nat){zf:Expr}{body:List Stmt}{gc:G->R Bool}{gb:G->R Fl}(hp:zb X)(hc:i5 X zf gc)(hb:kc X body gb):PQ X (.While zf body [] pos) (eI gc gb n):=by
 refine⟨λpins s σ H F Γ I fo rl hg=>?_⟩
 have bG:=hp pins H F (eI gc gb n Γ)
 refine wpAny_While (a9i (λm s'=>∃(aE:St) (H':Hp) (F':List Addr) (Γ':G),Inv X pins aE H' s'/\bI H' F'/\Rel X.K H' F' Γ' aE/\Ext H F H' F'/\eI gc gb m Γ'=eI gc gb n Γ) ?_ n ⟨σ,H,F,Γ,I,fo,rl,.refl,rfl⟩)
 rintro m s1 ⟨kU,H1,F1,dG,I1,eW,fq,E1,di⟩
 have aJ:eI gc gb m dG ≠ .no:=by rw[di];exact hg
 cases m with
 | zero=>exact absurd rfl aJ
 | succ m =>
   have G2:eI gc gb (m+1) dG=lift (gc dG) dG λk=>if k=true then (match gb dG with
    | .ok (.nx Γ')=>eI gc gb m Γ'
    | .ok (.ct Γ')=>eI gc gb m Γ'
    | .ok (.bk Γ')=>.ok (.nx Γ')
    | .ok (.rt d)=>.ok (.rt d)
    | .ok (.fz d)=>.ok (.fz d)
    | .ok (.ex c Γ')=>.ok (.ex c Γ')
    | _=>.no) else .ok (.nx dG):=rfl
   rw[G2] at aJ di
   refine sF bG (av (hc.run pins s1 kU H1 F1 dG I1 eW fq (jD aJ)) (λk s2 ⟨H2,e2,I2,S2⟩=>?_) λ_ _ x=>by rw[<-di];exact(x.lift eW fq _).later E1)
   rw[jE e2] at aJ di
   cases k with
   | false =>
     rw[if_neg sv] at di ⊢
     exact pP ⟨dG,di.symm,kU,H2,F1,I2,eW.same S2,fq.same S2,E1.trans (.of_same S2)⟩
   | true =>
     rw[if_pos rfl] at di aJ ⊢
     have gz:gb dG ≠ .no:=λz=>by rw[z] at aJ;exact aJ rfl
     refine sF bG (av (hb.run pins s2 kU H2 F1 dG I2 (eW.same S2) (fq.same S2) gz) (λf s3 q3=>?_) λx3 s3 q3=>?_)
     ·cases f with
      | next =>
        obtain⟨gD,e7,cP,H7,F7,I7,gE,gF,E7⟩:=q3
        rw[e7] at di
        exact⟨m,wV _,cP,H7,F7,gD,I7,gE,gF,(E1.trans (.of_same S2)).trans E7,di⟩
      | cont =>
        obtain⟨gD,e7,cP,H7,F7,I7,gE,gF,E7⟩:=q3
        rw[e7] at di
        exact⟨m,wV _,cP,H7,F7,gD,I7,gE,gF,(E1.trans (.of_same S2)).trans E7,di⟩
      | brk =>
        obtain⟨gD,e7,cP,H7,F7,I7,gE,gF,E7⟩:=q3
        rw[e7] at di
        exact⟨gD,di.symm,cP,H7,F7,I7,gE,gF,(E1.trans (.of_same S2)).trans E7⟩
      | ret v =>
        exact mP.map q3 (E1.trans (.of_same S2)) (λ_ _ I7=>I7) (λd7 e7=>by rw[e7] at di;exact di.symm) λd7 e7=>by rw[e7] at di;exact di.symm
     ·obtain⟨c7,gD,cP,H7,F7,e7,ze,gE,gF,E7⟩:=q3
      rw[e7] at di
      exact⟨c7,gD,cP,H7,F7,di.symm,ze,gE,gF,(E1.trans (.of_same S2)).trans E7⟩
end
def sg(X:Cx)(pins:List (Addr×Obj))(σ:St)(H:Hp)(c:Er)(x:Value)(s:ah)(fl:Value):Prop :=
 Inv X pins σ H s/\∃(e C:Addr) (oe:Obj) (vs:Array Value),x = .ref e/\X.mg c.nm=some (.ref C)/\H e=none/\X.s₀.heap.get? e=none/\e≠X.env.locals/\(∀y k,X.env.cells.lookup y=some k->k≠e)/\(∀p∈X.pn++pins,p.1≠e) /\
  s.heap.get? e=some oe/\oe.cls = .ref C/\oe.data = .fields vs/\(∃a0,vs[0]? = some a0) /\
  ∃(T:Addr) (oT:Obj) (ts:Array Value),vs[1]? = some (.ref T)/\H T=none/\X.s₀.heap.get? T=none/\T≠X.env.locals/\(∀y k,X.env.cells.lookup y=some k->k≠T)/\(∀p∈X.pn++pins,p.1≠T)/\T≠e /\
   s.heap.get? T=some oT/\oT.data = .fields ts/\ts[3]? = some fl
section
variable {X:Cx}{pins:List (Addr×Obj)}{σ:St}{H:Hp}{c:Er}{x:Value}{s:ah}{E:Value->ah->Prop}{Q:Unit->ah->Prop}
theorem sg.here{L:Addr}(hf:X.env.frame=some L)(h:sg X pins σ H c x s (kL L)):pb X pins σ H c x s:=by
 obtain⟨I,e,C,oe,vs,h1,h2,h3,h4,h5,h6,h7,h8,h9,iL,jn,T,oT,ts,k1,k2,k3,k4,k5,k6,k7,k8,k9,jo⟩:=h
 exact⟨I,e,C,oe,vs,h1,h2,h3,h4,h5,h6,h7,h8,h9,iL,jn,.inr ⟨T,oT,ts,k1,k2,k3,k4,k5,k6,k7,k8,k9,.inr ⟨L,hf,jo⟩⟩⟩
theorem O5{P:aQ}{w:aN}{H:Hp}{h:Heap}{a:Addr}{o:HO}(x:iT P w H h a o):∃ob,h.get? a=some ob:=by
 cases o with
 | lst xs=>obtain⟨_,_,_,_,e⟩:=x;exact⟨_,e⟩
 | tup xs=>obtain⟨_,_,_,ob,e,_⟩:=x;exact⟨_,e⟩
 | dK gp=>obtain⟨_,_,_,_,o,_,_,e,_⟩:=x;exact⟨_,e⟩
 | dT gp=>obtain⟨_,_,_,_,o,_,_,e,_⟩:=x;exact⟨_,e⟩
 | set S n=>obtain⟨o,_,_,_,e,_⟩:=x;exact⟨_,e⟩
 | ins C dx fs=>obtain⟨_,_,_,e,_⟩:=x;exact⟨_,e⟩
 | own y=>exact x
 | xd fs=>obtain⟨_,⟨_,_,_,e,_⟩,_⟩:=x;exact⟨_,e⟩
 | An lo hi=>obtain⟨_,_,_,e⟩:=x;exact⟨_,e⟩
 | gq ob u=>obtain⟨e,_⟩:=x;exact⟨_,e⟩
 | rf ps=>exact⟨_,x⟩
 | met f y=>exact⟨_,x⟩
 | ext φ=>exact x.2.1
theorem Inv.O6{ch:List Addr}{h':Heap}(I:Inv X pins σ H s)(iw:∀b∈ch,H b=none/\X.s₀.heap.get? b=none/\b≠X.env.locals/\(∀y k,X.env.cells.lookup y=some k->k≠b)/\∀p∈X.pn++pins,p.1≠b)
 (keep:∀b o,b ∉ dj X.stack->b ∉ ch->s.heap.get? b=some o->h'.get? b=some o) (slot:∀b o,b ∉ ch->s.heap.get? b=some o->∃sl,h'.get? b=some { o with slots:=sl }):Inv X pins σ H { s with heap:=h' }:=by
 refine I.call (g':=s.gens) (t':=s.toks) (d':=s.drawn) (ch:=ch) ⟨λb o e _ hb hc=>keep b o hb hc e,λb o e _ _ hc=>slot b o hc e,λ_ _ _ n _=>n,λb o e hc=>let ⟨sl,q⟩:=slot b o hc e;⟨_,q⟩,λ_ _ q=>q,λ_ _ _ q=>q,λ_ ps q=>⟨#[],by rw[q];simp⟩⟩ (λb u e=>?_) I.bare λb hb=>?_
 ·have tr:∀d w',H d=some w'->d ∉ dj X.stack/\d ∉ ch:=λd w' q=>by
   refine⟨λz=>?_,λz=>?_⟩
   ·rw[I.Ar d z] at q;cases q
   ·rw[(iw d z).1] at q;cases q
  refine(I.aK b u e).kQ (λd v hd q=>?_) (λ_ q=>q) λ_ _ q=>q
  rcases hd with z | z
  ·rw[z] at q ⊢;exact keep b v (tr b u e).1 (tr b u e).2 q
  ·exact keep d v (tr d _ z).1 (tr d _ z).2 q
 ·obtain⟨h1,h2,h3,h4,h5⟩:=iw b hb
  exact⟨.inr h2,h3,h4,h5⟩
def hx(l:List Addr):Hp:=λb=>if b∈l then some (.own 0) else none
theorem ZN{l:List Addr}{b:Addr}(h:b∈l):hx l b=some (.own 0):=by unfold hx;rw[if_pos h]
theorem O7{l:List Addr}{b:Addr}(h:b ∉ l):hx l b=none:=by unfold hx;rw[if_neg h]
theorem zg{h:Heap}{l:List Addr}{b:Addr}(hb:b∈l):(jx h (hx l)).get? b=none:=by
 cases q:(jx h (hx l)).get? b with
 | none=>rfl
 | some o =>
   have z:=(DB q).2
   rw[ZN hb] at z;cases z
theorem O8{L e C:Addr}{a0:Value}{ch:List Addr}{h':Heap}(hex:X.ex=[])(I:Inv X pins σ H s)(pZ:X.mg c.nm=some (.ref C))(he:e∈ch)(iw:∀b∈ch,H b=none/\X.s₀.heap.get? b=none/\b≠X.env.locals/\(∀y k,X.env.cells.lookup y=some k->k≠b)/\∀p∈X.pn++pins,p.1≠b)
 (hN:Heap.NotedW (jx s.heap (hx (dj X.stack++ch))) X.stack e (.ref C) a0 (kL L) s.heap h'):sg X pins σ H c (.ref e) { s with heap:=h' } (kL L):=by
 obtain⟨st,ff,⟨zh,G3,T',ZO,ZP,q1,⟨q2,ZQ⟩,q3,q4,q5,q6,q7,q8,q9⟩,up⟩:=hN
 have keep:∀b o,b ∉ dj X.stack->b ∉ ch->s.heap.get? b=some o->h'.get? b=some o:=λb o h1 h2 q=>st b o (DA q (O7 λz=>(List.mem_append.mp z).elim h1 h2))
 have slot:∀b o,b ∉ ch->s.heap.get? b=some o->∃sl,h'.get? b=some { o with slots:=sl }:=λb o h2 q=>by
  by_cases hb:b∈dj X.stack
  ·obtain⟨_,o',dO,vZ⟩:=I.stack.mem hb
   rw[q] at dO;cases dO
   exact up b o q vZ
  ·exact⟨o.slots,keep b o hb h2 q⟩
 have hT:H T'=none/\X.s₀.heap.get? T'=none/\T'≠X.env.locals/\(∀y k,X.env.cells.lookup y=some k->k≠T')/\∀p∈X.pn++pins,p.1≠T':=by
  cases q:s.heap.get? T' with
  | none =>
    refine⟨?_,I.gone hex q⟩
    cases z:H T' with
    | none=>rfl
    | some u =>
      obtain⟨o,eo⟩:=O5 (I.aK T' u z)
      rw[q] at eo;cases eo
  | some o =>
    have ZR:T'∈dj X.stack++ch:=by
     by_cases z:T'∈dj X.stack++ch
     ·exact z
     ·have:=DA q (O7 z)
      rw[q5] at this;cases this
    rcases List.mem_append.mp ZR with z | z
    ·exfalso
     obtain⟨_,o',dO,vZ⟩:=I.stack.mem z
     rw[q] at dO;cases dO
     obtain⟨sl,e1⟩:=up T' o q vZ
     rw[q7] at e1;cases e1
     exact vZ _ q8
    ·exact iw T' z
 obtain⟨f1,f2,f3,f4,f5⟩:=iw e he
 obtain⟨g1,g2,g3,g4,g5⟩:=hT
 exact⟨Inv.O6 I iw keep slot,e,C,zh,G3,rfl,pZ,f1,f2,f3,f4,f5,q1,q2,q3,⟨a0,ZQ⟩,T',ZO,ZP,q4,g1,g2,g3,g4,g5,q6,q7,q8,q9⟩
theorem Co{M:oB}{L:Addr}(hex:X.ex=[])(mQ:X.stack=X.env::X.outer)(hf:X.env.frame=some L)(h:pb X pins σ H c x s)(hQ:∀s',sg X pins σ H c x s' (kL L)->Q () s'):au M X.A (Lg x X.env) Q E s:=by
 obtain⟨I,e,C,oe,vs,h1,h2,h3,h4,h5,h6,h7,h8,h9,iL,jn,sh⟩:=h
 subst h1
 obtain⟨a0,jn⟩:=jn
 have iM:X.A.frames=some (X.env::X.outer):=by rw[<-mQ];exact I.ok.frames
 have nfe:∀{b:Addr} {o:Obj} {ws:Array Value},s.heap.get? b=some o->o.data = .fields ws->b ∉ dj X.stack:=λ{b o ws} q1 q2 z=>by
  obtain⟨_,o',dO,vZ⟩:=I.stack.mem z
  rw[q1] at dO;cases dO
  exact vZ _ q2
 have hl:∀ch:List Addr,s.heap.FunFrames (jx s.heap (hx (dj X.stack++ch))) (X.env::X.outer):=λch=>by
  have gen:∀(l:List Env),(∀b∈dj l,b∈dj X.stack)->s.heap.FunFrames X.base l->s.heap.FunFrames (jx s.heap (hx (dj X.stack++ch))) l:=by
   intro l
   induction l with
   | nil=>intro _ _;trivial
   | cons env r ih =>
     intro hs ⟨hk,⟨L',o,G4,hn,ho,hd⟩,hr⟩
     have m1:∀b∈dj r,b∈dj (env::r):=λb hb=>by unfold dj at hb ⊢;rw[C0,G4];exact dJ _ hb
     have m0:L'∈dj (env::r):=by unfold dj;rw[C0,G4];exact fi
     exact⟨hk,⟨L',o,G4,zg (iO _ (hs L' m0)),ho,hd⟩,ih (λb hb=>hs b (m1 b hb)) hr⟩
  rw[<-mQ]
  exact gen X.stack (λ_ h=>h) I.stack
 have stays:∀ch:List Addr,(jx s.heap (hx (dj X.stack++ch))).StaysIn s.heap:=λch b o q=>(DB q).1
 rcases sh with sh | ⟨T,oT,ts,k1,k2,k3,k4,k5,k6,k7,k8,k9,jo⟩
 ·have jA:1<vs.size:=(Array.getElem?_eq_some_iff.mp sh).1
  unfold Lg
  simp only[hf]
  refine aH (oH h8 iL sh ?_)
  rw[if_neg (by decide)]
  refine wpAny_entryW iM (hl [e]) hf h8 (stays [e]) (zg (by simp)) iL jA jn λh' hN=>hQ _ ?_
  rw[h9,<-mQ] at hN
  refine O8 (ch:=[e]) hex I h2 (by simp) (λb hb=>?_) hN
  have:b=e:=by simpa using hb
  subst this
  exact⟨h3,h4,h5,h6,h7⟩
 ·have uL:∀b∈[e,T],H b=none/\X.s₀.heap.get? b=none/\b≠X.env.locals/\(∀y k,X.env.cells.lookup y=some k->k≠b)/\∀p∈X.pn++pins,p.1≠b:=λb hb=>by
   have:b=e∨b=T:=by simpa using hb
   rcases this with rfl | rfl
   ·exact⟨h3,h4,h5,h6,h7⟩
   ·exact⟨k2,k3,k4,k5,k6⟩
  rcases jo with jo | ⟨L',O9,jo⟩
  ·refine wpAny_noteFrame_onW (cls:=.ref C) (a0:=a0) iM (hl [e,T]) hf ⟨oe,vs,T,oT,ts,h8,⟨h9,jn⟩,iL,k1,zg (by simp),k7,k8,k9,jo⟩ (stays [e,T]) (zg (by simp)) λh' hN=>hQ _ ?_
   rw[<-mQ] at hN
   exact O8 (ch:=[e,T]) hex I h2 (by simp) uL hN
  ·rw[hf] at O9;cases O9
   refine wpAny_noteFrame_againW (base:=jx s.heap (hx (dj X.stack++[e,T]))) (cls:=.ref C) (a0:=a0) hf ⟨oe,vs,T,oT,ts,h8,⟨h9,jn⟩,iL,k1,zg (by simp),k7,k8,k9,jo⟩ (hQ s ?_)
   exact⟨I,e,C,oe,vs,rfl,h2,h3,h4,h5,h6,h7,h8,h9,iL,⟨a0,jn⟩,T,oT,ts,k1,k2,k3,k4,k5,k6,k7,k8,k9,jo⟩
theorem zi{M:oB}{A:Around}{fl:Value}{fr:Option Addr}(h:sg X pins σ H c x s fl)(hQ:∀s',sg X pins σ H c x s' (fr.elim .none λf=>kL f)->Q () s'):au M A (setFlight x fr) Q E s:=by
 obtain⟨I,e,C,oe,vs,h1,h2,h3,h4,h5,h6,h7,h8,h9,iL,jn,T,oT,ts,k1,k2,k3,k4,k5,k6,k7,k8,k9,jo⟩:=h
 subst h1
 have O_:3<ts.size:=(Array.getElem?_eq_some_iff.mp jo).1
 have other:∀b,b≠T->(s.heap.update T (Obj.mapFields (·.setIfInBounds 3 (fr.elim qQ λf=>kL f)))).get? b=s.heap.get? b:=λb hb=>Kz _ _ (dM hb)
 unfold setFlight
 refine aH (oH h8 iL k1 ?_)
 rw[if_pos (show(ft T != qQ)=true from by simp)]
 refine wpAny_setField k8 k9 O_ (hQ _ ⟨Inv.O6 (ch:=[T]) I (λb hb=>?_) (λb o hb hc q=>?_) (λb o hc q=>?_),e,C,oe,vs,rfl,h2,h3,h4,h5,h6,h7,(other e (dM k7)).trans h8,h9,iL,jn,T,_,_,k1,k2,k3,k4,k5,k6,k7,
  SA _ k8 (Obj.isFreed_of_fields (a9j k9 _)),a9j k9 _,by simp[O_]⟩)
 ·have:b=T:=by simpa using hb
  subst this
  exact⟨k2,k3,k4,k5,k6⟩
 ·have oO:b≠T:=by simpa using hc
  exact(other b oO).trans q
 ·have oO:b≠T:=by simpa using hc
  exact⟨o.slots,(other b oO).trans q⟩
theorem ZS{L:Addr}(hex:X.ex=[])(mQ:X.stack=X.env::X.outer)(hf:X.env.frame=some L):zb X:=λpins H F r e s' h=>by
 obtain⟨c,Γ',aE,H',F',e1,fl,fo,rl,Ex⟩:=h
 refine Co hex mQ hf fl λs1 f1=>?_
 obtain⟨I,e',C,oe,vs,h1,h2,h3,h4,h5,h6,h7,h8,h9,iL,jn,T,oT,ts,k1,kr⟩:=id f1
 subst h1
 show au _ _ _ _ _ _
 refine aH (oH h8 iL k1 ?_)
 rw[if_neg (show ¬((ft T==qQ)=true) from by simp)]
 rw[hf]
 exact zi f1 λs2 f2=>⟨c,Γ',aE,H',F',e1,f2.here hf,fo,rl,Ex⟩
end
theorem ZT{H:Hp}:aF [] H=H:=by funext b;unfold aF;simp
theorem Pa{K:aA}{H:Hp}{N:List Str}{ds:List D}{vs:List V}(i:ao K H ds vs):Rel K H [] (fc N.length ds) (L2.start N vs):=by
 have hl:=i.length
 have key:∀(j:Nat) (en:En),(fc N.length ds)[j]? = some en->(∃d,en = .ro d/\ds[j]? = some d)∨en = .no:=λj en h=>by
  unfold fc at h
  by_cases hj:j<ds.length
  ·rw[wH (by simpa using hj),eZ,eO hj] at h
   cases h
   exact .inl ⟨_,rfl,eO hj⟩
  ·rw[uA (by simpa using hj),Kr] at h
   split at h
   ·cases h;exact .inr rfl
   ·cases h
 refine⟨?_,λj d h=>?_,λj es h=>?_,λj k es fs a h1 _ _ _=>?_⟩
 ·unfold fc L2.start
  simp[hl]
 ·rcases key j _ h with ⟨d',e,hd⟩ | e
  ·cases e
   obtain⟨v,hv,iv⟩:=i.get hd
   refine⟨v,?_,by rw[ZT];exact iv⟩
   unfold L2.start
   rw[wH (by rw[a6];exact(List.getElem?_eq_some_iff.mp hv).1),eZ,hv];rfl
  ·cases e
 ·rcases key j _ h with ⟨d',e,_⟩ | e<;>cases e
 ·rcases key j _ h1 with ⟨d',e,_⟩ | e<;>cases e
section
variable {P:aQ}{w:aN}{K:aA}{mg:Str->Option Value}{base:Heap}
abbrev i8 (P:aQ) (w:aN) (K:aA) (mg:Str->Option Value) (base:Heap) (N:List Str) (qual:Str) (st:Stmt) (f:Addr) (aY:Value) (A:Around) (outer:List Env) (s:ah) (H:Hp) (E:XK):Cx :=
 uR (mK P w) P w K mg base N qual (aW st) f aY A outer s H E
theorem Pb{N:List Str}{qual:Str}{st:Stmt}{f:Addr}{aY:Value}{A:Around}{outer:List Env}{s s':ah}{H H':Hp}{E:XK}{pins:List (Addr×Obj)}{aE:St}{F':List Addr}{c:Er}{x:Value}
 (fl:pb (i8 P w K mg base N qual st f aY A outer s H E) pins aE H' c x s') (hE:∀C,mg c.nm=some (.ref C)->E (.ref C) none H'):(i8 P w K mg base N qual st f aY A outer s H E).xe x s':=by
 show au _ _ (Sj _ x) _ _ s'
 unfold Sj
 refine aH (Co (L:=s.heap.objs.size) rfl rfl rfl fl λs1 f1=>?_)
 refine zi (fr:=none) f1 λs2 f2=>?_
 obtain⟨I,e,C,oe,vs,h1,h2,h3,h4,h5,h6,h7,h8,h9,iL,jn,T,oT,ts,k1,k2,k3,k4,k5,k6,k7,k8,k9,jo⟩:=f2
 exact⟨e,C,T,oe,oT,vs,ts,H',h1,I.os,I.bare,I.base,I.aK,h3,h4,h8,h9,iL,jn,k1,k2,k3,k7,k8,k9,jo,hE C h2⟩
theorem mR{x qual:Str}{st:Stmt}{f:Addr}{fd:cG}{N ps:List Str}{k:Nat}{φ:List D->R D}(Fu:mf K x qual st f fd)(S:aZ N ps (aW st))(hb:jV K fd ps [])(hlen:∀ds,φ ds ≠ .no->ds.length=ps.length)
 (kY:∀(aY:Value) (A:Around) (outer:List Env) (s:ah) (H:Hp) (E:XK),eh k (i8 P w K mg base N qual st f aY A outer s H E).A->∃g,kc (i8 P w K mg base N qual st f aY A outer s H E) (nD st) g/\∀ds,φ ds ≠ .no->fin (g (fc N.length ds))=φ ds) :
 eN P w K mg base (k+1) f fd ps φ:=by
 refine⟨?_,hb,Fu.kp⟩
 obtain⟨oc,od,kV,doc,pm,an,aY,ct,pX,rfl,lk,dE⟩:=Fu.ex
 refine xy lk dE S (λvs H Q E h=>?_) λA outer s H vs Q E hr dZ=>?_
 ·obtain⟨ds,i,aS,_⟩:=h
  rw[<-i.length];exact hlen ds aS
 obtain⟨g,hq,hg⟩:=kY aY A outer s H E hr
 obtain⟨ds,i,aS,aK,B7⟩:=dZ
 have e0:=hg ds aS
 refine⟨λD' aE H'=>D'={ nx:=λ_ H'=>Q .cH H',rt:=Q }/\aE=L2.start N vs/\H'=H,?_,rfl,rfl,rfl⟩
 intro pins s1 kU H1 D1 I hw
 obtain⟨rfl,rfl,rfl⟩:=hw
 have G5:g (fc N.length ds) ≠ .no:=λz=>aS (by rw[<-e0,z];rfl)
 refine av (hq.run pins s1 (L2.start N vs) H1 [] (fc N.length ds) I bI.nil (Pa i) G5) (λfl s' q=>?_) λx' s' q=>?_
 ·cases fl with
  | next =>
    obtain⟨Γ',e1,aE,H',F',I',_,_,Ex⟩:=q
    exact⟨aE,H',I',aK .cH .cH H' (by rw[<-e0,e1];rfl) Ex.same (Is.B0.mpr rfl)⟩
  | ret u =>
    obtain⟨v,aE,H',F',I',rv,Ex,⟨d,e1,iv⟩ | ⟨es,a,xs,e1,ev,hn,ha,ia⟩⟩:=q
    ·exact⟨v,aE,H',I',rv,aK d v H' (by rw[<-e0,e1];rfl) Ex.same iv⟩
    ·exact absurd (by rw[<-e0,e1];rfl) aS
  | brk=>obtain⟨Γ',e1,_⟩:=q;exact absurd (by rw[<-e0,e1];rfl) aS
  | cont=>obtain⟨Γ',e1,_⟩:=q;exact absurd (by rw[<-e0,e1];rfl) aS
 ·obtain⟨c,Γ',aE,H',F',e1,fl,fo,rl,Ex⟩:=q
  exact Pb (F':=F') fl λC hC=>B7 c C H' (by rw[<-e0,e1];rfl) hC Ex.same
theorem Cp{x qual:Str}{st:Stmt}{f:Addr}{fd:cG}{N ps:List Str}{k:Nat}{φ:List D->R (List D)}(Fu:mf K x qual st f fd)(S:aZ N ps (aW st))(hb:jV K fd ps [])(hlen:∀ds,φ ds ≠ .no->ds.length=ps.length)
 (kY:∀(aY:Value) (A:Around) (outer:List Env) (s:ah) (H:Hp) (E:XK),eh k (i8 P w K mg base N qual st f aY A outer s H E).A->∃g,kc (i8 P w K mg base N qual st f aY A outer s H E) (nD st) g/\∀ds,φ ds ≠ .no->A9 (g (fc N.length ds))=φ ds) :
 mL P w K mg base (k+1) f fd ps φ:=by
 refine⟨?_,hb,Fu.kp⟩
 obtain⟨oc,od,kV,doc,pm,an,aY,ct,pX,rfl,lk,dE⟩:=Fu.ex
 refine xy lk dE S (λvs H Q E h=>?_) λA outer s H vs Q E hr dZ=>?_
 ·obtain⟨ds,i,aS,_⟩:=h
  rw[<-i.length];exact hlen ds aS
 obtain⟨g,hq,hg⟩:=kY aY A outer s H E hr
 obtain⟨ds,i,aS,aK,B7⟩:=dZ
 have e0:=hg ds aS
 refine⟨λD' aE H'=>D'={ nx:=λ_ H'=>Q .cH H',rt:=Q }/\aE=L2.start N vs/\H'=H,?_,rfl,rfl,rfl⟩
 intro pins s1 kU H1 D1 I hw
 obtain⟨rfl,rfl,rfl⟩:=hw
 have G5:g (fc N.length ds) ≠ .no:=λz=>aS (by rw[<-e0,z];rfl)
 refine av (hq.run pins s1 (L2.start N vs) H1 [] (fc N.length ds) I bI.nil (Pa i) G5) (λfl s' q=>?_) λx' s' q=>?_
 ·cases fl with
  | next =>
    obtain⟨Γ',e1,_⟩:=q
    exact absurd (by rw[<-e0,e1];rfl) aS
  | ret u =>
    obtain⟨v,aE,H',F',I',rv,Ex,⟨d,e1,iv⟩ | ⟨es,a,xs,e1,ev,hn,ha,ia⟩⟩:=q
    ·exact absurd (by rw[<-e0,e1];rfl) aS
    ·subst ev
     exact⟨.ref a,aE,H',I',rv,aK es a xs H' (by rw[<-e0,e1];rfl) Ex.same (hn.elim (λz=>absurd z (by simp)) λz=>z) ha ia⟩
  | brk=>obtain⟨Γ',e1,_⟩:=q;exact absurd (by rw[<-e0,e1];rfl) aS
  | cont=>obtain⟨Γ',e1,_⟩:=q;exact absurd (by rw[<-e0,e1];rfl) aS
 ·obtain⟨c,Γ',aE,H',F',e1,fl,fo,rl,Ex⟩:=q
  exact Pb (F':=F') fl λC hC=>B7 c C H' (by rw[<-e0,e1];rfl) hC Ex.same
theorem lM{N:List Str}{qual:Str}{st:Stmt}{f:Addr}{aY:Value}{A:Around}{outer:List Env}{s:ah}{H:Hp}{E:XK}:zb (i8 P w K mg base N qual st f aY A outer s H E):=ZS (L:=s.heap.objs.size) rfl rfl rfl
end
section
variable {X:Cx}{e a b c:Expr}{g ga gb gc:G->R D}{pos p:Pos}
def zj:Expr->Bool
 | .Constant (.int _) _ _=>true
 | _=>false
def ZU:Expr->D
 | .Constant (.int i) _ _=>.int i
 | _=>.cH
theorem ZV{es:List Expr}(h:es.all zj=true:=by rfl):mG X es (λ_=>.ok (es.map ZU)):=by
 induction es with
 | nil=>exact az
 | cons e es ih =>
   have h1:zj e=true/\es.all zj=true:=by simpa using h
   have h2:=ih h1.2
   cases e with
   | Constant c j q =>
     cases c with
     | int i =>
       refine⟨λpos pins s σ H F Γ I fo rl hg=>?_⟩
       exact(ai (X:=X) (e:=.Constant (.int i) j q) aC h2 (by rfl)).run pos pins s σ H F Γ I fo rl (λz=>nomatch z)
     | _=>exact absurd h1.1 (by simp[zj])
   | _=>exact absurd h1.1 (by simp[zj])
theorem ZW{pins:List (Addr×Obj)}{σ:St}{H:Hp}{s:ah}{A:Around}{E:Value->ah->Prop}{Q:Value->ah->Prop}{d:D}{v:V}{u cv:Value}{b:Bool}(I:Inv X pins σ H s)(Cq:d.j0=true)(i:Is X.K H d v)(r:RelV v u)(e:Ah X.K (.type d.ty) cv=some b)(h:∀tk,Q (.bool b) { s with toks:=tk }) :
 au (aB X.prog X.w) A (call (.builtin "isinstance") [u,cv]) Q E s:=by
 cases d with
 | cH=>rw[Is.B0.mp i] at r;cases (show u=qQ from r);exact uJ PySem.W.kitx_none I.fS Di e (λz=>nomatch z) h
 | bl y=>rw[Is.gv.mp i] at r;cases (show u=CZ y from r);exact uJ PySem.W.kitx_bool I.fS Di e (λz=>nomatch z) h
 | int y=>rw[Is.bU.mp i] at r;obtain⟨t,q⟩:=(show ∃t,u=mZ y t from r);cases q;exact uJ PySem.W.kitx_int I.fS Di e (λz=>nomatch z) h
 | str y=>rw[Is.gx.mp i] at r;obtain⟨t,q⟩:=(show ∃t,u=zQ y t from r);cases q;exact uJ PySem.W.kitx_str I.fS Di e (λz=>nomatch z) h
 | tup ds =>
   obtain⟨a,xs,rfl,h1,_⟩:=Is.fB.mp i
   cases (show u=ft a from r)
   obtain⟨its,_,⟨o,ho,hc,_⟩,_⟩:=I.tuple h1
   exact uJ PySem.W.kitx_tuple I.fS ⟨o,ho,hc⟩ e (λz=>nomatch z) h
 | lst ds =>
   obtain⟨a,xs,rfl,h1,_⟩:=Is.fm.mp i
   cases (show u=ft a from r)
   obtain⟨its,_,⟨o,n,ho,hc,_⟩,_⟩:=I.list h1
   exact uJ PySem.W.kitx_list I.fS ⟨o,ho,hc⟩ e (λz=>nomatch z) h
 | jX =>
   obtain⟨a,ob,rfl,h1,h2⟩:∃a ob,v=V.ref a/\H a=some (.gq ob (.own 0))/\ob.cls = .type "dict":=by unfold Is at i;exact i
   cases (show u=ft a from r)
   exact uJ PySem.W.kitx_dict I.fS ⟨ob,(I.aK a _ h1).1,h2⟩ e (λz=>nomatch z) h
 | exc c=>simp[D.j0] at Cq
theorem G6{y:Str}{py:Pos}{cv:Value}(f:String->Bool)(ha:PD X a ga)(hm:X.mg "isinstance"=none)(hb:∀{E:Value->ah->Prop} {pins σ H s} {Q:Value->ah->Prop},Inv X pins σ H s->Q cv s->au (aB X.prog X.w) X.A (eval (.Name y py) X.env) Q E s)
 (hk:∀d:D,d.j0=true->Ah X.K (.type d.ty) cv=some (f d.ty)) (hg:Gl X "isinstance":=by rfl)
 (he:aV [a,.Name y py] X.env=(false,eval a X.env)::(false,eval (.Name y py) X.env)::[]:=by rfl) (gJ:(cC pos (aV [.Name y py] X.env)).any (·.1)=false:=by rfl) (tR:aV [.Name y py] X.env=[(false,eval (.Name y py) X.env)]:=by rfl) :
 PD X (.Call (.Name "isinstance" p) [a,.Name y py] [] pos) (xJ f ga):=by
 refine⟨λpins s σ H F Γ I fo rl bZ=>?_⟩
 refine l8 (iA I hg hm (by decide +kernel:lU "isinstance"=some (.builtin "isinstance")) ?_ (by decide) (by decide))
 refine K2 ?_ (by rw[he,tR]) gJ
 rw[he]
 show au _ _ (eE ((false,eval a X.env)::cC pos [(false,eval (.Name y py) X.env)])) _ _ s
 refine fw (av (ha.run pins s σ H F Γ I fo rl (R.left bZ)) (λu s1 ⟨d,v,H1,e1,I1,r1,S1,i1⟩=>?_) λ_ _ x=>x.bind _)
 show au _ _ (eE ((false,eval (.Name y py) X.env)::cC pos [])) _ _ s1
 refine fw (hb I1 (h_ ?_))
 obtain⟨Cq,e2⟩:=We (R.next bZ e1)
 exact ZW I1 Cq i1 r1 (hk d Cq) λtk=>dg.bind e1 S1 ⟨.bl (f d.ty),.bl (f d.ty),H1,e2,I1.tok _,rfl,.refl _,Is.gv.mpr rfl⟩
theorem ZX{K:aA}(d:D)(h:d.j0=true):Ah K (.type d.ty) (.type "int")=some (A2 d.ty):=by cases d<;>first | rfl | (simp[D.j0] at h)
theorem ZY{K:aA}(d:D)(h:d.j0=true):Ah K (.type d.ty) (.type "bool")=some (A3 d.ty):=by cases d<;>first | rfl | (simp[D.j0] at h)
theorem ZZ{K:aA}(d:D)(h:d.j0=true):Ah K (.type d.ty) (.type "str")=some (A4 d.ty):=by cases d<;>first | rfl | (simp[D.j0] at h)
theorem qD{x:Str}{i:Int}{u:Value}(hm:X.mg x=some u)(hu:∃t,u = .int i t)(hg:Gl X x:=by rfl)(hd:(x==("__debug__":Str))=false:=by decide):PD X (.Name x pos) (gC (.int i)) :=
 OO hg hm (v:=.int i) hu (λ_=>Is.bU.mpr rfl) hd
end
theorem mL.mono{P:aQ}{w:aN}{K:aA}{mg:Str->Option Value}{base:Heap}{j k:Nat}{f:Addr}{fd:cG}{ps:List Str}{φ:List D->R (List D)}(F:mL P w K mg base j f fd ps φ)(h:j<=k):mL P w K mg base k f fd ps φ:=⟨F.ok.mono h,F.binds,F.kp⟩
def v8(φ:List D->R D)(K:aA):Sp:=λvs H Q _=>∃ds d,ao K H ds vs/\φ ds = .ok d/\(∀v H',aO H H'->Is K H' d v->Q v H')
theorem Z0{φ:List D->R D}{K:aA}{mg:Str->Option Value}{vs:List V}{H:Hp}{Q:VK}{E:XK}(h:v8 φ K vs H Q E):yZ K mg φ vs H Q E:=by
 obtain⟨ds,d,i,e,q⟩:=h
 exact⟨ds,i,(by rw[e];exact(λz=>nomatch z)),(λd' v H' e' S iv=>by rw[e] at e';cases e';exact q v H' S iv),(λc C H' e'=>by rw[e] at e';cases e')⟩
theorem eN.okN{P:aQ}{w:aN}{K:aA}{mg:Str->Option Value}{base:Heap}{k:Nat}{f:Addr}{fd:cG}{ps:List Str}{φ:List D->R D}(F:eN P w K mg base k f fd ps φ):ja P w K mg base (mK P w) k f fd ps (v8 φ K) :=
 F.ok.imp λ_ _ _ _ h=>Z0 h
theorem Z1{c:List D->R D}(hc:∀ns:List Int,ns.length<=63->c [.lst (ns.map D.int)] = .ok (.bl true)){K:aA}{H:Hp}{a:Addr}{ns:List Int}(hl:ns.length<=63)(hS:b9 K H a (ns.map V.int)):v8 c K [.ref a] H (λv _=>v = .bl true) λ_ _ _=>False :=
 ⟨[.lst (ns.map D.int)],.bl true,ao.cons (Is.fm.mpr ⟨a,_,rfl,hS,ao.ints ns⟩) ao.nil,hc ns hl,λv H' _ iv=>Is.gv.mp iv⟩
theorem Z2{P:aQ}{w:aN}{H:Hp}{s:ah}{e:Value}{s':ah}(h:mK P w [] H s (λ_ _ _=>False) e s'):False:=by
 obtain⟨_,_,_,_,_,_,_,_,_,_,_,_,_,_,_,_,_,_,_,_,_,_,_,_,_,_,z⟩:=h
 exact z
theorem Z3{l:a8h}{n k:Nat}{q:aQ}{loose:List Str}{XP:(Str->Option Value)->Heap->Prop}{YP:aN->Heap->Prop}{d:DefRec}{K:qV->aA}{CX:aN->kX}(sp:aA->Sp){x:Str}
 (hn:l.most=some n) (AJ:n<=bR) (xC:d.params.defaults=[]) (hr:eh k uC)
 (hY:∀(w:aN) (h:Heap),YP w h->(K w.params).In h)
 (F:∀(w:aN) (mg:Str->Option Value) (fa:Addr) (h:Heap),(K w.params).In h->h.Ns cQ mg->mg d.name=some (.ref fa) ->
   ∃fd:cG,(∀(s:ah) (u:Value),BindsTo s fd ⟨[u],[]⟩ [(x,u)]) /\
    ∀base:Heap,(K w.params).In base->base.Ns cQ mg->ja l.prog w (K w.params) mg base (CX w) k fa fd [x] (sp (K w.params)))
 (dZ:∀(K:aA) (H:Hp) (a:Addr) (ns:List Int),ns.length<=n->b9 K H a (ns.map V.int)->sp K [.ref a] H (λv _=>v = .bl true) λ_ _ _=>False)
 (xD:∀(w:aN) (H:Hp) (s:ah) (e:Value) (s':ah),CX w [] H s (λ_ _ _=>False) e s'->False) :
 PySem.W.WalkO q loose XP YP l.row.toRowW d [] (λf vs=>SH f vs) :=
 Ml (K:=K) (CX:=CX) (sp:=λw=>sp (K w.params)) hn AJ xC hr hY F (λw H a ns h1 _ h3=>dZ (K w.params) H a ns h1 h3) xD
end L3
namespace L3
open PySem PySem.Spec PyProof.Rows L2
def Cr(lo st:Int)(n:Nat):It:=⟨λi _=>i<n,λi H x H'=>H'=H/\x = .int (lo+st*(i:Int)),λi _=>n<=i⟩
theorem Z4{P:aQ}{w:aN}{K:aA}{tg:Expr}(it:Addr)(lo st:Int)(n:Nat):Turn P w K tg (Cr lo st n) [it] it (λi h=>Ko h it (lo+(i:Nat)*st) ((n:Int)-(i:Nat)) st) where
 mem:=by simp
 obj:=λi h st b hb=>by
  have e:b=it:=by simpa using hb
  subst e
  exact⟨_,st,λv z=>by
   have z':Se _=Sf v:=z
   cases z'⟩
 keep:=λi h h' st k=>k it (by simp) _ st
 item:=by
  intro X hP hw hK hc i pins s σ H E I hf sx hg
  subst hP hw hK
  obtain⟨f0,f1,f2,f3,f4,f5⟩:=hf it (by simp)
  have W:=Walks.range (prog:=X.prog) (w:=X.w) (I.ok.hd hc) it lo st n
  refine W.item i s _ _ hg sx λv h' tk hv ib kk=>?_
  obtain⟨t,rfl⟩:=hv
  have I1:Inv X pins σ H { s with heap:=h',toks:=tk }:=I.turned (λb o hb e=>kk b o (by simpa using hb) e) f0 f1 f3 f4 f5
  refine⟨_,rfl,uO (s:={ s with heap:=h',toks:=tk }) (n:="range_iterator") ib rfl rfl (by decide) ⟨.int (lo+st*i),H,I1,⟨t,?_⟩,⟨rfl,rfl⟩,ib,λb hb=>(hf b hb).1⟩⟩
  rw[KG]
 done:=by
  intro X hP hw hK hc i pins s σ H E I hf sx hg
  subst hP hw hK
  obtain⟨f0,f1,f2,f3,f4,f5⟩:=hf it (by simp)
  exact a7q (I.ok.hd hc) sx (by have:n<=i:=hg;lia) λh' eb=>⟨rfl,I.turned (t':=s.toks) (λb o hb e=>eb b o hb e) f0 f1 f3 f4 f5⟩
 self:=λ_ _ _ _ _ st h=>a7r st h
theorem Cs{a b c:Int}(hc:0<c):zT a b c=((kv a b c:Nat):Int):=by
 unfold zT kv
 rw[if_pos hc]
 by_cases h:a<b
 ·rw[if_pos h,show b-a+c-1=(b-a-1)+c*1 by lia,Int.add_mul_ediv_left _ _ (by lia)]
  have:0<=(b-a-1)/c:=a8n (by lia) (by lia)
  lia
 ·rw[if_neg h]
  have h1:(b-a+c-1)/c<=0:=by
   have:(b-a+c-1)/c<=(c-1)/c:=Int.ediv_le_ediv hc (by lia)
   have h2:(c-1)/c=0:=a9k (by lia) (by lia)
   lia
  lia
theorem Z5{a b c:Int}(hc:0<c)(h:a<=b):((kv a b c:Nat):Int)<=b-a:=by
 rw[<-Cs hc]
 unfold zT
 rw[if_pos hc]
 by_cases h:a<b
 ·rw[if_pos h]
  have:=a8o (a:=b-a-1) c (by lia)
  lia
 ·rw[if_neg h];lia
theorem Z6{a b c:Int}(ha:-1073741824<=a)(MM:a<1073741824)(hb:-1073741824<=b)(xR:b<1073741824)(hc:0<c)(oO:c<1073741824):a9l a b c=true:=by
 unfold a9l
 have hs:((kv a b c:Nat):Int)<=4294967296:=by
  by_cases h:a<=b
  ·have:=Z5 hc h;lia
  ·rw[<-Cs hc]
   unfold zT
   rw[if_pos hc,if_neg (by lia)];lia
 rw[Cs hc]
 generalize kv a b c=n at *
 simp only[Builtin.Range.rangeFitsLong,ir,wW,decide_eq_true_eq,beq_iff_eq,if_pos (show c>0 from hc)]
 lia
section
variable {X:Cx}{tg a b c:Expr}{ga gb gc:G->R D}
theorem Z7{pins:List (Addr×Obj)}{σ:St}{H:Hp}{s:ah}{R:It->Hp->Prop}{E:Value->ah->Prop}{lo hi st:Int}{t u v:Tok}{tk:Nat}(I:Inv X pins σ H s)(h1:-1073741824<=lo)(h2:lo<1073741824)(h3:-1073741824<=hi)(h4:hi<1073741824)(h5:0<st)(h6:st<1073741824)
 (q:R (Cr lo st (kv lo hi st)) H):au (aB X.prog X.w) X.A (qS (.ref s.heap.objs.size)) (DJ X pins σ tg R) E { s with heap:=s.heap.push { cls:=.type "range",data:=.fields #[.int lo t,.int hi u,.int st v] },toks:=tk }:=by
 refine a7s (IsRange.new ..) (Z6 h1 h2 h3 h4 h5 h6) ?_
 have I1:Inv X pins σ H { s with heap:=s.heap.push { cls:=.type "range",data:=.fields #[.int lo t,.int hi u,.int st v] },toks:=tk }:=I.kept λb o e=>cX _ e
 refine⟨(s.heap.push { cls:=.type "range",data:=.fields #[.int lo t,.int hi u,.int st v] }).objs.size,[(s.heap.push { cls:=.type "range",data:=.fields #[.int lo t,.int hi u,.int st v] }).objs.size],_,_,H,rfl,
  I1.kept (t':=tk) λb o e=>cX _ e,Z4 _ lo st (kv lo hi st),?_,λb hb=>?_,q⟩
 ·have e1:lo+((0:Nat):Int)*st=lo:=by simp
  have e2:((kv lo hi st:Nat):Int)-((0:Nat):Int)=zT lo hi st:=by rw[Cs h5];lia
  show Ko _ _ (lo+((0:Nat):Int)*st) (((kv lo hi st:Nat):Int)-((0:Nat):Int)) st
  rw[e1,e2]
  exact fu _ rfl
 ·have e:b=(s.heap.push { cls:=.type "range",data:=.fields #[.int lo t,.int hi u,.int st v] }).objs.size:=by simpa using hb
  subst e
  exact I1.sN (a7 _) (I1.aK.fresh (a7 _))
theorem Z8(lo st:Int)(n:Nat):(lg lo st n).length=n:=by unfold lg;simp
theorem Z9{K:aA}{H:Hp}{F:List Addr}(lo st:Int)(n:Nat):JD K H F (Cr lo st n) (lg lo st n):=λH1 S=>by
 rw[Z8]
 refine⟨λj hj=>⟨hj,λx H2 y=>⟨y.1,.int (lo+st*(j:Int)),by unfold lg;simp[hj],λF' _=>?_⟩⟩,a7 _⟩
 exact Is.bU.mpr y.2
theorem Z_{p pos:Pos}(ha:PD X a ga)(hb:PD X b gb)(hc:PD X c gc)(hm:X.mg "range"=none)(hg:Gl X "range":=by rfl)(hs:aV [a,b,c] X.env=[(false,eval a X.env),(false,eval b X.env),(false,eval c X.env)]:=by rfl)(r_:aV [b,c] X.env=[(false,eval b X.env),(false,eval c X.env)]:=by rfl) :
 vU X tg (.Call (.Name "range" p) [a,b,c] [] pos) (Ef ga gb gc):=by
 refine⟨λpins s σ H F Γ I fo rl bZ=>?_⟩
 refine wZ (iA I hg hm K4 (pM ?_ (by rw[hs,r_]) (by rw[r_];rfl)))
 rw[hs]
 show au _ _ (eE ((false,eval a X.env)::cC pos [(false,eval b X.env),(false,eval c X.env)])) _ _ s
 refine fw (av (ha.run pins s σ H F Γ I fo rl (R.left bZ)) (λu s1 ⟨d,v,H1,e1,I1,r1,S1,i1⟩=>?_) λ_ _ x=>x.bind _)
 have aJ:=R.next bZ e1
 show au _ _ (eE ((false,eval b X.env)::cC pos [(false,eval c X.env)])) _ _ s1
 refine fw (av (hb.run pins s1 σ H1 F Γ I1 (fo.same S1) (rl.same S1) (R.left aJ)) (λu2 s2 ⟨d2,v2,H2,e2,I2,r2,S2,i2⟩=>?_) λ_ _ x=>bY.later e1 S1 (x.bind _))
 have dt:=R.next aJ e2
 show au _ _ (eE ((false,eval c X.env)::cC pos [])) _ _ s2
 refine fw (av (hc.run pins s2 σ H2 F Γ I2 ((fo.same S1).same S2) ((rl.same S1).same S2) (R.left dt)) (λu3 s3 ⟨d3,v3,H3,e3,I3,r3,S3,i3⟩=>h_ ?_) λ_ _ x=>bY.later e1 S1 (bY.later e2 S2 (x.bind _)))
 have lO:=R.next dt e3
 cases d with
 | int i =>
   cases d2 with
   | int j =>
     cases d3 with
     | int k =>
       obtain⟨⟨⟨h1,h2⟩,⟨h3,h4⟩,h5,h6⟩,e4⟩:=R.cT (show R.guard ((-1073741824<=i/\i<1073741824)/\(-1073741824<=j/\j<1073741824)/\0<k/\k<1073741824) (.ok (lg i k (kv i j k))) ≠ .no from lO)
       rw[Is.bU.mp i1] at r1
       rw[Is.bU.mp i2] at r2
       rw[Is.bU.mp i3] at r3
       obtain⟨t,rfl⟩:=(show ∃t,u=mZ i t from r1)
       obtain⟨t',rfl⟩:=(show ∃t,u2=mZ j t from r2)
       obtain⟨t'',rfl⟩:=(show ∃t,u3=mZ k t from r3)
       refine call_range_3 (by lia) (fE (Z7 (tg:=tg) (R:=λJ H'=>J=Cr i k (kv i j k)/\H'=H3) I3 h1 h2 h3 h4 h5 h6 ⟨rfl,rfl⟩) λkW s4 ⟨it,fp,tn,J,H',ei,I4,T,t0,fk,eJ,eH⟩=>?_) (.inl (a7u (by lia)))
       subst eJ eH
       exact⟨_,it,fp,tn,_,H',(R.step e1 _).trans ((R.step e2 _).trans ((R.step e3 _).trans e4)),ei,I4,(S1.trans S2).trans S3,T,t0,fk,Z9 i k _⟩
     | _=>exact absurd rfl lO
   | _=>exact absurd rfl lO
 | _=>exact absurd rfl lO
end
section
variable {prog:aQ}{w:aN}{A:Around}{E:Value->ah->Prop}{s:ah}
open HT in
theorem z9l{t sl:Addr}{items:Array Value}{vl vu:Value}{lo hi:Option Int}{Q:Value->ah->Prop}(ht:sj s.heap t items)(hs:s.heap.IsSliceOf sl vl vu .none)(pl:qT vl lo)(pu:qT vu hi)
 (hw:HT.bA items.size 0 lo=0/\HT.bA items.size items.size hi=items.size) (h:Q (.ref t) s):au (aB prog w) A (wI (.ref t) (.ref sl)) Q E s:=by
 obtain⟨os,sQ,sR,xA⟩:=id hs
 have DN:s.TypeIs (.ref sl) "slice":=⟨os,sQ,sR⟩
 unfold wI
 try with_reducible refine l0 ?_
 first | refine aH (bS ?_) | skip
 refine aH (a8c ht.typeIs (by decide) ?_)
 refine aH (Kv (name:=iR "__getitem__") ht.typeIs Kw
  (zV Kw ht.typeIs a8d ?_ (a8e _ _)))
 show au _ _ (Su (.ref t)>>=_) _ _ s
 refine aH (tupleItemsOf_ ht ?_)
 refine aH (Kx DN ?_)
 rw[if_pos (by decide)]
 refine aH (L5 hs pl pu ?_)
 have a0a:(((HT.bA items.size 0 lo:Nat):Int)==0&&(1:Int)==1&&(HT.bA items.size items.size hi-HT.bA items.size 0 lo)==items.size)=true:=by
  rw[hw.1,hw.2];simp
 show au _ _ (if (((HT.bA items.size 0 lo:Nat):Int)==0&&(1:Int)==1&&(HT.bA items.size items.size hi-HT.bA items.size 0 lo)==items.size)=true then _ else _) _ _ s
 rw[if_pos a0a]
 unfold Builtin.Tuple.tupleIsExact
 refine aH (aH (Kx ht.typeIs ?_))
 refine bS ?_
 rw[if_pos (by decide)]
 exact aH (Lh (bS ⟨_,rfl,bS h⟩))
end
section
variable {X:Cx}{e a b c:Expr}{g ga gb gc:G->R D}{lo hi:Option Expr}{gl gh:G->R (Option Int)}{pos p2:Pos}
def a0b(K:aA):V->Option Int->Option Int->Hp->VK->Prop:=λx lo hi H Q=>∃a xs,x = .ref a/\cy K H a xs/\(HT.bA xs.length 0 lo=0/\HT.bA xs.length xs.length hi=xs.length)/\Q (.ref a) H
theorem w1u:oS X (a0b X.K):=by
 intro pins s σ H x v vl vu lo hi sl Q I rx hs pl pu h
 obtain⟨a,xs,rfl,hx,hw,q⟩:=h
 cases rx
 obtain⟨its,r,ht,hz⟩:=I.tuple hx
 have hlen:its.toArray.size=xs.length:=by rw[cY];exact r.length.symm
 refine⟨"tuple",_,PyProof.Rows.slot_tuple_getitem.lookup,ht.typeIs,?_⟩
 exact z9l ht hs pl pu (by rw[hlen];exact hw) ⟨.ref a,H,I,rfl,q⟩
structure si (X:Cx) (e:Option Expr) (g:G->R (Option Int)):Prop where
 run:∀(pins:List (Addr×Obj)) (s:ah) (σ:St) (H:Hp) (F:List Addr) (Γ:G),Inv X pins σ H s->bI H F->Rel X.K H F Γ σ->g Γ ≠ .no ->
  au (aB X.prog X.w) X.A (evalPart e X.env) (λu s'=>∃o H',g Γ = .ok o/\Inv X pins σ H' s'/\qT u o/\aO H H') (bY X pins σ H (g Γ)) s
theorem uf:si X none p6:=⟨λpins s σ H F Γ I fo rl hg=>by
 rw[evalPart_none]
 exact bS ⟨none,H,rfl,I,.none,.refl _⟩⟩
theorem qE(h:PD X e g):si X (some e) (nK g):=⟨λpins s σ H F Γ I fo rl hg=>by
 rw[evalPart_some]
 refine av (h.run pins s σ H F Γ I fo rl (R.left hg)) (λu s1 ⟨d,x,H1,e1,I1,r1,S1,i1⟩=>?_) λ_ _ x=>x.bind _
 have aJ:=R.next hg e1
 cases d with
 | int i =>
   rw[Is.bU.mp i1] at r1
   obtain⟨t,rfl⟩:=(show ∃t,u=mZ i t from r1)
   exact⟨some i,H1,R.step e1 _,I1,.int i t,S1⟩
 | _=>exact absurd rfl aJ⟩
theorem ao.cut{K:aA}{H:Hp}{ds:List D}{xs:List V}(h:ao K H ds xs)(lo hi:Option Int):ao K H (gN ds lo hi) (kZ xs lo hi):=by
 have hl:=h.length
 unfold gN kZ
 rw[hl]
 exact(h.drop _).take _
theorem Pc{r:V->Option Int->Option Int->Hp->VK->Prop}(hr:oS X.bT r)(ha:PD X a ga)(hl:si X lo gl)(hh:si X hi gh){pins:List (Addr×Obj)}{s:ah}{σ:St}{H:Hp}{F:List Addr}{Γ:G}(I:Inv X pins σ H s)(fo:bI H F)(rl:Rel X.K H F Γ σ)
 {α:Type} {rr:R α} {k:D->Option Int->Option Int->R α} (hrr:rr=(ga Γ>>=λd=>gl Γ>>=λl=>gh Γ>>=λh=>k d l h)) (hg:rr ≠ .no) {Q:Value->ah->Prop}
 (hq:∀d x l h H3,k d l h ≠ .no->rr=k d l h->aO H H3->Is X.K H3 d x->bI H3 F->Rel X.K H3 F Γ σ->r x l h H3 λz H'=>∀u s',Inv X pins σ H' s'->RelV z u->Q u s') :
 au (aB X.prog X.w) X.A (eval (.Subscript a (.Slice lo hi none p2) pos) X.env) Q (bY X pins σ H rr) s:=by
 subst hrr
 refine K1 (av (ha.run pins s σ H F Γ I fo rl (R.left hg)) (λv s1 ⟨d,x,H1,e1,I1,r1,S1,i1⟩=>?_) λ_ _ x=>x.bind _)
 have aJ:=R.next hg e1
 refine wpAny_Slice (av (hl.run pins s1 σ H1 F Γ I1 (fo.same S1) (rl.same S1) (R.left aJ)) (λvl s2 ⟨l,H2,e2,I2,pl,S2⟩=>?_) λ_ _ x=>bY.later e1 S1 (x.bind _))
 have dt:=R.next aJ e2
 refine av (hh.run pins s2 σ H2 F Γ I2 ((fo.same S1).same S2) ((rl.same S1).same S2) (R.left dt)) (λvu s3 ⟨h,H3,e3,I3,pu,S3⟩=>?_) λ_ _ x=>bY.later e1 S1 (bY.later e2 S2 (x.bind _))
 have lO:=R.next dt e3
 have G7:=(S1.trans S2).trans S3
 rw[evalPart_none]
 refine bS ?_
 have I4:Inv X pins σ H3 { s3 with heap:=s3.heap.push { cls:=.type "slice",data:=.fields #[vl,vu,.none] } }:=I3.kept (t':=s3.toks) λb ob q=>cX _ q
 obtain⟨T,id,hT,ht,hgi⟩:=hr pins { s3 with heap:=s3.heap.push { cls:=.type "slice",data:=.fields #[vl,vu,.none] } } σ H3 x v vl vu l h s3.heap.objs.size _ (I4.dm _) r1 (Heap.IsSliceOf.new ..) pl pu (hq d x l h H3 lO ((R.step e1 _).trans ((R.step e2 _).trans (R.step e3 _))) G7 ((i1.same S2).same S3) (fo.same G7) (rl.same G7))
 show au (aB X.prog X.w) X.A (subscriptTail a (.Slice lo hi none p2) v (.ref s3.heap.objs.size)) _ _ { s3 with heap:=s3.heap.push { cls:=.type "slice",data:=.fields #[vl,vu,.none] } }
 refine tail_any (ops:=[.ref s3.heap.objs.size,v]) ht hT (av hgi (λu s5 ⟨z,H5,I5,rz,q5⟩=>q5 u s5 I5.eQ rz) λ_ _ z=>b6 z) (by with_unfolding_all rfl)
theorem ug(ha:PD X a ga)(hl:si X lo gl)(hh:si X hi gh):PD X (.Subscript a (.Slice lo hi none p2) pos) (p7 ga gl gh):=⟨λpins s σ H F Γ I fo rl hg =>
 Pc (oS.or (oS.or U8 w1u) Ma) ha hl hh I fo rl (k:=AS) rfl hg λd x l h H3 hk er S i zd Cm=>by
  cases d with
  | tup ds =>
    obtain⟨p,xs,rfl,h1,h2⟩:=Is.fB.mp i
    by_cases hw:HT.bA xs.length 0 l=0/\HT.bA xs.length xs.length h=xs.length
    ·refine .inl (.inr ⟨p,xs,rfl,h1,hw,λu s' I' rz=>⟨_,.ref p,H3,er,I',rz,S,Is.fB.mpr ⟨p,xs,rfl,h1,?_⟩⟩⟩)
     have:=h2.cut l h
     unfold kZ at this
     rw[hw.1,hw.2,zY,SJ,wN] at this
     exact this
    ·refine .inl (.inl ⟨p,xs,rfl,h1,hw,λq hq u s' I' rz=>?_⟩)
     have S2:=gP hq (.tup (kZ xs l h))
     exact⟨_,.ref q,_,er,I',rz,S.trans S2,Is.fB.mpr ⟨q,_,rfl,cy.of dc,(h2.cut l h).same S2⟩⟩
  | lst ds =>
    obtain⟨p,xs,rfl,h1,h2⟩:=Is.fm.mp i
    refine .inr ⟨p,xs,rfl,h1,λq hq u s' I' rz=>?_⟩
    have S2:=gP hq (.lst (kZ xs l h))
    exact⟨_,.ref q,_,er,I',rz,S.trans S2,Is.fm.mpr ⟨q,_,rfl,b9.of dc,(h2.cut l h).same S2⟩⟩
  | _=>exact absurd rfl hk⟩
theorem w7o(ha:PD X a ga)(hl:si X lo gl)(hh:si X hi gh):PF X (.Subscript a (.Slice lo hi none p2) pos) (D_ ga gl gh):=⟨λpins s σ H F Γ I fo rl hg =>
 Pc Ma ha hl hh I fo rl (k:=AU) rfl hg λd x l h H3 hk er S i zd Cm=>by
  cases d with
  | lst ds =>
    obtain⟨p,xs,rfl,h1,h2⟩:=Is.fm.mp i
    refine⟨p,xs,rfl,h1,λq hq u s' I' rz=>?_⟩
    have S2:=gP hq (.lst (kZ xs l h))
    obtain⟨hn,e5⟩:=R.cT (show R.guard (D.a_ (gN ds l h)=true) (R.ok (gN ds l h))≠R.no from hk)
    exact⟨gN ds l h,q,kZ xs l h,_,er.trans e5,I',rz,S.trans S2,S.free hq,dc,ao.aF ((zd.same S2).cons dc) _ _ hn ((h2.cut l h).same S2)⟩
  | _=>exact absurd rfl hk⟩
end
end L3
namespace L3
open PySem PySem.Spec PyProof.Rows L2
section
variable {prog:aQ}{w:aN}{A:Around}{E:Value->ah->Prop}{s:ah}
end
section
variable {X:Cx}{e:Expr}{g:G->R D}{pos pt:Pos}
end
def G8:List Value:=[.type "ValueError",.type "Exception",.type "BaseException",.type "object"]
def w6x(h:Heap)(C:Addr):Prop:=∃bm N nm q bs hdct sn sub ab col dd k0 k1 k2 k3 k5 mN,h.get? C=some (excClassObj nm q C N bs bm hdct sn sub ab col dd k0 k1 k2 k3 k5 "ValueError.__new__")/\h.Ns N mN/\mN "__init__"=none/\OwnTail h G8 bm
theorem x6r{K:aA}{h:Heap}{C:Addr}(X:K.In h)(q:Tt K C G8 "ValueError.__new__"=true):w6x h C:=by
 unfold Tt at q
 cases e:K.lookup C with
 | none=>rw[e] at q;cases q
 | some o =>
   rw[e] at q
   obtain⟨cls,dd,data,sl⟩:=o
   split at q
   ·rename_i heq
    obtain⟨rfl,rfl,rfl,rfl⟩:cls=_/\dd=_/\data=_/\sl=_:=by
     have z:=kK heq
     injection z with z1 z2 z3 z4
     exact⟨z1,z2,z3,z4⟩
    split at q
    ·rename_i hm hs
     rename_i cd xa xb C' bm k0 k1 k2 k3 n k5
     simp only[ir,beq_iff_eq,Bool.not_eq_true'] at q
     obtain⟨⟨⟨⟨⟨q1,q2⟩,q3⟩,q4⟩,q5⟩,q6⟩:=q
     obtain⟨nm,bs,mro,ns,qn,hd,sn,sub,ab,col,del⟩:=cd
     subst q1 q2
     have h1:mro = .ref C'::bm:=hm
     have h2:del=false:=q3
     subst h1 h2
     have h3:sl=#[k0,k1,k2,k3,some (.builtin "ValueError.__new__"),k5]:=by
      cases sl with | mk l=>exact congrArg Array.mk hs
     subst h3
     exact⟨bm,ns,nm,qn,bs,hd,sn,sub,ab,col,dd,k0,k1,k2,k3,k5,_,X _ _ e,.of_isNs (PySem.W.isNs_of_in X q5),PySem.W.nsMap_none_of_in X q5 q6,PySem.W.tail_of_in X q4⟩
    ·cases q
   ·cases q
structure oz (K:aA) (mg:Str->Option Value) (c:Er) (C:Addr):Prop where
 ns:fv K cQ c.nm=some (some (.ref C))
 mg:mg c.nm=some (.ref C)
 ex:Tt K C G8 "ValueError.__new__"=true
section
variable {X:Cx}{e:Expr}{g:G->R D}{pos np cD:Pos}
theorem w8h{pins:List (Addr×Obj)}{σ:St}{H:Hp}{s:ah}{q:Addr}(I:Inv X pins σ H s)(hq:s.heap.get? q=none):H q=none:=by
 cases e:H q with
 | none=>rfl
 | some o=>obtain⟨ob,h⟩:=O5 (I.aK q o e);rw[hq] at h;cases h
theorem iN{c:Er}{C:Addr}{x:Str}{d:D}(hX:oz X.K X.mg c C)(he:PD X e (gC d))(hc:X.calm=true)(hex:X.ex=[]:=by rfl)(hxn:x=c.nm:=by rfl)(hg:Gl X x:=by rfl)(g_:(x==("__debug__":Str))=false:=by decide)
 (hs:aV [e] X.env=(false,eval e X.env)::aV [] X.env:=by rfl):PQ X (.Raise (some (.Call (.Name x np) [e] [] cD)) none pos) (gY c):=by
 refine⟨λpins s σ H F Γ I fo rl _=>?_⟩
 subst hxn
 obtain⟨bm,N,nm,q,bs,hdct,sn,sub,ab,col,dd,k0,k1,k2,k3,k5,mN,hC,hN,hni,T⟩:=x6r I.mod.pS hX.ex
 refine wpAny_Raise_call_subT (C:=C) (nm:=nm) (q:=q) (N:=N) (bs:=bs) (bm:=bm) (hdct:=hdct) (sn:=sn) (sub:=sub) (ab:=ab) (col:=col) (dd:=dd) (k0:=k0) (k1:=k1) (k2:=k2) (k3:=k3) (k5:=k5)
  PySem.F.excBase_ValueError (mN:=mN) (T.hasType PySem.F.excBase_ValueError.hasBase) (I.ok.hd hc) (by rw[hs];rfl) hni (oP I hg hX.mg ⟨rfl,?_⟩ g_)
 rw[hs]
 refine xc (fw (av (he.run pins s σ H F Γ I fo rl (λz=>nomatch z)) (λu s1 ⟨d',v,H1,e1,I1,r1,S1,i1⟩=>h_ ?_) λx s1 ⟨c',H',e',_⟩=>by cases e'))
 refine⟨rfl,by show 1<=bR;decide,I1.bk _ _ hC,hN.keeps I1.bk,T.keeps I1.bk,λh' en M=>?_⟩
 obtain⟨t,hte,ht0,ht1⟩:=M.there
 have I2:Inv X pins σ H1 { s1 with heap:=h' }:=I1.kept (t':=s1.toks) λb o q=>M.keeps b o q
 obtain⟨g1,g2,g3,g4⟩:=I1.gone hex M.new
 exact⟨c,Γ,σ,H1,F,rfl,⟨I2,en,C,_,_,rfl,hX.mg,w8h I1 M.new,g1,g2,g3,g4,hte,rfl,rfl,⟨_,rfl⟩,.inl rfl⟩,fo.same S1,rl.same S1,.of_same S1⟩
end
section
variable {K:aA}{M:oB}{A:Around}{E:Value->ah->Prop}{s:ah}
theorem y5z{e B C:Addr}{oe:Obj}{Q:Bool->ah->Prop}(X:K.In s.heap)(he:s.heap.get? e=some oe)(hc:oe.cls = .ref C)(h1:a9m K (.ref B)=some (.type "type"))(h2:(Li K B).isSome=true)
 (h3:uu K B (.type "BaseException")=some true) (h4:uu K C (.ref B)=some true) (hq:Q true s):au M A (excMatches (.ref e) (.ref B)) Q E s:=by
 obtain⟨h,g,d,t,os⟩:=s
 have L1:=PySem.W.looks_typeIn (M:=M) X h1
 have L3:=Lj (M:=M) X h3
 have L4:=Lj (M:=M) X h4
 have f:=tc_notTuple
 obtain⟨c',d',cd,rh,hB⟩:∃c' d' cd rh,h.get? B=some ⟨c',d',.cls cd,rh⟩:=by
  unfold Li at h2
  split at h2
  ·rename_i ho;exact⟨_,_,_,_,X _ _ ho⟩
  ·cases h2
 unfold excMatches
 repeat (first | (with_reducible refine xf he ?_;rw[hc]) | with_reducible refine xf hB ?_ | with_reducible refine L1.at ?_ | with_reducible refine L3.at ?_ | with_reducible refine L4.at ?_ | wp_step)
 exact hq
end
structure jN (K:aA) (C:Addr):Prop where
 ga:ur K (.ref C) "__getattribute__"=some (some (.builtin "BaseException.__getattribute__"))
 gn:ur K (.ref C) "__getattr__"=some none
 cl:ur K (.ref C) "__class__"=some (some (.builtin "object.__class__"))
 mo:uu K C (.type "object")=some true
 mb:uu K C (.type "BaseException")=some true
 ty:a9m K (.ref C)=some (.type "type")
 is:(Li K C).isSome=true
section
variable {K:aA}{prog:aQ}{w:aN}{A:Around}{E:Value->ah->Prop}{s:ah}{a C:Addr}{o:Obj}
theorem x7u{R:pB->ah->Prop}(X:K.In s.heap)(Y:jN K C)(hx:s.heap.get? a=some o)(hc:o.cls = .ref C)(h:R (.ok (.ret (.ref C))) s) :
 iQ (aB prog w) A (.call (.builtin "getset_descriptor.__get__") ⟨[.builtin "object.__class__",.ref a,.ref C],[]⟩) R s:=by
 obtain⟨hh,g,d,t,os⟩:=s
 have vT:(⟨hh,g,d,t,os⟩:ah).TypeIs (.builtin "object.__class__") "getset_descriptor":=Tu
 have L1:=Lj (M:=aB prog w) X Y.mo
 refine Tv F.slot_gs_get.plain F.entry_gs_get (F.slot_gs_get.check _ _ _ _ _ _ _ _ vT (F.args_gs_get _ _ _) ?_)
 repeat (any_goals (first | assumption | (with_reducible refine xf hx ?_;rw[hc]) | with_reducible refine L1.at ?_ | wp_step))
 rw[show(".".intercalate ("object.__class__".cutAt '.').dropLast)="object" by decide +kernel]
 refine L1.at ?_
 repeat (any_goals (first | assumption | wp_step))
 refine⟨a9n _ (by decide +kernel),Dt F.entry_object_class ?_⟩
 repeat (any_goals (first | assumption | (with_reducible refine xf hx ?_;rw[hc]) | wp_step))
theorem x1e{Pd:Value}{Q:Unit->ah->Prop}(X:K.In s.heap)(Y:jN K C)(hx:s.heap.get? a=some o)(hc:o.cls = .ref C)(hq:Q () s):au (aB prog w) A (Tw "BaseException.__getattribute__" ⟨[.ref a,Pd],[]⟩) Q E s:=by
 obtain⟨hh,g,d,t,os⟩:=s
 have hk:builtinKind "BaseException.__getattribute__"=some .slot:=by decide +kernel
 have G9:splitId "BaseException.__getattribute__"=some ("BaseException","__getattribute__"):=by decide +kernel
 have L1:=Lj (M:=aB prog w) X Y.mb
 have ha:=F.args_bexc_ga (.ref a) Pd
 simp only[Tw,hk,G9]
 refine aH ?_
 unfold isInstance
 repeat (first | (with_reducible refine xf hx ?_;rw[hc]) | with_reducible refine L1.at ?_ | wp_step)
 exact hq
theorem x1d{tk:Tok}{Q:Fin->ah->Prop}(X:K.In s.heap)(Y:jN K C)(hx:s.heap.get? a=some o)(hc:o.cls = .ref C)(hq:Q (.done (.ret (.ref C))) s) :
 au (aB prog w) A (Builtin.«object.__getattribute__» ⟨[.ref a,.str "__class__" tk],[]⟩) Q E s:=by
 obtain⟨hh,g,d,t,os⟩:=s
 have vT:(⟨hh,g,d,t,os⟩:ah).TypeIs (.builtin "object.__class__") "getset_descriptor":=Tu
 have f5:=Tu
 have f6:=F.slot_gs_get.lookup
 have f7:=F.slot_gs_set.lookup
 have L1:=Tx (M:=aB prog w) X Y.cl
 repeat (any_goals (first | assumption | (with_reducible refine xf hx ?_;rw[hc]) | with_reducible refine L1.at ?_ | wp_step))
 refine x7u X Y hx hc ?_
 repeat (any_goals (first | assumption | wp_step))
theorem x3c{tk:Tok}{R:pB->ah->Prop}(X:K.In s.heap)(Y:jN K C)(hx:s.heap.get? a=some o)(hc:o.cls = .ref C)(hq:R (.ok (.ret (.ref C))) s) :
 iQ (aB prog w) A (.call (.builtin "BaseException.__getattribute__") ⟨[.ref a,.str "__class__" tk],[]⟩) R s :=
 Tv PySem.F.attr_ValueError.ga.plain F.entry_bexc_ga (x1e X Y hx hc (x1d X Y hx hc hq))
theorem x3d{Q:Option Value->ah->Prop}(X:K.In s.heap)(Y:jN K C)(hx:s.heap.get? a=some o)(hc:o.cls = .ref C)(hq:Q (some (.ref C)) { s with toks:=s.toks+1 }) :
 au (aB prog w) A (getAttr? (.ref a) "__class__") Q E s:=by
 obtain⟨hh,g,d,t,os⟩:=s
 have f3:=PySem.F.attr_ValueError.ga.bind (.ref a)
 have L1:=Tx (M:=aB prog w) X Y.ga
 have L2:=Tx (M:=aB prog w) X Y.gn
 have Cj:(Tz "BaseException.__getattribute__"==Tz "object.__getattribute__")=false:=by decide +kernel
 unfold getAttr? getAttrBy? getAttrBy
 repeat (any_goals (first | assumption | (with_reducible refine xf hx ?_;rw[hc]) | with_reducible refine L1.at ?_ | with_reducible refine L2.at ?_ | wp_step))
 refine x3c (s:=⟨hh,g,d,t+1,os⟩) X Y hx hc ?_
 repeat (any_goals (first | assumption | wp_step))
theorem Pe(Y:jN K C){h:Heap}(X:K.In h):∃c' d' cd rh,h.get? C=some ⟨c',d',.cls cd,rh⟩:=by
 have h2:=Y.is
 unfold Li at h2
 split at h2
 ·rename_i ho;exact⟨_,_,_,_,X _ _ ho⟩
 ·cases h2
theorem x9n(Y:jN K C):PySem.W.KitX K (.ref a) (.ref C) (λh=>∃o,h.get? a=some o/\o.cls = .ref C) where
 ty:=λM h _ p=>by
  obtain⟨o,h1,h2⟩:=p
  exact h2 ▸ (PySem.W.Looks.ld h1).andThen .now
 it:=λM h X _=>by
  obtain⟨c',d',cd,rh,ho⟩:=Pe Y X
  intro A' Q' E' s' k q
  unfold isType loadHead
  exact aH (wpAny_loadPart (k _ _ ho) (bS q))
 ne:=λh tp dd its n sl X htp=>by
  obtain⟨c',d',cd,rh,ho⟩:=Pe Y X
  refine Bool.eq_false_iff.mpr λq=>?_
  have e:C=tp:=Value.ref.inj (beq_iff_eq.mp q)
  subst e
  have z:=ho.symm.trans htp
  cases z
 ca:=λX p k=>by
  obtain⟨o,h1,h2⟩:=p
  exact x3d X Y h1 h2 k
end
def G_(X:Cx)(y:Str)(cv:Value):Prop:=∀{E:Value->ah->Prop} {pins:List (Addr×Obj)} {σ:St} {H:Hp} {s:ah} {Q:Value->ah->Prop} {py:Pos},Inv X pins σ H s->Q cv s->au (aB X.prog X.w) X.A (eval (.Name y py) X.env) Q E s
theorem w3i{X:Cx}{y:Str}{D:Addr}(hm:X.mg y=some (.ref D))(hg:Gl X y:=by rfl)(hd:(y==("__debug__":Str))=false:=by decide):G_ X y (.ref D):=λI q=>oP I hg hm q hd
theorem w3j{X:Cx}{y:Str}{v:Value}(hm:X.mg y=none)(hv:lU y=some v)(hg:Gl X y:=by rfl)(hn:y≠"__name__":=by decide)(hd:(y==("__debug__":Str))=false:=by decide):G_ X y v:=λI q=>iA I hg hm hv q hn hd
def zk(K:aA)(cv:Value)(k:Cl):Prop:=∀c C,fv K cQ c.nm=some (some (.ref C))->jN K C/\Ah K (.ref C) cv=some (uW c k)
section
variable {X:Cx}{pos p pn:Pos}
theorem Pf(i:Nat){n y:Str}{py:Pos}{cv:Value}{k:Cl}(hb:G_ X y cv)(hk:zk X.K cv k)(hm:X.mg "isinstance"=none)(ha:PD X (.Name n pn) (gV i))(hg:Gl X "isinstance":=by rfl)
 (he:aV [.Name n pn,.Name y py] X.env=(false,eval (.Name n pn) X.env)::(false,eval (.Name y py) X.env)::[]:=by rfl) (gJ:(cC pos (aV [.Name y py] X.env)).any (·.1)=false:=by rfl) (tR:aV [.Name y py] X.env=[(false,eval (.Name y py) X.env)]:=by rfl) :
 PD X (.Call (.Name "isinstance" p) [.Name n pn,.Name y py] [] pos) (AX i [k]):=by
 refine⟨λpins s σ H F Γ I fo rl bZ=>?_⟩
 refine l8 (iA I hg hm (by decide +kernel:lU "isinstance"=some (.builtin "isinstance")) ?_ (by decide) (by decide))
 refine K2 ?_ (by rw[he,tR]) gJ
 rw[he]
 show au _ _ (eE ((false,eval (.Name n pn) X.env)::cC pos [(false,eval (.Name y py) X.env)])) _ _ s
 refine fw (av (ha.run pins s σ H F Γ I fo rl (R.left bZ)) (λu s1 ⟨d,v,H1,e1,I1,r1,S1,i1⟩=>?_) λ_ _ x=>x.bind _)
 show au _ _ (eE ((false,eval (.Name y py) X.env)::cC pos [])) _ _ s1
 refine fw (hb I1 (h_ ?_))
 have aJ:=R.next bZ e1
 cases d with
 | exc c =>
   obtain⟨en,oe,C,rfl,h1,h2,h3⟩:=Is.OM.mp i1
   cases (show u=ft en from r1)
   have ho:s1.heap.get? en=some oe:=(I1.aK en _ h1).1
   obtain⟨Y,hkk⟩:=hk c C h3
   refine uJ (x9n Y) I1.fS ⟨oe,ho,h2⟩ hkk (λz=>nomatch z) λtk=>?_
   refine dg.bind e1 S1 ⟨.bl (uW c k),.bl (uW c k),H1,?_,I1.tok _,rfl,.refl _,Is.gv.mpr rfl⟩
   show R.ok (D.bl ([k].any (uW c)))=_
   rw[z8,List.any_nil,Sz]
 | _=>exact absurd rfl aJ
structure PCl (X:Cx) (es:List Expr) (vs:List Value):Prop where
 run:∀{E:Value->ah->Prop} {pos:Pos} {pins:List (Addr×Obj)} {σ:St} {H:Hp} {s:ah} {Q:List Value->ah->Prop},Inv X pins σ H s->Q vs s->au (aB X.prog X.w) X.A (eE (cC pos (aV es X.env))) Q E s
theorem Pg{e:Expr}{g:G->R D}(he:PD X e g)(hs:pQ e none pos.line X.env=pure false:=by rfl):PQ X (.Expr e pos) (uX g):=⟨λpins s σ H F Γ I fo rl hg =>
 Ds (av (he.run pins s σ H F Γ I fo rl (jD hg)) (λu s1 ⟨d,v,H',e1,I',rv,S,i⟩=>⟨Γ,jE e1,σ,H',F,I',fo.same S,rl.same S,.of_same S⟩) λ_ _ x=>x.lift fo rl _) I.quiet hs⟩
def mk(X:Cx)(v:Value):Cx:={ X with A:=X.A.mark (some v),calm:=false }
theorem w7v{v:Value}(o:X.Ok):(mk X v).Ok where
 mod:=o.mod
 kind:=o.kind
 glob:=o.glob
 blt:=o.blt
 above:=o.above
 inj:=o.inj
 has:=o.has
 rg:=o.rg
 hd:=λz=>by cases z
 frames:=o.frames
 sI:=o.sI
 xo:=o.xo
 bs:=o.bs
 jT:=o.jT
 pT:=o.pT
 sJ:=o.sJ
 jy:=o.jy
 kT:=o.kT
theorem Ph{v:Value}{pins:List (Addr×Obj)}{σ:St}{H:Hp}{s:ah}(I:Inv X pins σ H s):Inv (mk X v) pins σ H s:=⟨w7v I.ok,I.os,I.bare,I.base,I.loc,I.cell,I.free,I.jz,I.pin,I.aK,I.len⟩
theorem w6m{v:Value}{pins:List (Addr×Obj)}{σ:St}{H:Hp}{s:ah}(o:X.Ok)(I:Inv (mk X v) pins σ H s):Inv X pins σ H s:=⟨o,I.os,I.bare,I.base,I.loc,I.cell,I.free,I.jz,I.pin,I.aK,I.len⟩
theorem x7x{M:oB}{A:Around}{E:Value->ah->Prop}{i:Nat}{n:Str}{zl:Pos}{pins:List (Addr×Obj)}{σ:St}{H:Hp}{s:ah}{Q:Unit->ah->Prop}(I:Inv X pins σ H s)(hN:X.N.Nodup)(hi:X.N[i]? = some n)(hk:X.env.kindOf n=some .local)
 (h:∀s',Inv X pins (σ.set i none) H s'->Q () s'):au M A (do bindName X.env n .none;unbindBehindTheSuite X.env n zl) Q E s:=by
 obtain⟨m,hn,hl⟩:=id I.loc
 have DG:(X.env.scope.kind == .class||(X.env.scope.kind == .module&&X.env.locals != X.env.globals))=false:=by rw[I.ok.kind];rfl
 have Au:i<σ.length:=by rw[I.len];exact(List.getElem?_eq_some_iff.mp hi).1
 have nj:=I.nj
 refine wpAny_nameGoes_keeps hk hn DG λh' v gX hs=>h _ ?_
 have v9:∀{b:Addr} {o:Obj},X.s₀.heap.get? b=some o->b≠X.env.locals:=λe=>dS (cW (bH e) I.ok.above)
 have Pj:∀{c:Addr} {u:HO},H c=some u->c≠X.env.locals:=λe z=>by rw[z,I.free] at e;cases e
 refine⟨I.ok,I.os,I.bare,⟨λb o e q hb hx=>(hs.2 b (v9 e)).trans (I.base.keep b o e q hb hx),λb o e q hb hx=>?_,I.base.free,λb o e hx=>?_,I.base.kn,I.base.jS,I.base.ko⟩,⟨_,gX,λj y v' e1 e2 e3=>?_⟩,λy c e=>?_,I.free,I.jz,λp hp=>?_,λb u e=>?_,by simpa using I.len⟩
 ·obtain⟨sl,e1⟩:=I.base.slot b o e q hb hx
  exact⟨sl,(hs.2 b (v9 e)).trans e1⟩
 ·obtain⟨o',e1⟩:=I.base.there b o e hx
  exact⟨o',(hs.2 b (v9 e)).trans e1⟩
 ·by_cases hj:j=i
  ·subst hj
   rw[gU Au] at e2
   cases e2
  ·rw[eD (dM hj)] at e2
   obtain⟨u',r',q⟩:=hl j y v' e1 e2 e3
   refine⟨u',r',?_⟩
   rcases q with ⟨k,e⟩ | ⟨k,c,e,z⟩
   ·refine .inl ⟨k,?_⟩
    have:y≠n:=λe=>hj (DD hN e1 (e ▸ hi))
    simp[this,e]
   ·exact .inr ⟨k,c,e,z.sameBut hs (nj y c e)⟩
 ·obtain⟨w',z⟩:=I.cell y c e
  exact⟨w',z.sameBut hs (nj y c e)⟩
 ·obtain⟨e,q,ne,nf,d⟩:=I.pin p hp
  exact⟨(hs.2 p.1 ne).trans e,q,ne,nf,d⟩
 ·refine(I.aK b u e).kQ (λc w' hc q=>(hs.2 c ?_).trans q) (λ_ q=>q) λ_ _ q=>q
  rcases hc with rfl | hc
  ·exact Pj e
  ·exact Pj hc
theorem Rel.unset{K:aA}{H:Hp}{F:List Addr}{Γ:G}{σ:St}(i:Nat)(r:Rel K H F Γ σ):Rel K H F (Γ.set i .no) (σ.set i none) where
 len:=by rw[fD,fD];exact r.len
 ro:=λj d h=>by
  by_cases hj:i=j
  ·subst hj
   by_cases hl:i<Γ.length
   ·rw[gU hl] at h;cases h
   ·rw[jP (by rw[fD];lia)] at h;cases h
  ·rw[eD hj] at h ⊢;exact r.ro j d h
 own:=λj ds h=>by
  by_cases hj:i=j
  ·subst hj
   by_cases hl:i<Γ.length
   ·rw[gU hl] at h;cases h
   ·rw[jP (by rw[fD];lia)] at h;cases h
  ·rw[eD hj] at h ⊢;exact r.own j ds h
 inj:=λj k ds es a h1 h2 h3 h4=>by
  have key:∀(j:Nat) ds,(Γ.set i .no)[j]? = some (.own ds)->i≠j:=λj ds h hj=>by
   subst hj
   by_cases hl:i<Γ.length
   ·rw[gU hl] at h;cases h
   ·rw[jP (by rw[fD];lia)] at h;cases h
  have n1:=key j ds h1
  have n2:=key k es h2
  rw[eD n1] at h1 h3
  rw[eD n2] at h2 h4
  exact r.inj j k ds es a h1 h2 h3 h4
end
section
variable {X:Cx}{pos np zl:Pos}
theorem x6e{pins:List (Addr×Obj)}{σ:St}{H:Hp}{s:ah}{e:Addr}{oe:Obj}(I:Inv X pins σ H s)(hn:H e=none)(he:s.heap.get? e=some oe)(h0:X.s₀.heap.get? e=none)(hL:e≠X.env.locals)(hc:∀y k,X.env.cells.lookup y=some k->k≠e)(hp:∀p∈X.pn++pins,p.1≠e) :
 Inv X pins σ (upd H e (.gq oe (.own 0))) s:=by
 have ne:∀{b:Addr} {o:HO},H b=some o->b≠e:=λq z=>by rw[z,hn] at q;cases q
 refine⟨I.ok,I.os,I.bare,⟨I.base.keep,I.base.slot,λb o q1 q2 q3=>?_,I.base.there,?_,?_,?_⟩,I.loc,I.cell,?_,λy k q=>?_,λp q=>?_,Gy I.aK hn ⟨he,_,he⟩,I.len⟩
 ·rw[bD λz=>by rw[z,h0] at q1;cases q1];exact I.base.free b o q1 q2 q3
 ·intro b o q;have:=I.base.kn b o q;rw[bD (ne this)];exact this
 ·intro b o u q;have:=I.base.jS b o u q;rw[bD (ne this)];exact this
 ·intro b ps q;obtain⟨more,this⟩:=I.base.ko b ps q;exact⟨more,by rw[bD (ne this)];exact this⟩
 ·rw[bD (dM hL)];exact I.free
 ·rw[bD (hc y k q)];exact I.jz y k q
 ·obtain⟨z1,z2,z3⟩:=I.pin p q
  exact⟨z1,by rw[bD (hp p q)];exact z2,z3⟩
structure a0c (X:Cx) (B:Addr):Prop where
 cl:jN X.K B
 ns:∀(c:Er) (C:Addr),X.mg c.nm=some (.ref C)->fv X.K cQ c.nm=some (some (.ref C))/\uu X.K C (.ref B)=some true
theorem w5d(i:Nat){n x:Str}{B L:Addr}{Pk:Stmt}{body Pl:List Stmt}{t u:G->R Fl}(hE:a0c X B)(hB:X.mg x=some (.ref B))(hb:kc X body t)(hu:∀v,kc (mk X v) (Pk::Pl) u)(hN:X.N.Nodup)
 (hi:X.N[i]? = some n:=by rfl) (hk:X.env.kindOf n=some .local:=by rfl) (hx:Loc X.env.scope n:=by first | exact fR rfl | exact dX rfl) (hf:X.fn n=true∨X.env.scope.names.lookup n=some .local:=by first | exact .inl rfl | exact .inr rfl)
 (hex:X.ex=[]:=by rfl) (mQ:X.stack=X.env::X.outer:=by rfl) (iM:X.env.frame=some L:=by rfl) (hg:Gl X x:=by rfl) (g_:(x==("__debug__":Str))=false:=by decide) :
 PQ X (.Try body [.ExceptHandler (some (.Name x np)) (some n) (Pk::Pl) zl] [] [] pos) (sW i t u):=by
 refine⟨λpins s σ H F Γ I fo rl bZ=>?_⟩
 have hgt:=R.left bZ
 refine a9o (av (hb.run pins s σ H F Γ I fo rl hgt) (λf s1 q=>?_) λxe s1 q=>?_)
 ·cases f with
  | next=>obtain⟨Γ',e,r⟩:=q;exact pP ⟨Γ',R.step e _,r⟩
  | brk=>obtain⟨Γ',e,r⟩:=q;exact⟨Γ',R.step e _,r⟩
  | cont=>obtain⟨Γ',e,r⟩:=q;exact⟨Γ',R.step e _,r⟩
  | ret v=>exact mP.map q .refl (λ_ _ I=>I) (λ_ e=>R.step e _) λ_ e=>R.step e _
 ·obtain⟨c,dG,kU,H1,F1,e1,fl1,eW,fq,E1⟩:=q
  have aJ:=R.next bZ e1
  have hgu:=R.left aJ
  refine Co hex mQ iM fl1 λs2 zm=>?_
  refine zi (fr:=none) zm λs3 Pm=>?_
  obtain⟨I3,e,C,oe,vs,rfl,k2,k3,k4,k5,k6,k7,k8,k9,jo⟩:=id Pm
  obtain⟨rm,Pn⟩:=hE.ns c C k2
  refine wpAny_handleBy_cons (codeAny_handlers_test (oP (X:=mk X (.ref e)) (Ph I3) hg hB ?_ g_)) (by intro z;cases z)
  refine y5z I3.fS k8 k9 hE.cl.ty hE.cl.is hE.cl.mb Pn ?_
  show iQ _ _ _ _ s3
  refine codeAny_handlers_suite_as (zi (fr:=none) Pm λs4 fl4=>?_)
  obtain⟨I4,e',C',zh,G3,ee,m2,m3,m4,m5,m6,m7,m8,m9,m10⟩:=fl4
  cases ee
  have eC:C=C':=by rw[k2] at m2;cases m2;rfl
  subst eC
  have hS:aO H1 (upd H1 e (.gq zh (.own 0))):=gP m3 _
  have I4':=x6e I4 m3 m8 m4 m5 m6 m7
  have hF:e ∉ F1:=λz=>by obtain⟨ys,q⟩:=eW e z;rw[m3] at q;cases q
  refine uM (X:=mk X (.ref e)) (Ph I4') hN hi hx (v:=.ref e) rfl (λs5 I5=>?_) hf
  have hIs:Is X.K (aF F1 (upd H1 e (.gq zh (.own 0)))) (.exc c) (.ref e):=Is.OM.mpr ⟨e,zh,C,rfl,by rw[da hF];exact dc,m9,rm⟩
  refine av ((hu (.ref e)).run pins s5 _ _ F1 (dG.set i (.ro (.exc c))) I5 (eW.same hS) ((fq.same hS).Cf hIs) hgu) (λf s6 q6=>?_) λx6 s6 q6=>?_
  ·cases f with
   | next =>
     obtain⟨Ct,e6,vX,H6,F6,I6,t9,rl6,E6⟩:=q6
     refine x7x (w6m I.ok I6) hN hi hk λs7 I7=>?_
     exact⟨Ct.set i .no,(R.step e1 _).trans (R.step e6 _),_,H6,F6,I7,t9,rl6.unset i,(E1.trans (.of_same hS)).trans E6⟩
   | brk=>obtain⟨Ct,e6,_⟩:=q6;exact absurd (by show(_>>=_)=_;rw[e6];rfl) aJ
   | cont=>obtain⟨Ct,e6,_⟩:=q6;exact absurd (by show(_>>=_)=_;rw[e6];rfl) aJ
   | ret v =>
     obtain⟨_,_,_,_,_,_,_,⟨d6,e6,_⟩ | ⟨d6,_,_,e6,_⟩⟩:=q6
     ·exact absurd (by show(_>>=_)=_;rw[e6];rfl) aJ
     ·exact absurd (by show(_>>=_)=_;rw[e6];rfl) aJ
  ·obtain⟨c6,Ct,vX,H6,F6,e6,_⟩:=q6
   exact absurd (by show(_>>=_)=_;rw[e6];rfl) aJ
end
section
variable {X:Cx}{pos p pn:Pos}
end
section
variable {X:Cx}{e a b c:Expr}{g ga gb gc:G->R D}{pos pos':Pos}{es:List Expr}{gs:G->R (List D)}
end
section
variable {P:aQ}{w:aN}{K:aA}{mg:Str->Option Value}{base:Heap}
theorem pj{x qual:Str}{st:Stmt}{f:Addr}{fd:cG}{N ps:List Str}{k:Nat}(Fu:mf K x qual st f fd)(S:aZ N ps (aW st))(hb:jV K fd ps []):eN P w K mg base (k+1) f fd ps (λ_=>.no):=by
 refine⟨?_,hb,Fu.kp⟩
 obtain⟨oc,od,kV,doc,pm,an,aY,ct,pX,rfl,lk,dE⟩:=Fu.ex
 exact xy lk dE S (λvs H Q E h=>absurd rfl h.choose_spec.2.1) λA outer s H vs Q E hr dZ=>absurd rfl dZ.choose_spec.2.1
theorem Ha{x qual:Str}{st:Stmt}{f:Addr}{fd:cG}{N ps:List Str}{k:Nat}(Fu:mf K x qual st f fd)(S:aZ N ps (aW st))(hb:jV K fd ps []):mL P w K mg base (k+1) f fd ps (λ_=>.no):=by
 refine⟨?_,hb,Fu.kp⟩
 obtain⟨oc,od,kV,doc,pm,an,aY,ct,pX,rfl,lk,dE⟩:=Fu.ex
 exact xy lk dE S (λvs H Q E h=>absurd rfl h.choose_spec.2.1) λA outer s H vs Q E hr dZ=>absurd rfl dZ.choose_spec.2.1
end
section
variable {X:Cx}{e a b c:Expr}{g ga gb gc:G->R D}{pos pos' p p2:Pos}{es:List Expr}{gs:G->R (List D)}{lo hi:Option Expr}{gl gh:G->R (Option Int)}
def w7i(K:aA):R2:=λx y H Q=>∃l b xs zs,x = .ref l/\y = .ref b/\b9 K H l xs/\b9 K H b zs/\xs.length+zs.length<=bR/\∀p,H p=none->Q (.ref p) (upd H p (.lst (xs++zs)))
theorem w2s:e9 X (gW .Add) (w7i X.K):=by
 intro pins s σ H x y v u Q I rx ry h
 obtain⟨l,b,xs,zs,rfl,rfl,hH,hB,hz,q⟩:=h
 cases rx
 cases ry
 obtain⟨i1,r1,pl1,_⟩:=I.list hH
 obtain⟨i2,r2,pl2,_⟩:=I.list hB
 have n1:=r1.length
 have n2:=r2.length
 obtain⟨⟨c1,d1,t1,s1⟩,o1,k1,m1,j1⟩:=pl1.isList
 obtain⟨⟨c2,d2,t2,s2⟩,o2,k2,m2,j2⟩:=pl2.isList
 simp only at k1 j1 k2 j2
 subst k1 j1 k2 j2
 refine Kt ⟨_,o1,rfl⟩ ⟨_,o2,rfl⟩ noFill_list_add seq_list_add PySem.F.slot_list_add PySem.F.entry_list_add (PySem.F.args_list_add_2 _ _) (list_addW l b i1.toArray i2.toArray m1 m2 d1 d2 s1 s2 (by simp only[cY];lia)) ⟨o1,o2,?_⟩
 have ea:i1.toArray++i2.toArray=(i1++i2).toArray:=by simp
 rw[ea]
 exact⟨.ref _,_,I.Mc (t':=s.toks) (r1.append r2) (by rw[dW];lia),rfl,q _ I.fresh⟩
theorem zo(ha:PD X a ga)(hb:PD X b gb):PF X (.BinOp a .Add b pos) (p9 ga gb):=by
 refine⟨λpins s σ H F Γ I fo rl hg=>?_⟩
 refine Tf (av (ha.run pins s σ H F Γ I fo rl (R.left hg)) (λv s1 ⟨dx,x,H1,e1,I1,r1,S1,i1⟩=>?_) λ_ _ x=>x.bind _)
 have aJ:=R.next hg e1
 refine av (hb.run pins s1 σ H1 F Γ I1 (fo.same S1) (rl.same S1) (R.left aJ)) (λu s2 ⟨dy,y,H2,e2,I2,r2,S2,i2⟩=>?_) λ_ _ x=>bY.later e1 S1 (x.bind _)
 have fg:=R.next aJ e2
 have qr:=i1.same S2
 have key:∀xs ys,dx = .lst xs->dy = .lst ys->∃zx zy,x = .ref zx/\y = .ref zy/\∃vx vy,b9 X.K H2 zx vx/\b9 X.K H2 zy vy/\ao X.K H2 xs vx/\ao X.K H2 ys vy:=λxs ys q1 q2=>by
  subst q1 q2
  obtain⟨zx,vx,rfl,a1,a2⟩:=Is.fm.mp qr
  obtain⟨zy,vy,rfl,b1,b2⟩:=Is.fm.mp i2
  exact⟨zx,zy,rfl,rfl,vx,vy,a1,b1,a2,b2⟩
 have both:∃xs ys,dx = .lst xs/\dy = .lst ys:=by
  cases dx with
  | lst xs =>
    cases dy with
    | lst ys=>exact⟨xs,ys,rfl,rfl⟩
    | _=>exact absurd rfl fg
  | _=>cases dy<;>exact absurd rfl fg
 obtain⟨xs,ys,rfl,rfl⟩:=both
 obtain⟨zx,zy,rfl,rfl,vx,vy,a1,b1,a2,b2⟩:=key xs ys rfl rfl
 obtain⟨⟨hc,hn⟩,e3⟩:=R.cT (show R.guard (xs.length+ys.length<=1000/\D.a_ (xs++ys)=true) (.ok (xs++ys)) ≠ .no from fg)
 have hz:vx.length+vy.length<=bR:=by rw[<-a2.length,<-b2.length];exact qq hc
 refine av (w2s (X:=X.bT) pins s2 σ H2 (.ref zx) (.ref zy) _ _ (λz H'=>∃l,z = .ref l/\H2 l=none/\H'=upd H2 l (.lst (vx++vy))) (I2.dm _) r1 r2 ⟨zx,zy,vx,vy,rfl,rfl,a1,b1,hz,λl hl=>⟨l,rfl,hl,rfl⟩⟩) (λu s' ⟨z,H',I',rz,l,ez,hl,eH⟩=>?_) λ_ _ z=>b6 z
 subst ez eH
 have S3:=gP hl (.lst (vx++vy))
 exact⟨xs++ys,l,vx++vy,_,(R.step e1 _).trans ((R.step e2 _).trans e3),I'.eQ,rz,(S1.trans S2).trans S3,S1.free (S2.free hl),dc,ao.aF ((((fo.same S1).same S2).same S3).cons dc) _ _ hn ((a2.append b2).same S3)⟩
end
section
variable {X:Cx}{e a b c:Expr}{g ga gb gc:G->R D}{lo:Option Expr}{gl:G->R (Option Int)}{pos p2 p3:Pos}
end
section
variable {X:Cx}
theorem x9h(hc:X.calm=true):iU X (.builtin "max") (λxs H Q=>∃(a:Addr) (ns:List Int),xs=[.ref a]/\ns≠[]/\b9 X.K H a (ns.map V.int)/\Q (.int (ky ns)) H):=by
 intro pins s σ H xs us Q I r h
 obtain⟨a,ns,rfl,aS,hq,q⟩:=h
 obtain⟨u,rfl,ru⟩:=oR r
 cases ru
 obtain⟨its,rv,pl,_⟩:=I.list hq
 have hi:uB its ns:=L6 rv
 obtain⟨ys,hy⟩:=hi.allInts.items
 have hl:=pl.isList
 rw[hy] at hl
 have hn:numsOf its.toArray.toList=ns:=by rw[show its.toArray.toList=its from rfl,hi.numsOf]
 rw[hy,nums_intItems] at hn
 have hlen:ys.size=ns.length:=by rw[<-hn,a6,qR]
 have zl:0<ys.size:=by rw[hlen];exact List.length_pos_iff.mpr aS
 refine max_intList (I.ok.hd hc) hl zl λv h' tk hv hk=>?_
 obtain⟨t,rfl⟩:=intItems_at hv
 obtain⟨h1,h2⟩:=argBest_gt (Lk ys) (ys.size-1)
 have em:Lk ys (argBest (λi j=>decide (Lk ys i>Lk ys j)) (ys.size-1))=ky ns:=by
  refine ME ?_ λb hb=>?_
  ·rw[<-hn,numAt_eq];exact getD_mem (by rw[a6,qR];lia)
  ·rw[<-hn] at hb
   obtain⟨j,hj,rfl⟩:=mem_getD hb
   rw[a6,qR] at hj
   rw[<-numAt_eq];exact h2 j (by lia)
 rw[em]
 exact⟨.int (ky ns),H,I.kept hk,⟨t,rfl⟩,q⟩
theorem w4f(hc:X.calm=true):kF X (.builtin "max") uY:=by
 refine⟨_,iU.or (x9h (X:=X.bT) hc) (UR (X:=X.bT) hc),λH xs ds i hg=>?_⟩
 unfold uY at hg
 split at hg
 ·rename_i ys
  obtain⟨v,rfl,h⟩:=lE i
  obtain⟨a,zs,rfl,h1,h2⟩:=Is.fm.mp h
  cases q:mj ys with
  | none=>rw[q] at hg;exact absurd rfl hg
  | some ns =>
    cases ns with
    | nil=>rw[q] at hg;exact absurd rfl hg
    | cons n ns =>
      have:=Eb q
      subst this
      rw[h2.F5] at h1
      exact .inl ⟨a,n::ns,rfl,by simp,h1,_,by unfold uY;simp only[q],.refl _,Is.bU.mpr rfl⟩
 ·rename_i i' j'
  obtain⟨v,v',rfl,h,h'⟩:=OS i
  exact .inr ⟨i',j',by rw[Is.bU.mp h,Is.bU.mp h'],_,rfl,.refl _,Is.bU.mpr rfl⟩
 ·exact absurd rfl hg
end
section
variable {X:Cx}{e a b c:Expr}{g ga gb gc:G->R D}{lo:Option Expr}{st:Expr}{gl gt:G->R (Option Int)}{pos p2 p3:Pos}
end
section
variable {X:Cx}{a b:Expr}{pos:Pos}
end
section
variable {X:Cx}{e a b c:Expr}{g ga gb gc:G->R D}{pos pos' p p2:Pos}{es:List Expr}{gs:G->R (List D)}
theorem x9w{a b:Int}(ha:0<=a)(hb:0<=b)(h:b≥((TB a:Nat):Int)):a/2^b.toNat=0:=by
 obtain⟨n,rfl⟩:=pJ ha
 obtain⟨k,rfl⟩:=pJ hb
 have hk:n<2^k:=by
  unfold TB at h
  by_cases hn:n=0
  ·subst hn;exact a8q k
  ·rw[S_,if_neg (by simpa using hn)] at h
   exact(Nat.log2_lt hn).mp (by lia)
 rw[oI]
 exact a9k (Ta n) (by exact_mod_cast hk)
theorem w5q:fI X (gW .RShift) Ei:=B3 (C:=λi j=>0<=i/\0<=j) (d:=λi j=>.int (i/2^j.toNat)) (λ_ _ _ _=>Is.bU.mpr rfl) (v:=λi j=>.int (i/2^j.toNat)) (xr λi j _ _ _ _ _ hc q=>by
 have h1:(0:Int)<=i:=hc.1
 have h2:(0:Int)<=j:=hc.2
 by_cases hb:j≥((TB i:Nat):Int)
 ·refine AutoIntOps.rshift_1 (by lia) hb ?_
  rw[if_neg (by lia),<-x9w h1 h2 hb]
  exact q
 ·refine AutoIntOps.rshift_2 (by lia) hb ?_
  rw[a7t i (Int.le_of_lt (Int.pow_pos (by lia)))]
  exact q)
theorem w2m{apos cD:Pos}(ha:PD X a ga)
 (ke:uH a "bit_length" X.env (eval a X.env)=eval a X.env:=by rfl)
 (lJ:((cC cD (aV [] X.env)).all (λx=>!x.1)&&(uv cD (uw [] X.env)).all (λx=>x.1.isSome)
   && decide (([]:List Expr).length+([]:List km).length+(if ([]:List km).isEmpty then 0 else 1)<30))=true:=by rfl)
 (kf:(apos.endLine==cD.line)=true:=by rfl) (hs:aV [] X.env=[]:=by rfl) :
 PD X (.Call (.Attribute a "bit_length" apos) [] [] cD) (y7l ga):=by
 refine⟨λpins s σ H F Γ I fo rl hg=>?_⟩
 refine w_ ke lJ kf rfl (av (ha.run pins s σ H F Γ I fo rl (R.left hg)) (λv s1 ⟨d,x,H1,e1,I1,r1,S1,i1⟩=>?_) λ_ _ x=>x.bind _)
 have aJ:=R.next hg e1
 cases d with
 | int i =>
   rw[Is.bU.mp i1] at r1
   obtain⟨t,rfl⟩:=r1
   refine⟨"int",_,PySem.F.plainAttrs_int,slot_int_bit_length,type_int_bit_length,typeIs_int _ _ _,(λ_ e=>nomatch e),?_⟩
   rw[hs]
   refine uI rfl ?_
   show au _ _ (evalArgs (Tz "int.bit_length") true [] []) _ _ s1
   refine PyProof.Rows.evalArgs_nil3 ?_
   exact call_int_bit_length (dg.bind e1 S1 ⟨.int (xP i),.int (xP i),H1,rfl,I1.tok _,⟨_,rfl⟩,.refl _,Is.bU.mpr rfl⟩)
 | _=>exact absurd rfl aJ
end
section
variable {X:Cx}{e a b c:Expr}{g ga gb gc:G->R D}{pos pos' p p2:Pos}{es:List Expr}{gs:G->R (List D)}
structure v_ (X:Cx) (es:List Expr) (g:G->R (List D)):Prop where
 run:∀(pos:Pos) (pins:List (Addr×Obj)) (s:ah) (σ:St) (H:Hp) (F:List Addr) (Γ:G),Inv X pins σ H s->bI H F->Rel X.K H F Γ σ->g Γ ≠ .no ->
  au (aB X.prog X.w) X.A (eE (cC pos (aV es X.env))) (λus s'=>∃ds vs H',g Γ = .ok ds/\Inv X pins σ H' s'/\Vals vs us/\aO H H'/\ao X.K (aF F H') ds vs) (bY X pins σ H (g Γ)) s
theorem jO:v_ X [] ak:=⟨λpos pins s σ H F Γ I fo rl hg=>h_ ⟨[],[],H,rfl,I,.nil,.refl _,ao.nil⟩⟩
theorem gS(ha:jj X e g)(hr:v_ X es gs)(hs:aV (e::es) X.env=(false,eval e X.env)::aV es X.env:=by rfl):v_ X (e::es) (ae g gs):=by
 refine⟨λpos pins s σ H F Γ I fo rl hg=>?_⟩
 rw[hs]
 show au _ _ (eE ((false,eval e X.env)::cC pos (aV es X.env))) _ _ s
 refine fw (av (ha.run pins s σ H F Γ I fo rl (R.left hg)) (λu s1 ⟨d,x,H1,e1,I1,r1,S1,i1⟩=>?_) λ_ _ x=>x.bind _)
 have aJ:=R.next hg e1
 refine av (hr.run pos pins s1 σ H1 F Γ I1 (fo.same S1) (rl.same S1) (R.left aJ)) (λus s2 ⟨ds,vs,H2,e2,I2,r2,S2,i2⟩=>?_) λ_ _ x=>bY.later e1 S1 (x.bind _)
 exact⟨d::ds,x::vs,H2,(R.step e1 _).trans (R.step e2 _),I2,.cons r1 r2,S1.trans S2,ao.cons (i1.same (g7 S2)) i2⟩
theorem x6l{H:Hp}{F:List Addr}{q:Addr}(fo:bI H F)(h:H q=none):q ∉ F:=λz=>by
 obtain⟨ys,e⟩:=fo q z
 rw[h] at e;cases e
theorem Po{x1}(h:v_ X es gs):jj X (.Tuple es x1 pos) (fT gs):=by
 refine⟨λpins s σ H F Γ I fo rl hg=>?_⟩
 refine a8z (av (h.run pos pins s σ H F Γ I fo rl (R.left hg)) (λus s1 ⟨ds,vs,H1,e1,I1,r1,S1,i1⟩=>?_) λ_ _ x=>x.bind _)
 have fg:=R.next hg e1
 obtain⟨hl,e2⟩:=R.cT fg
 have hz:vs.length<=bR:=by rw[<-i1.length];exact qq hl
 refine⟨by rw[<-r1.length];exact hz,?_⟩
 have hf:H1 s1.heap.objs.size=none:=I1.aK.fresh (a7 _)
 have S2:=gP hf (.tup vs)
 have hF:=x6l (fo.same S1) hf
 refine⟨.tup ds,.ref s1.heap.objs.size,upd H1 s1.heap.objs.size (.tup vs),(R.step e1 _).trans e2,I1.laid (t':=s1.toks) (λb u e=>cX _ e) (a7 _) ?_,rfl,S1.trans S2,Is.fB.mpr ⟨_,vs,rfl,cy.of (by rw[da hF];exact dc),i1.same (g7 S2)⟩⟩
 exact⟨hz,us,r1,⟨_,fu _ rfl,rfl,_,rfl⟩⟩
theorem Pp(h:v_ X es gs):PF X (.List es pos) (y3b gs):=by
 refine⟨λpins s σ H F Γ I fo rl hg=>?_⟩
 refine a9a (av (h.run pos pins s σ H F Γ I fo rl (R.left hg)) (λus s1 ⟨ds,vs,H1,e1,I1,r1,S1,i1⟩=>?_) λ_ _ x=>x.bind _)
 have fg:=R.next hg e1
 obtain⟨hl,e2⟩:=R.cT fg
 have hz:vs.length<=bR:=by rw[<-i1.length];exact qq hl
 refine⟨by rw[<-r1.length];exact hz,?_⟩
 have hf:H1 s1.heap.objs.size=none:=I1.aK.fresh (a7 _)
 have S2:=gP hf (.lst vs)
 have hH:H s1.heap.objs.size=none:=S1.free hf
 refine⟨ds,s1.heap.objs.size,vs,upd H1 s1.heap.objs.size (.lst vs),(R.step e1 _).trans e2,I1.laid (t':=s1.toks) (λb u e=>cX _ e) (a7 _) ?_,rfl,S1.trans S2,hH,dc,i1.same (F8 S2 hf)⟩
 exact⟨hz,us,0,r1,fu _ rfl⟩
end
def Hb(N:List Str)(env:Env)(x0 y:Str)(scope:dA):Bool :=
 decide (scope.kind = .function)&&scope.names.all (λp=>decide (p.2 ≠ .cell)&&(decide (p.2 ≠ .local)||decide (scope.names.lookup p.1=some .local))&&(decide (p.2 ≠ .free)||((env.cells.lookup p.1).isSome&&(decide (env.scope.names.lookup p.1=some .cell)||decide (env.scope.names.lookup p.1=some .free)))))
  && decide (scope.names.lookup x0=some .local/\scope.names.lookup y=some .local/\x0≠y/\(x0 ∉ N∨y ∉ N))&&decide (scope.names.lookup (("":Str))=none)&&N.all (λz=>decide (scope.names.lookup z≠some .local)||decide (z=x0∨z=y))&&decide ((∀z∈N,z≠("":Str))∨(x0 ∉ N/\y ∉ N))
structure Cu (N:List Str) (env:Env) (x0 y:Str) (scope:dA):Prop where
 kind:scope.kind = .function
 ph:∀p∈scope.names,p.2 ≠ .cell
 names:∀p∈scope.names,p.2 = .local->scope.names.lookup p.1=some .local
 free:∀p∈scope.names,p.2 = .free->(∃c,env.cells.lookup p.1=some c)/\(env.scope.names.lookup p.1=some .cell∨env.scope.names.lookup p.1=some .free)
 loc:scope.names.lookup x0=some .local/\scope.names.lookup y=some .local/\x0≠y/\(x0 ∉ N∨y ∉ N)
 nil:scope.names.lookup (("":Str))=none
 only:∀z∈N,scope.names.lookup z=some .local->z=x0∨z=y
 none:(∀z∈N,z≠("":Str))∨(x0 ∉ N/\y ∉ N)
theorem x2y{N:List Str}{env:Env}{x0 y:Str}{scope:dA}(h:Hb N env x0 y scope=true):Cu N env x0 y scope:=by
 unfold Hb at h
 simp only[ir,ng,wW,decide_eq_true_eq] at h
 obtain⟨⟨⟨⟨⟨h1,h2⟩,h3⟩,h4⟩,h5⟩,h6⟩:=h
 refine⟨h1,λp hp=>(h2 p hp).1.1,λp hp e=>((h2 p hp).1.2).resolve_left λz=>z e,λp hp e=>?_,h3,h4,λz hz e=>(h5 z hz).resolve_left λq=>q e,h6⟩
 have q:=((h2 p hp).2).resolve_left λz=>z e
 exact⟨Option.isSome_iff_exists.mp q.1,q.2⟩
def gf(X:Cx)(x0 y:Str)(scope:dA)(C:Addr)(aq:ah)(ax:Hp)(fp:List Addr)(pn:List (Addr×Obj)):Cx :=
 { X with N:=x0::y::X.N.map (λz=>if z=x0∨z=y then ("":Str) else z),s₀:=aq,H₀:=ax,env:=gH scope (cI X.env scope.names []) C X.env,outer:=X.stack,ex:=fp,fn:=λ_=>false,pn:=pn,xe:=λ_ _=>False }
theorem x2z{X:Cx}{x0 y:Str}{scope:dA}{C Dd:Addr}{fp:List Addr}{pins pl:List (Addr×Obj)}{σ aE:St}{ax H':Hp}{aq s1:ah}{xs:List V}{its:List Value}{n:Nat}(I:Inv X pins σ ax aq)
 (J:Inv (gf X x0 y scope C aq ax fp (X.pn++pins)) pl aE H' s1) (hD:aq.heap.objs.size<=Dd) (hn:H' Dd=none) (hd:s1.heap.get? Dd=some { cls:=.type "list",data:=.seq its.toArray n }) (rv:Vals xs its) (hz:xs.length<=bR) (hf:∀b∈fp,fx X pins ax b) :
 Inv X pins σ (upd H' Dd (.lst xs)) s1:=by
 have os:s1.os=aq.os:=J.os
 have un:Un (dj X.stack) fp ax H' aq.heap s1.heap:=J.base
 have aK:dY X.prog X.w H' s1.heap:=J.aK
 have bare:m_ s1.gens:=J.bare
 clear J
 obtain⟨hh,gg,dd,tt,nB⟩:=s1
 obtain rfl:nB=aq.os:=os
 have GA:∀b o,aq.heap.get? b=some o->b≠Dd:=λb o e=>dS (cW (bH e) hD)
 refine I.call (h':=hh) (g':=gg) (d':=dd) (t':=tt) (ch:=fp) ⟨un.keep,un.slot,λb o e n' hx=>?_,un.there,λb ys e=>?_,λb o u e=>?_,λb ps e=>?_⟩ (Gy aK hn ⟨hz,its,n,rv,hd⟩) bare λb hb=>?_
 ·rw[bD (GA b o e)];exact un.free b o e n' hx
 ·have q:=un.kn b ys e
  rw[bD (gI q hn)];exact q
 ·have q:=un.jS b o u e
  rw[bD (gI q hn)];exact q
 ·obtain⟨more,q⟩:=un.ko b ps e
  exact⟨more,by rw[bD (gI q hn)];exact q⟩
 ·obtain⟨f0,f1,f2,f3,f4,f5⟩:=hf b hb
  exact⟨f3.imp_right λz=>wF z,f1,f4,f5⟩
theorem w0e{X:Cx}{x0 y:Str}{scope:dA}{C:Addr}{fp:List Addr}{pins:List (Addr×Obj)}{σ:St}{ax:Hp}{aq:ah}(I:Inv X pins σ ax aq)(c:Cu X.N X.env x0 y scope)(hC:aq.heap.objs.size<=C)(hf:∀b∈fp,fx X pins ax b)(ho:∀b∈fp,b<aq.heap.objs.size) :
 (gf X x0 y scope C aq ax fp (X.pn++pins)).Ok:=by
 have cells:∀x k,(cI X.env scope.names []).lookup x=some k->X.env.cells.lookup x=some k:=λx k e=>by
  rcases j6 scope.names [] (iq e) with q | q
  ·simp at q
  ·exact q
 refine⟨I.ok.mod,c.kind,I.ok.glob,I.ok.blt,hC,λx z k h1 h2=>I.ok.inj x z k (cells x k h1) (cells z k h2),λx hx=>?_,λx k h _=>absurd h (by simp[gf]),I.ok.hd,I.ok.frames,.inl rfl,λb hb=>?_,I.bs,dD I.ok.jT I.sz,λb o e hb=>?_,λb hb z=>?_,I.stack,I.Ar⟩
 ·have uV:(iS scope X.env).names.lookup x=some .cell∨(iS scope X.env).names.lookup x=some .free:=hx
  have hm:∃k,(x,k)∈scope.names/\(k = .free∨k = .cell):=by
   rcases uV with q | q <;>
   ·have m:=iq q
    unfold iS at m
    simp only[K5] at m
    obtain⟨⟨n,k⟩,hm,e⟩:=m
    by_cases hc:(k==q_&&X.env.scope.kind == .function&&X.env.kindOf n==some .cell)=true
    ·rw[if_pos hc] at e
     have e1:n=x:=congrArg uD e
     subst e1
     rw[ir,ir] at hc
     exact⟨k,hm,.inl (B_ hc.1.1)⟩
    ·rw[if_neg hc] at e
     have e1:n=x:=congrArg uD e
     have e2:=congrArg Ae e
     dsimp only at e2
     subst e1 e2
     exact⟨_,hm,by first | exact .inr rfl | exact .inl rfl⟩
  obtain⟨k,hm,hk⟩:=hm
  rcases hk with rfl | rfl
  ·obtain⟨⟨a,ea⟩,_⟩:=c.free _ hm rfl
   obtain⟨c',h1,_⟩:=tV (tU ea scope.names [] hm)
   exact⟨c',h1⟩
  ·exact absurd rfl (c.ph _ hm)
 ·refine⟨dS (cW (ho b hb) hC),λx k e=>(hf b hb).2.2.2.2.1 x k (cells x k e)⟩
 ·rcases(hf b hb).2.2.2.1 with z | z
  ·exact I.ok.pT b o e z
  ·exact absurd (cW (cW (bH e) I.ok.jT) z) (lT _)
 ·rcases List.mem_cons.mp (I.md b z) with q | q
  ·exact(hf b hb).2.1 q
  ·exact(hf b hb).2.2.1 q
section
variable {X:Cx}{x0 y:Str}{scope:dA}
theorem y9p{C Dd:Addr}{fp:List Addr}{pins:List (Addr×Obj)}{σ:St}{ax:Hp}{aq:ah}{cN:Heap}{tk:Nat}{oD:Obj}{m:Str->Option Value}(I:Inv X pins σ ax aq)(c:Cu X.N X.env x0 y scope)(hC:aq.heap.objs.size<=C)(hD:aq.heap.objs.size<=Dd)(dh:Dd≠C)(hf:∀b∈fp,fx X pins ax b)(ho:∀b∈fp,b<aq.heap.objs.size)
 (old:∀b o,aq.heap.get? b=some o->cN.get? b=some o) (rm:cN.Ns C m) (hd:cN.get? Dd=some oD) (GC:∀v,oD.data ≠ .cell v) :
 Inv (gf X x0 y scope C aq ax fp (X.pn++pins)) [(Dd,oD)] (none::none::σ) ax { aq with heap:=cN,toks:=tk }:=by
 have cells:∀x k,(cI X.env scope.names []).lookup x=some k->X.env.cells.lookup x=some k:=λx k e=>by
  rcases j6 scope.names [] (iq e) with q | q
  ·simp at q
  ·exact q
 have GD:∀b,aq.heap.objs.size<=b->b ∉ dj X.stack:=λb hb z=>by
  rcases List.mem_cons.mp (I.md b z) with q | q
  ·exact absurd (cW I.lt (by rw[<-q];exact hb)) (lT _)
  ·exact I.Aq hb q
 refine⟨w0e I c hC hf ho,rfl,I.bare,Un.kept old,⟨m,rm,λi x v e1 e2 e3=>?_⟩,λx k e=>?_,I.aK.fresh hC,λx k e=>I.jz x k (cells x k e),λp hp=>?_,I.aK.kept old,?_⟩
 ·cases i with
  | zero=>simp at e2
  | succ i =>
  cases i with
  | zero=>simp at e2
  | succ i =>
    have y1:σ[i]? = some (some v):=by simpa using e2
    have hG:(X.N.map (λz=>if z=x0∨z=y then ("":Str) else z))[i]? = some x:=by simpa [gf] using e1
    rw[eZ] at hG
    cases hz:X.N[i]? with
    | none=>rw[hz] at hG;cases hG
    | some z =>
      rw[hz] at hG
      simp only[KO,z_] at hG
      have tX:kR (iS scope X.env) x:=e3
      have oa:∀{k:oF},(iS scope X.env).names.lookup x=some k->∃k',(x,k')∈scope.names/\(k'=k∨(k' = .free/\k = .cell)):=λ{k} q=>by
       have m':=iq q
       unfold iS at m'
       simp only[K5] at m'
       obtain⟨⟨n,k0⟩,hm,e⟩:=m'
       by_cases hc:(k0==q_&&X.env.scope.kind == .function&&X.env.kindOf n==some .cell)=true
       ·rw[if_pos hc] at e
        have e1:n=x:=congrArg uD e
        have e2:=congrArg Ae e
        dsimp only at e2
        subst e1 e2
        rw[ir,ir] at hc
        exact⟨k0,hm,.inr ⟨B_ hc.1.1,rfl⟩⟩
       ·rw[if_neg hc] at e
        have e1:n=x:=congrArg uD e
        have e2:=congrArg Ae e
        dsimp only at e2
        subst e1 e2
        exact⟨_,hm,.inl rfl⟩
      have GF:∀k',(x,k')∈scope.names->x≠("":Str):=λk' hm z=>by
       subst z
       obtain⟨c',h1,_⟩:=tV hm
       rw[c.nil] at h1;cases h1
      have ne:x≠("":Str):=by
       rcases tX with q | q | q<;>(obtain⟨k',hm,_⟩:=oa q;exact GF k' hm)
      by_cases n_:z=x0∨z=y
      ·rw[if_pos n_] at hG;exact absurd hG.symm ne
      ·rw[if_neg n_] at hG
       subst hG
       have fr:(z,q_)∈scope.names:=by
        rcases tX with q | q | q
        ·obtain⟨k',hm,hk⟩:=oa q
         rcases hk with rfl | ⟨_,hk⟩
         ·exact absurd (c.only z (sr hz) (c.names _ hm rfl)) n_
         ·cases hk
        ·obtain⟨k',hm,hk⟩:=oa q
         rcases hk with rfl | ⟨rfl,_⟩
         ·exact absurd rfl (c.ph _ hm)
         ·exact hm
        ·obtain⟨k',hm,hk⟩:=oa q
         rcases hk with rfl | ⟨_,hk⟩
         ·exact hm
         ·cases hk
       obtain⟨⟨ca,ZG⟩,hv⟩:=c.free _ fr rfl
       obtain⟨m0,FY,GG⟩:=I.loc
       obtain⟨u,ru,lk⟩:=GG i z v hz y1 (.inr hv)
       refine⟨u,ru,?_⟩
       rcases lk with ⟨q,_⟩ | ⟨_,k,ek,hk⟩
       ·exfalso
        have q':X.env.scope.names.lookup z=some .local:=q
        rcases hv with w | w<;>(rw[q'] at w;cases w)
       ·obtain⟨c',h1,_⟩:=tV (tU ek scope.names [] fr)
        have h2:=cells z c' h1
        rw[ek] at h2;cases h2
        refine .inr ⟨?_,k,h1,?_⟩
        ·rcases tX with q | q | q
         ·exfalso
          obtain⟨k',hm,fY⟩:=oa q
          rcases fY with rfl | ⟨_,fY⟩
          ·exact n_ (c.only z (sr hz) (c.names _ hm rfl))
          ·cases fY
         ·exact .inl q
         ·exact .inr q
        ·obtain⟨o,dO,pU⟩:=hk
         exact⟨o,old _ _ dO,pU⟩
 ·obtain⟨v,o,dO,pU⟩:=I.cell x k (cells x k e)
  exact⟨v,o,old _ _ dO,pU⟩
 ·rcases List.mem_append.mp hp with q | q
  ·obtain⟨h1,h2,h3,h4,h5⟩:=I.pin p q
   refine⟨old _ _ h1,h2,dS (cW (bH h1) hC),λz=>?_,h5⟩
   rcases List.mem_cons.mp (I.md p.1 z) with q' | q'
   ·exact h3 q'
   ·exact h4 q'
  ·have e:p=(Dd,oD):=by simpa using q
   subst e
   exact⟨hd,I.aK.fresh hD,dh,GD Dd hD,GC⟩
 ·show σ.length+1+1=(x0::y::X.N.map _).length
  rw[cx,cx,a6,I.len]
structure Hc (X:Cx) (x0 y:Str) (scope:dA) (ifs:List Expr) (elt:Expr) (f:D->D->G->R (Option D)):Prop where
 run:∀(C:Addr) (aq:ah) (ax:Hp) (fp:List Addr) (pn:List (Addr×Obj)) (pins:List (Addr×Obj)) (s:ah) (σ:St) (H:Hp) (F:List Addr) (Γ:G) (d d2:D),Inv (gf X x0 y scope C aq ax fp pn) pins σ H s->bI H F->Rel X.K H F (.ro d :: .ro d2::Γ) σ->(∃o,f d d2 Γ = .ok o) ->
  au (aB X.prog X.w) X.A (forIn ifs true λc r=>if r=true then do let ok <-oE c (gH scope (cI X.env scope.names []) C X.env) (eval c (gH scope (cI X.env scope.names []) C X.env));pure (oN ok) else pure (oN r)) (λok fQ =>
   if ok=true then au (aB X.prog X.w) X.A (eval elt (gH scope (cI X.env scope.names []) C X.env)) (λu du=>∃e v H',f d d2 Γ = .ok (some e)/\Inv (gf X x0 y scope C aq ax fp pn) pins σ H' du/\RelV v u/\aO H H'/\Is X.K (aF F H') e v) (λ_ _=>False) fQ
   else f d d2 Γ = .ok none/\∃H',Inv (gf X x0 y scope C aq ax fp pn) pins σ H' fQ/\aO H H') (λ_ _=>False) s
theorem x8u{elt c:Expr}{gc:G->R Bool}{ge:G->R D}(hc:∀C aq ax fp pn,i5 (gf X x0 y scope C aq ax fp pn) c gc)(he:∀C aq ax fp pn,jj (gf X x0 y scope C aq ax fp pn) elt ge):Hc X x0 y scope [c] elt (uZ gc ge):=by
 refine⟨λC aq ax fp pn pins s σ H F Γ d d2 I fo rl ⟨o,eo⟩=>?_⟩
 have aS:gc (.ro d :: .ro d2::Γ) ≠ .no:=λz=>by unfold uZ at eo;rw[z] at eo;cases eo
 refine a9e (av ((hc C aq ax fp pn).run pins s σ H F (.ro d :: .ro d2::Γ) I fo rl aS) (λk s3 ⟨H1,e1,I1,S1⟩=>?_) λx s' ⟨c',H',e1,_⟩=>?_)
 ·have og:(if k=true then ge (.ro d :: .ro d2::Γ)>>=λe=>R.ok (some e) else .ok none) = .ok o:=by
   unfold uZ at eo;rw[e1] at eo;exact eo
  cases k with
  | false =>
    rw[if_neg sv]
    exact⟨R.step e1 _,H1,I1,S1⟩
  | true =>
    rw[if_pos rfl] at og ⊢
    have GH:ge (.ro d :: .ro d2::Γ) ≠ .no:=λz=>by rw[z] at og;cases og
    refine av ((he C aq ax fp pn).run pins s3 σ H1 F (.ro d :: .ro d2::Γ) I1 (fo.same S1) (rl.same S1) GH) (λu s4 ⟨e,v,H',e2,I',rv,S,iv⟩=>⟨e,v,H',(R.step e1 _).trans (R.step e2 _),I',rv,S1.trans S,iv⟩) λx s' ⟨c',H',e2,_⟩=>?_
    rw[e2] at og;cases og
 ·unfold uZ at eo;rw[e1] at eo;cases eo
def Cv(K:aA)(H:Hp)(F:List Addr)(J:It)(ds:List D):Prop:=∀H1,aO H H1 ->
 (∀i:Nat,i<ds.length->J.go i H1/\∀v H2,J.Aw i H1 v H2->aO H1 H2/\∃d1 d2 q v1 v2,ds[i]? = some (.tup [d1,d2])/\v = .ref q/\cy K H2 q [v1,v2]/\Is K (aF F H2) d1 v1/\Is K (aF F H2) d2 v2)/\J.stop ds.length H1
theorem x8v{prog:aQ}{w:aN}{A:Around}{Z:pB->ah->Prop}{s0:ah}{elt iter:Expr}{es ifs:List Expr}{kt}{pt pos:Pos}{scope:dA}{it acc:Value}{env:Env}(K:Nat->ah->Prop)
 (one:∀n s,K n s->au (aB prog w) A (sq it) (λr s1=>match r with
   | some v=>au (aB prog w) A (Kn (.Tuple es kt pt) it v) (λ_ s2=>au (aB prog w) A (lX (.Tuple es kt pt) env v) (λ_ s3 =>
      au (aB prog w) A (forIn ifs true λc r=>if r=true then do let ok <-oE c env (eval c env);pure (oN ok) else pure (oN r)) (λok s4 =>
       if ok=true then au (aB prog w) A (eval elt env) (λx s5 =>
        au (aB prog w) A (call (.builtin "list.append") [acc,x]) (λ_ s6=>∃m,m<n/\K m s6) (xg (aB prog w) A env λe s'=>Z (.error e) s') s5) (xg (aB prog w) A env λe s'=>Z (.error e) s') s4
       else ∃m,m<n/\K m s4) (xg (aB prog w) A env λe s'=>Z (.error e) s') s3) (xg (aB prog w) A env λe s'=>Z (.error e) s') s2) (xg (aB prog w) A env λe s'=>Z (.error e) s') s1
   | none=>Z (.ok .next) s1) (xg (aB prog w) A env λe s'=>Z (.error e) s') s)
 (n:Nat) (h0:K n s0):iQ (aB prog w) A (.compLoop (.ListComp elt [⟨.Tuple es kt pt,iter,ifs,0⟩] scope pos) 0 it acc env) Z s0:=by
 refine codeAny_loop rfl K (λn s hK=>?_) n h0
 show au _ A ((compTurn (.ListComp elt [⟨.Tuple es kt pt,iter,ifs,0⟩] scope pos) 0 it acc env).onRaise (λx=>do Lg x env;theTreesLotGoes x)) _ _ s
 refine wpAny_noted ?_
 rw[compTurn_list]
 refine aH (Dr (aH (av (one n s hK) (λr s1 q1=>?_) λ_ _ q=>q)))
 cases r with
 | some v =>
   refine aH (av q1 (λ_ s2 q2=>?_) λ_ _ q=>q)
   refine aH (av q2 (λ_ s3 q3=>aH (av q3 (λok s4 q4=>?_) λ_ _ q=>q)) λ_ _ q=>q)
   cases ok with
   | true=>exact aH (aH (av q4 (λx s5 q5=>aH (av q5 (λ_ s6 q6=>bS (bS ⟨rfl,q6⟩)) λ_ _ q=>q)) λ_ _ q=>q))
   | false=>exact bS ⟨rfl,q4⟩
 | none=>exact bS q1
theorem x3a{elt iter:Expr}{p0 px pt pos:Pos}{kt}{ifs:List Expr}{f:D->D->G->R (Option D)}{pins:List (Addr×Obj)}{σ:St}{ax:Hp}{aq:ah}{F:List Addr}{Γ:G}{items:List D}{it:Addr}{fp:List Addr}{tn:Nat->Heap->Prop}{J:It}{E:Value->ah->Prop}{total:List D}
 (hp:Hc X x0 y scope ifs elt f) (c:Cu X.N X.env x0 y scope) (hN:X.N.Nodup) (fh:X.calm=true) (I:Inv X pins σ ax aq) (fo:bI ax F) (rl:Rel X.K ax F Γ σ) (T:Turn X.prog X.w X.K (.Tuple [.Name x0 p0,.Name y px] kt pt) J fp it tn) (t0:tn 0 aq.heap) (hf:∀b∈fp,fx X pins ax b) (hj:Cv X.K ax F J items)
 (ht:c8 (y0e f Γ) items [] = .ok total) (hl:items.length<=100000) {RR:Value->Addr->pB->ah->Prop}
 (hR:∀(Dd C:Addr) (xs:List V) (H':Hp) (m:Str->Option Value) (s':ah),aq.heap.objs.size<=C->Dd≠C->ax Dd=none->H' Dd=none->H' C=none->aq.heap.objs.size<=Dd->aO ax H'->ao X.K (aF F H') total xs->Inv X pins σ (upd H' Dd (.lst xs)) s'->s'.heap.Ns C m->RR (.ref Dd) C (.ok .next) s') :
 au (aB X.prog X.w) X.A (Af []) (λacc fQ=>au (aB X.prog X.w) X.A (Dn scope X.env.globals (cI X.env scope.names []) [] X.env.qual none .none (some X.env)) (λcenv du =>
  iQ (aB X.prog X.w) X.A (.compStart (.ListComp elt [⟨.Tuple [.Name x0 p0,.Name y px] kt pt,iter,ifs,0⟩] scope pos) 0 (.ref it) acc { cenv with scope:=iS scope X.env }) (RR acc cenv.locals) du) E fQ) E aq:=by
 have ho:∀b∈fp,b<aq.heap.objs.size:=λb hb=>by obtain⟨o,e,_⟩:=T.obj _ _ t0 b hb;exact bH e
 refine pE (K6 c.ph (by intro y hy;simp at hy) (λcN iI gy=>?_) c.kind)
 dsimp only at iI gy ⊢
 generalize j7:aq.heap.push { cls:=.type "list",dict:=none,data:=.seq ([]:List Value).toArray }=H2 at iI gy ⊢
 have j8:H2.objs.size=aq.heap.objs.size+1:=by rw[<-j7,uE]
 generalize GJ:H2.objs.size=C at iI gy j8 ⊢
 generalize oh:aq.heap.objs.size=Dd at j8 ⊢
 obtain⟨⟨dh,hC,hD⟩,below⟩:=Cd j8 oh
 have old:∀b o,aq.heap.get? b=some o->cN.get? b=some o:=λb o e=>by
  refine gy.extBut b o (below b (bH e)).1 ?_
  exact cX _ (j7 ▸ cX _ e)
 have kH:cN.get? Dd=some { cls:=.type "list",dict:=none,data:=.seq ([]:List Value).toArray }:=by
  refine gy.extBut _ _ dh ?_
  refine cX _ ?_
  rw[<-j7,<-oh]
  exact fu _ rfl
 have J0:∀tk,Inv (gf X x0 y scope C aq ax fp (X.pn++pins)) [(Dd,{ cls:=.type "list",dict:=none,data:=.seq ([]:List Value).toArray })] (none::none::σ) ax { aq with heap:=cN,toks:=tk }:=λtk =>
  y9p I c hC hD dh hf ho old iI kH (λv z=>nomatch z)
 have t1:tn 0 cN:=T.keep _ _ _ t0 λb hb o e=>old b o e
 have j9:∀{H':Hp} {o:Obj},(∀b∈fp,H' b=none)->∀b∈fp,fx (gf X x0 y scope C aq ax fp (X.pn++pins)) [(Dd,o)] H' b:=λ{H' o} hn b hb=>by
  obtain⟨f0,f1,f2,f3,f4,f5⟩:=hf b hb
  have lt:=ho b hb
  refine⟨hn b hb,(below b lt).1,λz=>?_,.inl hb,λx k e=>?_,λp bG=>?_⟩
  ·rcases List.mem_cons.mp (I.md b z) with q | q
   ·exact f1 q
   ·exact f2 q
  ·rcases j6 scope.names [] (iq e) with q | q
   ·simp at q
   ·exact f4 x k q
  ·rcases List.mem_append.mp bG with q | q
   ·exact f5 p q
   ·have e:p=(Dd,o):=by simpa using q
    subst e
    exact dM (below b lt).2
 have sd:(gf X x0 y scope C aq ax fp (X.pn++pins)).N.Nodup:=by
  show(x0::y::X.N.map (λz=>if z=x0∨z=y then ("":Str) else z)).Nodup
  have ne0:∀q:Str,scope.names.lookup q=some .local->q ∉ X.N.map (λz=>if z=x0∨z=y then ("":Str) else z)∨True:=λ_ _=>.inr trivial
  have out:∀q:Str,scope.names.lookup q=some .local->(q=x0∨q=y)->q ∉ X.N.map (λz=>if z=x0∨z=y then ("":Str) else z):=λq hq hqq z=>by
   obtain⟨z',hz,e⟩:=List.mem_map.mp z
   by_cases w':z'=x0∨z'=y
   ·rw[if_pos w'] at e
    subst e
    rw[c.nil] at hq;cases hq
   ·rw[if_neg w'] at e
    subst e
    exact w' hqq
  refine List.nodup_cons.mpr ⟨λz=>?_,List.nodup_cons.mpr ⟨out y c.loc.2.1 (.inr rfl),?_⟩⟩
  ·rcases List.mem_cons.mp z with e | e
   ·exact c.loc.2.2.1 e
   ·exact out x0 c.loc.1 (.inl rfl) e
  ·have inj:∀a∈X.N,∀b∈X.N,(if a=x0∨a=y then ("":Str) else a)=(if b=x0∨b=y then ("":Str) else b)->a=b∨((a=x0∨a=y)/\(b=x0∨b=y)):=λa ha b hb e=>by
    by_cases qa:a=x0∨a=y
    ·by_cases qb:b=x0∨b=y
     ·exact .inr ⟨qa,qb⟩
     ·rw[if_pos qa,if_neg qb] at e;exact absurd e.symm ((c.none.resolve_right λz=>qa.elim (λe=>z.1 (e ▸ ha)) λe=>z.2 (e ▸ ha)) b hb)
    ·by_cases qb:b=x0∨b=y
     ·rw[if_neg qa,if_pos qb] at e;exact absurd e ((c.none.resolve_right λz=>qb.elim (λe=>z.1 (e ▸ hb)) λe=>z.2 (e ▸ hb)) a ha)
     ·rw[if_neg qa,if_neg qb] at e;exact .inl e
   have gen:∀l:List Str,(∀a∈l,a∈X.N)->l.Nodup->(l.map (λz=>if z=x0∨z=y then ("":Str) else z)).Nodup:=by
    intro l
    induction l with
    | nil=>intro _ _;exact K7
    | cons a l ih =>
      intro hs nd
      obtain⟨n1,n2⟩:=List.nodup_cons.mp nd
      rw[e8]
      refine List.nodup_cons.mpr ⟨λz=>?_,ih (λb hb=>hs b (dJ _ hb)) n2⟩
      obtain⟨b,hb,e⟩:=List.mem_map.mp z
      rcases inj b (hs b (dJ _ hb)) a (hs a fi) e with q | q
      ·exact n1 (q ▸ hb)
      ·have ha:=hs a fi
       have xR:=hs b (dJ _ hb)
       have zp:b≠a:=λz=>n1 (z ▸ hb)
       have both:x0∈X.N/\y∈X.N:=by
        rcases q.1 with rfl | rfl<;>rcases q.2 with rfl | rfl
        ·exact absurd rfl zp
        ·exact⟨xR,ha⟩
        ·exact⟨ha,xR⟩
        ·exact absurd rfl zp
       rcases c.loc.2.2.2 with z | z
       ·exact z both.1
       ·exact z both.2
   exact gen X.N (λ_ h=>h) hN
 let L:Nat->ah->Prop:=λn s'=>∃(i:Nat) (H':Hp) (o o2:Option V) (xs:List V) (its:List Value) (acc:List D) (k:Nat),n=items.length-i/\i<=items.length/\Inv (gf X x0 y scope C aq ax fp (X.pn++pins)) [(Dd,{ cls:=.type "list",dict:=none,data:=.seq its.toArray k })] (o::o2::σ) H' s' /\
  aO ax H'/\(∀b∈fp,H' b=none)/\tn i s'.heap/\Vals xs its/\acc.length<=i/\ao X.K (aF F H') acc xs/\c8 (y0e f Γ) (items.drop i) acc = .ok total
 have loop:∀du:ah,L items.length du->iQ (aB X.prog X.w) X.A (.compLoop (.ListComp elt [⟨.Tuple [.Name x0 p0,.Name y px] kt pt,iter,ifs,0⟩] scope pos) 0 (.ref it) (.ref Dd) (gH scope (cI X.env scope.names []) C X.env)) (RR (.ref Dd) C) du:=λdu h4=>by
  refine x8v L (λn s' hL=>av (E:=λ_ _=>False) ?_ (λ_ _ q=>q) λ_ _ z=>z.elim) items.length h4
  obtain⟨i,H',o,o2,xs,its,acc,k,en,hi,J',S',oi,oj,rv,om,ia,eg⟩:=hL
  obtain⟨tY,tZ⟩:=hj H' S'
  have GK:=J'.pin (Dd,{ cls:=.type "list",dict:=none,data:=.seq its.toArray k }) (b8 _ (by simp))
  have jk:xs.length<=100000:=by rw[<-ia.length];exact dD om (dD hi hl)
  have iY:(100000:Nat)<=bR:=by rw[ju];decide
  by_cases cw:i<items.length
  ·obtain⟨go,yl⟩:=tY i cw
   refine fE (T.item (gf X x0 y scope C aq ax fp (X.pn++pins)) rfl rfl rfl fh i _ s' _ H' (λ_ _=>False) J' (j9 oi) oj go) λr s2 ⟨u,hr,h1⟩=>?_
   subst hr
   refine av h1 (λ_ s2 ⟨x,H5,J5,r5,y5,ij,qv⟩=>?_) λ_ _ z=>z.elim
   obtain⟨S5,d1,d2,q,v1,v2,ed,rfl,sq5,iv1,iv2⟩:=yl x H5 y5
   have t5:=J5.pinned (j9 qv) (T.obj _ _ ij)
   have S6:=S'.trans S5
   have t6:items.drop i = .tup [d1,d2]::items.drop (i+1):=by
    rw[K8 cw]
    have:items[i] = .tup [d1,d2]:=by
     have:=eO cw
     rw[ed] at this;exact(kK this).symm
    rw[this]
   rw[t6] at eg
   have GL:∃od,f d1 d2 Γ = .ok od/\(match od with | some e=>c8 (y0e f Γ) (items.drop (i+1)) (acc++[e]) | none=>c8 (y0e f Γ) (items.drop (i+1)) acc) = .ok total:=by
    unfold c8 at eg
    have ep:y0e f Γ (.tup [d1,d2])=f d1 d2 Γ:=rfl
    rw[ep] at eg
    cases q:f d1 d2 Γ with
    | no=>rw[q] at eg;cases eg
    | er c'=>rw[q] at eg;cases eg
    | ok od =>
      refine⟨od,rfl,?_⟩
      rw[q] at eg
      cases od with
      | none=>exact eg
      | some e=>exact eg
   obtain⟨od,t7,qw⟩:=GL
   have qx:PG (gf X x0 y scope C aq ax fp (X.pn++pins)).bT (.Tuple [.Name x0 p0,.Name y px] kt pt) (L2.fT X.K 2 (L2.ae (sM 0) (L2.ae (sM 1) L2.ak))) :=
    Uv (X:=(gf X x0 y scope C aq ax fp (X.pn++pins)).bT) fh (LM (uN (X:=(gf X x0 y scope C aq ax fp (X.pn++pins)).bT) sd rfl (.inl (pO c.loc.1)) (.inr (pO c.loc.1))) (LM (uN (X:=(gf X x0 y scope C aq ax fp (X.pn++pins)).bT) sd rfl (.inl (pO c.loc.2.1)) (.inr (pO c.loc.2.1))) Uu rfl) rfl) rfl rfl
   refine av (qx _ s2 (o::o2::σ) H5 (.ref q) u (λaE H'=>aE=some v1::some v2::σ/\H'=H5) (t5.dm _) r5 ⟨q,[v1,v2],rfl,sq5,rfl,v1,[v2],rfl,v2,[],rfl,rfl,rfl,rfl⟩) (λ_ s3 ⟨vX,H6,J6,e6,qy⟩=>?_) λ_ _ z=>z.elim
   subst e6 qy
   have t8:=J6.eQ
   have t9:=fo.same S6
   have back:∀{s5:ah} {H7:Hp} {cP:St},Inv (gf X x0 y scope C aq ax fp (X.pn++pins)) ([(Dd,{ cls:=.type "list",dict:=none,data:=.seq its.toArray k })]++jU fp s2.heap) cP H7 s5->tn (i+1) s5.heap/\(∀b∈fp,H7 b=none):=λ{s5 H7 cP} J7=>by
    refine⟨T.keep _ _ _ ij λb hb o' e=>(J7.pin (b,o') (b8 _ (b8 _ (nv hb e)))).1,λb hb=>?_⟩
    obtain⟨o',e,dd⟩:=T.obj _ _ ij b hb
    exact(J7.pin (b,o') (b8 _ (b8 _ (nv hb e)))).2.1
   refine av (hp.run C aq ax fp (X.pn++pins) _ s3 _ H6 F Γ d1 d2 t8 t9 (Cc (Cc (rl.same S6) iv2) iv1) ⟨od,t7⟩) (λok s4 h4=>?_) λ_ _ z=>z.elim
   cases ok with
   | false =>
     rw[if_neg sv] at h4 ⊢
     obtain⟨ef,H7,J7,S7⟩:=h4
     rw[t7] at ef;cases ef
     obtain⟨lF,lG⟩:=back J7
     exact⟨items.length-(i+1),vW en cw,i+1,H7,some v1,some v2,xs,its,acc,k,rfl,cw,J7.ny,S6.trans S7,lG,lF,rv,Tr om,ia.same (g7 (S5.trans S7)),qw⟩
   | true =>
     rw[if_pos rfl] at h4 ⊢
     refine av h4 (λu7 s5 ⟨e,v7,H7,ef,J7,r7,S7,y6⟩=>?_) λ_ _ z=>z.elim
     rw[t7] at ef;cases ef
     obtain⟨lF,lG⟩:=back J7
     have J8:=J7.ny
     have iJ:=J8.pin (Dd,{ cls:=.type "list",dict:=none,data:=.seq its.toArray k }) (b8 _ (by simp))
     have hlen:its.length=acc.length:=by rw[<-rv.length,<-ia.length]
     refine K9 (l:=Dd) (items:=its.toArray) (x:=u7) ⟨k,iJ.1⟩ (λh' kI j_=>?_) (by rw[cY,<-rv.length];exact dD jk iY)
     obtain⟨k',fY⟩:=kI
     have t_:its.toArray.push u7=(its++[u7]).toArray:=by simp
     rw[t_] at fY
     have J9:Inv (gf X x0 y scope C aq ax fp (X.pn++pins)) [] (some v1::some v2::σ) H7 s5:=J8.me λp bG=>by simp at bG
     have ua:Inv (gf X x0 y scope C aq ax fp (X.pn++pins)) [] (some v1::some v2::σ) H7 { s5 with heap:=h' }:=J9.turned (t':=s5.toks) (it:=Dd) (λb o' hb e'=>(j_.2 b hb).trans e') iJ.2.1 dh (.inr hD) (λx' oo e' z=>by
      rcases j6 scope.names [] (iq e') with q | q
      ·simp at q
      ·obtain⟨v',o',dO,_⟩:=I.cell x' oo q
       exact(below oo (bH dO)).2 z) (λp bG z=>by
      rcases List.mem_append.mp bG with q | q
      ·obtain⟨ik,_⟩:=I.pin p q
       exact(below p.1 (bH ik)).2 z
      ·simp at q)
     have ub:Inv (gf X x0 y scope C aq ax fp (X.pn++pins)) [(Dd,{ cls:=.type "list",dict:=none,data:=.seq (its++[u7]).toArray k' })] (some v1::some v2::σ) H7 { s5 with heap:=h' }:=ua.me λp bG=>by
      have e':p=(Dd,{ cls:=.type "list",dict:=none,data:=.seq (its++[u7]).toArray k' }):=by simpa using bG
      subst e'
      exact⟨fY,iJ.2.1,dh,iJ.2.2.2.1,λv z=>nomatch z⟩
     refine⟨items.length-(i+1),vW en cw,i+1,H7,some v1,some v2,xs++[v7],its++[u7],acc++[e],k',rfl,cw,ub,S6.trans S7,lG,T.keep _ _ _ lF λb hb o' e'=>(j_.2 b (below b (ho b hb)).2).trans e',rv.append (.cons r7 .nil),by rw[dW,KA];exact Ts om,(ia.same (g7 (S5.trans S7))).append (ao.cons y6 ao.nil),qw⟩
  ·have qz:i=items.length:=K_ hi (C4 cw)
   subst qz
   refine fE (T.done (gf X x0 y scope C aq ax fp (X.pn++pins)) rfl rfl rfl fh _ _ s' _ H' (λ_ _=>False) J' (j9 oi) oj tZ) λr s1 ⟨hr,J1⟩=>?_
   subst hr
   have ka:=J1.pin (Dd,{ cls:=.type "list",dict:=none,data:=.seq its.toArray k }) (b8 _ (by simp))
   rw[C9] at eg
   have:acc=total:=by unfold c8 at eg;cases eg;rfl
   subst this
   obtain⟨mC,iK,_⟩:=J1.loc
   exact hR Dd C xs H' mC s1 hC dh (I.aK.fresh hD) ka.2.1 J1.free hD S' ia (x2z I J1 hD ka.2.1 ka.1 rv (dD jk iY) hf) iK
 have L0:∀tk,L items.length { aq with heap:=cN,toks:=tk }:=λtk=>⟨0,ax,none,none,[],[],[],_,rfl,ni _,J0 tk,.refl _,λb hb=>(hf b hb).1,t1,.nil,a7 _,ao.nil,by rw[zY];exact ht⟩
 exact La (loop _ (L0 _)) (T.self _ 0 _ _ _ t1 (loop _ (L0 _)))
theorem x8r{elt iter:Expr}{p0 px pt pos:Pos}{kt}{ifs:List Expr}{f:D->D->G->R (Option D)}{gi:G->R (List D)}(hi:kG Cv X (.Tuple [.Name x0 p0,.Name y px] kt pt) iter gi)(hp:Hc X x0 y scope ifs elt f)(hN:X.N.Nodup)(fh:X.calm=true)
 (oq:Hb X.N X.env x0 y scope=true:=by rfl) (lH:w9 scope X.env=pure (cI X.env scope.names []):=by rfl) (hs:∀x,uF iter X.env x=pure x:=by intro _;rfl) :
 PF X (.ListComp elt [⟨.Tuple [.Name x0 p0,.Name y px] kt pt,iter,ifs,0⟩] scope pos) (y4r gi f):=by
 refine⟨λpins s σ H F Γ I fo rl hg=>?_⟩
 have c:=x2y oq
 rw[Lb]
 refine Dp (use:=none) rfl hs lH c.kind c.names (av (hi.run pins s σ H F Γ I fo rl (R.left hg)) (λxv cq cN=>av cN (λkW aq qA=>?_) λ_ _ x=>x.bind _) λ_ _ x=>x.bind _)
 obtain⟨items,it,fp,tn,J,ax,e1,rfl,I2,S2,T,t0,fk,jc⟩:=qA
 have fg:=R.next hg e1
 obtain⟨hl,e2⟩:=R.cT fg
 have aS:c8 (y0e f Γ) items [] ≠ .no:=by
  have:=R.next hg e1
  rw[e2] at this;exact this
 obtain⟨total,et⟩:=xM aS
 refine x3a (RR:=λacc C=>Dq (aB X.prog X.w) X.A _ none _ acc C) hp c hN fh I2 (fo.same S2) (rl.same S2) T t0 fk jc et hl ?_
 intro Dd C xs H' m s' hC dh hn gX iK hD S' ia I' ot
 refine⟨m,ot,λjl jM=>?_⟩
 have gR:∀{b:Addr} {o:Obj},aq.heap.get? b=some o->b≠C:=λe=>dS (cW (bH e) hC)
 have qB:Inv X pins σ (upd H' Dd (.lst xs)) { s' with heap:=jl }:=I'.turned (t':=s'.toks) (it:=C) (λb o hb e=>jM.extBut b o hb e) (by rw[bD (dM dh)];exact iK) (nc (cW I2.lt hC)) (.inr (dD I2.sz hC))
  (λx k e=>by obtain⟨v,o,ho,_⟩:=I2.cell x k e;exact gR ho) (λp bG=>gR (I2.pin p bG).1)
 have S3:=gP gX (.lst xs)
 refine⟨total,Dd,xs,_,(R.step e1 _).trans (e2.trans et),qB,rfl,(S2.trans S').trans S3,S2.free hn,dc,ia.same λb o hb=>?_⟩
 obtain⟨z1,z2⟩:=iF hb
 have fJ:b≠Dd:=gI z2 gX
 rw[da λz=>(List.mem_cons.mp z).elim fJ z1,bD fJ]
 exact z2
end
section
variable {prog:aQ}{w:aN}{A:Around}{E:Value->ah->Prop}{s:ah}
end
section
variable {prog:aQ}{w:aN}{A:Around}{E:Value->ah->Prop}{s:ah}{b1 b2:Bool}
end
section
variable {prog:aQ}{w:aN}{A:Around}{E:Value->ah->Prop}{s:ah}{b1 b2:Bool}
end
section
variable {X:Cx}{pins:List (Addr×Obj)}{σ:St}{H:Hp}{s:ah}{h':Heap}
theorem w6z{ch:List Addr}{t':Nat}(I:Inv X pins σ H s)(hf:∀b∈ch,fx X pins H b)(k:∀b o,b ∉ ch->s.heap.get? b=some o->h'.get? b=some o):Inv X pins σ H { s with heap:=h',toks:=t' }:=by
 have rj:∀b u,H b=some u->b ∉ ch:=λb u e z=>by rw[(hf b z).1] at e;cases e
 have nL:X.env.locals ∉ ch:=λz=>(hf _ z).2.1 rfl
 refine I.step (g':=s.gens) (d':=s.drawn) (ch:=ch) (λb hb=>?_) (λb o _ _ hc e _=>k b o hc e) (λb o _ _ hc e _=>⟨o.slots,k b o hc e⟩) (λ_ _ _ _ n=>n) (λb o hc e=>⟨o,k b o hc e⟩) (λ_ _ e=>e) (λ_ _ _ e=>e) (λb ps e=>⟨#[],by rw[e];simp⟩) (λm hm=>?_) (λb u e=>?_) I.bare
 ·obtain⟨f0,f1,f2,f3,f4,f5⟩:=hf b hb
  exact⟨f3.imp_right λz=>wF z,f1,f4,f5⟩
 ·obtain⟨o,es,ep,ho,r⟩:=hm
  exact⟨o,es,ep,k _ o nL ho,r⟩
 ·refine(I.aK b u e).kQ (λc v hc q=>k c v ?_ q) (λ_ q=>q) λ_ _ q=>q
  rcases hc with z | z
  ·rw[z];exact rj b u e
  ·exact rj c _ z
theorem w6y{ch:List Addr}{t':Nat}{T:Addr}{xs:List V}{its:List Value}(I:Inv X pins σ H s)(hf:∀b∈ch,fx X pins H b)(k:∀b o,b ∉ ch->s.heap.get? b=some o->h'.get? b=some o)(hT:s.heap.objs.size<=T)(hz:xs.length<=bR)(rv:Vals xs its)(ht:l_ h' T its.toArray):Inv X pins σ (upd H T (.tup xs)) { s with heap:=h',toks:=t' }:=by
 have rj:∀b u,H b=some u->b ∉ ch:=λb u e z=>by rw[(hf b z).1] at e;cases e
 have nL:X.env.locals ∉ ch:=λz=>(hf _ z).2.1 rfl
 have hn:H T=none:=I.aK.fresh hT
 have neT:∀b o,s.heap.get? b=some o->b≠T:=λb o e=>dS (cW (bH e) hT)
 have nT:∀b u,H b=some u->b≠T:=λb u e=>gI e hn
 refine I.step (g':=s.gens) (d':=s.drawn) (ch:=ch) (λb hb=>?_) (λb o _ _ hc e _=>k b o hc e) (λb o _ _ hc e _=>⟨o.slots,k b o hc e⟩) (λb o _ e n=>by rw[bD (neT b o e)];exact n) (λb o hc e=>⟨o,k b o hc e⟩)
  (λb u e=>by rw[bD (nT b _ e)];exact e) (λb o u e=>by rw[bD (nT b _ e)];exact e) (λb ps e=>⟨#[],by rw[bD (nT b _ e),e];simp⟩) (λm hm=>?_) (λb u e=>?_) I.bare
 ·obtain⟨f0,f1,f2,f3,f4,f5⟩:=hf b hb
  exact⟨f3.imp_right λz=>wF z,f1,f4,f5⟩
 ·obtain⟨o,es,ep,ho,r⟩:=hm
  exact⟨o,es,ep,k _ o nL ho,r⟩
 ·by_cases hb:b=T
  ·subst hb
   rw[dc] at e
   cases e
   exact⟨hz,its,rv,ht⟩
  ·rw[bD hb] at e
   refine(I.aK b u e).kQ (λc v hc q=>k c v ?_ q) (λc q=>by rw[bD (nT c _ q)];exact q) λc u' q=>by rw[bD (nT c _ q)];exact q
   rcases hc with z | z
   ·rw[z];exact rj b u e
   ·exact rj c _ z
def Sq(b:Bool)(K:aA)(H:Hp)(l:Addr)(xs:List V):Prop:=if b=true then b9 K H l xs else cy K H l xs
end
section
variable {X:Cx}{a b:Expr}{ga gb:G->R D}
end
section
variable {X:Cx}{e a b c:Expr}{g ga gb gc:G->R D}{pos:Pos}
end
def Hd(K:aA)(l:Addr):It :=
 ⟨λi H=>∃xs x,b9 K H l xs/\xs[i]? = some x,
  λi H v H'=>∃T x,v = .ref T/\H T=none/\H'=upd H T (.tup [.int (i:Int),x])/\∀xs,b9 K H l xs->xs[i]? = some x,
  λi H=>∃xs,b9 K H l xs/\xs.length<=i⟩
theorem x3m{P:aQ}{w:aN}{K:aA}{elts:List Expr}{kt}{pt:Pos}{e it l:Addr}(Pq:e≠it):Turn P w K (.Tuple elts kt pt) (Hd K l) [e,it] e (λi h=>(∃old,IsEnum h e it (i:Nat) old)/\h.IsListIter it l i) where
 mem:=by simp
 obj:=λi h ⟨⟨old,q1⟩,q2⟩ c hc=>by
  simp only[kP,oM,or_false] at hc
  rcases hc with rfl | rfl
  ·exact⟨_,q1,λv z=>nomatch z⟩
  ·obtain⟨o,e,c,d⟩:=q2;exact⟨o,e,λv z=>by rw[d] at z;cases z⟩
 keep:=λi h h' ⟨⟨old,q1⟩,q2⟩ k=>⟨⟨old,k e (by simp) _ q1⟩,q2.at λo z=>k it (by simp) o z⟩
 item:=by
  intro X hP hw hK hc i pins s σ H E I hf ⟨⟨old,q1⟩,q2⟩ ⟨xs,x,s1,ex⟩
  subst hP hw hK
  obtain⟨its,rv,p,hz⟩:=I.list s1
  obtain⟨u,hu,ru⟩:=rv.get ex
  refine wpAny_pyNext_enum_item q1 q2 p.isList (x:=u) (by simpa using hu) Pq λh' a1 a2 a3 a4 a5=>⟨_,rfl,?_⟩
  refine wpAny_letOwnedTupleGo_enum (s:={ s with heap:=h',toks:=s.toks+1 }) a1 λjl c1 c2=>?_
  have Te:s.heap.objs.size≠e:=nc (bH q1)
  have kk:∀c o,c ∉ [e,it]->s.heap.get? c=some o->jl.get? c=some o:=λc o hc z=>by
   simp only[kP,oM,or_false,not_or] at hc
   exact c2.extBut _ _ hc.1 (a5 c o hc.1 hc.2 z)
  have tT:l_ jl s.heap.objs.size [mZ i s.toks,u].toArray:=⟨_,c2.extBut _ _ Te a3,rfl,_,rfl⟩
  have I1:=w6y (t':=s.toks+1) (xs:=[.int (i:Int),x]) I hf kk (a7 _) (by rw[ju];exact(by decide:(2:Nat)<=16777216)) (.cons ⟨_,rfl⟩ (.cons ru .nil)) tT
  refine⟨.ref s.heap.objs.size,_,I1,rfl,⟨_,x,rfl,I.aK.fresh (a7 _),rfl,λxs' q=>by rw[I.LK q s1];exact ex⟩,⟨⟨u,c1⟩,a2.extBut c2.extBut (dM Pq)⟩,λc hc=>?_⟩
  rw[bD]
  ·exact(hf c hc).1
  ·intro z
   have ex:∃o,s.heap.get? c=some o:=by
    simp only[kP,oM,or_false] at hc
    rcases hc with rfl | rfl
    ·exact⟨_,q1⟩
    ·obtain⟨o,e,_⟩:=q2;exact⟨o,e⟩
   obtain⟨o,eo⟩:=ex
   exact absurd (bH eo) (by rw[z];exact lT _)
 done:=by
  intro X hP hw hK hc i pins s σ H E I hf ⟨⟨old,q1⟩,q2⟩ ⟨xs,s1,b1j⟩
  subst hP hw hK
  obtain⟨its,rv,p,hz⟩:=I.list s1
  have n1:=rv.length
  refine wpAny_pyNext_enum_end (I.ok.hd hc) q1 q2 p.isList (by simp;lia) λh' kk=>⟨rfl,w6z (t':=s.toks) I hf λc o hc z=>?_⟩
  simp only[kP,oM,or_false,not_or] at hc
  exact kk c o hc.2 z
 self:=λ_ _ _ _ _ st h=>by obtain⟨⟨old,q1⟩,_⟩:=st;exact a9p q1 h
theorem Pr:∀{k:Nat} {xs:List D} {i:Nat} {x:D},xs[i]? = some x->(jf k xs)[i]? = some (.tup [.int ((k+i:Nat):Int),x])
 | _,[],_,_,h=>by simp at h
 | k,a::xs,0,x,h=>by simp at h;subst h;simp[jf]
 | k,a::xs,i+1,x,h=>by
   simp only[jf,List.getElem?_cons_succ] at *
   rw[Pr h,show k+1+i=k+(i+1) by lia]
theorem Pt:∀(k:Nat) (xs:List D),(jf k xs).length=xs.length
 | _,[]=>rfl
 | k,a::xs=>by simp[jf,Pt (k+1) xs]
theorem x9q{K:aA}{H:Hp}{F:List Addr}{l:Addr}{xs:List V}{ds:List D}(h1:b9 K H l xs)(i1:ao K (aF F H) ds xs):Cv K H F (Hd K l) (jf 0 ds):=λH1 S=>by
 have q1:=S.seq h1
 have n1:=i1.length
 have nz:=Pt 0 ds
 refine⟨λi hi=>⟨⟨xs,xs[i]'(by lia),q1,eO (by lia)⟩,λv H2 y=>?_⟩,⟨xs,q1,by lia⟩⟩
 obtain⟨T,x,rfl,hT,rfl,e1⟩:=y
 obtain⟨d,ed,iv⟩:=i1.yT (e1 xs q1)
 have S2:=gP hT (.tup [.int (i:Int),x])
 have eg:=Pr (k:=0) ed
 rw[sA] at eg
 exact⟨S2,.int (i:Int),d,T,.int (i:Int),x,eg,rfl,cy.of dc,Is.bU.mpr rfl,iv.same (g7 (S.trans S2))⟩
theorem x7j:lU ("enumerate":Str)=some (.type "enumerate"):=by decide +kernel
section
variable {X:Cx}{a b:Expr}{ga gb:G->R D}
theorem x4s{elts:List Expr}{kt}{pt p pos:Pos}(ha:PD X a ga)(hm:X.mg "enumerate"=none)(hg:Gl X "enumerate":=by rfl)(hs:aV [a] X.env=[(false,eval a X.env)]:=by rfl) :
 kG Cv X (.Tuple elts kt pt) (.Call (.Name "enumerate" p) [a] [] pos) (y7k ga):=by
 refine⟨λpins s σ H F Γ I fo rl bZ=>?_⟩
 refine wZ (iA I hg hm x7j (pM ?_ hs rfl))
 rw[hs]
 show au _ _ (eE ((false,eval a X.env)::cC pos [])) _ _ s
 refine fw (av (ha.run pins s σ H F Γ I fo rl (R.left bZ)) (λu s1 ⟨d,v,H1,e1,I1,r1,S1,i1⟩=>h_ ?_) λ_ _ x=>x.bind _)
 have aJ:=R.next bZ e1
 cases d with
 | lst ds =>
   obtain⟨n1,e5⟩:=R.cT (show R.guard (D.a_ ds=true) (.ok (jf 0 ds)) ≠ .no from aJ)
   obtain⟨l,xs,rfl,q1,j1⟩:=Is.fm.mp i1
   have He:=ao.aF (fo.same S1) _ xs n1 j1
   cases (show u=ft l from r1)
   obtain⟨its,rv,pl,hz⟩:=I1.list q1
   refine call_enumerate_list pl.isList λh' a1 a2 a3 a4=>?_
   refine a9p (s:={ s1 with heap:=h' }) a1 ?_
   have I3:Inv X pins σ H1 { s1 with heap:=h' }:=I1.kept (t':=s1.toks) a4
   refine⟨jf 0 ds,s1.heap.objs.size+1,_,_,Hd X.K l,H1,(R.step e1 _).trans e5,rfl,I3,S1,x3m (it:=s1.heap.objs.size) (by show @Ne Nat _ _;lia),⟨⟨_,a1⟩,a2⟩,λc hc=>?_,x9q q1 He⟩
   simp only[kP,oM,or_false] at hc
   have zq:s1.heap.objs.size<=c:=by rcases hc with rfl | rfl<;>lia
   exact I1.sN zq (I1.aK.fresh zq)
 | _=>exact absurd rfl aJ
end
section
variable {X:Cx}{e a b c:Expr}{g ga gb gc:G->R D}{pos pos' p:Pos}
theorem Hf(ha:PD X a ga)(he:∀whole,oE a X.env whole=(do let v <-whole;Tg a.pos;Aa [v] (truthy v)):=by intro _;rfl):i5 X a (z9m ga):=by
 refine⟨λpins s σ H F Γ I fo rl hg=>?_⟩
 refine isTrue_plain (av (ha.run pins s σ H F Γ I fo rl (R.left hg)) (λv s1 ⟨d,x,H1,e1,I1,r1,S1,i1⟩=>?_) λ_ _ x=>x.bind _) (he _)
 have aJ:=R.next hg e1
 cases d with
 | lst ds =>
   obtain⟨l,xs,rfl,q1,j1⟩:=Is.fm.mp i1
   cases (show v=ft l from r1)
   obtain⟨its,rv,pl,hz⟩:=I1.list q1
   have n1:=rv.length
   have n2:=j1.length
   refine wpAny_truthy_list pl.isList (by rw[ju] at hz;simp;lia) ⟨H1,(R.step e1 _).trans ?_,I1.tok _,S1⟩
   have:its.toArray.isEmpty=ds.isEmpty:=by
    cases ds with
    | nil=>cases its with
      | nil=>rfl
      | cons z zs=>simp at n1 n2;lia
    | cons d ds=>cases its with
      | nil=>rw[<-n2] at n1;simp at n1
      | cons z zs=>rfl
   rw[this]
 | _=>exact absurd rfl aJ
end
section
variable {X:Cx}{e a b c:Expr}{g ga gb gc:G->R D}{pos pos' p:Pos}{gs:G->R (List D)}
end
def w2u(y:Str)(names:List (Str×oF)):Bool:=decide (names.filter (λp=>p.2 == .cell)=[(y,.cell)])
structure b1k (N:List Str) (env:Env) (y:Str) (scope:dA):Prop where
 kind:scope.kind = .function
 ph:∀p∈scope.names,p.2 ≠ .cell∨p.1=y
 names:∀p∈scope.names,p.2 = .local->scope.names.lookup p.1=some .local
 free:∀p∈scope.names,p.2 = .free->(∃c,env.cells.lookup p.1=some c)/\(env.scope.names.lookup p.1=some .cell∨env.scope.names.lookup p.1=some .free)
 loc:w2u y scope.names=true/\scope.names.lookup y=some .cell
 nil:scope.names.lookup (("":Str))=none
 only:∀z∈N,scope.names.lookup z≠some .local
 none:∀z∈N,z≠("":Str)
def Hg(X:Cx)(y:Str)(scope:dA)(C cc:Addr)(aq:ah)(ax:Hp)(fp:List Addr)(pn:List (Addr×Obj)):Cx :=
 { X with N:=y::X.N.map (λz=>if z=y then ("":Str) else z),s₀:=aq,H₀:=ax,env:=gH scope ((y,cc)::cI X.env scope.names []) C X.env,outer:=X.stack,ex:=fp,fn:=λz=>z==y,pn:=pn,xe:=λ_ _=>False }
section
variable {X:Cx}{y:Str}{scope:dA}
structure b1l (X:Cx) (y:Str) (scope:dA) (ifs:List Expr) (elt:Expr) (f:D->G->R (Option D)):Prop where
 run:∀(C cc:Addr) (aq:ah) (ax:Hp) (fp:List Addr) (pn:List (Addr×Obj)) (pins:List (Addr×Obj)) (s:ah) (σ:St) (H:Hp) (F:List Addr) (Γ:G) (d:D),Inv (Hg X y scope C cc aq ax fp pn) pins σ H s->bI H F->Rel X.K H F (.ro d::Γ) σ->(∃o,f d Γ = .ok o) ->
  au (aB X.prog X.w) X.A (forIn ifs true λc r=>if r=true then do let ok <-oE c (gH scope ((y,cc)::cI X.env scope.names []) C X.env) (eval c (gH scope ((y,cc)::cI X.env scope.names []) C X.env));pure (oN ok) else pure (oN r)) (λok fQ =>
   if ok=true then au (aB X.prog X.w) X.A (eval elt (gH scope ((y,cc)::cI X.env scope.names []) C X.env)) (λu du=>∃e v H',f d Γ = .ok (some e)/\Inv (Hg X y scope C cc aq ax fp pn) pins σ H' du/\RelV v u/\aO H H'/\Is X.K (aF F H') e v) (λ_ _=>False) fQ
   else f d Γ = .ok none/\∃H',Inv (Hg X y scope C cc aq ax fp pn) pins σ H' fQ/\aO H H') (λ_ _=>False) s
end
section
variable {X:Cx}{e:Expr}{pos p:Pos}{x:Str}{es:List Expr}{gs:G->R (List D)}
theorem Pu{P:aQ}{w:aN}{H:Hp}{h:Heap}{F:List Addr}(fo:bI H F)(k:dY P w H h):dY P w (aF F H) h:=λb u e=>by
 have out:∀{c:Addr} {o:HO},H c=some o->(∀xs,o ≠ .lst xs)->aF F H c=some o:=λ{c o} q n=>by
  rw[da λz=>by obtain⟨xs,e⟩:=fo c z;rw[q] at e;cases e;exact n xs rfl];exact q
 exact(k b u (iF e).2).kQ (λc v _ q=>q) (λc q=>out q λxs z=>nomatch z) λc xs q=>out q λxs z=>nomatch z
end
def Pw(M:oB)(A:Around)(E:Value->ah->Prop)(Q:Value->ah->Prop)(env:Env)(acc:Value)(C:Addr)(r:pB)(s':ah):Prop :=
 match r with
 | .ok _=>∃m,s'.heap.Ns C m/\∀h',uq C s'.heap h'->Q acc { s' with heap:=h' }
 | .error x=>∃m,s'.heap.Ns C m/\∀h',uq C s'.heap h'->∀ce:Env,ce.frame=env.frame->au M A (PySem.passOn "comprehension.variables-let-go" x ce:Sem Value) (λ_ _=>False) E { s' with heap:=h' }
section
variable {M:oB}{A:Around}{E:Value->ah->Prop}{env:Env}{s:ah}
theorem x7a{e:Expr}{scope:dA}{pos:Pos}{Px first:Sem Value}{g:Comprehension}{gs:List Comprehension}{cl:List (Str×Addr)}{Q:Value->ah->Prop}
 (Cw:clausesOf e=g::gs) (hs:∀x,uF g.iter env x=pure x) (lH:w9 scope env=pure cl) (Az:scope.kind = .function) (a0d:∀x∈scope.names,x.2 = .local->scope.names.lookup x.1=some .local)
 (h:au M A first (λx cq=>au M A (qS x) (λit aq=>au M A Px (λacc fQ=>au M A (Dn scope env.globals cl [] env.qual none .none (some env)) (λcenv du=>cenv.frame=env.frame /\
   iQ M A (.compStart e 0 it acc { cenv with scope:=iS scope env }) (Pw M A E Q env acc cenv.locals) du) E fQ) E aq) E cq) E s) :
 au M A (Le e scope env pos Px false first none) Q E s:=by
 have Cy:∀{x:Value} {s':ah},E x s'->E x s':=λq=>q
 unfold Le
 rw[lH,Cw]
 refine aH (av h (λx cq cN=>?_) λ_ _=>Cy)
 refine aH (Dr (aH (xh (hs x) (aH (l0 (av cN (λit aq qA=>?_) λ_ _=>Cy))))))
 refine wpAny_standIf (aH (av qA (λacc fQ a0e=>?_) λ_ _=>Cy))
 refine aH (bS (aH (av a0e (λcenv du Hh=>?_) λ_ _=>Cy)))
 obtain⟨iM,Hh⟩:=Hh
 dsimp only
 have Py:∀x∈(scope.names.filter λx=>(x.2 == .local||x.2 == .cell)&&x.1 != (".0":Str)).reverse,x.2 = .local->Env.kindOf { cenv with scope:=iS scope env } x.1=some .local :=
  λx hx q=>pO (a0d x (List.mem_filter.mp (List.mem_reverse.mp hx)).1 q)
 refine l0 (aH (Ll (l0 (wpAny_run (qW Hh λr s' hr=>?_)))))
 cases r with
 | ok f =>
   obtain⟨m,hn,hr⟩:=hr
   exact aH (l0 (a9q (cenv:={ cenv with scope:=iS scope env }) Az _ s' m Py hn λh' m' _ j_=>bS (hr h' j_)))
 | error x =>
   obtain⟨m,hn,hr⟩:=hr
   exact aH (l0 (a9q (cenv:={ cenv with scope:=iS scope env }) Az _ s' m Py hn λh' m' _ j_=>av (hr h' j_ _ iM) (λ_ _ f=>f.elim) λ_ _ y=>y))
end
section
variable {X:Cx}{y:Str}{scope:dA}
theorem Pz{X:Cx}{pins rk:List (Addr×Obj)}{σ:St}{H:Hp}{s:ah}{Y:Cx}(J:Inv X pins σ H s)(h:∀p∈Y.pn++rk,p∈X.pn++pins)(e:Y={ X with pn:=Y.pn }:=by rfl):Inv Y rk σ H s:=by
 rw[e] at h ⊢
 exact⟨⟨J.ok.mod,J.ok.kind,J.ok.glob,J.ok.blt,J.ok.above,J.ok.inj,J.ok.has,J.ok.rg,J.ok.hd,J.ok.frames,J.ok.sI,J.ok.xo,J.ok.bs,J.ok.jT,J.ok.pT,J.ok.sJ,J.ok.jy,J.ok.kT⟩,J.os,J.bare,J.base,J.loc,J.cell,J.free,J.jz,λp hp=>J.pin p (h p hp),J.aK,J.len⟩
theorem x7b{C:Addr}{fp:List Addr}{pins pl pn:List (Addr×Obj)}{σ aE:St}{ax H':Hp}{aq s1:ah}{c:Er}{x:Value}(I:Inv X pins σ ax aq)(hex:X.ex=[])(hC:aq.heap.objs.size<=C)(hf:∀b∈fp,fx X pins ax b)
 (J:pb (bM X y scope C aq ax fp pn) pl aE H' c x s1):∃(oC:Obj) (m:Str->Option Value),(∀h:Heap,h.get? C=some oC->h.Ns C m)/\pb X (pins++[(C,oC)]) σ H' c x s1:=by
 obtain⟨J,e,Ce,oe,vs,h1,h2,h3,h4,h5,h6,h7,h8,h9,iL,jn,sh⟩:=J
 have os:s1.os=aq.os:=J.os
 have un:Un (dj X.stack) fp ax H' aq.heap s1.heap:=J.base
 have aK:dY X.prog X.w H' s1.heap:=J.aK
 have bare:m_ s1.gens:=J.bare
 obtain⟨m,⟨oC,es,ep,ho,hd,hk⟩,_⟩:=J.loc
 have hCn:H' C=none:=J.free
 have I':Inv X pins σ H' s1:=I.DI os un aK bare λb hb=>by
  obtain⟨f0,f1,f2,f3,f4,f5⟩:=hf b hb
  exact⟨f3.imp_right λz=>wF z,f1,f4,f5⟩
 have hCl:C≠X.env.locals:=nc (cW I.lt hC)
 have I2:Inv X (pins++[(C,oC)]) σ H' s1:=I'.me λp hp=>by
  rcases List.mem_append.mp hp with q | q
  ·exact I'.pin p (b8 _ q)
  ·have:p=(C,oC):=by simpa using q
   subst this
   exact⟨ho,hCn,hCl,I.Aq hC,λv z=>by rw[hd] at z;cases z⟩
 have v9:∀q:Addr,aq.heap.get? q=none->q≠C->X.s₀.heap.get? q=none/\q≠X.env.locals/\(∀y k,X.env.cells.lookup y=some k->k≠q)/\(∀p∈X.pn++(pins++[(C,oC)]),p.1≠q):=λq hq hqC=>by
  obtain⟨g1,g2,g3,g4⟩:=I.gone hex hq
  refine⟨g1,g2,g3,λp hp=>?_⟩
  rcases List.mem_append.mp hp with z | z
  ·exact g4 p (iO _ z)
  ·rcases List.mem_append.mp z with z | z
   ·exact g4 p (b8 _ z)
   ·have:p=(C,oC):=by simpa using z
    subst this
    exact dM hqC
 refine⟨oC,m,λh q=>⟨oC,es,ep,q,hd,hk⟩,I2,e,Ce,oe,vs,h1,h2,h3,?_⟩
 obtain⟨g1,g2,g3,g4⟩:=v9 e h4 h5
 refine⟨g1,g2,g3,g4,h8,h9,iL,jn,?_⟩
 rcases sh with sh | ⟨T,oT,ts,k1,k2,k3,k4,k5,k6,k7,k8,k9,jo⟩
 ·exact .inl sh
 ·obtain⟨t1,t2,t3,t4⟩:=v9 T k3 k4
  exact .inr ⟨T,oT,ts,k1,k2,t1,t2,t3,t4,k7,k8,k9,jo⟩
structure Hi (X:Cx) (y:Str) (scope:dA) (ifs:List Expr) (elt:Expr) (f:D->G->R (Option D)):Prop where
 run:∀(C:Addr) (aq:ah) (ax:Hp) (fp:List Addr) (pn:List (Addr×Obj)),(∀b∈fp,∃o,(b,o)∈pn)->∀(pins:List (Addr×Obj)) (s:ah) (σ:St) (H:Hp) (F:List Addr) (Γ:G) (d:D),Inv (bM X y scope C aq ax fp pn) pins σ H s->bI H F->Rel X.K H F (.ro d::Γ) σ->f d Γ ≠ .no ->
  au (aB X.prog X.w) X.A (forIn ifs true λc r=>if r=true then do let ok <-oE c (gH scope (cI X.env scope.names []) C X.env) (eval c (gH scope (cI X.env scope.names []) C X.env));pure (oN ok) else pure (oN r)) (λok fQ =>
   if ok=true then au (aB X.prog X.w) X.A (eval elt (gH scope (cI X.env scope.names []) C X.env)) (λu du=>∃e v H',f d Γ = .ok (some e)/\Inv (bM X y scope C aq ax fp pn) pins σ H' du/\RelV v u/\aO H H'/\Is X.K (aF F H') e v) (λx s'=>∃c H',f d Γ = .er c/\aO H H'/\pb (bM X y scope C aq ax fp pn) pins σ H' c x s') fQ
   else f d Γ = .ok none/\∃H',Inv (bM X y scope C aq ax fp pn) pins σ H' fQ/\aO H H') (λx s'=>∃c H',f d Γ = .er c/\aO H H'/\pb (bM X y scope C aq ax fp pn) pins σ H' c x s') s
theorem w2o{elt:Expr}{ge:G->R D}(he:∀C aq ax fp pn,(∀b∈fp,∃o,(b,o)∈pn)->jj (bM X y scope C aq ax fp pn) elt ge):Hi X y scope [] elt (c9 ge):=by
 refine⟨λC aq ax fp pn lQ pins s σ H F Γ d I fo rl ho=>?_⟩
 refine Tp ?_
 rw[if_pos rfl]
 have aS:ge (.ro d::Γ) ≠ .no:=λz=>by unfold c9 at ho;rw[z] at ho;exact ho rfl
 exact av ((he C aq ax fp pn lQ).run pins s σ H F (.ro d::Γ) I fo rl aS) (λu s4 ⟨e,v,H',e1,I',rv,S,iv⟩=>⟨e,v,H',R.step e1 _,I',rv,S,iv⟩) λx s' ⟨c,H',e1,S,fl⟩=>⟨c,H',R.stop e1 _,S,fl⟩
theorem x2x{elt iter:Expr}{px pos:Pos}{ifs:List Expr}{f:D->G->R (Option D)}{pins:List (Addr×Obj)}{σ:St}{ax:Hp}{aq:ah}{F:List Addr}{Γ:G}{items:List D}{it:Addr}{fp:List Addr}{tn:Nat->Heap->Prop}{J:It}{E:Value->ah->Prop}{res:R (List D)}{L:Addr}
 (hp:Hi X y scope ifs elt f) (c:vV X.N X.env y scope) (hN:X.N.Nodup) (fh:X.calm=true) (I:Inv X pins σ ax aq) (fo:bI ax F) (rl:Rel X.K ax F Γ σ) (T:Turn X.prog X.w X.K (.Name y px) J fp it tn) (t0:tn 0 aq.heap) (hf:∀b∈fp,fx X pins ax b) (hj:JC X.K ax F J items)
 (hex:X.ex=[]) (mQ:X.stack=X.env::X.outer) (iM:X.env.frame=some L) (ht:jg (λd=>f d Γ) items []=res) (pY:res ≠ .no) (hl:items.length<=100000) {RR:Value->Addr->pB->ah->Prop}
 (hE:∀(Dd C:Addr) (oC:Obj) (m:Str->Option Value) (c:Er) (x:Value) (H':Hp) (s':ah),aq.heap.objs.size<=C->res = .er c->aO ax H'->(∀h:Heap,h.get? C=some oC->h.Ns C m)->sg X (pins++[(C,oC)]) σ H' c x s' (kL L)->RR (.ref Dd) C (.error x) s')
 (hR:∀(total:List D) (Dd C:Addr) (xs:List V) (H':Hp) (m:Str->Option Value) (s':ah),res = .ok total->aq.heap.objs.size<=C->Dd≠C->ax Dd=none->H' Dd=none->H' C=none->aq.heap.objs.size<=Dd->aO ax H'->ao X.K (aF F H') total xs->Inv X pins σ (upd H' Dd (.lst xs)) s'->s'.heap.Ns C m->RR (.ref Dd) C (.ok .next) s') :
 au (aB X.prog X.w) X.A (Af []) (λacc fQ=>au (aB X.prog X.w) X.A (Dn scope X.env.globals (cI X.env scope.names []) [] X.env.qual none .none (some X.env)) (λcenv du=>cenv.frame=X.env.frame /\
  iQ (aB X.prog X.w) X.A (.compStart (.ListComp elt [⟨.Name y px,iter,ifs,0⟩] scope pos) 0 (.ref it) acc { cenv with scope:=iS scope X.env }) (RR acc cenv.locals) du) E fQ) E aq:=by
 have ho:∀b∈fp,b<aq.heap.objs.size:=λb hb=>by obtain⟨o,e,_⟩:=T.obj _ _ t0 b hb;exact bH e
 refine pE (K6 c.ph (by intro y hy;simp at hy) (λcN iI gy=>?_) c.kind)
 dsimp only at iI gy ⊢
 generalize j7:aq.heap.push { cls:=.type "list",dict:=none,data:=.seq ([]:List Value).toArray }=H2 at iI gy ⊢
 have j8:H2.objs.size=aq.heap.objs.size+1:=by rw[<-j7,uE]
 generalize GJ:H2.objs.size=C at iI gy j8 ⊢
 generalize oh:aq.heap.objs.size=Dd at j8 ⊢
 obtain⟨⟨dh,hC,hD⟩,below⟩:=Cd j8 oh
 have old:∀b o,aq.heap.get? b=some o->cN.get? b=some o:=λb o e=>by
  refine gy.extBut b o (below b (bH e)).1 ?_
  exact cX _ (j7 ▸ cX _ e)
 have kH:cN.get? Dd=some { cls:=.type "list",dict:=none,data:=.seq ([]:List Value).toArray }:=by
  refine gy.extBut _ _ dh ?_
  refine cX _ ?_
  rw[<-j7,<-oh]
  exact fu _ rfl
 have J0:∀tk,Inv (bM X y scope C aq ax fp (X.pn++pins)) [(Dd,{ cls:=.type "list",dict:=none,data:=.seq ([]:List Value).toArray })] (none::σ) ax { aq with heap:=cN,toks:=tk }:=λtk =>
  GB I c hC hD dh hf ho old iI kH (λv z=>nomatch z)
 have t1:tn 0 cN:=T.keep _ _ _ t0 λb hb o e=>old b o e
 have j9:∀{H':Hp} {o:Obj},(∀b∈fp,H' b=none)->∀b∈fp,fx (bM X y scope C aq ax fp (X.pn++pins)) [(Dd,o)] H' b:=λ{H' o} hn b hb=>by
  obtain⟨f0,f1,f2,f3,f4,f5⟩:=hf b hb
  have lt:=ho b hb
  refine⟨hn b hb,(below b lt).1,λz=>?_,.inl hb,λx k e=>?_,λp bG=>?_⟩
  ·rcases List.mem_cons.mp (I.md b z) with q | q
   ·exact f1 q
   ·exact f2 q
  ·rcases j6 scope.names [] (iq e) with q | q
   ·simp at q
   ·exact f4 x k q
  ·rcases List.mem_append.mp bG with q | q
   ·exact f5 p q
   ·have e:p=(Dd,o):=by simpa using q
    subst e
    exact dM (below b lt).2
 have sd:(bM X y scope C aq ax fp (X.pn++pins)).N.Nodup:=by
  show(y::X.N.map (λz=>if z=y then ("":Str) else z)).Nodup
  refine List.nodup_cons.mpr ⟨λz=>?_,?_⟩
  ·obtain⟨z',hz,e⟩:=List.mem_map.mp z
   by_cases q:z'=y
   ·rw[if_pos q] at e
    subst e
    have:=c.loc;rw[c.nil] at this;cases this
   ·rw[if_neg q] at e;exact q e
  ·have inj:∀a∈X.N,∀b∈X.N,(if a=y then ("":Str) else a)=(if b=y then ("":Str) else b)->a=b:=λa ha b hb e=>by
    by_cases qa:a=y
    ·by_cases qb:b=y
     ·rw[qa,qb]
     ·rw[if_pos qa,if_neg qb] at e;exact absurd e.symm (c.none b hb)
    ·by_cases qb:b=y
     ·rw[if_neg qa,if_pos qb] at e;exact absurd e (c.none a ha)
     ·rw[if_neg qa,if_neg qb] at e;exact e
   have gen:∀l:List Str,(∀a∈l,a∈X.N)->l.Nodup->(l.map (λz=>if z=y then ("":Str) else z)).Nodup:=by
    intro l
    induction l with
    | nil=>intro _ _;exact K7
    | cons a l ih =>
      intro hs nd
      obtain⟨n1,n2⟩:=List.nodup_cons.mp nd
      rw[e8]
      refine List.nodup_cons.mpr ⟨λz=>?_,ih (λb hb=>hs b (dJ _ hb)) n2⟩
      obtain⟨b,hb,e⟩:=List.mem_map.mp z
      exact n1 (inj b (hs b (dJ _ hb)) a (hs a fi) e ▸ hb)
   exact gen X.N (λ_ h=>h) hN
 let Lp:Nat->ah->Prop:=λn s'=>∃(i:Nat) (H':Hp) (o:Option V) (xs:List V) (its:List Value) (acc:List D) (k:Nat),n=items.length-i/\i<=items.length/\Inv (bM X y scope C aq ax fp (X.pn++pins)) [(Dd,{ cls:=.type "list",dict:=none,data:=.seq its.toArray k })] (o::σ) H' s' /\
  aO ax H'/\(∀b∈fp,H' b=none)/\tn i s'.heap/\Vals xs its/\acc.length<=i/\ao X.K (aF F H') acc xs/\jg (λd=>f d Γ) (items.drop i) acc=res
 have loop:∀du:ah,Lp items.length du->iQ (aB X.prog X.w) X.A (.compLoop (.ListComp elt [⟨.Name y px,iter,ifs,0⟩] scope pos) 0 (.ref it) (.ref Dd) (gH scope (cI X.env scope.names []) C X.env)) (RR (.ref Dd) C) du:=λdu h4=>by
  refine Tq Lp (λn s' hL=>av (E:=λ_ _=>False) ?_ (λ_ _ q=>q) λ_ _ z=>z.elim) items.length h4
  obtain⟨i,H',o,xs,its,acc,k,en,hi,J',S',oi,oj,rv,om,ia,eg⟩:=hL
  obtain⟨tY,tZ⟩:=hj H' S'
  have GK:=J'.pin (Dd,{ cls:=.type "list",dict:=none,data:=.seq its.toArray k }) (b8 _ (by simp))
  have jk:xs.length<=100000:=by rw[<-ia.length];exact dD om (dD hi hl)
  have iY:(100000:Nat)<=bR:=by rw[ju];decide
  by_cases cw:i<items.length
  ·obtain⟨go,yl⟩:=tY i cw
   refine fE (T.item (bM X y scope C aq ax fp (X.pn++pins)) rfl rfl rfl fh i _ s' _ H' (λ_ _=>False) J' (j9 oi) oj go) λr s2 ⟨u,hr,h1⟩=>?_
   subst hr
   refine Gx (a:=()) h1 λ⟨x,H5,J5,r5,y5,ij,qv⟩=>?_
   obtain⟨e5,d,ed,iv⟩:=yl x H5 y5
   subst e5
   have t5:=J5.pinned (j9 qv) (T.obj _ _ ij)
   have t6:items.drop i=d::items.drop (i+1):=by
    rw[K8 cw]
    have:items[i]=d:=by
     have:=eO cw
     rw[ed] at this;exact(kK this).symm
    rw[this]
   rw[t6] at eg
   have a0f:f d Γ ≠ .no:=λz=>by
    have lR:=eg
    unfold jg at lR
    simp only[z] at lR
    exact pY lR.symm
   have PA:∀od,f d Γ = .ok od->(match od with | some e=>jg (λd=>f d Γ) (items.drop (i+1)) (acc++[e]) | none=>jg (λd=>f d Γ) (items.drop (i+1)) acc)=res:=λod q=>by
    have lR:=eg
    unfold jg at lR
    cases od with
    | none=>simp only[q] at lR;exact lR
    | some e=>simp only[q] at lR;exact lR
   have a0g:∀c',f d Γ = .er c'->res = .er c':=λc' q=>by
    have lR:=eg
    unfold jg at lR
    simp only[q] at lR
    exact lR.symm
   have qx:PG (bM X y scope C aq ax fp (X.pn++pins)).bT (.Name y px) (sM 0):=uN (X:=(bM X y scope C aq ax fp (X.pn++pins)).bT) sd rfl (.inl (pO c.loc)) (.inr (pO c.loc))
   refine av (qx _ s2 (o::σ) H5 x u (λaE H'=>aE=some x::σ/\H'=H5) (t5.dm _) r5 ⟨rfl,rfl⟩) (λ_ s3 ⟨vX,H6,J6,e6,qy⟩=>?_) λ_ _ z=>z.elim
   subst e6 qy
   have t8:=J6.eQ
   have t9:=fo.same S'
   have mv:∀{s5:ah} {H7:Hp} {cP:St},Inv (bM X y scope C aq ax fp (X.pn++pins)) ([(Dd,{ cls:=.type "list",dict:=none,data:=.seq its.toArray k })]++jU fp s2.heap) cP H7 s5->Inv (bM X y scope C aq ax fp (X.pn++pins++jU fp s2.heap)) [(Dd,{ cls:=.type "list",dict:=none,data:=.seq its.toArray k })] cP H7 s5:=λJ=>Pz J λp bG=>by
    rcases List.mem_append.mp bG with q | q
    ·rcases List.mem_append.mp q with q | q
     ·exact iO _ q
     ·exact b8 _ (b8 _ q)
    ·exact b8 _ (iO _ q)
   have vm:∀{s5:ah} {H7:Hp} {cP:St},Inv (bM X y scope C aq ax fp (X.pn++pins++jU fp s2.heap)) [(Dd,{ cls:=.type "list",dict:=none,data:=.seq its.toArray k })] cP H7 s5->Inv (bM X y scope C aq ax fp (X.pn++pins)) ([(Dd,{ cls:=.type "list",dict:=none,data:=.seq its.toArray k })]++jU fp s2.heap) cP H7 s5:=λJ=>Pz J λp bG=>by
    rcases List.mem_append.mp bG with q | q
    ·exact iO _ (iO _ q)
    ·rcases List.mem_append.mp q with q | q
     ·exact b8 _ q
     ·exact iO _ (b8 _ q)
   have lQ:∀b∈fp,∃o,(b,o)∈X.pn++pins++jU fp s2.heap:=λb hb=>by
    obtain⟨o,e,_⟩:=T.obj _ _ ij b hb
    exact⟨o,b8 _ (nv hb e)⟩
   have PB:∀{xx:Value} {s5:ah} {c':Er} {H7:Hp},f d Γ = .er c'->aO H6 H7->pb (bM X y scope C aq ax fp (X.pn++pins++jU fp s2.heap)) [(Dd,{ cls:=.type "list",dict:=none,data:=.seq its.toArray k })] (some x::σ) H7 c' xx s5->xg (aB X.prog X.w) X.A (gH scope (cI X.env scope.names []) C X.env) (λe s'=>RR (.ref Dd) C (.error e) s') xx s5:=λ{xx s5 c' H7} ef S7 fl=>by
    obtain⟨oC,m,hC1,fl'⟩:=x7b I hex hC hf fl
    show au _ X.A (Lg xx X.env) _ _ s5
    exact Co hex mQ iM fl' λs6 f6=>hE Dd C oC m c' xx H7 s6 hC (a0g c' ef) (S'.trans S7) hC1 f6
   refine av (hp.run C aq ax fp (X.pn++pins++jU fp s2.heap) lQ _ s3 _ H6 F Γ d (mv t8) t9 (Cc (rl.same S') iv) a0f) (λok s4 h4=>?_) λx s5 ⟨c',H7,ef,S7,fl⟩=>PB ef S7 fl
   have back:∀{s5:ah} {H7:Hp} {cP:St},Inv (bM X y scope C aq ax fp (X.pn++pins)) ([(Dd,{ cls:=.type "list",dict:=none,data:=.seq its.toArray k })]++jU fp s2.heap) cP H7 s5->tn (i+1) s5.heap/\(∀b∈fp,H7 b=none):=λ{s5 H7 cP} J7=>by
    refine⟨T.keep _ _ _ ij λb hb o' e=>(J7.pin (b,o') (b8 _ (b8 _ (nv hb e)))).1,λb hb=>?_⟩
    obtain⟨o',e,dd⟩:=T.obj _ _ ij b hb
    exact(J7.pin (b,o') (b8 _ (b8 _ (nv hb e)))).2.1
   cases ok with
   | false =>
     rw[if_neg sv] at h4 ⊢
     obtain⟨ef,H7,J7,S7⟩:=h4
     have qw:=PA _ ef
     have J7:=vm J7
     obtain⟨lF,lG⟩:=back J7
     exact⟨items.length-(i+1),vW en cw,i+1,H7,some x,xs,its,acc,k,rfl,cw,J7.ny,S'.trans S7,lG,lF,rv,Tr om,ia.same (g7 S7),qw⟩
   | true =>
     rw[if_pos rfl] at h4 ⊢
     refine av h4 (λu7 s5 ⟨e,v7,H7,ef,J7,r7,S7,y6⟩=>?_) λx s5 ⟨c',H7,ef,S7,fl⟩=>PB ef S7 fl
     have qw:=PA _ ef
     have J7:=vm J7
     obtain⟨lF,lG⟩:=back J7
     have J8:=J7.ny
     have iJ:=J8.pin (Dd,{ cls:=.type "list",dict:=none,data:=.seq its.toArray k }) (b8 _ (by simp))
     have hlen:its.length=acc.length:=by rw[<-rv.length,<-ia.length]
     refine K9 (l:=Dd) (items:=its.toArray) (x:=u7) ⟨k,iJ.1⟩ (λh' kI j_=>?_) (by rw[cY,<-rv.length];exact dD jk iY)
     obtain⟨k',fY⟩:=kI
     have t_:its.toArray.push u7=(its++[u7]).toArray:=by simp
     rw[t_] at fY
     have J9:Inv (bM X y scope C aq ax fp (X.pn++pins)) [] (some x::σ) H7 s5:=J8.me λp bG=>by simp at bG
     have ua:Inv (bM X y scope C aq ax fp (X.pn++pins)) [] (some x::σ) H7 { s5 with heap:=h' }:=J9.turned (t':=s5.toks) (it:=Dd) (λb o' hb e'=>(j_.2 b hb).trans e') iJ.2.1 dh (.inr hD) (λx' oo e' z=>by
      rcases j6 scope.names [] (iq e') with q | q
      ·simp at q
      ·obtain⟨v',o',dO,_⟩:=I.cell x' oo q
       exact(below oo (bH dO)).2 z) (λp bG z=>by
      rcases List.mem_append.mp bG with q | q
      ·obtain⟨ik,_⟩:=I.pin p q
       exact(below p.1 (bH ik)).2 z
      ·simp at q)
     have ub:Inv (bM X y scope C aq ax fp (X.pn++pins)) [(Dd,{ cls:=.type "list",dict:=none,data:=.seq (its++[u7]).toArray k' })] (some x::σ) H7 { s5 with heap:=h' }:=ua.me λp bG=>by
      have e':p=(Dd,{ cls:=.type "list",dict:=none,data:=.seq (its++[u7]).toArray k' }):=by simpa using bG
      subst e'
      exact⟨fY,iJ.2.1,dh,iJ.2.2.2.1,λv z=>nomatch z⟩
     refine⟨items.length-(i+1),vW en cw,i+1,H7,some x,xs++[v7],its++[u7],acc++[e],k',rfl,cw,ub,S'.trans S7,lG,T.keep _ _ _ lF λb hb o' e'=>(j_.2 b (below b (ho b hb)).2).trans e',rv.append (.cons r7 .nil),by rw[dW,KA];exact Ts om,(ia.same (g7 S7)).append (ao.cons y6 ao.nil),qw⟩
  ·have qz:i=items.length:=K_ hi (C4 cw)
   subst qz
   refine fE (T.done (bM X y scope C aq ax fp (X.pn++pins)) rfl rfl rfl fh _ _ s' _ H' (λ_ _=>False) J' (j9 oi) oj tZ) λr s1 ⟨hr,J1⟩=>?_
   subst hr
   have ka:=J1.pin (Dd,{ cls:=.type "list",dict:=none,data:=.seq its.toArray k }) (b8 _ (by simp))
   rw[C9] at eg
   have a0h:res = .ok acc:=by rw[<-eg];unfold jg;rfl
   obtain⟨mC,iK,_⟩:=J1.loc
   exact hR acc Dd C xs H' mC s1 a0h hC dh (I.aK.fresh hD) ka.2.1 J1.free hD S' ia (Gz I J1 hD ka.2.1 ka.1 rv (dD jk iY) hf) iK
 have L0:∀tk,Lp items.length { aq with heap:=cN,toks:=tk }:=λtk=>⟨0,ax,none,[],[],[],_,rfl,ni _,J0 tk,.refl _,λb hb=>(hf b hb).1,t1,.nil,a7 _,ao.nil,by rw[zY];exact ht⟩
 exact⟨rfl,La (loop _ (L0 _)) (T.self _ 0 _ _ _ t1 (loop _ (L0 _)))⟩
theorem x8q{L:Addr}{elt iter:Expr}{px pos:Pos}{ifs:List Expr}{f:D->G->R (Option D)}{gi:G->R (List D)}(hi:tS X (.Name y px) iter gi)(hp:Hi X y scope ifs elt f)(hN:X.N.Nodup)(fh:X.calm=true)(hex:X.ex=[])(mQ:X.stack=X.env::X.outer)(iM:X.env.frame=some L)
 (oq:tW X.N X.env y scope=true:=by rfl) (lH:w9 scope X.env=pure (cI X.env scope.names []):=by rfl) (hs:∀x,uF iter X.env x=pure x:=by intro _;rfl) :
 PF X (.ListComp elt [⟨.Name y px,iter,ifs,0⟩] scope pos) (z9d gi f):=by
 refine⟨λpins s σ H F Γ I fo rl hg=>?_⟩
 have c:=y0 oq
 rw[Lb]
 refine x7a rfl hs lH c.kind c.names (av (hi.run pins s σ H F Γ I fo rl (R.left hg)) (λxv cq cN=>av cN (λkW aq qA=>?_) λ_ _ x=>x.bind _) λ_ _ x=>x.bind _)
 obtain⟨items,it,fp,tn,J,ax,e1,rfl,I2,S2,T,t0,fk,jc⟩:=qA
 have fg:=R.next hg e1
 obtain⟨hl,e2⟩:=R.cT fg
 have aS:jg (λd=>f d Γ) items [] ≠ .no:=by
  have:=R.next hg e1
  rw[e2] at this;exact this
 have eR:z9d gi f Γ=jg (λd=>f d Γ) items []:=(R.step e1 _).trans e2
 refine x2x (RR:=λacc C=>Pw (aB X.prog X.w) X.A _ _ X.env acc C) hp c hN fh I2 (fo.same S2) (rl.same S2) T t0 fk jc hex mQ iM rfl aS hl ?_ ?_
 ·intro Dd C oC m c' x H' s' hC er S' hCm fl
  obtain⟨I',e,Ce,oe,vs,h1,h2,h3,h4,h5,h6,h7,h8,h9,iL,jn,T',oT,ts,k1,k2,k3,k4,k5,k6,k7,k8,k9,jo⟩:=fl
  have pC:=I'.pin (C,oC) (b8 _ (b8 _ (by simp)))
  have eC:C≠e:=h7 (C,oC) (b8 _ (b8 _ (by simp)))
  have TC:C≠T':=k6 (C,oC) (b8 _ (b8 _ (by simp)))
  refine⟨m,hCm _ pC.1,λjl jM ce hce=>?_⟩
  have I0:Inv X pins σ H' s':=I'.me λp bG=>I'.pin p (b8 _ (iO _ bG))
  have gR:∀{b:Addr} {o:Obj},aq.heap.get? b=some o->b≠C:=λe=>dS (cW (bH e) hC)
  have qB:Inv X pins σ H' { s' with heap:=jl }:=I0.turned (t':=s'.toks) (it:=C) (λb o hb e=>jM.extBut b o hb e) pC.2.1 pC.2.2.1 (.inr (dD I2.sz hC))
   (λx k e=>by obtain⟨v,o,ho,_⟩:=I2.cell x k e;exact gR ho) (λp bG=>gR (I2.pin p bG).1)
  have zm:sg X pins σ H' c' x { s' with heap:=jl } (kL L):=⟨qB,e,Ce,oe,vs,h1,h2,h3,h4,h5,h6,λp bG=>h7 p (by
   rcases List.mem_append.mp bG with q | q
   ·exact iO _ q
   ·exact b8 _ (iO _ q)),jM.extBut e oe (dM eC) h8,h9,iL,jn,T',oT,ts,k1,k2,k3,k4,k5,λp bG=>k6 p (by
   rcases List.mem_append.mp bG with q | q
   ·exact iO _ q
   ·exact b8 _ (iO _ q)),k7,jM.extBut T' oT (dM TC) k8,k9,jo⟩
  subst h1
  unfold PySem.passOn
  refine aH (oH (jM.extBut e oe (dM eC) h8) iL k1 ?_)
  rw[if_neg (show ¬((ft T'==qQ)=true) from by simp)]
  rw[hce,iM]
  refine aH (zi zm λs9 f9=>?_)
  exact wpAny_throw ⟨c',H',eR.trans er,S2.trans S',f9.here iM⟩
 ·intro total Dd C xs H' m s' et hC dh hn gX iK hD S' ia I' ot
  refine⟨m,ot,λjl jM=>?_⟩
  have gR:∀{b:Addr} {o:Obj},aq.heap.get? b=some o->b≠C:=λe=>dS (cW (bH e) hC)
  have qB:Inv X pins σ (upd H' Dd (.lst xs)) { s' with heap:=jl }:=I'.turned (t':=s'.toks) (it:=C) (λb o hb e=>jM.extBut b o hb e) (by rw[bD (dM dh)];exact iK) (nc (cW I2.lt hC)) (.inr (dD I2.sz hC))
   (λx k e=>by obtain⟨v,o,ho,_⟩:=I2.cell x k e;exact gR ho) (λp bG=>gR (I2.pin p bG).1)
  have S3:=gP gX (.lst xs)
  refine⟨total,Dd,xs,_,eR.trans et,qB,rfl,(S2.trans S').trans S3,S2.free hn,dc,ia.same λb o hb=>?_⟩
  obtain⟨z1,z2⟩:=iF hb
  have fJ:b≠Dd:=gI z2 gX
  rw[da λz=>(List.mem_cons.mp z).elim fJ z1,bD fJ]
  exact z2
end
section
variable {X:Cx}{e a b c:Expr}{g ga gb gc:G->R D}{pos p:Pos}{x:Str}{es:List Expr}{gs:G->R (List D)}
theorem w6n{pins:List (Addr×Obj)}{σ:St}{H:Hp}{s:ah}{q:Addr}(I:Inv X pins σ H s)(lQ:∀b∈X.ex,∃o,(b,o)∈X.pn)(hq:s.heap.get? q=none):X.s₀.heap.get? q=none/\q≠X.env.locals/\(∀y k,X.env.cells.lookup y=some k->k≠q)/\(∀p∈X.pn++pins,p.1≠q):=by
 refine⟨?_,λz=>?_,λy k ek z=>?_,λp hp z=>?_⟩
 ·cases e0:X.s₀.heap.get? q with
  | none=>rfl
  | some o =>
    obtain⟨o',e1⟩:=I.base.there q o e0 λz=>by
     obtain⟨o,hm⟩:=lQ q z
     have:=(I.pin (q,o) (iO _ hm)).1
     rw[hq] at this;cases this
    rw[hq] at e1;cases e1
 ·obtain⟨m,⟨o,_,_,ho,_⟩,_⟩:=I.loc
  rw[<-z,hq] at ho;cases ho
 ·obtain⟨v,o,ho,_⟩:=I.cell y k ek
  rw[z,hq] at ho;cases ho
 ·have ho:=(I.pin p hp).1
  rw[z,hq] at ho;cases ho
theorem y5y{pins:List (Addr×Obj)}{σ:St}{H:Hp}{s s':ah}{u:Value}{r:R D}{E:XK}(lQ:∀b∈X.ex,∃o,(b,o)∈X.pn)(I:Inv X pins σ H s)(h:mK X.prog X.w X.stack H s E u s')
 (hE:∀C H',E (.ref C) none H'->∃c,r = .er c/\X.mg c.nm=some (.ref C)/\aO H H'):bY X pins σ H r u s':=by
 obtain⟨e,C,T,oe,oT,vs,ts,H',rfl,os,bare,un,aK,Gj,Gk,tR,Gm,Gn,Gp,hv,Gq,Gr,Gs,Gu,Gv,vT,B6⟩:=h
 obtain⟨c,er,hm,S⟩:=hE C H' B6
 obtain⟨hh,gg,dd,tt,nB⟩:=s'
 obtain rfl:nB=s.os:=os
 have I':Inv X pins σ H' { s with heap:=hh,gens:=gg,drawn:=dd,toks:=tt }:=I.call (h':=hh) (g':=gg) (d':=dd) (t':=tt) (ch:=[]) un aK bare (λb z=>absurd z (by simp))
 have fr:∀q:Addr,s.heap.get? q=none->X.s₀.heap.get? q=none/\q≠X.env.locals/\(∀y k,X.env.cells.lookup y=some k->k≠q)/\(∀p∈X.pn++pins,p.1≠q):=λq hq=>w6n I lQ hq
 obtain⟨f1,f2,f3,f4⟩:=fr e Gk
 obtain⟨g1,g2,g3,g4⟩:=fr T Gr
 exact⟨c,H',er,S,I',e,C,oe,vs,rfl,hm,Gj,f1,f2,f3,f4,tR,Gm,Gn,Gp,.inr ⟨T,oT,ts,hv,Gq,g1,g2,g3,g4,Gs,Gu,Gv,.inl vT⟩⟩
theorem w7e{k:Nat}{f:Addr}{fd:cG}{ps:List Str}{φ:List D->R D}(Fn:eN X.prog X.w X.K X.mg X.base k f fd ps φ)(hr:eh k X.A){pins:List (Addr×Obj)}{σ:St}{H:Hp}{s:ah}{us:List Value}{vs:List V}{ds:List D}
 (I:Inv X pins σ H s) (r:Vals vs us) (i:ao X.K H ds vs) (hg:φ ds ≠ .no) (lQ:∀b∈X.ex,∃o,(b,o)∈X.pn):au (aB X.prog X.w) X.A (call (.ref f) us) (dg X pins σ H (φ ds)) (bY X pins σ H (φ ds)) s:=by
 have dZ:yZ X.K X.mg φ vs H (λv H'=>∃d,φ ds = .ok d/\aO H H'/\Is X.K H' d v) (λC' _ H'=>∃c C,C' = .ref C/\φ ds = .er c/\X.mg c.nm=some (.ref C)/\aO H H') :=
  ⟨ds,i,hg,λd v H' e S iv=>⟨d,e,S,iv⟩,λc C H' e hm S=>⟨c,C,rfl,e,hm,S⟩⟩
 have hl:us.length=ps.length:=by rw[<-r.length];exact Fn.ok.len _ _ _ _ dZ
 have hb:=Fn.binds s us I.fS (by rw[kM];exact hl)
 rw[kM] at hb
 refine Ac (qW (Fn.ok.run X.A X.stack s H ⟨us,[]⟩ us vs _ _ hr I.xt hb r dZ) λr' s' hq=>?_)
 cases r' with
 | error u =>
   refine y5y (E:=λC' _ H'=>∃c C,C' = .ref C/\φ ds = .er c/\X.mg c.nm=some (.ref C)/\aO H H') lQ I hq λC H' hE=>?_
   obtain⟨c,C',e,h1,h2,h3⟩:=hE
   cases e
   exact⟨c,h1,h2,h3⟩
 | ok fl =>
   cases fl with
   | ret u =>
     obtain⟨v,H',I',rv,d,e,S,iv⟩:=I.after hq
     exact⟨d,v,H',e,I',rv,S,iv⟩
   | next=>exact b6 hq
   | brk=>exact b6 hq
   | cont=>exact b6 hq
theorem x8t{k:Nat}{f:Addr}{fd:cG}{ps:List Str}{φ:List D->R D}(Fn:eN X.prog X.w X.K X.mg X.base k f fd ps φ)(hr:eh k X.A)(hm:X.mg x=some (.ref f))(ha:mG X (e::es) gs)(lQ:∀b∈X.ex,∃o,(b,o)∈X.pn)(hg:Gl X x:=by rfl)(g_:(x==("__debug__":Str))=false:=by decide)
 (he:aV (e::es) X.env=(false,eval e X.env)::aV es X.env:=by rfl) (gJ:(cC pos (aV es X.env)).any (·.1)=false:=by rfl):PD X (.Call (.Name x p) (e::es) [] pos) (ay φ gs):=by
 refine⟨λpins s σ H F Γ I fo rl bZ=>?_⟩
 refine l8 (oP I hg hm ?_ g_)
 refine Ad (h₀:=X.base) I.ok.mod.pS Fn.kp (av (ha.run pos pins s σ H F Γ I fo rl (R.left bZ)) (λus s1 ⟨ds,vs,H1,e1,I1,r1,S1,i1⟩=>⟨I1.fS,?_⟩) λ_ _ x=>x.bind _) he gJ
 exact av (w7e Fn hr I1 r1 i1 (R.next bZ e1) lQ) (λ_ _ q=>dg.bind e1 S1 q) λ_ _ q=>bY.later e1 S1 q
end
section
variable {X:Cx}{e:Expr}{g:G->R D}{pos p pos':Pos}
end
section
variable {X:Cx}{e a b c:Expr}{g ga gb gc:G->R D}{pos:Pos}
theorem PC:∀bs:List Bool,((eY bs.length).all λi=>(bs[i]?).getD true)=bs.all (λb=>b)
 | []=>rfl
 | b::bs=>by
   rw[cx,SW,Dk,C5,Dk,<-PC bs]
   rfl
theorem x7p(hc:X.calm=true):iU X (.builtin "all") (λxs H Q=>∃(a:Addr) (bs:List Bool),xs=[.ref a]/\b9 X.K H a (bs.map V.bl)/\Q (.bl (bs.all (λb=>b))) H):=by
 intro pins s σ H xs us Q I r h
 obtain⟨a,bs,rfl,hq,q⟩:=h
 obtain⟨u,rfl,ru⟩:=oR r
 cases ru
 obtain⟨its,rv,pl,_⟩:=I.list hq
 have hl:=pl.isList
 have cw:a<s.heap.objs.size:=by obtain⟨_,e,_⟩:=hl;exact bH e
 have hlen:its.length=bs.length:=by rw[<-rv.length,a6]
 refine call_all_walk (K3 hl ?_)
 refine⟨s.heap.objs.size,[s.heap.objs.size,a],[s.heap.objs.size],its.toArray.size,_,_,λi=>(bs[i]?).getD true,rfl,To (A:=X.A.in1) (I.ok.hd hc) _ a (dS cw) its.toArray,
  ⟨⟨_,fu _ rfl,rfl,rfl⟩,hl.push _⟩,λi v s' Q' E' hP hQ=>?_,λh' tk hk=>?_⟩
 ·obtain⟨b,e,rfl⟩:=Gi rv (i:=i) (v:=v) (by simpa using hP)
  simp only[e,SX] at hQ
  exact wX hQ
 ·have e:((eY its.toArray.size).all λi=>(bs[i]?).getD true)=bs.all (λb=>b):=by
   rw[cY,hlen];exact PC bs
  refine⟨.bl (bs.all (λb=>b)),H,I.kept (λb x ex=>hk b x (λhm=>by rw[List.mem_singleton.mp hm] at ex;exact lT _ (bH ex)) (cX _ ex)),by rw[e];rfl,q⟩
theorem Hj(hc:X.calm=true):kF X (.builtin "all") oY:=by
 refine⟨_,x7p (X:=X.bT) hc,λH xs ds i hg=>?_⟩
 unfold oY at hg
 split at hg
 ·rename_i ys
  obtain⟨v,rfl,h⟩:=lE i
  obtain⟨a,zs,rfl,h1,h2⟩:=Is.fm.mp h
  cases q:ml ys with
  | none=>rw[q] at hg;exact absurd rfl hg
  | some ns =>
    have:=Ec q
    subst this
    rw[h2.Gh] at h1
    exact⟨a,ns,rfl,h1,.bl (ns.all (λb=>b)),by show oY [.lst (ns.map D.bl)]=_;simp only[oY,q],.refl _,Is.gv.mpr rfl⟩
 ·exact absurd rfl hg
end
namespace Rv
theorem a0i:isSubtype (.type "reversed") (.type "object")=pure true:=by rw[TF];rfl
theorem w4w:Slot "reversed" (iR "__init__") "object.__init__":=TH (owner:="object") (n:="__init__") (by rw[xi,xj];rfl) (by decide +kernel) (by decide +kernel) (by decide +kernel) (.inl (by decide +kernel)) a0i (by decide +kernel)
theorem zr:Slot "reversed" (iR "__next__") "reversed.__next__":=TH (owner:="reversed") (n:="__next__") (by rw[xi,xj];rfl) (by decide +kernel) (by decide +kernel) (by decide +kernel) (.inl (by decide +kernel)) TJ (by decide +kernel)
theorem PH:Slot "reversed" (iR "__iter__") "reversed.__iter__":=TH (owner:="reversed") (n:="__iter__") (by rw[xi,xj];rfl) (by decide +kernel) (by decide +kernel) (by decide +kernel) (.inl (by decide +kernel)) TJ (by decide +kernel)
theorem called:TypeCalled "reversed" "reversed.__new__" "object.__init__":=⟨by decide +kernel,by decide +kernel,⟨_,_,F.mro_reversed⟩,F.made_reversed,by decide +kernel,TJ,w4w⟩
theorem PJ:entryFor table "reversed.__next__"=some Builtin.«reversed.__next__»:=entryFor_of_tree rfl
theorem a0j:entryFor table "reversed.__iter__"=some Builtin.«dict_keyiterator.__iter__»:=entryFor_alias rfl rfl (show _="dict_keyiterator.__iter__" from by decide +kernel) rfl
theorem owner:List.lookup (String.ofList ['d','e','s','r','e','v','e','r'].reverse) Manifest.owners=some Manifest.sig_reversed:=rfl
theorem PL(a:Value):argsOk "reversed.__next__" ⟨[a],[]⟩:=by
 show(match a9r "reversed.__next__" with | some sig=>a9s "reversed.__next__" sig ⟨[a],[]⟩ | none=>pure ())=pure ()
 rw[signature?_of (n:=['_','_','t','x','e','n','_','_']) (o:=['d','e','s','r','e','v','e','r']) rfl owner];rfl
theorem a0k(a:Value):argsOk "reversed.__iter__" ⟨[a],[]⟩:=by
 show(match a9r "reversed.__iter__" with | some sig=>a9s "reversed.__iter__" sig ⟨[a],[]⟩ | none=>pure ())=pure ()
 rw[signature?_of (n:=['_','_','r','e','t','i','_','_']) (o:=['d','e','s','r','e','v','e','r']) rfl owner];rfl
theorem a0l:C3 (.type "tuple") (iR "__reversed__")=pure none:=by rw[xi,xj];rfl
theorem PN:C3 (.type "tuple") (iR "__getitem__")=pure (some (.builtin "tuple.__getitem__")):=by rw[xi,xj];rfl
theorem a0m:isSubtype (.type "tuple") (.type "dict")=pure false:=by rw[TF];rfl
end Rv
abbrev qF (h:Heap) (r t:Addr) (i:Int):Prop:=h.get? r=some { cls:=.type "reversed",data:=.fields #[.ref t,kL i] }
section
variable {prog:aQ}{w:aN}{A:Around}{E:Value->ah->Prop}{s:ah}
theorem x3e{t:Addr}{items:Array Value}{Q:Value->ah->Prop}(ht:s.heap.IsTuple t items)(hz:(items.size:Int)<2^63)(h:∀tk,Q (.ref s.heap.objs.size) { s with heap:=s.heap.push { cls:=.type "reversed",data:=.fields #[.ref t,kL ((items.size:Int)-1)] },toks:=tk }) :
 au (aB prog w) A (Builtin.«reversed.__new__» ⟨[.type "reversed",.ref t],[]⟩) (λfin s'=>∃v,fin = .done (.ret v)/\Q v s') E s:=by
 refine(show au _ _ (Builtin.SmallTypes.newClass "reversed" ⟨[.type "reversed",.ref t],[]⟩>>=_) _ _ _ from aH (xh (newClass_reversed (.ref t)) ?_))
 refine(show au _ _ (Builtin.SmallTypes.refuseKeywords "reversed" (.type "reversed") ⟨[.type "reversed",.ref t],[]⟩>>=_) _ _ _ from aH (xh rfl (aH (xh rfl (aH (Du ht.typeIs Rv.a0l ?_))))))
 refine(show au _ _ ((isInstance (.ref t) (.type "dict")>>=_)>>=_) _ _ _ from aH (aH (TK ht.typeIs Rv.a0m ?_)))
 refine(show au _ _ (specialOf (.ref t) (iR "__getitem__")>>=_) _ _ _ from aH (Du ht.typeIs Rv.PN ?_))
 have hl:sj s.heap t items:=ht
 refine xh (a:=true) rfl ?_
 refine(show au _ _ (call (.builtin "len") [.ref t]>>=_) _ _ _ from aH (Sg hl hz ?_))
 refine(show au _ _ (asInt? (.int (items.size:Int) (s.toks+1))>>=_) _ _ _ from aH (bS ?_))
 refine(show au _ _ (newObj (.type "reversed") (.fields #[.ref t,kL ((items.size:Int)-1)])>>=_) _ _ _ from aH (pE ?_ (by size_fits)))
 exact bS ⟨_,rfl,h _⟩
theorem x1f{r t:Addr}{i:Nat}{items:Array Value}{x:Value}{Q:Option Value->ah->Prop}(hr:qF s.heap r t (i:Int))(ht:s.heap.IsTuple t items)(hz:(i:Int)<2^63)(hx:items[i]? = some x)(hQ:∀h' tk,qF h' r t ((i:Int)-1)->uq r s.heap h'->Q (some x) { s with heap:=h',toks:=tk }):au (aB prog w) A (sq (.ref r)) Q E s:=by
 have hT:s.TypeIs (.ref r) "reversed":=⟨_,hr,rfl⟩
 have hl:sj s.heap t items:=ht
 unfold sq
 refine aH (Ll (Kv (name:=iR "__next__") hT Rv.zr (zV Rv.zr hT Rv.PJ ?_ (Rv.PL _))))
 refine(show au _ _ (Dv (.ref r) 0>>=_) _ _ _ from aH (oH hr rfl (x:=.ref t) rfl (show au _ _ (Dv (.ref r) 1>>=_) _ _ _ from aH (oH hr rfl (x:=.int (i:Int) 0) rfl ?_))))
 have Hk:¬((i:Int)<0):=by lia
 simp only[Hk,if_false]
 refine aH (Du ht.typeIs Rv.PN ?_)
 simp only[Option.isNone_some,wU,if_false]
 refine aH (wpAny_mkInt ?_)
 refine aH (Ll (getItem_tuple hl (by lia) (by lia) (j:=i) ?_ hx ?_))
 ·have cw:i<items.size:=by
   rcases KR i items.size with z | z
   ·exact z
   ·rw[a9t z] at hx;cases hx
  unfold Sv
  simp
  lia
 ·refine(show au _ _ (Dv (.ref r) 1>>=_) _ _ _ from aH (oH (s:={ s with toks:=s.toks+1 }) hr rfl (x:=.int (i:Int) 0) rfl (aH (TL (s:={ s with toks:=s.toks+1 }) hr (by simp) λh' (hr':qF h' r t ((i:Int)-1)) hn=>bS ⟨x,rfl,bS (hQ h' _ hr' hn)⟩))))
theorem x3f{r t:Addr}{Q:Option Value->ah->Prop}(hh:A.handled=none)(hr:qF s.heap r t (-1))(hQ:∀h' tk,(∀c o,c≠r->s.heap.get? c=some o->h'.get? c=some o)->Q none { s with heap:=h',toks:=tk }):au (aB prog w) A (sq (.ref r)) Q E s:=by
 have hT:s.TypeIs (.ref r) "reversed":=⟨_,hr,rfl⟩
 unfold sq
 refine aH (Ll (Kv (name:=iR "__next__") hT Rv.zr (zV Rv.zr hT Rv.PJ ?_ (Rv.PL _))))
 refine(show au _ _ (Dv (.ref r) 0>>=_) _ _ _ from aH (oH hr rfl (x:=.ref t) rfl (show au _ _ (Dv (.ref r) 1>>=_) _ _ _ from aH (oH hr rfl (x:=.int (-1) 0) rfl ?_))))
 have Hk:((-1:Int)<0):=by decide
 simp only[Hk,if_true]
 refine aH (Lh (show au _ _ ((setField (.ref r) 1 (kL (-1))>>=_)>>=_) _ _ _ from aH (aH (TL hr (by simp) λh1 (hr1:qF h1 r t (-1)) n1=>TL hr1 (by simp) λh2 Cz n2=>?_))))
 refine aH (show au _ _ (newExc (.type "StopIteration") []>>=_) _ _ _ from aH ?_)
 simp only[newExc,newTuple]
 refine aH (pE (aH (m:=a9u _ _) (xh (a:=qQ) (by first | rfl | (simp only[a9u];rfl)) (pE ?_ (by size_fits)))) (by size_fits))
 simp only[raiseNew]
 refine aH (wpAny_handled ?_)
 first | rw[show A.in1.handled=none from hh] | rw[hh]
 refine aH (bS (wpAny_throw ?_))
 exact aH (TK (T:="StopIteration") (b:=true) ⟨_,fu _ rfl,rfl⟩ isSubtype_stop (bS (hQ _ _ λc o hc e=>cX _ (cX _ (n2.extBut _ _ hc (n1.extBut _ _ hc e))))))
theorem PO{r t:Addr}{i:Int}{Q:Value->ah->Prop}(hr:qF s.heap r t i)(h:Q (.ref r) s):au (aB prog w) A (qS (.ref r)) Q E s:=by
 have hT:s.TypeIs (.ref r) "reversed":=⟨_,hr,rfl⟩
 exact wpAny_pyIter_slot hT Rv.PH (zV Rv.PH hT Rv.a0j (bS ⟨.ref r,rfl,"reversed",_,hT,Rv.zr.lookup,h⟩) (Rv.a0k _))
theorem x9g(t:Addr)(items:Array Value):Dl (Builtin.«reversed.__new__» ⟨[.type "reversed",.ref t],[]⟩) (λ_ R s=>s.heap.IsTuple t items/\(items.size:Int)<2^63/\∀tk,R (.ok (.ret (.ref s.heap.objs.size))) { s with heap:=s.heap.push { cls:=.type "reversed",data:=.fields #[.ref t,kL ((items.size:Int)-1)] },toks:=tk }) :=
 .of_wp λprog w A R s h=>x3e h.1 h.2.1 λtk=>h.2.2 tk
theorem w4h{t:Addr}{items:Array Value}{Q:Value->ah->Prop}(ht:s.heap.IsTuple t items)(hz:(items.size:Int)<2^63)(h:∀h' tk,qF h' s.heap.objs.size t ((items.size:Int)-1)->(∀c o,s.heap.get? c=some o->h'.get? c=some o)->Q (.ref s.heap.objs.size) { s with heap:=h',toks:=tk }):au (aB prog w) A (call (.type "reversed") [.ref t]) Q E s:=by
 refine callType_new Rv.called (by decide) (F.typeCall_reversed_1 _) (F.newCall_reversed_1 _) (λobj=>F.args_object_init_2 obj _) F.entry_reversed_new (x9g t items) ⟨ht,hz,λtk=>?_⟩
 exact⟨⟨_,fu _ rfl,rfl⟩,h _ tk (fu _ rfl) λc o e=>cX _ e⟩
end
def Hl(K:aA)(a:Addr)(n:Nat):It :=
 ⟨λi H=>∃xs x,cy K H a xs/\xs.length=n/\i<n/\xs[n-1-i]? = some x,λi H x H'=>H'=H/\∀xs,cy K H a xs->xs[n-1-i]? = some x,λi H=>∃xs,cy K H a xs/\xs.length=n/\i=n⟩
theorem x7z{P:aQ}{w:aN}{K:aA}{tg:Expr}(a it:Addr)(n:Nat):Turn P w K tg (Hl K a n) [it] it (λi h=>qF h it a ((n:Int)-1-(i:Nat))) where
 mem:=by simp
 obj:=λi h st b hb=>by
  have e:b=it:=by simpa using hb
  subst e
  exact⟨_,st,λv z=>by
   have z':Se _=Sf v:=z
   cases z'⟩
 keep:=λi h h' st k=>k it (by simp) _ st
 item:=by
  intro X hP hw hK hc i pins s σ H E I hf st hg
  subst hP hw hK
  obtain⟨xs,x,hq,hl,hi,hx⟩:=hg
  obtain⟨its,rv,p,hz⟩:=I.tuple hq
  obtain⟨u,hu,ru⟩:=rv.get hx
  obtain⟨f0,f1,f2,f3,f4,f5⟩:=hf it (by simp)
  have hle:=ju
  have e1:((n:Int)-1-(i:Nat))=((n-1-i:Nat):Int):=by lia
  rw[e1] at st
  refine x1f st (show s.heap.IsTuple a its.toArray from p) (by rw[hle] at hz;lia) (x:=u) (by simpa using hu) λh' tk ib sb=>?_
  have I1:Inv X pins σ H { s with heap:=h',toks:=tk }:=I.turned (λb o hb e=>(sb.2 b hb).trans e) f0 f1 f3 f4 f5
  rw[<-e1,show((n:Int)-1-(i:Nat)-1)=(n:Int)-1-((i+1:Nat):Int) by lia] at ib
  exact⟨u,rfl,uO (s:={ s with heap:=h',toks:=tk }) (n:="reversed") ib rfl rfl (by decide) ⟨x,H,I1,ru,⟨rfl,λys hy=>by rw[I.LL hy hq];exact hx⟩,ib,λb hb=>(hf b hb).1⟩⟩
 done:=by
  intro X hP hw hK hc i pins s σ H E I hf st hg
  subst hP hw hK
  obtain⟨xs,hq,hl,hi⟩:=hg
  obtain⟨f0,f1,f2,f3,f4,f5⟩:=hf it (by simp)
  rw[show((n:Int)-1-(i:Nat)) = -1 by lia] at st
  exact x3f (I.ok.hd hc) st λh' tk kk=>⟨rfl,I.turned (λb o hb e=>kk b o hb e) f0 f1 f3 f4 f5⟩
 self:=λ_ _ _ _ _ st h=>PO st h
theorem w6j{K:aA}{H:Hp}{F:List Addr}{p:Addr}{xs:List V}{ds:List D}(h:cy K H p xs)(i:ao K (aF F H) ds xs):JC K H F (Hl K p xs.length) ds.reverse:=λH1 S=>by
 have h1:cy K H1 p xs:=tN S h
 have il:=i.length
 refine⟨λj hj=>?_,⟨xs,h1,rfl,by rw[qY];lia⟩⟩
 rw[qY] at hj
 refine⟨⟨xs,xs[xs.length-1-j]'(by lia),h1,rfl,by lia,eO (by lia)⟩,λx H2 y=>⟨y.1,?_⟩⟩
 obtain⟨d,ed,iv⟩:=i.yT (y.2 xs h1)
 exact⟨d,by rw[a9v hj,<-ed];congr 1;lia,iv.same (g7 S)⟩
theorem PR:lU ("reversed":Str)=some (.type "reversed"):=by decide +kernel
section
variable {X:Cx}{a:Expr}{ga:G->R D}
theorem w2j{tg:Expr}{p pos:Pos}(ha:PD X a ga)(hm:X.mg "reversed"=none)(hg:Gl X "reversed":=by rfl)(hs:aV [a] X.env=[(false,eval a X.env)]:=by rfl) :
 tS X tg (.Call (.Name "reversed" p) [a] [] pos) (gRev ga):=by
 refine⟨λpins s σ H F Γ I fo rl bZ=>?_⟩
 refine wZ (iA I hg hm PR (pM ?_ hs rfl))
 rw[hs]
 show au _ _ (eE ((false,eval a X.env)::cC pos [])) _ _ s
 refine fw (av (ha.run pins s σ H F Γ I fo rl (R.left bZ)) (λu s1 ⟨d,v,H1,e1,I1,r1,S1,i1⟩=>h_ ?_) λ_ _ x=>x.bind _)
 have aJ:=R.next bZ e1
 cases d with
 | tup ds =>
   obtain⟨n1,e5⟩:=R.cT (show R.guard (D.a_ ds=true) (.ok ds.reverse) ≠ .no from aJ)
   obtain⟨l,xs,rfl,q1,j1⟩:=Is.fB.mp i1
   have He:=ao.aF (fo.same S1) _ xs n1 j1
   cases (show u=ft l from r1)
   obtain⟨its,rv,pl,hz⟩:=I1.tuple q1
   have hle:=ju
   have hlen:=rv.length
   refine w4h (show s1.heap.IsTuple l its.toArray from pl) (by rw[hle] at hz;simp;lia) λh' tk a1 a2=>?_
   refine PO (s:={ s1 with heap:=h',toks:=tk }) a1 ?_
   have I3:Inv X pins σ H1 { s1 with heap:=h',toks:=tk }:=I1.kept a2
   refine⟨ds.reverse,s1.heap.objs.size,_,_,Hl X.K l xs.length,H1,(R.step e1 _).trans e5,rfl,I3,S1,x7z l _ xs.length,?_,λc hc=>?_,w6j q1 He⟩
   ·show qF h' s1.heap.objs.size l ((xs.length:Int)-1-((0:Nat):Int))
    rw[show((xs.length:Int)-1-((0:Nat):Int))=(its.toArray.size:Int)-1 by simp;lia]
    exact a1
   ·have e:c=s1.heap.objs.size:=by simpa using hc
    subst e
    exact I1.sN (a7 _) (I1.aK.fresh (a7 _))
 | _=>exact absurd rfl aJ
end
section
variable {X:Cx}{e:Expr}{pos p:Pos}{x:Str}{es:List Expr}{gs:G->R (List D)}
theorem w7d{k:Nat}{f:Addr}{fd:cG}{ps:List Str}{φ:List D->R D}(Fn:eN X.prog X.w X.K X.mg X.base k f fd ps φ)(hr:eh k X.A){pins:List (Addr×Obj)}{σ:St}{H:Hp}{F:List Addr}{s:ah}{us:List Value}{vs:List V}{ds:List D}{d':D}{EE:Value->ah->Prop}
 (I:Inv X pins σ H s) (fo:bI H F) (r:Vals vs us) (i:ao X.K (aF F H) ds vs) (hg:φ ds = .ok d'):au (aB X.prog X.w) X.A (call (.ref f) us) (λu s'=>∃v H',Inv X pins σ H' s'/\RelV v u/\aO H H'/\Is X.K (aF F H') d' v) EE s:=by
 have dZ:yZ X.K X.mg φ vs (aF F H) (λv H'=>aO (aF F H) H'/\Is X.K H' d' v) (λ_ _ _=>False) :=
  ⟨ds,i,(by rw[hg];exact λz=>nomatch z),λd v H' e S iv=>by rw[hg] at e;cases e;exact⟨S,iv⟩,λc C H' e=>by rw[hg] at e;cases e⟩
 have hl:us.length=ps.length:=by rw[<-r.length];exact Fn.ok.len _ _ _ _ dZ
 have hb:=Fn.binds s us I.fS (by rw[kM];exact hl)
 rw[kM] at hb
 have nh:∀{b:Addr},H b=none->aF F H b=none:=λ{b} q=>by
  by_cases hb:b∈F
  ·exact rZ hb
  ·rw[da hb];exact q
 have e0:=I.xt
 have en:uQ X.prog X.w X.K X.mg X.base X.A X.stack s (aF F H):=⟨e0.frames,e0.mod,λb o q=>⟨(e0.bs b o q).1,nh (e0.bs b o q).2⟩,e0.jT,e0.jy,λb hb=>nh (e0.kT b hb),Pu fo e0.aK,e0.bare⟩
 refine Ac (qW (Fn.ok.run X.A X.stack s (aF F H) ⟨us,[]⟩ us vs _ _ hr en hb r dZ) λr' s' hq=>?_)
 cases r' with
 | error u=>obtain⟨_,_,_,_,_,_,_,_,_,_,_,_,_,_,_,_,_,_,_,_,_,_,_,_,_,_,hE⟩:=hq;exact hE.elim
 | ok fl =>
   cases fl with
   | ret u =>
     obtain⟨v,H1,os,bare,un,aK,rv,S,h3⟩:=hq
     have own:∀b,b∈F->∃ys its n,H b=some (.lst ys)/\ys.length<=bR/\Vals ys its/\s'.heap.get? b=some { cls:=.type "list",data:=.seq its.toArray n }/\H1 b=none:=λb hb=>by
      obtain⟨ys,ey⟩:=fo b hb
      obtain⟨z,its,n,uh,gt⟩:=I.aK b _ ey
      exact⟨ys,its,n,ey,z,uh,un.keep b _ gt (rZ hb) (λz=>by rw[e0.kT b z] at ey;cases ey) (by simp),un.free b _ gt (rZ hb) (by simp)⟩
     let H2:Hp:=λb=>if b∈F then H b else H1 b
     have zt:∀{b},b∈F->H2 b=H b:=λ{b} h=>if_pos h
     have kg:∀{b},b ∉ F->H2 b=H1 b:=λ{b} h=>if_neg h
     have up:∀{b o},H1 b=some o->b ∉ F/\H2 b=some o:=λ{b o} q=>by
      have hb:b ∉ F:=λz=>by obtain⟨_,_,_,_,_,_,_,z2⟩:=own b z;rw[q] at z2;cases z2
      exact⟨hb,(kg hb).trans q⟩
     have ui:∀{b o},H b=some o->(∀ys,o ≠ .lst ys)->b ∉ F:=λ{b o} q n z=>by obtain⟨ys,e⟩:=fo b z;rw[q] at e;cases e;exact n ys rfl
     have Hm:Un (dj X.stack) [] H H2 s.heap s'.heap:=by
      refine⟨λb o q n=>un.keep b o q (nh n),λb o q n=>un.slot b o q (nh n),λb o q n hx=>?_,un.there,λb ys q=>?_,λb o u q=>?_,λb ps q=>?_⟩
      ·have hb:b ∉ F:=λz=>by obtain⟨ys,e⟩:=fo b z;rw[n] at e;cases e
       rw[kg hb];exact un.free b o q (nh n) hx
      ·have hb:=ui q λys z=>nomatch z
       rw[kg hb];exact un.kn b ys (by rw[da hb];exact q)
      ·have hb:=ui q λys z=>nomatch z
       rw[kg hb];exact un.jS b o u (by rw[da hb];exact q)
      ·have hb:=ui q λys z=>nomatch z
       rw[kg hb];exact un.ko b ps (by rw[da hb];exact q)
     have Hn:dY X.prog X.w H2 s'.heap:=λb u q=>by
      by_cases hb:b∈F
      ·obtain⟨ys,its,n,ey,z,uh,gt,_⟩:=own b hb
       rw[zt hb,ey] at q
       cases q
       exact⟨z,its,n,uh,gt⟩
      ·rw[kg hb] at q
       exact(aK b u q).kQ (λc v _ e=>e) (λc e=>(up e).2) λc ys e=>(up e).2
     have I2:Inv X pins σ H2 s':=I.DI os Hm Hn bare (λb z=>absurd z (by simp))
     have S2:aO H H2:=λb o q=>by
      by_cases hb:b∈F
      ·rw[zt hb];exact q
      ·rw[kg hb];exact S b o (by rw[da hb];exact q)
     have Sx:aO H1 (aF F H2):=λb o q=>by rw[da (up q).1];exact(up q).2
     exact⟨v,H2,I2,rv,S2,h3.same Sx⟩
   | next=>exact b6 hq
   | brk=>exact b6 hq
   | cont=>exact b6 hq
end
section
variable {X:Cx}{e:Expr}{g:G->R D}{pos pt:Pos}
end
section
variable {prog:aQ}{w:aN}{A:Around}{E:Value->ah->Prop}{s:ah}
end
section
variable {X:Cx}{a:Expr}{ga:G->R D}{st:Expr}{gt:G->R (Option Int)}{pos p2:Pos}
end
section
variable {X:Cx}{e a b c:Expr}{g ga gb gc:G->R D}{pos:Pos}
end
section
variable {X:Cx}{e a b c:Expr}{g ga gb gc:G->R D}{pos:Pos}
end
theorem y9c{M:oB}{A:Around}{E:Value->ah->Prop}{s:ah}{x c:Value}{Q:Value->ah->Prop}(h:au M A (iP .In x c) (λv s'=>∃b,v = .bool b/\Q (.bool (!b)) s') E s):au M A (iP .NotIn x c) Q E s:=by
 intro Γ p Cb
 have h1:=h Γ p Cb
 have e1:iP .In x c=(contains c x>>=λb=>pure (.bool b)):=rfl
 have e2:iP .NotIn x c=(contains c x>>=λb=>pure (.bool (!b))):=rfl
 rw[e1,Sem.wp_bind'] at h1
 rw[e2,Sem.wp_bind']
 refine Sem.wp_mono M Γ _ (λb p' s' hb=>?_) (λ_ _ _ z=>z) p s h1
 rw[Sem.wp_pure'] at hb ⊢
 obtain⟨b',eb,hq⟩:=hb
 cases eb
 exact hq
theorem PS(d:D):∀ys:List D,((D.f_ ys).any λy=>y.eqv d.py)=ys.any λy=>cz y d
 | []=>by simp[D.f_]
 | y::ys=>by rw[D.f_,z8,z8,PS d ys,B5]
section
variable {X:Cx}
end
section
variable {prog:aQ}{w:aN}{A:Around}{E:Value->ah->Prop}{s:ah}
end
section
variable {X:Cx}{a b:Expr}{ga gb:G->R D}
end
section
variable {X:Cx}{e a b c:Expr}{g ga gb gc:G->R D}{gs:G->R (List D)}{pos pos' p:Pos}
theorem x4l(i:Nat){x:Str}{apos cD:Pos}(he:PF X e gs)(hN:X.N[i]? = some x:=by rfl)(hv:kR X.env.scope x:=by first | exact fR rfl | exact dX (fR rfl) | exact dX (dX rfl))(hd:(x==("__debug__":Str))=false:=by decide)(dE:(x==("__classdict__":Str))=false:=by decide)
 (ox:pQ (.Call (.Attribute (.Name x p) "extend" apos) [e] [] cD) none pos.line X.env=pure false:=by rfl)
 (ke:uH (.Name x p) "extend" X.env (eval (.Name x p) X.env)=eval (.Name x p) X.env:=by rfl)
 (lJ:((cC cD (aV [e] X.env)).all (λx=>!x.1)&&(uv cD (uw [] X.env)).all (λx=>x.1.isSome)
   && decide ([e].length+([]:List km).length+(if ([]:List km).isEmpty then 0 else 1)<30))=true:=by rfl)
 (kf:(apos.endLine==cD.line)=true:=by rfl) (hs:aV [e] X.env=(false,eval e X.env)::aV [] X.env:=by rfl) :
 PQ X (.Expr (.Call (.Attribute (.Name x p) "extend" apos) [e] [] cD) pos) (sY i gs):=by
 refine⟨λpins s σ H F Γ I fo rl hg=>?_⟩
 refine Ds ?_ I.quiet ox
 have y9:∃ds,Γ[i]? = some (.own ds):=by
  unfold sY at hg
  split at hg
  ·rename_i ds e1;exact⟨ds,e1⟩
  ·exact absurd rfl hg
 obtain⟨ds,eo⟩:=y9
 have y_:sY i gs Γ=lift (gs Γ) Γ λes=>R.guard (ds.length+es.length<=100000) (.ok (.nx (Γ.set i (.own (ds++es))))):=by unfold sY;rw[eo]
 rw[y_] at hg ⊢
 obtain⟨a',xs,h1,hF,h3,h4⟩:=rl.own i ds eo
 refine w_ ke lJ kf rfl (av (pV (X:=X.bT) hN hv hd dE pins s σ H (λv' H'=>v' = .ref a'/\H'=H) (I.dm _) ⟨.ref a',h1,rfl,rfl⟩) (λv s1 ⟨v',H',I1,r1,e1,e2⟩=>?_) λ_ _ z=>b6 z)
 subst e1 e2
 have se:=I1.eQ
 obtain⟨t1,t2⟩:=AE (T:="list") se r1 (.inl ⟨rfl,xs,b9.of h3⟩)
 refine⟨"list",_,Lf,PySem.F.slot_list_extend,PySem.F.type_list_extend,t1,t2,?_⟩
 rw[hs]
 refine uI rfl (xc ?_)
 show au _ _ (eE ((false,eval e X.env)::cC cD [])) _ _ s1
 refine fw (av (he.run pins s1 σ H' F Γ se fo rl (jD hg)) (λu s2 hq=>h_ ?_) λ_ _ x=>x.lift fo rl _)
 obtain⟨es,l,zs,H2,e3,I2,r2,S2,xq,AF,ia⟩:=hq
 have fg:=A5 hg e3
 obtain⟨hl,e4⟩:=R.cT fg
 have Cj:=S2 _ _ h3
 have iY:(100001:Nat)<=bR:=by rw[ju];decide
 have jk:=h4.length
 have PU:=ia.length
 refine av (Vt (X:=X.bT) pins s2 σ H2 (.ref a') [.ref l] v [u] (λz lK=>z = .cH/\lK=upd H2 a' (.lst (xs++zs))) (I2.dm _) r1 (.cons r2 .nil) ⟨a',l,xs,zs,rfl,rfl,Cj,AF,by lia,rfl,rfl⟩) (λw' s3 ⟨z,lK,I3,rz,ez,eH⟩=>?_) λ_ _ z=>b6 z
 subst ez eH
 have ne:l≠a':=λz=>by rw[z,h3] at xq;cases xq
 have y8:ao X.K (aF F H2) es zs:=ia.same λb o hb=>by
  obtain⟨z1,z2⟩:=iF hb
  rw[da λz=>z1 (dJ _ z)]
  exact z2
 obtain⟨lI,za⟩:=(rl.same S2).put eo h1 (xs':=xs++zs) (ds':=ds++es) ((h4.same (g7 S2)).append y8)
 refine⟨_,(jE e3).trans e4,σ,_,F,I3.eQ,λb hb=>?_,lI,⟨λb o hb h=>?_,λb hb=>.inl hb⟩⟩
 ·by_cases oy:b=a'
  ·exact⟨xs++zs,by rw[oy];exact dc⟩
  ·obtain⟨ys,q⟩:=fo b hb
   exact⟨ys,by rw[bD oy];exact S2 _ _ q⟩
 ·rw[bD (λz=>hb (by rw[z];exact hF))];exact S2 _ _ h
end
def At(xs:Array Nat)(j i:Nat):Prop:=i<=xs.size/\(∀(k v:Nat),k<i->xs[k]? = some v->v<j)/\(∀(k v:Nat),i<=k->xs[k]? = some v->j<=v)
theorem Ho{xs:Array Nat}{j:Nat}(qG:xs.toList.Pairwise (·<·)):∀(fuel lo hi:Nat),hi-lo<=fuel->lo<=hi->hi<=xs.size->(∀(k v:Nat),k<lo->xs[k]? = some v->v<j)->(∀(k v:Nat),hi<=k->xs[k]? = some v->j<=v) ->
 At xs j (Lm xs j fuel lo hi)
 | 0,lo,hi,h1,h2,h3,h4,h5=>by
   have e:lo=hi:=by lia
   subst e
   exact⟨h3,h4,h5⟩
 | fuel+1,lo,hi,h1,h2,h3,h4,h5=>by
   rw[show Lm xs j (fuel+1) lo hi=(if lo<hi then (if xs.getD ((lo+hi)/2) j<j then Lm xs j fuel ((lo+hi)/2+1) hi else Lm xs j fuel lo ((lo+hi)/2)) else lo) from rfl]
   by_cases q:lo<hi
   ·rw[if_pos q]
    have hm:(lo+hi)/2<xs.size:=by lia
    have hg:xs.getD ((lo+hi)/2) j=xs[(lo+hi)/2]:=by simp[Array.getD,hm]
    have mono:∀(a b va vb:Nat),a<=b->xs[a]? = some va->xs[b]? = some vb->va<=vb:=λa b va vb zp ea eb=>by
     rcases KR a b with w | w
     ·obtain⟨ha,ea'⟩:=Array.getElem?_eq_some_iff.mp ea
      obtain⟨hb,eb'⟩:=Array.getElem?_eq_some_iff.mp eb
      have:=List.pairwise_iff_getElem.mp qG a b (by simpa using ha) (by simpa using hb) w
      rw[Ai,Ai,ea',eb'] at this
      lia
     ·have:a=b:=by lia
      rw[this,eb] at ea;cases ea;exact a7 _
    have em:xs[(lo+hi)/2]? = some xs[(lo+hi)/2]:=Aj hm
    by_cases z:xs.getD ((lo+hi)/2) j<j
    ·rw[if_pos z]
     rw[hg] at z
     exact Ho qG fuel _ hi (by lia) (by lia) h3 (λk v hk e=>KC (mono k _ v _ (by lia) e em) z) h5
    ·rw[if_neg z]
     rw[hg] at z
     exact Ho qG fuel lo _ (by lia) (by lia) (by lia) h4 (λk v hk e=>dD (by lia) (mono _ k _ v hk em e))
   ·rw[if_neg q]
    have e:lo=hi:=by lia
    subst e
    exact⟨h3,h4,h5⟩
theorem x1c{xs:Array Nat}(qG:xs.toList.Pairwise (·<·))(j:Nat):At xs j (Dw xs j) :=
 Ho qG xs.size 0 xs.size (by lia) (ni _) (a7 _) (λk v hk=>absurd hk (C_ _)) λk v hk e=>by
  obtain⟨h,_⟩:=Array.getElem?_eq_some_iff.mp e
  lia
theorem y7g{xs:Array Nat}{j:Nat}(qG:xs.toList.Pairwise (·<·))(hj:xs[Dw xs j]? ≠ some j):(SetTable.insertAt xs (Dw xs j) j).toList.Pairwise (·<·):=by
 obtain⟨b1,b2,b3⟩:=x1c qG j
 generalize Dw xs j=i at *
 rw[SetTable.toList_insertAt]
 have ht:xs.toList=xs.toList.take i++xs.toList.drop i:=(KQ i _).symm
 have hp:=qG
 rw[ht] at hp
 obtain⟨p1,p2,p3⟩:=List.pairwise_append.mp hp
 have PV:∀v∈xs.toList.take i,v<j:=λv hv=>by
  obtain⟨k,hk,e⟩:=List.mem_take_iff_getElem.mp hv
  refine b2 k v (by lia) ?_
  have zu:k<xs.size:=by have:=hk;simp at this;lia
  rw[Aj zu,<-e,Ai]
 have PX:∀v∈xs.toList.drop i,j<v:=λv hv=>by
  obtain⟨k,hk,e⟩:=List.mem_drop_iff_getElem.mp hv
  have zu:i+k<xs.size:=by simp at hk;lia
  have ek:xs[i+k]? = some v:=by rw[Aj zu,<-e,Ai]
  have h1:=b3 (i+k) v (by lia) ek
  by_cases z:j=v
  ·exfalso
   subst z
   cases k with
   | zero=>exact hj ek
   | succ k =>
     have PY:i<xs.size:=by lia
     have h2:=b3 i xs[i] (a7 _) (Aj PY)
     have h3:=List.pairwise_iff_getElem.mp qG i (i+(k+1)) (by simpa using PY) (by simpa using zu) (by lia)
     rw[Ai,Ai] at h3
     have h4:xs[i+(k+1)]=j:=by rw[Aj zu] at ek;exact kK ek
     lia
  ·lia
 refine List.pairwise_append.mpr ⟨p1,List.pairwise_cons.mpr ⟨PX,p2⟩,λx hx y hy=>?_⟩
 rcases List.mem_cons.mp hy with e | e
 ·rw[e];exact PV x hx
 ·exact Nat.lt_trans (PV x hx) (PX y e)
structure gG (led:Bool) (t:l9):Prop where
 led:t.led=led
 pk:t.dummies=#[]
 up:t.plain=true->t.place.toList.Pairwise (·<·)
theorem gG.CA{led:Bool}{t:l9}(h:gG led t)(n:Nat):gG led (t.standIn n):=⟨h.led,rfl,λz=>by cases z⟩
theorem gG.a0n{led:Bool}{t:l9}(h:gG led t)(n:Nat):gG led (t.orStandIn n):=by
 unfold SetTable.orStandIn
 split
 ·exact h
 ·exact h.CA n
theorem PZ{t:l9}(h:t.dummies=#[])(j:Nat):SetTable.has t.dummies j=false:=by rw[h];rfl
theorem P0{t:l9}(h:t.dummies=#[]){f:Nat->Int}{x:Int}:∀(fuel:Nat) (q:xk) {j:Nat} {d:Option Nat},q.dummy=none->a9w t f x fuel q=some (.empty j d)->d=none/\t.slot j = .empty
 | 0,q,j,d,_,e=>by cases e
 | fuel+1,q,j,d,hq,e=>by
   unfold a9w at e
   cases hs:t.slot q.j with
   | empty =>
     rw[hs] at e
     simp only[z_,SetTable.Met.empty.injEq] at e
     obtain⟨rfl,rfl⟩:=e
     exact⟨hq,hs⟩
   | dummy =>
     exfalso
     unfold SetTable.slot at hs
     rw[PZ h] at hs
     dsimp only at hs
     split at hs
     ·cases hs
     ·simp at hs
   | live i =>
     rw[hs] at e
     dsimp only at e
     split at e
     ·cases e
     ·refine P0 h fuel _ ?_ e
      unfold SetTable.advance
      split<;>exact hq
theorem gG.a0o{led:Bool}{t:l9}{x:Int}{j:Nat}{d:Bool}(h:gG led t)(e:t.freeSlot x=some (j,d)):gG led (t.put j).1:=by
 unfold SetTable.freeSlot at e
 cases hq:t.probe (λ_=>x+1) x (t.probeStart x) with
 | none=>rw[hq] at e;cases e
 | some m =>
   rw[hq] at e
   cases m with
   | candidate _ _ _=>cases e
   | empty j' d' =>
     obtain⟨rfl,hs⟩:=P0 h.pk _ _ rfl hq
     simp only[SD,z_,Ln] at e
     obtain⟨rfl,_⟩:=e
     have hn:t.place[Dw t.place j']? ≠ some j':=λz=>by
      unfold SetTable.slot at hs
      dsimp only at hs
      rw[z] at hs
      simp at hs
     refine⟨h.led,?_,λz=>y7g (h.up z) hn⟩
     show(if SetTable.has t.dummies j' then _ else t.dummies)=#[]
     rw[PZ h.pk,h.pk];rfl
theorem gG.a0p{led:Bool}{t:l9}(h:gG led t)(es:Array (Int×Value))(x:Int)(v:Value):gG led (layNew t es x v).2.1:=by
 unfold layNew
 cases hq:t.freeSlot x with
 | none=>exact h.CA _
 | some p =>
   obtain⟨j,d⟩:=p
   exact(h.a0o hq).a0n _
theorem w3m{mask finger moves:Nat}{led plain:Bool}{hs:Array Int}{t:l9}{o:Array Nat}(e:SetTable.laid mask finger moves led plain hs=some (t,o)):gG led t:=by
 unfold SetTable.laid at e
 cases hq:SetTable.layClean mask hs with
 | none=>rw[hq] at e;cases e
 | some owner =>
   rw[hq] at e
   simp only[Option.bind_eq_bind,Option.bind_some,Option.pure_def,z_,Ln] at e
   obtain⟨rfl,_⟩:=e
   refine⟨rfl,rfl,λ_=>?_⟩
   show(List.map (·.1) ((eY (mask+1)).filterMap λj=>(owner.getD j none).map (j,·))).Pairwise (·<·)
   rw[List.pairwise_map]
   refine List.pairwise_filterMap.mpr (List.pairwise_lt_range.imp λ{a b} zp x hx y hy=>?_)
   cases ha:owner.getD a none with
   | none=>rw[ha] at hx;cases hx
   | some u =>
     cases hb:owner.getD b none with
     | none=>rw[hb] at hy;cases hy
     | some w =>
       rw[ha] at hx;rw[hb] at hy
       cases hx;cases hy
       exact zp
theorem gG.a0q{led:Bool}{t:l9}(h:gG led t)(es:Array (Int×Value))(n:Nat):gG led (Ak t es n).2.1:=by
 unfold Ak
 cases hq:t.relaid (es.map (·.1)) n with
 | none=>exact h.CA _
 | some p =>
   obtain⟨t',o⟩:=p
   dsimp only
   split
   ·unfold SetTable.relaid at hq
    have:=w3m hq
    rw[h.led] at this
    exact this
   ·exact h.CA _
theorem gG.a0r{led:Bool}{t:l9}(h:gG led t):gG led { t with plain:=false }:=⟨h.led,h.pk,λz=>by cases z⟩
section
variable {prog:aQ}{w:aN}{A:Around}{E:Value->ah->Prop}{s:ah}
end
section
variable {prog:aQ}{w:aN}{A:Around}{E:Value->ah->Prop}{s:ah}
def kh(w:aN):Bool:=!(w.params.followText "set-order")
theorem a0s(v:Value){Q1:Value->ah->Prop}(q:Q1 (.ref s.heap.objs.size) { s with heap:=s.heap.push { cls:=.type "set",dict:=none,data:=.set #[] 0 (.fresh 0 0 (kh w)) } }) :
 iQ (aB prog w) A (.call (.builtin "set.__new__") ⟨[.type "set",v],[]⟩) (wants Q1 E) s:=by
 refine a9x (show au _ A.in1 (do Tw "set.__new__" ⟨[.type "set",v],[]⟩;again (.builtin "set.__new__" ⟨[.type "set",v],[]⟩)) _ _ s from ?_)
 refine aH (xh (F.newCall_set_1 v) (bS ⟨TM a9y _,Dt F.entry_set_new ?_⟩))
 rw[TN a9y _];unfold Builtin.«set.__new__» Builtin.Frozenset.newClass
 have a0t:=sub_set_self
 obtain⟨hp,g,d,tk,os⟩:=s
 dsimp only
 wp_walk
 refine wpAny_askSetting (bS ?_)
 dsimp only
 simp only[newObj]
 exact aH (wpAny_alloc (bS (bS q)))
end
section
variable {prog:aQ}{w:aN}{A:Around}{E:Value->ah->Prop}{s:ah}
end
section
variable {prog:aQ}{w:aN}{A:Around}{E:Value->ah->Prop}{s:ah}
end
section
variable {prog:aQ}{w:aN}{A:Around}{E:Value->ah->Prop}{s:ah}
end
section
variable {prog:aQ}{w:aN}{A:Around}{E:Value->ah->Prop}{s:ah}
end
section
variable {prog:aQ}{w:aN}{A:Around}{E:Value->ah->Prop}{s:ah}
end
section
variable {prog:aQ}{w:aN}{A:Around}{E:Value->ah->Prop}{s:ah}
end
theorem w0j:lU ("set":Str)=some (.type "set"):=by decide +kernel
section
variable {X:Cx}{e a b c:Expr}{g ga gb gc:G->R D}{gs:G->R (List D)}{pos pos' p p2:Pos}
end
section
variable {X:Cx}
end
section
variable {prog:aQ}{w:aN}{A:Around}{E:Value->ah->Prop}{s:ah}
end
section
variable {prog:aQ}{w:aN}{A:Around}{E:Value->ah->Prop}{s:ah}
end
section
variable {X:Cx}{a b:Expr}{ga gb:G->R D}
end
def spT(K:aA)(mg:Str->Option Value)(φ:List D->R D):Sp:=λvs H Q E=>∃ds,ao K H ds vs/\φ ds ≠ .no /\
 (∀d1 d2 es p x y a xs H',φ ds = .ok (.tup [d1,d2,.lst es])->aO H H'->H a=none->H' a=some (.lst xs)->cy K H' p [x,y,.ref a]->Is K H' d1 x->Is K H' d2 y->ao K H' es xs->Q (.ref p) H') /\
 (∀c C H',φ ds = .er c->mg c.nm=some (.ref C)->aO H H'->E (.ref C) none H')
structure FnT (P:aQ) (w:aN) (K:aA) (mg:Str->Option Value) (base:Heap) (k:Nat) (f:Addr) (fd:cG) (ps:List Str) (φ:List D->R D):Prop where
 ok:ja P w K mg base (mK P w) k f fd ps (spT K mg φ)
 binds:jV K fd ps []
 kp:wG K (.ref f)=true
section
variable {X:Cx}{e e1 e2 e3:Expr}{es:List Expr}{gs:G->R (List D)}{g g1 g2:G->R D}{g3:G->R (List D)}{pos p:Pos}{x:Str}{st:Stmt}{rest:List Stmt}{t u g':G->R Fl}
def RtT(X:Cx)(pins:List (Addr×Obj))(H:Hp)(F:List Addr)(r:R Fl)(u:Value)(s':ah):Prop:=∃aE H' F' p x y a xs d1 d2 es,Inv X pins aE H' s'/\u = .ref p/\Ext H F H' F'/\r = .ok (.rt (.tup [d1,d2,.lst es])) /\
 (a∈F∨H a=none)/\H' a=some (.lst xs)/\cy X.K H' p [x,y,.ref a]/\Is X.K H' d1 x/\Is X.K H' d2 y/\ao X.K H' es xs
def FlT(X:Cx)(pins:List (Addr×Obj))(H:Hp)(F:List Addr)(r:R Fl)(fl:Flow)(s':ah):Prop:=match fl with
 | .ret u=>RtT X pins H F r u s'
 | _=>False
structure PT (X:Cx) (st:List Stmt) (g:G->R Fl):Prop where
 run:∀(pins:List (Addr×Obj)) (s:ah) (σ:St) (H:Hp) (F:List Addr) (Γ:G),Inv X pins σ H s->bI H F->Rel X.K H F Γ σ->g Γ ≠ .no ->
  au (aB X.prog X.w) X.A (sm st X.env) (FlT X pins H F (g Γ)) (ou X pins H F (g Γ)) s
structure PAL (X:Cx) (n:Nat) (es:List Expr) (g:G->R (List D)):Prop where
 run:∀(pos:Pos) (pins:List (Addr×Obj)) (s:ah) (σ:St) (H:Hp) (F:List Addr) (Γ:G),Inv X pins σ H s->bI H F->Rel X.K H F Γ σ->g Γ ≠ .no ->
  au (aB X.prog X.w) X.A (eE (cC pos (aV es X.env))) (λus s'=>∃ds cJ vs a xs H',g Γ = .ok (ds++[.lst cJ])/\ds.length=n/\Inv X pins σ H' s'/\Vals (vs++[.ref a]) us/\aO H H'/\H a=none/\H' a=some (.lst xs)/\ao X.K H' ds vs/\ao X.K H' cJ xs) (bY X pins σ H (g Γ)) s
end
section
variable {P:aQ}{w:aN}{K:aA}{mg:Str->Option Value}{base:Heap}
end
def Hr(X:Cx)(pins:List (Addr×Obj))(H:Hp)(F:List Addr)(Γ:G)(P:St->Prop)(s':ah):Prop:=∃aE H' F',Inv X pins aE H' s'/\bI H' F'/\Rel X.K H' F' Γ aE/\Ext H F H' F'/\P aE
def wa(X:Cx)(pins:List (Addr×Obj))(H:Hp)(F:List Addr)(r:R Fl)(P:St->Prop)(fl:Flow)(s':ah):Prop:=match fl with
 | .next=>∃Γ',r = .ok (.nx Γ')/\Hr X pins H F Γ' P s'
 | .brk=>∃Γ',r = .ok (.bk Γ')/\Hr X pins H F Γ' P s'
 | .cont=>∃Γ',r = .ok (.ct Γ')/\Hr X pins H F Γ' P s'
 | .ret u=>mP X pins H F r u s'
structure PK (X:Cx) (i:Nat) (st:Stmt) (g:G->R Fl):Prop where
 run:∀(pins:List (Addr×Obj)) (s:ah) (σ:St) (H:Hp) (F:List Addr) (Γ:G),Inv X pins σ H s->bI H F->Rel X.K H F Γ σ->g Γ ≠ .no ->
  au (aB X.prog X.w) X.A (exec st X.env) (wa X pins H F (g Γ) λaE=>aE[i]? = σ[i]?) (ou X pins H F (g Γ)) s
structure qH (X:Cx) (i:Nat) (st:List Stmt) (g:G->R Fl):Prop where
 run:∀(pins:List (Addr×Obj)) (s:ah) (σ:St) (H:Hp) (F:List Addr) (Γ:G),Inv X pins σ H s->bI H F->Rel X.K H F Γ σ->g Γ ≠ .no ->
  au (aB X.prog X.w) X.A (sm st X.env) (wa X pins H F (g Γ) λaE=>aE[i]? = σ[i]?) (ou X pins H F (g Γ)) s
section
variable {X:Cx}{e c:Expr}{g:G->R D}{pos pos':Pos}{st:Stmt}{rest:List Stmt}{t u:G->R Fl}{i:Nat}
theorem wa.later{pins:List (Addr×Obj)}{H H1:Hp}{F F1:List Addr}{r:R Fl}{P P':St->Prop}{fl:Flow}{s':ah}(E:Ext H F H1 F1)(hP:∀σ,P σ->P' σ)(h:wa X pins H1 F1 r P fl s'):wa X pins H F r P' fl s':=by
 cases fl with
 | next=>obtain⟨Γ',e,aE,H',F',h1,h2,h3,h4,h5⟩:=h;exact⟨Γ',e,aE,H',F',h1,h2,h3,E.trans h4,hP _ h5⟩
 | brk=>obtain⟨Γ',e,aE,H',F',h1,h2,h3,h4,h5⟩:=h;exact⟨Γ',e,aE,H',F',h1,h2,h3,E.trans h4,hP _ h5⟩
 | cont=>obtain⟨Γ',e,aE,H',F',h1,h2,h3,h4,h5⟩:=h;exact⟨Γ',e,aE,H',F',h1,h2,h3,E.trans h4,hP _ h5⟩
 | ret u=>exact mP.map h E (λ_ _ I=>I) (λ_ e=>e) λ_ e=>e
theorem Hs:qH X i [] cL:=⟨λpins s σ H F Γ I fo rl _=>pP ⟨Γ,rfl,σ,H,F,I,fo,rl,.refl,rfl⟩⟩
theorem P1(h1:PK X i st t):qH X i [st] t:=by
 refine⟨λpins s σ H F Γ I fo rl hg=>?_⟩
 refine uG (fE (h1.run pins s σ H F Γ I fo rl hg) λfl s1 q=>?_)
 cases fl with
 | next=>exact pP q
 | ret v=>exact q
 | brk=>exact q
 | cont=>exact q
theorem Ht{cs ds:List Stmt}{gc:G->R Bool}(hc:i5 X c gc)(ha:qH X i cs t)(hb:qH X i ds u):PK X i (.If c cs ds pos) (b5 gc t u):=by
 refine⟨λpins s σ H F Γ I fo rl hg=>?_⟩
 refine Lc (av (hc.run pins s σ H F Γ I fo rl (jD hg)) (λk s1 q=>?_) λ_ _ x=>x.lift fo rl _)
 obtain⟨H1,e1,I1,S1⟩:=q
 have e2:b5 gc t u Γ=if k=true then t Γ else u Γ:=jE e1
 rw[e2] at hg ⊢
 cases k with
 | true=>exact av (ha.run pins s1 σ H1 F Γ I1 (fo.same S1) (rl.same S1) hg) (λ_ _ q=>q.later (.of_same S1) λ_ z=>z) λ_ _ q=>q.later (.of_same S1)
 | false=>exact av (hb.run pins s1 σ H1 F Γ I1 (fo.same S1) (rl.same S1) hg) (λ_ _ q=>q.later (.of_same S1) λ_ z=>z) λ_ _ q=>q.later (.of_same S1)
theorem x8n(n:Nat){zf:Expr}{body:List Stmt}{gc:G->R Bool}{gb:G->R Fl}(hp:zb X)(hc:i5 X zf gc)(hb:qH X i body gb):PK X i (.While zf body [] pos) (eI gc gb n):=by
 refine⟨λpins s σ H F Γ I fo rl hg=>?_⟩
 have bG:=hp pins H F (eI gc gb n Γ)
 refine wpAny_While (a9i (λm s'=>∃(aE:St) (H':Hp) (F':List Addr) (Γ':G),Inv X pins aE H' s'/\bI H' F'/\Rel X.K H' F' Γ' aE/\Ext H F H' F'/\eI gc gb m Γ'=eI gc gb n Γ/\aE[i]? = σ[i]?) ?_ n ⟨σ,H,F,Γ,I,fo,rl,.refl,rfl,rfl⟩)
 rintro m s1 ⟨kU,H1,F1,dG,I1,eW,fq,E1,di,k1⟩
 have aJ:eI gc gb m dG ≠ .no:=by rw[di];exact hg
 cases m with
 | zero=>exact absurd rfl aJ
 | succ m =>
   have G2:eI gc gb (m+1) dG=lift (gc dG) dG λk=>if k=true then (match gb dG with
    | .ok (.nx Γ')=>eI gc gb m Γ'
    | .ok (.ct Γ')=>eI gc gb m Γ'
    | .ok (.bk Γ')=>.ok (.nx Γ')
    | .ok (.rt d)=>.ok (.rt d)
    | .ok (.fz d)=>.ok (.fz d)
    | .ok (.ex c Γ')=>.ok (.ex c Γ')
    | _=>.no) else .ok (.nx dG):=rfl
   rw[G2] at aJ di
   refine sF bG (av (hc.run pins s1 kU H1 F1 dG I1 eW fq (jD aJ)) (λk s2 q2=>?_) λ_ _ x=>by rw[<-di];exact(x.lift eW fq _).later E1)
   obtain⟨H2,e2,I2,S2⟩:=q2
   rw[jE e2] at aJ di
   have E2:=E1.trans (Ext.of_same S2)
   cases k with
   | false =>
     rw[if_neg sv] at di ⊢
     exact pP ⟨dG,di.symm,kU,H2,F1,I2,eW.same S2,fq.same S2,E2,k1⟩
   | true =>
     rw[if_pos rfl] at di aJ ⊢
     have gz:gb dG ≠ .no:=λz=>by rw[z] at aJ;exact aJ rfl
     refine sF bG (av (hb.run pins s2 kU H2 F1 dG I2 (eW.same S2) (fq.same S2) gz) (λf s3 q3=>?_) λx3 s3 q3=>?_)
     ·cases f with
      | next =>
        obtain⟨gD,e7,cP,H7,F7,I7,gE,gF,E7,k7⟩:=q3
        rw[e7] at di
        exact⟨m,wV _,cP,H7,F7,gD,I7,gE,gF,E2.trans E7,di,k7.trans k1⟩
      | cont =>
        obtain⟨gD,e7,cP,H7,F7,I7,gE,gF,E7,k7⟩:=q3
        rw[e7] at di
        exact⟨m,wV _,cP,H7,F7,gD,I7,gE,gF,E2.trans E7,di,k7.trans k1⟩
      | brk =>
        obtain⟨gD,e7,cP,H7,F7,I7,gE,gF,E7,k7⟩:=q3
        rw[e7] at di
        exact⟨gD,di.symm,cP,H7,F7,I7,gE,gF,E2.trans E7,k7.trans k1⟩
      | ret v =>
        exact mP.map q3 E2 (λ_ _ I7=>I7) (λd7 e7=>by rw[e7] at di;exact di.symm) λd7 e7=>by rw[e7] at di;exact di.symm
     ·obtain⟨c7,gD,cP,H7,F7,e7,ze,gE,gF,E7⟩:=q3
      rw[e7] at di
      exact⟨c7,gD,cP,H7,F7,di.symm,ze,gE,gF,E2.trans E7⟩
end
structure CB (K:aA) (H:Hp) (F:List Addr) (p:Nat) (σ:St) (kJ:List (List D)) (a:Addr) (as:List Addr):Prop where
 loc:σ[p]? = some (some (.ref a))
 top:H a=some (.lst (as.map V.ref))
 len:as.length=kJ.length
 each:∀(j:Nat) (b:Addr) (ds:List D),as[j]? = some b->kJ[j]? = some ds->D.a_ ds=true/\∃xs,H b=some (.lst xs)/\ao K H ds xs
 nodup:(a::as).Nodup
 out:∀b∈a::as,b ∉ F
def P2(X:Cx)(p:Nat)(pins:List (Addr×Obj))(H:Hp)(A:List Addr)(Γ':G)(s':ah):Prop:=∃aE H' F' kJ a as,Inv X pins aE H' s'/\bI H' F'/\Rel X.K H' F' Γ' aE/\Γ'[p]? = some (.ro (.lst (kJ.map D.lst)))/\CB X.K H' F' p aE kJ a as/\Ext H A H' (F'++a::as)
structure PP (X:Cx) (p:Nat) (st:Stmt) (g:G->R Fl):Prop where
 run:∀(pins:List (Addr×Obj)) (s:ah) (σ:St) (H:Hp) (F:List Addr) (Γ Γ':G) (kJ:List (List D)) (a:Addr) (as:List Addr),Inv X pins σ H s->bI H F->Rel X.K H F Γ σ->Γ[p]? = some (.ro (.lst (kJ.map D.lst)))->CB X.K H F p σ kJ a as->g Γ = .ok (.nx Γ') ->
  au (aB X.prog X.w) X.A (exec st X.env) (λfl s'=>fl = .next/\P2 X p pins H (F++a::as) Γ' s') (λ_ _=>False) s
structure PPs (X:Cx) (p:Nat) (st:List Stmt) (g:G->R Fl):Prop where
 run:∀(pins:List (Addr×Obj)) (s:ah) (σ:St) (H:Hp) (F:List Addr) (Γ Γ':G) (kJ:List (List D)) (a:Addr) (as:List Addr),Inv X pins σ H s->bI H F->Rel X.K H F Γ σ->Γ[p]? = some (.ro (.lst (kJ.map D.lst)))->CB X.K H F p σ kJ a as->g Γ = .ok (.nx Γ') ->
  au (aB X.prog X.w) X.A (sm st X.env) (λfl s'=>fl = .next/\P2 X p pins H (F++a::as) Γ' s') (λ_ _=>False) s
section
variable {X:Cx}{p:Nat}{st:Stmt}{rest:List Stmt}{t u:G->R Fl}{c:Expr}{pos:Pos}
structure PM (X:Cx) (e:Expr) (gm:G->R (D×G)):Prop where
 run:∀(pins:List (Addr×Obj)) (s:ah) (σ:St) (H:Hp) (F:List Addr) (Γ dG:G) (d:D),Inv X pins σ H s->bI H F->Rel X.K H F Γ σ->gm Γ = .ok (d,dG) ->
  au (aB X.prog X.w) X.A (eval e X.env) (λu s'=>∃y H',Inv X pins σ H' s'/\RelV y u/\bI H' F/\Rel X.K H' F dG σ/\Ext H F H' F/\Is X.K H' d y) (λ_ _=>False) s
structure PPq (X:Cx) (p:Nat) (st:List Stmt) (g:G->R Fl):Prop where
 run:∀(pins:List (Addr×Obj)) (s:ah) (σ:St) (H:Hp) (F:List Addr) (Γ:G) (kJ:List (List D)) (a:Addr) (as:List Addr),Inv X pins σ H s->bI H F->Rel X.K H F Γ σ->Γ[p]? = some (.ro (.lst (kJ.map D.lst)))->CB X.K H F p σ kJ a as->g Γ ≠ .no ->
  au (aB X.prog X.w) X.A (sm st X.env) (uc X pins H (F++a::as) (g Γ)) (ou X pins H (F++a::as) (g Γ)) s
end
section
variable {X:Cx}{e:Expr}{g:G->R D}{pos pos' p pt:Pos}
theorem w2g(i:Nat){m0:Nat}{x:Str}{g:G->R (List D)}(he:PF X e g)(hN:X.N.Nodup)(zv:i≠m0:=by decide)(hi:X.N[i]? = some x:=by rfl)(hx:Loc X.env.scope x:=by first | exact fR rfl | exact dX rfl)(hs:pQ e (some (.Name x pos')) pos.line X.env=pure false:=by rfl)(hf:X.fn x=true∨X.env.scope.names.lookup x=some .local:=by first | exact .inl rfl | exact .inr rfl | assumption) :
 PK X m0 (.Assign [.Name x pos'] e pos) (fG i g):=by
 refine⟨λpins s σ H F Γ I fo rl hg=>?_⟩
 refine Ld (av (he.run pins s σ H F Γ I fo rl (jD hg)) (λv s1 ⟨ds,a,xs,H1,e1,I1,eu,S1,hn,ha,i1⟩=>?_) λ_ _ x=>x.lift fo rl _) hs
 subst eu
 exact uM (v:=.ref a) I1 hN hi hx rfl (λs2 I2=>⟨_,jE e1,_,H1,a::F,I2,(fo.same S1).cons ha,rl.set_own fo S1 hn ha i1,⟨λb o _ h=>S1 _ _ h,λb hb=>(List.mem_cons.mp hb).elim (λz=>.inr (z ▸ hn)) .inl⟩,eD zv⟩) hf
end
section
variable {X:Cx}{e:Expr}{pos p:Pos}{x:Str}{es:List Expr}{gs:G->R (List D)}
end
section
variable {X:Cx}{pins:List (Addr×Obj)}{σ:St}{H:Hp}{s:ah}{a b:Addr}{ob:Obj}{ks:List (List Int)}{k:List Int}
end
def P4(m i pt:Nat):xk:={ j:=i,more:=a9z m i-i,i:=i,perturb:=pt,dummy:=none }
def a0u(m:Nat)(p:xk):xk :=
 if p.more>0 then { p with j:=p.j+1,more:=p.more-1 } else
 { p with j:=(Dx m p.i p.perturb).1,more:=a9z m (Dx m p.i p.perturb).1-(Dx m p.i p.perturb).1,i:=(Dx m p.i p.perturb).1,perturb:=(Dx m p.i p.perturb).2 }
def Hu(m:Nat)(p:xk):Nat->xk
 | 0=>p
 | n+1=>Hu m (a0u m p) n
structure b1m (m:Nat) (p:xk):Prop where
 i:p.i<=m
 pt:p.perturb<2^64
 more:p.more<=9
 pk:p.dummy=none
 jm:p.j+p.more<=m
def P5(m:Nat)(occ:Nat->Prop)(h:Int)(j:Nat):Prop :=
 ∃n,(Hu m (P4 m (Lq h%(m+1)) (Lq h)) n).j=j/\∀k,k<n->occ (Hu m (P4 m (Lq h%(m+1)) (Lq h)) k).j
structure b1n (t:l9) (L:List (Nat×Int×Value)):Prop where
 mask:t.mask=7∨t.mask=31
 pk:t.dummies=#[]
 plc:t.place.toList=L.map (·.1)
 up:(L.map (·.1)).Pairwise (·<·)
 le:∀q∈L,q.1<=t.mask
 room:L.length<=t.mask
 reach:∀q∈L,P5 t.mask (λj=>j∈L.map (·.1)) q.2.1 q.1
structure b1o (m:Nat) (ow:Array (Option Nat)) (done:List Int) (Lo:List Nat):Prop where
 sz:ow.size=m+1
 len:Lo.length=done.length
 le:∀j∈Lo,j<=m
 own:∀(j k:Nat),ow[j]? = some (some k)↔Lo[k]? = some j
 rch:∀(k j:Nat) (h:Int),Lo[k]? = some j->done[k]? = some h->P5 m (λj=>j∈Lo) h j
section
variable {prog:aQ}{w:aN}{A:Around}{E:Value->ah->Prop}{s:ah}
end
section
variable {prog:aQ}{w:aN}{A:Around}{E:Value->ah->Prop}{s:ah}
end
section
variable {prog:aQ}{w:aN}{A:Around}{E:Value->ah->Prop}{s:ah}
end
section
variable {X:Cx}{e a b c:Expr}{g ga gb gc:G->R D}{pos pos' p p2:Pos}
end
section
variable {X:Cx}{e a b c:Expr}{g ga gb gc:G->R D}{pos pos' p p2:Pos}
theorem uj:kF X (.type "str") lh:=by
 refine⟨_,UT (X:=X.bT),λH xs ds i hg=>?_⟩
 unfold lh at hg
 split at hg
 ·rename_i n
  obtain⟨v,rfl,h⟩:=lE i
  obtain⟨hz,e⟩:=R.cT hg
  cases Is.bU.mp h
  exact⟨n,rfl,hz,.str (toString n),e,.refl _,Is.gx.mpr rfl⟩
 ·exact absurd rfl hg
theorem P6:kF X (.builtin "len") x2v:=by
 refine⟨_,UW (X:=X.bT),λH xs ds i hg=>?_⟩
 unfold x2v at hg
 split at hg
 ·rename_i x
  obtain⟨v,rfl,h⟩:=lE i
  obtain⟨hz,e⟩:=R.cT hg
  cases Is.gx.mp h
  exact⟨.str x,x.length,rfl,⟨by rw[ju];lia,rfl⟩,.int x.length,e,.refl _,Is.bU.mpr rfl⟩
 ·exact absurd rfl hg
theorem zw:fI X (gW .Add) y3y:=by
 refine⟨_,UQ (X:=X.bT),λH x y dx dy ix iy hg=>?_⟩
 unfold y3y at hg
 split at hg
 ·rename_i i j
  obtain⟨hz,e⟩:=R.cT hg
  exact⟨i,j,Is.gx.mp ix,Is.gx.mp iy,by rw[ju];lia,.str (i++j),e,.refl _,Is.gx.mpr rfl⟩
 ·exact absurd rfl hg
theorem w5r:fI X (iP .In) dInS:=by
 refine⟨_,UP (X:=X.bT),λH x y dx dy ix iy hg=>?_⟩
 unfold dInS at hg
 split at hg
 ·rename_i i j
  exact⟨i,j,Is.gx.mp ix,Is.gx.mp iy,.bl (u9 i j),rfl,.refl _,Is.gv.mpr rfl⟩
 ·exact absurd rfl hg
theorem P7(ha:PD X a ga)(hb:PD X b gb)(hs:DP b:=by intro _ _;rfl):PD X (.Subscript a b pos) (aj dIxS ga gb):=by
 refine⟨λpins s σ H F Γ I fo rl hg=>?_⟩
 refine K1 (av (ha.run pins s σ H F Γ I fo rl (R.left hg)) (λv s1 ⟨dx,x,H1,e1,I1,r1,S1,i1⟩=>?_) λ_ _ x=>x.bind _)
 have aJ:=R.next hg e1
 refine av (hb.run pins s1 σ H1 F Γ I1 (fo.same S1) (rl.same S1) (R.left aJ)) (λu s2 ⟨dy,y,H2,e2,I2,r2,S2,i2⟩=>?_) λ_ _ x=>bY.later e1 S1 (x.bind _)
 have dt:=R.next aJ e2
 have qr:=i1.same S2
 cases dx with
 | str z =>
   cases dy with
   | int i =>
     obtain⟨hz,e5⟩:=R.cT (show R.guard (z.length<=100000) (match cS z.cps.toList i with | some c=>R.ok (D.str ⟨#[c]⟩) | none=>R.no) ≠ .no from dt)
     cases q:cS z.cps.toList i with
     | none=>exact absurd (show dIxS (.str z) (.int i) = .no from e5.trans (by rw[q])) dt
     | some c =>
       cases Is.gx.mp qr
       exact av (Vd (X:=X.bT) a b pins s2 σ H2 _ y v u (λz' H'=>z' = .str ⟨#[c]⟩/\H'=H2) (I2.dm _) r1 r2 ⟨z,i,c,rfl,Is.bU.mp i2,by rw[ju];lia,q,rfl,rfl⟩ (hs _ _)) (λw' s' ⟨z',H',I',rz,ez,eH⟩=>by
        subst ez eH
        exact dg.bind e1 S1 (dg.bind e2 S2 ⟨.str ⟨#[c]⟩,.str ⟨#[c]⟩,H',e5.trans (by rw[q]),I'.eQ,rz,.refl _,Is.gx.mpr rfl⟩)) λ_ _ z=>b6 z
   | _=>exact absurd rfl dt
 | _=>exact absurd rfl dt
theorem CC{K:aA}{H:Hp}:∀{xs:List Str} {vs:List V} {its:List Value},ao K H (xs.map D.str) vs->Vals vs its->∃l:List (Str×Tok),its=jQ l/\l.map (·.1)=xs
 | [],vs,its,h,r=>by
   cases ao.jb.mp h
   cases r
   exact⟨[],rfl,rfl⟩
 | x::xs,vs,its,h,r=>by
   obtain⟨v,G3,rfl,h1,h2⟩:=ao.i4.mp h
   cases Is.gx.mp h1
   cases r with
   | cons r1 r2 =>
     obtain⟨t,rfl⟩:=r1
     obtain⟨l,rfl,rfl⟩:=CC h2 r2
     exact⟨(x,t)::l,rfl,rfl⟩
theorem P8:∀(l:List (Str×Tok)),Vals ((l.map (·.1)).map V.str) (jQ l)
 | []=>.nil
 | (x,t)::l=>.cons ⟨t,rfl⟩ (P8 l)
theorem P9{K:aA}{H:Hp}:∀(xs:List Str),ao K H (xs.map D.str) (xs.map V.str)
 | []=>ao.nil
 | x::xs=>ao.cons (Is.gx.mpr rfl) (P9 xs)
theorem wb{sep:Str}{j}{cp apos cD:Pos}(he:PD X e g)
 (ke:uH (.Constant (.str sep) j cp) "join" X.env (eval (.Constant (.str sep) j cp) X.env)=eval (.Constant (.str sep) j cp) X.env:=by rfl)
 (lJ:((cC cD (aV [e] X.env)).all (λx=>!x.1)&&(uv cD (uw [] X.env)).all (λx=>x.1.isSome)
   && decide ([e].length+([]:List km).length+(if ([]:List km).isEmpty then 0 else 1)<30))=true:=by rfl)
 (kf:(apos.endLine==cD.line)=true:=by rfl) (hs:aV [e] X.env=(false,eval e X.env)::aV [] X.env:=by rfl) :
 PD X (.Call (.Attribute (.Constant (.str sep) j cp) "join" apos) [e] [] cD) (nP sep g):=by
 refine⟨λpins s σ H F Γ I fo rl hg=>?_⟩
 refine w_ ke lJ kf rfl (Sb ?_)
 refine⟨"str",_,b0a,PySem.F.slot_str_join,PySem.F.type_str_join,typeIs_str _ _ _,(λ_ e=>nomatch e),?_⟩
 rw[hs]
 refine uI rfl (xc ?_)
 show au _ _ (eE ((false,eval e X.env)::cC cD [])) _ _ _
 refine fw (av (he.run pins _ σ H F Γ (I.tok _) fo rl (R.left hg)) (λu s2 ⟨d,y,H2,e2,I2,r2,S2,i2⟩=>h_ ?_) λ_ _ x=>x.bind _)
 have dt:=R.next hg e2
 cases d with
 | lst ds =>
   cases q:strs? ds with
   | none=>exact absurd (show(match strs? ds with | some xs=>R.guard (sC sep xs=true) (R.ok (D.str (oJ sep xs))) | none=>R.no) = .no by rw[q]) dt
   | some xs =>
     have lO:R.guard (sC sep xs=true) (R.ok (D.str (oJ sep xs))) ≠ .no:=by
      have h:=dt
      dsimp only at h
      rw[q] at h;exact h
     obtain⟨aK,e3⟩:=R.cT lO
     obtain rfl:=Bb q
     obtain⟨l,vs,rfl,h1,h2⟩:=Is.fm.mp i2
     cases (show u=ft l from r2)
     obtain⟨its,rv,pl,hz⟩:=I2.list h1
     obtain⟨lt,rfl,cw⟩:=CC h2 rv
     refine SC.join pl.isList cw aK λt' k=>?_
     refine dg.bind e2 S2 ⟨.str (oJ sep xs),.str (oJ sep xs),H2,?_,I2.tok _,⟨t',rfl⟩,.refl _,Is.gx.mpr rfl⟩
     show(match strs? (xs.map D.str) with | some xs=>R.guard (sC sep xs=true) (R.ok (D.str (oJ sep xs))) | none=>R.no)=_
     rw[q];exact e3
 | _=>exact absurd rfl dt
theorem x1m{prog:aQ}{w:aN}{A:Around}{E:Value->ah->Prop}{s:ah}{x y:Str}{t u:Tok}{Q:Value->ah->Prop}(hy:(y.length==0)=false)
 (hq:∀(l:List (Str×Tok)) (k:Nat),l.map (·.1)=pH x y->Q (.ref s.heap.objs.size) { s with toks:=k,heap:=s.heap.push { cls:=.type "list",data:=.seq (jQ l).toArray } })
 (jA:x.length<=bR) (a0v:(b0b x (zU x y 0 x.length (x.length+1)) y.length).length<=bR) :
 au (aB prog w) A (call (.builtin "str.split") [.str x t,.str y u]) Q E s:=by
 cases h1:(decide (x.length<y.length)||decide (b0c x<b0c y))
 ·cases hf:(zU x y 0 x.length (x.length+1)).isEmpty
  ·refine qU Lr (typeIs_str _ _ _) TQ (TR _ _) (meets_str_split_sep x y t u h1 hy hf jA a0v) ?_
   show wants Q E _ { s with toks:=_,heap:=s.heap.push { cls:=.type "list",data:=.seq (strsFrom s.toks (b0b x (zU x y 0 x.length (x.length+1)) y.length)).toArray } }
   rw[strsFrom_eq]
   exact hq (numbered s.toks _) _ ((numbered_texts _ _).trans ((if_neg (ne_true_of_eq_false h1)).trans (if_neg (ne_true_of_eq_false hf))).symm)
  ·exact qU Lr (typeIs_str _ _ _) TQ (TR _ _) (meets_str_split_not_found x y t u h1 hy hf)
    (hq [(x,t)] _ ((if_neg (ne_true_of_eq_false h1)).trans (if_pos hf)).symm)
 ·exact qU Lr (typeIs_str _ _ _) TQ (TR _ _) (meets_str_split_cannot_occur x y t u h1)
   (hq [(x,t)] _ (if_pos h1).symm)
theorem P_{sep:Str}{j}{cp apos cD:Pos}(he:PD X e g)
 (ke:uH e "split" X.env (eval e X.env)=eval e X.env:=by rfl)
 (lJ:((cC cD (aV [.Constant (.str sep) j cp] X.env)).all (λx=>!x.1)&&(uv cD (uw [] X.env)).all (λx=>x.1.isSome)
   && decide ([Expr.Constant (.str sep) j cp].length+([]:List km).length+(if ([]:List km).isEmpty then 0 else 1)<30))=true:=by rfl)
 (kf:(apos.endLine==cD.line)=true:=by rfl) (hs:aV [.Constant (.str sep) j cp] X.env=(false,eval (.Constant (.str sep) j cp) X.env)::aV [] X.env:=by rfl) :
 PF X (.Call (.Attribute e "split" apos) [.Constant (.str sep) j cp] [] cD) (xS sep g):=by
 refine⟨λpins s σ H F Γ I fo rl hg=>?_⟩
 refine w_ ke lJ kf rfl (av (he.run pins s σ H F Γ I fo rl (R.left hg)) (λv s1 ⟨dl,vl,H1,e1,I1,r1,S1,i1⟩=>?_) λ_ _ x=>x.bind _)
 have aJ:=R.next hg e1
 cases dl with
 | str x =>
   obtain⟨⟨hx,hy⟩,e3⟩:=R.cT (show R.guard (x.length<=100000/\(sep.length==0)=false) (R.ok ((pH x sep).map D.str)) ≠ .no from aJ)
   cases Is.gx.mp i1
   obtain⟨t,rfl⟩:=r1
   refine⟨"str",_,b0a,Lr,PySem.F.type_str_split,typeIs_str _ _ _,(λ_ e=>nomatch e),?_⟩
   rw[hs]
   refine uI rfl (xc ?_)
   show au _ _ (eE ((false,eval (.Constant (.str sep) j cp) X.env)::cC cD [])) _ _ s1
   refine fw (Sb (h_ ?_))
   have hy1:1<=sep.length:=by
    have:sep.length≠0:=by simpa using hy
    lia
   have hw:=split_weight x sep hy1
   have iY:=ju
   refine x1m (s:={ s1 with toks:=s1.toks+1 }) hy (λlt k cw=>?_) (by lia) (by rw[length_partsBetween];have:=StrLaws.occ_length_le x sep 0 x.length (x.length+1);lia)
   have Qa:lt.length=(pH x sep).length:=by rw[<-cw,a6]
   have jA:s1.heap.objs.size<=s1.heap.objs.size:=a7 _
   have iM:H1 s1.heap.objs.size=none:=I1.aK.fresh jA
   have kp:∀b u,s1.heap.get? b=some u->(s1.heap.push { cls:=.type "list",data:=.seq (jQ lt).toArray }).get? b=some u:=λb u h=>cX _ h
   have I2:Inv X pins σ (upd H1 s1.heap.objs.size (.lst ((lt.map (·.1)).map V.str))) { s1 with toks:=k,heap:=s1.heap.push { cls:=.type "list",data:=.seq (jQ lt).toArray } } :=
    I1.laid (t':=k) kp jA (show iT X.prog X.w _ _ _ (.lst ((lt.map (·.1)).map V.str)) from⟨by rw[a6,a6,Qa];lia,jQ lt,_,P8 lt,fu _ rfl⟩)
   have S2:=gP iM (.lst ((lt.map (·.1)).map V.str))
   refine⟨(pH x sep).map D.str,s1.heap.objs.size,(lt.map (·.1)).map V.str,_,(R.step e1 _).trans e3,I2,rfl,S1.trans S2,S1.free iM,dc,?_⟩
   rw[<-cw]
   exact P9 _
 | _=>exact absurd rfl aJ
end
def Qb(x:Str):It:=⟨λi _=>i<x.cps.size,λi H v H'=>H'=H/\∃c,x.cps[i]? = some c/\v = .str ⟨#[c]⟩,λi _=>x.cps.size<=i⟩
theorem x3j{P:aQ}{w:aN}{K:aA}{tg:Expr}{n:String}(hn:n="str_ascii_iterator"∨n="str_iterator")(it:Addr)(x:Str)(t:Tok):Turn P w K tg (Qb x) [it] it (λi h=>h.IsStrIter it n x t i):=by
 have W:∀(A:Around),A.handled=none->Walks P w A it [it] [it] x.cps.size (SignAt x) (λi h=>h.IsStrIter it n x t i):=λA hA=>by
  rcases hn with rfl | rfl
  ·exact Walks.strAscii hA it x t
  ·exact Walks.strWide hA it x t
 exact {
  mem:=by simp
  obj:=λi h st b hb=>by
   have e:b=it:=by simpa using hb
   subst e
   obtain⟨o,e,c,d⟩:=st
   exact⟨o,e,λv z=>by rw[d] at z;cases z⟩
  keep:=λi h h' st k=>let ⟨o,ho,r⟩:=st;⟨o,k it (by simp) o ho,r⟩
  item:=by
   intro X hP hw hK hc i pins s σ H E I hf st hg
   subst hP hw hK
   obtain⟨f0,f1,f2,f3,f4,f5⟩:=hf it (by simp)
   refine(W X.A (I.ok.hd hc)).item i s _ _ hg st λv h' tk hv ib kk=>?_
   obtain⟨c,u,uL,rfl⟩:=hv
   have I1:Inv X pins σ H { s with heap:=h',toks:=tk }:=I.turned (λb o hb e=>kk b o (by simpa using hb) e) f0 f1 f3 f4 f5
   obtain⟨o,e,c',d⟩:=id ib
   exact⟨_,rfl,uO (s:={ s with heap:=h',toks:=tk }) e c' d (by rcases hn with rfl | rfl<;>decide) ⟨.str ⟨#[c]⟩,H,I1,⟨u,rfl⟩,⟨rfl,c,uL,rfl⟩,ib,λb hb=>(hf b hb).1⟩⟩
  done:=by
   intro X hP hw hK hc i pins s σ H E I hf st hg
   subst hP hw hK
   obtain⟨f0,f1,f2,f3,f4,f5⟩:=hf it (by simp)
   have hx:x.cps[i]? = none:=a9t hg
   rcases hn with rfl | rfl
   ·exact wpAny_pyNext_ascii_end (I.ok.hd hc) st hx λh' eb=>⟨rfl,I.turned (t':=s.toks) (λb o hb e=>eb b o hb e) f0 f1 f3 f4 f5⟩
   ·exact wpAny_pyNext_wide_end (I.ok.hd hc) st hx λh' eb=>⟨rfl,I.turned (t':=s.toks) (λb o hb e=>eb b o hb e) f0 f1 f3 f4 f5⟩
  self:=λA i s Q E st h=>by
   rcases hn with rfl | rfl
   ·exact wpAny_pyIter_striter_ascii st h
   ·exact wpAny_pyIter_striter_wide st h }
theorem w3r{K:aA}{H:Hp}{F:List Addr}(x:Str):JC K H F (Qb x) (nQ x):=λH1 S=>by
 have hl:(nQ x).length=x.cps.size:=by unfold nQ;simp
 rw[hl]
 refine⟨λj hj=>⟨hj,λv H2 y=>⟨y.1,?_⟩⟩,a7 _⟩
 obtain⟨_,c,hc,rfl⟩:=y
 refine⟨.str ⟨#[c]⟩,?_,Is.gx.mpr rfl⟩
 unfold nQ
 rw[eZ,SG,hc];rfl
section
variable {X:Cx}{tg a:Expr}{ga:G->R D}
theorem x8p(ha:PD X a ga):tS X tg a (y2y ga):=by
 refine⟨λpins s σ H F Γ I fo rl hg=>?_⟩
 refine av (ha.run pins s σ H F Γ I fo rl (R.left hg)) (λv s1 ⟨d,x,H1,e1,I1,r1,S1,i1⟩=>?_) λ_ _ x=>x.bind _
 have aJ:=R.next hg e1
 cases d with
 | str z =>
   obtain⟨hz,e2⟩:=R.cT (show R.guard (z.length<=100000) (.ok (nQ z)) ≠ .no from aJ)
   cases Is.gx.mp i1
   obtain⟨t,rfl⟩:=r1
   have fin:∀(n:String) (o:Obj),(n="str_ascii_iterator"∨n="str_iterator")->(s1.heap.push o).IsStrIter s1.heap.objs.size n z t 0->∃(ds:List D) (it:Addr) (fp:List Addr) (tn:Nat->Heap->Prop) (J:It) (H':Hp),y2y ga Γ = .ok ds/\ft s1.heap.objs.size = .ref it/\Inv X pins σ H' { s1 with heap:=s1.heap.push o }/\aO H H' /\
    Turn X.prog X.w X.K tg J fp it tn/\tn 0 (s1.heap.push o)/\(∀b∈fp,fx X pins H' b)/\JC X.K H' F J ds:=λn o hn st =>
    ⟨nQ z,s1.heap.objs.size,_,_,_,H1,(R.step e1 _).trans e2,rfl,I1.kept (t':=s1.toks) λb o e=>cX _ e,S1,x3j hn _ z t,st,λb hb=>by
      have e:b=s1.heap.objs.size:=by simpa using hb
      subst e
      exact I1.sN (a7 _) (I1.aK.fresh (a7 _)),w3r z⟩
   cases hq:z.cps.all (·<128)
   ·exact wpAny_pyIter_wide hq (fin _ _ (.inr rfl) ⟨_,fu _ rfl,rfl,rfl⟩)
   ·exact wpAny_pyIter_ascii hq (fin _ _ (.inl rfl) ⟨_,fu _ rfl,rfl,rfl⟩)
 | _=>exact absurd rfl aJ
end
def uk(l:Addr)(H H':Hp):Prop:=∀b o,b≠l->H b=some o->H' b=some o
def Qc(K:aA)(i:Nat)(φ:List D->R (D×List D)):Sp:=λvs H Q E=>∃as bs xs ys ws l zs,vs=xs ++ .ref l::ys/\as.length=i/\ao K (aF [l] H) as xs/\ao K (aF [l] H) bs ys/\H l=some (.lst zs)/\ao K (aF [l] H) ws zs /\
 φ (as ++ .lst ws::bs) ≠ .no/\(∀c,φ (as ++ .lst ws::bs) ≠ .er c)/\∀d hJ v H' ip,φ (as ++ .lst ws::bs) = .ok (d,hJ)->uk l H H'->H' l=some (.lst ip)->ao K (aF [l] H') hJ ip->Is K (aF [l] H') d v->Q v H'
structure mS (P:aQ) (w:aN) (K:aA) (mg:Str->Option Value) (base:Heap) (k:Nat) (f:Addr) (fd:cG) (ps:List Str) (i:Nat) (φ:List D->R (D×List D)):Prop where
 ok:ja P w K mg base (mK P w) k f fd ps (Qc K i φ)
 binds:jV K fd ps []
 kp:wG K (.ref f)=true
theorem mS.mono{P:aQ}{w:aN}{K:aA}{mg:Str->Option Value}{base:Heap}{j k:Nat}{f:Addr}{fd:cG}{ps:List Str}{i:Nat}{φ:List D->R (D×List D)}(F:mS P w K mg base j f fd ps i φ)(h:j<=k):mS P w K mg base k f fd ps i φ:=⟨F.ok.mono h,F.binds,F.kp⟩
section
variable {X:Cx}{e:Expr}{es:List Expr}{g:G->R D}{gs:G->R (List D)}{pos p:Pos}{x:Str}
structure zz (X:Cx) (i w:Nat) (es:List Expr) (g:G->R (List D)):Prop where
 run:∀(pos:Pos) (pins:List (Addr×Obj)) (s:ah) (σ:St) (H:Hp) (F:List Addr) (Γ:G),Inv X pins σ H s->bI H F->Rel X.K H F Γ σ->g Γ ≠ .no ->
  au (aB X.prog X.w) X.A (eE (cC pos (aV es X.env))) (λus s'=>∃as bs xs ys ws l H',g Γ = .ok (as ++ .lst ws::bs)/\Inv X pins σ H' s'/\Vals (xs ++ .ref l::ys) us/\aO H H'/\as.length=i/\Γ[w]? = some (.own ws)/\σ[w]? = some (some (.ref l)) /\
   ao X.K (aF F H') as xs/\ao X.K (aF F H') bs ys) (bY X pins σ H (g Γ)) s
theorem pv{i w:Nat}(ha:jj X e g)(hr:zz X i w es gs)(hs:aV (e::es) X.env=(false,eval e X.env)::aV es X.env:=by rfl):zz X (i+1) w (e::es) (ae g gs):=by
 refine⟨λpos pins s σ H F Γ I fo rl hg=>?_⟩
 rw[hs]
 show au _ _ (eE ((false,eval e X.env)::cC pos (aV es X.env))) _ _ s
 refine fw (av (ha.run pins s σ H F Γ I fo rl (R.left hg)) (λu s1 ⟨d,x,H1,e1,I1,r1,S1,i1⟩=>?_) λ_ _ x=>x.bind _)
 have aJ:=R.next hg e1
 refine av (hr.run pos pins s1 σ H1 F Γ I1 (fo.same S1) (rl.same S1) (R.left aJ)) (λus s2 ⟨as,bs,xs,ys,ws,l,H2,e2,I2,r2,S2,hl,hw,i9,j1,j2⟩=>?_) λ_ _ x=>bY.later e1 S1 (x.bind _)
 refine⟨d::as,bs,x::xs,ys,ws,l,H2,?_,I2,.cons r1 r2,S1.trans S2,by rw[cx,hl],hw,i9,ao.cons (i1.same (g7 S2)) j1,j2⟩
 exact(R.step e1 _).trans ((R.step e2 _))
theorem mT(w:Nat)(hN:X.N[w]? = some x)(hr:v_ X es gs)(hv:kR X.env.scope x:=by first | exact fR rfl | exact dX (fR rfl) | exact dX (dX rfl))(hd:(x==("__debug__":Str))=false:=by decide)(dE:(x==("__classdict__":Str))=false:=by decide)
 (hs:aV (.Name x p::es) X.env=(false,eval (.Name x p) X.env)::aV es X.env:=by rfl):zz X 0 w (.Name x p::es) (z8f w gs):=by
 show zz X 0 w (.Name x p::es) (λΓ=>match Γ[w]? with | some (.own ws)=>gs Γ>>=λbs=>.ok (.lst ws::bs) | _=>.no)
 refine⟨λpos pins s σ H F Γ I fo rl hg=>?_⟩
 cases hw:Γ[w]? with
 | none=>rw[hw] at hg;exact absurd rfl hg
 | some en =>
   cases en with
   | no=>rw[hw] at hg;exact absurd rfl hg
   | ro d=>rw[hw] at hg;exact absurd rfl hg
   | own ws =>
     rw[hw] at hg
     dsimp only at hg ⊢
     obtain⟨l,zs,i9,hF,hH,qI⟩:=rl.own w ws hw
     rw[hs]
     show au _ _ (eE ((false,eval (.Name x p) X.env)::cC pos (aV es X.env))) _ _ s
     refine fw (av (pV (X:=X.bT) hN hv hd dE pins s σ H (λv' H'=>v' = .ref l/\H'=H) (I.dm _) ⟨.ref l,i9,rfl,rfl⟩) (λu s1 ⟨v',H',I',r,e1,e2⟩=>?_) λ_ _ z=>b6 z)
     subst e1 e2
     refine av (hr.run pos pins s1 σ H' F Γ I'.eQ fo rl (R.left hg)) (λus s2 ⟨bs,ys,H2,e2,I2,r2,S2,j2⟩=>?_) λ_ _ x=>x.bind _
     exact⟨[],bs,[],ys,ws,l,H2,R.step e2 _,I2,.cons r r2,S2,rfl,by first | exact hw | rfl,i9,ao.nil,j2⟩
def Qd(X:Cx)(w:Nat)(pins:List (Addr×Obj))(σ:St)(H:Hp)(F:List Addr)(Γ:G)(r:R (D×List D))(u:Value)(s':ah):Prop :=
 ∃d ws v H',r = .ok (d,ws)/\Inv X pins σ H' s'/\RelV v u/\bI H' F/\Rel X.K H' F (Γ.set w (.own ws)) σ/\Ext H F H' F/\Is X.K (aF F H') d v/\w<Γ.length
structure oA (X:Cx) (w:Nat) (e:Expr) (g:G->R (D×List D)):Prop where
 run:∀(pins:List (Addr×Obj)) (s:ah) (σ:St) (H:Hp) (F:List Addr) (Γ:G),Inv X pins σ H s->bI H F->Rel X.K H F Γ σ->g Γ ≠ .no ->
  au (aB X.prog X.w) X.A (eval e X.env) (Qd X w pins σ H F Γ (g Γ)) (λ_ _=>False) s
theorem runM{k:Nat}{f:Addr}{fd:cG}{ps:List Str}{i:Nat}{φ:List D->R (D×List D)}(Fn:mS X.prog X.w X.K X.mg X.base k f fd ps i φ)(hr:eh k X.A){pins:List (Addr×Obj)}{σ:St}{H:Hp}{F:List Addr}{s:ah}{us:List Value}{as bs ws hJ:List D}{xs ys:List V}{l:Addr}{zs:List V}{d:D}{EE:Value->ah->Prop}
 (I:Inv X pins σ H s) (fo:bI H F) (r:Vals (xs ++ .ref l::ys) us) (hi:as.length=i) (j1:ao X.K (aF F H) as xs) (j2:ao X.K (aF F H) bs ys) (hF:l∈F) (hH:H l=some (.lst zs)) (j3:ao X.K (aF F H) ws zs) (hg:φ (as ++ .lst ws::bs) = .ok (d,hJ)) :
 au (aB X.prog X.w) X.A (call (.ref f) us) (λu s'=>∃v H' ip,Inv X pins σ H' s'/\RelV v u/\uk l H H'/\H' l=some (.lst ip)/\ao X.K (aF F H') hJ ip/\Is X.K (aF F H') d v) EE s:=by
 let F0:=F.filter (·≠l)
 have m0:∀{b},b∈F0↔b∈F/\b≠l:=λ{b}=>by simp[F0]
 have lF0:l ∉ F0:=λz=>(m0.mp z).2 rfl
 have CD:bI H F0:=λb hb=>fo b (m0.mp hb).1
 have sub:aO (aF F H) (aF [l] (aF F0 H)):=λb o h=>by
  obtain⟨h1,h2⟩:=iF h
  have fJ:b≠l:=λz=>h1 (by rw[z];exact hF)
  rw[da (by simpa using fJ),da λz=>h1 (m0.mp z).1];exact h2
 have dZ:Qc X.K i φ (xs ++ .ref l::ys) (aF F0 H) (λv H'=>∃ip,uk l (aF F0 H) H'/\H' l=some (.lst ip)/\ao X.K (aF [l] H') hJ ip/\Is X.K (aF [l] H') d v) (λ_ _ _=>False) :=
  ⟨as,bs,xs,ys,ws,l,zs,rfl,hi,j1.same sub,j2.same sub,by rw[da lF0];exact hH,j3.same sub,(by rw[hg];exact λz=>nomatch z),(λc z=>by rw[hg] at z;cases z),λd' w' v H' ip e B hl jw jd=>by rw[hg] at e;cases e;exact⟨ip,B,hl,jw,jd⟩⟩
 have hl:us.length=ps.length:=by rw[<-r.length];exact Fn.ok.len _ _ _ _ dZ
 have hb:=Fn.binds s us I.fS (by rw[kM];exact hl)
 rw[kM] at hb
 have nh:∀{b:Addr},H b=none->aF F0 H b=none:=λ{b} q=>by
  by_cases hb:b∈F0
  ·exact rZ hb
  ·rw[da hb];exact q
 have e0:=I.xt
 have en:uQ X.prog X.w X.K X.mg X.base X.A X.stack s (aF F0 H):=⟨e0.frames,e0.mod,λb o q=>⟨(e0.bs b o q).1,nh (e0.bs b o q).2⟩,e0.jT,e0.jy,λb hb=>nh (e0.kT b hb),Pu CD e0.aK,e0.bare⟩
 refine Ac (qW (Fn.ok.run X.A X.stack s (aF F0 H) ⟨us,[]⟩ us _ _ _ hr en hb r dZ) λr' s' hq=>?_)
 cases r' with
 | error u=>obtain⟨_,_,_,_,_,_,_,_,_,_,_,_,_,_,_,_,_,_,_,_,_,_,_,_,_,_,hE⟩:=hq;exact hE.elim
 | ok fl =>
   cases fl with
   | ret u =>
     obtain⟨v,H1,os,bare,un,aK,rv,ip,B,wc,jw,jd⟩:=hq
     have own:∀b,b∈F0->∃ys its n,H b=some (.lst ys)/\ys.length<=bR/\Vals ys its/\s'.heap.get? b=some { cls:=.type "list",data:=.seq its.toArray n }/\H1 b=none:=λb hb=>by
      obtain⟨ys,ey⟩:=CD b hb
      obtain⟨z,its,n,uh,gt⟩:=I.aK b _ ey
      exact⟨ys,its,n,ey,z,uh,un.keep b _ gt (rZ hb) (λz=>by rw[e0.kT b z] at ey;cases ey) (by simp),un.free b _ gt (rZ hb) (by simp)⟩
     let H2:Hp:=λb=>if b∈F0 then H b else H1 b
     have zt:∀{b},b∈F0->H2 b=H b:=λ{b} h=>if_pos h
     have kg:∀{b},b ∉ F0->H2 b=H1 b:=λ{b} h=>if_neg h
     have up:∀{b o},H1 b=some o->b ∉ F0/\H2 b=some o:=λ{b o} q=>by
      have hb:b ∉ F0:=λz=>by obtain⟨_,_,_,_,_,_,_,z2⟩:=own b z;rw[q] at z2;cases z2
      exact⟨hb,(kg hb).trans q⟩
     have ui:∀{b o},H b=some o->(∀ys,o ≠ .lst ys)->b ∉ F0:=λ{b o} q n z=>by obtain⟨ys,e⟩:=CD b z;rw[q] at e;cases e;exact n ys rfl
     have Hm:Un (dj X.stack) [] H H2 s.heap s'.heap:=by
      refine⟨λb o q n=>un.keep b o q (nh n),λb o q n=>un.slot b o q (nh n),λb o q n hx=>?_,un.there,λb ys q=>?_,λb o u q=>?_,λb ps q=>?_⟩
      ·have hb:b ∉ F0:=λz=>by obtain⟨ys,e⟩:=CD b z;rw[n] at e;cases e
       rw[kg hb];exact un.free b o q (nh n) hx
      ·have hb:=ui q λys z=>nomatch z
       rw[kg hb];exact un.kn b ys (by rw[da hb];exact q)
      ·have hb:=ui q λys z=>nomatch z
       rw[kg hb];exact un.jS b o u (by rw[da hb];exact q)
      ·have hb:=ui q λys z=>nomatch z
       rw[kg hb];exact un.ko b ps (by rw[da hb];exact q)
     have Hn:dY X.prog X.w H2 s'.heap:=λb u q=>by
      by_cases hb:b∈F0
      ·obtain⟨ys,its,n,ey,z,uh,gt,_⟩:=own b hb
       rw[zt hb,ey] at q
       cases q
       exact⟨z,its,n,uh,gt⟩
      ·rw[kg hb] at q
       exact(aK b u q).kQ (λc v _ e=>e) (λc e=>(up e).2) λc ys e=>(up e).2
     have I2:Inv X pins σ H2 s':=I.DI os Hm Hn bare (λb z=>absurd z (by simp))
     have B2:uk l H H2:=λb o fJ q=>by
      by_cases hb:b∈F0
      ·rw[zt hb];exact q
      ·rw[kg hb];exact B b o fJ (by rw[da hb];exact q)
     have Sx:aO (aF [l] H1) (aF F H2):=λb o q=>by
      obtain⟨q1,q2⟩:=iF q
      have fJ:b≠l:=by simpa using q1
      have hb:=up q2
      rw[da λz=>hb.1 (m0.mpr ⟨z,fJ⟩)];exact hb.2
     exact⟨v,H2,ip,I2,rv,B2,(up wc).2,jw.same Sx,jd.same Sx⟩
   | next=>exact b6 hq
   | brk=>exact b6 hq
   | cont=>exact b6 hq
theorem Rel.but{K:aA}{H H':Hp}{F:List Addr}{Γ:G}{σ:St}{w:Nat}{ws hJ:List D}{l:Addr}{ip:List V}(r:Rel K H F Γ σ)(fo:bI H F)(e:Γ[w]? = some (.own ws))(ea:σ[w]? = some (some (.ref l)))(B:uk l H H')(hl:H' l=some (.lst ip))(iv:ao K (aF F H') hJ ip):Rel K H' F (Γ.set w (.own hJ)) σ/\bI H' F/\Ext H F H' F:=by
 obtain⟨a',zs,h1,hF,h3,h4⟩:=r.own w ws e
 rw[ea] at h1;cases h1
 have S:aO (aF F H) (aF F H'):=λb o h=>by
  obtain⟨q1,q2⟩:=iF h
  rw[da q1]
  exact B b o (λz=>q1 (by rw[z];exact hF)) q2
 have hi:w<Γ.length:=(List.getElem?_eq_some_iff.mp e).1
 refine⟨⟨by rw[fD,r.len],λj d' h=>?_,λj es h=>?_,λj k d_ vY b h1 h2 GO GP=>?_⟩,λb hb=>?_,⟨λb o hb q=>B b o (λz=>hb (by rw[z];exact hF)) q,λb hb=>.inl hb⟩⟩
 ·by_cases ej:w=j
  ·subst ej;rw[gU hi] at h;cases h
  ·rw[eD ej] at h
   obtain⟨v,q1,q2⟩:=r.ro j d' h
   exact⟨v,q1,q2.same S⟩
 ·by_cases ej:w=j
  ·subst ej;rw[gU hi] at h;cases h
   exact⟨l,ip,ea,hF,hl,iv⟩
  ·rw[eD ej] at h
   obtain⟨b,ys,q1,q2,q3,q4⟩:=r.own j es h
   exact⟨b,ys,q1,q2,B b _ (λz=>ej (r.inj w j ws es l e h ea (by rw[<-z];exact q1))) q3,q4.same S⟩
 ·have old:∀(m:Nat) (cJ:List D),(Γ.set w (En.own hJ))[m]? = some (En.own cJ)->∃GQ,Γ[m]? = some (En.own GQ):=λm cJ h=>by
   by_cases el:w=m
   ·subst el;exact⟨ws,e⟩
   ·rw[eD el] at h;exact⟨cJ,h⟩
  obtain⟨e1,q1⟩:=old j d_ h1
  obtain⟨e2,q2⟩:=old k vY h2
  exact r.inj j k e1 e2 b q1 q2 GO GP
 ·by_cases z:b=l
  ·rw[z];exact⟨ip,hl⟩
  ·obtain⟨xs,q⟩:=fo b hb
   exact⟨xs,B b _ z q⟩
theorem mW{k i w:Nat}{f:Addr}{fd:cG}{ps:List Str}{φ:List D->R (D×List D)}(Fn:mS X.prog X.w X.K X.mg X.base k f fd ps i φ)(hr:eh k X.A)(hm:X.mg x=some (.ref f))(ha:zz X i w (e::es) gs)(hg:Gl X x:=by rfl)(g_:(x==("__debug__":Str))=false:=by decide)
 (he:aV (e::es) X.env=(false,eval e X.env)::aV es X.env:=by rfl) (gJ:(cC pos (aV es X.env)).any (·.1)=false:=by rfl):oA X w (.Call (.Name x p) (e::es) [] pos) (gZ φ gs):=by
 refine⟨λpins s σ H F Γ I fo rl bZ=>?_⟩
 obtain⟨ds,⟨d,hJ⟩,e1,e2,e3⟩:=WD bZ
 rw[e3]
 refine l8 (oP I hg hm ?_ g_)
 refine Ad (h₀:=X.base) I.ok.mod.pS Fn.kp (av (ha.run pos pins s σ H F Γ I fo rl (by rw[e1];exact λz=>nomatch z)) (λus s1 ⟨as,bs,xs,ys,ws,l,H1,f1,I1,r1,S1,hi,hw,i9,j1,j2⟩=>⟨I1.fS,?_⟩) λ_ _ ⟨c,_,z,_⟩=>by rw[e1] at z;cases z) he gJ
 rw[e1] at f1;cases f1
 obtain⟨a',zs,h1,hF,h3,h4⟩:=(rl.same S1).own w ws hw
 rw[i9] at h1;cases h1
 refine av (runM Fn hr (EE:=λ_ _=>False) I1 (fo.same S1) r1 hi j1 j2 hF h3 h4 e2) (λu s2 ⟨v,H2,ip,I2,rv,B,hl,jw,jd⟩=>?_) λ_ _ z=>z
 obtain⟨R2,F2,E2⟩:=(rl.same S1).but (fo.same S1) hw i9 B hl jw
 exact⟨d,hJ,v,H2,rfl,I2,rv,F2,R2,(Ext.of_same S1).trans E2,jd,(List.getElem?_eq_some_iff.mp hw).1⟩
end
structure PW (X:Cx) (i:Nat) (b:List Stmt) (g:G->R (D×List D)):Prop where
 run:∀(pins:List (Addr×Obj)) (s:ah) (σ:St) (H:Hp) (F:List Addr) (Γ:G),Inv X pins σ H s->bI H F->Rel X.K H F Γ σ->g Γ ≠ .no ->
  au (aB X.prog X.w) X.A (sm b X.env) (λfl s'=>∃u,fl = .ret u/\∃d ws v aE H' F' l zs,g Γ = .ok (d,ws)/\Inv X pins aE H' s'/\RelV v u/\Ext H F H' F'/\σ[i]? = some (some (.ref l))/\H' l=some (.lst zs)/\l∈F'/\ao X.K (aF F' H') ws zs/\Is X.K (aF F' H') d v) (λ_ _=>False) s
section
variable {X:Cx}{e c:Expr}{g:G->R D}{pos pos':Pos}{st:Stmt}{rest:List Stmt}{t:G->R Fl}{u v:G->R (D×List D)}{i:Nat}
theorem Qe{Γ:G}{d:D}(h:(match Γ[i]? with | some (.own ws)=>R.ok (d,ws) | _=>R.no) ≠ .no):∃ws,Γ[i]? = some (.own ws):=by
 cases q:Γ[i]? with
 | none=>rw[q] at h;exact absurd rfl h
 | some en =>
   cases en with
   | no=>rw[q] at h;exact absurd rfl h
   | ro d'=>rw[q] at h;exact absurd rfl h
   | own ws=>exact⟨ws,rfl⟩
theorem Hv(he:jj X e g):PW X i (.Return (some e) pos::rest) (qf i g):=by
 refine⟨λpins s σ H F Γ I fo rl hg=>?_⟩
 obtain⟨d,e1⟩:=R.Bc (R.left hg)
 have e2:qf i g Γ=(match Γ[i]? with | some (.own ws)=>R.ok (d,ws) | _=>R.no):=by unfold qf;rw[e1];rfl
 rw[e2] at hg ⊢
 obtain⟨ws,hw⟩:=Qe hg
 obtain⟨l,zs,i9,hF,hH,qI⟩:=rl.own i ws hw
 refine uG (Ag (av (he.run pins s σ H F Γ I fo rl (by rw[e1];exact λz=>nomatch z)) (λu s1 ⟨d',v,H1,f1,I1,r1,S1,i1⟩=>?_) λ_ _ ⟨c,_,z,_⟩=>by rw[e1] at z;cases z))
 rw[e1] at f1;cases f1
 exact⟨u,rfl,d,ws,v,σ,H1,F,l,zs,by rw[hw],I1,r1,.of_same S1,i9,S1 _ _ hH,hF,qI.same (g7 S1),i1⟩
theorem mX(h1:PK X i st t)(h2:PW X i rest u):PW X i (st::rest) (dH t u):=by
 refine⟨λpins s σ H F Γ I fo rl hg=>?_⟩
 cases ht:t Γ with
 | no=>exact absurd (show dH t u Γ = .no by unfold dH;rw[ht]) hg
 | er c=>exact absurd (show dH t u Γ = .no by unfold dH;rw[ht]) hg
 | ok f =>
   cases f with
   | nx dG =>
     have e2:dH t u Γ=u dG:=by unfold dH;rw[ht]
     rw[e2] at hg ⊢
     refine uG (av (h1.run pins s σ H F Γ I fo rl (by rw[ht];exact λz=>nomatch z)) (λfl s1 q=>?_) λx s1 q=>?_)
     ·rw[ht] at q
      cases fl with
      | next =>
        obtain⟨Γ',e,aE,H',F',I',Cg,lI,E,k⟩:=q
        cases e
        refine av (h2.run pins s1 aE H' F' dG I' Cg lI hg) (λfl s2 ⟨u',hu,d,ws,v,Hw,H2,F2,l,zs,q1,q2,q3,q4,q5,q6,q7,q8,q9⟩=>?_) λ_ _ z=>z
        exact⟨u',hu,d,ws,v,Hw,H2,F2,l,zs,q1,q2,q3,E.trans q4,by rw[<-k];exact q5,q6,q7,q8,q9⟩
      | ret v=>exact(by obtain⟨v',aE,H',F',_,_,_,⟨d,z,_⟩ | ⟨_,_,_,z,_⟩⟩:=q<;>cases z)
      | brk=>exact(by obtain⟨Γ',z,_⟩:=q;cases z)
      | cont=>exact(by obtain⟨Γ',z,_⟩:=q;cases z)
     ·rw[ht] at q
      obtain⟨c,Γ',aE,H',F',z,_⟩:=q
      cases z
   | rt d=>exact absurd (show dH t u Γ = .no by unfold dH;rw[ht]) hg
   | fz d=>exact absurd (show dH t u Γ = .no by unfold dH;rw[ht]) hg
   | bk d=>exact absurd (show dH t u Γ = .no by unfold dH;rw[ht]) hg
   | ct d=>exact absurd (show dH t u Γ = .no by unfold dH;rw[ht]) hg
   | ex c d=>exact absurd (show dH t u Γ = .no by unfold dH;rw[ht]) hg
theorem Qf{cs:List Stmt}{gc:G->R Bool}(hc:i5 X c gc)(ha:PW X i cs u)(hb:PW X i rest v):PW X i (.If c cs [] pos::rest) (nS gc u v):=by
 refine⟨λpins s σ H F Γ I fo rl hg=>?_⟩
 obtain⟨k,e1⟩:=R.Bc (R.left hg)
 have e2:nS gc u v Γ=if k=true then u Γ else v Γ:=by unfold nS;rw[e1];rfl
 rw[e2] at hg ⊢
 refine uG (Lc (av (hc.run pins s σ H F Γ I fo rl (by rw[e1];exact λz=>nomatch z)) (λk' s1 q=>?_) λ_ _ ⟨c,_,z,_⟩=>by rw[e1] at z;cases z))
 obtain⟨H1,f1,I1,S1⟩:=q
 rw[e1] at f1;cases f1
 have fin:∀{w:G->R (D×List D)} {b:List Stmt} {Q:Flow->ah->Prop},PW X i b w->w Γ ≠ .no->(∀fl s',(∃u,fl = .ret u/\∃d ws v aE H' F' l zs,w Γ = .ok (d,ws)/\Inv X pins aE H' s'/\RelV v u/\Ext H F H' F'/\σ[i]? = some (some (.ref l))/\H' l=some (.lst zs)/\l∈F'/\ao X.K (aF F' H') ws zs/\Is X.K (aF F' H') d v)->Q fl s')->au (aB X.prog X.w) X.A (sm b X.env) Q (λ_ _=>False) s1:=λ{w b Q} hw hn hQ =>
  av (hw.run pins s1 σ H1 F Γ I1 (fo.same S1) (rl.same S1) hn) (λfl s2 ⟨u',hu,d,ws,v,Hw,H2,F2,l,zs,q1,q2,q3,q4,q5,q6,q7,q8,q9⟩=>hQ _ _ ⟨u',hu,d,ws,v,Hw,H2,F2,l,zs,q1,q2,q3,(Ext.of_same S1).trans q4,q5,q6,q7,q8,q9⟩) λ_ _ z=>z
 cases k with
 | true =>
   rw[if_pos rfl] at hg ⊢
   refine fin ha hg λfl s' h=>?_
   obtain⟨u',hu,h'⟩:=h
   subst hu
   exact⟨u',rfl,h'⟩
 | false =>
   rw[if_neg (by decide)] at hg ⊢
   refine pP ?_
   exact fin hb hg λfl s' h=>h
theorem Qg(he:oA X i e u):PW X i (.Return (some e) pos::rest) u:=by
 refine⟨λpins s σ H F Γ I fo rl hg=>?_⟩
 refine uG (Ag (av (he.run pins s σ H F Γ I fo rl hg) (λu' s1 ⟨d,ws,v,H1,f1,I1,r1,eW,fq,E1,i1,hi⟩=>?_) λ_ _ z=>z))
 obtain⟨l,zs,i9,hF,hH,qI⟩:=fq.own i ws (gU hi)
 exact⟨u',rfl,d,ws,v,σ,H1,F,l,zs,f1,I1,r1,E1,i9,hH,hF,qI,i1⟩
end
theorem x1t{K:aA}{H:Hp}{N:List Str}{as bs ws:List D}{xs ys zs:List V}{l:Addr}(j1:ao K (aF [l] H) as xs)(j2:ao K (aF [l] H) bs ys)(hH:H l=some (.lst zs))(j3:ao K (aF [l] H) ws zs) :
 Rel K H [l] ((fc N.length (as ++ .lst ws::bs)).set as.length (.own ws)) (L2.start N (xs ++ .ref l::ys)):=by
 have l1:=j1.length
 have l2:=j2.length
 have hlen:(as++D.lst ws::bs).length=(xs++V.ref l::ys).length:=by simp[l1,l2]
 have yk:as.length<(fc N.length (as ++ .lst ws::bs)).length:=by unfold fc;simp
 have key:∀(j:Nat) (en:En),j≠as.length->(fc N.length (as ++ .lst ws::bs))[j]? = some en->(∃d v,en = .ro d/\(L2.start N (xs ++ .ref l::ys))[j]? = some (some v)/\Is K (aF [l] H) d v)∨en = .no:=λj en aS h=>by
  unfold fc at h
  by_cases hj:j<(as++D.lst ws::bs).length
  ·rw[wH (by simpa using hj),eZ,eO hj] at h
   have oQ:(L2.start N (xs ++ .ref l::ys))[j]? = some (some ((xs++V.ref l::ys)[j]'(by rw[<-hlen];exact hj))):=by
    unfold L2.start
    rw[wH (by rw[a6,<-hlen];exact hj),eZ,eO (by rw[<-hlen];exact hj)];rfl
   cases h
   refine .inl ⟨_,_,rfl,oQ,?_⟩
   by_cases wd:j<as.length
   ·have e1:(as++D.lst ws::bs)[j]'hj=as[j]'wd:=b0d wd
    have e2:(xs++V.ref l::ys)[j]'(by rw[<-hlen];exact hj)=xs[j]'(by rw[<-l1];exact wd):=b0d (by rw[<-l1];exact wd)
    rw[e1,e2]
    obtain⟨v,hv,iv⟩:=j1.get (eO wd)
    rw[eO (by rw[<-l1];exact wd)] at hv
    cases hv;exact iv
   ·obtain⟨m,rfl⟩:∃m,j=as.length+1+m:=⟨j-as.length-1,by lia⟩
    have hm:m<bs.length:=by simp at hj;lia
    have e1:(as++D.lst ws::bs)[as.length+1+m]'hj=bs[m]'hm:=by
     rw[b0e (by lia)]
     have:as.length+1+m-as.length=m+1:=by lia
     simp only[this,b0f]
    have e2:(xs++V.ref l::ys)[as.length+1+m]'(by rw[<-hlen];exact hj)=ys[m]'(by rw[<-l2];exact hm):=by
     rw[b0e (by lia)]
     have:as.length+1+m-xs.length=m+1:=by lia
     simp only[this,b0f]
    rw[e1,e2]
    obtain⟨v,hv,iv⟩:=j2.get (eO hm)
    rw[eO (by rw[<-l2];exact hm)] at hv
    cases hv;exact iv
  ·rw[uA (by simpa using hj),Kr] at h
   split at h
   ·cases h;exact .inr rfl
   ·cases h
 have here:(L2.start N (xs ++ .ref l::ys))[as.length]? = some (some (.ref l)):=by
  unfold L2.start
  rw[wH (by simp;lia),eZ,uA (by lia),l1,KH];rfl
 have Hx:∀(j:Nat) (es:List D),((fc N.length (as ++ .lst ws::bs)).set as.length (.own ws))[j]? = some (.own es)->j=as.length/\es=ws:=λj es h=>by
  by_cases q:as.length=j
  ·subst q
   rw[gU yk] at h
   cases h;exact⟨rfl,rfl⟩
  ·rw[eD q] at h
   rcases key j _ (dM q) h with ⟨d,v,z,_⟩ | z<;>cases z
 refine⟨?_,λj d h=>?_,λj es h=>?_,λj k es fs a h1 h2 _ _=>?_⟩
 ·rw[fD]
  unfold fc L2.start
  simp only[dW,a6,a7z,hlen]
 ·by_cases q:as.length=j
  ·subst q;rw[gU yk] at h;cases h
  ·rw[eD q] at h
   rcases key j _ (dM q) h with ⟨d',v,z,z2,z3⟩ | z
   ·cases z;exact⟨v,z2,z3⟩
   ·cases z
 ·obtain⟨rfl,rfl⟩:=Hx j es h
  exact⟨l,zs,here,by simp,hH,j3⟩
 ·rw[(Hx j es h1).1,(Hx k fs h2).1]
section
variable {P:aQ}{w:aN}{K:aA}{mg:Str->Option Value}{base:Heap}
end
section
variable {X:Cx}{y:Str}{scope:dA}
theorem x6z{elt iter:Expr}{px pos:Pos}{pins:List (Addr×Obj)}{σ:St}{ax:Hp}{aq:ah}{n:Nat}{it l:Addr}{zs:List V}{fp:List Addr}{tn:Nat->Heap->Prop}{E:Value->ah->Prop}
 (hp:∀(C:Addr) (ps:List (Addr×Obj)) (s:ah) (x:V) (H:Hp) (ys:List V) (z:V),Inv (bM X y scope C aq ax fp (X.pn++pins)) ps (some x::σ) H s->H l=some (.lst (ys++[z])) ->
   au (aB X.prog X.w) X.A (eval elt (gH scope (cI X.env scope.names []) C X.env)) (λu du=>RelV z u/\Inv (bM X y scope C aq ax fp (X.pn++pins)) ps (some x::σ) (upd H l (.lst ys)) du) (λ_ _=>False) s)
 (c:vV X.N X.env y scope) (hN:X.N.Nodup) (fh:X.calm=true) (I:Inv X pins σ ax aq) (T:Turn X.prog X.w X.K (.Name y px) (sO 0 n) fp it tn) (t0:tn 0 aq.heap) (hf:∀b∈fp,fx X pins ax b)
 (hH:ax l=some (.lst zs)) (hn:n<=zs.length) (hl:zs.length<=100000) {RR:Value->Addr->pB->ah->Prop}
 (hR:∀(Dd C:Addr) (H':Hp) (m:Str->Option Value) (s':ah),aq.heap.objs.size<=C->Dd≠C->ax Dd=none->H' Dd=none->H' C=none->aq.heap.objs.size<=Dd->uk l ax H'->H' l=some (.lst (zs.take (zs.length-n)))->Inv X pins σ (upd H' Dd (.lst (zs.reverse.take n))) s'->s'.heap.Ns C m->RR (.ref Dd) C (.ok .next) s') :
 au (aB X.prog X.w) X.A (Af []) (λacc fQ=>au (aB X.prog X.w) X.A (Dn scope X.env.globals (cI X.env scope.names []) [] X.env.qual none .none (some X.env)) (λcenv du =>
  iQ (aB X.prog X.w) X.A (.compStart (.ListComp elt [⟨.Name y px,iter,[],0⟩] scope pos) 0 (.ref it) acc { cenv with scope:=iS scope X.env }) (RR acc cenv.locals) du) E fQ) E aq:=by
 have ho:∀b∈fp,b<aq.heap.objs.size:=λb hb=>by obtain⟨o,e,_⟩:=T.obj _ _ t0 b hb;exact bH e
 refine pE (K6 c.ph (by intro y hy;simp at hy) (λcN iI gy=>?_) c.kind)
 dsimp only at iI gy ⊢
 generalize j7:aq.heap.push { cls:=.type "list",dict:=none,data:=.seq ([]:List Value).toArray }=H2 at iI gy ⊢
 have j8:H2.objs.size=aq.heap.objs.size+1:=by rw[<-j7,uE]
 generalize GJ:H2.objs.size=C at iI gy j8 ⊢
 generalize oh:aq.heap.objs.size=Dd at j8 ⊢
 obtain⟨⟨dh,hC,hD⟩,below⟩:=Cd j8 oh
 have old:∀b o,aq.heap.get? b=some o->cN.get? b=some o:=λb o e=>by
  refine gy.extBut b o (below b (bH e)).1 ?_
  exact cX _ (j7 ▸ cX _ e)
 have kH:cN.get? Dd=some { cls:=.type "list",dict:=none,data:=.seq ([]:List Value).toArray }:=by
  refine gy.extBut _ _ dh ?_
  refine cX _ ?_
  rw[<-j7,<-oh]
  exact fu _ rfl
 have J0:∀tk,Inv (bM X y scope C aq ax fp (X.pn++pins)) [(Dd,{ cls:=.type "list",dict:=none,data:=.seq ([]:List Value).toArray })] (none::σ) ax { aq with heap:=cN,toks:=tk }:=λtk =>
  GB I c hC hD dh hf ho old iI kH (λv z=>nomatch z)
 have t1:tn 0 cN:=T.keep _ _ _ t0 λb hb o e=>old b o e
 have j9:∀{H':Hp} {o:Obj},(∀b∈fp,H' b=none)->∀b∈fp,fx (bM X y scope C aq ax fp (X.pn++pins)) [(Dd,o)] H' b:=λ{H' o} hn b hb=>by
  obtain⟨f0,f1,f2,f3,f4,f5⟩:=hf b hb
  have lt:=ho b hb
  refine⟨hn b hb,(below b lt).1,λz=>?_,.inl hb,λx k e=>?_,λp bG=>?_⟩
  ·rcases List.mem_cons.mp (I.md b z) with q | q
   ·exact f1 q
   ·exact f2 q
  ·rcases j6 scope.names [] (iq e) with q | q
   ·simp at q
   ·exact f4 x k q
  ·rcases List.mem_append.mp bG with q | q
   ·exact f5 p q
   ·have e:p=(Dd,o):=by simpa using q
    subst e
    exact dM (below b lt).2
 have sd:(bM X y scope C aq ax fp (X.pn++pins)).N.Nodup:=by
  show(y::X.N.map (λz=>if z=y then ("":Str) else z)).Nodup
  refine List.nodup_cons.mpr ⟨λz=>?_,?_⟩
  ·obtain⟨z',hz,e⟩:=List.mem_map.mp z
   by_cases q:z'=y
   ·rw[if_pos q] at e
    subst e
    have:=c.loc;rw[c.nil] at this;cases this
   ·rw[if_neg q] at e;exact q e
  ·have inj:∀a∈X.N,∀b∈X.N,(if a=y then ("":Str) else a)=(if b=y then ("":Str) else b)->a=b:=λa ha b hb e=>by
    by_cases qa:a=y
    ·by_cases qb:b=y
     ·rw[qa,qb]
     ·rw[if_pos qa,if_neg qb] at e;exact absurd e.symm (c.none b hb)
    ·by_cases qb:b=y
     ·rw[if_neg qa,if_pos qb] at e;exact absurd e (c.none a ha)
     ·rw[if_neg qa,if_neg qb] at e;exact e
   have gen:∀l:List Str,(∀a∈l,a∈X.N)->l.Nodup->(l.map (λz=>if z=y then ("":Str) else z)).Nodup:=by
    intro l
    induction l with
    | nil=>intro _ _;exact K7
    | cons a l ih =>
      intro hs nd
      obtain⟨n1,n2⟩:=List.nodup_cons.mp nd
      rw[e8]
      refine List.nodup_cons.mpr ⟨λz=>?_,ih (λb hb=>hs b (dJ _ hb)) n2⟩
      obtain⟨b,hb,e⟩:=List.mem_map.mp z
      exact n1 (inj b (hs b (dJ _ hb)) a (hs a fi) e ▸ hb)
   exact gen X.N (λ_ h=>h) hN
 let L:Nat->ah->Prop:=λm s'=>∃(i:Nat) (H':Hp) (o:Option V) (its:List Value) (k:Nat),m=n-i/\i<=n/\Inv (bM X y scope C aq ax fp (X.pn++pins)) [(Dd,{ cls:=.type "list",dict:=none,data:=.seq its.toArray k })] (o::σ) H' s' /\
  uk l ax H'/\H' l=some (.lst (zs.take (zs.length-i)))/\(∀b∈fp,H' b=none)/\tn i s'.heap/\Vals (zs.reverse.take i) its
 have loop:∀du:ah,L n du->iQ (aB X.prog X.w) X.A (.compLoop (.ListComp elt [⟨.Name y px,iter,[],0⟩] scope pos) 0 (.ref it) (.ref Dd) (gH scope (cI X.env scope.names []) C X.env)) (RR (.ref Dd) C) du:=λdu h4=>by
  refine Tq L (λm s' hL=>av (E:=λ_ _=>False) ?_ (λ_ _ q=>q) λ_ _ z=>z.elim) n h4
  obtain⟨i,H',o,its,k,en,hi,J',B',kI,oi,oj,rv⟩:=hL
  have GK:=J'.pin (Dd,{ cls:=.type "list",dict:=none,data:=.seq its.toArray k }) (b8 _ (by simp))
  have jk:(zs.reverse.take i).length<=100000:=by rw[oG,qY];lia
  have iY:(100000:Nat)<=bR:=by rw[ju];decide
  by_cases cw:i<n
  ·refine fE (T.item (bM X y scope C aq ax fp (X.pn++pins)) rfl rfl rfl fh i _ s' _ H' (λ_ _=>False) J' (j9 oi) oj cw) λr s2 ⟨u,hr,h1⟩=>?_
   subst hr
   refine Gx (a:=()) h1 λ⟨x,H5,J5,r5,y5,ij,qv⟩=>?_
   obtain⟨e5,ex⟩:=y5
   subst e5
   have t5:=J5.pinned (j9 qv) (T.obj _ _ ij)
   have qx:PG (bM X y scope C aq ax fp (X.pn++pins)).bT (.Name y px) (sM 0):=uN (X:=(bM X y scope C aq ax fp (X.pn++pins)).bT) sd rfl (.inl (pO c.loc)) (.inr (pO c.loc))
   refine av (qx _ s2 (o::σ) H5 x u (λaE H'=>aE=some x::σ/\H'=H5) (t5.dm _) r5 ⟨rfl,rfl⟩) (λ_ s3 ⟨vX,H6,J6,e6,qy⟩=>?_) λ_ _ z=>z.elim
   subst e6 qy
   have t8:=J6.eQ
   refine Tp ?_
   rw[if_pos rfl]
   have hlz:zs.length-i=zs.length-(i+1)+1:=by lia
   have G9:zs.take (zs.length-i)=zs.take (zs.length-(i+1))++[zs[zs.length-(i+1)]'(by lia)]:=by
    rw[hlz,b0g]
   rw[G9] at kI
   refine av (hp C _ s3 x H6 _ _ t8 kI) (λu7 s5 ⟨r7,J7⟩=>?_) λ_ _ z=>z.elim
   have back:∀{s5:ah} {H7:Hp} {cP:St},Inv (bM X y scope C aq ax fp (X.pn++pins)) ([(Dd,{ cls:=.type "list",dict:=none,data:=.seq its.toArray k })]++jU fp s2.heap) cP H7 s5->tn (i+1) s5.heap/\(∀b∈fp,H7 b=none):=λ{s5 H7 cP} J7=>by
    refine⟨T.keep _ _ _ ij λb hb o' e=>(J7.pin (b,o') (b8 _ (b8 _ (nv hb e)))).1,λb hb=>?_⟩
    obtain⟨o',e,dd⟩:=T.obj _ _ ij b hb
    exact(J7.pin (b,o') (b8 _ (b8 _ (nv hb e)))).2.1
   obtain⟨lF,lG⟩:=back J7
   have J8:=J7.ny
   have iJ:=J8.pin (Dd,{ cls:=.type "list",dict:=none,data:=.seq its.toArray k }) (b8 _ (by simp))
   refine K9 (l:=Dd) (items:=its.toArray) (x:=u7) ⟨k,iJ.1⟩ (λh' a0w j_=>?_) (by rw[cY,<-rv.length];exact dD jk iY)
   obtain⟨k',fY⟩:=a0w
   have t_:its.toArray.push u7=(its++[u7]).toArray:=by simp
   rw[t_] at fY
   have J9:Inv (bM X y scope C aq ax fp (X.pn++pins)) [] (some x::σ) (upd H6 l (.lst (zs.take (zs.length-(i+1))))) s5:=J8.me λp bG=>by simp at bG
   have ua:Inv (bM X y scope C aq ax fp (X.pn++pins)) [] (some x::σ) (upd H6 l (.lst (zs.take (zs.length-(i+1))))) { s5 with heap:=h' }:=J9.turned (t':=s5.toks) (it:=Dd) (λb o' hb e'=>(j_.2 b hb).trans e') iJ.2.1 dh (.inr hD) (λx' oo e' z=>by
    rcases j6 scope.names [] (iq e') with q | q
    ·simp at q
    ·obtain⟨v',o',dO,_⟩:=I.cell x' oo q
     exact(below oo (bH dO)).2 z) (λp bG z=>by
    rcases List.mem_append.mp bG with q | q
    ·obtain⟨ik,_⟩:=I.pin p q
     exact(below p.1 (bH ik)).2 z
    ·simp at q)
   have ub:Inv (bM X y scope C aq ax fp (X.pn++pins)) [(Dd,{ cls:=.type "list",dict:=none,data:=.seq (its++[u7]).toArray k' })] (some x::σ) (upd H6 l (.lst (zs.take (zs.length-(i+1))))) { s5 with heap:=h' }:=ua.me λp bG=>by
    have e':p=(Dd,{ cls:=.type "list",dict:=none,data:=.seq (its++[u7]).toArray k' }):=by simpa using bG
    subst e'
    exact⟨fY,iJ.2.1,dh,iJ.2.2.2.1,λv z=>nomatch z⟩
   have a0x:zs.reverse.take (i+1)=zs.reverse.take i++[zs[zs.length-(i+1)]'(by lia)]:=by
    rw[b0g (by rw[qY];lia),List.getElem_reverse]
    congr 3;lia
   refine⟨n-(i+1),by lia,i+1,_,some x,its++[u7],k',rfl,cw,ub,λb o' hb q=>by rw[bD hb];exact B' b o' hb q,dc,lG,T.keep _ _ _ lF λb hb o' e'=>(j_.2 b (below b (ho b hb)).2).trans e',by rw[a0x];exact rv.append (.cons r7 .nil)⟩
  ·have qz:i=n:=K_ hi (C4 cw)
   subst qz
   refine fE (T.done (bM X y scope C aq ax fp (X.pn++pins)) rfl rfl rfl fh _ _ s' _ H' (λ_ _=>False) J' (j9 oi) oj (a7 _)) λr s1 ⟨hr,J1⟩=>?_
   subst hr
   have ka:=J1.pin (Dd,{ cls:=.type "list",dict:=none,data:=.seq its.toArray k }) (b8 _ (by simp))
   obtain⟨mC,iK,_⟩:=J1.loc
   exact hR Dd C H' mC s1 hC dh (I.aK.fresh hD) ka.2.1 J1.free hD B' kI (Gz I J1 hD ka.2.1 ka.1 rv (dD jk iY) hf) iK
 have L0:∀tk,L n { aq with heap:=cN,toks:=tk }:=λtk=>⟨0,ax,none,[],_,rfl,ni _,J0 tk,λ_ _ _ q=>q,by rw[SJ,wN];exact hH,λb hb=>(hf b hb).1,t1,.nil⟩
 exact La (loop _ (L0 _)) (T.self _ 0 _ _ _ t1 (loop _ (L0 _)))
end
theorem ao.Hy{K:aA}{H:Hp}:∀{ds:List D} {xs:List V},ao K H ds xs->ao K H ds.reverse xs.reverse
 | [],xs,h=>by rw[ao.jb.mp h];exact ao.nil
 | d::ds,xs,h=>by
   obtain⟨x,r,rfl,h1,h2⟩:=ao.i4.mp h
   rw[zW,zW]
   exact(ao.Hy h2).append (ao.cons h1 ao.nil)
def Qh(X:Cx)(j:Nat)(elt:Expr):Prop:=∀(pins:List (Addr×Obj)) (s:ah) (σ:St) (H:Hp) (l:Addr) (ys:List V) (z:V),Inv X pins σ H s->σ[j]? = some (some (.ref l))->H l=some (.lst (ys++[z])) ->
 au (aB X.prog X.w) X.A (eval elt X.env) (λu s'=>RelV z u/\Inv X pins σ (upd H l (.lst ys)) s') (λ_ _=>False) s
theorem w7l{X:Cx}(j:Nat){x:Str}{pl apos cD:Pos}(hN:X.N[j]? = some x:=by rfl)(hv:kR X.env.scope x:=by first | exact fR rfl | exact dX (fR rfl) | exact dX (dX rfl))(hd:(x==("__debug__":Str))=false:=by decide)(dE:(x==("__classdict__":Str))=false:=by decide)
 (ke:uH (.Name x pl) "pop" X.env (eval (.Name x pl) X.env)=eval (.Name x pl) X.env:=by rfl) (kf:(apos.endLine==cD.line)=true:=by rfl):Qh X j (.Call (.Attribute (.Name x pl) "pop" apos) [] [] cD):=by
 intro pins s σ H l ys z I i9 hH
 refine wpAny_Call_method0_late ke kf (av (pV (X:=X.bT) hN hv hd dE pins s σ H (λv' H'=>v' = .ref l/\H'=H) (I.dm _) ⟨.ref l,i9,rfl,rfl⟩) (λv s2 q2=>?_) λ_ _ z=>b6 z)
 obtain⟨v2,H2,I2,r2,e3,e4⟩:=q2
 subst e3 e4
 have Qi:=I2.eQ
 obtain⟨t1,t2⟩:=AE (T:="list") Qi r2 (.inl ⟨rfl,_,b9.of hH⟩)
 refine⟨"list",_,Lf,PySem.F.slot_list_pop,PySem.F.type_list_pop,t1,t2,uI rfl (PySem.evalArgs_none ?_)⟩
 refine av (Vw (X:=X.bT) pins s2 σ H2 (.ref l) [] v [] (λz' lK=>z'=z/\lK=upd H2 l (.lst ys)) (Qi.dm _) r2 .nil ⟨l,ys++[z],z,rfl,rfl,hH,by simp,rfl,by simp⟩) (λu3 s3 q3=>?_) λ_ _ z=>b6 z
 obtain⟨y3,H3,I3,r3,e5,e6⟩:=q3
 subst e5 e6
 exact⟨r3,I3.eQ⟩
section
variable {X:Cx}{y:Str}{scope:dA}{rest:List Stmt}
theorem w2e{i:Nat}{elt cnt:Expr}{gc:G->R D}{px pr pos pos' a0y:Pos}(hc:PD X cnt gc)(hp:∀C aq ax fp pn,Qh (bM X y scope C aq ax fp pn) (i+1) elt)(hN:X.N.Nodup)(fh:X.calm=true)(hm:X.mg "range"=none)(hg:Gl X "range":=by rfl)(zA:aV [cnt] X.env=[(false,eval cnt X.env)]:=by rfl)
 (oq:tW X.N X.env y scope=true:=by rfl) (lH:w9 scope X.env=pure (cI X.env scope.names []):=by rfl) (hs:∀x,uF (.Call (.Name "range" pr) [cnt] [] pos') X.env x=pure x:=by intro _;rfl) :
 PW X i (.Return (some (.ListComp elt [⟨.Name y px,.Call (.Name "range" pr) [cnt] [] pos',[],0⟩] scope pos)) a0y::rest) (u_ i gc):=by
 refine⟨λpins s σ H F Γ I fo rl bZ=>?_⟩
 obtain⟨n,ws,e1,hw,n0,nw,wl,e2⟩:=WE bZ
 rw[e2]
 obtain⟨l,zs,i9,hF,hH,qI⟩:=rl.own i ws hw
 have PU:zs.length=ws.length:=qI.length.symm
 have c:=y0 oq
 refine uG (Ag ?_)
 rw[Lb]
 refine Dp (use:=none) rfl hs lH c.kind c.names ?_
 refine wZ (iA I hg hm K4 (pM ?_ zA rfl))
 rw[zA]
 show au _ _ (eE ((false,eval cnt X.env)::cC pos' [])) _ _ s
 refine fw (av (hc.run pins s σ H F Γ I fo rl (by rw[e1];exact λz=>nomatch z)) (λu s1 ⟨d',v,H1,f1,I1,r1,S1,i1⟩=>h_ ?_) λ_ _ ⟨c,_,z,_⟩=>by rw[e1] at z;cases z)
 rw[e1] at f1;cases f1
 rw[Is.bU.mp i1] at r1
 obtain⟨t,rfl⟩:=(show ∃t,u=mZ n t from r1)
 refine call_range_1 (fE (DL (tg:=.Name y px) (R:=λJ H'=>J=sO 0 (n-0).toNat/\H'=H1) I1 (by lia) (by lia) (by lia) (by lia) ⟨rfl,rfl⟩) λkW s2 ⟨it,fp,tn,J,H',ei,I2,T,t0,fk,eJ,eH⟩=>?_)
 subst eJ eH ei
 rw[Int.sub_zero] at T
 have CF:=S1 _ _ hH
 refine x6z (l:=l) (zs:=zs) (n:=n.toNat) (RR:=λacc C=>Dq (aB X.prog X.w) X.A _ none _ acc C) (λC ps s' x H' ys z J' kI=>hp C s2 _ fp (X.pn++pins) ps s' (some x::σ) H' l ys z J' (by simpa using i9) kI) c hN fh I2 T t0 fk CF (by lia) (by lia) ?_
 intro Dd C H' m s' hC dh hn gX iK hD B hl I' ot
 refine⟨m,ot,λjl jM=>?_⟩
 have gR:∀{b:Addr} {o:Obj},s2.heap.get? b=some o->b≠C:=λe=>dS (cW (bH e) hC)
 have qB:Inv X pins σ (upd H' Dd (.lst (zs.reverse.take n.toNat))) { s' with heap:=jl }:=I'.turned (t':=s'.toks) (it:=C) (λb o hb e=>jM.extBut b o hb e) (by rw[bD (dM dh)];exact iK) (nc (cW I2.lt hC)) (.inr (dD I2.sz hC))
  (λx k e=>by obtain⟨v,o,ho,_⟩:=I2.cell x k e;exact gR ho) (λp bG=>gR (I2.pin p bG).1)
 have hlD:l≠Dd:=λz=>by rw[z] at CF;rw[hn] at CF;cases CF
 have DF:Dd ∉ F:=λz=>by obtain⟨xs,q⟩:=fo Dd z;rw[S1 _ _ q] at hn;cases hn
 have up:∀b o,b≠l->H b=some o->upd H' Dd (.lst (zs.reverse.take n.toNat)) b=some o:=λb o hb q=>by
  have q1:=S1 _ _ q
  rw[bD λz=>by rw[z] at q1;rw[hn] at q1;cases q1]
  exact B b o hb q1
 have S3:aO (aF F H) (aF F (upd H' Dd (.lst (zs.reverse.take n.toNat)))):=λb o q=>by
  obtain⟨q1,q2⟩:=iF q
  rw[da q1]
  exact up b o (λz=>q1 (by rw[z];exact hF)) q2
 have Qj:=qI.same S3
 refine⟨_,rfl,_,_,.ref Dd,σ,_,F,l,zs.take (zs.length-n.toNat),rfl,qB,rfl,⟨λb o hb q=>up b o (λz=>hb (by rw[z];exact hF)) q,λb hb=>.inl hb⟩,i9,by rw[bD hlD];exact hl,hF,?_,?_⟩
 ·rw[<-PU]
  exact ao.take _ Qj
 ·exact Is.fm.mpr ⟨Dd,zs.reverse.take n.toNat,rfl,b9.of (by rw[da DF];exact dc),ao.take _ (ao.Hy Qj)⟩
end
section
variable {X:Cx}{e a b c:Expr}{g ga gb:G->R D}{u:G->R (D×List D)}{pos pos' p:Pos}{w:Nat}{x:Str}
theorem CG{r:R (D×List D)}{k:D->List D->R Fl}(h:(match r with | .ok (d,ws)=>k d ws | _=>.no) ≠ .no):∃d ws,r = .ok (d,ws)/\k d ws ≠ .no:=by
 cases r with
 | ok q=>exact⟨q.1,q.2,rfl,h⟩
 | no=>exact absurd rfl h
 | er c=>exact absurd rfl h
theorem Hz{r:R (D×List D)}{k:D->List D->R (D×List D)}(h:(match r with | .ok (d,ws)=>k d ws | _=>.no) ≠ .no):∃d ws,r = .ok (d,ws)/\k d ws ≠ .no:=by
 cases r with
 | ok q=>exact⟨q.1,q.2,rfl,h⟩
 | no=>exact absurd rfl h
 | er c=>exact absurd rfl h
theorem zB(j:Nat)(he:oA X w e u)(hN:X.N.Nodup)(zv:j≠w:=by decide)(hi:X.N[j]? = some x:=by rfl)(hx:Loc X.env.scope x:=by first | exact fR rfl | exact dX rfl)(hs:pQ e (some (.Name x pos')) pos.line X.env=pure false:=by rfl)(hf:X.fn x=true∨X.env.scope.names.lookup x=some .local:=by first | exact .inl rfl | exact .inr rfl | assumption) :
 PK X w (.Assign [.Name x pos'] e pos) (o4 j w u):=by
 refine⟨λpins s σ H F Γ I fo rl hg=>?_⟩
 obtain⟨d,ws,e1,_⟩:=CG hg
 have e2:o4 j w u Γ = .ok (.nx ((Γ.set w (.own ws)).set j (.ro d))):=by unfold o4;rw[e1]
 rw[e2]
 refine Ld (av (he.run pins s σ H F Γ I fo rl (by rw[e1];exact λz=>nomatch z)) (λv s1 q=>?_) λ_ _ z=>b6 z) hs
 obtain⟨d',hJ,y,H1,f1,I1,r1,eW,fq,E1,i1,hl⟩:=q
 rw[e1] at f1;cases f1
 exact uM I1 hN hi hx r1 (λs2 I2=>⟨_,rfl,_,H1,F,I2,eW,fq.Cf i1,E1,eD zv⟩) hf
theorem Qk(he:oA X w e u)(ox:pQ e none pos.line X.env=pure false:=by rfl):PK X w (.Expr e pos) (s_ w u):=by
 refine⟨λpins s σ H F Γ I fo rl hg=>?_⟩
 obtain⟨d,ws,e1,_⟩:=CG hg
 have e2:s_ w u Γ = .ok (.nx (Γ.set w (.own ws))):=by unfold s_;rw[e1]
 rw[e2]
 refine Ds (av (he.run pins s σ H F Γ I fo rl (by rw[e1];exact λz=>nomatch z)) (λv s1 q=>?_) λ_ _ z=>b6 z) I.quiet ox
 obtain⟨d',hJ,y,H1,f1,I1,r1,eW,fq,E1,i1,hl⟩:=q
 rw[e1] at f1;cases f1
 exact⟨_,rfl,σ,H1,F,I1,eW,fq,E1,rfl⟩
theorem w2i(m:Nat){apos cD:Pos}(he:oA X w e u)(hmw:m≠w:=by decide)(hN:X.N[m]? = some x:=by rfl)(hv:kR X.env.scope x:=by first | exact fR rfl | exact dX (fR rfl) | exact dX (dX rfl))(hd:(x==("__debug__":Str))=false:=by decide)(dE:(x==("__classdict__":Str))=false:=by decide)
 (ox:pQ (.Call (.Attribute (.Name x p) "append" apos) [e] [] cD) none pos.line X.env=pure false:=by rfl)
 (ke:uH (.Name x p) "append" X.env (eval (.Name x p) X.env)=eval (.Name x p) X.env:=by rfl)
 (lJ:((cC cD (aV [e] X.env)).all (λx=>!x.1)&&(uv cD (uw [] X.env)).all (λx=>x.1.isSome)
   && decide ([e].length+([]:List km).length+(if ([]:List km).isEmpty then 0 else 1)<30))=true:=by rfl)
 (kf:(apos.endLine==cD.line)=true:=by rfl) (hs:aV [e] X.env=(false,eval e X.env)::aV [] X.env:=by rfl) :
 PK X w (.Expr (.Call (.Attribute (.Name x p) "append" apos) [e] [] cD) pos) (qe m w u):=by
 refine⟨λpins s σ H F Γ I fo rl hg=>?_⟩
 refine Ds ?_ I.quiet ox
 obtain⟨d,ws,e1,h1⟩:=CG hg
 have e2:qe m w u Γ=(match (Γ.set w (.own ws))[m]? with
  | some (.own ds)=>if ds.length<=100000 then R.ok (Fl.nx ((Γ.set w (.own ws)).set m (.own (ds++[d])))) else .no
  | _=>.no):=by unfold qe;rw[e1];try rfl
 obtain⟨ds,eo,hl⟩:∃ds,(Γ.set w (.own ws))[m]? = some (.own ds)/\ds.length<=100000:=by
  cases q:(Γ.set w (.own ws))[m]? with
  | none=>rw[q] at h1;exact absurd rfl h1
  | some en =>
    cases en with
    | no=>rw[q] at h1;exact absurd rfl h1
    | ro d'=>rw[q] at h1;exact absurd rfl h1
    | own ds =>
      rw[q] at h1
      by_cases z:ds.length<=100000
      ·exact⟨ds,rfl,z⟩
      ·exact absurd (show(if ds.length<=100000 then R.ok (Fl.nx ((Γ.set w (.own ws)).set m (.own (ds++[d])))) else .no) = .no by rw[if_neg z]) h1
 have e3:qe m w u Γ = .ok (.nx ((Γ.set w (.own ws)).set m (.own (ds++[d])))):=by rw[e2,eo];dsimp only;rw[if_pos hl]
 rw[e3]
 have eo0:Γ[m]? = some (.own ds):=by rw[eD (dM hmw)] at eo;exact eo
 obtain⟨a',xs,ik,hF,h3,h4⟩:=rl.own m ds eo0
 refine w_ ke lJ kf rfl (av (pV (X:=X.bT) hN hv hd dE pins s σ H (λv' H'=>v' = .ref a'/\H'=H) (I.dm _) ⟨.ref a',ik,rfl,rfl⟩) (λv s1 ⟨v',H',I1,r1,hG,y1⟩=>?_) λ_ _ z=>b6 z)
 subst hG y1
 have se:=I1.eQ
 obtain⟨t1,t2⟩:=AE (T:="list") se r1 (.inl ⟨rfl,xs,b9.of h3⟩)
 refine⟨"list",_,Lf,a9g,a9h,t1,t2,?_⟩
 rw[hs]
 refine uI rfl (xc ?_)
 show au _ _ (eE ((false,eval e X.env)::cC cD [])) _ _ s1
 refine fw (av (he.run pins s1 σ H' F Γ se fo rl (by rw[e1];exact λz=>nomatch z)) (λu' s2 ⟨d',hJ,y,H2,f1,I2,r2,fo2,Ql,E2,i2,AF⟩=>h_ ?_) λ_ _ z=>b6 z)
 rw[e1] at f1;cases f1
 obtain⟨a2,CH,k1,k2,k3,k4⟩:=Ql.own m ds eo
 rw[ik] at k1;cases k1
 have iY:(100001:Nat)<=bR:=by rw[ju];decide
 have jk:=k4.length
 refine av (Md (X:=X.bT) pins s2 σ H2 (.ref a') [y] v [u'] (λz lK=>z = .cH/\lK=upd H2 a' (.lst (CH++[y]))) (I2.dm _) r1 (.cons r2 .nil) ⟨a',CH,y,rfl,rfl,k3,by lia,rfl,rfl⟩) (λw' s3 ⟨z,lK,I3,rz,ez,eH⟩=>?_) λ_ _ z=>b6 z
 subst ez eH
 obtain⟨lI,za⟩:=Ql.put eo ik (xs':=CH++[y]) (ds':=ds++[d]) (k4.append (ao.cons i2 ao.nil))
 refine⟨_,rfl,σ,_,F,I3.eQ,λb hb=>?_,lI,E2.trans ⟨λb o hb h=>?_,λb hb=>.inl hb⟩,rfl⟩
 ·by_cases oy:b=a'
  ·exact⟨CH++[y],by rw[oy];exact dc⟩
  ·obtain⟨ys,q⟩:=fo2 b hb
   exact⟨ys,by rw[bD oy];exact q⟩
 ·rw[bD (λz=>hb (by rw[z];exact k2))];exact h
theorem HA(ha:oA X w a u)(hb:PD X b gb)(hs:DP b:=by intro _ _;rfl):oA X w (.Subscript a b pos) (rJ w u gb):=by
 refine⟨λpins s σ H F Γ I fo rl hg=>?_⟩
 obtain⟨d,ws,e1,h1⟩:=Hz hg
 cases gz:gb (Γ.set w (.own ws)) with
 | no=>rw[gz] at h1;exact absurd rfl h1
 | er c=>rw[gz] at h1;exact absurd rfl h1
 | ok db =>
   rw[gz] at h1
   dsimp only at h1
   cases hr:aI d db with
   | no=>rw[hr] at h1;exact absurd rfl h1
   | er c=>rw[hr] at h1;exact absurd rfl h1
   | ok r =>
     have e2:rJ w u gb Γ = .ok (r,ws):=by unfold rJ;rw[e1];dsimp only;rw[gz];dsimp only;rw[hr]
     rw[e2]
     refine K1 (av (ha.run pins s σ H F Γ I fo rl (by rw[e1];exact λz=>nomatch z)) (λv s1 ⟨d',hJ,xv,H1,f1,I1,r1,eW,fq,E1,i1,hl⟩=>?_) λ_ _ z=>b6 z)
     rw[e1] at f1;cases f1
     refine av (hb.run pins s1 σ H1 F _ I1 eW fq (by rw[gz];exact λz=>nomatch z)) (λu2 s2 ⟨dy,y,H2,e4,I2,r2,S2,i2⟩=>?_) λ_ _ ⟨c,_,z,_⟩=>by rw[gz] at z;cases z
     rw[gz] at e4;cases e4
     have qr:=i1.same (g7 S2)
     have fin:∀(z:V),Is X.K (aF F H2) r z->∀(w':Value) (s':ah),EP X.bT pins σ (λz' H'=>z'=z/\H'=H2) w' s'->Qd X w pins σ H F Γ (.ok (r,ws)) w' s':=λz iz w' s' ⟨z',H',I',rz,ez,eH⟩=>by
      subst ez eH
      exact⟨r,ws,z',H',rfl,I'.eQ,rz,eW.same S2,fq.same S2,E1.trans (.of_same S2),iz,hl⟩
     cases d with
     | tup ds =>
       cases db with
       | int i =>
         obtain⟨q0,xs,rfl,ik,h2⟩:=Is.fB.mp qr
         cases q:cS ds i with
         | none=>rw[show aI (.tup ds) (.int i) = .no by simp only[aI,q]] at hr;cases hr
         | some d0 =>
           rw[show aI (.tup ds) (.int i) = .ok d0 by simp only[aI,q]] at hr
           cases hr
           obtain⟨z,ez,iz⟩:=h2.cS q
           exact av (L_ (X:=X.bT) a b pins s2 σ H2 _ y v u2 _ (I2.dm _) r1 r2 ⟨q0,xs,i,z,rfl,Is.bU.mp i2,tN (kD (F:=F)) ik,ez,rfl,rfl⟩ (hs _ _)) (λw' s' h=>fin z iz w' s' h) λ_ _ z=>b6 z
       | _=>cases hr
     | lst ds =>
       cases db with
       | int i =>
         obtain⟨q0,xs,rfl,ik,h2⟩:=Is.fm.mp qr
         cases q:cS ds i with
         | none=>rw[show aI (.lst ds) (.int i) = .no by simp only[aI,q]] at hr;cases hr
         | some d0 =>
           rw[show aI (.lst ds) (.int i) = .ok d0 by simp only[aI,q]] at hr
           cases hr
           obtain⟨z,ez,iz⟩:=h2.cS q
           exact av (L9 (X:=X.bT) a b pins s2 σ H2 _ y v u2 _ (I2.dm _) r1 r2 ⟨q0,xs,i,z,rfl,Is.bU.mp i2,(kD (F:=F)).seq ik,ez,rfl,rfl⟩ (hs _ _)) (λw' s' h=>fin z iz w' s' h) λ_ _ z=>b6 z
       | _=>cases hr
     | _=>cases hr
theorem x4r{op:Kp}{g2:D->D->R D}{cs:List Stmt}(ho:fI X (iP op) g2)(ha:oA X w a u)(hb:PD X b gb)(hm:C1 op b=false:=by rfl):PK X w (.If (.Compare a [op] [b] pos') cs [] pos) (td w (o5 g2 w u gb)):=by
 refine⟨λpins s σ H F Γ I fo rl hg=>?_⟩
 obtain⟨bv,ws,e1,h1⟩:=CG (k:=λd ws=>match d with | .bl false=>R.ok (Fl.nx (Γ.set w (.own ws))) | _=>.no) (r:=o5 g2 w u gb Γ) (by
  intro z
  refine hg ?_
  unfold td
  cases q:o5 g2 w u gb Γ with
  | no=>rfl
  | er c=>rfl
  | ok r =>
    rw[q] at z
    obtain⟨d,ws⟩:=r
    cases d with
    | bl b=>cases b with
      | true=>rfl
      | false=>cases z
    | _=>rfl)
 cases bv with
 | bl bb =>
   cases bb with
   | true=>exact absurd rfl h1
   | false =>
     have e3:td w (o5 g2 w u gb) Γ = .ok (.nx (Γ.set w (.own ws))):=by unfold td;rw[e1]
     rw[e3]
     obtain⟨d,Qm,f1,h2⟩:=Hz (show o5 g2 w u gb Γ ≠ .no by rw[e1];exact λz=>nomatch z)
     cases gz:gb (Γ.set w (.own Qm)) with
     | no=>rw[gz] at h2;exact absurd rfl h2
     | er c=>rw[gz] at h2;exact absurd rfl h2
     | ok db =>
       rw[gz] at h2
       dsimp only at h2
       cases hr:g2 d db with
       | no=>rw[hr] at h2;exact absurd rfl h2
       | er c=>rw[hr] at h2;exact absurd rfl h2
       | ok r =>
         have e2:o5 g2 w u gb Γ = .ok (r,Qm):=by unfold o5;rw[f1];dsimp only;rw[gz];dsimp only;rw[hr]
         rw[e2] at e1
         cases e1
         refine Lc (a8y (av (ha.run pins s σ H F Γ I fo rl (by rw[f1];exact λz=>nomatch z)) (λv s1 ⟨d',hJ,xv,H1,f2,I1,r1,eW,fq,E1,i1,hl⟩=>?_) λ_ _ z=>b6 z) hm)
         rw[f1] at f2;cases f2
         refine av (hb.run pins s1 σ H1 F _ I1 eW fq (by rw[gz];exact λz=>nomatch z)) (λu2 s2 ⟨dy,y,H2,e4,I2,r2,S2,i2⟩=>?_) λ_ _ ⟨c,_,z,_⟩=>by rw[gz] at z;cases z
         rw[gz] at e4;cases e4
         refine av (ho.run (E:=λ_ _=>False) I2 r1 r2 ((i1.same (g7 S2)).same (kD (F:=F))) i2 (by rw[hr];exact λz=>nomatch z)) (λz s3 h3=>?_) λ_ _ z=>b6 z
         obtain⟨bd,bv,H3,e5,I3,r3,S3,i3⟩:=h3
         rw[hr] at e5;cases e5
         rw[Is.gv.mp i3] at r3
         cases (show z=CZ false from r3)
         refine wX ?_
         refine pP ?_
         exact⟨_,rfl,σ,H3,F,I3,(eW.same S2).same S3,(fq.same S2).same S3,(E1.trans (.of_same S2)).trans (.of_same S3),rfl⟩
 | _=>exact absurd rfl h1
theorem x4v{k:Nat}{f:Addr}{fd:cG}{ps:List Str}{φ:List D->R D}(Fn:eN X.prog X.w X.K X.mg X.base k f fd ps φ)(hr:eh k X.A)(hm:X.mg x=some (.ref f))(he:oA X w e u)(hg:Gl X x:=by rfl)(g_:(x==("__debug__":Str))=false:=by decide)
 (hs:aV [e] X.env=(false,eval e X.env)::aV [] X.env:=by rfl) (gJ:(cC pos (aV [] X.env)).any (·.1)=false:=by rfl):oA X w (.Call (.Name x p) [e] [] pos) (vc φ u):=by
 refine⟨λpins s σ H F Γ I fo rl bZ=>?_⟩
 obtain⟨d,ws,e1,h1⟩:=Hz bZ
 cases qm:φ [d] with
 | no=>rw[qm] at h1;exact absurd rfl h1
 | er c=>rw[qm] at h1;exact absurd rfl h1
 | ok r =>
   have e2:vc φ u Γ = .ok (r,ws):=by unfold vc;rw[e1];dsimp only;rw[qm]
   rw[e2]
   refine l8 (oP I hg hm ?_ g_)
   refine Ad (h₀:=X.base) I.ok.mod.pS Fn.kp ?_ hs gJ
   rw[hs]
   show au _ _ (eE ((false,eval e X.env)::cC pos [])) _ _ s
   refine fw (av (he.run pins s σ H F Γ I fo rl (by rw[e1];exact λz=>nomatch z)) (λv s1 ⟨d',hJ,xv,H1,f1,I1,r1,eW,fq,E1,i1,hl⟩=>h_ ⟨I1.fS,?_⟩) λ_ _ z=>b6 z)
   rw[e1] at f1;cases f1
   refine av (w7d Fn hr (EE:=λ_ _=>False) I1 eW (.cons r1 .nil) (ao.cons i1 ao.nil) qm) (λu2 s2 ⟨v2,H2,I2,r2,S2,i2⟩=>?_) λ_ _ z=>z
   exact⟨r,ws,v2,H2,rfl,I2,r2,eW.same S2,fq.same S2,E1.trans (.of_same S2),i2,hl⟩
end
section
variable {X:Cx}{y x:Str}{scope:dA}{u:G->R (D×List D)}{w:Nat}
theorem y8v(j:Nat){elt iter:Expr}{px pos pos' apos:Pos}{ifs:List Expr}{f:D->G->R (Option D)}(hi:oA X w iter u)(hp:y4 X y scope ifs elt f)(hN:X.N.Nodup)(fh:X.calm=true)(zv:j≠w:=by decide)
 (GX:X.N[j]? = some x:=by rfl) (hx:Loc X.env.scope x:=by first | exact fR rfl | exact dX rfl) (ox:pQ (.ListComp elt [⟨.Name y px,iter,ifs,0⟩] scope pos) (some (.Name x pos')) apos.line X.env=pure true:=by rfl) (hf:X.fn x=true∨X.env.scope.names.lookup x=some .local:=by first | exact .inl rfl | exact .inr rfl | assumption)
 (oq:tW X.N X.env y scope=true:=by rfl) (lH:w9 scope X.env=pure (cI X.env scope.names []):=by rfl) (hs:∀x,uF iter X.env x=pure x:=by intro _;rfl) :
 PK X w (.Assign [.Name x pos'] (.ListComp elt [⟨.Name y px,iter,ifs,0⟩] scope pos) apos) (tf j w u f):=by
 refine⟨λpins s σ H F Γ I fo rl hg=>?_⟩
 obtain⟨items,ws,total,e1,hl,et,e2⟩:=WG hg
 rw[e2]
 have c:=y0 oq
 rw[a9f _ _ _ _ ox]
 refine aH (Dr (aH ?_))
 show au _ X.A (do let _ <-Le (.ListComp elt [⟨.Name y px,iter,ifs,0⟩] scope pos) scope X.env _ (Af []) false (eval iter X.env) (some (lX (.Name x pos') X.env))) _ _ s
 refine aH (av (Dp (use:=some (lX (.Name x pos') X.env)) (Q:=λ_ s'=>wa X pins H F (.ok (.nx ((Γ.set w (.own ws)).set j (.own total)))) (λaE=>aE[w]? = σ[w]?) .next s') rfl hs lH c.kind c.names
  (av (hi.run pins s σ H F Γ I fo rl (by rw[e1];exact λz=>nomatch z)) (λxv cq ⟨d',hJ,v0,H1,f1,I1,r1,eW,fq,E1,i1,hw⟩=>?_) λ_ _ z=>b6 z)) (λ_ s' hq=>bS (bS hq)) λ_ _ e=>e)
 rw[e1] at f1;cases f1
 obtain⟨q0,xs0,rfl,ik,h2⟩:=Is.fm.mp i1
 cases (show xv=ft q0 from r1)
 refine Gw (tg:=.Name y px) I1 ((kD (F:=F)).seq ik) λit aq I2 T t0 fk=>?_
 refine GI (RR:=λacc C=>Dq (aB X.prog X.w) X.A _ (some (lX (.Name x pos') X.env)) _ acc C) (λC ps s x H d J _ fo rl e=>hp.run C aq H1 _ (X.pn++pins) ps s _ H F _ d J fo rl e) c hN fh I2 eW fq T t0 fk (OZ ((kD (F:=F)).seq ik) h2) et hl ?_
 intro Dd C xs H' m s' hC dh hn gX iK hD S' ia I' ot
 have gR:∀{b:Addr} {o:Obj},aq.heap.get? b=some o->b≠C:=λe=>dS (cW (bH e) hC)
 have S3:=gP gX (.lst xs)
 have y8:ao X.K (aF (Dd::F) (upd H' Dd (.lst xs))) total xs:=ia.same λb o hb=>by
  obtain⟨z1,z2⟩:=iF hb
  have fJ:b≠Dd:=gI z2 gX
  rw[da λz=>(List.mem_cons.mp z).elim fJ z1,bD fJ]
  exact z2
 have S4:aO H1 (upd H' Dd (.lst xs)):=S'.trans S3
 show au _ X.A (lX (.Name x pos') X.env (.ref Dd)) _ _ s'
 refine Sd (DE (v:=.ref Dd) I' hN GX hx rfl (λs3 I3 ud=>?_) hf)
 obtain⟨aa,ud,GU⟩:=ud
 have GV:aa≠C:=by
  rcases GU with z | z
  ·subst z;exact dS (cW I2.lt hC)
  ·obtain⟨v,o,ho,_⟩:=I2.cell x aa z;exact gR ho
 refine⟨m,ot.sameBut ud (dM GV),λjl jM=>?_⟩
 have I4:Inv X pins (σ.set j (some (.ref Dd))) (upd H' Dd (.lst xs)) { s3 with heap:=jl }:=I3.turned (t':=s3.toks) (it:=C) (λb o hb e=>jM.extBut b o hb e) (by rw[bD (dM dh)];exact iK) (nc (cW I2.lt hC)) (.inr (dD I2.sz hC))
  (λx k e=>by obtain⟨v,o,ho,_⟩:=I2.cell x k e;exact gR ho) (λp bG=>gR (I2.pin p bG).1)
 exact⟨_,rfl,_,_,Dd::F,I4,(eW.same S4).cons dc,fq.set_own eW S4 hn dc y8,E1.trans ⟨λb o _ h=>S4 _ _ h,λb hb=>(List.mem_cons.mp hb).elim (λz=>.inr (z ▸ hn)) .inl⟩,eD zv⟩
end
section
variable {prog:aQ}{w:aN}{A:Around}{E:Value->ah->Prop}{s:ah}
def jq(prog:aQ)(w:aN)(led:Bool)(h:Heap)(a:Addr)(S:Str->Bool)(n:Nat):Prop :=
 ∃(o:Obj) (es:Array (Int×Value)) (ep:Nat) (t:l9),(h.get? a=some o/\o.ExactSet/\o.data = .set es ep t)/\(Ls (strKind prog w) es.toList/\∀k,S k=true↔∃e∈es.toList,(strKind prog w).is k e.2=true)/\(es.size<rd/\t.fits es.size=true/\es.size=n)/\gG led t
theorem jq.Qn{led:Bool}{h h':Heap}{a:Addr}{S:Str->Bool}{n:Nat}(x:jq prog w led h a S n)(e:∀o,h.get? a=some o->h'.get? a=some o):jq prog w led h' a S n:=by
 obtain⟨o,es,ep,t,⟨q1,q2,q3⟩,rest⟩:=x
 exact⟨o,es,ep,t,⟨e o q1,q2,q3⟩,rest⟩
theorem jq.Qo{led:Bool}{h:Heap}{a:Addr}{S S':Str->Bool}{n n':Nat}(x:jq prog w led h a S n)(e:∀k,S k=S' k)(en:n=n'):jq prog w led h a S' n':=by
 have:S=S':=funext e
 subst this en
 exact x
theorem Qp{led:Bool}{h:Heap}{a:Addr}{o:Obj}{es cJ:Array (Int×Value)}{ep:Nat}{t t':l9}{S':Str->Bool}(q1:h.get? a=some o)(q2:o.ExactSet)(q3:o.data = .set es ep t)
 (q4:Ls (strKind prog w) cJ.toList) (q5:∀k,S' k=true↔∃e∈cJ.toList,(strKind prog w).is k e.2=true) (q6:cJ.size<rd) (q7:t'.fits cJ.size=true) (q8:gG led t') :
 (h.update a (TU cJ t')).get? a=some { o with data:=.set cJ (ep+1) t' }/\jq prog w led (h.update a (TU cJ t')) a S' cJ.size:=by
 have g:=(SetOf_store (knd:=strKind prog w) q1 q2 q3 q4 q5 q6 q7).1
 exact⟨g,_,cJ,ep+1,t',⟨g,q2,rfl⟩,⟨q4,q5⟩,⟨q6,q7,rfl⟩,q8⟩
theorem Qq{led:Bool}{g:Bool->Sem Unit}(hg:∀(b:Bool) (s1:ah) (Q1:Unit->ah->Prop),Q1 () s1->au (aB prog w) A (g b) Q1 E s1)
 {a:Addr} {o:Obj} {es d_:Array (Int×Value)} {ep:Nat} {t t2:l9} {S':Str->Bool} {pk:Bool} {Z:Option Bool->ah->Prop} (q1:s.heap.get? a=some o) (q2:o.ExactSet) (q3:o.data = .set es ep t)
 (q4:Ls (strKind prog w) d_.toList) (q5:∀k,S' k=true↔∃e∈d_.toList,(strKind prog w).is k e.2=true) (q6:d_.size<rd) (q7:t2.fits d_.size=true) (q8:gG led t2)
 (z:∀h',uq a s.heap h'->jq prog w led h' a S' d_.size->Z (some true) { s with heap:=h' }) :
 au (aB prog w) A (do
  storeSet a d_ t2
  if (!pk&&t2.tooFull)=true then do
      g (Ak t2 d_ (xl d_.size)).2.2
      storeSet a (Ak t2 d_ (xl d_.size)).1 (Ak t2 d_ (xl d_.size)).2.1
      pure (some true)
   else pure (some true)) Z E s:=by
 refine aH (b0h q1 q3 ?_ (b0i q6))
 obtain⟨u1,u2⟩:=Qp (prog:=prog) (w:=w) q1 q2 q3 q4 q5 q6 q7 q8
 have sb:=b0j s.heap a (TU d_ t2)
 by_cases full:(!pk&&t2.tooFull)=true
 ·rw[if_pos full]
  have v1:=relayAll_perm t2 d_ (xl d_.size)
  have v2:=relayAll_fits t2 d_ (xl d_.size)
  have v3:=q8.a0q d_ (xl d_.size)
  generalize Ak t2 d_ (xl d_.size)=W at v1 v2 v3 ⊢
  obtain⟨vY,t3,gave⟩:=W
  dsimp only at v1 v2 v3 ⊢
  have v4:vY.size=d_.size:=by rw[<-qR,v1.length_eq,qR]
  have v5:vY.size<rd:=by lia
  refine aH (hg _ _ _ ?_)
  refine aH (b0h u1 rfl ?_ (b0i v5))
  obtain⟨_,u3⟩:=Qp (prog:=prog) (w:=w) (S':=S') u1 q2 rfl (q4.perm v1) (λk=>(q5 k).trans ⟨λ⟨e,he,q⟩=>⟨e,v1.mem_iff.mpr he,q⟩,λ⟨e,he,q⟩=>⟨e,v1.mem_iff.mp he,q⟩⟩) v5 v2 v3
  rw[v4] at u3
  exact bS (z _ (sb.trans (b0j _ a _)) u3)
 ·rw[if_neg full]
  exact bS (z _ sb u2)
theorem a0z{led:Bool}{a:Addr}{S:Str->Bool}{n:Nat}{k:Str}{x:Value}{Q:Bool->ah->Prop}(hx:(strKind prog w).is k x=true)(HB:x.scannable=true)(hS:jq prog w led s.heap a S n)(room:n+1<rd)
 (z:∀h',uq a s.heap h'->jq prog w led h' a (λk'=>S k'||decide (k'=k)) (if S k then n else n+1)->Q (!S k) { s with heap:=h' }) :
 au (aB prog w) A (setAddHashed a x ((strKind prog w).hash k)) Q E s:=by
 obtain⟨o,es,ep,t,⟨q1,q2,q3⟩,⟨q4,q5⟩,⟨q6,q7,q9⟩,q8⟩:=hS
 have more:es.size+1<rd:=by lia
 unfold setAddHashed setAddHashedIn
 refine l0 (aH (wpAny_setState_of q1 q3 q7 ?_))
 dsimp only
 rw[byScan_of HB q6 q4]
 simp only[↓reduceIte]
 unfold setAddByScan
 refine aH (aH (Lh (aH (wpAny_setScan_of hx q1 q3 q7 q4 ?_))))
 cases hr:List.findIdx? (λe=>(strKind prog w).is k e.2) es.toList with
 | some j =>
   dsimp only
   obtain⟨j1,j2,_⟩:=List.findIdx?_eq_some_iff_getElem.mp hr
   have sk:S k=true:=(q5 k).mpr ⟨es.toList[j],pK j1,j2⟩
   refine bS (bS ?_)
   have e:s={ s with heap:=s.heap }:=by cases s;rfl
   have y:=z s.heap (Heap.SameBut.refl a s.heap) ⟨o,es,ep,t,⟨q1,q2,q3⟩,⟨q4,λk'=>by
    rw[wW,decide_eq_true_eq,<-q5 k']
    exact⟨λhk=>hk.elim id (λe=>e ▸ sk),.inl⟩⟩,⟨q6,q7,by rw[sk];exact q9⟩,q8⟩
   rw[sk] at y
   rw[e];exact y
 | none =>
   dsimp only
   have sk:S k=false:=by
    cases hk:S k with
    | false=>rfl
    | true =>
      obtain⟨e,he,hp⟩:=(q5 k).mp hk
      have:=List.findIdx?_eq_none_iff.mp hr e he
      rw[hp] at this;cases this
   have v1:=layNew_perm t es ((strKind prog w).hash k) x
   have v2:=layNew_fits t es ((strKind prog w).hash k) x
   have v3:=q8.a0p es ((strKind prog w).hash k) x
   generalize layNew t es ((strKind prog w).hash k) x=W at v1 v2 v3 ⊢
   obtain⟨d_,t1,pk,gave⟩:=W
   dsimp only at v1 v2 v3 ⊢
   rw[Array.toList_push] at v1
   have a1a:d_.size=n+1:=by rw[<-qR,v1.length_eq,dW,qR,q9];rfl
   have u4:Ls (strKind prog w) d_.toList:=(q4.push hx HB).perm v1
   have u5:∀k',(S k'||decide (k'=k))=true↔∃e∈d_.toList,(strKind prog w).is k' e.2=true:=mem_push_iff hx q5 v1
   have u6:d_.size<rd:=by lia
   have gw:∀(b:Bool) (s1:ah) (Q1:Unit->ah->Prop),Q1 () s1->au (aB prog w) A (match b with | true=>rule "set.scan.the-table-gave-way" | false=>pure ()) Q1 E s1:=λb s1 Q1 hq=>by
    cases b
    ·exact bS hq
    ·exact Lh hq
   have fin:∀h',uq a s.heap h'->jq prog w led h' a (λk'=>S k'||decide (k'=k)) d_.size->Q true { s with heap:=h' }:=λh' sb y=>by
    have y2:=z h' sb
    rw[sk] at y2
    rw[a1a] at y
    exact y2 y
   refine aH (gw _ _ _ ?_)
   by_cases pl:t1.plain=true
   ·rw[if_pos pl]
    refine aH ?_
    rw[hashByValue_scannable 8 HB]
    refine bS ?_
    have v2':(if plainKind x=true then t1 else { t1 with plain:=false }).fits d_.size=true:=by
     split
     ·exact v2
     ·exact SetTable.fits_plain_off v2
    have v3':gG led (if plainKind x=true then t1 else { t1 with plain:=false }):=by
     split
     ·exact v3
     ·exact v3.a0r
    refine Qq gw q1 q2 q3 u4 u5 u6 v2' v3' ?_
    intro h' sb y
    exact bS (fin h' sb y)
   ·rw[if_neg pl]
    refine aH (bS ?_)
    simp only[↓reduceIte]
    refine Qq gw q1 q2 q3 u4 u5 u6 v2 v3 ?_
    intro h' sb y
    exact bS (fin h' sb y)
theorem Qr:∀(xs:List Str),(fA xs).length<=xs.length:=λxs=>by
 induction h:xs.length generalizing xs with
 | zero=>rw[List.length_eq_zero_iff.mp h];exact a7 _
 | succ n ih =>
   have hd:xs≠[]:=λz=>by rw[z] at h;cases h
   rw[<-List.dropLast_concat_getLast hd,Eu]
   have:=ih xs.dropLast (by rw[a8g];lia)
   split
   ·lia
   ·rw[cx];lia
theorem x7w{led:Bool}{Z:pB->ah->Prop}{I:Addr}{fp wr:List Addr}{G:Array zR->Array zR->Prop}{P:Nat->Value->Prop}{St:Nat->ah->Prop}{ks:List Str}(W:WalksS prog w A.in1 I fp wr G ks.length P St)(a:Addr)(ha:a ∉ fp)
 (a1b:∀i v,P i v->∃k t,ks[i]? = some k/\v = .str k t) (hb:ks.length+1<rd) :
 ∀(k i:Nat) (s:ah),ks.length-i=k->i<=ks.length->St i s->jq prog w led s.heap a (λk'=>(fA (ks.take i)).any (·==k')) (fA (ks.take i)).length ->
  (∀s',Moved (a::wr) G s s'->jq prog w led s'.heap a (λk'=>(fA ks).any (·==k')) (fA ks).length->Z (.ok (.ret .none)) s') ->
  iQ (aB prog w) A (.builtin "set.update.loop" ⟨[.ref a,.ref I],[]⟩) Z s:=by
 have aw:a ∉ wr:=λh=>ha (W.sub _ h)
 have Qs:∀b∈wr,b∈a::wr:=λb hb=>dJ _ hb
 intro k
 induction k with
 | zero =>
   intro i s hk hi st hS hZ
   obtain rfl:i=ks.length:=by lia
   rw[wN] at hS
   refine Dt b0k ?_
   rw[TN TV _]
   show au _ A.in1 (sq (.ref I)>>=_) _ _ s
   refine aH (W.done s _ _ st λs' mv=>?_)
   exact bS (hZ s' (mv.mono Qs) (hS.Qn λo e=>mv.heap a o aw e))
 | succ k ih =>
   intro i s hk hi st hS hZ
   have lt:i<ks.length:=by lia
   refine Dt b0k ?_
   rw[TN TV _]
   show au _ A.in1 (sq (.ref I)>>=_) _ _ s
   refine aH (W.item i s _ _ lt st λv s' hP ib mv=>?_)
   obtain⟨kk,t,hki,rfl⟩:=a1b i v hP
   have zC:=hS.Qn λo e=>mv.heap a o aw e
   show au _ A.in1 (Aa [zQ kk t] (setAdd a (.str kk t))>>=_) _ _ s'
   refine aH (l0 ?_)
   unfold setAdd
   refine l0 (aH ((strKind prog w).pyHash (k:=kk) (strKind_is _ _ _ _) ?_))
   refine a0z (s:={ s' with toks:=s'.toks+1 }) (strKind_is _ _ _ _) rfl zC (by have:=Qr (ks.take i);rw[oG] at this;lia) λh' sb y=>?_
   have y':jq prog w led h' a (λk'=>(fA (ks.take (i+1))).any (·==k')) (fA (ks.take (i+1))).length:=by
    have et:ks.take (i+1)=ks.take i++[kk]:=by rw[KU,hki,Option.toList_some]
    have HC:∀(l:List Str) (k':Str),(l.any (·==k'))=decide (k'∈l):=λl k'=>by
     rw[b0l]
     simp
    refine y.Qo (λk'=>?_) ?_
    ·rw[et,Eu,HC,HC]
     by_cases z:kk∈fA (ks.take i)
     ·rw[if_pos z]
      by_cases z2:k'=kk
      ·subst z2;simp[z]
      ·simp[z2]
     ·rw[if_neg z,b0l]
      simp[or_comm]
    ·rw[et,Eu,HC]
     by_cases z:kk∈fA (ks.take i)
     ·rw[if_pos z];simp[z]
     ·rw[if_neg z];simp[z]
   refine bS ⟨TM TV _,ih (i+1) _ (by lia) lt (W.frame _ s' _ _ ib (TX _) λb hb o e=>?_) y' λxu mv' y''=>?_⟩
   ·rw[sb.2 b (λz:b=a=>ha (by rw[<-z];exact hb))];exact e
   ·refine hZ xu (Moved.trans W.gtrans ((mv.mono Qs).then_heap (TX _) λb o hb e=>?_) mv') y''
    rw[sb.2 b (λz:b=a=>hb (by rw[z];exact fi))];exact e
theorem w6p{led:Bool}{h:Heap}{a:Addr}(e:h.get? a=some { cls:=.type "set",dict:=none,data:=.set #[] 0 (.fresh 0 0 led) }):jq prog w led h a (λ_=>false) 0 :=
 ⟨_,#[],0,_,⟨e,⟨rfl,rfl,rfl⟩,rfl⟩,⟨λe he=>by simp at he,λk=>by simp⟩,⟨by decide,by rfl,rfl⟩,⟨rfl,rfl,λ_=>.nil⟩⟩
theorem w0i{l:Addr}{lt:List (Str×Tok)}{Q:Value->ah->Prop}(hh:A.handled=none)(hl:s.heap.IsList l (jQ lt).toArray)(hb:lt.length+1<rd)
 (q:∀(h':Heap) (tk:Nat),jq prog w (kh w) h' s.heap.objs.size (λk'=>(fA (lt.map (·.1))).any (·==k')) (fA (lt.map (·.1))).length ->
   (∀b o,b<s.heap.objs.size->s.heap.get? b=some o->h'.get? b=some o)->Q (.ref s.heap.objs.size) { s with heap:=h',toks:=tk }) :
 au (aB prog w) A (call (.type "set") [.ref l]) Q E s:=by
 obtain⟨c,tl,Pn⟩:=F.called_set.mro
 have b1p:=F.called_set.made;have a0t:=F.called_set.sub
 refine Ac (a9x (show au _ _ (callAny (.type "set") _) _ _ _ from ?_))
 refine bS ⟨a9n _ (by decide +kernel),Dt F.entry_type_call ?_⟩;rw[Around.under_plain (weight_type_call_type "set" [.ref l] []) rfl]
 have h1:=F.called_set.notType;have h2:=F.called_set.canCreate;have hct:=F.typeCall_set_1 (.ref l)
 (repeat (any_goals (first | assumption | wp_step)))
 refine qW (a0s (.ref l) (E:=E) (Q1:=λobj s1=>obj = .ref s.heap.objs.size/\s1={ s with heap:=s.heap.push { cls:=.type "set",dict:=none,data:=.set #[] 0 (.fresh 0 0 (kh w)) } }) ⟨rfl,rfl⟩) λr s1 hr=>?_
 cases r with
 | error e=>exact hr
 | ok fl =>
   cases fl with
   | ret obj =>
     obtain⟨rfl,rfl⟩:=hr
     have hS:(s.heap.push { cls:=.type "set",dict:=none,data:=.set #[] 0 (.fresh 0 0 (kh w)) }).get? s.heap.objs.size=some { cls:=.type "set",dict:=none,data:=.set #[] 0 (.fresh 0 0 (kh w)) }:=fu _ rfl
     have hT:Shared.TypeIs { s with heap:=s.heap.push { cls:=.type "set",dict:=none,data:=.set #[] 0 (.fresh 0 0 (kh w)) } } (.ref s.heap.objs.size) "set":=⟨_,hS,rfl⟩
     have hli:=F.called_set.init.lookup;have hbi:=F.called_set.init.bind (.ref s.heap.objs.size)
     (repeat (any_goals (first | assumption | wp_step)))
     refine qW (Tv (R:=wants (λr s2=>r = .none/\∃h' tk,s2={ s with heap:=h',toks:=tk } /\
      jq prog w (kh w) h' s.heap.objs.size (λk'=>(fA (lt.map (·.1))).any (·==k')) (fA (lt.map (·.1))).length /\
      (∀b o,b<s.heap.objs.size->s.heap.get? b=some o->h'.get? b=some o)) E) F.called_set.init.plain F.entry_set_init (check_set_init_1 hT ?_)) λr2 s2 Cz=>?_
     ·obtain⟨⟨b1q,a1c,b1r,a1d⟩,Qt,Cw,nl,Qu⟩:=hl
      simp only at Cw Qu
      subst Cw Qu
      have a1e:(s.heap.push { cls:=.type "set",dict:=none,data:=.set #[] 0 (.fresh 0 0 (kh w)) }).get? l=some { cls:=.type "list",dict:=a1c,data:=.seq (jQ lt).toArray nl,slots:=a1d }:=cX _ Qt
      have b1s:=F.sub_list_set;have b1t:=F.sub_list_frozenset
      have aS:(wD "list"==wD "dict")=false:=by decide
      have wc:(s.heap.push { cls:=.type "set",dict:=none,data:=.set #[] 0 (.fresh 0 0 (kh w)) }).IsList l (jQ lt).toArray:=⟨_,a1e,rfl,nl,rfl⟩
      unfold Builtin.«set.__init__» noKeywords Builtin.Frozenset.updateFrom;generalize hPI:qS=PI
      wp_walk
      subst hPI
      refine K3 wc (aH (wpAny_runValue ?_))
      have Qv:l<s.heap.objs.size:=bH Qt
      have hh3:A.in1.in1.in1.handled=none:=by simp[hh]
      have hnI:l≠(s.heap.push { cls:=.type "set",dict:=none,data:=.set #[] 0 (.fresh 0 0 (kh w)) }).objs.size:=by rw[uE];exact dS (b0m Qv)
      have we:s.heap.objs.size ∉ [(s.heap.push { cls:=.type "set",dict:=none,data:=.set #[] 0 (.fresh 0 0 (kh w)) }).objs.size,l]:=by
       rw[uE];simp only[kP,KD,oM,or_false,not_or];exact⟨dS (wV _),nc Qv⟩
      have W:=(To (prog:=prog) (w:=w) hh3 _ l hnI (jQ lt).toArray).toS
      have jA:(jQ lt).toArray.size=(lt.map (·.1)).length:=by unfold jQ;simp
      rw[jA] at W
      refine x7w (led:=kh w) W s.heap.objs.size we (λi v hv=>?_) (by rw[a6];exact hb) ((lt.map (·.1)).length-0) 0 _ (by lia) (ni _) ⟨⟨_,fu _ rfl,rfl,rfl⟩,(wc.push _)⟩ ?_ ?_
      ·have hv':lt[i]?.map (λp=>zQ p.1 p.2)=some v:=by
        have:(jQ lt)[i]? = some v:=by simpa using hv
        unfold jQ at this
        rw[eZ] at this;exact this
       obtain⟨p,hp,rfl⟩:=Option.map_eq_some_iff.mp hv'
       exact⟨p.1,p.2,by rw[eZ,hp];rfl,rfl⟩
      ·have hg:((s.heap.push { cls:=.type "set",dict:=none,data:=.set #[] 0 (.fresh 0 0 (kh w)) }).push { cls:=.type "list_iterator",data:=.fields #[.ref l,.int 0 0] }).get? s.heap.objs.size=some { cls:=.type "set",dict:=none,data:=.set #[] 0 (.fresh 0 0 (kh w)) }:=cX _ hS
       exact(w6p hg).Qo (λ_=>rfl) rfl
      ·intro s' mv y
       obtain⟨h',g',d',tk',nB⟩:=s'
       obtain rfl:g'=s.gens:=mv.gens
       obtain rfl:d'=s.drawn:=mv.drawn
       obtain rfl:nB=s.os:=mv.os
       show au _ _ _ _ _ _
       refine bS (show au _ _ (ret qQ) _ _ _ from bS ⟨rfl,h',tk',rfl,y,λb o hb e=>?_⟩)
       have b1:b≠s.heap.objs.size:=dS hb
       have b2:b≠(s.heap.push { cls:=.type "set",dict:=none,data:=.set #[] 0 (.fresh 0 0 (kh w)) }).objs.size:=by rw[uE];exact dS (b0m hb)
       exact mv.heap b o (by simp only[kP,KD,oM,or_false,not_or];exact⟨b1,b2⟩) (cX _ (cX _ e))
     ·cases r2 with
      | error e=>exact Cz
      | ok zm =>
        cases zm with
        | ret r =>
          obtain⟨rfl,h',tk,rfl,y,keep⟩:=Cz
          (repeat (any_goals (first | assumption | wp_step)))
          exact q _ _ y keep
        | _=>exact Cz.elim
   | _=>exact hr.elim
end
section
variable {X:Cx}{a b:Expr}{ga gb:G->R D}{p p2 pos pos':Pos}
theorem x8s(ha:PD X a ga)(hm1:X.mg "len"=none)(hm2:X.mg "set"=none)(fh:X.calm=true)(aJ:Gl X "len":=by rfl)(dt:Gl X "set":=by rfl)
 (zA:aV [.Call (.Name "set" p2) [a] [] pos'] X.env=[(false,eval (.Call (.Name "set" p2) [a] [] pos') X.env)]:=by rfl) (r_:aV [a] X.env=[(false,eval a X.env)]:=by rfl) :
 PD X (.Call (.Name "len" p) [.Call (.Name "set" p2) [a] [] pos'] [] pos) (Bd ga):=by
 refine⟨λpins s σ H F Γ I fo rl bZ=>?_⟩
 refine l8 (iA I aJ hm1 (show lU (iR "len")=some (.builtin "len") by decide +kernel) (K2 ?_ zA rfl))
 rw[zA]
 show au _ _ (eE ((false,eval (.Call (.Name "set" p2) [a] [] pos') X.env)::cC pos [])) _ _ s
 refine fw ?_
 refine l8 (iA I dt hm2 w0j (pM ?_ r_ rfl))
 rw[r_]
 show au _ _ (eE ((false,eval a X.env)::cC pos' [])) _ _ s
 refine fw (av (ha.run pins s σ H F Γ I fo rl (R.left bZ)) (λu s1 ⟨d,v,H1,e1,I1,r1,S1,i1⟩=>h_ ?_) λ_ _ x=>x.bind _)
 have HD:=R.next bZ e1
 cases d with
 | lst ds =>
   cases q:strs? ds with
   | none=>exact absurd (show(match strs? ds with | some xs=>R.guard (xs.length<=1000) (R.ok (D.int (fA xs).length)) | none=>R.no) = .no by rw[q]) HD
   | some xs =>
     have lO:R.guard (xs.length<=1000) (R.ok (D.int (fA xs).length)) ≠ .no:=by
      have h:=HD
      dsimp only at h
      rw[q] at h;exact h
     obtain⟨aK,e3⟩:=R.cT lO
     obtain rfl:=Bb q
     obtain⟨l,vs,rfl,h1,h2⟩:=Is.fm.mp i1
     cases (show u=ft l from r1)
     obtain⟨its,rv,pl,hz⟩:=I1.list h1
     obtain⟨lt,rfl,cw⟩:=CC h2 rv
     have hh:X.A.handled=none:=I1.ok.hd fh
     have Qa:lt.length=xs.length:=by rw[<-cw,a6]
     refine w0i (s:=s1) hh pl.isList (by unfold rd;lia) λh' tk y keep=>h_ ?_
     obtain⟨o,es,ep,t,⟨w1,w2,w3⟩,_,⟨w6,w7,w8⟩,_⟩:=y
     rw[cw] at w8
     have hml:=Qr xs
     refine call_len_set (s:={ s1 with heap:=h',toks:=tk }) w1 w2 w3 w7 (by rw[w8];lia) ?_
     have a1f:∀b o,s1.heap.get? b=some o->h'.get? b=some o:=λb o e=>keep b o (bH e) e
     refine⟨.int (fA xs).length,.int (fA xs).length,H1,(R.step e1 _).trans ?_,I1.kept a1f,?_,S1,Is.bU.mpr rfl⟩
     ·show(match strs? (xs.map D.str) with | some xs=>R.guard (xs.length<=1000) (R.ok (D.int (fA xs).length)) | none=>R.no)=_
      rw[q];exact e3
     ·rw[w8];exact⟨_,rfl⟩
 | _=>exact absurd rfl HD
theorem Qw(hu:X.A.units+64<lZ):fI X (iP .NotIn) z9n:=by
 refine⟨λx y H Q=>∃dx ys,Is X.K H dx x/\Is X.K H (.tup ys) y/\D.lay 40 dx=true/\D.lay 40 (.tup ys)=true/\Q (.bl (!(ys.any λy=>cz y dx))) H,?_,λH x y dx dy ix iy hg=>?_⟩
 ·intro pins s σ H x y v u Q I rx ry h
  obtain⟨dx,ys,ix,iy,l1,l2,q⟩:=h
  obtain⟨as,ra⟩:=tQ I 40 dx x v l1 ix rx
  obtain⟨bs,rb⟩:=tQ I 40 (.tup ys) y u l2 iy ry
  have p1:=tP 40 dx l1
  have p2:=tP 40 (.tup ys) l2
  have ey:D.py (.tup ys) = .tuple (D.f_ ys):=by simp[D.py]
  rw[ey] at rb p2
  have c2:KZ (D.f_ ys)=true:=by simpa [wY] using p2.1
  have OQ:X.A.units+64<lZ:=hu
  refine y9c (PySem.SeqAt.in_tuple_reads rb ra c2 p1.1 (show X.A.units+1+min (K0 (D.f_ ys)) dx.py.depth<lZ by lia) ⟨_,rfl,.bl (!(ys.any λy=>cz y dx)),H,I,?_,q⟩)
  rw[PS];rfl
 ·cases dy with
  | tup ys =>
    obtain⟨⟨l1,l2⟩,e⟩:=R.cT (show R.guard (D.lay 40 dx=true/\D.lay 40 (.tup ys)=true) (R.ok (D.bl (!(ys.any λy=>cz y dx)))) ≠ .no from hg)
    exact⟨dx,ys,ix,iy,l1,l2,.bl (!(ys.any λy=>cz y dx)),e,.refl _,Is.gv.mpr rfl⟩
  | _=>exact absurd rfl hg
end
theorem x5l:C3 (.type "list_reverseiterator") "__len__"=pure none:=by rw[xi,xj];kernel_rfl
theorem x9s:C3 (.type "list_reverseiterator") "__length_hint__"=pure (some (.builtin "list_reverseiterator.__length_hint__")):=by rw[xi,xj];kernel_rfl
section
variable {prog:aQ}{w:aN}{A:Around}{E:Value->ah->Prop}{s:ah}{R:pB->ah->Prop}{I:Addr}{fp wr:List Addr}{G:Array zR->Array zR->Prop}{n:Nat}{P:Nat->Value->Prop}{St:Nat->ah->Prop}
theorem w4a(W:WalksS prog w A.in1 I fp wr G n P St)(hT:∀i s,St i s->s.TypeIs (.ref I) "list_reverseiterator")(S:Addr)(res:Value)(c₀:Nat)(oQ:St 0 s)(we:S ∉ fp)(hI:I∈fp)(hS:s.heap.get? S=some { cls:=.type "list",data:=.seq #[] c₀ })
 (hR:∀s' jr c',Moved (S::wr) G s s'->s'.heap.get? S=some { cls:=.type "list",dict:=none,data:=.seq jr c',slots:=#[] }->ItemsOf P jr n->R (.ok (.ret res)) s') (hn:n<=bR) :
 au (aB prog w) A.in1 (Lu (.ref S) (.ref I) res)
  (λfin s'=>match fin with | .done f=>R (.ok f) s' | .again c'=>c'.quiet=true/\iQ (aB prog w) A c' R s') (λe s'=>R (.error e) s') s:=by
 have hSI:S≠I:=λe=>we (e ▸ hI)
 unfold Lu
 refine aH (Kx (hT 0 _ oQ) ?_)
 have h1:b0n (.ref S) (.ref I)=false:=by simp[b0n,hSI]
 have h2:(wD "list_reverseiterator"==wD "list")=false:=by decide
 have h3:(wD "list_reverseiterator"==wD "tuple")=false:=by decide
 simp only[h1,h2,h3,Sz,wU,if_false]
 refine aH (W.self 0 _ _ _ oQ ?_)
 refine aH (l0 ?_)
 unfold Builtin.List.listLengthHint
 refine aH (Du (hT 0 _ oQ) x5l ?_)
 show au _ A.in1 (specialOf (ft I) (iR "__length_hint__")>>=_) _ _ _
 refine aH (Du (hT 0 _ oQ) x9s ?_)
 (generalize aF:("list_reverseiterator.__length_hint__":String)=id0;wp_delta;rw[show splitId id0=some ("list_reverseiterator","__length_hint__") from by subst aF;decide +kernel];subst aF)
 refine aH (TK (b:=true) (hT 0 _ oQ) (by rw[TF];kernel_rfl) ?_)
 refine bS ?_
 rw[if_neg (by decide)]
 exact bS ⟨TM PySem.F.plain_extend_loop _,codeAny_extend_loopS W hn _ we _ n 0 _ _ _ rfl (ni _) oQ hS (ItemsOf.nil P) λs' jr c' hm zC kH=>hR s' jr c' hm zC kH⟩
theorem x9j{l:Addr}{items:Array Value}{Q:Value->ah->Prop}(hh:A.handled=none)(hl:s.heap.IsList l items)(hr:s.heap.IsRevIter I l ((items.size:Int)-1))(hz:items.size<=bR)
 (hQ:∀(h':Heap) (tk:Nat) jr c',(∀b o,b≠I->s.heap.get? b=some o->h'.get? b=some o)->h'.get? s.heap.objs.size=some { cls:=.type "list",dict:=none,data:=.seq jr c',slots:=#[] }->ItemsOf (λi v=>items[items.size-1-i]? = some v) jr items.size->Q (.ref s.heap.objs.size) { s with heap:=h',toks:=tk }) :
 au (aB prog w) A (call (.type "list") [.ref I]) Q E s:=by
 have aS:l≠I:=λe=>by
  obtain⟨o,ho,hc,_⟩:=hl
  obtain⟨o',dO,oO,_⟩:=hr
  rw[e,dO] at ho;cases ho
  rw[hc] at oO;exact absurd oO (by decide)
 have ltI:I<s.heap.objs.size:=let ⟨o,ho,_⟩:=hr;bH ho
 have Qx:l<s.heap.objs.size:=let ⟨o,ho,_⟩:=hl;bH ho
 have we:s.heap.objs.size ∉ [I,l]:=by
  simp only[kP,oM,or_false,not_or]
  exact⟨nc ltI,nc Qx⟩
 refine callType_codes (Q₁:=λobj cq=>obj = .ref s.heap.objs.size/\cq={ s with heap:=s.heap.push { cls:=.type "list",data:=.seq #[] } }) PySem.F.called_list (PySem.F.typeCall_list_1 _) PySem.F.entry_list_init
  (code_list_new _ ⟨rfl,rfl⟩) λobj cq cN=>?_
 obtain⟨rfl,rfl⟩:=cN
 have hS:(s.heap.push { cls:=.type "list",data:=.seq #[] }).get? s.heap.objs.size=some { cls:=.type "list",data:=.seq #[] }:=fu _ rfl
 refine⟨⟨_,hS,rfl⟩,PySem.F.args_list_init_2 _ _,?_⟩
 show au _ _ (do let old <-b0o (.ref s.heap.objs.size);Builtin.List.listUpdate (.ref s.heap.objs.size) (λ_=>#[]);letGo old.toList.reverse;Lu (.ref s.heap.objs.size) (.ref I) .none) _ _ _
 refine aH ?_
 unfold b0o
 refine aH (wpAny_seqItems hS rfl (bS ?_))
 show au _ _ (updateSeq s.heap.objs.size (λ_=>#[])>>=λ_=>letGo (#[]:Array Value).toList.reverse>>=λ_=>Lu (.ref s.heap.objs.size) (.ref I) .none) _ _ _
 refine aH (wpAny_updateSeq hS rfl ?_)
 have a1g:=SA (wL (λ_=>(#[]:Array Value))) hS rfl
 have HE:∀b o,b<s.heap.objs.size->s.heap.get? b=some o->((s.heap.push { cls:=.type "list",data:=.seq #[] }).update s.heap.objs.size (wL (λ_=>(#[]:Array Value)))).get? b=some o :=
  λb o hb e=>(Kz _ _ (nc hb)).trans (cX _ e)
 refine aH (wpAny_letGo ?_)
 have W:=(Walks.listRev (prog:=prog) (w:=w) (A:=A.in1.in1) (by simp[hh]) I l aS items).toS
 refine w4a W (λi s st=>st.2.1.typeIs) s.heap.objs.size .none _ ?_ we (by simp) a1g (λs' jr c' hm zC kH=>?_) hz
 ·refine⟨ni _,?_,?_⟩
  ·show Heap.IsRevIter _ I l ((items.size:Int)-1-((0:Nat):Int))
   rw[show((items.size:Int)-1-((0:Nat):Int))=(items.size:Int)-1 by lia]
   exact hr.at λo e=>HE I o ltI e
  ·obtain⟨o,ho,r⟩:=hl
   exact⟨o,HE l o Qx ho,r⟩
 ·rw[Moved.eq_with hm]
  exact⟨rfl,hQ s'.heap s'.toks jr c' (λb o hb e=>hm.heap b o (by
   simp only[kP,oM,or_false,not_or]
   exact⟨dS (bH e),hb⟩) (HE b o (bH e) e)) zC kH⟩
end
section
variable {prog:aQ}{w:aN}{A:Around}{E:Value->ah->Prop}
theorem w3s{items:Array Value}{x:Str}{t:Tok}{j:Nat}{f:Nat->Option sG×Unit->Sem (ForInStep (Option sG×Unit))}{Q:Option sG×Unit->ah->Prop}
 (hf:∀i r,f i r=(match items[i]? with
   | some y=>eqBool y (.str x t)>>=λc=>if c=true then retInt (i:Int)>>=λr=>pure (.done (some r,())) else pure (.yield (none,()))
   | none=>pure (.yield (none,()))))
 (hj:∃u,items[j]? = some (.str x u)) (pY:∀m,m<j->∃y u,items[m]? = some (.str y u)/\y≠x) {s:ah}
 (h:Q (some (.done (.ret (.int (j:Int) s.toks))),()) { s with toks:=s.toks+1 }):∀k n:Nat,n<=j->j<n+k->au (aB prog w) A (forIn (Dj n k) ((none,()):Option sG×Unit) f) Q E s:=by
 intro k
 induction k with
 | zero=>intro n h1 h2;lia
 | succ k ih =>
   intro n h1 h2
   rw[a8r,List.forIn_cons,hf]
   by_cases e:n=j
   ·subst e
    obtain⟨u,eu⟩:=hj
    rw[eu]
    refine aH (aH (R8 ?_))
    rw[if_pos (by simp)]
    unfold retInt
    obtain⟨hp,g,dd,tk,os⟩:=s
    wp_walk
    exact h
   ·obtain⟨y,u,eu,ne⟩:=pY n (by lia)
    rw[eu]
    refine aH (aH (R8 ?_))
    rw[if_neg (by simpa using ne)]
    refine bS ?_
    exact ih (n+1) (by lia) (by lia)
theorem x9r{items:Array Value}{x:Str}{t:Tok}{j:Nat}{f:Nat->Option sG×Unit->Sem (ForInStep (Option sG×Unit))}{Q:Option sG×Unit->ah->Prop}
 (hf:∀i r,f i r=(match items[i]? with
   | some y=>eqBool y (.str x t)>>=λc=>if c=true then retInt (i:Int)>>=λr=>pure (.done (some r,())) else pure (.yield (none,()))
   | none=>pure (.yield (none,()))))
 (hj:∃u,items[j]? = some (.str x u)) (pY:∀m,m<j->∃y u,items[m]? = some (.str y u)/\y≠x) {s:ah}
 (h:Q (some (.done (.ret (.int (j:Int) s.toks))),()) { s with toks:=s.toks+1 }):au (aB prog w) A (forIn [:min items.size items.size] ((none,()):Option sG×Unit) f) Q E s:=by
 rw[Std.Legacy.Range.forIn_eq_forIn_range',show Dj ([:min items.size items.size]:TY).start ([:min items.size items.size]:TY).size ([:min items.size items.size]:TY).step=Dj 0 (min items.size items.size) by simp[Std.Legacy.Range.size]]
 exact w3s hf hj pY h _ 0 (ni _) (by obtain⟨u,eu⟩:=hj;have:=(Array.getElem?_eq_some_iff.mp eu).1;lia)
theorem x3n{items:Array Value}{l:Addr}{x:Str}{t:Tok}{j:Nat}{Q:sG->ah->Prop}{s:ah}(hl:sj s.heap l items)
 (hj:∃u,items[j]? = some (.str x u)) (pY:∀m,m<j->∃y u,items[m]? = some (.str y u)/\y≠x)
 (h:Q (.done (.ret (.int (j:Int) s.toks))) { s with toks:=s.toks+1 }):au (aB prog w) A (Builtin.«tuple.index» ⟨[.ref l,.str x t],[]⟩) Q E s:=by
 obtain⟨o,e,c,n,d⟩:=hl
 unfold Builtin.«tuple.index» Su
 obtain⟨hp,g,dd,tk,os⟩:=s
 wp_walk using wpAny_loadPart' e
 rw[d]
 wp_walk
 refine x9r (items:=items) (x:=x) (t:=t) (j:=j) (λi r=>?_) hj pY (bS h)
 cases items[i]? <;> rfl
end
section
variable {X:Cx}{e a b:Expr}{g ga gb:G->R D}{p p' pos pos' apos cD:Pos}
theorem y6d:iU X (.type "int") (λxs H Q=>∃x n,xs=[.str x]/\x.length<=640/\intText? x=some n/\Q (.int n) H):=by
 intro pins s σ H xs us Q I r h
 obtain⟨x,n,rfl,hl,hn,q⟩:=h
 obtain⟨u,rfl,t,rfl⟩:=oR r
 exact PySem.W.KIN.call_text hn hl ⟨.int n,H,I.tok _,⟨_,rfl⟩,q⟩
theorem w4g:kF X (.type "int") xU:=by
 refine⟨_,y6d (X:=X.bT),λH xs ds i hg=>?_⟩
 unfold xU at hg
 split at hg
 ·rename_i x
  obtain⟨v,rfl,h⟩:=lE i
  obtain⟨hz,e⟩:=R.cT hg
  cases Is.gx.mp h
  cases hn:intText? x with
  | none=>rw[hn] at hg;rw[R.guard_pos hz] at hg;exact absurd rfl hg
  | some n=>exact⟨x,n,rfl,hz,hn,.int n,e.trans (by rw[hn]),.refl _,Is.bU.mpr rfl⟩
 ·exact absurd rfl hg
theorem x2b(ha:PD X a ga)(hmr:X.mg "reversed"=none)(hm:X.mg "list"=none)(hc:X.calm=true)(hgr:Gl X "reversed":=by rfl)(hg:Gl X "list":=by rfl)(hs:aV [a] X.env=[(false,eval a X.env)]:=by rfl)
 (he:aV [Expr.Call (.Name "reversed" p') [a] [] pos'] X.env=[(false,eval (.Call (.Name "reversed" p') [a] [] pos') X.env)]:=by rfl):PF X (.Call (.Name "list" p) [.Call (.Name "reversed" p') [a] [] pos'] [] pos) (z8u ga):=by
 refine⟨λpins s σ H F Γ I fo rl bZ=>?_⟩
 refine l8 (iA I hg hm (by decide +kernel:lU "list"=some (.type "list")) ?_ (by decide) (by decide))
 refine pM ?_ he rfl
 rw[he]
 show au _ _ (eE ((false,eval (.Call (.Name "reversed" p') [a] [] pos') X.env)::cC pos [])) _ _ s
 refine fw ?_
 refine wZ (iA I hgr hmr PR (pM ?_ hs rfl))
 rw[hs]
 show au _ _ (eE ((false,eval a X.env)::cC pos' [])) _ _ s
 refine fw (av (ha.run pins s σ H F Γ I fo rl (R.left bZ)) (λu s1 ⟨d,v,H1,e1,I1,r1,S1,i1⟩=>h_ ?_) λ_ _ x=>x.bind _)
 have aJ:=R.next bZ e1
 cases d with
 | lst ds =>
   obtain⟨⟨h3,EJ⟩,e3⟩:=R.cT (show R.guard (ds.length<=100000/\D.a_ ds=true) (R.ok ds.reverse) ≠ .no from aJ)
   obtain⟨l,xs,rfl,q1,j1⟩:=Is.fm.mp i1
   cases (show u=ft l from r1)
   obtain⟨its,rv,pl,hz⟩:=I1.list q1
   have hlen:=rv.length
   refine call_reversed_list pl.isList (h_ ?_)
   have a1:(s1.heap.push (Al l ((its.toArray.size:Int)-1))).IsRevIter s1.heap.objs.size l ((its.toArray.size:Int)-1):=⟨_,fu _ rfl,rfl,rfl⟩
   have wc:(s1.heap.push (Al l ((its.toArray.size:Int)-1))).IsList l its.toArray:=pl.isList.push _
   refine x9j (s:={ s1 with heap:=s1.heap.push (Al l ((its.toArray.size:Int)-1)) }) (I1.ok.hd hc) wc a1 (by rw[cY,<-hlen];exact hz) λh' tk jr c' kp hl kH=>?_
   have jA:(s1.heap.push (Al l ((its.toArray.size:Int)-1))).objs.size=s1.heap.objs.size+1:=by rw[uE]
   have kp':∀b o,s1.heap.get? b=some o->h'.get? b=some o:=λb o e=>kp b o (dS (bH e)) (cX _ e)
   have zq:s1.heap.objs.size<=(s1.heap.push (Al l ((its.toArray.size:Int)-1))).objs.size:=by rw[jA];exact TX _
   have iM:H1 (s1.heap.push (Al l ((its.toArray.size:Int)-1))).objs.size=none:=I1.aK.fresh zq
   have a1h:jr.toList=its.reverse:=by
    refine List.ext_getElem? λj=>?_
    have h1:jr.size=its.length:=by have:=kH.1;simpa using this
    by_cases hj:j<its.length
    ·have h2:jr[j]? = some jr[j]:=Aj (by lia)
     have h4:=kH.2 j jr[j] h2
     rw[SG,h2,a9v hj]
     rw[<-h4]
     simp
    ·rw[jP (by simp;lia),jP (by simp;lia)]
   have hv:Vals xs.reverse jr.toList:=by rw[a1h];exact rv.reverse
   have I2:Inv X pins σ (upd H1 _ (.lst xs.reverse)) { s1 with heap:=h',toks:=tk }:=I1.laid (t':=tk) kp' zq (show iT X.prog X.w _ _ _ (.lst xs.reverse) from⟨by rw[qY];exact hz,jr.toList,c',hv,by rw[Array.toArray_toList];exact hl⟩)
   have S2:=gP iM (.lst xs.reverse)
   refine⟨ds.reverse,_,xs.reverse,_,(R.step e1 _).trans e3,I2,rfl,S1.trans S2,S1.free iM,dc,?_⟩
   refine(ao.Hy (ao.aF (fo.same S1) ds xs EJ j1)).same λb o hb=>?_
   obtain⟨z1,z2⟩:=iF hb
   have fJ:=gI z2 iM
   rw[da λz=>(List.mem_cons.mp z).elim fJ z1,bD fJ]
   exact z2
 | _=>exact absurd rfl aJ
theorem x5a(ha:PD X e ga)(hb:PD X b gb)
 (ke:uH e "index" X.env (eval e X.env)=eval e X.env:=by rfl)
 (lJ:((cC cD (aV [b] X.env)).all (λx=>!x.1)&&(uv cD (uw [] X.env)).all (λx=>x.1.isSome)
   && decide ([b].length+([]:List km).length+(if ([]:List km).isEmpty then 0 else 1)<30))=true:=by rfl)
 (kf:(apos.endLine==cD.line)=true:=by rfl) (hs:aV [b] X.env=(false,eval b X.env)::aV [] X.env:=by rfl) :
 PD X (.Call (.Attribute e "index" apos) [b] [] cD) (xT ga gb):=by
 refine⟨λpins s σ H F Γ I fo rl hg=>?_⟩
 refine w_ ke lJ kf rfl (av (ha.run pins s σ H F Γ I fo rl (R.left hg)) (λv s1 ⟨dl,vl,H1,e1,I1,r1,S1,i1⟩=>?_) λ_ _ x=>x.bind _)
 have aJ:=R.next hg e1
 cases dl with
 | tup ds =>
   have gz:=R.left aJ
   obtain⟨l,vs,rfl,q1,j1⟩:=Is.fB.mp i1
   cases (show v=ft l from r1)
   obtain⟨_,_,⟨o1,Qy,o9,_,hd1⟩,_⟩:=I1.LJ q1
   have t1:s1.TypeIs (.ref l) "tuple":=⟨o1,Qy,o9⟩
   have t2:∀a,ft l = .ref a->∃ob,s1.heap.get? a=some ob/\ob.dict=none:=λa e=>by
    cases e
    exact⟨o1,Qy,(Prod.mk.inj hd1).2⟩
   refine⟨"tuple",_,PySem.F.plainAttrs_tuple,b0p,PySem.F.type_tuple_index,t1,t2,?_⟩
   rw[hs]
   refine uI rfl (xc ?_)
   show au _ _ (eE ((false,eval b X.env)::cC cD [])) _ _ s1
   refine fw (av (hb.run pins s1 σ H1 F Γ I1 (fo.same S1) (rl.same S1) gz) (λu s2 ⟨d,y,H2,e2,I2,r2,S2,i2⟩=>h_ ?_) λ_ _ x=>bY.later e1 S1 (x.bind _))
   have dt:=R.next aJ e2
   cases d with
   | str x =>
     cases qs:strs? ds with
     | none=>exact absurd (show(match strs? ds with | some xs=>nR xs x | none=>R.no) = .no by rw[qs]) dt
     | some xs =>
       have lO:nR xs x ≠ .no:=by
        have h:=dt
        dsimp only at h
        rw[qs] at h;exact h
       obtain rfl:=Bb qs
       cases hf:xs.findIdx? (·==x) with
       | none=>exact absurd (show nR xs x = .no by unfold nR;rw[hf]) lO
       | some j =>
         have hg4:R.guard (xs.length<=1000) (R.ok (D.int (j:Int))) ≠ .no:=by
          have h:=lO
          unfold nR at h
          rw[hf] at h;exact h
         obtain⟨hl,e4⟩:=R.cT hg4
         obtain⟨its,rv,pl,hz⟩:=I2.tuple (tN S2 q1)
         obtain⟨lt,rfl,cw⟩:=CC (j1.same S2) rv
         cases Is.gx.mp i2
         obtain⟨t,rfl⟩:=r2
         obtain⟨o,ho,hc,n,hd⟩:=(show s2.heap.IsTuple l (jQ lt).toArray from pl)
         have fin:∀tk,dg X pins σ H (xT ga gb Γ) (.int (j:Int) s2.toks) { s2 with toks:=tk }:=λtk =>
          dg.bind e1 S1 (dg.bind e2 S2 ⟨.int (j:Int),.int (j:Int),H2,by
           show(match strs? (xs.map D.str) with | some xs=>nR xs x | none=>R.no)=_
           rw[qs]
           show nR xs x=_
           unfold nR;rw[hf];exact e4,I2.tok _,⟨s2.toks,rfl⟩,.refl _,Is.bU.mpr rfl⟩)
         obtain⟨hj,hjt,hjn⟩:=List.findIdx?_eq_some_iff_getElem.mp hf
         have at_:∀m (hm:m<xs.length),∃u,(jQ lt).toArray[m]? = some (.str xs[m] u):=λm hm=>by
          subst cw
          have hm':m<lt.length:=by simpa using hm
          exact⟨lt[m].2,by simp[jQ,hm']⟩
         refine zV b0p ⟨o,ho,hc⟩ PySem.F.entry_tuple_index (x3n (j:=j) pl ?_ ?_ ⟨_,rfl,fin _⟩) (PySem.F.args_tuple_index_2 _ _)
         ·obtain⟨u,e⟩:=at_ j hj
          exact⟨u,by rw[e,show xs[j]=x by simpa using hjt]⟩
         ·intro m hm
          obtain⟨u,e⟩:=at_ m (by lia)
          exact⟨xs[m],u,e,by simpa using hjn m hm⟩
   | _=>exact absurd rfl dt
 | _=>exact absurd rfl aJ
end
structure CI (X:Cx) (i:Nat) (b:List Stmt) (g:G->R (D×List D)):Prop where
 run:∀(pins:List (Addr×Obj)) (s:ah) (σ:St) (H:Hp) (F:List Addr) (Γ:G),Inv X pins σ H s->bI H F->Rel X.K H F Γ σ->g Γ ≠ .no ->
  au (aB X.prog X.w) X.A (sm b X.env) (λfl s'=>∃u,(fl = .ret u∨(fl = .next/\u = .none))/\∃d ws v aE H' F' l zs,g Γ = .ok (d,ws)/\Inv X pins aE H' s'/\RelV v u/\Ext H F H' F'/\σ[i]? = some (some (.ref l))/\H' l=some (.lst zs)/\l∈F'/\ao X.K (aF F' H') ws zs/\Is X.K (aF F' H') d v) (λ_ _=>False) s
section
variable {X:Cx}{b:List Stmt}{st:Stmt}{t:G->R Fl}{u:G->R (D×List D)}{i:Nat}{pos:Pos}
theorem PW.e(h:PW X i b u):CI X i b u:=⟨λpins s σ H F Γ I fo rl hg=>av (h.run pins s σ H F Γ I fo rl hg) (λfl s' ⟨u,e,r⟩=>⟨u,.inl e,r⟩) λ_ _ z=>z⟩
theorem qH.e(h:qH X i b t):CI X i b (ic i t):=by
 refine⟨λpins s σ H F Γ I fo rl hg=>?_⟩
 cases ht:t Γ with
 | no=>exact absurd (show ic i t Γ = .no by unfold ic;rw[ht]) hg
 | er c=>exact absurd (show ic i t Γ = .no by unfold ic;rw[ht]) hg
 | ok f =>
   cases f with
   | nx dG =>
     have e2:ic i t Γ=(match dG[i]? with | some (.own ws)=>R.ok (D.cH,ws) | _=>R.no):=by unfold ic;rw[ht];try rfl
     rw[e2] at hg ⊢
     obtain⟨ws,hw⟩:=Qe hg
     refine av (h.run pins s σ H F Γ I fo rl (by rw[ht];exact λz=>nomatch z)) (λfl s1 q=>?_) λx s1 q=>?_
     ·rw[ht] at q
      cases fl with
      | next =>
        obtain⟨Γ',e,aE,H',F',I',Cg,lI,E,k⟩:=q
        cases e
        obtain⟨l,zs,i9,hF,hH,qI⟩:=lI.own i ws hw
        exact⟨.none,.inr ⟨rfl,rfl⟩,.cH,ws,.cH,aE,H',F',l,zs,by rw[hw],I',rfl,E,by rw[<-k];exact i9,hH,hF,qI,Is.B0.mpr rfl⟩
      | ret v=>exact(by obtain⟨v',aE,H',F',_,_,_,⟨d,z,_⟩ | ⟨_,_,_,z,_⟩⟩:=q<;>cases z)
      | brk=>exact(by obtain⟨Γ',z,_⟩:=q;cases z)
      | cont=>exact(by obtain⟨Γ',z,_⟩:=q;cases z)
     ·rw[ht] at q
      obtain⟨c,Γ',aE,H',F',z,_⟩:=q
      cases z
   | rt d=>exact absurd (show ic i t Γ = .no by unfold ic;rw[ht]) hg
   | fz d=>exact absurd (show ic i t Γ = .no by unfold ic;rw[ht]) hg
   | bk d=>exact absurd (show ic i t Γ = .no by unfold ic;rw[ht]) hg
   | ct d=>exact absurd (show ic i t Γ = .no by unfold ic;rw[ht]) hg
   | ex c d=>exact absurd (show ic i t Γ = .no by unfold ic;rw[ht]) hg
theorem HF:qH X i b Be:=⟨λ_ _ _ _ _ _ _ _ _ h=>absurd rfl h⟩
theorem Qz:PW X i b Ew:=⟨λ_ _ _ _ _ _ _ _ _ h=>absurd rfl h⟩
theorem PK.pq(h:PK X i st t):PQ X st t:=⟨λpins s σ H F Γ I fo rl hg=>av (h.run pins s σ H F Γ I fo rl hg) (λfl s' q=>by
 cases fl with
 | next=>obtain⟨Γ',e,aE,H',F',h1,h2,h3,h4,_⟩:=q;exact⟨Γ',e,aE,H',F',h1,h2,h3,h4⟩
 | brk=>obtain⟨Γ',e,aE,H',F',h1,h2,h3,h4,_⟩:=q;exact⟨Γ',e,aE,H',F',h1,h2,h3,h4⟩
 | cont=>obtain⟨Γ',e,aE,H',F',h1,h2,h3,h4,_⟩:=q;exact⟨Γ',e,aE,H',F',h1,h2,h3,h4⟩
 | ret v=>exact q) λ_ _ q=>q⟩
theorem w2f{h₀:ExceptHandler}{hs:List ExceptHandler}(hb:kc X b t):PQ X (.Try b (h₀::hs) [] [] pos) (gNoX t):=by
 refine⟨λpins s σ H F Γ I fo rl hg=>?_⟩
 have ht:t Γ ≠ .no:=λz=>hg (by unfold gNoX;rw[z])
 have hx:∀c Γ',t Γ ≠ .ok (.ex c Γ'):=λc Γ' z=>hg (by unfold gNoX;rw[z])
 have he:gNoX t Γ=t Γ:=by
  unfold gNoX
  split
  ·rename_i c Γ' z;exact absurd z (hx c Γ')
  ·rfl
 rw[he]
 refine a9o (av (hb.run pins s σ H F Γ I fo rl ht) (λf s1 q=>?_) λxe s1 q=>?_)
 ·cases f with
  | next=>exact pP q
  | brk=>exact q
  | cont=>exact q
  | ret v=>exact q
 ·obtain⟨c,dG,_,_,_,e1,_⟩:=q
  exact absurd e1 (hx c dG)
theorem QA{x z:Str}{u:Value}(hm:X.mg x=some u)(hu:∃t,u = .str z t)(hg:Gl X x:=by rfl)(hd:(x==("__debug__":Str))=false:=by decide):PD X (.Name x pos) (gC (.str z)) :=
 OO hg hm (v:=.str z) hu (λ_=>Is.gx.mpr rfl) hd
end
section
variable {P:aQ}{w:aN}{K:aA}{mg:Str->Option Value}{base:Heap}
theorem zD{x qual:Str}{st:Stmt}{f:Addr}{fd:cG}{N ps:List Str}{k i:Nat}{φ:List D->R (D×List D)}(Fu:mf K x qual st f fd)(S:aZ N ps (aW st))(hb:jV K fd ps [])(hlen:∀ds,φ ds ≠ .no->ds.length=ps.length)
 (kY:∀(aY:Value) (A:Around) (outer:List Env) (s:ah) (H:Hp) (E:XK),eh k (i8 P w K mg base N qual st f aY A outer s H E).A->∃g,CI (i8 P w K mg base N qual st f aY A outer s H E) i (nD st) g/\∀as ws bs,as.length=i->φ (as ++ .lst ws::bs) ≠ .no->(∀c,φ (as ++ .lst ws::bs) ≠ .er c)->g ((fc N.length (as ++ .lst ws::bs)).set i (.own ws))=φ (as ++ .lst ws::bs)) :
 mS P w K mg base (k+1) f fd ps i φ:=by
 refine⟨?_,hb,Fu.kp⟩
 obtain⟨oc,od,kV,doc,pm,an,aY,ct,pX,rfl,lk,dE⟩:=Fu.ex
 refine xy lk dE S (λvs H Q E h=>?_) λA outer s H vs Q E hr dZ=>?_
 ·obtain⟨as,bs,xs,ys,ws,l,zs,rfl,_,j1,j2,_,_,aS,_⟩:=h
  have:=hlen _ aS
  simp only[dW,cx,j1.length,j2.length] at this ⊢
  exact this
 obtain⟨g,hq,hg⟩:=kY aY A outer s H E hr
 obtain⟨as,bs,xs,ys,ws,l,zs,rfl,hi,j1,j2,hH,j3,aS,a1i,hQ⟩:=dZ
 have e0:=hg as ws bs hi aS a1i
 refine⟨λD' aE H'=>D'={ nx:=λ_ H'=>Q .cH H',rt:=Q }/\aE=L2.start N (xs ++ .ref l::ys)/\H'=H,?_,rfl,rfl,rfl⟩
 intro pins s1 kU H1 D1 I hw
 obtain⟨rfl,rfl,rfl⟩:=hw
 have rl:=x1t (N:=N) j1 j2 hH j3
 rw[hi] at rl
 refine av (hq.run pins s1 _ H1 [l] _ I (λb hb=>⟨zs,by rw[List.mem_singleton.mp hb];exact hH⟩) rl (by rw[e0];exact aS)) (λfl s' ⟨u,hu,d,hJ,v,aE,H',F',l',ip,e1,I',rv,Ex,kI,hH',za,jw,jd⟩=>?_) λ_ _ z=>b6 z
 have l1:=j1.length
 have yk:(L2.start N (xs ++ .ref l::ys))[i]? = some (some (.ref l)):=by
  unfold L2.start
  rw[wH (by simp;lia),eZ,uA (by lia),<-l1,hi,KH];rfl
 rw[yk] at kI
 cases kI
 have Sx:aO (aF F' H') (aF [l] H'):=λb o q=>by
  obtain⟨q1,q2⟩:=iF q
  rw[da (λz=>q1 (by rw[List.mem_singleton.mp z];exact za))];exact q2
 have fin:=hQ d hJ v H' ip (by rw[<-e0];exact e1) (λb o hb q=>Ex.keep b o (by simpa using hb) q) hH' (jw.same Sx) (jd.same Sx)
 rcases hu with rfl | ⟨rfl,rfl⟩
 ·exact⟨v,aE,H',I',rv,fin⟩
 ·cases v with
  | cH=>exact⟨aE,H',I',fin⟩
  | _=>first | exact nomatch rv | (obtain⟨_,z⟩:=rv;cases z)
theorem HG{x qual:Str}{st:Stmt}{f:Addr}{fd:cG}{N ps:List Str}{k i:Nat}(Fu:mf K x qual st f fd)(S:aZ N ps (aW st))(hb:jV K fd ps []):mS P w K mg base (k+1) f fd ps i (λ_=>.no):=by
 refine zD Fu S hb (λds h=>absurd rfl h) λaY A outer s H E hr=>⟨Ew,Qz.e,λas ws bs _ h=>absurd rfl h⟩
end
theorem x9e{i:Str}{n:Int}(h1:i.length<=1000)(h2:0<=n)(h3:n<=1000):MulOk i n:=by
 refine⟨by rw[decide_eq_false (by lia),decide_eq_false (by lia)];rfl,λh _=>?_,λ_ _=>?_⟩
 ·have hp:0<n:=by lia
  have hm:(i.length:Int)*n<=1000*1000:=Dg (by lia) h3 h2 (by lia)
  have:=Int.le_ediv_of_mul_le hp (show(i.length:Int)*n<=2^63-1 by lia)
  lia
 ·have hm:i.length*n.toNat<=1000*1000:=Nat.mul_le_mul h1 (by lia)
  unfold Builtin.Str.tooLong
  rw[ju]
  exact decide_eq_false (by lia)
theorem w2w{X:Cx}:fI X (gW .Mult) xV:=by
 refine⟨λx y H Q=>∃i n,x = .str i/\y = .int n/\MulOk i n/\Q (.str (wQ i n)) H,?_,λH x y dx dy ix iy hg=>?_⟩
 ·intro pins s σ H x y v u Q I rx ry h
  obtain⟨i,n,rfl,rfl,ok,q⟩:=h
  obtain⟨t,rfl⟩:=rx
  obtain⟨t',rfl⟩:=ry
  exact SB.mul ok λt' k=>⟨.str (wQ i n),H,I.tok _,⟨_,rfl⟩,q⟩
 ·unfold xV at hg
  split at hg
  ·rename_i i n
   obtain⟨⟨h1,h2,h3⟩,e⟩:=R.cT hg
   exact⟨i,n,Is.gx.mp ix,Is.bU.mp iy,x9e h1 h2 h3,.str (wQ i n),e,.refl _,Is.gx.mpr rfl⟩
  ·exact absurd rfl hg
end L3
namespace HQ
open PySem PySem.W PySem.Calls PyProof.Rows L2
noncomputable def zE(tb:String->Option Builtin)(p:aQ)(w:aN)(ki:Nat)(ann:Option Value)(n:Nat):Am->Thread->Option Am :=
 Nat.rec (λ_ _=>none) (λ_ ih s t=>match Lv t with
  | true=>some s
  | false=>match stepOk ki ann t with
    | false=>none
    | true=>match stepT (denote tb) p w s t with
      | some (s',t')=>ih s' t'
      | none=>none) n
theorem QB{tb:String->Option Builtin}{p:aQ}{w:aN}{ki:Nat}{ann:Option Value}:∀{n:Nat} {s r:Am} {t:Thread},zE tb p w ki ann n s t=some r->topRun tb p w ki ann n s.abs t=some r.abs
 | 0,_,_,_,h=>by cases h
 | n+1,s,r,t,h=>by
   have h':(match Lv t with
    | true=>some s
    | false=>match stepOk ki ann t with
      | false=>none
      | true=>match stepT (denote tb) p w s t with
        | some (s',t')=>zE tb p w ki ann n s' t'
        | none=>none)=some r:=h
   unfold topRun
   cases ht:Lv t with
   | true=>rw[ht] at h';cases h';rfl
   | false =>
     rw[ht] at h'
     cases hk:stepOk ki ann t with
     | false=>rw[hk] at h';cases h'
     | true =>
       rw[hk] at h'
       cases hs:stepT (denote tb) p w s t with
       | none=>rw[hs] at h';cases h'
       | some x=>obtain⟨aq,b1u⟩:=x;rw[hs] at h';rw[stepT_spec hs];exact QB h'
noncomputable def CJ(p q:aQ)(loose:List Str)(Xt:ah->Bool){α:Type}(Yf:ah->α)(w:aN)(s:ah) :=
 (TZ (Dy p.main.body) (jR w.params) s.heap&&T3 p s.heap&&T4 s&&T5 (jR w.params) s.heap,openSeen q loose (Dy p.main.body) Xt true s,Yf s)
theorem w3g{p q:aQ}{loose:List Str}{Xt:ah->Bool}{α:Type}{Yf:ah->α}{Ya:aN->α}{N ki:Nat}{B:qV->BT}{life:Life}{ann:Option Value}
 (hB:∀P,absHeap (B P) ki life=jR P) (e:opening p=plainProg p.main.scope.names) (hN:Nat.ble 600 N=true) (f:∀s,fenceModules? p s=some s)
 (size:∀P,((jR P).isNs cQ,(jR P).nsMap cQ "__annotations__")=(true,ann))
 (big:∀(w:aN) (os:T6),(zE Dz p w ki ann N ⟨B w.params,ki,life,#[],boot_drawn,boot_toks,os⟩ (topStub p)).map (λs=>CJ p q loose Xt Yf w s.abs)=some (true,openGood q loose,Ya w)):LeftO p q loose Xt Yf Ya N:=λw=>by
 obtain⟨⟨h,gs,d,k,os⟩,e1,e2⟩:=Option.map_eq_some_iff.mp (boot_open (p:=p) (N:=N) e hN f w)
 obtain⟨rfl,rfl,rfl,rfl⟩:h=jR w.params/\gs=#[]/\d=boot_drawn/\k=boot_toks:=by simpa using e2
 obtain⟨z1,z2⟩:_/\_:=by simpa only[Ln] using size w.params
 obtain⟨r,hr,hs⟩:=Option.map_eq_some_iff.mp (big w os)
 have t:=QB hr
 have ab:(SharedT.abs ⟨B w.params,ki,life,#[],boot_drawn,boot_toks,os⟩)=⟨jR w.params,#[],boot_drawn,boot_toks,os⟩:=by
  unfold SharedT.abs
  rw[hB]
 rw[ab] at t
 have sz:(jR w.params).objs.size=ki:=by rw[<-hB w.params];exact absHeap_size _ _ _
 unfold CJ at hs
 obtain⟨l1,l2⟩:_/\_:=by simpa only[Ln] using hs
 have T:T7 Dz p w N ⟨jR w.params,#[],boot_drawn,boot_toks,os⟩=some r.abs:=by
  unfold T7
  dsimp only
  rw[z1,z2,sz,t]
  show(match TZ (Dy p.main.body) (jR w.params) r.abs.heap&&T3 p r.abs.heap&&T4 r.abs&&T5 (jR w.params) r.abs.heap with | true=>_ | false=>_)=_
  rw[l1]
 unfold openEnds
 rw[e1]
 show(T7 Dz p w N _).map _=_
 rw[T]
 exact congrArg some (Prod.ext l2.1 l2.2)
def w7n(l:List Obj):BT:=(l.foldl (λx o=>(x.1.ins x.2 o,x.2+1)) (BT.nil,0)).1
noncomputable def B(P:qV):BT:=w7n (jR P).objs.toList
theorem hB(P:qV):absHeap (B P) 11 {}=jR P:=by kernel_rfl
theorem hS(P:qV):((jR P).isNs cQ,(jR P).nsMap cQ "__annotations__")=(true,some (.ref 6)):=by kernel_rfl
noncomputable def HH(p:aQ)(w:aN)(ki:Nat)(ann:Option Value)(n:Nat):Am->Thread->Option Am :=
 Nat.rec (λ_ _=>none) (λ_ ih s t=>match Lv t with
  | true=>some s
  | false=>match PySem.W.Fast.tw6613529449190102663 ki ann t with
    | false=>none
    | true=>match PySem.W.Fast.tw10156331382660048174 (PySem.W.Fast.tw11892475500146522536 Dz) p w s t with
      | some (s',t')=>ih s' t'
      | none=>none) n
theorem w2b:zE Dz=HH:=by
 unfold zE HH
 simp only[<-PySem.W.Fast.te6613529449190102663,<-PySem.W.Fast.te10156331382660048174,<-PySem.W.Fast.te11892475500146522536]
 try rfl
def a1j(p:aQ):List Str:=(p.main.scope.names.map (·.1)).filter λx=>!(startupNames.contains x||x=="law")
noncomputable def HI(p q:aQ)(loose:List Str)(Xt:ah->Bool){α:Type}(Yf:ah->α)(w:aN)(s:ah) :=
 (TZ (Dy p.main.body) (jR w.params) s.heap&&T3 p s.heap&&T4 s&&T5 (jR w.params) s.heap,PySem.W.Fast.tw4187177175401517315 q loose (Dy p.main.body) Xt true s,Yf s)
theorem w1w:@CJ=@HI:=by
 unfold CJ HI
 rw[PySem.W.Fast.te4187177175401517315]
noncomputable def s0(w:aN)(os:T6):Am:=⟨B w.params,11,{},#[],boot_drawn,boot_toks,os⟩
theorem a1k{p q:aQ}{loose:List Str}{Xt:ah->Bool}{α:Type}{Yf:ah->α}{Ya:aN->α}{N:Nat}(e:opening p=plainProg p.main.scope.names)(hN:Nat.ble 600 N=true)(f:∀s,fenceModules? p s=some s)
 (big:∀(w:aN) (os:T6),(HH p w 11 (some (.ref 6)) N (s0 w os) (topStub p)).map (λs=>HI p q loose Xt Yf w s.abs)=some (true,openGood q loose,Ya w)):LeftO p q loose Xt Yf Ya N :=
 w3g hB e hN f hS (by rw[w2b,w1w];exact big)
noncomputable def fO(x:Str)(st:Stmt)(pm cd:Value):Obj:=⟨.type "function",none,.func (fnOf x x (xE st) (nD st) (aW st) .none .none .none pm none cd .none),#[]⟩
theorem HJ{K:Frag}{x:Str}{st:Stmt}{a c:Addr}{pm:Value}(l:K.lookup a=some (fO x st pm (.ref c)))(e:codeIn K (.ref c) x=true):mf K x x st a (fnOf x x (xE st) (nD st) (aW st) .none .none .none pm none (.ref c) .none) :=
 ⟨⟨_,_,_,_,_,_,_,_,_,rfl,l,e⟩,by unfold keepIn;dsimp only;rw[l];rfl⟩
noncomputable def en(P:qV)(x:Str)(t:Tok)(v:Value):DictEntry:=⟨PyData.keyHash P x,.str x t,v⟩
noncomputable def cO(x:Str)(t:Nat)(line a1l:Int)(a b c d e:Value)(u:Nat):Obj:=⟨.type "code",none,.fields [.str x t,.str x (t+1),.str "/claim/cut.py" (t+2),.int line 0,.int a1l 0,.int 0 0,.int 0 0,.int 3 0,a,.bool true,.int 181 0,b,.none,c,d,e,.int u 0,.int line 0,.str "/claim/cut.py" (u+1)].toArray,#[]⟩
end HQ
namespace L3
open PySem PySem.Spec PyProof.Rows L2
structure Ev where
 P:aQ
 w:aN
 K:aA
 mg:Str->Option Value
 base:Heap
def Own(E:Ev)(x:Str)(st:Stmt)(ps:List Str):Prop:=∃(a:Addr) (d:cG),mf E.K x x st a d/\jV E.K d ps []/\E.mg x=some (.ref a)
def bV(E:Ev)(k:Nat)(x:Str)(ps:List Str)(φ:List D->R D):Prop:=∃(a:Addr) (d:cG),eN E.P E.w E.K E.mg E.base k a d ps φ/\E.mg x=some (.ref a)
def mY(E:Ev)(k:Nat)(x:Str)(ps:List Str)(φ:List D->R (List D)):Prop:=∃(a:Addr) (d:cG),mL E.P E.w E.K E.mg E.base k a d ps φ/\E.mg x=some (.ref a)
section
variable {E:Ev}{k k':Nat}{x:Str}{st:Stmt}{N ps:List Str}
theorem bV.up{φ:List D->R D}(h:bV E k x ps φ)(hk:k<=k'):∃(a:Addr) (d:cG),eN E.P E.w E.K E.mg E.base k' a d ps φ/\E.mg x=some (.ref a):=let ⟨a,d,f,m⟩:=h;⟨a,d,f.mono hk,m⟩
theorem mY.up{φ:List D->R (List D)}(h:mY E k x ps φ)(hk:k<=k'):∃(a:Addr) (d:cG),mL E.P E.w E.K E.mg E.base k' a d ps φ/\E.mg x=some (.ref a):=let ⟨a,d,f,m⟩:=h;⟨a,d,f.mono hk,m⟩
theorem c5{n m:Nat}{g:G->R Fl}(u:Own E x st ps)(S:aZ N ps (aW st))(hn:ps.length=n)(hm:N.length=m)
 (kY:∀(f:Addr) (aY:Value) (A:Around) (outer:List Env) (s:ah) (H:Hp) (Ex:XK),eh k (i8 E.P E.w E.K E.mg E.base N x st f aY A outer s H Ex).A->(i8 E.P E.w E.K E.mg E.base N x st f aY A outer s H Ex).A.units+64<lZ->N.Nodup->kc (i8 E.P E.w E.K E.mg E.base N x st f aY A outer s H Ex) (nD st) g):bV E (k+1) x ps (bB n m g):=by
 subst hn hm
 obtain⟨a,d,Fu,hb,mm⟩:=u
 exact⟨a,d,mR Fu S hb (λds h=>fX h) λaY A outer s H Ex hr=>⟨g,kY a aY A outer s H Ex hr hr.units S.nd,λds aS=>(kx (fX aS)).symm⟩,mm⟩
theorem CK{n m:Nat}{g:G->R Fl}(u:Own E x st ps)(S:aZ N ps (aW st))(hn:ps.length=n)(hm:N.length=m)
 (kY:∀(f:Addr) (aY:Value) (A:Around) (outer:List Env) (s:ah) (H:Hp) (Ex:XK),eh k (i8 E.P E.w E.K E.mg E.base N x st f aY A outer s H Ex).A->(i8 E.P E.w E.K E.mg E.base N x st f aY A outer s H Ex).A.units+64<lZ->N.Nodup->kc (i8 E.P E.w E.K E.mg E.base N x st f aY A outer s H Ex) (nD st) g):mY E (k+1) x ps (jF n m g):=by
 subst hn hm
 obtain⟨a,d,Fu,hb,mm⟩:=u
 exact⟨a,d,Cp Fu S hb (λds h=>rF h) λaY A outer s H Ex hr=>⟨g,kY a aY A outer s H Ex hr hr.units S.nd,λds aS=>(xO (rF aS)).symm⟩,mm⟩
end
theorem bO{N P:List Str}{sc:dA}(h:sc.kind = .function/\sc.isCoroutine=false/\sc.isGenerator=false/\N.Nodup/\N.take P.length=P/\(∀x∈P,sc.names.lookup x=some .local∨sc.names.lookup x=some .cell)/\∀y∈sc.names,y.2 ≠ .free):aZ N P sc:=⟨h.1,h.2.1,h.2.2.1,h.2.2.2.1,h.2.2.2.2.1,h.2.2.2.2.2.1,h.2.2.2.2.2.2⟩
theorem wg{α:Type}{o:Option α}{c:α}(h:o=some c):o.isSome=true:=by rw[h];rfl
theorem a1m{P:aQ}{w:aN}{K:aA}{mg:Str->Option Value}{k:Nat}{a:Addr}{d:cG}{φ:List D->R D}{st:Stmt}(_U:mf K "law" "law" st a d)(hB:∀(s:ah) (v:Value),BindsTo s d ⟨[v],[]⟩ [("script",v)])(F:∀base:Heap,K.In base->base.Ns cQ mg->eN P w K mg base k a d ["script"] φ) :
 ∃fd:cG,(∀(s:ah) (v:Value),BindsTo s fd ⟨[v],[]⟩ [("script",v)])/\∀base:Heap,K.In base->base.Ns cQ mg->ja P w K mg base (mK P w) k a fd ["script"] (v8 φ K):=⟨d,hB,λbase h1 h2=>(F base h1 h2).okN⟩
def pw(E:Ev)(k:Nat)(x:Str)(ps:List Str)(i:Nat)(φ:List D->R (D×List D)):Prop:=∃(a:Addr) (d:cG),mS E.P E.w E.K E.mg E.base k a d ps i φ/\E.mg x=some (.ref a)
section
variable {E:Ev}{k k':Nat}{x:Str}{st:Stmt}{N ps:List Str}
theorem pw.up{i:Nat}{φ:List D->R (D×List D)}(h:pw E k x ps i φ)(hk:k<=k'):∃(a:Addr) (d:cG),mS E.P E.w E.K E.mg E.base k' a d ps i φ/\E.mg x=some (.ref a):=let ⟨a,d,f,m⟩:=h;⟨a,d,f.mono hk,m⟩
theorem HK{n m i:Nat}{g:G->R (D×List D)}(u:Own E x st ps)(S:aZ N ps (aW st))(hn:ps.length=n)(hm:N.length=m)
 (kY:∀(f:Addr) (aY:Value) (A:Around) (outer:List Env) (s:ah) (H:Hp) (Ex:XK),eh k (i8 E.P E.w E.K E.mg E.base N x st f aY A outer s H Ex).A->(i8 E.P E.w E.K E.mg E.base N x st f aY A outer s H Ex).A.units+64<lZ->N.Nodup->CI (i8 E.P E.w E.K E.mg E.base N x st f aY A outer s H Ex) i (nD st) g):pw E (k+1) x ps i (nU n m i g):=by
 subst hn hm
 obtain⟨a,d,Fu,hb,mm⟩:=u
 exact⟨a,d,zD Fu S hb (λds h=>rK h) λaY A outer s H Ex hr=>⟨g,kY a aY A outer s H Ex hr hr.units S.nd,λas ws bs hi aS _=>(o6 hi (rK aS)).symm⟩,mm⟩
end
end L3
namespace Row
open PySem PySem.Spec PyProof.Rows L2 L3
def top(i:Nat):Stmt:=PySem.Challenge.pw_longrounds_k91_whole_texts_led_and_undon.main.body.getD i (.Pass ⟨0,0,0,0⟩)
abbrev HL:Stmt:=top 80
theorem a1n:aZ ["script","k"] ["script","k"] (aW HL):=bO (by decide +kernel)
abbrev HM:Stmt:=top 82
theorem a1o:aZ ["cell","P","size","out","k"] ["cell","P","size"] (aW HM):=bO (by decide +kernel)
abbrev HN:Stmt:=top 83
theorem a1p:aZ ["cell"] ["cell"] (aW HN):=bO (by decide +kernel)
abbrev HP:Stmt:=top 84
theorem a1q:aZ ["cell","more","P","many","x","form"] ["cell","more","P","many"] (aW HP):=bO (by decide +kernel)
abbrev HR:Stmt:=top 85
theorem a1r:aZ ["cells","P","many","agains","items","deep","k","few","level"] ["cells","P","many","agains"] (aW HR):=bO (by decide +kernel)
abbrev HS:Stmt:=top 87
theorem HU:aZ ["items","item"] ["items"] (aW HS):=bO (by decide +kernel)
abbrev HV:Stmt:=top 81
theorem a1s:aZ ["cell","n"] ["cell"] (aW HV):=bO (by decide +kernel)
abbrev HW:Stmt:=top 88
theorem a1t:aZ ["numbers"] ["numbers"] (aW HW):=bO (by decide +kernel)
abbrev HX:Stmt:=top 86
theorem HY:aZ ["names","items","words","item"] ["names","items"] (aW HX):=bO (by decide +kernel)
abbrev yg:Stmt:=top 20
theorem a1u:aZ ["width","place"] ["width","place"] (aW yg):=bO (by decide +kernel)
abbrev tx:Stmt:=top 21
theorem a1v:aZ ["many"] ["many"] (aW tx):=bO (by decide +kernel)
abbrev ye:Stmt:=top 22
theorem a1w:aZ ["form","table","place"] ["form","table","place"] (aW ye):=bO (by decide +kernel)
abbrev s_on:Stmt:=top 15
theorem w7b:aZ ["P","n"] ["P","n"] (aW s_on):=bO (by decide +kernel)
abbrev yf:Stmt:=top 23
theorem a1x:aZ ["P","table","form","many","numbers"] ["P","table","form"] (aW yf):=bO (by decide +kernel)
abbrev tw:Stmt:=top 24
theorem a1y:aZ ["P","one","other"] ["P","one","other"] (aW tw):=bO (by decide +kernel)
abbrev ym:Stmt:=top 27
theorem a1z:aZ ["P","table","n","rungs","rung","figure"] ["P","table","n"] (aW ym):=bO (by decide +kernel)
abbrev yn:Stmt:=top 28
theorem a2a:aZ ["rungs","n"] ["rungs","n"] (aW yn):=bO (by decide +kernel)
abbrev vp:Stmt:=top 29
theorem a2b:aZ ["P","table","n","whole","rung"] ["P","table","n"] (aW vp):=bO (by decide +kernel)
abbrev yh:Stmt:=top 25
theorem a2c:aZ ["many","x","form","forms"] ["many","x","form"] (aW yh):=bO (by decide +kernel)
abbrev vt:Stmt:=top 31
theorem HZ:aZ ["P","many","items","whole","item"] ["P","many","items"] (aW vt):=bO (by decide +kernel)
abbrev H0:Stmt:=top 30
theorem H4:aZ ["P","many","item"] ["P","many","item"] (aW H0):=bO (by decide +kernel)
abbrev x9:Stmt:=top 18
theorem a2d:aZ ["P","form","stand","many"] ["P","form","stand"] (aW x9):=bO (by decide +kernel)
abbrev x_:Stmt:=top 19
theorem a2e:aZ ["P","table","stand"] ["P","table","stand"] (aW x_):=bO (by decide +kernel)
abbrev vv:Stmt:=top 32
theorem a2f:aZ ["P","many","items","n","stand"] ["P","many","items","n","stand"] (aW vv):=bO (by decide +kernel)
abbrev H8:Stmt:=top 60
theorem a2g:aZ ["word","signs","most"] ["word","signs","most"] (aW H8):=bO (by decide +kernel)
abbrev tH:Stmt:=top 61
theorem a2h:aZ ["word"] ["word"] (aW tH):=bO (by decide +kernel)
abbrev vA:Stmt:=top 63
theorem a2i:aZ ["words","count"] ["words","count"] (aW vA):=bO (by decide +kernel)
abbrev H9:Stmt:=top 64
theorem a2j:aZ ["words","sign"] ["words","sign"] (aW H9):=bO (by decide +kernel)
abbrev H_:Stmt:=top 62
theorem a2k:aZ ["P","word","n"] ["P","word"] (aW H_):=bO (by decide +kernel)
abbrev yv:Stmt:=top 65
theorem a2l:aZ ["P","names","words","name","form"] ["P","names","words"] (aW yv):=bO (by decide +kernel)
abbrev Ia:Stmt:=top 66
theorem Ib:aZ ["P","names","words","around","n","items"] ["P","names","words","around"] (aW Ia):=bO (by decide +kernel)
abbrev Ic:Stmt:=top 67
theorem Ie:aZ ["P","names","words","around","word"] ["P","names","words","around"] (aW Ic):=bO (by decide +kernel)
abbrev vE:Stmt:=top 68
theorem Ig:aZ ["P","names","words","around","items"] ["P","names","words","around"] (aW vE):=bO (by decide +kernel)
abbrev yj:Stmt:=top 10
theorem a2m:aZ ["thing"] ["thing"] (aW yj):=bO (by decide +kernel)
abbrev qk:Stmt:=top 12
theorem a2n:aZ ["thing","least","most"] ["thing","least","most"] (aW qk):=bO (by decide +kernel)
abbrev Ih:Stmt:=top 45
theorem Ii:aZ ["items","ahead","count","item"] ["items","ahead"] (aW Ih):=bO (by decide +kernel)
abbrev yo:Stmt:=top 46
theorem a2o:aZ ["P","many","x","form"] ["P","many","x","form"] (aW yo):=bO (by decide +kernel)
abbrev Ij:Stmt:=top 47
theorem Ik:aZ ["P","many","n","items","around"] ["P","many","n","items","around"] (aW Ij):=bO (by decide +kernel)
abbrev Il:Stmt:=top 48
theorem Im:aZ ["P","many","item","around"] ["P","many","item","around"] (aW Il):=bO (by decide +kernel)
abbrev Io:Stmt:=top 49
theorem Ip:aZ ["P","many","items","around"] ["P","many","items","around"] (aW Io):=bO (by decide +kernel)
abbrev Iq:Stmt:=top 11
theorem a2p:aZ ["n","divisor"] ["n"] (aW Iq):=bO (by decide +kernel)
abbrev vj:Stmt:=top 13
theorem a2q:aZ ["thing"] ["thing"] (aW vj):=bO (by decide +kernel)
abbrev xZ:Stmt:=top 14
theorem a2r:aZ ["thing"] ["thing"] (aW xZ):=bO (by decide +kernel)
abbrev yp:Stmt:=top 50
theorem a2s:aZ ["P","many","items"] ["P","many","items"] (aW yp):=bO (by decide +kernel)
abbrev yF:Stmt:=top 73
theorem a2t:aZ ["P","names","words","left","items"] ["P","names","words"] (aW yF):=bO (by decide +kernel)
abbrev yD:Stmt:=top 71
theorem a2u:aZ ["word"] ["word"] (aW yD):=bO (by decide +kernel)
abbrev yE:Stmt:=top 72
theorem a2v:aZ ["words"] ["words"] (aW yE):=bO (by decide +kernel)
abbrev yC:Stmt:=top 70
theorem a2w:aZ ["words","P"] ["words"] (aW yC):=bO (by decide +kernel)
abbrev Ir:Stmt:=top 69
theorem a2x:aZ ["row","first","words"] ["row","first"] (aW Ir):=bO (by decide +kernel)
abbrev vL:Stmt:=top 74
theorem a2y:aZ ["text","rows","P","names"] ["text"] (aW vL):=bO (by decide +kernel)
abbrev yQ:Stmt:=top 76
theorem a2z:aZ ["P","many","numbers"] ["P","many","numbers"] (aW yQ):=bO (by decide +kernel)
abbrev vG:Stmt:=top 56
theorem a3a:aZ ["numbers"] ["numbers"] (aW vG):=bO (by decide +kernel)
abbrev tM:Stmt:=top 77
theorem a3b:aZ ["text","n","stand","told","P","many"] ["text","n","stand"] (aW tM):=bO (by decide +kernel)
abbrev vH:Stmt:=top 58
theorem Iu:aZ ["names","items","words","item"] ["names","items"] (aW vH):=bO (by decide +kernel)
abbrev Iv:Stmt:=top 57
theorem Iw:aZ ["names","item"] ["names","item"] (aW Iv):=bO (by decide +kernel)
abbrev yz:Stmt:=top 59
theorem a3c:aZ ["P","names","items","rows"] ["P","names","items"] (aW yz):=bO (by decide +kernel)
abbrev yi:Stmt:=top 16
theorem a3d:aZ ["P","n","number","answer"] ["P","n"] (aW yi):=bO (by decide +kernel)
abbrev yG:Stmt:=top 34
theorem a3e:aZ ["P","row","number"] ["P","row","number"] (aW yG):=bO (by decide +kernel)
abbrev yM:Stmt:=top 36
theorem a3f:aZ ["P","x","form","by","numbers"] ["P","x","form"] (aW yM):=bO (by decide +kernel)
abbrev yN:Stmt:=top 37
theorem a3g:aZ ["P","x","form"] ["P","x","form"] (aW yN):=bO (by decide +kernel)
abbrev vN:Stmt:=top 40
theorem Iy:aZ ["P","many","items"] ["P","many","items"] (aW vN):=bO (by decide +kernel)
abbrev Iz:Stmt:=top 38
theorem IA:aZ ["P","many","n","items"] ["P","many","n","items"] (aW Iz):=bO (by decide +kernel)
abbrev IB:Stmt:=top 39
theorem IC:aZ ["P","many","item"] ["P","many","item"] (aW IB):=bO (by decide +kernel)
abbrev vO:Stmt:=top 78
theorem a3h:aZ ["text","told","P","names"] ["text"] (aW vO):=bO (by decide +kernel)
abbrev ID:Stmt:=top 89
theorem QC:aZ ["script","P","many","letter","names","stand","n","items","signs","end","told","lost","e"] ["script"] (aW ID):=bO (by decide +kernel)
noncomputable def KK(P:qV):aA :=
 (nat_lit 3,⟨(.type "dict"),none,.dict (HQ.en P "__name__" 165 (.str "law_longrounds_k91_whole_texts_led_and_undon" 777)::HQ.en P "__doc__" 166 .none::HQ.en P "__package__" 167 .none::HQ.en P "__loader__" 168 (.builtin "__main__.__loader__#opaque")::HQ.en P "__spec__" 169 .none::HQ.en P "__annotations__" 170 (.ref 6)::HQ.en P "__builtins__" 171 (.ref 4)::HQ.en P "__file__" 173 (.str "/claim/cut.py" 172)::HQ.en P "__cached__" 174 .none::HQ.en P "LongError" 206 (.ref 24)::HQ.en P "NoPrime" 222 (.ref 37)::HQ.en P "NoNumber" 238 (.ref 49)::HQ.en P "NoProgram" 254 (.ref 61)::HQ.en P "Lossy" 270 (.ref 73)::HQ.en P "NoText" 286 (.ref 85)::HQ.en P "LEAST_PRIME" 290 (.int 3 289)::HQ.en P "GREATEST_PRIME" 292 (.int 9999 291)::HQ.en P "is_whole" 299 (.ref 94)::HQ.en P "least_divisor" 307 (.ref 101)::HQ.en P "is_from" 316 (.ref 108)::HQ.en P "is_prime" 323 (.ref 115)::HQ.en P "prime" 330 (.ref 122)::HQ.en P "on" 338 (.ref 129)::HQ.en P "back" 348 (.ref 136)::HQ.en P "worth" 356 (.ref 141)::HQ.en P "turned" 362 (.ref 146)::HQ.en P "one_at" 368 (.ref 151)::HQ.en P "idle" 374 (.ref 156)::HQ.en P "column_sum" 380 (.ref 161)::HQ.en P "form_ahead" 386 (.ref 166)::HQ.en P "then" 392 (.ref 171)::HQ.en P "setting" 402 (.ref 178)::HQ.en P "ladder" 416 (.ref 185)::HQ.en P "rungs_for" 422 (.ref 190)::HQ.en P "rounds" 433 (.ref 197)::HQ.en P "table_of_item" 442 (.ref 204)::HQ.en P "table_of" 453 (.ref 211)::HQ.en P "after" 464 (.ref 218)::HQ.en P "times" 472 (.ref 223)::HQ.en P "undone_form" 485 (.ref 230)::HQ.en P "undone_set" 494 (.ref 237)::HQ.en P "undone_again" 504 (.ref 244)::HQ.en P "undone_item" 513 (.ref 251)::HQ.en P "undone" 519 (.ref 256)::HQ.en P "MOST_BOXES" 523 (.int 3 522)::HQ.en P "MOST_ITEMS" 525 (.int 30 524)::HQ.en P "MOST_DEEP" 527 (.int 3 526)::HQ.en P "items_counted" 537 (.ref 263)::HQ.en P "made_set" 543 (.ref 268)::HQ.en P "made_again" 554 (.ref 275)::HQ.en P "made_item" 564 (.ref 282)::HQ.en P "made_items" 570 (.ref 287)::HQ.en P "program" 579 (.ref 294)::HQ.en P "FIGURES" 583 (.str "0123456789" 582)::HQ.en P "MOST_FIGURES" 585 (.int 31 584)::HQ.en P "LETTERS" 587 (.str "abcdefghijklmnopqrstuvwxyz" 586)::HQ.en P "MOST_LETTERS" 589 (.int 8 588)::HQ.en P "written" 595 (.ref 299)::HQ.en P "words_of_item" 603 (.ref 306)::HQ.en P "words_of" 613 (.ref 313)::HQ.en P "show" 619 (.ref 318)::HQ.en P "is_made_of" 625 (.ref 323)::HQ.en P "number_from" 632 (.ref 330)::HQ.en P "number_on_wheel" 641 (.ref 337)::HQ.en P "taken" 647 (.ref 342)::HQ.en P "take_sign" 655 (.ref 349)::HQ.en P "set_from" 661 (.ref 354)::HQ.en P "again_from" 673 (.ref 361)::HQ.en P "item_from" 684 (.ref 368)::HQ.en P "items_from" 695 (.ref 375)::HQ.en P "words_behind" 704 (.ref 382)::HQ.en P "read_prime" 712 (.ref 389)::HQ.en P "is_name" 719 (.ref 396)::HQ.en P "read_names" 725 (.ref 401)::HQ.en P "read_items" 736 (.ref 408)::HQ.en P "read" 746 (.ref 415)::HQ.en P "stand_from" 754 (.ref 420)::HQ.en P "leads" 766 (.ref 427)::HQ.en P "undo" 776 (.ref 434)::HQ.en P "_law_cell" 786 (.ref 441)::HQ.en P "_law_prime" 792 (.ref 446)::HQ.en P "_law_digits" 803 (.ref 453)::HQ.en P "_law_count" 810 (.ref 460)::HQ.en P "_law_set" 822 (.ref 467)::HQ.en P "_law_items" 837 (.ref 474)::HQ.en P "_law_words" 843 (.ref 479)::HQ.en P "_law_loses" 851 (.ref 486)::HQ.en P "_law_row" 857 (.ref 491)::HQ.en P "law" 863 (.ref 496)::[]).toArray 89,#[]⟩) ::
 (nat_lit 23,⟨(.type "dict"),none,.dict (HQ.en P "__module__" 196 (.str "longrounds.errors" 187)::HQ.en P "__firstlineno__" 200 (.int 2 199)::HQ.en P "__static_attributes__" 201 (.ref 22)::HQ.en P "__weakref__" 203 (.ref 25)::HQ.en P "__doc__" 204 .none::[]).toArray 3,#[]⟩) ::
 (nat_lit 24,⟨(.type "type"),none,.cls { name:="LongError",bases:=[(.type "ValueError")],mro:=[(.ref 24),(.type "ValueError"),(.type "Exception"),(.type "BaseException"),(.type "object")],ns:=23,qualname:="LongError",hasDict:=true,slotNames:=[],subclasses:=[(.ref 37),(.ref 49),(.ref 61),(.ref 73),(.ref 85)],abstract:=false,collection:=none,hasDel:=false },([some (.ref 15),none,some (.str "LongError" 189),some (.str "LongError" 197),some (.builtin "ValueError.__new__"),some (.bool true)]).toArray⟩) ::
 (nat_lit 36,⟨(.type "dict"),none,.dict (HQ.en P "__module__" 214 (.str "longrounds.errors" 187)::HQ.en P "__firstlineno__" 218 (.int 4 217)::HQ.en P "__static_attributes__" 219 (.ref 35)::HQ.en P "__doc__" 220 .none::[]).toArray 2,#[]⟩) ::
 (nat_lit 37,⟨(.type "type"),none,.cls { name:="NoPrime",bases:=[(.ref 24)],mro:=[(.ref 37),(.ref 24),(.type "ValueError"),(.type "Exception"),(.type "BaseException"),(.type "object")],ns:=36,qualname:="NoPrime",hasDict:=true,slotNames:=[],subclasses:=[],abstract:=false,collection:=none,hasDel:=false },([some (.ref 28),none,some (.str "NoPrime" 207),some (.str "NoPrime" 215),some (.builtin "ValueError.__new__"),some (.bool true)]).toArray⟩) ::
 (nat_lit 48,⟨(.type "dict"),none,.dict (HQ.en P "__module__" 230 (.str "longrounds.errors" 187)::HQ.en P "__firstlineno__" 234 (.int 6 233)::HQ.en P "__static_attributes__" 235 (.ref 47)::HQ.en P "__doc__" 236 .none::[]).toArray 2,#[]⟩) ::
 (nat_lit 49,⟨(.type "type"),none,.cls { name:="NoNumber",bases:=[(.ref 24)],mro:=[(.ref 49),(.ref 24),(.type "ValueError"),(.type "Exception"),(.type "BaseException"),(.type "object")],ns:=48,qualname:="NoNumber",hasDict:=true,slotNames:=[],subclasses:=[],abstract:=false,collection:=none,hasDel:=false },([some (.ref 40),none,some (.str "NoNumber" 223),some (.str "NoNumber" 231),some (.builtin "ValueError.__new__"),some (.bool true)]).toArray⟩) ::
 (nat_lit 60,⟨(.type "dict"),none,.dict (HQ.en P "__module__" 246 (.str "longrounds.errors" 187)::HQ.en P "__firstlineno__" 250 (.int 8 249)::HQ.en P "__static_attributes__" 251 (.ref 59)::HQ.en P "__doc__" 252 .none::[]).toArray 2,#[]⟩) ::
 (nat_lit 61,⟨(.type "type"),none,.cls { name:="NoProgram",bases:=[(.ref 24)],mro:=[(.ref 61),(.ref 24),(.type "ValueError"),(.type "Exception"),(.type "BaseException"),(.type "object")],ns:=60,qualname:="NoProgram",hasDict:=true,slotNames:=[],subclasses:=[],abstract:=false,collection:=none,hasDel:=false },([some (.ref 52),none,some (.str "NoProgram" 239),some (.str "NoProgram" 247),some (.builtin "ValueError.__new__"),some (.bool true)]).toArray⟩) ::
 (nat_lit 72,⟨(.type "dict"),none,.dict (HQ.en P "__module__" 262 (.str "longrounds.errors" 187)::HQ.en P "__firstlineno__" 266 (.int 10 265)::HQ.en P "__static_attributes__" 267 (.ref 71)::HQ.en P "__doc__" 268 .none::[]).toArray 2,#[]⟩) ::
 (nat_lit 73,⟨(.type "type"),none,.cls { name:="Lossy",bases:=[(.ref 24)],mro:=[(.ref 73),(.ref 24),(.type "ValueError"),(.type "Exception"),(.type "BaseException"),(.type "object")],ns:=72,qualname:="Lossy",hasDict:=true,slotNames:=[],subclasses:=[],abstract:=false,collection:=none,hasDel:=false },([some (.ref 64),none,some (.str "Lossy" 255),some (.str "Lossy" 263),some (.builtin "ValueError.__new__"),some (.bool true)]).toArray⟩) ::
 (nat_lit 84,⟨(.type "dict"),none,.dict (HQ.en P "__module__" 278 (.str "longrounds.errors" 187)::HQ.en P "__firstlineno__" 282 (.int 12 281)::HQ.en P "__static_attributes__" 283 (.ref 83)::HQ.en P "__doc__" 284 .none::[]).toArray 2,#[]⟩) ::
 (nat_lit 85,⟨(.type "type"),none,.cls { name:="NoText",bases:=[(.ref 24)],mro:=[(.ref 85),(.ref 24),(.type "ValueError"),(.type "Exception"),(.type "BaseException"),(.type "object")],ns:=84,qualname:="NoText",hasDict:=true,slotNames:=[],subclasses:=[],abstract:=false,collection:=none,hasDel:=false },([some (.ref 76),none,some (.str "NoText" 271),some (.str "NoText" 279),some (.builtin "ValueError.__new__"),some (.bool true)]).toArray⟩) ::
 (nat_lit 93,HQ.cO "is_whole" 293 17 1 (.ref 88) (.ref 89) (.ref 90) (.ref 91) (.ref 92) 297) ::
 (nat_lit 94,HQ.fO "is_whole" (top 10) (.str "longrounds.numbers" 287) (.ref 93)) ::
 (nat_lit 100,HQ.cO "least_divisor" 300 19 1 (.ref 95) (.ref 96) (.ref 97) (.ref 98) (.ref 99) 305) ::
 (nat_lit 101,HQ.fO "least_divisor" (top 11) (.str "longrounds.numbers" 287) (.ref 100)) ::
 (nat_lit 107,HQ.cO "is_from" 308 26 3 (.ref 102) (.ref 103) (.ref 104) (.ref 105) (.ref 106) 314) ::
 (nat_lit 108,HQ.fO "is_from" (top 12) (.str "longrounds.numbers" 287) (.ref 107)) ::
 (nat_lit 114,HQ.cO "is_prime" 317 28 1 (.ref 109) (.ref 110) (.ref 111) (.ref 112) (.ref 113) 321) ::
 (nat_lit 115,HQ.fO "is_prime" (top 13) (.str "longrounds.numbers" 287) (.ref 114)) ::
 (nat_lit 121,HQ.cO "prime" 324 30 1 (.ref 116) (.ref 117) (.ref 118) (.ref 119) (.ref 120) 328) ::
 (nat_lit 122,HQ.fO "prime" (top 14) (.str "longrounds.numbers" 287) (.ref 121)) ::
 (nat_lit 128,HQ.cO "on" 331 34 2 (.ref 123) (.ref 124) (.ref 125) (.ref 126) (.ref 127) 336) ::
 (nat_lit 129,HQ.fO "on" (top 15) (.str "longrounds.numbers" 287) (.ref 128)) ::
 (nat_lit 135,HQ.cO "back" 339 36 2 (.ref 130) (.ref 131) (.ref 132) (.ref 133) (.ref 134) 346) ::
 (nat_lit 136,HQ.fO "back" (top 16) (.str "longrounds.numbers" 287) (.ref 135)) ::
 (nat_lit 140,HQ.cO "worth" 351 46 3 (.ref 137) (.ref 138) .none .none (.ref 139) 354) ::
 (nat_lit 141,HQ.fO "worth" (top 18) (.str "longrounds.tables" 349) (.ref 140)) ::
 (nat_lit 145,HQ.cO "turned" 357 49 3 (.ref 142) (.ref 143) .none .none (.ref 144) 360) ::
 (nat_lit 146,HQ.fO "turned" (top 19) (.str "longrounds.tables" 349) (.ref 145)) ::
 (nat_lit 150,HQ.cO "one_at" 363 51 2 (.ref 147) (.ref 148) .none .none (.ref 149) 366) ::
 (nat_lit 151,HQ.fO "one_at" (top 20) (.str "longrounds.tables" 349) (.ref 150)) ::
 (nat_lit 155,HQ.cO "idle" 369 53 1 (.ref 152) (.ref 153) .none .none (.ref 154) 372) ::
 (nat_lit 156,HQ.fO "idle" (top 21) (.str "longrounds.tables" 349) (.ref 155)) ::
 (nat_lit 160,HQ.cO "column_sum" 375 55 3 (.ref 157) (.ref 158) .none .none (.ref 159) 378) ::
 (nat_lit 161,HQ.fO "column_sum" (top 22) (.str "longrounds.tables" 349) (.ref 160)) ::
 (nat_lit 165,HQ.cO "form_ahead" 381 57 3 (.ref 162) (.ref 163) .none .none (.ref 164) 384) ::
 (nat_lit 166,HQ.fO "form_ahead" (top 23) (.str "longrounds.tables" 349) (.ref 165)) ::
 (nat_lit 170,HQ.cO "then" 387 62 3 (.ref 167) (.ref 168) .none .none (.ref 169) 390) ::
 (nat_lit 171,HQ.fO "then" (top 24) (.str "longrounds.tables" 349) (.ref 170)) ::
 (nat_lit 177,HQ.cO "setting" 393 64 3 (.ref 172) (.ref 173) (.ref 174) (.ref 175) (.ref 176) 400) ::
 (nat_lit 178,HQ.fO "setting" (top 25) (.str "longrounds.tables" 349) (.ref 177)) ::
 (nat_lit 184,HQ.cO "ladder" 405 69 3 (.ref 179) (.ref 180) (.ref 181) (.ref 182) (.ref 183) 414) ::
 (nat_lit 185,HQ.fO "ladder" (top 27) (.str "longrounds.making" 403) (.ref 184)) ::
 (nat_lit 189,HQ.cO "rungs_for" 417 76 2 (.ref 186) (.ref 187) .none .none (.ref 188) 420) ::
 (nat_lit 190,HQ.fO "rungs_for" (top 28) (.str "longrounds.making" 403) (.ref 189)) ::
 (nat_lit 196,HQ.cO "rounds" 423 78 3 (.ref 191) (.ref 192) (.ref 193) (.ref 194) (.ref 195) 431) ::
 (nat_lit 197,HQ.fO "rounds" (top 29) (.str "longrounds.making" 403) (.ref 196)) ::
 (nat_lit 203,HQ.cO "table_of_item" 434 83 3 (.ref 198) (.ref 199) (.ref 200) (.ref 201) (.ref 202) 440) ::
 (nat_lit 204,HQ.fO "table_of_item" (top 30) (.str "longrounds.making" 403) (.ref 203)) ::
 (nat_lit 210,HQ.cO "table_of" 443 87 3 (.ref 205) (.ref 206) (.ref 207) (.ref 208) (.ref 209) 451) ::
 (nat_lit 211,HQ.fO "table_of" (top 31) (.str "longrounds.making" 403) (.ref 210)) ::
 (nat_lit 217,HQ.cO "after" 454 92 5 (.ref 212) (.ref 213) (.ref 214) (.ref 215) (.ref 216) 462) ::
 (nat_lit 218,HQ.fO "after" (top 32) (.str "longrounds.making" 403) (.ref 217)) ::
 (nat_lit 222,HQ.cO "times" 467 95 3 (.ref 219) (.ref 220) .none .none (.ref 221) 470) ::
 (nat_lit 223,HQ.fO "times" (top 34) (.str "longrounds.solving" 465) (.ref 222)) ::
 (nat_lit 229,HQ.cO "undone_form" 475 98 3 (.ref 224) (.ref 225) (.ref 226) (.ref 227) (.ref 228) 483) ::
 (nat_lit 230,HQ.fO "undone_form" (top 36) (.str "longrounds.backs" 473) (.ref 229)) ::
 (nat_lit 236,HQ.cO "undone_set" 486 103 3 (.ref 231) (.ref 232) (.ref 233) (.ref 234) (.ref 235) 492) ::
 (nat_lit 237,HQ.fO "undone_set" (top 37) (.str "longrounds.backs" 473) (.ref 236)) ::
 (nat_lit 243,HQ.cO "undone_again" 495 107 4 (.ref 238) (.ref 239) (.ref 240) (.ref 241) (.ref 242) 502) ::
 (nat_lit 244,HQ.fO "undone_again" (top 38) (.str "longrounds.backs" 473) (.ref 243)) ::
 (nat_lit 250,HQ.cO "undone_item" 505 111 3 (.ref 245) (.ref 246) (.ref 247) (.ref 248) (.ref 249) 511) ::
 (nat_lit 251,HQ.fO "undone_item" (top 39) (.str "longrounds.backs" 473) (.ref 250)) ::
 (nat_lit 255,HQ.cO "undone" 514 115 3 (.ref 252) (.ref 253) .none .none (.ref 254) 517) ::
 (nat_lit 256,HQ.fO "undone" (top 40) (.str "longrounds.backs" 473) (.ref 255)) ::
 (nat_lit 262,HQ.cO "items_counted" 528 121 2 (.ref 257) (.ref 258) (.ref 259) (.ref 260) (.ref 261) 535) ::
 (nat_lit 263,HQ.fO "items_counted" (top 45) (.str "longrounds.programs" 520) (.ref 262)) ::
 (nat_lit 267,HQ.cO "made_set" 538 130 4 (.ref 264) (.ref 265) .none .none (.ref 266) 541) ::
 (nat_lit 268,HQ.fO "made_set" (top 46) (.str "longrounds.programs" 520) (.ref 267)) ::
 (nat_lit 274,HQ.cO "made_again" 544 136 5 (.ref 269) (.ref 270) (.ref 271) (.ref 272) (.ref 273) 552) ::
 (nat_lit 275,HQ.fO "made_again" (top 47) (.str "longrounds.programs" 520) (.ref 274)) ::
 (nat_lit 281,HQ.cO "made_item" 555 142 4 (.ref 276) (.ref 277) (.ref 278) (.ref 279) (.ref 280) 562) ::
 (nat_lit 282,HQ.fO "made_item" (top 48) (.str "longrounds.programs" 520) (.ref 281)) ::
 (nat_lit 286,HQ.cO "made_items" 565 146 4 (.ref 283) (.ref 284) .none .none (.ref 285) 568) ::
 (nat_lit 287,HQ.fO "made_items" (top 49) (.str "longrounds.programs" 520) (.ref 286)) ::
 (nat_lit 293,HQ.cO "program" 571 148 3 (.ref 288) (.ref 289) (.ref 290) (.ref 291) (.ref 292) 577) ::
 (nat_lit 294,HQ.fO "program" (top 50) (.str "longrounds.programs" 520) (.ref 293)) ::
 (nat_lit 298,HQ.cO "written" 590 159 1 (.ref 295) (.ref 296) .none .none (.ref 297) 593) ::
 (nat_lit 299,HQ.fO "written" (top 56) (.str "longrounds.texts" 580) (.ref 298)) ::
 (nat_lit 305,HQ.cO "words_of_item" 596 161 2 (.ref 300) (.ref 301) (.ref 302) (.ref 303) (.ref 304) 601) ::
 (nat_lit 306,HQ.fO "words_of_item" (top 57) (.str "longrounds.texts" 580) (.ref 305)) ::
 (nat_lit 312,HQ.cO "words_of" 604 165 2 (.ref 307) (.ref 308) (.ref 309) (.ref 310) (.ref 311) 611) ::
 (nat_lit 313,HQ.fO "words_of" (top 58) (.str "longrounds.texts" 580) (.ref 312)) ::
 (nat_lit 317,HQ.cO "show" 614 170 3 (.ref 314) (.ref 315) .none .none (.ref 316) 617) ::
 (nat_lit 318,HQ.fO "show" (top 59) (.str "longrounds.texts" 580) (.ref 317)) ::
 (nat_lit 322,HQ.cO "is_made_of" 620 173 3 (.ref 319) (.ref 320) .none .none (.ref 321) 623) ::
 (nat_lit 323,HQ.fO "is_made_of" (top 60) (.str "longrounds.texts" 580) (.ref 322)) ::
 (nat_lit 329,HQ.cO "number_from" 626 175 1 (.ref 324) (.ref 325) (.ref 326) (.ref 327) (.ref 328) 630) ::
 (nat_lit 330,HQ.fO "number_from" (top 61) (.str "longrounds.texts" 580) (.ref 329)) ::
 (nat_lit 336,HQ.cO "number_on_wheel" 633 179 2 (.ref 331) (.ref 332) (.ref 333) (.ref 334) (.ref 335) 639) ::
 (nat_lit 337,HQ.fO "number_on_wheel" (top 62) (.str "longrounds.texts" 580) (.ref 336)) ::
 (nat_lit 341,HQ.cO "taken" 642 184 2 (.ref 338) (.ref 339) .none .none (.ref 340) 645) ::
 (nat_lit 342,HQ.fO "taken" (top 63) (.str "longrounds.texts" 580) (.ref 341)) ::
 (nat_lit 348,HQ.cO "take_sign" 648 188 2 (.ref 343) (.ref 344) (.ref 345) (.ref 346) (.ref 347) 653) ::
 (nat_lit 349,HQ.fO "take_sign" (top 64) (.str "longrounds.texts" 580) (.ref 348)) ::
 (nat_lit 353,HQ.cO "set_from" 656 191 3 (.ref 350) (.ref 351) .none .none (.ref 352) 659) ::
 (nat_lit 354,HQ.fO "set_from" (top 65) (.str "longrounds.texts" 580) (.ref 353)) ::
 (nat_lit 360,HQ.cO "again_from" 662 197 4 (.ref 355) (.ref 356) (.ref 357) (.ref 358) (.ref 359) 671) ::
 (nat_lit 361,HQ.fO "again_from" (top 66) (.str "longrounds.texts" 580) (.ref 360)) ::
 (nat_lit 367,HQ.cO "item_from" 674 205 4 (.ref 362) (.ref 363) (.ref 364) (.ref 365) (.ref 366) 682) ::
 (nat_lit 368,HQ.fO "item_from" (top 67) (.str "longrounds.texts" 580) (.ref 367)) ::
 (nat_lit 374,HQ.cO "items_from" 685 212 4 (.ref 369) (.ref 370) (.ref 371) (.ref 372) (.ref 373) 693) ::
 (nat_lit 375,HQ.fO "items_from" (top 68) (.str "longrounds.texts" 580) (.ref 374)) ::
 (nat_lit 381,HQ.cO "words_behind" 696 217 2 (.ref 376) (.ref 377) (.ref 378) (.ref 379) (.ref 380) 702) ::
 (nat_lit 382,HQ.fO "words_behind" (top 69) (.str "longrounds.texts" 580) (.ref 381)) ::
 (nat_lit 388,HQ.cO "read_prime" 705 222 1 (.ref 383) (.ref 384) (.ref 385) (.ref 386) (.ref 387) 710) ::
 (nat_lit 389,HQ.fO "read_prime" (top 70) (.str "longrounds.texts" 580) (.ref 388)) ::
 (nat_lit 395,HQ.cO "is_name" 713 229 1 (.ref 390) (.ref 391) (.ref 392) (.ref 393) (.ref 394) 717) ::
 (nat_lit 396,HQ.fO "is_name" (top 71) (.str "longrounds.texts" 580) (.ref 395)) ::
 (nat_lit 400,HQ.cO "read_names" 720 231 1 (.ref 397) (.ref 398) .none .none (.ref 399) 723) ::
 (nat_lit 401,HQ.fO "read_names" (top 72) (.str "longrounds.texts" 580) (.ref 400)) ::
 (nat_lit 407,HQ.cO "read_items" 726 237 3 (.ref 402) (.ref 403) (.ref 404) (.ref 405) (.ref 406) 734) ::
 (nat_lit 408,HQ.fO "read_items" (top 73) (.str "longrounds.texts" 580) (.ref 407)) ::
 (nat_lit 414,HQ.cO "read" 737 246 1 (.ref 409) (.ref 410) (.ref 411) (.ref 412) (.ref 413) 744) ::
 (nat_lit 415,HQ.fO "read" (top 74) (.str "longrounds.texts" 580) (.ref 414)) ::
 (nat_lit 419,HQ.cO "stand_from" 749 254 3 (.ref 416) (.ref 417) .none .none (.ref 418) 752) ::
 (nat_lit 420,HQ.fO "stand_from" (top 76) (.str "longrounds.desk" 747) (.ref 419)) ::
 (nat_lit 426,HQ.cO "leads" 755 258 3 (.ref 421) (.ref 422) (.ref 423) (.ref 424) (.ref 425) 764) ::
 (nat_lit 427,HQ.fO "leads" (top 77) (.str "longrounds.desk" 747) (.ref 426)) ::
 (nat_lit 433,HQ.cO "undo" 767 263 1 (.ref 428) (.ref 429) (.ref 430) (.ref 431) (.ref 432) 774) ::
 (nat_lit 434,HQ.fO "undo" (top 78) (.str "longrounds.desk" 747) (.ref 433)) ::
 (nat_lit 440,HQ.cO "_law_cell" 779 269 2 (.ref 435) (.ref 436) (.ref 437) (.ref 438) (.ref 439) 784) ::
 (nat_lit 441,HQ.fO "_law_cell" (top 80) (.str "law_longrounds_k91_whole_texts_led_and_undon" 777) (.ref 440)) ::
 (nat_lit 445,HQ.cO "_law_prime" 787 273 1 (.ref 442) (.ref 443) .none .none (.ref 444) 790) ::
 (nat_lit 446,HQ.fO "_law_prime" (top 81) (.str "law_longrounds_k91_whole_texts_led_and_undon" 777) (.ref 445)) ::
 (nat_lit 452,HQ.cO "_law_digits" 793 280 3 (.ref 447) (.ref 448) (.ref 449) (.ref 450) (.ref 451) 801) ::
 (nat_lit 453,HQ.fO "_law_digits" (top 82) (.str "law_longrounds_k91_whole_texts_led_and_undon" 777) (.ref 452)) ::
 (nat_lit 459,HQ.cO "_law_count" 804 286 1 (.ref 454) (.ref 455) (.ref 456) (.ref 457) (.ref 458) 808) ::
 (nat_lit 460,HQ.fO "_law_count" (top 83) (.str "law_longrounds_k91_whole_texts_led_and_undon" 777) (.ref 459)) ::
 (nat_lit 466,HQ.cO "_law_set" 811 288 4 (.ref 461) (.ref 462) (.ref 463) (.ref 464) (.ref 465) 820) ::
 (nat_lit 467,HQ.fO "_law_set" (top 84) (.str "law_longrounds_k91_whole_texts_led_and_undon" 777) (.ref 466)) ::
 (nat_lit 473,HQ.cO "_law_items" 823 294 4 (.ref 468) (.ref 469) (.ref 470) (.ref 471) (.ref 472) 835) ::
 (nat_lit 474,HQ.fO "_law_items" (top 85) (.str "law_longrounds_k91_whole_texts_led_and_undon" 777) (.ref 473)) ::
 (nat_lit 478,HQ.cO "_law_words" 838 308 2 (.ref 475) (.ref 476) .none .none (.ref 477) 841) ::
 (nat_lit 479,HQ.fO "_law_words" (top 86) (.str "law_longrounds_k91_whole_texts_led_and_undon" 777) (.ref 478)) ::
 (nat_lit 485,HQ.cO "_law_loses" 844 316 1 (.ref 480) (.ref 481) (.ref 482) (.ref 483) (.ref 484) 849) ::
 (nat_lit 486,HQ.fO "_law_loses" (top 87) (.str "law_longrounds_k91_whole_texts_led_and_undon" 777) (.ref 485)) ::
 (nat_lit 490,HQ.cO "_law_row" 852 323 1 (.ref 487) (.ref 488) .none .none (.ref 489) 855) ::
 (nat_lit 491,HQ.fO "_law_row" (top 88) (.str "law_longrounds_k91_whole_texts_led_and_undon" 777) (.ref 490)) ::
 (nat_lit 495,HQ.cO "law" 858 325 1 (.ref 492) (.ref 493) .none .none (.ref 494) 861) ::
 (nat_lit 496,HQ.fO "law" (top 89) (.str "law_longrounds_k91_whole_texts_led_and_undon" 777) (.ref 495))::[]
def ks:List Addr:=[3,23,24,36,37,48,49,60,61,72,73,84,85,93,94,100,101,107,108,114,115,121,122,128,129,135,136,140,141,145,146,150,151,155,156,160,161,165,166,170,171,177,178,184,185,189,190,196,197,203,204,210,211,217,218,222,223,229,230,236,237,243,244,250,251,255,256,262,263,267,268,274,275,281,282,286,287,293,294,298,299,305,306,312,313,317,318,322,323,329,330,336,337,341,342,348,349,353,354,360,361,367,368,374,375,381,382,388,389,395,396,400,401,407,408,414,415,419,420,426,427,433,434,440,441,445,446,452,453,459,460,466,467,473,474,478,479,485,486,490,491,495,496]
structure Bi (E:Ev):Prop where
 ba:E.mg "ValueError"=none
 bb:E.mg "all"=none
 bc:E.mg "any"=none
 bd:E.mg "bool"=none
 be:E.mg "enumerate"=none
 bf:E.mg "int"=none
 bg:E.mg "isinstance"=none
 bh:E.mg "len"=none
 bi:E.mg "list"=none
 bj:E.mg "max"=none
 bk:E.mg "min"=none
 bl:E.mg "range"=none
 bm:E.mg "reversed"=none
 bn:E.mg "set"=none
 bo:E.mg "str"=none
 bp:E.mg "sum"=none
 bq:E.mg "tuple"=none
 br:E.mg "FIGURES"=some (.str "0123456789" 582)
 bs:E.mg "GREATEST_PRIME"=some (.int 9999 291)
 bt:E.mg "LEAST_PRIME"=some (.int 3 289)
 bu:E.mg "LETTERS"=some (.str "abcdefghijklmnopqrstuvwxyz" 586)
 bv:E.mg "MOST_BOXES"=some (.int 3 522)
 bw:E.mg "MOST_DEEP"=some (.int 3 526)
 bx:E.mg "MOST_FIGURES"=some (.int 31 584)
 bz:E.mg "MOST_ITEMS"=some (.int 30 524)
 ca:E.mg "MOST_LETTERS"=some (.int 8 588)
 cb:E.mg "NoPrime"=some (.ref 37)
 cc:E.mg "NoNumber"=some (.ref 49)
 cd:E.mg "NoProgram"=some (.ref 61)
 ce:E.mg "Lossy"=some (.ref 73)
 cf:E.mg "NoText"=some (.ref 85)
 cg:E.mg "LongError"=some (.ref 24)
 ch:oz E.K E.mg .fK 73
 ci:oz E.K E.mg .nE 49
 cj:oz E.K E.mg .oV 37
 ck:oz E.K E.mg .jW 61
 cl:oz E.K E.mg .iB 85
 cm:zk E.K (.ref 73) .fK
 cn:zk E.K (.type "ValueError") .AW
 co:jN E.K 24
 cp:∀(c:Er) (C:Addr),E.mg c.nm=some (.ref C)->fv E.K cQ c.nm=some (some (.ref C))/\uu E.K C (.ref 24)=some true
section
variable {E:Ev}(B:Bi E)
abbrev QD (E:Ev):Prop:=bV E 1 "_law_cell" ["script","k"] o7
abbrev IE (E:Ev):Prop:=bV E 1 "_law_digits" ["cell","P","size"] ve
abbrev QE (E:Ev):Prop:=bV E 1 "_law_count" ["cell"] ES
abbrev QF (E:Ev):Prop:=bV E 2 "_law_set" ["cell","more","P","many"] EU
abbrev QG (E:Ev):Prop:=bV E 3 "_law_items" ["cells","P","many","agains"] Bq
abbrev h_s (E:Ev):Prop:=bV E 13 "_law_loses" ["items"] (rY 12)
abbrev QH (E:Ev):Prop:=bV E 1 "_law_prime" ["cell"] Bf
abbrev QI (E:Ev):Prop:=bV E 1 "_law_row" ["numbers"] yO
abbrev h_A (E:Ev):Prop:=mY E 13 "_law_words" ["names","items"] (rV 12)
abbrev QJ (E:Ev):Prop:=bV E 1 "one_at" ["width","place"] EB
abbrev CL (E:Ev):Prop:=bV E 2 "idle" ["many"] xY
abbrev QK (E:Ev):Prop:=bV E 1 "column_sum" ["form","table","place"] Ez
abbrev wj (E:Ev):Prop:=bV E 1 "on" ["P","n"] o8
abbrev QL (E:Ev):Prop:=bV E 2 "form_ahead" ["P","table","form"] EA
abbrev CM (E:Ev):Prop:=bV E 3 "then" ["P","one","other"] xX
abbrev QM (E:Ev):Prop:=mY E 4 "ladder" ["P","table","n"] EW
abbrev QN (E:Ev):Prop:=mY E 1 "rungs_for" ["rungs","n"] EX
abbrev IF (E:Ev):Prop:=bV E 5 "rounds" ["P","table","n"] Br
abbrev QO (E:Ev):Prop:=bV E 3 "setting" ["many","x","form"] EC
abbrev h_O (E:Ev):Prop:=bV E 17 "table_of" ["P","many","items"] (nX 12)
abbrev QP (E:Ev):Prop:=bV E 2 "worth" ["P","form","stand"] xW
abbrev QQ (E:Ev):Prop:=bV E 3 "turned" ["P","table","stand"] Bg
abbrev IG (E:Ev):Prop:=bV E 18 "after" ["P","many","items","n","stand"] Bu
abbrev IH (E:Ev):Prop:=bV E 1 "is_made_of" ["word","signs","most"] tG
abbrev CN (E:Ev):Prop:=bV E 2 "number_from" ["word"] yq
abbrev CO (E:Ev):Prop:=pw E 1 "taken" ["words","count"] 0 rW
abbrev QR (E:Ev):Prop:=pw E 2 "take_sign" ["words","sign"] 0 BD
abbrev QS (E:Ev):Prop:=bV E 3 "number_on_wheel" ["P","word"] Fi
abbrev QT (E:Ev):Prop:=pw E 4 "set_from" ["P","names","words"] 2 Fm
abbrev h_q (E:Ev):Prop:=pw E 16 "items_from" ["P","names","words","around"] 2 (kB 12)
abbrev QU (E:Ev):Prop:=bV E 1 "is_whole" ["thing"] Bn
abbrev wk (E:Ev):Prop:=bV E 2 "is_from" ["thing","least","most"] rQ
abbrev h_c (E:Ev):Prop:=bV E 13 "items_counted" ["items","ahead"] (rU 12)
abbrev QV (E:Ev):Prop:=bV E 3 "made_set" ["P","many","x","form"] E9
abbrev h_m (E:Ev):Prop:=bV E 15 "made_items" ["P","many","items","around"] (kA 12)
abbrev QW (E:Ev):Prop:=bV E 1 "least_divisor" ["n"] EO
abbrev II (E:Ev):Prop:=bV E 3 "is_prime" ["thing"] Bo
abbrev QX (E:Ev):Prop:=bV E 4 "prime" ["thing"] ER
abbrev QY (E:Ev):Prop:=bV E 16 "program" ["P","many","items"] BB
abbrev QZ (E:Ev):Prop:=bV E 17 "read_items" ["P","names","words"] BH
abbrev Q0 (E:Ev):Prop:=bV E 2 "is_name" ["word"] yr
abbrev Q2 (E:Ev):Prop:=bV E 3 "read_names" ["words"] Fs
abbrev Q3 (E:Ev):Prop:=bV E 4 "read_prime" ["words"] Ft
abbrev Q4 (E:Ev):Prop:=mY E 1 "words_behind" ["row","first"] vw
abbrev IJ (E:Ev):Prop:=bV E 18 "read" ["text"] BI
abbrev Q5 (E:Ev):Prop:=bV E 3 "stand_from" ["P","many","numbers"] FQ
abbrev IK (E:Ev):Prop:=mY E 1 "written" ["numbers"] yt
abbrev Q6 (E:Ev):Prop:=bV E 19 "leads" ["text","n","stand"] yP
abbrev h_K (E:Ev):Prop:=mY E 13 "words_of" ["names","items"] (o_ 12)
abbrev Q7 (E:Ev):Prop:=bV E 14 "show" ["P","names","items"] Fv
abbrev Q8 (E:Ev):Prop:=bV E 2 "back" ["P","n"] vf
abbrev Q9 (E:Ev):Prop:=bV E 2 "times" ["P","row","number"] FF
abbrev Q_ (E:Ev):Prop:=bV E 3 "undone_form" ["P","x","form"] FH
abbrev Ra (E:Ev):Prop:=bV E 4 "undone_set" ["P","x","form"] FJ
abbrev h_V (E:Ev):Prop:=bV E 16 "undone" ["P","many","items"] (kC 12)
abbrev Rb (E:Ev):Prop:=bV E 19 "undo" ["text"] BW
theorem f_G{E:Ev}(B:Bi E)(u_G:Own E "_law_cell" HL ["script","k"]):QD E:=by
 exact c5 u_G a1n rfl rfl λ_ _ _ _ _ _ _ hr hu nd=>(aM (dz (cK B4 (af 1) (eS iG B.bh (by decide +kernel) (ai (af 0) az)) (b_ _)) (aL (bN (bF (af 0) (af 1)))) dI)
  (aL (bN aC)))
theorem f_h{E:Ev}(B:Bi E)(u_h:Own E "_law_digits" HM ["cell","P","size"]):IE E:=by
 exact c5 u_h a1o rfl rfl λ_ _ _ _ _ _ _ hr hu nd=>(aM (kd 3 (g9 az) nd)
  (aM (qC 4 lM rfl (r9 (af 2) B.bl)
  (aM (Ci 3 (PD.ro (aX gQ (af 0) (af 1))))
  (aL (cB 0 (PD.ro (aX mI (af 0) (af 1))) nd))) nd)
  (aL (bN (fC iH B.bq (by decide +kernel) (ai (af 3) az))))))
theorem f_z{E:Ev}(u_z:Own E "_law_count" HN ["cell"]):QE E:=by
 exact c5 u_z a1p rfl rfl λ_ _ _ _ _ _ _ hr hu nd=>(aL (bN (bF (PF.pd (g9 (ai (aX gQ (aX mI (af 0) aC) aC) (ai (aX gQ (aX mI (af 0) aC) aC) (ai (aX gQ (aX mI (af 0) aC) (aX fP (aX Ga aC aC) aC)) az))))) (aX gQ (af 0) aC))))
theorem f_N{E:Ev}(u_N:Own E "_law_set" HP ["cell","more","P","many"])(wm:IE E):QF E:=by
 obtain⟨_,_,IL,IM⟩:=wm.up (k':=1) (by lia)
 exact c5 u_N a1q rfl rfl λ_ _ _ _ _ _ _ hr hu nd=>(aM (cB 4 (PD.ro (aX gQ (af 0) (af 3))) nd)
  (aM (cB 5 (PD.ro (a9 IL hr IM (ai (af 1) (ai (af 2) (ai (aX fP (af 3) aC) az))))) nd)
  (aM (dz (i6.pt (r0 (cK (gd hu) (bF (af 5) (af 4)) aC (b_ _)) (vQ (cK yX (aX gQ (aX mI (af 0) aC) aC) aC (b_ _))))) (aL (cB 5 (PD.ro (aX fP (aX fP (ug (af 5) uf (qE (af 4))) (mH (ai (aX fP aC (aX gQ (aX mI (af 0) aC) (aX vS (af 2) aC))) az))) (ug (af 5) (qE (aX fP (af 4) aC)) uf))) nd)) dI)
  (aL (bN (mH (ai bL (ai (af 4) (ai (af 5) az)))))))))
theorem f_r{E:Ev}(B:Bi E)(u_r:Own E "_law_items" HR ["cells","P","many","agains"])(IP:QE E)(IQ:QF E):QG E:=by
 obtain⟨_,_,F_z,m_z⟩:=IP.up (k':=2) (by lia)
 obtain⟨_,_,F_N,m_N⟩:=IQ.up (k':=2) (by lia)
 exact c5 u_r a1r rfl rfl λ_ _ _ _ _ _ _ hr hu nd=>(aM (kd 4 (g9 az) nd)
  (aM (kd 5 (g9 az) nd)
  (aM (qC 6 lM rfl (Z_ aC (aX vS (eS (OT rfl) B.bk (by decide +kernel) (ai (eS iG B.bh (by decide +kernel) (ai (af 0) az)) (ai aC az))) aC) aC B.bl)
  (aM (cB 7 (PD.ro (aX vS (eS iG B.bh (by decide +kernel) (ai (af 4) az)) (eS (OT rfl) B.bk (by decide +kernel) (ai (aX gQ (aX mI (bF (af 0) (af 6)) aC) aC) (ai (eS iG B.bh (by decide +kernel) (ai (af 4) az)) az))))) nd)
  (aM (cB 8 (PD.ro (aX fP aC (eS (w4f rfl) B.bj (by decide +kernel) (ai (PF.pd (zo (PF.pd (g9 (ai aC az))) (ug (af 5) (qE (af 7)) uf))) az)))) nd)
  (aL (dz (i6.pt (r0 (cK (gd hu) (aX gQ (bF (af 0) (af 6)) aC) aC (b_ _)) (r0 (cK B4 (af 8) aC (b_ _)) (vQ (cK yX (af 3) aC (b_ _)))))) (aM (kd 4 (zo (ug (af 4) uf (qE (af 7))) (PF.pd (g9 (ai (mH (ai bL (ai (a9 F_z hr m_z (ai (bF (af 0) (aX fP (af 6) aC)) az)) (ai (fC iH B.bq (by decide +kernel) (ai (ug (af 4) (qE (af 7)) uf) az)) az)))) az)))) nd)
  (aM (kd 5 (zo (ug (af 5) uf (qE (af 7))) (PF.pd (g9 (ai (af 8) az)))) nd)
  (aL (cB 3 (PD.ro (aX vS (af 3) aC)) nd)))) (aM (Ci 4 (PD.ro (a9 F_N hr m_N (ai (aX mI (bF (af 0) (af 6)) aC) (ai (bF (af 0) (aX fP (af 6) aC)) (ai (af 1) (ai (af 2) az)))))))
  (aL (Ci 5 (PD.ro aC)))))))) nd)
  (aL (bN (fC iH B.bq (by decide +kernel) (ai (af 4) az)))))))
theorem f_s{E:Ev}(u_s:Own E "_law_loses" HS ["items"]):∀n:Nat,bV E (1+n) "_law_loses" ["items"] (rY n):=by
 obtain⟨a_s,d_s,Rc,Rf,CP⟩:=u_s
 have A:∀n:Nat,eN E.P E.w E.K E.mg E.base (1+n) a_s d_s ["items"] (rY n):=by
  intro n
  induction n with
  | zero=>exact pj (k:=0) Rc HU Rf
  | succ n ih =>
    have IS:=ih
    ·refine mR (k:=1+n) Rc HU Rf (λds h=>fX h) λaY A outer s H E hr=>?_
     have nd:=HU.nd
     have hu:=hr.units
     refine⟨BV (rY n),?_,λds aS=>(kx (fX aS)).symm⟩
     exact(aM (qC 1 lM rfl (r8 (g8 0))
     (aM (dz (i6.pt (r0 (cK (gd hu) (bF (af 1) aC) bL (b_ _)) (vQ (cK (gd hu) (bF (bF (af 1) aC) (bF (af 1) aC)) aC (b_ _))))) (aL (bN tO)) dI)
     (aL (dz (i6.pt (r0 (cK (gd hu) (bF (af 1) aC) bL (b_ _)) (r0 (cK yX (bF (af 1) aC) aC (b_ _)) (vQ (lB (a9 IS hr CP (ai (bF (af 1) aC) az))))))) (aL (bN tO)) dI))) nd)
     (aL (bN tO)))
 exact λn=>⟨_,_,(A n),CP⟩
theorem f_u{E:Ev}(B:Bi E)(u_u:Own E "_law_prime" HV ["cell"]):QH E:=by
 exact c5 u_u a1s rfl rfl λ_ _ _ _ _ _ _ hr hu nd=>(aM (dz (cK (gd hu) (aX gQ (af 0) aC) aC (b_ _)) (aL (bN (bF (mH ZV) (aX gQ (aX mI (af 0) aC) aC)))) dI)
  (aM (cB 1 (PD.ro (aX fP aC (aX gQ (aX mI (af 0) aC) aC))) nd)
  (aM (G1 10000 lM (lB (eS (ZA rfl) B.bc (by decide +kernel) (ai (PF.pd (i7 (kG.qu (ZE aC aC B.bl)) (ZI (λ_ _ _ _ _=>(cK B4 (af 0) (af 2) (b_ _))) (λ_ _ _ _ _=>(PD.ro (qp (gd hu) (aX gQ (af 2) (af 0)) aC (b_ _))))) nd rfl)) az))) (aL (cB 1 (PD.ro (aX fP (af 1) aC)) nd)))
  (aL (bN (af 1))))))
theorem f_M{E:Ev}(B:Bi E)(u_M:Own E "_law_row" HW ["numbers"]):QI E:=by
 exact c5 u_M a1t rfl rfl λ_ _ _ _ _ _ _ hr hu nd=>(aL (bN (wb (PF.pd (i7 (pf (af 0)) (ig (λ_ _ _ _ _=>(PD.ro (fC uj B.bo (by decide +kernel) (ai (af 0) az))))) nd rfl)))))
theorem f_A{E:Ev}(B:Bi E)(u_A:Own E "_law_words" HX ["names","items"]):∀n:Nat,mY E (1+n) "_law_words" ["names","items"] (rV n):=by
 obtain⟨a_A,d_A,Rg,Rh,CQ⟩:=u_A
 have A:∀n:Nat,mL E.P E.w E.K E.mg E.base (1+n) a_A d_A ["names","items"] (rV n):=by
  intro n
  induction n with
  | zero=>exact Ha (k:=0) Rg HY Rh
  | succ n ih =>
    have IT:=ih
    ·refine Cp (k:=1+n) Rg HY Rh (λds h=>rF h) λaY A outer s H E hr=>?_
     have nd:=HY.nd
     have hu:=hr.units
     refine⟨BC (rV n),?_,λds aS=>(xO (rF aS)).symm⟩
     exact(aM (kd 2 (g9 az) nd)
     (aM (qC 3 lM rfl (r8 (g8 1))
     (aL (dz (cK (gd hu) (bF (af 3) aC) bL (b_ _)) (aL (kd 2 (qt (zo (af 2) (PF.pd (g9 (ai bL (ai (bF (af 0) (bF (af 3) aC)) az))))) (i7 (pf (bF (af 3) aC)) (ig (λ_ _ _ _ _=>(PD.ro (fC uj B.bo (by decide +kernel) (ai (af 0) az))))) nd rfl)) nd)) (aL (kd 2 (qt (qt (zo (af 2) (PF.pd (g9 (ai bL (ai (fC uj B.bo (by decide +kernel) (ai (bF (af 3) aC) az)) (ai bL az)))))) (mO IT hr CQ (ai (af 0) (ai (bF (af 3) aC) az)))) (g9 (ai bL az))) nd)))) nd)
     (aL (GR 2))))
 exact λn=>⟨_,_,(A n),CQ⟩
theorem f_U{E:Ev}(B:Bi E)(u_U:Own E "one_at" yg ["width","place"]):QJ E:=by
 exact c5 u_U a1u rfl rfl λ_ _ _ _ _ _ _ hr hu nd=>(aL (bN (fC iH B.bq (by decide +kernel) (ai (PF.pd (i7 (kG.qu (r9 (af 0) B.bl)) (ig (λ_ _ _ _ _=>(PD.ro (Zl (cK (gd hu) (af 0) (af 2) (b_ _)) aC aC)))) nd rfl)) az))))
theorem a3i{E:Ev}(B:Bi E)(a3j:Own E "idle" tx ["many"])(IU:QJ E):CL E:=by
 obtain⟨_,_,F_U,m_U⟩:=IU.up (k':=1) (by lia)
 exact c5 a3j a1v rfl rfl λ_ _ _ _ _ _ _ hr hu nd=>(aL (bN (fC iH B.bq (by decide +kernel) (ai (PF.pd (i7 (kG.qu (r9 (af 0) B.bl)) (ig (λ_ _ _ _ _=>(PD.ro (mM F_U hr m_U (ai (aX fP (af 1) aC) (ai (af 0) az)))))) nd rfl)) az))))
theorem f_t{E:Ev}(B:Bi E)(u_t:Own E "column_sum" ye ["form","table","place"]):QK E:=by
 exact c5 u_t a1w rfl rfl λ_ _ _ _ _ _ _ hr hu nd=>(aL (bN (eS (OU rfl) B.bp (by decide +kernel) (ai (PF.pd (i7 (kG.qu (r9 (eS iG B.bh (by decide +kernel) (ai (af 1) az)) B.bl)) (ig (λ_ _ _ _ _=>(PD.ro (aX yY (bF (af 1) (af 0)) (bF (bF (af 2) (af 0)) (af 3)))))) nd rfl)) az))))
theorem a3k{E:Ev}(a3l:Own E "on" s_on ["P","n"]):wj E:=by
 exact c5 a3l w7b rfl rfl λ_ _ _ _ _ _ _ hr hu nd=>(aL (bN (aX gQ (af 1) (af 0))))
theorem f_w{E:Ev}(B:Bi E)(u_w:Own E "form_ahead" yf ["P","table","form"])(IV:QK E)(kj:wj E):QL E:=by
 obtain⟨_,_,F_t,m_t⟩:=IV.up (k':=1) (by lia)
 obtain⟨_,_,pz,pA⟩:=kj.up (k':=1) (by lia)
 exact c5 u_w a1x rfl rfl λ_ _ _ _ _ _ _ hr hu nd=>(aM (cB 3 (PD.ro (eS iG B.bh (by decide +kernel) (ai (af 1) az))) nd)
  (aM (O3 4 (kG.qu (r9 (aX fP (af 3) aC) B.bl)) (ig (λ_ _ _ _ _=>(PD.ro (mM F_t hr m_t (ai (af 3) (ai (af 2) (ai (af 0) az))))))) nd rfl)
  (aM (GW 4 (af 3) (PD.ro (aX fP (bF (af 4) (af 3)) (bF (af 2) (af 3)))))
  (aL (bN (fC iH B.bq (by decide +kernel) (ai (PF.pd (i7 (pf (af 4)) (ig (λ_ _ _ _ _=>(PD.ro (mM pz hr pA (ai (af 1) (ai (af 0) az)))))) nd rfl)) az)))))))
theorem a3m{E:Ev}(B:Bi E)(a3n:Own E "then" tw ["P","one","other"])(IW:QL E):CM E:=by
 obtain⟨_,_,F_w,m_w⟩:=IW.up (k':=2) (by lia)
 exact c5 a3n a1y rfl rfl λ_ _ _ _ _ _ _ hr hu nd=>(aL (bN (fC iH B.bq (by decide +kernel) (ai (PF.pd (i7 (pf (af 2)) (ig (λ_ _ _ _ _=>(PD.ro (mM F_w hr m_w (ai (af 1) (ai (af 2) (ai (af 0) az))))))) nd rfl)) az))))
theorem f_W{E:Ev}(B:Bi E)(u_W:Own E "ladder" ym ["P","table","n"])(qJ:CM E):QM E:=by
 obtain⟨_,_,zF,zG⟩:=qJ.up (k':=3) (by lia)
 exact CK u_W a1z rfl rfl λ_ _ _ _ _ _ _ hr hu nd=>(aM (kd 3 (g9 az) nd)
  (aM (cB 4 (PD.ro (af 1)) nd)
  (aM (qC 5 lM rfl (r9 (w2m (af 2)) B.bl)
  (aM (Ci 3 (PD.ro (af 4)))
  (aL (cB 4 (PD.ro (a9 zF hr zG (ai (af 0) (ai (af 4) (ai (af 4) az))))) nd))) nd)
  (aL (GR 3)))))
theorem f_D{E:Ev}(B:Bi E)(u_D:Own E "rungs_for" yn ["rungs","n"]):QN E:=by
 exact CK u_D a2a rfl rfl λ_ _ _ _ _ _ _ hr hu nd=>(aL (y7 (x8r (x4s (af 0) B.be) (x8u (λ_ _ _ _ _=>(cK (gd hu) (aX gQ (aX w5q (af 3) (af 0)) aC) aC (b_ _))) (λ_ _ _ _ _=>(PD.ro (af 1)))) nd rfl)))
theorem f_X{E:Ev}(B:Bi E)(u_X:Own E "rounds" vp ["P","table","n"])(qK:CL E)(IX:QM E)(IY:QN E)(qJ:CM E):IF E:=by
 obtain⟨_,_,zH,zI⟩:=qK.up (k':=4) (by lia)
 obtain⟨_,_,F_W,m_W⟩:=IX.up (k':=4) (by lia)
 obtain⟨_,_,F_D,m_D⟩:=IY.up (k':=4) (by lia)
 obtain⟨_,_,zF,zG⟩:=qJ.up (k':=4) (by lia)
 exact c5 u_X a2b rfl rfl λ_ _ _ _ _ _ _ hr hu nd=>(aM (cB 3 (PD.ro (a9 zH hr zI (ai (eS iG B.bh (by decide +kernel) (ai (af 1) az)) az))) nd)
  (aM (qC 4 lM rfl (r8 (PF.ro (mO F_D hr m_D (ai (PF.pd (mO F_W hr m_W (ai (af 0) (ai (af 1) (ai (af 2) az))))) (ai (af 2) az)))))
  (aL (cB 3 (PD.ro (a9 zF hr zG (ai (af 0) (ai (af 3) (ai (af 4) az))))) nd)) nd)
  (aL (bN (af 3)))))
theorem f_P{E:Ev}(B:Bi E)(u_P:Own E "setting" yh ["many","x","form"])(qK:CL E):QO E:=by
 obtain⟨_,_,zH,zI⟩:=qK.up (k':=2) (by lia)
 exact c5 u_P a2c rfl rfl λ_ _ _ _ _ _ _ hr hu nd=>(aM (kd 3 (B8 (a9 zH hr zI (ai (af 0) az)) B.bi (by decide +kernel)) nd)
  (aM (GW 3 (af 1) (PD.ro (fC iH B.bq (by decide +kernel) (ai (af 2) az))))
  (aL (bN (fC iH B.bq (by decide +kernel) (ai (af 3) az))))))
theorem f_O{E:Ev}(u_O:Own E "table_of" vt ["P","many","items"])(u_b:Own E "table_of_item" H0 ["P","many","item"])(qK:CL E)(qJ:CM E)(wo:IF E)(IZ:QO E):∀n:Nat,bV E (5+n) "table_of" ["P","many","items"] (nX n)/\bV E (5+n) "table_of_item" ["P","many","item"] (ql n):=by
 obtain⟨a_O,d_O,Ri,Rj,CS⟩:=u_O
 obtain⟨a_b,d_b,Rk,Rl,Rm⟩:=u_b
 have A:∀n:Nat,eN E.P E.w E.K E.mg E.base (5+n) a_O d_O ["P","many","items"] (nX n)/\eN E.P E.w E.K E.mg E.base (5+n) a_b d_b ["P","many","item"] (ql n):=by
  intro n
  induction n with
  | zero=>exact⟨pj (k:=4) Ri HZ Rj,pj (k:=4) Rk H4 Rl⟩
  | succ n ih =>
    obtain⟨I8,F_b⟩:=ih
    obtain⟨_,_,zH,zI⟩:=qK.up (k':=5+n) (by lia)
    obtain⟨_,_,zF,zG⟩:=qJ.up (k':=5+n) (by lia)
    obtain⟨_,_,I9,I_⟩:=wo.up (k':=5+n) (by lia)
    obtain⟨_,_,F_P,m_P⟩:=IZ.up (k':=5+n) (by lia)
    refine⟨?_,?_⟩
    ·refine mR (k:=5+n) Ri HZ Rj (λds h=>fX h) λaY A outer s H E hr=>?_
     have nd:=HZ.nd
     have hu:=hr.units
     refine⟨Bs (nX n) (ql n),?_,λds aS=>(kx (fX aS)).symm⟩
     exact(aM (cB 3 (PD.ro (a9 zH hr zI (ai (af 1) az))) nd)
     (aM (qC 4 lM rfl (r8 (g8 2))
     (aL (cB 3 (PD.ro (a9 zF hr zG (ai (af 0) (ai (af 3) (ai (a9 F_b hr Rm (ai (af 0) (ai (af 1) (ai (af 4) az)))) az))))) nd)) nd)
     (aL (bN (af 3)))))
    ·refine mR (k:=5+n) Rk H4 Rl (λds h=>fX h) λaY A outer s H E hr=>?_
     have nd:=H4.nd
     have hu:=hr.units
     refine⟨Bt (nX n) (ql n),?_,λds aS=>(kx (fX aS)).symm⟩
     exact(aM (dz (cK (gd hu) (bF (af 2) aC) bL (b_ _)) (aL (bN (a9 F_P hr m_P (ai (af 1) (ai (bF (af 2) aC) (ai (bF (af 2) aC) az)))))) dI)
     (aL (bN (a9 I9 hr I_ (ai (af 0) (ai (a9 I8 hr CS (ai (af 0) (ai (af 1) (ai (bF (af 2) aC) az)))) (ai (bF (af 2) aC) az)))))))
 exact λn=>⟨⟨_,_,(A n).1,CS⟩,⟨_,_,(A n).2,Rm⟩⟩
theorem a3o{E:Ev}(B:Bi E)(a3p:Own E "worth" x9 ["P","form","stand"])(kj:wj E):QP E:=by
 obtain⟨_,_,pz,pA⟩:=kj.up (k':=1) (by lia)
 exact c5 a3p a2d rfl rfl λ_ _ _ _ _ _ _ hr hu nd=>(aM (cB 3 (PD.ro (eS iG B.bh (by decide +kernel) (ai (af 2) az))) nd)
  (aL (bN (a9 pz hr pA (ai (af 0) (ai (aX fP (eS (OU rfl) B.bp (by decide +kernel) (ai (PF.pd (i7 (kG.qu (r9 (af 3) B.bl)) (ig (λ_ _ _ _ _=>(PD.ro (aX yY (bF (af 2) (af 0)) (bF (af 3) (af 0)))))) nd rfl)) az)) (bF (af 1) (af 3))) az))))))
theorem f_Y{E:Ev}(B:Bi E)(u_Y:Own E "turned" x_ ["P","table","stand"])(Ja:QP E):QQ E:=by
 obtain⟨_,_,a3q,a3r⟩:=Ja.up (k':=2) (by lia)
 exact c5 u_Y a2e rfl rfl λ_ _ _ _ _ _ _ hr hu nd=>(aL (bN (fC iH B.bq (by decide +kernel) (ai (PF.pd (i7 (pf (af 1)) (ig (λ_ _ _ _ _=>(PD.ro (mM a3q hr a3r (ai (af 1) (ai (af 0) (ai (af 3) az))))))) nd rfl)) az))))
theorem a3s{E:Ev}(a3t:Own E "after" vv ["P","many","items","n","stand"])(wo:IF E)(Jb:h_O E)(Jc:QQ E):IG E:=by
 obtain⟨_,_,I9,I_⟩:=wo.up (k':=17) (by lia)
 obtain⟨_,_,I8,CS⟩:=Jb.up (k':=17) (by lia)
 obtain⟨_,_,F_Y,m_Y⟩:=Jc.up (k':=17) (by lia)
 exact c5 a3t a2f rfl rfl λ_ _ _ _ _ _ _ hr hu nd=>(aL (bN (a9 F_Y hr m_Y (ai (af 0) (ai (a9 I9 hr I_ (ai (af 0) (ai (a9 I8 hr CS (ai (af 0) (ai (af 1) (ai (af 2) az)))) (ai (af 3) az)))) (ai (af 4) az))))))
theorem f_v{E:Ev}(B:Bi E)(u_v:Own E "is_made_of" H8 ["word","signs","most"]):IH E:=by
 exact c5 u_v a2g rfl rfl λ_ _ _ _ _ _ _ hr hu nd=>(aL (bN (r6 (qp yW aC (eS P6 B.bh (by decide +kernel) (ai (af 0) az)) (b_ _)) (r6 (qp yW (eS P6 B.bh (by decide +kernel) (ai (af 0) az)) (af 2) (b_ _)) (vR (eS (Hj rfl) B.bb (by decide +kernel) (ai (PF.pd (i7 (x8p (af 0)) (ig (λ_ _ _ _ _=>(PD.ro (qp w5r (af 0) (af 2) rfl)))) nd rfl)) az)))))))
theorem f_k{E:Ev}(B:Bi E)(u_k:Own E "number_from" tH ["word"])(wq:IH E):CN E:=by
 obtain⟨_,_,Jd,Je⟩:=wq.up (k':=1) (by lia)
 exact c5 u_k a2h rfl rfl λ_ _ _ _ _ _ _ hr hu nd=>(aM (dz (i6.pt (yU (pe (lB (a9 Jd hr Je (ai (af 0) (ai (QA B.br ⟨_,rfl⟩) (ai (qD B.bx ⟨_,rfl⟩) az)))))) (B1 (i6.pt (r0 (cK (gd hu) (P7 (af 0) aC) bL (b_ _)) (vQ (cK (mJ hu) (af 0) bL (b_ _)))))))) (aL (iN B.cl bL rfl)) dI)
  (aL (bN (fC w4g B.bf (by decide +kernel) (ai (af 0) az)))))
theorem a3u{E:Ev}(B:Bi E)(a3v:Own E "taken" vA ["words","count"]):CO E:=by
 exact HK a3v a2i rfl rfl λ_ _ _ _ _ _ _ hr hu nd=>(PW.e (mX (Ht (cK B4 (eS iG B.bh (by decide +kernel) (ai (af 0) az)) (af 1) (b_ _)) HF Hs)
  (w2e (af 1) (λ_ _ _ _ _=>w7l 1) nd rfl B.bl)))
theorem f_F{E:Ev}(u_F:Own E "take_sign" H9 ["words","sign"])(qL:CO E):QR E:=by
 obtain⟨_,_,um,uo⟩:=qL.up (k':=1) (by lia)
 exact HK u_F a2j rfl rfl λ_ _ _ _ _ _ _ hr hu nd=>(qH.e (P1 (x4r (mJ hu) (mW um hr uo (mT 0 rfl (gS (PD.ro aC) jO))) (PF.pd (g9 (ai (af 1) az))))))
theorem f_a{E:Ev}(B:Bi E)(u_a:Own E "number_on_wheel" H_ ["P","word"])(qM:CN E):QS E:=by
 obtain⟨_,_,zJ,zK⟩:=qM.up (k':=2) (by lia)
 exact c5 u_a a2k rfl rfl λ_ _ _ _ _ _ _ hr hu nd=>(aM (cB 2 (PD.ro (a9 zJ hr zK (ai (af 1) az))) nd)
  (aM (dz (cK Gb (af 2) (af 0) (b_ _)) (aL (iN B.cl bL rfl)) dI)
  (aL (bN (af 2)))))
theorem f_I{E:Ev}(B:Bi E)(u_I:Own E "set_from" yv ["P","names","words"])(Jf:QS E)(qL:CO E):QT E:=by
 obtain⟨_,_,F_a,m_a⟩:=Jf.up (k':=3) (by lia)
 obtain⟨_,_,um,uo⟩:=qL.up (k':=3) (by lia)
 exact HK u_I a2l rfl rfl λ_ _ _ _ _ _ _ hr hu nd=>(PW.e (mX (zB 3 (HA (mW um hr uo (mT 2 rfl (gS (PD.ro aC) jO))) aC) nd)
  (mX (Ht (cK (Qw hu) (af 3) (af 1) rfl) HF Hs)
  (mX (y8v 4 (mW um hr uo (mT 2 rfl (gS (PD.ro (aX fP (eS iG B.bh (by decide +kernel) (ai (af 1) az)) aC)) jO))) (ig (λ_ _ _ _ _=>(PD.ro (mM F_a hr m_a (ai (af 1) (ai (af 0) az)))))) nd rfl)
  (Hv (Po (gS (PD.ro bL) (gS (PD.ro (x5a (af 1) (af 3))) (gS (PD.ro (fC iH B.bq (by decide +kernel) (ai (af 4) az))) jO)))))))))
theorem f_y{E:Ev}(B:Bi E)(u_y:Own E "again_from" Ia ["P","names","words","around"])(u_E:Own E "item_from" Ic ["P","names","words","around"])(u_q:Own E "items_from" vE ["P","names","words","around"])(qM:CN E)(Jg:QR E)(qL:CO E)(Jh:QT E):∀n:Nat,pw E (4+n) "again_from" ["P","names","words","around"] 2 (mz n)/\pw E (4+n) "item_from" ["P","names","words","around"] 2 (mB n)/\pw E (4+n) "items_from" ["P","names","words","around"] 2 (kB n):=by
 obtain⟨a_y,d_y,Rn,Ro,Rp⟩:=u_y
 obtain⟨a_E,d_E,Rq,Rr,Rt⟩:=u_E
 obtain⟨a_q,d_q,Ru,Rw,CT⟩:=u_q
 have A:∀n:Nat,mS E.P E.w E.K E.mg E.base (4+n) a_y d_y ["P","names","words","around"] 2 (mz n)/\mS E.P E.w E.K E.mg E.base (4+n) a_E d_E ["P","names","words","around"] 2 (mB n)/\mS E.P E.w E.K E.mg E.base (4+n) a_q d_q ["P","names","words","around"] 2 (kB n):=by
  intro n
  induction n with
  | zero=>exact⟨HG (k:=3) Rn Ib Ro,HG (k:=3) Rq Ie Rr,HG (k:=3) Ru Ig Rw⟩
  | succ n ih =>
    obtain⟨F_y,F_E,Ji⟩:=ih
    obtain⟨_,_,zJ,zK⟩:=qM.up (k':=4+n) (by lia)
    obtain⟨_,_,Rx,Ry⟩:=Jg.up (k':=4+n) (by lia)
    obtain⟨_,_,um,uo⟩:=qL.up (k':=4+n) (by lia)
    obtain⟨_,_,F_I,m_I⟩:=Jh.up (k':=4+n) (by lia)
    refine⟨?_,?_,?_⟩
    ·refine zD (k:=4+n) Rn Ib Ro (λds h=>rK h) λaY A outer s H E hr=>?_
     have nd:=Ib.nd
     have hu:=hr.units
     refine⟨BE (mz n) (mB n) (kB n),?_,λas ws bs hi aS _=>(o6 hi (rK aS)).symm⟩
     exact(PW.e (mX (Ht (cK Gb (af 3) (qD B.bw ⟨_,rfl⟩) (b_ _)) HF Hs)
     (mX (zB 4 (x4v zJ hr zK (HA (mW um hr uo (mT 2 rfl (gS (PD.ro aC) jO))) aC)) nd)
     (mX (Qk (mW Rx hr Ry (mT 2 rfl (gS (PD.ro bL) jO))))
     (mX (zB 5 (mW Ji hr CT (pv (g8 0) (pv (g8 1) (mT 2 rfl (gS (PD.ro (aX fP (af 3) aC)) jO))))) nd)
     (mX (Qk (mW Rx hr Ry (mT 2 rfl (gS (PD.ro bL) jO))))
     (Hv (Po (gS (PD.ro bL) (gS (g8 4) (gS (g8 5) jO)))))))))))
    ·refine zD (k:=4+n) Rq Ie Rr (λds h=>rK h) λaY A outer s H E hr=>?_
     have nd:=Ie.nd
     have hu:=hr.units
     refine⟨BF (mz n) (mB n) (kB n),?_,λas ws bs hi aS _=>(o6 hi (rK aS)).symm⟩
     exact(PW.e (mX (zB 4 (HA (mW um hr uo (mT 2 rfl (gS (PD.ro aC) jO))) aC) nd)
     (Qf (cK (gd hu) (af 4) bL (b_ _)) (Qg (mW F_I hr m_I (pv (g8 0) (pv (g8 1) (mT 2 rfl jO)))))
     (Qf (cK (gd hu) (af 4) bL (b_ _)) (Qg (mW F_y hr Rp (pv (g8 0) (pv (g8 1) (mT 2 rfl (gS (g8 3) jO))))))
     Qz))))
    ·refine zD (k:=4+n) Ru Ig Rw (λds h=>rK h) λaY A outer s H E hr=>?_
     have nd:=Ig.nd
     have hu:=hr.units
     refine⟨BG (mz n) (mB n) (kB n),?_,λas ws bs hi aS _=>(o6 hi (rK aS)).symm⟩
     exact(PW.e (mX (w2g 4 (g9 az) nd)
     (mX (x8n 200 lM (i6.pt (r0 (Hf (af 2)) (vQ (cK (mJ hu) (bF (af 2) (F_ aC)) bL (b_ _))))) (P1 (w2i 4 (mW F_E hr Rt (pv (g8 0) (pv (g8 1) (mT 2 rfl (gS (g8 3) jO))))))))
     (Hv (PD.ro (fC iH B.bq (by decide +kernel) (ai (af 4) az)))))))
 exact λn=>⟨⟨_,_,(A n).1,Rp⟩,⟨_,_,(A n).2.1,Rt⟩,⟨_,_,(A n).2.2,CT⟩⟩
theorem f_L{E:Ev}(B:Bi E)(u_L:Own E "is_whole" yj ["thing"]):QU E:=by
 exact c5 u_L a2m rfl rfl λ_ _ _ _ _ _ _ hr hu nd=>(aL (bN (r6 (G6 A2 (af 0) B.bg (λI q=>iA I rfl B.bf (by decide +kernel) q) ZX) (vR (Zk (G6 A3 (af 0) B.bg (λI q=>iA I rfl B.bd (by decide +kernel) q) ZY))))))
theorem f_S{E:Ev}(u_S:Own E "is_from" qk ["thing","least","most"])(Jj:QU E):wk E:=by
 obtain⟨_,_,F_L,m_L⟩:=Jj.up (k':=1) (by lia)
 exact c5 u_S a2n rfl rfl λ_ _ _ _ _ _ _ hr hu nd=>(aL (bN (r6 (a9 F_L hr m_L (ai (af 0) az)) (r6 (qp yW (af 1) (af 0) (b_ _)) (vR (qp yW (af 0) (af 2) (b_ _)))))))
theorem f_c{E:Ev}(B:Bi E)(u_c:Own E "items_counted" Ih ["items","ahead"]):∀n:Nat,bV E (1+n) "items_counted" ["items","ahead"] (rU n):=by
 obtain⟨a_c,d_c,Rz,RA,CU⟩:=u_c
 have A:∀n:Nat,eN E.P E.w E.K E.mg E.base (1+n) a_c d_c ["items","ahead"] (rU n):=by
  intro n
  induction n with
  | zero=>exact pj (k:=0) Rz Ii RA
  | succ n ih =>
    have Jk:=ih
    ·refine mR (k:=1+n) Rz Ii RA (λds h=>fX h) λaY A outer s H E hr=>?_
     have nd:=Ii.nd
     have hu:=hr.units
     refine⟨Bx (rU n),?_,λds aS=>(kx (fX aS)).symm⟩
     exact(aM (cB 2 (PD.ro (af 1)) nd)
     (aM (qC 3 lM rfl (r8 (g8 0))
     (aM (cB 2 (PD.ro (aX fP (af 2) aC)) nd)
     (aM (dz (cK yX (af 2) (qD B.bz ⟨_,rfl⟩) (b_ _)) (aL (iN B.ck bL rfl)) dI)
     (aL (dz (cK (gd hu) (bF (af 3) aC) bL (b_ _)) (aL (cB 2 (PD.ro (a9 Jk hr CU (ai (bF (af 3) aC) (ai (af 2) az)))) nd)) dI)))) nd)
     (aL (bN (af 2)))))
 exact λn=>⟨_,_,(A n),CU⟩
theorem f_J{E:Ev}(B:Bi E)(u_J:Own E "made_set" yo ["P","many","x","form"])(kl:wk E)(kj:wj E):QV E:=by
 obtain⟨_,_,qN,qO⟩:=kl.up (k':=2) (by lia)
 obtain⟨_,_,pz,pA⟩:=kj.up (k':=2) (by lia)
 exact c5 u_J a2o rfl rfl λ_ _ _ _ _ _ _ hr hu nd=>(aM (dz (pe (lB (a9 qN hr qO (ai (af 2) (ai aC (ai (aX vS (af 1) aC) az)))))) (aL (iN B.ck bL rfl)) dI)
  (aM (dz (cK (mJ hu) (eS iG B.bh (by decide +kernel) (ai (af 3) az)) (aX fP (af 1) aC) (b_ _)) (aL (iN B.ck bL rfl)) dI)
  (aL (bN (mH (ai bL (ai (af 2) (ai (fC iH B.bq (by decide +kernel) (ai (PF.pd (i7 (pf (af 3)) (ig (λ_ _ _ _ _=>(PD.ro (mM pz hr pA (ai (af 1) (ai (af 0) az)))))) nd rfl)) az)) az))))))))
theorem f_o{E:Ev}(B:Bi E)(u_o:Own E "made_again" Ij ["P","many","n","items","around"])(u_C:Own E "made_item" Il ["P","many","item","around"])(u_m:Own E "made_items" Io ["P","many","items","around"])(kl:wk E)(Jl:QV E):∀n:Nat,bV E (3+n) "made_again" ["P","many","n","items","around"] (mx n)/\bV E (3+n) "made_item" ["P","many","item","around"] (my n)/\bV E (3+n) "made_items" ["P","many","items","around"] (kA n):=by
 obtain⟨a_o,d_o,RB,RC,RD⟩:=u_o
 obtain⟨a_C,d_C,RE,RF,RG⟩:=u_C
 obtain⟨a_m,d_m,RH,RI,CV⟩:=u_m
 have A:∀n:Nat,eN E.P E.w E.K E.mg E.base (3+n) a_o d_o ["P","many","n","items","around"] (mx n)/\eN E.P E.w E.K E.mg E.base (3+n) a_C d_C ["P","many","item","around"] (my n)/\eN E.P E.w E.K E.mg E.base (3+n) a_m d_m ["P","many","items","around"] (kA n):=by
  intro n
  induction n with
  | zero=>exact⟨pj (k:=2) RB Ik RC,pj (k:=2) RE Im RF,pj (k:=2) RH Ip RI⟩
  | succ n ih =>
    obtain⟨F_o,F_C,Jm⟩:=ih
    obtain⟨_,_,qN,qO⟩:=kl.up (k':=3+n) (by lia)
    obtain⟨_,_,F_J,m_J⟩:=Jl.up (k':=3+n) (by lia)
    refine⟨?_,?_,?_⟩
    ·refine mR (k:=3+n) RB Ik RC (λds h=>fX h) λaY A outer s H E hr=>?_
     have nd:=Ik.nd
     have hu:=hr.units
     refine⟨By (mx n) (my n) (kA n),?_,λds aS=>(kx (fX aS)).symm⟩
     exact(aM (dz (cK Gb (af 4) (qD B.bw ⟨_,rfl⟩) (b_ _)) (aL (iN B.ck bL rfl)) dI)
     (aM (dz (pe (lB (a9 qN hr qO (ai (af 2) (ai aC (ai (aX Ga aC aC) az)))))) (aL (iN B.ck bL rfl)) dI)
     (aL (bN (mH (ai bL (ai (af 2) (ai (a9 Jm hr CV (ai (af 0) (ai (af 1) (ai (af 3) (ai (aX fP (af 4) aC) az))))) az))))))))
    ·refine mR (k:=3+n) RE Im RF (λds h=>fX h) λaY A outer s H E hr=>?_
     have nd:=Im.nd
     have hu:=hr.units
     refine⟨Bz (mx n) (my n) (kA n),?_,λds aS=>(kx (fX aS)).symm⟩
     exact(aM (dz (cK (gd hu) (bF (af 2) aC) bL (b_ _)) (aL (bN (a9 F_J hr m_J (ai (af 0) (ai (af 1) (ai (bF (af 2) aC) (ai (bF (af 2) aC) az))))))) dI)
     (aL (bN (a9 F_o hr RD (ai (af 0) (ai (af 1) (ai (bF (af 2) aC) (ai (bF (af 2) aC) (ai (af 3) az)))))))))
    ·refine mR (k:=3+n) RH Ip RI (λds h=>fX h) λaY A outer s H E hr=>?_
     have nd:=Ip.nd
     have hu:=hr.units
     refine⟨BA (mx n) (my n) (kA n),?_,λds aS=>(kx (fX aS)).symm⟩
     exact(aL (bN (fC iH B.bq (by decide +kernel) (ai (PF.pd (i7 (kG.qu (r8 (g8 2))) (ig (λ_ _ _ _ _=>(PD.ro (mM F_C hr RG (ai (af 1) (ai (af 2) (ai (af 0) (ai (af 4) az)))))))) nd rfl)) az))))
 exact λn=>⟨⟨_,_,(A n).1,RD⟩,⟨_,_,(A n).2.1,RG⟩,⟨_,_,(A n).2.2,CV⟩⟩
theorem f_e{E:Ev}(u_e:Own E "least_divisor" Iq ["n"]):QW E:=by
 exact c5 u_e a2p rfl rfl λ_ _ _ _ _ _ _ hr hu nd=>(aM (cB 1 (PD.ro aC) nd)
  (aM (G1 10000 lM (cK yW (aX yY (af 1) (af 1)) (af 0) (b_ _)) (aM (dz (cK (gd hu) (aX gQ (af 0) (af 1)) aC (b_ _)) (aL (bN (af 1))) dI)
  (aL (cB 1 (PD.ro (aX fP (af 1) aC)) nd))))
  (aL (bN (af 0)))))
theorem f_H{E:Ev}(B:Bi E)(u_H:Own E "is_prime" vj ["thing"])(kl:wk E)(Jn:QW E):II E:=by
 obtain⟨_,_,qN,qO⟩:=kl.up (k':=2) (by lia)
 obtain⟨_,_,F_e,m_e⟩:=Jn.up (k':=2) (by lia)
 exact c5 u_H a2q rfl rfl λ_ _ _ _ _ _ _ hr hu nd=>(aL (bN (r6 (a9 qN hr qO (ai (af 0) (ai (qD B.bt ⟨_,rfl⟩) (ai (qD B.bs ⟨_,rfl⟩) az)))) (vR (qp (gd hu) (a9 F_e hr m_e (ai (af 0) az)) (af 0) (b_ _))))))
theorem f_Z{E:Ev}(B:Bi E)(u_Z:Own E "prime" xZ ["thing"])(wt:II E):QX E:=by
 obtain⟨_,_,Jo,Jp⟩:=wt.up (k':=3) (by lia)
 exact c5 u_Z a2r rfl rfl λ_ _ _ _ _ _ _ hr hu nd=>(aM (dz (pe (lB (a9 Jo hr Jp (ai (af 0) az)))) (aL (iN B.cj bL rfl)) dI)
  (aL (bN (af 0))))
theorem f_Q{E:Ev}(B:Bi E)(u_Q:Own E "program" yp ["P","many","items"])(kl:wk E)(Jq:h_c E)(Jr:h_m E)(Js:QX E):QY E:=by
 obtain⟨_,_,qN,qO⟩:=kl.up (k':=15) (by lia)
 obtain⟨_,_,Jk,CU⟩:=Jq.up (k':=15) (by lia)
 obtain⟨_,_,Jm,CV⟩:=Jr.up (k':=15) (by lia)
 obtain⟨_,_,F_Z,m_Z⟩:=Js.up (k':=15) (by lia)
 exact c5 u_Q a2s rfl rfl λ_ _ _ _ _ _ _ hr hu nd=>(aM (Pg (a9 F_Z hr m_Z (ai (af 0) az)))
  (aM (dz (pe (lB (a9 qN hr qO (ai (af 1) (ai aC (ai (qD B.bv ⟨_,rfl⟩) az)))))) (aL (iN B.ck bL rfl)) dI)
  (aM (Pg (a9 Jk hr CU (ai (af 2) (ai aC az))))
  (aL (bN (a9 Jm hr CV (ai (af 0) (ai (af 1) (ai (af 2) (ai aC az))))))))))
theorem f_p{E:Ev}(B:Bi E)(u_p:Own E "read_items" yF ["P","names","words"])(Jt:h_q E)(Ju:QY E):QZ E:=by
 obtain⟨_,_,Ji,CT⟩:=Jt.up (k':=16) (by lia)
 obtain⟨_,_,F_Q,m_Q⟩:=Ju.up (k':=16) (by lia)
 exact c5 u_p a2t rfl rfl λ_ _ _ _ _ _ _ hr hu nd=>(aM (kd 3 (x2b (af 2) B.bm B.bi rfl) nd)
  (aM (PK.pq (zB 4 (mW Ji hr CT (pv (g8 0) (pv (g8 1) (mT 3 rfl (gS (PD.ro aC) jO))))) nd))
  (aM (dz (Hf (af 3)) (aL (iN B.cl bL rfl)) dI)
  (aL (w2f (aL (bN (a9 F_Q hr m_Q (ai (af 0) (ai (eS iG B.bh (by decide +kernel) (ai (af 1) az)) (ai (af 4) az)))))))))))
theorem f_R{E:Ev}(B:Bi E)(u_R:Own E "is_name" yD ["word"])(wq:IH E):Q0 E:=by
 obtain⟨_,_,Jd,Je⟩:=wq.up (k':=1) (by lia)
 exact c5 u_R a2u rfl rfl λ_ _ _ _ _ _ _ hr hu nd=>(aL (bN (r6 (a9 Jd hr Je (ai (af 0) (ai (QA B.bu ⟨_,rfl⟩) (ai (qD B.ca ⟨_,rfl⟩) az)))) (vR (qp (Qw hu) (af 0) (mH (ai bL (ai bL az))) rfl)))))
theorem f_l{E:Ev}(B:Bi E)(u_l:Own E "read_names" yE ["words"])(Jv:Q0 E):Q2 E:=by
 obtain⟨_,_,F_R,m_R⟩:=Jv.up (k':=2) (by lia)
 exact c5 u_l a2v rfl rfl λ_ _ _ _ _ _ _ hr hu nd=>(aM (dz (i6.pt (yU (pe (Hf (af 0))) (yU (cK yX (eS iG B.bh (by decide +kernel) (ai (af 0) az)) (qD B.bv ⟨_,rfl⟩) (b_ _)) (B1 (cK (mJ hu) (x8s (af 0) B.bh B.bn rfl) (eS iG B.bh (by decide +kernel) (ai (af 0) az)) (b_ _)))))) (aL (iN B.cl bL rfl)) dI)
  (aM (dz (pe (lB (eS (Hj rfl) B.bb (by decide +kernel) (ai (PF.pd (i7 (pf (af 0)) (ig (λ_ _ _ _ _=>(PD.ro (mM F_R hr m_R (ai (af 0) az))))) nd rfl)) az)))) (aL (iN B.cl bL rfl)) dI)
  (aL (bN (fC iH B.bq (by decide +kernel) (ai (af 0) az))))))
theorem f_B{E:Ev}(B:Bi E)(u_B:Own E "read_prime" yC ["words"])(wt:II E)(qM:CN E):Q3 E:=by
 obtain⟨_,_,Jo,Jp⟩:=wt.up (k':=3) (by lia)
 obtain⟨_,_,zJ,zK⟩:=qM.up (k':=3) (by lia)
 exact c5 u_B a2w rfl rfl λ_ _ _ _ _ _ _ hr hu nd=>(aM (dz (cK (mJ hu) (eS iG B.bh (by decide +kernel) (ai (af 0) az)) aC (b_ _)) (aL (iN B.cl bL rfl)) dI)
  (aM (cB 1 (PD.ro (a9 zJ hr zK (ai (bF (af 0) aC) az))) nd)
  (aM (dz (pe (lB (a9 Jo hr Jp (ai (af 1) az)))) (aL (iN B.cl bL rfl)) dI)
  (aL (bN (af 1))))))
theorem f_f{E:Ev}(B:Bi E)(u_f:Own E "words_behind" Ir ["row","first"]):Q4 E:=by
 exact CK u_f a2x rfl rfl λ_ _ _ _ _ _ _ hr hu nd=>(aM (kd 2 (P_ (af 0)) nd)
  (aM (dz (cK (mJ hu) (bF (af 2) aC) (af 1) (b_ _)) (aL (iN B.cl bL rfl)) dI)
  (aL (y7 (w7o (af 2) (qE aC) uf)))))
theorem a3w{E:Ev}(B:Bi E)(a3x:Own E "read" vL ["text"])(Jw:QZ E)(Jy:Q2 E)(Jz:Q3 E)(JA:Q4 E):IJ E:=by
 obtain⟨_,_,F_p,m_p⟩:=Jw.up (k':=17) (by lia)
 obtain⟨_,_,F_l,m_l⟩:=Jy.up (k':=17) (by lia)
 obtain⟨_,_,F_B,m_B⟩:=Jz.up (k':=17) (by lia)
 obtain⟨_,_,JB,JE⟩:=JA.up (k':=17) (by lia)
 exact c5 a3x a2y rfl rfl λ_ _ _ _ _ _ _ hr hu nd=>(aM (kd 1 (P_ (af 0)) nd)
  (aM (dz (cK (mJ hu) (eS iG B.bh (by decide +kernel) (ai (af 1) az)) aC (b_ _)) (aL (iN B.cl bL rfl)) dI)
  (aM (cB 2 (PD.ro (a9 F_B hr m_B (ai (PF.pd (mO JB hr JE (ai (bF (af 1) aC) (ai bL az)))) az))) nd)
  (aM (cB 3 (PD.ro (a9 F_l hr m_l (ai (PF.pd (mO JB hr JE (ai (bF (af 1) aC) (ai bL az)))) az))) nd)
  (aL (bN (mH (ai (af 2) (ai (af 3) (ai (a9 F_p hr m_p (ai (af 2) (ai (af 3) (ai (PF.pd (mO JB hr JE (ai (bF (af 1) aC) (ai bL az)))) az)))) az))))))))))
theorem f_x{E:Ev}(B:Bi E)(u_x:Own E "stand_from" yQ ["P","many","numbers"])(kl:wk E):Q5 E:=by
 obtain⟨_,_,qN,qO⟩:=kl.up (k':=2) (by lia)
 exact c5 u_x a2z rfl rfl λ_ _ _ _ _ _ _ hr hu nd=>(aM (dz (i6.pt (yU (cK (mJ hu) (eS iG B.bh (by decide +kernel) (ai (af 2) az)) (af 1) (b_ _)) (B1 (pe (lB (eS (Hj rfl) B.bb (by decide +kernel) (ai (PF.pd (i7 (pf (af 2)) (ig (λ_ _ _ _ _=>(PD.ro (mM qN hr qO (ai (af 0) (ai aC (ai (aX vS (af 1) aC) az))))))) nd rfl)) az))))))) (aL (iN B.cl bL rfl)) dI)
  (aL (bN (fC iH B.bq (by decide +kernel) (ai (af 2) az)))))
theorem f_T{E:Ev}(B:Bi E)(u_T:Own E "written" vG ["numbers"]):IK E:=by
 exact CK u_T a3a rfl rfl λ_ _ _ _ _ _ _ hr hu nd=>(aL (y7 (i7 (pf (af 0)) (ig (λ_ _ _ _ _=>(PD.ro (fC uj B.bo (by decide +kernel) (ai (af 0) az))))) nd rfl)))
theorem a3y{E:Ev}(B:Bi E)(a3z:Own E "leads" tM ["text","n","stand"])(wu:IG E)(wx:IJ E)(JF:Q5 E)(wy:IK E):Q6 E:=by
 obtain⟨_,_,JG,JH⟩:=wu.up (k':=18) (by lia)
 obtain⟨_,_,JI,JJ⟩:=wx.up (k':=18) (by lia)
 obtain⟨_,_,F_x,m_x⟩:=JF.up (k':=18) (by lia)
 obtain⟨_,_,JK,JL⟩:=wy.up (k':=18) (by lia)
 exact c5 a3z a3b rfl rfl λ_ _ _ _ _ _ _ hr hu nd=>(aM (cB 3 (PD.ro (a9 JI hr JJ (ai (af 0) az))) nd)
  (aM (cB 4 (PD.ro (bF (af 3) aC)) nd)
  (aM (cB 5 (PD.ro (eS iG B.bh (by decide +kernel) (ai (bF (af 3) aC) az))) nd)
  (aL (bN (wb (PF.pd (mO JK hr JL (ai (a9 JG hr JH (ai (af 4) (ai (af 5) (ai (bF (af 3) aC) (ai (af 1) (ai (a9 F_x hr m_x (ai (af 4) (ai (af 5) (ai (af 2) az)))) az)))))) az)))))))))
theorem f_K{E:Ev}(B:Bi E)(u_K:Own E "words_of" vH ["names","items"])(u_d:Own E "words_of_item" Iv ["names","item"])(wy:IK E):∀n:Nat,mY E (1+n) "words_of" ["names","items"] (o_ n)/\mY E (1+n) "words_of_item" ["names","item"] (rX n):=by
 obtain⟨a_K,d_K,RJ,RK,CW⟩:=u_K
 obtain⟨a_d,d_d,RL,RM,RN⟩:=u_d
 have A:∀n:Nat,mL E.P E.w E.K E.mg E.base (1+n) a_K d_K ["names","items"] (o_ n)/\mL E.P E.w E.K E.mg E.base (1+n) a_d d_d ["names","item"] (rX n):=by
  intro n
  induction n with
  | zero=>exact⟨Ha (k:=0) RJ Iu RK,Ha (k:=0) RL Iw RM⟩
  | succ n ih =>
    obtain⟨JM,F_d⟩:=ih
    obtain⟨_,_,JK,JL⟩:=wy.up (k':=1+n) (by lia)
    refine⟨?_,?_⟩
    ·refine Cp (k:=1+n) RJ Iu RK (λds h=>rF h) λaY A outer s H E hr=>?_
     have nd:=Iu.nd
     have hu:=hr.units
     refine⟨BJ (o_ n) (rX n),?_,λds aS=>(xO (rF aS)).symm⟩
     exact(aM (kd 2 (g9 az) nd)
     (aM (qC 3 lM rfl (r8 (g8 1))
     (aL (x4l 2 (mO F_d hr RN (ai (af 0) (ai (af 3) az))))) nd)
     (aL (GR 2))))
    ·refine Cp (k:=1+n) RL Iw RM (λds h=>rF h) λaY A outer s H E hr=>?_
     have nd:=Iw.nd
     have hu:=hr.units
     refine⟨BK (o_ n) (rX n),?_,λds aS=>(xO (rF aS)).symm⟩
     exact(aM (dz (cK (gd hu) (bF (af 1) aC) bL (b_ _)) (aL (y7 (qt (g9 (ai bL (ai (bF (af 0) (bF (af 1) aC)) az))) (mO JK hr JL (ai (bF (af 1) aC) az))))) dI)
     (aL (y7 (qt (qt (g9 (ai bL (ai (fC uj B.bo (by decide +kernel) (ai (bF (af 1) aC) az)) (ai bL az)))) (mO JM hr CW (ai (af 0) (ai (bF (af 1) aC) az)))) (g9 (ai bL az))))))
 exact λn=>⟨⟨_,_,(A n).1,CW⟩,⟨_,_,(A n).2,RN⟩⟩
theorem a4a{E:Ev}(B:Bi E)(a4b:Own E "show" yz ["P","names","items"])(JN:h_K E):Q7 E:=by
 obtain⟨_,_,JM,CW⟩:=JN.up (k':=13) (by lia)
 exact c5 a4b a3c rfl rfl λ_ _ _ _ _ _ _ hr hu nd=>(aM (cB 3 (PF.ro (Pp (gS (PF.ro (Pp (gS (PD.ro bL) (gS (PD.ro (fC uj B.bo (by decide +kernel) (ai (af 0) az))) jO)))) (gS (PF.ro (qt (g9 (ai bL az)) (B8 (af 1) B.bi (by decide +kernel)))) (gS (PF.ro (qt (g9 (ai bL az)) (mO JM hr CW (ai (af 1) (ai (af 2) az))))) jO))))) nd)
  (aL (bN (wb (PF.pd (i7 (kG.qu (r8 (g8 3))) (ig (λ_ _ _ _ _=>(PD.ro (wb (af 0))))) nd rfl))))))
theorem a4c{E:Ev}(B:Bi E)(a4d:Own E "back" yi ["P","n"])(kj:wj E):Q8 E:=by
 obtain⟨_,_,pz,pA⟩:=kj.up (k':=1) (by lia)
 exact c5 a4d a3d rfl rfl λ_ _ _ _ _ _ _ hr hu nd=>(aM (cB 2 (PD.ro (a9 pz hr pA (ai (af 0) (ai (af 1) az)))) nd)
  (aM (dz (cK (gd hu) (af 2) aC (b_ _)) (aL (iN B.ci bL rfl)) dI)
  (aM (cB 3 (PD.ro aC) nd)
  (aM (G1 100000 lM (cK (mJ hu) (af 2) aC (b_ _)) (aM (cB 3 (PD.ro (a9 pz hr pA (ai (af 0) (ai (aX yY (F_ (af 3)) (aX mI (af 0) (af 2))) az)))) nd)
  (aL (cB 2 (PD.ro (aX gQ (af 0) (af 2))) nd))))
  (aL (bN (af 3)))))))
theorem a4e{E:Ev}(B:Bi E)(a4f:Own E "times" yG ["P","row","number"])(kj:wj E):Q9 E:=by
 obtain⟨_,_,pz,pA⟩:=kj.up (k':=1) (by lia)
 exact c5 a4f a3e rfl rfl λ_ _ _ _ _ _ _ hr hu nd=>(aL (bN (fC iH B.bq (by decide +kernel) (ai (PF.pd (i7 (pf (af 1)) (ig (λ_ _ _ _ _=>(PD.ro (mM pz hr pA (ai (af 1) (ai (aX yY (af 3) (af 0)) az)))))) nd rfl)) az))))
theorem f_j{E:Ev}(B:Bi E)(u_j:Own E "undone_form" yM ["P","x","form"])(JO:Q8 E)(JP:Q9 E):Q_ E:=by
 obtain⟨_,_,a4g,a4h⟩:=JO.up (k':=2) (by lia)
 obtain⟨_,_,a4i,a4j⟩:=JP.up (k':=2) (by lia)
 exact c5 u_j a3f rfl rfl λ_ _ _ _ _ _ _ hr hu nd=>(aM (cB 3 (PD.ro (a9 a4g hr a4h (ai (af 0) (ai (bF (af 2) (af 1)) az)))) nd)
  (aM (kd 4 (B8 (a9 a4i hr a4j (ai (af 0) (ai (af 2) (ai (F_ (af 3)) az)))) B.bi (by decide +kernel)) nd)
  (aM (GW 4 (af 1) (PD.ro (af 3)))
  (aL (bN (fC iH B.bq (by decide +kernel) (ai (af 4) az)))))))
theorem f_n{E:Ev}(B:Bi E)(u_n:Own E "undone_set" yN ["P","x","form"])(JQ:Q_ E):Ra E:=by
 obtain⟨_,_,F_j,m_j⟩:=JQ.up (k':=3) (by lia)
 exact c5 u_n a3g rfl rfl λ_ _ _ _ _ _ _ hr hu nd=>(aM (dz (cK (gd hu) (bF (af 2) (af 1)) aC (b_ _)) (aL (iN B.ch bL rfl)) dI)
  (aL (bN (mH (ai bL (ai (af 1) (ai (a9 F_j hr m_j (ai (af 0) (ai (af 1) (ai (af 2) az)))) az)))))))
theorem f_V{E:Ev}(B:Bi E)(u_V:Own E "undone" vN ["P","many","items"])(u_g:Own E "undone_again" Iz ["P","many","n","items"])(u_i:Own E "undone_item" IB ["P","many","item"])(JR:Ra E):∀n:Nat,bV E (4+n) "undone" ["P","many","items"] (kC n)/\bV E (4+n) "undone_again" ["P","many","n","items"] (mE n)/\bV E (4+n) "undone_item" ["P","many","item"] (i0 n):=by
 obtain⟨a_V,d_V,RO,RP,CY⟩:=u_V
 obtain⟨a_g,d_g,RQ,RS,RT⟩:=u_g
 obtain⟨a_i,d_i,RU,RV,RW⟩:=u_i
 have A:∀n:Nat,eN E.P E.w E.K E.mg E.base (4+n) a_V d_V ["P","many","items"] (kC n)/\eN E.P E.w E.K E.mg E.base (4+n) a_g d_g ["P","many","n","items"] (mE n)/\eN E.P E.w E.K E.mg E.base (4+n) a_i d_i ["P","many","item"] (i0 n):=by
  intro n
  induction n with
  | zero=>exact⟨pj (k:=3) RO Iy RP,pj (k:=3) RQ IA RS,pj (k:=3) RU IC RV⟩
  | succ n ih =>
    obtain⟨JS,F_g,F_i⟩:=ih
    obtain⟨_,_,F_n,m_n⟩:=JR.up (k':=4+n) (by lia)
    refine⟨?_,?_,?_⟩
    ·refine mR (k:=4+n) RO Iy RP (λds h=>fX h) λaY A outer s H E hr=>?_
     have nd:=Iy.nd
     have hu:=hr.units
     refine⟨yH (kC n) (mE n) (i0 n),?_,λds aS=>(kx (fX aS)).symm⟩
     exact(aL (bN (fC iH B.bq (by decide +kernel) (ai (PF.pd (x8q (w2j (af 2) B.bm) (w2o (λ_ _ _ _ _ lQ=>(PD.ro (x8t F_i hr RW (ai (af 1) (ai (af 2) (ai (af 0) az))) lQ)))) nd rfl rfl rfl rfl)) az))))
    ·refine mR (k:=4+n) RQ IA RS (λds h=>fX h) λaY A outer s H E hr=>?_
     have nd:=IA.nd
     have hu:=hr.units
     refine⟨vM (kC n) (mE n) (i0 n),?_,λds aS=>(kx (fX aS)).symm⟩
     exact(aM (dz (cK (gd hu) (af 2) aC (b_ _)) (aL (bN (mH (ai bL (ai aC (ai (mH az) az)))))) dI)
     (aL (bN (mH (ai bL (ai (af 2) (ai (a9 JS hr CY (ai (af 0) (ai (af 1) (ai (af 3) az)))) az)))))))
    ·refine mR (k:=4+n) RU IC RV (λds h=>fX h) λaY A outer s H E hr=>?_
     have nd:=IC.nd
     have hu:=hr.units
     refine⟨tL (kC n) (mE n) (i0 n),?_,λds aS=>(kx (fX aS)).symm⟩
     exact(aM (dz (cK (gd hu) (bF (af 2) aC) bL (b_ _)) (aL (bN (a9 F_n hr m_n (ai (af 0) (ai (bF (af 2) aC) (ai (bF (af 2) aC) az)))))) dI)
     (aL (bN (a9 F_g hr RT (ai (af 0) (ai (af 1) (ai (bF (af 2) aC) (ai (bF (af 2) aC) az))))))))
 exact λn=>⟨⟨_,_,(A n).1,CY⟩,⟨_,_,(A n).2.1,RT⟩,⟨_,_,(A n).2.2,RW⟩⟩
theorem a4k{E:Ev}(B:Bi E)(a4l:Own E "undo" vO ["text"])(wx:IJ E)(JT:Q7 E)(JU:h_V E):Rb E:=by
 obtain⟨_,_,JI,JJ⟩:=wx.up (k':=18) (by lia)
 obtain⟨_,_,a4m,a4n⟩:=JT.up (k':=18) (by lia)
 obtain⟨_,_,JS,CY⟩:=JU.up (k':=18) (by lia)
 exact c5 a4l a3h rfl rfl λ_ _ _ _ _ _ _ hr hu nd=>(aM (cB 1 (PD.ro (a9 JI hr JJ (ai (af 0) az))) nd)
  (aM (cB 2 (PD.ro (bF (af 1) aC)) nd)
  (aM (cB 3 (PD.ro (bF (af 1) aC)) nd)
  (aL (bN (a9 a4m hr a4n (ai (af 2) (ai (af 3) (ai (a9 JS hr CY (ai (af 2) (ai (eS iG B.bh (by decide +kernel) (ai (af 3) az)) (ai (bF (af 1) aC) az)))) az)))))))))
theorem w8i{E:Ev}{a:Addr}{d:cG}(B:Bi E)(U:mf E.K "law" "law" ID a d)(hb:jV E.K d ["script"] [])(JV:QD E)(wm:IE E)(JW:QG E)(JX:h_s E)(JY:QH E)(JZ:QI E)(J2:h_A E)(wu:IG E)(J3:Q6 E)(J4:Rb E):eN E.P E.w E.K E.mg E.base 20 a d ["script"] BX:=by
 obtain⟨_,_,wz,wA⟩:=JV.up (k':=19) (by lia)
 obtain⟨_,_,IL,IM⟩:=wm.up (k':=19) (by lia)
 obtain⟨_,_,F_r,m_r⟩:=JW.up (k':=19) (by lia)
 obtain⟨_,_,IS,CP⟩:=JX.up (k':=19) (by lia)
 obtain⟨_,_,F_u,m_u⟩:=JY.up (k':=19) (by lia)
 obtain⟨_,_,J_,Ka⟩:=JZ.up (k':=19) (by lia)
 obtain⟨_,_,IT,CQ⟩:=J2.up (k':=19) (by lia)
 obtain⟨_,_,JG,JH⟩:=wu.up (k':=19) (by lia)
 obtain⟨_,_,Kb,Kc⟩:=J3.up (k':=19) (by lia)
 obtain⟨_,_,RX,RY⟩:=J4.up (k':=19) (by lia)
 refine mR U QC hb (λds h=>fX h) λaY A outer s H E hr=>?_
 have nd:=QC.nd
 have hu:=hr.units
 exact⟨FX,(aM (cB 1 (PD.ro (a9 F_u hr m_u (ai (a9 wz hr wA (ai (af 0) (ai aC az))) az))) nd)
  (aM (cB 2 (PD.ro (aX fP aC (aX gQ (a9 wz hr wA (ai (af 0) (ai aC az))) aC))) nd)
  (aM (cB 3 (PD.ro (aX gQ (aX mI (a9 wz hr wA (ai (af 0) (ai aC az))) aC) aC)) nd)
  (aM (O3 4 (kG.qu (r9 (af 2) B.bl)) (ig (λ_ _ _ _ _=>(PD.ro (aX w2w (P7 bL (aX fP (af 4) (af 0))) (aX fP aC (aX gQ (mM wz hr wA (ai (af 1) (ai aC az))) aC)))))) nd rfl)
  (aM (cB 5 (PD.ro (a9 IL hr IM (ai (a9 wz hr wA (ai (af 0) (ai aC az))) (ai (af 1) (ai (af 2) az))))) nd)
  (aM (cB 6 (PD.ro (aX gQ (a9 wz hr wA (ai (af 0) (ai aC az))) (aX fP (aX Ga aC aC) aC))) nd)
  (aM (cB 7 (PD.ro (a9 F_r hr m_r (ai (ug (af 0) (qE aC) (qE aC)) (ai (af 1) (ai (af 2) (ai aC az)))))) nd)
  (aM (cB 8 (PD.ro (aX zw (aX zw (aX zw (aX zw bL (fC uj B.bo (by decide +kernel) (ai (af 1) az))) bL) (wb (af 4))) bL)) nd)
  (aM (cB 8 (PD.ro (aX zw (af 8) (wb (PF.pd (qt (g9 (ai bL az)) (mO IT hr CQ (ai (af 4) (ai (af 7) az)))))))) nd)
  (aM (cB 9 (PD.ro (a9 JG hr JH (ai (af 1) (ai (af 2) (ai (af 7) (ai (af 6) (ai (af 5) az))))))) nd)
  (aM (dz (cK (mJ hu) (a9 Kb hr Kc (ai (af 8) (ai (af 6) (ai (PF.pd (B8 (af 5) B.bi (by decide +kernel))) az)))) (a9 J_ hr Ka (ai (af 9) az)) (b_ _)) (aL (bN tO)) dI)
  (aM (cB 10 (PD.ro bL) nd)
  (aM (cB 11 (PD.ro tO) nd)
  (aM (w5d 12 ⟨B.co,B.cp⟩ B.cg (aL (cB 10 (PD.ro (a9 RX hr RY (ai (af 8) az))) nd)) (λ_=>(aL (cB 11 (PD.ro (r6 (Pf 12 (w3i B.ce) B.cm B.bg (af 12)) (vR (Pf 12 (w3j B.ba (by decide +kernel)) B.cn B.bg (af 12))))) nd))) nd)
  (aM (dz (lB (a9 IS hr CP (ai (af 7) az))) (aL (bN (af 11))) dI)
  (aM (dz (i6.pt (yU (lB (af 11)) (B1 (pe (lB (G6 A4 (af 10) B.bg (λI q=>iA I rfl B.bo (by decide +kernel) q) ZZ)))))) (aL (bN tO)) dI)
  (aM (dz (cK (mJ hu) (a9 Kb hr Kc (ai (af 10) (ai (af 6) (ai (af 9) az)))) (a9 J_ hr Ka (ai (af 5) az)) (b_ _)) (aL (bN tO)) dI)
  (aL (bN (qp (gd hu) (a9 Kb hr Kc (ai (a9 RX hr RY (ai (af 10) az)) (ai (af 6) (ai (af 5) az)))) (a9 J_ hr Ka (ai (af 9) az)) (b_ _))))))))))))))))))))),λds aS=>(kx (fX aS)).symm⟩
end
theorem jt{α:Type}{p:List α->Prop}(h:∀a,p [a])(us:List α)(hl:us.length=1):p us:=by
 obtain⟨a,rfl⟩:∃a,us=[a]:=by
  match us,hl with
  | [a],_=>exact⟨a,rfl⟩
 exact h a
theorem lS{α:Type}{p:List α->Prop}(h:∀a b,p [a,b])(us:List α)(hl:us.length=2):p us:=by
 obtain⟨a,b,rfl⟩:∃a b,us=[a,b]:=by
  match us,hl with
  | [a,b],_=>exact⟨a,b,rfl⟩
 exact h a b
theorem gj{α:Type}{p:List α->Prop}(h:∀a b c,p [a,b,c])(us:List α)(hl:us.length=3):p us:=by
 obtain⟨a,b,c,rfl⟩:∃a b c,us=[a,b,c]:=by
  match us,hl with
  | [a,b,c],_=>exact⟨a,b,c,rfl⟩
 exact h a b c
theorem qP{α:Type}{p:List α->Prop}(h:∀a b c d,p [a,b,c,d])(us:List α)(hl:us.length=4):p us:=by
 obtain⟨a,b,c,d,rfl⟩:∃a b c d,us=[a,b,c,d]:=by
  match us,hl with
  | [a,b,c,d],_=>exact⟨a,b,c,d,rfl⟩
 exact h a b c d
theorem RZ{α:Type}{p:List α->Prop}(h:∀a b c d e,p [a,b,c,d,e])(us:List α)(hl:us.length=5):p us:=by
 obtain⟨a,b,c,d,e,rfl⟩:∃a b c d e,us=[a,b,c,d,e]:=by
  match us,hl with
  | [a,b,c,d,e],_=>exact⟨a,b,c,d,e,rfl⟩
 exact h a b c d e
section
variable {w:aN}{h:Heap}{mg:Str->Option Value}(X:(KK w.params).In h)(G:h.Ns cQ mg)
include X G in
theorem ma{x:Str}{v:Value}(e:fv (KK w.params) cQ x=some (some v)):mg x=some v:=sy X G e
include X G in
theorem mn{x:Str}(e:fv (KK w.params) cQ x=some none):mg x=none:=b0q X G e
include X G in
theorem ow(base:Heap){x:Str}{st:Stmt}{ps:List Str}{c:Addr}{pm:Value}(a:Addr)(n:fv (KK w.params) cQ x=some (some (.ref a)))(l:(KK w.params).lookup a=some (HQ.fO x st pm (.ref c)))(e:Ks (KK w.params) (.ref c) x=true)(b:∀(kV doc pm:Value) (an:Option Addr) (aY ct:Value) (us:List Value),us.length=ps.length->Sh (C2 x x (xE st) (nD st) (aW st) .none kV doc pm an aY ct) ⟨us,[]⟩=pure (ps.zip us)):Own ⟨PySem.Challenge.rw_longrounds_k91_whole_texts_led_and_undon.prog,w,(KK w.params),mg,base⟩ x st ps:=⟨a,_,HQ.HJ l e,(HQ.HJ l e).binds b,sy X G n⟩
include X G in
set_option maxHeartbeats 0 in
theorem all{fa:Addr}(hfa:mg "law"=some (.ref fa)):∃fd:cG,(∀(s:ah) (v:Value),BindsTo s fd ⟨[v],[]⟩ [("script",v)])/\∀base:Heap,(KK w.params).In base->base.Ns cQ mg->ja PySem.Challenge.rw_longrounds_k91_whole_texts_led_and_undon.prog w (KK w.params) mg base (mK PySem.Challenge.rw_longrounds_k91_whole_texts_led_and_undon.prog w) 20 fa fd ["script"] (v8 BX (KK w.params)):=by
 k_fill
 have zL:fv (KK w.params) cQ "NoPrime"=some (some (.ref 37)):=by k_is
 have Kd:=sy X G zL
 have R0:jN (KK w.params) 37:=⟨by k_is,by k_is,by k_is,by k_is,by k_is,by k_is,wg (by k_is)⟩
 have zM:fv (KK w.params) cQ "NoNumber"=some (some (.ref 49)):=by k_is
 have Ke:=sy X G zM
 have R1:jN (KK w.params) 49:=⟨by k_is,by k_is,by k_is,by k_is,by k_is,by k_is,wg (by k_is)⟩
 have zN:fv (KK w.params) cQ "NoProgram"=some (some (.ref 61)):=by k_is
 have Kf:=sy X G zN
 have R3:jN (KK w.params) 61:=⟨by k_is,by k_is,by k_is,by k_is,by k_is,by k_is,wg (by k_is)⟩
 have zO:fv (KK w.params) cQ "Lossy"=some (some (.ref 73)):=by k_is
 have Kg:=sy X G zO
 have R4:jN (KK w.params) 73:=⟨by k_is,by k_is,by k_is,by k_is,by k_is,by k_is,wg (by k_is)⟩
 have zP:fv (KK w.params) cQ "NoText"=some (some (.ref 85)):=by k_is
 have Kh:=sy X G zP
 have R5:jN (KK w.params) 85:=⟨by k_is,by k_is,by k_is,by k_is,by k_is,by k_is,wg (by k_is)⟩
 have a4o:fv (KK w.params) cQ "LongError"=some (some (.ref 24)):=by k_is
 have a4p:=sy X G a4o
 have a4q:jN (KK w.params) 24:=⟨by k_is,by k_is,by k_is,by k_is,by k_is,by k_is,wg (by k_is)⟩
 have a4r:oz (KK w.params) mg .fK 73:=⟨zO,Kg,by k_exc⟩
 have a4s:oz (KK w.params) mg .nE 49:=⟨zM,Ke,by k_exc⟩
 have a4t:oz (KK w.params) mg .oV 37:=⟨zL,Kd,by k_exc⟩
 have a4u:oz (KK w.params) mg .jW 61:=⟨zN,Kf,by k_exc⟩
 have a4v:oz (KK w.params) mg .iB 85:=⟨zP,Kh,by k_exc⟩
 have Ki:fv (KK w.params) cQ "TooLong"=some none:=by k_is
 have a4w:zk (KK w.params) (.ref 73) .fK:=by
  intro c C h
  cases c with
  | oV =>
    have h':fv (KK w.params) cQ "NoPrime"=some (some (.ref C)):=h
    rw[zL] at h';cases h';exact⟨R0,by kit_is⟩
  | nE =>
    have h':fv (KK w.params) cQ "NoNumber"=some (some (.ref C)):=h
    rw[zM] at h';cases h';exact⟨R1,by kit_is⟩
  | jW =>
    have h':fv (KK w.params) cQ "NoProgram"=some (some (.ref C)):=h
    rw[zN] at h';cases h';exact⟨R3,by kit_is⟩
  | tooLong =>
    have h':fv (KK w.params) cQ "TooLong"=some (some (.ref C)):=h
    rw[Ki] at h';cases h'
  | fK =>
    have h':fv (KK w.params) cQ "Lossy"=some (some (.ref C)):=h
    rw[zO] at h';cases h';exact⟨R4,by kit_is⟩
  | iB =>
    have h':fv (KK w.params) cQ "NoText"=some (some (.ref C)):=h
    rw[zP] at h';cases h';exact⟨R5,by kit_is⟩
 have a4x:zk (KK w.params) (.type "ValueError") .AW:=by
  intro c C h
  cases c with
  | oV =>
    have h':fv (KK w.params) cQ "NoPrime"=some (some (.ref C)):=h
    rw[zL] at h';cases h';exact⟨R0,by kit_is⟩
  | nE =>
    have h':fv (KK w.params) cQ "NoNumber"=some (some (.ref C)):=h
    rw[zM] at h';cases h';exact⟨R1,by kit_is⟩
  | jW =>
    have h':fv (KK w.params) cQ "NoProgram"=some (some (.ref C)):=h
    rw[zN] at h';cases h';exact⟨R3,by kit_is⟩
  | tooLong =>
    have h':fv (KK w.params) cQ "TooLong"=some (some (.ref C)):=h
    rw[Ki] at h';cases h'
  | fK =>
    have h':fv (KK w.params) cQ "Lossy"=some (some (.ref C)):=h
    rw[zO] at h';cases h';exact⟨R4,by kit_is⟩
  | iB =>
    have h':fv (KK w.params) cQ "NoText"=some (some (.ref C)):=h
    rw[zP] at h';cases h';exact⟨R5,by kit_is⟩
 have a4y:=a4q
 have a4z:∀(c:Er) (C:Addr),mg c.nm=some (.ref C)->fv (KK w.params) cQ c.nm=some (some (.ref C))/\uu (KK w.params) C (.ref 24)=some true:=by
  intro c C h
  cases c with
  | oV =>
    have h':mg "NoPrime"=some (.ref C):=h
    rw[Kd] at h';cases h';exact⟨zL,by k_is⟩
  | nE =>
    have h':mg "NoNumber"=some (.ref C):=h
    rw[Ke] at h';cases h';exact⟨zM,by k_is⟩
  | jW =>
    have h':mg "NoProgram"=some (.ref C):=h
    rw[Kf] at h';cases h';exact⟨zN,by k_is⟩
  | tooLong =>
    have h':mg "TooLong"=some (.ref C):=h
    rw[b0q X G Ki] at h';cases h'
  | fK =>
    have h':mg "Lossy"=some (.ref C):=h
    rw[Kg] at h';cases h';exact⟨zO,by k_is⟩
  | iB =>
    have h':mg "NoText"=some (.ref C):=h
    rw[Kh] at h';cases h';exact⟨zP,by k_is⟩
 have lL:(KK w.params).lookup 496=some (HQ.fO "law" ID (.str "law_longrounds_k91_whole_texts_led_and_undon" 777) (.ref 495)):=by k_is
 have lC:Ks (KK w.params) (.ref 495) "law"=true:=by k_is
 have a5a:=ma X G (x:="law") (v:=.ref 496) (by k_is)
 have e:=hfa.symm.trans a5a
 cases e
 have UL:=HQ.HJ lL lC
 refine a1m UL (λs v=>.of_eq rfl) λbase _ _=>?_
 have B:Bi ⟨PySem.Challenge.rw_longrounds_k91_whole_texts_led_and_undon.prog,w,(KK w.params),mg,base⟩:=⟨mn X G (by k_is),mn X G (by k_is),mn X G (by k_is),mn X G (by k_is),mn X G (by k_is),mn X G (by k_is),mn X G (by k_is),mn X G (by k_is),mn X G (by k_is),mn X G (by k_is),mn X G (by k_is),mn X G (by k_is),mn X G (by k_is),mn X G (by k_is),mn X G (by k_is),mn X G (by k_is),mn X G (by k_is),ma X G (by k_is),ma X G (by k_is),ma X G (by k_is),ma X G (by k_is),ma X G (by k_is),ma X G (by k_is),ma X G (by k_is),ma X G (by k_is),ma X G (by k_is),Kd,Ke,Kf,Kg,Kh,a4p,a4r,a4s,a4t,a4u,a4v,a4w,a4x,a4y,a4z⟩
 have a5b:=ow X G base (x:="_law_cell") (st:=HL) (ps:=["script","k"]) 441 (by k_is) (by k_is) (by k_is) λ_ _ _ _ _ _=>lS λ_ _=>rfl
 have JV:=f_G B a5b
 have a5c:=ow X G base (x:="_law_digits") (st:=HM) (ps:=["cell","P","size"]) 453 (by k_is) (by k_is) (by k_is) λ_ _ _ _ _ _=>gj λ_ _ _=>rfl
 have wm:=f_h B a5c
 have a5d:=ow X G base (x:="_law_count") (st:=HN) (ps:=["cell"]) 460 (by k_is) (by k_is) (by k_is) λ_ _ _ _ _ _=>jt λ_=>rfl
 have IP:=f_z a5d
 have a5e:=ow X G base (x:="_law_set") (st:=HP) (ps:=["cell","more","P","many"]) 467 (by k_is) (by k_is) (by k_is) λ_ _ _ _ _ _=>qP λ_ _ _ _=>rfl
 have IQ:=f_N a5e wm
 have a5f:=ow X G base (x:="_law_items") (st:=HR) (ps:=["cells","P","many","agains"]) 474 (by k_is) (by k_is) (by k_is) λ_ _ _ _ _ _=>qP λ_ _ _ _=>rfl
 have JW:=f_r B a5f IP IQ
 have a5g:=ow X G base (x:="_law_loses") (st:=HS) (ps:=["items"]) 486 (by k_is) (by k_is) (by k_is) λ_ _ _ _ _ _=>jt λ_=>rfl
 have A_s:=f_s a5g
 have JX:=(A_s 12)
 have a5h:=ow X G base (x:="_law_prime") (st:=HV) (ps:=["cell"]) 446 (by k_is) (by k_is) (by k_is) λ_ _ _ _ _ _=>jt λ_=>rfl
 have JY:=f_u B a5h
 have a5i:=ow X G base (x:="_law_row") (st:=HW) (ps:=["numbers"]) 491 (by k_is) (by k_is) (by k_is) λ_ _ _ _ _ _=>jt λ_=>rfl
 have JZ:=f_M B a5i
 have a5j:=ow X G base (x:="_law_words") (st:=HX) (ps:=["names","items"]) 479 (by k_is) (by k_is) (by k_is) λ_ _ _ _ _ _=>lS λ_ _=>rfl
 have A_A:=f_A B a5j
 have J2:=(A_A 12)
 have a5k:=ow X G base (x:="one_at") (st:=yg) (ps:=["width","place"]) 151 (by k_is) (by k_is) (by k_is) λ_ _ _ _ _ _=>lS λ_ _=>rfl
 have IU:=f_U B a5k
 have a5l:=ow X G base (x:="idle") (st:=tx) (ps:=["many"]) 156 (by k_is) (by k_is) (by k_is) λ_ _ _ _ _ _=>jt λ_=>rfl
 have qK:=a3i B a5l IU
 have a5m:=ow X G base (x:="column_sum") (st:=ye) (ps:=["form","table","place"]) 161 (by k_is) (by k_is) (by k_is) λ_ _ _ _ _ _=>gj λ_ _ _=>rfl
 have IV:=f_t B a5m
 have a5n:=ow X G base (x:="on") (st:=s_on) (ps:=["P","n"]) 129 (by k_is) (by k_is) (by k_is) λ_ _ _ _ _ _=>lS λ_ _=>rfl
 have kj:=a3k a5n
 have a5o:=ow X G base (x:="form_ahead") (st:=yf) (ps:=["P","table","form"]) 166 (by k_is) (by k_is) (by k_is) λ_ _ _ _ _ _=>gj λ_ _ _=>rfl
 have IW:=f_w B a5o IV kj
 have a5p:=ow X G base (x:="then") (st:=tw) (ps:=["P","one","other"]) 171 (by k_is) (by k_is) (by k_is) λ_ _ _ _ _ _=>gj λ_ _ _=>rfl
 have qJ:=a3m B a5p IW
 have a5q:=ow X G base (x:="ladder") (st:=ym) (ps:=["P","table","n"]) 185 (by k_is) (by k_is) (by k_is) λ_ _ _ _ _ _=>gj λ_ _ _=>rfl
 have IX:=f_W B a5q qJ
 have a5r:=ow X G base (x:="rungs_for") (st:=yn) (ps:=["rungs","n"]) 190 (by k_is) (by k_is) (by k_is) λ_ _ _ _ _ _=>lS λ_ _=>rfl
 have IY:=f_D B a5r
 have a5s:=ow X G base (x:="rounds") (st:=vp) (ps:=["P","table","n"]) 197 (by k_is) (by k_is) (by k_is) λ_ _ _ _ _ _=>gj λ_ _ _=>rfl
 have wo:=f_X B a5s qK IX IY qJ
 have a5t:=ow X G base (x:="setting") (st:=yh) (ps:=["many","x","form"]) 178 (by k_is) (by k_is) (by k_is) λ_ _ _ _ _ _=>gj λ_ _ _=>rfl
 have IZ:=f_P B a5t qK
 have a5u:=ow X G base (x:="table_of") (st:=vt) (ps:=["P","many","items"]) 211 (by k_is) (by k_is) (by k_is) λ_ _ _ _ _ _=>gj λ_ _ _=>rfl
 have a5v:=ow X G base (x:="table_of_item") (st:=H0) (ps:=["P","many","item"]) 204 (by k_is) (by k_is) (by k_is) λ_ _ _ _ _ _=>gj λ_ _ _=>rfl
 have R6:=f_O a5u a5v qK qJ wo IZ
 have Jb:=(R6 12).1
 have p_b:=(R6 12).2
 have a5w:=ow X G base (x:="worth") (st:=x9) (ps:=["P","form","stand"]) 141 (by k_is) (by k_is) (by k_is) λ_ _ _ _ _ _=>gj λ_ _ _=>rfl
 have Ja:=a3o B a5w kj
 have a5x:=ow X G base (x:="turned") (st:=x_) (ps:=["P","table","stand"]) 146 (by k_is) (by k_is) (by k_is) λ_ _ _ _ _ _=>gj λ_ _ _=>rfl
 have Jc:=f_Y B a5x Ja
 have a5y:=ow X G base (x:="after") (st:=vv) (ps:=["P","many","items","n","stand"]) 218 (by k_is) (by k_is) (by k_is) λ_ _ _ _ _ _=>RZ λ_ _ _ _ _=>rfl
 have wu:=a3s a5y wo Jb Jc
 have a5z:=ow X G base (x:="is_made_of") (st:=H8) (ps:=["word","signs","most"]) 323 (by k_is) (by k_is) (by k_is) λ_ _ _ _ _ _=>gj λ_ _ _=>rfl
 have wq:=f_v B a5z
 have a6a:=ow X G base (x:="number_from") (st:=tH) (ps:=["word"]) 330 (by k_is) (by k_is) (by k_is) λ_ _ _ _ _ _=>jt λ_=>rfl
 have qM:=f_k B a6a wq
 have a6b:=ow X G base (x:="taken") (st:=vA) (ps:=["words","count"]) 342 (by k_is) (by k_is) (by k_is) λ_ _ _ _ _ _=>lS λ_ _=>rfl
 have qL:=a3u B a6b
 have a6c:=ow X G base (x:="take_sign") (st:=H9) (ps:=["words","sign"]) 349 (by k_is) (by k_is) (by k_is) λ_ _ _ _ _ _=>lS λ_ _=>rfl
 have Jg:=f_F a6c qL
 have a6d:=ow X G base (x:="number_on_wheel") (st:=H_) (ps:=["P","word"]) 337 (by k_is) (by k_is) (by k_is) λ_ _ _ _ _ _=>lS λ_ _=>rfl
 have Jf:=f_a B a6d qM
 have a6e:=ow X G base (x:="set_from") (st:=yv) (ps:=["P","names","words"]) 354 (by k_is) (by k_is) (by k_is) λ_ _ _ _ _ _=>gj λ_ _ _=>rfl
 have Jh:=f_I B a6e Jf qL
 have a6f:=ow X G base (x:="again_from") (st:=Ia) (ps:=["P","names","words","around"]) 361 (by k_is) (by k_is) (by k_is) λ_ _ _ _ _ _=>qP λ_ _ _ _=>rfl
 have a6g:=ow X G base (x:="item_from") (st:=Ic) (ps:=["P","names","words","around"]) 368 (by k_is) (by k_is) (by k_is) λ_ _ _ _ _ _=>qP λ_ _ _ _=>rfl
 have a6h:=ow X G base (x:="items_from") (st:=vE) (ps:=["P","names","words","around"]) 375 (by k_is) (by k_is) (by k_is) λ_ _ _ _ _ _=>qP λ_ _ _ _=>rfl
 have Kj:=f_y B a6f a6g a6h qM Jg qL Jh
 have p_y:=(Kj 12).1
 have p_E:=(Kj 12).2.1
 have Jt:=(Kj 12).2.2
 have a6i:=ow X G base (x:="is_whole") (st:=yj) (ps:=["thing"]) 94 (by k_is) (by k_is) (by k_is) λ_ _ _ _ _ _=>jt λ_=>rfl
 have Jj:=f_L B a6i
 have a6j:=ow X G base (x:="is_from") (st:=qk) (ps:=["thing","least","most"]) 108 (by k_is) (by k_is) (by k_is) λ_ _ _ _ _ _=>gj λ_ _ _=>rfl
 have kl:=f_S a6j Jj
 have a6k:=ow X G base (x:="items_counted") (st:=Ih) (ps:=["items","ahead"]) 263 (by k_is) (by k_is) (by k_is) λ_ _ _ _ _ _=>lS λ_ _=>rfl
 have A_c:=f_c B a6k
 have Jq:=(A_c 12)
 have a6l:=ow X G base (x:="made_set") (st:=yo) (ps:=["P","many","x","form"]) 268 (by k_is) (by k_is) (by k_is) λ_ _ _ _ _ _=>qP λ_ _ _ _=>rfl
 have Jl:=f_J B a6l kl kj
 have a6m:=ow X G base (x:="made_again") (st:=Ij) (ps:=["P","many","n","items","around"]) 275 (by k_is) (by k_is) (by k_is) λ_ _ _ _ _ _=>RZ λ_ _ _ _ _=>rfl
 have a6n:=ow X G base (x:="made_item") (st:=Il) (ps:=["P","many","item","around"]) 282 (by k_is) (by k_is) (by k_is) λ_ _ _ _ _ _=>qP λ_ _ _ _=>rfl
 have a6o:=ow X G base (x:="made_items") (st:=Io) (ps:=["P","many","items","around"]) 287 (by k_is) (by k_is) (by k_is) λ_ _ _ _ _ _=>qP λ_ _ _ _=>rfl
 have Kk:=f_o B a6m a6n a6o kl Jl
 have p_o:=(Kk 12).1
 have p_C:=(Kk 12).2.1
 have Jr:=(Kk 12).2.2
 have a6p:=ow X G base (x:="least_divisor") (st:=Iq) (ps:=["n"]) 101 (by k_is) (by k_is) (by k_is) λ_ _ _ _ _ _=>jt λ_=>rfl
 have Jn:=f_e a6p
 have a6q:=ow X G base (x:="is_prime") (st:=vj) (ps:=["thing"]) 115 (by k_is) (by k_is) (by k_is) λ_ _ _ _ _ _=>jt λ_=>rfl
 have wt:=f_H B a6q kl Jn
 have a6r:=ow X G base (x:="prime") (st:=xZ) (ps:=["thing"]) 122 (by k_is) (by k_is) (by k_is) λ_ _ _ _ _ _=>jt λ_=>rfl
 have Js:=f_Z B a6r wt
 have a6s:=ow X G base (x:="program") (st:=yp) (ps:=["P","many","items"]) 294 (by k_is) (by k_is) (by k_is) λ_ _ _ _ _ _=>gj λ_ _ _=>rfl
 have Ju:=f_Q B a6s kl Jq Jr Js
 have a6t:=ow X G base (x:="read_items") (st:=yF) (ps:=["P","names","words"]) 408 (by k_is) (by k_is) (by k_is) λ_ _ _ _ _ _=>gj λ_ _ _=>rfl
 have Jw:=f_p B a6t Jt Ju
 have a6u:=ow X G base (x:="is_name") (st:=yD) (ps:=["word"]) 396 (by k_is) (by k_is) (by k_is) λ_ _ _ _ _ _=>jt λ_=>rfl
 have Jv:=f_R B a6u wq
 have a6v:=ow X G base (x:="read_names") (st:=yE) (ps:=["words"]) 401 (by k_is) (by k_is) (by k_is) λ_ _ _ _ _ _=>jt λ_=>rfl
 have Jy:=f_l B a6v Jv
 have a6w:=ow X G base (x:="read_prime") (st:=yC) (ps:=["words"]) 389 (by k_is) (by k_is) (by k_is) λ_ _ _ _ _ _=>jt λ_=>rfl
 have Jz:=f_B B a6w wt qM
 have a6x:=ow X G base (x:="words_behind") (st:=Ir) (ps:=["row","first"]) 382 (by k_is) (by k_is) (by k_is) λ_ _ _ _ _ _=>lS λ_ _=>rfl
 have JA:=f_f B a6x
 have a6y:=ow X G base (x:="read") (st:=vL) (ps:=["text"]) 415 (by k_is) (by k_is) (by k_is) λ_ _ _ _ _ _=>jt λ_=>rfl
 have wx:=a3w B a6y Jw Jy Jz JA
 have a6z:=ow X G base (x:="stand_from") (st:=yQ) (ps:=["P","many","numbers"]) 420 (by k_is) (by k_is) (by k_is) λ_ _ _ _ _ _=>gj λ_ _ _=>rfl
 have JF:=f_x B a6z kl
 have a7a:=ow X G base (x:="written") (st:=vG) (ps:=["numbers"]) 299 (by k_is) (by k_is) (by k_is) λ_ _ _ _ _ _=>jt λ_=>rfl
 have wy:=f_T B a7a
 have a7b:=ow X G base (x:="leads") (st:=tM) (ps:=["text","n","stand"]) 427 (by k_is) (by k_is) (by k_is) λ_ _ _ _ _ _=>gj λ_ _ _=>rfl
 have J3:=a3y B a7b wu wx JF wy
 have a7c:=ow X G base (x:="words_of") (st:=vH) (ps:=["names","items"]) 313 (by k_is) (by k_is) (by k_is) λ_ _ _ _ _ _=>lS λ_ _=>rfl
 have a7d:=ow X G base (x:="words_of_item") (st:=Iv) (ps:=["names","item"]) 306 (by k_is) (by k_is) (by k_is) λ_ _ _ _ _ _=>lS λ_ _=>rfl
 have R7:=f_K B a7c a7d wy
 have JN:=(R7 12).1
 have p_d:=(R7 12).2
 have a7e:=ow X G base (x:="show") (st:=yz) (ps:=["P","names","items"]) 318 (by k_is) (by k_is) (by k_is) λ_ _ _ _ _ _=>gj λ_ _ _=>rfl
 have JT:=a4a B a7e JN
 have a7f:=ow X G base (x:="back") (st:=yi) (ps:=["P","n"]) 136 (by k_is) (by k_is) (by k_is) λ_ _ _ _ _ _=>lS λ_ _=>rfl
 have JO:=a4c B a7f kj
 have a7g:=ow X G base (x:="times") (st:=yG) (ps:=["P","row","number"]) 223 (by k_is) (by k_is) (by k_is) λ_ _ _ _ _ _=>gj λ_ _ _=>rfl
 have JP:=a4e B a7g kj
 have a7h:=ow X G base (x:="undone_form") (st:=yM) (ps:=["P","x","form"]) 230 (by k_is) (by k_is) (by k_is) λ_ _ _ _ _ _=>gj λ_ _ _=>rfl
 have JQ:=f_j B a7h JO JP
 have a7i:=ow X G base (x:="undone_set") (st:=yN) (ps:=["P","x","form"]) 237 (by k_is) (by k_is) (by k_is) λ_ _ _ _ _ _=>gj λ_ _ _=>rfl
 have JR:=f_n B a7i JQ
 have a7j:=ow X G base (x:="undone") (st:=vN) (ps:=["P","many","items"]) 256 (by k_is) (by k_is) (by k_is) λ_ _ _ _ _ _=>gj λ_ _ _=>rfl
 have a7k:=ow X G base (x:="undone_again") (st:=Iz) (ps:=["P","many","n","items"]) 244 (by k_is) (by k_is) (by k_is) λ_ _ _ _ _ _=>qP λ_ _ _ _=>rfl
 have a7l:=ow X G base (x:="undone_item") (st:=IB) (ps:=["P","many","item"]) 251 (by k_is) (by k_is) (by k_is) λ_ _ _ _ _ _=>gj λ_ _ _=>rfl
 have Kl:=f_V B a7j a7k a7l JR
 have JU:=(Kl 12).1
 have p_g:=(Kl 12).2.1
 have p_i:=(Kl 12).2.2
 have a7m:=ow X G base (x:="undo") (st:=vO) (ps:=["text"]) 434 (by k_is) (by k_is) (by k_is) λ_ _ _ _ _ _=>jt λ_=>rfl
 have J4:=a4k B a7m wx JT JU
 exact w8i (E:=⟨PySem.Challenge.rw_longrounds_k91_whole_texts_led_and_undon.prog,w,(KK w.params),mg,base⟩) B UL (UL.binds λ_ _ _ _ _ _=>jt λ_=>rfl) JV wm JW JX JY JZ J2 wu J3 J4
end
end Row
open PySem PySem.W PyProof.Rows
set_option maxRecDepth 100000 in
set_option maxHeartbeats 0 in
theorem PySem.Challenge.cw_longrounds_k91_whole_texts_led_and_undon_holds : PySem.Challenge.rw_longrounds_k91_whole_texts_led_and_undon.Holds := by
 w_on;o_law
 refine PySem.W.holds_open (q:=T8 Lw [89]) (loose:=HQ.a1j Lw) (Xt:=λs=>PySem.W.xlAt (T8 Lw [89]) [] s&&PySem.W.recOk [] s) (XP:=PySem.W.XL (T8 Lw [89]) []) (Yf:=λs=>Row.ks.map s.heap.get?) (Ya:=λw=>(Row.KK w.params).map λp:Addr×Obj=>some p.2) (YP:=PySem.W.InK Row.KK) (N:=40000) ?hl (PySem.W.InK.of (K:=Row.KK) (as:=Row.ks) λ_=>rfl) PySem.W.InK.keeps (λs e=>PySem.W.xl_of s (Bool.and_eq_true_iff.mp e).1) PySem.W.XL.keeps (by rfl) (by rfl) (by rfl) (λs e=>PySem.W.recFacts_of (Bool.and_eq_true_iff.mp e).2) (by rfl) (by assumption) (by decide +kernel) ⟨rfl,rfl,rfl,rfl,rfl,by decide +kernel⟩ ?hw ?hc
 case hl =>
  refine HQ.a1k (by kernel_rfl) (by kernel_rfl) (λs=>by kernel_rfl) ?_
  intro w os
  delta Row.KK Row.top
  rw[PySem.W.Fast.te4642455589067287556]
  kernel_rfl
 case hw=>w_witness2
 exact L3.Z3 (sp:=L3.v8 L3.BX) (l:=PySem.Challenge.rw_longrounds_k91_whole_texts_led_and_undon) (n:=63) (k:=20) (x:="script") (CX:=λw=>L3.mK PySem.Challenge.rw_longrounds_k91_whole_texts_led_and_undon.prog w) rfl (by decide) rfl ⟨rfl,by decide,by decide⟩ (K:=Row.KK) (λw h Y=>Y) (λw mg fa h KX G pZ=>Row.all KX G pZ) (λK H a ns hl hS=>L3.Z1 L3.Zg hl hS) λw H s e s' h=>L3.Z2 h

