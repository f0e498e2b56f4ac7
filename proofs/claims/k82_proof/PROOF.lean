import PyProof.Rows.All
import Wide.All
import OpenK.AllK
import Wide.FinOn
import Lean
import PyProof.EqAt
import PyProof.EqKinds
import PyProof.TupleCall
import KE.KIntText
import KE.KRevIter
import PyProof.CollectIter
import PyProof.ListNew
import PyProof.StrBlockH
import PyProof.StrWalks
import PyProof.StrLawsChain
import PyProof.StrLawsTight
import KE.IntTextText
import PySem.Challenge.RW_longrounds_k82_no_texts
set_option Elab.async false
set_option linter.all false
set_option maxRecDepth 100000
set_option genSizeOf false
set_option maxHeartbeats 4000000
local macro_rules
| `(tactic|trivial)=>`(tactic|decide +kernel)
open Array renaming length_toList->rq,all_toList->uP,getElem_toList->Av,getElem?_eq_getElem->Aw,getElem?_toList->QZ,getElem?_setIfInBounds_ne->a4l
open Bool renaming and_eq_true->jP,false_ne_true->uM,or_false->Dl,false_and->QG,true_and->Rk,false_eq_true->Rn,and_self->Rr,or_eq_true->RI,decide_or->a3l,eq_false_or_eq_true->a3q,eq_iff_iff->a5j
open Char renaming toNat->Rb
open False renaming elim->cC
open ForInStep renaming yield->o3
open Int renaming toNat_natCast->iq,emod_nonneg->mM,emod_lt_of_pos->mO,eq_ofNat_of_zero_le->rH,mul_le_mul->Ae,lt_or_le->Dy,zero_add->DA,mul_le_mul_of_nonneg_right->Rj,mul_nonneg->a3y
open List renaming length_append->aY,length_map->aZ,length_cons->a3,replicate->b0,size_toArray->dD,length_take->dW,getElem?_set_ne->d_,mem_cons_of_mem->eU,mem_append_right->ft,mem_cons_self->fI,cons_append->fT,map_cons->gz,getElem?_eq_getElem->gE,length_drop->gR,mem_cons->gS,range->g6,getElem?_set_self->g7,length_set->ip,map_append->iK,length_nil->iW,not_mem_nil->iX,getElem?_map->jO,append_assoc->jQ,mem_append_left->kD,append_nil->kE,getElem?_eq_none->kG,nil_append->l_,mem_of_mem_take->me,mem_of_mem_drop->mP,all_eq_true->nV,mem_append->nW,filterMap_cons->rn,length->rB,map_nil->rD,replicate_succ->rF,map_map->rJ,range_succ->s_,getElem?_append_right->uK,length_reverse->uO,getD->uQ,any_cons->uR,getElem?_append_left->xf,flatten_cons->xl,take_of_length_le->xn,take_append_drop->Af,getElem_mem->Ag,all_cons->Ah,reverse_cons->Dn,length_singleton->Dp,all_map->Dq,map_take->Dr,map_drop->Ds,drop_zero->Du,take_length->Dv,mem_of_getElem?->Jv,foldl->JF,foldl_cons->JG,drop_length->JJ,mem_singleton->JK,any_nil->JN,drop_eq_getElem_cons->JP,mem_or_eq_of_mem_set->JR,of_mem_zip->QI,getElem?_replicate->QL,range_succ_eq_map->Rh,map_congr_left->Ri,take_left'->Rl,drop_left'->Rm,all_nil->Rq,mem_map->Rt,countP_append->Rw,countP_cons->Rx,filterMap_append->Ry,take_succ->Rz,eq_of_mem_replicate->RA,range'->R6,getElem_inj->a2k,length_replicate->a2u,length_dropLast->a3c,getElem?_range->a3j,take_succ_cons->a3k,nodup_nil->a3o,all_eq_false->a3p,dropLast_concat_getLast->a3r,length_range->a3s,ext_getElem?->a3t,getElem?_take->a3u,getElem?_of_mem->a3v,map_replicate->a3w,take_zero->a3z,getElem_append_left->a5b,getElem_append_right->a5c,getElem_cons_succ->a5d,take_succ_eq_append_getElem->a5e
open List.cons renaming inj->DB,injEq->Ra
open Nat renaming le_refl->a9,lt_of_lt_of_le->eS,ne_of_lt->fQ,le_trans->fS,toDigits->md,ne_of_gt->oV,zero_add->p9,zero_le->rK,lt_irrefl->uC,toDigits_of_lt_base->xp,not_lt_zero->Ac,mul_add->Ai,min_eq_left->Dt,lt_succ_self->DJ,le_of_lt->Jq,lt_of_le_of_lt->JI,sub_self->JL,succ_mul->Q2,add_comm->Q4,mul_comm->Q5,min_eq_right->Q8,sub_zero->Q9,mod_lt->Rc,toDigits_append_toDigits->Rf,div_add_mod->Rg,le_succ->R5,le_of_not_lt->a3h,mul_le_mul->a3x,lt_succ_of_lt->a5l
open Ne renaming symm->dC
open Option renaming getD_none->QX,map_some->a3m,getD_some->a4e
open Option.some renaming inj->l9,injEq->xq
open Or renaming inr->fu,inl->iu
open Prod renaming fst->JX,snd->RJ
open Prod.mk renaming injEq->Ki
open PyProof renaming noPylong_small->a2p
open PyProof.Rows renaming AllBare->nS,callWith_type1->tf,envOfC->uJ,IsTup->w9,IntsAre->xg,Subscript_->DE,Call_->DG,slot_tuple_getitem->JA,callWith_builtin1->JU,boot_range->JW,slicePart_none->a2v,entry_tuple_getitem->a2z,args_tuple_getitem->a3a,subscriptTail_builtinR->a3b
open PyProof.Rows.F renaming plain_set_update_loop->R4,entry_set_update_loop->a5i
open PySem renaming Shared->ah,wpAny_mono->aq,wpAny->au,model->aF,wpAny_bind->aS,World->aX,Program->a5,starEach->a8,sizeLine->bK,wpAny_pure->bS,FuncData->cw,backTo->cD,mainGlobals->dm,Scope->dU,spliced->fJ,compEnvC->iA,binaryOp->iU,wpAny_holding->iV,compareOp->i9,cLine->i_,codeAny->jN,relabel->jR,rawInt->kh,strValues->kH,Keyword->lq,Model->l0,wpAny_Call_Name_kw->mQ,SetTable->mR,bootBuiltins->nR,Result->nU,isTrue->oS,assign->oU,sizeLine_eq->oW,Params->oY,JoinOk->oZ,NameKind->pZ,mem_of_lookup->p4,wpAny_field->p5,call_meets->p6,codeAny_mono->p8,wpAny_execs_nil->qc,pyIter->rA,IsPart->rC,wpAny_execs_cons->rL,swapsWith->rM,scanBound->rO,wpAny_passesOwn->ti,wpAny_loadPart_at->tj,Fin->tm,execs->uD,backToKw->uF,keywordEach->uG,bindL->uH,bindC->uI,getItem->uL,callerA->uN,foldedSetIterable->uS,wpAny_standAt->uT,attributeBase->uU,sliceBounds->xj,wpAny_truthy_bool->xr,newList->xu,newFunctionEnv->xy,closureFor->xA,GenState->z9,wpAny_newObj_type->Ab,holding->Ak,wpAny_call->Ao,wpAny_Return_some->Aq,comprehension->Ar,codeAny_builtin->Au,relayAll->Ax,revObj->Ay,behindInMarks->Dj,typeIs_int->Dm,wpAny_BinOp->DC,wpAny_Call_method_late->DI,noteFrame->DK,importedModules->DO,treeTable->DP,pyNext->Js,IsRangeIter->Jt,CmpOp->Ju,concat_meets->Jy,wpAny_typeOf->JB,Meets->JS,wpAny_ite_false->JT,wpAny_pyIter_list->JV,lookup_relabel_local->JY,wpAny_If->JZ,wpAny_Assign_Name->J2,wpAny_Expr_any->J3,wpAny_setField->J_,wpAny_rule->Ka,numAt->Kd,passOn->Ke,Comprehension->Kf,wpAny_comp_letGo->Kg,ElemsOf->Kl,wpAny_eqBool_str->Qz,builtinsNs->QB,wpAny_Name->QC,wpAny_assign_Name->QE,letOwnedTupleGo->QF,bindArgs->QH,leaving->QJ,cellsFrom->QK,noFill_tuple_add->QM,seq_tuple_add->QN,wpAny_call_entry->QS,typeLookup->QU,seqIndex_of->QV,seqIndex_neg->QW,call->Q6,DictEntry->Q7,standAt->RB,wpAny_List_spliced->RC,wpAny_tests_nil->RK,eval_ListComp->RL,wpAny_comprehension_free->RM,compPost->RN,excClassObj->RQ,codeAny_call_builtin->RU,checkBuiltinCall->RV,wpAny_of_eq->RX,plainId_quiet->RY,OsState->Sb,wpAny_pyNext_range_end->a2m,wpAny_pyIter_rangeiter->a2n,wpAny_pyIter_range->a2o,recursionLimit->a2s,wpAny_sequenceKey->a2x,wpAny_callSpecial?_slot->a2y,wpAny_binaryOp_repeat_ref->a3d,intText_digits->a3n,wpAny_isTrue_Compare1->a4a,wpAny_Tuple_spliced->a4b,seqSlot_of->a4d,exec_Assign_Name_used->a4f,codeAny_whileLoop->a4i,wpAny_Try_except->a4q,wpAny_handleBy_cons->a4r,codeAny_handlers_test->a4s,codeAny_of_tree->a4u,wpAny_storeSet_of->a5f,fits_of_scanBound->a5g,wpAny_runValue->a5k,typeLookup_type->a5m,builtinLookup_eq_fast->a5n,wpAny_specialOf->a5p,wpAny_Call_method_lateS->a5s
open PySem.Around renaming under_plainId->RZ
open PySem.AutoSeq1 renaming idx_int->RD
open PySem.Builtin.List renaming listExtendWith->Km,listTooLong->QY,listSameRef->a5o,listItems->a5q
open PySem.Builtin.Range renaming rangeSize->z_,small->a4m
open PySem.Builtin.Slice renaming slicePlaces->Jz,sliceAdjust->QR,sliceApplied->a2w
open PySem.Builtin.Str renaming occurrences->Aa,strSliceIndices->JO,tooLong->Q_,partsBetween->a4z,strKind->a5a
open PySem.Builtin.Tuple renaming tupleExact->JE,tupleItemsOf->QT,tupleTooMany->a4c
open PySem.Calls renaming spliced_cons->gF,spliced_nil->jz,evalArgs_plain->xB,callWith_builtin->As,Constant_str->QD,Name_function_global->a2l,call_len_list->a2q
open PySem.Challenge renaming pw_longrounds_k82_no_texts->Ko
open PySem.Code renaming quiet_builtin->a4p
open PySem.EntryCells renaming newEntry->a4j
open PySem.F renaming slot_int_rmul->JH,slot_str_split->Kk,slot_tuple_add->QO,entry_tuple_add->QP,args_tuple_add_2->QQ,slot_tuple_mul->RE,entry_tuple_mul->RF,args_tuple_mul_2->RG,plainAttrs_list->RO,typeOf_object_class->RT,entry_str_split->R0,args_str_split_2->R1,fills_int_mul->a3e,entry_int_rmul->a3f,args_int_rmul_2->a3g,slot_list_append->a4g,type_list_append->a4h,excBase_ValueError->a4n,plain_set_new->a4v,plainAttrs_str->a4y,slot_tuple_index->a5r
open PySem.Heap renaming lt_size->cG,get?_push_of_some->eX,get?_push_size->g0,SameBut->rp,get?_update_other->rE,get?_update_self->xi,size_push->DH,get?_none_of_le->Jr
open PySem.Heap.SameBut renaming update->a5h
open PySem.NameKind renaming free->xt
open PySem.Obj renaming mapFields->rN,mapSeq->xh,data_mapFields->RP,putSet->R3,isFreed_of_fields->a4k
open PySem.PyData renaming eqv->p_,canLay0->td,depth->Al,canLayAll0->Am,depthAll->An,eqvAll->DD
open PySem.SeqAt renaming in_tuple_reads->a4w
open PySem.SetTable renaming Probe->xC,grown->xD,below->DM,leap->DN,bits->Kj,runEnd->a4x
open PySem.SetTable.below renaming go->Kh
open PySem.SetTable.probe renaming go->a4t
open PySem.Str renaming join->gD,length->kF,ofString->oX,ext'->Dw,cps_append->JM,length_append->Ru
open PySem.StrLaws renaming join_split->sZ,split_free->Ad,glued_eq_join->Dx,join_length_le->Ro,joinFits->Rp
open PySem.Txt renaming split->bW,slice->g8,join->ir,strip->sY,upper->xo,slice_le->JQ
open PySem.Unicode renaming isSpace->Aj
open PySem.Value renaming ref->dS,none->kg,int->oR,bool->wY,type->wZ,str->zZ
open PySem.W renaming Frag->aD,nsIn->iL,boot_heap->kI,mroIn->pY,mg_of->rG,findIn->uE,kia_one->uV,keepIn->w_,callWith_K->Ap,SharedT->Az,fnOf->Dk,kitOne->DL,codeIn->Jw,clsIn->Kb,looks_mroIn->Kc,through->Kn,methodObj->QA,excIn->RS,looks_findIn->RW,staticsOk->R8,namesBound->R9,gensDone->R_,laidKept->Sa,topFrom->Sd,view->Se,instObj->a2j,specialIn->a2r,cellsFrom_some->a2t,OpenLaw->a3i,typeIn->a4o
open PySem.Walks renaming list->RH
open Std.Legacy renaming Range->R7
open Sum renaming inl->wW,inr->wX
open True renaming intro->Dz
noncomputable section
namespace L2
open PySem PySem.Spec PyProof.Rows
abbrev Key:=Sum Int Str
def Kp:Key->Value->Bool
 | .inl k,v=>Value.isInt k v
 | .inr x,v=>Value.isStrOf x v
def Sf(w:aX):Key->Int
 | .inl k=>hashInt k
 | .inr x=>hashStr w x
def qd:∀{k:Key} {v:Value},Kp k v=true->(∃i t,k=wW i/\v=oR i t)∨(∃x t,k=wX x/\v=zZ x t)
 | .inl i,v,h=>by
   obtain⟨t,e⟩:=Value.isInt_shape (k:=i) (v:=v) h
   exact .inl ⟨i,t,rfl,e⟩
 | .inr x,v,h=>by
   obtain⟨t,e⟩:=Value.isStrOf_shape (x:=x) (v:=v) h
   exact .inr ⟨x,t,rfl,e⟩
def Sg(a b:Int):decide ((wW a:Key)=wW b)=(a==b):=by
 by_cases e:a=b
 .subst e;simp
 .have h:¬(wW a:Key)=wW b:=λq=>e (Sum.inl.inj q)
  rw[decide_eq_false h]
  exact(beq_eq_false_iff_ne.mpr e).symm
def Sh(a b:Str):decide ((wX a:Key)=wX b)=decide (a=b):=by
 by_cases e:a=b
 .subst e;simp
 .have h:¬(wX a:Key)=wX b:=λq=>e (Sum.inr.inj q)
  rw[decide_eq_false h,decide_eq_false e]
def Si(a:Int)(b:Str):decide ((wW a:Key)=wX b)=false:=decide_eq_false (λq=>nomatch q)
def Sj(a:Str)(b:Int):decide ((wX a:Key)=wW b)=false:=decide_eq_false (λq=>nomatch q)
def Kq(prog:a5)(w:aX):PySem.KeyKind prog w Key where
 is:=Kp
 hash:=Sf w
 inj:=λv a b ha hb=>by
  rcases qd ha with ⟨i,t,rfl,rfl⟩ | ⟨x,t,rfl,rfl⟩
  .rcases qd hb with ⟨j,u,rfl,e⟩ | ⟨y,u,rfl,e⟩
   .injection e with e1 _;rw[e1]
   .exact nomatch e
  .rcases qd hb with ⟨j,u,rfl,e⟩ | ⟨y,u,rfl,e⟩
   .exact nomatch e
   .injection e with e1 _;rw[e1]
 byValue:=λk v h=>by
  rcases qd h with ⟨i,t,rfl,rfl⟩ | ⟨x,t,rfl,rfl⟩<;>rfl
 pyHash:=λhv h=>by
  rcases qd hv with ⟨i,t,rfl,rfl⟩ | ⟨x,t,rfl,rfl⟩
  .exact wpAny_pyHash_int h
  .exact wpAny_pyHash_str h
 eqBool:=λhu hv h=>by
  rcases qd hu with ⟨i,t,rfl,rfl⟩ | ⟨x,t,rfl,rfl⟩
  .rcases qd hv with ⟨j,u,rfl,rfl⟩ | ⟨y,u,rfl,rfl⟩
   .rw[Sg] at h;exact wpAny_eqBool_int h
   .rw[Si] at h;exact SeqAt.EqAt.int_str i t y u _ _ _ _ h
  .rcases qd hv with ⟨j,u,rfl,rfl⟩ | ⟨y,u,rfl,rfl⟩
   .rw[Sj] at h;exact SeqAt.EqAt.str_int x t j u _ _ _ _ h
   .rw[Sh] at h;exact Qz h
 «strs»:=λk x t v h=>by
  rcases qd h with ⟨i,u,rfl,e⟩ | ⟨y,u,rfl,e⟩
  .exact nomatch e
  .injection e with e1 _
   subst e1
   cases v<;>rfl
end L2
namespace L2
open PySem PySem.Spec PyProof.Rows
inductive V where
 | cI | bl (b:Bool) | int (i:Int) | str (x:Str) | xE (b:Array UInt8) | xF (b:UInt64) | ref (a:Addr) | ty (n:String)
 deriving DecidableEq
def RelV:V->Value->Prop
 | .cI,u=>u=kg
 | .bl b,u=>u=wY b
 | .int i,u=>∃t,u=oR i t
 | .str x,u=>∃t,u=zZ x t
 | .xE b,u=>∃t,u=Value.bytes b t
 | .xF b,u=>∃t,u=Value.float b t
 | .ref a,u=>u=dS a
 | .ty n,u=>u=wZ n
abbrev Vals:List V->List Value->Prop:=Paired RelV
def Vals.length{xs:List V}{us:List Value}(r:Vals xs us):xs.length=us.length:=Paired.length r
def Vals.get:∀{xs:List V} {us:List Value} {i:Nat} {x:V},Vals xs us->xs[i]? = some x->∃u,us[i]? = some u/\RelV x u
 | _,_,_,_,.nil,e=>by simp at e
 | _,_,0,_,.cons r _,e=>by simp at e;subst e;exact⟨_,rfl,r⟩
 | _,_,i+1,x,.cons _ t,e=>by
   obtain⟨u,h1,h2⟩:=Vals.get (i:=i) (x:=x) t (by simpa using e)
   exact⟨u,by simpa using h1,h2⟩
def Vals.set{x:V}{u:Value}(r:RelV x u):∀{xs:List V} {us:List Value} (i:Nat),Vals xs us->Vals (xs.set i x) (us.set i u)
 | _,_,_,.nil=>.nil
 | _,_,0,.cons _ t=>.cons r t
 | _,_,i+1,.cons q t=>.cons q (Vals.set r i t)
def Vals.append:∀{xs ys:List V} {us ws:List Value},Vals xs us->Vals ys ws->Vals (xs++ys) (us++ws)
 | _,_,_,_,.nil,s=>s
 | _,_,_,_,.cons r t,s=>.cons r (Vals.append t s)
def Vals.take:∀{xs:List V} {us:List Value} (n:Nat),Vals xs us->Vals (xs.take n) (us.take n)
 | _,_,0,_=>.nil
 | _,_,_+1,.nil=>.nil
 | _,_,n+1,.cons r t=>.cons r (Vals.take n t)
def Vals.drop:∀{xs:List V} {us:List Value} (n:Nat),Vals xs us->Vals (xs.drop n) (us.drop n)
 | _,_,0,r=>r
 | _,_,_+1,.nil=>.nil
 | _,_,n+1,.cons _ t=>Vals.drop n t
def Kr:Option V->Option Value->Prop
 | some v,some u=>RelV v u
 | none,none=>True
 | _,_=>False
def KV{κ:Type}:List (κ×V)->List (κ×Value)->Prop:=Paired λ(p:κ×V) (q:κ×Value)=>p.1=q.1/\RelV p.2 q.2
def kV:Key->V
 | .inl i=>.int i
 | .inr x=>.str x
inductive HO where
 | lst (xs:List V)
 | tup (xs:List V)
 | dK (g9:List (Key×V)) | dT (g9:List (List Key×V))
 | set (S:Int->Bool) (n:Nat)
 | ins (C dx:Addr) (fs:List (Str×V))
 | own (x:Addr)
 | xd (fs:List (Str×V))
 | met (f x:Addr)
 | AA (lo hi:Int)
 | gG (o:Obj) (u:HO)
 | rP (ps:Array Value)
 | ext (φ:Heap->Prop)
abbrev Hp:=Addr->Option HO
def upd(H:Hp)(a:Addr)(o:HO):Hp:=λb=>if b=a then some o else H b
def dg{H:Hp}{a:Addr}{o:HO}:upd H a o a=some o:=by unfold upd;rw[if_pos rfl]
def b_{H:Hp}{a b:Addr}{o:HO}(h:b≠a):upd H a o b=H b:=by unfold upd;rw[if_neg h]
def jA{H:Hp}{a b:Addr}{o:HO}(h:H a=some o)(h':H b=none):a≠b:=by
 intro e;subst e;rw[h] at h';cases h'
section
variable (P:a5)(w:aX)
def o4(h:Heap)(a:Addr)(items:Array Value):Prop:=∃o,h.get? a=some o/\o.cls = .type "tuple"/\∃n,(o.data,o.dict)=(.seq items n,none)
def o4.tup{h:Heap}{a:Addr}{items:Array Value}(x:o4 h a items):w9 h a items:=by
 obtain⟨o,e,c,n,d⟩:=x
 exact⟨o,e,c,n,(Prod.mk.inj d).1⟩
def o4.new(h:Heap)(items:Array Value):o4 (h.push { cls:=.type "tuple",data:=.seq items }) h.objs.size items:=⟨_,g0 h rfl,rfl,_,rfl⟩
def jB(H:Hp)(h:Heap)(a:Addr):HO->Prop
 | .lst xs=>xs.length<=bK/\∃(xL:List Value) (n:Nat),Vals xs xL/\h.get? a=some { cls:=.type "list",data:=.seq xL.toArray n }
 | .tup xs=>xs.length<=bK/\∃xL:List Value,Vals xs xL/\o4 h a xL.toArray
 | .dK g9=>g9.length<=bK/\(a==sysModules)=false/\∃vs,KV g9 vs/\h.DictOf (Kq P w) a vs
 | .dT g9=>g9.length<=bK/\(a==sysModules)=false/\∃xs:List (List Key×Addr×Value),
    Paired (λ(p:List Key×V) (q:List Key×Addr×Value)=>p.1=q.1/\H q.2.1=some (.tup (p.1.map kV))/\RelV p.2 q.2.2) g9 xs /\
    ∃o es ep,h.get? a=some o/\o.ExactDict/\o.data = .dict es ep/\es.toList=xs.map (entryOfKey (tupleKind (Kq P w)))/\(xs.map (·.1)).Nodup
 | .set S n=>h.SetOf (intKind P w) a S n
 | .ins C dx fs=>H dx=some (.own a)/\fs.length<=1000/\dx≠a/\h.get? a=some (a2j C dx) /\
    ∃mA,h.Ns1 dx mA/\(∀f,Kr (fs.lookup f) (mA f))/\PySem.Within mA (fs.map (·.1))
 | .own _=>∃o,h.get? a=some o
 | .xd fs=>∃mA,h.Ns1 a mA/\∀f,Kr (fs.lookup f) (mA f)
 | .AA lo hi=>∃t u v,h.get? a=some { cls:=.type "range",data:=.fields #[.int lo t,.int hi u,.int 1 v] }
 | .gG o u=>h.get? a=some o/\jB H h a u
 | .rP ps=>h.get? a=some { cls:=.none,data:=.fields ps }
 | .met f x=>h.get? a=some (QA (.ref f) (.ref x))
 | .ext φ=>φ h/\(∃o,h.get? a=some o)/\∀h1 h2:Heap,φ h1->(∀o,h1.get? a=some o->h2.get? a=some o)->φ h2
def eh(H:Hp)(h:Heap):Prop:=∀a o,H a=some o->jB P w H h a o
end
section
variable {P:a5}{w:aX}{H H':Hp}{h h':Heap}{a:Addr}{o:HO}
def jB.lt(x:jB P w H h a o):a<h.objs.size:=by
 cases o with
 | lst xs=>obtain⟨_,_,_,_,e⟩:=x;exact cG e
 | tup xs=>obtain⟨_,_,_,p⟩:=x;exact(o4.tup p).lt
 | dK g9=>obtain⟨_,_,_,_,o,_,_,e,_⟩:=x;exact cG e
 | dT g9=>obtain⟨_,_,_,_,o,_,_,e,_⟩:=x;exact cG e
 | set S n=>obtain⟨o,_,_,_,e,_⟩:=x;exact cG e
 | ins C dx fs=>obtain⟨_,_,_,e,_⟩:=x;exact cG e
 | own y=>obtain⟨_,e⟩:=x;exact cG e
 | xd fs=>obtain⟨_,⟨_,_,_,e,_⟩,_⟩:=x;exact cG e
 | AA lo hi=>obtain⟨_,_,_,e⟩:=x;exact cG e
 | gG ob u=>obtain⟨e,_⟩:=x;exact cG e
 | rP ps=>exact cG (show h.get? a=some _ from x)
 | met f y=>exact cG (show h.get? a=some _ from x)
 | ext φ=>obtain⟨_,⟨_,e⟩,_⟩:=x;exact cG e
def Paired.Ks{α β:Type}{F G:α->β->Prop}:∀{Kt:List α} {Ku:List β},Paired F Kt Ku->(∀a b,F a b->G a b)->Paired G Kt Ku
 | _,_,.nil,_=>.nil
 | _,_,.cons r t,f=>.cons (f _ _ r) (Paired.Ks t f)
def jB.kJ(x:jB P w H h a o)(k:∀b u,(b=a∨H b=some (.own a))->h.get? b=some u->h'.get? b=some u)
 (ho:∀b,H b=some (.own a)->H' b=some (.own a)) (ht:∀b xs,H b=some (.tup xs)->H' b=some (.tup xs)):jB P w H' h' a o:=by
 induction o with
 | lst xs=>obtain⟨z,xL,n,r,e⟩:=x;exact⟨z,xL,n,r,k _ _ (.inl rfl) e⟩
 | tup xs=>obtain⟨z,xL,r,ob,e,c⟩:=x;exact⟨z,xL,r,ob,k _ _ (.inl rfl) e,c⟩
 | dK g9=>obtain⟨z,y,vs,r,ob,es,ep,e,c⟩:=x;exact⟨z,y,vs,r,ob,es,ep,k _ _ (.inl rfl) e,c⟩
 | dT g9 =>
   obtain⟨z,y,xs,r,ob,es,ep,e,c⟩:=x
   exact⟨z,y,xs,Paired.Ks r λp q z=>⟨z.1,ht _ _ z.2.1,z.2.2⟩,ob,es,ep,k _ _ (.inl rfl) e,c⟩
 | set S n=>obtain⟨ob,es,ep,t,e,c⟩:=x;exact⟨ob,es,ep,t,k _ _ (.inl rfl) e,c⟩
 | ins C dx fs =>
   obtain⟨d,z,ne,e,mA,⟨od,es,ep,e2,c⟩,r⟩:=x
   exact⟨ho _ d,z,ne,k _ _ (.inl rfl) e,mA,⟨od,es,ep,k _ _ (.inr d) e2,c⟩,r⟩
 | own y=>obtain⟨ob,e⟩:=x;exact⟨ob,k _ _ (.inl rfl) e⟩
 | xd fs=>obtain⟨mA,⟨od,es,ep,e,c⟩,r⟩:=x;exact⟨mA,⟨od,es,ep,k _ _ (.inl rfl) e,c⟩,r⟩
 | AA lo hi=>obtain⟨t,u,v,e⟩:=x;exact⟨t,u,v,k _ _ (.inl rfl) e⟩
 | gG ob u ih=>obtain⟨e,q⟩:=x;exact⟨k _ _ (.inl rfl) e,ih q⟩
 | rP ps =>
   have e:h.get? a=some { cls:=.none,data:=.fields ps }:=x
   show h'.get? a=some { cls:=.none,data:=.fields ps }
   exact k a _ (.inl rfl) e
 | met f y =>
   have e:h.get? a=some (QA (.ref f) (.ref y)):=x
   show h'.get? a=some (QA (.ref f) (.ref y))
   exact k a _ (.inl rfl) e
 | ext φ=>obtain⟨p,⟨o,e⟩,st⟩:=x;exact⟨st _ _ p λo q=>k _ _ (.inl rfl) q,⟨o,k _ _ (.inl rfl) e⟩,st⟩
def eh.lt(x:eh P w H h)(e:H a=some o):a<h.objs.size:=(x a o e).lt
def eh.fresh(x:eh P w H h)(e:h.objs.size<=a):H a=none:=by
 cases q:H a with
 | none=>rfl
 | some u=>exact absurd (eS (x.lt q) e) (uC _)
def eh.kept(x:eh P w H h)(k:∀b u,h.get? b=some u->h'.get? b=some u):eh P w H h':=λa o e =>
 (x a o e).kJ (λb u _ q=>k b u q) (λ_ q=>q) λ_ _ q=>q
def eh.laid(x:eh P w H h)(k:∀b u,h.get? b=some u->h'.get? b=some u)(hp:h.objs.size<=a)(new:jB P w (upd H a o) h' a o):eh P w (upd H a o) h':=λb u e=>by
 have hn:=x.fresh hp
 by_cases hb:b=a
 .subst hb;rw[dg] at e;cases e;exact new
 .rw[b_ hb] at e
  exact(x b u e).kJ (λc v _ q=>k c v q) (λc q=>by rw[b_ (jA q hn)];exact q) λc xs q=>by rw[b_ (jA q hn)];exact q
end
def Rd(H:Hp)(a:Addr)(u:HO):Prop:=H a=some u∨∃o,H a=some (.gG o u)
def Rd.ok{P:a5}{w:aX}{H:Hp}{h:Heap}{a:Addr}{u:HO}(r:Rd H a u)(x:eh P w H h):jB P w H h a u:=by
 rcases r with r | ⟨o,r⟩
 .exact x a u r
 .obtain⟨_,q⟩:=x a _ r
  exact q
def AB:Option HO->Prop
 | some (.lst _)=>True
 | some (.dK _)=>True
 | some (.dT _)=>True
 | some (.set _ _)=>True
 | some (.ins _ _ _)=>True
 | some (.ext _)=>True
 | _=>False
section
variable {P:a5}{w:aX}{H:Hp}{h h':Heap}{x e:Addr}{o':HO}
def eh.write(ok:eh P w H h)(mu:AB (H x))(he:e=x∨H e=some (.own x))(k:∀b u,b≠e->h.get? b=some u->h'.get? b=some u)(uW:∃u,h'.get? e=some u)
 (new:jB P w (upd H x o') h' x o'):eh P w (upd H x o') h':=λb u q=>by
 have Kv:∀c y,H c=some (.own y)->c≠x:=λc y r z=>by subst z;rw[r] at mu;exact mu
 have Sk:∀c xs,H c=some (.tup xs)->c≠x:=λc xs r z=>by subst z;rw[r] at mu;exact mu
 by_cases hb:b=x
 .subst hb;rw[dg] at q;cases q;exact new
 .rw[b_ hb] at q
  by_cases tq:b=e
  .have q':H b=some (.own x):=by
    rcases he with z | z
    .exact absurd (tq.trans z) hb
    .rw[tq];exact z
   rw[q] at q';cases q'
   obtain⟨v,hv⟩:=uW
   exact⟨v,by rw[tq];exact hv⟩
  .refine(ok b u q).kJ (λc v hc r=>k c v ?_ r) (λc r=>by rw[b_ (Kv c b r)];exact r) λc xs r=>by rw[b_ (Sk c xs r)];exact r
   rcases hc with rfl | hc
   .exact tq
   .rintro rfl
    rcases he with z | z
    .exact Kv c b hc z
    .rw[hc] at z;cases z;exact hb rfl
end
structure Un (fs ex:List Addr) (H H':Hp) (h h':Heap):Prop where
 keep:∀b o,h.get? b=some o->H b=none->b ∉ fs->b ∉ ex->h'.get? b=some o
 slot:∀b o,h.get? b=some o->H b=none->b∈fs->b ∉ ex->∃sl,h'.get? b=some { o with slots:=sl }
 free:∀b o,h.get? b=some o->H b=none->b ∉ ex->H' b=none
 there:∀b o,h.get? b=some o->b ∉ ex->∃o',h'.get? b=some o'
 mf:∀b xs,H b=some (.tup xs)->H' b=some (.tup xs)
 lu:∀b o u,H b=some (.gG o u)->H' b=some (.gG o u)
 mh:∀b ps,H b=some (.rP ps)->∃more,H' b=some (.rP (ps++more))
section
variable {fs Sl ex ex':List Addr}{H H1 H2:Hp}{h h1 h2 h':Heap}{a x e:Addr}{o:HO}
def Un.any(u:Un fs ex H H1 h h1){b:Addr}{ob:Obj}(q:h.get? b=some ob)(n:H b=none)(hx:b ∉ ex):∃sl,h1.get? b=some { ob with slots:=sl }:=by
 by_cases hb:b∈fs
 .exact u.slot b ob q n hb hx
 .exact⟨ob.slots,u.keep b ob q n hb hx⟩
def Un.kept(k:∀b u,h.get? b=some u->h'.get? b=some u):Un fs ex H H h h' :=
 ⟨λb ob q _ _ _=>k b ob q,λb ob q _ _ _=>⟨ob.slots,k b ob q⟩,λ_ _ _ n _=>n,λb ob q _=>⟨ob,k b ob q⟩,λ_ _ q=>q,λ_ _ _ q=>q,λ_ ps q=>⟨#[],by rw[q];simp⟩⟩
def Un.refl:Un fs ex H H h h:=Un.kept λ_ _ q=>q
def Un.laid(k:∀b u,h.get? b=some u->h'.get? b=some u)(hp:h.objs.size<=a)(hn:H a=none):Un fs ex H (upd H a o) h h' where
 keep:=λb u q _ _ _=>k b u q
 slot:=λb u q _ _ _=>⟨u.slots,k b u q⟩
 free:=λb u q n _=>by rw[b_ (fQ (eS (cG q) hp))];exact n
 there:=λb u q _=>⟨u,k b u q⟩
 mf:=λb xs q=>by rw[b_ (jA q hn)];exact q
 lu:=λb u xs q=>by rw[b_ (jA q hn)];exact q
 mh:=λb ps q=>⟨#[],by rw[b_ (jA q hn),q];simp⟩
def Un.write(mu:AB (H x))(he:e=x∨H e=some (.own x))(k:∀b u,b≠e->h.get? b=some u->h'.get? b=some u)(uW:∃u,h'.get? e=some u):Un fs ex H (upd H x o) h h':=by
 have hx:∀b,H b=none->b≠x:=λb n z=>by subst z;rw[n] at mu;exact mu
 have hb:∀b,H b=none->b≠e:=λb n z=>by
  subst z
  rcases he with r | r
  .exact hx b n r
  .rw[n] at r;cases r
 have hm:∀b u,H b=some u->¬AB (some u)->b≠x:=λb u q nm z=>by subst z;rw[q] at mu;exact nm mu
 refine⟨λb u q n _ _=>k b u (hb b n) q,λb u q n _ _=>⟨u.slots,k b u (hb b n) q⟩,λb u q n _=>by rw[b_ (hx b n)];exact n,λb u q _=>?_,
  λb xs q=>by rw[b_ (hm b _ q λz=>z)];exact q,λb u xs q=>by rw[b_ (hm b _ q λz=>z)];exact q,λb ps q=>⟨#[],by rw[b_ (hm b _ q λz=>z),q];simp⟩⟩
 by_cases tq:b=e
 .subst tq;exact uW
 .exact⟨u,k b u tq q⟩
end
def AD(h:Heap)(H:Hp):List Addr:=(g6 h.objs.size).filter λa=>(H a).isSome
def ki(h:Heap)(H:Hp):Heap:=PySem.W.hideAll h (AD h H)
def Sm(h:Heap)(H:Hp):(ki h H).objs.size=h.objs.size:=PySem.W.hideAll_size _ _
def DQ{h:Heap}{H:Hp}{b:Addr}{o:Obj}(e:h.get? b=some o)(n:H b=none):(ki h H).get? b=some o :=
 PySem.W.hideAll_get _ e λhm=>by
  have q:(H b).isSome=true:=(List.mem_filter.mp hm).2
  rw[n] at q;simp at q
def DR{h:Heap}{H:Hp}{b:Addr}{o:Obj}(e:(ki h H).get? b=some o):h.get? b=some o/\H b=none:=by
 have e':h.get? b=some o:=PySem.W.of_hideAll (AD h H) e
 refine⟨e',?_⟩
 cases q:H b with
 | none=>rfl
 | some x =>
   have hm:b∈AD h H:=List.mem_filter.mpr ⟨List.mem_range.mpr (cG e'),by simp[q]⟩
   have z:(ki h H).get? b=none:=PySem.W.hideAll_none (AD h H) hm
   rw[z] at e;cases e
def Sn(g h:Heap)(L:Addr):List (Addr×Obj):=(g6 h.objs.size).filterMap λa=>if a=L∨(g.get? a).isSome=true then none else (h.get? a).map λo=>(a,o)
def rest(g h:Heap)(L d:Addr):List (Addr×Obj):=(Sn g h L).filter λp=>decide (p.1≠d)
end L2
namespace L2
open PySem PySem.Spec PyProof.Rows
structure Mod (K:aD) (mg:Str->Option Value) (base:Heap):Prop where
 o5:K.In base
 glob:base.Ns dm mg
 blt:∃mb,base.Ns QB mb/\∀x:Str,x≠"__name__"->mb x=nR x
 nolimit:base.NoLimit
structure Cx where
 prog:a5
 w:aX
 K:aD
 mg:Str->Option Value
 base:Heap
 A:Around
 N:List Str
 s₀:ah
 H₀:Hp
 env:Env
 outer:List Env
 stack:List Env
 ex:List Addr
 fn:Str->Bool
 calm:Bool
 pn:List (Addr×Obj)
 xe:Value->ah->Prop
def du(l:List Env):List Addr:=l.filterMap (·.frame)
abbrev Cx.fs (X:Cx):List Addr:=du X.outer
def nX(sc:dU)(x:Str):Prop:=sc.names.lookup x=some .local∨sc.names.lookup x=some .cell∨sc.names.lookup x=some .free
def Loc(sc:dU)(x:Str):Prop:=sc.names.lookup x=some .local∨sc.names.lookup x=some .cell
def Look(env:Env)(h:Heap)(m:Str->Option Value)(x:Str)(u:Value):Prop :=
 (env.kindOf x=some .local/\m x=some u)∨((env.kindOf x=some .cell∨env.kindOf x=some .free)/\∃c,env.cells.lookup x=some c/\h.IsCell c (some u))
structure Cx.Ok (X:Cx):Prop where
 mod:Mod X.K X.mg X.base
 kind:X.env.scope.kind = .function
 glob:X.env.globals=dm
 blt:X.env.builtins=QB
 above:X.s₀.heap.objs.size<=X.env.locals
 inj:∀x y c,X.env.cells.lookup x=some c->X.env.cells.lookup y=some c->x=y
 has:∀x,(X.env.kindOf x=some .cell∨X.env.kindOf x=some .free)->∃c,X.env.cells.lookup x=some c
 rQ:∀x c,X.fn x=true->X.env.cells.lookup x=some c->X.s₀.heap.objs.size<=c
 hd:X.calm=true->X.A.handled=none
 frames:X.A.frames=some X.stack
 tu:X.stack=X.outer∨(X.stack=X.env::X.outer/\X.env.frame=some X.env.locals)
 xG:∀b∈X.ex,b≠X.env.locals/\∀x c,X.env.cells.lookup x=some c->c≠b
 bs:∀b o,X.base.get? b=some o->X.s₀.heap.get? b=some o/\X.H₀ b=none
 mi:X.base.objs.size<=X.s₀.heap.objs.size
 rR:∀b o,X.base.get? b=some o->b ∉ X.ex
 tw:∀b∈X.ex,b ∉ X.fs
 kj:X.s₀.heap.FunFrames X.base X.outer
 mj:∀b∈X.fs,X.H₀ b=none
structure Inv (X:Cx) (zn:List (Addr×Obj)) (σ:List (Option V)) (H:Hp) (s:ah):Prop where
 ok:X.Ok
 os:s.os=X.s₀.os
 bare:nS s.gens
 base:Un X.fs X.ex X.H₀ H X.s₀.heap s.heap
 loc:∃m,s.heap.Ns X.env.locals m/\∀(i:Nat) (x:Str) (v:V),X.N[i]? = some x->σ[i]? = some (some v)->nX X.env.scope x->∃u,RelV v u/\Look X.env s.heap m x u
 cell:∀x c,X.env.cells.lookup x=some c->∃v,s.heap.IsCell c v
 free:H X.env.locals=none
 kK:∀x c,X.env.cells.lookup x=some c->H c=none
 pin:∀p∈X.pn++zn,s.heap.get? p.1=some p.2/\H p.1=none/\p.1≠X.env.locals/\p.1 ∉ X.fs/\∀v,p.2.data ≠ .cell v
 aU:eh X.prog X.w H s.heap
 len:σ.length=X.N.length
section
variable {X:Cx}{zn:List (Addr×Obj)}{σ:List (Option V)}{H H':Hp}{s:ah}{h':Heap}
def Cx.Ok.So(ok:X.Ok){b:Addr}{o:Obj}(e:X.base.get? b=some o):b ∉ X.fs:=λhb=>by
 have:=(ok.kj.mem hb).1
 rw[e] at this;cases this
def Inv.bs(I:Inv X zn σ H s):∀b o,X.base.get? b=some o->s.heap.get? b=some o/\H b=none:=λb o e =>
 ⟨I.base.keep b o (I.ok.bs b o e).1 (I.ok.bs b o e).2 (I.ok.So e) (I.ok.rR b o e),I.base.free b o (I.ok.bs b o e).1 (I.ok.bs b o e).2 (I.ok.rR b o e)⟩
def Inv.bk(I:Inv X zn σ H s):∀b o,X.base.get? b=some o->s.heap.get? b=some o:=λb o e=>(I.bs b o e).1
def Inv.mod(I:Inv X zn σ H s):Mod X.K X.mg X.base:=I.ok.mod
def Inv.gH(I:Inv X zn σ H s):X.K.In s.heap:=I.ok.mod.o5.keeps I.bk
def Inv.lt(I:Inv X zn σ H s):X.env.locals<s.heap.objs.size:=let ⟨_,hn,_⟩:=I.loc;hn.lt
def Inv.sz(I:Inv X zn σ H s):X.s₀.heap.objs.size<=s.heap.objs.size:=fS I.ok.above (Jq I.lt)
def Inv.DS(I:Inv X zn σ H s){a:Addr}(h:s.heap.objs.size<=a):a ∉ X.fs:=λhb=>by
 obtain⟨_,o,ho,_⟩:=I.ok.kj.mem hb
 exact absurd (eS (cG ho) (fS I.sz h)) (uC _)
def Inv.nY(I:Inv X zn σ H s):∀x c,X.env.cells.lookup x=some c->c≠X.env.locals:=λx c e z=>by
 obtain⟨v,o,ho,hd⟩:=I.cell x c e
 obtain⟨m,⟨o',es,ep,dJ,qe,_⟩,_⟩:=I.loc
 rw[z,dJ] at ho;cases ho;rw[qe] at hd;cases hd
def Inv.kj(I:Inv X zn σ H s):s.heap.FunFrames X.base X.outer:=by
 have all:∀(l:List Env),(∀b∈du l,b∈X.fs)->X.s₀.heap.FunFrames X.base l->s.heap.FunFrames X.base l:=by
  intro l
  induction l with
  | nil=>intro _ _;trivial
  | cons env r ih =>
    intro hs hl
    obtain⟨hk,⟨L,o,hf,hn,ho,hd⟩,hr⟩:=hl
    have hL:L∈X.fs:=hs L (by unfold du;rw[rn,hf];exact fI)
    obtain⟨sl,e⟩:=I.base.slot L o ho (I.ok.mj L hL) hL λz=>I.ok.tw L z hL
    exact⟨hk,⟨L,_,hf,hn,e,hd⟩,ih (λb hb=>hs b (by unfold du;rw[rn,hf];exact eU _ hb)) hr⟩
 exact all X.outer (λ_ hb=>hb) I.ok.kj
def Inv.stack(I:Inv X zn σ H s):s.heap.FunFrames X.base X.stack:=by
 rcases I.ok.tu with e | ⟨e,hf⟩
 .rw[e];exact I.kj
 .rw[e]
  obtain⟨m,hn,_⟩:=I.loc
  refine .cons (by rw[I.ok.kind];decide) hf hn ?_ I.kj
  exact Jr (fS I.ok.mi I.ok.above)
def Inv.uX(I:Inv X zn σ H s):∀b∈du X.stack,b∈X.env.locals::X.fs:=λb hb=>by
 rcases I.ok.tu with e | ⟨e,hf⟩
 .rw[e] at hb;exact eU _ hb
 .rw[e] at hb
  unfold du at hb
  rw[rn,hf] at hb
  exact hb
def Inv.DT(I:Inv X zn σ H s):∀b∈du X.stack,H b=none:=λb hb=>by
 rcases List.mem_cons.mp (I.uX b hb) with e | hb
 .rw[e];exact I.free
 .obtain⟨_,o,ho,_⟩:=I.ok.kj.mem hb
  exact I.base.free b o ho (I.ok.mj b hb) λz=>I.ok.tw b z hb
def Inv.step{g':Array z9}{t':Nat}{d':Drawn}{ch:List Addr}(I:Inv X zn σ H s)
 (jb:∀b∈ch,(b∈X.ex∨X.s₀.heap.get? b=none)/\b≠X.env.locals/\(∀x c,X.env.cells.lookup x=some c->c≠b)/\∀p∈X.pn++zn,p.1≠b)
 (keep:∀b o,b≠X.env.locals->b ∉ X.fs->b ∉ ch->s.heap.get? b=some o->H b=none->h'.get? b=some o)
 (slot:∀b o,b≠X.env.locals->b∈X.fs->b ∉ ch->s.heap.get? b=some o->H b=none->∃sl,h'.get? b=some { o with slots:=sl }) (free:∀b o,b ∉ ch->s.heap.get? b=some o->H b=none->H' b=none)
 (there:∀b o,b ∉ ch->s.heap.get? b=some o->∃o',h'.get? b=some o')
 (mf:∀b xs,H b=some (.tup xs)->H' b=some (.tup xs)) (lu:∀b o u,H b=some (.gG o u)->H' b=some (.gG o u)) (mh:∀b ps,H b=some (.rP ps)->∃more,H' b=some (.rP (ps++more)))
 (ns:∀m,s.heap.Ns X.env.locals m->h'.Ns X.env.locals m) (aU:eh X.prog X.w H' h') (hg:nS g') :
 Inv X zn σ H' { s with heap:=h',gens:=g',drawn:=d',toks:=t' }:=by
 have Kw:∀b o,X.s₀.heap.get? b=some o->b≠X.env.locals:=λb o e=>fQ (eS (cG e) I.ok.above)
 have AE:∀b o,X.s₀.heap.get? b=some o->b ∉ X.ex->b ∉ ch:=λb o e hx hb=>by
  rcases(jb b hb).1 with z | z
  .exact hx z
  .rw[e] at z;cases z
 have cellK:∀x c,X.env.cells.lookup x=some c->∀v,s.heap.IsCell c v->h'.IsCell c v:=λx c e v ⟨o,ho,hd⟩=>by
  have xH:c ∉ ch:=λz=>(jb c z).2.2.1 x c e rfl
  by_cases hc:c∈X.fs
  .obtain⟨sl,q⟩:=slot c o (I.nY x c e) hc xH ho (I.kK x c e)
   exact⟨_,q,hd⟩
  .exact⟨o,keep c o (I.nY x c e) hc xH ho (I.kK x c e),hd⟩
 refine⟨I.ok,I.os,hg,⟨λb o e n hb hx=>?_,λb o e n hb hx=>?_,λb o e n hx=>?_,λb o e hx=>?_,λb xs e=>mf b xs (I.base.mf b xs e),λb o xs e=>lu b o xs (I.base.lu b o xs e),λb ps e=>?_⟩,?_,λx c e=>?_,?_,λx c e=>?_,λp hp=>?_,aU,I.len⟩
 .exact keep b o (Kw b o e) hb (AE b o e hx) (I.base.keep b o e n hb hx) (I.base.free b o e n hx)
 .obtain⟨sl,e1⟩:=I.base.slot b o e n hb hx
  obtain⟨rS,e2⟩:=slot b _ (Kw b o e) hb (AE b o e hx) e1 (I.base.free b o e n hx)
  exact⟨rS,e2⟩
 .obtain⟨o',e1⟩:=I.base.there b o e hx
  exact free b o' (AE b o e hx) e1 (I.base.free b o e n hx)
 .obtain⟨o',e1⟩:=I.base.there b o e hx
  exact there b o' (AE b o e hx) e1
 .obtain⟨m1,e1⟩:=I.base.mh b ps e
  obtain⟨m2,e2⟩:=mh b _ e1
  exact⟨m1++m2,by rw[e2,Array.append_assoc]⟩
 .obtain⟨m,hn,hl⟩:=I.loc
  refine⟨m,ns m hn,λi x v e1 e2 e3=>?_⟩
  obtain⟨u,r,l⟩:=hl i x v e1 e2 e3
  refine⟨u,r,?_⟩
  rcases l with l | ⟨k,c,e,z⟩
  .exact .inl l
  .exact .inr ⟨k,c,e,cellK x c e _ z⟩
 .obtain⟨v,z⟩:=I.cell x c e
  exact⟨v,cellK x c e v z⟩
 .obtain⟨m,⟨o,_,_,ho,_⟩,_⟩:=I.loc
  exact free _ o (λz=>(jb _ z).2.1 rfl) ho I.free
 .obtain⟨v,o,ho,hd⟩:=I.cell x c e
  exact free c o (λz=>(jb c z).2.2.1 x c e rfl) ho (I.kK x c e)
 .obtain⟨e,n,ne,nf,d⟩:=I.pin p hp
  have xH:p.1 ∉ ch:=λz=>(jb p.1 z).2.2.2 p hp rfl
  exact⟨keep p.1 p.2 ne nf xH e n,free p.1 p.2 xH e n,ne,nf,d⟩
def Inv.un{t':Nat}(I:Inv X zn σ H s)(u:Un X.fs [] H H' s.heap h')(aU:eh X.prog X.w H' h'):Inv X zn σ H' { s with heap:=h',toks:=t' }:=by
 obtain⟨m,⟨o,es,ep,ho,r⟩,_⟩:=id I.loc
 obtain⟨sl,hL⟩:=u.any ho I.free (by simp)
 exact I.step (g':=s.gens) (d':=s.drawn) (ch:=[]) (λ_ z=>nomatch z) (λb o _ hb _ e n=>u.keep b o e n hb (by simp)) (λb o _ hb _ e n=>u.slot b o e n hb (by simp)) (λb o _ e n=>u.free b o e n (by simp)) (λb o _ e=>u.there b o e (by simp)) u.mf u.lu u.mh (λm' hm=>by
  obtain⟨o',cJ,DU,dJ,r'⟩:=hm
  rw[ho] at dJ;cases dJ
  exact⟨_,cJ,DU,hL,r'⟩) aU I.bare
def Inv.call{g':Array z9}{t':Nat}{d':Drawn}{ch:List Addr}(I:Inv X zn σ H s)(u:Un (du X.stack) ch H H' s.heap h')(aU:eh X.prog X.w H' h')(hg:nS g')
 (jb:∀b∈ch,(b∈X.ex∨X.s₀.heap.get? b=none)/\b≠X.env.locals/\(∀x c,X.env.cells.lookup x=some c->c≠b)/\∀p∈X.pn++zn,p.1≠b) :
 Inv X zn σ H' { s with heap:=h',gens:=g',drawn:=d',toks:=t' }:=by
 obtain⟨m,⟨o,es,ep,ho,r⟩,_⟩:=id I.loc
 obtain⟨sl,hL⟩:=u.any ho I.free λz=>(jb _ z).2.1 rfl
 exact I.step (ch:=ch) jb (λb o hL hb hc e n=>u.keep b o e n (λz=>(List.mem_cons.mp (I.uX b z)).elim hL hb) hc) (λb o _ _ hc e n=>u.any e n hc) (λb o hc e n=>u.free b o e n hc) (λb o hc e=>u.there b o e hc) u.mf u.lu u.mh (λm' hm=>by
  obtain⟨o',cJ,DU,dJ,r'⟩:=hm
  rw[ho] at dJ;cases dJ
  exact⟨_,cJ,DU,hL,r'⟩) aU hg
def Inv.turned{t':Nat}{it:Addr}(I:Inv X zn σ H s)(k:∀b o,b≠it->s.heap.get? b=some o->h'.get? b=some o)(hn:H it=none)(hL:it≠X.env.locals)
 (h1:it∈X.ex∨X.s₀.heap.objs.size<=it) (h2:∀x c,X.env.cells.lookup x=some c->c≠it) (h3:∀p∈X.pn++zn,p.1≠it):Inv X zn σ H { s with heap:=h',toks:=t' }:=by
 have Kx:∀b u,H b=some u->b≠it:=λb u e z=>by rw[z,hn] at e;cases e
 refine I.step (g':=s.gens) (d':=s.drawn) (ch:=[it]) (λb hb=>?_) (λb o _ _ hc e _=>k b o (λz=>hc (by simp[z])) e) (λb o _ _ hc e _=>⟨o.slots,k b o (λz=>hc (by simp[z])) e⟩) (λ_ _ _ _ n=>n)
  (λb o hc e=>⟨o,k b o (λz=>hc (by simp[z])) e⟩) (λ_ _ e=>e) (λ_ _ _ e=>e) (λb ps e=>⟨#[],by rw[e];simp⟩) (λm hm=>?_) (λb u e=>?_) I.bare
 .have e:b=it:=by simpa using hb
  subst e
  exact⟨h1.imp_right λz=>Jr z,hL,h2,h3⟩
 .obtain⟨o,es,ep,ho,r⟩:=hm
  exact⟨o,es,ep,k _ o (dC hL) ho,r⟩
 .refine(I.aU b u e).kJ (λc v hc q=>k c v ?_ q) (λ_ q=>q) λ_ _ q=>q
  rcases hc with z | z
  .rw[z];exact Kx b u e
  .exact Kx c _ z
def Inv.tok(I:Inv X zn σ H s)(t:Nat):Inv X zn σ H { s with toks:=t }:=I.un (h':=s.heap) (t':=t) Un.refl I.aU
def Inv.kept{t':Nat}(I:Inv X zn σ H s)(k:∀b u,s.heap.get? b=some u->h'.get? b=some u):Inv X zn σ H { s with heap:=h',toks:=t' }:=I.un (Un.kept k) (I.aU.kept k)
def Inv.laid{a:Addr}{o:HO}{t':Nat}(I:Inv X zn σ H s)(k:∀b u,s.heap.get? b=some u->h'.get? b=some u)(hp:s.heap.objs.size<=a)(new:jB X.prog X.w (upd H a o) h' a o) :
 Inv X zn σ (upd H a o) { s with heap:=h',toks:=t' }:=I.un (Un.laid k hp (I.aU.fresh hp)) (I.aU.laid k hp new)
def Inv.write{x e:Addr}{o:HO}{t':Nat}(I:Inv X zn σ H s)(mu:AB (H x))(he:e=x∨H e=some (.own x))(k:∀b u,b≠e->s.heap.get? b=some u->h'.get? b=some u)(uW:∃u,h'.get? e=some u)
 (new:jB X.prog X.w (upd H x o) h' x o):Inv X zn σ (upd H x o) { s with heap:=h',toks:=t' }:=I.un (Un.write mu he k uW) (I.aU.write mu he k uW new)
def Inv.uY{rT:List (Addr×Obj)}(I:Inv X zn σ H s)(h:∀p∈rT,s.heap.get? p.1=some p.2/\H p.1=none/\p.1≠X.env.locals/\p.1 ∉ X.fs/\∀v,p.2.data ≠ .cell v):Inv X rT σ H s :=
 ⟨I.ok,I.os,I.bare,I.base,I.loc,I.cell,I.free,I.kK,λp hp=>(List.mem_append.mp hp).elim (λz=>I.pin p (kD _ z)) (h p),I.aU,I.len⟩
def DV{N:List Str}(hN:N.Nodup){i j:Nat}{x:Str}(a:N[i]? = some x)(b:N[j]? = some x):i=j:=by
 obtain⟨h1,e1⟩:=List.getElem?_eq_some_iff.mp a
 obtain⟨h2,e2⟩:=List.getElem?_eq_some_iff.mp b
 exact(a2k hN).mp (e1.trans e2.symm)
def DW{M:l0}{A:Around}{E:Value->ah->Prop}{i:Nat}{x:Str}{v:V}{u:Value}{Q:Unit->ah->Prop}(I:Inv X zn σ H s)(hN:X.N.Nodup)(hi:X.N[i]? = some x)(hx:Loc X.env.scope x)(r:RelV v u)
 (h:∀s',Inv X zn (σ.set i (some v)) H s'->(∃a,rp a s.heap s'.heap/\(a=X.env.locals∨X.env.cells.lookup x=some a))->Q () s') (hf:X.fn x=true∨X.env.scope.names.lookup x=some .local:=by first | exact .inl rfl | exact .inr rfl | assumption):au M A (storeName X.env x u) Q E s:=by
 obtain⟨m,hn,hl⟩:=id I.loc
 have DX:(X.env.scope.kind == .class||(X.env.scope.kind == .module&&X.env.locals != X.env.globals))=false:=by rw[I.ok.kind];rfl
 have AF:i<σ.length:=by rw[I.len];exact(List.getElem?_eq_some_iff.mp hi).1
 have nY:=I.nY
 have tracked:∀{a:Addr} {h':Heap},(∃o,s.heap.get? a=some o/\H a=none)->rp a s.heap h'->eh X.prog X.w H h':=λ{a h'} ha hs b ob e=>by
  obtain⟨_,_,Ky⟩:=ha
  refine(I.aU b ob e).kJ (λc w' hc q=>(hs.2 c ?_).trans q) (λ_ q=>q) λ_ _ q=>q
  rintro rfl
  rcases hc with rfl | hc
  .rw[Ky] at e;cases e
  .rw[Ky] at hc;cases hc
 rcases hx with hk | hk
 .refine wpAny_storeName_local hk hn (λh' g_ hs=>?_) DX
  obtain⟨oL,_,_,Sr,_⟩:=id hn
  refine h _ ⟨I.ok,I.os,I.bare,⟨λb o e n hb hx=>?_,λb o e n hb hx=>?_,I.base.free,λb o e hx=>?_,I.base.mf,I.base.lu,I.base.mh⟩,⟨_,g_,λj y v' e1 e2 e3=>?_⟩,λy c e=>?_,I.free,I.kK,λp hp=>?_,tracked ⟨oL,Sr,I.free⟩ hs,by simpa using I.len⟩ ⟨_,hs,.inl rfl⟩
  .exact(hs.2 b (fQ (eS (cG e) I.ok.above))).trans (I.base.keep b o e n hb hx)
  .obtain⟨sl,e1⟩:=I.base.slot b o e n hb hx
   exact⟨sl,(hs.2 b (fQ (eS (cG e) I.ok.above))).trans e1⟩
  .obtain⟨o',e1⟩:=I.base.there b o e hx
   exact⟨o',(hs.2 b (fQ (eS (cG e) I.ok.above))).trans e1⟩
  .by_cases hj:j=i
   .subst hj
    rw[hi] at e1;cases e1
    rw[g7 AF] at e2
    cases e2
    exact⟨u,r,.inl ⟨hk,by simp⟩⟩
   .rw[d_ (dC hj)] at e2
    obtain⟨u',r',q⟩:=hl j y v' e1 e2 e3
    refine⟨u',r',?_⟩
    rcases q with ⟨k,e⟩ | ⟨k,c,e,z⟩
    .refine .inl ⟨k,?_⟩
     have:y≠x:=λe=>hj (DV hN e1 (e ▸ hi))
     simp[this,e]
    .exact .inr ⟨k,c,e,z.sameBut hs (nY y c e)⟩
  .obtain⟨w',z⟩:=I.cell y c e
   exact⟨w',z.sameBut hs (nY y c e)⟩
  .obtain⟨e,n,ne,nf,d⟩:=I.pin p hp
   exact⟨(hs.2 p.1 ne).trans e,n,ne,nf,d⟩
 .have DY:X.fn x=true:=by
   rcases hf with z | z
   .exact z
   .rw[z] at hk;cases hk
  obtain⟨c,hc⟩:=I.ok.has x (.inl hk)
  obtain⟨w',z⟩:=I.cell x c hc
  refine wpAny_storeName_cell I.ok.kind hk hc z (λh' o7 hs=>?_)
  obtain⟨oc,Kz,Ss⟩:=id z
  refine h { s with heap:=h' } ⟨I.ok,I.os,I.bare,⟨λb o e n hb hx=>?_,λb o e n hb hx=>?_,I.base.free,λb o e hx=>?_,I.base.mf,I.base.lu,I.base.mh⟩,⟨m,hn.sameBut hs (dC (nY x c hc)),λj y v' e1 e2 e3=>?_⟩,λy c' e=>?_,I.free,I.kK,λp hp=>?_,tracked ⟨oc,Kz,I.kK x c hc⟩ hs,by simpa using I.len⟩ ⟨c,hs,.inr hc⟩
  .exact(hs.2 b (fQ (eS (cG e) (I.ok.rQ x c DY hc)))).trans (I.base.keep b o e n hb hx)
  .obtain⟨sl,e1⟩:=I.base.slot b o e n hb hx
   exact⟨sl,(hs.2 b (fQ (eS (cG e) (I.ok.rQ x c DY hc)))).trans e1⟩
  .obtain⟨o',e1⟩:=I.base.there b o e hx
   exact⟨o',(hs.2 b (fQ (eS (cG e) (I.ok.rQ x c DY hc)))).trans e1⟩
  .by_cases hj:j=i
   .subst hj
    rw[hi] at e1;cases e1
    rw[g7 AF] at e2
    cases e2
    exact⟨u,r,.inr ⟨.inl hk,c,hc,o7⟩⟩
   .rw[d_ (dC hj)] at e2
    obtain⟨u',r',q⟩:=hl j y v' e1 e2 e3
    refine⟨u',r',?_⟩
    rcases q with q | ⟨k,c',e,z'⟩
    .exact .inl q
    .refine .inr ⟨k,c',e,z'.sameBut hs ?_⟩
     rintro rfl
     exact hj (DV hN e1 (I.ok.inj _ _ _ e hc ▸ hi))
  .by_cases uZ:c'=c
   .subst uZ;exact⟨_,o7⟩
   .obtain⟨w2,z2⟩:=I.cell y c' e
    exact⟨w2,z2.sameBut hs uZ⟩
  .obtain⟨e,n,ne,nf,d⟩:=I.pin p hp
   refine⟨(hs.2 p.1 ?_).trans e,n,ne,nf,d⟩
   intro q
   rw[q,Kz] at e
   have q':oc=p.2:=l9 e
   exact d w' (by rw[<-q'];exact Ss)
def u0{M:l0}{A:Around}{E:Value->ah->Prop}{i:Nat}{x:Str}{v:V}{u:Value}{Q:Unit->ah->Prop}(I:Inv X zn σ H s)(hN:X.N.Nodup)(hi:X.N[i]? = some x)(hx:Loc X.env.scope x)(r:RelV v u)
 (h:∀s',Inv X zn (σ.set i (some v)) H s'->Q () s') (hf:X.fn x=true∨X.env.scope.names.lookup x=some .local:=by first | exact .inl rfl | exact .inr rfl | assumption):au M A (storeName X.env x u) Q E s :=
 DW I hN hi hx r (λs' I' _=>h s' I') hf
def Inv.DZ{s':ah}{ch:List Addr}(I:Inv X zn σ H s)(ho:s'.os=s.os)(u:Un (du X.stack) ch H H' s.heap s'.heap)(aU:eh X.prog X.w H' s'.heap)(hg:nS s'.gens)
 (jb:∀b∈ch,(b∈X.ex∨X.s₀.heap.get? b=none)/\b≠X.env.locals/\(∀x c,X.env.cells.lookup x=some c->c≠b)/\∀p∈X.pn++zn,p.1≠b):Inv X zn σ H' s':=by
 obtain⟨h',g',d',t',o'⟩:=s'
 have e:o'=s.os:=ho
 subst e
 exact I.call (g':=g') (t':=t') (d':=d') u aU hg jb
end
abbrev XK:=Value->Option Addr->Hp->Prop
abbrev St:=List (Option V)
abbrev VK:=V->Hp->Prop
abbrev TE:=St->Hp->VK->Prop
abbrev TT:=St->Hp->(Bool->Hp->Prop)->Prop
abbrev TA:=St->Hp->(List V->Hp->Prop)->Prop
structure Ends where
 nx:St->Hp->Prop
 rt:VK
 bk:St->Hp->Prop:=λ_ _=>False
 ct:St->Hp->Prop:=λ_ _=>False
abbrev TS:=Ends->St->Hp->Prop
def EP(X:Cx)(zn:List (Addr×Obj))(σ:St)(Q:VK)(u:Value)(s':ah):Prop:=∃v H',Inv X zn σ H' s'/\RelV v u/\Q v H'
def TP(X:Cx)(zn:List (Addr×Obj))(σ:St)(Q:Bool->Hp->Prop)(b:Bool)(s':ah):Prop:=∃H',Inv X zn σ H' s'/\Q b H'
def AP(X:Cx)(zn:List (Addr×Obj))(σ:St)(Q:List V->Hp->Prop)(us:List Value)(s':ah):Prop:=∃vs H',Inv X zn σ H' s'/\Vals vs us/\Q vs H'
def SP(X:Cx)(zn:List (Addr×Obj))(D:Ends)(f:Flow)(s':ah):Prop :=
 match f with
 | .next=>∃aO H',Inv X zn aO H' s'/\D.nx aO H'
 | .brk=>∃aO H',Inv X zn aO H' s'/\D.bk aO H'
 | .cont=>∃aO H',Inv X zn aO H' s'/\D.ct aO H'
 | .ret u=>∃v aO H',Inv X zn aO H' s'/\RelV v u/\D.rt v H'
def PE(X:Cx)(e:Expr)(t:TE):Prop :=
 ∀(zn:List (Addr×Obj)) (s:ah) (σ:St) (H:Hp) (Q:VK),Inv X zn σ H s->t σ H Q->au (aF X.prog X.w) X.A (eval e X.env) (EP X zn σ Q) X.xe s
def PT(X:Cx)(e:Expr)(t:TT):Prop :=
 ∀(zn:List (Addr×Obj)) (s:ah) (σ:St) (H:Hp) (Q:Bool->Hp->Prop),Inv X zn σ H s->t σ H Q->au (aF X.prog X.w) X.A (oS e X.env (eval e X.env)) (TP X zn σ Q) X.xe s
def PW(X:Cx)(e:Expr)(t:TT):Prop :=
 ∀(whole:Sem Value) (zn:List (Addr×Obj)) (s:ah) (σ:St) (H:Hp) (Q:Bool->Hp->Prop),Inv X zn σ H s->t σ H Q->au (aF X.prog X.w) X.A (oS e X.env whole) (TP X zn σ Q) X.xe s
def Su(X:Cx)(st:List Stmt)(t:TS):Prop :=
 ∀(zn:List (Addr×Obj)) (s:ah) (σ:St) (H:Hp) (D:Ends),Inv X zn σ H s->t D σ H->au (aF X.prog X.w) X.A (uD st X.env) (SP X zn D) X.xe s
def je{α:Type}{t:Sem α}{Q Q':α->ah->Prop}{M:l0}{A:Around}{E:Value->ah->Prop}{s:ah}(h:au M A t Q E s)(hQ:∀a s,Q a s->Q' a s):au M A t Q' E s:=aq h hQ λ_ _ x=>x
end L2
namespace L2
open PySem PySem.Spec PyProof.Rows
section
variable {X:Cx}
def KA(i:Nat):TE:=λσ H Q=>∃v,σ[i]? = some (some v)/\Q v H
def tC(v:V):TE:=λ_ H Q=>Q v H
def rU{i:Nat}{x:Str}{pos:Pos}(hN:X.N[i]? = some x)(hv:nX X.env.scope x)(hd:(x==("__debug__":Str))=false:=by decide)(eA:(x==("__classdict__":Str))=false:=by decide):PE X (.Name x pos) (KA i):=by
 intro zn s σ H Q I h
 obtain⟨v,e,h⟩:=h
 obtain⟨m,hn,hl⟩:=I.loc
 obtain⟨u,r,l⟩:=hl i x v hN e hv
 have fin:EP X zn σ Q u s:=⟨v,H,I,r,h⟩
 rcases l with ⟨hk,hm⟩ | ⟨hk,c,hc,AG⟩
 .exact QC (wpAny_loadName_local I.ok.kind hk hn hm fin) hd
 .rcases hk with hk | hk
  .exact QC (wpAny_loadName_cell I.ok.kind hk hc AG fin) hd
  .exact QC (wpAny_loadName_free I.ok.kind hk hc AG fin eA) hd
def Sv{i j pos}:PE X (.Constant (.int i) j pos) (tC (.int i)):=λ_ _ _ H _ I h=>wpAny_Constant_int ⟨.int i,H,I.tok _,⟨_,rfl⟩,h⟩
def Sw{b j pos}:PE X (.Constant (.bool b) j pos) (tC (.bl b)):=λ_ _ _ H _ I h=>Constant_bool ⟨.bl b,H,I,rfl,h⟩
def Sy{x j pos}:PE X (.Constant (.str x) j pos) (tC (.str x)):=λ_ _ _ H _ I h=>QD ⟨.str x,H,I.tok _,⟨_,rfl⟩,h⟩
def Gl(X:Cx)(x:Str):Prop:=X.env.kindOf x=some .globalImplicit
def mS{E:Value->ah->Prop}{zn:List (Addr×Obj)}{s:ah}{σ:St}{H:Hp}{x:Str}{u:Value}{pos:Pos}{Q:Value->ah->Prop}(I:Inv X zn σ H s)(hg:Gl X x)(hm:X.mg x=some u)(h:Q u s)
 (hd:(x==("__debug__":Str))=false:=by decide):au (aF X.prog X.w) X.A (eval (.Name x pos) X.env) Q E s :=
 a2l I.ok.kind hg (Calls.loadGlobal_global (by rw[I.ok.glob];exact I.mod.glob.keeps I.bk) hm h) hd
def kl{E:Value->ah->Prop}{zn:List (Addr×Obj)}{s:ah}{σ:St}{H:Hp}{x:Str}{u:Value}{pos:Pos}{Q:Value->ah->Prop}(I:Inv X zn σ H s)(hg:Gl X x)(hm:X.mg x=none)(hv:nR x=some u)(h:Q u s)
 (hn:x≠"__name__":=by decide) (hd:(x==("__debug__":Str))=false:=by decide):au (aF X.prog X.w) X.A (eval (.Name x pos) X.env) Q E s:=by
 obtain⟨mb,h1,h2⟩:=I.mod.blt
 exact a2l I.ok.kind hg (Calls.loadGlobal_builtin (by rw[I.ok.glob];exact I.mod.glob.keeps I.bk) hm (by rw[I.ok.blt];exact h1.keeps I.bk) ((h2 x hn).trans hv) h) hd
def Sz{x:Str}{v:V}{u:Value}{pos:Pos}(hg:Gl X x)(hm:X.mg x=some u)(r:RelV v u)(hd:(x==("__debug__":Str))=false:=by decide):PE X (.Name x pos) (tC v) :=
 λ_ _ _ H _ I h=>mS I hg hm ⟨v,H,I,r,h⟩ hd
variable {a b:Expr}{ta tb:TE}{pos:Pos}
variable {tA tB':TT}{rest:List Expr}
end
end L2
namespace L2
open PySem PySem.Spec PyProof.Rows
def cE(K:aD)(H:Hp)(a:Addr)(xs:List V):Prop :=
 Rd H a (.lst xs) ∨
  ∃(o:Obj) (xL:Array Value) (n:Nat),K.lookup a=some o/\o.cls = .type "list"/\o.dict=none/\o.data = .seq xL n/\xL.size<=bK/\Vals xs xL.toList
def cX(K:aD)(H:Hp)(a:Addr)(xs:List V):Prop :=
 Rd H a (.tup xs) ∨
  ∃(o:Obj) (xL:Array Value) (n:Nat),K.lookup a=some o/\o.cls = .type "tuple"/\(o.data,o.dict)=(.seq xL n,none)/\xL.size<=bK/\Vals xs xL.toList
def SA:Value->Option V
 | .none=>some .cI
 | .bool b=>some (.bl b)
 | .int i _=>some (.int i)
 | .str x _=>some (.str x)
 | .bytes b _=>some (.xE b)
 | .float b _=>some (.xF b)
 | .ref a=>some (.ref a)
 | .type n=>some (.ty n)
 | _=>none
def RelV.abs{x:V}{u:Value}(r:RelV x u):SA u=some x:=by
 cases x with
 | cI=>cases r;rfl
 | bl _=>cases r;rfl
 | int _=>obtain⟨t,rfl⟩:=r;rfl
 | str _=>obtain⟨t,rfl⟩:=r;rfl
 | xE _=>obtain⟨t,rfl⟩:=r;rfl
 | xF _=>obtain⟨t,rfl⟩:=r;rfl
 | ref _=>cases r;rfl
 | ty _=>cases r;rfl
def RelV.inj{x y:V}{u:Value}(r:RelV x u)(q:RelV y u):x=y:=l9 (r.abs.symm.trans q.abs)
def Vals.inj:∀{xs ys:List V} {us:List Value},Vals xs us->Vals ys us->xs=ys
 | _,_,_,.nil,.nil=>rfl
 | _,_,_,.cons r t,.cons r' t'=>by rw[r.inj r',Vals.inj t t']
section
variable {X:Cx}{zn:List (Addr×Obj)}{σ:St}{H:Hp}{s:ah}{a:Addr}{xs ys:List V}
def cE.of{K:aD}(h:H a=some (.lst xs)):cE K H a xs:=.inl (.inl h)
def cX.of{K:aD}(h:H a=some (.tup xs)):cX K H a xs:=.inl (.inl h)
def Inv.list(I:Inv X zn σ H s)(h:cE X.K H a xs):∃xL:List Value,Vals xs xL/\PlainL s.heap a xL.toArray/\xs.length<=bK:=by
 rcases h with h | ⟨o,xL,n,hk,hc,hd,hs,hz,r⟩
 .obtain⟨z,xL,n,r,e⟩:=h.ok I.aU
  exact⟨xL,r,⟨_,n,e,rfl,rfl,rfl⟩,z⟩
 .refine⟨xL.toList,r,⟨o,n,I.gH a o hk,hc,hd,by simpa using hs⟩,?_⟩
  have e:=r.length
  simp only[rq] at e
  lia
def Inv.KC(I:Inv X zn σ H s)(h:cX X.K H a xs):∃xL:List Value,Vals xs xL/\o4 s.heap a xL.toArray/\xs.length<=bK:=by
 rcases h with h | ⟨o,xL,n,hk,hc,hs,hz,r⟩
 .obtain⟨z,xL,r,p⟩:=h.ok I.aU
  exact⟨xL,r,p,z⟩
 .refine⟨xL.toList,r,⟨o,I.gH a o hk,hc,n,by simpa using hs⟩,?_⟩
  have e:=r.length
  simp only[rq] at e
  lia
def Inv.tuple(I:Inv X zn σ H s)(h:cX X.K H a xs):∃xL:List Value,Vals xs xL/\w9 s.heap a xL.toArray/\xs.length<=bK:=by
 obtain⟨xL,r,p,z⟩:=I.KC h
 exact⟨xL,r,p.tup,z⟩
def Inv.SD(I:Inv X zn σ H s)(h:cE X.K H a xs)(h':cE X.K H a ys):xs=ys:=by
 obtain⟨xL,r,⟨o,n,e,_,_,d⟩,_⟩:=I.list h
 obtain⟨its',r',⟨o',n',e',_,_,d'⟩,_⟩:=I.list h'
 rw[e] at e';cases e'
 rw[d] at d'
 injection d' with d1 _
 have:xL=its':=by simpa using congrArg Array.toList d1
 subst this
 exact r.inj r'
def Inv.SE(I:Inv X zn σ H s)(h:cX X.K H a xs)(h':cX X.K H a ys):xs=ys:=by
 obtain⟨xL,r,⟨o,e,_,n,d⟩,_⟩:=I.tuple h
 obtain⟨its',r',⟨o',e',_,n',d'⟩,_⟩:=I.tuple h'
 rw[e] at e';cases e'
 rw[d] at d'
 injection d' with d1 _
 have:xL=its':=by simpa using congrArg Array.toList d1
 subst this
 exact r.inj r'
end
abbrev Cx.dv (X:Cx) (E:Value->ah->Prop):Cx:={ X with xe:=E }
abbrev Cx.b5 (X:Cx):Cx:=X.dv λ_ _=>False
def Cx.Ok.dv{X:Cx}(ok:X.Ok)(E:Value->ah->Prop):(X.dv E).Ok :=
 ⟨ok.mod,ok.kind,ok.glob,ok.blt,ok.above,ok.inj,ok.has,ok.rQ,ok.hd,ok.frames,ok.tu,ok.xG,ok.bs,ok.mi,ok.rR,ok.tw,ok.kj,ok.mj⟩
def Cx.Ok.fK{X:Cx}{E:Value->ah->Prop}(ok:(X.dv E).Ok):X.Ok :=
 ⟨ok.mod,ok.kind,ok.glob,ok.blt,ok.above,ok.inj,ok.has,ok.rQ,ok.hd,ok.frames,ok.tu,ok.xG,ok.bs,ok.mi,ok.rR,ok.tw,ok.kj,ok.mj⟩
section
variable {X:Cx}{zn:List (Addr×Obj)}{σ:St}{H:Hp}{s:ah}{E:Value->ah->Prop}
def Inv.dv(I:Inv X zn σ H s)(E:Value->ah->Prop):Inv (X.dv E) zn σ H s:=⟨I.ok.dv E,I.os,I.bare,I.base,I.loc,I.cell,I.free,I.kK,I.pin,I.aU,I.len⟩
def Inv.fK(I:Inv (X.dv E) zn σ H s):Inv X zn σ H s:=⟨I.ok.fK,I.os,I.bare,I.base,I.loc,I.cell,I.free,I.kK,I.pin,I.aU,I.len⟩
end
section
variable {X:Cx}{st:Stmt}{rest:List Stmt}{t u:TS}{e:Expr}{te:TE}{pos:Pos}
def Inv.quiet{zn:List (Addr×Obj)}{σ:St}{H:Hp}{s:ah}(I:Inv X zn σ H s):interactive X.env=false:=by simp[interactive,I.ok.kind]
end
abbrev TG:=V->St->Hp->(St->Hp->Prop)->Prop
def PG(X:Cx)(target:Expr)(t:TG):Prop :=
 ∀(zn:List (Addr×Obj)) (s:ah) (σ:St) (H:Hp) (v:V) (u:Value) (Q:St->Hp->Prop),Inv X zn σ H s->RelV v u->t v σ H Q ->
  au (aF X.prog X.w) X.A (oU target X.env u) (λ_ s'=>∃aO H',Inv X zn aO H' s'/\Q aO H') X.xe s
abbrev SF:=V->V->V->Hp->(Hp->Prop)->Prop
def SG(X:Cx)(t:SF):Prop :=
 ∀(zn:List (Addr×Obj)) (s:ah) (σ:St) (H:Hp) (o i v:V) (ov iv u:Value) (Q:Hp->Prop),Inv X zn σ H s->RelV o ov->RelV i iv->RelV v u->t o i v H Q ->
  au (aF X.prog X.w) X.A (setItem ov iv u) (λ_ s'=>∃H',Inv X zn σ H' s'/\Q H') X.xe s
section
variable {X:Cx}{pos:Pos}
def D0(i:Nat):TG:=λv σ H Q=>Q (σ.set i (some v)) H
def KD{i:Nat}{x:Str}(hN:X.N.Nodup)(hi:X.N[i]? = some x)(hx:Loc X.env.scope x)(hf:X.fn x=true∨X.env.scope.names.lookup x=some .local:=by first | exact .inl rfl | exact .inr rfl | assumption):PG X (.Name x pos) (D0 i):=by
 intro zn s σ H v u Q I r h
 exact QE (u0 I hN hi hx r (λs' I'=>⟨_,H,I',h⟩) hf)
end
section
variable {X:Cx}{pos:Pos}
end
structure It where
 go:Nat->Hp->Prop
 xI:Nat->Hp->V->Hp->Prop
 stop:Nat->Hp->Prop
def iY(X:Cx)(zn:List (Addr×Obj))(H:Hp)(b:Addr):Prop :=
 H b=none/\b≠X.env.locals/\b ∉ X.fs/\(b∈X.ex∨X.s₀.heap.objs.size<=b)/\(∀x c,X.env.cells.lookup x=some c->c≠b)/\∀p∈X.pn++zn,p.1≠b
def Inv.xJ{X:Cx}{zn:List (Addr×Obj)}{σ:St}{H H':Hp}{s:ah}{b:Addr}(I:Inv X zn σ H s)(hb:s.heap.objs.size<=b)(hn:H' b=none):iY X zn H' b:=by
 refine⟨hn,oV (eS I.lt hb),I.DS hb,.inr (fS I.sz hb),λx c e z=>?_,λp hp z=>?_⟩
 .obtain⟨v,q⟩:=I.cell x c e
  exact absurd (eS q.lt (by rw[z];exact hb)) (uC _)
 .exact absurd (eS (cG (I.pin p hp).1) (by rw[z];exact hb)) (uC _)
structure Turn (P:a5) (w:aX) (K:aD) (tg:Expr) (J:It) (fp:List Addr) (it:Addr) (tn:Nat->Heap->Prop):Prop where
 mem:it∈fp
 obj:∀i h,tn i h->∀b∈fp,∃o,h.get? b=some o/\∀v,o.data ≠ .cell v
 keep:∀i h h',tn i h->(∀b∈fp,∀o,h.get? b=some o->h'.get? b=some o)->tn i h'
 item:∀(X:Cx),X.prog=P->X.w=w->X.K=K->X.calm=true->∀(i:Nat) (zn:List (Addr×Obj)) (s:ah) (σ:St) (H:Hp) (E:Value->ah->Prop),Inv X zn σ H s->(∀b∈fp,iY X zn H b)->tn i s.heap->J.go i H ->
  au (aF P w) X.A (Js (.ref it)) (λr s1=>∃u,r=some u /\
   au (aF P w) X.A (QF tg (.ref it) u) (λ_ s2=>∃x H',Inv X zn σ H' s2/\RelV x u/\J.xI i H x H'/\tn (i+1) s2.heap/\∀b∈fp,H' b=none) E s1) E s
 done:∀(X:Cx),X.prog=P->X.w=w->X.K=K->X.calm=true->∀(i:Nat) (zn:List (Addr×Obj)) (s:ah) (σ:St) (H:Hp) (E:Value->ah->Prop),Inv X zn σ H s->(∀b∈fp,iY X zn H b)->tn i s.heap->J.stop i H ->
  au (aF P w) X.A (Js (.ref it)) (λr s1=>r=none/\Inv X zn σ H s1) E s
 self:∀(A:Around) (i:Nat) (s:ah) (Q:Value->ah->Prop) (E:Value->ah->Prop),tn i s.heap->Q (.ref it) s->au (aF P w) A (rA (.ref it)) Q E s
abbrev TI:=St->Hp->(It->Hp->Prop)->Prop
def D2(X:Cx)(zn:List (Addr×Obj))(σ:St)(tg:Expr)(R:It->Hp->Prop)(mT:Value)(s2:ah):Prop :=
 ∃(it:Addr) (fp:List Addr) (tn:Nat->Heap->Prop) (J:It) (H':Hp),mT = .ref it/\Inv X zn σ H' s2/\Turn X.prog X.w X.K tg J fp it tn/\tn 0 s2.heap/\(∀b∈fp,iY X zn H' b)/\R J H'
def PI(X:Cx)(tg iter:Expr)(wi:TI):Prop :=
 ∀(zn:List (Addr×Obj)) (s:ah) (σ:St) (H:Hp) (R:It->Hp->Prop),Inv X zn σ H s->wi σ H R ->
  au (aF X.prog X.w) X.A (eval iter X.env) (λv s1=>au (aF X.prog X.w) X.A (rA v) (D2 X zn σ tg R) X.xe s1) X.xe s
def xK{M:l0}{A:Around}{E:Value->ah->Prop}{s:ah}{tg:Expr}{it:Addr}{u:Value}{o:Obj}{n:String}{vs:Array Value}{Q:Unit->ah->Prop}(ho:s.heap.get? it=some o)(hc:o.cls = .type n)(hd:o.data = .fields vs)
 (hn:["enumerate","zip","dict_itemiterator","dict_reverseitemiterator","odict_iterator","itertools.zip_longest","itertools.pairwise"].contains n=false) (hQ:Q () s):au M A (QF tg (.ref it) u) Q E s:=by
 unfold QF
 cases tg<;>first
  | exact bS hQ
  | (cases u<;>first
      | exact bS hQ
      | (refine aS (wpAny_load ho ?_)
         rw[hc,hd]
         show au M A (if (["enumerate","zip","dict_itemiterator","dict_reverseitemiterator","odict_iterator","itertools.zip_longest","itertools.pairwise"].contains n&&vs[0]? == some (kh _))=true then _ else _) Q E s
         rw[if_neg (by intro h;rw[hn,QG] at h;cases h)]
         exact bS hQ))
def AH(K:aD)(a:Addr):It :=
 ⟨λi H=>∃xs x,cE K H a xs/\xs[i]? = some x,λi H x H'=>H'=H/\∀xs,cE K H a xs->xs[i]? = some x,λi H=>∃xs,cE K H a xs/\xs.length<=i⟩
def D3(K:aD)(a:Addr):It :=
 ⟨λi H=>∃xs x,cX K H a xs/\xs[i]? = some x,λi H x H'=>H'=H/\∀xs,cX K H a xs->xs[i]? = some x,λi H=>∃xs,cX K H a xs/\xs.length<=i⟩
def rV(lo:Int)(n:Nat):It:=⟨λi _=>i<n,λi H x H'=>H'=H/\x = .int (lo+i),λi _=>n<=i⟩
def SH{P:a5}{w:aX}{K:aD}{tg:Expr}(a it:Addr):Turn P w K tg (AH K a) [it] it (λi h=>h.IsListIter it a i) where
 mem:=by simp
 obj:=λi h st b hb=>by
  have e:b=it:=by simpa using hb
  subst e
  obtain⟨o,e,c,d⟩:=st
  exact⟨o,e,λv z=>by rw[d] at z;cases z⟩
 keep:=λi h h' st k=>st.at λo e=>k it (by simp) o e
 item:=by
  intro X hP hw hK hc i zn s σ H E I hf st hg
  subst hP hw hK
  obtain⟨xs,x,hq,hx⟩:=hg
  obtain⟨xL,rv,p,hz⟩:=I.list hq
  obtain⟨u,hu,ru⟩:=rv.get hx
  obtain⟨f0,f1,f2,f3,f4,f5⟩:=hf it (by simp)
  refine wpAny_pyNext_list_item st p.isList (x:=u) (by simpa using hu) λh' km sb=>?_
  have I1:Inv X zn σ H { s with heap:=h' }:=I.turned (t':=s.toks) (λb o hb e=>(sb.2 b hb).trans e) f0 f1 f3 f4 f5
  obtain⟨o,e,c,d⟩:=id km
  exact⟨u,rfl,xK (s:={ s with heap:=h' }) e c d (by decide) ⟨x,H,I1,ru,⟨rfl,λys hy=>by rw[I.SD hy hq];exact hx⟩,km,λb hb=>(hf b hb).1⟩⟩
 done:=by
  intro X hP hw hK hc i zn s σ H E I hf st hg
  subst hP hw hK
  obtain⟨xs,hq,hx⟩:=hg
  obtain⟨xL,rv,p,hz⟩:=I.list hq
  obtain⟨f0,f1,f2,f3,f4,f5⟩:=hf it (by simp)
  have hl:=rv.length
  exact wpAny_pyNext_list_end (I.ok.hd hc) st p.isList (by simp;lia) λh' eb=>⟨rfl,I.turned (t':=s.toks) (λb o hb e=>eb b o hb e) f0 f1 f3 f4 f5⟩
 self:=λ_ _ _ _ _ st h=>wpAny_pyIter_listiter st h
def SI{P:a5}{w:aX}{K:aD}{tg:Expr}(a it:Addr):Turn P w K tg (D3 K a) [it] it (λi h=>h.IsTupleIter it a i) where
 mem:=by simp
 obj:=λi h st b hb=>by
  have e:b=it:=by simpa using hb
  subst e
  obtain⟨o,e,c,d⟩:=st
  exact⟨o,e,λv z=>by rw[d] at z;cases z⟩
 keep:=λi h h' st k=>st.at λo e=>k it (by simp) o e
 item:=by
  intro X hP hw hK hc i zn s σ H E I hf st hg
  subst hP hw hK
  obtain⟨xs,x,hq,hx⟩:=hg
  obtain⟨xL,rv,p,hz⟩:=I.tuple hq
  obtain⟨u,hu,ru⟩:=rv.get hx
  obtain⟨f0,f1,f2,f3,f4,f5⟩:=hf it (by simp)
  refine wpAny_pyNext_tuple_item st (show s.heap.IsTuple a xL.toArray from p) (x:=u) (by simpa using hu) λh' km sb=>?_
  have I1:Inv X zn σ H { s with heap:=h' }:=I.turned (t':=s.toks) (λb o hb e=>(sb.2 b hb).trans e) f0 f1 f3 f4 f5
  obtain⟨o,e,c,d⟩:=id km
  exact⟨u,rfl,xK (s:={ s with heap:=h' }) e c d (by decide) ⟨x,H,I1,ru,⟨rfl,λys hy=>by rw[I.SE hy hq];exact hx⟩,km,λb hb=>(hf b hb).1⟩⟩
 done:=by
  intro X hP hw hK hc i zn s σ H E I hf st hg
  subst hP hw hK
  obtain⟨xs,hq,hx⟩:=hg
  obtain⟨xL,rv,p,hz⟩:=I.tuple hq
  obtain⟨f0,f1,f2,f3,f4,f5⟩:=hf it (by simp)
  have hl:=rv.length
  exact wpAny_pyNext_tuple_end (I.ok.hd hc) st (show s.heap.IsTuple a xL.toArray from p) (by simp;lia) λh' eb=>⟨rfl,I.turned (t':=s.toks) (λb o hb e=>eb b o hb e) f0 f1 f3 f4 f5⟩
 self:=λ_ _ _ _ _ st h=>wpAny_pyIter_tupleiter st h
def SJ{P:a5}{w:aX}{K:aD}{tg:Expr}(it:Addr)(lo:Int)(n:Nat):Turn P w K tg (rV lo n) [it] it (λi h=>Jt h it (lo+(i:Nat)*1) ((n:Int)-(i:Nat)) 1) where
 mem:=by simp
 obj:=λi h st b hb=>by
  have e:b=it:=by simpa using hb
  subst e
  exact⟨_,st,λv z=>by
   have z':Data.fields _=Data.cell v:=z
   cases z'⟩
 keep:=λi h h' st k=>k it (by simp) _ st
 item:=by
  intro X hP hw hK hc i zn s σ H E I hf st hg
  subst hP hw hK
  obtain⟨f0,f1,f2,f3,f4,f5⟩:=hf it (by simp)
  have W:=Walks.range (prog:=X.prog) (w:=X.w) (I.ok.hd hc) it lo 1 n
  refine W.item i s _ _ hg st λv h' tk hv km kk=>?_
  obtain⟨t,rfl⟩:=hv
  have I1:Inv X zn σ H { s with heap:=h',toks:=tk }:=I.turned (λb o hb e=>kk b o (by simpa using hb) e) f0 f1 f3 f4 f5
  refine⟨_,rfl,xK (s:={ s with heap:=h',toks:=tk }) (n:="range_iterator") km rfl rfl (by decide) ⟨.int (lo+i),H,I1,⟨t,?_⟩,⟨rfl,rfl⟩,km,λb hb=>(hf b hb).1⟩⟩
  rw[Int.mul_one]
 done:=by
  intro X hP hw hK hc i zn s σ H E I hf st hg
  subst hP hw hK
  obtain⟨f0,f1,f2,f3,f4,f5⟩:=hf it (by simp)
  exact a2m (I.ok.hd hc) st (by have:n<=i:=hg;lia) λh' eb=>⟨rfl,I.turned (t':=s.toks) (λb o hb e=>eb b o hb e) f0 f1 f3 f4 f5⟩
 self:=λ_ _ _ _ _ st h=>a2n st h
end L2
namespace L2
open PySem PySem.Spec PyProof.Rows
section
variable {X:Cx}{tg:Expr}
def D4{zn:List (Addr×Obj)}{σ:St}{H:Hp}{s:ah}{R:It->Hp->Prop}{E:Value->ah->Prop}{lo hi:Int}{t u v:Tok}{tk:Nat}(I:Inv X zn σ H s)(h1:-(2^62)<=lo)(h2:lo<2^62)(h3:-(2^62)<=hi)(h4:hi<2^62)
 (q:R (rV lo (hi-lo).toNat) H):au (aF X.prog X.w) X.A (rA (.ref s.heap.objs.size)) (D2 X zn σ tg R) E { s with heap:=s.heap.push { cls:=.type "range",data:=.fields #[.int lo t,.int hi u,.int 1 v] },toks:=tk }:=by
 refine a2o (IsRange.new ..) (small_one h1 h2 h3 h4) ?_
 have I1:Inv X zn σ H { s with heap:=s.heap.push { cls:=.type "range",data:=.fields #[.int lo t,.int hi u,.int 1 v] },toks:=tk }:=I.kept λb o e=>eX _ e
 refine⟨(s.heap.push { cls:=.type "range",data:=.fields #[.int lo t,.int hi u,.int 1 v] }).objs.size,[(s.heap.push { cls:=.type "range",data:=.fields #[.int lo t,.int hi u,.int 1 v] }).objs.size],_,_,H,rfl,
  I1.kept (t':=tk) λb o e=>eX _ e,SJ _ lo (hi-lo).toNat,?_,λb hb=>?_,q⟩
 .have e1:lo+((0:Nat):Int)*1=lo:=by simp
  have e2:(((hi-lo).toNat:Nat):Int)-((0:Nat):Int)=z_ lo hi 1:=by rw[rangeSize_one];split<;>lia
  show Jt _ _ (lo+((0:Nat):Int)*1) ((((hi-lo).toNat:Nat):Int)-((0:Nat):Int)) 1
  rw[e1,e2]
  exact g0 _ rfl
 .have e:b=(s.heap.push { cls:=.type "range",data:=.fields #[.int lo t,.int hi u,.int 1 v] }).objs.size:=by simpa using hb
  subst e
  exact I1.xJ (a9 _) (I1.aU.fresh (a9 _))
def xM(fp:List Addr)(h:Heap):List (Addr×Obj):=fp.filterMap λb=>(h.get? b).map λo=>(b,o)
def xN{fp:List Addr}{h:Heap}{b:Addr}{o:Obj}(hb:b∈fp)(e:h.get? b=some o):(b,o)∈xM fp h:=List.mem_filterMap.mpr ⟨b,hb,by rw[e];rfl⟩
def SK{fp:List Addr}{h:Heap}{p:Addr×Obj}(hp:p∈xM fp h):p.1∈fp/\h.get? p.1=some p.2:=by
 obtain⟨b,hb,e⟩:=List.mem_filterMap.mp hp
 cases q:h.get? b with
 | none=>rw[q] at e;cases e
 | some o =>
   rw[q] at e
   have e':(b,o)=p:=l9 e
   subst e'
   exact⟨hb,q⟩
def Inv.pinned{zn:List (Addr×Obj)}{σ:St}{H:Hp}{s:ah}{fp:List Addr}(I:Inv X zn σ H s)(hf:∀b∈fp,iY X zn H b)(ho:∀b∈fp,∃o,s.heap.get? b=some o/\∀v,o.data ≠ .cell v):Inv X (zn++xM fp s.heap) σ H s :=
 I.uY λp hp=>(List.mem_append.mp hp).elim (λz=>I.pin p (ft _ z)) λz=>by
  obtain⟨hb,e⟩:=SK z
  obtain⟨f0,f1,f2,_⟩:=hf p.1 hb
  obtain⟨o,e',d⟩:=ho p.1 hb
  rw[e] at e';cases e'
  exact⟨e,f0,f1,f2,d⟩
def Inv.u9{zn pl:List (Addr×Obj)}{σ:St}{H:Hp}{s:ah}(I:Inv X (zn++pl) σ H s):Inv X zn σ H s:=I.uY λp hp=>I.pin p (ft _ (kD _ hp))
end
end L2
namespace L2
open PySem PySem.Spec PyProof.Rows
abbrev R2:=V->V->Hp->VK->Prop
def fv(X:Cx)(f:Value->Value->Sem Value)(r:R2):Prop :=
 ∀(zn:List (Addr×Obj)) (s:ah) (σ:St) (H:Hp) (x y:V) (v u:Value) (Q:VK),Inv X zn σ H s->RelV x v->RelV y u->r x y H Q ->
  au (aF X.prog X.w) X.A (f v u) (EP X zn σ Q) X.xe s
def jS(X:Cx)(f:Value)(r:List V->Hp->VK->Prop):Prop :=
 ∀(zn:List (Addr×Obj)) (s:ah) (σ:St) (H:Hp) (xs:List V) (us:List Value) (Q:VK),Inv X zn σ H s->Vals xs us->r xs H Q ->
  au (aF X.prog X.w) X.A (call f us) (EP X zn σ Q) X.xe s
def rI(C:Int->Int->Prop)(g:Int->Int->V):R2:=λx y H Q=>∃i j,x = .int i/\y = .int j/\C i j/\Q (g i j) H
def qf(g:Int->Int->V):R2:=λx y H Q=>∃i j,x = .int i/\y = .int j/\Q (g i j) H
section
variable {X:Cx}{a b c:Expr}{ta tb tc:TE}{pos:Pos}
def AI{f:Value->Value->Sem Value}{C:Int->Int->Prop}{g:Int->Int->Int}
 (rule:∀(i j:Int) (t u:Tok) (s:ah) (Q:Value->ah->Prop) (E:Value->ah->Prop),C i j->Q (.int (g i j) s.toks) { s with toks:=s.toks+1 }->au (aF X.prog X.w) X.A (f (.int i t) (.int j u)) Q E s) :
 fv X f (rI C λi j=>.int (g i j)):=by
 intro zn s σ H x y v u Q I rx ry h
 obtain⟨i,j,rfl,rfl,hc,q⟩:=h
 obtain⟨t,rfl⟩:=rx
 obtain⟨t',rfl⟩:=ry
 exact rule i j t t' s _ _ hc ⟨.int (g i j),H,I.tok _,⟨_,rfl⟩,q⟩
def KG{f:Value->Value->Sem Value}{g:Int->Int->Int}
 (rule:∀(i j:Int) (t u:Tok) (s:ah) (Q:Value->ah->Prop) (E:Value->ah->Prop),Q (.int (g i j) s.toks) { s with toks:=s.toks+1 }->au (aF X.prog X.w) X.A (f (.int i t) (.int j u)) Q E s) :
 fv X f (qf λi j=>.int (g i j)):=by
 intro zn s σ H x y v u Q I rx ry h
 obtain⟨i,j,rfl,rfl,q⟩:=h
 obtain⟨t,rfl⟩:=rx
 obtain⟨t',rfl⟩:=ry
 exact rule i j t t' s _ _ ⟨.int (g i j),H,I.tok _,⟨_,rfl⟩,q⟩
def AJ{f:Value->Value->Sem Value}{g:Int->Int->Bool}
 (rule:∀(i j:Int) (t u:Tok) (s:ah) (Q:Value->ah->Prop) (E:Value->ah->Prop),Q (.bool (g i j)) s->au (aF X.prog X.w) X.A (f (.int i t) (.int j u)) Q E s) :
 fv X f (qf λi j=>.bl (g i j)):=by
 intro zn s σ H x y v u Q I rx ry h
 obtain⟨i,j,rfl,rfl,q⟩:=h
 obtain⟨t,rfl⟩:=rx
 obtain⟨t',rfl⟩:=ry
 exact rule i j t t' s _ _ ⟨.bl (g i j),H,I,rfl,q⟩
def SM(i j:Int):Prop:=0<j/\j<1073741824
def SN(i j:Int):Prop:=0<=j/\j<=1000000/\i.natAbs<2^64
def D5(i j:Int):Prop:=(-(2^64)<i/\i<2^64)∨(-(2^64)<j/\j<2^64)
def D5.ok{i j:Int}(h:D5 i j):IntMulOk i j:=by
 rcases h with ⟨h1,h2⟩ | ⟨h1,h2⟩
 .exact .of_left (intBits_le_64 h1 h2)
 .exact .of_right (intBits_le_64 h1 h2)
def SO:fv X (iU .Add) (qf λi j=>.int (i+j)):=KG λ_ _ _ _ _ _ _ q=>add_int q
def SQ:fv X (iU .Sub) (qf λi j=>.int (i-j)):=KG λ_ _ _ _ _ _ _ q=>sub_int q
def SR:fv X (iU .Mult) (rI D5 λi j=>.int (i*j)):=AI λ_ _ _ _ _ _ _ hc q=>mul_int q hc.ok
def SS:fv X (iU .FloorDiv) (rI SM λi j=>.int (i/j)):=AI λi j _ _ _ _ _ hc q=>by
 have h1:(0:Int)<j:=hc.1
 have h2:j<1073741824:=hc.2
 exact floordiv_int (by lia) (by rw[Int.fdiv_eq_ediv_of_nonneg i (by lia)];exact q) (.inl (a2p (by lia)))
def SU:fv X (iU .Mod) (rI (λ_ j=>0<j) λi j=>.int (i%j)):=AI λi j _ _ _ _ _ hc q=>by
 have h1:(0:Int)<j:=hc
 exact mod_int' (by lia) (by rw[Int.fmod_eq_emod_of_nonneg i (by lia)];exact q)
def SV:fv X (iU .Pow) (rI SN λi j=>.int (i^j.toNat)):=AI λ_ _ _ _ _ _ _ hc q=>pow_int_small hc.1 hc.2.1 hc.2.2 q
end
section
variable {X:Cx}{a b c:Expr}{ta tb tc:TE}{pos:Pos}
def SW{zn:List (Addr×Obj)}{σ:St}{H:Hp}{s:ah}{Q:VK}{k k':Bool}(I:Inv X zn σ H s)(q:Q (.bl k) H)(e:k=k'):EP X zn σ Q (.bool k') s:=by
 subst e
 exact⟨.bl k,H,I,rfl,q⟩
def SX:fv X (i9 .Lt) (qf λi j=>.bl (decide (i<j))):=AJ λ_ _ _ _ _ _ _ q=>lt_int q
def SY:fv X (i9 .LtE) (qf λi j=>.bl (decide (i<=j))):=AJ λ_ _ _ _ _ _ _ q=>le_int q
def S0:fv X (i9 .Gt) (qf λi j=>.bl (decide (j<i))):=AJ λ_ _ _ _ _ _ _ q=>gt_int q
def S6:fv X (i9 .GtE) (qf λi j=>.bl (decide (j<=i))):=AJ λ_ _ _ _ _ _ _ q=>ge_int q
def S8:fv X (i9 .In) (λx y H Q=>∃i j,x = .str i/\y = .str j/\Q (.bl (!(Aa j i 0 j.length 1).isEmpty)) H):=by
 intro zn s σ H x y v u Q I rx ry h
 obtain⟨i,j,rfl,rfl,q⟩:=h
 obtain⟨t,rfl⟩:=rx
 obtain⟨t',rfl⟩:=ry
 exact in_str (SW I q rfl)
def fv.or{f:Value->Value->Sem Value}{r r':R2}(h:fv X f r)(h':fv X f r'):fv X f (λx y H Q=>r x y H Q∨r' x y H Q):=by
 intro zn s σ H x y v u Q I rx ry q
 rcases q with q | q
 .exact h zn s σ H x y v u Q I rx ry q
 .exact h' zn s σ H x y v u Q I rx ry q
def cx(b:Expr){op:Ju}(h:op ≠ .In:=by decide)(h2:op ≠ .NotIn:=by decide):Dj op b=false:=by
 have e1:(op==CmpOp.In)=false:=by cases op<;>first | rfl | exact absurd rfl h
 have e2:(op==CmpOp.NotIn)=false:=by cases op<;>first | rfl | exact absurd rfl h2
 cases b<;>simp[Dj,e1,e2]
def u_:(bK:Nat)<2^63:=by rw[oW];decide
def S9:fv X (iU .Add) (λx y H Q=>∃i j,x = .str i/\y = .str j/\i.length+j.length<=bK/\Q (.str (i++j)) H):=by
 intro zn s σ H x y v u Q I rx ry h
 obtain⟨i,j,rfl,rfl,hz,q⟩:=h
 obtain⟨t,rfl⟩:=rx
 obtain⟨t',rfl⟩:=ry
 exact add_str (λt' tk=>⟨.str (i++j),H,I.tok _,⟨_,rfl⟩,q⟩) hz
def qg{x:V}{us:List Value}(r:Vals [x] us):∃u,us=[u]/\RelV x u:=by
 cases r with
 | cons r1 r2=>cases r2;exact⟨_,rfl,r1⟩
def KH{x y:V}{us:List Value}(r:Vals [x,y] us):∃u w',us=[u,w']/\RelV x u/\RelV y w':=by
 cases r with
 | cons r1 r2 =>
   cases r2 with
   | cons r3 r4=>cases r4;exact⟨_,_,rfl,r1,r3⟩
def S_(hc:X.calm=true):jS X (.builtin "max") (λxs H Q=>∃i j,xs=[.int i,.int j]/\Q (.int (if j>i then j else i)) H):=by
 intro zn s σ H xs us Q I r h
 obtain⟨i,j,rfl,q⟩:=h
 obtain⟨u,w',rfl,⟨t,rfl⟩,⟨t',rfl⟩⟩:=KH r
 refine max_two_ints (I.ok.hd hc) λh' tk k=>⟨_,H,I.kept k,?_,q⟩
 by_cases hj:j>i
 .rw[if_pos hj,if_pos hj];exact⟨_,rfl⟩
 .rw[if_neg hj,if_neg hj];exact⟨_,rfl⟩
def Ta(hc:X.calm=true):jS X (.builtin "min") (λxs H Q=>∃i j,xs=[.int i,.int j]/\Q (.int (if j<i then j else i)) H):=by
 intro zn s σ H xs us Q I r h
 obtain⟨i,j,rfl,q⟩:=h
 obtain⟨u,w',rfl,⟨t,rfl⟩,⟨t',rfl⟩⟩:=KH r
 refine min_two_ints (I.ok.hd hc) λh' tk k=>⟨_,H,I.kept k,?_,q⟩
 by_cases hj:j<i
 .rw[if_pos hj,if_pos hj];exact⟨_,rfl⟩
 .rw[if_neg hj,if_neg hj];exact⟨_,rfl⟩
def Tb:jS X (.type "str") (λxs H Q=>∃i,xs=[.int i]/\i.natAbs.log2<1920/\Q (.str (toString i)) H):=by
 intro zn s σ H xs us Q I r h
 obtain⟨i,rfl,hz,q⟩:=h
 obtain⟨u,rfl,t,rfl⟩:=qg r
 exact PySem.P.str_of_int hz ⟨.str _,H,I.tok _,⟨_,rfl⟩,q⟩
def Tc(K:aD)(x:V)(H:Hp)(n:Nat):Prop :=
 match x with
 | .str y=>y.length<=bK/\n=y.length
 | .xE y=>y.size<=bK/\n=y.size
 | .ref p=>(∃xs,cE K H p xs/\n=xs.length)∨∃xs,cX K H p xs/\n=xs.length
 | _=>False
def Td:jS X (.builtin "len") (λxs H Q=>∃x n,xs=[x]/\Tc X.K x H n/\Q (.int n) H):=by
 intro zn s σ H xs us Q I r h
 obtain⟨x,n,rfl,e,q⟩:=h
 obtain⟨u,rfl,rx⟩:=qg r
 have hl:=u_
 have hs:bK=16777216:=oW
 cases x with
 | str y =>
   obtain⟨t,rfl⟩:=rx
   obtain⟨hy,e'⟩:y.length<=bK/\n=y.length:=e
   subst e'
   exact len_str (by lia) ⟨.int _,H,I.tok _,⟨_,rfl⟩,q⟩
 | xE y =>
   obtain⟨t,rfl⟩:=rx
   obtain⟨hy,e'⟩:y.size<=bK/\n=y.size:=e
   subst e'
   exact PySem.W.len_bytes (by lia) ⟨.int _,H,I.tok _,⟨_,rfl⟩,q⟩
 | ref p =>
   cases rx
   have e':(∃xs,cE X.K H p xs/\n=xs.length)∨∃xs,cX X.K H p xs/\n=xs.length:=e
   rcases e' with ⟨xs,hx,e'⟩ | ⟨xs,hx,e'⟩
   .subst e'
    obtain⟨xL,r',pl,hz⟩:=I.list hx
    have hlen:=r'.length
    exact a2q pl.isList (by simp only[dD];lia) ⟨.int xs.length,H,I.tok _,⟨_,by simp only[dD];rw[hlen]⟩,q⟩
   .subst e'
    obtain⟨xL,r',pl,hz⟩:=I.tuple hx
    have hlen:=r'.length
    exact len_tuple pl (by simp only[dD];lia) ⟨.int xs.length,H,I.tok _,⟨_,by simp only[dD];rw[hlen]⟩,q⟩
 | _=>exact(show False from e).elim
end
end L2
namespace L2
open PySem PySem.Spec PyProof.Rows
structure a5t (h:Heap) (x dx C:Addr) (mA:Str->Option Value):Prop where
 obj:h.get? x=some (a2j C dx)
 ns:h.Ns1 dx mA
 ne:dx≠x
section
variable {prog:a5}{w:aX}{A:Around}{E:Value->ah->Prop}{s:ah}{K:aD}{x dx C f:Addr}{mA:Str->Option Value}{name:Str}{v:Value}
end
section
variable {P:a5}{w:aX}{H H':Hp}{h h':Heap}{a C dx:Addr}{fs Sl:List (Str×V)}
end
structure Te (K:aD) (C:Addr):Prop where
 pg:PySem.W.plainGet K C Str.empty=true
 hd:PySem.W.hasDictIn K C=true
 po:PySem.W.plainOver K C=true
 sa:uE K (.ref C) "__setattr__"=some (some (.builtin "object.__setattr__"))
structure Con (K:aD) (C:Addr) (f:Str) (v:V) (u:Value):Prop where
 at_:uE K (.ref C) f=some (some u)
 rel:RelV v u
 get:a2r K u "__get__"=some none
 cp:PySem.W.copiedNames.contains f=false
structure Meth (K:aD) (C:Addr) (m:Str) (f:Addr):Prop where
 at_:uE K (.ref C) m=some (some (.ref f))
 fn:PySem.W.isFn K (.ref f)=true
 kp:w_ K (.ref f)=true
section
variable {X:Cx}{zn:List (Addr×Obj)}{σ:St}{H:Hp}{s:ah}{a C dx:Addr}{fs:List (Str×V)}{f:Str}{v:V}{A:Around}{E:Value->ah->Prop}
end
section
variable {X:Cx}{o e value:Expr}{f:Str}{pos pos' a5u:Pos}{ta tv:TE}
end
section
variable {X:Cx}{zn:List (Addr×Obj)}{σ:St}{H:Hp}{s:ah}{A:Around}{E:Value->ah->Prop}{Q:Value->ah->Prop}{c:Value}{b:Bool}
inductive nZ (K:aD) (H:Hp):V->Value->Prop where
 | cI:nZ K H .cI (.type "NoneType")
 | bl (x:Bool):nZ K H (.bl x) (.type "bool")
 | int (i:Int):nZ K H (.int i) (.type "int")
 | str (x:Str):nZ K H (.str x) (.type "str")
 | xF (x:UInt64):nZ K H (.xF x) (.type "float")
 | lst {a:Addr} {xs:List V} (e:H a=some (.lst xs)):nZ K H (.ref a) (.type "list")
 | gG {a:Addr} {o:Obj} {xs:List V} (e:H a=some (.gG o (.lst xs))):nZ K H (.ref a) (.type "list")
 | tup {a:Addr} {xs:List V} (e:H a=some (.tup xs)):nZ K H (.ref a) (.type "tuple")
 | dK {a:Addr} {g9:List (Key×V)} (e:H a=some (.dK g9)):nZ K H (.ref a) (.type "dict")
 | dT {a:Addr} {g9:List (List Key×V)} (e:H a=some (.dT g9)):nZ K H (.ref a) (.type "dict")
 | ins {a C dx:Addr} {fs:List (Str×V)} (e:H a=some (.ins C dx fs)) (cl:Te K C) (ha:uE K (.ref C) "__class__"=some (some (.builtin "object.__class__")))
    (hn:a2r K (.builtin "object.__class__") "__get__"=some (some (.builtin "getset_descriptor.__get__"))) (htk:PySem.W.takesIn K (.builtin "object.__class__")=some true)
    (hm:pY K C (.type "object")=some true):nZ K H (.ref a) (.ref C)
end
end L2
namespace L2
open PySem PySem.Spec PyProof.Rows
structure dM (k:Nat) (A:Around):Prop where
 hd:A.handled=none
 dp:A.depth+3*k+5<a2s
 un:A.units+16*k+200<i_
def dM.mono{j k:Nat}{A:Around}(r:dM k A)(h:j<=k):dM j A:=⟨r.hd,by have:=r.dp;lia,by have:=r.un;lia⟩
def dM.deeper{k:Nat}{A:Around}(r:dM (k+1) A)(env:Env):dM k (A.deeper env) :=
 ⟨r.hd,by have:=r.dp;show A.depth+1+3*k+5<_;lia,by have:=r.un;show A.units+3+16*k+200<_;lia⟩
def dM.depth{k:Nat}{A:Around}(r:dM k A):A.depth<a2s:=by have:=r.dp;lia
def dM.units{k:Nat}{A:Around}(r:dM k A):A.units+64<i_:=by have:=r.un;lia
section
variable {X:Cx}{e:Expr}{es:List Expr}{te:TE}{t:TA}{pos:Pos}
end
abbrev Sp:=List V->Hp->VK->XK->Prop
abbrev ml:=List Env->Hp->ah->XK->Value->ah->Prop
structure vc (P:a5) (w:aX) (K:aD) (mg:Str->Option Value) (base:Heap) (A:Around) (outer:List Env) (s:ah) (H:Hp):Prop where
 frames:A.frames=some outer
 mod:Mod K mg base
 bs:∀b o,base.get? b=some o->s.heap.get? b=some o/\H b=none
 mi:base.objs.size<=s.heap.objs.size
 kj:s.heap.FunFrames base outer
 mj:∀b∈du outer,H b=none
 aU:eh P w H s.heap
 bare:nS s.gens
def CE(outer:List Env)(P:a5)(w:aX)(H:Hp)(s:ah)(Q:VK)(u:Value)(s':ah):Prop :=
 ∃v H',s'.os=s.os/\nS s'.gens/\Un (du outer) [] H H' s.heap s'.heap/\eh P w H' s'.heap/\RelV v u/\Q v H'
def CR(CX:ml)(outer:List Env)(P:a5)(w:aX)(H:Hp)(s:ah)(Q:VK)(E:XK)(r:nU)(s':ah):Prop :=
 match r with
 | .ok (.ret u)=>CE outer P w H s Q u s'
 | .ok _=>False
 | .error e=>CX outer H s E e s'
structure jT (P:a5) (w:aX) (K:aD) (mg:Str->Option Value) (base:Heap) (CX:ml) (k:Nat) (f:Addr) (fd:cw) (ps:List Str) (sp:Sp):Prop where
 len:∀vs H Q E,sp vs H Q E->vs.length=ps.length
 run:∀(A:Around) (outer:List Env) (s:ah) (H:Hp) (args:Args) (us:List Value) (vs:List V) (Q:VK) (E:XK),dM k A->vc P w K mg base A outer s H->BindsTo s fd args (ps.zip us)->Vals vs us->sp vs H Q E ->
  jN (aF P w) A (.call (.ref f) args) (CR CX outer P w H s Q E) s
def jT.mono{P:a5}{w:aX}{K:aD}{mg:Str->Option Value}{base:Heap}{CX:ml}{j k:Nat}{f:Addr}{fd:cw}{ps:List Str}{sp:Sp}(F:jT P w K mg base CX j f fd ps sp)(h:j<=k) :
 jT P w K mg base CX k f fd ps sp:=⟨F.len,λA outer s H args us vs Q E hr=>F.run A outer s H args us vs Q E (hr.mono h)⟩
def jT.imp{P:a5}{w:aX}{K:aD}{mg:Str->Option Value}{base:Heap}{CX:ml}{k:Nat}{f:Addr}{fd:cw}{ps:List Str}{sp KI:Sp}(F:jT P w K mg base CX k f fd ps sp)
 (h:∀vs H Q E,KI vs H Q E->sp vs H Q E):jT P w K mg base CX k f fd ps KI :=
 ⟨λvs H Q E q=>F.len vs H Q E (h _ _ _ _ q),λA outer s H args us vs Q E hr he hb hv hs=>F.run A outer s H args us vs Q E hr he hb hv (h _ _ _ _ hs)⟩
section
variable {X:Cx}{zn:List (Addr×Obj)}{σ:St}{H:Hp}{s s':ah}
def Inv.vd(I:Inv X zn σ H s):vc X.prog X.w X.K X.mg X.base X.A X.stack s H :=
 ⟨I.ok.frames,I.ok.mod,I.bs,fS I.ok.mi I.sz,I.stack,I.DT,I.aU,I.bare⟩
def Inv.after{Q:VK}{u:Value}(I:Inv X zn σ H s)(h:CE X.stack X.prog X.w H s Q u s'):EP X zn σ Q u s':=by
 obtain⟨v,H',os,bare,un,aU,r,q⟩:=h
 obtain⟨hh,g,d,t,qh⟩:=s'
 obtain rfl:qh=s.os:=os
 exact⟨v,H',I.call (h':=hh) (g':=g) (d':=d) (t':=t) (ch:=[]) un aU bare (λb z=>absurd z (by simp)),r,q⟩
end
def kL(K:aD)(fd:cw)(ps:List Str)(ds:List Value):Prop :=
 ∀(s:ah) (us:List Value),K.In s.heap->(us++ds).length=ps.length->BindsTo s fd ⟨us,[]⟩ (ps.zip (us++ds))
def kL.all{K:aD}{fd:cw}{ps:List Str}(h:∀us:List Value,us.length=ps.length->QH fd ⟨us,[]⟩=pure (ps.zip us)):kL K fd ps []:=λs us _ hl=>by
 rw[kE] at hl ⊢
 exact .of_eq (h us hl)
section
variable {X:Cx}{CX:ml}{k:Nat}{f C:Addr}{fd:cw}{ps:List Str}{sp:Sp}{dvs:List V}{ds:List Value}{E:XK}{x m:Str}{p pos apos:Pos}{e o:Expr}{es:List Expr}{ta:TE}{t:TA}
structure Mk (K:aD) (C f:Addr):Prop where
 makes:PySem.W.makesIn K C=true
 init:uE K (.ref C) "__init__"=some (some (.ref f))
 fn:PySem.W.isFn K (.ref f)=true
 kp:w_ K (.ref C)=true
end
def PK(X:Cx)(KJ:List lq)(t:TA):Prop :=
 ∀(pos:Pos) (zn:List (Addr×Obj)) (s:ah) (σ:St) (H:Hp) (Q:List V->Hp->Prop),Inv X zn σ H s->t σ H Q->au (aF X.prog X.w) X.A (evalAll ((uF pos (uG KJ X.env)).map (·.2))) (AP X zn σ Q) X.xe s
section
variable {X:Cx}{CX:ml}{k:Nat}{f C:Addr}{fd:cw}{ps ks:List Str}{sp:Sp}{E:XK}{x m:Str}{p pos apos a5v:Pos}{e o:Expr}{es:List Expr}{KJ:List lq}{te ta:TE}{t tk:TA}{nm:Option Str}
structure a5w (K:aD) (fd:cw) (ps ks:List Str) (g:List Value->List Value->List Value) (gV:List V->List V->List V):Prop where
 to:∀(s:ah) (us ws:List Value),K.In s.heap->(g us ws).length=ps.length->BindsTo s fd ⟨us,ks.zip ws⟩ (ps.zip (g us ws))
 rel:∀{vs:List V} {us:List Value} {zs:List V} {ws:List Value},Vals vs us->Vals zs ws->Vals (gV vs zs) (g us ws)
variable {g:List Value->List Value->List Value}{gV:List V->List V->List V}
end
structure jf (N P:List Str) (sc:dU):Prop where
 kind:sc.kind = .function
 co:sc.isCoroutine=false
 gen:sc.isGenerator=false
 nd:N.Nodup
 pre:N.take P.length=P
 par:∀x∈P,sc.names.lookup x=some .local∨sc.names.lookup x=some .cell
 Tf:∀y∈sc.names,y.2 ≠ .free
def KL{kindOf:Str->Option pZ}{x:Str}:∀{binds:List (Str×Value)} {m:Str->Option Value},(∀v,(x,v) ∉ binds)->uH kindOf binds m x=m x
 | [],_,_=>rfl
 | (n,v)::r,m,h=>by
   unfold uH
   rw[KL λw hw=>h w (eU _ hw)]
   split
   .have:x≠n:=by rintro rfl;exact h v fI
    simp[this]
   .rfl
def KN{kindOf:Str->Option pZ}{x:Str}:∀{binds:List (Str×Value)} {m:Str->Option Value},(∀v,(x,v) ∉ binds)->uI kindOf binds m x=m x
 | [],_,_=>rfl
 | (n,v)::r,m,h=>by
   unfold uI
   rw[KN λw hw=>h w (eU _ hw)]
   split
   .rfl
   .have:x≠n:=by rintro rfl;exact h v fI
    simp[this]
def KO{kindOf:Str->Option pZ}{x:Str}{v:Value}:∀{P:List Str} {vs:List Value} {i:Nat} {m:Str->Option Value},P.Nodup->P[i]? = some x->vs[i]? = some v->kindOf x=some .local ->
 uH kindOf (P.zip vs) m x=some v
 | [],_,_,_,_,h,_,_=>by simp at h
 | _::_,[],_,_,_,_,h,_=>by simp at h
 | p::P,w::vs,0,m,nd,h1,h2,hk=>by
   simp at h1 h2;subst h1;subst h2
   show uH kindOf ((p,w)::P.zip vs) m p=_
   unfold uH
   rw[KL λv hv=>(List.nodup_cons.mp nd).1 (QI hv).1,if_pos hk]
   simp
 | p::P,w::vs,i+1,m,nd,h1,h2,hk=>by
   show uH kindOf ((p,w)::P.zip vs) m x=_
   unfold uH
   exact KO (i:=i) (List.nodup_cons.mp nd).2 (by simpa using h1) (by simpa using h2) hk
def KP{kindOf:Str->Option pZ}{x:Str}{v:Value}:∀{P:List Str} {vs:List Value} {i:Nat} {m:Str->Option Value},P.Nodup->P[i]? = some x->vs[i]? = some v->kindOf x≠some .local ->
 uI kindOf (P.zip vs) m x=some v
 | [],_,_,_,_,h,_,_=>by simp at h
 | _::_,[],_,_,_,_,h,_=>by simp at h
 | p::P,w::vs,0,m,nd,h1,h2,hk=>by
   simp at h1 h2;subst h1;subst h2
   show uI kindOf ((p,w)::P.zip vs) m p=_
   unfold uI
   rw[KN λv hv=>(List.nodup_cons.mp nd).1 (QI hv).1,if_neg hk]
   simp
 | p::P,w::vs,i+1,m,nd,h1,h2,hk=>by
   show uI kindOf ((p,w)::P.zip vs) m x=_
   unfold uI
   exact KP (i:=i) (List.nodup_cons.mp nd).2 (by simpa using h1) (by simpa using h2) hk
def start(N:List Str)(vs:List V):St:=vs.map some++b0 (N.length-vs.length) none
def ve(CX:ml)(P:a5)(w:aX)(K:aD)(mg:Str->Option Value)(base:Heap)(N:List Str)(qual:Str)(scope:dU)(f:Addr)(cd:Value)(A:Around)(outer:List Env)(s:ah)(H:Hp)(E:XK):Cx where
 prog:=P
 w:=w
 K:=K
 mg:=mg
 base:=base
 A:=A.deeper (uJ qual scope s.heap.objs.size f cd)
 N:=N
 s₀:=s
 H₀:=H
 env:=uJ qual scope s.heap.objs.size f cd
 outer:=outer
 stack:=uJ qual scope s.heap.objs.size f cd::outer
 ex:=[]
 calm:=true
 fn:=λ_=>true
 pn:=[]
 xe:=λe s'=>au (aF P w) (A.deeper (uJ qual scope s.heap.objs.size f cd)) (QJ (uJ qual scope s.heap.objs.size f cd) e) (λ_ n4=>CX outer H s E e n4) (λe' n4=>CX outer H s E e' n4) s'
def KQ{sc:dU}{n:Nat}{x:Str}(h:sc.names.lookup x=some .cell):∃c,(QK n sc.names []).lookup x=some c:=by
 have q:=a2t sc.names n [] (.inl h)
 exact Option.isSome_iff_exists.mp q
def Tg{CX:ml}{P:a5}{w:aX}{K:aD}{mg:Str->Option Value}{base:Heap}{N ps:List Str}{qual:Str}{scope:dU}{f:Addr}{cd:Value}{A:Around}{outer:List Env}{s s1:ah}{H:Hp}{E:XK}{us:List Value}{vs:List V}
 (S:jf N ps scope) (hd:A.handled=none) (e0:vc P w K mg base A outer s H) (hl:vs.length=ps.length) (r:Vals vs us)
 (x:InCallC s s.heap.objs.size (uH (uJ qual scope s.heap.objs.size f cd).kindOf (ps.zip us) λ_=>none) (QK (s.heap.objs.size+1) scope.names []) (uI (uJ qual scope s.heap.objs.size f cd).kindOf (ps.zip us) λ_=>none) s1) :
 Inv (ve CX P w K mg base N qual scope f cd A outer s H E) [] (start N vs) H s1:=by
 have gI:ps.length<=N.length:=by have:=congrArg rB S.pre;rw[dW] at this;lia
 obtain⟨h1,tk,rfl,hk⟩:=x.done
 have xO:∀b:Addr,b ∉ (ve CX P w K mg base N qual scope f cd A outer s H E).ex:=λb z=>absurd (show b∈([]:List Addr) from z) (by simp)
 refine⟨⟨e0.mod,S.kind,rfl,rfl,a9 _,λy z c h1 h2=>?_,λy hy=>?_,λy c _ h=>?_,λ_=>hd,Around.frames_deeper e0.frames,.inr ⟨rfl,rfl⟩,λb z=>absurd z (xO b),e0.bs,e0.mi,λb _ _=>xO b,λb z=>absurd z (xO b),e0.kj,e0.mj⟩,
  rfl,e0.bare,Un.kept hk,⟨_,x.toInCall.ns,λi y v h1 h2 h3=>?_⟩,λy c h=>⟨_,x.cell y c h⟩,e0.aU.fresh (a9 _),λy c h=>?_,λp hp=>absurd (show p∈([]:List (Addr×Obj)) from hp) (by simp),e0.aU.kept hk,?_⟩
 .exact name_of_addr x.apart (p4 h1) (p4 h2)
 .have hy:scope.names.lookup y=some .cell∨scope.names.lookup y=some .free:=hy
  rcases hy with hy | hy
  .exact KQ hy
  .exact absurd rfl (S.Tf _ (p4 hy))
 .exact Jq (x.above y c (p4 h))
 .have hi:i<vs.length:=by
   unfold start at h2
   by_cases hi:i<vs.length
   .exact hi
   .rw[uK (by simpa using hi)] at h2
    rw[QL] at h2
    split at h2<;>cases h2
  have ha:vs[i]? = some v:=by
   unfold start at h2
   rw[xf (by simpa using hi),jO] at h2
   cases e:vs[i]? with
   | none=>rw[e] at h2;cases h2
   | some a=>rw[e] at h2;cases h2;rfl
  obtain⟨u,hu,rv⟩:=r.get ha
  have hp:ps[i]? = some y:=by
   rw[<-S.pre,List.getElem?_take_of_lt (by lia)];exact h1
  have KR:ps.Nodup:=by rw[<-S.pre];exact S.nd.sublist (List.take_sublist _ _)
  refine⟨u,rv,?_⟩
  rcases S.par y (Jv hp) with k | k
  .exact .inl ⟨k,KO KR hp hu k⟩
  .obtain⟨c,e⟩:=KQ (n:=s.heap.objs.size+1) k
   refine .inr ⟨.inl k,c,e,?_⟩
   have q:=x.cell y c e
   rw[KP KR hp hu (by show scope.names.lookup y≠_;rw[k];decide)] at q
   exact q
 .exact e0.aU.fresh (Jq (x.above y c (p4 h)))
 .unfold start
  show _=N.length
  rw[aY,aZ,a2u]
  lia
def xP{CX:ml}{P:a5}{w:aX}{K:aD}{mg:Str->Option Value}{base:Heap}{k:Nat}{f:Addr}{name qual:Str}{params:Arguments}{body:List Stmt}{scope:dU}{dV kV doc pm bA ct oc:Value}{an od:Option Addr}
 {qi:Array (Option Value)} {N ps:List Str} {sp:Sp} (lk:K.lookup f=some ⟨oc,od,.func (Dk name qual params body scope dV kV doc pm an bA ct),qi⟩) (eA:Jw K bA qual=true) (S:jf N ps scope)
 (len:∀vs H Q E,sp vs H Q E->vs.length=ps.length)
 (jg:∀(A:Around) (outer:List Env) (s:ah) (H:Hp) (vs:List V) (Q:VK) (E:XK),dM k (A.deeper (uJ qual scope s.heap.objs.size f bA))->sp vs H Q E ->
   ∃t,Su (ve CX P w K mg base N qual scope f bA A outer s H E) body t/\t { nx:=λ_ H'=>Q .cI H',rt:=Q } (start N vs) H) :
 jT P w K mg base CX (k+1) f (Dk name qual params body scope dV kV doc pm an bA ct) ps sp:=by
 refine⟨len,λA outer s H args us vs Q E hr e0 hb r eB=>?_⟩
 have hl:=len _ _ _ _ eB
 have KX:K.In s.heap:=e0.mod.o5.keeps λb o e=>(e0.bs b o e).1
 have lim:s.heap.NoLimit:=e0.mod.nolimit.keeps λb o e=>(e0.bs b o e).1
 have tx:∀y∈ps.zip us,scope.names.lookup y.1=some .local∨(scope.names.lookup y.1=some .cell/\((QK (s.heap.objs.size+1) scope.names []).lookup y.1).isSome=true):=λ⟨n,v⟩ hy=>by
  rcases S.par n (QI hy).1 with q | q
  .exact .inl q
  .exact .inr ⟨q,a2t _ _ _ (.inl q)⟩
 refine codeAny_call_function hr.depth (KX _ _ lk) rfl S.co S.gen rfl (PySem.W.codeRec_of KX eA) (hb _ _ _ _ ?_)
 refine wpAny_newFunctionEnv_cells S.kind tx λenv he s1 x=>?_
 subst he
 refine⟨lim.keeps x.toInCall.keep,codeAny_func ?_⟩
 obtain⟨t,ht,hq⟩:=jg A outer s H vs Q E (hr.deeper _) eB
 have I:Inv (ve CX P w K mg base N qual scope f bA A outer s H E) [] (start N vs) H s1:=Tg S hr.hd e0 hl r x
 refine aq (ht [] s1 (start N vs) H _ I hq) (λfl s' hs=>?_) λe s' hs=>hs
 have fin:∀{aO:St} {H':Hp} {v:V} {u:Value},Inv (ve CX P w K mg base N qual scope f bA A outer s H E) [] aO H' s'->RelV v u->Q v H'->CE outer P w H s Q u s' :=
  λ{aO H' v u} J rv q=>⟨v,H',J.os,J.bare,J.base,J.aU,rv,q⟩
 cases fl with
 | ret u =>
   obtain⟨v,aO,H',J,rv,q⟩:=hs
   exact fin J rv q
 | next =>
   obtain⟨aO,H',J,q⟩:=hs
   exact fin (v:=V.cI) (u:=kg) J rfl q
 | brk =>
   obtain⟨_,_,_,q⟩:=hs
   exact cC q
 | cont =>
   obtain⟨_,_,_,q⟩:=hs
   exact cC q
end L2
namespace L2
open PySem PySem.Spec PyProof.Rows
section
variable {X:Cx}{x:Str}{p pos:Pos}{e:Expr}{es:List Expr}{t:TA}{id T:String}{r:List V->Hp->VK->Prop}
end
end L2
namespace HT
open PySem PyProof.Rows
section
open PySem.SeqAt
open PySem.AutoSeq1 (wpAny_loadPart')
open PySem.MeetsSeq PySem.MeetsSeq2 PySem.MeetsSeq3
end
section
variable {prog:a5}{w:aX}{A:Around}{E:Value->ah->Prop}{s:ah}
def Th{t b:Addr}{vs ws:List Value}{Q:Value->ah->Prop}(ht:w9 s.heap t vs.toArray)(hb:w9 s.heap b ws.toArray)(hv:vs≠[])
 (h1:ws=[]->Q (.ref t) s) (h2:ws≠[]->Q (.ref s.heap.objs.size) { s with heap:=s.heap.push { cls:=.type "tuple",data:=.seq (vs++ws).toArray } })
 (jh:vs.length+ws.length<=bK):au (aF prog w) A (iU .Add (.ref t) (.ref b)) Q E s:=by
 obtain⟨⟨cls,dd,data,sl⟩,ho,hc,n,hd⟩:=id ht
 obtain⟨⟨Ti,AK,data2,AL⟩,tB,mq,n2,hd2⟩:=id hb
 simp only at hc hd mq hd2
 subst hc hd mq hd2
 have e:vs.toArray++ws.toArray=(vs++ws).toArray:=by simp
 by_cases hw:ws=[]
 .exact Jy ⟨_,ho,rfl⟩ ⟨_,tB,rfl⟩ QM QN QO QP (QQ _ _)
   (tuple_addW1 t b vs.toArray ws.toArray n n2 dd AK sl AL (by simpa using hv) (by simp[hw])) ⟨ho,tB,h1 hw⟩
 .refine Jy ⟨_,ho,rfl⟩ ⟨_,tB,rfl⟩ QM QN QO QP (QQ _ _)
   (tuple_addW2 t b vs.toArray ws.toArray n n2 dd AK sl AL (by simpa using hv) (by simpa using hw) (by rw[dD,dD];exact jh)) ⟨ho,tB,?_⟩
  rw[e]
  exact h2 hw
def bD(n d:Nat):Option Int->Nat
 | none=>d
 | some v=>if v<0 then (v+(n:Int)).toNat else min v.toNat n
def Tj(n d:Nat)(hd:d<=n)(o:Option Int):bD n d o<=n:=by
 cases o with
 | none=>exact hd
 | some v =>
   show(if v<0 then (v+(n:Int)).toNat else min v.toNat n)<=n
   by_cases hv:v<0
   .rw[if_pos hv];lia
   .rw[if_neg hv];exact Nat.min_le_right _ _
def KS(v:Int)(n d:Nat):(if v<0 then max (v+(n:Int)) 0 else min v (n:Int))=((bD n d (some v):Nat):Int):=by
 show(if v<0 then max (v+(n:Int)) 0 else min v (n:Int))=(((if v<0 then (v+(n:Int)).toNat else min v.toNat n):Nat):Int)
 by_cases hv:v<0
 .simp only[if_pos hv];lia
 .simp only[if_neg hv];lia
def Tn(lo hi:Option Int)(n:Nat):QR lo hi 1 (n:Int)=(((bD n 0 lo:Nat):Int),((bD n n hi:Nat):Int)):=by
 have h1:¬((1:Int)<0):=by lia
 unfold QR
 simp only[h1,if_false]
 refine Prod.ext ?_ ?_
 .cases lo with
  | none=>rfl
  | some v=>exact KS v n 0
 .cases hi with
  | none=>rfl
  | some v=>exact KS v n n
def To(i j:Nat):Jz (i:Int) (j:Int) 1=j-i:=by
 unfold Jz
 have h1:(1:Int)>0:=by lia
 simp only[h1,if_true,Int.ediv_one]
 split<;>lia
def KU{v:Value}{o:Option Int}{Q:Option Int->ah->Prop}(p:rC v o)(h:Q o s):au (aF prog w) A (Builtin.Slice.slicePartIndex v) Q E s:=by
 cases p with
 | none=>exact a2v h
 | int i t=>exact slicePart_int h
def KW{sl:Addr}{vl vu:Value}{lo hi:Option Int}{n:Nat}{Q:Int×Int×Nat->ah->Prop}(hs:s.heap.IsSliceOf sl vl vu .none)(pl:rC vl lo)(pu:rC vu hi)
 (h:Q (((bD n 0 lo:Nat):Int),1,bD n n hi-bD n 0 lo) s):au (aF prog w) A (a2w (.ref sl) (pure (n:Int))) Q E s:=by
 obtain⟨os,tD,xQ,xR⟩:=id hs
 unfold a2w Builtin.Slice.sliceFields
 refine aS (aS (p5 tD xR (x:=vl) rfl (aS (p5 tD xR (x:=vu) rfl (aS (p5 tD xR (x:=.none) rfl (bS ?_)))))))
 refine aS (a2v ?_)
 show au _ _ (if ((1:Int)==0)=true then _ else _) _ _ s
 rw[if_neg (by decide)]
 refine aS (KU pl (aS (KU pu (aS (bS ?_)))))
 show au _ _ (match QR lo hi 1 (n:Int) with | (lo,hi)=>pure (lo,(1:Int),Jz lo hi 1)) _ _ s
 rw[Tn lo hi n]
 show au _ _ (pure (((bD n 0 lo:Nat):Int),(1:Int),Jz ((bD n 0 lo:Nat):Int) ((bD n n hi:Nat):Int) 1)) _ _ s
 rw[To]
 exact bS h
def Tp(xs:Array Value)(i k:Nat):((g6 k).filterMap λ(m:Nat)=>xs[((i:Int)+(m:Int)*1).toNat]?).toArray=((xs.toList.drop i).take k).toArray:=by
 have e:(λ(m:Nat)=>xs[((i:Int)+(m:Int)*1).toNat]?)=λm=>xs[i+m]?:=by
  funext m
  have:((i:Int)+(m:Int)*1).toNat=i+m:=by lia
  rw[this]
 rw[e]
 have:=pick_run xs i k
 rw[List.filterMap_map] at this
 have e2:((λx=>xs[x]?) ∘ λx=>i+x)=λm=>xs[i+m]?:=rfl
 rw[e2] at this
 rw[this]
def Tq{t sl:Addr}{items:Array Value}{vl vu:Value}{lo hi:Option Int}{Q:Value->ah->Prop}(ht:w9 s.heap t items)(hs:s.heap.IsSliceOf sl vl vu .none)(pl:rC vl lo)(pu:rC vu hi)
 (hw:¬(bD items.size 0 lo=0/\bD items.size items.size hi=items.size))
 (h:Q (.ref s.heap.objs.size) { s with heap:=s.heap.push { cls:=.type "tuple",data:=.seq ((items.toList.drop (bD items.size 0 lo)).take (bD items.size items.size hi-bD items.size 0 lo)).toArray } })
 (jh:items.size<=bK):au (aF prog w) A (uL (.ref t) (.ref sl)) Q E s:=by
 have AM:sizeOk (.seq ((items.toList.drop (bD items.size 0 lo)).take (bD items.size items.size hi-bD items.size 0 lo)).toArray):=by
  show((items.toList.drop (bD items.size 0 lo)).take (bD items.size items.size hi-bD items.size 0 lo)).toArray.size<=bK
  rw[dD,dW,gR,rq]
  lia
 have hj:bD items.size items.size hi<=items.size:=Tj _ _ (a9 _) hi
 obtain⟨os,tD,xQ,xR⟩:=id hs
 have D6:s.TypeIs (.ref sl) "slice":=⟨os,tD,xQ⟩
 unfold uL
 try with_reducible refine iV ?_
 first | refine aS (bS ?_) | skip
 refine aS (a2x ht.typeIs (by decide) ?_)
 refine aS (a2y (name:=oX "__getitem__") ht.typeIs JA
  (QS JA ht.typeIs a2z ?_ (a3a _ _)))
 show au _ _ (QT (.ref t)>>=_) _ _ s
 refine aS (tupleItemsOf_ ht ?_)
 refine aS (JB D6 ?_)
 rw[if_pos (by decide)]
 refine aS (KW hs pl pu ?_)
 have mr:¬((((bD items.size 0 lo:Nat):Int)==0&&(1:Int)==1&&(bD items.size items.size hi-bD items.size 0 lo)==items.size)=true):=by
  intro q
  rw[jP,jP] at q
  have q1:((bD items.size 0 lo:Nat):Int)=0:=eq_of_beq q.1.1
  have q2:bD items.size items.size hi-bD items.size 0 lo=items.size:=eq_of_beq q.2
  exact hw ⟨by lia,by lia⟩
 show au _ _ (if (((bD items.size 0 lo:Nat):Int)==0&&(1:Int)==1&&(bD items.size items.size hi-bD items.size 0 lo)==items.size)=true then _ else _) _ _ s
 rw[if_neg mr,Tp]
 first
  | exact aS (m:=JE _) (Ab (bS ⟨_,rfl,bS h⟩) AM)
  | exact aS (m:=JE _) (Ab (aS (bS (bS ⟨_,rfl,bS h⟩))) AM)
  | exact aS (aS (m:=JE _) (Ab (bS (bS ⟨_,rfl,bS h⟩)) AM))
  | exact aS (aS (m:=JE _) (Ab (bS ⟨_,rfl,bS h⟩) AM))
end
end HT
namespace L2
open PySem PySem.Spec PyProof.Rows
abbrev TO:=St->Hp->(Option Int->Hp->Prop)->Prop
def Tr{ns:List Int}:∀{us:List Value},Vals (ns.map V.int) us->xg us ns:=by
 induction ns with
 | nil=>intro us r;rw[rD] at r;cases r;exact .nil
 | cons n ns ih =>
   intro us r
   rw[gz] at r
   cases r with
   | cons r1 r2 =>
     obtain⟨t,e⟩:=r1
     subst e
     exact .cons n t (ih r2)
section
variable {X:Cx}{e:Expr}{te:TE}{lo hi:Option Expr}{tl th:TO}{pos p2:Pos}
def n6(X:Cx)(r:V->Option Int->Option Int->Hp->VK->Prop):Prop :=
 ∀(zn:List (Addr×Obj)) (s:ah) (σ:St) (H:Hp) (x:V) (v vl vu:Value) (lo hi:Option Int) (sl:Addr) (Q:VK),Inv X zn σ H s->RelV x v->s.heap.IsSliceOf sl vl vu .none->rC vl lo->rC vu hi->r x lo hi H Q ->
  ∃T id,QU (.type T) "__getitem__"=pure (some (.builtin id))/\s.TypeIs v T/\au (aF X.prog X.w) X.A (uL v (.ref sl)) (EP X zn σ Q) X.xe s
def n6.or{r r':V->Option Int->Option Int->Hp->VK->Prop}(h:n6 X r)(h':n6 X r'):n6 X (λx lo hi H Q=>r x lo hi H Q∨r' x lo hi H Q):=by
 intro zn s σ H x v vl vu lo hi sl Q I rx hs pl pu q
 rcases q with q | q
 .exact h zn s σ H x v vl vu lo hi sl Q I rx hs pl pu q
 .exact h' zn s σ H x v vl vu lo hi sl Q I rx hs pl pu q
def mw(xs:List V)(lo hi:Option Int):List V:=(xs.drop (HT.bD xs.length 0 lo)).take (HT.bD xs.length xs.length hi-HT.bD xs.length 0 lo)
def KY(xs:List V)(lo hi:Option Int):(mw xs lo hi).length<=xs.length:=by
 unfold mw
 rw[dW,gR]
 lia
def Ts(K:aD):V->Option Int->Option Int->Hp->VK->Prop:=λx lo hi H Q=>∃a xs,x = .ref a/\cX K H a xs /\
 ¬(HT.bD xs.length 0 lo=0/\HT.bD xs.length xs.length hi=xs.length)/\∀p,H p=none->Q (.ref p) (upd H p (.tup (mw xs lo hi)))
def Tt:n6 X (Ts X.K):=by
 intro zn s σ H x v vl vu lo hi sl Q I rx hs pl pu h
 obtain⟨a,xs,rfl,hx,hw,q⟩:=h
 cases rx
 obtain⟨xL,r,ht,hz⟩:=I.tuple hx
 have hlen:xL.toArray.size=xs.length:=by rw[dD];exact r.length.symm
 refine⟨"tuple",_,PyProof.Rows.slot_tuple_getitem.lookup,ht.typeIs,?_⟩
 refine HT.Tq ht hs pl pu (by rw[hlen];exact hw) ?_ (by rw[hlen];exact hz)
 rw[hlen]
 refine⟨.ref s.heap.objs.size,_,I.laid (t':=s.toks) (o:=.tup (mw xs lo hi)) (λb ob q=>eX _ q) (a9 _) ?_,rfl,q _ (I.aU.fresh (a9 _))⟩
 exact⟨fS (KY xs lo hi) hz,_,(r.drop (HT.bD xs.length 0 lo)).take (HT.bD xs.length xs.length hi-HT.bD xs.length 0 lo),o4.new _ _⟩
def Tu(K:aD):R2:=λx y H Q=>∃a b xs ys,x = .ref a/\y = .ref b/\cX K H a xs/\cX K H b ys/\xs≠[]/\xs.length+ys.length<=bK /\
 (ys=[]->Q (.ref a) H)/\(ys≠[]->∀p,H p=none->Q (.ref p) (upd H p (.tup (xs++ys))))
def Vals.jU{xs:List V}{us:List Value}(r:Vals xs us):us=[]↔xs=[]:=by
 cases r with
 | nil=>simp
 | cons _ _=>simp
def Tv:fv X (iU .Add) (Tu X.K):=by
 intro zn s σ H x y v u Q I rx ry h
 obtain⟨a,b,xs,ys,rfl,rfl,ha,hb,hx,hz,q1,q2⟩:=h
 cases rx
 cases ry
 obtain⟨xL,r1,p1,_⟩:=I.tuple ha
 obtain⟨xS,r2,p2,_⟩:=I.tuple hb
 refine HT.Th p1 p2 (λz=>hx (r1.jU.mp z)) (λz=>⟨.ref a,H,I,rfl,q1 (r2.jU.mp z)⟩) (λz=>?_) (by rw[<-r1.length,<-r2.length];exact hz)
 refine⟨.ref s.heap.objs.size,_,I.laid (t':=s.toks) (o:=.tup (xs++ys)) (λb ob q=>eX _ q) (a9 _) ?_,rfl,q2 (λw=>z (r2.jU.mpr w)) _ (I.aU.fresh (a9 _))⟩
 exact⟨by rw[aY];exact hz,_,r1.append r2,o4.new _ _⟩
end
end L2
namespace L2
open PySem PySem.Spec PyProof.Rows
def jC(n:Nat)(i:Int):Option Nat:=if 0<=i then (if i<n then some i.toNat else none) else if -(n:Int)<=i then some (i+n).toNat else none
def cV{α:Type}(xs:List α)(i:Int):Option α:=(jC xs.length i).bind λj=>xs[j]?
def KZ{n:Nat}{i:Int}{j:Nat}(h:jC n i=some j):seqIndex? i n=some j/\j<n /\ -(n:Int)<=i/\i<n:=by
 unfold jC at h
 by_cases h0:0<=i
 .rw[if_pos h0] at h
  by_cases h1:i<n
  .rw[if_pos h1] at h
   have e:i.toNat=j:=l9 h
   exact⟨by rw[QV h0 h1,e],by lia,by lia,h1⟩
  .rw[if_neg h1] at h;cases h
 .rw[if_neg h0] at h
  by_cases h1:-(n:Int)<=i
  .rw[if_pos h1] at h
   have e:(i+n).toNat=j:=l9 h
   exact⟨by rw[QW (by lia) h1,e],by lia,h1,by lia⟩
  .rw[if_neg h1] at h;cases h
def D7{α:Type}{xs:List α}{i:Int}{v:α}(h:cV xs i=some v):∃j,seqIndex? i xs.length=some j/\xs[j]? = some v/\j<xs.length /\ -(xs.length:Int)<=i/\i<xs.length:=by
 unfold cV at h
 cases e:jC xs.length i with
 | none=>rw[e] at h;cases h
 | some j =>
   rw[e] at h
   obtain⟨h1,h2,h3,h4⟩:=KZ e
   exact⟨j,h1,h,h2,h3,h4⟩
def AN(b:Expr):Prop:=∀o i,subscripted b false o i=operate [o,i] (uL o i)
def D8(X:Cx)(r:R2):Prop :=
 ∀(value slice:Expr) (zn:List (Addr×Obj)) (s:ah) (σ:St) (H:Hp) (x y:V) (v u:Value) (Q:VK),Inv X zn σ H s->RelV x v->RelV y u->r x y H Q ->
  subscripted slice false v u=operate [v,u] (uL v u)->au (aF X.prog X.w) X.A (subscriptTail value slice v u) (EP X zn σ Q) X.xe s
section
variable {X:Cx}{a b:Expr}{ta tb:TE}{pos:Pos}
def Tw(K:aD):R2:=λx y H Q=>∃p xs i v,x = .ref p/\y = .int i/\cE K H p xs/\cV xs i=some v/\Q v H
def Tx(K:aD):R2:=λx y H Q=>∃p xs i v,x = .ref p/\y = .int i/\cX K H p xs/\cV xs i=some v/\Q v H
def Tz:R2:=λx y H Q=>∃z i c,x = .str z/\y = .int i/\z.length<=bK/\cV z.cps.toList i=some c/\Q (.str ⟨#[c]⟩) H
def D9:D8 X (Tw X.K):=by
 intro value slice zn s σ H x y v u Q I rx ry h hs
 obtain⟨p,xs,i,z,rfl,rfl,hq,he,q⟩:=h
 cases rx
 obtain⟨t,rfl⟩:=ry
 obtain⟨xL,r,pl,hz⟩:=I.list hq
 obtain⟨j,h1,h2,h3,h4,h5⟩:=D7 he
 obtain⟨w,ew,D_⟩:=r.get h2
 have hl:=r.length
 have hn:=u_
 have fin:EP X zn σ Q w s:=⟨z,H,I,D_,q⟩
 by_cases h0:0<=i
 .have hj:i.toNat=j:=by
   rw[QV h0 h5] at h1
   exact l9 h1
  exact item_listR pl.isList h0 (by lia) (by rw[hj];simpa using ew) fin hs
 .have hj:(i+(xL.toArray.size:Int)).toNat=j:=by
   rw[QW (by lia) h4] at h1
   rw[dD,<-hl]
   exact l9 h1
  exact a3b (x:=w) pl.isList.typeIs slot_list_getitem.lookup
   (wpAny_getItem_list_neg (Q:=λr s'=>r=w/\EP X zn σ Q r s') pl.isList (by lia) (by rw[dD]<;>lia) (by lia) (by rw[hj];simpa using ew) ⟨rfl,fin⟩) hs
def Ea:D8 X (Tx X.K):=by
 intro value slice zn s σ H x y v u Q I rx ry h hs
 obtain⟨p,xs,i,z,rfl,rfl,hq,he,q⟩:=h
 cases rx
 obtain⟨t,rfl⟩:=ry
 obtain⟨xL,r,pl,hz⟩:=I.tuple hq
 obtain⟨j,h1,h2,h3,h4,h5⟩:=D7 he
 obtain⟨w,ew,D_⟩:=r.get h2
 have hl:=r.length
 have hn:=u_
 have fin:EP X zn σ Q w s:=⟨z,H,I,D_,q⟩
 exact a3b (x:=w) pl.typeIs slot_tuple_getitem.lookup
  (getItem_tuple (j:=j) (Q:=λr s'=>r=w/\EP X zn σ Q r s') pl (by lia) (by lia) (by rw[dD,<-hl];exact h1) (by simpa using ew) ⟨rfl,fin⟩) hs
def TB:D8 X Tz:=by
 intro value slice zn s σ H x y v u Q I rx ry h hs
 obtain⟨z,i,c,rfl,rfl,hz,he,q⟩:=h
 obtain⟨t,rfl⟩:=rx
 obtain⟨t',rfl⟩:=ry
 obtain⟨j,h1,h2,h3,h4,h5⟩:=D7 he
 have hl:z.cps.toList.length=z.length:=by simp[kF]
 rw[hl] at h1 h4 h5
 have hn:=u_
 exact tail_any (typeIs_str s z t) slot_str_getitem.lookup (getItem_str (c:=c) (by
  have e1:decide (i < -(2^63:Int))=false:=decide_eq_false (by lia)
  have e2:decide (i≥2^63)=false:=decide_eq_false (by lia)
  rw[e1,e2,Dl]) (by rw[h1];simpa using h2) ⟨.str ⟨#[c]⟩,H,I.tok _,⟨_,rfl⟩,q⟩) hs
def TF(xL:List Value)(n j:Nat)(u:Value):xh (·.setIfInBounds j u) { cls:=.type "list",data:=.seq xL.toArray n }={ cls:=.type "list",data:=.seq (xL.set j u).toArray n }:=by
 simp[xh]
def Inv.lst{zn:List (Addr×Obj)}{σ:St}{H:Hp}{s:ah}{p:Addr}{xs:List V}(I:Inv X zn σ H s)(h:H p=some (.lst xs)) :
 ∃(xL:List Value) (n:Nat),Vals xs xL/\s.heap.get? p=some { cls:=.type "list",data:=.seq xL.toArray n }/\xs.length<=bK:=by
 obtain⟨z,xL,n,r,e⟩:=I.aU p _ h
 exact⟨xL,n,r,e,z⟩
def Inv.TH{zn:List (Addr×Obj)}{σ:St}{H:Hp}{s:ah}{p:Addr}{xs ys:List V}{xL its':List Value}{n n':Nat}{f:Obj->Obj}(I:Inv X zn σ H s)(h:H p=some (.lst xs))
 (ho:s.heap.get? p=some { cls:=.type "list",data:=.seq xL.toArray n }) (hf:f { cls:=.type "list",data:=.seq xL.toArray n }={ cls:=.type "list",data:=.seq its'.toArray n' }) (r:Vals ys its') (hz:ys.length<=bK) (t:Nat) :
 Inv X zn σ (upd H p (.lst ys)) { s with heap:=s.heap.update p f,toks:=t }:=by
 have e:(s.heap.update p f).get? p=some { cls:=.type "list",data:=.seq its'.toArray n' }:=by
  rw[xi f ho (by rw[hf]<;>rfl),hf]
 refine I.write (x:=p) (e:=p) (by rw[h];trivial) (.inl rfl) (λb u hb q=>(rE _ _ (dC hb)).trans q) ⟨_,e⟩ ?_
 exact⟨hz,its',n',r,e⟩
def TJ:V->V->V->Hp->(Hp->Prop)->Prop:=λo i v H Q=>∃p xs k j,o = .ref p/\i = .int k/\H p=some (.lst xs)/\jC xs.length k=some j/\Q (upd H p (.lst (xs.set j v)))
def TK:SG X TJ:=by
 intro zn s σ H o i v ov iv u Q I ro ri rv h
 obtain⟨p,xs,k,j,rfl,rfl,hp,hj,q⟩:=h
 cases ro
 obtain⟨t,rfl⟩:=ri
 obtain⟨xL,n,r,ho,hz⟩:=I.lst hp
 obtain⟨h1,h2,h3,h4⟩:=KZ hj
 have hl:=r.length
 have hn:=u_
 have I':Inv X zn σ (upd H p (.lst (xs.set j v))) { s with heap:=s.heap.update p (xh (·.setIfInBounds j u)) } :=
  I.TH hp ho (TF xL n j u) (r.set rv j) (by rw[ip];exact hz) s.toks
 by_cases h0:0<=k
 .have hk:k.toNat=j:=by
   rw[QV h0 h4] at h1
   exact l9 h1
  exact PySem.W.ki_setAt ho h0 (by lia) (by rw[dD,<-hl];exact h4) (by rw[hk];exact⟨_,I',q⟩)
 .have hk:(k+(xL.toArray.size:Int)).toNat=j:=by
   rw[QW (by lia) h3] at h1
   rw[dD,<-hl]
   exact l9 h1
  exact PySem.W.ki_setBack ho (by lia) (by rw[dD,<-hl];exact h3) (by lia) (by rw[hk];exact⟨_,I',q⟩)
def TL(lo hi:Option Int)(n:Nat):(xj lo hi none n).1=((HT.bD n 0 lo:Nat):Int)/\(xj lo hi none n).2.1=((HT.bD n n hi:Nat):Int)/\(xj lo hi none n).2.2=1:=by
 refine⟨?_,?_,rfl⟩
 .cases lo with
  | none=>simp[xj,HT.bD]
  | some i =>
    simp only[xj,HT.bD,QX,show(1:Int)>0 by decide,if_true]
    by_cases h:i<0
    .simp only[h,if_true]<;>lia
    .simp only[h,if_false]<;>lia
 .cases hi with
  | none=>simp[xj,HT.bD]
  | some i =>
    simp only[xj,HT.bD,QX,show(1:Int)>0 by decide,if_true]
    by_cases h:i<0
    .simp only[h,if_true]<;>lia
    .simp only[h,if_false]<;>lia
def TM(xL:List Value)(lo hi:Option Int):slicePick xL.toArray lo hi none=((xL.drop (HT.bD xL.length 0 lo)).take (HT.bD xL.length xL.length hi-HT.bD xL.length 0 lo)).toArray:=by
 obtain⟨h1,h2,h3⟩:=TL lo hi xL.toArray.size
 unfold slicePick
 rw[h1,h2,h3]
 simp only[sliceRange_one,pick_run,dD]<;>rfl
def TN(K:aD):V->Option Int->Option Int->Hp->VK->Prop:=λx lo hi H Q=>∃a xs,x = .ref a/\cE K H a xs/\∀p,H p=none->Q (.ref p) (upd H p (.lst (mw xs lo hi)))
def K0:n6 X (TN X.K):=by
 intro zn s σ H x v vl vu lo hi sl Q I rx hs pl pu h
 obtain⟨a,xs,rfl,hx,q⟩:=h
 cases rx
 obtain⟨xL,r,ht,hz⟩:=I.list hx
 have hlen:=r.length
 refine⟨"list",_,slot_list_getitem.lookup,ht.isList.typeIs,?_⟩
 refine wpAny_getItem_list_slice ht.isList hs pl pu .none (by simp) ?_ (by rw[dD]<;>lia)
 rw[TM,<-hlen]
 refine⟨.ref s.heap.objs.size,_,I.laid (t':=s.toks) (o:=.lst (mw xs lo hi)) (λb ob q=>eX _ q) (a9 _) ?_,rfl,q _ (I.aU.fresh (a9 _))⟩
 exact⟨fS (KY xs lo hi) hz,_,0,(r.drop (HT.bD xs.length 0 lo)).take (HT.bD xs.length xs.length hi-HT.bD xs.length 0 lo),g0 _ rfl⟩
def TQ:jS X (.builtin "len") (λxs H Q=>∃p ys,xs=[.ref p]/\(cE X.K H p ys∨cX X.K H p ys)/\Q (.int ys.length) H):=by
 intro zn s σ H xs us Q I r h
 obtain⟨p,ys,rfl,hq,q⟩:=h
 obtain⟨u,rfl,rx⟩:=qg r
 cases rx
 have hn:=u_
 rcases hq with hq | hq
 .obtain⟨xL,r',pl,hz⟩:=I.list hq
  have hlen:=r'.length
  exact a2q pl.isList (by simp only[dD]<;>lia) ⟨.int ys.length,H,I.tok _,⟨s.toks+1,by rw[dD,hlen]⟩,q⟩
 .obtain⟨xL,r',pl,hz⟩:=I.tuple hq
  have hlen:=r'.length
  exact len_tuple pl (by simp only[dD]<;>lia) ⟨.int ys.length,H,I.tok _,⟨s.toks+1,by rw[dD,hlen]⟩,q⟩
def jS.or{f:Value}{r r':List V->Hp->VK->Prop}(h:jS X f r)(h':jS X f r'):jS X f (λxs H Q=>r xs H Q∨r' xs H Q):=by
 intro zn s σ H xs us Q I rs q
 rcases q with q | q
 .exact h zn s σ H xs us Q I rs q
 .exact h' zn s σ H xs us Q I rs q
def TR:jS X (.type "list") (λxs H Q=>∃p ys,xs=[.ref p]/\(cE X.K H p ys∨cX X.K H p ys)/\∀l,H l=none->Q (.ref l) (upd H l (.lst ys))):=by
 intro zn s σ H xs us Q I r h
 obtain⟨p,ys,rfl,hq,q⟩:=h
 obtain⟨u,rfl,rx⟩:=qg r
 cases rx
 have fin:∀(xL:List Value),Vals ys xL->ys.length<=bK->∀(h':Heap) (c':Nat),(∀b o',s.heap.get? b=some o'->h'.get? b=some o') ->
  h'.get? s.heap.objs.size=some { cls:=.type "list",dict:=none,data:=.seq xL.toArray c',slots:=#[] }->EP X zn σ Q (.ref s.heap.objs.size) { s with heap:=h' }:=λxL r' hz h' c' kp e =>
  ⟨.ref s.heap.objs.size,_,I.laid (t':=s.toks) kp (a9 _) (show jB X.prog X.w _ h' _ (.lst ys) from⟨hz,xL,c',r',e⟩),rfl,q _ (I.aU.fresh (a9 _))⟩
 rcases hq with hq | hq
 .obtain⟨xL,r',pl,hz⟩:=I.list hq
  have hlen:=r'.length
  obtain⟨o,ho,hc,n,hd⟩:=pl.isList
  exact call_list_seq p (.inl rfl) ho hc hd (λh' c' kp e=>fin xL r' hz h' c' kp e) (by simp only[dD]<;>lia)
 .obtain⟨xL,r',pl,hz⟩:=I.tuple hq
  have hlen:=r'.length
  obtain⟨o,ho,hc,n,hd⟩:=pl
  exact call_list_seq p (.inr rfl) ho hc hd (λh' c' kp e=>fin xL r' hz h' c' kp e) (by simp only[dD]<;>lia)
def TU:jS X (.type "tuple") (λxs H Q=>∃p ys,xs=[.ref p]/\((cE X.K H p ys/\∀l,H l=none->Q (.ref l) (upd H l (.tup ys)))∨(cX X.K H p ys/\Q (.ref p) H))):=by
 intro zn s σ H xs us Q I r h
 obtain⟨p,ys,rfl,h⟩:=h
 obtain⟨u,rfl,rx⟩:=qg r
 cases rx
 rcases h with ⟨hq,q⟩ | ⟨hq,q⟩
 .obtain⟨xL,r',pl,hz⟩:=I.list hq
  have hlen:=r'.length
  refine call_tuple_list pl.isList (λh' kp=>?_) (by simp only[dD]<;>lia)
  have I1:Inv X zn σ H { s with heap:=h' }:=I.kept (t':=s.toks) kp
  have I2:Inv X zn σ (upd H h'.objs.size (.tup ys)) { s with heap:=h'.push { cls:=.type "tuple",data:=.seq xL.toArray } } :=
   I1.laid (t':=s.toks) (λb o e=>eX _ e) (a9 _) (show jB X.prog X.w _ _ _ (.tup ys) from⟨hz,xL,r',o4.new _ _⟩)
  exact⟨.ref h'.objs.size,_,I2,rfl,q _ (I1.aU.fresh (a9 _))⟩
 .obtain⟨xL,r',pl,hz⟩:=I.tuple hq
  exact call_tuple_same pl ⟨.ref p,H,I,rfl,q⟩
def TV(K:aD)(T:String)(x:V)(H:Hp):Prop:=match x with
 | .str _=>T="str"
 | .int _=>T="int"
 | .ref p=>(T="list"/\∃xs,cE K H p xs)∨(T="tuple"/\∃o,K.lookup p=some o/\o.cls = .type "tuple"/\o.dict=none) ∨
    (T="dict"/\((∃g9,H p=some (.dK g9))∨∃g9,H p=some (.dT g9)))∨(T="set"/\∃S n,H p=some (.set S n))
 | _=>False
def Eb{zn:List (Addr×Obj)}{σ:St}{H:Hp}{s:ah}{T:String}{x:V}{v:Value}(I:Inv X zn σ H s)(r:RelV x v)(ty:TV X.K T x H) :
 s.TypeIs v T/\∀a,v = .ref a->∃ob,s.heap.get? a=some ob/\ob.dict=none:=by
 cases x with
 | str z =>
   obtain⟨t,rfl⟩:=r
   cases (show T="str" from ty)
   exact⟨typeIs_str s z t,λ_ e=>nomatch e⟩
 | int i =>
   obtain⟨t,rfl⟩:=r
   cases (show T="int" from ty)
   exact⟨Dm s i t,λ_ e=>nomatch e⟩
 | ref p =>
   cases r
   rcases ty with ⟨rfl,xs,hq⟩ | ⟨rfl,o,hk,hc,hd⟩ | ⟨rfl,hk⟩ | ⟨rfl,S,n,hk⟩
   .obtain⟨xL,_,pl,_⟩:=I.list hq
    refine⟨pl.isList.typeIs,λa e=>?_⟩
    cases e
    obtain⟨o,n,e,c,hd,_⟩:=pl
    exact⟨o,e,hd⟩
   .refine⟨⟨o,I.gH p o hk,hc⟩,λa e=>?_⟩
    cases e
    exact⟨o,I.gH _ o hk,hd⟩
   .have z:∃o,s.heap.get? p=some o/\o.ExactDict:=by
     rcases hk with ⟨g9,hk⟩ | ⟨g9,hk⟩
     .obtain⟨_,_,_,_,o,_,_,e,ex,_⟩:=I.aU p _ hk
      exact⟨o,e,ex⟩
     .obtain⟨_,_,_,_,o,_,_,e,ex,_⟩:=I.aU p _ hk
      exact⟨o,e,ex⟩
    obtain⟨o,e,ex⟩:=z
    refine⟨⟨o,e,ex.1⟩,λa e2=>?_⟩
    cases e2
    exact⟨o,e,ex.2.1⟩
   .obtain⟨o,_,_,_,e,ex,_⟩:=I.aU p _ hk
    refine⟨⟨o,e,ex.1⟩,λa e2=>?_⟩
    cases e2
    exact⟨o,e,ex.2.1⟩
 | _=>exact cC ty
variable {o e:Expr}{es:List Expr}{to:TE}{t:TA}{name:Str}{apos b6:Pos}{T id:String}{r:V->List V->Hp->VK->Prop}
end
end L2
namespace L2
open PySem PySem.Spec PyProof.Rows
def K1(X:Cx)(id:String)(r:V->List V->Hp->VK->Prop):Prop :=
 ∀(zn:List (Addr×Obj)) (s:ah) (σ:St) (H:Hp) (x:V) (xs:List V) (v:Value) (us:List Value) (Q:VK),Inv X zn σ H s->RelV x v->Vals xs us->r x xs H Q ->
  au (aF X.prog X.w) X.A (call (.builtin id) (v::us)) (EP X zn σ Q) X.xe s
def Vals.one:∀{x:V} {us:List Value},Vals [x] us->∃u,us=[u]/\RelV x u
 | _,_,.cons r .nil=>⟨_,rfl,r⟩
def Vals.zero:∀{us:List Value},Vals [] us->us=[]
 | _,.nil=>rfl
def Vals.dropLast{xs:List V}{us:List Value}(h:Vals xs us):Vals xs.dropLast us.dropLast:=by
 induction h with
 | nil=>exact .nil
 | cons r t ih =>
   cases t with
   | nil=>exact .nil
   | cons q t'=>exact .cons r ih
def Vals.reverse{xs:List V}{us:List Value}(h:Vals xs us):Vals xs.reverse us.reverse:=by
 induction h with
 | nil=>exact .nil
 | cons r t ih=>rw[Dn,Dn];exact Vals.append ih (.cons r .nil)
def Vals.rep{xs:List V}{us:List Value}(h:Vals xs us):∀k:Nat,Vals (b0 k xs).flatten (b0 k us).flatten
 | 0=>.nil
 | k+1=>by
   rw[rF,rF,xl,xl]
   exact Vals.append h (Vals.rep h k)
def TX{α:Type}(l:List α):l.eraseIdx (l.length-1)=l.dropLast:=by
 induction l with
 | nil=>rfl
 | cons a r ih =>
   cases r with
   | nil=>rfl
   | cons b r =>
     have e:(a::b::r).length-1=((b::r).length-1)+1:=by
      have h1:(a::b::r).length=r.length+2:=rfl
      have h2:(b::r).length=r.length+1:=rfl
      lia
     rw[e,List.eraseIdx_cons_succ,ih]
     all_goals rfl
def Ec(xL:List Value):∀(k:Nat) (acc:List Value),
 JF (λx1 x2=>x1++x2) acc.toArray (b0 k xL.toArray)=(acc++(b0 k xL).flatten).toArray
 | 0,acc=>by simp
 | k+1,acc=>by
   have e:acc.toArray++xL.toArray=(acc++xL).toArray:=by simp
   have e2:(acc++xL)++(b0 k xL).flatten=acc++(b0 (k+1) xL).flatten:=by
    rw[rF,xl,jQ]
   rw[<-e2,<-Ec xL k (acc++xL),<-e,rF,JG]
section
variable {X:Cx}{zn:List (Addr×Obj)}{σ:St}{H:Hp}{s:ah}{l b:Addr}{xs ys zs:List V}
def Inv.K2{xL its':List Value}{n:Nat}{f:Array Value->Array Value}{t':Nat}(I:Inv X zn σ H s)(hH:H l=some (.lst xs))
 (e:s.heap.get? l=some { cls:=.type "list",data:=.seq xL.toArray n }) (hf:f xL.toArray=its'.toArray) (hv:Vals ys its') (hz:ys.length<=bK) :
 Inv X zn σ (upd H l (.lst ys)) { s with heap:=s.heap.update l (xh f),toks:=t' }:=by
 have q:=PySem.IsL.update e f
 rw[hf] at q
 refine I.write (x:=l) (e:=l) (by rw[hH];exact trivial) (.inl rfl) (λb' u hb hu=>(rE s.heap (xh f) (dC hb)).trans hu) ⟨_,q⟩ ?_
 exact⟨hz,its',_,hv,q⟩
def Inv.Ed{xL:List Value}{t':Nat}(I:Inv X zn σ H s)(hv:Vals ys xL)(hz:ys.length<=bK) :
 Inv X zn σ (upd H s.heap.objs.size (.lst ys)) { s with heap:=s.heap.push { cls:=.type "list",data:=.seq xL.toArray },toks:=t' } :=
 I.laid (λ_ _ q=>eX _ q) (a9 _) ⟨hz,xL,0,hv,g0 _ rfl⟩
def Inv.fresh(I:Inv X zn σ H s):H s.heap.objs.size=none:=I.aU.fresh (a9 _)
def Inv.xT(I:Inv X zn σ H s)(hH:H l=some (.lst xs)):xs.length<=bK/\∃(xL:List Value) (n:Nat),Vals xs xL/\xs.length=xL.length/\s.heap.get? l=some { cls:=.type "list",data:=.seq xL.toArray n }:=by
 obtain⟨z,xL,n,r,e⟩:=I.aU l _ hH
 exact⟨z,xL,n,r,r.length,e⟩
def TY{n:Nat}(h:n<=bK):QY n=false:=by
 unfold QY
 exact decide_eq_false (by lia)
end
section
variable {X:Cx}
def TZ:V->List V->Hp->VK->Prop:=λx vs H Q=>∃l xs y,x = .ref l/\vs=[y]/\H l=some (.lst xs)/\xs.length<bK/\Q .cI (upd H l (.lst (xs++[y])))
def K3:K1 X "list.append" TZ:=by
 intro zn s σ H x vs v us Q I rx rv h
 obtain⟨l,xs,y,rfl,rfl,hH,hz,q⟩:=h
 cases rx
 obtain⟨u,rfl,ru⟩:=rv.one
 obtain⟨z,xL,n,r,hl,e⟩:=I.xT hH
 refine p6 F.slot_list_append ⟨_,e,rfl⟩ F.entry_list_append (F.args_list_append_2 _ _) (PySem.list_append l xL.toArray n u (by rw[dD];lia)) ⟨e,?_⟩
 refine⟨.cI,_,I.K2 (its':=xL++[u]) hH e (by simp) (r.append (.cons ru .nil)) ?_,rfl,q⟩
 rw[aY,Dp]
 lia
def T1:V->List V->Hp->VK->Prop:=λx vs H Q=>∃l xs y,x = .ref l/\vs=[]/\H l=some (.lst xs)/\xs[xs.length-1]? = some y/\Q y (upd H l (.lst xs.dropLast))
def T2:K1 X "list.pop" T1:=by
 intro zn s σ H x vs v us Q I rx rv h
 obtain⟨l,xs,y,rfl,rfl,hH,hy,q⟩:=h
 cases rx
 have T4:=rv.zero
 subst T4
 obtain⟨z,xL,n,r,hl,e⟩:=I.xT hH
 obtain⟨u,hu,ru⟩:=r.get hy
 have AO:xL.toArray[xL.toArray.size-1]? = some u:=by
  show xL.toArray[xL.length-1]? = some u
  rw[<-QZ,<-hl]
  exact hu
 refine p6 F.slot_list_pop ⟨_,e,rfl⟩ F.entry_list_pop (F.args_list_pop_1 _) (MeetsSeq.list_pop_last l xL.toArray n u AO (by rw[dD];lia)) ⟨e,?_⟩
 refine⟨y,_,I.K2 (its':=xL.dropLast) hH e ?_ r.dropLast ?_,ru,q⟩
 .show xL.toArray.eraseIdxIfInBounds (xL.toArray.size-1)=xL.dropLast.toArray
  rw[dD,List.eraseIdxIfInBounds_toArray,TX]
 .rw[a3c]
  lia
def T5:R2:=λx y H Q=>∃l b xs zs,x = .ref l/\y = .ref b/\H l=some (.lst xs)/\H b=some (.lst zs)/\xs.length+zs.length<=bK/\∀p,H p=none->Q (.ref p) (upd H p (.lst (xs++zs)))
def T6:fv X (iU .Add) T5:=by
 intro zn s σ H x y v u Q I rx ry h
 obtain⟨l,b,xs,zs,rfl,rfl,hH,hB,hz,q⟩:=h
 cases rx
 cases ry
 obtain⟨z,xL,n,r,hl,e⟩:=I.xT hH
 obtain⟨z2,xS,n2,r2,AQ,e2⟩:=I.xT hB
 refine PySem.P.add_list e e2 ?_ (by rw[dD,dD];lia)
 have ea:xL.toArray++xS.toArray=(xL++xS).toArray:=by simp
 rw[ea]
 exact⟨.ref _,_,I.Ed (t':=s.toks) (r.append r2) (by rw[aY];lia),rfl,q _ I.fresh⟩
def T8:R2:=λx y H Q=>∃l k xs,x = .ref l/\y = .int k/\H l=some (.lst xs) /\ -(2^63)<=k/\k<2^63/\xs.length*k.toNat<=bK /\
 ∀p,H p=none->Q (.ref p) (upd H p (.lst (b0 k.toNat xs).flatten))
def Ee{α:Type}(xs:List α)(k:Nat):(b0 k xs).flatten.length=k*xs.length:=by
 induction k with
 | zero=>simp
 | succ k ih=>rw[rF,xl,aY,ih,Q2,Q4]
def T9:fv X (iU .Mult) T8:=by
 intro zn s σ H x y v u Q I rx ry h
 obtain⟨l,k,xs,rfl,rfl,hH,h1,h2,hz,q⟩:=h
 cases rx
 obtain⟨t,rfl⟩:=ry
 obtain⟨z,xL,n,r,hl,e⟩:=I.xT hH
 have hlen:xL.toArray.size*k.toNat<=bK:=by rw[dD,<-hl];exact hz
 have T_:¬xL.toArray.size*k.toNat>(2^63-1)/8:=by
  have:(bK:Nat)<=(2^63-1)/8:=by decide
  lia
 have Ua:¬(!Builtin.List.listFitsIndex k)=true:=by
  rw[fitsIndex_both h1 h2]
  exact uM
 have Ub:¬QY (xL.toArray.size*k.toNat)=true:=by
  rw[TY hlen]
  exact uM
 have Uc:JF (λx1 x2=>x1++x2) #[] (b0 (if xL.toArray.isEmpty=true then 0 else k.toNat) xL.toArray)=(b0 k.toNat xL).flatten.toArray:=by
  have f0:∀m:Nat,JF (λx1 x2=>x1++x2) #[] (b0 m xL.toArray)=(b0 m xL).flatten.toArray:=λm=>by
   have:=Ec xL m []
   rw[l_] at this
   exact this
  rw[f0]
  cases xL with
  | nil=>simp
  | cons a r'=>rw[if_neg (by simp)]
 refine a3d (T:="list") (U:="int") (by decide) ⟨_,e,rfl⟩ (λs'=>Dm s' k t) noFill_list_mul a3e JH repeat_list F.slot_int_index.lookup
  (p6 JH (Dm s k t) a3f (a3g _ _) (int___rmul___int_list k t l xL.toArray n)
    ⟨e,rfl,⟨_,e,rfl⟩,p6 F.slot_list_mul ⟨_,e,rfl⟩ F.entry_list_mul (F.args_list_mul_2 _ _) (AutoListH.list___mul___list_int_3 l xL.toArray n k t Ua T_ Ub) ⟨e,?_⟩⟩)
 rw[Uc]
 exact⟨.ref _,_,I.Ed (t':=s.toks) (r.rep k.toNat) (by rw[Ee,Q5];exact hz),rfl,q _ I.fresh⟩
end
section
variable {prog:a5}{w:aX}{A:Around}{E:Value->ah->Prop}{s:ah}
end
section
variable {X:Cx}
end
end L2
namespace K4
open PySem PySem.W PySem.Calls PyProof.Rows
def Ud{P:oY}{h:Heap}:∀(ns:List Int) (vs:List Value),WellAll P h vs (ns.map WData.int)->xg vs ns:=by
 intro ns
 induction ns with
 | nil =>
   intro vs w
   rw[rD] at w
   cases w
   exact .nil
 | cons n ns ih =>
   intro vs w
   rw[gz] at w
   cases w with
   | cons a b =>
     cases a
     exact .cons _ _ (ih _ b)
def Ue{l:OpenLaw}{n:Nat}(hn:l.most=some n){P:oY}{h:Heap}{args:List WData}{vals:List Value}
 (AR:l.row.toRowW.claim.pre args=true) (qj:WellAll P h vals args) :
 ∃a vs ns,vals=[dS a]/\args=[WData.list (ns.map WData.int)]/\h.get? a=some { cls:=.type "list",data:=.seq vs.toArray }/\xg vs ns/\ns.length<=n:=by
 have AS:WShape.hasAll [] args [.list .int]=true:=(pre_splitW AR).1
 have hc:l.pre.holds [] { args:=args }=true:=(pre_splitW AR).2
 obtain⟨d,r,rfl,h1,h2⟩:=hasAllW_cons AS
 obtain rfl:=hasAllW_nil h2
 obtain⟨xs,rfl,h3⟩:=hasW_list h1
 obtain⟨ns,rfl⟩:=items_int h3
 have hlen:ns.length<=n:=by
  unfold OpenLaw.pre at hc
  have h4:(WTm.not (.lt (.lit (.int (n:Int))) (.len (.arg 0)))).holds [] { args:=[.list (ns.map .int)] }=true:=by
   have h4:=(holds_andW hc).1
   rw[hn] at h4
   exact h4
  have h5:=condW_of h4 (w_not (w_lt w_lit (w_len_list (w_arg rfl))))
  rw[aZ] at h5
  refine a3h λq=>?_
  have q':(n:Int)<((ns.length:Nat):Int):=by lia
  first
   | (rw[decide_eq_true q'] at h5;exact absurd h5 (by decide))
   | (simp at h5;lia)
 cases qj with
 | cons w1 w2 =>
   cases w2
   cases w1 with
   | list ho xU=>exact⟨_,_,ns,rfl,rfl,ho,Ud ns _ xU,hlen⟩
def Ug(l:OpenLaw)(args:List WData):l.row.toRowW.claim.post args (.bool true) args=true :=
 postW_of (r:=l.row.toRowW) (X:=(true==true))
  (show WShape.has [] (.bool true) .bool=true by first | rfl | decide | simp[WShape.has,WShape.arms,WShape.armsAll])
  (show(WTm.eq .res (.lit (.bool true))).value [] { args:=args,res:=some (.bool true),after:=args }=some (.bool (true==true)) from w_eq_bool (w_res rfl) w_lit) rfl
def Uh{l:OpenLaw}{n:Nat}{q:a5}{loose:List Str}{XP:(Str->Option Value)->Heap->Prop}{YP:aX->Heap->Prop}{d:DefRec}
 (hn:l.most=some n) (xV:d.params.defaults=[])
 (call:∀(w:aX) (s₀ bT:ah) (mg mb:Str->Option Value) (fa:Addr) (o:Obj) (pm cd doc:Value) (a:Addr) (vs:List Value) (ns:List Int),
   Ground q loose [] XP w s₀ mg mb bT.heap->YP w bT.heap ->
   bT.heap.get? fa=some o->o.data = .func (docDef d.name d.params d.body d.scope pm cd doc)->bT.heap.CodeRec cd d.name->mg d.name=some (.ref fa) ->
   bT.heap.get? a=some { cls:=.type "list",data:=.seq vs.toArray }->xg vs ns->ns.length<=n->bT.gens=#[] ->
   jN (aF l.prog w) uN (.call (.ref fa) ⟨[.ref a],[]⟩) (λr s'=>r = .ok (.ret (.bool true))/\OldK bT.heap s'.heap/\s'.os=bT.os/\nS s'.gens) bT) :
 WalkO q loose XP YP l.row.toRowW d [] (λf vs=>Q6 f vs):=by
 intro w s₀ bT mg mb G Y fa o pm cd doc dV kV ho hd eA hD qk hg args vals as AR a5x xW qj hlo
 obtain rfl:dV = .none:=Dflts.none hD xV
 obtain rfl:kV = .none:=Dflts.noKw hD
 obtain⟨a,vs,ns,rfl,rfl,Ef,hints,hlen⟩:=Ue hn AR qj
 refine enter_call (p8 (call w s₀ bT mg mb fa o pm cd doc a vs ns G Y ho (fd_plain hd) eA qk Ef hints hlen hg) λr s' hq=>?_)
 obtain⟨rfl,h2,h3,h4⟩:=hq
 exact⟨.inl ⟨.bool true,.bool true,[],rfl,λ_=>rfl,.bool true,Ug l _,λ_=>⟨List.Pairwise.nil,λ_ hm=>(nomatch hm)⟩⟩,h2,h3,h4⟩
section
variable {prog:a5}{w:aX}{A:Around}{E:Value->ah->Prop}{s:ah}{K:Frag}
end
end K4
namespace L2
open PySem PySem.Spec PyProof.Rows
def K5:∀{vs:List Value} {ns:List Int},xg vs ns->Vals (ns.map V.int) vs
 | _,_,.nil=>.nil
 | _,_,.cons n t h=>.cons ⟨t,rfl⟩ (K5 h)
def Eg(H:Hp):Prop:=∀b,H b=none∨∃o xs,H b=some (.gG o (.lst xs))
def Ui{P:a5}{w:aX}{K:aD}{mg mb:Str->Option Value}{CX:ml}{k:Nat}{fa a:Addr}{fd:cw}{x:Str}{sp:Sp}{bT:ah}{vs:List Value}{ns:List Int}
 (KX:K.In bT.heap) (o8:bT.heap.Ns dm mg) (hb:bT.heap.Ns QB mb) (Uj:∀x:Str,x≠"__name__"->mb x=nR x) (Uk:bT.heap.NoLimit) (hg:bT.gens=#[])
 (ha:bT.heap.get? a=some { cls:=.type "list",data:=.seq vs.toArray }) (hi:xg vs ns) (hl:ns.length<=bK) (hr:dM k uN)
 (F:∀base:Heap,K.In base->base.Ns dm mg->jT P w K mg base CX k fa fd [x] sp) (Ul:∀(s:ah) (u:Value),BindsTo s fd ⟨[u],[]⟩ [(x,u)])
 (eB:∀H:Hp,Eg H->cE K H a (ns.map V.int)->sp [.ref a] H (λv _=>v = .bl true) λ_ _ _=>False)
 (xX:∀H e s',CX [] H bT (λ_ _ _=>False) e s'->False) :
 jN (aF P w) uN (.call (.ref fa) ⟨[.ref a],[]⟩) (λr s'=>r = .ok (.ret (.bool true))/\OldK bT.heap s'.heap/\s'.os=bT.os/\nS s'.gens) bT:=by
 have rv:=K5 hi
 have Um:=hi.length
 have core:∀H:Hp,Eg H->cE K H a (ns.map V.int)->eh P w H bT.heap->(∀b,H b≠none->b=a)->(H a≠none->K.lookup a=none) ->
  jN (aF P w) uN (.call (.ref fa) ⟨[.ref a],[]⟩) (λr s'=>r = .ok (.ret (.bool true))/\OldK bT.heap s'.heap/\s'.os=bT.os/\nS s'.gens) bT:=by
  intro H hO hS aU hA hK
  have K6:∀{b:Addr} {o:Obj},bT.heap.get? b=some o->H b=none->(ki bT.heap H).get? b=some o:=λe n=>DQ e n
  have xO:∀{b:Addr} {o:Obj} {es:Array Q7} {ep:Nat},bT.heap.get? b=some o->o.data = .dict es ep->H b=none:=λ{b o es ep} e d=>by
   cases q:H b with
   | none=>rfl
   | some u =>
     have e':b=a:=hA b (by rw[q];simp)
     subst e'
     rw[ha] at e;cases e
     have d':Data.seq vs.toArray _=Data.dict es ep:=d
     cases d'
  have AU:∀{b:Addr} {m:Str->Option Value},bT.heap.Ns b m->(ki bT.heap H).Ns b m:=λ{b m} ⟨o,es,ep,e,d,r⟩=>⟨o,es,ep,K6 e (xO e d),d,r⟩
  have K7:K.In (ki bT.heap H):=λb o e=>K6 (KX b o e) (by
   cases q:H b with
   | none=>rfl
   | some u =>
     have e':b=a:=hA b (by rw[q];simp)
     subst e'
     rw[hK (by rw[q];simp)] at e;cases e)
  have hM:Mod K mg (ki bT.heap H):=⟨K7,AU o8,⟨mb,AU hb,Uj⟩,let ⟨mc,h1,h2⟩:=Uk;⟨mc,AU h1,h2⟩⟩
  have e0:vc P w K mg (ki bT.heap H) uN [] bT H:=⟨rfl,hM,λb o e=>DR e,Nat.le_of_eq (Sm _ _),trivial,λb hb=>absurd (show b∈([]:List Addr) from hb) (by simp),aU,.of_eq hg⟩
  refine p8 ((F _ K7 (AU o8)).run uN [] bT H ⟨[.ref a],[]⟩ [.ref a] [.ref a] _ _ hr e0 (Ul bT (.ref a)) (.cons rfl .nil) (eB H hO hS)) λr s' h=>?_
  cases r with
  | error e=>exact(xX H e s' h).elim
  | ok fl =>
    cases fl with
    | next=>exact cC h
    | brk=>exact cC h
    | cont=>exact cC h
    | ret u =>
      obtain⟨v,H',os,bare,un,Uo,r',q⟩:=h
      have q':v = .bl true:=q
      subst q'
      obtain rfl:u=wY true:=r'
      refine⟨rfl,OldK.of_keep λb o e=>?_,os,bare⟩
      cases q:H b with
      | none=>exact un.keep b o e q (by intro z;exact absurd (show b∈([]:List Addr) from z) (by simp)) (by simp)
      | some u =>
        rcases hO b with z | ⟨ob,xs,z⟩
        .rw[q] at z;cases z
        .have z2:=un.lu b ob _ z
         obtain⟨e1,_⟩:=aU b _ z
         obtain⟨e2,_⟩:=Uo b _ z2
         rw[e] at e1;cases e1
         exact e2
 cases hk:K.lookup a with
 | some o =>
   have e:=KX a o hk
   rw[ha] at e
   cases e
   refine core (λ_=>none) (λ_=>.inl rfl) (.inr ⟨_,vs.toArray,_,hk,rfl,rfl,rfl,by rw[dD,Um];exact hl,by simpa using rv⟩) (λb u z=>by have z':(none:Option HO)=some u:=z;cases z') (λb z=>absurd rfl z) λz=>absurd rfl z
 | none =>
   refine core (λb=>if b=a then some (.gG { cls:=.type "list",data:=.seq vs.toArray } (.lst (ns.map V.int))) else none) (λb=>?_) (.inl (.inr ⟨{ cls:=.type "list",data:=.seq vs.toArray },if_pos rfl⟩)) (λb u z=>?_) (λb z=>?_) λ_=>hk
   .by_cases hb:b=a
    .exact .inr ⟨_,_,if_pos hb⟩
    .exact .inl (if_neg hb)
   .by_cases hb:b=a
    .have z':=(if_pos hb).symm.trans z
     cases z'
     subst hb
     exact⟨ha,by rw[aZ];exact hl,vs,_,rv,ha⟩
    .have z':=(if_neg hb).symm.trans z
     cases z'
   .by_cases hb:b=a
    .exact hb
    .exact absurd (if_neg hb) z
end L2
namespace L2
open PySem PySem.Spec PyProof.Rows
abbrev K8 {K:aD} {h:Heap} (_:K.In h):aD:=K
def K9{l:a3i}{n k:Nat}{q:a5}{loose:List Str}{XP:(Str->Option Value)->Heap->Prop}{YP:aX->Heap->Prop}{d:DefRec}{K:oY->aD}{CX:aX->ml}{sp:aX->Sp}{x:Str}
 (hn:l.most=some n) (AV:n<=bK) (xV:d.params.defaults=[]) (hr:dM k uN)
 (hY:∀(w:aX) (h:Heap),YP w h->(K w.params).In h)
 (F:∀(w:aX) (mg:Str->Option Value) (fa:Addr) (h:Heap),(K w.params).In h->h.Ns dm mg->mg d.name=some (.ref fa) ->
   ∃fd:cw,(∀(s:ah) (u:Value),BindsTo s fd ⟨[u],[]⟩ [(x,u)]) /\
    ∀base:Heap,(K w.params).In base->base.Ns dm mg->jT l.prog w (K w.params) mg base (CX w) k fa fd [x] (sp w))
 (eB:∀(w:aX) (H:Hp) (a:Addr) (ns:List Int),ns.length<=n->Eg H->cE (K w.params) H a (ns.map V.int)->sp w [.ref a] H (λv _=>v = .bl true) λ_ _ _=>False)
 (xX:∀(w:aX) (H:Hp) (s:ah) (e:Value) (s':ah),CX w [] H s (λ_ _ _=>False) e s'->False) :
 PySem.W.WalkO q loose XP YP l.row.toRowW d [] (λf vs=>Q6 f vs):=by
 refine K4.Uh hn xV λw s₀ bT mg mb fa o pm cd doc a vs ns G Y ho hd eA qk Ef hints hlen hg=>?_
 have KX:=hY w _ Y
 obtain⟨fd,hb,hF⟩:=F w mg fa _ KX G.T.g qk
 exact Ui KX G.T.g G.T.b G.T.builtins G.T.nolimit hg Ef hints (fS hlen AV) hr hF hb (λH hO hS=>eB w H a ns hlen hO hS) λH e s'=>xX w H bT e s'
end L2
/- THE a5y a5z (shape;LID,My.* are a6a):
   My.Adr: a structure of the addresses K_ a6b a6c names (classes,a6d);My.Txt K t: a structure (Prop) of the equations over K;
   My.Up:{K} {implicit addresses ..} (e1:nsIn K dm "law"=some (some (.ref f))) (e2:K.lookup f=some ⟨oc,od,.func (fnOf "law" "law" params body scope dV kV doc pm an bA ct),sl⟩) (e3:codeIn K bA "law"=true) ..:∃t,My.Txt K t
set_option maxRecDepth 100000 in
set_option maxHeartbeats 0 in
theorem PySem.Challenge.cw_LID_holds : PySem.Challenge.rw_LID.Holds := by
 w_on;o_law;k_head;(case hw=>w_witness2)
 k_fill
 refine L2.K9 (l:=PySem.Challenge.rw_LID) (n:=63) (k:=40) (x:="script") (CX:=λw=>..) (sp:=λ_=>My.a6e) rfl (by decide) rfl ⟨rfl,by decide,by decide⟩ (λw h Y=>PySem.W.kIn_of Y) ?F ?S ?C
 case F =>
  intro w mg fa h KX G qk
  have T:∃t,My.Txt (L2.K8 KX) t:=by
   dsimp only[L2.K8]                          -- K a6f a6g as «<heap const> w.params» for k_is
   refine' My.Up ?e1 ?e2 ?e3 ..
   (case e1=>PySem.W.k_is)                    -- in the order: a name->xL address->xL object->xL parts
   (case e2=>PySem.W.k_is)
   ..
  obtain⟨t,T⟩:=T
  have e0:=qk.symm.trans (rG KX G T.law)
  cases e0                                       -- fa is the a6h own address
  exact⟨_,λs u=>.of_eq rfl,λbase kb nb=>My.Uq T kb nb⟩     -- if «.of_eq rfl» comes too early: refine' ⟨_,?b,λbase kb nb=>My.Uq T kb nb⟩;exact λs u=>.of_eq rfl
 case S=>exact λw H a ns hl hO hS=>..
 case C=>exact ..
(the tactic k_is has no namespace: write k_is) -/
namespace L2
open PySem PySem.Spec PyProof.Rows
def xY(s:Stmt):Arguments:=match s with
 | .FunctionDef _ a _ _ _ _ _ _ _ _=>a
 | _=>{ posonlyargs:=[],args:=[],vararg:=none,kwonlyargs:=[],kw_defaults:=[],kwarg:=none,defaults:=[] }
def ly(s:Stmt):List Stmt:=match s with
 | .FunctionDef _ _ b _ _ _ _ _ _ _=>b
 | _=>[]
def iB(s:Stmt):dU:=match s with
 | .FunctionDef _ _ _ _ _ _ sc _ _ _=>sc
 | _=>{ kind:=.function,names:=[],isGenerator:=false,isCoroutine:=false }
structure mU (K:aD) (x qual:Str) (st:Stmt) (f:Addr) (fd:cw):Prop where
 ex:∃(oc:Value) (od:Option Addr) (kV doc pm:Value) (an:Option Addr) (bA ct:Value) (qi:Array (Option Value)),
  fd=Dk x qual (xY st) (ly st) (iB st) .none kV doc pm an bA ct/\K.lookup f=some ⟨oc,od,.func fd,qi⟩/\Jw K bA qual=true
 kp:w_ K (.ref f)=true
section
variable {P:a5}{w:aX}{K:aD}{mg:Str->Option Value}{base:Heap}
def mU.binds{x qual:Str}{st:Stmt}{f:Addr}{fd:cw}{ps:List Str}(F:mU K x qual st f fd)
 (h:∀(kV doc pm:Value) (an:Option Addr) (bA ct:Value) (us:List Value),us.length=ps.length->QH (Dk x qual (xY st) (ly st) (iB st) .none kV doc pm an bA ct) ⟨us,[]⟩=pure (ps.zip us)):kL K fd ps []:=by
 obtain⟨oc,od,kV,doc,pm,an,bA,ct,qi,rfl,lk,eA⟩:=F.ex
 exact .all (h kV doc pm an bA ct)
end
def Ur{n:Nat}(h:n<=1000):n<bK:=JI h (by decide)
section
variable {X:Cx}
end
def aT(H H':Hp):Prop:=∀b o,H b=some o->H' b=some o
def aT.refl(H:Hp):aT H H:=λ_ _ h=>h
def aT.trans{H H1 H2:Hp}(a:aT H H1)(b:aT H1 H2):aT H H2:=λc o h=>b c o (a c o h)
def aT.free{H H':Hp}(e:aT H H'){l:Addr}(h:H' l=Option.none):H l=Option.none:=by
 cases q:H l with
 | none=>rfl
 | some o =>
   rw[e l o q] at h
   cases h
def aT.seq{K:aD}{H H':Hp}{a:Addr}{xs:List V}(e:aT H H')(h:cE K H a xs):cE K H' a xs:=by
 rcases h with (h | ⟨o,h⟩) | h
 .exact .inl (.inl (e _ _ h))
 .exact .inl (.inr ⟨o,e _ _ h⟩)
 .exact .inr h
end L2
namespace L3
open PySem
noncomputable section
inductive Er where
 | mV | ql | dE | tooLong | qm | aQ
 deriving DecidableEq
def Er.nm:Er->Str
 | .mV=>"NoPrime" | .ql=>"NoNumber" | .dE=>"NoProgram" | .tooLong=>"TooLong" | .qm=>"Lossy" | .aQ=>"NoText"
inductive D where
 | cI | bl (b:Bool) | int (i:Int) | str (x:Str) | tup (ds:List D) | lst (ds:List D) | kM | exc (c:Er)
mutual
def D.cy:D->Bool
 | .lst _=>false
 | .kM=>false
 | .tup ds=>D.bQ ds
 | _=>true
def D.bQ:List D->Bool
 | []=>true
 | d::ds=>d.cy&&D.bQ ds
end
def Us:D.bQ []=true:=by unfold D.bQ;rfl
def Eh:∀ds:List D,D.bQ ds=ds.all D.cy
 | []=>by unfold D.bQ;rfl
 | d::ds=>by unfold D.bQ;rw[Eh ds];rfl
def Ei(i:Int):D.cy (.int i)=true:=by simp[D.cy]
def La(i:Bool):D.cy (.bl i)=true:=by simp[D.cy]
def Ut(i:Str):D.cy (.str i)=true:=by simp[D.cy]
def Uu:D.cy .cI=true:=by simp[D.cy]
def Ej(ds:List D):D.cy (.tup ds)=D.bQ ds:=by simp[D.cy]
def Uv(ds es:List D):D.bQ (ds++es)=(D.bQ ds&&D.bQ es):=by simp only[Eh,List.all_append]
def Uw{ds:List D}(h:∀d∈ds,d.cy=true):D.bQ ds=true:=by rw[Eh,nV];exact h
def Ux{α:Type}{f:α->D}{l:List α}(h:∀x∈l,(f x).cy=true):D.bQ (l.map f)=true:=Uw λd hd=>by
 obtain⟨x,hx,rfl⟩:=List.mem_map.mp hd;exact h x hx
def rW(ns:List Int):D.bQ (ns.map D.int)=true:=Ux λ_ _=>Ei _
def Ek(ns:List Int):D.cy (.tup (ns.map D.int))=true:=by rw[Ej];exact rW ns
inductive R (α:Type) where
 | no | ok (a:α) | er (c:Er)
def R.bind{α β:Type}(r:R α)(k:α->R β):R β:=match r with
 | .no=>.no
 | .ok a=>k a
 | .er c=>.er c
instance:Monad R where
 pure:=R.ok
 bind:=R.bind
@[simp] theorem R.Uy {α β:Type} (k:α->R β):(R.no>>=k)=R.no:=rfl
@[simp] theorem R.bB {α β:Type} (a:α) (k:α->R β):(R.ok a>>=k)=k a:=rfl
@[simp] theorem R.Uz {α β:Type} (c:Er) (k:α->R β):(R.er c>>=k)=R.er c:=rfl
@[simp] theorem R.a6i {α:Type} (a:α):(pure a:R α)=R.ok a:=rfl
def R.left{α β:Type}{r:R α}{k:α->R β}(h:(r>>=k) ≠ .no):r ≠ .no:=λe=>h (by rw[e];rfl)
def R.next{α β:Type}{r:R α}{k:α->R β}{a:α}(h:(r>>=k) ≠ .no)(e:r = .ok a):k a ≠ .no:=by
 rw[e] at h;exact h
def R.step{α β:Type}{r:R α}{a:α}(e:r = .ok a)(k:α->R β):(r>>=k)=k a:=by rw[e];rfl
def R.stop{α β:Type}{r:R α}{c:Er}(e:r = .er c)(k:α->R β):(r>>=k) = .er c:=by rw[e];rfl
def R.guard{α:Type}(p:Prop)(r:R α):R α:=@ite _ p (Classical.propDecidable p) r .no
def R.guard_pos{α:Type}{p:Prop}{r:R α}(h:p):R.guard p r=r:=if_pos h
def R.cK{α:Type}{p:Prop}{r:R α}(h:R.guard p r ≠ .no):p/\R.guard p r=r:=by
 unfold R.guard at h ⊢
 by_cases q:p
 .exact⟨q,if_pos q⟩
 .rw[if_neg q] at h;exact absurd rfl h
def UA{α:Type}{r:R α}:R.guard True r=r:=R.guard_pos trivial
def a4{α:Type}{p:Prop}{r:R α}(h:p):R.guard p r=r:=R.guard_pos h
inductive En where
 | no | ro (d:D) | own (ds:List D)
abbrev G:=List En
def lk(O:G)(i:Nat):R D:=match O[i]? with
 | some (.ro d)=>.ok d
 | some (.own ds)=>.ok (.lst ds)
 | _=>.no
def o9(O:G)(i:Nat):R D:=match O[i]? with
 | some (.ro d)=>.ok d
 | _=>.no
def UB{O:G}{i:Nat}(h:lk O i ≠ .no):∃d,lk O i = .ok d:=by
 cases e:lk O i with
 | no=>exact absurd e h
 | ok d=>exact⟨d,rfl⟩
 | er c =>
   unfold lk at e
   cases q:O[i]? with
   | none=>rw[q] at e;cases e
   | some en=>rw[q] at e;cases en<;>cases e
def UC{O:G}{i:Nat}(h:o9 O i ≠ .no):∃d,o9 O i = .ok d:=by
 cases e:o9 O i with
 | no=>exact absurd e h
 | ok d=>exact⟨d,rfl⟩
 | er c =>
   unfold o9 at e
   cases q:O[i]? with
   | none=>rw[q] at e;cases e
   | some en=>rw[q] at e;cases en<;>cases e
def fe(d:D)(O:G):lk (En.ro d::O) 0 = .ok d:=rfl
def tE(ds:List D)(O:G):lk (En.own ds::O) 0 = .ok (.lst ds):=rfl
def iC(e:En)(O:G)(i:Nat):lk (e::O) (i+1)=lk O i:=rfl
def UD(d:D)(O:G):o9 (En.ro d::O) 0 = .ok d:=rfl
def UE(e:En)(O:G)(i:Nat):o9 (e::O) (i+1)=o9 O i:=rfl
def gV(i:Nat):G->R D:=λO=>lk O i
def b7(i:Nat):G->R D:=λO=>o9 O i
def gC(d:D):G->R D:=λ_=>.ok d
def aB(g:G->R D):G->R D:=λO=>g O>>=λd=>R.guard (d.cy=true) (.ok d)
def gL(g:G->R (List D)):G->R D:=λO=>g O>>=λds=>.ok (.lst ds)
def af(g:D->D->R D)(ga gb:G->R D):G->R D:=λO=>ga O>>=λx=>gb O>>=λy=>g x y
def rX(d:D):R Bool:=match d with
 | .bl b=>.ok b
 | _=>.no
def El{d:D}(h:rX d ≠ .no):∃b,d = .bl b/\rX d = .ok b:=by
 cases d<;>first | exact⟨_,rfl,rfl⟩ | exact absurd rfl h
def xZ(b:Bool):rX (.bl b) = .ok b:=rfl
def gT(g:G->R D):G->R Bool:=λO=>g O>>=rX
def jV(ga gb:G->R Bool):G->R Bool:=λO=>ga O>>=λk=>if k=true then gb O else .ok false
def kn(ga gb:G->R Bool):G->R Bool:=λO=>ga O>>=λk=>if k=true then .ok true else gb O
def jW(ga:G->R Bool):G->R Bool:=λO=>ga O>>=λk=>.ok (!k)
def ko(ga gb:G->R D):G->R D:=λO=>ga O>>=λd=>rX d>>=λk=>if k=true then gb O else .ok (.bl false)
def Em(ga:G->R D):G->R D:=λO=>ga O>>=λd=>rX d>>=λk=>.ok (.bl (!k))
def AW(d:D):R D:=match d with | .int i=>.ok (.int (-i)) | _=>.no
def rY(ga:G->R D):G->R D:=λO=>ga O>>=AW
def ak:G->R (List D):=λ_=>.ok []
def ae(g:G->R D)(gs:G->R (List D)):G->R (List D):=λO=>g O>>=λd=>gs O>>=λds=>.ok (d::ds)
def Lb(ns:List Int):G->R (List D):=λ_=>.ok (ns.map D.int)
def jD(gs:G->R (List D)):G->R D:=λO=>gs O>>=λds=>R.guard (ds.length<=1000) (.ok (.tup ds))
def bN(gs:G->R (List D)):G->R (List D):=λO=>gs O>>=λds=>R.guard (ds.length<=1000/\D.bQ ds=true) (.ok ds)
def x5(gs:G->R (List D)):G->R D:=λO=>gs O>>=λds=>R.guard (ds.length<=1000) (.ok (.lst ds))
def qo(i:Int):Prop:=-18446744073709551616<i/\i<18446744073709551616
instance (i:Int):Decidable (qo i):=by unfold qo;exact inferInstance
def tF(i j:Int):Prop:=qo i∨qo j
instance (i j:Int):Decidable (tF i j):=by unfold tF;exact inferInstance
def vf(j:Int):Prop:=-4611686018427387904<=j/\j<4611686018427387904
instance (j:Int):Decidable (vf j):=by unfold vf;exact inferInstance
def AX{j:Int}(h:-4611686018427387904<=j/\j<4611686018427387904):vf j:=h
def Lc{j:Int}(h:-18446744073709551616<j/\j<18446744073709551616):qo j:=h
def UG{i j:Int}(h:qo i):tF i j:=.inl h
def UH{i j:Int}(h:qo j):tF i j:=.inr h
def cu(x y:D):R D:=match x,y with
 | .int i,.int j=>.ok (.int (i+j))
 | .tup xs,.tup ys=>R.guard (xs.length+ys.length<=1000) (.ok (.tup (xs++ys)))
 | _,_=>.no
def mW(x y:D):R D:=match x,y with
 | .int i,.int j=>.ok (.int (i-j))
 | _,_=>.no
def lz(x y:D):R D:=match x,y with
 | .int i,.int j=>R.guard (tF i j) (.ok (.int (i*j)))
 | .tup xs,.int j=>R.guard (0<=j/\j<1000000/\xs.length*j.toNat<=1000) (.ok (.tup (b0 j.toNat xs).flatten))
 | _,_=>.no
def dw(x y:D):R D:=match x,y with
 | .int i,.int j=>R.guard (0<j/\j<1073741824) (.ok (.int (i/j)))
 | _,_=>.no
def a_(x y:D):R D:=match x,y with
 | .int i,.int j=>R.guard (0<j) (.ok (.int (i%j)))
 | _,_=>.no
def n7(x y:D):R D:=match x,y with
 | .int i,.int j=>R.guard (0<=j/\j<=1000000/\i.natAbs<18446744073709551616) (.ok (.int (i^j.toNat)))
 | _,_=>.no
def n8(x y:D):R D:=match x,y with
 | .int i,.int j=>.ok (.bl (decide (i<j)))
 | _,_=>.no
def qp(x y:D):R D:=match x,y with
 | .int i,.int j=>.ok (.bl (decide (i<=j)))
 | _,_=>.no
def qq(x y:D):R D:=match x,y with
 | .int i,.int j=>.ok (.bl (decide (j<i)))
 | _,_=>.no
def vg(x y:D):R D:=match x,y with
 | .int i,.int j=>.ok (.bl (decide (j<=i)))
 | _,_=>.no
def aR(x:Str):Bool:=x.cps.all (·<0x110000)
mutual
def D.lay:Nat->D->Bool
 | n+1,.tup ds=>D.mX n ds
 | n+1,.lst ds=>D.mX n ds
 | 0,.tup _=>false
 | 0,.lst _=>false
 | _,.kM=>false
 | _,.exc _=>false
 | _,.str x=>aR x
 | _,_=>true
def D.mX:Nat->List D->Bool
 | _,[]=>true
 | n,d::ds=>D.lay n d&&D.mX n ds
end
def D.Eo(n:Nat):∀ds:List D,D.mX n ds=ds.all (D.lay n)
 | []=>by unfold D.mX;rfl
 | d::ds=>by unfold D.mX;rw[D.Eo n ds];rfl
def vh(n:Nat)(i:Int):D.lay n (.int i)=true:=by cases n<;>simp[D.lay]
def UI(n:Nat)(i:Bool):D.lay n (.bl i)=true:=by cases n<;>simp[D.lay]
def kq(n:Nat)(x:Str):D.lay n (.str x)=aR x:=by cases n<;>simp[D.lay]
def x_(n:Nat)(ds:List D):D.lay (n+1) (.tup ds)=ds.all (D.lay n):=by rw[D.lay,D.Eo]
def UJ(n:Nat)(ds:List D):D.lay (n+1) (.lst ds)=ds.all (D.lay n):=by rw[D.lay,D.Eo]
def Ld(n:Nat)(ns:List Int):D.lay (n+1) (.tup (ns.map D.int))=true:=by
 rw[x_,Dq,nV];intro x _;exact vh n x
mutual
def bG:D->D->Bool
 | .cI,y=>(match y with | .cI=>true | _=>false)
 | .bl a,y=>(match y with | .bl b=>a==b | .int j=>(if a then 1 else 0)==j | _=>false)
 | .int i,y=>(match y with | .bl b=>i==(if b then 1 else 0) | .int j=>i==j | _=>false)
 | .str x,y=>(match y with | .str z=>x==z | _=>false)
 | .tup xs,y=>(match y with | .tup ys=>jX xs ys | _=>false)
 | .lst xs,y=>(match y with | .lst ys=>jX xs ys | _=>false)
 | .kM,_=>false
 | .exc _,_=>false
def jX:List D->List D->Bool
 | [],[]=>true
 | x::xs,y::ys=>bG x y&&jX xs ys
 | [],_::_=>false
 | _::_,[]=>false
end
def Ep(i j:Int):bG (.int i) (.int j)=(i==j):=by rw[bG]
def UK(i j:Bool):bG (.bl i) (.bl j)=(i==j):=by rw[bG]
def z5x(i j:Str):bG (.str i) (.str j)=(i==j):=by rw[bG]
def UM(i j:List D):bG (.lst i) (.lst j)=jX i j:=by rw[bG]
def UN(x y:D)(xs ys:List D):jX (x::xs) (y::ys)=(bG x y&&jX xs ys):=by rw[jX]
mutual
def D.pl:D->Bool
 | .bl _=>false
 | .kM=>false
 | .exc _=>false
 | .tup ds=>D.mx ds
 | .lst ds=>D.mx ds
 | _=>true
def D.mx:List D->Bool
 | []=>true
 | d::ds=>d.pl&&D.mx ds
end
def Es:∀ds:List D,D.mx ds=ds.all D.pl
 | []=>by unfold D.mx;rfl
 | d::ds=>by unfold D.mx;rw[Es ds];rfl
def UO(i:Int):D.pl (.int i)=true:=by simp[D.pl]
def UP(ds:List D):D.pl (.tup ds)=ds.all D.pl:=by rw[D.pl,Es]
def UQ(ds:List D):D.pl (.lst ds)=ds.all D.pl:=by rw[D.pl,Es]
def UR(ns:List Int):D.pl (.tup (ns.map D.int))=true:=by
 rw[UP,Dq,nV];intro x _;exact UO x
mutual
def AY:∀(x y:D),x.pl=true->y.pl=true->(bG x y=true↔x=y)
 | .cI,y,_,hy=>by cases y<;>simp_all [bG,D.pl]
 | .bl _,y,hx,hy=>by simp[D.pl] at hx
 | .int i,y,_,hy=>by cases y<;>simp_all [bG,D.pl]
 | .str i,y,_,hy=>by cases y<;>simp_all [bG,D.pl]
 | .kM,y,hx,hy=>by simp[D.pl] at hx
 | .exc _,y,hx,hy=>by simp[D.pl] at hx
 | .tup xs,y,hx,hy=>by
   cases y with
   | tup ys=>rw[bG,Et xs ys (by simpa [D.pl] using hx) (by simpa [D.pl] using hy)];simp
   | _=>simp_all [bG,D.pl]
 | .lst xs,y,hx,hy=>by
   cases y with
   | lst ys=>rw[bG,Et xs ys (by simpa [D.pl] using hx) (by simpa [D.pl] using hy)];simp
   | _=>simp_all [bG,D.pl]
def Et:∀(xs ys:List D),D.mx xs=true->D.mx ys=true->(jX xs ys=true↔xs=ys)
 | [],[],_,_=>by simp[jX]
 | [],y::ys,_,_=>by simp[jX]
 | x::xs,[],_,_=>by simp[jX]
 | x::xs,y::ys,hx,hy=>by
   have AZ:x.pl=true/\D.mx xs=true:=by simpa [D.mx] using hx
   have AO:y.pl=true/\D.mx ys=true:=by simpa [D.mx] using hy
   rw[jX,jP,AY x y AZ.1 AO.1,Et xs ys AZ.2 AO.2];simp
end
def A0{x:D}(h:x.pl=true):bG x x=true:=(AY x x h h).mpr rfl
def US{x y:D}(hx:x.pl=true)(hy:y.pl=true){p:Prop}[Decidable p](h:x=y↔p):bG x y=decide p:=by
 by_cases q:p
 .rw[decide_eq_true q];exact(AY x y hx hy).mpr (h.mpr q)
 .rw[decide_eq_false q]
  cases e:bG x y with
  | false=>rfl
  | true=>exact absurd (h.mp ((AY x y hx hy).mp e)) q
def bI(x y:D):R D:=R.guard (D.lay 40 x=true/\D.lay 40 y=true) (.ok (.bl (bG x y)))
def iM(x y:D):R D:=R.guard (D.lay 40 x=true/\D.lay 40 y=true) (.ok (.bl (!bG x y)))
def jC(n:Nat)(i:Int):Option Nat:=if 0<=i then (if i<n then some i.toNat else none) else if -(n:Int)<=i then some (i+n).toNat else none
def cV{α:Type}(xs:List α)(i:Int):Option α:=(jC xs.length i).bind λj=>xs[j]?
def vi{α:Type}{ds:List α}(i:Nat):cV ds (i:Int)=ds[i]?:=by
 unfold cV jC
 rw[if_pos (by lia)]
 by_cases h:(i:Int)<ds.length
 .rw[if_pos h];simp
 .rw[if_neg h]
  have:ds.length<=i:=by lia
  rw[kG this];rfl
def qr{α:Type}{ds:List α}{i:Int}(h:0<=i):cV ds i=ds[i.toNat]?:=by
 obtain⟨n,rfl⟩:∃n:Nat,i=(n:Int):=⟨i.toNat,by lia⟩
 rw[vi];rfl
def UT{α:Type}{ds:List α}{i:Int}(h:i<0)(h2:-(ds.length:Int)<=i):cV ds i=ds[(i+ds.length).toNat]?:=by
 unfold cV jC
 rw[if_neg (by lia),if_pos h2];rfl
def vj{α:Type}(a:α)(ds:List α):cV (a::ds) 0=some a:=vi 0
def Eu{α:Type}(a b:α)(ds:List α):cV (a::b::ds) 1=some b:=vi 1
def Le{α:Type}(a b c:α)(ds:List α):cV (a::b::c::ds) 2=some c:=vi 2
def UU{α:Type}(a b c d:α)(ds:List α):cV (a::b::c::d::ds) 3=some d:=vi 3
def aI(x y:D):R D:=match x,y with
 | .tup ds,.int i=>(match cV ds i with | some d=>.ok d | none=>.no)
 | .lst ds,.int i=>(match cV ds i with | some d=>.ok d | none=>.no)
 | _,_=>.no
def bD(n d:Nat):Option Int->Nat
 | none=>d
 | some v=>if v<0 then (v+(n:Int)).toNat else min v.toNat n
def Lf(n d:Nat):bD n d none=d:=rfl
def vn(n d k:Nat):bD n d (some (k:Int))=min k n:=by
 show(if (k:Int)<0 then ((k:Int)+(n:Int)).toNat else min (k:Int).toNat n)=min k n
 rw[if_neg (by lia),iq]
def eD{α:Type}(xs:List α)(lo hi:Option Int):List α:=(xs.drop (bD xs.length 0 lo)).take (bD xs.length xs.length hi-bD xs.length 0 lo)
def bU:G->R (Option Int):=λ_=>.ok none
def o_(d:D):R (Option Int):=match d with | .int i=>.ok (some i) | _=>.no
def bJ(g:G->R D):G->R (Option Int):=λO=>g O>>=o_
def A1(d:D)(lo hi:Option Int):R D:=match d with
 | .tup xs=>.ok (.tup (eD xs lo hi))
 | .lst xs=>.ok (.lst (eD xs lo hi))
 | _=>.no
def eY(ga:G->R D)(lo hi:G->R (Option Int)):G->R D:=λO=>ga O>>=λd=>lo O>>=λl=>hi O>>=λh=>A1 d l h
def A6(d:D)(lo hi:Option Int):R (List D):=match d with
 | .lst xs=>R.guard (D.bQ (eD xs lo hi)=true) (.ok (eD xs lo hi))
 | _=>.no
def jE(ga:G->R D)(lo hi:G->R (Option Int)):G->R (List D):=λO=>ga O>>=λd=>lo O>>=λl=>hi O>>=λh=>A6 d l h
def n9{α β:Type}(f:α->β)(xs:List α)(lo hi:Option Int):eD (xs.map f) lo hi=(eD xs lo hi).map f:=by
 unfold eD;rw[aZ,Dr,Ds]
def rZ{α:Type}(xs:List α)(k:Nat):eD xs (some (k:Int)) none=xs.drop k:=by
 unfold eD
 rw[Lf,vn]
 by_cases h:k<=xs.length
 .rw[Dt h,xn (by rw[gR];lia)]
 .rw[Q8 (by lia),JJ,List.drop_of_length_le (by lia)];simp
def r0{α:Type}(xs:List α)(k:Nat):eD xs none (some (k:Int))=xs.take k:=by
 unfold eD
 rw[Lf,vn,Q9,Du]
 by_cases h:k<=xs.length
 .rw[Dt h]
 .rw[Q8 (by lia),Dv,xn (by lia)]
def UW{α:Type}(xs:List α)(k m:Nat)(h:k<=xs.length):eD xs (some (k:Int)) (some (m:Int))=(xs.drop k).take (m-k):=by
 unfold eD
 rw[vn,vn,Dt h]
 by_cases h2:m<=xs.length
 .rw[Dt h2]
 .rw[Q8 (by lia),xn (by rw[gR];lia),xn (by rw[gR];lia)]
inductive Cl where
 | mV | ql | dE | tooLong | qm | aQ | UX | A7
def ya(c:Er)(k:Cl):Bool:=match c,k with
 | _,.UX=>true
 | _,.A7=>true
 | .mV,.mV=>true
 | .ql,.ql=>true
 | .dE,.dE=>true
 | .tooLong,.tooLong=>true
 | .qm,.qm=>true
 | .aQ,.aQ=>true
 | _,_=>false
def Lg(ks:List Cl)(d:D):R D:=match d with
 | .exc c=>.ok (.bl (ks.any (ya c)))
 | _=>.no
def qt(i:Nat)(ks:List Cl):G->R D:=λO=>lk O i>>=Lg ks
def az(g:List D->R D)(gs:G->R (List D)):G->R D:=λO=>gs O>>=g
def bX(ds:List D):R D:=match ds with
 | [.tup xs]=>.ok (.int xs.length)
 | [.lst xs]=>.ok (.int xs.length)
 | _=>.no
def ku(ds:List D):R D:=match ds with
 | [.tup xs]=>.ok (.tup xs)
 | [.lst xs]=>.ok (.tup xs)
 | _=>.no
def yb(ds:List D):R D:=match ds with
 | [.int i,.int j]=>.ok (.int (if j<i then j else i))
 | _=>.no
def pa:List D->Option (List Int)
 | []=>some []
 | .int i::ds=>(pa ds).map (i::·)
 | _::_=>none
def Lh:∀{ds:List D} {ns:List Int},pa ds=some ns->ds=ns.map D.int
 | [],ns,h=>by unfold pa at h;cases h;rfl
 | d::ds,ns,h=>by
   cases d with
   | int i =>
     unfold pa at h
     cases q:pa ds with
     | none=>rw[q] at h;cases h
     | some ms=>rw[q] at h;cases h;rw[Lh q];rfl
   | _=>unfold pa at h;cases h
def Ew:∀ns:List Int,pa (ns.map D.int)=some ns
 | []=>rfl
 | n::ns=>by show(pa (ns.map D.int)).map (n::·)=_;rw[Ew ns];rfl
def mY:List D->Option (List Bool)
 | []=>some []
 | .bl i::ds=>(mY ds).map (i::·)
 | _::_=>none
def Ey:∀{ds:List D} {ns:List Bool},mY ds=some ns->ds=ns.map D.bl
 | [],ns,h=>by unfold mY at h;cases h;rfl
 | d::ds,ns,h=>by
   cases d with
   | bl i =>
     unfold mY at h
     cases q:mY ds with
     | none=>rw[q] at h;cases h
     | some ms=>rw[q] at h;cases h;rw[Ey q];rfl
   | _=>unfold mY at h;cases h
def A8:∀ns:List Bool,mY (ns.map D.bl)=some ns
 | []=>rfl
 | n::ns=>by show(mY (ns.map D.bl)).map (n::·)=_;rw[A8 ns];rfl
def qu(ds:List D):R D:=match ds with
 | [.lst xs]=>(match mY xs with | some bs=>.ok (.bl (bs.any (λb=>b))) | none=>.no)
 | _=>.no
def UY(ns:List Bool):qu [.lst (ns.map D.bl)] = .ok (.bl (ns.any λb=>b)):=by simp only[qu,A8]
def pb(ds:List D):R D:=match ds with
 | [.lst xs]=>(match mY xs with | some bs=>.ok (.bl (bs.all (λb=>b))) | none=>.no)
 | _=>.no
def yc(ns:List Bool):pb [.lst (ns.map D.bl)] = .ok (.bl (ns.all λb=>b)):=by simp only[pb,A8]
def jY(φ:List D->R D):List D->R D:=λds=>match φ ds with
 | .ok d=>.ok d
 | _=>.no
def Li{φ:List D->R D}{ds:List D}(h:jY φ ds ≠ .no):∃d,φ ds = .ok d/\jY φ ds = .ok d:=by
 unfold jY at h ⊢
 cases q:φ ds with
 | ok d=>exact⟨d,rfl,rfl⟩
 | no=>rw[q] at h;exact absurd rfl h
 | er c=>rw[q] at h;exact absurd rfl h
def UZ{φ:List D->R D}{ds:List D}{d:D}(h:φ ds = .ok d):jY φ ds = .ok d:=by unfold jY;rw[h]
def kv(φ:List D->R (List D))(gs:G->R (List D)):G->R (List D):=λO=>gs O>>=λds=>φ ds>>=λes=>R.guard (D.bQ es=true) (.ok es)
def Ez(d:D):R (List D):=match d with
 | .tup ds=>R.guard (D.bQ ds=true) (.ok ds)
 | .lst ds=>R.guard (D.bQ ds=true) (.ok ds)
 | _=>.no
def ji(g:G->R D):G->R (List D):=λO=>g O>>=Ez
def f_(ga gb:G->R (List D)):G->R (List D):=λO=>ga O>>=λx=>gb O>>=λy=>R.guard (x.length+y.length<=1000) (.ok (x++y))
def Lj(x y:D):R (List D):=match x,y with
 | .lst xs,.lst ys=>R.guard (xs.length+ys.length<=1000/\D.bQ (xs++ys)=true) (.ok (xs++ys))
 | _,_=>.no
def gf(ga gb:G->R D):G->R (List D):=λO=>ga O>>=λx=>gb O>>=λy=>Lj x y
def D.ty:D->String
 | .cI=>"NoneType"
 | .bl _=>"bool"
 | .int _=>"int"
 | .str _=>"str"
 | .tup _=>"tuple"
 | .lst _=>"list"
 | .kM=>"dict"
 | .exc _=>""
def D.my:D->Bool
 | .exc _=>false
 | _=>true
def A9(f:String->Bool)(d:D):R D:=match d with
 | .exc _=>.no
 | d=>.ok (.bl (f d.ty))
def A_(f:String->Bool)(g:G->R D):G->R D:=λO=>g O>>=A9 f
def U0{f:String->Bool}{d:D}(h:A9 f d ≠ .no):d.my=true/\A9 f d = .ok (.bl (f d.ty)):=by
 cases d<;>first | exact⟨rfl,rfl⟩ | exact absurd rfl h
def Ba(t:String):Bool:=t=="int"||t=="bool"
def Bb(t:String):Bool:=t=="bool"
def vo(d:D):R (List D):=match d with
 | .tup ds=>.ok ds
 | .lst ds=>.ok ds
 | _=>.no
def r8(g:G->R D):G->R (List D):=λO=>g O>>=vo
def jZ(g:G->R D):G->R (List D):=λO=>g O>>=λd=>vo d>>=λds=>R.guard (D.bQ ds=true) (.ok ds)
def fL(lo:Int)(n:Nat):List D:=(g6 n).map λ(i:Nat)=>D.int (lo+(i:Int))
def qv(lo:Int)(n:Nat):(fL lo n).length=n:=by unfold fL;simp
def EA(lo:Int)(n i:Nat)(h:i<n):(fL lo n)[i]? = some (.int (lo+(i:Int))):=by unfold fL;simp[h]
def U1(lo:Int):fL lo 0=[]:=rfl
def mz(lo:Int)(step:Int)(n:Nat):List D:=(g6 n).map λ(i:Nat)=>D.int (lo+step*(i:Int))
def lD(lo hi step:Int):Nat:=((hi-lo+step-1)/step).toNat
def lE(g:G->R D):G->R (List D):=λO=>g O>>=λd=>match d with
 | .int j=>R.guard (vf j) (.ok (fL 0 j.toNat))
 | _=>.no
def yd(ga gb:G->R D):G->R (List D):=λO=>ga O>>=λd=>gb O>>=λd'=>match d,d' with
 | .int i,.int j=>R.guard (vf i/\vf j) (.ok (fL i (j-i).toNat))
 | _,_=>.no
def EB(ga gb gc:G->R D):G->R (List D):=λO=>ga O>>=λd=>gb O>>=λd'=>gc O>>=λU2=>match d,d',U2 with
 | .int i,.int j,.int k=>R.guard ((-1073741824<=i/\i<1073741824)/\(-1073741824<=j/\j<1073741824)/\0<k/\k<1073741824) (.ok (mz i k (lD i j k)))
 | _,_,_=>.no
def fg(f:D->R (Option D)):List D->List D->R (List D)
 | [],acc=>.ok acc
 | d::r,acc=>match f d with
   | .ok (some e)=>fg f r (acc++[e])
   | .ok none=>fg f r acc
   | _=>.no
def U3(f:D->R (Option D))(acc:List D):fg f [] acc = .ok acc:=rfl
def Lk(f:D->R (Option D))(d:D)(r acc:List D):fg f (d::r) acc=match f d with
 | .ok (some e)=>fg f r (acc++[e])
 | .ok none=>fg f r acc
 | _=>.no:=rfl
def Bc{f:D->R (Option D)}:∀{ds acc:List D},fg f ds acc ≠ .no->∃es,fg f ds acc = .ok es
 | [],acc,_=>⟨acc,rfl⟩
 | d::r,acc,h=>by
   unfold fg at h ⊢
   cases q:f d with
   | no=>rw[q] at h;exact absurd rfl h
   | er c=>rw[q] at h;exact absurd rfl h
   | ok o =>
     rw[q] at h
     cases o with
     | none=>exact Bc h
     | some e=>exact Bc h
def EC{f:D->R (Option D)}{h:D->Option D}:∀(ds acc:List D),(∀d∈ds,f d = .ok (h d))->fg f ds acc = .ok (acc++ds.filterMap h)
 | [],acc,_=>by unfold fg;simp
 | d::ds,acc,q=>by
   have q1:=q d fI
   unfold fg
   rw[q1]
   cases e:h d with
   | none =>
     simp only
     rw[EC ds acc λd' hd=>q d' (eU _ hd),rn,e]
   | some z =>
     simp only
     rw[EC ds _ λd' hd=>q d' (eU _ hd),rn,e]
     simp
def qw{α:Type}{f:D->R (Option D)}{k h:α->D}{l:List α}(q:∀x∈l,f (k x) = .ok (some (h x))):fg f (l.map k) [] = .ok (l.map h):=by
 suffices H:∀(l:List α) (acc:List D),(∀x∈l,f (k x) = .ok (some (h x)))->fg f (l.map k) acc = .ok (acc++l.map h) by
  have:=H l [] q;simpa using this
 intro l
 induction l with
 | nil=>intro acc _;simp[fg]
 | cons x l ih =>
   intro acc q
   rw[gz,Lk,q x fI]
   simp only
   rw[ih _ λy hy=>q y (eU _ hy)]
   simp
def Ll{α:Type}{f:D->R (Option D)}{k:α->D}{h:α->Option D}{l:List α}(q:∀x∈l,f (k x) = .ok (h x)):fg f (l.map k) [] = .ok (l.filterMap h):=by
 suffices H:∀(l:List α) (acc:List D),(∀x∈l,f (k x) = .ok (h x))->fg f (l.map k) acc = .ok (acc++l.filterMap h) by
  have:=H l [] q;simpa using this
 intro l
 induction l with
 | nil=>intro acc _;simp[fg]
 | cons x l ih =>
   intro acc q
   rw[gz,Lk,q x fI]
   cases e:h x with
   | none=>simp only;rw[ih _ λy hy=>q y (eU _ hy)];simp[e]
   | some z=>simp only;rw[ih _ λy hy=>q y (eU _ hy)];simp[e]
def U4{f:D->R (Option D)}{lo:Int}{n:Nat}{h:Nat->D}(q:∀i,i<n->f (.int (lo+(i:Int))) = .ok (some (h i))):fg f (fL lo n) [] = .ok ((g6 n).map h) :=
 qw (k:=λ(i:Nat)=>D.int (lo+(i:Int))) λi hi=>q i (List.mem_range.mp hi)
def fU(ge:G->R D):D->G->R (Option D):=λd O=>ge (.ro d::O)>>=λe=>.ok (some e)
def j0(gc:G->R Bool)(ge:G->R D):D->G->R (Option D):=λd O=>gc (.ro d::O)>>=λk=>if k=true then ge (.ro d::O)>>=λe=>.ok (some e) else .ok none
def fh(gi:G->R (List D))(f:D->G->R (Option D)):G->R (List D):=λO=>gi O>>=λitems=>R.guard (items.length<=100000) (fg (λd=>f d O) items [])
inductive Fl where
 | nx (O:G) | rt (d:D) | hG (ds:List D) | bk (O:G) | ct (O:G) | ex (c:Er) (O:G)
def lift{α:Type}(r:R α)(O:G)(k:α->R Fl):R Fl:=match r with
 | .no=>.no
 | .er c=>.ok (.ex c O)
 | .ok a=>k a
def kN{α:Type}{r:R α}{O:G}{k:α->R Fl}(h:lift r O k ≠ .no):r ≠ .no:=λe=>h (by rw[e];rfl)
def kO{α:Type}{r:R α}{O:G}{k:α->R Fl}{a:α}(e:r = .ok a):lift r O k=k a:=by rw[e];rfl
def ED{α:Type}{r:R α}{O:G}{k:α->R Fl}{a:α}(h:lift r O k ≠ .no)(e:r = .ok a):k a ≠ .no:=by rw[e] at h;exact h
def n_{α:Type}(a:α)(O:G)(k:α->R Fl):lift (.ok a) O k=k a:=rfl
def U5{α:Type}(c:Er)(O:G)(k:α->R Fl):lift (.er c:R α) O k = .ok (.ex c O):=rfl
def gG(i:Nat)(O:G):G:=match O[i]? with
 | some (.own ds)=>O.set i (.ro (.lst ds))
 | _=>O
def b8:G->R Fl:=λO=>.ok (.nx O)
def aC(t u:G->R Fl):G->R Fl:=λO=>t O>>=λr=>match r with
 | .nx O'=>u O'
 | r=>.ok r
def ye(g:G->R (List D)):G->R Fl:=λO=>lift (g O) O λds=>.ok (.hG ds)
def vp(i:Nat):G->R Fl:=λO=>match O[i]? with
 | some (.own ds)=>.ok (.hG ds)
 | _=>.no
def qx(g:G->R D):G->R Fl:=λO=>lift (g O) O λ_=>.ok (.nx O)
def gj(c:Er):G->R Fl:=λO=>.ok (.ex c O)
def yf(i:Nat)(t u:G->R Fl):G->R Fl:=λO=>t O>>=λr=>match r with
 | .ex c O'=>u (O'.set i (.ro (.exc c)))>>=λf=>(match f with
   | .nx Γ2=>.ok (.nx (Γ2.set i .no))
   | _=>.no)
 | r=>.ok r
def bY(g:G->R D):G->R Fl:=λO=>lift (g O) O λd=>.ok (.rt d)
def bL(gc:G->R Bool)(t u:G->R Fl):G->R Fl:=λO=>lift (gc O) O λk=>if k=true then t O else u O
def bF(i:Nat)(g:G->R D):G->R Fl:=λO=>lift (g O) O λd=>.ok (.nx (O.set i (.ro d)))
def U6:En->En
 | .own ds=>.ro (.lst ds)
 | e=>e
def c8(i:Nat)(g:G->R (List D)):G->R Fl:=λO=>lift (g O) O λds=>.ok (.nx (O.set i (.own ds)))
def mZ(i:Nat)(g:G->R D):G->R Fl:=λO=>match O[i]? with
 | some (.own ds)=>lift (g O) O λd=>R.guard (ds.length<=100000) (.ok (.nx (O.set i (.own (ds++[d])))))
 | _=>.no
def qy(i:Nat)(gi g:G->R D):G->R Fl:=λO=>match O[i]? with
 | some (.own ds)=>lift (g O) O λd=>lift (gi O) O λk=>(match k with
   | .int j=>(match jC ds.length j with | some j'=>.ok (.nx (O.set i (.own (ds.set j' d)))) | none=>.no)
   | _=>.no)
 | _=>.no
def e8(gb:G->R Fl)(i:Nat):List D->G->R Fl
 | [],O=>.ok (.nx O)
 | d::r,O=>match gb (O.set i (.ro d)) with
   | .ok (.nx O')=>e8 gb i r O'
   | .ok (.ct O')=>e8 gb i r O'
   | .ok (.bk O')=>.ok (.nx O')
   | .ok (.rt d)=>.ok (.rt d)
   | .ok (.hG d)=>.ok (.hG d)
   | .ok (.ex c O')=>.ok (.ex c O')
   | _=>.no
def lG(i:Nat)(gi:G->R (List D))(gb:G->R Fl):G->R Fl:=λO=>lift (gi O) O λds=>e8 gb i ds O
def e_(gc:G->R Bool)(gb:G->R Fl):Nat->G->R Fl
 | 0,_=>.no
 | n+1,O=>lift (gc O) O λk=>if k=true then (match gb O with
    | .ok (.nx O')=>e_ gc gb n O'
    | .ok (.ct O')=>e_ gc gb n O'
    | .ok (.bk O')=>.ok (.nx O')
    | .ok (.rt d)=>.ok (.rt d)
    | .ok (.hG d)=>.ok (.hG d)
    | .ok (.ex c O')=>.ok (.ex c O')
    | _=>.no) else .ok (.nx O)
def U7(gb:G->R Fl)(i:Nat)(O:G):e8 gb i [] O = .ok (.nx O):=rfl
def EF(gb:G->R Fl)(i:Nat)(d:D)(ds:List D)(O:G):e8 gb i (d::ds) O=match gb (O.set i (.ro d)) with
 | .ok (.nx O')=>e8 gb i ds O'
 | .ok (.ct O')=>e8 gb i ds O'
 | .ok (.bk O')=>.ok (.nx O')
 | .ok (.rt d)=>.ok (.rt d)
 | .ok (.hG d)=>.ok (.hG d)
 | .ok (.ex c O')=>.ok (.ex c O')
 | _=>.no:=rfl
def Bd{gb:G->R Fl}{i:Nat}(I:Nat->G->Prop):∀(ds:List D) (k:Nat) (O:G),I k O ->
 (∀(j:Nat) (d:D) (O:G),ds[j]? = some d->I (k+j) O->∃O',(gb (O.set i (.ro d)) = .ok (.nx O')∨gb (O.set i (.ro d)) = .ok (.ct O'))/\I (k+j+1) O') ->
 ∃O',e8 gb i ds O = .ok (.nx O')/\I (k+ds.length) O'
 | [],k,O,h,_=>⟨O,rfl,h⟩
 | d::ds,k,O,h,q=>by
   obtain⟨dh,e1,h1⟩:=q 0 d O rfl h
   obtain⟨Γ2,e2,h2⟩:=Bd I ds (k+1) dh h1 λj d' O' hd hI=>by
    have:=q (j+1) d' O' (by simpa using hd) (by rw[show k+(j+1)=k+1+j by lia];exact hI)
    rw[show k+(j+1)=k+1+j by lia] at this
    exact this
   refine⟨Γ2,?_,by rw[a3,show k+(ds.length+1)=k+1+ds.length by lia];exact h2⟩
   rw[EF]
   rcases e1 with e1 | e1<;>rw[e1]<;>exact e2
def U8{gb:G->R Fl}{i:Nat}(S:Nat->G)(ds:List D)(q:∀(j:Nat) (d:D),ds[j]? = some d->gb ((S j).set i (.ro d)) = .ok (.nx (S (j+1)))):e8 gb i ds (S 0) = .ok (.nx (S ds.length)):=by
 obtain⟨O',e,h⟩:=Bd (gb:=gb) (i:=i) (λk O=>O=S k) ds 0 (S 0) rfl λj d O hd hI=>by
  rw[p9] at hI ⊢
  subst hI
  exact⟨_,.inl (q j d hd),rfl⟩
 rw[p9] at h
 rw[e,h]
def U9{gb:G->R Fl}{i:Nat}{O:G}(S:Nat->G){ds:List D}(h0:O=S 0)(q:∀(j:Nat) (d:D),ds[j]? = some d->gb ((S j).set i (.ro d)) = .ok (.nx (S (j+1)))):e8 gb i ds O = .ok (.nx (S ds.length)):=by
 rw[h0];exact U8 S ds q
def U_{gb:G->R Fl}{i:Nat}{O:G}(S:Nat->G){lo:Int}{n:Nat}(h0:O=S 0)(q:∀(j:Nat),j<n->gb ((S j).set i (.ro (.int (lo+(j:Int))))) = .ok (.nx (S (j+1)))):e8 gb i (fL lo n) O = .ok (.nx (S n)):=by
 rw[U9 S h0,qv]
 intro j d hd
 have hj:j<n:=by
  have:=(List.getElem?_eq_some_iff.mp hd).1
  rw[qv] at this;exact this
 rw[EA lo _ _ hj] at hd
 cases hd
 exact q j hj
def pe(gc:G->R Bool)(gb:G->R Fl)(n:Nat)(O:G):e_ gc gb (n+1) O=lift (gc O) O λk=>if k=true then (match gb O with
 | .ok (.nx O')=>e_ gc gb n O'
 | .ok (.ct O')=>e_ gc gb n O'
 | .ok (.bk O')=>.ok (.nx O')
 | .ok (.rt d)=>.ok (.rt d)
 | .ok (.hG d)=>.ok (.hG d)
 | .ok (.ex c O')=>.ok (.ex c O')
 | _=>.no) else .ok (.nx O):=rfl
def EG{gc:G->R Bool}{gb:G->R Fl}(I:Nat->G->Prop)(Q:R Fl->Prop)(q:∀m O,I m O->(gc O = .ok false/\Q (.ok (.nx O)))∨(gc O = .ok true /\
 ((∃O' m',m'<m/\(gb O = .ok (.nx O')∨gb O = .ok (.ct O'))/\I m' O')∨(∃O',gb O = .ok (.bk O')/\Q (.ok (.nx O')))∨(∃d,gb O = .ok (.rt d)/\Q (.ok (.rt d)))∨(∃d,gb O = .ok (.hG d)/\Q (.ok (.hG d)))∨(∃c O',gb O = .ok (.ex c O')/\Q (.ok (.ex c O')))))) :
 ∀(n m:Nat) (O:G),m<n->I m O->Q (e_ gc gb n O)
 | 0,m,O,h,_=>absurd h (Ac _)
 | n+1,m,O,h,hI=>by
   rw[pe]
   rcases q m O hI with ⟨e,hq⟩ | ⟨e,h2⟩
   .rw[e,n_,if_neg uM];exact hq
   .rw[e,n_,if_pos rfl]
    rcases h2 with ⟨O',m',hm,e',h'⟩ | ⟨O',e',h'⟩ | ⟨d,e',h'⟩ | ⟨d,e',h'⟩ | ⟨c,O',e',h'⟩
    .rcases e' with e' | e'<;>rw[e']<;>exact EG I Q q n m' O' (by lia) h'
    .rw[e'];exact h'
    .rw[e'];exact h'
    .rw[e'];exact h'
    .rw[e'];exact h'
def eE(n:Nat)(ds:List D):G:=ds.map En.ro++b0 (n-ds.length) En.no
def fin(r:R Fl):R D:=match r with
 | .ok (.rt d)=>.ok d
 | .ok (.nx _)=>.ok .cI
 | .ok (.ex c _)=>.er c
 | _=>.no
def Be(r:R Fl):R (List D):=match r with
 | .ok (.hG d)=>.ok d
 | .ok (.ex c _)=>.er c
 | _=>.no
def cL(p n:Nat)(g:G->R Fl):List D->R D:=λds=>if ds.length=p then fin (g (eE n ds)) else .no
def Bf{p n:Nat}{g:G->R Fl}{ds:List D}(h:cL p n g ds ≠ .no):ds.length=p:=by
 unfold cL at h
 by_cases q:ds.length=p
 .exact q
 .rw[if_neg q] at h;exact absurd rfl h
def Bg{p n:Nat}{g:G->R Fl}{ds:List D}(h:ds.length=p):cL p n g ds=fin (g (eE n ds)):=if_pos h
def oa(p n:Nat)(g:G->R Fl):List D->R (List D):=λds=>if ds.length=p then Be (g (eE n ds)) else .no
def Lm{p n:Nat}{g:G->R Fl}{ds:List D}(h:oa p n g ds ≠ .no):ds.length=p:=by
 unfold oa at h
 by_cases q:ds.length=p
 .exact q
 .rw[if_neg q] at h;exact absurd rfl h
def EH{p n:Nat}{g:G->R Fl}{ds:List D}(h:ds.length=p):oa p n g ds=Be (g (eE n ds)):=if_pos h
def Va:((0:Nat):Int)=0:=rfl
def Vb:((1:Nat):Int)=1:=rfl
def Vc:((2:Nat):Int)=2:=rfl
def Vd:((3:Nat):Int)=3:=rfl
def Ve:((4:Nat):Int)=4:=rfl
end
def lH:List Int->Int
 | []=>0
 | [a]=>a
 | a::b::r=>if lH (b::r)>a then lH (b::r) else a
def Ln:∀{ns:List Int},ns≠[]->lH ns∈ns
 | [a],_=>by simp[lH]
 | a::b::r,_=>by
   have ih:=Ln (ns:=b::r) (by simp)
   unfold lH
   split
   .exact eU _ ih
   .exact fI
def Lp:∀{ns:List Int} {a:Int},a∈ns->a<=lH ns
 | [b],a,h=>by simp only[JK] at h;subst h;exact Int.le_refl _
 | b::c::r,a,h=>by
   unfold lH
   rcases List.mem_cons.mp h with rfl | h
   .split<;>lia
   .have:=Lp h
    split<;>lia
def Lq{ns:List Int}{m:Int}(h:m∈ns)(g:∀a∈ns,a<=m):m=lH ns:=Int.le_antisymm (Lp h) (g _ (Ln λz=>by rw[z] at h;cases h))
def vq(ds:List D):R D:=match ds with
 | [.lst xs]=>(match pa xs with | some (n::ns)=>.ok (.int (lH (n::ns))) | _=>.no)
 | [.int i,.int j]=>.ok (.int (if j>i then j else i))
 | _=>.no
def y8q(n:Int)(ns:List Int):vq [.lst (D.int n::ns.map D.int)] = .ok (.int (lH (n::ns))):=by
 have h:=Ew (n::ns)
 rw[gz] at h
 simp only[vq,h]
def Lr:Nat:=10^1200
def Ls(i j:Int):Prop:=i.natAbs<Lr/\j.natAbs<Lr
instance (i j:Int):Decidable (Ls i j):=by unfold Ls;exact inferInstance
def D.isNon:D->Bool
 | .cI=>true
 | _=>false
noncomputable def gRep(ga:G->R (List D))(gb:G->R D):G->R (List D):=λO=>ga O>>=λxs=>gb O>>=λd=>match d with
 | .int k=>R.guard (0<=k/\k<1000000/\xs.length*k.toNat<=1000) (.ok (b0 k.toNat xs).flatten)
 | _=>.no
noncomputable def z5n(gs:G->R (List D)):G->R (List D):=λO=>gs O>>=λds=>R.guard (ds.length<=1000) (.ok ds)
def z9o(ga:G->R D):G->R Bool:=λO=>ga O>>=λd=>match d with
 | .lst ds=>.ok (!ds.isEmpty)
 | _=>.no
def hJ(f:D->R (Option D)):List D->List D->R (List D)
 | [],acc=>.ok acc
 | d::ds,acc=>match f d with
   | .no=>.no
   | .er c=>.er c
   | .ok none=>hJ f ds acc
   | .ok (some e)=>hJ f ds (acc++[e])
noncomputable def y1u(gi:G->R (List D))(f:D->G->R (Option D)):G->R (List D):=λO=>gi O>>=λitems=>R.guard (items.length<=100000) (hJ (λd=>f d O) items [])
noncomputable def dIn(x c:D):R D:=match c with
 | .lst ys=>R.guard (D.lay 40 x=true/\D.lay 40 (.lst ys)=true) (.ok (.bl (ys.any λy=>bG y x)))
 | .tup ys=>R.guard (D.lay 40 x=true/\D.lay 40 (.tup ys)=true) (.ok (.bl (ys.any λy=>bG y x)))
 | _=>.no
end L3
namespace L3
section
variable {O O':G}{i:Nat}{g gk:G->R D}{gs:G->R (List D)}{gc:G->R Bool}{t u e gb:G->R Fl}{r:R Fl}{d k:D}{ds:List D}{c:Er}
def mB(h:t O = .ok (.nx O'))(h2:u O'=r):aC t u O=r:=by unfold aC;rw[h];exact h2
def vr(h:t O = .ok (.rt d)):aC t u O = .ok (.rt d):=by unfold aC;rw[h];rfl
def gJ(h:t O = .ok (.ex c O')):aC t u O = .ok (.ex c O'):=by unfold aC;rw[h];rfl
def r9(h:g O = .ok d):bF i g O = .ok (.nx (O.set i (.ro d))):=by unfold bF;rw[h];rfl
def m_(h:gs O = .ok ds):c8 i gs O = .ok (.nx (O.set i (.own ds))):=by unfold c8;rw[h];rfl
def Vf(ho:O[i]? = some (.own ds))(h:g O = .ok d)(hl:ds.length<=100000):mZ i g O = .ok (.nx (O.set i (.own (ds++[d])))):=by
 unfold mZ;rw[ho];simp only[h,n_,a4 hl]
def Lu{j:Int}{n:Nat}(ho:O[i]? = some (.own ds))(h:g O = .ok d)(hk:gk O = .ok (.int j))(hn:jC ds.length j=some n):qy i gk g O = .ok (.nx (O.set i (.own (ds.set n d)))):=by
 unfold qy;rw[ho];simp only[h,hk,n_,hn]
def fi(hc:gc O = .ok true)(h:t O=r):bL gc t u O=r:=by unfold bL;rw[hc];exact h
def EI(hc:gc O = .ok false)(h:u O=r):bL gc t u O=r:=by unfold bL;rw[hc];exact h
def r_(hc:gc O = .ok false):bL gc t b8 O = .ok (.nx O):=EI hc rfl
def EJ(hi:gs O = .ok ds)(h:e8 gb i ds O=r):lG i gs gb O=r:=by unfold lG;rw[hi];exact h
def dF(h:g O = .ok d):bY g O = .ok (.rt d):=by unfold bY;rw[h];rfl
def Vg(h:gs O = .ok ds):ye gs O = .ok (.hG ds):=by unfold ye;rw[h];rfl
def Vh(h:O[i]? = some (.own ds)):vp i O = .ok (.hG ds):=by unfold vp;rw[h]
def Lv(h:g O = .ok d):qx g O = .ok (.nx O):=by unfold qx;rw[h];rfl
def c9(hg:g O = .ok d)(h:u (O.set i (.ro d))=r):aC (bF i g) u O=r:=mB (r9 hg) h
def gp(hg:gs O = .ok ds)(h:u (O.set i (.own ds))=r):aC (c8 i gs) u O=r:=mB (m_ hg) h
def dz(hc:gc O = .ok false)(h:u O=r):aC (bL gc t b8) u O=r:=mB (r_ hc) h
def yg(hc:gc O = .ok true)(ht:t O = .ok (.nx O'))(h:u O'=r):aC (bL gc t e) u O=r:=mB (fi hc ht) h
def Lw(hi:gs O = .ok ds)(hf:e8 gb i ds O = .ok (.nx O'))(h:u O'=r):aC (lG i gs gb) u O=r:=mB (EJ hi hf) h
def dn{p n:Nat}(hl:ds.length=p)(h:t (eE n ds) = .ok (.rt d)):cL p n t ds = .ok d:=by rw[Bg hl,h];rfl
def fM{p n:Nat}(hl:ds.length=p)(h:t (eE n ds) = .ok (.ex c O)):cL p n t ds = .er c:=by rw[Bg hl,h];rfl
def Lx{p n:Nat}{es:List D}(hl:ds.length=p)(h:t (eE n ds) = .ok (.hG es)):oa p n t ds = .ok es:=by rw[EH hl,h];rfl
def Ends(r:R Fl)(I:G->Prop):Prop:=∃O',(r = .ok (.nx O')∨r = .ok (.ct O'))/\I O'
def Ends.nx{I:G->Prop}{r:R Fl}(h:r = .ok (.nx O))(hI:I O):Ends r I:=⟨O,.inl h,hI⟩
def Ly(I:Nat->G->Prop)(hi:gs O = .ok ds)(h0:I 0 O)(hq:∀(j:Nat) (d:D) (O:G),ds[j]? = some d->I j O->Ends (gb (O.set i (.ro d))) (I (j+1)))(h:∀O',I ds.length O'->u O'=r):aC (lG i gs gb) u O=r:=by
 obtain⟨O',e,h'⟩:=Bd I ds 0 O h0 λj d O hd hI=>by rw[p9] at hI ⊢;exact hq j d O hd hI
 rw[p9] at h'
 exact Lw hi e (h O' h')
end
def cg(P a b:Int):Prop:=a%P=b%P
def EL{w P:Int}(h:0<P):0<=w%P:=mM _ (by lia)
def EM{w P:Int}(h:0<P):w%P<P:=mO _ h
end L3
namespace L3
open PySem
noncomputable def iN(ds:List D):R D:=match ds with
 | [.int i]=>R.guard (i.natAbs.log2<1920) (.ok (.str (toString i)))
 | _=>.no
noncomputable def y1l(ds:List D):R D:=match ds with
 | [.str x]=>R.guard (x.length<=100000) (.ok (.int x.length))
 | _=>.no
noncomputable def dIxS(x y:D):R D:=match x,y with
 | .str z,.int i=>R.guard (z.length<=100000) (match cV z.cps.toList i with | some c=>.ok (.str ⟨#[c]⟩) | none=>.no)
 | _,_=>.no
noncomputable def z5z(x y:D):R D:=match x,y with
 | .str i,.str j=>R.guard (i.length+j.length<=100000) (.ok (.str (i++j)))
 | _,_=>.no
def og(i j:Str):Bool:=!(Aa j i 0 j.length 1).isEmpty
noncomputable def dInS(x y:D):R D:=match x,y with
 | .str i,.str j=>.ok (.bl (og i j))
 | _,_=>.no
noncomputable def z9s(x c:D):R D:=match c with
 | .tup ys=>R.guard (D.lay 40 x=true/\D.lay 40 (.tup ys)=true) (.ok (.bl (!(ys.any λy=>bG y x))))
 | _=>.no
def strs?:List D->Option (List Str)
 | []=>some []
 | .str x::r=>(strs? r).map (x::·)
 | _::_=>none
def strs?_map:∀xs:List Str,strs? (xs.map D.str)=some xs
 | []=>rfl
 | x::r=>by rw[gz,strs?,strs?_map r];rfl
def Bh:∀{ds:List D} {xs:List Str},strs? ds=some xs->ds=xs.map D.str
 | [],xs,h=>by cases h;rfl
 | .str x::r,xs,h=>by
   rw[strs?] at h
   obtain⟨ys,e,rfl⟩:=Option.map_eq_some_iff.mp h
   rw[Bh e];rfl
 | .cI::_,_,h=>by cases h
 | .bl _::_,_,h=>by cases h
 | .int _::_,_,h=>by cases h
 | .tup _::_,_,h=>by cases h
 | .lst _::_,_,h=>by cases h
 | .kM::_,_,h=>by cases h
 | .exc _::_,_,h=>by cases h
noncomputable def kP(sep:Str)(g:G->R D):G->R D:=λO=>g O>>=λd=>match d with
 | .lst ds=>(match strs? ds with | some xs=>R.guard (oZ sep xs=true) (.ok (.str (ir sep xs))) | none=>.no)
 | _=>.no
noncomputable def oh(sep:Str)(g:G->R D):G->R (List D):=λO=>g O>>=λd=>match d with
 | .str x=>R.guard (x.length<=100000/\(sep.length==0)=false) (.ok ((bW x sep).map D.str))
 | _=>.no
def kQ(x:Str):List D:=x.cps.toList.map λc=>.str ⟨#[c]⟩
noncomputable def y1t(g:G->R D):G->R (List D):=λO=>g O>>=λd=>match d with
 | .str x=>R.guard (x.length<=100000) (.ok (kQ x))
 | _=>.no
def R.good{α:Type}(r:R α):R α:=match r with
 | .ok a=>.ok a
 | _=>.no
def gq(φ:List D->R (D×List D))(gs:G->R (List D)):G->R (D×List D):=λO=>gs O>>=φ
def stM(w:Nat)(O:G)(r:R (D×List D))(k:D->List D->R Fl):R Fl:=match r with
 | .ok (d,ws)=>k d ws
 | .er c=>.ok (.ex c (O.set w .no))
 | .no=>.no
def Bj(r:R (D×List D))(k:D->List D->R (D×List D)):R (D×List D):=match r with
 | .ok (d,ws)=>k d ws
 | .er c=>.er c
 | .no=>.no
def vt(i:Nat)(gc:G->R D):G->R (D×List D):=λO=>R.good (gc O)>>=λd=>match d with
 | .int n=>(match O[i]? with
   | some (.own ws)=>if (0<=n/\n.toNat<=ws.length/\ws.length<=100000) then .ok (.lst (ws.reverse.take n.toNat),ws.take (ws.length-n.toNat)) else .no
   | _=>.no)
 | _=>.no
def Vi{i:Nat}{gc:G->R D}{O:G}(h:vt i gc O ≠ .no):∃(n:Int) (ws:List D),gc O = .ok (.int n)/\O[i]? = some (.own ws)/\0<=n/\n.toNat<=ws.length/\ws.length<=100000/\vt i gc O = .ok (.lst (ws.reverse.take n.toNat),ws.take (ws.length-n.toNat)):=by
 unfold vt at h ⊢
 cases e1:gc O with
 | no=>rw[e1] at h;exact absurd rfl h
 | er c=>rw[e1] at h;exact absurd rfl h
 | ok d =>
   rw[e1] at h
   cases d with
   | int n =>
     cases hw:O[i]? with
     | none=>rw[hw] at h;exact absurd rfl h
     | some en =>
       cases en with
       | no=>rw[hw] at h;exact absurd rfl h
       | ro d'=>rw[hw] at h;exact absurd rfl h
       | own ws =>
         rw[hw] at h
         by_cases hq:(0<=n/\n.toNat<=ws.length/\ws.length<=100000)
         .refine⟨n,ws,rfl,rfl,hq.1,hq.2.1,hq.2.2,?_⟩
          show(if (0<=n/\n.toNat<=ws.length/\ws.length<=100000) then R.ok (D.lst (ws.reverse.take n.toNat),ws.take (ws.length-n.toNat)) else .no)=_
          rw[if_pos hq]
         .exact absurd (show(if (0<=n/\n.toNat<=ws.length/\ws.length<=100000) then R.ok (D.lst (ws.reverse.take n.toNat),ws.take (ws.length-n.toNat)) else .no) = .no by rw[if_neg hq]) h
   | _=>exact absurd rfl h
def lI(j w:Nat)(u:G->R (D×List D)):G->R Fl:=λO=>stM w O (u O) λd ws=>.ok (.nx ((O.set w (.own ws)).set j (.ro d)))
def qz(w:Nat)(u:G->R (D×List D)):G->R Fl:=λO=>stM w O (u O) λ_ ws=>.ok (.nx (O.set w (.own ws)))
def j4(m w:Nat)(u:G->R (D×List D)):G->R Fl:=λO=>match O[m]? with
 | some (.own ds)=>stM w O (u O) λd ws=>if ds.length<=100000 then .ok (.nx ((O.set w (.own ws)).set m (.own (ds++[d])))) else .no
 | _=>.no
def tG(d:D)(t:G->R Fl)(O:G):R Fl:=match d with
 | .bl b=>if b=true then t O else .ok (.nx O)
 | _=>.no
def qA(w:Nat)(u:G->R (D×List D))(t:G->R Fl):G->R Fl:=λO=>stM w O (u O) λd ws=>tG d t (O.set w (.own ws))
def ph(r:R D)(ws:List D):R (D×List D):=match r with
 | .ok d=>.ok (d,ws)
 | .er c=>.er c
 | .no=>.no
def nc(φ:D->D->R D)(w:Nat)(u:G->R (D×List D))(gb:G->R D):G->R (D×List D):=λO=>Bj (u O) λd ws=>match gb (O.set w (.own ws)) with
 | .ok b=>ph (R.good (φ d b)) ws
 | _=>.no
def pj(w:Nat)(u:G->R (D×List D))(gb:G->R D):G->R (D×List D):=nc aI w u gb
def oi(φ:List D->R D)(u:G->R (D×List D)):G->R (D×List D):=λO=>Bj (u O) λd ws=>ph (φ [d]) ws
def sd(j:Nat)(f:D->G->R (Option D))(d:D)(O:G):R Fl:=match d with
 | .lst items=>if items.length<=100000 then (match hJ (λd=>f d O) items [] with | .ok total=>.ok (.nx (O.set j (.own total))) | .er c=>.ok (.ex c O) | .no=>.no) else .no
 | _=>.no
def oj(j w:Nat)(u:G->R (D×List D))(f:D->G->R (Option D)):G->R Fl:=λO=>stM w O (u O) λd ws=>sd j f d (O.set w (.own ws))
def fw(xs:List Str):List Str:=xs.foldl (λl k=>if k∈l then l else k::l) []
def EN(xs:List Str)(k:Str):fw (xs++[k])=if k∈fw xs then fw xs else k::fw xs:=by
 unfold fw
 rw[List.foldl_append];rfl
noncomputable def vv(ga:G->R D):G->R D:=λO=>ga O>>=λd=>match d with
 | .lst ds=>(match strs? ds with | some xs=>R.guard (xs.length<=1000) (.ok (.int (fw xs).length)) | none=>.no)
 | _=>.no
noncomputable def z5o(g:G->R D):G->R (List D):=λO=>g O>>=λd=>match d with
 | .lst ds=>R.guard (ds.length<=100000/\D.bQ ds=true) (.ok ds.reverse)
 | _=>.no
noncomputable def om(xs:List Str)(x:Str):R D:=match xs.findIdx? (·==x) with
 | some j=>R.guard (xs.length<=1000) (.ok (.int (j:Int)))
 | none=>.no
noncomputable def tH(ga gb:G->R D):G->R D:=λO=>ga O>>=λa=>match a with
 | .tup ds=>gb O>>=λb=>(match b with
   | .str x=>(match strs? ds with | some xs=>om xs x | none=>.no)
   | _=>.no)
 | _=>.no
noncomputable def vw(ds:List D):R D:=match ds with
 | [.str x]=>R.guard (x.length<=640) (match intText? x with | some n=>.ok (.int n) | none=>.no)
 | _=>.no
def oo(i:Nat)(O:G)(d:D):R (D×List D):=match O[i]? with
 | some (.own ws)=>.ok (d,ws)
 | _=>.no
def pk(i:Nat)(g:G->R D):G->R (D×List D):=λO=>g O>>=oo i O
def fj(t:G->R Fl)(u:G->R (D×List D)):G->R (D×List D):=λO=>match t O with
 | .ok (.nx O')=>u O'
 | .ok (.ex c _)=>.er c
 | _=>.no
def oq(c:G->R Bool)(t u:G->R (D×List D)):G->R (D×List D):=λO=>c O>>=λb=>if b=true then t O else u O
def Lz(c:Er):G->R (D×List D):=λ_=>.er c
def LA:G->R (D×List D):=λ_=>.no
def ot(i:Nat)(t:G->R Fl):G->R (D×List D):=λO=>match t O with
 | .ok (.nx O')=>oo i O' .cI
 | .ok (.ex c _)=>.er c
 | _=>.no
def ng(p n i:Nat)(g:G->R (D×List D)):List D->R (D×List D):=λds=>if ds.length=p then (match ds[i]? with | some (.lst ws)=>g ((eE n ds).set i (.own ws)) | _=>.no) else .no
def LB{p n i:Nat}{g:G->R (D×List D)}{ds:List D}(h:ng p n i g ds ≠ .no):ds.length=p:=by
 unfold ng at h
 by_cases q:ds.length=p
 .exact q
 .rw[if_neg q] at h;exact absurd rfl h
def gK{p n i:Nat}{g:G->R (D×List D)}{as bs ws:List D}(hi:as.length=i)(h:(as++D.lst ws::bs).length=p):ng p n i g (as++D.lst ws::bs)=g ((eE n (as++D.lst ws::bs)).set i (.own ws)):=by
 unfold ng
 rw[if_pos h,uK (by lia),hi,JL]
 rfl
def z4u(w:Nat)(gs:G->R (List D)):G->R (List D):=λO=>match O[w]? with
 | some (.own ws)=>gs O>>=λbs=>.ok (.lst ws::bs)
 | _=>.no
end L3
namespace L3
def EO(t:G->R Fl):G->R Fl:=λO=>t O>>=λr=>match r with
 | .ex .dE O'=>.ok (.ex .aQ O')
 | .ex _ _=>.no
 | r=>.ok r
end L3
namespace L3
open PySem
noncomputable def Bk(d:D)(lo hi:Option Int):R D:=match d with
 | .str x=>R.guard (x.length<=100000) (.ok (.str (g8 x lo hi)))
 | _=>.no
noncomputable def kx(ga:G->R D)(lo hi:G->R (Option Int)):G->R D:=λO=>ga O>>=λd=>lo O>>=λl=>hi O>>=λh=>Bk d l h
noncomputable def Vj(d:D):R D:=match d with
 | .str x=>R.guard (x.length<=100000) (.ok (.str (sY x)))
 | _=>.no
noncomputable def yh(ga:G->R D):G->R D:=λO=>ga O>>=Vj
noncomputable def Vk(d:D):R D:=match d with
 | .str x=>R.guard (Q_ (xo x).length=false) (.ok (.str (xo x)))
 | _=>.no
noncomputable def yi(ga:G->R D):G->R D:=λO=>ga O>>=Vk
end L3
namespace L3
noncomputable def se(ga gb:G->R D):G->R (List D):=λO=>ga O>>=λx=>gb O>>=λy=>match x,y with
 | .lst xs,.lst ys=>R.guard (xs.length+ys.length<=1000) (.ok (xs++ys))
 | _,_=>.no
end L3
namespace L3
open PySem
def LC{c:Nat}:∀{a b r q:List Nat},c ∉ a->c ∉ b->a++c::r=b++c::q->a=b/\r=q
 | [],[],r,q,_,_,h=>by simpa using h
 | [],y::b,r,q,_,hb,h=>by
   simp only[l_,fT,Ra] at h
   exact absurd (h.1 ▸ fI ..) hb
 | x::a,[],r,q,ha,_,h=>by
   simp only[l_,fT,Ra] at h
   exact absurd (h.1 ▸ fI ..) ha
 | x::a,y::b,r,q,ha,hb,h=>by
   simp only[fT,Ra] at h
   obtain⟨h1,h2⟩:=LC (λz=>ha (eU _ z)) (λz=>hb (eU _ z)) h.2
   exact⟨by rw[h.1,h1],h2⟩
def one(c:Nat):Str:=⟨#[c]⟩
def lJ(c:Nat)(x y:Str)(r:List Str):(gD (one c) (x::y::r)).cps.toList=x.cps.toList++c::(gD (one c) (y::r)).cps.toList:=by
 show((x++one c++gD (one c) (y::r)).cps).toList=_
 rw[JM,JM]
 simp[one]
def LF{c:Nat}{x:Str}(hx:c ∉ x.cps.toList){y z:Str}{r:List Str}:x≠gD (one c) (y::z::r):=λh=>by
 have e:=congrArg (λs:Str=>s.cps.toList) h
 rw[lJ] at e
 exact hx (e ▸ ft _ (fI ..))
def Bl(c:Nat):∀{xs ys:List Str},xs≠[]->ys≠[]->(∀x∈xs,c ∉ x.cps.toList)->(∀y∈ys,c ∉ y.cps.toList)->gD (one c) xs=gD (one c) ys->xs=ys
 | [],_,h,_,_,_,_=>absurd rfl h
 | _,[],_,h,_,_,_=>absurd rfl h
 | [x],[y],_,_,_,_,h=>by rw[show x=y from h]
 | [x],y::z::r,_,_,hx,_,h=>absurd h (LF (hx x (fI ..)))
 | x::w::q,[y],_,_,_,hy,h=>absurd h.symm (LF (hy y (fI ..)))
 | x::w::q,y::z::r,_,_,hx,hy,h=>by
   have e:=congrArg (λs:Str=>s.cps.toList) h
   rw[lJ,lJ] at e
   obtain⟨h1,h2⟩:=LC (hx x (fI ..)) (hy y (fI ..)) e
   have h3:gD (one c) (w::q)=gD (one c) (z::r):=Dw (Array.toList_inj.mp h2)
   rw[show x=y from Dw (Array.toList_inj.mp h1),Bl c (by simp) (by simp) (λa ha=>hx a (eU _ ha)) (λa ha=>hy a (eU _ ha)) h3]
def sg(x y:Str):bW x y≠[]:=by
 unfold bW
 split
 .simp
 .split
  .simp
  .rw[StrLaws.partsBetween_eq]
   obtain⟨p,q,e⟩:=StrLaws.partsFrom_ne x y.length 0 (Aa x y 0 x.length (x.length+1))
   rw[e];simp
def Bm(c:Nat){xs:List Str}(h0:xs≠[])(h:∀x∈xs,c ∉ x.cps.toList):bW (ir (one c) xs) (one c)=xs:=by
 have e:ir (one c) xs=gD (one c) xs:=Dx _ _
 rw[e]
 exact Bl c (sg _ _) h0 (Ad _ c) h (sZ _ _)
end L3
namespace L3
open PySem PySem.NumText
def aH(n:Int):Str:=toString n
def Vl(s:String):(oX s).cps.toList=s.toList.map Rb:=by
 simp only[Str.ofString_eq_toList,List.toList_toArray]
def ou(m:Nat):(aH (m:Int)).cps.toList=(md 10 m).map Rb:=by
 show(oX (Nat.repr m)).cps.toList=_
 rw[Vl,Nat.toList_repr]
def Vm(m:Nat):1<=(md 10 m).length:=by
 by_cases h:m<10
 .rw[xp h];simp
 .have hm:m%10<10:=Rc m (by decide)
  have t:md 10 (m/10)++md 10 (m%10)=md 10 (10*(m/10)+m%10):=Rf (by decide) (by lia) hm
  rw[Rg] at t
  rw[<-t,aY,xp hm]
  simp
def LG:∀d:Nat,d<10->(Nat.digitChar d).toNat-48=d:=by decide
def ER(m:Nat):digitsVal ((md 10 m).map Rb)=m:=by
 induction m using Nat.strongRecOn with
 | _ m ih =>
   by_cases h:m<10
   .rw[xp h]
    have e:=LG m h
    show 0*10+((Nat.digitChar m).toNat-48)=m
    lia
   .have hm:m%10<10:=Rc m (by decide)
    have t:md 10 (m/10)++md 10 (m%10)=md 10 (10*(m/10)+m%10):=Rf (by decide) (by lia) hm
    rw[Rg] at t
    rw[<-t,iK,xp hm,gz,rD,digitsVal_snoc,ih (m/10) (by lia),LG (m%10) hm]
    lia
def Vn{ch:Char}(h:ch.isDigit=true):48<=ch.toNat/\ch.toNat<=57:=by
 unfold Char.isDigit at h
 simp only[jP,decide_eq_true_eq] at h
 exact⟨h.1,h.2⟩
def ox{n:Int}(h0:0<=n):PySem.NumText.AllDigits (aH n).cps.toList:=by
 obtain⟨m,rfl⟩:=rH h0
 intro c hc
 rw[ou] at hc
 obtain⟨ch,jb,e⟩:=List.mem_map.mp hc
 have r:=Vn (Nat.isDigit_of_mem_toDigits (by decide) (by decide) jb)
 rw[<-e]
 exact r
def Bn{n:Int}(h0:0<=n):(aH n).cps.toList≠[]:=by
 obtain⟨m,rfl⟩:=rH h0
 rw[ou]
 intro e
 have h:=Vm m
 rw[List.map_eq_nil_iff.mp e] at h
 exact absurd h (by decide)
def ES:∀(k m:Nat),m<10^(k+1)->(md 10 m).length<=k+1:=by
 intro k
 induction k with
 | zero=>intro m h;rw[xp (by simpa using h)];simp
 | succ k ih =>
   intro m h
   by_cases q:m<10
   .rw[xp q];simp
   .have hm:m%10<10:=Rc m (by decide)
    have t:md 10 (m/10)++md 10 (m%10)=md 10 (10*(m/10)+m%10):=Rf (by decide) (by lia) hm
    rw[Rg] at t
    rw[<-t,aY,xp hm]
    have:=ih (m/10) (by rw[Nat.pow_succ] at h;lia)
    simp only[a3,iW]
    lia
def qB{n:Int}(h0:0<=n)(h1:n<=10^30):(aH n).length<=31:=by
 obtain⟨m,rfl⟩:=rH h0
 have e:(aH (m:Int)).length=(md 10 m).length:=by
  have:=congrArg rB (ou m)
  rw[aZ] at this
  simpa [kF] using this
 rw[e]
 refine ES 30 m ?_
 have:(m:Int)<=((10^30:Nat):Int):=by simpa using h1
 have:=Int.ofNat_le.mp this
 exact JI this (by decide)
def Bo{n:Int}(h0:0<=n):1<=(aH n).length:=by
 have:=Bn h0
 have e:(aH n).length=(aH n).cps.toList.length:=by simp[kF]
 rw[e]
 exact List.length_pos_iff.mpr this
def LH{n:Int}(h0:0<=n)(h1:n<=10^30):intText? (aH n)=some n:=by
 have e:=intText_digits (ox h0) (Bn h0) (fS (qB h0 h1) (by decide))
 obtain⟨m,rfl⟩:=rH h0
 rw[ou,ER] at e
 exact e
def LI{n:Int}(h0:0<=n){r:List Nat}(h:(aH n).cps.toList=48::r):aH n=aH 0:=by
 obtain⟨m,rfl⟩:=rH h0
 have hd:=ox h0
 have hv:PySem.NumText.digitsVal (aH (m:Int)).cps.toList=m:=by rw[ou,ER]
 have t:=toDigits_all (aH (m:Int)).cps.toList hd
 rw[hv] at t
 have hl:(aH (m:Int)).cps.toList.length=(md 10 m).length:=by rw[ou,aZ]
 rw[h] at t hl
 rw[List.dropWhile_cons] at t
 simp only[beq_self_eq_true,if_true] at t
 cases q:r.dropWhile (·==48) with
 | nil =>
   rw[q] at t
   refine Dw (Array.toList_inj.mp ?_)
   rw[ou,t]
   exact(ou 0).symm
 | cons c s =>
   rw[q] at t
   have l1:=congrArg rB t
   rw[aZ] at l1
   have l2:(c::s).length<=r.length:=by
    rw[<-q]
    exact(List.dropWhile_sublist _).length_le
   simp only[a3] at l1 l2 hl
   lia
end L3
namespace L3
open PySem
noncomputable section
def LJ:G->R Fl :=
 (aC (bL (gT (af n8 (gV 1) (az bX (ae (gV 0) ak)))) (bY (af aI (gV 0) (gV 1))) b8)
 (bY (gC (.int 0))))
def si:List D->R D:=cL 2 2 LJ
def LK:G->R Fl :=
 (aC (c8 3 (bN ak))
 (aC (lG 4 (lE (gV 2))
 (aC (mZ 3 (aB (af a_ (gV 0) (gV 1))))
 (bF 0 (aB (af dw (gV 0) (gV 1))))))
 (bY (az ku (ae (gV 3) ak)))))
def yj:List D->R D:=cL 3 5 LK
def LL:G->R Fl :=
 (aC (bL (gT (af bI (af a_ (gV 0) (gC (.int 2))) (gC (.int 0)))) (bY (af aI (jD (Lb [3,5,7,11,13,17,19,23])) (af a_ (af dw (gV 0) (gC (.int 2))) (gC (.int 8))))) b8)
 (aC (bF 1 (aB (af cu (gC (.int 3)) (af a_ (af dw (gV 0) (gC (.int 2))) (gC (.int 9971))))))
 (aC (e_ (gT (az qu (ae (gL (fh (yd (gC (.int 2)) (gC (.int 100))) (j0 (gT (af n8 (gV 0) (gV 2))) (aB (af bI (af a_ (gV 2) (gV 0)) (gC (.int 0))))))) ak))) (bF 1 (aB (af cu (gV 1) (gC (.int 1))))) 10000)
 (bY (gV 1)))))
def Bp:List D->R D:=cL 1 2 LL
def LM:G->R Fl :=
 (bY (af a_ (gV 1) (gV 0)))
def Bq:List D->R D:=cL 2 2 LM
end
def wkL (e : String) : Lean.MacroM (Lean.TSyntax `tactic) := do let l <- (("L3.fin L3.Be L3.cL L3.oa L3.gV L3.b7 L3.gC L3.ak L3.Lb L3.b8 L3.aC L3.bF L3.c8 L3.aB L3.az L3.kv L3.ae L3.bY L3.ye L3.vp L3.qx L3.af L3.gL L3.fh L3.lE L3.yd L3.EB L3.fU L3.j0 L3.gT L3.jV L3.kn L3.jW L3.ko L3.Em L3.rY L3.AW L3.bL L3.jD L3.bN L3.x5 L3.U6 L3.r8 L3.jZ L3.vo L3.lG L3.mZ L3.qy L3.A_ L3.A9 L3.qt L3.Lg L3.yf L3.gj L3.eY L3.jE L3.bU L3.bJ L3.o_ L3.A1 L3.A6 L3.f_ L3.gf L3.Lj L3.ji L3.Ez L3.D.ty L3.Ba L3.Bb L3.n_ L3.U5 L3.fe L3.tE L3.iC L3.UD L3.UE L3.eE L3.bX L3.ku L3.cu L3.mW L3.lz L3.dw L3.a_ L3.n7 L3.n8 L3.qp L3.qq L3.vg L3.bI L3.iM L3.aI L3.yb L3.jY L3.xZ R.bB R.Uz R.Uy L3.a4 L3.UA L3.U7 Bool.not_true Bool.not_false if_true if_false Bool.false_eq_true beq_self_eq_true ite_true ite_false Int.reduceToNat L3.qv L3.Va L3.Vb L3.Vc L3.Vd L3.Ve L3.Ei L3.La L3.Ut L3.Uu L3.Us L3.vh L3.UI and_true true_and and_self List.map_cons List.map_nil List.length_cons List.length_nil List.length_map List.length_range List.length_set List.length_append List.length_replicate List.cons_append List.nil_append List.append_assoc List.replicate List.set_cons_zero List.set_cons_succ List.getElem?_cons_zero List.getElem?_cons_succ L3.Ew L3.A8 L3.UY L3.yc L3.Ep L3.UK Nat.reduceAdd Nat.reduceSub Nat.reduceMul Int.reduceAdd Int.reduceSub Int.reduceMul Int.reduceNeg Int.toNat_natCast L3.U1 L3.U3 L3.vj L3.Eu L3.Le L3.UU Option.map_some Int.add_zero Nat.reduceEqDiff Nat.reduceLeDiff Nat.zero_add Nat.add_zero Nat.sub_zero Nat.sub_self" ++ e).splitOn " ").toArray.mapM λn => `(Lean.Parser.Tactic.simpLemma| $(Lean.mkIdent n.toName):term); `(tactic| try simp (disch := first | decide | omega | exact Ei _ | exact La _ | exact Ek _ | exact rW _ | exact Ld _ _ | exact AX (by omega) | exact ⟨AX (by omega), AX (by omega)⟩ | exact UG (by first | assumption | exact Lc (by omega)) | exact UH (by first | assumption | exact Lc (by omega)) | assumption) only [$l,*])
local macro_rules | `(tactic| walk_at "b") => wkL ""
def gU(ns:List Int)(k:Int):Int:=(ns[k.toNat]?).getD 0
def ET{ns:List Int}{k:Int}(h0:0<=k)(h:k<(ns.length:Int)):cV (ns.map D.int) k=some (.int (gU ns k)):=by
 rw[qr h0,jO]
 unfold gU
 rw[gE (by lia)];rfl
def Vo{ns:List Int}{k:Int}(h0:0<=k)(h:¬k<(ns.length:Int)):gU ns k=0:=by
 unfold gU
 rw[kG (by lia)];rfl
def x5w{ns:List Int}{k:Int}(h0:0<=k):si [.lst (ns.map D.int),.int k] = .ok (.int (gU ns k)):=by
 unfold si LJ
 by_cases h:k<(ns.length:Int)
 .have e1:=ET h0 h
  have e2:decide (k<(ns.length:Int))=true:=decide_eq_true h
  walk_at "b"
  simp only[e1,e2]
  walk_at "b"
 .have e2:decide (k<(ns.length:Int))=false:=decide_eq_false h
  have e3:=Vo h0 h
  walk_at "b"
  simp only[e2,e3]
  walk_at "b"
def z7h:D->Bool
 | .int _=>true
 | _=>false
def pv(P:Int):Nat->Int->List Int
 | 0,_=>[]
 | n+1,c=>c%P::pv P n (c/P)
def LN(P:Int):∀(n:Nat) (c:Int),(pv P n c).length=n
 | 0,_=>rfl
 | n+1,c=>by rw[pv,a3,LN P n]
def yk(P:Int)(ns:List Int):Prop:=∀n∈ns,0<=n/\n<P
def LO{P:Int}(hp:0<P):∀(n:Nat) (c:Int),yk P (pv P n c)
 | 0,_=>λx hx=>by simp[pv] at hx
 | n+1,c=>λx hx=>by
   rw[pv] at hx
   rcases List.mem_cons.mp hx with e | e
   .subst e;exact⟨EL hp,EM hp⟩
   .exact LO hp n _ x e
def qC(P:Int):Nat->Int->Int
 | 0,c=>c
 | n+1,c=>qC P n c/P
def sj(P:Int)(n:Nat)(c:Int):List Int:=(g6 n).map λi=>qC P i c%P
def Vp(P:Int)(n:Nat)(c:Int):sj P (n+1) c=sj P n c++[qC P n c%P]:=by
 unfold sj;rw[s_,iK];rfl
def LP(P:Int):∀(n:Nat) (c:Int),qC P (n+1) c=qC P n (c/P)
 | 0,c=>rfl
 | n+1,c=>by rw[qC,LP P n c];rfl
def LQ(P:Int):∀(n:Nat) (c:Int),sj P n c=pv P n c
 | 0,c=>rfl
 | n+1,c=>by
   rw[pv,<-LQ P n (c/P)]
   unfold sj
   rw[Rh,gz,rJ]
   congr 1
   apply Ri
   intro i _
   show qC P (i+1) c%P=_
   rw[LP]
def y5j{c P n:Int}(h1:0<P)(h2:P<1000000)(h3:0<=n)(h4:n<=20):yj [.int c,.int P,.int n] = .ok (.tup ((pv P n.toNat c).map D.int)):=by
 unfold yj LK
 walk_at "b"
 rw[U_ (λj=>[.ro (.int (qC P j c)),.ro (.int P),.ro (.int n),.own ((sj P j c).map D.int),(match j with | 0=>.no | k+1=>.ro (.int (0+(k:Int))))])]
 .walk_at "b"
  rw[LQ]
 .rfl
 .intro j hj
  have hl:(sj P j c).length<=100000:=by unfold sj;simp;lia
  walk_at "b"
  rw[Vp]
  simp[qC]
def hV(n:Int):Bool:=((g6 98).filterMap λ(i:Nat)=>if 2+(i:Int)<n then some (n%(2+(i:Int))==0) else none).any λb=>b
def Br(n:Int):hV n=true↔∃b:Int,2<=b/\b<100/\b<n/\n%b=0:=by
 unfold hV
 simp only[List.any_eq_true,List.mem_filterMap,List.mem_range]
 constructor
 .rintro⟨x,⟨i,hi,e⟩,hx⟩
  by_cases q:2+(i:Int)<n
  .rw[if_pos q] at e;cases e
   exact⟨2+i,by lia,by lia,q,by simpa using hx⟩
  .rw[if_neg q] at e;cases e
 .rintro⟨b,h1,h2,h3,h4⟩
  refine⟨true,⟨(b-2).toNat,by lia,?_⟩,rfl⟩
  have e:(2+(((b-2).toNat:Nat):Int))=b:=by lia
  rw[e,if_pos h3,h4];rfl
def Vq{f:D->R (Option D)}{lo:Int}{n:Nat}{h:Nat->Option Bool}(q:∀i,i<n->f (.int (lo+(i:Int))) = .ok ((h i).map D.bl)):fg f (fL lo n) [] = .ok (((g6 n).filterMap h).map D.bl):=by
 unfold fL
 rw[Ll (h:=λi=>(h i).map D.bl) λi hi=>q i (List.mem_range.mp hi),List.map_filterMap]
def Vr{n c:Int}(O:G):gT (az qu (ae (gL (fh (yd (gC (.int 2)) (gC (.int 100))) (j0 (gT (af n8 (gV 0) (gV 2))) (aB (af bI (af a_ (gV 2) (gV 0)) (gC (.int 0))))))) ak)) (.ro (.int c) :: .ro (.int n)::O) = .ok (hV n):=by
 walk_at "b"
 rw[Vq (h:=λ(i:Nat)=>if 2+(i:Int)<n then some (n%(2+(i:Int))==0) else none)]
 .walk_at "b";rfl
 .intro i hi
  walk_at "b"
  by_cases q:2+(i:Int)<n
  .simp only[decide_eq_true q,if_pos q]
   walk_at "b"
  .simp only[decide_eq_false q,if_neg q]
   rfl
def Vs{k:Int}(h0:0<=k)(h1:k<8):∃p:Int,cV (([3,5,7,11,13,17,19,23]:List Int).map D.int) k=some (.int p)/\3<=p/\p<=23/\hV p=false:=by
 have:k=0∨k=1∨k=2∨k=3∨k=4∨k=5∨k=6∨k=7:=by lia
 rcases this with rfl | rfl | rfl | rfl | rfl | rfl | rfl | rfl
 .exact⟨3,rfl,by decide,by decide,by trivial⟩
 .exact⟨5,rfl,by decide,by decide,by trivial⟩
 .exact⟨7,rfl,by decide,by decide,by trivial⟩
 .exact⟨11,rfl,by decide,by decide,by trivial⟩
 .exact⟨13,rfl,by decide,by decide,by trivial⟩
 .exact⟨17,rfl,by decide,by decide,by trivial⟩
 .exact⟨19,rfl,by decide,by decide,by trivial⟩
 .exact⟨23,rfl,by decide,by decide,by trivial⟩
def Vt(c:Int):∃p:Int,Bp [.int c] = .ok (.int p)/\3<=p/\p<=9973/\hV p=false:=by
 unfold Bp LL
 by_cases h:c%2=0
 .have h0:0<=c/2%8:=by lia
  obtain⟨p,e,h1,h2,h3⟩:=Vs (k:=c/2%8) (by lia) (by lia)
  refine⟨p,?_,h1,by lia,h3⟩
  have hb:(c%2==0)=true:=by simpa using h
  have hm:0<=c/2%8/\c/2%8<8:=by lia
  walk_at "b"
  simp only[hb]
  simp only[gz,rD] at e
  walk_at "b"
  simp only[e]
  rfl
 .have hb:(c%2==0)=false:=by simpa using h
  have key:∀(n m:Nat) (O:G),m<n->(∃z:Int,O=[.ro (.int c),.ro (.int z)]/\3<=z/\z<=9973/\(9973-z).toNat=m) ->
   ∃z:Int,e_ (gT (az qu (ae (gL (fh (yd (gC (.int 2)) (gC (.int 100))) (j0 (gT (af n8 (gV 0) (gV 2))) (aB (af bI (af a_ (gV 2) (gV 0)) (gC (.int 0))))))) ak))) (bF 1 (aB (af cu (gV 1) (gC (.int 1))))) n O = .ok (.nx [.ro (.int c),.ro (.int z)])/\3<=z/\z<=9973/\hV z=false:=by
   refine EG _ (λr=>∃z:Int,r = .ok (.nx [.ro (.int c),.ro (.int z)])/\3<=z/\z<=9973/\hV z=false) ?_
   rintro m O ⟨z,rfl,h1,h2,h3⟩
   rw[Vr]
   cases q:hV z with
   | false=>exact .inl ⟨rfl,z,rfl,h1,h2,q⟩
   | true =>
     have hz:z≠9973:=λe=>by rw[e] at q;exact absurd q (by trivial)
     refine .inr ⟨rfl,.inl ⟨[.ro (.int c),.ro (.int (z+1))],(9973-(z+1)).toNat,by lia,.inl ?_,z+1,rfl,by lia,by lia,rfl⟩⟩
     walk_at "b"
  have hz:3<=3+c/2%9971/\3+c/2%9971<=9973:=by lia
  obtain⟨z,e,h1,h2,h3⟩:=key 10000 (9973-(3+c/2%9971)).toNat [.ro (.int c),.ro (.int (3+c/2%9971))] (by lia) ⟨_,rfl,hz.1,hz.2,rfl⟩
  refine⟨z,?_,h1,h2,h3⟩
  walk_at "b"
  simp only[hb]
  walk_at "b"
  rw[e]
  walk_at "b"
def s_on{P n:Int}(h:0<P):Bq [.int P,.int n] = .ok (.int (n%P)):=by
 unfold Bq LM
 walk_at "b"
def fits(l:List Int):Prop:=∀n∈l,qo n
def gW(r:List Int):D:=.tup (r.map D.int)
def EU(r:List Int):gW r = .tup (r.map D.int):=rfl
def z8p(r:List Int):(gW r).cy=true:=Ek r
def x0w(n:Nat)(r:List Int):D.lay (n+1) (gW r)=true:=Ld n r
def LR(r:List Int):D.pl (gW r)=true:=UR r
def LS:∀{a b:List Int},a.map D.int=b.map D.int->a=b
 | [],[],_=>rfl
 | [],_::_,h=>by simp at h
 | _::_,[],h=>by simp at h
 | x::a,y::b,h=>by simp at h;rw[h.1,LS h.2]
def Vu{a b:List Int}(h:gW a=gW b):a=b:=LS (by unfold gW at h;simpa using h)
def y6j(a b:List Int):bG (gW a) (gW b)=decide (a=b):=US (LR a) (LR b) ⟨Vu,λh=>by rw[h]⟩
def y6k(a b:List Int):bG (.tup (a.map D.int)) (.tup (b.map D.int))=decide (a=b):=y6j a b
def Vv(c:List D->R D):Prop:=∀ns:List Int,ns.length<=63->c [.lst (ns.map D.int)] = .ok (.bl true)
def Vw{α:Type}(l:List α)(f:α->Int):l.map (λx=>D.int (f x))=(l.map f).map D.int:=by rw[rJ];rfl
def Vx(lo st:Int)(n:Nat):(mz lo st n).length=n:=by unfold mz;simp
def Vy{lo st:Int}{n j:Nat}{d:D}(h:(mz lo st n)[j]? = some d):j<n/\d = .int (lo+st*(j:Int)):=by
 have hj:j<n:=by
  have:=(List.getElem?_eq_some_iff.mp h).1
  rw[Vx] at this;exact this
 refine⟨hj,?_⟩
 unfold mz at h
 rw[jO,a3j hj] at h
 cases h;rfl
noncomputable section
def LU:G->R Fl :=
 (bY (ko (A_ Ba (gV 0)) (Em (A_ Bb (gV 0)))))
def Bs:List D->R D:=cL 1 1 LU
def LV:G->R Fl :=
 (bY (ko (az Bs (ae (gV 0) ak)) (ko (af qp (gV 1) (gV 0)) (af qp (gV 0) (gV 2)))))
def vz:List D->R D:=cL 3 3 LV
def EV:G->R Fl :=
 (aC (bF 1 (aB (gC (.int 2))))
 (aC (e_ (gT (af qp (af lz (gV 1) (gV 1)) (gV 0))) (aC (bL (gT (af bI (af a_ (gV 0) (gV 1)) (gC (.int 0)))) (bY (gV 1)) b8)
 (bF 1 (aB (af cu (gV 1) (gC (.int 1)))))) 10000)
 (bY (gV 0))))
def EW:List D->R D:=cL 1 2 EV
def LW:G->R Fl :=
 (bY (ko (az vz (ae (gV 0) (ae (gC (.int 3)) (ae (gC (.int 9999)) ak)))) (af bI (az EW (ae (gV 0) ak)) (gV 0))))
def Bt:List D->R D:=cL 1 1 LW
def LX:G->R Fl :=
 (aC (bL (jW (gT (az Bt (ae (gV 0) ak)))) (gj .mV) b8)
 (bY (gV 0)))
def EX:List D->R D:=cL 1 1 LX
end
local macro_rules | `(tactic| walk_at "a") => wkL " L3.x5w L3.y5j L3.s_on L3.z7h L3.x0w L3.y6j L3.y6k L3.z8p"
def Vz{d:D}(h:d.my=true):Bs [d] = .ok (.bl (z7h d)):=by
 unfold Bs LU
 cases d<;>first | rfl | (simp[D.my] at h)
def tI(n q:Int):Prop:=(n=1/\q=1)∨(2<=q/\q<=n/\n%q=0/\∀e:Int,2<=e->e<q->n%e≠0)
def LY{n b:Int}(hn:1<=n)(b1:2<=b)(b2:b<n)(hb:n%b=0):n=b*(n/b)/\2<=n/b/\n/b<n/\n%(n/b)=0:=by
 have e1:n=b*(n/b):=by have:=Int.emod_add_mul_ediv n b;lia
 generalize hq:n/b=q at *
 have q0:0<q:=by
  rcases Int.lt_trichotomy 0 q with z | z | z
  .exact z
  .rw[<-z] at e1;simp at e1;lia
  .have:b*q<0:=Int.mul_neg_of_pos_of_neg (by lia) z
   lia
 have q1:q≠1:=λz=>by rw[z] at e1;lia
 have q2:2*q<=b*q:=Rj b1 (by lia)
 exact⟨e1,by lia,by lia,by rw[e1];exact Int.mul_emod_left b q⟩
def VA{n d:Int}(h1:1<=n)(d1:2<=d)(hq:¬d*d<=n)(hd:∀e:Int,2<=e->e<d->n%e≠0):tI n n:=by
 by_cases hn:n=1
 .exact .inl ⟨hn,hn⟩
 refine .inr ⟨by lia,by lia,Int.emod_self,λe e1 e2 z=>?_⟩
 obtain⟨c1,c2,c3,c4⟩:=LY h1 e1 e2 z
 have e3:d<=e:=by
  rcases Dy e d with w | w
  .exact absurd z (hd e e1 w)
  .exact w
 have e4:d<=n/e:=by
  rcases Dy (n/e) d with w | w
  .exact absurd c4 (hd _ c2 w)
  .exact w
 have:d*d<=e*(n/e):=Ae e3 e4 (by lia) (by lia)
 lia
def VB{n:Int}(h1:1<=n)(h2:n<=100000000):∀(k m:Nat) (O:G),m<k ->
 (∃d:Int,O=[.ro (.int n),.ro (.int d)]/\2<=d/\d<=10001/\(∀e:Int,2<=e->e<d->n%e≠0)/\(10001-d).toNat=m) ->
 (∃q,tI n q/\e_ (gT (af qp (af lz (gV 1) (gV 1)) (gV 0))) (aC (bL (gT (af bI (af a_ (gV 0) (gV 1)) (gC (.int 0)))) (bY (gV 1)) b8) (bF 1 (aB (af cu (gV 1) (gC (.int 1)))))) k O = .ok (.rt (.int q))) ∨
 (tI n n/\∃x,e_ (gT (af qp (af lz (gV 1) (gV 1)) (gV 0))) (aC (bL (gT (af bI (af a_ (gV 0) (gV 1)) (gC (.int 0)))) (bY (gV 1)) b8) (bF 1 (aB (af cu (gV 1) (gC (.int 1)))))) k O = .ok (.nx [.ro (.int n),x])):=by
 refine EG _ (λr=>(∃q,tI n q/\r = .ok (.rt (.int q)))∨(tI n n/\∃x,r = .ok (.nx [.ro (.int n),x]))) ?_
 rintro m O ⟨d,rfl,d1,d2,hd,hm⟩
 by_cases hq:d*d<=n
 .have e1:decide (d*d<=n)=true:=decide_eq_true hq
  have d3:d<10001:=by
   rcases Dy d 10001 with z | z
   .exact z
   .have:10001*10001<=d*d:=Ae z z (by lia) (by lia)
    lia
  refine .inr ⟨by walk_at "a";simp only[e1],?_⟩
  by_cases hz:n%d=0
  .have e2:(n%d==0)=true:=by simpa using hz
   have d5:2*d<=d*d:=Rj d1 (by lia)
   refine .inr (.inr (.inl ⟨.int d,?_,.inl ⟨d,.inr ⟨d1,by lia,hz,hd⟩,rfl⟩⟩))
   refine vr (fi (by walk_at "a";simp only[e2]) ?_)
   exact dF (by walk_at "a")
  .have e2:(n%d==0)=false:=by simpa using hz
   refine .inl ⟨[.ro (.int n),.ro (.int (d+1))],(10001-(d+1)).toNat,by lia,.inl ?_,d+1,rfl,by lia,by lia,λe z1 z2=>?_,rfl⟩
   .refine dz (by walk_at "a";simp only[e2]) ?_
    refine r9 ?_
    walk_at "a"
   .by_cases ee:e=d
    .rw[ee];exact hz
    .exact hd e z1 (by lia)
 .have e1:decide (d*d<=n)=false:=decide_eq_false hq
  exact .inl ⟨by walk_at "a";simp only[e1],.inr ⟨VA h1 d1 hq hd,_,rfl⟩⟩
def VC{n:Int}(h1:1<=n)(h2:n<=100000000):∃q,tI n q/\EW [.int n] = .ok (.int q):=by
 rcases VB h1 h2 10000 (10001-2:Int).toNat [.ro (.int n),.ro (.int 2)] (by decide) ⟨2,rfl,by lia,by lia,λe z1 z2=>by lia,rfl⟩ with ⟨q,hl,e⟩ | ⟨hl,x,e⟩
 .refine⟨q,hl,dn rfl ?_⟩
  delta EV
  refine c9 (d:=.int 2) (by walk_at "a") ?_
  exact vr e
 .refine⟨n,hl,dn rfl ?_⟩
  delta EV
  refine c9 (d:=.int 2) (by walk_at "a") ?_
  exact mB e (dF (by walk_at "a"))
def VD{n q:Int}(h1:3<=n)(h2:n<=9999)(h:tI n q):(q==n)=!hV n:=by
 rcases h with ⟨z,_⟩ | ⟨q1,q2,q3,q4⟩
 .lia
 by_cases e:q=n
 .subst e
  have:hV q=false:=by
   cases w:hV q with
   | false=>rfl
   | true =>
     obtain⟨b,b1,b2,b3,b4⟩:=(Br _).mp w
     exact absurd b4 (q4 b b1 b3)
  rw[this];simp
 .have:hV n=true:=by
   obtain⟨c1,c2,c3,c4⟩:=LY (by lia) q1 (by lia) q3
   by_cases w:q<100
   .exact(Br _).mpr ⟨q,q1,w,by lia,q3⟩
   .refine(Br _).mpr ⟨n/q,c2,?_,c3,c4⟩
    rcases Dy (n/q) 100 with z | z
    .exact z
    .have:100*100<=q*(n/q):=Ae (by lia) z (by lia) (by lia)
     lia
  rw[this]
  simp[e]
def vA(n:Int):Bool:=decide (3<=n)&&(decide (n<=9999)&&!hV n)
def ym:D->Bool
 | .int n=>vA n
 | _=>false
def tJ(d:D)(a b:Int):Bool :=
 match d with
 | .int n=>decide (a<=n)&&decide (n<=b)
 | _=>false
def Bu{d:D}{a b:Int}(h:d.my=true):vz [d,.int a,.int b] = .ok (.bl (tJ d a b)):=by
 refine dn rfl ?_
 delta LV
 refine dF ?_
 have hw:=Vz h
 cases hd:z7h d with
 | false =>
   rw[hd] at hw
   have:tJ d a b=false:=by cases d<;>first | rfl | (simp[z7h] at hd)
   rw[this]
   walk_at "a"
   simp only[hw]
   walk_at "a"
 | true =>
   rw[hd] at hw
   cases d with
   | int n =>
     walk_at "a"
     simp only[hw]
     walk_at "a"
     by_cases h3:a<=n
     .have e1:decide (a<=n)=true:=decide_eq_true h3
      simp only[e1]
      walk_at "a"
      show _=R.ok (D.bl (decide (a<=n)&&decide (n<=b)))
      rw[e1];rfl
     .have e1:decide (a<=n)=false:=decide_eq_false h3
      simp only[e1]
      walk_at "a"
      show _=R.ok (D.bl (decide (a<=n)&&decide (n<=b)))
      rw[e1];rfl
   | _=>simp[z7h] at hd
def EY{d:D}(h:d.my=true):Bt [d] = .ok (.bl (ym d)):=by
 refine dn rfl ?_
 delta LW
 refine dF ?_
 have hw:=Bu (a:=3) (b:=9999) h
 cases hd:tJ d 3 9999 with
 | false =>
   rw[hd] at hw
   have:ym d=false:=by
    cases d<;>first | rfl | skip
    rename_i n
    have hd:(decide (3<=n)&&decide (n<=9999))=false:=hd
    show(decide (3<=n)&&(decide (n<=9999)&&!hV n))=false
    simp only[Bool.and_eq_false_imp,decide_eq_true_eq,decide_eq_false_iff_not] at hd
    by_cases h3:3<=n
    .rw[decide_eq_false (hd h3)];simp
    .rw[decide_eq_false h3];rfl
   rw[this]
   walk_at "a"
   simp only[hw]
   walk_at "a"
 | true =>
   rw[hd] at hw
   cases d with
   | int n =>
     have hd:(decide (3<=n)&&decide (n<=9999))=true:=hd
     simp only[jP,decide_eq_true_eq] at hd
     obtain⟨q,hq,e3⟩:=VC (n:=n) (by lia) (by lia)
     have e4:=VD (by lia) (by lia) hq
     walk_at "a"
     simp only[hw]
     walk_at "a"
     simp only[e3]
     walk_at "a"
     rw[e4]
     show _=R.ok (D.bl (decide (3<=n)&&(decide (n<=9999)&&!hV n)))
     rw[decide_eq_true (show 3<=n by lia),decide_eq_true (show n<=9999 by lia)];rfl
   | _=>simp[tJ] at hd
def VE{d:D}(h:d.my=true)(hp:ym d=true):EX [d] = .ok d:=by
 refine dn rfl ?_
 delta LX
 have e:=EY h
 rw[hp] at e
 refine dz (by walk_at "a";simp only[e];walk_at "a") (dF ?_)
 walk_at "a"
noncomputable section
def VF:G->R Fl :=
 (bY (af aI (gL (bN (ae (af a_ (af dw (gV 0) (gC (.int 3))) (gC (.int 5))) (ae (af a_ (af dw (gV 0) (gC (.int 3))) (gC (.int 1000))) (ae (af a_ (af dw (gV 0) (gC (.int 3))) (af cu (af n7 (gC (.int 10)) (gC (.int 30))) (gC (.int 1)))) ak))))) (af a_ (gV 0) (gC (.int 3)))))
def EZ:List D->R D:=cL 1 1 VF
def E0:G->R Fl :=
 (aC (bF 4 (aB (af a_ (gV 0) (gV 3))))
 (aC (bF 5 (aB (az yj (ae (gV 1) (ae (gV 2) (ae (af cu (gV 3) (gC (.int 1))) ak))))))
 (aC (bL (jV (gT (af bI (af aI (gV 5) (gV 4)) (gC (.int 0)))) (gT (af qq (af a_ (af dw (gV 0) (gC (.int 3))) (gC (.int 6))) (gC (.int 0))))) (bF 5 (aB (af cu (af cu (eY (gV 5) bU (bJ (gV 4))) (jD (ae (af cu (gC (.int 1)) (af a_ (af dw (gV 0) (gC (.int 18))) (af mW (gV 2) (gC (.int 1))))) ak))) (eY (gV 5) (bJ (af cu (gV 4) (gC (.int 1)))) bU)))) b8)
 (bY (jD (ae (gC (.str "set")) (ae (gV 4) (ae (gV 5) ak))))))))
def E4:List D->R D:=cL 4 6 E0
def E5:G->R Fl :=
 (aC (c8 4 (bN ak))
 (aC (c8 5 (bN ak))
 (aC (lG 6 (EB (gC (.int 0)) (af mW (az yb (ae (az bX (ae (gV 0) ak)) (ae (gC (.int 60)) ak))) (gC (.int 1))) (gC (.int 2)))
 (aC (bF 7 (aB (af mW (az bX (ae (gV 4) ak)) (az yb (ae (af a_ (af dw (af aI (gV 0) (gV 6)) (gC (.int 4))) (gC (.int 4))) (ae (az bX (ae (gV 4) ak)) ak))))))
 (aC (bF 8 (aB (af cu (gC (.int 1)) (az vq (ae (gL (gf (gL (bN (ae (gC (.int 0)) ak))) (eY (gV 5) (bJ (gV 7)) bU))) ak)))))
 (bL (jV (gT (af bI (af a_ (af aI (gV 0) (gV 6)) (gC (.int 4))) (gC (.int 3)))) (jV (gT (af n8 (gV 8) (gC (.int 4)))) (gT (af qq (gV 3) (gC (.int 0)))))) (aC (c8 4 (gf (eY (gV 4) bU (bJ (gV 7))) (gL (bN (ae (jD (ae (gC (.str "again")) (ae (az EZ (ae (af aI (gV 0) (af cu (gV 6) (gC (.int 1)))) ak)) (ae (az ku (ae (eY (gV 4) (bJ (gV 7)) bU) ak)) ak)))) ak)))))
 (aC (c8 5 (gf (eY (gV 5) bU (bJ (gV 7))) (gL (bN (ae (gV 8) ak)))))
 (bF 3 (aB (af mW (gV 3) (gC (.int 1))))))) (aC (mZ 4 (aB (az E4 (ae (af dw (af aI (gV 0) (gV 6)) (gC (.int 4))) (ae (af aI (gV 0) (af cu (gV 6) (gC (.int 1)))) (ae (gV 1) (ae (gV 2) ak)))))))
 (mZ 5 (aB (gC (.int 0)))))))))
 (bY (az ku (ae (gV 4) ak))))))
def E8:List D->R D:=cL 4 9 E5
end
noncomputable section
end
end L3
namespace L3
open PySem
local macro_rules | `(tactic| walk_at "a") => wkL " L3.x5w L3.y5j L3.s_on L3.z7h L3.x0w L3.y6j L3.y6k L3.z8p L3.y8q L3.z5n"
inductive Item where
 | set (x:Int) (f:List Int)
 | again (n:Int) (xL:List Item)
mutual
def Item.d:Item->D
 | .set x f=>.tup [.str "set",.int x,gW f]
 | .again n xL=>.tup [.str "again",.int n,.tup (Item.ds xL)]
def Item.ds:List Item->List D
 | []=>[]
 | a::r=>a.d::Item.ds r
end
def Item.ds_map:∀xL:List Item,Item.ds xL=xL.map Item.d
 | []=>rfl
 | a::r=>by rw[Item.ds,Item.ds_map r];rfl
mutual
def Item.deep:Item->Nat
 | .set _ _=>0
 | .again _ xL=>1+Item.cz xL
def Item.cz:List Item->Nat
 | []=>0
 | a::r=>max a.deep (Item.cz r)
end
mutual
def Item.many:Item->Nat
 | .set _ _=>1
 | .again _ xL=>1+Item.aP xL
def Item.aP:List Item->Nat
 | []=>0
 | a::r=>a.many+Item.aP r
end
mutual
def Item.ok(P many:Int):Item->Prop
 | .set x f=>0<=x/\x<many/\(f.length:Int)=many+1/\yk P f
 | .again n xL=>0<=n/\n<=10^30/\Item.cB P many xL
def Item.cB(P many:Int):List Item->Prop
 | []=>True
 | a::r=>a.ok P many/\Item.cB P many r
end
def Item.hW{P many:Int}:∀{xL:List Item},Item.cB P many xL↔∀a∈xL,a.ok P many
 | []=>by simp[Item.cB]
 | a::r=>by simp[Item.cB,Item.hW (xL:=r)]
def Item.jF{k:Nat}:∀{xL:List Item},Item.cz xL<=k↔∀a∈xL,a.deep<=k
 | []=>by simp[Item.cz]
 | a::r=>by
   have:=Item.jF (k:=k) (xL:=r)
   simp only[Item.cz,gS,forall_eq_or_imp,<-this]
   lia
def Item.ni:∀{a b:List Item},Item.aP (a++b)=Item.aP a+Item.aP b
 | [],b=>by simp[Item.aP]
 | x::a,b=>by simp[Item.aP,Item.ni (a:=a)];lia
def Item.tK:∀a:Item,0<a.many
 | .set _ _=>by simp[Item.many]
 | .again _ _=>by simp[Item.many];lia
def Item.qD:∀xL:List Item,xL.length<=Item.aP xL
 | []=>a9 _
 | a::r=>by have:=a.tK;have:=Item.qD r;simp only[Item.aP,a3];lia
mutual
def Item.cy:∀a:Item,a.d.cy=true
 | .set x f=>by
   have:=z8p f
   simp[Item.d,D.cy,D.bQ,this]
 | .again n xL=>by
   have:=Item.bQ xL
   simp[Item.d,D.cy,D.bQ,this]
def Item.bQ:∀xL:List Item,D.bQ (Item.ds xL)=true
 | []=>rfl
 | a::r=>by
   have h1:=Item.cy a
   have h2:=Item.bQ r
   simp[Item.ds,D.bQ,h1,h2]
end
def Item.LZ(xL:List Item):D.bQ (xL.map Item.d)=true:=by rw[<-Item.ds_map];exact Item.bQ xL
def VG(c:Int):∃n:Int,EZ [.int c] = .ok (.int n)/\0<=n/\n<=10^30:=by
 have hw:c%3=0∨c%3=1∨c%3=2:=by lia
 have VH:(0:Int)<10^30+1:=by decide
 have n3:D.bQ [D.int (c/3%5),D.int (c/3%1000),D.int (c/3%(10^30+1))]=true:=rW [_,_,_]
 obtain⟨n,e,h1,h2⟩:∃n:Int,cV [D.int (c/3%5),D.int (c/3%1000),D.int (c/3%(10^30+1))] (c%3)=some (.int n)/\0<=n/\n<=10^30:=by
  rcases hw with w | w | w<;>rw[w]
  .exact⟨_,rfl,by omega,by have:(5:Int)<=10^30:=by decide
                           lia⟩
  .exact⟨_,rfl,by omega,by have:(1000:Int)<=10^30:=by decide
                           lia⟩
  .refine⟨_,rfl,mM _ (by lia),?_⟩
   have:=mO (c/3) VH
   exact Int.lt_add_one_iff.mp this
 refine⟨n,dn rfl (dF ?_),h1,h2⟩
 walk_at "a"
 simp only[e]
def VI{f:List Int}{x:Nat}{v P:Int}(hx:x<f.length)(hf:yk P f)(h0:0<=v)(hv:v<P):∃g:List Int,f.take x++[v]++f.drop (x+1)=g/\g.length=f.length/\yk P g/\g[x]? = some v:=by
 refine⟨_,rfl,?_,λn hn=>?_,?_⟩
 .simp only[aY,dW,gR,a3,iW];lia
 .simp only[nW,JK] at hn
  rcases hn with (h | h) | h
  .exact hf n (me h)
  .rw[h];exact⟨h0,hv⟩
  .exact hf n (mP h)
 .rw[jQ,uK (by rw[dW];lia),dW,Dt (by lia),JL];rfl
def VJ{c m P many:Int}(p1:3<=P)(p2:P<=9973)(m1:1<=many)(m2:many<=3):∃(x:Int) (f:List Int),E4 [.int c,.int m,.int P,.int many] = .ok (Item.set x f).d/\(Item.set x f).ok P many:=by
 have hl:=LN P (many+1).toNat m
 have ho:=LO (P:=P) (by lia) (many+1).toNat m
 have hx0:=EL (w:=c) (P:=many) (by lia)
 have hx1:=EM (w:=c) (P:=many) (by lia)
 generalize hf:pv P (many+1).toNat m=f at hl ho
 obtain⟨x,ex⟩:∃x:Nat,c%many=(x:Int):=⟨(c%many).toNat,by lia⟩
 have hx:x<f.length:=by lia
 have start:∀u r,u [.ro (.int c),.ro (.int m),.ro (.int P),.ro (.int many),.ro (.int x),.ro (gW f)]=r->aC (bF 4 (aB (af a_ (gV 0) (gV 3)))) (aC (bF 5 (aB (az yj (ae (gV 1) (ae (gV 2) (ae (af cu (gV 3) (gC (.int 1))) ak)))))) u) [.ro (.int c),.ro (.int m),.ro (.int P),.ro (.int many),.no,.no]=r:=λu r h=>by
  refine c9 (d:=.int x) (by walk_at "a";rw[ex]) (c9 (d:=gW f) (by walk_at "a";rw[hf];rfl) h)
 have L5:cV (f.map D.int) (x:Int)=some (.int (f[x]'hx)):=by
  rw[qr (by lia),jO,iq,gE hx];rfl
 by_cases hz:(f[x]'hx==0&&decide (0<c/3%6))=true
 .have hv0:=EL (w:=c/18) (P:=P-1) (by lia)
  have hv1:=EM (w:=c/18) (P:=P-1) (by lia)
  obtain⟨g,eg,gl,go,_⟩:=VI (v:=1+c/18%(P-1)) hx ho (by lia) (by lia)
  rw[jP] at hz
  refine⟨x,g,dn rfl ?_,by simp only[Item.ok];exact⟨by lia,by lia,by lia,go⟩⟩
  delta E0
  refine start _ _ (yg (O':=[.ro (.int c),.ro (.int m),.ro (.int P),.ro (.int many),.ro (.int x),.ro (gW g)]) ?_ ?_ ?_)
  .walk_at "a"
   simp only[gW,aI,L5]
   walk_at "a"
   simp only[hz.1,hz.2]
   walk_at "a"
  .refine(r9 (d:=gW g) ?_).trans rfl
   have VL:(x:Int)+1=((x+1:Nat):Int):=rfl
   have hlen:f.length<=4:=by lia
   walk_at "a"
   simp only[gW,A1,R.bB]
   rw[VL,r0,rZ,<-Dr,<-Ds]
   have lt:(f.take x).length<=4:=by rw[dW];lia
   have ld:(f.drop (x+1)).length<=4:=by rw[gR];lia
   have e2:(f.take x).map D.int++(D.int (1+c/18%(P-1))::(f.drop (x+1)).map D.int)=g.map D.int:=by rw[<-eg];simp
   have n2:=Ek g
   walk_at "a"
   rw[e2]
   walk_at "a"
  .exact dF (by walk_at "a";rfl)
 .refine⟨x,f,dn rfl ?_,by simp only[Item.ok];exact⟨by lia,by lia,by lia,ho⟩⟩
  delta E0
  refine start _ _ (dz ?_ (dF (by walk_at "a";rfl)))
  walk_at "a"
  simp only[gW,aI,L5]
  walk_at "a"
  cases q:(f[x]'hx==0) with
  | false=>simp
  | true =>
    rw[q,Rk] at hz
    simp[hz]
def h_(xL:List Item):List Int:=xL.map λa=>(a.deep:Int)
def VM(xL:List Item):lH (0::h_ xL)=(Item.cz xL:Int):=by
 refine Eq.symm (Lq ?_ ?_)
 .induction xL with
  | nil=>simp[Item.cz]
  | cons a r ih =>
    simp only[Item.cz,h_,gz,gS]
    by_cases h:Item.cz r<=a.deep
    .rw[Nat.max_eq_left h];exact .inr (.inl rfl)
    .rw[Nat.max_eq_right (by lia)]
     rcases List.mem_cons.mp ih with e | e
     .exact .inl e
     .exact .inr (.inr e)
 .intro b hb
  rcases List.mem_cons.mp hb with rfl | hb
  .lia
  .obtain⟨a,ha,rfl⟩:=List.mem_map.mp hb
   have:=Item.jF.mp (a9 (Item.cz xL)) a ha
   lia
def VN{gb:G->R Fl}{i:Nat}{ds:List D}{O:G}(I:Nat->G->Prop)(h0:I 0 O)(hq:∀(j:Nat) (d:D) (O:G),ds[j]? = some d->I j O->Ends (gb (O.set i (.ro d))) (I (j+1))):∃O',e8 gb i ds O = .ok (.nx O')/\I ds.length O':=by
 obtain⟨O',e,h'⟩:=Bd I ds 0 O h0 λj d O hd hI=>by rw[p9] at hI ⊢;exact hq j d O hd hI
 rw[p9] at h'
 exact⟨O',e,h'⟩
def L6{gs:G->R (List D)}{gb u:G->R Fl}{i:Nat}{ds:List D}{O:G}(T:R Fl->Prop)(I:Nat->G->Prop)(hi:gs O = .ok ds)(h0:I 0 O)(hq:∀(j:Nat) (d:D) (O:G),ds[j]? = some d->I j O->Ends (gb (O.set i (.ro d))) (I (j+1)))(h:∀O',I ds.length O'->T (u O')):T (aC (lG i gs gb) u O):=by
 obtain⟨O',e,h'⟩:=VN I h0 hq
 rw[Lw hi e rfl];exact h O' h'
def VO{cs:List Int}{P many ag:Int}(p1:3<=P)(p2:P<=9973)(m1:1<=many)(m2:many<=3)(xQ:cs.length<=63) :
 ∃xL:List Item,E8 [.lst (cs.map D.int),.int P,.int many,.int ag] = .ok (.tup (xL.map Item.d))/\Item.cB P many xL/\Item.cz xL<=3/\Item.aP xL<=30/\2*Item.aP xL<=cs.length:=by
 suffices h:∃xL:List Item,E5 [.ro (.lst (cs.map D.int)),.ro (.int P),.ro (.int many),.ro (.int ag),.no,.no,.no,.no,.no] = .ok (.rt (.tup (xL.map Item.d)))/\Item.cB P many xL/\Item.cz xL<=3/\Item.aP xL<=30/\2*Item.aP xL<=cs.length by
  obtain⟨xL,e,h'⟩:=h
  exact⟨xL,dn rfl e,h'⟩
 delta E5
 rw[gp (ds:=[]) (by walk_at "a") rfl,gp (ds:=[]) (by walk_at "a") rfl]
 let I:Nat->G->Prop:=λj O=>∃(xL:List Item) (a:Int) (x6 x7 x8:En),O=[.ro (.lst (cs.map D.int)),.ro (.int P),.ro (.int many),.ro (.int a),.own (xL.map Item.d),.own ((h_ xL).map D.int),x6,x7,x8]/\Item.cB P many xL/\Item.cz xL<=3/\Item.aP xL<=j
 obtain⟨n,hn,AV,en⟩:∃n:Nat,n<=30/\2*n<=cs.length/\lD 0 ((if (60:Int)<cs.length then 60 else (cs.length:Int))-1) 2=n:=by
  refine⟨_,?_,?_,rfl⟩<;>unfold lD<;>split<;>lia
 have sm:(mz 0 2 n).length=n:=by unfold mz;simp
 refine L6 (ds:=mz 0 2 n) (λr=>∃xL:List Item,r = .ok (.rt (.tup (xL.map Item.d)))/\Item.cB P many xL/\Item.cz xL<=3/\Item.aP xL<=30/\2*Item.aP xL<=cs.length) I ?_ ⟨[],ag,.no,.no,.no,rfl,Dz,rK _,rK _⟩ ?turn ?_
 .walk_at "a"
  have r1:(-1073741824:Int)<=(if (60:Int)<cs.length then 60 else (cs.length:Int))-1/\(if (60:Int)<cs.length then 60 else (cs.length:Int))-1<1073741824:=by split<;>lia
  walk_at "a"
  rw[en]
 case turn =>
  clear en sm
  rintro j d O hd ⟨xL,a,x6,x7,x8,rfl,h1,h2,h3⟩
  obtain⟨hj,rfl⟩:=Vy hd
  have vB:=Item.qD xL
  have e0:(0:Int)+2*(j:Int)=((2*j:Nat):Int):=by lia
  rw[e0]
  have c0:=ET (ns:=cs) (k:=((2*j:Nat):Int)) (by lia) (by lia)
  have c1:=ET (ns:=cs) (k:=((2*j:Nat):Int)+1) (by lia) (by lia)
  generalize gU cs ((2*j:Nat):Int)=y at c0
  generalize gU cs (((2*j:Nat):Int)+1)=z at c1
  clear e0
  obtain⟨w,hw,ew⟩:∃w:Nat,w<=xL.length/\(xL.length:Int)-(if (xL.length:Int)<y/4%4 then (xL.length:Int) else y/4%4)=w:=by
   refine⟨((xL.length:Int)-(if (xL.length:Int)<y/4%4 then (xL.length:Int) else y/4%4)).toNat,?_,?_⟩<;>split<;>lia
  have hd2:(h_ xL).drop w=h_ (xL.drop w):=by unfold h_;rw[Ds]
  have n0:D.bQ [D.int 0]=true:=rW [0]
  have nd:D.bQ (D.int 0::(h_ (xL.drop w)).map D.int)=true:=rW (0::h_ (xL.drop w))
  have ll:(h_ (xL.drop w)).length<=30:=by unfold h_;rw[aZ,gR];lia
  rw[c9 (d:=.int w) (by walk_at "a";simp only[aI,c0];walk_at "a";rw[ew]) rfl]
  rw[c9 (d:=.int (1+(Item.cz (xL.drop w):Int))) (by
   walk_at "a"
   rw[rZ,<-Ds,hd2]
   walk_at "a"
   rw[a4 ⟨by lia,nd⟩]
   walk_at "a"
   rw[VM]) rfl]
  generalize hk:Item.cz (xL.drop w)=lv
  by_cases hc:y%4=3/\lv<3/\0<a
  .obtain⟨oy,mq,yn⟩:=hc
   have b1:(y%4==3)=true:=by simpa using oy
   have b2:decide (1+(lv:Int)<4)=true:=decide_eq_true (by lia)
   have b3:decide (0<a)=true:=decide_eq_true yn
   obtain⟨m,em,m3,m4⟩:=VG z
   have d4:(Item.again m (xL.drop w)).d = .tup [.str "again",.int m,.tup ((xL.drop w).map Item.d)]:=by rw[Item.d,Item.ds_map]
   have q4:D.bQ [(Item.again m (xL.drop w)).d]=true:=by have:=Item.cy (Item.again m (xL.drop w));simp only[D.bQ,this,Bool.and_true]
   have q5:D.bQ ((xL.take w).map Item.d++[(Item.again m (xL.drop w)).d])=true:=by have:=Item.LZ (xL.take w++[Item.again m (xL.drop w)]);rwa [iK] at this
   have l4:((xL.take w).map Item.d).length<=30:=by rw[aZ,dW];lia
   refine .nx (O:=[.ro (.lst (cs.map D.int)),.ro (.int P),.ro (.int many),.ro (.int (a-1)),.own ((xL.take w++[Item.again m (xL.drop w)]).map Item.d),.own ((h_ (xL.take w++[Item.again m (xL.drop w)])).map D.int),.ro (.int ((2*j:Nat):Int)),.ro (.int w),.ro (.int (1+(lv:Int)))]) (fi ?_ (gp (ds:=(xL.take w++[Item.again m (xL.drop w)]).map Item.d) ?_ (gp (ds:=(h_ (xL.take w++[Item.again m (xL.drop w)])).map D.int) ?_ ((r9 (d:=.int (a-1)) ?_).trans rfl)))) ⟨_,_,_,_,_,rfl,?_,?_,?_⟩
   .walk_at "a"
    simp only[aI,c0]
    walk_at "a"
    simp only[b1,b2,b3]
    walk_at "a"
   .walk_at "a"
    simp only[aI,c1,R.bB,em]
    walk_at "a"
    rw[rZ,r0,<-Ds,<-Dr,<-d4,a4 q4]
    walk_at "a"
    rw[a4 ⟨by rw[aZ] at l4;lia,q5⟩,iK]
    rfl
   .have n1:D.bQ [D.int (1+(lv:Int))]=true:=rW [_]
    have e5:(h_ (xL.take w++[Item.again m (xL.drop w)])).map D.int=((h_ xL).take w).map D.int++[D.int (1+(lv:Int))]:=by
     unfold h_
     rw[iK,iK,Dr]
     simp only[gz,rD,Item.deep,hk]
     push_cast
     rfl
    have n5:=rW (h_ (xL.take w++[Item.again m (xL.drop w)]))
    have l5:((h_ xL).take w).length<=30:=by unfold h_;rw[dW,aZ];lia
    rw[e5] at n5 ⊢
    walk_at "a"
    rw[r0,<-Dr,a4 ⟨by rw[aZ];lia,n5⟩]
   .walk_at "a"
   .rw[Item.hW] at h1 ⊢
    intro b hb
    rcases List.mem_append.mp hb with hb | hb
    .exact h1 b (me hb)
    .rw[List.mem_singleton.mp hb,Item.ok]
     exact⟨m3,m4,Item.hW.mpr λb hb=>h1 b (mP hb)⟩
   .rw[Item.jF] at h2 ⊢
    intro b hb
    rcases List.mem_append.mp hb with hb | hb
    .exact h2 b (me hb)
    .rw[List.mem_singleton.mp hb,Item.deep,hk];lia
   .have e1:Item.aP xL=Item.aP (xL.take w)+Item.aP (xL.drop w):=by rw[<-Item.ni,Af]
    rw[Item.ni]
    simp only[Item.aP,Item.many]
    lia
  .obtain⟨x,f,es,hx⟩:=VJ (c:=y/4) (m:=z) p1 p2 m1 m2
   have nx:=Item.cy (Item.set x f)
   have l6:(xL.map Item.d).length<=30:=by rw[aZ];lia
   have l7:((h_ xL).map D.int).length<=30:=by unfold h_;rw[aZ,aZ];lia
   refine .nx (O:=[.ro (.lst (cs.map D.int)),.ro (.int P),.ro (.int many),.ro (.int a),.own ((xL++[Item.set x f]).map Item.d),.own ((h_ (xL++[Item.set x f])).map D.int),.ro (.int ((2*j:Nat):Int)),.ro (.int w),.ro (.int (1+(lv:Int)))]) (EI ?_ (mB (O':=[.ro (.lst (cs.map D.int)),.ro (.int P),.ro (.int many),.ro (.int a),.own ((xL++[Item.set x f]).map Item.d),.own ((h_ xL).map D.int),.ro (.int ((2*j:Nat):Int)),.ro (.int w),.ro (.int (1+(lv:Int)))]) ?_ ?_)) ⟨_,_,_,_,_,rfl,?_,?_,?_⟩
   .walk_at "a"
    simp only[aI,c0]
    walk_at "a"
    cases b1:(y%4==3) with
    | false=>rfl
    | true =>
      simp only[if_true]
      have:¬(1+(lv:Int)<4/\0<a):=λz=>hc ⟨by simpa using b1,by lia,z.2⟩
      by_cases b2:1+(lv:Int)<4
      .have b3:decide (0<a)=false:=decide_eq_false λz=>this ⟨b2,z⟩
       simp only[decide_eq_true b2,b3,if_true]
      .simp only[decide_eq_false b2]
       rfl
   .rw[iK]
    walk_at "a"
    simp only[aI,c0,c1]
    walk_at "a"
    simp only[es]
    walk_at "a"
   .unfold h_
    rw[iK,iK]
    simp only[gz,rD,Item.deep]
    walk_at "a"
    simp
   .rw[Item.hW] at h1 ⊢
    intro b hb
    rcases List.mem_append.mp hb with hb | hb
    .exact h1 b hb
    .rw[List.mem_singleton.mp hb];exact hx
   .rw[Item.jF] at h2 ⊢
    intro b hb
    rcases List.mem_append.mp hb with hb | hb
    .exact h2 b hb
    .rw[List.mem_singleton.mp hb,Item.deep];lia
   .rw[Item.ni]
    simp only[Item.aP,Item.many]
    lia
 .rintro O ⟨xL,a,x6,x7,x8,rfl,h1,h2,h3⟩
  rw[sm] at h3
  exact⟨xL,dF (by walk_at "a"),h1,h2,by lia,by lia⟩
def w6d:((oX "set")==(oX "again"))=false:=by trivial
def w6e:((oX "again")==(oX "set"))=false:=by trivial
def w4x(n:Nat):D.lay n (.str (oX "set"))=true:=by rw[kq];trivial
def x7l(n:Nat):D.lay n (.str (oX "again"))=true:=by rw[kq];trivial
def L7(a b c:D):aI (.tup [a,b,c]) (.int 2) = .ok c:=rfl
def Item.yo:∀{xL:List Item} {a:Item},a∈xL->a.many<=Item.aP xL
 | b::r,a,h=>by
   rcases List.mem_cons.mp h with rfl | h
   .simp only[Item.aP];lia
   .have:=Item.yo h
    simp only[Item.aP];lia
section
variable {P:Int}{n:Nat}{t:List (List Int)}
end
def VP(ns:List Int)(lo hi:Option Int):eD (ns.map D.int) lo hi=(eD ns lo hi).map D.int:=n9 D.int ns lo hi
def VQ{α:Type}(xs:List α)(lo hi:Option Int):(eD xs lo hi).length<=xs.length:=by
 unfold eD;rw[dW,gR];lia
def E9(xL:List Item):(D.tup (xL.map Item.d)).cy=true:=by have:=Item.LZ xL;simpa [D.cy] using this
def VR(c:Int):∃m:Nat,1+c%3=(m:Int)/\1<=m/\m<=3:=⟨(1+c%3).toNat,by lia,by lia,by lia⟩
mutual
def Item.VS:Item->Int
 | .set _ _=>1
 | .again n xL=>n*Item.E_ xL
def Item.E_:List Item->Int
 | []=>0
 | a::r=>a.VS+Item.E_ r
end
noncomputable section
end
def VT{xL:List Item}{j:Nat}{d:D}(h:(xL.map Item.d)[j]? = some d):∃a:Item,xL[j]? = some a/\d=a.d/\a∈xL:=by
 rw[jO] at h
 cases q:xL[j]? with
 | none=>rw[q] at h;cases h
 | some a=>rw[q] at h;cases h;exact⟨a,rfl,rfl,Jv q⟩
mutual
def Item.few:Item->Item
 | .set x f=>.set x f
 | .again n xL=>.again (if Item.E_ (Item.Fb xL)=0 then n else n%5) (Item.Fb xL)
def Item.Fb:List Item->List Item
 | []=>[]
 | a::r=>a.few::Item.Fb r
end
noncomputable section
def Bv(Fc:List D->R D):G->R Fl :=
 (aC (bF 2 (aB (gV 1)))
 (aC (lG 3 (r8 (b7 0))
 (aC (bF 2 (aB (af cu (gV 2) (gC (.int 1)))))
 (aC (bL (gT (af qq (gV 2) (gC (.int 30)))) (gj .dE) b8)
 (bL (gT (af bI (af aI (gV 3) (gC (.int 0))) (gC (.str "again")))) (bF 2 (aB (az Fc (ae (af aI (gV 3) (gC (.int 2))) (ae (gV 2) ak))))) b8))))
 (bY (gV 2))))
def pz:Nat->List D->R D
 | 0=>λ_=>.no
 | n+1=>cL 2 4 (Bv (pz n))
def Bw:G->R Fl :=
 (aC (bL (jW (gT (az vz (ae (gV 2) (ae (gC (.int 0)) (ae (af mW (gV 1) (gC (.int 1))) ak)))))) (gj .dE) b8)
 (aC (bL (gT (af iM (az bX (ae (gV 3) ak)) (af cu (gV 1) (gC (.int 1))))) (gj .dE) b8)
 (bY (jD (ae (gC (.str "set")) (ae (gV 2) (ae (az ku (ae (gL (fh (jZ (gV 3)) (fU (aB (az (jY Bq) (ae (gV 1) (ae (gV 0) ak))))))) ak)) ak)))))))
def Fd:List D->R D:=cL 4 4 Bw
end
inductive Raw where
 | set (x:Int) (f:List Int)
 | again (n:Int) (l:Bool) (xL:List Raw)
def jj(l:Bool)(ds:List D):D:=if l then .lst ds else .tup ds
mutual
def Raw.d:Raw->D
 | .set x f=>.tup [.str "set",.int x,gW f]
 | .again n l xL=>.tup [.str "again",.int n,jj l (Raw.ds xL)]
def Raw.ds:List Raw->List D
 | []=>[]
 | a::r=>a.d::Raw.ds r
end
def Raw.ds_map:∀xL:List Raw,Raw.ds xL=xL.map Raw.d
 | []=>rfl
 | a::r=>by rw[Raw.ds,Raw.ds_map r];rfl
mutual
def Raw.deep:Raw->Nat
 | .set _ _=>0
 | .again _ _ xL=>1+Raw.cz xL
def Raw.cz:List Raw->Nat
 | []=>0
 | a::r=>max a.deep (Raw.cz r)
end
mutual
def Raw.many:Raw->Nat
 | .set _ _=>1
 | .again _ _ xL=>1+Raw.aP xL
def Raw.aP:List Raw->Nat
 | []=>0
 | a::r=>a.many+Raw.aP r
end
mutual
def Raw.ok(many:Int):Raw->Prop
 | .set x f=>0<=x/\x<many/\(f.length:Int)=many+1
 | .again n _ xL=>0<=n/\n<=10^30/\Raw.cB many xL
def Raw.cB(many:Int):List Raw->Prop
 | []=>True
 | a::r=>a.ok many/\Raw.cB many r
end
mutual
def Raw.made(P:Int):Raw->Item
 | .set x f=>.set x (f.map (·%P))
 | .again n _ xL=>.again n (Raw.tL P xL)
def Raw.tL(P:Int):List Raw->List Item
 | []=>[]
 | a::r=>a.made P::Raw.tL P r
end
def Raw.L8(P:Int):∀xL:List Raw,Raw.tL P xL=xL.map (Raw.made P)
 | []=>rfl
 | a::r=>by rw[Raw.tL,Raw.L8 P r];rfl
def Raw.L9:∀{xL:List Raw} {a:Raw},a∈xL->a.deep<=Raw.cz xL
 | b::r,a,h=>by
   simp only[Raw.cz]
   rcases List.mem_cons.mp h with rfl | h
   .lia
   .have:=Raw.L9 h;lia
def Raw.yo:∀{xL:List Raw} {a:Raw},a∈xL->a.many<=Raw.aP xL
 | b::r,a,h=>by
   simp only[Raw.aP]
   rcases List.mem_cons.mp h with rfl | h
   .lia
   .have:=Raw.yo h;lia
def Raw.tK:∀a:Raw,0<a.many
 | .set _ _=>by simp[Raw.many]
 | .again _ _ _=>by simp[Raw.many];lia
def Raw.qD:∀xL:List Raw,xL.length<=Raw.aP xL
 | []=>a9 _
 | a::r=>by have:=a.tK;have:=Raw.qD r;simp only[Raw.aP,a3];lia
def L_(a b c:D):aI (.tup [a,b,c]) (.int 1) = .ok b:=rfl
noncomputable section
end
mutual
def Item.j5:Item->Raw
 | .set x f=>.set x f
 | .again n xL=>.again n false (Item.lK xL)
def Item.lK:List Item->List Raw
 | []=>[]
 | a::r=>a.j5::Item.lK r
end
noncomputable section
def Ma:G->R Fl :=
 (aC (bF 3 (aB (gC (.str "abcdefghijklmnopqrstuvwxyz"))))
 (aC (bF 4 (aB (af cu (gC (.int 1)) (af a_ (gV 0) (gC (.int 8))))))
 (aC (c8 5 (bN ak))
 (aC (lG 6 (lE (gV 2))
 (aC (bF 7 (aB (gC (.str ""))))
 (aC (lG 8 (lE (gV 4))
 (aC (bF 9 (aB (af cu (af cu (af lz (af dw (gV 0) (gC (.int 64))) (af cu (af lz (gC (.int 2)) (gV 8)) (gC (.int 1)))) (af lz (af dw (gV 1) (gC (.int 26))) (gV 8))) (af lz (af lz (gC (.int 7)) (gV 8)) (gV 8)))))
 (aC (bL (gT (af bI (gV 8) (af a_ (af dw (gV 0) (gC (.int 8))) (gV 4)))) (bF 9 (aB (af cu (gV 9) (af lz (af cu (gC (.int 1)) (af lz (gC (.int 2)) (af a_ (gV 1) (gC (.int 6))))) (gV 6))))) b8)
 (bF 7 (aB (af z5z (gV 7) (af dIxS (gV 3) (af a_ (gV 9) (gC (.int 26))))))))))
 (aC (bL (gT (af dIn (gV 7) (jD (ae (gC (.str "set")) (ae (gC (.str "again")) ak))))) (bF 7 (aB (af z5z (gV 7) (gC (.str "x"))))) b8)
 (mZ 5 (aB (gV 7)))))))
 (bY (az ku (ae (gV 5) ak)))))))
def Fe:List D->R D:=cL 3 10 Ma
def Ff(VU:List D->R (List D)):G->R Fl :=
 (aC (c8 2 (bN ak))
 (aC (lG 3 (r8 (b7 1))
 (bL (gT (af bI (af aI (gV 3) (gC (.int 0))) (gC (.str "set")))) (c8 2 (f_ (gf (gV 2) (gL (bN (ae (gC (.str "set")) (ae (af aI (gV 0) (af aI (gV 3) (gC (.int 1)))) ak))))) (fh (jZ (af aI (gV 3) (gC (.int 2)))) (fU (aB (az iN (ae (gV 0) ak))))))) (c8 2 (f_ (f_ (gf (gV 2) (gL (bN (ae (gC (.str "again")) (ae (az iN (ae (af aI (gV 3) (gC (.int 1))) ak)) (ae (gC (.str "[")) ak)))))) (kv VU (ae (gV 0) (ae (af aI (gV 3) (gC (.int 2))) ak)))) (bN (ae (gC (.str "]")) ak))))))
 (vp 2)))
def qE:Nat->List D->R (List D)
 | 0=>λ_=>.no
 | n+1=>oa 2 4 (Ff (qE n))
def Mb:G->R Fl :=
 (aC (c8 3 (bN (ae (af z5z (gC (.str "prime ")) (az iN (ae (gV 0) ak))) (ae (kP " " (gL (f_ (bN (ae (gC (.str "boxes")) ak)) (ji (gV 1))))) (ae (kP " " (gL (f_ (bN (ae (gC (.str "do")) ak)) (kv (qE 12) (ae (gV 1) (ae (gV 2) ak)))))) ak)))))
 (bY (kP "\n" (gV 3))))
def Fg:List D->R D:=cL 3 4 Mb
def Fh:G->R Fl :=
 (bY (ko (af qp (gC (.int 1)) (az y1l (ae (gV 0) ak))) (ko (af qp (az y1l (ae (gV 0) ak)) (gV 2)) (az pb (ae (gL (fh (y1t (gV 0)) (fU (aB (af dInS (gV 0) (gV 2)))))) ak)))))
def pD:List D->R D:=cL 3 3 Fh
def Bx:G->R Fl :=
 (aC (bL (kn (jW (gT (az pD (ae (gV 0) (ae (gC (.str "0123456789")) (ae (gC (.int 31)) ak)))))) (jV (gT (af bI (af dIxS (gV 0) (gC (.int 0))) (gC (.str "0")))) (gT (af iM (gV 0) (gC (.str "0")))))) (gj .aQ) b8)
 (bY (az vw (ae (gV 0) ak))))
def jG:List D->R D:=cL 1 1 Bx
def yq:G->R (D×List D) :=
 (fj (bL (gT (af n8 (az bX (ae (gV 0) ak)) (gV 1))) (gj .aQ) b8)
 (vt 0 (gV 1)))
def nj:List D->R (D×List D):=ng 2 2 0 yq
def yr:G->R (D×List D) :=
 (ot 0 (qA 0 (nc iM 0 (gq nj (z4u 0 (ae (aB (gC (.int 1))) ak))) (gL (bN (ae (gV 1) ak)))) (gj .aQ)))
def yt:List D->R (D×List D):=ng 2 2 0 yr
def vC:G->R Fl :=
 (aC (bF 2 (aB (az jG (ae (gV 1) ak))))
 (aC (bL (gT (af vg (gV 2) (gV 0))) (gj .aQ) b8)
 (bY (gV 2))))
def ky:List D->R D:=cL 2 3 vC
def mD:G->R (D×List D) :=
 (fj (lI 3 2 (pj 2 (gq nj (z4u 2 (ae (aB (gC (.int 1))) ak))) (gC (.int 0))))
 (fj (bL (gT (af z9s (gV 3) (gV 1))) (gj .aQ) b8)
 (fj (oj 4 2 (gq nj (z4u 2 (ae (aB (af cu (az bX (ae (gV 1) ak)) (gC (.int 1)))) ak))) (fU (aB (az ky (ae (gV 1) (ae (gV 0) ak))))))
 (pk 2 (jD (ae (aB (gC (.str "set"))) (ae (aB (tH (gV 1) (gV 3))) (ae (aB (az ku (ae (gV 4) ak))) ak))))))))
def oz:List D->R (D×List D):=ng 3 5 2 mD
def kR(Fi:List D->R (D×List D))(Fj:List D->R (D×List D))(Fm:List D->R (D×List D)):G->R (D×List D) :=
 (fj (bL (gT (af vg (gV 3) (gC (.int 3)))) (gj .aQ) b8)
 (fj (lI 4 2 (oi jG (pj 2 (gq nj (z4u 2 (ae (aB (gC (.int 1))) ak))) (gC (.int 0)))))
 (fj (qz 2 (gq yt (z4u 2 (ae (aB (gC (.str "["))) ak))))
 (fj (lI 5 2 (gq Fm (ae (b7 0) (ae (b7 1) (z4u 2 (ae (aB (af cu (gV 3) (gC (.int 1)))) ak))))))
 (fj (qz 2 (gq yt (z4u 2 (ae (aB (gC (.str "]"))) ak))))
 (pk 2 (jD (ae (aB (gC (.str "again"))) (ae (b7 4) (ae (b7 5) ak))))))))))
def tM(Fi:List D->R (D×List D))(Fj:List D->R (D×List D))(Fm:List D->R (D×List D)):G->R (D×List D) :=
 (fj (lI 4 2 (pj 2 (gq nj (z4u 2 (ae (aB (gC (.int 1))) ak))) (gC (.int 0))))
 (oq (gT (af bI (gV 4) (gC (.str "set")))) (gq oz (ae (b7 0) (ae (b7 1) (z4u 2 ak))))
 (oq (gT (af bI (gV 4) (gC (.str "again")))) (gq Fi (ae (b7 0) (ae (b7 1) (z4u 2 (ae (b7 3) ak)))))
 (Lz .aQ))))
def qF(Fi:List D->R (D×List D))(Fj:List D->R (D×List D))(Fm:List D->R (D×List D)):G->R (D×List D) :=
 (fj (c8 4 (bN ak))
 (fj (e_ (jV (z9o (gV 2)) (gT (af iM (af aI (gV 2) (rY (gC (.int 1)))) (gC (.str "]"))))) (j4 4 2 (gq Fj (ae (b7 0) (ae (b7 1) (z4u 2 (ae (b7 3) ak)))))) 200)
 (pk 2 (aB (az ku (ae (gV 4) ak))))))
mutual
def fN:Nat->List D->R (D×List D)
 | 0=>λ_=>.no
 | n+1=>ng 4 6 2 (kR (fN n) (dX n) (dG n))
def dX:Nat->List D->R (D×List D)
 | 0=>λ_=>.no
 | n+1=>ng 4 5 2 (tM (fN n) (dX n) (dG n))
def dG:Nat->List D->R (D×List D)
 | 0=>λ_=>.no
 | n+1=>ng 4 5 2 (qF (fN n) (dX n) (dG n))
end
def Fo:G->R Fl :=
 (bY (ko (az pD (ae (gV 0) (ae (gC (.str "abcdefghijklmnopqrstuvwxyz")) (ae (gC (.int 8)) ak)))) (af z9s (gV 0) (jD (ae (gC (.str "set")) (ae (gC (.str "again")) ak))))))
def tN:List D->R D:=cL 1 1 Fo
def vD:G->R Fl :=
 (aC (bL (kn (jW (z9o (gV 0))) (kn (gT (af qq (az bX (ae (gV 0) ak)) (gC (.int 3)))) (gT (af iM (vv (gV 0)) (az bX (ae (gV 0) ak)))))) (gj .aQ) b8)
 (aC (bL (jW (gT (az pb (ae (gL (fh (jZ (gV 0)) (fU (aB (az (jY tN) (ae (gV 0) ak)))))) ak)))) (gj .aQ) b8)
 (bY (az ku (ae (gV 0) ak)))))
def mE:List D->R D:=cL 1 1 vD
def yu:G->R Fl :=
 (aC (bL (gT (af iM (az bX (ae (gV 0) ak)) (gC (.int 1)))) (gj .aQ) b8)
 (aC (bF 1 (aB (az jG (ae (af aI (gV 0) (gC (.int 0))) ak))))
 (aC (bL (jW (gT (az Bt (ae (gV 1) ak)))) (gj .aQ) b8)
 (bY (gV 1)))))
def j6:List D->R D:=cL 1 2 yu
def yv:G->R Fl :=
 (aC (c8 2 (oh " " (gV 0)))
 (aC (bL (gT (af iM (af aI (gV 2) (gC (.int 0))) (gV 1))) (gj .aQ) b8)
 (ye (jE (gV 2) (bJ (gC (.int 1))) bU))))
def jn:List D->R (List D):=oa 2 3 yv
end
noncomputable section
def Mc:G->R Fl :=
 (aC (bF 4 (aB (af dw (gV 2) (gC (.int 18)))))
 (aC (c8 5 (fh (lE (af cu (az bX (ae (gV 1) ak)) (gC (.int 1)))) (fU (aB (az iN (ae (af a_ (af dw (gV 5) (af cu (gV 0) (gC (.int 1)))) (gV 1)) ak))))))
 (aC (bF 6 (aB (af a_ (gV 4) (az bX (ae (gV 5) ak)))))
 (aC (bF 7 (aB (af aI (gL (bN (ae (gC (.str "01")) (ae (gC (.str "+1")) (ae (gC (.str "-1")) (ae (gC (.str "1_0")) (ae (gC (.str "")) (ae (gC (.str "1.0")) (ae (az iN (ae (af cu (gV 0) (af a_ (gV 4) (af n7 (gC (.int 10)) (gC (.int 20))))) ak)) ak))))))))) (af a_ (af dw (gV 4) (gC (.int 5))) (gC (.int 7))))))
 (aC (c8 8 (gf (gL (gf (eY (gV 5) bU (bJ (gV 6))) (gL (bN (ae (gV 7) ak))))) (eY (gV 5) (bJ (af cu (gV 6) (gC (.int 1)))) bU)))
 (aC (c8 9 (bN (ae (gC (.str "set")) (ae (af aI (gV 1) (af a_ (gV 4) (az bX (ae (gV 1) ak)))) ak))))
 (aC (bF 10 (gL (z5n (ae (gL (gf (gV 9) (gV 8))) (ae (gL (gf (gV 9) (eY (gV 5) (bJ (gC (.int 1))) bU))) (ae (gL (f_ (gf (gV 9) (gV 5)) (bN (ae (gC (.str "0")) ak)))) (ae (gL (z5n (ae (aB (gC (.str "set"))) (ae (aB (gC (.str ""))) (ae (aB (gC (.str "0"))) (ae (aB (gC (.str "0"))) ak)))))) (ae (gL (z5n (ae (aB (gC (.str "]"))) ak))) ak))))))))
 (aC (bF 10 (gL (se (b7 10) (gL (z5n (ae (gL (gf (gL (bN (ae (gC (.str "set")) (ae (af z5z (gC (.str "setx")) (af aI (gV 1) (gC (.int 0)))) ak)))) (gV 5))) (ae (gL (z5n (ae (aB (gC (.str "again"))) (ae (aB (gC (.str "1"))) ak)))) (ae (gL (z5n (ae (aB (gC (.str "again"))) (ae (aB (gC (.str "1"))) (ae (aB (gC (.str "["))) ak))))) (ae (gL (z5n (ae (aB (gC (.str "again"))) (ae (aB (gC (.str "00"))) (ae (aB (gC (.str "["))) (ae (aB (gC (.str "]"))) ak)))))) ak)))))))))
 (aC (bF 10 (gL (se (b7 10) (gL (z5n (ae (gL (z5n (ae (aB (gC (.str "again"))) (ae (aB (az iN (ae (af cu (af cu (af n7 (gC (.int 10)) (gC (.int 30))) (gC (.int 1))) (af a_ (gV 4) (af n7 (gC (.int 10)) (gC (.int 20))))) ak))) (ae (aB (gC (.str "["))) (ae (aB (gC (.str "]"))) ak)))))) (ae (gL (z5n (ae (aB (gC (.str "Again"))) (ae (aB (gC (.str "1"))) (ae (aB (gC (.str "["))) (ae (aB (gC (.str "]"))) ak)))))) (ae (gL (z5n (ae (aB (gC (.str "["))) ak))) ak))))))))
 (aC (bF 10 (gL (se (b7 10) (gL (z5n (ae (gL (f_ (gRep (bN (ae (gC (.str "again")) (ae (gC (.str "0")) (ae (gC (.str "[")) ak)))) (gC (.int 4))) (gRep (bN (ae (gC (.str "]")) ak)) (gC (.int 4))))) (ae (gL (gRep (gf (gV 9) (gV 5)) (af mW (gC (.int 31)) (gV 3)))) ak)))))))
 (aC (bF 10 (gL (se (b7 10) (gL (z5n (ae (gL (z5n (ae (aB (gC (.str "again"))) (ae (aB (gC (.str "+1"))) (ae (aB (gC (.str "["))) (ae (aB (gC (.str "]"))) ak)))))) (ae (gL (z5n (ae (aB (gC (.str "again"))) (ae (af aI (gL (z5n (ae (aB (gC (.str "1_0"))) (ae (aB (gC (.str "-0"))) (ae (aB (gC (.str "1.0"))) ak))))) (af a_ (gV 4) (gC (.int 3)))) (ae (aB (gC (.str "["))) (ae (aB (gC (.str "]"))) ak)))))) ak)))))))
 (bY (af aI (gL (se (b7 10) (gL (z5n (ae (gL (z5n (ae (aB (gC (.str "again"))) ak))) (ae (gL (z5n (ae (aB (gC (.str "set"))) ak))) ak)))))) (af a_ (gV 2) (gC (.int 18))))))))))))))))
def Fp:List D->R D:=cL 4 11 Mc
def By:G->R Fl :=
 (aC (bF 2 (aB (af a_ (af dw (gV 1) (gC (.int 7))) (az bX (ae (gV 0) ak)))))
 (aC (c8 3 (bN (ae (gC (.str "set")) (ae (gC (.str "again")) (ae (gC (.str "A")) (ae (gC (.str "a1")) (ae (gC (.str "abcdefghi")) ak)))))))
 (aC (bL (gT (af bI (af a_ (gV 1) (gC (.int 7))) (gC (.int 6)))) (bY (af aI (x5 (ae (gL (f_ (ji (gV 0)) (bN (ae (gC (.str "")) ak)))) (ae (gL (bN ak)) (ae (gL (f_ (ji (gV 0)) (jE (gL (bN (ae (gC (.str "xa")) (ae (gC (.str "xb")) (ae (gC (.str "xc")) (ae (gC (.str "xd")) ak)))))) bU (bJ (af mW (gC (.int 4)) (az bX (ae (gV 0) ak))))))) ak)))) (af a_ (af dw (gV 1) (gC (.int 7))) (gC (.int 3))))) b8)
 (aC (bL (gT (af bI (af a_ (gV 1) (gC (.int 7))) (gC (.int 5)))) (bY (gL (f_ (f_ (ji (eY (gV 0) bU (bJ (gV 2)))) (bN (ae (af aI (gV 0) (gV 2)) ak))) (ji (eY (gV 0) (bJ (gV 2)) bU))))) b8)
 (bY (gL (f_ (f_ (ji (eY (gV 0) bU (bJ (gV 2)))) (bN (ae (af aI (gV 3) (af a_ (gV 1) (gC (.int 7)))) ak))) (ji (eY (gV 0) (bJ (af cu (gV 2) (gC (.int 1)))) bU)))))))))
def Bz:List D->R D:=cL 2 4 By
def vE:G->R Fl :=
 (aC (bF 2 (aB (af dw (gV 1) (gC (.int 7)))))
 (aC (c8 3 (oh "\n" (gV 0)))
 (aC (bF 4 (aB (af a_ (gV 2) (gC (.int 3)))))
 (aC (bL (gT (af n8 (af a_ (gV 1) (gC (.int 7))) (gC (.int 3)))) (aC (bF 5 (aB (af aI (gV 3) (gV 4))))
 (aC (c8 6 (f_ (fh (lE (az y1l (ae (gV 5) ak))) (j0 (gT (af bI (af dIxS (gV 6) (gV 0)) (gC (.str " ")))) (aB (gV 0)))) (bN (ae (az y1l (ae (gV 5) ak)) ak))))
 (aC (bF 7 (aB (af aI (gV 6) (af a_ (af dw (gV 2) (gC (.int 3))) (az bX (ae (gV 6) ak))))))
 (qy 3 (gV 4) (aB (af z5z (af z5z (kx (gV 5) bU (bJ (gV 7))) (af aI (gL (bN (ae (gC (.str " ")) (ae (gC (.str "\n")) (ae (gC (.str "~")) ak))))) (af a_ (gV 1) (gC (.int 7))))) (kx (gV 5) (bJ (gV 7)) bU))))))) b8)
 (aC (bL (gT (af bI (af a_ (gV 1) (gC (.int 7))) (gC (.int 3)))) (c8 3 (f_ (jE (gV 3) bU (bJ (gV 4))) (jE (gV 3) (bJ (af cu (gV 4) (gC (.int 1)))) bU))) b8)
 (aC (bL (gT (af bI (af a_ (gV 1) (gC (.int 7))) (gC (.int 4)))) (c8 3 (f_ (f_ (jE (gV 3) bU (bJ (gV 4))) (jE (gV 3) (bJ (gV 4)) (bJ (af cu (gV 4) (gC (.int 1)))))) (jE (gV 3) (bJ (gV 4)) bU))) b8)
 (aC (bL (gT (af bI (af a_ (gV 1) (gC (.int 7))) (gC (.int 5)))) (c8 3 (gf (gV 3) (gL (bN (ae (gC (.str "")) ak))))) b8)
 (aC (bL (gT (af bI (af a_ (gV 1) (gC (.int 7))) (gC (.int 6)))) (qy 3 (gV 4) (aB (af z5z (yi (kx (af aI (gV 3) (gV 4)) bU (bJ (gC (.int 1))))) (kx (af aI (gV 3) (gV 4)) (bJ (gC (.int 1))) bU)))) b8)
 (bY (kP "\n" (gV 3)))))))))))
def vF:List D->R D:=cL 2 8 vE
def vG(Fq:List D->R D)(Fs:List D->R D)(Ft:List D->R D):G->R Fl :=
 (aC (bL (gT (af vg (gV 4) (gC (.int 3)))) (gj .dE) b8)
 (aC (bL (jW (gT (az vz (ae (gV 2) (ae (gC (.int 0)) (ae (af n7 (gC (.int 10)) (gC (.int 30))) ak)))))) (gj .dE) b8)
 (bY (jD (ae (gC (.str "again")) (ae (gV 2) (ae (az Ft (ae (gV 0) (ae (gV 1) (ae (gV 3) (ae (af cu (gV 4) (gC (.int 1))) ak))))) ak)))))))
def vH(Fq:List D->R D)(Fs:List D->R D)(Ft:List D->R D):G->R Fl :=
 (aC (bL (gT (af bI (af aI (gV 2) (gC (.int 0))) (gC (.str "set")))) (bY (az Fd (ae (gV 0) (ae (gV 1) (ae (af aI (gV 2) (gC (.int 1))) (ae (af aI (gV 2) (gC (.int 2))) ak)))))) b8)
 (bY (az Fq (ae (gV 0) (ae (gV 1) (ae (af aI (gV 2) (gC (.int 1))) (ae (af aI (gV 2) (gC (.int 2))) (ae (gV 3) ak))))))))
def BA(Fq:List D->R D)(Fs:List D->R D)(Ft:List D->R D):G->R Fl :=
 (bY (az ku (ae (gL (y1u (r8 (b7 2)) (fU (aB (az Fs (ae (gV 1) (ae (gV 2) (ae (gV 0) (ae (gV 4) ak))))))))) ak)))
mutual
def so:Nat->List D->R D
 | 0=>λ_=>.no
 | n+1=>cL 5 5 (vG (so n) (qG n) (pE n))
def qG:Nat->List D->R D
 | 0=>λ_=>.no
 | n+1=>cL 4 4 (vH (so n) (qG n) (pE n))
def pE:Nat->List D->R D
 | 0=>λ_=>.no
 | n+1=>cL 4 4 (BA (so n) (qG n) (pE n))
end
def Md:G->R Fl :=
 (aC (qx (az EX (ae (gV 0) ak)))
 (aC (bL (jW (gT (az vz (ae (gV 1) (ae (gC (.int 1)) (ae (gC (.int 3)) ak)))))) (gj .dE) b8)
 (aC (qx (az (pz 12) (ae (gV 2) (ae (gC (.int 0)) ak))))
 (bY (az (pE 12) (ae (gV 0) (ae (gV 1) (ae (gV 2) (ae (gC (.int 0)) ak)))))))))
def yw:List D->R D:=cL 3 3 Md
def BB:G->R Fl :=
 (aC (c8 3 (z5o (gV 2)))
 (aC (lI 4 3 (gq (dG 12) (ae (b7 0) (ae (b7 1) (z4u 3 (ae (aB (gC (.int 0))) ak))))))
 (aC (bL (z9o (gV 3)) (gj .aQ) b8)
 (EO (bY (az yw (ae (gV 0) (ae (az bX (ae (gV 1) ak)) (ae (gV 4) ak)))))))))
def iD:List D->R D:=cL 3 5 BB
def yx:G->R Fl :=
 (aC (c8 1 (oh "\n" (gV 0)))
 (aC (bL (gT (af iM (az bX (ae (gV 1) ak)) (gC (.int 3)))) (gj .aQ) b8)
 (aC (bF 2 (aB (az j6 (ae (gL (kv jn (ae (af aI (gV 1) (gC (.int 0))) (ae (gC (.str "prime")) ak)))) ak))))
 (aC (bF 3 (aB (az mE (ae (gL (kv jn (ae (af aI (gV 1) (gC (.int 1))) (ae (gC (.str "boxes")) ak)))) ak))))
 (bY (jD (ae (gV 2) (ae (gV 3) (ae (az iD (ae (gV 2) (ae (gV 3) (ae (gL (kv jn (ae (af aI (gV 1) (gC (.int 2))) (ae (gC (.str "do")) ak)))) ak)))) ak)))))))))
def oE:List D->R D:=cL 1 4 yx
def Me:G->R Fl :=
 (aC (c8 1 (bN ak))
 (aC (yf 2 (qx (az oE (ae (gV 0) ak))) (aC (c8 1 (bN (ae (qt 2 [.A7]) (ae (qt 2 [.aQ]) (ae (qt 2 [.ql]) (ae (qt 2 [.mV]) ak))))))
 (c8 1 (gf (gV 1) (gL (bN (ae (qt 2 [.dE]) (ae (qt 2 [.qm]) (ae (qt 2 [.tooLong]) ak)))))))))
 (bY (af bI (gV 1) (gL (bN (ae (gC (.bl true)) (ae (gC (.bl true)) (ae (gC (.bl false)) (ae (gC (.bl false)) (ae (gC (.bl false)) (ae (gC (.bl false)) (ae (gC (.bl false)) ak)))))))))))))
def tO:List D->R D:=cL 1 3 Me
end
end L3
namespace L3
open PySem
local macro_rules | `(tactic| walk_at "a") => wkL " L3.x5w L3.y5j L3.s_on L3.z7h L3.x0w L3.y6j L3.y6k L3.z8p L3.y8q L3.z5n L3.Item.d L3.Item.ds_map L3.z5x L3.w6d L3.w6e L3.w4x L3.x7l L3.z9o L3.gRep L3.D.isNon L3.y1u L3.z4u L3.y1l L3.dInS L3.dIxS L3.y1t L3.z9s L3.dIn L3.z5o L3.z5z"
section
variable {t:G->R Fl}{u v:G->R (D×List D)}{g gb:G->R D}{O O':G}{d b r:D}{ws:List D}{w j i m:Nat}{q:R (D×List D)}
def fV(h:t O = .ok (.nx O'))(hr:u O'=q):fj t u O=q:=by unfold fj;rw[h];exact hr
def lM{c:Er}(h:t O = .ok (.ex c O')):fj t u O = .er c:=by unfold fj;rw[h]
def pF(h:u O = .ok (d,ws)):lI j w u O = .ok (.nx ((O.set w (.own ws)).set j (.ro d))):=by unfold lI;rw[h];rfl
def yy{c:Er}(h:u O = .er c):lI j w u O = .ok (.ex c (O.set w .no)):=by unfold lI;rw[h];rfl
def BC(h:u O = .ok (d,ws)):qz w u O = .ok (.nx (O.set w (.own ws))):=by unfold qz;rw[h];rfl
def Mf{c:Er}(h:u O = .er c):qz w u O = .ok (.ex c (O.set w .no)):=by unfold qz;rw[h];rfl
def Fv{ds:List D}(h:u O = .ok (d,ws))(hm:O[m]? = some (.own ds))(hl:ds.length<=100000):j4 m w u O = .ok (.nx ((O.set w (.own ws)).set m (.own (ds++[d])))):=by
 unfold j4;rw[hm];dsimp only;rw[h];exact if_pos hl
def Mg{ds:List D}{c:Er}(h:u O = .er c)(hm:O[m]? = some (.own ds)):j4 m w u O = .ok (.ex c (O.set w .no)):=by
 unfold j4;rw[hm];dsimp only;rw[h];rfl
def VV(h:u O = .ok (.bl false,ws)):qA w u t O = .ok (.nx (O.set w (.own ws))):=by unfold qA;rw[h];rfl
def VW{r':R Fl}(h:u O = .ok (.bl true,ws))(ht:t (O.set w (.own ws))=r'):qA w u t O=r':=by unfold qA;rw[h];exact ht
def VX{c:Er}(h:u O = .er c):qA w u t O = .ok (.ex c (O.set w .no)):=by unfold qA;rw[h];rfl
def Fw{φ:D->D->R D}(h:u O = .ok (d,ws))(hb:gb (O.set w (.own ws)) = .ok b)(hr:φ d b = .ok r):nc φ w u gb O = .ok (r,ws):=by unfold nc;rw[h];show(match gb (O.set w (.own ws)) with | .ok b=>ph (R.good (φ d b)) ws | _=>.no)=_;rw[hb];show ph (R.good (φ d b)) ws=_;rw[hr];rfl
def Mh{φ:D->D->R D}{c:Er}(h:u O = .er c):nc φ w u gb O = .er c:=by unfold nc;rw[h];rfl
def tP(h:u O = .ok (d,ws))(hb:gb (O.set w (.own ws)) = .ok b)(hr:aI d b = .ok r):pj w u gb O = .ok (r,ws):=Fw h hb hr
def Mi{c:Er}(h:u O = .er c):pj w u gb O = .er c:=Mh h
def VY{φ:List D->R D}(h:u O = .ok (d,ws))(hr:φ [d] = .ok r):oi φ u O = .ok (r,ws):=by unfold oi;rw[h];show ph (φ [d]) ws=_;rw[hr];rfl
def VZ{φ:List D->R D}{c:Er}(h:u O = .ok (d,ws))(hr:φ [d] = .er c):oi φ u O = .er c:=by unfold oi;rw[h];show ph (φ [d]) ws=_;rw[hr];rfl
def V0{φ:List D->R D}{c:Er}(h:u O = .er c):oi φ u O = .er c:=by unfold oi;rw[h];rfl
def dN{φ:List D->R (D×List D)}{gs:G->R (List D)}{ds:List D}{x:R (D×List D)}(h:gs O = .ok ds)(e:φ ds=x):gq φ gs O=x:=by unfold gq;rw[h];exact e
def yz(h:g O = .ok d)(hw:O[i]? = some (.own ws)):pk i g O = .ok (d,ws):=by unfold pk;rw[h];show oo i O d=_;unfold oo;rw[hw]
def Mj{c:G->R Bool}(h:c O = .ok true)(hr:u O=q):oq c u v O=q:=by unfold oq;rw[h];exact hr
def Fx{c:G->R Bool}(h:c O = .ok false)(hr:v O=q):oq c u v O=q:=by unfold oq;rw[h];exact hr
def V1(h:t O = .ok (.nx O'))(hw:O'[i]? = some (.own ws)):ot i t O = .ok (.cI,ws):=by unfold ot;rw[h];show oo i O' .cI=_;unfold oo;rw[hw]
def Ml{c:Er}(h:t O = .ok (.ex c O')):ot i t O = .er c:=by unfold ot;rw[h]
def Mm(f:D->R (Option D)):∀{l acc:List D} {t:List D},fg f l acc = .ok t->hJ f l acc = .ok t
 | [],acc,t,h=>h
 | d::l,acc,t,h=>by
   unfold fg at h
   unfold hJ
   cases q:f d with
   | no=>simp only[q] at h;cases h
   | er c=>simp only[q] at h;cases h
   | ok o=>cases o<;>(simp only[q] at h ⊢;exact Mm f h)
def Mn{f:D->G->R (Option D)}{items total:List D}(h:u O = .ok (.lst items,ws))(hl:items.length<=100000)(et:fg (λd=>f d (O.set w (.own ws))) items [] = .ok total):oj j w u f O = .ok (.nx ((O.set w (.own ws)).set j (.own total))):=by
 unfold oj;rw[h]
 show sd j f (.lst items) (O.set w (.own ws))=_
 unfold sd
 dsimp only
 rw[if_pos hl,Mm _ et]
def V2{f:D->G->R (Option D)}{items:List D}{c:Er}(h:u O = .ok (.lst items,ws))(hl:items.length<=100000)(et:hJ (λd=>f d (O.set w (.own ws))) items [] = .er c):oj j w u f O = .ok (.ex c (O.set w (.own ws))):=by
 unfold oj;rw[h]
 show sd j f (.lst items) (O.set w (.own ws))=_
 unfold sd
 dsimp only
 rw[if_pos hl,et]
def V3{f:D->G->R (Option D)}{c:Er}(h:u O = .er c):oj j w u f O = .ok (.ex c (O.set w .no)):=by unfold oj;rw[h];rfl
end
def BD{T:List D}{n:Nat}(h:n<=T.length)(hl:T.length<=100000):nj [.lst T.reverse,.int n] = .ok (.lst (T.take n),(T.drop n).reverse):=by
 refine(gK (as:=[]) (bs:=[.int n]) rfl rfl).trans ?_
 show yq [.own T.reverse,.ro (.int n)]=_
 delta yq
 have b1:decide (((T.length:Nat):Int)<(n:Int))=false:=decide_eq_false (by lia)
 refine fV (r_ (by walk_at "a";simp only[uO,b1])) ?_
 unfold vt
 show(match ([En.own T.reverse,.ro (.int n)]:G)[0]? with | some (.own ws)=>if (0<=(n:Int)/\(n:Int).toNat<=ws.length/\ws.length<=100000) then R.ok (D.lst (ws.reverse.take (n:Int).toNat),ws.take (ws.length-(n:Int).toNat)) else .no | _=>.no)=_
 show(if (0<=(n:Int)/\(n:Int).toNat<=T.reverse.length/\T.reverse.length<=100000) then R.ok (D.lst (T.reverse.reverse.take (n:Int).toNat),T.reverse.take (T.reverse.length-(n:Int).toNat)) else .no)=_
 rw[iq,uO,if_pos ⟨by lia,h,hl⟩,List.reverse_reverse]
 have e:T.reverse.take (T.length-n)=(T.drop n).reverse:=by
  rw[List.reverse_drop]
 rw[e]
def qH{d:D}{T:List D}(hl:T.length<100000):nj [.lst (d::T).reverse,.int 1] = .ok (.lst [d],T.reverse):=by
 have:=BD (T:=d::T) (n:=1) (by simp) (by simp only[a3];lia)
 simpa using this
def V4(x:Str):bG (.lst [.str x]) (.lst [.str x])=true:=A0 (by rw[UQ];simp[D.pl,D.mx])
def Fy{x:Str}(h:aR x=true):D.lay 40 (.lst [.str x])=true:=by rw[UJ];simp[D.lay,h]
def iE:∀xs:List Str,D.bQ (xs.map D.str)=true
 | []=>rfl
 | x::r=>by rw[gz];simp[D.bQ,D.cy,iE r]
def BE{x:Str}{T:List D}(hx:aR x=true)(hl:T.length<100000):yt [.lst (D.str x::T).reverse,.str x] = .ok (.cI,T.reverse):=by
 refine(gK (as:=[]) (bs:=[.str x]) rfl rfl).trans ?_
 show yr [.own (D.str x::T).reverse,.ro (.str x)]=_
 delta yr
 refine V1 (O':=[.own T.reverse,.ro (.str x)]) (VV (ws:=T.reverse) (Fw (d:=.lst [.str x]) (b:=.lst [.str x]) (dN (ds:=[.lst (D.str x::T).reverse,.int 1]) ?_ (qH hl)) ?_ ?_)) rfl
 .walk_at "a"
 .have n1:D.bQ [D.str x]=true:=iE [x]
  walk_at "a"
 .have l1:=Fy hx
  have e1:=V4 x
  show R.guard _ _=_
  rw[a4 ⟨l1,l1⟩,e1]
  rfl
def BF{a b:G->R D}{O:G}{r:R D}(h:a O = .ok (.bl true))(h2:b O=r):ko a b O=r:=by unfold ko;rw[h];exact h2
def Mo{w S:Str}{m:Int}(h1:1<=w.length)(h2:(w.length:Int)<=m)(h3:w.length<=100000)(h:∀c∈w.cps.toList,og ⟨#[c]⟩ S=true):pD [.str w,.str S,.int m] = .ok (.bl true):=by
 refine dn rfl ?_
 delta Fh
 refine dF ?_
 show ko _ _ [En.ro (.str w),.ro (.str S),.ro (.int m)]=_
 have b1:decide ((1:Int)<=(w.length:Int))=true:=decide_eq_true (by lia)
 have b2:decide ((w.length:Int)<=m)=true:=decide_eq_true h2
 have hl:(kQ w).length<=100000:=by unfold kQ;rw[aZ];simpa [kF] using h3
 have ec:fh (y1t (gV 0)) (fU (aB (af dInS (gV 0) (gV 2)))) [En.ro (.str w),.ro (.str S),.ro (.int m)] = .ok ((w.cps.toList.map λ_=>true).map D.bl):=by
  unfold fh
  rw[show y1t (gV 0) [En.ro (.str w),.ro (.str S),.ro (.int m)] = .ok (kQ w) by walk_at "a"]
  show R.guard _ _=_
  rw[a4 hl]
  unfold kQ
  rw[rJ]
  refine qw λc hc=>?_
  have:=h c hc
  walk_at "a"
  rw[this];rfl
 refine BF (by walk_at "a";rw[b1]) (BF (by walk_at "a";rw[b2]) ?_)
 simp only[az,ae,ak,gL,ec]
 show pb [.lst _]=_
 rw[yc]
 simp
def Mp:∀c:Nat,48<=c->c<=57->og ⟨#[c]⟩ "0123456789"=true:=by
 intro c h1 h2
 have:c=48∨c=49∨c=50∨c=51∨c=52∨c=53∨c=54∨c=55∨c=56∨c=57:=by lia
 rcases this with rfl | rfl | rfl | rfl | rfl | rfl | rfl | rfl | rfl | rfl<;>trivial
def nq{a b:Str}(ha:aR a=true)(hb:aR b=true):bI (.str a) (.str b) = .ok (.bl (decide (a=b))):=by
 show R.guard _ _=_
 rw[a4 ⟨by rw[kq];exact ha,by rw[kq];exact hb⟩]
 by_cases q:a=b
 .subst q;rw[decide_eq_true rfl,A0 rfl]
 .rw[decide_eq_false q,z5x];simp[q]
def tQ{a b:Str}(ha:aR a=true)(hb:aR b=true):iM (.str a) (.str b) = .ok (.bl (!decide (a=b))):=by
 show R.guard _ _=_
 rw[a4 ⟨by rw[kq];exact ha,by rw[kq];exact hb⟩]
 by_cases q:a=b
 .subst q;rw[decide_eq_true rfl,A0 rfl]
 .rw[decide_eq_false q,z5x];simp[q]
def V5{n:Int}(h0:0<=n)(h1:n<=10^30):vw [.str (aH n)] = .ok (.int n):=by
 unfold vw
 show R.guard _ _=_
 rw[a4 (fS (qB h0 h1) (by decide)),LH h0 h1]
def V6{n:Int}(h0:0<=n)(h1:n<=10^30):pD [.str (aH n),.str "0123456789",.int 31] = .ok (.bl true):=by
 have l1:=Bo h0
 have l2:=qB h0 h1
 exact Mo l1 (by lia) (by lia) λc hc=>Mp c (ox h0 c hc).1 (ox h0 c hc).2
def oF{n:Int}(h0:0<=n):aR (aH n)=true:=by
 unfold aR
 rw[<-uP,nV]
 intro c hc
 have:=ox h0 c hc
 simpa using (show c<0x110000 by lia)
def tR{n:Int}(h0:0<=n)(h1:n<=10^30):jG [.str (aH n)] = .ok (.int n):=by
 have l2:=qB h0 h1
 have l3:(aH n).length<=100000:=by lia
 refine dn rfl ?_
 delta Bx
 have hc:kn (jW (gT (az pD (ae (gV 0) (ae (gC (.str "0123456789")) (ae (gC (.int 31)) ak)))))) (jV (gT (af bI (af dIxS (gV 0) (gC (.int 0))) (gC (.str "0")))) (gT (af iM (gV 0) (gC (.str "0"))))) [En.ro (.str (aH n))] = .ok false:=by
  have e1:=V6 h0 h1
  have q1:jW (gT (az pD (ae (gV 0) (ae (gC (.str "0123456789")) (ae (gC (.int 31)) ak))))) [En.ro (.str (aH n))] = .ok false:=by
   walk_at "a"
   simp only[e1]
   walk_at "a"
  unfold kn
  rw[q1]
  show jV _ _ _=_
  cases hL:(aH n).cps.toList with
  | nil=>exact absurd hL (Bn h0)
  | cons c r =>
    have ei:dIxS (.str (aH n)) (.int 0) = .ok (.str ⟨#[c]⟩):=by
     unfold dIxS
     show R.guard _ _=_
     rw[a4 l3,hL,qr (by lia)]
     rfl
    have lc:aR ⟨#[c]⟩=true:=by
     have:=ox h0 c (by rw[hL];exact fI ..)
     simp only[aR]
     simpa using (show c<0x110000 by lia)
    have k0:aR "0"=true:=by trivial
    have ln:=oF h0
    by_cases q:c=48
    .subst q
     have e0:=LI h0 hL
     have z0:aH 0="0":=by trivial
     have en:aH n="0":=e0.trans z0
     have ec:(⟨#[48]⟩:Str)="0":=by trivial
     have q2:gT (af bI (af dIxS (gV 0) (gC (.int 0))) (gC (.str "0"))) [En.ro (.str (aH n))] = .ok true:=by
      simp only[gT,af,gV,gC,fe,R.bB,ei,ec]
      rw[nq k0 k0];simp[xZ]
     have q3:gT (af iM (gV 0) (gC (.str "0"))) [En.ro (.str (aH n))] = .ok false:=by
      simp only[gT,af,gV,gC,fe,R.bB,en]
      rw[tQ k0 k0];simp[xZ]
     unfold jV
     rw[q2]
     exact q3
    .have ne:(⟨#[c]⟩:Str)≠"0":=λz=>q (by
      have:=congrArg (λs:Str=>s.cps.toList) z
      have V7:("0":Str).cps.toList=[48]:=by trivial
      dsimp only at this
      rw[V7] at this
      simpa using this)
     have q2:gT (af bI (af dIxS (gV 0) (gC (.int 0))) (gC (.str "0"))) [En.ro (.str (aH n))] = .ok false:=by
      simp only[gT,af,gV,gC,fe,R.bB,ei]
      rw[nq lc k0,decide_eq_false ne];rfl
     unfold jV
     rw[q2]
     rfl
 refine dz hc ?_
 refine dF ?_
 show az _ _ [En.ro (.str (aH n))]=_
 have:=V5 h0 h1
 simp only[az,ae,ak,gV,fe,R.bB,this]
mutual
def Item.ws(ns:List Str):Item->List Str
 | .set x f=>"set"::ns.getD x.toNat ""::f.map aH
 | .again n xL=>"again"::aH n::"["::(Item.aE ns xL++[("]":Str)])
def Item.aE(ns:List Str):List Item->List Str
 | []=>[]
 | a::r=>Item.ws ns a++Item.aE ns r
end
structure Names (ns:List Str):Prop where
 nd:ns.Nodup
 ok:∀x∈ns,aR x=true
 l1:1<=ns.length
 l3:ns.length<=3
def ay(ns:List Str):D:=.tup (ns.map D.str)
def V8{P n:Int}(h0:0<=n)(h1:n<P)(h2:P<=9999):ky [.int P,.str (aH n)] = .ok (.int n):=by
 have e:=tR h0 (show n<=10^30 by lia)
 refine dn rfl ?_
 delta vC
 have b:decide (P<=n)=false:=decide_eq_false (by lia)
 refine c9 (d:=.int n) (by walk_at "a";simp only[e];walk_at "a") ?_
 refine dz (by walk_at "a";rw[b]) (dF ?_)
 walk_at "a"
def Mq{ns:List Str}(h:∀x∈ns,aR x=true):D.lay 40 (ay ns)=true:=by
 unfold ay
 rw[x_,nV]
 intro d hd
 obtain⟨x,hx,rfl⟩:=List.mem_map.mp hd
 rw[kq];exact h x hx
def BG{ns:List Str}(h:∀x∈ns,aR x=true){x:Str}(hx:x∈ns):z9s (.str x) (ay ns) = .ok (.bl false):=by
 show R.guard _ _=_
 rw[a4 ⟨by rw[kq];exact h x hx,Mq h⟩]
 have:(ns.map D.str).any (λy=>bG y (.str x))=true:=List.any_eq_true.mpr ⟨.str x,List.mem_map.mpr ⟨x,hx,rfl⟩,A0 rfl⟩
 rw[this];rfl
def Mr{ns:List Str}(N:Names ns){j:Nat}(hj:j<ns.length):om ns (ns.getD j "") = .ok (.int (j:Int)):=by
 have e:ns.getD j ""=ns[j]:=by simp[uQ,hj]
 have f:ns.findIdx? (·==ns.getD j "")=some j:=by
  rw[e,List.findIdx?_eq_some_iff_getElem]
  refine⟨hj,by simp,λk hk=>?_⟩
  have:ns[k]≠ns[j]:=λz=>fQ hk ((a2k N.nd).mp z)
  simpa using this
 unfold om
 rw[f]
 show R.guard _ _=_
 rw[a4 (by have:=N.l3;lia)]
def V9{P x:Int}{f:List Int}{ns:List Str}{Z:List D}(N:Names ns)(h2:P<=9999)(x0:0<=x)(x1:x<ns.length)(hf:(f.length:Int)=ns.length+1)(ho:yk P f)(hZ:Z.length<=99000) :
 oz [.int P,ay ns,.lst ((ns.getD x.toNat ""::f.map aH).map D.str++Z).reverse] = .ok ((Item.set x f).d,Z.reverse):=by
 obtain⟨j,rfl⟩:=rH x0
 have hj:j<ns.length:=by lia
 have l3:=N.l3
 rw[iq]
 have hm:ns.getD j ""∈ns:=by
  have e:ns.getD j ""=ns[j]:=by simp[uQ,hj]
  rw[e];exact Ag hj
 generalize V_:ns.getD j ""=nm at *
 have fl:f.length=ns.length+1:=by lia
 have eF:((f.map aH).map D.str).length=ns.length+1:=by rw[aZ,aZ,fl]
 generalize hF:(f.map aH).map D.str=F at *
 rw[gz,hF,fT]
 have t1:=qH (d:=.str nm) (T:=F++Z) (by rw[aY];lia)
 have t2:=BD (T:=F++Z) (n:=ns.length+1) (by rw[aY];lia) (by rw[aY];lia)
 rw[Rl eF,Rm eF] at t2
 refine(gK (as:=[.int P,ay ns]) (bs:=[]) rfl rfl).trans ?_
 show mD [.ro (.int P),.ro (ay ns),.own (D.str nm::(F++Z)).reverse,.no,.no]=_
 delta mD
 refine fV (pF (d:=.str nm) (ws:=(F++Z).reverse) (tP (d:=.lst [.str nm]) (b:=.int 0) (dN (ds:=[.lst (D.str nm::(F++Z)).reverse,.int 1]) (by walk_at "a") t1) (by walk_at "a") rfl)) ?_
 show fj _ _ [En.ro (.int P),.ro (ay ns),.own (F++Z).reverse,.ro (.str nm),.no]=_
 refine fV (r_ (by
  have:=BG N.ok hm
  simp only[gT,af,gV,fe,iC,tE,R.bB,this,xZ])) ?_
 have ec:(((ns.length:Nat):Int)+1)=((ns.length+1:Nat):Int):=by lia
 refine fV (Mn (items:=F) (ws:=Z.reverse) (total:=f.map D.int) (dN (ds:=[.lst (F++Z).reverse,.int ((ns.length+1:Nat):Int)]) (by
  unfold ay
  walk_at "a"
  simp only[aZ,ec]
  try walk_at "a") t2) (by rw[eF];lia) ?_) ?_
 .rw[<-hF,rJ]
  refine qw λv hv=>?_
  have ov:=ho v hv
  have e:=V8 (P:=P) (n:=v) ov.1 ov.2 h2
  show(fU _) (.str (aH v)) [En.ro (.int P),.ro (ay ns),.own Z.reverse,.ro (.str nm),.no]=_
  simp only[fU,aB,az,ae,ak,gV,fe,iC,R.bB,jY,e]
  walk_at "a"
  try rfl
 .show pk _ _ [En.ro (.int P),.ro (ay ns),.own Z.reverse,.ro (.str nm),.own (f.map D.int)]=_
  refine yz ?_ rfl
  have ei:tH (gV 1) (gV 3) [En.ro (.int P),.ro (ay ns),.own Z.reverse,.ro (.str nm),.own (f.map D.int)] = .ok (.int (j:Int)):=by
   have:=Mr N hj
   rw[V_] at this
   simp only[tH,gV,fe,iC,R.bB,ay,strs?_map,this]
  have nr:=z8p f
  unfold gW at nr
  simp only[Item.d,gW,jD,ae,ak,aB,ei]
  walk_at "a"
  try rfl
def Ms(d:D)(T:List D):aI (.lst (d::T).reverse) (.int (-1)) = .ok d:=by
 have e:cV (d::T).reverse (-1)=some d:=by
  have h1:(-1+((d::T).reverse.length:Int)).toNat=T.length:=by rw[uO,a3];lia
  rw[UT (by lia) (by rw[uO,a3];lia),h1,Dn,uK (by simp)]
  simp
 simp only[aI,e]
def Item.jo{P:Int}{ns:List Str}(h3:ns.length<=3):∀(k:Nat) (xL:List Item),Item.aP xL<=k->Item.cB P ns.length xL->(Item.aE ns xL).length<=6*Item.aP xL
 | _,[],_,_=>rK _
 | 0,a::r,h,_=>by have:=a.tK;simp only[Item.aP] at h;lia
 | k+1,.set x f::r,h,ho=>by
   simp only[Item.cB,Item.ok] at ho
   simp only[Item.aP,Item.many] at h ⊢
   have:=Item.jo h3 k r (by lia) ho.2
   simp only[Item.aE,Item.ws,aY,a3,aZ]
   lia
 | k+1,.again n i::r,h,ho=>by
   simp only[Item.cB,Item.ok] at ho
   simp only[Item.aP,Item.many] at h ⊢
   have h1:=Item.jo h3 k r (by lia) ho.2
   have h2:=Item.jo h3 k i (by lia) ho.1.2.2
   simp only[Item.aE,Item.ws,aY,a3,iW]
   lia
def Stop(Z:List D):Prop:=Z=[]∨∃Z',Z = .str "]"::Z'
noncomputable def oG:G->R Bool:=jV (z9o (gV 2)) (gT (af iM (af aI (gV 2) (rY (gC (.int 1)))) (gC (.str "]"))))
def Fz{Z:List D}(h:Stop Z){e0 e1 e3 e4:En}:oG [e0,e1,.own Z.reverse,e3,e4] = .ok false:=by
 unfold oG
 rcases h with rfl | ⟨Z',rfl⟩
 .rfl
 .have q1:z9o (gV 2) [e0,e1,.own (D.str "]"::Z').reverse,e3,e4] = .ok true:=by
   simp only[z9o,gV,iC,tE,R.bB]
   simp
  have q2:gT (af iM (af aI (gV 2) (rY (gC (.int 1)))) (gC (.str "]"))) [e0,e1,.own (D.str "]"::Z').reverse,e3,e4] = .ok false:=by
   have k0:aR "]"=true:=by trivial
   simp only[gT,af,gV,gC,rY,AW,iC,tE,R.bB,Ms]
   rw[tQ k0 k0,decide_eq_true rfl];rfl
  unfold jV
  rw[q1]
  exact q2
def vI{x:Str}(hx:aR x=true)(ne:x≠"]"){T:List D}{e0 e1 e3 e4:En}:oG [e0,e1,.own (D.str x::T).reverse,e3,e4] = .ok true:=by
 unfold oG
 have q1:z9o (gV 2) [e0,e1,.own (D.str x::T).reverse,e3,e4] = .ok true:=by
  simp only[z9o,gV,iC,tE,R.bB]
  simp
 have q2:gT (af iM (af aI (gV 2) (rY (gC (.int 1)))) (gC (.str "]"))) [e0,e1,.own (D.str x::T).reverse,e3,e4] = .ok true:=by
  have k0:aR "]"=true:=by trivial
  simp only[gT,af,gV,gC,rY,AW,iC,tE,R.bB,Ms]
  rw[tQ hx k0,decide_eq_false ne];rfl
 unfold jV
 rw[q1]
 exact q2
def Mt{P:Int}{ns:List Str}{ar:Nat}{φ:List D->R (D×List D)}:∀(xL:List Item) (Z:List D) (m:Nat) (ds:List D),xL.length<m->ds.length+xL.length<=60->Stop Z ->
 (∀a r,∀pre,xL=pre++a::r->φ [.int P,ay ns,.lst ((Item.ws ns a).map D.str++((Item.aE ns r).map D.str++Z)).reverse,.int ar] = .ok (a.d,((Item.aE ns r).map D.str++Z).reverse)) ->
 e_ oG (j4 4 2 (gq φ (ae (b7 0) (ae (b7 1) (z4u 2 (ae (b7 3) ak)))))) m [.ro (.int P),.ro (ay ns),.own ((Item.aE ns xL).map D.str++Z).reverse,.ro (.int ar),.own ds] = .ok (.nx [.ro (.int P),.ro (ay ns),.own Z.reverse,.ro (.int ar),.own (ds++xL.map Item.d)])
 | _,_,0,_,h,_,_,_=>absurd h (Ac _)
 | [],Z,m+1,ds,_,_,hs,_=>by
   rw[pe]
   simp only[Item.aE,rD,l_,kE]
   rw[Fz hs]
   rfl
 | a::r,Z,m+1,ds,h,hl,hs,lN=>by
   have h1:=lN a r [] rfl
   have ih:=Mt r Z m (ds++[a.d]) (by simp only[a3] at h;lia) (by simp only[aY,a3,iW] at hl ⊢;lia) hs (λb q pre e=>lN b q (a::pre) (by rw[e];rfl))
   have ew:(Item.aE ns (a::r)).map D.str++Z=(Item.ws ns a).map D.str++((Item.aE ns r).map D.str++Z):=by rw[Item.aE,iK,jQ]
   rw[ew,pe]
   have hg:oG [.ro (.int P),.ro (ay ns),.own ((Item.ws ns a).map D.str++((Item.aE ns r).map D.str++Z)).reverse,.ro (.int ar),.own ds] = .ok true:=by
    cases a with
    | set x f=>exact vI (x:="set") (by trivial) (by trivial)
    | again n i=>exact vI (x:="again") (by trivial) (by trivial)
   rw[hg]
   have hb:j4 4 2 (gq φ (ae (b7 0) (ae (b7 1) (z4u 2 (ae (b7 3) ak))))) [.ro (.int P),.ro (ay ns),.own ((Item.ws ns a).map D.str++((Item.aE ns r).map D.str++Z)).reverse,.ro (.int ar),.own ds] = .ok (.nx [.ro (.int P),.ro (ay ns),.own ((Item.aE ns r).map D.str++Z).reverse,.ro (.int ar),.own (ds++[a.d])]):=by
    refine Fv (ds:=ds) (dN (ds:=[.int P,ay ns,.lst ((Item.ws ns a).map D.str++((Item.aE ns r).map D.str++Z)).reverse,.int ar]) ?_ h1) rfl (by simp only[a3] at hl;lia)
    walk_at "a"
   rw[n_,if_pos rfl,hb]
   dsimp only
   rw[ih,jQ]
   rfl
def a6(l:Bool)(ns:List Str):D:=jj l (ns.map D.str)
def sq{n:Int}(h0:0<=n)(h1:n<=10^30):iN [.int n] = .ok (.str (aH n)):=by
 show R.guard _ _=_
 rw[a4]
 .rfl
 .obtain⟨m,rfl⟩:=rH h0
  rw[Int.natAbs_natCast]
  by_cases q:m=0
  .subst q;decide
  .rw[Nat.log2_lt q]
   have h2:m<=10^30:=by
    have:(m:Int)<=((10^30:Nat):Int):=by simpa using h1
    exact Int.ofNat_le.mp this
   exact JI h2 (by trivial)
def BH{ns:List Str}{j:Nat}(hj:j<ns.length)(l:Bool):aI (a6 l ns) (.int (j:Int)) = .ok (.str (ns.getD j "")):=by
 have e:cV (ns.map D.str) (j:Int)=some (.str (ns.getD j "")):=by
  rw[vi,jO]
  simp[uQ,hj]
 unfold a6 jj
 cases l<;>simp only[if_true,if_false,aI,e,Rn]
def Mu(ns:List Str):∀(xL:List Item) (j:Nat) (a:Item),xL[j]? = some a->Item.aE ns (xL.take (j+1))=Item.aE ns (xL.take j)++Item.ws ns a
 | [],j,a,h=>by cases j<;>cases h
 | b::r,0,a,h=>by cases h;simp[Item.aE]
 | b::r,j+1,a,h=>by
   rw[a3k,a3k,Item.aE,Item.aE,Mu ns r j a (by simpa using h),jQ]
def Wa{P:Int}{ns:List Str}(h3:ns.length<=3){xL:List Item}(ho:Item.cB P ns.length xL)(hm:Item.aP xL<=60)(j:Nat):(Item.aE ns (xL.take j)).length<=360:=by
 have h1:Item.cB P ns.length (xL.take j):=Item.hW.mpr λa ha=>Item.hW.mp ho a (me ha)
 have h2:Item.aP (xL.take j)<=Item.aP xL:=by
  have:=Item.ni (a:=xL.take j) (b:=xL.drop j)
  rw[Af] at this
  lia
 have:=Item.jo (P:=P) (ns:=ns) h3 _ (xL.take j) (a9 _) h1
 lia
def b9(w:Str):Prop:=w.length<=31/\∀c∈w.cps.toList,c≠32/\c≠10
structure gr (ns:List Str):Prop extends Names ns where
 w1:∀x∈ns,1<=x.length/\x.length<=8
 lt:∀x∈ns,∀c∈x.cps.toList,97<=c/\c<=122
 nk:∀x∈ns,x≠"set"/\x≠"again"
def vJ{n:Int}(h0:0<=n)(h1:n<=10^30):b9 (aH n):=⟨qB h0 h1,λc hc=>by have:=ox h0 c hc;lia⟩
def BI{ns:List Str}(N:gr ns){x:Str}(hx:x∈ns):b9 x:=⟨by have:=(N.w1 x hx).2;lia,λc hc=>by have:=N.lt x hx c hc;lia⟩
def Mv:b9 "set":=⟨by trivial,by trivial⟩
def Mw:b9 "again":=⟨by trivial,by trivial⟩
def Mx:b9 "[":=⟨by trivial,by trivial⟩
def Mz:b9 "]":=⟨by trivial,by trivial⟩
def FA:b9 "prime":=⟨by trivial,by trivial⟩
def MA:b9 "boxes":=⟨by trivial,by trivial⟩
def MB:b9 "do":=⟨by trivial,by trivial⟩
def nu{ns:List Str}{j:Nat}(hj:j<ns.length):ns.getD j ""∈ns:=by
 have e:ns.getD j ""=ns[j]:=by simp[uQ,hj]
 rw[e];exact Ag hj
def tS{P:Int}{ns:List Str}(N:gr ns)(hP:P<=9999):∀(k:Nat) (xL:List Item),Item.aP xL<=k->Item.cB P ns.length xL->∀w∈Item.aE ns xL,b9 w
 | _,[],_,_,w,hw=>by simp[Item.aE] at hw
 | 0,a::r,h,_,_,_=>by have:=a.tK;simp only[Item.aP] at h;lia
 | k+1,.set x f::r,h,ho,w,hw=>by
   simp only[Item.cB,Item.ok] at ho
   simp only[Item.aP,Item.many] at h
   simp only[Item.aE,Item.ws,fT,gS,nW] at hw
   rcases hw with rfl | rfl | hw | hw
   .exact Mv
   .exact BI N (nu (by lia))
   .obtain⟨v,hv,rfl⟩:=List.mem_map.mp hw
    have:=ho.1.2.2.2 v hv
    exact vJ this.1 (by lia)
   .exact tS N hP k r (by lia) ho.2 w hw
 | k+1,.again n i::r,h,ho,w,hw=>by
   simp only[Item.cB,Item.ok] at ho
   simp only[Item.aP,Item.many] at h
   simp only[Item.aE,Item.ws,fT,gS,nW,jQ,iX,or_false,false_or] at hw
   rcases hw with rfl | rfl | rfl | hw | rfl | hw
   .exact Mw
   .exact vJ ho.1.1 ho.1.2.1
   .exact Mx
   .exact tS N hP k i (by lia) ho.1.2.2 w hw
   .exact Mz
   .exact tS N hP k r (by lia) ho.2 w hw
def vK:(" ":Str)=one 32:=by trivial
def sr:("\n":Str)=one 10:=by trivial
def BJ(s:Nat):∀{xs:List Str} {c:Nat},c∈(gD (one s) xs).cps.toList->c=s∨∃x∈xs,c∈x.cps.toList
 | [],c,h=>by simp[gD,Str.empty] at h
 | [x],c,h=>.inr ⟨x,fI ..,h⟩
 | x::y::r,c,h=>by
   rw[lJ] at h
   rcases List.mem_append.mp h with h | h
   .exact .inr ⟨x,fI ..,h⟩
   .rcases List.mem_cons.mp h with h | h
    .exact .inl h
    .rcases BJ s h with h | ⟨z,hz,hc⟩
     .exact .inl h
     .exact .inr ⟨z,eU _ hz,hc⟩
def bV(ws:List Str):Str:=ir " " ws
def tT(ws:List Str):bV ws=gD (one 32) ws:=by unfold bV;rw[vK];exact Dx _ _
def BK{B:Nat}:∀(xs:List Str),(∀y∈xs,y.length<=B)->(xs.map (·.length)).sum<=xs.length*B
 | [],_=>by simp
 | y::r,h=>by
   have h1:=h y (fI ..)
   have h2:=BK r λz hz=>h z (eU _ hz)
   simp only[gz,List.sum_cons,a3,Q2]
   lia
def vL{ws:List Str}(h:∀w∈ws,b9 w):(bV ws).length<=32*ws.length:=by
 rw[tT]
 have h1:=Ro (one 32) ws
 have h2:=BK (B:=31) ws λy hy=>(h y hy).1
 have h3:(one 32).length=1:=rfl
 rw[h3] at h1
 lia
def BL{ws:List Str}(h:∀w∈ws,b9 w)(hl:ws.length<=1000):oZ " " ws=true:=by
 unfold oZ
 rw[vK]
 have h3:(one 32).length=1:=rfl
 rw[Rp (B:=31) (λy hy=>(h y hy).1) (by rw[h3];lia)];rfl
def qI{ws:List Str}(h:∀w∈ws,b9 w)(h0:ws≠[]):bW (bV ws) " "=ws:=by
 unfold bV
 rw[vK]
 exact Bm 32 h0 λx hx z=>((h x hx).2 32 z).1 rfl
def yA{ws:List Str}(h:∀w∈ws,b9 w):10 ∉ (bV ws).cps.toList:=λz=>by
 rw[tT] at z
 rcases BJ 32 z with e | ⟨x,hx,hc⟩
 .exact absurd e (by decide)
 .exact((h x hx).2 10 hc).2 rfl
def tU(rs:List (List Str)):Str:=ir "\n" (rs.map bV)
def Wb{rs:List (List Str)}(h:∀ws∈rs,ws.length<=400/\∀w∈ws,b9 w)(hl:rs.length<=3):oZ "\n" (rs.map bV)=true:=by
 unfold oZ
 rw[sr]
 have h3:(one 10).length=1:=rfl
 rw[Rp (B:=12800) (λy hy=>by
  obtain⟨ws,hw,rfl⟩:=List.mem_map.mp hy
  have:=vL (h ws hw).2
  have:=(h ws hw).1
  lia) (by rw[h3,aZ];lia)];rfl
def Wc{rs:List (List Str)}(h:∀ws∈rs,ws.length<=400/\∀w∈ws,b9 w)(hl:rs.length<=3):(tU rs).length<=50000:=by
 unfold tU
 have e:ir "\n" (rs.map bV)=gD (one 10) (rs.map bV):=by rw[sr];exact Dx _ _
 rw[e]
 have h1:=Ro (one 10) (rs.map bV)
 have h2:=BK (B:=12800) (rs.map bV) λy hy=>by
  obtain⟨ws,hw,rfl⟩:=List.mem_map.mp hy
  have:=vL (h ws hw).2
  have:=(h ws hw).1
  lia
 have h3:(one 10).length=1:=rfl
 rw[h3] at h1
 rw[aZ] at h1 h2
 lia
def We{rs:List (List Str)}(h:∀ws∈rs,ws.length<=400/\∀w∈ws,b9 w)(h0:rs≠[]):bW (tU rs) "\n"=rs.map bV:=by
 unfold tU
 rw[sr]
 refine Bm 10 (by simpa using h0) λx hx=>?_
 obtain⟨ws,hw,rfl⟩:=List.mem_map.mp hx
 exact yA (h ws hw).2
def dY(P:Int)(ns:List Str)(xL:List Item):List (List Str):=[["prime",aH P],"boxes"::ns,"do"::Item.aE ns xL]
def FC{P:Int}{ns:List Str}{xL:List Item}(N:gr ns)(h0:0<=P)(hP:P<=9999)(hm:Item.aP xL<=60)(ho:Item.cB P ns.length xL):∀ws∈dY P ns xL,ws.length<=400/\∀w∈ws,b9 w:=by
 intro ws hw
 have l3:=N.l3
 have wl:=Item.jo (P:=P) (ns:=ns) l3 _ xL (a9 _) ho
 simp only[dY,gS,iX,or_false] at hw
 rcases hw with rfl | rfl | rfl
 .refine⟨by simp,λw hw=>?_⟩
  simp only[gS,iX,or_false] at hw
  rcases hw with rfl | rfl
  .exact FA
  .exact vJ h0 (by lia)
 .refine⟨by simp only[a3];lia,λw hw=>?_⟩
  rcases List.mem_cons.mp hw with rfl | hw
  .exact MA
  .exact BI N hw
 .refine⟨by simp only[a3];lia,λw hw=>?_⟩
  rcases List.mem_cons.mp hw with rfl | hw
  .exact MB
  .exact tS N hP _ xL (a9 _) ho w hw
def qJ{sep:Str}{ws:List Str}(h:oZ sep ws=true){g:G->R D}{O:G}(hg:g O = .ok (.lst (ws.map D.str))):kP sep g O = .ok (.str (ir sep ws)):=by
 unfold kP
 rw[hg,R.bB]
 dsimp only
 rw[strs?_map]
 dsimp only
 rw[a4 h]
def fx{gs:G->R (List D)}{O:G}{ws:List Str}(h:gs O = .ok (ws.map D.str))(hl:ws.length<=1000):bN gs O = .ok (ws.map D.str):=by
 unfold bN
 rw[h,R.bB,a4 ⟨by rw[aZ];exact hl,iE ws⟩]
def j7{ga gb:G->R (List D)}{O:G}{us ws:List Str}(h1:ga O = .ok (us.map D.str))(h2:gb O = .ok (ws.map D.str))(hl:us.length+ws.length<=1000):f_ ga gb O = .ok ((us++ws).map D.str):=by
 unfold f_
 rw[h1,h2,R.bB,R.bB,a4 (by rw[aZ,aZ];exact hl),iK]
def yB{ns:List Str}{l:Bool}{g:G->R D}{O:G}(h:g O = .ok (a6 l ns)):ji g O = .ok (ns.map D.str):=by
 unfold ji
 rw[h,R.bB]
 unfold a6 jj
 cases l<;>simp only[if_true,if_false,Rn,Ez,a4 (iE ns)]
def pG{φ:List D->R (List D)}{gs:G->R (List D)}{O:G}{ds:List D}{ws:List Str}(h:gs O = .ok ds)(e:φ ds = .ok (ws.map D.str)):kv φ gs O = .ok (ws.map D.str):=by
 unfold kv
 rw[h,R.bB,e,R.bB,a4 (iE ws)]
def bH{gs:G->R (List D)}{O:G}{ds:List D}(h:gs O = .ok ds):gL gs O = .ok (.lst ds):=by unfold gL;rw[h];rfl
def aJ{g:G->R D}{gs:G->R (List D)}{O:G}{d:D}{ds:List D}(h:g O = .ok d)(h2:gs O = .ok ds):ae g gs O = .ok (d::ds):=by unfold ae;rw[h,h2];rfl
def bM{φ:List D->R D}{gs:G->R (List D)}{O:G}{ds:List D}{r:R D}(h:gs O = .ok ds)(e:φ ds=r):az φ gs O=r:=by unfold az;rw[h];exact e
def da{g:G->R D}{O:G}{d:D}(h:g O = .ok d)(n:d.cy=true):aB g O = .ok d:=by unfold aB;rw[h,R.bB,a4 n]
def jq{gs:G->R (List D)}{O:G}{ds:List D}(h:gs O = .ok ds)(hl:ds.length<=1000):z5n gs O = .ok ds:=by unfold z5n;rw[h,R.bB,a4 hl]
def kz{ga gb:G->R D}{O:G}{us ws:List Str}(h1:ga O = .ok (.lst (us.map D.str)))(h2:gb O = .ok (.lst (ws.map D.str)))(hl:us.length+ws.length<=1000):gf ga gb O = .ok ((us++ws).map D.str):=by
 unfold gf
 rw[h1,h2,R.bB,R.bB]
 show R.guard _ _=_
 rw[<-iK,a4 ⟨by rw[aZ,aZ];exact hl,iE _⟩]
def BM{P:Int}{ns:List Str}{l:Bool}(h3:ns.length<=3)(hP:P<=9999):∀(k:Nat) (xL:List Item),Item.cz xL<k->Item.aP xL<=60->Item.cB P ns.length xL->qE k [a6 l ns,.tup (xL.map Item.d)] = .ok ((Item.aE ns xL).map D.str)
 | 0,_,h,_,_=>by lia
 | k+1,xL,h,hm,ho=>by
   show oa 2 4 (Ff (qE k)) _=_
   refine Lx rfl ?_
   delta Ff
   refine gp (ds:=([]:List Str).map D.str) (fx (ws:=[]) rfl (by simp)) ?_
   refine Ly (ds:=xL.map Item.d) (λj O=>∃(x3:En),O=[.ro (a6 l ns),.ro (.tup (xL.map Item.d)),.own ((Item.aE ns (xL.take j)).map D.str),x3]) rfl ⟨_,rfl⟩ ?_ ?_
   .rintro j d O hd ⟨x3,rfl⟩
    obtain⟨a,ea,rfl,ha⟩:=VT hd
    have gM:=Item.hW.mp ho _ ha
    have BN:=Item.jF.mp (a9 (Item.cz xL)) _ ha
    have pH:=Item.yo ha
    have q1:=Wa (P:=P) h3 ho hm (j+1)
    have q0:=Mu ns xL j a ea
    rw[q0,aY] at q1
    show Ends (bL _ _ _ [En.ro (a6 l ns),.ro (.tup (xL.map Item.d)),.own ((Item.aE ns (xL.take j)).map D.str),.ro a.d]) _
    generalize hU:Item.aE ns (xL.take j)=U at q0 q1
    cases a with
    | set x f =>
      simp only[Item.ok] at gM
      obtain⟨i,rfl⟩:=rH gM.1
      have e1:=BH (ns:=ns) (show i<ns.length by lia) l
      rw[fi (by simp only[Item.d];walk_at "a") rfl]
      refine .nx (m_ (ds:=(U++Item.ws ns (.set (i:Int) f)).map D.str) ?_) ⟨_,by rw[q0];rfl⟩
      have yC:U++Item.ws ns (.set (i:Int) f)=(U++([("set":Str),ns.getD i ""]:List Str))++f.map aH:=by simp only[Item.ws,iq,jQ,fT,l_]
      rw[<-aY,yC] at q1
      rw[yC]
      simp only[aY,a3,iW,aZ] at q1
      refine j7 (kz rfl (bH (fx (ws:=["set",ns.getD i ""]) (aJ rfl (aJ ?_ rfl)) (by simp))) (by simp only[a3,iW];lia)) ?_ (by simp only[aY,a3,iW,aZ];lia)
      .simp only[Item.d,af,gV,gC,fe,iC,R.bB,L_,e1]
      .unfold fh
       have nf:D.bQ (f.map D.int)=true:=rW f
       rw[show jZ (af aI (gV 3) (gC (.int 2))) [En.ro (a6 l ns),.ro (.tup (xL.map Item.d)),.own (U.map D.str),.ro (Item.set (i:Int) f).d] = .ok (f.map D.int) by
        simp only[Item.d,jZ,af,gV,gC,fe,iC,R.bB,L7,gW,vo,a4 nf]]
       show R.guard _ _=_
       rw[a4 (by rw[aZ];lia),rJ]
       refine qw λv hv=>?_
       have ov:=gM.2.2.2 v hv
       have e:=sq ov.1 (show v<=10^30 by lia)
       simp only[fU,aB,az,ae,ak,gV,fe,R.bB,e]
       walk_at "a"
       try rfl
    | again n i =>
      simp only[Item.ok] at gM
      simp only[Item.deep] at BN
      simp only[Item.many] at pH
      have ih:=BM (l:=l) h3 hP k i (by lia) (by lia) gM.2.2
      have e2:=sq gM.1 gM.2.1
      rw[EI (by simp only[Item.d];walk_at "a") rfl]
      refine .nx (m_ (ds:=(U++Item.ws ns (.again n i)).map D.str) ?_) ⟨_,by rw[q0];rfl⟩
      have yC:U++Item.ws ns (.again n i)=((U++([("again":Str),aH n,"["]:List Str))++Item.aE ns i)++([("]":Str)]:List Str):=by simp only[Item.ws,jQ,fT,l_]
      rw[<-aY,yC] at q1
      rw[yC]
      simp only[aY,a3,iW] at q1
      refine j7 (j7 (kz rfl (bH (fx (ws:=["again",aH n,"["]) (aJ rfl (aJ ?_ (aJ rfl rfl))) (by simp))) (by simp only[a3,iW];lia)) (pG (aJ rfl (aJ ?_ rfl)) ih) (by simp only[aY,a3,iW];lia)) (fx (ws:=["]"]) rfl (by simp)) (by simp only[aY,a3,iW];lia)
      .refine bM (ds:=[.int n]) (aJ ?_ rfl) e2
       simp only[Item.d,af,gV,gC,fe,iC,R.bB,L_]
      .simp only[Item.d,Item.ds_map,af,gV,gC,fe,iC,R.bB,L7]
   .rintro O ⟨x3,rfl⟩
    rw[aZ,Dv]
    exact Vh rfl
def MC(x:Str):("prime ":Str)++x=bV ["prime",x]:=by
 rw[tT]
 show _="prime"++one 32++x
 rw[show("prime":Str)++one 32="prime " by trivial]
def Wf{P:Int}{ns:List Str}{xL:List Item}(N:gr ns)(h0:0<=P)(hP:P<=9999)(hm:Item.aP xL<=60)(hd:Item.cz xL<=4)(ho:Item.cB P ns.length xL):Fg [.int P,a6 false ns,.tup (xL.map Item.d)] = .ok (.str (tU (dY P ns xL))):=by
 have l3:=N.l3
 have kS:=FC N h0 hP hm ho
 have wl:=Item.jo (P:=P) (ns:=ns) l3 _ xL (a9 _) ho
 have ew:=BM (P:=P) (ns:=ns) (l:=false) l3 hP 12 xL (by lia) hm ho
 have es:=sq h0 (show P<=10^30 by lia)
 refine dn rfl ?_
 delta Mb
 refine gp (ds:=((dY P ns xL).map bV).map D.str) ?_ ?_
 .show bN _ [En.ro (.int P),.ro (a6 false ns),.ro (.tup (xL.map Item.d)),.no]=_
  refine fx (aJ ?_ (aJ ?_ (aJ ?_ rfl))) (by simp[dY])
  .have e:az iN (ae (gV 0) ak) [En.ro (.int P),.ro (a6 false ns),.ro (.tup (xL.map Item.d)),.no] = .ok (.str (aH P)):=bM (aJ rfl rfl) es
   unfold af
   rw[e]
   show R.guard _ _=_
   have ln:=qB h0 (show P<=10^30 by lia)
   have l6:("prime ":Str).length=6:=by trivial
   rw[a4 (by lia),MC]
  .exact qJ (ws:="boxes"::ns) (BL (kS _ (by simp[dY])).2 (by simp only[a3];lia)) (bH (ds:=(("boxes":Str)::ns).map D.str) (j7 (us:=["boxes"]) (fx (ws:=["boxes"]) rfl (by simp)) (yB rfl) (by simp only[a3,iW];lia)))
  .exact qJ (ws:="do"::Item.aE ns xL) (BL (kS _ (by simp[dY])).2 (by simp only[a3];lia)) (bH (ds:=(("do":Str)::Item.aE ns xL).map D.str) (j7 (us:=["do"]) (fx (ws:=["do"]) rfl (by simp)) (pG (aJ rfl (aJ rfl rfl)) ew) (by simp only[a3,iW];lia)))
 .refine dF ?_
  exact qJ (ws:=(dY P ns xL).map bV) (Wb kS (by simp[dY])) rfl
def tV{sep x:Str}{g:G->R D}{O:G}{ws:List Str}(h:g O = .ok (.str x))(hx:x.length<=100000)(hs:(sep.length==0)=false)(e:bW x sep=ws):oh sep g O = .ok (ws.map D.str):=by
 unfold oh
 rw[h,R.bB]
 dsimp only
 rw[a4 ⟨hx,hs⟩,e]
def su{g:G->R Bool}{O:G}{b:Bool}(h:g O = .ok b):jW g O = .ok (!b):=by unfold jW;rw[h];rfl
def pI{a b:G->R Bool}{O:G}{r:R Bool}(h:a O = .ok false)(h2:b O=r):kn a b O=r:=by unfold kn;rw[h];exact h2
def fy{g:G->R D}{O:G}{b:Bool}(h:g O = .ok (.bl b)):gT g O = .ok b:=by unfold gT;rw[h];rfl
def aW{φ:D->D->R D}{ga gb:G->R D}{O:G}{a b:D}{r:R D}(h1:ga O = .ok a)(h2:gb O = .ok b)(e:φ a b=r):af φ ga gb O=r:=by unfold af;rw[h1,h2];exact e
def MD{P:Int}(p1:3<=P)(p2:P<=9973)(hd:hV P=false):j6 [.lst [.str (aH P)]] = .ok (.int P):=by
 have en:=tR (show 0<=P by lia) (show P<=10^30 by lia)
 have ep:=EY (d:=.int P) rfl
 have eb:ym (.int P)=true:=by
  show(decide (3<=P)&&(decide (P<=9999)&&!hV P))=true
  rw[decide_eq_true p1,decide_eq_true (show P<=9999 by lia),hd];rfl
 rw[eb] at ep
 refine dn rfl ?_
 delta yu
 refine dz (by walk_at "a";try rfl) ?_
 refine c9 (d:=.int P) (da (bM (ds:=[.str (aH P)]) (aJ (aW (a:=.lst [.str (aH P)]) (b:=.int 0) rfl rfl rfl) rfl) en) rfl) ?_
 refine dz (su (fy (bM (ds:=[.int P]) (aJ rfl rfl) ep))) (dF rfl)
def Wg:∀c:Nat,97<=c->c<=122->og ⟨#[c]⟩ "abcdefghijklmnopqrstuvwxyz"=true:=by
 have key:∀i:Fin 26,og ⟨#[97+i.val]⟩ "abcdefghijklmnopqrstuvwxyz"=true:=by trivial
 intro c h1 h2
 have:=key ⟨c-97,by lia⟩
 rw[show 97+(c-97)=c by lia] at this
 exact this
def Wh{x:Str}(hx:aR x=true)(h:x≠"set"/\x≠"again"):z9s (.str x) (.tup [.str "set",.str "again"]) = .ok (.bl true):=by
 have k1:aR "set"=true:=by trivial
 have k2:aR "again"=true:=by trivial
 show R.guard _ _=_
 rw[a4 ⟨by rw[kq];exact hx,by rw[x_];simp only[Ah,Rq,kq,k1,k2,Rr]⟩]
 have e1:bG (.str "set") (.str x)=false:=by rw[z5x];simpa using dC h.1
 have e2:bG (.str "again") (.str x)=false:=by rw[z5x];simpa using dC h.2
 simp only[uR,JN,e1,e2,Bool.or_self,Bool.not_false]
def Wi{ns:List Str}(N:gr ns){x:Str}(hx:x∈ns):tN [.str x] = .ok (.bl true):=by
 have w:=N.w1 x hx
 have em:=Mo (w:=x) (S:="abcdefghijklmnopqrstuvwxyz") (m:=8) w.1 (by lia) (by lia) λc hc=>Wg c (N.lt x hx c hc).1 (N.lt x hx c hc).2
 refine dn rfl ?_
 delta Fo
 refine dF (BF (bM (ds:=[.str x,.str "abcdefghijklmnopqrstuvwxyz",.int 8]) rfl em) ?_)
 exact aW (a:=.str x) (b:=.tup [.str "set",.str "again"]) rfl (by walk_at "a") (Wh (N.ok x hx) (N.nk x hx))
def ME:∀(xs acc:List Str),xs.Nodup->(∀x∈xs,x ∉ acc)->xs.foldl (λl k=>if k∈l then l else k::l) acc=xs.reverse++acc
 | [],_,_,_=>rfl
 | x::r,acc,nd,h=>by
   obtain⟨n1,n2⟩:=List.nodup_cons.mp nd
   rw[JG,if_neg (h x (fI ..)),ME r (x::acc) n2 (λy hy z=>by
    rcases List.mem_cons.mp z with rfl | z
    .exact n1 hy
    .exact h y (eU _ hy) z)]
   simp
def MF{xs:List Str}(h:xs.Nodup):(fw xs).length=xs.length:=by
 unfold fw
 rw[ME xs [] h (λ_ _ z=>nomatch z)];simp
def Wj{ns:List Str}(N:gr ns):mE [.lst (ns.map D.str)] = .ok (a6 false ns):=by
 have l1:=N.l1
 have l3:=N.l3
 refine dn rfl ?_
 delta vD
 have el:az bX (ae (gV 0) ak) [En.ro (.lst (ns.map D.str))] = .ok (.int (ns.length:Int)):=by
  walk_at "a"
  try rw[aZ]
 refine dz (pI (su (b:=true) ?_) (pI (fy (aW (a:=.int (ns.length:Int)) (b:=.int 3) el rfl ?_)) (fy (aW (a:=.int ((fw ns).length:Int)) (b:=.int (ns.length:Int)) ?_ el ?_)))) ?_
 .show z9o (gV 0) [En.ro (.lst (ns.map D.str))]=_
  simp only[z9o,gV,fe,R.bB]
  cases ns with
  | nil=>simp at l1
  | cons a r=>rfl
 .have b:decide ((3:Int)<(ns.length:Int))=false:=decide_eq_false (by lia)
  simp only[qq]
  rw[b]
 .show vv (gV 0) [En.ro (.lst (ns.map D.str))]=_
  unfold vv
  rw[show gV 0 [En.ro (.lst (ns.map D.str))] = .ok (.lst (ns.map D.str)) from rfl,R.bB]
  dsimp only
  rw[strs?_map]
  dsimp only
  rw[a4 (by lia)]
 .rw[MF N.nd]
  show iM (.int (ns.length:Int)) (.int (ns.length:Int)) = .ok (.bl false)
  walk_at "a"
  try simp
 .have ec:fh (jZ (gV 0)) (fU (aB (az (jY tN) (ae (gV 0) ak)))) [En.ro (.lst (ns.map D.str))] = .ok ((ns.map λ_=>true).map D.bl):=by
   unfold fh
   rw[show jZ (gV 0) [En.ro (.lst (ns.map D.str))] = .ok (ns.map D.str) by
    simp only[jZ,gV,fe,R.bB,vo,a4 (iE ns)]]
   show R.guard _ _=_
   rw[a4 (by rw[aZ];lia),rJ]
   refine qw λx hx=>?_
   have e:=Wi N hx
   show(aB (az (jY tN) (ae (gV 0) ak)) (En.ro (.str x)::[En.ro (.lst (ns.map D.str))])>>=λe=>R.ok (some e))=_
   rw[da (d:=.bl true) (bM (ds:=[.str x]) rfl (by unfold jY;rw[e])) rfl]
   rfl
  refine dz (su (b:=true) (fy (bM (ds:=[.lst ((ns.map λ_=>true).map D.bl)]) (aJ (bH ec) rfl) ?_))) ?_
  .rw[yc];simp
  .refine dF ?_
   show az ku _ [En.ro (.lst (ns.map D.str))]=_
   have n1:=iE ns
   walk_at "a"
   try rfl
def vM(c m:Int)(s k p:Nat):Int:=(c/64*(2*(p:Int)+1)+m/26*(p:Int)+7*(p:Int)*(p:Int))+(if (p:Int)=c/8%(s:Int) then (1+2*(m%6))*(k:Int) else 0)
def let1(v:Int):Nat:=97+(v%26).toNat
def fz(c m:Int)(s k j:Nat):Str:=⟨((g6 j).map λp=>let1 (vM c m s k p)).toArray⟩
def lO(w:Str):Str:=if w="set"∨w="again" then w++"x" else w
def Wk(v:Int):97<=let1 v/\let1 v<=122:=by unfold let1;lia
def Wl(v:Int):dIxS (.str "abcdefghijklmnopqrstuvwxyz") (.int (v%26)) = .ok (.str ⟨#[let1 v]⟩):=by
 have key:∀i:Fin 26,cV ("abcdefghijklmnopqrstuvwxyz":Str).cps.toList (i.val:Int)=some (97+i.val):=by trivial
 have hv:v%26=(((v%26).toNat:Nat):Int):=by lia
 have e:=key ⟨(v%26).toNat,by lia⟩
 show R.guard _ _=_
 rw[a4 (by trivial),hv,e]
 rfl
def Wm(c m:Int)(s k j:Nat):fz c m s k (j+1)=fz c m s k j++⟨#[let1 (vM c m s k j)]⟩:=by
 refine Dw ?_
 rw[JM]
 unfold fz
 simp[s_]
def vN(c m:Int)(s k j:Nat):(fz c m s k j).length=j:=by simp[fz,kF]
def FD(c m:Int)(s k j:Nat):∀x∈(fz c m s k j).cps.toList,97<=x/\x<=122:=by
 intro x hx
 simp only[fz,Rt] at hx
 obtain⟨p,_,rfl⟩:=hx
 exact Wk _
def FE{w:Str}(h:∀x∈w.cps.toList,97<=x/\x<=122):aR w=true:=by
 unfold aR
 rw[<-uP,nV]
 intro c hc
 have:=h c hc
 simpa using (show c<0x110000 by lia)
def BO{lo:Int}{n j:Nat}{d:D}(h:(fL lo n)[j]? = some d):j<n/\d = .int (lo+(j:Int)):=by
 by_cases q:j<n
 .rw[EA lo n j q] at h;cases h;exact⟨q,rfl⟩
 .have:(fL lo n)[j]? = none:=kG (by rw[qv];lia)
  rw[this] at h;cases h
def Wn{w:Str}(hw:aR w=true):dIn (.str w) (.tup [.str "set",.str "again"]) = .ok (.bl (decide (w="set"∨w="again"))):=by
 have k1:aR "set"=true:=by trivial
 have k2:aR "again"=true:=by trivial
 show R.guard _ _=_
 rw[a4 ⟨by rw[kq];exact hw,by rw[x_];simp only[Ah,Rq,kq,k1,k2,Rr]⟩]
 have e1:bG (.str "set") (.str w)=decide (w="set"):=by
  rw[z5x]
  by_cases q:w="set"
  .rw[q];simp
  .rw[decide_eq_false q];simpa using dC q
 have e2:bG (.str "again") (.str w)=decide (w="again"):=by
  rw[z5x]
  by_cases q:w="again"
  .rw[q];simp
  .rw[decide_eq_false q];simpa using dC q
 simp only[uR,JN,e1,e2,Dl,a3l]
def Wo{w v:Str}(hl:w.length=v.length)(h:lO w=lO v):w=v:=by
 unfold lO at h
 have lx:("x":Str).length=1:=by trivial
 by_cases q:w="set"∨w="again"
 .by_cases r:v="set"∨v="again"
  .rcases q with rfl | rfl<;>rcases r with rfl | rfl<;>first | rfl | exact absurd hl (by trivial)
  .rw[if_pos q,if_neg r] at h
   have:=congrArg kF h
   rw[Ru] at this
   lia
 .by_cases r:v="set"∨v="again"
  .rw[if_neg q,if_pos r] at h
   have:=congrArg kF h
   rw[Ru] at this
   lia
  .rw[if_neg q,if_neg r] at h
   exact h
def Wq{c m:Int}{s k l:Nat}(s1:1<=s)(hk:k<l)(hl:l<3):fz c m s k s≠fz c m s l s:=λh=>by
 obtain⟨q,hq⟩:∃q:Nat,c/8%(s:Int)=(q:Int):=⟨(c/8%(s:Int)).toNat,by have:=mM (c/8) (show(s:Int)≠0 by lia);lia⟩
 have Wr:q<s:=by have:=mO (c/8) (show(0:Int)<(s:Int) by lia);lia
 have e:=congrArg (λw:Str=>w.cps.toList[q]?) h
 simp only[fz,jO,a3j Wr,a3m,xq,let1,vM,hq,if_true] at e
 have Ws:k=0∨k=1:=by lia
 have Wt:l=1∨l=2:=by lia
 generalize c/64*(2*(q:Int)+1)+m/26*(q:Int)+7*(q:Int)*(q:Int)=b at e
 rcases Ws with rfl | rfl<;>rcases Wt with rfl | rfl<;>(push_cast at e;lia)
def eG(c m:Int)(s n:Nat):List Str:=(g6 n).map λk=>lO (fz c m s k s)
def Wu{c m:Int}{s n:Nat}(s1:1<=s)(s8:s<=8)(n1:1<=n)(n3:n<=3):gr (eG c m s n):=by
 have lx:("x":Str).length=1:=by trivial
 have lt:∀x∈eG c m s n,∀z∈x.cps.toList,97<=z/\z<=122:=by
  intro x hx z hz
  obtain⟨k,_,rfl⟩:=List.mem_map.mp hx
  unfold lO at hz
  split at hz
  .rw[JM,Array.toList_append] at hz
   rcases List.mem_append.mp hz with hz | hz
   .exact FD c m s k s z hz
   .have:("x":Str).cps.toList=[120]:=by trivial
    rw[this] at hz
    simp at hz
    lia
  .exact FD c m s k s z hz
 refine⟨⟨?_,λx hx=>FE (lt x hx),by simp[eG];exact n1,by simp[eG];exact n3⟩,λx hx=>?_,lt,λx hx=>?_⟩
 .have ne:∀k l,k<l->l<3->lO (fz c m s k s)≠lO (fz c m s l s):=λk l h1 h2 z=>Wq s1 h1 h2 (Wo (by rw[vN,vN]) z)
  have q1:=ne 0 1 (by lia) (by lia)
  have q2:=ne 0 2 (by lia) (by lia)
  have q3:=ne 1 2 (by lia) (by lia)
  have:n=1∨n=2∨n=3:=by lia
  rcases this with rfl | rfl | rfl
  .simp[eG,s_]
  .simp[eG,s_,q1]
  .simp[eG,s_,q1,q2,q3]
 .obtain⟨k,_,rfl⟩:=List.mem_map.mp hx
  have wl:=vN c m s k s
  unfold lO
  split
  .rename_i h
   rw[Ru,lx]
   rcases h with h | h
   .rw[h];exact⟨by trivial,by trivial⟩
   .rw[h];exact⟨by trivial,by trivial⟩
  .lia
 .obtain⟨k,_,rfl⟩:=List.mem_map.mp hx
  unfold lO
  split
  .rename_i h
   rcases h with h | h
   .rw[h];exact⟨by trivial,by trivial⟩
   .rw[h];exact⟨by trivial,by trivial⟩
  .rename_i h
   exact⟨λz=>h (.inl z),λz=>h (.inr z)⟩
abbrev lQ:Str:="abcdefghijklmnopqrstuvwxyz"
def Wv{c m:Int}{n:Nat}(n1:1<=n)(n3:n<=3):∃s:Nat,1<=s/\s<=8/\Fe [.int c,.int m,.int n] = .ok (a6 false (eG c m s n)):=by
 obtain⟨s,hs⟩:∃s:Nat,1+c%8=(s:Int):=⟨(1+c%8).toNat,by lia⟩
 have s1:1<=s:=by lia
 have s8:s<=8:=by lia
 refine⟨s,s1,s8,?_⟩
 refine dn rfl ?_
 delta Ma
 refine c9 (d:=.str lQ) (da rfl rfl) ?_
 refine c9 (d:=.int (s:Int)) (by
  walk_at "a"
  rw[hs]
  try walk_at "a") ?_
 refine gp (ds:=([]:List Str).map D.str) (fx (ws:=[]) rfl (by simp)) ?_
 show aC _ _ [En.ro (.int c),.ro (.int m),.ro (.int n),.ro (.str lQ),.ro (.int s),.own ((eG c m s 0).map D.str),.no,.no,.no,.no]=_
 refine Ly (ds:=fL 0 n) (λk O=>∃(x6 x7 x8 x9:En),O=[.ro (.int c),.ro (.int m),.ro (.int n),.ro (.str lQ),.ro (.int s),.own ((eG c m s k).map D.str),x6,x7,x8,x9]) (by walk_at "a";try rfl) ⟨_,_,_,_,rfl⟩ ?_ ?_
 .rintro k d O hd ⟨x6,x7,x8,x9,rfl⟩
  obtain⟨hk,rfl⟩:=BO hd
  rw[DA]
  show Ends (aC _ _ [En.ro (.int c),.ro (.int m),.ro (.int n),.ro (.str lQ),.ro (.int s),.own ((eG c m s k).map D.str),.ro (.int (k:Int)),x7,x8,x9]) _
  rw[c9 (d:=.str "") (da rfl rfl) rfl]
  refine L6 (λr=>Ends r _) (λj O=>∃(x8 x9:En),O=[.ro (.int c),.ro (.int m),.ro (.int n),.ro (.str lQ),.ro (.int s),.own ((eG c m s k).map D.str),.ro (.int (k:Int)),.ro (.str (fz c m s k j)),x8,x9]) (ds:=fL 0 s) (by walk_at "a";try rfl) ⟨_,_,rfl⟩ ?_ ?_
  .rintro j d O hd ⟨x8,x9,rfl⟩
   obtain⟨hj,rfl⟩:=BO hd
   rw[DA]
   show Ends (aC _ _ [En.ro (.int c),.ro (.int m),.ro (.int n),.ro (.str lQ),.ro (.int s),.own ((eG c m s k).map D.str),.ro (.int (k:Int)),.ro (.str (fz c m s k j)),.ro (.int (j:Int)),x9]) _
   rw[c9 (d:=.int (c/64*(2*(j:Int)+1)+m/26*(j:Int)+7*(j:Int)*(j:Int))) (by walk_at "a") rfl]
   show Ends (aC _ _ [En.ro (.int c),.ro (.int m),.ro (.int n),.ro (.str lQ),.ro (.int s),.own ((eG c m s k).map D.str),.ro (.int (k:Int)),.ro (.str (fz c m s k j)),.ro (.int (j:Int)),.ro (.int (c/64*(2*(j:Int)+1)+m/26*(j:Int)+7*(j:Int)*(j:Int)))]) _
   have last:∀v:Int,v=vM c m s k j->Ends (bF 7 (aB (af z5z (gV 7) (af dIxS (gV 3) (af a_ (gV 9) (gC (.int 26)))))) [En.ro (.int c),.ro (.int m),.ro (.int n),.ro (.str lQ),.ro (.int s),.own ((eG c m s k).map D.str),.ro (.int (k:Int)),.ro (.str (fz c m s k j)),.ro (.int (j:Int)),.ro (.int v)]) (λO=>∃(x8 x9:En),O=[.ro (.int c),.ro (.int m),.ro (.int n),.ro (.str lQ),.ro (.int s),.own ((eG c m s k).map D.str),.ro (.int (k:Int)),.ro (.str (fz c m s k (j+1))),x8,x9]):=by
    intro v hv
    refine .nx (r9 (d:=.str (fz c m s k (j+1))) (da (aW (a:=.str (fz c m s k j)) (b:=.str ⟨#[let1 v]⟩) rfl (aW (a:=.str lQ) (b:=.int (v%26)) rfl (by walk_at "a") (Wl v)) ?_) rfl)) ⟨_,_,rfl⟩
    show R.guard _ _=_
    rw[a4 (by rw[vN];show j+1<=100000;lia),Wm,hv]
   by_cases q:(j:Int)=c/8%(s:Int)
   .have bq:((j:Int)==c/8%(s:Int))=true:=by simpa using q
    have cond:gT (af bI (gV 8) (af a_ (af dw (gV 0) (gC (.int 8))) (gV 4))) [En.ro (.int c),.ro (.int m),.ro (.int n),.ro (.str lQ),.ro (.int s),.own ((eG c m s k).map D.str),.ro (.int (k:Int)),.ro (.str (fz c m s k j)),.ro (.int (j:Int)),.ro (.int (c/64*(2*(j:Int)+1)+m/26*(j:Int)+7*(j:Int)*(j:Int)))] = .ok true:=by
     walk_at "a"
     rw[bq]
    rw[yg cond (r9 (d:=.int ((c/64*(2*(j:Int)+1)+m/26*(j:Int)+7*(j:Int)*(j:Int))+(1+2*(m%6))*(k:Int))) (by walk_at "a")) rfl]
    exact last _ (by unfold vM;rw[if_pos q])
   .have bq:((j:Int)==c/8%(s:Int))=false:=by simpa using q
    have cond:gT (af bI (gV 8) (af a_ (af dw (gV 0) (gC (.int 8))) (gV 4))) [En.ro (.int c),.ro (.int m),.ro (.int n),.ro (.str lQ),.ro (.int s),.own ((eG c m s k).map D.str),.ro (.int (k:Int)),.ro (.str (fz c m s k j)),.ro (.int (j:Int)),.ro (.int (c/64*(2*(j:Int)+1)+m/26*(j:Int)+7*(j:Int)*(j:Int)))] = .ok false:=by
     walk_at "a"
     rw[bq]
    rw[dz cond rfl]
    exact last _ (by unfold vM;rw[if_neg q,Int.add_zero])
  .rintro O ⟨x8,x9,rfl⟩
   rw[qv]
   have wl:=vN c m s k s
   have wk:=FE (FD c m s k s)
   have en:(eG c m s (k+1)).map D.str=(eG c m s k).map D.str++[.str (lO (fz c m s k s))]:=by simp[eG,s_]
   have nl:((eG c m s k).map D.str).length<=100000:=by simp[eG];lia
   have fin:∀w x8 x9,w=lO (fz c m s k s)->Ends (mZ 5 (aB (gV 7)) [En.ro (.int c),.ro (.int m),.ro (.int n),.ro (.str lQ),.ro (.int s),.own ((eG c m s k).map D.str),.ro (.int (k:Int)),.ro (.str w),x8,x9]) (λO=>∃(x6 x7 x8 x9:En),O=[.ro (.int c),.ro (.int m),.ro (.int n),.ro (.str lQ),.ro (.int s),.own ((eG c m s (k+1)).map D.str),x6,x7,x8,x9]):=by
    intro w x8 x9 hw
    refine .nx (Vf rfl (d:=.str w) (da rfl rfl) nl) ⟨.ro (.int (k:Int)),.ro (.str w),x8,x9,?_⟩
    rw[en,hw]
    rfl
   have ci:=Wn wk
   by_cases q:fz c m s k s="set"∨fz c m s k s="again"
   .rw[decide_eq_true q] at ci
    rw[yg (fy (aW (a:=.str (fz c m s k s)) (b:=.tup [.str "set",.str "again"]) rfl (by walk_at "a") ci)) (r9 (d:=.str (fz c m s k s++"x")) (da (aW (a:=.str (fz c m s k s)) (b:=.str "x") rfl rfl ?_) rfl)) rfl]
    .exact fin _ _ _ (by unfold lO;rw[if_pos q])
    .show R.guard _ _=_
     have l1:("x":Str).length=1:=by trivial
     rw[a4 (by lia)]
   .rw[decide_eq_false q] at ci
    rw[dz (fy (aW (a:=.str (fz c m s k s)) (b:=.tup [.str "set",.str "again"]) rfl (by walk_at "a") ci)) rfl]
    exact fin _ _ _ (by unfold lO;rw[if_neg q])
 .rintro O ⟨x6,x7,x8,x9,rfl⟩
  rw[qv]
  refine dF ?_
  show az ku _ _=_
  have n1:=iE (eG c m s n)
  walk_at "a"
  try rfl
def yD{P:Int}{ns:List Str}(N:gr ns)(hP:P<=9999):∀(k:Nat) (xL:List Item),Item.aP xL<=k->Item.cB P ns.length xL->∀w∈Item.aE ns xL,aR w=true
 | _,[],_,_,w,hw=>by simp[Item.aE] at hw
 | 0,a::r,h,_,_,_=>by have:=a.tK;simp only[Item.aP] at h;lia
 | k+1,.set x f::r,h,ho,w,hw=>by
   simp only[Item.cB,Item.ok] at ho
   simp only[Item.aP,Item.many] at h
   simp only[Item.aE,Item.ws,fT,gS,nW] at hw
   rcases hw with rfl | rfl | hw | hw
   .trivial
   .exact N.ok _ (nu (by lia))
   .obtain⟨v,hv,rfl⟩:=List.mem_map.mp hw
    exact oF (ho.1.2.2.2 v hv).1
   .exact yD N hP k r (by lia) ho.2 w hw
 | k+1,.again n i::r,h,ho,w,hw=>by
   simp only[Item.cB,Item.ok] at ho
   simp only[Item.aP,Item.many] at h
   simp only[Item.aE,Item.ws,fT,gS,nW,jQ,iX,or_false,false_or] at hw
   rcases hw with rfl | rfl | rfl | hw | rfl | hw
   .trivial
   .exact oF ho.1.1
   .trivial
   .exact yD N hP k i (by lia) ho.1.2.2 w hw
   .trivial
   .exact yD N hP k r (by lia) ho.2 w hw
def MG{P:Int}{ns:List Str}{xL:List Item}(N:gr ns)(h0:0<=P)(hP:P<=9999)(ho:Item.cB P ns.length xL):∀ws∈dY P ns xL,∀w∈ws,aR w=true:=by
 intro ws hw w hx
 simp only[dY,gS,iX,or_false] at hw
 rcases hw with rfl | rfl | rfl
 .simp only[gS,iX,or_false] at hx
  rcases hx with rfl | rfl
  .trivial
  .exact oF h0
 .rcases List.mem_cons.mp hx with rfl | hx
  .trivial
  .exact N.ok _ hx
 .rcases List.mem_cons.mp hx with rfl | hx
  .trivial
  .exact yD N hP _ xL (a9 _) ho w hx
def MH{T:List D}{n:Nat}(h:T.length<n):nj [.lst T.reverse,.int n] = .er .aQ:=by
 refine(gK (as:=[]) (bs:=[.int n]) rfl rfl).trans ?_
 show yq [.own T.reverse,.ro (.int n)]=_
 delta yq
 have b1:decide (((T.length:Nat):Int)<(n:Int))=true:=decide_eq_true (by lia)
 exact lM (fi (by walk_at "a";simp only[uO,b1]) rfl)
def FF:nj [.lst ([]:List D).reverse,.int 1] = .er .aQ:=MH (T:=[]) (n:=1) (by simp)
def MI{x:Str}{T:List D}(hx:aR x=true)(hT:∀d T',T=d::T'->∃z,d = .str z/\aR z=true/\z≠x)(hl:T.length<=100000):yt [.lst T.reverse,.str x] = .er .aQ:=by
 refine(gK (as:=[]) (bs:=[.str x]) rfl rfl).trans ?_
 show yr [.own T.reverse,.ro (.str x)]=_
 delta yr
 cases T with
 | nil =>
   refine Ml (O':=_) (VX (Mh (dN (ds:=[.lst ([]:List D).reverse,.int 1]) (by walk_at "a") FF)))
 | cons d T =>
   obtain⟨z,rfl,hz,ne⟩:=hT d T rfl
   simp only[a3] at hl
   refine Ml (O':=[.own T.reverse,.ro (.str x)]) (VW (ws:=T.reverse) (Fw (d:=.lst [.str z]) (b:=.lst [.str x]) (dN (ds:=[.lst (D.str z::T).reverse,.int 1]) (by walk_at "a") (qH (by lia))) ?_ ?_) rfl)
   .have n1:D.bQ [D.str x]=true:=iE [x]
    walk_at "a"
   .show R.guard _ _=_
    have q:bG (.lst [.str z]) (.lst [.str x])=false:=by
     rw[UM,UN,z5x]
     simp[ne]
    rw[a4 ⟨Fy hz,Fy hx⟩,q]
    rfl
def Ww{P:Int}{ns:List Str}{k ar:Nat}{z:Str}{T:List D}(hz:aR z=true)(n1:z≠"set")(n2:z≠"again")(hl:T.length<100000):dX (k+1) [.int P,ay ns,.lst (D.str z::T).reverse,.int ar] = .er .aQ:=by
 refine(gK (as:=[.int P,ay ns]) (bs:=[.int ar]) rfl rfl).trans ?_
 show tM (fN k) (dX k) (dG k) [.ro (.int P),.ro (ay ns),.own (D.str z::T).reverse,.ro (.int ar),.no]=_
 unfold tM
 have k1:aR "set"=true:=by trivial
 have k2:aR "again"=true:=by trivial
 refine fV (pF (d:=.str z) (ws:=T.reverse) (tP (d:=.lst [.str z]) (b:=.int 0) (dN (ds:=[.lst (D.str z::T).reverse,.int 1]) (by walk_at "a") (qH hl)) (by walk_at "a") rfl)) ?_
 show oq _ _ _ [En.ro (.int P),.ro (ay ns),.own T.reverse,.ro (.int ar),.ro (.str z)]=_
 refine Fx ?_ (Fx ?_ rfl)
 .simp only[gT,af,gV,gC,fe,iC,R.bB]
  rw[nq hz k1,decide_eq_false n1];rfl
 .simp only[gT,af,gV,gC,fe,iC,R.bB]
  rw[nq hz k2,decide_eq_false n2];rfl
def FG{P:Int}{ns:List Str}{ar:Nat}{φ:List D->R (D×List D)}{x:Str}{T:List D}{c:Er}(hx:aR x=true)(ne:x≠"]")(vO:φ [.int P,ay ns,.lst (D.str x::T).reverse,.int ar] = .er c):∀(xL:List Item) (m:Nat) (ds:List D),xL.length<m->ds.length+xL.length<=60 ->
 (∀a r,∀pre,xL=pre++a::r->φ [.int P,ay ns,.lst ((Item.ws ns a).map D.str++((Item.aE ns r).map D.str++D.str x::T)).reverse,.int ar] = .ok (a.d,((Item.aE ns r).map D.str++D.str x::T).reverse)) ->
 ∃O',e_ oG (j4 4 2 (gq φ (ae (b7 0) (ae (b7 1) (z4u 2 (ae (b7 3) ak)))))) m [.ro (.int P),.ro (ay ns),.own ((Item.aE ns xL).map D.str++D.str x::T).reverse,.ro (.int ar),.own ds] = .ok (.ex c O')
 | _,0,_,h,_,_=>absurd h (Ac _)
 | [],m+1,ds,_,_,_=>by
   simp only[Item.aE,rD,l_]
   refine⟨[.ro (.int P),.ro (ay ns),.no,.ro (.int ar),.own ds],?_⟩
   have hb:j4 4 2 (gq φ (ae (b7 0) (ae (b7 1) (z4u 2 (ae (b7 3) ak))))) [.ro (.int P),.ro (ay ns),.own (D.str x::T).reverse,.ro (.int ar),.own ds] = .ok (.ex c [.ro (.int P),.ro (ay ns),.no,.ro (.int ar),.own ds]):=by
    refine Mg (ds:=ds) (dN (ds:=[.int P,ay ns,.lst (D.str x::T).reverse,.int ar]) ?_ vO) rfl
    walk_at "a"
   rw[pe,vI hx ne,n_,if_pos rfl,hb]
 | a::r,m+1,ds,h,hl,lN=>by
   have h1:=lN a r [] rfl
   obtain⟨O',ih⟩:=FG hx ne vO r m (ds++[a.d]) (by simp only[a3] at h;lia) (by simp only[aY,a3,iW] at hl ⊢;lia) (λb q pre e=>lN b q (a::pre) (by rw[e];rfl))
   refine⟨O',?_⟩
   have ew:(Item.aE ns (a::r)).map D.str++D.str x::T=(Item.ws ns a).map D.str++((Item.aE ns r).map D.str++D.str x::T):=by rw[Item.aE,iK,jQ]
   rw[ew,pe]
   have hg:oG [.ro (.int P),.ro (ay ns),.own ((Item.ws ns a).map D.str++((Item.aE ns r).map D.str++D.str x::T)).reverse,.ro (.int ar),.own ds] = .ok true:=by
    cases a with
    | set x f=>exact vI (x:="set") (by trivial) (by trivial)
    | again n i=>exact vI (x:="again") (by trivial) (by trivial)
   rw[hg]
   have hb:j4 4 2 (gq φ (ae (b7 0) (ae (b7 1) (z4u 2 (ae (b7 3) ak))))) [.ro (.int P),.ro (ay ns),.own ((Item.ws ns a).map D.str++((Item.aE ns r).map D.str++D.str x::T)).reverse,.ro (.int ar),.own ds] = .ok (.nx [.ro (.int P),.ro (ay ns),.own ((Item.aE ns r).map D.str++D.str x::T).reverse,.ro (.int ar),.own (ds++[a.d])]):=by
    refine Fv (ds:=ds) (dN (ds:=[.int P,ay ns,.lst ((Item.ws ns a).map D.str++((Item.aE ns r).map D.str++D.str x::T)).reverse,.int ar]) ?_ h1) rfl (by simp only[a3] at hl;lia)
    walk_at "a"
   rw[n_,if_pos rfl,hb]
   dsimp only
   exact ih
def Wx{a b:G->R D}{O:G}(h:a O = .ok (.bl false)):ko a b O = .ok (.bl false):=by unfold ko;rw[h];rfl
def FH{a b:G->R D}{O:G}{p q:Bool}(h:a O = .ok (.bl p))(h2:b O = .ok (.bl q)):ko a b O = .ok (.bl (p&&q)):=by
 cases p with
 | true=>rw[BF h h2,Rk]
 | false=>rw[Wx h,QG]
def pJ(w S:Str)(m:Int):Bool:=decide ((1:Int)<=(w.length:Int))&&(decide ((w.length:Int)<=m)&&w.cps.toList.all λc=>og ⟨#[c]⟩ S)
def FI{w S:Str}{m:Int}(h3:w.length<=100000):pD [.str w,.str S,.int m] = .ok (.bl (pJ w S m)):=by
 refine dn rfl ?_
 delta Fh
 refine dF ?_
 show ko _ _ [En.ro (.str w),.ro (.str S),.ro (.int m)]=_
 have hl:(kQ w).length<=100000:=by unfold kQ;rw[aZ];simpa [kF] using h3
 have ec:fh (y1t (gV 0)) (fU (aB (af dInS (gV 0) (gV 2)))) [En.ro (.str w),.ro (.str S),.ro (.int m)] = .ok ((w.cps.toList.map λc=>og ⟨#[c]⟩ S).map D.bl):=by
  unfold fh
  rw[show y1t (gV 0) [En.ro (.str w),.ro (.str S),.ro (.int m)] = .ok (kQ w) by walk_at "a"]
  show R.guard _ _=_
  rw[a4 hl]
  unfold kQ
  rw[rJ]
  refine qw λc hc=>?_
  walk_at "a"
  try rfl
 refine FH (by walk_at "a") (FH (by walk_at "a") ?_)
 simp only[az,ae,ak,gL,ec]
 show pb [.lst _]=_
 rw[yc,Dq]
 rfl
def BP{a b:G->R Bool}{O:G}(h:a O = .ok true):kn a b O = .ok true:=by unfold kn;rw[h];rfl
def fF(w:Str):Bool:=!pJ w "0123456789" 31||(w.cps.toList.head? == some 48&&decide (w≠"0"))
def yE{w:Str}(hw:aR w=true)(h3:w.length<=100000)(h:fF w=true):jG [.str w] = .er .aQ:=by
 refine fM (O:=[En.ro (.str w)]) rfl ?_
 delta Bx
 have e1:=FI (S:="0123456789") (m:=31) h3
 have q1:jW (gT (az pD (ae (gV 0) (ae (gC (.str "0123456789")) (ae (gC (.int 31)) ak))))) [En.ro (.str w)] = .ok (!pJ w "0123456789" 31):=su (fy (bM (ds:=[.str w,.str "0123456789",.int 31]) rfl e1))
 refine gJ (fi ?_ rfl)
 show kn _ _ [En.ro (.str w)]=_
 cases hm:pJ w "0123456789" 31 with
 | false=>rw[hm] at q1;exact BP q1
 | true =>
   rw[hm] at q1
   unfold fF at h
   rw[hm] at h
   simp only[Bool.not_true,Bool.false_or,jP,beq_iff_eq,decide_eq_true_eq] at h
   obtain⟨h1,h2⟩:=h
   refine pI q1 ?_
   cases hL:w.cps.toList with
   | nil=>rw[hL] at h1;cases h1
   | cons c r =>
     rw[hL] at h1
     cases h1
     have ei:dIxS (.str w) (.int 0) = .ok (.str ⟨#[48]⟩):=by
      unfold dIxS
      show R.guard _ _=_
      rw[a4 h3,hL,qr (by lia)]
      rfl
     have k0:aR "0"=true:=by trivial
     have ec:(⟨#[48]⟩:Str)="0":=by trivial
     have q2:gT (af bI (af dIxS (gV 0) (gC (.int 0))) (gC (.str "0"))) [En.ro (.str w)] = .ok true:=by
      simp only[gT,af,gV,gC,fe,R.bB,ei,ec]
      rw[nq k0 k0];simp[xZ]
     have q3:gT (af iM (gV 0) (gC (.str "0"))) [En.ro (.str w)] = .ok true:=by
      simp only[gT,af,gV,gC,fe,R.bB]
      rw[tQ hw k0,decide_eq_false h2];rfl
     unfold jV
     rw[q2]
     exact q3
def Wy{P:Int}{w:Str}(hw:aR w=true)(h3:w.length<=100000)(h:fF w=true):ky [.int P,.str w] = .er .aQ:=by
 have e:=yE hw h3 h
 refine fM (O:=[En.ro (.int P),.ro (.str w),.no]) rfl ?_
 delta vC
 have e2:bF 2 (aB (az jG (ae (gV 1) ak))) [En.ro (.int P),.ro (.str w),.no] = .ok (.ex .aQ [En.ro (.int P),.ro (.str w),.no]):=by
  unfold bF aB
  rw[bM (φ:=jG) (gs:=ae (gV 1) ak) (ds:=[.str w]) rfl e]
  rfl
 exact gJ e2
def Wz{P n:Int}(h0:P<=n)(p0:0<=P)(h1:n<=10^30):ky [.int P,.str (aH n)] = .er .aQ:=by
 have e:=tR (show 0<=n by lia) h1
 refine fM (O:=[En.ro (.int P),.ro (.str (aH n)),.ro (.int n)]) rfl ?_
 delta vC
 have b:decide (P<=n)=true:=decide_eq_true h0
 refine c9 (d:=.int n) (by walk_at "a";simp only[e];walk_at "a") ?_
 exact gJ (fi (by walk_at "a";rw[b]) rfl)
def WA{ns:List Str}(h:∀x∈ns,aR x=true){x:Str}(hs:aR x=true)(hx:x ∉ ns):z9s (.str x) (ay ns) = .ok (.bl true):=by
 show R.guard _ _=_
 rw[a4 ⟨by rw[kq];exact hs,Mq h⟩]
 have:(ns.map D.str).any (λy=>bG y (.str x))=false:=by
  rw[List.any_eq_false]
  intro d hd
  obtain⟨y,hy,rfl⟩:=List.mem_map.mp hd
  rw[z5x]
  have:y≠x:=λz=>hx (z ▸ hy)
  simpa using this
 rw[this];rfl
def MJ{f:D->R (Option D)}{c:Er}:∀(l acc:List D),(∀d∈l,(∃e,f d = .ok (some e))∨f d = .er c)->(∃d∈l,f d = .er c)->hJ f l acc = .er c
 | [],_,_,h=>by obtain⟨d,hd,_⟩:=h;cases hd
 | d::l,acc,ha,hx=>by
   unfold hJ
   rcases ha d fI with ⟨e,he⟩ | he
   .simp only[he]
    refine MJ l (acc++[e]) (λd hd=>ha d (eU _ hd)) ?_
    obtain⟨d',qe,h'⟩:=hx
    rcases List.mem_cons.mp qe with rfl | qe
    .rw[he] at h';cases h'
    .exact⟨d',qe,h'⟩
   .simp only[he]
def BQ{g:G->R D}{d e:D}{O:G}(h:g (.ro d::O) = .ok e):fU g d O = .ok (some e):=by unfold fU;rw[h];rfl
def MK{g:G->R D}{d:D}{c:Er}{O:G}(h:g (.ro d::O) = .er c):fU (aB g) d O = .er c:=by unfold fU aB;rw[h];rfl
section
variable {P:Int}{ns:List Str}
def WB:oz [.int P,ay ns,.lst ([]:List D).reverse] = .er .aQ:=by
 refine(gK (as:=[.int P,ay ns]) (bs:=[]) rfl rfl).trans ?_
 show mD [.ro (.int P),.ro (ay ns),.own ([]:List D).reverse,.no,.no]=_
 delta mD
 exact lM (yy (Mi (dN (ds:=[.lst ([]:List D).reverse,.int 1]) (by walk_at "a") FF)))
def BR{z:Str}{T:List D}{u:G->R (D×List D)}{q:R (D×List D)}(hl:T.length<100000)(h:u [En.ro (.int P),.ro (ay ns),.own T.reverse,.ro (.str z),.no]=q) :
 fj (lI 3 2 (pj 2 (gq nj (z4u 2 (ae (aB (gC (.int 1))) ak))) (gC (.int 0)))) u [En.ro (.int P),.ro (ay ns),.own (D.str z::T).reverse,.no,.no]=q:=by
 refine fV (pF (d:=.str z) (ws:=T.reverse) (tP (d:=.lst [.str z]) (b:=.int 0) (dN (ds:=[.lst (D.str z::T).reverse,.int 1]) (by walk_at "a") (qH hl)) (by walk_at "a") rfl)) ?_
 exact h
def WC{z:Str}{T:List D}(N:Names ns)(hs:aR z=true)(hz:z ∉ ns)(hl:T.length<100000):oz [.int P,ay ns,.lst (D.str z::T).reverse] = .er .aQ:=by
 refine(gK (as:=[.int P,ay ns]) (bs:=[]) rfl rfl).trans ?_
 show mD [.ro (.int P),.ro (ay ns),.own (D.str z::T).reverse,.no,.no]=_
 delta mD
 refine BR hl ?_
 have e:=WA N.ok hs hz
 refine lM (O':=[En.ro (.int P),.ro (ay ns),.own T.reverse,.ro (.str z),.no]) (fi (fy (aW (a:=.str z) (b:=ay ns) rfl rfl e)) rfl)
def FJ(x y:En)(T:List D):ae (aB (af cu (az bX (ae (gV 1) ak)) (gC (.int 1)))) ak [En.ro (.int P),.ro (ay ns),.own T,x,y] = .ok [.int ((ns.length+1:Nat):Int)]:=by
 have el:bX [ay ns] = .ok (.int (ns.length:Int)):=by unfold ay;simp only[bX,aZ]
 refine aJ (da (aW (a:=.int (ns.length:Int)) (b:=.int 1) (bM (ds:=[ay ns]) rfl el) rfl ?_) rfl) rfl
 walk_at "a"
 try rfl
def WD{z:Str}{T:List D}(N:Names ns)(hz:z∈ns)(hl:T.length<ns.length+1):oz [.int P,ay ns,.lst (D.str z::T).reverse] = .er .aQ:=by
 have l3:=N.l3
 refine(gK (as:=[.int P,ay ns]) (bs:=[]) rfl rfl).trans ?_
 show mD [.ro (.int P),.ro (ay ns),.own (D.str z::T).reverse,.no,.no]=_
 delta mD
 refine BR (by lia) (fV (O':=[En.ro (.int P),.ro (ay ns),.own T.reverse,.ro (.str z),.no]) (r_ (fy (aW (a:=.str z) (b:=ay ns) rfl rfl (BG N.ok hz)))) ?_)
 refine lM (V3 (dN (ds:=[.lst T.reverse,.int ((ns.length+1:Nat):Int)]) ?_ (MH hl)))
 unfold z4u
 show(ae _ ak [En.ro (.int P),.ro (ay ns),.own T.reverse,.ro (.str z),.no]>>=_)=_
 rw[FJ]
 rfl
def ML{z:Str}{F:List Str}{Z:List D}(N:Names ns)(hz:z∈ns)(hF:F.length=ns.length+1)(hl:Z.length<=90000)(h:∀w∈F,(∃n,ky [.int P,.str w] = .ok (.int n))∨ky [.int P,.str w] = .er .aQ)(hx:∃w∈F,ky [.int P,.str w] = .er .aQ) :
 oz [.int P,ay ns,.lst (D.str z::(F.map D.str++Z)).reverse] = .er .aQ:=by
 have l3:=N.l3
 have eF:(F.map D.str).length=ns.length+1:=by rw[aZ,hF]
 have t2:=BD (T:=F.map D.str++Z) (n:=ns.length+1) (by rw[aY];lia) (by rw[aY];lia)
 rw[Rl eF,Rm eF] at t2
 refine(gK (as:=[.int P,ay ns]) (bs:=[]) rfl rfl).trans ?_
 show mD [.ro (.int P),.ro (ay ns),.own (D.str z::(F.map D.str++Z)).reverse,.no,.no]=_
 delta mD
 refine BR (by rw[aY];lia) (fV (O':=[En.ro (.int P),.ro (ay ns),.own (F.map D.str++Z).reverse,.ro (.str z),.no]) (r_ (fy (aW (a:=.str z) (b:=ay ns) rfl rfl (BG N.ok hz)))) ?_)
 refine lM (V2 (items:=F.map D.str) (ws:=Z.reverse) (dN (ds:=[.lst (F.map D.str++Z).reverse,.int ((ns.length+1:Nat):Int)]) ?_ t2) (by lia) (MJ _ _ (λd hd=>?_) ?_))
 .unfold z4u
  show(ae _ ak [En.ro (.int P),.ro (ay ns),.own (F.map D.str++Z).reverse,.ro (.str z),.no]>>=_)=_
  rw[FJ]
  rfl
 .obtain⟨w,hw,rfl⟩:=List.mem_map.mp hd
  rcases h w hw with ⟨n,e⟩ | e
  .exact .inl ⟨.int n,BQ (da (bM (ds:=[.int P,.str w]) rfl e) rfl)⟩
  .exact .inr (MK (bM (ds:=[.int P,.str w]) rfl e))
 .obtain⟨w,hw,e⟩:=hx
  exact⟨.str w,List.mem_map.mpr ⟨w,hw,rfl⟩,MK (bM (ds:=[.int P,.str w]) rfl e)⟩
end
section
variable {P:Int}{ns:List Str}{k ar:Nat}
def BS{T:List D}{q:R (D×List D)}(hl:T.length<100000)(h:oz [.int P,ay ns,.lst T.reverse]=q):dX (k+1) [.int P,ay ns,.lst (D.str "set"::T).reverse,.int ar]=q:=by
 refine(gK (as:=[.int P,ay ns]) (bs:=[.int ar]) rfl rfl).trans ?_
 show tM (fN k) (dX k) (dG k) [.ro (.int P),.ro (ay ns),.own (D.str "set"::T).reverse,.ro (.int ar),.no]=_
 unfold tM
 have k1:aR "set"=true:=by trivial
 refine fV (pF (d:=.str "set") (ws:=T.reverse) (tP (d:=.lst [.str "set"]) (b:=.int 0) (dN (ds:=[.lst (D.str "set"::T).reverse,.int 1]) (by walk_at "a") (qH hl)) (by walk_at "a") rfl)) ?_
 show oq _ _ _ [En.ro (.int P),.ro (ay ns),.own T.reverse,.ro (.int ar),.ro (.str "set")]=_
 refine Mj ?_ (dN (ds:=[.int P,ay ns,.lst T.reverse]) (by walk_at "a") h)
 simp only[gT,af,gV,gC,fe,iC,R.bB]
 rw[nq k1 k1,decide_eq_true rfl];rfl
def sv{T:List D}{q:R (D×List D)}(hl:T.length<100000)(h:fN k [.int P,ay ns,.lst T.reverse,.int ar]=q):dX (k+1) [.int P,ay ns,.lst (D.str "again"::T).reverse,.int ar]=q:=by
 refine(gK (as:=[.int P,ay ns]) (bs:=[.int ar]) rfl rfl).trans ?_
 show tM (fN k) (dX k) (dG k) [.ro (.int P),.ro (ay ns),.own (D.str "again"::T).reverse,.ro (.int ar),.no]=_
 unfold tM
 have k1:aR "set"=true:=by trivial
 have k2:aR "again"=true:=by trivial
 have ne:("again":Str)≠"set":=by trivial
 refine fV (pF (d:=.str "again") (ws:=T.reverse) (tP (d:=.lst [.str "again"]) (b:=.int 0) (dN (ds:=[.lst (D.str "again"::T).reverse,.int 1]) (by walk_at "a") (qH hl)) (by walk_at "a") rfl)) ?_
 show oq _ _ _ [En.ro (.int P),.ro (ay ns),.own T.reverse,.ro (.int ar),.ro (.str "again")]=_
 refine Fx ?_ (Mj ?_ (dN (ds:=[.int P,ay ns,.lst T.reverse,.int ar]) (by walk_at "a") h))
 .simp only[gT,af,gV,gC,fe,iC,R.bB]
  rw[nq k2 k1,decide_eq_false ne];rfl
 .simp only[gT,af,gV,gC,fe,iC,R.bB]
  rw[nq k2 k2,decide_eq_true rfl];rfl
def MM{T:List D}(h:3<=ar):fN (k+1) [.int P,ay ns,.lst T.reverse,.int ar] = .er .aQ:=by
 refine(gK (as:=[.int P,ay ns]) (bs:=[.int ar]) rfl rfl).trans ?_
 show kR (fN k) (dX k) (dG k) [.ro (.int P),.ro (ay ns),.own T.reverse,.ro (.int ar),.no,.no]=_
 unfold kR
 have b1:decide ((3:Int)<=(ar:Int))=true:=decide_eq_true (by lia)
 exact lM (fi (by walk_at "a";rw[b1]) rfl)
def vP{T:List D}{u:G->R (D×List D)}{q:R (D×List D)}{t:G->R Fl}(h:ar<3)(hu:u [En.ro (.int P),.ro (ay ns),.own T.reverse,.ro (.int ar),.no,.no]=q):fj (bL (gT (af vg (gV 3) (gC (.int 3)))) t b8) u [En.ro (.int P),.ro (ay ns),.own T.reverse,.ro (.int ar),.no,.no]=q:=by
 have b1:decide ((3:Int)<=(ar:Int))=false:=decide_eq_false (by lia)
 exact fV (r_ (by walk_at "a";rw[b1])) hu
def WE(h:ar<3):fN (k+1) [.int P,ay ns,.lst ([]:List D).reverse,.int ar] = .er .aQ:=by
 refine(gK (as:=[.int P,ay ns]) (bs:=[.int ar]) rfl rfl).trans ?_
 show kR (fN k) (dX k) (dG k) [.ro (.int P),.ro (ay ns),.own ([]:List D).reverse,.ro (.int ar),.no,.no]=_
 unfold kR
 exact vP h (lM (yy (V0 (Mi (dN (ds:=[.lst ([]:List D).reverse,.int 1]) (by walk_at "a") FF)))))
def WG{z:Str}{T:List D}(h:ar<3)(hl:T.length<100000)(e:jG [.str z] = .er .aQ):fN (k+1) [.int P,ay ns,.lst (D.str z::T).reverse,.int ar] = .er .aQ:=by
 refine(gK (as:=[.int P,ay ns]) (bs:=[.int ar]) rfl rfl).trans ?_
 show kR (fN k) (dX k) (dG k) [.ro (.int P),.ro (ay ns),.own (D.str z::T).reverse,.ro (.int ar),.no,.no]=_
 unfold kR
 exact vP h (lM (yy (VZ (d:=.str z) (ws:=T.reverse) (tP (d:=.lst [.str z]) (b:=.int 0) (dN (ds:=[.lst (D.str z::T).reverse,.int 1]) (by walk_at "a") (qH hl)) (by walk_at "a") rfl) e)))
def BU{z:Str}{n:Int}{T:List D}{u:G->R (D×List D)}{q:R (D×List D)}(hl:T.length<100000)(e:jG [.str z] = .ok (.int n))(hu:u [En.ro (.int P),.ro (ay ns),.own T.reverse,.ro (.int ar),.ro (.int n),.no]=q) :
 fj (lI 4 2 (oi jG (pj 2 (gq nj (z4u 2 (ae (aB (gC (.int 1))) ak))) (gC (.int 0))))) u [En.ro (.int P),.ro (ay ns),.own (D.str z::T).reverse,.ro (.int ar),.no,.no]=q:=by
 refine fV (pF (d:=.int n) (ws:=T.reverse) (VY (d:=.str z) (tP (d:=.lst [.str z]) (b:=.int 0) (dN (ds:=[.lst (D.str z::T).reverse,.int 1]) (by walk_at "a") (qH hl)) (by walk_at "a") rfl) e)) ?_
 exact hu
def WH{z:Str}{n:Int}{T:List D}(h:ar<3)(hl:T.length<100000)(e:jG [.str z] = .ok (.int n))(hT:∀d T',T=d::T'->∃z,d = .str z/\aR z=true/\z≠"["):fN (k+1) [.int P,ay ns,.lst (D.str z::T).reverse,.int ar] = .er .aQ:=by
 refine(gK (as:=[.int P,ay ns]) (bs:=[.int ar]) rfl rfl).trans ?_
 show kR (fN k) (dX k) (dG k) [.ro (.int P),.ro (ay ns),.own (D.str z::T).reverse,.ro (.int ar),.no,.no]=_
 unfold kR
 exact vP h (BU hl e (lM (Mf (dN (ds:=[.lst T.reverse,.str "["]) (by walk_at "a") (MI (by trivial) hT (by lia))))))
def BV{z:Str}{n:Int}{T:List D}(h:ar<3)(hl:T.length<90000)(e:jG [.str z] = .ok (.int n))(hi:dG k [.int P,ay ns,.lst T.reverse,.int ((ar+1:Nat):Int)] = .er .aQ):fN (k+1) [.int P,ay ns,.lst (D.str z::D.str "["::T).reverse,.int ar] = .er .aQ:=by
 refine(gK (as:=[.int P,ay ns]) (bs:=[.int ar]) rfl rfl).trans ?_
 show kR (fN k) (dX k) (dG k) [.ro (.int P),.ro (ay ns),.own (D.str z::D.str "["::T).reverse,.ro (.int ar),.no,.no]=_
 unfold kR
 have ea:(ar:Int)+1=((ar+1:Nat):Int):=by lia
 refine vP h (BU (by simp only[a3];lia) e (fV (BC (dN (ds:=[.lst (D.str "["::T).reverse,.str "["]) (by walk_at "a") (BE (x:="[") (T:=T) (by trivial) (by lia)))) ?_))
 show fj _ _ [En.ro (.int P),.ro (ay ns),.own T.reverse,.ro (.int ar),.ro (.int n),.no]=_
 exact lM (yy (dN (ds:=[.int P,ay ns,.lst T.reverse,.int ((ar+1:Nat):Int)]) (by walk_at "a";simp only[ea];try walk_at "a") hi))
def WI{z:Str}{n:Int}{T Z:List D}{d:D}(h:ar<3)(hl:T.length<90000)(hZ:Z.length<=90000)(e:jG [.str z] = .ok (.int n))(hi:dG k [.int P,ay ns,.lst T.reverse,.int ((ar+1:Nat):Int)] = .ok (d,Z.reverse))(hT:∀d T',Z=d::T'->∃z,d = .str z/\aR z=true/\z≠"]"):fN (k+1) [.int P,ay ns,.lst (D.str z::D.str "["::T).reverse,.int ar] = .er .aQ:=by
 refine(gK (as:=[.int P,ay ns]) (bs:=[.int ar]) rfl rfl).trans ?_
 show kR (fN k) (dX k) (dG k) [.ro (.int P),.ro (ay ns),.own (D.str z::D.str "["::T).reverse,.ro (.int ar),.no,.no]=_
 unfold kR
 have ea:(ar:Int)+1=((ar+1:Nat):Int):=by lia
 refine vP h (BU (by simp only[a3];lia) e (fV (BC (dN (ds:=[.lst (D.str "["::T).reverse,.str "["]) (by walk_at "a") (BE (x:="[") (T:=T) (by trivial) (by lia)))) ?_))
 show fj _ _ [En.ro (.int P),.ro (ay ns),.own T.reverse,.ro (.int ar),.ro (.int n),.no]=_
 refine fV (pF (dN (ds:=[.int P,ay ns,.lst T.reverse,.int ((ar+1:Nat):Int)]) (by walk_at "a";simp only[ea];try walk_at "a") hi)) ?_
 show fj _ _ [En.ro (.int P),.ro (ay ns),.own Z.reverse,.ro (.int ar),.ro (.int n),.ro d]=_
 exact lM (Mf (dN (ds:=[.lst Z.reverse,.str "]"]) (by walk_at "a") (MI (by trivial) hT (by lia))))
def FK{z:Str}{n:Int}{T Z:List D}{d:D}(h:ar<3)(hl:T.length<90000)(hZ:Z.length<=90000)(e:jG [.str z] = .ok (.int n))(hi:dG k [.int P,ay ns,.lst T.reverse,.int ((ar+1:Nat):Int)] = .ok (d,(D.str "]"::Z).reverse)) :
 fN (k+1) [.int P,ay ns,.lst (D.str z::D.str "["::T).reverse,.int ar] = .ok (.tup [.str "again",.int n,d],Z.reverse):=by
 refine(gK (as:=[.int P,ay ns]) (bs:=[.int ar]) rfl rfl).trans ?_
 show kR (fN k) (dX k) (dG k) [.ro (.int P),.ro (ay ns),.own (D.str z::D.str "["::T).reverse,.ro (.int ar),.no,.no]=_
 unfold kR
 have ea:(ar:Int)+1=((ar+1:Nat):Int):=by lia
 refine vP h (BU (by simp only[a3];lia) e (fV (BC (dN (ds:=[.lst (D.str "["::T).reverse,.str "["]) (by walk_at "a") (BE (x:="[") (T:=T) (by trivial) (by lia)))) ?_))
 show fj _ _ [En.ro (.int P),.ro (ay ns),.own T.reverse,.ro (.int ar),.ro (.int n),.no]=_
 refine fV (pF (dN (ds:=[.int P,ay ns,.lst T.reverse,.int ((ar+1:Nat):Int)]) (by walk_at "a";simp only[ea];try walk_at "a") hi)) ?_
 show fj _ _ [En.ro (.int P),.ro (ay ns),.own (D.str "]"::Z).reverse,.ro (.int ar),.ro (.int n),.ro d]=_
 refine fV (BC (dN (ds:=[.lst (D.str "]"::Z).reverse,.str "]"]) (by walk_at "a") (BE (x:="]") (T:=Z) (by trivial) (by lia)))) ?_
 show pk _ _ [En.ro (.int P),.ro (ay ns),.own Z.reverse,.ro (.int ar),.ro (.int n),.ro d]=_
 exact yz (by walk_at "a") rfl
def MN{xL:List Item}{Z:List D}(hl:xL.length<=60)(hs:Stop Z)(h:∀a r,∀pre,xL=pre++a::r->dX (k+1) [.int P,ay ns,.lst ((Item.ws ns a).map D.str++((Item.aE ns r).map D.str++Z)).reverse,.int ar] = .ok (a.d,((Item.aE ns r).map D.str++Z).reverse)) :
 dG (k+2) [.int P,ay ns,.lst ((Item.aE ns xL).map D.str++Z).reverse,.int ar] = .ok (.tup (xL.map Item.d),Z.reverse):=by
 refine(gK (as:=[.int P,ay ns]) (bs:=[.int ar]) rfl rfl).trans ?_
 show qF (fN (k+1)) (dX (k+1)) (dG (k+1)) [.ro (.int P),.ro (ay ns),.own ((Item.aE ns xL).map D.str++Z).reverse,.ro (.int ar),.no]=_
 delta qF
 refine fV (m_ (ds:=[]) (by walk_at "a")) ?_
 have lp:=Mt (P:=P) (ns:=ns) (ar:=ar) (φ:=dX (k+1)) xL Z 200 [] (by lia) (by simp only[iW];lia) hs h
 refine fV lp (yz ?_ rfl)
 have nI:=E9 xL
 rw[l_]
 walk_at "a"
def MO(N:Names ns)(h2:P<=9999){a:Item}{Y:List D}(h:3*a.deep<=k)(vQ:ar+a.deep<=3)(hm:a.many<=60)(gM:a.ok P ns.length)(hz:Y.length+7*a.many<=9000)
 (ih:∀(k':Nat) (i:List Item) (Z:List D),k'<k->3*Item.cz i+2<=k'->ar+1+Item.cz i<=3->Item.aP i<=60->Item.cB P ns.length i->Stop Z->Z.length+7*Item.aP i<=9000->dG k' [.int P,ay ns,.lst ((Item.aE ns i).map D.str++Z).reverse,.int ((ar+1:Nat):Int)] = .ok (.tup (i.map Item.d),Z.reverse)) :
 dX (k+1) [.int P,ay ns,.lst ((Item.ws ns a).map D.str++Y).reverse,.int ar] = .ok (a.d,Y.reverse):=by
 have l3:=N.l3
 cases a with
 | set x f =>
   try simp only[Item.ok] at gM
   try simp only[Item.many] at hm hz
   refine BS (T:=(ns.getD x.toNat ""::f.map aH).map D.str++Y) ?_ (V9 (P:=P) (x:=x) (f:=f) (Z:=Y) N h2 gM.1 gM.2.1 gM.2.2.1 gM.2.2.2 (by lia))
   simp only[aY,aZ,a3]
   have:=gM.2.2.1
   lia
 | again n i =>
   simp only[Item.ok] at gM
   simp only[Item.deep] at h vQ
   try simp only[Item.many] at hm hz
   obtain⟨k,rfl⟩:∃k',k=k'+1:=⟨k-1,by lia⟩
   have e:=ih k i (.str "]"::Y) (by lia) (by lia) (by lia) (by lia) gM.2.2 (.inr ⟨Y,rfl⟩) (by simp only[a3];lia)
   have wi:=Item.jo (P:=P) (ns:=ns) l3 _ i (a9 _) gM.2.2
   have lW:((Item.aE ns i).map D.str++D.str "]"::Y).length<=6*Item.aP i+1+Y.length:=by rw[aY,aZ,a3];lia
   have eV:(Item.ws ns (.again n i)).map D.str++Y=D.str "again"::D.str (aH n)::D.str "["::((Item.aE ns i).map D.str++D.str "]"::Y):=by
    simp only[Item.ws,gz,iK,rD,fT,jQ,l_]
   rw[eV]
   simp only[Item.d,Item.ds_map]
   generalize (Item.aE ns i).map D.str++D.str "]"::Y=W at *
   exact sv (by simp only[a3];lia) (FK (by lia) (by lia) (by lia) (tR gM.1 gM.2.1) e)
def BW(N:Names ns)(h2:P<=9999)(k:Nat)(xL:List Item)(ar:Nat)(Z:List D)(h:3*Item.cz xL+2<=k)(vQ:ar+Item.cz xL<=3)(hm:Item.aP xL<=60)(ho:Item.cB P ns.length xL)(hs:Stop Z)(hz:Z.length+7*Item.aP xL<=9000) :
 dG k [.int P,ay ns,.lst ((Item.aE ns xL).map D.str++Z).reverse,.int ar] = .ok (.tup (xL.map Item.d),Z.reverse):=by
 obtain⟨k,rfl⟩:∃k',k=k'+2:=⟨k-2,by lia⟩
 have l3:=N.l3
 have hlen:=Item.qD xL
 refine MN (by lia) hs λa r pre eq=>?_
 have pH:a∈xL:=by rw[eq];simp
 have BN:=Item.jF.mp (a9 (Item.cz xL)) _ pH
 have FL:Item.cB P ns.length r:=Item.hW.mpr λb hb=>Item.hW.mp ho b (by rw[eq];simp[hb])
 have MP:a.many+Item.aP r<=Item.aP xL:=by
  rw[eq,Item.ni]
  simp only[Item.aP]
  lia
 have wr:=Item.jo (P:=P) (ns:=ns) l3 _ r (a9 _) FL
 exact MO N h2 (by lia) (by lia) (by lia) (Item.hW.mp ho _ pH) (by rw[aY,aZ];lia) λk' i Z hk q1 q2 q3 q4 q5 q6=>BW N h2 k' i (ar+1) Z q1 q2 q3 q4 q5 q6
termination_by k
decreasing_by all_goals lia
def MQ(N:Names ns)(h2:P<=9999){a:Item}{Y:List D}(h:3*a.deep<=k)(vQ:ar+a.deep<=3)(hm:a.many<=60)(gM:a.ok P ns.length)(hz:Y.length+7*a.many<=9000):dX (k+1) [.int P,ay ns,.lst ((Item.ws ns a).map D.str++Y).reverse,.int ar] = .ok (a.d,Y.reverse) :=
 MO N h2 h vQ hm gM hz λk' i Z _ q1 q2 q3 q4 q5 q6=>BW N h2 k' i (ar+1) Z q1 q2 q3 q4 q5 q6
def WJ{xL:List Item}{x:Str}{T:List D}(N:Names ns)(h2:P<=9999)(hd:3*Item.cz xL<=k)(vQ:ar+Item.cz xL<=3)(hm:Item.aP xL<=60)(ho:Item.cB P ns.length xL)(hz:T.length+1+14*Item.aP xL<=9000)(hx:aR x=true)(ne:x≠"]")(vO:dX (k+1) [.int P,ay ns,.lst (D.str x::T).reverse,.int ar] = .er .aQ) :
 dG (k+2) [.int P,ay ns,.lst ((Item.aE ns xL).map D.str++D.str x::T).reverse,.int ar] = .er .aQ:=by
 have l3:=N.l3
 have hlen:=Item.qD xL
 refine(gK (as:=[.int P,ay ns]) (bs:=[.int ar]) rfl rfl).trans ?_
 show qF (fN (k+1)) (dX (k+1)) (dG (k+1)) [.ro (.int P),.ro (ay ns),.own ((Item.aE ns xL).map D.str++D.str x::T).reverse,.ro (.int ar),.no]=_
 delta qF
 refine fV (m_ (ds:=[]) (by walk_at "a")) ?_
 obtain⟨O',lp⟩:=FG (P:=P) (ns:=ns) (ar:=ar) (φ:=dX (k+1)) hx ne vO xL 200 [] (by lia) (by simp only[iW];lia) λa r pre eq=>by
  have pH:a∈xL:=by rw[eq];simp
  have BN:=Item.jF.mp (a9 (Item.cz xL)) _ pH
  have gM:=Item.hW.mp ho _ pH
  have FL:Item.cB P ns.length r:=Item.hW.mpr λb hb=>Item.hW.mp ho b (by rw[eq];simp[hb])
  have MP:a.many+Item.aP r<=Item.aP xL:=by
   rw[eq,Item.ni]
   simp only[Item.aP]
   lia
  have wr:=Item.jo (P:=P) (ns:=ns) l3 _ r (a9 _) FL
  exact MQ N h2 (by lia) (by lia) (by lia) gM (by rw[aY,aZ,a3];lia)
 exact lM lp
end
def MR(c:Nat)(S:Str):og ⟨#[c]⟩ S=decide (c∈S.cps.toList):=StrLaws.found_one S c
def MS{c:Nat}(h:og ⟨#[c]⟩ "0123456789"=true):48<=c/\c<=57:=by
 rw[MR,decide_eq_true_eq] at h
 have:∀c∈("0123456789":Str).cps.toList,48<=c/\c<=57:=by trivial
 exact this c h
def FN{w S:Str}{m:Int}:pJ w S m=true↔1<=(w.length:Int)/\(w.length:Int)<=m/\∀c∈w.cps.toList,og ⟨#[c]⟩ S=true:=by
 unfold pJ
 rw[jP,jP,decide_eq_true_eq,decide_eq_true_eq,nV]
def FO{w:Str}(hw:aR w=true)(h:fF w=false):∃n:Int,intText? w=some n/\jG [.str w] = .ok (.int n):=by
 unfold fF at h
 rw[Bool.or_eq_false_iff,Bool.not_eq_false'] at h
 obtain⟨hm,hz⟩:=h
 obtain⟨m1,m2,m3⟩:=FN.mp hm
 have h3:w.length<=100000:=by lia
 have ll:w.cps.toList.length=w.length:=by simp[kF]
 cases hL:w.cps.toList with
 | nil=>rw[hL] at ll;simp at ll;lia
 | cons c r =>
   have bO:w.cps.toList≠[]:=by rw[hL];exact λz=>nomatch z
   have ed:=a3n (x:=w) (λc hc=>MS (m3 c hc)) bO (by lia)
   refine⟨_,ed,?_⟩
   have fc:=MS (m3 c (by rw[hL];simp))
   have e1:=FI (S:="0123456789") (m:=31) h3
   rw[hm] at e1
   have q1:jW (gT (az pD (ae (gV 0) (ae (gC (.str "0123456789")) (ae (gC (.int 31)) ak))))) [En.ro (.str w)] = .ok false:=su (fy (bM (ds:=[.str w,.str "0123456789",.int 31]) rfl e1))
   have ei:dIxS (.str w) (.int 0) = .ok (.str ⟨#[c]⟩):=by
    unfold dIxS
    show R.guard _ _=_
    rw[a4 h3,hL,qr (by lia)]
    rfl
   have k0:aR "0"=true:=by trivial
   have kc:aR ⟨#[c]⟩=true:=by
    unfold aR
    rw[<-uP]
    simp;lia
   have q2:gT (af bI (af dIxS (gV 0) (gC (.int 0))) (gC (.str "0"))) [En.ro (.str w)] = .ok (decide ((⟨#[c]⟩:Str)="0")):=by
    simp only[gT,af,gV,gC,fe,R.bB,ei]
    rw[nq kc k0];rfl
   have q3:jV (gT (af bI (af dIxS (gV 0) (gC (.int 0))) (gC (.str "0")))) (gT (af iM (gV 0) (gC (.str "0")))) [En.ro (.str w)] = .ok false:=by
    unfold jV
    rw[q2]
    by_cases c0:(⟨#[c]⟩:Str)="0"
    .rw[decide_eq_true c0]
     have hc:c=48:=by
      have:=congrArg (λs:Str=>s.cps.toList) c0
      rw[show("0":Str).cps.toList=[48] by trivial] at this
      simpa using this
     have w0:w="0":=by
      rw[hL,hc] at hz
      simpa using hz
     show gT (af iM (gV 0) (gC (.str "0"))) [En.ro (.str w)] = .ok false
     simp only[gT,af,gV,gC,fe,R.bB]
     rw[tQ hw k0,decide_eq_true w0];rfl
    .rw[decide_eq_false c0];rfl
   refine dn rfl ?_
   delta Bx
   refine dz (pI q1 q3) (dF (bM (ds:=[.str w]) rfl ?_))
   unfold vw
   show R.guard _ _=_
   rw[a4 (by lia),ed]
section
variable {P:Int}{ns:List Str}{k ar:Nat}
def MT{w:Str}(hw:aR w=true)(h3:w.length<=100000):(fF w=false/\∃n,ky [.int P,.str w] = .ok (.int n))∨ky [.int P,.str w] = .er .aQ:=by
 cases hb:fF w with
 | true=>exact .inr (Wy hw h3 hb)
 | false =>
   obtain⟨n,-,e⟩:=FO hw hb
   by_cases q:P<=n
   .refine .inr (fM (O:=[En.ro (.int P),.ro (.str w),.ro (.int n)]) rfl ?_)
    delta vC
    have b:decide (P<=n)=true:=decide_eq_true q
    refine c9 (d:=.int n) (by walk_at "a";simp only[e];walk_at "a") ?_
    exact gJ (fi (by walk_at "a";rw[b]) rfl)
   .refine .inl ⟨rfl,n,dn rfl ?_⟩
    delta vC
    have b:decide (P<=n)=false:=decide_eq_false q
    refine c9 (d:=.int n) (by walk_at "a";simp only[e];walk_at "a") ?_
    exact dz (by walk_at "a";rw[b]) (by walk_at "a")
noncomputable def nv(P:Int)(w:Str):Int:=match ky [.int P,.str w] with
 | .ok (.int n)=>n
 | _=>0
def WK{z:Str}{F:List Str}{Z:List D}(N:Names ns)(hz:z∈ns)(hF:F.length=ns.length+1)(hl:Z.length<=90000)(h:∀w∈F,∃n,ky [.int P,.str w] = .ok (.int n)) :
 ∃d,d.cy=true/\oz [.int P,ay ns,.lst (D.str z::(F.map D.str++Z)).reverse] = .ok (d,Z.reverse):=by
 have l3:=N.l3
 obtain⟨j,hj,rfl⟩:=List.getElem_of_mem hz
 have eg:ns.getD j ""=ns[j]:=by simp[uQ,hj]
 have eF:(F.map D.str).length=ns.length+1:=by rw[aZ,hF]
 have t2:=BD (T:=F.map D.str++Z) (n:=ns.length+1) (by rw[aY];lia) (by rw[aY];lia)
 rw[Rl eF,Rm eF] at t2
 refine⟨(Item.set (j:Int) (F.map (nv P))).d,Item.cy _,(gK (as:=[.int P,ay ns]) (bs:=[]) rfl rfl).trans ?_⟩
 show mD [.ro (.int P),.ro (ay ns),.own (D.str ns[j]::(F.map D.str++Z)).reverse,.no,.no]=_
 delta mD
 refine BR (by rw[aY];lia) (fV (O':=[En.ro (.int P),.ro (ay ns),.own (F.map D.str++Z).reverse,.ro (.str ns[j]),.no]) (r_ (fy (aW (a:=.str ns[j]) (b:=ay ns) rfl rfl (BG N.ok hz)))) ?_)
 refine fV (Mn (items:=F.map D.str) (ws:=Z.reverse) (total:=(F.map (nv P)).map D.int) (dN (ds:=[.lst (F.map D.str++Z).reverse,.int ((ns.length+1:Nat):Int)]) ?_ t2) (by lia) ?_) ?_
 .unfold z4u
  show(ae _ ak [En.ro (.int P),.ro (ay ns),.own (F.map D.str++Z).reverse,.ro (.str ns[j]),.no]>>=_)=_
  rw[FJ]
  rfl
 .rw[rJ]
  refine qw λw hw=>?_
  obtain⟨n,e⟩:=h w hw
  have en:nv P w=n:=by unfold nv;rw[e]
  show(fU _) (.str w) [En.ro (.int P),.ro (ay ns),.own Z.reverse,.ro (.str ns[j]),.no] = .ok (some (.int (nv P w)))
  rw[en]
  exact BQ (da (bM (ds:=[.int P,.str w]) rfl e) rfl)
 .show pk _ _ [En.ro (.int P),.ro (ay ns),.own Z.reverse,.ro (.str ns[j]),.own ((F.map (nv P)).map D.int)]=_
  refine yz ?_ rfl
  have ei:tH (gV 1) (gV 3) [En.ro (.int P),.ro (ay ns),.own Z.reverse,.ro (.str ns[j]),.own ((F.map (nv P)).map D.int)] = .ok (.int (j:Int)):=by
   have:=Mr N hj
   rw[eg] at this
   simp only[tH,gV,fe,iC,R.bB,ay,strs?_map,this]
  have nr:=z8p (F.map (nv P))
  unfold gW at nr
  simp only[Item.d,gW,jD,ae,ak,aB,ei]
  walk_at "a"
  try rfl
end
def Good(ns:List Str)(w:Str):Prop:=w∈ns∨w="set"∨w="again"∨w="["∨w="]"∨fF w=false
def cnt(x:Str)(C:List Str):Nat:=C.countP λw=>decide (w=x)
def lR(x:Str)(A B:List Str):cnt x (A++B)=cnt x A+cnt x B:=Rw
def dq(x w:Str)(C:List Str):cnt x (w::C)=(if w=x then 1 else 0)+cnt x C:=by
 unfold cnt
 rw[Rx]
 by_cases q:w=x
 .simp[q,Q4]
 .simp[q]
def tW{x:Str}{C:List Str}(h:∀w∈C,w≠x):cnt x C=0:=by
 unfold cnt
 rw[List.countP_eq_zero]
 intro w hw
 simp[h w hw]
structure iZ (ns C:List Str):Prop where
 g:∀w∈C,Good ns w
 l:C.length=(ns.length+3)*cnt "set" C+4*cnt "again" C
def iZ.nil{ns:List Str}:iZ ns []:=⟨(λw h=>nomatch h),by simp[cnt]⟩
def iZ.app{ns A B:List Str}(a:iZ ns A)(b:iZ ns B):iZ ns (A++B) :=
 ⟨λw h=>(List.mem_append.mp h).elim (a.g w) (b.g w),by rw[aY,lR,lR,a.l,b.l,Ai,Ai];lia⟩
def qK{w:Str}(h:fF w=false):w≠"set"/\w≠"again"/\w≠"["/\w≠"]":=by
 refine⟨?_,?_,?_,?_⟩<;>(rintro rfl;revert h;trivial)
section
variable {P:Int}{ns:List Str}{k ar:Nat}
def Wd(T:List Str):Prop:=∀w∈T,aR w=true/\w.length<=100000
def Wd.tl{x:Str}{T:List Str}(h:Wd (x::T)):Wd T:=λw hw=>h w (eU _ hw)
def WL(N:gr ns){T:List Str}(hT:Wd T)(hl:T.length<=1000):oz [.int P,ay ns,.lst (T.map D.str).reverse] = .er .aQ ∨
 ∃d C Z,d.cy=true/\T=C++Z/\iZ ns ("set"::C)/\oz [.int P,ay ns,.lst (T.map D.str).reverse] = .ok (d,(Z.map D.str).reverse):=by
 cases T with
 | nil=>exact .inl WB
 | cons z T =>
   simp only[a3] at hl
   by_cases hz:z∈ns
   .by_cases hf:T.length<ns.length+1
    .exact .inl (WD N.toNames hz (by rw[aZ];exact hf))
    .have eT:T.take (ns.length+1)++T.drop (ns.length+1)=T:=Af _ _
     have eF:(T.take (ns.length+1)).length=ns.length+1:=by rw[dW];lia
     generalize T.take (ns.length+1)=F at eT eF
     generalize T.drop (ns.length+1)=Z at eT
     subst eT
     rw[aY] at hl
     have hw:∀w∈F,(fF w=false/\∃n,ky [.int P,.str w] = .ok (.int n))∨ky [.int P,.str w] = .er .aQ:=λw h=>MT (hT w (by simp[h])).1 (hT w (by simp[h])).2
     rw[gz,iK]
     by_cases hx:∃w∈F,ky [.int P,.str w] = .er .aQ
     .exact .inl (ML N.toNames hz eF (by rw[aZ];lia) (λw h=>(hw w h).imp_left λq=>q.2) hx)
     .have ok:∀w∈F,fF w=false/\∃n,ky [.int P,.str w] = .ok (.int n):=λw h=>(hw w h).resolve_right λz=>hx ⟨w,h,z⟩
      obtain⟨d,hd,e⟩:=WK (Z:=Z.map D.str) N.toNames hz eF (by rw[aZ];lia) λw h=>(ok w h).2
      refine .inr ⟨d,z::F,Z,hd,rfl,⟨λw h=>?_,?_⟩,e⟩
      .rcases List.mem_cons.mp h with rfl | h
       .exact .inr (.inl rfl)
       .rcases List.mem_cons.mp h with rfl | h
        .exact .inl hz
        .exact .inr (.inr (.inr (.inr (.inr (ok w h).1))))
      .have nz:=N.nk z hz
       rw[dq,dq,dq,dq,tW λw h=>(qK (ok w h).1).1,tW λw h=>(qK (ok w h).1).2.1,if_pos rfl,if_neg nz.1,if_neg (by trivial),if_neg nz.2,a3,a3,eF]
       lia
   .exact .inl (WC N.toNames (hT z (by simp)).1 hz (by rw[aZ];lia))
def BX(P:Int)(ns:List Str)(k ar:Nat):Prop:=∀T:List Str,Wd T->T.length<=190->dG k [.int P,ay ns,.lst (T.map D.str).reverse,.int ar] = .er .aQ ∨
    ∃d C Z,d.cy=true/\T=C++Z/\iZ ns C/\dG k [.int P,ay ns,.lst (T.map D.str).reverse,.int ar] = .ok (d,(Z.map D.str).reverse)
def WM(ih:ar<3->BX P ns k (ar+1)){T:List Str}(hT:Wd T)(hl:T.length<=190):fN (k+1) [.int P,ay ns,.lst (T.map D.str).reverse,.int ar] = .er .aQ ∨
 ∃d C Z,d.cy=true/\T=C++Z/\iZ ns ("again"::C)/\fN (k+1) [.int P,ay ns,.lst (T.map D.str).reverse,.int ar] = .ok (d,(Z.map D.str).reverse):=by
 by_cases ha:ar<3
 .cases T with
  | nil=>exact .inl (WE ha)
  | cons z T =>
    simp only[a3] at hl
    have hz:=hT z (by simp)
    cases hb:fF z with
    | true=>exact .inl (WG ha (by rw[aZ];lia) (yE hz.1 hz.2 hb))
    | false =>
      obtain⟨n,-,e⟩:=FO hz.1 hb
      have op:(∀d T',T.map D.str=d::T'->∃z,d = .str z/\aR z=true/\z≠"[")∨∃T',T=("[":Str)::T':=by
       cases T with
       | nil=>exact .inl λd T' q=>nomatch q
       | cons y T =>
         by_cases hy:y="["
         .exact .inr ⟨T,by rw[hy]⟩
         .exact .inl λd T' q=>by
           cases q
           exact⟨y,rfl,(hT y (by simp)).1,hy⟩
      rcases op with op | ⟨T',rfl⟩
      .exact .inl (WH ha (by rw[aZ];lia) e op)
      .simp only[a3] at hl
       rcases ih ha T' hT.tl.tl (by lia) with er | ⟨d,C,Z,hd,eT,fC,ok⟩
       .exact .inl (BV ha (by rw[aZ];lia) e er)
       .have lZ:Z.length<=190:=by
         have:=congrArg rB eT
         rw[aY] at this
         lia
        have sh:(∀d T',Z.map D.str=d::T'->∃z,d = .str z/\aR z=true/\z≠"]")∨∃T',Z=("]":Str)::T':=by
         cases Z with
         | nil=>exact .inl λd T' q=>nomatch q
         | cons y Z =>
           by_cases hy:y="]"
           .exact .inr ⟨Z,by rw[hy]⟩
           .exact .inl λd T' q=>by
             cases q
             exact⟨y,rfl,(hT y (by rw[eT];simp)).1,hy⟩
        rcases sh with sh | ⟨Z',rfl⟩
        .exact .inl (WI ha (by rw[aZ];lia) (by rw[aZ];lia) e ok sh)
        .refine .inr ⟨_,z::("[":Str)::(C++[("]":Str)]),Z',?_,by rw[eT];simp,⟨λw h=>?_,?_⟩,FK ha (by rw[aZ];lia) (by rw[aZ];simp only[a3] at lZ;lia) e ok⟩
         .simp[D.cy,D.bQ,hd]
         .simp only[gS,nW,iX,or_false] at h
          rcases h with rfl | rfl | rfl | h | rfl
          .exact .inr (.inr (.inl rfl))
          .exact .inr (.inr (.inr (.inr (.inr hb))))
          .exact .inr (.inr (.inr (.inl rfl)))
          .exact fC.g w h
          .exact .inr (.inr (.inr (.inr (.inl rfl))))
         .have nz:=qK hb
          have s1:cnt "set" [("]":Str)]=0:=by trivial
          have s2:cnt "again" [("]":Str)]=0:=by trivial
          rw[dq,dq,dq,dq,dq,dq,lR,lR,s1,s2,if_neg (by trivial),if_neg nz.1,if_neg (by trivial),if_pos rfl,if_neg nz.2.1,if_neg (by trivial),a3,a3,a3,aY,fC.l]
          simp only[a3,iW,p9,Nat.add_zero]
          lia
 .exact .inl (MM (by lia))
def WN(N:gr ns)(ih:ar<3->BX P ns k (ar+1)){x:Str}{T:List Str}(hT:Wd (x::T))(hl:T.length<=190):dX (k+2) [.int P,ay ns,.lst ((x::T).map D.str).reverse,.int ar] = .er .aQ ∨
 ∃d C Z,d.cy=true/\T=C++Z/\iZ ns (x::C)/\dX (k+2) [.int P,ay ns,.lst ((x::T).map D.str).reverse,.int ar] = .ok (d,(Z.map D.str).reverse):=by
 have lm:(T.map D.str).length<100000:=by rw[aZ];lia
 rw[gz]
 by_cases h1:x="set"
 .subst h1
  rcases WL (P:=P) N hT.tl (by lia) with e | ⟨d,C,Z,hd,eT,fC,e⟩
  .exact .inl (BS lm e)
  .exact .inr ⟨d,C,Z,hd,eT,fC,BS lm e⟩
 .by_cases h2:x="again"
  .subst h2
   rcases WM ih hT.tl hl with e | ⟨d,C,Z,hd,eT,fC,e⟩
   .exact .inl (sv lm e)
   .exact .inr ⟨d,C,Z,hd,eT,fC,sv lm e⟩
  .exact .inl (Ww (hT x (by simp)).1 h1 h2 lm)
def MU{φ:List D->R (D×List D)}(lN:∀x T,Wd (x::T)->T.length<=190->φ [.int P,ay ns,.lst ((x::T).map D.str).reverse,.int ar] = .er .aQ∨∃d C Z,d.cy=true/\T=C++Z/\iZ ns (x::C)/\φ [.int P,ay ns,.lst ((x::T).map D.str).reverse,.int ar] = .ok (d,(Z.map D.str).reverse)) :
 ∀(m:Nat) (T:List Str) (ds:List D),Wd T->T.length<m->T.length<=190->ds.length+T.length<=200->D.bQ ds=true ->
 (∃O',e_ oG (j4 4 2 (gq φ (ae (b7 0) (ae (b7 1) (z4u 2 (ae (b7 3) ak)))))) m [.ro (.int P),.ro (ay ns),.own (T.map D.str).reverse,.ro (.int ar),.own ds] = .ok (.ex .aQ O')) ∨
 ∃ds' C Z,D.bQ ds'=true/\T=C++Z/\iZ ns C/\e_ oG (j4 4 2 (gq φ (ae (b7 0) (ae (b7 1) (z4u 2 (ae (b7 3) ak)))))) m [.ro (.int P),.ro (ay ns),.own (T.map D.str).reverse,.ro (.int ar),.own ds] = .ok (.nx [.ro (.int P),.ro (ay ns),.own (Z.map D.str).reverse,.ro (.int ar),.own ds'])
 | 0,_,_,_,h,_,_,_=>absurd h (Ac _)
 | m+1,[],ds,_,_,_,_,nd=>.inr ⟨ds,[],[],nd,rfl,iZ.nil,by rw[pe,rD,Fz (.inl rfl)];rfl⟩
 | m+1,x::T,ds,hT,hm,hl,hd,nd=>by
   simp only[a3] at hm hl hd
   by_cases hx:x="]"
   .subst hx
    exact .inr ⟨ds,[],("]":Str)::T,nd,rfl,iZ.nil,by rw[pe,gz,Fz (.inr ⟨_,rfl⟩)];rfl⟩
   .have hg:oG [.ro (.int P),.ro (ay ns),.own ((x::T).map D.str).reverse,.ro (.int ar),.own ds] = .ok true:=vI (hT x (by simp)).1 hx
    have ea:ae (b7 0) (ae (b7 1) (z4u 2 (ae (b7 3) ak))) [.ro (.int P),.ro (ay ns),.own ((x::T).map D.str).reverse,.ro (.int ar),.own ds] = .ok [.int P,ay ns,.lst ((x::T).map D.str).reverse,.int ar]:=by walk_at "a"
    rcases lN x T hT (by lia) with e | ⟨d,C,Z,WO,eT,fC,e⟩
    .refine .inl ⟨[.ro (.int P),.ro (ay ns),.no,.ro (.int ar),.own ds],?_⟩
     rw[pe,hg,n_,if_pos rfl,Mg (ds:=ds) (dN ea e) rfl]
     rfl
    .have hb:=Fv (m:=4) (w:=2) (ds:=ds) (dN ea e) rfl (by lia)
     have FP:j4 4 2 (gq φ (ae (b7 0) (ae (b7 1) (z4u 2 (ae (b7 3) ak))))) [.ro (.int P),.ro (ay ns),.own ((x::T).map D.str).reverse,.ro (.int ar),.own ds] = .ok (.nx [.ro (.int P),.ro (ay ns),.own (Z.map D.str).reverse,.ro (.int ar),.own (ds++[d])]):=hb
     have lT:C.length+Z.length=T.length:=by rw[eT,aY]
     have ih:=MU lN m Z (ds++[d]) (λw h=>hT w (by rw[eT];simp[h])) (by lia) (by lia) (by rw[aY,Dp];lia) (by rw[Uv,nd];simp[D.bQ,WO])
     rcases ih with ⟨O',er⟩ | ⟨ds',C',Z',n',eZ,f',ok⟩
     .refine .inl ⟨O',?_⟩
      rw[pe,hg,n_,if_pos rfl,FP]
      exact er
     .refine .inr ⟨ds',x::C++C',Z',n',by rw[eT,eZ];simp,fC.app f',?_⟩
      rw[pe,hg,n_,if_pos rfl,FP]
      exact ok
def MV(N:gr ns):∀(b ar:Nat),ar+b=3->BX P ns (3*b+3) ar
 | b,ar,hb=>by
   have ih:ar<3->BX P ns (3*b) (ar+1):=λh=>by
    obtain⟨b',rfl⟩:∃b',b=b'+1:=⟨b-1,by lia⟩
    exact MV N b' (ar+1) (by lia)
   intro T hT hl
   have go:=MU (P:=P) (ns:=ns) (ar:=ar) (φ:=dX (3*b+2)) (λx T h1 h2=>WN N ih h1 h2) 200 T [] hT (by lia) hl (by simp;lia) rfl
   have st:dG (3*b+3) [.int P,ay ns,.lst (T.map D.str).reverse,.int ar]=qF (fN (3*b+2)) (dX (3*b+2)) (dG (3*b+2)) [.ro (.int P),.ro (ay ns),.own (T.map D.str).reverse,.ro (.int ar),.no]:=gK (as:=[.int P,ay ns]) (bs:=[.int ar]) rfl rfl
   rw[st]
   delta qF
   rcases go with ⟨O',er⟩ | ⟨ds',C,Z,nd,eT,fC,ok⟩
   .exact .inl (fV (m_ (ds:=[]) (by walk_at "a")) (lM er))
   .refine .inr ⟨.tup ds',C,Z,by rw[Ej];exact nd,eT,fC,fV (m_ (ds:=[]) (by walk_at "a")) (fV ok (yz ?_ rfl))⟩
    have nt:(D.tup ds').cy=true:=by rw[Ej];exact nd
    walk_at "a"
end
def FQ{i:Nat}{g:G->R D}{O:G}{c:Er}(h:g O = .er c):bF i (aB g) O = .ok (.ex c O):=by unfold bF aB;rw[h];rfl
def FR{φ:List D->R D}{gs:G->R (List D)}{O:G}{c:Er}(h:gs O = .er c):az φ gs O = .er c:=by unfold az;rw[h];rfl
def BY{g:G->R D}{gs:G->R (List D)}{O:G}{c:Er}(h:g O = .er c):ae g gs O = .er c:=by unfold ae;rw[h];rfl
def BZ{g:G->R D}{gs:G->R (List D)}{O:G}{d:D}{c:Er}(h:g O = .ok d)(h2:gs O = .er c):ae g gs O = .er c:=by unfold ae;rw[h,h2];rfl
def FT{gs:G->R (List D)}{O:G}{c:Er}(h:gs O = .er c):gL gs O = .er c:=by unfold gL;rw[h];rfl
def FU{φ:List D->R (List D)}{gs:G->R (List D)}{O:G}{ds:List D}{c:Er}(h:gs O = .ok ds)(e:φ ds = .er c):kv φ gs O = .er c:=by unfold kv;rw[h,R.bB,e];rfl
def WQ{row first w:Str}{ws:List Str}(hf:aR first=true)(hw:aR w=true)(hl:row.length<=100000)(hs:bW row " "=w::ws)(ne:w≠first):jn [.str row,.str first] = .er .aQ:=by
 refine(show oa 2 3 yv _=_ from ?_)
 have e:yv (eE 3 [.str row,.str first]) = .ok (.ex .aQ [En.ro (.str row),.ro (.str first),.own ((w::ws).map D.str)]):=by
  delta yv
  refine gp (ds:=(w::ws).map D.str) (tV rfl hl (by trivial) hs) ?_
  refine gJ (fi (fy (aW (a:=.str w) (b:=.str first) (aW (a:=.lst ((w::ws).map D.str)) (b:=.int 0) rfl rfl (by simp only[gz,aI,vj])) rfl ?_)) rfl)
  rw[tQ hw hf,decide_eq_false ne];rfl
 exact(EH (p:=2) (n:=3) rfl).trans (by rw[e];rfl)
section
variable {T:Str}
def WR{rs:List Str}(hl:T.length<=100000)(hs:bW T "\n"=rs)(hn:rs.length≠3):oE [.str T] = .er .aQ:=by
 refine fM (O:=[En.ro (.str T),.own (rs.map D.str),.no,.no]) rfl ?_
 unfold yx
 refine gp (ds:=rs.map D.str) (tV rfl hl (by trivial) hs) (gJ (fi (fy (aW (a:=.int (rs.length:Int)) (b:=.int 3) ?_ rfl ?_)) rfl))
 .refine bM (ds:=[.lst (rs.map D.str)]) rfl ?_
  simp only[bX,aZ]
 .have:¬(rs.length:Int)=3:=λz=>hn (by lia)
  walk_at "a"
  try simp[this]
variable {t1 t2 t3:Str}
def FV{u:G->R Fl}{q:R Fl}{t:G->R Fl}(hl:T.length<=100000)(hs:bW T "\n"=[t1,t2,t3])(hu:u [En.ro (.str T),.own [.str t1,.str t2,.str t3],.no,.no]=q) :
 aC (c8 1 (oh "\n" (gV 0))) (aC (bL (gT (af iM (az bX (ae (gV 1) ak)) (gC (.int 3)))) t b8) u) (eE 4 [.str T])=q:=by
 refine gp (ds:=[t1,t2,t3].map D.str) (tV rfl hl (by trivial) hs) ?_
 show aC _ _ [En.ro (.str T),.own [.str t1,.str t2,.str t3],.no,.no]=_
 exact dz (by walk_at "a";try rfl) hu
def WS(hl:T.length<=100000)(hs:bW T "\n"=[t1,t2,t3])(h:jn [.str t1,.str "prime"] = .er .aQ∨∃ws:List Str,jn [.str t1,.str "prime"] = .ok (ws.map D.str)/\j6 [.lst (ws.map D.str)] = .er .aQ):oE [.str T] = .er .aQ:=by
 refine fM (O:=[En.ro (.str T),.own [.str t1,.str t2,.str t3],.no,.no]) rfl ?_
 unfold yx
 have a0:ae (af aI (gV 1) (gC (.int 0))) (ae (gC (.str "prime")) ak) [En.ro (.str T),.own [.str t1,.str t2,.str t3],.no,.no] = .ok [.str t1,.str "prime"]:=aJ (aW (a:=.lst [.str t1,.str t2,.str t3]) (b:=.int 0) rfl rfl (by simp only[aI,vj])) rfl
 refine FV hl hs (gJ (FQ ?_))
 rcases h with h | ⟨ws,h,h2⟩
 .exact FR (BY (FT (FU a0 h)))
 .exact bM (aJ (bH (pG a0 h)) rfl) h2
def WT{P:Int}{w1:List Str}(hl:T.length<=100000)(hs:bW T "\n"=[t1,t2,t3])(h1:jn [.str t1,.str "prime"] = .ok (w1.map D.str))(hp:j6 [.lst (w1.map D.str)] = .ok (.int P))
 (h:jn [.str t2,.str "boxes"] = .er .aQ∨∃ws:List Str,jn [.str t2,.str "boxes"] = .ok (ws.map D.str)/\mE [.lst (ws.map D.str)] = .er .aQ):oE [.str T] = .er .aQ:=by
 refine fM (O:=[En.ro (.str T),.own [.str t1,.str t2,.str t3],.ro (.int P),.no]) rfl ?_
 unfold yx
 refine FV hl hs ?_
 refine c9 (d:=.int P) (da (bM (ds:=[.lst (w1.map D.str)]) (aJ (bH (pG (ds:=[.str t1,.str "prime"]) (aJ (aW (a:=.lst [.str t1,.str t2,.str t3]) (b:=.int 0) rfl rfl (by simp only[aI,vj])) rfl) h1)) rfl) hp) rfl) ?_
 have a0:ae (af aI (gV 1) (gC (.int 1))) (ae (gC (.str "boxes")) ak) [En.ro (.str T),.own [.str t1,.str t2,.str t3],.ro (.int P),.no] = .ok [.str t2,.str "boxes"]:=aJ (aW (a:=.lst [.str t1,.str t2,.str t3]) (b:=.int 1) rfl rfl (by simp only[aI,Eu])) rfl
 refine gJ (FQ ?_)
 rcases h with h | ⟨ws,h,h2⟩
 .exact FR (BY (FT (FU a0 h)))
 .exact bM (aJ (bH (pG a0 h)) rfl) h2
def WU{P:Int}{w1 w2 ns:List Str}(hl:T.length<=100000)(hs:bW T "\n"=[t1,t2,t3])(h1:jn [.str t1,.str "prime"] = .ok (w1.map D.str))(hp:j6 [.lst (w1.map D.str)] = .ok (.int P))(h2:jn [.str t2,.str "boxes"] = .ok (w2.map D.str))(hn:mE [.lst (w2.map D.str)] = .ok (a6 false ns))
 (h:jn [.str t3,.str "do"] = .er .aQ∨∃ws:List Str,jn [.str t3,.str "do"] = .ok (ws.map D.str)/\iD [.int P,a6 false ns,.lst (ws.map D.str)] = .er .aQ):oE [.str T] = .er .aQ:=by
 have nN:(a6 false ns).cy=true:=by
  show(D.tup (ns.map D.str)).cy=true
  simp[D.cy,iE]
 refine fM (O:=[En.ro (.str T),.own [.str t1,.str t2,.str t3],.ro (.int P),.ro (a6 false ns)]) rfl ?_
 unfold yx
 refine FV hl hs ?_
 refine c9 (d:=.int P) (da (bM (ds:=[.lst (w1.map D.str)]) (aJ (bH (pG (ds:=[.str t1,.str "prime"]) (aJ (aW (a:=.lst [.str t1,.str t2,.str t3]) (b:=.int 0) rfl rfl (by simp only[aI,vj])) rfl) h1)) rfl) hp) rfl) ?_
 refine c9 (d:=a6 false ns) (da (bM (ds:=[.lst (w2.map D.str)]) (aJ (bH (pG (ds:=[.str t2,.str "boxes"]) (aJ (aW (a:=.lst [.str t1,.str t2,.str t3]) (b:=.int 1) rfl rfl (by simp only[aI,Eu])) rfl) h2)) rfl) hn) nN) ?_
 have a0:ae (af aI (gV 1) (gC (.int 2))) (ae (gC (.str "do")) ak) [En.ro (.str T),.own [.str t1,.str t2,.str t3],.ro (.int P),.ro (a6 false ns)] = .ok [.str t3,.str "do"]:=aJ (aW (a:=.lst [.str t1,.str t2,.str t3]) (b:=.int 2) rfl rfl (by simp only[aI,Le])) rfl
 have fin:az iD (ae (gV 2) (ae (gV 3) (ae (gL (kv jn (ae (af aI (gV 1) (gC (.int 2))) (ae (gC (.str "do")) ak)))) ak))) [En.ro (.str T),.own [.str t1,.str t2,.str t3],.ro (.int P),.ro (a6 false ns)] = .er .aQ:=by
  rcases h with h | ⟨ws,h,h2⟩
  .exact FR (BZ (d:=.int P) rfl (BZ (d:=a6 false ns) rfl (BY (FT (FU a0 h)))))
  .exact bM (ds:=[.int P,a6 false ns,.lst (ws.map D.str)]) (aJ rfl (aJ rfl (aJ (bH (pG a0 h)) rfl))) h2
 have:jD (ae (gV 2) (ae (gV 3) (ae (az iD (ae (gV 2) (ae (gV 3) (ae (gL (kv jn (ae (af aI (gV 1) (gC (.int 2))) (ae (gC (.str "do")) ak)))) ak)))) ak))) [En.ro (.str T),.own [.str t1,.str t2,.str t3],.ro (.int P),.ro (a6 false ns)] = .er .aQ:=by
  unfold jD
  rw[BZ (d:=.int P) rfl (BZ (d:=a6 false ns) rfl (BY fin))]
  rfl
 show bY _ [En.ro (.str T),.own [.str t1,.str t2,.str t3],.ro (.int P),.ro (a6 false ns)]=_
 unfold bY
 rw[this]
 rfl
def MW{P:Int}{ns:List Str}{ws:List Str}(hl:ws.length<=90000)(h:dG 12 [.int P,ay ns,.lst (ws.map D.str).reverse,.int ((0:Nat):Int)] = .er .aQ):iD [.int P,a6 false ns,.lst (ws.map D.str)] = .er .aQ:=by
 refine fM (O:=[En.ro (.int P),.ro (a6 false ns),.ro (.lst (ws.map D.str)),.no,.no]) rfl ?_
 unfold BB
 refine gp (ds:=(ws.map D.str).reverse) ?_ ?_
 .show z5o (gV 2) [En.ro (.int P),.ro (a6 false ns),.ro (.lst (ws.map D.str)),.no,.no]=_
  simp only[z5o,gV,fe,iC,R.bB]
  rw[a4 ⟨by rw[aZ];lia,iE _⟩]
 .refine gJ (yy (dN (ds:=[.int P,ay ns,.lst (ws.map D.str).reverse,.int ((0:Nat):Int)]) ?_ h))
  show ae _ _ [En.ro (.int P),.ro (a6 false ns),.ro (.lst (ws.map D.str)),.own (ws.map D.str).reverse,.no]=_
  exact aJ rfl (aJ rfl (by walk_at "a";try rfl))
end
def FW{ws:List Str}(h:ws.length≠1):j6 [.lst (ws.map D.str)] = .er .aQ:=by
 refine fM (O:=[En.ro (.lst (ws.map D.str)),.no]) rfl ?_
 delta yu
 refine gJ (fi (fy (aW (a:=.int (ws.length:Int)) (b:=.int 1) ?_ rfl ?_)) rfl)
 .refine bM (ds:=[.lst (ws.map D.str)]) rfl ?_
  simp only[bX,aZ]
 .have:¬(ws.length:Int)=1:=λz=>h (by lia)
  walk_at "a"
  try simp[this]
def MX{w:Str}(h:jG [.str w] = .er .aQ):j6 [.lst [.str w]] = .er .aQ:=by
 refine fM (O:=[En.ro (.lst [.str w]),.no]) rfl ?_
 delta yu
 refine dz (by walk_at "a";try rfl) (gJ (FQ ?_))
 exact bM (ds:=[.str w]) (aJ (aW (a:=.lst [.str w]) (b:=.int 0) rfl rfl rfl) rfl) h
def WV{n:Int}(h0:0<=n)(h1:n<=10^30)(hp:vA n=false):j6 [.lst [.str (aH n)]] = .er .aQ:=by
 have en:=tR h0 h1
 have ep:=EY (d:=.int n) rfl
 rw[show ym (.int n)=false from hp] at ep
 refine fM (O:=[En.ro (.lst [.str (aH n)]),.ro (.int n)]) rfl ?_
 delta yu
 refine dz (by walk_at "a";try rfl) ?_
 refine c9 (d:=.int n) (da (bM (ds:=[.str (aH n)]) (aJ (aW (a:=.lst [.str (aH n)]) (b:=.int 0) rfl rfl rfl) rfl) en) rfl) ?_
 exact gJ (fi (su (b:=false) (fy (bM (ds:=[.int n]) (aJ rfl rfl) ep))) rfl)
def WW{P:Int}{ns:List Str}{ws:List Str}{d e:D}{Z:List D}(hl:ws.length<=90000)(h:dG 12 [.int P,ay ns,.lst (ws.map D.str).reverse,.int ((0:Nat):Int)] = .ok (d,(e::Z).reverse)):iD [.int P,a6 false ns,.lst (ws.map D.str)] = .er .aQ:=by
 refine fM (O:=[En.ro (.int P),.ro (a6 false ns),.ro (.lst (ws.map D.str)),.own (e::Z).reverse,.ro d]) rfl ?_
 unfold BB
 refine gp (ds:=(ws.map D.str).reverse) ?_ ?_
 .show z5o (gV 2) [En.ro (.int P),.ro (a6 false ns),.ro (.lst (ws.map D.str)),.no,.no]=_
  simp only[z5o,gV,fe,iC,R.bB]
  rw[a4 ⟨by rw[aZ];lia,iE _⟩]
 .refine mB (pF (dN (ds:=[.int P,ay ns,.lst (ws.map D.str).reverse,.int ((0:Nat):Int)]) ?_ h)) ?_
  .show ae _ _ [En.ro (.int P),.ro (a6 false ns),.ro (.lst (ws.map D.str)),.own (ws.map D.str).reverse,.no]=_
   exact aJ rfl (aJ rfl (by walk_at "a";try rfl))
  .show aC _ _ [En.ro (.int P),.ro (a6 false ns),.ro (.lst (ws.map D.str)),.own (e::Z).reverse,.ro d]=_
   refine gJ (fi ?_ rfl)
   simp only[z9o,gV,iC,tE,R.bB]
   simp
def B0(ws:List Str)(O:G):az bX (ae (gV 0) ak) (En.ro (.lst (ws.map D.str))::O) = .ok (.int (ws.length:Int)):=by
 refine bM (ds:=[.lst (ws.map D.str)]) rfl ?_
 simp only[bX,aZ]
def WX:mE [.lst (([]:List Str).map D.str)] = .er .aQ:=by
 refine fM (O:=[En.ro (.lst [])]) rfl ?_
 delta vD
 exact gJ (fi (BP rfl) rfl)
def FX{x:Str}{ws:List Str}{O:G}:jW (z9o (gV 0)) (En.ro (.lst ((x::ws).map D.str))::O) = .ok false:=su (b:=true) (by simp only[z9o,gV,fe,R.bB];rfl)
def FY{ws:List Str}(h:3<ws.length):mE [.lst (ws.map D.str)] = .er .aQ:=by
 refine fM (O:=[En.ro (.lst (ws.map D.str))]) rfl ?_
 delta vD
 cases ws with
 | nil=>simp at h
 | cons x ws =>
   refine gJ (fi (pI FX (BP (fy (aW (B0 (x::ws) []) rfl ?_)))) rfl)
   have:decide ((3:Int)<((ws.length+1:Nat):Int))=true:=decide_eq_true (by simp only[a3] at h;lia)
   walk_at "a"
   try simp only[a3]
   rw[this]
def FZ:∀(xs acc:List Str),(xs.foldl (λl k=>if k∈l then l else k::l) acc).length<=xs.length+acc.length
 | [],acc=>by simp
 | x::r,acc=>by
   rw[JG]
   by_cases q:x∈acc
   .rw[if_pos q];have:=FZ r acc;simp only[a3];lia
   .rw[if_neg q];have:=FZ r (x::acc);simp only[a3] at this ⊢;lia
def MY:∀(xs acc:List Str),(xs.foldl (λl k=>if k∈l then l else k::l) acc).length=xs.length+acc.length->xs.Nodup/\∀x∈xs,x ∉ acc
 | [],acc,_=>⟨a3o,λx hx=>by cases hx⟩
 | x::r,acc,h=>by
   rw[JG] at h
   by_cases q:x∈acc
   .rw[if_pos q] at h
    have:=FZ r acc
    simp only[a3] at h
    lia
   .rw[if_neg q] at h
    obtain⟨h1,h2⟩:=MY r (x::acc) (by simp only[a3] at h ⊢;lia)
    refine⟨List.nodup_cons.mpr ⟨λz=>h2 x z fI,h1⟩,λy hy=>?_⟩
    rcases List.mem_cons.mp hy with rfl | hy
    .exact q
    .exact λz=>h2 y hy (eU _ z)
def MZ(ws:List Str)(hl:ws.length<=1000)(O:G):vv (gV 0) (En.ro (.lst (ws.map D.str))::O) = .ok (.int (fw ws).length):=by
 unfold vv
 simp only[gV,fe,R.bB,strs?_map]
 rw[a4 hl]
def M0{x:Str}{ws:List Str}(h:(x::ws).length<=3):gT (af qq (az bX (ae (gV 0) ak)) (gC (.int 3))) [En.ro (.lst ((x::ws).map D.str))] = .ok false:=by
 refine fy (aW (B0 (x::ws) []) rfl ?_)
 have:decide ((3:Int)<((ws.length+1:Nat):Int))=false:=decide_eq_false (by simp only[a3] at h;lia)
 walk_at "a"
 try simp only[a3]
 rw[this]
def M1{ws:List Str}(h1:1<=ws.length)(h3:ws.length<=3)(nd:¬ws.Nodup):mE [.lst (ws.map D.str)] = .er .aQ:=by
 refine fM (O:=[En.ro (.lst (ws.map D.str))]) rfl ?_
 delta vD
 cases ws with
 | nil=>simp at h1
 | cons x ws =>
   refine gJ (fi (pI FX (pI (M0 h3) (fy (aW (MZ (x::ws) (by lia) []) (B0 (x::ws) []) ?_)))) rfl)
   have:¬((fw (x::ws)).length:Int)=((x::ws).length:Int):=λz=>nd (MY (x::ws) [] (by unfold fw at z;simp only[iW];lia)).1
   show R.guard _ _=_
   rw[a4 ⟨vh _ _,vh _ _⟩,Ep,beq_eq_false_iff_ne.mpr this]
   rfl
def qL(w:Str):Bool:=pJ w "abcdefghijklmnopqrstuvwxyz" 8&&!decide (w="set"∨w="again")
def WY{w:Str}(hw:aR w=true)(h3:w.length<=100000):tN [.str w] = .ok (.bl (qL w)):=by
 have em:=FI (w:=w) (S:="abcdefghijklmnopqrstuvwxyz") (m:=8) h3
 refine dn rfl ?_
 delta Fo
 refine dF (FH (bM (ds:=[.str w,.str "abcdefghijklmnopqrstuvwxyz",.int 8]) rfl em) (aW (a:=.str w) (b:=.tup [.str "set",.str "again"]) rfl (by walk_at "a") ?_))
 have k1:aR "set"=true:=by trivial
 have k2:aR "again"=true:=by trivial
 show R.guard _ _=_
 rw[a4 ⟨by rw[kq];exact hw,by rw[x_];simp only[Ah,Rq,kq,k1,k2,Rr]⟩]
 have e1:bG (.str "set") (.str w)=decide (w="set"):=by
  rw[z5x]
  by_cases q:w="set"
  .rw[q];simp
  .rw[decide_eq_false q];simpa using dC q
 have e2:bG (.str "again") (.str w)=decide (w="again"):=by
  rw[z5x]
  by_cases q:w="again"
  .rw[q];simp
  .rw[decide_eq_false q];simpa using dC q
 simp only[uR,JN,e1,e2,Dl,a3l]
def WZ{ws:List Str}(h1:1<=ws.length)(h3:ws.length<=3)(nd:ws.Nodup)(ho:∀w∈ws,aR w=true/\w.length<=100000)(hb:∃w∈ws,qL w=false):mE [.lst (ws.map D.str)] = .er .aQ:=by
 refine fM (O:=[En.ro (.lst (ws.map D.str))]) rfl ?_
 delta vD
 have ec:fh (jZ (gV 0)) (fU (aB (az (jY tN) (ae (gV 0) ak)))) [En.ro (.lst (ws.map D.str))] = .ok ((ws.map qL).map D.bl):=by
  unfold fh
  rw[show jZ (gV 0) [En.ro (.lst (ws.map D.str))] = .ok (ws.map D.str) by simp only[jZ,gV,fe,R.bB,vo,a4 (iE ws)]]
  show R.guard _ _=_
  rw[a4 (by rw[aZ];lia),rJ]
  refine qw λw hw=>?_
  exact BQ (da (bM (ds:=[.str w]) rfl (UZ (WY (ho w hw).1 (ho w hw).2))) rfl)
 have M3:=MF nd
 cases ws with
 | nil=>simp at h1
 | cons x ws =>
   refine dz (pI FX (pI (M0 h3) (fy (aW (MZ (x::ws) (by lia) []) (B0 (x::ws) []) ?_)))) (gJ (fi (su (b:=false) (fy (bM (ds:=[.lst (((x::ws).map qL).map D.bl)]) (aJ (bH ec) rfl) ?_))) rfl))
   .show R.guard _ _=_
    rw[a4 ⟨vh _ _,vh _ _⟩,Ep,M3]
    simp
   .rw[yc]
    obtain⟨w,hw,e⟩:=hb
    have:((x::ws).map qL).all (λb=>b)=false:=by
     rw[a3p]
     exact⟨_,List.mem_map.mpr ⟨w,hw,rfl⟩,by rw[e];decide⟩
    rw[this]
mutual
def Raw.gd(many:Int):Nat->Raw->Bool
 | _,.set x f=>(decide (0<=x)&&decide (x<=many-1))&&decide ((f.length:Int)=many+1)
 | ar,.again n _ xL=>(decide (ar<3)&&(decide (0<=n)&&decide (n<=10^30)))&&Raw.pK many (ar+1) xL
def Raw.pK(many:Int):Nat->List Raw->Bool
 | _,[]=>true
 | ar,a::r=>a.gd many ar&&Raw.pK many ar r
end
mutual
def Raw.short:Raw->Prop
 | .set _ f=>f.length<=1000
 | .again _ _ xL=>Raw.tX xL
def Raw.tX:List Raw->Prop
 | []=>True
 | a::r=>a.short/\Raw.tX r
end
def Raw.F4:∀{xL:List Raw},Raw.tX xL↔∀a∈xL,a.short
 | []=>by simp[Raw.tX]
 | a::r=>by simp[Raw.tX,Raw.F4 (xL:=r)]
def Raw.F5(many:Int)(ar:Nat):∀xL:List Raw,Raw.pK many ar xL=xL.all (Raw.gd many ar)
 | []=>rfl
 | a::r=>by rw[Raw.pK,Raw.F5 many ar r];rfl
noncomputable def yF(Fc:List D->R D):G->R Fl:=(aC (bF 2 (aB (af cu (gV 2) (gC (.int 1)))))
 (aC (bL (gT (af qq (gV 2) (gC (.int 30)))) (gj .dE) b8)
 (bL (gT (af bI (af aI (gV 3) (gC (.int 0))) (gC (.str "again")))) (bF 2 (aB (az Fc (ae (af aI (gV 3) (gC (.int 2))) (ae (gV 2) ak))))) b8)))
def W0{i:Nat}{g:G->R D}{O:G}{c:Er}(h:g O = .er c):bF i g O = .ok (.ex c O):=by unfold bF;rw[h];rfl
def vR{g:G->R D}{O:G}{c:Er}(h:g O = .er c):bY g O = .ok (.ex c O):=by unfold bY;rw[h];rfl
def M4{g:G->R D}{O:G}{c:Er}(h:g O = .er c):qx g O = .ok (.ex c O):=by unfold qx;rw[h];rfl
def W2{gb:G->R Fl}{i:Nat}{d:D}{ds:List D}{O O':G}{c:Er}(h:gb (O.set i (.ro d)) = .ok (.ex c O')):e8 gb i (d::ds) O = .ok (.ex c O'):=by rw[EF,h]
def M5{gb:G->R Fl}{i:Nat}{d:D}{ds:List D}{O O':G}{r:R Fl}(h:gb (O.set i (.ro d)) = .ok (.nx O'))(h2:e8 gb i ds O'=r):e8 gb i (d::ds) O=r:=by rw[EF,h];exact h2
def M6:∀(k:Nat) (xL:List Raw) (l:Bool) (c:Nat),Raw.cz xL<k->c<=30->pz k [jj l (xL.map Raw.d),.int c]=if c+Raw.aP xL<=30 then .ok (.int ((c+Raw.aP xL:Nat):Int)) else .er .dE
 | 0,_,_,_,h,_=>absurd h (Ac _)
 | k+1,xL,l,c0,h,hc=>by
   have item:∀(a:Raw) (A B:En) (c:Nat),a∈xL->c<=30->(c+a.many<=30->yF (pz k) [A,B,.ro (.int (c:Int)),.ro a.d] = .ok (.nx [A,B,.ro (.int ((c+a.many:Nat):Int)),.ro a.d]))/\(¬c+a.many<=30->∃O',yF (pz k) [A,B,.ro (.int (c:Int)),.ro a.d] = .ok (.ex .dE O')):=λa A B c ha hc=>by
    have hp:=a.tK
    have e1:(c:Int)+1=((c+1:Nat):Int):=rfl
    have st:∀u:G->R Fl,aC (bF 2 (aB (af cu (gV 2) (gC (.int 1))))) u [A,B,.ro (.int (c:Int)),.ro a.d]=u [A,B,.ro (.int ((c+1:Nat):Int)),.ro a.d]:=λu=>c9 (d:=.int ((c+1:Nat):Int)) (by walk_at "a";rw[e1]) rfl
    unfold yF
    rw[st]
    by_cases h1:c=30
    .subst h1
     have b1:decide ((30:Int)<((30+1:Nat):Int))=true:=by decide
     refine⟨λz=>by lia,λ_=>⟨_,gJ (fi (by walk_at "a";try rw[b1];try rfl) rfl)⟩⟩
    .have b1:decide ((30:Int)<((c+1:Nat):Int))=false:=decide_eq_false (by lia)
     rw[dz (by walk_at "a";rw[b1]) rfl]
     cases a with
     | set x f =>
       refine⟨λ_=>r_ ?_,λz=>by simp only[Raw.many] at z;lia⟩
       simp only[Raw.d]
       walk_at "a"
     | again n l2 i =>
       have hd:=Raw.L9 ha
       simp only[Raw.deep] at hd
       have ih:=M6 k i l2 (c+1) (by lia) (by lia)
       have ci:∀O:G,O=[A,B,.ro (.int ((c+1:Nat):Int)),.ro (Raw.again n l2 i).d]->gT (af bI (af aI (gV 3) (gC (.int 0))) (gC (.str "again"))) O = .ok true:=λO e=>by
        rw[e];simp only[Raw.d];walk_at "a"
       simp only[Raw.many]
       refine⟨λz=>?_,λz=>?_⟩
       .rw[if_pos (by lia)] at ih
        refine fi (ci _ rfl) (r9 (d:=.int ((c+(1+Raw.aP i):Nat):Int)) ?_)
        simp only[Raw.d,Raw.ds_map]
        walk_at "a"
        simp only[ih]
        walk_at "a"
        congr 3
        lia
       .rw[if_neg (by lia)] at ih
        refine⟨_,fi (ci _ rfl) (W0 ?_)⟩
        simp only[Raw.d,Raw.ds_map]
        walk_at "a"
        simp only[ih]
        walk_at "a"
   have loop:∀(q:List Raw) (A B x3:En) (c:Nat),(∀a∈q,a∈xL)->c<=30->(c+Raw.aP q<=30->∃W3,e8 (yF (pz k)) 3 (q.map Raw.d) [A,B,.ro (.int (c:Int)),x3] = .ok (.nx [A,B,.ro (.int ((c+Raw.aP q:Nat):Int)),W3]))/\(¬c+Raw.aP q<=30->∃O',e8 (yF (pz k)) 3 (q.map Raw.d) [A,B,.ro (.int (c:Int)),x3] = .ok (.ex .dE O')):=by
    intro q
    induction q with
    | nil=>intro A B x3 c _ hc;exact⟨λ_=>⟨x3,rfl⟩,λz=>by simp only[Raw.aP] at z;lia⟩
    | cons a q ih =>
      intro A B x3 c hs hc
      obtain⟨i1,i2⟩:=item a A B c (hs a fI) hc
      simp only[Raw.aP]
      by_cases ha:c+a.many<=30
      .obtain⟨l1,l2⟩:=ih A B (.ro a.d) (c+a.many) (λb hb=>hs b (eU _ hb)) ha
       refine⟨λz=>?_,λz=>?_⟩
       .obtain⟨x',e⟩:=l1 (by lia)
        refine⟨x',M5 (i1 ha) ?_⟩
        rw[e,Nat.add_assoc]
       .obtain⟨O',e⟩:=l2 (by lia)
        exact⟨O',M5 (i1 ha) e⟩
      .refine⟨λz=>by lia,λ_=>?_⟩
       obtain⟨O',e⟩:=i2 ha
       exact⟨O',W2 e⟩
   show cL 2 4 (Bv (pz k)) _=_
   have B1:∀B x2 x3,r8 (b7 0) [En.ro (jj l (xL.map Raw.d)),B,x2,x3] = .ok (xL.map Raw.d):=λB x2 x3=>by walk_at "a";cases l<;>rfl
   obtain⟨l1,l2⟩:=loop xL (.ro (jj l (xL.map Raw.d))) (.ro (.int (c0:Int))) .no c0 (λ_ h=>h) hc
   by_cases hm:c0+Raw.aP xL<=30
   .rw[if_pos hm]
    obtain⟨x',e⟩:=l1 hm
    refine dn rfl ?_
    delta Bv
    refine c9 (d:=.int c0) (by walk_at "a") (mB (EJ (B1 _ _ _) e) (dF (by walk_at "a")))
   .rw[if_neg hm]
    obtain⟨O',e⟩:=l2 hm
    refine fM (O:=O') rfl ?_
    delta Bv
    exact c9 (d:=.int c0) (by walk_at "a") (gJ (EJ (B1 _ _ _) e))
def W4{P many x:Int}{f:List Int}(ar:Nat)(p1:3<=P)(p2:P<=9999)(hf:f.length<=1000):Fd [.int P,.int many,.int x,gW f]=if Raw.gd many ar (.set x f)=true then .ok (Item.set x (f.map (·%P))).d else .er .dE:=by
 have ef:=Bu (d:=.int x) (a:=0) (b:=many-1) rfl
 have bv:tJ (.int x) 0 (many-1)=(decide (0<=x)&&decide (x<=many-1)):=rfl
 rw[bv] at ef
 have sy:Raw.gd many ar (.set x f)=((decide (0<=x)&&decide (x<=many-1))&&decide ((f.length:Int)=many+1)):=by simp only[Raw.gd]
 rcases a3q (decide (0<=x)&&decide (x<=many-1)) with b1 | b1
 rotate_left
 .rw[b1] at ef
  rw[if_neg (by rw[sy,b1];simp)]
  apply fM rfl
  delta Bw
  exact gJ (fi (by walk_at "a";simp only[ef];walk_at "a") rfl)
 .rw[b1] at ef
  by_cases h2:(f.length:Int)=many+1
  .rw[if_pos (by rw[sy,b1,decide_eq_true h2];rfl)]
   refine dn rfl ?_
   delta Bw
   refine dz (by walk_at "a";simp only[ef];walk_at "a") ?_
   refine dz (by simp only[EU];walk_at "a";simp only[h2];walk_at "a";try simp) ?_
   refine dF ?_
   simp only[Item.d,EU]
   have hl:f.length<=100000:=by lia
   walk_at "a"
   rw[qw (h:=λn=>D.int (n%P))]
   .rw[Vw]
    walk_at "a"
   .intro n hn
    walk_at "a"
  .rw[if_neg (by rw[sy,decide_eq_false h2];simp)]
   have bz:(!((f.length:Int)==many+1))=true:=by simp[h2]
   apply fM rfl
   delta Bw
   refine dz (by walk_at "a";simp only[ef];walk_at "a") ?_
   exact gJ (fi (by simp only[EU];walk_at "a";rw[bz]) rfl)
def M7{P:Int}{g:Raw->Bool}{F:D->R (Option D)}:∀{xL:List Raw} {acc:List D},(∀a∈xL,F a.d=if g a=true then .ok (some (a.made P).d) else .er .dE)->hJ F (xL.map Raw.d) acc=if xL.all g=true then .ok (acc++xL.map λa=>(a.made P).d) else .er .dE
 | [],acc,_=>by simp[hJ]
 | a::r,acc,h=>by
   have ha:=h a fI
   have ih:=λacc=>M7 (xL:=r) (acc:=acc) λb hb=>h b (eU _ hb)
   rw[gz,hJ]
   cases q:g a with
   | false=>rw[q] at ha;simp[ha,q]
   | true =>
     rw[q,if_pos rfl] at ha
     simp only[ha,ih,Ah,q,Rk]
     simp
def M8{P many:Int}(p1:3<=P)(p2:P<=9999):∀(k:Nat) (xL:List Raw) (l:Bool) (ar:Nat),3*(4-ar)<=k->ar<=3->Raw.aP xL<=1000->(∀a∈xL,a.short)->pE k [.int P,.int many,jj l (xL.map Raw.d),.int ar]=if Raw.pK many ar xL=true then .ok (.tup ((Raw.tL P xL).map Item.d)) else .er .dE
 | 0,_,_,_,h,_,_,_=>by lia
 | 1,_,_,_,h,_,_,_=>by lia
 | 2,_,_,_,h,_,_,_=>by lia
 | k+3,xL,l,ar,h,vQ,hm,AS=>by
   show cL 4 4 (BA (so (k+2)) (qG (k+2)) (pE (k+2))) _=_
   have hlen:=Raw.qD xL
   have hl:(xL.map Raw.d).length<=100000:=by rw[aZ];lia
   have B1:r8 (b7 2) [En.ro (.int P),.ro (.int many),.ro (jj l (xL.map Raw.d)),.ro (.int ar)] = .ok (xL.map Raw.d):=by
    walk_at "a"
    cases l<;>rfl
   have one:∀a∈xL,qG (k+2) [.int P,.int many,a.d,.int ar]=if a.gd many ar=true then .ok (a.made P).d else .er .dE:=λa ha=>by
    show cL 4 4 (vH (so (k+1)) (qG (k+1)) (pE (k+1))) _=_
    cases a with
    | set x f =>
      have sf:=AS _ ha
      simp only[Raw.short] at sf
      have es:=W4 (P:=P) (many:=many) (x:=x) (f:=f) ar p1 p2 sf
      have ci:gT (af bI (af aI (gV 2) (gC (.int 0))) (gC (.str "set"))) [En.ro (.int P),.ro (.int many),.ro (Raw.set x f).d,.ro (.int ar)] = .ok true:=by simp only[Raw.d];walk_at "a"
      by_cases hg:Raw.gd many ar (.set x f)=true
      .rw[if_pos hg] at es ⊢
       refine dn rfl ?_
       unfold vH
       refine vr (fi ci (dF ?_))
       simp only[Raw.d]
       walk_at "a"
       simp only[es]
       rfl
      .rw[if_neg hg] at es ⊢
       apply fM rfl
       unfold vH
       refine gJ (fi ci (vR ?_))
       simp only[Raw.d]
       walk_at "a"
       simp only[es]
    | again n l2 i =>
      have h2:=Raw.yo ha
      have sf:=AS _ ha
      simp only[Raw.many] at h2
      simp only[Raw.short] at sf
      have ci:gT (af bI (af aI (gV 2) (gC (.int 0))) (gC (.str "set"))) [En.ro (.int P),.ro (.int many),.ro (Raw.again n l2 i).d,.ro (.int ar)] = .ok false:=by simp only[Raw.d];walk_at "a"
      have ef:=Bu (d:=.int n) (a:=0) (b:=10^30) rfl
      have bv:tJ (.int n) 0 (10^30)=(decide (0<=n)&&decide (n<=10^30)):=rfl
      rw[bv] at ef
      have nI:=E9 (Raw.tL P i)
      have eg:so (k+1) [.int P,.int many,.int n,jj l2 (i.map Raw.d),.int ar]=if Raw.gd many ar (.again n l2 i)=true then .ok (Item.again n (Raw.tL P i)).d else .er .dE:=by
       show cL 5 5 (vG (so k) (qG k) (pE k)) _=_
       have sy:Raw.gd many ar (.again n l2 i)=((decide (ar<3)&&(decide (0<=n)&&decide (n<=10^30)))&&Raw.pK many (ar+1) i):=by simp only[Raw.gd]
       by_cases h3:ar<3
       .have b1:decide ((3:Int)<=(ar:Int))=false:=decide_eq_false (by lia)
        rcases a3q (decide (0<=n)&&decide (n<=10^30)) with b2 | b2
        rotate_left
        .rw[b2] at ef
         rw[if_neg (by rw[sy,b2];simp)]
         apply fM rfl
         unfold vG
         refine dz (by walk_at "a";rw[b1]) ?_
         exact gJ (fi (by walk_at "a";simp only[ef];walk_at "a") rfl)
        .rw[b2] at ef
         have ih:=M8 (many:=many) p1 p2 k i l2 (ar+1) (by lia) (by lia) (by lia) (Raw.F4.mp sf)
         have ea:(ar:Int)+1=((ar+1:Nat):Int):=rfl
         by_cases hg:Raw.pK many (ar+1) i=true
         .rw[if_pos hg] at ih
          rw[if_pos (by rw[sy,b2,hg,decide_eq_true h3];rfl)]
          refine dn rfl ?_
          unfold vG
          refine dz (by walk_at "a";rw[b1]) (dz (by walk_at "a";simp only[ef];walk_at "a") (dF ?_))
          walk_at "a"
          simp only[ea,ih]
          walk_at "a"
         .rw[if_neg hg] at ih
          rw[if_neg (by rw[sy,jP];exact λz=>hg z.2)]
          apply fM rfl
          unfold vG
          refine dz (by walk_at "a";rw[b1]) (dz (by walk_at "a";simp only[ef];walk_at "a") (vR ?_))
          walk_at "a"
          simp only[ea,ih]
          try walk_at "a"
       .have b1:decide ((3:Int)<=(ar:Int))=true:=decide_eq_true (by lia)
        rw[if_neg (by rw[sy,decide_eq_false h3];simp)]
        apply fM rfl
        unfold vG
        exact gJ (fi (by walk_at "a";rw[b1]) rfl)
      by_cases hg:Raw.gd many ar (.again n l2 i)=true
      .rw[if_pos hg] at eg ⊢
       refine dn rfl ?_
       unfold vH
       refine dz ci (dF ?_)
       simp only[Raw.d,Raw.ds_map]
       walk_at "a"
       simp only[eg]
       rfl
      .rw[if_neg hg] at eg ⊢
       apply fM rfl
       unfold vH
       refine dz ci (vR ?_)
       simp only[Raw.d,Raw.ds_map]
       walk_at "a"
       simp only[eg]
   have key:∀F:D->G->R (Option D),(∀a∈xL,F a.d [En.ro (.int P),.ro (.int many),.ro (jj l (xL.map Raw.d)),.ro (.int ar)]=if a.gd many ar=true then .ok (some (a.made P).d) else .er .dE)->y1u (r8 (b7 2)) F [En.ro (.int P),.ro (.int many),.ro (jj l (xL.map Raw.d)),.ro (.int ar)]=if Raw.pK many ar xL=true then .ok (xL.map λa=>(a.made P).d) else .er .dE:=λF hF=>by
    unfold y1u
    rw[B1]
    show R.guard _ _=_
    rw[a4 hl,M7 hF,Raw.F5,l_]
   have elt:∀a∈xL,fU (aB (az (qG (k+2)) (ae (gV 1) (ae (gV 2) (ae (gV 0) (ae (gV 4) ak)))))) a.d [En.ro (.int P),.ro (.int many),.ro (jj l (xL.map Raw.d)),.ro (.int ar)]=if a.gd many ar=true then .ok (some (a.made P).d) else .er .dE:=λa ha=>by
    have e:=one a ha
    have nL:=Item.cy (a.made P)
    by_cases hg:a.gd many ar=true
    .rw[if_pos hg] at e ⊢
     walk_at "a"
     simp only[e]
     walk_at "a"
    .rw[if_neg hg] at e ⊢
     walk_at "a"
     simp only[e]
     try rfl
   have eC:=key _ elt
   by_cases hg:Raw.pK many ar xL=true
   .rw[if_pos hg] at eC ⊢
    refine dn rfl ?_
    unfold BA
    refine dF ?_
    show az ku (ae (gL (y1u _ _)) ak) [En.ro (.int P),.ro (.int many),.ro (jj l (xL.map Raw.d)),.ro (.int ar)]=_
    rw[Raw.L8,rJ]
    simp only[az,ae,ak,gL,eC]
    rfl
   .rw[if_neg hg] at eC ⊢
    apply fM rfl
    unfold BA
    refine vR ?_
    show az ku (ae (gL (y1u _ _)) ak) [En.ro (.int P),.ro (.int many),.ro (jj l (xL.map Raw.d)),.ro (.int ar)]=_
    simp only[az,ae,ak,gL,eC]
    rfl
def M9{P many:Int}{xL:List Raw}{l:Bool}(p1:3<=P)(p2:P<=9973)(hd:hV P=false)(m1:1<=many)(m3:many<=3)(hm:Raw.aP xL<=1000)(d3:Raw.cz xL<12)(hs:∀a∈xL,a.short)(h:30<Raw.aP xL∨Raw.pK many 0 xL=false):yw [.int P,.int many,jj l (xL.map Raw.d)] = .er .dE:=by
 have ep:=VE (d:=.int P) rfl (show(decide (3<=P)&&(decide (P<=9999)&&!hV P))=true by rw[decide_eq_true p1,decide_eq_true (show P<=9999 by lia),hd];rfl)
 have ef:=Bu (d:=.int many) (a:=1) (b:=3) rfl
 have b:tJ (.int many) 1 3=true:=by
  show(decide (1<=many)&&decide (many<=3))=true
  rw[decide_eq_true m1,decide_eq_true m3];rfl
 rw[b] at ef
 have ec:=M6 12 xL l 0 d3 (by lia)
 have em:=M8 (many:=many) p1 (show P<=9999 by lia) 12 xL l 0 (by lia) (by lia) hm hs
 refine fM (O:=eE 3 [.int P,.int many,jj l (xL.map Raw.d)]) rfl ?_
 unfold Md
 refine mB (Lv (d:=.int P) (by walk_at "a";simp only[ep])) ?_
 refine dz (by walk_at "a";simp only[ef];walk_at "a") ?_
 by_cases q:0+Raw.aP xL<=30
 .rw[if_pos q] at ec
  rw[if_neg (h.elim (λh=>absurd h (by lia)) λh=>by rw[h];decide)] at em
  refine mB (Lv (d:=.int ((0+Raw.aP xL:Nat):Int)) (by walk_at "a";simp only[show(D.int 0)=D.int ((0:Nat):Int) from rfl,ec];try simp)) (vR ?_)
  exact bM (ds:=[.int P,.int many,jj l (xL.map Raw.d),.int ((0:Nat):Int)]) rfl em
 .rw[if_neg q] at ec
  exact gJ (M4 (bM (ds:=[jj l (xL.map Raw.d),.int ((0:Nat):Int)]) rfl ec))
mutual
def Item.W5:∀a:Item,a.j5.d=a.d/\a.j5.many=a.many/\a.j5.deep=a.deep
 | .set x f=>⟨by simp[Item.j5,Raw.d,Item.d],by simp[Item.j5,Raw.many,Item.many],by simp[Item.j5,Raw.deep,Item.deep]⟩
 | .again n xL=>by
   obtain⟨h1,h2,h3⟩:=Item.B2 xL
   refine⟨?_,?_,?_⟩
   .simp only[Item.j5,Raw.d,Item.d,Raw.ds_map,Item.ds_map,h1];rfl
   .simp only[Item.j5,Raw.many,Item.many,h2]
   .simp only[Item.j5,Raw.deep,Item.deep,h3]
def Item.B2:∀xL:List Item,(Item.lK xL).map Raw.d=xL.map Item.d/\Raw.aP (Item.lK xL)=Item.aP xL/\Raw.cz (Item.lK xL)=Item.cz xL
 | []=>⟨rfl,rfl,rfl⟩
 | a::r=>by
   obtain⟨h1,h2,h3⟩:=Item.W5 a
   obtain⟨k1,k2,k3⟩:=Item.B2 r
   exact⟨by simp only[Item.lK,gz,h1,k1],by simp only[Item.lK,Raw.aP,Item.aP,h2,k2],by simp only[Item.lK,Raw.cz,Item.cz,h3,k3]⟩
end
mutual
def Item.M_{P many:Int}(m3:many<=3):∀a:Item,a.ok P many->a.j5.short
 | .set x f,h=>by simp only[Item.ok] at h;simp only[Item.j5,Raw.short];lia
 | .again n xL,h=>by simp only[Item.ok] at h;simp only[Item.j5,Raw.short];exact Item.F8 m3 xL h.2.2
def Item.F8{P many:Int}(m3:many<=3):∀xL:List Item,Item.cB P many xL->Raw.tX (Item.lK xL)
 | [],_=>trivial
 | a::r,h=>by simp only[Item.cB] at h;exact⟨Item.M_ m3 a h.1,Item.F8 m3 r h.2⟩
end
def Item.F9:∀xL:List Item,Item.lK xL=xL.map Item.j5
 | []=>rfl
 | a::r=>by rw[Item.lK,Item.F9 r];rfl
def Na{P:Int}{ns ws:List Str}{d:D}(hl:ws.length<=90000)(h:dG 12 [.int P,ay ns,.lst (ws.map D.str).reverse,.int ((0:Nat):Int)] = .ok (d,([]:List D).reverse))(hp:yw [.int P,.int (ns.length:Int),d] = .er .dE):iD [.int P,a6 false ns,.lst (ws.map D.str)] = .er .aQ:=by
 refine fM (O:=[En.ro (.int P),.ro (a6 false ns),.ro (.lst (ws.map D.str)),.own [],.ro d]) rfl ?_
 unfold BB
 refine gp (ds:=(ws.map D.str).reverse) ?_ ?_
 .show z5o (gV 2) [En.ro (.int P),.ro (a6 false ns),.ro (.lst (ws.map D.str)),.no,.no]=_
  simp only[z5o,gV,fe,iC,R.bB]
  rw[a4 ⟨by rw[aZ];lia,iE _⟩]
 .refine mB (pF (d:=d) (ws:=([]:List D).reverse) (dN (ds:=[.int P,ay ns,.lst (ws.map D.str).reverse,.int ((0:Nat):Int)]) ?_ h)) ?_
  .show ae _ _ [En.ro (.int P),.ro (a6 false ns),.ro (.lst (ws.map D.str)),.own (ws.map D.str).reverse,.no]=_
   exact aJ rfl (aJ rfl (by walk_at "a";try rfl))
  .show aC _ _ [En.ro (.int P),.ro (a6 false ns),.ro (.lst (ws.map D.str)),.own [],.ro d]=_
   refine dz rfl ?_
   have e:bY (az yw (ae (gV 0) (ae (az bX (ae (gV 1) ak)) (ae (gV 4) ak)))) [En.ro (.int P),.ro (a6 false ns),.ro (.lst (ws.map D.str)),.own [],.ro d] = .ok (.ex .dE [En.ro (.int P),.ro (a6 false ns),.ro (.lst (ws.map D.str)),.own [],.ro d]):=by
    refine vR (bM (ds:=[.int P,.int (ns.length:Int),d]) (aJ rfl (aJ ?_ (aJ rfl rfl))) hp)
    refine bM (ds:=[a6 false ns]) (aJ rfl rfl) ?_
    show bX [.tup (ns.map D.str)]=_
    simp only[bX,aZ]
   unfold EO
   rw[e];rfl
def yG{P:Int}{ns ws:List Str}(N:gr ns)(hw:Wd ws)(hl:ws.length<=190)(h:¬iZ ns ws):iD [.int P,a6 false ns,.lst (ws.map D.str)] = .er .aQ:=by
 rcases MV (P:=P) N 3 0 rfl ws hw hl with e | ⟨d,C,Z,_,eT,fC,e⟩
 .exact MW (by lia) e
 .cases Z with
  | nil=>rw[kE] at eT;exact absurd (eT ▸ fC) h
  | cons z Z=>exact WW (by lia) e
def fG(a b:Str):(a++b).cps.toList=a.cps.toList++b.cps.toList:=by
 show(a.cps++b.cps).toList=_
 simp
def oH{a b:Str}(h:a.cps.toList=b.cps.toList):a=b:=Dw (Array.toList_inj.mp h)
def F_(a b c:Str):a++b++c=a++(b++c):=oH (by simp only[fG,jQ])
def Nb(a:Str):a++("":Str)=a:=oH (by rw[fG,show("":Str).cps.toList=[] by trivial,kE])
def jH(a:Str):a.cps.toList.length=a.length:=by simp[kF]
def kT(a b:Str):(a++b).length=a.length+b.length:=by rw[<-jH,<-jH,<-jH,fG,aY]
def B3(c:Nat):∀{xs ys:List Str},xs≠[]->ys≠[]->gD (one c) (xs++ys)=gD (one c) xs++one c++gD (one c) ys
 | [],_,h,_=>absurd rfl h
 | [x],y::r,_,_=>rfl
 | x::z::q,ys,_,h=>by
   have ih:=B3 c (xs:=z::q) (ys:=ys) (by simp) h
   refine oH ?_
   rw[fG,fG,lJ,fT,fT,lJ,<-fT,ih,fG,fG,jQ]
   simp
def yH(c:Nat)(a b:Str):bW (a++one c++b) (one c)=bW a (one c)++bW b (one c):=by
 refine Bl c (sg _ _) (by simp[sg]) (Ad _ c) (λx hx=>?_) ?_
 .exact(List.mem_append.mp hx).elim (Ad _ c x) (Ad _ c x)
 .rw[B3 c (sg _ _) (sg _ _),sZ,sZ,sZ]
def W6(c:Nat){a w z:Str}{u:List Str}(h:bW a (one c)=u++[w])(hz:c ∉ z.cps.toList):bW (a++z) (one c)=u++[w++z]:=by
 have fr:∀p∈bW a (one c),c ∉ p.cps.toList:=Ad a c
 rw[h] at fr
 have ja:=sZ a (one c)
 rw[h] at ja
 refine Bl c (sg _ _) (by simp) (Ad _ c) (λx hx=>?_) ?_
 .rcases List.mem_append.mp hx with hx | hx
  .exact fr x (by simp[hx])
  .rw[List.mem_singleton.mp hx,fG,nW]
   exact λq=>q.elim (fr w (by simp)) hz
 .rw[sZ,<-ja]
  cases u with
  | nil=>rfl
  | cons y u=>rw[B3 c (by simp) (by simp),B3 c (by simp) (by simp)];exact F_ _ _ _
def W7(c:Nat)(a:Str):∃u w,bW a (one c)=u++[w]:=by
 have:=sg a (one c)
 exact⟨_,_,(a3r this).symm⟩
def Nc(c:Nat):bW ("":Str) (one c)=[("":Str)] :=
 Bm c (xs:=[("":Str)]) (by simp) λx hx=>by
  rw[List.mem_singleton.mp hx,show("":Str).cps.toList=[] by trivial]
  exact iX
def Ga{row a b:Str}{ws:List Str}(hs:bW row " "=ws)(hr:row=a++b)(hb:b=""∨∃b',b=" "++b') :
 ∃(u:List Str) (w:Str) (v:List Str),ws=u++w::v/\bW (a++"~"++b) " "=u++(w++"~")::v/\bW (a++" "++b) " "=u++w::("":Str)::v:=by
 rw[vK] at *
 obtain⟨u,w,e⟩:=W7 32 a
 have et:=W6 32 (z:="~") e (by trivial)
 rcases hb with rfl | ⟨b',rfl⟩
 .refine⟨u,w,[],?_,?_,?_⟩
  .rw[<-hs,hr,Nb,e]
  .rw[Nb,et]
  .rw[yH,Nc,e];simp
 .refine⟨u,w,bW b' (one 32),?_,?_,?_⟩
  .rw[<-hs,hr,<-F_,yH,e];simp
  .rw[<-F_,yH,et];simp
  .have:one 32++b'=""++one 32++b':=rfl
   rw[yH,this,yH,Nc,e];simp
def Gb(x:Str){k:Nat}(h:k<=x.length):(g8 x none (some (k:Int))).cps.toList=x.cps.toList.take k:=by
 have ei:JO none (some (k:Int)) 1 x.length=g6 k:=by
  unfold JO sliceRange
  have h1:¬(k:Int)<0:=by lia
  have h2:max 0 (min (k:Int) (x.length:Int))=(k:Int):=by lia
  simp only[show(1:Int)>0 by decide,if_true,if_neg h1,h2]
  by_cases h0:(0:Int)<(k:Int)
  .rw[if_pos h0]
   have:(((k:Int)-0+1-1)/1).toNat=k:=by simp
   rw[this]
   conv=>rhs;rw[<-List.map_id (g6 k)]
   refine Ri λj _=>?_
   simp
  .rw[if_neg h0]
   have:k=0:=by lia
   subst this
   rfl
 unfold g8
 rw[ei,a3s]
 by_cases q:k=x.length
 .rw[if_pos (by simp[q]),xn (by rw[jH];lia)]
 .rw[if_neg (by simp[q])]
  refine a3t λj=>?_
  rw[a3u]
  have:∀m,m<=x.length->(g6 m).filterMap (x.cps[·]?)=x.cps.toList.take m:=λm=>by
   induction m with
   | zero=>intro _;rfl
   | succ m ih =>
     intro hm
     have dt:m<x.cps.toList.length:=by rw[jH];lia
     rw[s_,Ry,ih (by lia),Rz]
     congr 1
     have:x.cps[m]? = x.cps.toList[m]?:=by simp
     simp[this,gE dt]
  show((g6 k).filterMap (x.cps[·]?))[j]? = _
  rw[this k h,a3u]
def Gd(x:Str){k:Nat}(h:k<=x.length):(g8 x (some (k:Int)) none).cps.toList=x.cps.toList.drop k:=by
 have ei:JO (some (k:Int)) none 1 x.length=(g6 (x.length-k)).map (k+·):=by
  unfold JO sliceRange
  have h1:¬(k:Int)<0:=by lia
  have h2:max 0 (min (k:Int) (x.length:Int))=(k:Int):=by lia
  simp only[show(1:Int)>0 by decide,if_true,if_neg h1,h2]
  by_cases h0:(k:Int)<(x.length:Int)
  .rw[if_pos h0]
   have:(((x.length:Int)-k+1-1)/1).toNat=x.length-k:=by lia
   rw[this]
   refine Ri λj _=>?_
   lia
  .rw[if_neg h0]
   have:x.length-k=0:=by lia
   rw[this]
   rfl
 unfold g8
 rw[ei,aZ,a3s]
 by_cases q:k=0
 .subst q
  rw[if_pos (by simp)];rfl
 .by_cases q2:x.length-k=x.length
  .have:x.length=0:=by lia
   lia
  .rw[if_neg (by simp[q2])]
   show((g6 (x.length-k)).map (k+·)).filterMap (x.cps[·]?)=_
   have:∀m,m<=x.length-k->((g6 m).map (k+·)).filterMap (x.cps[·]?)=(x.cps.toList.drop k).take m:=λm=>by
    induction m with
    | zero=>intro _;rfl
    | succ m ih =>
      intro hm
      have dt:k+m<x.cps.toList.length:=by rw[jH];lia
      rw[s_,iK,Ry,ih (by lia),Rz]
      congr 1
      have:x.cps[k+m]? = x.cps.toList[k+m]?:=by simp
      simp[this,gE dt]
   rw[this _ (a9 _),xn (by rw[gR,jH];lia)]
def W9{x:Str}{a b:Nat}{l r:List Nat}(h:x.cps.toList=a::l)(h2:x.cps.toList.reverse=b::r)(ha:Aj a=false)(hb:Aj b=false):sY x=x:=by
 unfold sY Txt.stripBy stripSame
 have e1:stripLo Aj true x=0:=by
  unfold stripLo
  rw[h]
  simp[ha]
 rw[e1]
 have e2:stripHi Aj true x 0=x.length:=by
  unfold stripHi
  rw[Du,h2]
  simp[hb]
 rw[e2]
 simp
def Nd{c:Nat}:∀{xs:List Str} {x:Str},x∈xs->x.length<=(gD (one c) xs).length
 | [y],x,h=>by rw[List.mem_singleton.mp h];exact a9 _
 | y::z::r,x,h=>by
   have e:=lJ c y z r
   have l:=congrArg rB e
   rw[aY,a3,jH,jH,jH] at l
   rcases List.mem_cons.mp h with rfl | h
   .lia
   .have:=Nd (c:=c) (xs:=z::r) h
    lia
def vS{T x:Str}{c:Nat}{rs:List Str}(hs:bW T (one c)=rs)(hx:x∈rs):x.length<=T.length:=by
 have:=sZ T (one c)
 rw[hs] at this
 rw[<-this]
 exact Nd hx
def B4{row first:Str}{ws:List Str}(hf:aR first=true)(hs:bW row " "=first::ws)(hl:row.length<=100000):jn [.str row,.str first] = .ok (ws.map D.str):=by
 refine Lx rfl ?_
 delta yv
 refine gp (ds:=(first::ws).map D.str) (tV rfl hl (by trivial) hs) ?_
 refine dz (fy (aW (a:=.str first) (b:=.str first) (aW (a:=.lst ((first::ws).map D.str)) (b:=.int 0) rfl rfl (by simp only[gz,aI,vj])) rfl ?_)) ?_
 .rw[tQ hf hf,decide_eq_true rfl];rfl
 .refine Vg ?_
  have e:eD ((first::ws).map D.str) (some ((1:Nat):Int)) none=ws.map D.str:=by rw[rZ];rfl
  show A6 (.lst ((first::ws).map D.str)) (some ((1:Nat):Int)) none=_
  show R.guard _ _=_
  rw[e,a4 (iE ws)]
def Ge{row first w:Str}{ws:List Str}{Q:List Str->Prop}(hf:aR first=true)(hw:aR w=true)(hs:bW row " "=w::ws)(hl:row.length<=100000)(h:w≠first∨Q ws):jn [.str row,.str first] = .er .aQ∨∃ws:List Str,jn [.str row,.str first] = .ok (ws.map D.str)/\Q ws:=by
 by_cases e:w=first
 .subst e
  exact .inr ⟨ws,B4 hf hs hl,h.resolve_left λz=>z rfl⟩
 .exact .inl (WQ hf hw hl hs e)
def sA:aR "prime"=true:=by trivial
def tY:aR "boxes"=true:=by trivial
def vT:aR "do"=true:=by trivial
def vU{T:Str}{rs:List Str}(h:bW T "\n"=rs):bW T (one 10)=rs:=by rw[<-sr];exact h
section
variable {T t1 t2 t3 w:Str}{ws:List Str}{P:Int}
def vV(hl:T.length<=100000)(hs:bW T "\n"=[t1,t2,t3])(h1:bW t1 " "=w::ws)(hw:aR w=true)(h:w≠"prime"∨j6 [.lst (ws.map D.str)] = .er .aQ):oE [.str T] = .er .aQ:=by
 have l1:t1.length<=T.length:=vS (vU hs) (by simp)
 exact WS hl hs (Ge (Q:=λws=>j6 [.lst (ws.map D.str)] = .er .aQ) sA hw h1 (by lia) h)
def vW(hl:T.length<=100000)(hs:bW T "\n"=[t1,t2,t3])(p1:3<=P)(p2:P<=9973)(hd:hV P=false)(h1:bW t1 " "=[("prime":Str),aH P])(h2:bW t2 " "=w::ws)(hw:aR w=true)(h:w≠"boxes"∨mE [.lst (ws.map D.str)] = .er .aQ):oE [.str T] = .er .aQ:=by
 have l1:t1.length<=T.length:=vS (vU hs) (by simp)
 have l2:t2.length<=T.length:=vS (vU hs) (by simp)
 exact WT hl hs (B4 sA h1 (by lia)) (MD p1 p2 hd) (Ge (Q:=λws=>mE [.lst (ws.map D.str)] = .er .aQ) tY hw h2 (by lia) h)
def vX{ns:List Str}(hl:T.length<=100000)(hs:bW T "\n"=[t1,t2,t3])(p1:3<=P)(p2:P<=9973)(hd:hV P=false)(N:gr ns)(h1:bW t1 " "=[("prime":Str),aH P])(h2:bW t2 " "=("boxes":Str)::ns)(h3:bW t3 " "=w::ws)(hw:aR w=true)(h:w≠"do"∨iD [.int P,a6 false ns,.lst (ws.map D.str)] = .er .aQ):oE [.str T] = .er .aQ:=by
 have l1:t1.length<=T.length:=vS (vU hs) (by simp)
 have l2:t2.length<=T.length:=vS (vU hs) (by simp)
 have l3:t3.length<=T.length:=vS (vU hs) (by simp)
 exact WU hl hs (B4 sA h1 (by lia)) (MD p1 p2 hd) (B4 tY h2 (by lia)) (Wj N) (Ge (Q:=λws=>iD [.int P,a6 false ns,.lst (ws.map D.str)] = .er .aQ) vT hw h3 (by lia) h)
end
def yI{ws:List Str}(hw:Wd ws)(hb:∃w∈ws,qL w=false):mE [.lst (ws.map D.str)] = .er .aQ:=by
 by_cases h3:3<ws.length
 .exact FY h3
 .have h1:1<=ws.length:=by
   obtain⟨w,h,_⟩:=hb
   exact List.length_pos_of_mem h
  by_cases nd:ws.Nodup
  .exact WZ h1 (by lia) nd hw hb
  .exact M1 h1 (by lia) nd
def Nf{w S:Str}{m:Int}{c:Nat}(h:c∈w.cps.toList)(hc:c ∉ S.cps.toList):pJ w S m=false:=by
 cases q:pJ w S m with
 | false=>rfl
 | true =>
   have:=(FN.mp q).2.2 c h
   rw[MR,decide_eq_true_eq] at this
   exact absurd this hc
def W_{c:Nat}(h:¬(48<=c/\c<=57)):c ∉ ("0123456789":Str).cps.toList:=λz=>h ((by trivial:∀c∈("0123456789":Str).cps.toList,48<=c/\c<=57) c z)
def vY{w:Str}{c:Nat}(h:c∈w.cps.toList)(hc:¬(48<=c/\c<=57)):fF w=true:=by
 unfold fF
 rw[Nf h (W_ hc)];rfl
def Xa{w:Str}{c:Nat}(h:c∈w.cps.toList)(hc:¬(97<=c/\c<=122)):qL w=false:=by
 unfold qL
 rw[Nf h λz=>hc ((by trivial:∀c∈("abcdefghijklmnopqrstuvwxyz":Str).cps.toList,97<=c/\c<=122) c z)];rfl
def Xb{ns:List Str}(N:gr ns){w:Str}{c:Nat}(h:c∈w.cps.toList)(h1:¬(48<=c/\c<=57))(h2:¬(97<=c/\c<=122))(h3:c≠91/\c≠93):¬Good ns w:=by
 rintro(g | rfl | rfl | rfl | rfl | g)
 .exact h2 (N.lt w g c h)
 .exact h2 ((by trivial:∀c∈("set":Str).cps.toList,97<=c/\c<=122) c h)
 .exact h2 ((by trivial:∀c∈("again":Str).cps.toList,97<=c/\c<=122) c h)
 .exact h3.1 ((by trivial:∀c∈("[":Str).cps.toList,c=91) c h)
 .exact h3.2 ((by trivial:∀c∈("]":Str).cps.toList,c=93) c h)
 .rw[vY h h1] at g;cases g
def Ng{ns:List Str}(N:gr ns):¬Good ns "":=by
 rintro(g | g | g | g | g | g)
 .have:=(N.w1 _ g).1
  exact absurd this (by trivial)
 all_goals (revert g;trivial)
def B5{ns ws:List Str}{w:Str}(h:w∈ws)(g:¬Good ns w):¬iZ ns ws:=λf=>g (f.g w h)
def Xc{ns ws:List Str}(h:ws.length≠(ns.length+3)*cnt "set" ws+4*cnt "again" ws):¬iZ ns ws:=λf=>h f.l
def yJ{n:Int}(h0:0<=n)(h1:n<=10^30):fF (aH n)=false:=by
 cases q:fF (aH n) with
 | false=>rfl
 | true =>
   have e:=yE (oF h0) (by have:=qB h0 h1;lia) q
   rw[tR h0 h1] at e;cases e
mutual
def Item.Xd{P:Int}{ns:List Str}(N:gr ns)(hP:P<=9999):∀a:Item,a.ok P ns.length->iZ ns (Item.ws ns a)
 | .set x f,h=>by
   simp only[Item.ok] at h
   have hx:ns.getD x.toNat ""∈ns:=nu (by lia)
   have nz:=N.nk _ hx
   have nb:∀w∈f.map aH,fF w=false:=λw hw=>by
    obtain⟨v,hv,rfl⟩:=List.mem_map.mp hw
    have:=h.2.2.2 v hv
    exact yJ this.1 (by lia)
   refine⟨λw hw=>?_,?_⟩
   .rcases List.mem_cons.mp hw with rfl | hw
    .exact .inr (.inl rfl)
    .rcases List.mem_cons.mp hw with rfl | hw
     .exact .inl hx
     .exact .inr (.inr (.inr (.inr (.inr (nb w hw)))))
   .rw[Item.ws,dq,dq,dq,dq,tW λw h=>(qK (nb w h)).1,tW λw h=>(qK (nb w h)).2.1,if_pos rfl,if_neg nz.1,if_neg (by trivial),if_neg nz.2,a3,a3,aZ]
    have:=h.2.2.1
    lia
 | .again n xL,h=>by
   simp only[Item.ok] at h
   have fC:=Item.B6 N hP xL h.2.2
   have hb:=yJ h.1 h.2.1
   have nz:=qK hb
   refine⟨λw hw=>?_,?_⟩
   .simp only[Item.ws,gS,nW,iX,or_false] at hw
    rcases hw with rfl | rfl | rfl | hw | rfl
    .exact .inr (.inr (.inl rfl))
    .exact .inr (.inr (.inr (.inr (.inr hb))))
    .exact .inr (.inr (.inr (.inl rfl)))
    .exact fC.g w hw
    .exact .inr (.inr (.inr (.inr (.inl rfl))))
   .have s1:cnt "set" [("]":Str)]=0:=by trivial
    have s2:cnt "again" [("]":Str)]=0:=by trivial
    rw[Item.ws,dq,dq,dq,dq,dq,dq,lR,lR,s1,s2,if_neg (by trivial),if_neg nz.1,if_neg (by trivial),if_pos rfl,if_neg nz.2.1,if_neg (by trivial),a3,a3,a3,aY,fC.l]
    simp only[a3,iW,p9,Nat.add_zero]
    lia
def Item.B6{P:Int}{ns:List Str}(N:gr ns)(hP:P<=9999):∀xL:List Item,Item.cB P ns.length xL->iZ ns (Item.aE ns xL)
 | [],_=>iZ.nil
 | a::r,h=>by
   simp only[Item.cB] at h
   rw[Item.aE]
   exact(Item.Xd N hP a h.1).app (Item.B6 N hP r h.2)
end
def Xe{i:Nat}{t u v:G->R Fl}{O O' Γ2:G}{c:Er}{r:R Fl}(h:t O = .ok (.ex c O'))(hu:u (O'.set i (.ro (.exc c))) = .ok (.nx Γ2))(h2:v (Γ2.set i .no)=r):aC (yf i t u) v O=r:=by
 refine mB (O':=Γ2.set i .no) ?_ h2
 unfold yf
 rw[h]
 show(u (O'.set i (.ro (.exc c)))>>=_)=_
 rw[hu]
 rfl
def B7{T:Str}(h:oE [.str T] = .er .aQ):tO [.str T] = .ok (.bl true):=by
 refine dn rfl ?_
 unfold Me
 refine gp (ds:=[]) (by walk_at "a") ?_
 refine Xe (c:=.aQ) (O':=[En.ro (.str T),.own [],.no]) (Γ2:=[En.ro (.str T),.own [.bl true,.bl true,.bl false,.bl false,.bl false,.bl false,.bl false],.ro (.exc .aQ)]) (M4 (bM (ds:=[.str T]) rfl h)) ?_ ?_
 .show aC _ _ [En.ro (.str T),.own [],.ro (.exc .aQ)]=_
  refine gp (ds:=[.bl true,.bl true,.bl false,.bl false]) (by walk_at "a";try rfl) ?_
  show c8 _ _ [En.ro (.str T),.own [.bl true,.bl true,.bl false,.bl false],.ro (.exc .aQ)]=_
  refine(m_ (ds:=[.bl true,.bl true,.bl false,.bl false,.bl false,.bl false,.bl false]) (by walk_at "a";try rfl)).trans rfl
 .show bY _ [En.ro (.str T),.own [.bl true,.bl true,.bl false,.bl false,.bl false,.bl false,.bl false],.no]=_
  refine dF ?_
  walk_at "a"
  try rfl
section
variable {ns:List Str}{O:G}{g gk:G->R D}{j:Nat}
def Xf(hg:g O = .ok (a6 false ns))(hk:gk O = .ok (.int (j:Int))):eY g bU (bJ gk) O = .ok (a6 false (ns.take j)):=by
 simp only[eY,bU,bJ,hg,hk,R.bB,o_]
 show R.ok (D.tup (eD (ns.map D.str) none (some (j:Int))))=_
 rw[n9,r0]
 rfl
def Nh(hg:g O = .ok (a6 false ns))(hk:gk O = .ok (.int (j:Int))):eY g (bJ gk) bU O = .ok (a6 false (ns.drop j)):=by
 simp only[eY,bU,bJ,hg,hk,R.bB,o_]
 show R.ok (D.tup (eD (ns.map D.str) (some (j:Int)) none))=_
 rw[n9,rZ]
 rfl
end
def B8{g:G->R D}{O:G}{j:Nat}(h:g O = .ok (.int (j:Int))):af cu g (gC (.int 1)) O = .ok (.int ((j+1:Nat):Int)):=aW h rfl rfl
instance (w:Str):Decidable (b9 w):=by unfold b9;exact inferInstance
def Xg{ns:List Str}(N:gr ns)(cell:Int):∃ws:List Str,Bz [a6 false ns,.int cell] = .ok (.lst (ws.map D.str))/\(∀w∈ws,b9 w/\aR w=true)/\ws.length<=10/\mE [.lst (ws.map D.str)] = .er .aQ:=by
 have l1:=N.l1
 have l3:=N.l3
 obtain⟨j,hj,ej⟩:∃j:Nat,j<ns.length/\cell/7%(ns.length:Int)=(j:Int):=by
  have h1:=mM (cell/7) (show(ns.length:Int)≠0 by lia)
  have h2:=mO (cell/7) (show(0:Int)<ns.length by lia)
  exact⟨(cell/7%(ns.length:Int)).toNat,by lia,by lia⟩
 have pn:∀w∈ns,b9 w/\aR w=true:=λw h=>⟨BI N h,N.ok w h⟩
 have wd:∀{ws:List Str},(∀w∈ws,b9 w/\aR w=true)->Wd ws:=λh w hw=>⟨(h w hw).2,by have:=(h w hw).1.1;lia⟩
 let S:List Str:=["set","again","A","a1","abcdefghi"]
 have hS:∀w∈S,qL w=false/\b9 w/\aR w=true:=by trivial
 obtain⟨r,hr,er⟩:∃r:Nat,r<7/\cell%7=(r:Int):=⟨(cell%7).toNat,by lia,by lia⟩
 let O:G:=[En.ro (a6 false ns),.ro (.int cell),.ro (.int (j:Int)),.own (S.map D.str)]
 have m7:af a_ (gV 1) (gC (.int 7)) O = .ok (.int (r:Int)):=aW (a:=.int cell) (b:=.int 7) rfl rfl (by walk_at "a";rw[er])
 have start:∀(ws:List Str) (u:G->R Fl),u O = .ok (.rt (.lst (ws.map D.str)))->aC (bF 2 (aB (af a_ (af dw (gV 1) (gC (.int 7))) (az bX (ae (gV 0) ak))))) (aC (c8 3 (bN (ae (gC (.str "set")) (ae (gC (.str "again")) (ae (gC (.str "A")) (ae (gC (.str "a1")) (ae (gC (.str "abcdefghi")) ak))))))) u) (eE 4 [a6 false ns,.int cell]) = .ok (.rt (.lst (ws.map D.str))):=λws u h=>by
  refine c9 (d:=.int (j:Int)) (da (aW (a:=.int (cell/7)) (b:=.int (ns.length:Int)) (aW (a:=.int cell) (b:=.int 7) rfl rfl (by walk_at "a")) (bM (ds:=[a6 false ns]) rfl (by show bX [.tup (ns.map D.str)]=_;simp only[bX,aZ])) ?_) rfl) (gp (ds:=S.map D.str) (fx (ws:=S) rfl (by decide)) h)
  rw[<-ej]
  walk_at "a"
 have c6:gT (af bI (af a_ (gV 1) (gC (.int 7))) (gC (.int 6))) O = .ok (decide (r=6)):=fy (aW m7 rfl (by walk_at "a";congr 2;by_cases q:r=6<;>simp[q]<;>lia))
 have c5:gT (af bI (af a_ (gV 1) (gC (.int 7))) (gC (.int 5))) O = .ok (decide (r=5)):=fy (aW m7 rfl (by walk_at "a";congr 2;by_cases q:r=5<;>simp[q]<;>lia))
 have v0:gV 0 O = .ok (a6 false ns):=rfl
 have v2:gV 2 O = .ok (.int (j:Int)):=rfl
 have lt:=yB (Xf v0 v2)
 by_cases h6:r=6
 .rw[decide_eq_true h6] at c6
  obtain⟨q,hq,eq⟩:∃q:Nat,q<3/\cell/7%3=(q:Int):=⟨(cell/7%3).toNat,by lia,by lia⟩
  have ln:=yB (l:=false) v0
  have a0:=j7 ln (fx (ws:=[("":Str)]) (O:=O) (gs:=ae (gC (.str "")) ak) rfl (by decide)) (by simp;lia)
  have s4:jE (gL (bN (ae (gC (.str "xa")) (ae (gC (.str "xb")) (ae (gC (.str "xc")) (ae (gC (.str "xd")) ak)))))) bU (bJ (af mW (gC (.int 4)) (az bX (ae (gV 0) ak)))) O = .ok (((["xa","xb","xc","xd"]:List Str).take (4-ns.length)).map D.str):=by
   have e1:gL (bN (ae (gC (.str "xa")) (ae (gC (.str "xb")) (ae (gC (.str "xc")) (ae (gC (.str "xd")) ak))))) O = .ok (.lst ((["xa","xb","xc","xd"]:List Str).map D.str)):=bH (fx (ws:=["xa","xb","xc","xd"]) rfl (by decide))
   have e2:af mW (gC (.int 4)) (az bX (ae (gV 0) ak)) O = .ok (.int ((4-ns.length:Nat):Int)):=by
    refine aW (a:=.int 4) (b:=.int (ns.length:Int)) rfl (bM (ds:=[a6 false ns]) rfl (by show bX [.tup (ns.map D.str)]=_;simp only[bX,aZ])) ?_
    walk_at "a"
    congr 2
    lia
   simp only[jE,bU,bJ,e1,e2,R.bB,o_]
   show R.guard _ _=_
   rw[n9,r0,a4 (iE _)]
  have a2:=j7 ln s4 (by rw[dW];simp;lia)
  have d3:x5 (ae (gL (f_ (ji (gV 0)) (bN (ae (gC (.str "")) ak)))) (ae (gL (bN ak)) (ae (gL (f_ (ji (gV 0)) (jE (gL (bN (ae (gC (.str "xa")) (ae (gC (.str "xb")) (ae (gC (.str "xc")) (ae (gC (.str "xd")) ak)))))) bU (bJ (af mW (gC (.int 4)) (az bX (ae (gV 0) ak))))))) ak))) O = .ok (.lst [.lst ((ns++[("":Str)]).map D.str),.lst (([]:List Str).map D.str),.lst ((ns++(["xa","xb","xc","xd"]:List Str).take (4-ns.length)).map D.str)]):=by
   unfold x5
   rw[aJ (bH a0) (aJ (bH (fx (ws:=[]) rfl (by decide))) (aJ (bH a2) rfl)),R.bB,a4 (by simp)]
  have m3:af a_ (af dw (gV 1) (gC (.int 7))) (gC (.int 3)) O = .ok (.int (q:Int)):=aW (a:=.int (cell/7)) (b:=.int 3) (aW (a:=.int cell) (b:=.int 7) rfl rfl (by walk_at "a")) rfl (by walk_at "a";rw[eq])
  have go:∀ws:List Str,aI (.lst [.lst ((ns++[("":Str)]).map D.str),.lst (([]:List Str).map D.str),.lst ((ns++(["xa","xb","xc","xd"]:List Str).take (4-ns.length)).map D.str)]) (.int (q:Int)) = .ok (.lst (ws.map D.str))->Bz [a6 false ns,.int cell] = .ok (.lst (ws.map D.str)):=λws h=>by
   refine dn rfl ?_
   delta By
   exact start ws _ (vr (fi c6 (dF (aW d3 m3 h))))
  have Xh:q=0∨q=1∨q=2:=by lia
  rcases Xh with rfl | rfl | rfl
  .refine⟨ns++[("":Str)],go _ rfl,λw hw=>?_,by simp;lia,?_⟩
   .rcases List.mem_append.mp hw with hw | hw
    .exact pn w hw
    .rw[List.mem_singleton.mp hw];trivial
   .refine yI (wd λw hw=>?_) ⟨"",by simp,by trivial⟩
    rcases List.mem_append.mp hw with hw | hw
    .exact pn w hw
    .rw[List.mem_singleton.mp hw];trivial
  .exact⟨[],go _ rfl,(λw hw=>nomatch hw),by simp,WX⟩
  .refine⟨_,go (ns++(["xa","xb","xc","xd"]:List Str).take (4-ns.length)) rfl,λw hw=>?_,by rw[aY,dW];simp;lia,FY (by rw[aY,dW];simp;lia)⟩
   rcases List.mem_append.mp hw with hw | hw
   .exact pn w hw
   .have:=me hw
    have hx:∀w∈(["xa","xb","xc","xd"]:List Str),b9 w/\aR w=true:=by trivial
    exact hx w this
 .rw[decide_eq_false h6] at c6
  by_cases h5:r=5
  .rw[decide_eq_true h5] at c5
   have a1:=j7 lt (fx (ws:=[ns.getD j ""]) (O:=O) (gs:=ae (af aI (gV 0) (gV 2)) ak) (aJ (aW v0 v2 (BH hj false)) rfl) (by simp)) (by rw[dW];simp;lia)
   have a2:=j7 a1 (yB (Nh v0 v2)) (by rw[aY,dW,gR];simp;lia)
   have hm:ns.getD j ""∈ns:=nu hj
   refine⟨ns.take j++[ns.getD j ""]++ns.drop j,?_,λw hw=>pn w ?_,?_,?_⟩
   .refine dn rfl ?_
    delta By
    exact start _ _ (dz c6 (vr (fi c5 (dF (bH a2)))))
   .rcases List.mem_append.mp hw with hw | hw
    .rcases List.mem_append.mp hw with hw | hw
     .exact me hw
     .rw[List.mem_singleton.mp hw];exact hm
    .exact mP hw
   .rw[aY,aY,dW,gR];simp;lia
   .have hl:(ns.take j++[ns.getD j ""]++ns.drop j).length=ns.length+1:=by rw[aY,aY,dW,gR];simp;lia
    by_cases q:ns.length=3
    .exact FY (by rw[hl];lia)
    .refine M1 (by rw[hl];lia) (by rw[hl];lia) λnd=>?_
     rw[jQ] at nd
     have:=(List.nodup_append.mp nd).2.1
     rw[List.singleton_append,List.nodup_cons] at this
     refine this.1 ?_
     have e:ns.getD j ""=ns[j]:=by simp[uQ,hj]
     rw[e,JP hj]
     exact fI
  .rw[decide_eq_false h5] at c5
   have Xi:r<5:=by lia
   have e5:af aI (gV 3) (af a_ (gV 1) (gC (.int 7))) O = .ok (.str (S.getD r "")):=by
    refine aW (a:=.lst (S.map D.str)) rfl m7 ?_
    have:r=0∨r=1∨r=2∨r=3∨r=4:=by lia
    rcases this with rfl | rfl | rfl | rfl | rfl<;>rfl
   have Xj:S.getD r ""∈S:=nu (ns:=S) (by simpa [S] using Xi)
   have bs:=hS _ Xj
   have a1:=j7 lt (fx (ws:=[S.getD r ""]) (O:=O) (gs:=ae (af aI (gV 3) (af a_ (gV 1) (gC (.int 7)))) ak) (aJ e5 rfl) (by simp)) (by rw[dW];simp;lia)
   have a2:=j7 a1 (yB (Nh v0 (B8 v2))) (by rw[aY,dW,gR];simp;lia)
   have pw:∀w∈ns.take j++[S.getD r ""]++ns.drop (j+1),b9 w/\aR w=true:=λw hw=>by
    rcases List.mem_append.mp hw with hw | hw
    .rcases List.mem_append.mp hw with hw | hw
     .exact pn w (me hw)
     .rw[List.mem_singleton.mp hw];exact bs.2
    .exact pn w (mP hw)
   refine⟨_,?_,pw,?_,yI (wd pw) ⟨S.getD r "",by simp,bs.1⟩⟩
   .refine dn rfl ?_
    delta By
    exact start _ _ (dz c6 (dz c5 (dF (bH a2))))
   .rw[aY,aY,dW,gR];simp;lia
def Ni{W:List Str}(hw:W.length<=4)(h:∀w∈W,w.length<=13000):oZ "\n" W=true:=by
 unfold oZ
 rw[sr]
 have h3:(one 10).length=1:=rfl
 rw[Rp (B:=13000) h (by rw[h3];lia)];rfl
def B9{W:List Str}(hw:W.length<=4)(h:∀w∈W,w.length<=13000):(ir "\n" W).length<=100000:=by
 have e:ir "\n" W=gD (one 10) W:=by rw[sr];exact Dx _ _
 rw[e]
 have h1:=Ro (one 10) W
 have h2:=BK (B:=13000) W h
 have h3:(one 10).length=1:=rfl
 rw[h3] at h1
 lia
def vZ{W:List Str}(h0:W≠[])(h:∀w∈W,10 ∉ w.cps.toList):bW (ir "\n" W) "\n"=W:=by
 rw[sr]
 exact Bm 10 h0 h
def Xk{t1 t2 t3 a b:Str}{k:Nat}(hk:k<3):∃W:List Str,W.length=4/\(∀w∈W,w=a∨w=b∨w=t1∨w=t2∨w=t3)/\ir "\n" ([t1,t2,t3].set k (a++"\n"++b))=ir "\n" W:=by
 have e:∀W,ir "\n" W=gD (one 10) W:=λW=>by rw[sr];exact Dx _ _
 have l1:("\n":Str).cps.toList=[10]:=by trivial
 have:k=0∨k=1∨k=2:=by lia
 rcases this with rfl | rfl | rfl
 .refine⟨[a,b,t2,t3],rfl,by simp,?_⟩
  rw[e,e]
  refine oH ?_
  show(gD (one 10) [a++"\n"++b,t2,t3]).cps.toList=_
  simp only[lJ,fG,l1,jQ,fT,l_]
 .refine⟨[t1,a,b,t3],rfl,by simp,?_⟩
  rw[e,e]
  refine oH ?_
  show(gD (one 10) [t1,a++"\n"++b,t3]).cps.toList=_
  simp only[lJ,fG,l1,jQ,fT,l_]
 .refine⟨[t1,t2,a,b],rfl,by simp,?_⟩
  rw[e,e]
  refine oH ?_
  show(gD (one 10) [t1,t2,a++"\n"++b]).cps.toList=_
  have j1:∀x,gD (one 10) [x]=x:=λ_=>rfl
  simp only[lJ,j1,fG,l1,jQ,fT,l_]
def Xl{row:Str}{O:G}{i:Nat}(hn:row.length<=13000)(hc:row.cps.toList.countP (λc=>decide (c=32))<=900)(ho:aR row=true)(hv:lk O i = .ok (.str row)):∃L:List D,f_ (fh (lE (az y1l (ae (gV i) ak))) (j0 (gT (af bI (af dIxS (gV (i+1)) (gV 0)) (gC (.str " ")))) (aB (gV 0)))) (bN (ae (az y1l (ae (gV i) ak)) ak)) O = .ok L/\L≠[]/\∀d∈L,∃p:Nat,d = .int (p:Int)/\p<=row.length/\(p=row.length∨row.cps.toList[p]? = some 32):=by
 have el:az y1l (ae (gV i) ak) O = .ok (.int (row.length:Int)):=by
  refine bM (ds:=[.str row]) (aJ hv rfl) ?_
  show R.guard _ _=_
  rw[a4 (by lia)]
 have er:lE (az y1l (ae (gV i) ak)) O = .ok (fL 0 row.length):=by
  simp only[lE,el,R.bB]
  walk_at "a"
  try rfl
 let h:D->Option D:=λd=>match d with
  | .int p=>if row.cps.toList[p.toNat]? = some 32 then some d else none
  | _=>none
 have ec:fg (λd=>j0 (gT (af bI (af dIxS (gV (i+1)) (gV 0)) (gC (.str " ")))) (aB (gV 0)) d O) (fL 0 row.length) [] = .ok ([]++(fL 0 row.length).filterMap h):=by
  refine EC _ _ λd hd=>?_
  obtain⟨p,hp⟩:=a3v hd
  obtain⟨dt,rfl⟩:=BO hp
  rw[DA]
  have v8:p<row.cps.toList.length:=by rw[jH];exact dt
  have ei:dIxS (.str row) (.int (p:Int)) = .ok (.str ⟨#[row.cps.toList[p]]⟩):=by
   show R.guard _ _=_
   rw[a4 (by lia),qr (by lia),iq,gE v8]
  have kc:aR ⟨#[row.cps.toList[p]]⟩=true:=by
   unfold aR at ho ⊢
   rw[<-uP,nV] at ho ⊢
   intro z hz
   have:z=row.cps.toList[p]:=by simpa using hz
   rw[this]
   exact ho _ (Ag v8)
  have q:gT (af bI (af dIxS (gV (i+1)) (gV 0)) (gC (.str " "))) (En.ro (.int (p:Int))::O) = .ok (decide ((⟨#[row.cps.toList[p]]⟩:Str)=" ")):=fy (aW (aW (show gV (i+1) (En.ro (.int (p:Int))::O)=_ from hv) rfl ei) rfl (nq kc (by trivial)))
  have hh:h (.int (p:Int))=if row.cps.toList[p]=32 then some (.int (p:Int)) else none:=by
   show(if row.cps.toList[(p:Int).toNat]? = some 32 then some (D.int (p:Int)) else none)=_
   rw[iq,gE v8]
   simp only[xq]
  rw[hh]
  unfold j0
  rw[q]
  by_cases c:row.cps.toList[p]=32
  .rw[if_pos c,c,decide_eq_true (by trivial),R.bB,if_pos rfl,da (d:=.int (p:Int)) rfl rfl]
   rfl
  .rw[if_neg c,decide_eq_false]
   .rfl
   .intro z
    have:=congrArg (λs:Str=>s.cps.toList) z
    rw[show(" ":Str).cps.toList=[32] by trivial] at this
    exact c (by simpa using this)
 have e1:fh (lE (az y1l (ae (gV i) ak))) (j0 (gT (af bI (af dIxS (gV (i+1)) (gV 0)) (gC (.str " ")))) (aB (gV 0))) O = .ok ((fL 0 row.length).filterMap h):=by
  unfold fh
  rw[er]
  show R.guard _ _=_
  rw[a4 (by rw[qv];lia),ec]
  rfl
 have e2:bN (ae (az y1l (ae (gV i) ak)) ak) O = .ok [.int (row.length:Int)]:=by
  unfold bN
  rw[aJ el rfl,R.bB,a4 (by simp[D.bQ,D.cy])]
 have hlen:∀n,n<=row.length->((fL 0 n).filterMap h).length=(row.cps.toList.take n).countP λc=>decide (c=32):=λn=>by
  induction n with
  | zero=>intro _;rfl
  | succ n ih =>
    intro g_
    have v8:n<row.cps.toList.length:=by rw[jH];lia
    have e1:fL 0 (n+1)=fL 0 n++[.int (0+(n:Int))]:=by unfold fL;rw[s_,iK];rfl
    rw[e1,Ry,aY,ih (by lia),Rz,Rw,gE v8]
    congr 1
    show([D.int (0+(n:Int))].filterMap h).length=[row.cps.toList[n]].countP _
    have hh:h (.int (0+(n:Int)))=if row.cps.toList[n]=32 then some (.int (0+(n:Int))) else none:=by
     show(if row.cps.toList[(0+(n:Int)).toNat]? = some 32 then some (D.int (0+(n:Int))) else none)=_
     rw[show(0+(n:Int)).toNat=n by lia,gE v8]
     simp only[xq]
    by_cases c:row.cps.toList[n]=32
    .rw[rn,hh,if_pos c,c];rfl
    .rw[rn,hh,if_neg c,Rx,decide_eq_false c];rfl
 have AQ:=hlen row.length (a9 _)
 rw[xn (by rw[jH];exact a9 _)] at AQ
 refine⟨(fL 0 row.length).filterMap h++[.int (row.length:Int)],?_,by simp,λd hd=>?_⟩
 .unfold f_
  rw[e1,R.bB,e2,R.bB,a4 (by rw[AQ,Dp];lia)]
 .rcases List.mem_append.mp hd with hd | hd
  .obtain⟨x,hx,e⟩:=List.mem_filterMap.mp hd
   obtain⟨p,hp⟩:=a3v hx
   obtain⟨dt,rfl⟩:=BO hp
   rw[DA] at e
   have e':(if row.cps.toList[(p:Int).toNat]? = some 32 then some (D.int (p:Int)) else none)=some d:=e
   rw[iq] at e'
   by_cases q:row.cps.toList[p]? = some 32
   .rw[if_pos q] at e'
    exact⟨p,(l9 e').symm,by lia,.inr q⟩
   .rw[if_neg q] at e';cases e'
  .exact⟨row.length,List.mem_singleton.mp hd,a9 _,.inl rfl⟩
def Nj:∀{ws:List Str},(∀w∈ws,b9 w)->(gD (one 32) ws).cps.toList.countP (λc=>decide (c=32))<=ws.length
 | [],_=>by decide
 | [x],h=>by
   have:x.cps.toList.countP (λc=>decide (c=32))=0:=List.countP_eq_zero.mpr λc hc=>by simp[((h x (by simp)).2 c hc).1]
   show x.cps.toList.countP (λc=>decide (c=32))<=1
   lia
 | x::y::r,h=>by
   have:x.cps.toList.countP (λc=>decide (c=32))=0:=List.countP_eq_zero.mpr λc hc=>by simp[((h x (by simp)).2 c hc).1]
   have ih:=Nj (ws:=y::r) λw hw=>h w (eU _ hw)
   rw[lJ,Rw,this,Rx,if_pos (by decide)]
   simp only[a3] at ih ⊢
   lia
def Xm(row:Str){p:Nat}(hp:p<=row.length)(h:p=row.length∨row.cps.toList[p]? = some 32):row=g8 row none (some (p:Int))++g8 row (some (p:Int)) none/\(g8 row (some (p:Int)) none=""∨∃b',g8 row (some (p:Int)) none=" "++b'):=by
 have e1:=Gb row hp
 have e2:=Gd row hp
 refine⟨oH (by rw[fG,e1,e2,Af]),?_⟩
 rcases h with h | h
 .refine .inl (oH ?_)
  rw[e2,h,<-jH,JJ,show("":Str).cps.toList=[] by trivial]
 .obtain⟨dt,he⟩:=List.getElem?_eq_some_iff.mp h
  refine .inr ⟨⟨(row.cps.toList.drop (p+1)).toArray⟩,oH ?_⟩
  rw[e2,JP dt,he,fG,show(" ":Str).cps.toList=[32] by trivial]
  rfl
def Xn{n k:Nat}(h:k<n):jC n (k:Int)=some k:=by
 unfold jC
 rw[if_pos (by lia),if_pos (by lia),iq]
section
variable {T t1 t2 t3:Str}
structure Nk (R:List Str):Prop where
 len:∀t∈R,t.length<=12800
 ok:∀t∈R,aR t=true
 nl:∀t∈R,10 ∉ t.cps.toList
 bl:∀t∈R,t.cps.toList.countP (λc=>decide (c=32))<=900
 hd:∀t∈R,∃c r,t.cps.toList=c::r/\(c=112∨c=98∨c=100)
def Gf(t1 t2 t3 T':Str):Prop:=(∃rs:List Str,rs.length≠3/\bW T' "\n"=rs) ∨
 ∃(k:Nat) (ny:Str),k<3/\bW T' "\n"=[t1,t2,t3].set k ny/\((∃a b,[t1,t2,t3].getD k ""=a++b/\(b=""∨∃b',b=" "++b')/\(ny=a++"~"++b∨ny=a++" "++b))∨∃c r,([t1,t2,t3].getD k "").cps.toList=c::r/\ny.cps.toList=(c-32)::r)
def Xo{c:Nat}(h:c=112∨c=98∨c=100):xo ⟨#[c]⟩=⟨#[c-32]⟩:=by
 rcases h with rfl | rfl | rfl<;>trivial
def Xp(hT:bW T "\n"=[t1,t2,t3])(hl:T.length<=100000)(H:Nk [t1,t2,t3])(cell:Int) :
 ∃T',vF [.str T,.int cell] = .ok (.str T')/\T'.length<=100000/\Gf t1 t2 t3 T':=by
 obtain⟨r,hr,er⟩:∃r:Nat,r<7/\cell%7=(r:Int):=⟨(cell%7).toNat,by lia,by lia⟩
 obtain⟨k,hk,ek⟩:∃k:Nat,k<3/\cell/7%3=(k:Int):=⟨(cell/7%3).toNat,by lia,by lia⟩
 have hm:[t1,t2,t3].getD k ""∈[t1,t2,t3]:=nu (ns:=[t1,t2,t3]) (by simpa using hk)
 have ex:aI (.lst ([t1,t2,t3].map D.str)) (.int (k:Int)) = .ok (.str ([t1,t2,t3].getD k "")):=by
  have:k=0∨k=1∨k=2:=by lia
  rcases this with rfl | rfl | rfl<;>rfl
 have Nl:jC ([t1,t2,t3].map D.str).length (k:Int)=some k:=Xn (by simpa using hk)
 have hlen:=H.len _ hm
 have aU:=H.ok _ hm
 have tZ:=H.nl _ hm
 generalize Gg:[t1,t2,t3].getD k ""=row at *
 have m7:∀O:G,af a_ (gV 1) (gC (.int 7)) (En.ro (.str T) :: .ro (.int cell)::O) = .ok (.int (r:Int)):=λO=>aW (a:=.int cell) (b:=.int 7) rfl rfl (by walk_at "a";rw[er])
 have ci:∀(i:Nat) (O:G),gT (af bI (af a_ (gV 1) (gC (.int 7))) (gC (.int (i:Int)))) (En.ro (.str T) :: .ro (.int cell)::O) = .ok (decide (r=i)):=λi O=>fy (aW (m7 O) rfl (by walk_at "a";congr 2;by_cases q:r=i<;>simp[q]<;>lia))
 have c3:∀O:G,gT (af n8 (af a_ (gV 1) (gC (.int 7))) (gC (.int 3))) (En.ro (.str T) :: .ro (.int cell)::O) = .ok (decide (r<3)):=λO=>fy (aW (m7 O) rfl (by walk_at "a";congr 2;by_cases q:r<3<;>simp[q]<;>lia))
 have no:∀{i:Nat} {t u:G->R Fl} {O:G} {q:R Fl},r≠i->u (En.ro (.str T) :: .ro (.int cell)::O)=q->aC (bL (gT (af bI (af a_ (gV 1) (gC (.int 7))) (gC (.int (i:Int))))) t b8) u (En.ro (.str T) :: .ro (.int cell)::O)=q:=λ{i t u O q} h hu=>dz (by rw[ci,decide_eq_false h]) hu
 have fin:∀{W:List Str} (O:G),W.length<=4->(∀w∈W,w.length<=13000)->bY (kP "\n" (gV 3)) (En.ro (.str T) :: .ro (.int cell) :: .ro (.int (cell/7)) :: .own (W.map D.str)::O) = .ok (.rt (.str (ir "\n" W))):=λ{W} O h1 h2=>dF (qJ (Ni h1 h2) rfl)
 have start:∀(u:G->R Fl) (q:R Fl),u [En.ro (.str T),.ro (.int cell),.ro (.int (cell/7)),.own ([t1,t2,t3].map D.str),.ro (.int (k:Int)),.no,.no,.no]=q->aC (bF 2 (aB (af dw (gV 1) (gC (.int 7))))) (aC (c8 3 (oh "\n" (gV 0))) (aC (bF 4 (aB (af a_ (gV 2) (gC (.int 3))))) u)) (eE 8 [.str T,.int cell])=q:=λu q h=>by
  refine c9 (d:=.int (cell/7)) (da (aW (a:=.int cell) (b:=.int 7) rfl rfl (by walk_at "a")) rfl) (gp (ds:=[t1,t2,t3].map D.str) (tV rfl hl (by trivial) hT) (c9 (d:=.int (k:Int)) (da (aW (a:=.int (cell/7)) (b:=.int 3) rfl rfl (by walk_at "a";rw[ek])) rfl) h))
 have B_:∀w∈[t1,t2,t3],w.length<=13000:=λw h=>fS (H.len w h) (by decide)
 by_cases r3:r<3
 .obtain⟨L,eL,nL,hL⟩:=Xl (O:=[En.ro (.str T),.ro (.int cell),.ro (.int (cell/7)),.own ([t1,t2,t3].map D.str),.ro (.int (k:Int)),.ro (.str row),.no,.no]) (i:=5) (row:=row) (by lia) (H.bl _ hm) aU rfl
  have lp:0<L.length:=List.length_pos_iff.mpr nL
  obtain⟨q,hq,eq⟩:∃q:Nat,q<L.length/\cell/7/3%(L.length:Int)=(q:Int):=by
   have h1:=mM (cell/7/3) (show(L.length:Int)≠0 by lia)
   have h2:=mO (cell/7/3) (show(0:Int)<L.length by lia)
   exact⟨(cell/7/3%(L.length:Int)).toNat,by lia,by lia⟩
  obtain⟨p,ep,hp,hb⟩:=hL L[q] (Ag hq)
  obtain⟨e1,e2⟩:=Xm row hp hb
  have la:=JQ row none (some (p:Int))
  have lb:=JQ row (some (p:Int)) none
  have ca:∀c∈(g8 row none (some (p:Int))).cps.toList,c∈row.cps.toList:=λc hc=>by
   rw[Gb row hp] at hc
   exact me hc
  have cb:∀c∈(g8 row (some (p:Int)) none).cps.toList,c∈row.cps.toList:=λc hc=>by
   rw[Gd row hp] at hc
   exact mP hc
  generalize hA:g8 row none (some (p:Int))=a at *
  generalize hB:g8 row (some (p:Int)) none=b at *
  let S:List Str:=[" ","\n","~"]
  have hS:∀w∈S,w.length=1:=by trivial
  have Xq:S.getD r ""∈S:=nu (ns:=S) (by simpa [S] using r3)
  have ls:=hS _ Xq
  let O:G:=[En.ro (.str T),.ro (.int cell),.ro (.int (cell/7)),.own ([t1,t2,t3].map D.str),.ro (.int (k:Int)),.ro (.str row),.own L,.ro (.int (p:Int))]
  have es:af aI (gL (bN (ae (gC (.str " ")) (ae (gC (.str "\n")) (ae (gC (.str "~")) ak))))) (af a_ (gV 1) (gC (.int 7))) O = .ok (.str (S.getD r "")):=by
   refine aW (a:=.lst (S.map D.str)) (bH (fx (ws:=S) rfl (by decide))) (m7 _) ?_
   have:r=0∨r=1∨r=2:=by lia
   rcases this with rfl | rfl | rfl<;>rfl
  have ea:kx (gV 5) bU (bJ (gV 7)) O = .ok (.str a):=by
   show Bk (.str row) none (some (p:Int))=_
   show R.guard _ _=_
   rw[a4 (by lia),hA]
  have eb:kx (gV 5) (bJ (gV 7)) bU O = .ok (.str b):=by
   show Bk (.str row) (some (p:Int)) none=_
   show R.guard _ _=_
   rw[a4 (by lia),hB]
  have ev:aB (af z5z (af z5z (kx (gV 5) bU (bJ (gV 7))) (af aI (gL (bN (ae (gC (.str " ")) (ae (gC (.str "\n")) (ae (gC (.str "~")) ak))))) (af a_ (gV 1) (gC (.int 7))))) (kx (gV 5) (bJ (gV 7)) bU)) O = .ok (.str (a++S.getD r ""++b)):=by
   refine da (aW (a:=.str (a++S.getD r "")) (aW ea es ?_) eb ?_) rfl
   .show R.guard _ _=_
    rw[a4 (by lia)]
   .show R.guard _ _=_
    rw[a4 (by rw[kT];lia)]
  have eW:([t1,t2,t3].map D.str).set k (.str (a++S.getD r ""++b))=([t1,t2,t3].set k (a++S.getD r ""++b)).map D.str:=by rw[List.map_set]
  have lW:∀w∈[t1,t2,t3].set k (a++S.getD r ""++b),w.length<=13000:=λw hw=>by
   rcases JR hw with hw | rfl
   .exact B_ w hw
   .have:=congrArg kF e1
    rw[kT] at this
    rw[kT,kT];lia
  have res:vF [.str T,.int cell] = .ok (.str (ir "\n" ([t1,t2,t3].set k (a++S.getD r ""++b)))):=by
   refine dn rfl ?_
   delta vE
   refine start _ _ ?_
   refine yg (O':=[En.ro (.str T),.ro (.int cell),.ro (.int (cell/7)),.own (([t1,t2,t3].set k (a++S.getD r ""++b)).map D.str),.ro (.int (k:Int)),.ro (.str row),.own L,.ro (.int (p:Int))]) (by rw[c3,decide_eq_true r3]) ?_ ?_
   .refine c9 (d:=.str row) (da (aW (a:=.lst ([t1,t2,t3].map D.str)) rfl rfl ex) rfl) (gp (ds:=L) eL (c9 (d:=.int (p:Int)) (da (aW (a:=.lst L) (b:=.int (q:Int)) rfl ?_ ?_) rfl) ?_))
    .refine aW (a:=.int (cell/7/3)) (b:=.int (L.length:Int)) (aW (a:=.int (cell/7)) (b:=.int 3) rfl rfl (by walk_at "a")) (bM (ds:=[.lst L]) rfl rfl) ?_
     rw[<-eq]
     walk_at "a"
    .simp only[aI]
     rw[qr (by lia),iq,gE hq,ep]
    .rw[<-eW]
     exact Lu (n:=k) (j:=(k:Int)) rfl ev rfl Nl
   .exact no (i:=3) (by lia) (no (i:=4) (by lia) (no (i:=5) (by lia) (no (i:=6) (by lia) (fin _ (by simp) lW))))
  have h3:r=0∨r=1∨r=2:=by lia
  refine⟨_,res,B9 (by simp) lW,?_⟩
  have Nm:10 ∉ ("~":Str).cps.toList/\10 ∉ (" ":Str).cps.toList:=by trivial
  have Nn:∀s:Str,10 ∉ s.cps.toList->∀w∈[t1,t2,t3].set k (a++s++b),10 ∉ w.cps.toList:=λs hs w hw=>by
   rcases JR hw with hw | rfl
   .exact H.nl w hw
   .rw[fG,fG,nW,nW]
    rintro((z | z) | z)
    .exact tZ (ca _ z)
    .exact hs z
    .exact tZ (cb _ z)
  rcases h3 with rfl | rfl | rfl
  .refine .inr ⟨k,a++" "++b,hk,vZ (by simp) (Nn " " Nm.2),.inl ⟨a,b,by rw[Gg];exact e1,e2,.inr rfl⟩⟩
  .obtain⟨W,w4,wm,ew⟩:=Xk (t1:=t1) (t2:=t2) (t3:=t3) (a:=a) (b:=b) hk
   refine .inl ⟨W,by lia,?_⟩
   show bW (ir "\n" ([t1,t2,t3].set k (a++"\n"++b))) "\n"=W
   rw[ew]
   refine vZ (λz=>by rw[z] at w4;cases w4) λw hw=>?_
   rcases wm w hw with rfl | rfl | rfl | rfl | rfl
   .exact λz=>tZ (ca _ z)
   .exact λz=>tZ (cb _ z)
   .exact H.nl _ (by simp)
   .exact H.nl _ (by simp)
   .exact H.nl _ (by simp)
  .refine .inr ⟨k,a++"~"++b,hk,vZ (by simp) (Nn "~" Nm.1),.inl ⟨a,b,by rw[Gg];exact e1,e2,.inl rfl⟩⟩
 .have sk:∀{t u:G->R Fl} {O:G} {q:R Fl},u (En.ro (.str T) :: .ro (.int cell)::O)=q->aC (bL (gT (af n8 (af a_ (gV 1) (gC (.int 7))) (gC (.int 3)))) t b8) u (En.ro (.str T) :: .ro (.int cell)::O)=q:=λ{t u O q} hu=>dz (by rw[c3,decide_eq_false r3]) hu
  have yes:∀{i:Nat} {t u:G->R Fl} {O O':G} {q:R Fl},r=i->t (En.ro (.str T) :: .ro (.int cell)::O) = .ok (.nx O')->u O'=q->aC (bL (gT (af bI (af a_ (gV 1) (gC (.int 7))) (gC (.int (i:Int))))) t b8) u (En.ro (.str T) :: .ro (.int cell)::O)=q:=λ{i t u O O' q} h ht hu=>yg (by rw[ci,decide_eq_true h]) ht hu
  let O:G:=[En.ro (.str T),.ro (.int cell),.ro (.int (cell/7)),.own ([t1,t2,t3].map D.str),.ro (.int (k:Int)),.no,.no,.no]
  have f3:gV 3 O = .ok (.lst ([t1,t2,t3].map D.str)):=rfl
  have f4:gV 4 O = .ok (.int (k:Int)):=rfl
  have Np:∀{gk:G->R D} {j:Nat},gk O = .ok (.int (j:Int))->jE (gV 3) bU (bJ gk) O = .ok (([t1,t2,t3].take j).map D.str):=λ{gk j} h=>by
   simp only[jE,bU,bJ,f3,h,R.bB,o_]
   show R.guard _ _=_
   rw[n9,r0,a4 (iE _)]
  have Nq:∀{gk:G->R D} {j:Nat},gk O = .ok (.int (j:Int))->jE (gV 3) (bJ gk) bU O = .ok (([t1,t2,t3].drop j).map D.str):=λ{gk j} h=>by
   simp only[jE,bU,bJ,f3,h,R.bB,o_]
   show R.guard _ _=_
   rw[n9,rZ,a4 (iE _)]
  have rows:∀{W:List Str},W.length<=4->W≠[]->W.length≠3->(∀w∈W,w∈[t1,t2,t3]∨w="")->vF [.str T,.int cell] = .ok (.str (ir "\n" W))->∃T',vF [.str T,.int cell] = .ok (.str T')/\T'.length<=100000/\Gf t1 t2 t3 T':=λ{W} w4 w0 w3 wm e=>by
   have z0:("":Str).length=0/\10 ∉ ("":Str).cps.toList:=by trivial
   refine⟨_,e,B9 w4 λw hw=>?_,.inl ⟨W,w3,vZ w0 λw hw=>?_⟩⟩
   .rcases wm w hw with h | rfl
    .exact B_ w h
    .lia
   .rcases wm w hw with h | rfl
    .exact H.nl w h
    .exact z0.2
  have Gh:∀{W:List Str},(∀w∈W,w∈[t1,t2,t3]∨w="")->∀w∈W,w.length<=13000:=λ{W} wm w hw=>by
   rcases wm w hw with h | rfl
   .exact B_ w h
   .exact fS (show("":Str).length<=0 by trivial) (by decide)
  have h4:r=3∨r=4∨r=5∨r=6:=by lia
  rcases h4 with r3 | r4 | r5 | r6
  .have hw:∀w∈[t1,t2,t3].take k++[t1,t2,t3].drop (k+1),w∈[t1,t2,t3]∨w="":=λw hw=>.inl ((List.mem_append.mp hw).elim me mP)
   have qj:([t1,t2,t3].take k++[t1,t2,t3].drop (k+1)).length=2:=by rw[aY,dW,gR];simp;lia
   refine rows (by lia) (λz=>by rw[z] at qj;cases qj) (by lia) hw ?_
   refine dn rfl ?_
   delta vE
   refine start _ _ (sk (yes (i:=3) r3 (m_ (j7 (Np f4) (Nq (B8 f4)) (by rw[dW,gR];simp;lia))) ?_))
   exact no (i:=4) (by lia) (no (i:=5) (by lia) (no (i:=6) (by lia) (fin _ (by lia) (Gh hw))))
  .have hw:∀w∈[t1,t2,t3].take k++([t1,t2,t3].drop k).take 1++[t1,t2,t3].drop k,w∈[t1,t2,t3]∨w="":=λw hw=>.inl ((List.mem_append.mp hw).elim (λhw=>(List.mem_append.mp hw).elim me λz=>mP (me z)) mP)
   have qj:([t1,t2,t3].take k++([t1,t2,t3].drop k).take 1++[t1,t2,t3].drop k).length=4:=by rw[aY,aY,dW,dW,gR];simp;lia
   have mid:jE (gV 3) (bJ (gV 4)) (bJ (af cu (gV 4) (gC (.int 1)))) O = .ok ((([t1,t2,t3].drop k).take 1).map D.str):=by
    simp only[jE,bJ,f3,f4,B8 f4,R.bB,o_]
    show R.guard _ _=_
    rw[n9,UW _ _ _ (by simp;lia),Nat.add_sub_cancel_left,a4 (iE _)]
   refine rows (by lia) (λz=>by rw[z] at qj;cases qj) (by lia) hw ?_
   refine dn rfl ?_
   delta vE
   refine start _ _ (sk (no (i:=3) (by lia) (yes (i:=4) r4 (m_ (j7 (j7 (Np f4) mid (by rw[dW,dW,gR];simp;lia)) (Nq f4) (by rw[aY,dW,dW,gR];simp;lia))) ?_)))
   exact no (i:=5) (by lia) (no (i:=6) (by lia) (fin _ (by lia) (Gh hw)))
  .have hw:∀w∈[t1,t2,t3]++[("":Str)],w∈[t1,t2,t3]∨w="":=λw hw=>(List.mem_append.mp hw).imp_right List.mem_singleton.mp
   refine rows (W:=[t1,t2,t3]++[("":Str)]) (by simp) (by simp) (by simp) hw ?_
   refine dn rfl ?_
   delta vE
   refine start _ _ (sk (no (i:=3) (by lia) (no (i:=4) (by lia) (yes (i:=5) r5 (m_ (kz (us:=[t1,t2,t3]) (ws:=[("":Str)]) rfl (bH (fx (ws:=[("":Str)]) rfl (by simp))) (by simp))) ?_))))
   exact no (i:=6) (by lia) (fin (W:=[t1,t2,t3]++[("":Str)]) _ (by simp) (Gh hw))
  .obtain⟨c,s,es,hc⟩:=H.hd _ hm
   have l1:1<=row.length:=by rw[<-jH,es,a3];lia
   have ea:g8 row none (some 1)=⟨#[c]⟩:=oH (by
    have:=Gb row l1
    rw[es] at this
    exact this)
   have eb:(g8 row (some 1) none).cps.toList=s:=by
    have:=Gd row l1
    rw[es] at this
    exact this
   have lb:=JQ row (some 1) none
   have gx:∀O':G,af aI (gV 3) (gV 4) O = .ok (.str row):=λ_=>aW f3 f4 ex
   have ev:aB (af z5z (yi (kx (af aI (gV 3) (gV 4)) bU (bJ (gC (.int 1))))) (kx (af aI (gV 3) (gV 4)) (bJ (gC (.int 1))) bU)) O = .ok (.str (⟨#[c-32]⟩++g8 row (some 1) none)):=by
    have u1:kx (af aI (gV 3) (gV 4)) bU (bJ (gC (.int 1))) O = .ok (.str ⟨#[c]⟩):=by
     unfold kx
     rw[gx O]
     show R.guard _ _=_
     rw[a4 (by lia),ea]
    have u2:kx (af aI (gV 3) (gV 4)) (bJ (gC (.int 1))) bU O = .ok (.str (g8 row (some 1) none)):=by
     unfold kx
     rw[gx O]
     show R.guard _ _=_
     rw[a4 (by lia)]
    have u3:yi (kx (af aI (gV 3) (gV 4)) bU (bJ (gC (.int 1)))) O = .ok (.str ⟨#[c-32]⟩):=by
     unfold yi
     rw[u1]
     show R.guard _ _=_
     rw[Xo hc,a4 (by show Q_ 1=false;trivial)]
    refine da (aW u3 u2 ?_) rfl
    show R.guard _ _=_
    rw[a4 (by show 1+_<=_;lia)]
   have lW:∀w∈[t1,t2,t3].set k (⟨#[c-32]⟩++g8 row (some 1) none),w.length<=13000:=λw hw=>by
    rcases JR hw with hw | rfl
    .exact B_ w hw
    .rw[kT]
     show 1+_<=_
     lia
   have eW:([t1,t2,t3].map D.str).set k (.str (⟨#[c-32]⟩++g8 row (some 1) none))=([t1,t2,t3].set k (⟨#[c-32]⟩++g8 row (some 1) none)).map D.str:=by rw[List.map_set]
   refine⟨_,?_,B9 (W:=[t1,t2,t3].set k (⟨#[c-32]⟩++g8 row (some 1) none)) (by simp) lW,.inr ⟨k,⟨#[c-32]⟩++g8 row (some 1) none,hk,vZ (by simp) λw hw=>?_,.inr ⟨c,s,by rw[Gg];exact es,by rw[fG,eb];rfl⟩⟩⟩
   .refine dn rfl ?_
    delta vE
    refine start _ _ (sk (no (i:=3) (by lia) (no (i:=4) (by lia) (no (i:=5) (by lia) (yes (i:=6) r6 (Lu (n:=k) (j:=(k:Int)) rfl ev f4 Nl) ?_)))))
    rw[eW]
    exact fin _ (by simp) lW
   .rcases JR hw with hw | rfl
    .exact H.nl w hw
    .rw[fG,eb,nW]
     rintro(z | z)
     .have:(10:Nat)=c-32:=by simpa using z
      lia
     .exact tZ (by rw[es];exact eU _ z)
end
def sC(P:Int)(n:Nat)(near:Int):List Str:=(g6 (n+1)).map λ(k:Nat)=>aH (near/((k:Int)+1)%P)
def kU(P near:Int):Str:=(["01","+1","-1","1_0","","1.0",aH (P+near%10^20)]:List Str).getD (near/5%7).toNat ""
def yK(ns:List Str)(near:Int):List Str:=["set",ns.getD (near%(ns.length:Int)).toNat ""]
def qM(F X W:List Str):List (List Str):=[F++X,F++W.drop 1,F++W++[("0":Str)],["set","","0","0"],["]"]]
def yL(z:Str)(W:List Str):List (List Str):=[([("set":Str),("setx":Str)++z]:List Str)++W,["again","1"],["again","1","["],["again","00","[","]"]]
def yM(n:Int):List (List Str):=[[("again":Str),aH n,("[":Str),("]":Str)],["Again","1","[","]"],["["]]
def yN(k:Nat)(X:List Str):List (List Str):=[(b0 4 (["again","0","["]:List Str)).flatten++(b0 4 (["]"]:List Str)).flatten,(b0 k X).flatten]
def yO(w:Str):List (List Str):=[["again","+1","[","]"],[("again":Str),w,("[":Str),("]":Str)]]
def Ca:List (List Str):=[["again"],["set"]]
def qN(P:Int)(ns:List Str)(near count:Int):List (List Str) :=
 let N:=sC P ns.length near
 let j:=(near%((ns.length:Int)+1)).toNat
 let F:=yK ns near
 qM F (N.take j++[kU P near]++N.drop (j+1)) N++yL (ns.getD 0 "") N++yM (10^30+1+near%10^20)++yN (31-count).toNat (F++N)++yO ((["1_0","-0","1.0"]:List Str).getD (near%3).toNat "")++Ca
def LD(A:List (List Str)):List D:=A.map λws=>.lst (ws.map D.str)
def oI{ws:List Str}{O:G}:ws.foldr (λw g=>ae (aB (gC (.str w))) g) ak O = .ok (ws.map D.str):=by
 induction ws with
 | nil=>rfl
 | cons w r ih=>exact aJ (da rfl rfl) ih
def yP{ga gb:G->R D}{O:G}{xs ys:List D}(h1:ga O = .ok (.lst xs))(h2:gb O = .ok (.lst ys))(hl:xs.length+ys.length<=1000):se ga gb O = .ok (xs++ys):=by
 unfold se
 rw[h1,R.bB,h2,R.bB]
 exact a4 hl
def Nr{ns:List Str}{O:G}{i:Nat}{gk:G->R D}{j:Nat}(hv:gV i O = .ok (.lst (ns.map D.str)))(hk:gk O = .ok (.int (j:Int))):eY (gV i) bU (bJ gk) O = .ok (.lst ((ns.take j).map D.str)):=by
 simp only[eY,bU,bJ,hv,hk,R.bB,o_]
 show R.ok (D.lst (eD (ns.map D.str) none (some (j:Int))))=_
 rw[n9,r0]
def Gi{ns:List Str}{O:G}{i:Nat}{gk:G->R D}{j:Nat}(hv:gV i O = .ok (.lst (ns.map D.str)))(hk:gk O = .ok (.int (j:Int))):eY (gV i) (bJ gk) bU O = .ok (.lst ((ns.drop j).map D.str)):=by
 simp only[eY,bU,bJ,hv,hk,R.bB,o_]
 show R.ok (D.lst (eD (ns.map D.str) (some (j:Int)) none))=_
 rw[n9,rZ]
def Gj{ws:List Str}{r:Nat}(h:r<ws.length):aI (.lst (ws.map D.str)) (.int (r:Int)) = .ok (.str (ws.getD r "")):=by
 simp only[aI]
 rw[qr (by lia),iq,jO,gE h]
 simp[uQ,h]
def Xr{A:List (List Str)}{r:Nat}(h:r<A.length):aI (.lst (LD A)) (.int (r:Int)) = .ok (.lst ((A.getD r []).map D.str)):=by
 simp only[aI,LD]
 rw[qr (by lia),iq,jO,gE h]
 simp[uQ,h]
def Gk{ga:G->R (List D)}{gb:G->R D}{O:G}{ws:List Str}{k:Nat}(h1:ga O = .ok (ws.map D.str))(h2:gb O = .ok (.int (k:Int)))(hk:k<=100)(hl:ws.length*k<=1000):gRep ga gb O = .ok ((b0 k ws).flatten.map D.str):=by
 unfold gRep
 rw[h1,R.bB,h2,R.bB]
 show R.guard _ _=_
 rw[a4 (by rw[aZ,iq];lia),iq,List.map_flatten,a3w]
def Nt:n7 (.int 10) (.int 20) = .ok (.int (10^20)):=by walk_at "a";try rfl
def Xs:n7 (.int 10) (.int 30) = .ok (.int (10^30)):=by walk_at "a";try rfl
def Xu(P:Int)(n:Nat)(near:Int):(sC P n near).length=n+1:=by simp[sC]
def Xv{n:Int}(h0:0<=n)(h1:n<=10^31):iN [.int n] = .ok (.str (aH n)):=by
 show R.guard _ _=_
 rw[a4]
 .rfl
 .have b:n.natAbs<2^104:=by
   have a:(10:Int)^31<2^104:=by decide
   lia
  by_cases z:n.natAbs=0
  .rw[z];decide
  .exact Nat.lt_trans ((Nat.log2_lt z).mpr b) (by decide)
def Xw{P:Int}{ns:List Str}(N:gr ns)(p1:3<=P)(p2:P<=9999)(cell count:Int)(c0:0<=count)(c1:count<=31) :
 Fp [.int P,a6 false ns,.int cell,.int count] = .ok (.lst (((qN P ns (cell/18) count).getD (cell%18).toNat []).map D.str)):=by
 have l1:=N.l1
 have l3:=N.l3
 generalize hn:cell/18=near
 have nl:=Xu P ns.length near
 obtain⟨j,hj,ej⟩:∃j:Nat,j<ns.length+1/\near%((ns.length:Int)+1)=(j:Int):=by
  have h1:=mM near (show(ns.length:Int)+1≠0 by lia)
  have h2:=mO near (show(0:Int)<(ns.length:Int)+1 by lia)
  exact⟨(near%((ns.length:Int)+1)).toNat,by lia,by lia⟩
 obtain⟨x,hx,Nu⟩:∃x:Nat,x<ns.length/\near%(ns.length:Int)=(x:Int):=by
  have h1:=mM near (show(ns.length:Int)≠0 by lia)
  have h2:=mO near (show(0:Int)<(ns.length:Int) by lia)
  exact⟨(near%(ns.length:Int)).toNat,by lia,by lia⟩
 obtain⟨o,ho,eo⟩:∃o:Nat,o<7/\near/5%7=(o:Int):=⟨(near/5%7).toNat,by lia,by lia⟩
 obtain⟨t,ht,et⟩:∃t:Nat,t<3/\near%3=(t:Int):=⟨(near%3).toNat,by lia,by lia⟩
 obtain⟨r,hr,er⟩:∃r:Nat,r<18/\cell%18=(r:Int):=⟨(cell%18).toNat,by lia,by lia⟩
 obtain⟨k,hk,ek⟩:∃k:Nat,k<=31/\31-count=(k:Int):=⟨(31-count).toNat,by lia,by lia⟩
 have Xx:=mM near (show(10:Int)^20≠0 by decide)
 have Xy:=mO near (show(0:Int)<10^20 by decide)
 have Xz:(10:Int)^30+1+10^20<=10^31:=by decide
 have XA:(9999:Int)+10^20<=10^30:=by decide
 have Gm:(9999:Int)<=10^30:=by decide
 have hlen:bX [a6 false ns] = .ok (.int (ns.length:Int)):=by show bX [.tup (ns.map D.str)]=_;simp only[bX,aZ]
 have eN:∀x6 x7 x8 x9 Gn Gp:En,fh (lE (af cu (az bX (ae (gV 1) ak)) (gC (.int 1)))) (fU (aB (az iN (ae (af a_ (af dw (gV 5) (af cu (gV 0) (gC (.int 1)))) (gV 1)) ak)))) [En.ro (.int P),.ro (a6 false ns),.ro (.int cell),.ro (.int count),.ro (.int near),x6,x7,x8,x9,Gn,Gp] = .ok ((sC P ns.length near).map D.str):=λx6 x7 x8 x9 Gn Gp=>by
  have e1:lE (af cu (az bX (ae (gV 1) ak)) (gC (.int 1))) [En.ro (.int P),.ro (a6 false ns),.ro (.int cell),.ro (.int count),.ro (.int near),x6,x7,x8,x9,Gn,Gp] = .ok (fL 0 (ns.length+1)):=by
   unfold lE
   rw[aW (φ:=cu) (a:=.int (ns.length:Int)) (b:=.int 1) (r:=.ok (.int ((ns.length+1:Nat):Int))) (bM (ds:=[a6 false ns]) rfl hlen) rfl rfl]
   show R.guard _ _=_
   rw[a4 (AX (by lia)),iq]
  unfold fh
  rw[e1]
  show R.guard _ _=_
  rw[a4 (by rw[qv];lia)]
  rw[U4 (h:=λ(k:Nat)=>D.str (aH (near/((k:Int)+1)%P))) λi hi=>?_]
  .simp[sC]
  .rw[DA]
   have q1:=mM (near/((i:Int)+1)) (show P≠0 by lia)
   have q2:=mO (near/((i:Int)+1)) (show 0<P by lia)
   refine BQ (da (bM (ds:=[.int (near/((i:Int)+1)%P)]) (aJ (aW (a:=.int (near/((i:Int)+1))) (b:=.int P) (aW (a:=.int near) (b:=.int ((i:Int)+1)) rfl (aW (a:=.int (i:Int)) (b:=.int 1) rfl rfl rfl) ?_) rfl ?_) rfl) (sq q1 (by lia))) rfl)
   .show R.guard _ _=_
    rw[a4 (by lia)]
   .show R.guard _ _=_
    rw[a4 (by lia)]
 generalize hN:sC P ns.length near=W at *
 have hF:yK ns near=[("set":Str),ns.getD x ""]:=by unfold yK;rw[Nu,iq]
 have hO:kU P near=(["01","+1","-1","1_0","","1.0",aH (P+near%10^20)]:List Str).getD o "":=by unfold kU;rw[eo,iq]
 have hA:qN P ns near count=qM [("set":Str),ns.getD x ""] (W.take j++[kU P near]++W.drop (j+1)) W++yL (ns.getD 0 "") W++yM (10^30+1+near%10^20)++yN k ([("set":Str),ns.getD x ""]++W)++yO ((["1_0","-0","1.0"]:List Str).getD t "")++Ca:=by
  unfold qN
  simp only[hN,hF,ej,et,ek,iq]
 rw[er,iq,hA]
 generalize hoW:kU P near=od at *
 refine dn rfl ?_
 delta Mc
 refine c9 (d:=.int near) (da (aW (a:=.int cell) (b:=.int 18) rfl rfl (by rw[<-hn];walk_at "a")) rfl) ?_
 refine gp (ds:=W.map D.str) (eN _ _ _ _ _ _) ?_
 refine c9 (d:=.int (j:Int)) (da (aW (a:=.int near) (b:=.int ((ns.length:Int)+1)) rfl (bM (ds:=[.lst (W.map D.str)]) rfl (by simp only[bX,aZ,nl];rfl)) (by rw[<-ej];show R.guard _ _=_;rw[a4 (by lia)])) rfl) ?_
 refine c9 (d:=.str od) (da (aW (a:=.lst ((["01","+1","-1","1_0","","1.0",aH (P+near%10^20)]:List Str).map D.str)) (b:=.int (o:Int)) (bH (fx (ws:=["01","+1","-1","1_0","","1.0",aH (P+near%10^20)]) ?_ (by simp))) (aW (a:=.int (near/5)) (b:=.int 7) (aW (a:=.int near) (b:=.int 5) rfl rfl (by walk_at "a")) rfl (by rw[<-eo];walk_at "a")) ?_) rfl) ?_
 .refine aJ rfl (aJ rfl (aJ rfl (aJ rfl (aJ rfl (aJ rfl (aJ (bM (ds:=[.int (P+near%10^20)]) (aJ (aW (a:=.int P) (b:=.int (near%10^20)) rfl (aW (a:=.int near) (b:=.int (10^20)) rfl (aW (a:=.int 10) (b:=.int 20) rfl rfl Nt) ?_) rfl) rfl) (sq (by lia) (by lia))) rfl))))))
  show R.guard _ _=_
  rw[a4 (by decide)]
 .rw[hO];exact Gj (ws:=["01","+1","-1","1_0","","1.0",aH (P+near%10^20)]) (by simpa using ho)
 refine gp (ds:=(W.take j++[od]++W.drop (j+1)).map D.str) (kz (bH (kz (us:=W.take j) (ws:=[od]) (Nr (i:=5) (j:=j) rfl rfl) (bH (fx (ws:=[od]) rfl (by simp))) (by rw[dW];simp;lia))) (Gi (i:=5) (j:=j+1) rfl (B8 rfl)) (by rw[aY,dW,gR];simp;lia)) ?_
 refine gp (ds:=[("set":Str),ns.getD x ""].map D.str) (fx (ws:=[("set":Str),ns.getD x ""]) (aJ rfl (aJ (aW (a:=a6 false ns) (b:=.int (x:Int)) rfl (aW (a:=.int near) (b:=.int (ns.length:Int)) rfl (bM (ds:=[a6 false ns]) rfl hlen) (by rw[<-Nu];show R.guard _ _=_;rw[a4 (by lia)])) (BH hx false)) rfl)) (by simp)) ?_
 generalize XB:W.take j++[od]++W.drop (j+1)=W8 at *
 have l8:W8.length<=10:=by rw[<-XB,aY,aY,dW,gR];simp;lia
 generalize hf:[("set":Str),ns.getD x ""]=F at *
 have lF:F.length=2:=by rw[<-hf];rfl
 refine c9 (d:=.lst (LD (qM F W8 W))) ?_ ?_
 .refine bH (jq (aJ (bH (kz rfl rfl (by lia))) (aJ (bH (kz (us:=F) rfl (Gi (ns:=W) (i:=5) (j:=1) rfl rfl) (by rw[gR];lia))) (aJ (bH (j7 (kz (us:=F) (ws:=W) rfl rfl (by lia)) (fx (ws:=[("0":Str)]) rfl (by simp)) (by rw[aY];simp;lia))) (aJ (bH (jq (oI (ws:=["set","","0","0"])) (by simp))) (aJ (bH (jq (oI (ws:=["]"])) (by simp))) rfl))))) (by simp[LD,qM]))
 refine c9 (d:=.lst (LD (qM F W8 W++yL (ns.getD 0 "") W))) ?_ ?_
 .have XC:af z5z (gC (.str "setx")) (af aI (gV 1) (gC (.int 0))) [En.ro (.int P),.ro (a6 false ns),.ro (.int cell),.ro (.int count),.ro (.int near),.own (W.map D.str),.ro (.int (j:Int)),.ro (.str od),.own (W8.map D.str),.own (F.map D.str),.ro (.lst (LD (qM F W8 W)))] = .ok (.str (("setx":Str)++ns.getD 0 "")):=by
   refine aW (a:=.str "setx") (b:=.str (ns.getD 0 "")) rfl (aW (a:=a6 false ns) (b:=.int ((0:Nat):Int)) rfl rfl (BH (by lia) false)) ?_
   show R.guard _ _=_
   have:=(N.w1 _ (nu (ns:=ns) (j:=0) (by lia))).2
   have l4:("setx":Str).length=4:=by trivial
   rw[a4 (by lia)]
  refine bH ((yP rfl (bH (jq (aJ (bH (kz (us:=[("set":Str),("setx":Str)++ns.getD 0 ""]) (ws:=W) (bH (fx (aJ rfl (aJ XC rfl)) (by simp))) rfl (by simp;lia))) (aJ (bH (jq (oI (ws:=["again","1"])) (by simp))) (aJ (bH (jq (oI (ws:=["again","1","["])) (by simp))) (aJ (bH (jq (oI (ws:=["again","00","[","]"])) (by simp))) rfl)))) (by simp))) (by simp[LD,qM])).trans ?_)
  rfl
 generalize XD:qM F W8 W++yL (ns.getD 0 "") W=A2
 have XE:A2.length=9:=by rw[<-XD];rfl
 refine c9 (d:=.lst (LD (A2++yM (10^30+1+near%10^20)))) ?_ ?_
 .have eb:∀O:G,az iN (ae (af cu (af cu (af n7 (gC (.int 10)) (gC (.int 30))) (gC (.int 1))) (af a_ (gV 4) (af n7 (gC (.int 10)) (gC (.int 20))))) ak) (En.ro (.int P) :: .ro (a6 false ns) :: .ro (.int cell) :: .ro (.int count) :: .ro (.int near)::O) = .ok (.str (aH (10^30+1+near%10^20))):=λO=>by
   refine bM (ds:=[.int (10^30+1+near%10^20)]) (aJ (aW (a:=.int (10^30+1)) (b:=.int (near%10^20)) (aW (a:=.int (10^30)) (b:=.int 1) (aW (a:=.int 10) (b:=.int 30) rfl rfl Xs) rfl rfl) (aW (a:=.int near) (b:=.int (10^20)) rfl (aW (a:=.int 10) (b:=.int 20) rfl rfl Nt) ?_) rfl) rfl) (Xv (by lia) (by lia))
   show R.guard _ _=_
   rw[a4 (by decide)]
  refine bH ((yP rfl (bH (jq (aJ (bH (jq (aJ (da rfl rfl) (aJ (da (eb _) rfl) (aJ (da rfl rfl) (aJ (da rfl rfl) rfl)))) (by simp))) (aJ (bH (jq (oI (ws:=["Again","1","[","]"])) (by simp))) (aJ (bH (jq (oI (ws:=["["])) (by simp))) rfl))) (by simp))) (by simp[LD];lia)).trans ?_)
  simp only[LD,iK]
  rfl
 generalize XF:A2++yM (10^30+1+near%10^20)=A3
 have XG:A3.length=12:=by rw[<-XF,aY,XE];rfl
 refine c9 (d:=.lst (LD (A3++yN k (F++W)))) ?_ ?_
 .refine bH ((yP rfl (bH (jq (aJ (bH (j7 (Gk (ws:=["again","0","["]) (k:=4) (fx (ws:=["again","0","["]) rfl (by simp)) rfl (by decide) (by simp)) (Gk (ws:=["]"]) (k:=4) (fx (ws:=["]"]) rfl (by simp)) rfl (by decide) (by simp)) (by simp))) (aJ (bH (Gk (k:=k) (kz (us:=F) (ws:=W) rfl rfl (by lia)) (aW (a:=.int 31) (b:=.int count) rfl rfl (by rw[<-ek];rfl)) (by lia) ?_)) rfl)) (by simp))) (by simp[LD];lia)).trans ?_)
  .rw[aY,lF,nl]
   exact fS (a3x (show 2+(ns.length+1)<=6 by lia) hk) (by decide)
  .simp only[LD,iK]
   rfl
 generalize XH:A3++yN k (F++W)=A4
 have XI:A4.length=14:=by rw[<-XH,aY,XG];rfl
 refine c9 (d:=.lst (LD (A4++yO ((["1_0","-0","1.0"]:List Str).getD t "")))) ?_ ?_
 .refine bH ((yP rfl (bH (jq (aJ (bH (jq (oI (ws:=["again","+1","[","]"])) (by simp))) (aJ (bH (jq (aJ (da rfl rfl) (aJ (aW (b:=.int (t:Int)) (bH (jq (oI (ws:=["1_0","-0","1.0"])) (by simp))) (aW (a:=.int near) (b:=.int 3) rfl rfl (by rw[<-et];walk_at "a")) (Gj (ws:=["1_0","-0","1.0"]) (by simpa using ht))) (aJ (da rfl rfl) (aJ (da rfl rfl) rfl)))) (by simp))) rfl)) (by simp))) (by simp[LD];lia)).trans ?_)
  simp only[LD,iK]
  rfl
 generalize XJ:A4++yO ((["1_0","-0","1.0"]:List Str).getD t "")=A5
 have XN:A5.length=16:=by rw[<-XJ,aY,XI];rfl
 refine dF (aW (a:=.lst (LD (A5++Ca))) (b:=.int (r:Int)) (bH ((yP rfl (bH (jq (aJ (bH (jq (oI (ws:=["again"])) (by simp))) (aJ (bH (jq (oI (ws:=["set"])) (by simp))) rfl)) (by simp))) (by simp[LD];lia)).trans ?_)) (aW (a:=.int cell) (b:=.int 18) rfl rfl (by rw[<-er];walk_at "a")) (Xr (by rw[aY,XN];exact hr)))
 simp only[LD,iK]
 rfl
def Cb(ns:List Str):∀(a b:List Item),Item.aE ns (a++b)=Item.aE ns a++Item.aE ns b
 | [],b=>rfl
 | x::a,b=>by rw[fT,Item.aE,Item.aE,Cb ns a b,jQ]
def Nv(ns:List Str)(a:Item):∀k:Nat,Item.aE ns (b0 k a)=(b0 k (Item.ws ns a)).flatten
 | 0=>rfl
 | k+1=>by rw[rF,Item.aE,Nv ns a k,rF,xl]
def Nw(a:Item):∀k:Nat,Item.aP (b0 k a)=k*a.many
 | 0=>by simp[Item.aP]
 | k+1=>by rw[rF,Item.aP,Nw a k,Q2,Q4]
def Nx{P many:Int}{a b:List Item}(h1:Item.cB P many a)(h2:Item.cB P many b):Item.cB P many (a++b):=Item.hW.mpr λx hx=>(List.mem_append.mp hx).elim (Item.hW.mp h1 x) (Item.hW.mp h2 x)
def Gq{k:Nat}{a b:List Item}(h1:Item.cz a<=k)(h2:Item.cz b<=k):Item.cz (a++b)<=k:=Item.jF.mpr λx hx=>(List.mem_append.mp hx).elim (Item.jF.mp h1 x) (Item.jF.mp h2 x)
section
variable {P:Int}{ns:List Str}{k ar:Nat}
def Gr{x:Str}{T:List D}(hx:aR x=true)(ne:x≠"]")(vO:dX (k+1) [.int P,ay ns,.lst (D.str x::T).reverse,.int ar] = .er .aQ) :
 dG (k+2) [.int P,ay ns,.lst (D.str x::T).reverse,.int ar] = .er .aQ:=by
 refine(gK (as:=[.int P,ay ns]) (bs:=[.int ar]) rfl rfl).trans ?_
 show qF (fN (k+1)) (dX (k+1)) (dG (k+1)) [.ro (.int P),.ro (ay ns),.own (D.str x::T).reverse,.ro (.int ar),.no]=_
 delta qF
 obtain⟨O',lp⟩:=FG (P:=P) (ns:=ns) (ar:=ar) (φ:=dX (k+1)) hx ne vO [] 200 [] (by simp) (by simp) λa r pre eq=>by
  have:=congrArg rB eq
  simp at this
 exact fV (m_ (ds:=[]) (by walk_at "a")) (lM lp)
end
def Ny{n:Int}(h0:0<n)(h1:n<10^31):(aH n).length<=31/\fF (aH n)=false/\intText? (aH n)=some n:=by
 obtain⟨m,rfl⟩:=rH (show 0<=n by lia)
 have hd:=ox (n:=(m:Int)) (by lia)
 have hlen:(aH (m:Int)).length<=31:=by
  rw[<-jH,ou,aZ]
  refine ES 30 m ?_
  have:(m:Int)<((10^31:Nat):Int):=by simpa using h1
  exact Int.ofNat_lt.mp this
 have xW:intText? (aH (m:Int))=some (m:Int):=by
  have e:=a3n hd (Bn (by lia)) (fS hlen (by decide))
  rw[ou,ER] at e
  exact e
 refine⟨hlen,?_,xW⟩
 have Nz:pJ (aH (m:Int)) "0123456789" 31=true:=FN.mpr ⟨by have:=Bo (n:=(m:Int)) (by lia);lia,by lia,λc hc=>by have:=hd c hc;exact Mp c this.1 this.2⟩
 unfold fF
 rw[Nz]
 cases hL:(aH (m:Int)).cps.toList with
 | nil=>rfl
 | cons c r =>
   by_cases hc:c=48
   .subst hc
    have e:=LI (n:=(m:Int)) (by lia) hL
    rw[e] at xW
    have z:=LH (n:=0) (by lia) (by decide)
    rw[z] at xW
    have:(0:Int)=(m:Int):=l9 xW
    lia
   .simp[hc]
section
variable {P:Int}{ns:List Str}{A B:List Item}
structure i0 (P:Int) (ns:List Str) (A B:List Item):Prop where
 N:gr ns
 p1:3<=P
 p2:P<=9973
 hd:hV P=false
 oA:Item.cB P ns.length A
 oB:Item.cB P ns.length B
 dA:Item.cz A<=3
 dB:Item.cz B<=3
 m:Item.aP A+Item.aP B<=12
def i0.wd(M:i0 P ns A B){ow:List Str}(h:Wd ow):Wd (Item.aE ns A++(ow++Item.aE ns B)):=λw hw=>by
 have e:∀xL,Item.cB P ns.length xL->∀w∈Item.aE ns xL,aR w=true/\w.length<=100000:=λxL ho w hw=>⟨yD M.N (by have:=M.p2;lia) _ xL (a9 _) ho w hw,by have:=(tS M.N (by have:=M.p2;lia) _ xL (a9 _) ho w hw).1;lia⟩
 rcases List.mem_append.mp hw with hw | hw
 .exact e A M.oA w hw
 .rcases List.mem_append.mp hw with hw | hw
  .exact h w hw
  .exact e B M.oB w hw
def i0.len(M:i0 P ns A B){ow:List Str}:(Item.aE ns A++(ow++Item.aE ns B)).length<=72+ow.length:=by
 have a:=Item.jo (P:=P) (ns:=ns) M.N.l3 _ A (a9 _) M.oA
 have b:=Item.jo (P:=P) (ns:=ns) M.N.l3 _ B (a9 _) M.oB
 have:=M.m
 rw[aY,aY]
 lia
def i0.bad(M:i0 P ns A B){ow:List Str}{w:Str}(hw:Wd ow)(hl:ow.length<=100)(h:w∈ow)(g:¬Good ns w):iD [.int P,a6 false ns,.lst ((Item.aE ns A++(ow++Item.aE ns B)).map D.str)] = .er .aQ :=
 yG M.N (M.wd hw) (by have:=M.len (ow:=ow);lia) (B5 (by simp[h]) g)
def i0.few(M:i0 P ns A B){ow:List Str}(hw:Wd ow)(hl:ow.length<=100)(h:ow.length≠(ns.length+3)*cnt "set" ow+4*cnt "again" ow):iD [.int P,a6 false ns,.lst ((Item.aE ns A++(ow++Item.aE ns B)).map D.str)] = .er .aQ:=by
 have fA:=Item.B6 M.N (by have:=M.p2;lia) A M.oA
 have fB:=Item.B6 M.N (by have:=M.p2;lia) B M.oB
 refine yG M.N (M.wd hw) (by have:=M.len (ow:=ow);lia) (Xc λz=>h ?_)
 rw[aY,aY,lR,lR,lR,lR,fA.l,fB.l,Ai,Ai,Ai,Ai] at z
 lia
def i0.item(M:i0 P ns A B){x:Str}{T:List Str}(hx:aR x=true)(ne:x≠"]")(hl:T.length<=100)(h:dX 11 [.int P,ay ns,.lst (D.str x::(T++Item.aE ns B).map D.str).reverse,.int ((0:Nat):Int)] = .er .aQ):iD [.int P,a6 false ns,.lst ((Item.aE ns A++(x::T++Item.aE ns B)).map D.str)] = .er .aQ:=by
 have len:=M.len (ow:=x::T)
 rw[a3] at len
 have b:=Item.jo (P:=P) (ns:=ns) M.N.l3 _ B (a9 _) M.oB
 have hm:=M.m
 have hd:=M.dA
 have hp:=M.p2
 refine MW (by lia) ?_
 rw[iK,fT,gz]
 exact WJ (k:=10) M.N.toNames (by lia) (by lia) (by lia) (by lia) M.oA (by rw[aZ,aY];lia) hx ne h
def i0.beyond(M:i0 P ns A B){z:Str}{F:List Str}{n:Int}(hz:z∈ns)(hF:F.length=ns.length+1)(hw:Wd F)(hn:P<=n)(NA:n<=10^30)(h:aH n∈F):iD [.int P,a6 false ns,.lst ((Item.aE ns A++(("set":Str)::(z::F)++Item.aE ns B)).map D.str)] = .er .aQ:=by
 have l3:=M.N.l3
 have hp:=M.p1
 have hm:=M.m
 have b:=Item.jo (P:=P) (ns:=ns) M.N.l3 _ B (a9 _) M.oB
 refine M.item (x:="set") (T:=z::F) (by trivial) (by trivial) (by rw[a3];lia) (BS (by simp only[aZ,aY,a3];lia) ?_)
 rw[fT,gz,iK]
 exact ML M.N.toNames hz hF (by rw[aZ];lia) (λw h'=>(MT (hw w h').1 (hw w h').2).imp_left λq=>q.2) ⟨_,h,Wz hn (by lia) NA⟩
def i0.deep(M:i0 P ns A B):iD [.int P,a6 false ns,.lst ((Item.aE ns A++(((b0 4 (["again","0","["]:List Str)).flatten++(b0 4 (["]"]:List Str)).flatten)++Item.aE ns B)).map D.str)] = .er .aQ:=by
 have k0:jG [.str ("0":Str)] = .ok (.int 0):=by
  have:=tR (n:=0) (by lia) (by decide)
  rw[show aH 0=("0":Str) by trivial] at this
  exact this
 have ka:aR "again"=true:=by trivial
 have ne:("again":Str)≠"]":=by trivial
 have hm:=M.m
 have b:=Item.jo (P:=P) (ns:=ns) M.N.l3 _ B (a9 _) M.oB
 have e:(b0 4 (["again","0","["]:List Str)).flatten++(b0 4 (["]"]:List Str)).flatten=("again":Str)::(["0","[","again","0","[","again","0","[","again","0","[","]","]","]","]"]:List Str):=rfl
 rw[e]
 refine M.item ka ne (by simp) (sv (by simp;lia) ?_)
 simp only[fT,gz]
 refine BV (k:=9) (by lia) (by simp;lia) k0 (Gr (k:=7) ka ne (sv (by simp;lia) ?_))
 refine BV (k:=6) (by lia) (by simp;lia) k0 (Gr (k:=4) ka ne (sv (by simp;lia) ?_))
 refine BV (k:=3) (by lia) (by simp;lia) k0 (Gr (k:=1) ka ne (sv (by simp;lia) ?_))
 exact MM (k:=0) (a9 _)
def i0.many(M:i0 P ns A B){a:Item}{k:Nat}(ha:a.ok P ns.length)(h1:a.many=1)(h0:a.deep=0)(hk:k<=31)(h:30<Item.aP A+k+Item.aP B):iD [.int P,a6 false ns,.lst ((Item.aE ns A++((b0 k (Item.ws ns a)).flatten++Item.aE ns B)).map D.str)] = .er .aQ:=by
 have l1:=M.N.l1
 have l3:=M.N.l3
 have hm:=M.m
 have hp:=M.p2
 have ho:Item.cB P ns.length (A++(b0 k a++B)):=Nx M.oA (Nx (Item.hW.mpr λx hx=>by rw[RA hx];exact ha) M.oB)
 have hd:Item.cz (A++(b0 k a++B))<=3:=Gq M.dA (Gq (Item.jF.mpr λx hx=>by rw[RA hx];lia) M.dB)
 have hc:Item.aP (A++(b0 k a++B))=Item.aP A+k+Item.aP B:=by rw[Item.ni,Item.ni,Nw,h1];lia
 have ew:Item.aE ns A++((b0 k (Item.ws ns a)).flatten++Item.aE ns B)=Item.aE ns (A++(b0 k a++B)):=by rw[Cb,Cb,Nv]
 rw[ew]
 generalize A++(b0 k a++B)=xL at *
 have wl:=Item.jo (P:=P) (ns:=ns) l3 _ xL (a9 _) ho
 have ei:=BW M.N.toNames (show P<=9999 by lia) 12 xL 0 [] (by lia) (by lia) (by lia) ho (.inl rfl) (by simp only[iW];lia)
 rw[kE] at ei
 obtain⟨r1,r2,r3⟩:=Item.B2 xL
 refine Na (by lia) ei ?_
 have ep:=M9 (P:=P) (many:=(ns.length:Int)) (xL:=Item.lK xL) (l:=false) M.p1 M.p2 M.hd (by lia) (by lia) (by lia) (by lia) (Raw.F4.mp (Item.F8 (by lia) xL ho)) (.inl (by lia))
 rw[r1] at ep
 exact ep
def i0.XO(M:i0 P ns A B){n:Int}(NA:10^30<n)(XQ:n<10^31):iD [.int P,a6 false ns,.lst ((Item.aE ns A++([("again":Str),aH n,("[":Str),("]":Str)]++Item.aE ns B)).map D.str)] = .er .aQ:=by
 have l1:=M.N.l1
 have l3:=M.N.l3
 have hm:=M.m
 have hp:=M.p2
 have n0:0<n:=by
  have:(0:Int)<10^30:=by decide
  lia
 obtain⟨b1,b2,b3⟩:=Ny n0 XQ
 obtain⟨n',e1,e2⟩:=FO (oF (show 0<=n by lia)) b2
 rw[b3] at e1
 cases e1
 have ew:Item.aE ns A++([("again":Str),aH n,("[":Str),("]":Str)]++Item.aE ns B)=Item.aE ns (A++(Item.again n []::B)):=by rw[Cb];rfl
 rw[ew]
 have hc:Item.aP (A++(Item.again n []::B))=Item.aP A+1+Item.aP B:=by rw[Item.ni];simp only[Item.aP,Item.many];lia
 have hdp:Item.cz (A++(Item.again n []::B))<=3:=Gq M.dA (Item.jF.mpr λx hx=>by
  rcases List.mem_cons.mp hx with rfl | hx
  .simp[Item.deep,Item.cz]
  .exact Item.jF.mp M.dB x hx)
 have hit:∀a∈A++(Item.again n []::B),a=Item.again n []∨a.ok P ns.length:=λa ha=>by
  rcases List.mem_append.mp ha with ha | ha
  .exact .inr (Item.hW.mp M.oA a ha)
  .rcases List.mem_cons.mp ha with rfl | ha
   .exact .inl rfl
   .exact .inr (Item.hW.mp M.oB a ha)
 have XR:∀a,(a=Item.again n []∨a.ok P ns.length)->(Item.ws ns a).length<=6*a.many:=λa ha=>by
  rcases ha with rfl | ha
  .simp[Item.ws,Item.aE,Item.many,Item.aP]
  .have:=Item.jo (P:=P) (ns:=ns) l3 _ [a] (a9 _) (by simp[Item.cB,ha])
   simpa [Item.aE,Item.aP] using this
 have NB:∀r:List Item,(∀a∈r,a=Item.again n []∨a.ok P ns.length)->(Item.aE ns r).length<=6*Item.aP r:=λr=>by
  induction r with
  | nil=>intro _;simp[Item.aE]
  | cons a r ih =>
    intro h
    have h1:=XR a (h a (by simp))
    have h2:=ih λb hb=>h b (by simp[hb])
    rw[Item.aE,aY,Item.aP]
    lia
 generalize hits:A++(Item.again n []::B)=xL at *
 have vB:=Item.qD xL
 have ei:dG 12 [.int P,ay ns,.lst ((Item.aE ns xL).map D.str++[]).reverse,.int ((0:Nat):Int)] = .ok (.tup (xL.map Item.d),([]:List D).reverse):=by
  refine MN (k:=10) (by lia) (.inl rfl) λa r pre eq=>?_
  have pH:a∈xL:=by rw[eq];simp
  have MP:a.many+Item.aP r<=Item.aP xL:=by
   rw[eq,Item.ni]
   simp only[Item.aP]
   lia
  have lr:=NB r λb hb=>hit b (by rw[eq];simp[hb])
  have lY:((Item.aE ns r).map D.str++([]:List D)).length<=6*Item.aP r:=by rw[aY,aZ];simpa using lr
  generalize (Item.aE ns r).map D.str++([]:List D)=Y at *
  rcases hit a pH with rfl | gM
  .have em:dG 9 [.int P,ay ns,.lst (D.str "]"::Y).reverse,.int ((0+1:Nat):Int)] = .ok (.tup [],(D.str "]"::Y).reverse):=BW M.N.toNames (show P<=9999 by lia) 9 [] 1 (D.str "]"::Y) (by simp[Item.cz]) (by simp[Item.cz]) (by simp[Item.aP]) (by simp[Item.cB]) (.inr ⟨Y,rfl⟩) (by simp[Item.aP];lia)
   show dX 11 [.int P,ay ns,.lst (D.str "again"::D.str (aH n)::D.str "["::D.str "]"::Y).reverse,.int ((0:Nat):Int)] = .ok (.tup [.str "again",.int n,.tup []],Y.reverse)
   exact sv (by simp;lia) (FK (k:=9) (by lia) (by simp;lia) (by lia) e2 em)
  .have BN:=Item.jF.mp (a9 (Item.cz xL)) _ pH
   exact MQ M.N.toNames (by lia) (by lia) (by lia) (by lia) gM (by lia)
 rw[kE] at ei
 obtain⟨r1,r2,r3⟩:=Item.B2 xL
 have wl:=NB xL hit
 refine Na (by lia) ei ?_
 have ep:=M9 (P:=P) (many:=(ns.length:Int)) (xL:=Item.lK xL) (l:=false) M.p1 M.p2 M.hd (by lia) (by lia) (by lia) (by lia) (λa ha=>?_) (.inr ?_)
 .rw[r1] at ep
  exact ep
 .rw[Item.F9] at ha
  obtain⟨b,hb,rfl⟩:=List.mem_map.mp ha
  rcases hit b hb with rfl | ok
  .simp[Item.j5,Item.lK,Raw.short,Raw.tX]
  .exact Item.M_ (by lia) b ok
 .rw[Raw.F5,Item.F9,Dq,a3p]
  refine⟨Item.again n [],by rw[<-hits];simp,?_⟩
  show ¬Raw.gd _ 0 (Item.j5 (.again n []))=true
  simp only[Item.j5,Raw.gd,decide_eq_false (show ¬n<=10^30 by lia),Bool.and_false,QG]
  decide
end
def NC{P:Int}{n:Nat}{near:Int}{x:Str}{ws:List Str}(hw:∀w∈ws,fF w=false)(hx:fF x=true):cnt x ws=0:=tW λw h z=>by rw[z] at h;rw[hw x h] at hx;cases hx
def XS{ns:List Str}(N:gr ns)(hs:∀x∈ns,∀y∈ns,x.length<=y.length+1){z:Str}(hz:z∈ns):¬Good ns (("setx":Str)++z):=by
 have l4:("setx":Str).cps.toList=[115,101,116,120]:=by trivial
 have le:(("setx":Str)++z).length=z.length+4:=by rw[kT,show("setx":Str).length=4 by trivial];lia
 have hd:(("setx":Str)++z).cps.toList=115::([101,116,120]++z.cps.toList):=by rw[fG,l4];rfl
 have z1:=(N.w1 z hz).1
 rintro(g | g | g | g | g | g)
 .have:=hs _ g z hz
  lia
 .have:=congrArg kF g
  rw[le,show("set":Str).length=3 by trivial] at this
  lia
 .have:=congrArg (λs:Str=>s.cps.toList) g
  rw[hd,show("again":Str).cps.toList=[97,103,97,105,110] by trivial] at this
  cases this
 .have:=congrArg kF g
  rw[le,show("[":Str).length=1 by trivial] at this
  lia
 .have:=congrArg kF g
  rw[le,show("]":Str).length=1 by trivial] at this
  lia
 .rw[vY (c:=115) (by rw[hd];simp) (by lia)] at g;cases g
def Gs(w:Str):Bool:=fF w&&(w.cps.toList.isEmpty||w.cps.toList.any λc=>decide (c<97))&&decide (w≠"set"/\w≠"again"/\w≠"["/\w≠"]")
def sD{ns:List Str}(N:gr ns){w:Str}(h:Gs w=true):¬Good ns w:=by
 unfold Gs at h
 rw[jP,jP,decide_eq_true_eq] at h
 obtain⟨⟨h1,h2⟩,h3,h4,h5,h6⟩:=h
 rintro(g | g | g | g | g | g)
 .rcases Bool.or_eq_true_iff.mp h2 with h | h
  .have:=(N.w1 w g).1
   rw[<-jH,List.isEmpty_iff.mp h] at this
   cases this
  .obtain⟨c,hc,h⟩:=List.any_eq_true.mp h
   have:=N.lt w g c hc
   have:=of_decide_eq_true h
   lia
 .exact h3 g
 .exact h4 g
 .exact h5 g
 .exact h6 g
 .rw[h1] at g;cases g
section
variable {P:Int}{ns:List Str}{A B:List Item}
def XT(M:i0 P ns A B)(hs:∀x∈ns,∀y∈ns,x.length<=y.length+1)(near:Int){count:Int}(hc:count=((Item.aP A+Item.aP B:Nat):Int)) :
 ∀ow∈qN P ns near count,(∀w∈ow,b9 w/\aR w=true)/\ow.length<=190/\iD [.int P,a6 false ns,.lst ((Item.aE ns A++(ow++Item.aE ns B)).map D.str)] = .er .aQ:=by
 have N:=M.N
 have l1:=N.l1
 have l3:=N.l3
 have p1:=M.p1
 have p2:=M.p2
 have hm:=M.m
 have Xx:=mM near (show(10:Int)^20≠0 by decide)
 have Xy:=mO near (show(0:Int)<10^20 by decide)
 have XA:(9999:Int)+10^20<=10^30:=by decide
 have Gm:(9999:Int)<=10^30:=by decide
 have Xz:(10:Int)^30+1+10^20<10^31:=by decide
 let fs:List Int:=(g6 (ns.length+1)).map λ(k:Nat)=>near/((k:Int)+1)%P
 have Gu:∀v∈fs,0<=v/\v<P:=λv hv=>by
  obtain⟨k,_,rfl⟩:=List.mem_map.mp hv
  exact⟨mM _ (by lia),mO _ (by lia)⟩
 have eW:sC P ns.length near=fs.map aH:=by simp[sC,fs]
 have sE:fs.length=ns.length+1:=by simp[fs]
 obtain⟨x,hx,ex⟩:∃x:Nat,x<ns.length/\near%(ns.length:Int)=(x:Int):=by
  have h1:=mM near (show(ns.length:Int)≠0 by lia)
  have h2:=mO near (show(0:Int)<(ns.length:Int) by lia)
  exact⟨(near%(ns.length:Int)).toNat,by lia,by lia⟩
 have hz:ns.getD x ""∈ns:=nu hx
 have hF:yK ns near=[("set":Str),ns.getD x ""]:=by unfold yK;rw[ex,iq]
 have eI:[("set":Str),ns.getD x ""]++fs.map aH=Item.ws ns (Item.set (x:Int) fs):=by rw[Item.ws,iq];rfl
 have XU:(Item.set (x:Int) fs).ok P ns.length:=⟨by lia,by lia,by rw[sE];lia,λv hv=>Gu v hv⟩
 have nb:∀w∈fs.map aH,fF w=false:=λw hw=>by
  obtain⟨v,hv,rfl⟩:=List.mem_map.mp hw
  have:=Gu v hv
  exact yJ this.1 (by lia)
 have pn:∀w∈fs.map aH,b9 w/\aR w=true:=λw hw=>by
  obtain⟨v,hv,rfl⟩:=List.mem_map.mp hw
  have:=Gu v hv
  exact⟨vJ this.1 (by lia),oF this.1⟩
 have pf:∀w∈[("set":Str),ns.getD x ""],b9 w/\aR w=true:=λw hw=>by
  simp only[gS,iX,or_false] at hw
  rcases hw with rfl | rfl
  .exact⟨Mv,by trivial⟩
  .exact⟨BI N hz,N.ok _ hz⟩
 have wd:∀{ow:List Str},(∀w∈ow,b9 w/\aR w=true)->Wd ow:=λh w hw=>⟨(h w hw).2,by have:=(h w hw).1.1;lia⟩
 have both:∀{a b:List Str},(∀w∈a,b9 w/\aR w=true)->(∀w∈b,b9 w/\aR w=true)->∀w∈a++b,b9 w/\aR w=true:=λh1 h2 w hw=>(List.mem_append.mp hw).elim (h1 w) (h2 w)
 have bad:∀{ow:List Str} {w:Str},(∀w∈ow,b9 w/\aR w=true)->ow.length<=100->w∈ow->¬Good ns w->(∀w∈ow,b9 w/\aR w=true)/\ow.length<=190/\iD [.int P,a6 false ns,.lst ((Item.aE ns A++(ow++Item.aE ns B)).map D.str)] = .er .aQ:=λh1 h2 h3 h4=>⟨h1,by lia,M.bad (wd h1) h2 h3 h4⟩
 have few:∀{ow:List Str},(∀w∈ow,b9 w/\aR w=true)->ow.length<=100->ow.length≠(ns.length+3)*cnt "set" ow+4*cnt "again" ow->(∀w∈ow,b9 w/\aR w=true)/\ow.length<=190/\iD [.int P,a6 false ns,.lst ((Item.aE ns A++(ow++Item.aE ns B)).map D.str)] = .er .aQ:=λh1 h2 h3=>⟨h1,by lia,M.few (wd h1) h2 h3⟩
 have yQ:∀{ow:List Str},(∀w∈ow,b9 w/\aR w=true)->ow.length<=100->(cnt "set" ow=0/\ow.length≠4*cnt "again" ow)->(∀w∈ow,b9 w/\aR w=true)/\ow.length<=190/\iD [.int P,a6 false ns,.lst ((Item.aE ns A++(ow++Item.aE ns B)).map D.str)] = .er .aQ:=λh1 h2 h3=>few h1 h2 (by rw[h3.1,Nat.mul_zero,p9];exact h3.2)
 have nz:=N.nk _ hz
 have cs:∀{ws:List Str},(∀w∈ws,fF w=false)->cnt "set" ([("set":Str),ns.getD x ""]++ws)=1/\cnt "again" ([("set":Str),ns.getD x ""]++ws)=0:=λ{ws} h=>by
  rw[fT,fT,l_,dq,dq,dq,dq,NC (P:=P) (n:=0) (near:=0) h (by trivial),NC (P:=P) (n:=0) (near:=0) h (by trivial),if_pos rfl,if_neg nz.1,if_neg (by trivial),if_neg nz.2]
  exact⟨rfl,rfl⟩
 intro ow how
 simp only[qN,qM,yL,yM,yN,yO,Ca,eW,hF,nW,gS,iX,or_false] at how
 rcases how with (((((rfl | rfl | rfl | rfl | rfl) | (rfl | rfl | rfl | rfl)) | (rfl | rfl | rfl)) | (rfl | rfl)) | (rfl | rfl)) | (rfl | rfl)
 .-- 0
  generalize hj:(near%((ns.length:Int)+1)).toNat=j
  have hjl:j<ns.length+1:=by
   have h1:=mM near (show(ns.length:Int)+1≠0 by lia)
   have h2:=mO near (show(0:Int)<(ns.length:Int)+1 by lia)
   lia
  have po:b9 (kU P near)/\aR (kU P near)=true/\(¬Good ns (kU P near)∨∃n,kU P near=aH n/\P<=n/\n<=10^30):=by
   obtain⟨o,ho,eo⟩:∃o:Nat,o<7/\near/5%7=(o:Int):=⟨(near/5%7).toNat,by lia,by lia⟩
   have hO:kU P near=(["01","+1","-1","1_0","","1.0",aH (P+near%10^20)]:List Str).getD o "":=by unfold kU;rw[eo,iq]
   rw[hO]
   have lit:∀w∈(["01","+1","-1","1_0","","1.0"]:List Str),b9 w/\aR w=true/\Gs w=true:=by trivial
   by_cases o6:o=6
   .subst o6
    exact⟨vJ (n:=P+near%10^20) (by lia) (by lia),oF (n:=P+near%10^20) (by lia),.inr ⟨P+near%10^20,rfl,by lia,by lia⟩⟩
   .have hm:(["01","+1","-1","1_0","","1.0",aH (P+near%10^20)]:List Str).getD o ""∈(["01","+1","-1","1_0","","1.0"]:List Str):=by
     have:o=0∨o=1∨o=2∨o=3∨o=4∨o=5:=by lia
     rcases this with rfl | rfl | rfl | rfl | rfl | rfl<;>simp
    have q:=lit _ hm
    exact⟨q.1,q.2.1,.inl (sD N q.2.2)⟩
  have pw:∀w∈(fs.map aH).take j++[kU P near]++(fs.map aH).drop (j+1),b9 w/\aR w=true:=both (both (λw h=>pn w (me h)) λw h=>by rw[List.mem_singleton.mp h];exact⟨po.1,po.2.1⟩) λw h=>pn w (mP h)
  have lw:((fs.map aH).take j++[kU P near]++(fs.map aH).drop (j+1)).length=ns.length+1:=by
   rw[aY,aY,dW,gR,aZ,sE,Dp];lia
  have t5:kU P near∈(fs.map aH).take j++[kU P near]++(fs.map aH).drop (j+1):=by simp
  rcases po.2.2 with g | ⟨n,en,n1,n2⟩
  .exact bad (both pf pw) (by rw[aY,lw];simp;lia) (ft _ t5) g
  .refine⟨both pf pw,by rw[aY,lw];simp;lia,?_⟩
   rw[en] at t5 lw pw ⊢
   exact M.beyond hz lw (wd pw) n1 n2 t5
 .-- 1
  refine few (both pf λw h=>pn w (mP h)) (by rw[aY,gR,aZ,sE];simp;lia) ?_
  obtain⟨c1,c2⟩:=cs (ws:=(fs.map aH).drop 1) λw h=>nb w (mP h)
  rw[c1,c2,aY,gR,aZ,sE]
  simp only[a3,iW]
  lia
 .-- 2
  have z0:b9 "0"/\aR "0"=true/\fF "0"=false:=by trivial
  have e:[("set":Str),ns.getD x ""]++fs.map aH++[("0":Str)]=[("set":Str),ns.getD x ""]++(fs.map aH++[("0":Str)]):=jQ _ _ _
  rw[e]
  refine few (both pf (both pn λw h=>by rw[List.mem_singleton.mp h];exact⟨z0.1,z0.2.1⟩)) (by rw[aY,aY,aZ,sE];simp;lia) ?_
  obtain⟨c1,c2⟩:=cs (ws:=fs.map aH++[("0":Str)]) λw h=>(List.mem_append.mp h).elim (nb w) λh=>by rw[List.mem_singleton.mp h];exact z0.2.2
  rw[c1,c2,aY,aY,aZ,sE]
  simp
  lia
 .exact bad (w:="") (by trivial) (by simp) (by simp) (sD N (by trivial))
 .exact yQ (by trivial) (by simp) (by trivial)
 .-- 5
  have h0:ns.getD 0 ""∈ns:=nu (by lia)
  have w0:=N.w1 _ h0
  have l4:("setx":Str).length=4:=by trivial
  refine bad (w:=("setx":Str)++ns.getD 0 "") (both (λw hw=>?_) pn) (by rw[aY,aZ,sE];simp;lia) (by simp) (XS N hs h0)
  simp only[gS,iX,or_false] at hw
  rcases hw with rfl | rfl
  .exact pf _ (by simp)
  .have lt:∀c∈(("setx":Str)++ns.getD 0 "").cps.toList,97<=c/\c<=122:=λc hc=>by
    rw[fG] at hc
    rcases List.mem_append.mp hc with hc | hc
    .exact(by trivial:∀c∈("setx":Str).cps.toList,97<=c/\c<=122) c hc
    .exact N.lt _ h0 c hc
   exact⟨⟨by rw[kT];lia,λc hc=>by have:=lt c hc;lia⟩,FE lt⟩
 .exact yQ (by trivial) (by simp) (by trivial)
 .exact yQ (by trivial) (by simp) (by trivial)
 .exact bad (w:="00") (by trivial) (by simp) (by simp) (sD N (by trivial))
 .-- 9
  have XX:=Ny (n:=10^30+1+near%10^20) (by lia) (by lia)
  refine⟨λw hw=>?_,by simp,M.XO (by lia) (by lia)⟩
  simp only[gS,iX,or_false] at hw
  rcases hw with rfl | rfl | rfl | rfl
  .exact⟨Mw,by trivial⟩
  .exact⟨⟨XX.1,λc hc=>by have:=ox (show 0<=10^30+1+near%10^20 by lia) c hc;lia⟩,oF (by lia)⟩
  .exact⟨Mx,by trivial⟩
  .exact⟨Mz,by trivial⟩
 .exact bad (w:="Again") (by trivial) (by simp) (by simp) (sD N (by trivial))
 .exact yQ (by trivial) (by simp) (by trivial)
 .exact⟨by trivial,by decide,M.deep⟩
 .-- 13
  have hk:(31-count).toNat=31-(Item.aP A+Item.aP B):=by lia
  rw[hk,eI]
  have li:(Item.ws ns (Item.set (x:Int) fs)).length<=6:=by rw[<-eI,aY,aZ,sE];simp;lia
  refine⟨λw hw=>?_,?_,M.many XU rfl rfl (by lia) (by lia)⟩
  .obtain⟨l,hl,hw⟩:=List.mem_flatten.mp hw
   rw[RA hl,<-eI] at hw
   exact both pf pn w hw
  .rw[List.length_flatten,a3w,List.sum_replicate_nat]
   exact fS (a3x (show 31-(Item.aP A+Item.aP B)<=31 by lia) li) (by decide)
 .exact bad (w:="+1") (by trivial) (by simp) (by simp) (sD N (by trivial))
 .-- 15
  obtain⟨t,ht,et⟩:∃t:Nat,t<3/\near%3=(t:Int):=⟨(near%3).toNat,by lia,by lia⟩
  rw[et,iq]
  have:t=0∨t=1∨t=2:=by lia
  rcases this with rfl | rfl | rfl
  .exact bad (ow:=["again","1_0","[","]"]) (w:="1_0") (by trivial) (by simp) (by simp) (sD N (by trivial))
  .exact bad (ow:=["again","-0","[","]"]) (w:="-0") (by trivial) (by simp) (by simp) (sD N (by trivial))
  .exact bad (ow:=["again","1.0","[","]"]) (w:="1.0") (by trivial) (by simp) (by simp) (sD N (by trivial))
 .exact yQ (by trivial) (by simp) (by trivial)
 .exact few (by trivial) (by simp) (by rw[show cnt "set" (["set"]:List Str)=1 by trivial,show cnt "again" (["set"]:List Str)=0 by trivial];simp)
end
def iF(P:Int):List Str:=["0","1","2","4","9","15","9999","10007",aH (P*P),aH (P+19946),"0"++aH P,"+"++aH P,"1_3","-"++aH P,aH P++".0",""]
def XY{c:Nat}(h:33<=c)(h2:c<=122):Aj c=false:=(by trivial:∀c,c<123->33<=c->Aj c=false) c (by lia) h
def XZ{w:Str}(h0:w≠"")(h:∀c∈w.cps.toList,33<=c/\c<=122):sY (("prime ":Str)++w)=("prime ":Str)++w:=by
 have lp:("prime ":Str).cps.toList=[112,114,105,109,101,32]:=by trivial
 have hw:w.cps.toList≠[]:=λz=>h0 (oH (by rw[z,show("":Str).cps.toList=[] by trivial]))
 cases hr:w.cps.toList.reverse with
 | nil=>exact absurd (List.reverse_eq_nil_iff.mp hr) hw
 | cons b r =>
   have hb:b∈w.cps.toList:=by rw[<-List.mem_reverse,hr];simp
   refine W9 (a:=112) (b:=b) (l:=[114,105,109,101,32]++w.cps.toList) (r:=r++[112,114,105,109,101,32].reverse) (by rw[fG,lp];rfl) (by rw[fG,List.reverse_append,hr,lp];rfl) (by trivial) (XY (h b hb).1 (h b hb).2)
def X0{P:Int}(p1:3<=P)(p2:P<=9973):∀w∈iF P,b9 w/\aR w=true/\(w=""∨(w≠""/\(∀c∈w.cps.toList,33<=c/\c<=122)/\j6 [.lst [.str w]] = .er .aQ)):=by
 have Gm:(9999:Int)*9999<=10^30:=by decide
 have pp:P*P<=9999*9999:=Ae (by lia) (by lia) (by lia) (by lia)
 have Gv:0<=P*P:=a3y (by lia) (by lia)
 have num:∀n:Int,0<=n->n<=10^30->vA n=false->b9 (aH n)/\aR (aH n)=true/\(aH n=""∨(aH n≠""/\(∀c∈(aH n).cps.toList,33<=c/\c<=122)/\j6 [.lst [.str (aH n)]] = .er .aQ)):=λn h0 h1 hp =>
  ⟨vJ h0 h1,oF h0,.inr ⟨λz=>by have:=Bo h0;rw[z] at this;exact absurd this (by trivial),λc hc=>by have:=ox h0 c hc;lia,WV h0 h1 hp⟩⟩
 have con:∀(w:Str) (n:Int),w=aH n->0<=n->n<=10^30->vA n=false->b9 w/\aR w=true/\(w=""∨(w≠""/\(∀c∈w.cps.toList,33<=c/\c<=122)/\j6 [.lst [.str w]] = .er .aQ)):=λw n e h0 h1 hp=>by rw[e];exact num n h0 h1 hp
 have pL:∀w:Str,w≠""->w.length<=31->(∀c∈w.cps.toList,33<=c/\c<=122)->fF w=true->b9 w/\aR w=true/\(w=""∨(w≠""/\(∀c∈w.cps.toList,33<=c/\c<=122)/\j6 [.lst [.str w]] = .er .aQ)):=λw h0 hl hc hb=>by
  have ok:aR w=true:=by
   unfold aR
   rw[<-uP,nV]
   intro z hz
   have:=hc z hz
   simp
   lia
  exact⟨⟨hl,λc h=>by have:=hc c h;lia⟩,ok,.inr ⟨h0,hc,MX (yE ok (by lia) hb)⟩⟩
 have dP:=ox (n:=P) (by lia)
 have lP:=qB (n:=P) (by lia) (by lia)
 have l5:(aH P).length<=5:=by
  obtain⟨m,rfl⟩:=rH (show 0<=P by lia)
  rw[<-jH,ou,aZ]
  exact ES 4 m (by lia)
 have q1:=Bo (n:=P) (by lia)
 have pre:∀s:Str,s.length<=1->(∀c∈s.cps.toList,33<=c/\c<=122)->fF (s++aH P)=true->b9 (s++aH P)/\aR (s++aH P)=true/\(s++aH P=""∨(s++aH P≠""/\(∀c∈(s++aH P).cps.toList,33<=c/\c<=122)/\j6 [.lst [.str (s++aH P)]] = .er .aQ)):=λs hs hc hb=>by
  refine pL _ (λz=>?_) (by rw[kT];lia) (λc h=>?_) hb
  .have:=congrArg kF z
   rw[kT,show("":Str).length=0 by trivial] at this
   lia
  .rw[fG] at h
   rcases List.mem_append.mp h with h | h
   .exact hc c h
   .have:=dP c h;lia
 intro w hw
 simp only[iF,gS,iX,or_false] at hw
 rcases hw with rfl | rfl | rfl | rfl | rfl | rfl | rfl | rfl | rfl | rfl | rfl | rfl | rfl | rfl | rfl | rfl
 .exact con _ 0 (by trivial) (by decide) (by decide) (by trivial)
 .exact con _ 1 (by trivial) (by decide) (by decide) (by trivial)
 .exact con _ 2 (by trivial) (by decide) (by decide) (by trivial)
 .exact con _ 4 (by trivial) (by decide) (by decide) (by trivial)
 .exact con _ 9 (by trivial) (by decide) (by decide) (by trivial)
 .exact con _ 15 (by trivial) (by decide) (by decide) (by trivial)
 .exact con _ 9999 (by trivial) (by decide) (by decide) (by trivial)
 .exact con _ 10007 (by trivial) (by decide) (by decide) (by trivial)
 .refine num _ Gv (by lia) ?_
  unfold vA
  by_cases h:P*P<=9999
  .have:P<100:=by
    rcases Dy P 100 with h' | h'
    .exact h'
    .have:=Ae h' h' (by decide) (by lia)
     lia
   have dt:P<P*P:=by
    have:=Rj (show 2<=P by lia) (show 0<=P by lia)
    lia
   rw[(Br _).mpr ⟨P,by lia,this,dt,by simp⟩]
   simp
  .rw[decide_eq_false h];simp
 .refine num _ (by lia) (by lia) ?_
  unfold vA
  rw[decide_eq_false (show ¬P+19946<=9999 by lia)];simp
 .refine pre "0" (by trivial) (by trivial) ?_
  unfold fF
  have X1:(("0":Str)++aH P).cps.toList.head? = some 48:=by rw[fG,show("0":Str).cps.toList=[48] by trivial];rfl
  have bO:("0":Str)++aH P≠"0":=λz=>by
   have:=congrArg kF z
   rw[kT] at this
   lia
  rw[X1,decide_eq_true bO];simp
 .exact pre "+" (by trivial) (by trivial) (vY (c:=43) (by rw[fG];exact kD _ (by trivial)) (by lia))
 .exact pL _ (by trivial) (by trivial) (by trivial) (by trivial)
 .exact pre "-" (by trivial) (by trivial) (vY (c:=45) (by rw[fG];exact kD _ (by trivial)) (by lia))
 .have l2:(".0":Str).length=2:=by trivial
  refine pL _ (λz=>?_) (by rw[kT];lia) (λc h=>?_) (vY (c:=46) (by rw[fG];exact ft _ (by trivial)) (by lia))
  .have:=congrArg kF z
   rw[kT,show("":Str).length=0 by trivial] at this
   lia
  .rw[fG] at h
   rcases List.mem_append.mp h with h | h
   .have:=dP c h;lia
   .exact(by trivial:∀c∈(".0":Str).cps.toList,33<=c/\c<=122) c h
 .exact⟨by trivial,by trivial,.inl rfl⟩
mutual
def Item.X2{P:Int}{ns:List Str}(N:gr ns)(hP:P<=9999):∀a:Item,a.ok P ns.length->cnt "set" (Item.ws ns a)+cnt "again" (Item.ws ns a)=a.many
 | .set x f,h=>by
   simp only[Item.ok] at h
   have nz:=N.nk _ (nu (ns:=ns) (j:=x.toNat) (by lia))
   have nb:∀w∈f.map aH,fF w=false:=λw hw=>by
    obtain⟨v,hv,rfl⟩:=List.mem_map.mp hw
    have:=h.2.2.2 v hv
    exact yJ this.1 (by lia)
   rw[Item.ws,dq,dq,dq,dq,tW λw h=>(qK (nb w h)).1,tW λw h=>(qK (nb w h)).2.1,if_pos rfl,if_neg nz.1,if_neg (by trivial),if_neg nz.2]
   rfl
 | .again n xL,h=>by
   simp only[Item.ok] at h
   have ih:=Item.Gw N hP xL h.2.2
   have nz:=qK (yJ h.1 h.2.1)
   have s1:cnt "set" [("]":Str)]=0:=by trivial
   have s2:cnt "again" [("]":Str)]=0:=by trivial
   rw[Item.ws,dq,dq,dq,dq,dq,dq,lR,lR,s1,s2,if_neg (by trivial),if_neg nz.1,if_neg (by trivial),if_pos rfl,if_neg nz.2.1,if_neg (by trivial),Item.many]
   lia
def Item.Gw{P:Int}{ns:List Str}(N:gr ns)(hP:P<=9999):∀xL:List Item,Item.cB P ns.length xL->cnt "set" (Item.aE ns xL)+cnt "again" (Item.aE ns xL)=Item.aP xL
 | [],_=>by simp[Item.aE,cnt,Item.aP]
 | a::r,h=>by
   simp only[Item.cB] at h
   have h1:=Item.X2 N hP a h.1
   have h2:=Item.Gw N hP r h.2
   rw[Item.aE,lR,lR,Item.aP]
   lia
end
def X3{ws:List Str}(hw:∀w∈ws,aR w=true)(hl:ws.length<=1000){O:G}{g:G->R D}(hg:g O = .ok (.lst (ws.map D.str))) :
 az bX (ae (gL (fh (jZ g) (j0 (kn (gT (af bI (gV 0) (gC (.str "set")))) (gT (af bI (gV 0) (gC (.str "again"))))) (aB (gV 0))))) ak) O = .ok (.int ((cnt "set" ws+cnt "again" ws:Nat):Int)):=by
 let h:Str->Option D:=λw=>if w="set"∨w="again" then some (.str w) else none
 have ec:fg (λd=>j0 (kn (gT (af bI (gV 0) (gC (.str "set")))) (gT (af bI (gV 0) (gC (.str "again"))))) (aB (gV 0)) d O) (ws.map D.str) [] = .ok (ws.filterMap h):=by
  refine Ll λw hm=>?_
  have q1:gT (af bI (gV 0) (gC (.str "set"))) (En.ro (.str w)::O) = .ok (decide (w="set")):=fy (aW rfl rfl (nq (hw w hm) (by trivial)))
  have q2:gT (af bI (gV 0) (gC (.str "again"))) (En.ro (.str w)::O) = .ok (decide (w="again")):=fy (aW rfl rfl (nq (hw w hm) (by trivial)))
  have q:kn (gT (af bI (gV 0) (gC (.str "set")))) (gT (af bI (gV 0) (gC (.str "again")))) (En.ro (.str w)::O) = .ok (decide (w="set"∨w="again")):=by
   by_cases z:w="set"
   .rw[decide_eq_true z] at q1
    rw[decide_eq_true (.inl z)];exact BP q1
   .rw[decide_eq_false z] at q1
    refine pI q1 (q2.trans ?_)
    by_cases z2:w="again"<;>simp[z,z2]
  unfold j0
  rw[q,R.bB]
  by_cases z:w="set"∨w="again"
  .rw[if_pos (decide_eq_true z),da (d:=.str w) rfl rfl]
   show _=R.ok (h w)
   simp only[h,if_pos z]
   rfl
  .rw[if_neg (by simp[z])]
   show _=R.ok (h w)
   simp only[h,if_neg z]
 have el:(ws.filterMap h).length=cnt "set" ws+cnt "again" ws:=by
  clear ec hg hl hw
  induction ws with
  | nil=>rfl
  | cons w r ih =>
    have ne:("set":Str)≠"again":=by trivial
    rw[dq,dq,rn]
    by_cases z:w="set"
    .have:h w=some (.str w):=if_pos (.inl z)
     rw[this,a3,ih,if_pos z,if_neg (by rw[z];exact ne)];lia
    .by_cases z2:w="again"
     .have:h w=some (.str w):=if_pos (.inr z2)
      rw[this,a3,ih,if_neg z,if_pos z2];lia
     .have:h w=none:=if_neg (λq=>q.elim z z2)
      rw[this,ih,if_neg z,if_neg z2];lia
 refine bM (ds:=[.lst (ws.filterMap h)]) (aJ (bH ?_) rfl) (by simp only[bX,el])
 unfold fh
 have es:jZ g O = .ok (ws.map D.str):=by
  unfold jZ
  rw[hg]
  show R.guard _ _=_
  rw[a4 (iE ws)]
 rw[es]
 show R.guard _ _=_
 rw[a4 (by rw[aZ];lia),ec]
def ND{c:Nat}:∀{xs:List Str} {x:Str} {z:Nat},x∈xs->z∈x.cps.toList->z∈(gD (one c) xs).cps.toList
 | [y],x,z,h,hz=>by rw[List.mem_singleton.mp h] at hz;exact hz
 | y::w::r,x,z,h,hz=>by
   rw[lJ,nW,gS]
   rcases List.mem_cons.mp h with rfl | h
   .exact .inl hz
   .exact .inr (.inr (ND h hz))
def X4{T x:Str}{c:Nat}{rs:List Str}(ho:aR T=true)(hs:bW T (one c)=rs)(hx:x∈rs):aR x=true:=by
 have e:=sZ T (one c)
 rw[hs] at e
 unfold aR at ho ⊢
 rw[<-uP,nV] at ho ⊢
 intro z hz
 exact ho z (by rw[<-e];exact ND hx hz)
def Cc{w:Str}(h:∀c∈w.cps.toList,c<0x110000):aR w=true:=by
 unfold aR
 rw[<-uP,nV]
 intro z hz
 simpa using h z hz
def v9{w:Str}(h:aR w=true){c:Nat}(hc:c∈w.cps.toList):c<0x110000:=by
 unfold aR at h
 rw[<-uP,nV] at h
 simpa using h c hc
def NF{row w:Str}{ws:List Str}{a b:Nat}{r s:List Nat}(hs:bW row " "=w::ws)(hr:row.cps.toList=a::r)(hw:w.cps.toList=b::s):a=b:=by
 rw[vK] at hs
 have e:=sZ row (one 32)
 rw[hs] at e
 have:(gD (one 32) (w::ws)).cps.toList=a::r:=by rw[e];exact hr
 cases ws with
 | nil =>
   rw[show gD (one 32) [w]=w from rfl,hw] at this
   exact(DB this).1.symm
 | cons y q =>
   rw[lJ,hw] at this
   exact(DB this).1.symm
def v_{a b:Str}(h1:aR a=true)(h2:aR b=true):aR (a++b)=true:=Cc λc hc=>by
 rw[fG] at hc
 exact(List.mem_append.mp hc).elim (v9 h1) (v9 h2)
def wa:aR "~"=true:=by trivial
def NG:aR ""=true:=by trivial
def Cd(w:Str):126∈(w++"~").cps.toList:=by rw[fG];exact ft _ (by trivial)
def Gx{w z:Str}(h:126 ∉ z.cps.toList):w++"~"≠z:=λe=>h (e ▸ Cd w)
def Gy(w:Str):(w++"~").length=w.length+1:=by rw[kT,show("~":Str).length=1 by trivial]
def wb{f:Str}{ws u v:List Str}{w:Str}(h:f::ws=u++w::v):(u=[]/\w=f/\v=ws)∨∃u',u=f::u'/\ws=u'++w::v:=by
 cases u with
 | nil=>exact .inl ⟨rfl,by simpa using (DB h).1.symm,by simpa using (DB h).2.symm⟩
 | cons y u =>
   have:=DB h
   exact .inr ⟨u,by rw[this.1],this.2⟩
section
variable {P:Int}{ns:List Str}{xL:List Item}{T':Str}
def X5(N:gr ns)(p1:3<=P)(p2:P<=9973)(hd:hV P=false)(ho:Item.cB P ns.length xL)(hm:Item.aP xL<=12)(hl:T'.length<=100000)
 (h:Gf (bV ["prime",aH P]) (bV ("boxes"::ns)) (bV ("do"::Item.aE ns xL)) T') :
 oE [.str T'] = .er .aQ:=by
 have hP:P<=9999:=by lia
 have l3:=N.l3
 have pl:∀ws∈dY P ns xL,ws.length<=400/\∀w∈ws,b9 w:=FC N (by lia) hP (by lia) ho
 have ok:∀ws∈dY P ns xL,∀w∈ws,aR w=true:=MG N (by lia) hP ho
 have r1:[("prime":Str),aH P]∈dY P ns xL:=by simp[dY]
 have r2:("boxes":Str)::ns∈dY P ns xL:=by simp[dY]
 have r3:("do":Str)::Item.aE ns xL∈dY P ns xL:=by simp[dY]
 have s1:=qI (pl _ r1).2 (by simp)
 have s2:=qI (pl _ r2).2 (by simp)
 have s3:=qI (pl _ r3).2 (by simp)
 have wl:=Item.jo (P:=P) (ns:=ns) l3 _ xL (a9 _) ho
 have Gz:∀ws∈dY P ns xL,aR (bV ws)=true:=λws h=>Cc λc hc=>by
  rw[tT] at hc
  rcases BJ 32 hc with rfl | ⟨x,hx,hz⟩
  .decide
  .exact v9 (ok ws h x hx) hz
 have GA:∀ws∈dY P ns xL,∀w∈ws,w.length<=31:=λws h w hw=>((pl ws h).2 w hw).1
 rcases h with ⟨rs,h3,e⟩ | ⟨k,ny,hk,e,h⟩
 .exact WR hl e h3
 .have up:∀{f:Str} {ws:List Str} {x y:Nat} {q:List Nat},f.cps.toList=x::q->(∃c r,(bV (f::ws)).cps.toList=c::r/\ny.cps.toList=(c-32)::r)->x-32≠x->aR (bV (f::ws))=true->bW (bV (f::ws)) " "=f::ws->∃w' gu,bW ny " "=w'::gu/\aR w'=true/\w'≠f:=λ{f ws x y q} hf ⟨c,r,e1,e2⟩ hx dJ nA=>by
   have ec:=NF nA e1 hf
   subst ec
   cases q':bW ny " " with
   | nil=>exact absurd q' (sg _ _)
   | cons w' gu =>
     refine⟨w',gu,rfl,?_,λz=>?_⟩
     .refine X4 (T:=ny) (c:=32) (rs:=w'::gu) (Cc λz hz=>?_) (by rw[<-vK];exact q') (by simp)
      rw[e2] at hz
      rcases List.mem_cons.mp hz with rfl | hz
      .have:=v9 dJ (c:=c) (by rw[e1];simp)
       lia
      .exact v9 dJ (by rw[e1];simp[hz])
     .subst z
      exact hx (NF q' e2 hf)
  have:k=0∨k=1∨k=2:=by lia
  rcases this with rfl | rfl | rfl
  .have e':bW T' "\n"=[ny,bV ("boxes"::ns),bV ("do"::Item.aE ns xL)]:=e
   rcases h with ⟨a,b,h1,h2,h4⟩ | h
   .have gX:bV ["prime",aH P]=a++b:=h1
    obtain⟨u,w,v,ew,e3,e4⟩:=Ga s1 gX h2
    rcases h4 with rfl | rfl
    .rcases wb ew with ⟨rfl,rfl,rfl⟩ | ⟨u',rfl,iG⟩
     .exact vV hl e' e3 (v_ sA wa) (.inl (Gx (by trivial)))
     .rw[fT] at e3
      refine vV hl e' e3 sA (.inr ?_)
      cases u' with
      | nil =>
        obtain⟨rfl,rfl⟩:w=aH P/\v=[]:=by simpa using iG.symm
        exact MX (yE (v_ (oF (by lia)) wa) (by rw[Gy];have:=GA _ r1 (aH P) (by simp);lia) (vY (Cd _) (by lia)))
      | cons y q =>
        have:=congrArg rB iG
        simp at this
    .rcases wb ew with ⟨rfl,rfl,rfl⟩ | ⟨u',rfl,iG⟩
     .exact vV hl e' e4 sA (.inr (FW (ws:=[("":Str),aH P]) (by simp)))
     .rw[fT] at e4
      refine vV hl e' e4 sA (.inr (FW ?_))
      have:=congrArg rB iG
      rw[aY,a3] at this ⊢
      simp only[a3,iW] at this ⊢
      lia
   .obtain⟨w',gu,q1,q2,q3⟩:=up (x:=112) (y:=0) (q:=[114,105,109,101]) (by trivial) h (by lia) (Gz _ r1) s1
    exact vV hl e' q1 q2 (.inl q3)
  .have e':bW T' "\n"=[bV ["prime",aH P],ny,bV ("do"::Item.aE ns xL)]:=e
   have nw:∀{ws:List Str},(∀w∈ws,w∈ns∨w=""∨∃z∈ns,w=z++"~")->Wd ws:=λh w hw=>by
    rcases h w hw with hw | rfl | ⟨z,hz,rfl⟩
    .exact⟨N.ok w hw,by have:=(N.w1 w hw).2;lia⟩
    .exact⟨NG,by trivial⟩
    .exact⟨v_ (N.ok z hz) wa,by rw[Gy];have:=(N.w1 z hz).2;lia⟩
   rcases h with ⟨a,b,h1,h2,h4⟩ | h
   .have gX:bV ("boxes"::ns)=a++b:=h1
    obtain⟨u,w,v,ew,e3,e4⟩:=Ga s2 gX h2
    rcases h4 with rfl | rfl
    .rcases wb ew with ⟨rfl,rfl,rfl⟩ | ⟨u',rfl,iG⟩
     .exact vW hl e' p1 p2 hd s1 e3 (v_ tY wa) (.inl (Gx (by trivial)))
     .rw[fT] at e3
      refine vW hl e' p1 p2 hd s1 e3 tY (.inr (yI (nw λz hz=>?_) ⟨w++"~",by simp,Xa (Cd _) (by lia)⟩))
      rcases List.mem_append.mp hz with hz | hz
      .exact .inl (by rw[iG];simp[hz])
      .rcases List.mem_cons.mp hz with rfl | hz
       .exact .inr (.inr ⟨w,by rw[iG];simp,rfl⟩)
       .exact .inl (by rw[iG];simp[hz])
    .rcases wb ew with ⟨rfl,rfl,rfl⟩ | ⟨u',rfl,iG⟩
     .refine vW hl e' p1 p2 hd s1 e4 tY (.inr (yI (nw λz hz=>?_) ⟨"",by simp,by trivial⟩))
      rcases List.mem_cons.mp hz with rfl | hz
      .exact .inr (.inl rfl)
      .exact .inl hz
     .rw[fT] at e4
      refine vW hl e' p1 p2 hd s1 e4 tY (.inr (yI (nw λz hz=>?_) ⟨"",by simp,by trivial⟩))
      rcases List.mem_append.mp hz with hz | hz
      .exact .inl (by rw[iG];simp[hz])
      .rcases List.mem_cons.mp hz with rfl | hz
       .exact .inl (by rw[iG];simp)
       .rcases List.mem_cons.mp hz with rfl | hz
        .exact .inr (.inl rfl)
        .exact .inl (by rw[iG];simp[hz])
   .obtain⟨w',gu,q1,q2,q3⟩:=up (x:=98) (y:=0) (q:=[111,120,101,115]) (by trivial) h (by lia) (Gz _ r2) s2
    exact vW hl e' p1 p2 hd s1 q1 q2 (.inl q3)
  .have e':bW T' "\n"=[bV ["prime",aH P],bV ("boxes"::ns),ny]:=e
   have iw:∀{ws:List Str},(∀w∈ws,w∈Item.aE ns xL∨w=""∨∃z∈Item.aE ns xL,w=z++"~")->Wd ws:=λh w hw=>by
    rcases h w hw with hw | rfl | ⟨z,hz,rfl⟩
    .exact⟨ok _ r3 w (by simp[hw]),by have:=GA _ r3 w (by simp[hw]);lia⟩
    .exact⟨NG,by trivial⟩
    .exact⟨v_ (ok _ r3 z (by simp[hz])) wa,by rw[Gy];have:=GA _ r3 z (by simp[hz]);lia⟩
   rcases h with ⟨a,b,h1,h2,h4⟩ | h
   .have gX:bV ("do"::Item.aE ns xL)=a++b:=h1
    obtain⟨u,w,v,ew,e3,e4⟩:=Ga s3 gX h2
    rcases h4 with rfl | rfl
    .rcases wb ew with ⟨rfl,rfl,rfl⟩ | ⟨u',rfl,iG⟩
     .exact vX hl e' p1 p2 hd N s1 s2 e3 (v_ vT wa) (.inl (Gx (by trivial)))
     .have ll:=congrArg rB iG
      rw[aY,a3] at ll
      rw[fT] at e3
      refine vX hl e' p1 p2 hd N s1 s2 e3 vT (.inr (yG N (iw λz hz=>?_) (by rw[aY,a3];lia) (B5 (w:=w++"~") (by simp) (Xb N (Cd _) (by lia) (by lia) (by lia)))))
      rcases List.mem_append.mp hz with hz | hz
      .exact .inl (by rw[iG];simp[hz])
      .rcases List.mem_cons.mp hz with rfl | hz
       .exact .inr (.inr ⟨w,by rw[iG];simp,rfl⟩)
       .exact .inl (by rw[iG];simp[hz])
    .rcases wb ew with ⟨rfl,rfl,rfl⟩ | ⟨u',rfl,iG⟩
     .refine vX hl e' p1 p2 hd N s1 s2 e4 vT (.inr (yG N (iw λz hz=>?_) (by simp only[a3];lia) (B5 (w:="") (by simp) (Ng N))))
      rcases List.mem_cons.mp hz with rfl | hz
      .exact .inr (.inl rfl)
      .exact .inl hz
     .have ll:=congrArg rB iG
      rw[aY,a3] at ll
      rw[fT] at e4
      refine vX hl e' p1 p2 hd N s1 s2 e4 vT (.inr (yG N (iw λz hz=>?_) (by simp only[aY,a3];lia) (B5 (w:="") (by simp) (Ng N))))
      rcases List.mem_append.mp hz with hz | hz
      .exact .inl (by rw[iG];simp[hz])
      .rcases List.mem_cons.mp hz with rfl | hz
       .exact .inl (by rw[iG];simp)
       .rcases List.mem_cons.mp hz with rfl | hz
        .exact .inr (.inl rfl)
        .exact .inl (by rw[iG];simp[hz])
   .obtain⟨w',gu,q1,q2,q3⟩:=up (x:=100) (y:=0) (q:=[111]) (by trivial) h (by lia) (Gz _ r3) s3
    exact vX hl e' p1 p2 hd N s1 s2 q1 q2 (.inl q3)
end
def GB{a b c:Str}(h1:a.length<=13000/\10 ∉ a.cps.toList)(h2:b.length<=13000/\10 ∉ b.cps.toList)(h3:c.length<=13000/\10 ∉ c.cps.toList):oZ "\n" [a,b,c]=true/\(ir "\n" [a,b,c]).length<=100000/\bW (ir "\n" [a,b,c]) "\n"=[a,b,c]:=by
 have h:∀w∈[a,b,c],w.length<=13000/\10 ∉ w.cps.toList:=λw hw=>by
  simp only[gS,iX,or_false] at hw
  rcases hw with rfl | rfl | rfl<;>assumption
 exact⟨Ni (by simp) λw hw=>(h w hw).1,B9 (by simp) λw hw=>(h w hw).1,vZ (by simp) λw hw=>(h w hw).2⟩
noncomputable section
def GC:G->R Fl :=
 (aC (bF 1 (aB (az Bp (ae (az si (ae (gV 0) (ae (gC (.int 0)) ak))) ak))))
 (aC (bF 2 (aB (az Fe (ae (az si (ae (gV 0) (ae (gC (.int 2)) ak))) (ae (az si (ae (gV 0) (ae (gC (.int 3)) ak))) (ae (af cu (gC (.int 1)) (af a_ (az si (ae (gV 0) (ae (gC (.int 1)) ak))) (gC (.int 3)))) ak))))))
 (aC (bF 3 (aB (az E8 (ae (eY (gV 0) (bJ (gC (.int 5))) (bJ (gC (.int 29)))) (ae (gV 1) (ae (az bX (ae (gV 2) ak)) (ae (gC (.int 12)) ak)))))))
 (aC (bF 4 (aB (az Fg (ae (gV 1) (ae (gV 2) (ae (gV 3) ak))))))
 (aC (bF 5 (aB (az si (ae (gV 0) (ae (gC (.int 4)) ak)))))
 (aC (c8 6 (oh "\n" (gV 4)))
 (aC (bL (gT (af bI (af a_ (gV 5) (gC (.int 4))) (gC (.int 0)))) (aC (bF 7 (aB (af a_ (af dw (gV 5) (gC (.int 4))) (af cu (az bX (ae (gV 3) ak)) (gC (.int 1))))))
 (aC (bF 8 (aB (az bX (ae (gL (fh (jZ (gL (oh " " (af aI (gV 6) (gC (.int 2)))))) (j0 (kn (gT (af bI (gV 0) (gC (.str "set")))) (gT (af bI (gV 0) (gC (.str "again"))))) (aB (gV 0))))) ak))))
 (aC (c8 9 (gf (gL (f_ (bN (ae (gC (.str "do")) ak)) (kv (qE 12) (ae (gV 2) (ae (eY (gV 3) bU (bJ (gV 7))) ak))))) (az Fp (ae (gV 1) (ae (gV 2) (ae (af dw (gV 5) (gC (.int 60))) (ae (gV 8) ak)))))))
 (bY (az tO (ae (kP "\n" (gL (gf (eY (gV 6) bU (bJ (gC (.int 2)))) (gL (bN (ae (kP " " (gL (gf (gV 9) (gL (kv (qE 12) (ae (gV 2) (ae (eY (gV 3) (bJ (gV 7)) bU) ak))))))) ak)))))) ak)))))) b8)
 (aC (bL (gT (af bI (af a_ (gV 5) (gC (.int 4))) (gC (.int 1)))) (aC (c8 10 (bN (ae (gC (.str "0")) (ae (gC (.str "1")) (ae (gC (.str "2")) (ae (gC (.str "4")) (ae (gC (.str "9")) (ae (gC (.str "15")) (ae (gC (.str "9999")) (ae (gC (.str "10007")) (ae (az iN (ae (af lz (gV 1) (gV 1)) ak)) (ae (az iN (ae (af cu (gV 1) (af lz (gC (.int 9973)) (gC (.int 2)))) ak)) ak))))))))))))
 (aC (c8 10 (gf (gV 10) (gL (bN (ae (af z5z (gC (.str "0")) (az iN (ae (gV 1) ak))) (ae (af z5z (gC (.str "+")) (az iN (ae (gV 1) ak))) (ae (gC (.str "1_3")) (ae (af z5z (gC (.str "-")) (az iN (ae (gV 1) ak))) (ae (af z5z (az iN (ae (gV 1) ak)) (gC (.str ".0"))) (ae (gC (.str "")) ak))))))))))
 (bY (az tO (ae (kP "\n" (gL (gf (gL (bN (ae (yh (af z5z (gC (.str "prime ")) (af aI (gV 10) (af a_ (af dw (gV 5) (gC (.int 4))) (gC (.int 16)))))) ak))) (eY (gV 6) (bJ (gC (.int 1))) bU)))) ak))))) b8)
 (aC (bL (gT (af bI (af a_ (gV 5) (gC (.int 4))) (gC (.int 2)))) (bY (az tO (ae (kP "\n" (gL (bN (ae (af aI (gV 6) (gC (.int 0))) (ae (kP " " (gL (gf (gL (bN (ae (gC (.str "boxes")) ak))) (az Bz (ae (gV 2) (ae (af dw (gV 5) (gC (.int 4))) ak)))))) (ae (af aI (gV 6) (gC (.int 2))) ak)))))) ak))) b8)
 (bY (az tO (ae (az vF (ae (gV 4) (ae (af dw (gV 5) (gC (.int 4))) ak))) ak))))))))))))
def Cf:List D->R D:=cL 1 11 GC
end
def NH{c m:Int}{s n:Nat}:∀x∈eG c m s n,s<=x.length/\x.length<=s+1:=λx hx=>by
 unfold eG at hx
 obtain⟨k,_,rfl⟩:=List.mem_map.mp hx
 have:=vN c m s k s
 unfold lO
 split
 .rw[kT,show("x":Str).length=1 by trivial];lia
 .lia
def X6(ns:List Int):(eD ns (some 5) (some 29)).length<=24:=by
 unfold eD
 rw[dW]
 have e1:bD ns.length 0 (some 5)=min 5 ns.length:=vn ns.length 0 5
 have e2:bD ns.length ns.length (some 29)=min 29 ns.length:=vn ns.length ns.length 29
 rw[e1,e2]
 lia
abbrev EK (ns:List Int) (P:Int) (nm:List Str) (xL:List Item) (T:Str) (cell:Int) (O:G):G:=En.ro (.lst (ns.map D.int)) :: .ro (.int P) :: .ro (a6 false nm) :: .ro (.tup (xL.map Item.d)) :: .ro (.str T) :: .ro (.int cell)::O
def X7:Vv Cf:=by
 intro ns hn
 obtain⟨P,eP,p1,p2,hP⟩:=Vt (gU ns 0)
 obtain⟨m,em,m1,m3⟩:=VR (gU ns 1)
 obtain⟨sz,z1,z8,en⟩:=Wv (c:=gU ns 2) (m:=gU ns 3) (n:=m) (by lia) (by lia)
 have N:=Wu (c:=gU ns 2) (m:=gU ns 3) (s:=sz) (n:=m) z1 z8 (by lia) (by lia)
 have nl:(eG (gU ns 2) (gU ns 3) sz m).length=m:=by simp[eG]
 have hs:∀x∈eG (gU ns 2) (gU ns 3) sz m,∀y∈eG (gU ns 2) (gU ns 3) sz m,x.length<=y.length+1:=λx hx y hy=>by
  have:=NH x hx
  have:=NH y hy
  lia
 generalize eG (gU ns 2) (gU ns 3) sz m=nm at *
 obtain⟨xL,ei,ho,hd,hc,mq⟩:=VO (cs:=eD ns (some 5) (some 29)) (P:=P) (many:=m) (ag:=12) p1 p2 (by lia) (by lia) (fS (VQ ns _ _) hn)
 have hm:=X6 ns
 have hl:=Item.qD xL
 have qO:P<=9999:=by lia
 have dJ:Item.cB P nm.length xL:=by rw[nl];exact ho
 have et:=Wf N (show 0<=P by lia) qO (show Item.aP xL<=60 by lia) (show Item.cz xL<=4 by lia) dJ
 have kS:=FC N (show 0<=P by lia) qO (show Item.aP xL<=60 by lia) dJ
 have NI:=MG N (show 0<=P by lia) qO dJ
 have tl:=Wc kS (by simp[dY])
 have ts:=We kS (by simp[dY])
 have nN:(a6 false nm).cy=true:=by
  show(D.tup (nm.map D.str)).cy=true
  simp[D.cy,iE]
 have nI:=E9 xL
 have r1:[("prime":Str),aH P]∈dY P nm xL:=by simp[dY]
 have r2:("boxes":Str)::nm∈dY P nm xL:=by simp[dY]
 have r3:("do":Str)::Item.aE nm xL∈dY P nm xL:=by simp[dY]
 have s1:=qI (kS _ r1).2 (by simp)
 have s2:=qI (kS _ r2).2 (by simp)
 have s3:=qI (kS _ r3).2 (by simp)
 have Cg:∀ws∈dY P nm xL,(bV ws).length<=12800:=λws h=>by
  have:=vL (kS ws h).2
  have:=(kS ws h).1
  lia
 have Ci:∀ws∈dY P nm xL,10 ∉ (bV ws).cps.toList:=λws h=>yA (kS ws h).2
 have Cj:bW (tU (dY P nm xL)) "\n"=[bV ["prime",aH P],bV ("boxes"::nm),bV ("do"::Item.aE nm xL)]:=ts
 generalize hT:tU (dY P nm xL)=T at *
 generalize AG:gU ns 4=cell at *
 let Q3:List Str:=[bV ["prime",aH P],bV ("boxes"::nm),bV ("do"::Item.aE nm xL)]
 have l1':=Cg _ r1
 have l2':=Cg _ r2
 have l3':=Cg _ r3
 have NJ:=Ci _ r1
 have NK:=Ci _ r2
 have NL:=Ci _ r3
 obtain⟨r,hr,er⟩:∃r:Nat,r<4/\cell%4=(r:Int):=⟨(cell%4).toNat,by lia,by lia⟩
 refine dn rfl ?_
 unfold GC
 refine c9 (d:=.int P) (by walk_at "a";simp only[eP];walk_at "a") ?_
 refine c9 (d:=a6 false nm) (da (bM (ds:=[.int (gU ns 2),.int (gU ns 3),.int m]) (by walk_at "a";rw[em]) en) nN) ?_
 refine c9 (d:=.tup (xL.map Item.d)) (da (bM (ds:=[.lst ((eD ns (some 5) (some 29)).map D.int),.int P,.int m,.int 12]) ?_ ei) nI) ?_
 .refine aJ ?_ (aJ rfl (aJ (bM (ds:=[a6 false nm]) rfl (by show bX [.tup (nm.map D.str)]=_;simp only[bX,aZ,nl])) rfl))
  walk_at "a"
  rw[VP]
 refine c9 (d:=.str T) (da (bM (ds:=[.int P,a6 false nm,.tup (xL.map Item.d)]) rfl et) rfl) ?_
 refine c9 (d:=.int cell) (by walk_at "a";rw[AG]) ?_
 refine gp (ds:=Q3.map D.str) (tV rfl (by lia) (by trivial) Cj) ?_
 show aC _ _ (EK ns P nm xL T cell [.own (Q3.map D.str),.no,.no,.no,.no])=_
 have ci:∀(i:Nat) (O:G),gT (af bI (af a_ (gV 5) (gC (.int 4))) (gC (.int (i:Int)))) (EK ns P nm xL T cell O) = .ok (decide (r=i)):=λi O=>fy (aW (a:=.int (r:Int)) (aW (a:=.int cell) (b:=.int 4) rfl rfl (by walk_at "a";rw[er])) rfl (by walk_at "a";congr 2;by_cases q:r=i<;>simp[q]<;>lia))
 have d4:∀O:G,af dw (gV 5) (gC (.int 4)) (EK ns P nm xL T cell O) = .ok (.int (cell/4)):=λO=>aW (a:=.int cell) (b:=.int 4) rfl rfl (by walk_at "a")
 have no:∀{i:Nat} {t u:G->R Fl} {O:G} {q:R Fl},r≠i->u (EK ns P nm xL T cell O)=q->aC (bL (gT (af bI (af a_ (gV 5) (gC (.int 4))) (gC (.int (i:Int))))) t b8) u (EK ns P nm xL T cell O)=q:=λh hu=>dz (by rw[ci,decide_eq_false h]) hu
 have yes:∀{i:Nat} {t u:G->R Fl} {O:G} {d:D},r=i->t (EK ns P nm xL T cell O) = .ok (.rt d)->aC (bL (gT (af bI (af a_ (gV 5) (gC (.int 4))) (gC (.int (i:Int))))) t b8) u (EK ns P nm xL T cell O) = .ok (.rt d):=λh ht=>vr (fi (by rw[ci,decide_eq_true h]) ht)
 have h4:r=0∨r=1∨r=2∨r=3:=by lia
 rcases h4 with h0 | h1 | h2 | h3
 .-- an odd item
  obtain⟨j,hj,ej⟩:∃j:Nat,j<=xL.length/\cell/4%((xL.length:Int)+1)=(j:Int):=by
   have h1:=mM (cell/4) (show(xL.length:Int)+1≠0 by lia)
   have h2:=mO (cell/4) (show(0:Int)<(xL.length:Int)+1 by lia)
   exact⟨(cell/4%((xL.length:Int)+1)).toNat,by lia,by lia⟩
  have X8:xL.take j++xL.drop j=xL:=Af j xL
  have eM:Item.aP (xL.take j)+Item.aP (xL.drop j)=Item.aP xL:=by rw[<-Item.ni,X8]
  have M:i0 P nm (xL.take j) (xL.drop j):=⟨N,p1,p2,hP,Item.hW.mpr λa ha=>Item.hW.mp dJ a (me ha),Item.hW.mpr λa ha=>Item.hW.mp dJ a (mP ha),Item.jF.mpr λa ha=>Item.jF.mp hd a (me ha),Item.jF.mpr λa ha=>Item.jF.mp hd a (mP ha),by lia⟩
  obtain⟨q,hq,eq⟩:∃q:Nat,q<18/\cell/60%18=(q:Int):=⟨(cell/60%18).toNat,by lia,by lia⟩
  have hA:(qN P nm (cell/60/18) ((Item.aP xL:Nat):Int)).length=18:=rfl
  have t5:(qN P nm (cell/60/18) ((Item.aP xL:Nat):Int)).getD q []∈qN P nm (cell/60/18) ((Item.aP xL:Nat):Int):=by
   rw[List.getD_eq_getElem?_getD,gE (by lia)]
   exact Ag _
  obtain⟨pw,lw,rf⟩:=XT M hs (cell/60/18) (count:=((Item.aP xL:Nat):Int)) (by rw[eM]) _ t5
  have eo:=Xw (P:=P) (ns:=nm) N p1 qO (cell/60) ((Item.aP xL:Nat):Int) (by lia) (by lia)
  rw[eq,iq] at eo
  generalize (qN P nm (cell/60/18) ((Item.aP xL:Nat):Int)).getD q []=ow at *
  have wA:=BM (l:=false) N.l3 qO 12 (xL.take j) (by have:=M.dA;lia) (by have:=M.m;lia) M.oA
  have wB:=BM (l:=false) N.l3 qO 12 (xL.drop j) (by have:=M.dB;lia) (by have:=M.m;lia) M.oB
  have pA:=tS N qO _ (xL.take j) (a9 _) M.oA
  have pB:=tS N qO _ (xL.drop j) (a9 _) M.oB
  have lA:=Item.jo (P:=P) (ns:=nm) N.l3 _ (xL.take j) (a9 _) M.oA
  have lB:=Item.jo (P:=P) (ns:=nm) N.l3 _ (xL.drop j) (a9 _) M.oB
  have a6j:=M.m
  have Ck:∀w∈("do":Str)::(Item.aE nm (xL.take j)++(ow++Item.aE nm (xL.drop j))),b9 w:=λw hw=>by
   rcases List.mem_cons.mp hw with rfl | hw
   .exact MB
   .rcases List.mem_append.mp hw with hw | hw
    .exact pA w hw
    .rcases List.mem_append.mp hw with hw | hw
     .exact(pw w hw).1
     .exact pB w hw
  have a6k:(("do":Str)::(Item.aE nm (xL.take j)++(ow++Item.aE nm (xL.drop j)))).length<=400:=by
   rw[a3,aY,aY];lia
  have Cm:=vL Ck
  obtain⟨jk,jl,js⟩:=GB ⟨by lia,NJ⟩ ⟨by lia,NK⟩ ⟨by lia,yA Ck⟩
  have ref:=B7 (vX jl js p1 p2 hP N s1 s2 (qI Ck (by simp)) vT (.inr rf))
  refine yes (i:=0) h0 ?_
  refine c9 (d:=.int (j:Int)) (da (aW (a:=.int (cell/4)) (b:=.int ((xL.length:Int)+1)) (d4 _) (aW (a:=.int (xL.length:Int)) (b:=.int 1) (bM (ds:=[.tup (xL.map Item.d)]) rfl (by simp only[bX,aZ])) rfl rfl) (by rw[<-ej];show R.guard _ _=_;rw[a4 (by lia)])) rfl) ?_
  have cM:cnt "set" (("do":Str)::Item.aE nm xL)+cnt "again" (("do":Str)::Item.aE nm xL)=Item.aP xL:=by
   rw[dq,dq,if_neg (by trivial),if_neg (by trivial),p9,p9]
   exact Item.Gw N qO xL dJ
  have ec:=X3 (ws:=("do":Str)::Item.aE nm xL) (NI _ r3) (by have:=(kS _ r3).1;lia) (O:=EK ns P nm xL T cell [.own (Q3.map D.str),.ro (.int (j:Int)),.no,.no,.no]) (g:=gL (oh " " (af aI (gV 6) (gC (.int 2))))) (bH (tV (x:=bV ("do"::Item.aE nm xL)) (aW (a:=.lst (Q3.map D.str)) (b:=.int 2) rfl rfl rfl) (by lia) (by trivial) s3))
  rw[cM] at ec
  refine c9 (d:=.int ((Item.aP xL:Nat):Int)) (da ec rfl) ?_
  have tk:∀O:G,eY (gV 3) bU (bJ (gV 7)) (EK ns P nm xL T cell (.own (Q3.map D.str) :: .ro (.int (j:Int))::O)) = .ok (.tup ((xL.take j).map Item.d)):=λO=>by
   show R.ok (D.tup (eD (xL.map Item.d) none (some (j:Int))))=_
   rw[n9,r0]
  have dr:∀O:G,eY (gV 3) (bJ (gV 7)) bU (EK ns P nm xL T cell (.own (Q3.map D.str) :: .ro (.int (j:Int))::O)) = .ok (.tup ((xL.drop j).map Item.d)):=λO=>by
   show R.ok (D.tup (eD (xL.map Item.d) (some (j:Int)) none))=_
   rw[n9,rZ]
  refine gp (ds:=(([("do":Str)]++Item.aE nm (xL.take j))++ow).map D.str) (kz (bH (j7 (fx (ws:=[("do":Str)]) rfl (by simp)) (pG (ds:=[a6 false nm,.tup ((xL.take j).map Item.d)]) (aJ rfl (aJ (tk _) rfl)) wA) (by simp;lia))) (bM (ds:=[.int P,a6 false nm,.int (cell/60),.int ((Item.aP xL:Nat):Int)]) (aJ rfl (aJ rfl (aJ (aW (a:=.int cell) (b:=.int 60) rfl rfl (by walk_at "a")) (aJ rfl rfl)))) eo) (by simp;lia)) ?_
  refine dF (bM (aJ ?_ rfl) ref)
  have X9:kP " " (gL (gf (gV 9) (gL (kv (qE 12) (ae (gV 2) (ae (eY (gV 3) (bJ (gV 7)) bU) ak)))))) (EK ns P nm xL T cell [.own (Q3.map D.str),.ro (.int (j:Int)),.ro (.int ((Item.aP xL:Nat):Int)),.own ((([("do":Str)]++Item.aE nm (xL.take j))++ow).map D.str),.no]) = .ok (.str (bV ("do"::(Item.aE nm (xL.take j)++(ow++Item.aE nm (xL.drop j)))))):=by
   have e:(([("do":Str)]++Item.aE nm (xL.take j))++ow)++Item.aE nm (xL.drop j)=("do":Str)::(Item.aE nm (xL.take j)++(ow++Item.aE nm (xL.drop j))):=by simp
   refine qJ (BL Ck (by lia)) ?_
   rw[<-e]
   exact bH (kz rfl (bH (pG (ds:=[a6 false nm,.tup ((xL.drop j).map Item.d)]) (aJ rfl (aJ (dr _) rfl)) wB)) (by rw[aY,aY];simp;lia))
  refine qJ jk (bH (kz (us:=Q3.take 2) (ws:=[bV ("do"::(Item.aE nm (xL.take j)++(ow++Item.aE nm (xL.drop j))))]) (Nr (i:=6) (j:=2) rfl rfl) (bH (fx (aJ X9 rfl) (by simp))) (by simp[Q3])))
 .-- a prime K_ is none
  refine no (i:=0) (by lia) ?_
  obtain⟨q,hq,eq⟩:∃q:Nat,q<16/\cell/4%16=(q:Int):=⟨(cell/4%16).toNat,by lia,by lia⟩
  have t5:(iF P).getD q ""∈iF P:=nu (ns:=iF P) (by simpa [iF] using hq)
  obtain⟨pw,kw,hw⟩:=X0 p1 p2 _ t5
  have Gm:(9999:Int)*9999<=10^30:=by decide
  have pp:P*P<=9999*9999:=Ae (by lia) (by lia) (by lia) (by lia)
  have Gv:0<=P*P:=a3y (by lia) (by lia)
  have sP:iN [.int P] = .ok (.str (aH P)):=sq (by lia) (by lia)
  have lP:=qB (n:=P) (by lia) (by lia)
  refine yes (i:=1) h1 ?_
  refine gp (ds:=((iF P).take 10).map D.str) (fx (ws:=(iF P).take 10) (aJ rfl (aJ rfl (aJ rfl (aJ rfl (aJ rfl (aJ rfl (aJ rfl (aJ rfl (aJ (bM (ds:=[.int (P*P)]) (aJ (aW (a:=.int P) (b:=.int P) rfl rfl (by walk_at "a")) rfl) (sq Gv (by lia))) (aJ (bM (ds:=[.int (P+19946)]) (aJ (aW (a:=.int P) (b:=.int 19946) rfl (aW (a:=.int 9973) (b:=.int 2) rfl rfl (by walk_at "a";try rfl)) rfl) rfl) (sq (by lia) (by lia))) rfl)))))))))) (by simp[iF])) ?_
  have ad:∀{a b:Str} {ga gb:G->R D} {O:G},ga O = .ok (.str a)->gb O = .ok (.str b)->a.length+b.length<=1000->af z5z ga gb O = .ok (.str (a++b)):=λ{a b ga gb O} h1 h2 h=>aW h1 h2 (by show R.guard _ _=_;rw[a4 (by lia)])
  have c1:("0":Str).length=1/\("+":Str).length=1/\("-":Str).length=1/\(".0":Str).length=2/\("prime ":Str).length=6:=by trivial
  have gs:∀O:G,az iN (ae (gV 1) ak) (En.ro (.lst (ns.map D.int)) :: .ro (.int P)::O) = .ok (.str (aH P)):=λO=>bM (ds:=[.int P]) rfl sP
  refine gp (ds:=(iF P).map D.str) (kz (us:=(iF P).take 10) (ws:=(iF P).drop 10) rfl (bH (fx (ws:=(iF P).drop 10) (aJ (ad rfl (gs _) (by lia)) (aJ (ad rfl (gs _) (by lia)) (aJ rfl (aJ (ad rfl (gs _) (by lia)) (aJ (ad (gs _) rfl (by lia)) (aJ rfl rfl)))))) (by simp[iF]))) (by simp[iF])) ?_
  have ew:af aI (gV 10) (af a_ (af dw (gV 5) (gC (.int 4))) (gC (.int 16))) (EK ns P nm xL T cell [.own (Q3.map D.str),.no,.no,.no,.own ((iF P).map D.str)]) = .ok (.str ((iF P).getD q "")) :=
   aW (a:=.lst ((iF P).map D.str)) rfl (aW (a:=.int (cell/4)) (b:=.int 16) (d4 _) rfl (by rw[<-eq];walk_at "a")) (Gj (by simpa [iF] using hq))
  generalize (iF P).getD q ""=w at *
  have lwp:=pw.1
  have es:yh (af z5z (gC (.str "prime ")) (af aI (gV 10) (af a_ (af dw (gV 5) (gC (.int 4))) (gC (.int 16))))) (EK ns P nm xL T cell [.own (Q3.map D.str),.no,.no,.no,.own ((iF P).map D.str)]) = .ok (.str (sY (("prime ":Str)++w))):=by
   unfold yh
   rw[ad rfl ew (by lia),R.bB]
   show R.guard _ _=_
   rw[a4 (by rw[kT];lia)]
  have main:∀ws:List Str,sY (("prime ":Str)++w)=bV (("prime":Str)::ws)->(∀z∈("prime":Str)::ws,b9 z)->ws.length<=10->j6 [.lst (ws.map D.str)] = .er .aQ->bY (az tO (ae (kP "\n" (gL (gf (gL (bN (ae (yh (af z5z (gC (.str "prime ")) (af aI (gV 10) (af a_ (af dw (gV 5) (gC (.int 4))) (gC (.int 16)))))) ak))) (eY (gV 6) (bJ (gC (.int 1))) bU)))) ak)) (EK ns P nm xL T cell [.own (Q3.map D.str),.no,.no,.no,.own ((iF P).map D.str)]) = .ok (.rt (.bl true)):=λws e pl lw rf=>by
   have Cm:=vL pl
   rw[a3] at Cm
   obtain⟨jk,jl,js⟩:=GB ⟨by lia,yA pl⟩ ⟨by lia,NK⟩ ⟨by lia,NL⟩
   have ref:=B7 (vV jl js (qI pl (by simp)) sA (.inr rf))
   rw[e] at es
   exact dF (bM (aJ (qJ jk (bH (kz (us:=[bV (("prime":Str)::ws)]) (ws:=Q3.drop 1) (bH (fx (ws:=[bV (("prime":Str)::ws)]) (aJ es rfl) (by simp))) (Gi (i:=6) (j:=1) rfl rfl) (by simp[Q3])))) rfl) ref)
  rcases hw with rfl | ⟨w0,wc,rf⟩
  .refine main [] ?_ (λz hz=>by rw[List.mem_singleton.mp hz];exact FA) (by simp) (FW (ws:=[]) (by simp))
   trivial
  .refine main [w] (by rw[XZ w0 wc,MC]) (λz hz=>?_) (by simp) rf
   simp only[gS,iX,or_false] at hz
   rcases hz with rfl | rfl
   .exact FA
   .exact pw
 .-- names K_ are none
  refine no (i:=0) (by lia) (no (i:=1) (by lia) ?_)
  obtain⟨ws,ew,pw,lw,rf⟩:=Xg N (cell/4)
  have pl:∀z∈("boxes":Str)::ws,b9 z:=λz hz=>by
   rcases List.mem_cons.mp hz with rfl | hz
   .exact MA
   .exact(pw z hz).1
  have Cm:=vL pl
  rw[a3] at Cm
  obtain⟨jk,jl,js⟩:=GB ⟨by lia,NJ⟩ ⟨by lia,yA pl⟩ ⟨by lia,NL⟩
  have ref:=B7 (vW jl js p1 p2 hP s1 (qI pl (by simp)) tY (.inr rf))
  refine yes (i:=2) h2 ?_
  refine dF (bM (aJ (qJ jk (bH (fx (ws:=[bV ["prime",aH P],bV (("boxes":Str)::ws),bV ("do"::Item.aE nm xL)]) (aJ (aW (a:=.lst (Q3.map D.str)) (b:=.int 0) rfl rfl rfl) (aJ (qJ (ws:=("boxes":Str)::ws) (BL pl (by simp;lia)) (bH (kz (us:=[("boxes":Str)]) (ws:=ws) (bH (fx (ws:=[("boxes":Str)]) rfl (by simp))) (bM (ds:=[a6 false nm,.int (cell/4)]) (aJ rfl (aJ (d4 _) rfl)) ew) (by simp;lia)))) (aJ (aW (a:=.lst (Q3.map D.str)) (b:=.int 2) rfl rfl rfl) rfl))) (by simp)))) rfl) ref)
 .-- signs
  refine no (i:=0) (by lia) (no (i:=1) (by lia) (no (i:=2) (by lia) ?_))
  have H:Nk [bV ["prime",aH P],bV ("boxes"::nm),bV ("do"::Item.aE nm xL)]:=by
   have each:∀t∈[bV ["prime",aH P],bV ("boxes"::nm),bV ("do"::Item.aE nm xL)],∃ws∈dY P nm xL,t=bV ws:=λt ht=>by
    simp only[gS,iX,or_false] at ht
    rcases ht with rfl | rfl | rfl
    .exact⟨_,r1,rfl⟩
    .exact⟨_,r2,rfl⟩
    .exact⟨_,r3,rfl⟩
   refine⟨λt ht=>?_,λt ht=>?_,λt ht=>?_,λt ht=>?_,λt ht=>?_⟩
   .obtain⟨ws,hw,rfl⟩:=each t ht
    exact Cg ws hw
   .obtain⟨ws,hw,rfl⟩:=each t ht
    refine Cc λc hc=>?_
    rw[tT] at hc
    rcases BJ 32 hc with rfl | ⟨x,hx,hz⟩
    .decide
    .exact v9 (NI ws hw x hx) hz
   .obtain⟨ws,hw,rfl⟩:=each t ht
    exact Ci ws hw
   .obtain⟨ws,hw,rfl⟩:=each t ht
    have:=Nj (kS ws hw).2
    have:=(kS ws hw).1
    rw[tT]
    lia
   .have hd:∀(f:Str) (ws:List Str) (c:Nat) (q:List Nat),f.cps.toList=c::q->∃r,(bV (f::ws)).cps.toList=c::r:=λf ws c q hf=>by
     rw[tT]
     cases ws with
     | nil=>exact⟨q,hf⟩
     | cons y z=>exact⟨_,by rw[lJ,hf];rfl⟩
    simp only[gS,iX,or_false] at ht
    rcases ht with rfl | rfl | rfl
    .obtain⟨r,e⟩:=hd "prime" [aH P] 112 [114,105,109,101] (by trivial)
     exact⟨_,r,e,.inl rfl⟩
    .obtain⟨r,e⟩:=hd "boxes" nm 98 [111,120,101,115] (by trivial)
     exact⟨_,r,e,.inr (.inl rfl)⟩
    .obtain⟨r,e⟩:=hd "do" (Item.aE nm xL) 100 [111] (by trivial)
     exact⟨_,r,e,.inr (.inr rfl)⟩
  obtain⟨T',e,lT,h⟩:=Xp Cj (by lia) H (cell/4)
  have ref:=B7 (X5 N p1 p2 hP dJ (by lia) lT h)
  exact dF (bM (ds:=[.str T']) (aJ (bM (ds:=[.str T,.int (cell/4)]) (aJ rfl (aJ (d4 _) rfl)) e) rfl) ref)
end L3
namespace L3
open PySem PySem.Spec PyProof.Rows L2
abbrev St:=L2.St
instance:Monad R where
 pure:=R.ok
 bind:=R.bind
mutual
def Is(K:aD)(H:Hp):D->V->Prop
 | .cI,v=>v = .cI
 | .bl b,v=>v = .bl b
 | .int i,v=>v = .int i
 | .str x,v=>v = .str x
 | .tup ds,v=>∃a xs,v = .ref a/\cX K H a xs/\ao K H ds xs
 | .lst ds,v=>∃a xs,v = .ref a/\cE K H a xs/\ao K H ds xs
 | .kM,v=>∃a ob,v = .ref a/\H a=some (.gG ob (.own 0))/\ob.cls = .type "dict"
 | .exc c,v=>∃e oe C,v = .ref e/\H e=some (.gG oe (.own 0))/\oe.cls = .ref C/\iL K dm c.nm=some (some (.ref C))
def ao(K:aD)(H:Hp):List D->List V->Prop
 | [],xs=>xs=[]
 | d::ds,xs=>∃x r,xs=x::r/\Is K H d x/\ao K H ds r
end
structure Sub (K:aD) (H H':Hp):Prop where
 t:∀a xs,cX K H a xs->cX K H' a xs
 l:∀a xs,cE K H a xs->cE K H' a xs
 x:∀a o u,H a=some (.gG o u)->H' a=some (.gG o u)
def t6{K:aD}{H H':Hp}{a:Addr}{xs:List V}(e:aT H H')(h:cX K H a xs):cX K H' a xs:=by
 rcases h with (h | ⟨o,h⟩) | h
 .exact .inl (.inl (e _ _ h))
 .exact .inl (.inr ⟨o,e _ _ h⟩)
 .exact .inr h
def Sub.of_same{K:aD}{H H':Hp}(e:aT H H'):Sub K H H':=⟨λ_ _ h=>t6 e h,λ_ _ h=>e.seq h,λ_ _ _ h=>e _ _ h⟩
mutual
def Is.sub{K:aD}{H H':Hp}(s:Sub K H H'):∀(d:D) (v:V),Is K H d v->Is K H' d v
 | .cI,_,h=>h
 | .bl _,_,h=>h
 | .int _,_,h=>h
 | .str _,_,h=>h
 | .tup ds,v,h=>by
   unfold Is at h ⊢
   obtain⟨a,xs,e,h1,h2⟩:=h
   exact⟨a,xs,e,s.t a xs h1,ao.sub s ds xs h2⟩
 | .lst ds,v,h=>by
   unfold Is at h ⊢
   obtain⟨a,xs,e,h1,h2⟩:=h
   exact⟨a,xs,e,s.l a xs h1,ao.sub s ds xs h2⟩
 | .kM,v,h=>by
   unfold Is at h ⊢
   obtain⟨a,ob,e,h1,h2⟩:=h
   exact⟨a,ob,e,s.x a ob _ h1,h2⟩
 | .exc c,v,h=>by
   unfold Is at h ⊢
   obtain⟨a,oe,C,e,h1,h2⟩:=h
   exact⟨a,oe,C,e,s.x a oe _ h1,h2⟩
def ao.sub{K:aD}{H H':Hp}(s:Sub K H H'):∀(ds:List D) (xs:List V),ao K H ds xs->ao K H' ds xs
 | [],_,h=>h
 | d::ds,xs,h=>by
   unfold ao at h ⊢
   obtain⟨x,r,e,h1,h2⟩:=h
   exact⟨x,r,e,Is.sub s d x h1,ao.sub s ds r h2⟩
end
def Is.same{K:aD}{H H':Hp}{d:D}{v:V}(h:Is K H d v)(e:aT H H'):Is K H' d v:=Is.sub (.of_same e) d v h
def ao.same{K:aD}{H H':Hp}{ds:List D}{xs:List V}(h:ao K H ds xs)(e:aT H H'):ao K H' ds xs:=ao.sub (.of_same e) ds xs h
def Is.bZ{K:aD}{H:Hp}{i:Int}{v:V}:Is K H (.int i) v↔v = .int i:=by unfold Is;rfl
def Is.gN{K:aD}{H:Hp}{b:Bool}{v:V}:Is K H (.bl b) v↔v = .bl b:=by unfold Is;rfl
def Is.fW{K:aD}{H:Hp}{x:Str}{v:V}:Is K H (.str x) v↔v = .str x:=by unfold Is;rfl
def Is.Cn{K:aD}{H:Hp}{v:V}:Is K H .cI v↔v = .cI:=by unfold Is;rfl
def Is.fX{K:aD}{H:Hp}{ds:List D}{v:V}:Is K H (.tup ds) v↔∃a xs,v = .ref a/\cX K H a xs/\ao K H ds xs:=by conv=>lhs;unfold Is
def Is.fD{K:aD}{H:Hp}{ds:List D}{v:V}:Is K H (.lst ds) v↔∃a xs,v = .ref a/\cE K H a xs/\ao K H ds xs:=by conv=>lhs;unfold Is
def Is.NM{K:aD}{H:Hp}{c:Er}{v:V}:Is K H (.exc c) v↔∃e oe C,v = .ref e/\H e=some (.gG oe (.own 0))/\oe.cls = .ref C/\iL K dm c.nm=some (some (.ref C)):=by conv=>lhs;unfold Is
def ao.jU{K:aD}{H:Hp}{xs:List V}:ao K H [] xs↔xs=[]:=by unfold ao;rfl
def ao.jI{K:aD}{H:Hp}{d:D}{ds:List D}{xs:List V}:ao K H (d::ds) xs↔∃x r,xs=x::r/\Is K H d x/\ao K H ds r:=by conv=>lhs;unfold ao
def ao.nil{K:aD}{H:Hp}:ao K H [] []:=ao.jU.mpr rfl
def ao.cons{K:aD}{H:Hp}{d:D}{ds:List D}{x:V}{xs:List V}(h:Is K H d x)(t:ao K H ds xs):ao K H (d::ds) (x::xs):=ao.jI.mpr ⟨x,xs,rfl,h,t⟩
def ao.length{K:aD}{H:Hp}:∀{ds:List D} {xs:List V},ao K H ds xs->ds.length=xs.length
 | [],xs,h=>by rw[ao.jU.mp h];rfl
 | d::ds,xs,h=>by
   obtain⟨x,r,rfl,_,t⟩:=ao.jI.mp h
   rw[a3,a3,ao.length t]
def ao.get{K:aD}{H:Hp}:∀{ds:List D} {xs:List V} {i:Nat} {d:D},ao K H ds xs->ds[i]? = some d->∃x,xs[i]? = some x/\Is K H d x
 | [],_,_,_,_,e=>by simp at e
 | d::ds,xs,0,d',h,e=>by
   obtain⟨x,r,rfl,hx,t⟩:=ao.jI.mp h
   simp at e;subst e
   exact⟨x,rfl,hx⟩
 | d::ds,xs,i+1,d',h,e=>by
   obtain⟨x,r,rfl,hx,t⟩:=ao.jI.mp h
   obtain⟨y,e1,hy⟩:=ao.get (i:=i) t (by simpa using e)
   exact⟨y,by simpa using e1,hy⟩
def ao.GD{K:aD}{H:Hp}{ds:List D}{xs:List V}{i:Nat}{x:V}(h:ao K H ds xs)(e:xs[i]? = some x):∃d,ds[i]? = some d/\Is K H d x:=by
 have hi:i<xs.length:=(List.getElem?_eq_some_iff.mp e).1
 have hd:i<ds.length:=by rw[h.length];exact hi
 obtain⟨y,e1,hy⟩:=h.get (gE hd)
 rw[e] at e1;cases e1
 exact⟨_,gE hd,hy⟩
def ao.append{K:aD}{H:Hp}:∀{ds es:List D} {xs ys:List V},ao K H ds xs->ao K H es ys->ao K H (ds++es) (xs++ys)
 | [],_,_,_,h,t=>by rw[ao.jU.mp h];exact t
 | d::ds,es,xs,ys,h,t=>by
   obtain⟨x,r,rfl,hx,tr⟩:=ao.jI.mp h
   exact ao.cons hx (ao.append tr t)
def ao.drop{K:aD}{H:Hp}:∀{ds:List D} {xs:List V} (n:Nat),ao K H ds xs->ao K H (ds.drop n) (xs.drop n)
 | _,_,0,h=>h
 | [],xs,n+1,h=>by rw[ao.jU.mp h];exact ao.nil
 | d::ds,xs,n+1,h=>by
   obtain⟨x,r,rfl,hx,tr⟩:=ao.jI.mp h
   exact ao.drop n tr
def ao.take{K:aD}{H:Hp}:∀{ds:List D} {xs:List V} (n:Nat),ao K H ds xs->ao K H (ds.take n) (xs.take n)
 | _,_,0,_=>by rw[a3z,a3z];exact ao.nil
 | [],xs,n+1,h=>by rw[ao.jU.mp h];exact ao.nil
 | d::ds,xs,n+1,h=>by
   obtain⟨x,r,rfl,hx,tr⟩:=ao.jI.mp h
   exact ao.cons hx (ao.take n tr)
def ao.set{K:aD}{H:Hp}{d':D}{x':V}(q:Is K H d' x'):∀{ds:List D} {xs:List V} (n:Nat),ao K H ds xs->ao K H (ds.set n d') (xs.set n x')
 | [],xs,n,h=>by rw[ao.jU.mp h];exact ao.nil
 | d::ds,xs,0,h=>by
   obtain⟨x,r,rfl,hx,tr⟩:=ao.jI.mp h
   exact ao.cons q tr
 | d::ds,xs,n+1,h=>by
   obtain⟨x,r,rfl,hx,tr⟩:=ao.jI.mp h
   exact ao.cons hx (ao.set q n tr)
def ao.ints{K:aD}{H:Hp}:∀ns:List Int,ao K H (ns.map D.int) (ns.map V.int)
 | []=>ao.nil
 | n::ns=>ao.cons (Is.bZ.mpr rfl) (ao.ints ns)
def ao.NN{K:aD}{H:Hp}:∀{ns:List Int} {xs:List V},ao K H (ns.map D.int) xs->xs=ns.map V.int
 | [],xs,h=>ao.jU.mp h
 | n::ns,xs,h=>by
   obtain⟨x,r,rfl,hx,tr⟩:=ao.jI.mp h
   rw[Is.bZ.mp hx,ao.NN tr];rfl
def aM(F:List Addr)(H:Hp):Hp:=λb=>if b∈F then none else H b
def qP{F:List Addr}{H:Hp}{b:Addr}(h:b∈F):aM F H b=none:=by unfold aM;rw[if_pos h]
def dc{F:List Addr}{H:Hp}{b:Addr}(h:b ∉ F):aM F H b=H b:=by unfold aM;rw[if_neg h]
def jr{F:List Addr}{H:Hp}{b:Addr}{o:HO}(h:aM F H b=some o):b ∉ F/\H b=some o:=by
 unfold aM at h
 by_cases q:b∈F
 .rw[if_pos q] at h;cases h
 .rw[if_neg q] at h;exact⟨q,h⟩
def bC(H:Hp)(F:List Addr):Prop:=∀b∈F,∃xs,H b=some (.lst xs)
def bC.same{H H':Hp}{F:List Addr}(h:bC H F)(e:aT H H'):bC H' F:=λb hb=>let ⟨xs,q⟩:=h b hb;⟨xs,e _ _ q⟩
def bC.nil{H:Hp}:bC H []:=λb hb=>by simp at hb
def bC.cons{H:Hp}{F:List Addr}{a:Addr}{xs:List V}(h:bC H F)(e:H a=some (.lst xs)):bC H (a::F):=λb hb=>by
 rcases List.mem_cons.mp hb with z | z
 .subst z;exact⟨xs,e⟩
 .exact h b z
def X_{H:Hp}{F:List Addr}{a:Addr}:aT (aM (a::F) H) (aM F H):=λb o h=>by
 obtain⟨h1,h2⟩:=jr h
 rw[dc λz=>h1 (eU _ z)];exact h2
def Co{H H':Hp}{F:List Addr}{a:Addr}(e:aT H H')(hn:H a=none):aT (aM F H) (aM (a::F) H'):=λb o h=>by
 obtain⟨h1,h2⟩:=jr h
 rw[dc λz=>(List.mem_cons.mp z).elim (λq=>by rw[q,hn] at h2;cases h2) h1]
 exact e _ _ h2
def kA{H H':Hp}{F:List Addr}(e:aT H H'):aT (aM F H) (aM F H'):=λb o h=>by
 obtain⟨h1,h2⟩:=jr h
 rw[dc h1];exact e _ _ h2
def iO{H:Hp}{F:List Addr}:aT (aM F H) H:=λb o h=>(jr h).2
def NO{K:aD}{H:Hp}{F:List Addr}{a:Addr}{xs:List V}(fo:bC H F)(h:cX K H a xs):cX K (aM F H) a xs:=by
 rcases h with (h1 | ⟨o,h1⟩) | h1
 .refine .inl (.inl ?_)
  rw[dc λq=>by obtain⟨ys,z⟩:=fo a q;rw[h1] at z;cases z];exact h1
 .refine .inl (.inr ⟨o,?_⟩)
  rw[dc λq=>by obtain⟨ys,z⟩:=fo a q;rw[h1] at z;cases z];exact h1
 .exact .inr h1
mutual
def Is.aM{K:aD}{H:Hp}{F:List Addr}(fo:bC H F):∀(d:D) (v:V),d.cy=true->Is K H d v->Is K (aM F H) d v
 | .cI,_,_,h=>h
 | .bl _,_,_,h=>h
 | .int _,_,_,h=>h
 | .str _,_,_,h=>h
 | .tup ds,v,n,h=>by
   obtain⟨a,xs,e,h1,h2⟩:=Is.fX.mp h
   exact Is.fX.mpr ⟨a,xs,e,NO fo h1,ao.aM fo ds xs (by simpa [D.cy] using n) h2⟩
 | .lst ds,v,n,h=>by simp[D.cy] at n
 | .kM,v,n,h=>by simp[D.cy] at n
 | .exc c,v,n,h=>by
   unfold Is at h ⊢
   obtain⟨a,oe,C,e,h1,h2⟩:=h
   refine⟨a,oe,C,e,?_,h2⟩
   rw[dc λq=>by obtain⟨ys,z⟩:=fo a q;rw[h1] at z;cases z];exact h1
def ao.aM{K:aD}{H:Hp}{F:List Addr}(fo:bC H F):∀(ds:List D) (xs:List V),D.bQ ds=true->ao K H ds xs->ao K (aM F H) ds xs
 | [],_,_,h=>h
 | d::ds,xs,n,h=>by
   obtain⟨x,r,e,h1,h2⟩:=ao.jI.mp h
   have n':d.cy=true/\D.bQ ds=true:=by simpa [D.bQ] using n
   exact ao.jI.mpr ⟨x,r,e,Is.aM fo d x n'.1 h1,ao.aM fo ds r n'.2 h2⟩
end
structure Rel (K:aD) (H:Hp) (F:List Addr) (O:G) (σ:St):Prop where
 len:O.length=σ.length
 ro:∀(i:Nat) d,O[i]? = some (.ro d)->∃v,σ[i]? = some (some v)/\Is K (aM F H) d v
 own:∀(i:Nat) ds,O[i]? = some (.own ds)->∃a xs,σ[i]? = some (some (.ref a))/\a∈F/\H a=some (.lst xs)/\ao K (aM F H) ds xs
 inj:∀(i j:Nat) ds es a,O[i]? = some (.own ds)->O[j]? = some (.own es)->σ[i]? = some (some (.ref a))->σ[j]? = some (some (.ref a))->i=j
def Rel.same{K:aD}{H H':Hp}{F:List Addr}{O:G}{σ:St}(r:Rel K H F O σ)(e:aT H H'):Rel K H' F O σ :=
 ⟨r.len,λi d h=>let ⟨v,h1,h2⟩:=r.ro i d h;⟨v,h1,h2.same (kA e)⟩,λi ds h=>let ⟨a,xs,h1,h2,h3,h4⟩:=r.own i ds h;⟨a,xs,h1,h2,e _ _ h3,h4.same (kA e)⟩,r.inj⟩
def Rel.look{K:aD}{H:Hp}{F:List Addr}{O:G}{σ:St}(r:Rel K H F O σ){i:Nat}{d:D}(h:lk O i = .ok d):∃v,σ[i]? = some (some v)/\Is K H d v:=by
 unfold lk at h
 cases e:O[i]? with
 | none=>rw[e] at h;cases h
 | some en =>
   rw[e] at h
   cases en with
   | no=>cases h
   | ro d'=>cases h;obtain⟨v,h1,h2⟩:=r.ro i d e;exact⟨v,h1,h2.same iO⟩
   | own ds =>
     cases h
     obtain⟨a,xs,h1,h2,h3,h4⟩:=r.own i ds e
     exact⟨.ref a,h1,Is.fD.mpr ⟨a,xs,rfl,cE.of h3,h4.same iO⟩⟩
def Rel.Yb{K:aD}{H:Hp}{F:List Addr}{O:G}{σ:St}(r:Rel K H F O σ){i:Nat}{d:D}(h:o9 O i = .ok d):∃v,σ[i]? = some (some v)/\Is K (aM F H) d v:=by
 unfold o9 at h
 cases e:O[i]? with
 | none=>rw[e] at h;cases h
 | some en =>
   rw[e] at h
   cases en with
   | no=>cases h
   | ro d'=>cases h;exact r.ro i d e
   | own ds=>cases h
structure Ext (H:Hp) (F:List Addr) (H':Hp) (F':List Addr):Prop where
 keep:∀b o,b ∉ F->H b=some o->H' b=some o
 old:∀b,b∈F'->b∈F∨H b=none
def Ext.refl{H:Hp}{F:List Addr}:Ext H F H F:=⟨λ_ _ _ h=>h,λ_ h=>.inl h⟩
def Ext.of_same{H H':Hp}{F:List Addr}(e:aT H H'):Ext H F H' F:=⟨λ_ _ _ h=>e _ _ h,λ_ h=>.inl h⟩
def Ext.trans{H H1 H2:Hp}{F F1 F2:List Addr}(a:Ext H F H1 F1)(b:Ext H1 F1 H2 F2):Ext H F H2 F2 where
 keep:=λc o hc h=>b.keep c o (λz=>(a.old c z).elim hc λn=>by rw[h] at n;cases n) (a.keep c o hc h)
 old:=λc hc=>by
  rcases b.old c hc with h | h
  .exact a.old c h
  .by_cases q:c∈F
   .exact .inl q
   .refine .inr ?_
    cases e:H c with
    | none=>rfl
    | some o=>rw[a.keep c o q e] at h;cases h
def Ext.same{H H':Hp}{F':List Addr}(e:Ext H [] H' F'):aT H H':=λb o h=>e.keep b o (by simp) h
def Ext.aM{H H':Hp}{F F':List Addr}(e:Ext H F H' F'):aT (aM F H) (aM F' H'):=λb o h=>by
 obtain⟨h1,h2⟩:=jr h
 have h3:=e.keep b o h1 h2
 rw[dc λz=>(e.old b z).elim h1 λn=>by rw[h2] at n;cases n]
 exact h3
def tg(c:Er):Option Addr:=match c with
 | .aQ=>some 0
 | _=>none
def GF(o:Option Addr)(vs:Array Value):Prop:=(∃a0,vs[0]? = some a0)/\(o=none->vs[2]? = some .none)
def kW(X:Cx)(zn:List (Addr×Obj))(σ:St)(H:Hp)(c:Er)(x:Value)(s:ah):Prop :=
 Inv X zn σ H s/\∃(e C:Addr) (oe:Obj) (vs:Array Value),x = .ref e/\X.mg c.nm=some (.ref C)/\H e=none/\X.s₀.heap.get? e=none/\e≠X.env.locals/\(∀y k,X.env.cells.lookup y=some k->k≠e)/\(∀p∈X.pn++zn,p.1≠e) /\
  s.heap.get? e=some oe/\oe.cls = .ref C/\oe.data = .fields vs/\GF (tg c) vs /\
  (vs[1]? = some .none∨∃(T:Addr) (oT:Obj) (ts:Array Value),vs[1]? = some (.ref T)/\H T=none/\X.s₀.heap.get? T=none/\T≠X.env.locals/\(∀y k,X.env.cells.lookup y=some k->k≠T)/\(∀p∈X.pn++zn,p.1≠T)/\T≠e /\
    s.heap.get? T=some oT/\oT.data = .fields ts/\(ts[3]? = some .none∨∃L,X.env.frame=some L/\ts[3]? = some (kh L)))
def di(X:Cx)(zn:List (Addr×Obj))(σ:St)(H:Hp)(r:R D)(u:Value)(s':ah):Prop :=
 ∃d v H',r = .ok d/\Inv X zn σ H' s'/\RelV v u/\aT H H'/\Is X.K H' d v
def bP{α:Type}(X:Cx)(zn:List (Addr×Obj))(σ:St)(H:Hp)(r:R α)(x:Value)(s':ah):Prop :=
 ∃c H',r = .er c/\aT H H'/\kW X zn σ H' c x s'
def bP.bind{α β:Type}{X:Cx}{zn:List (Addr×Obj)}{σ:St}{H:Hp}{r:R α}{x:Value}{s':ah}(h:bP X zn σ H r x s')(k:α->R β):bP X zn σ H (r>>=k) x s':=by
 obtain⟨c,H',e,h1,h2⟩:=h
 exact⟨c,H',R.stop e k,h1,h2⟩
def bP.later{α β:Type}{X:Cx}{zn:List (Addr×Obj)}{σ:St}{H H1:Hp}{r:R α}{a:α}{k:α->R β}{x:Value}{s':ah}(e:r = .ok a)(s:aT H H1)(h:bP X zn σ H1 (k a) x s'):bP X zn σ H (r>>=k) x s':=by
 obtain⟨c,H',e1,h1,h2⟩:=h
 exact⟨c,H',(R.step e k).trans e1,s.trans h1,h2⟩
structure PD (X:Cx) (e:Expr) (g:G->R D):Prop where
 run:∀(zn:List (Addr×Obj)) (s:ah) (σ:St) (H:Hp) (F:List Addr) (O:G),Inv X zn σ H s->bC H F->Rel X.K H F O σ->g O ≠ .no ->
  au (aF X.prog X.w) X.A (eval e X.env) (di X zn σ H (g O)) (bP X zn σ H (g O)) s
structure iP (X:Cx) (e:Expr) (g:G->R D):Prop where
 run:∀(zn:List (Addr×Obj)) (s:ah) (σ:St) (H:Hp) (F:List Addr) (O:G),Inv X zn σ H s->bC H F->Rel X.K H F O σ->g O ≠ .no ->
  au (aF X.prog X.w) X.A (eval e X.env) (λu s'=>∃d v H',g O = .ok d/\Inv X zn σ H' s'/\RelV v u/\aT H H'/\Is X.K (aM F H') d v) (bP X zn σ H (g O)) s
structure PF (X:Cx) (e:Expr) (g:G->R (List D)):Prop where
 run:∀(zn:List (Addr×Obj)) (s:ah) (σ:St) (H:Hp) (F:List Addr) (O:G),Inv X zn σ H s->bC H F->Rel X.K H F O σ->g O ≠ .no ->
  au (aF X.prog X.w) X.A (eval e X.env) (λu s'=>∃ds a xs H',g O = .ok ds/\Inv X zn σ H' s'/\u = .ref a/\aT H H'/\H a=none/\H' a=some (.lst xs)/\ao X.K (aM (a::F) H') ds xs) (bP X zn σ H (g O)) s
structure kB (X:Cx) (e:Expr) (g:G->R Bool):Prop where
 run:∀(zn:List (Addr×Obj)) (s:ah) (σ:St) (H:Hp) (F:List Addr) (O:G),Inv X zn σ H s->bC H F->Rel X.K H F O σ->g O ≠ .no ->
  au (aF X.prog X.w) X.A (oS e X.env (eval e X.env)) (λb s'=>∃H',g O = .ok b/\Inv X zn σ H' s'/\aT H H') (bP X zn σ H (g O)) s
structure kX (X:Cx) (e:Expr) (g:G->R Bool):Prop where
 run:∀(whole:Sem Value) (zn:List (Addr×Obj)) (s:ah) (σ:St) (H:Hp) (F:List Addr) (O:G),Inv X zn σ H s->bC H F->Rel X.K H F O σ->g O ≠ .no ->
  au (aF X.prog X.w) X.A (oS e X.env whole) (λb s'=>∃H',g O = .ok b/\Inv X zn σ H' s'/\aT H H') (bP X zn σ H (g O)) s
def kX.pt{X:Cx}{e:Expr}{g:G->R Bool}(h:kX X e g):kB X e g:=⟨h.run _⟩
structure mF (X:Cx) (es:List Expr) (g:G->R (List D)):Prop where
 run:∀(pos:Pos) (zn:List (Addr×Obj)) (s:ah) (σ:St) (H:Hp) (F:List Addr) (O:G),Inv X zn σ H s->bC H F->Rel X.K H F O σ->g O ≠ .no ->
  au (aF X.prog X.w) X.A (fJ (cD pos (a8 es X.env))) (λus s'=>∃ds vs H',g O = .ok ds/\Inv X zn σ H' s'/\Vals vs us/\aT H H'/\ao X.K H' ds vs) (bP X zn σ H (g O)) s
section
variable {X:Cx}{e a b c:Expr}{g ga gb gc:G->R D}{pos:Pos}
def iP.pd(h:iP X e g):PD X e g:=⟨λzn s σ H F O I fo rl hg =>
 je (h.run zn s σ H F O I fo rl hg) λ_ _ ⟨d,v,H',e1,I',r,S,i⟩=>⟨d,v,H',e1,I',r,S,i.same iO⟩⟩
def PD.ro(h:PD X e g):iP X e (aB g):=⟨λzn s σ H F O I fo rl hg =>
 aq (h.run zn s σ H F O I fo rl (R.left hg)) (λ_ _ ⟨d,v,H',e1,I',r,S,i⟩=>by
  have dZ:=R.next hg e1
  obtain⟨n,e2⟩:=R.cK dZ
  exact⟨d,v,H',(R.step e1 _).trans e2,I',r,S,Is.aM (fo.same S) d v n i⟩) λ_ _ x=>x.bind _⟩
def PF.ro{g:G->R (List D)}(h:PF X e g):iP X e (gL g):=⟨λzn s σ H F O I fo rl hg =>
 aq (h.run zn s σ H F O I fo rl (R.left hg)) (λ_ _ ⟨ds,p,xs,H',e1,I',eu,S,hn,hp,i⟩=>by
  have hF:p ∉ F:=λz=>by obtain⟨ys,q⟩:=fo p z;rw[hn] at q;cases q
  exact⟨.lst ds,.ref p,H',(R.step e1 _),I',eu,S,Is.fD.mpr ⟨p,xs,rfl,cE.of (by rw[dc hF];exact hp),i.same X_⟩⟩) λ_ _ x=>x.bind _⟩
def PF.pd{g:G->R (List D)}(h:PF X e g):PD X e (gL g):=h.ro.pd
def PD.of{t:TE}(h:PE X.b5 e t)(hq:∀σ H F O,bC H F->Rel X.K H F O σ->g O ≠ .no->t σ H λv H'=>∃d,g O = .ok d/\aT H H'/\Is X.K H' d v):PD X e g:=⟨λzn s σ H F O I fo rl hg =>
 aq (h zn s σ H _ (I.dv _) (hq σ H F O fo rl hg)) (λ_ _ ⟨v,H',I',r,d,e1,S,i⟩=>⟨d,v,H',e1,I'.fK,r,S,i⟩) λ_ _ z=>cC z⟩
def ai(i:Nat){x:Str}(hN:X.N[i]? = some x:=by rfl)(hv:nX X.env.scope x:=by first | exact iu rfl | exact fu (iu rfl) | exact fu (fu rfl))(hd:(x==("__debug__":Str))=false:=by decide)
 (eA:(x==("__classdict__":Str))=false:=by decide):PD X (.Name x pos) (gV i) :=
 PD.of (t:=KA i) (rU (X:=X.b5) hN hv hd eA) λσ H F O fo rl hg=>by
  obtain⟨d,e⟩:=UB hg
  obtain⟨v,h1,h2⟩:=rl.look e
  exact⟨v,h1,d,e,.refl _,h2⟩
def iH(i:Nat){x:Str}(hN:X.N[i]? = some x:=by rfl)(hv:nX X.env.scope x:=by first | exact iu rfl | exact fu (iu rfl) | exact fu (fu rfl))(hd:(x==("__debug__":Str))=false:=by decide)
 (eA:(x==("__classdict__":Str))=false:=by decide):iP X (.Name x pos) (b7 i):=by
 refine⟨λzn s σ H F O I fo rl hg=>?_⟩
 obtain⟨d,e⟩:=UC hg
 obtain⟨v,h1,h2⟩:=rl.Yb e
 exact aq (rU (X:=X.b5) hN hv hd eA zn s σ H (λv' H'=>v'=v/\H'=H) (I.dv _) ⟨v,h1,rfl,rfl⟩) (λ_ _ ⟨v',H',I',r,e1,e2⟩=>by
  subst e1 e2
  exact⟨d,v',H',e,I'.fK,r,.refl _,h2⟩) λ_ _ z=>cC z
def av{i:Int}{j}:PD X (.Constant (.int i) j pos) (gC (.int i)):=PD.of (t:=tC (.int i)) Sv λ_ _ _ _ _ _ _=>⟨_,rfl,.refl _,Is.bZ.mpr rfl⟩
def t7{b:Bool}{j}:PD X (.Constant (.bool b) j pos) (gC (.bl b)):=PD.of (t:=tC (.bl b)) Sw λ_ _ _ _ _ _ _=>⟨_,rfl,.refl _,Is.gN.mpr rfl⟩
def aK{x:Str}{j}:PD X (.Constant (.str x) j pos) (gC (.str x)):=PD.of (t:=tC (.str x)) Sy λ_ _ _ _ _ _ _=>⟨_,rfl,.refl _,Is.fW.mpr rfl⟩
def NP{x:Str}{d:D}{v:V}{u:Value}(hg:Gl X x)(hm:X.mg x=some u)(r:RelV v u)(i:∀H,Is X.K H d v)(hd:(x==("__debug__":Str))=false:=by decide):PD X (.Name x pos) (gC d) :=
 PD.of (t:=tC v) (Sz (X:=X.b5) hg hm r hd) λ_ H _ _ _ _ _=>⟨_,rfl,.refl _,i H⟩
def gO(X:Cx)(f:Value->Value->Sem Value)(g:D->D->R D):Prop:=∃r:R2,fv X.b5 f r/\∀H x y dx dy,Is X.K H dx x->Is X.K H dy y->g dx dy ≠ .no->r x y H λz H'=>∃d,g dx dy = .ok d/\aT H H'/\Is X.K H' d z
def gO.run{f:Value->Value->Sem Value}{g:D->D->R D}(h:gO X f g){zn:List (Addr×Obj)}{s:ah}{σ:St}{H:Hp}{x y:V}{v u:Value}{dx dy:D}(I:Inv X zn σ H s)(rx:RelV x v)(ry:RelV y u)
 (ix:Is X.K H dx x) (iy:Is X.K H dy y) (hg:g dx dy ≠ .no) {E:Value->ah->Prop}:au (aF X.prog X.w) X.A (f v u) (di X zn σ H (g dx dy)) E s:=by
 obtain⟨r,ho,hr⟩:=h
 exact aq (ho zn s σ H x y v u _ (I.dv _) rx ry (hr H x y dx dy ix iy hg)) (λ_ _ ⟨z,H',I',rz,d,e,S,i⟩=>⟨d,z,H',e,I'.fK,rz,S,i⟩) λ_ _ z=>cC z
def di.bind{zn:List (Addr×Obj)}{σ:St}{H H1:Hp}{α:Type}{r:R α}{k:α->R D}{a:α}{u:Value}{s':ah}(e:r = .ok a)(S:aT H H1)(h:di X zn σ H1 (k a) u s'):di X zn σ H (r>>=k) u s':=by
 obtain⟨d,v,H',e1,I,rv,S1,i⟩:=h
 exact⟨d,v,H',(R.step e k).trans e1,I,rv,S.trans S1,i⟩
def GG{g2:D->D->R D}{f:Value->Value->Sem Value}(ho:gO X f g2)(ha:PD X a ga)(hb:PD X b gb){zn:List (Addr×Obj)}{s:ah}{σ:St}{H:Hp}{F:List Addr}{O:G}(I:Inv X zn σ H s)(fo:bC H F)(rl:Rel X.K H F O σ)(hg:af g2 ga gb O ≠ .no) :
 au (aF X.prog X.w) X.A (eval a X.env) (λv bT=>au (aF X.prog X.w) X.A (eval b X.env) (λu ax=>au (aF X.prog X.w) X.A (f v u) (di X zn σ H (af g2 ga gb O)) (bP X zn σ H (af g2 ga gb O)) ax) (bP X zn σ H (af g2 ga gb O)) bT) (bP X zn σ H (af g2 ga gb O)) s:=by
 refine aq (ha.run zn s σ H F O I fo rl (R.left hg)) (λv s1 ⟨dx,x,H1,e1,I1,r1,S1,i1⟩=>?_) λ_ _ x=>x.bind _
 have aN:=R.next hg e1
 refine aq (hb.run zn s1 σ H1 F O I1 (fo.same S1) (rl.same S1) (R.left aN)) (λu s2 ⟨dy,y,H2,e2,I2,r2,S2,i2⟩=>?_) λ_ _ x=>bP.later e1 S1 (x.bind _)
 have cA:=R.next aN e2
 exact je (ho.run I2 r1 r2 (i1.same S2) i2 cA) λ_ _ q=>di.bind e1 S1 (di.bind e2 S2 q)
def aG{op:Operator}{g2:D->D->R D}(ho:gO X (iU op) g2)(ha:PD X a ga)(hb:PD X b gb):PD X (.BinOp a op b pos) (af g2 ga gb):=⟨λzn s σ H F O I fo rl hg=>DC (GG ho ha hb I fo rl hg)⟩
def qQ{op:Ju}{g2:D->D->R D}(ho:gO X (i9 op) g2)(ha:PD X a ga)(hb:PD X b gb)(hm:Dj op b=false):PD X (.Compare a [op] [b] pos) (af g2 ga gb):=⟨λzn s σ H F O I fo rl hg=>wpAny_Compare1 (GG ho ha hb I fo rl hg) hm⟩
def NQ{zn:List (Addr×Obj)}{σ:St}{H:Hp}{r:R D}{u:Value}{s':ah}(h:di X zn σ H r u s')(hg:(r>>=rX) ≠ .no):∃b H',u = .bool b/\(r>>=rX) = .ok b/\Inv X zn σ H' s'/\aT H H':=by
 obtain⟨d,v,H',e1,I,rv,S,i⟩:=h
 obtain⟨b,rfl,e2⟩:=El (R.next hg e1)
 rw[Is.gN.mp i] at rv
 exact⟨b,H',rv,(R.step e1 _).trans e2,I,S⟩
def cN{op:Ju}{g2:D->D->R D}(ho:gO X (i9 op) g2)(ha:PD X a ga)(hb:PD X b gb)(hm:Dj op b=false):kB X (.Compare a [op] [b] pos) (gT (af g2 ga gb)):=by
 refine⟨λzn s σ H F O I fo rl hg=>?_⟩
 refine a4a (aq (GG ho ha hb I fo rl (R.left hg)) (λv s1 h1=>aq h1 (λu s2 h2=>aq h2 (λz s3 h3=>?_) λ_ _ x=>x.bind _) λ_ _ x=>x.bind _) λ_ _ x=>x.bind _) hm
 obtain⟨b,H',rfl,e,I',S⟩:=NQ h3 hg
 exact xr ⟨H',e,I',S⟩
def sF(ha:PD X a ga)(he:∀whole,oS a X.env whole=(do let v <-whole;RB a.pos;Ak [v] (truthy v)):=by intro _;rfl):kB X a (gT ga):=by
 refine⟨λzn s σ H F O I fo rl hg=>?_⟩
 refine isTrue_plain (aq (ha.run zn s σ H F O I fo rl (R.left hg)) (λv s1 h3=>?_) λ_ _ x=>x.bind _) (he _)
 obtain⟨b,H',rfl,e,I',S⟩:=NQ h3 hg
 exact xr ⟨H',e,I',S⟩
variable {gA gB:G->R Bool}{rest:List Expr}
def Cp(ha:kB X a gA):kX X (.BoolOp .And [a] pos) gA:=by
 refine⟨λwh zn s σ H F O I fo rl hg=>?_⟩
 refine isTrue_and (je (ha.run zn s σ H F O I fo rl hg) λc s1 e=>?_)
 cases c with
 | true=>exact isTrue_and_nil e
 | false=>exact e
def GH(ha:kB X a gA):kX X (.BoolOp .Or [a] pos) gA:=by
 refine⟨λwh zn s σ H F O I fo rl hg=>?_⟩
 refine isTrue_or (je (ha.run zn s σ H F O I fo rl hg) λc s1 e=>?_)
 cases c with
 | false=>exact isTrue_or_nil e
 | true=>exact e
def yR(ha:kB X a gA)(hb:kX X (.BoolOp .And (b::rest) pos) gB):kX X (.BoolOp .And (a::b::rest) pos) (jV gA gB):=by
 refine⟨λwh zn s σ H F O I fo rl hg=>?_⟩
 refine isTrue_and (aq (ha.run zn s σ H F O I fo rl (R.left hg)) (λc s1 ⟨H1,e1,I1,S1⟩=>?_) λ_ _ x=>x.bind _)
 have aN:=R.next hg e1
 cases c with
 | true=>exact aq (hb.run wh zn s1 σ H1 F O I1 (fo.same S1) (rl.same S1) aN) (λ_ _ ⟨H2,e2,I2,S2⟩=>⟨H2,(R.step e1 _).trans e2,I2,S1.trans S2⟩) λ_ _ x=>bP.later e1 S1 x
 | false=>exact⟨H1,R.step e1 _,I1,S1⟩
def Cq(ha:kB X a gA)(hb:kX X (.BoolOp .Or (b::rest) pos) gB):kX X (.BoolOp .Or (a::b::rest) pos) (kn gA gB):=by
 refine⟨λwh zn s σ H F O I fo rl hg=>?_⟩
 refine isTrue_or (aq (ha.run zn s σ H F O I fo rl (R.left hg)) (λc s1 ⟨H1,e1,I1,S1⟩=>?_) λ_ _ x=>x.bind _)
 have aN:=R.next hg e1
 cases c with
 | false=>exact aq (hb.run wh zn s1 σ H1 F O I1 (fo.same S1) (rl.same S1) aN) (λ_ _ ⟨H2,e2,I2,S2⟩=>⟨H2,(R.step e1 _).trans e2,I2,S1.trans S2⟩) λ_ _ x=>bP.later e1 S1 x
 | true=>exact⟨H1,R.step e1 _,I1,S1⟩
def sG(ha:kB X a gA):kB X (.UnaryOp .Not a pos) (jW gA):=⟨λzn s σ H F O I fo rl hg =>
 isTrue_not (aq (ha.run zn s σ H F O I fo rl (R.left hg)) (λc s1 ⟨H1,e1,I1,S1⟩=>⟨H1,R.step e1 _,I1,S1⟩) λ_ _ x=>x.bind _)⟩
def yS{op}(h:PD X a ga):PD X (.BoolOp op [a] pos) ga:=⟨λzn s σ H F O I fo rl hg=>BoolOp_one (h.run zn s σ H F O I fo rl hg)⟩
def t8(ha:PD X a ga)(hb:PD X (.BoolOp .And (b::rest) pos) gb):PD X (.BoolOp .And (a::b::rest) pos) (ko ga gb):=by
 refine⟨λzn s σ H F O I fo rl hg=>?_⟩
 refine BoolOp_and (aq (ha.run zn s σ H F O I fo rl (R.left hg)) (λv s1 ⟨d,x,H1,e1,I1,r1,S1,i1⟩=>?_) λ_ _ x=>x.bind _)
 have aN:=R.next hg e1
 obtain⟨k,rfl,e2⟩:=El (R.left aN)
 have cA:=R.next aN e2
 rw[Is.gN.mp i1] at r1
 cases r1
 refine xr ?_
 cases k with
 | true=>exact aq (hb.run zn s1 σ H1 F O I1 (fo.same S1) (rl.same S1) cA) (λ_ _ q=>di.bind e1 S1 (di.bind e2 (.refl _) q)) λ_ _ q=>bP.later e1 S1 (bP.later e2 (.refl _) q)
 | false=>exact di.bind e1 S1 (di.bind e2 (.refl _) ⟨.bl false,.bl false,H1,rfl,I1,rfl,.refl _,Is.gN.mpr rfl⟩)
def Yc(ha:PD X a ga):PD X (.UnaryOp .Not a pos) (Em ga):=by
 refine⟨λzn s σ H F O I fo rl hg=>?_⟩
 refine UnaryOp_ (aq (ha.run zn s σ H F O I fo rl (R.left hg)) (λv s1 ⟨d,x,H1,e1,I1,r1,S1,i1⟩=>?_) λ_ _ x=>x.bind _)
 have aN:=R.next hg e1
 obtain⟨k,rfl,e2⟩:=El (R.left aN)
 rw[Is.gN.mp i1] at r1
 cases r1
 exact not_of (xr (di.bind e1 S1 (di.bind e2 (.refl _) ⟨.bl (!k),.bl (!k),H1,rfl,I1,rfl,.refl _,Is.gN.mpr rfl⟩)))
def Yd(ha:PD X a ga):PD X (.UnaryOp .USub a pos) (rY ga):=by
 refine⟨λzn s σ H F O I fo rl hg=>?_⟩
 refine UnaryOp_ (aq (ha.run zn s σ H F O I fo rl (R.left hg)) (λv s1 ⟨d,x,H1,e1,I1,r1,S1,i1⟩=>?_) λ_ _ x=>x.bind _)
 have aN:=R.next hg e1
 cases d with
 | int i =>
   rw[Is.bZ.mp i1] at r1
   obtain⟨t,rfl⟩:=r1
   exact neg_int (di.bind e1 S1 ⟨.int (-i),.int (-i),H1,rfl,I1.tok _,⟨_,rfl⟩,.refl _,Is.bZ.mpr rfl⟩)
 | _=>exact absurd rfl aN
variable {es:List Expr}{gs:G->R (List D)}
def aA:mF X [] ak:=⟨λpos zn s σ H F O I fo rl hg=>jz ⟨[],[],H,rfl,I,.nil,.refl _,ao.nil⟩⟩
def aj(ha:PD X e g)(hr:mF X es gs)(hs:a8 (e::es) X.env=(false,eval e X.env)::a8 es X.env:=by rfl):mF X (e::es) (ae g gs):=by
 refine⟨λpos zn s σ H F O I fo rl hg=>?_⟩
 rw[hs]
 show au _ _ (fJ ((false,eval e X.env)::cD pos (a8 es X.env))) _ _ s
 refine gF (aq (ha.run zn s σ H F O I fo rl (R.left hg)) (λu s1 ⟨d,x,H1,e1,I1,r1,S1,i1⟩=>?_) λ_ _ x=>x.bind _)
 have aN:=R.next hg e1
 refine aq (hr.run pos zn s1 σ H1 F O I1 (fo.same S1) (rl.same S1) (R.left aN)) (λus s2 ⟨ds,vs,H2,e2,I2,r2,S2,i2⟩=>?_) λ_ _ x=>bP.later e1 S1 (x.bind _)
 exact⟨d::ds,x::vs,H2,(R.step e1 _).trans (R.step e2 _),I2,.cons r1 r2,S1.trans S2,ao.cons (i1.same S2) i2⟩
def nB{n:Nat}(h:n<=1000):n<=bK:=Jq (Ur h)
def gY{H:Hp}{p:Addr}(h:H p=none)(o:HO):aT H (upd H p o):=λb u q=>by rw[b_ (jA q h)];exact q
def qR{x1}(h:mF X es gs):PD X (.Tuple es x1 pos) (jD gs):=by
 refine⟨λzn s σ H F O I fo rl hg=>?_⟩
 refine a4b (aq (h.run pos zn s σ H F O I fo rl (R.left hg)) (λus s1 ⟨ds,vs,H1,e1,I1,r1,S1,i1⟩=>?_) λ_ _ x=>x.bind _)
 have dZ:=R.next hg e1
 obtain⟨hl,e2⟩:=R.cK dZ
 have hz:vs.length<=bK:=by rw[<-i1.length];exact nB hl
 refine⟨by rw[<-r1.length];exact hz,?_⟩
 have hf:H1 s1.heap.objs.size=none:=I1.aU.fresh (a9 _)
 have S2:=gY hf (.tup vs)
 refine di.bind e1 S1 ⟨.tup ds,.ref s1.heap.objs.size,upd H1 s1.heap.objs.size (.tup vs),e2,I1.laid (t':=s1.toks) (λb u e=>eX _ e) (a9 _) ?_,rfl,S2,Is.fX.mpr ⟨_,vs,rfl,cX.of dg,i1.same S2⟩⟩
 exact⟨hz,us,r1,⟨_,g0 _ rfl,rfl,_,rfl⟩⟩
def cW(h:mF X es gs):PF X (.List es pos) (bN gs):=by
 refine⟨λzn s σ H F O I fo rl hg=>?_⟩
 refine RC (aq (h.run pos zn s σ H F O I fo rl (R.left hg)) (λus s1 ⟨ds,vs,H1,e1,I1,r1,S1,i1⟩=>?_) λ_ _ x=>x.bind _)
 have dZ:=R.next hg e1
 obtain⟨⟨hl,hn⟩,e2⟩:=R.cK dZ
 have hz:vs.length<=bK:=by rw[<-i1.length];exact nB hl
 refine⟨by rw[<-r1.length];exact hz,?_⟩
 have hf:H1 s1.heap.objs.size=none:=I1.aU.fresh (a9 _)
 have S2:=gY hf (.lst vs)
 have hH:H s1.heap.objs.size=none:=S1.free hf
 refine⟨ds,s1.heap.objs.size,vs,upd H1 s1.heap.objs.size (.lst vs),(R.step e1 _).trans e2,I1.laid (t':=s1.toks) (λb u e=>eX _ e) (a9 _) ?_,rfl,S1.trans S2,hH,dg,?_⟩
 .exact⟨hz,us,0,r1,g0 _ rfl⟩
 .exact ao.aM (((fo.same S1).same S2).cons dg) ds vs hn (i1.same S2)
end
section
variable {X:Cx}{e a b c:Expr}{g ga gb gc:G->R D}{pos:Pos}
def GI{f:Value->Value->Sem Value}{C:Int->Int->Prop}[∀i j,Decidable (C i j)]{v:Int->Int->V}{d:Int->Int->D}(hd:∀K H i j,Is K H (d i j) (v i j))(ho:fv X.b5 f (rI C v)) :
 gO X f (λx y=>match x,y with | .int i,.int j=>R.guard (C i j) (.ok (d i j)) | _,_=>.no):=by
 refine⟨_,ho,λH x y dx dy ix iy hg=>?_⟩
 cases dx with
 | int i =>
   cases dy with
   | int j =>
     obtain⟨hc,e⟩:=R.cK (show R.guard (C i j) (.ok (d i j)) ≠ .no from hg)
     exact⟨i,j,Is.bZ.mp ix,Is.bZ.mp iy,hc,d i j,e,.refl _,hd _ _ _ _⟩
   | _=>exact absurd rfl hg
 | _=>exact absurd rfl hg
def yT{f:Value->Value->Sem Value}{v:Int->Int->V}{d:Int->Int->D}(hd:∀K H i j,Is K H (d i j) (v i j))(ho:fv X.b5 f (qf v)) :
 gO X f (λx y=>match x,y with | .int i,.int j=>.ok (d i j) | _,_=>.no):=by
 refine⟨_,ho,λH x y dx dy ix iy hg=>?_⟩
 cases dx with
 | int i =>
   cases dy with
   | int j=>exact⟨i,j,Is.bZ.mp ix,Is.bZ.mp iy,d i j,rfl,.refl _,hd _ _ _ _⟩
   | _=>exact absurd rfl hg
 | _=>exact absurd rfl hg
def t9:gO X (iU .Sub) mW:=yT (d:=λi j=>.int (i-j)) (λ_ _ _ _=>Is.bZ.mpr rfl) SQ
def gP:gO X (iU .FloorDiv) dw:=GI (d:=λi j=>.int (i/j)) (λ_ _ _ _=>Is.bZ.mpr rfl) (C:=λi j=>0<j/\j<1073741824) SS
def cH:gO X (iU .Mod) a_:=GI (d:=λi j=>.int (i%j)) (λ_ _ _ _=>Is.bZ.mpr rfl) (C:=λi j=>0<j) SU
def yU:gO X (iU .Pow) n7:=GI (d:=λi j=>.int (i^j.toNat)) (λ_ _ _ _=>Is.bZ.mpr rfl) (C:=λi j=>0<=j/\j<=1000000/\i.natAbs<18446744073709551616) SV
def yV:gO X (i9 .Lt) n8:=yT (d:=λi j=>.bl (decide (i<j))) (λ_ _ _ _=>Is.gN.mpr rfl) SX
def yW:gO X (i9 .LtE) qp:=yT (d:=λi j=>.bl (decide (i<=j))) (λ_ _ _ _=>Is.gN.mpr rfl) SY
def Cr:gO X (i9 .Gt) qq:=yT (d:=λi j=>.bl (decide (j<i))) (λ_ _ _ _=>Is.gN.mpr rfl) S0
def GJ:gO X (i9 .GtE) vg:=yT (d:=λi j=>.bl (decide (j<=i))) (λ_ _ _ _=>Is.gN.mpr rfl) S6
def Ye(K:aD):R2:=λx y H Q=>∃a b xs ys,x = .ref a/\y = .ref b/\cX K H a xs/\cX K H b ys/\xs.length+ys.length<=bK /\
 (xs=[]->Q (.ref b) H)/\(xs≠[]->ys=[]->Q (.ref a) H)/\(xs≠[]->ys≠[]->∀p,H p=none->Q (.ref p) (upd H p (.tup (xs++ys))))
def Yg:fv X (iU .Add) (Ye X.K):=by
 intro zn s σ H x y v u Q I rx ry h
 obtain⟨a,b,xs,ys,rfl,rfl,ha,hb,hz,q0,q1,q2⟩:=h
 by_cases hx:xs=[]
 .cases rx
  cases ry
  obtain⟨xL,r1,p1,_⟩:=I.tuple ha
  obtain⟨xS,r2,p2,_⟩:=I.tuple hb
  have hi:xL=[]:=r1.jU.mpr hx
  obtain⟨⟨cls,dd,data,sl⟩,ho,hc,n,hd⟩:=id p1
  obtain⟨⟨Ti,AK,data2,AL⟩,tB,mq,n2,hd2⟩:=id p2
  simp only at hc hd mq hd2
  subst hc hd mq hd2
  exact Jy ⟨_,ho,rfl⟩ ⟨_,tB,rfl⟩ QM QN QO QP (QQ _ _)
   (tuple_addW0 a b xL.toArray xS.toArray n n2 dd AK sl AL (by rw[hi];rfl)) ⟨ho,tB,⟨.ref b,H,I,rfl,q0 hx⟩⟩
 .exact Tv zn s σ H _ _ v u Q I rx ry ⟨a,b,xs,ys,rfl,rfl,ha,hb,hx,hz,q1 hx,q2 hx⟩
def dO:gO X (iU .Add) cu:=by
 refine⟨_,fv.or (SO (X:=X.b5)) (Yg (X:=X.b5)),λH x y dx dy ix iy hg=>?_⟩
 cases dx with
 | int i =>
   cases dy with
   | int j=>exact .inl ⟨i,j,Is.bZ.mp ix,Is.bZ.mp iy,.int (i+j),rfl,.refl _,Is.bZ.mpr rfl⟩
   | _=>exact absurd rfl hg
 | tup ds =>
   cases dy with
   | tup es =>
     obtain⟨hc,e⟩:=R.cK (show R.guard (ds.length+es.length<=1000) (R.ok (D.tup (ds++es)))≠R.no from hg)
     obtain⟨a,xs,rfl,h1,h2⟩:=Is.fX.mp ix
     obtain⟨b,ys,rfl,h3,h4⟩:=Is.fX.mp iy
     refine .inr ⟨a,b,xs,ys,rfl,rfl,h1,h3,by rw[<-h2.length,<-h4.length];exact nB hc,λz=>?_,λz z'=>?_,λz z' p hp=>?_⟩
     .refine⟨.tup (ds++es),e,.refl _,Is.fX.mpr ⟨b,ys,rfl,h3,?_⟩⟩
      have:ds=[]:=List.length_eq_zero_iff.mp (by rw[h2.length,z];rfl)
      rw[this];exact h4
     .refine⟨.tup (ds++es),e,.refl _,Is.fX.mpr ⟨a,xs,rfl,h1,?_⟩⟩
      have:es=[]:=List.length_eq_zero_iff.mp (by rw[h4.length,z'];rfl)
      rw[this,kE];exact h2
     .have S:=gY hp (.tup (xs++ys))
      exact⟨.tup (ds++es),e,S,Is.fX.mpr ⟨p,xs++ys,rfl,cX.of dg,(h2.append h4).same S⟩⟩
   | _=>exact absurd rfl hg
 | _=>exact absurd rfl hg
def Yh(l:Addr)(items:Array Value)(n:Nat)(dd:Option Addr)(sl:Array (Option Value))(k:Int)(u:Tok)(h1:(decide (k < -(2^63))||decide (k≥2^63))=false)(hc:(items.isEmpty||k==1)=true) :
 JS (Builtin.«tuple.__mul__» ⟨[.ref l,.int k u],[]⟩) (λ_ Q s=>s.heap.get? l=some { cls:=.type "tuple",dict:=dd,data:=.seq items n,slots:=sl }/\Q (.ok (.ret (dS l))) s) :=
 .of_wp λprog w A Q s h=>by obtain⟨hp,g,d,tk,os⟩:=s;obtain⟨hl,h⟩:=h;have f1:=RD;wp_walk using wpAny_loadPart' hl;refine JT (by rw[h1];rfl) ?_;wp_walk using wpAny_loadPart' hl;exact⟨_,rfl,h⟩
def Yi(l:Addr)(items:Array Value)(n:Nat)(dd:Option Addr)(sl:Array (Option Value))(k:Int)(u:Tok)(h1:(decide (k < -(2^63))||decide (k≥2^63))=false)(hc:(items.isEmpty||k==1)=false)(mq:(decide (k<=0)||items.isEmpty)=true) :
 JS (Builtin.«tuple.__mul__» ⟨[.ref l,.int k u],[]⟩) (λ_ Q s=>s.heap.get? l=some { cls:=.type "tuple",dict:=dd,data:=.seq items n,slots:=sl }/\Q (.ok (.ret (dS s.heap.objs.size))) { s with heap:=s.heap.push { cls:=.type "tuple",data:=.seq #[] } }) :=
 .of_wp λprog w A Q s h=>by obtain⟨hp,g,d,tk,os⟩:=s;obtain⟨hl,h⟩:=h;have f1:=RD;wp_walk using wpAny_loadPart' hl;refine JT (by rw[h1];rfl) ?_;wp_walk using wpAny_loadPart' hl;exact⟨_,rfl,h⟩
def Yj(l:Addr)(items:Array Value)(n:Nat)(dd:Option Addr)(sl:Array (Option Value))(k:Int)(u:Tok)(h1:(decide (k < -(2^63))||decide (k≥2^63))=false)(hc:(items.isEmpty||k==1)=false)(mq:(decide (k<=0)||items.isEmpty)=false)(yn:¬((items.size:Int)*k>(2^63-1)/8))(hc4:a4c ((items.size:Int)*k)=false)(hc5:¬((b0 k.toNat items).foldl (λx1 x2=>x1++x2) #[]).size>bK) :
 JS (Builtin.«tuple.__mul__» ⟨[.ref l,.int k u],[]⟩) (λ_ Q s=>s.heap.get? l=some { cls:=.type "tuple",dict:=dd,data:=.seq items n,slots:=sl }/\Q (.ok (.ret (dS s.heap.objs.size))) { s with heap:=s.heap.push { cls:=.type "tuple",data:=.seq ((b0 k.toNat items).foldl (·++·) #[]) } }) :=
 .of_wp λprog w A Q s h=>by obtain⟨hp,g,d,tk,os⟩:=s;obtain⟨hl,h⟩:=h;have f1:=RD;wp_walk using wpAny_loadPart' hl;refine JT (by rw[h1];rfl) ?_;wp_walk using wpAny_loadPart' hl;refine JT (decide_eq_false yn) ?_;wp_walk using wpAny_loadPart' hl;exact⟨_,rfl,h⟩
def Yk:fillsNumberSlot (.type "tuple") "mul"=pure false :=
 PySem.fillsNumberSlot_seq (id:="tuple.__mul__") (r:=some (.builtin "tuple.__rmul__")) F.slot_tuple_mul.lookup (by trivial) F.slot_tuple_rmul.lookup (by trivial)
def Yl:seqRepeat? (.type "tuple")=pure (some (.builtin "tuple.__mul__")):=by
 unfold seqRepeat?
 rw[a4d (T:="tuple") (name:="__mul__") (id:="tuple.__mul__") F.slot_tuple_mul.lookup (by trivial),a4d (T:="tuple") (name:="__rmul__") (id:="tuple.__rmul__") F.slot_tuple_rmul.lookup (by trivial)]
 rfl
def Ym(a:Int)(t:Tok)(l:Addr)(items:Array Value)(n:Nat)(dd:Option Addr)(sl:Array (Option Value)) :
 JS (Builtin.«int.__rmul__» ⟨[.int a t,.ref l],[]⟩) (λ_ Q s=>s.heap.get? l=some { cls:=.type "tuple",dict:=dd,data:=.seq items n,slots:=sl }/\Q (.ok (.ret Value.notImplemented)) s) :=
 .of_wp λprog w A Q s h=>by obtain⟨hp,g,d,tk,os⟩:=s;obtain⟨hl,h⟩:=h;wp_walk;exact⟨_,rfl,h⟩
def Yn(K:aD):R2:=λx y H Q=>∃l k xs,x = .ref l/\y = .int k/\cX K H l xs/\0<=k/\k<1000000/\xs.length*k.toNat<=1000 /\
 ((xs=[]∨k=1)->Q (.ref l) H)/\(xs≠[]->k≠1->∀p,H p=none->Q (.ref p) (upd H p (.tup (b0 k.toNat xs).flatten)))
def Yo:fv X (iU .Mult) (Yn X.K):=by
 intro zn s σ H x y v u Q I rx ry h
 obtain⟨l,k,xs,rfl,rfl,hH,h1,h2,hz,q0,q1⟩:=h
 cases rx
 obtain⟨t,rfl⟩:=ry
 obtain⟨xL,r,p1,hz2⟩:=I.tuple hH
 have hl:xL.length=xs.length:=r.length.symm
 obtain⟨⟨cls,dd,data,sl⟩,ho,hc,n,hd⟩:=id p1
 simp only at hc hd
 subst hc hd
 have hb:(decide (k < -(2^63))||decide (k≥2^63))=false:=by
  rw[decide_eq_false (by lia),decide_eq_false (by lia)];rfl
 refine a3d (T:="tuple") (U:="int") (by decide) ⟨_,ho,rfl⟩ (λs'=>Dm s' k t) Yk a3e JH Yl F.slot_int_index.lookup
  (p6 JH (Dm s k t) a3f (a3g _ _) (Ym k t l xL.toArray n dd sl) ⟨ho,rfl,⟨_,ho,rfl⟩,?_⟩)
 by_cases c1:xs=[]∨k=1
 .have oy:(xL.toArray.isEmpty||k==1)=true:=by
   rcases c1 with c | c
   .have:xL=[]:=List.length_eq_zero_iff.mp (by rw[hl,c];rfl)
    rw[this];rfl
   .rw[c];simp
  exact p6 RE ⟨_,ho,rfl⟩ RF (RG _ _) (Yh l xL.toArray n dd sl k t hb oy) ⟨ho,⟨.ref l,H,I,rfl,q0 c1⟩⟩
 .have hx:xs≠[]:=λe=>c1 (.inl e)
  have GK:k≠1:=λe=>c1 (.inr e)
  have bO:xL≠[]:=λe=>hx (List.length_eq_zero_iff.mp (by rw[<-hl,e];rfl))
  have he:xL.toArray.isEmpty=false:=by cases xL with | nil=>exact absurd rfl bO | cons a b=>rfl
  have oy:(xL.toArray.isEmpty||k==1)=false:=by rw[he];simpa using GK
  by_cases c2:k<=0
  .have Yp:k=0:=by lia
   refine p6 RE ⟨_,ho,rfl⟩ RF (RG _ _) (Yi l xL.toArray n dd sl k t hb oy (by rw[decide_eq_true c2];rfl)) ⟨ho,?_⟩
   have e0:(b0 k.toNat xs).flatten=[]:=by rw[Yp];rfl
   refine⟨.ref s.heap.objs.size,_,I.laid (t':=s.toks) (o:=.tup (b0 k.toNat xs).flatten) (λb ob q=>eX _ q) (a9 _) ?_,rfl,q1 hx GK _ (I.aU.fresh (a9 _))⟩
   rw[e0]
   exact⟨by decide,[],.nil,⟨_,g0 _ rfl,rfl,_,rfl⟩⟩
  .have f0:∀m:Nat,JF (λx1 x2=>x1++x2) #[] (b0 m xL.toArray)=(b0 m xL).flatten.toArray:=λm=>by
    have:=Ec xL m []
    rw[l_] at this
    exact this
   have Yq:(b0 k.toNat xL).flatten.length<=1000:=by rw[Ee,hl,Q5];exact hz
   have jh:(xL.toArray.size:Int)*k<=1000:=by
    rw[dD,hl,show k=((k.toNat:Nat):Int) by lia]
    exact_mod_cast hz
   refine p6 RE ⟨_,ho,rfl⟩ RF (RG _ _) (Yj l xL.toArray n dd sl k t hb oy (by rw[decide_eq_false c2,he];rfl) (by lia) ?_ ?_) ⟨ho,?_⟩
   .unfold a4c
    have:(1000:Int)<=(bK:Int):=by decide
    exact decide_eq_false (by lia)
   .rw[f0,dD]
    have:=nB Yq
    lia
   .rw[f0]
    refine⟨.ref s.heap.objs.size,_,I.laid (t':=s.toks) (o:=.tup (b0 k.toNat xs).flatten) (λb ob q=>eX _ q) (a9 _) ?_,rfl,q1 hx GK _ (I.aU.fresh (a9 _))⟩
    exact⟨by rw[Ee,Q5];exact nB hz,_,r.rep k.toNat,⟨_,g0 _ rfl,rfl,_,rfl⟩⟩
def ao.rep{K:aD}{H:Hp}{ds:List D}{xs:List V}(h:ao K H ds xs):∀n:Nat,ao K H (b0 n ds).flatten (b0 n xs).flatten
 | 0=>ao.nil
 | n+1=>by rw[rF,xl,rF,xl];exact h.append (ao.rep h n)
def pM:gO X (iU .Mult) lz:=by
 refine⟨_,fv.or (SR (X:=X.b5)) (Yo (X:=X.b5)),λH x y dx dy ix iy hg=>?_⟩
 cases dx with
 | int i =>
   cases dy with
   | int j =>
     obtain⟨hc,e⟩:=R.cK (show R.guard (tF i j) (R.ok (D.int (i*j)))≠R.no from hg)
     refine .inl ⟨i,j,Is.bZ.mp ix,Is.bZ.mp iy,?_,.int (i*j),e,.refl _,Is.bZ.mpr rfl⟩
     unfold tF qo at hc
     show(-(2^64)<i/\i<2^64)∨(-(2^64)<j/\j<2^64)
     lia
   | _=>exact absurd rfl hg
 | tup ds =>
   cases dy with
   | int j =>
     obtain⟨⟨oy,mq⟩,e⟩:=R.cK (show R.guard (0<=j/\j<1000000/\ds.length*j.toNat<=1000) (R.ok (D.tup (b0 j.toNat ds).flatten))≠R.no from hg)
     obtain⟨a,xs,rfl,h1,h2⟩:=Is.fX.mp ix
     have qS:=h2.length
     refine .inr ⟨a,j,xs,rfl,Is.bZ.mp iy,h1,oy,mq.1,by rw[<-qS];exact mq.2,λc=>?_,λz z' p hp=>?_⟩
     .refine⟨_,e,.refl _,Is.fX.mpr ⟨a,xs,rfl,h1,?_⟩⟩
      rcases c with c | c
      .have:ds=[]:=List.length_eq_zero_iff.mp (by rw[qS,c];rfl)
       rw[this,c]
       have e2:∀m:Nat,(b0 m ([]:List D)).flatten=[]:=λm=>by simp
       rw[e2];exact ao.nil
      .subst c
       show ao X.K H (b0 1 ds).flatten xs
       rw[show(b0 1 ds).flatten=ds by simp];exact h2
     .have S:=gY hp (.tup (b0 j.toNat xs).flatten)
      exact⟨_,e,S,Is.fX.mpr ⟨p,_,rfl,cX.of dg,(h2.rep _).same S⟩⟩
   | _=>exact absurd rfl hg
 | _=>exact absurd rfl hg
mutual
def D.py:D->PyData
 | .cI=>.none
 | .bl b=>.bool b
 | .int i=>.int i
 | .str x=>.str x
 | .tup ds=>.tuple (D.fE ds)
 | .lst ds=>.list (D.fE ds)
 | .kM=>.dict []
 | .exc _=>.dict []
def D.fE:List D->List PyData
 | []=>[]
 | d::ds=>d.py::D.fE ds
end
mutual
def pN:∀(n:Nat) (d:D),D.lay n d=true->d.py.canLay0=true/\d.py.depth<=n
 | n,.cI,_=>by simp[D.py,td,Al]
 | n,.bl _,_=>by simp[D.py,td,Al]
 | n,.int _,_=>by simp[D.py,td,Al]
 | n,.str x,h=>by
   have h':PyData.strOk x=true:=by have:=h;rw[kq] at this;exact this
   simp[D.py,td,Al,h']
 | 0,.tup ds,h=>by simp[D.lay] at h
 | 0,.lst ds,h=>by simp[D.lay] at h
 | n+1,.tup ds,h=>by
   have q:=GL n ds (by simpa [D.lay] using h)
   constructor
   .simpa [D.py,td] using q.1
   .have:=q.2
    simp only[D.py,Al];lia
 | n+1,.lst ds,h=>by
   have q:=GL n ds (by simpa [D.lay] using h)
   constructor
   .simpa [D.py,td] using q.1
   .have:=q.2
    simp only[D.py,Al];lia
 | n,.kM,h=>by cases n<;>simp[D.lay] at h
 | n,.exc _,h=>by cases n<;>simp[D.lay] at h
def GL:∀(n:Nat) (ds:List D),D.mX n ds=true->Am (D.fE ds)=true/\An (D.fE ds)<=n
 | n,[],_=>by simp[D.fE,Am,An]
 | n,d::ds,h=>by
   have h':D.lay n d=true/\D.mX n ds=true:=by simpa [D.mX] using h
   have q1:=pN n d h'.1
   have q2:=GL n ds h'.2
   constructor
   .simp[D.fE,Am,q1.1,q2.1]
   .have:=q1.2;have:=q2.2
    simp only[D.fE,An];lia
end
mutual
def pO{zn:List (Addr×Obj)}{σ:St}{H:Hp}{s:ah}(I:Inv X zn σ H s):∀(n:Nat) (d:D) (v:V) (u:Value),D.lay n d=true->Is X.K H d v->RelV v u->∃as,Reads s.heap u d.py as
 | _,.cI,v,u,_,i,r=>by
   rw[Is.Cn.mp i] at r;cases (show u=kg from r)
   exact⟨_,.none⟩
 | _,.bl b,v,u,_,i,r=>by
   rw[Is.gN.mp i] at r;cases (show u=wY b from r)
   exact⟨_,.bool b⟩
 | _,.int k,v,u,_,i,r=>by
   rw[Is.bZ.mp i] at r
   obtain⟨t,rfl⟩:=(show ∃t,u=oR k t from r)
   exact⟨_,.int k t⟩
 | _,.str x,v,u,_,i,r=>by
   rw[Is.fW.mp i] at r
   obtain⟨t,rfl⟩:=(show ∃t,u=zZ x t from r)
   exact⟨_,.str x t⟩
 | 0,.tup ds,v,u,h,_,_=>by simp[D.lay] at h
 | 0,.lst ds,v,u,h,_,_=>by simp[D.lay] at h
 | n+1,.tup ds,v,u,h,i,r=>by
   obtain⟨a,xs,rfl,h1,h2⟩:=Is.fX.mp i
   cases (show u=dS a from r)
   obtain⟨xL,rv,⟨o,ho,hc,m,hd⟩,_⟩:=I.tuple h1
   obtain⟨as,ra⟩:=GN I n ds xs xL (by simpa [D.lay] using h) h2 rv
   exact⟨as,by unfold D.py;exact .tuple ho hc hd (by simpa using ra)⟩
 | n+1,.lst ds,v,u,h,i,r=>by
   obtain⟨a,xs,rfl,h1,h2⟩:=Is.fD.mp i
   cases (show u=dS a from r)
   obtain⟨xL,rv,⟨o,m,ho,hc,_,hd⟩,_⟩:=I.list h1
   obtain⟨as,ra⟩:=GN I n ds xs xL (by simpa [D.lay] using h) h2 rv
   exact⟨a::as,by unfold D.py;exact .list ho hc hd (by simpa using ra)⟩
 | n,.kM,v,u,h,_,_=>by cases n<;>simp[D.lay] at h
 | n,.exc _,v,u,h,_,_=>by cases n<;>simp[D.lay] at h
def GN{zn:List (Addr×Obj)}{σ:St}{H:Hp}{s:ah}(I:Inv X zn σ H s):∀(n:Nat) (ds:List D) (xs:List V) (us:List Value),D.mX n ds=true->ao X.K H ds xs->Vals xs us->∃as,ReadsAll s.heap us (D.fE ds) as
 | n,[],xs,us,_,i,r=>by
   rw[ao.jU.mp i] at r
   cases r
   exact⟨_,by unfold D.fE;exact .nil⟩
 | n,d::ds,xs,us,h,i,r=>by
   obtain⟨x,r',rfl,h1,h2⟩:=ao.jI.mp i
   have h':D.lay n d=true/\D.mX n ds=true:=by simpa [D.mX] using h
   cases r with
   | cons q1 q2 =>
     obtain⟨as,ra⟩:=pO I n d x _ h'.1 h1 q1
     obtain⟨bs,rb⟩:=GN I n ds r' _ h'.2 h2 q2
     exact⟨as++bs,by unfold D.fE;exact .cons ra rb⟩
end
mutual
def Cs:∀x y:D,bG x y=p_ x.py y.py
 | .cI,y=>by cases y<;>simp[bG,D.py,p_]
 | .bl _,y=>by cases y<;>simp[bG,D.py,p_]
 | .int _,y=>by cases y<;>simp[bG,D.py,p_]
 | .str _,y=>by cases y<;>simp[bG,D.py,p_]
 | .kM,y=>by cases y<;>simp[bG,D.py,p_]
 | .exc _,y=>by cases y<;>simp[bG,D.py,p_]
 | .tup xs,y=>by
   cases y with
   | tup ys=>rw[bG,D.py,D.py,p_,GO xs ys]
   | _=>simp[bG,D.py,p_]
 | .lst xs,y=>by
   cases y with
   | lst ys=>rw[bG,D.py,D.py,p_,GO xs ys]
   | _=>simp[bG,D.py,p_]
def GO:∀xs ys:List D,jX xs ys=DD (D.fE xs) (D.fE ys)
 | [],[]=>by simp[jX,D.fE,DD]
 | [],_::_=>by simp[jX,D.fE,DD]
 | _::_,[]=>by simp[jX,D.fE,DD]
 | x::xs,y::ys=>by rw[jX,D.fE,D.fE,DD,Cs x y,GO xs ys]
end
def gv(hu:X.A.units+64<i_):gO X (i9 .Eq) bI:=by
 refine⟨λx y H Q=>∃dx dy,Is X.K H dx x/\Is X.K H dy y/\D.lay 40 dx=true/\D.lay 40 dy=true/\Q (.bl (bG dx dy)) H,?_,λH x y dx dy ix iy hg=>?_⟩
 .intro zn s σ H x y v u Q I rx ry h
  obtain⟨dx,dy,ix,iy,l1,l2,q⟩:=h
  obtain⟨as,ra⟩:=pO I 40 dx x v l1 ix rx
  obtain⟨bs,rb⟩:=pO I 40 dy y u l2 iy ry
  have p1:=pN 40 dx l1
  have p2:=pN 40 dy l2
  have GP:X.A.units+64<i_:=hu
  refine PySem.SeqAt.compareEq_reads ra rb p1.1 p2.1 (show X.A.units+min dx.py.depth dy.py.depth<i_ by lia) ⟨.bl (bG dx dy),H,I,by rw[Cs];rfl,q⟩
 .obtain⟨⟨l1,l2⟩,e⟩:=R.cK hg
  exact⟨dx,dy,ix,iy,l1,l2,.bl (bG dx dy),e,.refl _,Is.gN.mpr rfl⟩
def sH(hu:X.A.units+64<i_):gO X (i9 .NotEq) iM:=by
 refine⟨λx y H Q=>∃dx dy,Is X.K H dx x/\Is X.K H dy y/\D.lay 40 dx=true/\D.lay 40 dy=true/\Q (.bl (!bG dx dy)) H,?_,λH x y dx dy ix iy hg=>?_⟩
 .intro zn s σ H x y v u Q I rx ry h
  obtain⟨dx,dy,ix,iy,l1,l2,q⟩:=h
  obtain⟨as,ra⟩:=pO I 40 dx x v l1 ix rx
  obtain⟨bs,rb⟩:=pO I 40 dy y u l2 iy ry
  have p1:=pN 40 dx l1
  have p2:=pN 40 dy l2
  have GP:X.A.units+64<i_:=hu
  refine PySem.SeqAt.compareNe_reads ra rb p1.1 p2.1 (show X.A.units+min dx.py.depth dy.py.depth<i_ by lia) ⟨.bl (!bG dx dy),H,I,by rw[Cs];rfl,q⟩
 .obtain⟨⟨l1,l2⟩,e⟩:=R.cK hg
  exact⟨dx,dy,ix,iy,l1,l2,.bl (!bG dx dy),e,.refl _,Is.gN.mpr rfl⟩
def ao.cV{K:aD}{H:Hp}{ds:List D}{xs:List V}{i:Int}{d:D}(h:ao K H ds xs)(e:cV ds i=some d):∃x,L2.cV xs i=some x/\Is K H d x:=by
 unfold L2.cV
 unfold L3.cV at e
 rw[<-h.length]
 show ∃x,((L3.jC ds.length i).bind λj=>xs[j]?)=some x/\Is K H d x
 cases q:L3.jC ds.length i with
 | none=>rw[q] at e;cases e
 | some j =>
   rw[q] at e
   exact h.get (by simpa using e)
def cY(ha:PD X a ga)(hb:PD X b gb)(hs:AN b:=by intro _ _;rfl):PD X (.Subscript a b pos) (af aI ga gb):=by
 refine⟨λzn s σ H F O I fo rl hg=>?_⟩
 refine DE (aq (ha.run zn s σ H F O I fo rl (R.left hg)) (λv s1 ⟨dx,x,H1,e1,I1,r1,S1,i1⟩=>?_) λ_ _ x=>x.bind _)
 have aN:=R.next hg e1
 refine aq (hb.run zn s1 σ H1 F O I1 (fo.same S1) (rl.same S1) (R.left aN)) (λu s2 ⟨dy,y,H2,e2,I2,r2,S2,i2⟩=>?_) λ_ _ x=>bP.later e1 S1 (x.bind _)
 have cA:=R.next aN e2
 have lS:=i1.same S2
 have fin:∀(d:D) (z:V),aI dx dy = .ok d->Is X.K H2 d z->∀(w':Value) (s':ah),EP X.b5 zn σ (λz' H'=>z'=z/\H'=H2) w' s'->di X zn σ H (af aI ga gb O) w' s':=λd z ed iz w' s' ⟨z',H',I',rz,ez,eH⟩=>by
  subst ez eH
  exact di.bind e1 S1 (di.bind e2 S2 ⟨d,z',H',ed,I'.fK,rz,.refl _,iz⟩)
 cases dx with
 | tup ds =>
   cases dy with
   | int i =>
     obtain⟨p,xs,rfl,h1,h2⟩:=Is.fX.mp lS
     cases q:cV ds i with
     | none=>exact absurd (show aI (.tup ds) (.int i) = .no by simp only[aI,q]) cA
     | some d =>
       obtain⟨z,ez,iz⟩:=h2.cV q
       exact aq (Ea (X:=X.b5) a b zn s2 σ H2 _ y v u _ (I2.dv _) r1 r2 ⟨p,xs,i,z,rfl,Is.bZ.mp i2,h1,ez,rfl,rfl⟩ (hs _ _)) (λw' s' h=>fin d z (by show aI (.tup ds) (.int i) = .ok d;simp only[aI,q]) iz w' s' h) λ_ _ z=>cC z
   | _=>exact absurd rfl cA
 | lst ds =>
   cases dy with
   | int i =>
     obtain⟨p,xs,rfl,h1,h2⟩:=Is.fD.mp lS
     cases q:cV ds i with
     | none=>exact absurd (show aI (.lst ds) (.int i) = .no by simp only[aI,q]) cA
     | some d =>
       obtain⟨z,ez,iz⟩:=h2.cV q
       exact aq (D9 (X:=X.b5) a b zn s2 σ H2 _ y v u _ (I2.dv _) r1 r2 ⟨p,xs,i,z,rfl,Is.bZ.mp i2,h1,ez,rfl,rfl⟩ (hs _ _)) (λw' s' h=>fin d z (by show aI (.lst ds) (.int i) = .ok d;simp only[aI,q]) iz w' s' h) λ_ _ z=>cC z
   | _=>exact absurd rfl cA
 | _=>exact absurd rfl cA
variable {x:Str}{p:Pos}{es:List Expr}{gs:G->R (List D)}{NR T:String}
def mG(X:Cx)(f:Value)(g:List D->R D):Prop:=∃r:List V->Hp->VK->Prop,jS X.b5 f r/\∀H xs ds,ao X.K H ds xs->g ds ≠ .no->r xs H λz H'=>∃d,g ds = .ok d/\aT H H'/\Is X.K H' d z
def mG.run{f:Value}{g:List D->R D}(h:mG X f g){zn:List (Addr×Obj)}{s:ah}{σ:St}{H:Hp}{xs:List V}{us:List Value}{ds:List D}(I:Inv X zn σ H s)(r:Vals xs us)(i:ao X.K H ds xs)(hg:g ds ≠ .no){E:Value->ah->Prop} :
 au (aF X.prog X.w) X.A (call f us) (di X zn σ H (g ds)) E s:=by
 obtain⟨r',ho,hr⟩:=h
 exact aq (ho zn s σ H xs us _ (I.dv _) r (hr H xs ds i hg)) (λ_ _ ⟨z,H',I',rz,d,e,S,i⟩=>⟨d,z,H',e,I'.fK,rz,S,i⟩) λ_ _ z=>cC z
def fm{g:List D->R D}(hc:mG X (.builtin NR) g)(hm:X.mg x=none)(hv:nR x=some (.builtin NR))(ha:mF X (e::es) gs)(hg:Gl X x:=by rfl)(hn:x≠"__name__":=by decide)(ib:(x==("__debug__":Str))=false:=by decide)
 (he:a8 (e::es) X.env=(false,eval e X.env)::a8 es X.env:=by rfl) (gI:(cD pos (a8 es X.env)).any (·.1)=false:=by rfl):PD X (.Call (.Name x p) (e::es) [] pos) (az g gs):=by
 refine⟨λzn s σ H F O I fo rl bR=>?_⟩
 refine mQ (kl I hg hm hv ?_ hn ib)
 refine JU (aq (ha.run pos zn s σ H F O I fo rl (R.left bR)) (λus s1 ⟨ds,vs,H1,e1,I1,r1,S1,i1⟩=>?_) λ_ _ x=>x.bind _) he gI
 exact je (hc.run I1 r1 i1 (R.next bR e1)) λ_ _ q=>di.bind e1 S1 q
def iI{g:List D->R D}(hc:mG X (.type T) g)(hm:X.mg x=none)(hv:nR x=some (.type T))(ha:mF X (e::es) gs)(hg:Gl X x:=by rfl)(hn:x≠"__name__":=by decide)(ib:(x==("__debug__":Str))=false:=by decide)
 (he:a8 (e::es) X.env=(false,eval e X.env)::a8 es X.env:=by rfl) (gI:(cD pos (a8 es X.env)).any (·.1)=false:=by rfl):PD X (.Call (.Name x p) (e::es) [] pos) (az g gs):=by
 refine⟨λzn s σ H F O I fo rl bR=>?_⟩
 refine mQ (kl I hg hm hv ?_ hn ib)
 refine tf (aq (ha.run pos zn s σ H F O I fo rl (R.left bR)) (λus s1 ⟨ds,vs,H1,e1,I1,r1,S1,i1⟩=>?_) λ_ _ x=>x.bind _) he gI
 exact je (hc.run I1 r1 i1 (R.next bR e1)) λ_ _ q=>di.bind e1 S1 q
def nD{K:aD}{H:Hp}{d:D}{xs:List V}(h:ao K H [d] xs):∃v,xs=[v]/\Is K H d v:=by
 obtain⟨x,r,rfl,h1,h2⟩:=ao.jI.mp h
 rw[ao.jU.mp h2]
 exact⟨x,rfl,h1⟩
def NS{K:aD}{H:Hp}{d d':D}{xs:List V}(h:ao K H [d,d'] xs):∃v v',xs=[v,v']/\Is K H d v/\Is K H d' v':=by
 obtain⟨x,r,rfl,h1,h2⟩:=ao.jI.mp h
 obtain⟨v,rfl,h3⟩:=nD h2
 exact⟨x,v,rfl,h1,h3⟩
def iQ:mG X (.builtin "len") bX:=by
 refine⟨_,TQ (X:=X.b5),λH xs ds i hg=>?_⟩
 unfold bX at hg
 split at hg
 .rename_i ys
  obtain⟨v,rfl,h⟩:=nD i
  obtain⟨a,zs,rfl,h1,h2⟩:=Is.fX.mp h
  exact⟨a,zs,rfl,.inr h1,.int ys.length,rfl,.refl _,Is.bZ.mpr (by rw[h2.length])⟩
 .rename_i ys
  obtain⟨v,rfl,h⟩:=nD i
  obtain⟨a,zs,rfl,h1,h2⟩:=Is.fD.mp h
  exact⟨a,zs,rfl,.inl h1,.int ys.length,rfl,.refl _,Is.bZ.mpr (by rw[h2.length])⟩
 .exact absurd rfl hg
def qT:mG X (.type "tuple") ku:=by
 refine⟨_,TU (X:=X.b5),λH xs ds i hg=>?_⟩
 unfold ku at hg
 split at hg
 .rename_i ys
  obtain⟨v,rfl,h⟩:=nD i
  obtain⟨a,zs,rfl,h1,h2⟩:=Is.fX.mp h
  exact⟨a,zs,rfl,.inr ⟨h1,.tup ys,rfl,.refl _,h⟩⟩
 .rename_i ys
  obtain⟨v,rfl,h⟩:=nD i
  obtain⟨a,zs,rfl,h1,h2⟩:=Is.fD.mp h
  refine⟨a,zs,rfl,.inl ⟨h1,λl hl=>?_⟩⟩
  have S:=gY hl (.tup zs)
  exact⟨.tup ys,rfl,S,Is.fX.mpr ⟨l,zs,rfl,cX.of dg,h2.same S⟩⟩
 .exact absurd rfl hg
def NT(hc:X.calm=true):mG X (.builtin "min") yb:=by
 refine⟨_,Ta (X:=X.b5) hc,λH xs ds i hg=>?_⟩
 unfold yb at hg
 split at hg
 .rename_i i' j'
  obtain⟨v,v',rfl,h,h'⟩:=NS i
  exact⟨i',j',by rw[Is.bZ.mp h,Is.bZ.mp h'],_,rfl,.refl _,Is.bZ.mpr rfl⟩
 .exact absurd rfl hg
def ao.GQ{K:aD}{H:Hp}:∀{ns:List Bool} {xs:List V},ao K H (ns.map D.bl) xs->xs=ns.map V.bl
 | [],xs,h=>ao.jU.mp h
 | n::ns,xs,h=>by
   obtain⟨x,r,rfl,hx,tr⟩:=ao.jI.mp h
   rw[Is.gN.mp hx,ao.GQ tr];rfl
def GR:∀{bs:List Bool} {us:List Value} {i:Nat} {v:Value},Vals (bs.map V.bl) us->us[i]? = some v->∃b,bs[i]? = some b/\v = .bool b
 | [],us,i,v,r,e=>by cases r;simp at e
 | b::bs,us,0,v,r,e=>by
   cases r with
   | cons r1 r2=>simp at e;subst e;exact⟨b,rfl,r1⟩
 | b::bs,us,i+1,v,r,e=>by
   cases r with
   | cons r1 r2 =>
     obtain⟨b',e1,e2⟩:=GR (i:=i) r2 (by simpa using e)
     exact⟨b',by simpa using e1,e2⟩
def NU:∀bs:List Bool,((g6 bs.length).any λi=>(bs[i]?).getD false)=bs.any (λb=>b)
 | []=>rfl
 | b::bs=>by
   rw[a3,Rh,uR,List.any_map,uR,<-NU bs]
   rfl
def Yr(hc:X.calm=true):jS X (.builtin "any") (λxs H Q=>∃(a:Addr) (bs:List Bool),xs=[.ref a]/\cE X.K H a (bs.map V.bl)/\Q (.bl (bs.any (λb=>b))) H):=by
 intro zn s σ H xs us Q I r h
 obtain⟨a,bs,rfl,hq,q⟩:=h
 obtain⟨u,rfl,ru⟩:=qg r
 cases ru
 obtain⟨xL,rv,pl,_⟩:=I.list hq
 have hl:=pl.isList
 have dt:a<s.heap.objs.size:=by obtain⟨_,e,_⟩:=hl;exact cG e
 have hlen:xL.length=bs.length:=by rw[<-rv.length,aZ]
 refine call_any_walk (JV hl ?_)
 refine⟨s.heap.objs.size,[s.heap.objs.size,a],[s.heap.objs.size],xL.toArray.size,_,_,λi=>(bs[i]?).getD false,rfl,RH (A:=X.A.in1) (I.ok.hd hc) _ a (fQ dt) xL.toArray,
  ⟨⟨_,g0 _ rfl,rfl,rfl⟩,hl.push _⟩,λi v s' Q' E' hP hQ=>?_,λh' tk hk=>?_⟩
 .obtain⟨b,e,rfl⟩:=GR rv (i:=i) (v:=v) (by simpa using hP)
  simp only[e,a4e] at hQ
  exact xr hQ
 .have e:((g6 xL.toArray.size).any λi=>(bs[i]?).getD false)=bs.any (λb=>b):=by
   rw[dD,hlen];exact NU bs
  refine⟨.bl (bs.any (λb=>b)),H,I.kept (λb x ex=>hk b x (λhm=>by rw[List.mem_singleton.mp hm] at ex;exact uC _ (cG ex)) (eX _ ex)),by rw[e];rfl,q⟩
def Ys(hc:X.calm=true):mG X (.builtin "any") qu:=by
 refine⟨_,Yr (X:=X.b5) hc,λH xs ds i hg=>?_⟩
 unfold qu at hg
 split at hg
 .rename_i ys
  obtain⟨v,rfl,h⟩:=nD i
  obtain⟨a,zs,rfl,h1,h2⟩:=Is.fD.mp h
  cases q:mY ys with
  | none=>rw[q] at hg;exact absurd rfl hg
  | some ns =>
    have:=Ey q
    subst this
    rw[h2.GQ] at h1
    exact⟨a,ns,rfl,h1,.bl (ns.any (λb=>b)),by show qu [.lst (ns.map D.bl)]=_;simp only[qu,q],.refl _,Is.gN.mpr rfl⟩
 .exact absurd rfl hg
end
def nE(P:a5)(w:aX):ml:=λouter H s E x s'=>∃(e C T:Addr) (oe oT:Obj) (vs ts:Array Value) (H':Hp) (o:Option Addr),x = .ref e/\s'.os=s.os/\nS s'.gens/\Un (du outer) [] H H' s.heap s'.heap/\eh P w H' s'.heap /\
 H' e=none/\s.heap.get? e=none/\s'.heap.get? e=some oe/\oe.cls = .ref C/\oe.data = .fields vs/\GF o vs/\vs[1]? = some (.ref T)/\H' T=none/\s.heap.get? T=none/\T≠e/\s'.heap.get? T=some oT/\oT.data = .fields ts/\ts[3]? = some .none/\E (.ref C) o H'
def yX(K:aD)(mg:Str->Option Value)(φ:List D->R D):Sp:=λvs H Q E=>∃ds,ao K H ds vs/\φ ds ≠ .no/\(∀d v H',φ ds = .ok d->aT H H'->Is K H' d v->Q v H')/\(∀c C H',φ ds = .er c->mg c.nm=some (.ref C)->aT H H'->E (.ref C) (tg c) H')
def NV(K:aD)(mg:Str->Option Value)(φ:List D->R (List D)):Sp:=λvs H Q E=>∃ds,ao K H ds vs/\φ ds ≠ .no/\(∀es a xs H',φ ds = .ok es->aT H H'->H a=none->H' a=some (.lst xs)->ao K H' es xs->Q (.ref a) H')/\(∀c C H',φ ds = .er c->mg c.nm=some (.ref C)->aT H H'->E (.ref C) (tg c) H')
structure iJ (P:a5) (w:aX) (K:aD) (mg:Str->Option Value) (base:Heap) (k:Nat) (f:Addr) (fd:cw) (ps:List Str) (φ:List D->R D):Prop where
 ok:jT P w K mg base (nE P w) k f fd ps (yX K mg φ)
 binds:kL K fd ps []
 kp:w_ K (.ref f)=true
structure pP (P:a5) (w:aX) (K:aD) (mg:Str->Option Value) (base:Heap) (k:Nat) (f:Addr) (fd:cw) (ps:List Str) (φ:List D->R (List D)):Prop where
 ok:jT P w K mg base (nE P w) k f fd ps (NV K mg φ)
 binds:kL K fd ps []
 kp:w_ K (.ref f)=true
def iJ.mono{P:a5}{w:aX}{K:aD}{mg:Str->Option Value}{base:Heap}{j k:Nat}{f:Addr}{fd:cw}{ps:List Str}{φ:List D->R D}(F:iJ P w K mg base j f fd ps φ)(h:j<=k):iJ P w K mg base k f fd ps φ:=⟨F.ok.mono h,F.binds,F.kp⟩
section
variable {X:Cx}{e a b c:Expr}{g ga gb gc:G->R D}{pos p:Pos}{x:Str}{es:List Expr}{gs:G->R (List D)}
def _root_.L2.Inv.gone{zn:List (Addr×Obj)}{σ:St}{H:Hp}{s:ah}{q:Addr}(I:Inv X zn σ H s)(hex:X.ex=[])(hq:s.heap.get? q=none):X.s₀.heap.get? q=none/\q≠X.env.locals/\(∀y k,X.env.cells.lookup y=some k->k≠q)/\(∀p∈X.pn++zn,p.1≠q):=by
 refine⟨?_,λz=>?_,λy k ek z=>?_,λp hp z=>?_⟩
 .cases e0:X.s₀.heap.get? q with
  | none=>rfl
  | some o =>
    obtain⟨o',e1⟩:=I.base.there q o e0 (by rw[hex];simp)
    rw[hq] at e1;cases e1
 .obtain⟨m,⟨o,_,_,ho,_⟩,_⟩:=I.loc
  rw[<-z,hq] at ho;cases ho
 .obtain⟨v,o,ho,_⟩:=I.cell y k ek
  rw[z,hq] at ho;cases ho
 .have ho:=(I.pin p hp).1
  rw[z,hq] at ho;cases ho
def NW{zn:List (Addr×Obj)}{σ:St}{H:Hp}{s s':ah}{u:Value}{r:R D}{E:XK}(hex:X.ex=[]∨∀C o H',¬E (.ref C) o H')(I:Inv X zn σ H s)(h:nE X.prog X.w X.stack H s E u s')
 (hE:∀C o H',E (.ref C) o H'->∃c,o=tg c/\r = .er c/\X.mg c.nm=some (.ref C)/\aT H H'):bP X zn σ H r u s':=by
 obtain⟨e,C,T,oe,oT,vs,ts,H',o,rfl,os,bare,un,aU,yY,we,qU,yZ,y0,y_,hv,za,wg,zb,zc,zd,sI,Ct⟩:=h
 have hex:X.ex=[]:=hex.resolve_right λz=>z C o H' Ct
 obtain⟨c,rfl,er,hm,S⟩:=hE C o H' Ct
 obtain⟨hh,gg,dd,tt,qh⟩:=s'
 obtain rfl:qh=s.os:=os
 have I':Inv X zn σ H' { s with heap:=hh,gens:=gg,drawn:=dd,toks:=tt }:=I.call (h':=hh) (g':=gg) (d':=dd) (t':=tt) (ch:=[]) un aU bare (λb z=>absurd z (by simp))
 have fr:∀q:Addr,s.heap.get? q=none->X.s₀.heap.get? q=none/\q≠X.env.locals/\(∀y k,X.env.cells.lookup y=some k->k≠q)/\(∀p∈X.pn++zn,p.1≠q):=λq hq=>I.gone hex hq
 obtain⟨f1,f2,f3,f4⟩:=fr e we
 obtain⟨g1,g2,g3,g4⟩:=fr T wg
 exact⟨c,H',er,S,I',e,C,oe,vs,rfl,hm,yY,f1,f2,f3,f4,qU,yZ,y0,y_,.inr ⟨T,oT,ts,hv,za,g1,g2,g3,g4,zb,zc,zd,.inl sI⟩⟩
def GS{k:Nat}{f:Addr}{fd:cw}{ps:List Str}{φ:List D->R D}(Fn:iJ X.prog X.w X.K X.mg X.base k f fd ps φ)(hr:dM k X.A){zn:List (Addr×Obj)}{σ:St}{H:Hp}{s:ah}{us:List Value}{vs:List V}{ds:List D}
 (I:Inv X zn σ H s) (r:Vals vs us) (i:ao X.K H ds vs) (hg:φ ds ≠ .no) (hx:X.ex=[]∨∀c,φ ds ≠ .er c):au (aF X.prog X.w) X.A (call (.ref f) us) (di X zn σ H (φ ds)) (bP X zn σ H (φ ds)) s:=by
 have eB:yX X.K X.mg φ vs H (λv H'=>∃d,φ ds = .ok d/\aT H H'/\Is X.K H' d v) (λC' o H'=>∃c C,C' = .ref C/\o=tg c/\φ ds = .er c/\X.mg c.nm=some (.ref C)/\aT H H') :=
  ⟨ds,i,hg,λd v H' e S iv=>⟨d,e,S,iv⟩,λc C H' e hm S=>⟨c,C,rfl,rfl,e,hm,S⟩⟩
 have hl:us.length=ps.length:=by rw[<-r.length];exact Fn.ok.len _ _ _ _ eB
 have hb:=Fn.binds s us I.gH (by rw[kE];exact hl)
 rw[kE] at hb
 refine Ao (p8 (Fn.ok.run X.A X.stack s H ⟨us,[]⟩ us vs _ _ hr I.vd hb r eB) λr' s' hq=>?_)
 cases r' with
 | error u =>
   refine NW (E:=λC' o H'=>∃c C,C' = .ref C/\o=tg c/\φ ds = .er c/\X.mg c.nm=some (.ref C)/\aT H H') (hx.imp_right λz C o H' ⟨c,_,_,_,q,_⟩=>z c q) I hq λC o H' hE=>?_
   obtain⟨c,C',e,h0,h1,h2,h3⟩:=hE
   cases e
   exact⟨c,h0,h1,h2,h3⟩
 | ok fl =>
   cases fl with
   | ret u =>
     obtain⟨v,H',I',rv,d,e,S,iv⟩:=I.after hq
     exact⟨d,v,H',e,I',rv,S,iv⟩
   | next=>exact cC hq
   | brk=>exact cC hq
   | cont=>exact cC hq
def cZ{k:Nat}{f:Addr}{fd:cw}{ps:List Str}{φ:List D->R D}(Fn:iJ X.prog X.w X.K X.mg X.base k f fd ps φ)(hr:dM k X.A)(hm:X.mg x=some (.ref f))(ha:mF X (e::es) gs)(hex:X.ex=[]:=by rfl)(hg:Gl X x:=by rfl)(ib:(x==("__debug__":Str))=false:=by decide)
 (he:a8 (e::es) X.env=(false,eval e X.env)::a8 es X.env:=by rfl) (gI:(cD pos (a8 es X.env)).any (·.1)=false:=by rfl):PD X (.Call (.Name x p) (e::es) [] pos) (az φ gs):=by
 refine⟨λzn s σ H F O I fo rl bR=>?_⟩
 refine mQ (mS I hg hm ?_ ib)
 refine Ap (h₀:=X.base) I.ok.mod.o5 Fn.kp (aq (ha.run pos zn s σ H F O I fo rl (R.left bR)) (λus s1 ⟨ds,vs,H1,e1,I1,r1,S1,i1⟩=>⟨I1.gH,?_⟩) λ_ _ x=>x.bind _) he gI
 exact aq (GS Fn hr I1 r1 i1 (R.next bR e1) (.inl hex)) (λ_ _ q=>di.bind e1 S1 q) λ_ _ q=>bP.later e1 S1 q
def iJ.jY{P:a5}{w:aX}{K:aD}{mg:Str->Option Value}{base:Heap}{k:Nat}{f:Addr}{fd:cw}{ps:List Str}{φ:List D->R D}(F:iJ P w K mg base k f fd ps φ):iJ P w K mg base k f fd ps (L3.jY φ):=by
 refine⟨F.ok.imp λvs H Q E h=>?_,F.binds,F.kp⟩
 obtain⟨ds,i,bO,aU,sJ⟩:=h
 obtain⟨d,e1,e2⟩:=Li bO
 exact⟨ds,i,(by rw[e1];exact λz=>nomatch z),λd' v H' e S iv=>aU d' v H' (e2.trans (e1.symm.trans e)) S iv,λc C H' e=>by rw[e1] at e;cases e⟩
def NY{k:Nat}{f:Addr}{fd:cw}{ps:List Str}{φ:List D->R D}(Fn:iJ X.prog X.w X.K X.mg X.base k f fd ps φ)(hr:dM k X.A)(hm:X.mg x=some (.ref f))(ha:mF X (e::es) gs)(hg:Gl X x:=by rfl)(ib:(x==("__debug__":Str))=false:=by decide)
 (he:a8 (e::es) X.env=(false,eval e X.env)::a8 es X.env:=by rfl) (gI:(cD pos (a8 es X.env)).any (·.1)=false:=by rfl):PD X (.Call (.Name x p) (e::es) [] pos) (az (L3.jY φ) gs):=by
 refine⟨λzn s σ H F O I fo rl bR=>?_⟩
 refine mQ (mS I hg hm ?_ ib)
 refine Ap (h₀:=X.base) I.ok.mod.o5 Fn.kp (aq (ha.run pos zn s σ H F O I fo rl (R.left bR)) (λus s1 ⟨ds,vs,H1,e1,I1,r1,S1,i1⟩=>⟨I1.gH,?_⟩) λ_ _ x=>x.bind _) he gI
 have aN:=R.next bR e1
 obtain⟨d,_,e3⟩:=Li aN
 exact aq (GS Fn.jY hr I1 r1 i1 aN (.inr λc z=>by rw[e3] at z;cases z)) (λ_ _ q=>di.bind e1 S1 q) λ_ _ q=>bP.later e1 S1 q
def Yt{k:Nat}{f:Addr}{fd:cw}{ps:List Str}{φ:List D->R (List D)}(Fn:pP X.prog X.w X.K X.mg X.base k f fd ps φ)(hr:dM k X.A){zn:List (Addr×Obj)}{σ:St}{H:Hp}{s:ah}{us:List Value}{vs:List V}{ds:List D}
 (I:Inv X zn σ H s) (r:Vals vs us) (i:ao X.K H ds vs) (hg:φ ds ≠ .no) (hx:X.ex=[]∨∀c,φ ds ≠ .er c):au (aF X.prog X.w) X.A (call (.ref f) us) (λu s'=>∃es a xs H',φ ds = .ok es/\Inv X zn σ H' s'/\u = .ref a/\aT H H'/\H a=none/\H' a=some (.lst xs)/\ao X.K H' es xs) (bP X zn σ H (φ ds)) s:=by
 have eB:NV X.K X.mg φ vs H (λv H'=>∃es a xs,v = .ref a/\φ ds = .ok es/\aT H H'/\H a=none/\H' a=some (.lst xs)/\ao X.K H' es xs) (λC' o H'=>∃c C,C' = .ref C/\o=tg c/\φ ds = .er c/\X.mg c.nm=some (.ref C)/\aT H H') :=
  ⟨ds,i,hg,λes a xs H' e S h1 h2 h3=>⟨es,a,xs,rfl,e,S,h1,h2,h3⟩,λc C H' e hm S=>⟨c,C,rfl,rfl,e,hm,S⟩⟩
 have hl:us.length=ps.length:=by rw[<-r.length];exact Fn.ok.len _ _ _ _ eB
 have hb:=Fn.binds s us I.gH (by rw[kE];exact hl)
 rw[kE] at hb
 refine Ao (p8 (Fn.ok.run X.A X.stack s H ⟨us,[]⟩ us vs _ _ hr I.vd hb r eB) λr' s' hq=>?_)
 cases r' with
 | error u =>
   obtain⟨c,H',e1,S,fl⟩:=NW (r:=φ ds>>=λ_=>.ok D.cI) (E:=λC' o H'=>∃c C,C' = .ref C/\o=tg c/\φ ds = .er c/\X.mg c.nm=some (.ref C)/\aT H H') (hx.imp_right λz C o H' ⟨c,_,_,_,q,_⟩=>z c q) I hq λC o H' hE=>by
    obtain⟨c,C',e,h0,h1,h2,h3⟩:=hE
    cases e
    exact⟨c,h0,R.stop h1 _,h2,h3⟩
   refine⟨c,H',?_,S,fl⟩
   cases q:φ ds with
   | no=>exact absurd q hg
   | ok _=>rw[q] at e1;cases e1
   | er c'=>rw[q] at e1;cases e1;rfl
 | ok fl =>
   cases fl with
   | ret u =>
     obtain⟨v,H',I',rv,es,a,xs,rfl,e,S,h1,h2,h3⟩:=I.after hq
     exact⟨es,a,xs,H',e,I',rv,S,h1,h2,h3⟩
   | next=>exact cC hq
   | brk=>exact cC hq
   | cont=>exact cC hq
def t_{k:Nat}{f:Addr}{fd:cw}{ps:List Str}{φ:List D->R (List D)}(Fn:pP X.prog X.w X.K X.mg X.base k f fd ps φ)(hr:dM k X.A)(hm:X.mg x=some (.ref f))(ha:mF X (e::es) gs)(hex:X.ex=[]:=by rfl)(hg:Gl X x:=by rfl)(ib:(x==("__debug__":Str))=false:=by decide)
 (he:a8 (e::es) X.env=(false,eval e X.env)::a8 es X.env:=by rfl) (gI:(cD pos (a8 es X.env)).any (·.1)=false:=by rfl):PF X (.Call (.Name x p) (e::es) [] pos) (kv φ gs):=by
 refine⟨λzn s σ H F O I fo rl bR=>?_⟩
 refine mQ (mS I hg hm ?_ ib)
 refine Ap (h₀:=X.base) I.ok.mod.o5 Fn.kp (aq (ha.run pos zn s σ H F O I fo rl (R.left bR)) (λus s1 ⟨ds,vs,H1,e1,I1,r1,S1,i1⟩=>⟨I1.gH,?_⟩) λ_ _ x=>x.bind _) he gI
 have aN:=R.next bR e1
 refine aq (Yt Fn hr I1 r1 i1 (R.left aN) (.inl hex)) (λu s' ⟨cJ,a,xs,H',e2,I2,eu,S2,h1,h2,h3⟩=>?_) λ_ _ q=>bP.later e1 S1 (q.bind _)
 have dZ:=R.next aN e2
 obtain⟨n,e3⟩:=R.cK dZ
 exact⟨cJ,a,xs,H',(R.step e1 _).trans ((R.step e2 _).trans e3),I2,eu,S1.trans S2,S1.free h1,h2,ao.aM (((fo.same S1).same S2).cons h2) cJ xs n h3⟩
def ua{x:Str}(ha:PD X a ga)(hm:X.mg x=none)(hv:nR x=some (.type "list"))(hg:Gl X x:=by rfl)(hn:x≠"__name__":=by decide)(ib:(x==("__debug__":Str))=false:=by decide)
 (he:a8 [a] X.env=(false,eval a X.env)::a8 [] X.env:=by rfl) (gI:(cD pos (a8 [] X.env)).any (·.1)=false:=by rfl):PF X (.Call (.Name x p) [a] [] pos) (ji ga):=by
 refine⟨λzn s σ H F O I fo rl bR=>?_⟩
 refine mQ (kl I hg hm hv ?_ hn ib)
 refine tf (aq ((aj ha aA he).run pos zn s σ H F O I fo rl (λz=>?_)) (λus s1 ⟨ds,vs,H1,e1,I1,r1,S1,i1⟩=>?_) λ_ _ q=>?_) he gI
 .unfold ae at z
  cases q:ga O with
  | no=>exact absurd (show ji ga O = .no by unfold ji;rw[q];rfl) bR
  | ok d=>rw[q] at z;cases z
  | er c=>rw[q] at z;cases z
 .have e0:∃d,ga O = .ok d/\ds=[d]:=by
   unfold ae at e1
   cases q:ga O with
   | no=>rw[q] at e1;cases e1
   | ok d=>rw[q] at e1;cases e1;exact⟨d,rfl,rfl⟩
   | er c=>rw[q] at e1;cases e1
  obtain⟨d,ed,rfl⟩:=e0
  obtain⟨v,rfl,iv⟩:=nD i1
  have aN:=R.next bR ed
  have fin:∀(p':Addr) (ys:List V) (cJ:List D),v = .ref p'->(cE X.K H1 p' ys∨cX X.K H1 p' ys)->ao X.K H1 cJ ys->D.bQ cJ=true->ji ga O = .ok cJ ->
   au (aF X.prog X.w) X.A (call (.type "list") us) (λu s'=>∃ds a xs H',ji ga O = .ok ds/\Inv X zn σ H' s'/\u = .ref a/\aT H H'/\H a=none/\H' a=some (.lst xs)/\ao X.K (aM (a::F) H') ds xs) (bP X zn σ H (ji ga O)) s1:=λp' ys cJ ev hq ie g_ eg=>by
   subst ev
   refine aq (TR (X:=X.b5) zn s1 σ H1 _ us (λz H'=>∃l,z = .ref l/\H1 l=none/\H'=upd H1 l (.lst ys)) (I1.dv _) r1 ⟨p',ys,rfl,hq,λl hl=>⟨l,rfl,hl,rfl⟩⟩) (λu s' ⟨z,H',I',rz,l,ez,hl,eH⟩=>?_) λ_ _ z=>cC z
   subst ez eH
   have S2:=gY hl (.lst ys)
   exact⟨cJ,l,ys,_,eg,I'.fK,rz,S1.trans S2,S1.free hl,dg,ao.aM (((fo.same S1).same S2).cons dg) cJ ys g_ (ie.same S2)⟩
  cases d with
  | tup cJ =>
    obtain⟨n,e2⟩:=R.cK (show R.guard (D.bQ cJ=true) (.ok cJ) ≠ .no from aN)
    obtain⟨p',ys,ev,h1,h2⟩:=Is.fX.mp iv
    exact fin p' ys cJ ev (.inr h1) h2 n ((R.step ed _).trans e2)
  | lst cJ =>
    obtain⟨n,e2⟩:=R.cK (show R.guard (D.bQ cJ=true) (.ok cJ) ≠ .no from aN)
    obtain⟨p',ys,ev,h1,h2⟩:=Is.fD.mp iv
    exact fin p' ys cJ ev (.inl h1) h2 n ((R.step ed _).trans e2)
  | _=>exact absurd rfl aN
 .obtain⟨c',H',e1,S,fl⟩:=q
  refine⟨c',H',?_,S,fl⟩
  unfold ae at e1
  cases q:ga O with
  | no=>rw[q] at e1;cases e1
  | ok d=>rw[q] at e1;cases e1
  | er c=>rw[q] at e1;cases e1;unfold ji;rw[q];rfl
def jJ{ga gb:G->R (List D)}(ha:PF X a ga)(hb:PF X b gb):PF X (.BinOp a .Add b pos) (f_ ga gb):=by
 refine⟨λzn s σ H F O I fo rl hg=>?_⟩
 refine DC (aq (ha.run zn s σ H F O I fo rl (R.left hg)) (λv s1 ⟨dx,a1,xs,H1,e1,I1,r1,S1,n1,h1,i1⟩=>?_) λ_ _ x=>x.bind _)
 have aN:=R.next hg e1
 refine aq (hb.run zn s1 σ H1 F O I1 (fo.same S1) (rl.same S1) (R.left aN)) (λu s2 ⟨dy,a2,ys,H2,e2,I2,r2,S2,n2,h2,i2⟩=>?_) λ_ _ x=>bP.later e1 S1 (x.bind _)
 have dZ:=R.next aN e2
 obtain⟨hc,e3⟩:=R.cK dZ
 subst r1 r2
 have hz:xs.length+ys.length<=bK:=by rw[<-i1.length,<-i2.length];exact nB hc
 refine aq (T6 (X:=X.b5) zn s2 σ H2 (.ref a1) (.ref a2) _ _ (λz H'=>∃l,z = .ref l/\H2 l=none/\H'=upd H2 l (.lst (xs++ys))) (I2.dv _) rfl rfl ⟨a1,a2,xs,ys,rfl,rfl,S2 _ _ h1,h2,hz,λl hl=>⟨l,rfl,hl,rfl⟩⟩) (λu s' ⟨z,H',I',rz,l,ez,hl,eH⟩=>?_) λ_ _ z=>cC z
 subst ez eH
 have S3:=gY hl (.lst (xs++ys))
 have up:∀{q:Addr} {Hq:Hp} {zs:List V} {ds:List D},aT Hq H2->Hq q≠none->ao X.K (aM (q::F) Hq) ds zs->ao X.K (aM (l::F) (upd H2 l (.lst (xs++ys)))) ds zs:=λ{q Hq zs ds} Sq hq i=>by
  refine i.same λb o hb=>?_
  obtain⟨z1,z2⟩:=jr hb
  have z3:=Sq _ _ z2
  have fH:b≠l:=jA z3 hl
  rw[dc λz=>(List.mem_cons.mp z).elim fH λz'=>z1 (eU _ z'),b_ fH]
  exact z3
 exact⟨dx++dy,l,xs++ys,_,(R.step e1 _).trans ((R.step e2 _).trans e3),I'.fK,rz,(S1.trans S2).trans S3,S1.free (S2.free hl),dg,(up S2 (by rw[h1];simp) i1).append (up (.refl _) (by rw[h2];simp) i2)⟩
end
def JD(K:aD)(H:Hp)(F:List Addr)(J:It)(ds:List D):Prop:=∀H1,(∀b o,b ∉ F->H b=some o->H1 b=some o) ->
 (∀i:Nat,i<ds.length->J.go i H1/\∀x H2,J.xI i H1 x H2->H2=H1/\∃d,ds[i]? = some d/\∀F',(∀b,b∈F'->b∈F∨H b=none)->Is K (aM F' H1) d x)/\J.stop ds.length H1
def JC(K:aD)(H:Hp)(F:List Addr)(J:It)(ds:List D):Prop:=∀H1,aT H H1 ->
 (∀i:Nat,i<ds.length->J.go i H1/\∀x H2,J.xI i H1 x H2->H2=H1/\∃d,ds[i]? = some d/\Is K (aM F H1) d x)/\J.stop ds.length H1
def JD.jc{K:aD}{H:Hp}{F:List Addr}{J:It}{ds:List D}(h:JD K H F J ds):JC K H F J ds:=λH1 S=>by
 obtain⟨h1,h2⟩:=h H1 λb o _ q=>S b o q
 refine⟨λi hi=>⟨(h1 i hi).1,λx H2 y=>?_⟩,h2⟩
 obtain⟨e,d,ed,iv⟩:=(h1 i hi).2 x H2 y
 exact⟨e,d,ed,iv F λb hb=>.inl hb⟩
structure ub (Jx:aD->Hp->List Addr->It->List D->Prop) (X:Cx) (tg iter:Expr) (g:G->R (List D)):Prop where
 run:∀(zn:List (Addr×Obj)) (s:ah) (σ:St) (H:Hp) (F:List Addr) (O:G),Inv X zn σ H s->bC H F->Rel X.K H F O σ->g O ≠ .no ->
  au (aF X.prog X.w) X.A (eval iter X.env) (λv s1=>au (aF X.prog X.w) X.A (rA v) (λmT s2=>∃(ds:List D) (it:Addr) (fp:List Addr) (tn:Nat->Heap->Prop) (J:It) (H':Hp),g O = .ok ds/\mT = .ref it/\Inv X zn σ H' s2/\aT H H' /\
   Turn X.prog X.w X.K tg J fp it tn/\tn 0 s2.heap/\(∀b∈fp,iY X zn H' b)/\Jx X.K H' F J ds) (bP X zn σ H (g O)) s1) (bP X zn σ H (g O)) s
abbrev wj:=ub JD
abbrev wo:=ub JC
def ub.Cu{X:Cx}{tg iter:Expr}{g:G->R (List D)}(h:wj X tg iter g):wo X tg iter g:=⟨λzn s σ H F O I fo rl hg =>
 je (h.run zn s σ H F O I fo rl hg) λv s1 h1=>je h1 λmT s2 ⟨ds,it,fp,tn,J,H',e,ei,I',S,T,t0,fk,j⟩=>⟨ds,it,fp,tn,J,H',e,ei,I',S,T,t0,fk,j.jc⟩⟩
section
variable {X:Cx}{tg a b:Expr}{ga gb:G->R D}
def NZ{K:aD}{H:Hp}{F:List Addr}{p:Addr}{xs:List V}{ds:List D}(h:cE K H p xs)(i:ao K (aM F H) ds xs):JC K H F (AH K p) ds:=λH1 S=>by
 have h1:=S.seq h
 have il:=i.length
 refine⟨λj hj=>⟨⟨xs,xs[j]'(by lia),h1,gE (by lia)⟩,λx H2 y=>⟨y.1,?_⟩⟩,⟨xs,h1,by lia⟩⟩
 exact(i.same (kA S)).GD (y.2 xs h1)
def Cv{H H1:Hp}{F F':List Addr}(S:∀b o,b ∉ F->H b=some o->H1 b=some o)(o:∀b,b∈F'->b∈F∨H b=none):aT (aM F H) (aM F' H1):=Ext.aM ⟨S,o⟩
def N0{K:aD}{H:Hp}{F:List Addr}{p:Addr}{xs:List V}{ds:List D}(h:cX K (aM F H) p xs)(i:ao K (aM F H) ds xs):JD K H F (D3 K p) ds:=λH1 S=>by
 have h1:cX K H1 p xs:=t6 (iO (F:=F)) (t6 (Cv S λb hb=>.inl hb) h)
 have il:=i.length
 refine⟨λj hj=>⟨⟨xs,xs[j]'(by lia),h1,gE (by lia)⟩,λx H2 y=>⟨y.1,?_⟩⟩,⟨xs,h1,by lia⟩⟩
 obtain⟨d,ed,iv⟩:=i.GD (y.2 xs h1)
 exact⟨d,ed,λF' hF=>iv.same (Cv S hF)⟩
def Yu{K:aD}{H:Hp}{F:List Addr}{p:Addr}{xs:List V}{ds:List D}(h:cE K (aM F H) p xs)(i:ao K (aM F H) ds xs):JD K H F (AH K p) ds:=λH1 S=>by
 have h1:cE K H1 p xs:=(iO (F:=F)).seq ((Cv S λb hb=>.inl hb).seq h)
 have il:=i.length
 refine⟨λj hj=>⟨⟨xs,xs[j]'(by lia),h1,gE (by lia)⟩,λx H2 y=>⟨y.1,?_⟩⟩,⟨xs,h1,by lia⟩⟩
 obtain⟨d,ed,iv⟩:=i.GD (y.2 xs h1)
 exact⟨d,ed,λF' hF=>iv.same (Cv S hF)⟩
def GU{zn:List (Addr×Obj)}{σ:St}{H:Hp}{s:ah}{p:Addr}{xs:List V}{E:Value->ah->Prop}{Q:Value->ah->Prop}(I:Inv X zn σ H s)(h:cE X.K H p xs)
 (q:∀it s2,Inv X zn σ H s2->Turn X.prog X.w X.K tg (AH X.K p) [it] it (λi h=>h.IsListIter it p i)->s2.heap.IsListIter it p 0->(∀b∈[it],iY X zn H b)->Q (.ref it) s2):au (aF X.prog X.w) X.A (rA (.ref p)) Q E s:=by
 obtain⟨xL,rv,pl,hz⟩:=I.list h
 refine JV pl.isList (q s.heap.objs.size _ (I.kept (t':=s.toks) λb o e=>eX _ e) (SH p _) ⟨_,g0 _ rfl,rfl,rfl⟩ λb hb=>?_)
 have e:b=s.heap.objs.size:=by simpa using hb
 subst e
 exact I.xJ (a9 _) (I.aU.fresh (a9 _))
def N1{zn:List (Addr×Obj)}{σ:St}{H:Hp}{s:ah}{p:Addr}{xs:List V}{E:Value->ah->Prop}{Q:Value->ah->Prop}(I:Inv X zn σ H s)(h:cX X.K H p xs)
 (q:∀it s2,Inv X zn σ H s2->Turn X.prog X.w X.K tg (D3 X.K p) [it] it (λi h=>h.IsTupleIter it p i)->s2.heap.IsTupleIter it p 0->(∀b∈[it],iY X zn H b)->Q (.ref it) s2):au (aF X.prog X.w) X.A (rA (.ref p)) Q E s:=by
 obtain⟨xL,rv,pl,hz⟩:=I.tuple h
 refine wpAny_pyIter_tuple (show s.heap.IsTuple p xL.toArray from pl) (q s.heap.objs.size _ (I.kept (t':=s.toks) λb o e=>eX _ e) (SI p _) ⟨_,g0 _ rfl,rfl,rfl⟩ λb hb=>?_)
 have e:b=s.heap.objs.size:=by simpa using hb
 subst e
 exact I.xJ (a9 _) (I.aU.fresh (a9 _))
def GV(ha:iP X a ga):wj X tg a (r8 ga):=by
 refine⟨λzn s σ H F O I fo rl hg=>?_⟩
 refine aq (ha.run zn s σ H F O I fo rl (R.left hg)) (λv s1 ⟨d,x,H1,e1,I1,r1,S1,i1⟩=>?_) λ_ _ x=>x.bind _
 have aN:=R.next hg e1
 cases d with
 | tup ds =>
   obtain⟨p,xs,rfl,h1,h2⟩:=Is.fX.mp i1
   cases (show v=dS p from r1)
   exact N1 (tg:=tg) I1 (t6 (iO (F:=F)) h1) λit s2 I2 T t0 fk=>⟨ds,it,_,_,_,H1,R.step e1 _,rfl,I2,S1,T,t0,fk,N0 h1 h2⟩
 | lst ds =>
   obtain⟨p,xs,rfl,h1,h2⟩:=Is.fD.mp i1
   cases (show v=dS p from r1)
   exact GU (tg:=tg) I1 ((iO (F:=F)).seq h1) λit s2 I2 T t0 fk=>⟨ds,it,_,_,_,H1,R.step e1 _,rfl,I2,S1,T,t0,fk,Yu h1 h2⟩
 | _=>exact absurd rfl aN
def Cw(ha:PD X a ga):wo X tg a (jZ ga):=by
 refine⟨λzn s σ H F O I fo rl hg=>?_⟩
 refine aq (ha.run zn s σ H F O I fo rl (R.left hg)) (λv s1 ⟨d,x,H1,e1,I1,r1,S1,i1⟩=>?_) λ_ _ x=>x.bind _
 have aN:=R.next hg e1
 cases d with
 | tup ds =>
   obtain⟨n,e2⟩:=R.cK (show R.guard (D.bQ ds=true) (.ok ds) ≠ .no from aN)
   obtain⟨p,xs,rfl,h1,h2⟩:=Is.fX.mp i1
   cases (show v=dS p from r1)
   exact N1 (tg:=tg) I1 h1 λit s2 I2 T t0 fk=>⟨ds,it,_,_,_,H1,(R.step e1 _).trans e2,rfl,I2,S1,T,t0,fk,(N0 (NO (fo.same S1) h1) (ao.aM (fo.same S1) ds xs n h2)).jc⟩
 | lst ds =>
   obtain⟨n,e2⟩:=R.cK (show R.guard (D.bQ ds=true) (.ok ds) ≠ .no from aN)
   obtain⟨p,xs,rfl,h1,h2⟩:=Is.fD.mp i1
   cases (show v=dS p from r1)
   exact GU (tg:=tg) I1 h1 λit s2 I2 T t0 fk=>⟨ds,it,_,_,_,H1,(R.step e1 _).trans e2,rfl,I2,S1,T,t0,fk,NZ h1 (ao.aM (fo.same S1) ds xs n h2)⟩
 | _=>exact absurd rfl aN
def N2{K:aD}{H:Hp}{F:List Addr}(lo:Int)(n:Nat):JD K H F (rV lo n) (fL lo n):=λH1 S=>by
 rw[qv]
 refine⟨λj hj=>⟨hj,λx H2 y=>⟨y.1,.int (lo+(j:Int)),EA lo n j hj,λF' _=>?_⟩⟩,a9 _⟩
 exact Is.bZ.mpr y.2
def ze{p pos:Pos}(ha:PD X a ga)(hm:X.mg "range"=none)(hg:Gl X "range":=by rfl)(hs:a8 [a] X.env=[(false,eval a X.env)]:=by rfl):wj X tg (.Call (.Name "range" p) [a] [] pos) (lE ga):=by
 refine⟨λzn s σ H F O I fo rl bR=>?_⟩
 refine DG (kl I hg hm JW (tf ?_ hs rfl))
 rw[hs]
 show au _ _ (fJ ((false,eval a X.env)::cD pos [])) _ _ s
 refine gF (aq (ha.run zn s σ H F O I fo rl (R.left bR)) (λu s1 ⟨d,v,H1,e1,I1,r1,S1,i1⟩=>jz ?_) λ_ _ x=>x.bind _)
 have aN:=R.next bR e1
 cases d with
 | int j =>
   obtain⟨⟨h1,h2⟩,e2⟩:=R.cK (show R.guard (-(2^62)<=j/\j<2^62) (.ok (fL 0 j.toNat)) ≠ .no from aN)
   rw[Is.bZ.mp i1] at r1
   obtain⟨t,rfl⟩:=(show ∃t,u=oR j t from r1)
   refine call_range_1 (je (D4 (tg:=tg) (R:=λJ H'=>J=rV 0 (j-0).toNat/\H'=H1) I1 (by lia) (by lia) h1 h2 ⟨rfl,rfl⟩) λmT s2 ⟨it,fp,tn,J,H',ei,I2,T,t0,fk,eJ,eH⟩=>?_)
   subst eJ eH
   rw[Int.sub_zero] at T
   exact⟨_,it,fp,tn,_,H',(R.step e1 _).trans e2,ei,I2,S1,T,t0,fk,N2 0 j.toNat⟩
 | _=>exact absurd rfl aN
def Yv{p pos:Pos}(ha:PD X a ga)(hb:PD X b gb)(hm:X.mg "range"=none)(hg:Gl X "range":=by rfl)(hs:a8 [a,b] X.env=[(false,eval a X.env),(false,eval b X.env)]:=by rfl)(sL:a8 [b] X.env=[(false,eval b X.env)]:=by rfl) :
 wj X tg (.Call (.Name "range" p) [a,b] [] pos) (yd ga gb):=by
 refine⟨λzn s σ H F O I fo rl bR=>?_⟩
 refine DG (kl I hg hm JW (tf ?_ (by rw[hs,sL]) (by rw[sL];rfl)))
 rw[hs]
 show au _ _ (fJ ((false,eval a X.env)::cD pos [(false,eval b X.env)])) _ _ s
 refine gF (aq (ha.run zn s σ H F O I fo rl (R.left bR)) (λu s1 ⟨d,v,H1,e1,I1,r1,S1,i1⟩=>?_) λ_ _ x=>x.bind _)
 have aN:=R.next bR e1
 show au _ _ (fJ ((false,eval b X.env)::cD pos [])) _ _ s1
 refine gF (aq (hb.run zn s1 σ H1 F O I1 (fo.same S1) (rl.same S1) (R.left aN)) (λu2 s2 ⟨d2,v2,H2,e2,I2,r2,S2,i2⟩=>jz ?_) λ_ _ x=>bP.later e1 S1 (x.bind _))
 have cA:=R.next aN e2
 cases d with
 | int i =>
   cases d2 with
   | int j =>
     obtain⟨⟨⟨h1,h2⟩,h3,h4⟩,e3⟩:=R.cK (show R.guard ((-(2^62)<=i/\i<2^62) /\ -(2^62)<=j/\j<2^62) (.ok (fL i (j-i).toNat)) ≠ .no from cA)
     rw[Is.bZ.mp i1] at r1
     rw[Is.bZ.mp i2] at r2
     obtain⟨t,rfl⟩:=(show ∃t,u=oR i t from r1)
     obtain⟨t',rfl⟩:=(show ∃t,u2=oR j t from r2)
     refine call_range_2 (je (D4 (tg:=tg) (R:=λJ H'=>J=rV i (j-i).toNat/\H'=H2) I2 h1 h2 h3 h4 ⟨rfl,rfl⟩) λmT s3 ⟨it,fp,tn,J,H',ei,I3,T,t0,fk,eJ,eH⟩=>?_)
     subst eJ eH
     exact⟨_,it,fp,tn,_,H',(R.step e1 _).trans ((R.step e2 _).trans e3),ei,I3,S1.trans S2,T,t0,fk,N2 i (j-i).toNat⟩
   | _=>exact absurd rfl cA
 | _=>exact absurd rfl cA
end
def N3{k:pZ}(h:(k==xt)=true):k = .free:=by cases k<;>first | rfl | (exact absurd h (by decide))
def cQ(env:Env):List (Str×pZ)->List (Str×Addr)->List (Str×Addr)
 | [],cs=>cs
 | (n,k)::r,cs=>if (k == .free)=true then (match env.cells.lookup n with | some a=>cQ env r ((n,a)::cs) | none=>cQ env r cs) else cQ env r cs
def uc{env:Env}{x:Str}{c:Addr}:∀(names:List (Str×pZ)) (cs:List (Str×Addr)),(x,c)∈cQ env names cs->(x,c)∈cs∨env.cells.lookup x=some c
 | [],cs,h=>.inl h
 | (n,k)::r,cs,h=>by
   unfold cQ at h
   split at h
   .split at h
    .rename_i a e
     rcases uc r _ h with q | q
     .rcases List.mem_cons.mp q with z | z
      .cases z;exact .inr e
      .exact .inl z
     .exact .inr q
    .exact uc r _ h
   .exact uc r _ h
def Cy{env:Env}{p:Str×Addr}:∀(names:List (Str×pZ)) (cs:List (Str×Addr)),p∈cs->p∈cQ env names cs
 | [],cs,h=>h
 | (n,k)::r,cs,h=>by
   unfold cQ
   split
   .split
    .exact Cy r _ (eU _ h)
    .exact Cy r _ h
   .exact Cy r _ h
def zf{env:Env}{x:Str}{c:Addr}(e:env.cells.lookup x=some c):∀(names:List (Str×pZ)) (cs:List (Str×Addr)),(x,xt)∈names->(x,c)∈cQ env names cs
 | [],cs,h=>by simp at h
 | (n,k)::r,cs,h=>by
   unfold cQ
   rcases List.mem_cons.mp h with z | z
   .cases z
    rw[if_pos (show(xt==xt)=true by decide),e]
    exact Cy r _ fI
   .split
    .split
     .exact zf e r _ z
     .exact zf e r _ z
    .exact zf e r _ z
def Cz{α:Type}:∀{l:List (Str×α)} {x:Str} {c:α},(x,c)∈l->∃c',l.lookup x=some c'/\(x,c')∈l
 | [],_,_,h=>by simp at h
 | (n,a)::r,x,c,h=>by
   by_cases e:x=n
   .subst e;exact⟨a,by simp[List.lookup],fI⟩
   .rcases List.mem_cons.mp h with z | z
    .cases z;exact absurd rfl e
    .obtain⟨c',h1,h2⟩:=Cz z
     exact⟨c',by rw[List.lookup_cons,beq_eq_false_iff_ne.mpr e];exact h1,eU _ h2⟩
def ud(N:List Str)(env:Env)(y:Str)(scope:dU):Bool :=
 decide (scope.kind = .function)&&scope.names.all (λp=>decide (p.2 ≠ .cell)&&(decide (p.2 ≠ .local)||decide (scope.names.lookup p.1=some .local))&&(decide (p.2 ≠ .free)||((env.cells.lookup p.1).isSome&&(decide (env.scope.names.lookup p.1=some .cell)||decide (env.scope.names.lookup p.1=some .free)))))
  && decide (scope.names.lookup y=some .local)&&decide (scope.names.lookup (("":Str))=none)&&N.all (λz=>decide (scope.names.lookup z≠some .local)||decide (z=y))&&N.all (λz=>decide (z≠("":Str)))
structure sM (N:List Str) (env:Env) (y:Str) (scope:dU):Prop where
 kind:scope.kind = .function
 zg:∀p∈scope.names,p.2 ≠ .cell
 names:∀p∈scope.names,p.2 = .local->scope.names.lookup p.1=some .local
 free:∀p∈scope.names,p.2 = .free->(∃c,env.cells.lookup p.1=some c)/\(env.scope.names.lookup p.1=some .cell∨env.scope.names.lookup p.1=some .free)
 loc:scope.names.lookup y=some .local
 nil:scope.names.lookup (("":Str))=none
 only:∀z∈N,scope.names.lookup z=some .local->z=y
 none:∀z∈N,z≠("":Str)
def zh{N:List Str}{env:Env}{y:Str}{scope:dU}(h:ud N env y scope=true):sM N env y scope:=by
 unfold ud at h
 simp only[jP,nV,RI,decide_eq_true_eq] at h
 obtain⟨⟨⟨⟨⟨h1,h2⟩,h3⟩,h4⟩,h5⟩,h6⟩:=h
 refine⟨h1,λp hp=>(h2 p hp).1.1,λp hp e=>((h2 p hp).1.2).resolve_left λz=>z e,λp hp e=>?_,h3,h4,λz hz e=>(h5 z hz).resolve_left λq=>q e,h6⟩
 have q:=((h2 p hp).2).resolve_left λz=>z e
 exact⟨Option.isSome_iff_exists.mp q.1,q.2⟩
def cS(X:Cx)(y:Str)(scope:dU)(C:Addr)(ax:ah)(aL:Hp)(fp:List Addr)(pn:List (Addr×Obj)):Cx :=
 { X with N:=y::X.N.map (λz=>if z=y then ("":Str) else z),s₀:=ax,H₀:=aL,env:=iA scope (cQ X.env scope.names []) C X.env,outer:=X.stack,ex:=fp,fn:=λ_=>false,pn:=pn,xe:=λ_ _=>False }
def Yw{α β:Type}{M:l0}{A:Around}{E E':Value->ah->Prop}{s:ah}{a:α}{t:Sem β}{P:α->ah->Prop}{Q:β->ah->Prop}(h:au M A (pure a) P E s)(k:P a s->au M A t Q E' s):au M A t Q E' s:=λO p CA=>k (h O p CA) O p CA
def N4{P:a5}{w:aX}{H:Hp}{h:Heap}{a:Addr}{o:HO}(x:eh P w H h)(hn:H a=none)(new:jB P w (upd H a o) h a o):eh P w (upd H a o) h:=λb u e=>by
 by_cases hb:b=a
 .subst hb;rw[dg] at e;cases e;exact new
 .rw[b_ hb] at e
  exact(x b u e).kJ (λc v _ q=>q) (λc q=>by rw[b_ (jA q hn)];exact q) λc xs q=>by rw[b_ (jA q hn)];exact q
def Yx{X:Cx}{y:Str}{scope:dU}{C Dd:Addr}{fp:List Addr}{zn pl:List (Addr×Obj)}{σ aO:St}{aL H':Hp}{ax s1:ah}{xs:List V}{xL:List Value}{n:Nat}(I:Inv X zn σ aL ax)
 (J:Inv (cS X y scope C ax aL fp (X.pn++zn)) pl aO H' s1) (hD:ax.heap.objs.size<=Dd) (hn:H' Dd=none) (hd:s1.heap.get? Dd=some { cls:=.type "list",data:=.seq xL.toArray n }) (rv:Vals xs xL) (hz:xs.length<=bK) (hf:∀b∈fp,iY X zn aL b) :
 Inv X zn σ (upd H' Dd (.lst xs)) s1:=by
 have os:s1.os=ax.os:=J.os
 have un:Un (du X.stack) fp aL H' ax.heap s1.heap:=J.base
 have aU:eh X.prog X.w H' s1.heap:=J.aU
 have bare:nS s1.gens:=J.bare
 clear J
 obtain⟨hh,gg,dd,tt,qh⟩:=s1
 obtain rfl:qh=ax.os:=os
 have Yy:∀b o,ax.heap.get? b=some o->b≠Dd:=λb o e=>fQ (eS (cG e) hD)
 refine I.call (h':=hh) (g':=gg) (d':=dd) (t':=tt) (ch:=fp) ⟨un.keep,un.slot,λb o e n' hx=>?_,un.there,λb ys e=>?_,λb o u e=>?_,λb ps e=>?_⟩ (N4 aU hn ⟨hz,xL,n,rv,hd⟩) bare λb hb=>?_
 .rw[b_ (Yy b o e)];exact un.free b o e n' hx
 .have q:=un.mf b ys e
  rw[b_ (jA q hn)];exact q
 .have q:=un.lu b o u e
  rw[b_ (jA q hn)];exact q
 .obtain⟨more,q⟩:=un.mh b ps e
  exact⟨more,by rw[b_ (jA q hn)];exact q⟩
 .obtain⟨f0,f1,f2,f3,f4,f5⟩:=hf b hb
  exact⟨f3.imp_right λz=>Jr z,f1,f4,f5⟩
def Yz{X:Cx}{y:Str}{scope:dU}{C:Addr}{fp:List Addr}{zn:List (Addr×Obj)}{σ:St}{aL:Hp}{ax:ah}(I:Inv X zn σ aL ax)(c:sM X.N X.env y scope)(hC:ax.heap.objs.size<=C)(hf:∀b∈fp,iY X zn aL b)(ho:∀b∈fp,b<ax.heap.objs.size) :
 (cS X y scope C ax aL fp (X.pn++zn)).Ok:=by
 have cells:∀x k,(cQ X.env scope.names []).lookup x=some k->X.env.cells.lookup x=some k:=λx k e=>by
  rcases uc scope.names [] (p4 e) with q | q
  .simp at q
  .exact q
 refine⟨I.ok.mod,c.kind,I.ok.glob,I.ok.blt,hC,λx z k h1 h2=>I.ok.inj x z k (cells x k h1) (cells z k h2),λx hx=>?_,λx k h _=>absurd h (by simp[cS]),I.ok.hd,I.ok.frames,.inl rfl,λb hb=>?_,I.bs,fS I.ok.mi I.sz,λb o e hb=>?_,λb hb z=>?_,I.stack,I.DT⟩
 .have AZ:(jR scope X.env).names.lookup x=some .cell∨(jR scope X.env).names.lookup x=some .free:=hx
  have hm:∃k,(x,k)∈scope.names/\(k = .free∨k = .cell):=by
   rcases AZ with q | q <;>
   .have m:=p4 q
    unfold jR at m
    simp only[Rt] at m
    obtain⟨⟨n,k⟩,hm,e⟩:=m
    by_cases hc:(k==xt&&X.env.scope.kind == .function&&X.env.kindOf n==some .cell)=true
    .rw[if_pos hc] at e
     have e1:n=x:=congrArg JX e
     subst e1
     rw[jP,jP] at hc
     exact⟨k,hm,.inl (N3 hc.1.1)⟩
    .rw[if_neg hc] at e
     have e1:n=x:=congrArg JX e
     have e2:=congrArg RJ e
     dsimp only at e2
     subst e1 e2
     exact⟨_,hm,by first | exact .inr rfl | exact .inl rfl⟩
  obtain⟨k,hm,hk⟩:=hm
  rcases hk with rfl | rfl
  .obtain⟨⟨a,ea⟩,_⟩:=c.free _ hm rfl
   obtain⟨c',h1,_⟩:=Cz (zf ea scope.names [] hm)
   exact⟨c',h1⟩
  .exact absurd rfl (c.zg _ hm)
 .refine⟨fQ (eS (ho b hb) hC),λx k e=>(hf b hb).2.2.2.2.1 x k (cells x k e)⟩
 .rcases(hf b hb).2.2.2.1 with z | z
  .exact I.ok.rR b o e z
  .exact absurd (eS (eS (cG e) I.ok.mi) z) (uC _)
 .rcases List.mem_cons.mp (I.uX b z) with q | q
  .exact(hf b hb).2.1 q
  .exact(hf b hb).2.2.1 q
section
variable {X:Cx}{y:Str}{scope:dU}
def YA{C Dd:Addr}{fp:List Addr}{zn:List (Addr×Obj)}{σ:St}{aL:Hp}{ax:ah}{gy:Heap}{tk:Nat}{oD:Obj}{m:Str->Option Value}(I:Inv X zn σ aL ax)(c:sM X.N X.env y scope)(hC:ax.heap.objs.size<=C)(hD:ax.heap.objs.size<=Dd)(iR:Dd≠C)(hf:∀b∈fp,iY X zn aL b)(ho:∀b∈fp,b<ax.heap.objs.size)
 (old:∀b o,ax.heap.get? b=some o->gy.get? b=some o) (o8:gy.Ns C m) (hd:gy.get? Dd=some oD) (YB:∀v,oD.data ≠ .cell v) :
 Inv (cS X y scope C ax aL fp (X.pn++zn)) [(Dd,oD)] (none::σ) aL { ax with heap:=gy,toks:=tk }:=by
 have cells:∀x k,(cQ X.env scope.names []).lookup x=some k->X.env.cells.lookup x=some k:=λx k e=>by
  rcases uc scope.names [] (p4 e) with q | q
  .simp at q
  .exact q
 have YC:∀b,ax.heap.objs.size<=b->b ∉ du X.stack:=λb hb z=>by
  rcases List.mem_cons.mp (I.uX b z) with q | q
  .exact absurd (eS I.lt (by rw[<-q];exact hb)) (uC _)
  .exact I.DS hb q
 refine⟨Yz I c hC hf ho,rfl,I.bare,Un.kept old,⟨m,o8,λi x v e1 e2 e3=>?_⟩,λx k e=>?_,I.aU.fresh hC,λx k e=>I.kK x k (cells x k e),λp hp=>?_,I.aU.kept old,?_⟩
 .cases i with
  | zero=>simp at e2
  | succ i =>
    have GW:σ[i]? = some (some v):=by simpa using e2
    have oJ:(X.N.map (λz=>if z=y then ("":Str) else z))[i]? = some x:=by simpa [cS] using e1
    rw[jO] at oJ
    cases hz:X.N[i]? with
    | none=>rw[hz] at oJ;cases oJ
    | some z =>
      rw[hz] at oJ
      simp only[a3m,xq] at oJ
      have GX:nX (jR scope X.env) x:=e3
      have zi:∀{k:pZ},(jR scope X.env).names.lookup x=some k->∃k',(x,k')∈scope.names/\(k'=k∨(k' = .free/\k = .cell)):=λ{k} q=>by
       have m':=p4 q
       unfold jR at m'
       simp only[Rt] at m'
       obtain⟨⟨n,k0⟩,hm,e⟩:=m'
       by_cases hc:(k0==xt&&X.env.scope.kind == .function&&X.env.kindOf n==some .cell)=true
       .rw[if_pos hc] at e
        have e1:n=x:=congrArg JX e
        have e2:=congrArg RJ e
        dsimp only at e2
        subst e1 e2
        rw[jP,jP] at hc
        exact⟨k0,hm,.inr ⟨N3 hc.1.1,rfl⟩⟩
       .rw[if_neg hc] at e
        have e1:n=x:=congrArg JX e
        have e2:=congrArg RJ e
        dsimp only at e2
        subst e1 e2
        exact⟨_,hm,.inl rfl⟩
      have YD:∀k',(x,k')∈scope.names->x≠("":Str):=λk' hm z=>by
       subst z
       obtain⟨c',h1,_⟩:=Cz hm
       rw[c.nil] at h1;cases h1
      have ne:x≠("":Str):=by
       rcases GX with q | q | q<;>(obtain⟨k',hm,_⟩:=zi q;exact YD k' hm)
      by_cases CB:z=y
      .rw[if_pos CB] at oJ;exact absurd oJ.symm ne
      .rw[if_neg CB] at oJ
       subst oJ
       have fr:(z,xt)∈scope.names:=by
        rcases GX with q | q | q
        .obtain⟨k',hm,hk⟩:=zi q
         rcases hk with rfl | ⟨_,hk⟩
         .exact absurd (c.only z (Jv hz) (c.names _ hm rfl)) CB
         .cases hk
        .obtain⟨k',hm,hk⟩:=zi q
         rcases hk with rfl | ⟨rfl,_⟩
         .exact absurd rfl (c.zg _ hm)
         .exact hm
        .obtain⟨k',hm,hk⟩:=zi q
         rcases hk with rfl | ⟨_,hk⟩
         .exact hm
         .cases hk
       obtain⟨⟨ca,eca⟩,hv⟩:=c.free _ fr rfl
       obtain⟨m0,hn0,YE⟩:=I.loc
       obtain⟨u,ru,lk⟩:=YE i z v hz GW (.inr hv)
       refine⟨u,ru,?_⟩
       rcases lk with ⟨q,_⟩ | ⟨_,k,ek,hk⟩
       .exfalso
        have q':X.env.scope.names.lookup z=some .local:=q
        rcases hv with w | w<;>(rw[q'] at w;cases w)
       .obtain⟨c',h1,_⟩:=Cz (zf ek scope.names [] fr)
        have h2:=cells z c' h1
        rw[ek] at h2;cases h2
        refine .inr ⟨?_,k,h1,?_⟩
        .rcases GX with q | q | q
         .exfalso
          obtain⟨k',hm,wq⟩:=zi q
          rcases wq with rfl | ⟨_,wq⟩
          .exact CB (c.only z (Jv hz) (c.names _ hm rfl))
          .cases wq
         .exact .inl q
         .exact .inr q
        .obtain⟨o,dJ,qe⟩:=hk
         exact⟨o,old _ _ dJ,qe⟩
 .obtain⟨v,o,dJ,qe⟩:=I.cell x k (cells x k e)
  exact⟨v,o,old _ _ dJ,qe⟩
 .rcases List.mem_append.mp hp with q | q
  .obtain⟨h1,h2,h3,h4,h5⟩:=I.pin p q
   refine⟨old _ _ h1,h2,fQ (eS (cG h1) hC),λz=>?_,h5⟩
   rcases List.mem_cons.mp (I.uX p.1 z) with q' | q'
   .exact h3 q'
   .exact h4 q'
  .have e:p=(Dd,oD):=by simpa using q
   subst e
   exact⟨hd,I.aU.fresh hD,iR,YC Dd hD,YB⟩
 .show σ.length+1=(y::X.N.map _).length
  rw[a3,aZ,I.len]
def YF(X:Cx)(y:Str)(scope:dU)(ifs:List Expr)(elt:Expr)(r:R (Option D))(C:Addr)(ax:ah)(aL:Hp)(fp:List Addr)(pn zn:List (Addr×Obj))(s:ah)(σ:St)(H:Hp)(F:List Addr):Prop :=
    au (aF X.prog X.w) X.A (forIn ifs true λc r=>if r=true then do let ok <-oS c (iA scope (cQ X.env scope.names []) C X.env) (eval c (iA scope (cQ X.env scope.names []) C X.env));pure (o3 ok) else pure (o3 r)) (λok cT =>
     if ok=true then au (aF X.prog X.w) X.A (eval elt (iA scope (cQ X.env scope.names []) C X.env)) (λu dQ=>∃e v H',r = .ok (some e)/\Inv (cS X y scope C ax aL fp pn) zn σ H' dQ/\RelV v u/\aT H H'/\Is X.K (aM F H') e v) (λ_ _=>False) cT
     else r = .ok none/\∃H',Inv (cS X y scope C ax aL fp pn) zn σ H' cT/\aT H H') (λ_ _=>False) s
structure CC (X:Cx) (y:Str) (scope:dU) (ifs:List Expr) (elt:Expr) (f:D->G->R (Option D)):Prop where
 run:∀(C:Addr) (ax:ah) (aL:Hp) (fp:List Addr) (pn:List (Addr×Obj)) (zn:List (Addr×Obj)) (s:ah) (σ:St) (H:Hp) (F:List Addr) (O:G) (d:D),Inv (cS X y scope C ax aL fp pn) zn σ H s->bC H F->Rel X.K H F (.ro d::O) σ->(∃o,f d O = .ok o) ->
  au (aF X.prog X.w) X.A (forIn ifs true λc r=>if r=true then do let ok <-oS c (iA scope (cQ X.env scope.names []) C X.env) (eval c (iA scope (cQ X.env scope.names []) C X.env));pure (o3 ok) else pure (o3 r)) (λok cT =>
   if ok=true then au (aF X.prog X.w) X.A (eval elt (iA scope (cQ X.env scope.names []) C X.env)) (λu dQ=>∃e v H',f d O = .ok (some e)/\Inv (cS X y scope C ax aL fp pn) zn σ H' dQ/\RelV v u/\aT H H'/\Is X.K (aM F H') e v) (λ_ _=>False) cT
   else f d O = .ok none/\∃H',Inv (cS X y scope C ax aL fp pn) zn σ H' cT/\aT H H') (λ_ _=>False) s
def zj{elt:Expr}{ge:G->R D}(he:∀C ax aL fp pn,iP (cS X y scope C ax aL fp pn) elt ge):CC X y scope [] elt (fU ge):=by
 refine⟨λC ax aL fp pn zn s σ H F O d I fo rl ⟨o,eo⟩=>?_⟩
 refine RK ?_
 rw[if_pos rfl]
 have bO:ge (.ro d::O) ≠ .no:=λz=>by unfold fU at eo;rw[z] at eo;cases eo
 refine aq ((he C ax aL fp pn).run zn s σ H F (.ro d::O) I fo rl bO) (λu s4 ⟨e,v,H',e1,I',rv,S,iv⟩=>⟨e,v,H',R.step e1 _,I',rv,S,iv⟩) λx s' ⟨c,H',e1,_⟩=>?_
 unfold fU at eo;rw[e1] at eo;cases eo
def GY{elt c:Expr}{gc:G->R Bool}{ge:G->R D}(hc:∀C ax aL fp pn,kB (cS X y scope C ax aL fp pn) c gc)(he:∀C ax aL fp pn,iP (cS X y scope C ax aL fp pn) elt ge):CC X y scope [c] elt (j0 gc ge):=by
 refine⟨λC ax aL fp pn zn s σ H F O d I fo rl ⟨o,eo⟩=>?_⟩
 have bO:gc (.ro d::O) ≠ .no:=λz=>by unfold j0 at eo;rw[z] at eo;cases eo
 refine wpAny_tests_one (aq ((hc C ax aL fp pn).run zn s σ H F (.ro d::O) I fo rl bO) (λk s3 ⟨H1,e1,I1,S1⟩=>?_) λx s' ⟨c',H',e1,_⟩=>?_)
 .have zl:(if k=true then ge (.ro d::O)>>=λe=>R.ok (some e) else .ok none) = .ok o:=by
   unfold j0 at eo;rw[e1] at eo;exact eo
  cases k with
  | false =>
    rw[if_neg uM]
    exact⟨R.step e1 _,H1,I1,S1⟩
  | true =>
    rw[if_pos rfl] at zl ⊢
    have YG:ge (.ro d::O) ≠ .no:=λz=>by rw[z] at zl;cases zl
    refine aq ((he C ax aL fp pn).run zn s3 σ H1 F (.ro d::O) I1 (fo.same S1) (rl.same S1) YG) (λu s4 ⟨e,v,H',e2,I',rv,S,iv⟩=>⟨e,v,H',(R.step e1 _).trans (R.step e2 _),I',rv,S1.trans S,iv⟩) λx s' ⟨c',H',e2,_⟩=>?_
    rw[e2] at zl;cases zl
 .unfold j0 at eo;rw[e1] at eo;cases eo
def YH{K:aD}{H:Hp}{F:List Addr}{O:G}{σ:St}{d:D}{v:V}(r:Rel K H F O σ)(i:Is K (aM F H) d v):Rel K H F (.ro d::O) (some v::σ) where
 len:=by rw[a3,a3,r.len]
 ro:=λj d' h=>by
  cases j with
  | zero=>simp at h;cases h;exact⟨v,rfl,i⟩
  | succ j=>exact r.ro j d' (by simpa using h)
 own:=λj ds h=>by
  cases j with
  | zero=>simp at h
  | succ j=>exact r.own j ds (by simpa using h)
 inj:=λj k ds es a h1 h2 h3 h4=>by
  cases j with
  | zero=>simp at h1
  | succ j =>
    cases k with
    | zero=>simp at h2
    | succ k=>rw[r.inj j k ds es a (by simpa using h1) (by simpa using h2) (by simpa using h3) (by simpa using h4)]
def N5{n a i:Nat}(e:n=a-i)(h:i<a):a-(i+1)<n:=by lia
def YI{a c d:Nat}(h:c=d+1)(e:a=d):(d≠c/\a<=c/\a<=d)/\∀b,b<a->b≠c/\b≠d:=⟨⟨by lia,by lia,by lia⟩,λb hb=>⟨by lia,by lia⟩⟩
def NX(X:Cx)(scope:dU)(RR:Value->Addr->nU->ah->Prop)(Dd C:Addr):Value->ah->Prop:=notedBy (aF X.prog X.w) X.A (iA scope (cQ X.env scope.names []) C X.env) λe s'=>RR (.ref Dd) C (.error e) s'
def N6(X:Cx)(scope:dU)(ifs:List Expr)(elt:Expr)(C:Addr)(Q:Value->ah->Prop)(Q0:ah->Prop)(E:Value->ah->Prop)(s:ah):Prop :=
 au (aF X.prog X.w) X.A (forIn ifs true λc r=>if r=true then do let ok <-oS c (iA scope (cQ X.env scope.names []) C X.env) (eval c (iA scope (cQ X.env scope.names []) C X.env));pure (o3 ok) else pure (o3 r)) (λok cT=>if ok=true then au (aF X.prog X.w) X.A (eval elt (iA scope (cQ X.env scope.names []) C X.env)) Q E cT else Q0 cT) E s
def N7{elt iter:Expr}{px pos:Pos}{ifs:List Expr}{zn:List (Addr×Obj)}{σ:St}{aL:Hp}{ax:ah}{n:Nat}{it:Addr}{fp:List Addr}{tn:Nat->Heap->Prop}{J:It}{E:Value->ah->Prop}{RR:Value->Addr->nU->ah->Prop}(P:Nat->Hp->List V->Prop)
 (YJ:P 0 aL []) (YK:∀i H xs,P i H xs->i<=n->xs.length<=100000) (YL:∀i H xs,P i H xs->i<n->J.go i H/\∀x H5,J.xI i H x H5->H5=H) (YM:∀H xs,P n H xs->J.stop n H)
 (hp:∀(Dd C:Addr) (ps:List (Addr×Obj)) (s:ah) (x:V) (H:Hp) (i:Nat) (xs:List V),ax.heap.objs.size<=C->(∀b∈fp,∃o,(b,o)∈ps)->Inv (cS X y scope C ax aL fp (X.pn++zn)) ps (some x::σ) H s->P i H xs->i<n->J.xI i H x H ->
   N6 X scope ifs elt C (λu dQ=>∃v H',Inv (cS X y scope C ax aL fp (X.pn++zn)) ps (some x::σ) H' dQ/\RelV v u/\P (i+1) H' (xs++[v])) (λcT=>∃H',Inv (cS X y scope C ax aL fp (X.pn++zn)) ps (some x::σ) H' cT/\P (i+1) H' xs) (NX X scope RR Dd C) s)
 (c:sM X.N X.env y scope) (hN:X.N.Nodup) (gQ:X.calm=true) (I:Inv X zn σ aL ax) (T:Turn X.prog X.w X.K (.Name y px) J fp it tn) (t0:tn 0 ax.heap) (hf:∀b∈fp,iY X zn aL b)
 (hR:∀(Dd C:Addr) (xs:List V) (H':Hp) (m:Str->Option Value) (s':ah),ax.heap.objs.size<=C->Dd≠C->aL Dd=none->H' Dd=none->H' C=none->ax.heap.objs.size<=Dd->P n H' xs->Inv X zn σ (upd H' Dd (.lst xs)) s'->s'.heap.Ns C m->RR (.ref Dd) C (.ok .next) s') :
 au (aF X.prog X.w) X.A (xu []) (λacc cT=>au (aF X.prog X.w) X.A (xy scope X.env.globals (cQ X.env scope.names []) [] X.env.qual none .none (some X.env)) (λcenv dQ=>cenv.frame=X.env.frame /\
  jN (aF X.prog X.w) X.A (.compStart (.ListComp elt [⟨.Name y px,iter,ifs,0⟩] scope pos) 0 (.ref it) acc { cenv with scope:=jR scope X.env }) (RR acc cenv.locals) dQ) E cT) E ax:=by
 have ho:∀b∈fp,b<ax.heap.objs.size:=λb hb=>by obtain⟨o,e,_⟩:=T.obj _ _ t0 b hb;exact cG e
 refine Ab (wpAny_newFunctionEnv c.zg (by intro y hy;simp at hy) (λgy CD zm=>?_) c.kind)
 dsimp only at CD zm ⊢
 generalize GZ:ax.heap.push { cls:=.type "list",dict:=none,data:=.seq ([]:List Value).toArray }=H2 at CD zm ⊢
 have G0:H2.objs.size=ax.heap.objs.size+1:=by rw[<-GZ,DH]
 generalize hCC:H2.objs.size=C at CD zm G0 ⊢
 generalize N8:ax.heap.objs.size=Dd at G0 ⊢
 obtain⟨⟨iR,hC,hD⟩,below⟩:=YI G0 N8
 have old:∀b o,ax.heap.get? b=some o->gy.get? b=some o:=λb o e=>by
  refine zm.extBut b o (below b (cG e)).1 ?_
  exact eX _ (GZ ▸ eX _ e)
 have sN:gy.get? Dd=some { cls:=.type "list",dict:=none,data:=.seq ([]:List Value).toArray }:=by
  refine zm.extBut _ _ iR ?_
  refine eX _ ?_
  rw[<-GZ,<-N8]
  exact g0 _ rfl
 have J0:∀tk,Inv (cS X y scope C ax aL fp (X.pn++zn)) [(Dd,{ cls:=.type "list",dict:=none,data:=.seq ([]:List Value).toArray })] (none::σ) aL { ax with heap:=gy,toks:=tk }:=λtk =>
  YA I c hC hD iR hf ho old CD sN (λv z=>nomatch z)
 have t1:tn 0 gy:=T.keep _ _ _ t0 λb hb o e=>old b o e
 have G1:∀{H':Hp} {o:Obj},(∀b∈fp,H' b=none)->∀b∈fp,iY (cS X y scope C ax aL fp (X.pn++zn)) [(Dd,o)] H' b:=λ{H' o} hn b hb=>by
  obtain⟨f0,f1,f2,f3,f4,f5⟩:=hf b hb
  have lt:=ho b hb
  refine⟨hn b hb,(below b lt).1,λz=>?_,.inl hb,λx k e=>?_,λp de=>?_⟩
  .rcases List.mem_cons.mp (I.uX b z) with q | q
   .exact f1 q
   .exact f2 q
  .rcases uc scope.names [] (p4 e) with q | q
   .simp at q
   .exact f4 x k q
  .rcases List.mem_append.mp de with q | q
   .exact f5 p q
   .have e:p=(Dd,o):=by simpa using q
    subst e
    exact dC (below b lt).2
 have YN:(cS X y scope C ax aL fp (X.pn++zn)).N.Nodup:=by
  show(y::X.N.map (λz=>if z=y then ("":Str) else z)).Nodup
  refine List.nodup_cons.mpr ⟨λz=>?_,?_⟩
  .obtain⟨z',hz,e⟩:=List.mem_map.mp z
   by_cases q:z'=y
   .rw[if_pos q] at e
    subst e
    have:=c.loc;rw[c.nil] at this;cases this
   .rw[if_neg q] at e;exact q e
  .have inj:∀a∈X.N,∀b∈X.N,(if a=y then ("":Str) else a)=(if b=y then ("":Str) else b)->a=b:=λa ha b hb e=>by
    by_cases qa:a=y
    .by_cases qb:b=y
     .rw[qa,qb]
     .rw[if_pos qa,if_neg qb] at e;exact absurd e.symm (c.none b hb)
    .by_cases qb:b=y
     .rw[if_neg qa,if_pos qb] at e;exact absurd e (c.none a ha)
     .rw[if_neg qa,if_neg qb] at e;exact e
   have gen:∀l:List Str,(∀a∈l,a∈X.N)->l.Nodup->(l.map (λz=>if z=y then ("":Str) else z)).Nodup:=by
    intro l
    induction l with
    | nil=>intro _ _;exact a3o
    | cons a l ih =>
      intro hs nd
      obtain⟨n1,n2⟩:=List.nodup_cons.mp nd
      rw[gz]
      refine List.nodup_cons.mpr ⟨λz=>?_,ih (λb hb=>hs b (eU _ hb)) n2⟩
      obtain⟨b,hb,e⟩:=List.mem_map.mp z
      exact n1 (inj b (hs b (eU _ hb)) a (hs a fI) e ▸ hb)
   exact gen X.N (λ_ h=>h) hN
 let L:Nat->ah->Prop:=λm s'=>∃(i:Nat) (H':Hp) (o:Option V) (xs:List V) (xL:List Value) (k:Nat),m=n-i/\i<=n/\Inv (cS X y scope C ax aL fp (X.pn++zn)) [(Dd,{ cls:=.type "list",dict:=none,data:=.seq xL.toArray k })] (o::σ) H' s'/\(∀b∈fp,H' b=none)/\tn i s'.heap/\Vals xs xL/\P i H' xs
 have loop:∀dQ:ah,L n dQ->jN (aF X.prog X.w) X.A (.compLoop (.ListComp elt [⟨.Name y px,iter,ifs,0⟩] scope pos) 0 (.ref it) (.ref Dd) (iA scope (cQ X.env scope.names []) C X.env)) (RR (.ref Dd) C) dQ:=λdQ h4=>by
  refine codeAny_compLoop_tests L (λm s' hL=>aq (E:=λ_ _=>False) ?_ (λ_ _ q=>q) λ_ _ z=>z.elim) n h4
  obtain⟨i,H',o,xs,xL,k,en,hi,J',N9,N_,rv,pi⟩:=hL
  have hpD:=J'.pin (Dd,{ cls:=.type "list",dict:=none,data:=.seq xL.toArray k }) (ft _ (by simp))
  have qS:=YK i H' xs pi hi
  have sm:(100000:Nat)<=bK:=by rw[oW];decide
  by_cases dt:i<n
  .obtain⟨go,yl⟩:=YL i H' xs pi dt
   refine je (T.item (cS X y scope C ax aL fp (X.pn++zn)) rfl rfl rfl gQ i _ s' _ H' (λ_ _=>False) J' (G1 N9) N_ go) λr s2 ⟨u,hr,h1⟩=>?_
   subst hr
   refine Yw (a:=()) h1 λ⟨x,H5,J5,r5,y5,sO,G2⟩=>?_
   have e5:=yl x H5 y5
   subst e5
   have YO:=J5.pinned (G1 G2) (T.obj _ _ sO)
   have G3:PG (cS X y scope C ax aL fp (X.pn++zn)).b5 (.Name y px) (D0 0):=KD (X:=(cS X y scope C ax aL fp (X.pn++zn)).b5) YN rfl (.inl (JY c.loc)) (.inr (JY c.loc))
   refine aq (G3 _ s2 (o::σ) H5 x u (λaO H'=>aO=some x::σ/\H'=H5) (YO.dv _) r5 ⟨rfl,rfl⟩) (λ_ s3 ⟨G4,H6,J6,e6,G5⟩=>?_) λ_ _ z=>z.elim
   subst e6 G5
   have back:∀{s5:ah} {H7:Hp} {eK:St},Inv (cS X y scope C ax aL fp (X.pn++zn)) ([(Dd,{ cls:=.type "list",dict:=none,data:=.seq xL.toArray k })]++xM fp s2.heap) eK H7 s5->tn (i+1) s5.heap/\(∀b∈fp,H7 b=none):=λ{s5 H7 eK} J7=>by
    refine⟨T.keep _ _ _ sO λb hb o' e=>(J7.pin (b,o') (ft _ (ft _ (xN hb e)))).1,λb hb=>?_⟩
    obtain⟨o',e,dd⟩:=T.obj _ _ sO b hb
    exact(J7.pin (b,o') (ft _ (ft _ (xN hb e)))).2.1
   refine aq (hp Dd C _ s3 x H6 i xs hC (λb hb=>by obtain⟨o',e,_⟩:=T.obj _ _ sO b hb;exact⟨o',ft _ (xN hb e)⟩) J6.fK pi dt y5) (λok s4 h4=>?_) λ_ _ z=>z
   cases ok with
   | false =>
     rw[if_neg uM] at h4 ⊢
     obtain⟨H7,J7,p7⟩:=h4
     obtain⟨G6,G7⟩:=back J7
     exact⟨n-(i+1),N5 en dt,i+1,H7,some x,xs,xL,k,rfl,dt,J7.u9,G7,G6,rv,p7⟩
   | true =>
     rw[if_pos rfl] at h4 ⊢
     refine aq h4 (λu7 s5 ⟨v7,H7,J7,r7,p7⟩=>?_) λ_ _ z=>z
     obtain⟨G6,G7⟩:=back J7
     have J8:=J7.u9
     have CF:=J8.pin (Dd,{ cls:=.type "list",dict:=none,data:=.seq xL.toArray k }) (ft _ (by simp))
     refine wpAny_list_append_plain (l:=Dd) (items:=xL.toArray) (x:=u7) ⟨k,CF.1⟩ (λh' oK nA=>?_) (by rw[dD,<-rv.length];exact fS qS sm)
     obtain⟨k',wq⟩:=oK
     have YQ:xL.toArray.push u7=(xL++[u7]).toArray:=by simp
     rw[YQ] at wq
     have J9:Inv (cS X y scope C ax aL fp (X.pn++zn)) [] (some x::σ) H7 s5:=J8.uY λp de=>by simp at de
     have YR:Inv (cS X y scope C ax aL fp (X.pn++zn)) [] (some x::σ) H7 { s5 with heap:=h' }:=J9.turned (t':=s5.toks) (it:=Dd) (λb o' hb e'=>(nA.2 b hb).trans e') CF.2.1 iR (.inr hD) (λx' Oa e' z=>by
      rcases uc scope.names [] (p4 e') with q | q
      .simp at q
      .obtain⟨v',o',dJ,_⟩:=I.cell x' Oa q
       exact(below Oa (cG dJ)).2 z) (λp de z=>by
      rcases List.mem_append.mp de with q | q
      .obtain⟨gX,_⟩:=I.pin p q
       exact(below p.1 (cG gX)).2 z
      .simp at q)
     have YS:Inv (cS X y scope C ax aL fp (X.pn++zn)) [(Dd,{ cls:=.type "list",dict:=none,data:=.seq (xL++[u7]).toArray k' })] (some x::σ) H7 { s5 with heap:=h' }:=YR.uY λp de=>by
      have e':p=(Dd,{ cls:=.type "list",dict:=none,data:=.seq (xL++[u7]).toArray k' }):=by simpa using de
      subst e'
      exact⟨wq,CF.2.1,iR,CF.2.2.2.1,λv z=>nomatch z⟩
     exact⟨n-(i+1),N5 en dt,i+1,H7,some x,xs++[v7],xL++[u7],k',rfl,dt,YS,G7,T.keep _ _ _ G6 λb hb o' e'=>(nA.2 b (below b (ho b hb)).2).trans e',rv.append (.cons r7 .nil),p7⟩
  .have G8:i=n:=Nat.le_antisymm hi (a3h dt)
   subst G8
   refine je (T.done (cS X y scope C ax aL fp (X.pn++zn)) rfl rfl rfl gQ _ _ s' _ H' (λ_ _=>False) J' (G1 N9) N_ (YM H' xs pi)) λr s1 ⟨hr,J1⟩=>?_
   subst hr
   have G9:=J1.pin (Dd,{ cls:=.type "list",dict:=none,data:=.seq xL.toArray k }) (ft _ (by simp))
   obtain⟨mC,kY,_⟩:=J1.loc
   exact hR Dd C xs H' mC s1 hC iR (I.aU.fresh hD) G9.2.1 J1.free hD pi (Yx I J1 hD G9.2.1 G9.1 rv (fS qS sm) hf) kY
 have L0:∀tk,L n { ax with heap:=gy,toks:=tk }:=λtk=>⟨0,aL,none,[],[],_,rfl,rK _,J0 tk,λb hb=>(hf b hb).1,t1,.nil,YJ⟩
 exact⟨rfl,codeAny_compStart_list (loop _ (L0 _)) (T.self _ 0 _ _ _ t1 (loop _ (L0 _)))⟩
def Ob{elt iter:Expr}{px pos:Pos}{ifs:List Expr}{f:D->G->R (Option D)}{zn:List (Addr×Obj)}{σ:St}{aL:Hp}{ax:ah}{F:List Addr}{O:G}{items:List D}{it:Addr}{fp:List Addr}{tn:Nat->Heap->Prop}{J:It}{E:Value->ah->Prop}{res:R (List D)}{RR:Value->Addr->nU->ah->Prop}
 (hp:∀(Dd C:Addr) (ps:List (Addr×Obj)) (s:ah) (x:V) (H:Hp) (d:D),ax.heap.objs.size<=C->(∀b∈fp,∃o,(b,o)∈ps)->Inv (cS X y scope C ax aL fp (X.pn++zn)) ps (some x::σ) H s->aT aL H->bC H F->Rel X.K H F (.ro d::O) (some x::σ)->f d O ≠ .no->(∀c,f d O = .er c->res = .er c) ->
   N6 X scope ifs elt C (λu dQ=>∃e v H',f d O = .ok (some e)/\Inv (cS X y scope C ax aL fp (X.pn++zn)) ps (some x::σ) H' dQ/\RelV v u/\aT H H'/\Is X.K (aM F H') e v) (λcT=>f d O = .ok none/\∃H',Inv (cS X y scope C ax aL fp (X.pn++zn)) ps (some x::σ) H' cT/\aT H H') (NX X scope RR Dd C) s)
 (c:sM X.N X.env y scope) (hN:X.N.Nodup) (gQ:X.calm=true) (I:Inv X zn σ aL ax) (fo:bC aL F) (rl:Rel X.K aL F O σ) (T:Turn X.prog X.w X.K (.Name y px) J fp it tn) (t0:tn 0 ax.heap) (hf:∀b∈fp,iY X zn aL b) (hj:JC X.K aL F J items)
 (ht:hJ (λd=>f d O) items []=res) (mr:res ≠ .no) (hl:items.length<=100000)
 (hR:∀(total:List D) (Dd C:Addr) (xs:List V) (H':Hp) (m:Str->Option Value) (s':ah),res = .ok total->ax.heap.objs.size<=C->Dd≠C->aL Dd=none->H' Dd=none->H' C=none->ax.heap.objs.size<=Dd->aT aL H'->ao X.K (aM F H') total xs->Inv X zn σ (upd H' Dd (.lst xs)) s'->s'.heap.Ns C m->RR (.ref Dd) C (.ok .next) s') :
 au (aF X.prog X.w) X.A (xu []) (λacc cT=>au (aF X.prog X.w) X.A (xy scope X.env.globals (cQ X.env scope.names []) [] X.env.qual none .none (some X.env)) (λcenv dQ=>cenv.frame=X.env.frame /\
  jN (aF X.prog X.w) X.A (.compStart (.ListComp elt [⟨.Name y px,iter,ifs,0⟩] scope pos) 0 (.ref it) acc { cenv with scope:=jR scope X.env }) (RR acc cenv.locals) dQ) E cT) E ax:=by
 refine N7 (n:=items.length) (λi H xs=>aT aL H/\∃acc:List D,acc.length<=i/\ao X.K (aM F H) acc xs/\hJ (λd=>f d O) (items.drop i) acc=res) ⟨.refl _,[],a9 _,ao.nil,by rw[Du];exact ht⟩ (λi H xs ⟨_,acc,h1,h2,_⟩ hi=>by rw[<-h2.length];exact fS h1 (fS hi hl))
  (λi H xs ⟨S,_⟩ hi=>⟨((hj H S).1 i hi).1,λx H5 y5=>(((hj H S).1 i hi).2 x H5 y5).1⟩) (λH xs ⟨S,_⟩=>(hj H S).2) (λDd C ps s x H i xs hC jK J ⟨S,acc,h1,h2,h3⟩ hi y5=>?_) c hN gQ I T t0 hf λDd C xs H' m s' hC iR hn g_ kY hD ⟨S,acc,h1,h2,h3⟩ I' o8=>?_
 .obtain⟨_,d,ed,iv⟩:=((hj H S).1 i hi).2 x H y5
  have G_:items.drop i=d::items.drop (i+1):=by
   rw[JP hi,l9 ((gE hi).symm.trans ed)]
  rw[G_] at h3
  unfold hJ at h3
  refine aq (hp Dd C ps s x H d hC jK J S (fo.same S) (YH (rl.same S) iv) (λz=>by simp only[z] at h3;exact mr h3.symm) λc z=>by simp only[z] at h3;exact h3.symm) (λok s4 h4=>?_) λ_ _ z=>z
  cases ok with
  | false =>
    rw[if_neg uM] at h4 ⊢
    obtain⟨ef,H7,J7,S7⟩:=h4
    simp only[ef] at h3
    exact⟨H7,J7,S.trans S7,acc,Nat.le_succ_of_le h1,h2.same (kA S7),h3⟩
  | true =>
    rw[if_pos rfl] at h4 ⊢
    refine aq h4 (λu7 s5 ⟨e,v7,H7,ef,J7,r7,S7,Ha⟩=>?_) λ_ _ z=>z
    simp only[ef] at h3
    exact⟨v7,H7,J7,r7,S.trans S7,acc++[e],by rw[aY,Dp];exact Nat.succ_le_succ h1,(h2.same (kA S7)).append (ao.cons Ha ao.nil),h3⟩
 .rw[JJ] at h3
  unfold hJ at h3
  exact hR acc Dd C xs H' m s' h3.symm hC iR hn g_ kY hD S h2 I' o8
def Oc(f:D->R (Option D)):∀{l acc:List D} {t:List D},fg f l acc = .ok t->hJ f l acc = .ok t
 | [],acc,t,h=>h
 | d::l,acc,t,h=>by
   unfold fg at h
   unfold hJ
   cases q:f d with
   | no=>simp only[q] at h;cases h
   | er c=>simp only[q] at h;cases h
   | ok o=>cases o<;>(simp only[q] at h ⊢;exact Oc f h)
def Od{elt iter:Expr}{px pos:Pos}{ifs:List Expr}{f:D->G->R (Option D)}{zn:List (Addr×Obj)}{σ:St}{aL:Hp}{ax:ah}{F:List Addr}{O:G}{items:List D}{it:Addr}{fp:List Addr}{tn:Nat->Heap->Prop}{J:It}{E:Value->ah->Prop}{total:List D}
 (hp:∀(C:Addr) (ps:List (Addr×Obj)) (s:ah) (x:V) (H:Hp) (d:D),Inv (cS X y scope C ax aL fp (X.pn++zn)) ps (some x::σ) H s->aT aL H->bC H F->Rel X.K H F (.ro d::O) (some x::σ)->(∃o,f d O = .ok o)->YF X y scope ifs elt (f d O) C ax aL fp (X.pn++zn) ps s (some x::σ) H F)
 (c:sM X.N X.env y scope) (hN:X.N.Nodup) (gQ:X.calm=true) (I:Inv X zn σ aL ax) (fo:bC aL F) (rl:Rel X.K aL F O σ) (T:Turn X.prog X.w X.K (.Name y px) J fp it tn) (t0:tn 0 ax.heap) (hf:∀b∈fp,iY X zn aL b) (hj:JC X.K aL F J items)
 (ht:fg (λd=>f d O) items [] = .ok total) (hl:items.length<=100000) {RR:Value->Addr->nU->ah->Prop}
 (hR:∀(Dd C:Addr) (xs:List V) (H':Hp) (m:Str->Option Value) (s':ah),ax.heap.objs.size<=C->Dd≠C->aL Dd=none->H' Dd=none->H' C=none->ax.heap.objs.size<=Dd->aT aL H'->ao X.K (aM F H') total xs->Inv X zn σ (upd H' Dd (.lst xs)) s'->s'.heap.Ns C m->RR (.ref Dd) C (.ok .next) s') :
 au (aF X.prog X.w) X.A (xu []) (λacc cT=>au (aF X.prog X.w) X.A (xy scope X.env.globals (cQ X.env scope.names []) [] X.env.qual none .none (some X.env)) (λcenv dQ =>
  jN (aF X.prog X.w) X.A (.compStart (.ListComp elt [⟨.Name y px,iter,ifs,0⟩] scope pos) 0 (.ref it) acc { cenv with scope:=jR scope X.env }) (RR acc cenv.locals) dQ) E cT) E ax:=by
 refine aq (Ob (f:=f) (O:=O) (F:=F) (RR:=RR) (res:=.ok total) (λDd C ps s x H d _ _ J S fo rl bO sJ=>?_) c hN gQ I fo rl T t0 hf hj (Oc _ ht) (λz=>nomatch z) hl λt Dd C xs H' m s' e=>by cases e;exact hR Dd C xs H' m s') (λ_ _ h=>aq h (λ_ _ h=>h.2) λ_ _ e=>e) λ_ _ e=>e
 have ho:∃o,f d O = .ok o:=by
  cases q:f d O with
  | no=>exact absurd q bO
  | er c=>cases sJ c q
  | ok o=>exact⟨o,rfl⟩
 refine aq (hp C ps s x H d J S fo rl ho) (λok s4 h4=>?_) λ_ _ z=>z.elim
 cases ok with
 | false=>exact h4
 | true=>exact aq h4 (λ_ _ q=>q) λ_ _ z=>z.elim
def ue{elt iter:Expr}{px pos:Pos}{ifs:List Expr}{f:D->G->R (Option D)}{gi:G->R (List D)}(hi:wo X (.Name y px) iter gi)(hp:CC X y scope ifs elt f)(hN:X.N.Nodup)(gQ:X.calm=true)
 (qV:ud X.N X.env y scope=true:=by rfl) (mH:xA scope X.env=pure (cQ X.env scope.names []):=by rfl) (hs:∀x,uS iter X.env x=pure x:=by intro _;rfl) :
 PF X (.ListComp elt [⟨.Name y px,iter,ifs,0⟩] scope pos) (fh gi f):=by
 refine⟨λzn s σ H F O I fo rl hg=>?_⟩
 have c:=zh qV
 rw[RL]
 refine RM (use:=none) rfl hs mH c.kind c.names (aq (hi.run zn s σ H F O I fo rl (R.left hg)) (λxv bT gy=>aq gy (λmT ax mI=>?_) λ_ _ x=>x.bind _) λ_ _ x=>x.bind _)
 obtain⟨items,it,fp,tn,J,aL,e1,rfl,I2,S2,T,t0,fk,jc⟩:=mI
 have dZ:=R.next hg e1
 obtain⟨hl,e2⟩:=R.cK dZ
 have bO:fg (λd=>f d O) items [] ≠ .no:=by
  have:=R.next hg e1
  rw[e2] at this;exact this
 obtain⟨total,et⟩:=Bc bO
 refine Od (RR:=λacc C=>RN (aF X.prog X.w) X.A _ none _ acc C) (λC ps s x H d J _ fo rl e=>hp.run C ax aL fp (X.pn++zn) ps s _ H F O d J fo rl e) c hN gQ I2 (fo.same S2) (rl.same S2) T t0 fk jc et hl ?_
 intro Dd C xs H' m s' hC iR hn g_ kY hD S' ia I' qW
 refine⟨m,qW,λkC jL=>?_⟩
 have jt:∀{b:Addr} {o:Obj},ax.heap.get? b=some o->b≠C:=λe=>fQ (eS (cG e) hC)
 have uf:Inv X zn σ (upd H' Dd (.lst xs)) { s' with heap:=kC }:=I'.turned (t':=s'.toks) (it:=C) (λb o hb e=>jL.extBut b o hb e) (by rw[b_ (dC iR)];exact kY) (oV (eS I2.lt hC)) (.inr (fS I2.sz hC))
  (λx k e=>by obtain⟨v,o,ho,_⟩:=I2.cell x k e;exact jt ho) (λp de=>jt (I2.pin p de).1)
 have S3:=gY g_ (.lst xs)
 refine⟨total,Dd,xs,_,(R.step e1 _).trans (e2.trans et),uf,rfl,(S2.trans S').trans S3,S2.free hn,dg,ia.same λb o hb=>?_⟩
 obtain⟨z1,z2⟩:=jr hb
 have fH:b≠Dd:=jA z2 g_
 rw[dc λz=>(List.mem_cons.mp z).elim fH z1,b_ fH]
 exact z2
end
def Hb(X:Cx)(zn:List (Addr×Obj))(H:Hp)(F:List Addr)(O:G)(s':ah):Prop:=∃aO H' F',Inv X zn aO H' s'/\bC H' F'/\Rel X.K H' F' O aO/\Ext H F H' F'
def mJ(X:Cx)(zn:List (Addr×Obj))(H:Hp)(F:List Addr)(r:R Fl)(u:Value)(s':ah):Prop:=∃v aO H' F',Inv X zn aO H' s'/\RelV v u/\Ext H F H' F' /\
 ((∃d,r = .ok (.rt d)/\Is X.K H' d v)∨∃ds a xs,r = .ok (.hG ds)/\v = .ref a/\(a∈F∨H a=none)/\H' a=some (.lst xs)/\ao X.K H' ds xs)
def mJ.map{X:Cx}{zn rT:List (Addr×Obj)}{H H1:Hp}{F F1:List Addr}{r r':R Fl}{u:Value}{s':ah}(h:mJ X zn H1 F1 r u s')(E:Ext H F H1 F1)(hI:∀aO H',Inv X zn aO H' s'->Inv X rT aO H' s')
 (h1:∀d,r = .ok (.rt d)->r' = .ok (.rt d)) (h2:∀ds,r = .ok (.hG ds)->r' = .ok (.hG ds)):mJ X rT H F r' u s':=by
 obtain⟨v,aO,H',F',I,rv,E',q⟩:=h
 refine⟨v,aO,H',F',hI _ _ I,rv,E.trans E',?_⟩
 rcases q with ⟨d,e,i⟩ | ⟨ds,a,xs,e,ev,hn,ha,i⟩
 .exact .inl ⟨d,h1 d e,i⟩
 .refine .inr ⟨ds,a,xs,h2 ds e,ev,?_,ha,i⟩
  rcases hn with z | z
  .exact E.old a z
  .by_cases c:a∈F
   .exact .inl c
   .refine .inr ?_
    cases q:H a with
    | none=>rfl
    | some o=>rw[E.keep a o c q] at z;cases z
def ug(X:Cx)(zn:List (Addr×Obj))(H:Hp)(F:List Addr)(r:R Fl)(fl:Flow)(s':ah):Prop:=match fl with
 | .next=>∃O',r = .ok (.nx O')/\Hb X zn H F O' s'
 | .brk=>∃O',r = .ok (.bk O')/\Hb X zn H F O' s'
 | .cont=>∃O',r = .ok (.ct O')/\Hb X zn H F O' s'
 | .ret u=>mJ X zn H F r u s'
def nG(X:Cx)(zn:List (Addr×Obj))(H:Hp)(F:List Addr)(r:R Fl)(x:Value)(s':ah):Prop:=∃c O' aO H' F',r = .ok (.ex c O')/\kW X zn aO H' c x s'/\bC H' F'/\Rel X.K H' F' O' aO/\Ext H F H' F'
structure PQ (X:Cx) (st:Stmt) (g:G->R Fl):Prop where
 run:∀(zn:List (Addr×Obj)) (s:ah) (σ:St) (H:Hp) (F:List Addr) (O:G),Inv X zn σ H s->bC H F->Rel X.K H F O σ->g O ≠ .no ->
  au (aF X.prog X.w) X.A (exec st X.env) (ug X zn H F (g O)) (nG X zn H F (g O)) s
structure j8 (X:Cx) (st:List Stmt) (g:G->R Fl):Prop where
 run:∀(zn:List (Addr×Obj)) (s:ah) (σ:St) (H:Hp) (F:List Addr) (O:G),Inv X zn σ H s->bC H F->Rel X.K H F O σ->g O ≠ .no ->
  au (aF X.prog X.w) X.A (uD st X.env) (ug X zn H F (g O)) (nG X zn H F (g O)) s
def ug.later{X:Cx}{zn:List (Addr×Obj)}{H H1:Hp}{F F1:List Addr}{r:R Fl}{fl:Flow}{s':ah}(E:Ext H F H1 F1)(h:ug X zn H1 F1 r fl s'):ug X zn H F r fl s':=by
 cases fl with
 | next=>obtain⟨O',e,aO,H',F',h1,h2,h3,h4⟩:=h;exact⟨O',e,aO,H',F',h1,h2,h3,E.trans h4⟩
 | brk=>obtain⟨O',e,aO,H',F',h1,h2,h3,h4⟩:=h;exact⟨O',e,aO,H',F',h1,h2,h3,E.trans h4⟩
 | cont=>obtain⟨O',e,aO,H',F',h1,h2,h3,h4⟩:=h;exact⟨O',e,aO,H',F',h1,h2,h3,E.trans h4⟩
 | ret u=>exact mJ.map h E (λ_ _ I=>I) (λ_ e=>e) λ_ e=>e
def nG.later{X:Cx}{zn:List (Addr×Obj)}{H H1:Hp}{F F1:List Addr}{r:R Fl}{x:Value}{s':ah}(E:Ext H F H1 F1)(h:nG X zn H1 F1 r x s'):nG X zn H F r x s':=by
 obtain⟨c,O',aO,H',F',e,h1,h2,h3,h4⟩:=h
 exact⟨c,O',aO,H',F',e,h1,h2,h3,E.trans h4⟩
def bP.lift{α:Type}{X:Cx}{zn:List (Addr×Obj)}{σ:St}{H:Hp}{F:List Addr}{O:G}{r:R α}{x:Value}{s':ah}(fo:bC H F)(rl:Rel X.K H F O σ)(h:bP X zn σ H r x s')(k:α->R Fl):nG X zn H F (lift r O k) x s':=by
 obtain⟨c,H',e,S,fl⟩:=h
 exact⟨c,O,σ,H',F,by rw[e];rfl,fl,fo.same S,rl.same S,.of_same S⟩
def Rel.CG{K:aD}{H:Hp}{F:List Addr}{O:G}{σ:St}{i:Nat}{d:D}{v:V}(r:Rel K H F O σ)(iv:Is K (aM F H) d v):Rel K H F (O.set i (.ro d)) (σ.set i (some v)) where
 len:=by rw[ip,ip,r.len]
 ro:=λj d' h=>by
  by_cases e:i=j
  .subst e
   by_cases hi:i<O.length
   .rw[g7 hi] at h;cases h
    exact⟨v,g7 (by rw[<-r.len];exact hi),iv⟩
   .rw[kG (by rw[ip];lia)] at h;cases h
  .rw[d_ e] at h
   rw[d_ e]
   exact r.ro j d' h
 own:=λj ds h=>by
  by_cases e:i=j
  .subst e
   by_cases hi:i<O.length
   .rw[g7 hi] at h;cases h
   .rw[kG (by rw[ip];lia)] at h;cases h
  .rw[d_ e] at h
   rw[d_ e]
   exact r.own j ds h
 inj:=λj k ds es a h1 h2 h3 h4=>by
  by_cases ej:i=j
  .subst ej
   by_cases hi:i<O.length
   .rw[g7 hi] at h1;cases h1
   .rw[kG (by rw[ip];lia)] at h1;cases h1
  .by_cases ek:i=k
   .subst ek
    by_cases hi:i<O.length
    .rw[g7 hi] at h2;cases h2
    .rw[kG (by rw[ip];lia)] at h2;cases h2
   .rw[d_ ej] at h1 h3
    rw[d_ ek] at h2 h4
    exact r.inj j k ds es a h1 h2 h3 h4
def Rel.set_own{K:aD}{H H':Hp}{F:List Addr}{O:G}{σ:St}{i:Nat}{ds:List D}{xs:List V}{a:Addr}(r:Rel K H F O σ)(fo:bC H F)(S:aT H H')(hn:H a=none)(ha:H' a=some (.lst xs))(iv:ao K (aM (a::F) H') ds xs):Rel K H' (a::F) (O.set i (.own ds)) (σ.set i (some (.ref a))) where
 len:=by rw[ip,ip,r.len]
 ro:=λj d' h=>by
  by_cases e:i=j
  .subst e
   by_cases hi:i<O.length
   .rw[g7 hi] at h;cases h
   .rw[kG (by rw[ip];lia)] at h;cases h
  .rw[d_ e] at h
   rw[d_ e]
   obtain⟨v,h1,h2⟩:=r.ro j d' h
   exact⟨v,h1,h2.same (Co S hn)⟩
 own:=λj ds' h=>by
  by_cases e:i=j
  .subst e
   by_cases hi:i<O.length
   .rw[g7 hi] at h;cases h
    exact⟨a,xs,g7 (by rw[<-r.len];exact hi),fI,ha,iv⟩
   .rw[kG (by rw[ip];lia)] at h;cases h
  .rw[d_ e] at h
   rw[d_ e]
   obtain⟨b,ys,h1,h2,h3,h4⟩:=r.own j ds' h
   exact⟨b,ys,h1,eU _ h2,S _ _ h3,h4.same (Co S hn)⟩
 inj:=λj k ds' es b h1 h2 h3 h4=>by
  have nF:∀(l:Nat) (cJ:List D),i≠l->O[l]? = some (.own cJ)->σ[l]? ≠ some (some (.ref a)):=λl cJ _ h z=>by
   obtain⟨b',ys,q1,q2,q3,_⟩:=r.own l cJ h
   rw[z] at q1;cases q1
   rw[hn] at q3;cases q3
  by_cases ej:i=j
  .by_cases ek:i=k
   .rw[<-ej,<-ek]
   .exfalso
    subst ej
    have hi:i<σ.length:=by
     by_cases hi:i<σ.length
     .exact hi
     .rw[kG (by rw[ip];lia)] at h3;cases h3
    rw[g7 hi] at h3;cases h3
    rw[d_ ek] at h2 h4
    exact nF k es ek h2 h4
  .by_cases ek:i=k
   .exfalso
    subst ek
    have hi:i<σ.length:=by
     by_cases hi:i<σ.length
     .exact hi
     .rw[kG (by rw[ip];lia)] at h4;cases h4
    rw[g7 hi] at h4;cases h4
    rw[d_ ej] at h1 h3
    exact nF j ds' ej h1 h3
   .rw[d_ ej] at h1 h3
    rw[d_ ek] at h2 h4
    exact r.inj j k ds' es b h1 h2 h3 h4
def Rel.put{K:aD}{H:Hp}{F:List Addr}{O:G}{σ:St}{i:Nat}{ds ds':List D}{xs':List V}{a:Addr}(r:Rel K H F O σ)(e:O[i]? = some (.own ds))(ea:σ[i]? = some (some (.ref a)))(iv:ao K (aM F H) ds' xs'):Rel K (upd H a (.lst xs')) F (O.set i (.own ds')) σ/\a∈F:=by
 obtain⟨a',xs,h1,hF,h3,h4⟩:=r.own i ds e
 rw[ea] at h1;cases h1
 have hh:aM F (upd H a (.lst xs'))=aM F H:=by
  funext b
  by_cases hb:b∈F
  .rw[qP hb,qP hb]
  .rw[dc hb,dc hb,b_ (λz=>hb (by rw[z];exact hF))]
 have hi:i<O.length:=(List.getElem?_eq_some_iff.mp e).1
 refine⟨⟨by rw[ip,r.len],λj d' h=>?_,λj es h=>?_,λj k dR sQ b h1 h2 Hc Hd=>?_⟩,hF⟩
 .by_cases ej:i=j
  .subst ej;rw[g7 hi] at h;cases h
  .rw[d_ ej] at h
   rw[hh];exact r.ro j d' h
 .by_cases ej:i=j
  .subst ej;rw[g7 hi] at h;cases h
   exact⟨a,xs',ea,hF,dg,by rw[hh];exact iv⟩
  .rw[d_ ej] at h
   obtain⟨b,ys,q1,q2,q3,q4⟩:=r.own j es h
   refine⟨b,ys,q1,q2,?_,by rw[hh];exact q4⟩
   rw[b_ (λz=>ej (r.inj i j ds es a e h ea (by rw[<-z];exact q1)))];exact q3
 .have old:∀(l:Nat) (cJ:List D),(O.set i (En.own ds'))[l]? = some (En.own cJ)->∃He,O[l]? = some (En.own He):=λl cJ h=>by
   by_cases el:i=l
   .subst el;exact⟨ds,e⟩
   .rw[d_ el] at h;exact⟨cJ,h⟩
  obtain⟨e1,q1⟩:=old j dR h1
  obtain⟨e2,q2⟩:=old k sQ h2
  exact r.inj j k e1 e2 b q1 q2 Hc Hd
section
variable {X:Cx}{st:Stmt}{rest:List Stmt}{t u:G->R Fl}{e a b c:Expr}{g ga gb:G->R D}{pos p pos':Pos}
def d8:j8 X [] b8:=⟨λzn s σ H F O I fo rl _=>qc ⟨O,rfl,σ,H,F,I,fo,rl,.refl⟩⟩
def aV(h1:PQ X st t)(h2:j8 X rest u):j8 X (st::rest) (aC t u):=by
 refine⟨λzn s σ H F O I fo rl hg=>?_⟩
 refine rL (aq (h1.run zn s σ H F O I fo rl (R.left hg)) (λfl s1 q=>?_) λx s1 q=>?_)
 .cases fl with
  | next =>
    obtain⟨O',e,aO,H',F',I',CH,oM,E⟩:=q
    have e2:aC t u O=u O':=R.step e _
    rw[e2] at hg ⊢
    exact aq (h2.run zn s1 aO H' F' O' I' CH oM hg) (λ_ _ q=>q.later E) λ_ _ q=>q.later E
  | ret v=>exact mJ.map q .refl (λ_ _ I=>I) (λ_ e=>R.step e _) λ_ e=>R.step e _
  | brk=>obtain⟨O',e,r⟩:=q;exact⟨O',R.step e _,r⟩
  | cont=>obtain⟨O',e,r⟩:=q;exact⟨O',R.step e _,r⟩
 .obtain⟨c,O',aO,H',F',e,r⟩:=q
  exact⟨c,O',aO,H',F',R.step e _,r⟩
def a7(h1:PQ X st t):j8 X [st] t:=by
 refine⟨λzn s σ H F O I fo rl hg=>?_⟩
 refine rL (je (h1.run zn s σ H F O I fo rl hg) λfl s1 q=>?_)
 cases fl with
 | next=>exact qc q
 | ret v=>exact q
 | brk=>exact q
 | cont=>exact q
def c_(he:PD X e g):PQ X (.Return (some e) pos) (bY g):=⟨λzn s σ H F O I fo rl hg =>
 Aq (aq (he.run zn s σ H F O I fo rl (kN hg)) (λu s1 ⟨d,v,H',e1,I',rv,S,i⟩=>⟨v,σ,H',F,I',rv,.of_same S,.inl ⟨d,kO e1,i⟩⟩) λ_ _ x=>x.lift fo rl _)⟩
def YT{g:G->R (List D)}(he:PF X e g):PQ X (.Return (some e) pos) (ye g):=⟨λzn s σ H F O I fo rl hg =>
 Aq (aq (he.run zn s σ H F O I fo rl (kN hg)) (λu s1 ⟨ds,a,xs,H',e1,I',eu,S,hn,ha,i⟩=>⟨.ref a,σ,H',F,I',eu,.of_same S,.inr ⟨ds,a,xs,kO e1,rfl,.inr hn,ha,i.same iO⟩⟩) λ_ _ x=>x.lift fo rl _)⟩
def YU(i:Nat){x:Str}{p:Pos}(hN:X.N[i]? = some x:=by rfl)(hv:nX X.env.scope x:=by first | exact iu rfl | exact fu (iu rfl) | exact fu (fu rfl))(hd:(x==("__debug__":Str))=false:=by decide)
 (eA:(x==("__classdict__":Str))=false:=by decide):PQ X (.Return (some (.Name x p)) pos) (vp i):=by
 refine⟨λzn s σ H F O I fo rl hg=>?_⟩
 unfold vp at hg ⊢
 cases q:O[i]? with
 | none=>rw[q] at hg;exact absurd rfl hg
 | some en =>
   cases en with
   | own ds =>
     obtain⟨a,xs,h1,h2,h3,h4⟩:=rl.own i ds q
     refine Aq (aq (rU (X:=X.b5) hN hv hd eA zn s σ H (λv' H'=>v' = .ref a/\H'=H) (I.dv _) ⟨.ref a,h1,rfl,rfl⟩) (λu s1 ⟨v',H',I',r,e1,e2⟩=>?_) λ_ _ z=>cC z)
     subst e1 e2
     exact⟨.ref a,σ,H',F,I'.fK,r,.refl,.inr ⟨ds,a,xs,rfl,rfl,.inl h2,h3,h4.same iO⟩⟩
   | _=>rw[q] at hg;exact absurd rfl hg
def dH{cs ds:List Stmt}{gc:G->R Bool}(hc:kB X c gc)(ha:j8 X cs t)(hb:j8 X ds u):PQ X (.If c cs ds pos) (bL gc t u):=by
 refine⟨λzn s σ H F O I fo rl hg=>?_⟩
 refine JZ (aq (hc.run zn s σ H F O I fo rl (kN hg)) (λk s1 ⟨H1,e1,I1,S1⟩=>?_) λ_ _ x=>x.lift fo rl _)
 have e2:bL gc t u O=if k=true then t O else u O:=kO e1
 rw[e2] at hg ⊢
 cases k with
 | true=>exact aq (ha.run zn s1 σ H1 F O I1 (fo.same S1) (rl.same S1) hg) (λ_ _ q=>q.later (.of_same S1)) λ_ _ q=>q.later (.of_same S1)
 | false=>exact aq (hb.run zn s1 σ H1 F O I1 (fo.same S1) (rl.same S1) hg) (λ_ _ q=>q.later (.of_same S1)) λ_ _ q=>q.later (.of_same S1)
def cU(i:Nat){x:Str}(he:iP X e g)(hN:X.N.Nodup)(hi:X.N[i]? = some x:=by rfl)(hx:Loc X.env.scope x:=by first | exact iu rfl | exact fu rfl)(hs:rM e (some (.Name x pos')) pos.line X.env=pure false:=by rfl)(hf:X.fn x=true∨X.env.scope.names.lookup x=some .local:=by first | exact .inl rfl | exact .inr rfl | assumption) :
 PQ X (.Assign [.Name x pos'] e pos) (bF i g):=by
 refine⟨λzn s σ H F O I fo rl hg=>?_⟩
 refine J2 (aq (he.run zn s σ H F O I fo rl (kN hg)) (λv s1 ⟨d,y,H1,e1,I1,r1,S1,i1⟩=>?_) λ_ _ x=>x.lift fo rl _) hs
 exact u0 I1 hN hi hx r1 (λs2 I2=>⟨_,kO e1,_,H1,F,I2,fo.same S1,(rl.same S1).CG i1,.of_same S1⟩) hf
def fP(i:Nat){x:Str}{g:G->R (List D)}(he:PF X e g)(hN:X.N.Nodup)(hi:X.N[i]? = some x:=by rfl)(hx:Loc X.env.scope x:=by first | exact iu rfl | exact fu rfl)(hs:rM e (some (.Name x pos')) pos.line X.env=pure false:=by rfl)(hf:X.fn x=true∨X.env.scope.names.lookup x=some .local:=by first | exact .inl rfl | exact .inr rfl | assumption) :
 PQ X (.Assign [.Name x pos'] e pos) (c8 i g):=by
 refine⟨λzn s σ H F O I fo rl hg=>?_⟩
 refine J2 (aq (he.run zn s σ H F O I fo rl (kN hg)) (λv s1 ⟨ds,a,xs,H1,e1,I1,eu,S1,hn,ha,i1⟩=>?_) λ_ _ x=>x.lift fo rl _) hs
 subst eu
 exact u0 (v:=.ref a) I1 hN hi hx rfl (λs2 I2=>⟨_,kO e1,_,H1,a::F,I2,(fo.same S1).cons ha,rl.set_own fo S1 hn ha i1,⟨λb o _ h=>S1 _ _ h,λb hb=>(List.mem_cons.mp hb).elim (λz=>.inr (z ▸ hn)) .inl⟩⟩) hf
def YV(i:Nat){x y:Str}{elt iter:Expr}{px:Pos}{ifs:List Expr}{scope:dU}{f:D->G->R (Option D)}{gi:G->R (List D)}(G8:wo X (.Name y px) iter gi)(hp:CC X y scope ifs elt f)(hN:X.N.Nodup)(gQ:X.calm=true)(hi:X.N[i]? = some x:=by rfl)(hx:Loc X.env.scope x:=by first | exact iu rfl | exact fu rfl)
 (qX:rM (.ListComp elt [⟨.Name y px,iter,ifs,0⟩] scope p) (some (.Name x pos')) pos.line X.env=pure true:=by rfl) (hf:X.fn x=true∨X.env.scope.names.lookup x=some .local:=by first | exact .inl rfl | exact .inr rfl | assumption)
 (qV:ud X.N X.env y scope=true:=by rfl) (mH:xA scope X.env=pure (cQ X.env scope.names []):=by rfl) (hs:∀x,uS iter X.env x=pure x:=by intro _;rfl) :
 PQ X (.Assign [.Name x pos'] (.ListComp elt [⟨.Name y px,iter,ifs,0⟩] scope p) pos) (c8 i (fh gi f)):=by
 refine⟨λzn s σ H F O I fo rl hg=>?_⟩
 have c:=zh qV
 rw[a4f _ _ _ _ qX]
 refine aS (uT (aS ?_))
 show au _ X.A (do let _ <-Ar (.ListComp elt [⟨.Name y px,iter,ifs,0⟩] scope p) scope X.env _ (xu []) false (eval iter X.env) (some (oU (.Name x pos') X.env))) _ _ s
 have Hf:=kN hg
 refine aS (aq (RM (use:=some (oU (.Name x pos') X.env)) (Q:=λ_ s'=>ug X zn H F (c8 i (fh gi f) O) .next s') rfl hs mH c.kind c.names
  (aq (G8.run zn s σ H F O I fo rl (R.left Hf)) (λxv bT gy=>aq gy (λmT ax mI=>?_) λ_ _ x=>(x.bind _).lift fo rl _) λ_ _ x=>(x.bind _).lift fo rl _)) (λ_ s' hq=>bS (bS hq)) λ_ _ e=>e)
 obtain⟨items,it,fp,tn,J,aL,e1,rfl,I2,S2,T,t0,fk,jc⟩:=mI
 have dZ:=R.next Hf e1
 obtain⟨hl,e2⟩:=R.cK dZ
 have bO:fg (λd=>f d O) items [] ≠ .no:=by
  have:=R.next Hf e1
  rw[e2] at this;exact this
 obtain⟨total,et⟩:=Bc bO
 have eT:fh gi f O = .ok total:=(R.step e1 _).trans (e2.trans et)
 refine Od (RR:=λacc C=>RN (aF X.prog X.w) X.A _ (some (oU (.Name x pos') X.env)) _ acc C) (λC ps s x H d J _ fo rl e=>hp.run C ax aL fp (X.pn++zn) ps s _ H F O d J fo rl e) c hN gQ I2 (fo.same S2) (rl.same S2) T t0 fk jc et hl ?_
 intro Dd C xs H' m s' hC iR hn g_ kY hD S' ia I' qW
 have jt:∀{b:Addr} {o:Obj},ax.heap.get? b=some o->b≠C:=λe=>fQ (eS (cG e) hC)
 have S3:=gY g_ (.lst xs)
 have xU:aT H (upd H' Dd (.lst xs)):=(S2.trans S').trans S3
 have hH:H Dd=none:=S2.free hn
 have Hg:ao X.K (aM (Dd::F) (upd H' Dd (.lst xs))) total xs:=ia.same λb o hb=>by
  obtain⟨z1,z2⟩:=jr hb
  have fH:b≠Dd:=jA z2 g_
  rw[dc λz=>(List.mem_cons.mp z).elim fH z1,b_ fH]
  exact z2
 show au _ X.A (oU (.Name x pos') X.env (.ref Dd)) _ _ s'
 refine QE (DW (v:=.ref Dd) I' hN hi hx rfl (λs3 I3 uh=>?_) hf)
 obtain⟨aa,uh,Hh⟩:=uh
 have Hi:aa≠C:=by
  rcases Hh with z | z
  .subst z;exact fQ (eS I2.lt hC)
  .obtain⟨v,o,ho,_⟩:=I2.cell x aa z;exact jt ho
 refine⟨m,qW.sameBut uh (dC Hi),λkC jL=>?_⟩
 have I4:Inv X zn (σ.set i (some (.ref Dd))) (upd H' Dd (.lst xs)) { s3 with heap:=kC }:=I3.turned (t':=s3.toks) (it:=C) (λb o hb e=>jL.extBut b o hb e) (by rw[b_ (dC iR)];exact kY) (oV (eS I2.lt hC)) (.inr (fS I2.sz hC))
  (λx k e=>by obtain⟨v,o,ho,_⟩:=I2.cell x k e;exact jt ho) (λp de=>jt (I2.pin p de).1)
 exact⟨_,kO eT,_,_,Dd::F,I4,(fo.same xU).cons dg,rl.set_own fo xU hH dg Hg,⟨λb o _ h=>xU _ _ h,λb hb=>(List.mem_cons.mp hb).elim (λz=>.inr (z ▸ hH)) .inl⟩⟩
def CI(i:Nat){x:Str}{apos b6:Pos}(he:iP X e g)(hN:X.N[i]? = some x:=by rfl)(hv:nX X.env.scope x:=by first | exact iu rfl | exact fu (iu rfl) | exact fu (fu rfl))(hd:(x==("__debug__":Str))=false:=by decide)(eA:(x==("__classdict__":Str))=false:=by decide)
 (qX:rM (.Call (.Attribute (.Name x p) "append" apos) [e] [] b6) none pos.line X.env=pure false:=by rfl)
 (j9:uU (.Name x p) "append" X.env (eval (.Name x p) X.env)=eval (.Name x p) X.env:=by rfl)
 (mK:((cD b6 (a8 [e] X.env)).all (λx=>!x.1)&&(uF b6 (uG [] X.env)).all (λx=>x.1.isSome)
   && decide ([e].length+([]:List lq).length+(if ([]:List lq).isEmpty then 0 else 1)<30))=true:=by rfl)
 (kZ:(apos.endLine==b6.line)=true:=by rfl) (hs:a8 [e] X.env=(false,eval e X.env)::a8 [] X.env:=by rfl) :
 PQ X (.Expr (.Call (.Attribute (.Name x p) "append" apos) [e] [] b6) pos) (mZ i g):=by
 refine⟨λzn s σ H F O I fo rl hg=>?_⟩
 refine J3 ?_ I.quiet qX
 have Hj:∃ds,O[i]? = some (.own ds):=by
  unfold mZ at hg
  split at hg
  .rename_i ds e1;exact⟨ds,e1⟩
  .exact absurd rfl hg
 obtain⟨ds,eo⟩:=Hj
 have Hk:mZ i g O=lift (g O) O λd=>R.guard (ds.length<=100000) (.ok (.nx (O.set i (.own (ds++[d]))))):=by unfold mZ;rw[eo]
 rw[Hk] at hg ⊢
 obtain⟨a',xs,h1,hF,h3,h4⟩:=rl.own i ds eo
 refine DI j9 mK kZ rfl (aq (rU (X:=X.b5) hN hv hd eA zn s σ H (λv' H'=>v' = .ref a'/\H'=H) (I.dv _) ⟨.ref a',h1,rfl,rfl⟩) (λv s1 ⟨v',H',I1,r1,e1,e2⟩=>?_) λ_ _ z=>cC z)
 subst e1 e2
 have zo:=I1.fK
 obtain⟨t1,t2⟩:=Eb (T:="list") zo r1 (.inl ⟨rfl,xs,cE.of h3⟩)
 refine⟨"list",_,RO,a4g,a4h,t1,t2,?_⟩
 rw[hs]
 refine As rfl (xB ?_)
 show au _ _ (fJ ((false,eval e X.env)::cD b6 [])) _ _ s1
 refine gF (aq (he.run zn s1 σ H' F O zo fo rl (kN hg)) (λu s2 ⟨d,y,H2,e3,I2,r2,S2,i2⟩=>jz ?_) λ_ _ x=>x.lift fo rl _)
 have dZ:=ED hg e3
 obtain⟨hl,e4⟩:=R.cK dZ
 have Oe:=S2 _ _ h3
 have sm:(100001:Nat)<=bK:=by rw[oW];decide
 have qS:=h4.length
 refine aq (K3 (X:=X.b5) zn s2 σ H2 (.ref a') [y] v [u] (λz pQ=>z = .cI/\pQ=upd H2 a' (.lst (xs++[y]))) (I2.dv _) r1 (.cons r2 .nil) ⟨a',xs,y,rfl,rfl,Oe,by lia,rfl,rfl⟩) (λw' s3 ⟨z,pQ,I3,rz,ez,eH⟩=>?_) λ_ _ z=>cC z
 subst ez eH
 obtain⟨oM,CJ⟩:=(rl.same S2).put eo h1 (xs':=xs++[y]) (ds':=ds++[d]) ((h4.same (kA S2)).append (ao.cons i2 ao.nil))
 refine⟨_,(kO e3).trans e4,σ,_,F,I3.fK,λb hb=>?_,oM,⟨λb o hb h=>?_,λb hb=>.inl hb⟩⟩
 .by_cases sR:b=a'
  .exact⟨xs++[y],by rw[sR];exact dg⟩
  .obtain⟨ys,q⟩:=fo b hb
   exact⟨ys,by rw[b_ sR];exact S2 _ _ q⟩
 .rw[b_ (λz=>hb (by rw[z];exact hF))];exact S2 _ _ h
def Of(i:Nat){x:Str}{k:Expr}{gk:G->R D}{sS:Pos}(hk:PD X k gk)(he:iP X e g)(hN:X.N[i]? = some x:=by rfl)(hv:nX X.env.scope x:=by first | exact iu rfl | exact fu (iu rfl) | exact fu (fu rfl))(hd:(x==("__debug__":Str))=false:=by decide)(eA:(x==("__classdict__":Str))=false:=by decide)
 (ha:∀v,oU (.Subscript (.Name x p) k sS) X.env v=(do
   let ov <-Ak [v] (eval (.Name x p) X.env)
   let iv <-Ak [v,ov] (eval k X.env)
   RB sS
   Ak [v,ov,iv] (setItem ov iv v)
   release [v,ov,iv] []):=by intro _;rfl)
 (hs:swapsWithSole [.Subscript (.Name x p) k sS] e pos.line X.env=pure false:=by rfl) (hw:swappedStores [.Subscript (.Name x p) k sS] e X.env=pure none:=by rfl)
 (gX:(assignEach [.Subscript (.Name x p) k sS] X.env).map (·.2)=[oU (.Subscript (.Name x p) k sS) X.env]:=by rfl) :
 PQ X (.Assign [.Subscript (.Name x p) k sS] e pos) (qy i gk g):=by
 refine⟨λzn s σ H F O I fo rl hg=>?_⟩
 have Hj:∃ds,O[i]? = some (.own ds):=by
  unfold qy at hg
  split at hg
  .rename_i ds e1;exact⟨ds,e1⟩
  .exact absurd rfl hg
 obtain⟨ds,eo⟩:=Hj
 have Hk:qy i gk g O=lift (g O) O λd=>lift (gk O) O λk=>(match k with
  | .int j=>(match jC ds.length j with | some j'=>.ok (.nx (O.set i (.own (ds.set j' d)))) | none=>.no)
  | _=>.no):=by(unfold qy;rw[eo])<;>rfl
 rw[Hk] at hg ⊢
 obtain⟨a',xs,h1,hF,h3,h4⟩:=rl.own i ds eo
 refine wpAny_Assign_stores (aq (he.run zn s σ H F O I fo rl (kN hg)) (λu s1 ⟨d,y,H1,e1,I1,r1,S1,i1⟩=>?_) λ_ _ x=>x.lift fo rl _) hs hw
 have aN:=ED hg e1
 rw[gX]
 rw[kO e1] at hg ⊢
 show au _ _ (oU (.Subscript (.Name x p) k sS) X.env u) _ _ s1
 rw[ha]
 refine aS (iV (aq (rU (X:=X.b5) hN hv hd eA zn s1 σ H1 (λv' H'=>v' = .ref a'/\H'=H1) (I1.dv _) ⟨.ref a',h1,rfl,rfl⟩) (λv s2 ⟨v',H',I2,r2,e2,e3⟩=>?_) λ_ _ z=>cC z))
 subst e2 e3
 refine aS (iV (aq (hk.run zn s2 σ H' F O I2.fK (fo.same S1) (rl.same S1) (kN hg)) (λw' s3 ⟨dk,vk,H3,e4,I3,r3,S3,i3⟩=>?_) λ_ _ x=>(x.lift (fo.same S1) (rl.same S1) _).later (.of_same S1)))
 have cA:=ED hg e4
 rw[kO e4] at hg ⊢
 cases dk with
 | int j =>
   cases q:jC ds.length j with
   | none=>simp only[q] at cA;exact absurd rfl cA
   | some j' =>
     have YW:=S3 _ _ (S1 _ _ h3)
     refine aS (uT (aS (iV (aq (TK (X:=X.b5) zn s3 σ H3 (.ref a') vk y v w' u (λpQ=>pQ=upd H3 a' (.lst (xs.set j' y))) (I3.dv _) r2 r3 r1 ⟨a',xs,j,j',rfl,Is.bZ.mp i3,YW,by rw[<-h4.length];exact q,rfl⟩) (λ_ s4 ⟨pQ,I4,eH⟩=>?_) λ_ _ z=>cC z))))
     subst eH
     refine wpAny_release ?_
     have CK:=S1.trans S3
     obtain⟨oM,CJ⟩:=(rl.same CK).put eo h1 (xs':=xs.set j' y) (ds':=ds.set j' d) (ao.set (i1.same (kA S3)) j' (h4.same (kA CK)))
     refine⟨_,by simp only[q],σ,_,F,I4.fK,λb hb=>?_,oM,⟨λb o hb h=>?_,λb hb=>.inl hb⟩⟩
     .by_cases sR:b=a'
      .exact⟨_,by rw[sR];exact dg⟩
      .obtain⟨ys,q'⟩:=fo b hb
       exact⟨ys,by rw[b_ sR];exact CK _ _ q'⟩
     .rw[b_ (λz=>hb (by rw[z];exact hF))];exact CK _ _ h
 | _=>exact absurd rfl cA
def zq(X:Cx):Prop:=∀zn H F r,PassesOwn (aF X.prog X.w) X.A X.env (nG X zn H F r)
def wt(i:Nat){x:Str}{px:Pos}{iter:Expr}{body:List Stmt}{gi:G->R (List D)}{gb:G->R Fl}(hp:zq X)(gQ:X.calm=true)(hi:wj X (.Name x px) iter gi)(hb:j8 X body gb)(hN:X.N.Nodup)(Hl:X.N[i]? = some x:=by rfl)(hx:Loc X.env.scope x:=by first | exact iu rfl | exact fu rfl)
 (hf:X.fn x=true∨X.env.scope.names.lookup x=some .local:=by first | exact .inl rfl | exact .inr rfl | assumption)
 (hs:∀x,uS iter X.env x=pure x:=by intro _;rfl):PQ X (.For (.Name x px) iter body [] pos) (lG i gi gb):=by
 refine⟨λzn s σ H F O I fo rl hg=>?_⟩
 refine wpAny_For (aq (hi.run zn s σ H F O I fo rl (kN hg)) (λv s1 h1=>aq h1 (λmT s2 h2=>?_) λ_ _ x=>x.lift fo rl _) λ_ _ x=>x.lift fo rl _) hs
 obtain⟨ds,it,fp,tn,J,H2,e1,rfl,I2,S2,T,t0,fk,jd⟩:=h2
 have eg:lG i gi gb O=e8 gb i ds O:=kO e1
 rw[eg] at hg ⊢
 have de:=hp zn H F (e8 gb i ds O)
 have Hm:∀{H':Hp},(∀b∈fp,H' b=none)->∀b∈fp,iY X zn H' b:=λhn b hb=>⟨hn b hb,(fk b hb).2⟩
 refine codeAny_forLoop_any (λn s'=>∃(j:Nat) (aO:St) (H':Hp) (F':List Addr) (O':G),n=ds.length-j/\j<=ds.length/\Inv X zn aO H' s'/\tn j s'.heap/\(∀b∈fp,H' b=none)/\bC H' F'/\Rel X.K H' F' O' aO/\Ext H2 F H' F'/\e8 gb i (ds.drop j) O'=e8 gb i ds O) ?_ ds.length
  ⟨0,σ,H2,F,O,by lia,rK _,I2,t0,λb hb=>(fk b hb).1,fo.same S2,rl.same S2,.refl,by rw[Du]⟩
 rintro n s3 ⟨j,zr,H3,F3,Hn,en,hj,I3,t3,Og,wu,zt,E3,Ho⟩
 have CL:Ext H F H3 F3:=(Ext.of_same S2).trans E3
 obtain⟨YX,YY⟩:=jd H3 λb o hb h=>E3.keep b o hb h
 by_cases dt:j<ds.length
 .obtain⟨go,yl⟩:=YX j dt
  refine ti de (je (T.item X rfl rfl rfl gQ j zn s3 zr H3 _ I3 (Hm Og) t3 go) λr s4 ⟨u,hr,h4⟩=>?_)
  subst hr
  refine ti de (je h4 λ_ s5 ⟨y,H5,I5,r5,y5,sO,G2⟩=>?_)
  obtain⟨e5,d,ed,iv⟩:=yl y H5 y5
  subst e5
  have YZ:=iv F3 λb hb=>E3.old b hb
  have G_:ds.drop j=d::ds.drop (j+1):=by
   rw[JP dt]
   have:ds[j]=d:=by
    have:=gE dt
    rw[ed] at this;exact(l9 this).symm
   rw[this]
  have Y0:=I5.pinned (Hm G2) (T.obj _ _ sO)
  have G3:PG X.b5 (.Name x px) (D0 i):=KD (X:=X.b5) hN Hl hx hf
  refine ti de (aq (G3 _ s5 zr H5 y u (λaO H'=>aO=zr.set i (some y)/\H'=H5) (Y0.dv _) r5 ⟨rfl,rfl⟩) (λ_ s6 ⟨G4,H6,I6,e6,G5⟩=>?_) λ_ _ z=>cC z)
  subst e6 G5
  have ui:e8 gb i (d::ds.drop (j+1)) Hn=e8 gb i ds O:=by rw[<-G_];exact Ho
  have iS:gb (Hn.set i (.ro d)) ≠ .no:=λz=>by
   rw[<-ui] at hg
   unfold e8 at hg
   rw[z] at hg
   exact hg rfl
  have back:∀{s7:ah} {eK:St} {H7:Hp},Inv X (zn++xM fp s5.heap) eK H7 s7->Inv X zn eK H7 s7/\tn (j+1) s7.heap/\∀b∈fp,H7 b=none:=λ{s7 eK H7} I7=>by
   refine⟨I7.u9,T.keep _ _ _ sO λb hb o e=>(I7.pin (b,o) (ft _ (ft _ (xN hb e)))).1,λb hb=>?_⟩
   obtain⟨o,e,dd⟩:=T.obj _ _ sO b hb
   exact(I7.pin (b,o) (ft _ (ft _ (xN hb e)))).2.1
  refine ti de (aq (hb.run _ s6 _ H6 F3 _ I6.fK wu (zt.CG YZ) iS) (λf s7 q7=>?_) λx7 s7 q7=>?_)
  .cases f with
   | next =>
     obtain⟨ic,e7,eK,H7,F7,I7,ig,ij,E7⟩:=q7
     obtain⟨b1,b2,b3⟩:=back I7
     refine⟨ds.length-(j+1),by lia,j+1,eK,H7,F7,ic,rfl,dt,b1,b2,b3,ig,ij,E3.trans E7,?_⟩
     rw[<-ui]
     conv=>rhs;unfold e8
     rw[e7]
   | cont =>
     obtain⟨ic,e7,eK,H7,F7,I7,ig,ij,E7⟩:=q7
     obtain⟨b1,b2,b3⟩:=back I7
     refine⟨ds.length-(j+1),by lia,j+1,eK,H7,F7,ic,rfl,dt,b1,b2,b3,ig,ij,E3.trans E7,?_⟩
     rw[<-ui]
     conv=>rhs;unfold e8
     rw[e7]
   | brk =>
     obtain⟨ic,e7,eK,H7,F7,I7,ig,ij,E7⟩:=q7
     refine⟨ic,?_,eK,H7,F7,I7.u9,ig,ij,CL.trans E7⟩
     rw[<-ui]
     conv=>lhs;unfold e8
     rw[e7]
   | ret v7 =>
     refine mJ.map q7 CL (λ_ _ I7=>I7.u9) (λd7 e7=>?_) λd7 e7=>?_
     .rw[<-ui]
      conv=>lhs;unfold e8
      rw[e7]
     .rw[<-ui]
      conv=>lhs;unfold e8
      rw[e7]
  .obtain⟨c7,ic,eK,H7,F7,e7,uj,ig,ij,E7⟩:=q7
   refine⟨c7,ic,eK,H7,F7,?_,?_,ig,ij,CL.trans E7⟩
   .rw[<-ui]
    conv=>lhs;unfold e8
    rw[e7]
   .obtain⟨I7,e',C',oe,vs,q1,q2,q3,q4,q5,q6,Y1,q8⟩:=uj
    refine⟨I7.u9,e',C',oe,vs,q1,q2,q3,q4,q5,q6,λp Hr=>Y1 p ?_,?_⟩
    .rcases List.mem_append.mp Hr with z | z
     .exact kD _ z
     .exact ft _ (kD _ z)
    .obtain⟨w1,w2,w3,w4,w5⟩:=q8
     refine⟨w1,w2,w3,w4,?_⟩
     rcases w5 with w5 | ⟨T',oT,ts,z1,z2,z3,z4,z5,z6,z7⟩
     .exact .inl w5
     .refine .inr ⟨T',oT,ts,z1,z2,z3,z4,z5,λp Hr=>z6 p ?_,z7⟩
      rcases List.mem_append.mp Hr with z | z
      .exact kD _ z
      .exact ft _ (kD _ z)
 .have ej:j=ds.length:=by lia
  subst ej
  refine ti de (je (T.done X rfl rfl rfl gQ _ zn s3 zr H3 _ I3 (Hm Og) t3 YY) λr s4 ⟨hr,I4⟩=>?_)
  subst hr
  rw[JJ] at Ho
  exact qc ⟨Hn,Ho.symm,zr,H3,F3,I4,wu,zt,CL⟩
def Oh(n:Nat){zu:Expr}{body:List Stmt}{gc:G->R Bool}{gb:G->R Fl}(hp:zq X)(hc:kB X zu gc)(hb:j8 X body gb):PQ X (.While zu body [] pos) (e_ gc gb n):=by
 refine⟨λzn s σ H F O I fo rl hg=>?_⟩
 have de:=hp zn H F (e_ gc gb n O)
 refine wpAny_While (a4i (λm s'=>∃(aO:St) (H':Hp) (F':List Addr) (O':G),Inv X zn aO H' s'/\bC H' F'/\Rel X.K H' F' O' aO/\Ext H F H' F'/\e_ gc gb m O'=e_ gc gb n O) ?_ n ⟨σ,H,F,O,I,fo,rl,.refl,rfl⟩)
 rintro m s1 ⟨i4,H1,F1,dh,I1,dI,d9,E1,dj⟩
 have aN:e_ gc gb m dh ≠ .no:=by rw[dj];exact hg
 cases m with
 | zero=>exact absurd rfl aN
 | succ m =>
   have Hs:e_ gc gb (m+1) dh=lift (gc dh) dh λk=>if k=true then (match gb dh with
    | .ok (.nx O')=>e_ gc gb m O'
    | .ok (.ct O')=>e_ gc gb m O'
    | .ok (.bk O')=>.ok (.nx O')
    | .ok (.rt d)=>.ok (.rt d)
    | .ok (.hG d)=>.ok (.hG d)
    | .ok (.ex c O')=>.ok (.ex c O')
    | _=>.no) else .ok (.nx dh):=rfl
   rw[Hs] at aN dj
   refine ti de (aq (hc.run zn s1 i4 H1 F1 dh I1 dI d9 (kN aN)) (λk s2 ⟨H2,e2,I2,S2⟩=>?_) λ_ _ x=>by rw[<-dj];exact(x.lift dI d9 _).later E1)
   rw[kO e2] at aN dj
   cases k with
   | false =>
     rw[if_neg uM] at dj ⊢
     exact qc ⟨dh,dj.symm,i4,H2,F1,I2,dI.same S2,d9.same S2,E1.trans (.of_same S2)⟩
   | true =>
     rw[if_pos rfl] at dj aN ⊢
     have iS:gb dh ≠ .no:=λz=>by rw[z] at aN;exact aN rfl
     refine ti de (aq (hb.run zn s2 i4 H2 F1 dh I2 (dI.same S2) (d9.same S2) iS) (λf s3 q3=>?_) λx3 s3 q3=>?_)
     .cases f with
      | next =>
        obtain⟨ic,e7,eK,H7,F7,I7,ig,ij,E7⟩:=q3
        rw[e7] at dj
        exact⟨m,DJ _,eK,H7,F7,ic,I7,ig,ij,(E1.trans (.of_same S2)).trans E7,dj⟩
      | cont =>
        obtain⟨ic,e7,eK,H7,F7,I7,ig,ij,E7⟩:=q3
        rw[e7] at dj
        exact⟨m,DJ _,eK,H7,F7,ic,I7,ig,ij,(E1.trans (.of_same S2)).trans E7,dj⟩
      | brk =>
        obtain⟨ic,e7,eK,H7,F7,I7,ig,ij,E7⟩:=q3
        rw[e7] at dj
        exact⟨ic,dj.symm,eK,H7,F7,I7,ig,ij,(E1.trans (.of_same S2)).trans E7⟩
      | ret v =>
        exact mJ.map q3 (E1.trans (.of_same S2)) (λ_ _ I7=>I7) (λd7 e7=>by rw[e7] at dj;exact dj.symm) λd7 e7=>by rw[e7] at dj;exact dj.symm
     .obtain⟨c7,ic,eK,H7,F7,e7,uj,ig,ij,E7⟩:=q3
      rw[e7] at dj
      exact⟨c7,ic,eK,H7,F7,dj.symm,uj,ig,ij,(E1.trans (.of_same S2)).trans E7⟩
end
def oN(X:Cx)(zn:List (Addr×Obj))(σ:St)(H:Hp)(c:Er)(x:Value)(s:ah)(fl:Value):Prop :=
 Inv X zn σ H s/\∃(e C:Addr) (oe:Obj) (vs:Array Value),x = .ref e/\X.mg c.nm=some (.ref C)/\H e=none/\X.s₀.heap.get? e=none/\e≠X.env.locals/\(∀y k,X.env.cells.lookup y=some k->k≠e)/\(∀p∈X.pn++zn,p.1≠e) /\
  s.heap.get? e=some oe/\oe.cls = .ref C/\oe.data = .fields vs/\GF (tg c) vs /\
  ∃(T:Addr) (oT:Obj) (ts:Array Value),vs[1]? = some (.ref T)/\H T=none/\X.s₀.heap.get? T=none/\T≠X.env.locals/\(∀y k,X.env.cells.lookup y=some k->k≠T)/\(∀p∈X.pn++zn,p.1≠T)/\T≠e /\
   s.heap.get? T=some oT/\oT.data = .fields ts/\ts[3]? = some fl
section
variable {X:Cx}{zn:List (Addr×Obj)}{σ:St}{H:Hp}{c:Er}{x:Value}{s:ah}{E:Value->ah->Prop}{Q:Unit->ah->Prop}
def oN.here{L:Addr}(hf:X.env.frame=some L)(h:oN X zn σ H c x s (kh L)):kW X zn σ H c x s:=by
 obtain⟨I,e,C,oe,vs,h1,h2,h3,h4,h5,h6,h7,h8,h9,i6,j_,T,oT,ts,k1,k2,k3,k4,k5,k6,k7,k8,k9,ju⟩:=h
 exact⟨I,e,C,oe,vs,h1,h2,h3,h4,h5,h6,h7,h8,h9,i6,j_,.inr ⟨T,oT,ts,k1,k2,k3,k4,k5,k6,k7,k8,k9,.inr ⟨L,hf,ju⟩⟩⟩
def Oi{P:a5}{w:aX}{H:Hp}{h:Heap}{a:Addr}{o:HO}(x:jB P w H h a o):∃ob,h.get? a=some ob:=by
 cases o with
 | lst xs=>obtain⟨_,_,_,_,e⟩:=x;exact⟨_,e⟩
 | tup xs=>obtain⟨_,_,_,ob,e,_⟩:=x;exact⟨_,e⟩
 | dK g9=>obtain⟨_,_,_,_,o,_,_,e,_⟩:=x;exact⟨_,e⟩
 | dT g9=>obtain⟨_,_,_,_,o,_,_,e,_⟩:=x;exact⟨_,e⟩
 | set S n=>obtain⟨o,_,_,_,e,_⟩:=x;exact⟨_,e⟩
 | ins C dx fs=>obtain⟨_,_,_,e,_⟩:=x;exact⟨_,e⟩
 | own y=>exact x
 | xd fs=>obtain⟨_,⟨_,_,_,e,_⟩,_⟩:=x;exact⟨_,e⟩
 | AA lo hi=>obtain⟨_,_,_,e⟩:=x;exact⟨_,e⟩
 | gG ob u=>obtain⟨e,_⟩:=x;exact⟨_,e⟩
 | rP ps=>exact⟨_,x⟩
 | met f y=>exact⟨_,x⟩
 | ext φ=>exact x.2.1
def Inv.Oj{ch:List Addr}{h':Heap}(I:Inv X zn σ H s)(jb:∀b∈ch,H b=none/\X.s₀.heap.get? b=none/\b≠X.env.locals/\(∀y k,X.env.cells.lookup y=some k->k≠b)/\∀p∈X.pn++zn,p.1≠b)
 (keep:∀b o,b ∉ du X.stack->b ∉ ch->s.heap.get? b=some o->h'.get? b=some o) (slot:∀b o,b ∉ ch->s.heap.get? b=some o->∃sl,h'.get? b=some { o with slots:=sl }):Inv X zn σ H { s with heap:=h' }:=by
 refine I.call (g':=s.gens) (t':=s.toks) (d':=s.drawn) (ch:=ch) ⟨λb o e _ hb hc=>keep b o hb hc e,λb o e _ _ hc=>slot b o hc e,λ_ _ _ n _=>n,λb o e hc=>let ⟨sl,q⟩:=slot b o hc e;⟨_,q⟩,λ_ _ q=>q,λ_ _ _ q=>q,λ_ ps q=>⟨#[],by rw[q];simp⟩⟩ (λb u e=>?_) I.bare λb hb=>?_
 .have tr:∀d w',H d=some w'->d ∉ du X.stack/\d ∉ ch:=λd w' q=>by
   refine⟨λz=>?_,λz=>?_⟩
   .rw[I.DT d z] at q;cases q
   .rw[(jb d z).1] at q;cases q
  refine(I.aU b u e).kJ (λd v hd q=>?_) (λ_ q=>q) λ_ _ q=>q
  rcases hd with z | z
  .rw[z] at q ⊢;exact keep b v (tr b u e).1 (tr b u e).2 q
  .exact keep d v (tr d _ z).1 (tr d _ z).2 q
 .obtain⟨h1,h2,h3,h4,h5⟩:=jb b hb
  exact⟨.inr h2,h3,h4,h5⟩
def hx(l:List Addr):Hp:=λb=>if b∈l then some (.own 0) else none
def Y2{l:List Addr}{b:Addr}(h:b∈l):hx l b=some (.own 0):=by unfold hx;rw[if_pos h]
def Ol{l:List Addr}{b:Addr}(h:b ∉ l):hx l b=none:=by unfold hx;rw[if_neg h]
def zv{h:Heap}{l:List Addr}{b:Addr}(hb:b∈l):(ki h (hx l)).get? b=none:=by
 cases q:(ki h (hx l)).get? b with
 | none=>rfl
 | some o =>
   have z:=(DR q).2
   rw[Y2 hb] at z;cases z
def Om(e:Addr)(a2:Option Value)(h:Heap):Prop:=∃oe vs,h.get? e=some oe/\oe.data = .fields vs/\vs[2]? = a2
def Oo{M:l0}{A:Around}{base:Heap}{env:Env}{outer:List Env}{L e:Addr}{oe:Obj}{vs:Array Value}{head a0:Value}{Y3:Bool}{E:Value->ah->Prop}{s:ah}{Q:Unit->ah->Prop}
 (eO:A.frames=some (env::outer)) (hl:s.heap.FunFrames base (env::outer)) (hf:env.frame=some L)
 (he:s.heap.get? e=some oe) (Y4:base.StaysIn s.heap) (Y5:base.get? e=none) (hd:oe.data = .fields vs) (jh:1<vs.size) (h0:vs[0]? = some a0)
 (h:∀h',Heap.NotedW base (env::outer) e oe.cls a0 (kh L) s.heap h'->Om e vs[2]? h'->Q () { s with heap:=h' }) :
 au M A (do let a <-frameOf env;let pl <-entryPlaceOf L Y3;let b <-a4j head a .none (kh L) .none pl;setField (.ref e) 1 b) Q E s:=by
 have apart:∀{b o},s.heap.get? b=some o->(∀ws,o.data ≠ .fields ws)->b≠e:=λq n z=>by
  rw[z,he] at q;cases q;exact n vs hd
 have out:e ∉ (env::outer).filterMap (·.frame):=λz=>by
  obtain⟨_,o,ho,n⟩:=hl.mem z
  exact apart ho n rfl
 refine aS (wpAny_frameOf_fun eO hl hf λh1 k1=>?_)
 refine aS (wpAny_entryPlaceOf λpl gI=>?_)
 unfold a4j newFields
 refine aS (Ab ?_ (gI.sizeOk5 _ _ _ _ _))
 have e1:h1.get? e=some oe:=(k1.2.1 e out).trans he
 have b1:base.StaysIn h1:=λb o q=>(k1.2.1 b λz=>by rw[(hl.mem z).1] at q;cases q).trans (Y4 b o q)
 have e2:=eX (h:=h1) { cls:=.type "traceback",dict:=none,data:=.fields ([head,.ref L,.none,kh L,.none]++(if pl.isEmpty then b0 6 kg else pl)).toArray } e1
 refine J_ e2 hd jh ?_
 have nT:h1.objs.size≠e:=oV (cG e1)
 have d3:=RP hd (·.setIfInBounds 1 (dS h1.objs.size))
 have e3:=xi (rN (·.setIfInBounds 1 (dS h1.objs.size))) e2 (a4k d3)
 have T3:=(rE (h1.push { cls:=.type "traceback",dict:=none,data:=.fields ([head,.ref L,.none,kh L,.none]++(if pl.isEmpty then b0 6 kg else pl)).toArray }) (rN (·.setIfInBounds 1 (dS h1.objs.size))) (dC nT)).trans (g0 h1 rfl)
 have kJ:∀{b o},b≠e->h1.get? b=some o->((h1.push { cls:=.type "traceback",dict:=none,data:=.fields ([head,.ref L,.none,kh L,.none]++(if pl.isEmpty then b0 6 kg else pl)).toArray }).update e (rN (·.setIfInBounds 1 (dS h1.objs.size)))).get? b=some o :=
  λn q=>(rE _ _ (dC n)).trans (eX _ q)
 refine h _ ⟨λb o q=>kJ (λz=>by rw[z,Y5] at q;cases q) (b1 b o q),hl.of_keeps λb o q n=>?_,?_,λb o q n=>?_⟩ ⟨_,_,e3,d3,a4l (by decide)⟩
 .obtain⟨sl,z⟩:=k1.2.2 b o q
  exact⟨_,kJ (apart q n) z,rfl⟩
 .exact⟨_,_,h1.objs.size,_,_,e3,⟨Obj.cls_mapFields _ _,(a4l (by decide)).trans h0⟩,d3,by simp[jh],b1.fresh,nT,T3,rfl,by first | (simp;done) | (rcases gI with rfl | ⟨_,_,_,_,_,_,_,rfl⟩<;>simp)⟩
 .obtain⟨sl,z⟩:=k1.2.2 b o q
  exact⟨sl,kJ (apart q n) z⟩
def Oq{L e C:Addr}{a0:Value}{ch:List Addr}{h':Heap}(hex:X.ex=[])(I:Inv X zn σ H s)(qk:X.mg c.nm=some (.ref C))(he:e∈ch)(jb:∀b∈ch,H b=none/\X.s₀.heap.get? b=none/\b≠X.env.locals/\(∀y k,X.env.cells.lookup y=some k->k≠b)/\∀p∈X.pn++zn,p.1≠b)
 (hN:Heap.NotedW (ki s.heap (hx (du X.stack++ch))) X.stack e (.ref C) a0 (kh L) s.heap h') {a2:Option Value} (h2:Om e a2 h') (Y6:tg c=none->a2=some .none):oN X zn σ H c (.ref e) { s with heap:=h' } (kh L):=by
 obtain⟨st,ff,⟨qY,zw,T',Y7,Cj,q1,⟨q2,Y8⟩,q3,q4,q5,q6,q7,q8,q9⟩,up⟩:=hN
 have keep:∀b o,b ∉ du X.stack->b ∉ ch->s.heap.get? b=some o->h'.get? b=some o:=λb o h1 h2 q=>st b o (DQ q (Ol λz=>(List.mem_append.mp z).elim h1 h2))
 have slot:∀b o,b ∉ ch->s.heap.get? b=some o->∃sl,h'.get? b=some { o with slots:=sl }:=λb o h2 q=>by
  by_cases hb:b∈du X.stack
  .obtain⟨_,o',dJ,wx⟩:=I.stack.mem hb
   rw[q] at dJ;cases dJ
   exact up b o q wx
  .exact⟨o.slots,keep b o hb h2 q⟩
 have hT:H T'=none/\X.s₀.heap.get? T'=none/\T'≠X.env.locals/\(∀y k,X.env.cells.lookup y=some k->k≠T')/\∀p∈X.pn++zn,p.1≠T':=by
  cases q:s.heap.get? T' with
  | none =>
    refine⟨?_,I.gone hex q⟩
    cases z:H T' with
    | none=>rfl
    | some u =>
      obtain⟨o,eo⟩:=Oi (I.aU T' u z)
      rw[q] at eo;cases eo
  | some o =>
    have Y9:T'∈du X.stack++ch:=by
     by_cases z:T'∈du X.stack++ch
     .exact z
     .have:=DQ q (Ol z)
      rw[q5] at this;cases this
    rcases List.mem_append.mp Y9 with z | z
    .exfalso
     obtain⟨_,o',dJ,wx⟩:=I.stack.mem z
     rw[q] at dJ;cases dJ
     obtain⟨sl,e1⟩:=up T' o q wx
     rw[q7] at e1;cases e1
     exact wx _ q8
    .exact jb T' z
 obtain⟨f1,f2,f3,f4,f5⟩:=jb e he
 obtain⟨g1,g2,g3,g4,g5⟩:=hT
 exact⟨Inv.Oj I jb keep slot,e,C,qY,zw,rfl,qk,f1,f2,f3,f4,f5,q1,q2,q3,⟨⟨a0,Y8⟩,λz=>by
  obtain⟨o2,v2,y1,y2,y3⟩:=h2
  rw[q1] at y1;cases y1
  rw[q3] at y2;cases y2
  exact y3.trans (Y6 z)⟩,T',Y7,Cj,q4,g1,g2,g3,g4,g5,q6,q7,q8,q9⟩
def wy{M:l0}{L:Addr}(hex:X.ex=[])(kd:X.stack=X.env::X.outer)(hf:X.env.frame=some L)(h:kW X zn σ H c x s)(hQ:∀s',oN X zn σ H c x s' (kh L)->Q () s'):au M X.A (DK x X.env) Q E s:=by
 obtain⟨I,e,C,oe,vs,h1,h2,h3,h4,h5,h6,h7,h8,h9,i6,j_,sT⟩:=h
 subst h1
 obtain⟨⟨a0,j_⟩,Ht⟩:=j_
 have eO:X.A.frames=some (X.env::X.outer):=by rw[<-kd];exact I.ok.frames
 have nfe:∀{b:Addr} {o:Obj} {ws:Array Value},s.heap.get? b=some o->o.data = .fields ws->b ∉ du X.stack:=λ{b o ws} q1 q2 z=>by
  obtain⟨_,o',dJ,wx⟩:=I.stack.mem z
  rw[q1] at dJ;cases dJ
  exact wx _ q2
 have hl:∀ch:List Addr,s.heap.FunFrames (ki s.heap (hx (du X.stack++ch))) (X.env::X.outer):=λch=>by
  have gen:∀(l:List Env),(∀b∈du l,b∈du X.stack)->s.heap.FunFrames X.base l->s.heap.FunFrames (ki s.heap (hx (du X.stack++ch))) l:=by
   intro l
   induction l with
   | nil=>intro _ _;trivial
   | cons env r ih =>
     intro hs ⟨hk,⟨L',o,Hu,hn,ho,hd⟩,hr⟩
     have m1:∀b∈du r,b∈du (env::r):=λb hb=>by unfold du at hb ⊢;rw[rn,Hu];exact eU _ hb
     have m0:L'∈du (env::r):=by unfold du;rw[rn,Hu];exact fI
     exact⟨hk,⟨L',o,Hu,zv (kD _ (hs L' m0)),ho,hd⟩,ih (λb hb=>hs b (m1 b hb)) hr⟩
  rw[<-kd]
  exact gen X.stack (λ_ h=>h) I.stack
 have stays:∀ch:List Addr,(ki s.heap (hx (du X.stack++ch))).StaysIn s.heap:=λch b o q=>(DR q).1
 rcases sT with sT | ⟨T,oT,ts,k1,k2,k3,k4,k5,k6,k7,k8,k9,ju⟩
 .have jh:1<vs.size:=(Array.getElem?_eq_some_iff.mp sT).1
  unfold DK
  simp only[hf]
  refine aS (p5 h8 i6 sT ?_)
  rw[if_neg (by decide)]
  refine Oo eO (hl [e]) hf h8 (stays [e]) (zv (by simp)) i6 jh j_ λh' hN hK=>hQ _ ?_
  rw[h9,<-kd] at hN
  refine Oq (ch:=[e]) hex I h2 (by simp) (λb hb=>?_) hN hK Ht
  have:b=e:=by simpa using hb
  subst this
  exact⟨h3,h4,h5,h6,h7⟩
 .have uZ:∀b∈[e,T],H b=none/\X.s₀.heap.get? b=none/\b≠X.env.locals/\(∀y k,X.env.cells.lookup y=some k->k≠b)/\∀p∈X.pn++zn,p.1≠b:=λb hb=>by
   have:b=e∨b=T:=by simpa using hb
   rcases this with rfl | rfl
   .exact⟨h3,h4,h5,h6,h7⟩
   .exact⟨k2,k3,k4,k5,k6⟩
  rcases ju with ju | ⟨L',Ot,ju⟩
  .have CM:∀b,b≠T->(s.heap.update T (rN (·.setIfInBounds 3 kg))).get? b=s.heap.get? b:=λb hb=>rE _ _ (dC hb)
   have nT:∀{b o},s.heap.get? b=some o->(∀ws,o.data ≠ .fields ws)->b≠T:=λq n z=>by rw[z,k8] at q;cases q;exact n ts k9
   unfold DK
   simp only[hf]
   refine aS (p5 h8 i6 k1 ?_)
   rw[if_pos (show(dS T != kg)=true from by simp)]
   refine aS (p5 k8 k9 ju ?_)
   rw[if_neg (show ¬((kg==kh L)=true) from by simp[kh])]
   refine aS (J_ k8 k9 (Array.getElem?_eq_some_iff.mp ju).1 ?_)
   refine Oo eO ((hl [e,T]).of_keeps λb o q n=>⟨o,(CM b (nT q n)).trans q,rfl⟩) hf ((CM e (dC k7)).trans h8) (λb o q=>(CM b λz=>by rw[z,zv (by simp)] at q;cases q).trans (stays [e,T] b o q)) (zv (by simp)) i6 (Array.getElem?_eq_some_iff.mp k1).1 j_ λh' ⟨x1,x2,x3,x4⟩ hK=>hQ _ ?_
   rw[h9] at x3
   rw[<-kd] at x2
   exact Oq (s:=s) (ch:=[e,T]) hex I h2 (by simp) uZ ⟨x1,x2,x3,λb o q n=>x4 b o ((CM b (nT q n)).trans q) n⟩ hK Ht
  .rw[hf] at Ot;cases Ot
   refine wpAny_noteFrame_againW (base:=ki s.heap (hx (du X.stack++[e,T]))) (cls:=.ref C) (a0:=a0) hf ⟨oe,vs,T,oT,ts,h8,⟨h9,j_⟩,i6,k1,zv (by simp),k7,k8,k9,ju⟩ (hQ s ?_)
   exact⟨I,e,C,oe,vs,rfl,h2,h3,h4,h5,h6,h7,h8,h9,i6,⟨⟨a0,j_⟩,Ht⟩,T,oT,ts,k1,k2,k3,k4,k5,k6,k7,k8,k9,ju⟩
def sU{M:l0}{A:Around}{fl:Value}{fr:Option Addr}(h:oN X zn σ H c x s fl)(hQ:∀s',oN X zn σ H c x s' (fr.elim .none λf=>kh f)->Q () s'):au M A (setFlight x fr) Q E s:=by
 obtain⟨I,e,C,oe,vs,h1,h2,h3,h4,h5,h6,h7,h8,h9,i6,j_,T,oT,ts,k1,k2,k3,k4,k5,k6,k7,k8,k9,ju⟩:=h
 subst h1
 have Ou:3<ts.size:=(Array.getElem?_eq_some_iff.mp ju).1
 have other:∀b,b≠T->(s.heap.update T (rN (·.setIfInBounds 3 (fr.elim kg λf=>kh f)))).get? b=s.heap.get? b:=λb hb=>rE _ _ (dC hb)
 unfold setFlight
 refine aS (p5 h8 i6 k1 ?_)
 rw[if_pos (show(dS T != kg)=true from by simp)]
 refine J_ k8 k9 Ou (hQ _ ⟨Inv.Oj (ch:=[T]) I (λb hb=>?_) (λb o hb hc q=>?_) (λb o hc q=>?_),e,C,oe,vs,rfl,h2,h3,h4,h5,h6,h7,(other e (dC k7)).trans h8,h9,i6,j_,T,_,_,k1,k2,k3,k4,k5,k6,k7,
  xi _ k8 (a4k (RP k9 _)),RP k9 _,by simp[Ou]⟩)
 .have:b=T:=by simpa using hb
  subst this
  exact⟨k2,k3,k4,k5,k6⟩
 .have o7:b≠T:=by simpa using hc
  exact(other b o7).trans q
 .have o7:b≠T:=by simpa using hc
  exact⟨o.slots,(other b o7).trans q⟩
def Y_{L:Addr}(hex:X.ex=[])(kd:X.stack=X.env::X.outer)(hf:X.env.frame=some L):zq X:=λzn H F r e s' h=>by
 obtain⟨c,O',aO,H',F',e1,fl,fo,rl,Ex⟩:=h
 refine wy hex kd hf fl λs1 f1=>?_
 obtain⟨I,e',C,oe,vs,h1,h2,h3,h4,h5,h6,h7,h8,h9,i6,j_,T,oT,ts,k1,kr⟩:=id f1
 subst h1
 show au _ _ _ _ _ _
 refine aS (p5 h8 i6 k1 ?_)
 rw[if_neg (show ¬((dS T==kg)=true) from by simp)]
 rw[hf]
 exact sU f1 λs2 f2=>⟨c,O',aO,H',F',e1,f2.here hf,fo,rl,Ex⟩
end
def Za{H:Hp}:aM [] H=H:=by funext b;unfold aM;simp
def Ov{K:aD}{H:Hp}{N:List Str}{ds:List D}{vs:List V}(i:ao K H ds vs):Rel K H [] (eE N.length ds) (L2.start N vs):=by
 have hl:=i.length
 have key:∀(j:Nat) (en:En),(eE N.length ds)[j]? = some en->(∃d,en = .ro d/\ds[j]? = some d)∨en = .no:=λj en h=>by
  unfold eE at h
  by_cases hj:j<ds.length
  .rw[xf (by simpa using hj),jO,gE hj] at h
   cases h
   exact .inl ⟨_,rfl,gE hj⟩
  .rw[uK (by simpa using hj),QL] at h
   split at h
   .cases h;exact .inr rfl
   .cases h
 refine⟨?_,λj d h=>?_,λj es h=>?_,λj k es fs a h1 _ _ _=>?_⟩
 .unfold eE L2.start
  simp[hl]
 .rcases key j _ h with ⟨d',e,hd⟩ | e
  .cases e
   obtain⟨v,hv,iv⟩:=i.get hd
   refine⟨v,?_,by rw[Za];exact iv⟩
   unfold L2.start
   rw[xf (by rw[aZ];exact(List.getElem?_eq_some_iff.mp hv).1),jO,hv];rfl
  .cases e
 .rcases key j _ h with ⟨d',e,_⟩ | e<;>cases e
 .rcases key j _ h1 with ⟨d',e,_⟩ | e<;>cases e
section
variable {P:a5}{w:aX}{K:aD}{mg:Str->Option Value}{base:Heap}
abbrev fY (P:a5) (w:aX) (K:aD) (mg:Str->Option Value) (base:Heap) (N:List Str) (qual:Str) (st:Stmt) (f:Addr) (bA:Value) (A:Around) (outer:List Env) (s:ah) (H:Hp) (E:XK):Cx :=
 ve (nE P w) P w K mg base N qual (iB st) f bA A outer s H E
def Hv{N:List Str}{qual:Str}{st:Stmt}{f:Addr}{bA:Value}{A:Around}{outer:List Env}{s s':ah}{H H':Hp}{E:XK}{zn:List (Addr×Obj)}{aO:St}{F':List Addr}{c:Er}{x:Value}
 (fl:kW (fY P w K mg base N qual st f bA A outer s H E) zn aO H' c x s') (hE:∀C,mg c.nm=some (.ref C)->E (.ref C) (tg c) H'):(fY P w K mg base N qual st f bA A outer s H E).xe x s':=by
 show au _ _ (QJ _ x) _ _ s'
 unfold QJ
 refine aS (wy (L:=s.heap.objs.size) rfl rfl rfl fl λs1 f1=>?_)
 refine sU (fr:=none) f1 λs2 f2=>?_
 obtain⟨I,e,C,oe,vs,h1,h2,h3,h4,h5,h6,h7,h8,h9,i6,j_,T,oT,ts,k1,k2,k3,k4,k5,k6,k7,k8,k9,ju⟩:=f2
 exact⟨e,C,T,oe,oT,vs,ts,H',tg c,h1,I.os,I.bare,I.base,I.aU,h3,h4,h8,h9,i6,j_,k1,k2,k3,k7,k8,k9,ju,hE C h2⟩
def Ow{x qual:Str}{st:Stmt}{f:Addr}{fd:cw}{N ps:List Str}{k:Nat}{φ:List D->R D}(Fu:mU K x qual st f fd)(S:jf N ps (iB st))(hb:kL K fd ps [])(hlen:∀ds,φ ds ≠ .no->ds.length=ps.length)
 (jg:∀(bA:Value) (A:Around) (outer:List Env) (s:ah) (H:Hp) (E:XK),dM k (fY P w K mg base N qual st f bA A outer s H E).A->∃g,j8 (fY P w K mg base N qual st f bA A outer s H E) (ly st) g/\∀ds,φ ds ≠ .no->fin (g (eE N.length ds))=φ ds) :
 iJ P w K mg base (k+1) f fd ps φ:=by
 refine⟨?_,hb,Fu.kp⟩
 obtain⟨oc,od,kV,doc,pm,an,bA,ct,qi,rfl,lk,eA⟩:=Fu.ex
 refine xP lk eA S (λvs H Q E h=>?_) λA outer s H vs Q E hr eB=>?_
 .obtain⟨ds,i,bO,_⟩:=h
  rw[<-i.length];exact hlen ds bO
 obtain⟨g,hq,hg⟩:=jg bA A outer s H E hr
 obtain⟨ds,i,bO,aU,sJ⟩:=eB
 have e0:=hg ds bO
 refine⟨λD' aO H'=>D'={ nx:=λ_ H'=>Q .cI H',rt:=Q }/\aO=L2.start N vs/\H'=H,?_,rfl,rfl,rfl⟩
 intro zn s1 i4 H1 D1 I hw
 obtain⟨rfl,rfl,rfl⟩:=hw
 have Hw:g (eE N.length ds) ≠ .no:=λz=>bO (by rw[<-e0,z];rfl)
 refine aq (hq.run zn s1 (L2.start N vs) H1 [] (eE N.length ds) I bC.nil (Ov i) Hw) (λfl s' q=>?_) λx' s' q=>?_
 .cases fl with
  | next =>
    obtain⟨O',e1,aO,H',F',I',_,_,Ex⟩:=q
    exact⟨aO,H',I',aU .cI .cI H' (by rw[<-e0,e1];rfl) Ex.same (Is.Cn.mpr rfl)⟩
  | ret u =>
    obtain⟨v,aO,H',F',I',rv,Ex,⟨d,e1,iv⟩ | ⟨es,a,xs,e1,ev,hn,ha,ia⟩⟩:=q
    .exact⟨v,aO,H',I',rv,aU d v H' (by rw[<-e0,e1];rfl) Ex.same iv⟩
    .exact absurd (by rw[<-e0,e1];rfl) bO
  | brk=>obtain⟨O',e1,_⟩:=q;exact absurd (by rw[<-e0,e1];rfl) bO
  | cont=>obtain⟨O',e1,_⟩:=q;exact absurd (by rw[<-e0,e1];rfl) bO
 .obtain⟨c,O',aO,H',F',e1,fl,fo,rl,Ex⟩:=q
  exact Hv (F':=F') fl λC hC=>sJ c C H' (by rw[<-e0,e1];rfl) hC Ex.same
def Zb{x qual:Str}{st:Stmt}{f:Addr}{fd:cw}{N ps:List Str}{k:Nat}{φ:List D->R (List D)}(Fu:mU K x qual st f fd)(S:jf N ps (iB st))(hb:kL K fd ps [])(hlen:∀ds,φ ds ≠ .no->ds.length=ps.length)
 (jg:∀(bA:Value) (A:Around) (outer:List Env) (s:ah) (H:Hp) (E:XK),dM k (fY P w K mg base N qual st f bA A outer s H E).A->∃g,j8 (fY P w K mg base N qual st f bA A outer s H E) (ly st) g/\∀ds,φ ds ≠ .no->Be (g (eE N.length ds))=φ ds) :
 pP P w K mg base (k+1) f fd ps φ:=by
 refine⟨?_,hb,Fu.kp⟩
 obtain⟨oc,od,kV,doc,pm,an,bA,ct,qi,rfl,lk,eA⟩:=Fu.ex
 refine xP lk eA S (λvs H Q E h=>?_) λA outer s H vs Q E hr eB=>?_
 .obtain⟨ds,i,bO,_⟩:=h
  rw[<-i.length];exact hlen ds bO
 obtain⟨g,hq,hg⟩:=jg bA A outer s H E hr
 obtain⟨ds,i,bO,aU,sJ⟩:=eB
 have e0:=hg ds bO
 refine⟨λD' aO H'=>D'={ nx:=λ_ H'=>Q .cI H',rt:=Q }/\aO=L2.start N vs/\H'=H,?_,rfl,rfl,rfl⟩
 intro zn s1 i4 H1 D1 I hw
 obtain⟨rfl,rfl,rfl⟩:=hw
 have Hw:g (eE N.length ds) ≠ .no:=λz=>bO (by rw[<-e0,z];rfl)
 refine aq (hq.run zn s1 (L2.start N vs) H1 [] (eE N.length ds) I bC.nil (Ov i) Hw) (λfl s' q=>?_) λx' s' q=>?_
 .cases fl with
  | next =>
    obtain⟨O',e1,_⟩:=q
    exact absurd (by rw[<-e0,e1];rfl) bO
  | ret u =>
    obtain⟨v,aO,H',F',I',rv,Ex,⟨d,e1,iv⟩ | ⟨es,a,xs,e1,ev,hn,ha,ia⟩⟩:=q
    .exact absurd (by rw[<-e0,e1];rfl) bO
    .subst ev
     exact⟨.ref a,aO,H',I',rv,aU es a xs H' (by rw[<-e0,e1];rfl) Ex.same (hn.elim (λz=>absurd z (by simp)) λz=>z) ha ia⟩
  | brk=>obtain⟨O',e1,_⟩:=q;exact absurd (by rw[<-e0,e1];rfl) bO
  | cont=>obtain⟨O',e1,_⟩:=q;exact absurd (by rw[<-e0,e1];rfl) bO
 .obtain⟨c,O',aO,H',F',e1,fl,fo,rl,Ex⟩:=q
  exact Hv (F':=F') fl λC hC=>sJ c C H' (by rw[<-e0,e1];rfl) hC Ex.same
def qZ{N:List Str}{qual:Str}{st:Stmt}{f:Addr}{bA:Value}{A:Around}{outer:List Env}{s:ah}{H:Hp}{E:XK}:zq (fY P w K mg base N qual st f bA A outer s H E):=Y_ (L:=s.heap.objs.size) rfl rfl rfl
end
section
variable {X:Cx}{e a b c:Expr}{g ga gb gc:G->R D}{pos p:Pos}
def zz:Expr->Bool
 | .Constant (.int _) _ _=>true
 | _=>false
def Zc:Expr->D
 | .Constant (.int i) _ _=>.int i
 | _=>.cI
def Zd{es:List Expr}(h:es.all zz=true:=by rfl):mF X es (λ_=>.ok (es.map Zc)):=by
 induction es with
 | nil=>exact aA
 | cons e es ih =>
   have h1:zz e=true/\es.all zz=true:=by simpa using h
   have h2:=ih h1.2
   cases e with
   | Constant c j q =>
     cases c with
     | int i =>
       refine⟨λpos zn s σ H F O I fo rl hg=>?_⟩
       exact(aj (X:=X) (e:=.Constant (.int i) j q) av h2 (by rfl)).run pos zn s σ H F O I fo rl (λz=>nomatch z)
     | _=>exact absurd h1.1 (by simp[zz])
   | _=>exact absurd h1.1 (by simp[zz])
def Ze{zn:List (Addr×Obj)}{σ:St}{H:Hp}{s:ah}{A:Around}{E:Value->ah->Prop}{Q:Value->ah->Prop}{d:D}{v:V}{u cv:Value}{b:Bool}(I:Inv X zn σ H s)(CN:d.my=true)(i:Is X.K H d v)(r:RelV v u)(e:DL X.K (.type d.ty) cv=some b)(h:∀tk,Q (.bool b) { s with toks:=tk }) :
 au (aF X.prog X.w) A (call (.builtin "isinstance") [u,cv]) Q E s:=by
 cases d with
 | cI=>rw[Is.Cn.mp i] at r;cases (show u=kg from r);exact uV PySem.W.kitx_none I.gH Dz e (λz=>nomatch z) h
 | bl y=>rw[Is.gN.mp i] at r;cases (show u=wY y from r);exact uV PySem.W.kitx_bool I.gH Dz e (λz=>nomatch z) h
 | int y=>rw[Is.bZ.mp i] at r;obtain⟨t,q⟩:=(show ∃t,u=oR y t from r);cases q;exact uV PySem.W.kitx_int I.gH Dz e (λz=>nomatch z) h
 | str y=>rw[Is.fW.mp i] at r;obtain⟨t,q⟩:=(show ∃t,u=zZ y t from r);cases q;exact uV PySem.W.kitx_str I.gH Dz e (λz=>nomatch z) h
 | tup ds =>
   obtain⟨a,xs,rfl,h1,_⟩:=Is.fX.mp i
   cases (show u=dS a from r)
   obtain⟨xL,_,⟨o,ho,hc,_⟩,_⟩:=I.tuple h1
   exact uV PySem.W.kitx_tuple I.gH ⟨o,ho,hc⟩ e (λz=>nomatch z) h
 | lst ds =>
   obtain⟨a,xs,rfl,h1,_⟩:=Is.fD.mp i
   cases (show u=dS a from r)
   obtain⟨xL,_,⟨o,n,ho,hc,_⟩,_⟩:=I.list h1
   exact uV PySem.W.kitx_list I.gH ⟨o,ho,hc⟩ e (λz=>nomatch z) h
 | kM =>
   obtain⟨a,ob,rfl,h1,h2⟩:∃a ob,v=V.ref a/\H a=some (.gG ob (.own 0))/\ob.cls = .type "dict":=by unfold Is at i;exact i
   cases (show u=dS a from r)
   exact uV PySem.W.kitx_dict I.gH ⟨ob,(I.aU a _ h1).1,h2⟩ e (λz=>nomatch z) h
 | exc c=>simp[D.my] at CN
def Ox{y:Str}{py:Pos}{cv:Value}(f:String->Bool)(ha:PD X a ga)(hm:X.mg "isinstance"=none)(hb:∀{E:Value->ah->Prop} {zn σ H s} {Q:Value->ah->Prop},Inv X zn σ H s->Q cv s->au (aF X.prog X.w) X.A (eval (.Name y py) X.env) Q E s)
 (hk:∀d:D,d.my=true->DL X.K (.type d.ty) cv=some (f d.ty)) (hg:Gl X "isinstance":=by rfl)
 (he:a8 [a,.Name y py] X.env=(false,eval a X.env)::(false,eval (.Name y py) X.env)::[]:=by rfl) (gI:(cD pos (a8 [.Name y py] X.env)).any (·.1)=false:=by rfl) (qU:a8 [.Name y py] X.env=[(false,eval (.Name y py) X.env)]:=by rfl) :
 PD X (.Call (.Name "isinstance" p) [a,.Name y py] [] pos) (A_ f ga):=by
 refine⟨λzn s σ H F O I fo rl bR=>?_⟩
 refine mQ (kl I hg hm (by trivial:nR "isinstance"=some (.builtin "isinstance")) ?_ (by decide) (by decide))
 refine JU ?_ (by rw[he,qU]) gI
 rw[he]
 show au _ _ (fJ ((false,eval a X.env)::cD pos [(false,eval (.Name y py) X.env)])) _ _ s
 refine gF (aq (ha.run zn s σ H F O I fo rl (R.left bR)) (λu s1 ⟨d,v,H1,e1,I1,r1,S1,i1⟩=>?_) λ_ _ x=>x.bind _)
 show au _ _ (fJ ((false,eval (.Name y py) X.env)::cD pos [])) _ _ s1
 refine gF (hb I1 (jz ?_))
 obtain⟨CN,e2⟩:=U0 (R.next bR e1)
 exact Ze I1 CN i1 r1 (hk d CN) λtk=>di.bind e1 S1 ⟨.bl (f d.ty),.bl (f d.ty),H1,e2,I1.tok _,rfl,.refl _,Is.gN.mpr rfl⟩
def Zf{K:aD}(d:D)(h:d.my=true):DL K (.type d.ty) (.type "int")=some (Ba d.ty):=by cases d<;>first | rfl | (simp[D.my] at h)
def Zg{K:aD}(d:D)(h:d.my=true):DL K (.type d.ty) (.type "bool")=some (Bb d.ty):=by cases d<;>first | rfl | (simp[D.my] at h)
def q_{x:Str}{i:Int}{u:Value}(hm:X.mg x=some u)(hu:∃t,u = .int i t)(hg:Gl X x:=by rfl)(hd:(x==("__debug__":Str))=false:=by decide):PD X (.Name x pos) (gC (.int i)) :=
 NP hg hm (v:=.int i) hu (λ_=>Is.bZ.mpr rfl) hd
end
def pP.mono{P:a5}{w:aX}{K:aD}{mg:Str->Option Value}{base:Heap}{j k:Nat}{f:Addr}{fd:cw}{ps:List Str}{φ:List D->R (List D)}(F:pP P w K mg base j f fd ps φ)(h:j<=k):pP P w K mg base k f fd ps φ:=⟨F.ok.mono h,F.binds,F.kp⟩
def wz(φ:List D->R D)(K:aD):Sp:=λvs H Q _=>∃ds d,ao K H ds vs/\φ ds = .ok d/\(∀v H',aT H H'->Is K H' d v->Q v H')
def Zh{φ:List D->R D}{K:aD}{mg:Str->Option Value}{vs:List V}{H:Hp}{Q:VK}{E:XK}(h:wz φ K vs H Q E):yX K mg φ vs H Q E:=by
 obtain⟨ds,d,i,e,q⟩:=h
 exact⟨ds,i,(by rw[e];exact(λz=>nomatch z)),(λd' v H' e' S iv=>by rw[e] at e';cases e';exact q v H' S iv),(λc C H' e'=>by rw[e] at e';cases e')⟩
def iJ.okN{P:a5}{w:aX}{K:aD}{mg:Str->Option Value}{base:Heap}{k:Nat}{f:Addr}{fd:cw}{ps:List Str}{φ:List D->R D}(F:iJ P w K mg base k f fd ps φ):jT P w K mg base (nE P w) k f fd ps (wz φ K) :=
 F.ok.imp λ_ _ _ _ h=>Zh h
def Zi{c:List D->R D}(hc:∀ns:List Int,ns.length<=63->c [.lst (ns.map D.int)] = .ok (.bl true)){K:aD}{H:Hp}{a:Addr}{ns:List Int}(hl:ns.length<=63)(hS:cE K H a (ns.map V.int)):wz c K [.ref a] H (λv _=>v = .bl true) λ_ _ _=>False :=
 ⟨[.lst (ns.map D.int)],.bl true,ao.cons (Is.fD.mpr ⟨a,_,rfl,hS,ao.ints ns⟩) ao.nil,hc ns hl,λv H' _ iv=>Is.gN.mp iv⟩
def Zj{P:a5}{w:aX}{H:Hp}{s:ah}{e:Value}{s':ah}(h:nE P w [] H s (λ_ _ _=>False) e s'):False:=by
 obtain⟨_,_,_,_,_,_,_,_,_,_,_,_,_,_,_,_,_,_,_,_,_,_,_,_,_,_,_,z⟩:=h
 exact z
def Zk{l:a3i}{n k:Nat}{q:a5}{loose:List Str}{XP:(Str->Option Value)->Heap->Prop}{YP:aX->Heap->Prop}{d:DefRec}{K:oY->aD}{CX:aX->ml}(sp:aD->Sp){x:Str}
 (hn:l.most=some n) (AV:n<=bK) (xV:d.params.defaults=[]) (hr:dM k uN)
 (hY:∀(w:aX) (h:Heap),YP w h->(K w.params).In h)
 (F:∀(w:aX) (mg:Str->Option Value) (fa:Addr) (h:Heap),(K w.params).In h->h.Ns dm mg->mg d.name=some (.ref fa) ->
   ∃fd:cw,(∀(s:ah) (u:Value),BindsTo s fd ⟨[u],[]⟩ [(x,u)]) /\
    ∀base:Heap,(K w.params).In base->base.Ns dm mg->jT l.prog w (K w.params) mg base (CX w) k fa fd [x] (sp (K w.params)))
 (eB:∀(K:aD) (H:Hp) (a:Addr) (ns:List Int),ns.length<=n->cE K H a (ns.map V.int)->sp K [.ref a] H (λv _=>v = .bl true) λ_ _ _=>False)
 (xX:∀(w:aX) (H:Hp) (s:ah) (e:Value) (s':ah),CX w [] H s (λ_ _ _=>False) e s'->False) :
 PySem.W.WalkO q loose XP YP l.row.toRowW d [] (λf vs=>Q6 f vs) :=
 K9 (K:=K) (CX:=CX) (sp:=λw=>sp (K w.params)) hn AV xV hr hY F (λw H a ns h1 _ h3=>eB (K w.params) H a ns h1 h3) xX
end L3
namespace L3
open PySem PySem.Spec PyProof.Rows L2
def CO(lo st:Int)(n:Nat):It:=⟨λi _=>i<n,λi H x H'=>H'=H/\x = .int (lo+st*(i:Int)),λi _=>n<=i⟩
def Zl{P:a5}{w:aX}{K:aD}{tg:Expr}(it:Addr)(lo st:Int)(n:Nat):Turn P w K tg (CO lo st n) [it] it (λi h=>Jt h it (lo+(i:Nat)*st) ((n:Int)-(i:Nat)) st) where
 mem:=by simp
 obj:=λi h st b hb=>by
  have e:b=it:=by simpa using hb
  subst e
  exact⟨_,st,λv z=>by
   have z':Data.fields _=Data.cell v:=z
   cases z'⟩
 keep:=λi h h' st k=>k it (by simp) _ st
 item:=by
  intro X hP hw hK hc i zn s σ H E I hf sx hg
  subst hP hw hK
  obtain⟨f0,f1,f2,f3,f4,f5⟩:=hf it (by simp)
  have W:=Walks.range (prog:=X.prog) (w:=X.w) (I.ok.hd hc) it lo st n
  refine W.item i s _ _ hg sx λv h' tk hv km kk=>?_
  obtain⟨t,rfl⟩:=hv
  have I1:Inv X zn σ H { s with heap:=h',toks:=tk }:=I.turned (λb o hb e=>kk b o (by simpa using hb) e) f0 f1 f3 f4 f5
  refine⟨_,rfl,xK (s:={ s with heap:=h',toks:=tk }) (n:="range_iterator") km rfl rfl (by decide) ⟨.int (lo+st*i),H,I1,⟨t,?_⟩,⟨rfl,rfl⟩,km,λb hb=>(hf b hb).1⟩⟩
  rw[Int.mul_comm]
 done:=by
  intro X hP hw hK hc i zn s σ H E I hf sx hg
  subst hP hw hK
  obtain⟨f0,f1,f2,f3,f4,f5⟩:=hf it (by simp)
  exact a2m (I.ok.hd hc) sx (by have:n<=i:=hg;lia) λh' eb=>⟨rfl,I.turned (t':=s.toks) (λb o hb e=>eb b o hb e) f0 f1 f3 f4 f5⟩
 self:=λ_ _ _ _ _ st h=>a2n st h
def CP{a b c:Int}(hc:0<c):z_ a b c=((lD a b c:Nat):Int):=by
 unfold z_ lD
 rw[if_pos hc]
 by_cases h:a<b
 .rw[if_pos h,show b-a+c-1=(b-a-1)+c*1 by lia,Int.add_mul_ediv_left _ _ (by lia)]
  have:0<=(b-a-1)/c:=Int.ediv_nonneg (by lia) (by lia)
  lia
 .rw[if_neg h]
  have h1:(b-a+c-1)/c<=0:=by
   have:(b-a+c-1)/c<=(c-1)/c:=Int.ediv_le_ediv hc (by lia)
   have h2:(c-1)/c=0:=Int.ediv_eq_zero_of_lt (by lia) (by lia)
   lia
  lia
def Zm{a b c:Int}(hc:0<c)(h:a<=b):((lD a b c:Nat):Int)<=b-a:=by
 rw[<-CP hc]
 unfold z_
 rw[if_pos hc]
 by_cases h:a<b
 .rw[if_pos h]
  have:=Int.ediv_le_self (a:=b-a-1) c (by lia)
  lia
 .rw[if_neg h];lia
def Zn{a b c:Int}(ha:-1073741824<=a)(ha':a<1073741824)(hb:-1073741824<=b)(FP:b<1073741824)(hc:0<c)(o7:c<1073741824):a4m a b c=true:=by
 unfold a4m
 have hs:((lD a b c:Nat):Int)<=4294967296:=by
  by_cases h:a<=b
  .have:=Zm hc h;lia
  .rw[<-CP hc]
   unfold z_
   rw[if_pos hc,if_neg (by lia)];lia
 rw[CP hc]
 generalize lD a b c=n at *
 simp only[Builtin.Range.rangeFitsLong,jP,RI,decide_eq_true_eq,beq_iff_eq,if_pos (show c>0 from hc)]
 lia
section
variable {X:Cx}{tg a b c:Expr}{ga gb gc:G->R D}
def Zo{zn:List (Addr×Obj)}{σ:St}{H:Hp}{s:ah}{R:It->Hp->Prop}{E:Value->ah->Prop}{lo hi st:Int}{t u v:Tok}{tk:Nat}(I:Inv X zn σ H s)(h1:-1073741824<=lo)(h2:lo<1073741824)(h3:-1073741824<=hi)(h4:hi<1073741824)(h5:0<st)(h6:st<1073741824)
 (q:R (CO lo st (lD lo hi st)) H):au (aF X.prog X.w) X.A (rA (.ref s.heap.objs.size)) (D2 X zn σ tg R) E { s with heap:=s.heap.push { cls:=.type "range",data:=.fields #[.int lo t,.int hi u,.int st v] },toks:=tk }:=by
 refine a2o (IsRange.new ..) (Zn h1 h2 h3 h4 h5 h6) ?_
 have I1:Inv X zn σ H { s with heap:=s.heap.push { cls:=.type "range",data:=.fields #[.int lo t,.int hi u,.int st v] },toks:=tk }:=I.kept λb o e=>eX _ e
 refine⟨(s.heap.push { cls:=.type "range",data:=.fields #[.int lo t,.int hi u,.int st v] }).objs.size,[(s.heap.push { cls:=.type "range",data:=.fields #[.int lo t,.int hi u,.int st v] }).objs.size],_,_,H,rfl,
  I1.kept (t':=tk) λb o e=>eX _ e,Zl _ lo st (lD lo hi st),?_,λb hb=>?_,q⟩
 .have e1:lo+((0:Nat):Int)*st=lo:=by simp
  have e2:((lD lo hi st:Nat):Int)-((0:Nat):Int)=z_ lo hi st:=by rw[CP h5];lia
  show Jt _ _ (lo+((0:Nat):Int)*st) (((lD lo hi st:Nat):Int)-((0:Nat):Int)) st
  rw[e1,e2]
  exact g0 _ rfl
 .have e:b=(s.heap.push { cls:=.type "range",data:=.fields #[.int lo t,.int hi u,.int st v] }).objs.size:=by simpa using hb
  subst e
  exact I1.xJ (a9 _) (I1.aU.fresh (a9 _))
def Zp(lo st:Int)(n:Nat):(mz lo st n).length=n:=by unfold mz;simp
def Zq{K:aD}{H:Hp}{F:List Addr}(lo st:Int)(n:Nat):JD K H F (CO lo st n) (mz lo st n):=λH1 S=>by
 rw[Zp]
 refine⟨λj hj=>⟨hj,λx H2 y=>⟨y.1,.int (lo+st*(j:Int)),by unfold mz;simp[hj],λF' _=>?_⟩⟩,a9 _⟩
 exact Is.bZ.mpr y.2
def Zr{p pos:Pos}(ha:PD X a ga)(hb:PD X b gb)(hc:PD X c gc)(hm:X.mg "range"=none)(hg:Gl X "range":=by rfl)(hs:a8 [a,b,c] X.env=[(false,eval a X.env),(false,eval b X.env),(false,eval c X.env)]:=by rfl)(sL:a8 [b,c] X.env=[(false,eval b X.env),(false,eval c X.env)]:=by rfl) :
 wj X tg (.Call (.Name "range" p) [a,b,c] [] pos) (EB ga gb gc):=by
 refine⟨λzn s σ H F O I fo rl bR=>?_⟩
 refine DG (kl I hg hm JW (tf ?_ (by rw[hs,sL]) (by rw[sL];rfl)))
 rw[hs]
 show au _ _ (fJ ((false,eval a X.env)::cD pos [(false,eval b X.env),(false,eval c X.env)])) _ _ s
 refine gF (aq (ha.run zn s σ H F O I fo rl (R.left bR)) (λu s1 ⟨d,v,H1,e1,I1,r1,S1,i1⟩=>?_) λ_ _ x=>x.bind _)
 have aN:=R.next bR e1
 show au _ _ (fJ ((false,eval b X.env)::cD pos [(false,eval c X.env)])) _ _ s1
 refine gF (aq (hb.run zn s1 σ H1 F O I1 (fo.same S1) (rl.same S1) (R.left aN)) (λu2 s2 ⟨d2,v2,H2,e2,I2,r2,S2,i2⟩=>?_) λ_ _ x=>bP.later e1 S1 (x.bind _))
 have cA:=R.next aN e2
 show au _ _ (fJ ((false,eval c X.env)::cD pos [])) _ _ s2
 refine gF (aq (hc.run zn s2 σ H2 F O I2 ((fo.same S1).same S2) ((rl.same S1).same S2) (R.left cA)) (λu3 s3 ⟨d3,v3,H3,e3,I3,r3,S3,i3⟩=>jz ?_) λ_ _ x=>bP.later e1 S1 (bP.later e2 S2 (x.bind _)))
 have mL:=R.next cA e3
 cases d with
 | int i =>
   cases d2 with
   | int j =>
     cases d3 with
     | int k =>
       obtain⟨⟨⟨h1,h2⟩,⟨h3,h4⟩,h5,h6⟩,e4⟩:=R.cK (show R.guard ((-1073741824<=i/\i<1073741824)/\(-1073741824<=j/\j<1073741824)/\0<k/\k<1073741824) (.ok (mz i k (lD i j k))) ≠ .no from mL)
       rw[Is.bZ.mp i1] at r1
       rw[Is.bZ.mp i2] at r2
       rw[Is.bZ.mp i3] at r3
       obtain⟨t,rfl⟩:=(show ∃t,u=oR i t from r1)
       obtain⟨t',rfl⟩:=(show ∃t,u2=oR j t from r2)
       obtain⟨t'',rfl⟩:=(show ∃t,u3=oR k t from r3)
       refine call_range_3 (by lia) (je (Zo (tg:=tg) (R:=λJ H'=>J=CO i k (lD i j k)/\H'=H3) I3 h1 h2 h3 h4 h5 h6 ⟨rfl,rfl⟩) λmT s4 ⟨it,fp,tn,J,H',ei,I4,T,t0,fk,eJ,eH⟩=>?_) (.inl (a2p (by lia)))
       subst eJ eH
       exact⟨_,it,fp,tn,_,H',(R.step e1 _).trans ((R.step e2 _).trans ((R.step e3 _).trans e4)),ei,I4,(S1.trans S2).trans S3,T,t0,fk,Zq i k _⟩
     | _=>exact absurd rfl mL
   | _=>exact absurd rfl mL
 | _=>exact absurd rfl mL
end
section
variable {prog:a5}{w:aX}{A:Around}{E:Value->ah->Prop}{s:ah}
open HT in
def Zs{t sl:Addr}{items:Array Value}{vl vu:Value}{lo hi:Option Int}{Q:Value->ah->Prop}(ht:w9 s.heap t items)(hs:s.heap.IsSliceOf sl vl vu .none)(pl:rC vl lo)(pu:rC vu hi)
 (hw:HT.bD items.size 0 lo=0/\HT.bD items.size items.size hi=items.size) (h:Q (.ref t) s):au (aF prog w) A (uL (.ref t) (.ref sl)) Q E s:=by
 obtain⟨os,tD,xQ,xR⟩:=id hs
 have D6:s.TypeIs (.ref sl) "slice":=⟨os,tD,xQ⟩
 unfold uL
 try with_reducible refine iV ?_
 first | refine aS (bS ?_) | skip
 refine aS (a2x ht.typeIs (by decide) ?_)
 refine aS (a2y (name:=oX "__getitem__") ht.typeIs JA
  (QS JA ht.typeIs a2z ?_ (a3a _ _)))
 show au _ _ (QT (.ref t)>>=_) _ _ s
 refine aS (tupleItemsOf_ ht ?_)
 refine aS (JB D6 ?_)
 rw[if_pos (by decide)]
 refine aS (KW hs pl pu ?_)
 have Zt:(((HT.bD items.size 0 lo:Nat):Int)==0&&(1:Int)==1&&(HT.bD items.size items.size hi-HT.bD items.size 0 lo)==items.size)=true:=by
  rw[hw.1,hw.2];simp
 show au _ _ (if (((HT.bD items.size 0 lo:Nat):Int)==0&&(1:Int)==1&&(HT.bD items.size items.size hi-HT.bD items.size 0 lo)==items.size)=true then _ else _) _ _ s
 rw[if_pos Zt]
 unfold Builtin.Tuple.tupleIsExact
 refine aS (aS (JB ht.typeIs ?_))
 refine bS ?_
 rw[if_pos (by decide)]
 exact aS (Ka (bS ⟨_,rfl,bS h⟩))
end
section
variable {X:Cx}{e a b c:Expr}{g ga gb gc:G->R D}{lo hi:Option Expr}{gl gh:G->R (Option Int)}{pos p2:Pos}
def Zu(K:aD):V->Option Int->Option Int->Hp->VK->Prop:=λx lo hi H Q=>∃a xs,x = .ref a/\cX K H a xs/\(HT.bD xs.length 0 lo=0/\HT.bD xs.length xs.length hi=xs.length)/\Q (.ref a) H
def Zv:n6 X (Zu X.K):=by
 intro zn s σ H x v vl vu lo hi sl Q I rx hs pl pu h
 obtain⟨a,xs,rfl,hx,hw,q⟩:=h
 cases rx
 obtain⟨xL,r,ht,hz⟩:=I.tuple hx
 have hlen:xL.toArray.size=xs.length:=by rw[dD];exact r.length.symm
 refine⟨"tuple",_,PyProof.Rows.slot_tuple_getitem.lookup,ht.typeIs,?_⟩
 exact Zs ht hs pl pu (by rw[hlen];exact hw) ⟨.ref a,H,I,rfl,q⟩
structure pR (X:Cx) (e:Option Expr) (g:G->R (Option Int)):Prop where
 run:∀(zn:List (Addr×Obj)) (s:ah) (σ:St) (H:Hp) (F:List Addr) (O:G),Inv X zn σ H s->bC H F->Rel X.K H F O σ->g O ≠ .no ->
  au (aF X.prog X.w) X.A (evalPart e X.env) (λu s'=>∃o H',g O = .ok o/\Inv X zn σ H' s'/\rC u o/\aT H H') (bP X zn σ H (g O)) s
def fZ:pR X none bU:=⟨λzn s σ H F O I fo rl hg=>by
 rw[evalPart_none]
 exact bS ⟨none,H,rfl,I,.none,.refl _⟩⟩
def fq(h:PD X e g):pR X (some e) (bJ g):=⟨λzn s σ H F O I fo rl hg=>by
 rw[evalPart_some]
 refine aq (h.run zn s σ H F O I fo rl (R.left hg)) (λu s1 ⟨d,x,H1,e1,I1,r1,S1,i1⟩=>?_) λ_ _ x=>x.bind _
 have aN:=R.next hg e1
 cases d with
 | int i =>
   rw[Is.bZ.mp i1] at r1
   obtain⟨t,rfl⟩:=(show ∃t,u=oR i t from r1)
   exact⟨some i,H1,R.step e1 _,I1,.int i t,S1⟩
 | _=>exact absurd rfl aN⟩
def ao.cut{K:aD}{H:Hp}{ds:List D}{xs:List V}(h:ao K H ds xs)(lo hi:Option Int):ao K H (eD ds lo hi) (mw xs lo hi):=by
 have hl:=h.length
 unfold eD mw
 rw[hl]
 exact(h.drop _).take _
def Hx{r:V->Option Int->Option Int->Hp->VK->Prop}(hr:n6 X.b5 r)(ha:PD X a ga)(hl:pR X lo gl)(hh:pR X hi gh){zn:List (Addr×Obj)}{s:ah}{σ:St}{H:Hp}{F:List Addr}{O:G}(I:Inv X zn σ H s)(fo:bC H F)(rl:Rel X.K H F O σ)
 {α:Type} {rr:R α} {k:D->Option Int->Option Int->R α} (Zw:rr=(ga O>>=λd=>gl O>>=λl=>gh O>>=λh=>k d l h)) (hg:rr ≠ .no) {Q:Value->ah->Prop}
 (hq:∀d x l h H3,k d l h ≠ .no->rr=k d l h->aT H H3->Is X.K H3 d x->bC H3 F->Rel X.K H3 F O σ->r x l h H3 λz H'=>∀u s',Inv X zn σ H' s'->RelV z u->Q u s') :
 au (aF X.prog X.w) X.A (eval (.Subscript a (.Slice lo hi none p2) pos) X.env) Q (bP X zn σ H rr) s:=by
 subst Zw
 refine DE (aq (ha.run zn s σ H F O I fo rl (R.left hg)) (λv s1 ⟨d,x,H1,e1,I1,r1,S1,i1⟩=>?_) λ_ _ x=>x.bind _)
 have aN:=R.next hg e1
 refine wpAny_Slice (aq (hl.run zn s1 σ H1 F O I1 (fo.same S1) (rl.same S1) (R.left aN)) (λvl s2 ⟨l,H2,e2,I2,pl,S2⟩=>?_) λ_ _ x=>bP.later e1 S1 (x.bind _))
 have cA:=R.next aN e2
 refine aq (hh.run zn s2 σ H2 F O I2 ((fo.same S1).same S2) ((rl.same S1).same S2) (R.left cA)) (λvu s3 ⟨h,H3,e3,I3,pu,S3⟩=>?_) λ_ _ x=>bP.later e1 S1 (bP.later e2 S2 (x.bind _))
 have mL:=R.next cA e3
 have Hy:=(S1.trans S2).trans S3
 rw[evalPart_none]
 refine bS ?_
 have I4:Inv X zn σ H3 { s3 with heap:=s3.heap.push { cls:=.type "slice",data:=.fields #[vl,vu,.none] } }:=I3.kept (t':=s3.toks) λb ob q=>eX _ q
 obtain⟨T,id,hT,ht,Zx⟩:=hr zn { s3 with heap:=s3.heap.push { cls:=.type "slice",data:=.fields #[vl,vu,.none] } } σ H3 x v vl vu l h s3.heap.objs.size _ (I4.dv _) r1 (Heap.IsSliceOf.new ..) pl pu (hq d x l h H3 mL ((R.step e1 _).trans ((R.step e2 _).trans (R.step e3 _))) Hy ((i1.same S2).same S3) (fo.same Hy) (rl.same Hy))
 show au (aF X.prog X.w) X.A (subscriptTail a (.Slice lo hi none p2) v (.ref s3.heap.objs.size)) _ _ { s3 with heap:=s3.heap.push { cls:=.type "slice",data:=.fields #[vl,vu,.none] } }
 refine tail_any (ops:=[.ref s3.heap.objs.size,v]) ht hT (aq Zx (λu s5 ⟨z,H5,I5,rz,q5⟩=>q5 u s5 I5.fK rz) λ_ _ z=>cC z) (by with_unfolding_all rfl)
def jM(ha:PD X a ga)(hl:pR X lo gl)(hh:pR X hi gh):PD X (.Subscript a (.Slice lo hi none p2) pos) (eY ga gl gh):=⟨λzn s σ H F O I fo rl hg =>
 Hx (n6.or (n6.or Tt Zv) K0) ha hl hh I fo rl (k:=A1) rfl hg λd x l h H3 hk er S i wu zt=>by
  cases d with
  | tup ds =>
    obtain⟨p,xs,rfl,h1,h2⟩:=Is.fX.mp i
    by_cases hw:HT.bD xs.length 0 l=0/\HT.bD xs.length xs.length h=xs.length
    .refine .inl (.inr ⟨p,xs,rfl,h1,hw,λu s' I' rz=>⟨_,.ref p,H3,er,I',rz,S,Is.fX.mpr ⟨p,xs,rfl,h1,?_⟩⟩⟩)
     have:=h2.cut l h
     unfold mw at this
     rw[hw.1,hw.2,Du,Q9,Dv] at this
     exact this
    .refine .inl (.inl ⟨p,xs,rfl,h1,hw,λq hq u s' I' rz=>?_⟩)
     have S2:=gY hq (.tup (mw xs l h))
     exact⟨_,.ref q,_,er,I',rz,S.trans S2,Is.fX.mpr ⟨q,_,rfl,cX.of dg,(h2.cut l h).same S2⟩⟩
  | lst ds =>
    obtain⟨p,xs,rfl,h1,h2⟩:=Is.fD.mp i
    refine .inr ⟨p,xs,rfl,h1,λq hq u s' I' rz=>?_⟩
    have S2:=gY hq (.lst (mw xs l h))
    exact⟨_,.ref q,_,er,I',rz,S.trans S2,Is.fD.mpr ⟨q,_,rfl,cE.of dg,(h2.cut l h).same S2⟩⟩
  | _=>exact absurd rfl hk⟩
def uk(ha:PD X a ga)(hl:pR X lo gl)(hh:pR X hi gh):PF X (.Subscript a (.Slice lo hi none p2) pos) (jE ga gl gh):=⟨λzn s σ H F O I fo rl hg =>
 Hx K0 ha hl hh I fo rl (k:=A6) rfl hg λd x l h H3 hk er S i wu zt=>by
  cases d with
  | lst ds =>
    obtain⟨p,xs,rfl,h1,h2⟩:=Is.fD.mp i
    refine⟨p,xs,rfl,h1,λq hq u s' I' rz=>?_⟩
    have S2:=gY hq (.lst (mw xs l h))
    obtain⟨hn,e5⟩:=R.cK (show R.guard (D.bQ (eD ds l h)=true) (R.ok (eD ds l h))≠R.no from hk)
    exact⟨eD ds l h,q,mw xs l h,_,er.trans e5,I',rz,S.trans S2,S.free hq,dg,ao.aM ((wu.same S2).cons dg) _ _ hn ((h2.cut l h).same S2)⟩
  | _=>exact absurd rfl hk⟩
end
end L3
namespace L3
open PySem PySem.Spec PyProof.Rows L2
section
variable {prog:a5}{w:aX}{A:Around}{E:Value->ah->Prop}{s:ah}
end
section
variable {X:Cx}{e:Expr}{g:G->R D}{pos pt:Pos}
end
def Hz:List Value:=[.type "ValueError",.type "Exception",.type "BaseException",.type "object"]
def Zy(h:Heap)(C:Addr):Prop:=∃bm N nm q bs hdct sn sub ab col dd k0 k1 k2 k3 k5 mN,h.get? C=some (RQ nm q C N bs bm hdct sn sub ab col dd k0 k1 k2 k3 k5 "ValueError.__new__")/\h.Ns N mN/\mN "__init__"=none/\OwnTail h Hz bm
def Oy{K:aD}{h:Heap}{C:Addr}(X:K.In h)(q:RS K C Hz "ValueError.__new__"=true):Zy h C:=by
 unfold RS at q
 cases e:K.lookup C with
 | none=>rw[e] at q;cases q
 | some o =>
   rw[e] at q
   obtain⟨cls,dd,data,sl⟩:=o
   split at q
   .rename_i heq
    obtain⟨rfl,rfl,rfl,rfl⟩:cls=_/\dd=_/\data=_/\sl=_:=by
     have z:=l9 heq
     injection z with z1 z2 z3 z4
     exact⟨z1,z2,z3,z4⟩
    split at q
    .rename_i hm hs
     rename_i cd xa xb C' bm k0 k1 k2 k3 n k5
     simp only[jP,beq_iff_eq,Bool.not_eq_true'] at q
     obtain⟨⟨⟨⟨⟨q1,q2⟩,q3⟩,q4⟩,q5⟩,q6⟩:=q
     obtain⟨nm,bs,mro,ns,qn,hd,sn,sub,ab,col,del⟩:=cd
     subst q1 q2
     have h1:mro = .ref C'::bm:=hm
     have h2:del=false:=q3
     subst h1 h2
     have h3:sl=#[k0,k1,k2,k3,some (.builtin "ValueError.__new__"),k5]:=by
      cases sl with | mk l=>exact congrArg Array.mk hs
     subst h3
     exact⟨bm,ns,nm,qn,bs,hd,sn,sub,ab,col,dd,k0,k1,k2,k3,k5,_,X _ _ e,.of_isNs (PySem.W.isNs_of_in X q5),PySem.W.nsMap_none_of_in X q5 q6,PySem.W.tail_of_in X q4⟩
    .cases q
   .cases q
structure sV (K:aD) (mg:Str->Option Value) (c:Er) (C:Addr):Prop where
 ns:iL K dm c.nm=some (some (.ref C))
 mg:mg c.nm=some (.ref C)
 ex:RS K C Hz "ValueError.__new__"=true
section
variable {X:Cx}{e:Expr}{g:G->R D}{pos np b6:Pos}
def Oz{zn:List (Addr×Obj)}{σ:St}{H:Hp}{s:ah}{q:Addr}(I:Inv X zn σ H s)(hq:s.heap.get? q=none):H q=none:=by
 cases e:H q with
 | none=>rfl
 | some o=>obtain⟨ob,h⟩:=Oi (I.aU q o e);rw[hq] at h;cases h
def iT{c:Er}{C:Addr}{x:Str}{d:D}(hX:sV X.K X.mg c C)(he:PD X e (gC d))(hc:X.calm=true)(hex:X.ex=[]:=by rfl)(HA:x=c.nm:=by rfl)(hg:Gl X x:=by rfl)(ib:(x==("__debug__":Str))=false:=by decide)
 (hs:a8 [e] X.env=(false,eval e X.env)::a8 [] X.env:=by rfl):PQ X (.Raise (some (.Call (.Name x np) [e] [] b6)) none pos) (gj c):=by
 refine⟨λzn s σ H F O I fo rl _=>?_⟩
 subst HA
 obtain⟨bm,N,nm,q,bs,hdct,sn,sub,ab,col,dd,k0,k1,k2,k3,k5,mN,hC,hN,zA,T⟩:=Oy I.mod.o5 hX.ex
 refine wpAny_Raise_call_subT (C:=C) (nm:=nm) (q:=q) (N:=N) (bs:=bs) (bm:=bm) (hdct:=hdct) (sn:=sn) (sub:=sub) (ab:=ab) (col:=col) (dd:=dd) (k0:=k0) (k1:=k1) (k2:=k2) (k3:=k3) (k5:=k5)
  a4n (mN:=mN) (T.hasType PySem.F.excBase_ValueError.hasBase) (I.ok.hd hc) (by rw[hs];rfl) zA (mS I hg hX.mg ⟨rfl,?_⟩ ib)
 rw[hs]
 refine xB (gF (aq (he.run zn s σ H F O I fo rl (λz=>nomatch z)) (λu s1 ⟨d',v,H1,e1,I1,r1,S1,i1⟩=>jz ?_) λx s1 ⟨c',H',e',_⟩=>by cases e'))
 refine⟨rfl,by show 1<=bK;decide,I1.bk _ _ hC,hN.keeps I1.bk,T.keeps I1.bk,λh' en M=>?_⟩
 obtain⟨t,Zz,ht0,ht1⟩:=M.there
 have I2:Inv X zn σ H1 { s1 with heap:=h' }:=I1.kept (t':=s1.toks) λb o q=>M.keeps b o q
 obtain⟨g1,g2,g3,g4⟩:=I1.gone hex M.new
 exact⟨c,O,σ,H1,F,rfl,⟨I2,en,C,_,_,rfl,hX.mg,Oz I1 M.new,g1,g2,g3,g4,Zz,rfl,rfl,⟨⟨_,rfl⟩,λ_=>rfl⟩,.inl rfl⟩,fo.same S1,rl.same S1,.of_same S1⟩
end
section
variable {K:aD}{M:l0}{A:Around}{E:Value->ah->Prop}{s:ah}
def OA{e B C:Addr}{oe:Obj}{Q:Bool->ah->Prop}(X:K.In s.heap)(he:s.heap.get? e=some oe)(hc:oe.cls = .ref C)(h1:a4o K (.ref B)=some (.type "type"))(h2:(Kb K B).isSome=true)
 (h3:pY K B (.type "BaseException")=some true) (h4:pY K C (.ref B)=some true) (hq:Q true s):au M A (excMatches (.ref e) (.ref B)) Q E s:=by
 obtain⟨h,g,d,t,os⟩:=s
 have L1:=PySem.W.looks_typeIn (M:=M) X h1
 have L3:=Kc (M:=M) X h3
 have L4:=Kc (M:=M) X h4
 have f:=tc_notTuple
 obtain⟨c',d',cd,rS,hB⟩:∃c' d' cd rS,h.get? B=some ⟨c',d',.cls cd,rS⟩:=by
  unfold Kb at h2
  split at h2
  .rename_i ho;exact⟨_,_,_,_,X _ _ ho⟩
  .cases h2
 unfold excMatches
 repeat (first | (with_reducible refine tj he ?_;rw[hc]) | with_reducible refine tj hB ?_ | with_reducible refine L1.at ?_ | with_reducible refine L3.at ?_ | with_reducible refine L4.at ?_ | wp_step)
 exact hq
end
structure jv (K:aD) (C:Addr):Prop where
 ga:uE K (.ref C) "__getattribute__"=some (some (.builtin "BaseException.__getattribute__"))
 gn:uE K (.ref C) "__getattr__"=some none
 cl:uE K (.ref C) "__class__"=some (some (.builtin "object.__class__"))
 mo:pY K C (.type "object")=some true
 mb:pY K C (.type "BaseException")=some true
 ty:a4o K (.ref C)=some (.type "type")
 is:(Kb K C).isSome=true
section
variable {K:aD}{prog:a5}{w:aX}{A:Around}{E:Value->ah->Prop}{s:ah}{a C:Addr}{o:Obj}
def ZA{R:nU->ah->Prop}(X:K.In s.heap)(Y:jv K C)(hx:s.heap.get? a=some o)(hc:o.cls = .ref C)(h:R (.ok (.ret (.ref C))) s) :
 jN (aF prog w) A (.call (.builtin "getset_descriptor.__get__") ⟨[.builtin "object.__class__",.ref a,.ref C],[]⟩) R s:=by
 obtain⟨hh,g,d,t,os⟩:=s
 have sI:(⟨hh,g,d,t,os⟩:ah).TypeIs (.builtin "object.__class__") "getset_descriptor":=RT
 have L1:=Kc (M:=aF prog w) X Y.mo
 refine RU F.slot_gs_get.plain F.entry_gs_get (F.slot_gs_get.check _ _ _ _ _ _ _ _ sI (F.args_gs_get _ _ _) ?_)
 repeat (any_goals (first | assumption | (with_reducible refine tj hx ?_;rw[hc]) | with_reducible refine L1.at ?_ | wp_step))
 rw[show(".".intercalate ("object.__class__".cutAt '.').dropLast)="object" by trivial]
 refine L1.at ?_
 repeat (any_goals (first | assumption | wp_step))
 refine⟨a4p _ (by trivial),Au F.entry_object_class ?_⟩
 repeat (any_goals (first | assumption | (with_reducible refine tj hx ?_;rw[hc]) | wp_step))
def ZC{OB:Value}{Q:Unit->ah->Prop}(X:K.In s.heap)(Y:jv K C)(hx:s.heap.get? a=some o)(hc:o.cls = .ref C)(hq:Q () s):au (aF prog w) A (RV "BaseException.__getattribute__" ⟨[.ref a,OB],[]⟩) Q E s:=by
 obtain⟨hh,g,d,t,os⟩:=s
 have hk:builtinKind "BaseException.__getattribute__"=some .slot:=by trivial
 have HB:splitId "BaseException.__getattribute__"=some ("BaseException","__getattribute__"):=by trivial
 have L1:=Kc (M:=aF prog w) X Y.mb
 have ha:=F.args_bexc_ga (.ref a) OB
 simp only[RV,hk,HB]
 refine aS ?_
 unfold isInstance
 repeat (first | (with_reducible refine tj hx ?_;rw[hc]) | with_reducible refine L1.at ?_ | wp_step)
 exact hq
def ZD{tk:Tok}{Q:Fin->ah->Prop}(X:K.In s.heap)(Y:jv K C)(hx:s.heap.get? a=some o)(hc:o.cls = .ref C)(hq:Q (.done (.ret (.ref C))) s) :
 au (aF prog w) A (Builtin.«object.__getattribute__» ⟨[.ref a,.str "__class__" tk],[]⟩) Q E s:=by
 obtain⟨hh,g,d,t,os⟩:=s
 have sI:(⟨hh,g,d,t,os⟩:ah).TypeIs (.builtin "object.__class__") "getset_descriptor":=RT
 have f5:=RT
 have f6:=F.slot_gs_get.lookup
 have f7:=F.slot_gs_set.lookup
 have L1:=RW (M:=aF prog w) X Y.cl
 repeat (any_goals (first | assumption | (with_reducible refine tj hx ?_;rw[hc]) | with_reducible refine L1.at ?_ | wp_step))
 refine ZA X Y hx hc ?_
 repeat (any_goals (first | assumption | wp_step))
def ZE{tk:Tok}{R:nU->ah->Prop}(X:K.In s.heap)(Y:jv K C)(hx:s.heap.get? a=some o)(hc:o.cls = .ref C)(hq:R (.ok (.ret (.ref C))) s) :
 jN (aF prog w) A (.call (.builtin "BaseException.__getattribute__") ⟨[.ref a,.str "__class__" tk],[]⟩) R s :=
 RU PySem.F.attr_ValueError.ga.plain F.entry_bexc_ga (ZC X Y hx hc (ZD X Y hx hc hq))
def ZF{Q:Option Value->ah->Prop}(X:K.In s.heap)(Y:jv K C)(hx:s.heap.get? a=some o)(hc:o.cls = .ref C)(hq:Q (some (.ref C)) { s with toks:=s.toks+1 }) :
 au (aF prog w) A (getAttr? (.ref a) "__class__") Q E s:=by
 obtain⟨hh,g,d,t,os⟩:=s
 have f3:=PySem.F.attr_ValueError.ga.bind (.ref a)
 have L1:=RW (M:=aF prog w) X Y.ga
 have L2:=RW (M:=aF prog w) X Y.gn
 have Oe:(Value.builtin "BaseException.__getattribute__"==Value.builtin "object.__getattribute__")=false:=by trivial
 unfold getAttr? getAttrBy? getAttrBy
 repeat (any_goals (first | assumption | (with_reducible refine tj hx ?_;rw[hc]) | with_reducible refine L1.at ?_ | with_reducible refine L2.at ?_ | wp_step))
 refine ZE (s:=⟨hh,g,d,t+1,os⟩) X Y hx hc ?_
 repeat (any_goals (first | assumption | wp_step))
def OC(Y:jv K C){h:Heap}(X:K.In h):∃c' d' cd rS,h.get? C=some ⟨c',d',.cls cd,rS⟩:=by
 have h2:=Y.is
 unfold Kb at h2
 split at h2
 .rename_i ho;exact⟨_,_,_,_,X _ _ ho⟩
 .cases h2
def ZG(Y:jv K C):PySem.W.KitX K (.ref a) (.ref C) (λh=>∃o,h.get? a=some o/\o.cls = .ref C) where
 ty:=λM h _ p=>by
  obtain⟨o,h1,h2⟩:=p
  exact h2 ▸ (PySem.W.Looks.ld h1).andThen .now
 it:=λM h X _=>by
  obtain⟨c',d',cd,rS,ho⟩:=OC Y X
  intro A' Q' E' s' k q
  unfold isType loadHead
  exact aS (wpAny_loadPart (k _ _ ho) (bS q))
 ne:=λh tp dd xL n sl X ZH=>by
  obtain⟨c',d',cd,rS,ho⟩:=OC Y X
  refine Bool.eq_false_iff.mpr λq=>?_
  have e:C=tp:=Value.ref.inj (beq_iff_eq.mp q)
  subst e
  have z:=ho.symm.trans ZH
  cases z
 ca:=λX p k=>by
  obtain⟨o,h1,h2⟩:=p
  exact ZF X Y h1 h2 k
end
def HC(X:Cx)(y:Str)(cv:Value):Prop:=∀{E:Value->ah->Prop} {zn:List (Addr×Obj)} {σ:St} {H:Hp} {s:ah} {Q:Value->ah->Prop} {py:Pos},Inv X zn σ H s->Q cv s->au (aF X.prog X.w) X.A (eval (.Name y py) X.env) Q E s
def wC{X:Cx}{y:Str}{D:Addr}(hm:X.mg y=some (.ref D))(hg:Gl X y:=by rfl)(hd:(y==("__debug__":Str))=false:=by decide):HC X y (.ref D):=λI q=>mS I hg hm q hd
def ZI{X:Cx}{y:Str}{v:Value}(hm:X.mg y=none)(hv:nR y=some v)(hg:Gl X y:=by rfl)(hn:y≠"__name__":=by decide)(hd:(y==("__debug__":Str))=false:=by decide):HC X y v:=λI q=>kl I hg hm hv q hn hd
def k_(K:aD)(cv:Value)(k:Cl):Prop:=∀c C,iL K dm c.nm=some (some (.ref C))->jv K C/\DL K (.ref C) cv=some (ya c k)
section
variable {X:Cx}{pos p pn:Pos}
def um(i:Nat){n y:Str}{py:Pos}{cv:Value}{k:Cl}(hb:HC X y cv)(hk:k_ X.K cv k)(hm:X.mg "isinstance"=none)(ha:PD X (.Name n pn) (gV i))(hg:Gl X "isinstance":=by rfl)
 (he:a8 [.Name n pn,.Name y py] X.env=(false,eval (.Name n pn) X.env)::(false,eval (.Name y py) X.env)::[]:=by rfl) (gI:(cD pos (a8 [.Name y py] X.env)).any (·.1)=false:=by rfl) (qU:a8 [.Name y py] X.env=[(false,eval (.Name y py) X.env)]:=by rfl) :
 PD X (.Call (.Name "isinstance" p) [.Name n pn,.Name y py] [] pos) (qt i [k]):=by
 refine⟨λzn s σ H F O I fo rl bR=>?_⟩
 refine mQ (kl I hg hm (by trivial:nR "isinstance"=some (.builtin "isinstance")) ?_ (by decide) (by decide))
 refine JU ?_ (by rw[he,qU]) gI
 rw[he]
 show au _ _ (fJ ((false,eval (.Name n pn) X.env)::cD pos [(false,eval (.Name y py) X.env)])) _ _ s
 refine gF (aq (ha.run zn s σ H F O I fo rl (R.left bR)) (λu s1 ⟨d,v,H1,e1,I1,r1,S1,i1⟩=>?_) λ_ _ x=>x.bind _)
 show au _ _ (fJ ((false,eval (.Name y py) X.env)::cD pos [])) _ _ s1
 refine gF (hb I1 (jz ?_))
 have aN:=R.next bR e1
 cases d with
 | exc c =>
   obtain⟨en,oe,C,rfl,h1,h2,h3⟩:=Is.NM.mp i1
   cases (show u=dS en from r1)
   have ho:s1.heap.get? en=some oe:=(I1.aU en _ h1).1
   obtain⟨Y,ZJ⟩:=hk c C h3
   refine uV (ZG Y) I1.gH ⟨oe,ho,h2⟩ ZJ (λz=>nomatch z) λtk=>?_
   refine di.bind e1 S1 ⟨.bl (ya c k),.bl (ya c k),H1,?_,I1.tok _,rfl,.refl _,Is.gN.mpr rfl⟩
   show R.ok (D.bl ([k].any (ya c)))=_
   rw[uR,JN,Dl]
 | _=>exact absurd rfl aN
structure PCl (X:Cx) (es:List Expr) (vs:List Value):Prop where
 run:∀{E:Value->ah->Prop} {pos:Pos} {zn:List (Addr×Obj)} {σ:St} {H:Hp} {s:ah} {Q:List Value->ah->Prop},Inv X zn σ H s->Q vs s->au (aF X.prog X.w) X.A (fJ (cD pos (a8 es X.env))) Q E s
def HD{e:Expr}{g:G->R D}(he:PD X e g)(hs:rM e none pos.line X.env=pure false:=by rfl):PQ X (.Expr e pos) (qx g):=⟨λzn s σ H F O I fo rl hg =>
 J3 (aq (he.run zn s σ H F O I fo rl (kN hg)) (λu s1 ⟨d,v,H',e1,I',rv,S,i⟩=>⟨O,kO e1,σ,H',F,I',fo.same S,rl.same S,.of_same S⟩) λ_ _ x=>x.lift fo rl _) I.quiet hs⟩
def mk(X:Cx)(v:Value):Cx:={ X with A:=X.A.mark (some v),calm:=false }
def ZK{v:Value}(o:X.Ok):(mk X v).Ok where
 mod:=o.mod
 kind:=o.kind
 glob:=o.glob
 blt:=o.blt
 above:=o.above
 inj:=o.inj
 has:=o.has
 rQ:=o.rQ
 hd:=λz=>by cases z
 frames:=o.frames
 tu:=o.tu
 xG:=o.xG
 bs:=o.bs
 mi:=o.mi
 rR:=o.rR
 tw:=o.tw
 kj:=o.kj
 mj:=o.mj
def CQ{v:Value}{zn:List (Addr×Obj)}{σ:St}{H:Hp}{s:ah}(I:Inv X zn σ H s):Inv (mk X v) zn σ H s:=⟨ZK I.ok,I.os,I.bare,I.base,I.loc,I.cell,I.free,I.kK,I.pin,I.aU,I.len⟩
def OD{v:Value}{zn:List (Addr×Obj)}{σ:St}{H:Hp}{s:ah}(o:X.Ok)(I:Inv (mk X v) zn σ H s):Inv X zn σ H s:=⟨o,I.os,I.bare,I.base,I.loc,I.cell,I.free,I.kK,I.pin,I.aU,I.len⟩
def ZL{M:l0}{A:Around}{E:Value->ah->Prop}{i:Nat}{n:Str}{uo:Pos}{zn:List (Addr×Obj)}{σ:St}{H:Hp}{s:ah}{Q:Unit->ah->Prop}(I:Inv X zn σ H s)(hN:X.N.Nodup)(hi:X.N[i]? = some n)(hk:X.env.kindOf n=some .local)
 (h:∀s',Inv X zn (σ.set i none) H s'->Q () s'):au M A (do bindName X.env n .none;unbindBehindTheSuite X.env n uo) Q E s:=by
 obtain⟨m,hn,hl⟩:=id I.loc
 have DX:(X.env.scope.kind == .class||(X.env.scope.kind == .module&&X.env.locals != X.env.globals))=false:=by rw[I.ok.kind];rfl
 have AF:i<σ.length:=by rw[I.len];exact(List.getElem?_eq_some_iff.mp hi).1
 have nY:=I.nY
 refine wpAny_nameGoes_keeps hk hn DX λh' v g_ hs=>h _ ?_
 have wD:∀{b:Addr} {o:Obj},X.s₀.heap.get? b=some o->b≠X.env.locals:=λe=>fQ (eS (cG e) I.ok.above)
 have OE:∀{c:Addr} {u:HO},H c=some u->c≠X.env.locals:=λe z=>by rw[z,I.free] at e;cases e
 refine⟨I.ok,I.os,I.bare,⟨λb o e q hb hx=>(hs.2 b (wD e)).trans (I.base.keep b o e q hb hx),λb o e q hb hx=>?_,I.base.free,λb o e hx=>?_,I.base.mf,I.base.lu,I.base.mh⟩,⟨_,g_,λj y v' e1 e2 e3=>?_⟩,λy c e=>?_,I.free,I.kK,λp hp=>?_,λb u e=>?_,by simpa using I.len⟩
 .obtain⟨sl,e1⟩:=I.base.slot b o e q hb hx
  exact⟨sl,(hs.2 b (wD e)).trans e1⟩
 .obtain⟨o',e1⟩:=I.base.there b o e hx
  exact⟨o',(hs.2 b (wD e)).trans e1⟩
 .by_cases hj:j=i
  .subst hj
   rw[g7 AF] at e2
   cases e2
  .rw[d_ (dC hj)] at e2
   obtain⟨u',r',q⟩:=hl j y v' e1 e2 e3
   refine⟨u',r',?_⟩
   rcases q with ⟨k,e⟩ | ⟨k,c,e,z⟩
   .refine .inl ⟨k,?_⟩
    have:y≠n:=λe=>hj (DV hN e1 (e ▸ hi))
    simp[this,e]
   .exact .inr ⟨k,c,e,z.sameBut hs (nY y c e)⟩
 .obtain⟨w',z⟩:=I.cell y c e
  exact⟨w',z.sameBut hs (nY y c e)⟩
 .obtain⟨e,q,ne,nf,d⟩:=I.pin p hp
  exact⟨(hs.2 p.1 ne).trans e,q,ne,nf,d⟩
 .refine(I.aU b u e).kJ (λc w' hc q=>(hs.2 c ?_).trans q) (λ_ q=>q) λ_ _ q=>q
  rcases hc with rfl | hc
  .exact OE e
  .exact OE hc
def Rel.unset{K:aD}{H:Hp}{F:List Addr}{O:G}{σ:St}(i:Nat)(r:Rel K H F O σ):Rel K H F (O.set i .no) (σ.set i none) where
 len:=by rw[ip,ip];exact r.len
 ro:=λj d h=>by
  by_cases hj:i=j
  .subst hj
   by_cases hl:i<O.length
   .rw[g7 hl] at h;cases h
   .rw[kG (by rw[ip];lia)] at h;cases h
  .rw[d_ hj] at h ⊢;exact r.ro j d h
 own:=λj ds h=>by
  by_cases hj:i=j
  .subst hj
   by_cases hl:i<O.length
   .rw[g7 hl] at h;cases h
   .rw[kG (by rw[ip];lia)] at h;cases h
  .rw[d_ hj] at h ⊢;exact r.own j ds h
 inj:=λj k ds es a h1 h2 h3 h4=>by
  have key:∀(j:Nat) ds,(O.set i .no)[j]? = some (.own ds)->i≠j:=λj ds h hj=>by
   subst hj
   by_cases hl:i<O.length
   .rw[g7 hl] at h;cases h
   .rw[kG (by rw[ip];lia)] at h;cases h
  have n1:=key j ds h1
  have n2:=key k es h2
  rw[d_ n1] at h1 h3
  rw[d_ n2] at h2 h4
  exact r.inj j k ds es a h1 h2 h3 h4
end
section
variable {X:Cx}{pos np uo:Pos}
def OF{zn:List (Addr×Obj)}{σ:St}{H:Hp}{s:ah}{e:Addr}{oe:Obj}(I:Inv X zn σ H s)(hn:H e=none)(he:s.heap.get? e=some oe)(h0:X.s₀.heap.get? e=none)(hL:e≠X.env.locals)(hc:∀y k,X.env.cells.lookup y=some k->k≠e)(hp:∀p∈X.pn++zn,p.1≠e) :
 Inv X zn σ (upd H e (.gG oe (.own 0))) s:=by
 have ne:∀{b:Addr} {o:HO},H b=some o->b≠e:=λq z=>by rw[z,hn] at q;cases q
 refine⟨I.ok,I.os,I.bare,⟨I.base.keep,I.base.slot,λb o q1 q2 q3=>?_,I.base.there,?_,?_,?_⟩,I.loc,I.cell,?_,λy k q=>?_,λp q=>?_,N4 I.aU hn ⟨he,_,he⟩,I.len⟩
 .rw[b_ λz=>by rw[z,h0] at q1;cases q1];exact I.base.free b o q1 q2 q3
 .intro b o q;have:=I.base.mf b o q;rw[b_ (ne this)];exact this
 .intro b o u q;have:=I.base.lu b o u q;rw[b_ (ne this)];exact this
 .intro b ps q;obtain⟨more,this⟩:=I.base.mh b ps q;exact⟨more,by rw[b_ (ne this)];exact this⟩
 .rw[b_ (dC hL)];exact I.free
 .rw[b_ (hc y k q)];exact I.kK y k q
 .obtain⟨z1,z2,z3⟩:=I.pin p q
  exact⟨z1,by rw[b_ (hp p q)];exact z2,z3⟩
structure ZM (X:Cx) (B:Addr):Prop where
 cl:jv X.K B
 ns:∀(c:Er) (C:Addr),X.mg c.nm=some (.ref C)->iL X.K dm c.nm=some (some (.ref C))/\pY X.K C (.ref B)=some true
def ZN(i:Nat){n x:Str}{B L:Addr}{OG:Stmt}{body OH:List Stmt}{t u:G->R Fl}(hE:ZM X B)(hB:X.mg x=some (.ref B))(hb:j8 X body t)(hu:∀v,j8 (mk X v) (OG::OH) u)(hN:X.N.Nodup)
 (hi:X.N[i]? = some n:=by rfl) (hk:X.env.kindOf n=some .local:=by rfl) (hx:Loc X.env.scope n:=by first | exact iu rfl | exact fu rfl) (hf:X.fn n=true∨X.env.scope.names.lookup n=some .local:=by first | exact .inl rfl | exact .inr rfl)
 (hex:X.ex=[]:=by rfl) (kd:X.stack=X.env::X.outer:=by rfl) (eO:X.env.frame=some L:=by rfl) (hg:Gl X x:=by rfl) (ib:(x==("__debug__":Str))=false:=by decide) :
 PQ X (.Try body [.ExceptHandler (some (.Name x np)) (some n) (OG::OH) uo] [] [] pos) (yf i t u):=by
 refine⟨λzn s σ H F O I fo rl bR=>?_⟩
 have HE:=R.left bR
 refine a4q (aq (hb.run zn s σ H F O I fo rl HE) (λf s1 q=>?_) λxe s1 q=>?_)
 .cases f with
  | next=>obtain⟨O',e,r⟩:=q;exact qc ⟨O',R.step e _,r⟩
  | brk=>obtain⟨O',e,r⟩:=q;exact⟨O',R.step e _,r⟩
  | cont=>obtain⟨O',e,r⟩:=q;exact⟨O',R.step e _,r⟩
  | ret v=>exact mJ.map q .refl (λ_ _ I=>I) (λ_ e=>R.step e _) λ_ e=>R.step e _
 .obtain⟨c,dh,i4,H1,F1,e1,HF,dI,d9,E1⟩:=q
  have aN:=R.next bR e1
  have ZO:=R.left aN
  refine wy hex kd eO HF λs2 uq=>?_
  refine sU (fr:=none) uq λs3 zB=>?_
  obtain⟨I3,e,C,oe,vs,rfl,k2,k3,k4,k5,k6,k7,k8,k9,ju⟩:=id zB
  obtain⟨o8,CS⟩:=hE.ns c C k2
  refine a4r (a4s (mS (X:=mk X (.ref e)) (CQ I3) hg hB ?_ ib)) (by intro z;cases z)
  refine OA I3.gH k8 k9 hE.cl.ty hE.cl.is hE.cl.mb CS ?_
  show jN _ _ _ _ s3
  refine codeAny_handlers_suite_as (sU (fr:=none) zB λs4 HG=>?_)
  obtain⟨I4,e',C',qY,zw,ee,m2,m3,m4,m5,m6,m7,m8,m9,OI⟩:=HG
  cases ee
  have eC:C=C':=by rw[k2] at m2;cases m2;rfl
  subst eC
  have hS:aT H1 (upd H1 e (.gG qY (.own 0))):=gY m3 _
  have HH:=OF I4 m3 m8 m4 m5 m6 m7
  have hF:e ∉ F1:=λz=>by obtain⟨ys,q⟩:=dI e z;rw[m3] at q;cases q
  refine u0 (X:=mk X (.ref e)) (CQ HH) hN hi hx (v:=.ref e) rfl (λs5 I5=>?_) hf
  have ZP:Is X.K (aM F1 (upd H1 e (.gG qY (.own 0)))) (.exc c) (.ref e):=Is.NM.mpr ⟨e,qY,C,rfl,by rw[dc hF];exact dg,m9,o8⟩
  refine aq ((hu (.ref e)).run zn s5 _ _ F1 (dh.set i (.ro (.exc c))) I5 (dI.same hS) ((d9.same hS).CG ZP) ZO) (λf s6 q6=>?_) λx6 s6 q6=>?_
  .cases f with
   | next =>
     obtain⟨CT,e6,G4,H6,F6,I6,ZQ,ZR,E6⟩:=q6
     refine ZL (OD I.ok I6) hN hi hk λs7 I7=>?_
     exact⟨CT.set i .no,(R.step e1 _).trans (R.step e6 _),_,H6,F6,I7,ZQ,ZR.unset i,(E1.trans (.of_same hS)).trans E6⟩
   | brk=>obtain⟨CT,e6,_⟩:=q6;exact absurd (by show(_>>=_)=_;rw[e6];rfl) aN
   | cont=>obtain⟨CT,e6,_⟩:=q6;exact absurd (by show(_>>=_)=_;rw[e6];rfl) aN
   | ret v =>
     obtain⟨_,_,_,_,_,_,_,⟨d6,e6,_⟩ | ⟨d6,_,_,e6,_⟩⟩:=q6
     .exact absurd (by show(_>>=_)=_;rw[e6];rfl) aN
     .exact absurd (by show(_>>=_)=_;rw[e6];rfl) aN
  .obtain⟨c6,CT,G4,H6,F6,e6,_⟩:=q6
   exact absurd (by show(_>>=_)=_;rw[e6];rfl) aN
end
section
variable {X:Cx}{pos p pn:Pos}
end
section
variable {X:Cx}{e a b c:Expr}{g ga gb gc:G->R D}{pos pos':Pos}{es:List Expr}{gs:G->R (List D)}
def ZS(h:mF X es gs):PD X (.List es pos) (x5 gs):=by
 refine⟨λzn s σ H F O I fo rl hg=>?_⟩
 refine RC (aq (h.run pos zn s σ H F O I fo rl (R.left hg)) (λus s1 ⟨ds,vs,H1,e1,I1,r1,S1,i1⟩=>?_) λ_ _ x=>x.bind _)
 have dZ:=R.next hg e1
 obtain⟨hl,e2⟩:=R.cK dZ
 have hz:vs.length<=bK:=by rw[<-i1.length];exact nB hl
 refine⟨by rw[<-r1.length];exact hz,?_⟩
 have hf:H1 s1.heap.objs.size=none:=I1.aU.fresh (a9 _)
 have S2:=gY hf (.lst vs)
 refine di.bind e1 S1 ⟨.lst ds,.ref s1.heap.objs.size,upd H1 s1.heap.objs.size (.lst vs),e2,I1.laid (t':=s1.toks) (λb u e=>eX _ e) (a9 _) ?_,rfl,S2,Is.fD.mpr ⟨_,vs,rfl,cE.of dg,i1.same S2⟩⟩
 exact⟨hz,us,0,r1,g0 _ rfl⟩
end
section
variable {P:a5}{w:aX}{K:aD}{mg:Str->Option Value}{base:Heap}
def ZT{x qual:Str}{st:Stmt}{f:Addr}{fd:cw}{N ps:List Str}{k:Nat}(Fu:mU K x qual st f fd)(S:jf N ps (iB st))(hb:kL K fd ps []):iJ P w K mg base (k+1) f fd ps (λ_=>.no):=by
 refine⟨?_,hb,Fu.kp⟩
 obtain⟨oc,od,kV,doc,pm,an,bA,ct,qi,rfl,lk,eA⟩:=Fu.ex
 exact xP lk eA S (λvs H Q E h=>absurd rfl h.choose_spec.2.1) λA outer s H vs Q E hr eB=>absurd rfl eB.choose_spec.2.1
def ZU{x qual:Str}{st:Stmt}{f:Addr}{fd:cw}{N ps:List Str}{k:Nat}(Fu:mU K x qual st f fd)(S:jf N ps (iB st))(hb:kL K fd ps []):pP P w K mg base (k+1) f fd ps (λ_=>.no):=by
 refine⟨?_,hb,Fu.kp⟩
 obtain⟨oc,od,kV,doc,pm,an,bA,ct,qi,rfl,lk,eA⟩:=Fu.ex
 exact xP lk eA S (λvs H Q E h=>absurd rfl h.choose_spec.2.1) λA outer s H vs Q E hr eB=>absurd rfl eB.choose_spec.2.1
end
section
variable {X:Cx}{e a b c:Expr}{g ga gb gc:G->R D}{pos pos' p p2:Pos}{es:List Expr}{gs:G->R (List D)}{lo hi:Option Expr}{gl gh:G->R (Option Int)}
def ZV(K:aD):R2:=λx y H Q=>∃l b xs zs,x = .ref l/\y = .ref b/\cE K H l xs/\cE K H b zs/\xs.length+zs.length<=bK/\∀p,H p=none->Q (.ref p) (upd H p (.lst (xs++zs)))
def OJ:fv X (iU .Add) (ZV X.K):=by
 intro zn s σ H x y v u Q I rx ry h
 obtain⟨l,b,xs,zs,rfl,rfl,hH,hB,hz,q⟩:=h
 cases rx
 cases ry
 obtain⟨i1,r1,ZW,_⟩:=I.list hH
 obtain⟨i2,r2,ZX,_⟩:=I.list hB
 have n1:=r1.length
 have n2:=r2.length
 obtain⟨⟨c1,d1,t1,s1⟩,o1,k1,m1,j1⟩:=ZW.isList
 obtain⟨⟨c2,d2,t2,s2⟩,o2,k2,m2,j2⟩:=ZX.isList
 simp only at k1 j1 k2 j2
 subst k1 j1 k2 j2
 refine Jy ⟨_,o1,rfl⟩ ⟨_,o2,rfl⟩ noFill_list_add seq_list_add PySem.F.slot_list_add PySem.F.entry_list_add (PySem.F.args_list_add_2 _ _) (list_addW l b i1.toArray i2.toArray m1 m2 d1 d2 s1 s2 (by simp only[dD];lia)) ⟨o1,o2,?_⟩
 have ea:i1.toArray++i2.toArray=(i1++i2).toArray:=by simp
 rw[ea]
 exact⟨.ref _,_,I.Ed (t':=s.toks) (r1.append r2) (by rw[aY];lia),rfl,q _ I.fresh⟩
def i7(ha:PD X a ga)(hb:PD X b gb):PF X (.BinOp a .Add b pos) (gf ga gb):=by
 refine⟨λzn s σ H F O I fo rl hg=>?_⟩
 refine DC (aq (ha.run zn s σ H F O I fo rl (R.left hg)) (λv s1 ⟨dx,x,H1,e1,I1,r1,S1,i1⟩=>?_) λ_ _ x=>x.bind _)
 have aN:=R.next hg e1
 refine aq (hb.run zn s1 σ H1 F O I1 (fo.same S1) (rl.same S1) (R.left aN)) (λu s2 ⟨dy,y,H2,e2,I2,r2,S2,i2⟩=>?_) λ_ _ x=>bP.later e1 S1 (x.bind _)
 have dZ:=R.next aN e2
 have lS:=i1.same S2
 have key:∀xs ys,dx = .lst xs->dy = .lst ys->∃zx zy,x = .ref zx/\y = .ref zy/\∃vx vy,cE X.K H2 zx vx/\cE X.K H2 zy vy/\ao X.K H2 xs vx/\ao X.K H2 ys vy:=λxs ys q1 q2=>by
  subst q1 q2
  obtain⟨zx,vx,rfl,a1,a2⟩:=Is.fD.mp lS
  obtain⟨zy,vy,rfl,b1,b2⟩:=Is.fD.mp i2
  exact⟨zx,zy,rfl,rfl,vx,vy,a1,b1,a2,b2⟩
 have both:∃xs ys,dx = .lst xs/\dy = .lst ys:=by
  cases dx with
  | lst xs =>
    cases dy with
    | lst ys=>exact⟨xs,ys,rfl,rfl⟩
    | _=>exact absurd rfl dZ
  | _=>cases dy<;>exact absurd rfl dZ
 obtain⟨xs,ys,rfl,rfl⟩:=both
 obtain⟨zx,zy,rfl,rfl,vx,vy,a1,b1,a2,b2⟩:=key xs ys rfl rfl
 obtain⟨⟨hc,hn⟩,e3⟩:=R.cK (show R.guard (xs.length+ys.length<=1000/\D.bQ (xs++ys)=true) (.ok (xs++ys)) ≠ .no from dZ)
 have hz:vx.length+vy.length<=bK:=by rw[<-a2.length,<-b2.length];exact nB hc
 refine aq (OJ (X:=X.b5) zn s2 σ H2 (.ref zx) (.ref zy) _ _ (λz H'=>∃l,z = .ref l/\H2 l=none/\H'=upd H2 l (.lst (vx++vy))) (I2.dv _) r1 r2 ⟨zx,zy,vx,vy,rfl,rfl,a1,b1,hz,λl hl=>⟨l,rfl,hl,rfl⟩⟩) (λu s' ⟨z,H',I',rz,l,ez,hl,eH⟩=>?_) λ_ _ z=>cC z
 subst ez eH
 have S3:=gY hl (.lst (vx++vy))
 exact⟨xs++ys,l,vx++vy,_,(R.step e1 _).trans ((R.step e2 _).trans e3),I'.fK,rz,(S1.trans S2).trans S3,S1.free (S2.free hl),dg,ao.aM ((((fo.same S1).same S2).same S3).cons dg) _ _ hn ((a2.append b2).same S3)⟩
end
section
variable {X:Cx}{e a b c:Expr}{g ga gb gc:G->R D}{lo:Option Expr}{gl:G->R (Option Int)}{pos p2 p3:Pos}
end
section
variable {X:Cx}
def ZY(hc:X.calm=true):jS X (.builtin "max") (λxs H Q=>∃(a:Addr) (ns:List Int),xs=[.ref a]/\ns≠[]/\cE X.K H a (ns.map V.int)/\Q (.int (lH ns)) H):=by
 intro zn s σ H xs us Q I r h
 obtain⟨a,ns,rfl,bO,hq,q⟩:=h
 obtain⟨u,rfl,ru⟩:=qg r
 cases ru
 obtain⟨xL,rv,pl,_⟩:=I.list hq
 have hi:xg xL ns:=Tr rv
 obtain⟨ys,hy⟩:=hi.allInts.items
 have hl:=pl.isList
 rw[hy] at hl
 have hn:numsOf xL.toArray.toList=ns:=by rw[show xL.toArray.toList=xL from rfl,hi.numsOf]
 rw[hy,nums_intItems] at hn
 have hlen:ys.size=ns.length:=by rw[<-hn,aZ,rq]
 have uo:0<ys.size:=by rw[hlen];exact List.length_pos_iff.mpr bO
 refine max_intList (I.ok.hd hc) hl uo λv h' tk hv hk=>?_
 obtain⟨t,rfl⟩:=intItems_at hv
 obtain⟨h1,h2⟩:=argBest_gt (Kd ys) (ys.size-1)
 have em:Kd ys (argBest (λi j=>decide (Kd ys i>Kd ys j)) (ys.size-1))=lH ns:=by
  refine Lq ?_ λb hb=>?_
  .rw[<-hn,numAt_eq];exact getD_mem (by rw[aZ,rq];lia)
  .rw[<-hn] at hb
   obtain⟨j,hj,rfl⟩:=mem_getD hb
   rw[aZ,rq] at hj
   rw[<-numAt_eq];exact h2 j (by lia)
 rw[em]
 exact⟨.int (lH ns),H,I.kept hk,⟨t,rfl⟩,q⟩
def ZZ(hc:X.calm=true):mG X (.builtin "max") vq:=by
 refine⟨_,jS.or (ZY (X:=X.b5) hc) (S_ (X:=X.b5) hc),λH xs ds i hg=>?_⟩
 unfold vq at hg
 split at hg
 .rename_i ys
  obtain⟨v,rfl,h⟩:=nD i
  obtain⟨a,zs,rfl,h1,h2⟩:=Is.fD.mp h
  cases q:pa ys with
  | none=>rw[q] at hg;exact absurd rfl hg
  | some ns =>
    cases ns with
    | nil=>rw[q] at hg;exact absurd rfl hg
    | cons n ns =>
      have:=Lh q
      subst this
      rw[h2.NN] at h1
      exact .inl ⟨a,n::ns,rfl,by simp,h1,_,by unfold vq;simp only[q],.refl _,Is.bZ.mpr rfl⟩
 .rename_i i' j'
  obtain⟨v,v',rfl,h,h'⟩:=NS i
  exact .inr ⟨i',j',by rw[Is.bZ.mp h,Is.bZ.mp h'],_,rfl,.refl _,Is.bZ.mpr rfl⟩
 .exact absurd rfl hg
end
section
variable {X:Cx}{e a b c:Expr}{g ga gb gc:G->R D}{lo:Option Expr}{st:Expr}{gl gt:G->R (Option Int)}{pos p2 p3:Pos}
end
section
variable {X:Cx}{a b:Expr}{pos:Pos}
def HI{ga:G->R (List D)}{gb:G->R D}(ha:PF X a ga)(hb:PD X b gb):PF X (.BinOp a .Mult b pos) (gRep ga gb):=by
 refine⟨λzn s σ H F O I fo rl hg=>?_⟩
 refine DC (aq (ha.run zn s σ H F O I fo rl (R.left hg)) (λv s1 ⟨dx,a1,xs,H1,e1,I1,r1,S1,n1,h1,i1⟩=>?_) λ_ _ x=>x.bind _)
 have aN:=R.next hg e1
 refine aq (hb.run zn s1 σ H1 F O I1 (fo.same S1) (rl.same S1) (R.left aN)) (λu s2 ⟨dy,y,H2,e2,I2,r2,S2,i2⟩=>?_) λ_ _ x=>bP.later e1 S1 (x.bind _)
 have dZ:=R.next aN e2
 cases dy with
 | int k =>
   obtain⟨⟨oy,mq,yn⟩,e3⟩:=R.cK (show R.guard (0<=k/\k<1000000/\dx.length*k.toNat<=1000) (.ok (b0 k.toNat dx).flatten) ≠ .no from dZ)
   subst r1
   have qS:=i1.length
   have hz:xs.length*k.toNat<=bK:=by rw[<-qS];exact nB yn
   refine aq (T9 (X:=X.b5) zn s2 σ H2 (.ref a1) y _ _ (λz H'=>∃l,z = .ref l/\H2 l=none/\H'=upd H2 l (.lst (b0 k.toNat xs).flatten)) (I2.dv _) rfl r2 ⟨a1,k,xs,rfl,Is.bZ.mp i2,S2 _ _ h1,by lia,by lia,hz,λl hl=>⟨l,rfl,hl,rfl⟩⟩) (λu s' ⟨z,H',I',rz,l,ez,hl,eH⟩=>?_) λ_ _ z=>cC z
   subst ez eH
   have S3:=gY hl (.lst (b0 k.toNat xs).flatten)
   have up:ao X.K (aM (l::F) (upd H2 l (.lst (b0 k.toNat xs).flatten))) dx xs:=by
    refine i1.same λb o hb=>?_
    obtain⟨z1,z2⟩:=jr hb
    have z3:=S2 _ _ z2
    have fH:b≠l:=jA z3 hl
    rw[dc λz=>(List.mem_cons.mp z).elim fH λz'=>z1 (eU _ z'),b_ fH]
    exact z3
   exact⟨_,l,_,_,(R.step e1 _).trans ((R.step e2 _).trans e3),I'.fK,rz,(S1.trans S2).trans S3,S1.free (S2.free hl),dg,up.rep _⟩
 | _=>exact absurd rfl dZ
end
section
variable {X:Cx}{e a b c:Expr}{g ga gb gc:G->R D}{pos pos' p p2:Pos}{es:List Expr}{gs:G->R (List D)}
end
section
variable {X:Cx}{e a b c:Expr}{g ga gb gc:G->R D}{pos pos' p p2:Pos}{es:List Expr}{gs:G->R (List D)}
structure wF (X:Cx) (es:List Expr) (g:G->R (List D)):Prop where
 run:∀(pos:Pos) (zn:List (Addr×Obj)) (s:ah) (σ:St) (H:Hp) (F:List Addr) (O:G),Inv X zn σ H s->bC H F->Rel X.K H F O σ->g O ≠ .no ->
  au (aF X.prog X.w) X.A (fJ (cD pos (a8 es X.env))) (λus s'=>∃ds vs H',g O = .ok ds/\Inv X zn σ H' s'/\Vals vs us/\aT H H'/\ao X.K (aM F H') ds vs) (bP X zn σ H (g O)) s
def eQ:wF X [] ak:=⟨λpos zn s σ H F O I fo rl hg=>jz ⟨[],[],H,rfl,I,.nil,.refl _,ao.nil⟩⟩
def bE(ha:iP X e g)(hr:wF X es gs)(hs:a8 (e::es) X.env=(false,eval e X.env)::a8 es X.env:=by rfl):wF X (e::es) (ae g gs):=by
 refine⟨λpos zn s σ H F O I fo rl hg=>?_⟩
 rw[hs]
 show au _ _ (fJ ((false,eval e X.env)::cD pos (a8 es X.env))) _ _ s
 refine gF (aq (ha.run zn s σ H F O I fo rl (R.left hg)) (λu s1 ⟨d,x,H1,e1,I1,r1,S1,i1⟩=>?_) λ_ _ x=>x.bind _)
 have aN:=R.next hg e1
 refine aq (hr.run pos zn s1 σ H1 F O I1 (fo.same S1) (rl.same S1) (R.left aN)) (λus s2 ⟨ds,vs,H2,e2,I2,r2,S2,i2⟩=>?_) λ_ _ x=>bP.later e1 S1 (x.bind _)
 exact⟨d::ds,x::vs,H2,(R.step e1 _).trans (R.step e2 _),I2,.cons r1 r2,S1.trans S2,ao.cons (i1.same (kA S2)) i2⟩
def Z0{H:Hp}{F:List Addr}{q:Addr}(fo:bC H F)(h:H q=none):q ∉ F:=λz=>by
 obtain⟨ys,e⟩:=fo q z
 rw[h] at e;cases e
def OK{x1}(h:wF X es gs):iP X (.Tuple es x1 pos) (jD gs):=by
 refine⟨λzn s σ H F O I fo rl hg=>?_⟩
 refine a4b (aq (h.run pos zn s σ H F O I fo rl (R.left hg)) (λus s1 ⟨ds,vs,H1,e1,I1,r1,S1,i1⟩=>?_) λ_ _ x=>x.bind _)
 have dZ:=R.next hg e1
 obtain⟨hl,e2⟩:=R.cK dZ
 have hz:vs.length<=bK:=by rw[<-i1.length];exact nB hl
 refine⟨by rw[<-r1.length];exact hz,?_⟩
 have hf:H1 s1.heap.objs.size=none:=I1.aU.fresh (a9 _)
 have S2:=gY hf (.tup vs)
 have hF:=Z0 (fo.same S1) hf
 refine⟨.tup ds,.ref s1.heap.objs.size,upd H1 s1.heap.objs.size (.tup vs),(R.step e1 _).trans e2,I1.laid (t':=s1.toks) (λb u e=>eX _ e) (a9 _) ?_,rfl,S1.trans S2,Is.fX.mpr ⟨_,vs,rfl,cX.of (by rw[dc hF];exact dg),i1.same (kA S2)⟩⟩
 exact⟨hz,us,r1,⟨_,g0 _ rfl,rfl,_,rfl⟩⟩
def jx(h:wF X es gs):PF X (.List es pos) (z5n gs):=by
 refine⟨λzn s σ H F O I fo rl hg=>?_⟩
 refine RC (aq (h.run pos zn s σ H F O I fo rl (R.left hg)) (λus s1 ⟨ds,vs,H1,e1,I1,r1,S1,i1⟩=>?_) λ_ _ x=>x.bind _)
 have dZ:=R.next hg e1
 obtain⟨hl,e2⟩:=R.cK dZ
 have hz:vs.length<=bK:=by rw[<-i1.length];exact nB hl
 refine⟨by rw[<-r1.length];exact hz,?_⟩
 have hf:H1 s1.heap.objs.size=none:=I1.aU.fresh (a9 _)
 have S2:=gY hf (.lst vs)
 have hH:H s1.heap.objs.size=none:=S1.free hf
 refine⟨ds,s1.heap.objs.size,vs,upd H1 s1.heap.objs.size (.lst vs),(R.step e1 _).trans e2,I1.laid (t':=s1.toks) (λb u e=>eX _ e) (a9 _) ?_,rfl,S1.trans S2,hH,dg,i1.same (Co S2 hf)⟩
 exact⟨hz,us,0,r1,g0 _ rfl⟩
def OL(ha:iP X a ga)(hb:PD X b gb)(hs:AN b:=by intro _ _;rfl):iP X (.Subscript a b pos) (af aI ga gb):=by
 refine⟨λzn s σ H F O I fo rl hg=>?_⟩
 refine DE (aq (ha.run zn s σ H F O I fo rl (R.left hg)) (λv s1 ⟨dx,x,H1,e1,I1,r1,S1,i1⟩=>?_) λ_ _ x=>x.bind _)
 have aN:=R.next hg e1
 refine aq (hb.run zn s1 σ H1 F O I1 (fo.same S1) (rl.same S1) (R.left aN)) (λu s2 ⟨dy,y,H2,e2,I2,r2,S2,i2⟩=>?_) λ_ _ x=>bP.later e1 S1 (x.bind _)
 have cA:=R.next aN e2
 have lS:=i1.same (kA S2)
 have fin:∀(d:D) (z:V),aI dx dy = .ok d->Is X.K (aM F H2) d z->∀(w':Value) (s':ah),EP X.b5 zn σ (λz' H'=>z'=z/\H'=H2) w' s'->∃d v H',af aI ga gb O = .ok d/\Inv X zn σ H' s'/\RelV v w'/\aT H H'/\Is X.K (aM F H') d v:=λd z ed iz w' s' ⟨z',H',I',rz,ez,eH⟩=>by
  subst ez eH
  exact⟨d,z',H',(R.step e1 _).trans ((R.step e2 _).trans ed),I'.fK,rz,S1.trans S2,iz⟩
 cases dx with
 | tup ds =>
   cases dy with
   | int i =>
     obtain⟨p,xs,rfl,h1,h2⟩:=Is.fX.mp lS
     have gX:=t6 (iO (F:=F)) h1
     cases q:cV ds i with
     | none=>exact absurd (show aI (.tup ds) (.int i) = .no by simp only[aI,q]) cA
     | some d =>
       obtain⟨z,ez,iz⟩:=h2.cV q
       exact aq (Ea (X:=X.b5) a b zn s2 σ H2 _ y v u _ (I2.dv _) r1 r2 ⟨p,xs,i,z,rfl,Is.bZ.mp i2,gX,ez,rfl,rfl⟩ (hs _ _)) (λw' s' h=>fin d z (by show aI (.tup ds) (.int i) = .ok d;simp only[aI,q]) iz w' s' h) λ_ _ z=>cC z
   | _=>exact absurd rfl cA
 | lst ds =>
   cases dy with
   | int i =>
     obtain⟨p,xs,rfl,h1,h2⟩:=Is.fD.mp lS
     have gX:=aT.seq (iO (F:=F)) h1
     cases q:cV ds i with
     | none=>exact absurd (show aI (.lst ds) (.int i) = .no by simp only[aI,q]) cA
     | some d =>
       obtain⟨z,ez,iz⟩:=h2.cV q
       exact aq (D9 (X:=X.b5) a b zn s2 σ H2 _ y v u _ (I2.dv _) r1 r2 ⟨p,xs,i,z,rfl,Is.bZ.mp i2,gX,ez,rfl,rfl⟩ (hs _ _)) (λw' s' h=>fin d z (by show aI (.lst ds) (.int i) = .ok d;simp only[aI,q]) iz w' s' h) λ_ _ z=>cC z
   | _=>exact absurd rfl cA
 | _=>exact absurd rfl cA
end
structure a6l (N:List Str) (env:Env) (x0 y:Str) (scope:dU):Prop where
 kind:scope.kind = .function
 zg:∀p∈scope.names,p.2 ≠ .cell
 names:∀p∈scope.names,p.2 = .local->scope.names.lookup p.1=some .local
 free:∀p∈scope.names,p.2 = .free->(∃c,env.cells.lookup p.1=some c)/\(env.scope.names.lookup p.1=some .cell∨env.scope.names.lookup p.1=some .free)
 loc:scope.names.lookup x0=some .local/\scope.names.lookup y=some .local/\x0≠y/\(x0 ∉ N∨y ∉ N)
 nil:scope.names.lookup (("":Str))=none
 only:∀z∈N,scope.names.lookup z=some .local->z=x0∨z=y
 none:(∀z∈N,z≠("":Str))∨(x0 ∉ N/\y ∉ N)
def HJ(X:Cx)(x0 y:Str)(scope:dU)(C:Addr)(ax:ah)(aL:Hp)(fp:List Addr)(pn:List (Addr×Obj)):Cx :=
 { X with N:=x0::y::X.N.map (λz=>if z=x0∨z=y then ("":Str) else z),s₀:=ax,H₀:=aL,env:=iA scope (cQ X.env scope.names []) C X.env,outer:=X.stack,ex:=fp,fn:=λ_=>false,pn:=pn,xe:=λ_ _=>False }
section
variable {X:Cx}{x0 y:Str}{scope:dU}
structure PC2 (X:Cx) (x0 y:Str) (scope:dU) (ifs:List Expr) (elt:Expr) (f:D->D->G->R (Option D)):Prop where
 run:∀(C:Addr) (ax:ah) (aL:Hp) (fp:List Addr) (pn:List (Addr×Obj)) (zn:List (Addr×Obj)) (s:ah) (σ:St) (H:Hp) (F:List Addr) (O:G) (d d2:D),Inv (HJ X x0 y scope C ax aL fp pn) zn σ H s->bC H F->Rel X.K H F (.ro d :: .ro d2::O) σ->(∃o,f d d2 O = .ok o) ->
  au (aF X.prog X.w) X.A (forIn ifs true λc r=>if r=true then do let ok <-oS c (iA scope (cQ X.env scope.names []) C X.env) (eval c (iA scope (cQ X.env scope.names []) C X.env));pure (o3 ok) else pure (o3 r)) (λok cT =>
   if ok=true then au (aF X.prog X.w) X.A (eval elt (iA scope (cQ X.env scope.names []) C X.env)) (λu dQ=>∃e v H',f d d2 O = .ok (some e)/\Inv (HJ X x0 y scope C ax aL fp pn) zn σ H' dQ/\RelV v u/\aT H H'/\Is X.K (aM F H') e v) (λ_ _=>False) cT
   else f d d2 O = .ok none/\∃H',Inv (HJ X x0 y scope C ax aL fp pn) zn σ H' cT/\aT H H') (λ_ _=>False) s
end
section
variable {prog:a5}{w:aX}{A:Around}{E:Value->ah->Prop}{s:ah}
end
section
variable {prog:a5}{w:aX}{A:Around}{E:Value->ah->Prop}{s:ah}{b1 b2:Bool}
end
section
variable {prog:a5}{w:aX}{A:Around}{E:Value->ah->Prop}{s:ah}{b1 b2:Bool}
end
section
variable {X:Cx}{zn:List (Addr×Obj)}{σ:St}{H:Hp}{s:ah}{h':Heap}
def Sq(b:Bool)(K:aD)(H:Hp)(l:Addr)(xs:List V):Prop:=if b=true then cE K H l xs else cX K H l xs
end
section
variable {X:Cx}{a b:Expr}{ga gb:G->R D}
end
section
variable {X:Cx}{e a b c:Expr}{g ga gb gc:G->R D}{pos:Pos}
end
section
variable {X:Cx}{a b:Expr}{ga gb:G->R D}
end
section
variable {X:Cx}{e a b c:Expr}{g ga gb gc:G->R D}{pos pos' p:Pos}
def HK(ha:PD X a ga)(he:∀whole,oS a X.env whole=(do let v <-whole;RB a.pos;Ak [v] (truthy v)):=by intro _;rfl):kB X a (z9o ga):=by
 refine⟨λzn s σ H F O I fo rl hg=>?_⟩
 refine isTrue_plain (aq (ha.run zn s σ H F O I fo rl (R.left hg)) (λv s1 ⟨d,x,H1,e1,I1,r1,S1,i1⟩=>?_) λ_ _ x=>x.bind _) (he _)
 have aN:=R.next hg e1
 cases d with
 | lst ds =>
   obtain⟨l,xs,rfl,q1,j1⟩:=Is.fD.mp i1
   cases (show v=dS l from r1)
   obtain⟨xL,rv,pl,hz⟩:=I1.list q1
   have n1:=rv.length
   have n2:=j1.length
   refine wpAny_truthy_list pl.isList (by rw[oW] at hz;simp;lia) ⟨H1,(R.step e1 _).trans ?_,I1.tok _,S1⟩
   have:xL.toArray.isEmpty=ds.isEmpty:=by
    cases ds with
    | nil=>cases xL with
      | nil=>rfl
      | cons z zs=>simp at n1 n2;lia
    | cons d ds=>cases xL with
      | nil=>rw[<-n2] at n1;simp at n1
      | cons z zs=>rfl
   rw[this]
 | _=>exact absurd rfl aN
end
section
variable {X:Cx}{e a b c:Expr}{g ga gb gc:G->R D}{pos pos' p:Pos}{gs:G->R (List D)}
end
def Z1(y:Str)(names:List (Str×pZ)):Bool:=decide (names.filter (λp=>p.2 == .cell)=[(y,.cell)])
structure a6m (N:List Str) (env:Env) (y:Str) (scope:dU):Prop where
 kind:scope.kind = .function
 zg:∀p∈scope.names,p.2 ≠ .cell∨p.1=y
 names:∀p∈scope.names,p.2 = .local->scope.names.lookup p.1=some .local
 free:∀p∈scope.names,p.2 = .free->(∃c,env.cells.lookup p.1=some c)/\(env.scope.names.lookup p.1=some .cell∨env.scope.names.lookup p.1=some .free)
 loc:Z1 y scope.names=true/\scope.names.lookup y=some .cell
 nil:scope.names.lookup (("":Str))=none
 only:∀z∈N,scope.names.lookup z≠some .local
 none:∀z∈N,z≠("":Str)
def HL(X:Cx)(y:Str)(scope:dU)(C cc:Addr)(ax:ah)(aL:Hp)(fp:List Addr)(pn:List (Addr×Obj)):Cx :=
 { X with N:=y::X.N.map (λz=>if z=y then ("":Str) else z),s₀:=ax,H₀:=aL,env:=iA scope ((y,cc)::cQ X.env scope.names []) C X.env,outer:=X.stack,ex:=fp,fn:=λz=>z==y,pn:=pn,xe:=λ_ _=>False }
section
variable {X:Cx}{y:Str}{scope:dU}
structure a6n (X:Cx) (y:Str) (scope:dU) (ifs:List Expr) (elt:Expr) (f:D->G->R (Option D)):Prop where
 run:∀(C cc:Addr) (ax:ah) (aL:Hp) (fp:List Addr) (pn:List (Addr×Obj)) (zn:List (Addr×Obj)) (s:ah) (σ:St) (H:Hp) (F:List Addr) (O:G) (d:D),Inv (HL X y scope C cc ax aL fp pn) zn σ H s->bC H F->Rel X.K H F (.ro d::O) σ->(∃o,f d O = .ok o) ->
  au (aF X.prog X.w) X.A (forIn ifs true λc r=>if r=true then do let ok <-oS c (iA scope ((y,cc)::cQ X.env scope.names []) C X.env) (eval c (iA scope ((y,cc)::cQ X.env scope.names []) C X.env));pure (o3 ok) else pure (o3 r)) (λok cT =>
   if ok=true then au (aF X.prog X.w) X.A (eval elt (iA scope ((y,cc)::cQ X.env scope.names []) C X.env)) (λu dQ=>∃e v H',f d O = .ok (some e)/\Inv (HL X y scope C cc ax aL fp pn) zn σ H' dQ/\RelV v u/\aT H H'/\Is X.K (aM F H') e v) (λ_ _=>False) cT
   else f d O = .ok none/\∃H',Inv (HL X y scope C cc ax aL fp pn) zn σ H' cT/\aT H H') (λ_ _=>False) s
end
section
variable {X:Cx}{e:Expr}{pos p:Pos}{x:Str}{es:List Expr}{gs:G->R (List D)}
def OM{P:a5}{w:aX}{H:Hp}{h:Heap}{F:List Addr}(fo:bC H F)(k:eh P w H h):eh P w (aM F H) h:=λb u e=>by
 have out:∀{c:Addr} {o:HO},H c=some o->(∀xs,o ≠ .lst xs)->aM F H c=some o:=λ{c o} q n=>by
  rw[dc λz=>by obtain⟨xs,e⟩:=fo c z;rw[q] at e;cases e;exact n xs rfl];exact q
 exact(k b u (jr e).2).kJ (λc v _ q=>q) (λc q=>out q λxs z=>nomatch z) λc xs q=>out q λxs z=>nomatch z
end
def ON(M:l0)(A:Around)(E:Value->ah->Prop)(Q:Value->ah->Prop)(env:Env)(acc:Value)(C:Addr)(r:nU)(s':ah):Prop :=
 match r with
 | .ok _=>∃m,s'.heap.Ns C m/\∀h',rp C s'.heap h'->Q acc { s' with heap:=h' }
 | .error x=>∃m,s'.heap.Ns C m/\∀h',rp C s'.heap h'->∀ce:Env,ce.frame=env.frame->au M A (Ke "comprehension.variables-let-go" x ce:Sem Value) (λ_ _=>False) E { s' with heap:=h' }
section
variable {M:l0}{A:Around}{E:Value->ah->Prop}{env:Env}{s:ah}
def Z2{e:Expr}{scope:dU}{pos:Pos}{zC first:Sem Value}{g:Kf}{gs:List Kf}{cl:List (Str×Addr)}{Q:Value->ah->Prop}
 (pS:clausesOf e=g::gs) (hs:∀x,uS g.iter env x=pure x) (mH:xA scope env=pure cl) (tx:scope.kind = .function) (HM:∀x∈scope.names,x.2 = .local->scope.names.lookup x.1=some .local)
 (h:au M A first (λx bT=>au M A (rA x) (λit ax=>au M A zC (λacc cT=>au M A (xy scope env.globals cl [] env.qual none .none (some env)) (λcenv dQ=>cenv.frame=env.frame /\
   jN M A (.compStart e 0 it acc { cenv with scope:=jR scope env }) (ON M A E Q env acc cenv.locals) dQ) E cT) E ax) E bT) E s) :
 au M A (Ar e scope env pos zC false first none) Q E s:=by
 have pT:∀{x:Value} {s':ah},E x s'->E x s':=λq=>q
 unfold Ar
 rw[mH,pS]
 refine aS (aq h (λx bT gy=>?_) λ_ _=>pT)
 refine aS (uT (aS (RX (hs x) (aS (iV (aq gy (λit ax mI=>?_) λ_ _=>pT))))))
 refine wpAny_standIf (aS (aq mI (λacc cT zD=>?_) λ_ _=>pT))
 refine aS (bS (aS (aq zD (λcenv dQ ur=>?_) λ_ _=>pT)))
 obtain⟨eO,ur⟩:=ur
 dsimp only
 have zE:∀x∈(scope.names.filter λx=>(x.2 == .local||x.2 == .cell)&&x.1 != (".0":Str)).reverse,x.2 = .local->Env.kindOf { cenv with scope:=jR scope env } x.1=some .local :=
  λx hx q=>JY (HM x (List.mem_filter.mp (List.mem_reverse.mp hx)).1 q)
 refine iV (aS (wpAny_attempt (iV (wpAny_run (p8 ur λr s' hr=>?_)))))
 cases r with
 | ok f =>
   obtain⟨m,hn,hr⟩:=hr
   exact aS (iV (Kg (cenv:={ cenv with scope:=jR scope env }) tx _ s' m zE hn λh' m' _ nA=>bS (hr h' nA)))
 | error x =>
   obtain⟨m,hn,hr⟩:=hr
   exact aS (iV (Kg (cenv:={ cenv with scope:=jR scope env }) tx _ s' m zE hn λh' m' _ nA=>aq (hr h' nA _ eO) (λ_ _ f=>f.elim) λ_ _ y=>y))
end
section
variable {X:Cx}{y:Str}{scope:dU}
def OO{X:Cx}{zn rT:List (Addr×Obj)}{σ:St}{H:Hp}{s:ah}{Y:Cx}(J:Inv X zn σ H s)(h:∀p∈Y.pn++rT,p∈X.pn++zn)(e:Y={ X with pn:=Y.pn }:=by rfl):Inv Y rT σ H s:=by
 rw[e] at h ⊢
 exact⟨⟨J.ok.mod,J.ok.kind,J.ok.glob,J.ok.blt,J.ok.above,J.ok.inj,J.ok.has,J.ok.rQ,J.ok.hd,J.ok.frames,J.ok.tu,J.ok.xG,J.ok.bs,J.ok.mi,J.ok.rR,J.ok.tw,J.ok.kj,J.ok.mj⟩,J.os,J.bare,J.base,J.loc,J.cell,J.free,J.kK,λp hp=>J.pin p (h p hp),J.aU,J.len⟩
def Z3{C:Addr}{fp:List Addr}{zn pl pn:List (Addr×Obj)}{σ aO:St}{aL H':Hp}{ax s1:ah}{c:Er}{x:Value}(I:Inv X zn σ aL ax)(hex:X.ex=[])(hC:ax.heap.objs.size<=C)(hf:∀b∈fp,iY X zn aL b)
 (J:kW (cS X y scope C ax aL fp pn) pl aO H' c x s1):∃(oC:Obj) (m:Str->Option Value),(∀h:Heap,h.get? C=some oC->h.Ns C m)/\kW X (zn++[(C,oC)]) σ H' c x s1:=by
 obtain⟨J,e,Ce,oe,vs,h1,h2,h3,h4,h5,h6,h7,h8,h9,i6,j_,sT⟩:=J
 have os:s1.os=ax.os:=J.os
 have un:Un (du X.stack) fp aL H' ax.heap s1.heap:=J.base
 have aU:eh X.prog X.w H' s1.heap:=J.aU
 have bare:nS s1.gens:=J.bare
 obtain⟨m,⟨oC,es,ep,ho,hd,hk⟩,_⟩:=J.loc
 have Z4:H' C=none:=J.free
 have I':Inv X zn σ H' s1:=I.DZ os un aU bare λb hb=>by
  obtain⟨f0,f1,f2,f3,f4,f5⟩:=hf b hb
  exact⟨f3.imp_right λz=>Jr z,f1,f4,f5⟩
 have Z5:C≠X.env.locals:=oV (eS I.lt hC)
 have I2:Inv X (zn++[(C,oC)]) σ H' s1:=I'.uY λp hp=>by
  rcases List.mem_append.mp hp with q | q
  .exact I'.pin p (ft _ q)
  .have:p=(C,oC):=by simpa using q
   subst this
   exact⟨ho,Z4,Z5,I.DS hC,λv z=>by rw[hd] at z;cases z⟩
 have wD:∀q:Addr,ax.heap.get? q=none->q≠C->X.s₀.heap.get? q=none/\q≠X.env.locals/\(∀y k,X.env.cells.lookup y=some k->k≠q)/\(∀p∈X.pn++(zn++[(C,oC)]),p.1≠q):=λq hq Z6=>by
  obtain⟨g1,g2,g3,g4⟩:=I.gone hex hq
  refine⟨g1,g2,g3,λp hp=>?_⟩
  rcases List.mem_append.mp hp with z | z
  .exact g4 p (kD _ z)
  .rcases List.mem_append.mp z with z | z
   .exact g4 p (ft _ z)
   .have:p=(C,oC):=by simpa using z
    subst this
    exact dC Z6
 refine⟨oC,m,λh q=>⟨oC,es,ep,q,hd,hk⟩,I2,e,Ce,oe,vs,h1,h2,h3,?_⟩
 obtain⟨g1,g2,g3,g4⟩:=wD e h4 h5
 refine⟨g1,g2,g3,g4,h8,h9,i6,j_,?_⟩
 rcases sT with sT | ⟨T,oT,ts,k1,k2,k3,k4,k5,k6,k7,k8,k9,ju⟩
 .exact .inl sT
 .obtain⟨t1,t2,t3,t4⟩:=wD T k3 k4
  exact .inr ⟨T,oT,ts,k1,k2,t1,t2,t3,t4,k7,k8,k9,ju⟩
structure CU (X:Cx) (y:Str) (scope:dU) (ifs:List Expr) (elt:Expr) (f:D->G->R (Option D)):Prop where
 run:∀(C:Addr) (ax:ah) (aL:Hp) (fp:List Addr) (pn:List (Addr×Obj)),(∀b∈fp,∃o,(b,o)∈pn)->∀(zn:List (Addr×Obj)) (s:ah) (σ:St) (H:Hp) (F:List Addr) (O:G) (d:D),Inv (cS X y scope C ax aL fp pn) zn σ H s->bC H F->Rel X.K H F (.ro d::O) σ->f d O ≠ .no ->
  au (aF X.prog X.w) X.A (forIn ifs true λc r=>if r=true then do let ok <-oS c (iA scope (cQ X.env scope.names []) C X.env) (eval c (iA scope (cQ X.env scope.names []) C X.env));pure (o3 ok) else pure (o3 r)) (λok cT =>
   if ok=true then au (aF X.prog X.w) X.A (eval elt (iA scope (cQ X.env scope.names []) C X.env)) (λu dQ=>∃e v H',f d O = .ok (some e)/\Inv (cS X y scope C ax aL fp pn) zn σ H' dQ/\RelV v u/\aT H H'/\Is X.K (aM F H') e v) (λx s'=>∃c H',f d O = .er c/\aT H H'/\kW (cS X y scope C ax aL fp pn) zn σ H' c x s') cT
   else f d O = .ok none/\∃H',Inv (cS X y scope C ax aL fp pn) zn σ H' cT/\aT H H') (λx s'=>∃c H',f d O = .er c/\aT H H'/\kW (cS X y scope C ax aL fp pn) zn σ H' c x s') s
def OP{elt:Expr}{ge:G->R D}(he:∀C ax aL fp pn,(∀b∈fp,∃o,(b,o)∈pn)->iP (cS X y scope C ax aL fp pn) elt ge):CU X y scope [] elt (fU ge):=by
 refine⟨λC ax aL fp pn jK zn s σ H F O d I fo rl ho=>?_⟩
 refine RK ?_
 rw[if_pos rfl]
 have bO:ge (.ro d::O) ≠ .no:=λz=>by unfold fU at ho;rw[z] at ho;exact ho rfl
 exact aq ((he C ax aL fp pn jK).run zn s σ H F (.ro d::O) I fo rl bO) (λu s4 ⟨e,v,H',e1,I',rv,S,iv⟩=>⟨e,v,H',R.step e1 _,I',rv,S,iv⟩) λx s' ⟨c,H',e1,S,fl⟩=>⟨c,H',R.stop e1 _,S,fl⟩
def OQ{elt iter:Expr}{px pos:Pos}{ifs:List Expr}{f:D->G->R (Option D)}{zn:List (Addr×Obj)}{σ:St}{aL:Hp}{ax:ah}{F:List Addr}{O:G}{items:List D}{it:Addr}{fp:List Addr}{tn:Nat->Heap->Prop}{J:It}{E:Value->ah->Prop}{res:R (List D)}{L:Addr}
 (hp:CU X y scope ifs elt f) (c:sM X.N X.env y scope) (hN:X.N.Nodup) (gQ:X.calm=true) (I:Inv X zn σ aL ax) (fo:bC aL F) (rl:Rel X.K aL F O σ) (T:Turn X.prog X.w X.K (.Name y px) J fp it tn) (t0:tn 0 ax.heap) (hf:∀b∈fp,iY X zn aL b) (hj:JC X.K aL F J items)
 (hex:X.ex=[]) (kd:X.stack=X.env::X.outer) (eO:X.env.frame=some L) (ht:hJ (λd=>f d O) items []=res) (mr:res ≠ .no) (hl:items.length<=100000) {RR:Value->Addr->nU->ah->Prop}
 (hE:∀(Dd C:Addr) (oC:Obj) (m:Str->Option Value) (c:Er) (x:Value) (H':Hp) (s':ah),ax.heap.objs.size<=C->res = .er c->aT aL H'->(∀h:Heap,h.get? C=some oC->h.Ns C m)->oN X (zn++[(C,oC)]) σ H' c x s' (kh L)->RR (.ref Dd) C (.error x) s')
 (hR:∀(total:List D) (Dd C:Addr) (xs:List V) (H':Hp) (m:Str->Option Value) (s':ah),res = .ok total->ax.heap.objs.size<=C->Dd≠C->aL Dd=none->H' Dd=none->H' C=none->ax.heap.objs.size<=Dd->aT aL H'->ao X.K (aM F H') total xs->Inv X zn σ (upd H' Dd (.lst xs)) s'->s'.heap.Ns C m->RR (.ref Dd) C (.ok .next) s') :
 au (aF X.prog X.w) X.A (xu []) (λacc cT=>au (aF X.prog X.w) X.A (xy scope X.env.globals (cQ X.env scope.names []) [] X.env.qual none .none (some X.env)) (λcenv dQ=>cenv.frame=X.env.frame /\
  jN (aF X.prog X.w) X.A (.compStart (.ListComp elt [⟨.Name y px,iter,ifs,0⟩] scope pos) 0 (.ref it) acc { cenv with scope:=jR scope X.env }) (RR acc cenv.locals) dQ) E cT) E ax:=by
 refine Ob (f:=f) (O:=O) (F:=F) (λDd C ps s x H d hC jK J S fo rl bO sJ=>?_) c hN gQ I fo rl T t0 hf hj ht mr hl hR
 have vm:∀{s5:ah} {H7:Hp} {eK:St},Inv (cS X y scope C ax aL fp (X.pn++zn++ps)) [] eK H7 s5->Inv (cS X y scope C ax aL fp (X.pn++zn)) ps eK H7 s5:=λJ=>OO J λp de=>kD _ de
 have OR:∀{xx:Value} {s5:ah},(∃c' H7,f d O = .er c'/\aT H H7/\kW (cS X y scope C ax aL fp (X.pn++zn++ps)) [] (some x::σ) H7 c' xx s5)->NX X scope RR Dd C xx s5:=λ{xx s5} ⟨c',H7,ef,S7,fl⟩=>by
  obtain⟨oC,m,Z7,Z8⟩:=Z3 I hex hC hf fl
  show au _ X.A (DK xx X.env) _ _ s5
  exact wy hex kd eO Z8 λs6 f6=>hE Dd C oC m c' xx H7 s6 hC (sJ c' ef) (S.trans S7) Z7 f6
 refine aq (hp.run C ax aL fp (X.pn++zn++ps) (λb hb=>(jK b hb).imp λo h=>ft _ h) [] s _ H F O d (OO J λp de=>(List.mem_append.mp de).elim (λq=>q) λq=>nomatch q) fo rl bO) (λok s4 h4=>?_) λ_ _=>OR
 cases ok with
 | false =>
   obtain⟨ef,H7,J7,S7⟩:=h4
   exact⟨ef,H7,vm J7,S7⟩
 | true=>exact aq h4 (λu7 s5 ⟨e,v7,H7,ef,J7,r7,S7,Ha⟩=>⟨e,v7,H7,ef,vm J7,r7,S7,Ha⟩) λ_ _=>OR
def OS{L C:Addr}{oC:Obj}{m:Str->Option Value}{zn:List (Addr×Obj)}{σ:St}{aL H':Hp}{ax s':ah}{c':Er}{x:Value}(I2:Inv X zn σ aL ax)(eO:X.env.frame=some L)(hC:ax.heap.objs.size<=C)(zF:∀h:Heap,h.get? C=some oC->h.Ns C m)(fl:oN X (zn++[(C,oC)]) σ H' c' x s' (kh L)) :
 ∃m,s'.heap.Ns C m/\∀h',rp C s'.heap h'->∀ce:Env,ce.frame=X.env.frame->au (aF X.prog X.w) X.A (Ke "comprehension.variables-let-go" x ce:Sem Value) (λ_ _=>False) (λx s=>kW X zn σ H' c' x s) { s' with heap:=h' }:=by
 obtain⟨I',e,Ce,oe,vs,h1,h2,h3,h4,h5,h6,h7,h8,h9,i6,j_,T',oT,ts,k1,k2,k3,k4,k5,k6,k7,k8,k9,ju⟩:=fl
 have pC:=I'.pin (C,oC) (ft _ (ft _ (by simp)))
 have eC:C≠e:=h7 (C,oC) (ft _ (ft _ (by simp)))
 have TC:C≠T':=k6 (C,oC) (ft _ (ft _ (by simp)))
 refine⟨m,zF _ pC.1,λkC jL ce zG=>?_⟩
 have I0:Inv X zn σ H' s':=I'.uY λp de=>I'.pin p (ft _ (kD _ de))
 have jt:∀{b:Addr} {o:Obj},ax.heap.get? b=some o->b≠C:=λe=>fQ (eS (cG e) hC)
 have uf:Inv X zn σ H' { s' with heap:=kC }:=I0.turned (t':=s'.toks) (it:=C) (λb o hb e=>jL.extBut b o hb e) pC.2.1 pC.2.2.1 (.inr (fS I2.sz hC))
  (λx k e=>by obtain⟨v,o,ho,_⟩:=I2.cell x k e;exact jt ho) (λp de=>jt (I2.pin p de).1)
 have uq:oN X zn σ H' c' x { s' with heap:=kC } (kh L):=⟨uf,e,Ce,oe,vs,h1,h2,h3,h4,h5,h6,λp de=>h7 p (by
  rcases List.mem_append.mp de with q | q
  .exact kD _ q
  .exact ft _ (kD _ q)),jL.extBut e oe (dC eC) h8,h9,i6,j_,T',oT,ts,k1,k2,k3,k4,k5,λp de=>k6 p (by
  rcases List.mem_append.mp de with q | q
  .exact kD _ q
  .exact ft _ (kD _ q)),k7,jL.extBut T' oT (dC TC) k8,k9,ju⟩
 subst h1
 unfold Ke
 refine aS (p5 (jL.extBut e oe (dC eC) h8) i6 k1 ?_)
 rw[if_neg (show ¬((dS T'==kg)=true) from by simp)]
 rw[zG,eO]
 refine aS (sU uq λs9 f9=>?_)
 exact wpAny_throw (f9.here eO)
def Z9{L:Addr}{elt iter:Expr}{px pos:Pos}{ifs:List Expr}{f:D->G->R (Option D)}{gi:G->R (List D)}(hi:wo X (.Name y px) iter gi)(hp:CU X y scope ifs elt f)(hN:X.N.Nodup)(gQ:X.calm=true)(hex:X.ex=[])(kd:X.stack=X.env::X.outer)(eO:X.env.frame=some L)
 (qV:ud X.N X.env y scope=true:=by rfl) (mH:xA scope X.env=pure (cQ X.env scope.names []):=by rfl) (hs:∀x,uS iter X.env x=pure x:=by intro _;rfl) :
 PF X (.ListComp elt [⟨.Name y px,iter,ifs,0⟩] scope pos) (y1u gi f):=by
 refine⟨λzn s σ H F O I fo rl hg=>?_⟩
 have c:=zh qV
 rw[RL]
 refine Z2 rfl hs mH c.kind c.names (aq (hi.run zn s σ H F O I fo rl (R.left hg)) (λxv bT gy=>aq gy (λmT ax mI=>?_) λ_ _ x=>x.bind _) λ_ _ x=>x.bind _)
 obtain⟨items,it,fp,tn,J,aL,e1,rfl,I2,S2,T,t0,fk,jc⟩:=mI
 have dZ:=R.next hg e1
 obtain⟨hl,e2⟩:=R.cK dZ
 have bO:hJ (λd=>f d O) items [] ≠ .no:=by
  have:=R.next hg e1
  rw[e2] at this;exact this
 have eR:y1u gi f O=hJ (λd=>f d O) items []:=(R.step e1 _).trans e2
 refine OQ (RR:=λacc C=>ON (aF X.prog X.w) X.A _ _ X.env acc C) hp c hN gQ I2 (fo.same S2) (rl.same S2) T t0 fk jc hex kd eO rfl bO hl ?_ ?_
 .intro Dd C oC m c' x H' s' hC er S' zF fl
  obtain⟨m',h1,h2⟩:=OS I2 eO hC zF fl
  exact⟨m',h1,λkC jL ce zG=>aq (h2 kC jL ce zG) (λ_ _ z=>z) λ_ _ f=>⟨c',H',eR.trans er,S2.trans S',f⟩⟩
 .intro total Dd C xs H' m s' et hC iR hn g_ kY hD S' ia I' qW
  refine⟨m,qW,λkC jL=>?_⟩
  have jt:∀{b:Addr} {o:Obj},ax.heap.get? b=some o->b≠C:=λe=>fQ (eS (cG e) hC)
  have uf:Inv X zn σ (upd H' Dd (.lst xs)) { s' with heap:=kC }:=I'.turned (t':=s'.toks) (it:=C) (λb o hb e=>jL.extBut b o hb e) (by rw[b_ (dC iR)];exact kY) (oV (eS I2.lt hC)) (.inr (fS I2.sz hC))
   (λx k e=>by obtain⟨v,o,ho,_⟩:=I2.cell x k e;exact jt ho) (λp de=>jt (I2.pin p de).1)
  have S3:=gY g_ (.lst xs)
  refine⟨total,Dd,xs,_,eR.trans et,uf,rfl,(S2.trans S').trans S3,S2.free hn,dg,ia.same λb o hb=>?_⟩
  obtain⟨z1,z2⟩:=jr hb
  have fH:b≠Dd:=jA z2 g_
  rw[dc λz=>(List.mem_cons.mp z).elim fH z1,b_ fH]
  exact z2
end
section
variable {X:Cx}{e a b c:Expr}{g ga gb gc:G->R D}{pos p:Pos}{x:Str}{es:List Expr}{gs:G->R (List D)}
def Z_{zn:List (Addr×Obj)}{σ:St}{H:Hp}{s:ah}{q:Addr}(I:Inv X zn σ H s)(jK:∀b∈X.ex,∃o,(b,o)∈X.pn)(hq:s.heap.get? q=none):X.s₀.heap.get? q=none/\q≠X.env.locals/\(∀y k,X.env.cells.lookup y=some k->k≠q)/\(∀p∈X.pn++zn,p.1≠q):=by
 refine⟨?_,λz=>?_,λy k ek z=>?_,λp hp z=>?_⟩
 .cases e0:X.s₀.heap.get? q with
  | none=>rfl
  | some o =>
    obtain⟨o',e1⟩:=I.base.there q o e0 λz=>by
     obtain⟨o,hm⟩:=jK q z
     have:=(I.pin (q,o) (kD _ hm)).1
     rw[hq] at this;cases this
    rw[hq] at e1;cases e1
 .obtain⟨m,⟨o,_,_,ho,_⟩,_⟩:=I.loc
  rw[<-z,hq] at ho;cases ho
 .obtain⟨v,o,ho,_⟩:=I.cell y k ek
  rw[z,hq] at ho;cases ho
 .have ho:=(I.pin p hp).1
  rw[z,hq] at ho;cases ho
def y6h{zn:List (Addr×Obj)}{σ:St}{H:Hp}{s s':ah}{u:Value}{r:R D}{E:XK}(jK:∀b∈X.ex,∃o,(b,o)∈X.pn)(I:Inv X zn σ H s)(h:nE X.prog X.w X.stack H s E u s')
 (hE:∀C o H',E (.ref C) o H'->∃c,o=tg c/\r = .er c/\X.mg c.nm=some (.ref C)/\aT H H'):bP X zn σ H r u s':=by
 obtain⟨e,C,T,oe,oT,vs,ts,H',o,rfl,os,bare,un,aU,yY,we,qU,yZ,y0,y_,hv,za,wg,zb,zc,zd,sI,Ct⟩:=h
 obtain⟨c,rfl,er,hm,S⟩:=hE C o H' Ct
 obtain⟨hh,gg,dd,tt,qh⟩:=s'
 obtain rfl:qh=s.os:=os
 have I':Inv X zn σ H' { s with heap:=hh,gens:=gg,drawn:=dd,toks:=tt }:=I.call (h':=hh) (g':=gg) (d':=dd) (t':=tt) (ch:=[]) un aU bare (λb z=>absurd z (by simp))
 have fr:∀q:Addr,s.heap.get? q=none->X.s₀.heap.get? q=none/\q≠X.env.locals/\(∀y k,X.env.cells.lookup y=some k->k≠q)/\(∀p∈X.pn++zn,p.1≠q):=λq hq=>Z_ I jK hq
 obtain⟨f1,f2,f3,f4⟩:=fr e we
 obtain⟨g1,g2,g3,g4⟩:=fr T wg
 exact⟨c,H',er,S,I',e,C,oe,vs,rfl,hm,yY,f1,f2,f3,f4,qU,yZ,y0,y_,.inr ⟨T,oT,ts,hv,za,g1,g2,g3,g4,zb,zc,zd,.inl sI⟩⟩
def w9f{k:Nat}{f:Addr}{fd:cw}{ps:List Str}{φ:List D->R D}(Fn:iJ X.prog X.w X.K X.mg X.base k f fd ps φ)(hr:dM k X.A){zn:List (Addr×Obj)}{σ:St}{H:Hp}{s:ah}{us:List Value}{vs:List V}{ds:List D}
 (I:Inv X zn σ H s) (r:Vals vs us) (i:ao X.K H ds vs) (hg:φ ds ≠ .no) (jK:∀b∈X.ex,∃o,(b,o)∈X.pn):au (aF X.prog X.w) X.A (call (.ref f) us) (di X zn σ H (φ ds)) (bP X zn σ H (φ ds)) s:=by
 have eB:yX X.K X.mg φ vs H (λv H'=>∃d,φ ds = .ok d/\aT H H'/\Is X.K H' d v) (λC' o H'=>∃c C,C' = .ref C/\o=tg c/\φ ds = .er c/\X.mg c.nm=some (.ref C)/\aT H H') :=
  ⟨ds,i,hg,λd v H' e S iv=>⟨d,e,S,iv⟩,λc C H' e hm S=>⟨c,C,rfl,rfl,e,hm,S⟩⟩
 have hl:us.length=ps.length:=by rw[<-r.length];exact Fn.ok.len _ _ _ _ eB
 have hb:=Fn.binds s us I.gH (by rw[kE];exact hl)
 rw[kE] at hb
 refine Ao (p8 (Fn.ok.run X.A X.stack s H ⟨us,[]⟩ us vs _ _ hr I.vd hb r eB) λr' s' hq=>?_)
 cases r' with
 | error u =>
   refine y6h (E:=λC' o H'=>∃c C,C' = .ref C/\o=tg c/\φ ds = .er c/\X.mg c.nm=some (.ref C)/\aT H H') jK I hq λC o H' hE=>?_
   obtain⟨c,C',e,h0,h1,h2,h3⟩:=hE
   cases e
   exact⟨c,h0,h1,h2,h3⟩
 | ok fl =>
   cases fl with
   | ret u =>
     obtain⟨v,H',I',rv,d,e,S,iv⟩:=I.after hq
     exact⟨d,v,H',e,I',rv,S,iv⟩
   | next=>exact cC hq
   | brk=>exact cC hq
   | cont=>exact cC hq
def OT{k:Nat}{f:Addr}{fd:cw}{ps:List Str}{φ:List D->R D}(Fn:iJ X.prog X.w X.K X.mg X.base k f fd ps φ)(hr:dM k X.A)(hm:X.mg x=some (.ref f))(ha:mF X (e::es) gs)(jK:∀b∈X.ex,∃o,(b,o)∈X.pn)(hg:Gl X x:=by rfl)(ib:(x==("__debug__":Str))=false:=by decide)
 (he:a8 (e::es) X.env=(false,eval e X.env)::a8 es X.env:=by rfl) (gI:(cD pos (a8 es X.env)).any (·.1)=false:=by rfl):PD X (.Call (.Name x p) (e::es) [] pos) (az φ gs):=by
 refine⟨λzn s σ H F O I fo rl bR=>?_⟩
 refine mQ (mS I hg hm ?_ ib)
 refine Ap (h₀:=X.base) I.ok.mod.o5 Fn.kp (aq (ha.run pos zn s σ H F O I fo rl (R.left bR)) (λus s1 ⟨ds,vs,H1,e1,I1,r1,S1,i1⟩=>⟨I1.gH,?_⟩) λ_ _ x=>x.bind _) he gI
 exact aq (w9f Fn hr I1 r1 i1 (R.next bR e1) jK) (λ_ _ q=>di.bind e1 S1 q) λ_ _ q=>bP.later e1 S1 q
end
section
variable {X:Cx}{e:Expr}{g:G->R D}{pos p pos':Pos}
end
section
variable {X:Cx}{e a b c:Expr}{g ga gb gc:G->R D}{pos:Pos}
def OU:∀bs:List Bool,((g6 bs.length).all λi=>(bs[i]?).getD true)=bs.all (λb=>b)
 | []=>rfl
 | b::bs=>by
   rw[a3,Rh,Ah,Dq,Ah,<-OU bs]
   rfl
def x9e(hc:X.calm=true):jS X (.builtin "all") (λxs H Q=>∃(a:Addr) (bs:List Bool),xs=[.ref a]/\cE X.K H a (bs.map V.bl)/\Q (.bl (bs.all (λb=>b))) H):=by
 intro zn s σ H xs us Q I r h
 obtain⟨a,bs,rfl,hq,q⟩:=h
 obtain⟨u,rfl,ru⟩:=qg r
 cases ru
 obtain⟨xL,rv,pl,_⟩:=I.list hq
 have hl:=pl.isList
 have dt:a<s.heap.objs.size:=by obtain⟨_,e,_⟩:=hl;exact cG e
 have hlen:xL.length=bs.length:=by rw[<-rv.length,aZ]
 refine call_all_walk (JV hl ?_)
 refine⟨s.heap.objs.size,[s.heap.objs.size,a],[s.heap.objs.size],xL.toArray.size,_,_,λi=>(bs[i]?).getD true,rfl,RH (A:=X.A.in1) (I.ok.hd hc) _ a (fQ dt) xL.toArray,
  ⟨⟨_,g0 _ rfl,rfl,rfl⟩,hl.push _⟩,λi v s' Q' E' hP hQ=>?_,λh' tk hk=>?_⟩
 .obtain⟨b,e,rfl⟩:=GR rv (i:=i) (v:=v) (by simpa using hP)
  simp only[e,a4e] at hQ
  exact xr hQ
 .have e:((g6 xL.toArray.size).all λi=>(bs[i]?).getD true)=bs.all (λb=>b):=by
   rw[dD,hlen];exact OU bs
  refine⟨.bl (bs.all (λb=>b)),H,I.kept (λb x ex=>hk b x (λhm=>by rw[List.mem_singleton.mp hm] at ex;exact uC _ (cG ex)) (eX _ ex)),by rw[e];rfl,q⟩
def OV(hc:X.calm=true):mG X (.builtin "all") pb:=by
 refine⟨_,x9e (X:=X.b5) hc,λH xs ds i hg=>?_⟩
 unfold pb at hg
 split at hg
 .rename_i ys
  obtain⟨v,rfl,h⟩:=nD i
  obtain⟨a,zs,rfl,h1,h2⟩:=Is.fD.mp h
  cases q:mY ys with
  | none=>rw[q] at hg;exact absurd rfl hg
  | some ns =>
    have:=Ey q
    subst this
    rw[h2.GQ] at h1
    exact⟨a,ns,rfl,h1,.bl (ns.all (λb=>b)),by show pb [.lst (ns.map D.bl)]=_;simp only[pb,q],.refl _,Is.gN.mpr rfl⟩
 .exact absurd rfl hg
end
namespace Rv
def CV:List.lookup (String.ofList ['d','e','s','r','e','v','e','r'].reverse) Manifest.owners=some Manifest.sig_reversed:=rfl
end Rv
section
variable {prog:a5}{w:aX}{A:Around}{E:Value->ah->Prop}{s:ah}
end
def w1w:nR ("reversed":Str)=some (.type "reversed"):=by trivial
section
variable {X:Cx}{a:Expr}{ga:G->R D}
end
section
variable {X:Cx}{e:Expr}{pos p:Pos}{x:Str}{es:List Expr}{gs:G->R (List D)}
def w9e{k:Nat}{f:Addr}{fd:cw}{ps:List Str}{φ:List D->R D}(Fn:iJ X.prog X.w X.K X.mg X.base k f fd ps φ)(hr:dM k X.A){zn:List (Addr×Obj)}{σ:St}{H:Hp}{F:List Addr}{s:ah}{us:List Value}{vs:List V}{ds:List D}{d':D}{EE:Value->ah->Prop}
 (I:Inv X zn σ H s) (fo:bC H F) (r:Vals vs us) (i:ao X.K (aM F H) ds vs) (hg:φ ds = .ok d'):au (aF X.prog X.w) X.A (call (.ref f) us) (λu s'=>∃v H',Inv X zn σ H' s'/\RelV v u/\aT H H'/\Is X.K (aM F H') d' v) EE s:=by
 have eB:yX X.K X.mg φ vs (aM F H) (λv H'=>aT (aM F H) H'/\Is X.K H' d' v) (λ_ _ _=>False) :=
  ⟨ds,i,(by rw[hg];exact λz=>nomatch z),λd v H' e S iv=>by rw[hg] at e;cases e;exact⟨S,iv⟩,λc C H' e=>by rw[hg] at e;cases e⟩
 have hl:us.length=ps.length:=by rw[<-r.length];exact Fn.ok.len _ _ _ _ eB
 have hb:=Fn.binds s us I.gH (by rw[kE];exact hl)
 rw[kE] at hb
 have nh:∀{b:Addr},H b=none->aM F H b=none:=λ{b} q=>by
  by_cases hb:b∈F
  .exact qP hb
  .rw[dc hb];exact q
 have e0:=I.vd
 have en:vc X.prog X.w X.K X.mg X.base X.A X.stack s (aM F H):=⟨e0.frames,e0.mod,λb o q=>⟨(e0.bs b o q).1,nh (e0.bs b o q).2⟩,e0.mi,e0.kj,λb hb=>nh (e0.mj b hb),OM fo e0.aU,e0.bare⟩
 refine Ao (p8 (Fn.ok.run X.A X.stack s (aM F H) ⟨us,[]⟩ us vs _ _ hr en hb r eB) λr' s' hq=>?_)
 cases r' with
 | error u=>obtain⟨_,_,_,_,_,_,_,_,_,_,_,_,_,_,_,_,_,_,_,_,_,_,_,_,_,_,_,hE⟩:=hq;exact hE.elim
 | ok fl =>
   cases fl with
   | ret u =>
     obtain⟨v,H1,os,bare,un,aU,rv,S,h3⟩:=hq
     have own:∀b,b∈F->∃ys xL n,H b=some (.lst ys)/\ys.length<=bK/\Vals ys xL/\s'.heap.get? b=some { cls:=.type "list",data:=.seq xL.toArray n }/\H1 b=none:=λb hb=>by
      obtain⟨ys,ey⟩:=fo b hb
      obtain⟨z,xL,n,uu,gt⟩:=I.aU b _ ey
      exact⟨ys,xL,n,ey,z,uu,un.keep b _ gt (qP hb) (λz=>by rw[e0.mj b z] at ey;cases ey) (by simp),un.free b _ gt (qP hb) (by simp)⟩
     let H2:Hp:=λb=>if b∈F then H b else H1 b
     have oO:∀{b},b∈F->H2 b=H b:=λ{b} h=>if_pos h
     have gZ:∀{b},b ∉ F->H2 b=H1 b:=λ{b} h=>if_neg h
     have up:∀{b o},H1 b=some o->b ∉ F/\H2 b=some o:=λ{b o} q=>by
      have hb:b ∉ F:=λz=>by obtain⟨_,_,_,_,_,_,_,z2⟩:=own b z;rw[q] at z2;cases z2
      exact⟨hb,(gZ hb).trans q⟩
     have uv:∀{b o},H b=some o->(∀ys,o ≠ .lst ys)->b ∉ F:=λ{b o} q n z=>by obtain⟨ys,e⟩:=fo b z;rw[q] at e;cases e;exact n ys rfl
     have HN:Un (du X.stack) [] H H2 s.heap s'.heap:=by
      refine⟨λb o q n=>un.keep b o q (nh n),λb o q n=>un.slot b o q (nh n),λb o q n hx=>?_,un.there,λb ys q=>?_,λb o u q=>?_,λb ps q=>?_⟩
      .have hb:b ∉ F:=λz=>by obtain⟨ys,e⟩:=fo b z;rw[n] at e;cases e
       rw[gZ hb];exact un.free b o q (nh n) hx
      .have hb:=uv q λys z=>nomatch z
       rw[gZ hb];exact un.mf b ys (by rw[dc hb];exact q)
      .have hb:=uv q λys z=>nomatch z
       rw[gZ hb];exact un.lu b o u (by rw[dc hb];exact q)
      .have hb:=uv q λys z=>nomatch z
       rw[gZ hb];exact un.mh b ps (by rw[dc hb];exact q)
     have HP:eh X.prog X.w H2 s'.heap:=λb u q=>by
      by_cases hb:b∈F
      .obtain⟨ys,xL,n,ey,z,uu,gt,_⟩:=own b hb
       rw[oO hb,ey] at q
       cases q
       exact⟨z,xL,n,uu,gt⟩
      .rw[gZ hb] at q
       exact(aU b u q).kJ (λc v _ e=>e) (λc e=>(up e).2) λc ys e=>(up e).2
     have I2:Inv X zn σ H2 s':=I.DZ os HN HP bare (λb z=>absurd z (by simp))
     have S2:aT H H2:=λb o q=>by
      by_cases hb:b∈F
      .rw[oO hb];exact q
      .rw[gZ hb];exact S b o (by rw[dc hb];exact q)
     have Sx:aT H1 (aM F H2):=λb o q=>by rw[dc (up q).1];exact(up q).2
     exact⟨v,H2,I2,rv,S2,h3.same Sx⟩
   | next=>exact cC hq
   | brk=>exact cC hq
   | cont=>exact cC hq
end
section
variable {X:Cx}{e:Expr}{g:G->R D}{pos pt:Pos}
end
section
variable {prog:a5}{w:aX}{A:Around}{E:Value->ah->Prop}{s:ah}
end
section
variable {X:Cx}{a:Expr}{ga:G->R D}{st:Expr}{gt:G->R (Option Int)}{pos p2:Pos}
end
section
variable {X:Cx}{e a b c:Expr}{g ga gb gc:G->R D}{pos:Pos}
end
section
variable {X:Cx}{e a b c:Expr}{g ga gb gc:G->R D}{pos:Pos}
end
def x0o{M:l0}{A:Around}{E:Value->ah->Prop}{s:ah}{x c:Value}{Q:Value->ah->Prop}(h:au M A (i9 .In x c) (λv s'=>∃b,v = .bool b/\Q (.bool (!b)) s') E s):au M A (i9 .NotIn x c) Q E s:=by
 intro O p CA
 have h1:=h O p CA
 have e1:i9 .In x c=(contains c x>>=λb=>pure (.bool b)):=rfl
 have e2:i9 .NotIn x c=(contains c x>>=λb=>pure (.bool (!b))):=rfl
 rw[e1,Sem.wp_bind'] at h1
 rw[e2,Sem.wp_bind']
 refine Sem.wp_mono M O _ (λb p' s' hb=>?_) (λ_ _ _ z=>z) p s h1
 rw[Sem.wp_pure'] at hb ⊢
 obtain⟨b',eb,hq⟩:=hb
 cases eb
 exact hq
def CW(d:D):∀ys:List D,((D.fE ys).any λy=>y.eqv d.py)=ys.any λy=>bG y d
 | []=>by simp[D.fE]
 | y::ys=>by rw[D.fE,uR,uR,CW d ys,Cs]
section
variable {X:Cx}
end
section
variable {prog:a5}{w:aX}{A:Around}{E:Value->ah->Prop}{s:ah}
end
section
variable {X:Cx}{a b:Expr}{ga gb:G->R D}
end
section
variable {X:Cx}{e a b c:Expr}{g ga gb gc:G->R D}{gs:G->R (List D)}{pos pos' p:Pos}
end
def At(xs:Array Nat)(j i:Nat):Prop:=i<=xs.size/\(∀(k v:Nat),k<i->xs[k]? = some v->v<j)/\(∀(k v:Nat),i<=k->xs[k]? = some v->j<=v)
def HR{xs:Array Nat}{j:Nat}(rd:xs.toList.Pairwise (·<·)):∀(fuel lo hi:Nat),hi-lo<=fuel->lo<=hi->hi<=xs.size->(∀(k v:Nat),k<lo->xs[k]? = some v->v<j)->(∀(k v:Nat),hi<=k->xs[k]? = some v->j<=v) ->
 At xs j (Kh xs j fuel lo hi)
 | 0,lo,hi,h1,h2,h3,h4,h5=>by
   have e:lo=hi:=by lia
   subst e
   exact⟨h3,h4,h5⟩
 | fuel+1,lo,hi,h1,h2,h3,h4,h5=>by
   rw[show Kh xs j (fuel+1) lo hi=(if lo<hi then (if xs.getD ((lo+hi)/2) j<j then Kh xs j fuel ((lo+hi)/2+1) hi else Kh xs j fuel lo ((lo+hi)/2)) else lo) from rfl]
   by_cases q:lo<hi
   .rw[if_pos q]
    have hm:(lo+hi)/2<xs.size:=by lia
    have hg:xs.getD ((lo+hi)/2) j=xs[(lo+hi)/2]:=by simp[Array.getD,hm]
    have mono:∀(a b va vb:Nat),a<=b->xs[a]? = some va->xs[b]? = some vb->va<=vb:=λa b va vb OW ea eb=>by
     rcases Nat.lt_or_ge a b with w | w
     .obtain⟨ha,ea'⟩:=Array.getElem?_eq_some_iff.mp ea
      obtain⟨hb,eb'⟩:=Array.getElem?_eq_some_iff.mp eb
      have:=List.pairwise_iff_getElem.mp rd a b (by simpa using ha) (by simpa using hb) w
      rw[Av,Av,ea',eb'] at this
      lia
     .have:a=b:=by lia
      rw[this,eb] at ea;cases ea;exact a9 _
    have em:xs[(lo+hi)/2]? = some xs[(lo+hi)/2]:=Aw hm
    by_cases z:xs.getD ((lo+hi)/2) j<j
    .rw[if_pos z]
     rw[hg] at z
     exact HR rd fuel _ hi (by lia) (by lia) h3 (λk v hk e=>JI (mono k _ v _ (by lia) e em) z) h5
    .rw[if_neg z]
     rw[hg] at z
     exact HR rd fuel lo _ (by lia) (by lia) (by lia) h4 (λk v hk e=>fS (by lia) (mono _ k _ v hk em e))
   .rw[if_neg q]
    have e:lo=hi:=by lia
    subst e
    exact⟨h3,h4,h5⟩
def x3a{xs:Array Nat}(rd:xs.toList.Pairwise (·<·))(j:Nat):At xs j (DM xs j) :=
 HR rd xs.size 0 xs.size (by lia) (rK _) (a9 _) (λk v hk=>absurd hk (Ac _)) λk v hk e=>by
  obtain⟨h,_⟩:=Array.getElem?_eq_some_iff.mp e
  lia
def y8e{xs:Array Nat}{j:Nat}(rd:xs.toList.Pairwise (·<·))(hj:xs[DM xs j]? ≠ some j):(SetTable.insertAt xs (DM xs j) j).toList.Pairwise (·<·):=by
 obtain⟨b1,b2,b3⟩:=x3a rd j
 generalize DM xs j=i at *
 rw[SetTable.toList_insertAt]
 have ht:xs.toList=xs.toList.take i++xs.toList.drop i:=(Af i _).symm
 have hp:=rd
 rw[ht] at hp
 obtain⟨p1,p2,p3⟩:=List.pairwise_append.mp hp
 have OX:∀v∈xs.toList.take i,v<j:=λv hv=>by
  obtain⟨k,hk,e⟩:=List.mem_take_iff_getElem.mp hv
  refine b2 k v (by lia) ?_
  have zH:k<xs.size:=by have:=hk;simp at this;lia
  rw[Aw zH,<-e,Av]
 have OY:∀v∈xs.toList.drop i,j<v:=λv hv=>by
  obtain⟨k,hk,e⟩:=List.mem_drop_iff_getElem.mp hv
  have zH:i+k<xs.size:=by simp at hk;lia
  have ek:xs[i+k]? = some v:=by rw[Aw zH,<-e,Av]
  have h1:=b3 (i+k) v (by lia) ek
  by_cases z:j=v
  .exfalso
   subst z
   cases k with
   | zero=>exact hj ek
   | succ k =>
     have OZ:i<xs.size:=by lia
     have h2:=b3 i xs[i] (a9 _) (Aw OZ)
     have h3:=List.pairwise_iff_getElem.mp rd i (i+(k+1)) (by simpa using OZ) (by simpa using zH) (by lia)
     rw[Av,Av] at h3
     have h4:xs[i+(k+1)]=j:=by rw[Aw zH] at ek;exact l9 ek
     lia
  .lia
 refine List.pairwise_append.mpr ⟨p1,List.pairwise_cons.mpr ⟨OY,p2⟩,λx hx y hy=>?_⟩
 rcases List.mem_cons.mp hy with e | e
 .rw[e];exact OX x hx
 .exact Nat.lt_trans (OX x hx) (OY y e)
structure ik (led:Bool) (t:mR):Prop where
 led:t.led=led
 pU:t.dummies=#[]
 up:t.plain=true->t.place.toList.Pairwise (·<·)
def ik.CY{led:Bool}{t:mR}(h:ik led t)(n:Nat):ik led (t.standIn n):=⟨h.led,rfl,λz=>by cases z⟩
def ik.a0a{led:Bool}{t:mR}(h:ik led t)(n:Nat):ik led (t.orStandIn n):=by
 unfold SetTable.orStandIn
 split
 .exact h
 .exact h.CY n
def O0{t:mR}(h:t.dummies=#[])(j:Nat):SetTable.has t.dummies j=false:=by rw[h];rfl
def O1{t:mR}(h:t.dummies=#[]){f:Nat->Int}{x:Int}:∀(fuel:Nat) (q:xC) {j:Nat} {d:Option Nat},q.dummy=none->a4t t f x fuel q=some (.empty j d)->d=none/\t.slot j = .empty
 | 0,q,j,d,_,e=>by cases e
 | fuel+1,q,j,d,hq,e=>by
   unfold a4t at e
   cases hs:t.slot q.j with
   | empty =>
     rw[hs] at e
     simp only[xq,SetTable.Met.empty.injEq] at e
     obtain⟨rfl,rfl⟩:=e
     exact⟨hq,hs⟩
   | dummy =>
     exfalso
     unfold SetTable.slot at hs
     rw[O0 h] at hs
     dsimp only at hs
     split at hs
     .cases hs
     .simp at hs
   | live i =>
     rw[hs] at e
     dsimp only at e
     split at e
     .cases e
     .refine O1 h fuel _ ?_ e
      unfold SetTable.advance
      split<;>exact hq
def ik.a0b{led:Bool}{t:mR}{x:Int}{j:Nat}{d:Bool}(h:ik led t)(e:t.freeSlot x=some (j,d)):ik led (t.put j).1:=by
 unfold SetTable.freeSlot at e
 cases hq:t.probe (λ_=>x+1) x (t.probeStart x) with
 | none=>rw[hq] at e;cases e
 | some m =>
   rw[hq] at e
   cases m with
   | candidate _ _ _=>cases e
   | empty j' d' =>
     obtain⟨rfl,hs⟩:=O1 h.pU _ _ rfl hq
     simp only[QX,xq,Ki] at e
     obtain⟨rfl,_⟩:=e
     have hn:t.place[DM t.place j']? ≠ some j':=λz=>by
      unfold SetTable.slot at hs
      dsimp only at hs
      rw[z] at hs
      simp at hs
     refine⟨h.led,?_,λz=>y8e (h.up z) hn⟩
     show(if SetTable.has t.dummies j' then _ else t.dummies)=#[]
     rw[O0 h.pU,h.pU];rfl
def ik.a0c{led:Bool}{t:mR}(h:ik led t)(es:Array (Int×Value))(x:Int)(v:Value):ik led (layNew t es x v).2.1:=by
 unfold layNew
 cases hq:t.freeSlot x with
 | none=>exact h.CY _
 | some p =>
   obtain⟨j,d⟩:=p
   exact(h.a0b hq).a0a _
def w4z{mask finger moves:Nat}{led plain:Bool}{hs:Array Int}{t:mR}{o:Array Nat}(e:SetTable.laid mask finger moves led plain hs=some (t,o)):ik led t:=by
 unfold SetTable.laid at e
 cases hq:SetTable.layClean mask hs with
 | none=>rw[hq] at e;cases e
 | some CV =>
   rw[hq] at e
   simp only[Option.bind_eq_bind,Option.bind_some,Option.pure_def,xq,Ki] at e
   obtain⟨rfl,_⟩:=e
   refine⟨rfl,rfl,λ_=>?_⟩
   show(List.map (·.1) ((g6 (mask+1)).filterMap λj=>(CV.getD j none).map (j,·))).Pairwise (·<·)
   rw[List.pairwise_map]
   refine List.pairwise_filterMap.mpr (List.pairwise_lt_range.imp λ{a b} OW x hx y hy=>?_)
   cases ha:CV.getD a none with
   | none=>rw[ha] at hx;cases hx
   | some u =>
     cases hb:CV.getD b none with
     | none=>rw[hb] at hy;cases hy
     | some w =>
       rw[ha] at hx;rw[hb] at hy
       cases hx;cases hy
       exact OW
def ik.a0d{led:Bool}{t:mR}(h:ik led t)(es:Array (Int×Value))(n:Nat):ik led (Ax t es n).2.1:=by
 unfold Ax
 cases hq:t.relaid (es.map (·.1)) n with
 | none=>exact h.CY _
 | some p =>
   obtain⟨t',o⟩:=p
   dsimp only
   split
   .unfold SetTable.relaid at hq
    have:=w4z hq
    rw[h.led] at this
    exact this
   .exact h.CY _
def ik.a0e{led:Bool}{t:mR}(h:ik led t):ik led { t with plain:=false }:=⟨h.led,h.pU,λz=>by cases z⟩
section
variable {prog:a5}{w:aX}{A:Around}{E:Value->ah->Prop}{s:ah}
end
section
variable {prog:a5}{w:aX}{A:Around}{E:Value->ah->Prop}{s:ah}
def lg(w:aX):Bool:=!(w.params.followText "set-order")
def a0f(v:Value){Q1:Value->ah->Prop}(q:Q1 (.ref s.heap.objs.size) { s with heap:=s.heap.push { cls:=.type "set",dict:=none,data:=.set #[] 0 (.fresh 0 0 (lg w)) } }) :
 jN (aF prog w) A (.call (.builtin "set.__new__") ⟨[.type "set",v],[]⟩) (wants Q1 E) s:=by
 refine a4u (show au _ A.in1 (do RV "set.__new__" ⟨[.type "set",v],[]⟩;again (.builtin "set.__new__" ⟨[.type "set",v],[]⟩)) _ _ s from ?_)
 refine aS (RX (F.newCall_set_1 v) (bS ⟨RY a4v _,Au F.entry_set_new ?_⟩))
 rw[RZ a4v _];unfold Builtin.«set.__new__» Builtin.Frozenset.newClass
 have a0g:=sub_set_self
 obtain⟨hp,g,d,tk,os⟩:=s
 dsimp only
 wp_walk
 refine wpAny_askSetting (bS ?_)
 dsimp only
 simp only[newObj]
 exact aS (wpAny_alloc (bS (bS q)))
end
section
variable {prog:a5}{w:aX}{A:Around}{E:Value->ah->Prop}{s:ah}
end
section
variable {prog:a5}{w:aX}{A:Around}{E:Value->ah->Prop}{s:ah}
end
section
variable {prog:a5}{w:aX}{A:Around}{E:Value->ah->Prop}{s:ah}
end
section
variable {prog:a5}{w:aX}{A:Around}{E:Value->ah->Prop}{s:ah}
end
section
variable {prog:a5}{w:aX}{A:Around}{E:Value->ah->Prop}{s:ah}
end
section
variable {prog:a5}{w:aX}{A:Around}{E:Value->ah->Prop}{s:ah}
end
def w1v:nR ("set":Str)=some (.type "set"):=by trivial
section
variable {X:Cx}{e a b c:Expr}{g ga gb gc:G->R D}{gs:G->R (List D)}{pos pos' p p2:Pos}
end
section
variable {X:Cx}
def w9v(hu:X.A.units+64<i_):gO X (i9 .In) dIn:=by
 refine⟨λx y H Q=>∃dx ys,(Is X.K H (.lst ys) y/\D.lay 40 (.lst ys)=true∨Is X.K H (.tup ys) y/\D.lay 40 (.tup ys)=true)/\Is X.K H dx x/\D.lay 40 dx=true/\Q (.bl (ys.any λy=>bG y dx)) H,?_,λH x y dx dy ix iy hg=>?_⟩
 .intro zn s σ H x y v u Q I rx ry h
  obtain⟨dx,ys,hy,ix,l1,q⟩:=h
  obtain⟨as,ra⟩:=pO I 40 dx x v l1 ix rx
  have p1:=pN 40 dx l1
  have GP:X.A.units+64<i_:=hu
  rcases hy with ⟨iy,l2⟩ | ⟨iy,l2⟩
  .obtain⟨bs,rb⟩:=pO I 40 (.lst ys) y u l2 iy ry
   have p2:=pN 40 (.lst ys) l2
   have ey:D.py (.lst ys) = .list (D.fE ys):=by simp[D.py]
   rw[ey] at rb p2
   have c2:Am (D.fE ys)=true:=by simpa [td] using p2.1
   refine PySem.SeqAt.in_list_reads rb ra c2 p1.1 (show X.A.units+1+min (An (D.fE ys)) dx.py.depth<i_ by lia) ⟨.bl (ys.any λy=>bG y dx),H,I,?_,q⟩
   rw[CW];rfl
  .obtain⟨bs,rb⟩:=pO I 40 (.tup ys) y u l2 iy ry
   have p2:=pN 40 (.tup ys) l2
   have ey:D.py (.tup ys) = .tuple (D.fE ys):=by simp[D.py]
   rw[ey] at rb p2
   have c2:Am (D.fE ys)=true:=by simpa [td] using p2.1
   refine a4w rb ra c2 p1.1 (show X.A.units+1+min (An (D.fE ys)) dx.py.depth<i_ by lia) ⟨.bl (ys.any λy=>bG y dx),H,I,?_,q⟩
   rw[CW];rfl
 .cases dy with
  | lst ys =>
    obtain⟨⟨l1,l2⟩,e⟩:=R.cK (show R.guard (D.lay 40 dx=true/\D.lay 40 (.lst ys)=true) (R.ok (D.bl (ys.any λy=>bG y dx))) ≠ .no from hg)
    exact⟨dx,ys,.inl ⟨iy,l2⟩,ix,l1,.bl (ys.any λy=>bG y dx),e,.refl _,Is.gN.mpr rfl⟩
  | tup ys =>
    obtain⟨⟨l1,l2⟩,e⟩:=R.cK (show R.guard (D.lay 40 dx=true/\D.lay 40 (.tup ys)=true) (R.ok (D.bl (ys.any λy=>bG y dx))) ≠ .no from hg)
    exact⟨dx,ys,.inr ⟨iy,l2⟩,ix,l1,.bl (ys.any λy=>bG y dx),e,.refl _,Is.gN.mpr rfl⟩
  | _=>exact absurd rfl hg
end
section
variable {prog:a5}{w:aX}{A:Around}{E:Value->ah->Prop}{s:ah}
end
section
variable {prog:a5}{w:aX}{A:Around}{E:Value->ah->Prop}{s:ah}
end
section
variable {X:Cx}{a b:Expr}{ga gb:G->R D}
end
def spT(K:aD)(mg:Str->Option Value)(φ:List D->R D):Sp:=λvs H Q E=>∃ds,ao K H ds vs/\φ ds ≠ .no /\
 (∀d1 d2 es p x y a xs H',φ ds = .ok (.tup [d1,d2,.lst es])->aT H H'->H a=none->H' a=some (.lst xs)->cX K H' p [x,y,.ref a]->Is K H' d1 x->Is K H' d2 y->ao K H' es xs->Q (.ref p) H') /\
 (∀c C H',φ ds = .er c->mg c.nm=some (.ref C)->aT H H'->E (.ref C) (tg c) H')
structure FnT (P:a5) (w:aX) (K:aD) (mg:Str->Option Value) (base:Heap) (k:Nat) (f:Addr) (fd:cw) (ps:List Str) (φ:List D->R D):Prop where
 ok:jT P w K mg base (nE P w) k f fd ps (spT K mg φ)
 binds:kL K fd ps []
 kp:w_ K (.ref f)=true
section
variable {X:Cx}{e e1 e2 e3:Expr}{es:List Expr}{gs:G->R (List D)}{g g1 g2:G->R D}{g3:G->R (List D)}{pos p:Pos}{x:Str}{st:Stmt}{rest:List Stmt}{t u g':G->R Fl}
def RtT(X:Cx)(zn:List (Addr×Obj))(H:Hp)(F:List Addr)(r:R Fl)(u:Value)(s':ah):Prop:=∃aO H' F' p x y a xs d1 d2 es,Inv X zn aO H' s'/\u = .ref p/\Ext H F H' F'/\r = .ok (.rt (.tup [d1,d2,.lst es])) /\
 (a∈F∨H a=none)/\H' a=some (.lst xs)/\cX X.K H' p [x,y,.ref a]/\Is X.K H' d1 x/\Is X.K H' d2 y/\ao X.K H' es xs
def FlT(X:Cx)(zn:List (Addr×Obj))(H:Hp)(F:List Addr)(r:R Fl)(fl:Flow)(s':ah):Prop:=match fl with
 | .ret u=>RtT X zn H F r u s'
 | _=>False
structure PT (X:Cx) (st:List Stmt) (g:G->R Fl):Prop where
 run:∀(zn:List (Addr×Obj)) (s:ah) (σ:St) (H:Hp) (F:List Addr) (O:G),Inv X zn σ H s->bC H F->Rel X.K H F O σ->g O ≠ .no ->
  au (aF X.prog X.w) X.A (uD st X.env) (FlT X zn H F (g O)) (nG X zn H F (g O)) s
structure PAL (X:Cx) (n:Nat) (es:List Expr) (g:G->R (List D)):Prop where
 run:∀(pos:Pos) (zn:List (Addr×Obj)) (s:ah) (σ:St) (H:Hp) (F:List Addr) (O:G),Inv X zn σ H s->bC H F->Rel X.K H F O σ->g O ≠ .no ->
  au (aF X.prog X.w) X.A (fJ (cD pos (a8 es X.env))) (λus s'=>∃ds cJ vs a xs H',g O = .ok (ds++[.lst cJ])/\ds.length=n/\Inv X zn σ H' s'/\Vals (vs++[.ref a]) us/\aT H H'/\H a=none/\H' a=some (.lst xs)/\ao X.K H' ds vs/\ao X.K H' cJ xs) (bP X zn σ H (g O)) s
end
section
variable {P:a5}{w:aX}{K:aD}{mg:Str->Option Value}{base:Heap}
end
def HS(X:Cx)(zn:List (Addr×Obj))(H:Hp)(F:List Addr)(O:G)(P:St->Prop)(s':ah):Prop:=∃aO H' F',Inv X zn aO H' s'/\bC H' F'/\Rel X.K H' F' O aO/\Ext H F H' F'/\P aO
def wG(X:Cx)(zn:List (Addr×Obj))(H:Hp)(F:List Addr)(r:R Fl)(P:St->Prop)(fl:Flow)(s':ah):Prop:=match fl with
 | .next=>∃O',r = .ok (.nx O')/\HS X zn H F O' P s'
 | .brk=>∃O',r = .ok (.bk O')/\HS X zn H F O' P s'
 | .cont=>∃O',r = .ok (.ct O')/\HS X zn H F O' P s'
 | .ret u=>mJ X zn H F r u s'
structure PK (X:Cx) (i:Nat) (st:Stmt) (g:G->R Fl):Prop where
 run:∀(zn:List (Addr×Obj)) (s:ah) (σ:St) (H:Hp) (F:List Addr) (O:G),Inv X zn σ H s->bC H F->Rel X.K H F O σ->g O ≠ .no ->
  au (aF X.prog X.w) X.A (exec st X.env) (wG X zn H F (g O) λaO=>aO[i]? = σ[i]?) (nG X zn H F (g O)) s
structure rg (X:Cx) (i:Nat) (st:List Stmt) (g:G->R Fl):Prop where
 run:∀(zn:List (Addr×Obj)) (s:ah) (σ:St) (H:Hp) (F:List Addr) (O:G),Inv X zn σ H s->bC H F->Rel X.K H F O σ->g O ≠ .no ->
  au (aF X.prog X.w) X.A (uD st X.env) (wG X zn H F (g O) λaO=>aO[i]? = σ[i]?) (nG X zn H F (g O)) s
section
variable {X:Cx}{e c:Expr}{g:G->R D}{pos pos':Pos}{st:Stmt}{rest:List Stmt}{t u:G->R Fl}{i:Nat}
def wG.later{zn:List (Addr×Obj)}{H H1:Hp}{F F1:List Addr}{r:R Fl}{P P':St->Prop}{fl:Flow}{s':ah}(E:Ext H F H1 F1)(hP:∀σ,P σ->P' σ)(h:wG X zn H1 F1 r P fl s'):wG X zn H F r P' fl s':=by
 cases fl with
 | next=>obtain⟨O',e,aO,H',F',h1,h2,h3,h4,h5⟩:=h;exact⟨O',e,aO,H',F',h1,h2,h3,E.trans h4,hP _ h5⟩
 | brk=>obtain⟨O',e,aO,H',F',h1,h2,h3,h4,h5⟩:=h;exact⟨O',e,aO,H',F',h1,h2,h3,E.trans h4,hP _ h5⟩
 | cont=>obtain⟨O',e,aO,H',F',h1,h2,h3,h4,h5⟩:=h;exact⟨O',e,aO,H',F',h1,h2,h3,E.trans h4,hP _ h5⟩
 | ret u=>exact mJ.map h E (λ_ _ I=>I) (λ_ e=>e) λ_ e=>e
def HU:rg X i [] b8:=⟨λzn s σ H F O I fo rl _=>qc ⟨O,rfl,σ,H,F,I,fo,rl,.refl,rfl⟩⟩
def wH(h1:PK X i st t):rg X i [st] t:=by
 refine⟨λzn s σ H F O I fo rl hg=>?_⟩
 refine rL (je (h1.run zn s σ H F O I fo rl hg) λfl s1 q=>?_)
 cases fl with
 | next=>exact qc q
 | ret v=>exact q
 | brk=>exact q
 | cont=>exact q
def HV{cs ds:List Stmt}{gc:G->R Bool}(hc:kB X c gc)(ha:rg X i cs t)(hb:rg X i ds u):PK X i (.If c cs ds pos) (bL gc t u):=by
 refine⟨λzn s σ H F O I fo rl hg=>?_⟩
 refine JZ (aq (hc.run zn s σ H F O I fo rl (kN hg)) (λk s1 q=>?_) λ_ _ x=>x.lift fo rl _)
 obtain⟨H1,e1,I1,S1⟩:=q
 have e2:bL gc t u O=if k=true then t O else u O:=kO e1
 rw[e2] at hg ⊢
 cases k with
 | true=>exact aq (ha.run zn s1 σ H1 F O I1 (fo.same S1) (rl.same S1) hg) (λ_ _ q=>q.later (.of_same S1) λ_ z=>z) λ_ _ q=>q.later (.of_same S1)
 | false=>exact aq (hb.run zn s1 σ H1 F O I1 (fo.same S1) (rl.same S1) hg) (λ_ _ q=>q.later (.of_same S1) λ_ z=>z) λ_ _ q=>q.later (.of_same S1)
def w0b(n:Nat){zu:Expr}{body:List Stmt}{gc:G->R Bool}{gb:G->R Fl}(hp:zq X)(hc:kB X zu gc)(hb:rg X i body gb):PK X i (.While zu body [] pos) (e_ gc gb n):=by
 refine⟨λzn s σ H F O I fo rl hg=>?_⟩
 have de:=hp zn H F (e_ gc gb n O)
 refine wpAny_While (a4i (λm s'=>∃(aO:St) (H':Hp) (F':List Addr) (O':G),Inv X zn aO H' s'/\bC H' F'/\Rel X.K H' F' O' aO/\Ext H F H' F'/\e_ gc gb m O'=e_ gc gb n O/\aO[i]? = σ[i]?) ?_ n ⟨σ,H,F,O,I,fo,rl,.refl,rfl,rfl⟩)
 rintro m s1 ⟨i4,H1,F1,dh,I1,dI,d9,E1,dj,k1⟩
 have aN:e_ gc gb m dh ≠ .no:=by rw[dj];exact hg
 cases m with
 | zero=>exact absurd rfl aN
 | succ m =>
   have Hs:e_ gc gb (m+1) dh=lift (gc dh) dh λk=>if k=true then (match gb dh with
    | .ok (.nx O')=>e_ gc gb m O'
    | .ok (.ct O')=>e_ gc gb m O'
    | .ok (.bk O')=>.ok (.nx O')
    | .ok (.rt d)=>.ok (.rt d)
    | .ok (.hG d)=>.ok (.hG d)
    | .ok (.ex c O')=>.ok (.ex c O')
    | _=>.no) else .ok (.nx dh):=rfl
   rw[Hs] at aN dj
   refine ti de (aq (hc.run zn s1 i4 H1 F1 dh I1 dI d9 (kN aN)) (λk s2 q2=>?_) λ_ _ x=>by rw[<-dj];exact(x.lift dI d9 _).later E1)
   obtain⟨H2,e2,I2,S2⟩:=q2
   rw[kO e2] at aN dj
   have E2:=E1.trans (Ext.of_same S2)
   cases k with
   | false =>
     rw[if_neg uM] at dj ⊢
     exact qc ⟨dh,dj.symm,i4,H2,F1,I2,dI.same S2,d9.same S2,E2,k1⟩
   | true =>
     rw[if_pos rfl] at dj aN ⊢
     have iS:gb dh ≠ .no:=λz=>by rw[z] at aN;exact aN rfl
     refine ti de (aq (hb.run zn s2 i4 H2 F1 dh I2 (dI.same S2) (d9.same S2) iS) (λf s3 q3=>?_) λx3 s3 q3=>?_)
     .cases f with
      | next =>
        obtain⟨ic,e7,eK,H7,F7,I7,ig,ij,E7,k7⟩:=q3
        rw[e7] at dj
        exact⟨m,DJ _,eK,H7,F7,ic,I7,ig,ij,E2.trans E7,dj,k7.trans k1⟩
      | cont =>
        obtain⟨ic,e7,eK,H7,F7,I7,ig,ij,E7,k7⟩:=q3
        rw[e7] at dj
        exact⟨m,DJ _,eK,H7,F7,ic,I7,ig,ij,E2.trans E7,dj,k7.trans k1⟩
      | brk =>
        obtain⟨ic,e7,eK,H7,F7,I7,ig,ij,E7,k7⟩:=q3
        rw[e7] at dj
        exact⟨ic,dj.symm,eK,H7,F7,I7,ig,ij,E2.trans E7,k7.trans k1⟩
      | ret v =>
        exact mJ.map q3 E2 (λ_ _ I7=>I7) (λd7 e7=>by rw[e7] at dj;exact dj.symm) λd7 e7=>by rw[e7] at dj;exact dj.symm
     .obtain⟨c7,ic,eK,H7,F7,e7,uj,ig,ij,E7⟩:=q3
      rw[e7] at dj
      exact⟨c7,ic,eK,H7,F7,dj.symm,uj,ig,ij,E2.trans E7⟩
end
structure CZ (K:aD) (H:Hp) (F:List Addr) (p:Nat) (σ:St) (lU:List (List D)) (a:Addr) (as:List Addr):Prop where
 loc:σ[p]? = some (some (.ref a))
 top:H a=some (.lst (as.map V.ref))
 len:as.length=lU.length
 each:∀(j:Nat) (b:Addr) (ds:List D),as[j]? = some b->lU[j]? = some ds->D.bQ ds=true/\∃xs,H b=some (.lst xs)/\ao K H ds xs
 nodup:(a::as).Nodup
 out:∀b∈a::as,b ∉ F
def O2(X:Cx)(p:Nat)(zn:List (Addr×Obj))(H:Hp)(A:List Addr)(O':G)(s':ah):Prop:=∃aO H' F' lU a as,Inv X zn aO H' s'/\bC H' F'/\Rel X.K H' F' O' aO/\O'[p]? = some (.ro (.lst (lU.map D.lst)))/\CZ X.K H' F' p aO lU a as/\Ext H A H' (F'++a::as)
structure PP (X:Cx) (p:Nat) (st:Stmt) (g:G->R Fl):Prop where
 run:∀(zn:List (Addr×Obj)) (s:ah) (σ:St) (H:Hp) (F:List Addr) (O O':G) (lU:List (List D)) (a:Addr) (as:List Addr),Inv X zn σ H s->bC H F->Rel X.K H F O σ->O[p]? = some (.ro (.lst (lU.map D.lst)))->CZ X.K H F p σ lU a as->g O = .ok (.nx O') ->
  au (aF X.prog X.w) X.A (exec st X.env) (λfl s'=>fl = .next/\O2 X p zn H (F++a::as) O' s') (λ_ _=>False) s
structure PPs (X:Cx) (p:Nat) (st:List Stmt) (g:G->R Fl):Prop where
 run:∀(zn:List (Addr×Obj)) (s:ah) (σ:St) (H:Hp) (F:List Addr) (O O':G) (lU:List (List D)) (a:Addr) (as:List Addr),Inv X zn σ H s->bC H F->Rel X.K H F O σ->O[p]? = some (.ro (.lst (lU.map D.lst)))->CZ X.K H F p σ lU a as->g O = .ok (.nx O') ->
  au (aF X.prog X.w) X.A (uD st X.env) (λfl s'=>fl = .next/\O2 X p zn H (F++a::as) O' s') (λ_ _=>False) s
section
variable {X:Cx}{p:Nat}{st:Stmt}{rest:List Stmt}{t u:G->R Fl}{c:Expr}{pos:Pos}
structure PM (X:Cx) (e:Expr) (gm:G->R (D×G)):Prop where
 run:∀(zn:List (Addr×Obj)) (s:ah) (σ:St) (H:Hp) (F:List Addr) (O dh:G) (d:D),Inv X zn σ H s->bC H F->Rel X.K H F O σ->gm O = .ok (d,dh) ->
  au (aF X.prog X.w) X.A (eval e X.env) (λu s'=>∃y H',Inv X zn σ H' s'/\RelV y u/\bC H' F/\Rel X.K H' F dh σ/\Ext H F H' F/\Is X.K H' d y) (λ_ _=>False) s
structure PPq (X:Cx) (p:Nat) (st:List Stmt) (g:G->R Fl):Prop where
 run:∀(zn:List (Addr×Obj)) (s:ah) (σ:St) (H:Hp) (F:List Addr) (O:G) (lU:List (List D)) (a:Addr) (as:List Addr),Inv X zn σ H s->bC H F->Rel X.K H F O σ->O[p]? = some (.ro (.lst (lU.map D.lst)))->CZ X.K H F p σ lU a as->g O ≠ .no ->
  au (aF X.prog X.w) X.A (uD st X.env) (ug X zn H (F++a::as) (g O)) (nG X zn H (F++a::as) (g O)) s
end
section
variable {X:Cx}{e:Expr}{g:G->R D}{pos pos' p pt:Pos}
def w4c(i:Nat){m0:Nat}{x:Str}{g:G->R (List D)}(he:PF X e g)(hN:X.N.Nodup)(zI:i≠m0:=by decide)(hi:X.N[i]? = some x:=by rfl)(hx:Loc X.env.scope x:=by first | exact iu rfl | exact fu rfl)(hs:rM e (some (.Name x pos')) pos.line X.env=pure false:=by rfl)(hf:X.fn x=true∨X.env.scope.names.lookup x=some .local:=by first | exact .inl rfl | exact .inr rfl | assumption) :
 PK X m0 (.Assign [.Name x pos'] e pos) (c8 i g):=by
 refine⟨λzn s σ H F O I fo rl hg=>?_⟩
 refine J2 (aq (he.run zn s σ H F O I fo rl (kN hg)) (λv s1 ⟨ds,a,xs,H1,e1,I1,eu,S1,hn,ha,i1⟩=>?_) λ_ _ x=>x.lift fo rl _) hs
 subst eu
 exact u0 (v:=.ref a) I1 hN hi hx rfl (λs2 I2=>⟨_,kO e1,_,H1,a::F,I2,(fo.same S1).cons ha,rl.set_own fo S1 hn ha i1,⟨λb o _ h=>S1 _ _ h,λb hb=>(List.mem_cons.mp hb).elim (λz=>.inr (z ▸ hn)) .inl⟩,d_ zI⟩) hf
end
section
variable {X:Cx}{e:Expr}{pos p:Pos}{x:Str}{es:List Expr}{gs:G->R (List D)}
end
section
variable {X:Cx}{zn:List (Addr×Obj)}{σ:St}{H:Hp}{s:ah}{a b:Addr}{ob:Obj}{ks:List (List Int)}{k:List Int}
end
def O3(m i pt:Nat):xC:={ j:=i,more:=a4x m i-i,i:=i,perturb:=pt,dummy:=none }
def a0h(m:Nat)(p:xC):xC :=
 if p.more>0 then { p with j:=p.j+1,more:=p.more-1 } else
 { p with j:=(DN m p.i p.perturb).1,more:=a4x m (DN m p.i p.perturb).1-(DN m p.i p.perturb).1,i:=(DN m p.i p.perturb).1,perturb:=(DN m p.i p.perturb).2 }
def HW(m:Nat)(p:xC):Nat->xC
 | 0=>p
 | n+1=>HW m (a0h m p) n
structure a6o (m:Nat) (p:xC):Prop where
 i:p.i<=m
 pt:p.perturb<2^64
 more:p.more<=9
 pU:p.dummy=none
 jm:p.j+p.more<=m
def O4(m:Nat)(occ:Nat->Prop)(h:Int)(j:Nat):Prop :=
 ∃n,(HW m (O3 m (Kj h%(m+1)) (Kj h)) n).j=j/\∀k,k<n->occ (HW m (O3 m (Kj h%(m+1)) (Kj h)) k).j
structure a6p (t:mR) (L:List (Nat×Int×Value)):Prop where
 mask:t.mask=7∨t.mask=31
 pU:t.dummies=#[]
 plc:t.place.toList=L.map (·.1)
 up:(L.map (·.1)).Pairwise (·<·)
 le:∀q∈L,q.1<=t.mask
 room:L.length<=t.mask
 reach:∀q∈L,O4 t.mask (λj=>j∈L.map (·.1)) q.2.1 q.1
structure a6q (m:Nat) (ow:Array (Option Nat)) (done:List Int) (Lo:List Nat):Prop where
 sz:ow.size=m+1
 len:Lo.length=done.length
 le:∀j∈Lo,j<=m
 own:∀(j k:Nat),ow[j]? = some (some k)↔Lo[k]? = some j
 rch:∀(k j:Nat) (h:Int),Lo[k]? = some j->done[k]? = some h->O4 m (λj=>j∈Lo) h j
section
variable {prog:a5}{w:aX}{A:Around}{E:Value->ah->Prop}{s:ah}
end
section
variable {prog:a5}{w:aX}{A:Around}{E:Value->ah->Prop}{s:ah}
end
section
variable {prog:a5}{w:aX}{A:Around}{E:Value->ah->Prop}{s:ah}
end
section
variable {X:Cx}{e a b c:Expr}{g ga gb gc:G->R D}{pos pos' p p2:Pos}
end
section
variable {X:Cx}{e a b c:Expr}{g ga gb gc:G->R D}{pos pos' p p2:Pos}
def nH:mG X (.type "str") iN:=by
 refine⟨_,Tb (X:=X.b5),λH xs ds i hg=>?_⟩
 unfold iN at hg
 split at hg
 .rename_i n
  obtain⟨v,rfl,h⟩:=nD i
  obtain⟨hz,e⟩:=R.cK hg
  cases Is.bZ.mp h
  exact⟨n,rfl,hz,.str (toString n),e,.refl _,Is.fW.mpr rfl⟩
 .exact absurd rfl hg
def C1:mG X (.builtin "len") y1l:=by
 refine⟨_,Td (X:=X.b5),λH xs ds i hg=>?_⟩
 unfold y1l at hg
 split at hg
 .rename_i x
  obtain⟨v,rfl,h⟩:=nD i
  obtain⟨hz,e⟩:=R.cK hg
  cases Is.fW.mp h
  exact⟨.str x,x.length,rfl,⟨by rw[oW];lia,rfl⟩,.int x.length,e,.refl _,Is.bZ.mpr rfl⟩
 .exact absurd rfl hg
def nJ:gO X (iU .Add) z5z:=by
 refine⟨_,S9 (X:=X.b5),λH x y dx dy ix iy hg=>?_⟩
 unfold z5z at hg
 split at hg
 .rename_i i j
  obtain⟨hz,e⟩:=R.cK hg
  exact⟨i,j,Is.fW.mp ix,Is.fW.mp iy,by rw[oW];lia,.str (i++j),e,.refl _,Is.fW.mpr rfl⟩
 .exact absurd rfl hg
def w7i:gO X (i9 .In) dInS:=by
 refine⟨_,S8 (X:=X.b5),λH x y dx dy ix iy hg=>?_⟩
 unfold dInS at hg
 split at hg
 .rename_i i j
  exact⟨i,j,Is.fW.mp ix,Is.fW.mp iy,.bl (og i j),rfl,.refl _,Is.gN.mpr rfl⟩
 .exact absurd rfl hg
def HX(ha:PD X a ga)(hb:PD X b gb)(hs:AN b:=by intro _ _;rfl):PD X (.Subscript a b pos) (af dIxS ga gb):=by
 refine⟨λzn s σ H F O I fo rl hg=>?_⟩
 refine DE (aq (ha.run zn s σ H F O I fo rl (R.left hg)) (λv s1 ⟨dx,x,H1,e1,I1,r1,S1,i1⟩=>?_) λ_ _ x=>x.bind _)
 have aN:=R.next hg e1
 refine aq (hb.run zn s1 σ H1 F O I1 (fo.same S1) (rl.same S1) (R.left aN)) (λu s2 ⟨dy,y,H2,e2,I2,r2,S2,i2⟩=>?_) λ_ _ x=>bP.later e1 S1 (x.bind _)
 have cA:=R.next aN e2
 have lS:=i1.same S2
 cases dx with
 | str z =>
   cases dy with
   | int i =>
     obtain⟨hz,e5⟩:=R.cK (show R.guard (z.length<=100000) (match cV z.cps.toList i with | some c=>R.ok (D.str ⟨#[c]⟩) | none=>R.no) ≠ .no from cA)
     cases q:cV z.cps.toList i with
     | none=>exact absurd (show dIxS (.str z) (.int i) = .no from e5.trans (by rw[q])) cA
     | some c =>
       cases Is.fW.mp lS
       exact aq (TB (X:=X.b5) a b zn s2 σ H2 _ y v u (λz' H'=>z' = .str ⟨#[c]⟩/\H'=H2) (I2.dv _) r1 r2 ⟨z,i,c,rfl,Is.bZ.mp i2,by rw[oW];lia,q,rfl,rfl⟩ (hs _ _)) (λw' s' ⟨z',H',I',rz,ez,eH⟩=>by
        subst ez eH
        exact di.bind e1 S1 (di.bind e2 S2 ⟨.str ⟨#[c]⟩,.str ⟨#[c]⟩,H',e5.trans (by rw[q]),I'.fK,rz,.refl _,Is.fW.mpr rfl⟩)) λ_ _ z=>cC z
   | _=>exact absurd rfl cA
 | _=>exact absurd rfl cA
def C2{K:aD}{H:Hp}:∀{xs:List Str} {vs:List V} {xL:List Value},ao K H (xs.map D.str) vs->Vals vs xL->∃l:List (Str×Tok),xL=kH l/\l.map (·.1)=xs
 | [],vs,xL,h,r=>by
   cases ao.jU.mp h
   cases r
   exact⟨[],rfl,rfl⟩
 | x::xs,vs,xL,h,r=>by
   obtain⟨v,zw,rfl,h1,h2⟩:=ao.jI.mp h
   cases Is.fW.mp h1
   cases r with
   | cons r1 r2 =>
     obtain⟨t,rfl⟩:=r1
     obtain⟨l,rfl,rfl⟩:=C2 h2 r2
     exact⟨(x,t)::l,rfl,rfl⟩
def O5:∀(l:List (Str×Tok)),Vals ((l.map (·.1)).map V.str) (kH l)
 | []=>.nil
 | (x,t)::l=>.cons ⟨t,rfl⟩ (O5 l)
def O6{K:aD}{H:Hp}:∀(xs:List Str),ao K H (xs.map D.str) (xs.map V.str)
 | []=>ao.nil
 | x::xs=>ao.cons (Is.fW.mpr rfl) (O6 xs)
def rh{sep:Str}{j}{cp apos b6:Pos}(he:PD X e g)
 (j9:uU (.Constant (.str sep) j cp) "join" X.env (eval (.Constant (.str sep) j cp) X.env)=eval (.Constant (.str sep) j cp) X.env:=by rfl)
 (mK:((cD b6 (a8 [e] X.env)).all (λx=>!x.1)&&(uF b6 (uG [] X.env)).all (λx=>x.1.isSome)
   && decide ([e].length+([]:List lq).length+(if ([]:List lq).isEmpty then 0 else 1)<30))=true:=by rfl)
 (kZ:(apos.endLine==b6.line)=true:=by rfl) (hs:a8 [e] X.env=(false,eval e X.env)::a8 [] X.env:=by rfl) :
 PD X (.Call (.Attribute (.Constant (.str sep) j cp) "join" apos) [e] [] b6) (kP sep g):=by
 refine⟨λzn s σ H F O I fo rl hg=>?_⟩
 refine DI j9 mK kZ rfl (QD ?_)
 refine⟨"str",_,a4y,PySem.F.slot_str_join,PySem.F.type_str_join,typeIs_str _ _ _,(λ_ e=>nomatch e),?_⟩
 rw[hs]
 refine As rfl (xB ?_)
 show au _ _ (fJ ((false,eval e X.env)::cD b6 [])) _ _ _
 refine gF (aq (he.run zn _ σ H F O (I.tok _) fo rl (R.left hg)) (λu s2 ⟨d,y,H2,e2,I2,r2,S2,i2⟩=>jz ?_) λ_ _ x=>x.bind _)
 have cA:=R.next hg e2
 cases d with
 | lst ds =>
   cases q:strs? ds with
   | none=>exact absurd (show(match strs? ds with | some xs=>R.guard (oZ sep xs=true) (R.ok (D.str (ir sep xs))) | none=>R.no) = .no by rw[q]) cA
   | some xs =>
     have mL:R.guard (oZ sep xs=true) (R.ok (D.str (ir sep xs))) ≠ .no:=by
      have h:=cA
      dsimp only at h
      rw[q] at h;exact h
     obtain⟨aU,e3⟩:=R.cK mL
     obtain rfl:=Bh q
     obtain⟨l,vs,rfl,h1,h2⟩:=Is.fD.mp i2
     cases (show u=dS l from r2)
     obtain⟨xL,rv,pl,hz⟩:=I2.list h1
     obtain⟨lt,rfl,dt⟩:=C2 h2 rv
     refine SC.join pl.isList dt aU λt' k=>?_
     refine di.bind e2 S2 ⟨.str (ir sep xs),.str (ir sep xs),H2,?_,I2.tok _,⟨t',rfl⟩,.refl _,Is.fW.mpr rfl⟩
     show(match strs? (xs.map D.str) with | some xs=>R.guard (oZ sep xs=true) (R.ok (D.str (ir sep xs))) | none=>R.no)=_
     rw[q];exact e3
 | _=>exact absurd rfl cA
def x3o{prog:a5}{w:aX}{A:Around}{E:Value->ah->Prop}{s:ah}{x y:Str}{t u:Tok}{Q:Value->ah->Prop}(hy:(y.length==0)=false)
 (hq:∀(l:List (Str×Tok)) (k:Nat),l.map (·.1)=bW x y->Q (.ref s.heap.objs.size) { s with toks:=k,heap:=s.heap.push { cls:=.type "list",data:=.seq (kH l).toArray } })
 (jh:x.length<=bK) (a0i:(a4z x (Aa x y 0 x.length (x.length+1)) y.length).length<=bK) :
 au (aF prog w) A (call (.builtin "str.split") [.str x t,.str y u]) Q E s:=by
 cases h1:(decide (x.length<y.length)||decide (a5a x<a5a y))
 .cases hf:(Aa x y 0 x.length (x.length+1)).isEmpty
  .refine p6 Kk (typeIs_str _ _ _) R0 (R1 _ _) (meets_str_split_sep x y t u h1 hy hf jh a0i) ?_
   show wants Q E _ { s with toks:=_,heap:=s.heap.push { cls:=.type "list",data:=.seq (strsFrom s.toks (a4z x (Aa x y 0 x.length (x.length+1)) y.length)).toArray } }
   rw[strsFrom_eq]
   exact hq (numbered s.toks _) _ ((numbered_texts _ _).trans ((if_neg (ne_true_of_eq_false h1)).trans (if_neg (ne_true_of_eq_false hf))).symm)
  .exact p6 Kk (typeIs_str _ _ _) R0 (R1 _ _) (meets_str_split_not_found x y t u h1 hy hf)
    (hq [(x,t)] _ ((if_neg (ne_true_of_eq_false h1)).trans (if_pos hf)).symm)
 .exact p6 Kk (typeIs_str _ _ _) R0 (R1 _ _) (meets_str_split_cannot_occur x y t u h1)
   (hq [(x,t)] _ (if_pos h1).symm)
def zJ{sep:Str}{j}{cp apos b6:Pos}(he:PD X e g)
 (j9:uU e "split" X.env (eval e X.env)=eval e X.env:=by rfl)
 (mK:((cD b6 (a8 [.Constant (.str sep) j cp] X.env)).all (λx=>!x.1)&&(uF b6 (uG [] X.env)).all (λx=>x.1.isSome)
   && decide ([Expr.Constant (.str sep) j cp].length+([]:List lq).length+(if ([]:List lq).isEmpty then 0 else 1)<30))=true:=by rfl)
 (kZ:(apos.endLine==b6.line)=true:=by rfl) (hs:a8 [.Constant (.str sep) j cp] X.env=(false,eval (.Constant (.str sep) j cp) X.env)::a8 [] X.env:=by rfl) :
 PF X (.Call (.Attribute e "split" apos) [.Constant (.str sep) j cp] [] b6) (oh sep g):=by
 refine⟨λzn s σ H F O I fo rl hg=>?_⟩
 refine DI j9 mK kZ rfl (aq (he.run zn s σ H F O I fo rl (R.left hg)) (λv s1 ⟨dl,vl,H1,e1,I1,r1,S1,i1⟩=>?_) λ_ _ x=>x.bind _)
 have aN:=R.next hg e1
 cases dl with
 | str x =>
   obtain⟨⟨hx,hy⟩,e3⟩:=R.cK (show R.guard (x.length<=100000/\(sep.length==0)=false) (R.ok ((bW x sep).map D.str)) ≠ .no from aN)
   cases Is.fW.mp i1
   obtain⟨t,rfl⟩:=r1
   refine⟨"str",_,a4y,Kk,PySem.F.type_str_split,typeIs_str _ _ _,(λ_ e=>nomatch e),?_⟩
   rw[hs]
   refine As rfl (xB ?_)
   show au _ _ (fJ ((false,eval (.Constant (.str sep) j cp) X.env)::cD b6 [])) _ _ s1
   refine gF (QD (jz ?_))
   have hy1:1<=sep.length:=by
    have:sep.length≠0:=by simpa using hy
    lia
   have hw:=split_weight x sep hy1
   have sm:=oW
   refine x3o (s:={ s1 with toks:=s1.toks+1 }) hy (λlt k dt=>?_) (by lia) (by rw[length_partsBetween];have:=StrLaws.occ_length_le x sep 0 x.length (x.length+1);lia)
   have O7:lt.length=(bW x sep).length:=by rw[<-dt,aZ]
   have jh:s1.heap.objs.size<=s1.heap.objs.size:=a9 _
   have eO:H1 s1.heap.objs.size=none:=I1.aU.fresh jh
   have kp:∀b u,s1.heap.get? b=some u->(s1.heap.push { cls:=.type "list",data:=.seq (kH lt).toArray }).get? b=some u:=λb u h=>eX _ h
   have I2:Inv X zn σ (upd H1 s1.heap.objs.size (.lst ((lt.map (·.1)).map V.str))) { s1 with toks:=k,heap:=s1.heap.push { cls:=.type "list",data:=.seq (kH lt).toArray } } :=
    I1.laid (t':=k) kp jh (show jB X.prog X.w _ _ _ (.lst ((lt.map (·.1)).map V.str)) from⟨by rw[aZ,aZ,O7];lia,kH lt,_,O5 lt,g0 _ rfl⟩)
   have S2:=gY eO (.lst ((lt.map (·.1)).map V.str))
   refine⟨(bW x sep).map D.str,s1.heap.objs.size,(lt.map (·.1)).map V.str,_,(R.step e1 _).trans e3,I2,rfl,S1.trans S2,S1.free eO,dg,?_⟩
   rw[<-dt]
   exact O6 _
 | _=>exact absurd rfl aN
end
def O8(x:Str):It:=⟨λi _=>i<x.cps.size,λi H v H'=>H'=H/\∃c,x.cps[i]? = some c/\v = .str ⟨#[c]⟩,λi _=>x.cps.size<=i⟩
def x5d{P:a5}{w:aX}{K:aD}{tg:Expr}{n:String}(hn:n="str_ascii_iterator"∨n="str_iterator")(it:Addr)(x:Str)(t:Tok):Turn P w K tg (O8 x) [it] it (λi h=>h.IsStrIter it n x t i):=by
 have W:∀(A:Around),A.handled=none->Walks P w A it [it] [it] x.cps.size (SignAt x) (λi h=>h.IsStrIter it n x t i):=λA hA=>by
  rcases hn with rfl | rfl
  .exact Walks.strAscii hA it x t
  .exact Walks.strWide hA it x t
 exact {
  mem:=by simp
  obj:=λi h st b hb=>by
   have e:b=it:=by simpa using hb
   subst e
   obtain⟨o,e,c,d⟩:=st
   exact⟨o,e,λv z=>by rw[d] at z;cases z⟩
  keep:=λi h h' st k=>let ⟨o,ho,r⟩:=st;⟨o,k it (by simp) o ho,r⟩
  item:=by
   intro X hP hw hK hc i zn s σ H E I hf st hg
   subst hP hw hK
   obtain⟨f0,f1,f2,f3,f4,f5⟩:=hf it (by simp)
   refine(W X.A (I.ok.hd hc)).item i s _ _ hg st λv h' tk hv km kk=>?_
   obtain⟨c,u,uZ,rfl⟩:=hv
   have I1:Inv X zn σ H { s with heap:=h',toks:=tk }:=I.turned (λb o hb e=>kk b o (by simpa using hb) e) f0 f1 f3 f4 f5
   obtain⟨o,e,c',d⟩:=id km
   exact⟨_,rfl,xK (s:={ s with heap:=h',toks:=tk }) e c' d (by rcases hn with rfl | rfl<;>decide) ⟨.str ⟨#[c]⟩,H,I1,⟨u,rfl⟩,⟨rfl,c,uZ,rfl⟩,km,λb hb=>(hf b hb).1⟩⟩
  done:=by
   intro X hP hw hK hc i zn s σ H E I hf st hg
   subst hP hw hK
   obtain⟨f0,f1,f2,f3,f4,f5⟩:=hf it (by simp)
   have hx:x.cps[i]? = none:=Array.getElem?_eq_none hg
   rcases hn with rfl | rfl
   .exact wpAny_pyNext_ascii_end (I.ok.hd hc) st hx λh' eb=>⟨rfl,I.turned (t':=s.toks) (λb o hb e=>eb b o hb e) f0 f1 f3 f4 f5⟩
   .exact wpAny_pyNext_wide_end (I.ok.hd hc) st hx λh' eb=>⟨rfl,I.turned (t':=s.toks) (λb o hb e=>eb b o hb e) f0 f1 f3 f4 f5⟩
  self:=λA i s Q E st h=>by
   rcases hn with rfl | rfl
   .exact wpAny_pyIter_striter_ascii st h
   .exact wpAny_pyIter_striter_wide st h }
def w5e{K:aD}{H:Hp}{F:List Addr}(x:Str):JC K H F (O8 x) (kQ x):=λH1 S=>by
 have hl:(kQ x).length=x.cps.size:=by unfold kQ;simp
 rw[hl]
 refine⟨λj hj=>⟨hj,λv H2 y=>⟨y.1,?_⟩⟩,a9 _⟩
 obtain⟨_,c,hc,rfl⟩:=y
 refine⟨.str ⟨#[c]⟩,?_,Is.fW.mpr rfl⟩
 unfold kQ
 rw[jO,QZ,hc];rfl
section
variable {X:Cx}{tg a:Expr}{ga:G->R D}
def w0d(ha:PD X a ga):wo X tg a (y1t ga):=by
 refine⟨λzn s σ H F O I fo rl hg=>?_⟩
 refine aq (ha.run zn s σ H F O I fo rl (R.left hg)) (λv s1 ⟨d,x,H1,e1,I1,r1,S1,i1⟩=>?_) λ_ _ x=>x.bind _
 have aN:=R.next hg e1
 cases d with
 | str z =>
   obtain⟨hz,e2⟩:=R.cK (show R.guard (z.length<=100000) (.ok (kQ z)) ≠ .no from aN)
   cases Is.fW.mp i1
   obtain⟨t,rfl⟩:=r1
   have fin:∀(n:String) (o:Obj),(n="str_ascii_iterator"∨n="str_iterator")->(s1.heap.push o).IsStrIter s1.heap.objs.size n z t 0->∃(ds:List D) (it:Addr) (fp:List Addr) (tn:Nat->Heap->Prop) (J:It) (H':Hp),y1t ga O = .ok ds/\dS s1.heap.objs.size = .ref it/\Inv X zn σ H' { s1 with heap:=s1.heap.push o }/\aT H H' /\
    Turn X.prog X.w X.K tg J fp it tn/\tn 0 (s1.heap.push o)/\(∀b∈fp,iY X zn H' b)/\JC X.K H' F J ds:=λn o hn st =>
    ⟨kQ z,s1.heap.objs.size,_,_,_,H1,(R.step e1 _).trans e2,rfl,I1.kept (t':=s1.toks) λb o e=>eX _ e,S1,x5d hn _ z t,st,λb hb=>by
      have e:b=s1.heap.objs.size:=by simpa using hb
      subst e
      exact I1.xJ (a9 _) (I1.aU.fresh (a9 _)),w5e z⟩
   cases hq:z.cps.all (·<128)
   .exact wpAny_pyIter_wide hq (fin _ _ (.inr rfl) ⟨_,g0 _ rfl,rfl,rfl⟩)
   .exact wpAny_pyIter_ascii hq (fin _ _ (.inl rfl) ⟨_,g0 _ rfl,rfl,rfl⟩)
 | _=>exact absurd rfl aN
end
def nK(l:Addr)(H H':Hp):Prop:=∀b o,b≠l->H b=some o->H' b=some o
def O9(K:aD)(mg:Str->Option Value)(i:Nat)(φ:List D->R (D×List D)):Sp:=λvs H Q E=>∃as bs xs ys ws l zs,vs=xs ++ .ref l::ys/\as.length=i/\ao K (aM [l] H) as xs/\ao K (aM [l] H) bs ys/\H l=some (.lst zs)/\ao K (aM [l] H) ws zs /\
 φ (as ++ .lst ws::bs) ≠ .no/\(∀d gu v H' i8,φ (as ++ .lst ws::bs) = .ok (d,gu)->nK l H H'->H' l=some (.lst i8)->ao K (aM [l] H') gu i8->Is K (aM [l] H') d v->Q v H')/\∀c C H',φ (as ++ .lst ws::bs) = .er c->mg c.nm=some (.ref C)->nK l H H'->E (.ref C) (tg c) H'
structure pV (P:a5) (w:aX) (K:aD) (mg:Str->Option Value) (base:Heap) (k:Nat) (f:Addr) (fd:cw) (ps:List Str) (i:Nat) (φ:List D->R (D×List D)):Prop where
 ok:jT P w K mg base (nE P w) k f fd ps (O9 K mg i φ)
 binds:kL K fd ps []
 kp:w_ K (.ref f)=true
def pV.mono{P:a5}{w:aX}{K:aD}{mg:Str->Option Value}{base:Heap}{j k:Nat}{f:Addr}{fd:cw}{ps:List Str}{i:Nat}{φ:List D->R (D×List D)}(F:pV P w K mg base j f fd ps i φ)(h:j<=k):pV P w K mg base k f fd ps i φ:=⟨F.ok.mono h,F.binds,F.kp⟩
section
variable {X:Cx}{e:Expr}{es:List Expr}{g:G->R D}{gs:G->R (List D)}{pos p:Pos}{x:Str}
structure zK (X:Cx) (i w:Nat) (es:List Expr) (g:G->R (List D)):Prop where
 run:∀(pos:Pos) (zn:List (Addr×Obj)) (s:ah) (σ:St) (H:Hp) (F:List Addr) (O:G),Inv X zn σ H s->bC H F->Rel X.K H F O σ->g O ≠ .no ->
  au (aF X.prog X.w) X.A (fJ (cD pos (a8 es X.env))) (λus s'=>∃as bs xs ys ws l H',g O = .ok (as ++ .lst ws::bs)/\Inv X zn σ H' s'/\Vals (xs ++ .ref l::ys) us/\aT H H'/\as.length=i/\O[w]? = some (.own ws)/\σ[w]? = some (some (.ref l)) /\
   ao X.K (aM F H') as xs/\ao X.K (aM F H') bs ys) (bP X zn σ H (g O)) s
def pW{i w:Nat}(ha:iP X e g)(hr:zK X i w es gs)(hs:a8 (e::es) X.env=(false,eval e X.env)::a8 es X.env:=by rfl):zK X (i+1) w (e::es) (ae g gs):=by
 refine⟨λpos zn s σ H F O I fo rl hg=>?_⟩
 rw[hs]
 show au _ _ (fJ ((false,eval e X.env)::cD pos (a8 es X.env))) _ _ s
 refine gF (aq (ha.run zn s σ H F O I fo rl (R.left hg)) (λu s1 ⟨d,x,H1,e1,I1,r1,S1,i1⟩=>?_) λ_ _ x=>x.bind _)
 have aN:=R.next hg e1
 refine aq (hr.run pos zn s1 σ H1 F O I1 (fo.same S1) (rl.same S1) (R.left aN)) (λus s2 ⟨as,bs,xs,ys,ws,l,H2,e2,I2,r2,S2,hl,hw,jy,j1,j2⟩=>?_) λ_ _ x=>bP.later e1 S1 (x.bind _)
 refine⟨d::as,bs,x::xs,ys,ws,l,H2,?_,I2,.cons r1 r2,S1.trans S2,by rw[a3,hl],hw,jy,ao.cons (i1.same (kA S2)) j1,j2⟩
 exact(R.step e1 _).trans ((R.step e2 _))
def nM(w:Nat)(hN:X.N[w]? = some x)(hr:wF X es gs)(hv:nX X.env.scope x:=by first | exact iu rfl | exact fu (iu rfl) | exact fu (fu rfl))(hd:(x==("__debug__":Str))=false:=by decide)(eA:(x==("__classdict__":Str))=false:=by decide)
 (hs:a8 (.Name x p::es) X.env=(false,eval (.Name x p) X.env)::a8 es X.env:=by rfl):zK X 0 w (.Name x p::es) (z4u w gs):=by
 show zK X 0 w (.Name x p::es) (λO=>match O[w]? with | some (.own ws)=>gs O>>=λbs=>.ok (.lst ws::bs) | _=>.no)
 refine⟨λpos zn s σ H F O I fo rl hg=>?_⟩
 cases hw:O[w]? with
 | none=>rw[hw] at hg;exact absurd rfl hg
 | some en =>
   cases en with
   | no=>rw[hw] at hg;exact absurd rfl hg
   | ro d=>rw[hw] at hg;exact absurd rfl hg
   | own ws =>
     rw[hw] at hg
     dsimp only at hg ⊢
     obtain⟨l,zs,jy,hF,hH,rj⟩:=rl.own w ws hw
     rw[hs]
     show au _ _ (fJ ((false,eval (.Name x p) X.env)::cD pos (a8 es X.env))) _ _ s
     refine gF (aq (rU (X:=X.b5) hN hv hd eA zn s σ H (λv' H'=>v' = .ref l/\H'=H) (I.dv _) ⟨.ref l,jy,rfl,rfl⟩) (λu s1 ⟨v',H',I',r,e1,e2⟩=>?_) λ_ _ z=>cC z)
     subst e1 e2
     refine aq (hr.run pos zn s1 σ H' F O I'.fK fo rl (R.left hg)) (λus s2 ⟨bs,ys,H2,e2,I2,r2,S2,j2⟩=>?_) λ_ _ x=>x.bind _
     exact⟨[],bs,[],ys,ws,l,H2,R.step e2 _,I2,.cons r r2,S2,rfl,by first | exact hw | rfl,jy,ao.nil,j2⟩
def HY(X:Cx)(w:Nat)(zn:List (Addr×Obj))(σ:St)(H:Hp)(F:List Addr)(O:G)(r:R (D×List D))(u:Value)(s':ah):Prop :=
 ∃d ws v H',r = .ok (d,ws)/\Inv X zn σ H' s'/\RelV v u/\bC H' F/\Rel X.K H' F (O.set w (.own ws)) σ/\Ext H F H' F/\Is X.K (aM F H') d v/\w<O.length
def XM{α:Type}(X:Cx)(w:Nat)(zn:List (Addr×Obj))(σ:St)(H:Hp)(F:List Addr)(O:G)(r:R α)(x:Value)(s':ah):Prop:=∃c H' F',r = .er c/\kW X zn σ H' c x s'/\bC H' F'/\Rel X.K H' F' (O.set w .no) σ/\Ext H F H' F'
def Rel.O_{K:aD}{H:Hp}{F:List Addr}{O:G}{σ:St}(w:Nat)(r:Rel K H F O σ):Rel K H F (O.set w .no) σ:=by
 have old:∀(j:Nat) (en:En),(O.set w .no)[j]? = some en->en ≠ .no->O[j]? = some en:=λj en h hn=>by
  by_cases e:w=j
  .subst e
   by_cases q:w<O.length
   .rw[g7 q] at h;cases h;exact absurd rfl hn
   .rw[kG (by rw[ip];lia)] at h;cases h
  .rw[d_ e] at h;exact h
 exact⟨by rw[ip,r.len],λj d h=>r.ro j d (old j _ h (λz=>nomatch z)),λj ds h=>r.own j ds (old j _ h (λz=>nomatch z)),λj k ds es a h1 h2=>r.inj j k ds es a (old j _ h1 (λz=>nomatch z)) (old k _ h2 (λz=>nomatch z))⟩
def bP.xm{α:Type}{w:Nat}{zn:List (Addr×Obj)}{σ:St}{H:Hp}{F:List Addr}{O:G}{r:R α}{x:Value}{s':ah}(fo:bC H F)(rl:Rel X.K H F O σ)(h:bP X zn σ H r x s'):XM X w zn σ H F O r x s':=by
 obtain⟨c,H',e,S,fl⟩:=h
 exact⟨c,H',F,e,fl,fo.same S,(rl.same S).O_ w,.of_same S⟩
def XM.map{α β:Type}{w:Nat}{zn:List (Addr×Obj)}{σ:St}{H H1:Hp}{F F1:List Addr}{O dh:G}{r:R α}{q:R β}{x:Value}{s':ah}(h:XM X w zn σ H1 F1 dh r x s')(E:Ext H F H1 F1)(hg:dh.set w .no=O.set w .no)(hq:∀c,r = .er c->q = .er c):XM X w zn σ H F O q x s':=by
 obtain⟨c,H',F',e,fl,fo,rl,E'⟩:=h
 exact⟨c,H',F',hq c e,fl,fo,by rw[<-hg];exact rl,E.trans E'⟩
def XM.st{w:Nat}{zn:List (Addr×Obj)}{σ:St}{H:Hp}{F:List Addr}{O:G}{r:R (D×List D)}{k:D->List D->R Fl}{x:Value}{s':ah}(h:XM X w zn σ H F O r x s'):nG X zn H F (stM w O r k) x s':=by
 obtain⟨c,H',F',e,fl,fo,rl,E⟩:=h
 exact⟨c,_,σ,H',F',by rw[e];rfl,fl,fo,rl,E⟩
structure oP (X:Cx) (w:Nat) (e:Expr) (g:G->R (D×List D)):Prop where
 run:∀(zn:List (Addr×Obj)) (s:ah) (σ:St) (H:Hp) (F:List Addr) (O:G),Inv X zn σ H s->bC H F->Rel X.K H F O σ->g O ≠ .no ->
  au (aF X.prog X.w) X.A (eval e X.env) (HY X w zn σ H F O (g O)) (XM X w zn σ H F O (g O)) s
def Pa{zn:List (Addr×Obj)}{σ:St}{H H1:Hp}{F0:List Addr}{s s':ah}(I:Inv X zn σ H s)(sW:bC H F0)(os:s'.os=s.os)(bare:nS s'.gens)(un:Un (du X.stack) [] (aM F0 H) H1 s.heap s'.heap)(aU:eh X.prog X.w H1 s'.heap) :
 ∃H2:Hp,Inv X zn σ H2 s'/\(∀b∈F0,H2 b=H b)/\(∀b,b ∉ F0->H2 b=H1 b)/\∀b∈F0,H1 b=none:=by
 have nh:∀{b:Addr},H b=none->aM F0 H b=none:=λ{b} q=>by
  by_cases hb:b∈F0
  .exact qP hb
  .rw[dc hb];exact q
 have e0:=I.vd
 have own:∀b,b∈F0->∃ys xL n,H b=some (.lst ys)/\ys.length<=bK/\Vals ys xL/\s'.heap.get? b=some { cls:=.type "list",data:=.seq xL.toArray n }/\H1 b=none:=λb hb=>by
  obtain⟨ys,ey⟩:=sW b hb
  obtain⟨z,xL,n,uu,gt⟩:=I.aU b _ ey
  exact⟨ys,xL,n,ey,z,uu,un.keep b _ gt (qP hb) (λz=>by rw[e0.mj b z] at ey;cases ey) (by simp),un.free b _ gt (qP hb) (by simp)⟩
 let H2:Hp:=λb=>if b∈F0 then H b else H1 b
 have oO:∀{b},b∈F0->H2 b=H b:=λ{b} h=>if_pos h
 have gZ:∀{b},b ∉ F0->H2 b=H1 b:=λ{b} h=>if_neg h
 have up:∀{b o},H1 b=some o->b ∉ F0/\H2 b=some o:=λ{b o} q=>by
  have hb:b ∉ F0:=λz=>by obtain⟨_,_,_,_,_,_,_,z2⟩:=own b z;rw[q] at z2;cases z2
  exact⟨hb,(gZ hb).trans q⟩
 have uv:∀{b o},H b=some o->(∀ys,o ≠ .lst ys)->b ∉ F0:=λ{b o} q n z=>by obtain⟨ys,e⟩:=sW b z;rw[q] at e;cases e;exact n ys rfl
 have HN:Un (du X.stack) [] H H2 s.heap s'.heap:=by
  refine⟨λb o q n=>un.keep b o q (nh n),λb o q n=>un.slot b o q (nh n),λb o q n hx=>?_,un.there,λb ys q=>?_,λb o u q=>?_,λb ps q=>?_⟩
  .have hb:b ∉ F0:=λz=>by obtain⟨ys,e⟩:=sW b z;rw[n] at e;cases e
   rw[gZ hb];exact un.free b o q (nh n) hx
  .have hb:=uv q λys z=>nomatch z
   rw[gZ hb];exact un.mf b ys (by rw[dc hb];exact q)
  .have hb:=uv q λys z=>nomatch z
   rw[gZ hb];exact un.lu b o u (by rw[dc hb];exact q)
  .have hb:=uv q λys z=>nomatch z
   rw[gZ hb];exact un.mh b ps (by rw[dc hb];exact q)
 have HP:eh X.prog X.w H2 s'.heap:=λb u q=>by
  by_cases hb:b∈F0
  .obtain⟨ys,xL,n,ey,z,uu,gt,_⟩:=own b hb
   rw[oO hb,ey] at q
   cases q
   exact⟨z,xL,n,uu,gt⟩
  .rw[gZ hb] at q
   exact(aU b u q).kJ (λc v _ e=>e) (λc e=>(up e).2) λc ys e=>(up e).2
 exact⟨H2,I.DZ os HN HP bare (λb z=>absurd z (by simp)),λb hb=>oO hb,λb hb=>gZ hb,λb hb=>(own b hb).choose_spec.choose_spec.choose_spec.2.2.2.2⟩
def runM{k:Nat}{f:Addr}{fd:cw}{ps:List Str}{i:Nat}{φ:List D->R (D×List D)}(Fn:pV X.prog X.w X.K X.mg X.base k f fd ps i φ)(hr:dM k X.A)(hex:X.ex=[]){zn:List (Addr×Obj)}{σ:St}{H:Hp}{F:List Addr}{s:ah}{us:List Value}{as bs ws:List D}{xs ys:List V}{l:Addr}{zs:List V}
 (I:Inv X zn σ H s) (fo:bC H F) (r:Vals (xs ++ .ref l::ys) us) (hi:as.length=i) (j1:ao X.K (aM F H) as xs) (j2:ao X.K (aM F H) bs ys) (hF:l∈F) (hH:H l=some (.lst zs)) (j3:ao X.K (aM F H) ws zs) (hg:φ (as ++ .lst ws::bs) ≠ .no) :
 au (aF X.prog X.w) X.A (call (.ref f) us) (λu s'=>∃d gu v H' i8,φ (as ++ .lst ws::bs) = .ok (d,gu)/\Inv X zn σ H' s'/\RelV v u/\nK l H H'/\H' l=some (.lst i8)/\ao X.K (aM F H') gu i8/\Is X.K (aM F H') d v) (λx s'=>∃c H',φ (as ++ .lst ws::bs) = .er c/\nK l H H'/\kW X zn σ H' c x s') s:=by
 let F0:=F.filter (·≠l)
 have m0:∀{b},b∈F0↔b∈F/\b≠l:=λ{b}=>by simp[F0]
 have lF0:l ∉ F0:=λz=>(m0.mp z).2 rfl
 have sW:bC H F0:=λb hb=>fo b (m0.mp hb).1
 have sub:aT (aM F H) (aM [l] (aM F0 H)):=λb o h=>by
  obtain⟨h1,h2⟩:=jr h
  have fH:b≠l:=λz=>h1 (by rw[z];exact hF)
  rw[dc (by simpa using fH),dc λz=>h1 (m0.mp z).1];exact h2
 have eB:O9 X.K X.mg i φ (xs ++ .ref l::ys) (aM F0 H) (λv H'=>∃d gu i8,φ (as ++ .lst ws::bs) = .ok (d,gu)/\nK l (aM F0 H) H'/\H' l=some (.lst i8)/\ao X.K (aM [l] H') gu i8/\Is X.K (aM [l] H') d v) (λC' o H'=>∃c C,C' = .ref C/\o=tg c/\φ (as ++ .lst ws::bs) = .er c/\X.mg c.nm=some (.ref C)/\nK l (aM F0 H) H') :=
  ⟨as,bs,xs,ys,ws,l,zs,rfl,hi,j1.same sub,j2.same sub,by rw[dc lF0];exact hH,j3.same sub,hg,λd' w' v H' i8 e B hl jw jd=>⟨d',w',i8,e,B,hl,jw,jd⟩,λc C H' e hm B=>⟨c,C,rfl,rfl,e,hm,B⟩⟩
 have hl:us.length=ps.length:=by rw[<-r.length];exact Fn.ok.len _ _ _ _ eB
 have hb:=Fn.binds s us I.gH (by rw[kE];exact hl)
 rw[kE] at hb
 have nh:∀{b:Addr},H b=none->aM F0 H b=none:=λ{b} q=>by
  by_cases hb:b∈F0
  .exact qP hb
  .rw[dc hb];exact q
 have e0:=I.vd
 have en:vc X.prog X.w X.K X.mg X.base X.A X.stack s (aM F0 H):=⟨e0.frames,e0.mod,λb o q=>⟨(e0.bs b o q).1,nh (e0.bs b o q).2⟩,e0.mi,e0.kj,λb hb=>nh (e0.mj b hb),OM sW e0.aU,e0.bare⟩
 have but:∀{H1 H2:Hp},(∀b∈F0,H2 b=H b)->(∀b,b ∉ F0->H2 b=H1 b)->nK l (aM F0 H) H1->nK l H H2:=λ{H1 H2} oO gZ B b o fH q=>by
  by_cases hb:b∈F0
  .rw[oO b hb];exact q
  .rw[gZ b hb];exact B b o fH (by rw[dc hb];exact q)
 refine Ao (p8 (Fn.ok.run X.A X.stack s (aM F0 H) ⟨us,[]⟩ us _ _ _ hr en hb r eB) λr' s' hq=>?_)
 cases r' with
 | error u =>
   obtain⟨e,C,T,oe,oT,vs,ts,H1,o,rfl,os,bare,un,aU,yY,we,qU,yZ,y0,y_,hv,za,wg,zb,zc,zd,sI,c,C',eC,eo,er,hm,B⟩:=hq
   cases eC
   subst eo
   obtain⟨H2,I2,oO,gZ,_⟩:=Pa I sW os bare un aU
   have nF:∀q:Addr,s.heap.get? q=none->q ∉ F0:=λq hq z=>by
    obtain⟨ys,ey⟩:=sW q z
    obtain⟨_,xL,n,_,gt⟩:=I.aU q _ ey
    rw[hq] at gt;cases gt
   obtain⟨f1,f2,f3,f4⟩:=I.gone hex we
   obtain⟨g1,g2,g3,g4⟩:=I.gone hex wg
   exact⟨c,H2,er,but oO gZ B,I2,e,C,oe,vs,rfl,hm,by rw[gZ e (nF e we)];exact yY,f1,f2,f3,f4,qU,yZ,y0,y_,.inr ⟨T,oT,ts,hv,by rw[gZ T (nF T wg)];exact za,g1,g2,g3,g4,zb,zc,zd,.inl sI⟩⟩
 | ok fl =>
   cases fl with
   | ret u =>
     obtain⟨v,H1,os,bare,un,aU,rv,d,gu,i8,ed,B,wI,jw,jd⟩:=hq
     obtain⟨H2,I2,oO,gZ,a0j⟩:=Pa I sW os bare un aU
     have up:∀{b o},H1 b=some o->b ∉ F0/\H2 b=some o:=λ{b o} q=>by
      have hb:b ∉ F0:=λz=>by rw[a0j b z] at q;cases q
      exact⟨hb,(gZ b hb).trans q⟩
     have Sx:aT (aM [l] H1) (aM F H2):=λb o q=>by
      obtain⟨q1,q2⟩:=jr q
      have fH:b≠l:=by simpa using q1
      have hb:=up q2
      rw[dc λz=>hb.1 (m0.mpr ⟨z,fH⟩)];exact hb.2
     exact⟨d,gu,v,H2,i8,ed,I2,rv,but oO gZ B,(up wI).2,jw.same Sx,jd.same Sx⟩
   | next=>exact cC hq
   | brk=>exact cC hq
   | cont=>exact cC hq
def Rel.a0k{K:aD}{H H':Hp}{F:List Addr}{O:G}{σ:St}{w:Nat}{ws:List D}{l:Addr}(r:Rel K H F O σ)(fo:bC H F)(e:O[w]? = some (.own ws))(ea:σ[w]? = some (some (.ref l)))(hF:l∈F)(B:nK l H H'):Rel K H' (F.filter (·≠l)) (O.set w .no) σ/\bC H' (F.filter (·≠l))/\Ext H F H' (F.filter (·≠l)):=by
 have m0:∀{b},b∈F.filter (·≠l)↔b∈F/\b≠l:=λ{b}=>by simp
 have S:aT (aM F H) (aM (F.filter (·≠l)) H'):=λb o h=>by
  obtain⟨q1,q2⟩:=jr h
  rw[dc λz=>q1 (m0.mp z).1]
  exact B b o (λz=>q1 (by rw[z];exact hF)) q2
 have hi:w<O.length:=(List.getElem?_eq_some_iff.mp e).1
 have old:∀(j:Nat) (en:En),(O.set w .no)[j]? = some en->en ≠ .no->w≠j/\O[j]? = some en:=λj en h hn=>by
  by_cases ej:w=j
  .subst ej;rw[g7 hi] at h;cases h;exact absurd rfl hn
  .rw[d_ ej] at h;exact⟨ej,h⟩
 refine⟨⟨by rw[ip,r.len],λj d h=>?_,λj es h=>?_,λj k dR sQ b h1 h2 h3 h4=>r.inj j k dR sQ b (old j _ h1 (λz=>nomatch z)).2 (old k _ h2 (λz=>nomatch z)).2 h3 h4⟩,λb hb=>?_,⟨λb o hb q=>B b o (λz=>hb (by rw[z];exact hF)) q,λb hb=>.inl (m0.mp hb).1⟩⟩
 .obtain⟨v,q1,q2⟩:=r.ro j d (old j _ h (λz=>nomatch z)).2
  exact⟨v,q1,q2.same S⟩
 .obtain⟨ej,h'⟩:=old j _ h (λz=>nomatch z)
  obtain⟨b,ys,q1,q2,q3,q4⟩:=r.own j es h'
  have fH:b≠l:=λz=>ej (r.inj w j ws es l e h' ea (by rw[<-z];exact q1))
  exact⟨b,ys,q1,m0.mpr ⟨q2,fH⟩,B b _ fH q3,q4.same S⟩
 .obtain⟨xs,q⟩:=fo b (m0.mp hb).1
  exact⟨xs,B b _ (m0.mp hb).2 q⟩
def Rel.but{K:aD}{H H':Hp}{F:List Addr}{O:G}{σ:St}{w:Nat}{ws gu:List D}{l:Addr}{i8:List V}(r:Rel K H F O σ)(fo:bC H F)(e:O[w]? = some (.own ws))(ea:σ[w]? = some (some (.ref l)))(B:nK l H H')(hl:H' l=some (.lst i8))(iv:ao K (aM F H') gu i8):Rel K H' F (O.set w (.own gu)) σ/\bC H' F/\Ext H F H' F:=by
 obtain⟨a',zs,h1,hF,h3,h4⟩:=r.own w ws e
 rw[ea] at h1;cases h1
 have S:aT (aM F H) (aM F H'):=λb o h=>by
  obtain⟨q1,q2⟩:=jr h
  rw[dc q1]
  exact B b o (λz=>q1 (by rw[z];exact hF)) q2
 have hi:w<O.length:=(List.getElem?_eq_some_iff.mp e).1
 refine⟨⟨by rw[ip,r.len],λj d' h=>?_,λj es h=>?_,λj k dR sQ b h1 h2 Hc Hd=>?_⟩,λb hb=>?_,⟨λb o hb q=>B b o (λz=>hb (by rw[z];exact hF)) q,λb hb=>.inl hb⟩⟩
 .by_cases ej:w=j
  .subst ej;rw[g7 hi] at h;cases h
  .rw[d_ ej] at h
   obtain⟨v,q1,q2⟩:=r.ro j d' h
   exact⟨v,q1,q2.same S⟩
 .by_cases ej:w=j
  .subst ej;rw[g7 hi] at h;cases h
   exact⟨l,i8,ea,hF,hl,iv⟩
  .rw[d_ ej] at h
   obtain⟨b,ys,q1,q2,q3,q4⟩:=r.own j es h
   exact⟨b,ys,q1,q2,B b _ (λz=>ej (r.inj w j ws es l e h ea (by rw[<-z];exact q1))) q3,q4.same S⟩
 .have old:∀(m:Nat) (cJ:List D),(O.set w (En.own gu))[m]? = some (En.own cJ)->∃He,O[m]? = some (En.own He):=λm cJ h=>by
   by_cases el:w=m
   .subst el;exact⟨ws,e⟩
   .rw[d_ el] at h;exact⟨cJ,h⟩
  obtain⟨e1,q1⟩:=old j dR h1
  obtain⟨e2,q2⟩:=old k sQ h2
  exact r.inj j k e1 e2 b q1 q2 Hc Hd
 .by_cases z:b=l
  .rw[z];exact⟨i8,hl⟩
  .obtain⟨xs,q⟩:=fo b hb
   exact⟨xs,B b _ z q⟩
def nO{k i w:Nat}{f:Addr}{fd:cw}{ps:List Str}{φ:List D->R (D×List D)}(Fn:pV X.prog X.w X.K X.mg X.base k f fd ps i φ)(hr:dM k X.A)(hm:X.mg x=some (.ref f))(ha:zK X i w (e::es) gs)(hex:X.ex=[]:=by rfl)(hg:Gl X x:=by rfl)(ib:(x==("__debug__":Str))=false:=by decide)
 (he:a8 (e::es) X.env=(false,eval e X.env)::a8 es X.env:=by rfl) (gI:(cD pos (a8 es X.env)).any (·.1)=false:=by rfl):oP X w (.Call (.Name x p) (e::es) [] pos) (gq φ gs):=by
 refine⟨λzn s σ H F O I fo rl bR=>?_⟩
 refine mQ (mS I hg hm ?_ ib)
 refine Ap (h₀:=X.base) I.ok.mod.o5 Fn.kp (aq (ha.run pos zn s σ H F O I fo rl (R.left bR)) (λus s1 ⟨as,bs,xs,ys,ws,l,H1,f1,I1,r1,S1,hi,hw,jy,j1,j2⟩=>⟨I1.gH,?_⟩) λ_ _ x=>(x.bind _).xm fo rl) he gI
 obtain⟨a',zs,h1,hF,h3,h4⟩:=(rl.same S1).own w ws hw
 rw[jy] at h1;cases h1
 have e2:gq φ gs O=φ (as ++ .lst ws::bs):=R.step f1 _
 rw[e2] at bR ⊢
 refine aq (runM Fn hr hex I1 (fo.same S1) r1 hi j1 j2 hF h3 h4 bR) (λu s2 ⟨d,gu,v,H2,i8,ed,I2,rv,B,hl,jw,jd⟩=>?_) λx s2 ⟨c,H2,er,B,fl⟩=>?_
 .obtain⟨R2,F2,E2⟩:=(rl.same S1).but (fo.same S1) hw jy B hl jw
  exact⟨d,gu,v,H2,ed,I2,rv,F2,R2,(Ext.of_same S1).trans E2,jd,(List.getElem?_eq_some_iff.mp hw).1⟩
 .obtain⟨R2,F2,E2⟩:=(rl.same S1).a0k (fo.same S1) hw jy hF B
  exact⟨c,H2,_,er,fl,F2,R2,(Ext.of_same S1).trans E2⟩
end
def XW(X:Cx)(zn:List (Addr×Obj))(H:Hp)(F:List Addr)(r:R (D×List D))(x:Value)(s':ah):Prop:=∃c aO H' F',r = .er c/\kW X zn aO H' c x s'/\Ext H F H' F'
def zL(X:Cx)(i:Nat)(zn:List (Addr×Obj))(σ:St)(H:Hp)(F:List Addr)(r:R (D×List D))(u:Value)(s':ah):Prop:=∃d ws v aO H' F' l zs,r = .ok (d,ws)/\Inv X zn aO H' s'/\RelV v u/\Ext H F H' F'/\σ[i]? = some (some (.ref l))/\H' l=some (.lst zs)/\l∈F'/\ao X.K (aM F' H') ws zs/\Is X.K (aM F' H') d v
structure PW (X:Cx) (i:Nat) (b:List Stmt) (g:G->R (D×List D)):Prop where
 run:∀(zn:List (Addr×Obj)) (s:ah) (σ:St) (H:Hp) (F:List Addr) (O:G),Inv X zn σ H s->bC H F->Rel X.K H F O σ->g O ≠ .no ->
  au (aF X.prog X.w) X.A (uD b X.env) (λfl s'=>∃u,fl = .ret u/\zL X i zn σ H F (g O) u s') (XW X zn H F (g O)) s
section
variable {X:Cx}{e c:Expr}{g:G->R D}{pos pos':Pos}{st:Stmt}{rest:List Stmt}{t:G->R Fl}{u v:G->R (D×List D)}{i:Nat}
def bP.xw{zn:List (Addr×Obj)}{σ:St}{H:Hp}{F:List Addr}{r:R (D×List D)}{x:Value}{s':ah}(h:bP X zn σ H r x s'):XW X zn H F r x s':=by
 obtain⟨c,H',e,S,fl⟩:=h
 exact⟨c,σ,H',F,e,fl,.of_same S⟩
def XM.xw{w:Nat}{zn:List (Addr×Obj)}{σ:St}{H:Hp}{F:List Addr}{O:G}{r:R (D×List D)}{x:Value}{s':ah}(h:XM X w zn σ H F O r x s'):XW X zn H F r x s':=by
 obtain⟨c,H',F',e,fl,_,_,E⟩:=h
 exact⟨c,σ,H',F',e,fl,E⟩
def XW.later{zn:List (Addr×Obj)}{H H1:Hp}{F F1:List Addr}{r:R (D×List D)}{x:Value}{s':ah}(E:Ext H F H1 F1)(h:XW X zn H1 F1 r x s'):XW X zn H F r x s':=by
 obtain⟨c,aO,H',F',e,fl,E'⟩:=h
 exact⟨c,aO,H',F',e,fl,E.trans E'⟩
def zL.later{zn:List (Addr×Obj)}{σ i4:St}{H H1:Hp}{F F1:List Addr}{r:R (D×List D)}{u:Value}{s':ah}(E:Ext H F H1 F1)(k:i4[i]? = σ[i]?)(h:zL X i zn i4 H1 F1 r u s'):zL X i zn σ H F r u s':=by
 obtain⟨d,ws,v,σ2,H2,F2,l,zs,q1,q2,q3,q4,q5,q6⟩:=h
 exact⟨d,ws,v,σ2,H2,F2,l,zs,q1,q2,q3,E.trans q4,by rw[<-k];exact q5,q6⟩
def Pb{O:G}{d:D}(h:oo i O d ≠ .no):∃ws,O[i]? = some (.own ws)/\oo i O d = .ok (d,ws):=by
 unfold oo at h ⊢
 cases q:O[i]? with
 | none=>rw[q] at h;exact absurd rfl h
 | some en =>
   cases en with
   | no=>rw[q] at h;exact absurd rfl h
   | ro d'=>rw[q] at h;exact absurd rfl h
   | own ws=>exact⟨ws,rfl,rfl⟩
def HZ(he:iP X e g):PW X i (.Return (some e) pos::rest) (pk i g):=by
 refine⟨λzn s σ H F O I fo rl hg=>?_⟩
 refine rL (Aq (aq (he.run zn s σ H F O I fo rl (R.left hg)) (λu s1 ⟨d,v,H1,f1,I1,r1,S1,i1⟩=>?_) λ_ _ x=>(x.bind _).xw))
 have e2:pk i g O=oo i O d:=R.step f1 _
 rw[e2] at hg ⊢
 obtain⟨ws,hw,e3⟩:=Pb hg
 obtain⟨l,zs,jy,hF,hH,rj⟩:=rl.own i ws hw
 exact⟨u,rfl,d,ws,v,σ,H1,F,l,zs,e3,I1,r1,.of_same S1,jy,S1 _ _ hH,hF,rj.same (kA S1),i1⟩
def nP(h1:PK X i st t)(h2:PW X i rest u):PW X i (st::rest) (fj t u):=by
 refine⟨λzn s σ H F O I fo rl hg=>?_⟩
 have ht:t O ≠ .no:=λz=>hg (by unfold fj;rw[z])
 refine rL (aq (h1.run zn s σ H F O I fo rl ht) (λfl s1 q=>?_) λx s1 q=>?_)
 .have bad:∀f:Fl,t O = .ok f->(∀O',f ≠ .nx O')->(∀c O',f ≠ .ex c O')->False:=λf e n1 n2=>hg (by unfold fj;rw[e];cases f<;>first | rfl | exact absurd rfl (n1 _) | exact absurd rfl (n2 _ _))
  cases fl with
  | next =>
    obtain⟨dh,e,aO,H',F',I',CH,oM,E,k⟩:=q
    have e2:fj t u O=u dh:=by unfold fj;rw[e]
    rw[e2] at hg ⊢
    exact aq (h2.run zn s1 aO H' F' dh I' CH oM hg) (λfl s2 ⟨u',hu,q⟩=>⟨u',hu,q.later E k⟩) λ_ _ z=>z.later E
  | ret v=>obtain⟨v',aO,H',F',_,_,_,⟨d,z,_⟩ | ⟨_,_,_,z,_⟩⟩:=q<;>exact(bad _ z (λ_ y=>nomatch y) λ_ _ y=>nomatch y).elim
  | brk=>obtain⟨O',z,_⟩:=q;exact(bad _ z (λ_ y=>nomatch y) λ_ _ y=>nomatch y).elim
  | cont=>obtain⟨O',z,_⟩:=q;exact(bad _ z (λ_ y=>nomatch y) λ_ _ y=>nomatch y).elim
 .obtain⟨c,O',aO,H',F',e,fl,_,_,E⟩:=q
  exact⟨c,aO,H',F',by unfold fj;rw[e],fl,E⟩
def Pc{cs:List Stmt}{gc:G->R Bool}(hc:kB X c gc)(ha:PW X i cs u)(hb:PW X i rest v):PW X i (.If c cs [] pos::rest) (oq gc u v):=by
 refine⟨λzn s σ H F O I fo rl hg=>?_⟩
 refine rL (JZ (aq (hc.run zn s σ H F O I fo rl (R.left hg)) (λk s1 q=>?_) λ_ _ x=>(x.bind _).xw))
 obtain⟨H1,f1,I1,S1⟩:=q
 have e2:oq gc u v O=if k=true then u O else v O:=R.step f1 _
 rw[e2] at hg ⊢
 cases k with
 | true =>
   rw[if_pos rfl] at hg ⊢
   refine aq (ha.run zn s1 σ H1 F O I1 (fo.same S1) (rl.same S1) hg) (λfl s2 ⟨u',hu,q⟩=>?_) λ_ _ z=>z.later (.of_same S1)
   subst hu
   exact⟨u',rfl,q.later (.of_same S1) rfl⟩
 | false =>
   rw[if_neg (by decide)] at hg ⊢
   refine qc ?_
   exact aq (hb.run zn s1 σ H1 F O I1 (fo.same S1) (rl.same S1) hg) (λfl s2 ⟨u',hu,q⟩=>⟨u',hu,q.later (.of_same S1) rfl⟩) λ_ _ z=>z.later (.of_same S1)
def Pd(he:oP X i e u):PW X i (.Return (some e) pos::rest) u:=by
 refine⟨λzn s σ H F O I fo rl hg=>?_⟩
 refine rL (Aq (aq (he.run zn s σ H F O I fo rl hg) (λu' s1 ⟨d,ws,v,H1,f1,I1,r1,dI,d9,E1,i1,hi⟩=>?_) λ_ _ z=>z.xw))
 obtain⟨l,zs,jy,hF,hH,rj⟩:=d9.own i ws (g7 hi)
 exact⟨u',rfl,d,ws,v,σ,H1,F,l,zs,f1,I1,r1,E1,jy,hH,hF,rj,i1⟩
def C3{c:Er}(h:PQ X st (gj c)):PK X i st (gj c):=⟨λzn s σ H F O I fo rl hg=>aq (h.run zn s σ H F O I fo rl hg) (λfl s1 q=>by
 cases fl with
 | next=>obtain⟨O',z,_⟩:=q;cases z
 | brk=>obtain⟨O',z,_⟩:=q;cases z
 | cont=>obtain⟨O',z,_⟩:=q;cases z
 | ret v=>exact q) λ_ _ z=>z⟩
def w0a{c:Er}(h:PQ X st (gj c)):PW X i (st::rest) (Lz c):=by
 refine⟨λzn s σ H F O I fo rl hg=>?_⟩
 refine rL (aq (h.run zn s σ H F O I fo rl (λz=>nomatch z)) (λfl s1 q=>?_) λx s1 q=>?_)
 .cases fl with
  | next=>obtain⟨O',z,_⟩:=q;cases z
  | brk=>obtain⟨O',z,_⟩:=q;cases z
  | cont=>obtain⟨O',z,_⟩:=q;cases z
  | ret v=>obtain⟨v',aO,H',F',_,_,_,⟨d,z,_⟩ | ⟨_,_,_,z,_⟩⟩:=q<;>cases z
 .obtain⟨c',O',aO,H',F',e,fl,_,_,E⟩:=q
  cases e
  exact⟨_,aO,H',F',rfl,fl,E⟩
end
def x3v{K:aD}{H:Hp}{N:List Str}{as bs ws:List D}{xs ys zs:List V}{l:Addr}(j1:ao K (aM [l] H) as xs)(j2:ao K (aM [l] H) bs ys)(hH:H l=some (.lst zs))(j3:ao K (aM [l] H) ws zs) :
 Rel K H [l] ((eE N.length (as ++ .lst ws::bs)).set as.length (.own ws)) (L2.start N (xs ++ .ref l::ys)):=by
 have l1:=j1.length
 have l2:=j2.length
 have hlen:(as++D.lst ws::bs).length=(xs++V.ref l::ys).length:=by simp[l1,l2]
 have vB:as.length<(eE N.length (as ++ .lst ws::bs)).length:=by unfold eE;simp
 have key:∀(j:Nat) (en:En),j≠as.length->(eE N.length (as ++ .lst ws::bs))[j]? = some en->(∃d v,en = .ro d/\(L2.start N (xs ++ .ref l::ys))[j]? = some (some v)/\Is K (aM [l] H) d v)∨en = .no:=λj en bO h=>by
  unfold eE at h
  by_cases hj:j<(as++D.lst ws::bs).length
  .rw[xf (by simpa using hj),jO,gE hj] at h
   have sX:(L2.start N (xs ++ .ref l::ys))[j]? = some (some ((xs++V.ref l::ys)[j]'(by rw[<-hlen];exact hj))):=by
    unfold L2.start
    rw[xf (by rw[aZ,<-hlen];exact hj),jO,gE (by rw[<-hlen];exact hj)];rfl
   cases h
   refine .inl ⟨_,_,rfl,sX,?_⟩
   by_cases wJ:j<as.length
   .have e1:(as++D.lst ws::bs)[j]'hj=as[j]'wJ:=a5b wJ
    have e2:(xs++V.ref l::ys)[j]'(by rw[<-hlen];exact hj)=xs[j]'(by rw[<-l1];exact wJ):=a5b (by rw[<-l1];exact wJ)
    rw[e1,e2]
    obtain⟨v,hv,iv⟩:=j1.get (gE wJ)
    rw[gE (by rw[<-l1];exact wJ)] at hv
    cases hv;exact iv
   .obtain⟨m,rfl⟩:∃m,j=as.length+1+m:=⟨j-as.length-1,by lia⟩
    have hm:m<bs.length:=by simp at hj;lia
    have e1:(as++D.lst ws::bs)[as.length+1+m]'hj=bs[m]'hm:=by
     rw[a5c (by lia)]
     have:as.length+1+m-as.length=m+1:=by lia
     simp only[this,a5d]
    have e2:(xs++V.ref l::ys)[as.length+1+m]'(by rw[<-hlen];exact hj)=ys[m]'(by rw[<-l2];exact hm):=by
     rw[a5c (by lia)]
     have:as.length+1+m-xs.length=m+1:=by lia
     simp only[this,a5d]
    rw[e1,e2]
    obtain⟨v,hv,iv⟩:=j2.get (gE hm)
    rw[gE (by rw[<-l2];exact hm)] at hv
    cases hv;exact iv
  .rw[uK (by simpa using hj),QL] at h
   split at h
   .cases h;exact .inr rfl
   .cases h
 have here:(L2.start N (xs ++ .ref l::ys))[as.length]? = some (some (.ref l)):=by
  unfold L2.start
  rw[xf (by simp;lia),jO,uK (by lia),l1,JL];rfl
 have H0:∀(j:Nat) (es:List D),((eE N.length (as ++ .lst ws::bs)).set as.length (.own ws))[j]? = some (.own es)->j=as.length/\es=ws:=λj es h=>by
  by_cases q:as.length=j
  .subst q
   rw[g7 vB] at h
   cases h;exact⟨rfl,rfl⟩
  .rw[d_ q] at h
   rcases key j _ (dC q) h with ⟨d,v,z,_⟩ | z<;>cases z
 refine⟨?_,λj d h=>?_,λj es h=>?_,λj k es fs a h1 h2 _ _=>?_⟩
 .rw[ip]
  unfold eE L2.start
  simp only[aY,aZ,a2u,hlen]
 .by_cases q:as.length=j
  .subst q;rw[g7 vB] at h;cases h
  .rw[d_ q] at h
   rcases key j _ (dC q) h with ⟨d',v,z,z2,z3⟩ | z
   .cases z;exact⟨v,z2,z3⟩
   .cases z
 .obtain⟨rfl,rfl⟩:=H0 j es h
  exact⟨l,zs,here,by simp,hH,j3⟩
 .rw[(H0 j es h1).1,(H0 k fs h2).1]
section
variable {X:Cx}{y:Str}{scope:dU}
def x8q{elt iter:Expr}{px pos:Pos}{zn:List (Addr×Obj)}{σ:St}{aL:Hp}{ax:ah}{n:Nat}{it l:Addr}{zs:List V}{fp:List Addr}{tn:Nat->Heap->Prop}{E:Value->ah->Prop}
 (hp:∀(C:Addr) (ps:List (Addr×Obj)) (s:ah) (x:V) (H:Hp) (ys:List V) (z:V),Inv (cS X y scope C ax aL fp (X.pn++zn)) ps (some x::σ) H s->H l=some (.lst (ys++[z])) ->
   au (aF X.prog X.w) X.A (eval elt (iA scope (cQ X.env scope.names []) C X.env)) (λu dQ=>RelV z u/\Inv (cS X y scope C ax aL fp (X.pn++zn)) ps (some x::σ) (upd H l (.lst ys)) dQ) (λ_ _=>False) s)
 (c:sM X.N X.env y scope) (hN:X.N.Nodup) (gQ:X.calm=true) (I:Inv X zn σ aL ax) (T:Turn X.prog X.w X.K (.Name y px) (rV 0 n) fp it tn) (t0:tn 0 ax.heap) (hf:∀b∈fp,iY X zn aL b)
 (hH:aL l=some (.lst zs)) (hn:n<=zs.length) (hl:zs.length<=100000) {RR:Value->Addr->nU->ah->Prop}
 (hR:∀(Dd C:Addr) (H':Hp) (m:Str->Option Value) (s':ah),ax.heap.objs.size<=C->Dd≠C->aL Dd=none->H' Dd=none->H' C=none->ax.heap.objs.size<=Dd->nK l aL H'->H' l=some (.lst (zs.take (zs.length-n)))->Inv X zn σ (upd H' Dd (.lst (zs.reverse.take n))) s'->s'.heap.Ns C m->RR (.ref Dd) C (.ok .next) s') :
 au (aF X.prog X.w) X.A (xu []) (λacc cT=>au (aF X.prog X.w) X.A (xy scope X.env.globals (cQ X.env scope.names []) [] X.env.qual none .none (some X.env)) (λcenv dQ =>
  jN (aF X.prog X.w) X.A (.compStart (.ListComp elt [⟨.Name y px,iter,[],0⟩] scope pos) 0 (.ref it) acc { cenv with scope:=jR scope X.env }) (RR acc cenv.locals) dQ) E cT) E ax:=by
 refine aq (N7 (J:=rV 0 n) (n:=n) (RR:=RR) (λi H xs=>nK l aL H/\H l=some (.lst (zs.take (zs.length-i)))/\xs=zs.reverse.take i) ⟨λ_ _ _ q=>q,by rw[Q9,Dv];exact hH,rfl⟩ (λi H xs ⟨_,_,e⟩ _=>by rw[e,dW,uO];lia)
  (λi H xs _ hi=>⟨hi,λx H5 y5=>y5.1⟩) (λH xs _=>a9 _) (λDd C ps s x H i xs hC jK J ⟨B,oK,ex⟩ hi y5=>?_) c hN gQ I T t0 hf λDd C xs H' m s' hC iR h2 g_ kY hD ⟨B,oK,ex⟩ I' o8=>by subst ex;exact hR Dd C H' m s' hC iR h2 g_ kY hD B oK I' o8) (λ_ _ h=>aq h (λ_ _ h=>h.2) λ_ _ e=>e) λ_ _ e=>e
 refine RK ?_
 rw[if_pos rfl]
 have HB:zs.take (zs.length-i)=zs.take (zs.length-(i+1))++[zs[zs.length-(i+1)]'(by lia)]:=by
  rw[show zs.length-i=zs.length-(i+1)+1 by lia,a5e]
 rw[HB] at oK
 refine aq (hp C ps s x H _ _ J oK) (λu7 s5 ⟨r7,J7⟩=>⟨_,_,J7,r7,λb o' hb q=>by rw[b_ hb];exact B b o' hb q,dg,?_⟩) λ_ _ z=>z.elim
 rw[ex,a5e (by rw[uO];lia),List.getElem_reverse]
 congr 3;lia
end
def ao.H4{K:aD}{H:Hp}:∀{ds:List D} {xs:List V},ao K H ds xs->ao K H ds.reverse xs.reverse
 | [],xs,h=>by rw[ao.jU.mp h];exact ao.nil
 | d::ds,xs,h=>by
   obtain⟨x,r,rfl,h1,h2⟩:=ao.jI.mp h
   rw[Dn,Dn]
   exact(ao.H4 h2).append (ao.cons h1 ao.nil)
def Pe(X:Cx)(j:Nat)(elt:Expr):Prop:=∀(zn:List (Addr×Obj)) (s:ah) (σ:St) (H:Hp) (l:Addr) (ys:List V) (z:V),Inv X zn σ H s->σ[j]? = some (some (.ref l))->H l=some (.lst (ys++[z])) ->
 au (aF X.prog X.w) X.A (eval elt X.env) (λu s'=>RelV z u/\Inv X zn σ (upd H l (.lst ys)) s') (λ_ _=>False) s
def w9l{X:Cx}(j:Nat){x:Str}{pl apos b6:Pos}(hN:X.N[j]? = some x:=by rfl)(hv:nX X.env.scope x:=by first | exact iu rfl | exact fu (iu rfl) | exact fu (fu rfl))(hd:(x==("__debug__":Str))=false:=by decide)(eA:(x==("__classdict__":Str))=false:=by decide)
 (j9:uU (.Name x pl) "pop" X.env (eval (.Name x pl) X.env)=eval (.Name x pl) X.env:=by rfl) (kZ:(apos.endLine==b6.line)=true:=by rfl):Pe X j (.Call (.Attribute (.Name x pl) "pop" apos) [] [] b6):=by
 intro zn s σ H l ys z I jy hH
 refine wpAny_Call_method0_late j9 kZ (aq (rU (X:=X.b5) hN hv hd eA zn s σ H (λv' H'=>v' = .ref l/\H'=H) (I.dv _) ⟨.ref l,jy,rfl,rfl⟩) (λv s2 q2=>?_) λ_ _ z=>cC z)
 obtain⟨v2,H2,I2,r2,e3,e4⟩:=q2
 subst e3 e4
 have Pf:=I2.fK
 obtain⟨t1,t2⟩:=Eb (T:="list") Pf r2 (.inl ⟨rfl,_,cE.of hH⟩)
 refine⟨"list",_,RO,PySem.F.slot_list_pop,PySem.F.type_list_pop,t1,t2,As rfl (PySem.evalArgs_none ?_)⟩
 refine aq (T2 (X:=X.b5) zn s2 σ H2 (.ref l) [] v [] (λz' pQ=>z'=z/\pQ=upd H2 l (.lst ys)) (Pf.dv _) r2 .nil ⟨l,ys++[z],z,rfl,rfl,hH,by simp,rfl,by simp⟩) (λu3 s3 q3=>?_) λ_ _ z=>cC z
 obtain⟨y3,H3,I3,r3,e5,e6⟩:=q3
 subst e5 e6
 exact⟨r3,I3.fK⟩
section
variable {X:Cx}{y:Str}{scope:dU}{rest:List Stmt}
def w3x{i:Nat}{elt cnt:Expr}{gc:G->R D}{px pr pos pos' H8:Pos}(hc:PD X cnt gc)(hp:∀C ax aL fp pn,Pe (cS X y scope C ax aL fp pn) (i+1) elt)(hN:X.N.Nodup)(gQ:X.calm=true)(hm:X.mg "range"=none)(hg:Gl X "range":=by rfl)(zM:a8 [cnt] X.env=[(false,eval cnt X.env)]:=by rfl)
 (qV:ud X.N X.env y scope=true:=by rfl) (mH:xA scope X.env=pure (cQ X.env scope.names []):=by rfl) (hs:∀x,uS (.Call (.Name "range" pr) [cnt] [] pos') X.env x=pure x:=by intro _;rfl) :
 PW X i (.Return (some (.ListComp elt [⟨.Name y px,.Call (.Name "range" pr) [cnt] [] pos',[],0⟩] scope pos)) H8::rest) (vt i gc):=by
 refine⟨λzn s σ H F O I fo rl bR=>?_⟩
 obtain⟨n,ws,e1,hw,n0,nw,wl,e2⟩:=Vi bR
 rw[e2]
 obtain⟨l,zs,jy,hF,hH,rj⟩:=rl.own i ws hw
 have hzl:zs.length=ws.length:=rj.length.symm
 have c:=zh qV
 refine rL (Aq ?_)
 rw[RL]
 refine RM (use:=none) rfl hs mH c.kind c.names ?_
 refine DG (kl I hg hm JW (tf ?_ zM rfl))
 rw[zM]
 show au _ _ (fJ ((false,eval cnt X.env)::cD pos' [])) _ _ s
 refine gF (aq (hc.run zn s σ H F O I fo rl (by rw[e1];exact λz=>nomatch z)) (λu s1 ⟨d',v,H1,f1,I1,r1,S1,i1⟩=>jz ?_) λ_ _ ⟨c,_,z,_⟩=>by rw[e1] at z;cases z)
 rw[e1] at f1;cases f1
 rw[Is.bZ.mp i1] at r1
 obtain⟨t,rfl⟩:=(show ∃t,u=oR n t from r1)
 refine call_range_1 (je (D4 (tg:=.Name y px) (R:=λJ H'=>J=rV 0 (n-0).toNat/\H'=H1) I1 (by lia) (by lia) (by lia) (by lia) ⟨rfl,rfl⟩) λmT s2 ⟨it,fp,tn,J,H',ei,I2,T,t0,fk,eJ,eH⟩=>?_)
 subst eJ eH ei
 rw[Int.sub_zero] at T
 have C4:=S1 _ _ hH
 refine x8q (l:=l) (zs:=zs) (n:=n.toNat) (RR:=λacc C=>RN (aF X.prog X.w) X.A _ none _ acc C) (λC ps s' x H' ys z J' oK=>hp C s2 _ fp (X.pn++zn) ps s' (some x::σ) H' l ys z J' (by simpa using jy) oK) c hN gQ I2 T t0 fk C4 (by lia) (by lia) ?_
 intro Dd C H' m s' hC iR hn g_ kY hD B hl I' qW
 refine⟨m,qW,λkC jL=>?_⟩
 have jt:∀{b:Addr} {o:Obj},s2.heap.get? b=some o->b≠C:=λe=>fQ (eS (cG e) hC)
 have uf:Inv X zn σ (upd H' Dd (.lst (zs.reverse.take n.toNat))) { s' with heap:=kC }:=I'.turned (t':=s'.toks) (it:=C) (λb o hb e=>jL.extBut b o hb e) (by rw[b_ (dC iR)];exact kY) (oV (eS I2.lt hC)) (.inr (fS I2.sz hC))
  (λx k e=>by obtain⟨v,o,ho,_⟩:=I2.cell x k e;exact jt ho) (λp de=>jt (I2.pin p de).1)
 have hlD:l≠Dd:=λz=>by rw[z] at C4;rw[hn] at C4;cases C4
 have DF:Dd ∉ F:=λz=>by obtain⟨xs,q⟩:=fo Dd z;rw[S1 _ _ q] at hn;cases hn
 have up:∀b o,b≠l->H b=some o->upd H' Dd (.lst (zs.reverse.take n.toNat)) b=some o:=λb o hb q=>by
  have q1:=S1 _ _ q
  rw[b_ λz=>by rw[z] at q1;rw[hn] at q1;cases q1]
  exact B b o hb q1
 have S3:aT (aM F H) (aM F (upd H' Dd (.lst (zs.reverse.take n.toNat)))):=λb o q=>by
  obtain⟨q1,q2⟩:=jr q
  rw[dc q1]
  exact up b o (λz=>q1 (by rw[z];exact hF)) q2
 have Pg:=rj.same S3
 refine⟨_,rfl,_,_,.ref Dd,σ,_,F,l,zs.take (zs.length-n.toNat),rfl,uf,rfl,⟨λb o hb q=>up b o (λz=>hb (by rw[z];exact hF)) q,λb hb=>.inl hb⟩,jy,by rw[b_ hlD];exact hl,hF,?_,?_⟩
 .rw[<-hzl]
  exact ao.take _ Pg
 .exact Is.fD.mpr ⟨Dd,zs.reverse.take n.toNat,rfl,cE.of (by rw[dc DF];exact dg),ao.take _ (ao.H4 Pg)⟩
end
section
variable {X:Cx}{e a b c:Expr}{g ga gb:G->R D}{u:G->R (D×List D)}{pos pos' p:Pos}{w:Nat}{x:Str}
def zN{O:G}{r:R (D×List D)}{k:D->List D->R Fl}(h:stM w O r k ≠ .no):r ≠ .no:=λz=>h (by rw[z];rfl)
def H9{r:R (D×List D)}{k:D->List D->R (D×List D)}(h:Bj r k ≠ .no):r ≠ .no:=λz=>h (by rw[z];rfl)
def XM.ex{zn:List (Addr×Obj)}{σ:St}{H:Hp}{F:List Addr}{O:G}{r:R (D×List D)}{k:D->List D->R (D×List D)}{x:Value}{s':ah}(h:XM X w zn σ H F O r x s'):XM X w zn σ H F O (Bj r k) x s':=h.map .refl rfl λc e=>by rw[e];rfl
def zO(j:Nat)(he:oP X w e u)(hN:X.N.Nodup)(zI:j≠w:=by decide)(hi:X.N[j]? = some x:=by rfl)(hx:Loc X.env.scope x:=by first | exact iu rfl | exact fu rfl)(hs:rM e (some (.Name x pos')) pos.line X.env=pure false:=by rfl)(hf:X.fn x=true∨X.env.scope.names.lookup x=some .local:=by first | exact .inl rfl | exact .inr rfl | assumption) :
 PK X w (.Assign [.Name x pos'] e pos) (lI j w u):=by
 refine⟨λzn s σ H F O I fo rl hg=>?_⟩
 refine J2 (aq (he.run zn s σ H F O I fo rl (zN hg)) (λv s1 q=>?_) λ_ _ z=>z.st) hs
 obtain⟨d,ws,y,H1,f1,I1,r1,dI,d9,E1,i1,hl⟩:=q
 have e2:lI j w u O = .ok (.nx ((O.set w (.own ws)).set j (.ro d))):=by unfold lI;rw[f1];rfl
 rw[e2]
 exact u0 I1 hN hi hx r1 (λs2 I2=>⟨_,rfl,_,H1,F,I2,dI,d9.CG i1,E1,d_ zI⟩) hf
def Ph(he:oP X w e u)(qX:rM e none pos.line X.env=pure false:=by rfl):PK X w (.Expr e pos) (qz w u):=by
 refine⟨λzn s σ H F O I fo rl hg=>?_⟩
 refine J3 (aq (he.run zn s σ H F O I fo rl (zN hg)) (λv s1 q=>?_) λ_ _ z=>z.st) I.quiet qX
 obtain⟨d,ws,y,H1,f1,I1,r1,dI,d9,E1,i1,hl⟩:=q
 have e2:qz w u O = .ok (.nx (O.set w (.own ws))):=by unfold qz;rw[f1];rfl
 rw[e2]
 exact⟨_,rfl,σ,H1,F,I1,dI,d9,E1,rfl⟩
def w4e(m:Nat){apos b6:Pos}(he:oP X w e u)(hmw:m≠w:=by decide)(hN:X.N[m]? = some x:=by rfl)(hv:nX X.env.scope x:=by first | exact iu rfl | exact fu (iu rfl) | exact fu (fu rfl))(hd:(x==("__debug__":Str))=false:=by decide)(eA:(x==("__classdict__":Str))=false:=by decide)
 (qX:rM (.Call (.Attribute (.Name x p) "append" apos) [e] [] b6) none pos.line X.env=pure false:=by rfl)
 (j9:uU (.Name x p) "append" X.env (eval (.Name x p) X.env)=eval (.Name x p) X.env:=by rfl)
 (mK:((cD b6 (a8 [e] X.env)).all (λx=>!x.1)&&(uF b6 (uG [] X.env)).all (λx=>x.1.isSome)
   && decide ([e].length+([]:List lq).length+(if ([]:List lq).isEmpty then 0 else 1)<30))=true:=by rfl)
 (kZ:(apos.endLine==b6.line)=true:=by rfl) (hs:a8 [e] X.env=(false,eval e X.env)::a8 [] X.env:=by rfl) :
 PK X w (.Expr (.Call (.Attribute (.Name x p) "append" apos) [e] [] b6) pos) (j4 m w u):=by
 refine⟨λzn s σ H F O I fo rl hg=>?_⟩
 refine J3 ?_ I.quiet qX
 obtain⟨ds,H_⟩:∃ds,O[m]? = some (.own ds):=by
  unfold j4 at hg
  cases q:O[m]? with
  | none=>rw[q] at hg;exact absurd rfl hg
  | some en =>
    cases en with
    | no=>rw[q] at hg;exact absurd rfl hg
    | ro d'=>rw[q] at hg;exact absurd rfl hg
    | own ds=>exact⟨ds,rfl⟩
 have e0:j4 m w u O=stM w O (u O) λd ws=>if ds.length<=100000 then .ok (.nx ((O.set w (.own ws)).set m (.own (ds++[d])))) else .no:=by unfold j4;rw[H_]
 rw[e0] at hg ⊢
 obtain⟨a',xs,gX,hF,h3,h4⟩:=rl.own m ds H_
 refine DI j9 mK kZ rfl (aq (rU (X:=X.b5) hN hv hd eA zn s σ H (λv' H'=>v' = .ref a'/\H'=H) (I.dv _) ⟨.ref a',gX,rfl,rfl⟩) (λv s1 ⟨v',H',I1,r1,oJ,GW⟩=>?_) λ_ _ z=>cC z)
 subst oJ GW
 have zo:=I1.fK
 obtain⟨t1,t2⟩:=Eb (T:="list") zo r1 (.inl ⟨rfl,xs,cE.of h3⟩)
 refine⟨"list",_,RO,a4g,a4h,t1,t2,?_⟩
 rw[hs]
 refine As rfl (xB ?_)
 show au _ _ (fJ ((false,eval e X.env)::cD b6 [])) _ _ s1
 refine gF (aq (he.run zn s1 σ H' F O zo fo rl (zN hg)) (λu' s2 ⟨d,ws,y,H2,f1,I2,r2,fo2,Pj,E2,i2,AQ⟩=>jz ?_) λ_ _ z=>z.st)
 rw[f1] at hg ⊢
 have hl:ds.length<=100000:=by
  by_cases z:ds.length<=100000
  .exact z
  .exact absurd (show stM w O (.ok (d,ws)) (λd ws=>if ds.length<=100000 then .ok (.nx ((O.set w (.own ws)).set m (.own (ds++[d])))) else .no) = .no from if_neg z) hg
 rw[show stM w O (.ok (d,ws)) (λd ws=>if ds.length<=100000 then .ok (.nx ((O.set w (.own ws)).set m (.own (ds++[d])))) else .no) = .ok (.nx ((O.set w (.own ws)).set m (.own (ds++[d])))) from if_pos hl]
 have eo:(O.set w (.own ws))[m]? = some (.own ds):=by rw[d_ (dC hmw)];exact H_
 obtain⟨a2,C5,k1,k2,k3,k4⟩:=Pj.own m ds eo
 rw[gX] at k1;cases k1
 have sm:(100001:Nat)<=bK:=by rw[oW];decide
 have qS:=k4.length
 refine aq (K3 (X:=X.b5) zn s2 σ H2 (.ref a') [y] v [u'] (λz pQ=>z = .cI/\pQ=upd H2 a' (.lst (C5++[y]))) (I2.dv _) r1 (.cons r2 .nil) ⟨a',C5,y,rfl,rfl,k3,by lia,rfl,rfl⟩) (λw' s3 ⟨z,pQ,I3,rz,ez,eH⟩=>?_) λ_ _ z=>cC z
 subst ez eH
 obtain⟨oM,CJ⟩:=Pj.put eo gX (xs':=C5++[y]) (ds':=ds++[d]) (k4.append (ao.cons i2 ao.nil))
 refine⟨_,rfl,σ,_,F,I3.fK,λb hb=>?_,oM,E2.trans ⟨λb o hb h=>?_,λb hb=>.inl hb⟩,rfl⟩
 .by_cases sR:b=a'
  .exact⟨C5++[y],by rw[sR];exact dg⟩
  .obtain⟨ys,q⟩:=fo2 b hb
   exact⟨ys,by rw[b_ sR];exact q⟩
 .rw[b_ (λz=>hb (by rw[z];exact k2))];exact h
def Ia(ha:oP X w a u)(hb:PD X b gb)(hs:AN b:=by intro _ _;rfl):oP X w (.Subscript a b pos) (pj w u gb):=by
 refine⟨λzn s σ H F O I fo rl hg=>?_⟩
 refine DE (aq (ha.run zn s σ H F O I fo rl (H9 hg)) (λv s1 ⟨d,ws,xv,H1,f1,I1,r1,dI,d9,E1,i1,hl⟩=>?_) λ_ _ z=>z.ex)
 have e0:pj w u gb O=(match gb (O.set w (.own ws)) with | .ok b=>ph (R.good (aI d b)) ws | _=>.no):=by unfold pj nc;rw[f1];rfl
 rw[e0] at hg ⊢
 cases iS:gb (O.set w (.own ws)) with
 | no=>rw[iS] at hg;exact absurd rfl hg
 | er c=>rw[iS] at hg;exact absurd rfl hg
 | ok db =>
   rw[iS] at hg
   dsimp only at hg ⊢
   cases hr:aI d db with
   | no=>rw[hr] at hg;exact absurd rfl hg
   | er c=>rw[hr] at hg;exact absurd rfl hg
   | ok r =>
     refine aq (hb.run zn s1 σ H1 F _ I1 dI d9 (by rw[iS];exact λz=>nomatch z)) (λu2 s2 ⟨dy,y,H2,e4,I2,r2,S2,i2⟩=>?_) λ_ _ ⟨c,_,z,_⟩=>by rw[iS] at z;cases z
     rw[iS] at e4;cases e4
     show au _ _ _ (HY X w zn σ H F O (.ok (r,ws))) _ _
     have lS:=i1.same (kA S2)
     have fin:∀(z:V),Is X.K (aM F H2) r z->∀(w':Value) (s':ah),EP X.b5 zn σ (λz' H'=>z'=z/\H'=H2) w' s'->HY X w zn σ H F O (.ok (r,ws)) w' s':=λz iz w' s' ⟨z',H',I',rz,ez,eH⟩=>by
      subst ez eH
      exact⟨r,ws,z',H',rfl,I'.fK,rz,dI.same S2,d9.same S2,E1.trans (.of_same S2),iz,hl⟩
     cases d with
     | tup ds =>
       cases db with
       | int i =>
         obtain⟨q0,xs,rfl,gX,h2⟩:=Is.fX.mp lS
         cases q:cV ds i with
         | none=>rw[show aI (.tup ds) (.int i) = .no by simp only[aI,q]] at hr;cases hr
         | some d0 =>
           rw[show aI (.tup ds) (.int i) = .ok d0 by simp only[aI,q]] at hr
           cases hr
           obtain⟨z,ez,iz⟩:=h2.cV q
           exact aq (Ea (X:=X.b5) a b zn s2 σ H2 _ y v u2 _ (I2.dv _) r1 r2 ⟨q0,xs,i,z,rfl,Is.bZ.mp i2,t6 (iO (F:=F)) gX,ez,rfl,rfl⟩ (hs _ _)) (λw' s' h=>fin z iz w' s' h) λ_ _ z=>cC z
       | _=>cases hr
     | lst ds =>
       cases db with
       | int i =>
         obtain⟨q0,xs,rfl,gX,h2⟩:=Is.fD.mp lS
         cases q:cV ds i with
         | none=>rw[show aI (.lst ds) (.int i) = .no by simp only[aI,q]] at hr;cases hr
         | some d0 =>
           rw[show aI (.lst ds) (.int i) = .ok d0 by simp only[aI,q]] at hr
           cases hr
           obtain⟨z,ez,iz⟩:=h2.cV q
           exact aq (D9 (X:=X.b5) a b zn s2 σ H2 _ y v u2 _ (I2.dv _) r1 r2 ⟨q0,xs,i,z,rfl,Is.bZ.mp i2,(iO (F:=F)).seq gX,ez,rfl,rfl⟩ (hs _ _)) (λw' s' h=>fin z iz w' s' h) λ_ _ z=>cC z
       | _=>cases hr
     | _=>cases hr
def x6f{op:Ju}{g2:D->D->R D}{cs:List Stmt}{t:G->R Fl}(ho:gO X (i9 op) g2)(ha:oP X w a u)(hb:PD X b gb)(hc:rg X w cs t)(hm:Dj op b=false:=by rfl):PK X w (.If (.Compare a [op] [b] pos') cs [] pos) (qA w (nc g2 w u gb) t):=by
 refine⟨λzn s σ H F O I fo rl hg=>?_⟩
 have aN:=zN hg
 refine JZ (a4a (aq (ha.run zn s σ H F O I fo rl (H9 aN)) (λv s1 ⟨d,ws,xv,H1,f1,I1,r1,dI,d9,E1,i1,hl⟩=>?_) λ_ _ z=>z.ex.st) hm)
 have e0:nc g2 w u gb O=(match gb (O.set w (.own ws)) with | .ok b=>ph (R.good (g2 d b)) ws | _=>.no):=by unfold nc;rw[f1];rfl
 have e9:qA w (nc g2 w u gb) t O=stM w O (nc g2 w u gb O) λd ws=>tG d t (O.set w (.own ws)):=rfl
 rw[e9,e0] at hg ⊢
 rw[e0] at aN
 cases iS:gb (O.set w (.own ws)) with
 | no=>rw[iS] at aN;exact absurd rfl aN
 | er c=>rw[iS] at aN;exact absurd rfl aN
 | ok db =>
   rw[iS] at hg aN
   dsimp only at hg aN ⊢
   cases hr:g2 d db with
   | no=>rw[hr] at aN;exact absurd rfl aN
   | er c=>rw[hr] at aN;exact absurd rfl aN
   | ok r =>
     rw[hr] at hg
     refine aq (hb.run zn s1 σ H1 F _ I1 dI d9 (by rw[iS];exact λz=>nomatch z)) (λu2 s2 ⟨dy,y,H2,e4,I2,r2,S2,i2⟩=>?_) λ_ _ ⟨c,_,z,_⟩=>by rw[iS] at z;cases z
     rw[iS] at e4;cases e4
     refine aq (ho.run (E:=λ_ _=>False) I2 r1 r2 ((i1.same (kA S2)).same (iO (F:=F))) i2 (by rw[hr];exact λz=>nomatch z)) (λz s3 h3=>?_) λ_ _ z=>cC z
     obtain⟨bd,bv,H3,e5,I3,r3,S3,i3⟩:=h3
     rw[hr] at e5;cases e5
     have EE:=(E1.trans (Ext.of_same S2)).trans (Ext.of_same S3)
     have cA:tG r t (O.set w (.own ws)) ≠ .no:=hg
     rw[show stM w O (ph (R.good (.ok r)) ws) (λd ws=>tG d t (O.set w (.own ws)))=tG r t (O.set w (.own ws)) from rfl]
     cases r with
     | bl bb =>
       rw[Is.gN.mp i3] at r3
       cases (show z=wY bb from r3)
       refine xr ?_
       cases bb with
       | true =>
         have e3:tG (.bl true) t (O.set w (.own ws))=t (O.set w (.own ws)):=rfl
         rw[e3] at cA ⊢
         exact aq (hc.run zn s3 σ H3 F _ I3 ((dI.same S2).same S3) ((d9.same S2).same S3) cA) (λ_ _ q=>q.later EE λ_ z=>z) λ_ _ q=>q.later EE
       | false =>
         have e3:tG (.bl false) t (O.set w (.own ws)) = .ok (.nx (O.set w (.own ws))):=rfl
         rw[e3]
         exact qc ⟨_,rfl,σ,H3,F,I3,(dI.same S2).same S3,(d9.same S2).same S3,EE,rfl⟩
     | _=>exact absurd rfl cA
def x6j{k:Nat}{f:Addr}{fd:cw}{ps:List Str}{φ:List D->R D}(Fn:iJ X.prog X.w X.K X.mg X.base k f fd ps φ)(hr:dM k X.A)(hm:X.mg x=some (.ref f))(he:oP X w e u)(hex:X.ex=[]:=by rfl)(hg:Gl X x:=by rfl)(ib:(x==("__debug__":Str))=false:=by decide)
 (hs:a8 [e] X.env=(false,eval e X.env)::a8 [] X.env:=by rfl) (gI:(cD pos (a8 [] X.env)).any (·.1)=false:=by rfl):oP X w (.Call (.Name x p) [e] [] pos) (oi φ u):=by
 refine⟨λzn s σ H F O I fo rl bR=>?_⟩
 refine mQ (mS I hg hm ?_ ib)
 refine Ap (h₀:=X.base) I.ok.mod.o5 Fn.kp ?_ hs gI
 rw[hs]
 show au _ _ (fJ ((false,eval e X.env)::cD pos [])) _ _ s
 refine gF (aq (he.run zn s σ H F O I fo rl (H9 bR)) (λv s1 ⟨d,ws,xv,H1,f1,I1,r1,dI,d9,E1,i1,hl⟩=>jz ⟨I1.gH,?_⟩) λ_ _ z=>z.ex)
 have e0:oi φ u O=ph (φ [d]) ws:=by unfold oi;rw[f1];rfl
 rw[e0] at bR ⊢
 cases lN:φ [d] with
 | no=>rw[lN] at bR;exact absurd rfl bR
 | er c =>
   refine aq (GS Fn hr I1 (.cons r1 .nil) (ao.cons (i1.same iO) ao.nil) (by rw[lN];exact λz=>nomatch z) (.inl hex)) (λu2 s2 ⟨_,_,_,z,_⟩=>by rw[lN] at z;cases z) λu2 s2 ⟨c',H2,e2,S2,fl⟩=>?_
   rw[lN] at e2;cases e2
   refine⟨_,H2,F,rfl,fl,dI.same S2,?_,E1.trans (.of_same S2)⟩
   have:=(d9.same S2).O_ w
   rw[List.set_set] at this
   exact this
 | ok r =>
   refine aq (w9e Fn hr (EE:=λ_ _=>False) I1 dI (.cons r1 .nil) (ao.cons i1 ao.nil) lN) (λu2 s2 ⟨v2,H2,I2,r2,S2,i2⟩=>?_) λ_ _ z=>z.elim
   exact⟨r,ws,v2,H2,rfl,I2,r2,dI.same S2,d9.same S2,E1.trans (.of_same S2),i2,hl⟩
end
def Pk(M:l0)(A:Around)(E:Value->ah->Prop)(use:Value->Sem Unit)(Q:Value->ah->Prop)(env:Env)(acc:Value)(C:Addr)(r:nU)(s':ah):Prop :=
 match r with
 | .ok _=>au M A (use acc) (λ_ n4=>∃m,n4.heap.Ns C m/\∀h',rp C n4.heap h'->Q .none { n4 with heap:=h' }) E s'
 | .error x=>∃m,s'.heap.Ns C m/\∀h',rp C s'.heap h'->∀ce:Env,ce.frame=env.frame->au M A (Ke "comprehension.variables-let-go" x ce:Sem Value) (λ_ _=>False) E { s' with heap:=h' }
section
variable {M:l0}{A:Around}{E:Value->ah->Prop}{env:Env}{s:ah}
def x4v{e:Expr}{scope:dU}{pos:Pos}{zC first:Sem Value}{g:Kf}{gs:List Kf}{cl:List (Str×Addr)}{use:Value->Sem Unit}{Q:Value->ah->Prop}
 (pS:clausesOf e=g::gs) (hs:∀x,uS g.iter env x=pure x) (mH:xA scope env=pure cl) (tx:scope.kind = .function) (HM:∀x∈scope.names,x.2 = .local->scope.names.lookup x.1=some .local)
 (h:au M A first (λx bT=>au M A (rA x) (λit ax=>au M A zC (λacc cT=>au M A (xy scope env.globals cl [] env.qual none .none (some env)) (λcenv dQ=>cenv.frame=env.frame /\
   jN M A (.compStart e 0 it acc { cenv with scope:=jR scope env }) (Pk M A E use Q env acc cenv.locals) dQ) E cT) E ax) E bT) E s) :
 au M A (Ar e scope env pos zC false first (some use)) Q E s:=by
 have pT:∀{x:Value} {s':ah},E x s'->E x s':=λq=>q
 unfold Ar
 rw[mH,pS]
 refine aS (aq h (λx bT gy=>?_) λ_ _=>pT)
 refine aS (uT (aS (RX (hs x) (aS (iV (aq gy (λit ax mI=>?_) λ_ _=>pT))))))
 refine wpAny_standIf (aS (aq mI (λacc cT zD=>?_) λ_ _=>pT))
 refine aS (bS (aS (aq zD (λcenv dQ ur=>?_) λ_ _=>pT)))
 obtain⟨eO,ur⟩:=ur
 dsimp only
 have zE:∀x∈(scope.names.filter λx=>(x.2 == .local||x.2 == .cell)&&x.1 != (".0":Str)).reverse,x.2 = .local->Env.kindOf { cenv with scope:=jR scope env } x.1=some .local :=
  λx hx q=>JY (HM x (List.mem_filter.mp (List.mem_reverse.mp hx)).1 q)
 refine iV (aS (wpAny_attempt (iV (wpAny_run (p8 ur λr s' hr=>?_)))))
 cases r with
 | ok f =>
   refine aS (Ka (aS (iV (aq hr (λ_ n4 hr=>?_) λ_ _=>pT))))
   obtain⟨m,hn,hr⟩:=hr
   refine aS (Kg (cenv:={ cenv with scope:=jR scope env }) tx _ n4 m (λx hx q=>zE x ?_ q) hn λh' m' _ nA=>bS (hr h' nA))
   rcases List.mem_append.mp hx with z | z
   .exact mP z
   .exact me z
 | error x =>
   obtain⟨m,hn,hr⟩:=hr
   exact aS (iV (Kg (cenv:={ cenv with scope:=jR scope env }) tx _ s' m zE hn λh' m' _ nA=>aq (hr h' nA _ eO) (λ_ _ f=>f.elim) λ_ _ y=>y))
end
section
variable {X:Cx}{y x:Str}{scope:dU}{u:G->R (D×List D)}{w:Nat}
def x0f(j:Nat){elt iter:Expr}{px pos pos' apos:Pos}{ifs:List Expr}{f:D->G->R (Option D)}{L:Addr}(hi:oP X w iter u)(hp:CU X y scope ifs elt f)(hN:X.N.Nodup)(gQ:X.calm=true)(hex:X.ex=[])(kd:X.stack=X.env::X.outer)(eO:X.env.frame=some L)(zI:j≠w:=by decide)
 (Hl:X.N[j]? = some x:=by rfl) (hx:Loc X.env.scope x:=by first | exact iu rfl | exact fu rfl) (qX:rM (.ListComp elt [⟨.Name y px,iter,ifs,0⟩] scope pos) (some (.Name x pos')) apos.line X.env=pure true:=by rfl) (hf:X.fn x=true∨X.env.scope.names.lookup x=some .local:=by first | exact .inl rfl | exact .inr rfl | assumption)
 (qV:ud X.N X.env y scope=true:=by rfl) (mH:xA scope X.env=pure (cQ X.env scope.names []):=by rfl) (hs:∀x,uS iter X.env x=pure x:=by intro _;rfl) :
 PK X w (.Assign [.Name x pos'] (.ListComp elt [⟨.Name y px,iter,ifs,0⟩] scope pos) apos) (oj j w u f):=by
 refine⟨λzn s σ H F O I fo rl hg=>?_⟩
 have c:=zh qV
 rw[a4f _ _ _ _ qX]
 refine aS (uT (aS ?_))
 show au _ X.A (do let _ <-Ar (.ListComp elt [⟨.Name y px,iter,ifs,0⟩] scope pos) scope X.env _ (xu []) false (eval iter X.env) (some (oU (.Name x pos') X.env))) _ _ s
 refine aS (aq (x4v (use:=oU (.Name x pos') X.env) (Q:=λ_ s'=>wG X zn H F (oj j w u f O) (λaO=>aO[w]? = σ[w]?) .next s') rfl hs mH c.kind c.names
  (aq (hi.run zn s σ H F O I fo rl (zN hg)) (λxv bT ⟨d,ws,v0,H1,f1,I1,r1,dI,d9,E1,i1,hw⟩=>?_) λ_ _ z=>z.st)) (λ_ s' hq=>bS (bS hq)) λ_ _ e=>e)
 have e0:oj j w u f O=sd j f d (O.set w (.own ws)):=by unfold oj;rw[f1];rfl
 rw[e0] at hg ⊢
 cases d with
 | lst items =>
   by_cases hl:items.length<=100000
   .have e3:sd j f (.lst items) (O.set w (.own ws))=(match hJ (λd=>f d (O.set w (.own ws))) items [] with | .ok total=>.ok (.nx ((O.set w (.own ws)).set j (.own total))) | .er c=>.ok (.ex c (O.set w (.own ws))) | .no=>.no):=if_pos hl
    rw[e3] at hg ⊢
    have mr:hJ (λd=>f d (O.set w (.own ws))) items [] ≠ .no:=λz=>by rw[z] at hg;exact hg rfl
    obtain⟨q0,xs0,rfl,gX,h2⟩:=Is.fD.mp i1
    cases (show xv=dS q0 from r1)
    refine GU (tg:=.Name y px) I1 ((iO (F:=F)).seq gX) λit ax I2 T t0 fk=>?_
    refine OQ (RR:=λacc C=>Pk (aF X.prog X.w) X.A _ (oU (.Name x pos') X.env) _ X.env acc C) hp c hN gQ I2 dI d9 T t0 fk (NZ ((iO (F:=F)).seq gX) h2) hex kd eO rfl mr hl ?_ ?_
    .intro Dd C oC m c' x H' s' hC er S' zF fl
     obtain⟨m',h1,h2⟩:=OS I2 eO hC zF fl
     exact⟨m',h1,λkC jL ce zG=>aq (h2 kC jL ce zG) (λ_ _ z=>z) λ_ _ fly=>⟨c',_,σ,H',F,e0.trans (e3.trans (by rw[er])),fly,dI.same S',d9.same S',E1.trans (.of_same S')⟩⟩
    intro total Dd C xs H' m s' et hC iR hn g_ kY hD S' ia I' qW
    rw[et]
    have jt:∀{b:Addr} {o:Obj},ax.heap.get? b=some o->b≠C:=λe=>fQ (eS (cG e) hC)
    have S3:=gY g_ (.lst xs)
    have Hg:ao X.K (aM (Dd::F) (upd H' Dd (.lst xs))) total xs:=ia.same λb o hb=>by
     obtain⟨z1,z2⟩:=jr hb
     have fH:b≠Dd:=jA z2 g_
     rw[dc λz=>(List.mem_cons.mp z).elim fH z1,b_ fH]
     exact z2
    have S4:aT H1 (upd H' Dd (.lst xs)):=S'.trans S3
    show au _ X.A (oU (.Name x pos') X.env (.ref Dd)) _ _ s'
    refine QE (DW (v:=.ref Dd) I' hN Hl hx rfl (λs3 I3 uh=>?_) hf)
    obtain⟨aa,uh,Hh⟩:=uh
    have Hi:aa≠C:=by
     rcases Hh with z | z
     .subst z;exact fQ (eS I2.lt hC)
     .obtain⟨v,o,ho,_⟩:=I2.cell x aa z;exact jt ho
    refine⟨m,qW.sameBut uh (dC Hi),λkC jL=>?_⟩
    have I4:Inv X zn (σ.set j (some (.ref Dd))) (upd H' Dd (.lst xs)) { s3 with heap:=kC }:=I3.turned (t':=s3.toks) (it:=C) (λb o hb e=>jL.extBut b o hb e) (by rw[b_ (dC iR)];exact kY) (oV (eS I2.lt hC)) (.inr (fS I2.sz hC))
     (λx k e=>by obtain⟨v,o,ho,_⟩:=I2.cell x k e;exact jt ho) (λp de=>jt (I2.pin p de).1)
    exact⟨_,rfl,_,_,Dd::F,I4,(dI.same S4).cons dg,d9.set_own dI S4 hn dg Hg,E1.trans ⟨λb o _ h=>S4 _ _ h,λb hb=>(List.mem_cons.mp hb).elim (λz=>.inr (z ▸ hn)) .inl⟩,d_ zI⟩
   .exact absurd (show sd j f (.lst items) (O.set w (.own ws)) = .no from if_neg hl) hg
 | _=>exact absurd rfl hg
end
section
variable {prog:a5}{w:aX}{A:Around}{E:Value->ah->Prop}{s:ah}
def ke(prog:a5)(w:aX)(led:Bool)(h:Heap)(a:Addr)(S:Str->Bool)(n:Nat):Prop :=
 ∃(o:Obj) (es:Array (Int×Value)) (ep:Nat) (t:mR),(h.get? a=some o/\o.ExactSet/\o.data = .set es ep t)/\(Kl (strKind prog w) es.toList/\∀k,S k=true↔∃e∈es.toList,(strKind prog w).is k e.2=true)/\(es.size<rO/\t.fits es.size=true/\es.size=n)/\ik led t
def ke.Pl{led:Bool}{h h':Heap}{a:Addr}{S:Str->Bool}{n:Nat}(x:ke prog w led h a S n)(e:∀o,h.get? a=some o->h'.get? a=some o):ke prog w led h' a S n:=by
 obtain⟨o,es,ep,t,⟨q1,q2,q3⟩,rest⟩:=x
 exact⟨o,es,ep,t,⟨e o q1,q2,q3⟩,rest⟩
def ke.Pm{led:Bool}{h:Heap}{a:Addr}{S S':Str->Bool}{n n':Nat}(x:ke prog w led h a S n)(e:∀k,S k=S' k)(en:n=n'):ke prog w led h a S' n':=by
 have:S=S':=funext e
 subst this en
 exact x
def Pn{led:Bool}{h:Heap}{a:Addr}{o:Obj}{es cJ:Array (Int×Value)}{ep:Nat}{t t':mR}{S':Str->Bool}(q1:h.get? a=some o)(q2:o.ExactSet)(q3:o.data = .set es ep t)
 (q4:Kl (strKind prog w) cJ.toList) (q5:∀k,S' k=true↔∃e∈cJ.toList,(strKind prog w).is k e.2=true) (q6:cJ.size<rO) (q7:t'.fits cJ.size=true) (q8:ik led t') :
 (h.update a (R3 cJ t')).get? a=some { o with data:=.set cJ (ep+1) t' }/\ke prog w led (h.update a (R3 cJ t')) a S' cJ.size:=by
 have g:=(SetOf_store (knd:=strKind prog w) q1 q2 q3 q4 q5 q6 q7).1
 exact⟨g,_,cJ,ep+1,t',⟨g,q2,rfl⟩,⟨q4,q5⟩,⟨q6,q7,rfl⟩,q8⟩
def Po{led:Bool}{g:Bool->Sem Unit}(hg:∀(b:Bool) (s1:ah) (Q1:Unit->ah->Prop),Q1 () s1->au (aF prog w) A (g b) Q1 E s1)
 {a:Addr} {o:Obj} {es dR:Array (Int×Value)} {ep:Nat} {t t2:mR} {S':Str->Bool} {pU:Bool} {Z:Option Bool->ah->Prop} (q1:s.heap.get? a=some o) (q2:o.ExactSet) (q3:o.data = .set es ep t)
 (q4:Kl (strKind prog w) dR.toList) (q5:∀k,S' k=true↔∃e∈dR.toList,(strKind prog w).is k e.2=true) (q6:dR.size<rO) (q7:t2.fits dR.size=true) (q8:ik led t2)
 (z:∀h',rp a s.heap h'->ke prog w led h' a S' dR.size->Z (some true) { s with heap:=h' }) :
 au (aF prog w) A (do
  storeSet a dR t2
  if (!pU&&t2.tooFull)=true then do
      g (Ax t2 dR (xD dR.size)).2.2
      storeSet a (Ax t2 dR (xD dR.size)).1 (Ax t2 dR (xD dR.size)).2.1
      pure (some true)
   else pure (some true)) Z E s:=by
 refine aS (a5f q1 q3 ?_ (a5g q6))
 obtain⟨u1,u2⟩:=Pn (prog:=prog) (w:=w) q1 q2 q3 q4 q5 q6 q7 q8
 have sb:=a5h s.heap a (R3 dR t2)
 by_cases full:(!pU&&t2.tooFull)=true
 .rw[if_pos full]
  have v1:=relayAll_perm t2 dR (xD dR.size)
  have v2:=relayAll_fits t2 dR (xD dR.size)
  have v3:=q8.a0d dR (xD dR.size)
  generalize Ax t2 dR (xD dR.size)=W at v1 v2 v3 ⊢
  obtain⟨sQ,t3,gave⟩:=W
  dsimp only at v1 v2 v3 ⊢
  have v4:sQ.size=dR.size:=by rw[<-rq,v1.length_eq,rq]
  have v5:sQ.size<rO:=by lia
  refine aS (hg _ _ _ ?_)
  refine aS (a5f u1 rfl ?_ (a5g v5))
  obtain⟨_,u3⟩:=Pn (prog:=prog) (w:=w) (S':=S') u1 q2 rfl (q4.perm v1) (λk=>(q5 k).trans ⟨λ⟨e,he,q⟩=>⟨e,v1.mem_iff.mpr he,q⟩,λ⟨e,he,q⟩=>⟨e,v1.mem_iff.mp he,q⟩⟩) v5 v2 v3
  rw[v4] at u3
  exact bS (z _ (sb.trans (a5h _ a _)) u3)
 .rw[if_neg full]
  exact bS (z _ sb u2)
def a0l{led:Bool}{a:Addr}{S:Str->Bool}{n:Nat}{k:Str}{x:Value}{Q:Bool->ah->Prop}(hx:(strKind prog w).is k x=true)(Ib:x.scannable=true)(hS:ke prog w led s.heap a S n)(room:n+1<rO)
 (z:∀h',rp a s.heap h'->ke prog w led h' a (λk'=>S k'||decide (k'=k)) (if S k then n else n+1)->Q (!S k) { s with heap:=h' }) :
 au (aF prog w) A (setAddHashed a x ((strKind prog w).hash k)) Q E s:=by
 obtain⟨o,es,ep,t,⟨q1,q2,q3⟩,⟨q4,q5⟩,⟨q6,q7,q9⟩,q8⟩:=hS
 have more:es.size+1<rO:=by lia
 unfold setAddHashed setAddHashedIn
 refine iV (aS (wpAny_setState_of q1 q3 q7 ?_))
 dsimp only
 rw[byScan_of Ib q6 q4]
 simp only[↓reduceIte]
 unfold setAddByScan
 refine aS (aS (Ka (aS (wpAny_setScan_of hx q1 q3 q7 q4 ?_))))
 cases hr:List.findIdx? (λe=>(strKind prog w).is k e.2) es.toList with
 | some j =>
   dsimp only
   obtain⟨j1,j2,_⟩:=List.findIdx?_eq_some_iff_getElem.mp hr
   have sk:S k=true:=(q5 k).mpr ⟨es.toList[j],Ag j1,j2⟩
   refine bS (bS ?_)
   have e:s={ s with heap:=s.heap }:=by cases s;rfl
   have y:=z s.heap (Heap.SameBut.refl a s.heap) ⟨o,es,ep,t,⟨q1,q2,q3⟩,⟨q4,λk'=>by
    rw[RI,decide_eq_true_eq,<-q5 k']
    exact⟨λhk=>hk.elim id (λe=>e ▸ sk),.inl⟩⟩,⟨q6,q7,by rw[sk];exact q9⟩,q8⟩
   rw[sk] at y
   rw[e];exact y
 | none =>
   dsimp only
   have sk:S k=false:=by
    cases hk:S k with
    | false=>rfl
    | true =>
      obtain⟨e,he,hp⟩:=(q5 k).mp hk
      have:=List.findIdx?_eq_none_iff.mp hr e he
      rw[hp] at this;cases this
   have v1:=layNew_perm t es ((strKind prog w).hash k) x
   have v2:=layNew_fits t es ((strKind prog w).hash k) x
   have v3:=q8.a0c es ((strKind prog w).hash k) x
   generalize layNew t es ((strKind prog w).hash k) x=W at v1 v2 v3 ⊢
   obtain⟨dR,t1,pU,gave⟩:=W
   dsimp only at v1 v2 v3 ⊢
   rw[Array.toList_push] at v1
   have a0m:dR.size=n+1:=by rw[<-rq,v1.length_eq,aY,rq,q9];rfl
   have u4:Kl (strKind prog w) dR.toList:=(q4.push hx Ib).perm v1
   have u5:∀k',(S k'||decide (k'=k))=true↔∃e∈dR.toList,(strKind prog w).is k' e.2=true:=mem_push_iff hx q5 v1
   have u6:dR.size<rO:=by lia
   have gw:∀(b:Bool) (s1:ah) (Q1:Unit->ah->Prop),Q1 () s1->au (aF prog w) A (match b with | true=>rule "set.scan.the-table-gave-way" | false=>pure ()) Q1 E s1:=λb s1 Q1 hq=>by
    cases b
    .exact bS hq
    .exact Ka hq
   have fin:∀h',rp a s.heap h'->ke prog w led h' a (λk'=>S k'||decide (k'=k)) dR.size->Q true { s with heap:=h' }:=λh' sb y=>by
    have y2:=z h' sb
    rw[sk] at y2
    rw[a0m] at y
    exact y2 y
   refine aS (gw _ _ _ ?_)
   by_cases pl:t1.plain=true
   .rw[if_pos pl]
    refine aS ?_
    rw[hashByValue_scannable 8 Ib]
    refine bS ?_
    have v2':(if plainKind x=true then t1 else { t1 with plain:=false }).fits dR.size=true:=by
     split
     .exact v2
     .exact SetTable.fits_plain_off v2
    have v3':ik led (if plainKind x=true then t1 else { t1 with plain:=false }):=by
     split
     .exact v3
     .exact v3.a0e
    refine Po gw q1 q2 q3 u4 u5 u6 v2' v3' ?_
    intro h' sb y
    exact bS (fin h' sb y)
   .rw[if_neg pl]
    refine aS (bS ?_)
    simp only[↓reduceIte]
    refine Po gw q1 q2 q3 u4 u5 u6 v2 v3 ?_
    intro h' sb y
    exact bS (fin h' sb y)
def Pp:∀(xs:List Str),(fw xs).length<=xs.length:=λxs=>by
 induction h:xs.length generalizing xs with
 | zero=>rw[List.length_eq_zero_iff.mp h];exact a9 _
 | succ n ih =>
   have hd:xs≠[]:=λz=>by rw[z] at h;cases h
   rw[<-a3r hd,EN]
   have:=ih xs.dropLast (by rw[a3c];lia)
   split
   .lia
   .rw[a3];lia
def x9l{led:Bool}{Z:nU->ah->Prop}{I:Addr}{fp wr:List Addr}{G:Array z9->Array z9->Prop}{P:Nat->Value->Prop}{St:Nat->ah->Prop}{ks:List Str}(W:WalksS prog w A.in1 I fp wr G ks.length P St)(a:Addr)(ha:a ∉ fp)
 (a0n:∀i v,P i v->∃k t,ks[i]? = some k/\v = .str k t) (hb:ks.length+1<rO) :
 ∀(k i:Nat) (s:ah),ks.length-i=k->i<=ks.length->St i s->ke prog w led s.heap a (λk'=>(fw (ks.take i)).any (·==k')) (fw (ks.take i)).length ->
  (∀s',Moved (a::wr) G s s'->ke prog w led s'.heap a (λk'=>(fw ks).any (·==k')) (fw ks).length->Z (.ok (.ret .none)) s') ->
  jN (aF prog w) A (.builtin "set.update.loop" ⟨[.ref a,.ref I],[]⟩) Z s:=by
 have aw:a ∉ wr:=λh=>ha (W.sub _ h)
 have Pq:∀b∈wr,b∈a::wr:=λb hb=>eU _ hb
 intro k
 induction k with
 | zero =>
   intro i s hk hi st hS hZ
   obtain rfl:i=ks.length:=by lia
   rw[Dv] at hS
   refine Au a5i ?_
   rw[RZ R4 _]
   show au _ A.in1 (Js (.ref I)>>=_) _ _ s
   refine aS (W.done s _ _ st λs' mv=>?_)
   exact bS (hZ s' (mv.mono Pq) (hS.Pl λo e=>mv.heap a o aw e))
 | succ k ih =>
   intro i s hk hi st hS hZ
   have lt:i<ks.length:=by lia
   refine Au a5i ?_
   rw[RZ R4 _]
   show au _ A.in1 (Js (.ref I)>>=_) _ _ s
   refine aS (W.item i s _ _ lt st λv s' hP km mv=>?_)
   obtain⟨kk,t,hki,rfl⟩:=a0n i v hP
   have zP:=hS.Pl λo e=>mv.heap a o aw e
   show au _ A.in1 (Ak [zZ kk t] (setAdd a (.str kk t))>>=_) _ _ s'
   refine aS (iV ?_)
   unfold setAdd
   refine iV (aS ((strKind prog w).pyHash (k:=kk) (strKind_is _ _ _ _) ?_))
   refine a0l (s:={ s' with toks:=s'.toks+1 }) (strKind_is _ _ _ _) rfl zP (by have:=Pp (ks.take i);rw[dW] at this;lia) λh' sb y=>?_
   have y':ke prog w led h' a (λk'=>(fw (ks.take (i+1))).any (·==k')) (fw (ks.take (i+1))).length:=by
    have et:ks.take (i+1)=ks.take i++[kk]:=by rw[List.take_add_one,hki,Option.toList_some]
    have Ic:∀(l:List Str) (k':Str),(l.any (·==k'))=decide (k'∈l):=λl k'=>by
     rw[a5j]
     simp
    refine y.Pm (λk'=>?_) ?_
    .rw[et,EN,Ic,Ic]
     by_cases z:kk∈fw (ks.take i)
     .rw[if_pos z]
      by_cases z2:k'=kk
      .subst z2;simp[z]
      .simp[z2]
     .rw[if_neg z,a5j]
      simp[or_comm]
    .rw[et,EN,Ic]
     by_cases z:kk∈fw (ks.take i)
     .rw[if_pos z];simp[z]
     .rw[if_neg z];simp[z]
   refine bS ⟨RY R4 _,ih (i+1) _ (by lia) lt (W.frame _ s' _ _ km (R5 _) λb hb o e=>?_) y' λn4 mv' y''=>?_⟩
   .rw[sb.2 b (λz:b=a=>ha (by rw[<-z];exact hb))];exact e
   .refine hZ n4 (Moved.trans W.gtrans ((mv.mono Pq).then_heap (R5 _) λb o hb e=>?_) mv') y''
    rw[sb.2 b (λz:b=a=>hb (by rw[z];exact fI))];exact e
def w8m{led:Bool}{h:Heap}{a:Addr}(e:h.get? a=some { cls:=.type "set",dict:=none,data:=.set #[] 0 (.fresh 0 0 led) }):ke prog w led h a (λ_=>false) 0 :=
 ⟨_,#[],0,_,⟨e,⟨rfl,rfl,rfl⟩,rfl⟩,⟨λe he=>by simp at he,λk=>by simp⟩,⟨by decide,by rfl,rfl⟩,⟨rfl,rfl,λ_=>.nil⟩⟩
def w1u{l:Addr}{lt:List (Str×Tok)}{Q:Value->ah->Prop}(hh:A.handled=none)(hl:s.heap.IsList l (kH lt).toArray)(hb:lt.length+1<rO)
 (q:∀(h':Heap) (tk:Nat),ke prog w (lg w) h' s.heap.objs.size (λk'=>(fw (lt.map (·.1))).any (·==k')) (fw (lt.map (·.1))).length ->
   (∀b o,b<s.heap.objs.size->s.heap.get? b=some o->h'.get? b=some o)->Q (.ref s.heap.objs.size) { s with heap:=h',toks:=tk }) :
 au (aF prog w) A (call (.type "set") [.ref l]) Q E s:=by
 obtain⟨c,tl,CS⟩:=F.called_set.mro
 have Nz:=F.called_set.made;have a0g:=F.called_set.sub
 refine Ao (a4u (show au _ _ (callAny (.type "set") _) _ _ _ from ?_))
 refine bS ⟨a4p _ (by trivial),Au F.entry_type_call ?_⟩;rw[Around.under_plain (weight_type_call_type "set" [.ref l] []) rfl]
 have h1:=F.called_set.notType;have h2:=F.called_set.canCreate;have hct:=F.typeCall_set_1 (.ref l)
 (repeat (any_goals (first | assumption | wp_step)))
 refine p8 (a0f (.ref l) (E:=E) (Q1:=λobj s1=>obj = .ref s.heap.objs.size/\s1={ s with heap:=s.heap.push { cls:=.type "set",dict:=none,data:=.set #[] 0 (.fresh 0 0 (lg w)) } }) ⟨rfl,rfl⟩) λr s1 hr=>?_
 cases r with
 | error e=>exact hr
 | ok fl =>
   cases fl with
   | ret obj =>
     obtain⟨rfl,rfl⟩:=hr
     have hS:(s.heap.push { cls:=.type "set",dict:=none,data:=.set #[] 0 (.fresh 0 0 (lg w)) }).get? s.heap.objs.size=some { cls:=.type "set",dict:=none,data:=.set #[] 0 (.fresh 0 0 (lg w)) }:=g0 _ rfl
     have hT:Shared.TypeIs { s with heap:=s.heap.push { cls:=.type "set",dict:=none,data:=.set #[] 0 (.fresh 0 0 (lg w)) } } (.ref s.heap.objs.size) "set":=⟨_,hS,rfl⟩
     have hli:=F.called_set.init.lookup;have hbi:=F.called_set.init.bind (.ref s.heap.objs.size)
     (repeat (any_goals (first | assumption | wp_step)))
     refine p8 (RU (R:=wants (λr s2=>r = .none/\∃h' tk,s2={ s with heap:=h',toks:=tk } /\
      ke prog w (lg w) h' s.heap.objs.size (λk'=>(fw (lt.map (·.1))).any (·==k')) (fw (lt.map (·.1))).length /\
      (∀b o,b<s.heap.objs.size->s.heap.get? b=some o->h'.get? b=some o)) E) F.called_set.init.plain F.entry_set_init (check_set_init_1 hT ?_)) λr2 s2 Ie=>?_
     .obtain⟨⟨a6r,a0o,a6s,a0p⟩,Pr,pS,nl,Pt⟩:=hl
      simp only at pS Pt
      subst pS Pt
      have a0q:(s.heap.push { cls:=.type "set",dict:=none,data:=.set #[] 0 (.fresh 0 0 (lg w)) }).get? l=some { cls:=.type "list",dict:=a0o,data:=.seq (kH lt).toArray nl,slots:=a0p }:=eX _ Pr
      have a6t:=F.sub_list_set;have a6u:=F.sub_list_frozenset
      have bO:(wZ "list"==wZ "dict")=false:=by decide
      have wI:(s.heap.push { cls:=.type "set",dict:=none,data:=.set #[] 0 (.fresh 0 0 (lg w)) }).IsList l (kH lt).toArray:=⟨_,a0q,rfl,nl,rfl⟩
      unfold Builtin.«set.__init__» noKeywords Builtin.Frozenset.updateFrom;generalize hPI:rA=PI
      wp_walk
      subst hPI
      refine JV wI (aS (a5k ?_))
      have Pu:l<s.heap.objs.size:=cG Pr
      have hh3:A.in1.in1.in1.handled=none:=by simp[hh]
      have hnI:l≠(s.heap.push { cls:=.type "set",dict:=none,data:=.set #[] 0 (.fresh 0 0 (lg w)) }).objs.size:=by rw[DH];exact fQ (a5l Pu)
      have wK:s.heap.objs.size ∉ [(s.heap.push { cls:=.type "set",dict:=none,data:=.set #[] 0 (.fresh 0 0 (lg w)) }).objs.size,l]:=by
       rw[DH];simp only[gS,JK,iX,or_false,not_or];exact⟨fQ (DJ _),oV Pu⟩
      have W:=(RH (prog:=prog) (w:=w) hh3 _ l hnI (kH lt).toArray).toS
      have jh:(kH lt).toArray.size=(lt.map (·.1)).length:=by unfold kH;simp
      rw[jh] at W
      refine x9l (led:=lg w) W s.heap.objs.size wK (λi v hv=>?_) (by rw[aZ];exact hb) ((lt.map (·.1)).length-0) 0 _ (by lia) (rK _) ⟨⟨_,g0 _ rfl,rfl,rfl⟩,(wI.push _)⟩ ?_ ?_
      .have hv':lt[i]?.map (λp=>zZ p.1 p.2)=some v:=by
        have:(kH lt)[i]? = some v:=by simpa using hv
        unfold kH at this
        rw[jO] at this;exact this
       obtain⟨p,hp,rfl⟩:=Option.map_eq_some_iff.mp hv'
       exact⟨p.1,p.2,by rw[jO,hp];rfl,rfl⟩
      .have hg:((s.heap.push { cls:=.type "set",dict:=none,data:=.set #[] 0 (.fresh 0 0 (lg w)) }).push { cls:=.type "list_iterator",data:=.fields #[.ref l,.int 0 0] }).get? s.heap.objs.size=some { cls:=.type "set",dict:=none,data:=.set #[] 0 (.fresh 0 0 (lg w)) }:=eX _ hS
       exact(w8m hg).Pm (λ_=>rfl) rfl
      .intro s' mv y
       obtain⟨h',g',d',tk',qh⟩:=s'
       obtain rfl:g'=s.gens:=mv.gens
       obtain rfl:d'=s.drawn:=mv.drawn
       obtain rfl:qh=s.os:=mv.os
       show au _ _ _ _ _ _
       refine bS (show au _ _ (ret kg) _ _ _ from bS ⟨rfl,h',tk',rfl,y,λb o hb e=>?_⟩)
       have b1:b≠s.heap.objs.size:=fQ hb
       have b2:b≠(s.heap.push { cls:=.type "set",dict:=none,data:=.set #[] 0 (.fresh 0 0 (lg w)) }).objs.size:=by rw[DH];exact fQ (a5l hb)
       exact mv.heap b o (by simp only[gS,JK,iX,or_false,not_or];exact⟨b1,b2⟩) (eX _ (eX _ e))
     .cases r2 with
      | error e=>exact Ie
      | ok uq =>
        cases uq with
        | ret r =>
          obtain⟨rfl,h',tk,rfl,y,keep⟩:=Ie
          (repeat (any_goals (first | assumption | wp_step)))
          exact q _ _ y keep
        | _=>exact Ie.elim
   | _=>exact hr.elim
end
section
variable {X:Cx}{a b:Expr}{ga gb:G->R D}{p p2 pos pos':Pos}
def w0h(ha:PD X a ga)(hm1:X.mg "len"=none)(hm2:X.mg "set"=none)(gQ:X.calm=true)(aN:Gl X "len":=by rfl)(cA:Gl X "set":=by rfl)
 (zM:a8 [.Call (.Name "set" p2) [a] [] pos'] X.env=[(false,eval (.Call (.Name "set" p2) [a] [] pos') X.env)]:=by rfl) (sL:a8 [a] X.env=[(false,eval a X.env)]:=by rfl) :
 PD X (.Call (.Name "len" p) [.Call (.Name "set" p2) [a] [] pos'] [] pos) (vv ga):=by
 refine⟨λzn s σ H F O I fo rl bR=>?_⟩
 refine mQ (kl I aN hm1 (show nR (oX "len")=some (.builtin "len") by trivial) (JU ?_ zM rfl))
 rw[zM]
 show au _ _ (fJ ((false,eval (.Call (.Name "set" p2) [a] [] pos') X.env)::cD pos [])) _ _ s
 refine gF ?_
 refine mQ (kl I cA hm2 w1v (tf ?_ sL rfl))
 rw[sL]
 show au _ _ (fJ ((false,eval a X.env)::cD pos' [])) _ _ s
 refine gF (aq (ha.run zn s σ H F O I fo rl (R.left bR)) (λu s1 ⟨d,v,H1,e1,I1,r1,S1,i1⟩=>jz ?_) λ_ _ x=>x.bind _)
 have Ig:=R.next bR e1
 cases d with
 | lst ds =>
   cases q:strs? ds with
   | none=>exact absurd (show(match strs? ds with | some xs=>R.guard (xs.length<=1000) (R.ok (D.int (fw xs).length)) | none=>R.no) = .no by rw[q]) Ig
   | some xs =>
     have mL:R.guard (xs.length<=1000) (R.ok (D.int (fw xs).length)) ≠ .no:=by
      have h:=Ig
      dsimp only at h
      rw[q] at h;exact h
     obtain⟨aU,e3⟩:=R.cK mL
     obtain rfl:=Bh q
     obtain⟨l,vs,rfl,h1,h2⟩:=Is.fD.mp i1
     cases (show u=dS l from r1)
     obtain⟨xL,rv,pl,hz⟩:=I1.list h1
     obtain⟨lt,rfl,dt⟩:=C2 h2 rv
     have hh:X.A.handled=none:=I1.ok.hd gQ
     have O7:lt.length=xs.length:=by rw[<-dt,aZ]
     refine w1u (s:=s1) hh pl.isList (by unfold rO;lia) λh' tk y keep=>jz ?_
     obtain⟨o,es,ep,t,⟨w1,w2,w3⟩,_,⟨w6,w7,w8⟩,_⟩:=y
     rw[dt] at w8
     have M3:=Pp xs
     refine call_len_set (s:={ s1 with heap:=h',toks:=tk }) w1 w2 w3 w7 (by rw[w8];lia) ?_
     have a0r:∀b o,s1.heap.get? b=some o->h'.get? b=some o:=λb o e=>keep b o (cG e) e
     refine⟨.int (fw xs).length,.int (fw xs).length,H1,(R.step e1 _).trans ?_,I1.kept a0r,?_,S1,Is.bZ.mpr rfl⟩
     .show(match strs? (xs.map D.str) with | some xs=>R.guard (xs.length<=1000) (R.ok (D.int (fw xs).length)) | none=>R.no)=_
      rw[q];exact e3
     .rw[w8];exact⟨_,rfl⟩
 | _=>exact absurd rfl Ig
def Pw(hu:X.A.units+64<i_):gO X (i9 .NotIn) z9s:=by
 refine⟨λx y H Q=>∃dx ys,Is X.K H dx x/\Is X.K H (.tup ys) y/\D.lay 40 dx=true/\D.lay 40 (.tup ys)=true/\Q (.bl (!(ys.any λy=>bG y dx))) H,?_,λH x y dx dy ix iy hg=>?_⟩
 .intro zn s σ H x y v u Q I rx ry h
  obtain⟨dx,ys,ix,iy,l1,l2,q⟩:=h
  obtain⟨as,ra⟩:=pO I 40 dx x v l1 ix rx
  obtain⟨bs,rb⟩:=pO I 40 (.tup ys) y u l2 iy ry
  have p1:=pN 40 dx l1
  have p2:=pN 40 (.tup ys) l2
  have ey:D.py (.tup ys) = .tuple (D.fE ys):=by simp[D.py]
  rw[ey] at rb p2
  have c2:Am (D.fE ys)=true:=by simpa [td] using p2.1
  have GP:X.A.units+64<i_:=hu
  refine x0o (a4w rb ra c2 p1.1 (show X.A.units+1+min (An (D.fE ys)) dx.py.depth<i_ by lia) ⟨_,rfl,.bl (!(ys.any λy=>bG y dx)),H,I,?_,q⟩)
  rw[CW];rfl
 .cases dy with
  | tup ys =>
    obtain⟨⟨l1,l2⟩,e⟩:=R.cK (show R.guard (D.lay 40 dx=true/\D.lay 40 (.tup ys)=true) (R.ok (D.bl (!(ys.any λy=>bG y dx)))) ≠ .no from hg)
    exact⟨dx,ys,ix,iy,l1,l2,.bl (!(ys.any λy=>bG y dx)),e,.refl _,Is.gN.mpr rfl⟩
  | _=>exact absurd rfl hg
end
def x6y:QU (.type "list_reverseiterator") "__len__"=pure none:=by rw[a5m,a5n];kernel_rfl
def w1e:QU (.type "list_reverseiterator") "__length_hint__"=pure (some (.builtin "list_reverseiterator.__length_hint__")):=by rw[a5m,a5n];kernel_rfl
section
variable {prog:a5}{w:aX}{A:Around}{E:Value->ah->Prop}{s:ah}{R:nU->ah->Prop}{I:Addr}{fp wr:List Addr}{G:Array z9->Array z9->Prop}{n:Nat}{P:Nat->Value->Prop}{St:Nat->ah->Prop}
def w5l(W:WalksS prog w A.in1 I fp wr G n P St)(hT:∀i s,St i s->s.TypeIs (.ref I) "list_reverseiterator")(S:Addr)(res:Value)(c₀:Nat)(sX:St 0 s)(wK:S ∉ fp)(hI:I∈fp)(hS:s.heap.get? S=some { cls:=.type "list",data:=.seq #[] c₀ })
 (hR:∀s' kf c',Moved (S::wr) G s s'->s'.heap.get? S=some { cls:=.type "list",dict:=none,data:=.seq kf c',slots:=#[] }->ItemsOf P kf n->R (.ok (.ret res)) s') (hn:n<=bK) :
 au (aF prog w) A.in1 (Km (.ref S) (.ref I) res)
  (λfin s'=>match fin with | .done f=>R (.ok f) s' | .again c'=>c'.quiet=true/\jN (aF prog w) A c' R s') (λe s'=>R (.error e) s') s:=by
 have hSI:S≠I:=λe=>wK (e ▸ hI)
 unfold Km
 refine aS (JB (hT 0 _ sX) ?_)
 have h1:a5o (.ref S) (.ref I)=false:=by simp[a5o,hSI]
 have h2:(wZ "list_reverseiterator"==wZ "list")=false:=by decide
 have h3:(wZ "list_reverseiterator"==wZ "tuple")=false:=by decide
 simp only[h1,h2,h3,Dl,Rn,if_false]
 refine aS (W.self 0 _ _ _ sX ?_)
 refine aS (iV ?_)
 unfold Builtin.List.listLengthHint
 refine aS (a5p (hT 0 _ sX) x6y ?_)
 show au _ A.in1 (specialOf (dS I) (oX "__length_hint__")>>=_) _ _ _
 refine aS (a5p (hT 0 _ sX) w1e ?_)
 (generalize aM:("list_reverseiterator.__length_hint__":String)=id0;wp_delta;rw[show splitId id0=some ("list_reverseiterator","__length_hint__") from by subst aM;trivial];subst aM)
 refine aS (wpAny_isInstance (b:=true) (hT 0 _ sX) (by rw[isSubtype_type];kernel_rfl) ?_)
 refine bS ?_
 rw[if_neg (by decide)]
 exact bS ⟨RY PySem.F.plain_extend_loop _,codeAny_extend_loopS W hn _ wK _ n 0 _ _ _ rfl (rK _) sX hS (ItemsOf.nil P) λs' kf c' hm zP sN=>hR s' kf c' hm zP sN⟩
def w0x{l:Addr}{items:Array Value}{Q:Value->ah->Prop}(hh:A.handled=none)(hl:s.heap.IsList l items)(hr:s.heap.IsRevIter I l ((items.size:Int)-1))(hz:items.size<=bK)
 (hQ:∀(h':Heap) (tk:Nat) kf c',(∀b o,b≠I->s.heap.get? b=some o->h'.get? b=some o)->h'.get? s.heap.objs.size=some { cls:=.type "list",dict:=none,data:=.seq kf c',slots:=#[] }->ItemsOf (λi v=>items[items.size-1-i]? = some v) kf items.size->Q (.ref s.heap.objs.size) { s with heap:=h',toks:=tk }) :
 au (aF prog w) A (call (.type "list") [.ref I]) Q E s:=by
 have bO:l≠I:=λe=>by
  obtain⟨o,ho,hc,_⟩:=hl
  obtain⟨o',dJ,o7,_⟩:=hr
  rw[e,dJ] at ho;cases ho
  rw[hc] at o7;exact absurd o7 (by decide)
 have ltI:I<s.heap.objs.size:=let ⟨o,ho,_⟩:=hr;cG ho
 have Px:l<s.heap.objs.size:=let ⟨o,ho,_⟩:=hl;cG ho
 have wK:s.heap.objs.size ∉ [I,l]:=by
  simp only[gS,iX,or_false,not_or]
  exact⟨oV ltI,oV Px⟩
 refine callType_codes (Q₁:=λobj bT=>obj = .ref s.heap.objs.size/\bT={ s with heap:=s.heap.push { cls:=.type "list",data:=.seq #[] } }) PySem.F.called_list (PySem.F.typeCall_list_1 _) PySem.F.entry_list_init
  (code_list_new _ ⟨rfl,rfl⟩) λobj bT gy=>?_
 obtain⟨rfl,rfl⟩:=gy
 have hS:(s.heap.push { cls:=.type "list",data:=.seq #[] }).get? s.heap.objs.size=some { cls:=.type "list",data:=.seq #[] }:=g0 _ rfl
 refine⟨⟨_,hS,rfl⟩,PySem.F.args_list_init_2 _ _,?_⟩
 show au _ _ (do let old <-a5q (.ref s.heap.objs.size);Builtin.List.listUpdate (.ref s.heap.objs.size) (λ_=>#[]);letGo old.toList.reverse;Km (.ref s.heap.objs.size) (.ref I) .none) _ _ _
 refine aS ?_
 unfold a5q
 refine aS (wpAny_seqItems hS rfl (bS ?_))
 show au _ _ (updateSeq s.heap.objs.size (λ_=>#[])>>=λ_=>letGo (#[]:Array Value).toList.reverse>>=λ_=>Km (.ref s.heap.objs.size) (.ref I) .none) _ _ _
 refine aS (wpAny_updateSeq hS rfl ?_)
 have a0s:=xi (xh (λ_=>(#[]:Array Value))) hS rfl
 have pL:∀b o,b<s.heap.objs.size->s.heap.get? b=some o->((s.heap.push { cls:=.type "list",data:=.seq #[] }).update s.heap.objs.size (xh (λ_=>(#[]:Array Value)))).get? b=some o :=
  λb o hb e=>(rE _ _ (oV hb)).trans (eX _ e)
 refine aS (wpAny_letGo ?_)
 have W:=(Walks.listRev (prog:=prog) (w:=w) (A:=A.in1.in1) (by simp[hh]) I l bO items).toS
 refine w5l W (λi s st=>st.2.1.typeIs) s.heap.objs.size .none _ ?_ wK (by simp) a0s (λs' kf c' hm zP sN=>?_) hz
 .refine⟨rK _,?_,?_⟩
  .show Heap.IsRevIter _ I l ((items.size:Int)-1-((0:Nat):Int))
   rw[show((items.size:Int)-1-((0:Nat):Int))=(items.size:Int)-1 by lia]
   exact hr.at λo e=>pL I o ltI e
  .obtain⟨o,ho,r⟩:=hl
   exact⟨o,pL l o Px ho,r⟩
 .rw[Moved.eq_with hm]
  exact⟨rfl,hQ s'.heap s'.toks kf c' (λb o hb e=>hm.heap b o (by
   simp only[gS,iX,or_false,not_or]
   exact⟨fQ (cG e),hb⟩) (pL b o (cG e) e)) zP sN⟩
end
section
variable {prog:a5}{w:aX}{A:Around}{E:Value->ah->Prop}
def w5f{items:Array Value}{x:Str}{t:Tok}{j:Nat}{f:Nat->Option tm×Unit->Sem (ForInStep (Option tm×Unit))}{Q:Option tm×Unit->ah->Prop}
 (hf:∀i r,f i r=(match items[i]? with
   | some y=>eqBool y (.str x t)>>=λc=>if c=true then retInt (i:Int)>>=λr=>pure (.done (some r,())) else pure (.yield (none,()))
   | none=>pure (.yield (none,()))))
 (hj:∃u,items[j]? = some (.str x u)) (mr:∀m,m<j->∃y u,items[m]? = some (.str y u)/\y≠x) {s:ah}
 (h:Q (some (.done (.ret (.int (j:Int) s.toks))),()) { s with toks:=s.toks+1 }):∀k n:Nat,n<=j->j<n+k->au (aF prog w) A (forIn (R6 n k) ((none,()):Option tm×Unit) f) Q E s:=by
 intro k
 induction k with
 | zero=>intro n h1 h2;lia
 | succ k ih =>
   intro n h1 h2
   rw[List.range'_succ,List.forIn_cons,hf]
   by_cases e:n=j
   .subst e
    obtain⟨u,eu⟩:=hj
    rw[eu]
    refine aS (aS (Qz ?_))
    rw[if_pos (by simp)]
    unfold retInt
    obtain⟨hp,g,dd,tk,os⟩:=s
    wp_walk
    exact h
   .obtain⟨y,u,eu,ne⟩:=mr n (by lia)
    rw[eu]
    refine aS (aS (Qz ?_))
    rw[if_neg (by simpa using ne)]
    refine bS ?_
    exact ih (n+1) (by lia) (by lia)
def w1c{items:Array Value}{x:Str}{t:Tok}{j:Nat}{f:Nat->Option tm×Unit->Sem (ForInStep (Option tm×Unit))}{Q:Option tm×Unit->ah->Prop}
 (hf:∀i r,f i r=(match items[i]? with
   | some y=>eqBool y (.str x t)>>=λc=>if c=true then retInt (i:Int)>>=λr=>pure (.done (some r,())) else pure (.yield (none,()))
   | none=>pure (.yield (none,()))))
 (hj:∃u,items[j]? = some (.str x u)) (mr:∀m,m<j->∃y u,items[m]? = some (.str y u)/\y≠x) {s:ah}
 (h:Q (some (.done (.ret (.int (j:Int) s.toks))),()) { s with toks:=s.toks+1 }):au (aF prog w) A (forIn [:min items.size items.size] ((none,()):Option tm×Unit) f) Q E s:=by
 rw[Std.Legacy.Range.forIn_eq_forIn_range',show R6 ([:min items.size items.size]:R7).start ([:min items.size items.size]:R7).size ([:min items.size items.size]:R7).step=R6 0 (min items.size items.size) by simp[Std.Legacy.Range.size]]
 exact w5f hf hj mr h _ 0 (rK _) (by obtain⟨u,eu⟩:=hj;have:=(Array.getElem?_eq_some_iff.mp eu).1;lia)
def x5g{items:Array Value}{l:Addr}{x:Str}{t:Tok}{j:Nat}{Q:tm->ah->Prop}{s:ah}(hl:w9 s.heap l items)
 (hj:∃u,items[j]? = some (.str x u)) (mr:∀m,m<j->∃y u,items[m]? = some (.str y u)/\y≠x)
 (h:Q (.done (.ret (.int (j:Int) s.toks))) { s with toks:=s.toks+1 }):au (aF prog w) A (Builtin.«tuple.index» ⟨[.ref l,.str x t],[]⟩) Q E s:=by
 obtain⟨o,e,c,n,d⟩:=hl
 unfold Builtin.«tuple.index» QT
 obtain⟨hp,g,dd,tk,os⟩:=s
 wp_walk using wpAny_loadPart' e
 rw[d]
 wp_walk
 refine w1c (items:=items) (x:=x) (t:=t) (j:=j) (λi r=>?_) hj mr (bS h)
 cases items[i]? <;> rfl
end
section
variable {X:Cx}{e a b:Expr}{g ga gb:G->R D}{p p' pos pos' apos b6:Pos}
def y6p:jS X (.type "int") (λxs H Q=>∃x n,xs=[.str x]/\x.length<=640/\intText? x=some n/\Q (.int n) H):=by
 intro zn s σ H xs us Q I r h
 obtain⟨x,n,rfl,hl,hn,q⟩:=h
 obtain⟨u,rfl,t,rfl⟩:=qg r
 exact PySem.W.KIN.call_text hn hl ⟨.int n,H,I.tok _,⟨_,rfl⟩,q⟩
def w5s:mG X (.type "int") vw:=by
 refine⟨_,y6p (X:=X.b5),λH xs ds i hg=>?_⟩
 unfold vw at hg
 split at hg
 .rename_i x
  obtain⟨v,rfl,h⟩:=nD i
  obtain⟨hz,e⟩:=R.cK hg
  cases Is.fW.mp h
  cases hn:intText? x with
  | none=>rw[hn] at hg;rw[R.guard_pos hz] at hg;exact absurd rfl hg
  | some n=>exact⟨x,n,rfl,hz,hn,.int n,e.trans (by rw[hn]),.refl _,Is.bZ.mpr rfl⟩
 .exact absurd rfl hg
def x4b(ha:PD X a ga)(hmr:X.mg "reversed"=none)(hm:X.mg "list"=none)(hc:X.calm=true)(hgr:Gl X "reversed":=by rfl)(hg:Gl X "list":=by rfl)(hs:a8 [a] X.env=[(false,eval a X.env)]:=by rfl)
 (he:a8 [Expr.Call (.Name "reversed" p') [a] [] pos'] X.env=[(false,eval (.Call (.Name "reversed" p') [a] [] pos') X.env)]:=by rfl):PF X (.Call (.Name "list" p) [.Call (.Name "reversed" p') [a] [] pos'] [] pos) (z5o ga):=by
 refine⟨λzn s σ H F O I fo rl bR=>?_⟩
 refine mQ (kl I hg hm (by trivial:nR "list"=some (.type "list")) ?_ (by decide) (by decide))
 refine tf ?_ he rfl
 rw[he]
 show au _ _ (fJ ((false,eval (.Call (.Name "reversed" p') [a] [] pos') X.env)::cD pos [])) _ _ s
 refine gF ?_
 refine DG (kl I hgr hmr w1w (tf ?_ hs rfl))
 rw[hs]
 show au _ _ (fJ ((false,eval a X.env)::cD pos' [])) _ _ s
 refine gF (aq (ha.run zn s σ H F O I fo rl (R.left bR)) (λu s1 ⟨d,v,H1,e1,I1,r1,S1,i1⟩=>jz ?_) λ_ _ x=>x.bind _)
 have aN:=R.next bR e1
 cases d with
 | lst ds =>
   obtain⟨⟨h3,tZ⟩,e3⟩:=R.cK (show R.guard (ds.length<=100000/\D.bQ ds=true) (R.ok ds.reverse) ≠ .no from aN)
   obtain⟨l,xs,rfl,q1,j1⟩:=Is.fD.mp i1
   cases (show u=dS l from r1)
   obtain⟨xL,rv,pl,hz⟩:=I1.list q1
   have hlen:=rv.length
   refine call_reversed_list pl.isList (jz ?_)
   have a1:(s1.heap.push (Ay l ((xL.toArray.size:Int)-1))).IsRevIter s1.heap.objs.size l ((xL.toArray.size:Int)-1):=⟨_,g0 _ rfl,rfl,rfl⟩
   have wI:(s1.heap.push (Ay l ((xL.toArray.size:Int)-1))).IsList l xL.toArray:=pl.isList.push _
   refine w0x (s:={ s1 with heap:=s1.heap.push (Ay l ((xL.toArray.size:Int)-1)) }) (I1.ok.hd hc) wI a1 (by rw[dD,<-hlen];exact hz) λh' tk kf c' kp hl sN=>?_
   have jh:(s1.heap.push (Ay l ((xL.toArray.size:Int)-1))).objs.size=s1.heap.objs.size+1:=by rw[DH]
   have kp':∀b o,s1.heap.get? b=some o->h'.get? b=some o:=λb o e=>kp b o (fQ (cG e)) (eX _ e)
   have Py:s1.heap.objs.size<=(s1.heap.push (Ay l ((xL.toArray.size:Int)-1))).objs.size:=by rw[jh];exact R5 _
   have eO:H1 (s1.heap.push (Ay l ((xL.toArray.size:Int)-1))).objs.size=none:=I1.aU.fresh Py
   have a0t:kf.toList=xL.reverse:=by
    refine a3t λj=>?_
    have h1:kf.size=xL.length:=by have:=sN.1;simpa using this
    by_cases hj:j<xL.length
    .have h2:kf[j]? = some kf[j]:=Aw (by lia)
     have h4:=sN.2 j kf[j] h2
     rw[QZ,h2,List.getElem?_reverse hj]
     rw[<-h4]
     simp
    .rw[kG (by simp;lia),kG (by simp;lia)]
   have hv:Vals xs.reverse kf.toList:=by rw[a0t];exact rv.reverse
   have I2:Inv X zn σ (upd H1 _ (.lst xs.reverse)) { s1 with heap:=h',toks:=tk }:=I1.laid (t':=tk) kp' Py (show jB X.prog X.w _ _ _ (.lst xs.reverse) from⟨by rw[uO];exact hz,kf.toList,c',hv,by rw[Array.toArray_toList];exact hl⟩)
   have S2:=gY eO (.lst xs.reverse)
   refine⟨ds.reverse,_,xs.reverse,_,(R.step e1 _).trans e3,I2,rfl,S1.trans S2,S1.free eO,dg,?_⟩
   refine(ao.H4 (ao.aM (fo.same S1) ds xs tZ j1)).same λb o hb=>?_
   obtain⟨z1,z2⟩:=jr hb
   have fH:=jA z2 eO
   rw[dc λz=>(List.mem_cons.mp z).elim fH z1,b_ fH]
   exact z2
 | _=>exact absurd rfl aN
def x6m(ha:PD X e ga)(hb:PD X b gb)
 (j9:uU e "index" X.env (eval e X.env)=eval e X.env:=by rfl)
 (mK:((cD b6 (a8 [b] X.env)).all (λx=>!x.1)&&(uF b6 (uG [] X.env)).all (λx=>x.1.isSome)
   && decide ([b].length+([]:List lq).length+(if ([]:List lq).isEmpty then 0 else 1)<30))=true:=by rfl)
 (kZ:(apos.endLine==b6.line)=true:=by rfl) (hs:a8 [b] X.env=(false,eval b X.env)::a8 [] X.env:=by rfl) :
 PD X (.Call (.Attribute e "index" apos) [b] [] b6) (tH ga gb):=by
 refine⟨λzn s σ H F O I fo rl hg=>?_⟩
 refine DI j9 mK kZ rfl (aq (ha.run zn s σ H F O I fo rl (R.left hg)) (λv s1 ⟨dl,vl,H1,e1,I1,r1,S1,i1⟩=>?_) λ_ _ x=>x.bind _)
 have aN:=R.next hg e1
 cases dl with
 | tup ds =>
   have iS:=R.left aN
   obtain⟨l,vs,rfl,q1,j1⟩:=Is.fX.mp i1
   cases (show v=dS l from r1)
   obtain⟨_,_,⟨o1,Pz,oy,_,hd1⟩,_⟩:=I1.KC q1
   have t1:s1.TypeIs (.ref l) "tuple":=⟨o1,Pz,oy⟩
   have t2:∀a,dS l = .ref a->∃ob,s1.heap.get? a=some ob/\ob.dict=none:=λa e=>by
    cases e
    exact⟨o1,Pz,(Prod.mk.inj hd1).2⟩
   refine⟨"tuple",_,PySem.F.plainAttrs_tuple,a5r,PySem.F.type_tuple_index,t1,t2,?_⟩
   rw[hs]
   refine As rfl (xB ?_)
   show au _ _ (fJ ((false,eval b X.env)::cD b6 [])) _ _ s1
   refine gF (aq (hb.run zn s1 σ H1 F O I1 (fo.same S1) (rl.same S1) iS) (λu s2 ⟨d,y,H2,e2,I2,r2,S2,i2⟩=>jz ?_) λ_ _ x=>bP.later e1 S1 (x.bind _))
   have cA:=R.next aN e2
   cases d with
   | str x =>
     cases qs:strs? ds with
     | none=>exact absurd (show(match strs? ds with | some xs=>om xs x | none=>R.no) = .no by rw[qs]) cA
     | some xs =>
       have mL:om xs x ≠ .no:=by
        have h:=cA
        dsimp only at h
        rw[qs] at h;exact h
       obtain rfl:=Bh qs
       cases hf:xs.findIdx? (·==x) with
       | none=>exact absurd (show om xs x = .no by unfold om;rw[hf]) mL
       | some j =>
         have hg4:R.guard (xs.length<=1000) (R.ok (D.int (j:Int))) ≠ .no:=by
          have h:=mL
          unfold om at h
          rw[hf] at h;exact h
         obtain⟨hl,e4⟩:=R.cK hg4
         obtain⟨xL,rv,pl,hz⟩:=I2.tuple (t6 S2 q1)
         obtain⟨lt,rfl,dt⟩:=C2 (j1.same S2) rv
         cases Is.fW.mp i2
         obtain⟨t,rfl⟩:=r2
         obtain⟨o,ho,hc,n,hd⟩:=(show s2.heap.IsTuple l (kH lt).toArray from pl)
         have fin:∀tk,di X zn σ H (tH ga gb O) (.int (j:Int) s2.toks) { s2 with toks:=tk }:=λtk =>
          di.bind e1 S1 (di.bind e2 S2 ⟨.int (j:Int),.int (j:Int),H2,by
           show(match strs? (xs.map D.str) with | some xs=>om xs x | none=>R.no)=_
           rw[qs]
           show om xs x=_
           unfold om;rw[hf];exact e4,I2.tok _,⟨s2.toks,rfl⟩,.refl _,Is.bZ.mpr rfl⟩)
         obtain⟨hj,hjt,hjn⟩:=List.findIdx?_eq_some_iff_getElem.mp hf
         have at_:∀m (hm:m<xs.length),∃u,(kH lt).toArray[m]? = some (.str xs[m] u):=λm hm=>by
          subst dt
          have hm':m<lt.length:=by simpa using hm
          exact⟨lt[m].2,by simp[kH,hm']⟩
         refine QS a5r ⟨o,ho,hc⟩ PySem.F.entry_tuple_index (x5g (j:=j) pl ?_ ?_ ⟨_,rfl,fin _⟩) (PySem.F.args_tuple_index_2 _ _)
         .obtain⟨u,e⟩:=at_ j hj
          exact⟨u,by rw[e,show xs[j]=x by simpa using hjt]⟩
         .intro m hm
          obtain⟨u,e⟩:=at_ m (by lia)
          exact⟨xs[m],u,e,by simpa using hjn m hm⟩
   | _=>exact absurd rfl cA
 | _=>exact absurd rfl aN
end
structure zQ (X:Cx) (i:Nat) (b:List Stmt) (g:G->R (D×List D)):Prop where
 run:∀(zn:List (Addr×Obj)) (s:ah) (σ:St) (H:Hp) (F:List Addr) (O:G),Inv X zn σ H s->bC H F->Rel X.K H F O σ->g O ≠ .no ->
  au (aF X.prog X.w) X.A (uD b X.env) (λfl s'=>∃u,(fl = .ret u∨(fl = .next/\u = .none))/\zL X i zn σ H F (g O) u s') (XW X zn H F (g O)) s
section
variable {X:Cx}{b:List Stmt}{st:Stmt}{t:G->R Fl}{u:G->R (D×List D)}{i:Nat}{pos:Pos}
def PW.e(h:PW X i b u):zQ X i b u:=⟨λzn s σ H F O I fo rl hg=>aq (h.run zn s σ H F O I fo rl hg) (λfl s' ⟨u,e,r⟩=>⟨u,.inl e,r⟩) λ_ _ z=>z⟩
def rg.e(h:rg X i b t):zQ X i b (ot i t):=by
 refine⟨λzn s σ H F O I fo rl hg=>?_⟩
 have ht:t O ≠ .no:=λz=>hg (by unfold ot;rw[z])
 refine aq (h.run zn s σ H F O I fo rl ht) (λfl s1 q=>?_) λx s1 q=>?_
 .have bad:∀f:Fl,t O = .ok f->(∀O',f ≠ .nx O')->(∀c O',f ≠ .ex c O')->False:=λf e n1 n2=>hg (by unfold ot;rw[e];cases f<;>first | rfl | exact absurd rfl (n1 _) | exact absurd rfl (n2 _ _))
  cases fl with
  | next =>
    obtain⟨dh,e,aO,H',F',I',CH,oM,E,k⟩:=q
    have e2:ot i t O=oo i dh .cI:=by unfold ot;rw[e]
    rw[e2] at hg ⊢
    obtain⟨ws,hw,e3⟩:=Pb hg
    obtain⟨l,zs,jy,hF,hH,rj⟩:=oM.own i ws hw
    exact⟨.none,.inr ⟨rfl,rfl⟩,.cI,ws,.cI,aO,H',F',l,zs,e3,I',rfl,E,by rw[<-k];exact jy,hH,hF,rj,Is.Cn.mpr rfl⟩
  | ret v=>obtain⟨v',aO,H',F',_,_,_,⟨d,z,_⟩ | ⟨_,_,_,z,_⟩⟩:=q<;>exact(bad _ z (λ_ y=>nomatch y) λ_ _ y=>nomatch y).elim
  | brk=>obtain⟨O',z,_⟩:=q;exact(bad _ z (λ_ y=>nomatch y) λ_ _ y=>nomatch y).elim
  | cont=>obtain⟨O',z,_⟩:=q;exact(bad _ z (λ_ y=>nomatch y) λ_ _ y=>nomatch y).elim
 .obtain⟨c,O',aO,H',F',e,fl,_,_,E⟩:=q
  exact⟨c,aO,H',F',by unfold ot;rw[e],fl,E⟩
def w6q:PW X i b LA:=⟨λ_ _ _ _ _ _ _ _ _ h=>absurd rfl h⟩
def PK.pq(h:PK X i st t):PQ X st t:=⟨λzn s σ H F O I fo rl hg=>aq (h.run zn s σ H F O I fo rl hg) (λfl s' q=>by
 cases fl with
 | next=>obtain⟨O',e,aO,H',F',h1,h2,h3,h4,_⟩:=q;exact⟨O',e,aO,H',F',h1,h2,h3,h4⟩
 | brk=>obtain⟨O',e,aO,H',F',h1,h2,h3,h4,_⟩:=q;exact⟨O',e,aO,H',F',h1,h2,h3,h4⟩
 | cont=>obtain⟨O',e,aO,H',F',h1,h2,h3,h4,_⟩:=q;exact⟨O',e,aO,H',F',h1,h2,h3,h4⟩
 | ret v=>exact q) λ_ _ q=>q⟩
def PA{x z:Str}{u:Value}(hm:X.mg x=some u)(hu:∃t,u = .str z t)(hg:Gl X x:=by rfl)(hd:(x==("__debug__":Str))=false:=by decide):PD X (.Name x pos) (gC (.str z)) :=
 NP hg hm (v:=.str z) hu (λ_=>Is.fW.mpr rfl) hd
end
section
variable {P:a5}{w:aX}{K:aD}{mg:Str->Option Value}{base:Heap}
def PB{x qual:Str}{st:Stmt}{f:Addr}{fd:cw}{N ps:List Str}{k i:Nat}{φ:List D->R (D×List D)}(Fu:mU K x qual st f fd)(S:jf N ps (iB st))(hb:kL K fd ps [])(hlen:∀ds,φ ds ≠ .no->ds.length=ps.length)
 (jg:∀(bA:Value) (A:Around) (outer:List Env) (s:ah) (H:Hp) (E:XK),dM k (fY P w K mg base N qual st f bA A outer s H E).A->∃g,zQ (fY P w K mg base N qual st f bA A outer s H E) i (ly st) g/\∀as ws bs,as.length=i->φ (as ++ .lst ws::bs) ≠ .no->g ((eE N.length (as ++ .lst ws::bs)).set i (.own ws))=φ (as ++ .lst ws::bs)) :
 pV P w K mg base (k+1) f fd ps i φ:=by
 refine⟨?_,hb,Fu.kp⟩
 obtain⟨oc,od,kV,doc,pm,an,bA,ct,qi,rfl,lk,eA⟩:=Fu.ex
 refine xP lk eA S (λvs H Q E h=>?_) λA outer s H vs Q E hr eB=>?_
 .obtain⟨as,bs,xs,ys,ws,l,zs,rfl,_,j1,j2,_,_,bO,_⟩:=h
  have:=hlen _ bO
  simp only[aY,a3,j1.length,j2.length] at this ⊢
  exact this
 obtain⟨g,hq,hg⟩:=jg bA A outer s H E hr
 obtain⟨as,bs,xs,ys,ws,l,zs,rfl,hi,j1,j2,hH,j3,bO,hQ,hX⟩:=eB
 have e0:=hg as ws bs hi bO
 refine⟨λD' aO H'=>D'={ nx:=λ_ H'=>Q .cI H',rt:=Q }/\aO=L2.start N (xs ++ .ref l::ys)/\H'=H,?_,rfl,rfl,rfl⟩
 intro zn s1 i4 H1 D1 I hw
 obtain⟨rfl,rfl,rfl⟩:=hw
 have rl:=x3v (N:=N) j1 j2 hH j3
 rw[hi] at rl
 refine aq (hq.run zn s1 _ H1 [l] _ I (λb hb=>⟨zs,by rw[List.mem_singleton.mp hb];exact hH⟩) rl (by rw[e0];exact bO)) (λfl s' ⟨u,hu,d,gu,v,aO,H',F',l',i8,e1,I',rv,Ex,oK,hH',CJ,jw,jd⟩=>?_) λx s' ⟨c,aO,H',F',e1,fl,Ex⟩=>Hv (F':=F') fl λC hC=>hX c C H' (by rw[<-e0];exact e1) hC λb o hb q=>Ex.keep b o (by simpa using hb) q
 have l1:=j1.length
 have vB:(L2.start N (xs ++ .ref l::ys))[i]? = some (some (.ref l)):=by
  unfold L2.start
  rw[xf (by simp;lia),jO,uK (by lia),<-l1,hi,JL];rfl
 rw[vB] at oK
 cases oK
 have Sx:aT (aM F' H') (aM [l] H'):=λb o q=>by
  obtain⟨q1,q2⟩:=jr q
  rw[dc (λz=>q1 (by rw[List.mem_singleton.mp z];exact CJ))];exact q2
 have fin:=hQ d gu v H' i8 (by rw[<-e0];exact e1) (λb o hb q=>Ex.keep b o (by simpa using hb) q) hH' (jw.same Sx) (jd.same Sx)
 rcases hu with rfl | ⟨rfl,rfl⟩
 .exact⟨v,aO,H',I',rv,fin⟩
 .cases v with
  | cI=>exact⟨aO,H',I',fin⟩
  | _=>first | exact nomatch rv | (obtain⟨_,z⟩:=rv;cases z)
def w8n{x qual:Str}{st:Stmt}{f:Addr}{fd:cw}{N ps:List Str}{k i:Nat}(Fu:mU K x qual st f fd)(S:jf N ps (iB st))(hb:kL K fd ps []):pV P w K mg base (k+1) f fd ps i (λ_=>.no):=by
 refine PB Fu S hb (λds h=>absurd rfl h) λbA A outer s H E hr=>⟨LA,w6q.e,λas ws bs _ h=>absurd rfl h⟩
end
def y6m:entryFor table "proto.unchain"=some Builtin.«proto.unchain»:=entryFor_of_fast (by kernel_rfl)
section
variable {prog:a5}{w:aX}{A:Around}{E:Value->ah->Prop}{s:ah}
def y9z{α:Type}{Q:α->ah->Prop}{e e0:Addr}{o0 oe:Obj}{oQ vs:Array Value}(hh:A.handled=some (.ref e0))(bO:e0≠e)(h0:s.heap.get? e0=some o0)(d0:o0.data = .fields oQ)(c0:oQ[2]? = some .none)(he:s.heap.get? e=some oe)(hd:oe.data = .fields vs)(jh:2<vs.size)
 (h:E (.ref e) { s with heap:=s.heap.update e (rN (·.setIfInBounds 2 (.ref e0))) }):au (aF prog w) A (raiseNew (.ref e):Sem α) Q E s:=by
 unfold raiseNew
 refine aS (wpAny_handled ?_)
 rw[hh]
 dsimp only
 rw[if_pos (show(dS e0 != dS e)=true by simpa using bO)]
 refine aS (iV (a5k (Au y6m ?_)))
 unfold Builtin.«proto.unchain»
 dsimp only
 refine aS (p5 h0 d0 c0 ?_)
 rw[if_pos (by simp)]
 refine aS (bS ?_)
 refine bS ?_
 refine aS ?_
 show au _ _ (setField (.ref e) 2 (.ref e0)) _ _ _
 exact J_ he hd jh (wpAny_throw h)
variable {env:Env}{nm q:Str}{C N:Addr}{bs bm PC:List Value}{hdct:Bool}{sn:List Str}{sub:List Value}{ab:Bool}{col:Option Bool}{dd:Option Addr}{k0 k1 k2 k3 k5:Option Value}{B newId a0u:String}
def x3w(F:ExcBaseFacts B newId a0u PC){mN:Str->Option Value}{x:Str}{np b6 pos zp:Pos}{zk:Nat}{args:List Expr}{Q:Flow->ah->Prop}{e0:Addr}
 (j9:bm.contains (.type "BaseException")=true) (hh:A.handled=some (.ref e0)) (a0v:(cD b6 (a8 args env)).any (·.1)=false) (zA:mN "__init__"=none)
 (h:au (aF prog w) A (eval (.Name x np) env) (λf bT=>f = .ref C/\au (aF prog w) A (evalArgs (.ref C) true (cD b6 (a8 args env)) [])
   (λa ax=>a.kw=[]/\a.pos.length<=bK/\ax.heap.get? C=some (RQ nm q C N bs bm hdct sn sub ab col dd k0 k1 k2 k3 k5 newId)/\ax.heap.Ns N mN/\OwnTail ax.heap PC bm /\
     (∃o0 oQ,ax.heap.get? e0=some o0/\o0.data = .fields oQ/\oQ[2]? = some .none) /\
     ∀h' e t,(∀b o,b≠e->ax.heap.get? b=some o->h'.get? b=some o)->ax.heap.get? e=none->h'.get? e=some { cls:=.ref C,data:=.fields #[.ref t,.none,.ref e0,.none,.bool true,.none] }->E (.ref e) { ax with heap:=h' }) E bT) E s) :
 au (aF prog w) A (exec (.Raise (some (.Call (.Name x np) args [] b6)) (some (.Constant .none zk zp)) pos) env) Q E s:=by
 have hcB:(dS C::bm).contains (.type "BaseException")=true:=by rw[List.contains_cons,j9,Bool.or_true]
 rw[arm_exec_Raise]
 refine aS (uT ?_)
 unfold raiseStmt
 simp only[evalOpt,Option.map]
 have made:au (aF prog w) A (eval (.Call (.Name x np) args [] b6) env) (λv cT=>∃e t,v = .ref e/\cT.heap.get? C=some (RQ nm q C N bs bm hdct sn sub ab col dd k0 k1 k2 k3 k5 newId)/\cT.heap.get? e=some { cls:=.ref C,data:=.fields #[.ref t,.none,.none,.none,.bool false,.none] }/\e0≠e/\C≠e /\
  (∃o0 oQ,cT.heap.get? e0=some o0/\o0.data = .fields oQ/\oQ[2]? = some .none)/\∀h',(∀b,b≠e->h'.get? b=cT.heap.get? b)->h'.get? e=some { cls:=.ref C,data:=.fields #[.ref t,.none,.ref e0,.none,.bool true,.none] }->E (.ref e) { cT with heap:=h' }) E s:=by
  refine wpAny_Call_ofName (aq h (λf bT gy=>?_) λ_ _ x=>x)
  obtain⟨rfl,gy⟩:=gy
  unfold callWith
  refine aS (iV (aq gy (λa ax mI=>aS (uT ?_)) λ_ _ x=>x))
  obtain⟨apos,akw⟩:=a
  obtain⟨hkw,hlen,hC,hn,T,⟨o0,oQ,z0,z1,z2⟩,mI⟩:=mI
  obtain rfl:akw=[]:=hkw
  obtain⟨hp,g,d,tk,os⟩:=ax
  simp only[a0v]
  refine aS (wpAny_keeperOf_exc hC ?_)
  refine aS (wpAny_call_exc_subT (hrest:=hlen) F T hC hn zA λh' e hm=>aS (iV (wpAny_point (bS ?_))))
  obtain⟨t,ht,_,_⟩:=hm.there
  refine⟨e,t,rfl,hm.keeps _ _ hC,ht,λz=>?_,λz=>?_,⟨o0,oQ,hm.keeps _ _ z0,z1,z2⟩,λh2 k1 k2=>mI h2 e t (λb o n y=>(k1 b n).trans (hm.keeps b o y)) hm.new k2⟩
  .have:=hm.new;rw[<-z] at this;rw[this] at z0;cases z0
  .have:=hm.new;rw[<-z] at this;rw[this] at hC;cases hC
 refine aS (aS (aq made (λv cT zD=>aS (uT (bS ?_))) λ_ _ x=>x))
 obtain⟨e,t,rfl,hC,he,n0,nC,⟨o0,oQ,z0,z1,z2⟩,hE⟩:=zD
 obtain⟨hp,g,d,tk,os⟩:=cT
 repeat (first | with_reducible refine tj he ?_ | with_reducible refine tj hC ?_ | (with_reducible refine wpAny_isSubtype_exc hC ?_;rw[hcB]) | wp_step)
 have e1:=xi (rN (·.setIfInBounds 3 kg)) he rfl
 have e2:=xi (rN (·.setIfInBounds 4 (wY true))) e1 rfl
 have pL:∀b,b≠e->((hp.update e (rN (·.setIfInBounds 3 kg))).update e (rN (·.setIfInBounds 4 (wY true)))).get? b=hp.get? b:=λb n=>(rE _ _ (dC n)).trans (rE _ _ (dC n))
 refine y9z hh n0 ((pL e0 n0).trans z0) z1 z2 e2 rfl (show 2<6 by decide) (hE _ (λb n=>(rE _ _ (dC n)).trans (pL b n)) ?_)
 exact xi _ e2 rfl
end
section
variable {X:Cx}{pos np yp uo b6 H8 zp:Pos}{zk:Nat}
def x8f{v x:Value}{zn:List (Addr×Obj)}{σ:St}{H:Hp}{c:Er}{s:ah}{fl:Value}(o:X.Ok)(h:oN (mk X v) zn σ H c x s fl):oN X zn σ H c x s fl:=⟨OD o h.1,h.2⟩
def w3y{x y:Str}{B C L:Addr}{e:Expr}{d:D}{body:List Stmt}{t:G->R Fl}(pS:jv X.K B)(CS:pY X.K B (.ref B)=some true)(hB:X.mg x=some (.ref B))(hX:sV X.K X.mg .aQ C)(hb:j8 X body t)(he:∀v,PD (mk X v) e (gC d))
 (HA:x=Er.dE.nm:=by rfl) (hyn:y=Er.aQ.nm:=by rfl) (hex:X.ex=[]:=by rfl) (kd:X.stack=X.env::X.outer:=by rfl) (eO:X.env.frame=some L:=by rfl) (hg:Gl X x:=by rfl) (ib:(x==("__debug__":Str))=false:=by decide) (cA:Gl X y:=by rfl) (a0w:(y==("__debug__":Str))=false:=by decide)
 (hs:a8 [e] X.env=(false,eval e X.env)::a8 [] X.env:=by rfl) :
 PQ X (.Try body [.ExceptHandler (some (.Name x np)) none [.Raise (some (.Call (.Name y yp) [e] [] b6)) (some (.Constant .none zk zp)) H8] uo] [] [] pos) (EO t):=by
 refine⟨λzn s σ H F O I fo rl bR=>?_⟩
 have HE:=R.left bR
 refine a4q (aq (hb.run zn s σ H F O I fo rl HE) (λf s1 q=>?_) λxe s1 q=>?_)
 .cases f with
  | next=>obtain⟨O',e,r⟩:=q;exact qc ⟨O',R.step e _,r⟩
  | brk=>obtain⟨O',e,r⟩:=q;exact⟨O',R.step e _,r⟩
  | cont=>obtain⟨O',e,r⟩:=q;exact⟨O',R.step e _,r⟩
  | ret v=>exact mJ.map q .refl (λ_ _ I=>I) (λ_ e=>R.step e _) λ_ e=>R.step e _
 .obtain⟨c,dh,i4,H1,F1,e1,HF,dI,d9,E1⟩:=q
  have aN:=R.next bR e1
  obtain rfl:c = .dE:=by cases c<;>first | rfl | exact absurd rfl aN
  subst HA hyn
  refine wy hex kd eO HF λs2 uq=>?_
  refine sU (fr:=none) uq λs3 zB=>?_
  obtain⟨I3,e0,C0,oe,vs,rfl,k2,k3,k4,k5,k6,k7,k8,k9,ju,k11⟩:=id zB
  obtain rfl:C0=B:=by rw[hB] at k2;cases k2;rfl
  refine a4r (a4s (mS (X:=mk X (.ref e0)) (CQ I3) hg hB ?_ ib)) (by intro z;cases z)
  refine OA I3.gH k8 k9 pS.ty pS.is pS.mb CS ?_
  show jN _ _ _ _ s3
  refine codeAny_handlers_suite (sU (fr:=none) zB λs4 HG=>?_)
  obtain⟨I4,e',C',qY,zw,ee,m2,m3,m4,m5,m6,m7,m8,m9,OI,m11⟩:=HG
  cases ee
  have hS:aT H1 (upd H1 e0 (.gG qY (.own 0))):=gY m3 _
  have HH:=OF I4 m3 m8 m4 m5 m6 m7
  have J4:Inv (mk X (.ref e0)) zn i4 (upd H1 e0 (.gG qY (.own 0))) s4:=CQ HH
  obtain⟨bm,N,nm,q,bs,hdct,sn,sub,ab,col,dd,q0,q1,q2,q3,q5,mN,hC,hN,zA,T⟩:=Oy I.mod.o5 hX.ex
  refine rL (x3w (C:=C) (nm:=nm) (q:=q) (N:=N) (bs:=bs) (bm:=bm) (hdct:=hdct) (sn:=sn) (sub:=sub) (ab:=ab) (col:=col) (dd:=dd) (k0:=q0) (k1:=q1) (k2:=q2) (k3:=q3) (k5:=q5) (e0:=e0)
   a4n (mN:=mN) (T.hasType PySem.F.excBase_ValueError.hasBase) rfl (by rw[hs];rfl) zA (mS J4 cA hX.mg ⟨rfl,?_⟩ a0w))
  rw[hs]
  refine xB (gF (aq ((he (.ref e0)).run zn s4 i4 _ F1 dh J4 (dI.same hS) (d9.same hS) (λz=>nomatch z)) (λu s5 ⟨d',v,H5,e5,I5,r5,S5,i5⟩=>jz ?_) λx s5 ⟨c',H',e',_⟩=>by cases e'))
  have z0:=(I5.aU e0 _ (S5 e0 _ dg)).1
  refine⟨rfl,by show 1<=bK;decide,I5.bk _ _ hC,hN.keeps I5.bk,T.keeps I5.bk,⟨qY,zw,z0,OI,m11.1.2 rfl⟩,λh' en t keep new there=>?_⟩
  have I6:Inv (mk X (.ref e0)) zn i4 H5 { s5 with heap:=h' }:=I5.kept (t':=s5.toks) λb o q=>keep b o (λz=>by rw[z,new] at q;cases q) q
  obtain⟨g1,g2,g3,g4⟩:=I5.gone hex new
  have fl6:kW (mk X (.ref e0)) zn i4 H5 .aQ (.ref en) { s5 with heap:=h' }:=⟨I6,en,C,_,_,rfl,hX.mg,Oz I5 new,g1,g2,g3,g4,there,rfl,rfl,⟨⟨_,rfl⟩,λz=>nomatch z⟩,.inl rfl⟩
  show au _ _ (DK _ _) _ _ _
  refine wy (X:=mk X (.ref e0)) hex kd eO fl6 λs7 uj=>?_
  have PH:=x8f I.ok uj
  obtain⟨I7,e7,C7,oe7,vs7,y1,y2,y3,y4,y5,y6,y7,y8,y9,y10,y11,T7,oT7,ts7,w1,wr⟩:=id PH
  cases y1
  show au _ _ _ _ _ _
  refine aS (p5 y8 y10 w1 ?_)
  rw[if_neg (show ¬((dS T7==kg)=true) from by simp)]
  rw[eO]
  exact sU PH λs8 fl8=>⟨.aQ,dh,i4,H5,F1,R.step e1 _,fl8.here eO,(dI.same hS).same S5,(d9.same hS).same S5,(E1.trans (.of_same hS)).trans (.of_same S5)⟩
end
section
variable {X:Cx}{e a:Expr}{lo hi:Option Expr}{g ga:G->R D}{gl gh:G->R (Option Int)}{pos p2:Pos}
def a0x:V->Option Int->Option Int->Hp->VK->Prop:=λx lo hi H Q=>∃z,x = .str z/\z.length<=bK/\Q (.str (g8 z lo hi)) H
def w6h:n6 X a0x:=by
 intro zn s σ H x v vl vu lo hi sl Q I rx hs pl pu h
 obtain⟨z,rfl,hz,q⟩:=h
 obtain⟨t,rfl⟩:=rx
 refine⟨"str",_,PySem.F.slot_str_getitem.lookup,typeIs_str _ _ _,?_⟩
 have go:∀(l u:Option (Int×Tok)),vl=partValue l->vu=partValue u->lo=l.map (·.1)->hi=u.map (·.1)->au (aF X.prog X.w) X.A (uL (.str z t) (.ref sl)) (EP X zn σ Q) X.xe s:=λl u e1 e2 e3 e4=>by
  subst e1 e2 e3 e4
  refine wpAny_getItem_str_slice (l:=l) (u:=u) (st:=none) hs rfl (post_val_or_str ⟨fS (JQ z _ _) hz,λt' k=>⟨.str _,H,I.tok _,⟨t',rfl⟩,q⟩⟩)
 cases pl<;>cases pu
 .exact go none none rfl rfl rfl rfl
 .exact go none (some (_,_)) rfl rfl rfl rfl
 .exact go (some (_,_)) none rfl rfl rfl rfl
 .exact go (some (_,_)) (some (_,_)) rfl rfl rfl rfl
def C6(ha:PD X a ga)(hl:pR X lo gl)(hh:pR X hi gh):PD X (.Subscript a (.Slice lo hi none p2) pos) (kx ga gl gh):=⟨λzn s σ H F O I fo rl hg =>
 Hx w6h ha hl hh I fo rl (k:=Bk) rfl hg λd x l h H3 hk er S i wu zt=>by
  cases d with
  | str z =>
    obtain⟨hz,e5⟩:=R.cK (show R.guard (z.length<=100000) (R.ok (D.str (g8 z l h))) ≠ .no from hk)
    exact⟨z,Is.fW.mp i,by rw[oW];lia,λu s' I' rz=>⟨_,.str (g8 z l h),H3,er.trans e5,I',rz,S,Is.fW.mpr rfl⟩⟩
  | _=>exact absurd rfl hk⟩
def w0g{apos b6:Pos}(ha:PD X a ga)
 (j9:uU a "strip" X.env (eval a X.env)=eval a X.env:=by rfl)
 (mK:((cD b6 (a8 [] X.env)).all (λx=>!x.1)&&(uF b6 (uG [] X.env)).all (λx=>x.1.isSome)
   && decide (([]:List Expr).length+([]:List lq).length+(if ([]:List lq).isEmpty then 0 else 1)<30))=true:=by rfl)
 (kZ:(apos.endLine==b6.line)=true:=by rfl) (hs:a8 [] X.env=[]:=by rfl) :
 PD X (.Call (.Attribute a "strip" apos) [] [] b6) (yh ga):=by
 refine⟨λzn s σ H F O I fo rl hg=>?_⟩
 refine a5s j9 mK kZ (aq (ha.run zn s σ H F O I fo rl (R.left hg)) (λv s1 ⟨d,x,H1,e1,I1,r1,S1,i1⟩=>?_) λ_ _ x=>x.bind _)
 have aN:=R.next hg e1
 cases d with
 | str z =>
   obtain⟨hz,e5⟩:=R.cK (show R.guard (z.length<=100000) (R.ok (D.str (sY z))) ≠ .no from aN)
   rw[Is.fW.mp i1] at r1
   obtain⟨t,rfl⟩:=r1
   rw[hs]
   exact PySem.SB.strip (λt' k=>di.bind e1 S1 ⟨.str (sY z),.str (sY z),H1,e5,I1.tok _,⟨t',rfl⟩,.refl _,Is.fW.mpr rfl⟩) (by rw[oW];lia)
 | _=>exact absurd rfl aN
def w0f{apos b6:Pos}(ha:PD X a ga)
 (j9:uU a "upper" X.env (eval a X.env)=eval a X.env:=by rfl)
 (mK:((cD b6 (a8 [] X.env)).all (λx=>!x.1)&&(uF b6 (uG [] X.env)).all (λx=>x.1.isSome)
   && decide (([]:List Expr).length+([]:List lq).length+(if ([]:List lq).isEmpty then 0 else 1)<30))=true:=by rfl)
 (kZ:(apos.endLine==b6.line)=true:=by rfl) (hs:a8 [] X.env=[]:=by rfl) :
 PD X (.Call (.Attribute a "upper" apos) [] [] b6) (yi ga):=by
 refine⟨λzn s σ H F O I fo rl hg=>?_⟩
 refine a5s j9 mK kZ (aq (ha.run zn s σ H F O I fo rl (R.left hg)) (λv s1 ⟨d,x,H1,e1,I1,r1,S1,i1⟩=>?_) λ_ _ x=>x.bind _)
 have aN:=R.next hg e1
 cases d with
 | str z =>
   obtain⟨hz,e5⟩:=R.cK (show R.guard (Q_ (xo z).length=false) (R.ok (D.str (xo z))) ≠ .no from aN)
   rw[Is.fW.mp i1] at r1
   obtain⟨t,rfl⟩:=r1
   rw[hs]
   exact PySem.SB.upper hz (di.bind e1 S1 ⟨.str (xo z),.str (xo z),H1,e5,I1.tok _,⟨_,rfl⟩,.refl _,Is.fW.mpr rfl⟩)
 | _=>exact absurd rfl aN
def zR{b:Expr}{gb:G->R D}(ha:iP X a ga)(hb:iP X b gb):PF X (.BinOp a .Add b pos) (se ga gb):=by
 refine⟨λzn s σ H F O I fo rl hg=>?_⟩
 refine DC (aq (ha.run zn s σ H F O I fo rl (R.left hg)) (λv s1 ⟨dx,x,H1,e1,I1,r1,S1,i1⟩=>?_) λ_ _ x=>x.bind _)
 have aN:=R.next hg e1
 refine aq (hb.run zn s1 σ H1 F O I1 (fo.same S1) (rl.same S1) (R.left aN)) (λu s2 ⟨dy,y,H2,e2,I2,r2,S2,i2⟩=>?_) λ_ _ x=>bP.later e1 S1 (x.bind _)
 have dZ:=R.next aN e2
 have lS:=i1.same (kA S2)
 cases dx with
 | lst xs =>
   cases dy with
   | lst ys =>
     obtain⟨zx,vx,rfl,a1,a2⟩:=Is.fD.mp lS
     obtain⟨zy,vy,rfl,b1,b2⟩:=Is.fD.mp i2
     obtain⟨hc,e3⟩:=R.cK (show R.guard (xs.length+ys.length<=1000) (.ok (xs++ys)) ≠ .no from dZ)
     have hz:vx.length+vy.length<=bK:=by rw[<-a2.length,<-b2.length];exact nB hc
     refine aq (OJ (X:=X.b5) zn s2 σ H2 (.ref zx) (.ref zy) _ _ (λz H'=>∃l,z = .ref l/\H2 l=none/\H'=upd H2 l (.lst (vx++vy))) (I2.dv _) r1 r2 ⟨zx,zy,vx,vy,rfl,rfl,a1.imp (λr=>r.imp (iO _ _) λ⟨o,q⟩=>⟨o,iO _ _ q⟩) id,b1.imp (λr=>r.imp (iO _ _) λ⟨o,q⟩=>⟨o,iO _ _ q⟩) id,hz,λl hl=>⟨l,rfl,hl,rfl⟩⟩) (λu s' ⟨z,H',I',rz,l,ez,hl,eH⟩=>?_) λ_ _ z=>cC z
     subst ez eH
     have S3:=gY hl (.lst (vx++vy))
     exact⟨xs++ys,l,vx++vy,_,(R.step e1 _).trans ((R.step e2 _).trans e3),I'.fK,rz,(S1.trans S2).trans S3,S1.free (S2.free hl),dg,(a2.append b2).same (Co S3 hl)⟩
   | _=>exact absurd rfl dZ
 | _=>cases dy<;>exact absurd rfl dZ
end
end L3
namespace HQ
open PySem PySem.W PySem.Calls PyProof.Rows L2
noncomputable def zS(tb:String->Option Builtin)(p:a5)(w:aX)(lh:Nat)(ann:Option Value)(n:Nat):Az->Thread->Option Az :=
 Nat.rec (λ_ _=>none) (λ_ ih s t=>match Kn t with
  | true=>some s
  | false=>match stepOk lh ann t with
    | false=>none
    | true=>match stepT (denote tb) p w s t with
      | some (s',t')=>ih s' t'
      | none=>none) n
def PJ{tb:String->Option Builtin}{p:a5}{w:aX}{lh:Nat}{ann:Option Value}:∀{n:Nat} {s r:Az} {t:Thread},zS tb p w lh ann n s t=some r->topRun tb p w lh ann n s.abs t=some r.abs
 | 0,_,_,_,h=>by cases h
 | n+1,s,r,t,h=>by
   have h':(match Kn t with
    | true=>some s
    | false=>match stepOk lh ann t with
      | false=>none
      | true=>match stepT (denote tb) p w s t with
        | some (s',t')=>zS tb p w lh ann n s' t'
        | none=>none)=some r:=h
   unfold topRun
   cases ht:Kn t with
   | true=>rw[ht] at h';cases h';rfl
   | false =>
     rw[ht] at h'
     cases hk:stepOk lh ann t with
     | false=>rw[hk] at h';cases h'
     | true =>
       rw[hk] at h'
       cases hs:stepT (denote tb) p w s t with
       | none=>rw[hs] at h';cases h'
       | some x=>obtain⟨ax,a6v⟩:=x;rw[hs] at h';rw[stepT_spec hs];exact PJ h'
noncomputable def C8(p q:a5)(loose:List Str)(Xt:ah->Bool){α:Type}(Yf:ah->α)(w:aX)(s:ah) :=
 (R8 (DO p.main.body) (kI w.params) s.heap&&R9 p s.heap&&R_ s&&Sa (kI w.params) s.heap,openSeen q loose (DO p.main.body) Xt true s,Yf s)
def w4v{p q:a5}{loose:List Str}{Xt:ah->Bool}{α:Type}{Yf:ah->α}{Ya:aX->α}{N lh:Nat}{B:oY->BT}{life:Life}{ann:Option Value}
 (hB:∀P,absHeap (B P) lh life=kI P) (e:opening p=plainProg p.main.scope.names) (hN:Nat.ble 600 N=true) (f:∀s,fenceModules? p s=some s)
 (size:∀P,((kI P).isNs dm,(kI P).nsMap dm "__annotations__")=(true,ann))
 (big:∀(w:aX) (os:Sb),(zS DP p w lh ann N ⟨B w.params,lh,life,#[],boot_drawn,boot_toks,os⟩ (topStub p)).map (λs=>C8 p q loose Xt Yf w s.abs)=some (true,openGood q loose,Ya w)):LeftO p q loose Xt Yf Ya N:=λw=>by
 obtain⟨⟨h,gs,d,k,os⟩,e1,e2⟩:=Option.map_eq_some_iff.mp (boot_open (p:=p) (N:=N) e hN f w)
 obtain⟨rfl,rfl,rfl,rfl⟩:h=kI w.params/\gs=#[]/\d=boot_drawn/\k=boot_toks:=by simpa using e2
 obtain⟨z1,z2⟩:_/\_:=by simpa only[Ki] using size w.params
 obtain⟨r,hr,hs⟩:=Option.map_eq_some_iff.mp (big w os)
 have t:=PJ hr
 have ab:(SharedT.abs ⟨B w.params,lh,life,#[],boot_drawn,boot_toks,os⟩)=⟨kI w.params,#[],boot_drawn,boot_toks,os⟩:=by
  unfold SharedT.abs
  rw[hB]
 rw[ab] at t
 have sz:(kI w.params).objs.size=lh:=by rw[<-hB w.params];exact absHeap_size _ _ _
 unfold C8 at hs
 obtain⟨l1,l2⟩:_/\_:=by simpa only[Ki] using hs
 have T:Sd DP p w N ⟨kI w.params,#[],boot_drawn,boot_toks,os⟩=some r.abs:=by
  unfold Sd
  dsimp only
  rw[z1,z2,sz,t]
  show(match R8 (DO p.main.body) (kI w.params) r.abs.heap&&R9 p r.abs.heap&&R_ r.abs&&Sa (kI w.params) r.abs.heap with | true=>_ | false=>_)=_
  rw[l1]
 unfold openEnds
 rw[e1]
 show(Sd DP p w N _).map _=_
 rw[T]
 exact congrArg some (Prod.ext l2.1 l2.2)
def w9n(l:List Obj):BT:=(l.foldl (λx o=>(x.1.ins x.2 o,x.2+1)) (BT.nil,0)).1
noncomputable def B(P:oY):BT:=w9n (kI P).objs.toList
def hB(P:oY):absHeap (B P) 11 {}=kI P:=by kernel_rfl
def hS(P:oY):((kI P).isNs dm,(kI P).nsMap dm "__annotations__")=(true,some (.ref 6)):=by kernel_rfl
noncomputable def Ih(p:a5)(w:aX)(lh:Nat)(ann:Option Value)(n:Nat):Az->Thread->Option Az :=
 Nat.rec (λ_ _=>none) (λ_ ih s t=>match Kn t with
  | true=>some s
  | false=>match PySem.W.Fast.tw6613529449190102663 lh ann t with
    | false=>none
    | true=>match PySem.W.Fast.tw10156331382660048174 (PySem.W.Fast.tw11892475500146522536 DP) p w s t with
      | some (s',t')=>ih s' t'
      | none=>none) n
def w3v:zS DP=Ih:=by
 unfold zS Ih
 simp only[<-PySem.W.Fast.te6613529449190102663,<-PySem.W.Fast.te10156331382660048174,<-PySem.W.Fast.te11892475500146522536]
 try rfl
def a0y(p:a5):List Str:=(p.main.scope.names.map (·.1)).filter λx=>!(startupNames.contains x||x=="law")
noncomputable def Ii(p q:a5)(loose:List Str)(Xt:ah->Bool){α:Type}(Yf:ah->α)(w:aX)(s:ah) :=
 (R8 (DO p.main.body) (kI w.params) s.heap&&R9 p s.heap&&R_ s&&Sa (kI w.params) s.heap,PySem.W.Fast.tw4187177175401517315 q loose (DO p.main.body) Xt true s,Yf s)
def w3m:@C8=@Ii:=by
 unfold C8 Ii
 rw[PySem.W.Fast.te4187177175401517315]
noncomputable def s0(w:aX)(os:Sb):Az:=⟨B w.params,11,{},#[],boot_drawn,boot_toks,os⟩
def a0z{p q:a5}{loose:List Str}{Xt:ah->Bool}{α:Type}{Yf:ah->α}{Ya:aX->α}{N:Nat}(e:opening p=plainProg p.main.scope.names)(hN:Nat.ble 600 N=true)(f:∀s,fenceModules? p s=some s)
 (big:∀(w:aX) (os:Sb),(Ih p w 11 (some (.ref 6)) N (s0 w os) (topStub p)).map (λs=>Ii p q loose Xt Yf w s.abs)=some (true,openGood q loose,Ya w)):LeftO p q loose Xt Yf Ya N :=
 w4v hB e hN f hS (by rw[w3v,w3m];exact big)
noncomputable def fO(x:Str)(st:Stmt)(pm cd:Value):Obj:=⟨.type "function",none,.func (fnOf x x (xY st) (ly st) (iB st) .none .none .none pm none cd .none),#[]⟩
def Ij{K:Frag}{x:Str}{st:Stmt}{a c:Addr}{pm:Value}(l:K.lookup a=some (fO x st pm (.ref c)))(e:codeIn K (.ref c) x=true):mU K x x st a (fnOf x x (xY st) (ly st) (iB st) .none .none .none pm none (.ref c) .none) :=
 ⟨⟨_,_,_,_,_,_,_,_,_,rfl,l,e⟩,by unfold keepIn;dsimp only;rw[l];rfl⟩
noncomputable def en(P:oY)(x:Str)(t:Tok)(v:Value):Q7:=⟨PyData.keyHash P x,.str x t,v⟩
noncomputable def cO(x:Str)(t:Nat)(line zT:Int)(a b c d e:Value)(u:Nat):Obj:=⟨.type "code",none,.fields [.str x t,.str x (t+1),.str "/claim/cut.py" (t+2),.int line 0,.int zT 0,.int 0 0,.int 0 0,.int 3 0,a,.bool true,.int 181 0,b,.none,c,d,e,.int u 0,.int line 0,.str "/claim/cut.py" (u+1)].toArray,#[]⟩
noncomputable def cP(x:Str)(t:Nat)(line zT:Int)(a:Nat)(u:Nat):Obj:=cO x t line zT (.ref a) (.ref (a+1)) (.ref (a+2)) (.ref (a+3)) (.ref (a+4)) u
noncomputable def cR(x:Str)(t:Nat)(line zT:Int)(a:Nat)(u:Nat):Obj:=cO x t line zT (.ref a) (.ref (a+1)) .none .none (.ref (a+2)) u
noncomputable def er(P:oY)(x:Str)(t:Tok)(a:Addr):Q7:=en P x t (.ref a)
noncomputable def xk(x:Str)(b a n r t u:Nat):Obj:=⟨(.type "type"),none,.cls { name:=x,bases:=[(.ref b)],mro:=[(.ref a),(.ref b),(.type "ValueError"),(.type "Exception"),(.type "BaseException"),(.type "object")],ns:=n,qualname:=x,hasDict:=true,slotNames:=[],subclasses:=[],abstract:=false,collection:=none,hasDel:=false },([some (.ref r),none,some (.str x t),some (.str x u),some (.builtin "ValueError.__new__"),some (.bool true)]).toArray⟩
noncomputable def xd(P:oY)(t m:Nat)(l:Int)(r:Nat):Obj:=⟨(.type "dict"),none,.dict (en P "__module__" t (.str "longrounds.errors" m)::en P "__firstlineno__" (t+4) (.int l (t+3))::en P "__static_attributes__" (t+5) (.ref r)::en P "__doc__" (t+6) .none::[]).toArray 2,#[]⟩
end HQ
namespace L3
open PySem PySem.Spec PyProof.Rows L2
structure Ev where
 P:a5
 w:aX
 K:aD
 mg:Str->Option Value
 base:Heap
def Own(E:Ev)(x:Str)(st:Stmt)(ps:List Str):Prop:=∃(a:Addr) (d:cw),mU E.K x x st a d/\kL E.K d ps []/\E.mg x=some (.ref a)
def df(E:Ev)(k:Nat)(x:Str)(ps:List Str)(φ:List D->R D):Prop:=∃(a:Addr) (d:cw),iJ E.P E.w E.K E.mg E.base k a d ps φ/\E.mg x=some (.ref a)
def pX(E:Ev)(k:Nat)(x:Str)(ps:List Str)(φ:List D->R (List D)):Prop:=∃(a:Addr) (d:cw),pP E.P E.w E.K E.mg E.base k a d ps φ/\E.mg x=some (.ref a)
section
variable {E:Ev}{k k':Nat}{x:Str}{st:Stmt}{N ps:List Str}
def df.up{φ:List D->R D}(h:df E k x ps φ)(hk:k<=k'):∃(a:Addr) (d:cw),iJ E.P E.w E.K E.mg E.base k' a d ps φ/\E.mg x=some (.ref a):=let ⟨a,d,f,m⟩:=h;⟨a,d,f.mono hk,m⟩
def pX.up{φ:List D->R (List D)}(h:pX E k x ps φ)(hk:k<=k'):∃(a:Addr) (d:cw),pP E.P E.w E.K E.mg E.base k' a d ps φ/\E.mg x=some (.ref a):=let ⟨a,d,f,m⟩:=h;⟨a,d,f.mono hk,m⟩
def mkD{n m:Nat}{g:G->R Fl}(u:Own E x st ps)(S:jf N ps (iB st))(hn:ps.length=n)(hm:N.length=m)
 (jg:∀(f:Addr) (bA:Value) (A:Around) (outer:List Env) (s:ah) (H:Hp) (Ex:XK),dM k (fY E.P E.w E.K E.mg E.base N x st f bA A outer s H Ex).A->(fY E.P E.w E.K E.mg E.base N x st f bA A outer s H Ex).A.units+64<i_->N.Nodup->j8 (fY E.P E.w E.K E.mg E.base N x st f bA A outer s H Ex) (ly st) g):df E (k+1) x ps (cL n m g):=by
 subst hn hm
 obtain⟨a,d,Fu,hb,mm⟩:=u
 exact⟨a,d,Ow Fu S hb (λds h=>Bf h) λbA A outer s H Ex hr=>⟨g,jg a bA A outer s H Ex hr hr.units S.nd,λds bO=>(Bg (Bf bO)).symm⟩,mm⟩
def mkF{n m:Nat}{g:G->R Fl}(u:Own E x st ps)(S:jf N ps (iB st))(hn:ps.length=n)(hm:N.length=m)
 (jg:∀(f:Addr) (bA:Value) (A:Around) (outer:List Env) (s:ah) (H:Hp) (Ex:XK),dM k (fY E.P E.w E.K E.mg E.base N x st f bA A outer s H Ex).A->(fY E.P E.w E.K E.mg E.base N x st f bA A outer s H Ex).A.units+64<i_->N.Nodup->j8 (fY E.P E.w E.K E.mg E.base N x st f bA A outer s H Ex) (ly st) g):pX E (k+1) x ps (oa n m g):=by
 subst hn hm
 obtain⟨a,d,Fu,hb,mm⟩:=u
 exact⟨a,d,Zb Fu S hb (λds h=>Lm h) λbA A outer s H Ex hr=>⟨g,jg a bA A outer s H Ex hr hr.units S.nd,λds bO=>(EH (Lm bO)).symm⟩,mm⟩
end
def uw{N P:List Str}{sc:dU}(h:sc.kind = .function/\sc.isCoroutine=false/\sc.isGenerator=false/\N.Nodup/\N.take P.length=P/\(∀x∈P,sc.names.lookup x=some .local∨sc.names.lookup x=some .cell)/\∀y∈sc.names,y.2 ≠ .free):jf N P sc:=⟨h.1,h.2.1,h.2.2.1,h.2.2.2.1,h.2.2.2.2.1,h.2.2.2.2.2.1,h.2.2.2.2.2.2⟩
section
variable {E:Ev}{k k':Nat}{x:Str}{st:Stmt}{ps:List Str}
def df.cF{φ:List D->R D}(h:df E k x ps φ)(k':Nat)(hk:k<=k':=by lia):∃(a:Addr) (d:cw),iJ E.P E.w E.K E.mg E.base k' a d ps φ/\E.mg x=some (.ref a):=h.up hk
def pX.cF{φ:List D->R (List D)}(h:pX E k x ps φ)(k':Nat)(hk:k<=k':=by lia):∃(a:Addr) (d:cw),pP E.P E.w E.K E.mg E.base k' a d ps φ/\E.mg x=some (.ref a):=h.up hk
def C9(N:List Str)(u:Own E x st ps)(S:jf N ps (iB st):=by exact uw (by trivial)):df E (k+1) x ps (λ_=>.no):=let ⟨a,d,Fu,hb,m⟩:=u;⟨a,d,ZT Fu S hb,m⟩
def noF(N:List Str)(u:Own E x st ps)(S:jf N ps (iB st):=by exact uw (by trivial)):pX E (k+1) x ps (λ_=>.no):=let ⟨a,d,Fu,hb,m⟩:=u;⟨a,d,ZU Fu S hb,m⟩
def fb(N:List Str){n m:Nat}{g:G->R Fl}(u:Own E x st ps)(jg:∀(f:Addr) (bA:Value) (A:Around) (outer:List Env) (s:ah) (H:Hp) (Ex:XK),dM k (fY E.P E.w E.K E.mg E.base N x st f bA A outer s H Ex).A->(fY E.P E.w E.K E.mg E.base N x st f bA A outer s H Ex).A.units+64<i_->N.Nodup->j8 (fY E.P E.w E.K E.mg E.base N x st f bA A outer s H Ex) (ly st) g)
 (S:jf N ps (iB st):=by exact uw (by trivial)) (hn:ps.length=n:=by rfl) (hm:N.length=m:=by rfl):df E (k+1) x ps (cL n m g):=mkD u S hn hm jg
def PL(N:List Str){n m:Nat}{g:G->R Fl}(u:Own E x st ps)(jg:∀(f:Addr) (bA:Value) (A:Around) (outer:List Env) (s:ah) (H:Hp) (Ex:XK),dM k (fY E.P E.w E.K E.mg E.base N x st f bA A outer s H Ex).A->(fY E.P E.w E.K E.mg E.base N x st f bA A outer s H Ex).A.units+64<i_->N.Nodup->j8 (fY E.P E.w E.K E.mg E.base N x st f bA A outer s H Ex) (ly st) g)
 (S:jf N ps (iB st):=by exact uw (by trivial)) (hn:ps.length=n:=by rfl) (hm:N.length=m:=by rfl):pX E (k+1) x ps (oa n m g):=mkF u S hn hm jg
end
def ux{α:Type}{o:Option α}{c:α}(h:o=some c):o.isSome=true:=by rw[h];rfl
def a1a{P:a5}{w:aX}{K:aD}{mg:Str->Option Value}{k:Nat}{a:Addr}{d:cw}{φ:List D->R D}{st:Stmt}(_U:mU K "law" "law" st a d)(hB:∀(s:ah) (v:Value),BindsTo s d ⟨[v],[]⟩ [("script",v)])(F:∀base:Heap,K.In base->base.Ns dm mg->iJ P w K mg base k a d ["script"] φ) :
 ∃fd:cw,(∀(s:ah) (v:Value),BindsTo s fd ⟨[v],[]⟩ [("script",v)])/\∀base:Heap,K.In base->base.Ns dm mg->jT P w K mg base (nE P w) k a fd ["script"] (wz φ K):=⟨d,hB,λbase h1 h2=>(F base h1 h2).okN⟩
def lV(E:Ev)(k:Nat)(x:Str)(ps:List Str)(i:Nat)(φ:List D->R (D×List D)):Prop:=∃(a:Addr) (d:cw),pV E.P E.w E.K E.mg E.base k a d ps i φ/\E.mg x=some (.ref a)
section
variable {E:Ev}{k k':Nat}{x:Str}{st:Stmt}{N ps:List Str}
def lV.up{i:Nat}{φ:List D->R (D×List D)}(h:lV E k x ps i φ)(hk:k<=k'):∃(a:Addr) (d:cw),pV E.P E.w E.K E.mg E.base k' a d ps i φ/\E.mg x=some (.ref a):=let ⟨a,d,f,m⟩:=h;⟨a,d,f.mono hk,m⟩
def mkM{n m i:Nat}{g:G->R (D×List D)}(u:Own E x st ps)(S:jf N ps (iB st))(hn:ps.length=n)(hm:N.length=m)
 (jg:∀(f:Addr) (bA:Value) (A:Around) (outer:List Env) (s:ah) (H:Hp) (Ex:XK),dM k (fY E.P E.w E.K E.mg E.base N x st f bA A outer s H Ex).A->(fY E.P E.w E.K E.mg E.base N x st f bA A outer s H Ex).A.units+64<i_->N.Nodup->zQ (fY E.P E.w E.K E.mg E.base N x st f bA A outer s H Ex) i (ly st) g):lV E (k+1) x ps i (ng n m i g):=by
 subst hn hm
 obtain⟨a,d,Fu,hb,mm⟩:=u
 exact⟨a,d,PB Fu S hb (λds h=>LB h) λbA A outer s H Ex hr=>⟨g,jg a bA A outer s H Ex hr hr.units S.nd,λas ws bs hi bO=>(gK hi (LB bO)).symm⟩,mm⟩
def lV.cF{i:Nat}{φ:List D->R (D×List D)}(h:lV E k x ps i φ)(k':Nat)(hk:k<=k':=by lia):∃(a:Addr) (d:cw),pV E.P E.w E.K E.mg E.base k' a d ps i φ/\E.mg x=some (.ref a):=h.up hk
def Ik(N:List Str){i:Nat}(u:Own E x st ps)(S:jf N ps (iB st):=by exact uw (by trivial)):lV E (k+1) x ps i (λ_=>.no):=let ⟨a,d,Fu,hb,m⟩:=u;⟨a,d,w8n Fu S hb,m⟩
def wL(N:List Str){n m i:Nat}{g:G->R (D×List D)}(u:Own E x st ps)(jg:∀(f:Addr) (bA:Value) (A:Around) (outer:List Env) (s:ah) (H:Hp) (Ex:XK),dM k (fY E.P E.w E.K E.mg E.base N x st f bA A outer s H Ex).A->(fY E.P E.w E.K E.mg E.base N x st f bA A outer s H Ex).A.units+64<i_->N.Nodup->zQ (fY E.P E.w E.K E.mg E.base N x st f bA A outer s H Ex) i (ly st) g)
 (S:jf N ps (iB st):=by exact uw (by trivial)) (hn:ps.length=n:=by rfl) (hm:N.length=m:=by rfl):lV E (k+1) x ps i (ng n m i g):=mkM u S hn hm jg
end
end L3
namespace Row
open PySem PySem.Spec PyProof.Rows L2 L3
def top(i:Nat):Stmt:=PySem.Challenge.pw_longrounds_k82_no_texts.main.body.getD i (.Pass ⟨0,0,0,0⟩)
abbrev Il:Stmt:=top 62
def PN:jf ["script","P","names","items","text","cell","rows","at","count","words","some"] ["script"] (iB Il):=uw (by trivial)
noncomputable def fR(x:Str)(i:Nat)(m:Str)(t:Tok)(c:Addr):Obj:=HQ.fO x (top i) (.str m t) (.ref c)
abbrev wM:Str:="longrounds.numbers"
abbrev wN:Str:="longrounds.programs"
abbrev lj:Str:="longrounds.texts"
abbrev lX:Str:="law_longrounds_k82_no_texts"
noncomputable def KK(P:oY):aD :=
 (nat_lit 3,⟨(.type "dict"),none,.dict (HQ.en P "__name__" 165 (.str "law_longrounds_k82_no_texts" 552)::HQ.en P "__doc__" 166 .none::HQ.en P "__package__" 167 .none::HQ.en P "__loader__" 168 (.builtin "__main__.__loader__#opaque")::HQ.en P "__spec__" 169 .none::HQ.er P "__annotations__" 170 6::HQ.er P "__builtins__" 171 4::HQ.en P "__file__" 173 (.str "/claim/cut.py" 172)::HQ.en P "__cached__" 174 .none::HQ.er P "LongError" 206 24::HQ.er P "NoPrime" 222 37::HQ.er P "NoNumber" 238 49::HQ.er P "NoProgram" 254 61::HQ.er P "TooLong" 270 73::HQ.er P "Lossy" 286 85::HQ.er P "NoText" 302 97::HQ.en P "LEAST_PRIME" 306 (.int 3 305)::HQ.en P "GREATEST_PRIME" 308 (.int 9999 307)::HQ.er P "is_whole" 315 106::HQ.er P "least_divisor" 323 113::HQ.er P "is_from" 332 120::HQ.er P "is_prime" 339 127::HQ.er P "prime" 346 134::HQ.er P "on" 354 141::HQ.en P "MOST_BOXES" 358 (.int 3 357)::HQ.en P "MOST_ITEMS" 360 (.int 30 359)::HQ.en P "MOST_DEEP" 362 (.int 3 361)::HQ.er P "items_counted" 372 148::HQ.er P "made_set" 378 153::HQ.er P "made_again" 389 160::HQ.er P "made_item" 399 167::HQ.er P "made_items" 405 172::HQ.er P "program" 414 179::HQ.en P "FIGURES" 418 (.str "0123456789" 417)::HQ.en P "MOST_FIGURES" 420 (.int 31 419)::HQ.en P "LETTERS" 422 (.str "abcdefghijklmnopqrstuvwxyz" 421)::HQ.en P "MOST_LETTERS" 424 (.int 8 423)::HQ.er P "is_made_of" 430 184::HQ.er P "number_from" 437 191::HQ.er P "number_on_wheel" 446 198::HQ.er P "taken" 452 203::HQ.er P "take_sign" 460 210::HQ.er P "set_from" 466 215::HQ.er P "again_from" 478 222::HQ.er P "item_from" 489 229::HQ.er P "items_from" 500 236::HQ.er P "words_behind" 509 243::HQ.er P "read_prime" 517 250::HQ.er P "is_name" 524 257::HQ.er P "read_names" 530 262::HQ.er P "read_items" 541 269::HQ.er P "read" 551 276::HQ.er P "_law_cell" 561 283::HQ.er P "_law_prime" 567 288::HQ.er P "_law_digits" 578 295::HQ.er P "_law_whole" 585 302::HQ.er P "_law_count" 592 309::HQ.er P "_law_set" 604 316::HQ.er P "_law_items" 619 323::HQ.er P "_law_names" 635 330::HQ.er P "_law_words" 641 335::HQ.er P "_law_text" 651 342::HQ.er P "_law_odd_item" 657 347::HQ.er P "_law_odd_names" 667 354::HQ.er P "_law_odd_signs" 673 359::HQ.er P "_law_refused" 682 366::HQ.er P "law" 688 371::[]).toArray 67,#[]⟩) ::
 (nat_lit 23,⟨(.type "dict"),none,.dict (HQ.en P "__module__" 196 (.str "longrounds.errors" 187)::HQ.en P "__firstlineno__" 200 (.int 2 199)::HQ.en P "__static_attributes__" 201 (.ref 22)::HQ.en P "__weakref__" 203 (.ref 25)::HQ.en P "__doc__" 204 .none::[]).toArray 3,#[]⟩) ::
 (nat_lit 24,⟨(.type "type"),none,.cls { name:="LongError",bases:=[(.type "ValueError")],mro:=[(.ref 24),(.type "ValueError"),(.type "Exception"),(.type "BaseException"),(.type "object")],ns:=23,qualname:="LongError",hasDict:=true,slotNames:=[],subclasses:=[(.ref 37),(.ref 49),(.ref 61),(.ref 73),(.ref 85),(.ref 97)],abstract:=false,collection:=none,hasDel:=false },([some (.ref 15),none,some (.str "LongError" 189),some (.str "LongError" 197),some (.builtin "ValueError.__new__"),some (.bool true)]).toArray⟩) ::
 (nat_lit 36,HQ.xd P 214 187 4 35) ::
 (nat_lit 37,HQ.xk "NoPrime" 24 37 36 28 207 215) ::
 (nat_lit 48,HQ.xd P 230 187 6 47) ::
 (nat_lit 49,HQ.xk "NoNumber" 24 49 48 40 223 231) ::
 (nat_lit 60,HQ.xd P 246 187 8 59) ::
 (nat_lit 61,HQ.xk "NoProgram" 24 61 60 52 239 247) ::
 (nat_lit 72,HQ.xd P 262 187 10 71) ::
 (nat_lit 73,HQ.xk "TooLong" 24 73 72 64 255 263) ::
 (nat_lit 84,HQ.xd P 278 187 12 83) ::
 (nat_lit 85,HQ.xk "Lossy" 24 85 84 76 271 279) ::
 (nat_lit 96,HQ.xd P 294 187 14 95) ::
 (nat_lit 97,HQ.xk "NoText" 24 97 96 88 287 295) ::
 (nat_lit 105,HQ.cP "is_whole" 309 19 1 100 313) ::
 (nat_lit 106,fR "is_whole" 11 wM 303 105) ::
 (nat_lit 112,HQ.cP "least_divisor" 316 21 1 107 321) ::
 (nat_lit 113,fR "least_divisor" 12 wM 303 112) ::
 (nat_lit 119,HQ.cP "is_from" 324 28 3 114 330) ::
 (nat_lit 120,fR "is_from" 13 wM 303 119) ::
 (nat_lit 126,HQ.cP "is_prime" 333 30 1 121 337) ::
 (nat_lit 127,fR "is_prime" 14 wM 303 126) ::
 (nat_lit 133,HQ.cP "prime" 340 32 1 128 344) ::
 (nat_lit 134,fR "prime" 15 wM 303 133) ::
 (nat_lit 140,HQ.cP "on" 347 36 2 135 352) ::
 (nat_lit 141,fR "on" 16 wM 303 140) ::
 (nat_lit 147,HQ.cP "items_counted" 363 42 2 142 370) ::
 (nat_lit 148,fR "items_counted" 21 wN 355 147) ::
 (nat_lit 152,HQ.cR "made_set" 373 51 4 149 376) ::
 (nat_lit 153,fR "made_set" 22 wN 355 152) ::
 (nat_lit 159,HQ.cP "made_again" 379 57 5 154 387) ::
 (nat_lit 160,fR "made_again" 23 wN 355 159) ::
 (nat_lit 166,HQ.cP "made_item" 390 63 4 161 397) ::
 (nat_lit 167,fR "made_item" 24 wN 355 166) ::
 (nat_lit 171,HQ.cR "made_items" 400 67 4 168 403) ::
 (nat_lit 172,fR "made_items" 25 wN 355 171) ::
 (nat_lit 178,HQ.cP "program" 406 69 3 173 412) ::
 (nat_lit 179,fR "program" 26 wN 355 178) ::
 (nat_lit 183,HQ.cR "is_made_of" 425 80 3 180 428) ::
 (nat_lit 184,fR "is_made_of" 32 lj 415 183) ::
 (nat_lit 190,HQ.cP "number_from" 431 82 1 185 435) ::
 (nat_lit 191,fR "number_from" 33 lj 415 190) ::
 (nat_lit 197,HQ.cP "number_on_wheel" 438 86 2 192 444) ::
 (nat_lit 198,fR "number_on_wheel" 34 lj 415 197) ::
 (nat_lit 202,HQ.cR "taken" 447 91 2 199 450) ::
 (nat_lit 203,fR "taken" 35 lj 415 202) ::
 (nat_lit 209,HQ.cP "take_sign" 453 95 2 204 458) ::
 (nat_lit 210,fR "take_sign" 36 lj 415 209) ::
 (nat_lit 214,HQ.cR "set_from" 461 98 3 211 464) ::
 (nat_lit 215,fR "set_from" 37 lj 415 214) ::
 (nat_lit 221,HQ.cP "again_from" 467 104 4 216 476) ::
 (nat_lit 222,fR "again_from" 38 lj 415 221) ::
 (nat_lit 228,HQ.cP "item_from" 479 112 4 223 487) ::
 (nat_lit 229,fR "item_from" 39 lj 415 228) ::
 (nat_lit 235,HQ.cP "items_from" 490 119 4 230 498) ::
 (nat_lit 236,fR "items_from" 40 lj 415 235) ::
 (nat_lit 242,HQ.cP "words_behind" 501 124 2 237 507) ::
 (nat_lit 243,fR "words_behind" 41 lj 415 242) ::
 (nat_lit 249,HQ.cP "read_prime" 510 129 1 244 515) ::
 (nat_lit 250,fR "read_prime" 42 lj 415 249) ::
 (nat_lit 256,HQ.cP "is_name" 518 136 1 251 522) ::
 (nat_lit 257,fR "is_name" 43 lj 415 256) ::
 (nat_lit 261,HQ.cR "read_names" 525 138 1 258 528) ::
 (nat_lit 262,fR "read_names" 44 lj 415 261) ::
 (nat_lit 268,HQ.cP "read_items" 531 144 3 263 539) ::
 (nat_lit 269,fR "read_items" 45 lj 415 268) ::
 (nat_lit 275,HQ.cP "read" 542 153 1 270 549) ::
 (nat_lit 276,fR "read" 46 lj 415 275) ::
 (nat_lit 282,HQ.cP "_law_cell" 554 161 2 277 559) ::
 (nat_lit 283,fR "_law_cell" 48 lX 552 282) ::
 (nat_lit 287,HQ.cR "_law_prime" 562 165 1 284 565) ::
 (nat_lit 288,fR "_law_prime" 49 lX 552 287) ::
 (nat_lit 294,HQ.cP "_law_digits" 568 172 3 289 576) ::
 (nat_lit 295,fR "_law_digits" 50 lX 552 294) ::
 (nat_lit 308,HQ.cP "_law_count" 586 180 1 303 590) ::
 (nat_lit 309,fR "_law_count" 52 lX 552 308) ::
 (nat_lit 315,HQ.cP "_law_set" 593 182 4 310 602) ::
 (nat_lit 316,fR "_law_set" 53 lX 552 315) ::
 (nat_lit 322,HQ.cP "_law_items" 605 188 4 317 617) ::
 (nat_lit 323,fR "_law_items" 54 lX 552 322) ::
 (nat_lit 329,HQ.cP "_law_names" 620 202 3 324 633) ::
 (nat_lit 330,fR "_law_names" 55 lX 552 329) ::
 (nat_lit 334,HQ.cR "_law_words" 636 217 2 331 639) ::
 (nat_lit 335,fR "_law_words" 56 lX 552 334) ::
 (nat_lit 341,HQ.cP "_law_text" 642 225 3 336 649) ::
 (nat_lit 342,fR "_law_text" 57 lX 552 341) ::
 (nat_lit 346,HQ.cR "_law_odd_item" 652 228 4 343 655) ::
 (nat_lit 347,fR "_law_odd_item" 58 lX 552 346) ::
 (nat_lit 353,HQ.cP "_law_odd_names" 658 241 2 348 665) ::
 (nat_lit 354,fR "_law_odd_names" 59 lX 552 353) ::
 (nat_lit 358,HQ.cR "_law_odd_signs" 668 249 2 355 671) ::
 (nat_lit 359,fR "_law_odd_signs" 60 lX 552 358) ::
 (nat_lit 365,HQ.cP "_law_refused" 674 267 1 360 680) ::
 (nat_lit 366,fR "_law_refused" 61 lX 552 365) ::
 (nat_lit 370,HQ.cR "law" 683 275 1 367 686) ::
 (nat_lit 371,fR "law" 62 lX 552 370)::[]
def ks:List Addr:=[3,23,24,36,37,48,49,60,61,72,73,84,85,96,97,105,106,112,113,119,120,126,127,133,134,140,141,147,148,152,153,159,160,166,167,171,172,178,179,183,184,190,191,197,198,202,203,209,210,214,215,221,222,228,229,235,236,242,243,249,250,256,257,261,262,268,269,275,276,282,283,287,288,294,295,308,309,315,316,322,323,329,330,334,335,341,342,346,347,353,354,358,359,365,366,370,371]
structure Bi (E:Ev):Prop where
 ba:E.mg "ValueError"=none
 bb:E.mg "all"=none
 bc:E.mg "any"=none
 bd:E.mg "bool"=none
 be:E.mg "int"=none
 bf:E.mg "isinstance"=none
 bg:E.mg "len"=none
 bh:E.mg "list"=none
 bi:E.mg "max"=none
 bj:E.mg "min"=none
 bk:E.mg "range"=none
 bl:E.mg "reversed"=none
 bm:E.mg "set"=none
 bn:E.mg "str"=none
 bo:E.mg "tuple"=none
 bp:E.mg "FIGURES"=some (.str "0123456789" 417)
 bq:E.mg "GREATEST_PRIME"=some (.int 9999 307)
 br:E.mg "LEAST_PRIME"=some (.int 3 305)
 bs:E.mg "LETTERS"=some (.str "abcdefghijklmnopqrstuvwxyz" 421)
 bt:E.mg "MOST_BOXES"=some (.int 3 357)
 bu:E.mg "MOST_DEEP"=some (.int 3 361)
 bv:E.mg "MOST_FIGURES"=some (.int 31 419)
 bw:E.mg "MOST_ITEMS"=some (.int 30 359)
 bx:E.mg "MOST_LETTERS"=some (.int 8 423)
 bz:E.mg "NoPrime"=some (.ref 37)
 ca:E.mg "NoNumber"=some (.ref 49)
 cb:E.mg "NoProgram"=some (.ref 61)
 cc:E.mg "TooLong"=some (.ref 73)
 cd:E.mg "Lossy"=some (.ref 85)
 ce:E.mg "NoText"=some (.ref 97)
 cf:E.mg "LongError"=some (.ref 24)
 cg:sV E.K E.mg .mV 37
 ch:sV E.K E.mg .dE 61
 ci:sV E.K E.mg .aQ 97
 cj:k_ E.K (.ref 85) .qm
 ck:k_ E.K (.ref 49) .ql
 cl:k_ E.K (.ref 37) .mV
 cm:k_ E.K (.ref 61) .dE
 cn:k_ E.K (.ref 97) .aQ
 co:k_ E.K (.ref 73) .tooLong
 cp:k_ E.K (.type "ValueError") .A7
 cq:jv E.K 24
 cr:∀(c:Er) (C:Addr),E.mg c.nm=some (.ref C)->iL E.K dm c.nm=some (some (.ref C))/\pY E.K C (.ref 24)=some true
 cs:jv E.K 61
 ct:pY E.K 61 (.ref 61)=some true
section
variable {E:Ev}(B:Bi E)
abbrev PO (E:Ev):Prop:=df E 1 "_law_cell" ["script","k"] si
abbrev PR (E:Ev):Prop:=df E 1 "_law_count" ["cell"] EZ
abbrev PS (E:Ev):Prop:=df E 1 "_law_digits" ["cell","P","size"] yj
abbrev PU (E:Ev):Prop:=df E 2 "_law_set" ["cell","more","P","many"] E4
abbrev PV (E:Ev):Prop:=df E 3 "_law_items" ["cells","P","many","agains"] E8
abbrev PX (E:Ev):Prop:=df E 1 "_law_names" ["cell","more","many"] Fe
abbrev PY (E:Ev):Prop:=df E 1 "_law_odd_item" ["P","names","cell","count"] Fp
abbrev PZ (E:Ev):Prop:=df E 1 "_law_odd_names" ["names","cell"] Bz
abbrev P0 (E:Ev):Prop:=df E 1 "_law_odd_signs" ["text","cell"] vF
abbrev P1 (E:Ev):Prop:=df E 1 "_law_prime" ["cell"] Bp
abbrev Im (E:Ev):Prop:=df E 1 "is_made_of" ["word","signs","most"] pD
abbrev C_ (E:Ev):Prop:=df E 2 "number_from" ["word"] jG
abbrev Dc (E:Ev):Prop:=lV E 1 "taken" ["words","count"] 0 nj
abbrev P2 (E:Ev):Prop:=lV E 2 "take_sign" ["words","sign"] 0 yt
abbrev P4 (E:Ev):Prop:=df E 3 "number_on_wheel" ["P","word"] ky
abbrev P5 (E:Ev):Prop:=lV E 4 "set_from" ["P","names","words"] 2 oz
abbrev h_k (E:Ev):Prop:=lV E 16 "items_from" ["P","names","words","around"] 2 (dG 12)
abbrev P6 (E:Ev):Prop:=df E 1 "is_whole" ["thing"] Bs
abbrev zU (E:Ev):Prop:=df E 2 "is_from" ["thing","least","most"] vz
abbrev h_f (E:Ev):Prop:=df E 13 "items_counted" ["items","ahead"] (pz 12)
abbrev P7 (E:Ev):Prop:=df E 1 "on" ["P","n"] Bq
abbrev P8 (E:Ev):Prop:=df E 3 "made_set" ["P","many","x","form"] Fd
abbrev h_u (E:Ev):Prop:=df E 15 "made_items" ["P","many","items","around"] (pE 12)
abbrev P9 (E:Ev):Prop:=df E 1 "least_divisor" ["n"] EW
abbrev Io (E:Ev):Prop:=df E 3 "is_prime" ["thing"] Bt
abbrev P_ (E:Ev):Prop:=df E 4 "prime" ["thing"] EX
abbrev Qa (E:Ev):Prop:=df E 16 "program" ["P","many","items"] yw
abbrev Qb (E:Ev):Prop:=df E 17 "read_items" ["P","names","words"] iD
abbrev Qc (E:Ev):Prop:=df E 2 "is_name" ["word"] tN
abbrev Qd (E:Ev):Prop:=df E 3 "read_names" ["words"] mE
abbrev Qe (E:Ev):Prop:=df E 4 "read_prime" ["words"] j6
abbrev Qf (E:Ev):Prop:=pX E 1 "words_behind" ["row","first"] jn
abbrev Qg (E:Ev):Prop:=df E 18 "read" ["text"] oE
abbrev Qh (E:Ev):Prop:=df E 19 "_law_refused" ["text"] tO
abbrev Qi (E:Ev):Prop:=pX E 13 "_law_words" ["names","items"] (qE 12)
abbrev Qj (E:Ev):Prop:=df E 14 "_law_text" ["P","names","items"] Fg
def f_w(B:Bi E)(u_w:Own E "_law_cell" (top 48) ["script","k"]):PO E:=by
 exact fb ["script","k"] u_w λ_ _ _ _ _ _ _ hr hu nd=>(aV (dH (cN yV (ai 1) (fm iQ B.bg (by trivial) (aj (ai 0) aA)) (cx _)) (a7 (c_ (cY (ai 0) (ai 1)))) d8)
  (a7 (c_ av)))
def f_n(u_n:Own E "_law_count" (top 52) ["cell"]):PR E:=by
 exact fb ["cell"] u_n λ_ _ _ _ _ _ _ hr hu nd=>(a7 (c_ (cY (PF.pd (cW (aj (aG cH (aG gP (ai 0) av) av) (aj (aG cH (aG gP (ai 0) av) av) (aj (aG cH (aG gP (ai 0) av) (aG dO (aG yU av av) av)) aA))))) (aG cH (ai 0) av))))
def f_i(B:Bi E)(u_i:Own E "_law_digits" (top 50) ["cell","P","size"]):PS E:=by
 exact fb ["cell","P","size","out","k"] u_i λ_ _ _ _ _ _ _ hr hu nd=>(aV (fP 3 (cW aA) nd)
  (aV (wt 4 qZ rfl (ze (ai 2) B.bk)
  (aV (CI 3 (PD.ro (aG cH (ai 0) (ai 1))))
  (a7 (cU 0 (PD.ro (aG gP (ai 0) (ai 1))) nd))) nd)
  (a7 (c_ (iI qT B.bo (by trivial) (aj (ai 3) aA))))))
def f_C(u_C:Own E "_law_set" (top 53) ["cell","more","P","many"])(Ip:PS E):PU E:=by
 obtain⟨_,_,F_i,m_i⟩:=Ip.cF 1
 exact fb ["cell","more","P","many","x","form"] u_C λ_ _ _ _ _ _ _ hr hu nd=>(aV (cU 4 (PD.ro (aG cH (ai 0) (ai 3))) nd)
  (aV (cU 5 (PD.ro (cZ F_i hr m_i (aj (ai 1) (aj (ai 2) (aj (aG dO (ai 3) av) aA))))) nd)
  (aV (dH (kX.pt (yR (cN (gv hu) (cY (ai 5) (ai 4)) av (cx _)) (Cp (cN Cr (aG cH (aG gP (ai 0) av) av) av (cx _))))) (a7 (cU 5 (PD.ro (aG dO (aG dO (jM (ai 5) fZ (fq (ai 4))) (qR (aj (aG dO av (aG cH (aG gP (ai 0) av) (aG t9 (ai 2) av))) aA))) (jM (ai 5) (fq (aG dO (ai 4) av)) fZ))) nd)) d8)
  (a7 (c_ (qR (aj aK (aj (ai 4) (aj (ai 5) aA)))))))))
def f_m(B:Bi E)(u_m:Own E "_law_items" (top 54) ["cells","P","many","agains"])(Iq:PR E)(Ir:PU E):PV E:=by
 obtain⟨_,_,F_n,m_n⟩:=Iq.cF 2
 obtain⟨_,_,F_C,m_C⟩:=Ir.cF 2
 exact fb ["cells","P","many","agains","items","deep","k","few","level"] u_m λ_ _ _ _ _ _ _ hr hu nd=>(aV (fP 4 (cW aA) nd)
  (aV (fP 5 (cW aA) nd)
  (aV (wt 6 qZ rfl (Zr av (aG t9 (fm (NT rfl) B.bj (by trivial) (aj (fm iQ B.bg (by trivial) (aj (ai 0) aA)) (aj av aA))) av) av B.bk)
  (aV (cU 7 (PD.ro (aG t9 (fm iQ B.bg (by trivial) (aj (ai 4) aA)) (fm (NT rfl) B.bj (by trivial) (aj (aG cH (aG gP (cY (ai 0) (ai 6)) av) av) (aj (fm iQ B.bg (by trivial) (aj (ai 4) aA)) aA))))) nd)
  (aV (cU 8 (PD.ro (aG dO av (fm (ZZ rfl) B.bi (by trivial) (aj (PF.pd (i7 (PF.pd (cW (aj av aA))) (jM (ai 5) (fq (ai 7)) fZ))) aA)))) nd)
  (a7 (dH (kX.pt (yR (cN (gv hu) (aG cH (cY (ai 0) (ai 6)) av) av (cx _)) (yR (cN yV (ai 8) av (cx _)) (Cp (cN Cr (ai 3) av (cx _)))))) (aV (fP 4 (i7 (jM (ai 4) fZ (fq (ai 7))) (PF.pd (cW (aj (qR (aj aK (aj (cZ F_n hr m_n (aj (cY (ai 0) (aG dO (ai 6) av)) aA)) (aj (iI qT B.bo (by trivial) (aj (jM (ai 4) (fq (ai 7)) fZ) aA)) aA)))) aA)))) nd)
  (aV (fP 5 (i7 (jM (ai 5) fZ (fq (ai 7))) (PF.pd (cW (aj (ai 8) aA)))) nd)
  (a7 (cU 3 (PD.ro (aG t9 (ai 3) av)) nd)))) (aV (CI 4 (PD.ro (cZ F_C hr m_C (aj (aG gP (cY (ai 0) (ai 6)) av) (aj (cY (ai 0) (aG dO (ai 6) av)) (aj (ai 1) (aj (ai 2) aA)))))))
  (a7 (CI 5 (PD.ro av)))))))) nd)
  (a7 (c_ (iI qT B.bo (by trivial) (aj (ai 4) aA)))))))
def f_l(B:Bi E)(u_l:Own E "_law_names" (top 55) ["cell","more","many"]):PX E:=by
 exact fb ["cell","more","many","letters","size","out","k","word","p","n"] u_l λ_ _ _ _ _ _ _ hr hu nd=>(aV (cU 3 (PD.ro aK) nd)
  (aV (cU 4 (PD.ro (aG dO av (aG cH (ai 0) av))) nd)
  (aV (fP 5 (cW aA) nd)
  (aV (wt 6 qZ rfl (ze (ai 2) B.bk)
  (aV (cU 7 (PD.ro aK) nd)
  (aV (wt 8 qZ rfl (ze (ai 4) B.bk)
  (aV (cU 9 (PD.ro (aG dO (aG dO (aG pM (aG gP (ai 0) av) (aG dO (aG pM av (ai 8)) av)) (aG pM (aG gP (ai 1) av) (ai 8))) (aG pM (aG pM av (ai 8)) (ai 8)))) nd)
  (aV (dH (cN (gv hu) (ai 8) (aG cH (aG gP (ai 0) av) (ai 4)) (cx _)) (a7 (cU 9 (PD.ro (aG dO (ai 9) (aG pM (aG dO av (aG pM av (aG cH (ai 1) av))) (ai 6)))) nd)) d8)
  (a7 (cU 7 (PD.ro (aG nJ (ai 7) (HX (ai 3) (aG cH (ai 9) av)))) nd)))) nd)
  (aV (dH (cN (w9v hu) (ai 7) (qR (aj aK (aj aK aA))) rfl) (a7 (cU 7 (PD.ro (aG nJ (ai 7) aK)) nd)) d8)
  (a7 (CI 5 (PD.ro (ai 7))))))) nd)
  (a7 (c_ (iI qT B.bo (by trivial) (aj (ai 5) aA))))))))
def f_d(B:Bi E)(u_d:Own E "_law_odd_item" (top 58) ["P","names","cell","count"]):PY E:=by
 exact fb ["P","names","cell","count","near","numbers","at","odd","wrong","front","some"] u_d λ_ _ _ _ _ _ _ hr hu nd=>(aV (cU 4 (PD.ro (aG gP (ai 2) av)) nd)
  (aV (YV 5 (ub.Cu (ze (aG dO (fm iQ B.bg (by trivial) (aj (ai 1) aA)) av) B.bk)) (zj (λ_ _ _ _ _=>(PD.ro (iI nH B.bn (by trivial) (aj (aG cH (aG gP (ai 5) (aG dO (ai 0) av)) (ai 1)) aA))))) nd rfl)
  (aV (cU 6 (PD.ro (aG cH (ai 4) (fm iQ B.bg (by trivial) (aj (ai 5) aA)))) nd)
  (aV (cU 7 (PD.ro (cY (PF.pd (cW (aj aK (aj aK (aj aK (aj aK (aj aK (aj aK (aj (iI nH B.bn (by trivial) (aj (aG dO (ai 0) (aG cH (ai 4) (aG yU av av))) aA)) aA))))))))) (aG cH (aG gP (ai 4) av) av))) nd)
  (aV (fP 8 (i7 (PF.pd (i7 (jM (ai 5) fZ (fq (ai 6))) (PF.pd (cW (aj (ai 7) aA))))) (jM (ai 5) (fq (aG dO (ai 6) av)) fZ)) nd)
  (aV (fP 9 (cW (aj aK (aj (cY (ai 1) (aG cH (ai 4) (fm iQ B.bg (by trivial) (aj (ai 1) aA)))) aA))) nd)
  (aV (cU 10 (PF.ro (jx (bE (PF.ro (i7 (ai 9) (ai 8))) (bE (PF.ro (i7 (ai 9) (jM (ai 5) (fq av) fZ))) (bE (PF.ro (jJ (i7 (ai 9) (ai 5)) (cW (aj aK aA)))) (bE (PF.ro (jx (bE (PD.ro aK) (bE (PD.ro aK) (bE (PD.ro aK) (bE (PD.ro aK) eQ)))))) (bE (PF.ro (jx (bE (PD.ro aK) eQ))) eQ))))))) nd)
  (aV (cU 10 (PF.ro (zR (iH 10) (PF.ro (jx (bE (PF.ro (i7 (PF.pd (cW (aj aK (aj (aG nJ aK (cY (ai 1) av)) aA)))) (ai 5))) (bE (PF.ro (jx (bE (PD.ro aK) (bE (PD.ro aK) eQ)))) (bE (PF.ro (jx (bE (PD.ro aK) (bE (PD.ro aK) (bE (PD.ro aK) eQ))))) (bE (PF.ro (jx (bE (PD.ro aK) (bE (PD.ro aK) (bE (PD.ro aK) (bE (PD.ro aK) eQ)))))) eQ)))))))) nd)
  (aV (cU 10 (PF.ro (zR (iH 10) (PF.ro (jx (bE (PF.ro (jx (bE (PD.ro aK) (bE (PD.ro (iI nH B.bn (by trivial) (aj (aG dO (aG dO (aG yU av av) av) (aG cH (ai 4) (aG yU av av))) aA))) (bE (PD.ro aK) (bE (PD.ro aK) eQ)))))) (bE (PF.ro (jx (bE (PD.ro aK) (bE (PD.ro aK) (bE (PD.ro aK) (bE (PD.ro aK) eQ)))))) (bE (PF.ro (jx (bE (PD.ro aK) eQ))) eQ))))))) nd)
  (aV (cU 10 (PF.ro (zR (iH 10) (PF.ro (jx (bE (PF.ro (jJ (HI (cW (aj aK (aj aK (aj aK aA)))) av) (HI (cW (aj aK aA)) av))) (bE (PF.ro (HI (i7 (ai 9) (ai 5)) (aG t9 av (ai 3)))) eQ)))))) nd)
  (aV (cU 10 (PF.ro (zR (iH 10) (PF.ro (jx (bE (PF.ro (jx (bE (PD.ro aK) (bE (PD.ro aK) (bE (PD.ro aK) (bE (PD.ro aK) eQ)))))) (bE (PF.ro (jx (bE (PD.ro aK) (bE (OL (PF.ro (jx (bE (PD.ro aK) (bE (PD.ro aK) (bE (PD.ro aK) eQ))))) (aG cH (ai 4) av)) (bE (PD.ro aK) (bE (PD.ro aK) eQ)))))) eQ)))))) nd)
  (a7 (c_ (iP.pd (OL (PF.ro (zR (iH 10) (PF.ro (jx (bE (PF.ro (jx (bE (PD.ro aK) eQ))) (bE (PF.ro (jx (bE (PD.ro aK) eQ))) eQ)))))) (aG cH (ai 2) av))))))))))))))))
def f_b(B:Bi E)(u_b:Own E "_law_odd_names" (top 59) ["names","cell"]):PZ E:=by
 exact fb ["names","cell","at","some"] u_b λ_ _ _ _ _ _ _ hr hu nd=>(aV (cU 2 (PD.ro (aG cH (aG gP (ai 1) av) (fm iQ B.bg (by trivial) (aj (ai 0) aA)))) nd)
  (aV (fP 3 (cW (aj aK (aj aK (aj aK (aj aK (aj aK aA)))))) nd)
  (aV (dH (cN (gv hu) (aG cH (ai 1) av) av (cx _)) (a7 (c_ (cY (ZS (aj (PF.pd (jJ (ua (ai 0) B.bh (by trivial)) (cW (aj aK aA)))) (aj (PF.pd (cW aA)) (aj (PF.pd (jJ (ua (ai 0) B.bh (by trivial)) (uk (PF.pd (cW (aj aK (aj aK (aj aK (aj aK aA)))))) fZ (fq (aG t9 av (fm iQ B.bg (by trivial) (aj (ai 0) aA))))))) aA)))) (aG cH (aG gP (ai 1) av) av)))) d8)
  (aV (dH (cN (gv hu) (aG cH (ai 1) av) av (cx _)) (a7 (c_ (PF.pd (jJ (jJ (ua (jM (ai 0) fZ (fq (ai 2))) B.bh (by trivial)) (cW (aj (cY (ai 0) (ai 2)) aA))) (ua (jM (ai 0) (fq (ai 2)) fZ) B.bh (by trivial)))))) d8)
  (a7 (c_ (PF.pd (jJ (jJ (ua (jM (ai 0) fZ (fq (ai 2))) B.bh (by trivial)) (cW (aj (cY (ai 3) (aG cH (ai 1) av)) aA))) (ua (jM (ai 0) (fq (aG dO (ai 2) av)) fZ) B.bh (by trivial))))))))))
def f_c(B:Bi E)(u_c:Own E "_law_odd_signs" (top 60) ["text","cell"]):P0 E:=by
 exact fb ["text","cell","near","rows","at","row","spots","spot"] u_c λ_ _ _ _ _ _ _ hr hu nd=>(aV (cU 2 (PD.ro (aG gP (ai 1) av)) nd)
  (aV (fP 3 (zJ (ai 0)) nd)
  (aV (cU 4 (PD.ro (aG cH (ai 2) av)) nd)
  (aV (dH (cN yV (aG cH (ai 1) av) av (cx _)) (aV (cU 5 (PD.ro (cY (ai 3) (ai 4))) nd)
  (aV (fP 6 (jJ (ue (ub.Cu (ze (fm C1 B.bg (by trivial) (aj (ai 5) aA)) B.bk)) (GY (λ_ _ _ _ _=>(cN (gv hu) (HX (ai 6) (ai 0)) aK (cx _))) (λ_ _ _ _ _=>(PD.ro (ai 0)))) nd rfl) (cW (aj (fm C1 B.bg (by trivial) (aj (ai 5) aA)) aA))) nd)
  (aV (cU 7 (PD.ro (cY (ai 6) (aG cH (aG gP (ai 2) av) (fm iQ B.bg (by trivial) (aj (ai 6) aA))))) nd)
  (a7 (Of 3 (ai 4) (PD.ro (aG nJ (aG nJ (C6 (ai 5) fZ (fq (ai 7))) (cY (PF.pd (cW (aj aK (aj aK (aj aK aA))))) (aG cH (ai 1) av))) (C6 (ai 5) (fq (ai 7)) fZ)))))))) d8)
  (aV (dH (cN (gv hu) (aG cH (ai 1) av) av (cx _)) (a7 (fP 3 (jJ (uk (ai 3) fZ (fq (ai 4))) (uk (ai 3) (fq (aG dO (ai 4) av)) fZ)) nd)) d8)
  (aV (dH (cN (gv hu) (aG cH (ai 1) av) av (cx _)) (a7 (fP 3 (jJ (jJ (uk (ai 3) fZ (fq (ai 4))) (uk (ai 3) (fq (ai 4)) (fq (aG dO (ai 4) av)))) (uk (ai 3) (fq (ai 4)) fZ)) nd)) d8)
  (aV (dH (cN (gv hu) (aG cH (ai 1) av) av (cx _)) (a7 (fP 3 (i7 (ai 3) (PF.pd (cW (aj aK aA)))) nd)) d8)
  (aV (dH (cN (gv hu) (aG cH (ai 1) av) av (cx _)) (a7 (Of 3 (ai 4) (PD.ro (aG nJ (w0f (C6 (cY (ai 3) (ai 4)) fZ (fq av))) (C6 (cY (ai 3) (ai 4)) (fq av) fZ))))) d8)
  (a7 (c_ (rh (ai 3))))))))))))
def f_p(B:Bi E)(u_p:Own E "_law_prime" (top 49) ["cell"]):P1 E:=by
 exact fb ["cell","n"] u_p λ_ _ _ _ _ _ _ hr hu nd=>(aV (dH (cN (gv hu) (aG cH (ai 0) av) av (cx _)) (a7 (c_ (cY (qR Zd) (aG cH (aG gP (ai 0) av) av)))) d8)
  (aV (cU 1 (PD.ro (aG dO av (aG cH (aG gP (ai 0) av) av))) nd)
  (aV (Oh 10000 qZ (sF (fm (Ys rfl) B.bc (by trivial) (aj (PF.pd (ue (ub.Cu (Yv av av B.bk)) (GY (λ_ _ _ _ _=>(cN yV (ai 0) (ai 2) (cx _))) (λ_ _ _ _ _=>(PD.ro (qQ (gv hu) (aG cH (ai 2) (ai 0)) av (cx _))))) nd rfl)) aA))) (a7 (cU 1 (PD.ro (aG dO (ai 1) av)) nd)))
  (a7 (c_ (ai 1))))))
def f_s(B:Bi E)(u_s:Own E "is_made_of" (top 32) ["word","signs","most"]):Im E:=by
 exact fb ["word","signs","most"] u_s λ_ _ _ _ _ _ _ hr hu nd=>(a7 (c_ (t8 (qQ yW av (fm C1 B.bg (by trivial) (aj (ai 0) aA)) (cx _)) (t8 (qQ yW (fm C1 B.bg (by trivial) (aj (ai 0) aA)) (ai 2) (cx _)) (yS (fm (OV rfl) B.bb (by trivial) (aj (PF.pd (ue (w0d (ai 0)) (zj (λ_ _ _ _ _=>(PD.ro (qQ w7i (ai 0) (ai 2) rfl)))) nd rfl)) aA)))))))
def f_j(B:Bi E)(u_j:Own E "number_from" (top 33) ["word"])(wO:Im E):C_ E:=by
 obtain⟨_,_,Iu,Iv⟩:=wO.cF 1
 exact fb ["word"] u_j λ_ _ _ _ _ _ _ hr hu nd=>(aV (dH (kX.pt (Cq (sG (sF (cZ Iu hr Iv (aj (ai 0) (aj (PA B.bp ⟨_,rfl⟩) (aj (q_ B.bv ⟨_,rfl⟩) aA)))))) (GH (kX.pt (yR (cN (gv hu) (HX (ai 0) av) aK (cx _)) (Cp (cN (sH hu) (ai 0) aK (cx _)))))))) (a7 (iT B.ci aK rfl)) d8)
  (a7 (c_ (iI w5s B.be (by trivial) (aj (ai 0) aA)))))
def f_H(B:Bi E)(u_H:Own E "taken" (top 35) ["words","count"]):Dc E:=by
 exact wL ["words","count"] u_H λ_ _ _ _ _ _ _ hr hu nd=>(PW.e (nP (HV (cN yV (fm iQ B.bg (by trivial) (aj (ai 0) aA)) (ai 1) (cx _)) (wH (C3 (iT B.ci aK rfl))) HU)
  (w3x (ai 1) (λ_ _ _ _ _=>w9l 1) nd rfl B.bk)))
def f_x(B:Bi E)(u_x:Own E "take_sign" (top 36) ["words","sign"])(rk:Dc E):P2 E:=by
 obtain⟨_,_,uy,uz⟩:=rk.cF 1
 exact wL ["words","sign"] u_x λ_ _ _ _ _ _ _ hr hu nd=>(rg.e (wH (x6f (sH hu) (nO uy hr uz (nM 0 rfl (bE (PD.ro av) eQ))) (PF.pd (cW (aj (ai 1) aA))) (wH (C3 (iT B.ci aK rfl))))))
def f_a(B:Bi E)(u_a:Own E "number_on_wheel" (top 34) ["P","word"])(rm:C_ E):P4 E:=by
 obtain⟨_,_,zV,zW⟩:=rm.cF 2
 exact fb ["P","word","n"] u_a λ_ _ _ _ _ _ _ hr hu nd=>(aV (cU 2 (PD.ro (cZ zV hr zW (aj (ai 1) aA))) nd)
  (aV (dH (cN GJ (ai 2) (ai 0) (cx _)) (a7 (iT B.ci aK rfl)) d8)
  (a7 (c_ (ai 2)))))
def f_B(B:Bi E)(u_B:Own E "set_from" (top 37) ["P","names","words"])(Iw:P4 E)(rk:Dc E):P5 E:=by
 obtain⟨_,_,F_a,m_a⟩:=Iw.cF 3
 obtain⟨_,_,uy,uz⟩:=rk.cF 3
 exact wL ["P","names","words","name","form"] u_B λ_ _ _ _ _ _ _ hr hu nd=>(PW.e (nP (zO 3 (Ia (nO uy hr uz (nM 2 rfl (bE (PD.ro av) eQ))) av) nd)
  (nP (HV (cN (Pw hu) (ai 3) (ai 1) rfl) (wH (C3 (iT B.ci aK rfl))) HU)
  (nP (x0f 4 (nO uy hr uz (nM 2 rfl (bE (PD.ro (aG dO (fm iQ B.bg (by trivial) (aj (ai 1) aA)) av)) eQ))) (OP (λ_ _ _ _ _ jK=>(PD.ro (OT F_a hr m_a (aj (ai 1) (aj (ai 0) aA)) jK)))) nd rfl rfl rfl rfl)
  (HZ (OK (bE (PD.ro aK) (bE (PD.ro (x6m (ai 1) (ai 3))) (bE (PD.ro (iI qT B.bo (by trivial) (aj (ai 4) aA))) eQ)))))))))
def y8n(B:Bi E)(Qk:Own E "again_from" (top 38) ["P","names","words","around"])(Ql:Own E "item_from" (top 39) ["P","names","words","around"])(Qm:Own E "items_from" (top 40) ["P","names","words","around"])(rm:C_ E)(Iy:P2 E)(rk:Dc E)(Iz:P5 E):∀n:Nat,lV E (4+n) "again_from" ["P","names","words","around"] 2 (fN n)/\lV E (4+n) "item_from" ["P","names","words","around"] 2 (dX n)/\lV E (4+n) "items_from" ["P","names","words","around"] 2 (dG n):=by
 intro n
 induction n with
 | zero=>exact⟨Ik (k:=3) ["P","names","words","around","n","items"] Qk,Ik (k:=3) ["P","names","words","around","word"] Ql,Ik (k:=3) ["P","names","words","around","items"] Qm⟩
 | succ n ih =>
   obtain⟨⟨_,_,a1b,a1c⟩,⟨_,_,a1d,a1e⟩,⟨_,_,IA,IB⟩⟩:=ih
   obtain⟨_,_,zV,zW⟩:=rm.cF (4+n)
   obtain⟨_,_,Qn,Qo⟩:=Iy.cF (4+n)
   obtain⟨_,_,uy,uz⟩:=rk.cF (4+n)
   obtain⟨_,_,F_B,m_B⟩:=Iz.cF (4+n)
   refine⟨?_,?_,?_⟩
   .exact wL (k:=4+n) ["P","names","words","around","n","items"] Qk λ_ _ _ _ _ _ _ hr hu nd=>(PW.e (nP (HV (cN GJ (ai 3) (q_ B.bu ⟨_,rfl⟩) (cx _)) (wH (C3 (iT B.ci aK rfl))) HU)
   (nP (zO 4 (x6j zV hr zW (Ia (nO uy hr uz (nM 2 rfl (bE (PD.ro av) eQ))) av)) nd)
   (nP (Ph (nO Qn hr Qo (nM 2 rfl (bE (PD.ro aK) eQ))))
   (nP (zO 5 (nO IA hr IB (pW (iH 0) (pW (iH 1) (nM 2 rfl (bE (PD.ro (aG dO (ai 3) av)) eQ))))) nd)
   (nP (Ph (nO Qn hr Qo (nM 2 rfl (bE (PD.ro aK) eQ))))
   (HZ (OK (bE (PD.ro aK) (bE (iH 4) (bE (iH 5) eQ)))))))))))
   .exact wL (k:=4+n) ["P","names","words","around","word"] Ql λ_ _ _ _ _ _ _ hr hu nd=>(PW.e (nP (zO 4 (Ia (nO uy hr uz (nM 2 rfl (bE (PD.ro av) eQ))) av) nd)
   (Pc (cN (gv hu) (ai 4) aK (cx _)) (Pd (nO F_B hr m_B (pW (iH 0) (pW (iH 1) (nM 2 rfl eQ)))))
   (Pc (cN (gv hu) (ai 4) aK (cx _)) (Pd (nO a1b hr a1c (pW (iH 0) (pW (iH 1) (nM 2 rfl (bE (iH 3) eQ))))))
   (w0a (iT B.ci aK rfl))))))
   .exact wL (k:=4+n) ["P","names","words","around","items"] Qm λ_ _ _ _ _ _ _ hr hu nd=>(PW.e (nP (w4c 4 (cW aA) nd)
   (nP (w0b 200 qZ (kX.pt (yR (HK (ai 2)) (Cp (cN (sH hu) (cY (ai 2) (Yd av)) aK (cx _))))) (wH (w4e 4 (nO a1d hr a1e (pW (iH 0) (pW (iH 1) (nM 2 rfl (bE (iH 3) eQ))))))))
   (HZ (PD.ro (iI qT B.bo (by trivial) (aj (ai 4) aA)))))))
def f_A(B:Bi E)(u_A:Own E "is_whole" (top 11) ["thing"]):P6 E:=by
 exact fb ["thing"] u_A λ_ _ _ _ _ _ _ hr hu nd=>(a7 (c_ (t8 (Ox Ba (ai 0) B.bf (λI q=>kl I rfl B.be (by trivial) q) Zf) (yS (Yc (Ox Bb (ai 0) B.bf (λI q=>kl I rfl B.bd (by trivial) q) Zg))))))
def f_D(u_D:Own E "is_from" (top 13) ["thing","least","most"])(IC:P6 E):zU E:=by
 obtain⟨_,_,F_A,m_A⟩:=IC.cF 1
 exact fb ["thing","least","most"] u_D λ_ _ _ _ _ _ _ hr hu nd=>(a7 (c_ (t8 (cZ F_A hr m_A (aj (ai 0) aA)) (t8 (qQ yW (ai 1) (ai 0) (cx _)) (yS (qQ yW (ai 0) (ai 2) (cx _)))))))
def f_f(B:Bi E)(Qp:Own E "items_counted" (top 21) ["items","ahead"]):∀n:Nat,df E (1+n) "items_counted" ["items","ahead"] (pz n):=by
 intro n
 induction n with
 | zero=>exact C9 (k:=0) ["items","ahead","count","item"] Qp
 | succ n ih =>
   obtain⟨_,_,ID,IE⟩:=ih
   exact fb (k:=1+n) ["items","ahead","count","item"] Qp λ_ _ _ _ _ _ _ hr hu nd=>(aV (cU 2 (PD.ro (ai 1)) nd)
   (aV (wt 3 qZ rfl (GV (iH 0))
   (aV (cU 2 (PD.ro (aG dO (ai 2) av)) nd)
   (aV (dH (cN Cr (ai 2) (q_ B.bw ⟨_,rfl⟩) (cx _)) (a7 (iT B.ch aK rfl)) d8)
   (a7 (dH (cN (gv hu) (cY (ai 3) av) aK (cx _)) (a7 (cU 2 (PD.ro (cZ ID hr IE (aj (cY (ai 3) av) (aj (ai 2) aA)))) nd)) d8)))) nd)
   (a7 (c_ (ai 2)))))
def a1f(a1g:Own E "on" (top 16) ["P","n"]):P7 E:=by
 exact fb ["P","n"] a1g λ_ _ _ _ _ _ _ hr hu nd=>(a7 (c_ (aG cH (ai 1) (ai 0))))
def f_z(B:Bi E)(u_z:Own E "made_set" (top 22) ["P","many","x","form"])(nQ:zU E)(IF:P7 E):P8 E:=by
 obtain⟨_,_,uA,uB⟩:=nQ.cF 2
 obtain⟨_,_,a1h,a1i⟩:=IF.cF 2
 exact fb ["P","many","x","form"] u_z λ_ _ _ _ _ _ _ hr hu nd=>(aV (dH (sG (sF (cZ uA hr uB (aj (ai 2) (aj av (aj (aG t9 (ai 1) av) aA)))))) (a7 (iT B.ch aK rfl)) d8)
  (aV (dH (cN (sH hu) (fm iQ B.bg (by trivial) (aj (ai 3) aA)) (aG dO (ai 1) av) (cx _)) (a7 (iT B.ch aK rfl)) d8)
  (a7 (c_ (qR (aj aK (aj (ai 2) (aj (iI qT B.bo (by trivial) (aj (PF.pd (ue (Cw (ai 3)) (zj (λ_ _ _ _ _=>(PD.ro (NY a1h hr a1i (aj (ai 1) (aj (ai 0) aA)))))) nd rfl)) aA)) aA))))))))
def y8m(B:Bi E)(Qq:Own E "made_again" (top 23) ["P","many","n","items","around"])(Qr:Own E "made_item" (top 24) ["P","many","item","around"])(Qs:Own E "made_items" (top 25) ["P","many","items","around"])(nQ:zU E)(IG:P8 E):∀n:Nat,df E (3+n) "made_again" ["P","many","n","items","around"] (so n)/\df E (3+n) "made_item" ["P","many","item","around"] (qG n)/\df E (3+n) "made_items" ["P","many","items","around"] (pE n):=by
 intro n
 induction n with
 | zero=>exact⟨C9 (k:=2) ["P","many","n","items","around"] Qq,C9 (k:=2) ["P","many","item","around"] Qr,C9 (k:=2) ["P","many","items","around"] Qs⟩
 | succ n ih =>
   obtain⟨⟨_,_,a1j,a1k⟩,⟨_,_,a1l,a1m⟩,⟨_,_,IH,II⟩⟩:=ih
   obtain⟨_,_,uA,uB⟩:=nQ.cF (3+n)
   obtain⟨_,_,F_z,m_z⟩:=IG.cF (3+n)
   refine⟨?_,?_,?_⟩
   .exact fb (k:=3+n) ["P","many","n","items","around"] Qq λ_ _ _ _ _ _ _ hr hu nd=>(aV (dH (cN GJ (ai 4) (q_ B.bu ⟨_,rfl⟩) (cx _)) (a7 (iT B.ch aK rfl)) d8)
   (aV (dH (sG (sF (cZ uA hr uB (aj (ai 2) (aj av (aj (aG yU av av) aA)))))) (a7 (iT B.ch aK rfl)) d8)
   (a7 (c_ (qR (aj aK (aj (ai 2) (aj (cZ IH hr II (aj (ai 0) (aj (ai 1) (aj (ai 3) (aj (aG dO (ai 4) av) aA))))) aA))))))))
   .exact fb (k:=3+n) ["P","many","item","around"] Qr λ_ _ _ _ _ _ _ hr hu nd=>(aV (dH (cN (gv hu) (cY (ai 2) av) aK (cx _)) (a7 (c_ (cZ F_z hr m_z (aj (ai 0) (aj (ai 1) (aj (cY (ai 2) av) (aj (cY (ai 2) av) aA))))))) d8)
   (a7 (c_ (cZ a1j hr a1k (aj (ai 0) (aj (ai 1) (aj (cY (ai 2) av) (aj (cY (ai 2) av) (aj (ai 3) aA)))))))))
   .exact fb (k:=3+n) ["P","many","items","around"] Qs λ_ _ _ _ _ _ _ hr hu nd=>(a7 (c_ (iI qT B.bo (by trivial) (aj (PF.pd (Z9 (ub.Cu (GV (iH 2))) (OP (λ_ _ _ _ _ jK=>(PD.ro (OT a1l hr a1m (aj (ai 1) (aj (ai 2) (aj (ai 0) (aj (ai 4) aA)))) jK)))) nd rfl rfl rfl rfl)) aA))))
def f_e(u_e:Own E "least_divisor" (top 12) ["n"]):P9 E:=by
 exact fb ["n","divisor"] u_e λ_ _ _ _ _ _ _ hr hu nd=>(aV (cU 1 (PD.ro av) nd)
  (aV (Oh 10000 qZ (cN yW (aG pM (ai 1) (ai 1)) (ai 0) (cx _)) (aV (dH (cN (gv hu) (aG cH (ai 0) (ai 1)) av (cx _)) (a7 (c_ (ai 1))) d8)
  (a7 (cU 1 (PD.ro (aG dO (ai 1) av)) nd))))
  (a7 (c_ (ai 0)))))
def f_y(B:Bi E)(u_y:Own E "is_prime" (top 14) ["thing"])(nQ:zU E)(IJ:P9 E):Io E:=by
 obtain⟨_,_,uA,uB⟩:=nQ.cF 2
 obtain⟨_,_,F_e,m_e⟩:=IJ.cF 2
 exact fb ["thing"] u_y λ_ _ _ _ _ _ _ hr hu nd=>(a7 (c_ (t8 (cZ uA hr uB (aj (ai 0) (aj (q_ B.br ⟨_,rfl⟩) (aj (q_ B.bq ⟨_,rfl⟩) aA)))) (yS (qQ (gv hu) (cZ F_e hr m_e (aj (ai 0) aA)) (ai 0) (cx _))))))
def f_G(B:Bi E)(u_G:Own E "prime" (top 15) ["thing"])(wQ:Io E):P_ E:=by
 obtain⟨_,_,IK,IL⟩:=wQ.cF 3
 exact fb ["thing"] u_G λ_ _ _ _ _ _ _ hr hu nd=>(aV (dH (sG (sF (cZ IK hr IL (aj (ai 0) aA)))) (a7 (iT B.cg aK rfl)) d8)
  (a7 (c_ (ai 0))))
def f_F(B:Bi E)(u_F:Own E "program" (top 26) ["P","many","items"])(nQ:zU E)(IM:h_f E)(IP:h_u E)(IQ:P_ E):Qa E:=by
 obtain⟨_,_,uA,uB⟩:=nQ.cF 15
 obtain⟨_,_,ID,IE⟩:=IM.cF 15
 obtain⟨_,_,IH,II⟩:=IP.cF 15
 obtain⟨_,_,F_G,m_G⟩:=IQ.cF 15
 exact fb ["P","many","items"] u_F λ_ _ _ _ _ _ _ hr hu nd=>(aV (HD (cZ F_G hr m_G (aj (ai 0) aA)))
  (aV (dH (sG (sF (cZ uA hr uB (aj (ai 1) (aj av (aj (q_ B.bt ⟨_,rfl⟩) aA)))))) (a7 (iT B.ch aK rfl)) d8)
  (aV (HD (cZ ID hr IE (aj (ai 2) (aj av aA))))
  (a7 (c_ (cZ IH hr II (aj (ai 0) (aj (ai 1) (aj (ai 2) (aj av aA))))))))))
def f_t(B:Bi E)(u_t:Own E "read_items" (top 45) ["P","names","words"])(IS:h_k E)(IT:Qa E):Qb E:=by
 obtain⟨_,_,IA,IB⟩:=IS.cF 16
 obtain⟨_,_,F_F,m_F⟩:=IT.cF 16
 exact fb ["P","names","words","left","items"] u_t λ_ _ _ _ _ _ _ hr hu nd=>(aV (fP 3 (x4b (ai 2) B.bl B.bh rfl) nd)
  (aV (PK.pq (zO 4 (nO IA hr IB (pW (iH 0) (pW (iH 1) (nM 3 rfl (bE (PD.ro av) eQ))))) nd))
  (aV (dH (HK (ai 3)) (a7 (iT B.ci aK rfl)) d8)
  (a7 (w3y B.cs B.ct B.cb B.ci (a7 (c_ (cZ F_F hr m_F (aj (ai 0) (aj (fm iQ B.bg (by trivial) (aj (ai 1) aA)) (aj (ai 4) aA)))))) (λ_=>aK))))))
def f_E(B:Bi E)(u_E:Own E "is_name" (top 43) ["word"])(wO:Im E):Qc E:=by
 obtain⟨_,_,Iu,Iv⟩:=wO.cF 1
 exact fb ["word"] u_E λ_ _ _ _ _ _ _ hr hu nd=>(a7 (c_ (t8 (cZ Iu hr Iv (aj (ai 0) (aj (PA B.bs ⟨_,rfl⟩) (aj (q_ B.bx ⟨_,rfl⟩) aA)))) (yS (qQ (Pw hu) (ai 0) (qR (aj aK (aj aK aA))) rfl)))))
def f_q(B:Bi E)(u_q:Own E "read_names" (top 44) ["words"])(IU:Qc E):Qd E:=by
 obtain⟨_,_,F_E,m_E⟩:=IU.cF 2
 exact fb ["words"] u_q λ_ _ _ _ _ _ _ hr hu nd=>(aV (dH (kX.pt (Cq (sG (HK (ai 0))) (Cq (cN Cr (fm iQ B.bg (by trivial) (aj (ai 0) aA)) (q_ B.bt ⟨_,rfl⟩) (cx _)) (GH (cN (sH hu) (w0h (ai 0) B.bg B.bm rfl) (fm iQ B.bg (by trivial) (aj (ai 0) aA)) (cx _)))))) (a7 (iT B.ci aK rfl)) d8)
  (aV (dH (sG (sF (fm (OV rfl) B.bb (by trivial) (aj (PF.pd (ue (Cw (ai 0)) (zj (λ_ _ _ _ _=>(PD.ro (NY F_E hr m_E (aj (ai 0) aA))))) nd rfl)) aA)))) (a7 (iT B.ci aK rfl)) d8)
  (a7 (c_ (iI qT B.bo (by trivial) (aj (ai 0) aA))))))
def f_o(B:Bi E)(u_o:Own E "read_prime" (top 42) ["words"])(wQ:Io E)(rm:C_ E):Qe E:=by
 obtain⟨_,_,IK,IL⟩:=wQ.cF 3
 obtain⟨_,_,zV,zW⟩:=rm.cF 3
 exact fb ["words","P"] u_o λ_ _ _ _ _ _ _ hr hu nd=>(aV (dH (cN (sH hu) (fm iQ B.bg (by trivial) (aj (ai 0) aA)) av (cx _)) (a7 (iT B.ci aK rfl)) d8)
  (aV (cU 1 (PD.ro (cZ zV hr zW (aj (cY (ai 0) av) aA))) nd)
  (aV (dH (sG (sF (cZ IK hr IL (aj (ai 1) aA)))) (a7 (iT B.ci aK rfl)) d8)
  (a7 (c_ (ai 1))))))
def f_h(B:Bi E)(u_h:Own E "words_behind" (top 41) ["row","first"]):Qf E:=by
 exact PL ["row","first","words"] u_h λ_ _ _ _ _ _ _ hr hu nd=>(aV (fP 2 (zJ (ai 0)) nd)
  (aV (dH (cN (sH hu) (cY (ai 2) av) (ai 1) (cx _)) (a7 (iT B.ci aK rfl)) d8)
  (a7 (YT (uk (ai 2) (fq av) fZ)))))
def f_I(B:Bi E)(u_I:Own E "read" (top 46) ["text"])(IV:Qb E)(IW:Qd E)(IX:Qe E)(IY:Qf E):Qg E:=by
 obtain⟨_,_,F_t,m_t⟩:=IV.cF 17
 obtain⟨_,_,F_q,m_q⟩:=IW.cF 17
 obtain⟨_,_,F_o,m_o⟩:=IX.cF 17
 obtain⟨_,_,IZ,I8⟩:=IY.cF 17
 exact fb ["text","rows","P","names"] u_I λ_ _ _ _ _ _ _ hr hu nd=>(aV (fP 1 (zJ (ai 0)) nd)
  (aV (dH (cN (sH hu) (fm iQ B.bg (by trivial) (aj (ai 1) aA)) av (cx _)) (a7 (iT B.ci aK rfl)) d8)
  (aV (cU 2 (PD.ro (cZ F_o hr m_o (aj (PF.pd (t_ IZ hr I8 (aj (cY (ai 1) av) (aj aK aA)))) aA))) nd)
  (aV (cU 3 (PD.ro (cZ F_q hr m_q (aj (PF.pd (t_ IZ hr I8 (aj (cY (ai 1) av) (aj aK aA)))) aA))) nd)
  (a7 (c_ (qR (aj (ai 2) (aj (ai 3) (aj (cZ F_t hr m_t (aj (ai 2) (aj (ai 3) (aj (PF.pd (t_ IZ hr I8 (aj (cY (ai 1) av) (aj aK aA)))) aA)))) aA))))))))))
def f_g(B:Bi E)(u_g:Own E "_law_refused" (top 61) ["text"])(I9:Qg E):Qh E:=by
 obtain⟨_,_,F_I,m_I⟩:=I9.cF 18
 exact fb ["text","refused","e"] u_g λ_ _ _ _ _ _ _ hr hu nd=>(aV (fP 1 (cW aA) nd)
  (aV (ZN 2 ⟨B.cq,B.cr⟩ B.cf (a7 (HD (cZ F_I hr m_I (aj (ai 0) aA)))) (λ_=>(aV (fP 1 (cW (aj (um 2 (ZI B.ba (by trivial)) B.cp B.bf (ai 2)) (aj (um 2 (wC B.ce) B.cn B.bf (ai 2)) (aj (um 2 (wC B.ca) B.ck B.bf (ai 2)) (aj (um 2 (wC B.bz) B.cl B.bf (ai 2)) aA))))) nd)
  (a7 (fP 1 (i7 (ai 1) (PF.pd (cW (aj (um 2 (wC B.cb) B.cm B.bf (ai 2)) (aj (um 2 (wC B.cd) B.cj B.bf (ai 2)) (aj (um 2 (wC B.cc) B.co B.bf (ai 2)) aA)))))) nd)))) nd)
  (a7 (c_ (qQ (gv hu) (ai 1) (PF.pd (cW (aj t7 (aj t7 (aj t7 (aj t7 (aj t7 (aj t7 (aj t7 aA))))))))) (cx _))))))
def f_r(B:Bi E)(Qt:Own E "_law_words" (top 56) ["names","items"]):∀n:Nat,pX E (1+n) "_law_words" ["names","items"] (qE n):=by
 intro n
 induction n with
 | zero=>exact noF (k:=0) ["names","items","words","item"] Qt
 | succ n ih =>
   obtain⟨_,_,wR,wU⟩:=ih
   exact PL (k:=1+n) ["names","items","words","item"] Qt λ_ _ _ _ _ _ _ hr hu nd=>(aV (fP 2 (cW aA) nd)
   (aV (wt 3 qZ rfl (GV (iH 1))
   (a7 (dH (cN (gv hu) (cY (ai 3) av) aK (cx _)) (a7 (fP 2 (jJ (i7 (ai 2) (PF.pd (cW (aj aK (aj (cY (ai 0) (cY (ai 3) av)) aA))))) (ue (Cw (cY (ai 3) av)) (zj (λ_ _ _ _ _=>(PD.ro (iI nH B.bn (by trivial) (aj (ai 0) aA))))) nd rfl)) nd)) (a7 (fP 2 (jJ (jJ (i7 (ai 2) (PF.pd (cW (aj aK (aj (iI nH B.bn (by trivial) (aj (cY (ai 3) av) aA)) (aj aK aA)))))) (t_ wR hr wU (aj (ai 0) (aj (cY (ai 3) av) aA)))) (cW (aj aK aA))) nd)))) nd)
   (a7 (YU 2))))
def f_v(B:Bi E)(u_v:Own E "_law_text" (top 57) ["P","names","items"])(wV:Qi E):Qj E:=by
 obtain⟨_,_,wR,wU⟩:=wV.cF 13
 exact fb ["P","names","items","rows"] u_v λ_ _ _ _ _ _ _ hr hu nd=>(aV (fP 3 (cW (aj (aG nJ aK (iI nH B.bn (by trivial) (aj (ai 0) aA))) (aj (rh (PF.pd (jJ (cW (aj aK aA)) (ua (ai 1) B.bh (by trivial))))) (aj (rh (PF.pd (jJ (cW (aj aK aA)) (t_ wR hr wU (aj (ai 1) (aj (ai 2) aA)))))) aA)))) nd)
  (a7 (c_ (rh (ai 3)))))
def v0l{E:Ev}{a:Addr}{d:cw}(B:Bi E)(U:mU E.K "law" "law" Il a d)(hb:kL E.K d ["script"] [])(I_:PO E)(Ja:PV E)(Jb:PX E)(Jc:PY E)(Jd:PZ E)(Je:P0 E)(Jf:P1 E)(Jg:Qh E)(Jh:Qj E)(wV:Qi E):iJ E.P E.w E.K E.mg E.base 20 a d ["script"] Cf:=by
 obtain⟨_,_,zX,zY⟩:=I_.cF 19
 obtain⟨_,_,F_m,m_m⟩:=Ja.cF 19
 obtain⟨_,_,F_l,m_l⟩:=Jb.cF 19
 obtain⟨_,_,F_d,m_d⟩:=Jc.cF 19
 obtain⟨_,_,F_b,m_b⟩:=Jd.cF 19
 obtain⟨_,_,F_c,m_c⟩:=Je.cF 19
 obtain⟨_,_,F_p,m_p⟩:=Jf.cF 19
 obtain⟨_,_,De,Df⟩:=Jg.cF 19
 obtain⟨_,_,F_v,m_v⟩:=Jh.cF 19
 obtain⟨_,_,wR,wU⟩:=wV.cF 19
 refine Ow U PN hb (λds h=>Bf h) λbA A outer s H E hr=>?_
 have nd:=PN.nd
 have hu:=hr.units
 exact⟨GC,(aV (cU 1 (PD.ro (cZ F_p hr m_p (aj (cZ zX hr zY (aj (ai 0) (aj av aA))) aA))) nd)
  (aV (cU 2 (PD.ro (cZ F_l hr m_l (aj (cZ zX hr zY (aj (ai 0) (aj av aA))) (aj (cZ zX hr zY (aj (ai 0) (aj av aA))) (aj (aG dO av (aG cH (cZ zX hr zY (aj (ai 0) (aj av aA))) av)) aA))))) nd)
  (aV (cU 3 (PD.ro (cZ F_m hr m_m (aj (jM (ai 0) (fq av) (fq av)) (aj (ai 1) (aj (fm iQ B.bg (by trivial) (aj (ai 2) aA)) (aj av aA)))))) nd)
  (aV (cU 4 (PD.ro (cZ F_v hr m_v (aj (ai 1) (aj (ai 2) (aj (ai 3) aA))))) nd)
  (aV (cU 5 (PD.ro (cZ zX hr zY (aj (ai 0) (aj av aA)))) nd)
  (aV (fP 6 (zJ (ai 4)) nd)
  (aV (dH (cN (gv hu) (aG cH (ai 5) av) av (cx _)) (aV (cU 7 (PD.ro (aG cH (aG gP (ai 5) av) (aG dO (fm iQ B.bg (by trivial) (aj (ai 3) aA)) av))) nd)
  (aV (cU 8 (PD.ro (fm iQ B.bg (by trivial) (aj (PF.pd (ue (Cw (PF.pd (zJ (cY (ai 6) av)))) (GY (λ_ _ _ _ _=>(kX.pt (Cq (cN (gv hu) (ai 0) aK (cx _)) (GH (cN (gv hu) (ai 0) aK (cx _)))))) (λ_ _ _ _ _=>(PD.ro (ai 0)))) nd rfl)) aA))) nd)
  (aV (fP 9 (i7 (PF.pd (jJ (cW (aj aK aA)) (t_ wR hr wU (aj (ai 2) (aj (jM (ai 3) fZ (fq (ai 7))) aA))))) (cZ F_d hr m_d (aj (ai 1) (aj (ai 2) (aj (aG gP (ai 5) av) (aj (ai 8) aA)))))) nd)
  (a7 (c_ (cZ De hr Df (aj (rh (PF.pd (i7 (jM (ai 6) fZ (fq av)) (PF.pd (cW (aj (rh (PF.pd (i7 (ai 9) (PF.pd (t_ wR hr wU (aj (ai 2) (aj (jM (ai 3) (fq (ai 7)) fZ) aA))))))) aA)))))) aA))))))) d8)
  (aV (dH (cN (gv hu) (aG cH (ai 5) av) av (cx _)) (aV (fP 10 (cW (aj aK (aj aK (aj aK (aj aK (aj aK (aj aK (aj aK (aj aK (aj (iI nH B.bn (by trivial) (aj (aG pM (ai 1) (ai 1)) aA)) (aj (iI nH B.bn (by trivial) (aj (aG dO (ai 1) (aG pM av av)) aA)) aA))))))))))) nd)
  (aV (fP 10 (i7 (ai 10) (PF.pd (cW (aj (aG nJ aK (iI nH B.bn (by trivial) (aj (ai 1) aA))) (aj (aG nJ aK (iI nH B.bn (by trivial) (aj (ai 1) aA))) (aj aK (aj (aG nJ aK (iI nH B.bn (by trivial) (aj (ai 1) aA))) (aj (aG nJ (iI nH B.bn (by trivial) (aj (ai 1) aA)) aK) (aj aK aA))))))))) nd)
  (a7 (c_ (cZ De hr Df (aj (rh (PF.pd (i7 (PF.pd (cW (aj (w0g (aG nJ aK (cY (ai 10) (aG cH (aG gP (ai 5) av) av)))) aA))) (jM (ai 6) (fq av) fZ)))) aA)))))) d8)
  (aV (dH (cN (gv hu) (aG cH (ai 5) av) av (cx _)) (a7 (c_ (cZ De hr Df (aj (rh (PF.pd (cW (aj (cY (ai 6) av) (aj (rh (PF.pd (i7 (PF.pd (cW (aj aK aA))) (cZ F_b hr m_b (aj (ai 2) (aj (aG gP (ai 5) av) aA)))))) (aj (cY (ai 6) av) aA)))))) aA)))) d8)
  (a7 (c_ (cZ De hr Df (aj (cZ F_c hr m_c (aj (ai 4) (aj (aG gP (ai 5) av) aA))) aA))))))))))))),λds bO=>(Bg (Bf bO)).symm⟩
end
def Qu{α:Type}{p:List α->Prop}(h:∀a,p [a])(us:List α)(hl:us.length=1):p us:=by
 obtain⟨a,rfl⟩:∃a,us=[a]:=by
  match us,hl with
  | [a],_=>exact⟨a,rfl⟩
 exact h a
def v0e{α:Type}{p:List α->Prop}(h:∀a b,p [a,b])(us:List α)(hl:us.length=2):p us:=by
 obtain⟨a,b,rfl⟩:∃a b,us=[a,b]:=by
  match us,hl with
  | [a,b],_=>exact⟨a,b,rfl⟩
 exact h a b
def v0d{α:Type}{p:List α->Prop}(h:∀a b c,p [a,b,c])(us:List α)(hl:us.length=3):p us:=by
 obtain⟨a,b,c,rfl⟩:∃a b c,us=[a,b,c]:=by
  match us,hl with
  | [a,b,c],_=>exact⟨a,b,c,rfl⟩
 exact h a b c
def v0c{α:Type}{p:List α->Prop}(h:∀a b c d,p [a,b,c,d])(us:List α)(hl:us.length=4):p us:=by
 obtain⟨a,b,c,d,rfl⟩:∃a b c d,us=[a,b,c,d]:=by
  match us,hl with
  | [a,b,c,d],_=>exact⟨a,b,c,d,rfl⟩
 exact h a b c d
def v0b{α:Type}{p:List α->Prop}(h:∀a b c d e,p [a,b,c,d,e])(us:List α)(hl:us.length=5):p us:=by
 obtain⟨a,b,c,d,e,rfl⟩:∃a b c d e,us=[a,b,c,d,e]:=by
  match us,hl with
  | [a,b,c,d,e],_=>exact⟨a,b,c,d,e,rfl⟩
 exact h a b c d e
section
variable {w:aX}{h:Heap}{mg:Str->Option Value}(X:(KK w.params).In h)(G:h.Ns dm mg)
include X G in
def ma{x:Str}{v:Value}(e:iL (KK w.params) dm x=some (some v)):mg x=some v:=rG X G e
include X G in
def mn{x:Str}(e:iL (KK w.params) dm x=some none):mg x=none:=PySem.W.mg_none_of X G e
include X G in
def ow(base:Heap){x:Str}{st:Stmt}{ps:List Str}{c:Addr}{pm:Value}(a:Addr)(n:iL (KK w.params) dm x=some (some (.ref a)):=by k_is)(l:(KK w.params).lookup a=some (HQ.fO x st pm (.ref c)):=by k_is)(e:Jw (KK w.params) (.ref c) x=true:=by k_is)(b:∀(kV doc pm:Value) (an:Option Addr) (bA ct:Value) (us:List Value),us.length=ps.length->QH (Dk x x (xY st) (ly st) (iB st) .none kV doc pm an bA ct) ⟨us,[]⟩=pure (ps.zip us):=by first | exact λ_ _ _ _ _ _=>Qu λ_=>rfl | exact λ_ _ _ _ _ _=>v0e λ_ _=>rfl | exact λ_ _ _ _ _ _=>v0d λ_ _ _=>rfl | exact λ_ _ _ _ _ _=>v0c λ_ _ _ _=>rfl | exact λ_ _ _ _ _ _=>v0b λ_ _ _ _ _=>rfl):Own ⟨PySem.Challenge.rw_longrounds_k82_no_texts.prog,w,(KK w.params),mg,base⟩ x st ps:=⟨a,_,HQ.Ij l e,(HQ.Ij l e).binds b,rG X G n⟩
include X G in
set_option maxHeartbeats 0 in
def all{fa:Addr}(hfa:mg "law"=some (.ref fa)):∃fd:cw,(∀(s:ah) (v:Value),BindsTo s fd ⟨[v],[]⟩ [("script",v)])/\∀base:Heap,(KK w.params).In base->base.Ns dm mg->jT PySem.Challenge.rw_longrounds_k82_no_texts.prog w (KK w.params) mg base (nE PySem.Challenge.rw_longrounds_k82_no_texts.prog w) 20 fa fd ["script"] (wz Cf (KK w.params)):=by
 k_fill
 have Dg:iL (KK w.params) dm "NoPrime"=some (some (.ref 37)):=by k_is
 have Ji:=rG X G Dg
 have a1n:jv (KK w.params) 37:=⟨by k_is,by k_is,by k_is,by k_is,by k_is,by k_is,ux (by k_is)⟩
 have Jj:iL (KK w.params) dm "NoNumber"=some (some (.ref 49)):=by k_is
 have Qv:=rG X G Jj
 have a1o:jv (KK w.params) 49:=⟨by k_is,by k_is,by k_is,by k_is,by k_is,by k_is,ux (by k_is)⟩
 have Dh:iL (KK w.params) dm "NoProgram"=some (some (.ref 61)):=by k_is
 have Jk:=rG X G Dh
 have Qw:jv (KK w.params) 61:=⟨by k_is,by k_is,by k_is,by k_is,by k_is,by k_is,ux (by k_is)⟩
 have Jl:iL (KK w.params) dm "TooLong"=some (some (.ref 73)):=by k_is
 have Qx:=rG X G Jl
 have a1p:jv (KK w.params) 73:=⟨by k_is,by k_is,by k_is,by k_is,by k_is,by k_is,ux (by k_is)⟩
 have Jm:iL (KK w.params) dm "Lossy"=some (some (.ref 85)):=by k_is
 have Qy:=rG X G Jm
 have a1q:jv (KK w.params) 85:=⟨by k_is,by k_is,by k_is,by k_is,by k_is,by k_is,ux (by k_is)⟩
 have Di:iL (KK w.params) dm "NoText"=some (some (.ref 97)):=by k_is
 have Jn:=rG X G Di
 have a1r:jv (KK w.params) 97:=⟨by k_is,by k_is,by k_is,by k_is,by k_is,by k_is,ux (by k_is)⟩
 have a1s:iL (KK w.params) dm "LongError"=some (some (.ref 24)):=by k_is
 have a1t:=rG X G a1s
 have a1u:jv (KK w.params) 24:=⟨by k_is,by k_is,by k_is,by k_is,by k_is,by k_is,ux (by k_is)⟩
 have a1v:sV (KK w.params) mg .mV 37:=⟨Dg,Ji,by k_exc⟩
 have a1w:sV (KK w.params) mg .dE 61:=⟨Dh,Jk,by k_exc⟩
 have a1x:sV (KK w.params) mg .aQ 97:=⟨Di,Jn,by k_exc⟩
 have a1y:pY (KK w.params) 61 (.ref 61)=some true:=by k_is
 have isx:k_ (KK w.params) (.ref 85) .qm/\k_ (KK w.params) (.ref 49) .ql/\k_ (KK w.params) (.ref 37) .mV/\k_ (KK w.params) (.ref 61) .dE/\k_ (KK w.params) (.ref 97) .aQ/\k_ (KK w.params) (.ref 73) .tooLong/\k_ (KK w.params) (.type "ValueError") .A7:=by
  refine⟨?_,?_,?_,?_,?_,?_,?_⟩
  all_goals
   intro c C h
   cases c with
   | mV =>
     have h':iL (KK w.params) dm "NoPrime"=some (some (.ref C)):=h
     rw[Dg] at h';cases h';exact⟨a1n,by kit_is⟩
   | ql =>
     have h':iL (KK w.params) dm "NoNumber"=some (some (.ref C)):=h
     rw[Jj] at h';cases h';exact⟨a1o,by kit_is⟩
   | dE =>
     have h':iL (KK w.params) dm "NoProgram"=some (some (.ref C)):=h
     rw[Dh] at h';cases h';exact⟨Qw,by kit_is⟩
   | tooLong =>
     have h':iL (KK w.params) dm "TooLong"=some (some (.ref C)):=h
     rw[Jl] at h';cases h';exact⟨a1p,by kit_is⟩
   | qm =>
     have h':iL (KK w.params) dm "Lossy"=some (some (.ref C)):=h
     rw[Jm] at h';cases h';exact⟨a1q,by kit_is⟩
   | aQ =>
     have h':iL (KK w.params) dm "NoText"=some (some (.ref C)):=h
     rw[Di] at h';cases h';exact⟨a1r,by kit_is⟩
 obtain⟨a1z,a2a,a2b,a2c,a2d,a2e,a2f⟩:=isx
 have a2g:=a1u
 have a2h:∀(c:Er) (C:Addr),mg c.nm=some (.ref C)->iL (KK w.params) dm c.nm=some (some (.ref C))/\pY (KK w.params) C (.ref 24)=some true:=by
  intro c C h
  cases c with
  | mV =>
    have h':mg "NoPrime"=some (.ref C):=h
    rw[Ji] at h';cases h';exact⟨Dg,by k_is⟩
  | ql =>
    have h':mg "NoNumber"=some (.ref C):=h
    rw[Qv] at h';cases h';exact⟨Jj,by k_is⟩
  | dE =>
    have h':mg "NoProgram"=some (.ref C):=h
    rw[Jk] at h';cases h';exact⟨Dh,by k_is⟩
  | tooLong =>
    have h':mg "TooLong"=some (.ref C):=h
    rw[Qx] at h';cases h';exact⟨Jl,by k_is⟩
  | qm =>
    have h':mg "Lossy"=some (.ref C):=h
    rw[Qy] at h';cases h';exact⟨Jm,by k_is⟩
  | aQ =>
    have h':mg "NoText"=some (.ref C):=h
    rw[Jn] at h';cases h';exact⟨Di,by k_is⟩
 have lL:(KK w.params).lookup 371=some (HQ.fO "law" Il (.str "law_longrounds_k82_no_texts" 552) (.ref 370)):=by k_is
 have lC:Jw (KK w.params) (.ref 370) "law"=true:=by k_is
 have a2i:=ma X G (x:="law") (v:=.ref 371) (by k_is)
 have e:=hfa.symm.trans a2i
 cases e
 have UL:=HQ.Ij lL lC
 refine a1a UL (λs v=>.of_eq rfl) λbase _ _=>?_
 have B:Bi ⟨PySem.Challenge.rw_longrounds_k82_no_texts.prog,w,(KK w.params),mg,base⟩:=⟨mn X G (by k_is),mn X G (by k_is),mn X G (by k_is),mn X G (by k_is),mn X G (by k_is),mn X G (by k_is),mn X G (by k_is),mn X G (by k_is),mn X G (by k_is),mn X G (by k_is),mn X G (by k_is),mn X G (by k_is),mn X G (by k_is),mn X G (by k_is),mn X G (by k_is),ma X G (by k_is),ma X G (by k_is),ma X G (by k_is),ma X G (by k_is),ma X G (by k_is),ma X G (by k_is),ma X G (by k_is),ma X G (by k_is),ma X G (by k_is),Ji,Qv,Jk,Qx,Qy,Jn,a1t,a1v,a1w,a1x,a1z,a2a,a2b,a2c,a2d,a2e,a2f,a2g,a2h,Qw,a1y⟩
 have I_:=f_w B (ow X G base 283)
 have Iq:=f_n (ow X G base 309)
 have Ip:=f_i B (ow X G base 295)
 have Ir:=f_C (ow X G base 316) Ip
 have Ja:=f_m B (ow X G base 323) Iq Ir
 have Jb:=f_l B (ow X G base 330)
 have Jc:=f_d B (ow X G base 347)
 have Jd:=f_b B (ow X G base 354)
 have Je:=f_c B (ow X G base 359)
 have Jf:=f_p B (ow X G base 288)
 have wO:=f_s B (ow X G base 184)
 have rm:=f_j B (ow X G base 191) wO
 have rk:=f_H B (ow X G base 203)
 have Iy:=f_x B (ow X G base 210) rk
 have Iw:=f_a B (ow X G base 198) rm
 have Iz:=f_B B (ow X G base 215) Iw rk
 have Jo:=y8n B (ow X G base 222) (ow X G base 229) (ow X G base 236) rm Iy rk Iz
 have a6w:=(Jo 12).1
 have a6x:=(Jo 12).2.1
 have IS:=(Jo 12).2.2
 have IC:=f_A B (ow X G base 106)
 have nQ:=f_D (ow X G base 120) IC
 have A_f:=f_f B (ow X G base 148)
 have IM:=(A_f 12)
 have IF:=a1f (ow X G base 141)
 have IG:=f_z B (ow X G base 153) nQ IF
 have Jp:=y8m B (ow X G base 160) (ow X G base 167) (ow X G base 172) nQ IG
 have a6y:=(Jp 12).1
 have a6z:=(Jp 12).2.1
 have IP:=(Jp 12).2.2
 have IJ:=f_e (ow X G base 113)
 have wQ:=f_y B (ow X G base 127) nQ IJ
 have IQ:=f_G B (ow X G base 134) wQ
 have IT:=f_F B (ow X G base 179) nQ IM IP IQ
 have IV:=f_t B (ow X G base 269) IS IT
 have IU:=f_E B (ow X G base 257) wO
 have IW:=f_q B (ow X G base 262) IU
 have IX:=f_o B (ow X G base 250) wQ rm
 have IY:=f_h B (ow X G base 243)
 have I9:=f_I B (ow X G base 276) IV IW IX IY
 have Jg:=f_g B (ow X G base 366) I9
 have A_r:=f_r B (ow X G base 335)
 have wV:=(A_r 12)
 have Jh:=f_v B (ow X G base 342) wV
 exact v0l (E:=⟨PySem.Challenge.rw_longrounds_k82_no_texts.prog,w,(KK w.params),mg,base⟩) B UL (UL.binds λ_ _ _ _ _ _=>Qu λ_=>rfl) I_ Ja Jb Jc Jd Je Jf Jg Jh wV
end
end Row
open PySem PySem.W PyProof.Rows
set_option maxRecDepth 100000 in
set_option maxHeartbeats 0 in
theorem PySem.Challenge.cw_longrounds_k82_no_texts_holds : PySem.Challenge.rw_longrounds_k82_no_texts.Holds := by
 w_on;o_law
 refine PySem.W.holds_open (q:=Se Ko [62]) (loose:=HQ.a0y Ko) (Xt:=λs=>PySem.W.xlAt (Se Ko [62]) [] s&&PySem.W.recOk [] s) (XP:=PySem.W.XL (Se Ko [62]) []) (Yf:=λs=>Row.ks.map s.heap.get?) (Ya:=λw=>(Row.KK w.params).map λp:Addr×Obj=>some p.2) (YP:=PySem.W.InK Row.KK) (N:=40000) ?hl (PySem.W.InK.of (K:=Row.KK) (as:=Row.ks) λ_=>rfl) PySem.W.InK.keeps (λs e=>PySem.W.xl_of s (Bool.and_eq_true_iff.mp e).1) PySem.W.XL.keeps (by rfl) (by rfl) (by rfl) (λs e=>PySem.W.recFacts_of (Bool.and_eq_true_iff.mp e).2) (by rfl) (by assumption) (by trivial) ⟨rfl,rfl,rfl,rfl,rfl,by trivial⟩ ?hw ?hc
 case hl =>
  refine HQ.a0z (by kernel_rfl) (by kernel_rfl) (λs=>by kernel_rfl) ?_
  intro w os
  delta Row.KK Row.top
  rw[PySem.W.Fast.te454675441999276805]
  kernel_rfl
 case hw=>w_witness2
 exact L3.Zk (sp:=L3.wz L3.Cf) (l:=PySem.Challenge.rw_longrounds_k82_no_texts) (n:=63) (k:=20) (x:="script") (CX:=λw=>L3.nE PySem.Challenge.rw_longrounds_k82_no_texts.prog w) rfl (by decide) rfl ⟨rfl,by decide,by decide⟩ (K:=Row.KK) (λw h Y=>Y) (λw mg fa h KX G qk=>Row.all KX G qk) (λK H a ns hl hS=>L3.Zi L3.X7 hl hS) λw H s e s' h=>L3.Zj h

