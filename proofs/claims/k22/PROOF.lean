import PyProof.Rows.All
import Wide.All
import OpenK.AllK
import Wide.FinOn
import Lean
import PyProof.EqAt
import PyProof.EqKinds
import PyProof.TupleCall
import KE.KDictOf
import PyProof.AttrMissHeap
import PyProof.ReprRoads
import PySem.Challenge.RW_drawnweb_k22_widths_of_orders
set_option Elab.async false
set_option linter.all false
set_option maxRecDepth 100000
set_option maxHeartbeats 0
open And renaming intro->KH
open Array renaming length_toList->Dx,getElem?_toList->H9,perm_iff_toList_perm->JO,getElem?_eq_some_iff->JP,getD->Jk,toList_push->Kp,replicate->NS,getElem?_setIfInBounds->NT,size_map->Nq,toList_filterMap->OM,mem_toList_iff->Om,forIn_toList->P9,ext_getElem?->PB,append_assoc->PF,toList_inj->Pw,toList->Qs
open Bool renaming false_eq_true->HE,false_ne_true->IZ,and_eq_true->J0,not_true->KG,and_false->ML,true_and->MZ,not_false->Nu,beq_eq_decide_eq->Ol,false_and->QZ,and_self->Qr
open Classical renaming byContradiction->IH,propDecidable->Kb
open False renaming elim->KR
open ForInStep renaming yield->Lj
open Int renaming toNat_natCast->KP,emod_lt_of_pos->LY,emod_nonneg->MA,le_of_lt->NE,eq_ofNat_of_zero_le->OS,mul_nonneg->Qq
open List renaming append_assoc->BM,getElem?_eq_getElem->Bi,length_cons->Bn,length_append->Bz,mem_singleton->Ch,length_map->D1,replicate->D2,getElem?_eq_some_iff->Da,size_toArray->Do,append_nil->FB,nodup_append->FM,take_append_drop->FV,range->Fa,pairwise_append->Fm,getD_eq_getElem?_getD->Fs,map_cons->GM,length_take->Gc,getElem?_append_left->HF,not_mem_nil->HH,length_drop->HI,getElem?_map->HL,getElem?_append_right->HU,getElem_of_mem->HV,nodup_cons->Ha,getElem_mem->He,mem_cons->Hk,length_singleton->Hm,mem_of_getElem?->IE,pairwise_iff_getElem->IJ,mem_map->IL,flatten_cons->IM,getElem?_take_of_lt->IQ,nil_append->IT,length_range->IV,mem_of_mem_take->IW,length_nil->Ic,reverse_reverse->Im,pairwise_cons->Ip,mem_range->Iq,map_append->Iu,take_of_length_le->Ix,map_map->Iy,getElem?_set_self->Iz,perm_append_comm->JB,getElem?_eq_none->JC,find?_cons->JE,any_cons->JN,nodup_nil->JS,map_congr_left->JU,drop_eq_getElem_cons->JX,zip_cons_cons->Jb,take_length->Jc,map_take->Je,mem_of_mem_drop->Jh,mem_filter->Jl,replicate_succ->Jo,filterMap_cons->Jp,drop_drop->Jr,getElem?_range->K2,lookup_cons->K4,drop_zero->K5,take_append_of_le_length->KC,getElem_take->KM,ext_getElem?->KN,getD->KZ,map_drop->Kf,foldl_cons->Kg,getElem?_drop->Ki,getElem?_set->Kq,all_eq_true->Kz,drop_append_of_le_length->L9,length_reverse->LC,perm_append_singleton->LP,mem_filterMap->LQ,getElem?_zip_eq_some->Lb,extract_eq_take_drop->Lc,reverse_cons->Lf,pairwise_singleton->Lr,length_eq_zero_iff->Ls,filter_cons->Lu,drop_length->Lv,of_mem_zip->M3,mem_append->M4,length_replicate->M8,length_filter_le->M9,length->MJ,getElem?_set_ne->MK,length_zipWith->MU,drop_nil->MY,foldl->Md,zipWith->Mz,toArray->N1,take_sublist->N2,set_set->N3,pairwise_map->N4,map_nil->N5,getElem_drop->N6,zipIdx_cons->NK,isEmpty_nil->NL,eq_nil_of_length_eq_zero->NQ,range_succ->NW,forIn_cons->NX,take_zero->Nt,mem_take_iff_getElem->O9,any_map->OQ,all_map->OR,getElem?_zipWith->Oh,getElem?_reverse->Oi,dropLast_eq_take->Oj,map->Oo,flatten_append->P8,zip_nil_right->PR,getElem_range->PU,find?_eq_none->PV,filter_append->PX,filterMap_map->PY,zip_nil_left->Pq,reverse_perm->Pr,flatMap_cons->Ps,drop_sublist->Pu,mem_flatMap->Q3,map_snd_zip->Q4,zip_append->QL,zipIdx_nil->QM,length_set->QN,take_succ->QW,forIn_nil->QX,drop_take->QY,take_nil->Qp
open List.Pairwise renaming sublist->LX
open List.Perm renaming append_left->Hc,eq_of_pairwise->NR
open List.cons renaming inj->JY
open Nat renaming le_refl->Db,ne_of_lt->FC,lt_of_lt_of_le->Go,zero_le->HS,le_succ->IX,lt_succ_of_lt->J8,le_trans->JF,le_of_lt->JT,mod_eq_of_lt->Jd,pow_succ->Jg,lt_irrefl->Jx,mod_lt->KD,eq_zero_or_pos->Kl,add_sub_cancel_left->Km,succ_pos->Ku,ne_of_gt->Kv,lt_succ_self->L7,le_add_right->L8,not_lt_zero->LB,zero_add->LM,lt_trichotomy->Li,add_assoc->Lp,lt_or_eq_of_le->Mv,lt_or_ge->ND,le_of_not_lt->NP,min_eq_left->Np,succ_add->Od,sub_zero->Oe,pow_zero->Of,mul_comm->Og,add_mod->P7,not_lt->Pl,mod_mod_of_dvd->Pn,mod_eq_sub_mod->Po,lt_of_le_of_lt->Pp,le_succ_of_le->Q2,min_le_right->QJ,max_eq_right->QK,strongRecOn->QU,mod_add_div->QV
open Ne renaming symm->K8
open Option renaming bind_some->Ib,map_eq_some_iff->Jn,isSome_iff_exists->La,map_some->Lw,isSome_map->Mc,getD_none->PP,none->Qo
open Option.some renaming inj->Fu
open Or renaming inl->HP,inr->KY
open PyProof.Rows renaming wpS_bind->EQ,wpS_pure->FR,SortSt->HR,slot_tuple_getitem->IB,wpS_forRange->Ie,seqObj->Ik,callWith_type1->JA,IntsAre->JJ,SortKind->JM,wpS_mono->Jw,pendingOf->KU,failedOf->Ke,callWith_builtin1->Kh,wpS_modify->Lo,wpS_get->Lx,envOfC->MQ,AllBare->MR,entry_list_sort->MT,wpS_lift->Mp,slot_list_sort->Mq,slicePart_none->Mr,args_list_sort->Ms,entry_tuple_getitem->NB,subscriptTail->NI,listUpdate_at->NJ,assignInOrder_cons->NM,args_tuple_getitem->NN,plain_sorted->Nk,keyKind'->Nl,entry_sorted->Nn,args_sorted1->No,kind_sorted->OF,keyLt'->Ob,Subscript_->Oc,tupleItemsOf_->Oz,sortedAll_old->P5,lt_int->PM,subscriptTail_builtinR->Pi,sortedAll_at->Pj,listItems_at->Pk,seqEpoch_at->QH,gallopOf->QI,ge_int->QT,size_push'->Qn
open PyProof.Rows.F renaming plain_set_update_loop->KF,entry_set_update_loop->Lh
open PyProof.Rows.IntsAre renaming int_at->NO
open PyProof.Rows.IsTup renaming new->NC
open PyProof.Rows.SortSt renaming mk'->LG
open PySem renaming wpAny_bind->AC,wpAny_pure->At,PyData->B1,Shared->B2,starEach->FK,sizeLine->FX,Program->Fk,mainGlobals->GE,Spec->GT,foldedSetIterable->HG,Around->HN,wpAny_newObj_type->HQ,wpAny_holding->HW,wpAny_call_entry->Hn,intKind->I9,sizeLine_eq->IC,SetTable->ID,compareOp->IG,wpAny_callSpecial?_slot->II,tupleKeyHash->IU,behindInMarks->IY,wpAny_field->Ia,wpAny_rule->Ii,Builtin->Il,wpAny_seqItems->J1,wpAny_mono->J3,wpAny_standAt->J4,wpAny_loadPart'->J5,binaryOp->J9,wpAny_setState_of->JD,codeAny_builtin->JH,bootBuiltins->JI,wpAny_setField_rec->JK,Paired->JV,wpAny_pyIter_tuple->Ji,wpAny_Call_Name_kw->Jj,codeAny->Js,wpAny_askSetting->Ju,FuncData->Jv,mem_of_lookup->Jy,wpAny_truthy_bool->Jz,backTo->K6,assignEach->K7,sysModules->KI,standAt->KJ,wpAny_passesOwn->KQ,swapsWith->KS,NameKind->Kc,wpAny_comprehension_free->Kn,plainId_quiet->Ko,IsTupleKey->Ks,wpAny_typeOf->L0,pyNext->L1,holding->L3,getItem->L4,wpAny_forIn_list->LA,wpAny_newList->LD,wpAny_attempt->LF,wpAny_newFunctionEnv->LH,wpAny_letGo->LI,sliceBounds->LJ,intItems->LL,letOwnedTupleGo->LR,codeAny_of_tree->LS,tupleKind_room_in1->Lk,rawInt->Ll,intKind_is->Lm,assign->Lz,IsPair->M0,wpAny_isInstance->MB,pyIter->MM,codeAny_mono->MN,call_meets->MO,wpAny_execs_nil->MS,wpAny_updateSeq_pair->Me,wpAny_tryCatch->Mf,wpAny_runValue->Mg,wpAny_of_eq->Mh,unsupported->Mi,firstArgMember->Mj,compTurn->Mk,compEnvC->Ml,Operator->Mn,IsPart->Mo,compStart->Mw,argBest->Mx,PassesOwn->My,wpAny_setEntries_of->N8,noFill_tuple_add->N9,wpAny_onRaise->NF,swapsWithSole->NG,swappedStores->NH,wpAny_storeSet_of->NY,wpAny_sequenceKey->NZ,wpAny_pyIter_list->Na,valueAt->Nb,searchCouldBeSeen->Nc,relabel->Nd,callerA->Nf,tupleKind->Nv,seq_tuple_add->Nw,seqItems?->Ny,scanBound->Nz,noteFrame->O0,subscripted->OA,intItems_at->OB,wpAny_updateSeq->OG,wpAny_specialOf->OH,theWindowsPlace->OI,concat_meets->OJ,BindsTo->OP,isTrue->OT,isSubtype_type->OU,isSubtype_stop->OV,checkCount->OW,Result->OZ,wpAny_notedAt->Op,setSearchFrom->Oq,evalPart_none->Os,comprehension->Ot,call->Ou,assignInOrder->Ov,putSet_of->PH,richCompare_meets_room->PZ,firstIterPos->Pb,codeAny_compStart_list->Pc,argsOk->Pd,wpAny_isTrue_Compare1->Px,wpAny_isSame_ref_self->Py,wpAny_eqIsQuiet_tuple->Pz,builtinLookup_eq_fast->Q0,wpAny_loadName_local->Q5,seqIndex_of->Q6,richCompare->Q7,numAt_eq->Q8,getD_mem->Q9,compPost->QA,bindName->QB,ReadsAll->QC,GenState->QD,wpAny_loadName_cell->QO,wpAny_load->Qa,wpAny_eqBool_tuple->Qb,wpAny_Name->Qc,wpAny_Constant_int->Qd,typeIs_int->Qe,setsByText->Qf,layNew->Qg,firstAsync->Qh,builtinsNs->Qi
open PySem.Around renaming under_plainId->JG
open PySem.AutoSeq1 renaming sub_tuple_tuple->NV
open PySem.Builtin.Builtins renaming bindParams->MF
open PySem.Builtin.Frozenset renaming updateFrom->M2,slot0->QE,sizeOf->QF,newClass->QG
open PySem.Builtin.Int renaming intBits->IP
open PySem.Builtin.List renaming listTooLong->KO,listExtendWith->Kw,listLengthHint->MX
open PySem.Builtin.Slice renaming slicePlaces->Ij,sliceApplied->KB,sliceAdjust->L6,sliceFields->Mb
open PySem.Builtin.SmallTypes renaming nextOf->IR,ownedTupleIsFree->JZ,ownedTupleHandOut->LO
open PySem.Builtin.Str renaming occurrences->Ja
open PySem.Builtin.Tuple renaming tupleExact->Iv,tupleItemsOf->Ky,tupleCompareSizes->M7
open PySem.Calls renaming call_function_entry->KW,spliced_nil->LZ,spliced_cons->MW,Name_function_global->Nj,callWith_builtin->OL
open PySem.CmpOf renaming ints_gt->QS
open PySem.Code renaming quiet_builtin->PL,compLoop->Qm
open PySem.F renaming plainAttrs_list->HX,slot_list_append->Ih,type_list_append->J7,called_set->JW,plain_max_loop->KA,slot_tuple_iterator_next->Ka,slot_list_extend->Kk,type_list_extend->LV,args_tuple_add_2->LW,entry_tuple_add->Le,slot_tuple_add->Ln,slot_zip_next->MG,entry_max_loop->Ni,plain_list_iadd->Nr,args_tuple_iterator_next_1->O8,slot_set_iter->OC,plain_set_new->OD,entry_tuple_iterator_next->OE,slot_list_insert->Oa,slot_list_pop->PJ,slot_enumerate_next->PK,args_zip_next_1->QR,entry_zip_next->Ql
open PySem.Heap renaming get?_push_of_some->Ap,lt_size->DD,get?_push_size->Ee,size_push->IA,get?_update_other->Iw,SameBut->JR,get?_update_self->Jt,get?_push_ne->Ld,size_update->Lq,IsTuple->OO,ExtBut->On
open PySem.Heap.IsSliceOf renaming new->NU
open PySem.Heap.SameBut renaming update->Kt,refl->M6
open PySem.NameKind renaming free->J6
open PySem.Obj renaming mapSeq->Ir,putSet->Kj,data_mapFields->Ph
open PySem.Paired renaming length->Jq,snoc->Qk
open PySem.PassesOwn renaming never->IS
open PySem.PyData renaming int->IF,canLayAll0->IK,eqv->JL,list->LU,canLay0->M5,tuple->Ma,depth->QQ,bool->Qj
open PySem.SeqAt renaming EqAt->Oy
open PySem.SetTable renaming runEnd->Jm,insertAt->K1,insertAt_perm->K3,toList_insertAt->LN,sizeAbove->MC,fits->Pf,fill->Pg
open PySem.SetTable.Slot renaming live->Nh
open PySem.SetTable.below renaming go->OY
open PySem.SetTable.layClean renaming free->ME
open PySem.SetTable.probe renaming go->MD
open PySem.SetTable.sizeAbove renaming go->L5
open PySem.Shared renaming heap->ON
open PySem.Str renaming ofString->Jf
open PySem.Value renaming none->HM,ref->K0,type->Kx,isInt_shape->Mm,int->NA,bool->Ng,notImplemented->OX,str->Pe,isStrOf->QP
open PySem.W renaming Frag->AT,nsIn->HJ,keepIn->HY,fnOf->HZ,codeIn->Hb,mg_none_of->Hd,mg_of->IN,kas_item->Ig,kia_one->K9,OpenLaw->Lg,hashAt->MP,methodObj->MV,cellsFrom_some->O6,WalkO->Q1
open PySem.Walks renaming list->Ox
open PySem.pickOrder renaming go->Pa
open Sum renaming inl->Kr,inr->N7
open Sum.inl renaming inj->Ly
open True renaming intro->JQ
theorem oB{α β:Type _}{x:Option α}{f:α->Option β}{b:β}(h:x.bind f=some b):∃a,x=some a/\f a=some b:=Option.bind_eq_some_iff.mp h
theorem lR{α:Type _}{a:α}(as:List α){bs:List α}(h:a∈bs):a∈as++bs:=List.mem_append_right as h
theorem lL{α:Type _}{a:α}{as:List α}(bs:List α)(h:a∈as):a∈as++bs:=List.mem_append_left bs h
theorem lM{α:Type _}{a:α}{s t:List α}(h:a∈s++t):a∈s\/a∈t:=M4.mp h
theorem lS{α:Type _}{a:α}{l:List α}:a∈a::l:=List.mem_cons_self
theorem lO{α:Type _}(y:α){a:α}{l:List α}(h:a∈l):a∈y::l:=List.mem_cons_of_mem y h
theorem lK{α:Type _}{a b:α}{l:List α}(h:a∈b::l):a=b\/a∈l:=Hk.mp h
section
namespace L2
open PySem PySem.Spec PyProof.Rows
abbrev Key:=Sum Int Str
noncomputable def kg:Key->Value->Bool
 |.inl k,v=>Value.isInt k v
 |.inr x,v=>QP x v
noncomputable def keyH(w:World):Key->Int
 |.inl k=>hashInt k
 |.inr x=>hashStr w x
theorem bf:∀{k:Key}{v:Value},kg k v=true->(∃i t,k=Kr i/\v=NA i t)\/(∃x t,k=N7 x/\v=Pe x t)
 |.inl i,v,h=>by
  obtain⟨t,e⟩:=Mm (k:=i) (v:=v) h;exact .inl ⟨i,t,rfl,e⟩
 |.inr x,v,h=>by
  obtain⟨t,e⟩:=Value.isStrOf_shape (x:=x) (v:=v) h;exact .inr ⟨x,t,rfl,e⟩
theorem vg(i:Int)(t:Tok):kg (.inl i) (.int i t)=true:=by simp[kg,Value.isInt]
theorem vh(x:Str)(t:Tok):kg (.inr x) (.str x t)=true:=by simp[kg,QP]
theorem Cp(a b:Int):decide ((Kr a:Key)=Kr b)=(a == b):=by
 by_cases e:a=b
 ·subst e; simp
 ·have h:¬ (Kr a:Key)=Kr b:=λq=>e (Ly q)
  rw[decide_eq_false h];exact(beq_eq_false_iff_ne.mpr e).symm
theorem Cq(a b:Str):decide ((N7 a:Key)=N7 b)=decide (a=b):=by
 by_cases e:a=b
 ·subst e; simp
 ·have h:¬ (N7 a:Key)=N7 b:=λq=>e (Sum.inr.inj q)
  rw[decide_eq_false h,decide_eq_false e]
theorem Cr(a:Int)(b:Str):decide ((Kr a:Key)=N7 b)=false:=decide_eq_false (λq=>nomatch q)
theorem Cs(a:Str)(b:Int):decide ((N7 a:Key)=Kr b)=false:=decide_eq_false (λq=>nomatch q)
noncomputable def aV(prog:Fk)(w:World):PySem.KeyKind prog w Key where
 is:=kg
 hash:=keyH w
 inj:=λv a b ha hb=>by
  rcases bf ha with⟨i,t,rfl,rfl⟩ | ⟨x,t,rfl,rfl⟩
  ·rcases bf hb with⟨j,u,rfl,e⟩ | ⟨y,u,rfl,e⟩
   ·injection e with e1 _; rw[e1]
   ·exact nomatch e
  ·rcases bf hb with⟨j,u,rfl,e⟩ | ⟨y,u,rfl,e⟩
   ·exact nomatch e
   ·injection e with e1 _; rw[e1]
 byValue:=λk v h=>by
  rcases bf h with⟨i,t,rfl,rfl⟩ | ⟨x,t,rfl,rfl⟩ <;> rfl
 pyHash:=λhv h=>by
  rcases bf hv with⟨i,t,rfl,rfl⟩ | ⟨x,t,rfl,rfl⟩
  ·exact wpAny_pyHash_int h
  ·exact wpAny_pyHash_str h
 eqBool:=λhu hv h=>by
  rcases bf hu with⟨i,t,rfl,rfl⟩ | ⟨x,t,rfl,rfl⟩
  ·rcases bf hv with⟨j,u,rfl,rfl⟩ | ⟨y,u,rfl,rfl⟩
   ·rw[Cp] at h; exact wpAny_eqBool_int h
   ·rw[Cr] at h; exact SeqAt.EqAt.int_str i t y u _ _ _ _ h
  ·rcases bf hv with⟨j,u,rfl,rfl⟩ | ⟨y,u,rfl,rfl⟩
   ·rw[Cs] at h; exact SeqAt.EqAt.str_int x t j u _ _ _ _ h
   ·rw[Cq] at h; exact wpAny_eqBool_str h
 «strs» := λk x t v h=>by
  rcases bf h with⟨i,u,rfl,e⟩ | ⟨y,u,rfl,e⟩
  ·exact nomatch e
  ·injection e with e1 _
   subst e1;cases v <;> rfl
theorem qj(prog:Fk)(w:World)(i:Int)(t:Tok):(aV prog w).is (.inl i) (.int i t)=true:=vg i t
theorem qk(prog:Fk)(w:World)(x:Str)(t:Tok):(aV prog w).is (.inr x) (.str x t)=true:=vh x t
end L2
namespace L2
open PySem PySem.Spec PyProof.Rows
inductive V where
 |non | bl (b:Bool) | int (i:Int) | str (x:Str) | byt (b:Array UInt8) | flt (b:UInt64) | ref (a:Addr) | ty (n:String)
 deriving DecidableEq
def RelV:V->Value->Prop
 |.non,u=>u=HM
 |.bl b,u=>u=Ng b
 |.int i,u=>∃t,u=NA i t
 |.str x,u=>∃t,u=Pe x t
 |.byt b,u=>∃t,u=Value.bytes b t
 |.flt b,u=>∃t,u=Value.float b t
 |.ref a,u=>u=K0 a
 |.ty n,u=>u=Kx n
abbrev Vals:List V->List Value->Prop:=JV RelV
theorem Vals.length{xs:List V}{us:List Value}(r:Vals xs us):xs.length=us.length:=Jq r
theorem Vals.get:∀{xs:List V}{us:List Value}{i:Nat}{x:V},Vals xs us->xs[i]? = some x->∃u,us[i]? = some u/\RelV x u
 |_,_,_,_,.nil,e=>by simp at e
 |_,_,0,_,.cons r _,e=>by simp at e; subst e; exact⟨_,rfl,r⟩
 |_,_,i+1,x,.cons _ t,e=>by
  obtain⟨u,h1,h2⟩:=Vals.get (i:=i) (x:=x) t (by simpa using e)
  exact⟨u,by simpa using h1,h2⟩
theorem Vals.set{x:V}{u:Value}(r:RelV x u):∀{xs:List V}{us:List Value}(i:Nat),Vals xs us->Vals (xs.set i x) (us.set i u)
 |_,_,_,.nil=>.nil
 |_,_,0,.cons _ t=>.cons r t
 |_,_,i+1,.cons q t=>.cons q (Vals.set r i t)
theorem Vals.append:∀{xs ys:List V}{us ws:List Value},Vals xs us->Vals ys ws->Vals (xs++ys) (us++ws)
 |_,_,_,_,.nil,s=>s
 |_,_,_,_,.cons r t,s=>.cons r (Vals.append t s)
theorem Vals.take:∀{xs:List V}{us:List Value}(n:Nat),Vals xs us->Vals (xs.take n) (us.take n)
 |_,_,0,_=>.nil
 |_,_,_+1,.nil=>.nil
 |_,_,n+1,.cons r t=>.cons r (Vals.take n t)
theorem Vals.drop:∀{xs:List V}{us:List Value}(n:Nat),Vals xs us->Vals (xs.drop n) (us.drop n)
 |_,_,0,r=>r
 |_,_,_+1,.nil=>.nil
 |_,_,n+1,.cons _ t=>Vals.drop n t
def nj:Option V->Option Value->Prop
 |some v,some u=>RelV v u
 |none,none=>True
 |_,_=>False
def KV{κ:Type}:List (κ×V)->List (κ×Value)->Prop:=JV λ(p:κ×V)(q:κ×Value)=>p.1=q.1/\RelV p.2 q.2
noncomputable def kV:Key->V
 |.inl i=>.int i
 |.inr x=>.str x
inductive HO where
  |lst (xs:List V)
  |tup (xs:List V)
  |dK (kvs:List (Key×V)) | dT (kvs:List (List Key×V))
  |set (S:Int->Bool) (n:Nat)
  |ins (C dx:Addr) (fs:List (Str×V))
  |own (x:Addr)
  |xd (fs:List (Str×V))
  |met (f x:Addr)
  |rng (lo hi:Int)
  |frz (o:Obj) (u:HO)
  |tbl (ps:Array Value)
  |ext (φ:Heap->Prop)
abbrev Hp:=Addr->Option HO
noncomputable def upd(H:Hp)(a:Addr)(o:HO):Hp:=λb=>if b=a then some o else H b
theorem aB{H:Hp}{a:Addr}{o:HO}:upd H a o a=some o:=by unfold upd; rw[if_pos rfl]
theorem aA{H:Hp}{a b:Addr}{o:HO}(h:b≠a):upd H a o b=H b:=by unfold upd; rw[if_neg h]
theorem nP{H:Hp}{a b:Addr}{o u:HO}(h:H a=some o)(h':H b=some u)(d:o≠u):a≠b:=by
 intro e; subst e; rw[h] at h'; exact d (Fu h')
theorem aN{H:Hp}{a b:Addr}{o:HO}(h:H a=some o)(h':H b=none):a≠b:=by
 intro e; subst e; rw[h] at h'; cases h'
section
variable(P:Fk)(w:World)
def cC(H:Hp)(h:Heap)(a:Addr):HO->Prop
 |.lst xs=>xs.length<=FX/\∃ (its:List Value) (n:Nat),Vals xs its/\h.get? a=some { cls:=.type "list",data:=.seq its.toArray n }
 |.tup xs=>xs.length<=FX/\∃its:List Value,Vals xs its/\IsTup h a its.toArray
 |.dK kvs=>kvs.length<=FX/\(a == KI)=false/\∃vs,KV kvs vs/\h.DictOf (aV P w) a vs
 |.dT kvs=>kvs.length<=FX/\(a == KI)=false/\∃xs:List (List Key×Addr×Value),
  JV (λ(p:List Key×V)(q:List Key×Addr×Value)=>p.1=q.1/\H q.2.1=some (.tup (p.1.map kV))/\RelV p.2 q.2.2) kvs xs /\
  ∃o es ep,h.get? a=some o/\o.ExactDict/\o.data=.dict es ep/\es.toList=xs.map (entryOfKey (Nv (aV P w)))/\(xs.map (·.1)).Nodup
 |.set S n=>h.SetOf (I9 P w) a S n
 |.ins C dx fs=>H dx=some (.own a)/\fs.length<=1000/\dx≠a/\h.get? a=some (PySem.W.instObj C dx) /\
  ∃mA,h.Ns1 dx mA/\(∀f,nj (fs.lookup f) (mA f))/\PySem.Within mA (fs.map (·.1))
 |.own _=>∃o,h.get? a=some o
 |.xd fs=>∃mA,h.Ns1 a mA/\∀f,nj (fs.lookup f) (mA f)
 |.rng lo hi=>∃t u v,h.get? a=some { cls:=.type "range",data:=.fields #[.int lo t,.int hi u,.int 1 v] }
 |.frz o u=>h.get? a=some o/\cC H h a u
 |.tbl ps=>h.get? a=some { cls:=.none,data:=.fields ps }
 |.met f x=>h.get? a=some (MV (.ref f) (.ref x))
 |.ext φ=>φ h/\(∃o,h.get? a=some o)/\∀h1 h2:Heap,φ h1->(∀o,h1.get? a=some o->h2.get? a=some o)->φ h2
def iC(H:Hp)(h:Heap):Prop:=∀a o,H a=some o->cC P w H h a o
end
section
variable{P:Fk}{w:World}{H H':Hp}{h h':Heap}{a:Addr}{o:HO}
theorem cC.lt(x:cC P w H h a o):a<h.objs.size:=by
 cases o with
 |lst xs=>obtain⟨_,_,_,_,e⟩:=x; exact DD e
 |tup xs=>obtain⟨_,_,_,p⟩:=x; exact p.lt
 |dK kvs=>obtain⟨_,_,_,_,o,_,_,e,_⟩:=x; exact DD e
 |dT kvs=>obtain⟨_,_,_,_,o,_,_,e,_⟩:=x; exact DD e
 |set S n=>obtain⟨o,_,_,_,e,_⟩:=x; exact DD e
 |ins C dx fs=>obtain⟨_,_,_,e,_⟩:=x; exact DD e
 |own y=>obtain⟨_,e⟩:=x; exact DD e
 |xd fs=>obtain⟨_,⟨_,_,_,e,_⟩,_⟩:=x; exact DD e
 |rng lo hi=>obtain⟨_,_,_,e⟩:=x; exact DD e
 |frz ob u=>obtain⟨e,_⟩:=x; exact DD e
 |tbl ps=>exact DD (show h.get? a=some _ from x)
 |met f y=>exact DD (show h.get? a=some _ from x)
 |ext φ=>obtain⟨_,⟨_,e⟩,_⟩:=x; exact DD e
theorem JV.mapP{α β:Type}{F G:α->β->Prop}:∀{l₁:List α}{l₂:List β},JV F l₁ l₂->(∀a b,F a b->G a b)->JV G l₁ l₂
 |_,_,.nil,_=>.nil
 |_,_,.cons r t,f=>.cons (f _ _ r) (JV.mapP t f)
theorem cC.stay(x:cC P w H h a o)(k:∀b u,(b=a\/H b=some (.own a))->h.get? b=some u->h'.get? b=some u)
  (ho:∀b,H b=some (.own a)->H' b=some (.own a)) (ht:∀b xs,H b=some (.tup xs)->H' b=some (.tup xs)):cC P w H' h' a o:=by
 induction o with
 |lst xs=>obtain⟨z,its,n,r,e⟩:=x; exact⟨z,its,n,r,k _ _ (.inl rfl) e⟩
 |tup xs=>obtain⟨z,its,r,ob,e,c⟩:=x; exact⟨z,its,r,ob,k _ _ (.inl rfl) e,c⟩
 |dK kvs=>obtain⟨z,y,vs,r,ob,es,ep,e,c⟩:=x; exact⟨z,y,vs,r,ob,es,ep,k _ _ (.inl rfl) e,c⟩
 |dT kvs=>
  obtain⟨z,y,xs,r,ob,es,ep,e,c⟩:=x;exact⟨z,y,xs,JV.mapP r λp q z=>⟨z.1,ht _ _ z.2.1,z.2.2⟩,ob,es,ep,k _ _ (.inl rfl) e,c⟩
 |set S n=>obtain⟨ob,es,ep,t,e,c⟩:=x; exact⟨ob,es,ep,t,k _ _ (.inl rfl) e,c⟩
 |ins C dx fs=>
  obtain⟨d,z,ne,e,mA,⟨od,es,ep,e2,c⟩,r⟩:=x;exact⟨ho _ d,z,ne,k _ _ (.inl rfl) e,mA,⟨od,es,ep,k _ _ (.inr d) e2,c⟩,r⟩
 |own y=>obtain⟨ob,e⟩:=x; exact⟨ob,k _ _ (.inl rfl) e⟩
 |xd fs=>obtain⟨mA,⟨od,es,ep,e,c⟩,r⟩:=x; exact⟨mA,⟨od,es,ep,k _ _ (.inl rfl) e,c⟩,r⟩
 |rng lo hi=>obtain⟨t,u,v,e⟩:=x; exact⟨t,u,v,k _ _ (.inl rfl) e⟩
 |frz ob u ih=>obtain⟨e,q⟩:=x; exact⟨k _ _ (.inl rfl) e,ih q⟩
 |tbl ps=>
  have e:h.get? a=some { cls:=.none,data:=.fields ps }:=x;show h'.get? a=some { cls:=.none,data:=.fields ps };exact k a _ (.inl rfl) e
 |met f y=>
  have e:h.get? a=some (MV (.ref f) (.ref y)):=x;show h'.get? a=some (MV (.ref f) (.ref y));exact k a _ (.inl rfl) e
 |ext φ=>obtain⟨p,⟨o,e⟩,st⟩:=x; exact⟨st _ _ p λo q=>k _ _ (.inl rfl) q,⟨o,k _ _ (.inl rfl) e⟩,st⟩
theorem iC.lt(x:iC P w H h)(e:H a=some o):a<h.objs.size:=(x a o e).lt
theorem iC.fresh(x:iC P w H h)(e:h.objs.size<=a):H a=none:=by
 cases q:H a with
 |none=>rfl
 |some u=>exact absurd (Go (x.lt q) e) (Jx _)
theorem iC.kept(x:iC P w H h)(k:∀b u,h.get? b=some u->h'.get? b=some u):iC P w H h':=λa o e=>
 (x a o e).stay (λb u _ q=>k b u q) (λ_ q=>q) λ_ _ q=>q
theorem iC.laid(x:iC P w H h)(k:∀b u,h.get? b=some u->h'.get? b=some u)(hp:h.objs.size<=a)(new:cC P w (upd H a o) h' a o):iC P w (upd H a o) h':=λb u e=>by
 have hn:=x.fresh hp
 by_cases hb:b=a
 ·subst hb; rw[aB] at e; cases e; exact new
 ·rw[aA hb] at e
  exact(x b u e).stay (λc v _ q=>k c v q) (λc q=>by rw[aA (aN q hn)]; exact q) λc xs q=>by rw[aA (aN q hn)]; exact q
end
def Rd(H:Hp)(a:Addr)(u:HO):Prop:=H a=some u\/∃o,H a=some (.frz o u)
theorem Rd.ok{P:Fk}{w:World}{H:Hp}{h:Heap}{a:Addr}{u:HO}(r:Rd H a u)(x:iC P w H h):cC P w H h a u:=by
 rcases r with r | ⟨o,r⟩
 ·exact x a u r
 ·obtain⟨_,q⟩:=x a _ r
  exact q
def E9:Option HO->Prop
 |some (.lst _)=>True
 |some (.dK _)=>True
 |some (.dT _)=>True
 |some (.set _ _)=>True
 |some (.ins _ _ _)=>True
 |some (.ext _)=>True
 |_=>False
section
variable{P:Fk}{w:World}{H:Hp}{h h':Heap}{x e:Addr}{o':HO}
theorem iC.write(ok:iC P w H h)(mu:E9 (H x))(he:e=x\/H e=some (.own x))(k:∀b u,b≠e->h.get? b=some u->h'.get? b=some u)(heo:∃u,h'.get? e=some u)
  (new:cC P w (upd H x o') h' x o'):iC P w (upd H x o') h':=λb u q=>by
 have nown:∀c y,H c=some (.own y)->c≠x:=λc y r z=>by subst z; rw[r] at mu; exact mu
 have ntup:∀c xs,H c=some (.tup xs)->c≠x:=λc xs r z=>by subst z; rw[r] at mu; exact mu
 by_cases hb:b=x
 ·subst hb; rw[aB] at q; cases q; exact new
 ·rw[aA hb] at q
  by_cases hbe:b=e
  ·have q':H b=some (.own x):=by
    rcases he with z | z
    ·exact absurd (hbe.trans z) hb
    ·rw[hbe]; exact z
   rw[q] at q'; cases q';obtain⟨v,hv⟩:=heo;exact⟨v,by rw[hbe]; exact hv⟩
  ·refine(ok b u q).stay (λc v hc r=>k c v ?_ r) (λc r=>by rw[aA (nown c b r)]; exact r) λc xs r=>by rw[aA (ntup c xs r)]; exact r
   rcases hc with rfl | hc
   ·exact hbe
   ·rintro rfl
    rcases he with z | z
    ·exact nown c b hc z
    ·rw[hc] at z; cases z; exact hb rfl
end
structure Un(fs ex:List Addr)(H H':Hp)(h h':Heap):Prop where
 keep:∀b o,h.get? b=some o->H b=none->b∉fs->b∉ex->h'.get? b=some o
 slot:∀b o,h.get? b=some o->H b=none->b∈fs->b∉ex->∃sl,h'.get? b=some { o with slots:=sl }
 free:∀b o,h.get? b=some o->H b=none->b∉ex->H' b=none
 there:∀b o,h.get? b=some o->b∉ex->∃o',h'.get? b=some o'
 tups:∀b xs,H b=some (.tup xs)->H' b=some (.tup xs)
 d8:∀b o u,H b=some (.frz o u)->H' b=some (.frz o u)
 tbls:∀b ps,H b=some (.tbl ps)->∃more,H' b=some (.tbl (ps++more))
section
variable{fs fs' ex ex':List Addr}{H H1 H2:Hp}{h h1 h2 h':Heap}{a x e:Addr}{o:HO}
theorem Un.any(u:Un fs ex H H1 h h1){b:Addr}{ob:Obj}(q:h.get? b=some ob)(n:H b=none)(hx:b∉ex):∃sl,h1.get? b=some { ob with slots:=sl }:=by
 by_cases hb:b∈fs
 ·exact u.slot b ob q n hb hx
 ·exact⟨ob.slots,u.keep b ob q n hb hx⟩
theorem Un.trans(a:Un fs ex H H1 h h1)(b:Un fs ex H1 H2 h1 h2):Un fs ex H H2 h h2 where
 keep:=λc ob q n hc hx=>b.keep c ob (a.keep c ob q n hc hx) (a.free c ob q n hx) hc hx
 slot:=λc ob q n hc hx=>by
  obtain⟨sl,e1⟩:=a.slot c ob q n hc hx;obtain⟨sl',e2⟩:=b.slot c _ e1 (a.free c ob q n hx) hc hx;exact⟨sl',e2⟩
 free:=λc ob q n hx=>by
  obtain⟨o',e1⟩:=a.there c ob q hx;exact b.free c o' e1 (a.free c ob q n hx) hx
 there:=λc ob q hx=>by
  obtain⟨o',e1⟩:=a.there c ob q hx;exact b.there c o' e1 hx
 tups:=λc xs q=>b.tups c xs (a.tups c xs q)
 d8:=λc ob xs q=>b.d8 c ob xs (a.d8 c ob xs q)
 tbls:=λc ps q=>by
  obtain⟨m1,e1⟩:=a.tbls c ps q;obtain⟨m2,e2⟩:=b.tbls c _ e1;exact⟨m1++m2,by rw[e2,PF]⟩
theorem Un.kept(k:∀b u,h.get? b=some u->h'.get? b=some u):Un fs ex H H h h' :=
 ⟨λb ob q _ _ _=>k b ob q,λb ob q _ _ _=>⟨ob.slots,k b ob q⟩,λ_ _ _ n _=>n,λb ob q _=>⟨ob,k b ob q⟩,λ_ _ q=>q,λ_ _ _ q=>q,λ_ ps q=>⟨#[],by rw[q]; simp⟩⟩
theorem Un.refl:Un fs ex H H h h:=Un.kept λ_ _ q=>q
theorem Un.laid(k:∀b u,h.get? b=some u->h'.get? b=some u)(hp:h.objs.size<=a)(hn:H a=none):Un fs ex H (upd H a o) h h' where
 keep:=λb u q _ _ _=>k b u q
 slot:=λb u q _ _ _=>⟨u.slots,k b u q⟩
 free:=λb u q n _=>by rw[aA (FC (Go (DD q) hp))]; exact n
 there:=λb u q _=>⟨u,k b u q⟩
 tups:=λb xs q=>by rw[aA (aN q hn)]; exact q
 d8:=λb u xs q=>by rw[aA (aN q hn)]; exact q
 tbls:=λb ps q=>⟨#[],by rw[aA (aN q hn),q]; simp⟩
theorem Un.write(mu:E9 (H x))(he:e=x\/H e=some (.own x))(k:∀b u,b≠e->h.get? b=some u->h'.get? b=some u)(heo:∃u,h'.get? e=some u):Un fs ex H (upd H x o) h h':=by
 have hx:∀b,H b=none->b≠x:=λb n z=>by subst z; rw[n] at mu; exact mu
 have hb:∀b,H b=none->b≠e:=λb n z=>by
  subst z;rcases he with r | r
  ·exact hx b n r
  ·rw[n] at r; cases r
 have hm:∀b u,H b=some u->¬E9 (some u)->b≠x:=λb u q nm z=>by subst z; rw[q] at mu; exact nm mu
 refine⟨λb u q n _ _=>k b u (hb b n) q,λb u q n _ _=>⟨u.slots,k b u (hb b n) q⟩,λb u q n _=>by rw[aA (hx b n)]; exact n,λb u q _=>?_,
  λb xs q=>by rw[aA (hm b _ q λz=>z)]; exact q,λb u xs q=>by rw[aA (hm b _ q λz=>z)]; exact q,λb ps q=>⟨#[],by rw[aA (hm b _ q λz=>z),q]; simp⟩⟩
 by_cases hbe:b=e
 ·subst hbe; exact heo
 ·exact⟨u,k b u hbe q⟩
theorem Un.mono(u:Un fs ex H H1 h h1)(hs:∀b∈fs,b∈fs')(hx:∀b∈ex,b∈ex'):Un fs' ex' H H1 h h1 :=
 ⟨λb ob q n hb he=>u.keep b ob q n (λz=>hb (hs b z)) λz=>he (hx b z),λ_ _ q n _ he=>u.any q n λz=>he (hx _ z),λb ob q n he=>u.free b ob q n λz=>he (hx b z),λb ob q he=>u.there b ob q λz=>he (hx b z),u.tups,u.d8,u.tbls⟩
end
noncomputable def Fq(h:Heap)(H:Hp):List Addr:=(Fa h.objs.size).filter λa=>(H a).isSome
noncomputable def oW(h:Heap)(H:Hp):Heap:=PySem.W.hideAll h (Fq h H)
theorem vj(h:Heap)(H:Hp):(oW h H).objs.size=h.objs.size:=PySem.W.hideAll_size _ _
theorem w5{h:Heap}{H:Hp}{b:Addr}{o:Obj}(e:h.get? b=some o)(n:H b=none):(oW h H).get? b=some o :=
 PySem.W.hideAll_get _ e λhm=>by
  have q:(H b).isSome=true:=(Jl.mp hm).2;rw[n] at q; simp at q
theorem zX{h:Heap}{H:Hp}{b:Addr}{o:Obj}(e:(oW h H).get? b=some o):h.get? b=some o/\H b=none:=by
 have e':h.get? b=some o:=PySem.W.of_hideAll (Fq h H) e;refine⟨e',?_⟩;cases q:H b with
 |none=>rfl
 |some x=>
  have hm:b∈Fq h H:=Jl.mpr ⟨Iq.mpr (DD e'),by simp[q]⟩
  have z:(oW h H).get? b=none:=PySem.W.hideAll_none (Fq h H) hm;rw[z] at e; cases e
end L2
namespace L2
open PySem PySem.Spec PyProof.Rows
structure Mod(K:AT)(mg:Str->Option Value)(base:Heap):Prop where
 kin:K.In base
 glob:base.Ns GE mg
 blt:∃mb,base.Ns Qi mb/\∀x:Str,x ≠ "__name__"->mb x=JI x
 nolimit:base.NoLimit
structure Cx where
 prog:Fk
 w:World
 K:AT
 mg:Str->Option Value
 base:Heap
 A:HN
 N:List Str
 s₀:B2
 H₀:Hp
 env:Env
 outer:List Env
 stack:List Env
 ex:List Addr
 fn:Str->Bool
 calm:Bool
 pn:List (Addr×Obj)
 xe:Value->B2->Prop
noncomputable def frs(l:List Env):List Addr:=l.filterMap (·.frame)
noncomputable abbrev Cx.fs(X:Cx):List Addr:=frs X.outer
def BZ(sc:Scope)(x:Str):Prop:=sc.names.lookup x=some .local\/sc.names.lookup x=some .cell\/sc.names.lookup x=some .free
def Loc(sc:Scope)(x:Str):Prop:=sc.names.lookup x=some .local\/sc.names.lookup x=some .cell
def Look(env:Env)(h:Heap)(m:Str->Option Value)(x:Str)(u:Value):Prop :=
 (env.kindOf x=some .local/\m x=some u)\/((env.kindOf x=some .cell\/env.kindOf x=some .free)/\∃c,env.cells.lookup x=some c/\h.IsCell c (some u))
structure Cx.Ok(X:Cx):Prop where
 mod:Mod X.K X.mg X.base
 kind:X.env.scope.kind=.function
 glob:X.env.globals=GE
 blt:X.env.builtins=Qi
 above:X.s₀.heap.objs.size<=X.env.locals
 inj:∀x y c,X.env.cells.lookup x=some c->X.env.cells.lookup y=some c->x=y
 has:∀x,(X.env.kindOf x=some .cell\/X.env.kindOf x=some .free)->∃c,X.env.cells.lookup x=some c
 cab:∀x c,X.fn x=true->X.env.cells.lookup x=some c->X.s₀.heap.objs.size<=c
 hd:X.calm=true->X.A.handled=none
 frames:X.A.frames=some X.stack
 stk:X.stack=X.outer\/(X.stack=X.env::X.outer/\X.env.frame=some X.env.locals)
 exf:∀b∈X.ex,b≠X.env.locals/\∀x c,X.env.cells.lookup x=some c->c≠b
 bs:∀b o,X.base.get? b=some o->X.s₀.heap.get? b=some o/\X.H₀ b=none
 bsz:X.base.objs.size<=X.s₀.heap.objs.size
 noex:∀b o,X.base.get? b=some o->b∉X.ex
 exfs:∀b∈X.ex,b∉X.fs
 kQ:X.s₀.heap.FunFrames X.base X.outer
 frf:∀b∈X.fs,X.H₀ b=none
structure Inv(X:Cx)(pins:List (Addr×Obj))(σ:List (Option V))(H:Hp)(s:B2):Prop where
 ok:X.Ok
 os:s.os=X.s₀.os
 bare:MR s.gens
 base:Un X.fs X.ex X.H₀ H X.s₀.heap s.heap
 loc:∃m,s.heap.Ns X.env.locals m/\∀(i:Nat)(x:Str)(v:V),X.N[i]? = some x->σ[i]? = some (some v)->BZ X.env.scope x->∃u,RelV v u/\Look X.env s.heap m x u
 cell:∀x c,X.env.cells.lookup x=some c->∃v,s.heap.IsCell c v
 free:H X.env.locals=none
 freeC:∀x c,X.env.cells.lookup x=some c->H c=none
 pin:∀p∈X.pn++pins,s.heap.get? p.1=some p.2/\H p.1=none/\p.1≠X.env.locals/\p.1∉X.fs/\∀v,p.2.data≠.cell v
 hok:iC X.prog X.w H s.heap
 len:σ.length=X.N.length
section
variable{X:Cx}{pins:List (Addr×Obj)}{σ:List (Option V)}{H H':Hp}{s:B2}{h':Heap}
theorem Cx.Ok.nofr(ok:X.Ok){b:Addr}{o:Obj}(e:X.base.get? b=some o):b∉X.fs:=λhb=>by
 have:=(ok.kQ.mem hb).1;rw[e] at this; cases this
theorem Inv.bs(I:Inv X pins σ H s):∀b o,X.base.get? b=some o->s.heap.get? b=some o/\H b=none:=λb o e=>
 ⟨I.base.keep b o (I.ok.bs b o e).1 (I.ok.bs b o e).2 (I.ok.nofr e) (I.ok.noex b o e),I.base.free b o (I.ok.bs b o e).1 (I.ok.bs b o e).2 (I.ok.noex b o e)⟩
theorem Inv.bk(I:Inv X pins σ H s):∀b o,X.base.get? b=some o->s.heap.get? b=some o:=λb o e=>(I.bs b o e).1
theorem Inv.mod(I:Inv X pins σ H s):Mod X.K X.mg X.base:=I.ok.mod
theorem Inv.vm(I:Inv X pins σ H s):X.K.In s.heap:=I.ok.mod.kin.keeps I.bk
theorem Inv.lt(I:Inv X pins σ H s):X.env.locals<s.heap.objs.size:=let ⟨_,hn,_⟩:=I.loc; hn.lt
theorem Inv.sz(I:Inv X pins σ H s):X.s₀.heap.objs.size<=s.heap.objs.size:=JF I.ok.above (JT I.lt)
theorem Inv.nofs(I:Inv X pins σ H s){a:Addr}(h:s.heap.objs.size<=a):a∉X.fs:=λhb=>by
 obtain⟨_,o,ho,_⟩:=I.ok.kQ.mem hb;exact absurd (Go (DD ho) (JF I.sz h)) (Jx _)
theorem Inv.zR(I:Inv X pins σ H s):∀x c,X.env.cells.lookup x=some c->c≠X.env.locals:=λx c e z=>by
 obtain⟨v,o,ho,hd⟩:=I.cell x c e;obtain⟨m,⟨o',es,ep,ho',hd',_⟩,_⟩:=I.loc;rw[z,ho'] at ho; cases ho; rw[hd'] at hd; cases hd
theorem Inv.kQ(I:Inv X pins σ H s):s.heap.FunFrames X.base X.outer:=by
 have all:∀(l:List Env),(∀b∈frs l,b∈X.fs)->X.s₀.heap.FunFrames X.base l->s.heap.FunFrames X.base l:=by
  intro l
  induction l with
  |nil=>intro _ _; trivial
  |cons env r ih=>
   intro hs hl;obtain⟨hk,⟨L,o,hf,hn,ho,hd⟩,hr⟩:=hl;have hL:L∈X.fs:=hs L (by unfold frs; rw[Jp,hf]; exact lS)
   obtain⟨sl,e⟩:=I.base.slot L o ho (I.ok.frf L hL) hL λz=>I.ok.exfs L z hL
   exact⟨hk,⟨L,_,hf,hn,e,hd⟩,ih (λb hb=>hs b (by unfold frs; rw[Jp,hf]; exact lO _ hb)) hr⟩
 exact all X.outer (λ_ hb=>hb) I.ok.kQ
theorem Inv.stack(I:Inv X pins σ H s):s.heap.FunFrames X.base X.stack:=by
 rcases I.ok.stk with e | ⟨e,hf⟩
 ·rw[e]; exact I.kQ
 ·rw[e]
  obtain⟨m,hn,_⟩:=I.loc;refine .cons (by rw[I.ok.kind]; decide) hf hn ?_ I.kQ
  exact Heap.get?_none_of_le (JF I.ok.bsz I.ok.above)
theorem Inv.iN(I:Inv X pins σ H s):∀b∈frs X.stack,b∈X.env.locals::X.fs:=λb hb=>by
 rcases I.ok.stk with e | ⟨e,hf⟩
 ·rw[e] at hb; exact lO _ hb
 ·rw[e] at hb
  unfold frs at hb;rw[Jp,hf] at hb;exact hb
theorem Inv.t6(I:Inv X pins σ H s):∀b∈frs X.stack,H b=none:=λb hb=>by
 rcases lK (I.iN b hb) with e | hb
 ·rw[e]; exact I.free
 ·obtain⟨_,o,ho,_⟩:=I.ok.kQ.mem hb
  exact I.base.free b o ho (I.ok.frf b hb) λz=>I.ok.exfs b z hb
theorem Inv.step{g':Array QD}{t':Nat}{d':Drawn}{ch:List Addr}(I:Inv X pins σ H s)
  (hch:∀b∈ch,(b∈X.ex\/X.s₀.heap.objs.size<=b)/\b≠X.env.locals/\(∀x c,X.env.cells.lookup x=some c->c≠b)/\∀p∈X.pn++pins,p.1≠b)
  (keep:∀b o,b≠X.env.locals->b∉X.fs->b∉ch->s.heap.get? b=some o->H b=none->h'.get? b=some o)
  (slot:∀b o,b≠X.env.locals->b∈X.fs->b∉ch->s.heap.get? b=some o->H b=none->∃sl,h'.get? b=some { o with slots:=sl }) (free:∀b o,b∉ch->s.heap.get? b=some o->H b=none->H' b=none)
  (there:∀b o,b∉ch->s.heap.get? b=some o->∃o',h'.get? b=some o')
  (tups:∀b xs,H b=some (.tup xs)->H' b=some (.tup xs)) (d8:∀b o u,H b=some (.frz o u)->H' b=some (.frz o u)) (tbls:∀b ps,H b=some (.tbl ps)->∃more,H' b=some (.tbl (ps++more)))
  (ns:∀m,s.heap.Ns X.env.locals m->h'.Ns X.env.locals m) (hok:iC X.prog X.w H' h') (hg:MR g') :
  Inv X pins σ H' { s with heap:=h',gens:=g',drawn:=d',toks:=t' }:=by
 have neL:∀b o,X.s₀.heap.get? b=some o->b≠X.env.locals:=λb o e=>FC (Go (DD e) I.ok.above)
 have neC:∀b o,X.s₀.heap.get? b=some o->b∉X.ex->b∉ch:=λb o e hx hb=>by
  rcases (hch b hb).1 with z | z
  ·exact hx z
  ·exact absurd (Go (DD e) z) (Jx _)
 have cellK:∀x c,X.env.cells.lookup x=some c->∀v,s.heap.IsCell c v->h'.IsCell c v:=λx c e v ⟨o,ho,hd⟩=>by
  have nch:c∉ch:=λz=>(hch c z).2.2.1 x c e rfl
  by_cases hc:c∈X.fs
  ·obtain⟨sl,q⟩:=slot c o (I.zR x c e) hc nch ho (I.freeC x c e)
   exact⟨_,q,hd⟩
  ·exact⟨o,keep c o (I.zR x c e) hc nch ho (I.freeC x c e),hd⟩
 refine⟨I.ok,I.os,hg,⟨λb o e n hb hx=>?_,λb o e n hb hx=>?_,λb o e n hx=>?_,λb o e hx=>?_,λb xs e=>tups b xs (I.base.tups b xs e),λb o xs e=>d8 b o xs (I.base.d8 b o xs e),λb ps e=>?_⟩,?_,λx c e=>?_,?_,λx c e=>?_,λp hp=>?_,hok,I.len⟩
 ·exact keep b o (neL b o e) hb (neC b o e hx) (I.base.keep b o e n hb hx) (I.base.free b o e n hx)
 ·obtain⟨sl,e1⟩:=I.base.slot b o e n hb hx
  obtain⟨sl',e2⟩:=slot b _ (neL b o e) hb (neC b o e hx) e1 (I.base.free b o e n hx);exact⟨sl',e2⟩
 ·obtain⟨o',e1⟩:=I.base.there b o e hx
  exact free b o' (neC b o e hx) e1 (I.base.free b o e n hx)
 ·obtain⟨o',e1⟩:=I.base.there b o e hx
  exact there b o' (neC b o e hx) e1
 ·obtain⟨m1,e1⟩:=I.base.tbls b ps e
  obtain⟨m2,e2⟩:=tbls b _ e1;exact⟨m1++m2,by rw[e2,PF]⟩
 ·obtain⟨m,hn,hl⟩:=I.loc
  refine⟨m,ns m hn,λi x v e1 e2 e3=>?_⟩
  obtain⟨u,r,l⟩:=hl i x v e1 e2 e3;refine⟨u,r,?_⟩;rcases l with l | ⟨k,c,e,z⟩
  ·exact .inl l
  ·exact .inr ⟨k,c,e,cellK x c e _ z⟩
 ·obtain⟨v,z⟩:=I.cell x c e
  exact⟨v,cellK x c e v z⟩
 ·obtain⟨m,⟨o,_,_,ho,_⟩,_⟩:=I.loc
  exact free _ o (λz=>(hch _ z).2.1 rfl) ho I.free
 ·obtain⟨v,o,ho,hd⟩:=I.cell x c e
  exact free c o (λz=>(hch c z).2.2.1 x c e rfl) ho (I.freeC x c e)
 ·obtain⟨e,n,ne,nf,d⟩:=I.pin p hp
  have nch:p.1∉ch:=λz=>(hch p.1 z).2.2.2 p hp rfl
  exact⟨keep p.1 p.2 ne nf nch e n,free p.1 p.2 nch e n,ne,nf,d⟩
theorem Inv.un{t':Nat}(I:Inv X pins σ H s)(u:Un X.fs [] H H' s.heap h')(hok:iC X.prog X.w H' h'):Inv X pins σ H' { s with heap:=h',toks:=t' }:=by
 obtain⟨m,⟨o,es,ep,ho,r⟩,_⟩:=id I.loc;obtain⟨sl,hL⟩:=u.any ho I.free (by simp)
 exact I.step (g':=s.gens) (d':=s.drawn) (ch:=[]) (λ_ z=>nomatch z) (λb o _ hb _ e n=>u.keep b o e n hb (by simp)) (λb o _ hb _ e n=>u.slot b o e n hb (by simp)) (λb o _ e n=>u.free b o e n (by simp)) (λb o _ e=>u.there b o e (by simp)) u.tups u.d8 u.tbls (λm' hm=>by
  obtain⟨o',es',ep',ho',r'⟩:=hm;rw[ho] at ho'; cases ho';exact⟨_,es',ep',hL,r'⟩) hok I.bare
theorem Inv.call{g':Array QD}{t':Nat}{d':Drawn}{ch:List Addr}(I:Inv X pins σ H s)(u:Un (frs X.stack) ch H H' s.heap h')(hok:iC X.prog X.w H' h')(hg:MR g')
  (hch:∀b∈ch,(b∈X.ex\/X.s₀.heap.objs.size<=b)/\b≠X.env.locals/\(∀x c,X.env.cells.lookup x=some c->c≠b)/\∀p∈X.pn++pins,p.1≠b) :
  Inv X pins σ H' { s with heap:=h',gens:=g',drawn:=d',toks:=t' }:=by
 obtain⟨m,⟨o,es,ep,ho,r⟩,_⟩:=id I.loc;obtain⟨sl,hL⟩:=u.any ho I.free λz=>(hch _ z).2.1 rfl
 exact I.step (ch:=ch) hch (λb o hL hb hc e n=>u.keep b o e n (λz=>(lK (I.iN b z)).elim hL hb) hc) (λb o _ _ hc e n=>u.any e n hc) (λb o hc e n=>u.free b o e n hc) (λb o hc e=>u.there b o e hc) u.tups u.d8 u.tbls (λm' hm=>by
  obtain⟨o',es',ep',ho',r'⟩:=hm;rw[ho] at ho'; cases ho';exact⟨_,es',ep',hL,r'⟩) hok hg
theorem Inv.turned{t':Nat}{it:Addr}(I:Inv X pins σ H s)(k:∀b o,b≠it->s.heap.get? b=some o->h'.get? b=some o)(hn:H it=none)(hL:it≠X.env.locals)
  (h1:it∈X.ex\/X.s₀.heap.objs.size<=it) (h2:∀x c,X.env.cells.lookup x=some c->c≠it) (h3:∀p∈X.pn++pins,p.1≠it):Inv X pins σ H { s with heap:=h',toks:=t' }:=by
 have nit:∀b u,H b=some u->b≠it:=λb u e z=>by rw[z,hn] at e; cases e
 refine I.step (g':=s.gens) (d':=s.drawn) (ch:=[it]) (λb hb=>?_) (λb o _ _ hc e _=>k b o (λz=>hc (by simp[z])) e) (λb o _ _ hc e _=>⟨o.slots,k b o (λz=>hc (by simp[z])) e⟩) (λ_ _ _ _ n=>n)
  (λb o hc e=>⟨o,k b o (λz=>hc (by simp[z])) e⟩) (λ_ _ e=>e) (λ_ _ _ e=>e) (λb ps e=>⟨#[],by rw[e]; simp⟩) (λm hm=>?_) (λb u e=>?_) I.bare
 ·have e:b=it:=by simpa using hb
  subst e;exact⟨h1,hL,h2,h3⟩
 ·obtain⟨o,es,ep,ho,r⟩:=hm
  exact⟨o,es,ep,k _ o (K8 hL) ho,r⟩
 ·refine(I.hok b u e).stay (λc v hc q=>k c v ?_ q) (λ_ q=>q) λ_ _ q=>q
  rcases hc with z | z
  ·rw[z]; exact nit b u e
  ·exact nit c _ z
theorem Inv.tok(I:Inv X pins σ H s)(t:Nat):Inv X pins σ H { s with toks:=t }:=I.un (h':=s.heap) (t':=t) Un.refl I.hok
theorem Inv.kept{t':Nat}(I:Inv X pins σ H s)(k:∀b u,s.heap.get? b=some u->h'.get? b=some u):Inv X pins σ H { s with heap:=h',toks:=t' }:=I.un (Un.kept k) (I.hok.kept k)
theorem Inv.laid{a:Addr}{o:HO}{t':Nat}(I:Inv X pins σ H s)(k:∀b u,s.heap.get? b=some u->h'.get? b=some u)(hp:s.heap.objs.size<=a)(new:cC X.prog X.w (upd H a o) h' a o) :
  Inv X pins σ (upd H a o) { s with heap:=h',toks:=t' }:=I.un (Un.laid k hp (I.hok.fresh hp)) (I.hok.laid k hp new)
theorem Inv.write{x e:Addr}{o:HO}{t':Nat}(I:Inv X pins σ H s)(mu:E9 (H x))(he:e=x\/H e=some (.own x))(k:∀b u,b≠e->s.heap.get? b=some u->h'.get? b=some u)(heo:∃u,h'.get? e=some u)
  (new:cC X.prog X.w (upd H x o) h' x o):Inv X pins σ (upd H x o) { s with heap:=h',toks:=t' }:=I.un (Un.write mu he k heo) (I.hok.write mu he k heo new)
theorem Inv.t7{pins':List (Addr×Obj)}(I:Inv X pins σ H s)(h:∀p∈pins',s.heap.get? p.1=some p.2/\H p.1=none/\p.1≠X.env.locals/\p.1∉X.fs/\∀v,p.2.data≠.cell v):Inv X pins' σ H s :=
 ⟨I.ok,I.os,I.bare,I.base,I.loc,I.cell,I.free,I.freeC,λp hp=>(lM hp).elim (λz=>I.pin p (lL _ z)) (h p),I.hok,I.len⟩
theorem ql{N:List Str}(hN:N.Nodup){i j:Nat}{x:Str}(a:N[i]? = some x)(b:N[j]? = some x):i=j:=by
 obtain⟨h1,e1⟩:=Da.mp a;obtain⟨h2,e2⟩:=Da.mp b;exact(List.getElem_inj hN).mp (e1.trans e2.symm)
theorem nQ{M:Model}{A:HN}{E:Value->B2->Prop}{i:Nat}{x:Str}{v:V}{u:Value}{Q:Unit->B2->Prop}(I:Inv X pins σ H s)(hN:X.N.Nodup)(hi:X.N[i]? = some x)(hx:Loc X.env.scope x)(r:RelV v u)
  (h:∀s',Inv X pins (σ.set i (some v)) H s'->(∃a,JR a s.heap s'.heap/\(a=X.env.locals\/X.env.cells.lookup x=some a))->Q () s') (hf:X.fn x=true\/X.env.scope.names.lookup x=some .local:=by first | exact .inl rfl | exact .inr rfl | assumption):wpAny M A (storeName X.env x u) Q E s:=by
 obtain⟨m,hn,hl⟩:=id I.loc;have hcls:(X.env.scope.kind == .class || (X.env.scope.kind == .module && X.env.locals != X.env.globals))=false:=by rw[I.ok.kind]; rfl
 have hiσ:i<σ.length:=by rw[I.len]; exact(Da.mp hi).1
 have zR:=I.zR;have tracked:∀{a:Addr}{h':Heap},(∃o,s.heap.get? a=some o/\H a=none)->JR a s.heap h'->iC X.prog X.w H h':=λ{a h'}ha hs b ob e=>by
  obtain⟨_,_,hfree⟩:=ha;refine(I.hok b ob e).stay (λc w' hc q=>(hs.2 c ?_).trans q) (λ_ q=>q) λ_ _ q=>q
  rintro rfl;rcases hc with rfl | hc
  ·rw[hfree] at e; cases e
  ·rw[hfree] at hc; cases hc
 rcases hx with hk | hk
 ·refine wpAny_storeName_local hk hn (λh' hn' hs=>?_) hcls
  obtain⟨oL,_,_,hoL,_⟩:=id hn;refine h _ ⟨I.ok,I.os,I.bare,⟨λb o e n hb hx=>?_,λb o e n hb hx=>?_,I.base.free,λb o e hx=>?_,I.base.tups,I.base.d8,I.base.tbls⟩,⟨_,hn',λj y v' e1 e2 e3=>?_⟩,λy c e=>?_,I.free,I.freeC,λp hp=>?_,tracked ⟨oL,hoL,I.free⟩ hs,by simpa using I.len⟩ ⟨_,hs,.inl rfl⟩
  ·exact(hs.2 b (FC (Go (DD e) I.ok.above))).trans (I.base.keep b o e n hb hx)
  ·obtain⟨sl,e1⟩:=I.base.slot b o e n hb hx
   exact⟨sl,(hs.2 b (FC (Go (DD e) I.ok.above))).trans e1⟩
  ·obtain⟨o',e1⟩:=I.base.there b o e hx
   exact⟨o',(hs.2 b (FC (Go (DD e) I.ok.above))).trans e1⟩
  ·by_cases hj:j=i
   ·subst hj
    rw[hi] at e1; cases e1;rw[Iz hiσ] at e2;cases e2;exact⟨u,r,.inl ⟨hk,by simp⟩⟩
   ·rw[MK (K8 hj)] at e2
    obtain⟨u',r',q⟩:=hl j y v' e1 e2 e3;refine⟨u',r',?_⟩;rcases q with⟨k,e⟩ | ⟨k,c,e,z⟩
    ·refine .inl ⟨k,?_⟩
     have:y≠x:=λe=>hj (ql hN e1 (e▸hi))
     simp[this,e]
    ·exact .inr ⟨k,c,e,z.sameBut hs (zR y c e)⟩
  ·obtain⟨w',z⟩:=I.cell y c e
   exact⟨w',z.sameBut hs (zR y c e)⟩
  ·obtain⟨e,n,ne,nf,d⟩:=I.pin p hp
   exact⟨(hs.2 p.1 ne).trans e,n,ne,nf,d⟩
 ·have hfn:X.fn x=true:=by
   rcases hf with z | z
   ·exact z
   ·rw[z] at hk; cases hk
  obtain⟨c,hc⟩:=I.ok.has x (.inl hk);obtain⟨w',z⟩:=I.cell x c hc;refine wpAny_storeName_cell I.ok.kind hk hc z (λh' hc' hs=>?_)
  obtain⟨oc,hoc,hocd⟩:=id z;refine h { s with heap:=h' } ⟨I.ok,I.os,I.bare,⟨λb o e n hb hx=>?_,λb o e n hb hx=>?_,I.base.free,λb o e hx=>?_,I.base.tups,I.base.d8,I.base.tbls⟩,⟨m,hn.sameBut hs (K8 (zR x c hc)),λj y v' e1 e2 e3=>?_⟩,λy c' e=>?_,I.free,I.freeC,λp hp=>?_,tracked ⟨oc,hoc,I.freeC x c hc⟩ hs,by simpa using I.len⟩ ⟨c,hs,.inr hc⟩
  ·exact(hs.2 b (FC (Go (DD e) (I.ok.cab x c hfn hc)))).trans (I.base.keep b o e n hb hx)
  ·obtain⟨sl,e1⟩:=I.base.slot b o e n hb hx
   exact⟨sl,(hs.2 b (FC (Go (DD e) (I.ok.cab x c hfn hc)))).trans e1⟩
  ·obtain⟨o',e1⟩:=I.base.there b o e hx
   exact⟨o',(hs.2 b (FC (Go (DD e) (I.ok.cab x c hfn hc)))).trans e1⟩
  ·by_cases hj:j=i
   ·subst hj
    rw[hi] at e1; cases e1;rw[Iz hiσ] at e2;cases e2;exact⟨u,r,.inr ⟨.inl hk,c,hc,hc'⟩⟩
   ·rw[MK (K8 hj)] at e2
    obtain⟨u',r',q⟩:=hl j y v' e1 e2 e3;refine⟨u',r',?_⟩;rcases q with q | ⟨k,c',e,z'⟩
    ·exact .inl q
    ·refine .inr ⟨k,c',e,z'.sameBut hs ?_⟩
     rintro rfl;exact hj (ql hN e1 (I.ok.inj _ _ _ e hc▸hi))
  ·by_cases hcc:c'=c
   ·subst hcc; exact⟨_,hc'⟩
   ·obtain⟨w2,z2⟩:=I.cell y c' e
    exact⟨w2,z2.sameBut hs hcc⟩
  ·obtain⟨e,n,ne,nf,d⟩:=I.pin p hp
   refine⟨(hs.2 p.1 ?_).trans e,n,ne,nf,d⟩;intro q;rw[q,hoc] at e;have q':oc=p.2:=Fu e;exact d w' (by rw[<-q']; exact hocd)
theorem gJ{M:Model}{A:HN}{E:Value->B2->Prop}{i:Nat}{x:Str}{v:V}{u:Value}{Q:Unit->B2->Prop}(I:Inv X pins σ H s)(hN:X.N.Nodup)(hi:X.N[i]? = some x)(hx:Loc X.env.scope x)(r:RelV v u)
  (h:∀s',Inv X pins (σ.set i (some v)) H s'->Q () s') (hf:X.fn x=true\/X.env.scope.names.lookup x=some .local:=by first | exact .inl rfl | exact .inr rfl | assumption):wpAny M A (storeName X.env x u) Q E s :=
 nQ I hN hi hx r (λs' I' _=>h s' I') hf
theorem Inv.call'{s':B2}{ch:List Addr}(I:Inv X pins σ H s)(ho:s'.os=s.os)(u:Un (frs X.stack) ch H H' s.heap s'.heap)(hok:iC X.prog X.w H' s'.heap)(hg:MR s'.gens)
  (hch:∀b∈ch,(b∈X.ex\/X.s₀.heap.objs.size<=b)/\b≠X.env.locals/\(∀x c,X.env.cells.lookup x=some c->c≠b)/\∀p∈X.pn++pins,p.1≠b):Inv X pins σ H' s':=by
 obtain⟨h',g',d',t',o'⟩:=s';have e:o'=s.os:=ho;subst e;exact I.call (g':=g') (t':=t') (d':=d') u hok hg hch
end
abbrev XK:=Value->Option Addr->Hp->Prop
abbrev St:=List (Option V)
abbrev VK:=V->Hp->Prop
abbrev TE:=St->Hp->VK->Prop
abbrev TT:=St->Hp->(Bool->Hp->Prop)->Prop
abbrev TA:=St->Hp->(List V->Hp->Prop)->Prop
structure Ends where
 nx:St->Hp->Prop
 rt:VK
 bk:St->Hp->Prop:=λ_ _=>False
 ct:St->Hp->Prop:=λ_ _=>False
abbrev TS:=Ends->St->Hp->Prop
def EP(X:Cx)(pins:List (Addr×Obj))(σ:St)(Q:VK)(u:Value)(s':B2):Prop:=∃v H',Inv X pins σ H' s'/\RelV v u/\Q v H'
def TP(X:Cx)(pins:List (Addr×Obj))(σ:St)(Q:Bool->Hp->Prop)(b:Bool)(s':B2):Prop:=∃H',Inv X pins σ H' s'/\Q b H'
def AP(X:Cx)(pins:List (Addr×Obj))(σ:St)(Q:List V->Hp->Prop)(us:List Value)(s':B2):Prop:=∃vs H',Inv X pins σ H' s'/\Vals vs us/\Q vs H'
def SP(X:Cx)(pins:List (Addr×Obj))(D:Ends)(f:Flow)(s':B2):Prop :=
 match f with
 |.next=>∃σ' H',Inv X pins σ' H' s'/\D.nx σ' H'
 |.brk=>∃σ' H',Inv X pins σ' H' s'/\D.bk σ' H'
 |.cont=>∃σ' H',Inv X pins σ' H' s'/\D.ct σ' H'
 |.ret u=>∃v σ' H',Inv X pins σ' H' s'/\RelV v u/\D.rt v H'
def PE(X:Cx)(e:Expr)(t:TE):Prop :=
 ∀(pins:List (Addr×Obj))(s:B2)(σ:St)(H:Hp)(Q:VK),Inv X pins σ H s->t σ H Q->wpAny (model X.prog X.w) X.A (eval e X.env) (EP X pins σ Q) X.xe s
def PT(X:Cx)(e:Expr)(t:TT):Prop :=
 ∀(pins:List (Addr×Obj))(s:B2)(σ:St)(H:Hp)(Q:Bool->Hp->Prop),Inv X pins σ H s->t σ H Q->wpAny (model X.prog X.w) X.A (OT e X.env (eval e X.env)) (TP X pins σ Q) X.xe s
def PW(X:Cx)(e:Expr)(t:TT):Prop :=
 ∀(whole:Sem Value)(pins:List (Addr×Obj))(s:B2)(σ:St)(H:Hp)(Q:Bool->Hp->Prop),Inv X pins σ H s->t σ H Q->wpAny (model X.prog X.w) X.A (OT e X.env whole) (TP X pins σ Q) X.xe s
theorem PW.pt{X:Cx}{e:Expr}{t:TT}(h:PW X e t):PT X e t:=h _
def PA(X:Cx)(es:List Expr)(t:TA):Prop :=
 ∀(pos:Pos)(pins:List (Addr×Obj))(s:B2)(σ:St)(H:Hp)(Q:List V->Hp->Prop),Inv X pins σ H s->t σ H Q->wpAny (model X.prog X.w) X.A (spliced (K6 pos (FK es X.env))) (AP X pins σ Q) X.xe s
def PS(X:Cx)(st:Stmt)(t:TS):Prop :=
 ∀(pins:List (Addr×Obj))(s:B2)(σ:St)(H:Hp)(D:Ends),Inv X pins σ H s->t D σ H->wpAny (model X.prog X.w) X.A (exec st X.env) (SP X pins D) X.xe s
def rS(X:Cx)(st:List Stmt)(t:TS):Prop :=
 ∀(pins:List (Addr×Obj))(s:B2)(σ:St)(H:Hp)(D:Ends),Inv X pins σ H s->t D σ H->wpAny (model X.prog X.w) X.A (execs st X.env) (SP X pins D) X.xe s
theorem aZ{α:Type}{t:Sem α}{Q Q':α->B2->Prop}{M:Model}{A:HN}{E:Value->B2->Prop}{s:B2}(h:wpAny M A t Q E s)(hQ:∀a s,Q a s->Q' a s):wpAny M A t Q' E s:=J3 h hQ λ_ _ x=>x
end L2
namespace L2
open PySem PySem.Spec PyProof.Rows
section
variable{X:Cx}
theorem bin{a b:Expr}{ta tb:TE}(ha:PE X a ta)(hb:PE X b tb){pins:List (Addr×Obj)}{s:B2}{σ:St}{H:Hp}{R:V->V->Hp->Prop}(I:Inv X pins σ H s)(h:ta σ H λx H1=>tb σ H1 λy H2=>R x y H2)
  {α:Type} {Q:α->B2->Prop} {f:Value->Value->Sem α}
  (hf:∀v u s2 x y H2,Inv X pins σ H2 s2->RelV x v->RelV y u->R x y H2->wpAny (model X.prog X.w) X.A (f v u) Q X.xe s2) :
  wpAny (model X.prog X.w) X.A (eval a X.env) (λv s₁=>wpAny (model X.prog X.w) X.A (eval b X.env) (λu s₂=>wpAny (model X.prog X.w) X.A (f v u) Q X.xe s₂) X.xe s₁) X.xe s:=by
 refine aZ (ha pins s σ H _ I h) λv s1 ⟨x,H1,I1,r1,q1⟩=>?_
 refine aZ (hb pins s1 σ H1 _ I1 q1) λu s2 ⟨y,H2,I2,r2,q2⟩=>?_
 exact hf v u s2 x y H2 I2 r1 r2 q2
noncomputable def dP(i:Nat):TE:=λσ H Q=>∃v,σ[i]? = some (some v)/\Q v H
noncomputable def tC(v:V):TE:=λ_ H Q=>Q v H
theorem rW{i:Nat}{x:Str}{pos:Pos}(hN:X.N[i]? = some x)(hv:BZ X.env.scope x)(hd:(x == ("__debug__" : Str))=false:=by decide)(hcd:(x == ("__classdict__" : Str))=false:=by decide):PE X (.Name x pos) (dP i):=by
 intro pins s σ H Q I h;obtain⟨v,e,h⟩:=h;obtain⟨m,hn,hl⟩:=I.loc;obtain⟨u,r,l⟩:=hl i x v hN e hv;have fin:EP X pins σ Q u s:=⟨v,H,I,r,h⟩;rcases l with⟨hk,hm⟩ | ⟨hk,c,hc,hcell⟩
 ·exact Qc (Q5 I.ok.kind hk hn hm fin) hd
 ·rcases hk with hk | hk
  ·exact Qc (QO I.ok.kind hk hc hcell fin) hd
  ·exact Qc (wpAny_loadName_free I.ok.kind hk hc hcell fin hcd) hd
theorem Ct{i j pos}:PE X (.Constant (.int i) j pos) (tC (.int i)):=λ_ _ _ H _ I h=>Qd ⟨.int i,H,I.tok _,⟨_,rfl⟩,h⟩
theorem pe_bl{b j pos}:PE X (.Constant (.bool b) j pos) (tC (.bl b)):=λ_ _ _ H _ I h=>Constant_bool ⟨.bl b,H,I,rfl,h⟩
theorem Cu{j pos}:PE X (.Constant .none j pos) (tC .non):=λ_ _ _ H _ I h=>Constant_none ⟨.non,H,I,rfl,h⟩
def Gl(X:Cx)(x:Str):Prop:=X.env.kindOf x=some .globalImplicit
theorem zY{E:Value->B2->Prop}{pins:List (Addr×Obj)}{s:B2}{σ:St}{H:Hp}{x:Str}{u:Value}{pos:Pos}{Q:Value->B2->Prop}(I:Inv X pins σ H s)(hg:Gl X x)(hm:X.mg x=some u)(h:Q u s)
  (hd:(x == ("__debug__" : Str))=false:=by decide):wpAny (model X.prog X.w) X.A (eval (.Name x pos) X.env) Q E s :=
 Nj I.ok.kind hg (Calls.loadGlobal_global (by rw[I.ok.glob]; exact I.mod.glob.keeps I.bk) hm h) hd
theorem eB{E:Value->B2->Prop}{pins:List (Addr×Obj)}{s:B2}{σ:St}{H:Hp}{x:Str}{u:Value}{pos:Pos}{Q:Value->B2->Prop}(I:Inv X pins σ H s)(hg:Gl X x)(hm:X.mg x=none)(hv:JI x=some u)(h:Q u s)
  (hn:x ≠ "__name__" := by decide) (hd:(x == ("__debug__" : Str))=false:=by decide):wpAny (model X.prog X.w) X.A (eval (.Name x pos) X.env) Q E s:=by
 obtain⟨mb,h1,h2⟩:=I.mod.blt;exact Nj I.ok.kind hg (Calls.loadGlobal_builtin (by rw[I.ok.glob]; exact I.mod.glob.keeps I.bk) hm (by rw[I.ok.blt]; exact h1.keeps I.bk) ((h2 x hn).trans hv) h) hd
theorem ff{x:Str}{v:V}{u:Value}{pos:Pos}(hg:Gl X x)(hm:X.mg x=none)(hv:JI x=some u)(r:RelV v u)(hn:x ≠ "__name__" := by decide)(hd:(x == ("__debug__" : Str))=false:=by decide):PE X (.Name x pos) (tC v) :=
 λ_ _ _ H _ I h=>eB I hg hm hv ⟨v,H,I,r,h⟩ hn hd
variable{a b:Expr}{ta tb:TE}{pos:Pos}
def PC(X:Cx)(op:CmpOp)(a b:Expr)(t:TE):Prop :=
 ∀(pins:List (Addr×Obj))(s:B2)(σ:St)(H:Hp)(Q:VK),Inv X pins σ H s->t σ H Q ->
  wpAny (model X.prog X.w) X.A (eval a X.env) (λv s₁=>wpAny (model X.prog X.w) X.A (eval b X.env) (λu s₂=>wpAny (model X.prog X.w) X.A (IG op v u) (EP X pins σ Q) X.xe s₂) X.xe s₁) X.xe s
noncomputable def tB(t:TE):TT:=λσ H Q=>t σ H λx H1=>∃c,x=.bl c/\Q c H1
theorem Cv{op:CmpOp}{t:TE}(h:PC X op a b t)(h1:IY op b=false:=by first | exact w6 _ (by decide) (by decide) | rfl):PE X (.Compare a [op] [b] pos) t:=λpins s σ H Q I hw=>wpAny_Compare1 (h pins s σ H Q I hw) h1
theorem w9{op:CmpOp}{t:TE}(h:PC X op a b t)(h1:IY op b=false:=by first | exact w6 _ (by decide) (by decide) | rfl):PT X (.Compare a [op] [b] pos) (tB t):=by
 intro pins s σ H Q I hw;refine Px (aZ (h pins s σ H _ I hw) λv s1 h1=>aZ h1 λu s2 h2=>aZ h2 λc s3 ⟨x,H1,I1,r1,q1⟩=>?_) h1
 obtain⟨d,rfl,q⟩:=q1;cases r1;exact Jz ⟨H1,I1,q⟩
variable{tA tB':TT}{rest:List Expr}
noncomputable def tAnd(t u:TT):TT:=λσ H Q=>t σ H λc H1=>if c=true then u σ H1 Q else Q false H1
noncomputable def GF(t u:TT):TT:=λσ H Q=>t σ H λc H1=>if c=true then Q true H1 else u σ H1 Q
noncomputable def tNot(t:TT):TT:=λσ H Q=>t σ H λc H1=>Q (!c) H1
theorem zZ(ha:PT X a tA):PW X (.BoolOp .And [a] pos) tA:=by
 intro wh pins s σ H Q I h;refine isTrue_and (aZ (ha pins s σ H Q I h) λc s1 e=>?_)
 cases c with
 |true=>exact isTrue_and_nil e
 |false=>exact e
theorem Cw(ha:PT X a tA):PW X (.BoolOp .Or [a] pos) tA:=by
 intro wh pins s σ H Q I h;refine isTrue_or (aZ (ha pins s σ H Q I h) λc s1 e=>?_)
 cases c with
 |false=>exact isTrue_or_nil e
 |true=>exact e
theorem Cy(ha:PT X a tA)(hb:PW X (.BoolOp .And (b::rest) pos) tB'):PW X (.BoolOp .And (a::b::rest) pos) (tAnd tA tB'):=by
 intro wh pins s σ H Q I h;refine isTrue_and (aZ (ha pins s σ H _ I h) λc s1 ⟨H1,I1,q1⟩=>?_)
 cases c with
 |true=>exact hb wh pins s1 σ H1 Q I1 q1
 |false=>exact⟨H1,I1,q1⟩
theorem pw_or(ha:PT X a tA)(hb:PW X (.BoolOp .Or (b::rest) pos) tB'):PW X (.BoolOp .Or (a::b::rest) pos) (GF tA tB'):=by
 intro wh pins s σ H Q I h;refine isTrue_or (aZ (ha pins s σ H _ I h) λc s1 ⟨H1,I1,q1⟩=>?_)
 cases c with
 |true=>exact⟨H1,I1,q1⟩
 |false=>exact hb wh pins s1 σ H1 Q I1 q1
theorem Cz(ha:PT X a tA):PT X (.UnaryOp .Not a pos) (tNot tA):=by
 intro pins s σ H Q I h;exact isTrue_not (ha pins s σ H (λc H1=>Q (!c) H1) I h)
noncomputable def tAndV(ta tb:TE):TE:=λσ H Q=>ta σ H λx H1=>∃c,x=.bl c/\if c=true then tb σ H1 Q else Q (.bl false) H1
noncomputable def tNotV(ta:TE):TE:=λσ H Q=>ta σ H λx H1=>∃c,x=.bl c/\Q (.bl (!c)) H1
theorem CA{op}{t:TE}(h:PE X a t):PE X (.BoolOp op [a] pos) t:=λpins s σ H Q I hw=>BoolOp_one (h pins s σ H Q I hw)
theorem CB(ha:PE X a ta)(hb:PE X (.BoolOp .And (b::rest) pos) tb):PE X (.BoolOp .And (a::b::rest) pos) (tAndV ta tb):=by
 intro pins s σ H Q I h;refine BoolOp_and (aZ (ha pins s σ H _ I h) λv s1 ⟨x,H1,I1,r1,q1⟩=>?_)
 obtain⟨c,rfl,q1⟩:=q1;cases r1;refine Jz ?_;cases c with
 |true=>exact hb pins s1 σ H1 Q I1 q1
 |false=>exact⟨.bl false,H1,I1,rfl,q1⟩
theorem CC(ha:PE X a ta):PE X (.UnaryOp .Not a pos) (tNotV ta):=by
 intro pins s σ H Q I h;refine UnaryOp_ (aZ (ha pins s σ H _ I h) λv s1 ⟨x,H1,I1,r1,q1⟩=>?_)
 obtain⟨c,rfl,q1⟩:=q1;cases r1;exact not_of (Jz ⟨.bl (!c),H1,I1,rfl,q1⟩)
end
end L2
namespace L2
open PySem PySem.Spec PyProof.Rows
def fj(K:AT)(H:Hp)(a:Addr)(xs:List V):Prop :=
 Rd H a (.lst xs) \/
  ∃ (o:Obj) (its:Array Value) (n:Nat),K.lookup a=some o/\o.cls=.type "list"/\o.dict=none/\o.data=.seq its n/\its.size<=FX/\Vals xs its.toList
def cI(K:AT)(H:Hp)(a:Addr)(xs:List V):Prop :=
 Rd H a (.tup xs) \/
  ∃ (o:Obj) (its:Array Value) (n:Nat),K.lookup a=some o/\o.cls=.type "tuple"/\o.data=.seq its n/\its.size<=FX/\Vals xs its.toList
noncomputable def absV:Value->Option V
 |.none=>some .non
 |.bool b=>some (.bl b)
 |.int i _=>some (.int i)
 |.str x _=>some (.str x)
 |.bytes b _=>some (.byt b)
 |.float b _=>some (.flt b)
 |.ref a=>some (.ref a)
 |.type n=>some (.ty n)
 |_=>none
theorem RelV.abs{x:V}{u:Value}(r:RelV x u):absV u=some x:=by
 cases x with
 |non=>cases r; rfl
 |bl _=>cases r; rfl
 |int _=>obtain⟨t,rfl⟩:=r; rfl
 |str _=>obtain⟨t,rfl⟩:=r; rfl
 |byt _=>obtain⟨t,rfl⟩:=r; rfl
 |flt _=>obtain⟨t,rfl⟩:=r; rfl
 |ref _=>cases r; rfl
 |ty _=>cases r; rfl
theorem RelV.inj{x y:V}{u:Value}(r:RelV x u)(q:RelV y u):x=y:=Fu (r.abs.symm.trans q.abs)
theorem Vals.inj:∀{xs ys:List V}{us:List Value},Vals xs us->Vals ys us->xs=ys
 |_,_,_,.nil,.nil=>rfl
 |_,_,_,.cons r t,.cons r' t'=>by rw[r.inj r',Vals.inj t t']
section
variable{X:Cx}{pins:List (Addr×Obj)}{σ:St}{H:Hp}{s:B2}{a:Addr}{xs ys:List V}
theorem fj.of{K:AT}(h:H a=some (.lst xs)):fj K H a xs:=.inl (.inl h)
theorem cI.of{K:AT}(h:H a=some (.tup xs)):cI K H a xs:=.inl (.inl h)
theorem Inv.list(I:Inv X pins σ H s)(h:fj X.K H a xs):∃its:List Value,Vals xs its/\PlainL s.heap a its.toArray/\xs.length<=FX:=by
 rcases h with h | ⟨o,its,n,hk,hc,hd,hs,hz,r⟩
 ·obtain⟨z,its,n,r,e⟩:=h.ok I.hok
  exact⟨its,r,⟨_,n,e,rfl,rfl,rfl⟩,z⟩
 ·refine⟨its.toList,r,⟨o,n,I.vm a o hk,hc,hd,by simpa using hs⟩,?_⟩
  have e:=r.length;simp only[Dx] at e;lia
theorem Inv.tuple(I:Inv X pins σ H s)(h:cI X.K H a xs):∃its:List Value,Vals xs its/\IsTup s.heap a its.toArray/\xs.length<=FX:=by
 rcases h with h | ⟨o,its,n,hk,hc,hs,hz,r⟩
 ·obtain⟨z,its,r,p⟩:=h.ok I.hok
  exact⟨its,r,p,z⟩
 ·refine⟨its.toList,r,⟨o,I.vm a o hk,hc,n,by simpa using hs⟩,?_⟩
  have e:=r.length;simp only[Dx] at e;lia
theorem Inv.xg(I:Inv X pins σ H s)(h:fj X.K H a xs)(h':fj X.K H a ys):xs=ys:=by
 obtain⟨its,r,⟨o,n,e,_,_,d⟩,_⟩:=I.list h;obtain⟨its',r',⟨o',n',e',_,_,d'⟩,_⟩:=I.list h';rw[e] at e'; cases e';rw[d] at d'
 injection d' with d1 _
 have:its=its':=by simpa using congrArg Qs d1
 subst this;exact r.inj r'
theorem Inv.ie(I:Inv X pins σ H s)(h:cI X.K H a xs)(h':cI X.K H a ys):xs=ys:=by
 obtain⟨its,r,⟨o,e,_,n,d⟩,_⟩:=I.tuple h;obtain⟨its',r',⟨o',e',_,n',d'⟩,_⟩:=I.tuple h';rw[e] at e'; cases e';rw[d] at d'
 injection d' with d1 _
 have:its=its':=by simpa using congrArg Qs d1
 subst this;exact r.inj r'
end
abbrev Cx.nq(X:Cx)(E:Value->B2->Prop):Cx:={ X with xe:=E }
abbrev Cx.EM(X:Cx):Cx:=X.nq λ_ _=>False
theorem Cx.Ok.nq{X:Cx}(ok:X.Ok)(E:Value->B2->Prop):(X.nq E).Ok :=
 ⟨ok.mod,ok.kind,ok.glob,ok.blt,ok.above,ok.inj,ok.has,ok.cab,ok.hd,ok.frames,ok.stk,ok.exf,ok.bs,ok.bsz,ok.noex,ok.exfs,ok.kQ,ok.frf⟩
theorem Cx.Ok.gK{X:Cx}{E:Value->B2->Prop}(ok:(X.nq E).Ok):X.Ok :=
 ⟨ok.mod,ok.kind,ok.glob,ok.blt,ok.above,ok.inj,ok.has,ok.cab,ok.hd,ok.frames,ok.stk,ok.exf,ok.bs,ok.bsz,ok.noex,ok.exfs,ok.kQ,ok.frf⟩
section
variable{X:Cx}{pins:List (Addr×Obj)}{σ:St}{H:Hp}{s:B2}{E:Value->B2->Prop}
theorem Inv.nq(I:Inv X pins σ H s)(E:Value->B2->Prop):Inv (X.nq E) pins σ H s:=⟨I.ok.nq E,I.os,I.bare,I.base,I.loc,I.cell,I.free,I.freeC,I.pin,I.hok,I.len⟩
theorem Inv.gK(I:Inv (X.nq E) pins σ H s):Inv X pins σ H s:=⟨I.ok.gK,I.os,I.bare,I.base,I.loc,I.cell,I.free,I.freeC,I.pin,I.hok,I.len⟩
theorem SP.gK{D:Ends}{f:Flow}{s':B2}(h:SP (X.nq E) pins D f s'):SP X pins D f s':=by
 cases f with
 |next=>obtain⟨σ',H',I,q⟩:=h; exact⟨σ',H',I.gK,q⟩
 |brk=>obtain⟨σ',H',I,q⟩:=h; exact⟨σ',H',I.gK,q⟩
 |cont=>obtain⟨σ',H',I,q⟩:=h; exact⟨σ',H',I.gK,q⟩
 |ret u=>obtain⟨v,σ',H',I,r,q⟩:=h; exact⟨v,σ',H',I.gK,r,q⟩
theorem rS.EM{st:List Stmt}{t:TS}(h:rS X.EM st t):rS X st t:=λpins s σ H D I hw=>
 J3 (h pins s σ H D (I.nq _) hw) (λ_ _ q=>q.gK) λ_ _ z=>KR z
end
section
variable{X:Cx}{st:Stmt}{rest:List Stmt}{t u:TS}{e:Expr}{te:TE}{pos:Pos}
noncomputable def B0:TS:=λD σ H=>D.nx σ H
noncomputable def tSeq(t u:TS):TS:=λD σ H=>t { D with nx:=u D } σ H
theorem z9:rS X [] B0:=λ_ _ σ H _ I h=>MS ⟨σ,H,I,h⟩
theorem xh(h1:PS X st t)(h2:rS X rest u):rS X (st::rest) (tSeq t u):=by
 intro pins s σ H D I h;refine wpAny_execs_cons (aZ (h1 pins s σ H { D with nx:=u D } I h) λf s1 q=>?_)
 cases f with
 |next=>
  obtain⟨σ',H',I',q⟩:=q;exact h2 pins s1 σ' H' D I' q
 |ret v=>exact q
 |brk=>exact q
 |cont=>exact q
theorem Aa(h1:PS X st t):rS X [st] t:=by
 intro pins s σ H D I h;refine wpAny_execs_cons (aZ (h1 pins s σ H D I h) λf s1 q=>?_)
 cases f with
 |next=>exact MS q
 |ret v=>exact q
 |brk=>exact q
 |cont=>exact q
theorem Inv.quiet{pins:List (Addr×Obj)}{σ:St}{H:Hp}{s:B2}(I:Inv X pins σ H s):interactive X.env=false:=by simp[interactive,I.ok.kind]
noncomputable def tDrop(te:TE):TS:=λD σ H=>te σ H λ_ H1=>D.nx σ H1
theorem Ab(he:PE X e te)(hs:KS e none pos.line X.env=pure false:=by rfl):PS X (.Expr e pos) (tDrop te):=by
 intro pins s σ H D I h;exact wpAny_Expr_any (aZ (he pins s σ H _ I h) λv s1 ⟨x,H1,I1,r1,q1⟩=>⟨σ,H1,I1,q1⟩) I.quiet hs
noncomputable def tRet(te:TE):TS:=λD σ H=>te σ H D.rt
theorem CD(he:PE X e te):PS X (.Return (some e) pos) (tRet te):=by
 intro pins s σ H D I h;exact wpAny_Return_some (aZ (he pins s σ H _ I h) λv s1 ⟨x,H1,I1,r1,q1⟩=>⟨x,σ,H1,I1,r1,q1⟩)
noncomputable def tIfS(c:TT)(t u:TS):TS:=λD σ H=>c σ H λb H1=>if b=true then t D σ H1 else u D σ H1
theorem ps_if{c:Expr}{a b:List Stmt}{tc:TT}(hc:PT X c tc)(ha:rS X a t)(hb:rS X b u):PS X (.If c a b pos) (tIfS tc t u):=by
 intro pins s σ H D I h;refine wpAny_If (aZ (hc pins s σ H _ I h) λd s1 ⟨H1,I1,q1⟩=>?_)
 cases d with
 |true=>exact ha pins s1 σ H1 D I1 q1
 |false=>exact hb pins s1 σ H1 D I1 q1
end
abbrev TG:=V->St->Hp->(St->Hp->Prop)->Prop
abbrev Ac:=List V->St->Hp->(St->Hp->Prop)->Prop
def PG(X:Cx)(target:Expr)(t:TG):Prop :=
 ∀(pins:List (Addr×Obj))(s:B2)(σ:St)(H:Hp)(v:V)(u:Value)(Q:St->Hp->Prop),Inv X pins σ H s->RelV v u->t v σ H Q ->
  wpAny (model X.prog X.w) X.A (Lz target X.env u) (λ_ s'=>∃σ' H',Inv X pins σ' H' s'/\Q σ' H') X.xe s
def B3(X:Cx)(ts:List Expr)(t:Ac):Prop :=
 ∀(pins:List (Addr×Obj))(s:B2)(σ:St)(H:Hp)(vs:List V)(us:List Value)(Q:St->Hp->Prop),Inv X pins σ H s->Vals vs us->t vs σ H Q ->
  wpAny (model X.prog X.w) X.A (Ov ((K7 ts X.env).map (·.2)) us) (λ_ s'=>∃σ' H',Inv X pins σ' H' s'/\Q σ' H') X.xe s
abbrev TSet:=V->V->V->Hp->(Hp->Prop)->Prop
def PSet(X:Cx)(t:TSet):Prop :=
 ∀(pins:List (Addr×Obj))(s:B2)(σ:St)(H:Hp)(o i v:V)(ov iv u:Value)(Q:Hp->Prop),Inv X pins σ H s->RelV o ov->RelV i iv->RelV v u->t o i v H Q ->
  wpAny (model X.prog X.w) X.A (setItem ov iv u) (λ_ s'=>∃H',Inv X pins σ H' s'/\Q H') X.xe s
abbrev EN:=V->V->Hp->VK->Prop
def Ft(X:Cx)(op:Mn)(t:EN):Prop :=
 ∀(pins:List (Addr×Obj))(s:B2)(σ:St)(H:Hp)(x y:V)(v u:Value)(Q:VK),Inv X pins σ H s->RelV x v->RelV y u->t x y H Q ->
  wpAny (model X.prog X.w) X.A (inplaceOp op v u) (EP X pins σ Q) X.xe s
section
variable{X:Cx}{pos:Pos}
noncomputable def xj(i:Nat):TG:=λv σ H Q=>Q (σ.set i (some v)) H
theorem Ad{i:Nat}{x:Str}(hN:X.N.Nodup)(hi:X.N[i]? = some x)(hx:Loc X.env.scope x)(hf:X.fn x=true\/X.env.scope.names.lookup x=some .local:=by first | exact .inl rfl | exact .inr rfl | assumption):PG X (.Name x pos) (xj i):=by
 intro pins s σ H v u Q I r h;exact wpAny_assign_Name (gJ I hN hi hx r (λs' I'=>⟨_,H,I',h⟩) hf)
noncomputable def gNil:Ac:=λvs σ H Q=>vs=[]/\Q σ H
noncomputable def gCons(t:TG)(u:Ac):Ac:=λvs σ H Q=>∃v r,vs=v::r/\t v σ H λσ' H'=>u r σ' H' Q
theorem Ae:B3 X [] gNil:=by
 intro pins s σ H vs us Q I r h;obtain⟨e,h⟩:=h;subst e;cases r;exact assignInOrder_nil ⟨σ,H,I,h⟩
theorem xm{e:Expr}{es:List Expr}{t:TG}{u:Ac}(h1:PG X e t)(h2:B3 X es u)
  (hs:(K7 (e::es) X.env).map (·.2)=Lz e X.env::(K7 es X.env).map (·.2):=by rfl):B3 X (e::es) (gCons t u):=by
 intro pins s σ H vs us Q I r h;obtain⟨v,vr,e1,h⟩:=h;subst e1;cases r with
 |cons r rr=>
  rw[hs];refine NM (aZ (h1 pins s σ H _ _ _ I r h) λ_ s1 ⟨σ1,H1,I1,q1⟩=>?_)
  exact h2 pins s1 σ1 H1 _ _ Q I1 rr q1
noncomputable def gTup(K:AT)(n:Nat)(t:Ac):TG:=λv σ H Q=>∃a xs,v=.ref a/\cI K H a xs/\xs.length=n/\t xs σ H Q
theorem CF{es:List Expr}{k:Nat}{t:Ac}{n:Nat}(hc:X.calm=true)(h:B3 X es t)
  (hn:(K7 es X.env).length=n:=by rfl) (hst:(K7 es X.env).findIdx? (·.1)=none:=by rfl):PG X (.Tuple es k pos) (gTup X.K n t):=by
 intro pins s σ H v u Q I r hw;obtain⟨a,xs,e1,hq,hl,hw⟩:=hw;subst e1;cases r;obtain⟨its,rv,ht,hz⟩:=I.tuple hq;refine assign_Tuple_tuple (I.ok.hd hc) ht (by simp[hn,<-hl,rv.length]) hst λh' hx=>?_
 have I1:Inv X pins σ H { s with heap:=h' }:=I.kept (t':=s.toks) λb o e=>hx b o (FC (DD e)) e
 exact h pins _ σ H xs _ Q I1 (by simpa using rv) hw
noncomputable def xo(to ti:TE)(t:TSet):TG:=λv σ H Q=>to σ H λo H1=>ti σ H1 λi H2=>t o i v H2 λH3=>Q σ H3
theorem oX{o i:Expr}{to ti:TE}{t:TSet}(ho:PE X o to)(hi:PE X i ti)(hs:PSet X t)
  (ha:∀v,Lz (.Subscript o i pos) X.env v=(do
   let ov <-L3 [v] (eval o X.env)
   let iv <-L3 [v,ov] (eval i X.env)
   KJ pos
   L3 [v,ov,iv] (setItem ov iv v)
   release [v,ov,iv] []):=by intro _; rfl):PG X (.Subscript o i pos) (xo to ti t):=by
 intro pins s σ H v u Q I r h;rw[ha];refine AC (HW (aZ (ho pins s σ H _ I h) λov s1 ⟨x,H1,I1,r1,q1⟩=>?_))
 refine AC (HW (aZ (hi pins s1 σ H1 _ I1 q1) λiv s2 ⟨y,H2,I2,r2,q2⟩=>?_))
 refine AC (J4 (AC (HW (aZ (hs pins s2 σ H2 x y v ov iv u _ I2 r1 r2 r q2) λ_ s3 ⟨H3,I3,q3⟩=>?_))))
 exact wpAny_release ⟨σ,H3,I3,q3⟩
noncomputable def oY(te:TE)(g:TG):TS:=λD σ H=>te σ H λx H1=>g x σ H1 D.nx
theorem jM{tg e:Expr}{te:TE}{g:TG}(he:PE X e te)(hg:PG X tg g)(hs:NG [tg] e pos.line X.env=pure false:=by rfl)(hw:NH [tg] e X.env=pure none:=by rfl)
  (h1:(K7 [tg] X.env).map (·.2)=[Lz tg X.env]:=by rfl):PS X (.Assign [tg] e pos) (oY te g):=by
 intro pins s σ H D I h;refine wpAny_Assign_stores (aZ (he pins s σ H _ I h) λv s1 ⟨x,H1,I1,r1,q1⟩=>?_) hs hw
 rw[h1];exact aZ (hg pins s1 σ H1 x v _ I1 r1 q1) λ_ s2 q=>q
theorem CG{i:Nat}{x:Str}{e:Expr}{te:TE}{pos':Pos}(hN:X.N.Nodup)(hi:X.N[i]? = some x)(hx:Loc X.env.scope x)(he:PE X e te)(hs:KS e (some (.Name x pos')) pos.line X.env=pure false:=by rfl)(hf:X.fn x=true\/X.env.scope.names.lookup x=some .local:=by first | exact .inl rfl | exact .inr rfl | assumption) :
  PS X (.Assign [.Name x pos'] e pos) (oY te (xj i)):=by
 intro pins s σ H D I h;refine wpAny_Assign_Name (aZ (he pins s σ H _ I h) λv s1 ⟨y,H1,I1,r1,q1⟩=>?_) hs
 exact gJ I1 hN hi hx r1 (λs2 I2=>⟨_,H1,I2,q1⟩) hf
noncomputable def tPar(i j:Nat)(ta:TA):TS:=λD σ H=>ta σ H λvs H1=>∃v w,vs=[v,w]/\D.nx ((σ.set i (some v)).set j (some w)) H1
theorem CH{i j:Nat}{x y:Str}{a b:Expr}{ta:TA}{px py pt:Pos}{kt k2 pt2}(hc:X.calm=true)(hN:X.N.Nodup)(hi:X.N[i]? = some x)(hj:X.N[j]? = some y)(hij:i≠j)
  (hx:X.env.scope.names.lookup x=some .local) (hy:X.env.scope.names.lookup y=some .local) (ha:PA X [a,b] ta)
  (hw:NH [.Tuple [.Name x px,.Name y py] kt pt] (.Tuple [a,b] k2 pt2) X.env=pure (some [x,y]))
  (hs:NG [.Tuple [.Name x px,.Name y py] kt pt] (.Tuple [a,b] k2 pt2) pos.line X.env=pure false:=by rfl) :
  PS X (.Assign [.Tuple [.Name x px,.Name y py] kt pt] (.Tuple [a,b] k2 pt2) pos) (tPar i j ta):=by
 intro pins s σ H D I h;rw[exec_Assign_arm];refine AC (J4 ?_);rw[hs];refine AC (At ?_);rw[if_neg (by decide)]
 refine AC (Tuple_ (aZ (ha _ pins s σ H _ I h) λus s1 ⟨vs,H1,I1,r1,q1⟩=>?_))
 obtain⟨v,w,e1,q1⟩:=q1;subst e1;obtain⟨u1,u2,rfl,rv,rw'⟩:∃u1 u2,us=[u1,u2]/\RelV v u1/\RelV w u2:=by
  cases r1 with
  |cons p q=>
   cases q with
   |cons p' q' =>
    cases q';exact⟨_,_,rfl,p,p'⟩
 refine HQ ?_ (by show 2<=FX; decide)
 have I2:Inv X pins σ H1 { s1 with heap:=s1.heap.push { cls:=.type "tuple",data:=.seq [u1,u2].toArray } }:=I1.kept (t':=s1.toks) λb o e=>Ap _ e
 rw[hw];refine AC (At ?_);show wpAny (model X.prog X.w) X.A (do rule "assign.swapped-stores"; let items <-unpackItems (.ref s1.heap.objs.size) 2 none; Ov [λv=>QB X.env y v,λv=>QB X.env x v] items.reverse; pure Flow.next) _ _ _
 refine AC (Ii (AC (unpackItems_tuple (items:=#[u1,u2]) (I.ok.hd hc) (NC s1.heap _) λh' hx' =>?_)))
 have I3:=I2.kept (h':=h') (t':=s1.toks) λb o e=>hx' b o (FC (DD e)) e
 show wpAny _ _ (Ov [λv=>QB X.env y v,λv=>QB X.env x v] [u2,u1] >>= λ_=>pure Flow.next) _ _ _
 refine AC (NM (wpAny_bindName (gJ I3 hN hj (.inl hy) rw' (λs2 I4=>?_) (.inr hy))))
 refine NM (wpAny_bindName (gJ I4 hN hi (.inl hx) rv (λs3 I5=>assignInOrder_nil (At ?_)) (.inr hx)))
 rw[List.set_comm _ _ (K8 hij)] at I5;exact⟨_,H1,I5,q1⟩
noncomputable def tAug(i:Nat)(te:TE)(ti:EN):TS:=λD σ H=>∃x,σ[i]? = some (some x)/\te σ H λy H1=>ti x y H1 λz H2=>D.nx (σ.set i (some z)) H2
theorem CI{i:Nat}{x:Str}{e:Expr}{te:TE}{op:Mn}{ti:EN}{pos':Pos}(hN:X.N.Nodup)(hi:X.N[i]? = some x)(hx:Loc X.env.scope x)(he:PE X e te)(ho:Ft X op ti)(hf:X.fn x=true\/X.env.scope.names.lookup x=some .local:=by first | exact .inl rfl | exact .inr rfl | assumption) :
  PS X (.AugAssign (.Name x pos') op e pos) (tAug i te ti):=by
 intro pins s σ H D I h;obtain⟨v,e1,h⟩:=h;obtain⟨m,hn,hl⟩:=I.loc;have vis:BZ X.env.scope x:=by rcases hx with k | k; exact .inl k; exact .inr (.inl k)
 obtain⟨u,r,l⟩:=hl i x v hi e1 vis;refine wpAny_AugAssign_Name ?_;have go:wpAny (model X.prog X.w) X.A (eval e X.env) (λw s₂=>wpAny (model X.prog X.w) X.A (inplaceOp op u w) (λr s₃=>wpAny (model X.prog X.w) X.A (storeName X.env x r) (λ_=>SP X pins D .next) X.xe s₃) X.xe s₂) X.xe s:=by
  refine aZ (he pins s σ H _ I h) λw s1 ⟨y,H1,I1,r1,q1⟩=>?_
  refine aZ (ho pins s1 σ H1 v y u w _ I1 r r1 q1) λz s2 ⟨zv,H2,I2,r2,q2⟩=>?_
  exact gJ I2 hN hi hx r2 (λs3 I3=>⟨_,H2,I3,q2⟩) hf
 rcases l with⟨hk,hm⟩ | ⟨hk,c,hc,hcell⟩
 ·exact Q5 I.ok.kind hk hn hm go
 ·rcases hk with hk | hk
  ·exact QO I.ok.kind hk hc hcell go
  ·rcases hx with k | k
   ·have:X.env.scope.names.lookup x=some .free:=hk
    rw[k] at this; cases this
   ·have:X.env.scope.names.lookup x=some .free:=hk
    rw[k] at this; cases this
noncomputable def GG(f:Int->Int->Int):EN:=λx y H Q=>∃i j,x=.int i/\y=.int j/\Q (.int (f i j)) H
theorem CJ:Ft X .Add (GG λi j=>i+j):=by
 intro pins s σ H x y v u Q I r1 r2 h;obtain⟨i,j,e1,e2,q⟩:=h;subst e1; subst e2;obtain⟨t,rfl⟩:=r1;obtain⟨t',rfl⟩:=r2;exact iadd_int ⟨.int _,H,I.tok _,⟨_,rfl⟩,q⟩
end
section
variable{X:Cx}{pos:Pos}
noncomputable def xq(c:TT)(tb:TS):TS:=λD σ H=>∃W:Nat->St->Hp->Prop,(∃m,W m σ H)/\∀m σ H,W m σ H ->
 c σ H λb H1=>if b=true then ∃N:St->Hp->Prop,(∀σ' H',N σ' H'->∃m',m'<m/\W m' σ' H')/\tb { D with nx:=N,ct:=N,bk:=D.nx } σ H1 else D.nx σ H1
theorem xr{c:Expr}{body:List Stmt}{tc:TT}{tb:TS}(hp:My (model X.prog X.w) X.A X.env X.xe)(hc:PT X c tc)(hb:rS X body tb):PS X (.While c body [] pos) (xq tc tb):=by
 intro pins s σ H D I h;obtain⟨W,⟨m0,w0⟩,turn⟩:=h;refine wpAny_While (codeAny_whileLoop (λn s'=>∃σ' H',Inv X pins σ' H' s'/\W n σ' H') ?_ m0 ⟨σ,H,I,w0⟩)
 rintro n s1 ⟨σ1,H1,I1,w1⟩;refine KQ hp (aZ (hc pins s1 σ1 H1 _ I1 (turn n σ1 H1 w1)) λb s2 ⟨H2,I2,q2⟩=>?_)
 cases b with
 |true=>
  obtain⟨N,hN,q2⟩:=q2;rw[if_pos rfl];refine KQ hp (aZ (hb pins s2 σ1 H2 _ I2 q2) λf s3 q3=>?_)
  cases f with
  |next=>
   obtain⟨σ3,H3,I3,n3⟩:=q3;obtain⟨m',hm,w3⟩:=hN σ3 H3 n3;exact⟨m',hm,σ3,H3,I3,w3⟩
  |cont=>
   obtain⟨σ3,H3,I3,n3⟩:=q3;obtain⟨m',hm,w3⟩:=hN σ3 H3 n3;exact⟨m',hm,σ3,H3,I3,w3⟩
  |brk=>exact q3
  |ret v=>exact q3
 |false=>
  rw[if_neg IZ];exact MS ⟨σ1,H2,I2,q2⟩
end
structure It where
 go:Nat->Hp->Prop
 yld:Nat->Hp->V->Hp->Prop
 stop:Nat->Hp->Prop
def gG(X:Cx)(pins:List (Addr×Obj))(H:Hp)(b:Addr):Prop :=
 H b=none/\b≠X.env.locals/\b∉X.fs/\(b∈X.ex\/X.s₀.heap.objs.size<=b)/\(∀x c,X.env.cells.lookup x=some c->c≠b)/\∀p∈X.pn++pins,p.1≠b
theorem Inv.vn{X:Cx}{pins:List (Addr×Obj)}{σ:St}{H H':Hp}{s:B2}{b:Addr}(I:Inv X pins σ H s)(hb:s.heap.objs.size<=b)(hn:H' b=none):gG X pins H' b:=by
 refine⟨hn,Kv (Go I.lt hb),I.nofs hb,.inr (JF I.sz hb),λx c e z=>?_,λp hp z=>?_⟩
 ·obtain⟨v,q⟩:=I.cell x c e
  exact absurd (Go q.lt (by rw[z]; exact hb)) (Jx _)
 ·exact absurd (Go (DD (I.pin p hp).1) (by rw[z]; exact hb)) (Jx _)
structure Turn(P:Fk)(w:World)(K:AT)(tg:Expr)(J:It)(fp:List Addr)(it:Addr)(tn:Nat->Heap->Prop):Prop where
 mem:it∈fp
 obj:∀i h,tn i h->∀b∈fp,∃o,h.get? b=some o/\∀v,o.data≠.cell v
 keep:∀i h h',tn i h->(∀b∈fp,∀o,h.get? b=some o->h'.get? b=some o)->tn i h'
 item:∀(X:Cx),X.prog=P->X.w=w->X.K=K->X.calm=true->∀(i:Nat)(pins:List (Addr×Obj))(s:B2)(σ:St)(H:Hp)(E:Value->B2->Prop),Inv X pins σ H s->(∀b∈fp,gG X pins H b)->tn i s.heap->J.go i H ->
  wpAny (model P w) X.A (L1 (.ref it)) (λr s1=>∃u,r=some u /\
   wpAny (model P w) X.A (LR tg (.ref it) u) (λ_ s2=>∃x H',Inv X pins σ H' s2/\RelV x u/\J.yld i H x H'/\tn (i+1) s2.heap/\∀b∈fp,H' b=none) E s1) E s
 done:∀(X:Cx),X.prog=P->X.w=w->X.K=K->X.calm=true->∀(i:Nat)(pins:List (Addr×Obj))(s:B2)(σ:St)(H:Hp)(E:Value->B2->Prop),Inv X pins σ H s->(∀b∈fp,gG X pins H b)->tn i s.heap->J.stop i H ->
  wpAny (model P w) X.A (L1 (.ref it)) (λr s1=>r=none/\Inv X pins σ H s1) E s
 self:∀(A:HN)(i:Nat)(s:B2)(Q:Value->B2->Prop)(E:Value->B2->Prop),tn i s.heap->Q (.ref it) s->wpAny (model P w) A (MM (.ref it)) Q E s
abbrev TI:=St->Hp->(It->Hp->Prop)->Prop
def GH(X:Cx)(pins:List (Addr×Obj))(σ:St)(tg:Expr)(R:It->Hp->Prop)(itv:Value)(s2:B2):Prop :=
 ∃ (it:Addr) (fp:List Addr) (tn:Nat->Heap->Prop) (J:It) (H':Hp),itv=.ref it/\Inv X pins σ H' s2/\Turn X.prog X.w X.K tg J fp it tn/\tn 0 s2.heap/\(∀b∈fp,gG X pins H' b)/\R J H'
def PI(X:Cx)(tg iter:Expr)(wi:TI):Prop :=
 ∀(pins:List (Addr×Obj))(s:B2)(σ:St)(H:Hp)(R:It->Hp->Prop),Inv X pins σ H s->wi σ H R ->
  wpAny (model X.prog X.w) X.A (eval iter X.env) (λv s1=>wpAny (model X.prog X.w) X.A (MM v) (GH X pins σ tg R) X.xe s1) X.xe s
theorem xu{M:Model}{A:HN}{E:Value->B2->Prop}{s:B2}{tg:Expr}{it:Addr}{u:Value}{o:Obj}{n:String}{vs:Array Value}{Q:Unit->B2->Prop}(ho:s.heap.get? it=some o)(hc:o.cls=.type n)(hd:o.data=.fields vs)
    (hn:["enumerate", "zip", "dict_itemiterator", "dict_reverseitemiterator", "odict_iterator", "itertools.zip_longest", "itertools.pairwise"].contains n=false) (hQ:Q () s):wpAny M A (LR tg (.ref it) u) Q E s:=by
  unfold LR;cases tg <;> first
    |exact At hQ
    |(cases u <;> first
        |exact At hQ
        |(refine AC (Qa ho ?_)
          rw[hc,hd];show wpAny M A (if (["enumerate", "zip", "dict_itemiterator", "dict_reverseitemiterator", "odict_iterator", "itertools.zip_longest", "itertools.pairwise"].contains n && vs[0]? == some (Ll _))=true then _ else _) Q E s
          rw[if_neg (by intro h; rw[hn,QZ] at h; cases h)]
          exact At hQ))
noncomputable def Fv(K:AT)(a:Addr):It :=
 ⟨λi H=>∃xs x,fj K H a xs/\xs[i]? = some x,λi H x H'=>H'=H/\∀xs,fj K H a xs->xs[i]? = some x,λi H=>∃xs,fj K H a xs/\xs.length<=i⟩
noncomputable def Gg(K:AT)(a:Addr):It :=
 ⟨λi H=>∃xs x,cI K H a xs/\xs[i]? = some x,λi H x H'=>H'=H/\∀xs,cI K H a xs->xs[i]? = some x,λi H=>∃xs,cI K H a xs/\xs.length<=i⟩
noncomputable def Fb(lo:Int)(n:Nat):It:=⟨λi _=>i<n,λi H x H'=>H'=H/\x=.int (lo+i),λi _=>n<=i⟩
theorem vo{P:Fk}{w:World}{K:AT}{tg:Expr}(a it:Addr):Turn P w K tg (Fv K a) [it] it (λi h=>h.IsListIter it a i) where
 mem:=by simp
 obj:=λi h st b hb=>by
  have e:b=it:=by simpa using hb
  subst e;obtain⟨o,e,c,d⟩:=st;exact⟨o,e,λv z=>by rw[d] at z; cases z⟩
 keep:=λi h h' st k=>st.at λo e=>k it (by simp) o e
 item:=by
  intro X hP hw hK hc i pins s σ H E I hf st hg;subst hP hw hK;obtain⟨xs,x,hq,hx⟩:=hg;obtain⟨its,rv,p,hz⟩:=I.list hq;obtain⟨u,hu,ru⟩:=rv.get hx;obtain⟨f0,f1,f2,f3,f4,f5⟩:=hf it (by simp)
  refine wpAny_pyNext_list_item st p.isList (x:=u) (by simpa using hu) λh' st' sb=>?_
  have I1:Inv X pins σ H { s with heap:=h' }:=I.turned (t':=s.toks) (λb o hb e=>(sb.2 b hb).trans e) f0 f1 f3 f4 f5
  obtain⟨o,e,c,d⟩:=id st';exact⟨u,rfl,xu (s:={ s with heap:=h' }) e c d (by decide) ⟨x,H,I1,ru,⟨rfl,λys hy=>by rw[I.xg hy hq]; exact hx⟩,st',λb hb=>(hf b hb).1⟩⟩
 done:=by
  intro X hP hw hK hc i pins s σ H E I hf st hg;subst hP hw hK;obtain⟨xs,hq,hx⟩:=hg;obtain⟨its,rv,p,hz⟩:=I.list hq;obtain⟨f0,f1,f2,f3,f4,f5⟩:=hf it (by simp)
  have hl:=rv.length;exact wpAny_pyNext_list_end (I.ok.hd hc) st p.isList (by simp; lia) λh' eb=>⟨rfl,I.turned (t':=s.toks) (λb o hb e=>eb b o hb e) f0 f1 f3 f4 f5⟩
 self:=λ_ _ _ _ _ st h=>wpAny_pyIter_listiter st h
theorem rX{P:Fk}{w:World}{K:AT}{tg:Expr}(a it:Addr):Turn P w K tg (Gg K a) [it] it (λi h=>h.IsTupleIter it a i) where
 mem:=by simp
 obj:=λi h st b hb=>by
  have e:b=it:=by simpa using hb
  subst e;obtain⟨o,e,c,d⟩:=st;exact⟨o,e,λv z=>by rw[d] at z; cases z⟩
 keep:=λi h h' st k=>st.at λo e=>k it (by simp) o e
 item:=by
  intro X hP hw hK hc i pins s σ H E I hf st hg;subst hP hw hK;obtain⟨xs,x,hq,hx⟩:=hg;obtain⟨its,rv,p,hz⟩:=I.tuple hq;obtain⟨u,hu,ru⟩:=rv.get hx;obtain⟨f0,f1,f2,f3,f4,f5⟩:=hf it (by simp)
  refine wpAny_pyNext_tuple_item st (show s.heap.IsTuple a its.toArray from p) (x:=u) (by simpa using hu) λh' st' sb=>?_
  have I1:Inv X pins σ H { s with heap:=h' }:=I.turned (t':=s.toks) (λb o hb e=>(sb.2 b hb).trans e) f0 f1 f3 f4 f5
  obtain⟨o,e,c,d⟩:=id st';exact⟨u,rfl,xu (s:={ s with heap:=h' }) e c d (by decide) ⟨x,H,I1,ru,⟨rfl,λys hy=>by rw[I.ie hy hq]; exact hx⟩,st',λb hb=>(hf b hb).1⟩⟩
 done:=by
  intro X hP hw hK hc i pins s σ H E I hf st hg;subst hP hw hK;obtain⟨xs,hq,hx⟩:=hg;obtain⟨its,rv,p,hz⟩:=I.tuple hq;obtain⟨f0,f1,f2,f3,f4,f5⟩:=hf it (by simp)
  have hl:=rv.length;exact wpAny_pyNext_tuple_end (I.ok.hd hc) st (show s.heap.IsTuple a its.toArray from p) (by simp; lia) λh' eb=>⟨rfl,I.turned (t':=s.toks) (λb o hb e=>eb b o hb e) f0 f1 f3 f4 f5⟩
 self:=λ_ _ _ _ _ st h=>wpAny_pyIter_tupleiter st h
theorem rY{P:Fk}{w:World}{K:AT}{tg:Expr}(it:Addr)(lo:Int)(n:Nat):Turn P w K tg (Fb lo n) [it] it (λi h=>IsRangeIter h it (lo+(i:Nat)*1) ((n:Int)-(i:Nat)) 1) where
 mem:=by simp
 obj:=λi h st b hb=>by
  have e:b=it:=by simpa using hb
  subst e;exact⟨_,st,λv z=>by
   have z':Data.fields _=Data.cell v:=z;cases z'⟩
 keep:=λi h h' st k=>k it (by simp) _ st
 item:=by
  intro X hP hw hK hc i pins s σ H E I hf st hg;subst hP hw hK;obtain⟨f0,f1,f2,f3,f4,f5⟩:=hf it (by simp)
  have W:=Walks.range (prog:=X.prog) (w:=X.w) (I.ok.hd hc) it lo 1 n;refine W.item i s _ _ hg st λv h' tk hv st' kk=>?_
  obtain⟨t,rfl⟩:=hv;have I1:Inv X pins σ H { s with heap:=h',toks:=tk }:=I.turned (λb o hb e=>kk b o (by simpa using hb) e) f0 f1 f3 f4 f5
  refine⟨_,rfl,xu (s:={ s with heap:=h',toks:=tk }) (n := "range_iterator") st' rfl rfl (by decide) ⟨.int (lo+i),H,I1,⟨t,?_⟩,⟨rfl,rfl⟩,st',λb hb=>(hf b hb).1⟩⟩
  rw[Int.mul_one]
 done:=by
  intro X hP hw hK hc i pins s σ H E I hf st hg;subst hP hw hK;obtain⟨f0,f1,f2,f3,f4,f5⟩:=hf it (by simp)
  exact wpAny_pyNext_range_end (I.ok.hd hc) st (by have:n<=i:=hg; lia) λh' eb=>⟨rfl,I.turned (t':=s.toks) (λb o hb e=>eb b o hb e) f0 f1 f3 f4 f5⟩
 self:=λ_ _ _ _ _ st h=>wpAny_pyIter_rangeiter st h
end L2
namespace L2
open PySem PySem.Spec PyProof.Rows
section
variable{X:Cx}{tg:Expr}
noncomputable def xw(K:AT)(tl:TE):TI:=λσ H R=>tl σ H λx H1=>∃a,x=.ref a/\(∃xs,fj K H1 a xs)/\R (Fv K a) H1
noncomputable def iTup(K:AT)(tl:TE):TI:=λσ H R=>tl σ H λx H1=>∃a,x=.ref a/\(∃xs,cI K H1 a xs)/\R (Gg K a) H1
theorem t9{l:Expr}{tl:TE}(hl:PE X l tl):PI X tg l (xw X.K tl):=by
 intro pins s σ H R I h;refine aZ (hl pins s σ H _ I h) λv s1 ⟨x,H1,I1,r1,q1⟩=>?_
 obtain⟨a,e,⟨xs,hq⟩,q⟩:=q1;subst e;cases r1;obtain⟨its,rv,p,hz⟩:=I1.list hq;refine Na p.isList ?_;refine⟨s1.heap.objs.size,[s1.heap.objs.size],_,_,H1,rfl,I1.kept (t':=s1.toks) λb o e=>Ap _ e,vo a _,⟨_,Ee _ rfl,rfl,rfl⟩,λb hb=>?_,q⟩
 have e:b=s1.heap.objs.size:=by simpa using hb
 subst e;exact I1.vn (Db _) (I1.hok.fresh (Db _))
theorem CK{l:Expr}{tl:TE}(hl:PE X l tl):PI X tg l (iTup X.K tl):=by
 intro pins s σ H R I h;refine aZ (hl pins s σ H _ I h) λv s1 ⟨x,H1,I1,r1,q1⟩=>?_
 obtain⟨a,e,⟨xs,hq⟩,q⟩:=q1;subst e;cases r1;obtain⟨its,rv,p,hz⟩:=I1.tuple hq;refine Ji (show s1.heap.IsTuple a its.toArray from p) ?_
 refine⟨s1.heap.objs.size,[s1.heap.objs.size],_,_,H1,rfl,I1.kept (t':=s1.toks) λb o e=>Ap _ e,rX a _,⟨_,Ee _ rfl,rfl,rfl⟩,λb hb=>?_,q⟩
 have e:b=s1.heap.objs.size:=by simpa using hb
 subst e;exact I1.vn (Db _) (I1.hok.fresh (Db _))
theorem qm{pins:List (Addr×Obj)}{σ:St}{H:Hp}{s:B2}{R:It->Hp->Prop}{E:Value->B2->Prop}{lo hi:Int}{t u v:Tok}{tk:Nat}(I:Inv X pins σ H s)(h1 : -(2 ^ 62)<=lo)(h2:lo<2 ^ 62)(h3 : -(2 ^ 62)<=hi)(h4:hi<2 ^ 62)
  (q:R (Fb lo (hi-lo).toNat) H):wpAny (model X.prog X.w) X.A (MM (.ref s.heap.objs.size)) (GH X pins σ tg R) E { s with heap:=s.heap.push { cls:=.type "range",data:=.fields #[.int lo t,.int hi u,.int 1 v] },toks:=tk }:=by
 refine wpAny_pyIter_range (IsRange.new ..) (small_one h1 h2 h3 h4) ?_;have I1:Inv X pins σ H { s with heap:=s.heap.push { cls:=.type "range",data:=.fields #[.int lo t,.int hi u,.int 1 v] },toks:=tk }:=I.kept λb o e=>Ap _ e
 refine⟨(s.heap.push { cls:=.type "range",data:=.fields #[.int lo t,.int hi u,.int 1 v] }).objs.size,[(s.heap.push { cls:=.type "range",data:=.fields #[.int lo t,.int hi u,.int 1 v] }).objs.size],_,_,H,rfl,
  I1.kept (t':=tk) λb o e=>Ap _ e,rY _ lo (hi-lo).toNat,?_,λb hb=>?_,q⟩
 ·have e1:lo+((0:Nat):Int)*1=lo:=by simp
  have e2:(((hi-lo).toNat:Nat):Int)-((0:Nat):Int)=Builtin.Range.rangeSize lo hi 1:=by rw[rangeSize_one]; split <;> lia
  show IsRangeIter _ _ (lo+((0:Nat):Int)*1) ((((hi-lo).toNat:Nat):Int)-((0:Nat):Int)) 1;rw[e1,e2];exact Ee _ rfl
 ·have e:b=(s.heap.push { cls:=.type "range",data:=.fields #[.int lo t,.int hi u,.int 1 v] }).objs.size:=by simpa using hb
  subst e;exact I1.vn (Db _) (I1.hok.fresh (Db _))
noncomputable def iRng1(ta:TA):TI:=λσ H R=>ta σ H λvs H1=>∃j:Int,vs=[.int j]/\-(2 ^ 62)<=j/\j<2 ^ 62/\R (Fb 0 j.toNat) H1
noncomputable def iRng2(ta:TA):TI:=λσ H R=>ta σ H λvs H1=>∃i j:Int,vs=[.int i,.int j]/\(-(2 ^ 62)<=i/\i<2 ^ 62/\-(2 ^ 62)<=j/\j<2 ^ 62)/\R (Fb i (j-i).toNat) H1
theorem vp{a:Expr}{ta:TA}{p pos:Pos}(hg:Gl X "range")(hm:X.mg "range" = none)(ha:PA X [a] ta)(hs:FK [a] X.env=[(false,eval a X.env)]:=by rfl):PI X tg (.Call (.Name "range" p) [a] [] pos) (iRng1 ta):=by
 intro pins s σ H R I h;refine Call_ (eB I hg hm boot_range (JA (aZ (ha pos pins s σ H _ I h) λus s1 ⟨vs,H1,I1,r1,q1⟩=>?_) hs rfl))
 obtain⟨j,e,q1,q2,q⟩:=q1;subst e;cases r1 with
 |cons r rr=>
  cases rr;obtain⟨t,rfl⟩:=r;exact call_range_1 (qm I1 (by lia) (by lia) q1 q2 (by simpa using q))
theorem vq{a b:Expr}{ta:TA}{p pos:Pos}(hg:Gl X "range")(hm:X.mg "range" = none)(ha:PA X [a,b] ta)(hs:FK [a,b] X.env=[(false,eval a X.env),(false,eval b X.env)]:=by rfl)(hs2:FK [b] X.env=[(false,eval b X.env)]:=by rfl) :
  PI X tg (.Call (.Name "range" p) [a,b] [] pos) (iRng2 ta):=by
 intro pins s σ H R I h;refine Call_ (eB I hg hm boot_range (JA (aZ (ha pos pins s σ H _ I h) λus s1 ⟨vs,H1,I1,r1,q1⟩=>?_) (by rw[hs,hs2]) (by rw[hs2]; rfl)))
 obtain⟨i,j,e,⟨q1,q2,q3,q4⟩,q⟩:=q1;subst e;cases r1 with
 |cons r rr=>
  cases rr with
  |cons r' rr=>
   cases rr;obtain⟨t,rfl⟩:=r;obtain⟨t',rfl⟩:=r';exact call_range_2 (qm I1 q1 q2 q3 q4 q)
noncomputable def tFor(wi:TI)(g:TG)(tb:TS):TS:=λD σ H=>wi σ H λJ H1=>∃W:Nat->Nat->St->Hp->Prop,(∃m,W 0 m σ H1)/\∀i m σ H,W i m σ H ->
 (J.stop i H/\D.nx σ H)\/(J.go i H/\∃N:St->Hp->Prop,(∀σ' H',N σ' H'->∃m',m'<m/\W (i+1) m' σ' H')/\∀x H',J.yld i H x H'->g x σ H' λσ2 H2=>tb { D with nx:=N,ct:=N,bk:=D.nx } σ2 H2)
noncomputable def jN(fp:List Addr)(h:Heap):List (Addr×Obj):=fp.filterMap λb=>(h.get? b).map λo=>(b,o)
theorem dh{fp:List Addr}{h:Heap}{b:Addr}{o:Obj}(hb:b∈fp)(e:h.get? b=some o):(b,o)∈jN fp h:=LQ.mpr ⟨b,hb,by rw[e]; rfl⟩
theorem vt{fp:List Addr}{h:Heap}{p:Addr×Obj}(hp:p∈jN fp h):p.1∈fp/\h.get? p.1=some p.2:=by
 obtain⟨b,hb,e⟩:=LQ.mp hp;cases q:h.get? b with
 |none=>rw[q] at e; cases e
 |some o=>
  rw[q] at e;have e':(b,o)=p:=Fu e;subst e';exact⟨hb,q⟩
theorem Inv.pinned{pins:List (Addr×Obj)}{σ:St}{H:Hp}{s:B2}{fp:List Addr}(I:Inv X pins σ H s)(hf:∀b∈fp,gG X pins H b)(ho:∀b∈fp,∃o,s.heap.get? b=some o/\∀v,o.data≠.cell v):Inv X (pins++jN fp s.heap) σ H s :=
 I.t7 λp hp=>(lM hp).elim (λz=>I.pin p (lR _ z)) λz=>by
  obtain⟨hb,e⟩:=vt z;obtain⟨f0,f1,f2,_⟩:=hf p.1 hb;obtain⟨o,e',d⟩:=ho p.1 hb;rw[e] at e'; cases e';exact⟨e,f0,f1,f2,d⟩
theorem Inv.gM{pins pl:List (Addr×Obj)}{σ:St}{H:Hp}{s:B2}(I:Inv X (pins++pl) σ H s):Inv X pins σ H s:=I.t7 λp hp=>I.pin p (lR _ (lL _ hp))
theorem CL{iter:Expr}{body:List Stmt}{wi:TI}{g:TG}{tb:TS}{pos:Pos}(hp:My (model X.prog X.w) X.A X.env X.xe)(hc:X.calm=true)(hi:PI X tg iter wi)(hg:PG X tg g)(hb:rS X body tb)
  (hs:∀x,HG iter X.env x=pure x:=by intro _; rfl):PS X (.For tg iter body [] pos) (tFor wi g tb):=by
 intro pins s σ H D I h;refine wpAny_For (aZ (hi pins s σ H _ I h) λv s1 h1=>aZ h1 λitv s2 h2=>?_) hs
 obtain⟨it,fp,tn,J,H2,e,I2,T,st2,f2,W,⟨m0,w0⟩,turn⟩:=h2;subst e;have stat:∀{H':Hp},(∀b∈fp,H' b=none)->∀b∈fp,gG X pins H' b:=λhn b hb=>⟨hn b hb,(f2 b hb).2⟩
 refine codeAny_forLoop_any (λn s'=>∃i σ' H',Inv X pins σ' H' s'/\tn i s'.heap/\(∀b∈fp,H' b=none)/\W i n σ' H') ?_ m0 ⟨0,σ,H2,I2,st2,λb hb=>(f2 b hb).1,w0⟩
 rintro n s3 ⟨i,σ3,H3,I3,st3,fr3,w3⟩;rcases turn i n σ3 H3 w3 with⟨stop,qn⟩ | ⟨go,N,hN,step⟩
 ·refine KQ hp (aZ (T.done X rfl rfl rfl hc i pins s3 σ3 H3 X.xe I3 (stat fr3) st3 stop) λr s4 ⟨hr,I4⟩=>?_)
  subst hr;exact MS ⟨σ3,H3,I4,qn⟩
 ·refine KQ hp (aZ (T.item X rfl rfl rfl hc i pins s3 σ3 H3 X.xe I3 (stat fr3) st3 go) λr s4 ⟨u,hr,h4⟩=>?_)
  subst hr;refine KQ hp (aZ h4 λ_ s5 ⟨x,H5,I5,r5,y5,st5,fr5⟩=>?_)
  have I5':=I5.pinned (stat fr5) (T.obj _ _ st5);refine KQ hp (aZ (hg _ s5 σ3 H5 x u _ I5' r5 (step x H5 y5)) λ_ s6 ⟨σ6,H6,I6,q6⟩=>?_)
  refine KQ hp (aZ (hb _ s6 σ6 H6 _ I6 q6) λf s7 q7=>?_)
  have again:∀{σ7:St}{H7:Hp},Inv X (pins++jN fp s5.heap) σ7 H7 s7->N σ7 H7->∃m,m<n/\∃i σ' H',Inv X pins σ' H' s7/\tn i s7.heap/\(∀b∈fp,H' b=none)/\W i m σ' H':=λ{σ7 H7}I7 n7=>by
   obtain⟨m',hm,w7⟩:=hN σ7 H7 n7;refine⟨m',hm,i+1,σ7,H7,I7.gM,T.keep _ _ _ st5 λb hb o e=>(I7.pin (b,o) (lR _ (lR _ (dh hb e)))).1,λb hb=>?_,w7⟩
   obtain⟨o,e,d⟩:=T.obj _ _ st5 b hb;exact(I7.pin (b,o) (lR _ (lR _ (dh hb e)))).2.1
  cases f with
  |next=>obtain⟨σ7,H7,I7,n7⟩:=q7; exact again I7 n7
  |cont=>obtain⟨σ7,H7,I7,n7⟩:=q7; exact again I7 n7
  |brk=>obtain⟨σ7,H7,I7,q7⟩:=q7; exact⟨σ7,H7,I7.gM,q7⟩
  |ret v=>obtain⟨x7,σ7,H7,I7,r7,q7⟩:=q7; exact⟨x7,σ7,H7,I7.gM,r7,q7⟩
end
end L2
namespace L2
open PySem PySem.Spec PyProof.Rows
abbrev R2:=V->V->Hp->VK->Prop
def dO(X:Cx)(f:Value->Value->Sem Value)(r:R2):Prop :=
 ∀(pins:List (Addr×Obj))(s:B2)(σ:St)(H:Hp)(x y:V)(v u:Value)(Q:VK),Inv X pins σ H s->RelV x v->RelV y u->r x y H Q ->
  wpAny (model X.prog X.w) X.A (f v u) (EP X pins σ Q) X.xe s
def Gh(X:Cx)(f:Value->Sem Value)(r:V->Hp->VK->Prop):Prop :=
 ∀(pins:List (Addr×Obj))(s:B2)(σ:St)(H:Hp)(x:V)(v:Value)(Q:VK),Inv X pins σ H s->RelV x v->r x H Q ->
  wpAny (model X.prog X.w) X.A (f v) (EP X pins σ Q) X.xe s
def bY(X:Cx)(f:Value)(r:List V->Hp->VK->Prop):Prop :=
 ∀(pins:List (Addr×Obj))(s:B2)(σ:St)(H:Hp)(xs:List V)(us:List Value)(Q:VK),Inv X pins σ H s->Vals xs us->r xs H Q ->
  wpAny (model X.prog X.w) X.A (call f us) (EP X pins σ Q) X.xe s
def TruR(X:Cx)(r:V->Hp->(Bool->Hp->Prop)->Prop):Prop :=
 ∀(pins:List (Addr×Obj))(s:B2)(σ:St)(H:Hp)(x:V)(v:Value)(Q:Bool->Hp->Prop),Inv X pins σ H s->RelV x v->r x H Q ->
  wpAny (model X.prog X.w) X.A (truthy v) (TP X pins σ Q) X.xe s
noncomputable def B4(r:R2)(ta tb:TE):TE:=λσ H Q=>ta σ H λx H1=>tb σ H1 λy H2=>r x y H2 Q
noncomputable def Hq(r:V->Hp->VK->Prop)(ta:TE):TE:=λσ H Q=>ta σ H λx H1=>r x H1 Q
noncomputable def rI(C:Int->Int->Prop)(g:Int->Int->V):R2:=λx y H Q=>∃i j,x=.int i/\y=.int j/\C i j/\Q (g i j) H
noncomputable def B5(g:Int->Int->V):R2:=λx y H Q=>∃i j,x=.int i/\y=.int j/\Q (g i j) H
def rU(g:Int->V):V->Hp->VK->Prop:=λx H Q=>∃i,x=.int i/\Q (g i) H
section
variable{X:Cx}{a b c:Expr}{ta tb tc:TE}{pos:Pos}
theorem binT(ha:PE X a ta)(hb:PE X b tb){pins:List (Addr×Obj)}{s:B2}{σ:St}{H:Hp}{R:V->V->Hp->Prop}(I:Inv X pins σ H s)
  (h:ta σ H λx H1=>tb σ H1 λy H2=>R x y H2) {Q:Value->B2->Prop} {f:Value->Value->Sem Value}
  (hf:∀v u s2 x y H2,Inv X pins σ H2 s2->RelV x v->RelV y u->R x y H2->wpAny (model X.prog X.w) X.A (f v u) Q X.xe s2) :
  wpAny (model X.prog X.w) X.A (eval a X.env) (λv s₁=>wpAny (model X.prog X.w) X.A (eval b X.env) (λu s₂=>wpAny (model X.prog X.w) X.A (f v u) Q X.xe s₂) X.xe s₁) X.xe s:=by
 refine aZ (ha pins s σ H _ I h) λv s1 ⟨x,H1,I1,r1,q1⟩=>?_
 refine aZ (hb pins s1 σ H1 _ I1 q1) λu s2 ⟨y,H2,I2,r2,q2⟩=>?_
 exact hf v u s2 x y H2 I2 r1 r2 q2
theorem pe_op{op:Mn}{r:R2}(ho:dO X (J9 op) r)(ha:PE X a ta)(hb:PE X b tb):PE X (.BinOp a op b pos) (B4 r ta tb):=by
 intro pins s σ H Q I h;exact wpAny_BinOp (binT ha hb I h λv u s2 x y H2 I2 rx ry q=>ho pins s2 σ H2 x y v u Q I2 rx ry q)
theorem pe_un{op:UnaryOp}{r:V->Hp->VK->Prop}(ho:Gh X (unaryOp op) r)(ha:PE X a ta):PE X (.UnaryOp op a pos) (Hq r ta):=by
 intro pins s σ H Q I h;exact UnaryOp_ (aZ (ha pins s σ H _ I h) λv s1 ⟨x,H1,I1,r1,q1⟩=>ho pins s1 σ H1 x v Q I1 r1 q1)
theorem Fc{f:Value->Value->Sem Value}{C:Int->Int->Prop}{g:Int->Int->Int}
  (rule:∀(i j:Int)(t u:Tok)(s:B2)(Q:Value->B2->Prop)(E:Value->B2->Prop),C i j->Q (.int (g i j) s.toks) { s with toks:=s.toks+1 }->wpAny (model X.prog X.w) X.A (f (.int i t) (.int j u)) Q E s) :
  dO X f (rI C λi j=>.int (g i j)):=by
 intro pins s σ H x y v u Q I rx ry h;obtain⟨i,j,rfl,rfl,hc,q⟩:=h;obtain⟨t,rfl⟩:=rx;obtain⟨t',rfl⟩:=ry;exact rule i j t t' s _ _ hc ⟨.int (g i j),H,I.tok _,⟨_,rfl⟩,q⟩
theorem opI0{f:Value->Value->Sem Value}{g:Int->Int->Int}
  (rule:∀(i j:Int)(t u:Tok)(s:B2)(Q:Value->B2->Prop)(E:Value->B2->Prop),Q (.int (g i j) s.toks) { s with toks:=s.toks+1 }->wpAny (model X.prog X.w) X.A (f (.int i t) (.int j u)) Q E s) :
  dO X f (B5 λi j=>.int (g i j)):=by
 intro pins s σ H x y v u Q I rx ry h;obtain⟨i,j,rfl,rfl,q⟩:=h;obtain⟨t,rfl⟩:=rx;obtain⟨t',rfl⟩:=ry;exact rule i j t t' s _ _ ⟨.int (g i j),H,I.tok _,⟨_,rfl⟩,q⟩
theorem opB0{f:Value->Value->Sem Value}{g:Int->Int->Bool}
  (rule:∀(i j:Int)(t u:Tok)(s:B2)(Q:Value->B2->Prop)(E:Value->B2->Prop),Q (.bool (g i j)) s->wpAny (model X.prog X.w) X.A (f (.int i t) (.int j u)) Q E s) :
  dO X f (B5 λi j=>.bl (g i j)):=by
 intro pins s σ H x y v u Q I rx ry h;obtain⟨i,j,rfl,rfl,q⟩:=h;obtain⟨t,rfl⟩:=rx;obtain⟨t',rfl⟩:=ry;exact rule i j t t' s _ _ ⟨.bl (g i j),H,I,rfl,q⟩
def CDiv(i j:Int):Prop:=0<j/\j<1073741824
def CMul(i j:Int):Prop:=(-(2 ^ 64)<i/\i<2 ^ 64)\/(-(2 ^ 64)<j/\j<2 ^ 64)
theorem CMul.ok{i j:Int}(h:CMul i j):IntMulOk i j:=by
 rcases h with⟨h1,h2⟩ | ⟨h1,h2⟩
 ·exact .of_left (intBits_le_64 h1 h2)
 ·exact .of_right (intBits_le_64 h1 h2)
theorem CM:dO X (J9 .Add) (B5 λi j=>.int (i+j)):=opI0 λ_ _ _ _ _ _ _ q=>add_int q
theorem CN:dO X (J9 .Sub) (B5 λi j=>.int (i-j)):=opI0 λ_ _ _ _ _ _ _ q=>sub_int q
theorem CO:dO X (J9 .Mult) (rI CMul λi j=>.int (i*j)):=Fc λ_ _ _ _ _ _ _ hc q=>mul_int q hc.ok
theorem Af:dO X (J9 .FloorDiv) (rI CDiv λi j=>.int (i / j)):=Fc λi j _ _ _ _ _ hc q=>by
 have h1:(0:Int)<j:=hc.1;have h2:j<1073741824:=hc.2;exact floordiv_int (by lia) (by rw[Int.fdiv_eq_ediv_of_nonneg i (by lia)]; exact q) (.inl (PyProof.noPylong_small (by lia)))
theorem CP:dO X (J9 .Mod) (rI (λ_ j=>0<j) λi j=>.int (i % j)):=Fc λi j _ _ _ _ _ hc q=>by
 have h1:(0:Int)<j:=hc;exact mod_int' (by lia) (by rw[Int.fmod_eq_emod_of_nonneg i (by lia)]; exact q)
theorem Hr{f:Value->Sem Value}{g:Int->Int}
  (rule:∀(i:Int)(t:Tok)(s:B2)(Q:Value->B2->Prop)(E:Value->B2->Prop),Q (.int (g i) s.toks) { s with toks:=s.toks+1 }->wpAny (model X.prog X.w) X.A (f (.int i t)) Q E s) :
  Gh X f (rU λi=>.int (g i)):=by
 intro pins s σ H x v Q I rx h;obtain⟨i,rfl,q⟩:=h;obtain⟨t,rfl⟩:=rx;exact rule i t s _ _ ⟨.int (g i),H,I.tok _,⟨_,rfl⟩,q⟩
theorem CQ:Gh X (unaryOp .USub) (rU λi=>.int (-i)):=Hr λ_ _ _ _ _ q=>neg_int q
end
section
variable{X:Cx}{a b c:Expr}{ta tb tc:TE}{pos:Pos}
theorem rZ{pins:List (Addr×Obj)}{σ:St}{H:Hp}{s:B2}{Q:VK}{k k':Bool}(I:Inv X pins σ H s)(q:Q (.bl k) H)(e:k=k'):EP X pins σ Q (.bool k') s:=by
 subst e;exact⟨.bl k,H,I,rfl,q⟩
theorem op_lt:dO X (IG .Lt) (B5 λi j=>.bl (decide (i<j))):=opB0 λ_ _ _ _ _ _ _ q=>PM q
theorem op_gt:dO X (IG .Gt) (B5 λi j=>.bl (decide (j<i))):=opB0 λ_ _ _ _ _ _ _ q=>gt_int q
theorem op_ge:dO X (IG .GtE) (B5 λi j=>.bl (decide (j<=i))):=opB0 λ_ _ _ _ _ _ _ q=>QT q
theorem nR:dO X (IG .In) (λx y H Q=>∃i j,x=.str i/\y=.str j/\Q (.bl (!(Ja j i 0 j.length 1).isEmpty)) H):=by
 intro pins s σ H x y v u Q I rx ry h;obtain⟨i,j,rfl,rfl,q⟩:=h;obtain⟨t,rfl⟩:=rx;obtain⟨t',rfl⟩:=ry;exact in_str (rZ I q rfl)
theorem CS:dO X (IG .Is) (λx y H Q=>y=.non/\Q (.bl (decide (x=.non))) H):=by
 intro pins s σ H x y v u Q I rx ry h;obtain⟨rfl,q⟩:=h;cases ry;refine is_none_gen (rZ I q ?_);cases x <;> first
  |(cases rx; rfl)
  |(obtain⟨t,rfl⟩:=rx; rfl)
theorem oZ:dO X (IG .NotIn) (λx y H Q=>∃i j,x=.str i/\y=.str j/\Q (.bl (!(!(Ja j i 0 j.length 1).isEmpty))) H):=by
 intro pins s σ H x y v u Q I rx ry h;obtain⟨i,j,rfl,rfl,q⟩:=h;obtain⟨t,rfl⟩:=rx;obtain⟨t',rfl⟩:=ry;exact notIn_str (rZ I q rfl)
theorem bO(b:Expr){op:CmpOp}(h:op≠.In:=by decide)(h2:op≠.NotIn:=by decide):IY op b=false:=by
 have e1:(op == CmpOp.In)=false:=by cases op <;> first | rfl | exact absurd rfl h
 have e2:(op == CmpOp.NotIn)=false:=by cases op <;> first | rfl | exact absurd rfl h2
 cases b <;> simp[IY,e1,e2]
theorem o4{op:CmpOp}{r:R2}(ho:dO X (IG op) r)(ha:PE X a ta)(hb:PE X b tb)(hm:IY op b=false):PE X (.Compare a [op] [b] pos) (B4 r ta tb):=by
 intro pins s σ H Q I h;exact wpAny_Compare1 (binT ha hb I h λv u s2 x y H2 I2 rx ry q=>ho pins s2 σ H2 x y v u Q I2 rx ry q) hm
noncomputable def tTest(t:TE):TT:=λσ H Q=>t σ H λx H'=>∃k,x=.bl k/\Q k H'
theorem i9{op:CmpOp}{r:R2}(ho:dO X (IG op) r)(ha:PE X a ta)(hb:PE X b tb)(hm:IY op b=false):PT X (.Compare a [op] [b] pos) (tTest (B4 r ta tb)):=by
 intro pins s σ H Q I h;refine Px (aZ (ha pins s σ H _ I h) λv s1 ⟨x,H1,I1,r1,q1⟩=>aZ (hb pins s1 σ H1 _ I1 q1) λu s2 ⟨y,H2,I2,r2,q2⟩=>
  aZ (ho pins s2 σ H2 x y v u _ I2 r1 r2 q2) λc s3 ⟨z,H3,I3,r3,k,e,q3⟩=>?_) hm
 subst e;cases r3;exact Jz ⟨H3,I3,q3⟩
def TruV(K:AT)(x:V)(H:Hp)(k:Bool):Prop :=
 match x with
 |.non=>k=false
 |.bl b=>k=b
 |.int i=>k=(i != 0)
 |.str y=>y.length<=FX/\k=((y.length:Int) != 0)
 |.byt y=>y.size<=FX/\k=((y.size:Int) != 0)
 |.ref p=>(∃xs,fj K H p xs/\k = !xs.isEmpty)\/(∃xs,cI K H p xs/\k = !xs.isEmpty)\/∃kvs,H p=some (.dK kvs)/\k = !kvs.isEmpty
 |_=>False
theorem r6{κ:Type}{kvs:List (κ×V)}{vs:List (κ×Value)}(r:KV kvs vs):(!vs.isEmpty) = !kvs.isEmpty:=by
 cases r <;> rfl
theorem kR{xs:List V}{its:List Value}(r:Vals xs its):(!its.toArray.isEmpty) = !xs.isEmpty:=by
 cases r <;> simp
theorem iO:(FX:Nat)<2 ^ 63:=by rw[IC]; decide
theorem CT:TruR X (λx H Q=>∃k,TruV X.K x H k/\Q k H):=by
 intro pins s σ H x v Q I rx h;obtain⟨k,e,q⟩:=h;have hl:=iO;have hs:FX=16777216:=IC;cases x with
 |non=>
  cases rx;have e':k=false:=e;subst e';exact truthy_none ⟨H,I,q⟩
 |bl b=>
  cases rx;have e':k=b:=e;subst e';exact Jz ⟨H,I,q⟩
 |int i=>
  obtain⟨t,rfl⟩:=rx;have e':k=(i != 0):=e;subst e';exact PySem.P.truthy_int ⟨H,I,q⟩
 |str y=>
  obtain⟨t,rfl⟩:=rx;obtain⟨hy,e'⟩:y.length<=FX/\k=((y.length:Int) != 0):=e;subst e';exact PySem.P.truthy_str (by lia) ⟨H,I.tok _,q⟩
 |byt y=>
  obtain⟨t,rfl⟩:=rx;obtain⟨hy,e'⟩:y.size<=FX/\k=((y.size:Int) != 0):=e;subst e';exact PySem.W.truthy_bytes (by lia) ⟨H,I.tok _,q⟩
 |ref p=>
  cases rx;have e':(∃xs,fj X.K H p xs/\k = !xs.isEmpty)\/(∃xs,cI X.K H p xs/\k = !xs.isEmpty)\/∃kvs,H p=some (.dK kvs)/\k = !kvs.isEmpty:=e;rcases e' with⟨xs,hx,e'⟩ | ⟨xs,hx,e'⟩ | ⟨kvs,hx,e'⟩
  ·subst e'
   obtain⟨its,r,pl,hz⟩:=I.list hx;have hlen:=r.length;exact wpAny_truthy_list pl.isList (by simp only[Do]; lia) ⟨H,I.tok _,by rw[kR r]; exact q⟩
  ·subst e'
   obtain⟨its,r,pl,hz⟩:=I.tuple hx;have hlen:=r.length;exact truthy_tuple pl (by simp only[Do]; lia) ⟨H,I.tok _,by rw[kR r]; exact q⟩
  ·subst e'
   obtain⟨hz,hS,vs,r,m⟩:kvs.length<=FX/\(p == KI)=false/\∃vs,KV kvs vs/\s.heap.DictOf (aV X.prog X.w) p vs:=I.hok p _ hx;have hlen:kvs.length=vs.length:=Jq r;exact wpAny_truthy_dict hS m (by lia) ⟨H,I.tok _,by rw[r6 r]; exact q⟩
 |_=>exact(show False from e).elim
theorem xx(ha:PE X a ta)(he:∀whole,OT a X.env whole=(do let v <-whole; KJ a.pos; L3 [v] (truthy v))) :
  PT X a (λσ H Q=>ta σ H λx H'=>∃k,TruV X.K x H' k/\Q k H'):=by
 intro pins s σ H Q I h;exact isTrue_plain (aZ (ha pins s σ H _ I h) λv s1 ⟨x,H1,I1,r1,q1⟩=>CT pins s1 σ H1 x v Q I1 r1 q1) (he _)
theorem r8:dO X (J9 .Add) (λx y H Q=>∃i j,x=.str i/\y=.str j/\i.length+j.length<=FX/\Q (.str (i++j)) H):=by
 intro pins s σ H x y v u Q I rx ry h;obtain⟨i,j,rfl,rfl,hz,q⟩:=h;obtain⟨t,rfl⟩:=rx;obtain⟨t',rfl⟩:=ry;exact add_str (λt' tk=>⟨.str (i++j),H,I.tok _,⟨_,rfl⟩,q⟩) hz
theorem vals1{x:V}{us:List Value}(r:Vals [x] us):∃u,us=[u]/\RelV x u:=by
 cases r with
 |cons r1 r2=>cases r2; exact⟨_,rfl,r1⟩
theorem vals2{x y:V}{us:List Value}(r:Vals [x,y] us):∃u w',us=[u,w']/\RelV x u/\RelV y w':=by
 cases r with
 |cons r1 r2=>
  cases r2 with
  |cons r3 r4=>cases r4; exact⟨_,_,rfl,r1,r3⟩
theorem xy:bY X (.builtin "abs") (λxs H Q=>∃i,xs=[.int i]/\Q (.int (if i<0 then -i else i)) H):=by
 intro pins s σ H xs us Q I r h;obtain⟨i,rfl,q⟩:=h;obtain⟨u,rfl,t,rfl⟩:=vals1 r;exact call_abs_int λu tk=>⟨.int (if i<0 then -i else i),H,I.tok _,⟨_,rfl⟩,q⟩
theorem nS:bY X (.type "int") (λxs H Q=>(∃i,xs=[.int i]/\Q (.int i) H)\/∃k,xs=[.bl k]/\Q (.int (if k then 1 else 0)) H):=by
 intro pins s σ H xs us Q I r h;rcases h with⟨i,rfl,q⟩ | ⟨k,rfl,q⟩
 ·obtain⟨u,rfl,t,rfl⟩:=vals1 r
  exact call_int_int ⟨.int i,H,I,⟨_,rfl⟩,q⟩
 ·obtain⟨u,rfl,r1⟩:=vals1 r
  cases r1;exact call_int_bool ⟨.int (if k then 1 else 0),H,I.tok _,⟨_,rfl⟩,q⟩
end
end L2
namespace L2
open PySem PySem.Spec PyProof.Rows
theorem nj.some_of{v:V}{o:Option Value}(r:nj (some v) o):∃u,o=some u/\RelV v u:=by
 cases o with
 |none=>exact(show False from r).elim
 |some u=>exact⟨u,rfl,r⟩
end L2
namespace L2
open PySem PySem.Spec PyProof.Rows
structure eY(k:Nat)(A:HN):Prop where
 hd:A.handled=none
 dp:A.depth+3*k+5<recursionLimit
 un:A.units+16*k+200<cLine
 gd:A.guards=some []
theorem eY.mono{j k:Nat}{A:HN}(r:eY k A)(h:j<=k):eY j A:=⟨r.hd,by have:=r.dp; lia,by have:=r.un; lia,r.gd⟩
theorem eY.deeper{k:Nat}{A:HN}(r:eY (k+1) A)(env:Env):eY k (A.deeper env) :=
 ⟨r.hd,by have:=r.dp; show A.depth+1+3*k+5<_; lia,by have:=r.un; show A.units+3+16*k+200<_; lia,r.gd⟩
theorem eY.depth{k:Nat}{A:HN}(r:eY k A):A.depth<recursionLimit:=by have:=r.dp; lia
theorem eY.units{k:Nat}{A:HN}(r:eY k A):A.units+64<cLine:=by have:=r.un; lia
noncomputable def tNil:TA:=λ_ H Q=>Q [] H
noncomputable def B6(ta:TE)(tr:TA):TA:=λσ H Q=>ta σ H λx H1=>tr σ H1 λxs H2=>Q (x::xs) H2
section
variable{X:Cx}{e:Expr}{es:List Expr}{te:TE}{t:TA}{pos:Pos}
theorem o6:PA X [] tNil:=λ_ _ _ _ H Q I h=>LZ ⟨[],H,I,.nil,h⟩
theorem ja(ha:PE X e te)(hr:PA X es t)(hs:FK (e::es) X.env=(false,eval e X.env)::FK es X.env:=by rfl):PA X (e::es) (B6 te t):=by
 intro pos pins s σ H Q I h;rw[hs];show wpAny _ _ (spliced ((false,eval e X.env)::K6 pos (FK es X.env))) _ _ s;refine MW (aZ (ha pins s σ H _ I h) λu s1 ⟨x,H1,I1,r1,q1⟩=>?_)
 exact aZ (hr pos pins s1 σ H1 _ I1 q1) λus s2 ⟨xs,H2,I2,r2,q2⟩=>⟨x::xs,H2,I2,.cons r1 r2,q2⟩
noncomputable def tTup(t:TA):TE:=λσ H Q=>t σ H λxs H1=>xs.length<=FX/\∀p,H1 p=none->Q (.ref p) (upd H1 p (.tup xs))
noncomputable def tLst(t:TA):TE:=λσ H Q=>t σ H λxs H1=>xs.length<=FX/\∀p,H1 p=none->Q (.ref p) (upd H1 p (.lst xs))
theorem CU{x1}(h:PA X es t):PE X (.Tuple es x1 pos) (tTup t):=by
 intro pins s σ H Q I hq;refine wpAny_Tuple_spliced (aZ (h pos pins s σ H _ I hq) λus s1 ⟨xs,H1,I1,r,z,q⟩=>⟨by rw[<-r.length]; exact z,?_⟩)
 have hf:H1 s1.heap.objs.size=none:=I1.hok.fresh (Db _);refine⟨.ref s1.heap.objs.size,upd H1 s1.heap.objs.size (.tup xs),I1.laid (t':=s1.toks) (λb u e=>Ap _ e) (Db _) ?_,rfl,q _ hf⟩
 exact⟨z,us,r,⟨_,Ee _ rfl,rfl,_,rfl⟩⟩
theorem CV(h:PA X es t):PE X (.List es pos) (tLst t):=by
 intro pins s σ H Q I hq;refine wpAny_List_spliced (aZ (h pos pins s σ H _ I hq) λus s1 ⟨xs,H1,I1,r,z,q⟩=>⟨by rw[<-r.length]; exact z,?_⟩)
 have hf:H1 s1.heap.objs.size=none:=I1.hok.fresh (Db _);refine⟨.ref s1.heap.objs.size,upd H1 s1.heap.objs.size (.lst xs),I1.laid (t':=s1.toks) (λb u e=>Ap _ e) (Db _) ?_,rfl,q _ hf⟩
 exact⟨z,us,0,r,Ee _ rfl⟩
end
abbrev Sp:=List V->Hp->VK->XK->Prop
abbrev wX:=List Env->Hp->B2->XK->Value->B2->Prop
structure Env0(P:Fk)(w:World)(K:AT)(mg:Str->Option Value)(base:Heap)(A:HN)(outer:List Env)(s:B2)(H:Hp):Prop where
 frames:A.frames=some outer
 mod:Mod K mg base
 bs:∀b o,base.get? b=some o->s.heap.get? b=some o/\H b=none
 bsz:base.objs.size<=s.heap.objs.size
 kQ:s.heap.FunFrames base outer
 frf:∀b∈frs outer,H b=none
 hok:iC P w H s.heap
 bare:MR s.gens
def CE(outer:List Env)(P:Fk)(w:World)(H:Hp)(s:B2)(Q:VK)(u:Value)(s':B2):Prop :=
 ∃v H',s'.os=s.os/\MR s'.gens/\Un (frs outer) [] H H' s.heap s'.heap/\iC P w H' s'.heap/\RelV v u/\Q v H'
def CR(CX:wX)(outer:List Env)(P:Fk)(w:World)(H:Hp)(s:B2)(Q:VK)(E:XK)(r:OZ)(s':B2):Prop :=
 match r with
 |.ok (.ret u)=>CE outer P w H s Q u s'
 |.ok _=>False
 |.error e=>CX outer H s E e s'
structure cF(P:Fk)(w:World)(K:AT)(mg:Str->Option Value)(base:Heap)(CX:wX)(k:Nat)(f:Addr)(fd:Jv)(ps:List Str)(sp:Sp):Prop where
 len:∀vs H Q E,sp vs H Q E->vs.length=ps.length
 run:∀(A:HN)(outer:List Env)(s:B2)(H:Hp)(args:Args)(us:List Value)(vs:List V)(Q:VK)(E:XK),eY k A->Env0 P w K mg base A outer s H->OP s fd args (ps.zip us)->Vals vs us->sp vs H Q E ->
  Js (model P w) A (.call (.ref f) args) (CR CX outer P w H s Q E) s
theorem cF.imp{P:Fk}{w:World}{K:AT}{mg:Str->Option Value}{base:Heap}{CX:wX}{k:Nat}{f:Addr}{fd:Jv}{ps:List Str}{sp sp':Sp}(F:cF P w K mg base CX k f fd ps sp)
  (h:∀vs H Q E,sp' vs H Q E->sp vs H Q E):cF P w K mg base CX k f fd ps sp' :=
 ⟨λvs H Q E q=>F.len vs H Q E (h _ _ _ _ q),λA outer s H args us vs Q E hr he hb hv hs=>F.run A outer s H args us vs Q E hr he hb hv (h _ _ _ _ hs)⟩
section
variable{X:Cx}{pins:List (Addr×Obj)}{σ:St}{H:Hp}{s s':B2}
theorem Inv.env0(I:Inv X pins σ H s):Env0 X.prog X.w X.K X.mg X.base X.A X.stack s H :=
 ⟨I.ok.frames,I.ok.mod,I.bs,JF I.ok.bsz I.sz,I.stack,I.t6,I.hok,I.bare⟩
theorem Inv.after{Q:VK}{u:Value}(I:Inv X pins σ H s)(h:CE X.stack X.prog X.w H s Q u s'):EP X pins σ Q u s':=by
 obtain⟨v,H',os,bare,un,hok,r,q⟩:=h;obtain⟨hh,g,d,t,os'⟩:=s';obtain rfl:os'=s.os:=os;exact⟨v,H',I.call (h':=hh) (g':=g) (d':=d) (t':=t) (ch:=[]) un hok bare (λb z=>absurd z (by simp)),r,q⟩
end
noncomputable def xA(sp:Sp)(dvs:List V)(E:XK)(t:TA):TE:=λσ H Q=>t σ H λvs H1=>sp (vs++dvs) H1 Q E
def Binds(K:AT)(fd:Jv)(ps:List Str)(ds:List Value):Prop :=
 ∀(s:B2)(us:List Value),K.In s.heap->(us++ds).length=ps.length->OP s fd ⟨us,[]⟩ (ps.zip (us++ds))
theorem Binds.all{K:AT}{fd:Jv}{ps:List Str}(h:∀us:List Value,us.length=ps.length->bindArgs fd ⟨us,[]⟩=pure (ps.zip us)):Binds K fd ps []:=λs us _ hl=>by
 rw[FB] at hl ⊢;exact .of_eq (h us hl)
def Passes(CX:wX)(X:Cx)(E:XK):Prop:=∀(pins:List (Addr×Obj))(σ:St)(H:Hp)(s:B2)(e:Value)(s':B2),Inv X pins σ H s->CX X.stack H s E e s'->X.xe e s'
section
variable{X:Cx}{CX:wX}{k:Nat}{f C:Addr}{fd:Jv}{ps:List Str}{sp:Sp}{dvs:List V}{ds:List Value}{E:XK}{x m:Str}{p pos apos:Pos}{e o:Expr}{es:List Expr}{ta:TE}{t:TA}
theorem CW{pins:List (Addr×Obj)}{σ:St}{H:Hp}{s:B2}{Q:VK}{us:List Value}{vs:List V}(F:cF X.prog X.w X.K X.mg X.base CX k f fd ps sp)(hr:eY k X.A)(hb:Binds X.K fd ps ds)(hd:Vals dvs ds)(hx:Passes CX X E)
  (I:Inv X pins σ H s) (r:Vals vs us) (h:sp (vs++dvs) H Q E):wpAny (model X.prog X.w) X.A (call (.ref f) us) (EP X pins σ Q) X.xe s:=by
 have r2:Vals (vs++dvs) (us++ds):=r.append hd;have hl:(us++ds).length=ps.length:=by rw[<-r2.length]; exact F.len _ _ _ _ h
 refine wpAny_call (MN (F.run X.A X.stack s H ⟨us,[]⟩ (us++ds) (vs++dvs) Q E hr I.env0 (hb s us I.vm hl) r2 h) λr s' hq=>?_)
 cases r with
 |error e=>exact hx pins σ H s e s' I hq
 |ok fl=>
  cases fl with
  |ret u=>exact I.after hq
  |next=>exact KR hq
  |brk=>exact KR hq
  |cont=>exact KR hq
theorem Ag(F:cF X.prog X.w X.K X.mg X.base CX k f fd ps sp)(hr:eY k X.A)(hg:Gl X x)(hm:X.mg x=some (.ref f))(hk:HY X.K (.ref f)=true)(hb:Binds X.K fd ps ds)(hd:Vals dvs ds)(hx:Passes CX X E)
  (ha:PA X (e::es) t) (hdb:(x == ("__debug__" : Str))=false:=by decide) (he:FK (e::es) X.env=(false,eval e X.env)::FK es X.env:=by rfl) (hpl:(K6 pos (FK es X.env)).any (·.1)=false:=by rfl) :
  PE X (.Call (.Name x p) (e::es) [] pos) (xA sp dvs E t):=by
 intro pins s σ H Q I h;refine Jj (zY I hg hm ?_ hdb);refine PySem.W.callWith_K (h₀:=X.base) I.ok.mod.kin hk (aZ (ha pos pins s σ H _ I h) λus s1 ⟨vs,H1,I1,r,q⟩=>⟨I1.vm,?_⟩) he hpl
 exact CW F hr hb hd hx I1 r q
end
structure aX(N P:List Str)(sc:Scope):Prop where
 kind:sc.kind=.function
 co:sc.isCoroutine=false
 gen:sc.isGenerator=false
 nd:N.Nodup
 pre:N.take P.length=P
 par:∀x∈P,sc.names.lookup x=some .local\/sc.names.lookup x=some .cell
 nofree:∀y∈sc.names,y.2≠.free
theorem nT{kindOf:Str->Option Kc}{x:Str}:∀{binds:List (Str×Value)}{m:Str->Option Value},(∀v,(x,v)∉binds)->bindL kindOf binds m x=m x
 |[],_,_=>rfl
 |(n,v)::r,m,h=>by
  unfold bindL;rw[nT λw hw=>h w (lO _ hw)]
  split
  ·have:x≠n:=by rintro rfl; exact h v lS
   simp[this]
  ·rfl
theorem nU{kindOf:Str->Option Kc}{x:Str}:∀{binds:List (Str×Value)}{m:Str->Option Value},(∀v,(x,v)∉binds)->bindC kindOf binds m x=m x
 |[],_,_=>rfl
 |(n,v)::r,m,h=>by
  unfold bindC;rw[nU λw hw=>h w (lO _ hw)]
  split
  ·rfl
  ·have:x≠n:=by rintro rfl; exact h v lS
   simp[this]
theorem nV{kindOf:Str->Option Kc}{x:Str}{v:Value}:∀{P:List Str}{vs:List Value}{i:Nat}{m:Str->Option Value},P.Nodup->P[i]? = some x->vs[i]? = some v->kindOf x=some .local ->
  bindL kindOf (P.zip vs) m x=some v
 |[],_,_,_,_,h,_,_=>by simp at h
 |_::_,[],_,_,_,_,h,_=>by simp at h
 |p::P,w::vs,0,m,nd,h1,h2,hk=>by
  simp at h1 h2; subst h1; subst h2;show bindL kindOf ((p,w)::P.zip vs) m p=_;unfold bindL;rw[nT λv hv=>(Ha.mp nd).1 (M3 hv).1,if_pos hk]
  simp
 |p::P,w::vs,i+1,m,nd,h1,h2,hk=>by
  show bindL kindOf ((p,w)::P.zip vs) m x=_;unfold bindL;exact nV (i:=i) (Ha.mp nd).2 (by simpa using h1) (by simpa using h2) hk
theorem nW{kindOf:Str->Option Kc}{x:Str}{v:Value}:∀{P:List Str}{vs:List Value}{i:Nat}{m:Str->Option Value},P.Nodup->P[i]? = some x->vs[i]? = some v->kindOf x≠some .local ->
  bindC kindOf (P.zip vs) m x=some v
 |[],_,_,_,_,h,_,_=>by simp at h
 |_::_,[],_,_,_,_,h,_=>by simp at h
 |p::P,w::vs,0,m,nd,h1,h2,hk=>by
  simp at h1 h2; subst h1; subst h2;show bindC kindOf ((p,w)::P.zip vs) m p=_;unfold bindC;rw[nU λv hv=>(Ha.mp nd).1 (M3 hv).1,if_neg hk]
  simp
 |p::P,w::vs,i+1,m,nd,h1,h2,hk=>by
  show bindC kindOf ((p,w)::P.zip vs) m x=_;unfold bindC;exact nW (i:=i) (Ha.mp nd).2 (by simpa using h1) (by simpa using h2) hk
noncomputable def start(N:List Str)(vs:List V):St:=vs.map some++D2 (N.length-vs.length) none
noncomputable def qo(CX:wX)(P:Fk)(w:World)(K:AT)(mg:Str->Option Value)(base:Heap)(N:List Str)(qual:Str)(scope:Scope)(f:Addr)(cd:Value)(A:HN)(outer:List Env)(s:B2)(H:Hp)(E:XK):Cx where
 prog:=P
 w:=w
 K:=K
 mg:=mg
 base:=base
 A:=A.deeper (MQ qual scope s.heap.objs.size f cd)
 N:=N
 s₀:=s
 H₀:=H
 env:=MQ qual scope s.heap.objs.size f cd
 outer:=outer
 stack:=MQ qual scope s.heap.objs.size f cd::outer
 ex:=[]
 calm:=true
 fn:=λ_=>true
 pn:=[]
 xe:=λe s'=>wpAny (model P w) (A.deeper (MQ qual scope s.heap.objs.size f cd)) (leaving (MQ qual scope s.heap.objs.size f cd) e) (λ_ s''=>CX outer H s E e s'') (λe' s''=>CX outer H s E e' s'') s'
theorem qp{sc:Scope}{n:Nat}{x:Str}(h:sc.names.lookup x=some .cell):∃c,(cellsFrom n sc.names []).lookup x=some c:=by
 have q:=O6 sc.names n [] (.inl h);exact La.mp q
theorem vz{CX:wX}{P:Fk}{w:World}{K:AT}{mg:Str->Option Value}{base:Heap}{N ps:List Str}{qual:Str}{scope:Scope}{f:Addr}{cd:Value}{A:HN}{outer:List Env}{s s1:B2}{H:Hp}{E:XK}{us:List Value}{vs:List V}
  (S:aX N ps scope) (hd:A.handled=none) (e0:Env0 P w K mg base A outer s H) (hl:vs.length=ps.length) (r:Vals vs us)
  (x:InCallC s s.heap.objs.size (bindL (MQ qual scope s.heap.objs.size f cd).kindOf (ps.zip us) λ_=>none) (cellsFrom (s.heap.objs.size+1) scope.names []) (bindC (MQ qual scope s.heap.objs.size f cd).kindOf (ps.zip us) λ_=>none) s1) :
  Inv (qo CX P w K mg base N qual scope f cd A outer s H E) [] (start N vs) H s1:=by
 have hpl:ps.length<=N.length:=by have:=congrArg MJ S.pre; rw[Gc] at this; lia
 obtain⟨h1,tk,rfl,hk⟩:=x.done;have noA:∀b:Addr,b∉(qo CX P w K mg base N qual scope f cd A outer s H E).ex:=λb z=>absurd (show b∈([]:List Addr) from z) (by simp)
 refine⟨⟨e0.mod,S.kind,rfl,rfl,Db _,λy z c h1 h2=>?_,λy hy=>?_,λy c _ h=>?_,λ_=>hd,Around.frames_deeper e0.frames,.inr ⟨rfl,rfl⟩,λb z=>absurd z (noA b),e0.bs,e0.bsz,λb _ _=>noA b,λb z=>absurd z (noA b),e0.kQ,e0.frf⟩,
  rfl,e0.bare,Un.kept hk,⟨_,x.toInCall.ns,λi y v h1 h2 h3=>?_⟩,λy c h=>⟨_,x.cell y c h⟩,e0.hok.fresh (Db _),λy c h=>?_,λp hp=>absurd (show p∈([]:List (Addr×Obj)) from hp) (by simp),e0.hok.kept hk,?_⟩
 ·exact name_of_addr x.apart (Jy h1) (Jy h2)
 ·have hy:scope.names.lookup y=some .cell\/scope.names.lookup y=some .free:=hy
  rcases hy with hy | hy
  ·exact qp hy
  ·exact absurd rfl (S.nofree _ (Jy hy))
 ·exact JT (x.above y c (Jy h))
 ·have hi:i<vs.length:=by
   unfold start at h2
   by_cases hi:i<vs.length
   ·exact hi
   ·rw[HU (by simpa using hi)] at h2
    rw[List.getElem?_replicate] at h2
    split at h2 <;> cases h2
  have ha:vs[i]? = some v:=by
   unfold start at h2;rw[HF (by simpa using hi),HL] at h2
   cases e:vs[i]? with
   |none=>rw[e] at h2; cases h2
   |some a=>rw[e] at h2; cases h2; rfl
  obtain⟨u,hu,rv⟩:=r.get ha;have hp:ps[i]? = some y:=by
   rw[<-S.pre,IQ (by lia)]; exact h1
  have ndP:ps.Nodup:=by rw[<-S.pre]; exact S.nd.sublist (N2 _ _)
  refine⟨u,rv,?_⟩;rcases S.par y (IE hp) with k | k
  ·exact .inl ⟨k,nV ndP hp hu k⟩
  ·obtain⟨c,e⟩:=qp (n:=s.heap.objs.size+1) k
   refine .inr ⟨.inl k,c,e,?_⟩;have q:=x.cell y c e;rw[nW ndP hp hu (by show scope.names.lookup y≠_; rw[k]; decide)] at q
   exact q
 ·exact e0.hok.fresh (JT (x.above y c (Jy h)))
 ·unfold start
  show _=N.length;rw[Bz,D1,M8];lia
theorem fn_of{CX:wX}{P:Fk}{w:World}{K:AT}{mg:Str->Option Value}{base:Heap}{k:Nat}{f:Addr}{name qual:Str}{params:Arguments}{body:List Stmt}{scope:Scope}{dV kV doc pm cdv ct oc:Value}{an od:Option Addr}
  {osl:Array (Option Value)} {N ps:List Str} {sp:Sp} (lk:K.lookup f=some ⟨oc,od,.func (HZ name qual params body scope dV kV doc pm an cdv ct),osl⟩) (hcd:Hb K cdv qual=true) (S:aX N ps scope)
  (len:∀vs H Q E,sp vs H Q E->vs.length=ps.length)
  (hbody:∀(A:HN)(outer:List Env)(s:B2)(H:Hp)(vs:List V)(Q:VK)(E:XK),eY k (A.deeper (MQ qual scope s.heap.objs.size f cdv))->sp vs H Q E ->
   ∃t,rS (qo CX P w K mg base N qual scope f cdv A outer s H E) body t/\t { nx:=λ_ H'=>Q .non H',rt:=Q } (start N vs) H) :
  cF P w K mg base CX (k+1) f (HZ name qual params body scope dV kV doc pm an cdv ct) ps sp:=by
 refine⟨len,λA outer s H args us vs Q E hr e0 hb r hsp=>?_⟩
 have hl:=len _ _ _ _ hsp;have KX:K.In s.heap:=e0.mod.kin.keeps λb o e=>(e0.bs b o e).1
 have lim:s.heap.NoLimit:=e0.mod.nolimit.keeps λb o e=>(e0.bs b o e).1
 have hkind:∀y∈ps.zip us,scope.names.lookup y.1=some .local\/(scope.names.lookup y.1=some .cell/\((cellsFrom (s.heap.objs.size+1) scope.names []).lookup y.1).isSome=true):=λ⟨n,v⟩ hy=>by
  rcases S.par n (M3 hy).1 with q | q
  ·exact .inl q
  ·exact .inr ⟨q,O6 _ _ _ (.inl q)⟩
 refine codeAny_call_function hr.depth (KX _ _ lk) rfl S.co S.gen rfl (PySem.W.codeRec_of KX hcd) (hb _ _ _ _ ?_);refine wpAny_newFunctionEnv_cells S.kind hkind λenv he s1 x=>?_
 subst he;refine⟨lim.keeps x.toInCall.keep,codeAny_func ?_⟩;obtain⟨t,ht,hq⟩:=hbody A outer s H vs Q E (hr.deeper _) hsp;have I:Inv (qo CX P w K mg base N qual scope f cdv A outer s H E) [] (start N vs) H s1:=vz S hr.hd e0 hl r x;refine J3 (ht [] s1 (start N vs) H _ I hq) (λfl s' hs=>?_) λe s' hs=>hs
 have fin:∀{σ':St}{H':Hp}{v:V}{u:Value},Inv (qo CX P w K mg base N qual scope f cdv A outer s H E) [] σ' H' s'->RelV v u->Q v H'->CE outer P w H s Q u s' :=
  λ{σ' H' v u}J rv q=>⟨v,H',J.os,J.bare,J.base,J.hok,rv,q⟩
 cases fl with
 |ret u=>
  obtain⟨v,σ',H',J,rv,q⟩:=hs;exact fin J rv q
 |next=>
  obtain⟨σ',H',J,q⟩:=hs;exact fin (v:=V.non) (u:=HM) J rfl q
 |brk=>
  obtain⟨_,_,_,q⟩:=hs;exact KR q
 |cont=>
  obtain⟨_,_,_,q⟩:=hs;exact KR q
end L2
namespace L2
open PySem PySem.Spec PyProof.Rows
section
variable{X:Cx}{x:Str}{p pos:Pos}{e:Expr}{es:List Expr}{t:TA}{id T:String}{r:List V->Hp->VK->Prop}
noncomputable def Fw(r:List V->Hp->VK->Prop)(t:TA):TE:=λσ H Q=>t σ H λvs H1=>r vs H1 Q
theorem qq(hc:bY X (.builtin id) r)(hg:Gl X x)(hm:X.mg x=none)(hv:JI x=some (.builtin id))(ha:PA X (e::es) t)(hn:x ≠ "__name__" := by decide)(hdb:(x == ("__debug__" : Str))=false:=by decide)
  (he:FK (e::es) X.env=(false,eval e X.env)::FK es X.env:=by rfl) (hpl:(K6 pos (FK es X.env)).any (·.1)=false:=by rfl):PE X (.Call (.Name x p) (e::es) [] pos) (Fw r t):=by
 intro pins s σ H Q I h;refine Jj (eB I hg hm hv ?_ hn hdb);exact Kh (aZ (ha pos pins s σ H _ I h) λus s1 ⟨vs,H1,I1,r1,q1⟩=>hc pins s1 σ H1 vs us Q I1 r1 q1) he hpl
theorem vD(hc:bY X (.type T) r)(hg:Gl X x)(hm:X.mg x=none)(hv:JI x=some (.type T))(ha:PA X (e::es) t)(hn:x ≠ "__name__" := by decide)(hdb:(x == ("__debug__" : Str))=false:=by decide)
  (he:FK (e::es) X.env=(false,eval e X.env)::FK es X.env:=by rfl) (hpl:(K6 pos (FK es X.env)).any (·.1)=false:=by rfl):PE X (.Call (.Name x p) (e::es) [] pos) (Fw r t):=by
 intro pins s σ H Q I h;refine Jj (eB I hg hm hv ?_ hn hdb);exact JA (aZ (ha pos pins s σ H _ I h) λus s1 ⟨vs,H1,I1,r1,q1⟩=>hc pins s1 σ H1 vs us Q I1 r1 q1) he hpl
end
end L2
namespace HT
open PySem PyProof.Rows
noncomputable def lexLt:List Int->List Int->Bool
 |[],[]=>false
 |[],_::_=>true
 |_::_,[]=>false
 |x::xs,y::ys=>if x=y then lexLt xs ys else decide (x<y)
theorem cO(x y:Int)(xs ys:List Int):lexLt (x::xs) (y::ys)=if x=y then lexLt xs ys else decide (x<y):=rfl
theorem nu:lexLt [] []=false:=rfl
theorem kT(y:Int)(ys:List Int):lexLt [] (y::ys)=true:=rfl
theorem kU(x:Int)(xs:List Int):lexLt (x::xs) []=false:=rfl
theorem qt(A:HN)(s:B2)(a:Int)(t:Tok)(c:Int)(u:Tok):∃e,Oy A s (.int a t) (.int c u) e/\(e=true↔a=c) :=
 ⟨(a == c),SeqAt.EqAt.int_int a t c u,by simp⟩
theorem xB(A:HN)(s:B2)(a:Int)(t:Tok)(c:Int)(u:Tok)(prog:Fk)(w:World)(E:Value->B2->Prop)(Q:Value->B2->Prop)(h:Q (.bool (decide (a<c))) s) :
  wpAny (model prog w) A (Q7 .Lt (.int a t) (.int c u)) Q E s :=
 (PM h:wpAny (model prog w) A (IG .Lt (.int a t) (.int c u)) Q E s)
section
open PySem.SeqAt
open PySem.AutoSeq1 (wpAny_loadPart')
open PySem.MeetsSeq PySem.MeetsSeq2 PySem.MeetsSeq3
theorem nv(l b:Addr)(items items2:Array Value)(n n2:Nat)(dd dd2:Option Addr)(sl sl2:Array (Option Value))(ns ms:List Int)(hi:JJ items.toList ns)(hj:JJ items2.toList ms) :
  Meets (Il.«tuple.__lt__» ⟨[.ref l,.ref b],[]⟩)
   (λ_ R s=>s.heap.get? l=some { cls:=.type "tuple",dict:=dd,data:=.seq items n,slots:=sl }/\s.heap.get? b=some { cls:=.type "tuple",dict:=dd2,data:=.seq items2 n2,slots:=sl2 } /\
    R (.ok (.ret (.bool (lexLt ns ms)))) s) :=
 .of_wp λprog w A R s h=>by
  obtain⟨hp,g,d,tk,os⟩:=s; obtain⟨hl,hb,h⟩:=h;have f2:=NV;have z1:items.size=ns.length:=by rw[<-hi.length]; simp
  have z2:items2.size=ms.length:=by rw[<-hj.length]; simp
  wp_walk using J5 hl,J5 hb,LA _ (λrest b s'=>b.1=none/\s'=⟨hp,g,d,tk,os⟩/\∃ (vs ws:List Value) (ns' ms':List Int),rest=vs.zip ws /\
   JJ vs ns'/\JJ ws ms'/\ns'.length+items2.size=ms'.length+items.size/\R (.ok (.ret (.bool (lexLt ns' ms')))) ⟨hp,g,d,tk,os⟩) _
  case turn=>
   rintro⟨y,x⟩ rest b s' ⟨hb',rfl,vs,ws,ns',ms',hz,hvi,hwi,hlen,hR⟩;cases hvi with
   |nil=>rw[Pq] at hz; cases hz
   |cons a t hvi' =>
    cases hwi with
    |nil=>rw[PR] at hz; cases hz
    |cons c u hwi' =>
     rw[Jb] at hz
     injection hz with hyx hrest
     injection hyx with hy hx
     subst hy hx;rw[cO] at hR;simp only[Bn] at hlen;obtain⟨e,he,hiff⟩:=qt A.in1 ⟨hp,g,d,tk,os⟩ a t c u;refine AC (he prog w _ _ ?_);cases e with
     |true=>
      rw[if_pos (hiff.mp rfl)] at hR
      wp_walk
      exact⟨rfl,rfl,_,_,_,_,hrest,hvi',hwi',by lia,hR⟩
     |false=>
      rw[if_neg (λq=>absurd (hiff.mpr q) IZ)] at hR
      have hri:=xB A.in1 ⟨hp,g,d,tk,os⟩ a t c u prog w
      wp_walk using hri
      exact⟨_,rfl,by simpa using hR⟩
  case fin=>
   rintro⟨b1,b2⟩ s' ⟨hb',rfl,vs,ws,ns',ms',hz,hvi,hwi,hlen,hR⟩;simp only at hb';subst hb';have hv:lexLt ns' ms'=decide (items.size<items2.size):=by
    cases hvi with
    |nil=>
     cases hwi with
     |nil=>
      simp only[Ic] at hlen;rw[nu];exact(decide_eq_false (by lia)).symm
     |cons c u hw=>
      simp only[Ic,Bn] at hlen;rw[kT];exact(decide_eq_true (by lia)).symm
    |cons a t hv=>
     cases hwi with
     |nil=>
      simp only[Ic,Bn] at hlen;rw[kU];exact(decide_eq_false (by lia)).symm
     |cons c u hw=>
      rw[Jb] at hz;cases hz
   rw[hv] at hR
   wp_walk
   exact⟨_,rfl,by simpa[M7] using hR⟩
  case h=>
   exact⟨rfl,rfl,items.toList,items2.toList,ns,ms,rfl,hi,hj,by lia,h⟩
end
section
variable{prog:Fk}{w:World}{A:HN}{E:Value->B2->Prop}{s:B2}
theorem r9{l b:Addr}{items items2:Array Value}{ns ms:List Int}{Q:Value->B2->Prop}(hl:IsTup s.heap l items)(hb:IsTup s.heap b items2)(hi:JJ items.toList ns)(hj:JJ items2.toList ms)
  (hu:A.units<cLine) (h:Q (.bool (lexLt ns ms)) s):wpAny (model prog w) A (IG .Lt (.ref l) (.ref b)) Q E s:=by
 obtain⟨⟨cls,dd,data,sl⟩,ho,hc,n,hd⟩:=id hl;obtain⟨⟨cls2,dd2,data2,sl2⟩,ho2,hc2,n2,hd2⟩:=id hb;simp only at hc hd hc2 hd2;subst hc hd hc2 hd2;exact PZ (op:=.Lt) ⟨_,ho,rfl⟩ ⟨_,ho2,rfl⟩ PySem.F.slot_tuple_lt PySem.F.entry_tuple_lt (PySem.F.args_tuple_lt_2 _ _) (nv l b items items2 n n2 dd dd2 sl sl2 ns ms hi hj)
  ⟨ho,ho2,show Ng (lexLt ns ms)≠OX/\Q (.bool (lexLt ns ms)) s from⟨(λx=>nomatch x),h⟩⟩ hu
theorem Ah{t b:Addr}{vs ws:List Value}{Q:Value->B2->Prop}(ht:IsTup s.heap t vs.toArray)(hb:IsTup s.heap b ws.toArray)(hv:vs≠[])
  (h1:ws=[]->Q (.ref t) s) (h2:ws≠[]->Q (.ref s.heap.objs.size) { s with heap:=s.heap.push { cls:=.type "tuple",data:=.seq (vs++ws).toArray } })
  (hsz:vs.length+ws.length<=FX):wpAny (model prog w) A (J9 .Add (.ref t) (.ref b)) Q E s:=by
 obtain⟨⟨cls,dd,data,sl⟩,ho,hc,n,hd⟩:=id ht;obtain⟨⟨cls2,dd2,data2,sl2⟩,ho2,hc2,n2,hd2⟩:=id hb;simp only at hc hd hc2 hd2;subst hc hd hc2 hd2;have e:vs.toArray++ws.toArray=(vs++ws).toArray:=by simp
 by_cases hw:ws=[]
 ·exact OJ ⟨_,ho,rfl⟩ ⟨_,ho2,rfl⟩ N9 Nw Ln Le (LW _ _)
   (tuple_addW1 t b vs.toArray ws.toArray n n2 dd dd2 sl sl2 (by simpa using hv) (by simp[hw])) ⟨ho,ho2,h1 hw⟩
 ·refine OJ ⟨_,ho,rfl⟩ ⟨_,ho2,rfl⟩ N9 Nw Ln Le (LW _ _)
   (tuple_addW2 t b vs.toArray ws.toArray n n2 dd dd2 sl sl2 (by simpa using hv) (by simpa using hw) (by rw[Do,Do]; exact hsz)) ⟨ho,ho2,?_⟩
  rw[e];exact h2 hw
noncomputable def cJ(n d:Nat):Option Int->Nat
 |none=>d
 |some v=>if v<0 then (v+(n:Int)).toNat else min v.toNat n
theorem qu(n d:Nat):cJ n d none=d:=rfl
theorem ua(n d k:Nat):cJ n d (some (k:Int))=min k n:=by
 show (if (k:Int)<0 then ((k:Int)+(n:Int)).toNat else min (k:Int).toNat n)=min k n
 rw[if_neg (by lia),KP]
theorem CY(n d:Nat)(hd:d<=n)(o:Option Int):cJ n d o<=n:=by
 cases o with
 |none=>exact hd
 |some v=>
  show (if v<0 then (v+(n:Int)).toNat else min v.toNat n)<=n
  by_cases hv:v<0
  ·rw[if_pos hv]; lia
  ·rw[if_neg hv]; exact QJ _ _
theorem uc(v:Int)(n d:Nat):(if v<0 then max (v+(n:Int)) 0 else min v (n:Int))=((cJ n d (some v):Nat):Int):=by
 show (if v<0 then max (v+(n:Int)) 0 else min v (n:Int))=(((if v<0 then (v+(n:Int)).toNat else min v.toNat n):Nat):Int)
 by_cases hv:v<0
 ·simp only[if_pos hv]; lia
 ·simp only[if_neg hv]; lia
theorem se(lo hi:Option Int)(n:Nat):L6 lo hi 1 (n:Int)=(((cJ n 0 lo:Nat):Int),((cJ n n hi:Nat):Int)):=by
 have h1:¬ ((1:Int)<0):=by lia
 unfold L6;simp only[h1,if_false];refine Prod.ext ?_ ?_
 ·cases lo with
  |none=>rfl
  |some v=>exact uc v n 0
 ·cases hi with
  |none=>rfl
  |some v=>exact uc v n n
theorem sf(i j:Nat):Ij (i:Int) (j:Int) 1=j-i:=by
 unfold Ij;have h1:(1:Int)>0:=by lia
 simp only[h1,if_true,Int.ediv_one]
 split <;> lia
theorem kW{v:Value}{o:Option Int}{Q:Option Int->B2->Prop}(p:Mo v o)(h:Q o s):wpAny (model prog w) A (Builtin.Slice.slicePartIndex v) Q E s:=by
 cases p with
 |none=>exact Mr h
 |int i t=>exact slicePart_int h
theorem fR{sl:Addr}{vl vu:Value}{lo hi:Option Int}{n:Nat}{Q:Int×Int×Nat->B2->Prop}(hs:s.heap.IsSliceOf sl vl vu .none)(pl:Mo vl lo)(pu:Mo vu hi)
  (h:Q (((cJ n 0 lo:Nat):Int),1,cJ n n hi-cJ n 0 lo) s):wpAny (model prog w) A (KB (.ref sl) (pure (n:Int))) Q E s:=by
 obtain⟨os,hos,hcs,hds⟩:=id hs;unfold KB Mb;refine AC (AC (Ia hos hds (x:=vl) rfl (AC (Ia hos hds (x:=vu) rfl (AC (Ia hos hds (x:=.none) rfl (At ?_)))))));refine AC (Mr ?_);show wpAny _ _ (if ((1:Int) == 0)=true then _ else _) _ _ s
 rw[if_neg (by decide)]
 refine AC (kW pl (AC (kW pu (AC (At ?_)))));show wpAny _ _ (match L6 lo hi 1 (n:Int) with | (lo,hi)=>pure (lo,(1:Int),Ij lo hi 1)) _ _ s
 rw[se lo hi n];show wpAny _ _ (pure (((cJ n 0 lo:Nat):Int),(1:Int),Ij ((cJ n 0 lo:Nat):Int) ((cJ n n hi:Nat):Int) 1)) _ _ s;rw[sf];exact At h
theorem xC(xs:Array Value)(i k:Nat):((Fa k).filterMap λ(m:Nat)=>xs[((i:Int)+(m:Int)*1).toNat]?).toArray=((xs.toList.drop i).take k).toArray:=by
 have e:(λ(m:Nat)=>xs[((i:Int)+(m:Int)*1).toNat]?)=λm=>xs[i+m]? := by
  funext m
  have:((i:Int)+(m:Int)*1).toNat=i+m:=by lia
  rw[this]
 rw[e];have:=pick_run xs i k;rw[PY] at this;have e2:((λx=>xs[x]?)∘λx=>i+x)=λm=>xs[i+m]? := rfl
 rw[e2] at this;rw[this]
theorem jb{t sl:Addr}{items:Array Value}{vl vu:Value}{lo hi:Option Int}{Q:Value->B2->Prop}(ht:IsTup s.heap t items)(hs:s.heap.IsSliceOf sl vl vu .none)(pl:Mo vl lo)(pu:Mo vu hi)
  (hw:¬ (cJ items.size 0 lo=0/\cJ items.size items.size hi=items.size))
  (h:Q (.ref s.heap.objs.size) { s with heap:=s.heap.push { cls:=.type "tuple",data:=.seq ((items.toList.drop (cJ items.size 0 lo)).take (cJ items.size items.size hi-cJ items.size 0 lo)).toArray } })
  (hsz:items.size<=FX):wpAny (model prog w) A (L4 (.ref t) (.ref sl)) Q E s:=by
 have htake:sizeOk (.seq ((items.toList.drop (cJ items.size 0 lo)).take (cJ items.size items.size hi-cJ items.size 0 lo)).toArray):=by
  show ((items.toList.drop (cJ items.size 0 lo)).take (cJ items.size items.size hi-cJ items.size 0 lo)).toArray.size<=FX;rw[Do,Gc,HI,Dx];lia
 have hj:cJ items.size items.size hi<=items.size:=CY _ _ (Db _) hi;obtain⟨os,hos,hcs,hds⟩:=id hs;have hTs:s.TypeIs (.ref sl) "slice" := ⟨os,hos,hcs⟩;unfold L4
 try with_reducible refine HW ?_
 first | refine AC (At ?_) | skip
 refine AC (NZ ht.typeIs (by decide) ?_)
 refine AC (II (name:=Jf "__getitem__") ht.typeIs IB
  (Hn IB ht.typeIs NB ?_ (NN _ _)))
 show wpAny _ _ (Ky (.ref t) >>= _) _ _ s;refine AC (Oz ht ?_);refine AC (L0 hTs ?_);rw[if_pos (by decide)]
 refine AC (fR hs pl pu ?_);have hno:¬ ((((cJ items.size 0 lo:Nat):Int) == 0 && (1:Int) == 1 && (cJ items.size items.size hi-cJ items.size 0 lo) == items.size)=true):=by
  intro q;rw[J0,J0] at q;have q1:((cJ items.size 0 lo:Nat):Int)=0:=eq_of_beq q.1.1;have q2:cJ items.size items.size hi-cJ items.size 0 lo=items.size:=eq_of_beq q.2;exact hw ⟨by lia,by lia⟩
 show wpAny _ _ (if (((cJ items.size 0 lo:Nat):Int) == 0 && (1:Int) == 1 && (cJ items.size items.size hi-cJ items.size 0 lo) == items.size)=true then _ else _) _ _ s
 rw[if_neg hno,xC]
 first
  |exact AC (m:=Iv _) (HQ (At ⟨_,rfl,At h⟩) htake)
  |exact AC (m:=Iv _) (HQ (AC (At (At ⟨_,rfl,At h⟩))) htake)
  |exact AC (AC (m:=Iv _) (HQ (At (At ⟨_,rfl,At h⟩)) htake))
  |exact AC (AC (m:=Iv _) (HQ (At ⟨_,rfl,At h⟩) htake))
end
end HT
namespace L2
open PySem PySem.Spec PyProof.Rows
abbrev TO:=St->Hp->(Option Int->Hp->Prop)->Prop
def PO(X:Cx)(e:Option Expr)(t:TO):Prop :=
 ∀(pins:List (Addr×Obj))(s:B2)(σ:St)(H:Hp)(Q:Option Int->Hp->Prop),Inv X pins σ H s->t σ H Q ->
  wpAny (model X.prog X.w) X.A (evalPart e X.env) (λu s'=>∃o H',Inv X pins σ H' s'/\Mo u o/\Q o H') X.xe s
noncomputable def Ai:TO:=λ_ H Q=>Q none H
noncomputable def tPart(t:TE):TO:=λσ H Q=>t σ H λx H1=>∃i,x=.int i/\Q (some i) H1
theorem intsAre_of{ns:List Int}:∀{us:List Value},Vals (ns.map V.int) us->JJ us ns:=by
 induction ns with
 |nil=>intro us r; rw[N5] at r; cases r; exact .nil
 |cons n ns ih=>
  intro us r;rw[GM] at r;cases r with
  |cons r1 r2=>
   obtain⟨t,e⟩:=r1;subst e;exact .cons n t (ih r2)
section
variable{X:Cx}{e:Expr}{te:TE}{lo hi:Option Expr}{tl th:TO}{pos p2:Pos}
theorem Aj:PO X none Ai:=by
 intro pins s σ H Q I h;rw[Os];exact At ⟨none,H,I,.none,h⟩
theorem Ak(h:PE X e te):PO X (some e) (tPart te):=by
 intro pins s σ H Q I hw;rw[evalPart_some];refine aZ (h pins s σ H _ I hw) λu s1 ⟨x,H1,I1,r1,q1⟩=>?_
 obtain⟨i,rfl,q⟩:=q1;obtain⟨t,rfl⟩:=r1;exact⟨some i,H1,I1,.int i t,q⟩
def Al(X:Cx)(r:V->Option Int->Option Int->Hp->VK->Prop):Prop :=
 ∀(pins:List (Addr×Obj))(s:B2)(σ:St)(H:Hp)(x:V)(v vl vu:Value)(lo hi:Option Int)(sl:Addr)(Q:VK),Inv X pins σ H s->RelV x v->s.heap.IsSliceOf sl vl vu .none->Mo vl lo->Mo vu hi->r x lo hi H Q ->
  ∃T id,typeLookup (.type T) "__getitem__" = pure (some (.builtin id))/\s.TypeIs v T/\wpAny (model X.prog X.w) X.A (L4 v (.ref sl)) (EP X pins σ Q) X.xe s
noncomputable def Hs(r:V->Option Int->Option Int->Hp->VK->Prop)(te:TE)(tl th:TO):TE:=λσ H Q=>te σ H λx H1=>tl σ H1 λl H2=>th σ H2 λu H3=>r x l u H3 Q
theorem xD{r:V->Option Int->Option Int->Hp->VK->Prop}(hr:Al X r)(he:PE X e te)(hl:PO X lo tl)(hu:PO X hi th):PE X (.Subscript e (.Slice lo hi none p2) pos) (Hs r te tl th):=by
 intro pins s σ H Q I h;refine Oc (aZ (he pins s σ H _ I h) λv s1 ⟨x,H1,I1,r1,q1⟩=>?_)
 refine wpAny_Slice (aZ (hl pins s1 σ H1 _ I1 q1) λvl s2 ⟨l,H2,I2,pl,q2⟩=>aZ (hu pins s2 σ H2 _ I2 q2) λvu s3 ⟨u,H3,I3,pu,q3⟩=>?_)
 rw[Os];refine At ?_;have I4:Inv X pins σ H3 { s3 with heap:=s3.heap.push { cls:=.type "slice",data:=.fields #[vl,vu,.none] } }:=I3.kept (t':=s3.toks) λb ob q=>Ap _ q
 obtain⟨T,id,hT,ht,hg⟩:=hr pins { s3 with heap:=s3.heap.push { cls:=.type "slice",data:=.fields #[vl,vu,.none] } } σ H3 x v vl vu l u s3.heap.objs.size Q I4 r1 (NU ..) pl pu q3
 show wpAny (model X.prog X.w) X.A (NI e (.Slice lo hi none p2) v (.ref s3.heap.objs.size)) (EP X pins σ Q) X.xe { s3 with heap:=s3.heap.push { cls:=.type "slice",data:=.fields #[vl,vu,.none] } }
 exact tail_any (ops:=[.ref s3.heap.objs.size,v]) ht hT hg (by with_unfolding_all rfl)
noncomputable def kX(xs:List V)(lo hi:Option Int):List V:=(xs.drop (HT.cJ xs.length 0 lo)).take (HT.cJ xs.length xs.length hi-HT.cJ xs.length 0 lo)
theorem kh(xs:List V)(lo hi:Option Int):(kX xs lo hi).length<=xs.length:=by
 unfold kX;rw[Gc,HI];lia
def rSlT(K:AT):V->Option Int->Option Int->Hp->VK->Prop:=λx lo hi H Q=>∃a xs,x=.ref a/\cI K H a xs /\
 ¬ (HT.cJ xs.length 0 lo=0/\HT.cJ xs.length xs.length hi=xs.length)/\∀p,H p=none->Q (.ref p) (upd H p (.tup (kX xs lo hi)))
theorem CZ:Al X (rSlT X.K):=by
 intro pins s σ H x v vl vu lo hi sl Q I rx hs pl pu h;obtain⟨a,xs,rfl,hx,hw,q⟩:=h;cases rx;obtain⟨its,r,ht,hz⟩:=I.tuple hx;have hlen:its.toArray.size=xs.length:=by rw[Do]; exact r.length.symm
 refine⟨"tuple",_,IB.lookup,ht.typeIs,?_⟩;refine HT.jb ht hs pl pu (by rw[hlen]; exact hw) ?_ (by rw[hlen]; exact hz)
 rw[hlen];refine⟨.ref s.heap.objs.size,_,I.laid (t':=s.toks) (o:=.tup (kX xs lo hi)) (λb ob q=>Ap _ q) (Db _) ?_,rfl,q _ (I.hok.fresh (Db _))⟩
 exact⟨JF (kh xs lo hi) hz,_,(r.drop (HT.cJ xs.length 0 lo)).take (HT.cJ xs.length xs.length hi-HT.cJ xs.length 0 lo),NC _ _⟩
noncomputable def rLtT(K:AT):R2:=λx y H Q=>∃a b ns ms,x=.ref a/\y=.ref b/\cI K H a (ns.map V.int)/\cI K H b (ms.map V.int)/\Q (.bl (HT.lexLt ns ms)) H
theorem C0(hu:X.A.units<cLine):dO X (IG .Lt) (rLtT X.K):=by
 intro pins s σ H x y v u Q I rx ry h;obtain⟨a,b,ns,ms,rfl,rfl,ha,hb,q⟩:=h;cases rx;cases ry;obtain⟨its,r1,p1,_⟩:=I.tuple ha;obtain⟨its2,r2,p2,_⟩:=I.tuple hb;have i1:JJ its.toArray.toList ns:=intsAre_of r1;have i2:JJ its2.toArray.toList ms:=intsAre_of r2;exact HT.r9 p1 p2 i1 i2 hu ⟨.bl (HT.lexLt ns ms),H,I,rfl,q⟩
noncomputable def rCatT(K:AT):R2:=λx y H Q=>∃a b xs ys,x=.ref a/\y=.ref b/\cI K H a xs/\cI K H b ys/\xs≠[]/\xs.length+ys.length<=FX /\
 (ys=[]->Q (.ref a) H)/\(ys≠[]->∀p,H p=none->Q (.ref p) (upd H p (.tup (xs++ys))))
theorem Vals.o8{xs:List V}{us:List Value}(r:Vals xs us):us=[]↔xs=[]:=by
 cases r with
 |nil=>simp
 |cons _ _=>simp
theorem Am:dO X (J9 .Add) (rCatT X.K):=by
 intro pins s σ H x y v u Q I rx ry h;obtain⟨a,b,xs,ys,rfl,rfl,ha,hb,hx,hz,q1,q2⟩:=h;cases rx;cases ry;obtain⟨its,r1,p1,_⟩:=I.tuple ha;obtain⟨its2,r2,p2,_⟩:=I.tuple hb;refine HT.Ah p1 p2 (λz=>hx (r1.o8.mp z)) (λz=>⟨.ref a,H,I,rfl,q1 (r2.o8.mp z)⟩) (λz=>?_) (by rw[<-r1.length,<-r2.length]; exact hz)
 refine⟨.ref s.heap.objs.size,_,I.laid (t':=s.toks) (o:=.tup (xs++ys)) (λb ob q=>Ap _ q) (Db _) ?_,rfl,q2 (λw=>z (r2.o8.mpr w)) _ (I.hok.fresh (Db _))⟩
 exact⟨by rw[Bz]; exact hz,_,r1.append r2,NC _ _⟩
end
end L2
namespace L2
open PySem PySem.Spec PyProof.Rows
noncomputable def ud(n:Nat)(i:Int):Option Nat:=if 0<=i then (if i<n then some i.toNat else none) else if -(n:Int)<=i then some (i+n).toNat else none
noncomputable def jO{α:Type}(xs:List α)(i:Int):Option α:=(ud xs.length i).bind λj=>xs[j]?
theorem ue{n:Nat}{i:Int}{j:Nat}(h:ud n i=some j):seqIndex? i n=some j/\j<n/\-(n:Int)<=i/\i<n:=by
 unfold ud at h
 by_cases h0:0<=i
 ·rw[if_pos h0] at h
  by_cases h1:i<n
  ·rw[if_pos h1] at h
   have e:i.toNat=j:=Fu h;exact⟨by rw[Q6 h0 h1,e],by lia,by lia,h1⟩
  ·rw[if_neg h1] at h; cases h
 ·rw[if_neg h0] at h
  by_cases h1 : -(n:Int)<=i
  ·rw[if_pos h1] at h
   have e:(i+n).toNat=j:=Fu h;exact⟨by rw[seqIndex_neg (by lia) h1,e],by lia,h1,by lia⟩
  ·rw[if_neg h1] at h; cases h
theorem o9{α:Type}{xs:List α}{i:Int}{v:α}(h:jO xs i=some v):∃j,seqIndex? i xs.length=some j/\xs[j]? = some v/\j<xs.length/\-(xs.length:Int)<=i/\i<xs.length:=by
 unfold jO at h;cases e:ud xs.length i with
 |none=>rw[e] at h; cases h
 |some j=>
  rw[e] at h;obtain⟨h1,h2,h3,h4⟩:=ue e;exact⟨j,h1,h,h2,h3,h4⟩
theorem pe{α:Type}{xs:List α}{j:Nat}{v:α}(h:xs[j]? = some v):jO xs (j:Int)=some v:=by
 have hj:j<xs.length:=(Da.mp h).1;have e:ud xs.length (j:Int)=some j:=by
  unfold ud;rw[if_pos (by lia),if_pos (by lia)]; simp
 unfold jO; rw[e]; exact h
def pg(b:Expr):Prop:=∀o i,OA b false o i=operate [o,i] (L4 o i)
def An(X:Cx)(r:R2):Prop :=
 ∀(value slice:Expr)(pins:List (Addr×Obj))(s:B2)(σ:St)(H:Hp)(x y:V)(v u:Value)(Q:VK),Inv X pins σ H s->RelV x v->RelV y u->r x y H Q ->
  OA slice false v u=operate [v,u] (L4 v u)->wpAny (model X.prog X.w) X.A (NI value slice v u) (EP X pins σ Q) X.xe s
def GI(X:Cx)(id:String)(r:V->List V->Hp->VK->Prop):Prop :=
 ∀(pins:List (Addr×Obj))(s:B2)(σ:St)(H:Hp)(x:V)(xs:List V)(v:Value)(us:List Value)(Q:VK),Inv X pins σ H s->RelV x v->Vals xs us->r x xs H Q ->
  wpAny (model X.prog X.w) X.A (call (.builtin id) (v::us)) (EP X pins σ Q) X.xe s
section
variable{X:Cx}{a b:Expr}{ta tb:TE}{pos:Pos}
theorem An.or{r r':R2}(h:An X r)(h':An X r'):An X (λx y H Q=>r x y H Q\/r' x y H Q):=by
 intro value slice pins s σ H x y v u Q I rx ry q hs;rcases q with q | q
 ·exact h value slice pins s σ H x y v u Q I rx ry q hs
 ·exact h' value slice pins s σ H x y v u Q I rx ry q hs
theorem pe_ix{r:R2}(hr:An X r)(ha:PE X a ta)(hb:PE X b tb)(hs:pg b):PE X (.Subscript a b pos) (B4 r ta tb):=by
 intro pins s σ H Q I h;exact Oc (binT ha hb I h λv u s2 x y H2 I2 rx ry q=>hr a b pins s2 σ H2 x y v u Q I2 rx ry q (hs _ _))
noncomputable def rIxL(K:AT):R2:=λx y H Q=>∃p xs i v,x=.ref p/\y=.int i/\fj K H p xs/\jO xs i=some v/\Q v H
noncomputable def rIxT(K:AT):R2:=λx y H Q=>∃p xs i v,x=.ref p/\y=.int i/\cI K H p xs/\jO xs i=some v/\Q v H
noncomputable def rIxS:R2:=λx y H Q=>∃z i c,x=.str z/\y=.int i/\z.length<=FX/\jO z.cps.toList i=some c/\Q (.str ⟨#[c]⟩) H
theorem Ao:An X (rIxL X.K):=by
 intro value slice pins s σ H x y v u Q I rx ry h hs;obtain⟨p,xs,i,z,rfl,rfl,hq,he,q⟩:=h;cases rx;obtain⟨t,rfl⟩:=ry;obtain⟨its,r,pl,hz⟩:=I.list hq;obtain⟨j,h1,h2,h3,h4,h5⟩:=o9 he;obtain⟨w,ew,rw'⟩:=r.get h2;have hl:=r.length;have hn:=iO;have fin:EP X pins σ Q w s:=⟨z,H,I,rw',q⟩
 by_cases h0:0<=i
 ·have hj:i.toNat=j:=by
   rw[Q6 h0 h5] at h1;exact Fu h1
  exact item_listR pl.isList h0 (by lia) (by rw[hj]; simpa using ew) fin hs
 ·have hj:(i+(its.toArray.size:Int)).toNat=j:=by
   rw[seqIndex_neg (by lia) h4] at h1
   rw[Do,<-hl];exact Fu h1
  exact Pi (x:=w) pl.isList.typeIs slot_list_getitem.lookup
   (wpAny_getItem_list_neg (Q:=λr s'=>r=w/\EP X pins σ Q r s') pl.isList (by lia) (by rw[Do] <;> lia) (by lia) (by rw[hj]; simpa using ew) ⟨rfl,fin⟩) hs
theorem C1:An X (rIxT X.K):=by
 intro value slice pins s σ H x y v u Q I rx ry h hs;obtain⟨p,xs,i,z,rfl,rfl,hq,he,q⟩:=h;cases rx;obtain⟨t,rfl⟩:=ry;obtain⟨its,r,pl,hz⟩:=I.tuple hq;obtain⟨j,h1,h2,h3,h4,h5⟩:=o9 he;obtain⟨w,ew,rw'⟩:=r.get h2;have hl:=r.length;have hn:=iO;have fin:EP X pins σ Q w s:=⟨z,H,I,rw',q⟩;exact Pi (x:=w) pl.typeIs IB.lookup
  (getItem_tuple (j:=j) (Q:=λr s'=>r=w/\EP X pins σ Q r s') pl (by lia) (by lia) (by rw[Do,<-hl]; exact h1) (by simpa using ew) ⟨rfl,fin⟩) hs
theorem C2:An X rIxS:=by
 intro value slice pins s σ H x y v u Q I rx ry h hs;obtain⟨z,i,c,rfl,rfl,hz,he,q⟩:=h;obtain⟨t,rfl⟩:=rx;obtain⟨t',rfl⟩:=ry;obtain⟨j,h1,h2,h3,h4,h5⟩:=o9 he;have hl:z.cps.toList.length=z.length:=by simp[Str.length]
 rw[hl] at h1 h4 h5;have hn:=iO;exact tail_any (typeIs_str s z t) slot_str_getitem.lookup (getItem_str (c:=c) (by
  have e1:decide (i < -(2 ^ 63:Int))=false:=decide_eq_false (by lia)
  have e2:decide (i>=2 ^ 63)=false:=decide_eq_false (by lia)
  rw[e1,e2,Bool.or_false]) (by rw[h1]; simpa using h2) ⟨.str ⟨#[c]⟩,H,I.tok _,⟨_,rfl⟩,q⟩) hs
noncomputable def GJ(K:AT):R2:=λx y H Q=>rIxL K x y H Q\/rIxT K x y H Q\/rIxS x y H Q
theorem C3:An X (GJ X.K):=Ao.or (C1.or C2)
theorem sj(its:List Value)(n j:Nat)(u:Value):Ir (·.setIfInBounds j u) { cls:=.type "list",data:=.seq its.toArray n }={ cls:=.type "list",data:=.seq (its.set j u).toArray n }:=by
 simp[Ir]
theorem Inv.lst{pins:List (Addr×Obj)}{σ:St}{H:Hp}{s:B2}{p:Addr}{xs:List V}(I:Inv X pins σ H s)(h:H p=some (.lst xs)) :
  ∃ (its:List Value) (n:Nat),Vals xs its/\s.heap.get? p=some { cls:=.type "list",data:=.seq its.toArray n }/\xs.length<=FX:=by
 obtain⟨z,its,n,r,e⟩:=I.hok p _ h;exact⟨its,n,r,e,z⟩
theorem Inv.C4{pins:List (Addr×Obj)}{σ:St}{H:Hp}{s:B2}{p:Addr}{xs ys:List V}{its its':List Value}{n n':Nat}{f:Obj->Obj}(I:Inv X pins σ H s)(h:H p=some (.lst xs))
  (ho:s.heap.get? p=some { cls:=.type "list",data:=.seq its.toArray n }) (hf:f { cls:=.type "list",data:=.seq its.toArray n }={ cls:=.type "list",data:=.seq its'.toArray n' }) (r:Vals ys its') (hz:ys.length<=FX) (t:Nat) :
  Inv X pins σ (upd H p (.lst ys)) { s with heap:=s.heap.update p f,toks:=t }:=by
 have e:(s.heap.update p f).get? p=some { cls:=.type "list",data:=.seq its'.toArray n' }:=by
  rw[Jt f ho (by rw[hf] <;> rfl),hf]
 refine I.write (x:=p) (e:=p) (by rw[h]; trivial) (.inl rfl) (λb u hb q=>(Iw _ _ (K8 hb)).trans q) ⟨_,e⟩ ?_
 exact⟨hz,its',n',r,e⟩
def qv:V->V->V->Hp->(Hp->Prop)->Prop:=λo i v H Q=>∃p xs k j,o=.ref p/\i=.int k/\H p=some (.lst xs)/\ud xs.length k=some j/\Q (upd H p (.lst (xs.set j v)))
theorem set_list:PSet X qv:=by
 intro pins s σ H o i v ov iv u Q I ro ri rv h;obtain⟨p,xs,k,j,rfl,rfl,hp,hj,q⟩:=h;cases ro;obtain⟨t,rfl⟩:=ri;obtain⟨its,n,r,ho,hz⟩:=I.lst hp;obtain⟨h1,h2,h3,h4⟩:=ue hj;have hl:=r.length;have hn:=iO;have I':Inv X pins σ (upd H p (.lst (xs.set j v))) { s with heap:=s.heap.update p (Ir (·.setIfInBounds j u)) } :=
  I.C4 hp ho (sj its n j u) (r.set rv j) (by rw[QN]; exact hz) s.toks
 by_cases h0:0<=k
 ·have hk:k.toNat=j:=by
   rw[Q6 h0 h4] at h1;exact Fu h1
  exact PySem.W.ki_setAt ho h0 (by lia) (by rw[Do,<-hl]; exact h4) (by rw[hk]; exact⟨_,I',q⟩)
 ·have hk:(k+(its.toArray.size:Int)).toNat=j:=by
   rw[seqIndex_neg (by lia) h3] at h1
   rw[Do,<-hl];exact Fu h1
  exact PySem.W.ki_setBack ho (by lia) (by rw[Do,<-hl]; exact h3) (by lia) (by rw[hk]; exact⟨_,I',q⟩)
theorem pq(lo hi:Option Int)(n:Nat):(LJ lo hi none n).1=((HT.cJ n 0 lo:Nat):Int)/\(LJ lo hi none n).2.1=((HT.cJ n n hi:Nat):Int)/\(LJ lo hi none n).2.2=1:=by
 refine⟨?_,?_,rfl⟩
 ·cases lo with
  |none=>simp[LJ,HT.cJ]
  |some i=>
   simp only[LJ,HT.cJ,PP,show (1:Int)>0 by decide,if_true]
   by_cases h:i<0
   ·simp only[h,if_true] <;> lia
   ·simp only[h,if_false] <;> lia
 ·cases hi with
  |none=>simp[LJ,HT.cJ]
  |some i=>
   simp only[LJ,HT.cJ,PP,show (1:Int)>0 by decide,if_true]
   by_cases h:i<0
   ·simp only[h,if_true] <;> lia
   ·simp only[h,if_false] <;> lia
theorem nA(its:List Value)(lo hi:Option Int):slicePick its.toArray lo hi none=((its.drop (HT.cJ its.length 0 lo)).take (HT.cJ its.length its.length hi-HT.cJ its.length 0 lo)).toArray:=by
 obtain⟨h1,h2,h3⟩:=pq lo hi its.toArray.size;unfold slicePick;rw[h1,h2,h3];simp only[sliceRange_one,pick_run,Do] <;> rfl
def rSlL(K:AT):V->Option Int->Option Int->Hp->VK->Prop:=λx lo hi H Q=>∃a xs,x=.ref a/\fj K H a xs/\∀p,H p=none->Q (.ref p) (upd H p (.lst (kX xs lo hi)))
theorem Aq:Al X (rSlL X.K):=by
 intro pins s σ H x v vl vu lo hi sl Q I rx hs pl pu h;obtain⟨a,xs,rfl,hx,q⟩:=h;cases rx;obtain⟨its,r,ht,hz⟩:=I.list hx;have hlen:=r.length;refine⟨"list",_,slot_list_getitem.lookup,ht.isList.typeIs,?_⟩;refine wpAny_getItem_list_slice ht.isList hs pl pu .none (by simp) ?_ (by rw[Do] <;> lia)
 rw[nA,<-hlen];refine⟨.ref s.heap.objs.size,_,I.laid (t':=s.toks) (o:=.lst (kX xs lo hi)) (λb ob q=>Ap _ q) (Db _) ?_,rfl,q _ (I.hok.fresh (Db _))⟩
 exact⟨JF (kh xs lo hi) hz,_,0,(r.drop (HT.cJ xs.length 0 lo)).take (HT.cJ xs.length xs.length hi-HT.cJ xs.length 0 lo),Ee _ rfl⟩
theorem pA:bY X (.builtin "len") (λxs H Q=>∃p ys,xs=[.ref p]/\(fj X.K H p ys\/cI X.K H p ys)/\Q (.int ys.length) H):=by
 intro pins s σ H xs us Q I r h;obtain⟨p,ys,rfl,hq,q⟩:=h;obtain⟨u,rfl,rx⟩:=vals1 r;cases rx;have hn:=iO;rcases hq with hq | hq
 ·obtain⟨its,r',pl,hz⟩:=I.list hq
  have hlen:=r'.length;exact Calls.call_len_list pl.isList (by simp only[Do] <;> lia) ⟨.int ys.length,H,I.tok _,⟨s.toks+1,by rw[Do,hlen]⟩,q⟩
 ·obtain⟨its,r',pl,hz⟩:=I.tuple hq
  have hlen:=r'.length;exact len_tuple pl (by simp only[Do] <;> lia) ⟨.int ys.length,H,I.tok _,⟨s.toks+1,by rw[Do,hlen]⟩,q⟩
theorem pB:bY X (.builtin "len") (λxs H Q=>∃z,xs=[.str z]/\z.length<=FX/\Q (.int z.length) H):=by
 intro pins s σ H xs us Q I r h;obtain⟨z,rfl,hz,q⟩:=h;obtain⟨u,rfl,t,rfl⟩:=vals1 r;have hn:=iO;exact len_str (by lia) ⟨.int z.length,H,I.tok _,⟨_,rfl⟩,q⟩
theorem nB:bY X (.type "tuple") (λxs H Q=>∃p ys,xs=[.ref p]/\((fj X.K H p ys/\∀l,H l=none->Q (.ref l) (upd H l (.tup ys)))\/(cI X.K H p ys/\Q (.ref p) H))):=by
 intro pins s σ H xs us Q I r h;obtain⟨p,ys,rfl,h⟩:=h;obtain⟨u,rfl,rx⟩:=vals1 r;cases rx;rcases h with⟨hq,q⟩ | ⟨hq,q⟩
 ·obtain⟨its,r',pl,hz⟩:=I.list hq
  have hlen:=r'.length;refine call_tuple_list pl.isList (λh' kp=>?_) (by simp only[Do] <;> lia)
  have I1:Inv X pins σ H { s with heap:=h' }:=I.kept (t':=s.toks) kp
  have I2:Inv X pins σ (upd H h'.objs.size (.tup ys)) { s with heap:=h'.push { cls:=.type "tuple",data:=.seq its.toArray } } :=
   I1.laid (t':=s.toks) (λb o e=>Ap _ e) (Db _) (show cC X.prog X.w _ _ _ (.tup ys) from⟨hz,its,r',NC _ _⟩)
  exact⟨.ref h'.objs.size,_,I2,rfl,q _ (I1.hok.fresh (Db _))⟩
 ·obtain⟨its,r',pl,hz⟩:=I.tuple hq
  exact call_tuple_same pl ⟨.ref p,H,I,rfl,q⟩
def Gi(K:AT)(T:String)(x:V)(H:Hp):Prop:=match x with
 |.str _=>T = "str"
 |.int _=>T = "int"
 |.ref p=>(T = "list"/\∃xs,fj K H p xs)\/(T = "tuple"/\∃o,K.lookup p=some o/\o.cls=.type "tuple"/\o.dict=none) \/
  (T = "dict"/\((∃kvs,H p=some (.dK kvs))\/∃kvs,H p=some (.dT kvs)))\/(T = "set"/\∃S n,H p=some (.set S n))
 |_=>False
theorem xE{pins:List (Addr×Obj)}{σ:St}{H:Hp}{s:B2}{T:String}{x:V}{v:Value}(I:Inv X pins σ H s)(r:RelV x v)(ty:Gi X.K T x H) :
  s.TypeIs v T/\∀a,v=.ref a->∃ob,s.heap.get? a=some ob/\ob.dict=none:=by
 cases x with
 |str z=>
  obtain⟨t,rfl⟩:=r;cases (show T = "str" from ty)
  exact⟨typeIs_str s z t,λ_ e=>nomatch e⟩
 |int i=>
  obtain⟨t,rfl⟩:=r;cases (show T = "int" from ty)
  exact⟨Qe s i t,λ_ e=>nomatch e⟩
 |ref p=>
  cases r;rcases ty with⟨rfl,xs,hq⟩ | ⟨rfl,o,hk,hc,hd⟩ | ⟨rfl,hk⟩ | ⟨rfl,S,n,hk⟩
  ·obtain⟨its,_,pl,_⟩:=I.list hq
   refine⟨pl.isList.typeIs,λa e=>?_⟩
   cases e;obtain⟨o,n,e,c,hd,_⟩:=pl;exact⟨o,e,hd⟩
  ·refine⟨⟨o,I.vm p o hk,hc⟩,λa e=>?_⟩
   cases e;exact⟨o,I.vm _ o hk,hd⟩
  ·have z:∃o,s.heap.get? p=some o/\o.ExactDict:=by
    rcases hk with⟨kvs,hk⟩ | ⟨kvs,hk⟩
    ·obtain⟨_,_,_,_,o,_,_,e,ex,_⟩:=I.hok p _ hk
     exact⟨o,e,ex⟩
    ·obtain⟨_,_,_,_,o,_,_,e,ex,_⟩:=I.hok p _ hk
     exact⟨o,e,ex⟩
   obtain⟨o,e,ex⟩:=z;refine⟨⟨o,e,ex.1⟩,λa e2=>?_⟩
   cases e2;exact⟨o,e,ex.2.1⟩
  ·obtain⟨o,_,_,_,e,ex,_⟩:=I.hok p _ hk
   refine⟨⟨o,e,ex.1⟩,λa e2=>?_⟩
   cases e2;exact⟨o,e,ex.2.1⟩
 |_=>exact KR ty
noncomputable def tBM0(K:AT)(T:String)(r:V->List V->Hp->VK->Prop)(to:TE):TE:=λσ H Q=>to σ H λx H1=>Gi K T x H1/\r x [] H1 Q
noncomputable def zS(K:AT)(T:String)(r:V->List V->Hp->VK->Prop)(to:TE)(t:TA):TE:=λσ H Q=>to σ H λx H1=>Gi K T x H1/\t σ H1 λxs H2=>r x xs H2 Q
variable{o e:Expr}{es:List Expr}{to:TE}{t:TA}{name:Str}{apos cpos:Pos}{T id:String}{r:V->List V->Hp->VK->Prop}
theorem C5(pa:PlainAttrs T)(slot:Slot T name id)(hty:typeOf (.builtin id)=pure (.type "method_descriptor"))(hm:GI X id r)(ho:PE X o to)
  (hbase:attributeBase o name X.env (eval o X.env)=eval o X.env:=by rfl) (hline:(apos.endLine == cpos.line)=true:=by rfl):PE X (.Call (.Attribute o name apos) [] [] cpos) (tBM0 X.K T r to):=by
 intro pins s σ H Q I h;refine wpAny_Call_method0_late hbase hline (aZ (ho pins s σ H _ I h) λv s1 ⟨x,H1,I1,r1,ty,q1⟩=>?_)
 obtain⟨h1,h2⟩:=xE I1 r1 ty;exact⟨T,id,pa,slot,hty,h1,h2,OL rfl (PySem.evalArgs_none (hm pins s1 σ H1 x [] v [] Q I1 r1 .nil q1))⟩
theorem gO(pa:PlainAttrs T)(slot:Slot T name id)(hty:typeOf (.builtin id)=pure (.type "method_descriptor"))(hm:GI X id r)(ho:PE X o to)(ha:PA X (e::es) t)
  (hbase:attributeBase o name X.env (eval o X.env)=eval o X.env:=by rfl)
  (hfew:((K6 cpos (FK (e::es) X.env)).all (λx=> !x.1) && (backToKw cpos (keywordEach [] X.env)).all (λx=>x.1.isSome)
   && decide ((e::es).length+([]:List Keyword).length+(if ([]:List Keyword).isEmpty then 0 else 1)<30))=true:=by rfl)
  (hline:(apos.endLine == cpos.line)=true:=by rfl) (hs:FK (e::es) X.env=(false,eval e X.env)::FK es X.env:=by rfl) (hplain:(K6 cpos (FK es X.env)).any (·.1)=false:=by rfl) :
  PE X (.Call (.Attribute o name apos) (e::es) [] cpos) (zS X.K T r to t):=by
 intro pins s σ H Q I h;refine wpAny_Call_method_late hbase hfew hline rfl (aZ (ho pins s σ H _ I h) λv s1 ⟨x,H1,I1,r1,ty,q1⟩=>?_)
 obtain⟨h1,h2⟩:=xE I1 r1 ty;refine⟨T,id,pa,slot,hty,h1,h2,?_⟩;have hA:=ha cpos pins s1 σ H1 _ I1 q1;rw[hs] at hA ⊢;refine OL (by show (false || (K6 cpos (FK es X.env)).any (·.1))=false; rw[hplain] <;> rfl) (Calls.evalArgs_plain ?_)
 exact aZ hA λus s2 ⟨vs,H2,I2,r2,q2⟩=>hm pins s2 σ H2 x vs v us Q I2 r1 r2 q2
end
end L2
namespace L2
open PySem PySem.Spec PyProof.Rows
def Fx(X:Cx)(id:String)(r:V->List V->Hp->VK->Prop):Prop :=
 ∀(pins:List (Addr×Obj))(s:B2)(σ:St)(H:Hp)(x:V)(xs:List V)(v:Value)(us:List Value)(Q:VK),Inv X pins σ H s->RelV x v->Vals xs us->r x xs H Q ->
  wpAny (model X.prog X.w) X.A (call (.builtin id) (v::us)) (EP X pins σ Q) X.xe s
theorem Vals.one:∀{x:V}{us:List Value},Vals [x] us->∃u,us=[u]/\RelV x u:=by
 intro x us h;cases h with | cons r t=>
 cases t;exact⟨_,rfl,r⟩
theorem Vals.two:∀{x y:V}{us:List Value},Vals [x,y] us->∃u v,us=[u,v]/\RelV x u/\RelV y v:=by
 intro x y us h;cases h with | cons r t=>
 obtain⟨v,rfl,q⟩:=Vals.one t;exact⟨_,_,rfl,r,q⟩
theorem Vals.zero:∀{us:List Value},Vals [] us->us=[]
 |_,.nil=>rfl
theorem Vals.dropLast{xs:List V}{us:List Value}(h:Vals xs us):Vals xs.dropLast us.dropLast:=by
 induction h with
 |nil=>exact .nil
 |cons r t ih=>
  cases t with
  |nil=>exact .nil
  |cons q t'=>exact .cons r ih
theorem Vals.rep{xs:List V}{us:List Value}(h:Vals xs us):∀k:Nat,Vals (D2 k xs).flatten (D2 k us).flatten
 |0=>.nil
 |k+1=>by
  rw[Jo,Jo,IM,IM];exact Vals.append h (Vals.rep h k)
theorem sr{α:Type}(l:List α):l.eraseIdx (l.length-1)=l.dropLast:=by
 induction l with
 |nil=>rfl
 |cons a r ih=>
  cases r with
  |nil=>rfl
  |cons b r=>
   have e:(a::b::r).length-1=((b::r).length-1)+1:=by
    have h1:(a::b::r).length=r.length+2:=rfl;have h2:(b::r).length=r.length+1:=rfl;lia
   rw[e,List.eraseIdx_cons_succ,ih]
   all_goals rfl
theorem foldl_rep(its:List Value):∀(k:Nat)(acc:List Value),
  Md (λx1 x2=>x1++x2) acc.toArray (D2 k its.toArray)=(acc++(D2 k its).flatten).toArray
 |0,acc=>by simp
 |k+1,acc=>by
  have e:acc.toArray++its.toArray=(acc++its).toArray:=by simp
  have e2:(acc++its)++(D2 k its).flatten=acc++(D2 (k+1) its).flatten:=by
   rw[Jo,IM,BM]
  rw[<-e2,<-foldl_rep its k (acc++its),<-e,Jo,Kg]
section
variable{X:Cx}{pins:List (Addr×Obj)}{σ:St}{H:Hp}{s:B2}{l b:Addr}{xs ys zs:List V}
theorem Inv.lset{its its':List Value}{n:Nat}{f:Array Value->Array Value}{t':Nat}(I:Inv X pins σ H s)(hH:H l=some (.lst xs))
  (e:s.heap.get? l=some { cls:=.type "list",data:=.seq its.toArray n }) (hf:f its.toArray=its'.toArray) (hv:Vals ys its') (hz:ys.length<=FX) :
  Inv X pins σ (upd H l (.lst ys)) { s with heap:=s.heap.update l (Ir f),toks:=t' }:=by
 have q:=PySem.IsL.update e f;rw[hf] at q;refine I.write (x:=l) (e:=l) (by rw[hH]; exact trivial) (.inl rfl) (λb' u hb hu=>(Iw s.heap (Ir f) (K8 hb)).trans hu) ⟨_,q⟩ ?_
 exact⟨hz,its',_,hv,q⟩
theorem Inv.lnew{its:List Value}{t':Nat}(I:Inv X pins σ H s)(hv:Vals ys its)(hz:ys.length<=FX) :
  Inv X pins σ (upd H s.heap.objs.size (.lst ys)) { s with heap:=s.heap.push { cls:=.type "list",data:=.seq its.toArray },toks:=t' } :=
 I.laid (λ_ _ q=>Ap _ q) (Db _) ⟨hz,its,0,hv,Ee _ rfl⟩
theorem Inv.fresh(I:Inv X pins σ H s):H s.heap.objs.size=none:=I.hok.fresh (Db _)
theorem Inv.qw(I:Inv X pins σ H s)(hH:H l=some (.lst xs)):xs.length<=FX/\∃ (its:List Value) (n:Nat),Vals xs its/\xs.length=its.length/\s.heap.get? l=some { cls:=.type "list",data:=.seq its.toArray n }:=by
 obtain⟨z,its,n,r,e⟩:=I.hok l _ hH;exact⟨z,its,n,r,r.length,e⟩
theorem qx{n:Nat}(h:n<=FX):KO n=false:=by
 unfold KO;exact decide_eq_false (by lia)
end
section
variable{X:Cx}
def ig:V->List V->Hp->VK->Prop:=λx vs H Q=>∃l xs y,x=.ref l/\vs=[y]/\H l=some (.lst xs)/\xs.length<FX/\Q .non (upd H l (.lst (xs++[y])))
theorem cR:Fx X "list.append" ig:=by
 intro pins s σ H x vs v us Q I rx rv h;obtain⟨l,xs,y,rfl,rfl,hH,hz,q⟩:=h;cases rx;obtain⟨u,rfl,ru⟩:=rv.one;obtain⟨z,its,n,r,hl,e⟩:=I.qw hH;refine MO Ih ⟨_,e,rfl⟩ F.entry_list_append (F.args_list_append_2 _ _) (PySem.list_append l its.toArray n u (by rw[Do]; lia)) ⟨e,?_⟩
 refine⟨.non,_,I.lset (its':=its++[u]) hH e (by simp) (r.append (.cons ru .nil)) ?_,rfl,q⟩
 rw[Bz,Hm];lia
def pF:V->List V->Hp->VK->Prop:=λx vs H Q=>∃l b xs zs,x=.ref l/\vs=[.ref b]/\H l=some (.lst xs)/\H b=some (.lst zs)/\xs.length+zs.length<=FX/\Q .non (upd H l (.lst (xs++zs)))
theorem jP:Fx X "list.extend" pF:=by
 intro pins s σ H x vs v us Q I rx rv h;obtain⟨l,b,xs,zs,rfl,rfl,hH,hB,hz,q⟩:=h;cases rx;obtain⟨u,rfl,ru⟩:=rv.one;cases ru;obtain⟨z,its,n,r,hl,e⟩:=I.qw hH;obtain⟨z2,its2,n2,r2,hl2,e2⟩:=I.qw hB;have hsz:its.toArray.size+its2.toArray.size<=FX:=by rw[Do,Do]; lia
 have hlong:¬ (!its.toArray.isEmpty && KO (its.toArray.size+its2.toArray.size))=true:=by
  rw[qx hsz,ML];exact IZ
 refine MO Kk ⟨_,e,rfl⟩ F.entry_list_extend (F.args_list_extend_2 _ _)
  (AutoSeq1.list_extend_list_list_0 l its.toArray n b its2.toArray n2 hlong (by rw[Do]; lia) (by lia)) ⟨e,e2,?_⟩
 refine⟨.non,_,I.lset (its':=its++its2) hH e (by simp) (r.append r2) ?_,rfl,q⟩
 rw[Bz];lia
def rPop:V->List V->Hp->VK->Prop:=λx vs H Q=>∃l xs y,x=.ref l/\vs=[]/\H l=some (.lst xs)/\xs[xs.length-1]? = some y/\Q y (upd H l (.lst xs.dropLast))
theorem C6:Fx X "list.pop" rPop:=by
 intro pins s σ H x vs v us Q I rx rv h;obtain⟨l,xs,y,rfl,rfl,hH,hy,q⟩:=h;cases rx;have hus:=rv.zero;subst hus;obtain⟨z,its,n,r,hl,e⟩:=I.qw hH;obtain⟨u,hu,ru⟩:=r.get hy;have hy':its.toArray[its.toArray.size-1]? = some u:=by
  show its.toArray[its.length-1]? = some u;rw[<-H9,<-hl];exact hu
 refine MO PJ ⟨_,e,rfl⟩ F.entry_list_pop (F.args_list_pop_1 _) (MeetsSeq.list_pop_last l its.toArray n u hy' (by rw[Do]; lia)) ⟨e,?_⟩
 refine⟨y,_,I.lset (its':=its.dropLast) hH e ?_ r.dropLast ?_,ru,q⟩
 ·show its.toArray.eraseIdxIfInBounds (its.toArray.size-1)=its.dropLast.toArray
  rw[Do,List.eraseIdxIfInBounds_toArray,sr]
 ·rw[List.length_dropLast]
  lia
noncomputable def rCat:R2:=λx y H Q=>∃l b xs zs,x=.ref l/\y=.ref b/\H l=some (.lst xs)/\H b=some (.lst zs)/\xs.length+zs.length<=FX/\∀p,H p=none->Q (.ref p) (upd H p (.lst (xs++zs)))
theorem C7:dO X (J9 .Add) rCat:=by
 intro pins s σ H x y v u Q I rx ry h;obtain⟨l,b,xs,zs,rfl,rfl,hH,hB,hz,q⟩:=h;cases rx;cases ry;obtain⟨z,its,n,r,hl,e⟩:=I.qw hH;obtain⟨z2,its2,n2,r2,hl2,e2⟩:=I.qw hB;refine PySem.P.add_list e e2 ?_ (by rw[Do,Do]; lia)
 have ea:its.toArray++its2.toArray=(its++its2).toArray:=by simp
 rw[ea];exact⟨.ref _,_,I.lnew (t':=s.toks) (r.append r2) (by rw[Bz]; lia),rfl,q _ I.fresh⟩
noncomputable def rRep:R2:=λx y H Q=>∃l k xs,x=.ref l/\y=.int k/\H l=some (.lst xs)/\-(2 ^ 63)<=k/\k<2 ^ 63/\xs.length*k.toNat<=FX /\
 ∀p,H p=none->Q (.ref p) (upd H p (.lst (D2 k.toNat xs).flatten))
theorem len_rep{α:Type}(xs:List α)(k:Nat):(D2 k xs).flatten.length=k*xs.length:=by
 induction k with
 |zero=>simp
 |succ k ih=>rw[Jo,IM,Bz,ih,Nat.succ_mul,Nat.add_comm]
theorem C8:dO X (J9 .Mult) rRep:=by
 intro pins s σ H x y v u Q I rx ry h;obtain⟨l,k,xs,rfl,rfl,hH,h1,h2,hz,q⟩:=h;cases rx;obtain⟨t,rfl⟩:=ry;obtain⟨z,its,n,r,hl,e⟩:=I.qw hH;have hlen:its.toArray.size*k.toNat<=FX:=by rw[Do,<-hl]; exact hz
 have hcap:¬its.toArray.size*k.toNat>(2 ^ 63-1) / 8:=by
  have:(FX:Nat)<=(2 ^ 63-1) / 8:=by decide
  lia
 have hfit:¬ (!Builtin.List.listFitsIndex k)=true:=by
  rw[fitsIndex_both h1 h2];exact IZ
 have hlong:¬KO (its.toArray.size*k.toNat)=true:=by
  rw[qx hlen];exact IZ
 have hnew:Md (λx1 x2=>x1++x2) #[] (D2 (if its.toArray.isEmpty=true then 0 else k.toNat) its.toArray)=(D2 k.toNat its).flatten.toArray:=by
  have f0:∀m:Nat,Md (λx1 x2=>x1++x2) #[] (D2 m its.toArray)=(D2 m its).flatten.toArray:=λm=>by
   have:=foldl_rep its m [];rw[IT] at this;exact this
  rw[f0];cases its with
  |nil=>simp
  |cons a r'=>rw[if_neg (by simp)]
 refine wpAny_binaryOp_repeat_ref (T := "list") (U := "int") (by decide) ⟨_,e,rfl⟩ (λs'=>Qe s' k t) noFill_list_mul F.fills_int_mul F.slot_int_rmul repeat_list F.slot_int_index.lookup
  (MO F.slot_int_rmul (Qe s k t) F.entry_int_rmul (F.args_int_rmul_2 _ _) (int___rmul___int_list k t l its.toArray n)
   ⟨e,rfl,⟨_,e,rfl⟩,MO F.slot_list_mul ⟨_,e,rfl⟩ F.entry_list_mul (F.args_list_mul_2 _ _) (AutoListH.list___mul___list_int_3 l its.toArray n k t hfit hcap hlong) ⟨e,?_⟩⟩)
 rw[hnew];exact⟨.ref _,_,I.lnew (t':=s.toks) (r.rep k.toNat) (by rw[len_rep,Og]; exact hz),rfl,q _ I.fresh⟩
end
end L2
namespace L2
open PySem PySem.Spec PyProof.Rows
section
variable{κ:Type}[DecidableEq κ]
noncomputable def fS(kvs:List (κ×V))(k:κ):Option V:=(kvs.find? λkv=>decide (kv.1=k)).map (·.2)
noncomputable def putK(kvs:List (κ×V))(k:κ)(v:V):List (κ×V) :=
 if (kvs.any λkv=>decide (kv.1=k))=true then kvs.map (λkv=>if kv.1=k then (kv.1,v) else kv) else kvs++[(k,v)]
theorem eE{p:κ×V}{r:List (κ×V)}{k:κ}(e:p.1=k):fS (p::r) k=some p.2:=by simp[fS,JE,e]
theorem eF{p:κ×V}{r:List (κ×V)}{k:κ}(e:¬p.1=k):fS (p::r) k=fS r k:=by simp[fS,JE,e]
theorem qy(k:κ):∀kvs:List (κ×V),(kvs.any λkv=>decide (kv.1=k))=(fS kvs k).isSome
 |[]=>rfl
 |p::r=>by
  rw[JN]
  by_cases e:p.1=k
  ·simp only[eE e,decide_eq_true e,Bool.true_or,Option.isSome_some]
  ·rw[eF e,decide_eq_false e,Bool.false_or]; exact qy k r
theorem fm(kvs:List (κ×V))(k:κ)(v:V):(putK kvs k v).length<=kvs.length+1:=by
 unfold putK
 split
 ·rw[D1]; lia
 ·rw[Bz,Bn,Ic]; lia
theorem nj.fT{o:Option V}{u:Option Value}(r:nj o u):o.isSome=u.isSome:=by
 cases o with
 |none=>cases u with
  |none=>rfl
  |some _=>exact(show False from r).elim
 |some _=>cases u with
  |none=>exact(show False from r).elim
  |some _=>rfl
theorem KV.val{kvs:List (κ×V)}{vs:List (κ×Value)}(r:KV kvs vs)(k:κ):nj (fS kvs k) (Nb vs k):=by
 unfold KV at r
 induction r with
 |nil=>exact JQ
 |@cons p q ps qs h t ih=>
  obtain⟨h1,h2⟩:=h
  by_cases e:p.1=k
  ·have e':q.1=k:=h1.symm.trans e
   have b:Nb (q::qs) k=some q.2:=by simp[Nb,JE,e']
   rw[eE e,b]; exact h2
  ·have e':¬q.1=k:=λz=>e (h1.trans z)
   have b:Nb (q::qs) k=Nb qs k:=by simp[Nb,JE,e']
   rw[eF e,b]; exact ih
theorem KV.any{kvs:List (κ×V)}{vs:List (κ×Value)}(r:KV kvs vs)(k:κ):(kvs.any λkv=>decide (kv.1=k))=vs.any λkv=>decide (kv.1=k):=by
 unfold KV at r
 induction r with
 |nil=>rfl
 |cons h t ih=>rw[JN,JN,ih,h.1]
theorem KV.repl{kvs:List (κ×V)}{vs:List (κ×Value)}(r:KV kvs vs)(k:κ){y:V}{u:Value}(ry:RelV y u) :
  KV (kvs.map λkv=>if kv.1=k then (kv.1,y) else kv) (vs.map λkv=>if kv.1=k then (kv.1,u) else kv):=by
 unfold KV at r ⊢
 induction r with
 |nil=>exact .nil
 |@cons p q ps qs h t ih=>
  rw[GM,GM];refine .cons ?_ ih;obtain⟨h1,h2⟩:=h
  by_cases e:p.1=k
  ·rw[if_pos e,if_pos (h1.symm.trans e)]; exact⟨h1,ry⟩
  ·rw[if_neg e,if_neg (λz=>e (h1.trans z))]; exact⟨h1,h2⟩
theorem KV.put{kvs:List (κ×V)}{vs:List (κ×Value)}(r:KV kvs vs)(k:κ){y:V}{u:Value}(ry:RelV y u):KV (putK kvs k y) (stored vs k u):=by
 unfold putK stored;rw[r.any k]
 by_cases e:(vs.any λkv=>decide (kv.1=k))=true
 ·rw[if_pos e,if_pos e]; exact r.repl k ry
 ·rw[if_neg e,if_neg e]; exact Qk r ⟨rfl,ry⟩
theorem KV.length{kvs:List (κ×V)}{vs:List (κ×Value)}(r:KV kvs vs):kvs.length=vs.length:=Jq r
end
theorem kY{P:Fk}{w:World}{k:Key}{u:Value}(r:RelV (kV k) u):(aV P w).is k u=true:=by
 cases k with
 |inl i=>obtain⟨t,e⟩:=(show ∃t,u=NA i t from r); subst e; exact qj P w i t
 |inr x=>obtain⟨t,e⟩:=(show ∃t,u=Pe x t from r); subst e; exact qk P w x t
theorem nX{P:Fk}{w:World}:∀{ks:List Key}{us:List Value},Vals (ks.map kV) us->ItemsAre (aV P w) ks us
 |[],_,r=>by rw[N5] at r; cases r; exact .nil
 |k::ks,_,r=>by
  rw[GM] at r;cases r with
  |cons h t=>exact .cons (kY h) (nX t)
abbrev KT(H:Hp):List (List Key×V)->List (List Key×Addr×Value)->Prop:=JV λp q=>p.1=q.1/\H q.2.1=some (.tup (p.1.map kV))/\RelV p.2 q.2.2
theorem KT.val{H:Hp}{kvs:List (List Key×V)}{xs:List (List Key×Addr×Value)}(r:KT H kvs xs)(k:List Key):nj (fS kvs k) ((atKey xs k).map (·.2)):=by
 induction r with
 |nil=>exact JQ
 |@cons p q ps qs h t ih=>
  obtain⟨h1,_,h2⟩:=h
  by_cases e:p.1=k
  ·have e':q.1=k:=h1.symm.trans e
   have b:atKey (q::qs) k=some q.2:=by simp[atKey,JE,e']
   rw[eE e,b]; exact h2
  ·have e':¬q.1=k:=λz=>e (h1.trans z)
   have b:atKey (q::qs) k=atKey qs k:=by simp[atKey,JE,e']
   rw[eF e,b]; exact ih
theorem KT.repl{H:Hp}{kvs:List (List Key×V)}{xs:List (List Key×Addr×Value)}(r:KT H kvs xs)(k:List Key){y:V}{u:Value}(ry:RelV y u) :
  KT H (kvs.map λkv=>if kv.1=k then (kv.1,y) else kv) (xs.map (putAt k u)):=by
 induction r with
 |nil=>exact .nil
 |@cons p q ps qs h t ih=>
  rw[GM,GM];refine .cons ?_ ih;obtain⟨h1,h2,h3⟩:=h;unfold putAt
  by_cases e:p.1=k
  ·rw[if_pos e,if_pos (h1.symm.trans e)]; exact⟨h1,h2,ry⟩
  ·rw[if_neg e,if_neg (λz=>e (h1.trans z))]; exact⟨h1,h2,h3⟩
theorem KT.put{H:Hp}{kvs:List (List Key×V)}{xs:List (List Key×Addr×Value)}(r:KT H kvs xs)(k:List Key){b:Addr}{y:V}{u:Value}(hb:H b=some (.tup (k.map kV)))(ry:RelV y u) :
  KT H (putK kvs k y) (storedH xs k b u):=by
 have e:(kvs.any λkv=>decide (kv.1=k))=(atKey xs k).isSome:=by
  rw[qy,(r.val k).fT,Mc]
 unfold putK storedH;rw[e]
 by_cases q:(atKey xs k).isSome=true
 ·rw[if_pos q,if_pos q]; exact r.repl k ry
 ·rw[if_neg q,if_neg q]; exact Qk r ⟨rfl,hb,ry⟩
theorem KT.keeps{H H':Hp}{kvs:List (List Key×V)}{xs:List (List Key×Addr×Value)}(r:KT H kvs xs)(ht:∀b ys,H b=some (.tup ys)->H' b=some (.tup ys)):KT H' kvs xs :=
 JV.mapP r λ_ _ z=>⟨z.1,ht _ _ z.2.1,z.2.2⟩
section
variable{P:Fk}{w:World}{H:Hp}{h:Heap}{a:Addr}
theorem B7{u:HO}(ok:iC P w H h)(e:Rd H a u):cC P w H h a u:=e.ok ok
theorem nY{kvs:List (Key×V)}(ok:iC P w H h)(e:Rd H a (.dK kvs)):kvs.length<=FX/\(a == KI)=false/\∃vs,KV kvs vs/\h.DictOf (aV P w) a vs :=
 show cC P w H h a (.dK kvs) from B7 ok e
theorem uf{kvs:List (Key×V)}(ok:iC P w H h)(e:H a=some (.dK kvs)):kvs.length<=FX/\(a == KI)=false/\∃vs,KV kvs vs/\h.DictOf (aV P w) a vs:=nY ok (.inl e)
theorem kZ{ks:List Key}(ok:iC P w H h)(e:H a=some (.tup (ks.map kV))):(Nv (aV P w)).is h ks a:=by
 obtain⟨_,its,r,o,h1,h2,n,h3⟩:=(show cC P w H h a (.tup (ks.map kV)) from ok a _ e)
 exact⟨o,its.toArray,n,h1,h2,h3,by simpa using nX r⟩
theorem qz{kvs:List (List Key×V)}(ok:iC P w H h)(e:Rd H a (.dT kvs)):kvs.length<=FX/\(a == KI)=false /\
  ∃xs,KT H kvs xs/\h.DictOfH (Nv (aV P w)) a xs:=by
 obtain⟨z,y,xs,r,o,es,ep,h1,h2,h3,h4,h5⟩:=(show cC P w H h a (.dT kvs) from B7 ok e)
 refine⟨z,y,xs,r,o,es,ep,h1,h2,h3,h4,λx hx=>?_,h5⟩
 have all:∀{l:List (List Key×V)}{m:List (List Key×Addr×Value)},KT H l m->∀x∈m,(Nv (aV P w)).is h x.1 x.2.1:=by
  intro l m q
  induction q with
  |nil=>intro x hx; exact nomatch hx
  |@cons p q ps qs hq t ih=>
   intro x hx;rcases lK hx with e | hx
   ·subst e
    exact kZ ok (by rw[<-hq.1]; exact hq.2.1)
   ·exact ih x hx
 exact all r x hx
theorem dt_of{kvs:List (List Key×V)}(ok:iC P w H h)(e:H a=some (.dT kvs)):kvs.length<=FX/\(a == KI)=false /\
  ∃xs,KT H kvs xs/\h.DictOfH (Nv (aV P w)) a xs:=qz ok (.inl e)
end
def iP(H:Hp)(a:Addr)(y:V)(r:Option V):Prop :=
 (∃kvs k,Rd H a (.dK kvs)/\y=kV k/\r=fS kvs k)\/∃kvs k b,Rd H a (.dT kvs)/\y=.ref b/\H b=some (.tup (k.map kV))/\r=fS kvs k
def xF(H:Hp)(a:Addr)(y v:V)(H':Hp):Prop :=
 (∃kvs k,H a=some (.dK kvs)/\y=kV k/\kvs.length<FX/\H'=upd H a (.dK (putK kvs k v))) \/
 ∃kvs k b,H a=some (.dT kvs)/\y=.ref b/\H b=some (.tup (k.map kV))/\kvs.length<FX/\H'=upd H a (.dT (putK kvs k v))
theorem iP.k{H:Hp}{a:Addr}{kvs:List (Key×V)}{k:Key}(e:H a=some (.dK kvs)):iP H a (kV k) (fS kvs k):=.inl ⟨kvs,k,.inl e,rfl,rfl⟩
theorem xF.k{H:Hp}{a:Addr}{kvs:List (Key×V)}{k:Key}{v:V}(e:H a=some (.dK kvs))(hl:kvs.length<FX):xF H a (kV k) v (upd H a (.dK (putK kvs k v))):=.inl ⟨kvs,k,e,rfl,hl,rfl⟩
section
variable{X:Cx}{pins:List (Addr×Obj)}{σ:St}{H:Hp}{s:B2}{a:Addr}{y v:V}{u r:Value}{o:Option V}{A:HN}{E:Value->B2->Prop}
theorem Inv.big(I:Inv X pins σ H s):KI<s.heap.objs.size:=by
 have h:GE<s.heap.objs.size:=(I.mod.glob.keeps I.bk).lt;exact Nat.lt_trans (by decide) h
theorem vF{Q:Value->B2->Prop}(hu:A.units+1<cLine)(I:Inv X pins σ H s)(g:iP H a y (some v))(ry:RelV y u)(h:∀w' s',Inv X pins σ H s'->RelV v w'->Q w' s') :
  wpAny (model X.prog X.w) A (L4 (.ref a) u) Q E s:=by
 rcases g with⟨kvs,k,e,ey,l⟩ | ⟨kvs,k,b,e,ey,eb,l⟩
 ·subst ey
  obtain⟨z,hd,vs,rel,dd⟩:=nY I.hok e;obtain⟨w',hw,rw'⟩:=nj.some_of (v:=v) (o:=Nb vs k) (by rw[l]; exact rel.val k)
  exact wpAny_getItem_of (kY ry) dd.mapOf hw (h w' _ (I.tok _) rw')
 ·subst ey
  cases (show u=K0 b from ry)
  obtain⟨z,hd,xs,rel,dd⟩:=qz I.hok e;obtain⟨w',hw,rw'⟩:=nj.some_of (v:=v) (o:=(atKey xs k).map (·.2)) (by rw[l]; exact rel.val k)
  obtain⟨p,hp,hp2⟩:=Jn.mp hw;refine wpAny_getItem_heap (Lk hu) (kZ I.hok eb) dd hp ?_;rw[hp2];exact h w' _ (I.tok _) rw'
theorem d_in{Q:Value->B2->Prop}(hu:A.units+1<cLine)(I:Inv X pins σ H s)(g:iP H a y o)(ry:RelV y u)(h:∀s',Inv X pins σ H s'->Q (.bool o.isSome) s') :
  wpAny (model X.prog X.w) A (IG .In u (.ref a)) Q E s:=by
 rcases g with⟨kvs,k,e,ey,l⟩ | ⟨kvs,k,b,e,ey,eb,l⟩
 ·subst ey
  obtain⟨z,hd,vs,rel,dd⟩:=nY I.hok e;refine wpAny_in_of (kY ry) hd dd.mapOf ?_;rw[<-(rel.val k).fT,<-l];exact h _ (I.tok _)
 ·subst ey
  cases (show u=K0 b from ry)
  obtain⟨z,hd,xs,rel,dd⟩:=qz I.hok e;refine wpAny_in_heap (Lk hu) (kZ I.hok eb) hd dd ?_;have q:=(rel.val k).fT;rw[Mc] at q;rw[<-q,<-l];exact h _ (I.tok _)
theorem Ar{Q:Value->B2->Prop}(hu:A.units+1<cLine)(I:Inv X pins σ H s)(g:iP H a y o)(ry:RelV y u)(h:∀s',Inv X pins σ H s'->Q (.bool (!o.isSome)) s') :
  wpAny (model X.prog X.w) A (IG .NotIn u (.ref a)) Q E s:=by
 rcases g with⟨kvs,k,e,ey,l⟩ | ⟨kvs,k,b,e,ey,eb,l⟩
 ·subst ey
  obtain⟨z,hd,vs,rel,dd⟩:=nY I.hok e;refine wpAny_notIn_of (kY ry) hd dd.mapOf ?_;rw[<-(rel.val k).fT,<-l];exact h _ (I.tok _)
 ·subst ey
  cases (show u=K0 b from ry)
  obtain⟨z,hd,xs,rel,dd⟩:=qz I.hok e;refine wpAny_notIn_heap (Lk hu) (kZ I.hok eb) hd dd ?_;have q:=(rel.val k).fT;rw[Mc] at q;rw[<-q,<-l];exact h _ (I.tok _)
theorem kI{h':Heap}{t':Nat}{ob:HO}(I:Inv X pins σ H s)(mu:E9 (H a))(hs:JR a s.heap h')(he:∃q,h'.get? a=some q)(new:cC X.prog X.w (upd H a ob) h' a ob) :
  Inv X pins σ (upd H a ob) { s with heap:=h',toks:=t' } :=
 I.write (x:=a) (e:=a) mu (.inl rfl) (λb q hb z=>(hs.2 b hb).trans z) he new
theorem su{P:Fk}{w:World}{H':Hp}{h':Heap}{kvs:List (Key×V)}{vs:List (Key×Value)}(z:kvs.length<=FX)(hd:(a == KI)=false)(rel:KV kvs vs)(dd:h'.DictOf (aV P w) a vs) :
  cC P w H' h' a (.dK kvs):=⟨z,hd,vs,rel,dd⟩
theorem vH{H':Hp}{Q:Unit->B2->Prop}(hu:A.units+1<cLine)(I:Inv X pins σ H s)(g:xF H a y v H')(ry:RelV y u)(rv:RelV v r)(h:∀s',Inv X pins σ H' s'->Q () s') :
  wpAny (model X.prog X.w) A (setItem (.ref a) u r) Q E s:=by
 rcases g with⟨kvs,k,e,ey,l,eH⟩ | ⟨kvs,k,b,e,ey,eb,l,eH⟩
 ·subst ey eH
  obtain⟨z,hd,vs,rel,dd⟩:=uf I.hok e;have hz:vs.length<=FX:=by rw[<-rel.length]; exact z
  have hl:(putK kvs k v).length<=FX:=by have:=fm kvs k v; lia
  refine wpAny_setItem_pairs (hsz:=hz) (kY ry) dd λh' dd' hs=>h _ ?_
  have he:∃q,h'.get? a=some q:=let ⟨q,_,_,hq,_⟩:=dd'; ⟨q,hq⟩;exact kI I (by rw[e]; exact JQ) hs he (su hl hd (rel.put k rv) dd')
 ·subst ey eH
  cases (show u=K0 b from ry)
  obtain⟨z,hd,xs,rel,dd⟩:=dt_of I.hok e;have hz:xs.length<=FX:=by rw[<-Jq rel]; exact z
  have hl:(putK kvs k v).length<=FX:=by have:=fm kvs k v; lia
  refine wpAny_setItem_heap (hsz:=hz) (Lk hu) (kZ I.hok eb) dd λh' dd' hs=>h _ ?_
  obtain⟨q,es,ep,hq,h2,h3,h4,_,h5⟩:=dd';refine kI I (by rw[e]; exact JQ) hs ⟨q,hq⟩ ⟨hl,hd,_,(rel.put k eb rv).keeps λc ys ec=>?_,q,es,ep,hq,h2,h3,h4,h5⟩
  rw[aA (nP ec e (λz=>nomatch z))]
  exact ec
end
section
variable{X:Cx}{pins:List (Addr×Obj)}{σ:St}{H:Hp}{s:B2}{a:Addr}{kvs:List (Key×V)}{k:Key}{u:Value}{A:HN}{E:Value->B2->Prop}
theorem d_len{Q:Value->B2->Prop}(I:Inv X pins σ H s)(e:Rd H a (.dK kvs))(h:∀t s',Inv X pins σ H s'->Q (.int kvs.length t) s'):wpAny (model X.prog X.w) A (call (.builtin "len") [.ref a]) Q E s:=by
 obtain⟨z,hd,vs,rel,dd⟩:=nY I.hok e;refine call_len_dict hd dd (by rw[<-rel.length]; rw[IC] at z; lia) ?_
 rw[<-rel.length];exact h _ _ (I.tok _)
end
def NoSl(i:Expr):Prop:=∀ov iv,OA i false ov iv=operate [ov,iv] (L4 ov iv)
theorem As{prog:Fk}{w:World}{A:HN}{E:Value->B2->Prop}{s:B2}{env:Env}{value slice:Expr}{pos:Pos}{T id:String}{Q:Value->B2->Prop}
  (hl:typeLookup (.type T) "__getitem__" = pure (some (.builtin id))) (hs:NoSl slice)
  (h:wpAny (model prog w) A (eval value env) (λo s₁=>wpAny (model prog w) A (eval slice env) (λi s₂=>s₂.TypeIs o T/\wpAny (model prog w) A (L4 o i) Q E s₂) E s₁) E s) :
  wpAny (model prog w) A (eval (.Subscript value slice pos) env) Q E s:=by
 refine Oc (J3 h (λo s₁ h₁=>J3 h₁ (λi s₂ h₂=>?_) λ_ _ x=>x) λ_ _ x=>x)
 obtain⟨hT,h₂⟩:=h₂;unfold NI;refine AC ?_;rw[getitemInPython_of_ne hT.not_modules];refine AC (OH hT hl ?_);have fin:wpAny (model prog w) A (OA slice false o i) (λr s₃=>wpAny (model prog w) A (letTemporaryGo value o r >>= λ_=>pure r) Q E s₃) E s₂:=by
  rw[hs o i];exact wpAny_operating (J3 h₂ (λr s₃ h₃=>AC (wpAny_letTemporaryGo (At h₃))) λ_ _ x=>x)
 first
  |exact At (AC fin)
  |exact AC (At (AC fin))
  |exact AC fin
theorem qA{X:Cx}{pins:List (Addr×Obj)}{σ:St}{H:Hp}{s:B2}{a:Addr}{y:V}{o:Option V}(I:Inv X pins σ H s)(g:iP H a y o):s.TypeIs (.ref a) "dict" := by
 rcases g with⟨kvs,k,e,_,_⟩ | ⟨kvs,k,b,e,_,_,_⟩
 ·obtain⟨_,_,vs,_,dd⟩:=nY I.hok e
  exact dd.typeIs
 ·obtain⟨_,_,xs,_,dd⟩:=qz I.hok e
  exact dd.typeIs
noncomputable def xG(td ty:TE):TE:=λσ H Q=>td σ H λx H1=>ty σ H1 λy H2=>∃a v,x=.ref a/\iP H2 a y (some v)/\Q v H2
noncomputable def tDIn(ty td:TE):TE:=λσ H Q=>ty σ H λy H1=>td σ H1 λx H2=>∃a o,x=.ref a/\iP H2 a y o/\Q (.bl o.isSome) H2
noncomputable def Au(ty td:TE):TE:=λσ H Q=>ty σ H λy H1=>td σ H1 λx H2=>∃a o,x=.ref a/\iP H2 a y o/\Q (.bl (!o.isSome)) H2
noncomputable def xH(td ty tv:TE):TS:=λD σ H=>tv σ H λv H1=>td σ H1 λx H2=>ty σ H2 λy H3=>∃a H4,x=.ref a/\xF H3 a y v H4/\D.nx σ H4
section
variable{X:Cx}{o i e value:Expr}{pos pos' tpos:Pos}{td ty tv:TE}
theorem ug(hu:X.A.units+1<cLine)(ho:PE X o td)(hi:PE X i ty)(hs:NoSl i):PE X (.Subscript o i pos) (xG td ty):=by
 intro pins s σ H Q I h;refine As PySem.F.slot_dict_getitem.lookup hs (aZ (ho pins s σ H _ I h) λu s1 ⟨x,H1,I1,rx,q1⟩=>aZ (hi pins s1 σ H1 _ I1 q1) λiv s2 ⟨y,H2,I2,ry,a,v,ex,g,q2⟩=>?_)
 subst ex;obtain rfl:u=K0 a:=rx;exact⟨qA I2 g,vF hu I2 g ry λw' s3 I3 rw'=>⟨v,H2,I3,rw',q2⟩⟩
theorem xJ(hu:X.A.units+1<cLine)(hi:PE X i ty)(ho:PE X o td):PC X .In i o (tDIn ty td):=by
 intro pins s σ H Q I h;refine aZ (hi pins s σ H _ I h) λiv s1 ⟨y,H1,I1,ry,q1⟩=>aZ (ho pins s1 σ H1 _ I1 q1) λu s2 ⟨x,H2,I2,rx,a,ov,ex,g,q2⟩=>?_
 subst ex;obtain rfl:u=K0 a:=rx;exact d_in hu I2 g ry λs3 I3=>⟨.bl ov.isSome,H2,I3,rfl,q2⟩
theorem vJ(hu:X.A.units+1<cLine)(hi:PE X i ty)(ho:PE X o td):PC X .NotIn i o (Au ty td):=by
 intro pins s σ H Q I h;refine aZ (hi pins s σ H _ I h) λiv s1 ⟨y,H1,I1,ry,q1⟩=>aZ (ho pins s1 σ H1 _ I1 q1) λu s2 ⟨x,H2,I2,rx,a,ov,ex,g,q2⟩=>?_
 subst ex;obtain rfl:u=K0 a:=rx;exact Ar hu I2 g ry λs3 I3=>⟨.bl (!ov.isSome),H2,I3,rfl,q2⟩
theorem Av(hu:X.A.units+1<cLine)(ho:PE X o td)(hi:PE X i ty)(hv:PE X value tv)(hs:KS value (some (.Subscript o i pos')) pos.line X.env=pure false) :
  PS X (.Assign [.Subscript o i pos'] value pos) (xH td ty tv):=by
 intro pins s σ H D I h;refine wpAny_Assign_Subscript (aZ (hv pins s σ H _ I h) λr s1 ⟨v,H1,I1,rv,q1⟩=>aZ (ho pins s1 σ H1 _ I1 q1) λu s2 ⟨x,H2,I2,rx,q2⟩=>aZ (hi pins s2 σ H2 _ I2 q2) λiv s3 ⟨y,H3,I3,ry,a,H4,ex,g,q3⟩=>?_) hs
 subst ex;obtain rfl:u=K0 a:=rx;exact vH hu I3 g ry rv λs4 I4=>⟨σ,H4,I4,q3⟩
end
theorem qB{P:Fk}{w:World}{H:Hp}(h:Heap)(hb:KI<h.objs.size):cC P w H (h.push { cls:=.type "dict",data:=.dict #[] }) h.objs.size (.dK []) :=
 ⟨HS _,beq_eq_false_iff_ne.mpr (K8 (FC hb)),[],.nil,Heap.DictOf.new h⟩
def pG:List (TE×TE)->St->Hp->(List (V×V)->Hp->Prop)->Prop
 |[],_,H,Q=>Q [] H
 |(tk,tv)::r,σ,H,Q=>tk σ H λx H1=>tv σ H1 λy H2=>pG r σ H2 λps H3=>Q ((x,y)::ps) H3
abbrev VV:List (V×V)->List (Value×Value)->Prop:=JV λp q=>RelV p.1 q.1/\RelV p.2 q.2
def Fd(X:Cx)(pos:Pos)(keys:List (Option Expr))(values:List Expr)(trs:List (TE×TE)):Prop :=
 ∀(pins:List (Addr×Obj))(s:B2)(σ:St)(H:Hp)(Q:List (V×V)->Hp->Prop),Inv X pins σ H s->pG trs σ H Q ->
  wpAny (model X.prog X.w) X.A (evalPairs (pairTrees keys values X.env pos)) (λvs s'=>∃ps H',Inv X pins σ H' s'/\VV ps vs/\Q ps H') X.xe s
theorem Aw{X:Cx}{pos:Pos}:Fd X pos [] [] []:=λpins s σ H Q I h=>pairTrees_nil_walk ⟨[],H,I,.nil,h⟩
theorem xK{X:Cx}{pos:Pos}{k v:Expr}{ks:List (Option Expr)}{vs:List Expr}{tk tv:TE}{trs:List (TE×TE)}(hk:PE X k tk)(hv:PE X v tv)(hr:Fd X pos ks vs trs) :
  Fd X pos (some k::ks) (v::vs) ((tk,tv)::trs):=λpins s σ H Q I h=>
 pairTrees_cons_walk (aZ (hk pins s σ H _ I h) λu s1 ⟨x,H1,I1,rx,q1⟩=>aZ (hv pins s1 σ H1 _ I1 q1) λw2 s2 ⟨y,H2,I2,ry,q2⟩=>
  aZ (hr pins s2 σ H2 _ I2 q2) λws s3 ⟨ps,H3,I3,rel,q3⟩=>⟨(x,y)::ps,H3,I3,.cons ⟨rx,ry⟩ rel,q3⟩)
noncomputable def iQ(kvs more:List (Key×V)):List (Key×V):=more.foldl (λacc kv=>putK acc kv.1 kv.2) kvs
theorem KV.merge:∀{more:List (Key×V)}{rs:List (Key×Value)}{kvs:List (Key×V)}{vs:List (Key×Value)},KV more rs->KV kvs vs->KV (iQ kvs more) (merged vs rs):=by
 intro more rs kvs vs r;unfold KV at r
 induction r generalizing kvs vs with
 |nil=>intro q; exact q
 |@cons p q ps qs h t ih=>
  intro r0;have e:KV (putK kvs p.1 p.2) (stored vs q.1 q.2):=by
   have:=r0.put p.1 h.2;rw[<-h.1]; exact this
  exact ih e
theorem iD:∀(more kvs:List (Key×V)),(iQ kvs more).length<=kvs.length+more.length
 |[],kvs=>by show kvs.length<=kvs.length+0; lia
 |p::r,kvs=>by
  have h1:=iD r (putK kvs p.1 p.2);have h2:=fm kvs p.1 p.2;show (iQ (putK kvs p.1 p.2) r).length<=_;rw[Bn]; lia
theorem lg{P:Fk}{w:World}:∀{kvs:List (Key×V)}{ws:List (Value×Value)},VV (kvs.map λkv=>(kV kv.1,kv.2)) ws->∃rs,Carries (aV P w) ws rs/\KV kvs rs
 |[],_,r=>by rw[N5] at r; cases r; exact⟨[],JQ,.nil⟩
 |p::kvs,_,r=>by
  rw[GM] at r;cases r with
  |@cons a b as bs h t=>
   obtain⟨rs,c,q⟩:=lg (P:=P) (w:=w) t;obtain⟨b1,b2⟩:=b;exact⟨(p.1,b2)::rs,⟨kY h.1,rfl,c⟩,.cons ⟨rfl,h.2⟩ q⟩
noncomputable def tDisp(trs:List (TE×TE)):TE:=λσ H Q=>∀p,H p=none->pG trs σ (upd H p (.dK [])) λps H2=>H2 p=some (.dK [])/\∃kvs:List (Key×V),ps=kvs.map (λkv=>(kV kv.1,kv.2))/\kvs.length<=15/\Q (.ref p) (upd H2 p (.dK (iQ [] kvs)))
theorem Ax{X:Cx}{pos:Pos}{keys:List (Option Expr)}{values:List Expr}{trs:List (TE×TE)}(h:Fd X pos keys values trs)(hall:keys.all (·.isSome)=true)(hl:keys.length=values.length)(h0:keys≠[])
  (h15:keys.length<=15):PE X (.Dict keys values pos) (tDisp trs):=by
 intro pins s σ H Q I q;have hn:=I.hok.fresh (Db s.heap.objs.size);have I1:=I.laid (a:=s.heap.objs.size) (o:=.dK []) (h':=s.heap.push { cls:=.type "dict",data:=.dict #[] }) (t':=s.toks) (λ_ _ q=>Ap _ q) (Db _) (qB s.heap I.big)
 refine wpAny_Dict_walk (knd:=aV X.prog X.w) hall hl h0 h15 (aZ (h pins _ σ _ _ I1 (q _ hn)) λws s2 ⟨ps,H2,I2,rel,e,kvs,ep,lk,q2⟩=>?_)
 subst ep;obtain⟨rs,c,rk⟩:=lg (P:=X.prog) (w:=X.w) rel;obtain⟨z,hd,vs0,r0,dd⟩:=uf I2.hok e;cases r0;refine⟨rs,c,dd,λh' dd' hs=>⟨.ref s.heap.objs.size,_,?_,rfl,q2⟩⟩
 have hz:(iQ [] kvs).length<=FX:=by
  have h1:=iD kvs [];rw[Ic] at h1;rw[IC]; lia
 have he:∃q,h'.get? s.heap.objs.size=some q:=let ⟨q,_,_,hq,_⟩:=dd'; ⟨q,hq⟩;exact kI I2 (by rw[e]; exact JQ) hs he (su hz hd (rk.merge .nil) dd')
end L2
namespace Att
open PySem PySem.W PySem.Calls PyProof.Rows
theorem kE{P:Params}{h:Heap}:∀(ns:List Int)(vs:List Value),WellAll P h vs (ns.map WData.int)->JJ vs ns:=by
 intro ns
 induction ns with
 |nil=>
  intro vs w;rw[N5] at w;cases w;exact .nil
 |cons n ns ih=>
  intro vs w;rw[GM] at w;cases w with
  |cons a b=>
   cases a;exact .cons _ _ (ih _ b)
theorem vK{l:Lg}{n:Nat}(hn:l.most=some n){P:Params}{h:Heap}{args:List WData}{vals:List Value}
  (hpre:l.row.toRowW.claim.pre args=true) (hwl:WellAll P h vals args) :
  ∃a vs ns,vals=[K0 a]/\args=[WData.list (ns.map WData.int)]/\h.get? a=some { cls:=.type "list",data:=.seq vs.toArray }/\JJ vs ns/\ns.length<=n:=by
 have hsh:WShape.hasAll [] args [.list .int]=true:=(pre_splitW hpre).1;have hc:l.pre.holds [] { args:=args }=true:=(pre_splitW hpre).2;obtain⟨d,r,rfl,h1,h2⟩:=hasAllW_cons hsh;obtain rfl:=hasAllW_nil h2;obtain⟨xs,rfl,h3⟩:=hasW_list h1;obtain⟨ns,rfl⟩:=items_int h3;have hlen:ns.length<=n:=by
  unfold OpenLaw.pre at hc;have h4:(WTm.not (.lt (.lit (.int (n:Int))) (.len (.arg 0)))).holds [] { args:=[.list (ns.map .int)] }=true:=by
   have h4:=(holds_andW hc).1;rw[hn] at h4;exact h4
  have h5:=condW_of h4 (w_not (w_lt w_lit (w_len_list (w_arg rfl))));rw[D1] at h5;refine NP λq=>?_
  have q':(n:Int)<((ns.length:Nat):Int):=by lia
  first
   |(rw[decide_eq_true q'] at h5; exact absurd h5 (by decide))
   |(simp at h5; lia)
 cases hwl with
 |cons w1 w2=>
  cases w2;cases w1 with
  |list ho hall=>exact⟨_,_,ns,rfl,rfl,ho,kE ns _ hall,hlen⟩
theorem vL(l:Lg)(args:List WData):l.row.toRowW.claim.post args (.bool true) args=true :=
 postW_of (r:=l.row.toRowW) (X:=(true == true))
  (show WShape.has [] (.bool true) .bool=true by first | rfl | decide | simp[WShape.has,WShape.arms,WShape.armsAll])
  (show (WTm.eq .res (.lit (.bool true))).value [] { args:=args,res:=some (.bool true),after:=args }=some (.bool (true == true)) from w_eq_bool (w_res rfl) w_lit) rfl
theorem qC{l:Lg}{n:Nat}{q:Fk}{loose:List Str}{XP:(Str->Option Value)->Heap->Prop}{YP:World->Heap->Prop}{d:DefRec}
  (hn:l.most=some n) (hdf:d.params.defaults=[])
  (call:∀(w:World)(s₀ s₁:B2)(mg mb:Str->Option Value)(fa:Addr)(o:Obj)(pm cd doc:Value)(a:Addr)(vs:List Value)(ns:List Int),
   Ground q loose [] XP w s₀ mg mb s₁.heap->YP w s₁.heap ->
   s₁.heap.get? fa=some o->o.data=.func (docDef d.name d.params d.body d.scope pm cd doc)->s₁.heap.CodeRec cd d.name->mg d.name=some (.ref fa) ->
   s₁.heap.get? a=some { cls:=.type "list",data:=.seq vs.toArray }->JJ vs ns->ns.length<=n->s₁.gens = #[] ->
   Js (model l.prog w) Nf (.call (.ref fa) ⟨[.ref a],[]⟩) (λr s'=>r=.ok (.ret (.bool true))/\OldK s₁.heap s'.heap/\s'.os=s₁.os/\MR s'.gens) s₁) :
  WalkO q loose XP YP l.row.toRowW d [] (λf vs=>Ou f vs):=by
 intro w s₀ s₁ mg mb G Y fa o pm cd doc dV kV ho hd hcd hD hmg hg args vals as hpre hlay hrd hwl hlo;obtain rfl:dV=.none:=Dflts.none hD hdf;obtain rfl:kV=.none:=Dflts.noKw hD;obtain⟨a,vs,ns,rfl,rfl,hobj,hints,hlen⟩:=vK hn hpre hwl;refine enter_call (MN (call w s₀ s₁ mg mb fa o pm cd doc a vs ns G Y ho (fd_plain hd) hcd hmg hobj hints hlen hg) λr s' hq=>?_)
 obtain⟨rfl,h2,h3,h4⟩:=hq;exact⟨.inl ⟨.bool true,.bool true,[],rfl,λ_=>rfl,.bool true,vL l _,λ_=>⟨List.Pairwise.nil,λ_ hm=>(nomatch hm)⟩⟩,h2,h3,h4⟩
end Att
namespace L2
open PySem PySem.Spec PyProof.Rows
theorem nZ:∀{vs:List Value}{ns:List Int},JJ vs ns->Vals (ns.map V.int) vs
 |_,_,.nil=>.nil
 |_,_,.cons n t h=>.cons ⟨t,rfl⟩ (nZ h)
def Only(H:Hp):Prop:=∀b,H b=none\/∃o xs,H b=some (.frz o (.lst xs))
theorem xM{P:Fk}{w:World}{K:AT}{mg mb:Str->Option Value}{CX:wX}{k:Nat}{fa a:Addr}{fd:Jv}{x:Str}{sp:Sp}{s₁:B2}{vs:List Value}{ns:List Int}
  (KX:K.In s₁.heap) (hns:s₁.heap.Ns GE mg) (hb:s₁.heap.Ns Qi mb) (hbb:∀x:Str,x ≠ "__name__"->mb x=JI x) (hlim:s₁.heap.NoLimit) (hg:s₁.gens = #[])
  (ha:s₁.heap.get? a=some { cls:=.type "list",data:=.seq vs.toArray }) (hi:JJ vs ns) (hl:ns.length<=FX) (hr:eY k Nf)
  (F:∀base:Heap,K.In base->base.Ns GE mg->cF P w K mg base CX k fa fd [x] sp) (hbind:∀(s:B2)(u:Value),OP s fd ⟨[u],[]⟩ [(x,u)])
  (hsp:∀H:Hp,Only H->fj K H a (ns.map V.int)->sp [.ref a] H (λv _=>v=.bl true) λ_ _ _=>False)
  (hCX:∀H e s',CX [] H s₁ (λ_ _ _=>False) e s'->False) :
  Js (model P w) Nf (.call (.ref fa) ⟨[.ref a],[]⟩) (λr s'=>r=.ok (.ret (.bool true))/\OldK s₁.heap s'.heap/\s'.os=s₁.os/\MR s'.gens) s₁:=by
 have rv:=nZ hi;have lenV:=hi.length;have core:∀H:Hp,Only H->fj K H a (ns.map V.int)->iC P w H s₁.heap->(∀b,H b≠none->b=a)->(H a≠none->K.lookup a=none) ->
   Js (model P w) Nf (.call (.ref fa) ⟨[.ref a],[]⟩) (λr s'=>r=.ok (.ret (.bool true))/\OldK s₁.heap s'.heap/\s'.os=s₁.os/\MR s'.gens) s₁:=by
  intro H hO hS hok hA hK;have base_of:∀{b:Addr}{o:Obj},s₁.heap.get? b=some o->H b=none->(oW s₁.heap H).get? b=some o:=λe n=>w5 e n
  have noA:∀{b:Addr}{o:Obj}{es:Array DictEntry}{ep:Nat},s₁.heap.get? b=some o->o.data=.dict es ep->H b=none:=λ{b o es ep}e d=>by
   cases q:H b with
   |none=>rfl
   |some u=>
    have e':b=a:=hA b (by rw[q]; simp)
    subst e';rw[ha] at e; cases e;have d':Data.seq vs.toArray _=Data.dict es ep:=d;cases d'
  have nsK:∀{b:Addr}{m:Str->Option Value},s₁.heap.Ns b m->(oW s₁.heap H).Ns b m:=λ{b m} ⟨o,es,ep,e,d,r⟩=>⟨o,es,ep,base_of e (noA e d),d,r⟩
  have hKb:K.In (oW s₁.heap H):=λb o e=>base_of (KX b o e) (by
   cases q:H b with
   |none=>rfl
   |some u=>
    have e':b=a:=hA b (by rw[q]; simp)
    subst e';rw[hK (by rw[q]; simp)] at e; cases e)
  have hM:Mod K mg (oW s₁.heap H):=⟨hKb,nsK hns,⟨mb,nsK hb,hbb⟩,let ⟨mc,h1,h2⟩:=hlim; ⟨mc,nsK h1,h2⟩⟩;have e0:Env0 P w K mg (oW s₁.heap H) Nf [] s₁ H:=⟨rfl,hM,λb o e=>zX e,Nat.le_of_eq (vj _ _),trivial,λb hb=>absurd (show b∈([]:List Addr) from hb) (by simp),hok,.of_eq hg⟩
  refine MN ((F _ hKb (nsK hns)).run Nf [] s₁ H ⟨[.ref a],[]⟩ [.ref a] [.ref a] _ _ hr e0 (hbind s₁ (.ref a)) (.cons rfl .nil) (hsp H hO hS)) λr s' h=>?_
  cases r with
  |error e=>exact(hCX H e s' h).elim
  |ok fl=>
   cases fl with
   |next=>exact KR h
   |brk=>exact KR h
   |cont=>exact KR h
   |ret u=>
    obtain⟨v,H',os,bare,un,hok',r',q⟩:=h;have q':v=.bl true:=q;subst q';obtain rfl:u=Ng true:=r';refine⟨rfl,OldK.of_keep λb o e=>?_,os,bare⟩
    cases q:H b with
    |none=>exact un.keep b o e q (by intro z; exact absurd (show b∈([]:List Addr) from z) (by simp)) (by simp)
    |some u=>
     rcases hO b with z | ⟨ob,xs,z⟩
     ·rw[q] at z; cases z
     ·have z2:=un.d8 b ob _ z
      obtain⟨e1,_⟩:=hok b _ z;obtain⟨e2,_⟩:=hok' b _ z2;rw[e] at e1; cases e1;exact e2
 cases hk:K.lookup a with
 |some o=>
  have e:=KX a o hk;rw[ha] at e;cases e;refine core (λ_=>none) (λ_=>.inl rfl) (.inr ⟨_,vs.toArray,_,hk,rfl,rfl,rfl,by rw[Do,lenV]; exact hl,by simpa using rv⟩) (λb u z=>by have z':(none:Option HO)=some u:=z; cases z') (λb z=>absurd rfl z) λz=>absurd rfl z
 |none=>
  refine core (λb=>if b=a then some (.frz { cls:=.type "list",data:=.seq vs.toArray } (.lst (ns.map V.int))) else none) (λb=>?_) (.inl (.inr ⟨{ cls:=.type "list",data:=.seq vs.toArray },if_pos rfl⟩)) (λb u z=>?_) (λb z=>?_) λ_=>hk
  ·by_cases hb:b=a
   ·exact .inr ⟨_,_,if_pos hb⟩
   ·exact .inl (if_neg hb)
  ·by_cases hb:b=a
   ·have z':=(if_pos hb).symm.trans z
    cases z';subst hb;exact⟨ha,by rw[D1]; exact hl,vs,_,rv,ha⟩
   ·have z':=(if_neg hb).symm.trans z
    cases z'
  ·by_cases hb:b=a
   ·exact hb
   ·exact absurd (if_neg hb) z
end L2
namespace L2
open PySem PySem.Spec PyProof.Rows
theorem Ay{l:Lg}{n k:Nat}{q:Fk}{loose:List Str}{XP:(Str->Option Value)->Heap->Prop}{YP:World->Heap->Prop}{d:DefRec}{K:Params->AT}{CX:World->wX}{sp:World->Sp}{x:Str}
  (hn:l.most=some n) (hn2:n<=FX) (hdf:d.params.defaults=[]) (hr:eY k Nf)
  (hY:∀(w:World)(h:Heap),YP w h->(K w.params).In h)
  (F:∀(w:World)(mg:Str->Option Value)(fa:Addr)(h:Heap),(K w.params).In h->h.Ns GE mg->mg d.name=some (.ref fa) ->
   ∃fd:Jv,(∀(s:B2)(u:Value),OP s fd ⟨[u],[]⟩ [(x,u)]) /\
    ∀base:Heap,(K w.params).In base->base.Ns GE mg->cF l.prog w (K w.params) mg base (CX w) k fa fd [x] (sp w))
  (hsp:∀(w:World)(H:Hp)(a:Addr)(ns:List Int),ns.length<=n->Only H->fj (K w.params) H a (ns.map V.int)->sp w [.ref a] H (λv _=>v=.bl true) λ_ _ _=>False)
  (hCX:∀(w:World)(H:Hp)(s:B2)(e:Value)(s':B2),CX w [] H s (λ_ _ _=>False) e s'->False) :
  Q1 q loose XP YP l.row.toRowW d [] (λf vs=>Ou f vs):=by
 refine Att.qC hn hdf λw s₀ s₁ mg mb fa o pm cd doc a vs ns G Y ho hd hcd hmg hobj hints hlen hg=>?_
 have KX:=hY w _ Y;obtain⟨fd,hb,hF⟩:=F w mg fa _ KX G.T.g hmg;exact xM KX G.T.g G.T.b G.T.builtins G.T.nolimit hg hobj hints (JF hlen hn2) hr hF hb (λH hO hS=>hsp w H a ns hlen hO hS) λH e s'=>hCX w H s₁ e s'
end L2
namespace L2
open PySem PySem.Spec PyProof.Rows
noncomputable def aY(s:Stmt):Arguments:=match s with
 |.FunctionDef _ a _ _ _ _ _ _ _ _=>a
 |_=>{ posonlyargs:=[],args:=[],vararg:=none,kwonlyargs:=[],kw_defaults:=[],kwarg:=none,defaults:=[] }
noncomputable def aQ(s:Stmt):List Stmt:=match s with
 |.FunctionDef _ _ b _ _ _ _ _ _ _=>b
 |_=>[]
noncomputable def ao(s:Stmt):Scope:=match s with
 |.FunctionDef _ _ _ _ _ _ sc _ _ _=>sc
 |_=>{ kind:=.function,names:=[],isGenerator:=false,isCoroutine:=false }
abbrev jc:wX:=λ_ _ _ _ _ _=>False
abbrev E0:XK:=λ_ _ _=>False
theorem pass0{X:Cx}:Passes jc X E0:=λ_ _ _ _ _ _ _ h=>h.elim
structure lq(K:AT)(x qual:Str)(st:Stmt)(f:Addr)(fd:Jv):Prop where
 ex:∃ (oc:Value) (od:Option Addr) (kV doc pm:Value) (an:Option Addr) (cdv ct:Value) (osl:Array (Option Value)),
  fd=HZ x qual (aY st) (aQ st) (ao st) .none kV doc pm an cdv ct/\K.lookup f=some ⟨oc,od,.func fd,osl⟩/\Hb K cdv qual=true
 kp:HY K (.ref f)=true
section
variable{P:Fk}{w:World}{K:AT}{mg:Str->Option Value}{base:Heap}
theorem lq.ok{x qual:Str}{st:Stmt}{f:Addr}{fd:Jv}{N ps:List Str}{k:Nat}{sp:Sp}(F:lq K x qual st f fd)(S:aX N ps (ao st))(len:∀vs H Q E,sp vs H Q E->vs.length=ps.length)
  (hbody:∀(cdv:Value)(A:HN)(outer:List Env)(s:B2)(H:Hp)(vs:List V)(Q:VK)(E:XK),eY k (A.deeper (MQ qual (ao st) s.heap.objs.size f cdv))->sp vs H Q E ->
   ∃t,rS (qo jc P w K mg base N qual (ao st) f cdv A outer s H E).EM (aQ st) t/\t { nx:=λ_ H'=>Q .non H',rt:=Q } (start N vs) H):cF P w K mg base jc (k+1) f fd ps sp:=by
 obtain⟨oc,od,kV,doc,pm,an,cdv,ct,osl,rfl,lk,hcd⟩:=F.ex;refine fn_of lk hcd S len λA outer s H vs Q E hr hsp=>?_
 obtain⟨t,h,q⟩:=hbody cdv A outer s H vs Q E hr hsp;exact⟨t,h.EM,q⟩
theorem lq.binds{x qual:Str}{st:Stmt}{f:Addr}{fd:Jv}{ps:List Str}(F:lq K x qual st f fd)
  (h:∀(kV doc pm:Value)(an:Option Addr)(cdv ct:Value)(us:List Value),us.length=ps.length->bindArgs (HZ x qual (aY st) (aQ st) (ao st) .none kV doc pm an cdv ct) ⟨us,[]⟩=pure (ps.zip us)):Binds K fd ps []:=by
 obtain⟨oc,od,kV,doc,pm,an,cdv,ct,osl,rfl,lk,hcd⟩:=F.ex;exact .all (h kV doc pm an cdv ct)
theorem cG{x qual:Str}{st:Stmt}{f:Addr}{oc:Value}{od an:Option Addr}{osl:Array (Option Value)}{kV doc pm cdv ct:Value}(l:K.lookup f=some ⟨oc,od,.func (HZ x qual (aY st) (aQ st) (ao st) .none kV doc pm an cdv ct),osl⟩)
  (c:Hb K cdv qual=true) (k:HY K (.ref f)=true):lq K x qual st f (HZ x qual (aY st) (aQ st) (ao st) .none kV doc pm an cdv ct):=⟨⟨oc,od,kV,doc,pm,an,cdv,ct,osl,rfl,l,c⟩,k⟩
end
section
variable{X:Cx}
theorem pv(i:Nat){x:Str}{pos:Pos}(hN:X.N[i]? = some x:=by rfl)(hv:BZ X.env.scope x:=by first | exact HP rfl | exact KY (HP rfl) | exact KY (KY rfl))(hd:(x == ("__debug__" : Str))=false:=by decide)
  (hcd:(x == ("__classdict__" : Str))=false:=by decide):PE X (.Name x pos) (dP i):=rW hN hv hd hcd
theorem n8:bY X (.builtin "len") (λxs H Q=>∃a kvs,xs=[V.ref a]/\H a=some (.dK kvs)/\Q (.int kvs.length) H):=by
 intro pins s σ H xs us Q I r h;obtain⟨a,kvs,rfl,ha,q⟩:=h;obtain⟨u,rfl,ru⟩:=vals1 r;cases ru;exact d_len I (.inl ha) λt s' I'=>⟨.int kvs.length,H,I',⟨t,rfl⟩,q⟩
end
theorem iteF{A B:Prop}(h:B):if false=true then A else B:=by
 rw[if_neg IZ];exact h
theorem iteT{A B:Prop}(h:A):if true=true then A else B:=by
 rw[if_pos rfl];exact h
def bA(H H':Hp):Prop:=∀b o,H b=some o->H' b=some o
theorem bA.refl(H:Hp):bA H H:=λ_ _ h=>h
theorem bA.free{H H':Hp}(e:bA H H'){l:Addr}(h:H' l=Qo):H l=Qo:=by
 cases q:H l with
 |none=>rfl
 |some o=>
  rw[e l o q] at h;cases h
end L2
end
section
namespace L2
open PySem PySem.Spec PyProof.Rows
noncomputable def aM(cells:List (Str×Addr)):List (Str×Kc)->List (Str×Addr)->List (Str×Addr)
 |[],cs=>cs
 |(n,k)::r,cs=>if (k == J6)=true then (match cells.lookup n with | some a=>aM cells r ((n,a)::cs) | none=>aM cells r cs) else aM cells r cs
theorem pH{env:Env}:∀(names:List (Str×Kc))(cs:List (Str×Addr)),(∀x∈names,x.2=.free->∃a,env.cells.lookup x.1=some a) ->
  (forIn names cs λ(x:Str×Kc)(r:List (Str×Addr))=>(if (x.2 == J6)=true then (do let a <-cellOf env x.1; pure (Lj ((x.1,a)::r))) else pure (Lj r):Sem (ForInStep (List (Str×Addr)))))=(pure (aM env.cells names cs):Sem (List (Str×Addr)))
 |[],cs,_=>rfl
 |(n,k)::r,cs,h=>by
  rw[NX]
  by_cases hk:(k == J6)=true
  ·obtain⟨a,ha⟩:=h (n,k) lS (by simpa using hk)
   have ha:env.cells.lookup n=some a:=ha;have hcell:cellOf env n=pure a:=by unfold cellOf; rw[ha]
   simp only[hk,if_true];rw[hcell];show (forIn r ((n,a)::cs) _:Sem _)=_;rw[pH r _ λx hx=>h x (lO _ hx)]
   simp only[aM,hk,if_true,ha]
  ·simp only[hk,if_false]
   show (forIn r cs _:Sem _)=_;rw[pH r _ λx hx=>h x (lO _ hx)]
   simp only[aM,hk,if_false];rfl
theorem cy{scope:Scope}{env:Env}(h:∀x∈scope.names,x.2=.free->∃a,env.cells.lookup x.1=some a):closureFor scope env=pure (aM env.cells scope.names []):=by
 have e:=pH (env:=env) scope.names [] h;unfold closureFor;simp only[bind_pure_comp] at e ⊢
 first
  |(rw[<-e]; rfl)
  |(simpa using e)
theorem dN{cells:List (Str×Addr)}{y:Str}{c:Addr}:∀(names:List (Str×Kc))(cs:List (Str×Addr)),(∀y c,cs.lookup y=some c->cells.lookup y=some c)->(aM cells names cs).lookup y=some c->cells.lookup y=some c
 |[],cs,h,e=>h y c e
 |(n,k)::r,cs,h,e=>by
  unfold aM at e
  by_cases hk:(k == J6)=true
  ·rw[if_pos hk] at e
   cases ha:cells.lookup n with
   |none=>
    rw[ha] at e;exact dN r cs h e
   |some a=>
    rw[ha] at e;refine dN r _ (λy c q=>?_) e
    rw[K4] at q
    by_cases hy:(y == n)=true
    ·rw[hy] at q
     cases q;have:y=n:=by simpa using hy
     rw[this]; exact ha
    ·have hy':(y == n)=false:=by simpa using hy
     rw[hy'] at q;exact h y c q
  ·rw[if_neg hk] at e
   exact dN r cs h e
theorem gm{cells:List (Str×Addr)}{y:Str}:∀(names:List (Str×Kc))(cs:List (Str×Addr)),(cs.lookup y).isSome=true->((aM cells names cs).lookup y).isSome=true
 |[],cs,h=>h
 |(n,k)::r,cs,h=>by
  unfold aM
  by_cases hk:(k == J6)=true
  ·rw[if_pos hk]
   cases ha:cells.lookup n with
   |none=>exact gm r cs h
   |some a=>
    refine gm r _ ?_;rw[K4]
    by_cases hy:(y == n)=true
    ·rw[hy]; rfl
    ·have hy':(y == n)=false:=by simpa using hy
     rw[hy']; exact h
  ·rw[if_neg hk]
   exact gm r cs h
theorem gP{cells:List (Str×Addr)}{y:Str}:∀(names:List (Str×Kc))(cs:List (Str×Addr)),(y,J6)∈names->(cells.lookup y).isSome=true->((aM cells names cs).lookup y).isSome=true
 |[],cs,h,_=>by simp at h
 |(n,k)::r,cs,h,hy=>by
  unfold aM;rcases lK h with e | h'
  ·cases e
   rw[if_pos (by rfl)]
   cases ha:cells.lookup y with
   |none=>rw[ha] at hy; cases hy
   |some a=>
    refine gm r _ ?_;rw[K4,show (y == y)=true by simp]
    rfl
  ·by_cases hk:(k == J6)=true
   ·rw[if_pos hk]
    cases ha:cells.lookup n with
    |none=>exact gP r cs h' hy
    |some a=>exact gP r _ h' hy
   ·rw[if_neg hk]
    exact gP r cs h' hy
theorem jd{scope:Scope}{env:Env}{x:Str}{k:Kc}(hc:∀y∈scope.names,y.2≠.cell):(Nd scope env).names.lookup x=some k->(k=.cell\/k=.free)->scope.names.lookup x=some .free:=by
 unfold Nd;dsimp only;generalize hn:scope.names=names at hc ⊢
 clear hn
 induction names with
 |nil=>intro h; simp at h
 |cons p r ih=>
  obtain⟨n,k0⟩:=p;intro h hk;rw[GM,K4] at h;rw[K4];have hc':∀y∈r,y.2≠.cell:=λy hy=>hc y (lO _ hy)
  by_cases hx:(x == n)=true
  ·rw[hx]
   have hk0:=hc (n,k0) lS;have hk0:k0≠.cell:=hk0
   by_cases hq:(k0 == J6 && env.scope.kind == .function && env.kindOf n == some .cell)=true
   ·have:(k0 == J6)=true:=by
     rw[J0,J0] at hq;exact hq.1.1
    have:k0=.free:=by simpa using this
    rw[this]
   ·rw[if_neg hq] at h
    dsimp only at h;rw[hx] at h
    injection h with h
    subst h;rcases hk with z | z
    ·exact absurd z hk0
    ·rw[z]
  ·have hx':(x == n)=false:=by simpa using hx
   rw[hx'];refine ih hc' ?_ hk
   by_cases hq:(k0 == J6 && env.scope.kind == .function && env.kindOf n == some .cell)=true
   ·rw[if_pos hq] at h
    dsimp only at h;rw[hx'] at h;exact h
   ·rw[if_neg hq] at h
    dsimp only at h;rw[hx'] at h;exact h
theorem pI{scope:Scope}{env:Env}{x:Str}:scope.names.lookup x=some .free->(Nd scope env).names.lookup x=some .cell\/(Nd scope env).names.lookup x=some .free:=by
 unfold Nd;dsimp only;generalize hn:scope.names=names
 clear hn
 induction names with
 |nil=>intro h; simp at h
 |cons p r ih=>
  obtain⟨n,k0⟩:=p;intro h;rw[K4] at h;rw[GM,K4]
  by_cases hx:(x == n)=true
  ·rw[hx] at h
   injection h with h
   subst h
   by_cases hq:(J6 == J6 && env.scope.kind == .function && env.kindOf n == some .cell)=true
   ·rw[if_pos hq]; dsimp only; rw[hx]; exact .inl rfl
   ·rw[if_neg hq]; dsimp only; rw[hx]; exact .inr rfl
  ·have hx':(x == n)=false:=by simpa using hx
   rw[hx'] at h
   by_cases hq:(k0 == J6 && env.scope.kind == .function && env.kindOf n == some .cell)=true
   ·rw[if_pos hq]; dsimp only; rw[hx']; exact ih h
   ·rw[if_neg hq]; dsimp only; rw[hx']; exact ih h
noncomputable def ay(X:Cx)(scope:Scope)(cl:List (Str×Addr))(N:List Str)(C:Addr)(fp:List Addr)(s:B2)(H:Hp):Cx :=
 { X with N:=N,s₀:=s,H₀:=H,env:=Ml scope cl C X.env,outer:=X.stack,ex:=fp,fn:=λ_=>false,pn:=[],xe:=λ_ _=>False }
structure Bk where
 cl:List (Str×Addr)
 C:Addr
 fp:List Addr
 s:B2
 H:Hp
noncomputable def lu(fr:List (Option Nat))(σ:St):St:=fr.map λo=>match o with
 |some j=>(match σ[j]? with | some v=>v | none=>none)
 |none=>none
structure aP(X:Cx)(scope:Scope)(N:List Str)(fr:List (Option Nat)):Prop where
 kind:scope.kind=.function
 nocell:∀y∈scope.names,y.2≠.cell
 locs:∀y∈scope.names,y.2=.local->scope.names.lookup y.1=some .local
 free:∀y∈scope.names,y.2=.free->X.env.kindOf y.1=some .cell\/X.env.kindOf y.1=some .free
 len:fr.length=N.length
 fr:∀(i j:Nat)(x:Str),N[i]? = some x->fr[i]? = some (some j)->X.N[j]? = some x/\scope.names.lookup x=some .free
 nd:N.Nodup
theorem eK{x:Str}{k:Kc}:∀{l:List (Str×Kc)},l.lookup x=some k->(x,k)∈l:=λh=>Jy h
section
variable{X:Cx}{pins:List (Addr×Obj)}{σ:St}{H:Hp}{s:B2}{scope:Scope}{N:List Str}{fr:List (Option Nat)}{fp:List Addr}
theorem aP.cells(S:aP X scope N fr)(I:Inv X pins σ H s):∀x∈scope.names,x.2=.free->∃a,X.env.cells.lookup x.1=some a:=λx hx e=>I.ok.has x.1 (S.free x hx e)
theorem je{h1:Heap}{m:Str->Option Value}{ob:Obj}{tk:Nat}(I:Inv X pins σ H s)(S:aP X scope N fr)(hf:∀b∈fp,gG X pins H b)(hs:∀b∈fp,b<s.heap.objs.size)
  (hns:h1.Ns s.heap.objs.size m) (hsb:JR s.heap.objs.size (s.heap.push ob) h1) :
  Inv (ay X scope (aM X.env.cells scope.names []) N s.heap.objs.size fp s H) [] (lu fr σ) H { s with heap:=h1,toks:=tk }:=by
 have sub:∀y c,(aM X.env.cells scope.names []).lookup y=some c->X.env.cells.lookup y=some c:=λy c e=>dN scope.names [] (λ_ _ z=>by simp at z) e
 have old:∀b o,s.heap.get? b=some o->h1.get? b=some o:=λb o e=>(hsb.2 b (FC (DD e))).trans (Ap _ e)
 have cle:∀x c,X.env.cells.lookup x=some c->c<s.heap.objs.size:=λx c e=>by
  obtain⟨v,z⟩:=I.cell x c e;exact z.lt
 have bne:∀b∈fp,b∉X.ex->X.s₀.heap.objs.size<=b:=λb hb hx=>by
  rcases (hf b hb).2.2.2.1 with z | z
  ·exact absurd z hx
  ·exact z
 have ok:(ay X scope (aM X.env.cells scope.names []) N s.heap.objs.size fp s H).Ok:=by
  refine⟨I.ok.mod,?_,I.ok.glob,I.ok.blt,Db _,λx y c h1 h2=>I.ok.inj x y c (sub x c h1) (sub y c h2),λx hx=>?_,λx c z=>(by cases z),I.ok.hd,I.ok.frames,.inl rfl,λb hb=>⟨?_,λx c e=>?_⟩,λb o e=>I.bs b o e,?_,λb o e hb=>?_,λb hb hs' =>?_,I.stack,I.t6⟩
  ·exact S.kind
  ·have hx:(Nd scope X.env).names.lookup x=some .cell\/(Nd scope X.env).names.lookup x=some .free:=hx
   have hfr:scope.names.lookup x=some .free:=by
    rcases hx with z | z
    ·exact jd S.nocell z (.inl rfl)
    ·exact jd S.nocell z (.inr rfl)
   have hm:=eK hfr;obtain⟨a,ha⟩:=S.cells I _ hm rfl;exact La.mp (gP scope.names [] hm (by show (X.env.cells.lookup x).isSome=true; rw[show X.env.cells.lookup x=some a from ha]; rfl))
  ·exact FC (hs b hb)
  ·exact(hf b hb).2.2.2.2.1 x c (sub x c e)
  ·exact JF I.ok.bsz I.sz
  ·have e:X.base.get? b=some o:=e
   rcases (hf b hb).2.2.2.1 with z | z
   ·exact I.ok.noex b o e z
   ·exact absurd (Go (DD e) (JF I.ok.bsz z)) (Jx _)
  ·rcases lK (I.iN b hs') with z | z
   ·exact(hf b hb).2.1 z
   ·exact(hf b hb).2.2.1 z
 refine⟨ok,rfl,I.bare,Un.kept old,⟨m,hns,λi x v h1' h2 h3=>?_⟩,λx c e=>?_,I.hok.fresh (Db _),λx c e=>I.freeC x c (sub x c e),λp hp=>absurd (show p∈([]:List (Addr×Obj)) from hp) (by simp),I.hok.kept old,?_⟩
 ·have h1':N[i]? = some x:=h1'
  have h2:(lu fr σ)[i]? = some (some v):=h2;unfold lu at h2;rw[HL] at h2;cases e:fr[i]? with
  |none=>rw[e] at h2; cases h2
  |some o=>
   rw[e] at h2;cases o with
   |none=>cases h2
   |some j=>
    obtain⟨hj,hx⟩:=S.fr i j x h1' e;have h2:some (match σ[j]? with | some v=>v | none=>none)=some (some v):=h2
    injection h2 with h2
    cases ej:σ[j]? with
    |none=>rw[ej] at h2; cases h2
    |some w' =>
     rw[ej] at h2;have h2:w'=some v:=h2;subst h2;have hk:=S.free _ (eK hx) rfl;obtain⟨m0,hn0,hl⟩:=I.loc;have vis:BZ X.env.scope x:=by
      rcases hk with z | z
      ·exact .inr (.inl z)
      ·exact .inr (.inr z)
     obtain⟨u,r,l⟩:=hl j x v hj ej vis;refine⟨u,r,?_⟩;rcases l with⟨k,_⟩ | ⟨_,c,ec,z⟩
     ·exfalso
      rcases hk with q | q
      ·have:=k.symm.trans q; cases this
      ·have:=k.symm.trans q; cases this
     ·have hm:=eK hx
      obtain⟨c',ec'⟩:=La.mp (gP (cells:=X.env.cells) scope.names [] hm (by rw[ec]; rfl))
      have:c'=c:=by
       have q:=sub x c' ec';rw[ec] at q;cases q;rfl
      subst this;refine .inr ⟨pI hx,c',ec',?_⟩;obtain⟨o,ho,hd⟩:=z;exact⟨o,old _ o ho,hd⟩
 ·obtain⟨v,o,ho,hd⟩:=I.cell x c (sub x c e)
  exact⟨v,o,old _ o ho,hd⟩
 ·show (lu fr σ).length=N.length
  unfold lu;rw[D1,S.len]
end
def ly(X:Cx)(ifs:List Expr)(t:TT):Prop :=
 ∀(pins:List (Addr×Obj))(s:B2)(σ:St)(H:Hp)(Q:Bool->Hp->Prop),Inv X pins σ H s->t σ H Q ->
  wpAny (model X.prog X.w) X.A (forIn ifs true λc r=>if r=true then do let ok <-OT c X.env (eval c X.env); pure (Lj ok) else pure (Lj r)) (TP X pins σ Q) X.xe s
noncomputable def tYes:TT:=λ_ H Q=>Q true H
theorem C9{X:Cx}:ly X [] tYes:=λ_ _ _ H _ I h=>wpAny_tests_nil ⟨H,I,h⟩
theorem Dc{X:Cx}{c:Expr}{t:TT}(h:PT X c t):ly X [c] t:=λpins s σ H Q I hq=>wpAny_tests_one (h pins s σ H Q I hq)
abbrev TM:=St->Hp->(Hp->Prop)->Prop
def Gj(X:Cx)(em:Sem Unit)(t:TM):Prop :=
 ∀(pins:List (Addr×Obj))(s:B2)(σ:St)(H:Hp)(R:Hp->Prop),Inv X pins σ H s->t σ H R ->
  wpAny (model X.prog X.w) X.A em (λ_ s'=>∃H',Inv X pins σ H' s'/\R H') X.xe s
def n9(g:TG)(tt:TT)(tem:TM)(J:It)(τ:St)(H:Hp)(Q:Hp->Prop):Prop :=
 ∃W:Nat->Nat->St->Hp->Prop,(∃m,W 0 m τ H)/\∀i m τ H,W i m τ H ->
  (J.stop i H/\Q H)\/(J.go i H/\∃N:St->Hp->Prop,(∀τ' H',N τ' H'->∃m',m'<m/\W (i+1) m' τ' H')/\∀x H',J.yld i H x H'->g x τ H' λτ2 H2=>tt τ2 H2 λb H3=>
   if b=true then tem τ2 H3 (N τ2) else N τ2 H3)
noncomputable def gQ(target iter:Expr)(ifs:List Expr)(em:Sem Unit)(it:Value)(env:Env)(nxt:Sem Fin):Sem Fin:=do
 KJ iter.pos
 match <-L1 it with
 |none=>pure (.done .next)
 |some v=>
  LR target it v
  Lz target env v
  let mut ok:=true
  for c in ifs do
   if ok then ok <-OT c env (eval c env)
  if ok then em
  nxt
section
variable{X:Cx}{e target iter:Expr}{ifs:List Expr}{g:TG}{tt:TT}{tem:TM}{acc:Value}{em:Sem Unit}
theorem jQ{it:Addr}{fp:List Addr}{tn:Nat->Heap->Prop}{J:It}{τ:St}{H:Hp}{s:B2}{Q:Hp->Prop}{R:OZ->B2->Prop}
  (ht:Mk e 0 (.ref it) acc X.env=gQ target iter ifs em (.ref it) X.env (again (.compLoop e 0 (.ref it) acc X.env)))
  (hd:∀(Q:Fin->B2->Prop)(E:Value->B2->Prop)(s:B2),wpAny (model X.prog X.w) X.A ((Mk e 0 (.ref it) acc X.env).onRaise (λx=>do O0 x X.env; theTreesLotGoes x)) Q E s ->
   wpAny (model X.prog X.w) (X.A.under (.compLoop e 0 (.ref it) acc X.env)) ((model X.prog X.w).den (.compLoop e 0 (.ref it) acc X.env)) Q E s)
  (hq:(Qm e 0 (.ref it) acc X.env).quiet=true)
  (hc:X.calm=true) (hx:X.xe=λ_ _=>False) (hg:PG X target g) (hi:ly X ifs tt) (he:Gj X em tem) (T:Turn X.prog X.w X.K target J fp it tn)
  (I:Inv X [] τ H s) (st:tn 0 s.heap) (hf:∀b∈fp,gG X [] H b) (h:n9 g tt tem J τ H Q) (hR:∀τ' H' s',Inv X [] τ' H' s'->Q H'->R (.ok .next) s') :
  Js (model X.prog X.w) X.A (.compLoop e 0 (.ref it) acc X.env) R s:=by
 obtain⟨W,⟨m0,w0⟩,turn⟩:=h;have stat:∀{H':Hp},(∀b∈fp,H' b=none)->∀b∈fp,gG X [] H' b:=λhn b hb=>⟨hn b hb,(hf b hb).2⟩
 have noX:∀{α:Type}{t:Sem α}{Q:α->B2->Prop}{s':B2}{E:Value->B2->Prop},wpAny (model X.prog X.w) X.A t Q X.xe s'->wpAny (model X.prog X.w) X.A t Q E s':=λ{α t Q s' E}h' =>
  J3 h' (λ_ _ q=>q) λ_ _ z=>by rw[hx] at z; exact z.elim
 refine codeAny_loop hq (λn s'=>∃i τ' H',Inv X [] τ' H' s'/\tn i s'.heap/\(∀b∈fp,H' b=none)/\W i n τ' H') ?_ m0 ⟨0,τ,H,I,st,λb hb=>(hf b hb).1,w0⟩
 rintro n s3 ⟨i,σ3,H3,I3,st3,fr3,w3⟩;refine hd _ _ _ (wpAny_noted ?_);rw[ht];unfold gQ;refine AC (J4 (AC ?_));rcases turn i n σ3 H3 w3 with⟨stop,qn⟩ | ⟨go,Nx,hNx,step⟩
 ·refine aZ (T.done X rfl rfl rfl hc i [] s3 σ3 H3 _ I3 (stat fr3) st3 stop) λr s4 ⟨hr,I4⟩=>?_
  subst hr;exact At (hR _ _ _ I4 qn)
 ·refine aZ (T.item X rfl rfl rfl hc i [] s3 σ3 H3 _ I3 (stat fr3) st3 go) λr s4 ⟨u,hr,h4⟩=>?_
  subst hr;refine AC (aZ h4 λ_ s5 ⟨x,H5,I5,r5,y5,st5,fr5⟩=>?_)
  have I5':=I5.pinned (stat fr5) (T.obj _ _ st5);refine AC (noX (aZ (hg _ s5 σ3 H5 x u _ I5' r5 (step x H5 y5)) λ_ s6 ⟨σ6,H6,I6,q6⟩=>?_))
  have again':∀{σ7:St}{H7:Hp}{s7:B2},Inv X ([]++jN fp s5.heap) σ7 H7 s7->(∃m',m'<n/\W (i+1) m' σ7 H7)->∃m,m<n/\∃i σ' H',Inv X [] σ' H' s7/\tn i s7.heap/\(∀b∈fp,H' b=none)/\W i m σ' H':=λ{σ7 H7 s7}I7 n7=>by
   obtain⟨m',hm,w7⟩:=n7;refine⟨m',hm,i+1,σ7,H7,I7.gM,T.keep _ _ _ st5 λb hb o e=>(I7.pin (b,o) (lR _ (lR _ (dh hb e)))).1,λb hb=>?_,w7⟩
   obtain⟨o,e,d⟩:=T.obj _ _ st5 b hb;exact(I7.pin (b,o) (lR _ (lR _ (dh hb e)))).2.1
  refine AC (noX (aZ (hi _ s6 σ6 H6 _ I6 q6) λok s7 ⟨H7,I7,q7⟩=>?_))
  cases ok with
  |false=>exact At ⟨rfl,again' I7 (hNx _ _ q7)⟩
  |true=>
   refine AC (noX (aZ (he _ s7 σ6 H7 _ I7 q7) λ_ s8 ⟨H8,I8,q8⟩=>?_))
   exact At ⟨rfl,again' I8 (hNx _ _ q8)⟩
end
noncomputable def eApp(D:Addr)(te:TE):TM:=λσ H R=>te σ H λy H1=>∃xs,H1 D=some (.lst xs)/\xs.length<FX/\R (upd H1 D (.lst (xs++[y])))
theorem xN{X:Cx}{elt:Expr}{te:TE}{D:Addr}(h:PE X elt te):Gj X (do let _ <-call (.builtin "list.append") [.ref D,<-eval elt X.env]) (eApp D te):=by
 intro pins s σ H R I hq;refine AC (aZ (h pins s σ H _ I hq) λu s1 ⟨y,H1,I1,r1,xs,hD,hz,q⟩=>?_)
 refine AC (aZ (cR pins s1 σ H1 (.ref D) [y] (.ref D) [u] (λ_ H'=>R H') I1 rfl (.cons r1 .nil) ⟨D,xs,y,rfl,rfl,hD,hz,q⟩) λ_ s2 ⟨v,H2,I2,_,q2⟩=>?_)
 exact At ⟨H2,I2,q2⟩
noncomputable def EO(fr:List (Option Nat))(wi:TI)(g:Bk->TG)(tt:Bk->TT)(te:Bk->TE):TE:=λσ H Q=>wi σ H λJ H1=>∀D,H1 D=none->∀z,n9 (g z) (tt z) (eApp D (te z)) J (lu fr σ) (upd H1 D (.lst [])) λH'=>Q (.ref D) H'
section
variable{X:Cx}
theorem jf{pins:List (Addr×Obj)}{σ τ:St}{H1 H3 H':Hp}{s2 s3 s':B2}{fp:List Addr}{scope:Scope}{cl:List (Str×Addr)}{N:List Str}{h':Heap}
  (I2:Inv X pins σ H1 s2) (hf:∀b∈fp,gG X pins H1 b) (u23:Un (frs X.stack) [] H1 H3 s2.heap s3.heap) (ho:s3.os=s2.os) (hs:s2.heap.objs.size<=s3.heap.objs.size)
  (J:Inv (ay X scope cl N s3.heap.objs.size fp s3 H3) [] τ H' s') (sb:JR s3.heap.objs.size s'.heap h'):Inv X pins σ H' { s' with heap:=h' }:=by
 have hC:H' s3.heap.objs.size=none:=J.free;have hbase:Un (frs X.stack) fp H3 H' s3.heap s'.heap:=J.base;have u3:Un (frs X.stack) fp H1 H' s2.heap s'.heap:=(u23.mono (λ_ z=>z) (λ_ z=>nomatch z)).trans hbase
 have ne:∀b o,s2.heap.get? b=some o->b≠s3.heap.objs.size:=λb o e=>FC (Go (DD e) hs)
 have u:Un (frs X.stack) fp H1 H' s2.heap h':=⟨λb o e n h1 h2=>(sb.2 b (ne b o e)).trans (u3.keep b o e n h1 h2),λb o e n h1 h2=>by
   obtain⟨sl,q⟩:=u3.slot b o e n h1 h2;exact⟨sl,(sb.2 b (ne b o e)).trans q⟩,u3.free,λb o e h2=>by
   obtain⟨o',q⟩:=u3.there b o e h2;exact⟨o',(sb.2 b (ne b o e)).trans q⟩,u3.tups,u3.d8,u3.tbls⟩
 have hok:iC X.prog X.w H' h':=λb ob e=>by
  have q:cC X.prog X.w H' s'.heap b ob:=J.hok b ob e;refine q.stay (λc w' hc q=>(sb.2 c ?_).trans q) (λ_ q=>q) λ_ _ q=>q
  intro z;rw[z] at hc;rcases hc with rfl | hc
  ·rw[hC] at e; cases e
  ·rw[hC] at hc; cases hc
 refine I2.call' (s':={ s' with heap:=h' }) (H':=H') (ch:=fp) (J.os.trans ho) u hok J.bare λb hb=>?_
 obtain⟨_,f1,_,f3,f4,f5⟩:=hf b hb;exact⟨f3,f1,f4,f5⟩
theorem xO{elt target iter:Expr}{ifs:List Expr}{scope:Scope}{pos:Pos}{N:List Str}{fr:List (Option Nat)}{wi:TI}{g:Bk->TG}{tt:Bk->TT}{te:Bk->TE}(hc:X.calm=true)(S:aP X scope N fr)(hi:PI X target iter wi)
  (hin:∀z:Bk,PG (ay X scope z.cl N z.C z.fp z.s z.H) target (g z)/\ly (ay X scope z.cl N z.C z.fp z.s z.H) ifs (tt z)/\PE (ay X scope z.cl N z.C z.fp z.s z.H) elt (te z))
  (hs:∀x,HG iter X.env x=pure x:=by intro _; rfl):PE X (.ListComp elt [⟨target,iter,ifs,0⟩] scope pos) (EO fr wi g tt te):=by
 intro pins s σ H Q I h;rw[eval_ListComp];refine Kn (g:=⟨target,iter,ifs,0⟩) (gs:=[]) (use:=none) rfl hs (cy (S.cells I)) S.kind S.locs ?_;refine aZ (hi pins s σ H _ I h) λv s1 h1=>aZ h1 λitv s2 h2=>?_
 obtain⟨it,fp,tn,J,H2,e,I2,T,st2,f2,h2⟩:=h2;subst e;refine HQ ?_;have hD:H2 s2.heap.objs.size=none:=I2.fresh;have I3:=I2.lnew (t':=s2.toks) (ys:=[]) (its:=[]) .nil (HS _);have lt2:∀b∈fp,b<s2.heap.objs.size:=λb hb=>by
  obtain⟨o,e,_⟩:=T.obj _ _ st2 b hb;exact DD e
 have f3:∀b∈fp,gG X pins (upd H2 s2.heap.objs.size (.lst [])) b:=λb hb=>⟨by rw[aA (FC (lt2 b hb))]; exact(f2 b hb).1,(f2 b hb).2⟩
 generalize hs3:({ s2 with heap:=s2.heap.push { cls:=.type "list",data:=.seq ([]:List Value).toArray } }:B2)=s3
 have I3:Inv X pins σ (upd H2 s2.heap.objs.size (.lst [])) s3:=by rw[<-hs3]; exact I3
 have sz3:s3.heap.objs.size=s2.heap.objs.size+1:=by rw[<-hs3]; exact IA ..
 have u23:Un (frs X.stack) [] H2 (upd H2 s2.heap.objs.size (.lst [])) s2.heap s3.heap:=by
  rw[<-hs3];exact Un.laid (λb o e=>Ap _ e) (Db _) hD
 have ho:s3.os=s2.os:=by rw[<-hs3]
 have st3:tn 0 s3.heap:=T.keep _ _ _ st2 λb _ o e=>by rw[<-hs3]; exact Ap _ e
 refine LH S.nocell (by intro y hy; simp at hy) (λh4 hns hsb=>?_) S.kind
 have lt3:∀b∈fp,b<s3.heap.objs.size:=λb hb=>Go (lt2 b hb) (by rw[sz3]; exact IX _)
 have I4:=je (tk:=s3.toks+([]:List (Str×Value)).length) I3 S f3 lt3 hns hsb;have old4:∀b o,s3.heap.get? b=some o->h4.get? b=some o:=λb o e=>(hsb.2 b (FC (DD e))).trans (Ap _ e)
 have st4:tn 0 h4:=T.keep _ _ _ st3 λb _ o e=>old4 b o e
 have h2:=h2 _ hD ⟨aM X.env.cells scope.names [],s3.heap.objs.size,fp,s3,upd H2 s2.heap.objs.size (.lst [])⟩;obtain⟨hg,hif,hel⟩:=hin ⟨aM X.env.cells scope.names [],s3.heap.objs.size,fp,s3,upd H2 s2.heap.objs.size (.lst [])⟩;have loop:Js (model X.prog X.w) X.A (.compLoop (.ListComp elt [⟨target,iter,ifs,0⟩] scope pos) 0 (.ref it) (.ref s2.heap.objs.size) (Ml scope (aM X.env.cells scope.names []) s3.heap.objs.size X.env))
   (QA (model X.prog X.w) X.A X.xe none (EP X pins σ Q) (.ref s2.heap.objs.size) s3.heap.objs.size) { s3 with heap:=h4,toks:=s3.toks+([]:List (Str×Value)).length }:=by
  refine jQ (X:=ay X scope (aM X.env.cells scope.names []) N s3.heap.objs.size fp s3 (upd H2 s2.heap.objs.size (.lst []))) (em:=(do let _ <-call (.builtin "list.append") [.ref s2.heap.objs.size,<-eval elt (Ml scope (aM X.env.cells scope.names []) s3.heap.objs.size X.env)]))
   (compTurn_list ..) (λ_ _ _ z=>z) rfl hc rfl hg hif (xN hel) T I4 st4 (λb hb=>?_) h2 (λτ' H' s' J' q=>?_)
  ·obtain⟨f0,f1,fs,fe,fc,fp'⟩:=f3 b hb
   refine⟨f0,FC (lt3 b hb),λz=>?_,.inl hb,λx c e=>fc x c (dN scope.names [] (λ_ _ z=>by simp at z) e),λp hp=>absurd (show p∈([]:List (Addr×Obj)) from hp) (by simp)⟩
   rcases lK (I3.iN b z) with z | z
   ·exact f1 z
   ·exact fs z
  ·obtain⟨m,hn,_⟩:=J'.loc
   exact⟨m,hn,λh' sb=>⟨.ref s2.heap.objs.size,H',jf I2 f2 u23 ho (by rw[sz3]; exact IX _) J' sb,rfl,q⟩⟩
 exact Pc loop (T.self X.A 0 _ _ _ st4 loop)
end
theorem compTurn_dict(ek ev target iter:Expr)(ifs:List Expr)(scope:Scope)(pos:Pos)(it:Value)(d:Addr)(env:Env) :
  Mk (.DictComp ek ev [⟨target,iter,ifs,0⟩] scope pos) 0 it (.ref d) env=gQ target iter ifs (do
    let kv <-eval ek env
    let vv <-L3 [kv] (eval ev env)
    KJ { ek.pos with endLine:=ev.pos.endLine,endCol:=ev.pos.endCol }
    L3 [kv,vv] (dictSet d kv vv)) it env (again (.compLoop (.DictComp ek ev [⟨target,iter,ifs,0⟩] scope pos) 0 it (.ref d) env)):=by rfl
theorem codeAny_compStart_dict{prog:Fk}{w:World}{A:HN}{R:OZ->B2->Prop}{s:B2}{ek ev target iter ifs rest scope pos it acc env}
  (h0:Js (model prog w) A (.compLoop (.DictComp ek ev (⟨target,iter,ifs,0⟩::rest) scope pos) 0 it acc env) R s)
  (h:wpAny (model prog w) A (MM it) (λit' s'=>Js (model prog w) A (.compLoop (.DictComp ek ev (⟨target,iter,ifs,0⟩::rest) scope pos) 0 it' acc env) R s')
   (notedBy (model prog w) A env λx s'=>R (.error x) s') s) :
  Js (model prog w) A (.compStart (.DictComp ek ev (⟨target,iter,ifs,0⟩::rest) scope pos) 0 it acc env) R s:=by
 refine LS ?_;show wpAny _ _ ((Mw (.DictComp ek ev (⟨target,iter,ifs,0⟩::rest) scope pos) 0 it acc env).onRaise (λx=>do O0 x env; KJ OI)) _ _ s
 refine Op ?_;unfold Mw;show wpAny _ _ (ask >>= _) _ _ s;refine AC (Ju (wpAny_ite ?_))
 split
 ·first
   |exact AC (At (At (KH rfl h0)))
   |exact At (KH rfl h0)
 ·first
   |exact AC (Ii (AC (J4 (AC (J3 h (λit' s' h'=>At (KH rfl h')) λ_ _ x=>x)))))
   |(refine AC (Ii ?_); show wpAny _ _ (KJ iter.pos >>= _) _ _ s; exact AC (J4 (AC (J3 h (λit' s' h'=>At (KH rfl h')) λ_ _ x=>x))))
noncomputable def ePut(D:Addr)(tk tv:TE):TM:=λσ H R=>tk σ H λy H1=>tv σ H1 λv H2=>∃kvs k,y=kV k/\H2 D=some (.dK kvs)/\kvs.length<FX/\R (upd H2 D (.dK (putK kvs k v)))
theorem d_set{X:Cx}{pins:List (Addr×Obj)}{σ:St}{H:Hp}{s:B2}{A:HN}{E:Value->B2->Prop}{a:Addr}{k:Key}{v:V}{u r:Value}{kvs:List (Key×V)}{Q:Unit->B2->Prop}(I:Inv X pins σ H s)(e:H a=some (.dK kvs))(l:kvs.length<FX)(ry:RelV (kV k) u)(rv:RelV v r)
  (h:∀s',Inv X pins σ (upd H a (.dK (putK kvs k v))) s'->Q () s'):wpAny (model X.prog X.w) A (dictSet a u r) Q E s:=by
 obtain⟨z,hd,vs,rel,dd⟩:=uf I.hok e;have hz:vs.length<=FX:=by rw[<-rel.length]; exact z
 have hl:(putK kvs k v).length<=FX:=by have:=fm kvs k v; lia
 refine wpAny_dictSet_pairs (hsz:=hz) (kY ry) dd λh' dd' hs=>h _ ?_
 have he:∃q,h'.get? a=some q:=let ⟨q,_,_,hq,_⟩:=dd'; ⟨q,hq⟩;exact kI I (by rw[e]; exact JQ) hs he (su hl hd (rel.put k rv) dd')
theorem Dd {X:Cx} {ek ev:Expr} {tk tv:TE} {D:Addr} {p:Pos} (hk:PE X ek tk) (hv:PE X ev tv):Gj X (do
        let kv <-eval ek X.env
        let vv <-L3 [kv] (eval ev X.env)
        KJ p
        L3 [kv,vv] (dictSet D kv vv)) (ePut D tk tv):=by
  intro pins s σ H R I hq;refine AC (aZ (hk pins s σ H _ I hq) λu s1 ⟨y,H1,I1,r1,q1⟩=>?_)
  refine AC (HW (aZ (hv pins s1 σ H1 _ I1 q1) λr s2 ⟨v,H2,I2,r2,q2⟩=>?_))
  obtain⟨kvs,k,e,hD,hz,q⟩:=q2;subst e;exact AC (J4 (HW (d_set I2 hD hz r1 r2 λs3 I3=>⟨_,I3,q⟩)))
noncomputable def GK(fr:List (Option Nat))(wi:TI)(g:Bk->TG)(tt:Bk->TT)(tk tv:Bk->TE):TE:=λσ H Q=>wi σ H λJ H1=>∀D,H1 D=none->∀z,n9 (g z) (tt z) (ePut D (tk z) (tv z)) J (lu fr σ) (upd H1 D (.dK [])) λH'=>Q (.ref D) H'
section
variable{X:Cx}
theorem pe_dc{ek ev target iter:Expr}{ifs:List Expr}{scope:Scope}{pos:Pos}{N:List Str}{fr:List (Option Nat)}{wi:TI}{g:Bk->TG}{tt:Bk->TT}{tk tv:Bk->TE}(hc:X.calm=true)(S:aP X scope N fr)(hi:PI X target iter wi)
  (hin:∀z:Bk,PG (ay X scope z.cl N z.C z.fp z.s z.H) target (g z)/\ly (ay X scope z.cl N z.C z.fp z.s z.H) ifs (tt z)/\PE (ay X scope z.cl N z.C z.fp z.s z.H) ek (tk z)/\PE (ay X scope z.cl N z.C z.fp z.s z.H) ev (tv z))
  (hs:∀x,HG iter X.env x=pure x:=by intro _; rfl):PE X (.DictComp ek ev [⟨target,iter,ifs,0⟩] scope pos) (GK fr wi g tt tk tv):=by
 intro pins s σ H Q I h;show wpAny _ _ (Ot (.DictComp ek ev [⟨target,iter,ifs,0⟩] scope pos) scope X.env (Pb [⟨target,iter,ifs,0⟩] pos) newDict (Qh [⟨target,iter,ifs,0⟩]) (firstIter [⟨target,iter,ifs,0⟩] X.env)) _ _ s;refine Kn (g:=⟨target,iter,ifs,0⟩) (gs:=[]) (use:=none) rfl hs (cy (S.cells I)) S.kind S.locs ?_;refine aZ (hi pins s σ H _ I h) λv s1 h1=>aZ h1 λitv s2 h2=>?_
 obtain⟨it,fp,tn,J,H2,e,I2,T,st2,f2,h2⟩:=h2;subst e;refine HQ ?_;have hD:H2 s2.heap.objs.size=none:=I2.fresh;have I3:=I2.laid (a:=s2.heap.objs.size) (o:=.dK []) (t':=s2.toks) (λ_ _ q=>Ap _ q) (Db _) (qB s2.heap I2.big)
 have lt2:∀b∈fp,b<s2.heap.objs.size:=λb hb=>by
  obtain⟨o,e,_⟩:=T.obj _ _ st2 b hb;exact DD e
 have f3:∀b∈fp,gG X pins (upd H2 s2.heap.objs.size (.dK [])) b:=λb hb=>⟨by rw[aA (FC (lt2 b hb))]; exact(f2 b hb).1,(f2 b hb).2⟩
 generalize hs3:({ s2 with heap:=s2.heap.push { cls:=.type "dict",data:=.dict #[] } }:B2)=s3
 have I3:Inv X pins σ (upd H2 s2.heap.objs.size (.dK [])) s3:=by rw[<-hs3]; exact I3
 have sz3:s3.heap.objs.size=s2.heap.objs.size+1:=by rw[<-hs3]; exact IA ..
 have u23:Un (frs X.stack) [] H2 (upd H2 s2.heap.objs.size (.dK [])) s2.heap s3.heap:=by
  rw[<-hs3];exact Un.laid (λb o e=>Ap _ e) (Db _) hD
 have ho:s3.os=s2.os:=by rw[<-hs3]
 have st3:tn 0 s3.heap:=T.keep _ _ _ st2 λb _ o e=>by rw[<-hs3]; exact Ap _ e
 refine LH S.nocell (by intro y hy; simp at hy) (λh4 hns hsb=>?_) S.kind
 have lt3:∀b∈fp,b<s3.heap.objs.size:=λb hb=>Go (lt2 b hb) (by rw[sz3]; exact IX _)
 have I4:=je (tk:=s3.toks+([]:List (Str×Value)).length) I3 S f3 lt3 hns hsb;have old4:∀b o,s3.heap.get? b=some o->h4.get? b=some o:=λb o e=>(hsb.2 b (FC (DD e))).trans (Ap _ e)
 have st4:tn 0 h4:=T.keep _ _ _ st3 λb _ o e=>old4 b o e
 have h2:=h2 _ hD ⟨aM X.env.cells scope.names [],s3.heap.objs.size,fp,s3,upd H2 s2.heap.objs.size (.dK [])⟩;obtain⟨hg,hif,hek,hev⟩:=hin ⟨aM X.env.cells scope.names [],s3.heap.objs.size,fp,s3,upd H2 s2.heap.objs.size (.dK [])⟩;have loop:Js (model X.prog X.w) X.A (.compLoop (.DictComp ek ev [⟨target,iter,ifs,0⟩] scope pos) 0 (.ref it) (.ref s2.heap.objs.size) (Ml scope (aM X.env.cells scope.names []) s3.heap.objs.size X.env))
   (QA (model X.prog X.w) X.A X.xe none (EP X pins σ Q) (.ref s2.heap.objs.size) s3.heap.objs.size) { s3 with heap:=h4,toks:=s3.toks+([]:List (Str×Value)).length }:=by
  refine jQ (X:=ay X scope (aM X.env.cells scope.names []) N s3.heap.objs.size fp s3 (upd H2 s2.heap.objs.size (.dK [])))
   (compTurn_dict ..) (λ_ _ _ z=>z) rfl hc rfl hg hif (Dd hek hev) T I4 st4 (λb hb=>?_) h2 (λτ' H' s' J' q=>?_)
  ·obtain⟨f0,f1,fs,fe,fc,fp'⟩:=f3 b hb
   refine⟨f0,FC (lt3 b hb),λz=>?_,.inl hb,λx c e=>fc x c (dN scope.names [] (λ_ _ z=>by simp at z) e),λp hp=>absurd (show p∈([]:List (Addr×Obj)) from hp) (by simp)⟩
   rcases lK (I3.iN b z) with z | z
   ·exact f1 z
   ·exact fs z
  ·obtain⟨m,hn,_⟩:=J'.loc
   exact⟨m,hn,λh' sb=>⟨.ref s2.heap.objs.size,H',jf I2 f2 u23 ho (by rw[sz3]; exact IX _) J' sb,rfl,q⟩⟩
 exact codeAny_compStart_dict loop (T.self X.A 0 _ _ _ st4 loop)
end
end L2
end
section
namespace L2
open PySem PySem.W PyProof.Rows
structure Ord(lt:Nat->Nat->Bool):Prop where
 asym:∀a b,lt a b=true->lt b a=false
 trans:∀a b c,lt b a=false->lt c b=false->lt c a=false
section
variable{lt:Nat->Nat->Bool}{N:Nat}
noncomputable abbrev gD(p:Array Nat)(i:Nat):Nat:=p.getD i 0
def De(lt:Nat->Nat->Bool)(p:Array Nat)(m:Nat):Prop:=∀i j,i<=j->j<m->lt (gD p j) (gD p i)=false
def Pm(N:Nat)(p:Array Nat):Prop:=p.Perm (N1 (Fa N))
theorem Pm.size{p:Array Nat}(h:Pm N p):p.size=N:=by
 have:=h.size_eq;simpa using this
theorem qD(O:Ord lt)(a:Nat):lt a a=false:=by
 cases q:lt a a with
 |false=>rfl
 |true=>rw[O.asym _ _ q] at q; cases q
end
end L2
end
section
namespace TS
open PySem PySem.W PyProof.Rows L2
noncomputable def pJ:Bool->Keyed->Array Keyed->Nat->Nat->Nat->StateT SortSt Sem (Option Nat):=sortPriv% PySem.Builtin.gallop
noncomputable def xP:Array Keyed->Array Keyed->StateT SortSt Sem (Array Keyed):=sortPriv% PySem.Builtin.mergeLo
noncomputable def xQ:Array Keyed->Array Keyed->StateT SortSt Sem (Array Keyed):=sortPriv% PySem.Builtin.mergeHi
noncomputable def Az:Nat->StateT SortSt Sem Unit:=sortPriv% PySem.Builtin.setMinGallop
section
variable{prog:Fk}{w:World}{A:HN}{S:B2}{κ:JM}{it:Array Keyed}{lt:Nat->Nat->Bool}{N:Nat}
def wY(prog:Fk)(w:World)(A:HN)(S:B2)(κ:JM)(it:Array Keyed)(lt:Nat->Nat->Bool)(N:Nat):Prop :=
 ∀i j,i<N->j<N->∀C:Bool->B2->Prop,C (lt i j) S->wpAny (model prog w) A (Ob κ (Ig it i).1 (Ig it j).1) C (λ_ _=>False) S
abbrev W(prog:Fk)(w:World)(A:HN)(S:B2){α:Type}(m:StateT HR Sem α)(Q:α->HR->Prop)(st:HR):Prop:=wpS (model prog w) A (λ_ _=>False) S m Q st
theorem w_lt(c:wY prog w A S κ it lt N){i j:Nat}(hi:i<N)(hj:j<N){st:HR}(hk:kindOf st=κ){Q:Option Bool->HR->Prop}(h:Q (some (lt i j)) st):W prog w A S (lt' (Ig it i) (Ig it j)) Q st:=by
 show wpS _ _ _ _ _ _ _;rw[lt'_eq];refine EQ (Lx ?_);rw[hk];refine EQ (Mp (LF (J3 (c i j hi hj (λb s'=>s'=S/\b=lt i j) ⟨rfl,rfl⟩) (λb s' e=>?_) λ_ _ z=>z.elim)))
 obtain⟨rfl,rfl⟩:=e;exact⟨rfl,FR h⟩
theorem bx{xs:List Nat}{i:Nat}(hi:i<xs.length){st:HR}{Q:Keyed->HR->Prop}(h:Q (Ig it xs[i]) st):W prog w A S (elem' ((xs.map (Ig it)).toArray) i) Q st:=by
 show wpS _ _ _ _ _ _ _;rw[elem'_eq];have e:((xs.map (Ig it)).toArray)[i]? = some (Ig it xs[i]):=by simp[hi]
 rw[e];exact FR h
structure Cut(B:Nat->Bool)(n k:Nat):Prop where
 le:k<=n
 lo:∀i,i<k->B i=true
 hi:∀i,k<=i->i<n->B i=false
theorem cutB{H G:Nat->Nat->Prop}{P:Prop}(k:(∀l o,H l o->G l o)->P)(g:∀l o,H l o->G l o):P:=k g
inductive GL{β:Type}(B:Nat->Bool)(hint n x:Nat)(c:Option β×Nat×Nat):Prop
 |mk (l o:Nat):c=(none,l,o)->B (hint+l)=true->hint+l<n->l<o->x<o->GL B hint n x c
inductive GN{β:Type}(B:Nat->Bool)(hint n:Nat)(c:Option β×Nat×Nat):Prop
 |mk (l o:Nat):c=(none,l,o)->B (hint+l)=true->hint+l<n->l<o->(o>=n-hint\/(o<n-hint/\B (hint+o)=false))->GN B hint n c
inductive GO{β:Type}(B:Nat->Bool)(hint x:Nat)(c:Option β×Nat×Nat):Prop
 |mk (l o:Nat):c=(none,l,o)->B (hint-l)=false->l<=hint->l<o->x<o->GO B hint x c
inductive GP{β:Type}(B:Nat->Bool)(hint:Nat)(c:Option β×Nat×Nat):Prop
 |mk (l o:Nat):c=(none,l,o)->B (hint-l)=false->l<=hint->l<o->(o>=hint+1\/(o<hint+1/\B (hint-o)=true))->GP B hint c
inductive Gk(B:Nat->Bool)(n lo hi:Nat):Prop
 |mk:lo<=hi->hi<=n->(∀i,i<lo->B i=true)->(∀i,hi<=i->i<n->B i=false)->Gk B n lo hi
inductive GQ{β:Type}(B:Nat->Bool)(n x:Nat)(c:Option β×Nat×Nat):Prop
 |mk (lo hi:Nat):c=(none,lo,hi)->hi-lo<=n-x->Gk B n lo hi->GQ B n x c
inductive GR{β:Type}(B:Nat->Bool)(n:Nat)(c:Option β×Nat×Nat):Prop
 |mk (hi:Nat):c=(none,hi,hi)->Cut B n hi->GR B n c
theorem lz{B:Nat->Bool}{n hint:Nat}(mono:∀i j,i<=j->j<n->B j=true->B i=true)(hh:hint<n){left:Bool}{key:Keyed}{xs:Array Keyed}{base:Nat}{P:HR->Prop}
  (hb:∀i,i<n->∀st,P st->∀(Q:Option Bool->HR->Prop),Q (some (B i)) st->W prog w A S (do
   let x <-elem' xs (base+i)
   if left=true then lt' x key else return (<-lt' key x).map (!·)) Q st)
  {st:HR} (hP:P st) {Q:Option Nat->HR->Prop} (h:∀k,Cut B n k->Q (some k) st):W prog w A S (pJ left key xs base n hint) Q st:=by
 refine EQ (hb hint hh st hP _ ?_);refine cutB (H:=Gk B n) (λkey=>by
  cases e0:B hint with
  |true=>
   show wpS _ _ _ _ _ _ _;dsimp only;rw[if_pos rfl];refine EQ (Jw (Ie (I:=λx c st'=>st=st'/\GL B hint n x c) (Q:=λc st'=>st=st'/\GN B hint n c) ?_ ?_ ⟨rfl,0,1,rfl,e0,hh,by lia,by lia⟩) ?_)
   ·rintro x c st' _ hx ⟨rfl,l,o,rfl,k1,k2,k3,k4⟩
    dsimp only
    by_cases hge:o>=n-hint
    ·rw[if_pos hge]; exact FR ⟨rfl,l,o,rfl,k1,k2,k3,.inl hge⟩
    ·rw[if_neg hge]
     refine EQ (hb _ (by lia) st hP _ ?_)
     cases e:B (hint+o) with
     |true=>exact FR ⟨rfl,_,_,rfl,e,by lia,by lia,by lia⟩
     |false=>exact FR ⟨rfl,l,o,rfl,k1,k2,k3,.inr ⟨by lia,e⟩⟩
   ·rintro c st' ⟨rfl,l,o,rfl,k1,k2,k3,k4⟩
    exact⟨rfl,l,o,rfl,k1,k2,k3,.inl (by lia)⟩
   ·rintro c st' ⟨rfl,l,o,rfl,k1,k2,k3,k4⟩
    obtain⟨lo,elo⟩:∃lo,lo=hint+l+1:=⟨_,rfl⟩;obtain⟨hi,ehi⟩:∃hi,hi=hint+min o (n-hint):=⟨_,rfl⟩;have l1:lo<=hi:=by lia
    have l2:hi<=n:=by lia
    have l3:∀i,i<lo->B i=true:=λi hi=>by
     exact mono i _ (by lia) k2 k1
    have l4:∀i,hi<=i->i<n->B i=false:=λi h1 h2=>by
     rcases k4 with k4 | ⟨k4,k5⟩
     ·lia
     ·cases q:B i with
      |false=>rfl
      |true=>rw[mono _ i (by lia) h2 q] at k5; cases k5
    dsimp only;rw[<-elo,<-ehi];exact key lo hi ⟨l1,l2,l3,l4⟩
  |false=>
   show wpS _ _ _ _ _ _ _;dsimp only;rw[if_neg (by simp)]
   refine EQ (Jw (Ie (I:=λx c st'=>st=st'/\GO B hint x c) (Q:=λc st'=>st=st'/\GP B hint c) ?_ ?_ ⟨rfl,0,1,rfl,e0,by lia,by lia,by lia⟩) ?_)
   ·rintro x c st' _ hx ⟨rfl,l,o,rfl,k1,k2,k3,k4⟩
    dsimp only
    by_cases hge:o>=hint+1
    ·rw[if_pos hge]; exact FR ⟨rfl,l,o,rfl,k1,k2,k3,.inl hge⟩
    ·rw[if_neg hge]
     refine EQ (hb _ (by lia) st hP _ ?_)
     cases e:B (hint-o) with
     |false=>exact FR ⟨rfl,_,_,rfl,e,by lia,by lia,by lia⟩
     |true=>exact FR ⟨rfl,l,o,rfl,k1,k2,k3,.inr ⟨by lia,e⟩⟩
   ·rintro c st' ⟨rfl,l,o,rfl,k1,k2,k3,k4⟩
    exact⟨rfl,l,o,rfl,k1,k2,k3,.inl (by lia)⟩
   ·rintro c st' ⟨rfl,l,o,rfl,k1,k2,k3,k4⟩
    obtain⟨lo,elo⟩:∃lo,lo=hint+1-min o (hint+1):=⟨_,rfl⟩;obtain⟨hi,ehi⟩:∃hi,hi=hint-l:=⟨_,rfl⟩;have l1:lo<=hi:=by lia
    have l2:hi<=n:=by lia
    have l3:∀i,i<lo->B i=true:=λi hi=>by
     rcases k4 with k4 | ⟨k4,k5⟩
     ·lia
     ·exact mono i _ (by lia) (by lia) k5
    have l4:∀i,hi<=i->i<n->B i=false:=λi h1 h2=>by
     cases q:B i with
     |false=>rfl
     |true=>rw[mono _ i (by lia) h2 q] at k1; cases k1
    dsimp only;rw[<-elo,<-ehi];exact key lo hi ⟨l1,l2,l3,l4⟩) ?_
 rintro lo hi ⟨l1,l2,l3,l4⟩;refine EQ (Jw (Ie (I:=λx c st''=>st=st''/\GQ B n x c) (Q:=λc st''=>st=st''/\GR B n c) ?_ ?_ ⟨rfl,lo,hi,rfl,by lia,l1,l2,l3,l4⟩) ?_)
 ·rintro x c st'' _ hx ⟨rfl,lo,hi,rfl,l5,l1,l2,l3,l4⟩
  dsimp only
  by_cases hge:lo>=hi
  ·rw[if_pos hge]
   have:lo=hi:=by lia
   subst this;exact FR ⟨rfl,lo,rfl,l2,l3,l4⟩
  ·rw[if_neg hge]
   refine EQ (hb _ (by lia) st hP _ ?_)
   cases e:B (lo+(hi-lo) / 2) with
   |true=>exact FR ⟨rfl,_,_,rfl,by lia,by lia,l2,λi hi'=>mono i _ (by lia) (by lia) e,l4⟩
   |false=>
    refine FR ⟨rfl,_,_,rfl,by lia,by lia,by lia,l3,λi h1 h2=>?_⟩
    cases q:B i with
    |false=>rfl
    |true=>rw[mono _ i h1 h2 q] at e; cases e
 ·rintro c st'' ⟨rfl,lo,hi,rfl,l5,l1,l2,l3,l4⟩
  have:lo=hi:=by lia
  subst this;exact⟨rfl,lo,rfl,l2,l3,l4⟩
 ·rintro c st'' ⟨rfl,hi,rfl,hc⟩
  exact FR (h hi hc)
end
def Sd(lt:Nat->Nat->Bool)(l:List Nat):Prop:=l.Pairwise λx y=>lt y x=false
structure MI(lt:Nat->Nat->Bool)(a b out:List Nat)(ia ib:Nat):Prop where
 perm:out.Perm (a.take ia++b.take ib)
 srt:Sd lt out
 lea:∀o∈out,∀r∈a.drop ia,lt r o=false
 leb:∀o∈out,∀r∈b.drop ib,lt r o=false
section
variable{lt:Nat->Nat->Bool}{a b out:List Nat}{ia ib:Nat}
theorem MI.sym(m:MI lt a b out ia ib):MI lt b a out ib ia:=⟨m.perm.trans JB,m.srt,m.leb,m.lea⟩
theorem vM(l:List Nat)(i k:Nat):l.take (i+k)=l.take i++(l.drop i).take k:=by rw[List.take_add]
theorem nC{l:List Nat}{i k:Nat}{x:Nat}(h:x∈(l.drop i).take k):x∈l.drop i:=IW h
theorem pK{l:List Nat}{i k:Nat}{x:Nat}(h:x∈l.drop (i+k)):x∈l.drop i:=by rw[<-Jr] at h; exact Jh h
theorem Sd.drop(h:Sd lt a)(i:Nat):Sd lt (a.drop i):=LX (Pu i a) h
theorem Sd.take(h:Sd lt a)(i:Nat):Sd lt (a.take i):=LX (N2 i a) h
theorem MI.iE(m:MI lt a b out ia ib)(ha:Sd lt a)(k:Nat)(h:∀x∈(a.drop ia).take k,∀r∈b.drop ib,lt r x=false):MI lt a b (out++(a.drop ia).take k) (ia+k) ib:=by
 have hs:=ha.drop ia;refine⟨?_,?_,λo ho r hr=>?_,λo ho r hr=>?_⟩
 ·rw[vM]
  have h1:(out++(a.drop ia).take k).Perm ((a.take ia++b.take ib)++(a.drop ia).take k):=m.perm.append_right _;refine h1.trans ?_;rw[BM,BM];exact Hc _ JB
 ·exact Fm.mpr ⟨m.srt,Sd.take hs k,λo ho r hr=>m.lea o ho r (nC hr)⟩
 ·rcases lM ho with ho | ho
  ·exact m.lea o ho r (pK hr)
  ·have h2:=hs
   unfold Sd at h2;rw[<-FV k (a.drop ia)] at h2;rw[<-Jr] at hr;exact(Fm.mp h2).2.2 o ho r hr
 ·rcases lM ho with ho | ho
  ·exact m.leb o ho r hr
  ·exact h o ho r hr
theorem MI.kq(m:MI lt a b out ia ib)(hb:Sd lt b)(k:Nat)(h:∀x∈(b.drop ib).take k,∀r∈a.drop ia,lt r x=false):MI lt a b (out++(b.drop ib).take k) ia (ib+k):=(m.sym.iE hb k h).sym
theorem take_one{l:List Nat}{i:Nat}(h:i<l.length):(l.drop i).take 1=[l[i]]:=by
 rw[JX h,List.take_succ_cons,Nt]
def Res(lt:Nat->Nat->Bool)(a b res:List Nat):Prop:=Sd lt res/\res.Perm (a++b)
theorem MI.done(m:MI lt a b out ia ib)(ha:Sd lt a)(hb:Sd lt b)(h:ib=b.length\/ia=a.length):Res lt a b (out++a.drop ia++b.drop ib):=by
 refine⟨?_,?_⟩
 ·refine Fm.mpr ⟨Fm.mpr ⟨m.srt,ha.drop ia,λo ho r hr=>m.lea o ho r hr⟩,hb.drop ib,λo ho r hr=>?_⟩
  rcases lM ho with ho | ho
  ·exact m.leb o ho r hr
  ·rcases h with h | h
   ·rw[h,Lv] at hr; cases hr
   ·rw[h,Lv] at ho; cases ho
 ·have:(out++a.drop ia++b.drop ib).Perm ((a.take ia++b.take ib)++a.drop ia++b.drop ib):=(m.perm.append_right _).append_right _
  refine this.trans ?_;have e:a++b=(a.take ia++a.drop ia)++(b.take ib++b.drop ib):=by rw[FV,FV]
  rw[e,BM (a.take ia),BM (a.take ia),BM (a.take ia)];refine Hc _ ?_;rw[<-BM (a.drop ia)];exact JB.append_right _
theorem MI.uh(m:MI lt a b out ia ib)(ha:Sd lt a)(hb:Sd lt b)(h:∀y∈b,∀x∈a.drop ia,lt x y=false):Res lt a b (out++b.drop ib++a.drop ia):=by
 refine⟨?_,?_⟩
 ·refine Fm.mpr ⟨Fm.mpr ⟨m.srt,hb.drop ib,λo ho r hr=>m.leb o ho r hr⟩,ha.drop ia,λo ho r hr=>?_⟩
  rcases lM ho with ho | ho
  ·exact m.lea o ho r hr
  ·exact h o (Jh ho) r hr
 ·have:(out++b.drop ib++a.drop ia).Perm ((a.take ia++b.take ib)++b.drop ib++a.drop ia):=(m.perm.append_right _).append_right _
  refine this.trans ?_;have e:a++b=(a.take ia++a.drop ia)++(b.take ib++b.drop ib):=by rw[FV,FV]
  rw[e,BM (a.take ia),BM (a.take ia),BM (a.take ia),FV];exact Hc _ JB
end
section
variable{prog:Fk}{w:World}{A:HN}{S:B2}{κ:JM}{it:Array Keyed}{lt:Nat->Nat->Bool}{N:Nat}
theorem oh(c:wY prog w A S κ it lt N){key:Nat}(hk:key<N){xs:List Nat}(hx:∀x∈xs,x<N){base n:Nat}(hn:base+n<=xs.length)(left:Bool)(i:Nat)(hi:i<n)(st:HR)(hst:kindOf st=κ)(Q:Option Bool->HR->Prop)
  (h:Q (some (if left=true then lt (xs.getD (base+i) 0) key else !lt key (xs.getD (base+i) 0))) st):W prog w A S (do
   let x <-elem' ((xs.map (Ig it)).toArray) (base+i)
   if left=true then lt' x (Ig it key) else return (<-lt' (Ig it key) x).map (!·)) Q st:=by
 have hb:base+i<xs.length:=by lia
 have e:xs.getD (base+i) 0=xs[base+i]:=by simp[KZ,hb]
 have hxi:xs[base+i]<N:=hx _ (He hb);rw[e] at h;refine EQ (bx hb ?_);cases left with
 |true=>
  rw[if_pos rfl];rw[if_pos rfl] at h;exact w_lt c hxi hk hst h
 |false=>
  rw[if_neg (by simp)]
  rw[if_neg (by simp)] at h
  exact EQ (w_lt c hk hxi hst (FR h))
theorem lA(O:Ord lt)(c:wY prog w A S κ it lt N){key:Nat}(hk:key<N){xs:List Nat}(hx:∀x∈xs,x<N){base n hint:Nat}(hn:base+n<=xs.length)(hs:Sd lt ((xs.drop base).take n))(hh:hint<n){st:HR}(hst:kindOf st=κ){Q:Option Nat->HR->Prop}
  (h:∀k,k<=n->(∀x∈(xs.drop base).take k,lt key x=false)->(∀x∈((xs.drop base).take n).drop k,lt key x=true)->Q (some k) st):W prog w A S (pJ false (Ig it key) ((xs.map (Ig it)).toArray) base n hint) Q st:=by
 have at_:∀i,i<n->((xs.drop base).take n)[i]? = some (xs.getD (base+i) 0):=λi hi=>by
  rw[IQ hi,Ki,Bi (by lia)]
  simp[KZ,show base+i<xs.length by lia]
 have le:∀i j,i<=j->j<n->lt (xs.getD (base+j) 0) (xs.getD (base+i) 0)=false:=λi j hij hj=>by
  by_cases e:i=j
  ·subst e; exact qD O _
  ·obtain⟨h1,e1⟩:=Da.mp (at_ i (by lia))
   obtain⟨h2,e2⟩:=Da.mp (at_ j hj);have:=IJ.mp hs i j h1 h2 (by lia)
   rw[e1,e2] at this;exact this
 refine lz (B:=λi=> !lt key (xs.getD (base+i) 0)) (n:=n) (P:=λst=>kindOf st=κ) (λi j hij hj q=>?_) hh (λi hi st hst Q q=>oh c hk hx hn false i hi st hst Q (by simpa using q)) hst λk cut=>h k cut.le (λx hx' =>?_) λx hx' =>?_
 ·have q:lt key (xs.getD (base+j) 0)=false:=by simpa using q
  have:=O.trans _ _ _ (le i j hij hj) q;simpa using this
 ·obtain⟨i,hi,e⟩:=HV hx'
  have hl:=hi;rw[Gc] at hl;have ek:=cut.lo i (by lia)
  have e2:=at_ i (by have:=cut.le; lia)
  have hik:i<k:=by lia
  have hin:i<n:=by have:=cut.le; lia
  have e3:((xs.drop base).take k)[i]? = some x:=by rw[Bi hi,e]
  rw[IQ hik] at e3;rw[IQ hin,e3] at e2;rw[<-Fu e2] at ek;simpa using ek
 ·obtain⟨i,hi,e⟩:=HV hx'
  rw[HI,Gc,HI] at hi;rw[N6] at e;have e2:=at_ (k+i) (by lia)
  rw[Bi (by rw[Gc,HI]; lia),e] at e2
  have ek:=cut.hi (k+i) (by lia) (by lia)
  rw[<-Fu e2] at ek;simpa using ek
theorem lB(O:Ord lt)(c:wY prog w A S κ it lt N){key:Nat}(hk:key<N){xs:List Nat}(hx:∀x∈xs,x<N){base n hint:Nat}(hn:base+n<=xs.length)(hs:Sd lt ((xs.drop base).take n))(hh:hint<n){st:HR}(hst:kindOf st=κ){Q:Option Nat->HR->Prop}
  (h:∀k,k<=n->(∀x∈(xs.drop base).take k,lt x key=true)->(∀x∈((xs.drop base).take n).drop k,lt x key=false)->Q (some k) st):W prog w A S (pJ true (Ig it key) ((xs.map (Ig it)).toArray) base n hint) Q st:=by
 have at_:∀i,i<n->((xs.drop base).take n)[i]? = some (xs.getD (base+i) 0):=λi hi=>by
  rw[IQ hi,Ki,Bi (by lia)]
  simp[KZ,show base+i<xs.length by lia]
 have le:∀i j,i<=j->j<n->lt (xs.getD (base+j) 0) (xs.getD (base+i) 0)=false:=λi j hij hj=>by
  by_cases e:i=j
  ·subst e; exact qD O _
  ·obtain⟨h1,e1⟩:=Da.mp (at_ i (by lia))
   obtain⟨h2,e2⟩:=Da.mp (at_ j hj);have:=IJ.mp hs i j h1 h2 (by lia)
   rw[e1,e2] at this;exact this
 refine lz (B:=λi=>lt (xs.getD (base+i) 0) key) (n:=n) (P:=λst=>kindOf st=κ) (λi j hij hj q=>?_) hh (λi hi st hst Q q=>oh c hk hx hn true i hi st hst Q (by simpa using q)) hst λk cut=>h k cut.le (λx hx' =>?_) λx hx' =>?_
 ·cases z:lt (xs.getD (base+i) 0) key with
  |true=>rfl
  |false=>rw[O.trans _ _ _ z (le i j hij hj)] at q; cases q
 ·obtain⟨i,hi,e⟩:=HV hx'
  have hl:=hi;rw[Gc] at hl;have ek:=cut.lo i (by lia)
  have e2:=at_ i (by have:=cut.le; lia)
  have hik:i<k:=by lia
  have hin:i<n:=by have:=cut.le; lia
  have e3:((xs.drop base).take k)[i]? = some x:=by rw[Bi hi,e]
  rw[IQ hik] at e3;rw[IQ hin,e3] at e2;rw[<-Fu e2] at ek;simpa using ek
 ·obtain⟨i,hi,e⟩:=HV hx'
  rw[HI,Gc,HI] at hi;rw[N6] at e;have e2:=at_ (k+i) (by lia)
  rw[Bi (by rw[Gc,HI]; lia),e] at e2
  have ek:=cut.hi (k+i) (by lia) (by lia)
  rw[<-Fu e2] at ek;simpa using ek
end
structure bA(st st':HR):Prop where
 kind:kindOf st'=kindOf st
 arr:arrOf st'=arrOf st
 pend:KU st'=KU st
 fail:Ke st'=Ke st
theorem bA.refl(st:HR):bA st st:=⟨rfl,rfl,rfl,rfl⟩
section
variable{prog:Fk}{w:World}{A:HN}{S:B2}{κ:JM}{it:Array Keyed}{lt:Nat->Nat->Bool}{N:Nat}
abbrev ar(it:Array Keyed)(l:List Nat):Array Keyed:=(l.map (Ig it)).toArray
theorem jg(l:List Nat):(ar it l).size=l.length:=by simp[ar]
theorem jh(l:List Nat)(x:Nat):(ar it l).push (Ig it x)=ar it (l++[x]):=by simp[ar]
theorem aR(l m:List Nat):ar it l++ar it m=ar it (l++m):=by simp[ar]
theorem sy(l:List Nat)(i k:Nat):(ar it l).extract i (i+k)=ar it ((l.drop i).take k):=by
 simp[ar,Lc,Kf,Je]
theorem kJ(l:List Nat)(i:Nat):(ar it l).extract i l.length=ar it (l.drop i):=by
 simp[ar,Lc,Kf,Ix]
theorem um(l:List Nat)(i j:Nat):(ar it l).extract i j=ar it ((l.drop i).take (j-i)):=by
 simp[ar,Lc,Kf,Je]
theorem fL(l:List Nat):(ar it l).reverse=ar it l.reverse:=by simp[ar]
theorem Df(x:Nat):(#[Ig it x]:Array Keyed)=ar it [x]:=rfl
theorem ji{g:Nat}{st:HR}{Q:Unit->HR->Prop}(h:∀st',bA st st'->Q () st'):W prog w A S (Az g) Q st :=
 show wpS _ _ _ _ (modify λs=>LG (kindOf s) (arrOf s) (KU s) g (Ke s)) _ _ from Lo (h _ ⟨rfl,rfl,rfl,rfl⟩)
theorem jj{lt:Nat->Nat->Bool}{l:List Nat}(O:Ord lt)(hs:Sd lt l){i:Nat}(h:i<l.length):∀r∈l.drop i,lt r l[i]=false:=λr hr=>by
 rw[JX h] at hr;rcases lK hr with rfl | hr
 ·exact qD O _
 ·have h2:=hs.drop i
  unfold Sd at h2;rw[JX h] at h2;exact(Ip.mp h2).1 r hr
inductive Dg{β:Type}(lt:Nat->Nat->Bool)(a b:List Nat)(it:Array Keyed)(d:Option (Array Keyed)×β):Prop
 |mk (res:List Nat) (r:β):d=(some (ar it res),r)->Res lt a b res->Dg lt a b it d
structure LK(lt:Nat->Nat->Bool)(a b o:List Nat)(ia ib n:Nat):Prop where
 m:MI lt a b o ia ib
 k1:ib<b.length
 k2:ia+1<a.length
 k3:n<ia+ib
inductive GS(lt:Nat->Nat->Bool)(a b:List Nat)(it:Array Keyed)(n:Nat)(d:Option (Array Keyed)×Array Keyed×Nat×Nat×Nat):Prop
 |mk (o:List Nat) (ia ib mg:Nat):d=(none,ar it o,ia,ib,mg)->LK lt a b o ia ib n->GS lt a b it n d
inductive Gm(lt:Nat->Nat->Bool)(a b:List Nat)(it:Array Keyed)(n:Nat)(d:Option (Array Keyed)×Array Keyed×Nat×Nat×Nat×Nat):Prop
 |mk (o:List Nat) (ia ib ac bc:Nat):d=(none,ar it o,ia,ib,ac,bc)->LK lt a b o ia ib n->Gm lt a b it n d
inductive Gn(lt:Nat->Nat->Bool)(a b:List Nat)(it:Array Keyed)(n:Nat)(d:Option (Array Keyed)×Array Keyed×Nat×Nat×Nat×Nat×Nat):Prop
 |mk (o:List Nat) (ia ib mg ac bc:Nat):d=(none,ar it o,ia,ib,mg,ac,bc)->LK lt a b o ia ib n->Gn lt a b it n d
theorem dc{α:Type}{x y:Nat}{t e:StateT HR Sem α}{Q:α->HR->Prop}{st:HR}(h1:x=y->W prog w A S t Q st)(h2:x≠y->W prog w A S e Q st):W prog w A S (if (x == y)=true then t else e) Q st:=by
 by_cases h:x=y
 ·rw[if_pos (by simpa using h)]; exact h1 h
 ·rw[if_neg (by simpa using h)]; exact h2 h
theorem cutN{G P:Nat->Prop}(k:∀m,(∀g,G g)->P m)(g:∀g,G g):∀m,P m:=λm=>k m g
theorem cutG{H G:Nat->List Nat->Prop}{P:List Nat->Nat->Prop}{o0:List Nat}{n0:Nat}(k:∀o,o0=o->∀n,n0=n->(∀n o,H n o->G n o)->P o n)(g:∀n o,H n o->G n o):∀o,o0=o->∀n,n0=n->P o n:=λo e n f=>k o e n f g
theorem pL(O:Ord lt)(c:wY prog w A S κ it lt N){a b:List Nat}(ha:Sd lt a)(hb:Sd lt b)(hxa:∀x∈a,x<N)(hxb:∀x∈b,x<N)(na:0<a.length)(nb:0<b.length)
  (h0:∀r∈a,lt r b[0]=false) (hl:∀y∈b,∀x∈a.drop (a.length-1),lt x y=false) {st:HR} (hst:kindOf st=κ) {Q:Array Keyed->HR->Prop} (h:∀res st',bA st st'->Res lt a b res->Q (ar it res) st') :
  W prog w A S (xP (ar it a) (ar it b)) Q st:=by
 have m0:MI lt a b [b[0]] 0 1:=by
  have z:MI lt a b [] 0 0:=⟨.refl _,.nil,λo ho=>(nomatch ho),λo ho=>(nomatch ho)⟩
  have:=z.kq hb 1 λx hx r hr=>by
   rw[take_one nb] at hx;rw[Ch] at hx;subst hx;exact h0 r (by simpa using hr)
  rw[take_one nb] at this;simpa using this
 have at1:∀{ia:Nat}(hia:ia<a.length),a[ia]<N:=λhia=>hxa _ (He hia)
 have bt1:∀{ib:Nat}(hib:ib<b.length),b[ib]<N:=λhib=>hxb _ (He hib)
 have last:∀{ia:Nat},ia+1=a.length->∀y∈b,∀x∈a.drop ia,lt x y=false:=λ{ia}e y hy x hx=>hl y hy x (by rw[<-e]; exact hx)
 clear h0
 show wpS _ _ _ _ _ _ _;refine EQ (Mp (Ii ⟨rfl,?_⟩));refine EQ (bx nb ?_);rw[Df];simp -zeta only[jg];refine dc (λe1=>?_) λe1=>?_
 ·simp only[kJ,aR]
  exact FR (h _ st (bA.refl st) (m0.done ha hb (.inl e1)))
 refine dc (λe2=>?_) λe2=>?_
 ·simp only[kJ,aR]
  exact FR (h _ st (bA.refl st) (m0.uh ha hb λy hy x hx=>hl y hy x (by rw[<-e2]; exact hx)))
 refine EQ (Lx ?_);refine EQ (Jw (Ie
  (I:=λx d st'=>bA st st'/\GS lt a b it x d)
  (Q:=λd st'=>bA st st'/\Dg lt a b it d) ?_ ?_ ⟨bA.refl st,[b[0]],0,1,_,rfl,m0,by lia,by lia,by lia⟩) ?_)
 rotate_left
 ·rintro d st' ⟨sm,out,ia,ib,mg,rfl,m,k1,k2,k3⟩
  lia
 ·rintro d st' ⟨sm,res,r,rfl,hr⟩
  exact FR (h res st' sm hr)
 rintro x d st' _ hx ⟨sm,out,ia,ib,mg,rfl,m,k1,k2,k3⟩;dsimp -zeta only;refine EQ (Jw (Ie
  (I:=λy d st''=>st''=st'/\Gm lt a b it (x+y) d)
  (Q:=λd st''=>st''=st'/\(Dg lt a b it d\/Gm lt a b it (x+1) d)) ?_ ?_ ⟨rfl,out,ia,ib,0,0,rfl,m,k1,k2,k3⟩) ?_)
 rotate_left
 ·rintro d st'' ⟨rfl,out,ia,ib,ac,bc,rfl,m,k1,k2,k3⟩
  exact⟨rfl,.inr ⟨out,ia,ib,ac,bc,rfl,m,k1,k2,by lia⟩⟩
 rotate_left
 ·rintro y d st'' _ hy ⟨rfl,out,ia,ib,ac,bc,rfl,m,k1,k2,k3⟩
  have k2':ia<a.length:=by lia
  simp only[kJ];refine EQ (bx k1 (EQ (bx k2' (EQ (w_lt c (bt1 k1) (at1 k2') (sm.kind.trans hst) ?_)))));cases e:lt b[ib] a[ia] with
  |true=>
   have m2:=m.kq hb 1 λx hx r hr=>by
    rw[take_one k1,Ch] at hx;subst hx;exact O.trans _ _ _ (O.asym _ _ e) (jj O ha k2' r hr)
   rw[take_one k1] at m2;dsimp only;rw[if_pos rfl];refine EQ (bx k1 ?_);rw[jh,aR,aR];refine dc (λe3=>?_) λe3=>?_
   ·exact FR ⟨rfl,.inl ⟨_,_,rfl,m2.done ha hb (.inl e3)⟩⟩
   ·split
    ·exact FR ⟨rfl,.inr ⟨_,_,_,_,_,rfl,m2,by lia,k2,by lia⟩⟩
    ·exact FR ⟨rfl,_,_,_,_,_,rfl,m2,by lia,k2,by lia⟩
  |false=>
   have m2:=m.iE ha 1 λx hx r hr=>by
    rw[take_one k2',Ch] at hx;subst hx;exact O.trans _ _ _ e (jj O hb k1 r hr)
   rw[take_one k2'] at m2;dsimp only;rw[if_neg (by simp)]
   refine EQ (bx k2' ?_);rw[jh,aR,aR];refine dc (λe3=>?_) λe3=>?_
   ·exact FR ⟨rfl,.inl ⟨_,_,rfl,m2.uh ha hb (last e3)⟩⟩
   ·split
    ·exact FR ⟨rfl,.inr ⟨_,_,_,_,_,rfl,m2,k1,by lia,by lia⟩⟩
    ·exact FR ⟨rfl,_,_,_,_,_,rfl,m2,k1,by lia,by lia⟩
 rintro d st'' ⟨rfl,⟨res,r,rfl,hr⟩ | ⟨out,ia,ib,ac,bc,rfl,m,k1,k2,k3⟩⟩
 ·exact FR ⟨sm,res,_,rfl,hr⟩
 dsimp -zeta only;refine EQ (Mp (Ii ⟨rfl,?_⟩));refine EQ (Jw (Ie
  (I:=λy d st2=>bA st st2/\Gn lt a b it (x+1) d)
  (Q:=λd st2=>bA st st2/\(Dg lt a b it d\/Gn lt a b it (x+1) d)) ?_ ?_ ⟨sm,out,ia,ib,_,ac,bc,rfl,m,k1,k2,k3⟩) ?_)
 rotate_left
 ·rintro d st2 ⟨sm,out,ia,ib,mg,ac,bc,rfl,m,k1,k2,k3⟩
  exact⟨sm,.inr ⟨out,ia,ib,mg,ac,bc,rfl,m,k1,k2,k3⟩⟩
 ·rintro d st2 ⟨sm,⟨res,r,rfl,hr⟩ | ⟨out,ia,ib,mg,ac,bc,rfl,m,k1,k2,k3⟩⟩
  ·exact FR ⟨sm,res,_,rfl,hr⟩
  ·dsimp only
   refine EQ (ji λst3 sm3=>?_)
   exact FR ⟨⟨sm3.kind.trans sm.kind,sm3.arr.trans sm.arr,sm3.pend.trans sm.pend,sm3.fail.trans sm.fail⟩,out,ia,ib,_,rfl,m,k1,k2,k3⟩
 rintro y d st2 _ hy ⟨sm2,out,ia,ib,mg,ac,bc,rfl,m,k1,k2,k3⟩
 clear sm hy
 have k2':ia<a.length:=by lia
 have all:∀{l:List Nat}{i:Nat},(l.drop i).take (l.length-i)=l.drop i:=λ{l i}=>Ix (by rw[HI]; exact Db _)
 have sa:Sd lt ((a.drop ia).take (a.length-ia)):=by rw[all]; exact ha.drop ia
 simp only[kJ]
 revert mg
 refine cutN (λmg key=>by
  rcases ND 1 mg with hmg | hmg
  rotate_left
  ·rw[if_neg (Pl.mpr hmg)]; exact key mg
  ·rw[if_pos hmg]; exact key (mg-1)) λg=>?_
 refine EQ (ji λst3 sm3=>?_)
 have sm:bA st st3:=⟨sm3.kind.trans sm2.kind,sm3.arr.trans sm2.arr,sm3.pend.trans sm2.pend,sm3.fail.trans sm2.fail⟩;refine EQ (bx k1 ?_);refine EQ (lA O c (bt1 k1) hxa (by lia) sa (by lia) (sm.kind.trans hst) λk hk hlo hhi=>?_)
 rw[all] at hhi;have mA:=m.iE ha k λx hx r hr=>O.trans _ _ _ (hlo x hx) (jj O hb k1 r hr)
 dsimp only;generalize eo:out=ox;generalize en:ia=nx
 revert ox nx
 refine cutG (H:=λn o=>n=ia+k/\MI lt a b o (ia+k) ib/\ia+k+1<a.length) (λox eo nx en key=>by
  rcases Kl k with hk0 | hk0
  ·rw[if_neg (by lia)]
   exact key nx ox ⟨by lia,by rw[hk0,<-eo]; exact m,by lia⟩
  ·subst eo en
   rw[if_pos hk0,sy,aR,aR,aR];refine dc (λe3=>?_) λe3=>?_
   ·exact FR ⟨sm,.inl ⟨_,_,rfl,mA.uh ha hb (last e3)⟩⟩
   rw[aR,aR];refine dc (λe4=>?_) λe4=>?_
   ·exact FR ⟨sm,.inl ⟨_,_,rfl,mA.done ha hb (.inr e4)⟩⟩
   exact key _ _ ⟨rfl,mA,by lia⟩) ?_
 clear mA m
 rintro n out ⟨rfl,mA,k4⟩;have mB:=mA.kq hb 1 λx hx r hr=>by
  rw[take_one k1,Ch] at hx;subst hx;rw[<-Jr] at hr;exact O.asym _ _ (hhi r hr)
 rw[take_one k1] at mB;have k5:ia+k<a.length:=by lia
 refine EQ (bx k1 ?_);rw[jh,aR,aR];refine dc (λe5=>?_) λe5=>?_
 ·exact FR ⟨sm,.inl ⟨_,_,rfl,mB.done ha hb (.inl e5)⟩⟩
 refine EQ (bx k5 ?_);refine EQ (lB O c (at1 k5) hxb (by lia) (by rw[all]; exact hb.drop (ib+1)) (by lia) (sm.kind.trans hst) λj hj jlo jhi=>?_)
 rw[all] at jhi;have mC:=mB.kq hb j λx hx r hr=>O.trans _ _ _ (O.asym _ _ (jlo x hx)) (jj O ha k5 r hr)
 dsimp only;generalize eo:out++[b[ib]]=ox;generalize en:ib+1=nx
 revert ox nx
 refine cutG (H:=λn o=>n=ib+1+j/\MI lt a b o (ia+k) (ib+1+j)/\ib+1+j<b.length) (λox eo nx en key=>by
  rcases Kl j with hj0 | hj0
  ·rw[if_neg (by lia)]
   exact key nx ox ⟨by lia,by rw[hj0,<-eo]; exact mB,by lia⟩
  ·subst eo en
   rw[if_pos hj0,sy,aR,aR,aR];refine dc (λe6=>?_) λe6=>?_
   ·exact FR ⟨sm,.inl ⟨_,_,rfl,mC.done ha hb (.inl e6)⟩⟩
   exact key _ _ ⟨rfl,mC,by lia⟩) ?_
 clear mC mB
 rintro n out ⟨rfl,mC,j4⟩;have mD:=mC.iE ha 1 λx hx r hr=>by
  rw[take_one k5,Ch] at hx;subst hx;rw[<-Jr] at hr;exact jhi r hr
 rw[take_one k5] at mD;refine EQ (bx k5 ?_);rw[jh,aR,aR];refine dc (λe7=>?_) λe7=>?_
 ·exact FR ⟨sm,.inl ⟨_,_,rfl,mD.uh ha hb (last e7)⟩⟩
 split
 ·exact FR ⟨sm,.inr ⟨_,_,_,_,_,_,rfl,mD,by lia,by lia,by lia⟩⟩
 ·exact FR ⟨sm,_,_,_,_,_,_,rfl,mD,by lia,by lia,by lia⟩
end
structure MH(lt:Nat->Nat->Bool)(a b o:List Nat)(na nb:Nat):Prop where
 perm:o.Perm (a.drop na++b.drop nb)
 srt:Sd lt o
 lea:∀x∈o,∀r∈a.take na,lt x r=false
 leb:∀x∈o,∀r∈b.take nb,lt x r=false
section
variable{lt:Nat->Nat->Bool}{a b o:List Nat}{na nb:Nat}
theorem MH.sym(m:MH lt a b o na nb):MH lt b a o nb na:=⟨m.perm.trans JB,m.srt,m.leb,m.lea⟩
theorem lC(l:List Nat){i n:Nat}(h:i<=n):l.drop i=(l.take n).drop i++l.drop n:=by
 have e:l.drop n=(l.drop i).drop (n-i):=by rw[Jr,Nat.add_sub_cancel' h]
 have e2:(l.take n).drop i=(l.drop i).take (n-i):=by rw[QY]
 rw[e,e2,FV]
theorem MH.iE(m:MH lt a b o na nb)(ha:Sd lt a){i:Nat}(hi:i<=na)(hn:na<=a.length)(h:∀x∈(a.take na).drop i,∀r∈b.take nb,lt x r=false):MH lt a b ((a.take na).drop i++o) i nb:=by
 have hs:=ha.take na;have es:(a.take na).take i=a.take i:=by rw[List.take_take,Np hi]
 refine⟨?_,?_,λx hx r hr=>?_,λx hx r hr=>?_⟩
 ·rw[lC a hi,BM]
  exact Hc _ m.perm
 ·exact Fm.mpr ⟨Sd.drop hs i,m.srt,λx hx y hy=>m.lea y hy x (Jh hx)⟩
 ·rcases lM hx with hx | hx
  ·have h2:=hs
   unfold Sd at h2;rw[<-FV i (a.take na),es] at h2;exact(Fm.mp h2).2.2 r hr x hx
  ·refine m.lea x hx r ?_
   rw[<-es] at hr;exact IW hr
 ·rcases lM hx with hx | hx
  ·exact h x hx r hr
  ·exact m.leb x hx r hr
theorem MH.kq(m:MH lt a b o na nb)(hb:Sd lt b){i:Nat}(hi:i<=nb)(hn:nb<=b.length)(h:∀x∈(b.take nb).drop i,∀r∈a.take na,lt x r=false):MH lt a b ((b.take nb).drop i++o) na i:=(m.sym.iE hb hi hn h).sym
theorem drop_one{l:List Nat}{n:Nat}(h:n<l.length):(l.take (n+1)).drop n=[l[n]]:=by
 rw[QW,L9 (by rw[Gc]; lia),List.drop_of_length_le (by rw[Gc]; lia),Bi h]; rfl
theorem MH.done(m:MH lt a b o na nb)(ha:Sd lt a)(hb:Sd lt b)(h:na=0\/nb=0):Res lt a b (a.take na++b.take nb++o):=by
 refine⟨?_,?_⟩
 ·refine Fm.mpr ⟨Fm.mpr ⟨ha.take na,hb.take nb,λx hx y hy=>?_⟩,m.srt,λx hx y hy=>?_⟩
  ·rcases h with h | h
   ·rw[h] at hx; simp at hx
   ·rw[h] at hy; simp at hy
  ·rcases lM hx with hx | hx
   ·exact m.lea y hy x hx
   ·exact m.leb y hy x hx
 ·have:(a.take na++b.take nb++o).Perm (a.take na++b.take nb++(a.drop na++b.drop nb)):=Hc _ m.perm
  refine this.trans ?_;have e:a++b=(a.take na++a.drop na)++(b.take nb++b.drop nb):=by rw[FV,FV]
  rw[e,BM,BM];refine Hc _ ?_;rw[<-BM,<-BM];exact JB.append_right _
theorem MH.pM(m:MH lt a b o na nb)(ha:Sd lt a)(hb:Sd lt b)(h:∀x∈b.take nb,∀r∈a,lt r x=false):Res lt a b (b.take nb++a.take na++o):=by
 refine⟨?_,?_⟩
 ·refine Fm.mpr ⟨Fm.mpr ⟨hb.take nb,ha.take na,λx hx y hy=>h x hx y (IW hy)⟩,m.srt,λx hx y hy=>?_⟩
  rcases lM hx with hx | hx
  ·exact m.leb y hy x hx
  ·exact m.lea y hy x hx
 ·have:(b.take nb++a.take na++o).Perm (b.take nb++a.take na++(a.drop na++b.drop nb)):=Hc _ m.perm
  refine this.trans ?_;rw[BM,<-BM (a.take na),FV];have e:a++b=a++(b.take nb++b.drop nb):=by rw[FV]
  rw[e,<-BM,<-BM];exact JB.append_right _
end
theorem bK{l:List Nat}{n:Nat}(h0:0<n)(h:n<=l.length):(l.take n).drop (n-1)=[l[n-1]'(by lia)]:=by
 obtain⟨m,rfl⟩:∃m,n=m+1:=⟨n-1,by lia⟩
 exact drop_one (by lia)
theorem jk{lt:Nat->Nat->Bool}{l:List Nat}(O:Ord lt)(hs:Sd lt l){n:Nat}(h0:0<n)(h:n<=l.length):∀r∈l.take n,lt (l[n-1]'(by lia)) r=false:=λr hr=>by
 have h2:=hs.take n;unfold Sd at h2;rw[<-FV (n-1) (l.take n),bK h0 h] at h2 hr;rcases lM hr with hr | hr
 ·exact(Fm.mp h2).2.2 r hr _ lS
 ·rw[Ch] at hr; subst hr; exact qD O _
structure HK(lt:Nat->Nat->Bool)(a b o:List Nat)(na nb n:Nat):Prop where
 m:MH lt a b o na nb
 k1:0<na
 k1':na<=a.length
 k2:1<nb
 k2':nb<=b.length
 k3:n+na+nb<a.length+b.length
inductive GU(lt:Nat->Nat->Bool)(a b:List Nat)(it:Array Keyed)(n:Nat)(d:Option (Array Keyed)×Nat×Nat×Array Keyed×Nat):Prop
 |mk (na nb:Nat) (o:List Nat) (mg:Nat):d=(none,na,nb,ar it o.reverse,mg)->HK lt a b o na nb n->GU lt a b it n d
inductive Gp(lt:Nat->Nat->Bool)(a b:List Nat)(it:Array Keyed)(n:Nat)(d:Option (Array Keyed)×Nat×Nat×Array Keyed×Nat×Nat):Prop
 |mk (na nb:Nat) (o:List Nat) (ac bc:Nat):d=(none,na,nb,ar it o.reverse,ac,bc)->HK lt a b o na nb n->Gp lt a b it n d
inductive Gq(lt:Nat->Nat->Bool)(a b:List Nat)(it:Array Keyed)(n:Nat)(d:Option (Array Keyed)×Nat×Nat×Array Keyed×Nat×Nat×Nat):Prop
 |mk (na nb:Nat) (o:List Nat) (mg ac bc:Nat):d=(none,na,nb,ar it o.reverse,mg,ac,bc)->HK lt a b o na nb n->Gq lt a b it n d
section
variable{prog:Fk}{w:World}{A:HN}{S:B2}{κ:JM}{it:Array Keyed}{lt:Nat->Nat->Bool}{N:Nat}
theorem pN(l:List Nat)(i n:Nat):(ar it l).extract i n=ar it ((l.take n).drop i):=by rw[um,QY]
theorem jl(o:List Nat)(x:Nat):(ar it o.reverse).push (Ig it x)=ar it ([x]++o).reverse:=by rw[jh]; simp
theorem uo(o g:List Nat):ar it o.reverse++ar it g.reverse=ar it (g++o).reverse:=by rw[aR,List.reverse_append]
theorem ar_dd(l m:List Nat):ar it (l.drop 0)++ar it (m.drop 0)=ar it (l.drop 0++m.drop 0):=aR _ _
theorem pO(O:Ord lt)(c:wY prog w A S κ it lt N){a b:List Nat}(ha:Sd lt a)(hb:Sd lt b)(hxa:∀x∈a,x<N)(hxb:∀x∈b,x<N)(na0:0<a.length)(nb0:0<b.length)
  (h0:∀r∈a,lt r b[0]=false) (hl:∀y∈b,∀x∈a.drop (a.length-1),lt x y=false) {st:HR} (hst:kindOf st=κ) {Q:Array Keyed->HR->Prop} (h:∀res st',bA st st'->Res lt a b res->Q (ar it res) st') :
  W prog w A S (xQ (ar it a) (ar it b)) Q st:=by
 have la:a.length-1<a.length:=by lia
 have m0:MH lt a b [a[a.length-1]] (a.length-1) b.length:=by
  have z:MH lt a b [] a.length b.length:=⟨by simp,.nil,λo ho=>(nomatch ho),λo ho=>(nomatch ho)⟩
  have:=z.iE ha (i:=a.length-1) (by lia) (Db _) λx hx r hr=>by
   rw[Jc] at hx;exact hl r (IW hr) x hx
  rw[bK na0 (Db _)] at this;exact this
 have first:∀{nb:Nat},nb=1->∀x∈b.take nb,∀r∈a,lt r x=false:=λ{nb}e x hx r hr=>by
  subst e;have:x=b[0]:=by
   obtain⟨y,ys,rfl⟩:∃y ys,b=y::ys:=by cases b with | nil=>simp at nb0 | cons y ys=>exact⟨_,_,rfl⟩
   simpa using hx
  subst this;exact h0 r hr
 have at1:∀{i:Nat}(hi:i<a.length),a[i]<N:=λhi=>hxa _ (He hi)
 have bt1:∀{i:Nat}(hi:i<b.length),b[i]<N:=λhi=>hxb _ (He hi)
 clear hl h0
 show wpS _ _ _ _ _ _ _;refine EQ (Mp (Ii ⟨rfl,?_⟩));simp -zeta only[jg];refine EQ (bx la ?_);rw[show (#[Ig it a[a.length-1]]:Array Keyed)=ar it [a[a.length-1]].reverse from rfl]
 refine dc (λe1=>?_) λe1=>?_
 ·simp only[pN,fL,aR,Im]
  exact FR (h _ st (bA.refl st) (m0.done ha hb (.inl e1)))
 refine dc (λe2=>?_) λe2=>?_
 ·simp only[pN,fL,aR,Im]
  exact FR (h _ st (bA.refl st) (m0.pM ha hb (first e2)))
 refine EQ (Lx ?_);refine EQ (Jw (Ie
  (I:=λx d st'=>bA st st'/\GU lt a b it x d)
  (Q:=λd st'=>bA st st'/\Dg lt a b it d) ?_ ?_ ⟨bA.refl st,_,_,[a[a.length-1]],_,rfl,m0,by lia,by lia,by lia,by lia,by lia⟩) ?_)
 rotate_left
 ·rintro d st' ⟨sm,na,nb,o,mg,rfl,m,k1,k1',k2,k2',k3⟩
  lia
 ·rintro d st' ⟨sm,res,r,rfl,hr⟩
  exact FR (h res st' sm hr)
 rintro x d st' _ hx ⟨sm,na,nb,o,mg,rfl,m,k1,k1',k2,k2',k3⟩;dsimp -zeta only;refine EQ (Jw (Ie
  (I:=λy d st''=>st''=st'/\Gp lt a b it (x+y) d)
  (Q:=λd st''=>st''=st'/\(Dg lt a b it d\/Gp lt a b it (x+1) d)) ?_ ?_ ⟨rfl,na,nb,o,0,0,rfl,m,k1,k1',k2,k2',k3⟩) ?_)
 rotate_left
 ·rintro d st'' ⟨rfl,na,nb,o,ac,bc,rfl,m,k1,k1',k2,k2',k3⟩
  exact⟨rfl,.inr ⟨na,nb,o,ac,bc,rfl,m,k1,k1',k2,k2',by lia⟩⟩
 rotate_left
 ·rintro y d st'' _ hy ⟨rfl,na,nb,o,ac,bc,rfl,m,k1,k1',k2,k2',k3⟩
  have pa:na-1<a.length:=by lia
  have pb:nb-1<b.length:=by lia
  simp only[pN,fL,aR,Im];refine EQ (bx pb (EQ (bx pa (EQ (w_lt c (bt1 pb) (at1 pa) (sm.kind.trans hst) ?_)))));cases e:lt b[nb-1] a[na-1] with
  |true=>
   have m2:=m.iE ha (i:=na-1) (by lia) k1' λx hx r hr=>by
    rw[bK k1 k1',Ch] at hx;subst hx;exact O.trans _ _ _ (jk O hb (by lia) k2' r hr) (O.asym _ _ e)
   rw[bK k1 k1'] at m2;dsimp only;rw[if_pos rfl];refine EQ (bx pa ?_);rw[jl,fL,Im,aR];refine dc (λe3=>?_) λe3=>?_
   ·exact FR ⟨rfl,.inl ⟨_,_,rfl,m2.done ha hb (.inl e3)⟩⟩
   ·split
    ·exact FR ⟨rfl,.inr ⟨_,_,_,_,_,rfl,m2,by lia,by lia,k2,k2',by lia⟩⟩
    ·exact FR ⟨rfl,_,_,_,_,_,rfl,m2,by lia,by lia,k2,k2',by lia⟩
  |false=>
   have m2:=m.kq hb (i:=nb-1) (by lia) k2' λx hx r hr=>by
    rw[bK (by lia) k2',Ch] at hx
    subst hx;exact O.trans _ _ _ (jk O ha k1 k1' r hr) e
   rw[bK (by lia) k2'] at m2
   dsimp only;rw[if_neg (by simp)]
   refine EQ (bx pb ?_);rw[jl,fL,Im,aR];refine dc (λe3=>?_) λe3=>?_
   ·exact FR ⟨rfl,.inl ⟨_,_,rfl,m2.pM ha hb (first e3)⟩⟩
   ·split
    ·exact FR ⟨rfl,.inr ⟨_,_,_,_,_,rfl,m2,k1,k1',by lia,by lia,by lia⟩⟩
    ·exact FR ⟨rfl,_,_,_,_,_,rfl,m2,k1,k1',by lia,by lia,by lia⟩
 rintro d st'' ⟨rfl,⟨res,r,rfl,hr⟩ | ⟨na,nb,o,ac,bc,rfl,m,k1,k1',k2,k2',k3⟩⟩
 ·exact FR ⟨sm,res,_,rfl,hr⟩
 dsimp -zeta only;refine EQ (Mp (Ii ⟨rfl,?_⟩));refine EQ (Jw (Ie
  (I:=λy d st2=>bA st st2/\Gq lt a b it (x+1) d)
  (Q:=λd st2=>bA st st2/\(Dg lt a b it d\/Gq lt a b it (x+1) d)) ?_ ?_ ⟨sm,na,nb,o,_,ac,bc,rfl,m,k1,k1',k2,k2',k3⟩) ?_)
 rotate_left
 ·rintro d st2 ⟨sm,na,nb,o,mg,ac,bc,rfl,q⟩
  exact⟨sm,.inr ⟨na,nb,o,mg,ac,bc,rfl,q⟩⟩
 ·rintro d st2 ⟨sm,⟨res,r,rfl,hr⟩ | ⟨na,nb,o,mg,ac,bc,rfl,q⟩⟩
  ·exact FR ⟨sm,res,_,rfl,hr⟩
  ·dsimp only
   refine EQ (ji λst3 sm3=>?_)
   exact FR ⟨⟨sm3.kind.trans sm.kind,sm3.arr.trans sm.arr,sm3.pend.trans sm.pend,sm3.fail.trans sm.fail⟩,na,nb,o,_,rfl,q⟩
 rintro y d st2 _ hy ⟨sm2,na,nb,o,mg,ac,bc,rfl,m,k1,k1',k2,k2',k3⟩
 clear sm hy
 have pa:na-1<a.length:=by lia
 have pb:nb-1<b.length:=by lia
 simp only[pN,fL,ar_dd]
 revert mg
 refine cutN (λmg key=>by
  rcases ND 1 mg with hmg | hmg
  rotate_left
  ·rw[if_neg (Pl.mpr hmg)]; exact key mg
  ·rw[if_pos hmg]; exact key (mg-1)) λg=>?_
 refine EQ (ji λst3 sm3=>?_)
 have sm:bA st st3:=⟨sm3.kind.trans sm2.kind,sm3.arr.trans sm2.arr,sm3.pend.trans sm2.pend,sm3.fail.trans sm2.fail⟩;refine EQ (bx pb ?_);refine EQ (lA O c (bt1 pb) hxa (by lia) (by rw[K5]; exact ha.take na) (by lia) (sm.kind.trans hst) λi hi hlo hhi=>?_)
 rw[K5] at hlo hhi;have mA:=m.iE ha hi k1' λx hx r hr=>O.trans _ _ _ (jk O hb (by lia) k2' r hr) (O.asym _ _ (hhi x hx))
 dsimp only;generalize hk:na-i=k;generalize eo:o=ox;generalize en:na=nx
 revert ox nx
 refine cutG (H:=λn o'=>n=i/\MH lt a b o' i nb/\0<i) (λox eo nx en key=>by
  rcases Kl k with hk0 | hk0
  ·rw[if_neg (by lia)]
   have e:na=i:=by lia
   exact key nx ox ⟨en.symm.trans e,eo▸e▸m,e▸k1⟩
  ·subst eo en
   rw[if_pos hk0,uo,fL,Im,aR];refine dc (λe3=>?_) λe3=>?_
   ·exact FR ⟨sm,.inl ⟨_,_,rfl,mA.done ha hb (.inl e3)⟩⟩
   exact key i _ ⟨rfl,mA,by lia⟩) ?_
 clear mA m
 rintro n o ⟨rfl,mA,i0⟩;have mB:=mA.kq hb (i:=nb-1) (by lia) k2' λx hx r hr=>by
  rw[bK (by lia) k2',Ch] at hx
  subst hx;exact hlo r hr
 rw[bK (by lia) k2'] at mB
 refine EQ (bx pb ?_);rw[jl,fL,Im,aR];refine dc (λe5=>?_) λe5=>?_
 ·exact FR ⟨sm,.inl ⟨_,_,rfl,mB.pM ha hb (first e5)⟩⟩
 have pi:n-1<a.length:=by lia
 refine EQ (bx pi ?_);refine EQ (lB O c (at1 pi) hxb (by lia) (by rw[K5]; exact hb.take (nb-1)) (by lia) (sm.kind.trans hst) λj hj jlo jhi=>?_)
 rw[K5] at jlo jhi;have mC:=mB.kq hb hj (by lia) λx hx r hr=>O.trans _ _ _ (jk O ha (by lia) (by lia) r hr) (jhi x hx)
 dsimp only;generalize hkj:nb-1-j=kj;generalize eo:[b[nb-1]]++o=ox;generalize en:nb-1=nx
 revert ox nx
 refine cutG (H:=λm o'=>m=j/\MH lt a b o' n j/\1<j) (λox eo nx en key=>by
  rcases Kl kj with hj0 | hj0
  ·rw[if_neg (by lia)]
   have e:nb-1=j:=by lia
   exact key nx ox ⟨en.symm.trans e,eo▸e▸mB,by lia⟩
  ·subst eo en
   rw[if_pos hj0,uo,fL,Im,aR];refine dc (λe6=>?_) λe6=>?_
   ·exact FR ⟨sm,.inl ⟨_,_,rfl,mC.pM ha hb (first e6)⟩⟩
   rw[aR];refine dc (λe7=>?_) λe7=>?_
   ·exact FR ⟨sm,.inl ⟨_,_,rfl,mC.done ha hb (.inr e7)⟩⟩
   exact key j _ ⟨rfl,mC,by lia⟩) ?_
 clear mC mB
 rintro n2 o ⟨rfl,mC,j1⟩;have mD:=mC.iE ha (i:=n-1) (by lia) (by lia) λx hx r hr=>by
  rw[bK (by lia) (by lia),Ch] at hx
  subst hx;exact O.asym _ _ (jlo r hr)
 rw[bK (by lia) (by lia)] at mD
 refine EQ (bx pi ?_);rw[jl,fL,Im,aR];refine dc (λe8=>?_) λe8=>?_
 ·exact FR ⟨sm,.inl ⟨_,_,rfl,mD.done ha hb (.inl e8)⟩⟩
 split
 ·exact FR ⟨sm,.inr ⟨_,_,_,_,_,_,rfl,mD,by lia,by lia,by lia,by lia,by lia⟩⟩
 ·exact FR ⟨sm,_,_,_,_,_,_,rfl,mD,by lia,by lia,by lia,by lia,by lia⟩
end
section
variable{prog:Fk}{w:World}{A:HN}{S:B2}{κ:JM}{it:Array Keyed}{lt:Nat->Nat->Bool}{N:Nat}
structure St(κ:JM)(it:Array Keyed)(p:List Nat)(pend:Array (Nat×Nat×Nat))(st:HR):Prop where
 kind:kindOf st=κ
 arr:arrOf st=ar it p
 pend:KU st=pend
 fail:Ke st=none
noncomputable abbrev g(V:List Nat)(i:Nat):Nat:=V.getD i 0
theorem vN{V:List Nat}{i:Nat}(h:i<V.length):g V i=V[i]:=by simp[g,KZ,h]
theorem jR(c:wY prog w A S κ it lt N){U V:List Nat}(hN:∀x∈V,x<N){pend:Array (Nat×Nat×Nat)}{st:HR}(s:St κ it (U++V) pend st){lo x y i j:Nat}(hU:U.length=lo)(ex:x=lo+i)(ey:y=lo+j)(hi:i<V.length)(hj:j<V.length){Q:Option Bool->HR->Prop}
  (h:Q (some (lt (g V i) (g V j))) st):W prog w A S (ltAt' x y) Q st:=by
 subst ex; subst ey; subst hU;show wpS _ _ _ _ _ _ _;rw[ltAt'_eq];refine EQ (Lx ?_);rw[s.arr];have e1:(U++V)[U.length+i]'(by simp; lia)=V[i]:=by simp
 have e2:(U++V)[U.length+j]'(by simp; lia)=V[j]:=by simp
 rw[vN hi,vN hj] at h;refine EQ (bx (by simp; lia) (EQ (bx (by simp; lia) ?_)))
 rw[e1,e2];exact w_lt c (hN _ (He hi)) (hN _ (He hj)) s.kind h
noncomputable def iR(V:List Nat)(i j:Nat):List Nat:=V.take i++((V.take j).drop i).reverse++V.drop j
theorem fU(V:List Nat){i j:Nat}(h:i<=j):(iR V i j).Perm V:=by
 have e:V=V.take i++(V.take j).drop i++V.drop j:=by
  have:=lC V h;rw[BM,<-this,FV]
 unfold iR
 conv=>rhs; rw[e]
 exact(Hc _ (Pr _)).append_right _
theorem xR(V:List Nat){i j:Nat}(h:i<=j):(iR V i j).length=V.length:=(fU V h).length_eq
theorem gR{V:List Nat}{i j k:Nat}(hij:i<=j)(hj:j<=V.length):g (iR V i j) k=if i<=k/\k<j then g V (i+j-1-k) else g V k:=by
 unfold g iR;rw[Fs,Fs,Fs];have l1:(V.take i).length=i:=by rw[Gc]; lia
 have l2:((V.take j).drop i).reverse.length=j-i:=by rw[LC,HI,Gc]; lia
 by_cases h1:k<i
 ·rw[if_neg (by lia),BM,HF (by lia),IQ h1]
 ·by_cases h2:k<j
  ·rw[if_pos ⟨by lia,h2⟩,BM,HU (by lia),HF (by lia),l1,Oi (by rw[HI,Gc]; lia)]
   rw[Ki,HI,Gc,IQ (by lia)]
   congr 2
   lia
  ·rw[if_neg (by lia),HU (by rw[Bz]; lia),Bz,l1,l2,Ki]
   congr 2
   lia
theorem vQ(U V:List Nat){i j:Nat}(hij:i<=j)(hj:j<=V.length):mirror (ar it (U++V)) (U.length+i) (U.length+j) ((U.length+j-(U.length+i)) / 2)=ar it (U++iR V i j):=by
 apply PB;intro k;rw[getElem?_mirror_all (by rw[jg,Bz]; lia)]
 have get:∀(l:List Nat)(k:Nat),(ar it l)[k]? = (l[k]?).map (Ig it):=λl k=>by simp[ar]
 rw[get,get,get]
 by_cases hk:k<U.length
 ·rw[if_neg (by lia),HF hk,HF hk]
 ·obtain⟨m,rfl⟩:∃m,k=U.length+m:=⟨k-U.length,by lia⟩
  have gr:=gR (k:=m) hij hj;unfold g at gr;rw[Fs,Fs,Fs] at gr;have hl:=xR V hij;have hR:(U++iR V i j)[U.length+m]? = (iR V i j)[m]? := by rw[HU (by lia),Km]
  rw[hR]
  by_cases hm:i<=m/\m<j
  ·rw[if_pos hm] at gr
   have hL:(U++V)[U.length+i+(U.length+j)-1-(U.length+m)]? = V[i+j-1-m]? := by
    rw[HU (by lia),show U.length+i+(U.length+j)-1-(U.length+m)-U.length=i+j-1-m by lia]
   rw[if_pos (by lia),hL]
   have a1:i+j-1-m<V.length:=by lia
   have a2:m<(iR V i j).length:=by lia
   rw[Bi a1,Bi a2] at gr ⊢;simp at gr;rw[gr]
  ·rw[if_neg hm] at gr
   have hL:(U++V)[U.length+m]? = V[m]? := by rw[HU (by lia),Km]
   rw[if_neg (by lia),hL]
   by_cases a1:m<V.length
   ·have a2:m<(iR V i j).length:=by lia
    rw[Bi a1,Bi a2] at gr ⊢;simp at gr;rw[gr]
   ·rw[JC (by lia),JC (by lia)]
theorem w_rev{U V:List Nat}{pend:Array (Nat×Nat×Nat)}{st:HR}(s:St κ it (U++V) pend st){lo x y i j:Nat}(hU:U.length=lo)(ex:x=lo+i)(ey:y=lo+j)(hij:i<=j)(hj:j<=V.length){Q:Unit->HR->Prop}
  (h:∀st',St κ it (U++iR V i j) pend st'->Q () st'):W prog w A S (reverseSlice' x y) Q st:=by
 subst ex; subst ey; subst hU;show wpS _ _ _ _ _ _ _;rw[reverseSlice'_eq];refine Lo (h _ ⟨s.kind,?_,s.pend,s.fail⟩);show mirror (arrOf st) _ _ _=_;rw[s.arr];exact vQ U V hij hj
def rT(lt:Nat->Nat->Bool)(V:List Nat)(m:Nat):Prop:=∀i j,i<=j->j<m->lt (g V j) (g V i)=false
def rV(lt:Nat->Nat->Bool)(V:List Nat)(m:Nat):Prop:=∀i j,i<=j->j<m->lt (g V i) (g V j)=false
def Fy(lt:Nat->Nat->Bool)(V:List Nat)(a b:Nat):Prop:=∀i j,a<=i->i<b->a<=j->j<b->lt (g V i) (g V j)=false
theorem rT.sd{V:List Nat}{m:Nat}(h:rT lt V m)(hm:m<=V.length):Sd lt (V.take m):=by
 refine IJ.mpr λi j hi hj hij=>?_
 rw[Gc] at hi hj;have:=h i j (by lia) (by lia)
 rw[vN (by lia),vN (by lia)] at this
 rw[KM,KM];exact this
theorem Sd.Ht(O:Ord lt){V:List Nat}{m:Nat}(h:Sd lt (V.take m))(hm:m<=V.length):rT lt V m:=λi j hij hj=>by
 by_cases e:i=j
 ·subst e; exact qD O _
 ·have:=IJ.mp h i j (by rw[Gc]; lia) (by rw[Gc]; lia) (by lia)
  rw[KM,KM] at this;rw[vN (by lia),vN (by lia)]
  exact this
theorem rT.step(O:Ord lt){V:List Nat}{n:Nat}(h1:1<=n)(h:rT lt V n)(e:lt (g V n) (g V (n-1))=false):rT lt V (n+1):=λi j hij hj=>by
 by_cases hjn:j=n
 ·subst hjn
  by_cases hin:i=j
  ·subst hin; exact qD O _
  ·exact O.trans _ _ _ (h i (j-1) (by lia) (by lia)) e
 ·exact h i j hij (by lia)
theorem rV.step(O:Ord lt){V:List Nat}{n:Nat}(h1:1<=n)(h:rV lt V n)(e:lt (g V (n-1)) (g V n)=false):rV lt V (n+1):=λi j hij hj=>by
 by_cases hjn:j=n
 ·subst hjn
  by_cases hin:i=j
  ·subst hin; exact qD O _
  ·exact O.trans _ _ _ e (h i (j-1) (by lia) (by lia))
 ·exact h i j hij (by lia)
theorem rV.rev{V:List Nat}{a b:Nat}(hab:a<=b)(hb:b<=V.length)(he:Fy lt V a b)(h:rV lt V b):rV lt (iR V a b) b:=λi j hij hj=>by
 rw[gR hab hb,gR hab hb]
 by_cases hi:a<=i/\i<b
 ·rw[if_pos hi,if_pos ⟨by lia,hj⟩]
  exact he _ _ (by lia) (by lia) (by lia) (by lia)
 ·rw[if_neg hi]
  by_cases hj':a<=j/\j<b
  ·rw[if_pos hj']; exact h _ _ (by lia) (by lia)
  ·rw[if_neg hj']; exact h _ _ hij hj
theorem rV.asc{V:List Nat}{n:Nat}(hn:n<=V.length)(h:rV lt V n):rT lt (iR V 0 n) n:=λi j hij hj=>by
 rw[gR (HS _) hn,gR (HS _) hn,if_pos ⟨by lia,hj⟩,if_pos ⟨by lia,by lia⟩]
 exact h _ _ (by lia) (by lia)
theorem AA(O:Ord lt)(V:List Nat):rT lt V 1:=λi j hij hj=>by
 obtain rfl:i=j:=by lia
 exact qD O _
theorem AB(O:Ord lt)(V:List Nat):rV lt V 1:=λi j hij hj=>by
 obtain rfl:i=j:=by lia
 exact qD O _
inductive GV{β:Type}(κ:JM)(it:Array Keyed)(lt:Nat->Nat->Bool)(U V:List Nat)(pend:Array (Nat×Nat×Nat))(x:Nat)(d:Option β×Nat×Nat)(st:HR):Prop
 |mk (V2:List Nat) (q:Nat):d=(none,x,q)->V2.Perm V->St κ it (U++V2) pend st->1<=x->q+1<=x->rV lt V2 x->Fy lt V2 (x-(q+1)) x->GV κ it lt U V pend x d st
inductive GW{β:Type}(κ:JM)(it:Array Keyed)(lt:Nat->Nat->Bool)(U V:List Nat)(pend:Array (Nat×Nat×Nat))(n:Nat)(d:Option β×Nat×Nat)(st:HR):Prop
 |mk (V2:List Nat) (m q:Nat):d=(none,m,q)->V2.Perm V->St κ it (U++V2) pend st->1<=m->m<=n->q+1<=m->rV lt V2 m->Fy lt V2 (m-(q+1)) m->GW κ it lt U V pend n d st
theorem cutS{H:List Nat->HR->Prop}{G:HR->Prop}{P:Prop}(k:(∀V s,H V s->G s)->P)(g:∀V s,H V s->G s):P:=k g
theorem nD(O:Ord lt)(c:wY prog w A S κ it lt N){U V:List Nat}(hN:∀x∈V,x<N){pend:Array (Nat×Nat×Nat)}{st:HR}(s:St κ it (U++V) pend st){lo nrem:Nat}(hU:U.length=lo)(hV:V.length=nrem)(h1:1<=nrem){Q:Option Nat->HR->Prop}
  (h:∀m V' st',1<=m->m<=nrem->V'.Perm V->Sd lt (V'.take m)->St κ it (U++V') pend st'->Q (some m) st'):W prog w A S (countRun' lo nrem) Q st:=by
 show wpS _ _ _ _ _ _ _;refine EQ (Jw (Ie (I:=λx d st'=>st'=st/\d=(none,x)/\1<=x/\rT lt V x)
  (Q:=λd st'=>st'=st/\∃n,d=(none,n)/\1<=n/\n<=nrem/\rT lt V n/\(n<nrem->lt (g V n) (g V (n-1))=true)) ?_ ?_ ⟨rfl,rfl,Db _,AA O V⟩) ?_)
 ·rintro x d st' hx1 hx2 ⟨rfl,rfl,k1,k2⟩
  dsimp only;refine EQ (jR c hN s hU (i:=x) (j:=x-1) rfl (by lia) (by lia) (by lia) ?_)
  cases e:lt (g V x) (g V (x-1)) with
  |true=>exact FR ⟨rfl,x,rfl,k1,by lia,k2,λ_=>e⟩
  |false=>exact FR ⟨rfl,rfl,by lia,k2.step O k1 e⟩
 ·rintro d st' ⟨rfl,rfl,k1,k2⟩
  exact⟨rfl,_,rfl,k1,by lia,by rw[QK h1] at *; exact k2,λz=>by lia⟩
 rintro d st' ⟨rfl,n,rfl,k1,k2,k3,k4⟩;dsimp only
 by_cases e1:n=nrem
 ·rw[if_pos (by simpa using e1)]
  exact FR (h n V st' k1 k2 (.refl _) (k3.sd (by lia)) s)
 rw[if_neg (by simpa using e1)]
 have k4:=k4 (by lia)
 have one:∀(V1:List Nat)(m:Nat),Fy lt V1 (m+1-(0+1)) (m+1):=λV1 m i j a1 a2 a3 a4=>by
  obtain rfl:i=j:=by lia
  exact qD O _
 refine cutS (H:=λV1 s1=>V1.Perm V/\rV lt V1 (n+1)/\St κ it (U++V1) pend s1) (λkey=>by
  by_cases e2:n>1
  ·rw[if_pos e2]
   refine EQ (jR c hN s hU (i:=0) (j:=n-1) (by lia) (by lia) (by lia) (by lia) ?_)
   cases e3:lt (g V 0) (g V (n-1)) with
   |true=>exact FR (h n V st' k1 k2 (.refl _) (k3.sd (by lia)) s)
   |false=>
    dsimp only;rw[if_neg (by simp)]
    refine EQ (w_rev s hU (i:=0) (j:=n) (by lia) rfl (HS _) (by lia) λst1 s1=>?_)
    have p1:=fU V (HS n);have d1:rV lt (iR V 0 n) (n+1):=by
     have hall:∀i j,i<n->j<n->lt (g V i) (g V j)=false:=λi j hi hj=>by
      have a1:=k3 j (n-1) (by lia) (by lia)
      have a2:=k3 0 i (by lia) hi
      exact O.trans _ _ _ a1 (O.trans _ _ _ e3 a2)
     refine rV.step O k1 (λi j hij hj=>?_) ?_
     ·rw[gR (HS _) (by lia),gR (HS _) (by lia),if_pos ⟨by lia,by lia⟩,if_pos ⟨by lia,by lia⟩]
      exact hall _ _ (by lia) (by lia)
     ·rw[gR (HS _) (by lia),gR (HS _) (by lia),if_pos ⟨by lia,by lia⟩,if_neg (by lia)]
      exact O.trans _ _ _ (O.asym _ _ k4) (hall _ _ (by lia) (by lia))
    exact key _ st1 ⟨p1,d1,s1⟩
  ·rw[if_neg e2]
   have en:n=1:=by lia
   exact key V st' ⟨.refl _,by rw[en] at k4 ⊢; exact rV.step O (Db _) (AB O V) (O.asym _ _ k4),s⟩) ?_
 rintro V1 st1 ⟨p1,d1,s1⟩;refine EQ (Mp (Ii ⟨rfl,?_⟩));refine EQ (Jw (Ie (I:=λx d st2=>GV κ it lt U V pend x d st2)
  (Q:=λd st2=>GW κ it lt U V pend nrem d st2) ?_ ?_ ⟨V1,0,rfl,p1,s1,by lia,by lia,d1,one _ _⟩) ?_)
 ·rintro x d st2 hx1 hx2 ⟨V2,q,rfl,pV,s2,b0,b1,b2,b3⟩
  have l2:V2.length=nrem:=by rw[pV.length_eq,hV]
  have hN2:∀y∈V2,y<N:=λy hy=>hN y (pV.mem_iff.mp hy)
  dsimp only;refine EQ (jR c hN2 s2 hU (i:=x) (j:=x-1) rfl (by lia) (by lia) (by lia) ?_)
  cases e4:lt (g V2 x) (g V2 (x-1)) with
  |true=>
   dsimp only;rw[if_pos rfl];have e5:=O.asym _ _ e4
   by_cases hq:q>0
   ·rw[if_pos hq]
    refine EQ (w_rev s2 hU (i:=x-(q+1)) (j:=x) (by lia) rfl (by lia) (by lia) λst3 s3=>?_)
    refine FR ⟨_,0,rfl,(fU V2 (by lia)).trans pV,s3,by lia,by lia,(b2.rev (by lia) (by lia) b3).step O b0 ?_,one _ _⟩
    rw[gR (by lia) (by lia),gR (by lia) (by lia),if_pos ⟨by lia,by lia⟩,if_neg (by lia)]
    exact O.trans _ _ _ e5 (b3 _ _ (by lia) (by lia) (by lia) (by lia))
   ·rw[if_neg hq]
    exact FR ⟨V2,0,rfl,pV,s2,by lia,by lia,b2.step O b0 e5,one _ _⟩
  |false=>
   dsimp only;rw[if_neg (by simp)]
   refine EQ (jR c hN2 s2 hU (i:=x-1) (j:=x) (by lia) rfl (by lia) (by lia) ?_)
   cases e5:lt (g V2 (x-1)) (g V2 x) with
   |true=>exact FR ⟨V2,x,q,rfl,pV,s2,b0,by lia,b1,b2,b3⟩
   |false=>
    refine FR ⟨V2,q+1,rfl,pV,s2,by lia,by lia,b2.step O b0 e5,λi j a1 a2 a3 a4=>?_⟩
    by_cases hi:i=x
    ·by_cases hj:j=x
     ·subst hi; subst hj; exact qD O _
     ·rw[hi]; exact O.trans _ _ _ (b3 (x-1) j (by lia) (by lia) (by lia) (by lia)) e4
    ·by_cases hj:j=x
     ·rw[hj]; exact O.trans _ _ _ e5 (b3 i (x-1) (by lia) (by lia) (by lia) (by lia))
     ·exact b3 i j (by lia) (by lia) (by lia) (by lia)
 ·rintro d st2 ⟨V2,q,rfl,pV,s2,b0,b1,b2,b3⟩
  exact⟨V2,_,q,rfl,pV,s2,b0,by lia,b1,b2,b3⟩
 rintro d st2 ⟨V2,m,q,rfl,pV,s2,b0,b0',b1,b2,b3⟩;have l2:V2.length=nrem:=by rw[pV.length_eq,hV]
 dsimp only;refine cutS (H:=λV3 s3=>V3.Perm V/\rV lt V3 m/\St κ it (U++V3) pend s3) (λkey=>by
  by_cases hq:q>0
  ·rw[if_pos hq]
   refine EQ (w_rev s2 hU (i:=m-(q+1)) (j:=m) (by lia) rfl (by lia) (by lia) λst3 s3=>?_)
   exact key _ st3 ⟨(fU V2 (i:=m-(q+1)) (j:=m) (by lia)).trans pV,b2.rev (by lia) (by lia) b3,s3⟩
  ·rw[if_neg hq]
   exact key V2 st2 ⟨pV,b2,s2⟩) ?_
 rintro V3 st3 ⟨pV3,d3,s3⟩;have l3:=pV3.length_eq;rw[hV] at l3;refine EQ (w_rev s3 hU (i:=0) (j:=m) (by lia) rfl (HS _) (by lia) λst4 s4=>?_)
 have p4:=(fU _ (HS m)).trans pV3;have d4:=d3.asc (by lia)
 have l4:=p4.length_eq;rw[hV] at l4;generalize iR _ 0 m=V5 at s4 p4 d4 l4;have hN4:∀y∈V5,y<N:=λy hy=>hN y (p4.mem_iff.mp hy)
 refine EQ (Jw (Ie (I:=λx d st5=>st5=st4/\d=(none,x)/\1<=x/\rT lt V5 x) (Q:=λd st5=>st5=st4/\∃k,d=(none,k)/\1<=k/\k<=nrem/\rT lt V5 k) ?_ ?_ ⟨rfl,rfl,b0,d4⟩) ?_)
 ·rintro x d st5 hx1 hx2 ⟨rfl,rfl,f1,f2⟩
  dsimp only;refine EQ (jR c hN4 s4 hU (i:=x) (j:=x-1) rfl (by lia) (by lia) (by lia) ?_)
  cases e6:lt (g V5 x) (g V5 (x-1)) with
  |true=>exact FR ⟨rfl,x,rfl,f1,by lia,f2⟩
  |false=>exact FR ⟨rfl,rfl,by lia,f2.step O f1 e6⟩
 ·rintro d st5 ⟨rfl,rfl,f1,f2⟩
  exact⟨rfl,_,rfl,f1,by lia,f2⟩
 ·rintro d st5 ⟨rfl,k,rfl,f1,f2,f3⟩
  exact FR (h k _ st5 f1 f2 p4 (f3.sd (by lia)) s4)
end
noncomputable def mv(V:List Nat)(k l:Nat):List Nat:=(bubble V.toArray k (k-l)).toList
theorem AD(V:List Nat)(k l:Nat):(mv V k l).Perm V:=by
 unfold mv;have:=JO.mp (bubble_perm V.toArray k (k-l));simpa using this
theorem xS{V:List Nat}{k l:Nat}(hk:k<V.length)(hl:l<=k)(i:Nat):(mv V k l)[i]? = if i=l then V[k]? else if l<i/\i<=k then V[i-1]? else V[i]? := by
 unfold mv;rw[H9,getElem?_bubble (by simpa using hk) (k-l) (by lia),show k-(k-l)=l by lia]
 simp only[List.getElem?_toArray]
theorem g_mv{V:List Nat}{k l:Nat}(hk:k<V.length)(hl:l<=k)(i:Nat):g (mv V k l) i=if i=l then g V k else if l<i/\i<=k then g V (i-1) else g V i:=by
 unfold g;rw[Fs,xS hk hl,Fs,Fs,Fs]
 split
 ·rfl
 ·split <;> rfl
section
variable{prog:Fk}{w:World}{A:HN}{S:B2}{κ:JM}{it:Array Keyed}{lt:Nat->Nat->Bool}{N:Nat}
theorem vR(U V:List Nat){k l:Nat}(hk:k<V.length)(hl:l<=k):bubble (ar it (U++V)) (U.length+k) (U.length+k-(U.length+l))=ar it (U++mv V k l):=by
 apply PB;intro i;have get:∀(l:List Nat)(k:Nat),(ar it l)[k]? = (l[k]?).map (Ig it):=λl k=>by simp[ar]
 rw[getElem?_bubble (by rw[jg,Bz]; lia) _ (by lia),get,get,get,get]
 by_cases hi:i<U.length
 ·rw[if_neg (by lia),if_neg (by lia),HF hi,HF hi]
 ·obtain⟨m,rfl⟩:∃m,i=U.length+m:=⟨i-U.length,by lia⟩
  have R:∀(X:List Nat)(m:Nat),(U++X)[U.length+m]? = X[m]? := λX m=>by rw[HU (by lia),Km]
  rw[R,R,R,xS hk hl]
  by_cases h1:m=l
  ·rw[if_pos h1,if_pos (by lia)]
  ·rw[if_neg h1,if_neg (by lia)]
   by_cases h2:l<m/\m<=k
   ·rw[if_pos h2,if_pos (by lia),show U.length+m-1=U.length+(m-1) by lia,R]
   ·rw[if_neg h2,if_neg (by lia)]
theorem Dh{U V:List Nat}{pend:Array (Nat×Nat×Nat)}{st:HR}(s:St κ it (U++V) pend st){lo k l:Nat}(hU:U.length=lo)(hk:k<V.length)(hl:l<=k){Q:Unit->HR->Prop}
  (h:∀st',St κ it (U++mv V k l) pend st'->Q () st'):W prog w A S (moveDown' (lo+k) (lo+l)) Q st:=by
 subst hU;show wpS _ _ _ _ _ _ _;rw[moveDown'_eq];refine Lo (h _ ⟨s.kind,?_,s.pend,s.fail⟩);show bubble (arrOf st) _ _=_;rw[s.arr];exact vR U V hk hl
theorem AE(O:Ord lt){V:List Nat}{k l:Nat}(hk:k<V.length)(hl:l<=k)(hs:rT lt V k)(a:∀i,i<l->lt (g V k) (g V i)=false)(b:∀i,l<=i->i<k->lt (g V k) (g V i)=true):rT lt (mv V k l) (k+1):=by
 intro i j hij hj;rw[g_mv hk hl,g_mv hk hl]
 by_cases hjl:j=l
 ·rw[if_pos hjl]
  by_cases hil:i=l
  ·rw[if_pos hil]; exact qD O _
  ·rw[if_neg hil,if_neg (by lia)]
   exact a i (by lia)
 ·rw[if_neg hjl]
  by_cases hj2:l<j/\j<=k
  ·rw[if_pos hj2]
   by_cases hil:i=l
   ·rw[if_pos hil]
    exact O.asym _ _ (b (j-1) (by lia) (by lia))
   ·rw[if_neg hil]
    by_cases hi2:l<i/\i<=k
    ·rw[if_pos hi2]
     exact hs _ _ (by lia) (by lia)
    ·rw[if_neg hi2]
     exact hs _ _ (by lia) (by lia)
  ·rw[if_neg hj2,if_neg (by lia),if_neg (by lia)]
   exact hs _ _ (by lia) (by lia)
theorem qE(O:Ord lt)(c:wY prog w A S κ it lt N){U V:List Nat}(hN:∀x∈V,x<N){pend:Array (Nat×Nat×Nat)}{st:HR}(s:St κ it (U++V) pend st){lo n ok:Nat}(hU:U.length=lo)(hn:n<=V.length)(h1:1<=ok)(hok:ok<=n)(hs:Sd lt (V.take ok)){Q:Bool->HR->Prop}
  (h:∀V' st',V'.Perm V->Sd lt (V'.take n)->St κ it (U++V') pend st'->Q true st'):W prog w A S (binarySort' lo n ok) Q st:=by
 show wpS _ _ _ _ _ _ _;refine EQ (Jw (Ie (I:=λx d st'=>d=(none,())/\∃V',V'.Perm V/\St κ it (U++V') pend st'/\rT lt V' x) (Q:=λd st'=>d=(none,())/\∃V',V'.Perm V/\St κ it (U++V') pend st'/\rT lt V' n) ?_ ?_ ⟨rfl,V,.refl _,s,by rw[Nat.max_eq_left h1]; exact Sd.Ht O hs (by lia)⟩) ?_)
 ·rintro k d st' hk1 hk2 ⟨rfl,V1,p1,s1,d1⟩
  have l1:=p1.length_eq;have hN1:∀y∈V1,y<N:=λy hy=>hN y (p1.mem_iff.mp hy)
  dsimp only;refine EQ (Jw (Ie (I:=λx d st2=>st2=st'/\∃l r,d=(none,l,r)/\l<=r/\r<=k/\r-l<=k-x/\(∀i,i<l->lt (g V1 k) (g V1 i)=false)/\(∀i,r<=i->i<k->lt (g V1 k) (g V1 i)=true))
   (Q:=λd st2=>st2=st'/\∃l,d=(none,l,l)/\l<=k/\(∀i,i<l->lt (g V1 k) (g V1 i)=false)/\(∀i,l<=i->i<k->lt (g V1 k) (g V1 i)=true)) ?_ ?_ ⟨rfl,0,k,rfl,HS _,Db _,by lia,λi hi=>by lia,λi a b=>by lia⟩) ?_)
  ·rintro x d st2 _ hx ⟨rfl,l,r,rfl,b1,b2,b3,b4,b5⟩
   dsimp only
   by_cases hge:l>=r
   ·rw[if_pos hge]
    obtain rfl:l=r:=by lia
    exact FR ⟨rfl,l,rfl,b2,b4,b5⟩
   ·rw[if_neg hge]
    refine EQ (jR c hN1 s1 hU (i:=k) (j:=(l+r) / 2) rfl rfl (by lia) (by lia) ?_)
    cases e:lt (g V1 k) (g V1 ((l+r) / 2)) with
    |true=>
     refine FR ⟨rfl,_,_,rfl,by lia,by lia,by lia,b4,λi hi hik=>?_⟩
     cases q:lt (g V1 k) (g V1 i) with
     |true=>rfl
     |false=>
      have z:=O.trans _ _ _ (d1 ((l+r) / 2) i hi hik) q;rw[e] at z; cases z
    |false=>exact FR ⟨rfl,_,_,rfl,by lia,b2,by lia,λi hi=>O.trans _ _ _ (d1 i ((l+r) / 2) (by lia) (by lia)) e,b5⟩
  ·rintro d st2 ⟨rfl,l,r,rfl,b1,b2,b3,b4,b5⟩
   obtain rfl:l=r:=by lia
   exact⟨rfl,l,rfl,b2,b4,b5⟩
  ·rintro d st2 ⟨rfl,l,rfl,b1,b2,b3⟩
   dsimp only;refine EQ (Dh s1 hU (by lia) b1 λst3 s3=>?_)
   exact FR ⟨rfl,_,(AD V1 k l).trans p1,s3,AE O (by lia) b1 d1 b2 b3⟩
 ·rintro d st' ⟨rfl,V1,p1,s1,d1⟩
  rw[QK (by lia)] at d1
  exact⟨rfl,V1,p1,s1,d1⟩
 ·rintro d st' ⟨rfl,V1,p1,s1,d1⟩
  exact FR (h V1 st' p1 (d1.sd (by rw[p1.length_eq]; exact hn)) s1)
theorem vV:∀(l:List Keyed)(X:List Keyed)(sa k:Nat),sa+k+l.length<=X.length->(l.zipIdx k).foldl (λ(a:Array Keyed)(q:Keyed×Nat)=>a.setIfInBounds (sa+q.2) q.1) X.toArray=(X.take (sa+k)++l++X.drop (sa+k+l.length)).toArray:=by
 intro l
 induction l with
 |nil=>
  intro X sa k _;simp
 |cons x l ih=>
  intro X sa k h;rw[Bn] at h;rw[NK,Kg];have e:X.toArray.setIfInBounds (sa+k) x=(X.set (sa+k) x).toArray:=by simp
  dsimp only;rw[e,ih (X.set (sa+k) x) sa (k+1) (by rw[QN]; lia)]
  congr 1
  have e1:(X.set (sa+k) x).take (sa+(k+1))=X.take (sa+k)++[x]:=by
   rw[<-Lp,QW,List.take_set_of_le (Db _),Iz (by lia)]
   rfl
  have e2:(X.set (sa+k) x).drop (sa+(k+1)+l.length)=X.drop (sa+k+(x::l).length):=by
   rw[List.drop_set_of_lt (by lia),Bn,show sa+(k+1)+l.length=sa+k+(l.length+1) by lia]
  rw[e1,e2,BM,BM,BM];rfl
end
inductive Mt(lt:Nat->Nat->Bool):Nat->List (List Nat)->List (Nat×Nat×Nat)->Prop
 |nil (s:Nat):Mt lt s [] []
 |cons {s:Nat} {r:List Nat} {rs:List (List Nat)} {pw:Nat} {ps:List (Nat×Nat×Nat)}:0<r.length->Sd lt r->Mt lt (s+r.length) rs ps->Mt lt s (r::rs) ((s,r.length,pw)::ps)
inductive GX(lt:Nat->Nat->Bool)(ps:List (Nat×Nat×Nat))(rs:List (List Nat))(s i:Nat):Prop
 |mk (R0:List (List Nat)) (A B:List Nat) (R1:List (List Nat)) (q0 q1:List (Nat×Nat×Nat)) (pa pb:Nat):rs=R0++A::B::R1->q0.length=i->0<A.length->0<B.length->Sd lt A->Sd lt B ->
  ps=q0++(s+R0.flatten.length,A.length,pa)::(s+R0.flatten.length+A.length,B.length,pb)::q1->(∀C:List Nat,C.length=A.length+B.length->Sd lt C->Mt lt s (R0++C::R1) (q0++(s+R0.flatten.length,A.length+B.length,pa)::q1))->GX lt ps rs s i
theorem Mt.split{lt:Nat->Nat->Bool}:∀{ps:List (Nat×Nat×Nat)}{rs:List (List Nat)}{s i:Nat},Mt lt s rs ps->i+1<ps.length->GX lt ps rs s i:=by
 intro ps rs s i m h
 induction m generalizing i with
 |nil _=>simp at h
 |@cons s r rs pw ps h1 h2 m ih=>
  cases i with
  |zero=>
   cases m with
   |nil=>simp at h
   |@cons _ r2 rs pw2 ps g1 g2 m=>
    refine⟨[],r,r2,rs,[],ps,pw,pw2,rfl,rfl,h1,g1,h2,g2,by simp,λC hC sC=>?_⟩
    rw[IT,IT,<-hC];refine .cons (by lia) sC ?_
    rw[hC,<-Lp];exact m
  |succ i=>
   obtain⟨R0,A,B,R1,q0,q1,pa,pb,e1,e2,e3,e4,e5,e6,e7,e8⟩:=ih (i:=i) (by simpa using h)
   refine⟨r::R0,A,B,R1,(s,r.length,pw)::q0,q1,pa,pb,by rw[e1]; rfl,by rw[Bn,e2],e3,e4,e5,e6,?_,λC hC sC=>?_⟩
   ·rw[e7,IM,Bz,<-Lp]; rfl
   ·have:=e8 C hC sC
    rw[IM,Bz,<-Lp];exact .cons h1 h2 this
theorem Mt.snoc{lt:Nat->Nat->Bool}{s:Nat}{rs:List (List Nat)}{ps:List (Nat×Nat×Nat)}(m:Mt lt s rs ps){r:List Nat}(h1:0<r.length)(h2:Sd lt r)(pw:Nat):Mt lt s (rs++[r]) (ps++[(s+rs.flatten.length,r.length,pw)]):=by
 induction m with
 |nil s=>exact .cons h1 h2 (.nil _)
 |@cons s r' rs pw' ps g1 g2 m ih=>
  rw[IM,Bz,<-Lp];exact .cons g1 g2 ih
theorem Mt.len{lt:Nat->Nat->Bool}{s:Nat}{rs:List (List Nat)}{ps:List (Nat×Nat×Nat)}(m:Mt lt s rs ps):rs.length=ps.length/\ps.length<=rs.flatten.length:=by
 induction m with
 |nil s=>exact⟨rfl,Db _⟩
 |cons g1 g2 m ih=>rw[Bn,Bn,IM,Bz]; lia
theorem Mt.last{lt:Nat->Nat->Bool}{s:Nat}{rs:List (List Nat)}{ps:List (Nat×Nat×Nat)}(m:Mt lt s rs ps)(pw:Nat):Mt lt s rs (ps.modify (ps.length-1) λq=>(q.1,q.2.1,pw)):=by
 induction m with
 |nil s=>exact .nil s
 |@cons s r rs pw' ps g1 g2 m ih=>
  cases ps with
  |nil=>exact .cons g1 g2 m
  |cons q ps=>exact .cons g1 g2 ih
section
variable{prog:Fk}{w:World}{A:HN}{S:B2}{κ:JM}{it:Array Keyed}{lt:Nat->Nat->Bool}{N:Nat}
theorem jm(O:Ord lt)(c:wY prog w A S κ it lt N){p:List Nat}(hN:∀x∈p,x<N){rs:List (List Nat)}{V:List Nat}(ep:p=rs.flatten++V){ps:List (Nat×Nat×Nat)}(m:Mt lt 0 rs ps){st:HR}(s:St κ it p ps.toArray st){i:Nat}(hi:i+1<ps.length){Q:Bool->HR->Prop}
  (h:∀rs' ps' st',rs'.flatten.Perm rs.flatten->Mt lt 0 rs' ps'->ps'.length+1=ps.length->St κ it (rs'.flatten++V) ps'.toArray st'->Q true st'):W prog w A S (mergeAt' i) Q st:=by
 obtain⟨R0,X,Y,R1,q0,q1,pa,pb,e1,e2,e3,e4,e5,e6,e7,e8⟩:=m.split hi;rw[LM] at e7 e8;show wpS _ _ _ _ _ _ _;refine EQ (Lx ?_);have g1:(KU st)[i]? = some (R0.flatten.length,X.length,pa):=by rw[s.pend,e7,<-e2]; simp
 have g2:(KU st)[i+1]? = some (R0.flatten.length+X.length,Y.length,pb):=by rw[s.pend,e7,<-e2]; simp
 rw[g1,g2];dsimp only;have e7':((KU st).setIfInBounds i (R0.flatten.length,X.length+Y.length,pa)).eraseIdxIfInBounds (i+1)=(q0++(R0.flatten.length,X.length+Y.length,pa)::q1).toArray:=by
  rw[s.pend,e7,<-e2];simp[List.eraseIdx_append_of_length_le]
 rw[e7'];refine EQ (show wpS _ _ _ _ (set (LG (kindOf st) (arrOf st) (q0++(R0.flatten.length,X.length+Y.length,pa)::q1).toArray (QI st) (Ke st))) _ _ from ?_)
 refine(show ∀{st':HR}{Q':PUnit->HR->Prop},Q' ⟨⟩ st'->wpS (model prog w) A (λ_ _=>False) S (set st':StateT HR Sem PUnit) Q' st from λ{st' Q'}q=>by unfold wpS; rw[StateT.run_set]; exact At ⟨rfl,q⟩) ?_
 have s1:St κ it p (q0++(R0.flatten.length,X.length+Y.length,pa)::q1).toArray (SortSt.mk' (kindOf st) (arrOf st) (q0++(R0.flatten.length,X.length+Y.length,pa)::q1).toArray (gallopOf st) (failedOf st)):=⟨s.kind,s.arr,rfl,s.fail⟩;have harr:(sortPriv% PySem.Builtin.SortState.a) st=ar it p:=s.arr;generalize SortSt.mk' (kindOf st) (arrOf st) (q0++(R0.flatten.length,X.length+Y.length,pa)::q1).toArray (gallopOf st) (failedOf st)=st1 at s1 ⊢;rw[harr];have ps':(q0++(R0.flatten.length,X.length+Y.length,pa)::q1).length+1=ps.length:=by rw[e7]; simp; lia
 generalize hU:R0.flatten=U at e7 e8 s1 ps' g1 g2;generalize hW1:R1.flatten++V=W1;have pp:p=U++(X++(Y++W1)):=by rw[ep,e1,<-hU,<-hW1]; simp
 have back:∀C:List Nat,(R0++C::R1).flatten++V=U++(C++W1):=λC=>by rw[<-hU,<-hW1]; simp
 have fin:∀(C:List Nat)(st':HR),C.Perm (X++Y)->Sd lt C->St κ it (U++(C++W1)) (q0++(U.length,X.length+Y.length,pa)::q1).toArray st'->Q true st':=λC st' pC sC sS=>by
  refine h (R0++C::R1) _ st' ?_ (e8 C (by rw[pC.length_eq,Bz]) sC) ps' (by rw[back]; exact sS)
  rw[e1,P8,P8,IM,IM,IM,<-BM X];exact Hc _ (pC.append_right _)
 have lp:p.length=U.length+(X.length+(Y.length+W1.length)):=by rw[pp]; simp
 have dX:p.drop U.length=X++(Y++W1):=by rw[pp]; simp
 have dY:p.drop (U.length+X.length)=Y++W1:=by rw[<-Jr,dX]; simp
 have i1:U.length+X.length<p.length:=by lia
 have pY:p[U.length+X.length]=Y[0]:=by
  have:p[U.length+X.length]? = Y[0]? := by
   rw[pp,HU (by lia),Km,HU (Db _),Nat.sub_self,HF e4]
  rw[Bi i1,Bi e4] at this;exact Fu this
 have hXN:∀x∈X,x<N:=λx hx=>hN x (by rw[pp]; simp[hx])
 have hYN:∀x∈Y,x<N:=λx hx=>hN x (by rw[pp]; simp[hx])
 have tX:∀{k:Nat},k<=X.length->(p.drop U.length).take k=X.take k:=λ{k}hk=>by rw[dX,KC hk]
 have tY:∀{k:Nat},k<=Y.length->(p.drop (U.length+X.length)).take k=Y.take k:=λ{k}hk=>by rw[dY,KC hk]
 refine EQ (bx i1 ?_);rw[pY];refine EQ (lA O c (hYN _ (He e4)) hN (by lia) (by rw[tX (Db _),Jc]; exact e5) e3 s1.kind λk hk hlo hhi=>?_)
 rw[tX hk] at hlo;rw[tX (Db _),Jc] at hhi;have Y0:=jj O e6 e4;rw[K5] at Y0;dsimp only
 by_cases k0:X.length-k=0
 ·rw[if_pos (by simpa using k0)]
  refine FR (fin (X++Y) st1 (.refl _) (Fm.mpr ⟨e5,e6,λx hx y hy=>?_⟩) (by rw[BM,<-pp]; exact s1))
  rw[Ix (by lia)] at hlo
  exact O.trans _ _ _ (hlo x hx) (Y0 y hy)
 rw[if_neg (by simpa using k0)]
 have i2:U.length+k+(X.length-k)-1<p.length:=by lia
 have i3:X.length-1<X.length:=by lia
 have pX:p[U.length+k+(X.length-k)-1]=X[X.length-1]:=by
  have:p[U.length+k+(X.length-k)-1]? = X[X.length-1]? := by
   rw[pp,HU (by lia),HF (by lia)]
   congr 1; lia
  rw[Bi i2,Bi i3] at this;exact Fu this
 refine EQ (bx i2 ?_);rw[pX];refine EQ (lB O c (hXN _ (He i3)) hN (by lia) (by rw[tY (Db _),Jc]; exact e6) (by lia) s1.kind λj hj jlo jhi=>?_)
 rw[tY hj] at jlo;rw[tY (Db _),Jc] at jhi;have Xl:∀x∈X,lt X[X.length-1] x=false:=by
  have:=jk O e5 e3 (Db _);rw[Jc] at this;exact this
 dsimp only
 by_cases j0:j=0
 ·rw[if_pos (by simpa using j0)]
  refine FR (fin (X++Y) st1 (.refl _) (Fm.mpr ⟨e5,e6,λx hx y hy=>?_⟩) (by rw[BM,<-pp]; exact s1))
  rw[j0,K5] at jhi;exact O.trans _ _ _ (Xl x hx) (jhi y hy)
 rw[if_neg (by simpa using j0)]
 have ex:(ar it p).extract (U.length+k) (U.length+X.length)=ar it (X.drop k):=by
  rw[um,<-Jr,dX,L9 hk,KC (by rw[HI]; lia),Ix (by rw[HI]; lia)]
 have ey:(ar it p).extract (U.length+X.length) (U.length+X.length+j)=ar it (Y.take j):=by
  rw[sy,tY hj]
 rw[ex,ey];have sC:∀res:List Nat,Res lt (X.drop k) (Y.take j) res->Sd lt (X.take k++res++Y.drop j)/\(X.take k++res++Y.drop j).Perm (X++Y):=λres ⟨r1,r2⟩=>by
  refine⟨Fm.mpr ⟨Fm.mpr ⟨e5.take k,r1,λx hx y hy=>?_⟩,e6.drop j,λx hx y hy=>?_⟩,?_⟩
  ·rcases lM (r2.mem_iff.mp hy) with hy | hy
   ·have h2:=e5
    unfold Sd at h2;rw[<-FV k X] at h2;exact(Fm.mp h2).2.2 x hx y hy
   ·exact O.trans _ _ _ (hlo x hx) (Y0 y (IW hy))
  ·rcases lM hx with hx | hx
   ·exact O.trans _ _ _ (Xl x (IW hx)) (jhi y hy)
   ·rcases lM (r2.mem_iff.mp hx) with hx | hx
    ·exact O.trans _ _ _ (Xl x (Jh hx)) (jhi y hy)
    ·have h2:=e6
     unfold Sd at h2;rw[<-FV j Y] at h2;exact(Fm.mp h2).2.2 x hx y hy
  ·have:(X.take k++res++Y.drop j).Perm (X.take k++(X.drop k++Y.take j)++Y.drop j):=(Hc _ r2).append_right _
   refine this.trans (.of_eq ?_);rw[<-BM,FV,BM,FV]
 have tail:∀(res:List Nat)(st2:HR),bA st1 st2->Res lt (X.drop k) (Y.take j) res->wpS (model prog w) A (λ_ _=>False) S (do
   modify λs=>LG (kindOf s) (Md (λa x=>match x with | (p,j)=>a.setIfInBounds (U.length+k+j) p) (arrOf s) (ar it res).toList.zipIdx) (KU s) (QI s) (Ke s)
   let r <-get
   pure (Ke r).isNone) Q st2:=λres st2 sm hr=>by
  refine EQ (Lo (EQ (Lx (FR ?_))));obtain⟨c1,c2⟩:=sC res hr;have lr:res.length=X.length-k+j:=by rw[hr.2.length_eq,Bz,HI,Gc]; lia
  have hf:Ke st2=none:=sm.fail.trans s1.fail;show Q ((Ke st2).isNone) _;rw[hf];refine fin _ _ c2 c1 ⟨sm.kind.trans s1.kind,?_,sm.pend.trans s1.pend,rfl⟩;show Md _ (arrOf st2) _=_;rw[sm.arr,s1.arr];have wa:=vV (res.map (Ig it)) (p.map (Ig it)) (U.length+k) 0 (by rw[D1,D1]; lia)
  refine wa.trans ?_;rw[Nat.add_zero,D1,<-Je,<-Kf,<-Iu,<-Iu];show ar it _=ar it _
  congr 1
  have t1:p.take (U.length+k)=U++X.take k:=by rw[pp,List.take_length_add_append,KC hk]
  have t2:p.drop (U.length+k+res.length)=Y.drop j++W1:=by
   rw[lr,show U.length+k+(X.length-k+j)=U.length+X.length+j by lia,<-Jr,dY,L9 hj]
  rw[t1,t2];simp
 have y0:(Y.take j)[0]'(by rw[Gc]; lia)=Y[0]:=by rw[KM]
 have nx:0<(X.drop k).length:=by rw[HI]; lia
 have ny:0<(Y.take j).length:=by rw[Gc]; lia
 have c1:∀r∈X.drop k,lt r ((Y.take j)[0]'ny)=false:=λr hr=>by rw[y0]; exact O.asym _ _ (hhi r hr)
 have c2:∀y∈Y.take j,∀x∈(X.drop k).drop ((X.drop k).length-1),lt x y=false:=λy hy x hx=>by
  rw[Jr,HI,show k+(X.length-k-1)=X.length-1 by lia] at hx
  have:X.drop (X.length-1)=[X[X.length-1]]:=by
   have:=bK e3 (Db _);rw[Jc] at this;exact this
  rw[this,Ch] at hx;subst hx;exact O.asym _ _ (jlo y hy)
 by_cases hle:X.length-k<=j
 ·rw[if_pos hle]
  refine EQ (pL O c (e5.drop k) (e6.take j) (λx hx=>hXN x (Jh hx)) (λx hx=>hYN x (IW hx)) nx ny c1 c2 s1.kind λres st2 sm hr=>?_)
  exact tail res st2 sm hr
 ·rw[if_neg hle]
  refine EQ (pO O c (e5.drop k) (e6.take j) (λx hx=>hXN x (Jh hx)) (λx hx=>hYN x (IW hx)) nx ny c1 c2 s1.kind λres st2 sm hr=>?_)
  exact tail res st2 sm hr
end
section
variable{prog:Fk}{w:World}{A:HN}{S:B2}{κ:JM}{it:Array Keyed}{lt:Nat->Nat->Bool}{N:Nat}
theorem ite_le{c:Prop}[Decidable c](a:Nat):(if c then a-1 else a)<=a:=by split <;> lia
inductive Wt(κ:JM)(it:Array Keyed)(lt:Nat->Nat->Bool)(p0:List Nat)(lo:Nat)(st:HR):Prop
 |mk (rs:List (List Nat)) (ps:List (Nat×Nat×Nat)) (V:List Nat):Mt lt 0 rs ps->rs.flatten.length=lo->St κ it (rs.flatten++V) ps.toArray st->(rs.flatten++V).Perm p0->Wt κ it lt p0 lo st
theorem cutR{H:Nat->List Nat->HR->Prop}{G:Nat->HR->Prop}{P:Prop}(k:(∀n V s,H n V s->G n s)->P)(g:∀n V s,H n V s->G n s):P:=k g
inductive GY{β:Type}(κ:JM)(it:Array Keyed)(lt:Nat->Nat->Bool)(p0:List Nat)(x:Nat)(d:Option β×Nat)(st:HR):Prop
 |mk (lo:Nat):d=(none,lo)->(x<=lo\/lo=p0.length)->lo<=p0.length->Wt κ it lt p0 lo st->GY κ it lt p0 x d st
inductive Gr(κ:JM)(it:Array Keyed)(lt:Nat->Nat->Bool)(p0:List Nat)(st:HR)(R:Nat->Prop):Prop
 |mk (rs:List (List Nat)) (ps:List (Nat×Nat×Nat)):Mt lt 0 rs ps->St κ it rs.flatten ps.toArray st->rs.flatten.Perm p0->R ps.length->Gr κ it lt p0 st R
inductive Gs(κ:JM)(it:Array Keyed)(lt:Nat->Nat->Bool)(p0:List Nat)(lo:Nat)(V2:List Nat)(st:HR):Prop
 |mk (rs:List (List Nat)) (ps:List (Nat×Nat×Nat)):Mt lt 0 rs ps->rs.flatten.length=lo->St κ it (rs.flatten++V2) ps.toArray st->(rs.flatten++V2).Perm p0->Gs κ it lt p0 lo V2 st
theorem nE(O:Ord lt)(c:wY prog w A S κ it lt N){p0:List Nat}(hN:∀x∈p0,x<N){st:HR}(s:St κ it p0 #[] st)(h0:2<=p0.length){Q:Unit->HR->Prop}
  (h:∀p st',p.Perm p0->Sd lt p->arrOf st'=ar it p->Ke st'=none->Q () st'):W prog w A S sortRuns' Q st:=by
 show wpS _ _ _ _ _ _ _;rw[sortRuns'_eq];refine EQ (Lx ?_);have hsz:(arrOf st).size=p0.length:=by rw[s.arr,jg]
 dsimp only;rw[hsz];generalize minRun' p0.length p0.length 0=mr;refine EQ (Jw (Ie (I:=λx d st'=>GY κ it lt p0 x d st') (Q:=λd st'=>d=(none,p0.length)/\Wt κ it lt p0 p0.length st') ?_ ?_ ⟨0,rfl,.inl (Db _),HS _,[],[],p0,.nil 0,rfl,s,.refl _⟩) ?_)
 rotate_left
 ·rintro d st' ⟨lo,rfl,a1,a2,a3⟩
  have:lo=p0.length:=by lia
  subst this;exact⟨rfl,a3⟩
 ·rintro d st' ⟨rfl,rs,ps,V,m,hl,sS,pm⟩
  have hV:V=[]:=by
   have:=pm.length_eq;rw[Bz,hl] at this;exact NQ (by lia)
  subst hV;rw[FB] at sS pm;dsimp only;have lm:=m.len;refine EQ (Jw (Ie (I:=λx d st2=>d=(none,())/\Gr κ it lt p0 st2 λn=>n+x<=p0.length\/n<=1) (Q:=λd st2=>d=(none,())/\Gr κ it lt p0 st2 λn=>n<=1) ?_ ?_ ⟨rfl,rs,ps,m,sS,pm,.inl (by lia)⟩) ?_)
  ·rintro x d st2 _ hx ⟨rfl,rs,ps,m,sS,pm,hle⟩
   refine EQ (Lx ?_);rw[sS.pend]
   by_cases h1:ps.toArray.size<=1
   ·rw[if_pos h1]
    exact FR ⟨rfl,rs,ps,m,sS,pm,by simpa using h1⟩
   rw[if_neg h1];have h1':1<ps.length:=by simpa using h1
   refine EQ (jm O c (p:=rs.flatten) (λx hx=>hN x (pm.mem_iff.mp hx)) (FB _).symm m sS ?_ λrs' ps' st3 q1 q2 q3 q4=>?_)
   ·have:ps.toArray.size=ps.length:=by simp
    exact Pp (Nat.succ_le_succ (ite_le _)) (show ps.toArray.size-2+1<ps.length by lia)
   ·rw[FB] at q4
    exact FR ⟨rfl,rs',ps',q2,q4,q1.trans pm,by lia⟩
  ·rintro d st2 ⟨rfl,rs,ps,m,sS,pm,hle⟩
   refine⟨rfl,rs,ps,m,sS,pm,?_⟩;have:=m.len;have:p0.length>=2:=h0;lia
  ·rintro d st2 ⟨rfl,rs,ps,m,sS,pm,hle⟩
   refine FR (h rs.flatten st2 pm ?_ sS.arr sS.fail);cases m with
   |nil _=>exact .nil
   |cons g1 g2 m=>
    cases m with
    |nil _=>simpa using g2
    |cons _ _ _=>simp at hle
 rintro x d st' _ hx ⟨lo,rfl,a1,a2,rs,ps,V,m,hl,sS,pm⟩;dsimp only
 by_cases hge:lo>=p0.length
 ·rw[if_pos hge]
  have:lo=p0.length:=by lia
  subst this;exact FR ⟨rfl,rs,ps,V,m,hl,sS,pm⟩
 rw[if_neg hge];have hV:V.length=p0.length-lo:=by
  have:=pm.length_eq;rw[Bz,hl] at this;lia
 have hVN:∀{V':List Nat},V'.Perm V->∀y∈V',y<N:=λpV y hy=>hN y (pm.mem_iff.mp (lR _ (pV.mem_iff.mp hy)))
 refine EQ (nD O c (hVN (.refl _)) sS hl hV (by lia) λk V1 st1 k1 k2 pV1 sd1 s1=>?_)
 have l1:=pV1.length_eq;dsimp only;have push:∀(rs:List (List Nat))(ps:List (Nat×Nat×Nat))(n:Nat)(V2:List Nat)(st2:HR),Mt lt 0 rs ps->rs.flatten.length=lo->St κ it (rs.flatten++V2) ps.toArray st2->(rs.flatten++V2).Perm p0->Sd lt (V2.take n)->1<=n->n<=p0.length-lo->V2.length=p0.length-lo ->
   Wt κ it lt p0 (lo+n) (setPending st2 ((KU st2).push (lo,n,0))):=λrs ps n V2 st2 m hl sS pm sd n1 n2 lv=>by
  have ln:(V2.take n).length=n:=by rw[Gc]; lia
  have e:(rs++[V2.take n]).flatten=rs.flatten++V2.take n:=by simp
  have e2:(rs++[V2.take n]).flatten++V2.drop n=rs.flatten++V2:=by rw[e,BM,FV]
  refine⟨rs++[V2.take n],ps++[(lo,n,0)],V2.drop n,?_,by rw[e,Bz,hl,ln],⟨sS.kind,by rw[e2]; exact sS.arr,?_,sS.fail⟩,by rw[e2]; exact pm⟩
  ·have:=m.snoc (r:=V2.take n) (by lia) sd 0
   rw[LM,hl,ln] at this;exact this
  ·show (KU st2).push _=_
   rw[sS.pend];simp
 refine cutR (H:=λn V2 st2=>V2.Perm V/\Sd lt (V2.take n)/\St κ it (rs.flatten++V2) ps.toArray st2/\1<=n/\n<=p0.length-lo) (λkey=>by
  by_cases hmr:k<mr
  ·rw[if_pos hmr]
   refine EQ (Mp (Ii ⟨rfl,?_⟩));have f1:min (p0.length-lo) mr<=p0.length-lo:=Nat.min_le_left _ _;have f2:k<=min (p0.length-lo) mr:=by lia
   generalize min (p0.length-lo) mr=n at f1 f2 ⊢;refine EQ (qE O c (hVN pV1) s1 hl (by lia) k1 f2 sd1 λV2 st2 pV2 sd2 s2=>?_)
   rw[if_neg (by simp)]
   exact key n V2 st2 ⟨pV2.trans pV1,sd2,s2,by lia,f1⟩
  ·rw[if_neg hmr]
   exact key k V1 st1 ⟨pV1,sd1,s1,k1,k2⟩) ?_
 rintro n V2 st2 ⟨pV2,sd2,s2,n1,f1⟩;have l2:V2.length=p0.length-lo:=by rw[pV2.length_eq,hV]
 have pm2:(rs.flatten++V2).Perm p0:=(Hc _ pV2).trans pm;refine EQ (Lx ?_);rw[s2.pend];cases hb:ps.toArray.back? with
 |none=>
  dsimp only;refine EQ (Lo (FR ⟨lo+n,rfl,by lia,by lia,?_⟩))
  exact push rs ps n V2 st2 m hl s2 pm2 sd2 n1 f1 l2
 |some q=>
  obtain⟨b1,b2,b3⟩:=q;dsimp only;generalize power' p0.length (2*b1+b2) (2*b1+b2+b2+n) p0.length=pw;refine EQ (Jw (Ie (I:=λx d st3=>d=(none,())/\Gs κ it lt p0 lo V2 st3) (Q:=λd st3=>d=(none,())/\Gs κ it lt p0 lo V2 st3) ?_ (λ_ _ z=>z) ⟨rfl,rs,ps,m,hl,s2,pm2⟩) ?_)
  ·rintro y d st3 _ _ ⟨rfl,rs,ps,m,hl,s3,pm3⟩
   refine EQ (Lx ?_);rw[s3.pend]
   by_cases h1:ps.toArray.size>1
   ·rw[if_pos h1]
    have h1':ps.length>1:=by simpa using h1
    have e1:ps.toArray[ps.toArray.size-2]? = some (ps[ps.length-2]'(by lia)):=by simp
    rw[e1];generalize ps[ps.length-2]'(by lia)=q
    obtain⟨c1,c2,c3⟩:=q;dsimp only
    by_cases h2:c3<=pw
    ·rw[if_pos h2]
     exact FR ⟨rfl,rs,ps,m,hl,s3,pm3⟩
    ·rw[if_neg h2]
     refine EQ (jm O c (p:=rs.flatten++V2) (λx hx=>hN x (pm3.mem_iff.mp hx)) rfl m s3 (by simp; lia) λrs' ps' st4 q1 q2 q3 q4=>?_)
     exact FR ⟨rfl,rs',ps',q2,q1.length_eq.trans hl,q4,(q1.append_right _).trans pm3⟩
   ·rw[if_neg h1]
    exact FR ⟨rfl,rs,ps,m,hl,s3,pm3⟩
  ·rintro d st3 ⟨rfl,rs,ps,m,hl,s3,pm3⟩
   dsimp only;refine EQ (Lo (EQ (Lo (FR ⟨lo+n,rfl,by lia,by lia,?_⟩))))
   refine push rs (ps.modify (ps.length-1) λq=>(q.1,q.2.1,pw)) n V2 _ (m.last pw) hl ⟨s3.kind,s3.arr,?_,s3.fail⟩ pm3 sd2 n1 f1 l2
   refine Eq.trans (b:=(KU st3).modify ((KU st3).size-1) λq=>(q.1,q.2.1,pw)) rfl ?_
   rw[s3.pend];simp
end
end TS
end
section
namespace L2
open PySem PySem.W PyProof.Rows PySem.Calls TS
section
variable{prog:Fk}{w:World}{A:HN}{E:Value->B2->Prop}{s:B2}
noncomputable def eL(vs:List Value)(p:Array Nat):List Value:=p.toList.map λi=>vs.getD i HM
theorem vW(vs:List Value):eL vs (N1 (Fa vs.length))=vs:=by
 unfold eL;apply KN;intro i;rw[HL]
 by_cases hi:i<vs.length
 ·simp[K2 hi,hi]
 ·simp[JC,hi,NP hi]
theorem jn{n:Nat}(h:n<=1000000):n<=FX:=by rw[IC]; lia
theorem Di{lt:Nat->Nat->Bool}(O:Ord lt){p:List Nat}(h:Sd lt p):De lt p.toArray p.length:=λi j hij hj=>by
 by_cases e:i=j
 ·subst e; exact qD O _
 ·have:=IJ.mp h i j (by lia) hj (by lia)
  have gi:gD p.toArray i=p[i]'(by lia):=by unfold gD; simp[Jk,show i<p.length by lia]
  have gj:gD p.toArray j=p[j]:=by unfold gD; simp[Jk,hj]
  rw[gi,gj];exact this
theorem iF{a:Addr}{vs:List Value}{n:Nat}{lt:Nat->Nat->Bool}{P:PySem.Fin->B2->Prop}(O:Ord lt)(ho:s.heap.get? a=some (Ik "list" vs.toArray n))(hbig:vs.length<=1000000)
  (hk:2<=vs.length->∀h':Heap,(∀b o,b≠a->s.heap.get? b=some o->h'.get? b=some o)->∃κ,(∀Q:JM->B2->Prop,Q κ { s with heap:=h' }->wpAny (model prog w) A (Nl vs.toArray) Q (λ_ _=>False) { s with heap:=h' }) /\
   ∀i j,i<vs.length->j<vs.length->∀C:Bool->B2->Prop,C (lt i j) { s with heap:=h' }->wpAny (model prog w) A (Ob κ (vs.getD i HM) (vs.getD j HM)) C (λ_ _=>False) { s with heap:=h' })
  (h:∀p:Array Nat,Pm vs.length p->De lt p vs.length->P (.done (.ret .none)) { s with heap:=sortedHeap s.heap a vs (eL vs p).toArray }) :
  wpAny (model prog w) A (Il.«list.sort» ⟨[.ref a],[]⟩) P E s:=by
 have ha:a<s.heap.objs.size:=DD ho;obtain⟨e1,ho1⟩:∃e1,(s.heap.update a (Ir λ_=>(#[]:Array Value))).get? a=some (Ik "list" #[] e1):=⟨_,get?_update_seq ho λ_=> #[]⟩
 rw[list_sort_plain];refine AC (Pk ho rfl ?_);refine AC (NJ ho rfl ?_ (by rw[Do]; exact jn hbig) (HS _))
 refine AC (QH ho1 rfl ?_);refine AC (wpAny_newTuple ?_ (by show vs.length<=_; exact jn hbig))
 refine AC (LD ?_ (HS _));refine HW ?_;have ho6:(((s.heap.update a (Ir λ_=> #[])).push (Ik "tuple" vs.toArray 0)).push (Ik "list" #[] 0)).get? a=some (Ik "list" #[] e1):=by
  rw[Ld _ _ _ (by rw[Qn,Lq]; exact FC (J8 ha)),Ld _ _ _ (by rw[Lq]; exact FC ha)]
  exact ho1
 show wpAny (model prog w) A _ P E { s with heap:=((s.heap.update a (Ir λ_=>(#[]:Array Value))).push (Ik "tuple" vs.toArray 0)).push (Ik "list" #[] 0) }
 dsimp only
 by_cases h2:vs.toArray.size<2
 ·rw[if_pos h2,if_pos h2]
  refine AC (At ?_);rw[StateT.run_pure];refine AC (At ?_);dsimp only;refine AC (QH ho6 rfl ?_);have hsmall:vs.length<2:=by simpa using h2
  refine AC (NJ ho6 rfl ?_ (hsz2:=by rw[Nq]; show (pairsOf vs).size<=_; rw[pairsOf_size]; exact Q2 (jn hbig)))
  simp only[bne_self_eq_false,HE,if_false];have hs:De lt (N1 (Fa vs.length)) vs.length:=λi j hij hj=>by
   have e:i=j:=by lia
   subst e; exact qD O _
  have z:=h _ (Array.Perm.refl _) hs;have eo:((arrOf (LG general' (vs.toArray.zip vs.toArray) #[] 7 none)).map (·.2))=(eL vs (N1 (Fa vs.length))).toArray:=by
   rw[vW];show (vs.toArray.zip vs.toArray).map (·.2)=vs.toArray;apply Pw.mp;simp[Q4]
  refine At ?_;rw[<-eo] at z;exact z
 ·rw[if_neg h2,if_neg h2]
  have h2':2<=vs.length:=by
   have:¬vs.length<2:=by simpa using h2
   lia
  have keep:∀b o,b≠a->s.heap.get? b=some o->(((s.heap.update a (Ir λ_=>(#[]:Array Value))).push (Ik "tuple" vs.toArray 0)).push (Ik "list" #[] 0)).get? b=some o:=λb o hb e=>
   Ap _ (Ap _ ((Iw s.heap _ (K8 hb)).trans e))
  obtain⟨κ,hkk,hlt⟩:=hk h2' _ keep;refine AC (J3 (hkk _ ?_) (λκ s0 hk=>hk) λ_ _ x=>x.elim)
  generalize eS:({ s with heap:=((s.heap.update a (Ir λ_=>(#[]:Array Value))).push (Ik "tuple" vs.toArray 0)).push (Ik "list" #[] 0) }:B2)=S at hlt ⊢
  have item:∀i,i<vs.length->(Ig (vs.toArray.zip vs.toArray) i).1=vs.getD i HM:=λi hi=>by
   unfold Ig;simp[Jk,hi]
  have cm:wY prog w A S κ (vs.toArray.zip vs.toArray) lt vs.length:=λi j hi hj C hC=>by
   rw[item i hi,item j hj];exact hlt i j hi hj C hC
  have er:=kas_range (vs.toArray.zip vs.toArray);rw[show (vs.toArray.zip vs.toArray).size=vs.length by simp] at er
  have sS:TS.St κ (vs.toArray.zip vs.toArray) (Fa vs.length) #[] (LG κ (vs.toArray.zip vs.toArray) #[] 7 none):=⟨rfl,by
   rw[List.map_toArray] at er;exact er.symm,rfl,rfl⟩
  have run:=nE (Q:=λ_ st'=>∃p:List Nat,p.Perm (Fa vs.length)/\Sd lt p/\arrOf st'=p.toArray.map (Ig (vs.toArray.zip vs.toArray))/\Ke st'=none) O cm (λx hx=>Iq.mp hx) sS (by simpa using h2') (λp st' q1 q2 q3 q4=>⟨p,q1,q2,by rw[q3]; simp[ar],q4⟩)
  refine AC (J3 run ?_ λ_ _ e=>e.elim)
  rintro⟨⟨⟩,st'⟩ s' ⟨hs',p,hp,hsd,har,hf⟩;subst hs';subst eS;dsimp only;have hpl:p.length=vs.length:=by rw[hp.length_eq,IV]
  have hout:=kat_snds (p:=p.toArray) rfl har;rw[hout];refine AC (QH ho6 rfl ?_);refine AC (NJ ho6 rfl ?_ (hsz2:=by rw[Do,D1]; simp only[hpl]; exact Q2 (jn hbig)))
  rw[hf];simp only[bne_self_eq_false,HE,if_false];refine At (h p.toArray ?_ ?_)
  ·exact JO.mpr (by simpa using hp)
  ·have:=Di O hsd
   rw[hpl] at this;exact this
theorem nF{a:Addr}{vs:List Value}{n:Nat}{lt:Nat->Nat->Bool}{P:PySem.Fin->B2->Prop}(O:Ord lt)(ho:s.heap.get? a=some (Ik "list" vs.toArray n))(h64:vs.length<64)
  (hk:2<=vs.length->∀h':Heap,(∀b o,b≠a->s.heap.get? b=some o->h'.get? b=some o)->∃κ,(∀Q:JM->B2->Prop,Q κ { s with heap:=h' }->wpAny (model prog w) A (Nl vs.toArray) Q (λ_ _=>False) { s with heap:=h' }) /\
   ∀i j,i<vs.length->j<vs.length->∀C:Bool->B2->Prop,C (lt i j) { s with heap:=h' }->wpAny (model prog w) A (Ob κ (vs.getD i HM) (vs.getD j HM)) C (λ_ _=>False) { s with heap:=h' })
  (h:∀p:Array Nat,Pm vs.length p->De lt p vs.length->P (.done (.ret .none)) { s with heap:=sortedHeap s.heap a vs (eL vs p).toArray }) :
  wpAny (model prog w) A (Il.«list.sort» ⟨[.ref a],[]⟩) P E s:=iF O ho (by lia) hk h
theorem sA{l:Addr}{vs:List Value}{lt:Nat->Nat->Bool}{Q:Value->B2->Prop}(O:Ord lt)(hl:s.heap.IsList l vs.toArray)(h64:vs.length<64)
  (hk:2<=vs.length->∀(A':HN),A'.units<=A.units+2->∀h':Heap,(∀b o,s.heap.get? b=some o->h'.get? b=some o)->∃κ,(∀Q:JM->B2->Prop,Q κ { s with heap:=h' }->wpAny (model prog w) A' (Nl vs.toArray) Q (λ_ _=>False) { s with heap:=h' }) /\
   ∀i j,i<vs.length->j<vs.length->∀C:Bool->B2->Prop,C (lt i j) { s with heap:=h' }->wpAny (model prog w) A' (Ob κ (vs.getD i HM) (vs.getD j HM)) C (λ_ _=>False) { s with heap:=h' })
  (h:∀p:Array Nat,Pm vs.length p->De lt p vs.length->Q (.ref (s.heap.objs.size+1)) { s with heap:=sortedAll s.heap vs (eL vs p).toArray }) :
  wpAny (model prog w) A (call (.builtin "sorted") [.ref l]) Q E s:=by
 refine KW OF Nk Nn (No _) ?_;unfold Il.«sorted»;refine AC (m:=OW "sorted" 1 1 _) (At ?_);refine AC (collect_list hl ?_ (by rw[IC]; lia))
 refine AC (LD ?_ (by rw[IC]; lia))
 have hsz:((s.heap.push (Ik "list" #[] 0)).update s.heap.objs.size (Ir (· ++ vs.toArray))).objs.size=s.heap.objs.size+1:=by
  rw[Lq,Qn]
 have hoL:(((s.heap.push (Ik "list" #[] 0)).update s.heap.objs.size (Ir (· ++ vs.toArray))).push (Ik "list" vs.toArray 0)).get? (s.heap.objs.size+1)=some (Ik "list" vs.toArray 0):=by
  rw[<-hsz]; exact Ee _ rfl
 have keep:∀b o,s.heap.get? b=some o->b≠s.heap.objs.size+1/\(((s.heap.push (Ik "list" #[] 0)).update s.heap.objs.size (Ir (· ++ vs.toArray))).push (Ik "list" vs.toArray 0)).get? b=some o:=λb o q=>by
  have hlt:b<s.heap.objs.size:=DD q;refine⟨FC (J8 hlt),?_⟩;rw[Ld _ _ _ (by rw[hsz]; exact FC (J8 hlt)),Heap.get?_update_ne _ _ _ _ (FC hlt),Ld _ _ _ (FC hlt)]
  exact q
 show wpAny _ _ _ _ _ { s with heap:=((s.heap.push (Ik "list" #[] 0)).update s.heap.objs.size (Ir (· ++ vs.toArray))).push (Ik "list" vs.toArray 0) }
 rw[hsz];refine AC (HW (Hn Mq ⟨_,hoL,rfl⟩ MT ?body (Ms _)))
 case body=>
  refine nF O hoL h64 (λh2 h' kp=>hk h2 _ ?_ h' λb o e=>kp b o (keep b o e).1 (keep b o e).2) λp a1 a2=>⟨_,rfl,At ⟨_,rfl,h p a1 a2⟩⟩
  show A.units+1+1<=A.units+2;lia
end
end L2
end
section
namespace L2
open PySem PySem.W PyProof.Rows PySem.Calls
theorem eN:∀(a b:List Int),HT.lexLt a b=true->HT.lexLt b a=false
 |[],[],h=>by cases h
 |[],_::_,_=>rfl
 |_::_,[],h=>by cases h
 |x::xs,y::ys,h=>by
  rw[HT.cO] at h ⊢
  by_cases e:x=y
  ·subst e
   rw[if_pos rfl] at h ⊢;exact eN xs ys h
  ·rw[if_neg e] at h
   rw[if_neg (K8 e)];have:x<y:=by simpa using h
   exact decide_eq_false (by lia)
theorem fq:∀(a b c:List Int),HT.lexLt b a=false->HT.lexLt c b=false->HT.lexLt c a=false
 |[],[],[],_,_=>rfl
 |[],[],_::_,_,_=>rfl
 |[],_::_,[],_,h=>by cases h
 |[],_::_,_::_,_,_=>rfl
 |_::_,[],_,h,_=>by cases h
 |_::_,_::_,[],_,h=>by cases h
 |x::xs,y::ys,z::zs,h1,h2=>by
  rw[HT.cO] at h1 h2 ⊢
  by_cases e1:y=x
  ·subst e1
   rw[if_pos rfl] at h1
   by_cases e2:z=y
   ·subst e2
    rw[if_pos rfl] at h2 ⊢;exact fq xs ys zs h1 h2
   ·rw[if_neg e2] at h2 ⊢
    exact h2
  ·rw[if_neg e1] at h1
   have l1:¬y<x:=by simpa using h1
   by_cases e2:z=y
   ·subst e2
    rw[if_neg e1];exact decide_eq_false l1
   ·rw[if_neg e2] at h2
    have l2:¬z<y:=by simpa using h2
    rw[if_neg (by lia)]
    exact decide_eq_false (by lia)
theorem lexOrd(ks:List (List Int)):Ord (λi j=>HT.lexLt (ks.getD i []) (ks.getD j [])):=⟨λa b=>eN _ _,λa b c=>fq _ _ _⟩
def zT(K:AT)(H:Hp)(ys:List V)(ks:List (List Int)):Prop:=JV (λ(v:V)(t:List Int)=>∃a,v=.ref a/\cI K H a (t.map V.int)) ys ks
theorem JV.getD{α β:Type}{F:α->β->Prop}{d:α}{d':β}:∀{xs:List α}{ys:List β},JV F xs ys->∀i,i<xs.length->F (xs.getD i d) (ys.getD i d'):=by
 intro xs ys h
 induction h with
 |nil=>exact λi h=>absurd h (LB _)
 |cons r t ih=>
  intro i h;cases i with
  |zero=>exact r
  |succ i=>
   have:=ih i (by simpa using h)
   simpa using this
theorem kr{prog:Fk}{w:World}{A:HN}{b:Bool}{Q:Bool->B2->Prop}{s:B2}:∀(xs ys:List Value)(as bs:List Int)(i:Nat),Vals (as.map V.int) xs->Vals (bs.map V.int) ys ->
  Q (HT.lexLt as bs) s->∀fin,(∀(n:Nat),fin=decide (n+xs.length<n+ys.length)->True)->(fin=decide (xs.length<ys.length))->KatLex prog w A b fin Q (xs.zip ys) i s:=by
 intro xs
 induction xs with
 |nil=>
  intro ys as bs i h1 h2 q fin _ hf;have e:as=[]:=by
   have:=h1.length;simpa using this
  subst e;show Q fin s;cases bs with
  |nil=>
   cases h2;rw[hf]; exact q
  |cons y bs=>
   cases h2 with
   |cons _ t=>
    have q:Q true s:=q;rw[hf]; simpa using q
 |cons x xs ih=>
  intro ys as bs i h1 h2 q fin _ hf;cases ys with
  |nil=>
   have e:bs=[]:=by
    have:=h2.length;simpa using this
   subst e;cases as with
   |nil=>cases h1
   |cons a as=>
    show Q fin s;have q:Q false s:=q;rw[hf];simpa using q
  |cons y ys=>
   cases as with
   |nil=>cases h1
   |cons a as=>
    cases bs with
    |nil=>cases h2
    |cons c bs=>
     cases h1 with
     |cons r1 t1=>
      cases h2 with
      |cons r2 t2=>
       obtain⟨t,rfl⟩:=r1;obtain⟨u,rfl⟩:=r2;refine kat_cons (wpAny_eqBool_int ?_);rw[HT.cO] at q
       by_cases e:a=c
       ·subst e
        rw[show (a == a)=true by simp]
        rw[if_pos rfl] at q;exact kat_yes (ih ys as bs (i+1) t1 t2 q fin (λ_ _=>JQ) (by rw[hf]; simp))
       ·rw[show (a == c)=false by simpa using e]
        rw[if_neg e] at q;refine kat_no ?_;cases hb:(b && i == 0) with
        |true=>exact oneLt_int q
        |false=>exact kat_one _ _ (PM q)
section
variable{X:Cx}
theorem jS:bY X (.builtin "sorted") (λxs H Q=>∃p ns,xs=[.ref p]/\fj X.K H p (ns.map V.int)/\ns.length<64/\∀(ns':List Int)l,ns'.Perm ns->ns'.Pairwise (·<=·)->H l=none->Q (.ref l) (upd H l (.lst (ns'.map V.int)))):=by
 intro pins s σ H xs us Q I r h;obtain⟨p,ns,rfl,hq,h64,q⟩:=h;obtain⟨u,rfl,rx⟩:=vals1 r;cases rx;obtain⟨its,rv,pl,hz⟩:=I.list hq;have hI:JJ its ns:=by
  clear pl hz h64 q hq
  induction ns generalizing its with
  |nil=>cases rv; exact .nil
  |cons n ns ih=>
   cases rv with
   |cons r1 t1=>
    obtain⟨t,rfl⟩:=r1;exact .cons n t (ih _ t1)
 have hl:=rv.length;rw[D1] at hl;refine sorted_ints pl.isList hI (by lia) λout ns' ho hp hs=>?_
 obtain⟨e,he⟩:=Pj s.heap its out;have hv:Vals (ns'.map V.int) out.toList:=by
  clear he hp hs
  generalize out.toList=os at ho
  induction ho with
  |nil=>exact .nil
  |cons n t _ ih=>exact .cons ⟨_,rfl⟩ ih
 have hlen:(ns'.map V.int).length<=FX:=by
  rw[D1,hp.length_eq,IC]; lia
 refine⟨.ref (s.heap.objs.size+1),_,I.laid (t':=s.toks) (a:=s.heap.objs.size+1) (o:=.lst (ns'.map V.int)) (λb u e=>P5 e) (IX _) ?_,rfl,q ns' _ hp hs (I.hok.fresh (IX _))⟩
 refine⟨hlen,out.toList,e,hv,?_⟩;rw[he]
 all_goals simp[Ik]
theorem ku{pins:List (Addr×Obj)}{σ:St}{H:Hp}{s:B2}{h':Heap}(I:Inv X pins σ H s)(kp:∀b o,s.heap.get? b=some o->h'.get? b=some o):∀{ys:List V}{ks:List (List Int)}{its:List Value},zT X.K H ys ks->Vals ys its->(∀t∈ks,t≠[]) ->
  ∃fs,KatTups h' its fs/\fs.length=its.length/\∀v∈fs,∃i t,v=NA i t:=by
 intro ys ks its h
 induction h generalizing its with
 |nil=>intro v _; cases v; exact⟨[],.nil,rfl,λ_ h=>nomatch h⟩
 |@cons y t _ _ h r ih=>
  intro v hne;obtain⟨a,e,hq⟩:=h;cases v with | cons ru rr=>
  subst e;cases ru;obtain⟨fs,h1,h2,h3⟩:=ih rr λt ht=>hne t (lO _ ht)
  obtain⟨its',rv,⟨o,ho,hc,n,hd⟩,_⟩:=I.tuple hq;cases t with
  |nil=>exact absurd rfl (hne [] lS)
  |cons i t=>
   cases rv with
   |cons r1 t1=>
    obtain⟨tk,rfl⟩:=r1;refine⟨.int i tk::fs,.cons (kp _ _ ho) hc hd rfl h1,by simp[h2],λv hv=>?_⟩
    rcases lK hv with e | hv
    ·exact⟨i,tk,e⟩
    ·exact h3 v hv
theorem iG{α β:Type}{p:Array Nat}{zs:List α}{d:α}(h:Pm zs.length p):(p.toList.map λi=>zs.getD i d).Perm zs:=by
 have h1:p.toList.Perm (Fa zs.length):=JO.mp h;have h2:(p.toList.map λi=>zs.getD i d).Perm ((Fa zs.length).map λi=>zs.getD i d):=h1.map _
 have h3:((Fa zs.length).map λi=>zs.getD i d)=zs:=by
  apply KN;intro i;rw[HL]
  by_cases hi:i<zs.length
  ·rw[K2 hi]
   simp[hi]
  ·rw[JC (by simpa using hi),JC (by simpa using hi)]
   rfl
 rw[h3] at h2;exact h2
theorem qF{α β:Type}{d:α}{d':β}:∀{xs:List α}{ys:List β}(i:Nat),xs.length=ys.length->(xs.zip ys).getD i (d,d')=(xs.getD i d,ys.getD i d'):=by
 intro xs
 induction xs with
 |nil=>intro ys i h; cases ys with
  |nil=>simp
  |cons _ _=>simp at h
 |cons x xs ih=>
  intro ys i h;cases ys with
  |nil=>simp at h
  |cons y ys=>
   cases i with
   |zero=>rfl
   |succ i=>
    have:=ih (ys:=ys) i (by simpa using h)
    simpa using this
theorem jT:bY X (.builtin "sorted") (λxs H Q=>∃p ys ks,xs=[.ref p]/\fj X.K H p ys/\zT X.K H ys ks/\(∀t∈ks,t≠[])/\ys.length<64 /\
  ∀(zs:List (V×List Int))l,zs.Perm (ys.zip ks)->(zs.map (·.2)).Pairwise (λa b=>HT.lexLt b a=false)->H l=none->Q (.ref l) (upd H l (.lst (zs.map (·.1))))):=by
 intro pins s σ H xs us Q I r h;obtain⟨p,ys,ks,rfl,hq,ht,hne,h64,q⟩:=h;obtain⟨u,rfl,rx⟩:=vals1 r;cases rx;obtain⟨its,rv,pl,hz⟩:=I.list hq;have hl:=rv.length;have hk:ys.length=ks.length:=Jq ht;refine sA (lexOrd ks) pl.isList (by lia) (λh2 A' _ h' kp=>⟨tuples' true,λQ' hq' =>?_,λi j hi hj C hC=>?_⟩) λpm hpm hsr=>?_
 ·obtain⟨fs,h1,h2',h3⟩:=ku I kp ht rv hne
  refine kat_kind (s:={ s with heap:=h' }) (T:=.type "int") h1 (by lia) (λv hv=>?_) rfl hq'
  obtain⟨i,t,rfl⟩:=h3 v hv;exact Looks.now
 ·have hiy:i<ys.length:=by lia
  have hjy:j<ys.length:=by lia
  obtain⟨a,ea,qa⟩:=JV.getD (d:=V.non) (d':=[]) ht i hiy;obtain⟨b,eb,qb⟩:=JV.getD (d:=V.non) (d':=[]) ht j hjy;have ra:=JV.getD (d:=V.non) (d':=HM) rv i hiy;have rb:=JV.getD (d:=V.non) (d':=HM) rv j hjy;rw[ea] at ra;rw[eb] at rb;have ra:its.getD i HM=.ref a:=ra;have rb:its.getD j HM=.ref b:=rb;rw[ra,rb];obtain⟨ia,va,⟨oa,ha,_,na,da⟩,_⟩:=I.tuple qa;obtain⟨ib,vb,⟨ob,hb,_,nb,db⟩,_⟩:=I.tuple qb;refine kat_lt (s:={ s with heap:=h' }) (kp _ _ ha) da (kp _ _ hb) db ?_
  refine kr ia ib _ _ 0 va vb hC _ (λ_ _=>JQ) ?_
  simp
 ·have hlen:its.length=ys.length:=hl.symm
  have hzl:(ys.zip ks).length=its.length:=by rw[List.length_zip]; lia
  let zs:List (V×List Int):=pm.toList.map λi=>(ys.zip ks).getD i (V.non,[])
  have hzp:zs.Perm (ys.zip ks):=iG (β:=Nat) (by rw[hzl]; exact hpm)
  have e1:zs.map (·.1)=pm.toList.map λi=>ys.getD i V.non:=by
   show Oo _ (Oo _ _)=_;rw[Iy];exact JU λi _=>by show ((ys.zip ks).getD i (V.non,[])).1=_; rw[qF i hk]
  have e2:zs.map (·.2)=pm.toList.map λi=>ks.getD i []:=by
   show Oo _ (Oo _ _)=_;rw[Iy];exact JU λi _=>by show ((ys.zip ks).getD i (V.non,[])).2=_; rw[qF i hk]
  have hpw:(zs.map (·.2)).Pairwise (λa b=>HT.lexLt b a=false):=by
   rw[e2,N4,IJ];intro i j hi hj hij;have sz:pm.toList.length=its.length:=by rw[Dx]; exact hpm.size
   have z:=hsr i j (by lia) (by lia)
   have gi:gD pm i=pm.toList[i]:=by unfold gD; simp[Jk,show i<pm.size by simpa using hi]
   have gj:gD pm j=pm.toList[j]:=by unfold gD; simp[Jk,show j<pm.size by simpa using hj]
   rw[gi,gj] at z;exact z
  obtain⟨e,he⟩:=Pj s.heap its (eL its pm).toArray;have hv:Vals (zs.map (·.1)) (eL its pm):=by
   rw[e1];unfold eL;have hb:∀i∈pm.toList,i<ys.length:=λi hi=>by
    have h1:pm.toList.Perm (Fa its.length):=JO.mp hpm;have:=h1.mem_iff.mp hi;have:i<its.length:=by simpa using this
    lia
   clear he hpw e1 e2 hzp hsr hpm
   generalize pm.toList=ix at hb
   clear zs
   induction ix with
   |nil=>exact .nil
   |cons i ix ih=>exact .cons (JV.getD (d:=V.non) (d':=HM) rv i (hb i lS)) (ih λj hj=>hb j (lO _ hj))
  refine⟨.ref (s.heap.objs.size+1),_,I.laid (t':=s.toks) (a:=s.heap.objs.size+1) (o:=.lst (zs.map (·.1))) (λb u e=>P5 e) (IX _) ?_,rfl,q zs _ hzp hpw (I.hok.fresh (IX _))⟩
  refine⟨?_,eL its pm,e,hv,he⟩;rw[D1,hzp.length_eq,hzl,IC];lia
end
end L2
end
section
namespace L2
open PySem PySem.Spec PyProof.Rows
section
variable{prog:Fk}{w:World}{A:HN}{E:Value->B2->Prop}{s:B2}
theorem kK{j t:Addr}{k:Nat}{its:Array Value}{v:Value}{Q:Value->B2->Prop}(hj:s.heap.IsTupleIter j t k)(ht:s.heap.IsTuple t its)(hv:its[k]? = some v)
  (h:∀g,g.IsTupleIter j t (k+1)->JR j s.heap g->Q v { s with heap:=g }):wpAny (model prog w) A (IR (.ref j)) Q E s:=by
 obtain⟨oj,ej,cj,dj⟩:=id hj;obtain⟨ot,et,_,nt,dt⟩:=ht;unfold IR;refine AC (II (name:=Jf "__next__") hj.typeIs Ka (Hn Ka hj.typeIs OE ?body (O8 _)))
 case body=>
  show wpAny _ _ (field (.ref j) 0 >>= _) _ _ s;refine AC (Ia ej dj (x:=.ref t) rfl ?a)
  case a=>
   show wpAny _ _ (if (K0 t == HM)=true then _ else _) _ _ s
   rw[if_neg (by intro z; exact IZ z)]
   show wpAny _ _ (field (.ref j) 1 >>= _) _ _ s;refine AC (Ia ej dj (x:=.int k 0) rfl ?b)
   case b=>
    show wpAny _ _ (Ny (.ref t) >>= _) _ _ s;refine AC (J1 et dt ?c)
    case c=>
     simp only[KP,hv];refine AC (wpAny_setField ej dj (by simp) (At ⟨v,rfl,At (h _ ⟨_,Jt _ ej (Obj.isFreed_of_fields (Ph dj _)),(Obj.cls_mapFields ..).trans cj,?d⟩ (Kt ..))⟩))
     rw[Ph dj];simp[Ll]
theorem pP{j t:Addr}{k:Nat}{its:Array Value}{Q:Value->B2->Prop}(hh:A.handled=none)(hj:s.heap.IsTupleIter j t k)(ht:s.heap.IsTuple t its)(hv:its[k]? = none)
  (h:∀g x,On j s.heap g->(∃o,g.get? x=some o/\o.cls=.type "StopIteration")->E (.ref x) { s with heap:=g }):wpAny (model prog w) A (IR (.ref j)) Q E s:=by
 obtain⟨oj,ej,cj,dj⟩:=id hj;obtain⟨ot,et,_,nt,dt⟩:=ht;unfold IR;refine AC (II (name:=Jf "__next__") hj.typeIs Ka (Hn Ka hj.typeIs OE ?body (O8 _)))
 case body=>
  show wpAny _ _ (field (.ref j) 0 >>= _) _ _ s;refine AC (Ia ej dj (x:=.ref t) rfl ?a)
  case a=>
   show wpAny _ _ (if (K0 t == HM)=true then _ else _) _ _ s
   rw[if_neg (by intro z; exact IZ z)]
   show wpAny _ _ (field (.ref j) 1 >>= _) _ _ s;refine AC (Ia ej dj (x:=.int k 0) rfl ?b)
   case b=>
    show wpAny _ _ (Ny (.ref t) >>= _) _ _ s;refine AC (J1 et dt ?c)
    case c=>
     simp only[KP,hv];refine AC (Ii (AC (wpAny_setField ej dj (by simp) ?d)))
     case d=>
      show wpAny _ _ (newExc (.type "StopIteration") [] >>= _) _ _ _;refine AC ?f;simp only[newExc,newTuple];refine AC (HQ ?g (by size_fits))
      case g=>
       refine AC (m:=Mj _ _) (Mh (a:=HM) (by first | rfl | (simp only[Mj]; rfl)) ?k)
       case k=>
        refine HQ ?l (by size_fits)
        simp only[raiseNew];refine AC (wpAny_handled ?m)
        first | rw[show A.in1.handled=none from hh] | rw[hh]
        refine AC (At (wpAny_throw (h _ _ (((Kt ..).extBut.push _).push _) ⟨_,Ee _ rfl,rfl⟩)))
structure ZS(g:Heap)(z p q i j a b:Addr)(k:Nat):Prop where
 zr:IsZip g z p q .none
 ins:M0 g p (.ref i) (.ref j)
 out:∃u v,M0 g q u v
 one:g.IsTupleIter i a k
 two:g.IsTupleIter j b k
theorem ZS.keep{g g':Heap}{z p q i j a b:Addr}{k:Nat}(x:ZS g z p q i j a b k)(h:∀c∈[z,p,q,i,j],∀o,g.get? c=some o->g'.get? c=some o):ZS g' z p q i j a b k :=
 ⟨h z (by simp) _ x.zr,h p (by simp) _ x.ins,let ⟨u,v,e⟩:=x.out; ⟨u,v,h q (by simp) _ e⟩,x.one.at λo e=>h i (by simp) o e,x.two.at λo e=>h j (by simp) o e⟩
theorem Dj{z p q i j a b:Addr}{k:Nat}{xs ys:Array Value}{x y:Value}{Q:Option Value->B2->Prop}(D:ZipApart z p q i j a b)(Z:ZS s.heap z p q i j a b k)(ha:s.heap.IsTuple a xs)(hb:s.heap.IsTuple b ys)(hx:xs[k]? = some x)(hy:ys[k]? = some y)
  (h:∀g,IsZip g z p q (Ll s.heap.objs.size)->M0 g p (.ref i) (.ref j)->M0 g q x y->g.IsTupleIter i a (k+1)->g.IsTupleIter j b (k+1)->M0 g s.heap.objs.size x y->(∀c o,c∉[z,q,i,j]->s.heap.get? c=some o->g.get? c=some o)->Q (some (.ref s.heap.objs.size)) { s with heap:=g }) :
  wpAny (model prog w) A (L1 (.ref z)) Q E s:=by
 have hT:s.TypeIs (.ref z) "zip" := ⟨_,Z.zr,rfl⟩;obtain⟨u0,v0,eq⟩:=Z.out;unfold L1;refine AC (LF (II (name:=Jf "__next__") hT MG (Hn MG hT Ql ?body (QR _))))
 case body=>
  show wpAny _ _ (field (.ref z) 2 >>= _) _ _ _;refine AC (Ia Z.zr rfl (x:=.bool false) rfl ?f2);show wpAny _ _ (field (.ref z) 3 >>= _) _ _ _;refine AC (Ia Z.zr rfl (x:=.ref p) rfl (AC (J1 Z.ins rfl ?f3)));show wpAny _ _ (JZ (.ref z) >>= _) _ _ _;refine AC ?f4;unfold JZ;refine AC (Ia Z.zr rfl (x:=.none) rfl (At ?f5));simp only[if_true];refine AC (Ii (AC (Ia Z.zr rfl (x:=.ref q) rfl (AC (JK Z.zr (by simp) λg1 z1 s1=>?f6)))))
  have z1:IsZip g1 z p q .ellipsis:=z1;refine AC ?f7;simp only[NK,QM,NX,QX];refine AC (AC (NF ?f8));show wpAny _ _ (IR (.ref i) >>= _) _ _ _;refine AC (kK (Z.one.extBut s1.extBut D.i1z) (ha.extBut s1.extBut D.l1z) hx λg2 i2 s2=>At ?f9)
  have q2:M0 g2 q u0 v0:=s2.extBut _ _ D.TOi1 (s1.extBut _ _ D.TOz eq);refine AC (J1 q2 rfl (AC (Me q2 λg3 q3 s3=>?f10)))
  have q3:M0 g3 q x v0:=q3;refine AC (LI (At ?f11));refine AC (AC (NF ?f12));show wpAny _ _ (IR (.ref j) >>= _) _ _ _;refine AC (kK (((Z.two.extBut s1.extBut D.i2z).extBut s2.extBut D.i12.symm).extBut s3.extBut D.TOi2.symm) (((hb.extBut s1.extBut D.l2z).extBut s2.extBut D.l2i1).extBut s3.extBut D.l2TO) hy λg4 j4 s4=>At ?f13)
  have q4:M0 g4 q x v0:=s4.extBut _ _ D.TOi2 q3;refine AC (J1 q4 rfl (AC (Me q4 λg5 q5 s5=>?f14)))
  have q5:M0 g5 q x y:=q5;refine AC (LI (At (At ?f15)));refine AC (J1 q5 rfl (AC (wpAny_newTuple ?f16)));have sz:g5.objs.size=s.heap.objs.size:=by rw[s5.1,s4.1,s3.1,s2.1,s1.1]
  have z5:IsZip g5 z p q .ellipsis:=s5.extBut _ _ D.TOz.symm (s4.extBut _ _ D.i2z.symm (s3.extBut _ _ D.TOz.symm (s2.extBut _ _ D.i1z.symm z1)));have k5:∀c o,c∉[z,q,i,j]->s.heap.get? c=some o->g5.get? c=some o:=λc o hc e=>by
   have c1:c≠z:=λt=>hc (by simp[t])
   have c2:c≠q:=λt=>hc (by simp[t])
   have c3:c≠i:=λt=>hc (by simp[t])
   have c4:c≠j:=λt=>hc (by simp[t])
   exact s5.extBut _ _ c2 (s4.extBut _ _ c4 (s3.extBut _ _ c2 (s2.extBut _ _ c3 (s1.extBut _ _ c1 e))))
  have i5:g5.IsTupleIter i a (k+1):=((i2.extBut s3.extBut D.TOi1.symm).extBut s4.extBut D.i12).extBut s5.extBut D.TOi1.symm;have j5:g5.IsTupleIter j b (k+1):=j4.extBut s5.extBut D.TOi2.symm;have zlt:z<g5.objs.size:=DD z5;show wpAny _ _ (LO (.ref z) (.ref g5.objs.size) >>= _) _ _ _;refine AC ?f17;unfold LO;have z6:IsZip (g5.push { cls:=.type "tuple",data:=.seq #[x,y] }) z p q .ellipsis:=Ap _ z5;refine AC (JK z6 (by simp) λg7 z7 s7=>?f18)
  have z7:IsZip g7 z p q (Ll g5.objs.size):=z7;refine JK z7 (by simp) λg8 z8 s8=>?f19
  have z8:IsZip g8 z p q (Ll g5.objs.size):=z8;have up:∀c o,c≠z->g5.get? c=some o->g8.get? c=some o:=λc o c1 e=>s8.extBut _ _ c1 (s7.extBut _ _ c1 (Ap _ e))
  have t8:M0 g8 g5.objs.size x y:=s8.extBut _ _ (Kv zlt) (s7.extBut _ _ (Kv zlt) (Ee _ rfl));rw[sz] at z8 t8;have pne:p∉[z,q,i,j]:=by
   intro t;simp only[Hk,HH,or_false] at t;rcases t with t | t | t | t
   ·exact D.TIz t
   ·exact D.TITO t
   ·exact D.TIi1 t
   ·exact D.TIi2 t
  have fin:=h g8 z8 (up _ _ D.TIz (k5 p _ pne Z.ins)) (up _ _ D.TOz q5) (i5.at λo e=>up _ o D.i1z e) (j5.at λo e=>up _ o D.i2z e) t8 λc o hc e=>up c o (λt=>hc (by simp[t])) (k5 c o hc e)
  refine At ⟨_,rfl,At ?_⟩;show Q (some (.ref g5.objs.size)) _;rw[sz];exact fin
theorem xT{z p q i j a b:Addr}{k:Nat}{xs ys:Array Value}{Q:Option Value->B2->Prop}(hh:A.handled=none)(D:ZipApart z p q i j a b)(Z:ZS s.heap z p q i j a b k)(ha:s.heap.IsTuple a xs)(hb:s.heap.IsTuple b ys)(he:xs[k]? = none\/ys[k]? = none)
  (h:∀g,(∀c o,c∉[z,q,i,j]->s.heap.get? c=some o->g.get? c=some o)->Q none { s with heap:=g }):wpAny (model prog w) A (L1 (.ref z)) Q E s:=by
 have hT:s.TypeIs (.ref z) "zip" := ⟨_,Z.zr,rfl⟩;obtain⟨u0,v0,eq⟩:=Z.out;have apart:∀c,c∉[z,q,i,j]->c≠z/\c≠q/\c≠i/\c≠j:=λc hc=>⟨λt=>hc (by simp[t]),λt=>hc (by simp[t]),λt=>hc (by simp[t]),λt=>hc (by simp[t])⟩
 unfold L1;refine AC (LF (II (name:=Jf "__next__") hT MG (Hn MG hT Ql ?body (QR _))))
 case body=>
  have fin:∀g x,(∀c o,c∉[z,q,i,j]->s.heap.get? c=some o->g.get? c=some o)->(∃o,g.get? x=some o/\o.cls=.type "StopIteration")->wpAny (model prog w) A (isInstance (.ref x) (.type "StopIteration")) (λr s'=>wpAny (model prog w) A (if r=true then pure none else throw (.ref x)) Q E s') E { s with heap:=g }:=λg x kp hx=>by
   obtain⟨o,ho,hc⟩:=hx;exact MB (T := "StopIteration") (b:=true) ⟨o,ho,hc⟩ OV (At (h g kp))
  show wpAny _ _ (field (.ref z) 2 >>= _) _ _ _;refine AC (Ia Z.zr rfl (x:=.bool false) rfl ?f2);show wpAny _ _ (field (.ref z) 3 >>= _) _ _ _;refine AC (Ia Z.zr rfl (x:=.ref p) rfl (AC (J1 Z.ins rfl ?f3)));show wpAny _ _ (JZ (.ref z) >>= _) _ _ _;refine AC ?f4;unfold JZ;refine AC (Ia Z.zr rfl (x:=.none) rfl (At ?f5));simp only[if_true];refine AC (Ii (AC (Ia Z.zr rfl (x:=.ref q) rfl (AC (JK Z.zr (by simp) λg1 z1 s1=>?f6)))))
  have z1:IsZip g1 z p q .ellipsis:=z1;refine AC ?f7;simp only[NK,QM,NX,QX];refine AC (AC (NF ?f8));show wpAny _ _ (IR (.ref i) >>= _) _ _ _;cases hx:xs[k]? with
  |none=>
   refine AC (pP hh (Z.one.extBut s1.extBut D.i1z) (ha.extBut s1.extBut D.l1z) hx λg2 x s2 hx' =>?g1)
   obtain⟨ox,eox,cox⟩:=hx';have z2:IsZip g2 z p q .ellipsis:=s2 _ _ D.i1z.symm z1;have xz:x≠z:=λt=>by subst t; rw[z2] at eox; cases eox; simp at cox
   refine JK z2 (by simp) λg3 _ s3=>AC (fin g3 x (λc o hc e=>?g2) ⟨ox,s3.extBut _ _ xz eox,cox⟩)
   obtain⟨c1,_,c3,_⟩:=apart c hc;exact s3.extBut _ _ c1 (s2 _ _ c3 (s1.extBut _ _ c1 e))
  |some x0=>
   have hy:ys[k]? = none:=by
    rcases he with t | t
    ·rw[hx] at t; cases t
    ·exact t
   refine AC (kK (Z.one.extBut s1.extBut D.i1z) (ha.extBut s1.extBut D.l1z) hx λg2 i2 s2=>At ?g3)
   have q2:M0 g2 q u0 v0:=s2.extBut _ _ D.TOi1 (s1.extBut _ _ D.TOz eq);refine AC (J1 q2 rfl (AC (Me q2 λg3 q3 s3=>?g4)))
   refine AC (LI (At ?g5));refine AC (AC (NF ?g6));show wpAny _ _ (IR (.ref j) >>= _) _ _ _;refine AC (pP hh (((Z.two.extBut s1.extBut D.i2z).extBut s2.extBut D.i12.symm).extBut s3.extBut D.TOi2.symm) (((hb.extBut s1.extBut D.l2z).extBut s2.extBut D.l2i1).extBut s3.extBut D.l2TO) hy λg4 x s4 hx' =>?g7)
   obtain⟨ox,eox,cox⟩:=hx';have z4:IsZip g4 z p q .ellipsis:=s4 _ _ D.i2z.symm (s3.extBut _ _ D.TOz.symm (s2.extBut _ _ D.i1z.symm z1));have xz:x≠z:=λt=>by subst t; rw[z4] at eox; cases eox; simp at cox
   refine JK z4 (by simp) λg5 _ s5=>AC (fin g5 x (λc o hc e=>?g8) ⟨ox,s5.extBut _ _ xz eox,cox⟩)
   obtain⟨c1,c2,c3,c4⟩:=apart c hc;exact s5.extBut _ _ c1 (s4 _ _ c4 (s3.extBut _ _ c2 (s2.extBut _ _ c3 (s1.extBut _ _ c1 e))))
end
section
variable{prog:Fk}{w:World}{A:HN}{E:Value->B2->Prop}{s:B2}
noncomputable def uq(h:Heap)(a b:Addr):Heap :=
 ((((h.push { cls:=.type "tuple_iterator",data:=.fields #[.ref a,.int 0 0] }).push { cls:=.type "tuple_iterator",data:=.fields #[.ref b,.int 0 0] }).push { cls:=.type "tuple",data:=.seq #[.ref h.objs.size,.ref (h.push { cls:=.type "tuple_iterator",data:=.fields #[.ref a,.int 0 0] }).objs.size] }).push { cls:=.type "tuple",data:=.seq #[.none,.none] }).push
  { cls:=.type "zip",data:=.fields #[.none,.bool false,.bool false,.ref ((h.push { cls:=.type "tuple_iterator",data:=.fields #[.ref a,.int 0 0] }).push { cls:=.type "tuple_iterator",data:=.fields #[.ref b,.int 0 0] }).objs.size,
   .ref (((h.push { cls:=.type "tuple_iterator",data:=.fields #[.ref a,.int 0 0] }).push { cls:=.type "tuple_iterator",data:=.fields #[.ref b,.int 0 0] }).push { cls:=.type "tuple",data:=.seq #[.ref h.objs.size,.ref (h.push { cls:=.type "tuple_iterator",data:=.fields #[.ref a,.int 0 0] }).objs.size] }).objs.size] }
theorem xU(a b:Addr)(xs ys:Array Value) :
  Meets (Il.«zip.__new__» ⟨[.type "zip",.ref a,.ref b],[]⟩) (λ_ R s=>s.heap.IsTuple a xs/\s.heap.IsTuple b ys /\
   R (.ok (.ret (.ref (((((s.heap.push { cls:=.type "tuple_iterator",data:=.fields #[.ref a,.int 0 0] }).push { cls:=.type "tuple_iterator",data:=.fields #[.ref b,.int 0 0] }).push { cls:=.type "tuple",data:=.seq #[.ref s.heap.objs.size,.ref (s.heap.push { cls:=.type "tuple_iterator",data:=.fields #[.ref a,.int 0 0] }).objs.size] }).push { cls:=.type "tuple",data:=.seq #[.none,.none] }).objs.size))))
    { s with heap:=uq s.heap a b }) :=
 .of_wp λprog w A R s h=>by
  obtain⟨hp,g,d,tk,os⟩:=s;obtain⟨h1,h2,h⟩:=h;have hsub:=sub_zip;have k1:OO (ON ⟨hp,g,d,tk,os⟩) a xs:=h1;have k2:OO (ON ⟨hp.push { cls:=.type "tuple_iterator",data:=.fields #[.ref a,.int 0 0] },g,d,tk,os⟩) b ys:=by
   obtain⟨o,e,r⟩:=h2;exact⟨o,Ap _ e,r⟩
  wp_walk using Ji k1,Ji k2
  exact⟨_,rfl,h⟩
theorem vX{a b:Addr}{xs ys:Array Value}{Q:Value->B2->Prop}(ha:s.heap.IsTuple a xs)(hb:s.heap.IsTuple b ys)
  (h:∀g,ZS g (s.heap.objs.size+4) (s.heap.objs.size+2) (s.heap.objs.size+3) s.heap.objs.size (s.heap.objs.size+1) a b 0->(∀c o,s.heap.get? c=some o->g.get? c=some o)->Q (.ref (s.heap.objs.size+4)) { s with heap:=g }) :
  wpAny (model prog w) A (call (.type "zip") [.ref a,.ref b]) Q E s:=by
 refine callType_new F.called_zip (by decide) (F.typeCall_zip_2 _ _) (F.newCall_zip_2 _ _) (λobj=>F.args_object_init_3 obj _ _) F.entry_zip_new (xU a b xs ys) ⟨ha,hb,?_⟩
 unfold uq;generalize e1:s.heap.push { cls:=.type "tuple_iterator",data:=.fields #[.ref a,.int 0 0] }=g1;have z1:g1.objs.size=s.heap.objs.size+1:=by rw[<-e1]; exact IA ..
 have i1:g1.get? s.heap.objs.size=some { cls:=.type "tuple_iterator",data:=.fields #[.ref a,.int 0 0] }:=by rw[<-e1]; exact Ee _ rfl
 have k1:∀c o,s.heap.get? c=some o->g1.get? c=some o:=λc o e=>by rw[<-e1]; exact Ap _ e
 generalize e2:g1.push { cls:=.type "tuple_iterator",data:=.fields #[.ref b,.int 0 0] }=g2;have z2:g2.objs.size=s.heap.objs.size+2:=by rw[<-e2,IA,z1]
 have i2:g2.get? (s.heap.objs.size+1)=some { cls:=.type "tuple_iterator",data:=.fields #[.ref b,.int 0 0] }:=by rw[<-e2,<-z1]; exact Ee _ rfl
 have k2:∀c o,g1.get? c=some o->g2.get? c=some o:=λc o e=>by rw[<-e2]; exact Ap _ e
 generalize e3:g2.push { cls:=.type "tuple",data:=.seq #[.ref s.heap.objs.size,.ref g1.objs.size] }=g3;have z3:g3.objs.size=s.heap.objs.size+3:=by rw[<-e3,IA,z2]
 have i3:g3.get? (s.heap.objs.size+2)=some { cls:=.type "tuple",data:=.seq #[.ref s.heap.objs.size,.ref g1.objs.size] }:=by rw[<-e3,<-z2]; exact Ee _ rfl
 have k3:∀c o,g2.get? c=some o->g3.get? c=some o:=λc o e=>by rw[<-e3]; exact Ap _ e
 generalize e4:g3.push { cls:=.type "tuple",data:=.seq #[.none,.none] }=g4;have z4:g4.objs.size=s.heap.objs.size+4:=by rw[<-e4,IA,z3]
 have i4:g4.get? (s.heap.objs.size+3)=some { cls:=.type "tuple",data:=.seq #[.none,.none] }:=by rw[<-e4,<-z3]; exact Ee _ rfl
 have k4:∀c o,g3.get? c=some o->g4.get? c=some o:=λc o e=>by rw[<-e4]; exact Ap _ e
 generalize e5:g4.push { cls:=.type "zip",data:=.fields #[.none,.bool false,.bool false,.ref g2.objs.size,.ref g3.objs.size] }=g5;have i5:g5.get? (s.heap.objs.size+4)=some { cls:=.type "zip",data:=.fields #[.none,.bool false,.bool false,.ref g2.objs.size,.ref g3.objs.size] }:=by rw[<-e5,<-z4]; exact Ee _ rfl
 have k5:∀c o,g4.get? c=some o->g5.get? c=some o:=λc o e=>by rw[<-e5]; exact Ap _ e
 rw[z4];rw[z2,z3] at i5;rw[z1] at i3;exact⟨⟨_,i5,rfl⟩,h _ ⟨i5,k5 _ _ (k4 _ _ i3),⟨_,_,k5 _ _ i4⟩,⟨_,k5 _ _ (k4 _ _ (k3 _ _ (k2 _ _ i1))),rfl,rfl⟩,⟨_,k5 _ _ (k4 _ _ (k3 _ _ i2)),rfl,rfl⟩⟩ λc o e=>k5 _ _ (k4 _ _ (k3 _ _ (k2 _ _ (k1 _ _ e))))⟩
end
noncomputable def GZ(K:AT)(a b:Addr):It :=
  ⟨λi H=>∃xs ys x y,cI K H a xs/\cI K H b ys/\xs[i]? = some x/\ys[i]? = some y,
   λi H v H'=>∃p x y,H p=none/\v=.ref p/\H'=upd H p (.tup [x,y])/\(∀xs,cI K H a xs->xs[i]? = some x)/\∀ys,cI K H b ys->ys[i]? = some y,
   λi H=>∃xs ys,cI K H a xs/\cI K H b ys/\(xs.length<=i\/ys.length<=i)⟩
theorem xV{P:Fk}{w:World}{K:AT}{es:List Expr}{k:Nat}{pos:Pos}{z p q i j a b:Addr}(D:ZipApart z p q i j a b):Turn P w K (.Tuple es k pos) (GZ K a b) [z,p,q,i,j] z (λn h=>ZS h z p q i j a b n) where
 mem:=by simp
 obj:=λn h st c hc=>by
  simp only[Hk,HH,or_false] at hc;rcases hc with rfl | rfl | rfl | rfl | rfl
  ·exact⟨_,st.zr,λv e=>nomatch e⟩
  ·exact⟨_,st.ins,λv e=>nomatch e⟩
  ·obtain⟨u,v,e⟩:=st.out; exact⟨_,e,λv e=>nomatch e⟩
  ·obtain⟨o,e,_,d⟩:=st.one; exact⟨o,e,λv t=>by rw[d] at t; cases t⟩
  ·obtain⟨o,e,_,d⟩:=st.two; exact⟨o,e,λv t=>by rw[d] at t; cases t⟩
 keep:=λn h h' st kp=>st.keep kp
 item:=by
  intro X hP hw hK hc n pins s σ H E I hf st hg;subst hP hw hK;obtain⟨xs,ys,x,y,qa,qb,hx,hy⟩:=hg;obtain⟨ia,ra,ta,_⟩:=I.tuple qa;obtain⟨ib,rb,tb,_⟩:=I.tuple qb;obtain⟨u,hu,ru⟩:=ra.get hx;obtain⟨v,hv,rv⟩:=rb.get hy;refine Dj D st ta tb (x:=u) (y:=v) (by simpa using hu) (by simpa using hv) λg gz gp gq gi gj gt kp=>?_
  refine⟨_,rfl,wpAny_letOwnedTupleGo_zip (s:={ s with heap:=g }) gz λg' gz' sb=>?_⟩
  have ne:∀c o,s.heap.get? c=some o->c≠s.heap.objs.size:=λc o e=>FC (DD e)
  have zne:s.heap.objs.size≠z:=(ne z _ st.zr).symm;have t':M0 g' s.heap.objs.size u v:=(sb.2 _ zne).trans gt;have f:=I.hok.fresh (Db s.heap.objs.size);have free:∀c∈[z,p,q,i,j],H c=none:=λc hc=>(hf c hc).1
  have kp':∀c o,c∉[z,q,i,j]->s.heap.get? c=some o->g'.get? c=some o:=λc o hc e=>(sb.2 c (λt=>hc (by simp[t]))).trans (kp c o hc e)
  have sub:∀c,c∈[z,q,i,j]->c∈[z,p,q,i,j]:=λc hc=>by
   simp only[Hk,HH,or_false] at hc ⊢;rcases hc with h | h | h | h <;> simp[h]
  have tracked:∀c o,H c=some o->c∉[z,q,i,j]:=λc o e hc=>by rw[free c (sub c hc)] at e; cases e
  have hok:iC X.prog X.w (upd H s.heap.objs.size (.tup [x,y])) g':=λc o e=>by
   by_cases hc:c=s.heap.objs.size
   ·subst hc
    rw[aB] at e;cases e;exact⟨by rw[IC]; show 2<=_; lia,[u,v],.cons ru (.cons rv .nil),_,t',rfl,0,rfl⟩
   ·rw[aA hc] at e
    refine(I.hok c o e).stay (λd o' hd e'=>kp' d o' ?_ e') (λd e'=>by rw[aA (aN e' f)]; exact e') λd xs e'=>by rw[aA (aN e' f)]; exact e'
    rcases hd with rfl | hd
    ·exact tracked _ _ e
    ·exact tracked _ _ hd
  have I':Inv X pins σ (upd H s.heap.objs.size (.tup [x,y])) { s with heap:=g' }:=by
   refine I.step (g':=s.gens) (t':=s.toks) (d':=s.drawn) (ch:=[z,q,i,j]) (λc hc=>?_) (λc o _ _ hc e _=>kp' c o hc e) (λc o _ _ hc e _=>⟨o.slots,kp' c o hc e⟩) (λc o hc e n=>by rw[aA (ne c o e)]; exact n)
    (λc o hc e=>⟨o,kp' c o hc e⟩) (λc xs e=>by rw[aA (aN e f)]; exact e) (λc o u e=>by rw[aA (aN e f)]; exact e) (λc ps e=>⟨#[],by rw[aA (aN e f),e]; simp⟩) (λm hm=>?_) hok I.bare
   ·obtain⟨_,f1,_,f3,f4,f5⟩:=hf c (sub c hc)
    exact⟨f3,f1,f4,f5⟩
   ·obtain⟨o,es',ep,ho,r⟩:=hm
    exact⟨o,es',ep,kp' _ o (λhc=>(hf _ (sub _ hc)).2.1 rfl) ho,r⟩
  refine⟨.ref s.heap.objs.size,_,I',rfl,⟨_,x,y,f,rfl,rfl,λzs hz=>by rw[I.ie hz qa]; exact hx,λzs hz=>by rw[I.ie hz qb]; exact hy⟩,?_,λc hc=>?_⟩
  ·exact⟨gz',(sb.2 _ D.TIz).trans gp,⟨_,_,(sb.2 _ D.TOz).trans gq⟩,gi.at λo e=>(sb.2 _ D.i1z).trans e,gj.at λo e=>(sb.2 _ D.i2z).trans e⟩
  ·rw[aA]
   ·exact free c hc
   ·simp only[Hk,HH,or_false] at hc
    rcases hc with rfl | rfl | rfl | rfl | rfl
    ·exact ne _ _ st.zr
    ·exact ne _ _ st.ins
    ·obtain⟨_,_,e⟩:=st.out; exact ne _ _ e
    ·obtain⟨_,e,_⟩:=st.one; exact ne _ _ e
    ·obtain⟨_,e,_⟩:=st.two; exact ne _ _ e
 done:=by
  intro X hP hw hK hc n pins s σ H E I hf st hg;subst hP hw hK;obtain⟨xs,ys,qa,qb,hl⟩:=hg;obtain⟨ia,ra,ta,_⟩:=I.tuple qa;obtain⟨ib,rb,tb,_⟩:=I.tuple qb;have la:=ra.length;have lb:=rb.length;have sub:∀c,c∈[z,q,i,j]->c∈[z,p,q,i,j]:=λc hc=>by
   simp only[Hk,HH,or_false] at hc ⊢;rcases hc with h | h | h | h <;> simp[h]
  refine xT (I.ok.hd hc) D st ta tb ?_ λg kp=>⟨rfl,?_⟩
  ·rcases hl with h | h
   ·exact .inl (by simp; lia)
   ·exact .inr (by simp; lia)
  ·have tracked:∀c o,H c=some o->c∉[z,q,i,j]:=λc o e hc=>by rw[(hf c (sub c hc)).1] at e; cases e
   refine I.step (g':=s.gens) (t':=s.toks) (d':=s.drawn) (ch:=[z,q,i,j]) (λc hc=>?_) (λc o _ _ hc e _=>kp c o hc e) (λc o _ _ hc e _=>⟨o.slots,kp c o hc e⟩) (λc o hc e n=>n)
    (λc o hc e=>⟨o,kp c o hc e⟩) (λc xs e=>e) (λc o u e=>e) (λc ps e=>⟨#[],by rw[e]; simp⟩) (λm hm=>?_) (λc o e=>?_) I.bare
   ·obtain⟨_,f1,_,f3,f4,f5⟩:=hf c (sub c hc)
    exact⟨f3,f1,f4,f5⟩
   ·obtain⟨o,es',ep,ho,r⟩:=hm
    exact⟨o,es',ep,kp _ o (λhc=>(hf _ (sub _ hc)).2.1 rfl) ho,r⟩
   ·refine(I.hok c o e).stay (λd o' hd e'=>kp d o' ?_ e') (λd e'=>e') λd xs e'=>e'
    rcases hd with rfl | hd
    ·exact tracked _ _ e
    ·exact tracked _ _ hd
 self:=λ_ _ _ _ _ st h=>wpAny_pyIter_zip st.zr h
section
variable{X:Cx}
noncomputable def iZip(K:AT)(ta:TA):TI:=λσ H R=>ta σ H λvs H1=>∃a b,vs=[.ref a,.ref b]/\(∃xs,cI K H1 a xs)/\(∃ys,cI K H1 b ys)/\R (GZ K a b) H1
theorem Dk{a b:Expr}{ta:TA}{p pos tp:Pos}{es:List Expr}{k:Nat}(hg:Gl X "zip")(hm:X.mg "zip" = none)(ha:PA X [a,b] ta)(hs:FK [a,b] X.env=[(false,eval a X.env),(false,eval b X.env)]:=by rfl)(hs2:FK [b] X.env=[(false,eval b X.env)]:=by rfl) :
  PI X (.Tuple es k tp) (.Call (.Name "zip" p) [a,b] [] pos) (iZip X.K ta):=by
 intro pins s σ H R I h;refine Jj (eB I hg hm PyProof.Rows.boot_zip ?_);refine JA (aZ (ha pos pins s σ H _ I h) λus s1 ⟨vs,H1,I1,r1,q1⟩=>?_) (by rw[hs,hs2]) (by rw[hs2]; rfl)
 obtain⟨a',b',e,⟨xs,qa⟩,⟨ys,qb⟩,q⟩:=q1;subst e;obtain⟨u,v,rfl,ru,rv⟩:=vals2 r1;cases ru;cases rv;obtain⟨ia,ra,ta',_⟩:=I1.tuple qa;obtain⟨ib,rb,tb,_⟩:=I1.tuple qb;refine vX ta' tb λg Z kp=>?_
 refine wpAny_pyIter_zip (s:={ s1 with heap:=g }) Z.zr ?_
 have la:a'<s1.heap.objs.size:=by obtain⟨_,e,_⟩:=ta'; exact DD e
 have lb:b'<s1.heap.objs.size:=by obtain⟨_,e,_⟩:=tb; exact DD e
 have fr:∀c,s1.heap.objs.size<=c->gG X pins H1 c:=λc hc=>I1.vn hc (I1.hok.fresh hc)
 refine⟨_,_,_,_,H1,rfl,I1.kept (t':=s1.toks) kp,xV (PyProof.Rows.zipApart_new la lb),Z,λc hc=>?_,q⟩
 simp only[Hk,HH,or_false] at hc;rcases hc with h | h | h | h | h
 ·exact h▸fr _ (L8 _ _)
 ·exact h▸fr _ (L8 _ _)
 ·exact h▸fr _ (L8 _ _)
 ·exact h▸fr _ (Db _)
 ·exact h▸fr _ (L8 _ _)
end
mutual
inductive Rp(K:AT)(H:Hp):V->B1->Prop
 |non:Rp K H .non .none
 |bl (b:Bool):Rp K H (.bl b) (.bool b)
 |int (i:Int):Rp K H (.int i) (.int i)
 |str (x:Str):Rp K H (.str x) (.str x)
 |tup {a:Addr} {xs:List V} {ds:List B1}:cI K H a xs->Dl K H xs ds->Rp K H (.ref a) (.tuple ds)
inductive Dl(K:AT)(H:Hp):List V->List B1->Prop
 |nil:Dl K H [] []
 |cons {v:V} {vs:List V} {d:B1} {ds:List B1}:Rp K H v d->Dl K H vs ds->Dl K H (v::vs) (d::ds)
end
def d9(H H':Hp):Prop:=∀a u,Rd H a (.tup u)->Rd H' a (.tup u)
theorem d9.refl{H:Hp}:d9 H H:=λ_ _ h=>h
theorem d9.trans{H H1 H2:Hp}(a:d9 H H1)(b:d9 H1 H2):d9 H H2:=λc u h=>b c u (a c u h)
theorem d9.sq{K:AT}{H H':Hp}(t:d9 H H'){a:Addr}{xs:List V}(h:cI K H a xs):cI K H' a xs:=by
 rcases h with h | h
 ·exact .inl (t a xs h)
 ·exact .inr h
theorem d9.put{H:Hp}{a:Addr}{o o':HO}(h:H a=some o)(hn:∀u,o≠.tup u)(hf:∀x u,o≠.frz x u):d9 H (upd H a o'):=λc u r=>by
 rcases r with e | ⟨x,e⟩
 ·exact .inl (by rw[aA (nP e h λz=>hn u z.symm)]; exact e)
 ·exact .inr ⟨x,by rw[aA (nP e h λz=>hf x _ z.symm)]; exact e⟩
theorem d9.lst{H:Hp}{a:Addr}{xs:List V}{o':HO}(h:H a=some (.lst xs)):d9 H (upd H a o'):=.put h (λ_ z=>nomatch z) λ_ _ z=>nomatch z
theorem d9.dk{H:Hp}{a:Addr}{xs:List (Key×V)}{o':HO}(h:H a=some (.dK xs)):d9 H (upd H a o'):=.put h (λ_ z=>nomatch z) λ_ _ z=>nomatch z
theorem bA.tups{H H':Hp}(s:bA H H'):d9 H H':=λa u r=>by
 rcases r with e | ⟨o,e⟩
 ·exact .inl (s _ _ e)
 ·exact .inr ⟨o,s _ _ e⟩
section
variable{X:Cx}
theorem oi{h:Heap}:∀{vs:List Value}{ds:List B1}{as:List Addr},QC h vs ds as->∀v∈vs,∃d bs,d∈ds/\Reads h v d bs
 |_,_,_,.nil,v,hv=>nomatch hv
 |_,_,_,.cons r q,v,hv=>by
  rcases lK hv with e | hv
  ·subst e; exact⟨_,_,lS,r⟩
  ·obtain⟨d,bs,h1,h2⟩:=oi q v hv
   exact⟨d,bs,lO _ h1,h2⟩
theorem xW{ds:List B1}(h:IK ds=true):∀d∈ds,d.canLay0=true:=by
 induction ds with
 |nil=>intro d hd; exact nomatch hd
 |cons x xs ih=>
  unfold IK at h;rw[J0] at h;intro d hd;rcases lK hd with e | hd
  ·subst e; exact h.1
  ·exact ih h.2 d hd
noncomputable def zU(h:Heap)(e:B1)(u:Value):Bool:=@decide (∃d as,Reads h u d as/\JL d e=true) (Kb _)
theorem xX{h:Heap}{e d:B1}{u:Value}{as:List Addr}(r:Reads h u d as)(c:d.canLay0=true):zU h e u=JL d e:=by
 unfold zU;cases q:JL d e with
 |true=>exact@decide_eq_true _ (Kb _) ⟨d,as,r,q⟩
 |false=>
  refine@decide_eq_false _ (Kb _) ?_;rintro⟨d',as',r',q'⟩;rw[<-SeqAt.Reads.unique d d' u as as' c r r'] at q';rw[q] at q';cases q'
theorem pQ{h:Heap}{e:B1}:∀{vs:List Value}{ds:List B1}{as:List Addr},QC h vs ds as->IK ds=true->vs.any (zU h e)=ds.any λd=>JL d e
 |_,_,_,.nil,_=>rfl
 |_,_,_,.cons r q,c=>by
  unfold IK at c;rw[J0] at c;rw[JN,JN,xX r c.1,pQ q c.2]
theorem xY{pins:List (Addr×Obj)}{σ:St}{H:Hp}{s:B2}{its:List Value}{ds:List B1}{as bs:List Addr}{e:B1}{v:Value}(hu:X.A.units+64<cLine)(r:QC s.heap its ds as)(re:Reads s.heap v e bs)(c:IK ds=true)(ce:e.canLay0=true)(dp:e.depth<=50) :
  ∀y,y∈its.toArray->Oy X.A.in1 s y v (zU s.heap e y):=λy hy=>by
 obtain⟨d,cs,hd,rd⟩:=oi r y (by simpa using hy)
 rw[xX rd (xW c d hd)];refine SeqAt.eqAt_reads d e X.A.in1 s y v cs bs rd re (xW c d hd) ce ?_;show X.A.units+1+_<_;lia
theorem AF:dO X (J9 .Pow) (rI (λi j=>0<=j/\(IP i:Int)*j<=2 ^ 27) λi j=>.int (i ^ j.toNat)):=Fc λ_ _ _ _ _ _ _ hc q=>pow_int hc.1 hc.2 q
inductive gF(K:AT)(H:Hp):V->String->Prop where
 |non:gF K H .non "NoneType"
 |bl (x:Bool):gF K H (.bl x) "bool"
 |int (i:Int):gF K H (.int i) "int"
 |str (x:Str):gF K H (.str x) "str"
 |lst {a:Addr} {xs:List V} (e:fj K H a xs):gF K H (.ref a) "list"
 |tup {a:Addr} {xs:List V} (e:cI K H a xs):gF K H (.ref a) "tuple"
 |dK {a:Addr} {kvs:List (Key×V)} (e:H a=some (.dK kvs)):gF K H (.ref a) "dict"
noncomputable def subB(t c:String):Bool:=t == c || (t == "bool" && c == "int")
noncomputable def cT:List String:=["NoneType", "bool", "int", "str", "list", "tuple", "dict"]
theorem AG(K:AT):∀t∈cT,∀c∈cT,c ≠ "NoneType"->PySem.W.kitOne K (.type t) (.type c)=some (subB t c):=by
 intro t ht c hc hn;simp only[cT,Hk,HH,or_false] at ht hc;rcases hc with rfl | rfl | rfl | rfl | rfl | rfl | rfl
 ·exact absurd rfl hn
 all_goals (rcases ht with rfl | rfl | rfl | rfl | rfl | rfl | rfl <;> first | rfl | decide +kernel)
theorem gF.mem{K:AT}{H:Hp}{x:V}{t:String}(h:gF K H x t):t∈cT:=by
 cases h <;> simp[cT]
theorem qG:bY X (.builtin "isinstance") (λxs H Q=>∃x t c,xs=[x,.ty c]/\gF X.K H x t/\c∈cT/\c ≠ "NoneType"/\Q (.bl (subB t c)) H):=by
 intro pins s σ H xs us Q I r h;obtain⟨x,t,c,rfl,ty,hc,hn,q⟩:=h;obtain⟨u,w',rfl,rx,rw'⟩:=vals2 r;cases rw';have e:=AG X.K t ty.mem c hc hn;have fin:∀tk,EP X pins σ Q (.bool (subB t c)) { s with toks:=tk }:=λtk=>⟨.bl _,H,I.tok tk,rfl,q⟩
 cases ty with
 |non=>cases rx; exact K9 PySem.W.kitx_none I.vm JQ e (λz=>nomatch z) fin
 |bl y=>cases rx; exact K9 PySem.W.kitx_bool I.vm JQ e (λz=>nomatch z) fin
 |int i=>obtain⟨t,rfl⟩:=rx; exact K9 PySem.W.kitx_int I.vm JQ e (λz=>nomatch z) fin
 |str y=>obtain⟨t,rfl⟩:=rx; exact K9 PySem.W.kitx_str I.vm JQ e (λz=>nomatch z) fin
 |lst hq=>
  cases rx;obtain⟨its,_,⟨o,n,h1,h2,_⟩,_⟩:=I.list hq;exact K9 PySem.W.kitx_list I.vm ⟨o,h1,h2⟩ e (λz=>nomatch z) fin
 |tup hq=>
  cases rx;obtain⟨its,_,⟨o,h1,h2,_⟩,_⟩:=I.tuple hq;exact K9 PySem.W.kitx_tuple I.vm ⟨o,h1,h2⟩ e (λz=>nomatch z) fin
 |dK ea=>
  cases rx;obtain⟨_,_,vs,_,o,es,ep,h1,h2,_⟩:=I.hok _ _ ea;exact K9 PySem.W.kitx_dict I.vm ⟨o,h1,h2.1⟩ e (λz=>nomatch z) fin
noncomputable def Fe(bs:List Bool):List V:=bs.map V.bl
theorem AH{bs:List Bool}{its:List Value}(r:Vals (Fe bs) its)(i:Nat)(u:Value)(e:its[i]? = some u):∃b,bs[i]? = some b/\u=.bool b:=by
 have hl:=r.length;unfold Fe at hl r;rw[D1] at hl;have hi:i<its.length:=(Da.mp e).1;have hb:bs[i]? = some bs[i]:=by simp
 obtain⟨u',e',ru⟩:=r.get (i:=i) (x:=.bl bs[i]) (by rw[HL,hb]; rfl)
 rw[e] at e';cases e';exact⟨bs[i],hb,ru⟩
theorem range_all(bs:List Bool):(Fa bs.length).all (λi=>(bs[i]?).getD false)=bs.all id:=by
 have e:(Fa bs.length).map (λi=>(bs[i]?).getD false)=bs:=by
  apply KN;intro i;rw[HL]
  by_cases hi:i<bs.length
  ·simp[K2 hi,hi]
  ·simp[JC,hi,NP hi]
 conv=>rhs; rw[<-e]
 rw[OR];rfl
theorem lD(hc:X.calm=true):bY X (.builtin "all") (λxs H Q=>∃p bs,xs=[.ref p]/\fj X.K H p (Fe bs)/\Q (.bl (bs.all id)) H):=by
 intro pins s σ H xs us Q I r h;obtain⟨p,bs,rfl,hq,q⟩:=h;obtain⟨u,rfl,rx⟩:=vals1 r;cases rx;obtain⟨its,rv,pl,hz⟩:=I.list hq;have hlt:p<s.heap.objs.size:=by obtain⟨o,n,e,_⟩:=pl; exact DD e
 have hl:its.length=bs.length:=by have:=rv.length; unfold Fe at this; rw[D1] at this; lia
 refine call_all_walk (Na pl.isList ?_);refine⟨_,_,_,_,_,_,λi=>(bs[i]?).getD false,rfl,Ox (A:=X.A.in1) (I.ok.hd hc) s.heap.objs.size p (FC hlt) its.toArray,⟨⟨_,Ee _ rfl,rfl,rfl⟩,pl.isList.push _⟩,λi v s' Q' E' hv hq' =>?_,λh' tk kp=>?_⟩
 ·obtain⟨b,hb,rfl⟩:=AH rv i v (by simpa using hv)
  have hq':Q' ((bs[i]?).getD false) s':=hq';rw[hb] at hq';exact Jz hq'
 ·refine⟨.bl _,H,I.kept (t':=tk) λb o e=>kp b o (λhb=>?_) (Ap _ e),rfl,?_⟩
  ·have:b=s.heap.objs.size:=by simpa using hb
   exact absurd (DD e) (by rw[this]; exact Jx _)
  ·rw[Do,hl,range_all]
   exact q
end
section
variable{prog:Fk}{w:World}{A:HN}{E:Value->B2->Prop}{s:B2}
theorem lE(t b:Addr)(items items2:Array Value)(n n2:Nat)(dd dd2:Option Addr)(sl sl2:Array (Option Value))(h0:items.isEmpty=true) :
  Meets (Il.«tuple.__add__» ⟨[.ref t,.ref b],[]⟩) (λ_ R s=>s.heap.get? t=some ⟨.type "tuple",dd,.seq items n,sl⟩/\s.heap.get? b=some ⟨.type "tuple",dd2,.seq items2 n2,sl2⟩/\R (.ok (.ret (.ref b))) s) :=
 .of_wp λprog w A R s h=>by
  obtain⟨hp,g,d,tk,os⟩:=s;obtain⟨h1,h2,h⟩:=h;have hsub:=sub_tuple_self
  wp_walk using J5 h1,J5 h2
  exact⟨_,rfl,h⟩
end
section
variable{X:Cx}
theorem cU{H:Hp}{p:Addr}(h:H p=none)(o:HO):bA H (upd H p o):=λb u q=>by rw[aA (aN q h)]; exact q
noncomputable def rCatA(K:AT):R2:=λx y H Q=>∃a b xs ys,x=.ref a/\y=.ref b/\cI K H a xs/\cI K H b ys/\xs.length+ys.length<=FX/\∀r H',bA H H'->cI K H' r (xs++ys)->Q (.ref r) H'
theorem AI:dO X (J9 .Add) (rCatA X.K):=by
 intro pins s σ H x y v u Q I rx ry h;obtain⟨a,b,xs,ys,rfl,rfl,ha,hb,hz,q⟩:=h
 by_cases hx:xs=[]
 ·subst hx
  cases rx;cases ry;obtain⟨its,r1,⟨⟨cls,dd,data,sl⟩,ho,hc,n,hd⟩,_⟩:=I.tuple ha;obtain⟨its2,r2,⟨⟨cls2,dd2,data2,sl2⟩,ho2,hc2,n2,hd2⟩,_⟩:=I.tuple hb;simp only at hc hd hc2 hd2;subst hc hd hc2 hd2;cases r1;exact OJ ⟨_,ho,rfl⟩ ⟨_,ho2,rfl⟩ N9 Nw Ln Le (LW _ _)
   (lE a b _ _ n n2 dd dd2 sl sl2 (by simp)) ⟨ho,ho2,⟨.ref b,H,I,rfl,q b H (bA.refl H) (by simpa using hb)⟩⟩
 ·refine Am pins s σ H _ _ v u Q I rx ry ⟨a,b,xs,ys,rfl,rfl,ha,hb,hx,hz,λe=>q a H (bA.refl H) (by rw[e,FB]; exact ha),λ_ p hp=>q p _ (cU hp _) (cI.of aB)⟩
noncomputable def xZ(sc0:Scope)(N0:List Str)(scope:Scope)(N:List Str)(fr:List (Option Nat)):Bool :=
 (scope.kind == .function) && scope.names.all (λy=>y.2 != .cell) && scope.names.all (λy=>y.2 != .local || scope.names.lookup y.1 == some .local) &&
 scope.names.all (λy=>y.2 != .free || (sc0.names.lookup y.1 == some .cell || sc0.names.lookup y.1 == some .free)) && (fr.length == N.length) &&
 (N.zip fr).all (λp=>match p.2 with | none=>true | some j=>N0[j]? == some p.1 && scope.names.lookup p.1 == some .free) && decide N.Nodup
theorem aP.of{sc0:Scope}{N0:List Str}{scope:Scope}{N:List Str}{fr:List (Option Nat)}(h1:X.env.scope=sc0)(h2:X.N=N0)(h:xZ sc0 N0 scope N fr=true):aP X scope N fr:=by
 unfold xZ at h;simp only[J0] at h;obtain⟨⟨⟨⟨⟨⟨k1,k2⟩,k3⟩,k4⟩,k5⟩,k6⟩,k7⟩:=h;rw[Kz] at k2 k3 k4 k6;refine⟨by simpa using k1,λy hy=>by simpa using k2 y hy,λy hy e=>?_,λy hy e=>?_,by simpa using k5,λi j x hi hj=>?_,of_decide_eq_true k7⟩
 ·have:=k3 y hy
  rw[e] at this;simpa using this
 ·have:=k4 y hy
  rw[e] at this;have t:sc0.names.lookup y.1=some .cell\/sc0.names.lookup y.1=some .free:=by simpa using this
  show X.env.scope.names.lookup y.1=_\/X.env.scope.names.lookup y.1=_;rw[h1];exact t
 ·have hm:(x,some j)∈N.zip fr:=by
   have hz:(N.zip fr)[i]? = some (x,some j):=by rw[Lb]; exact⟨hi,hj⟩
   exact IE hz
  have:=k6 _ hm;simp only[J0] at this;rw[h2];exact⟨by simpa using this.1,by simpa using this.2⟩
structure aT(P:Fk)(w:World)(K:AT)(mg:Str->Option Value)(base:Heap)(x:Str)(ps:List Str)(k:Nat)(sp:Sp):Prop where
 ex:∃f fd,cF P w K mg base jc k f fd ps sp/\Binds K fd ps []/\HY K (.ref f)=true/\mg x=some (.ref f)
theorem pe_fn{x:Str}{ps:List Str}{k k':Nat}{sp:Sp}{e:Expr}{es:List Expr}{t:TA}{p pos:Pos}(C:aT X.prog X.w X.K X.mg X.base x ps k sp)(hr:eY k' X.A)(hg:Gl X x)(ha:PA X (e::es) t)(hk:k<=k':=by first | decide | exact Db _ | lia)(hdb:(x == ("__debug__" : Str))=false:=by decide)
  (he:FK (e::es) X.env=(false,eval e X.env)::FK es X.env:=by rfl) (hpl:(K6 pos (FK es X.env)).any (·.1)=false:=by rfl):PE X (.Call (.Name x p) (e::es) [] pos) (xA sp [] E0 t):=by
 obtain⟨f,fd,F,b,kp,m⟩:=C.ex;exact Ag F (hr.mono hk) hg m kp b .nil pass0 ha hdb he hpl
end
section
variable{K:AT}{H:Hp}
theorem Dl.ints:∀(ns:List Int),Dl K H (ns.map V.int) (ns.map .int)
 |[]=>.nil
 |n::ns=>.cons (.int n) (Dl.ints ns)
theorem qH:∀(ns:List Int),IK (ns.map .int)=true
 |[]=>rfl
 |n::ns=>by show (M5 (.int n) && IK (ns.map .int))=true; rw[qH ns]; rfl
end
section
variable{X:Cx}
theorem Inv.Dm{pins:List (Addr×Obj)}{σ:St}{H:Hp}{s:B2}{C:Addr}{h':Heap}(I:Inv X pins σ H s)(hn:H C=none)(hL:C≠X.env.locals)(h1:X.s₀.heap.objs.size<=C)(h2:∀x c,X.env.cells.lookup x=some c->c≠C)(h3:∀p∈X.pn++pins,p.1≠C)
  (sb:JR C s.heap h'):Inv X pins σ H { s with heap:=h' }:=I.turned (t':=s.toks) (λb o hb e=>(sb.2 b hb).trans e) hn hL (.inr h1) h2 h3
theorem Dp{i:Nat}{x:Str}{elt target iter:Expr}{ifs:List Expr}{scope:Scope}{pos pos' spos:Pos}{N:List Str}{fr:List (Option Nat)}{wi:TI}{g:Bk->TG}{tt:Bk->TT}{te:Bk->TE}(hN:X.N.Nodup)(hi':X.N[i]? = some x)(hx:X.env.scope.names.lookup x=some .local)
  (hc:X.calm=true) (S:aP X scope N fr) (hi:PI X target iter wi)
  (hin:∀z:Bk,PG (ay X scope z.cl N z.C z.fp z.s z.H) target (g z)/\ly (ay X scope z.cl N z.C z.fp z.s z.H) ifs (tt z)/\PE (ay X scope z.cl N z.C z.fp z.s z.H) elt (te z))
  (hs:∀x,HG iter X.env x=pure x:=by intro _; rfl) (hsw:KS (.ListComp elt [⟨target,iter,ifs,0⟩] scope pos) (some (.Name x pos')) spos.line X.env=pure true:=by rfl) :
  PS X (.Assign [.Name x pos'] (.ListComp elt [⟨target,iter,ifs,0⟩] scope pos) spos) (oY (EO fr wi g tt te) (xj i)):=by
 intro pins s σ H Dn I h;rw[exec_Assign_Name_used _ _ _ _ hsw];refine AC (J4 (AC ?_));show wpAny _ X.A (do let _ <-Ot (.ListComp elt [⟨target,iter,ifs,0⟩] scope pos) scope X.env (Pb [⟨target,iter,ifs,0⟩] pos) (newList []) (Qh [⟨target,iter,ifs,0⟩]) (firstIter [⟨target,iter,ifs,0⟩] X.env) (some (Lz (.Name x pos') X.env))) _ _ s
 refine AC (J3 (Kn (g:=⟨target,iter,ifs,0⟩) (gs:=[]) (use:=some (Lz (.Name x pos') X.env)) (Q:=λ_ s'=>SP X pins Dn .next s') (E:=X.xe) rfl hs (cy (S.cells I)) S.kind S.locs ?_) (λ_ s' hq=>At (At hq)) λ_ _ e=>e)
 refine aZ (hi pins s σ H _ I h) λv s1 h1=>aZ h1 λitv s2 h2=>?_
 obtain⟨it,fp,tn,J,H2,e,I2,T,st2,f2,h2⟩:=h2;subst e;refine HQ ?_;have hD:H2 s2.heap.objs.size=none:=I2.fresh;have I3:=I2.lnew (t':=s2.toks) (ys:=[]) (its:=[]) .nil (HS _);have lt2:∀b∈fp,b<s2.heap.objs.size:=λb hb=>by
  obtain⟨o,e,_⟩:=T.obj _ _ st2 b hb;exact DD e
 have f3:∀b∈fp,gG X pins (upd H2 s2.heap.objs.size (.lst [])) b:=λb hb=>⟨by rw[aA (FC (lt2 b hb))]; exact(f2 b hb).1,(f2 b hb).2⟩
 generalize hs3:({ s2 with heap:=s2.heap.push { cls:=.type "list",data:=.seq ([]:List Value).toArray } }:B2)=s3
 have I3:Inv X pins σ (upd H2 s2.heap.objs.size (.lst [])) s3:=by rw[<-hs3]; exact I3
 have sz3:s3.heap.objs.size=s2.heap.objs.size+1:=by rw[<-hs3]; exact IA ..
 have u23:Un (frs X.stack) [] H2 (upd H2 s2.heap.objs.size (.lst [])) s2.heap s3.heap:=by
  rw[<-hs3];exact Un.laid (λb o e=>Ap _ e) (Db _) hD
 have ho:s3.os=s2.os:=by rw[<-hs3]
 have st3:tn 0 s3.heap:=T.keep _ _ _ st2 λb _ o e=>by rw[<-hs3]; exact Ap _ e
 refine LH S.nocell (by intro y hy; simp at hy) (λh4 hns hsb=>?_) S.kind
 have lt3:∀b∈fp,b<s3.heap.objs.size:=λb hb=>Go (lt2 b hb) (by rw[sz3]; exact IX _)
 have I4:=je (tk:=s3.toks+([]:List (Str×Value)).length) I3 S f3 lt3 hns hsb;have old4:∀b o,s3.heap.get? b=some o->h4.get? b=some o:=λb o e=>(hsb.2 b (FC (DD e))).trans (Ap _ e)
 have st4:tn 0 h4:=T.keep _ _ _ st3 λb _ o e=>old4 b o e
 have h2:=h2 _ hD ⟨aM X.env.cells scope.names [],s3.heap.objs.size,fp,s3,upd H2 s2.heap.objs.size (.lst [])⟩;obtain⟨hg,hif,hel⟩:=hin ⟨aM X.env.cells scope.names [],s3.heap.objs.size,fp,s3,upd H2 s2.heap.objs.size (.lst [])⟩;have loop:Js (model X.prog X.w) X.A (.compLoop (.ListComp elt [⟨target,iter,ifs,0⟩] scope pos) 0 (.ref it) (.ref s2.heap.objs.size) (Ml scope (aM X.env.cells scope.names []) s3.heap.objs.size X.env))
   (QA (model X.prog X.w) X.A X.xe (some (Lz (.Name x pos') X.env)) (λ_ s'=>SP X pins Dn .next s') (.ref s2.heap.objs.size) s3.heap.objs.size) { s3 with heap:=h4,toks:=s3.toks+([]:List (Str×Value)).length }:=by
  refine jQ (X:=ay X scope (aM X.env.cells scope.names []) N s3.heap.objs.size fp s3 (upd H2 s2.heap.objs.size (.lst []))) (em:=(do let _ <-call (.builtin "list.append") [.ref s2.heap.objs.size,<-eval elt (Ml scope (aM X.env.cells scope.names []) s3.heap.objs.size X.env)]))
   (compTurn_list ..) (λ_ _ _ z=>z) rfl hc rfl hg hif (xN hel) T I4 st4 (λb hb=>?_) h2 (λτ' H' s' J' q=>?_)
  ·obtain⟨f0,f1,fs,fe,fc,fp'⟩:=f3 b hb
   refine⟨f0,FC (lt3 b hb),λz=>?_,.inl hb,λx c e=>fc x c (dN scope.names [] (λ_ _ z=>by simp at z) e),λp hp=>absurd (show p∈([]:List (Addr×Obj)) from hp) (by simp)⟩
   rcases lK (I3.iN b z) with z | z
   ·exact f1 z
   ·exact fs z
  ·obtain⟨m,hn,_⟩:=J'.loc
   have Io:Inv X pins σ H' s':=jf (h':=s'.heap) I2 f2 u23 ho (by rw[sz3]; exact IX _) J' (M6 ..)
   have Lne:X.env.locals≠s3.heap.objs.size:=FC I3.lt;have zR:∀y c,X.env.cells.lookup y=some c->c≠s3.heap.objs.size:=λy c e=>by
    obtain⟨v,z⟩:=I3.cell y c e;exact FC z.lt
   show wpAny (model X.prog X.w) X.A (Lz (.Name x pos') X.env (.ref s2.heap.objs.size)) _ X.xe s';refine wpAny_assign_Name (nQ (v:=.ref s2.heap.objs.size) Io hN hi' (.inl hx) rfl (λs5 I5 sb5=>?_) (.inr hx))
   obtain⟨b,sb,hb⟩:=sb5;have hbne:s3.heap.objs.size≠b:=by
    rcases hb with e | e
    ·rw[e]; exact Lne.symm
    ·exact(zR _ _ e).symm
   refine⟨m,hn.sameBut sb hbne,λh' sb'=>⟨_,H',?_,q⟩⟩
   refine I5.Dm (C:=s3.heap.objs.size) J'.free Lne.symm I3.sz zR (λp hp=>?_) sb'
   exact FC (DD (I3.pin p hp).1)
 exact Pc loop (T.self X.A 0 _ _ _ st4 loop)
end
section
variable{X:Cx}
theorem jo{prog:Fk}{w:World}{A:HN}{E:Value->B2->Prop}{s:B2}{t sl:Addr}{its:Array Value}{vl vu:Value}{lo hi:Option Int}{Q:Value->B2->Prop}(ht:IsTup s.heap t its)(hs:s.heap.IsSliceOf sl vl vu .none)(pl:Mo vl lo)(pu:Mo vu hi)
  (h0:HT.cJ its.size 0 lo=0) (h1:HT.cJ its.size its.size hi=its.size) (h:Q (.ref t) s):wpAny (model prog w) A (L4 (.ref t) (.ref sl)) Q E s:=by
 have T:s.TypeIs (.ref sl) "slice" := by obtain⟨o,a,b,_⟩:=id hs; exact⟨o,a,b⟩
 unfold L4
 first | with_reducible refine HW ?_ | skip
 first | refine AC (At ?_) | skip
 refine AC (NZ ht.typeIs (by decide) ?_)
 refine AC (II (name := "__getitem__") ht.typeIs IB (Hn IB ht.typeIs NB ?_ (NN _ _)));show wpAny _ _ (Ky (.ref t) >>= _) _ _ s;refine AC (Oz ht (AC (L0 T ?_)));rw[if_pos (by decide)]
 refine AC (HT.fR hs pl pu ?_);have c:(((HT.cJ its.size 0 lo:Nat):Int) == 0 && (1:Int) == 1 && (HT.cJ its.size its.size hi-HT.cJ its.size 0 lo) == its.size)=true:=by
  rw[h0,h1,Oe,beq_self_eq_true its.size]; rfl
 show wpAny _ _ (if (((HT.cJ its.size 0 lo:Nat):Int) == 0 && (1:Int) == 1 && (HT.cJ its.size its.size hi-HT.cJ its.size 0 lo) == its.size)=true then _ else _) _ _ s
 rw[if_pos c];refine AC (AC (L0 ht.typeIs (At ?_)));rw[if_pos (by decide)]
 first
  |exact AC (At (At ⟨_,rfl,At h⟩))
  |exact AC (Ii (At ⟨_,rfl,At h⟩))
  |exact Ii (At ⟨_,rfl,At h⟩)
  |trace_state
def rSlA(K:AT):V->Option Int->Option Int->Hp->VK->Prop:=λx lo hi H Q=>∃a xs,x=.ref a/\cI K H a xs/\∀r H',bA H H'->cI K H' r (kX xs lo hi)->Q (.ref r) H'
theorem AJ:Al X (rSlA X.K):=by
 intro pins s σ H x v vl vu lo hi sl Q I rx hs pl pu h;obtain⟨a,xs,rfl,hx,q⟩:=h
 by_cases hw:HT.cJ xs.length 0 lo=0/\HT.cJ xs.length xs.length hi=xs.length
 ·cases rx
  obtain⟨its,r,ht,hz⟩:=I.tuple hx;have hlen:its.toArray.size=xs.length:=by rw[Do]; exact r.length.symm
  refine⟨"tuple",_,IB.lookup,ht.typeIs,?_⟩;refine jo ht hs pl pu (by rw[hlen]; exact hw.1) (by rw[hlen]; exact hw.2) ⟨.ref a,H,I,rfl,q a H (λ_ _ z=>z) ?_⟩
  have e:kX xs lo hi=xs:=by unfold kX; rw[hw.1,hw.2,K5,Oe,Jc]
  rw[e]; exact hx
 ·exact CZ pins s σ H _ v vl vu lo hi sl Q I rx hs pl pu ⟨a,xs,rfl,hx,hw,λp hp=>q p _ (cU hp _) (cI.of aB)⟩
end
end L2
end
section
namespace L2
open PySem PySem.Spec PyProof.Rows PySem.W
section
variable{prog:Fk}{w:World}{A:HN}{E:Value->B2->Prop}{s:B2}
theorem kB{T:String}{r d:Addr}{n:Nat}{P:Nat->Value->Prop}{OK:Heap->Prop}{Q:List Value->B2->Prop}(K:KdlSrc prog w T r d n P OK)(hh:A.handled=none)(hok:OK s.heap)(hn:n<=FX)
  (hQ:∀h' tk acc,(∀b o,s.heap.get? b=some o->h'.get? b=some o)->s.heap.objs.size<h'.objs.size->ItemsOf P acc n->Q acc.toList { s with heap:=h',toks:=tk }):wpAny (model prog w) A (collect (.ref r)) Q E s:=by
 unfold collect;refine AC (Mg (JH PySem.F.entry_proto_collect ?_));rw[JG PySem.F.plain_proto_collect _];show wpAny _ A.in1 (newList [] >>= λl=>again (.builtin "list.__iadd__" ⟨[l,.ref r],[]⟩)) _ _ s
 refine AC (HQ ?_);refine At ⟨Ko Nr _,JH PySem.F.entry_list_iadd ?_⟩;rw[JG Nr _];have hlt:=K.there _ hok;have old:∀b o,s.heap.get? b=some o->(s.heap.push { cls:=.type "list",data:=.seq ([]:List Value).toArray }).get? b=some o:=λb o e=>Ap _ e
 have hok':OK (s.heap.push { cls:=.type "list",data:=.seq ([]:List Value).toArray }):=K.keep _ _ hok λb _ o e=>old b o e
 show wpAny _ A.in1 (Kw (.ref s.heap.objs.size) (.ref r) (.ref s.heap.objs.size)) _ _ _;refine kdl_extend (R:=λres s'=>match res with
  |.ok (.ret v)=>wpAny (model prog w) A (match v with
   |.ref a=>do
    let o <-load a
    match o.data with
     |.seq xs _=>pure xs.toList
     |_=>Mi "internal:collect"
   |_=>Mi "internal:collect") Q E s'
  |.ok _=>False
  |.error e=>E e s') (s:={ s with heap:=s.heap.push { cls:=.type "list",data:=.seq ([]:List Value).toArray } }) K hh hok' s.heap.objs.size (Kv hlt.1) (Kv hlt.2) (.ref s.heap.objs.size) 0 (Ee _ rfl) (λh' tk acc c hk hS hacc=>?_) hn
 show wpAny _ A (load s.heap.objs.size >>= _) _ _ _;refine AC (Qa hS ?_);exact At (hQ h' tk acc (λb o e=>hk b o (FC (DD e)) (old b o e)) (DD hS) hacc)
theorem sD{T:String}{r d:Addr}{n:Nat}{P:Nat->Value->Prop}{OK:Heap->Prop}{ns:List Int}{Q:Value->B2->Prop}(K:KdlSrc prog w T r d n P OK)(hh:A.handled=none)(hok:OK s.heap)(h64:n<64)
  (hP:∀acc,ItemsOf P acc n->JJ acc.toList ns)
  (h:∀(l:Addr)(h':Heap)(tk e:Nat)(out:Array Value)(ns':List Int),s.heap.objs.size<=l->(∀b o,s.heap.get? b=some o->h'.get? b=some o)->h'.get? l=some (Ik "list" out e)->JJ out.toList ns'->ns'.Perm ns->ns'.Pairwise (·<=·)->Q (.ref l) { s with heap:=h',toks:=tk }) :
  wpAny (model prog w) A (call (.builtin "sorted") [.ref r]) Q E s:=by
 refine KW OF Nk Nn (No _) ?_;unfold Il.«sorted»;refine AC (m:=OW "sorted" 1 1 _) (At ?_);refine AC (kB K hh hok (by rw[IC]; lia) λh1 tk acc kp lt1 hacc=>?_)
 have hsz:acc.toList.length=n:=by rw[Dx]; exact hacc.1
 refine AC (LD ?_ (by rw[IC]; lia))
 have hoL:(h1.push (Ik "list" acc.toList.toArray 0)).get? h1.objs.size=some (Ik "list" acc.toList.toArray 0):=Ee _ rfl;have le:s.heap.objs.size<=h1.objs.size:=JT lt1;show wpAny _ _ _ _ _ { s with heap:=h1.push (Ik "list" acc.toList.toArray 0),toks:=tk }
 refine AC (HW (Hn Mq ⟨_,hoL,rfl⟩ MT (list_sort_tree hoL (hP acc hacc) (by lia) λout ns' a1 a2 a3=>⟨_,rfl,?_⟩) (Ms _)))
 obtain⟨e,he⟩:=sortedHeap_at (out:=out) hoL;refine At ⟨_,rfl,h h1.objs.size _ tk e out ns' le (λb o q=>?_) he a1 a2 a3⟩
 have q1:=kp b o q;rw[sortedHeap_old (FC (DD q1)) (by rw[IA]; exact J8 (DD q1)),Ap _ q1]
end
theorem ur:∀{us:List Value}{ns:List Int},us.length=ns.length->(∀(j:Nat)(v:Value),us[j]? = some v->∃n t,ns[j]? = some n/\v=.int n t)->JJ us ns
 |[],[],_,_=>.nil
 |[],_::_,h,_=>by simp at h
 |_::_,[],h,_=>by simp at h
 |u::us,n::ns,h,q=>by
  obtain⟨m,t,e,rfl⟩:=q 0 u rfl;have e:n=m:=Fu e;subst e;exact .cons n t (ur (by simpa using h) λj v hv=>q (j+1) v hv)
theorem KV.at{κ:Type}{kvs:List (κ×V)}{vs:List (κ×Value)}(r:KV kvs vs):∀{j:Nat}{k:κ}{x:Value},vs[j]? = some (k,x)->∃y,kvs[j]? = some (k,y)/\RelV y x:=by
 induction r with
 |nil=>intro j k x h; simp at h
 |@cons a b as bs r1 t ih=>
  intro j k x h;cases j with
  |zero=>
   have h:b=(k,x):=Fu h;subst h;obtain⟨k',y⟩:=a;obtain⟨e,r2⟩:=r1;have e:k'=k:=e;subst e;exact⟨y,rfl,r2⟩
  |succ j=>exact ih (by simpa using h)
section
variable{X:Cx}
theorem fV(hc:X.calm=true):bY X (.builtin "sorted") (λxs H Q=>∃a kvs ns,xs=[.ref a]/\H a=some (.dK kvs)/\kvs.map (·.1)=ns.map Kr/\ns.length<64/\∀(ns':List Int)l,ns'.Perm ns->ns'.Pairwise (·<=·)->H l=none->Q (.ref l) (upd H l (.lst (ns'.map V.int)))):=by
 intro pins s σ H xs us Q I r h;obtain⟨a,kvs,ns,rfl,hq,ek,h64,q⟩:=h;obtain⟨u,rfl,rx⟩:=vals1 r;cases rx;obtain⟨hz,hS,vs,rv,m⟩:=uf I.hok hq;obtain⟨ep,hm⟩:=m.dictAt;have ln:kvs.length=ns.length:=by
  have:=congrArg MJ ek;rw[D1,D1] at this;exact this
 have lv:=rv.length;refine sD (ns:=ns) (kdl_dict (knd:=aV X.prog X.w) (kvs:=vs) (ep:=ep) hS) (I.ok.hd hc) hm (by lia) (λacc hacc=>ur (by rw[Dx,hacc.1]; lia) λj v hv=>?_) λl h' tk e out ns' hl kp he hI pm srt=>?_
 ·obtain⟨k,x,hkx,hk⟩:=hacc.2 j v (by rw[<-H9]; exact hv)
  obtain⟨y,hy,_⟩:=rv.at hkx;have e1:(kvs.map (·.1))[j]? = some k:=by rw[HL,hy]; rfl
  rw[ek,HL] at e1;obtain⟨n,hn,rfl⟩:=Jn.mp e1;have hk:kg (Kr n) v=true:=hk;rcases bf hk with⟨i,t,e2,rfl⟩ | ⟨z,t,e2,_⟩
  ·cases e2
   exact⟨n,t,hn,rfl⟩
  ·cases e2
 ·have hv:Vals (ns'.map V.int) out.toList:=by
   clear he pm srt
   generalize out.toList=os at hI
   induction hI with
   |nil=>exact .nil
   |cons n t _ ih=>exact .cons ⟨_,rfl⟩ ih
  have hlen:(ns'.map V.int).length<=FX:=by
   rw[D1,pm.length_eq,IC]; lia
  refine⟨.ref l,_,I.laid (t':=tk) (a:=l) (o:=.lst (ns'.map V.int)) kp hl ?_,rfl,q ns' _ pm srt (I.hok.fresh hl)⟩;refine⟨hlen,out.toList,e,hv,?_⟩;rw[he]
end
end L2
end
section
namespace L2
open PySem PySem.Spec PyProof.Rows
theorem vY{prog:Fk}{w:World}{A:HN}(hh:A.handled=none)(it l:Addr)(hne:l≠it)(its:Array Value) :
  Draws prog w A it [it,l] its.size (λi v=>its[i]? = some v) (λi h=>h.IsTupleIter it l i/\h.IsTuple l its) where
 live:=λ_ _ st=>let ⟨o,ho,_⟩:=st.1; ⟨o,ho⟩
 frame:=λ_ _ _ st hk=>⟨st.1.at λo e=>hk it (by simp) o e,by obtain⟨o,e,r⟩:=st.2; exact⟨o,hk l (by simp) o e,r⟩⟩
 item:=λi s Q E hi st hQ=>by
  refine kK st.1 st.2 (v:=its[i]) (by simp[hi]) λg hit hs=>?_
  refine hQ _ g s.toks (by simp[hi]) ⟨hit,?_⟩ hs
  obtain⟨o,e,r⟩:=st.2;exact⟨o,(hs.2 l hne).trans e,r⟩
 done:=λs Q E st hE=>pP hh st.1 st.2 (by simp) hE
section
variable{prog:Fk}{w:World}{A:HN}{E:Value->B2->Prop}{s:B2}
theorem vZ{e it l:Addr}{k:Nat}{its:Array Value}{old:Value}{Q:Option Value->B2->Prop}(hh:A.handled=none)(he:IsEnum s.heap e it k old)(hit:s.heap.IsTupleIter it l k)(hl:s.heap.IsTuple l its)(hv:its[k]? = none)
  (hQ:∀h',On it s.heap h'->Q none { s with heap:=h' }):wpAny (model prog w) A (L1 (.ref e)) Q E s:=by
 have hT:s.TypeIs (.ref e) "enumerate" := ⟨_,he,rfl⟩;unfold L1;refine AC (LF (II (name := "__next__") hT PK (Hn PK hT F.entry_enumerate_next ?_ (F.args_enumerate_next_1 _))));show wpAny _ _ (field (.ref e) 2 >>= _) _ _ _;refine AC (Ia he rfl (x:=.ref it) rfl ?_);refine AC (pP hh hit hl hv λh' x he' hx' =>?_)
 obtain⟨o,ho,hc⟩:=hx';refine AC (MB (T := "StopIteration") (b:=true) ⟨o,ho,hc⟩ OV ?_);exact At (hQ _ he')
noncomputable def qI(h:Heap)(l:Addr):Heap:=(h.push { cls:=.type "tuple_iterator",data:=.fields #[.ref l,.int 0 0] }).push { cls:=.type "enumerate",data:=.fields #[.none,.bool false,.ref h.objs.size,Ll 0,.none,.none] }
theorem v5(l:Addr)(its:Array Value):Meets (Il.«enumerate.__new__» ⟨[.type "enumerate",.ref l],[]⟩) (λ_ R s=>s.heap.IsTuple l its/\R (.ok (.ret (.ref (s.heap.push { cls:=.type "tuple_iterator",data:=.fields #[.ref l,.int 0 0] }).objs.size))) { s with heap:=qI s.heap l }) :=
 .of_wp λprog w A R s h=>by
  obtain⟨hp,g,d,tk,os⟩:=s;obtain⟨h1,h⟩:=h;have hsub:=sub_enumerate;have k1:OO (ON ⟨hp,g,d,tk,os⟩) l its:=h1;obtain⟨ob,hl,_,n,hd⟩:=id h1
  wp_walk using J5 hl
  refine wpAny_stack_any λst=>At ?_
  split
  ·rename_i c _ _ _ _ _
   cases (c == Kx "enumerate")
   ·wp_walk using J5 hl,Ji k1
    exact⟨_,rfl,h⟩
   ·wp_walk using J5 hl,Ji k1
    exact⟨_,rfl,h⟩
  ·wp_walk using J5 hl,Ji k1
   exact⟨_,rfl,h⟩
theorem sE{l:Addr}{its:Array Value}{Q:Value->B2->Prop}(hl:s.heap.IsTuple l its)
  (h:∀g,IsEnum g (s.heap.objs.size+1) s.heap.objs.size 0 .none->g.IsTupleIter s.heap.objs.size l 0->(∀b o,s.heap.get? b=some o->g.get? b=some o)->Q (.ref (s.heap.objs.size+1)) { s with heap:=g }) :
  wpAny (model prog w) A (call (.type "enumerate") [.ref l]) Q E s:=by
 refine callType_new F.called_enumerate (by decide) (F.typeCall_enumerate_1 _) (F.newCall_enumerate_1 _) (λobj=>F.args_object_init_2 obj _) F.entry_enumerate_new (v5 l its) ⟨hl,?_⟩
 unfold qI;generalize e1:s.heap.push { cls:=.type "tuple_iterator",data:=.fields #[.ref l,.int 0 0] }=g1;have z1:g1.objs.size=s.heap.objs.size+1:=by rw[<-e1]; exact IA ..
 have i1:g1.get? s.heap.objs.size=some { cls:=.type "tuple_iterator",data:=.fields #[.ref l,.int 0 0] }:=by rw[<-e1]; exact Ee _ rfl
 have k1:∀c o,s.heap.get? c=some o->g1.get? c=some o:=λc o e=>by rw[<-e1]; exact Ap _ e
 generalize e2:g1.push { cls:=.type "enumerate",data:=.fields #[.none,.bool false,.ref s.heap.objs.size,Ll 0,.none,.none] }=g2;have i2:g2.get? (s.heap.objs.size+1)=some { cls:=.type "enumerate",data:=.fields #[.none,.bool false,.ref s.heap.objs.size,Ll 0,.none,.none] }:=by rw[<-e2,<-z1]; exact Ee _ rfl
 have k2:∀c o,g1.get? c=some o->g2.get? c=some o:=λc o e=>by rw[<-e2]; exact Ap _ e
 rw[z1];exact⟨⟨_,i2,rfl⟩,h _ i2 ⟨_,k2 _ _ i1,rfl,rfl⟩ λc o e=>k2 _ _ (k1 _ _ e)⟩
end
noncomputable def G4(K:AT)(a:Addr):It :=
  ⟨λi H=>∃xs x,cI K H a xs/\xs[i]? = some x,
   λi H v H'=>∃p x,H p=none/\v=.ref p/\H'=upd H p (.tup [.int i,x])/\∀xs,cI K H a xs->xs[i]? = some x,
   λi H=>∃xs,cI K H a xs/\xs.length<=i⟩
theorem v7{P:Fk}{w:World}{K:AT}{es:List Expr}{k:Nat}{pos:Pos}{e it a:Addr}(hei:e≠it)(hai:a≠it)(hae:a≠e):Turn P w K (.Tuple es k pos) (G4 K a) [e,it] e (λn h=>(∃old,IsEnum h e it n old)/\h.IsTupleIter it a n) where
 mem:=by simp
 obj:=λn h st c hc=>by
  simp only[Hk,HH,or_false] at hc;rcases hc with rfl | rfl
  ·obtain⟨old,he⟩:=st.1; exact⟨_,he,λv e=>nomatch e⟩
  ·obtain⟨o,e,_,d⟩:=st.2; exact⟨o,e,λv t=>by rw[d] at t; cases t⟩
 keep:=λn h h' st kp=>⟨by obtain⟨old,he⟩:=st.1; exact⟨old,kp e (by simp) _ he⟩,st.2.at λo x=>kp it (by simp) o x⟩
 item:=by
  intro X hP hw hK hc n pins s σ H E I hf st hg;subst hP hw hK;obtain⟨xs,x,qa,hx⟩:=hg;obtain⟨ia,ra,ta,_⟩:=I.tuple qa;obtain⟨u,hu,ru⟩:=ra.get hx;obtain⟨⟨old,he⟩,hit⟩:=st;have hn:n<ia.toArray.size:=by
   rw[Do];exact(Da.mp hu).1
  refine wpAny_pyNext_enum_itemD (vY (A:=X.A.in1) (I.ok.hd hc) it a hai ia.toArray) he ⟨hit,ta⟩ hn hei (by simp only[Hk,HH,or_false,not_or]; exact⟨hei,hae.symm⟩) λv g tk hPv ho st' gt hsz kp=>?_
  have hv:v=u:=by
   have h1:ia.toArray[n]? = some v:=hPv;have h2:ia.toArray[n]? = some u:=by simpa using hu
   rw[h1] at h2; exact Fu h2
  subst hv;refine⟨_,rfl,wpAny_letOwnedTupleGo_enum (s:={ s with heap:=g,toks:=tk+1 }) ho λg' he' sb=>?_⟩
  have ne:∀c o,s.heap.get? c=some o->c≠s.heap.objs.size:=λc o e=>FC (DD e)
  have t':g'.get? s.heap.objs.size=some { cls:=.type "tuple",data:=.seq #[.int n tk,v] }:=(sb.2 _ (ne e _ he).symm).trans gt;have f:=I.hok.fresh (Db s.heap.objs.size);have free:∀c∈[e,it],H c=none:=λc hc=>(hf c hc).1
  have kp':∀c o,c∉[e,it]->s.heap.get? c=some o->g'.get? c=some o:=λc o hc x=>(sb.2 c (λt=>hc (by simp[t]))).trans (kp c o (λt=>hc (by simp[t])) (λt=>hc (by simp[t])) x)
  have tracked:∀c o,H c=some o->c∉[e,it]:=λc o x hc=>by rw[free c hc] at x; cases x
  have hok:iC X.prog X.w (upd H s.heap.objs.size (.tup [.int n,x])) g':=λc o q=>by
   by_cases hc:c=s.heap.objs.size
   ·subst hc
    rw[aB] at q;cases q;exact⟨by rw[IC]; show 2<=_; lia,[.int n tk,v],.cons ⟨_,rfl⟩ (.cons ru .nil),_,t',rfl,0,rfl⟩
   ·rw[aA hc] at q
    refine(I.hok c o q).stay (λd o' hd e'=>kp' d o' ?_ e') (λd e'=>by rw[aA (aN e' f)]; exact e') λd xs e'=>by rw[aA (aN e' f)]; exact e'
    rcases hd with rfl | hd
    ·exact tracked _ _ q
    ·exact tracked _ _ hd
  have I':Inv X pins σ (upd H s.heap.objs.size (.tup [.int n,x])) { s with heap:=g',toks:=tk+1 }:=by
   refine I.step (g':=s.gens) (t':=tk+1) (d':=s.drawn) (ch:=[e,it]) (λc hc=>?_) (λc o _ _ hc x _=>kp' c o hc x) (λc o _ _ hc x _=>⟨o.slots,kp' c o hc x⟩) (λc o hc x n=>by rw[aA (ne c o x)]; exact n)
    (λc o hc x=>⟨o,kp' c o hc x⟩) (λc xs x=>by rw[aA (aN x f)]; exact x) (λc o u x=>by rw[aA (aN x f)]; exact x) (λc ps x=>⟨#[],by rw[aA (aN x f),x]; simp⟩) (λm hm=>?_) hok I.bare
   ·obtain⟨_,f1,_,f3,f4,f5⟩:=hf c hc
    exact⟨f3,f1,f4,f5⟩
   ·obtain⟨o,es',ep,ho,r⟩:=hm
    exact⟨o,es',ep,kp' _ o (λhc=>(hf _ hc).2.1 rfl) ho,r⟩
  refine⟨.ref s.heap.objs.size,_,I',rfl,⟨_,x,f,rfl,rfl,λzs hz=>by rw[I.ie hz qa]; exact hx⟩,⟨⟨v,?_⟩,st'.1.at λo x=>(sb.2 _ hei.symm).trans x⟩,λc hc=>?_⟩
  ·have:=he'
   rw[show ((n:Int)+1)=((n+1:Nat):Int) by lia] at this
   exact this
  ·rw[aA]
   ·exact free c hc
   ·simp only[Hk,HH,or_false] at hc
    rcases hc with rfl | rfl
    ·exact ne _ _ he
    ·obtain⟨_,x,_⟩:=hit; exact ne _ _ x
 done:=by
  intro X hP hw hK hc n pins s σ H E I hf st hg;subst hP hw hK;obtain⟨xs,qa,hl⟩:=hg;obtain⟨ia,ra,ta,_⟩:=I.tuple qa;have la:=ra.length;obtain⟨⟨old,he⟩,hit⟩:=st;refine vZ (I.ok.hd hc) he hit ta (by simp; lia) λg kx=>⟨rfl,?_⟩
  have kp:∀c o,c∉[e,it]->s.heap.get? c=some o->g.get? c=some o:=λc o hc x=>kx c o (λt=>hc (by simp[t])) x
  have tracked:∀c o,H c=some o->c∉[e,it]:=λc o x hc=>by rw[(hf c hc).1] at x; cases x
  refine I.step (g':=s.gens) (t':=s.toks) (d':=s.drawn) (ch:=[e,it]) (λc hc=>?_) (λc o _ _ hc x _=>kp c o hc x) (λc o _ _ hc x _=>⟨o.slots,kp c o hc x⟩) (λc o hc x n=>n)
   (λc o hc x=>⟨o,kp c o hc x⟩) (λc xs x=>x) (λc o u x=>x) (λc ps x=>⟨#[],by rw[x]; simp⟩) (λm hm=>?_) (λc o q=>?_) I.bare
  ·obtain⟨_,f1,_,f3,f4,f5⟩:=hf c hc
   exact⟨f3,f1,f4,f5⟩
  ·obtain⟨o,es',ep,ho,r⟩:=hm
   exact⟨o,es',ep,kp _ o (λhc=>(hf _ hc).2.1 rfl) ho,r⟩
  ·refine(I.hok c o q).stay (λd o' hd e'=>kp d o' ?_ e') (λd e'=>e') λd xs e'=>e'
   rcases hd with rfl | hd
   ·exact tracked _ _ q
   ·exact tracked _ _ hd
 self:=λ_ _ _ _ _ st h=>by obtain⟨⟨old,he⟩,_⟩:=st; exact wpAny_pyIter_enum he h
section
variable{X:Cx}
noncomputable def iEnum(K:AT)(ta:TA):TI:=λσ H R=>ta σ H λvs H1=>∃a,vs=[.ref a]/\(∃xs,cI K H1 a xs)/\R (G4 K a) H1
theorem AK{a:Expr}{ta:TA}{p pos tp:Pos}{es:List Expr}{k:Nat}(hg:Gl X "enumerate")(hm:X.mg "enumerate" = none)(ha:PA X [a] ta)(hs:FK [a] X.env=[(false,eval a X.env)]:=by rfl) :
  PI X (.Tuple es k tp) (.Call (.Name "enumerate" p) [a] [] pos) (iEnum X.K ta):=by
 intro pins s σ H R I h;refine Call_ (eB I hg hm boot_enumerate (JA (aZ (ha pos pins s σ H _ I h) λus s1 ⟨vs,H1,I1,r1,q1⟩=>?_) hs rfl))
 obtain⟨a',e,⟨xs,qa⟩,q⟩:=q1;subst e;obtain⟨u,rfl,ru⟩:=vals1 r1;cases ru;obtain⟨ia,ra,ta',_⟩:=I1.tuple qa;refine sE ta' λg ge gi kp=>?_
 refine wpAny_pyIter_enum (s:={ s1 with heap:=g }) ge ?_
 have la:a'<s1.heap.objs.size:=by obtain⟨_,e,_⟩:=ta'; exact DD e
 have fr:∀c,s1.heap.objs.size<=c->gG X pins H1 c:=λc hc=>I1.vn hc (I1.hok.fresh hc)
 refine⟨_,_,_,_,H1,rfl,I1.kept (t':=s1.toks) kp,v7 (Nat.succ_ne_self _) (FC la) (FC (J8 la)),⟨⟨_,ge⟩,gi⟩,λc hc=>?_,q⟩
 simp only[Hk,HH,or_false] at hc;rcases hc with h | h
 ·exact h▸fr _ (IX _)
 ·exact h▸fr _ (Db _)
end
theorem x8{α β:Type}{f:α->Option β}{g:α->β}:∀{l:List α},(∀m∈l,f m=some (g m))->l.filterMap f=l.map g
 |[],_=>rfl
 |x::l,h=>by
  rw[Jp,h x lS,GM,x8 λm hm=>h m (lO _ hm)]
theorem x9(xs:Array Value):((Fa xs.size).filterMap λ(m:Nat)=>xs[(((xs.size:Int)-1)+(m:Int)*(-1)).toNat]?)=xs.toList.reverse:=by
 have h:(Fa xs.size).filterMap (λ(m:Nat)=>xs[(((xs.size:Int)-1)+(m:Int)*(-1)).toNat]?)=(Fa xs.size).map λm=>xs.toList.getD (xs.size-1-m) .none:=by
  refine x8 λm hm=>?_
  rw[Iq] at hm;have e1:(((xs.size:Int)-1)+(m:Int)*(-1)).toNat=xs.size-1-m:=by lia
  rw[e1,Fs,H9,Array.getElem?_eq_getElem (by lia)]
  rfl
 rw[h];refine KN λi=>?_
 by_cases hi:i<xs.size
 ·rw[HL,K2 hi,Oi (by rw[Dx]; exact hi),Dx]
  show some (xs.toList.getD (xs.size-1-i) .none)=_;rw[Fs,Bi (by rw[Dx]; lia)]
  rfl
 ·rw[JC (by rw[D1,IV]; lia),JC (by rw[LC,Dx]; lia)]
section
variable{prog:Fk}{w:World}{A:HN}{E:Value->B2->Prop}{s:B2}
theorem jq{t sl:Addr}{its:Array Value}{tk:Tok}{Q:Value->B2->Prop}(ht:IsTup s.heap t its)(hs:s.heap.IsSliceOf sl .none .none (.int (-1) tk))(hz:its.size<=FX)
  (h:Q (.ref s.heap.objs.size) { s with heap:=s.heap.push { cls:=.type "tuple",data:=.seq its.toList.reverse.toArray } }):wpAny (model prog w) A (L4 (.ref t) (.ref sl)) Q E s:=by
 obtain⟨os,hos,hcs,hds⟩:=id hs;have T:s.TypeIs (.ref sl) "slice" := ⟨os,hos,hcs⟩;have htake:sizeOk (.seq its.toList.reverse.toArray):=by
  show its.toList.reverse.toArray.size<=FX;rw[Do,LC,Dx]; exact hz
 unfold L4
 first | with_reducible refine HW ?_ | skip
 first | refine AC (At ?_) | skip
 refine AC (NZ ht.typeIs (by decide) ?_)
 refine AC (II (name := "__getitem__") ht.typeIs IB (Hn IB ht.typeIs NB ?_ (NN _ _)));show wpAny _ _ (Ky (.ref t) >>= _) _ _ s;refine AC (Oz ht (AC (L0 T ?_)));rw[if_pos (by decide)]
 have ap:∀{Q':Int×Int×Nat->B2->Prop},Q' ((its.size:Int)-1,-1,its.size) s->wpAny (model prog w) A.in1 (KB (.ref sl) (pure (its.size:Int))) Q' E s:=by
  intro Q' hq;unfold KB Mb;refine AC (AC (Ia hos hds (x:=.none) rfl (AC (Ia hos hds (x:=.none) rfl (AC (Ia hos hds (x:=.int (-1) tk) rfl (At ?_)))))));refine AC (slicePart_int ?_);show wpAny _ _ (if ((-1:Int) == 0)=true then _ else _) _ _ s
  rw[if_neg (by decide)]
  refine AC (Mr (AC (Mr (AC (At ?_)))));have e:Ij ((its.size:Int)-1) (-1) (-1)=its.size:=by
   unfold Ij;rw[if_neg (by decide),show (-(-1:Int))=1 from rfl,Int.ediv_one]
   split <;> lia
  show wpAny _ _ (pure ((its.size:Int)-1,(-1:Int),Ij ((its.size:Int)-1) (-1) (-1))) _ _ s;rw[e];exact At hq
 refine AC (ap ?_);have c:¬ ((((its.size:Int)-1) == 0 && (-1:Int) == 1 && its.size == its.size)=true):=by
  rw[show ((-1:Int) == 1)=false from rfl,ML,QZ]; exact IZ
 show wpAny _ _ (if (((its.size:Int)-1) == 0 && (-1:Int) == 1 && its.size == its.size)=true then _ else _) _ _ s
 rw[if_neg c,x9]
 first
  |exact AC (m:=Iv _) (HQ (At ⟨_,rfl,At h⟩) htake)
  |exact AC (m:=Iv _) (HQ (AC (At (At ⟨_,rfl,At h⟩))) htake)
  |exact AC (AC (m:=Iv _) (HQ (At (At ⟨_,rfl,At h⟩)) htake))
end
section
variable{X:Cx}
noncomputable def tRev(K:AT)(te ts:TE):TE:=λσ H Q=>te σ H λx H1=>ts σ H1 λy H2=>∃a xs,x=.ref a/\y=.int (-1)/\cI K H2 a xs/\∀p,H2 p=none->Q (.ref p) (upd H2 p (.tup xs.reverse))
theorem pR{xs:List V}{us:List Value}(r:Vals xs us):Vals xs.reverse us.reverse:=by
 induction r with
 |nil=>exact .nil
 |cons h t ih=>
  rw[Lf,Lf];exact ih.append (.cons h .nil)
theorem Dq{e st:Expr}{te ts:TE}{pos p2:Pos}(he:PE X e te)(hs:PE X st ts):PE X (.Subscript e (.Slice none none (some st) p2) pos) (tRev X.K te ts):=by
 intro pins s σ H Q I h;refine Oc (aZ (he pins s σ H _ I h) λv s1 ⟨x,H1,I1,r1,q1⟩=>?_)
 refine wpAny_Slice ?_;rw[Os];refine At ?_;refine At ?_;rw[evalPart_some];refine aZ (hs pins s1 σ H1 _ I1 q1) λu s2 ⟨y,H2,I2,r2,a,xs,ex,ey,hx,q⟩=>?_
 subst ex ey;obtain⟨tk,rfl⟩:=r2;cases r1;have I4:Inv X pins σ H2 { s2 with heap:=s2.heap.push { cls:=.type "slice",data:=.fields #[.none,.none,.int (-1) tk] } }:=I2.kept (t':=s2.toks) λb ob q=>Ap _ q
 obtain⟨its,r,ht,hz⟩:=I4.tuple hx;have hlen:its.toArray.size=xs.length:=by rw[Do]; exact r.length.symm
 have hg:wpAny (model X.prog X.w) X.A (L4 (.ref a) (.ref s2.heap.objs.size)) (EP X pins σ Q) X.xe { s2 with heap:=s2.heap.push { cls:=.type "slice",data:=.fields #[.none,.none,.int (-1) tk] } }:=by
  refine jq ht (NU ..) (by rw[hlen]; exact hz) ?_
  refine⟨.ref _,_,I4.laid (t':=s2.toks) (o:=.tup xs.reverse) (λb ob q=>Ap _ q) (Db _) ?_,rfl,q _ (I4.hok.fresh (Db _))⟩
  exact⟨by rw[LC]; exact hz,_,pR r,NC _ _⟩
 show wpAny (model X.prog X.w) X.A (NI e (.Slice none none (some st) p2) (.ref a) (.ref s2.heap.objs.size)) (EP X pins σ Q) X.xe { s2 with heap:=s2.heap.push { cls:=.type "slice",data:=.fields #[.none,.none,.int (-1) tk] } }
 exact tail_any (ops:=[.ref a,.ref s2.heap.objs.size]) ht.typeIs IB.lookup hg (by with_unfolding_all rfl)
end
section
variable{prog:Fk}{w:World}{A:HN}{E:Value->B2->Prop}{s:B2}
theorem qJ{l:Addr}{vs:List Value}{Q:List Value->B2->Prop}(hl:IsTup s.heap l vs.toArray)(hsz:vs.length<=FX)
  (h:Q vs { s with heap:=(s.heap.push (Ik "list" #[] 0)).update s.heap.objs.size (Ir (· ++ vs.toArray)) }):wpAny (model prog w) A (collect (.ref l)) Q E s:=by
 obtain⟨o,ho,hc,n,hd⟩:=id hl;unfold collect;refine AC (Mg (JH entry_proto_collect' ?_));show wpAny _ _ (do again (.builtin "list.__iadd__" ⟨[<-newList [],.ref l],[]⟩)) _ _ s
 refine AC (LD (At ⟨PL _ (by decide +kernel),JH entry_list_iadd' ?_⟩))
 show wpAny _ _ (Kw (.ref s.heap.objs.size) (.ref l) (.ref s.heap.objs.size)) _ _ { s with heap:=s.heap.push (Ik "list" #[] 0) }
 unfold Kw;have ho':(s.heap.push (Ik "list" #[] 0)).get? l=some o:=Ap _ ho;refine AC (L0 (T := "tuple") ⟨o,ho',hc⟩ ?_);rw[if_pos (by rw[show (Kx "tuple" == Kx "tuple")=true from rfl]; simp)]
 refine AC (Pk ho' hd (AC (Pk (xs:=#[]) (n:=0) (Ee _ rfl) rfl ?_)));rw[if_neg (by simp)]
 refine AC (NJ (xs:=#[]) (n:=0) (Ee _ rfl) rfl ?_ (HS _) (by show (#[]++vs.toArray).size<=FX+1; simp only[Array.size_append,Do,Ic]; lia))
 refine At ?_;show wpAny (model prog w) A (do
   let o <-load s.heap.objs.size
   match o.data with
   |.seq xs _=>pure xs.toList
   |_=>Mi "internal:collect") Q E { s with heap:=(s.heap.push (Ik "list" #[] 0)).update s.heap.objs.size (Ir (· ++ vs.toArray)) }
 refine AC (Qa (get?_update_seq (Ee _ rfl) _) ?_);show wpAny _ _ (pure ((#[]:Array Value)++vs.toArray).toList) Q E _;rw[show ((#[]:Array Value)++vs.toArray).toList=vs by simp]
 exact At h
theorem sF{l:Addr}{vs:List Value}{ns:List Int}{Q:Value->B2->Prop}(hl:IsTup s.heap l vs.toArray)(hI:JJ vs ns)(h64:vs.length<64)
  (h:∀(out:Array Value)(ns':List Int),JJ out.toList ns'->ns'.Perm ns->ns'.Pairwise (·<=·)->Q (.ref (s.heap.objs.size+1)) { s with heap:=sortedAll s.heap vs out }) :
  wpAny (model prog w) A (call (.builtin "sorted") [.ref l]) Q E s:=by
 refine KW OF Nk Nn (No _) ?_;unfold Il.«sorted»;refine AC (m:=OW "sorted" 1 1 _) (At ?_);refine AC (qJ hl (by rw[IC]; lia) ?_)
 refine AC (LD ?_ (by rw[IC]; lia))
 have hsz:((s.heap.push (Ik "list" #[] 0)).update s.heap.objs.size (Ir (· ++ vs.toArray))).objs.size=s.heap.objs.size+1:=by rw[Lq,Qn]
 have hoL:(((s.heap.push (Ik "list" #[] 0)).update s.heap.objs.size (Ir (· ++ vs.toArray))).push (Ik "list" vs.toArray 0)).get? (s.heap.objs.size+1)=some (Ik "list" vs.toArray 0):=by
  rw[<-hsz]; exact Ee _ rfl
 show wpAny _ _ _ _ _ { s with heap:=((s.heap.push (Ik "list" #[] 0)).update s.heap.objs.size (Ir (· ++ vs.toArray))).push (Ik "list" vs.toArray 0) }
 rw[hsz];refine AC (HW (Hn Mq ⟨_,hoL,rfl⟩ MT (list_sort_tree hoL hI h64 λout ns' a1 a2 a3=>⟨_,rfl,?_⟩) (Ms _)))
 exact At ⟨_,rfl,h out ns' a1 a2 a3⟩
end
section
variable{X:Cx}
theorem jU:bY X (.builtin "sorted") (λxs H Q=>∃p ns,xs=[.ref p]/\cI X.K H p (ns.map V.int)/\ns.length<64/\∀(ns':List Int)l,ns'.Perm ns->ns'.Pairwise (·<=·)->H l=none->Q (.ref l) (upd H l (.lst (ns'.map V.int)))):=by
 intro pins s σ H xs us Q I r h;obtain⟨p,ns,rfl,hq,h64,q⟩:=h;obtain⟨u,rfl,rx⟩:=vals1 r;cases rx;obtain⟨its,rv,pl,hz⟩:=I.tuple hq;have hI:=intsAre_of rv;have hl:=rv.length;rw[D1] at hl;refine sF pl hI (by lia) λout ns' ho hp hs=>?_
 obtain⟨e,he⟩:=Pj s.heap its out;have hv:Vals (ns'.map V.int) out.toList:=by
  clear he hp hs
  generalize out.toList=os at ho
  induction ho with
  |nil=>exact .nil
  |cons n t _ ih=>exact .cons ⟨_,rfl⟩ ih
 have hlen:(ns'.map V.int).length<=FX:=by rw[D1,hp.length_eq,IC]; lia
 refine⟨.ref (s.heap.objs.size+1),_,I.laid (t':=s.toks) (a:=s.heap.objs.size+1) (o:=.lst (ns'.map V.int)) (λb u e=>P5 e) (IX _) ?_,rfl,q ns' _ hp hs (I.hok.fresh (IX _))⟩
 refine⟨hlen,out.toList,e,hv,?_⟩;rw[he]
end
end L2
end
section
namespace HT
open PySem PySem.Spec PyProof.Rows
noncomputable def fu:List Int->List Int->Bool
 |[],[]=>true
 |[],_::_=>false
 |_::_,[]=>true
 |x::xs,y::ys=>if x=y then fu xs ys else decide (x>=y)
theorem lF(x y:Int)(xs ys:List Int):fu (x::xs) (y::ys)=if x=y then fu xs ys else decide (x>=y):=rfl
theorem nH:fu [] []=true:=rfl
theorem lG(y:Int)(ys:List Int):fu [] (y::ys)=false:=rfl
theorem lH(x:Int)(xs:List Int):fu (x::xs) []=true:=rfl
theorem om:∀(xs ys:List Int),fu xs ys = !lexLt xs ys
 |[],[]=>rfl
 |[],_::_=>rfl
 |_::_,[]=>rfl
 |x::xs,y::ys=>by
  rw[lF,cO]
  by_cases e:x=y
  ·rw[if_pos e,if_pos e]; exact om xs ys
  ·rw[if_neg e,if_neg e]
   by_cases h:x<y
   ·rw[decide_eq_true h,decide_eq_false (by lia)]; rfl
   ·rw[decide_eq_false h,decide_eq_true (by lia)]; rfl
theorem ya(A:HN)(s:B2)(a:Int)(t:Tok)(c:Int)(u:Tok)(prog:Fk)(w:World)(E:Value->B2->Prop)(Q:Value->B2->Prop)(h:Q (.bool (decide (a>=c))) s) :
  wpAny (model prog w) A (Q7 .GtE (.int a t) (.int c u)) Q E s:=(QT h:wpAny (model prog w) A (IG .GtE (.int a t) (.int c u)) Q E s)
section
open PySem.SeqAt
open PySem.AutoSeq1 (wpAny_loadPart')
open PySem.MeetsSeq PySem.MeetsSeq2 PySem.MeetsSeq3
theorem nI(l b:Addr)(items items2:Array Value)(n n2:Nat)(dd dd2:Option Addr)(sl sl2:Array (Option Value))(ns ms:List Int)(hi:JJ items.toList ns)(hj:JJ items2.toList ms) :
  Meets (Il.«tuple.__ge__» ⟨[.ref l,.ref b],[]⟩)
   (λ_ R s=>s.heap.get? l=some { cls:=.type "tuple",dict:=dd,data:=.seq items n,slots:=sl }/\s.heap.get? b=some { cls:=.type "tuple",dict:=dd2,data:=.seq items2 n2,slots:=sl2 } /\
    R (.ok (.ret (.bool (fu ns ms)))) s) :=
 .of_wp λprog w A R s h=>by
  obtain⟨hp,g,d,tk,os⟩:=s; obtain⟨hl,hb,h⟩:=h;have f2:=NV;have z1:items.size=ns.length:=by rw[<-hi.length]; simp
  have z2:items2.size=ms.length:=by rw[<-hj.length]; simp
  wp_walk using J5 hl,J5 hb,LA _ (λrest b s'=>b.1=none/\s'=⟨hp,g,d,tk,os⟩/\∃ (vs ws:List Value) (ns' ms':List Int),rest=vs.zip ws /\
   JJ vs ns'/\JJ ws ms'/\ns'.length+items2.size=ms'.length+items.size/\R (.ok (.ret (.bool (fu ns' ms')))) ⟨hp,g,d,tk,os⟩) _
  case turn=>
   rintro⟨y,x⟩ rest b s' ⟨hb',rfl,vs,ws,ns',ms',hz,hvi,hwi,hlen,hR⟩;cases hvi with
   |nil=>rw[Pq] at hz; cases hz
   |cons a t hvi' =>
    cases hwi with
    |nil=>rw[PR] at hz; cases hz
    |cons c u hwi' =>
     rw[Jb] at hz
     injection hz with hyx hrest
     injection hyx with hy hx
     subst hy hx;rw[lF] at hR;simp only[Bn] at hlen;obtain⟨e,he,hiff⟩:=qt A.in1 ⟨hp,g,d,tk,os⟩ a t c u;refine AC (he prog w _ _ ?_);cases e with
     |true=>
      rw[if_pos (hiff.mp rfl)] at hR
      wp_walk
      exact⟨rfl,rfl,_,_,_,_,hrest,hvi',hwi',by lia,hR⟩
     |false=>
      rw[if_neg (λq=>absurd (hiff.mpr q) IZ)] at hR
      have hri:=ya A.in1 ⟨hp,g,d,tk,os⟩ a t c u prog w
      wp_walk using hri
      exact⟨_,rfl,by simpa using hR⟩
  case fin=>
   rintro⟨b1,b2⟩ s' ⟨hb',rfl,vs,ws,ns',ms',hz,hvi,hwi,hlen,hR⟩;simp only at hb';subst hb';have hv:fu ns' ms'=decide (items.size>=items2.size):=by
    cases hvi with
    |nil=>
     cases hwi with
     |nil=>
      simp only[Ic] at hlen;rw[nH];exact(decide_eq_true (by lia)).symm
     |cons c u hw=>
      simp only[Ic,Bn] at hlen;rw[lG];exact(decide_eq_false (by lia)).symm
    |cons a t hv=>
     cases hwi with
     |nil=>
      simp only[Ic,Bn] at hlen;rw[lH];exact(decide_eq_true (by lia)).symm
     |cons c u hw=>
      rw[Jb] at hz;cases hz
   rw[hv] at hR
   wp_walk
   exact⟨_,rfl,by simpa[M7] using hR⟩
  case h=>
   exact⟨rfl,rfl,items.toList,items2.toList,ns,ms,rfl,hi,hj,by lia,h⟩
end
section
variable{prog:Fk}{w:World}{A:HN}{E:Value->B2->Prop}{s:B2}
theorem sG{l b:Addr}{items items2:Array Value}{ns ms:List Int}{Q:Value->B2->Prop}(hl:IsTup s.heap l items)(hb:IsTup s.heap b items2)(hi:JJ items.toList ns)(hj:JJ items2.toList ms)
  (hu:A.units<cLine) (h:Q (.bool (fu ns ms)) s):wpAny (model prog w) A (IG .GtE (.ref l) (.ref b)) Q E s:=by
 obtain⟨⟨cls,dd,data,sl⟩,ho,hc,n,hd⟩:=id hl;obtain⟨⟨cls2,dd2,data2,sl2⟩,ho2,hc2,n2,hd2⟩:=id hb;simp only at hc hd hc2 hd2;subst hc hd hc2 hd2;exact PZ (op:=.GtE) ⟨_,ho,rfl⟩ ⟨_,ho2,rfl⟩ PySem.F.slot_tuple_ge PySem.F.entry_tuple_ge (PySem.F.args_tuple_ge_2 _ _) (nI l b items items2 n n2 dd dd2 sl sl2 ns ms hi hj)
  ⟨ho,ho2,show Ng (fu ns ms)≠OX/\Q (.bool (fu ns ms)) s from⟨(λx=>nomatch x),h⟩⟩ hu
end
end HT
namespace L2
open PySem PySem.Spec PyProof.Rows
section
variable{X:Cx}
noncomputable def rGeT(K:AT):R2:=λx y H Q=>∃a b ns ms,x=.ref a/\y=.ref b/\cI K H a (ns.map V.int)/\cI K H b (ms.map V.int)/\Q (.bl (!HT.lexLt ns ms)) H
theorem Dr(hu:X.A.units<cLine):dO X (IG .GtE) (rGeT X.K):=by
 intro pins s σ H x y v u Q I rx ry h;obtain⟨a,b,ns,ms,rfl,rfl,ha,hb,q⟩:=h;cases rx;cases ry;obtain⟨its,r1,p1,_⟩:=I.tuple ha;obtain⟨its2,r2,p2,_⟩:=I.tuple hb;refine HT.sG p1 p2 (intsAre_of r1) (intsAre_of r2) hu ⟨.bl (HT.fu ns ms),H,I,rfl,?_⟩;rw[HT.om]; exact q
end
end L2
end
section
namespace VL
open PySem PySem.Spec L2 PyProof.Rows
abbrev Zs:=Addr->Prop
noncomputable def sH:Key->B1
 |.inl i=>.int i
 |.inr x=>.str x
def KL(K:AT)(a:Addr)(xs:List V):Prop:=∃ (o:Obj) (its:Array Value) (n:Nat),K.lookup a=some o/\o.cls=.type "list"/\o.dict=none/\o.data=.seq its n/\its.size<=FX/\Vals xs its.toList
mutual
inductive Fz(K:AT)(H:Hp)(Z:Zs):V->B1->Prop
 |non:Fz K H Z .non .none
 |bl (b:Bool):Fz K H Z (.bl b) (.bool b)
 |int (i:Int):Fz K H Z (.int i) (.int i)
 |str (x:Str):Fz K H Z (.str x) (.str x)
 |tup {a:Addr} {xs:List V} {ds:List B1}:cI K H a xs->bD K H Z xs ds->Fz K H Z (.ref a) (.tuple ds)
 |lst {a:Addr} {xs:List V} {ds:List B1}:Rd H a (.lst xs)->Z a->bD K H Z xs ds->Fz K H Z (.ref a) (.list ds)
 |lsK {a:Addr} {xs:List V} {ds:List B1}:KL K a xs->bD K H Z xs ds->Fz K H Z (.ref a) (.list ds)
 |aL {a:Addr} {kxs:List (Key×V)} {ds:List (Key×B1)}:H a=some (.dK kxs)->Z a->gS K H Z kxs ds->Fz K H Z (.ref a) (.dict (ds.map λp=>(sH p.1,p.2)))
inductive bD(K:AT)(H:Hp)(Z:Zs):List V->List B1->Prop
 |nil:bD K H Z [] []
 |cons {x:V} {d:B1} {xs:List V} {ds:List B1}:Fz K H Z x d->bD K H Z xs ds->bD K H Z (x::xs) (d::ds)
inductive gS(K:AT)(H:Hp)(Z:Zs):List (Key×V)->List (Key×B1)->Prop
 |nil:gS K H Z [] []
 |cons {k:Key} {x:V} {d:B1} {xs:List (Key×V)} {ds:List (Key×B1)}:Fz K H Z x d->gS K H Z xs ds->gS K H Z ((k,x)::xs) ((k,d)::ds)
end
structure aJ(H:Hp)(Z:Zs)(H':Hp)(Z':Zs):Prop where
 tups:d9 H H'
 keep:∀a o,Z a->H a=some o->H' a=some o
 zs:∀a,Z a->Z' a
theorem aJ.refl{H:Hp}{Z:Zs}:aJ H Z H Z:=⟨d9.refl,λ_ _ _ h=>h,λ_ h=>h⟩
theorem aJ.trans{H H1 H2:Hp}{Z Z1 Z2:Zs}(g:aJ H Z H1 Z1)(h:aJ H1 Z1 H2 Z2):aJ H Z H2 Z2:=⟨g.tups.trans h.tups,λa o z e=>h.keep a o (g.zs a z) (g.keep a o z e),λa z=>h.zs a (g.zs a z)⟩
section
variable{K:AT}{H H':Hp}{Z Z':Zs}
mutual
theorem Fz.mono(g:aJ H Z H' Z'):∀{x:V}{d:B1},Fz K H Z x d->Fz K H' Z' x d
 |_,_,.non=>.non
 |_,_,.bl b=>.bl b
 |_,_,.int i=>.int i
 |_,_,.str x=>.str x
 |_,_,.tup h r=>.tup (g.tups.sq h) (bD.mono g r)
 |_,_,.lst (a:=a) h z r=>.lst (by
  rcases h with e | ⟨o,e⟩
  ·exact .inl (g.keep a _ z e)
  ·exact .inr ⟨o,g.keep a _ z e⟩) (g.zs _ z) (bD.mono g r)
 |_,_,.lsK h r=>.lsK h (bD.mono g r)
 |_,_,.aL (a:=a) h z r=>.aL (g.keep a _ z h) (g.zs _ z) (gS.mono g r)
theorem bD.mono(g:aJ H Z H' Z'):∀{x:List V}{d:List B1},bD K H Z x d->bD K H' Z' x d
 |_,_,.nil=>.nil
 |_,_,.cons h r=>.cons (Fz.mono g h) (bD.mono g r)
theorem gS.mono(g:aJ H Z H' Z'):∀{x:List (Key×V)}{d:List (Key×B1)},gS K H Z x d->gS K H' Z' x d
 |_,_,.nil=>.nil
 |_,_,.cons h r=>.cons (Fz.mono g h) (gS.mono g r)
end
theorem bD.length:∀{xs:List V}{ds:List B1},bD K H Z xs ds->xs.length=ds.length:=by
 intro xs
 induction xs with
 |nil=>intro ds h; cases h; rfl
 |cons x xs ih=>intro ds h; cases h with | cons _ r=>rw[Bn,Bn,ih r]
theorem bD.get':∀{xs:List V}{ds:List B1}{i:Nat}{d:B1},bD K H Z xs ds->ds[i]? = some d->∃x,xs[i]? = some x/\Fz K H Z x d:=by
 intro xs
 induction xs with
 |nil=>intro ds i d h e; cases h; simp at e
 |cons x xs ih=>
  intro ds i d h e;cases h with | cons r t=>
  cases i with
  |zero=>simp at e; subst e; exact⟨_,rfl,r⟩
  |succ i=>
   obtain⟨d,h1,h2⟩:=ih (i:=i) t (by simpa using e)
   exact⟨d,by simpa using h1,h2⟩
theorem bD.append:∀{xs ys:List V}{ds es:List B1},bD K H Z xs ds->bD K H Z ys es->bD K H Z (xs++ys) (ds++es):=by
 intro xs
 induction xs with
 |nil=>intro ys ds es h s; cases h; exact s
 |cons x xs ih=>intro ys ds es h s; cases h with | cons h r=>exact .cons h (ih r s)
theorem bD.take:∀{xs:List V}{ds:List B1}(n:Nat),bD K H Z xs ds->bD K H Z (xs.take n) (ds.take n)
 |_,_,0,_=>by rw[Nt,Nt]; exact .nil
 |_,_,n+1,.nil=>by rw[Qp,Qp]; exact .nil
 |_,_,n+1,.cons h r=>.cons h (bD.take n r)
theorem bD.drop:∀{xs:List V}{ds:List B1}(n:Nat),bD K H Z xs ds->bD K H Z (xs.drop n) (ds.drop n)
 |_,_,0,h=>h
 |_,_,n+1,.nil=>by rw[MY,MY]; exact .nil
 |_,_,n+1,.cons h r=>bD.drop n r
theorem bD.reverse:∀{xs:List V}{ds:List B1},bD K H Z xs ds->bD K H Z xs.reverse ds.reverse
 |_,_,.nil=>.nil
 |_,_,.cons h r=>by rw[Lf,Lf]; exact(bD.reverse r).append (.cons h .nil)
theorem bD.set:∀{xs:List V}{ds:List B1}{x:V}{d:B1}(i:Nat),bD K H Z xs ds->Fz K H Z x d->bD K H Z (xs.set i x) (ds.set i d):=by
 intro xs
 induction xs with
 |nil=>intro ds x d i h _; cases h; exact .nil
 |cons y xs ih=>
  intro ds x d i h q;cases h with | cons p r=>
  cases i with
  |zero=>exact .cons q r
  |succ i=>exact .cons p (ih i r q)
theorem gS.length:∀{xs:List (Key×V)}{ds:List (Key×B1)},gS K H Z xs ds->xs.length=ds.length:=by
 intro xs
 induction xs with
 |nil=>intro ds h; cases h; rfl
 |cons x xs ih=>intro ds h; cases h with | cons _ r=>rw[Bn,Bn,ih r]
theorem gS.keys:∀{xs:List (Key×V)}{ds:List (Key×B1)},gS K H Z xs ds->xs.map (·.1)=ds.map (·.1)
 |_,_,.nil=>rfl
 |_,_,.cons _ r=>by rw[GM,GM,gS.keys r]
theorem Fz.int_inv{x:V}{i:Int}(h:Fz K H Z x (.int i)):x=.int i:=by cases h; rfl
theorem Fz.sI{x:V}{i:Bool}(h:Fz K H Z x (.bool i)):x=.bl i:=by cases h; rfl
theorem Fz.str_inv{x:V}{i:Str}(h:Fz K H Z x (.str i)):x=.str i:=by cases h; rfl
theorem Fz.uu{x:V}(h:Fz K H Z x .none):x=.non:=by cases h; rfl
theorem Fz.ir{x:V}{ds:List B1}(h:Fz K H Z x (.tuple ds)):∃a xs,x=.ref a/\cI K H a xs/\bD K H Z xs ds:=by
 cases h with
 |tup q r=>exact⟨_,_,rfl,q,r⟩
theorem Fz.lst_inv{x:V}{ds:List B1}(h:Fz K H Z x (.list ds)):∃a xs,x=.ref a/\fj K H a xs/\bD K H Z xs ds:=by
 cases h with
 |lst q z r=>exact⟨_,_,rfl,.inl q,r⟩
 |lsK q r=>exact⟨_,_,rfl,.inr q,r⟩
theorem bD.ints:∀(ns:List Int),bD K H Z (ns.map V.int) (ns.map .int)
 |[]=>.nil
 |n::ns=>.cons (.int n) (bD.ints ns)
theorem bD.cK:∀{ns:List Int}{xs:List V},bD K H Z xs (ns.map .int)->xs=ns.map V.int:=by
 intro ns
 induction ns with
 |nil=>intro xs h; cases h; rfl
 |cons n ns ih=>
  intro xs h;cases h with | cons q r=>
  cases q;rw[ih r]; rfl
end
section
variable{X:Cx}{pins:List (Addr×Obj)}{σ:L2.St}{H:Hp}{s:B2}{Z:Zs}
mutual
theorem Fz.reads(I:Inv X pins σ H s):∀{v:V}{d:B1}{u:Value},Fz X.K H Z v d->d.canLay0=true->RelV v u->∃as,Reads s.heap u d as
 |_,_,_,.non,_,r=>by cases r; exact⟨_,.none⟩
 |_,_,_,.bl b,_,r=>by cases r; exact⟨_,.bool b⟩
 |_,_,_,.int i,_,r=>by obtain⟨t,rfl⟩:=r; exact⟨_,.int i t⟩
 |_,_,_,.str x,_,r=>by obtain⟨t,rfl⟩:=r; exact⟨_,.str x t⟩
 |_,_,_,.tup q rs,c,r=>by
  cases r;obtain⟨its,rv,⟨o,ho,hc,n,hd⟩,_⟩:=I.tuple q;obtain⟨as,h⟩:=bD.reads I rs c rv;exact⟨as,.tuple ho hc hd (by simpa using h)⟩
 |_,_,_,.lst q z rs,c,r=>by
  cases r;obtain⟨its,rv,⟨o,n,ho,hc,hdd,hd⟩,_⟩:=I.list (.inl q);obtain⟨as,h⟩:=bD.reads I rs c rv;exact⟨_,.list ho hc hd (by simpa using h)⟩
 |_,_,_,.lsK q rs,c,r=>by
  cases r;obtain⟨its,rv,⟨o,n,ho,hc,hdd,hd⟩,_⟩:=I.list (.inr q);obtain⟨as,h⟩:=bD.reads I rs c rv;exact⟨_,.list ho hc hd (by simpa using h)⟩
 |_,_,_,.aL _ _ _,c,_=>nomatch c
theorem bD.reads(I:Inv X pins σ H s):∀{v:List V}{d:List B1}{u:List Value},bD X.K H Z v d->IK d=true->Vals v u->∃as,QC s.heap u d as
 |_,_,_,.nil,_,.nil=>⟨_,.nil⟩
 |_,_,_,.cons (d:=d) (ds:=ds) r q,c,.cons a b=>by
  have c':d.canLay0=true/\IK ds=true:=by simpa[IK] using c
  obtain⟨x,h1⟩:=Fz.reads I r c'.1 a;obtain⟨y,h2⟩:=bD.reads I q c'.2 b;exact⟨_,.cons h1 h2⟩
end
end
end VL
end
section
namespace VL
open PySem PySem.Spec L2 PyProof.Rows
inductive M where
 |v (d:B1)
 |lst (ds:List B1)
 |aL (kvs:List (Key×B1))
 |bM (kvs:List (Key×List B1))
abbrev Ev:=List (Option M)
section
variable(K:AT)(H:Hp)(Z:Zs)
inductive iu:List (Key×V)->List (Key×List B1)->List Addr->Prop
 |nil:iu [] [] []
 |cons {k:Key} {b:Addr} {xs:List V} {ds:List B1} {kxs:List (Key×V)} {kvs:List (Key×List B1)} {G:List Addr}:H b=some (.lst xs)->bD K H Z xs ds->iu kxs kvs G->iu ((k,.ref b)::kxs) ((k,ds)::kvs) (b::G)
inductive Ow:V->M->List Addr->Prop
 |v {x:V} {d:B1}:Fz K H Z x d->Ow x (.v d) []
 |lst {a:Addr} {xs:List V} {ds:List B1}:H a=some (.lst xs)->bD K H Z xs ds->Ow (.ref a) (.lst ds) [a]
 |aL {a:Addr} {kxs:List (Key×V)} {kvs:List (Key×B1)}:H a=some (.dK kxs)->gS K H Z kxs kvs->Ow (.ref a) (.aL kvs) [a]
 |bM {a:Addr} {kxs:List (Key×V)} {kvs:List (Key×List B1)} {G:List Addr}:H a=some (.dK kxs)->iu K H Z kxs kvs G->Ow (.ref a) (.bM kvs) (a::G)
inductive aS:L2.St->Ev->List Addr->Prop
 |nil:aS [] [] []
 |non {x:Option V} {σ:L2.St} {ρ:Ev} {F:List Addr}:aS σ ρ F->aS (x::σ) (none::ρ) F
 |som {x:V} {m:M} {G:List Addr} {σ:L2.St} {ρ:Ev} {F:List Addr}:Ow K H Z x m G->aS σ ρ F->aS (some x::σ) (some m::ρ) (G++F)
end
def Mu(o:HO):Prop:=(∃xs,o=.lst xs)\/∃kvs,o=.dK kvs
structure Wf(H:Hp)(Z:Zs)(F:List Addr):Prop where
 nd:F.Nodup
 dz:∀a∈F,¬Z a
 za:∀a,Z a->H a≠none
structure aI(H:Hp)(Z:Zs)(F:List Addr)(H':Hp)(Z':Zs)(F':List Addr):Prop where
 keep:∀a o,a∉F->H a=some o->H' a=some o
 tups:d9 H H'
 zs:∀a,Z a->Z' a
 zn:∀a,Z' a->Z a\/a∈F\/H a=none
 fr:∀a∈F',a∈F\/H a=none
 nd:F'.Nodup
 dz:∀a∈F',¬Z' a
 za:∀a,Z' a->H' a≠none
section
variable{K:AT}{H H' H1 H2:Hp}{Z Z' Z1 Z2:Zs}{F F' F1 F2 G:List Addr}
theorem aI.refl(w:Wf H Z F):aI H Z F H Z F:=⟨λ_ _ _ h=>h,d9.refl,λ_ h=>h,λ_ h=>.inl h,λ_ h=>.inl h,w.nd,w.dz,w.za⟩
theorem aI.wf(f:aI H Z F H' Z' F'):Wf H' Z' F':=⟨f.nd,f.dz,f.za⟩
theorem aI.grow(f:aI H Z F H' Z' F')(w:Wf H Z F):aJ H Z H' Z':=⟨f.tups,λa o z e=>f.keep a o (λh=>w.dz a h z) e,f.zs⟩
theorem aI.trans(f:aI H Z F H1 Z1 F1)(g:aI H1 Z1 F1 H2 Z2 F2):aI H Z F H2 Z2 F2:=by
 have old:∀a,H1 a=none->a∈F\/H a=none:=λa e=>by
  by_cases h:a∈F
  ·exact .inl h
  ·cases q:H a with
   |none=>exact .inr rfl
   |some o=>rw[f.keep a o h q] at e; cases e
 refine⟨λa o h e=>g.keep a o (λz=>?_) (f.keep a o h e),f.tups.trans g.tups,λa z=>g.zs a (f.zs a z),λa z=>?_,λa h=>?_,g.nd,g.dz,g.za⟩
 ·rcases f.fr a z with z | z
  ·exact h z
  ·rw[e] at z; cases z
 ·rcases g.zn a z with z | z | z
  ·exact f.zn a z
  ·exact .inr (f.fr a z)
  ·exact .inr (old a z)
 ·rcases g.fr a h with z | z
  ·exact f.fr a z
  ·exact old a z
theorem aI.frame(f:aI H Z F H' Z' F')(w:Wf H Z (F++G))(al:∀a∈G,H a≠none):aI H Z (F++G) H' Z' (F'++G):=by
 have nd:=FM.mp w.nd;have sep:∀a∈G,a∉F:=λa h z=>nd.2.2 a z a h rfl
 refine⟨λa o h e=>f.keep a o (λz=>h (lL _ z)) e,f.tups,f.zs,λa z=>?_,λa h=>?_,?_,λa h z=>?_,f.za⟩
 ·rcases f.zn a z with z | z | z
  ·exact .inl z
  ·exact .inr (.inl (lL _ z))
  ·exact .inr (.inr z)
 ·rcases lM h with h | h
  ·rcases f.fr a h with z | z
   ·exact .inl (lL _ z)
   ·exact .inr z
  ·exact .inl (lR _ h)
 ·refine FM.mpr ⟨f.nd,nd.2.1,λa h b h' e=>?_⟩
  subst e;rcases f.fr a h with z | z
  ·exact sep a h' z
  ·exact al a h' z
 ·rcases lM h with h | h
  ·exact f.dz a h z
  ·rcases f.zn a z with z | z | z
   ·exact w.dz a (lR _ h) z
   ·exact sep a h z
   ·exact al a h z
theorem aI.sub(f:aI H Z F H' Z' F')(hn:F1.Nodup)(hs:∀a∈F1,a∈F'):aI H Z F H' Z' F1:=⟨f.keep,f.tups,f.zs,f.zn,λa h=>f.fr a (hs a h),hn,λa h=>f.dz a (hs a h),f.za⟩
theorem aI.left(f:aI H Z F H' Z' (F1++G)):aI H Z F H' Z' F1:=f.sub (FM.mp f.nd).1 λ_ h=>lL _ h
theorem aI.nil(f:aI H Z F H' Z' F1):aI H Z F H' Z' (F1++[]):=by rw[FB]; exact f
theorem aI.swap(f:aI H Z F H' Z' (F1++G)):aI H Z F H' Z' (G++F1):=f.sub (by
  have h:=FM.mp f.nd;exact FM.mpr ⟨h.2.1,h.1,λa x b y e=>h.2.2 b y a x e.symm⟩) λa h=>by
  rcases lM h with h | h
  ·exact lR _ h
  ·exact lL _ h
theorem iu.mem:∀{kxs:List (Key×V)}{kvs:List (Key×List B1)}{G:List Addr},iu K H Z kxs kvs G->∀a∈G,∃o,H a=some o/\Mu o:=by
 intro kxs kvs G r
 induction r with
 |nil=>intro a h; simp at h
 |cons e _ r ih=>
  intro a h;rcases lK h with h | h
  ·subst h; exact⟨_,e,.inl ⟨_,rfl⟩⟩
  ·exact ih a h
theorem Ow.mem{x:V}{m:M}(h:Ow K H Z x m G):∀a∈G,∃o,H a=some o/\Mu o:=λa ha=>by
 cases h with
 |v _=>simp at ha
 |lst e _=>rw[Ch] at ha; subst ha; exact⟨_,e,.inl ⟨_,rfl⟩⟩
 |aL e _=>rw[Ch] at ha; subst ha; exact⟨_,e,.inr ⟨_,rfl⟩⟩
 |bM e r=>
  rcases lK ha with ha | ha
  ·subst ha; exact⟨_,e,.inr ⟨_,rfl⟩⟩
  ·exact r.mem a ha
theorem Ow.al{x:V}{m:M}(h:Ow K H Z x m G):∀a∈G,H a≠none:=λa ha e=>by obtain⟨o,q,_⟩:=h.mem a ha; rw[q] at e; cases e
theorem aS.mem:∀{σ:L2.St}{ρ:Ev}{F:List Addr},aS K H Z σ ρ F->∀a∈F,∃o,H a=some o/\Mu o:=by
 intro σ ρ F r
 induction r with
 |nil=>intro a h; simp at h
 |non _ ih=>exact ih
 |som q r ih=>
  intro a h;rcases lM h with h | h
  ·exact q.mem a h
  ·exact ih a h
theorem aS.al{σ:L2.St}{ρ:Ev}(h:aS K H Z σ ρ F):∀a∈F,H a≠none:=λa ha e=>by obtain⟨o,q,_⟩:=h.mem a ha; rw[q] at e; cases e
theorem iu.mono(g:aJ H Z H' Z'):∀{kxs:List (Key×V)}{kvs:List (Key×List B1)}{G:List Addr},iu K H Z kxs kvs G->(∀a∈G,∀o,H a=some o->H' a=some o)->iu K H' Z' kxs kvs G:=by
 intro kxs kvs G r
 induction r with
 |nil=>exact λ_=>.nil
 |cons e f r ih=>exact λk=>.cons (k _ lS _ e) (f.mono g) (ih λa h=>k a (lO _ h))
theorem Ow.mono{x:V}{m:M}(g:aJ H Z H' Z')(h:Ow K H Z x m G)(k:∀a∈G,∀o,H a=some o->H' a=some o):Ow K H' Z' x m G:=by
 cases h with
 |v f=>exact .v (f.mono g)
 |lst e f=>exact .lst (k _ lS _ e) (f.mono g)
 |aL e f=>exact .aL (k _ lS _ e) (f.mono g)
 |bM e f=>exact .bM (k _ lS _ e) (f.mono g λa h=>k a (lO _ h))
theorem aS.mono(g:aJ H Z H' Z'):∀{σ:L2.St}{ρ:Ev}{F:List Addr},aS K H Z σ ρ F->(∀a∈F,∀o,H a=some o->H' a=some o)->aS K H' Z' σ ρ F:=by
 intro σ ρ F r
 induction r with
 |nil=>exact λ_=>.nil
 |non r ih=>exact λk=>.non (ih k)
 |som q r ih=>exact λk=>.som (q.mono g λa h=>k a (lL _ h)) (ih λa h=>k a (lR _ h))
theorem aS.get:∀{σ:L2.St}{ρ:Ev}{F:List Addr}{i:Nat}{m:M},aS K H Z σ ρ F->ρ[i]? = some (some m)->∃x G,σ[i]? = some (some x)/\Ow K H Z x m G/\∀a∈G,a∈F:=by
 intro σ ρ F i m r
 induction r generalizing i with
 |nil=>intro e; simp at e
 |non r ih=>
  intro e;cases i with
  |zero=>simp at e
  |succ i=>
   obtain⟨x,G,h1,h2,h3⟩:=ih (i:=i) (by simpa using e)
   exact⟨x,G,by simpa using h1,h2,h3⟩
 |som q r ih=>
  intro e;cases i with
  |zero=>simp at e; subst e; exact⟨_,_,rfl,q,λa h=>lL _ h⟩
  |succ i=>
   obtain⟨x,G,h1,h2,h3⟩:=ih (i:=i) (by simpa using e)
   exact⟨x,G,by simpa using h1,h2,λa h=>lR _ (h3 a h)⟩
theorem aS.take:∀{σ:L2.St}{ρ:Ev}{F:List Addr}{i:Nat}{m:M},aS K H Z σ ρ F->F.Nodup->ρ[i]? = some (some m) ->
  ∃x G F1,σ[i]? = some (some x)/\Ow K H Z x m G/\aS K H Z σ (ρ.set i none) F1/\(F1++G).Nodup/\∀a,a∈F1++G->a∈F:=by
 intro σ ρ F i m r
 induction r generalizing i with
 |nil=>intro _ e; simp at e
 |non r ih=>
  intro nd e;cases i with
  |zero=>simp at e
  |succ i=>
   obtain⟨x,G,F1,h1,h2,h3,h4,h5⟩:=ih (i:=i) nd (by simpa using e)
   exact⟨x,G,F1,by simpa using h1,h2,.non h3,h4,h5⟩
 |@som x0 m0 G0 σ ρ F q r ih=>
  intro nd e;have h:=FM.mp nd;cases i with
  |zero=>
   simp at e; subst e;exact⟨_,G0,F,rfl,q,.non r,FM.mpr ⟨h.2.1,h.1,λa x b y e=>h.2.2 b y a x e.symm⟩,λa h=>by
    rcases lM h with h | h
    ·exact lR _ h
    ·exact lL _ h⟩
  |succ i=>
   obtain⟨x,G,F1,h1,h2,h3,h4,h5⟩:=ih (i:=i) h.2.1 (by simpa using e)
   refine⟨x,G,G0++F1,by simpa using h1,h2,.som q h3,?_,λa z=>?_⟩
   ·rw[BM]
    exact FM.mpr ⟨h.1,h4,λa x b y e=>h.2.2 a x b (h5 b y) e⟩
   ·rw[BM] at z
    rcases lM z with z | z
    ·exact lL _ z
    ·exact lR _ (h5 a z)
theorem aS.drop:∀{σ:L2.St}{ρ:Ev}{F:List Addr}(i:Nat),aS K H Z σ ρ F->F.Nodup->∃F1,aS K H Z σ (ρ.set i none) F1/\F1.Nodup/\∀a∈F1,a∈F:=by
 intro σ ρ F i r
 induction r generalizing i with
 |nil=>exact λnd=>⟨_,.nil,nd,λ_ h=>h⟩
 |non r ih=>
  intro nd;cases i with
  |zero=>exact⟨_,.non r,nd,λ_ h=>h⟩
  |succ i=>
   obtain⟨F1,h1,h2,h3⟩:=ih i nd;exact⟨F1,.non h1,h2,h3⟩
 |@som x0 m0 G0 σ ρ F q r ih=>
  intro nd;have h:=FM.mp nd;cases i with
  |zero=>exact⟨_,.non r,h.2.1,λ_ h=>lR _ h⟩
  |succ i=>
   obtain⟨F1,h1,h2,h3⟩:=ih i h.2.1;refine⟨G0++F1,.som q h1,FM.mpr ⟨h.1,h2,λa x b y e=>h.2.2 a x b (h3 b y) e⟩,λa z=>?_⟩
   rcases lM z with z | z
   ·exact lL _ z
   ·exact lR _ (h3 a z)
theorem aS.put:∀{σ:L2.St}{ρ:Ev}{F:List Addr}{i:Nat}{x:V}{m:M}{G:List Addr},aS K H Z σ ρ F->Ow K H Z x m G->(F++G).Nodup->ρ[i]? = some none ->
  ∃F1,aS K H Z (σ.set i (some x)) (ρ.set i (some m)) F1/\F1.Nodup/\∀a∈F1,a∈F++G:=by
 intro σ ρ F i x m G r h
 induction r generalizing i with
 |nil=>intro _ e; simp at e
 |@non _ σ ρ F r ih=>
  intro nd e;cases i with
  |zero=>
   have h':=FM.mp nd;exact⟨G++F,.som h r,FM.mpr ⟨h'.2.1,h'.1,λa x b y e=>h'.2.2 b y a x e.symm⟩,λa h=>by
    rcases lM h with h | h
    ·exact lR _ h
    ·exact lL _ h⟩
  |succ i=>
   obtain⟨F1,h1,h2,h3⟩:=ih (i:=i) nd (by simpa using e)
   exact⟨F1,.non h1,h2,h3⟩
 |@som x0 m0 G0 σ ρ F q r ih=>
  intro nd e;cases i with
  |zero=>simp at e
  |succ i=>
   rw[BM] at nd;have h':=FM.mp nd;obtain⟨F1,h1,h2,h3⟩:=ih (i:=i) h'.2.1 (by simpa using e)
   refine⟨G0++F1,.som q h1,FM.mpr ⟨h'.1,h2,λa x b y e=>h'.2.2 a x b (h3 b y) e⟩,λa z=>?_⟩
   rw[BM];rcases lM z with z | z
   ·exact lL _ z
   ·exact lR _ (h3 a z)
end
inductive cN where
 |t (m:M)
 |p (i:Nat)
 |q (i:Nat) (k:Key)
noncomputable def cg{α:Type}(kvs:List (Key×α))(k:Key):Option α:=(kvs.find? λkv=>decide (kv.1=k)).map (·.2)
noncomputable def ck(ρ:Ev)(i:Nat):Option M:=match ρ[i]? with
 |some (some m)=>some m
 |_=>none
theorem aF{ρ:Ev}{i:Nat}{m:M}:ck ρ i=some m↔ρ[i]? = some (some m):=by
 unfold ck
 split
 ·next h=>rw[h]; simp
 ·next h=>
  exact⟨λe=>(nomatch e),λe=>(h m e).elim⟩
noncomputable def jr(ρ:Ev):cN->Option M
 |.t m=>some m
 |.p i=>ck ρ i
 |.q _ _=>none
noncomputable def peek(ρ:Ev):cN->Option M
 |.t m=>some m
 |.p i=>ck ρ i
 |.q i k=>match ck ρ i with
  |some (.bM kvs)=>(cg kvs k).map .lst
  |_=>none
noncomputable def iH(ρ:Ev):List cN->Option (List M)
 |[]=>some []
 |o::os=>(peek ρ o).bind λm=>(iH ρ os).bind λms=>some (m::ms)
theorem dH{ρ:Ev}{o:cN}{m:M}(h:jr ρ o=some m):peek ρ o=some m:=by
 cases o with
 |t _=>exact h
 |p _=>exact h
 |q _ _=>cases h
inductive ng(K:AT)(H:Hp)(Z:Zs)(σ:L2.St):V->cN->List Addr->Prop
 |t {x:V} {m:M} {G:List Addr}:Ow K H Z x m G->ng K H Z σ x (.t m) G
 |p {x:V} {i:Nat}:σ[i]? = some (some x)->ng K H Z σ x (.p i) []
 |q {x:V} {i:Nat} {k:Key} {a:Addr} {kxs:List (Key×V)}:σ[i]? = some (some (.ref a))->H a=some (.dK kxs)->fS kxs k=some x->ng K H Z σ x (.q i k) []
inductive jV(K:AT)(H:Hp)(Z:Zs)(σ:L2.St):List V->List cN->List Addr->Prop
 |nil:jV K H Z σ [] [] []
 |cons {x:V} {o:cN} {G:List Addr} {xs:List V} {os:List cN} {G':List Addr}:ng K H Z σ x o G->jV K H Z σ xs os G'->jV K H Z σ (x::xs) (o::os) (G++G')
def Ro(K:AT)(H:Hp)(Z:Zs)(x:V)(m:M):Prop:=∃G,Ow K H Z x m G
def ER(K:AT)(H:Hp)(Z:Zs):List V->List M->Prop:=JV (Ro K H Z)
section
variable{K:AT}{H H' H1 H2 H3:Hp}{Z Z' Z1 Z2 Z3:Zs}{F F' F1 F2 G:List Addr}{σ:L2.St}{ρ:Ev}
theorem iu.get:∀{kxs:List (Key×V)}{kvs:List (Key×List B1)}{G:List Addr}{k:Key}{ds:List B1},iu K H Z kxs kvs G->cg kvs k=some ds->∃b xs,fS kxs k=some (.ref b)/\H b=some (.lst xs)/\bD K H Z xs ds/\b∈G:=by
 intro kxs kvs G k ds h
 induction h with
 |nil=>intro e; cases e
 |@cons k' b xs ds' kxs kvs G h f r ih=>
  intro e;unfold cg at e;rw[JE] at e;unfold fS;rw[JE]
  by_cases hk:k'=k
  ·simp only[hk,decide_true,Lw] at e ⊢
   cases e;exact⟨b,_,rfl,h,f,lS⟩
  ·simp only[hk,decide_false] at e ⊢
   obtain⟨b',xs,h1,h2,h3,h4⟩:=ih e;exact⟨b',xs,h1,h2,h3,lO _ h4⟩
theorem ng.peek{x:V}{o:cN}{m:M}(S:aS K H Z σ ρ F)(h:ng K H Z σ x o G)(e:VL.peek ρ o=some m):Ro K H Z x m:=by
 cases h with
 |t q=>cases e; exact⟨_,q⟩
 |p q=>
  obtain⟨x',G',h1,h2,_⟩:=S.get (aF.mp e);rw[q] at h1; cases h1;exact⟨_,h2⟩
 |q h1 h2 h3=>
  rename_i i k a kxs
  have e:(match ck ρ i with
   |some (.bM kvs)=>(cg kvs k).map M.lst
   |_=>none)=some m:=e
  split at e
  ·next kvs hk=>
   obtain⟨x',G',q1,q2,_⟩:=S.get (aF.mp hk);rw[h1] at q1; cases q1;obtain⟨ds,e1,e2⟩:=Jn.mp e;subst e2;cases q2 with
   |bM q3 q4=>
    rw[h2] at q3; cases q3;obtain⟨b,xs,z1,z2,z3,_⟩:=q4.get e1;rw[h3] at z1; cases z1;exact⟨_,.lst z2 z3⟩
  ·cases e
theorem jV.peek:∀{xs:List V}{os:List cN}{ms:List M}{G:List Addr},aS K H Z σ ρ F->jV K H Z σ xs os G->iH ρ os=some ms->ER K H Z xs ms:=by
 intro xs os ms G S h
 induction h generalizing ms with
 |nil=>intro e; cases e; exact .nil
 |cons h r ih=>
  intro e;obtain⟨m,h1,e⟩:=oB e;obtain⟨ms,h2,e⟩:=oB e;cases e;exact .cons (h.peek S h1) (ih h2)
theorem ng.al{x:V}{o:cN}(h:ng K H Z σ x o G):∀a∈G,H a≠none:=by
 cases h with
 |t q=>exact q.al
 |p _=>intro a h; simp at h
 |q _ _ _=>intro a h; simp at h
noncomputable def sJ:cN->Bool
 |.q _ _=>false
 |_=>true
theorem dJ{o:cN}{m:M}(h:jr ρ o=some m):sJ o=true:=by
 cases o with
 |t _=>rfl
 |p _=>rfl
 |q _ _=>cases h
theorem ng.mono{x:V}{o:cN}(h:ng K H Z σ x o G)(hs:sJ o=true)(g:aJ H Z H' Z')(k:∀a∈G,∀o,H a=some o->H' a=some o):ng K H' Z' σ x o G:=by
 cases h with
 |t q=>exact .t (q.mono g k)
 |p q=>exact .p q
 |q _ _ _=>cases hs
theorem aI.news(n:aI H Z [] H' Z' G)(w:Wf H Z F)(al:∀a∈F,H a≠none):aI H Z F H' Z' (F++G):=by
 have h:=n.frame (F:=[]) (G:=F) (by rw[IT]; exact w) al
 rw[IT] at h;exact h.swap
theorem aI.uv(n:aI H Z [] H' Z' G):aJ H Z H' Z':=⟨n.tups,λa o _ e=>n.keep a o HH e,n.zs⟩
theorem aS.news(S:aS K H Z σ ρ F)(n:aI H Z [] H' Z' G):aS K H' Z' σ ρ F:=S.mono (n.uv) λa _ o e=>n.keep a o (HH) e
theorem aI.through{F2:List Addr}(f1:aI H Z F H1 Z1 (F1++G))(f2:aI H1 Z1 F1 H2 Z2 F2)(al:∀a∈G,H1 a≠none):aI H Z F H2 Z2 (F2++G):=f1.trans (f2.frame f1.wf al)
theorem aI.qK{F2:List Addr}(f1:aI H Z F H1 Z1 (F1++G))(f2:aI H1 Z1 F1 H2 Z2 F2):∀a∈G,∀o,H1 a=some o->H2 a=some o:=λa h o e=>
 f2.keep a o (λz=>(FM.mp f1.nd).2.2 a z a h rfl) e
theorem aI.assoc'{A B C:List Addr}(f:aI H Z F H' Z' (A++(B++C))):aI H Z F H' Z' ((A++B)++C):=by rw[BM]; exact f
theorem aI.Ds{A B C:List Addr}(f:aI H Z F H' Z' ((A++B)++C)):aI H Z F H' Z' (A++(C++B)):=f.sub (by
  have h:=FM.mp f.nd;have h':=FM.mp h.1;refine FM.mpr ⟨h'.1,FM.mpr ⟨h.2.1,h'.2.1,λa x b y e=>h.2.2 b (lR _ y) a x e.symm⟩,λa x b y e=>?_⟩
  rcases lM y with y | y
  ·exact h.2.2 a (lL _ x) b y e
  ·exact h'.2.2 a x b y e) λa h=>by
  rcases lM h with h | h
  ·exact lL _ (lL _ h)
  rcases lM h with h | h
  ·exact lR _ h
  ·exact lL _ (lR _ h)
end
abbrev FE:=Ev->Option (cN×Ev)
abbrev FA:=Ev->Option (List cN×Ev)
abbrev FT:=Ev->Option (Bool×Ev)
inductive vE(K:AT)(f:FE)(σ:L2.St)(H:Hp)(Q:VK):Prop
 |mk (Z:Zs) (ρ:Ev) (F:List Addr) (o:cN) (ρ':Ev):aS K H Z σ ρ F->Wf H Z F->f ρ=some (o,ρ')->(∀x H' Z' F' G,aS K H' Z' σ ρ' F'->ng K H' Z' σ x o G->aI H Z F H' Z' (F'++G)->Q x H')->vE K f σ H Q
inductive vA(K:AT)(f:FA)(σ:L2.St)(H:Hp)(Q:List V->Hp->Prop):Prop
 |mk (Z:Zs) (ρ:Ev) (F:List Addr) (os:List cN) (ρ':Ev):aS K H Z σ ρ F->Wf H Z F->f ρ=some (os,ρ')->(∀xs H' Z' F' G,aS K H' Z' σ ρ' F'->jV K H' Z' σ xs os G->aI H Z F H' Z' (F'++G)->Q xs H')->vA K f σ H Q
inductive vT(K:AT)(f:FT)(σ:L2.St)(H:Hp)(Q:Bool->Hp->Prop):Prop
 |mk (Z:Zs) (ρ:Ev) (F:List Addr) (b:Bool) (ρ':Ev):aS K H Z σ ρ F->Wf H Z F->f ρ=some (b,ρ')->(∀H' Z' F',aS K H' Z' σ ρ' F'->aI H Z F H' Z' F'->Q b H')->vT K f σ H Q
section
variable{X:Cx}{e:Expr}
theorem bg{t t':TE}(h:PE X e t)(i:∀σ H Q,t' σ H Q->t σ H Q):PE X e t':=λpins s σ H Q I q=>h pins s σ H Q I (i σ H Q q)
theorem lI{t t':TT}(h:PT X e t)(i:∀σ H Q,t' σ H Q->t σ H Q):PT X e t':=λpins s σ H Q I q=>h pins s σ H Q I (i σ H Q q)
theorem yb{t t':TT}(h:PW X e t)(i:∀σ H Q,t' σ H Q->t σ H Q):PW X e t':=λwh pins s σ H Q I q=>h wh pins s σ H Q I (i σ H Q q)
theorem sL{es:List Expr}{t t':TA}(h:PA X es t)(i:∀σ H Q,t' σ H Q->t σ H Q):PA X es t':=λpos pins s σ H Q I q=>h pos pins s σ H Q I (i σ H Q q)
theorem sM{t u:TE}(h:PE X e t)(h':PE X e u):PE X e (λσ H Q=>t σ H Q\/u σ H Q):=λpins s σ H Q I q=>q.elim (h pins s σ H Q I) (h' pins s σ H Q I)
theorem pS{t u:TT}(h:PT X e t)(h':PT X e u):PT X e (λσ H Q=>t σ H Q\/u σ H Q):=λpins s σ H Q I q=>q.elim (h pins s σ H Q I) (h' pins s σ H Q I)
abbrev VE(X:Cx)(e:Expr)(f:FE):Prop:=PE X e (vE X.K f)
abbrev VA(X:Cx)(es:List Expr)(f:FA):Prop:=PA X es (vA X.K f)
abbrev VT(X:Cx)(e:Expr)(f:FT):Prop:=PT X e (vT X.K f)
abbrev VW(X:Cx)(e:Expr)(f:FT):Prop:=PW X e (vT X.K f)
noncomputable def aa(i:Nat):FE:=λρ=>match ck ρ i with
 |some (.v d)=>some (.t (.v d),ρ)
 |some _=>some (.p i,ρ)
 |none=>none
theorem AL{i:Nat}(h:PE X e (dP i)):VE X e (aa i):=bg h λσ H Q hq=>by
 obtain⟨Z,ρ,F,o,ρ',S,w,e,q⟩:=hq;unfold aa at e;cases hm:ck ρ i with
 |none=>rw[hm] at e; cases e
 |some m=>
  obtain⟨x,G,h1,h2,h3⟩:=S.get (aF.mp hm);refine⟨x,h1,?_⟩;cases m with
  |v d=>
   rw[hm] at e; cases e;cases h2 with
   |v f=>exact q x H Z F [] S (.t (.v f)) (aI.refl w).nil
  |lst _=>rw[hm] at e; cases e; exact q x H Z F [] S (.p h1) (aI.refl w).nil
  |aL _=>rw[hm] at e; cases e; exact q x H Z F [] S (.p h1) (aI.refl w).nil
  |bM _=>rw[hm] at e; cases e; exact q x H Z F [] S (.p h1) (aI.refl w).nil
theorem vv(i:Nat){x:Str}{pos:Pos}(hN:X.N[i]? = some x:=by rfl)(hv:BZ X.env.scope x:=by first | exact HP rfl | exact KY (HP rfl) | exact KY (KY rfl))(hd:(x == ("__debug__" : Str))=false:=by decide)
  (hcd:(x == ("__classdict__" : Str))=false:=by decide):VE X (.Name x pos) (aa i):=AL (rW hN hv hd hcd)
noncomputable def vC(d:B1):FE:=λρ=>some (.t (.v d),ρ)
theorem ve_c{v:V}{d:B1}(h:PE X e (tC v))(hd:∀H Z,Fz X.K H Z v d):VE X e (vC d):=bg h λσ H Q hq=>by
 obtain⟨Z,ρ,F,o,ρ',S,w,e,q⟩:=hq;cases e;exact q v H Z F [] S (.t (.v (hd H Z))) (aI.refl w).nil
theorem Dt{i j pos}:VE X (.Constant (.int i) j pos) (vC (.int i)):=ve_c Ct λ_ _=>.int i
theorem ve_bl{i j pos}:VE X (.Constant (.bool i) j pos) (vC (.bool i)):=ve_c pe_bl λ_ _=>.bl i
theorem Du{j pos}:VE X (.Constant .none j pos) (vC .none):=ve_c Cu λ_ _=>.non
def B8(K:AT)(r:R2)(g:M->M->Option M):Prop:=∀H Z x y m1 m2 m Q,(∀a,Z a->H a≠none)->Ro K H Z x m1->Ro K H Z y m2->g m1 m2=some m->(∀z H' Z' G,Ow K H' Z' z m G->aI H Z [] H' Z' G->Q z H')->r x y H Q
noncomputable def vB(g:M->M->Option M)(fa fb:FE):FE:=λρ=>(fa ρ).bind λp=>(fb p.2).bind λq=>(jr q.2 p.1).bind λm1=>(peek q.2 q.1).bind λm2=>(g m1 m2).bind λm=>some (.t m,q.2)
theorem two{fa fb:FE}{g:M->M->Option M}{r:R2}{σ:L2.St}{H:Hp}{Q:VK}(hr:B8 X.K r g)(hq:vE X.K (vB g fa fb) σ H Q):B4 r (vE X.K fa) (vE X.K fb) σ H Q:=by
 obtain⟨Z,ρ,F,o,ρ',S,w,e,q⟩:=hq;obtain⟨⟨o1,ρ1⟩,e1,e⟩:=oB e;obtain⟨⟨o2,ρ2⟩,e2,e⟩:=oB e;obtain⟨m1,e3,e⟩:=oB e;obtain⟨m2,e4,e⟩:=oB e;obtain⟨m,e5,e⟩:=oB e;cases e;refine⟨Z,ρ,F,o1,ρ1,S,w,e1,λx H1 Z1 F1 G1 S1 O1 f1=>⟨Z1,ρ1,F1,o2,ρ2,S1,f1.left.wf,e2,λy H2 Z2 F2 G2 S2 O2 f2=>?_⟩⟩
 have O1':=O1.mono (dJ e3) (f2.grow f1.left.wf) (f1.qK f2);refine hr H2 Z2 x y m1 m2 m Q f2.za (O1'.peek S2 (dH e3)) (O2.peek S2 e4) e5 λz H3 Z3 G h3 n=>?_
 exact q z H3 Z3 F2 G (S2.news n) (.t h3) ((f1.left.trans f2.left).trans (n.news f2.left.wf S2.al))
theorem ve_op{op:Mn}{a b:Expr}{pos:Pos}{r:R2}{g:M->M->Option M}{fa fb:FE}(hr:B8 X.K r g)(ho:dO X (J9 op) r)(ha:VE X a fa)(hb:VE X b fb):VE X (.BinOp a op b pos) (vB g fa fb):=bg (pe_op ho ha hb) λ_ _ _=>two hr
theorem Dv{op:CmpOp}{a b:Expr}{pos:Pos}{r:R2}{g:M->M->Option M}{fa fb:FE}(hr:B8 X.K r g)(ho:dO X (IG op) r)(ha:VE X a fa)(hb:VE X b fb)(hm:IY op b=false):VE X (.Compare a [op] [b] pos) (vB g fa fb):=bg (o4 ho ha hb hm) λ_ _ _=>two hr
def Hu(K:AT)(r:V->Hp->VK->Prop)(g:M->Option M):Prop:=∀H Z x m1 m Q,(∀a,Z a->H a≠none)->Ro K H Z x m1->g m1=some m->(∀z H' Z' G,Ow K H' Z' z m G->aI H Z [] H' Z' G->Q z H')->r x H Q
noncomputable def vU(g:M->Option M)(fa:FE):FE:=λρ=>(fa ρ).bind λp=>(peek p.2 p.1).bind λm1=>(g m1).bind λm=>some (.t m,p.2)
theorem one{fa:FE}{g:M->Option M}{r:V->Hp->VK->Prop}{σ:L2.St}{H:Hp}{Q:VK}(hr:Hu X.K r g)(hq:vE X.K (vU g fa) σ H Q):vE X.K fa σ H λx H1=>r x H1 Q:=by
 obtain⟨Z,ρ,F,o,ρ',S,w,e,q⟩:=hq;obtain⟨⟨o1,ρ1⟩,e1,e⟩:=oB e;obtain⟨m1,e3,e⟩:=oB e;obtain⟨m,e5,e⟩:=oB e;cases e;refine⟨Z,ρ,F,o1,ρ1,S,w,e1,λx H1 Z1 F1 G1 S1 O1 f1=>?_⟩
 refine hr H1 Z1 x m1 m Q f1.za (O1.peek S1 e3) e5 λz H3 Z3 G h3 n=>?_
 exact q z H3 Z3 F1 G (S1.news n) (.t h3) (f1.left.trans (n.news f1.left.wf S1.al))
noncomputable def gT:FA:=λρ=>some ([],ρ)
noncomputable def af(fa:FE):FA:=λρ=>(fa ρ).bind λp=>some ([p.1],p.2)
noncomputable def ai(fa:FE)(fr:FA):FA:=λρ=>(fa ρ).bind λp=>(fr p.2).bind λq=>if sJ p.1=true then some (p.1::q.1,q.2) else none
theorem Dw:VA X [] gT:=sL o6 λσ H Q hq=>by
 obtain⟨Z,ρ,F,o,ρ',S,w,e,q⟩:=hq;cases e;exact q [] H Z F [] S .nil (aI.refl w).nil
theorem Dy{a:Expr}{fa:FE}(ha:VE X a fa)(hs:FK [a] X.env=[(false,eval a X.env)]:=by rfl):VA X [a] (af fa):=sL (ja ha o6 hs) λσ H Q hq=>by
 obtain⟨Z,ρ,F,o,ρ',S,w,e,q⟩:=hq;obtain⟨⟨o1,ρ1⟩,e1,e⟩:=oB e;cases e;refine⟨Z,ρ,F,o1,ρ1,S,w,e1,λx H1 Z1 F1 G1 S1 O1 f1=>?_⟩
 exact q [x] H1 Z1 F1 (G1++[]) S1 (.cons O1 .nil) (by rw[FB]; exact f1)
theorem AM{a:Expr}{as:List Expr}{fa:FE}{fr:FA}(ha:VE X a fa)(hr:VA X as fr)(hs:FK (a::as) X.env=(false,eval a X.env)::FK as X.env:=by rfl):VA X (a::as) (ai fa fr):=sL (ja ha hr hs) λσ H Q hq=>by
 obtain⟨Z,ρ,F,o,ρ',S,w,e,q⟩:=hq;obtain⟨⟨o1,ρ1⟩,e1,e⟩:=oB e;obtain⟨⟨os,ρ2⟩,e2,e⟩:=oB e
 by_cases hs:sJ o1=true
 ·rw[if_pos hs] at e
  cases e;refine⟨Z,ρ,F,o1,ρ1,S,w,e1,λx H1 Z1 F1 G1 S1 O1 f1=>⟨Z1,ρ1,F1,os,ρ2,S1,f1.left.wf,e2,λxs H2 Z2 F2 G2 S2 O2 f2=>?_⟩⟩
  exact q (x::xs) H2 Z2 F2 (G1++G2) S2 (.cons (O1.mono hs (f2.grow f1.left.wf) (f1.qK f2)) O2) (f1.through f2 O1.al).Ds
 ·rw[if_neg hs] at e; cases e
def Gu(K:AT)(r:List V->Hp->VK->Prop)(g:List M->Option M):Prop:=∀H Z xs ms m Q,(∀a,Z a->H a≠none)->ER K H Z xs ms->g ms=some m->(∀z H' Z' G,Ow K H' Z' z m G->aI H Z [] H' Z' G->Q z H')->r xs H Q
noncomputable def fW(g:List M->Option M)(fa:FA):FE:=λρ=>(fa ρ).bind λp=>(iH p.2 p.1).bind λms=>(g ms).bind λm=>some (.t m,p.2)
theorem many{fa:FA}{g:List M->Option M}{r:List V->Hp->VK->Prop}{σ:L2.St}{H:Hp}{Q:VK}(hr:Gu X.K r g)(hq:vE X.K (fW g fa) σ H Q):Fw r (vA X.K fa) σ H Q:=by
 obtain⟨Z,ρ,F,o,ρ',S,w,e,q⟩:=hq;obtain⟨⟨os,ρ1⟩,e1,e⟩:=oB e;obtain⟨ms,e3,e⟩:=oB e;obtain⟨m,e5,e⟩:=oB e;cases e;refine⟨Z,ρ,F,os,ρ1,S,w,e1,λxs H1 Z1 F1 G1 S1 O1 f1=>?_⟩
 refine hr H1 Z1 xs ms m Q f1.za (O1.peek S1 e3) e5 λz H3 Z3 G h3 n=>?_
 exact q z H3 Z3 F1 G (S1.news n) (.t h3) (f1.left.trans (n.news f1.left.wf S1.al))
noncomputable def Gv:M->Option Bool
 |.v (.bool b)=>some b
 |_=>none
noncomputable def br(f:FE):FT:=λρ=>(f ρ).bind λp=>(peek p.2 p.1).bind λm=>(Gv m).bind λb=>some (b,p.2)
theorem Ff{f:FE}{σ:L2.St}{H:Hp}{Q:Bool->Hp->Prop}(hq:vT X.K (br f) σ H Q):vE X.K f σ H λx H1=>∃c,x=.bl c/\Q c H1:=by
 obtain⟨Z,ρ,F,b,ρ',S,w,e,q⟩:=hq;obtain⟨⟨o1,ρ1⟩,e1,e⟩:=oB e;obtain⟨m,e2,e⟩:=oB e;obtain⟨b',e3,e⟩:=oB e;cases e;refine⟨Z,ρ,F,o1,ρ1,S,w,e1,λx H1 Z1 F1 G1 S1 O1 f1=>?_⟩
 obtain⟨G,h⟩:=O1.peek S1 e2;cases h with
 |v f=>
  cases f with
  |bl c=>cases e3; exact⟨_,rfl,q H1 Z1 F1 S1 f1.left⟩
  |_=>cases e3
 |_=>cases e3
theorem Dz{op:CmpOp}{a b:Expr}{pos:Pos}{r:R2}{g:M->M->Option M}{fa fb:FE}(hr:B8 X.K r g)(ho:dO X (IG op) r)(ha:VE X a fa)(hb:VE X b fb)(hm:IY op b=false):VT X (.Compare a [op] [b] pos) (br (vB g fa fb)):=by
 refine lI (i9 ho ha hb hm) λσ H Q hq=>?_
 exact two hr (Ff hq)
noncomputable def lJ(f:FT):FT:=λρ=>(f ρ).bind λp=>some (!p.1,p.2)
noncomputable def qL(f g:FT):FT:=λρ=>(f ρ).bind λp=>if p.1=true then g p.2 else some (false,p.2)
noncomputable def Fg(f g:FT):FT:=λρ=>(f ρ).bind λp=>if p.1=true then some (true,p.2) else g p.2
theorem not_imp{f:FT}{σ:L2.St}{H:Hp}{Q:Bool->Hp->Prop}(hq:vT X.K (lJ f) σ H Q):tNot (vT X.K f) σ H Q:=by
 obtain⟨Z,ρ,F,b,ρ',S,w,e,q⟩:=hq;obtain⟨⟨o1,ρ1⟩,e1,e⟩:=oB e;cases e;exact⟨Z,ρ,F,o1,ρ1,S,w,e1,q⟩
theorem and_imp{f g:FT}{σ:L2.St}{H:Hp}{Q:Bool->Hp->Prop}(hq:vT X.K (qL f g) σ H Q):tAnd (vT X.K f) (vT X.K g) σ H Q:=by
 obtain⟨Z,ρ,F,b,ρ',S,w,e,q⟩:=hq;obtain⟨⟨o1,ρ1⟩,e1,e⟩:=oB e;refine⟨Z,ρ,F,o1,ρ1,S,w,e1,λH1 Z1 F1 S1 f1=>?_⟩
 cases o1 with
 |true=>exact⟨Z1,ρ1,F1,b,ρ',S1,f1.wf,e,λH2 Z2 F2 S2 f2=>q H2 Z2 F2 S2 (f1.trans f2)⟩
 |false=>cases e; exact q H1 Z1 F1 S1 f1
theorem or_imp{f g:FT}{σ:L2.St}{H:Hp}{Q:Bool->Hp->Prop}(hq:vT X.K (Fg f g) σ H Q):GF (vT X.K f) (vT X.K g) σ H Q:=by
 obtain⟨Z,ρ,F,b,ρ',S,w,e,q⟩:=hq;obtain⟨⟨o1,ρ1⟩,e1,e⟩:=oB e;refine⟨Z,ρ,F,o1,ρ1,S,w,e1,λH1 Z1 F1 S1 f1=>?_⟩
 cases o1 with
 |false=>exact⟨Z1,ρ1,F1,b,ρ',S1,f1.wf,e,λH2 Z2 F2 S2 f2=>q H2 Z2 F2 S2 (f1.trans f2)⟩
 |true=>cases e; exact q H1 Z1 F1 S1 f1
theorem DA{a:Expr}{pos:Pos}{f:FT}(h:VT X a f):VT X (.UnaryOp .Not a pos) (lJ f):=lI (Cz h) λ_ _ _=>not_imp
theorem AN{a:Expr}{pos:Pos}{f:FT}(h:VT X a f):VW X (.BoolOp .And [a] pos) f:=zZ h
theorem DB{a:Expr}{pos:Pos}{f:FT}(h:VT X a f):VW X (.BoolOp .Or [a] pos) f:=Cw h
theorem DC{a b:Expr}{rest:List Expr}{pos:Pos}{f g:FT}(h:VT X a f)(h':VW X (.BoolOp .And (b::rest) pos) g):VW X (.BoolOp .And (a::b::rest) pos) (qL f g):=yb (Cy h h') λ_ _ _=>and_imp
theorem vw_or{a b:Expr}{rest:List Expr}{pos:Pos}{f g:FT}(h:VT X a f)(h':VW X (.BoolOp .Or (b::rest) pos) g):VW X (.BoolOp .Or (a::b::rest) pos) (Fg f g):=yb (pw_or h h') λ_ _ _=>or_imp
noncomputable def jt(fa fb:FE):FE:=λρ=>(br fa ρ).bind λp=>if p.1=true then fb p.2 else some (.t (.v (.bool false)),p.2)
theorem DE{a b:Expr}{rest:List Expr}{pos:Pos}{fa fb:FE}(ha:VE X a fa)(hb:VE X (.BoolOp .And (b::rest) pos) fb):VE X (.BoolOp .And (a::b::rest) pos) (jt fa fb):=bg (CB ha hb) λσ H Q hq=>by
 obtain⟨Z,ρ,F,o,ρ',S,w,e,q⟩:=hq;obtain⟨⟨b1,ρ1⟩,e1,e⟩:=oB e;refine Ff ⟨Z,ρ,F,b1,ρ1,S,w,e1,λH1 Z1 F1 S1 f1=>?_⟩
 cases b1 with
 |true=>exact iteT ⟨Z1,ρ1,F1,o,ρ',S1,f1.wf,e,λx H2 Z2 F2 G S2 O f2=>q x H2 Z2 F2 G S2 O (f1.trans f2)⟩
 |false=>cases e; exact iteF (q (.bl false) H1 Z1 F1 [] S1 (.t (.v (.bl false))) f1.nil)
theorem DF{op a}{pos:Pos}{f:FE}(h:VE X a f):VE X (.BoolOp op [a] pos) f:=CA h
noncomputable def uw(fa:FE):FE:=λρ=>(br fa ρ).bind λp=>some (.t (.v (.bool (!p.1))),p.2)
theorem DG{a:Expr}{pos:Pos}{fa:FE}(ha:VE X a fa):VE X (.UnaryOp .Not a pos) (uw fa):=bg (CC ha) λσ H Q hq=>by
 obtain⟨Z,ρ,F,o,ρ',S,w,e,q⟩:=hq;obtain⟨⟨b1,ρ1⟩,e1,e⟩:=oB e;refine Ff ⟨Z,ρ,F,b1,ρ1,S,w,e1,λH1 Z1 F1 S1 f1=>?_⟩
 cases e;exact q (.bl (!b1)) H1 Z1 F1 [] S1 (.t (.v (.bl _))) f1.nil
end
noncomputable def lim:Nat:=1000000
theorem gn{n:Nat}(h:n<=lim):n<=FX:=JF h (by decide)
theorem gU{n:Nat}(h:n<=lim):n<FX:=Pp h (by decide)
inductive rM(K:AT)(g:M->M->Option M)(x:V)(y:V)(H:Hp)(Q:VK):Prop
 |mk (Z:Zs) (m1 m2 m:M):(∀a,Z a->H a≠none)->Ro K H Z x m1->Ro K H Z y m2->g m1 m2=some m->(∀z H' Z' G,Ow K H' Z' z m G->aI H Z [] H' Z' G->Q z H')->rM K g x y H Q
theorem rM_v{K:AT}{g:M->M->Option M}:B8 K (rM K g) g:=λH Z x y m1 m2 m Q za h1 h2 e q=>⟨Z,m1,m2,m,za,h1,h2,e,q⟩
inductive v8(K:AT)(g:List M->Option M)(xs:List V)(H:Hp)(Q:VK):Prop
 |mk (Z:Zs) (ms:List M) (m:M):(∀a,Z a->H a≠none)->ER K H Z xs ms->g ms=some m->(∀z H' Z' G,Ow K H' Z' z m G->aI H Z [] H' Z' G->Q z H')->v8 K g xs H Q
theorem yc{K:AT}{g:List M->Option M}:Gu K (v8 K g) g:=λH Z xs ms m Q za h1 e q=>⟨Z,ms,m,za,h1,e,q⟩
section
variable{K:AT}{H H':Hp}{Z:Zs}{x:V}{Q:VK}
theorem Ro.fz{d:B1}(h:Ro K H Z x (.v d)):Fz K H Z x d:=by
 obtain⟨G,h⟩:=h;cases h with
 |v f=>exact f
theorem Ro.int{i:Int}(h:Ro K H Z x (.v (.int i))):x=.int i:=h.fz.int_inv
theorem Ro.bl{i:Bool}(h:Ro K H Z x (.v (.bool i))):x=.bl i:=h.fz.sI
theorem Ro.str{i:Str}(h:Ro K H Z x (.v (.str i))):x=.str i:=h.fz.str_inv
theorem Ro.lst{ds:List B1}(h:Ro K H Z x (.lst ds)):∃a xs,x=.ref a/\H a=some (.lst xs)/\bD K H Z xs ds:=by
 obtain⟨G,h⟩:=h;cases h with
 |lst e f=>exact⟨_,_,rfl,e,f⟩
theorem Ro.aL{ds:List (Key×B1)}(h:Ro K H Z x (.aL ds)):∃a xs,x=.ref a/\H a=some (.dK xs)/\gS K H Z xs ds:=by
 obtain⟨G,h⟩:=h;cases h with
 |aL e f=>exact⟨_,_,rfl,e,f⟩
theorem Ro.bM{ds:List (Key×List B1)}(h:Ro K H Z x (.bM ds)):∃a xs G,x=.ref a/\H a=some (.dK xs)/\iu K H Z xs ds G:=by
 obtain⟨G,h⟩:=h;cases h with
 |bM e f=>exact⟨_,_,_,rfl,e,f⟩
theorem Ro.tup{ds:List B1}(h:Ro K H Z x (.v (.tuple ds))):∃a xs,x=.ref a/\cI K H a xs/\bD K H Z xs ds:=h.fz.ir
noncomputable def lN:M->Option (List B1)
 |.lst ds=>some ds
 |.v (.list ds)=>some ds
 |_=>none
noncomputable def yd:M->Option (List B1)
 |.v (.tuple ds)=>some ds
 |_=>none
noncomputable def seq:M->Option (List B1)
 |.lst ds=>some ds
 |.v (.list ds)=>some ds
 |.v (.tuple ds)=>some ds
 |_=>none
theorem Ro.lN{m:M}{ds:List B1}(h:Ro K H Z x m)(e:VL.lN m=some ds):∃a xs,x=.ref a/\fj K H a xs/\bD K H Z xs ds:=by
 unfold VL.lN at e
 split at e
 ·cases e
  obtain⟨a,xs,e1,e2,e3⟩:=h.lst;exact⟨a,xs,e1,.of e2,e3⟩
 ·cases e
  obtain⟨a,xs,e1,e2,e3⟩:=h.fz.lst_inv;exact⟨a,xs,e1,e2,e3⟩
 ·cases e
theorem Ro.yd{m:M}{ds:List B1}(h:Ro K H Z x m)(e:VL.yd m=some ds):∃a xs,x=.ref a/\cI K H a xs/\bD K H Z xs ds:=by
 unfold VL.yd at e
 split at e
 ·cases e
  exact h.tup
 ·cases e
theorem Ro.seq{m:M}{ds:List B1}(h:Ro K H Z x m)(e:VL.seq m=some ds):∃a xs,x=.ref a/\(fj K H a xs\/cI K H a xs)/\bD K H Z xs ds:=by
 unfold VL.seq at e
 split at e
 ·cases e
  obtain⟨a,xs,e1,e2,e3⟩:=h.lst;exact⟨a,xs,e1,.inl (.of e2),e3⟩
 ·cases e
  obtain⟨a,xs,e1,e2,e3⟩:=h.fz.lst_inv;exact⟨a,xs,e1,.inl e2,e3⟩
 ·cases e
  obtain⟨a,xs,e1,e2,e3⟩:=h.tup;exact⟨a,xs,e1,.inr e2,e3⟩
 ·cases e
theorem aI.same(s:bA H H')(za:∀a,Z a->H a≠none):aI H Z [] H' Z []:=⟨λa o _ e=>s a o e,s.tups,λ_ h=>h,λ_ h=>.inl h,λ_ h=>(nomatch h),JS,λ_ h=>(nomatch h),λa z e=>za a z (s.free e)⟩
theorem aI.sN{p:Addr}{o:HO}(hp:H p=none)(za:∀a,Z a->H a≠none):aI H Z [] (upd H p o) Z [p]:=by
 have s:=cU hp o;exact⟨λa o _ e=>s a o e,s.tups,λ_ h=>h,λ_ h=>.inl h,λa h=>.inr (by rw[Ch] at h; subst h; exact hp),Ha.mpr ⟨HH,JS⟩,λa h z=>by rw[Ch] at h; subst h; exact za _ z hp,λa z e=>za a z (s.free e)⟩
theorem aJ.same(s:bA H H'):aJ H Z H' Z:=⟨s.tups,λa o _ e=>s a o e,λ_ h=>h⟩
theorem cH{z:V}{d:B1}(q:∀z H' Z' G,Ow K H' Z' z (.v d) G->aI H Z [] H' Z' G->Q z H')(za:∀a,Z a->H a≠none)(h:Fz K H Z z d):Q z H:=q z H Z [] (.v h) (aI.same (bA.refl H) za)
theorem endS{z:V}{d:B1}(q:∀z H' Z' G,Ow K H' Z' z (.v d) G->aI H Z [] H' Z' G->Q z H')(za:∀a,Z a->H a≠none)(s:bA H H')(h:Fz K H' Z z d):Q z H':=q z H' Z [] (.v h) (aI.same s za)
theorem endT{p:Addr}{xs:List V}{ds:List B1}(q:∀z H' Z' G,Ow K H' Z' z (.v (.tuple ds)) G->aI H Z [] H' Z' G->Q z H')(za:∀a,Z a->H a≠none)(hp:H p=none)(h:bD K H Z xs ds):Q (.ref p) (upd H p (.tup xs)) :=
 endS q za (cU hp _) (.tup (cI.of aB) (h.mono (aJ.same (cU hp _))))
theorem qM{p:Addr}{xs:List V}{ds:List B1}(q:∀z H' Z' G,Ow K H' Z' z (.lst ds) G->aI H Z [] H' Z' G->Q z H')(za:∀a,Z a->H a≠none)(hp:H p=none)(h:bD K H Z xs ds):Q (.ref p) (upd H p (.lst xs)) :=
 q (.ref p) (upd H p (.lst xs)) Z [p] (.lst aB (h.mono (aJ.same (cU hp _)))) (aI.sN hp za)
end
noncomputable def bH:M->M->Option M
 |.v (.int i),.v (.int j)=>some (.v (.int (i+j)))
 |.v (.tuple a),.v (.tuple b)=>if a.length+b.length<=lim then some (.v (.tuple (a++b))) else none
 |.lst a,.lst b=>if a.length+b.length<=lim then some (.lst (a++b)) else none
 |.v (.str a),.v (.str b)=>if a.length+b.length<=lim then some (.v (.str (a++b))) else none
 |_,_=>none
noncomputable def iB(C:Int->Int->Bool)(g:Int->Int->B1):M->M->Option M
 |.v (.int i),.v (.int j)=>if C i j=true then some (.v (g i j)) else none
 |_,_=>none
section
variable{X:Cx}
theorem bX:dO X (J9 .Add) (rM X.K bH):=by
 intro pins s σ H x y v u Q I rx ry h;obtain⟨Z,m1,m2,m,za,h1,h2,e,q⟩:=h;unfold bH at e
 split at e
 ·cases e
  obtain rfl:=h1.int; obtain rfl:=h2.int;exact CM pins s σ H _ _ v u Q I rx ry ⟨_,_,rfl,rfl,cH q za (.int _)⟩
 ·split at e
  ·next hl=>
   cases e;obtain⟨a,xs,rfl,e2,e3⟩:=h1.tup;obtain⟨b,ys,rfl,e5,e6⟩:=h2.tup;exact AI pins s σ H _ _ v u Q I rx ry ⟨a,b,xs,ys,rfl,rfl,e2,e5,gn (by rw[e3.length,e6.length]; exact hl),λr H' s' t=>endS q za s' (.tup t ((e3.append e6).mono (aJ.same s')))⟩
  ·cases e
 ·split at e
  ·next hl=>
   cases e;obtain⟨a,xs,rfl,e2,e3⟩:=h1.lst;obtain⟨b,ys,rfl,e5,e6⟩:=h2.lst;exact C7 pins s σ H _ _ v u Q I rx ry ⟨a,b,xs,ys,rfl,rfl,e2,e5,gn (by rw[e3.length,e6.length]; exact hl),λp hp=>qM q za hp (e3.append e6)⟩
  ·cases e
 ·split at e
  ·next hl=>
   cases e;obtain rfl:=h1.str; obtain rfl:=h2.str;exact r8 pins s σ H _ _ v u Q I rx ry ⟨_,_,rfl,rfl,gn hl,cH q za (.str _)⟩
  ·cases e
 ·cases e
theorem lP{f:Value->Value->Sem Value}{C:Int->Int->Bool}{P:Int->Int->Prop}{g:Int->Int->B1}{gv:Int->Int->V}(ho:dO X f (rI P gv))(hc:∀i j,C i j=true->P i j)(hg:∀H Z i j,Fz X.K H Z (gv i j) (g i j)):dO X f (rM X.K (iB C g)):=by
 intro pins s σ H x y v u Q I rx ry h;obtain⟨Z,m1,m2,m,za,h1,h2,e,q⟩:=h;unfold iB at e
 split at e
 ·split at e
  ·next hl=>
   cases e;obtain rfl:=h1.int; obtain rfl:=h2.int;exact ho pins s σ H _ _ v u Q I rx ry ⟨_,_,rfl,rfl,hc _ _ hl,cH q za (hg H Z _ _)⟩
  ·cases e
 ·cases e
theorem ux{f:Value->Value->Sem Value}{g:Int->Int->B1}{gv:Int->Int->V}(ho:dO X f (B5 gv))(hg:∀H Z i j,Fz X.K H Z (gv i j) (g i j)):dO X f (rM X.K (iB (λ_ _=>true) g)):=by
 intro pins s σ H x y v u Q I rx ry h;obtain⟨Z,m1,m2,m,za,h1,h2,e,q⟩:=h;unfold iB at e
 split at e
 ·split at e
  ·next hl=>
   cases e;obtain rfl:=h1.int; obtain rfl:=h2.int;exact ho pins s σ H _ _ v u Q I rx ry ⟨_,_,rfl,rfl,cH q za (hg H Z _ _)⟩
  ·cases e
 ·cases e
noncomputable def ju:=iB (λ_ _=>true) λi j=>.int (i-j)
noncomputable def mulM:=iB (λi j=>decide ((-(2 ^ 64)<i/\i<2 ^ 64)\/(-(2 ^ 64)<j/\j<2 ^ 64))) λi j=>.int (i*j)
noncomputable def uy:=iB (λ_ j=>decide (0<j/\j<1073741824)) λi j=>.int (i / j)
noncomputable def iS:=iB (λ_ j=>decide (0<j)) λi j=>.int (i % j)
noncomputable def iT:=iB (λi j=>decide (0<=j/\(IP i:Int)*j<=2 ^ 27)) λi j=>.int (i ^ j.toNat)
theorem jW:dO X (J9 .Sub) (rM X.K ju):=ux CN λ_ _ _ _=>.int _
theorem lQ:dO X (J9 .Mult) (rM X.K mulM):=lP CO (λi j h=>by have h:=of_decide_eq_true h; exact h) λ_ _ _ _=>.int _
theorem uz:dO X (J9 .FloorDiv) (rM X.K uy):=lP Af (λi j h=>by have h:=of_decide_eq_true h; exact h) λ_ _ _ _=>.int _
theorem gV:dO X (J9 .Mod) (rM X.K iS):=lP CP (λ_ _ h=>of_decide_eq_true h) λ_ _ _ _=>.int _
theorem lT:dO X (J9 .Pow) (rM X.K iT):=lP AF (λ_ _ h=>of_decide_eq_true h) λ_ _ _ _=>.int _
noncomputable def AO:M->Option B1
 |.v d=>some d
 |.lst ds=>some (.list ds)
 |_=>none
theorem Ro.reads{pins:List (Addr×Obj)}{σ:L2.St}{H:Hp}{s:B2}{Z:Zs}{x:V}{m:M}{d:B1}{u:Value}(I:Inv X pins σ H s)(h:Ro X.K H Z x m)(e:AO m=some d)(c:d.canLay0=true)(r:RelV x u):∃as,Reads s.heap u d as:=by
 unfold AO at e
 split at e
 ·cases e; exact h.fz.reads I c r
 ·cases e
  obtain⟨a,xs,rfl,e2,e3⟩:=h.lst;cases r;obtain⟨its,rv,⟨o,n,ho,hc,hdd,hd⟩,_⟩:=I.list (fj.of e2);obtain⟨as,h⟩:=e3.reads I c rv;exact⟨_,.list ho hc hd (by simpa using h)⟩
 ·cases e
noncomputable def v9(d e:B1):Bool:=d.canLay0 && e.canLay0 && decide (min d.depth e.depth<=60)
noncomputable def kF(neg:Bool)(m1 m2:M):Option M:=(AO m1).bind λd=>(AO m2).bind λe=>if v9 d e=true then some (.v (.bool (if neg then !PyData.eqv d e else JL d e))) else none
theorem lU(hu:X.A.units+64<cLine):dO X (IG .Eq) (rM X.K (kF false)):=by
 intro pins s σ H x y v u Q I rx ry h;obtain⟨Z,m1,m2,m,za,h1,h2,e,q⟩:=h;obtain⟨d,e1,e⟩:=oB e;obtain⟨d',e2,e⟩:=oB e
 split at e
 ·next ok=>
  cases e;unfold v9 at ok;simp only[J0,decide_eq_true_eq] at ok;obtain⟨as,r1⟩:=h1.reads I e1 ok.1.1 rx;obtain⟨bs,r2⟩:=h2.reads I e2 ok.1.2 ry;exact SeqAt.compareEq_reads r1 r2 ok.1.1 ok.1.2 (by have:=ok.2; lia) ⟨.bl _,H,I,rfl,cH q za (.bl _)⟩
 ·cases e
theorem B9(hu:X.A.units+64<cLine):dO X (IG .NotEq) (rM X.K (kF true)):=by
 intro pins s σ H x y v u Q I rx ry h;obtain⟨Z,m1,m2,m,za,h1,h2,e,q⟩:=h;obtain⟨d,e1,e⟩:=oB e;obtain⟨d',e2,e⟩:=oB e
 split at e
 ·next ok=>
  cases e;unfold v9 at ok;simp only[J0,decide_eq_true_eq] at ok;obtain⟨as,r1⟩:=h1.reads I e1 ok.1.1 rx;obtain⟨bs,r2⟩:=h2.reads I e2 ok.1.2 ry;exact SeqAt.compareNe_reads r1 r2 ok.1.1 ok.1.2 (by have:=ok.2; lia) ⟨.bl _,H,I,rfl,cH q za (.bl _)⟩
 ·cases e
noncomputable def Hv:B1->Option Int
 |.int i=>some i
 |_=>none
noncomputable def gu:List B1->Option (List Int)
 |[]=>some []
 |d::ds=>(Hv d).bind λi=>(gu ds).bind λis=>some (i::is)
theorem bP:∀{ds:List B1}{is:List Int},gu ds=some is->ds=is.map .int:=by
 intro ds
 induction ds with
 |nil=>
  intro _ e;cases e; rfl
 |cons d ds ih=>
  intro _ e;obtain⟨i,e1,e⟩:=oB e;obtain⟨is,e2,e⟩:=oB e;cases e;rw[ih e2];cases d <;> cases e1
  rfl
theorem fX:∀(is:List Int),gu (is.map .int)=some is
 |[]=>rfl
 |i::is=>by show (some i).bind _=_; rw[Ib,fX is]; rfl
noncomputable def wc(gi:Int->Int->Bool)(gt:List Int->List Int->Bool):M->M->Option M
 |.v (.int i),.v (.int j)=>some (.v (.bool (gi i j)))
 |.v (.tuple a),.v (.tuple b)=>(gu a).bind λis=>(gu b).bind λjs=>some (.v (.bool (gt is js)))
 |_,_=>none
theorem Ca(hu:X.A.units+64<cLine):dO X (IG .Lt) (rM X.K (wc (λi j=>decide (i<j)) HT.lexLt)):=by
 intro pins s σ H x y v u Q I rx ry h;obtain⟨Z,m1,m2,m,za,h1,h2,e,q⟩:=h;unfold wc at e
 split at e
 ·cases e
  obtain rfl:=h1.int; obtain rfl:=h2.int;exact op_lt pins s σ H _ _ v u Q I rx ry ⟨_,_,rfl,rfl,cH q za (.bl _)⟩
 ·obtain⟨is,e1,e⟩:=oB e
  obtain⟨js,e2,e⟩:=oB e;cases e;obtain⟨a,xs,rfl,t1,f1⟩:=h1.tup;obtain⟨b,ys,rfl,t2,f2⟩:=h2.tup;rw[bP e1] at f1;rw[bP e2] at f2;rw[f1.cK] at t1;rw[f2.cK] at t2;exact C0 (by lia) pins s σ H _ _ v u Q I rx ry ⟨a,b,is,js,rfl,rfl,t1,t2,cH q za (.bl _)⟩
 ·cases e
theorem ov_ge(hu:X.A.units+64<cLine):dO X (IG .GtE) (rM X.K (wc (λi j=>decide (j<=i)) λa b=> !HT.lexLt a b)):=by
 intro pins s σ H x y v u Q I rx ry h;obtain⟨Z,m1,m2,m,za,h1,h2,e,q⟩:=h;unfold wc at e
 split at e
 ·cases e
  obtain rfl:=h1.int; obtain rfl:=h2.int;exact op_ge pins s σ H _ _ v u Q I rx ry ⟨_,_,rfl,rfl,cH q za (.bl _)⟩
 ·obtain⟨is,e1,e⟩:=oB e
  obtain⟨js,e2,e⟩:=oB e;cases e;obtain⟨a,xs,rfl,t1,f1⟩:=h1.tup;obtain⟨b,ys,rfl,t2,f2⟩:=h2.tup;rw[bP e1] at f1;rw[bP e2] at f2;rw[f1.cK] at t1;rw[f2.cK] at t2;exact Dr (by lia) pins s σ H _ _ v u Q I rx ry ⟨a,b,is,js,rfl,rfl,t1,t2,cH q za (.bl _)⟩
 ·cases e
noncomputable def ye:=iB (λ_ _=>true) λi j=>.bool (decide (j<i))
noncomputable def DH:=wc (λi j=>decide (i<j)) HT.lexLt
noncomputable def FD:=wc (λi j=>decide (j<=i)) λa b=> !HT.lexLt a b
theorem qN:dO X (IG .Gt) (rM X.K ye):=ux op_gt λ_ _ _ _=>.bl _
noncomputable def isNone:M->Bool
 |.v .none=>true
 |_=>false
theorem Ro.isNone{K:AT}{H:Hp}{Z:Zs}{x:V}{m:M}(h:Ro K H Z x m):decide (x=.non)=VL.isNone m:=by
 obtain⟨G,h⟩:=h;cases h with
 |v f=>cases f <;> rfl
 |lst _ _=>rfl
 |aL _ _=>rfl
 |bM _ _=>rfl
noncomputable def we(neg:Bool):M->M->Option M
 |m,.v .none=>some (.v (.bool (if neg then !isNone m else isNone m)))
 |.v (.bool a),.v (.bool b)=>if neg then some (.v (.bool (!(a == b)))) else none
 |_,_=>none
theorem Cb:dO X (IG .Is) (rM X.K (we false)):=by
 intro pins s σ H x y v u Q I rx ry h;obtain⟨Z,m1,m2,m,za,h1,h2,e,q⟩:=h;unfold we at e
 split at e
 ·cases e
  obtain rfl:=h2.fz.uu;exact CS pins s σ H _ _ v u Q I rx ry ⟨rfl,by rw[h1.isNone]; exact cH q za (.bl _)⟩
 ·cases e
 ·cases e
noncomputable def okIn(ds:List B1)(e:B1):Bool:=IK ds && e.canLay0 && decide (e.depth<=50)
noncomputable def ES(neg:Bool)(m1 m2:M):Option M:=(AO m1).bind λe=>(seq m2).bind λds=>if okIn ds e=true then some (.v (.bool (if neg then !(ds.any λd=>JL d e) else ds.any λd=>JL d e))) else none
theorem oq(neg:Bool)(hu:X.A.units+64<cLine){pins:List (Addr×Obj)}{s:B2}{σ:L2.St}{H:Hp}{x y:V}{v u:Value}{Q:VK}(I:Inv X pins σ H s)(rx:RelV x v)(ry:RelV y u)(h:rM X.K (ES neg) x y H Q) :
  ∃ (p:Addr) (its:List Value) (g:Value->Bool) (b:Bool),u=.ref p/\(PlainL s.heap p its.toArray\/s.heap.IsTuple p its.toArray)/\(∀y,y∈its.toArray->Oy X.A.in1 s y v (g y))/\its.toArray.any g=b/\EP X pins σ Q (.bool (if neg then !b else b)) s:=by
 obtain⟨Z,m1,m2,m,za,h1,h2,e,q⟩:=h;obtain⟨d,e1,e⟩:=oB e;obtain⟨ds,e2,e⟩:=oB e
 split at e
 ·next ok=>
  cases e;unfold okIn at ok;simp only[J0,decide_eq_true_eq] at ok;obtain⟨bs,re⟩:=h1.reads I e1 ok.1.2 rx;obtain⟨a,xs,rfl,hq,f⟩:=h2.seq e2;cases ry;have fin:EP X pins σ Q (.bool (if neg then !(ds.any λd'=>JL d' d) else ds.any λd'=>JL d' d)) s:=⟨.bl _,H,I,rfl,cH q za (.bl _)⟩
  rcases hq with hq | hq
  ·obtain⟨its,r,pl,hz⟩:=I.list hq
   obtain⟨as,ra⟩:=f.reads I ok.1.1 r;refine⟨a,its,zU s.heap d,_,rfl,.inl pl,xY (pins:=pins) (σ:=σ) (H:=H) hu ra re ok.1.1 ok.1.2 ok.2,rfl,?_⟩;rw[show its.toArray.any (zU s.heap d)=its.any (zU s.heap d) by simp,pQ ra ok.1.1]
   exact fin
  ·obtain⟨its,r,pl,hz⟩:=I.tuple hq
   obtain⟨as,ra⟩:=f.reads I ok.1.1 r;refine⟨a,its,zU s.heap d,_,rfl,.inr pl,xY (pins:=pins) (σ:=σ) (H:=H) hu ra re ok.1.1 ok.1.2 ok.2,rfl,?_⟩;rw[show its.toArray.any (zU s.heap d)=its.any (zU s.heap d) by simp,pQ ra ok.1.1]
   exact fin
 ·cases e
theorem Cc(hu:X.A.units+64<cLine):dO X (IG .In) (rM X.K (ES false)):=by
 intro pins s σ H x y v u Q I rx ry h;obtain⟨p,its,g,b,rfl,hq,hg,e,fin⟩:=oq false hu I rx ry h;subst e;rcases hq with hq | hq
 ·exact SeqAt.in_listAt g hq.isList hg fin
 ·exact SeqAt.in_tupleAt g hq hg fin
theorem yf(hu:X.A.units+64<cLine):dO X (IG .NotIn) (rM X.K (ES true)):=by
 intro pins s σ H x y v u Q I rx ry h;obtain⟨p,its,g,b,rfl,hq,hg,e,fin⟩:=oq true hu I rx ry h;subst e;rcases hq with hq | hq
 ·exact SeqAt.notIn_listAt g hq.isList hg fin
 ·exact SeqAt.notIn_tupleAt g hq hg fin
end
noncomputable def toD:M->B1
 |.v d=>d
 |.lst ds=>.list ds
 |.aL kvs=>.dict (kvs.map λp=>(sH p.1,p.2))
 |.bM kvs=>.dict ((kvs.map λp=>(p.1,LU p.2)).map λp=>(sH p.1,p.2))
noncomputable def cL:cN->Ev->Option (B1×Ev)
 |.t m,ρ=>some (toD m,ρ)
 |.p i,ρ=>(ck ρ i).bind λm=>some (toD m,ρ.set i (some (.v (toD m))))
 |.q i k,ρ=>match ck ρ i with
  |some (.bM kvs)=>(cg kvs k).bind λds=>some (.list ds,ρ.set i (some (.aL (kvs.map λp=>(p.1,LU p.2)))))
  |_=>none
noncomputable def d8:List cN->Ev->Option (List B1×Ev)
 |[],ρ=>some ([],ρ)
 |o::os,ρ=>(cL o ρ).bind λp=>(d8 os p.2).bind λq=>some (p.1::q.1,q.2)
section
variable{K:AT}{H H0:Hp}{Z Z0:Zs}{F F0 G R:List Addr}{σ:L2.St}{ρ ρ':Ev}{x:V}{o:cN}{d:B1}
theorem aJ.more{G:List Addr}:aJ H Z H (λa=>Z a\/a∈G):=⟨d9.refl,λ_ _ _ e=>e,λ_ z=>.inl z⟩
theorem iu.fz{Z':Zs}(g:aJ H Z H Z'):∀{kxs:List (Key×V)}{kvs:List (Key×List B1)}{G:List Addr},iu K H Z kxs kvs G->(∀a∈G,Z' a)->gS K H Z' kxs (kvs.map λp=>(p.1,LU p.2)):=by
 intro kxs kvs G h
 induction h with
 |nil=>exact λ_=>.nil
 |cons e f r ih=>exact λh=>.cons (.lst (.inl e) (h _ lS) (f.mono g)) (ih λa z=>h a (lO _ z))
theorem Ow.fz{m:M}{Z':Zs}(g:aJ H Z H Z')(h:Ow K H Z x m G)(hz:∀a∈G,Z' a):Fz K H Z' x (toD m):=by
 cases h with
 |v f=>exact f.mono g
 |lst e f=>exact .lst (.inl e) (hz _ lS) (f.mono g)
 |aL e f=>exact .aL e (hz _ lS) (f.mono g)
 |bM e f=>exact .aL e (hz _ lS) (f.fz g λa z=>hz a (lO _ z))
theorem aI.give{A:List Addr}(f:aI H0 Z0 F0 H Z A)(hF:F.Nodup)(hs:∀a∈F,a∈A)(hG:∀a∈G,a∈A)(hd:∀a∈F,a∉G)(al:∀a∈G,H a≠none):aI H0 Z0 F0 H (λa=>Z a\/a∈G) F:=by
 refine⟨f.keep,f.tups,λa z=>.inl (f.zs a z),λa z=>?_,λa h=>f.fr a (hs a h),hF,λa h z=>?_,λa z=>?_⟩
 ·rcases z with z | z
  ·exact f.zn a z
  ·exact .inr (f.fr a (hG a z))
 ·rcases z with z | z
  ·exact f.dz a (hs a h) z
  ·exact hd a h z
 ·rcases z with z | z
  ·exact f.za a z
  ·exact al a z
theorem Fi{A B C:List Addr}(h:(A++B++C).Nodup):A.Nodup/\B.Nodup/\C.Nodup/\(∀a∈A,a∉B)/\(∀a∈A,a∉C)/\∀a∈B,a∉C:=by
 have h1:=FM.mp h;have h2:=FM.mp h1.1;exact⟨h2.1,h2.2.1,h1.2.1,λa x y=>h2.2.2 a x a y rfl,λa x y=>h1.2.2 a (lL _ x) a y rfl,λa x y=>h1.2.2 a (lR _ x) a y rfl⟩
theorem aO{A B:List Addr}(h1:A.Nodup)(h2:B.Nodup)(h:∀a∈A,a∉B):(A++B).Nodup:=FM.mpr ⟨h1,h2,λa x b y e=>h a x (e▸y)⟩
theorem iw{σ:L2.St}{i:Nat}{x:V}(q:σ[i]? = some (some x)):σ.set i (some x)=σ:=by
  refine KN λj=>?_
  rw[Kq]
  split
  · next hj=>subst hj; split
             · exact q.symm
             · next hh=>exact absurd (Da.mp q).1 hh
  · rfl
theorem freeze(S:aS K H Z σ ρ F)(h:ng K H Z σ x o G)(f:aI H0 Z0 F0 H Z (F++G++R))(e:cL o ρ=some (d,ρ')):∃Z' F',aS K H Z' σ ρ' F'/\Fz K H Z' x d/\aI H0 Z0 F0 H Z' (F'++R)/\aJ H Z H Z':=by
 obtain⟨n1,n2,n3,s1,s2,s3⟩:=Fi f.nd;cases h with
 |t q=>
  cases e;refine⟨λa=>Z a\/a∈G,F,S.mono aJ.more λ_ _ _ e=>e,q.fz aJ.more λa h=>.inr h,f.give (aO n1 n3 s2) (λa h=>?_) (λa h=>?_) (λa h z=>?_) q.al,aJ.more⟩
  ·rcases lM h with h | h
   ·exact lL _ (lL _ h)
   ·exact lR _ h
  ·exact lL _ (lR _ h)
  ·rcases lM h with h | h
   ·exact s1 a h z
   ·exact s3 a z h
 |p q=>
  rename_i i
  obtain⟨m,e1,e⟩:=oB e;cases e;obtain⟨x',G',F1,h1,h2,h3,h4,h5⟩:=S.take n1 (aF.mp e1);rw[q] at h1; cases h1;have hl:=(Da.mp (aF.mp e1)).1;have k4:=FM.mp h4;have fz:=h2.fz (aJ.more (G:=G')) λa h=>.inr h
  obtain⟨F2,p1,p2,p3⟩:=(h3.mono (aJ.more (G:=G')) λ_ _ _ e=>e).put (i:=i) (Ow.v fz) (by rw[FB]; exact k4.1) (by rw[Iz hl])
  rw[FB] at p3;rw[N3] at p1;rw[iw q] at p1;refine⟨_,F2,p1,fz,f.give (aO p2 n3 λa h=>s2 a (h5 a (lL _ (p3 a h)))) (λa h=>?_) (λa h=>?_) (λa h z=>?_) h2.al,aJ.more⟩
  ·rcases lM h with h | h
   ·exact lL _ (lL _ (h5 a (lL _ (p3 a h))))
   ·exact lR _ h
  ·exact lL _ (lL _ (h5 a (lR _ h)))
  ·rcases lM h with h | h
   ·exact k4.2.2 a (p3 a h) a z rfl
   ·exact s2 a (h5 a (lR _ z)) h
 |q q1 q2 q3=>
  rename_i i k a0 kxs
  have e:(match ck ρ i with
   |some (.bM kvs)=>(cg kvs k).bind λds=>some (LU ds,ρ.set i (some (M.aL (kvs.map λp=>(p.1,LU p.2)))))
   |_=>none)=some (d,ρ'):=e
  split at e
  ·next kvs hk=>
   obtain⟨ds,e1,e⟩:=oB e;cases e;obtain⟨x',G',F1,h1,h2,h3,h4,h5⟩:=S.take n1 (aF.mp hk);rw[q1] at h1; cases h1;have hl:=(Da.mp (aF.mp hk)).1;cases h2 with
   |bM e2 ol=>
    rename_i kxs' Gl
    rw[q2] at e2; cases e2;have k4:=FM.mp h4;have k5:=Ha.mp k4.2.1;have ow:Ow K H (λa=>Z a\/a∈Gl) (.ref a0) (.aL (kvs.map λp=>(p.1,LU p.2))) [a0]:=.aL q2 (ol.fz aJ.more λa h=>.inr h)
    obtain⟨b,xs,z1,z2,z3,z4⟩:=ol.get e1;rw[q3] at z1; cases z1;obtain⟨F2,p1,p2,p3⟩:=(h3.mono (aJ.more (G:=Gl)) λ_ _ _ e=>e).put (i:=i) ow (aO k4.1 (Ha.mpr ⟨HH,JS⟩) λa h z=>k4.2.2 a h a0 lS (Ch.mp z)) (by rw[Iz hl])
    rw[N3] at p1;rw[iw q1] at p1;have inF:∀a∈F2,a∈F:=λa h=>by
     rcases lM (p3 a h) with h | h
     ·exact h5 a (lL _ h)
     ·exact h5 a (lR _ (by rw[Ch.mp h]; exact lS))
    refine⟨_,F2,p1,.lst (.inl z2) (.inr z4) (z3.mono aJ.more),f.give (aO p2 n3 λa h=>s2 a (inF a h)) (λa h=>?_) (λa h=>?_) (λa h z=>?_) (λa h e=>?_),aJ.more⟩
    ·rcases lM h with h | h
     ·exact lL _ (lL _ (inF a h))
     ·exact lR _ h
    ·exact lL _ (lL _ (h5 a (lR _ (lO _ h))))
    ·rcases lM h with h | h
     ·rcases lM (p3 a h) with h | h
      ·exact k4.2.2 a h a (lO _ z) rfl
      ·rw[Ch.mp h] at z; exact k5.1 z
     ·exact s2 a (h5 a (lR _ (lO _ z))) h
    ·obtain⟨_,z',_⟩:=ol.mem a h; rw[z'] at e; cases e
  ·cases e
theorem ng.yg{Z':Zs}(g:aJ H Z H Z')(h:ng K H Z σ x o G):ng K H Z' σ x o G:=by
 cases h with
 |t q=>exact .t (q.mono g λ_ _ _ e=>e)
 |p q=>exact .p q
 |q a b c=>exact .q a b c
theorem jV.yg{Z Z':Zs}(g:aJ H Z H Z'):∀{os:List cN}{xs:List V}{G:List Addr},jV K H Z σ xs os G->jV K H Z' σ xs os G:=by
 intro os xs G h
 induction h with
 |nil=>exact .nil
 |cons h r ih=>exact .cons (h.yg g) ih
theorem uA:∀{os:List cN}{xs:List V}{ds:List B1}{Z:Zs}{ρ ρ':Ev}{F G:List Addr},aS K H Z σ ρ F->jV K H Z σ xs os G->aI H0 Z0 F0 H Z (F++G)->d8 os ρ=some (ds,ρ')->∃Z' F',aS K H Z' σ ρ' F'/\bD K H Z' xs ds/\aI H0 Z0 F0 H Z' F'/\aJ H Z H Z':=by
 intro os
 induction os with
 |nil=>
  intro xs ds Z ρ ρ' F G S h f e;cases h;cases e; exact⟨_,_,S,.nil,(by rw[FB] at f; exact f),aJ.refl⟩
 |cons o os ih=>
  intro xs ds Z ρ ρ' F G S h f e;cases h with | cons h r=>
  obtain⟨⟨d,ρ1⟩,e1,e⟩:=oB e;obtain⟨⟨ds,ρ2⟩,e2,e⟩:=oB e;cases e;obtain⟨Z1,F1,S1,z1,f1,g1⟩:=freeze S h f.assoc' e1;obtain⟨Z2,F2,S2,z2,f2,g2⟩:=ih S1 (r.yg g1) f1 e2;exact⟨Z2,F2,S2,.cons (z1.mono g2) z2,f2,g1.trans g2⟩
theorem iy(S:aS K H Z σ ρ F)(h:ng K H Z σ x o G)(f:aI H0 Z0 F0 H Z (F++G))(e:cL o ρ=some (d,ρ')):∃Z' F',aS K H Z' σ ρ' F'/\Fz K H Z' x d/\aI H0 Z0 F0 H Z' F'/\aJ H Z H Z':=by
 obtain⟨Z',F',h1,h2,h3,h4⟩:=freeze (R:=[]) S h (by rw[FB]; exact f) e
 rw[FB] at h3;exact⟨Z',F',h1,h2,h3,h4⟩
end
section
variable{X:Cx}{pos:Pos}
noncomputable def cV(fa:FA):FE:=λρ=>(fa ρ).bind λp=>(d8 p.1 p.2).bind λq=>if q.1.length<=lim then some (.t (.v (.tuple q.1)),q.2) else none
noncomputable def di(fa:FA):FE:=λρ=>(fa ρ).bind λp=>(d8 p.1 p.2).bind λq=>if q.1.length<=lim then some (.t (.lst q.1),q.2) else none
theorem DI{es:List Expr}{k:Nat}{fa:FA}(h:VA X es fa):VE X (.Tuple es k pos) (cV fa):=bg (CU h) λσ H Q hq=>by
 obtain⟨Z,ρ,F,o,ρ',S,w,e,q⟩:=hq;obtain⟨⟨os,ρ1⟩,e1,e⟩:=oB e;obtain⟨⟨ds,ρ2⟩,e2,e⟩:=oB e
 split at e
 ·next hl=>
  cases e;refine⟨Z,ρ,F,os,ρ1,S,w,e1,λxs H1 Z1 F1 G1 S1 O1 f1=>?_⟩
  obtain⟨Z2,F2,S2,z2,f2,g2⟩:=uA S1 O1 f1 e2;refine⟨gn (by rw[z2.length]; exact hl),λp hp=>?_⟩
  have n:=aI.same (cU hp (.tup xs)) f2.za;exact q (.ref p) _ Z2 F2 [] (S2.news n) (.t (.v (.tup (cI.of aB) (z2.mono n.uv)))) (f2.trans (n.news f2.wf S2.al))
 ·cases e
theorem DJ{es:List Expr}{fa:FA}(h:VA X es fa):VE X (.List es pos) (di fa):=bg (CV h) λσ H Q hq=>by
 obtain⟨Z,ρ,F,o,ρ',S,w,e,q⟩:=hq;obtain⟨⟨os,ρ1⟩,e1,e⟩:=oB e;obtain⟨⟨ds,ρ2⟩,e2,e⟩:=oB e
 split at e
 ·next hl=>
  cases e;refine⟨Z,ρ,F,os,ρ1,S,w,e1,λxs H1 Z1 F1 G1 S1 O1 f1=>?_⟩
  obtain⟨Z2,F2,S2,z2,f2,g2⟩:=uA S1 O1 f1 e2;refine⟨gn (by rw[z2.length]; exact hl),λp hp=>?_⟩
  have n:=aI.sN (o:=.lst xs) hp f2.za;exact q (.ref p) _ Z2 F2 [p] (S2.news n) (.t (.lst aB (z2.mono n.uv))) (f2.trans (n.news f2.wf S2.al))
 ·cases e
noncomputable def eZ:B1->Option Key
 |.int i=>some (.inl i)
 |.str s=>some (.inr s)
 |_=>none
noncomputable def getM:M->M->Option M
 |.aL kvs,.v k=>(eZ k).bind λk=>(cg kvs k).bind λd=>some (.v d)
 |.v (.str z),.v (.int i)=>if z.length<=lim then (jO z.cps.toList i).bind λc=>some (.v (.str ⟨#[c]⟩)) else none
 |m,.v (.int i)=>(seq m).bind λds=>(jO ds i).bind λd=>some (.v d)
 |_,_=>none
noncomputable def FH:cN->M->Ev->Option (cN×Ev)
 |.t m1,m2,ρ=>(getM m1 m2).bind λm=>some (.t m,ρ)
 |.p i,m2,ρ=>(ck ρ i).bind λm1=>match m1,m2 with
  |.bM kvs,.v k=>(eZ k).bind λk=>(cg kvs k).bind λ_=>some (.q i k,ρ)
  |m1,m2=>(getM m1 m2).bind λm=>some (.t m,ρ)
 |.q _ _,_,_=>none
noncomputable def gH(fa fb:FE):FE:=λρ=>(fa ρ).bind λp=>(fb p.2).bind λq=>(peek q.2 q.1).bind λm2=>FH p.1 m2 q.2
theorem uB{K:AT}{H:Hp}{Z:Zs}:∀{kxs:List (Key×V)}{kvs:List (Key×B1)}{k:Key},gS K H Z kxs kvs->(cg kvs k=none->fS kxs k=none)/\∀d,cg kvs k=some d->∃x,fS kxs k=some x/\Fz K H Z x d:=by
 intro kxs
 induction kxs with
 |nil=>intro kvs k h; cases h; exact⟨λ_=>rfl,λ_ e=>(nomatch e)⟩
 |cons p kxs ih0=>
  intro kvs k h;cases h with | @cons k' _ _ _ _ h r=>
  have ih:=ih0 (k:=k) r;unfold cg;rw[JE]
  by_cases hk:k'=k
  ·subst hk
   simp only[decide_true,Lw];rw[eE rfl];exact⟨λe=>(nomatch e),λd e=>⟨_,rfl,by cases e; exact h⟩⟩
  ·simp only[hk,decide_false]
   rw[eF hk];exact ih
theorem fB{K:AT}{H:Hp}{Z:Zs}{x:V}{d:B1}{k:Key}(h:Fz K H Z x d)(e:eZ d=some k):x=kV k:=by
 cases h <;> cases e <;> rfl
theorem DK{K:AT}{H:Hp}{Z:Zs}{xs:List V}{ds:List B1}{i:Int}{d:B1}(r:bD K H Z xs ds)(e:jO ds i=some d):∃x,jO xs i=some x/\Fz K H Z x d:=by
 unfold jO at e ⊢;rw[r.length];obtain⟨j,e1,e2⟩:=oB e;obtain⟨x,h1,h2⟩:=r.get' e2;exact⟨x,by rw[e1,Ib]; exact h1,h2⟩
theorem ve_ix{a b:Expr}{fa fb:FE}(hu:X.A.units+64<cLine)(ha:VE X a fa)(hb:VE X b fb)(hs:pg b):VE X (.Subscript a b pos) (gH fa fb):=by
 refine bg (sM (pe_ix C3 ha hb hs) (ug (by lia) ha hb hs)) λσ H Q hq=>?_
 obtain⟨Z,ρ,F,o,ρ',S,w,e,q⟩:=hq;obtain⟨⟨o1,ρ1⟩,e1,e⟩:=oB e;obtain⟨⟨o2,ρ2⟩,e2,e⟩:=oB e;obtain⟨m2,e3,e⟩:=oB e;have gen:∀m1 m,jr ρ2 o1=some m1->getM m1 m2=some m->o=.t m->ρ'=ρ2->B4 (GJ X.K) (vE X.K fa) (vE X.K fb) σ H Q\/xG (vE X.K fa) (vE X.K fb) σ H Q:=λm1 m e4 e5 eo er=>by
  subst eo; subst er;have two':∀R:V->V->Hp->Prop,(∀H2 Z2 x y,(∀a,Z2 a->H2 a≠none)->Ro X.K H2 Z2 x m1->Ro X.K H2 Z2 y m2->(∀z H3 Z3 G,Ow X.K H3 Z3 z m G->aI H2 Z2 [] H3 Z3 G->Q z H3)->R x y H2) ->
    vE X.K fa σ H λx H1=>vE X.K fb σ H1 λy H2=>R x y H2:=λR hR=>by
   refine⟨Z,ρ,F,o1,ρ1,S,w,e1,λx H1 Z1 F1 G1 S1 O1 f1=>⟨Z1,ρ1,F1,o2,ρ',S1,f1.left.wf,e2,λy H2 Z2 F2 G2 S2 O2 f2=>?_⟩⟩
   have O1':=O1.mono (dJ e4) (f2.grow f1.left.wf) (f1.qK f2);exact hR H2 Z2 x y f2.za (O1'.peek S2 (dH e4)) (O2.peek S2 e3) λz H3 Z3 G h3 n=>q z H3 Z3 F2 G (S2.news n) (.t h3) ((f1.left.trans f2.left).trans (n.news f2.left.wf S2.al))
  clear q e e3
  unfold getM at e5
  split at e5
  ·rename_i kvs k
   obtain⟨k',e6,e5⟩:=oB e5;obtain⟨d,e7,e5⟩:=oB e5;cases e5;refine .inr (two' _ λH2 Z2 x y za h1 h2 fin=>?_)
   obtain⟨a',kxs,rfl,he,fk⟩:=h1.aL;obtain⟨v,hv,fv⟩:=(uB fk).2 d e7;obtain rfl:=fB h2.fz e6;exact⟨a',v,rfl,hv▸iP.k he,cH fin za fv⟩
  ·rename_i z i
   split at e5
   ·rename_i hl
    obtain⟨c,e7,e5⟩:=oB e5;cases e5;refine .inl (two' _ λH2 Z2 x y za h1 h2 fin=>?_)
    obtain rfl:=h1.str;obtain rfl:=h2.int;exact .inr (.inr ⟨_,_,c,rfl,rfl,gn hl,e7,cH fin za (.str _)⟩)
   ·cases e5
  ·obtain⟨ds,e6,e5⟩:=oB e5
   obtain⟨d,e7,e5⟩:=oB e5;cases e5;refine .inl (two' _ λH2 Z2 x y za h1 h2 fin=>?_)
   obtain⟨a',xs,rfl,hq,fs⟩:=h1.seq e6;obtain rfl:=h2.int;obtain⟨v,hv,fv⟩:=DK fs e7;rcases hq with hq | hq
   ·exact .inl ⟨a',xs,_,v,rfl,rfl,hq,hv,cH fin za fv⟩
   ·exact .inr (.inl ⟨a',xs,_,v,rfl,rfl,hq,hv,cH fin za fv⟩)
  ·cases e5
 cases o1 with
 |t m1=>
  obtain⟨m,e5,e⟩:=oB e
  injection e with e
  injection e with ea eb
  exact gen m1 m rfl e5 ea.symm eb.symm
 |q _ _=>cases e
 |p i=>
  obtain⟨m1,e4,e⟩:=oB e
  split at e
  ·rename_i kvs k
   obtain⟨k',e6,e⟩:=oB e;obtain⟨ds,e7,e⟩:=oB e
   injection e with e
   injection e with ea eb
   subst ea; subst eb;refine .inr ⟨Z,ρ,F,.p i,ρ1,S,w,e1,λx H1 Z1 F1 G1 S1 O1 f1=>⟨Z1,ρ1,F1,o2,_,S1,f1.left.wf,e2,λy H2 Z2 F2 G2 S2 O2 f2=>?_⟩⟩
   cases O1 with
   |p hx=>
    obtain⟨x',G',h1,h2,_⟩:=S2.get (aF.mp e4);rw[hx] at h1; cases h1;cases h2 with
    |bM he ol=>
     obtain⟨b,xs,z1,z2,z3,z4⟩:=ol.get e7;have O2':=O2.peek S2 e3;obtain rfl:=fB O2'.fz e6;exact⟨_,.ref b,rfl,z1▸iP.k he,q (.ref b) H2 Z2 F2 [] S2 (.q hx he z1) (f1.left.trans f2.left).nil⟩
  ·obtain⟨m,e5,e⟩:=oB e
   injection e with e
   injection e with ea eb
   exact gen _ m e4 e5 ea.symm eb.symm
end
section
variable{X:Cx}{pos:Pos}
theorem uC{fa fb:FE}{g:M->M->Option M}{σ:L2.St}{H:Hp}{Q:VK}(hq:vE X.K (vB g fa fb) σ H Q) :
  ∃m1 m2 m,g m1 m2=some m/\∀R:V->V->Hp->Prop,(∀H2 Z2 x y,(∀a,Z2 a->H2 a≠none)->Ro X.K H2 Z2 x m1->Ro X.K H2 Z2 y m2->(∀z H3 Z3 G,Ow X.K H3 Z3 z m G->aI H2 Z2 [] H3 Z3 G->Q z H3)->R x y H2) ->
   vE X.K fa σ H λx H1=>vE X.K fb σ H1 λy H2=>R x y H2:=by
 obtain⟨Z,ρ,F,o,ρ',S,w,e,q⟩:=hq;obtain⟨⟨o1,ρ1⟩,e1,e⟩:=oB e;obtain⟨⟨o2,ρ2⟩,e2,e⟩:=oB e;obtain⟨m1,e3,e⟩:=oB e;obtain⟨m2,e4,e⟩:=oB e;obtain⟨m,e5,e⟩:=oB e;cases e;refine⟨m1,m2,m,e5,λR hR=>⟨Z,ρ,F,o1,ρ1,S,w,e1,λx H1 Z1 F1 G1 S1 O1 f1=>⟨Z1,ρ1,F1,o2,ρ2,S1,f1.left.wf,e2,λy H2 Z2 F2 G2 S2 O2 f2=>?_⟩⟩⟩
 have O1':=O1.mono (dJ e3) (f2.grow f1.left.wf) (f1.qK f2);exact hR H2 Z2 x y f2.za (O1'.peek S2 (dH e3)) (O2.peek S2 e4) λz H3 Z3 G h3 n=>q z H3 Z3 F2 G (S2.news n) (.t h3) ((f1.left.trans f2.left).trans (n.news f2.left.wf S2.al))
noncomputable def iI(neg:Bool):M->M->Option M
 |.v k,.aL kvs=>(eZ k).bind λk=>some (.v (.bool (if neg then !(cg kvs k).isSome else (cg kvs k).isSome)))
 |.v k,.bM kvs=>(eZ k).bind λk=>some (.v (.bool (if neg then !(cg kvs k).isSome else (cg kvs k).isSome)))
 |.v (.str i),.v (.str j)=>some (.v (.bool (if neg then !(!(Ja j i 0 j.length 1).isEmpty) else !(Ja j i 0 j.length 1).isEmpty)))
 |m1,m2=>ES neg m1 m2
theorem yi{K:AT}{H:Hp}{Z:Zs}:∀{kxs:List (Key×V)}{kvs:List (Key×List B1)}{G:List Addr}{k:Key},iu K H Z kxs kvs G->(fS kxs k).isSome=(cg kvs k).isSome:=by
 intro kxs kvs G k h
 induction h with
 |nil=>rfl
 |@cons k' _ _ _ _ _ _ h f r ih=>
  unfold cg;rw[JE]
  by_cases hk:k'=k
  ·subst hk
   simp only[decide_true,Lw];rw[eE rfl];rfl
  ·simp only[hk,decide_false]
   rw[eF hk];exact ih
theorem wg{K:AT}{H:Hp}{Z:Zs}{kxs:List (Key×V)}{kvs:List (Key×B1)}{k:Key}(h:gS K H Z kxs kvs):(fS kxs k).isSome=(cg kvs k).isSome:=by
 obtain⟨h1,h2⟩:=uB (k:=k) h;cases e:cg kvs k with
 |none=>rw[h1 e]; rfl
 |some d=>obtain⟨x,h3,_⟩:=h2 d e; rw[h3]; rfl
theorem yj{neg:Bool}{fa fb:FE}{σ:L2.St}{H:Hp}{Q:VK}{rs:R2}(hrs:rs=λx y H Q=>∃i j,x=.str i/\y=.str j/\Q (.bl (if neg then !(!(Ja j i 0 j.length 1).isEmpty) else !(Ja j i 0 j.length 1).isEmpty)) H)(hq:vE X.K (vB (iI neg) fa fb) σ H Q) :
  (B4 (rM X.K (ES neg)) (vE X.K fa) (vE X.K fb) σ H Q\/B4 rs (vE X.K fa) (vE X.K fb) σ H Q)\/(λσ H Q=>vE X.K fa σ H λy H1=>vE X.K fb σ H1 λx H2=>∃a o,x=.ref a/\iP H2 a y o/\Q (.bl (if neg then !o.isSome else o.isSome)) H2:TE) σ H Q:=by
 obtain⟨m1,m2,m,e,h⟩:=uC hq;unfold iI at e
 split at e
 ·obtain⟨k,e1,e⟩:=oB e
  cases e;refine .inr (h _ λH2 Z2 x y za h1 h2 fin=>?_)
  obtain⟨a,kxs,rfl,he,fk⟩:=h2.aL;obtain rfl:=fB h1.fz e1;refine⟨a,_,rfl,iP.k he,?_⟩;rw[wg fk];exact cH fin za (.bl _)
 ·obtain⟨k,e1,e⟩:=oB e
  cases e;refine .inr (h _ λH2 Z2 x y za h1 h2 fin=>?_)
  obtain⟨a,kxs,G,rfl,he,fk⟩:=h2.bM;obtain rfl:=fB h1.fz e1;refine⟨a,_,rfl,iP.k he,?_⟩;rw[yi fk];exact cH fin za (.bl _)
 ·cases e
  refine .inl (.inr (h _ λH2 Z2 x y za h1 h2 fin=>?_))
  obtain rfl:=h1.str; obtain rfl:=h2.str;rw[hrs];exact⟨_,_,rfl,rfl,cH fin za (.bl _)⟩
 ·exact .inl (.inl (h _ λH2 Z2 x y za h1 h2 fin=>⟨Z2,_,_,_,za,h1,h2,e,fin⟩))
theorem ve_in{a b:Expr}{fa fb:FE}(hu:X.A.units+64<cLine)(ha:VE X a fa)(hb:VE X b fb)(hm:IY .In b=false:=by rfl):VE X (.Compare a [.In] [b] pos) (vB (iI false) fa fb) :=
 bg (sM (sM (o4 (Cc hu) ha hb hm) (o4 nR ha hb hm)) (Cv (xJ (by lia) ha hb) hm)) λ_ _ _ hq=>yj rfl hq
theorem vt_in{a b:Expr}{fa fb:FE}(hu:X.A.units+64<cLine)(ha:VE X a fa)(hb:VE X b fb)(hm:IY .In b=false:=by rfl):VT X (.Compare a [.In] [b] pos) (br (vB (iI false) fa fb)) :=
 lI (pS (pS (i9 (Cc hu) ha hb hm) (i9 nR ha hb hm)) (w9 (xJ (by lia) ha hb) hm)) λ_ _ _ hq=>yj rfl (Ff hq)
theorem ym{a b:Expr}{fa fb:FE}(hu:X.A.units+64<cLine)(ha:VE X a fa)(hb:VE X b fb)(hm:IY .NotIn b=false:=by rfl):VT X (.Compare a [.NotIn] [b] pos) (br (vB (iI true) fa fb)) :=
 lI (pS (pS (i9 (yf hu) ha hb hm) (i9 oZ ha hb hm)) (w9 (vJ (by lia) ha hb) hm)) λ_ _ _ hq=>yj rfl (Ff hq)
noncomputable def qO:M->Option Bool
 |.v .none=>some false
 |.v (.bool b)=>some b
 |.v (.int i)=>some (i != 0)
 |.v (.str y)=>if y.length<=lim then some ((y.length:Int) != 0) else none
 |.v (.tuple ds)=>some (!ds.isEmpty)
 |.v (.list ds)=>some (!ds.isEmpty)
 |.lst ds=>some (!ds.isEmpty)
 |.aL kvs=>some (!kvs.isEmpty)
 |.bM kvs=>some (!kvs.isEmpty)
 |_=>none
noncomputable def jX(f:FE):FT:=λρ=>(f ρ).bind λp=>(peek p.2 p.1).bind λm=>(qO m).bind λb=>some (b,p.2)
theorem FJ{α β:Type}{xs:List α}{ys:List β}(h:xs.length=ys.length):(!xs.isEmpty) = !ys.isEmpty:=by
 cases xs <;> cases ys <;> simp_all
theorem Ro.Hw{K:AT}{H:Hp}{Z:Zs}{x:V}{m:M}{b:Bool}(h:Ro K H Z x m)(e:qO m=some b):TruV K x H b:=by
 have seqs:∀{ds:List B1},VL.seq m=some ds->some (!ds.isEmpty)=some b->TruV K x H b:=λ{ds}e1 e2=>by
  obtain⟨a,xs,rfl,hq,f⟩:=h.seq e1;cases e2;rcases hq with hq | hq
  ·exact .inl ⟨xs,hq,(FJ f.length).symm⟩
  ·exact .inr (.inl ⟨xs,hq,(FJ f.length).symm⟩)
 cases m with
 |v d=>
  cases d with
  |none=>cases e; obtain rfl:=h.fz.uu; exact rfl
  |bool _=>cases e; obtain rfl:=h.bl; exact rfl
  |int _=>cases e; obtain rfl:=h.int; exact rfl
  |str y=>
   have e:(if y.length<=lim then some ((y.length:Int) != 0) else none)=some b:=e
   split at e
   ·next hl=>cases e; obtain rfl:=h.str; exact⟨gn hl,rfl⟩
   ·cases e
  |tuple ds=>exact seqs rfl e
  |list ds=>exact seqs rfl e
  |dict _=>cases e
 |lst ds=>exact seqs rfl e
 |aL kvs=>
  cases e;obtain⟨a,kxs,rfl,he,fk⟩:=h.aL;exact .inr (.inr ⟨kxs,he,(FJ fk.length).symm⟩)
 |bM kvs=>
  cases e;obtain⟨a,kxs,G,rfl,he,fk⟩:=h.bM;refine .inr (.inr ⟨kxs,he,(FJ ?_).symm⟩)
  clear he h seqs
  induction fk with
  |nil=>rfl
  |cons _ _ _ ih=>rw[Bn,Bn,ih]
theorem DL{e:Expr}{f:FE}(h:VE X e f)(he:∀whole,OT e X.env whole=(do let v <-whole; KJ e.pos; L3 [v] (truthy v)):=by intro _; rfl):VT X e (jX f):=lI (xx h he) λσ H Q hq=>by
 obtain⟨Z,ρ,F,b,ρ',S,w,e,q⟩:=hq;obtain⟨⟨o1,ρ1⟩,e1,e⟩:=oB e;obtain⟨m,e2,e⟩:=oB e;obtain⟨b',e3,e⟩:=oB e;cases e;exact⟨Z,ρ,F,o1,ρ1,S,w,e1,λx H1 Z1 F1 G1 S1 O1 f1=>⟨_,(O1.peek S1 e2).Hw e3,q H1 Z1 F1 S1 f1.left⟩⟩
abbrev FO:=Ev->Option (Option Int×Ev)
inductive vO(K:AT)(f:FO)(σ:L2.St)(H:Hp)(Q:Option Int->Hp->Prop):Prop
 |mk (Z:Zs) (ρ:Ev) (F:List Addr) (o:Option Int) (ρ':Ev):aS K H Z σ ρ F->Wf H Z F->f ρ=some (o,ρ')->(∀H' Z' F',aS K H' Z' σ ρ' F'->aI H Z F H' Z' F'->Q o H')->vO K f σ H Q
noncomputable def dm:FO:=λρ=>some (none,ρ)
noncomputable def dw(f:FE):FO:=λρ=>(f ρ).bind λp=>(peek p.2 p.1).bind λm=>match m with
 |.v (.int i)=>some (some i,p.2)
 |_=>none
theorem AQ:PO X none (vO X.K dm):=λpins s σ H Q I hq=>Aj pins s σ H Q I (by
 obtain⟨Z,ρ,F,o,ρ',S,w,e,q⟩:=hq;cases e;exact q H Z F S (aI.refl w))
theorem AR{e:Expr}{f:FE}(h:VE X e f):PO X (some e) (vO X.K (dw f)):=λpins s σ H Q I hq=>Ak h pins s σ H Q I (by
 obtain⟨Z,ρ,F,o,ρ',S,w,e,q⟩:=hq;obtain⟨⟨o1,ρ1⟩,e1,e⟩:=oB e;obtain⟨m1,e3,e⟩:=oB e;refine⟨Z,ρ,F,o1,ρ1,S,w,e1,λx H1 Z1 F1 G1 S1 O1 f1=>?_⟩
 split at e
 ·cases e
  obtain rfl:=(O1.peek S1 e3).int;exact⟨_,rfl,q H1 Z1 F1 S1 f1.left⟩
 ·cases e)
noncomputable def cutD(ds:List B1)(lo hi:Option Int):List B1:=(ds.drop (HT.cJ ds.length 0 lo)).take (HT.cJ ds.length ds.length hi-HT.cJ ds.length 0 lo)
theorem sO{K:AT}{H:Hp}{Z:Zs}{xs:List V}{ds:List B1}(r:bD K H Z xs ds)(lo hi:Option Int):bD K H Z (kX xs lo hi) (cutD ds lo hi):=by
 unfold kX cutD;rw[r.length];exact(r.drop _).take _
noncomputable def ET(lo hi:Option Int):M->Option M
 |.v (.tuple ds)=>some (.v (.tuple (cutD ds lo hi)))
 |.lst ds=>some (.lst (cutD ds lo hi))
 |.v (.list ds)=>some (.lst (cutD ds lo hi))
 |_=>none
noncomputable def wj(fa:FE)(fl fh:FO):FE:=λρ=>(fa ρ).bind λp=>(fl p.2).bind λl=>(fh l.2).bind λh=>(jr h.2 p.1).bind λm=>(ET l.1 h.1 m).bind λm'=>some (.t m',h.2)
theorem Al.or{r r':V->Option Int->Option Int->Hp->VK->Prop}(h:Al X r)(h':Al X r'):Al X (λx lo hi H Q=>r x lo hi H Q\/r' x lo hi H Q):=by
 intro pins s σ H x v vl vu lo hi sl Q I rx hs pl pu q;rcases q with q | q
 ·exact h pins s σ H x v vl vu lo hi sl Q I rx hs pl pu q
 ·exact h' pins s σ H x v vl vu lo hi sl Q I rx hs pl pu q
theorem ve_sl{e:Expr}{lo hi:Option Expr}{p2:Pos}{fa:FE}{fl fh:FO}(ha:VE X e fa)(hl:PO X lo (vO X.K fl))(hh:PO X hi (vO X.K fh)):VE X (.Subscript e (.Slice lo hi none p2) pos) (wj fa fl fh):=bg (xD (Al.or AJ Aq) ha hl hh) λσ H Q hq=>by
 obtain⟨Z,ρ,F,o,ρ',S,w,e,q⟩:=hq;obtain⟨⟨o1,ρ1⟩,e1,e⟩:=oB e;obtain⟨⟨l,ρ2⟩,e2,e⟩:=oB e;obtain⟨⟨h,ρ3⟩,e3,e⟩:=oB e;obtain⟨m,e4,e⟩:=oB e;obtain⟨m',e5,e⟩:=oB e;cases e;refine⟨Z,ρ,F,o1,ρ1,S,w,e1,λx H1 Z1 F1 G1 S1 O1 f1=>⟨Z1,ρ1,F1,l,ρ2,S1,f1.left.wf,e2,λH2 Z2 F2 S2 f2=>⟨Z2,ρ2,F2,h,ρ3,S2,f2.wf,e3,λH3 Z3 F3 S3 f3=>?_⟩⟩⟩
 have f23:=f2.trans f3;have O1':=O1.mono (dJ e4) (f23.grow f1.left.wf) (f1.qK f23);have r:=O1'.peek S3 (dH e4);have fin:∀z H4 Z4 G,Ow X.K H4 Z4 z m' G->aI H3 Z3 [] H4 Z4 G->Q z H4:=λz H4 Z4 G h4 n=>q z H4 Z4 F3 G (S3.news n) (.t h4) ((f1.left.trans f23).trans (n.news f3.wf S3.al))
 unfold ET at e5
 split at e5
 ·cases e5
  obtain⟨a,xs,rfl,hx,fx⟩:=r.tup;exact .inl ⟨a,xs,rfl,hx,λr H' s' t=>endS fin f3.za s' (.tup t ((sO fx _ _).mono (aJ.same s')))⟩
 ·cases e5
  obtain⟨a,xs,rfl,hx,fx⟩:=r.lN rfl;exact .inr ⟨a,xs,rfl,hx,λp hp=>qM fin f3.za hp (sO fx _ _)⟩
 ·cases e5
  obtain⟨a,xs,rfl,hx,fx⟩:=r.lN rfl;exact .inr ⟨a,xs,rfl,hx,λp hp=>qM fin f3.za hp (sO fx _ _)⟩
 ·cases e5
noncomputable def wk:M->Option M
 |.v (.int i)=>some (.v (.int (-i)))
 |_=>none
theorem DM{a:Expr}{fa:FE}(ha:VE X a fa):VE X (.UnaryOp .USub a pos) (vU wk fa):=bg (pe_un CQ ha) λσ H Q hq=>one (r:=rU λi=>.int (-i)) (λH Z x m1 m Q za h1 e q=>by
 unfold wk at e
 split at e
 ·cases e
  obtain rfl:=h1.int;exact⟨_,rfl,cH q za (.int _)⟩
 ·cases e) hq
end
section
variable{α:Type}
noncomputable def ins(lt:α->α->Bool)(x:α):List α->List α
 |[]=>[x]
 |y::ys=>if lt y x=true then y::ins lt x ys else x::y::ys
noncomputable def qP(lt:α->α->Bool):List α->List α
 |[]=>[]
 |x::xs=>ins lt x (qP lt xs)
theorem lV(lt:α->α->Bool)(x:α):∀ys:List α,(ins lt x ys).Perm (x::ys)
 |[]=>.refl _
 |y::ys=>by
  unfold ins
  split
  ·exact((lV lt x ys).cons y).trans (.swap x y ys)
  ·exact .refl _
theorem eO(lt:α->α->Bool):∀xs:List α,(qP lt xs).Perm xs
 |[]=>.refl _
 |x::xs=>(lV lt x _).trans ((eO lt xs).cons x)
theorem yo{lt:α->α->Bool}(as:∀a b,lt a b=true->lt b a=false)(tr:∀a b c,lt b a=false->lt c b=false->lt c a=false)(x:α):∀{ys:List α},ys.Pairwise (λa b=>lt b a=false)->(ins lt x ys).Pairwise (λa b=>lt b a=false)
 |[],_=>Lr _ _
 |y::ys,h=>by
  obtain⟨h1,h2⟩:=Ip.mp h;unfold ins
  split
  ·next e=>
   refine Ip.mpr ⟨λz hz=>?_,yo as tr x h2⟩
   rcases lK ((lV lt x ys).mem_iff.mp hz) with hz | hz
   ·subst hz; exact as _ _ e
   ·exact h1 z hz
  ·next e=>
   have e:lt y x=false:=by simpa using e
   refine Ip.mpr ⟨λz hz=>?_,h⟩
   rcases lK hz with hz | hz
   ·subst hz; exact e
   ·exact tr _ _ _ e (h1 z hz)
theorem lW{lt:α->α->Bool}(as:∀a b,lt a b=true->lt b a=false)(tr:∀a b c,lt b a=false->lt c b=false->lt c a=false):∀xs:List α,(qP lt xs).Pairwise (λa b=>lt b a=false)
 |[]=>.nil
 |x::xs=>yo as tr x (lW as tr xs)
end
noncomputable def ltI(a b:Int):Bool:=decide (a<b)
noncomputable def sortI(ns:List Int):List Int:=qP ltI ns
noncomputable def yp(ks:List (List Int)):List (List Int):=qP HT.lexLt ks
theorem iJ:∀(a b:List Int),HT.lexLt a b=false->HT.lexLt b a=false->a=b
 |[],[],_,_=>rfl
 |[],_::_,h,_=>by cases h
 |_::_,[],_,h=>by cases h
 |x::xs,y::ys,h,h'=>by
  rw[HT.cO] at h h'
  by_cases e:x=y
  ·subst e
   rw[if_pos rfl] at h h';rw[iJ xs ys h h']
  ·rw[if_neg e] at h
   rw[if_neg (K8 e)] at h';have h:=of_decide_eq_false h;have h':=of_decide_eq_false h';lia
theorem sP{ns ns':List Int}(p:ns'.Perm ns)(s:ns'.Pairwise (·<=·)):ns'=sortI ns:=by
 refine NR (le:=λa b=>ltI b a=false) (λa b _ _ h1 h2=>?_) (s.imp λh=>?_) (lW (λa b h=>?_) (λa b c h1 h2=>?_) ns) (p.trans (eO _ ns).symm)
 ·unfold ltI at h1 h2
  have h1:=of_decide_eq_false h1;have h2:=of_decide_eq_false h2;lia
 ·exact decide_eq_false (by lia)
 ·have h:=of_decide_eq_true h
  exact decide_eq_false (by lia)
 ·have h1:=of_decide_eq_false h1
  have h2:=of_decide_eq_false h2;exact decide_eq_false (by lia)
theorem sQ{ns ns':List (List Int)}(p:ns'.Perm ns)(s:ns'.Pairwise λa b=>HT.lexLt b a=false):ns'=yp ns :=
 NR (le:=λa b=>HT.lexLt b a=false) (λa b _ _ h1 h2=>iJ a b h2 h1) s (lW eN fq ns) (p.trans (eO _ ns).symm)
noncomputable def tI(ns:List Int):B1:=.tuple (ns.map .int)
noncomputable def Hx:B1->Option (List Int)
 |.tuple ds=>gu ds
 |_=>none
noncomputable def sR:List B1->Option (List (List Int))
 |[]=>some []
 |d::ds=>(Hx d).bind λi=>(sR ds).bind λis=>some (i::is)
theorem jv:∀{ds:List B1}{ks:List (List Int)},sR ds=some ks->ds=ks.map tI:=by
 intro ds
 induction ds with
 |nil=>intro _ e; cases e; rfl
 |cons d ds ih=>
  intro _ e;obtain⟨i,e1,e⟩:=oB e;obtain⟨is,e2,e⟩:=oB e;cases e;rw[ih e2];cases d with
  |tuple xs=>rw[GM]; unfold tI; rw[bP e1]
  |_=>cases e1
theorem uD:∀(ks:List (List Int)),sR (ks.map tI)=some ks
 |[]=>rfl
 |k::ks=>by show (gu (k.map .int)).bind _=_; rw[fX,Ib,uD ks]; rfl
theorem bD.G6{K:AT}{H:Hp}{Z:Zs}:∀{ks:List (List Int)}{xs:List V},bD K H Z xs (ks.map tI)->zT K H xs ks:=by
 intro ks
 induction ks with
 |nil=>intro xs h; cases h; exact .nil
 |cons k ks ih=>
  intro xs h;cases h with | cons h r=>
  exact .cons (by obtain⟨a,xs,e1,e2,e3⟩:=h.ir; rw[e3.cK] at e2; exact⟨a,e1,e2⟩) (ih r)
theorem bD.sU{K:AT}{H:Hp}{Z:Zs}{xs:List V}{ks:List (List Int)}(r:zT K H xs ks):∀(zs:List (V×List Int)),(∀z∈zs,z∈xs.zip ks)->bD K H Z (zs.map (·.1)) ((zs.map (·.2)).map tI)
 |[],_=>.nil
 |z::zs,h=>.cons (by
  have hz:=h z lS;have:∀{xs:List V}{ks:List (List Int)},zT K H xs ks->z∈xs.zip ks->∃a,z.1=.ref a/\cI K H a (z.2.map V.int):=λ{xs ks}r hz=>by
   induction r with
   |nil=>simp at hz
   |cons q _ ih=>
    rw[Jb] at hz;rcases lK hz with hz | hz
    ·subst hz; exact q
    ·exact ih hz
  obtain⟨a,e1,e2⟩:=this r hz;show Fz K H Z z.1 (tI z.2);rw[e1];exact .tup e2 (bD.ints _)) (bD.sU r zs λz' h'=>h z' (lO _ h'))
noncomputable def inlK:Key->Option Int
 |.inl i=>some i
 |.inr _=>none
noncomputable def inls:List Key->Option (List Int)
 |[]=>some []
 |k::ks=>(inlK k).bind λi=>(inls ks).bind λis=>some (i::is)
theorem qQ:∀{ks:List Key}{is:List Int},inls ks=some is->ks=is.map Kr:=by
 intro ks
 induction ks with
 |nil=>intro _ e; cases e; rfl
 |cons k ks ih=>
  intro _ e;obtain⟨i,e1,e⟩:=oB e;obtain⟨is,e2,e⟩:=oB e;cases e;rw[ih e2];cases k with
  |inl j=>cases e1; rfl
  |inr _=>cases e1
noncomputable def uE(ds:List B1):Option (List B1) :=
 if ds.length<64 then
  match gu ds with
  |some ns=>some ((sortI ns).map .int)
  |none=>(sR ds).bind λks=>if ks.all (λk=> !k.isEmpty)=true then some ((yp ks).map tI) else none
 else none
noncomputable def qR:List M->Option M
 |[.aL kvs]=>(inls (kvs.map (·.1))).bind λns=>if ns.length<64 then some (.lst ((sortI ns).map .int)) else none
 |[.bM kvs]=>(inls (kvs.map (·.1))).bind λns=>if ns.length<64 then some (.lst ((sortI ns).map .int)) else none
 |[.v (.tuple ds)]=>(gu ds).bind λns=>if ns.length<64 then some (.lst ((sortI ns).map .int)) else none
 |[m]=>(lN m).bind λds=>(uE ds).bind λes=>some (.lst es)
 |_=>none
theorem iu.keys{K:AT}{H:Hp}{Z:Zs}:∀{xs:List (Key×V)}{ds:List (Key×List B1)}{G:List Addr},iu K H Z xs ds G->xs.map (·.1)=ds.map (·.1):=by
 intro xs ds G h
 induction h with
 |nil=>rfl
 |cons _ _ r ih=>rw[GM,GM,ih]
section
variable{X:Cx}{pos:Pos}
theorem gI{K:AT}{H:Hp}{Z:Zs}{xs:List V}{m:M}(h:ER K H Z xs [m]):∃x,xs=[x]/\Ro K H Z x m:=by
 cases h with
 |cons h r=>cases r; exact⟨_,rfl,h⟩
theorem ros2{K:AT}{H:Hp}{Z:Zs}{xs:List V}{m m':M}(h:ER K H Z xs [m,m']):∃x y,xs=[x,y]/\Ro K H Z x m/\Ro K H Z y m':=by
 cases h with
 |cons h r=>cases r with
  |cons h' r=>cases r; exact⟨_,_,rfl,h,h'⟩
theorem wm(hc:X.calm=true):bY X (.builtin "sorted") (v8 X.K qR):=by
 intro pins s σ H xs us Q I rs h;obtain⟨Z,ms,m,za,hr,e,q⟩:=h;have hInt:∀{ns ns':List Int}{l:Addr},(∀z H' Z' G,Ow X.K H' Z' z (.lst ((sortI ns).map .int)) G->aI H Z [] H' Z' G->Q z H')->ns'.Perm ns->ns'.Pairwise (·<=·)->H l=none->Q (.ref l) (upd H l (.lst (ns'.map V.int))):=λ{ns ns' l}q p w hl=>by
  rw[sP p w];exact qM q za hl (bD.ints _)
 unfold qR at e
 split at e
 ·obtain⟨ns,e1,e⟩:=oB e
  split at e
  ·next h64=>
   cases e;obtain⟨x,rfl,h1⟩:=gI hr;obtain⟨a,kxs,rfl,he,fk⟩:=h1.aL;exact fV hc pins s σ H _ us Q I rs ⟨a,kxs,ns,rfl,he,by rw[fk.keys,qQ e1],h64,λns' l p w hl=>hInt q p w hl⟩
  ·cases e
 ·obtain⟨ns,e1,e⟩:=oB e
  split at e
  ·next h64=>
   cases e;obtain⟨x,rfl,h1⟩:=gI hr;obtain⟨a,kxs,G,rfl,he,fk⟩:=h1.bM;exact fV hc pins s σ H _ us Q I rs ⟨a,kxs,ns,rfl,he,by rw[fk.keys,qQ e1],h64,λns' l p w hl=>hInt q p w hl⟩
  ·cases e
 ·obtain⟨ns,e1,e⟩:=oB e
  split at e
  ·next h64=>
   cases e;obtain⟨x,rfl,h1⟩:=gI hr;obtain⟨a,xs,rfl,hx,fx⟩:=h1.tup;rw[bP e1] at fx;rw[fx.cK] at hx;exact jU pins s σ H _ us Q I rs ⟨a,ns,rfl,hx,h64,λns' l p w hl=>hInt q p w hl⟩
  ·cases e
 ·next m0 _ _ _=>
  obtain⟨ds,e1,e⟩:=oB e;obtain⟨es,e2,e⟩:=oB e;cases e;obtain⟨x,rfl,h1⟩:=gI hr;obtain⟨a,xs,rfl,hx,fx⟩:=h1.lN e1;unfold uE at e2
  split at e2
  ·next h64=>
   split at e2
   ·next ns e3=>
    cases e2;rw[bP e3] at fx h64;rw[fx.cK] at hx;exact jS pins s σ H _ us Q I rs ⟨a,ns,rfl,hx,by simpa using h64,λns' l p w hl=>hInt q p w hl⟩
   ·obtain⟨ks,e3,e2⟩:=oB e2
    split at e2
    ·next hne=>
     cases e2;rw[jv e3] at fx;have hl:xs.length=ks.length:=by rw[fx.length,D1]
     have ht:=fx.G6;refine jT pins s σ H _ us Q I rs ⟨a,xs,ks,rfl,hx,ht,λt h z=>?_,?_,λzs l p w hl' =>?_⟩
     ·have:=Kz.mp hne t h
      rw[z] at this;cases this
     ·have:ds.length=ks.length:=by rw[jv e3,D1]
      lia
     ·have e:zs.map (·.2)=yp ks:=sQ ((p.map (·.2)).trans (by rw[Q4 (by lia)])) w
      have:=bD.sU (Z:=Z) ht zs λz h=>p.mem_iff.mp h
      rw[e] at this;exact qM q za hl' this
    ·cases e2
  ·cases e2
 ·cases e
noncomputable def jw:List M->Option M
 |[.aL kvs]=>some (.v (.int kvs.length))
 |[.bM kvs]=>some (.v (.int kvs.length))
 |[.v (.str z)]=>if z.length<=lim then some (.v (.int z.length)) else none
 |[m]=>(seq m).bind λds=>some (.v (.int ds.length))
 |_=>none
theorem iu.length{K:AT}{H:Hp}{Z:Zs}:∀{xs:List (Key×V)}{ds:List (Key×List B1)}{G:List Addr},iu K H Z xs ds G->xs.length=ds.length
 |_,_,_,.nil=>rfl
 |_,_,_,.cons _ _ r=>by rw[Bn,Bn,iu.length r]
theorem lX:bY X (.builtin "len") (v8 X.K jw):=by
 intro pins s σ H xs us Q I rs h;obtain⟨Z,ms,m,za,hr,e,q⟩:=h;unfold jw at e
 split at e
 ·cases e
  obtain⟨x,rfl,h1⟩:=gI hr;obtain⟨a,kxs,rfl,he,fk⟩:=h1.aL;exact n8 pins s σ H _ us Q I rs ⟨a,kxs,rfl,he,by rw[fk.length]; exact cH q za (.int _)⟩
 ·cases e
  obtain⟨x,rfl,h1⟩:=gI hr;obtain⟨a,kxs,G,rfl,he,fk⟩:=h1.bM;exact n8 pins s σ H _ us Q I rs ⟨a,kxs,rfl,he,by rw[fk.length]; exact cH q za (.int _)⟩
 ·split at e
  ·next hl=>
   cases e;obtain⟨x,rfl,h1⟩:=gI hr;obtain rfl:=h1.str;exact pB pins s σ H _ us Q I rs ⟨_,rfl,gn hl,cH q za (.int _)⟩
  ·cases e
 ·obtain⟨ds,e1,e⟩:=oB e
  cases e;obtain⟨x,rfl,h1⟩:=gI hr;obtain⟨a,ys,rfl,hx,fx⟩:=h1.seq e1;exact pA pins s σ H _ us Q I rs ⟨a,ys,rfl,hx,by rw[fx.length]; exact cH q za (.int _)⟩
 ·cases e
noncomputable def jx:List M->Option M
 |[m]=>(seq m).bind λds=>some (.v (.tuple ds))
 |_=>none
theorem fY:bY X (.type "tuple") (v8 X.K jx):=by
 intro pins s σ H xs us Q I rs h;obtain⟨Z,ms,m,za,hr,e,q⟩:=h;unfold jx at e
 split at e
 ·obtain⟨ds,e1,e⟩:=oB e
  cases e;obtain⟨x,rfl,h1⟩:=gI hr;obtain⟨a,ys,rfl,hx,fx⟩:=h1.seq e1;refine nB pins s σ H _ us Q I rs ⟨a,ys,rfl,?_⟩;rcases hx with hx | hx
  ·exact .inl ⟨hx,λl hl=>endT q za hl fx⟩
  ·exact .inr ⟨hx,cH q za (.tup hx fx)⟩
 ·cases e
noncomputable def sV:List M->Option M
 |[.v (.int i)]=>some (.v (.int (if i<0 then -i else i)))
 |_=>none
theorem yq:bY X (.builtin "abs") (v8 X.K sV):=by
 intro pins s σ H xs us Q I rs h;obtain⟨Z,ms,m,za,hr,e,q⟩:=h;unfold sV at e
 split at e
 ·cases e
  obtain⟨x,rfl,h1⟩:=gI hr;obtain rfl:=h1.int;exact xy pins s σ H _ us Q I rs ⟨_,rfl,cH q za (.int _)⟩
 ·cases e
noncomputable def iK:List M->Option M
 |[.v (.int i)]=>some (.v (.int i))
 |[.v (.bool k)]=>some (.v (.int (if k then 1 else 0)))
 |_=>none
theorem sW:bY X (.type "int") (v8 X.K iK):=by
 intro pins s σ H xs us Q I rs h;obtain⟨Z,ms,m,za,hr,e,q⟩:=h;unfold iK at e
 split at e
 ·cases e
  obtain⟨x,rfl,h1⟩:=gI hr;obtain rfl:=h1.int;exact nS pins s σ H _ us Q I rs (.inl ⟨_,rfl,cH q za (.int _)⟩)
 ·cases e
  obtain⟨x,rfl,h1⟩:=gI hr;obtain rfl:=h1.bl;exact nS pins s σ H _ us Q I rs (.inr ⟨_,rfl,cH q za (.int _)⟩)
 ·cases e
noncomputable def Hy:B1->Option Bool
 |.bool b=>some b
 |_=>none
noncomputable def sX:List B1->Option (List Bool)
 |[]=>some []
 |d::ds=>(Hy d).bind λi=>(sX ds).bind λis=>some (i::is)
theorem yr:∀{ds:List B1}{is:List Bool},sX ds=some is->ds=is.map .bool:=by
 intro ds
 induction ds with
 |nil=>intro _ e; cases e; rfl
 |cons d ds ih=>
  intro _ e;obtain⟨i,e1,e⟩:=oB e;obtain⟨is,e2,e⟩:=oB e;cases e;rw[ih e2];cases d <;> cases e1
  rfl
theorem bD.wo{K:AT}{H:Hp}{Z:Zs}:∀{ns:List Bool}{xs:List V},bD K H Z xs (ns.map .bool)->xs=Fe ns:=by
 intro ns
 induction ns with
 |nil=>intro xs h; cases h; rfl
 |cons n ns ih=>
  intro xs h;cases h with | cons q r=>
  cases q;rw[ih r]; rfl
noncomputable def allM(any:Bool):List M->Option M
 |[m]=>(lN m).bind λds=>(sX ds).bind λbs=>some (.v (.bool (if any then bs.any id else bs.all id)))
 |_=>none
theorem DN(hc:X.calm=true):bY X (.builtin "all") (v8 X.K (allM false)):=by
 intro pins s σ H xs us Q I rs h;obtain⟨Z,ms,m,za,hr,e,q⟩:=h;unfold allM at e
 split at e
 ·obtain⟨ds,e1,e⟩:=oB e
  obtain⟨bs,e2,e⟩:=oB e;cases e;obtain⟨x,rfl,h1⟩:=gI hr;obtain⟨a,ys,rfl,hx,fx⟩:=h1.lN e1;rw[yr e2] at fx;rw[fx.wo] at hx;exact lD hc pins s σ H _ us Q I rs ⟨a,bs,rfl,hx,cH q za (.bl _)⟩
 ·cases e
theorem ve_cb{id:String}{x:Str}{p:Pos}{e:Expr}{es:List Expr}{g:List M->Option M}{fa:FA}(hc:bY X (.builtin id) (v8 X.K g))(hg:Gl X x)(hm:X.mg x=none)(hv:JI x=some (.builtin id))(ha:VA X (e::es) fa)(hn:x ≠ "__name__" := by decide)(hdb:(x == ("__debug__" : Str))=false:=by decide)
  (he:FK (e::es) X.env=(false,eval e X.env)::FK es X.env:=by rfl) (hpl:(K6 pos (FK es X.env)).any (·.1)=false:=by rfl):VE X (.Call (.Name x p) (e::es) [] pos) (fW g fa):=bg (qq hc hg hm hv ha hn hdb he hpl) λ_ _ _=>many yc
theorem ve_ct{T:String}{x:Str}{p:Pos}{e:Expr}{es:List Expr}{g:List M->Option M}{fa:FA}(hc:bY X (.type T) (v8 X.K g))(hg:Gl X x)(hm:X.mg x=none)(hv:JI x=some (.type T))(ha:VA X (e::es) fa)(hn:x ≠ "__name__" := by decide)(hdb:(x == ("__debug__" : Str))=false:=by decide)
  (he:FK (e::es) X.env=(false,eval e X.env)::FK es X.env:=by rfl) (hpl:(K6 pos (FK es X.env)).any (·.1)=false:=by rfl):VE X (.Call (.Name x p) (e::es) [] pos) (fW g fa):=bg (vD hc hg hm hv ha hn hdb he hpl) λ_ _ _=>many yc
noncomputable def clsD:B1->String
 |.none=> "NoneType"
 |.bool _=> "bool"
 |.int _=> "int"
 |.str _=> "str"
 |.tuple _=> "tuple"
 |.list _=> "list"
 |.dict _=> "dict"
noncomputable def lY:M->String
 |.v d=>clsD d
 |.lst _=> "list"
 |.aL _=> "dict"
 |.bM _=> "dict"
theorem Ro.cls{K:AT}{H:Hp}{Z:Zs}{x:V}{m:M}(h:Ro K H Z x m):gF K H x (lY m):=by
 obtain⟨G,h⟩:=h;cases h with
 |v f=>
  cases f with
  |non=>exact .non
  |bl b=>exact .bl b
  |int i=>exact .int i
  |str x=>exact .str x
  |tup q _=>exact .tup q
  |lst q _ _=>exact .lst (.inl q)
  |lsK q _=>exact .lst (.inr q)
  |aL q _ _=>exact .dK q
 |lst e _=>exact .lst (fj.of e)
 |aL e _=>exact .dK e
 |bM e _=>exact .dK e
noncomputable def lZ(c:String)(m:M):Option M:=some (.v (.bool (subB (lY m) c)))
theorem DO{p p2:Pos}{e:Expr}{c:String}{y:Str}{fa:FE}(hc:c∈cT)(hn:c ≠ "NoneType")(hg:Gl X "isinstance")(hm:X.mg "isinstance" = none)(hv:JI "isinstance" = some (.builtin "isinstance"))(ha:VE X e fa)(hy:PE X (.Name y p2) (tC (.ty c)))
  (he:FK [e,.Name y p2] X.env=[(false,eval e X.env),(false,eval (.Name y p2) X.env)]:=by rfl) (he2:FK [.Name y p2] X.env=[(false,eval (.Name y p2) X.env)]:=by rfl) (hpl:(K6 pos (FK [.Name y p2] X.env)).any (·.1)=false:=by rfl):VE X (.Call (.Name "isinstance" p) [e,.Name y p2] [] pos) (vU (lZ c) fa) :=
 bg (qq qG hg hm hv (ja ha (ja hy o6 he2) he) (by decide) (by decide) he hpl) λσ H Q hq=>one (r:=λx H1 Q=>∃x' t c',[x,V.ty c]=[x',.ty c']/\gF X.K H1 x' t/\c'∈cT/\c' ≠ "NoneType"/\Q (.bl (subB t c')) H1) (λH Z x m1 m Q za h1 e q=>by
  cases e;exact⟨x,lY m1,c,rfl,h1.cls,hc,hn,cH q za (.bl _)⟩) hq
end
inductive sY(K:AT)(H:Hp)(Z:Zs):List V->List M->List Addr->Prop
 |nil:sY K H Z [] [] []
 |cons {x:V} {m:M} {G:List Addr} {xs:List V} {ms:List M} {G':List Addr}:Ow K H Z x m G->sY K H Z xs ms G'->sY K H Z (x::xs) (m::ms) (G++G')
noncomputable def bQ:List cN->Ev->Option (List M×Ev)
 |[],ρ=>some ([],ρ)
 |.t m::os,ρ=>(bQ os ρ).bind λq=>some (m::q.1,q.2)
 |.p i::os,ρ=>(ck ρ i).bind λm=>(bQ os (ρ.set i none)).bind λq=>some (m::q.1,q.2)
 |.q _ _::_,_=>none
noncomputable def eT:List cN->List M->Ev->Ev
 |.p i::os,m::ms,ρ=>eT os ms (ρ.set i (some m))
 |_::os,_::ms,ρ=>eT os ms ρ
 |_,_,ρ=>ρ
def wZ(ρ:Ev):List cN->Prop
 |[]=>True
 |.p i::os=>ρ[i]? = some none/\.p i∉os/\wZ ρ os
 |_::os=>wZ ρ os
section
variable{K:AT}{H H':Hp}{Z Z':Zs}{σ:L2.St}
theorem sY.length:∀{xs:List V}{ms:List M}{G:List Addr},sY K H Z xs ms G->xs.length=ms.length:=by
 intro xs ms G h
 induction h with
 |nil=>rfl
 |cons _ r ih=>rw[Bn,Bn,ih]
theorem uF{ρ:Ev}{i j:Nat}{m:M}(h:ck (ρ.set j none) i=some m):i≠j/\ck ρ i=some m:=by
 have h:=aF.mp h;rw[Kq] at h
 split at h
 ·next e=>split at h <;> cases h
 ·next e=>exact⟨λz=>e z.symm,aF.mpr h⟩
theorem yt:∀{os:List cN}{ρ:Ev}{r:List M×Ev}{i:Nat},bQ os ρ=some r->.p i∈os->∃m,ck ρ i=some m:=by
 intro os
 induction os with
 |nil=>intro ρ r i e h; simp at h
 |cons o os ih=>
  intro ρ r i e h;cases o with
  |t m=>
   obtain⟨q,e1,_⟩:=oB e;exact ih e1 (by simpa using h)
  |p j=>
   obtain⟨m,e1,e⟩:=oB e;obtain⟨q,e2,_⟩:=oB e;rcases lK h with h | h
   ·cases h; exact⟨m,e1⟩
   ·obtain⟨m',h'⟩:=ih e2 h
    exact⟨m',(uF h').2⟩
  |q _ _=>cases e
theorem sZ:∀{os:List cN}{ρ:Ev}{ms:List M}{ρ':Ev}{i:Nat},bQ os ρ=some (ms,ρ')->ρ[i]? = some none->ρ'[i]? = some none:=by
 intro os
 induction os with
 |nil=>intro ρ ms ρ' i e h; cases e; exact h
 |cons o os ih=>
  intro ρ ms ρ' i e h;cases o with
  |t m=>
   obtain⟨⟨ms,ρ1⟩,e1,e⟩:=oB e;cases e;exact ih e1 h
  |p j=>
   obtain⟨m,e1,e⟩:=oB e;obtain⟨⟨ms,ρ1⟩,e2,e⟩:=oB e;cases e;refine ih e2 ?_;rw[Kq]
   split
   ·next z=>subst z; rw[if_pos (Da.mp h).1]
   ·exact h
  |q _ _=>cases e
theorem ou:∀{os:List cN}{ρ:Ev}{ms:List M}{ρ':Ev},bQ os ρ=some (ms,ρ')->wZ ρ' os:=by
 intro os
 induction os with
 |nil=>exact λ_=>JQ
 |cons o os ih=>
  intro ρ ms ρ' e;cases o with
  |t m=>
   obtain⟨⟨ms,ρ1⟩,e1,e⟩:=oB e;cases e;exact show wZ ρ1 os from ih e1
  |p j=>
   obtain⟨m,e1,e⟩:=oB e;obtain⟨⟨ms,ρ1⟩,e2,e⟩:=oB e;cases e;have hl:=(Da.mp (aF.mp e1)).1;refine⟨sZ e2 (by rw[Iz hl]),λh=>?_,ih e2⟩
   obtain⟨m',h'⟩:=yt e2 h;exact(uF h').1 rfl
  |q _ _=>cases e
theorem aU{A B:List Addr}(h:(A++B).Nodup):A.Nodup/\B.Nodup/\∀a∈A,a∉B:=by
 have h':=FM.mp h;exact⟨h'.1,h'.2.1,λa x y=>h'.2.2 a x a y rfl⟩
theorem qS:∀{os:List cN}{xs:List V}{ρ:Ev}{F G:List Addr}{ms:List M}{ρ':Ev},aS K H Z σ ρ F->jV K H Z σ xs os G->(F++G).Nodup->bQ os ρ=some (ms,ρ') ->
  ∃A F',sY K H Z xs ms A/\aS K H Z σ ρ' F'/\(F'++A).Nodup/\∀a∈F'++A,a∈F++G:=by
 intro os
 induction os with
 |nil=>
  intro xs ρ F G ms ρ' S r nd e;cases r;cases e;exact⟨[],F,.nil,S,nd,λ_ h=>h⟩
 |cons o os ih=>
  intro xs ρ F G ms ρ' S r nd e;cases r with | @cons _ _ G1 _ _ G2 q r=>
  cases q with
  |q _ _ _=>cases e
  |t q=>
   obtain⟨⟨ms,ρ1⟩,e1,e⟩:=oB e;cases e;obtain⟨n1,n2,n3⟩:=aU nd;obtain⟨n4,n5,n6⟩:=aU n2;obtain⟨A,F',h1,h2,h3,h4⟩:=ih S r (aO n1 n5 λa h z=>n3 a h (lR _ z)) e1
   obtain⟨k1,k2,k3⟩:=aU h3;have far:∀a∈G1,a∉F++G2:=λa h z=>by
    rcases lM z with z | z
    ·exact n3 a z (lL _ h)
    ·exact n6 a h z
   refine⟨G1++A,F',.cons q h1,h2,aO k1 (aO n4 k2 λa h z=>far a h (h4 a (lR _ z))) λa h z=>?_,λa h=>?_⟩
   ·rcases lM z with z | z
    ·exact far a z (h4 a (lL _ h))
    ·exact k3 a h z
   ·rcases lM h with h | h
    ·rcases lM (h4 a (lL _ h)) with z | z
     ·exact lL _ z
     ·exact lR _ (lR _ z)
    rcases lM h with h | h
    ·exact lR _ (lL _ h)
    ·rcases lM (h4 a (lR _ h)) with z | z
     ·exact lL _ z
     ·exact lR _ (lR _ z)
  |p q=>
   obtain⟨m,e1,e⟩:=oB e;obtain⟨⟨ms,ρ1⟩,e2,e⟩:=oB e;cases e;rw[IT] at nd ⊢;obtain⟨n1,n2,n3⟩:=aU nd;obtain⟨x',G',F1,t1,t2,t3,t4,t5⟩:=S.take n1 (aF.mp e1);rw[q] at t1; cases t1;obtain⟨u1,u2,u3⟩:=aU t4;obtain⟨A,F',h1,h2,h3,h4⟩:=ih t3 r (aO u1 n2 λa h z=>n3 a (t5 a (lL _ h)) z) e2
   obtain⟨k1,k2,k3⟩:=aU h3;have far:∀a∈G',a∉F1++G2:=λa h z=>by
    rcases lM z with z | z
    ·exact u3 a z h
    ·exact n3 a (t5 a (lR _ h)) z
   have G9:∀a∈F1++G2,a∈F++G2:=λa z=>by
    rcases lM z with z | z
    ·exact lL _ (t5 a (lL _ z))
    ·exact lR _ z
   refine⟨G'++A,F',.cons t2 h1,h2,aO k1 (aO u2 k2 λa h z=>far a h (h4 a (lR _ z))) λa h z=>?_,λa h=>?_⟩
   ·rcases lM z with z | z
    ·exact far a z (h4 a (lL _ h))
    ·exact k3 a h z
   ·rcases lM h with h | h
    ·exact G9 a (h4 a (lL _ h))
    rcases lM h with h | h
    ·exact lL _ (t5 a (lR _ h))
    ·exact G9 a (h4 a (lR _ h))
theorem wZ.set{ρ:Ev}{i:Nat}{m:M}:∀{os:List cN},wZ ρ os->.p i∉os->wZ (ρ.set i (some m)) os
 |[],_,_=>JQ
 |.t _::os,h,n=>wZ.set (os:=os) h λz=>n (lO _ z)
 |.q _ _::os,h,n=>wZ.set (os:=os) h λz=>n (lO _ z)
 |.p j::os,h,n=>by
  obtain⟨h1,h2,h3⟩:=h;refine⟨?_,h2,wZ.set h3 λz=>n (lO _ z)⟩
  rw[Kq,if_neg λz=>n (by rw[z]; exact lS)]
  exact h1
theorem uG{H0:Hp}{Z0:Zs}:∀{os:List cN}{xs:List V}{ρ:Ev}{F G0 A:List Addr}{ms:List M},aS K H Z σ ρ F->jV K H0 Z0 σ xs os G0->sY K H Z xs ms A->(F++A).Nodup->wZ ρ os ->
  ∃F',aS K H Z σ (eT os ms ρ) F'/\F'.Nodup/\∀a∈F',a∈F++A:=by
 intro os
 induction os with
 |nil=>
  intro xs ρ F G0 A ms S r hs nd _;cases r;cases hs;exact⟨F,S,(aU nd).1,λa h=>lL _ h⟩
 |cons o os ih=>
  intro xs ρ F G0 A ms S r hs nd hol;cases r with | cons q r=>
  cases hs with | @cons _ m' G _ ms G' h hs=>
  obtain⟨n1,n2,n3⟩:=aU nd;obtain⟨n4,n5,n6⟩:=aU n2;have fin:wZ ρ os->∃F',aS K H Z σ (eT os ms ρ) F'/\F'.Nodup/\∀a∈F',a∈F++(G++G'):=λhol=>by
   obtain⟨F',h1,h2,h3⟩:=ih S r hs (aO n1 n5 λa h z=>n3 a h (lR _ z)) hol
   refine⟨F',h1,h2,λa h=>?_⟩
   rcases lM (h3 a h) with z | z
   ·exact lL _ z
   ·exact lR _ (lR _ z)
  cases q with
  |t _=>exact fin hol
  |q _ _ _=>exact fin hol
  |p q=>
   obtain⟨l1,l2,l3⟩:=hol;obtain⟨F1,p1,p2,p3⟩:=S.put h (aO n1 n4 λa h z=>n3 a h (lL _ z)) l1
   rw[iw q] at p1;obtain⟨F',h1,h2,h3⟩:=ih p1 r hs (aO p2 n5 λa h z=>by
    rcases lM (p3 a h) with y | y
    ·exact n3 a y (lR _ z)
    ·exact n6 a y z) (l3.set l2)
   refine⟨F',h1,h2,λa h=>?_⟩
   rcases lM (h3 a h) with z | z
   ·rcases lM (p3 a z) with z | z
    ·exact lL _ z
    ·exact lR _ (lL _ z)
   ·exact lR _ (lR _ z)
end
abbrev FF:=List M->Option (M×List M)
inductive cS(K:AT)(g:FF)(vs:List V)(H:Hp)(Q:VK)(_u:XK):Prop
 |mk (Z:Zs) (ms:List M) (A:List Addr) (m:M) (ms':List M):sY K H Z vs ms A->Wf H Z A->g ms=some (m,ms')->(∀x H' Z' A' G,sY K H' Z' vs ms' A'->Ow K H' Z' x m G->aI H Z A H' Z' (A'++G)->Q x H')->cS K g vs H Q _u
noncomputable def dM(g:FF)(fa:FA):FE:=λρ=>(fa ρ).bind λp=>(bQ p.1 p.2).bind λq=>(g q.1).bind λr=>some (.t r.1,eT p.1 r.2 q.2)
section
variable{X:Cx}{pos:Pos}
theorem called{g:FF}{fa:FA}{σ:L2.St}{H:Hp}{Q:VK}{E:XK}(hq:vE X.K (dM g fa) σ H Q):xA (cS X.K g) [] E (vA X.K fa) σ H Q:=by
 obtain⟨Z,ρ,F,o,ρ',S,w,e,q⟩:=hq;obtain⟨⟨os,ρ1⟩,e1,e⟩:=oB e;obtain⟨⟨ms,ρ2⟩,e2,e⟩:=oB e;obtain⟨⟨m,ms'⟩,e3,e⟩:=oB e;cases e;refine⟨Z,ρ,F,os,ρ1,S,w,e1,λxs H1 Z1 F1 G1 S1 O1 f1=>?_⟩
 show cS X.K g (xs++[]) H1 Q E;rw[FB];obtain⟨A,Fh,h1,h2,h3,h4⟩:=qS S1 O1 f1.nd e2;obtain⟨n1,n2,n3⟩:=aU h3;refine⟨Z1,ms,A,m,ms',h1,⟨n2,λa h=>f1.dz a (h4 a (lR _ h)),f1.za⟩,e3,λx H2 Z2 A' G k1 k2 f2=>?_⟩
 have wA:Wf H1 Z1 A:=⟨n2,λa h=>f1.dz a (h4 a (lR _ h)),f1.za⟩
 have n3':∀a∈A,a∉Fh:=λa h z=>n3 a z h
 have S2:aS X.K H2 Z2 σ ρ2 Fh:=h2.mono (f2.grow wA) λa h o e=>f2.keep a o (n3 a h) e
 have f3:=f2.frame (G:=Fh) ⟨aO n2 n1 n3',λa h=>by
  rcases lM h with h | h
  ·exact f1.dz a (h4 a (lR _ h))
  ·exact f1.dz a (h4 a (lL _ h)),f1.za⟩ h2.al
 obtain⟨m1,m2,m3,m4,m5,m6⟩:=Fi f3.nd;obtain⟨F',p1,p2,p3⟩:=uG S2 O1 k1 (aO m3 m1 λa h z=>m5 a z h) (ou e2)
 have f4:aI H Z F H1 Z1 (A++Fh):=f1.sub (aO n2 n1 n3') λa h=>h4 a (by
  rcases lM h with h | h
  ·exact lR _ h
  ·exact lL _ h)
 refine q x H2 Z2 F' G p1 (.t k2) ((f4.trans f3).sub (aO p2 m2 λa h z=>?_) λa h=>?_)
 ·rcases lM (p3 a h) with y | y
  ·exact m6 a z y
  ·exact m4 a y z
 ·rcases lM h with h | h
  ·rcases lM (p3 a h) with y | y
   ·exact lR _ y
   ·exact lL _ (lL _ y)
  ·exact lL _ (lR _ h)
theorem ve_fn{x:Str}{ps:List Str}{k k':Nat}{g:FF}{e:Expr}{es:List Expr}{fa:FA}{p:Pos}(C:aT X.prog X.w X.K X.mg X.base x ps k (cS X.K g))(hr:eY k' X.A)(hg:Gl X x)(ha:VA X (e::es) fa)(hk:k<=k':=by first | decide | exact Db _ | lia)(hdb:(x == ("__debug__" : Str))=false:=by decide)
  (he:FK (e::es) X.env=(false,eval e X.env)::FK es X.env:=by rfl) (hpl:(K6 pos (FK es X.env)).any (·.1)=false:=by rfl):VE X (.Call (.Name x p) (e::es) [] pos) (dM g fa):=bg (pe_fn C hr hg ha hk hdb he hpl) λ_ _ _ hq=>called hq
end
inductive Out where
 |nx (ρ:Ev)
 |bk (ρ:Ev)
 |ct (ρ:Ev)
 |rt (m:M) (ρ:Ev)
abbrev FS:=Ev->Option Out
abbrev Pv:=Nat->Option V
def Pin(pv:Pv)(σ:L2.St):Prop:=∀i x,pv i=some x->σ[i]? = some (some x)
def nJ(K:AT)(pv:Pv)(D:Ends)(H:Hp)(Z:Zs)(F:List Addr):Out->Prop
 |.nx ρ'=>∀σ' H' Z' F',aS K H' Z' σ' ρ' F'->aI H Z F H' Z' F'->Pin pv σ'->D.nx σ' H'
 |.bk ρ'=>∀σ' H' Z' F',aS K H' Z' σ' ρ' F'->aI H Z F H' Z' F'->Pin pv σ'->D.bk σ' H'
 |.ct ρ'=>∀σ' H' Z' F',aS K H' Z' σ' ρ' F'->aI H Z F H' Z' F'->Pin pv σ'->D.ct σ' H'
 |.rt m ρ'=>∀x σ' H' Z' F' G,aS K H' Z' σ' ρ' F'->Ow K H' Z' x m G->aI H Z F H' Z' (F'++G)->Pin pv σ'->D.rt x H'
inductive vS(K:AT)(pv:Pv)(f:FS)(D:Ends)(σ:L2.St)(H:Hp):Prop
 |mk (Z:Zs) (ρ:Ev) (F:List Addr) (out:Out):aS K H Z σ ρ F->Wf H Z F->Pin pv σ->f ρ=some out->nJ K pv D H Z F out->vS K pv f D σ H
theorem nJ.trans{K:AT}{pv:Pv}{D:Ends}{H H':Hp}{Z Z':Zs}{F F':List Addr}{o:Out}(h:nJ K pv D H Z F o)(f:aI H Z F H' Z' F'):nJ K pv D H' Z' F' o:=by
 cases o with
 |nx ρ=>exact λσ1 H1 Z1 F1 s1 f1 p1=>h σ1 H1 Z1 F1 s1 (f.trans f1) p1
 |bk ρ=>exact λσ1 H1 Z1 F1 s1 f1 p1=>h σ1 H1 Z1 F1 s1 (f.trans f1) p1
 |ct ρ=>exact λσ1 H1 Z1 F1 s1 f1 p1=>h σ1 H1 Z1 F1 s1 (f.trans f1) p1
 |rt m ρ=>exact λx σ1 H1 Z1 F1 G s1 o1 f1 p1=>h x σ1 H1 Z1 F1 G s1 o1 (f.trans f1) p1
abbrev Cd(pv:Pv)(pin:List Nat):Prop:=∀j x,pv j=some x->j∈pin
def VS(X:Cx)(pin:List Nat)(st:Stmt)(f:FS):Prop:=∀pv,Cd pv pin->PS X st (vS X.K pv f)
def zV(X:Cx)(pin:List Nat)(st:List Stmt)(f:FS):Prop:=∀pv,Cd pv pin->rS X st (vS X.K pv f)
section
variable{X:Cx}{pos:Pos}{pin:List Nat}
theorem fM{st:Stmt}{t t':TS}(h:PS X st t)(i:∀D σ H,t' D σ H->t D σ H):PS X st t':=λpins s σ H D I q=>h pins s σ H D I (i D σ H q)
theorem uH{st:List Stmt}{t t':TS}(h:rS X st t)(i:∀D σ H,t' D σ H->t D σ H):rS X st t':=λpins s σ H D I q=>h pins s σ H D I (i D σ H q)
noncomputable def bB:FS:=λρ=>some (.nx ρ)
noncomputable def aH(f g:FS):FS:=λρ=>(f ρ).bind λo=>match o with
 |.nx ρ1=>g ρ1
 |o=>some o
theorem yu{pv:Pv}{D:Ends}{σ:L2.St}{H:Hp}(hq:vS X.K pv bB D σ H):B0 D σ H:=by
 obtain⟨Z,ρ,F,o,S,w,P,e,q⟩:=hq;cases e;exact q σ H Z F S (aI.refl w) P
theorem AS:zV X pin [] bB:=λpv hp=>uH z9 λ_ _ _ hq=>yu (X:=X) hq
theorem AU{pv:Pv}{f g:FS}{D:Ends}{σ:L2.St}{H:Hp}(hq:vS X.K pv (aH f g) D σ H):tSeq (vS X.K pv f) (vS X.K pv g) D σ H:=by
 obtain⟨Z,ρ,F,o,S,w,P,e,q⟩:=hq;obtain⟨o1,e1,e⟩:=oB e;refine⟨Z,ρ,F,o1,S,w,P,e1,?_⟩;cases o1 with
 |nx ρ1=>exact λσ1 H1 Z1 F1 S1 f1 P1=>⟨Z1,ρ1,F1,o,S1,f1.wf,P1,e,q.trans f1⟩
 |bk ρ1=>cases e; exact q
 |ct ρ1=>cases e; exact q
 |rt m ρ1=>cases e; exact q
theorem yw{st:Stmt}{rest:List Stmt}{f g:FS}(h1:VS X pin st f)(h2:zV X pin rest g):zV X pin (st::rest) (aH f g):=λpv hp=>uH (xh (h1 pv hp) (h2 pv hp)) λ_ _ _ hq=>AU hq
theorem AV{st:Stmt}{f:FS}(h1:VS X pin st f):zV X pin [st] f:=λpv hp=>Aa (h1 pv hp)
noncomputable def cW(c:FT)(f g:FS):FS:=λρ=>(c ρ).bind λp=>if p.1=true then f p.2 else g p.2
theorem vs_if{c:Expr}{a b:List Stmt}{fc:FT}{f g:FS}(hc:VT X c fc)(ha:zV X pin a f)(hb:zV X pin b g):VS X pin (.If c a b pos) (cW fc f g):=λpv hp=>fM (ps_if hc (ha pv hp) (hb pv hp)) λD σ H hq=>by
 obtain⟨Z,ρ,F,o,S,w,P,e,q⟩:=hq;obtain⟨⟨b1,ρ1⟩,e1,e⟩:=oB e;refine⟨Z,ρ,F,b1,ρ1,S,w,e1,λH1 Z1 F1 S1 f1=>?_⟩
 cases b1 with
 |true=>exact iteT ⟨Z1,ρ1,F1,o,S1,f1.wf,P,e,q.trans f1⟩
 |false=>exact iteF ⟨Z1,ρ1,F1,o,S1,f1.wf,P,e,q.trans f1⟩
noncomputable def bR(f:FE):FS:=λρ=>(f ρ).bind λp=>some (.nx p.2)
theorem AW{e:Expr}{f:FE}(h:VE X e f)(hs:KS e none pos.line X.env=pure false:=by rfl):VS X pin (.Expr e pos) (bR f):=λpv hp=>fM (Ab h hs) λD σ H hq=>by
 obtain⟨Z,ρ,F,o,S,w,P,e,q⟩:=hq;obtain⟨⟨o1,ρ1⟩,e1,e⟩:=oB e;cases e;exact⟨Z,ρ,F,o1,ρ1,S,w,e1,λx H1 Z1 F1 G1 S1 O1 f1=>q σ H1 Z1 F1 S1 f1.left P⟩
noncomputable def pT:cN->Ev->Option (M×Ev)
 |.t m,ρ=>some (m,ρ)
 |.p i,ρ=>(ck ρ i).bind λm=>some (m,ρ.set i none)
 |.q i k,ρ=>(cL (.q i k) ρ).bind λp=>some (.v p.1,p.2)
theorem moved{K:AT}{H H0:Hp}{Z Z0:Zs}{F F0 G:List Addr}{σ:L2.St}{ρ ρ':Ev}{x:V}{o:cN}{m:M}(S:aS K H Z σ ρ F)(h:ng K H Z σ x o G)(f:aI H0 Z0 F0 H Z (F++G))(e:pT o ρ=some (m,ρ')) :
  ∃Z' F' G',aS K H Z' σ ρ' F'/\Ow K H Z' x m G'/\aI H0 Z0 F0 H Z' (F'++G'):=by
 cases o with
 |t m1=>
  cases e;cases h with
  |t q=>exact⟨Z,F,G,S,q,f⟩
 |p i=>
  obtain⟨m1,e1,e⟩:=oB e;cases e;cases h with
  |p q=>
   rw[FB] at f;obtain⟨x',G',F1,t1,t2,t3,t4,t5⟩:=S.take f.nd (aF.mp e1);rw[q] at t1; cases t1;exact⟨Z,F1,G',t3,t2,f.sub t4 t5⟩
 |q i k=>
  obtain⟨⟨d,ρ1⟩,e1,e⟩:=oB e;cases e;obtain⟨Z',F',h1,h2,h3,_⟩:=iy S h f e1;exact⟨Z',F',[],h1,.v h2,h3.nil⟩
noncomputable def cP(f:FE):FS:=λρ=>(f ρ).bind λp=>(pT p.1 p.2).bind λq=>some (.rt q.1 q.2)
theorem DP{e:Expr}{f:FE}(h:VE X e f):VS X pin (.Return (some e) pos) (cP f):=λpv hp=>fM (CD h) λD σ H hq=>by
 obtain⟨Z,ρ,F,o,S,w,P,e,q⟩:=hq;obtain⟨⟨o1,ρ1⟩,e1,e⟩:=oB e;obtain⟨⟨m,ρ2⟩,e2,e⟩:=oB e;cases e;refine⟨Z,ρ,F,o1,ρ1,S,w,e1,λx H1 Z1 F1 G1 S1 O1 f1=>?_⟩
 obtain⟨Z2,F2,G2,h1,h2,h3⟩:=moved S1 O1 f1 e2;exact q x σ H1 Z2 F2 G2 h1 h2 h3 P
noncomputable def fZ(i:Nat)(m:M)(ρ:Ev):Option Ev:=if i<ρ.length then some (ρ.set i (some m)) else none
theorem Pin.set{pv:Pv}{σ:L2.St}{i:Nat}{x:Option V}(P:Pin pv σ)(hp:Cd pv pin)(hi:i∉pin):Pin pv (σ.set i x):=λj y e=>by
 rw[Kq,if_neg λz=>hi (by subst z; exact hp _ _ e)]
 exact P j y e
theorem aS.fZ{K:AT}{H:Hp}{Z:Zs}{F G:List Addr}{σ:L2.St}{ρ ρ':Ev}{x:V}{m:M}{i:Nat}(S:aS K H Z σ ρ F)(h:Ow K H Z x m G)(nd:(F++G).Nodup)(e:VL.fZ i m ρ=some ρ'):∃F',aS K H Z (σ.set i (some x)) ρ' F'/\F'.Nodup/\∀a∈F',a∈F++G:=by
 unfold VL.fZ at e
 split at e
 ·next hl=>
  cases e;obtain⟨n1,n2,n3⟩:=aU nd;obtain⟨F1,h1,h2,h3⟩:=S.drop i n1;obtain⟨F2,p1,p2,p3⟩:=h1.put h (aO h2 n2 λa z=>n3 a (h3 a z)) (by rw[Iz hl])
  rw[N3] at p1;refine⟨F2,p1,p2,λa z=>?_⟩
  rcases lM (p3 a z) with z | z
  ·exact lL _ (h3 a z)
  ·exact lR _ z
 ·cases e
noncomputable def bw(i:Nat)(f:FE):FS:=λρ=>(f ρ).bind λp=>(pT p.1 p.2).bind λq=>(fZ i q.1 q.2).bind λρ'=>some (.nx ρ')
theorem DQ{i:Nat}{x:Str}{e:Expr}{f:FE}{pos':Pos}(hp0:i∉pin)(hN:X.N.Nodup)(hi:X.N[i]? = some x)(hx:Loc X.env.scope x)(he:VE X e f)(hs:KS e (some (.Name x pos')) pos.line X.env=pure false:=by rfl)(hf:X.fn x=true\/X.env.scope.names.lookup x=some .local:=by first | exact .inl rfl | exact .inr rfl | assumption) :
  VS X pin (.Assign [.Name x pos'] e pos) (bw i f):=λpv hp=>fM (CG hN hi hx he hs hf) λD σ H hq=>by
 obtain⟨Z,ρ,F,o,S,w,P,e,q⟩:=hq;obtain⟨⟨o1,ρ1⟩,e1,e⟩:=oB e;obtain⟨⟨m,ρ2⟩,e2,e⟩:=oB e;obtain⟨ρ3,e3,e⟩:=oB e;cases e;refine⟨Z,ρ,F,o1,ρ1,S,w,e1,λy H1 Z1 F1 G1 S1 O1 f1=>?_⟩
 obtain⟨Z2,F2,G2,h1,h2,h3⟩:=moved S1 O1 f1 e2;obtain⟨F3,k1,k2,k3⟩:=h1.fZ h2 h3.nd e3;exact q _ H1 Z2 F3 k1 (h3.sub k2 k3) (P.set hp hp0)
noncomputable def yx(i:Nat)(g:M->M->Option M)(f:FE):FS:=λρ=>(ck ρ i).bind λm1=>(f ρ).bind λp=>(peek p.2 p.1).bind λm2=>match m1 with
 |.v _=>(g m1 m2).bind λm=>(fZ i m p.2).bind λρ'=>some (.nx ρ')
 |_=>none
theorem DR{i:Nat}{x:Str}{e:Expr}{f:FE}{op:Mn}{ti:EN}{pos':Pos}{g:M->M->Option M}(hg:B8 X.K ti g)(hp0:i∉pin)(hN:X.N.Nodup)(hi:X.N[i]? = some x)(hx:Loc X.env.scope x)(he:VE X e f)(ho:Ft X op ti)(hf:X.fn x=true\/X.env.scope.names.lookup x=some .local:=by first | exact .inl rfl | exact .inr rfl | assumption) :
  VS X pin (.AugAssign (.Name x pos') op e pos) (yx i g f):=λpv hp=>fM (CI hN hi hx he ho hf) λD σ H hq=>by
 obtain⟨Z,ρ,F,o,S,w,P,e,q⟩:=hq;obtain⟨m1,e0,e⟩:=oB e;obtain⟨⟨o1,ρ1⟩,e1,e⟩:=oB e;obtain⟨m2,e2,e⟩:=oB e;cases m1 with
 |v d=>
  obtain⟨m,e3,e⟩:=oB e;obtain⟨ρ2,e4,e⟩:=oB e;cases e;obtain⟨y,G,h1,h2,h3⟩:=S.get (aF.mp e0);cases h2 with
  |v fz=>
   refine⟨y,h1,Z,ρ,F,o1,ρ1,S,w,e1,λz H1 Z1 F1 G1 S1 O1 f1=>?_⟩
   refine hg H1 Z1 y z _ _ m _ f1.za ⟨[],.v (fz.mono (f1.grow w))⟩ (O1.peek S1 e2) e3 λz' H2 Z2 G2 h n=>?_
   have f2:=f1.left.trans (n.news f1.left.wf S1.al);obtain⟨F3,k1,k2,k3⟩:=(S1.news n).fZ h f2.nd e4;exact q _ H2 Z2 F3 k1 (f2.sub k2 k3) (P.set hp hp0)
 |lst _=>cases e
 |aL _=>cases e
 |bM _=>cases e
theorem AX:B8 X.K (GG λi j=>i+j) (iB (λ_ _=>true) λi j=>.int (i+j)):=λH Z x y m1 m2 m Q za h1 h2 e q=>by
 unfold iB at e
 split at e
 ·split at e
  ·cases e
   obtain rfl:=h1.int; obtain rfl:=h2.int;exact⟨_,_,rfl,rfl,cH q za (.int _)⟩
  ·cases e
 ·cases e
abbrev FG:=B1->Ev->Option Ev
abbrev wu:=List B1->Ev->Option Ev
inductive vG(K:AT)(pv:Pv)(f:FG)(x:V)(σ:L2.St)(H:Hp)(Q:L2.St->Hp->Prop):Prop
 |mk (Z:Zs) (ρ:Ev) (F:List Addr) (d:B1) (ρ':Ev):aS K H Z σ ρ F->F.Nodup->Pin pv σ->Fz K H Z x d->f d ρ=some ρ'->(∀σ' F',aS K H Z σ' ρ' F'->F'.Nodup->(∀a∈F',a∈F)->Pin pv σ'->Q σ' H)->vG K pv f x σ H Q
inductive Hf(K:AT)(pv:Pv)(f:wu)(xs:List V)(σ:L2.St)(H:Hp)(Q:L2.St->Hp->Prop):Prop
 |mk (Z:Zs) (ρ:Ev) (F:List Addr) (ds:List B1) (ρ':Ev):aS K H Z σ ρ F->F.Nodup->Pin pv σ->bD K H Z xs ds->f ds ρ=some ρ'->(∀σ' F',aS K H Z σ' ρ' F'->F'.Nodup->(∀a∈F',a∈F)->Pin pv σ'->Q σ' H)->Hf K pv f xs σ H Q
def VG(X:Cx)(pin:List Nat)(tg:Expr)(f:FG):Prop:=∀pv,Cd pv pin->PG X tg (vG X.K pv f)
def Fj(X:Cx)(pin:List Nat)(tg:List Expr)(f:wu):Prop:=∀pv,Cd pv pin->B3 X tg (Hf X.K pv f)
theorem yy{tg:Expr}{t t':TG}(h:PG X tg t)(i:∀x σ H Q,t' x σ H Q->t x σ H Q):PG X tg t':=λpins s σ H x u Q I r q=>h pins s σ H x u Q I r (i x σ H Q q)
theorem uI{tg:List Expr}{t t':Ac}(h:B3 X tg t)(i:∀x σ H Q,t' x σ H Q->t x σ H Q):B3 X tg t':=λpins s σ H x u Q I r q=>h pins s σ H x u Q I r (i x σ H Q q)
noncomputable def ah(i:Nat):FG:=λd ρ=>fZ i (.v d) ρ
theorem AY{i:Nat}{x:Str}(hp0:i∉pin)(hN:X.N.Nodup)(hi:X.N[i]? = some x)(hx:Loc X.env.scope x)(hf:X.fn x=true\/X.env.scope.names.lookup x=some .local:=by first | exact .inl rfl | exact .inr rfl | assumption):VG X pin (.Name x pos) (ah i):=λpv hp=>yy (Ad hN hi hx hf) λx σ H Q hq=>by
 obtain⟨Z,ρ,F,d,ρ',S,w,P,fz,e,q⟩:=hq;obtain⟨F3,k1,k2,k3⟩:=S.fZ (.v fz) (by rw[FB]; exact w) e
 rw[FB] at k3;exact q _ F3 k1 k2 k3 (P.set hp hp0)
noncomputable def bZ:wu:=λds ρ=>match ds with
 |[]=>some ρ
 |_=>none
noncomputable def aD(f:FG)(g:wu):wu:=λds ρ=>match ds with
 |d::ds=>(f d ρ).bind λρ1=>g ds ρ1
 |[]=>none
theorem AZ:Fj X pin [] bZ:=λpv hp=>uI Ae λxs σ H Q hq=>by
 obtain⟨Z,ρ,F,ds,ρ',S,w,P,fz,e,q⟩:=hq;cases fz with
 |nil=>cases e; exact⟨rfl,q σ F S w (λ_ h=>h) P⟩
 |cons _ _=>cases e
theorem yz{e:Expr}{es:List Expr}{f:FG}{g:wu}(h1:VG X pin e f)(h2:Fj X pin es g)(hs:(K7 (e::es) X.env).map (·.2)=Lz e X.env::(K7 es X.env).map (·.2):=by rfl):Fj X pin (e::es) (aD f g):=λpv hp=>uI (xm (h1 pv hp) (h2 pv hp) hs) λxs σ H Q hq=>by
 obtain⟨Z,ρ,F,ds,ρ',S,w,P,fz,e,q⟩:=hq;cases fz with
 |nil=>cases e
 |cons z1 z2=>
  obtain⟨ρ1,e1,e⟩:=oB e;exact⟨_,_,rfl,Z,ρ,F,_,ρ1,S,w,P,z1,e1,λσ1 F1 S1 w1 s1 P1=>⟨Z,ρ1,F1,_,ρ',S1,w1,P1,z2,e,λσ2 F2 S2 w2 s2 P2=>q σ2 F2 S2 w2 (λa h=>s1 a (s2 a h)) P2⟩⟩
noncomputable def bS(n:Nat)(g:wu):FG:=λd ρ=>match d with
 |.tuple ds=>if ds.length=n then g ds ρ else none
 |_=>none
theorem DS{es:List Expr}{k n:Nat}{g:wu}(hc:X.calm=true)(h:Fj X pin es g)(hpg:∀t:Ac,B3 X es t->PG X (.Tuple es k pos) (gTup X.K n t)):VG X pin (.Tuple es k pos) (bS n g):=λpv hp=>yy (hpg _ (h pv hp)) λx σ H Q hq=>by
 obtain⟨Z,ρ,F,d,ρ',S,w,P,fz,e,q⟩:=hq;unfold bS at e
 split at e
 ·split at e
  ·next hl=>
   obtain⟨a,xs,e1,e2,e3⟩:=fz.ir;exact⟨a,xs,e1,e2,by rw[e3.length]; exact hl,Z,ρ,F,_,ρ',S,w,P,e3,e,q⟩
  ·cases e
 ·cases e
noncomputable def yC(f:FE)(g:FG):FS:=λρ=>(f ρ).bind λp=>(cL p.1 p.2).bind λq=>(g q.1 q.2).bind λρ'=>some (.nx ρ')
theorem DT{tg e:Expr}{f:FE}{g:FG}(he:VE X e f)(hg:VG X pin tg g)(hs:NG [tg] e pos.line X.env=pure false:=by rfl)(hw:NH [tg] e X.env=pure none:=by rfl)
  (hps:∀(te:TE)(t:TG),PE X e te->PG X tg t->PS X (.Assign [tg] e pos) (oY te t):=by exact λ_ _ h1 h2=>jM h1 h2):VS X pin (.Assign [tg] e pos) (yC f g):=λpv hp=>fM (hps _ _ he (hg pv hp)) λD σ H hq=>by
 obtain⟨Z,ρ,F,o,S,w,P,e,q⟩:=hq;obtain⟨⟨o1,ρ1⟩,e1,e⟩:=oB e;obtain⟨⟨d,ρ2⟩,e2,e⟩:=oB e;obtain⟨ρ3,e3,e⟩:=oB e;cases e;refine⟨Z,ρ,F,o1,ρ1,S,w,e1,λy H1 Z1 F1 G1 S1 O1 f1=>?_⟩
 obtain⟨Z2,F2,h1,h2,h3,_⟩:=iy S1 O1 f1 e2;exact⟨Z2,ρ2,F2,d,ρ3,h1,h3.nd,P,h2,e3,λσ' F' S' w' s' P'=>q σ' H1 Z2 F' S' (h3.sub w' s') P'⟩
noncomputable def parO(i j:Nat):List cN->Ev->Option Out
 |[o1,.t m2],ρ=>(pT o1 ρ).bind λq1=>(fZ i q1.1 q1.2).bind λρ1=>(fZ j m2 ρ1).bind λρ2=>some (.nx ρ2)
 |_,_=>none
noncomputable def yD(i j:Nat)(fa:FA):FS:=λρ=>(fa ρ).bind λp=>parO i j p.1 p.2
theorem DU{i j:Nat}{a b:Expr}{fa:FA}{st:Stmt}(hpi:i∉pin)(hpj:j∉pin)(ha:VA X [a,b] fa)(hps:∀t:TA,PA X [a,b] t->PS X st (tPar i j t)):VS X pin st (yD i j fa):=λpv hp=>fM (hps _ ha) λD σ H hq=>by
  obtain⟨Z,ρ,F,o,S,w,P,e,q⟩:=hq;obtain⟨⟨os,ρ1⟩,e1,e⟩:=oB e;refine⟨Z,ρ,F,os,ρ1,S,w,e1,λxs H1 Z1 F1 G1 S1 O1 f1=>?_⟩
  have e:parO i j os ρ1=some o:=e
  clear e1
  rcases os with _ | ⟨o1,_ | ⟨o2,_ | ⟨o3,os⟩⟩⟩
  · cases e
  · cases e
  · cases o2 with
   |p _=>cases e
   |q _ _=>cases e
   |t m2=>
    obtain⟨⟨m1,ρ2⟩,e2,e⟩:=oB e;cases O1 with
    |@cons x1 _ Ga _ _ _ p1 r1=>
     cases r1 with
     |@cons x2 _ Gb _ _ _ p2 r2=>
         cases r2;obtain⟨ρ3,e3,e⟩:=oB e;obtain⟨ρ4,e4,e⟩:=oB e;cases e;rw[FB] at f1;have f1':aI H Z F H1 Z1 (F1++Ga++Gb):=f1.assoc';cases p2 with
         |t w2=>
          have al:=w2.al;have key:∃Z' F' G',aS X.K H1 Z' σ ρ2 F'/\Ow X.K H1 Z' x1 m1 G'/\aI H Z F H1 Z' (F'++G'++Gb)/\aJ H1 Z1 H1 Z':=by
            cases o1 with
            |t m=>
             cases e2;cases p1 with
             |t w1=>exact⟨Z1,F1,Ga,S1,w1,f1',aJ.refl⟩
            |p k=>
             obtain⟨m,e5,e2⟩:=oB e2;cases e2;cases p1 with
             |p q1=>
              rw[FB] at f1';obtain⟨n1,n2,n3⟩:=aU f1'.nd;obtain⟨x',G',F1',t1,t2,t3,t4,t5⟩:=S1.take n1 (aF.mp e5);rw[q1] at t1; cases t1;refine⟨Z1,F1',G',t3,t2,f1'.sub (aO t4 n2 λa h z=>n3 a (t5 a h) z) (λa h=>?_),aJ.refl⟩
              rcases lM h with h | h
              · exact lL _ (t5 a h)
              · exact lR _ h
            |q k1 k2=>
             obtain⟨⟨d,ρ'⟩,e5,e2⟩:=oB e2;cases e2;obtain⟨Z',F',z1,z2,z3,z4⟩:=freeze S1 p1 f1' e5;exact⟨Z',F',[],z1,.v z2,by rw[FB]; exact z3,z4⟩
          obtain⟨Z2,F2,G2,h1,h2,h3,h4⟩:=key;obtain⟨n1,n2,n3,n4,n5,n6⟩:=Fi h3.nd;obtain⟨F3,k1,k2,k3⟩:=h1.fZ h2 (aO n1 n2 n4) e3;obtain⟨F4,l1,l2,l3⟩:=k1.fZ (w2.mono h4 λ_ _ _ e=>e) (aO k2 n3 λa h z=>by
            rcases lM (k3 a h) with y | y
            · exact n5 a y z
            · exact n6 a y z) e4
          refine⟨x1,x2,rfl,q _ H1 Z2 F4 l1 (h3.sub l2 λa h=>?_) ((P.set hp hpi).set hp hpj)⟩
          rcases lM (l3 a h) with y | y
          · exact lL _ (k3 a y)
          · exact lR _ y
  · cases o2 <;> cases e
end
structure jy(K:AT)(J:It)(H:Hp)(Z:Zs)(ds:List B1):Prop where
 go:∀H2 Z2,aJ H Z H2 Z2->∀k d,ds[k]? = some d->J.go k H2/\∀x H',J.yld k H2 x H'->bA H2 H'/\Fz K H' Z2 x d
 stop:∀H2 Z2,aJ H Z H2 Z2->∀k,ds.length<=k->J.stop k H2
abbrev FI:=Ev->Option (List B1×Ev)
inductive vI(K:AT)(f:FI)(σ:L2.St)(H:Hp)(R:It->Hp->Prop):Prop
 |mk (Z:Zs) (ρ:Ev) (F:List Addr) (ds:List B1) (ρ':Ev):aS K H Z σ ρ F->Wf H Z F->f ρ=some (ds,ρ')->(∀J H' Z' F',aS K H' Z' σ ρ' F'->jy K J H' Z' ds->aI H Z F H' Z' F'->R J H')->vI K f σ H R
abbrev VI(X:Cx)(tg iter:Expr)(f:FI):Prop:=PI X tg iter (vI X.K f)
theorem jy.mono{K:AT}{J:It}{H H1:Hp}{Z Z1:Zs}{ds:List B1}(h:jy K J H Z ds)(g:aJ H Z H1 Z1):jy K J H1 Z1 ds:=⟨λH2 Z2 g2=>h.go H2 Z2 (g.trans g2),λH2 Z2 g2=>h.stop H2 Z2 (g.trans g2)⟩
section
variable{X:Cx}{pos:Pos}{pin:List Nat}{tg:Expr}
theorem jY{it:Expr}{t t':TI}(h:PI X tg it t)(i:∀σ H R,t' σ H R->t σ H R):PI X tg it t':=λpins s σ H R I q=>h pins s σ H R I (i σ H R q)
theorem DV{it:Expr}{t u:TI}(h:PI X tg it t)(h':PI X tg it u):PI X tg it (λσ H R=>t σ H R\/u σ H R):=λpins s σ H R I q=>q.elim (h pins s σ H R I) (h' pins s σ H R I)
noncomputable def FL:B1->Option (List B1)
 |.tuple ds=>some ds
 |.list ds=>some ds
 |_=>none
noncomputable def cD(f:FE):FI:=λρ=>(f ρ).bind λp=>(cL p.1 p.2).bind λq=>(FL q.1).bind λds=>some (ds,q.2)
theorem A0{K:AT}{H:Hp}{Z:Zs}{a:Addr}{ds:List B1}(h:Fz K H Z (.ref a) (.list ds)):jy K (Fv K a) H Z ds:=by
 refine⟨λH2 Z2 g k d hd=>?_,λH2 Z2 g k hk=>?_⟩
 ·obtain⟨a',xs,e,r,fs⟩:=(h.mono g).lst_inv
  cases e;obtain⟨x,h1,h2⟩:=fs.get' hd;refine⟨⟨xs,x,r,h1⟩,λy H' hy=>?_⟩
  obtain⟨rfl,hy⟩:=hy;have:=hy xs r;rw[h1] at this; cases this;exact⟨bA.refl _,h2⟩
 ·obtain⟨a',xs,e,r,fs⟩:=(h.mono g).lst_inv
  cases e;exact⟨xs,r,by rw[fs.length]; exact hk⟩
theorem kL{K:AT}{H:Hp}{Z:Zs}{a:Addr}{xs:List V}{ds:List B1}{k:Nat}{d:B1}{y:V}(r:cI K H a xs)(fs:bD K H Z xs ds)(hd:ds[k]? = some d)(hy:∀xs,cI K H a xs->xs[k]? = some y):Fz K H Z y d:=by
 obtain⟨x,h1,h2⟩:=fs.get' hd;have:=hy xs r;rw[h1] at this; cases this;exact h2
theorem DW{K:AT}{H:Hp}{Z:Zs}{a:Addr}{ds:List B1}(h:Fz K H Z (.ref a) (.tuple ds)):jy K (Gg K a) H Z ds:=by
 refine⟨λH2 Z2 g k d hd=>?_,λH2 Z2 g k hk=>?_⟩
 ·obtain⟨a',xs,e,r,fs⟩:=(h.mono g).ir
  cases e;obtain⟨x,h1,h2⟩:=fs.get' hd;refine⟨⟨xs,x,r,h1⟩,λy H' hy=>?_⟩
  obtain⟨rfl,hy⟩:=hy;exact⟨bA.refl _,kL r fs hd hy⟩
 ·obtain⟨a',xs,e,r,fs⟩:=(h.mono g).ir
  cases e;exact⟨xs,r,by rw[fs.length]; exact hk⟩
theorem DX{l:Expr}{f:FE}(h:VE X l f):VI X tg l (cD f):=jY (DV (t9 h) (CK h)) λσ H R hq=>by
 obtain⟨Z,ρ,F,ds,ρ',S,w,e,q⟩:=hq;obtain⟨⟨o1,ρ1⟩,e1,e⟩:=oB e;obtain⟨⟨d,ρ2⟩,e2,e⟩:=oB e;obtain⟨ds',e3,e⟩:=oB e;cases e;have key:∀x H1 Z1 F1 G1,aS X.K H1 Z1 σ ρ1 F1->ng X.K H1 Z1 σ x o1 G1->aI H Z F H1 Z1 (F1++G1)->∃Z2,Fz X.K H1 Z2 x d/\∀J,jy X.K J H1 Z2 ds->R J H1:=λx H1 Z1 F1 G1 S1 O1 f1=>by
  obtain⟨Z2,F2,h1,h2,h3,_⟩:=iy S1 O1 f1 e2;exact⟨Z2,h2,λJ hJ=>q J H1 Z2 F2 h1 hJ h3⟩
 cases d with
 |tuple ds0=>
  cases e3;refine .inr ⟨Z,ρ,F,o1,ρ1,S,w,e1,λx H1 Z1 F1 G1 S1 O1 f1=>?_⟩
  obtain⟨Z2,h2,h3⟩:=key x H1 Z1 F1 G1 S1 O1 f1;obtain⟨a,xs,rfl,r,fs⟩:=h2.ir;exact⟨a,rfl,⟨xs,r⟩,h3 _ (DW h2)⟩
 |list ds0=>
  cases e3;refine .inl ⟨Z,ρ,F,o1,ρ1,S,w,e1,λx H1 Z1 F1 G1 S1 O1 f1=>?_⟩
  obtain⟨Z2,h2,h3⟩:=key x H1 Z1 F1 G1 S1 O1 f1;obtain⟨a,xs,rfl,r,fs⟩:=h2.lst_inv;exact⟨a,rfl,⟨xs,r⟩,h3 _ (A0 h2)⟩
 |_=>cases e3
noncomputable def bu(lo hi:Int):List B1:=(Fa (hi-lo).toNat).map λk:Nat=>IF (lo+k)
noncomputable def bigI:Int:=1000000000
noncomputable def gW(i:Int):Bool:=decide (-bigI<=i/\i<=bigI)
theorem jZ{i:Int}(h:gW i=true) : -(2 ^ 62)<=i/\i<2 ^ 62:=by
 have h:=of_decide_eq_true h;unfold bigI at h;lia
noncomputable def gw:List M->Option (List B1)
 |[.v (.int j)]=>if gW j=true then some (bu 0 j) else none
 |_=>none
noncomputable def wz:List M->Option (List B1)
 |[.v (.int i),.v (.int j)]=>if gW i=true/\gW j=true then some (bu i j) else none
 |_=>none
noncomputable def bG(g:List M->Option (List B1))(fa:FA):FI:=λρ=>(fa ρ).bind λp=>(iH p.2 p.1).bind λms=>(g ms).bind λds=>some (ds,p.2)
theorem yE{K:AT}{H:Hp}{Z:Zs}(lo hi:Int):jy K (Fb lo (hi-lo).toNat) H Z (bu lo hi):=by
 refine⟨λH2 Z2 g k d hd=>?_,λH2 Z2 g k hk=>?_⟩
 ·unfold bu at hd
  rw[HL] at hd;obtain⟨j,h1,h2⟩:=Jn.mp hd;obtain⟨h3,h4⟩:=Da.mp h1;rw[IV] at h3;rw[PU] at h4;subst h4; subst h2;refine⟨h3,λx H' hx=>?_⟩
  obtain⟨rfl,rfl⟩:=hx;exact⟨bA.refl _,.int _⟩
 ·unfold bu at hk
  rw[D1,IV] at hk;exact hk
theorem kM{fa:FA}{σ:L2.St}{H:Hp}{R:It->Hp->Prop}{ms:List M}{ds:List B1}{Z:Zs}{ρ ρ1:Ev}{F:List Addr}{os:List cN}(S:aS X.K H Z σ ρ F)(w:Wf H Z F)(e1:fa ρ=some (os,ρ1))(e2:iH ρ1 os=some ms)
  (q:∀J H' Z' F',aS X.K H' Z' σ ρ1 F'->jy X.K J H' Z' ds->aI H Z F H' Z' F'->R J H') {T:List V->Hp->Prop} (hT:∀xs H1 Z1,ER X.K H1 Z1 xs ms->(∀J,jy X.K J H1 Z1 ds->R J H1)->T xs H1):vA X.K fa σ H T :=
 ⟨Z,ρ,F,os,ρ1,S,w,e1,λxs H1 Z1 F1 G1 S1 O1 f1=>hT xs H1 Z1 (O1.peek S1 e2) λJ hJ=>q J H1 Z1 F1 S1 hJ f1.left⟩
theorem A1{a:Expr}{fa:FA}{p:Pos}(hg:Gl X "range")(hm:X.mg "range" = none)(ha:VA X [a] fa)(hs:FK [a] X.env=[(false,eval a X.env)]:=by rfl):VI X tg (.Call (.Name "range" p) [a] [] pos) (bG gw fa):=jY (vp hg hm ha hs) λσ H R hq=>by
 obtain⟨Z,ρ,F,ds,ρ',S,w,e,q⟩:=hq;obtain⟨⟨os,ρ1⟩,e1,e⟩:=oB e;obtain⟨ms,e2,e⟩:=oB e;obtain⟨ds',e3,e⟩:=oB e;cases e;refine kM S w e1 e2 q λxs H1 Z1 r h=>?_
 unfold gw at e3
 split at e3
 ·rename_i j
  split at e3
  ·next hl=>
   cases e3;obtain⟨x,rfl,h1⟩:=gI r;obtain rfl:=h1.int;have hj:=jZ hl;refine⟨_,rfl,hj.1,hj.2,h _ ?_⟩;have k:=yE (K:=X.K) (H:=H1) (Z:=Z1) 0 j;rw[Int.sub_zero] at k;exact k
  ·cases e3
 ·cases e3
theorem A3{a b:Expr}{fa:FA}{p:Pos}(hg:Gl X "range")(hm:X.mg "range" = none)(ha:VA X [a,b] fa)(hs:FK [a,b] X.env=[(false,eval a X.env),(false,eval b X.env)]:=by rfl)(hs2:FK [b] X.env=[(false,eval b X.env)]:=by rfl):VI X tg (.Call (.Name "range" p) [a,b] [] pos) (bG wz fa):=jY (vq hg hm ha hs hs2) λσ H R hq=>by
 obtain⟨Z,ρ,F,ds,ρ',S,w,e,q⟩:=hq;obtain⟨⟨os,ρ1⟩,e1,e⟩:=oB e;obtain⟨ms,e2,e⟩:=oB e;obtain⟨ds',e3,e⟩:=oB e;cases e;refine kM S w e1 e2 q λxs H1 Z1 r h=>?_
 unfold wz at e3
 split at e3
 ·rename_i i j
  split at e3
  ·next hl=>
   cases e3;obtain⟨x,y,rfl,h1,h2⟩:=ros2 r;obtain rfl:=h1.int; obtain rfl:=h2.int;have hi:=jZ hl.1;have hj:=jZ hl.2;exact⟨_,_,rfl,⟨hi.1,hi.2,hj.1,hj.2⟩,h _ (yE i j)⟩
  ·cases e3
 ·cases e3
noncomputable def yF:List M->Option (List B1)
 |[.v (.tuple a),.v (.tuple b)]=>some (Mz (λx y=>Ma [x,y]) a b)
 |_=>none
noncomputable def oz:List M->Option (List B1)
 |[.v (.tuple a)]=>some (Mz (λ(k:Nat)y=>Ma [.int (k:Int),y]) (Fa a.length) a)
 |_=>none
theorem DY{a b:Expr}{fa:FA}{p tp:Pos}{es:List Expr}{k:Nat}(hg:Gl X "zip")(hm:X.mg "zip" = none)(ha:VA X [a,b] fa)(hs:FK [a,b] X.env=[(false,eval a X.env),(false,eval b X.env)]:=by rfl)(hs2:FK [b] X.env=[(false,eval b X.env)]:=by rfl):VI X (.Tuple es k tp) (.Call (.Name "zip" p) [a,b] [] pos) (bG yF fa):=jY (Dk hg hm ha hs hs2) λσ H R hq=>by
 obtain⟨Z,ρ,F,ds,ρ',S,w,e,q⟩:=hq;obtain⟨⟨os,ρ1⟩,e1,e⟩:=oB e;obtain⟨ms,e2,e⟩:=oB e;obtain⟨ds',e3,e⟩:=oB e;cases e;refine kM S w e1 e2 q λxs H1 Z1 r h=>?_
 unfold yF at e3
 split at e3
 ·rename_i A B
  cases e3;obtain⟨x,y,rfl,h1,h2⟩:=ros2 r;obtain⟨a,xs,rfl,t1,g1⟩:=h1.tup;obtain⟨b,ys,rfl,t2,g2⟩:=h2.tup;refine⟨a,b,rfl,⟨xs,t1⟩,⟨ys,t2⟩,h _ ⟨λH2 Z2 g k d hd=>?_,λH2 Z2 g k hk=>?_⟩⟩
  ·rw[Oh] at hd
   have u1:=g.tups.sq t1;have u2:=g.tups.sq t2;have v1:=g1.mono g;have v2:=g2.mono g;cases ea:A[k]? with
   |none=>rw[ea] at hd; cases hd
   |some da=>
    cases eb:B[k]? with
    |none=>rw[ea,eb] at hd; cases hd
    |some db=>
     rw[ea,eb] at hd;cases hd;obtain⟨x,x1,x2⟩:=v1.get' ea;obtain⟨y,y1,y2⟩:=v2.get' eb;refine⟨⟨xs,ys,x,y,u1,u2,x1,y1⟩,λz H' hz=>?_⟩
     obtain⟨p,x',y',hp,rfl,rfl,zx,zy⟩:=hz;have s:=cU hp (.tup [x',y']);exact⟨s,.tup (cI.of aB) (.cons ((kL u1 v1 ea zx).mono (aJ.same s)) (.cons ((kL u2 v2 eb zy).mono (aJ.same s)) .nil))⟩
  ·rw[MU] at hk
   refine⟨xs,ys,g.tups.sq t1,g.tups.sq t2,?_⟩;rw[g1.length,g2.length];lia
 ·cases e3
theorem A4{a:Expr}{fa:FA}{p tp:Pos}{es:List Expr}{k:Nat}(hg:Gl X "enumerate")(hm:X.mg "enumerate" = none)(ha:VA X [a] fa)(hs:FK [a] X.env=[(false,eval a X.env)]:=by rfl):VI X (.Tuple es k tp) (.Call (.Name "enumerate" p) [a] [] pos) (bG oz fa):=jY (AK hg hm ha hs) λσ H R hq=>by
 obtain⟨Z,ρ,F,ds,ρ',S,w,e,q⟩:=hq;obtain⟨⟨os,ρ1⟩,e1,e⟩:=oB e;obtain⟨ms,e2,e⟩:=oB e;obtain⟨ds',e3,e⟩:=oB e;cases e;refine kM S w e1 e2 q λxs H1 Z1 r h=>?_
 unfold oz at e3
 split at e3
 ·rename_i A
  cases e3;obtain⟨x,rfl,h1⟩:=gI r;obtain⟨a,xs,rfl,t1,g1⟩:=h1.tup;refine⟨a,rfl,⟨xs,t1⟩,h _ ⟨λH2 Z2 g k d hd=>?_,λH2 Z2 g k hk=>?_⟩⟩
  ·rw[Oh] at hd
   have u1:=g.tups.sq t1;have v1:=g1.mono g;cases ea:A[k]? with
   |none=>rw[ea] at hd; split at hd <;> simp_all
   |some da=>
    have hk:=(Da.mp ea).1;rw[ea,K2 hk] at hd;cases hd;obtain⟨x,x1,x2⟩:=v1.get' ea;refine⟨⟨xs,x,u1,x1⟩,λz H' hz=>?_⟩
    obtain⟨p,x',hp,rfl,rfl,zx⟩:=hz;have s:=cU hp (.tup [.int k,x']);exact⟨s,.tup (cI.of aB) (.cons (.int _) (.cons ((kL u1 v1 ea zx).mono (aJ.same s)) .nil))⟩
  ·rw[MU,IV] at hk
   refine⟨xs,g.tups.sq t1,?_⟩;rw[g1.length];lia
 ·cases e3
noncomputable def forL(fg:FG)(fb:FS):List B1->Ev->Option Out
 |[],ρ=>some (.nx ρ)
 |d::ds,ρ=>(fg d ρ).bind λρ1=>(fb ρ1).bind λo=>match o with
  |.nx ρ2=>forL fg fb ds ρ2
  |.ct ρ2=>forL fg fb ds ρ2
  |.bk ρ2=>some (.nx ρ2)
  |.rt m ρ2=>some (.rt m ρ2)
noncomputable def fO(fi:FI)(fg:FG)(fb:FS):FS:=λρ=>(fi ρ).bind λp=>forL fg fb p.1 p.2
theorem A5{fi:FI}{fg:FG}{fb:FS}{pv:Pv}{D:Ends}{σ:L2.St}{H:Hp}(hq:vS X.K pv (fO fi fg fb) D σ H):tFor (vI X.K fi) (vG X.K pv fg) (vS X.K pv fb) D σ H:=by
 obtain⟨Z,ρ,F,o,S,w,P,e,q⟩:=hq;obtain⟨⟨ds,ρ1⟩,e1,e⟩:=oB e;refine⟨Z,ρ,F,ds,ρ1,S,w,e1,λJ H1 Z1 F1 S1 hJ f1=>?_⟩
 refine⟨λi m σ' H'=>m=ds.length-i/\i<=ds.length/\∃Z' ρ' F',aS X.K H' Z' σ' ρ' F'/\Wf H' Z' F'/\Pin pv σ'/\aJ H1 Z1 H' Z'/\∃out,forL fg fb (ds.drop i) ρ'=some out/\nJ X.K pv D H' Z' F' out,⟨_,rfl,HS _,Z1,ρ1,F1,S1,f1.wf,P,aJ.refl,o,e,q.trans f1⟩,λi m σ2 H2 hW=>?_⟩
 obtain⟨rfl,hi,Z2,ρ2,F2,S2,w2,P2,g2,out,e2,q2⟩:=hW;rcases Mv hi with hi | rfl
 ·right
  rw[JX hi] at e2;have hd:ds[i]? = some ds[i]:=Bi hi;obtain⟨go,yl⟩:=hJ.go H2 Z2 g2 i _ hd;obtain⟨ρ3,e3,e2⟩:=oB e2;obtain⟨o3,e4,e2⟩:=oB e2;refine⟨go,λσ' H'=>∃m',m'<ds.length-i/\m'=ds.length-(i+1)/\i+1<=ds.length/\∃Z' ρ' F',aS X.K H' Z' σ' ρ' F'/\Wf H' Z' F'/\Pin pv σ'/\aJ H1 Z1 H' Z'/\∃out,forL fg fb (ds.drop (i+1)) ρ'=some out/\nJ X.K pv D H' Z' F' out,λσ' H' h=>h,λx H' hx=>?_⟩
  obtain⟨s,fz⟩:=yl x H' hx;have gs:aJ H2 Z2 H' Z2:=aJ.same s;have S2':=S2.mono gs λa _ o e=>s a o e
  have fs:aI H2 Z2 F2 H' Z2 F2:=by
   have:=(aI.same s w2.za).news w2 S2.al;rw[FB] at this;exact this
  refine⟨Z2,ρ2,F2,_,ρ3,S2',w2.nd,P2,fz,e3,λσ3 F3 S3 n3 s3 P3=>?_⟩
  have f3:aI H2 Z2 F2 H' Z2 F3:=fs.sub n3 s3;refine⟨Z2,ρ3,F3,o3,S3,f3.wf,P3,e4,?_⟩;have again:∀ρ4,forL fg fb (ds.drop (i+1)) ρ4=some out->∀σ' H4 Z4 F4,aS X.K H4 Z4 σ' ρ4 F4->aI H' Z2 F3 H4 Z4 F4->Pin pv σ'->∃m',m'<ds.length-i/\m'=ds.length-(i+1)/\i+1<=ds.length/\∃Z' ρ' F',aS X.K H4 Z' σ' ρ' F'/\Wf H4 Z' F'/\Pin pv σ'/\aJ H1 Z1 H4 Z'/\∃out,forL fg fb (ds.drop (i+1)) ρ'=some out/\nJ X.K pv D H4 Z' F' out:=λρ4 e5 σ' H4 Z4 F4 S4 f4 P4=>
   ⟨_,by lia,rfl,hi,Z4,ρ4,F4,S4,f4.wf,P4,(g2.trans gs).trans (f4.grow f3.wf),out,e5,q2.trans (f3.trans f4)⟩
  cases o3 with
  |nx ρ4=>exact again ρ4 e2
  |ct ρ4=>exact again ρ4 e2
  |bk ρ4=>cases e2; exact λσ' H4 Z4 F4 S4 f4 P4=>q2 σ' H4 Z4 F4 S4 (f3.trans f4) P4
  |rt m ρ4=>cases e2; exact λx σ' H4 Z4 F4 G S4 O4 f4 P4=>q2 x σ' H4 Z4 F4 G S4 O4 (f3.trans f4) P4
 ·left
  rw[Lv] at e2;cases e2;exact⟨hJ.stop H2 Z2 g2 _ (Db _),q2 σ2 H2 Z2 F2 S2 (aI.refl w2) P2⟩
theorem DZ{iter:Expr}{body:List Stmt}{fi:FI}{fg:FG}{fb:FS}(hp0:My (model X.prog X.w) X.A X.env X.xe)(hc:X.calm=true)(hi:VI X tg iter fi)(hg:VG X pin tg fg)(hb:zV X pin body fb)
  (hs:∀x,HG iter X.env x=pure x:=by intro _; rfl):VS X pin (.For tg iter body [] pos) (fO fi fg fb):=λpv hp=>fM (CL hp0 hc hi (hg pv hp) (hb pv hp) hs) λ_ _ _ hq=>A5 hq
noncomputable def iU(fc:FT)(fb:FS):Nat->Ev->Option Out
 |0,_=>none
 |n+1,ρ=>(fc ρ).bind λp=>if p.1=true then (fb p.2).bind λo=>match o with
  |.nx ρ2=>iU fc fb n ρ2
  |.ct ρ2=>iU fc fb n ρ2
  |.bk ρ2=>some (.nx ρ2)
  |.rt m ρ2=>some (.rt m ρ2)
  else some (.nx p.2)
noncomputable def gx(n:Nat)(fc:FT)(fb:FS):FS:=λρ=>iU fc fb n ρ
theorem wB{n:Nat}{fc:FT}{fb:FS}{pv:Pv}{D:Ends}{σ:L2.St}{H:Hp}(hq:vS X.K pv (gx n fc fb) D σ H):xq (vT X.K fc) (vS X.K pv fb) D σ H:=by
 obtain⟨Z,ρ,F,o,S,w,P,e,q⟩:=hq;refine⟨λm σ' H'=>∃Z' ρ' F',aS X.K H' Z' σ' ρ' F'/\Wf H' Z' F'/\Pin pv σ'/\∃out,iU fc fb m ρ'=some out/\nJ X.K pv D H' Z' F' out,⟨n,Z,ρ,F,S,w,P,o,e,q⟩,λm σ2 H2 hW=>?_⟩
 obtain⟨Z2,ρ2,F2,S2,w2,P2,out,e2,q2⟩:=hW;cases m with
 |zero=>cases e2
 |succ m=>
  obtain⟨⟨b,ρ3⟩,e3,e2⟩:=oB e2;refine⟨Z2,ρ2,F2,b,ρ3,S2,w2,e3,λH3 Z3 F3 S3 f3=>?_⟩
  cases b with
  |false=>cases e2; exact iteF (q2 σ2 H3 Z3 F3 S3 f3 P2)
  |true=>
   obtain⟨o3,e4,e2⟩:=oB e2;refine iteT ⟨λσ' H'=>∃m',m'<m+1/\∃Z' ρ' F',aS X.K H' Z' σ' ρ' F'/\Wf H' Z' F'/\Pin pv σ'/\∃out,iU fc fb m' ρ'=some out/\nJ X.K pv D H' Z' F' out,λσ' H' h=>h,Z3,ρ3,F3,o3,S3,f3.wf,P2,e4,?_⟩
   cases o3 with
   |nx ρ4=>exact λσ' H4 Z4 F4 S4 f4 P4=>⟨m,L7 m,Z4,ρ4,F4,S4,f4.wf,P4,out,e2,q2.trans (f3.trans f4)⟩
   |ct ρ4=>exact λσ' H4 Z4 F4 S4 f4 P4=>⟨m,L7 m,Z4,ρ4,F4,S4,f4.wf,P4,out,e2,q2.trans (f3.trans f4)⟩
   |bk ρ4=>cases e2; exact λσ' H4 Z4 F4 S4 f4 P4=>q2 σ' H4 Z4 F4 S4 (f3.trans f4) P4
   |rt m ρ4=>cases e2; exact λx σ' H4 Z4 F4 G S4 O4 f4 P4=>q2 x σ' H4 Z4 F4 G S4 O4 (f3.trans f4) P4
theorem yG(n:Nat){c:Expr}{body:List Stmt}{fc:FT}{fb:FS}(hp0:My (model X.prog X.w) X.A X.env X.xe)(hc:VT X c fc)(hb:zV X pin body fb):VS X pin (.While c body [] pos) (gx n fc fb):=λpv hp=>fM (xr hp0 hc (hb pv hp)) λ_ _ _ hq=>wB hq
end
noncomputable def fin:List Bool->List M->Ev->Option (List M)
 |[],[],_=>some []
 |true::ps,_::ms,some m'::ρ=>(fin ps ms ρ).bind λms'=>some (m'::ms')
 |false::ps,.v d::ms,_::ρ=>(fin ps ms ρ).bind λms'=>some (.v d::ms')
 |_,_,_=>none
section
variable{K:AT}{H:Hp}{Z:Zs}
theorem s9:∀{ps:List Bool}{ms:List M}{ρ:Ev}{ms':List M}{σ:L2.St}{F:List Addr}{vs:List V},aS K H Z σ ρ F->F.Nodup->(∀(i:Nat)x,ps[i]? = some true->vs[i]? = some x->σ[i]? = some (some x)) ->
  (∀(i:Nat)x d,ps[i]? = some false->vs[i]? = some x->ms[i]? = some (.v d)->Fz K H Z x d)->vs.length=ms.length->fin ps ms ρ=some ms'->∃A,sY K H Z vs ms' A/\A.Nodup/\∀a∈A,a∈F:=by
 intro ps
 induction ps with
 |nil=>
  intro ms ρ ms' σ F vs S nd _ _ hl e;cases ms with
  |cons _ _=>cases e
  |nil=>
   have e:some []=some _:=e;cases e;have:vs=[]:=Ls.mp (by simpa using hl)
   subst this;exact⟨[],.nil,JS,λa h=>by simp at h⟩
 |cons p ps ih=>
  intro ms ρ ms' σ F vs S nd h1 h2 hl e;cases ms with
  |nil=>cases p <;> cases e
  |cons m ms=>
  cases vs with
  |nil=>simp at hl
  |cons v vs=>
  have hl':vs.length=ms.length:=by simpa using hl
  have h2':∀(i:Nat)x d,ps[i]? = some false->vs[i]? = some x->ms[i]? = some (.v d)->Fz K H Z x d:=λi x d p q z=>h2 (i+1) x d (by simpa using p) (by simpa using q) (by simpa using z)
  have hσ:∀{x:Option V}{σ':L2.St},σ=x::σ'->(∀(i:Nat)x,ps[i]? = some true->vs[i]? = some x->σ'[i]? = some (some x)):=λ{x σ'}eσ i y p q=>by
   have:=h1 (i+1) y (by simpa using p) (by simpa using q)
   rw[eσ] at this;simpa using this
  cases p with
  |true=>
   cases S with
   |nil=>cases e
   |non r=>cases e
   |@som x m' G σ ρ F q r=>
    obtain⟨ms',e1,e⟩:=oB e;cases e;obtain⟨n1,n2,n3⟩:=aU nd;have hx:=h1 0 v rfl rfl;cases hx;obtain⟨A,a1,a2,a3⟩:=ih r n2 (hσ rfl) h2' hl' e1;refine⟨G++A,.cons q a1,aO n1 a2 λa h z=>n3 a h (a3 a z),λa h=>?_⟩
    rcases lM h with h | h
    ·exact lL _ h
    ·exact lR _ (a3 a h)
  |false=>
   cases m with
   |lst _=>cases ρ <;> cases e
   |aL _=>cases ρ <;> cases e
   |bM _=>cases ρ <;> cases e
   |v d=>
   cases ρ with
   |nil=>cases e
   |cons c ρ=>
   obtain⟨ms',e1,e⟩:=oB e;cases e;have key:∀{σ':L2.St}{F':List Addr},aS K H Z σ' ρ F'->F'.Nodup->(∀a∈F',a∈F)->(∀(i:Nat)x,ps[i]? = some true->vs[i]? = some x->σ'[i]? = some (some x))->∃A,sY K H Z (v::vs) (.v d::ms') A/\A.Nodup/\∀a∈A,a∈F:=λS' nd' sub h1'=>by
    obtain⟨A,a1,a2,a3⟩:=ih S' nd' h1' h2' hl' e1;exact⟨[]++A,.cons (.v (h2 0 v d rfl rfl rfl)) a1,by rw[IT]; exact a2,λa h=>by rw[IT] at h; exact sub a (a3 a h)⟩
   cases S with
   |non r=>exact key r nd (λ_ h=>h) (hσ rfl)
   |som q r=>exact key r (aU nd).2.1 (λa h=>lR _ h) (hσ rfl)
theorem aS.yH:∀{xs:List V}{ms:List M}{A:List Addr}(n:Nat),sY K H Z xs ms A->aS K H Z (xs.map some++D2 n none) (ms.map some++D2 n none) A:=by
 intro xs ms A n h
 induction h with
 |nil=>
  induction n with
  |zero=>exact .nil
  |succ n ih=>exact .non ih
 |cons h r ih=>exact .som h ih
theorem aS.uJ{xs:List V}{ms:List M}{A:List Addr}(h:sY K H Z xs ms A):∀n:Nat,aS K H Z (D2 n none++xs.map some) (D2 n none++ms.map some) A
 |0=>by have:=aS.yH 0 h; simpa using this
 |n+1=>.non (aS.uJ h n)
end
noncomputable def e9(ps:List Bool)(n:Nat)(fb:FS):FF:=λms=>if ms.length=ps.length then (fb (ms.map some++D2 (n-ms.length) none)).bind λo=>match o with
 |.rt m ρ=>(fin ps ms ρ).bind λms'=>some (m,ms')
 |.nx ρ=>(fin ps ms ρ).bind λms'=>some (.v .none,ms')
 |_=>none
 else none
noncomputable def pins:List Bool->Nat->List Nat
 |[],_=>[]
 |true::ps,k=>k::pins ps (k+1)
 |false::ps,k=>pins ps (k+1)
theorem mh:∀{ps:List Bool}{k i:Nat},ps[i]? = some true->k+i∈pins ps k
 |[],_,_,h=>by simp at h
 |true::ps,k,0,_=>lS
 |true::ps,k,i+1,h=>lO _ (by have:=mh (k:=k+1) (i:=i) (ps:=ps) (by simpa using h); rw[show k+(i+1)=k+1+i by lia]; exact this)
 |false::ps,k,0,h=>by simp at h
 |false::ps,k,i+1,h=>by have:=mh (k:=k+1) (i:=i) (ps:=ps) (by simpa using h); rw[show k+(i+1)=k+1+i by lia]; exact this
theorem sY.get{K:AT}{H:Hp}{Z:Zs}:∀{xs:List V}{ms:List M}{A:List Addr}{i:Nat}{x:V}{m:M},sY K H Z xs ms A->xs[i]? = some x->ms[i]? = some m->∃G,Ow K H Z x m G:=by
 intro xs ms A i x m h
 induction h generalizing i with
 |nil=>intro e; simp at e
 |cons h r ih=>
  intro e e';cases i with
  |zero=>cases e; cases e'; exact⟨_,h⟩
  |succ i=>exact ih (i:=i) (by simpa using e) (by simpa using e')
section
variable{P:Fk}{w:World}{K:AT}{mg:Str->Option Value}{base:Heap}
theorem D0{x qual:Str}{st:Stmt}{f:Addr}{fd:Jv}{N prs:List Str}{k:Nat}(ps:List Bool){fb:FS}(Fn:lq K x qual st f fd)(S:aX N prs (ao st))(hl:prs.length=ps.length)
  (hb:∀(cdv:Value)(A:HN)(outer:List Env)(s:B2)(H:Hp)(E:XK),eY k (A.deeper (MQ qual (ao st) s.heap.objs.size f cdv))->zV (qo jc P w K mg base N qual (ao st) f cdv A outer s H E).EM (pins ps 0) (aQ st) fb) :
  cF P w K mg base jc (k+1) f fd prs (cS K (e9 ps N.length fb)):=by
 refine Fn.ok S (λvs H Q E h=>?_) λcdv A outer s H vs Q E hr h=>?_
 ·obtain⟨Z,ms,A,m,ms',h1,_,e,_⟩:=h
  unfold e9 at e
  split at e
  ·next he=>rw[hl,<-he,h1.length]
  ·cases e
 ·obtain⟨Z,ms,A',m,ms',h1,h2,e,q⟩:=h
  unfold e9 at e
  split at e
  ·next he=>
   let pv:Pv:=λi=>if ps[i]? = some true then vs[i]? else none
   have sup:Cd pv (pins ps 0):=λj y e=>by
    have e:(if ps[j]? = some true then vs[j]? else none)=some y:=e
    split at e
    ·next hj=>have:=mh (k:=0) hj; rwa [LM] at this
    ·cases e
   refine⟨_,hb cdv A outer s H E hr pv sup,?_⟩;obtain⟨o,e1,e⟩:=oB e;have hlen:=h1.length;have pin0:Pin pv (L2.start N vs):=λi y e=>by
    have e:(if ps[i]? = some true then vs[i]? else none)=some y:=e
    split at e
    ·unfold L2.start
     rw[HF (by rw[D1]; exact(Da.mp e).1),HL,e]
     rfl
    ·cases e
   have S0:aS K H Z (L2.start N vs) (ms.map some++D2 (N.length-ms.length) none) A':=by
    have:=aS.yH (N.length-ms.length) h1;rw[<-hlen] at this;unfold L2.start;rw[<-hlen];exact this
   have fz0:∀(i:Nat)x d,ps[i]? = some false->vs[i]? = some x->ms[i]? = some (.v d)->Fz K H Z x d:=λi x d _ h h'=>by
    obtain⟨G,z⟩:=h1.get h h';cases z with
    |v f=>exact f
   have pinR:∀{σ':L2.St},Pin pv σ'->∀(i:Nat)x,ps[i]? = some true->vs[i]? = some x->σ'[i]? = some (some x):=λ{σ'}P' i x h h'=>P' i x (by show (if ps[i]? = some true then vs[i]? else none)=some x; rw[if_pos h]; exact h')
   refine⟨Z,_,A',o,S0,h2,pin0,e1,?_⟩;cases o with
   |nx ρ=>
    obtain⟨ms2,e2,e⟩:=oB e;cases e;intro σ' H' Z' F' S' f' P';obtain⟨A2,a1,a2,a3⟩:=s9 S' f'.nd (pinR P') (λi x d h h' h''=>(fz0 i x d h h' h'').mono (f'.grow h2)) hlen e2
    exact q .non H' Z' A2 [] a1 (.v .non) (f'.sub a2 a3).nil
   |rt m2 ρ=>
    obtain⟨ms2,e2,e⟩:=oB e;cases e;intro x σ' H' Z' F' G S' O' f' P';obtain⟨n1,n2,n3⟩:=aU f'.nd;obtain⟨A2,a1,a2,a3⟩:=s9 S' n1 (pinR P') (λi x d h h' h''=>(fz0 i x d h h' h'').mono (f'.grow h2)) hlen e2
    refine q x H' Z' A2 G a1 O' (f'.sub (aO a2 n2 λa h z=>n3 a (a3 a h) z) λa h=>?_)
    rcases lM h with h | h
    ·exact lL _ (a3 a h)
    ·exact lR _ h
   |bk ρ=>cases e
   |ct ρ=>cases e
  ·cases e
end
end VL
end
section
namespace L2
open PySem PySem.Spec PyProof.Rows
abbrev Ce:=St->Hp->(St->Hp->Prop)->Prop
def PEm2(X:Cx)(em:Sem Unit)(t:Ce):Prop :=
 ∀(pins:List (Addr×Obj))(s:B2)(σ:St)(H:Hp)(R:St->Hp->Prop),Inv X pins σ H s->t σ H R ->
  wpAny (model X.prog X.w) X.A em (λ_ s'=>∃σ' H',Inv X pins σ' H' s'/\R σ' H') X.xe s
def iV(g:TG)(tt:TT)(tem:Ce)(J:It)(τ:St)(H:Hp)(Q:St->Hp->Prop):Prop :=
 ∃W:Nat->Nat->St->Hp->Prop,(∃m,W 0 m τ H)/\∀i m τ H,W i m τ H ->
  (J.stop i H/\Q τ H)\/(J.go i H/\∃N:St->Hp->Prop,(∀τ' H',N τ' H'->∃m',m'<m/\W (i+1) m' τ' H')/\∀x H',J.yld i H x H'->g x τ H' λτ2 H2=>tt τ2 H2 λb H3=>
   if b=true then tem τ2 H3 N else N τ2 H3)
section
variable{X:Cx}{e target iter:Expr}{ifs:List Expr}{g:TG}{tt:TT}{tem:Ce}{acc:Value}{em:Sem Unit}
theorem mj{d:Nat}{pins:List (Addr×Obj)}{it:Addr}{fp:List Addr}{tn:Nat->Heap->Prop}{J:It}{τ:St}{H:Hp}{s:B2}{Q:St->Hp->Prop}{R:OZ->B2->Prop}
  (ht:Mk e d (.ref it) acc X.env=gQ target iter ifs em (.ref it) X.env (again (.compLoop e d (.ref it) acc X.env)))
  (hd:∀(Q:Fin->B2->Prop)(E:Value->B2->Prop)(s:B2),wpAny (model X.prog X.w) X.A ((Mk e d (.ref it) acc X.env).onRaise (λx=>do O0 x X.env; theTreesLotGoes x)) Q E s ->
   wpAny (model X.prog X.w) (X.A.under (.compLoop e d (.ref it) acc X.env)) ((model X.prog X.w).den (.compLoop e d (.ref it) acc X.env)) Q E s)
  (hq:(Qm e d (.ref it) acc X.env).quiet=true)
  (hc:X.calm=true) (hx:X.xe=λ_ _=>False) (hg:PG X target g) (hi:ly X ifs tt) (he:PEm2 X em tem) (T:Turn X.prog X.w X.K target J fp it tn)
  (I:Inv X pins τ H s) (st:tn 0 s.heap) (hf:∀b∈fp,gG X pins H b) (h:iV g tt tem J τ H Q) (hR:∀τ' H' s',Inv X pins τ' H' s'->Q τ' H'->R (.ok .next) s') :
  Js (model X.prog X.w) X.A (.compLoop e d (.ref it) acc X.env) R s:=by
 obtain⟨W,⟨m0,w0⟩,turn⟩:=h;have stat:∀{H':Hp},(∀b∈fp,H' b=none)->∀b∈fp,gG X pins H' b:=λhn b hb=>⟨hn b hb,(hf b hb).2⟩
 have noX:∀{α:Type}{t:Sem α}{Q:α->B2->Prop}{s':B2}{E:Value->B2->Prop},wpAny (model X.prog X.w) X.A t Q X.xe s'->wpAny (model X.prog X.w) X.A t Q E s':=λ{α t Q s' E}h' =>
  J3 h' (λ_ _ q=>q) λ_ _ z=>by rw[hx] at z; exact z.elim
 refine codeAny_loop hq (λn s'=>∃i τ' H',Inv X pins τ' H' s'/\tn i s'.heap/\(∀b∈fp,H' b=none)/\W i n τ' H') ?_ m0 ⟨0,τ,H,I,st,λb hb=>(hf b hb).1,w0⟩
 rintro n s3 ⟨i,σ3,H3,I3,st3,fr3,w3⟩;refine hd _ _ _ (wpAny_noted ?_);rw[ht];unfold gQ;refine AC (J4 (AC ?_));rcases turn i n σ3 H3 w3 with⟨stop,qn⟩ | ⟨go,Nx,hNx,step⟩
 ·refine aZ (T.done X rfl rfl rfl hc i pins s3 σ3 H3 _ I3 (stat fr3) st3 stop) λr s4 ⟨hr,I4⟩=>?_
  subst hr;exact At (hR _ _ _ I4 qn)
 ·refine aZ (T.item X rfl rfl rfl hc i pins s3 σ3 H3 _ I3 (stat fr3) st3 go) λr s4 ⟨u,hr,h4⟩=>?_
  subst hr;refine AC (aZ h4 λ_ s5 ⟨x,H5,I5,r5,y5,st5,fr5⟩=>?_)
  have I5':=I5.pinned (stat fr5) (T.obj _ _ st5);refine AC (noX (aZ (hg _ s5 σ3 H5 x u _ I5' r5 (step x H5 y5)) λ_ s6 ⟨σ6,H6,I6,q6⟩=>?_))
  have again':∀{σ7:St}{H7:Hp}{s7:B2},Inv X (pins++jN fp s5.heap) σ7 H7 s7->(∃m',m'<n/\W (i+1) m' σ7 H7)->∃m,m<n/\∃i σ' H',Inv X pins σ' H' s7/\tn i s7.heap/\(∀b∈fp,H' b=none)/\W i m σ' H':=λ{σ7 H7 s7}I7 n7=>by
   obtain⟨m',hm,w7⟩:=n7;refine⟨m',hm,i+1,σ7,H7,I7.gM,T.keep _ _ _ st5 λb hb o e=>(I7.pin (b,o) (lR _ (lR _ (dh hb e)))).1,λb hb=>?_,w7⟩
   obtain⟨o,e,d⟩:=T.obj _ _ st5 b hb;exact(I7.pin (b,o) (lR _ (lR _ (dh hb e)))).2.1
  refine AC (noX (aZ (hi _ s6 σ6 H6 _ I6 q6) λok s7 ⟨H7,I7,q7⟩=>?_))
  cases ok with
  |false=>exact At ⟨rfl,again' I7 (hNx _ _ q7)⟩
  |true=>
   refine AC (noX (aZ (he _ s7 σ6 H7 _ I7 q7) λ_ s8 ⟨σ8,H8,I8,q8⟩=>?_))
   exact At ⟨rfl,again' I8 (hNx _ _ q8)⟩
noncomputable def eApp2(D:Addr)(te:TE):Ce:=λσ H R=>te σ H λy H1=>∃xs,H1 D=some (.lst xs)/\xs.length<FX/\R σ (upd H1 D (.lst (xs++[y])))
noncomputable def inner(e iter2:Expr)(acc:Value)(env:Env):Sem Unit:=do
 let x <-eval iter2 env
 KJ iter2.pos
 let x <-HG iter2 env x
 let _ <-runOwn (.compStart e 1 (<-L3 [x] (MM x)) acc env) env
noncomputable def Gw(wi:TI)(g:TG)(tt:TT)(tem:Ce):Ce:=λσ H R=>wi σ H λJ H1=>iV g tt tem J σ H1 R
end
end L2
end
section
namespace VL
open PySem PySem.Spec L2 PyProof.Rows
noncomputable def dB:FT:=λρ=>some (true,ρ)
abbrev VF(X:Cx)(ifs:List Expr)(f:FT):Prop:=ly X ifs (vT X.K f)
section
variable{X:Cx}{pos:Pos}
theorem D3:VF X [] dB:=λpins s σ H Q I hq=>C9 pins s σ H Q I (by
 obtain⟨Z,ρ,F,b,ρ',S,w,e,q⟩:=hq;cases e;exact q H Z F S (aI.refl w))
theorem D4{c:Expr}{f:FT}(h:VT X c f):VF X [c] f:=Dc h
end
noncomputable def cap(ρ:Ev)(j:Nat):Option cN:=match ck ρ j with
 |some (.v d)=>some (.t (.v d))
 |some _=>some (.p j)
 |none=>none
noncomputable def caps(ρ:Ev):List Nat->Option (List cN)
 |[]=>some []
 |j::js=>(cap ρ j).bind λo=>(caps ρ js).bind λos=>some (o::os)
noncomputable def bz(fg:FG)(ft:FT)(fe:FE):List B1->Ev->List B1->Option (List B1×Ev)
 |[],ρ,acc=>some (acc,ρ)
 |d::ds,ρ,acc=>(fg d ρ).bind λρ1=>(ft ρ1).bind λt=>if t.1=true then
  (fe t.2).bind λp=>(cL p.1 p.2).bind λq=>if acc.length<lim then bz fg ft fe ds q.2 (acc++[q.1]) else none
  else bz fg ft fe ds t.2 acc
noncomputable def nh(n:Nat)(js:List Nat)(fi:FI)(fg:FG)(ft:FT)(fe:FE):FE:=λρ=>(fi ρ).bind λp=>(caps p.2 js).bind λos=>(bQ os p.2).bind λq=>
 (bz fg ft fe p.1 (D2 n none++q.1.map some) []).bind λr=>(fin (D2 js.length true) q.1 (r.2.drop n)).bind λms'=>some (.t (.lst r.1),eT os ms' q.2)
noncomputable def slot(σ:L2.St)(j:Nat):Option V:=match σ[j]? with
 |some v=>v
 |none=>none
noncomputable def fP(n:Nat)(js:List Nat)(σ:L2.St):Pv:=λk=>if k<n then none else match js[k-n]? with
 |some j=>slot σ j
 |none=>none
section
variable{K:AT}{H:Hp}{Z:Zs}{σ:L2.St}{ρ:Ev}{F:List Addr}
theorem A6(S:aS K H Z σ ρ F):∀{js:List Nat}{os:List cN},caps ρ js=some os->∃xs,jV K H Z σ xs os []/\xs.map some=js.map (slot σ)/\xs.length=js.length:=by
 intro js
 induction js with
 |nil=>
  intro _ e;cases e; exact⟨[],.nil,rfl,rfl⟩
 |cons j js ih=>
  intro _ e;obtain⟨o,e1,e⟩:=oB e;obtain⟨os,e2,e⟩:=oB e;cases e;obtain⟨xs,h1,h2,h3⟩:=ih e2;unfold cap at e1;cases hm:ck ρ j with
  |none=>rw[hm] at e1; cases e1
  |some m=>
   obtain⟨x,G,k1,k2,k3⟩:=S.get (aF.mp hm);have ho:ng K H Z σ x o []:=by
    rw[hm] at e1;cases m with
    |v d=>cases e1; cases k2 with
     |v f=>exact .t (.v f)
    |lst _=>cases e1; exact .p k1
    |aL _=>cases e1; exact .p k1
    |bM _=>cases e1; exact .p k1
   refine⟨x::xs,.cons (G:=[]) ho h1,?_,by rw[Bn,Bn,h3]⟩
   rw[GM,GM,h2];unfold slot;rw[k1]
theorem A7(n:Nat)(js:List Nat)(σ:L2.St):lu (D2 n none++js.map some) σ=D2 n none++js.map (slot σ):=by
 unfold lu;rw[Iu,List.map_replicate,Iy];rfl
theorem D5(n:Nat)(js:List Nat)(σ:L2.St):Pin (fP n js σ) (D2 n none++js.map (slot σ)):=λk x e=>by
 unfold fP at e
 split at e
 ·cases e
 ·next hk=>
  rw[HU (by rw[M8]; lia),M8,HL]
  cases hj:js[k-n]? with
  |none=>rw[hj] at e; cases e
  |some j=>rw[hj] at e; rw[Lw]; exact congrArg some e
theorem iW(n:Nat)(js:List Nat)(σ:L2.St){pin:List Nat}(hp:pin=(Fa js.length).map (n + ·)):Cd (fP n js σ) pin:=λk x e=>by
 unfold fP at e
 split at e
 ·cases e
 ·next hk=>
  cases hj:js[k-n]? with
  |none=>rw[hj] at e; cases e
  |some j=>
   subst hp;have:=(Da.mp hj).1;exact IL.mpr ⟨k-n,Iq.mpr this,by lia⟩
end
section
variable{X:Cx}{pos:Pos}
theorem aS.dropN{K:AT}{H:Hp}{Z:Zs}:∀{σ:L2.St}{ρ:Ev}{F:List Addr}(n:Nat),aS K H Z σ ρ F->F.Nodup->∃F',aS K H Z (σ.drop n) (ρ.drop n) F'/\F'.Nodup/\∀a∈F',a∈F:=by
 intro σ ρ F n h
 induction h generalizing n with
 |nil=>exact λnd=>⟨[],by rw[MY,MY]; exact .nil,nd,λ_ h=>h⟩
 |non r ih=>
  cases n with
  |zero=>exact λnd=>⟨_,.non r,nd,λ_ h=>h⟩
  |succ n=>exact ih n
 |som q r ih=>
  intro nd;cases n with
  |zero=>exact⟨_,.som q r,nd,λ_ h=>h⟩
  |succ n=>
   obtain⟨F',h1,h2,h3⟩:=ih n (aU nd).2.1;exact⟨F',h1,h2,λa h=>lR _ (h3 a h)⟩
theorem aI.put{H0 H:Hp}{Z0 Z:Zs}{F0 F:List Addr}{D:Addr}{o o':HO}(f:aI H0 Z0 F0 H Z (F++[D]))(e:H D=some o)(hn:∀u,o≠.tup u)(hf:∀x u,o≠.frz x u):aI H0 Z0 F0 (upd H D o') Z (F++[D])/\aJ H Z (upd H D o') Z:=by
 have hD:D∈F++[D]:=lR _ lS;have nz:¬Z D:=f.dz D hD;have keep:∀a o2,a≠D->H a=some o2->upd H D o' a=some o2:=λa o2 n h=>by rw[aA n]; exact h
 have za:∀a,Z a->upd H D o' a≠none:=λa z=>by
  have hne:a≠D:=λh=>nz (h▸z)
  rw[aA hne];exact f.za a z
 have g:aJ H Z (upd H D o') Z:=⟨d9.put e hn hf,λa o2 z h=>keep a o2 (λw=>nz (w▸z)) h,λ_ z=>z⟩
 refine⟨f.trans ⟨λa o2 n h=>keep a o2 (λw=>n (w▸hD)) h,g.tups,λ_ z=>z,λa z=>.inl z,λa h=>.inl h,f.nd,f.dz,za⟩,g⟩
inductive Gx{α:Type}(K:AT)(pv:Pv)(AP:Hp->Zs->α->List Addr->Prop)(C:List B1->Ev->α->Prop)(H1:Hp)(Z1:Zs)(B:List Addr)(ds:List B1)(i m:Nat)(τ:L2.St)(H:Hp):Prop
 |mk (Z:Zs) (ρ:Ev) (F G:List Addr) (acc:α):m=ds.length-i->i<=ds.length->aS K H Z τ ρ F->Pin pv τ->AP H Z acc G->aI H1 Z1 B H Z (F++G)->C (ds.drop i) ρ acc->Gx K pv AP C H1 Z1 B ds i m τ H
theorem jz{α:Type}{pv:Pv}{fg:FG}{ft:FT}{tem:Ce}{J:It}{ds:List B1}{τ:L2.St}{H0 H1:Hp}{Z0 Z1:Zs}{F0 G0 B:List Addr}{ρ0:Ev}{acc0:α}{Q:L2.St->Hp->Prop}
  (AP:Hp->Zs->α->List Addr->Prop) (C E:List B1->Ev->α->Prop)
  (apm:∀{H Z H' Z' acc G},AP H Z acc G->aJ H Z H' Z'->(∀a∈G,∀o,H a=some o->H' a=some o)->AP H' Z' acc G) (apa:∀{H Z acc G},AP H Z acc G->∀a∈G,H a≠none)
  (hC:∀d ds ρ acc,C (d::ds) ρ acc->∃ρ1 b ρ2,fg d ρ=some ρ1/\ft ρ1=some (b,ρ2)/\(b=true->E ds ρ2 acc)/\(b=false->C ds ρ2 acc))
  (S:aS X.K H0 Z0 τ ρ0 F0) (P:Pin pv τ) (a0:AP H0 Z0 acc0 G0) (f0:aI H1 Z1 B H0 Z0 (F0++G0)) (e:C ds ρ0 acc0)
  (hgo:∀H2 Z2 F2,aI H1 Z1 B H2 Z2 F2->∀k d,ds[k]? = some d->J.go k H2/\∀x H',J.yld k H2 x H'->bA H2 H'/\Fz X.K H' Z2 x d) (hst:∀H2 Z2 F2,aI H1 Z1 B H2 Z2 F2->∀k,ds.length<=k->J.stop k H2)
  (hE:∀ds' τ H Z ρ F G acc,E ds' ρ acc->aS X.K H Z τ ρ F->Pin pv τ->AP H Z acc G->aI H1 Z1 B H Z (F++G)->∀N:L2.St->Hp->Prop,(∀τ' H' Z' ρ' F' G' acc',aS X.K H' Z' τ' ρ' F'->Pin pv τ'->AP H' Z' acc' G'->aI H1 Z1 B H' Z' (F'++G')->C ds' ρ' acc'->N τ' H')->tem τ H N)
  (q:∀τ' H' Z' ρ' F' G' acc',aS X.K H' Z' τ' ρ' F'->Pin pv τ'->AP H' Z' acc' G'->aI H1 Z1 B H' Z' (F'++G')->C [] ρ' acc'->Q τ' H') :
  iV (vG X.K pv fg) (vT X.K ft) tem J τ H0 Q:=by
 refine⟨Gx X.K pv AP C H1 Z1 B ds,⟨_,Z0,ρ0,F0,G0,acc0,rfl,HS _,S,P,a0,f0,e⟩,λi m τ2 H2 hW=>?_⟩
 obtain⟨Z2,ρ2,F2,G2,acc,rfl,hi,S2,P2,a2,f2,e2⟩:=hW;rcases Mv hi with hi | rfl
 ·right
  rw[JX hi] at e2;obtain⟨go,yl⟩:=hgo H2 Z2 _ f2 i _ (Bi hi);obtain⟨ρ3,b,ρ4,e3,e4,e5,e6⟩:=hC _ _ _ _ e2;refine⟨go,λτ' H'=>∃m',m'<ds.length-i/\Gx X.K pv AP C H1 Z1 B ds (i+1) m' τ' H',λτ' H' h=>h,λx H' hx=>?_⟩
  obtain⟨s,fz⟩:=yl x H' hx;have gs:aJ H2 Z2 H' Z2:=aJ.same s;have a2':=apm a2 gs λa _ o e=>s a o e
  obtain⟨m1,m2,m3⟩:=aU f2.nd;have fs:aI H2 Z2 (F2++G2) H' Z2 (F2++G2):=by
   have:=(aI.same s f2.za).news f2.wf λa h=>(lM h).elim (S2.al a) (apa a2 a)
   rw[FB] at this;exact this
  refine⟨Z2,ρ2,F2,_,ρ3,S2.mono gs λa _ o e=>s a o e,m1,P2,fz,e3,λτ3 F3 S3 n3 s3 P3=>?_⟩
  have f3:aI H1 Z1 B H' Z2 (F3++G2):=(f2.trans fs).sub (aO n3 m2 λa h z=>m3 a (s3 a h) z) λa h=>by
   rcases lM h with h | h
   ·exact lL _ (s3 a h)
   ·exact lR _ h
  refine⟨Z2,ρ3,F3,b,ρ4,S3,f3.left.wf,e4,λH4 Z4 F4 S4 g4=>?_⟩
  have f4:aI H1 Z1 B H4 Z4 (F4++G2):=f3.trans (g4.frame f3.wf (apa a2'));have a4:=apm a2' (g4.grow f3.left.wf) λa h o e=>g4.keep a o (λz=>(aU f3.nd).2.2 a z h) e
  cases b with
  |false=>exact iteF ⟨_,by lia,Z4,ρ4,F4,G2,acc,rfl,hi,S4,P3,a4,f4,e6 rfl⟩
  |true=>exact iteT (hE _ _ _ _ _ _ _ _ (e5 rfl) S4 P3 a4 f4 _ λτ' H' Z' ρ' F' G' acc' s p a f c=>⟨_,by lia,Z',ρ',F',G',acc',rfl,hi,s,p,a,f,c⟩)
 ·left
  rw[Lv] at e2;exact⟨hst H2 Z2 _ f2 _ (Db _),q τ2 H2 Z2 _ F2 G2 _ S2 P2 a2 f2 e2⟩
inductive nK(K:AT)(D:Addr)(H:Hp)(Z:Zs)(acc:List B1)(G:List Addr):Prop
 |mk (xs:List V):G=[D]->H D=some (.lst xs)->bD K H Z xs acc->nK K D H Z acc G
theorem nK.mono{K:AT}{D:Addr}{H H':Hp}{Z Z':Zs}{acc:List B1}{G:List Addr}(h:nK K D H Z acc G)(g:aJ H Z H' Z')(k:∀a∈G,∀o,H a=some o->H' a=some o):nK K D H' Z' acc G:=by
 obtain⟨xs,rfl,e,z⟩:=h;exact⟨xs,rfl,k D lS _ e,z.mono g⟩
theorem nK.al{K:AT}{D:Addr}{H:Hp}{Z:Zs}{acc:List B1}{G:List Addr}(h:nK K D H Z acc G):∀a∈G,H a≠none:=by
 obtain⟨xs,rfl,e,z⟩:=h;exact λa h q=>by rw[Ch.mp h,e] at q; cases q
theorem yI{pv:Pv}{fg:FG}{ft:FT}{fe:FE}{J:It}{ds:List B1}{D:Addr}{τ:L2.St}{H0 H1:Hp}{Z0 Z1:Zs}{F0 B:List Addr}{ρ0:Ev}{r:List B1×Ev}{xs0:List V}{acc0:List B1}{Q:L2.St->Hp->Prop}(S:aS X.K H0 Z0 τ ρ0 F0)(P:Pin pv τ)(d0:H0 D=some (.lst xs0))(z0:bD X.K H0 Z0 xs0 acc0)(f0:aI H1 Z1 B H0 Z0 (F0++[D]))
  (hgo:∀H2 Z2 F2,aI H1 Z1 B H2 Z2 F2->∀k d,ds[k]? = some d->J.go k H2/\∀x H',J.yld k H2 x H'->bA H2 H'/\Fz X.K H' Z2 x d) (hst:∀H2 Z2 F2,aI H1 Z1 B H2 Z2 F2->∀k,ds.length<=k->J.stop k H2) (e:bz fg ft fe ds ρ0 acc0=some r)
  (q:∀τ' H' Z' F' xs,aS X.K H' Z' τ' r.2 F'->Pin pv τ'->H' D=some (.lst xs)->bD X.K H' Z' xs r.1->aI H1 Z1 B H' Z' (F'++[D])->Q τ' H'):iV (vG X.K pv fg) (vT X.K ft) (eApp2 D (vE X.K fe)) J τ H0 Q:=by
 refine jz (nK X.K D) (λds ρ acc=>bz fg ft fe ds ρ acc=some r) (λds ρ acc=>((fe ρ).bind λp=>(cL p.1 p.2).bind λq=>if acc.length<lim then bz fg ft fe ds q.2 (acc++[q.1]) else none)=some r) nK.mono nK.al (λd ds ρ acc e=>?_) S P ⟨xs0,rfl,d0,z0⟩ f0 e hgo hst (λds' τ H Z ρ F G acc e S P a f N hN=>?_) λτ' H' Z' ρ' F' G' acc' S P a f e=>?_
 ·obtain⟨ρ3,e3,e⟩:=oB e
  obtain⟨⟨b,ρ4⟩,e4,e⟩:=oB e;exact⟨ρ3,b,ρ4,e3,e4,λh=>by subst h; exact e,λh=>by subst h; exact e⟩
 ·obtain⟨xs,rfl,d4,z4⟩:=a
  obtain⟨⟨o5,ρ5⟩,e5,e⟩:=oB e;obtain⟨⟨d,ρ6⟩,e6,e⟩:=oB e
  split at e
  ·next hl=>
   refine⟨Z,ρ,F,o5,ρ5,S,f.left.wf,e5,λy H5 Z5 F5 G5 S5 O5 g5=>?_⟩
   have d5:H5 D=some (.lst xs):=g5.keep D _ (λz=>(aU f.nd).2.2 D z lS) d4
   obtain⟨Z6,F6,S6,y6,f6,g6⟩:=freeze S5 O5 (f.trans (g5.frame f.wf (nK.al ⟨xs,rfl,d4,z4⟩))) e6;have z6:=(z4.mono (g5.grow f.left.wf)).mono g6;obtain⟨f7,g7⟩:=f6.put (o':=.lst (xs++[y])) d5 (λ_ z=>nomatch z) (λ_ _ z=>nomatch z)
   refine⟨xs,d5,gU (JT (by rw[z6.length]; exact hl)),hN _ _ Z6 ρ6 F6 _ _ (S6.mono g7 λa h o e=>?_) P ⟨xs++[y],rfl,aB,(z6.mono g7).append (.cons (y6.mono g7) .nil)⟩ f7 e⟩
   rw[aA λz=>(aU f6.nd).2.2 a h (by rw[z]; exact lS)]
   exact e
  ·cases e
 ·cases e
  obtain⟨xs,rfl,d,z⟩:=a;exact q τ' H' Z' F' xs S P d z f
theorem A8{n:Nat}{pv:Pv}{fg:FG}{ft:FT}{fe:FE}{J:It}{ds:List B1}{D:Addr}{τ:L2.St}{H1:Hp}{Z1:Zs}{A:List Addr}{ρ0:Ev}{r:List B1×Ev}{Q:Hp->Prop}(hD:H1 D=none)(S:aS X.K H1 Z1 τ ρ0 A)(w:Wf H1 Z1 A)(P:Pin pv τ)(hJ:jy X.K J H1 Z1 ds)(e:bz fg ft fe ds ρ0 []=some r)
  (q:∀τ' H' Z' F' xs,aS X.K H' Z' τ' r.2 F'->Pin pv τ'->H' D=some (.lst xs)->bD X.K H' Z' xs r.1->aI H1 Z1 A H' Z' (F'++[D])->Q H'):n9 (vG X.K pv fg) (vT X.K ft) (eApp D (vE X.K fe)) J τ (upd H1 D (.lst [])) Q:=by
 have n0:=aI.sN (o:=.lst []) hD w.za;exact yI (Q:=λ_=>Q) (S.news n0) P aB .nil (n0.news w S.al) (λH2 Z2 _ f=>hJ.go H2 Z2 (f.grow w)) (λH2 Z2 _ f=>hJ.stop H2 Z2 (f.grow w)) e q
inductive Cf(K:AT)(H:Hp)(Z:Zs)(F:List Addr)(H1:Hp)(Z1:Zs)(σ:L2.St)(n:Nat)(js:List Nat)(os:List cN)(ms:List M)(ρh:Ev):Prop
 |mk (τ:L2.St) (A Fh:List Addr):lu (D2 n none++js.map some) σ=τ->aS K H1 Z1 τ (D2 n none++ms.map some) A->Wf H1 Z1 A->Pin (fP n js σ) τ->aS K H1 Z1 σ ρh Fh->(∀a∈Fh,a∉A) ->
  (∀τ' H2 Z2 ρi F2 G ms',aS K H2 Z2 τ' ρi F2->Pin (fP n js σ) τ'->aI H1 Z1 A H2 Z2 (F2++G)->fin (D2 js.length true) ms (ρi.drop n)=some ms'->∃F4,aS K H2 Z2 σ (eT os ms' ρh) F4/\aI H Z F H2 Z2 (F4++G))->Cf K H Z F H1 Z1 σ n js os ms ρh
theorem gy{H:Hp}{Z:Zs}{F:List Addr}{H1:Hp}{Z1:Zs}{F1:List Addr}{σ:L2.St}{ρ1:Ev}{n:Nat}{js:List Nat}{os:List cN}{ms:List M}{ρh:Ev}(S1:aS X.K H1 Z1 σ ρ1 F1)(f1:aI H Z F H1 Z1 F1)(e2:caps ρ1 js=some os)(e3:bQ os ρ1=some (ms,ρh)):Cf X.K H Z F H1 Z1 σ n js os ms ρh:=by
 obtain⟨xs,O1,hxs,hxl⟩:=A6 S1 e2;obtain⟨A,Fh,h1,h2,h3,h4⟩:=qS S1 O1 (by rw[FB]; exact f1.nd) e3
 rw[FB] at h4;obtain⟨n1,n2,n3⟩:=aU h3;have wA:Wf H1 Z1 A:=⟨n2,λa h=>f1.dz a (h4 a (lR _ h)),f1.za⟩
 have P0:=D5 n js σ;rw[<-hxs] at P0;refine⟨_,A,Fh,by rw[A7,<-hxs],aS.uJ h1 n,wA,P0,h2,n3,λτ' H2 Z2 ρi F2 G ms' S2 P2 f2 e5=>?_⟩
 obtain⟨m1,m2,m3⟩:=aU f2.nd;obtain⟨F3,k1,k2,k3⟩:=S2.dropN n m1;obtain⟨A',a1,a2,a3⟩:=s9 (vs:=xs) k1 k2 (λi x _ hx=>by
  rw[Ki];refine P2 (n+i) x ?_;unfold fP;rw[if_neg (by lia),show n+i-n=i by lia]
  have hmap:(js.map (slot σ))[i]? = some (some x):=by rw[<-hxs,HL,hx]; rfl
  rw[HL] at hmap;obtain⟨j,hj,hj'⟩:=Jn.mp hmap;rw[hj];exact hj') (λi x d h=>by
   have:=IE h;rw[List.mem_replicate] at this;cases this.2) h1.length e5
 have n3':∀a∈A,a∉Fh:=λa h z=>n3 a z h
 have Sh:aS X.K H2 Z2 σ ρh Fh:=h2.mono (f2.grow wA) λa h o e=>f2.keep a o (n3 a h) e
 have fF:=f2.frame (G:=Fh) ⟨aO n2 n1 n3',λa h=>by
  rcases lM h with h | h
  ·exact f1.dz a (h4 a (lR _ h))
  ·exact f1.dz a (h4 a (lL _ h)),f1.za⟩ h2.al
 obtain⟨u1,u2,u3,u4,u5,u6⟩:=Fi fF.nd;obtain⟨F4,p1,p2,p3⟩:=uG Sh O1 a1 (aO u3 a2 λa h z=>u5 a (k3 a (a3 a z)) h) (ou e3)
 have f4:aI H Z F H1 Z1 (A++Fh):=f1.sub (aO n2 n1 n3') λa h=>h4 a (by
  rcases lM h with h | h
  ·exact lR _ h
  ·exact lL _ h)
 refine⟨F4,p1,(f4.trans fF).sub (aO p2 u2 λa h z=>?_) λa h=>?_⟩
 ·rcases lM (p3 a h) with y | y
  ·exact u6 a z y
  ·exact u4 a (k3 a (a3 a y)) z
 ·rcases lM h with h | h
  ·rcases lM (p3 a h) with y | y
   ·exact lR _ y
   ·exact lL _ (lL _ (k3 a (a3 a y)))
  ·exact lL _ (lR _ h)
theorem j6{n:Nat}{js:List Nat}{fi:FI}{fg:FG}{ft:FT}{fe:FE}{σ:L2.St}{H:Hp}{Q:VK}{fr:List (Option Nat)}(hfr:fr=D2 n none++js.map some)(hq:vE X.K (nh n js fi fg ft fe) σ H Q) :
  EO fr (vI X.K fi) (λ_=>vG X.K (fP n js σ) fg) (λ_=>vT X.K ft) (λ_=>vE X.K fe) σ H Q:=by
 subst hfr;obtain⟨Z,ρ,F,o,ρ',S,w,e,q⟩:=hq;obtain⟨⟨ds,ρ1⟩,e1,e⟩:=oB e;obtain⟨os,e2,e⟩:=oB e;obtain⟨⟨ms,ρh⟩,e3,e⟩:=oB e;obtain⟨⟨acc,ρi⟩,e4,e⟩:=oB e;obtain⟨ms',e5,e⟩:=oB e;cases e;refine⟨Z,ρ,F,ds,ρ1,S,w,e1,λJ H1 Z1 F1 S1 hJ f1 D hD z=>?_⟩
 obtain⟨τ,A,Fh,eτ,S0,wA,P0,h2,n3,back⟩:=gy (n:=n) S1 f1 e2 e3;rw[eτ];refine A8 (n:=n) hD S0 wA P0 hJ e4 λτ' H2 Z2 F2 ys S2 P2 d2 z2 f2=>?_
 obtain⟨F4,p1,f4⟩:=back _ _ _ _ _ _ _ S2 P2 f2 e5;exact q (.ref D) H2 Z2 F4 [D] p1 (.t (.lst d2 z2)) f4
theorem ve_lc(n:Nat)(js:List Nat){elt target iter:Expr}{ifs:List Expr}{scope:Scope}{N:List Str}{fr:List (Option Nat)}{pin:List Nat}{fi:FI}{fg:FG}{ft:FT}{fe:FE}(hfr:fr=D2 n none++js.map some)(hpin:pin=(Fa js.length).map (n + ·))(hc:X.calm=true)(S:aP X scope N fr)(hi:VI X target iter fi)
  (hin:∀z:Bk,VG (ay X scope z.cl N z.C z.fp z.s z.H) pin target fg/\VF (ay X scope z.cl N z.C z.fp z.s z.H) ifs ft/\VE (ay X scope z.cl N z.C z.fp z.s z.H) elt fe)
  (hs:∀x,HG iter X.env x=pure x:=by intro _; rfl):VE X (.ListComp elt [⟨target,iter,ifs,0⟩] scope pos) (nh n js fi fg ft fe):=λpins s σ H Q I hq=>
 xO (g:=λ_=>vG X.K (fP n js σ) fg) (tt:=λ_=>vT X.K ft) (te:=λ_=>vE X.K fe) hc S hi (λz=>⟨(hin z).1 _ (iW n js σ hpin),(hin z).2.1,(hin z).2.2⟩) hs pins s σ H Q I (j6 hfr hq)
end
section
variable{K:AT}{H H0:Hp}{Z Z0:Zs}{F F0:List Addr}{σ:L2.St}{ρ:Ev}
theorem wC{i:Nat}{m:M}(S:aS K H Z σ ρ F)(f:aI H0 Z0 F0 H Z F)(e:ck ρ i=some m):∃x G,σ[i]? = some (some x)/\Ow K H Z x m G/\∀a o',a∈G->aJ H Z (upd H a o') Z/\(∀b∈G,b≠a->∀o,H b=some o->upd H a o' b=some o) /\
  ∀m' G',(∀b∈G',b∈G)->G'.Nodup->Ow K (upd H a o') Z x m' G'->∃F',aS K (upd H a o') Z σ (ρ.set i (some m')) F'/\aI H0 Z0 F0 (upd H a o') Z F':=by
 obtain⟨x,G,F1,t1,t2,t3,t4,t5⟩:=S.take f.nd (aF.mp e);have hl:=(Da.mp (aF.mp e)).1;obtain⟨n1,n2,n3⟩:=aU t4;refine⟨x,G,t1,t2,λa o' ha=>?_⟩
 obtain⟨o,ho,hmu⟩:=t2.mem a ha;have haF:a∈F:=t5 a (lR _ ha);have nz:¬Z a:=f.dz a haF;have ne:∀b,b≠a->upd H a o' b=H b:=λb h=>aA h
 have g:aJ H Z (upd H a o') Z:=⟨by
  rcases hmu with⟨xs,rfl⟩ | ⟨kvs,rfl⟩
  ·exact d9.lst ho
  ·exact d9.dk ho,λb o2 z h=>by rw[ne b λw=>nz (w▸z)]; exact h,λ_ z=>z⟩
 refine⟨g,λb _ h o2 e2=>by rw[ne b h]; exact e2,λm' G' hs nd' h' =>?_⟩
 have S1:aS K (upd H a o') Z σ (ρ.set i none) F1:=t3.mono g λb hb o2 e2=>by
  rw[ne b λw=>n3 b hb (w▸ha)]
  exact e2
 obtain⟨F2,p1,p2,p3⟩:=S1.put h' (aO n1 nd' λb hb z=>n3 b hb (hs b z)) (by rw[Iz hl])
 rw[N3,iw t1] at p1;have za:∀b,Z b->upd H a o' b≠none:=λb z=>by
  rw[ne b λw=>nz (w▸z)]
  exact f.za b z
 have f1:aI H Z F (upd H a o') Z F:=⟨λb o2 n h=>by rw[ne b λw=>n (w▸haF)]; exact h,g.tups,λ_ z=>z,λb z=>.inl z,λb h=>.inl h,f.nd,f.dz,za⟩
 refine⟨F2,p1,(f.trans f1).sub p2 λb hb=>?_⟩
 rcases lM (p3 b hb) with y | y
 ·exact t5 b (lL _ y)
 ·exact t5 b (lR _ (hs b y))
end
section
variable{X:Cx}{pos:Pos}{pin:List Nat}
noncomputable def jA(i:Nat)(fa:FA):FE:=λρ=>(ck ρ i).bind λm0=>match m0 with
 |.lst _=>(fa ρ).bind λp=>match p.1 with
  |[o]=>(cL o p.2).bind λq=>(ck q.2 i).bind λm=>match m with
   |.lst ds=>if ds.length<lim then some (.t (.v .none),q.2.set i (some (.lst (ds++[q.1])))) else none
   |_=>none
  |_=>none
 |_=>none
theorem A9{i:Nat}{fa:FA}{σ:L2.St}{H:Hp}{Q:VK}(hq:vE X.K (jA i fa) σ H Q):zS X.K "list" ig (dP i) (vA X.K fa) σ H Q:=by
 obtain⟨Z,ρ,F,o,ρ',S,w,e,q⟩:=hq;obtain⟨m0,e0,e⟩:=oB e
 split at e
 ·rename_i ds0
  obtain⟨x,G,h1,h2,_⟩:=S.get (aF.mp e0);obtain⟨a,xs0,rfl,ha,_⟩:=(show Ro X.K H Z x (.lst ds0) from⟨G,h2⟩).lst
  refine⟨.ref a,h1,.inl ⟨rfl,_,fj.of ha⟩,?_⟩;obtain⟨⟨os,ρ1⟩,e1,e⟩:=oB e;refine⟨Z,ρ,F,os,ρ1,S,w,e1,λxs H1 Z1 F1 G1 S1 O1 f1=>?_⟩
  rcases os with _ | ⟨o1,_ | ⟨o2,os⟩⟩
  ·cases e
  ·obtain⟨⟨d,ρ2⟩,e2,e⟩:=oB e
   obtain⟨m,e3,e⟩:=oB e
   split at e
   ·rename_i ds
    split at e
    ·rename_i hl
     cases e;cases O1 with
     |cons p1 r1=>
      cases r1;rw[FB] at f1;obtain⟨Z2,F2,S2,z2,f2,_⟩:=iy S1 p1 f1 e2;obtain⟨x',G',k1,k2,k3⟩:=wC S2 f2 e3;rw[h1] at k1; cases k1;cases k2 with
      |lst hb fb=>
       obtain⟨g,_,k4⟩:=k3 a (.lst (_++[_])) lS;obtain⟨F3,S3,f3⟩:=k4 (.lst (ds++[d])) [a] (λ_ h=>h) (Ha.mpr ⟨HH,JS⟩) (.lst aB ((fb.append (.cons z2 .nil)).mono g))
       exact⟨a,_,_,rfl,rfl,hb,gU (JT (by rw[fb.length]; exact hl)),q .non _ Z2 F3 [] S3 (.t (.v .non)) f3.nil⟩
    ·cases e
   ·cases e
  ·cases e
 ·cases e
theorem D6(i:Nat){e:Expr}{es:List Expr}{fa:FA}{x:Str}{p1 p2:Pos}(ha:VA X (e::es) fa)(hpe:∀(to:TE)(t:TA),PE X (.Name x p1) to->PA X (e::es) t->PE X (.Call (.Attribute (.Name x p1) "append" p2) (e::es) [] pos) (zS X.K "list" ig to t))(hv:PE X (.Name x p1) (dP i)):VE X (.Call (.Attribute (.Name x p1) "append" p2) (e::es) [] pos) (jA i fa):=bg (hpe _ _ hv ha) λ_ _ _ hq=>A9 hq
inductive vP(K:AT)(f:Ev->Option B1)(σ:L2.St)(H:Hp)(Q:VK):Prop
 |mk (Z:Zs) (ρ:Ev) (F:List Addr) (d:B1):aS K H Z σ ρ F->f ρ=some d->(∀x,Fz K H Z x d->Q x H)->vP K f σ H Q
abbrev VP(X:Cx)(e:Expr)(f:Ev->Option B1):Prop:=PE X e (vP X.K f)
noncomputable def fC(i:Nat):Ev->Option B1:=λρ=>(ck ρ i).bind λm=>match m with
 |.v d=>some d
 |_=>none
theorem D7(i:Nat){x:Str}{p:Pos}(h:PE X (.Name x p) (dP i)):VP X (.Name x p) (fC i):=bg h λσ H Q hq=>by
 obtain⟨Z,ρ,F,d,S,e,q⟩:=hq;obtain⟨m,e1,e⟩:=oB e;obtain⟨x,G,h1,h2,_⟩:=S.get (aF.mp e1)
 split at e
 ·cases e
  cases h2 with
  |v f=>exact⟨x,h1,q x f⟩
 ·cases e
noncomputable def putL(kvs:List (Key×List B1))(k:Key)(d:B1):List (Key×List B1):=kvs.map λp=>if p.1=k then (p.1,p.2++[d]) else p
noncomputable def mq(i:Nat)(fk fd:Ev->Option B1):FE:=λρ=>(ck ρ i).bind λm=>match m with
 |.bM kvs=>(fk ρ).bind λkd=>(eZ kd).bind λk=>(cg kvs k).bind λds=>(fd ρ).bind λd=>if ds.length<lim/\(kvs.map (·.1)).Nodup then some (.t (.v .none),ρ.set i (some (.bM (putL kvs k d)))) else none
 |_=>none
theorem iu.app{K:AT}{H H':Hp}{Z:Zs}{k:Key}{b:Addr}{y:V}{d:B1}(g:aJ H Z H' Z):∀{kxs:List (Key×V)}{kvs:List (Key×List B1)}{G:List Addr},iu K H Z kxs kvs G->(kvs.map (·.1)).Nodup->G.Nodup->fS kxs k=some (.ref b)->(∀c∈G,c≠b->∀o,H c=some o->H' c=some o) ->
  (∀xs,H b=some (.lst xs)->H' b=some (.lst (xs++[y])))->Fz K H' Z y d->iu K H' Z kxs (putL kvs k d) G:=by
 intro kxs kvs G r
 induction r with
 |nil=>intro _ _ e; cases e
 |@cons k' b' xs ds kxs kvs G h f r ih=>
  intro nk nG e keep put fy;have nk':=Ha.mp (show (k'::kvs.map (·.1)).Nodup from nk)
  have nG':=Ha.mp nG;show iu K H' Z _ ((if k'=k then (k',_++[d]) else (k',_))::putL kvs k d) _
  by_cases hk:k'=k
  ·subst hk
   rw[eE rfl] at e;cases e;rw[if_pos rfl];have same:putL kvs k' d=kvs:=by
    unfold putL;rw[JU (g:=id),List.map_id];intro p hp;rw[if_neg λz=>nk'.1 (IL.mpr ⟨p,hp,z⟩)]
    rfl
   rw[same];exact .cons (put _ h) ((f.mono g).append (.cons fy .nil)) (r.mono g λc hc o ho=>keep c (lO _ hc) (λz=>nG'.1 (z▸hc)) o ho)
  ·rw[if_neg hk]
   rw[eF hk] at e;have hb:b∈G:=by
    clear keep put
    have:∀{kxs:List (Key×V)}{kvs:List (Key×List B1)}{G:List Addr},iu K H Z kxs kvs G->fS kxs k=some (.ref b)->b∈G:=λ{kxs kvs G}r e=>by
     induction r with
     |nil=>cases e
     |cons h f r ih=>
      rename_i k0 b0 _ _ _ _ _
      by_cases h0:k0=k
      ·rw[eE h0] at e; cases e; exact lS
      ·rw[eF h0] at e; exact lO _ (ih e)
    exact this r e
   refine .cons (keep b' lS (λz=>nG'.1 (z▸hb)) _ h) (f.mono g) (ih nk'.2 nG'.2 e (λc hc=>keep c (lO _ hc)) put fy)
theorem iu.uniq{K:AT}{H:Hp}{Z:Zs}{kxs:List (Key×V)}{kvs:List (Key×List B1)}{G G':List Addr}(r:iu K H Z kxs kvs G)(r':iu K H Z kxs kvs G'):G=G':=by
 induction r generalizing G' with
 |nil=>cases r'; rfl
 |cons _ _ _ ih=>cases r' with
  |cons _ _ r2=>rw[ih r2]
theorem yJ{i:Nat}{fk fd:Ev->Option B1}{σ:L2.St}{H:Hp}{Q:VK}(hq:vE X.K (mq i fk fd) σ H Q):zS X.K "list" ig (xG (dP i) (vP X.K fk)) (B6 (vP X.K fd) tNil) σ H Q:=by
 obtain⟨Z,ρ,F,o,ρ',S,w,e,q⟩:=hq;obtain⟨m,e0,e⟩:=oB e
 split at e
 ·rename_i kvs
  obtain⟨kd,e1,e⟩:=oB e;obtain⟨k,e2,e⟩:=oB e;obtain⟨ds,e3,e⟩:=oB e;obtain⟨d,e4,e⟩:=oB e
  split at e
  ·rename_i hl
   cases e;obtain⟨x,G,h1,h2,h3⟩:=wC S (aI.refl w) e0;cases h2 with
   |bM ha ol=>
    rename_i a kxs Gl
    refine⟨.ref a,h1,Z,ρ,F,kd,S,e1,λy fy=>?_⟩
    obtain rfl:=fB fy e2;obtain⟨b,xs,z1,z2,z3,z4⟩:=ol.get e3;refine⟨a,.ref b,rfl,z1▸iP.k ha,.inl ⟨rfl,_,fj.of z2⟩,Z,ρ,F,d,S,e4,λv fv=>?_⟩
    obtain⟨g,kp,k4⟩:=h3 b (.lst (xs++[v])) (lO _ z4);have ndG:(a::Gl).Nodup:=by
     obtain⟨x',G',F1,t1,t2,t3,t4,t5⟩:=S.take w.nd (aF.mp e0);rw[h1] at t1; cases t1;cases t2 with
     |bM ha' ol' =>
      rw[ha] at ha'; cases ha';rw[iu.uniq ol ol'];exact(aU t4).2.1
    have nG:=Ha.mp ndG;have hab:a≠b:=λz=>nG.1 (z▸z4)
    have ol2:=ol.app (H':=upd H b (.lst (xs++[v]))) (y:=v) g hl.2 nG.2 z1 (λc hc n o ho=>kp c (lO _ hc) n o ho) (λxs' h'=>by rw[z2] at h'; cases h'; exact aB) (fv.mono g)
    obtain⟨F3,S3,f3⟩:=k4 (.bM (putL kvs k d)) (a::Gl) (λ_ h=>h) ndG (.bM (by rw[aA hab]; exact ha) ol2)
    exact⟨b,xs,v,rfl,rfl,z2,gU (JT (by rw[z3.length]; exact hl.1)),q .non _ Z F3 [] S3 (.t (.v .non)) f3.nil⟩
  ·cases e
 ·cases e
noncomputable def putD(kvs:List (Key×B1))(k:Key)(d:B1):List (Key×B1):=if (kvs.any λkv=>decide (kv.1=k))=true then kvs.map (λkv=>if kv.1=k then (kv.1,d) else kv) else kvs++[(k,d)]
noncomputable def pU(i:Nat)(fk fe:FE):FS:=λρ=>(fe ρ).bind λp=>(cL p.1 p.2).bind λq=>(ck q.2 i).bind λm0=>match m0 with
 |.v _=>none
 |_=>(fk q.2).bind λr=>(peek r.2 r.1).bind λmk=>(ck r.2 i).bind λm=>match m,mk with
  |.aL kvs,.v kd=>(eZ kd).bind λk=>if kvs.length<lim then some (.nx (r.2.set i (some (.aL (putD kvs k q.1))))) else none
  |.lst ds,.v (.int k)=>(ud ds.length k).bind λj=>some (.nx (r.2.set i (some (.lst (ds.set j q.1)))))
  |_,_=>none
theorem Ba{K:AT}{H:Hp}{Z:Zs}(k:Key):∀{kxs:List (Key×V)}{kvs:List (Key×B1)},gS K H Z kxs kvs->(kxs.any λkv=>decide (kv.1=k))=(kvs.any λkv=>decide (kv.1=k)):=by
 intro kxs
 induction kxs with
 |nil=>intro kvs h; cases h; rfl
 |cons p kxs ih=>intro kvs h; cases h with | cons _ r=>rw[JN,JN,ih r]
theorem pW{K:AT}{H:Hp}{Z:Zs}{y:V}{d:B1}{k:Key}(fy:Fz K H Z y d):∀{kxs:List (Key×V)}{kvs:List (Key×B1)},gS K H Z kxs kvs->gS K H Z (kxs.map λkv=>if kv.1=k then (kv.1,y) else kv) (kvs.map λkv=>if kv.1=k then (kv.1,d) else kv)
 |_,_,.nil=>.nil
 |_,_,.cons (k:=k') h r=>by
  rw[GM,GM]
  by_cases hk:k'=k
  ·simp only[hk,if_true]; exact .cons fy (pW fy r)
  ·simp only[hk,if_false]; exact .cons h (pW fy r)
theorem qT{K:AT}{H:Hp}{Z:Zs}{y:V}{d:B1}{k:Key}(fy:Fz K H Z y d):∀{kxs:List (Key×V)}{kvs:List (Key×B1)},gS K H Z kxs kvs->gS K H Z (kxs++[(k,y)]) (kvs++[(k,d)])
 |_,_,.nil=>.cons fy .nil
 |_,_,.cons h r=>.cons h (qT fy r)
theorem gS.put{K:AT}{H:Hp}{Z:Zs}{y:V}{d:B1}{k:Key}(fy:Fz K H Z y d){kxs:List (Key×V)}{kvs:List (Key×B1)}(r:gS K H Z kxs kvs):gS K H Z (putK kxs k y) (putD kvs k d):=by
 unfold putK putD;rw[Ba k r]
 split
 ·exact pW fy r
 ·exact qT fy r
theorem D8{st:Stmt}{t u:TS}(h:PS X st t)(h':PS X st u):PS X st (λD σ H=>t D σ H\/u D σ H):=λpins s σ H D I q=>q.elim (h pins s σ H D I) (h' pins s σ H D I)
theorem Ow.uniq{K:AT}{H:Hp}{Z:Zs}{x:V}{m:M}{A B:List Addr}(r:Ow K H Z x m A)(r':Ow K H Z x m B):A=B:=by
 cases r with
 |v _=>cases r'; rfl
 |lst _ _=>cases r'; rfl
 |aL _ _=>cases r'; rfl
 |bM e r=>
  cases r' with
  |bM e' r' =>
   rw[e] at e'; cases e';rw[iu.uniq r r']
theorem uK{i:Nat}{fk fe:FE}{pv:Pv}{D:Ends}{σ:L2.St}{H:Hp}{Z:Zs}{ρ:Ev}{F:List Addr}{o1 o2:cN}{d:B1}{ρ1 ρ2 ρ3:Ev}{mk m m':M}(S:aS X.K H Z σ ρ F)(w:Wf H Z F)(P:Pin pv σ)(e1:fe ρ=some (o1,ρ1))(e2:cL o1 ρ1=some (d,ρ2))(e4:fk ρ2=some (o2,ρ3))(e5:peek ρ3 o2=some mk)(e6:ck ρ3 i=some m)
  (q:nJ X.K pv D H Z F (.nx (ρ3.set i (some m')))) {a:Addr} {m0:M} (e3:ck ρ2 i=some m0) (hm0:∀d,m0≠.v d)
  (R:V->V->V->Hp->Prop) (hR:∀H3 Z3 x v k,Ro X.K H3 Z3 x m->Fz X.K H3 Z3 v d->Ro X.K H3 Z3 k mk->(∀G,Ow X.K H3 Z3 x m G->∀a o',a∈G->(aJ H3 Z3 (upd H3 a o') Z3->Ow X.K (upd H3 a o') Z3 x m' G)->D.nx σ (upd H3 a o'))->R x v k H3) :
  vE X.K fe σ H λv H1=>dP i σ H1 λx H2=>vE X.K fk σ H2 λk H3=>R x v k H3:=by
 refine⟨Z,ρ,F,o1,ρ1,S,w,e1,λv H1 Z1 F1 G1 S1 O1 f1=>?_⟩
 obtain⟨Z2,F2,S2,z2,f2,_⟩:=iy S1 O1 f1 e2;obtain⟨x,G,h1,h2,_⟩:=S2.get (aF.mp e3);refine⟨x,h1,Z2,ρ2,F2,o2,ρ3,S2,f2.wf,e4,λk H3 Z3 F3 G3 S3 O3 f3=>?_⟩
 have f4:=f2.trans f3.left;obtain⟨x',G',k1,k2,k3⟩:=wC S3 f4 e6;rw[h1] at k1; cases k1;refine hR H3 Z3 x v k ⟨G',k2⟩ (z2.mono (f3.grow f2.wf)) (O3.peek S3 e5) λG2 hG a o' ha hk=>?_
 have eG:G2=G':=by
  exact Ow.uniq hG k2
 subst eG;obtain⟨g,_,k4⟩:=k3 a o' ha;have ndG:G2.Nodup:=by
  obtain⟨x2,G3',F1',t1,t2,t3,t4,t5⟩:=S3.take f4.nd (aF.mp e6);rw[h1] at t1; cases t1;rw[Ow.uniq k2 t2];exact(aU t4).2.1
 obtain⟨F5,S5,f5⟩:=k4 m' G2 (λ_ h=>h) ndG (hk g)
 exact q σ _ Z3 F5 S5 f5 P
theorem Bb{i:Nat}{fk fe:FE}{pv:Pv}{D:Ends}{σ:L2.St}{H:Hp}(hq:vS X.K pv (pU i fk fe) D σ H):xH (dP i) (vE X.K fk) (vE X.K fe) D σ H\/oY (vE X.K fe) (xo (dP i) (vE X.K fk) qv) D σ H:=by
 obtain⟨Z,ρ,F,o,S,w,P,e,q⟩:=hq;obtain⟨⟨o1,ρ1⟩,e1,e⟩:=oB e;obtain⟨⟨d,ρ2⟩,e2,e⟩:=oB e;obtain⟨m0,e3,e⟩:=oB e;have main:(∀d,m0≠.v d)->((fk ρ2).bind λr=>(peek r.2 r.1).bind λmk=>(ck r.2 i).bind λm=>match m,mk with
  |.aL kvs,.v kd=>(eZ kd).bind λk=>if kvs.length<lim then some (Out.nx (r.2.set i (some (.aL (putD kvs k d))))) else none
  |.lst ds,.v (.int k)=>(ud ds.length k).bind λj=>some (.nx (r.2.set i (some (.lst (ds.set j d)))))
  |_,_=>none)=some o->xH (dP i) (vE X.K fk) (vE X.K fe) D σ H\/oY (vE X.K fe) (xo (dP i) (vE X.K fk) qv) D σ H:=λhm0 e=>by
  obtain⟨⟨o2,ρ3⟩,e4,e⟩:=oB e;obtain⟨mk,e5,e⟩:=oB e;obtain⟨m,e6,e⟩:=oB e
  split at e
  ·rename_i kvs kd
   obtain⟨k,e7,e⟩:=oB e
   split at e
   ·rename_i hl
    injection e with e
    subst e;refine .inl (uK (a:=0) S w P e1 e2 e4 e5 e6 q e3 hm0 _ λH3 Z3 x v y hx hv hy fin=>?_)
    obtain⟨G,hG⟩:=hx;cases hG with
    |aL ha fk' =>
     obtain rfl:=fB hy.fz e7;exact⟨_,_,rfl,xF.k ha (gU (JT (by rw[fk'.length]; exact hl))),fin _ (.aL ha fk') _ _ lS λg=>.aL aB (gS.put (hv.mono g) (fk'.mono g))⟩
   ·cases e
  ·rename_i ds k
   obtain⟨j,e7,e⟩:=oB e
   injection e with e
   subst e;refine .inr (uK (a:=0) S w P e1 e2 e4 e5 e6 q e3 hm0 _ λH3 Z3 x v y hx hv hy fin=>?_)
   obtain⟨G,hG⟩:=hx;cases hG with
   |lst ha fs=>
    obtain rfl:=hy.int;exact⟨_,_,_,j,rfl,rfl,ha,by rw[fs.length]; exact e7,fin _ (.lst ha fs) _ _ lS λg=>.lst aB ((fs.mono g).set j (hv.mono g))⟩
  ·cases e
 cases m0 with
 |v d=>cases e
 |lst _=>exact main (λ_ z=>nomatch z) e
 |aL _=>exact main (λ_ z=>nomatch z) e
 |bM _=>exact main (λ_ z=>nomatch z) e
theorem D9(i:Nat){o k e:Expr}{fk fe:FE}{pos':Pos}(hu:X.A.units+64<cLine)(ho:PE X o (dP i))(hk:VE X k fk)(he:VE X e fe)(hs:KS e (some (.Subscript o k pos')) pos.line X.env=pure false)
  (hps:∀(te:TE)(t:TG),PE X e te->PG X (.Subscript o k pos') t->PS X (.Assign [.Subscript o k pos'] e pos) (oY te t)) (hpg:∀to ti:TE,PE X o to->PE X k ti->PG X (.Subscript o k pos') (xo to ti qv)):VS X pin (.Assign [.Subscript o k pos'] e pos) (pU i fk fe):=λpv hp=>
 fM (D8 (Av (by lia) ho hk he hs) (hps _ _ he (hpg _ _ ho hk))) λ_ _ _ hq=>Bb hq
end
section
variable{X:Cx}{pos:Pos}{pin:List Nat}
theorem Bc{i:Nat}{f:FE}{pv:Pv}{D:Ends}{σ:L2.St}{H:Hp}(hp:Cd pv pin)(hp0:i∉pin)(hq:vS X.K pv (bw i f) D σ H):vE X.K f σ H λx H1=>D.nx (σ.set i (some x)) H1:=by
 obtain⟨Z,ρ,F,o,S,w,P,e,q⟩:=hq;obtain⟨⟨o1,ρ1⟩,e1,e⟩:=oB e;obtain⟨⟨m,ρ2⟩,e2,e⟩:=oB e;obtain⟨ρ3,e3,e⟩:=oB e;cases e;refine⟨Z,ρ,F,o1,ρ1,S,w,e1,λy H1 Z1 F1 G1 S1 O1 f1=>?_⟩
 obtain⟨Z2,F2,G2,h1,h2,h3⟩:=moved S1 O1 f1 e2;obtain⟨F3,k1,k2,k3⟩:=h1.fZ h2 h3.nd e3;exact q _ H1 Z2 F3 k1 (h3.sub k2 k3) (P.set hp hp0)
theorem Ea{i:Nat}{x:Str}(n:Nat)(js:List Nat){elt target iter:Expr}{ifs:List Expr}{scope:Scope}{N:List Str}{fr:List (Option Nat)}{pinI:List Nat}{fi:FI}{fg:FG}{ft:FT}{fe:FE}{pos' spos:Pos}(hp0:i∉pin)(hN:X.N.Nodup)(hi':X.N[i]? = some x)(hx:X.env.scope.names.lookup x=some .local)
  (hfr:fr=D2 n none++js.map some) (hpin:pinI=(Fa js.length).map (n + ·)) (hc:X.calm=true) (S:aP X scope N fr) (hi:VI X target iter fi)
  (hin:∀z:Bk,VG (ay X scope z.cl N z.C z.fp z.s z.H) pinI target fg/\VF (ay X scope z.cl N z.C z.fp z.s z.H) ifs ft/\VE (ay X scope z.cl N z.C z.fp z.s z.H) elt fe)
  (hs:∀x,HG iter X.env x=pure x:=by intro _; rfl) (hsw:KS (.ListComp elt [⟨target,iter,ifs,0⟩] scope pos) (some (.Name x pos')) spos.line X.env=pure true:=by rfl) :
  VS X pin (.Assign [.Name x pos'] (.ListComp elt [⟨target,iter,ifs,0⟩] scope pos) spos) (bw i (nh n js fi fg ft fe)):=λpv hp pins s σ H D I hq=>
 Dp (g:=λ_=>vG X.K (fP n js σ) fg) (tt:=λ_=>vT X.K ft) (te:=λ_=>vE X.K fe) hN hi' hx hc S hi (λz=>⟨(hin z).1 _ (iW n js σ hpin),(hin z).2.1,(hin z).2.2⟩) hs hsw pins s σ H D I (j6 hfr (Bc hp hp0 hq))
theorem aI.eT{H0 H:Hp}{Z0 Z:Zs}{F0 A:List Addr}{D:Addr}{o o':HO}(f:aI H0 Z0 F0 H Z A)(hD:D∈A)(e:H D=some o)(hn:∀u,o≠.tup u)(hf:∀x u,o≠.frz x u):aI H0 Z0 F0 (upd H D o') Z A/\aJ H Z (upd H D o') Z:=by
 have nz:¬Z D:=f.dz D hD;have keep:∀a o2,a≠D->H a=some o2->upd H D o' a=some o2:=λa o2 n h=>by rw[aA n]; exact h
 have za:∀a,Z a->upd H D o' a≠none:=λa z=>by
  have hne:a≠D:=λh=>nz (h▸z)
  rw[aA hne];exact f.za a z
 have g:aJ H Z (upd H D o') Z:=⟨d9.put e hn hf,λa o2 z h=>keep a o2 (λw=>nz (w▸z)) h,λ_ z=>z⟩
 exact⟨f.trans ⟨λa o2 n h=>keep a o2 (λw=>n (w▸hD)) h,g.tups,λ_ z=>z,λa z=>.inl z,λa h=>.inl h,f.nd,f.dz,za⟩,g⟩
def Acc(K:AT)(H:Hp)(Z:Zs)(D:Addr):M->List Addr->Prop
 |.aL kvs,G=>G=[D]/\∃kxs,H D=some (.dK kxs)/\gS K H Z kxs kvs
 |.bM kvs,G=>∃Gl kxs,G=D::Gl/\H D=some (.dK kxs)/\iu K H Z kxs kvs Gl
 |_,_=>False
noncomputable def yK(k:Key):M->cN->Ev->Option (M×Ev)
 |.bM kvs,.t (.lst ds),ρ=>if (kvs.any λp=>decide (p.1=k))=false/\kvs.length<lim then some (.bM (kvs++[(k,ds)]),ρ) else none
 |.aL kvs,o,ρ=>if kvs.length<lim then (cL o ρ).bind λq=>some (.aL (putD kvs k q.1),q.2) else none
 |_,_,_=>none
noncomputable def kC(fg:FG)(ft:FT)(fk fv:FE):List B1->Ev->M->Option (M×Ev)
 |[],ρ,acc=>some (acc,ρ)
 |d::ds,ρ,acc=>(fg d ρ).bind λρ1=>(ft ρ1).bind λt=>if t.1=true then
  (fk t.2).bind λp=>match p.1 with
   |.t (.v kd)=>(eZ kd).bind λk=>(fv p.2).bind λr=>(yK k acc r.1 r.2).bind λa=>kC fg ft fk fv ds a.2 a.1
   |_=>none
  else kC fg ft fk fv ds t.2 acc
noncomputable def EU(lists:Bool)(n:Nat)(js:List Nat)(fi:FI)(fg:FG)(ft:FT)(fk fv:FE):FE:=λρ=>(fi ρ).bind λp=>(caps p.2 js).bind λos=>(bQ os p.2).bind λq=>
 (kC fg ft fk fv p.1 (D2 n none++q.1.map some) (if lists then .bM [] else .aL [])).bind λr=>(fin (D2 js.length true) q.1 (r.2.drop n)).bind λms'=>some (.t r.1,eT os ms' q.2)
theorem yL{K:AT}{H:Hp}{Z:Zs}{k:Key}{b:Addr}{xs:List V}{ds:List B1}(h:H b=some (.lst xs))(f:bD K H Z xs ds):∀{kxs:List (Key×V)}{kvs:List (Key×List B1)}{G:List Addr},iu K H Z kxs kvs G->iu K H Z (kxs++[(k,.ref b)]) (kvs++[(k,ds)]) (G++[b]):=by
 intro kxs kvs G r
 induction r with
 |nil=>exact .cons h f .nil
 |cons h' f' r ih=>exact .cons h' f' ih
theorem uL{K:AT}{H:Hp}{Z:Zs}(k:Key):∀{kxs:List (Key×V)}{kvs:List (Key×List B1)}{G:List Addr},iu K H Z kxs kvs G->(kxs.any λkv=>decide (kv.1=k))=(kvs.any λkv=>decide (kv.1=k))
 |_,_,_,.nil=>rfl
 |_,_,_,.cons _ _ r=>by rw[JN,JN,uL k r]
theorem Acc.mem{K:AT}{H:Hp}{Z:Zs}{D:Addr}{m:M}{G:List Addr}(h:Acc K H Z D m G):D∈G/\(∃kxs,H D=some (.dK kxs))/\∀a∈G,H a≠none:=by
 cases m with
 |aL kvs=>
  obtain⟨rfl,kxs,e,_⟩:=h;exact⟨lS,⟨kxs,e⟩,λa ha z=>by rw[Ch.mp ha,e] at z; cases z⟩
 |bM kvs=>
  obtain⟨Gl,kxs,rfl,e,r⟩:=h;refine⟨lS,⟨kxs,e⟩,λa ha z=>?_⟩
  rcases lK ha with ha | ha
  ·rw[ha,e] at z; cases z
  ·obtain⟨o,q,_⟩:=r.mem a ha; rw[q] at z; cases z
 |v _=>exact h.elim
 |lst _=>exact h.elim
theorem Acc.mono{K:AT}{H H':Hp}{Z Z':Zs}{D:Addr}{m:M}{G:List Addr}(g:aJ H Z H' Z')(h:Acc K H Z D m G)(k:∀a∈G,∀o,H a=some o->H' a=some o):Acc K H' Z' D m G:=by
 cases m with
 |aL kvs=>
  obtain⟨rfl,kxs,e,r⟩:=h;exact⟨rfl,kxs,k D lS _ e,r.mono g⟩
 |bM kvs=>
  obtain⟨Gl,kxs,rfl,e,r⟩:=h;exact⟨Gl,kxs,rfl,k D lS _ e,r.mono g λa ha=>k a (lO _ ha)⟩
 |v _=>exact h.elim
 |lst _=>exact h.elim
theorem Acc.ow{K:AT}{H:Hp}{Z:Zs}{D:Addr}{m:M}{G:List Addr}(h:Acc K H Z D m G):Ow K H Z (.ref D) m G:=by
 cases m with
 |aL kvs=>obtain⟨rfl,kxs,e,r⟩:=h; exact .aL e r
 |bM kvs=>obtain⟨Gl,kxs,rfl,e,r⟩:=h; exact .bM e r
 |v _=>exact h.elim
 |lst _=>exact h.elim
theorem Acc.add{K:AT}{H H0:Hp}{Z Z0:Zs}{D:Addr}{m m':M}{G Gy F F0:List Addr}{k:Key}{o:cN}{ρ ρ':Ev}{σ:L2.St}{y:V}(S:aS K H Z σ ρ F)(O:ng K H Z σ y o Gy)(h:Acc K H Z D m G)(f:aI H0 Z0 F0 H Z (F++Gy++G))(e:yK k m o ρ=some (m',ρ')) :
  ∃kxs,H D=some (.dK kxs)/\kxs.length<FX/\∃Z' F' G',aS K (upd H D (.dK (putK kxs k y))) Z' σ ρ' F'/\Acc K (upd H D (.dK (putK kxs k y))) Z' D m' G'/\aI H0 Z0 F0 (upd H D (.dK (putK kxs k y))) Z' (F'++G'):=by
 obtain⟨n1,n2,n3,s1,s2,s3⟩:=Fi f.nd;cases m with
 |aL kvs=>
  obtain⟨rfl,kxs,eD,r⟩:=h;have e:(if kvs.length<lim then (cL o ρ).bind λq=>some (M.aL (putD kvs k q.1),q.2) else none)=some (m',ρ'):=by
   cases o <;> exact e
  split at e
  ·rename_i hl
   obtain⟨⟨d,ρ2⟩,e2,e⟩:=oB e;cases e;obtain⟨Z2,F2,S2,y2,f2,g2⟩:=freeze S O f e2;have hDm:D∈F2++[D]:=lR _ lS;obtain⟨f3,g3⟩:=f2.eT (o':=.dK (putK kxs k y)) hDm eD (λ_ z=>nomatch z) (λ_ _ z=>nomatch z)
   refine⟨kxs,eD,gU (JT (by rw[r.length]; exact hl)),Z2,F2,[D],S2.mono g3 λa ha o2 e3=>?_,⟨rfl,_,aB,gS.put (y2.mono g3) ((r.mono g2).mono g3)⟩,f3⟩
   have hne:a≠D:=λz=>(aU f2.nd).2.2 a ha (by rw[z]; exact lS)
   rw[aA hne]; exact e3
  ·cases e
 |bM kvs=>
  obtain⟨Gl,kxs,rfl,eD,r⟩:=h;cases o with
  |t m0=>
   cases m0 with
   |lst ds=>
    have e:(if (kvs.any λp=>decide (p.1=k))=false/\kvs.length<lim then some (M.bM (kvs++[(k,ds)]),ρ) else none)=some (m',ρ'):=e
    split at e
    ·rename_i hl
     cases e;cases O with
     |t ow=>
      cases ow with
      |lst hb fb=>
       rename_i b xs
       have hDm:D∈F++[b]++(D::Gl):=lR _ lS;obtain⟨f3,g3⟩:=f.eT (o':=.dK (putK kxs k (.ref b))) hDm eD (λ_ z=>nomatch z) (λ_ _ z=>nomatch z)
       have hbD:b≠D:=λz=>s3 b lS (by rw[z]; exact lS)
       have nG:=Ha.mp n3;have hput:putK kxs k (.ref b)=kxs++[(k,.ref b)]:=by
        unfold putK;rw[uL k r,hl.1];rfl
       refine⟨kxs,eD,gU (JT (by rw[r.length]; exact hl.2)),Z,F,D::(Gl++[b]),S.mono g3 λa ha o2 e3=>?_,⟨Gl++[b],_,rfl,aB,?_⟩,f3.sub (aO n1 (Ha.mpr ⟨λz=>?_,aO nG.2 n2 λa ha z=>s3 a z (lO _ ha)⟩) λa ha z=>?_) λa ha=>?_⟩
       ·have hne:a≠D:=λz=>s2 a ha (by rw[z]; exact lS)
        rw[aA hne]; exact e3
       ·rw[hput]
        refine yL (by rw[aA hbD]; exact hb) (fb.mono (hput▸g3)) (r.mono (hput▸g3) λa ha o2 e3=>?_)
        have hne:a≠D:=λz=>nG.1 (z▸ha)
        rw[aA hne]; exact e3
       ·rcases lM z with z | z
        ·exact nG.1 z
        ·exact hbD (Ch.mp z).symm
       ·rcases lK z with z | z
        ·exact s2 a ha (by rw[z]; exact lS)
        rcases lM z with z | z
        ·exact s2 a ha (lO _ z)
        ·exact s1 a ha z
       ·rcases lM ha with ha | ha
        ·exact lL _ (lL _ ha)
        rcases lK ha with ha | ha
        ·exact lR _ (by rw[ha]; exact lS)
        rcases lM ha with ha | ha
        ·exact lR _ (lO _ ha)
        ·exact lL _ (lR _ ha)
    ·cases e
   |_=>cases e
  |_=>cases e
 |v _=>exact h.elim
 |lst _=>exact h.elim
theorem Bd{pv:Pv}{fg:FG}{ft:FT}{fk fv:FE}{J:It}{ds:List B1}{D:Addr}{τ:L2.St}{H1:Hp}{Z1:Zs}{A:List Addr}{ρ0:Ev}{m0:M}{r:M×Ev}{Q:Hp->Prop}(hD:H1 D=none)(S:aS X.K H1 Z1 τ ρ0 A)(w:Wf H1 Z1 A)(P:Pin pv τ)(hJ:jy X.K J H1 Z1 ds)(hm0:Acc X.K (upd H1 D (.dK [])) Z1 D m0 [D])(e:kC fg ft fk fv ds ρ0 m0=some r)
  (q:∀τ' H' Z' F' G',aS X.K H' Z' τ' r.2 F'->Pin pv τ'->Acc X.K H' Z' D r.1 G'->aI H1 Z1 A H' Z' (F'++G')->Q H'):n9 (vG X.K pv fg) (vT X.K ft) (ePut D (vE X.K fk) (vE X.K fv)) J τ (upd H1 D (.dK [])) Q:=by
 have n0:=aI.sN (o:=.dK []) hD w.za;refine jz (tem:=λσ H R=>ePut D (vE X.K fk) (vE X.K fv) σ H (R σ)) (Q:=λ_=>Q) (λH Z m G=>Acc X.K H Z D m G) (λds ρ acc=>kC fg ft fk fv ds ρ acc=some r) (λds ρ acc=>((fk ρ).bind λp=>match p.1 with
    |.t (.v kd)=>(eZ kd).bind λk=>(fv p.2).bind λr=>(yK k acc r.1 r.2).bind λa=>kC fg ft fk fv ds a.2 a.1
    |_=>none)=some r) (λa g k=>Acc.mono g a k) (λa=>a.mem.2.2) (λd ds ρ acc e=>?_) (S.news n0) P hm0 (n0.news w S.al) e (λH2 Z2 _ f=>hJ.go H2 Z2 (f.grow w)) (λH2 Z2 _ f=>hJ.stop H2 Z2 (f.grow w)) (λds' τ H Z ρ F G acc e S P a f N hN=>?_) λτ' H' Z' ρ' F' G' acc' S P a f e=>?_
 ·obtain⟨ρ3,e3,e⟩:=oB e
  obtain⟨⟨b,ρ4⟩,e4,e⟩:=oB e;exact⟨ρ3,b,ρ4,e3,e4,λh=>by subst h; exact e,λh=>by subst h; exact e⟩
 ·obtain⟨⟨o5,ρ5⟩,e5,e2⟩:=oB e
  split at e2
  ·rename_i kd hko
   have hko:o5=.t (.v kd):=hko;subst hko;obtain⟨k,e6,e2⟩:=oB e2;obtain⟨⟨o7,ρ7⟩,e7,e2⟩:=oB e2;obtain⟨⟨acc',ρ8⟩,e8,e2⟩:=oB e2;refine⟨Z,ρ,F,_,ρ5,S,f.left.wf,e5,λy H5 Z5 F5 G5 S5 O5 g5=>?_⟩
   have yk:y=kV k:=by
    cases O5 with
    |t ow=>cases ow with
     |v fy=>exact fB fy e6
   have f5:=f.trans (g5.left.frame f.wf a.mem.2.2);have a5:=Acc.mono (g5.grow f.left.wf) a λa h o e=>g5.keep a o (λz=>(aU f.nd).2.2 a z h) e
   refine⟨Z5,ρ5,F5,o7,ρ7,S5,f5.left.wf,e7,λv H7 Z7 F7 G7 S7 O7 g7=>?_⟩
   have a7:=Acc.mono (g7.grow f5.left.wf) a5 λa h o e=>g7.keep a o (λz=>(aU f5.nd).2.2 a z h) e
   obtain⟨kxs,eD,hsz,Z8,F8,G8,S8,a8,f8⟩:=a7.add S7 O7 (f5.trans (g7.frame f5.wf a5.mem.2.2)) e8;exact⟨kxs,k,yk,eD,hsz,hN τ _ Z8 ρ8 F8 G8 acc' S8 P a8 f8 e2⟩
  ·cases e2
 ·cases e
  exact q τ' H' Z' F' G' S P a f
end
section
variable{X:Cx}{pos:Pos}{pin:List Nat}
theorem Eb{b:Bool}{n:Nat}{js:List Nat}{fi:FI}{fg:FG}{ft:FT}{fk fv:FE}{σ:L2.St}{H:Hp}{Q:VK}{fr:List (Option Nat)}(hfr:fr=D2 n none++js.map some)(hq:vE X.K (EU b n js fi fg ft fk fv) σ H Q) :
  GK fr (vI X.K fi) (λ_=>vG X.K (fP n js σ) fg) (λ_=>vT X.K ft) (λ_=>vE X.K fk) (λ_=>vE X.K fv) σ H Q:=by
 subst hfr;obtain⟨Z,ρ,F,o,ρ',S,w,e,q⟩:=hq;obtain⟨⟨ds,ρ1⟩,e1,e⟩:=oB e;obtain⟨os,e2,e⟩:=oB e;obtain⟨⟨ms,ρh⟩,e3,e⟩:=oB e;obtain⟨⟨acc,ρi⟩,e4,e⟩:=oB e;obtain⟨ms',e5,e⟩:=oB e;cases e;refine⟨Z,ρ,F,ds,ρ1,S,w,e1,λJ H1 Z1 F1 S1 hJ f1 D hD z=>?_⟩
 obtain⟨τ,A,Fh,eτ,S0,wA,P0,h2,n3,back⟩:=gy (n:=n) S1 f1 e2 e3;rw[eτ];have hm0:Acc X.K (upd H1 D (.dK [])) Z1 D (if b=true then .bM [] else .aL []) [D]:=by
  cases b with
  |true=>exact⟨[],[],rfl,aB,.nil⟩
  |false=>exact⟨rfl,[],aB,.nil⟩
 refine Bd hD S0 wA P0 hJ hm0 e4 λτ' H2 Z2 F2 G2 S2 P2 d2 f2=>?_
 obtain⟨F4,p1,f4⟩:=back _ _ _ _ _ _ _ S2 P2 f2 e5;exact q (.ref D) H2 Z2 F4 G2 p1 (.t d2.ow) f4
theorem ve_dc(b:Bool)(n:Nat)(js:List Nat){ek ev target iter:Expr}{ifs:List Expr}{scope:Scope}{N:List Str}{fr:List (Option Nat)}{pin:List Nat}{fi:FI}{fg:FG}{ft:FT}{fk fv:FE}(hfr:fr=D2 n none++js.map some)(hpin:pin=(Fa js.length).map (n + ·))(hc:X.calm=true)(S:aP X scope N fr)(hi:VI X target iter fi)
  (hin:∀z:Bk,VG (ay X scope z.cl N z.C z.fp z.s z.H) pin target fg/\VF (ay X scope z.cl N z.C z.fp z.s z.H) ifs ft/\VE (ay X scope z.cl N z.C z.fp z.s z.H) ek fk/\VE (ay X scope z.cl N z.C z.fp z.s z.H) ev fv)
  (hs:∀x,HG iter X.env x=pure x:=by intro _; rfl):VE X (.DictComp ek ev [⟨target,iter,ifs,0⟩] scope pos) (EU b n js fi fg ft fk fv):=λpins s σ H Q I hq=>
 pe_dc (g:=λ_=>vG X.K (fP n js σ) fg) (tt:=λ_=>vT X.K ft) (tk:=λ_=>vE X.K fk) (tv:=λ_=>vE X.K fv) hc S hi (λz=>⟨(hin z).1 _ (iW n js σ hpin),(hin z).2.1,(hin z).2.2.1,(hin z).2.2.2⟩) hs pins s σ H Q I (Eb hfr hq)
end
structure WE(X:Cx)(e:Expr)(f:FE):Prop where
 h:VE X e f
structure WA(X:Cx)(e:List Expr)(f:FA):Prop where
 h:VA X e f
structure WT(X:Cx)(e:Expr)(f:FT):Prop where
 h:VT X e f
structure WW(X:Cx)(e:Expr)(f:FT):Prop where
 h:VW X e f
structure WO(X:Cx)(e:Option Expr)(f:FO):Prop where
 h:PO X e (vO X.K f)
structure WI(X:Cx)(tg e:Expr)(f:FI):Prop where
 h:VI X tg e f
structure WG(X:Cx)(pin:List Nat)(tg:Expr)(f:FG):Prop where
 h:VG X pin tg f
structure FN(X:Cx)(pin:List Nat)(tg:List Expr)(f:wu):Prop where
 h:Fj X pin tg f
structure WF(X:Cx)(e:List Expr)(f:FT):Prop where
 h:VF X e f
structure WP(X:Cx)(e:Expr)(f:Ev->Option B1):Prop where
 h:VP X e f
structure WS(X:Cx)(pin:List Nat)(st:Stmt)(f:FS):Prop where
 h:VS X pin st f
structure Be(X:Cx)(pin:List Nat)(st:List Stmt)(f:FS):Prop where
 h:zV X pin st f
section
variable{X:Cx}{pos:Pos}{pin:List Nat}
theorem wv(i:Nat){x:Str}{pos:Pos}(hN:X.N[i]? = some x:=by rfl)(hv:BZ X.env.scope x:=by first | exact HP rfl | exact KY (HP rfl) | exact KY (KY rfl))(hd:(x == ("__debug__" : Str))=false:=by decide)
  (hcd:(x == ("__classdict__" : Str))=false:=by decide):WE X (.Name x pos) (aa i):=⟨vv i hN hv hd hcd⟩
theorem FP(i:Nat){x:Str}{pos:Pos}(hN:X.N[i]? = some x:=by rfl)(hv:BZ X.env.scope x:=by first | exact HP rfl | exact KY (HP rfl) | exact KY (KY rfl))(hd:(x == ("__debug__" : Str))=false:=by decide)
  (hcd:(x == ("__classdict__" : Str))=false:=by decide):WP X (.Name x pos) (fC i):=⟨D7 i (rW hN hv hd hcd)⟩
theorem ak{i j pos}:WE X (.Constant (.int i) j pos) (vC (.int i)):=⟨Dt⟩
theorem oA{i j pos}:WE X (.Constant (.bool i) j pos) (vC (.bool i)):=⟨ve_bl⟩
theorem yM{j pos}:WE X (.Constant .none j pos) (vC .none):=⟨Du⟩
theorem aK{op:Mn}{a b:Expr}{g:M->M->Option M}{fa fb:FE}(ho:dO X (J9 op) (rM X.K g))(ha:WE X a fa)(hb:WE X b fb):WE X (.BinOp a op b pos) (vB g fa fb):=⟨ve_op rM_v ho ha.h hb.h⟩
theorem iX{op:CmpOp}{a b:Expr}{g:M->M->Option M}{fa fb:FE}(ho:dO X (IG op) (rM X.K g))(ha:WE X a fa)(hb:WE X b fb)(hm:IY op b=false):WE X (.Compare a [op] [b] pos) (vB g fa fb):=⟨Dv rM_v ho ha.h hb.h hm⟩
theorem dQ{op:CmpOp}{a b:Expr}{g:M->M->Option M}{fa fb:FE}(ho:dO X (IG op) (rM X.K g))(ha:WE X a fa)(hb:WE X b fb)(hm:IY op b=false):WT X (.Compare a [op] [b] pos) (br (vB g fa fb)):=⟨Dz rM_v ho ha.h hb.h hm⟩
theorem we_in{a b:Expr}{fa fb:FE}(hu:X.A.units+64<cLine)(ha:WE X a fa)(hb:WE X b fb)(hm:IY .In b=false:=by rfl):WE X (.Compare a [.In] [b] pos) (vB (iI false) fa fb):=⟨ve_in hu ha.h hb.h hm⟩
theorem uM{a b:Expr}{fa fb:FE}(hu:X.A.units+64<cLine)(ha:WE X a fa)(hb:WE X b fb)(hm:IY .In b=false:=by rfl):WT X (.Compare a [.In] [b] pos) (br (vB (iI false) fa fb)):=⟨vt_in hu ha.h hb.h hm⟩
theorem mw{a b:Expr}{fa fb:FE}(hu:X.A.units+64<cLine)(ha:WE X a fa)(hb:WE X b fb)(hm:IY .NotIn b=false:=by rfl):WT X (.Compare a [.NotIn] [b] pos) (br (vB (iI true) fa fb)):=⟨ym hu ha.h hb.h hm⟩
theorem iY{e:Expr}{f:FE}(h:WE X e f)(he:∀whole,OT e X.env whole=(do let v <-whole; KJ e.pos; L3 [v] (truthy v)):=by intro _; rfl):WT X e (jX f):=⟨DL h.h he⟩
theorem pZ{a:Expr}{f:FT}(h:WT X a f):WT X (.UnaryOp .Not a pos) (lJ f):=⟨DA h.h⟩
theorem yN{e:Expr}{f:FT}(h:WW X e f):WT X e f:=⟨PW.pt h.h⟩
theorem uN{a:Expr}{f:FT}(h:WT X a f):WW X (.BoolOp .And [a] pos) f:=⟨AN h.h⟩
theorem Ec{a:Expr}{f:FT}(h:WT X a f):WW X (.BoolOp .Or [a] pos) f:=⟨DB h.h⟩
theorem yO{a b:Expr}{rest:List Expr}{f g:FT}(h:WT X a f)(h':WW X (.BoolOp .And (b::rest) pos) g):WW X (.BoolOp .And (a::b::rest) pos) (qL f g):=⟨DC h.h h'.h⟩
theorem ww_or{a b:Expr}{rest:List Expr}{f g:FT}(h:WT X a f)(h':WW X (.BoolOp .Or (b::rest) pos) g):WW X (.BoolOp .Or (a::b::rest) pos) (Fg f g):=⟨vw_or h.h h'.h⟩
theorem mz{a b:Expr}{rest:List Expr}{fa fb:FE}(ha:WE X a fa)(hb:WE X (.BoolOp .And (b::rest) pos) fb):WE X (.BoolOp .And (a::b::rest) pos) (jt fa fb):=⟨DE ha.h hb.h⟩
theorem p5{op a}{f:FE}(h:WE X a f):WE X (.BoolOp op [a] pos) f:=⟨DF h.h⟩
theorem Ed{a:Expr}{fa:FE}(ha:WE X a fa):WE X (.UnaryOp .Not a pos) (uw fa):=⟨DG ha.h⟩
theorem Ef{a:Expr}{fa:FE}(ha:WE X a fa):WE X (.UnaryOp .USub a pos) (vU wk fa):=⟨DM ha.h⟩
theorem j7:WA X [] gT:=⟨Dw⟩
theorem aj{a:Expr}{fa:FE}(ha:WE X a fa)(hs:FK [a] X.env=[(false,eval a X.env)]:=by rfl):WA X [a] (af fa):=⟨Dy ha.h hs⟩
theorem av{a:Expr}{as:List Expr}{fa:FE}{fr:FA}(ha:WE X a fa)(hr:WA X as fr)(hs:FK (a::as) X.env=(false,eval a X.env)::FK as X.env:=by rfl):WA X (a::as) (ai fa fr):=⟨AM ha.h hr.h hs⟩
theorem dD{es:List Expr}{k:Nat}{fa:FA}(h:WA X es fa):WE X (.Tuple es k pos) (cV fa):=⟨DI h.h⟩
theorem cQ{es:List Expr}{fa:FA}(h:WA X es fa):WE X (.List es pos) (di fa):=⟨DJ h.h⟩
theorem cM{a b:Expr}{fa fb:FE}(hu:X.A.units+64<cLine)(ha:WE X a fa)(hb:WE X b fb)(hs:pg b):WE X (.Subscript a b pos) (gH fa fb):=⟨ve_ix hu ha.h hb.h hs⟩
theorem jB:WO X none dm:=⟨AQ⟩
theorem jC{e:Expr}{f:FE}(h:WE X e f):WO X (some e) (dw f):=⟨AR h.h⟩
theorem qU{e:Expr}{lo hi:Option Expr}{p2:Pos}{fa:FE}{fl fh:FO}(ha:WE X e fa)(hl:WO X lo fl)(hh:WO X hi fh):WE X (.Subscript e (.Slice lo hi none p2) pos) (wj fa fl fh):=⟨ve_sl ha.h hl.h hh.h⟩
theorem jD{id:String}{x:Str}{p:Pos}{e:Expr}{es:List Expr}{g:List M->Option M}{fa:FA}(hc:bY X (.builtin id) (v8 X.K g))(hg:Gl X x)(hm:X.mg x=none)(hv:JI x=some (.builtin id))(ha:WA X (e::es) fa)(hn:x ≠ "__name__" := by decide)(hdb:(x == ("__debug__" : Str))=false:=by decide)
  (he:FK (e::es) X.env=(false,eval e X.env)::FK es X.env:=by rfl) (hpl:(K6 pos (FK es X.env)).any (·.1)=false:=by rfl):WE X (.Call (.Name x p) (e::es) [] pos) (fW g fa):=⟨ve_cb hc hg hm hv ha.h hn hdb he hpl⟩
theorem jE{T:String}{x:Str}{p:Pos}{e:Expr}{es:List Expr}{g:List M->Option M}{fa:FA}(hc:bY X (.type T) (v8 X.K g))(hg:Gl X x)(hm:X.mg x=none)(hv:JI x=some (.type T))(ha:WA X (e::es) fa)(hn:x ≠ "__name__" := by decide)(hdb:(x == ("__debug__" : Str))=false:=by decide)
  (he:FK (e::es) X.env=(false,eval e X.env)::FK es X.env:=by rfl) (hpl:(K6 pos (FK es X.env)).any (·.1)=false:=by rfl):WE X (.Call (.Name x p) (e::es) [] pos) (fW g fa):=⟨ve_ct hc hg hm hv ha.h hn hdb he hpl⟩
theorem gX{p p2:Pos}{e:Expr}(c:String){y:Str}{fa:FE}(hc:c∈cT)(hn:c ≠ "NoneType")(hg:Gl X "isinstance")(hm:X.mg "isinstance" = none)(hv:JI "isinstance" = some (.builtin "isinstance"))(ha:WE X e fa)(hy:PE X (.Name y p2) (tC (.ty c)))
  (he:FK [e,.Name y p2] X.env=[(false,eval e X.env),(false,eval (.Name y p2) X.env)]:=by rfl) (he2:FK [.Name y p2] X.env=[(false,eval (.Name y p2) X.env)]:=by rfl) (hpl:(K6 pos (FK [.Name y p2] X.env)).any (·.1)=false:=by rfl):WE X (.Call (.Name "isinstance" p) [e,.Name y p2] [] pos) (vU (lZ c) fa):=⟨DO hc hn hg hm hv ha.h hy he he2 hpl⟩
theorem bC{x:Str}{ps:List Str}{k k':Nat}{g:FF}{e:Expr}{es:List Expr}{fa:FA}{p:Pos}(C:aT X.prog X.w X.K X.mg X.base x ps k (cS X.K g))(hr:eY k' X.A)(hg:Gl X x)(ha:WA X (e::es) fa)(hk:k<=k':=by first | decide | exact Db _ | lia)(hdb:(x == ("__debug__" : Str))=false:=by decide)
  (he:FK (e::es) X.env=(false,eval e X.env)::FK es X.env:=by rfl) (hpl:(K6 pos (FK es X.env)).any (·.1)=false:=by rfl):WE X (.Call (.Name x p) (e::es) [] pos) (dM g fa):=⟨ve_fn C hr hg ha.h hk hdb he hpl⟩
theorem mE(i:Nat){e:Expr}{es:List Expr}{fa:FA}{x:Str}{p1 p2:Pos}(ha:WA X (e::es) fa)(hpe:∀(to:TE)(t:TA),PE X (.Name x p1) to->PA X (e::es) t->PE X (.Call (.Attribute (.Name x p1) "append" p2) (e::es) [] pos) (zS X.K "list" ig to t))(hv:PE X (.Name x p1) (dP i)):WE X (.Call (.Attribute (.Name x p1) "append" p2) (e::es) [] pos) (jA i fa):=⟨D6 i ha.h hpe hv⟩
theorem uO(i:Nat){o k d:Expr}{p1 p2 p3:Pos}{fk fd:Ev->Option B1}(hk:WP X k fk)(hd:WP X d fd)(hu:X.A.units+64<cLine)(ho:PE X o (dP i))(hs:NoSl k)
  (hpe:∀(to:TE)(t:TA),PE X (.Subscript o k p1) to->PA X [d] t->PE X (.Call (.Attribute (.Subscript o k p1) "append" p2) [d] [] p3) (zS X.K "list" ig to t)) (hse:FK [d] X.env=[(false,eval d X.env)]:=by rfl):WE X (.Call (.Attribute (.Subscript o k p1) "append" p2) [d] [] p3) (mq i fk fd) :=
 ⟨bg (hpe _ _ (ug (by lia) ho hk.h hs) (ja hd.h o6 hse)) λ_ _ _ hq=>yJ hq⟩
theorem oE(n:Nat)(js:List Nat){elt target iter:Expr}{ifs:List Expr}{scope:Scope}{N:List Str}{fr:List (Option Nat)}{pin:List Nat}{fi:FI}{fg:FG}{ft:FT}{fe:FE}(hfr:fr=D2 n none++js.map some)(hpin:pin=(Fa js.length).map (n + ·))(hc:X.calm=true)(S:aP X scope N fr)(hi:WI X target iter fi)
  (hin:∀z:Bk,WG (ay X scope z.cl N z.C z.fp z.s z.H) pin target fg/\WF (ay X scope z.cl N z.C z.fp z.s z.H) ifs ft/\WE (ay X scope z.cl N z.C z.fp z.s z.H) elt fe)
  (hs:∀x,HG iter X.env x=pure x:=by intro _; rfl):WE X (.ListComp elt [⟨target,iter,ifs,0⟩] scope pos) (nh n js fi fg ft fe):=⟨ve_lc n js hfr hpin hc S hi.h (λz=>⟨(hin z).1.h,(hin z).2.1.h,(hin z).2.2.h⟩) hs⟩
theorem Cg(b:Bool)(n:Nat)(js:List Nat){ek ev target iter:Expr}{ifs:List Expr}{scope:Scope}{N:List Str}{fr:List (Option Nat)}{pin:List Nat}{fi:FI}{fg:FG}{ft:FT}{fk fv:FE}(hfr:fr=D2 n none++js.map some)(hpin:pin=(Fa js.length).map (n + ·))(hc:X.calm=true)(S:aP X scope N fr)(hi:WI X target iter fi)
  (hin:∀z:Bk,WG (ay X scope z.cl N z.C z.fp z.s z.H) pin target fg/\WF (ay X scope z.cl N z.C z.fp z.s z.H) ifs ft/\WE (ay X scope z.cl N z.C z.fp z.s z.H) ek fk/\WE (ay X scope z.cl N z.C z.fp z.s z.H) ev fv)
  (hs:∀x,HG iter X.env x=pure x:=by intro _; rfl):WE X (.DictComp ek ev [⟨target,iter,ifs,0⟩] scope pos) (EU b n js fi fg ft fk fv):=⟨ve_dc b n js hfr hpin hc S hi.h (λz=>⟨(hin z).1.h,(hin z).2.1.h,(hin z).2.2.1.h,(hin z).2.2.2.h⟩) hs⟩
theorem gA:WF X [] dB:=⟨D3⟩
theorem mF{c:Expr}{f:FT}(h:WT X c f):WF X [c] f:=⟨D4 h.h⟩
theorem dR{tg l:Expr}{f:FE}(h:WE X l f):WI X tg l (cD f):=⟨DX h.h⟩
theorem ee{tg a:Expr}{fa:FA}{p:Pos}(hg:Gl X "range")(hm:X.mg "range" = none)(ha:WA X [a] fa)(hs:FK [a] X.env=[(false,eval a X.env)]:=by rfl):WI X tg (.Call (.Name "range" p) [a] [] pos) (bG gw fa):=⟨A1 hg hm ha.h hs⟩
theorem Bf{tg a b:Expr}{fa:FA}{p:Pos}(hg:Gl X "range")(hm:X.mg "range" = none)(ha:WA X [a,b] fa)(hs:FK [a,b] X.env=[(false,eval a X.env),(false,eval b X.env)]:=by rfl)(hs2:FK [b] X.env=[(false,eval b X.env)]:=by rfl):WI X tg (.Call (.Name "range" p) [a,b] [] pos) (bG wz fa):=⟨A3 hg hm ha.h hs hs2⟩
theorem Eg{a b:Expr}{fa:FA}{p tp:Pos}{es:List Expr}{k:Nat}(hg:Gl X "zip")(hm:X.mg "zip" = none)(ha:WA X [a,b] fa)(hs:FK [a,b] X.env=[(false,eval a X.env),(false,eval b X.env)]:=by rfl)(hs2:FK [b] X.env=[(false,eval b X.env)]:=by rfl):WI X (.Tuple es k tp) (.Call (.Name "zip" p) [a,b] [] pos) (bG yF fa):=⟨DY hg hm ha.h hs hs2⟩
theorem uP{a:Expr}{fa:FA}{p tp:Pos}{es:List Expr}{k:Nat}(hg:Gl X "enumerate")(hm:X.mg "enumerate" = none)(ha:WA X [a] fa)(hs:FK [a] X.env=[(false,eval a X.env)]:=by rfl):WI X (.Tuple es k tp) (.Call (.Name "enumerate" p) [a] [] pos) (bG oz fa):=⟨A4 hg hm ha.h hs⟩
theorem aC{i:Nat}{x:Str}(hp0:i∉pin)(hN:X.N.Nodup)(hi:X.N[i]? = some x)(hx:Loc X.env.scope x)(hf:X.fn x=true\/X.env.scope.names.lookup x=some .local:=by first | exact .inl rfl | exact .inr rfl | assumption):WG X pin (.Name x pos) (ah i):=⟨AY hp0 hN hi hx hf⟩
theorem fD:FN X pin [] bZ:=⟨AZ⟩
theorem bh{e:Expr}{es:List Expr}{f:FG}{g:wu}(h1:WG X pin e f)(h2:FN X pin es g)(hs:(K7 (e::es) X.env).map (·.2)=Lz e X.env::(K7 es X.env).map (·.2):=by rfl):FN X pin (e::es) (aD f g):=⟨yz h1.h h2.h hs⟩
theorem gY{es:List Expr}{k:Nat}(n:Nat){g:wu}(hc:X.calm=true)(h:FN X pin es g)(hn:(K7 es X.env).length=n:=by rfl)(hst:(K7 es X.env).findIdx? (·.1)=none:=by rfl):WG X pin (.Tuple es k pos) (bS n g):=⟨DS hc h.h λ_ h=>CF hc h hn hst⟩
theorem bI:Be X pin [] bB:=⟨AS⟩
theorem az{st:Stmt}{f:FS}(h:WS X pin st f):Be X pin [st] f:=⟨AV h.h⟩
theorem aq{st:Stmt}{rest:List Stmt}{f g:FS}(h1:WS X pin st f)(h2:Be X pin rest g):Be X pin (st::rest) (aH f g):=⟨yw h1.h h2.h⟩
theorem d7{c:Expr}{a b:List Stmt}{fc:FT}{f g:FS}(hc:WT X c fc)(ha:Be X pin a f)(hb:Be X pin b g):WS X pin (.If c a b pos) (cW fc f g):=⟨vs_if hc.h ha.h hb.h⟩
theorem cX{e:Expr}{f:FE}(h:WE X e f)(hs:KS e none pos.line X.env=pure false:=by rfl):WS X pin (.Expr e pos) (bR f):=⟨AW h.h hs⟩
theorem bq{e:Expr}{f:FE}(h:WE X e f):WS X pin (.Return (some e) pos) (cP f):=⟨DP h.h⟩
theorem aW{i:Nat}{x:Str}{e:Expr}{f:FE}{pos':Pos}(hp0:i∉pin)(hN:X.N.Nodup)(hi:X.N[i]? = some x)(hx:Loc X.env.scope x)(he:WE X e f)(hs:KS e (some (.Name x pos')) pos.line X.env=pure false:=by rfl)(hf:X.fn x=true\/X.env.scope.names.lookup x=some .local:=by first | exact .inl rfl | exact .inr rfl | assumption) :
  WS X pin (.Assign [.Name x pos'] e pos) (bw i f):=⟨DQ hp0 hN hi hx he.h hs hf⟩
theorem tu{i:Nat}{x:Str}(n:Nat)(js:List Nat){elt target iter:Expr}{ifs:List Expr}{scope:Scope}{N:List Str}{fr:List (Option Nat)}{pinI:List Nat}{fi:FI}{fg:FG}{ft:FT}{fe:FE}{pos' spos:Pos}(hp0:i∉pin)(hN:X.N.Nodup)(hi':X.N[i]? = some x)(hx:X.env.scope.names.lookup x=some .local)
  (hfr:fr=D2 n none++js.map some) (hpin:pinI=(Fa js.length).map (n + ·)) (hc:X.calm=true) (S:aP X scope N fr) (hi:WI X target iter fi)
  (hin:∀z:Bk,WG (ay X scope z.cl N z.C z.fp z.s z.H) pinI target fg/\WF (ay X scope z.cl N z.C z.fp z.s z.H) ifs ft/\WE (ay X scope z.cl N z.C z.fp z.s z.H) elt fe)
  (hs:∀x,HG iter X.env x=pure x:=by intro _; rfl) (hsw:KS (.ListComp elt [⟨target,iter,ifs,0⟩] scope pos) (some (.Name x pos')) spos.line X.env=pure true:=by rfl) :
  WS X pin (.Assign [.Name x pos'] (.ListComp elt [⟨target,iter,ifs,0⟩] scope pos) spos) (bw i (nh n js fi fg ft fe)):=⟨Ea n js hp0 hN hi' hx hfr hpin hc S hi.h (λz=>⟨(hin z).1.h,(hin z).2.1.h,(hin z).2.2.h⟩) hs hsw⟩
theorem Eh{i:Nat}{x:Str}{e:Expr}{f:FE}{op:Mn}{ti:EN}{pos':Pos}{g:M->M->Option M}(hg:B8 X.K ti g)(hp0:i∉pin)(hN:X.N.Nodup)(hi:X.N[i]? = some x)(hx:Loc X.env.scope x)(he:WE X e f)(ho:Ft X op ti)(hf:X.fn x=true\/X.env.scope.names.lookup x=some .local:=by first | exact .inl rfl | exact .inr rfl | assumption) :
  WS X pin (.AugAssign (.Name x pos') op e pos) (yx i g f):=⟨DR hg hp0 hN hi hx he.h ho hf⟩
theorem yP{tg e:Expr}{f:FE}{g:FG}(he:WE X e f)(hg:WG X pin tg g)(hs:NG [tg] e pos.line X.env=pure false:=by rfl)(hw:NH [tg] e X.env=pure none:=by rfl)
  (hps:∀(te:TE)(t:TG),PE X e te->PG X tg t->PS X (.Assign [tg] e pos) (oY te t):=by exact λ_ _ h1 h2=>jM h1 h2):WS X pin (.Assign [tg] e pos) (yC f g):=⟨DT he.h hg.h hs hw hps⟩
theorem Ei{i j:Nat}{a b:Expr}{fa:FA}{x y:Str}{px py pt:Pos}{kt k2 pt2}(hpi:i∉pin)(hpj:j∉pin)(ha:WA X [a,b] fa)(hps:∀t:TA,PA X [a,b] t->PS X (.Assign [.Tuple [.Name x px,.Name y py] kt pt] (.Tuple [a,b] k2 pt2) pos) (tPar i j t)):WS X pin (.Assign [.Tuple [.Name x px,.Name y py] kt pt] (.Tuple [a,b] k2 pt2) pos) (yD i j fa):=⟨DU hpi hpj ha.h hps⟩
theorem p6(i:Nat){o k e:Expr}{fk fe:FE}{pos':Pos}(hu:X.A.units+64<cLine)(ho:PE X o (dP i))(hk:WE X k fk)(he:WE X e fe)(hs:KS e (some (.Subscript o k pos')) pos.line X.env=pure false)
  (hps:∀(te:TE)(t:TG),PE X e te->PG X (.Subscript o k pos') t->PS X (.Assign [.Subscript o k pos'] e pos) (oY te t)) (hpg:∀to ti:TE,PE X o to->PE X k ti->PG X (.Subscript o k pos') (xo to ti qv)):WS X pin (.Assign [.Subscript o k pos'] e pos) (pU i fk fe):=⟨D9 i hu ho hk.h he.h hs hps hpg⟩
theorem dS{tg iter:Expr}{body:List Stmt}{fi:FI}{fg:FG}{fb:FS}(hp0:My (model X.prog X.w) X.A X.env X.xe)(hc:X.calm=true)(hi:WI X tg iter fi)(hg:WG X pin tg fg)(hb:Be X pin body fb)
  (hs:∀x,HG iter X.env x=pure x:=by intro _; rfl):WS X pin (.For tg iter body [] pos) (fO fi fg fb):=⟨DZ hp0 hc hi.h hg.h hb.h hs⟩
theorem qV(n:Nat){c:Expr}{body:List Stmt}{fc:FT}{fb:FS}(hp0:My (model X.prog X.w) X.A X.env X.xe)(hc:WT X c fc)(hb:Be X pin body fb):WS X pin (.While c body [] pos) (gx n fc fb):=⟨yG n hp0 hc.h hb.h⟩
end
section
variable{P:Fk}{w:World}{K:AT}{mg:Str->Option Value}{base:Heap}
theorem bJ{x qual:Str}{st:Stmt}{f:Addr}{fd:Jv}{N prs:List Str}{k:Nat}(ps:List Bool){fb:FS}(Fn:lq K x qual st f fd)(S:aX N prs (ao st))(hl:prs.length=ps.length)
  (hb:∀(cdv:Value)(A:HN)(outer:List Env)(s:B2)(H:Hp)(E:XK),eY k (A.deeper (MQ qual (ao st) s.heap.objs.size f cdv))->Be (qo jc P w K mg base N qual (ao st) f cdv A outer s H E).EM (pins ps 0) (aQ st) fb) :
  cF P w K mg base jc (k+1) f fd prs (cS K (e9 ps N.length fb)):=D0 ps Fn S hl λcdv A outer s H E hr=>(hb cdv A outer s H E hr).h
noncomputable def p7(K:AT):Sp:=λvs H Q _=>∃ (a:Addr) (ns:List Int),vs=[.ref a]/\fj K H a (ns.map V.int)/\ns.length<=63/\∀H',Q (.bl true) H'
theorem Ej{k:Nat}{f:Addr}{fd:Jv}{x:Str}{g:FF}(F:cF P w K mg base jc k f fd [x] (cS K g))(h:∀ns:List Int,ns.length<=63->∃ms,g [.v (.list (ns.map .int))]=some (.v (.bool true),ms)):cF P w K mg base jc k f fd [x] (p7 K):=by
 refine F.imp λvs H Q E hs=>?_
 obtain⟨a,ns,rfl,hq,hl,q⟩:=hs;obtain⟨ms,e⟩:=h ns hl;rcases hq with hq | hq
 ·have hz:∀b,(λb=>b=a) b->H b≠none:=λb hb e=>by
   have hb:b=a:=hb;subst hb;rcases hq with hq | ⟨o,hq⟩ <;> rw[hq] at e <;> cases e
  refine⟨λb=>b=a,_,[],_,ms,.cons (G:=[]) (.v (.lst hq rfl (bD.ints ns))) .nil,⟨JS,λ_ h=>(nomatch h),hz⟩,e,λx H' Z' A' G _ h _=>?_⟩
  cases h with
  |v f=>obtain rfl:=f.sI; exact q H'
 ·refine⟨λ_=>False,_,[],_,ms,.cons (G:=[]) (.v (.lsK hq (bD.ints ns))) .nil,⟨JS,λ_ h=>(nomatch h),λ_ h=>h.elim⟩,e,λx H' Z' A' G _ h _=>?_⟩
  cases h with
  |v f=>obtain rfl:=f.sI; exact q H'
end
section
variable{X:Cx}{pos:Pos}{pin:List Nat}
noncomputable def yQ:M->M->Option M
 |.v (.tuple ds),.v (.int i)=>if i = -1 then some (.v (.tuple ds.reverse)) else none
 |_,_=>none
theorem Ek{e st:Expr}{fa fb:FE}{p2:Pos}(he:WE X e fa)(hs:WE X st fb):WE X (.Subscript e (.Slice none none (some st) p2) pos) (vB yQ fa fb):=⟨bg (Dq he.h hs.h) λσ H Q hq=>by
 obtain⟨m1,m2,m,e,h⟩:=uC hq;refine h _ λH2 Z2 x y za h1 h2 fin=>?_
 unfold yQ at e
 split at e
 ·split at e
  ·next hi=>
   cases e;subst hi;obtain⟨a,xs,rfl,t,f⟩:=h1.tup;obtain rfl:=h2.int;exact⟨a,xs,rfl,rfl,t,λp hp=>endT fin za hp f.reverse⟩
  ·cases e
 ·cases e⟩
noncomputable def tw:List (FE×FE)->Ev->Option (List (Key×B1)×Ev)
 |[],ρ=>some ([],ρ)
 |(fk,fv)::r,ρ=>(fk ρ).bind λp=>match p.1 with
  |.t (.v kd)=>(eZ kd).bind λk=>(fv p.2).bind λq=>(cL q.1 q.2).bind λd=>(tw r d.2).bind λz=>some ((k,d.1)::z.1,z.2)
  |_=>none
noncomputable def Ci(trs:List (FE×FE)):FE:=λρ=>(tw trs ρ).bind λz=>if z.1.length<=15 then some (.t (.aL (z.1.foldl (λacc kv=>putD acc kv.1 kv.2) [])),z.2) else none
theorem wF{H0:Hp}{Z0:Zs}{F0 R:List Addr}{σ:L2.St}:∀{trs:List (FE×FE)}{H:Hp}{Z:Zs}{ρ ρ':Ev}{F:List Addr}{kvs:List (Key×B1)}{Q:List (V×V)->Hp->Prop},aS X.K H Z σ ρ F->aI H0 Z0 F0 H Z (F++R)->(∀a∈R,H a≠none)->tw trs ρ=some (kvs,ρ') ->
  (∀kxs H' Z' F',aS X.K H' Z' σ ρ' F'->gS X.K H' Z' kxs kvs->aI H0 Z0 F0 H' Z' (F'++R)->(∀a∈R,∀o,H a=some o->H' a=some o)->aJ H Z H' Z'->Q (kxs.map λkv=>(kV kv.1,kv.2)) H')->pG (trs.map λp=>(vE X.K p.1,vE X.K p.2)) σ H Q:=by
 intro trs
 induction trs with
 |nil=>
  intro H Z ρ ρ' F kvs Q S f al e q;cases e; exact q [] H Z F S .nil f (λ_ _ _ h=>h) aJ.refl
 |cons p r ih=>
  intro H Z ρ ρ' F kvs Q S f al e q;obtain⟨fk,fv⟩:=p;obtain⟨⟨o1,ρ1⟩,e1,e⟩:=oB e;cases o1 with
  |p _=>cases e
  |q _ _=>cases e
  |t m=>
   cases m with
   |lst _=>cases e
   |aL _=>cases e
   |bM _=>cases e
   |v kd=>
    obtain⟨k,e2,e⟩:=oB e;obtain⟨⟨o3,ρ3⟩,e3,e⟩:=oB e;obtain⟨⟨d,ρ4⟩,e4,e⟩:=oB e;obtain⟨⟨kvs',ρ5⟩,e5,e⟩:=oB e;cases e;refine⟨Z,ρ,F,_,ρ1,S,f.left.wf,e1,λx H1 Z1 F1 G1 S1 O1 f1=>?_⟩
    have xk:x=kV k:=by
     cases O1 with
     |t ow=>cases ow with
      |v fx=>exact fB fx e2
    have g1:=f1.left.frame f.wf al;have k1:∀a∈R,∀o,H a=some o->H1 a=some o:=λa h o e=>f1.keep a o (λz=>(aU f.nd).2.2 a z h) e
    have al1:∀a∈R,H1 a≠none:=λa h e=>by
     cases q:H a with
     |none=>exact al a h q
     |some o=>rw[k1 a h o q] at e; cases e
    have F1':=f.trans g1;refine⟨Z1,ρ1,F1,o3,ρ3,S1,F1'.left.wf,e3,λy H2 Z2 F2 G2 S2 O2 f2=>?_⟩
    have g2:aI H0 Z0 F0 H2 Z2 (F2++G2++R):=F1'.trans (f2.frame F1'.wf al1);have k2:∀a∈R,∀o,H1 a=some o->H2 a=some o:=λa h o e=>f2.keep a o (λz=>(aU F1'.nd).2.2 a z h) e
    have al2:∀a∈R,H2 a≠none:=λa h e=>by
     cases q:H1 a with
     |none=>exact al1 a h q
     |some o=>rw[k2 a h o q] at e; cases e
    obtain⟨Z3,F3,S3,y3,f3,g3⟩:=freeze S2 O2 g2 e4;refine ih S3 f3 al2 e5 λkxs H' Z' F' S' fk' f' k' g' =>?_
    rw[xk];exact q ((k,y)::kxs) H' Z' F' S' (.cons (y3.mono g') fk') f' (λa h o e=>k' a h o (k2 a h o (k1 a h o e))) (((f1.grow f.left.wf).trans (f2.grow F1'.left.wf)).trans (g3.trans g'))
theorem qW{K:AT}{H:Hp}{Z:Zs}:∀{kxs:List (Key×V)}{kvs:List (Key×B1)}{axs:List (Key×V)}{avs:List (Key×B1)},gS K H Z kxs kvs->gS K H Z axs avs->gS K H Z (iQ axs kxs) (kvs.foldl (λacc kv=>putD acc kv.1 kv.2) avs)
 |_,_,_,_,.nil,a=>a
 |_,_,axs,avs,.cons (k:=k) (x:=x) (d:=d) (xs:=xs) (ds:=ds) h r,a=>by
  have:=qW r (gS.put (k:=k) h a);exact this
structure FQ(X:Cx)(pos:Pos)(ks:List (Option Expr))(vs:List Expr)(trs:List (FE×FE)):Prop where
 h:Fd X pos ks vs (trs.map λp=>(vE X.K p.1,vE X.K p.2))
theorem Bg:FQ X pos [] [] []:=⟨Aw⟩
theorem yR{k v:Expr}{ks:List (Option Expr)}{vs:List Expr}{fk fv:FE}{trs:List (FE×FE)}(hk:WE X k fk)(hv:WE X v fv)(hr:FQ X pos ks vs trs):FQ X pos (some k::ks) (v::vs) ((fk,fv)::trs):=⟨xK hk.h hv.h hr.h⟩
theorem Bh{keys:List (Option Expr)}{values:List Expr}{trs:List (FE×FE)}(h:FQ X pos keys values trs)(hall:keys.all (·.isSome)=true)(hl:keys.length=values.length)(h0:keys≠[])(h15:keys.length<=15):WE X (.Dict keys values pos) (Ci trs):=⟨bg (Ax h.h hall hl h0 h15) λσ H Q hq p hp=>by
 obtain⟨Z,ρ,F,o,ρ',S,w,e,q⟩:=hq;obtain⟨⟨kvs,ρ1⟩,e1,e⟩:=oB e
 split at e
 ·next hl=>
  cases e;have n0:=aI.sN (o:=.dK []) hp w.za;have f0:aI H Z F (upd H p (.dK [])) Z (F++[p]):=n0.news w S.al;refine wF (S.news n0) f0 (λa h e=>by rw[Ch.mp h,aB] at e; cases e) e1 λkxs H' Z' F' S' fk f' k' g' =>?_
  have ep:=k' p lS _ aB;obtain⟨f3,g3⟩:=f'.put (o':=.dK (iQ [] kxs)) ep (λ_ z=>nomatch z) (λ_ _ z=>nomatch z)
  refine⟨ep,kxs,rfl,by rw[fk.length]; exact hl,q (.ref p) _ Z' F' [p] (S'.mono g3 λa h o e=>?_) (.t (.aL aB (qW (fk.mono g3) .nil))) f3⟩
  have hne:a≠p:=λz=>(aU f'.nd).2.2 a h (by rw[z]; exact lS)
  rw[aA hne]; exact e
 ·cases e⟩
end
theorem Bj{P:Fk}{w:World}{K:AT}{mg:Str->Option Value}{base:Heap}{CX:wX}{k:Nat}{f:Addr}{fd:Jv}{ps:List Str}:cF P w K mg base CX k f fd ps (cS K λ_=>none) :=
 ⟨λvs H Q E h=>(by obtain⟨_,_,_,_,_,_,_,e,_⟩:=h; cases e),λA outer s H args us vs Q E _ _ _ _ h=>(by obtain⟨_,_,_,_,_,_,_,e,_⟩:=h; cases e)⟩
end VL
end
section
namespace VL
open PySem L2
section
variable{ρ:Ev}{m:M}{x:Option M}{i j:Nat}
@[simp] theorem at?_0:ck (some m::ρ) 0=some m:=rfl
@[simp] theorem at?_n:ck (none::ρ) 0=none:=rfl
@[simp] theorem at?_s:ck (x::ρ) (i+1)=ck ρ i:=rfl
@[simp] theorem El:peek ρ (.t m)=some m:=rfl
@[simp] theorem peek_p:peek ρ (.p i)=ck ρ i:=rfl
@[simp] theorem Bl:jr ρ (.t m)=some m:=rfl
@[simp] theorem peekS_p:jr ρ (.p i)=ck ρ i:=rfl
@[simp] theorem EV:iH ρ []=some []:=rfl
@[simp] theorem Em{o:cN}{os:List cN}:iH ρ (o::os)=(peek ρ o).bind λm=>(iH ρ os).bind λms=>some (m::ms):=rfl
@[simp] theorem Bm:aa i ρ=match ck ρ i with
 |some (.v d)=>some (.t (.v d),ρ)
 |some _=>some (.p i,ρ)
 |none=>none:=rfl
@[simp] theorem vC_eq{d:B1}:vC d ρ=some (.t (.v d),ρ):=rfl
@[simp] theorem vB_eq{g:M->M->Option M}{fa fb:FE}:vB g fa fb ρ=(fa ρ).bind λp=>(fb p.2).bind λq=>(jr q.2 p.1).bind λm1=>(peek q.2 q.1).bind λm2=>(g m1 m2).bind λm=>some (.t m,q.2):=rfl
@[simp] theorem vU_eq{g:M->Option M}{fa:FE}:vU g fa ρ=(fa ρ).bind λp=>(peek p.2 p.1).bind λm1=>(g m1).bind λm=>some (.t m,p.2):=rfl
@[simp] theorem vaNil_eq:gT ρ=some ([],ρ):=rfl
@[simp] theorem vaOne_eq{fa:FE}:af fa ρ=(fa ρ).bind λp=>some ([p.1],p.2):=rfl
@[simp] theorem stab_t:sJ (.t m)=true:=rfl
@[simp] theorem stab_p:sJ (.p i)=true:=rfl
@[simp] theorem EW{fa:FE}{fr:FA}:ai fa fr ρ=(fa ρ).bind λp=>(fr p.2).bind λq=>if sJ p.1=true then some (p.1::q.1,q.2) else none:=rfl
@[simp] theorem vCB_eq{g:List M->Option M}{fa:FA}:fW g fa ρ=(fa ρ).bind λp=>(iH p.2 p.1).bind λms=>(g ms).bind λm=>some (.t m,p.2):=rfl
@[simp] theorem tr_bool{b:Bool}:Gv (.v (.bool b))=some b:=rfl
@[simp] theorem vTst_eq{f:FE}:br f ρ=(f ρ).bind λp=>(peek p.2 p.1).bind λm=>(Gv m).bind λb=>some (b,p.2):=rfl
@[simp] theorem vTru_eq{f:FE}:jX f ρ=(f ρ).bind λp=>(peek p.2 p.1).bind λm=>(qO m).bind λb=>some (b,p.2):=rfl
@[simp] theorem tru_bool{b:Bool}:qO (.v (.bool b))=some b:=rfl
@[simp] theorem tru_tup{ds:List B1}:qO (.v (.tuple ds))=some (!ds.isEmpty):=rfl
@[simp] theorem tru_list{ds:List B1}:qO (.v (.list ds))=some (!ds.isEmpty):=rfl
@[simp] theorem tru_lst{ds:List B1}:qO (.lst ds)=some (!ds.isEmpty):=rfl
@[simp] theorem tru_dic{ds:List (Key×B1)}:qO (.aL ds)=some (!ds.isEmpty):=rfl
@[simp] theorem vNot_eq{f:FT}:lJ f ρ=(f ρ).bind λp=>some (!p.1,p.2):=rfl
@[simp] theorem vAnd_eq{f g:FT}:qL f g ρ=(f ρ).bind λp=>if p.1=true then g p.2 else some (false,p.2):=rfl
@[simp] theorem vOr_eq{f g:FT}:Fg f g ρ=(f ρ).bind λp=>if p.1=true then some (true,p.2) else g p.2:=rfl
@[simp] theorem vYes_eq:dB ρ=some (true,ρ):=rfl
@[simp] theorem vAndV_eq{fa fb:FE}:jt fa fb ρ=(br fa ρ).bind λp=>if p.1=true then fb p.2 else some (.t (.v (.bool false)),p.2):=rfl
@[simp] theorem vNotV_eq{fa:FE}:uw fa ρ=(br fa ρ).bind λp=>some (.t (.v (.bool (!p.1))),p.2):=rfl
@[simp] theorem toD_v{d:B1}:toD (.v d)=d:=rfl
@[simp] theorem Bo{d:List B1}:toD (.lst d)=.list d:=rfl
@[simp] theorem En:cL (.t m) ρ=some (toD m,ρ):=rfl
@[simp] theorem frz1_p:cL (.p i) ρ=(ck ρ i).bind λm=>some (toD m,ρ.set i (some (.v (toD m)))):=rfl
@[simp] theorem frzs_nil:d8 [] ρ=some ([],ρ):=rfl
@[simp] theorem EX{o:cN}{os:List cN}:d8 (o::os) ρ=(cL o ρ).bind λp=>(d8 os p.2).bind λq=>some (p.1::q.1,q.2):=rfl
@[simp] theorem vTup_eq{fa:FA}:cV fa ρ=(fa ρ).bind λp=>(d8 p.1 p.2).bind λq=>if q.1.length<=lim then some (.t (.v (.tuple q.1)),q.2) else none:=rfl
@[simp] theorem vLst_eq{fa:FA}:di fa ρ=(fa ρ).bind λp=>(d8 p.1 p.2).bind λq=>if q.1.length<=lim then some (.t (.lst q.1),q.2) else none:=rfl
@[simp] theorem ixO_t{m1 m2:M}:FH (.t m1) m2 ρ=(getM m1 m2).bind λm=>some (.t m,ρ):=rfl
@[simp] theorem vIx_eq{fa fb:FE}:gH fa fb ρ=(fa ρ).bind λp=>(fb p.2).bind λq=>(peek q.2 q.1).bind λm2=>FH p.1 m2 q.2:=rfl
@[simp] theorem ixO_p{m2:M}:FH (.p i) m2 ρ=(ck ρ i).bind λm1=>match m1,m2 with
  |.bM kvs,.v k=>(eZ k).bind λk=>(cg kvs k).bind λ_=>some (.q i k,ρ)
  |m1,m2=>(getM m1 m2).bind λm=>some (.t m,ρ):=rfl
@[simp] theorem getM_tup{ds:List B1}{k:Int}:getM (.v (.tuple ds)) (.v (.int k))=(jO ds k).bind λd=>some (.v d):=rfl
@[simp] theorem EY{ds:List B1}{k:Int}:getM (.v (.list ds)) (.v (.int k))=(jO ds k).bind λd=>some (.v d):=rfl
@[simp] theorem getM_lst{ds:List B1}{k:Int}:getM (.lst ds) (.v (.int k))=(jO ds k).bind λd=>some (.v d):=rfl
@[simp] theorem getM_dic{kvs:List (Key×B1)}{k:B1}:getM (.aL kvs) (.v k)=(eZ k).bind λk=>(cg kvs k).bind λd=>some (.v d):=rfl
@[simp] theorem keyD_int{k:Int}:eZ (.int k)=some (.inl k):=rfl
@[simp] theorem keyD_str{k:Str}:eZ (.str k)=some (.inr k):=rfl
@[simp] theorem wG:dm ρ=some (none,ρ):=rfl
@[simp] theorem wH{f:FE}:dw f ρ=(f ρ).bind λp=>(peek p.2 p.1).bind λm=>match m with
 |.v (.int i)=>some (some i,p.2)
 |_=>none:=rfl
@[simp] theorem Eo{fa:FE}{fl fh:FO}:wj fa fl fh ρ=(fa ρ).bind λp=>(fl p.2).bind λl=>(fh l.2).bind λh=>(jr h.2 p.1).bind λm=>(ET l.1 h.1 m).bind λm'=>some (.t m',h.2):=rfl
@[simp] theorem slM_tup{lo hi:Option Int}{ds:List B1}:ET lo hi (.v (.tuple ds))=some (.v (.tuple (cutD ds lo hi))):=rfl
@[simp] theorem slM_lst{lo hi:Option Int}{ds:List B1}:ET lo hi (.lst ds)=some (.lst (cutD ds lo hi)):=rfl
@[simp] theorem yS{lo hi:Option Int}{ds:List B1}:ET lo hi (.v (.list ds))=some (.lst (cutD ds lo hi)):=rfl
@[simp] theorem EZ:bQ [] ρ=some ([],ρ):=rfl
@[simp] theorem takeA_t{os:List cN}:bQ (.t m::os) ρ=(bQ os ρ).bind λq=>some (m::q.1,q.2):=rfl
@[simp] theorem takeA_p{os:List cN}:bQ (.p i::os) ρ=(ck ρ i).bind λm=>(bQ os (ρ.set i none)).bind λq=>some (m::q.1,q.2):=rfl
@[simp] theorem putA_nil{ms:List M}:eT [] ms ρ=ρ:=by cases ms <;> rfl
@[simp] theorem putA_t{os:List cN}{m':M}{ms:List M}:eT (.t m::os) (m'::ms) ρ=eT os ms ρ:=rfl
@[simp] theorem putA_p{os:List cN}{m':M}{ms:List M}:eT (.p i::os) (m'::ms) ρ=eT os ms (ρ.set i (some m')):=rfl
@[simp] theorem vFn_eq{g:FF}{fa:FA}:dM g fa ρ=(fa ρ).bind λp=>(bQ p.1 p.2).bind λq=>(g q.1).bind λr=>some (.t r.1,eT p.1 r.2 q.2):=rfl
@[simp] theorem vNext_eq:bB ρ=some (.nx ρ):=rfl
@[simp] theorem Bp{f g:FS}:aH f g ρ=(f ρ).bind λo=>match o with
 |.nx ρ1=>g ρ1
 |o=>some o:=rfl
@[simp] theorem vIfS_eq{c:FT}{f g:FS}:cW c f g ρ=(c ρ).bind λp=>if p.1=true then f p.2 else g p.2:=rfl
@[simp] theorem qX{f:FE}:bR f ρ=(f ρ).bind λp=>some (.nx p.2):=rfl
@[simp] theorem movO_t:pT (.t m) ρ=some (m,ρ):=rfl
@[simp] theorem movO_p:pT (.p i) ρ=(ck ρ i).bind λm=>some (m,ρ.set i none):=rfl
@[simp] theorem vRet_eq{f:FE}:cP f ρ=(f ρ).bind λp=>(pT p.1 p.2).bind λq=>some (.rt q.1 q.2):=rfl
@[simp] theorem setN_eq:fZ i m ρ=if i<ρ.length then some (ρ.set i (some m)) else none:=rfl
@[simp] theorem vSet_eq{f:FE}:bw i f ρ=(f ρ).bind λp=>(pT p.1 p.2).bind λq=>(fZ i q.1 q.2).bind λρ'=>some (.nx ρ'):=rfl
@[simp] theorem vAug_eq{g:M->M->Option M}{f:FE}:yx i g f ρ=(ck ρ i).bind λm1=>(f ρ).bind λp=>(peek p.2 p.1).bind λm2=>match m1 with
 |.v _=>(g m1 m2).bind λm=>(fZ i m p.2).bind λρ'=>some (.nx ρ')
 |_=>none:=rfl
@[simp] theorem E1{d:B1}:ah i d ρ=fZ i (.v d) ρ:=rfl
@[simp] theorem vgNil_eq:bZ [] ρ=some ρ:=rfl
@[simp] theorem E2{f:FG}{g:wu}{d:B1}{ds:List B1}:aD f g (d::ds) ρ=(f d ρ).bind λρ1=>g ds ρ1:=rfl
@[simp] theorem vgTup_eq{n:Nat}{g:wu}{ds:List B1}:bS n g (.tuple ds) ρ=if ds.length=n then g ds ρ else none:=rfl
@[simp] theorem vAsg_eq{f:FE}{g:FG}:yC f g ρ=(f ρ).bind λp=>(cL p.1 p.2).bind λq=>(g q.1 q.2).bind λρ'=>some (.nx ρ'):=rfl
@[simp] theorem parO_eq{o1:cN}{m2:M}:parO i j [o1,.t m2] ρ=(pT o1 ρ).bind λq1=>(fZ i q1.1 q1.2).bind λρ1=>(fZ j m2 ρ1).bind λρ2=>some (.nx ρ2):=rfl
@[simp] theorem vPar_eq{fa:FA}:yD i j fa ρ=(fa ρ).bind λp=>parO i j p.1 p.2:=rfl
@[simp] theorem itD_tup{ds:List B1}:FL (.tuple ds)=some ds:=rfl
@[simp] theorem yT{ds:List B1}:FL (.list ds)=some ds:=rfl
@[simp] theorem yU{f:FE}:cD f ρ=(f ρ).bind λp=>(cL p.1 p.2).bind λq=>(FL q.1).bind λds=>some (ds,q.2):=rfl
@[simp] theorem viArg_eq{g:List M->Option (List B1)}{fa:FA}:bG g fa ρ=(fa ρ).bind λp=>(iH p.2 p.1).bind λms=>(g ms).bind λds=>some (ds,p.2):=rfl
@[simp] theorem rng1_eq{k:Int}:gw [.v (.int k)]=if gW k=true then some (bu 0 k) else none:=rfl
@[simp] theorem rng2_eq{a k:Int}:wz [.v (.int a),.v (.int k)]=if gW a=true/\gW k=true then some (bu a k) else none:=rfl
@[simp] theorem Bq{fi:FI}{fg:FG}{fb:FS}:fO fi fg fb ρ=(fi ρ).bind λp=>forL fg fb p.1 p.2:=rfl
@[simp] theorem forL_nil{fg:FG}{fb:FS}:forL fg fb [] ρ=some (.nx ρ):=rfl
@[simp] theorem E3{n:Nat}{fc:FT}{fb:FS}:gx n fc fb ρ=iU fc fb n ρ:=rfl
@[simp] theorem cap_eq:cap ρ j=match ck ρ j with
 |some (.v d)=>some (.t (.v d))
 |some _=>some (.p j)
 |none=>none:=rfl
@[simp] theorem caps_nil:caps ρ []=some []:=rfl
@[simp] theorem E4{js:List Nat}:caps ρ (j::js)=(cap ρ j).bind λo=>(caps ρ js).bind λos=>some (o::os):=rfl
@[simp] theorem vLC_eq{n:Nat}{js:List Nat}{fi:FI}{fg:FG}{ft:FT}{fe:FE}:nh n js fi fg ft fe ρ=(fi ρ).bind λp=>(caps p.2 js).bind λos=>(bQ os p.2).bind λq=>
 (bz fg ft fe p.1 (D2 n none++q.1.map some) []).bind λr=>(fin (D2 js.length true) q.1 (r.2.drop n)).bind λms'=>some (.t (.lst r.1),eT os ms' q.2):=rfl
@[simp] theorem fin_nil:fin [] [] ρ=some []:=by cases ρ <;> rfl
@[simp] theorem fin_t{ps:List Bool}{ms:List M}{m':M}:fin (true::ps) (m::ms) (some m'::ρ)=(fin ps ms ρ).bind λms'=>some (m'::ms'):=rfl
@[simp] theorem fin_f{ps:List Bool}{ms:List M}{d:B1}:fin (false::ps) (.v d::ms) (x::ρ)=(fin ps ms ρ).bind λms'=>some (.v d::ms'):=rfl
@[simp] theorem vDC_eq{b:Bool}{n:Nat}{js:List Nat}{fi:FI}{fg:FG}{ft:FT}{fk fv:FE}:EU b n js fi fg ft fk fv ρ=(fi ρ).bind λp=>(caps p.2 js).bind λos=>(bQ os p.2).bind λq=>
 (kC fg ft fk fv p.1 (D2 n none++q.1.map some) (if b then .bM [] else .aL [])).bind λr=>(fin (D2 js.length true) q.1 (r.2.drop n)).bind λms'=>some (.t r.1,eT os ms' q.2):=rfl
@[simp] theorem vApp_eq{fa:FA}:jA i fa ρ=(ck ρ i).bind λm0=>match m0 with
 |.lst _=>(fa ρ).bind λp=>match p.1 with
  |[o]=>(cL o p.2).bind λq=>(ck q.2 i).bind λm=>match m with
   |.lst ds=>if ds.length<lim then some (.t (.v .none),q.2.set i (some (.lst (ds++[q.1])))) else none
   |_=>none
  |_=>none
 |_=>none:=rfl
@[simp] theorem vPut_eq{fk fe:FE}:pU i fk fe ρ=(fe ρ).bind λp=>(cL p.1 p.2).bind λq=>(ck q.2 i).bind λm0=>match m0 with
 |.v _=>none
 |_=>(fk q.2).bind λr=>(peek r.2 r.1).bind λmk=>(ck r.2 i).bind λm=>match m,mk with
  |.aL kvs,.v kd=>(eZ kd).bind λk=>if kvs.length<lim then some (.nx (r.2.set i (some (.aL (putD kvs k q.1))))) else none
  |.lst ds,.v (.int k)=>(ud ds.length k).bind λj=>some (.nx (r.2.set i (some (.lst (ds.set j q.1)))))
  |_,_=>none:=rfl
theorem jF{ps:List Bool}{n:Nat}{fb:FS}{ms:List M}:e9 ps n fb ms=if ms.length=ps.length then (fb (ms.map some++D2 (n-ms.length) none)).bind λo=>match o with
 |.rt m ρ=>(fin ps ms ρ).bind λms'=>some (m,ms')
 |.nx ρ=>(fin ps ms ρ).bind λms'=>some (.v .none,ms')
 |_=>none
 else none:=rfl
@[simp] theorem int_eq{C:Int->Int->Bool}{g:Int->Int->B1}{a b:Int}:iB C g (.v (.int a)) (.v (.int b))=if C a b=true then some (.v (g a b)) else none:=rfl
@[simp] theorem sub_eq{a b:Int}:ju (.v (.int a)) (.v (.int b))=some (.v (.int (a-b))):=rfl
@[simp] theorem add_int{a b:Int}:bH (.v (.int a)) (.v (.int b))=some (.v (.int (a+b))):=rfl
@[simp] theorem uQ{a b:List B1}:bH (.v (.tuple a)) (.v (.tuple b))=if a.length+b.length<=lim then some (.v (.tuple (a++b))) else none:=rfl
@[simp] theorem add_lst{a b:List B1}:bH (.lst a) (.lst b)=if a.length+b.length<=lim then some (.lst (a++b)) else none:=rfl
@[simp] theorem mul_eq{a b:Int}:mulM (.v (.int a)) (.v (.int b))=if decide ((-(2 ^ 64)<a/\a<2 ^ 64)\/(-(2 ^ 64)<b/\b<2 ^ 64))=true then some (.v (.int (a*b))) else none:=rfl
@[simp] theorem mod_eq{a b:Int}:iS (.v (.int a)) (.v (.int b))=if decide (0<b)=true then some (.v (.int (a % b))) else none:=rfl
@[simp] theorem fdiv_eq{a b:Int}:uy (.v (.int a)) (.v (.int b))=if decide (0<b/\b<1073741824)=true then some (.v (.int (a / b))) else none:=rfl
@[simp] theorem gt_eq{a b:Int}:ye (.v (.int a)) (.v (.int b))=some (.v (.bool (decide (b<a)))):=rfl
@[simp] theorem lt_eq{a b:Int}:DH (.v (.int a)) (.v (.int b))=some (.v (.bool (decide (a<b)))):=rfl
@[simp] theorem ge_eq{a b:Int}:FD (.v (.int a)) (.v (.int b))=some (.v (.bool (decide (b<=a)))):=rfl
@[simp] theorem lt_tup{a b:List B1}:DH (.v (.tuple a)) (.v (.tuple b))=(gu a).bind λis=>(gu b).bind λjs=>some (.v (.bool (HT.lexLt is js))):=rfl
@[simp] theorem ge_tup{a b:List B1}:FD (.v (.tuple a)) (.v (.tuple b))=(gu a).bind λis=>(gu b).bind λjs=>some (.v (.bool (!HT.lexLt is js))):=rfl
@[simp] theorem asD_v{d:B1}:AO (.v d)=some d:=rfl
@[simp] theorem Br{d:List B1}:AO (.lst d)=some (.list d):=rfl
theorem Ep{neg:Bool}{m1 m2:M}:kF neg m1 m2=(AO m1).bind λd=>(AO m2).bind λe=>if v9 d e=true then some (.v (.bool (if neg then !PyData.eqv d e else JL d e))) else none:=rfl
@[simp] theorem eq_int{a b:Int}:kF false (.v (.int a)) (.v (.int b))=some (.v (.bool (decide (a=b)))):=by
 have h:kF false (.v (.int a)) (.v (.int b))=some (.v (.bool (a == b))):=rfl;rw[h,Ol]
@[simp] theorem ne_int{a b:Int}:kF true (.v (.int a)) (.v (.int b))=some (.v (.bool (!decide (a=b)))):=by
 have h:kF true (.v (.int a)) (.v (.int b))=some (.v (.bool (!(a == b)))):=rfl;rw[h,Ol]
@[simp] theorem eq_bool{a b:Bool}:kF false (.v (.bool a)) (.v (.bool b))=some (.v (.bool (a == b))):=rfl
@[simp] theorem ne_bool{a b:Bool}:kF true (.v (.bool a)) (.v (.bool b))=some (.v (.bool (!(a == b)))):=rfl
@[simp] theorem isn_bool{a b:Bool}:we true (.v (.bool a)) (.v (.bool b))=some (.v (.bool (!(a == b)))):=rfl
@[simp] theorem len_tup{ds:List B1}:jw [.v (.tuple ds)]=some (.v (.int ds.length)):=rfl
@[simp] theorem len_list{ds:List B1}:jw [.v (.list ds)]=some (.v (.int ds.length)):=rfl
@[simp] theorem len_lst{ds:List B1}:jw [.lst ds]=some (.v (.int ds.length)):=rfl
@[simp] theorem len_dic{ds:List (Key×B1)}:jw [.aL ds]=some (.v (.int ds.length)):=rfl
@[simp] theorem yV{ds:List B1}:jx [.lst ds]=some (.v (.tuple ds)):=rfl
@[simp] theorem E5{ds:List B1}:jx [.v (.list ds)]=some (.v (.tuple ds)):=rfl
@[simp] theorem tupM_tup{ds:List B1}:jx [.v (.tuple ds)]=some (.v (.tuple ds)):=rfl
@[simp] theorem isi_eq{c:String}:lZ c m=some (.v (.bool (subB (lY m) c))):=rfl
@[simp] theorem abs_eq{a:Int}:sV [.v (.int a)]=some (.v (.int (if a<0 then -a else a))):=rfl
@[simp] theorem int1_int{a:Int}:iK [.v (.int a)]=some (.v (.int a)):=rfl
@[simp] theorem E6{a:Bool}:iK [.v (.bool a)]=some (.v (.int (if a then 1 else 0))):=rfl
@[simp] theorem Bs{any:Bool}{ds:List B1}:allM any [.lst ds]=(sX ds).bind λbs=>some (.v (.bool (if any then bs.any id else bs.all id))):=rfl
end
theorem aG{f g:FS}{ρ ρ1:Ev}(h:f ρ=some (.nx ρ1)):aH f g ρ=g ρ1:=by rw[Bp,h]; rfl
theorem cY{ps:List Bool}{n:Nat}{fb:FS}{ms:List M}{m:M}{ρ:Ev}{ms':List M}(hl:ms.length=ps.length)(h:fb (ms.map some++D2 (n-ms.length) none)=some (.rt m ρ))(hf:fin ps ms ρ=some ms'):e9 ps n fb ms=some (m,ms'):=by
 rw[jF,if_pos hl,h];show (fin ps ms ρ).bind _=_;rw[hf]; rfl
theorem cz{fg:FG}{fb:FS}{P:List B1->Ev->Prop}:∀(ds:List B1)(ρ:Ev),P ds ρ->(∀d ds ρ,P (d::ds) ρ->∃ρ1 ρ2,fg d ρ=some ρ1/\fb ρ1=some (.nx ρ2)/\P ds ρ2)->∃ρ',forL fg fb ds ρ=some (.nx ρ')/\P [] ρ'
 |[],ρ,h,_=>⟨ρ,rfl,h⟩
 |d::ds,ρ,h,step=>by
  obtain⟨ρ1,ρ2,e1,e2,h2⟩:=step d ds ρ h;obtain⟨ρ',e3,h3⟩:=cz ds ρ2 h2 step;refine⟨ρ',?_,h3⟩;show (fg d ρ).bind _=_;rw[e1];show (fb ρ1).bind _=_;rw[e2];exact e3
theorem gb{fg:FG}{ft:FT}{fe:FE}{P:List B1->List B1->Ev->Prop}:∀(ds:List B1)(ρ:Ev)(acc:List B1),P ds acc ρ ->
  (∀d ds acc ρ,P (d::ds) acc ρ->acc.length<lim/\∃ρ1 b ρ2,fg d ρ=some ρ1/\ft ρ1=some (b,ρ2)/\((b=false/\P ds acc ρ2)\/(b=true/\∃o ρ3 e ρ4,fe ρ2=some (o,ρ3)/\cL o ρ3=some (e,ρ4)/\P ds (acc++[e]) ρ4)))->∃acc' ρ',bz fg ft fe ds ρ acc=some (acc',ρ')/\P [] acc' ρ':=by
 intro ds
 induction ds with
 |nil=>
  intro ρ acc h _;exact⟨acc,ρ,rfl,h⟩
 |cons d ds ih=>
  intro ρ acc h step;obtain⟨hl,ρ1,b,ρ2,e1,e2,h2⟩:=step d ds acc ρ h;rcases h2 with⟨rfl,h2⟩ | ⟨rfl,o,ρ3,e,ρ4,e3,e4,h2⟩
  ·obtain⟨acc',ρ',e5,h5⟩:=ih ρ2 acc h2 step
   refine⟨acc',ρ',?_,h5⟩;show (fg d ρ).bind _=_;rw[e1];show (ft ρ1).bind _=_;rw[e2];exact e5
  ·obtain⟨acc',ρ',e5,h5⟩:=ih ρ4 (acc++[e]) h2 step
   refine⟨acc',ρ',?_,h5⟩;show (fg d ρ).bind _=_;rw[e1];show (ft ρ1).bind _=_;rw[e2];show (fe ρ2).bind _=_;rw[e3];show (cL o ρ3).bind _=_;rw[e4];show (if acc.length<lim then _ else _)=_
   rw[if_pos hl];exact e5
end VL
end
section
namespace VL
open PySem PySem.Spec L2 PyProof.Rows
section
variable{X:Cx}{pos:Pos}{pin:List Nat}
noncomputable def p8(i:Nat)(fa:FA):FE:=λρ=>(ck ρ i).bind λm0=>match m0 with
 |.lst _=>(fa ρ).bind λp=>match p.1 with
  |[.t (.lst es)]=>(ck p.2 i).bind λm=>match m with
   |.lst ds=>if ds.length+es.length<=lim then some (.t (.v .none),p.2.set i (some (.lst (ds++es)))) else none
   |_=>none
  |_=>none
 |_=>none
theorem Bt{i:Nat}{fa:FA}{σ:L2.St}{H:Hp}{Q:VK}(hq:vE X.K (p8 i fa) σ H Q):zS X.K "list" pF (dP i) (vA X.K fa) σ H Q:=by
 obtain⟨Z,ρ,F,o,ρ',S,w,e,q⟩:=hq;obtain⟨m0,e0,e⟩:=oB e
 split at e
 ·rename_i ds0
  obtain⟨x,G,h1,h2,_⟩:=S.get (aF.mp e0);obtain⟨a,xs0,rfl,ha,_⟩:=(show Ro X.K H Z x (.lst ds0) from⟨G,h2⟩).lst
  refine⟨.ref a,h1,.inl ⟨rfl,_,fj.of ha⟩,?_⟩;obtain⟨⟨os,ρ1⟩,e1,e⟩:=oB e;refine⟨Z,ρ,F,os,ρ1,S,w,e1,λxs H1 Z1 F1 G1 S1 O1 f1=>?_⟩
  dsimp only at e
  split at e
  ·rename_i es
   obtain⟨m,e3,e⟩:=oB e
   split at e
   ·rename_i ds
    split at e
    ·rename_i hl
     cases e;cases O1 with
     |cons p1 r1=>
      cases r1;rw[FB] at f1;cases p1 with
      |t p2=>
       cases p2 with
       |lst hz fz=>
        have f2:=f1.sub (aU f1.nd).1 λb hb=>lL _ hb
        obtain⟨x',G',k1,k2,k3⟩:=wC S1 f2 e3;rw[h1] at k1; cases k1;cases k2 with
        |lst hb fb=>
         obtain⟨g,_,k4⟩:=k3 a (.lst (_++_)) lS;obtain⟨F3,S3,f3⟩:=k4 (.lst (ds++es)) [a] (λ_ h=>h) (Ha.mpr ⟨HH,JS⟩) (.lst aB ((fb.append fz).mono g))
         exact⟨a,_,_,_,rfl,rfl,hb,hz,JT (gU (by rw[fb.length,fz.length]; exact hl)),q .non _ Z1 F3 [] S3 (.t (.v .non)) f3.nil⟩
    ·cases e
   ·cases e
  ·cases e
 ·cases e
theorem tE(i:Nat){e:Expr}{es:List Expr}{fa:FA}{x:Str}{p1 p2:Pos}(ha:WA X (e::es) fa)(hpe:∀(to:TE)(t:TA),PE X (.Name x p1) to->PA X (e::es) t->PE X (.Call (.Attribute (.Name x p1) "extend" p2) (e::es) [] pos) (zS X.K "list" pF to t))(hv:PE X (.Name x p1) (dP i)):WE X (.Call (.Attribute (.Name x p1) "extend" p2) (e::es) [] pos) (p8 i fa):=⟨bg (hpe _ _ hv ha.h) λ_ _ _ hq=>Bt hq⟩
end
section
variable{X:Cx}{pos:Pos}{pin:List Nat}
noncomputable def vPopA(i:Nat)(fa:FA):FE:=λρ=>(ck ρ i).bind λm0=>match m0 with
 |.lst _=>(fa ρ).bind λp=>match p.1 with
  |[o]=>(peek p.2 o).bind λmk=>match mk with
   |.v (.int k)=>(ck p.2 i).bind λm=>match m with
    |.lst ds=>if k < -(2 ^ 63)\/2 ^ 63<=k then none else (seqIndex? k ds.length).bind λn=>(ds[n]?).bind λd=>some (.t (.v d),p.2.set i (some (.lst (ds.eraseIdx n))))
    |_=>none
   |_=>none
  |_=>none
 |_=>none
noncomputable def yW(i:Nat):FE:=λρ=>(ck ρ i).bind λm0=>match m0 with
 |.lst ds=>(ds[ds.length-1]?).bind λd=>some (.t (.v d),ρ.set i (some (.lst ds.dropLast)))
 |_=>none
theorem Bu{i:Nat}{σ:L2.St}{H:Hp}{Q:VK}(hq:vE X.K (yW i) σ H Q):tBM0 X.K "list" rPop (dP i) σ H Q:=by
 obtain⟨Z,ρ,F,o,ρ',S,w,e,q⟩:=hq;obtain⟨m0,e0,e⟩:=oB e
 split at e
 ·rename_i ds
  obtain⟨d,e5,e⟩:=oB e;cases e;obtain⟨x,G',k1,k2,k3⟩:=wC S (aI.refl w) e0;cases k2 with
  |lst hb fb=>
   rename_i a xs
   obtain⟨y,hy,fy⟩:=fb.get' e5;refine⟨.ref a,k1,.inl ⟨rfl,_,fj.of hb⟩,?_⟩;obtain⟨g,_,k4⟩:=k3 a (.lst (xs.dropLast)) lS;have fd:bD X.K H Z xs.dropLast ds.dropLast:=by
    rw[Oj,Oj,fb.length];exact fb.take _
   obtain⟨F3,S3,f3⟩:=k4 (.lst ds.dropLast) [a] (λ_ h=>h) (Ha.mpr ⟨HH,JS⟩) (.lst aB (fd.mono g))
   exact⟨a,_,y,rfl,rfl,hb,by rw[fb.length]; exact hy,q y _ Z F3 [] S3 (.t (.v (fy.mono g))) f3.nil⟩
 ·cases e
theorem Er(i:Nat){x:Str}{p1 p2:Pos}(hpe:∀(to:TE),PE X (.Name x p1) to->PE X (.Call (.Attribute (.Name x p1) "pop" p2) [] [] pos) (tBM0 X.K "list" rPop to))(hv:PE X (.Name x p1) (dP i)):WE X (.Call (.Attribute (.Name x p1) "pop" p2) [] [] pos) (yW i):=⟨bg (hpe _ hv) λ_ _ _ hq=>Bu hq⟩
def p9:V->List V->Hp->VK->Prop:=λx vs H Q=>∃l xs i k y,x=.ref l/\vs=[.int i,y]/\H l=some (.lst xs)/\i=((k:Nat):Int)/\k<=xs.length/\xs.length<2 ^ 62/\xs.length<FX/\Q .non (upd H l (.lst (xs.take k++y::xs.drop k)))
theorem wI:Fx X "list.insert" p9:=by
 intro pins s σ H x vs v us Q I rx rv h;obtain⟨l,xs,i,k,y,rfl,rfl,hH,hi,h1,h2,hz,q⟩:=h;cases rx;obtain⟨ui,u,rfl,ri,ru⟩:=Vals.two rv;obtain⟨t,rfl⟩:=ri;obtain⟨z,its,n,r,hl,e⟩:=I.qw hH;have hf:Builtin.List.listFitsIndex i=true:=fitsIndex_both (by lia) (by lia)
 have hg:¬ (!Builtin.List.listFitsIndex i)=true:=by rw[hf]; exact IZ
 have hs:its.toArray.size<=FX:=by rw[Do]; lia
 refine MO Oa ⟨_,e,rfl⟩ F.entry_list_insert (F.args_list_insert_3 _ _ _) (AutoSeq1.list_insert_list_int_val_1 l its.toArray n i t u hg hs) ⟨e,?_⟩;refine⟨.non,_,I.lset (its':=its.take k++u::its.drop k) hH e ?_ ((r.take k).append (.cons ru (r.drop k))) ?_,rfl,q⟩
 ·have hm:(if i<0 then (i+(its.toArray.size:Int)).toNat else min i.toNat its.toArray.size)=k:=by
   rw[if_neg (by lia),Do]
   lia
  show (its.toArray.extract 0 (if i<0 then (i+(its.toArray.size:Int)).toNat else min i.toNat its.toArray.size)).push u++its.toArray.extract (if i<0 then (i+(its.toArray.size:Int)).toNat else min i.toNat its.toArray.size)=_
  rw[hm];apply Pw.mp;simp;exact Ix (by rw[HI]; exact Db _)
 ·simp
  lia
noncomputable def yX(i:Nat)(fa:FA):FE:=λρ=>(ck ρ i).bind λm0=>match m0 with
 |.lst _=>(fa ρ).bind λp=>match p.1 with
  |[o,o2]=>(peek p.2 o).bind λmk=>match mk with
   |.v (.int k)=>(cL o2 p.2).bind λq=>(ck q.2 i).bind λm=>match m with
    |.lst ds=>if 0<=k/\k.toNat<=ds.length/\ds.length<lim then some (.t (.v .none),q.2.set i (some (.lst (ds.take k.toNat++q.1::ds.drop k.toNat)))) else none
    |_=>none
   |_=>none
  |_=>none
 |_=>none
theorem Bv{i:Nat}{fa:FA}{σ:L2.St}{H:Hp}{Q:VK}(hq:vE X.K (yX i fa) σ H Q):zS X.K "list" p9 (dP i) (vA X.K fa) σ H Q:=by
 obtain⟨Z,ρ,F,o,ρ',S,w,e,q⟩:=hq;obtain⟨m0,e0,e⟩:=oB e
 split at e
 ·rename_i ds0
  obtain⟨x,G,h1,h2,_⟩:=S.get (aF.mp e0);obtain⟨a,xs0,rfl,ha,_⟩:=(show Ro X.K H Z x (.lst ds0) from⟨G,h2⟩).lst
  refine⟨.ref a,h1,.inl ⟨rfl,_,fj.of ha⟩,?_⟩;obtain⟨⟨os,ρ1⟩,e1,e⟩:=oB e;refine⟨Z,ρ,F,os,ρ1,S,w,e1,λxs H1 Z1 F1 G1 S1 O1 f1=>?_⟩
  dsimp only at e
  split at e
  ·rename_i o1 o2
   obtain⟨mk,e2,e⟩:=oB e
   split at e
   ·rename_i k
    obtain⟨⟨d,ρ2⟩,e4,e⟩:=oB e;obtain⟨m,e3,e⟩:=oB e
    split at e
    ·rename_i ds
     split at e
     ·rename_i hk
      cases e;cases O1 with
      |cons p1 r1=>
       cases r1 with
       |cons p3 r2=>
        cases r2;rw[FB] at f1;obtain⟨G2,p2⟩:=p1.peek S1 e2;cases p2 with
        |v fz=>
         cases fz;have f2:=f1.sub (F':=F1++_) (by
          obtain⟨n1,n2,n3⟩:=aU f1.nd;exact aO n1 (aU n2).2.1 λb hb h=>n3 b hb (lR _ h)) λb hb=>by
           rcases lM hb with h | h
           ·exact lL _ h
           ·exact lR _ (lR _ h)
         obtain⟨Z2,F2,S2,z2,f3,_⟩:=iy S1 p3 f2 e4;obtain⟨x',G',k1,k2,k3⟩:=wC S2 f3 e3;rw[h1] at k1; cases k1;cases k2 with
         |lst hb fb=>
          obtain⟨g,_,k4⟩:=k3 a (.lst (_)) lS;obtain⟨F3,S3,f3⟩:=k4 (.lst (ds.take k.toNat++d::ds.drop k.toNat)) [a] (λ_ h=>h) (Ha.mpr ⟨HH,JS⟩) (.lst aB (((fb.take k.toNat).append (.cons z2 (fb.drop k.toNat))).mono g))
          have hl:=fb.length;have h5:lim<2 ^ 62:=by decide
          exact⟨a,_,k,k.toNat,_,rfl,rfl,hb,by lia,by lia,by lia,gU (by lia),q .non _ Z2 F3 [] S3 (.t (.v .non)) f3.nil⟩
     ·cases e
    ·cases e
   ·cases e
  ·cases e
 ·cases e
theorem Es(i:Nat){e:Expr}{es:List Expr}{fa:FA}{x:Str}{p1 p2:Pos}(ha:WA X (e::es) fa)(hpe:∀(to:TE)(t:TA),PE X (.Name x p1) to->PA X (e::es) t->PE X (.Call (.Attribute (.Name x p1) "insert" p2) (e::es) [] pos) (zS X.K "list" p9 to t))(hv:PE X (.Name x p1) (dP i)):WE X (.Call (.Attribute (.Name x p1) "insert" p2) (e::es) [] pos) (yX i fa):=⟨bg (hpe _ _ hv ha.h) λ_ _ _ hq=>Bv hq⟩
end
noncomputable def j8:List Int->Option Int
 |[]=>none
 |n::ns=>match j8 ns with
  |none=>some n
  |some j=>some (if j>n then j else n)
theorem oF:∀{ns:List Int}{k:Int},j8 ns=some k->k∈ns/\∀a∈ns,a<=k
 |[],_,e=>by cases e
 |n::ns,k,e=>by
  unfold j8 at e;cases h:j8 ns with
  |none=>
   rw[h] at e; cases e;cases ns with
   |nil=>exact⟨lS,λa ha=>by rw[Ch.mp ha]; exact Int.le_refl _⟩
   |cons y ys=>unfold j8 at h; split at h <;> cases h
  |some j=>
   rw[h] at e;have e:(if j>n then j else n)=k:=Fu e
   obtain⟨h1,h2⟩:=oF h
   by_cases c:j>n
   ·rw[if_pos c] at e; subst e
    exact⟨lO _ h1,λa ha=>by
     rcases lK ha with ha | ha
     ·subst ha; lia
     ·exact h2 a ha⟩
   ·rw[if_neg c] at e; subst e
    exact⟨lS,λa ha=>by
     rcases lK ha with ha | ha
     ·subst ha; lia
     ·have:=h2 a ha; lia⟩
section
variable{X:Cx}
theorem yY{prog:Fk}{w:World}{A:HN}{E:Value->B2->Prop}{s:B2}{l:Addr}{its:Array Value}{Q:Value->B2->Prop}(hl:s.heap.IsTuple l its)
  (h:∀s₂:B2,(∀b o,b∉[s.heap.objs.size]->s.heap.get? b=some o->s₂.heap.get? b=some o)->s₂={ s with heap:=s₂.heap }->s₂.heap.IsTupleIter s.heap.objs.size l 0->s₂.heap.IsTuple l its->(∀b∈[s.heap.objs.size,l],b<s₂.heap.objs.size)->l≠s.heap.objs.size->Q (.ref s.heap.objs.size) s₂):wpAny (model prog w) A (MM (.ref l)) Q E s:=by
 have hlt:l<s.heap.objs.size:=by obtain⟨_,e,_⟩:=hl; exact DD e
 refine Ji hl (h _ (λb o _ e=>Ap _ e) rfl ⟨_,Ee _ rfl,rfl,rfl⟩ (hl.push _) ?_ (FC hlt))
 intro b hb;rw[IA];rcases lK hb with e | hb
 ·rw[e]; exact L7 _
 ·rw[Ch.mp hb]; exact J8 hlt
end
section
variable{prog:Fk}{w:World}{A:HN}{R:OZ->B2->Prop}{I S:Addr}{fp wr:List Addr}{n:Nat}{P:Nat->Value->Prop}{St:Nat->Heap->Prop}{bt:Nat->Nat->Bool}{kw:List (Str×Value)}
abbrev yZ(h:Heap)(S:Addr)(xs:Array Value)(c:Nat):Prop:=h.get? S=some { cls:=.type "list",dict:=none,data:=.seq xs c,slots:=#[] }
abbrev kN(wr:List Addr)(S:Addr)(h h':Heap):Prop:=∀b o,b∉wr->b≠S->h.get? b=some o->h'.get? b=some o
theorem qc:(toString "max" ++ toString ".loop" : String) = "max.loop" := by decide
theorem loopK(W:Walks prog w A.in1 I fp wr n P St)(hcmp:CmpOf prog w A.in1 .Gt P bt)(hSf:S∉fp) :
  ∀(k j:Nat)(s:B2)(vb:Value)(c:Nat),n=j+1+k->St (j+1) s.heap->P (Mx bt j) vb->yZ s.heap S #[vb,vb] c ->
   (∀v h' tk,P (Mx bt (n-1)) v->kN wr S s.heap h'->R (.ok (.ret v)) { s with heap:=h',toks:=tk })->Js (model prog w) A (.builtin "max.loop" ⟨[.ref I,.none,.ref S],kw⟩) R s:=by
 have hSw:S∉wr:=λh=>hSf (W.sub _ h)
 intro k
 induction k with
 |zero=>
  intro j s vb c hn st hb hS hR;refine JH Ni (by
   rw[JG KA _];show wpAny _ A.in1 (Ny (.ref S) >>= _) _ _ s;refine AC (J1 hS rfl (AC (Mf (W.done s _ _ (by rw[hn]; exact st) λh' tk kp=>?_))))
   have hS':yZ h' S #[vb,vb] c:=kp S _ hSw hS;show wpAny _ A.in1 (updateSeq S (λ_=> #[]) >>= _) _ _ _
   exact AC (OG hS' rfl (AC (LI (At (hR vb _ tk (by rw[hn]; exact hb) λb o h1 h2 e=>by
    rw[Iw _ _ (K8 h2)];exact kp b o h1 e))))))
 |succ k ih=>
  intro j s vb c hn st hb hS hR;refine JH Ni (by
   rw[JG KA _];show wpAny _ A.in1 (Ny (.ref S) >>= _) _ _ s;refine AC (J1 hS rfl (AC (Mf (W.item (j+1) s _ _ (by lia) st λv h' tk hv st' kp=>?_))))
   have hS':yZ h' S #[vb,vb] c:=kp S _ hSw hS;show wpAny _ A.in1 (tryCatch (L3 [v,v] (Q7 .Gt v vb >>= _)) _ >>= _) _ _ _;refine AC (Mf (HW (AC (hcmp (j+1) (Mx bt j) v vb _ _ _ hv hb (AC (HW (Jz (AC (LI (At ?_))))))))))
   by_cases hc:bt (j+1) (Mx bt j)=true
   ·rw[if_pos hc]
    refine AC (OG hS' rfl (AC (LI ?_)));rw[qc];exact At ⟨Ko KA _,ih (j+1) _ v _ (by lia) (W.frame _ _ _ st' λb hf o e=>by
     rw[Iw _ _ (λh:S=b=>hSf (h▸hf))]; exact e) (by unfold Mx; rw[if_pos hc]; exact hv) (Jt _ hS' rfl) λv2 h2 t2 p2 k2=>hR v2 h2 t2 p2 λb o h1 h3 e=>k2 b o h1 h3 (by
      rw[Iw _ _ (K8 h3)]; exact kp b o h1 e)⟩
   ·rw[if_neg hc]
    refine AC (LI ?_);rw[qc];exact At ⟨Ko KA _,ih (j+1) _ vb c (by lia) st' (by unfold Mx; rw[if_neg hc]; exact hb) hS' λv2 h2 t2 p2 k2=>hR v2 h2 t2 p2 λb o h1 h3 e=>k2 b o h1 h3 (kp b o h1 e)⟩)
theorem Et{key:Str}{d:Value}(W:Walks prog w A.in1 I fp wr n P St)(hcmp:CmpOf prog w A.in1 .Gt P bt)(hSf:S∉fp){s:B2}{c:Nat}(st:St 0 s.heap)(hS:yZ s.heap S #[] c)
  (hR:n≠0->∀v h' tk,P (Mx bt (n-1)) v->kN wr S s.heap h'->R (.ok (.ret v)) { s with heap:=h',toks:=tk }) (hD:n=0->∀h' tk,kN wr S s.heap h'->R (.ok (.ret d)) { s with heap:=h',toks:=tk }) :
  Js (model prog w) A (.builtin "max.loop" ⟨[.ref I,.none,.ref S],[(key,d)]⟩) R s:=by
 have hSw:S∉wr:=λh=>hSf (W.sub _ h)
 refine JH Ni (by
  rw[JG KA _];show wpAny _ A.in1 (Ny (.ref S) >>= _) _ _ s;refine AC (J1 hS rfl (AC (Mf ?_)))
  by_cases hn:n=0
  ·refine W.done s _ _ (by rw[hn]; exact st) λh' tk kp=>?_
   show wpAny _ A.in1 (rule _ >>= λ_=>ret d) _ _ _
   refine AC (Ii ?_);exact At (hD hn h' tk λb o h1 _ e=>kp b o h1 e)
  ·refine W.item 0 s _ _ (Nat.pos_of_ne_zero hn) st λv h' tk hv st' kp=>?_
   have hS':yZ h' S #[] c:=kp S _ hSw hS;show wpAny _ A.in1 (updateSeq S (λ_=> #[v,v]) >>= _) _ _ _
   refine AC (OG hS' rfl ?_);rw[qc];exact At ⟨Ko KA _,loopK W hcmp hSf (n-1) 0 _ v _ (by lia) (W.frame _ _ _ st' λb hf o e=>by
    rw[Iw _ _ (λh:S=b=>hSf (h▸hf))]; exact e) hv (Jt _ hS' rfl) λv2 h2 t2 p2 k2=>hR hn v2 h2 t2 p2 λb o h1 h3 e=>k2 b o h1 h3 (by
     rw[Iw _ _ (K8 h3)]; exact kp b o h1 e)⟩)
end
section
variable{prog:Fk}{w:World}{A:HN}{E:Value->B2->Prop}{s:B2}
theorem okDef(a v:Value):Pd "max" ⟨[a],[(Jf "default",v)]⟩:=by unfold Pd; kernel_rfl
theorem oG{x d:Value}{Q:Value->B2->Prop}
  (h:wpAny (model prog w) A.in1 (MM x) (λit s₂=>∃I fp wr n P St bt,it=.ref I/\Walks prog w A.in1 I fp wr n P St/\St 0 s₂.heap/\(∀b∈fp,b<s₂.heap.objs.size)/\CmpOf prog w A.in1 .Gt P bt /\
   (n≠0->∀v h' tk,P (Mx bt (n-1)) v->(∀b o,b∉wr->s₂.heap.get? b=some o->h'.get? b=some o)->Q v { s₂ with heap:=h',toks:=tk }) /\
   (n=0->∀h' tk,(∀b o,b∉wr->s₂.heap.get? b=some o->h'.get? b=some o)->Q d { s₂ with heap:=h',toks:=tk })) E s) :
  wpAny (model prog w) A (call (.builtin "max") [x] [(Jf "default",d)]) Q E s:=by
 refine kmb_tree F.kind_max F.plain_max F.entry_max (okDef _ _) ?_;show wpAny _ A.in1 (MF "max" ["key", "default"] 0 ⟨[],[(Jf "default",d)]⟩ >>= _) _ _ s;refine AC (Mh (show MF "max" ["key", "default"] 0 ⟨[],[(Jf "default",d)]⟩=pure [none,some d] from rfl) (AC (At (AC (J3 h (λit s₂ h₂=>?_) λ_ _ e=>e)))))
 obtain⟨I,fp,wr,n,P,St,bt,rfl,W,st,hfp,hcmp,q1,q2⟩:=h₂;refine AC (HQ ?_);have hSf:s₂.heap.objs.size∉fp:=λhm=>Jx _ (hfp _ hm)
 have old:∀{h':Heap}{o0:Obj},kN wr s₂.heap.objs.size (s₂.heap.push o0) h'->∀b o,b∉wr->s₂.heap.get? b=some o->h'.get? b=some o:=λk b o hb e=>k b o hb (FC (DD e)) (Ap _ e)
 rw[qc];exact At ⟨Ko KA _,Et W hcmp hSf (W.frame _ _ _ st λb _ o e=>Ap _ e) (Ee _ rfl) (λhn v h' tk hv k=>q1 hn v h' tk hv (old k)) λhn h' tk k=>q2 hn h' tk (old k)⟩
end
section
variable{X:Cx}{i:Int}{r:List V->Hp->VK->Prop}
def uR(X:Cx)(i:Int)(r:List V->Hp->VK->Prop):Prop :=
 ∀(pins:List (Addr×Obj))(s:B2)(σ:L2.St)(H:Hp)(xs:List V)(us:List Value)(Q:VK)(t:Tok),Inv X pins σ H s->Vals xs us->r xs H Q ->
  wpAny (model X.prog X.w) X.A (call (.builtin "max") us [(Jf "default",.int i t)]) (EP X pins σ Q) X.xe s
theorem Bw{x:Str}{p p2 kp pos:Pos}{e:Expr}{es:List Expr}{t:TA}{j:Nat}(hc:uR X i r)(hg:Gl X x)(hm:X.mg x=none)(hv:JI x=some (.builtin "max"))(ha:PA X (e::es) t)(hn:x ≠ "__name__" := by decide)(hdb:(x == ("__debug__" : Str))=false:=by decide)
  (he:K6 pos (FK (e::es) X.env)=(false,eval e X.env)::K6 pos (FK es X.env):=by rfl) (hpl:(K6 pos (FK (e::es) X.env)).any (·.1)=false:=by rfl) :
  PE X (.Call (.Name x p) (e::es) [⟨some "default",.Constant (.int i) j p2,kp⟩] pos) (Fw r t):=by
 intro pins s σ H Q I h;refine Jj (eB I hg hm hv ?_ hn hdb);exact callWith_kw (aZ (ha pos pins s σ H _ I h) λus s1 ⟨vs,H1,I1,r1,q1⟩=>kws_cons (Qd (kws_nil (hc pins _ σ H1 vs us Q _ (I1.tok _) r1 q1)))) he hpl
theorem mG(hc:X.calm=true):uR X i (λxs H Q=>∃p,∃ns:List Int,xs=[.ref p]/\fj X.K H p (ns.map V.int)/\(ns=[]->Q (.int i) H)/\∀M:Int,M∈ns->(∀a,a∈ns->a<=M)->Q (.int M) H):=by
 intro pins s σ H xs us Q td I r ⟨p,ns,exs,hq,q0,q⟩;subst exs;obtain⟨u,rfl,rx⟩:=vals1 r;cases rx;obtain⟨its,rv,pl,hz⟩:=I.list hq;have hi:=intsAre_of rv;obtain⟨xs,e⟩:=hi.allInts.items;have hp:=pl.isList;have hn:xs.toList.map (·.1)=ns:=by
  rw[<-hi.numsOf,<-nums_intItems (xs:=xs),<-e]
 rw[e] at hp;have hlen:ns.length=xs.size:=by rw[<-hn,D1,Dx]
 have hsz:(LL xs).size=xs.size:=by simp[LL]
 refine oG (iter_intList hp λs₂ e2 st hfp hlI=>?_)
 subst e2;refine⟨_,_,_,(LL xs).size,λi v=>(LL xs)[i]? = some v,_,λi j=>decide (numAt xs i>numAt xs j),rfl,Ox (A:=X.A.in1) (show X.A.in1.handled=none from I.ok.hd hc) _ p hlI (LL xs),st,hfp,QS (numAt xs) (λ_ _=>OB),λhne v h' tk hv hk=>?_,λhz h' tk hk=>?_⟩
 ·rw[hsz] at hv hne
  obtain⟨t,rfl⟩:=OB hv;obtain⟨h1,h2⟩:=argBest_gt (numAt xs) (xs.size-1);refine⟨.int _,H,I.kept (t':=tk) (old_kept hk),⟨t,rfl⟩,q _ ?_ λa ha=>?_⟩
  ·rw[Q8,hn]; exact Q9 (by lia)
  ·obtain⟨j,hj,rfl⟩:=mem_getD ha
   rw[<-hn,<-Q8];exact h2 j (by lia)
 ·exact⟨.int i,H,I.kept (t':=tk) (old_kept hk),⟨td,rfl⟩,q0 (Ls.mp (by lia))⟩
theorem nL(hc:X.calm=true):uR X i (λxs H Q=>∃p,∃ns:List Int,xs=[.ref p]/\cI X.K H p (ns.map V.int)/\(ns=[]->Q (.int i) H)/\∀M:Int,M∈ns->(∀a,a∈ns->a<=M)->Q (.int M) H):=by
 intro pins s σ H xs us Q td I r ⟨p,ns,exs,hq,q0,q⟩;subst exs;obtain⟨u,rfl,rx⟩:=vals1 r;cases rx;obtain⟨its,rv,pl,hz⟩:=I.tuple hq;have hi:=intsAre_of rv;obtain⟨xs,e⟩:=hi.allInts.items;have hp:s.heap.IsTuple p its.toArray:=pl;have hn:xs.toList.map (·.1)=ns:=by
  rw[<-hi.numsOf,<-nums_intItems (xs:=xs),<-e]
 rw[e] at hp;have hlen:ns.length=xs.size:=by rw[<-hn,D1,Dx]
 have hsz:(LL xs).size=xs.size:=by simp[LL]
 refine oG (yY hp λs₂ k2 e2 st1 st2 hfp hnp=>?_)
 have hk2:∀{h':Heap},(∀b o,b∉[s.heap.objs.size]->s₂.heap.get? b=some o->h'.get? b=some o)->∀b o,s.heap.get? b=some o->h'.get? b=some o:=λhk b o eb=>by
  have hb:b∉[s.heap.objs.size]:=λhm=>absurd (Ch.mp hm▸DD eb) (Jx _)
  exact hk b o hb (k2 b o hb eb)
 refine⟨_,_,_,(LL xs).size,λi v=>(LL xs)[i]? = some v,_,λi j=>decide (numAt xs i>numAt xs j),rfl,Walks.tuple (A:=X.A.in1) (show X.A.in1.handled=none from I.ok.hd hc) _ p hnp (LL xs),(show _/\_ from⟨st1,st2⟩),hfp,QS (numAt xs) (λ_ _=>OB),λhne v h' tk hv hk=>?_,λhz h' tk hk=>?_⟩
 ·rw[hsz] at hv hne
  obtain⟨t,rfl⟩:=OB hv;obtain⟨h1,h2⟩:=argBest_gt (numAt xs) (xs.size-1);rw[e2];refine⟨.int _,H,I.kept (t':=tk) (hk2 hk),⟨t,rfl⟩,q _ ?_ λa ha=>?_⟩
  ·rw[Q8,hn]; exact Q9 (by lia)
  ·obtain⟨j,hj,rfl⟩:=mem_getD ha
   rw[<-hn,<-Q8];exact h2 j (by lia)
 ·rw[e2]
  exact⟨.int i,H,I.kept (t':=tk) (hk2 hk),⟨td,rfl⟩,q0 (Ls.mp (by lia))⟩
noncomputable def uS(i:Int)(ds:List B1):Option M:=(gu ds).bind λns=>some (.v (.int ((j8 ns).getD i)))
noncomputable def mH(i:Int):List M->Option M
 |[m]=>match lN m with
  |some ds=>uS i ds
  |none=>(yd m).bind (uS i)
 |_=>none
theorem wJ:∀{ns:List Int},j8 ns=none->ns=[]
 |[],_=>rfl
 |n::ns,e=>by unfold j8 at e; split at e <;> cases e
theorem qY{ns:List Int}{Q:Int->Prop}(q:Q ((j8 ns).getD i)):(ns=[]->Q i)/\∀M:Int,M∈ns->(∀a,a∈ns->a<=M)->Q M:=by
 refine⟨λe=>by subst e; exact q,λM h1 h2=>?_⟩
 cases e:j8 ns with
 |none=>rw[wJ e] at h1; cases h1
 |some k=>
  rw[e] at q;obtain⟨k1,k2⟩:=oF e;have:M=k:=Int.le_antisymm (k2 M h1) (h2 k k1);rw[this];exact q
theorem Bx(hc:X.calm=true):uR X i (v8 X.K (mH i)):=by
 intro pins s σ H xs us Q td I rs h;obtain⟨Z,ms,m,za,hr,e,q⟩:=h;unfold mH at e
 split at e
 ·split at e
  ·next ds e1=>
   obtain⟨ns,e2,e⟩:=oB e;cases e;obtain⟨x,rfl,h1⟩:=gI hr;obtain⟨a,ys,rfl,hx,fx⟩:=h1.lN e1;rw[bP e2] at fx;rw[fx.cK] at hx;obtain⟨q1,q2⟩:=qY (i:=i) (Q:=λk=>Q (.int k) H) (cH q za (.int _))
   exact mG hc pins s σ H _ us Q td I rs ⟨a,ns,rfl,hx,q1,q2⟩
  ·obtain⟨ds,e1,e⟩:=oB e
   obtain⟨ns,e2,e⟩:=oB e;cases e;obtain⟨x,rfl,h1⟩:=gI hr;obtain⟨a,ys,rfl,hx,fx⟩:=h1.yd e1;rw[bP e2] at fx;rw[fx.cK] at hx;obtain⟨q1,q2⟩:=qY (i:=i) (Q:=λk=>Q (.int k) H) (cH q za (.int _))
   exact nL hc pins s σ H _ us Q td I rs ⟨a,ns,rfl,hx,q1,q2⟩
 ·cases e
theorem uT{x:Str}{p p2 kp pos:Pos}{e:Expr}{es:List Expr}{fa:FA}{j:Nat}(hc:X.calm=true)(hg:Gl X x)(hm:X.mg x=none)(hv:JI x=some (.builtin "max"))(ha:WA X (e::es) fa)(hn:x ≠ "__name__" := by decide)(hdb:(x == ("__debug__" : Str))=false:=by decide)
  (he:K6 pos (FK (e::es) X.env)=(false,eval e X.env)::K6 pos (FK es X.env):=by rfl) (hpl:(K6 pos (FK (e::es) X.env)).any (·.1)=false:=by rfl) :
  WE X (.Call (.Name x p) (e::es) [⟨some "default",.Constant (.int i) j p2,kp⟩] pos) (fW (mH i) fa):=⟨bg (Bw (Bx hc) hg hm hv ha.h hn hdb he hpl) λ_ _ _=>many yc⟩
end
section
variable{X:Cx}{pos:Pos}
noncomputable def wK:=iB (λi j=>decide ((IP i:Int)+IP j<=2 ^ 20)) λi j=>.int (i*j)
theorem By:dO X (J9 .Mult) (rI (λi j=>(IP i:Int)+IP j<=2 ^ 20) λi j=>.int (i*j)):=Fc λi j _ _ _ _ _ hc q=>mul_int q (by
 unfold IntMulOk Builtin.Int.intTooBig;have h:¬ ((IP i:Int)+IP j>bitsLine):=by
  have:(2:Int) ^ 20<=(bitsLine:Int):=by decide
  lia
 simp;intro _ _;lia)
theorem uU:dO X (J9 .Mult) (rM X.K wK):=lP By (λi j h=>of_decide_eq_true h) λ_ _ _ _=>.int _
end
noncomputable def fQ(fg:FG)(ft:FT)(i8:FI)(fg2:FG)(iZ:FT)(fe:FE):List B1->Ev->List B1->Option (List B1×Ev)
 |[],ρ,acc=>some (acc,ρ)
 |d::ds,ρ,acc=>(fg d ρ).bind λρ1=>(ft ρ1).bind λt=>if t.1=true then
  (i8 t.2).bind λp=>(bz fg2 iZ fe p.1 p.2 acc).bind λq=>fQ fg ft i8 fg2 iZ fe ds q.2 q.1
  else fQ fg ft i8 fg2 iZ fe ds t.2 acc
end VL
end
section
namespace L2
open PySem PySem.Spec PyProof.Rows
end L2
end
section
namespace VL
open PySem PySem.Spec L2 PyProof.Rows
end VL
end
section
namespace L2
open PySem PySem.W PyProof.Rows PySem.Calls
end L2
end
section
namespace VL
open PySem PySem.Spec L2 PyProof.Rows
section
variable{X:Cx}{pos:Pos}{pin:List Nat}
noncomputable def mJ(n:Nat)(js:List Nat)(i:Nat)(fg:FG)(ft:FT)(fe:FE):FE:=λρ=>match ck ρ i with
 |some (.lst ds)=>if i∈js then none else (caps ρ js).bind λos=>(bQ os ρ).bind λq=>
  (bz fg ft fe ds (D2 n none++q.1.map some) []).bind λr=>(fin (D2 js.length true) q.1 (r.2.drop n)).bind λms'=>some (.t (.lst r.1),eT os ms' q.2)
 |_=>nh n js (cD (aa i)) fg ft fe ρ
structure ItAt(K:AT)(J:It)(H:Hp)(Z:Zs)(a:Addr)(xs:List V)(ds:List B1):Prop where
 go:∀H2 Z2,aJ H Z H2 Z2->H2 a=some (.lst xs)->∀k d,ds[k]? = some d->J.go k H2/\∀x H',J.yld k H2 x H'->bA H2 H'/\Fz K H' Z2 x d
 stop:∀H2 Z2,aJ H Z H2 Z2->H2 a=some (.lst xs)->∀k,ds.length<=k->J.stop k H2
theorem it_at{K:AT}{H:Hp}{Z:Zs}{a:Addr}{xs:List V}{ds:List B1}(r:bD K H Z xs ds):ItAt K (Fv K a) H Z a xs ds:=by
 refine⟨λH2 Z2 g e k d hd=>?_,λH2 Z2 g e k hk=>⟨xs,fj.of e,by rw[r.length]; exact hk⟩⟩
 obtain⟨x,hx,fx⟩:=(r.mono g).get' hd;exact⟨⟨xs,x,fj.of e,hx⟩,λy H' ⟨hH,hy⟩=>by
  subst hH;have:=hy xs (fj.of e);rw[hx] at this;cases this;exact⟨bA.refl _,fx⟩⟩
theorem qZ{ρ:Ev}:∀{js:List Nat}{os:List cN},caps ρ js=some os->∀j,cN.p j∈os->j∈js
 |[],_,e,j,h=>by cases e; cases h
 |k::js,_,e,j,h=>by
  obtain⟨o,e1,e⟩:=oB e;obtain⟨os,e2,e⟩:=oB e;cases e;rcases lK h with z | z
  ·subst z
   unfold cap at e1
   split at e1
   ·cases e1
   ·cases e1; exact lS
   ·cases e1
  ·exact lO _ (qZ e2 j z)
theorem q9{ρ:Ev}:∀{js:List Nat}{os:List cN},caps ρ js=some os->∀j k,cN.q j k∉os
 |[],_,e,j,k,h=>by cases e; cases h
 |k'::js,_,e,j,k,h=>by
  obtain⟨o,e1,e⟩:=oB e;obtain⟨os,e2,e⟩:=oB e;cases e;rcases lK h with z | z
  ·subst z
   unfold cap at e1
   split at e1 <;> cases e1
  ·exact q9 e2 j k z
theorem y9{ρ:Ev}{i j:Nat}(h:i≠j):ck (ρ.set j none) i=ck ρ i:=by
 unfold ck;rw[MK (K8 h)]
theorem tF{i:Nat}:∀{os:List cN}{ρ ρ':Ev}{ms:List M},(∀j,cN.p j∈os->i≠j)->(∀j k,cN.q j k∉os)->bQ os ρ=some (ms,ρ')->ck ρ' i=ck ρ i:=by
 intro os
 induction os with
 |nil=>intro ρ ρ' ms _ _ e; cases e; rfl
 |cons o os ih=>
  intro ρ ρ' ms h hq e;have h':=λj hj=>h j (lO _ hj)
  have hq':=λj k hj=>hq j k (lO _ hj)
  cases o with
  |t m=>
   have e:(bQ os ρ).bind _=_:=e;obtain⟨⟨ms,ρ1⟩,e1,e⟩:=oB e;cases e;exact ih h' hq' e1
  |p k=>
   obtain⟨m,e0,e⟩:=oB e;obtain⟨⟨ms,ρ1⟩,e1,e⟩:=oB e;cases e;rw[ih h' hq' e1,y9 (h k lS)]
  |q j k=>exact absurd lS (hq j k)
theorem rf{i:Nat}{js:List Nat}{os:List cN}{ρ ρ':Ev}{ms:List M}(hi:i∉js)(h1:caps ρ js=some os)(h2:bQ os ρ=some (ms,ρ')):ck ρ' i=ck ρ i :=
 tF (λj hj e=>hi (e▸qZ h1 j hj)) (q9 h1) h2
theorem zb{a0:Addr}{xs0:List V}{n:Nat}{pv:Pv}{fg:FG}{ft:FT}{fe:FE}{J:It}{ds:List B1}{D:Addr}{τ:L2.St}{H1:Hp}{Z1:Zs}{A:List Addr}{ρ0:Ev}{r:List B1×Ev}{Q:Hp->Prop}(hD:H1 D=none)(S:aS X.K H1 Z1 τ ρ0 A)(w:Wf H1 Z1 A)(P:Pin pv τ)(hJ:ItAt X.K J H1 Z1 a0 xs0 ds)(ha0:H1 a0=some (.lst xs0))(haA:a0∉A)(e:bz fg ft fe ds ρ0 []=some r)
  (q:∀τ' H' Z' F' xs,aS X.K H' Z' τ' r.2 F'->Pin pv τ'->H' D=some (.lst xs)->bD X.K H' Z' xs r.1->aI H1 Z1 A H' Z' (F'++[D])->Q H'):n9 (vG X.K pv fg) (vT X.K ft) (eApp D (vE X.K fe)) J τ (upd H1 D (.lst [])) Q:=by
 have n0:=aI.sN (o:=.lst []) hD w.za;exact yI (Q:=λ_=>Q) (S.news n0) P aB .nil (n0.news w S.al) (λH2 Z2 _ f=>hJ.go H2 Z2 (f.grow w) (f.keep a0 _ haA ha0)) (λH2 Z2 _ f=>hJ.stop H2 Z2 (f.grow w) (f.keep a0 _ haA ha0)) e q
theorem BA{n:Nat}{js:List Nat}{i:Nat}{fg:FG}{ft:FT}{fe:FE}{σ:L2.St}{H:Hp}{Q:VK}{fr:List (Option Nat)}{Z:Zs}{ρ:Ev}{F:List Addr}{o:cN}{ρ':Ev}{ds:List B1}(hfr:fr=D2 n none++js.map some)(S:aS X.K H Z σ ρ F)(w:Wf H Z F)(e0:ck ρ i=some (.lst ds))(e:mJ n js i fg ft fe ρ=some (o,ρ'))
  (q:∀x H' Z' F' G,aS X.K H' Z' σ ρ' F'->ng X.K H' Z' σ x o G->aI H Z F H' Z' (F'++G)->Q x H') :
  EO fr (xw X.K (dP i)) (λ_=>vG X.K (fP n js σ) fg) (λ_=>vT X.K ft) (λ_=>vE X.K fe) σ H Q:=by
 subst hfr;unfold mJ at e;rw[e0] at e;dsimp only at e
 split at e
 ·cases e
 next hij=>
 obtain⟨os,e2,e⟩:=oB e;obtain⟨⟨ms,ρh⟩,e3,e⟩:=oB e;obtain⟨⟨acc,ρi⟩,e4,e⟩:=oB e;obtain⟨ms',e5,e⟩:=oB e;cases e;obtain⟨x,G,hx,hG,_⟩:=S.get (aF.mp e0);obtain⟨a,xsa,rfl,hxa,fzx⟩:=(show Ro X.K H Z x (.lst ds) from⟨G,hG⟩).lst
 refine⟨.ref a,hx,a,rfl,⟨xsa,fj.of hxa⟩,λD hD z=>?_⟩
 obtain⟨τ,A,Fh,eτ,S0,wA,P0,h2,n3,back⟩:=gy (n:=n) S (aI.refl w) e2 e3;rw[eτ];obtain⟨x',G',g1,g2,g3⟩:=h2.get (aF.mp ((rf hij e2 e3).trans e0));rw[hx] at g1;cases g1;have haA:a∉A:=λz=>by
  cases g2 with
  |lst _ _=>exact n3 a (g3 a lS) z
 refine zb (n:=n) hD S0 wA P0 (it_at fzx) hxa haA e4 λτ' H2 Z2 F2 ys S2 P2 d2 z2 f2=>?_
 obtain⟨F4,p1,f4⟩:=back _ _ _ _ _ _ _ S2 P2 f2 e5;exact q (.ref D) H2 Z2 F4 [D] p1 (.t (.lst d2 z2)) f4
theorem Eu{n:Nat}{js:List Nat}{i:Nat}{fg:FG}{ft:FT}{fe:FE}{σ:L2.St}{H:Hp}{Q:VK}{fr:List (Option Nat)}(hfr:fr=D2 n none++js.map some)(hq:vE X.K (mJ n js i fg ft fe) σ H Q) :
  EO fr (xw X.K (dP i)) (λ_=>vG X.K (fP n js σ) fg) (λ_=>vT X.K ft) (λ_=>vE X.K fe) σ H Q\/EO fr (vI X.K (cD (aa i))) (λ_=>vG X.K (fP n js σ) fg) (λ_=>vT X.K ft) (λ_=>vE X.K fe) σ H Q:=by
 obtain⟨Z,ρ,F,o,ρ',S,w,e,q⟩:=hq;cases e0:ck ρ i with
 |none=>
  right;refine j6 hfr ⟨Z,ρ,F,o,ρ',S,w,?_,q⟩;unfold mJ at e;rw[e0] at e;exact e
 |some m=>
  cases m with
  |lst ds=>exact .inl (BA hfr S w e0 e q)
  |v d=>
   right;refine j6 hfr ⟨Z,ρ,F,o,ρ',S,w,?_,q⟩;unfold mJ at e;rw[e0] at e;exact e
  |aL d=>
   right;refine j6 hfr ⟨Z,ρ,F,o,ρ',S,w,?_,q⟩;unfold mJ at e;rw[e0] at e;exact e
  |bM d=>
   right;refine j6 hfr ⟨Z,ρ,F,o,ρ',S,w,?_,q⟩;unfold mJ at e;rw[e0] at e;exact e
theorem Ew(i:Nat)(n:Nat)(js:List Nat){elt target:Expr}{ifs:List Expr}{scope:Scope}{N:List Str}{fr:List (Option Nat)}{pinI:List Nat}{fg:FG}{ft:FT}{fe:FE}{x:Str}{px:Pos}(hv:PE X (.Name x px) (dP i))(hfr:fr=D2 n none++js.map some)(hpin:pinI=(Fa js.length).map (n + ·))(hc:X.calm=true)(S:aP X scope N fr)(hi:WI X target (.Name x px) (cD (aa i)))
  (hin:∀z:Bk,WG (ay X scope z.cl N z.C z.fp z.s z.H) pinI target fg/\WF (ay X scope z.cl N z.C z.fp z.s z.H) ifs ft/\WE (ay X scope z.cl N z.C z.fp z.s z.H) elt fe)
  (hs:∀y,HG (.Name x px) X.env y=pure y:=by intro _; rfl):WE X (.ListComp elt [⟨target,.Name x px,ifs,0⟩] scope pos) (mJ n js i fg ft fe):=⟨λpins s σ H Q I hq=>by
 rcases Eu hfr hq with h | h
 ·exact xO (g:=λ_=>vG X.K (fP n js σ) fg) (tt:=λ_=>vT X.K ft) (te:=λ_=>vE X.K fe) hc S (t9 hv) (λz=>⟨(hin z).1.h _ (iW n js σ hpin),(hin z).2.1.h,(hin z).2.2.h⟩) hs pins s σ H Q I h
 ·exact xO (g:=λ_=>vG X.K (fP n js σ) fg) (tt:=λ_=>vT X.K ft) (te:=λ_=>vE X.K fe) hc S hi.h (λz=>⟨(hin z).1.h _ (iW n js σ hpin),(hin z).2.1.h,(hin z).2.2.h⟩) hs pins s σ H Q I h⟩
end
end VL
end
section
namespace L2
open PySem PySem.Spec PyProof.Rows
section
variable{X:Cx}
theorem gB:∀{ns:List Int}{us:List Value},Vals (ns.map V.int) us->JJ us ns
 |[],_,h=>by cases h; exact .nil
 |n::ns,_,h=>by
  cases h with
  |cons r rr=>obtain⟨t,rfl⟩:=r; exact .cons _ _ (gB rr)
end
end L2
end
section
namespace VL
open PySem PySem.Spec L2 PyProof.Rows
end VL
end
section
namespace L2
open PySem PySem.W PyProof.Rows PySem.Calls
end L2
end
section
namespace L2
open PySem PySem.Spec PySem.W PyProof.Rows
end L2
end
section
namespace VL
open PySem PySem.Spec L2 PyProof.Rows
end VL
end
section
namespace L2
open PySem PySem.Spec PyProof.Rows AutoSeq1
end L2
end
section
namespace VL
open PySem PySem.Spec L2 PyProof.Rows
end VL
end
section
namespace ST
open PySem PySem.SetTable
noncomputable def fN:Nat->Nat->Nat
 |0,x=>x
 |n+1,x=>fN n (5*x+1)
theorem tG:∀(m n x:Nat),fN (n+m) x=fN m (fN n x)
 |m,0,x=>by rw[LM]; rfl
 |m,n+1,x=>by rw[Od]; exact tG m n (5*x+1)
theorem zc:∀k,∃c d,∀x,fN (2 ^ k) x=(1+2 ^ (k+2)*c)*x+2 ^ k*(1+2*d)
 |0=>⟨1,0,λx=>by show 5*x+1=_; lia⟩
 |k+1=>by
  obtain⟨c,d,h⟩:=zc k;refine⟨c+2 ^ (k+1)*(c*c),d+2 ^ k*c*(1+2*d),λx=>?_⟩
  rw[show 2 ^ (k+1)=2 ^ k+2 ^ k by rw[Jg]; lia,tG,h,h]
  rw[show 2 ^ (k+1+2)=8*2 ^ k by rw[Jg,Jg,Jg]; lia,show 2 ^ (k+2)=4*2 ^ k by rw[Jg,Jg]; lia]
  generalize 2 ^ k=p
  grind
theorem cover:∀(k x y:Nat),∃n,n<2 ^ k/\fN n x % 2 ^ k=y % 2 ^ k:=by
 intro k
 induction k with
 |zero=>
  intro x y;exact⟨0,by simp,by rw[Of,Nat.mod_one,Nat.mod_one]⟩
 |succ k ih=>
  intro x y;obtain⟨n,hn,e⟩:=ih x y;obtain⟨c,d,h⟩:=zc k;have hp:2 ^ (k+1)=2 ^ k+2 ^ k:=by rw[Jg]; lia
  have hp2:2 ^ (k+2)=4*2 ^ k:=by rw[Jg,Jg]; lia
  have hpos:0<2 ^ k:=Nat.pow_pos (by decide)
  by_cases q:fN n x % 2 ^ (k+1)=y % 2 ^ (k+1)
  ·exact⟨n,by lia,q⟩
  ·refine⟨n+2 ^ k,by lia,?_⟩
   rw[tG,h (fN n x)];generalize fN n x=z at e q;rw[hp] at q ⊢;rw[hp2];generalize 2 ^ k=p at *;have e1:(1+4*p*c)*z+p*(1+2*d)=z+p+(p+p)*(2*c*z+d):=by grind
   rw[e1,Nat.add_mul_mod_self_left];have hz:z % p+p*(z / p)=z:=QV z p;have hy:y % p+p*(y / p)=y:=QV y p;have hzp:z % p<p:=KD _ hpos;have tz:z % (p+p)=z % p\/z % (p+p)=z % p+p:=by
    have a:=KD z (show 0<p+p by lia)
    have b:z % (p+p) % p=z % p:=Pn z ⟨2,by lia⟩
    by_cases hh:z % (p+p)<p
    ·rw[Jd hh] at b; exact .inl b
    ·rw[Po (by lia),Jd (by lia)] at b; exact .inr (by lia)
   have ty:y % (p+p)=y % p\/y % (p+p)=y % p+p:=by
    have a:=KD y (show 0<p+p by lia)
    have b:y % (p+p) % p=y % p:=Pn y ⟨2,by lia⟩
    by_cases hh:y % (p+p)<p
    ·rw[Jd hh] at b; exact .inl b
    ·rw[Po (by lia),Jd (by lia)] at b; exact .inr (by lia)
   rw[P7,Jd (show p<p+p by lia)]
   rcases tz with tz | tz <;> rcases ty with ty | ty
   ·exact absurd (by rw[tz,ty,e]) q
   ·rw[tz,ty,Jd (by lia),e]
   ·rw[tz,ty,show z % p+p+p=z % p+(p+p) by lia,Nat.add_mod_right,Jd (by lia),e]
   ·exact absurd (by rw[tz,ty,e]) q
theorem tH(m:Nat):∀(n x:Nat),fN n (x % m) % m=fN n x % m
 |0,x=>by show x % m % m=x % m; rw[Nat.mod_mod]
 |n+1,x=>by
  show fN n (5*(x % m)+1) % m=fN n (5*x+1) % m;rw[<-tH m n (5*(x % m)+1),<-tH m n (5*x+1)];have:(5*(x % m)+1) % m=(5*x+1) % m:=by
   rw[P7,Nat.mul_mod,Nat.mod_mod,<-Nat.mul_mod,<-P7]
  rw[this]
noncomputable def lp(mask:Nat):Nat->Nat×Nat->Nat×Nat
 |0,q=>q
 |n+1,q=>lp mask n (leap mask q.1 q.2)
theorem zd(mask:Nat):∀(m n:Nat)(q:Nat×Nat),lp mask (n+m) q=lp mask m (lp mask n q)
 |m,0,q=>by rw[LM]; rfl
 |m,n+1,q=>by rw[Od]; exact zd mask m n _
theorem uV(mask:Nat):∀(n:Nat)(q:Nat×Nat),(lp mask n q).2=q.2 / 32 ^ n
 |0,q=>by rw[Of,Nat.div_one]; rfl
 |n+1,q=>by
  show (lp mask n (leap mask q.1 q.2)).2=_;rw[uV mask n,Jg,Og (32 ^ n) 32,<-Nat.div_div_eq_div_mul];rfl
theorem uW(mask:Nat):∀(n i:Nat),i<mask+1->(lp mask n (i,0)).1=fN n i % (mask+1)
 |0,i,h=>by show i=i % (mask+1); rw[Jd h]
 |n+1,i,h=>by
  show (lp mask n ((i*5+1+0 / 32) % (mask+1),0 / 32)).1=fN n (5*i+1) % (mask+1);rw[Nat.zero_div,Nat.add_zero,uW mask n _ (KD _ (Ku _)),tH,Og i 5]
theorem Cj(mask:Nat):∀(n:Nat)(q:Nat×Nat),q.1<mask+1->(lp mask n q).1<mask+1
 |0,q,h=>h
 |n+1,q,h=>Cj mask n _ (KD _ (Ku _))
theorem rj{mask k:Nat}(hm:mask+1=2 ^ k){i p e:Nat}(hi:i<mask+1)(hp:p<2 ^ 64)(he:e<=mask):∃n,n<mask+14/\(lp mask n (i,p)).1=e:=by
 have h13:(lp mask 13 (i,p)).2=0:=by
  rw[uV];exact Nat.div_eq_of_lt (Go hp (by decide))
 have hl:=Cj mask 13 (i,p) hi;obtain⟨n,hn,e1⟩:=cover k (lp mask 13 (i,p)).1 e;refine⟨13+n,by lia,?_⟩
 rw[zd];have:lp mask 13 (i,p)=((lp mask 13 (i,p)).1,0):=by rw[<-h13]
 rw[this,uW mask n _ hl,hm,e1,<-hm,Jd (by lia)]
theorem uX(h:Int):bits h<2 ^ 64:=by
 unfold bits;have h1:h % (2 ^ 64:Int)<2 ^ 64:=LY _ (by decide)
 have h0:0<=h % (2 ^ 64:Int):=MA _ (by decide)
 lia
noncomputable def ze(mask:Nat)(p:Probe):Probe :=
 if p.more>0 then { p with j:=p.j+1,more:=p.more-1 } else
 let (i,perturb):=leap mask p.i p.perturb
 { p with j:=i,more:=Jm mask i-i,i,perturb }
theorem zf(t:ID)(p:Probe):t.advance p=ze t.mask p:=rfl
noncomputable def ls(mask:Nat)(q:Nat×Nat):Probe:={ j:=q.1,more:=Jm mask q.1-q.1,i:=q.1,perturb:=q.2,dummy:=none }
noncomputable def at_(mask i p k:Nat):Probe:={ j:=i+k,more:=Jm mask i-(i+k),i:=i,perturb:=p,dummy:=none }
theorem iz(mask i:Nat):i<=Jm mask i:=by unfold Jm; split <;> lia
theorem tK(mask i:Nat):Jm mask i<=i+9:=by unfold Jm; split <;> lia
theorem j9{mask i:Nat}(h:i<=mask):Jm mask i<=mask:=by unfold Jm; split <;> lia
theorem Ex{mask i p k:Nat}(h:i+k<Jm mask i):ze mask (at_ mask i p k)=at_ mask i p (k+1):=by
 unfold ze at_;rw[if_pos (by show Jm mask i-(i+k)>0; lia)]
 show Probe.mk _ _ _ _ _=Probe.mk _ _ _ _ _
 congr 1
theorem uY{mask i p k:Nat}(h:i+k=Jm mask i):ze mask (at_ mask i p k)=ls mask (leap mask i p):=by
 unfold ze at_;rw[if_neg (by show ¬Jm mask i-(i+k)>0; lia)]
 rfl
noncomputable def it(mask:Nat):Nat->Probe->Probe
 |0,p=>p
 |n+1,p=>it mask n (ze mask p)
theorem eU(mask:Nat):∀(m n:Nat)(p:Probe),it mask (n+m) p=it mask m (it mask n p)
 |m,0,p=>by rw[LM]; rfl
 |m,n+1,p=>by rw[Od]; exact eU mask m n _
theorem kc{mask i p:Nat}:∀(k:Nat),i+k<=Jm mask i->it mask k (ls mask (i,p))=at_ mask i p k
 |0,_=>rfl
 |k+1,h=>by rw[eU mask 1 k,kc k (by lia)]; exact Ex (by lia)
theorem BB(mask i p:Nat):∃s,s<=10/\it mask s (ls mask (i,p))=ls mask (leap mask i p):=by
 refine⟨Jm mask i-i+1,by have:=tK mask i; lia,?_⟩
 have:=iz mask i;rw[eU mask 1 _,kc _ (by lia)]
 exact uY (by lia)
theorem Ck(mask:Nat):∀(n:Nat)(q:Nat×Nat),∃s,s<=10*n/\it mask s (ls mask q)=ls mask (lp mask n q)
 |0,q=>⟨0,Db _,rfl⟩
 |n+1,(i,p)=>by
  obtain⟨s1,h1,e1⟩:=BB mask i p;obtain⟨s2,h2,e2⟩:=Ck mask n (leap mask i p);exact⟨s1+s2,by lia,by rw[eU,e1,e2]; rfl⟩
noncomputable def start(mask:Nat)(h:Int):Probe:=ls mask (bits h % (mask+1),bits h)
theorem zg(t:ID)(h:Int):t.probeStart h=start t.mask h:=rfl
theorem zh{mask k:Nat}(hm:mask+1=2 ^ k)(h:Int){e:Nat}(he:e<=mask):∃n,n<10*(mask+14)/\(it mask n (start mask h)).j=e:=by
 obtain⟨n,hn,e1⟩:=rj hm (i:=bits h % (mask+1)) (p:=bits h) (KD _ (Ku _)) (uX h) he;obtain⟨s,hs,e2⟩:=Ck mask n (bits h % (mask+1),bits h);exact⟨s,by lia,by unfold start; rw[e2]; exact e1⟩
theorem least{P:Nat->Prop}:∀n,P n->∃m,m<=n/\P m/\∀k,k<m->¬P k:=by
 intro n
 induction n using QU with
 |ind n ih=>
  intro h
  by_cases q:∃k,k<n/\P k
  ·obtain⟨k,hk,pk⟩:=q
   obtain⟨m,a,b,c⟩:=ih k hk pk;exact⟨m,by lia,b,c⟩
  ·exact⟨n,Db _,h,λk hk pk=>q ⟨k,hk,pk⟩⟩
def Way(mask:Nat)(ne:Nat->Prop)(h:Int)(j:Nat):Prop:=∃m,(it mask m (start mask h)).j=j/\∀k,k<m->ne (it mask k (start mask h)).j
theorem Way.mono{mask:Nat}{ne ne':Nat->Prop}{h:Int}{j:Nat}(w:Way mask ne h j)(hm:∀j,ne j->ne' j):Way mask ne' h j:=by
 obtain⟨m,a,b⟩:=w;exact⟨m,a,λk hk=>hm _ (b k hk)⟩
def i6(xs:Array Nat):Prop:=xs.toList.Pairwise (· < ·)
theorem i6.lt{xs:Array Nat}(h:i6 xs){a b x y:Nat}(hab:a<b)(ha:xs[a]? = some x)(hb:xs[b]? = some y):x<y:=by
 rw[<-H9] at ha hb;obtain⟨h1,e1⟩:=Da.mp ha;obtain⟨h2,e2⟩:=Da.mp hb;have:=IJ.mp h a b h1 h2 hab;rw[e1,e2] at this;exact this
theorem mK{xs:Array Nat}{j:Nat}(hr:i6 xs):∀(f lo hi:Nat),hi-lo<=f->lo<=hi->hi<=xs.size->(∀k x,k<lo->xs[k]? = some x->x<j)->(∀k x,hi<=k->xs[k]? = some x->j<=x) ->
  OY xs j f lo hi<=xs.size/\(∀k x,k<OY xs j f lo hi->xs[k]? = some x->x<j)/\(∀k x,OY xs j f lo hi<=k->xs[k]? = some x->j<=x)
 |0,lo,hi,hf,hl,hs,h1,h2=>by
  have:lo=hi:=by lia
  subst this;exact⟨hs,h1,h2⟩
 |f+1,lo,hi,hf,hl,hs,h1,h2=>by
  unfold OY
  by_cases hlt:lo<hi
  ·rw[if_pos hlt]
   dsimp only;have hm:(lo+hi) / 2<xs.size:=by lia
   have eg:xs.getD ((lo+hi) / 2) j=xs[(lo+hi) / 2]:=by simp[Jk,hm]
   have eg':xs[(lo+hi) / 2]? = some (xs.getD ((lo+hi) / 2) j):=by rw[eg]; simp[hm]
   by_cases hx:xs.getD ((lo+hi) / 2) j<j
   ·rw[if_pos hx]
    refine mK hr f ((lo+hi) / 2+1) hi (by lia) (by lia) hs (λk x hk e=>?_) h2
    by_cases hk':k=(lo+hi) / 2
    ·subst hk'; rw[eg'] at e; cases e; exact hx
    ·have:=hr.lt (show k<(lo+hi) / 2 by lia) e eg'
     lia
   ·rw[if_neg hx]
    refine mK hr f lo ((lo+hi) / 2) (by lia) (by lia) (by lia) h1 (λk x hk e=>?_)
    by_cases hk':k=(lo+hi) / 2
    ·subst hk'; rw[eg'] at e; cases e; lia
    ·have:=hr.lt (show (lo+hi) / 2<k by lia) eg' e
     lia
  ·rw[if_neg hlt]
   have:lo=hi:=by lia
   subst this;exact⟨hs,h1,h2⟩
theorem gC{xs:Array Nat}(hr:i6 xs)(j:Nat):below xs j<=xs.size/\(∀k x,k<below xs j->xs[k]? = some x->x<j)/\(∀k x,below xs j<=k->xs[k]? = some x->j<=x):=by
 unfold below;exact mK hr _ _ _ (by lia) (HS _) (Db _) (λk x h=>by lia) (λk x h e=>by
  obtain⟨h',_⟩:=JP.mp e;lia)
theorem below_at{xs:Array Nat}(hr:i6 xs){i j:Nat}(h:xs[i]? = some j):below xs j=i:=by
 obtain⟨a,b,c⟩:=gC hr j;rcases Li (below xs j) i with q | q | q
 ·obtain⟨h',_⟩:=JP.mp h
  have e:xs[below xs j]? = some (xs[below xs j]'(by lia)):=by simp[show below xs j<xs.size by lia]
  have h1:=hr.lt q e h;have h2:=c _ _ (Db _) e;lia
 ·exact q
 ·have:=b i j q h
  lia
theorem tL{xs:Array Nat}(hr:i6 xs){i j:Nat}(h:xs[i]? = some j):below xs (j+1)=i+1:=by
 obtain⟨a,b,c⟩:=gC hr (j+1);obtain⟨h',_⟩:=JP.mp h;rcases Li (below xs (j+1)) (i+1) with q | q | q
 ·have:=c i j (by lia) h
  lia
 ·exact q
 ·have e:xs[i+1]? = some (xs[i+1]'(by lia)):=by simp[show i+1<xs.size by lia]
  have h1:=hr.lt (L7 i) h e;have h2:=b _ _ q e;lia
theorem tM{xs:Array Nat}(hr:i6 xs):below xs 0=0:=by
 obtain⟨a,b,c⟩:=gC hr 0;rcases Kl (below xs 0) with q | q
 ·exact q
 ·have e:xs[0]? = some (xs[0]'(by lia)):=by simp[show 0<xs.size by lia]
  have:=b 0 _ q e;lia
section
variable{t:ID}
def Tk(t:ID)(j:Nat):Prop:=j∈t.place.toList
theorem mL(hr:i6 t.place)(hd:t.dummies = #[])(j:Nat):(∃i,t.slot j=.live i/\t.place[i]? = some j)\/(t.slot j=.empty/\¬Tk t j):=by
 unfold slot;dsimp only
 by_cases h:t.place[below t.place j]? = some j
 ·exact .inl ⟨_,by rw[h]; simp,h⟩
 ·refine .inr ⟨?_,λhm=>?_⟩
  ·rw[if_neg (by simpa using h),hd,if_neg (by unfold has; simp)]
  ·obtain⟨i,hi,e⟩:=HV hm
   have e:t.place[i]? = some j:=by rw[<-H9,Bi hi,e]
   rw[below_at hr e] at h;exact h e
theorem gc(hr:i6 t.place){i j:Nat}(h:t.place[i]? = some j):t.slot j=.live i:=by
 unfold slot;dsimp only;rw[below_at hr h,h];simp
theorem Cm{i j:Nat}(h:t.place[i]? = some j):Tk t j:=by
 unfold Tk;rw[<-H9] at h;obtain⟨h1,e⟩:=Da.mp h;rw[<-e]; exact He h1
end
theorem zj{xs:Array Nat}(hr:i6 xs){j:Nat}(hj:j∉xs.toList):i6 (K1 xs (below xs j) j):=by
 unfold i6;rw[LN];obtain⟨a,b,c⟩:=gC hr j;have low:∀x∈xs.toList.take (below xs j),x<j:=λx hx=>by
  obtain⟨i,hi,e⟩:=HV hx;rw[Gc] at hi;rw[KM] at e;exact b i x (by lia) (by rw[<-H9,Bi (by lia),e])
 have up:∀x∈xs.toList.drop (below xs j),j<x:=λx hx=>by
  have hx':x∈xs.toList:=Jh hx;obtain⟨i,hi,e⟩:=HV hx;rw[HI] at hi;rw[N6] at e;have:=c (below xs j+i) x (by lia) (by rw[<-H9,Bi (by lia),e])
  rcases Mv this with q | q
  ·exact q
  ·subst q; exact absurd hx' hj
 have hp:(xs.toList.take (below xs j)++xs.toList.drop (below xs j)).Pairwise (· < ·):=by rw[FV]; exact hr
 obtain⟨p1,p2,p3⟩:=Fm.mp hp;refine Fm.mpr ⟨p1,Ip.mpr ⟨λx hx=>up x hx,p2⟩,λx hx y hy=>?_⟩
 rcases lK hy with rfl | hy
 ·exact low x hx
 ·exact p3 x hx y hy
theorem tN{α β:Type}{xs:Array α}{ys:Array β}(hl:xs.size=ys.size)(p:Nat)(x:α)(y:β){q:α×β}(h:q∈(K1 xs p x).toList.zip (K1 ys p y).toList):q=(x,y)\/q∈xs.toList.zip ys.toList:=by
 rw[LN,LN,QL (by simp[hl]),Jb] at h
 have e:xs.toList.zip ys.toList=(xs.toList.take p).zip (ys.toList.take p)++(xs.toList.drop p).zip (ys.toList.drop p):=by
  rw[<-QL (by simp[hl]),FV,FV]
 rw[e];rcases lM h with h | h
 ·exact .inr (lL _ h)
 ·rcases lK h with h | h
  ·exact .inl h
  ·exact .inr (lR _ h)
structure ef(t:ID)(es:Array (Int×Value)):Prop where
 size:t.place.size=es.size
 rise:i6 t.place
 dum:t.dummies = #[]
 room:t.place.size*5<t.mask*3
 pow:∃k,t.mask+1=2 ^ k
 ge:7<=t.mask
 le:t.mask<=8*es.size+7
 inb:∀j,Tk t j->j<=t.mask
 way:∀q∈t.place.toList.zip es.toList,Way t.mask (Tk t) q.2.1 q.1
 plain:t.plain=true
theorem ef.fits{t:ID}{es:Array (Int×Value)}(T:ef t es):t.fits es.size=true:=by
 unfold Pf Pg;have:=T.room;rw[T.dum,T.size];simp only[beq_self_eq_true,MZ,decide_eq_true_eq];rw[T.size] at this;show es.size+0<=t.mask;lia
theorem oH(led:Bool):ef (.fresh 0 0 led) #[] where
 size:=rfl
 rise:=.nil
 dum:=rfl
 room:=by show 0*5<7*3; decide
 pow:=⟨3,rfl⟩
 ge:=Db _
 le:=Db _
 inb:=λj h=>by cases h
 way:=λq h=>by cases h
 plain:=rfl
theorem ef.free{t:ID}{es:Array (Int×Value)}(T:ef t es):∃e,e<=t.mask/\¬Tk t e:=by
 refine IH λhn=>?_
 have all:∀e,e∈Fa (t.mask+1)->e∈t.place.toList:=λe he=>by
  refine IH λq=>hn ⟨e,?_,q⟩
  have:=Iq.mp he;lia
 have:=(List.nodup_range (n:=t.mask+1)).length_le_of_subset all;rw[IV,Dx] at this;have:=T.room;lia
theorem ef.first{t:ID}{es:Array (Int×Value)}(T:ef t es)(h:Int):∃m,m<10*(t.mask+14)/\¬Tk t (it t.mask m (start t.mask h)).j/\(it t.mask m (start t.mask h)).j<=t.mask/\∀k,k<m->Tk t (it t.mask k (start t.mask h)).j:=by
 obtain⟨e,he,hn⟩:=T.free;obtain⟨k,hk⟩:=T.pow;obtain⟨n,hn1,e1⟩:=zh hk h he;obtain⟨m,a,b,c⟩:=least (P:=λn=>¬Tk t (it t.mask n (start t.mask h)).j) n (by rw[e1]; exact hn)
 refine⟨m,by lia,b,?_,λk hk=>IH λq=>c k hk q⟩
 have bd:∀(m:Nat)(p:Probe),p.j+p.more<=t.mask->(it t.mask m p).j+(it t.mask m p).more<=t.mask:=by
  intro m
  induction m with
  |zero=>intro p hp; exact hp
  |succ m ih=>
   intro p hp;refine ih _ ?_;unfold ze
   split
   ·show p.j+1+(p.more-1)<=_; lia
   ·have h1:(leap t.mask p.i p.perturb).1<=t.mask:=by
     have:(leap t.mask p.i p.perturb).1<t.mask+1:=KD _ (Ku _);lia
    show (leap t.mask p.i p.perturb).1+(Jm t.mask (leap t.mask p.i p.perturb).1-(leap t.mask p.i p.perturb).1)<=_;have:=j9 h1;have:=iz t.mask (leap t.mask p.i p.perturb).1;lia
 have h0:bits h % (t.mask+1)<t.mask+1:=KD _ (Ku _);have:=bd m (start t.mask h) (by
  show bits h % (t.mask+1)+(Jm t.mask (bits h % (t.mask+1))-bits h % (t.mask+1))<=_;have:=j9 (mask:=t.mask) (i:=bits h % (t.mask+1)) (by lia)
  have:=iz t.mask (bits h % (t.mask+1));lia)
 lia
structure nM(t:ID)(es:Array (Int×Value)):Prop where
 size:t.place.size=es.size
 rise:i6 t.place
 dum:t.dummies = #[]
 room:t.place.size<=t.mask
 pow:∃k,t.mask+1=2 ^ k
 ge:7<=t.mask
 le:t.mask<=8*es.size+7
 inb:∀j,Tk t j->j<=t.mask
 way:∀q∈t.place.toList.zip es.toList,Way t.mask (Tk t) q.2.1 q.1
 plain:t.plain=true
theorem nM.fits{t:ID}{es:Array (Int×Value)}(T:nM t es):t.fits es.size=true:=by
 unfold Pf Pg;have:=T.room;rw[T.dum,T.size];simp only[beq_self_eq_true,MZ,decide_eq_true_eq];rw[T.size] at this;show es.size+0<=t.mask;lia
theorem nM.inv{t:ID}{es:Array (Int×Value)}(T:nM t es)(h:t.tooFull=false):ef t es where
 size:=T.size
 rise:=T.rise
 dum:=T.dum
 room:=by
  unfold tooFull fill at h;rw[T.dum] at h;have:=of_decide_eq_false h;have e:(#[]:Array Nat).size=0:=rfl;rw[e] at this;lia
 pow:=T.pow
 ge:=T.ge
 le:=T.le
 inb:=T.inb
 way:=T.way
 plain:=T.plain
theorem fE{α:Type}(xs:Array α)(p:Nat)(x:α):(K1 xs p x).size=xs.size+1:=by
 rw[<-Dx,(K3 xs p x).length_eq,Dx,Array.size_push]
theorem ef.put{t:ID}{es:Array (Int×Value)}(T:ef t es){h:Int}{j:Nat}(x:Value)(hj:¬Tk t j)(hle:j<=t.mask)(hw:Way t.mask (Tk t) h j) :
  nM (t.put j).1 (K1 es (t.put j).2 (h,x))/\(t.put j).1.led=t.led:=by
 have ed:has t.dummies j=false:=by rw[T.dum]; unfold has; simp
 have e1:(t.put j).1={ t with place:=K1 t.place (below t.place j) j }:=by
  unfold SetTable.put; dsimp only; rw[ed]; rfl
 have e2:(t.put j).2=below t.place j:=rfl;have old:∀k,Tk t k->Tk { t with place:=K1 t.place (below t.place j) j } k:=λk hk=>by
  show k∈(K1 t.place (below t.place j) j).toList;rw[(K3 t.place _ j).mem_iff,Kp];exact lL _ hk
 rw[e1,e2];refine⟨⟨?_,zj T.rise hj,T.dum,?_,T.pow,T.ge,?_,λk hk=>?_,λq hq=>?_,T.plain⟩,rfl⟩
 ·show (K1 t.place _ j).size=_
  rw[fE,fE,T.size]
 ·show (K1 t.place _ j).size<=t.mask
  rw[fE];have:=T.room;have:=T.ge;lia
 ·rw[fE]; have:=T.le; show t.mask<=_; lia
 ·have hk:k∈(K1 t.place (below t.place j) j).toList:=hk
  rw[(K3 t.place _ j).mem_iff,Kp] at hk;rcases lM hk with hk | hk
  ·exact T.inb k hk
  ·rw[Ch] at hk; subst hk; exact hle
 ·rcases tN T.size _ _ _ hq with rfl | hq
  ·exact hw.mono old
  ·exact(T.way q hq).mono old
abbrev gf:=Array (Option Nat)
def Own(o:gf)(j:Nat):Prop:=∃id,o[j]? = some (some id)
theorem mO{o:gf}{j:Nat}(h:j<o.size):(o.getD j (some 0)).isNone=true↔¬Own o j:=by
 unfold Own;have e:o.getD j (some 0)=o[j]:=by simp[Jk,h]
 have e2:o[j]? = some o[j]:=by simp[h]
 rw[e,e2];cases o[j] with
 |none=>simp
 |some x=>simp
theorem BC{mask:Nat}{o:gf}(hs:o.size=mask+1):∀(f i p:Nat),i<=mask->(∃n,n<f/\¬Own o (lp mask n (i,p)).1) ->
  ∃j m,ME mask o f i p=some j/\¬Own o j/\j<=mask/\(it mask m (ls mask (i,p))).j=j/\∀k,k<m->Own o (it mask k (ls mask (i,p))).j:=by
 intro f
 induction f with
 |zero=>
  intro i p _ h;obtain⟨n,hn,_⟩:=h; lia
 |succ f ih=>
  intro i p hi h;have re:=j9 hi;have rg:=iz mask i;unfold ME;cases q:(Fa (Jm mask i+1-i)).find? (λk=>(o.getD (i+k) (some 0)).isNone) with
  |some k=>
   have h1:=List.find?_some q;have hk:k<Jm mask i+1-i:=Iq.mp (List.mem_of_find?_eq_some q);have h0:=(mO (o:=o) (j:=i+k) (by lia)).mp h1
   refine⟨i+k,k,rfl,h0,by lia,?_,λk' hk' =>?_⟩
   ·rw[kc k (by lia)]; rfl
   ·rw[kc k' (by lia)]
    show Own o (i+k');obtain⟨_,as,bs,e,hno⟩:=List.find?_eq_some_iff_append.mp q;have hlen:as.length=k:=by
     have hg:(Fa (Jm mask i+1-i))[as.length]? = some k:=by rw[e]; simp
     rw[Da] at hg;obtain⟨_,hg⟩:=hg;simpa using hg
    have hm:k'∈as:=by
     have hg:as[k']? = some k':=by
      have:(Fa (Jm mask i+1-i))[k']? = some k':=by rw[K2 (by lia)]
      rw[e,HF (by lia)] at this
      exact this
     exact IE hg
    have:=hno k' hm;refine IH λz=>?_
    rw[(mO (o:=o) (j:=i+k') (by lia)).mpr z] at this
    cases this
  |none=>
   have hall:∀k,k<Jm mask i+1-i->Own o (i+k):=λk hk=>IH λz=>by
    have:=PV.mp q k (Iq.mpr hk);exact this ((mO (o:=o) (j:=i+k) (by lia)).mpr z)
   obtain⟨n,hn,hno⟩:=h;cases n with
   |zero=>exact absurd (hall 0 (by lia)) hno
   |succ n=>
    have hlt:(leap mask i p).1<mask+1:=KD _ (Ku _);obtain⟨j,m,e1,e2,e3,e4,e5⟩:=ih (leap mask i p).1 (leap mask i p).2 (by lia) ⟨n,by lia,hno⟩
    have hfull:it mask (Jm mask i-i+1) (ls mask (i,p))=ls mask (leap mask i p):=by
     rw[eU mask 1 _,kc _ (by lia)]
     exact uY (by lia)
    refine⟨j,Jm mask i-i+1+m,e1,e2,e3,?_,λk hk=>?_⟩
    ·rw[eU,hfull]; exact e4
    ·by_cases hk':k<=Jm mask i-i
     ·rw[kc k (by lia)]; exact hall k (by lia)
     ·have:=e5 (k-(Jm mask i-i+1)) (by lia)
      rw[show k=Jm mask i-i+1+(k-(Jm mask i-i+1)) by lia,eU,hfull]
      exact this
noncomputable def stp(mask:Nat)(acc:Option (gf×Nat))(h:Int):Option (gf×Nat):=do
 let (owner,k) <-acc
 let j <-ME mask owner (turns mask) (bits h % (mask+1)) (bits h)
 pure (owner.setIfInBounds j (some k),k+1)
theorem rm(mask:Nat)(hashes:Array Int):layClean mask hashes=(hashes.toList.foldl (stp mask) (some (NS (mask+1) none,0))).map (·.1):=by
 rw[Array.foldl_toList]; rfl
theorem rq{k:Nat}:∀{l:List (Option Nat)}{j:Nat},l[j]? = some none->((l.set j (some k)).filterMap id).Perm (k::l.filterMap id)
 |[],j,h=>by simp at h
 |x::l,0,h=>by simp at h; subst h; exact .refl _
 |x::l,j+1,h=>by
  have ih:=rq (k:=k) (l:=l) (j:=j) (by simpa using h)
  rw[List.set_cons_succ];cases x with
  |none=>exact ih
  |some y=>exact(ih.cons y).trans (.swap _ _ _)
structure rz(mask:Nat)(hs:List Int)(o:gf)(k:Nat):Prop where
 size:o.size=mask+1
 len:k=hs.length
 perm:(o.toList.filterMap id).Perm (Fa k)
 way:∀j id,o[j]? = some (some id)->∃h,hs[id]? = some h/\Way mask (Own o) h j
theorem rz.free{mask:Nat}{hs:List Int}{o:gf}{k:Nat}(T:rz mask hs o k)(hk:k<=mask):∃e,e<=mask/\¬Own o e:=by
 refine IH λhn=>?_
 have all:∀x∈o.toList,∃id,x=some id:=λx hx=>by
  obtain⟨i,hi,e⟩:=HV hx;refine IH λq=>hn ⟨i,by rw[Dx,T.size] at hi; lia,?_⟩
  rintro⟨id,h⟩;rw[<-H9,Bi hi,e] at h;exact q ⟨id,Fu h⟩
 have hl:∀{l:List (Option Nat)},(∀x∈l,∃id,x=some id)->(l.filterMap id).length=l.length:=λ{l}=>by
  induction l with
  |nil=>intro _; rfl
  |cons x l ih=>
   intro h;obtain⟨y,rfl⟩:=h x lS;show ((y::l.filterMap id)).length=_;rw[Bn,Bn,ih λx hx=>h x (lO _ hx)]
 have:=T.perm.length_eq;rw[hl all,Dx,T.size,IV] at this;lia
theorem rz.step{mask:Nat}{hs:List Int}{o:gf}{k:Nat}(T:rz mask hs o k)(hp:∃b,mask+1=2 ^ b)(hk:k<=mask)(h:Int):∃o',stp mask (some (o,k)) h=some (o',k+1)/\rz mask (hs++[h]) o' (k+1):=by
 obtain⟨e,he,hne⟩:=T.free hk;obtain⟨b,hb⟩:=hp;have hi:bits h % (mask+1)<mask+1:=KD _ (Ku _);obtain⟨n,hn,en⟩:=rj hb hi (uX h) he;obtain⟨j,m,e1,e2,e3,e4,e5⟩:=BC T.size (turns mask) (bits h % (mask+1)) (bits h) (by lia) ⟨n,by unfold turns; lia,by rw[en]; exact hne⟩
 have hj:j<o.size:=by rw[T.size]; lia
 have hjn:o[j]? = some none:=by
  have:o[j]? = some o[j]:=by simp[hj]
  cases q:o[j] with
  |none=>rw[this,q]
  |some x=>exact absurd ⟨x,by rw[this,q]⟩ e2
 have old:∀i,Own o i->Own (o.setIfInBounds j (some k)) i:=λi ⟨id,hid⟩=>by
  refine⟨id,?_⟩;rw[NT,if_neg]
  ·exact hid
  ·intro q; subst q; rw[hjn] at hid; cases hid
 refine⟨o.setIfInBounds j (some k),?_,⟨?_,?_,?_,λi id hid=>?_⟩⟩
 ·unfold stp; show (ME mask o (turns mask) (bits h % (mask+1)) (bits h)).bind _=_; rw[e1]; rfl
 ·rw[Array.size_setIfInBounds]; exact T.size
 ·rw[Bz,<-T.len]; rfl
 ·rw[Array.toList_setIfInBounds]
  have h1:o.toList[j]? = some none:=by rw[H9]; exact hjn
  refine(rq h1).trans ((T.perm.cons k).trans ?_);rw[NW];exact(LP k _).symm
 ·rw[NT] at hid
  split at hid
  ·next q=>
   subst q;have hid:k=id:=Fu (Fu hid);subst hid;exact⟨h,by rw[T.len]; simp,m,e4,λk' hk'=>old _ (e5 k' hk')⟩
  ·obtain⟨h',a,b⟩:=T.way i id hid
   refine⟨h',?_,b.mono old⟩;rw[HF (Da.mp a).1];exact a
theorem rA{mask:Nat}(hp:∃b,mask+1=2 ^ b):∀(hs ds:List Int)(o:gf),rz mask ds o ds.length->ds.length+hs.length<=mask->∃o',hs.foldl (stp mask) (some (o,ds.length))=some (o',(ds++hs).length)/\rz mask (ds++hs) o' (ds++hs).length
 |[],ds,o,T,_=>⟨o,by rw[FB]; rfl,by rw[FB]; exact T⟩
 |h::hs,ds,o,T,hl=>by
  rw[Bn] at hl;obtain⟨o1,e1,T1⟩:=T.step hp (by lia) h
  rw[show ds.length+1=(ds++[h]).length by simp] at e1 T1
  obtain⟨o2,e2,T2⟩:=rA hp hs (ds++[h]) o1 T1 (by simp; lia)
  rw[BM] at e2 T2;exact⟨o2,by rw[Kg,e1]; exact e2,T2⟩
theorem wL{mask:Nat}(hp:∃b,mask+1=2 ^ b)(hashes:Array Int)(hl:hashes.size<=mask):∃o,layClean mask hashes=some o/\rz mask hashes.toList o hashes.size:=by
 obtain⟨o,e,T⟩:=rA hp hashes.toList [] (NS (mask+1) none) ⟨by simp,rfl,by
   rw[Array.toList_replicate];have:∀n,((D2 n (none:Option Nat)).filterMap id)=[]:=λn=>by induction n with | zero=>rfl | succ n ih=>exact ih
   rw[this]; exact .refl _,λj id h=>by
   rw[Array.getElem?_replicate] at h
   split at h <;> cases h⟩ (by simpa using hl)
 rw[IT] at e T;have e:hashes.toList.foldl (stp mask) (some (NS (mask+1) none,0))=some (o,hashes.toList.length):=e;rw[Dx] at T;exact⟨o,by rw[rm,e]; rfl,T⟩
theorem zk(n:Nat):∀(f s:Nat),(∃k,s=2 ^ k)->8<=s->(s<=2*n\/s=8)->n<s*2 ^ f->(∃k,L5 n f s=2 ^ k)/\8<=L5 n f s/\n<L5 n f s/\(L5 n f s<=2*n\/L5 n f s=8):=by
 intro f
 induction f with
 |zero=>
  intro s hk h8 h2 h;exact⟨hk,h8,by show n<s; simpa using h,h2⟩
 |succ f ih=>
  intro s hk h8 h2 h;unfold L5
  split
  ·next hle=>
   obtain⟨k,rfl⟩:=hk;exact ih _ ⟨k+1,by rw[Jg]⟩ (by lia) (.inl (by lia)) (by rw[Nat.mul_assoc,<-Nat.pow_succ']; exact h)
  ·exact⟨hk,h8,by lia,h2⟩
theorem mP{n:Nat}(h:n<2 ^ 40):(∃k,MC n=2 ^ k)/\8<=MC n/\n<MC n/\(MC n<=2*n\/MC n=8) :=
 zk n 64 8 ⟨3,rfl⟩ (Db _) (.inr rfl) (Go h (by decide))
theorem jG(o:gf):∀(js:List Nat),((js.filterMap λj=>(o.getD j none).map (j,·)).map (·.1)).Sublist js
 |[]=>.slnil
 |j::js=>by
  rw[Jp];cases o.getD j none with
  |none=>exact(jG o js).cons _
  |some x=>exact(jG o js).cons_cons _
theorem zl(o:gf):((Fa o.size).filterMap λj=>(o.getD j none).map (j,·)).map (·.2)=o.toList.filterMap id:=by
 rw[List.map_filterMap];have e:o.toList=(Fa o.size).map (λj=>o.getD j none):=by
  apply List.ext_getElem
  ·simp
  ·intro i h1 h2
   have h1:i<o.size:=by simpa using h1
   simp[Jk,h1]
 have e2:(Fa o.size).filterMap (λj=>((o.getD j none).map (j,·)).map (·.2))=(Fa o.size).filterMap (λj=>o.getD j none):=by
  congr 1; funext j; cases o.getD j none <;> rfl
 rw[e,PY];exact e2
theorem zm{o:gf}{q:Nat×Nat}(h:q∈(Fa o.size).filterMap λj=>(o.getD j none).map (j,·)):o[q.1]? = some (some q.2):=by
 obtain⟨j,hj,e⟩:=LQ.mp h;have hj:=Iq.mp hj;have e2:o.getD j none=o[j]:=by simp[Jk,hj]
 rw[e2] at e;cases z:o[j] with
 |none=>rw[z] at e; cases e
 |some x=>
  rw[z] at e;cases e;simp[hj,z]
theorem zp{o:gf}{j:Nat}(h:Own o j):j∈((Fa o.size).filterMap λj=>(o.getD j none).map (j,·)).map (·.1):=by
 obtain⟨id,h⟩:=h;obtain⟨hj,e⟩:=JP.mp h;refine IL.mpr ⟨(j,id),LQ.mpr ⟨j,Iq.mpr hj,?_⟩,rfl⟩;have e2:o.getD j none=o[j]:=by simp[Jk,hj]
 rw[e2,e]; rfl
theorem Cn{t:ID}{es:Array (Int×Value)}(T:nM t es)(hn:es.size<=50000) :
  ∃t' order,t.relaid (es.map (·.1)) (grown es.size)=some (t',order)/\order.toList.Perm (Fa es.size)/\ef t' (order.filterMap (es[·]?))/\t'.led=t.led:=by
 have hg:grown es.size=es.size*4:=by unfold grown; rw[if_neg (by lia)]
 obtain⟨⟨b,hb⟩,h8,hgt,hle⟩:=mP (n:=grown es.size) (by rw[hg]; lia)
 rw[hg] at hgt hle;rw[hg];rw[hg] at hb h8;generalize hS:MC (es.size*4)=S at *;obtain⟨o,eo,O⟩:=wL (mask:=S-1) ⟨b,by lia⟩ (es.map (·.1)) (by rw[Nq]; lia)
 have hsz:(es.map (·.1)).size=es.size:=Nq ..;rw[hsz] at O;have hos:o.size=S-1+1:=O.size
 let live:=(Fa (S-1+1)).filterMap λj=>(o.getD j none).map (j,·)
 have hlive:live=(Fa o.size).filterMap λj=>(o.getD j none).map (j,·):=by show (Fa (S-1+1)).filterMap _=_; rw[hos]
 have hsnd:live.map (·.2)=o.toList.filterMap id:=by rw[hlive]; exact zl o
 have hperm:(live.map (·.2)).Perm (Fa es.size):=by rw[hsnd]; exact O.perm
 have hid:∀q∈live,q.2<es.size:=λq hq=>Iq.mp (hperm.mem_iff.mp (IL.mpr ⟨q,hq,rfl⟩))
 refine⟨{ mask:=S-1,place:=(live.map (·.1)).toArray,dummies:=#[],finger:=t.finger,led:=t.led,moves:=t.movedTo (S-1),plain:=t.plain },(live.map (·.2)).toArray,by unfold relaid laid; rw[hS,eo]; rfl,by simpa using hperm,?_,rfl⟩
 have hes:((live.map (·.2)).toArray.filterMap (es[·]?)).toList=(live.map (·.2)).filterMap (es[·]?):=by rw[OM]
 have hall:∀{l:List Nat},(∀i∈l,i<es.size)->(l.filterMap (es[·]?)).length=l.length:=λ{l}=>by
  induction l with
  |nil=>intro _; rfl
  |cons i l ih=>
   intro h;have hi:=h i lS;rw[Jp,show es[i]? = some es[i] by simp[hi]]
   show (_::_).length=_;rw[Bn,Bn,ih λx hx=>h x (lO _ hx)]
 have hlen:((live.map (·.2)).toArray.filterMap (es[·]?)).size=es.size:=by
  rw[<-Dx,hes,hall λi hi=>Iq.mp (hperm.mem_iff.mp hi),hperm.length_eq,IV]
 have hpl:live.length=es.size:=by have:=hperm.length_eq; simpa using this
 refine⟨?_,?_,rfl,?_,⟨b,by show S-1+1=_; lia⟩,?_,?_,λj hj=>?_,λq hq=>?_,T.plain⟩
 ·show (live.map (·.1)).toArray.size=_; rw[hlen]; simpa using hpl
 ·show (live.map (·.1)).toArray.toList.Pairwise (· < ·)
  have:(live.map (·.1)).Sublist (Fa (S-1+1)):=jG o _;exact List.pairwise_lt_range.sublist (by simpa using this)
 ·show (live.map (·.1)).toArray.size*5<(S-1)*3
  have:(live.map (·.1)).toArray.size=es.size:=by simpa using hpl
  rw[this]; lia
 ·show 7<=S-1; lia
 ·show S-1<=_; rw[hlen]; lia
 ·have hj:j∈(live.map (·.1)).toArray.toList:=hj
  have hj:j∈live.map (·.1):=hj;have:j∈Fa (S-1+1):=(jG o (Fa (S-1+1))).mem hj;have:=Iq.mp this;show j<=S-1; lia
 ·have hz:∀{l:List (Nat×Nat)},(∀q∈l,q.2<es.size)->∀q∈(l.map (·.1)).zip ((l.map (·.2)).filterMap (es[·]?)),∃z∈l,q.1=z.1/\es[z.2]? = some q.2:=λ{l}=>by
   induction l with
   |nil=>intro _ q hq; simp at hq
   |cons z l ih=>
    intro h q hq;have hi:=h z lS;rw[GM,GM,Jp,show es[z.2]? = some es[z.2] by simp[hi],Jb] at hq
    rcases lK hq with rfl | hq
    ·exact⟨z,lS,rfl,by simp[hi]⟩
    ·obtain⟨z',a,b⟩:=ih (λx hx=>h x (lO _ hx)) q hq
     exact⟨z',lO _ a,b⟩
  have hq:q∈(live.map (·.1)).zip ((live.map (·.2)).filterMap (es[·]?)):=by
   have hq:q∈(live.map (·.1)).toArray.toList.zip ((live.map (·.2)).toArray.filterMap (es[·]?)).toList:=hq;rw[hes] at hq;simpa using hq
  obtain⟨z,hz1,hz2,hz3⟩:=hz hid q hq;have ho:=zm (o:=o) (q:=z) (by rw[<-hlive]; exact hz1)
  obtain⟨h,hh,hw⟩:=O.way _ _ ho;have:h=q.2.1:=by
   rw[H9,Array.getElem?_map,hz3] at hh;exact(Fu hh).symm
  subst this;rw[hz2];refine hw.mono λj hj=>?_
  show j∈(live.map (·.1)).toArray.toList;have:=zp hj;rw[<-hlive] at this;simpa using this
theorem rB{t:ID}(hr:i6 t.place)(hd:t.dummies = #[])(MP:Nat->Int)(h:Int):∀(f:Nat)(p:Probe)(m:Nat),m<f->p.dummy=none->¬Tk t (it t.mask m p).j->(∀k,k<m->Tk t (it t.mask k p).j) ->
  (MD t MP h f p=some (.empty (it t.mask m p).j none)/\∀k,k<m->∀i,t.place[i]? = some (it t.mask k p).j->MP i≠h) \/
  (∃k i,k<m/\t.place[i]? = some (it t.mask k p).j/\MP i=h/\MD t MP h f p=some (.candidate (it t.mask k p).j i (it t.mask (k+1) p))/\∀k',k'<k->∀i',t.place[i']? = some (it t.mask k' p).j->MP i'≠h):=by
 intro f
 induction f with
 |zero=>
  intro p m hf _ _ _;lia
 |succ f ih=>
  intro p m hf hp hn ht;cases m with
  |zero=>
   refine .inl ⟨?_,λk hk=>by lia⟩
   unfold MD;rcases mL hr hd p.j with⟨i,_,hi⟩ | ⟨e,_⟩
   ·exact absurd (Cm hi) hn
   ·rw[e,<-hp]; rfl
  |succ m=>
   have h0:Tk t p.j:=ht 0 (by lia)
   unfold MD;rcases mL hr hd p.j with⟨i,e,hi⟩ | ⟨_,e⟩
   ·rw[e]
    dsimp only
    by_cases hh:MP i=h
    ·rw[if_pos (by simpa using hh)]
     exact .inr ⟨0,i,by lia,hi,hh,by rw[zf]; rfl,λk' hk'=>by lia⟩
    ·rw[if_neg (by simpa using hh),zf]
     have one:∀i',t.place[i']? = some p.j->MP i'≠h:=λi' hi'=>by
      have:Nh i'=Nh i:=by rw[<-gc hr hi',e]
      cases this; exact hh
     have hpd:(ze t.mask p).dummy=none:=by unfold ze; split <;> exact hp
     rcases ih (ze t.mask p) m (by lia) hpd hn (λk hk=>ht (k+1) (by lia)) with⟨e1,e2⟩ | ⟨k,i',hk,hi',hh',e1,e2⟩
     ·refine .inl ⟨e1,λk hk=>?_⟩
      cases k with
      |zero=>exact one
      |succ k=>exact e2 k (by lia)
     ·refine .inr ⟨k+1,i',by lia,hi',hh',e1,λk' hk' =>?_⟩
      cases k' with
      |zero=>exact one
      |succ k'=>exact e2 k' (by lia)
   ·exact absurd h0 e
theorem rC(t:ID)(MP:Nat->Int)(h:Int)(p:Probe):t.probe MP h p=MD t MP h (10*turns t.mask) p:=rfl
theorem rD(mask:Nat):∀(n:Nat)(p:Probe),p.dummy=none->(it mask n p).dummy=none
 |0,p,h=>h
 |n+1,p,h=>rD mask n _ (by unfold ze; split <;> exact h)
theorem ef.freeSlot{t:ID}{es:Array (Int×Value)}(T:ef t es)(h:Int):∃j,t.freeSlot h=some (j,false)/\¬Tk t j/\j<=t.mask/\Way t.mask (Tk t) h j:=by
 obtain⟨m,hm,hn,hle,ht⟩:=T.first h;refine⟨_,?_,hn,hle,⟨m,rfl,ht⟩⟩;unfold SetTable.freeSlot;rw[zg,rC];rcases rB T.rise T.dum (λ_=>h+1) h (10*turns t.mask) (start t.mask h) m (by unfold turns; lia) rfl hn ht with⟨e,_⟩ | ⟨k,i,hk,hi,hh,_⟩
 ·rw[e]; rfl
 ·exact absurd hh (by show h+1≠h; lia)
theorem ef.layNew{t:ID}{es:Array (Int×Value)}(T:ef t es)(h:Int)(x:Value):∃es' t',layNew t es h x=(es',t',false,false)/\nM t' es'/\t'.led=t.led/\es'.toList.Perm ((h,x)::es.toList):=by
 obtain⟨j,e,hn,hle,hw⟩:=T.freeSlot h;obtain⟨M,hl⟩:=T.put x hn hle hw;have e':Qg t es h x=(K1 es (t.put j).2 (h,x),(t.put j).1.orStandIn (K1 es (t.put j).2 (h,x)).size,false,!(t.put j).1.fits (K1 es (t.put j).2 (h,x)).size):=by
  unfold Qg; rw[e]
 refine⟨_,_,e'.trans ?_,M,hl,?_⟩
 ·unfold SetTable.orStandIn; rw[M.fits]; rfl
 ·refine(K3 es _ _).trans ?_
  rw[Kp];exact LP _ _
theorem oJ{es:Array (Int×Value)}{order:Array Nat}(hp:order.toList.Perm (Fa es.size)):(order.filterMap (es[·]?)).toList.Perm es.toList:=by
 rw[OM];exact(hp.filterMap _).trans (by rw[filterMap_getElem?_range])
theorem nM.relayAll{t:ID}{es:Array (Int×Value)}(T:nM t es)(hn:es.size<=50000):∃es' t',relayAll t es (grown es.size)=(es',t',false)/\ef t' es'/\t'.led=t.led/\es'.toList.Perm es.toList:=by
 obtain⟨t',order,e,hp,I,hl⟩:=Cn T hn;refine⟨order.filterMap (es[·]?),t',?_,I,hl,oJ hp⟩;unfold PySem.relayAll;rw[e];dsimp only;have hc:coversAll order es.size=true:=by unfold coversAll; exact List.isPerm_iff.mpr hp
 rw[hc,I.fits];rfl
structure Kd(prog:Fk)(w:World) where
 K:Type
 dec:DecidableEq K
 is:Heap->K->Value->Prop
 hash:K->Int
 keeps:∀{h h':Heap}{k:K}{v:Value}{a:Addr}{o:Obj}{es:Array (Int×Value)}{ep:Nat}{t:ID},is h k v->h.get? a=some o->o.data=.set es ep t->JR a h h'->is h' k v
section
variable{prog:Fk}{w:World}(D:Kd prog w)
inductive oK(h:Heap):List D.K->List (Int×Value)->Prop
 |nil:oK h [] []
 |cons {k:D.K} {x:Value} {ks:List D.K} {es:List (Int×Value)}:D.is h k x->oK h ks es->oK h (k::ks) ((D.hash k,x)::es)
variable{D}
theorem oK.perm{h:Heap}{ks:List D.K}{es es':List (Int×Value)}(e:oK D h ks es)(p:es'.Perm es):∃ks',ks'.Perm ks/\oK D h ks' es':=by
 induction p generalizing ks with
 |nil=>cases e; exact⟨[],.refl _,.nil⟩
 |@cons x l₁ l₂ p ih=>
  cases e with
  |cons a r=>
   obtain⟨ks',p',e'⟩:=ih r;exact⟨_,p'.cons _,.cons a e'⟩
 |swap x y l=>
  cases e with
  |cons a r=>
   cases r with
   |cons b r=>exact⟨_,.swap _ _ _,.cons b (.cons a r)⟩
 |trans p1 p2 ih1 ih2=>
  obtain⟨k1,q1,e1⟩:=ih2 e;obtain⟨k2,q2,e2⟩:=ih1 e1;exact⟨k2,q2.trans q1,e2⟩
theorem oK.length{h:Heap}{ks:List D.K}{es:List (Int×Value)}(e:oK D h ks es):ks.length=es.length:=by
 induction e with
 |nil=>rfl
 |cons _ _ ih=>rw[Bn,Bn,ih]
theorem oK.get{h:Heap}{ks:List D.K}{es:List (Int×Value)}(e:oK D h ks es):∀{i:Nat}{q:Int×Value},es[i]? = some q->∃k,ks[i]? = some k/\D.is h k q.2/\q.1=D.hash k:=by
 induction e with
 |nil=>intro i q hq; simp at hq
 |cons a r ih=>
  intro i q hq;cases i with
  |zero=>simp at hq; subst hq; exact⟨_,rfl,a,rfl⟩
  |succ i=>exact ih (i:=i) (by simpa using hq)
theorem oK.get'{h:Heap}{ks:List D.K}{es:List (Int×Value)}(e:oK D h ks es):∀{i:Nat}{k:D.K},ks[i]? = some k->∃x,es[i]? = some (D.hash k,x)/\D.is h k x:=by
 induction e with
 |nil=>intro i q hq; simp at hq
 |cons a r ih=>
  intro i q hq;cases i with
  |zero=>simp at hq; subst hq; exact⟨_,rfl,a⟩
  |succ i=>exact ih (i:=i) (by simpa using hq)
theorem oK.mono{h h':Heap}{ks:List D.K}{es:List (Int×Value)}(e:oK D h ks es)(hk:∀k v,D.is h k v->D.is h' k v):oK D h' ks es:=by
 induction e with
 |nil=>exact .nil
 |cons a _ ih=>exact .cons (hk _ _ a) ih
variable(D)
structure kG(h:Heap)(a:Addr)(led:Bool)(ks:List D.K)(o:Obj)(es:Array (Int×Value))(ep:Nat)(t:ID):Prop where
 ho:h.get? a=some o
 hex:o.ExactSet
 hd:o.data=.set es ep t
 inv:ef t es
 led:t.led=led
 els:oK D h ks es.toList
 nd:ks.Nodup
variable{D}
variable{A:HN}{E:Value->B2->Prop}{s:B2}
theorem kG.size{h:Heap}{a:Addr}{led:Bool}{ks:List D.K}{o:Obj}{es:Array (Int×Value)}{ep:Nat}{t:ID}(S:kG D h a led ks o es ep t):es.size=ks.length:=by
 rw[S.els.length,Dx]
def Fin(D:Kd prog w)(h:Heap)(a:Addr)(led:Bool)(ks:List D.K)(k:D.K)(h':Heap):Prop:=∃ks' o' es' ep' t',JR a h h'/\kG D h' a led ks' o' es' ep' t'/\ks'.Perm (k::ks)
theorem oM{a:Addr}{led:Bool}{ks:List D.K}{o:Obj}{es:Array (Int×Value)}{ep:Nat}{t:ID}(S:kG D s.heap a led ks o es ep t){k:D.K}{x:Value}{es1:Array (Int×Value)}{t1:ID}
  (hn:k∉ks) (hx:D.is s.heap k x) (M:nM t1 es1) (hl:t1.led=led) (hp:es1.toList.Perm ((D.hash k,x)::es.toList)) (hb:ks.length<=1000)
  {Q:Unit->B2->Prop}
  (h:∀h1,h1.get? a=some { o with data:=.set es1 (ep+1) t1 }->(t1.tooFull=false->Fin D s.heap a led ks k h1)->(∀es2 t2,ef t2 es2->t2.led=led->es2.toList.Perm es1.toList->Fin D s.heap a led ks k (h1.update a (Kj es2 t2)))->Q () { s with heap:=h1 }) :
  wpAny (model prog w) A (storeSet a es1 t1) Q E s:=by
 have hsz:es1.size=ks.length+1:=by rw[<-Dx,hp.length_eq,Bn,Dx,S.size]
 refine NY S.ho S.hd ?_ (by rw[IC]; lia)
 have hsb:=Kt s.heap a (Kj es1 t1);have get1:(s.heap.update a (Kj es1 t1)).get? a=some { o with data:=.set es1 (ep+1) t1 }:=by
  have:=Jt (Kj es1 t1) S.ho (by rw[PH es1 t1 S.hd]; rfl)
  rw[PH es1 t1 S.hd] at this; exact this
 have E0:oK D s.heap (k::ks) ((D.hash k,x)::es.toList):=.cons hx S.els;have kp:∀{h':Heap},JR a s.heap h'->∀k v,D.is s.heap k v->D.is h' k v:=λ{h'}q k v hv=>D.keeps hv S.ho S.hd q
 have nd:(k::ks).Nodup:=Ha.mpr ⟨hn,S.nd⟩;refine h _ get1 (λhf=>?_) λes2 t2 I2 l2 p2=>?_
 ·obtain⟨ks',p',e'⟩:=(E0.mono (kp hsb)).perm hp
  exact⟨ks',_,es1,_,t1,hsb,⟨get1,S.hex,rfl,M.inv hf,hl,e',p'.nodup_iff.mpr nd⟩,p'⟩
 ·have hsb2:JR a s.heap ((s.heap.update a (Kj es1 t1)).update a (Kj es2 t2)):=hsb.trans (Kt _ a _)
  obtain⟨ks',p',e'⟩:=(E0.mono (kp hsb2)).perm (p2.trans hp);have get2:((s.heap.update a (Kj es1 t1)).update a (Kj es2 t2)).get? a=some { o with data:=.set es2 (ep+1+1) t2 }:=by
   have:=Jt (Kj es2 t2) get1 (by rw[PH es2 t2 (es:=es1) (ep:=ep+1) (t:=t1) rfl]; rfl)
   rw[PH es2 t2 (es:=es1) (ep:=ep+1) (t:=t1) rfl] at this; exact this
  exact⟨ks',_,es2,_,t2,hsb2,⟨get2,S.hex,rfl,I2,l2,e',p'.nodup_iff.mpr nd⟩,p'⟩
end
def AddR{K:Type}(k:K)(ks ks':List K):Prop:=(k∈ks/\ks'=ks)\/(k∉ks/\ks'.Perm (k::ks))
def Adds{prog:Fk}{w:World}(D:Kd prog w)(A:HN):Prop:=∀{E:Value->B2->Prop}{s:B2}{a:Addr}{led:Bool}{ks:List D.K}{o:Obj}{es:Array (Int×Value)}{ep:Nat}{t:ID}{k:D.K}{x:Value}{Q:Bool->B2->Prop},
  kG D s.heap a led ks o es ep t->D.is s.heap k x->ks.length<=1000 ->
  (∀b h' tk ks' o' es' ep' t',s.toks<=tk->JR a s.heap h'->kG D h' a led ks' o' es' ep' t'->AddR k ks ks'->Q b { s with heap:=h',toks:=tk }) ->
  wpAny (model prog w) A (setAdd a x) Q E s
noncomputable def intD(prog:Fk)(w:World):Kd prog w where
 K:=Int
 dec:=inferInstance
 is:=λ_ k v=>∃tk,v=.int k tk
 hash:=hashInt
 keeps:=λh _ _ _=>h
section
variable{prog:Fk}{w:World}
theorem wM{h:Heap}{ks:List (intD prog w).K}{es:List (Int×Value)}(e:oK (intD prog w) h ks es):ElemsOf (I9 prog w) es:=by
 intro q hq;obtain⟨i,hi,e1⟩:=HV hq;obtain⟨k,_,⟨tk,e2⟩,e3⟩:=e.get (i:=i) (q:=q) (by rw[Bi hi,e1])
 exact⟨⟨k,by rw[e2]; exact Lm _ _ _ _,e3⟩,by rw[e2]; rfl⟩
theorem add_int(A:HN):Adds (intD prog w) A:=by
 intro E s a led ks o es ep t k x Q S hx hb h;obtain⟨tk,rfl⟩:=hx;unfold setAdd;refine HW ?_;refine AC ((I9 prog w).pyHash (k:=k) (Lm _ _ _ _) ?_);have S':kG (intD prog w) ({ s with toks:=s.toks+1 }:B2).heap a led ks o es ep t:=S
 have hel:=wM S.els;have hsz:=S.size;have hsb:es.size<Nz:=by unfold Nz; lia
 unfold setAddHashed setAddHashedIn;refine HW (AC (JD S.ho S.hd S.inv.fits ?_));dsimp only;rw[byScan_of (knd:=I9 prog w) rfl hsb hel];simp only[↓reduceIte];unfold setAddByScan;refine AC ?_;refine AC (Ii ?_);refine AC (wpAny_setScan_of (knd:=I9 prog w) (k:=k) (Lm _ _ _ _) S.ho S.hd S.inv.fits hel ?_);cases hr:List.findIdx? (λe=>(I9 prog w).is k e.2) es.toList with
 |some j=>
  dsimp only;obtain⟨hj,hpj,_⟩:=List.findIdx?_eq_some_iff_getElem.mp hr;have hmem:k∈ks:=by
   obtain⟨k',e1,⟨t',e2⟩,_⟩:=S.els.get (i:=j) (Bi hj);have:k=k':=by
    rw[e2] at hpj;exact(I9 prog w).inj _ _ _ hpj (Lm _ _ _ _)
   subst this;exact IE e1
  exact At (At (h _ s.heap _ ks o es ep t (IX _) (M6 a s.heap) S (.inl ⟨hmem,rfl⟩)))
 |none=>
  dsimp only;have hmem:k∉ks:=λhm=>by
   obtain⟨i,hi,e⟩:=HV hm;obtain⟨x,e1,⟨t',e2⟩⟩:=S.els.get' (i:=i) (by rw[Bi hi,e])
   have:=List.findIdx?_eq_none_iff.mp hr _ (IE e1);rw[e2] at this;rw[show (I9 prog w).is k (NA k t')=true from Lm _ _ _ _] at this
   cases this
  obtain⟨es1,t1,e1,M1,l1,p1⟩:=S.inv.layNew (hashInt k) (.int k tk);have e1:layNew t es ((I9 prog w).hash k) (.int k tk)=(es1,t1,false,false):=e1;rw[e1];dsimp only;refine AC (show wpAny _ _ (pure ()) _ _ _ from At ?_)
  rw[M1.plain];simp only[↓reduceIte];refine AC ?_;rw[hashByValue_scannable 8 rfl];refine At ?_;simp only[plainKind,↓reduceIte,Nu,MZ];refine AC (oM (A:=A) (E:=E) (D:=intD prog w) (s:={ s with toks:=s.toks+1 }) S' hmem ⟨tk,rfl⟩ M1 (l1.trans S.led) p1 hb λh1 g1 f1 f2=>?_)
  have fin:∀h',Fin (intD prog w) s.heap a led ks k h'->Q true { s with heap:=h',toks:=s.toks+1 }:=λh' ⟨ks',o',es',ep',t',sb,K',pm⟩=>h _ h' _ ks' o' es' ep' t' (IX _) sb K' (.inr ⟨hmem,pm⟩)
  by_cases hf:t1.tooFull=true
  ·rw[if_pos hf]
   have hsz1:es1.size=ks.length+1:=by rw[<-Dx,p1.length_eq,Bn,Dx,S.size]
   obtain⟨es2,t2,e2,I2,l2,p2⟩:=M1.relayAll (by lia)
   rw[e2];dsimp only;refine AC (show wpAny _ _ (pure ()) _ _ _ from At ?_)
   have hsz2:es2.size=ks.length+1:=by rw[<-Dx,p2.length_eq,Dx,hsz1]
   refine AC (NY g1 rfl ?_ (by rw[IC]; lia))
   exact At (At (fin _ (f2 es2 t2 I2 (l2.trans (l1.trans S.led)) p2)))
  ·rw[if_neg hf]
   exact At (At (fin _ (f1 (by simpa using hf))))
end
abbrev wN(prog:Fk)(w:World)(L:List Int->Value->Prop):Kd prog w where
 K:=List Int
 dec:=inferInstance
 is:=λh k v=>L k v/\∃a,v=.ref a/\Ks (I9 prog w) h k a
 hash:=IU (I9 prog w)
 keeps:=λ{h h' k v a o es ep t} ⟨hL,b,e,o',items,n,ho',hc,hd',hi⟩ ho hd hs=>by
  have hne:b≠a:=by
   rintro rfl;obtain rfl:o'=o:=Fu (ho'.symm.trans ho);rw[hd] at hd'; exact nomatch hd'
  exact⟨hL,b,e,o',items,n,(hs.2 b hne).trans ho',hc,hd',hi⟩
section
variable{prog:Fk}{w:World}{A:HN}{E:Value->B2->Prop}{s:B2}
theorem kH{k:List Int}{b:Addr}{Q:Bool->B2->Prop}(hk:Ks (I9 prog w) s.heap k b)(h:Q true s):wpAny (model prog w) A (hashByValue 8 (.ref b)) Q E s:=by
 have hT:=hk.typeIs;obtain⟨o,items,n,ho,_,hd,hi⟩:=hk;unfold hashByValue;refine AC (OH hT F.slot_tuple_hash.lookup ?_);dsimp only;refine AC (J1 ho hd ?_);refine AC ?_;show wpAny _ _ (forIn items _ _) _ _ s;rw[<-P9];refine LA _ (λrest r s'=>r.1=none/\s'=s/\∃left,ItemsAre (I9 prog w) left rest) _ ?_ ?_ _ _ ⟨rfl,rfl,_,hi⟩
 ·rintro v rest r s' ⟨hr,rfl,left,hl⟩
  cases hl with
  |cons h1 hl' =>
   obtain⟨tk,rfl⟩:=Mm h1;refine AC (show wpAny _ _ (pure true) _ _ _ from At ?_)
   simp only[KG,HE,if_false];exact At ⟨rfl,rfl,_,hl'⟩
 ·rintro⟨r1,r2⟩ s' ⟨hr,rfl,_⟩
  simp only at hr;subst hr;exact At h
theorem kD{k:List Int}{b:Addr}{Q:Bool->B2->Prop}(hk:Ks (I9 prog w) s.heap k b)(h:Q false s):wpAny (model prog w) A (ofAClassStatement 8 (.ref b)) Q E s:=by
 have hT:=hk.typeIs;obtain⟨o,items,n,ho,_,hd,hi⟩:=hk;unfold ofAClassStatement;refine AC (L0 hT ?_);dsimp only;rw[if_pos (by rfl)]
 refine AC (At ?_);simp only[KG,HE,if_false];refine AC (J1 ho hd ?_);dsimp only;refine AC ?_;show wpAny _ _ (forIn items _ _) _ _ s;rw[<-P9];refine LA _ (λrest r s'=>r.1=none/\s'=s/\∃left,ItemsAre (I9 prog w) left rest) _ ?_ ?_ _ _ ⟨rfl,rfl,_,hi⟩
 ·rintro v rest r s' ⟨hr,rfl,left,hl⟩
  cases hl with
  |cons h1 hl' =>
   obtain⟨tk,rfl⟩:=Mm h1;refine AC (show wpAny _ _ (pure false) _ _ _ from At ?_)
   simp only[HE,if_false];exact At ⟨rfl,rfl,_,hl'⟩
 ·rintro⟨r1,r2⟩ s' ⟨hr,rfl,_⟩
  simp only at hr;subst hr;exact At h
theorem zq{k:List Int}{b:Addr}{Q:Bool->B2->Prop}(hk:Ks (I9 prog w) s.heap k b)(ys:List Value)(hy:∀y∈ys,∃k' b',y=.ref b'/\Ks (I9 prog w) s.heap k' b')(h:Q false s):wpAny (model prog w) A (Nc (.ref b) ys) Q E s:=by
 unfold Nc;refine AC ?_;refine LA _ (λrest r s'=>r.1=none/\s'=s/\∀y∈rest,∃k' b',y=.ref b'/\Ks (I9 prog w) s.heap k' b') _ ?_ ?_ _ _ ⟨rfl,rfl,hy⟩
 ·rintro v rest r s' ⟨hr,rfl,hl⟩
  obtain⟨k',b',rfl,hk'⟩:=hl v lS;have hl':∀y∈rest,∃k' b',y=.ref b'/\Ks (I9 prog w) s'.heap k' b':=λy hy=>hl y (lO _ hy)
  dsimp only
  split
  ·exact At ⟨rfl,rfl,hl'⟩
  ·refine AC (Pz hk ?_)
   simp only[KG,HE,if_false];refine AC (Pz hk' ?_);simp only[KG,HE,if_false];refine AC (kD hk ?_);simp only[HE,if_false];refine AC (kD hk' ?_);simp only[HE,if_false];exact At ⟨rfl,rfl,hl'⟩
 ·rintro⟨r1,r2⟩ s' ⟨hr,rfl,_⟩
  simp only at hr;subst hr;exact At h
theorem tO{a:Addr}{led:Bool}{L:List Int->Value->Prop}{ks:List (wN prog w L).K}{o:Obj}{es:Array (Int×Value)}{ep:Nat}{t:ID}(S:kG (wN prog w L) s.heap a led ks o es ep t)(hu:A.units<cLine){k:List Int}{b:Addr}(hk:Ks (I9 prog w) s.heap k b){Q:SetFound->B2->Prop} :
  ∀(m f:Nat)(p:Probe)(st:Option Probe),m<f->m<10*turns t.mask->st.getD (t.probeStart (IU (I9 prog w) k))=p->p.dummy=none->¬Tk t (it t.mask m p).j->(∀k',k'<m->Tk t (it t.mask k' p).j) ->
  (k∈ks->Q (.there none) s)->((∀k',k'<m->∀i:Nat,t.place[i]? = some (it t.mask k' p).j->ks[i]?≠some k)->Q (.free (it t.mask m p).j false) s) ->
  wpAny (model prog w) A (Oq a (.ref b) (IU (I9 prog w) k) true f st) Q E s:=by
 intro m
 induction m using QU with
 |ind m ih=>
  intro f p st hmf hmt hst hpd hn ht hthere hfree;obtain⟨f,rfl⟩:∃g,f=g+1:=⟨f-1,by lia⟩
  unfold Oq;refine AC (JD S.ho S.hd S.inv.fits ?_);dsimp only;have hgw:t.gaveWay=false:=by
   obtain⟨c,hc⟩:=S.inv.pow;have h7:=S.inv.ge;unfold SetTable.gaveWay;cases c with
   |zero=>rw[Of] at hc; lia
   |succ c=>
    rw[Jg] at hc;have:t.mask % 2=1:=by lia
    rw[this]; rfl
  rw[hgw];simp only[HE,if_false];rw[hst,rC];have nP:∀{i:Nat},((es[i]?.map (·.1)).getD 0)≠IU (I9 prog w) k->ks[i]?≠some k:=λ{i}hne e=>by
   obtain⟨x,e1,_⟩:=S.els.get' e;rw[H9] at e1;rw[e1] at hne;exact hne rfl
  generalize hr:MD t _ (IU (I9 prog w) k) (10*turns t.mask) p=r;have hr:MD t (λi=>(es[i]?.map (·.1)).getD 0) (IU (I9 prog w) k) (10*turns t.mask) p=r:=hr
  rcases rB S.inv.rise S.inv.dum (λi=>(es[i]?.map (·.1)).getD 0) (IU (I9 prog w) k) (10*turns t.mask) p m hmt hpd hn ht with⟨e,hno⟩ | ⟨k1,i,hk1,hi,hh,e,hno⟩
  ·rw[e] at hr
   subst hr;exact At (hfree λk' hk' i hi=>nP (hno k' hk' i hi))
  ·rw[e] at hr
   subst hr;have hio:i<es.size:=by rw[<-S.inv.size]; exact(JP.mp hi).1
   obtain⟨y,hy⟩:∃y,es[i]? = some y:=⟨es[i],by simp[hio]⟩
   obtain⟨ki,hki,⟨_,bi,ebi,hti⟩,_⟩:=S.els.get (i:=i) (q:=y) (by rw[H9]; exact hy)
   obtain⟨yh,yv⟩:=y;have ebi:yv=.ref bi:=ebi;subst ebi;dsimp only;have hsm:t.sameMemory t.moves t.mask=some true:=by unfold SetTable.sameMemory; simp
   have hsplit:m=k1+1+(m-(k1+1)):=by lia
   have recu:ki≠k->wpAny (model prog w) A (Oq a (.ref b) (IU (I9 prog w) k) true f (some (it t.mask (k1+1) p))) Q E s:=λhq=>by
    refine ih (m-(k1+1)) (by lia) f (it t.mask (k1+1) p) _ (by lia) (by lia) rfl (rD _ _ _ hpd) ?_ (λk' hk' =>?_) hthere λhfr=>?_
    ·rw[<-eU,<-hsplit]; exact hn
    ·rw[<-eU]; exact ht _ (by lia)
    ·have:=hfree λk' hk' i' hi' =>?_
     ·rw[hsplit,eU] at this; exact this
     ·rcases Li k' k1 with q | q | q
      ·exact nP (hno k' q i' hi')
      ·subst q
       have:i'=i:=by
        have a1:=gc S.inv.rise hi';have a2:=gc S.inv.rise hi;rw[a1] at a2
        injection a2
       subst this;rw[hki];intro z;exact hq (Fu z)
      ·have:=hfr (k'-(k1+1)) (by lia) i' (by rw[<-eU,show k1+1+(k'-(k1+1))=k' by lia]; exact hi')
       exact this
   have seen:∀{Q':Bool->B2->Prop},Q' false s->wpAny (model prog w) A (Nc (.ref b) ((es.filter (·.1 == IU (I9 prog w) k)).toList.map (·.2))) Q' E s:=λhQ'=>zq hk _ (λy hyy=>by
     obtain⟨q,hq,rfl⟩:=IL.mp hyy;have hq:=(Array.mem_filter.mp (Om.mp hq)).1;obtain⟨j,hj,e⟩:=HV (Om.mpr hq);obtain⟨kj,_,⟨_,bj,ebj,htj⟩,_⟩:=S.els.get (i:=j) (q:=q) (by rw[Bi hj,e])
     exact⟨kj,bj,ebj,htj⟩) hQ'
   cases hled:t.led
   ·simp only[Nu,if_true]
    refine AC (seen ?_);simp only[HE,if_false];rw[hy];dsimp only;refine AC (HW (Qb hu hti hk ?_));refine AC (JD S.ho S.hd S.inv.fits ?_);dsimp only
    by_cases hq:ki=k
    ·rw[decide_eq_true hq]
     simp only[Qr,if_true];exact At (hthere (hq▸IE hki))
    ·rw[decide_eq_false hq]
     simp only[ML,HE,if_false];rw[hsm];dsimp only;rw[if_pos rfl,gc S.inv.rise hi];dsimp only;rw[hy];dsimp only;refine AC (Py (AC (At ?_)));exact recu hq
   ·simp only[KG,HE,if_false]
    rw[hy];dsimp only;refine AC (HW (Qb hu hti hk ?_));refine AC (JD S.ho S.hd S.inv.fits ?_);dsimp only
    by_cases hq:ki=k
    ·rw[decide_eq_true hq]
     simp only[Qr,if_true];exact At (hthere (hq▸IE hki))
    ·rw[decide_eq_false hq]
     simp only[ML,HE,if_false];rw[hsm];dsimp only;rw[if_pos rfl,gc S.inv.rise hi];dsimp only;rw[hy];dsimp only;refine AC (Py (AC (At ?_)));exact recu hq
end
section
variable{prog:Fk}{w:World}{A:HN}{E:Value->B2->Prop}{s:B2}
theorem kG.toks{D:Kd prog w}{a:Addr}{led:Bool}{ks:List D.K}{o:Obj}{es:Array (Int×Value)}{ep:Nat}{t:ID}(S:kG D s.heap a led ks o es ep t)(n:Nat):kG D ({ s with toks:=n }:B2).heap a led ks o es ep t:=S
theorem uQ{L:List Int->Value->Prop}(hu:A.units<cLine):Adds (wN prog w L) A:=by
 intro E s a led ks o es ep t k x Q S hx hb h;obtain⟨hL,b,rfl,hk⟩:=hx;unfold setAdd;refine HW ?_;refine AC (wpAny_pyHash_tuple hu hk ?_);have S':=S.toks (s.toks+(k.length+1));have hk':Ks (I9 prog w) ({ s with toks:=s.toks+(k.length+1) }:B2).heap k b:=hk
 have htk:s.toks<=s.toks+(k.length+1):=L8 _ _;have hsz:=S.size;unfold setAddHashed setAddHashedIn;refine HW (AC (JD S.ho S.hd S.inv.fits ?_));dsimp only;rw[show byScan (.ref b) es=false from rfl]
 simp only[HE,if_false];obtain⟨m,hm,hn,hle,ht⟩:=S.inv.first (IU (I9 prog w) k);have hmask:=S.inv.le;refine AC (tO (s:={ s with toks:=s.toks+(k.length+1) }) S' hu hk' m 100000 (start t.mask (IU (I9 prog w) k)) none (by lia) (by unfold turns; lia) rfl rfl hn ht (λhmem=>?_) λhno=>?_)
 ·exact At (h _ s.heap _ ks o es ep t htk (M6 a s.heap) S (.inl ⟨hmem,rfl⟩))
 ·dsimp only
  have hmem:k∉ks:=λhmk=>by
   obtain⟨i,hi,e⟩:=HV hmk;have hki:ks[i]? = some k:=by rw[Bi hi,e]
   obtain⟨x,e1,_⟩:=S.els.get' hki;have hio:i<t.place.size:=by rw[S.inv.size,hsz]; exact hi
   have hpl:t.place[i]? = some t.place[i]:=by simp[hio]
   have hz:(t.place[i],((IU (I9 prog w) k,x):Int×Value))∈t.place.toList.zip es.toList:=by
    refine IE (i:=i) ?_;rw[Lb];exact⟨by rw[H9]; exact hpl,e1⟩
   obtain⟨m',e2,e3⟩:=S.inv.way _ hz;have e2:(it t.mask m' (start t.mask (IU (I9 prog w) k))).j=t.place[i]:=e2;have hlt:m'<m:=by
    rcases Li m' m with q | q | q
    ·exact q
    ·subst q; exact absurd (Cm (by rw[e2]; exact hpl)) hn
    ·exact absurd (e3 m q) hn
   exact hno m' hlt i (by rw[e2]; exact hpl) hki
  obtain⟨M1,l1⟩:=S.inv.put (.ref b) hn hle ⟨m,rfl,ht⟩;refine AC (JD S.ho S.hd S.inv.fits ?_);dsimp only;have p1:(K1 es (t.put (it t.mask m (start t.mask (IU (I9 prog w) k))).j).2 (IU (I9 prog w) k,.ref b)).toList.Perm ((IU (I9 prog w) k,.ref b)::es.toList):=by
   refine(K3 es _ _).trans ?_;rw[Kp];exact LP _ _
  generalize t.put (it t.mask m (start t.mask (IU (I9 prog w) k))).j=pt at M1 l1 p1 ⊢;obtain⟨t1,p⟩:=pt;dsimp only at M1 l1 p1 ⊢;generalize K1 es p (IU (I9 prog w) k,K0 b)=es1 at M1 p1 ⊢;rw[M1.plain];simp only[if_true];refine AC (kH hk' ?_);simp only[if_true];refine AC (oM (D:=wN prog w L) (k:=k) (x:=.ref b) (s:={ s with toks:=s.toks+(k.length+1) }) S' hmem ⟨hL,b,rfl,hk'⟩ M1 (l1.trans S.led) p1 hb λh1 g1 f1 f2=>?_)
  have fin:∀h',Fin (wN prog w L) s.heap a led ks k h'->Q true { s with heap:=h',toks:=s.toks+(k.length+1) }:=λh' ⟨ks',o',es',ep',t',sb,K',pm⟩=>h _ h' _ ks' o' es' ep' t' htk sb K' (.inr ⟨hmem,pm⟩)
  simp only[Nu,MZ];have hsz1:es1.size=ks.length+1:=by rw[<-Dx,p1.length_eq,Bn,Dx,hsz]
  by_cases hf:t1.tooFull=true
  ·rw[if_pos hf]
   unfold setRelay;refine AC (AC (JD (s:={ s with heap:=h1,toks:=s.toks+(k.length+1) }) g1 rfl M1.fits ?_))
   dsimp only;have hg:grown (es.size+1)=grown es1.size:=by rw[hsz1,hsz]
   rw[hg];obtain⟨t2,order,e2,hp2,I2,l2⟩:=Cn M1 (by lia)
   have hab:¬MC (grown es1.size)>FX:=by
    have hgr:grown es1.size=es1.size*4:=by unfold grown; rw[if_neg (by lia)]
    obtain⟨_,_,_,h4⟩:=mP (n:=grown es1.size) (by rw[hgr]; lia)
    rw[IC];rw[hgr] at h4 ⊢;lia
   rw[if_neg hab,e2];have hpp:=oJ hp2;have hsz2:(order.filterMap (es1[·]?)).size=es1.size:=by rw[<-Dx,hpp.length_eq,Dx]
   refine AC (show wpAny _ _ (do
     if (order.filterMap (es1[·]?)).size != es1.size then Mi "internal:set-table-lost-an-element"
     pure (order.filterMap (es1[·]?),t2)) _ _ _ from ?_)
   rw[hsz2];simp only[bne_self_eq_false,HE,if_false];refine At ?_;dsimp only;refine NY (s:={ s with heap:=h1,toks:=s.toks+(k.length+1) }) g1 rfl ?_ (by rw[IC,hsz2]; lia)
   exact At (fin _ (f2 _ t2 I2 (l2.trans (l1.trans S.led)) hpp))
  ·rw[if_neg hf]
   exact At (fin _ (f1 (by simpa using hf)))
end
end ST
end
section
namespace ST
open PySem PySem.SetTable PySem.Spec PySem.W
namespace F
theorem rE:Manifest.owners.lookup (String.ofList ("rotareti_tes".toList).reverse)=some Manifest.sig_set_iterator:=by kernel_rfl
theorem cA:Slot "set_iterator" "__next__" "set_iterator.__next__" :=
 Slot.of (owner := "set_iterator") (n := "__next__") (by rw[typeLookup_type,Q0]; kernel_rfl) (by decide +kernel) (by decide +kernel) (by decide +kernel) (by first | exact .inl (by decide +kernel) | exact .inr (by decide +kernel)) (by rw[OU]; kernel_rfl)
theorem jH:Slot "set_iterator" "__iter__" "set_iterator.__iter__" :=
 Slot.of (owner := "set_iterator") (n := "__iter__") (by rw[typeLookup_type,Q0]; kernel_rfl) (by decide +kernel) (by decide +kernel) (by decide +kernel) (by first | exact .inl (by decide +kernel) | exact .inr (by decide +kernel)) (by rw[OU]; kernel_rfl)
theorem iL:entryFor table "set_iterator.__next__" = some Il.«set_iterator.__next__» := entryFor_of_tree (by kernel_rfl)
theorem jI(a:Value):Pd "set_iterator.__next__" ⟨[a],[]⟩:=by
 unfold Pd;rw[signature?_of (id := "set_iterator.__next__") (n := "__txen__".toList) (o := "rotareti_tes".toList) (by kernel_rfl) rE]
 kernel_rfl
theorem qd(a:Value):Pd "set_iterator.__iter__" ⟨[a],[]⟩:=by
 unfold Pd;rw[signature?_of (id := "set_iterator.__iter__") (n := "__reti__".toList) (o := "rotareti_tes".toList) (by kernel_rfl) rE]
 kernel_rfl
theorem nN:entryFor table "set_iterator.__iter__" = some Il.«dict_keyiterator.__iter__» :=
 entryFor_alias (id' := "dict_keyiterator.__iter__") (by kernel_rfl) (by first | rfl | decide +kernel | (unfold String.splitOn; simp +decide [String.splitOnAux])) (by decide +kernel) (by kernel_rfl)
theorem mQ:entryFor table "set.__iter__" = some Il.«frozenset.__iter__» := entryFor_alias (id' := "frozenset.__iter__") (by kernel_rfl) rfl (by decide +kernel) (by kernel_rfl)
end F
noncomputable def i7(w:World):Bool:=w.params.followText "set-order"
theorem mR{α:Type}:∀{l:List α}{i:Nat}(h:i<l.length),(l[i]::l.eraseIdx i).Perm l
 |x::l,0,_=>.refl _
 |x::l,i+1,h=>(List.Perm.swap _ _ _).trans ((mR (l:=l) (i:=i) (by simpa using h)).cons x)
theorem oN{α:Type}(next:Nat->Nat):∀(f k:Nat)(left:List α)(out:Array α),left.length=f->(Pa next f k left out).toList.Perm (out.toList++left)
 |0,k,left,out,h=>by
  have:left=[]:=NQ h;subst this;rw[FB]; exact .refl _
 |f+1,k,left,out,h=>by
  have hi:next k % left.length<left.length:=KD _ (by lia)
  unfold Pa;rw[Bi hi];dsimp only;refine(oN next f (k+1) _ _ (by rw[List.length_eraseIdx,if_pos hi]; lia)).trans ?_
  rw[Kp,BM];exact Hc _ (mR hi)
noncomputable def eV(w:World)(a:Addr)(ep:Nat)(es:Array (Int×Value)):Array (Int×Value):=if i7 w=true then pickOrder (w.params.setOrder a ep) es else es
theorem rF(w:World)(a:Addr)(ep:Nat)(es:Array (Int×Value)):(eV w a ep es).toList.Perm es.toList:=by
 unfold eV
 split
 ·unfold pickOrder
  have:=oN (w.params.setOrder a ep) es.size 0 es.toList #[] (by simp)
  simpa using this
 ·exact .refl _
theorem jJ(w:World)(a:Addr)(ep:Nat)(es:Array (Int×Value)):(eV w a ep es).size=es.size:=by
 rw[<-Dx,(rF w a ep es).length_eq,Dx]
noncomputable def slotAt(w:World)(t:ID):Nat->Nat
 |0=>0
 |i+1=>if i7 w=true then 0 else t.place.getD i 0+1
theorem mS(w:World)(t:ID)(i:Nat):slotAt w t (i+1)=if i7 w=true then 0 else t.place.getD i 0+1:=rfl
section
variable{prog:Fk}{w:World}{A:HN}{E:Value->B2->Prop}{s:B2}{a:Addr}{o:Obj}{es:Array (Int×Value)}{ep:Nat}{t:ID}
theorem mT(ho:s.heap.get? a=some o)(hd:o.data=.set es ep t)(T:ef t es)(hl:t.led = !i7 w){i:Nat}(hi:i<=es.size){Q:Option (Value×Nat)->B2->Prop}
  (h:Q (((eV w a ep es)[i]?).map λe=>(e.2,slotAt w t (i+1))) s):wpAny (model prog w) A (setNext a (slotAt w t i) i ep) Q E s:=by
 unfold setNext;refine AC (JD ho hd T.fits ?_);dsimp only;unfold Qf;refine AC (AC (Ju (At ?_)));show wpAny _ _ (if i7 w=true then _ else _) _ _ _
 by_cases hb:i7 w=true
 ·rw[if_pos hb]
  simp only[bne_self_eq_false,HE,if_false];unfold setWalk;refine AC (AC (JD ho hd T.fits ?_));dsimp only;unfold Qf;refine AC (AC (Ju (At ?_)));show wpAny _ _ (if i7 w=true then _ else _) _ _ _
  rw[if_pos hb];refine AC (Ju (At ?_));refine At ?_;have e1:slotAt w t (i+1)=slotAt w t i:=by
   cases i with
   |zero=>rw[mS,if_pos hb]; rfl
   |succ i=>rw[mS,mS,if_pos hb,if_pos hb]
  unfold eV at h;rw[if_pos hb,e1] at h;exact h
 ·rw[if_neg hb]
  have hbf:i7 w=false:=by simpa using hb
  rw[hbf] at hl;have hbel:below t.place (slotAt w t i)=i:=by
   cases i with
   |zero=>exact tM T.rise
   |succ i=>
    rw[mS,if_neg hb];have hlt:i<t.place.size:=by rw[T.size]; lia
    exact tL T.rise (by simp[Jk,hlt])
  show wpAny _ _ (if (!t.plain && decide (es.size>1))=true then _ else _) _ _ _
  rw[T.plain,if_neg (by simp)]
  refine AC (show wpAny _ _ (if (!t.led && !es.isEmpty)=true then Mi "set:maker-not-led" else pure ()) _ _ _ from ?_)
  rw[hl,if_neg (by simp)]
  refine At (At ?_);rw[hbel];unfold eV at h;rw[if_neg hb,mS,if_neg hb] at h
  by_cases hlt:i<es.size
  ·have hlt':i<t.place.size:=by rw[T.size]; exact hlt
   have e1:es[i]? = some es[i]:=by simp[hlt]
   have e2:t.place[i]? = some t.place[i]:=by simp[hlt']
   have e3:t.place.getD i 0=t.place[i]:=by simp[Jk,hlt']
   rw[e1,e3] at h;rw[e1,e2];exact h
  ·have e1:es[i]? = none:=by simp; lia
   rw[e1] at h;rw[e1];exact h
noncomputable abbrev Fl(sl i n ep:Nat)(a:Addr):Obj:={ cls:=.type "set_iterator",data:=.fields #[Ll sl,Ll i,.ref a,Ll n,Ll ep] }
theorem tP(ho:s.heap.get? a=some o)(hex:o.ExactSet)(hd:o.data=.set es ep t)(T:ef t es){Q:Value->B2->Prop}(h:Q (.ref s.heap.objs.size) { s with heap:=s.heap.push (Fl 0 0 es.size ep a) }) :
  wpAny (model prog w) A (MM (.ref a)) Q E s:=by
 have hT:s.TypeIs (.ref a) "set" := ⟨o,ho,hex.1⟩;refine wpAny_pyIter_slot hT OC (Hn OC hT F.mQ ?_ (PySem.F.args_set_iter_1 _));unfold Il.«frozenset.__iter__» QE slotArgs QF;simp only[NL,KG,HE,↓reduceIte,bind_assoc,Ic,bne_self_eq_false];refine AC (At ?_);refine AC (show wpAny _ _ (pure a) _ _ _ from At ?_)
 refine AC (N8 ho hd T.fits ?_);refine AC (At ?_);refine AC ?_;unfold setDrawn Qf;refine AC (JD ho hd T.fits ?_);dsimp only;refine AC (AC (Ju (At ?_)));refine At ?_;show wpAny _ _ (if (!i7 w && (!t.plain && decide (es.size>1)))=true then _ else _) _ _ _
 rw[T.plain,if_neg (by simp)]
 refine AC (At ?_);refine AC (wpAny_setEpoch_of ho hd T.fits ?_);refine AC (HQ (At ⟨_,rfl, "set_iterator",_,⟨_,Ee _ rfl,rfl⟩,F.cA.lookup,?_⟩));exact h
theorem BD{I:Addr}{i:Nat}(hI:s.heap.get? I=some (Fl (slotAt w t i) i es.size ep a))(ho:s.heap.get? a=some o)(hd:o.data=.set es ep t)(T:ef t es)(hl:t.led = !i7 w){v:Value}(hv:((eV w a ep es)[i]?).map (·.2)=some v)
  {Q:Option Value->B2->Prop} (h:∀h',h'.get? I=some (Fl (slotAt w t (i+1)) (i+1) es.size ep a)->JR I s.heap h'->Q (some v) { s with heap:=h' }):wpAny (model prog w) A (L1 (.ref I)) Q E s:=by
 have hT:s.TypeIs (.ref I) "set_iterator" := ⟨_,hI,rfl⟩;obtain⟨e,he,rfl⟩:=Jn.mp hv;have hlt:i<es.size:=by rw[<-jJ w a ep es]; exact(JP.mp he).1
 unfold L1;refine AC (LF (II (name:=Jf "__next__") hT F.cA (Hn F.cA hT F.iL ?_ (F.jI _))));unfold Il.«set_iterator.__next__» slotArgs;simp only[NL,KG,HE,↓reduceIte,Ic,bne_self_eq_false];refine AC (At ?_);refine AC (wpAny_fieldsOf hI rfl ?_);show wpAny _ _ (setEntries a >>= _) _ _ _;refine AC (N8 ho hd T.fits ?_);rw[if_neg (by simp)]
 show wpAny _ _ (setNext a ((slotAt w t i:Int)).toNat ((i:Int)).toNat ((ep:Int)).toNat >>= _) _ _ _;simp only[KP];refine AC (mT ho hd T hl (JT hlt) ?_);rw[he];show wpAny _ _ (setField (.ref I) 0 (Ll (slotAt w t (i+1))) >>= _) _ _ _;refine AC (JK hI (by simp) λh1 g1 s1=>?_)
 refine AC (JK g1 (by simp) λh2 g2 s2=>?_)
 refine At ⟨e.2,rfl,At (h h2 ?_ (s1.trans s2))⟩;rw[g2];rfl
theorem next_end(hh:A.handled=none){I:Addr}(hI:s.heap.get? I=some (Fl (slotAt w t es.size) es.size es.size ep a))(ho:s.heap.get? a=some o)(hd:o.data=.set es ep t)(T:ef t es)(hl:t.led = !i7 w)
  {Q:Option Value->B2->Prop} (h:∀h',On I s.heap h'->Q none { s with heap:=h' }):wpAny (model prog w) A (L1 (.ref I)) Q E s:=by
 have hT:s.TypeIs (.ref I) "set_iterator" := ⟨_,hI,rfl⟩;have he:(eV w a ep es)[es.size]? = none:=by rw[<-jJ w a ep es]; simp
 unfold L1;refine AC (LF (II (name:=Jf "__next__") hT F.cA (Hn F.cA hT F.iL ?_ (F.jI _))));unfold Il.«set_iterator.__next__» slotArgs;simp only[NL,KG,HE,↓reduceIte,Ic,bne_self_eq_false];refine AC (At ?_);refine AC (wpAny_fieldsOf hI rfl ?_);show wpAny _ _ (setEntries a >>= _) _ _ _;refine AC (N8 ho hd T.fits ?_);rw[if_neg (by simp)]
 show wpAny _ _ (setNext a ((slotAt w t es.size:Int)).toNat ((es.size:Int)).toNat ((ep:Int)).toNat >>= _) _ _ _;simp only[KP];refine AC (mT ho hd T hl (Db _) ?_);rw[he];show wpAny _ _ (setField (.ref I) 2 .none >>= _) _ _ _;refine AC (JK hI (by simp) λh1 g1 s1=>?_)
 refine AC (show wpAny _ _ (newExc (.type "StopIteration") []) _ _ _ from ?_)
 simp only[newExc,newTuple];refine AC (HQ ?_ (by size_fits))
 refine AC (m:=Mj _ _) (Mh (a:=HM) (by first | rfl | (simp only[Mj]; rfl)) ?_)
 refine HQ ?_ (by size_fits)
 simp only[raiseNew];refine AC (wpAny_handled ?_)
 first | rw[show A.in1.handled=none from hh] | rw[hh]
 refine AC (At (wpAny_throw ?_));refine AC (MB (T := "StopIteration") (b:=true) ⟨_,Ee _ rfl,rfl⟩ OV ?_);exact At (h _ ((s1.extBut.push _).push _))
theorem zu(hh:A.handled=none)(I:Addr)(hne:a≠I)(hd:o.data=.set es ep t)(T:ef t es)(hl:t.led = !i7 w) :
  Walks prog w A I [I,a] [I] es.size (λi v=>((eV w a ep es)[i]?).map (·.2)=some v) (λi h=>h.get? I=some (Fl (slotAt w t i) i es.size ep a)/\h.get? a=some o) where
 sub:=λb hb=>by simp at hb; simp[hb]
 frame:=λ_ _ _ st hk=>⟨hk I (by simp) _ st.1,hk a (by simp) _ st.2⟩
 item:=λi s Q E hi st hQ=>by
  have hi':i<(eV w a ep es).size:=by rw[jJ]; exact hi
  refine BD (v:=(eV w a ep es)[i].2) st.1 st.2 hd T hl (by simp[hi']) λh' g' sb=>?_
  exact hQ _ h' s.toks (by simp[hi']) ⟨g',sb.extBut a o hne st.2⟩ λb o hb e=>sb.extBut b o (λz=>hb (by simp[z])) e
 done:=λs Q E st hQ=>next_end hh st.1 st.2 hd T hl λh' he'=>hQ h' s.toks λb o hb e=>he' b o (λz=>hb (by simp[z])) e
 self:=λi s Q E st hQ=>by
  have hT:s.TypeIs (.ref I) "set_iterator" := ⟨_,st.1,rfl⟩;refine wpAny_pyIter_slot hT F.jH (Hn F.jH hT F.nN (show wpAny _ _ (ret (.ref I)) _ _ s from ?_) (F.qd _))
  exact At ⟨_,rfl, "set_iterator",_,hT,F.cA.lookup,hQ⟩
theorem zw{r:Addr}{Q:Bool->B2->Prop}(hT:s.TypeIs (.ref r) "set")(h:Q false s):wpAny (model prog w) A (MX (.ref r)) Q E s:=by
 unfold MX;refine AC (OH hT PySem.F.slot_set_len.lookup ?_);generalize hid:("set.__len__" : String)=id0
 wp_delta
 rw[show splitId id0=some ("set", "__len__") from by subst hid; decide +kernel]
 subst hid;refine AC (MB (T := "set") (b:=true) hT (by rw[OU]; kernel_rfl) ?_)
 refine wpAny_ite_split (λhab=>absurd hab (by decide)) (λ_=>?_)
 refine wpAny_ite_split (λ_=>?_) (λhab=>absurd (by decide +kernel) hab)
 exact AC (L0 hT (At h))
theorem BE(hex:o.ExactSet)(hd:o.data=.set es ep t)(T:ef t es)(hl:t.led = !i7 w):KdlSrc prog w "set" a a es.size (λi v=>((eV w a ep es)[i]?).map (·.2)=some v) (λh=>h.get? a=some o) where
 type:=λ_ ho=>⟨o,ho,hex.1⟩
 there:=λ_ ho=>⟨DD ho,DD ho⟩
 keep:=λ_ _ ho hk=>hk a (.inl rfl) _ ho
 notList:=by decide
 notTuple:=by decide
 hint:=λ_ _ _ _ ho hq=>zw ⟨o,ho,hex.1⟩ hq
 iter:=λA s hh ho=>⟨_,_,(λ_ _ hq=>tP ho hex hd T hq),zu hh _ (FC (DD ho)) hd T hl,⟨Ee _ rfl,Ap _ ho⟩⟩
end
end ST
end
section
namespace ST
open PySem PySem.SetTable PySem.Spec
noncomputable abbrev gZ(led:Bool):Obj:={ cls:=.type "set",dict:=none,data:=.set #[] 0 (.fresh 0 0 led) }
def Sets{prog:Fk}{w:World}(D:Kd prog w)(h:Heap)(a:Addr)(M:D.K->Prop)(n:Nat):Prop:=∃ks o es ep t,kG D h a (!i7 w) ks o es ep t/\(∀k,k∈ks↔M k)/\ks.length<=n
section
variable{prog:Fk}{w:World}{A:HN}{R:OZ->B2->Prop}{I:Addr}{fp wr:List Addr}{G:Array QD->Array QD->Prop}{n:Nat}{P:Nat->Value->Prop}{St:Nat->B2->Prop}
theorem rG{D:Kd prog w}(ad:Adds D A.in1)(W:WalksS prog w A.in1 I fp wr G n P St)(S:Addr)(hS:S∉fp)(val:Nat->D.K)(h0:Heap)
  (hval:∀i v h,P i v->(∀b o,b∉S::wr->h0.get? b=some o->h.get? b=some o)->D.is h (val i) v)
  (hst:∀i h h' k v,(∀b o,b∉S::wr->h0.get? b=some o->h.get? b=some o)->(∀b o,b∉wr->h.get? b=some o->h'.get? b=some o)->k=val i->D.is h k v->D.is h' k v) (hn:n<=1000) :
  ∀(m i:Nat)(s:B2),n-i=m->i<=n->St i s->(∀b o,b∉S::wr->h0.get? b=some o->s.heap.get? b=some o)->Sets D s.heap S (λk=>∃j,j<i/\val j=k) i ->
   (∀s',Moved (S::wr) G s s'->Sets D s'.heap S (λk=>∃j,j<n/\val j=k) n->R (.ok (.ret .none)) s') ->
   Js (model prog w) A (.builtin "set.update.loop" ⟨[.ref S,.ref I],[]⟩) R s:=by
 have hw:S∉wr:=λz=>hS (W.sub _ z)
 have up:∀b∈wr,b∈S::wr:=λb z=>lO _ z
 have move:∀{s s':B2}{i:Nat},i<=n->(∀b o,b∉S::wr->h0.get? b=some o->s.heap.get? b=some o)->Moved wr G s s'->Sets D s.heap S (λk=>∃j,j<i/\val j=k) i->Sets D s'.heap S (λk=>∃j,j<i/\val j=k) i:=λ{s s' i}hi old mv T=>by
  obtain⟨ks,o,es,ep,t,K,mm,l⟩:=T;refine⟨ks,o,es,ep,t,⟨mv.heap S o hw K.ho,K.hex,K.hd,K.inv,K.led,?_,K.nd⟩,mm,l⟩;have:∀{ks:List D.K}{es:List (Int×Value)},(∀k∈ks,∃j,j<i/\val j=k)->oK D s.heap ks es->oK D s'.heap ks es:=λ{ks es}hm e=>by
   induction e with
   |nil=>exact .nil
   |cons a r ih=>
    obtain⟨j,_,ej⟩:=hm _ lS;exact .cons (hst j _ _ _ _ old mv.heap ej.symm a) (ih λk hk=>hm k (lO _ hk))
  exact this (λk hk=>(mm k).mp hk) K.els
 intro m
 induction m with
 |zero=>
  intro i s e1 e2 st old T fin;obtain rfl:i=n:=by lia
  refine JH Lh ?_;rw[JG KF _];refine AC (show wpAny _ A.in1 (L1 (.ref I)) _ _ s from W.done s _ _ st λs' mv=>?_)
  exact At (fin s' (mv.mono up) (move (Db _) old mv T))
 |succ m ih=>
  intro i s e1 e2 st old T fin;have lt:i<n:=by lia
  refine JH Lh ?_;rw[JG KF _];refine AC (show wpAny _ A.in1 (L1 (.ref I)) _ _ s from W.item i s _ _ lt st λv s' hP st' mv=>?_)
  have old':∀b o,b∉S::wr->h0.get? b=some o->s'.heap.get? b=some o:=λb o hb e=>mv.heap b o (λz=>hb (up b z)) (old b o hb e)
  obtain⟨ks,o,es,ep,t,K,mm,l⟩:=move e2 old mv T;refine AC (show wpAny _ A.in1 (L3 [v] (setAdd S v)) _ _ s' from HW ?_)
  refine ad K (hval i v _ hP old') (by lia) λb h' tk ks' o' es' ep' t' htk sb K' ar=>?_
  have hsb:∀b o,b≠S->s'.heap.get? b=some o->h'.get? b=some o:=λb o hb e=>(sb.2 b hb).trans e
  refine At ⟨Ko KF _,ih (i+1) _ (by lia) lt (W.frame _ s' _ _ st' htk λb hb o e=>hsb b o (λz=>hS (z▸hb)) e) (λb o hb e=>hsb b o (λz=>hb (z▸lS)) (old' b o hb e)) ?_ λs2 mv2 T2=>?_⟩
  ·refine⟨ks',o',es',ep',t',K',λk=>?_,?_⟩
   ·have sx:(∃j,j<i+1/\val j=k)↔(∃j,j<i/\val j=k)\/k=val i:=by
     constructor
     ·rintro⟨j,hj,e⟩
      by_cases q:j=i
      ·subst q; exact .inr e.symm
      ·exact .inl ⟨j,by lia,e⟩
     ·rintro (⟨j,hj,e⟩ | e)
      ·exact⟨j,by lia,e⟩
      ·exact⟨i,by lia,e.symm⟩
    show k∈ks'↔∃j,j<i+1/\val j=k;have mk:k∈ks↔∃j,j<i/\val j=k:=mm k;rw[sx,<-mk];rcases ar with⟨a1,rfl⟩ | ⟨a1,a2⟩
    ·exact⟨λz=>.inl z,λz=>z.elim id λe=>e▸a1⟩
    ·rw[a2.mem_iff,Hk]; exact or_comm
   ·rcases ar with⟨a1,rfl⟩ | ⟨a1,a2⟩
    ·lia
    ·rw[a2.length_eq,Bn]; lia
  ·refine fin s2 (Moved.trans W.gtrans ((mv.mono up).then_heap htk λb o hb e=>hsb b o (λz=>hb (z▸lS)) e) mv2) T2
end
section
variable{prog:Fk}{w:World}{A:HN}{E:Value->B2->Prop}{s:B2}
theorem BF(a:Value){Q:Value->B2->Prop}(h:Q (.ref s.heap.objs.size) { s with heap:=s.heap.push (gZ (!i7 w)) }) :
  Js (model prog w) A (.call (.builtin "set.__new__") ⟨[.type "set",a],[]⟩) (wants Q E) s:=by
 refine LS (show wpAny _ A.in1 (do checkBuiltinCall "set.__new__" ⟨[.type "set",a],[]⟩; again (.builtin "set.__new__" ⟨[.type "set",a],[]⟩)) _ _ s from ?_)
 refine AC (Mh (PySem.F.newCall_set_1 a) (At ⟨Ko OD _,JH PySem.F.entry_set_new ?_⟩));rw[JG OD _];unfold Il.«set.__new__» QG;have self:=sub_set_self;obtain⟨hp,g,d,tk,os⟩:=s;dsimp only
 wp_walk
 refine Ju (At ?_);simp only[newObj];exact AC (wpAny_alloc (At (At h)))
theorem rH{D:Kd prog w}(ad:∀A',A'.units<=A.units+4->Adds D A'){l:Addr}{items:Array Value}{val:Nat->D.K}{Q:Value->B2->Prop}
  (hh:A.handled=none) (hl:s.heap.IsList l items\/s.heap.IsTuple l items) (hn:items.size<=1000)
  (hval:∀i v h,items[i]? = some v->(∀b o,s.heap.get? b=some o->h.get? b=some o)->D.is h (val i) v)
  (hst:∀i h h' k v I,s.heap.objs.size<=I->(∀b o,s.heap.get? b=some o->h.get? b=some o)->(∀b o,b≠I->h.get? b=some o->h'.get? b=some o)->k=val i->D.is h k v->D.is h' k v)
  (h:∀(h':Heap)(tk:Nat),s.toks<=tk->Sets D h' s.heap.objs.size (λk=>∃j,j<items.size/\val j=k) items.size->(∀b o,s.heap.get? b=some o->h'.get? b=some o)->Q (.ref s.heap.objs.size) { s with heap:=h',toks:=tk }) :
  wpAny (model prog w) A (call (.type "set") [.ref l]) Q E s:=by
 obtain⟨c,tl,hmro⟩:=JW.mro;have hmade:=JW.made;have hsub:=JW.sub;refine wpAny_call (LS (show wpAny _ _ (callAny (.type "set") _) _ _ _ from ?_))
 refine At ⟨PL _ (by decide +kernel),JH F.entry_type_call ?_⟩
 rw[Around.under_plain (weight_type_call_type "set" [.ref l] []) rfl];have n1:=JW.notType;have n2:=JW.canCreate;have n3:=PySem.F.typeCall_set_1 (.ref l)
 repeat (any_goals (first | assumption | wp_step))
 refine MN (BF (.ref l) (E:=E) (Q:=λobj s₁=>obj=.ref s.heap.objs.size/\s₁={ s with heap:=s.heap.push (gZ (!i7 w)) }) ⟨rfl,rfl⟩) λr s₁ hr=>?_
 cases r with
 |error e=>exact hr
 |ok fl=>
  cases fl with
  |ret obj=>
   obtain⟨rfl,rfl⟩:=hr;have hS:(s.heap.push (gZ (!i7 w))).get? s.heap.objs.size=some (gZ (!i7 w)):=Ee _ rfl;have hT:Shared.TypeIs { s with heap:=s.heap.push (gZ (!i7 w)) } (.ref s.heap.objs.size) "set" := ⟨_,hS,rfl⟩
   have n4:=JW.init.lookup;have n5:=JW.init.bind (.ref s.heap.objs.size)
   repeat (any_goals (first | assumption | wp_step))
   refine MN (codeAny_call_builtin (R:=wants (λr s₂=>r=.none/\∃h' tk,s₂={ s with heap:=h',toks:=tk }/\s.toks<=tk /\
     Sets D h' s.heap.objs.size (λk=>∃j,j<items.size/\val j=k) items.size/\(∀b o,s.heap.get? b=some o->h'.get? b=some o)) E) JW.init.plain PySem.F.entry_set_init (check_set_init_1 hT ?_)) λr₂ s₂ hr₂=>?_
   ·have far:∀{l:Addr},l<s.heap.objs.size->s.heap.objs.size∉[(s.heap.push (gZ (!i7 w))).objs.size,l]:=λlt=>by
     rw[IA];simp only[Hk,Ch,HH,or_false,not_or];exact⟨FC (L7 _),Kv lt⟩
    have nin:∀{b:Addr},b<s.heap.objs.size->b∉[s.heap.objs.size,(s.heap.push (gZ (!i7 w))).objs.size]:=λlt=>by
     rw[IA];simp only[Hk,Ch,HH,or_false,not_or];exact⟨FC lt,FC (J8 lt)⟩
    have h3:A.in1.in1.in1.handled=none:=by simp[hh]
    rcases hl with hl | hl
    ·obtain⟨ol,hol,hcl,nl,hdl⟩:=hl
     obtain⟨ocls,odict,odata,oslots⟩:=ol;dsimp only at hcl hdl;subst hcl; subst hdl;have hol':(s.heap.push (gZ (!i7 w))).get? l=some ⟨.type "list",odict,.seq items nl,oslots⟩:=Ap _ hol;have q1:=PySem.F.sub_list_set;have q2:=PySem.F.sub_list_frozenset;have q3:(Kx "list" == Kx "dict")=false:=by decide
     have src:(s.heap.push (gZ (!i7 w))).IsList l items:=⟨_,hol',rfl,nl,rfl⟩;have lt:=DD hol;unfold Il.«set.__init__» noKeywords M2;generalize hPI:MM=PI
     wp_walk
     subst hPI;refine Na src (AC (Mg ?_));refine rG (D:=D) (ad _ (by show A.units+1+1+1<=A.units+4; lia)) ((Ox (A:=A.in1.in1.in1) h3 _ l (by rw[IA]; exact FC (J8 lt)) items).toS) s.heap.objs.size (far lt) val ((s.heap.push (gZ (!i7 w))).push ⟨.type "list_iterator",none,.fields #[.ref l,.int 0 0],#[]⟩)
      (λi v h e k=>hval i v h e λb o eb=>k b o (nin (DD eb)) (Ap _ (Ap _ eb)))
      (λi h h' k v k1 k2 ek a=>hst i h h' k v (s.heap.push (gZ (!i7 w))).objs.size (by rw[IA]; exact IX _) (λb o eb=>k1 b o (nin (DD eb)) (Ap _ (Ap _ eb))) (λb o hb eb=>k2 b o (by simpa using hb) eb) ek a)
      hn (items.size-0) 0 _ rfl (HS _) ⟨⟨_,Ee _ rfl,rfl,rfl⟩,src.push _⟩ (λb o _ e=>e) ?_ λs' mv T=>?_
     ·exact⟨[],gZ (!i7 w),#[],0,_,⟨Ap _ hS,⟨rfl,rfl,rfl⟩,rfl,oH _,rfl,.nil,.nil⟩,λk=>⟨λz=>(nomatch z),λ⟨j,z,_⟩=>absurd z (LB _)⟩,Db _⟩
     ·obtain⟨h',g',d',tk',os'⟩:=s'
      obtain rfl:g'=s.gens:=mv.gens;obtain rfl:d'=s.drawn:=mv.drawn;obtain rfl:os'=s.os:=mv.os;refine At (show wpAny _ _ (ret HM) _ _ _ from At ⟨rfl,h',tk',rfl,mv.toks,T,λb o e=>?_⟩)
      exact mv.heap b o (nin (DD e)) (Ap _ (Ap _ e))
    ·obtain⟨ol,hol,hcl,nl,hdl⟩:=hl
     obtain⟨ocls,odict,odata,oslots⟩:=ol;dsimp only at hcl hdl;subst hcl; subst hdl;have hol':(s.heap.push (gZ (!i7 w))).get? l=some ⟨.type "tuple",odict,.seq items nl,oslots⟩:=Ap _ hol;have q1:=PySem.F.sub_tuple_set;have q2:=PySem.F.sub_tuple_frozenset;have q3:(Kx "tuple" == Kx "dict")=false:=by decide
     have src:(s.heap.push (gZ (!i7 w))).IsTuple l items:=⟨_,hol',rfl,nl,rfl⟩;have lt:=DD hol;unfold Il.«set.__init__» noKeywords M2;generalize hPI:MM=PI
     wp_walk
     subst hPI;refine Ji src (AC (Mg ?_));refine rG (D:=D) (ad _ (by show A.units+1+1+1<=A.units+4; lia)) ((Walks.tuple (A:=A.in1.in1.in1) h3 _ l (by rw[IA]; exact FC (J8 lt)) items).toS) s.heap.objs.size (far lt) val ((s.heap.push (gZ (!i7 w))).push ⟨.type "tuple_iterator",none,.fields #[.ref l,.int 0 0],#[]⟩)
      (λi v h e k=>hval i v h e λb o eb=>k b o (nin (DD eb)) (Ap _ (Ap _ eb)))
      (λi h h' k v k1 k2 ek a=>hst i h h' k v (s.heap.push (gZ (!i7 w))).objs.size (by rw[IA]; exact IX _) (λb o eb=>k1 b o (nin (DD eb)) (Ap _ (Ap _ eb))) (λb o hb eb=>k2 b o (by simpa using hb) eb) ek a)
      hn (items.size-0) 0 _ rfl (HS _) ⟨⟨_,Ee _ rfl,rfl,rfl⟩,src.push _⟩ (λb o _ e=>e) ?_ λs' mv T=>?_
     ·exact⟨[],gZ (!i7 w),#[],0,_,⟨Ap _ hS,⟨rfl,rfl,rfl⟩,rfl,oH _,rfl,.nil,.nil⟩,λk=>⟨λz=>(nomatch z),λ⟨j,z,_⟩=>absurd z (LB _)⟩,Db _⟩
     ·obtain⟨h',g',d',tk',os'⟩:=s'
      obtain rfl:g'=s.gens:=mv.gens;obtain rfl:d'=s.drawn:=mv.drawn;obtain rfl:os'=s.os:=mv.os;refine At (show wpAny _ _ (ret HM) _ _ _ from At ⟨rfl,h',tk',rfl,mv.toks,T,λb o e=>?_⟩)
      exact mv.heap b o (nin (DD e)) (Ap _ (Ap _ e))
   ·cases r₂ with
    |error e=>exact hr₂
    |ok fl₂=>
     cases fl₂ with
     |ret r=>
      obtain⟨rfl,h',tk,rfl,htk,hS',hk'⟩:=hr₂
      repeat (any_goals (first | assumption | wp_step))
      exact h _ _ htk hS' hk'
     |_=>exact hr₂.elim
  |_=>exact hr.elim
end
end ST
end
section
namespace L2
open PySem PySem.W PyProof.Rows PySem.Calls TS
section
variable{prog:Fk}{w:World}{A:HN}{E:Value->B2->Prop}{s:B2}
theorem rJ{T:String}{r d:Addr}{n:Nat}{P:Nat->Value->Prop}{OK:Heap->Prop}{Q:Value->B2->Prop}(K:KdlSrc prog w T r d n P OK)(hh:A.handled=none)(hok:OK s.heap)(hn:n<=100000)
  (hk:∀acc,ItemsOf P acc n->∃lt,Ord lt/\(2<=n->∀(A':HN),A'.units<=A.units+2->∀(h':Heap)(tk:Nat),(∀b o,s.heap.get? b=some o->h'.get? b=some o)->∃κ,(∀Q:JM->B2->Prop,Q κ { s with heap:=h',toks:=tk }->wpAny (model prog w) A' (Nl acc) Q (λ_ _=>False) { s with heap:=h',toks:=tk }) /\
   ∀i j,i<n->j<n->∀C:Bool->B2->Prop,C (lt i j) { s with heap:=h',toks:=tk }->wpAny (model prog w) A' (Ob κ (acc.toList.getD i HM) (acc.toList.getD j HM)) C (λ_ _=>False) { s with heap:=h',toks:=tk }) /\
   ∀(l:Addr)(h':Heap)(tk e:Nat)(p:Array Nat),s.heap.objs.size<=l->(∀b o,s.heap.get? b=some o->h'.get? b=some o)->h'.get? l=some (Ik "list" (eL acc.toList p).toArray e)->Pm n p->De lt p n->Q (.ref l) { s with heap:=h',toks:=tk }) :
  wpAny (model prog w) A (call (.builtin "sorted") [.ref r]) Q E s:=by
 refine KW OF Nk Nn (No _) ?_;unfold Il.«sorted»;refine AC (m:=OW "sorted" 1 1 _) (At ?_);refine AC (kB K hh hok (by rw[IC]; lia) λh1 tk acc kp lt1 hacc=>?_)
 obtain⟨lt,O,hcmp,hend⟩:=hk acc hacc;have hsz:acc.toList.length=n:=by rw[Dx]; exact hacc.1
 refine AC (LD ?_ (by rw[IC]; lia))
 have hoL:(h1.push (Ik "list" acc.toList.toArray 0)).get? h1.objs.size=some (Ik "list" acc.toList.toArray 0):=Ee _ rfl;have le:s.heap.objs.size<=h1.objs.size:=JT lt1;show wpAny _ _ _ _ _ { s with heap:=h1.push (Ik "list" acc.toList.toArray 0),toks:=tk }
 refine AC (HW (Hn Mq ⟨_,hoL,rfl⟩ MT (iF O hoL (by lia) (λh2 h' kp' =>?_) λp a1 a2=>⟨_,rfl,?_⟩) (Ms _)))
 ·obtain⟨κ,c1,c2⟩:=hcmp (by lia) A.in1.in1 (show A.units+1+1<=A.units+2 by lia) h' tk λb o q=>by
   have q1:=kp b o q;exact kp' b o (FC (DD q1)) (Ap _ q1)
  exact⟨κ,by rw[show acc.toList.toArray=acc by simp]; exact c1,λi j hi hj C hC=>c2 i j (by lia) (by lia) C hC⟩
 ·obtain⟨e,he⟩:=sortedHeap_at (out:=(eL acc.toList p).toArray) hoL
  rw[hsz] at a1 a2;refine At ⟨_,rfl,hend h1.objs.size _ tk e p le (λb o q=>?_) he a1 a2⟩
  have q1:=kp b o q;rw[sortedHeap_old (FC (DD q1)) (by rw[IA]; exact J8 (DD q1)),Ap _ q1]
end
end L2
end
section
namespace L2
open PySem PySem.Spec PyProof.Rows PySem.W
section
variable{α:Type}
noncomputable def tQ(lt:α->α->Bool)(x:α):List α->List α
 |[]=>[x]
 |y::ys=>if lt y x=true then y::tQ lt x ys else if lt x y=true then x::y::ys else y::ys
noncomputable def cE(lt:α->α->Bool):List α->List α
 |[]=>[]
 |x::xs=>tQ lt x (cE lt xs)
structure qe(lt:α->α->Bool):Prop where
 asym:∀a b,lt a b=true->lt b a=false
 trans:∀a b c,lt a b=true->lt b c=true->lt a c=true
 tot:∀a b,lt a b=false->lt b a=false->a=b
theorem mU{lt:α->α->Bool}(T:qe lt)(x:α):∀{l:List α}{k:α},k∈tQ lt x l↔k=x\/k∈l
 |[],k=>by simp[tQ]
 |y::ys,k=>by
  unfold tQ
  split
  ·rw[Hk,mU T x,Hk]
   constructor
   ·rintro (h | h | h)
    ·exact .inr (.inl h)
    ·exact .inl h
    ·exact .inr (.inr h)
   ·rintro (h | h | h)
    ·exact .inr (.inl h)
    ·exact .inl h
    ·exact .inr (.inr h)
  ·next h1=>
   split
   ·rw[Hk]
   ·next h2=>
    have:x=y:=T.tot _ _ (by simpa using h2) (by simpa using h1)
    subst this;simp
theorem gg{lt:α->α->Bool}(T:qe lt):∀{l:List α}{k:α},k∈cE lt l↔k∈l
 |[],k=>by simp[cE]
 |x::xs,k=>by unfold cE; rw[mU T,gg T,Hk]
theorem uZ{lt:α->α->Bool}(T:qe lt)(x:α):∀{l:List α},l.Pairwise (λa b=>lt a b=true)->(tQ lt x l).Pairwise (λa b=>lt a b=true)
 |[],_=>Lr _ _
 |y::ys,h=>by
  obtain⟨h1,h2⟩:=Ip.mp h;unfold tQ
  split
  ·next e=>
   refine Ip.mpr ⟨λz hz=>?_,uZ T x h2⟩
   rcases (mU T x).mp hz with rfl | hz
   ·exact e
   ·exact h1 z hz
  ·split
   ·next e=>
    refine Ip.mpr ⟨λz hz=>?_,h⟩
    rcases lK hz with rfl | hz
    ·exact e
    ·exact T.trans _ _ _ e (h1 z hz)
   ·exact h
theorem mV{lt:α->α->Bool}(T:qe lt):∀(l:List α),(cE lt l).Pairwise (λa b=>lt a b=true)
 |[]=>.nil
 |x::xs=>uZ T x (mV T xs)
theorem oO{lt:α->α->Bool}(T:qe lt):∀{xs ys:List α},xs.Pairwise (λa b=>lt a b=true)->ys.Pairwise (λa b=>lt a b=true)->(∀k,k∈xs↔k∈ys)->xs=ys
 |[],[],_,_,_=>rfl
 |[],y::ys,_,_,h=>by have:=(h y).mpr lS; simp at this
 |x::xs,[],_,_,h=>by have:=(h x).mp lS; simp at this
 |x::xs,y::ys,h1,h2,h=>by
  obtain⟨a1,a2⟩:=Ip.mp h1;obtain⟨b1,b2⟩:=Ip.mp h2;have qD:∀a,lt a a=false:=λa=>by
   cases q:lt a a with
   |false=>rfl
   |true=>rw[T.asym _ _ q] at q; cases q
  have e:x=y:=by
   rcases lK ((h x).mp lS) with e | e
   ·exact e
   ·rcases lK ((h y).mpr lS) with e' | e'
    ·exact e'.symm
    ·have:=T.asym _ _ (b1 x e)
     rw[a1 y e'] at this; cases this
  subst e
  congr 1
  refine oO T a2 b2 λk=>⟨λhk=>?_,λhk=>?_⟩
  ·rcases lK ((h k).mp (lO _ hk)) with rfl | q
   ·have:=a1 k hk; rw[qD] at this; cases this
   ·exact q
  ·rcases lK ((h k).mpr (lO _ hk)) with rfl | q
   ·have:=b1 k hk; rw[qD] at this; cases this
   ·exact q
theorem rK{lt:α->α->Bool}(T:qe lt){xs zs:List α}(nd:zs.Nodup)(s:zs.Pairwise λa b=>lt b a=false)(m:∀k,k∈zs↔k∈xs):zs=cE lt xs:=by
 refine oO T ?_ (mV T xs) λk=>(m k).trans (gg T).symm
 refine(List.pairwise_and_iff.mpr ⟨s,nd⟩).imp λ{a b} ⟨h1,h2⟩=>?_
 cases q:lt a b with
 |true=>rfl
 |false=>exact absurd (T.tot _ _ q h1) h2
end
noncomputable def ltZ(a b:Int):Bool:=decide (a<b)
theorem totZ:qe ltZ:=⟨λa b h=>decide_eq_false (by have:=of_decide_eq_true h; lia),λa b c h h'=>decide_eq_true (by have:=of_decide_eq_true h; have:=of_decide_eq_true h'; lia),λa b h h'=>by have:=of_decide_eq_false h; have:=of_decide_eq_false h'; lia⟩
theorem oQ:∀(a b:List Int),HT.lexLt a b=false->HT.lexLt b a=false->a=b
 |[],[],_,_=>rfl
 |[],_::_,h,_=>by cases h
 |_::_,[],_,h=>by cases h
 |x::xs,y::ys,h,h'=>by
  rw[HT.cO] at h h'
  by_cases e:x=y
  ·subst e
   rw[if_pos rfl] at h h';rw[oQ xs ys h h']
  ·rw[if_neg e] at h
   rw[if_neg (K8 e)] at h';have h:=of_decide_eq_false h;have h':=of_decide_eq_false h';lia
theorem wO:qe HT.lexLt where
 asym:=eN
 trans:=λa b c h h'=>by
  cases q:HT.lexLt a c with
  |true=>rfl
  |false=>
   have h3:=fq b c a (eN _ _ h') q;rw[h] at h3; cases h3
 tot:=oQ
section
variable{X:Cx}
theorem JV.BG{α β:Type}{F:α->β->Prop}{xs:List α}{ys:List β}(h:JV F xs ys):∀z∈xs.zip ys,F z.1 z.2:=by
 induction h with
 |nil=>intro z hz; simp at hz
 |cons a r ih=>
  intro z hz;rw[Jb] at hz;rcases lK hz with rfl | hz
  ·exact a
  ·exact ih z hz
theorem zz{K:AT}{H:Hp}{ys:List V}{ks:List (List Int)}(ht:zT K H ys ks):∀{zs:List (V×List Int)},(∀z∈zs,z∈ys.zip ks)->zT K H (zs.map (·.1)) (zs.map (·.2))
 |[],_=>.nil
 |z::zs,h=>.cons (JV.BG ht z (h z lS)) (zz ht λz' h'=>h z' (lO _ h'))
theorem BH{pins:List (Addr×Obj)}{σ:St}{H:Hp}{s:B2}(I:Inv X pins σ H s){ys:List V}{ks:List (List Int)}{its:List Value}(ht:zT X.K H ys ks)(rv:Vals ys its)(hne:∀t∈ks,t≠[])(h2:2<=its.length){A':HN}{h':Heap}{tk:Nat}(kp:∀b o,s.heap.get? b=some o->h'.get? b=some o) :
  ∃κ,(∀Q:JM->B2->Prop,Q κ { s with heap:=h',toks:=tk }->wpAny (model X.prog X.w) A' (Nl its.toArray) Q (λ_ _=>False) { s with heap:=h',toks:=tk }) /\
   ∀i j,i<its.length->j<its.length->∀C:Bool->B2->Prop,C (HT.lexLt (ks.getD i []) (ks.getD j [])) { s with heap:=h',toks:=tk }->wpAny (model X.prog X.w) A' (Ob κ (its.getD i HM) (its.getD j HM)) C (λ_ _=>False) { s with heap:=h',toks:=tk }:=by
 have hl:=rv.length;refine⟨tuples' true,λQ' hq' =>?_,λi j hi hj C hC=>?_⟩
 ·obtain⟨fs,h1,h2',h3⟩:=ku I kp ht rv hne
  refine kat_kind (s:={ s with heap:=h',toks:=tk }) (T:=.type "int") h1 (by lia) (λv hv=>?_) rfl hq'
  obtain⟨i,t,rfl⟩:=h3 v hv;exact Looks.now
 ·have hiy:i<ys.length:=by lia
  have hjy:j<ys.length:=by lia
  obtain⟨a,ea,qa⟩:=JV.getD (d:=V.non) (d':=[]) ht i hiy;obtain⟨b,eb,qb⟩:=JV.getD (d:=V.non) (d':=[]) ht j hjy;have ra:=JV.getD (d:=V.non) (d':=HM) rv i hiy;have rb:=JV.getD (d:=V.non) (d':=HM) rv j hjy;rw[ea] at ra;rw[eb] at rb;have ra:its.getD i HM=.ref a:=ra;have rb:its.getD j HM=.ref b:=rb;rw[ra,rb];obtain⟨ia,va,⟨oa,ha,_,na,da⟩,_⟩:=I.tuple qa;obtain⟨ib,vb,⟨ob,hb,_,nb,db⟩,_⟩:=I.tuple qb;refine kat_lt (s:={ s with heap:=h',toks:=tk }) (kp _ _ ha) da (kp _ _ hb) db ?_
  refine kr ia ib _ _ 0 va vb hC _ (λ_ _=>JQ) ?_
  simp
theorem wQ{α:Type}{d:α}{zs:List (V×α)}{its:List Value}(rv:Vals (zs.map (·.1)) its){pm:Array Nat}(hp:Pm zs.length pm):Vals ((pm.toList.map λi=>zs.getD i (V.non,d)).map (·.1)) (eL its pm):=by
 have hl:=rv.length;rw[D1] at hl;have hb:∀i∈pm.toList,i<zs.length:=λi hi=>by
  have h1:pm.toList.Perm (Fa zs.length):=JO.mp hp;simpa using h1.mem_iff.mp hi
 unfold eL;rw[Iy];generalize pm.toList=ix at hb
 induction ix with
 |nil=>exact .nil
 |cons i ix ih=>
  refine .cons ?_ (ih λj hj=>hb j (lO _ hj))
  have:=JV.getD (d:=V.non) (d':=HM) rv i (by rw[D1]; exact hb i lS)
  have e:(zs.map (·.1)).getD i V.non=(zs.getD i (V.non,d)).1:=by
   have hi:=hb i lS;simp[KZ,hi]
  rw[e] at this;exact this
theorem BI{α:Type}{d:α}{lt:α->α->Bool}{zs:List (V×α)}{pm:Array Nat}(hp:Pm zs.length pm)(hs:De (λi j=>lt ((zs.map (·.2)).getD i d) ((zs.map (·.2)).getD j d)) pm zs.length):((pm.toList.map λi=>zs.getD i (V.non,d)).map (·.2)).Pairwise (λa b=>lt b a=false):=by
 have sz:pm.toList.length=zs.length:=by rw[Dx]; exact hp.size
 have hb:∀i∈pm.toList,i<zs.length:=λi hi=>by
  have h1:pm.toList.Perm (Fa zs.length):=JO.mp hp;simpa using h1.mem_iff.mp hi
 rw[Iy,N4,IJ];intro i j hi hj hij;have z:=hs i j (by lia) (by lia)
 have gi:gD pm i=pm.toList[i]:=by unfold gD; simp[Jk,show i<pm.size by simpa using hi]
 have gj:gD pm j=pm.toList[j]:=by unfold gD; simp[Jk,show j<pm.size by simpa using hj]
 rw[gi,gj] at z;dsimp only at z;have bi:=hb _ (He hi);have bj:=hb _ (He hj);have e:∀{k:Nat},k<zs.length->(zs.map (·.2)).getD k d=(zs.getD k (V.non,d)).2:=λ{k}hk=>by simp[KZ,hk]
 rw[e bi,e bj] at z;exact z
theorem mW{pins:List (Addr×Obj)}{σ:St}{H:Hp}{s:B2}{E:Value->B2->Prop}{A:HN}(I:Inv X pins σ H s)(hh:A.handled=none){D:ST.Kd X.prog X.w}{S:Addr}{M:D.K->Prop}{n:Nat}(T:ST.Sets D s.heap S M n)(hn:n<=1000){lt:D.K->D.K->Bool}(TO:qe lt)(d:D.K)
  {src:List (V×D.K)} (hsrc:∀k v,M k->D.is s.heap k v->∃z∈src,z.2=k/\RelV z.1 v)
  (cmp:∀(zs:List (V×D.K))(its:List Value),(∀z∈zs,z∈src)->Vals (zs.map (·.1)) its->2<=its.length->∀(A':HN)(h':Heap)(tk:Nat),(∀b o,s.heap.get? b=some o->h'.get? b=some o) ->
   ∃κ,(∀Q:JM->B2->Prop,Q κ { s with heap:=h',toks:=tk }->wpAny (model X.prog X.w) A' (Nl its.toArray) Q (λ_ _=>False) { s with heap:=h',toks:=tk }) /\
   ∀i j,i<its.length->j<its.length->∀C:Bool->B2->Prop,C (lt ((zs.map (·.2)).getD i d) ((zs.map (·.2)).getD j d)) { s with heap:=h',toks:=tk }->wpAny (model X.prog X.w) A' (Ob κ (its.getD i HM) (its.getD j HM)) C (λ_ _=>False) { s with heap:=h',toks:=tk })
  {Q:Value->B2->Prop} (q:∀(zs:List (V×D.K))l s',(∀z∈zs,z∈src)->(zs.map (·.2)).Nodup->(zs.map (·.2)).Pairwise (λa b=>lt b a=false)->(∀k,k∈zs.map (·.2)↔M k)->H l=none->Inv X pins σ (upd H l (.lst (zs.map (·.1)))) s'->Q (.ref l) s') :
  wpAny (model X.prog X.w) A (call (.builtin "sorted") [.ref S]) Q E s:=by
 obtain⟨ks,o,es,ep,t,K,mem,len⟩:=T;refine rJ (ST.BE (a:=S) K.hex K.hd K.inv K.led) hh K.ho (by rw[K.size]; lia) λacc hacc=>?_
 obtain⟨ko,pk,eo⟩:=K.els.perm (ST.rF X.w S ep es);have hai:acc.toList=(ST.eV X.w S ep es).toList.map (·.2):=by
  apply KN;intro i;rw[H9,HL,H9]
  by_cases hi:i<es.size
  ·obtain⟨v,hv⟩:∃v,acc[i]? = some v:=⟨acc[i]'(by rw[hacc.1]; exact hi),by simp[hacc.1,hi]⟩
   rw[hv];exact(hacc.2 i v hv).symm
  ·have h1:acc[i]? = none:=by simp[hacc.1]; lia
   have h2:(ST.eV X.w S ep es)[i]? = none:=by simp[ST.jJ]; lia
   rw[h1,h2]; rfl
 obtain⟨zs,z1,z2,z3⟩:∃zs:List (V×D.K),(∀z∈zs,z∈src)/\zs.map (·.2)=ko/\Vals (zs.map (·.1)) acc.toList:=by
  rw[hai];have hM:∀k∈ko,M k:=λk hk=>(mem k).mp (pk.mem_iff.mp hk)
  clear hai hacc pk
  generalize (ST.eV X.w S ep es).toList=l at eo
  induction eo with
  |nil=>exact⟨[],λz hz=>(nomatch hz),rfl,.nil⟩
  |cons a r ih=>
   obtain⟨zs,i1,i2,i3⟩:=ih λk hk=>hM k (lO _ hk)
   obtain⟨z,hz,e1,e2⟩:=hsrc _ _ (hM _ lS) a;refine⟨z::zs,λz' h' =>?_,by rw[GM,e1,i2],.cons e2 i3⟩
   rcases lK h' with rfl | h'
   ·exact hz
   ·exact i1 z' h'
 have hal:acc.toList.length=es.size:=by rw[Dx]; exact hacc.1
 have hzl:zs.length=es.size:=by have:=z3.length; rw[D1] at this; lia
 refine⟨λi j=>lt ((zs.map (·.2)).getD i d) ((zs.map (·.2)).getD j d),⟨λa b=>TO.asym _ _,λa b c h1 h2=>?_⟩,λh2 A' _ h' tk kp=>?_,λl h' tk e pm hl kp he hpm hsr=>?_⟩
 ·generalize (zs.map (·.2)).getD a d=a at *
  generalize (zs.map (·.2)).getD b d=b at *;generalize (zs.map (·.2)).getD c d=c at *;cases z:lt c a with
  |false=>rfl
  |true=>
   rcases hab:lt a b with _ | _
   ·have:=TO.tot _ _ hab h1
    subst this;rw[z] at h2; cases h2
   ·have:=TO.trans _ _ _ z hab
    rw[this] at h2; cases h2
 ·obtain⟨κ,c1,c2⟩:=cmp zs acc.toList z1 z3 (by lia) A' h' tk kp
  exact⟨κ,by rw[show acc.toList.toArray=acc by simp] at c1; exact c1,λi j hi hj C hC=>c2 i j (by lia) (by lia) C hC⟩
 ·rw[<-hzl] at hpm hsr
  have hv:=wQ (d:=d) z3 hpm;have hp:(pm.toList.map λi=>zs.getD i (V.non,d)).Perm zs:=iG (β:=Nat) hpm
  have hs:=BI (lt:=lt) (d:=d) hpm hsr;generalize (pm.toList.map λi=>zs.getD i (V.non,d))=zo at hv hp hs
  have hp2:(zo.map (·.2)).Perm ks:=(hp.map (·.2)).trans (by rw[z2]; exact pk)
  refine q zo l _ (λz hz=>z1 z (hp.mem_iff.mp hz)) (hp2.nodup_iff.mpr K.nd) hs (λk=>hp2.mem_iff.trans (mem k)) (I.hok.fresh hl) (I.laid (t':=tk) (a:=l) (o:=.lst (zo.map (·.1))) kp hl ?_)
  refine⟨?_,eL acc.toList pm,e,hv,he⟩;rw[D1,hp.length_eq,hzl,K.size,IC];lia
noncomputable def Hz(K:AT)(ta:TA):TE:=λσ H Q=>ta σ H λvs H1=>∃p,vs=[.ref p] /\
 ((∃ns:List Int,(fj K H1 p (ns.map V.int)\/cI K H1 p (ns.map V.int))/\ns.length<=1000/\∀l,H1 l=none->Q (.ref l) (upd H1 l (.lst ((cE ltZ ns).map V.int)))) \/
 (∃ys ks,(fj K H1 p ys\/cI K H1 p ys)/\zT K H1 ys ks/\(∀t∈ks,t≠[])/\ys.length<=1000/\∀(zs:List (V×List Int))l,(∀z∈zs,z∈ys.zip ks)->zs.map (·.2)=cE HT.lexLt ks->H1 l=none->Q (.ref l) (upd H1 l (.lst (zs.map (·.1))))))
theorem oR{pins:List (Addr×Obj)}{σ:St}{H:Hp}{s:B2}(I:Inv X pins σ H s){p:Addr}{ys:List V}(h:fj X.K H p ys\/cI X.K H p ys):∃its,Vals ys its/\(s.heap.IsList p its.toArray\/s.heap.IsTuple p its.toArray):=by
 rcases h with h | h
 ·obtain⟨its,rv,pl,_⟩:=I.list h
  exact⟨its,rv,.inl pl.isList⟩
 ·obtain⟨its,rv,pl,_⟩:=I.tuple h
  exact⟨its,rv,.inr pl⟩
theorem oS{prog:Fk}{w:World}:∀{ks:List Int}{its:List Value},Vals (ks.map V.int) its->ItemsAre (I9 prog w) ks its
 |[],_,h=>by cases h; exact .nil
 |k::ks,_,h=>by
  cases h with
  |cons r rr=>obtain⟨t,rfl⟩:=r; exact .cons (Lm _ _ _ _) (oS rr)
theorem tR{a:Expr}{ta:TA}{p1 p2 pos pos2:Pos}(hc:X.calm=true)(hU:X.A.units+64<cLine)(hg:Gl X "sorted")(hm:X.mg "sorted" = none)(hg2:Gl X "set")(hm2:X.mg "set" = none)(ha:PA X [a] ta)(hs:FK [a] X.env=[(false,eval a X.env)]:=by rfl)
  (hs3:FK [.Call (.Name "set" p2) [a] [] pos2] X.env=[(false,eval (.Call (.Name "set" p2) [a] [] pos2) X.env)]:=by rfl) :
  PE X (.Call (.Name "sorted" p1) [.Call (.Name "set" p2) [a] [] pos2] [] pos) (Hz X.K ta):=by
 intro pins s σ H Q I h;refine Jj (eB I hg hm boot_sorted ?_);refine Kh ?_ (by rw[hs3]; rfl) rfl
 rw[hs3];show wpAny _ _ (spliced ((false,eval (.Call (.Name "set" p2) [a] [] pos2) X.env)::[])) _ _ s;refine MW ?_;refine Jj (eB I hg2 hm2 PyProof.Rows.boot_set ?_);refine JA (aZ (ha pos2 pins s σ H _ I h) λus s1 ⟨vs,H1,I1,r1,q1⟩=>?_) (by rw[hs]; rfl) rfl
 obtain⟨p,e,q1⟩:=q1;subst e;obtain⟨u,rfl,rx⟩:=vals1 r1;cases rx;have hh:=I1.ok.hd hc;rcases q1 with⟨ns,hq,hb,q⟩ | ⟨ys,ks,hq,ht,hne,hb,q⟩
 ·obtain⟨its,rv,src⟩:=oR I1 hq
  have hl:its.length=ns.length:=by have:=rv.length; rw[D1] at this; lia
  have hint:=gB rv;refine ST.rH (D:=ST.intD X.prog X.w) (val:=λi=>ns.getD i 0) (λA' _=>ST.add_int A') hh src (by rw[Do]; lia) (λi v h e _=>?_) (λ_ _ _ _ _ _ _ _ _ _ a=>a) λh' tk _ T kp=>LZ ?_
  ·exact NO hint i v (by simpa using e)
  ·have I2:Inv X pins σ H1 { s1 with heap:=h',toks:=tk }:=I1.kept kp
   have mem:∀k,(∃j,j<its.toArray.size/\ns.getD j 0=k)↔k∈ns:=λk=>by
    rw[Do,hl];constructor
    ·rintro⟨j,hj,e⟩
     rw[<-e,Fs,Bi hj];exact He hj
    ·intro hk
     obtain⟨j,hj,e⟩:=HV hk;exact⟨j,hj,by rw[Fs,Bi hj]; exact e⟩
   refine mW I2 hh T (by rw[Do]; lia) totZ (0:Int) (src:=ns.map λn=>(V.int n,n)) (λk v hM hv=>?_) (λ(zs:List (V×Int))its' hz rv' h2 A' h2' tk' kp' =>?_) λ(zs:List (V×Int))l s' z1 z2 z3 z4 hl' I3=>?_
   ·obtain⟨t,rfl⟩:=hv
    exact⟨(V.int k,k),IL.mpr ⟨k,(mem k).mp hM,rfl⟩,rfl,⟨t,rfl⟩⟩
   ·have ez:zs.map (·.1)=(zs.map (·.2)).map V.int:=by
     rw[Iy];refine JU λz hz' =>?_
     obtain⟨n,_,rfl⟩:=IL.mp (hz z hz');rfl
    have rv2:Vals (zs.map (·.1)) its':=rv';rw[ez] at rv2;have hia:=gB rv2;refine⟨oneType',λQ' hq' =>?_,λi j hi hj C hC=>?_⟩
    ·match its',hia,h2 with
     |v1::v2::vs,hia,_=>exact Mh (keyKind_ints hia) hq'
    ·obtain⟨ti,ei⟩:=NO hia i (its'.getD i HM) (by simp[KZ,hi])
     obtain⟨tj,ej⟩:=NO hia j (its'.getD j HM) (by simp[KZ,hj])
     rw[ei,ej,keyLt'_oneType];exact oneLt_int hC
   ·have ez:zs.map (·.1)=(zs.map (·.2)).map V.int:=by
     rw[Iy];refine JU λz hz' =>?_
     obtain⟨n,_,rfl⟩:=IL.mp (z1 z hz');rfl
    have I3:Inv X pins σ (upd H1 l (.lst (zs.map (·.1)))) s':=I3;have eu:zs.map (·.2)=cE ltZ ns:=rK totZ z2 z3 λk=>(z4 k).trans (mem k)
    rw[ez,eu] at I3;exact⟨.ref l,_,I3,rfl,q l hl'⟩
 ·obtain⟨its,rv,src⟩:=oR I1 hq
  have hl:its.length=ks.length:=by have:=rv.length; have:=Jq ht; lia
  have hyl:ys.length=ks.length:=Jq ht;have at1:∀i v,its[i]? = some v->∃b,v=.ref b/\ys[i]? = some (.ref b)/\ks[i]? = some (ks.getD i [])/\∃o its' n,s1.heap.get? b=some o/\o.cls=.type "tuple"/\o.data=.seq its' n/\Vals ((ks.getD i []).map V.int) its'.toList:=λi v e=>by
   have hi:i<its.length:=(Da.mp e).1;have hv:its.getD i HM=v:=by simp[KZ,e]
   obtain⟨b,eb,qb⟩:=JV.getD (d:=V.non) (d':=[]) ht i (by lia)
   have rb:=JV.getD (d:=V.non) (d':=HM) rv i (by lia)
   rw[eb,hv] at rb;have rb:v=.ref b:=rb;obtain⟨ib,vb,⟨ob,hb,hcb,nb,db⟩,_⟩:=I1.tuple qb;refine⟨b,rb,?_,?_,ob,_,nb,hb,hcb,db,by simpa using vb⟩
   ·rw[<-eb]; simp[KZ,show i<ys.length by lia]
   ·simp[KZ,show i<ks.length by lia]
  refine ST.rH (D:=ST.wN X.prog X.w λk v=>∃i b:Nat,v=.ref b/\ys[i]? = some (.ref b)/\ks[i]? = some k/\b<s1.heap.objs.size) (val:=λi=>ks.getD i []) (λA' hA'=>ST.uQ (by have:A'.units<=X.A.units+4:=hA'; lia)) hh src (by rw[Do]; lia) (λi v h e kp=>?_) (λi h h' k v I0 hI kp k2 ek a=>?_) λh' tk _ T kp=>LZ ?_
  ·obtain⟨b,e1,e2,e3,o,its',n,e4,e5,e6,e7⟩:=at1 i v (by simpa using e)
   exact⟨⟨i,b,e1,e2,e3,DD e4⟩,b,e1,o,its',n,kp _ _ e4,e5,e6,oS e7⟩
  ·obtain⟨⟨i',b,e1,e2,e3,e4⟩,b',e5,o,its',n,e6,e7⟩:=a
   have:b=b':=by rw[e1] at e5; injection e5
   subst this;exact⟨⟨i',b,e1,e2,e3,e4⟩,b,e1,o,its',n,k2 _ _ (λz=>by rw[z] at e4; exact absurd e4 (Pl.mpr hI)) e6,e7⟩
  ·have I2:Inv X pins σ H1 { s1 with heap:=h',toks:=tk }:=I1.kept kp
   have mem:∀k,(∃j,j<its.toArray.size/\ks.getD j []=k)↔k∈ks:=λk=>by
    rw[Do,hl];constructor
    ·rintro⟨j,hj,e⟩
     rw[<-e,Fs,Bi hj];exact He hj
    ·intro hk
     obtain⟨j,hj,e⟩:=HV hk;exact⟨j,hj,by rw[Fs,Bi hj]; exact e⟩
   refine mW I2 hh T (by rw[Do]; lia) wO ([]:List Int) (src:=ys.zip ks) (λk v hM hv=>?_) (λzs its' hz rv' h2 A' h2' tk' kp' =>?_) λzs l s' z1 z2 z3 z4 hl' I3=>?_
   ·obtain⟨⟨i',b,e1,e2,e3,e4⟩,_⟩:=hv
    refine⟨(.ref b,k),IE (i:=i') ?_,rfl,e1⟩;rw[Lb];exact⟨e2,e3⟩
   ·have ht':=zz ht hz
    refine BH I2 ht' rv' (λt htm=>?_) h2 kp'
    obtain⟨z,hz',rfl⟩:=IL.mp htm;exact hne _ (M3 (hz z hz')).2
   ·have eu:zs.map (·.2)=cE HT.lexLt ks:=rK wO z2 z3 λk=>(z4 k).trans (mem k)
    exact⟨.ref l,_,I3,rfl,q zs l z1 eu hl'⟩
end
end L2
end
section
namespace VL
open PySem PySem.Spec L2 PyProof.Rows
section
variable{X:Cx}{pos:Pos}
noncomputable def Fo:List M->Option M
 |[m]=>(seq m).bind λds=>if ds.length<=1000 then (match gu ds with
  |some ns=>some (.lst ((cE ltZ ns).map .int))
  |none=>(sR ds).bind λks=>if ks.all (λk=> !k.isEmpty)=true then some (.lst ((cE HT.lexLt ks).map tI)) else none) else none
 |_=>none
def HA(K:AT):List V->Hp->VK->Prop:=λvs H1 Q=>∃p,vs=[.ref p] /\
 ((∃ns:List Int,(fj K H1 p (ns.map V.int)\/cI K H1 p (ns.map V.int))/\ns.length<=1000/\∀l,H1 l=none->Q (.ref l) (upd H1 l (.lst ((cE ltZ ns).map V.int)))) \/
 (∃ys ks,(fj K H1 p ys\/cI K H1 p ys)/\zT K H1 ys ks/\(∀t∈ks,t≠[])/\ys.length<=1000/\∀(zs:List (V×List Int))l,(∀z∈zs,z∈ys.zip ks)->zs.map (·.2)=cE HT.lexLt ks->H1 l=none->Q (.ref l) (upd H1 l (.lst (zs.map (·.1))))))
theorem rSS_v{K:AT}:Gu K (HA K) Fo:=λH Z xs ms m Q za hr e q=>by
 unfold Fo at e
 split at e
 ·obtain⟨ds,e1,e⟩:=oB e
  split at e
  ·next hl=>
   obtain⟨x,rfl,h1⟩:=gI hr;obtain⟨a,ys,rfl,hx,fx⟩:=h1.seq e1
   split at e
   ·next ns e2=>
    cases e;have hn:ns.length<=1000:=by rw[bP e2,D1] at hl; exact hl
    rw[bP e2] at fx;rw[fx.cK] at hx;exact⟨a,rfl,.inl ⟨ns,hx,hn,λl hl'=>qM q za hl' (bD.ints _)⟩⟩
   ·obtain⟨ks,e3,e⟩:=oB e
    split at e
    ·next hne=>
     cases e;rw[jv e3] at fx;have hlen:ys.length=ks.length:=by rw[fx.length,D1]
     have hk:ks.length<=1000:=by rw[jv e3,D1] at hl; exact hl
     have ht:=fx.G6;refine⟨a,rfl,.inr ⟨ys,ks,hx,ht,λt h z=>?_,by lia,λzs l z1 z2 hl' =>?_⟩⟩
     ·have:=Kz.mp hne t h
      rw[z] at this;cases this
     ·have:=bD.sU (Z:=Z) ht zs z1
      rw[z2] at this;exact qM q za hl' this
    ·cases e
  ·cases e
 ·cases e
theorem tS{a:Expr}{fa:FA}{p1 p2 pos2:Pos}(hc:X.calm=true)(hU:X.A.units+64<cLine)(hg:Gl X "sorted")(hm:X.mg "sorted" = none)(hg2:Gl X "set")(hm2:X.mg "set" = none)(ha:WA X [a] fa)(hs:FK [a] X.env=[(false,eval a X.env)]:=by rfl)
  (hs3:FK [.Call (.Name "set" p2) [a] [] pos2] X.env=[(false,eval (.Call (.Name "set" p2) [a] [] pos2) X.env)]:=by rfl) :
  WE X (.Call (.Name "sorted" p1) [.Call (.Name "set" p2) [a] [] pos2] [] pos) (fW Fo fa):=⟨bg (tR hc hU hg hm hg2 hm2 ha.h hs hs3) λ_ _ _ hq=>many rSS_v hq⟩
end
section
variable{X:Cx}{pos:Pos}
noncomputable def wR(ds:List B1)(k:Nat):List B1:=(D2 k ds).flatten
noncomputable def mulR:M->M->Option M
 |.lst ds,.v (.int k)=>if 0<=k/\k<=1000/\ds.length*k.toNat<=lim then some (.lst (wR ds k.toNat)) else none
 |_,_=>none
theorem bD.rep{K:AT}{H:Hp}{Z:Zs}{xs:List V}{ds:List B1}(h:bD K H Z xs ds):∀k:Nat,bD K H Z (D2 k xs).flatten (wR ds k)
 |0=>.nil
 |k+1=>by
  unfold wR;rw[Jo,Jo,IM,IM];exact h.append (bD.rep h k)
theorem Ey:dO X (J9 .Mult) (rM X.K mulR):=by
 intro pins s σ H x y v u Q I rx ry h;obtain⟨Z,m1,m2,m,za,h1,h2,e,q⟩:=h;unfold mulR at e
 split at e
 ·split at e
  ·next hl=>
   cases e;obtain⟨a,xs,rfl,e2,e3⟩:=h1.lst;obtain rfl:=h2.int;exact C8 pins s σ H _ _ v u Q I rx ry ⟨a,_,xs,rfl,rfl,e2,by lia,by lia,gn (by rw[e3.length]; exact hl.2.2),λp hp=>qM q za hp (e3.rep _)⟩
  ·cases e
 ·cases e
end
end VL
end
section
namespace L2
open PySem PySem.Spec PyProof.Rows
noncomputable def Gz(a:Addr)(o:Obj)(kvs:List (Key×V)):It :=
 ⟨λi H=>H a=some (.frz o (.dK kvs))/\i<kvs.length,λi H x H'=>H'=H/\∃p,kvs[i]? = some p/\x=kV p.1,λi H=>H a=some (.frz o (.dK kvs))/\kvs.length<=i⟩
theorem Ez{k:Key}{v:Value}(h:kg k v=true):RelV (kV k) v:=by
 rcases bf h with⟨i,t,rfl,rfl⟩ | ⟨x,t,rfl,rfl⟩
 ·exact⟨t,rfl⟩
 ·exact⟨t,rfl⟩
theorem pairG{α β:Type}{R:α->β->Prop}:∀{xs:List α}{ys:List β},JV R xs ys->∀{i:Nat}{x:α},xs[i]? = some x->∃y,ys[i]? = some y/\R x y:=by
 intro xs ys h
 induction h with
 |nil=>intro i x h; simp at h
 |cons r rr ih=>
  intro i x h;cases i with
  |zero=>simp at h; subst h; exact⟨_,rfl,r⟩
  |succ i=>
   simp only[List.getElem?_cons_succ] at h ⊢;exact ih h
theorem u7{X:Cx}{H:Hp}{h:Heap}{a:Addr}{o:Obj}{kvs:List (Key×V)}{es:Array DictEntry}{ep:Nat}(ho:o.data=.dict es ep)(q:cC X.prog X.w H h a (.frz o (.dK kvs))) :
  ∃vs,KV kvs vs/\h.DictAt (aV X.prog X.w) a vs ep:=by
 obtain⟨e,_,_,vs,kv,d⟩:=q;refine⟨vs,kv,?_⟩;obtain⟨o',es',ep',h1,h2,h3,h4⟩:=d;rw[e] at h1;cases h1;rw[ho] at h3;cases h3;exact⟨_,_,e,h2,ho,h4⟩
theorem wU{P:Fk}{w:World}{K:AT}{tg:Expr}(a it:Addr)(o:Obj)(kvs:List (Key×V)){es:Array DictEntry}{ep:Nat}(ho:o.data=.dict es ep):Turn P w K tg (Gz a o kvs) [it] it (λi h=>h.IsKeyIter it a i kvs.length ep) where
 mem:=by simp
 obj:=λi h st b hb=>by
  have e:b=it:=by simpa using hb
  subst e;obtain⟨o,e,c,d⟩:=st;exact⟨o,e,λv z=>by rw[d] at z; cases z⟩
 keep:=λi h h' st k=>st.at λo e=>k it (by simp) o e
 item:=by
  intro X hP hw hK hc i pins s σ H E I hf st hg;subst hP hw hK;obtain⟨hH,hi⟩:=hg;obtain⟨vs,kv,da⟩:=u7 ho (I.hok a _ hH);obtain⟨⟨k,v⟩,hv,e1,_⟩:=pairG kv (Bi hi);have hl:kvs.length=vs.length:=Jq kv;obtain⟨f0,f1,f2,f3,f4,f5⟩:=hf it (by simp)
  refine wpAny_pyNext_dict_item (knd:=aV X.prog X.w) (hl▸st) da hv λkey h' hk st' sb=>?_
  have I1:Inv X pins σ H { s with heap:=h' }:=I.turned (t':=s.toks) (λb o hb e=>(sb.2 b hb).trans e) f0 f1 f3 f4 f5
  exact⟨key,rfl,letGo_keyiter (s':={ s with heap:=h' }) st' ⟨kV k,H,I1,Ez hk,⟨rfl,_,Bi hi,by rw[e1]⟩,hl.symm▸st',λb hb=>(hf b hb).1⟩⟩
 done:=by
  intro X hP hw hK hc i pins s σ H E I hf st hg;subst hP hw hK;obtain⟨hH,hi⟩:=hg;obtain⟨vs,kv,da⟩:=u7 ho (I.hok a _ hH);have hl:kvs.length=vs.length:=Jq kv;obtain⟨f0,f1,f2,f3,f4,f5⟩:=hf it (by simp)
  exact wpAny_pyNext_dict_end (knd:=aV X.prog X.w) (I.ok.hd hc) (hl▸st) da (by simp; lia) λh' eb=>⟨rfl,I.turned (t':=s.toks) (λb o hb e=>eb b o hb e) f0 f1 f3 f4 f5⟩
 self:=λ_ _ _ _ _ st h=>wpAny_pyIter_keyiter st h
noncomputable def tKeys(te:TE):TI:=λσ H R=>te σ H λy H1=>∃a kvs,y=.ref a/\H1 a=some (.dK kvs)/\∀o,R (Gz a o kvs) (upd H1 a (.frz o (.dK kvs)))
theorem BJ{X:Cx}{tg l:Expr}{te:TE}(h:PE X l te):PI X tg l (tKeys te):=by
 intro pins s σ H R I hq;refine aZ (h pins s σ H _ I hq) λu s1 ⟨y,H1,I1,r1,a,kvs,ey,hH,hR⟩=>?_
 subst ey;have eu:u=.ref a:=r1;subst eu;obtain⟨hz,hS,vs,kv,d⟩:kvs.length<=FX/\(a == KI)=false/\∃vs,KV kvs vs/\s1.heap.DictOf (aV X.prog X.w) a vs:=I1.hok a _ hH;obtain⟨o,es,ep,h1,h2,h3,h4⟩:=id d;have hl:kvs.length=vs.length:=Jq kv;have hlt:a<s1.heap.objs.size:=DD h1;refine wpAny_pyIter_dict (knd:=aV X.prog X.w) (ep:=ep) hS ⟨o,es,h1,h2,h3,h4⟩ ?_;have I2:Inv X pins σ (upd H1 a (.frz o (.dK kvs))) { s1 with heap:=s1.heap.push { cls:=.type "dict_keyiterator",data:=.fields #[.ref a,.int 0 0,.int vs.length 0,.int ep 0] } }:=by
  refine I1.write (t':=s1.toks) (by rw[hH]; trivial) (.inl rfl) (λb u _ e=>Ap _ e) ⟨o,Ap _ h1⟩ ⟨Ap _ h1,hz,hS,vs,kv,o,es,ep,Ap _ h1,h2,h3,h4⟩
 have nn:upd H1 a (.frz o (.dK kvs)) s1.heap.objs.size=none:=by rw[aA (Kv hlt)]; exact I1.fresh
 refine⟨s1.heap.objs.size,[s1.heap.objs.size],_,Gz a o kvs,_,rfl,I2,wU a _ o kvs h3,?_,λb hb=>?_,hR o⟩
 ·rw[hl]
  exact⟨_,Ee _ rfl,rfl,rfl⟩
 ·have e:b=s1.heap.objs.size:=by simpa using hb
  subst e;exact I1.vn (Db _) nn
section
variable{X:Cx}
noncomputable def rL(D:Addr)(te:TE):Ce:=λσ H R=>te σ H λy H1=>∃ (k:Int) (S:Int->Bool) (n:Nat),y=.int k/\H1 D=some (.set S n)/\n+1<Nz/\R σ (upd H1 D (.set (λk'=>S k' || decide (k'=k)) (if S k then n else n+1)))
theorem BK{elt:Expr}{te:TE}{D:Addr}(h:PE X elt te):PEm2 X (do let v <-eval elt X.env; KJ elt.pos; let _ <-call (.builtin "set.add") [.ref D,v]) (rL D te):=by
 intro pins s σ H R I hq;refine AC (aZ (h pins s σ H _ I hq) λu s1 ⟨y,H1,I1,r1,k,S,n,ey,hD,hz,q⟩=>?_)
 subst ey;obtain⟨t,rfl⟩:=r1;refine AC (J4 (AC ?_));have hS:s1.heap.SetOf (I9 X.prog X.w) D S n:=I1.hok D _ hD;refine call_set_add (knd:=I9 X.prog X.w) (k:=k) (Lm _ _ _ _) rfl hS hz λh' sb hS'=>At ?_
 obtain⟨o,es,ep,tt,ho,_⟩:=id hS';exact⟨σ,_,I1.write (o:=.set (λk'=>S k' || decide (k'=k)) (if S k then n else n+1)) (t':=s1.toks+1) (by rw[hD]; trivial) (.inl rfl) (λb u hb e=>(sb.2 b hb).trans e) ⟨o,ho⟩ hS',q⟩
theorem EA(elt t1 i1 t2 i2:Expr)(f1 f2:List Expr)(scope:Scope)(pos:Pos)(it acc:Value)(env:Env) :
  Mk (.SetComp elt [⟨t1,i1,f1,0⟩,⟨t2,i2,f2,0⟩] scope pos) 0 it acc env=gQ t1 i1 f1 (inner (.SetComp elt [⟨t1,i1,f1,0⟩,⟨t2,i2,f2,0⟩] scope pos) i2 acc env) it env (again (.compLoop (.SetComp elt [⟨t1,i1,f1,0⟩,⟨t2,i2,f2,0⟩] scope pos) 0 it acc env)):=by
 unfold gQ inner;simp only[bind_assoc,pure_bind];show (KJ i1.pos >>= _)=_;refine congrArg _ (funext λ_=>?_)
 show (L1 it >>= _)=_;refine congrArg _ (funext λr=>?_)
 cases r with
 |none=>rfl
 |some v=>
  show (LR t1 it v >>= _)=_;refine congrArg _ (funext λ_=>?_)
  show (Lz t1 env v >>= _)=_;refine congrArg _ (funext λ_=>?_)
  refine congrArg _ (funext λok=>?_)
  cases ok with
  |false=>rfl
  |true=>rfl
theorem EB(elt t1 i1 t2 i2:Expr)(f1 f2:List Expr)(scope:Scope)(pos:Pos)(it acc:Value)(env:Env) :
  Mk (.SetComp elt [⟨t1,i1,f1,0⟩,⟨t2,i2,f2,0⟩] scope pos) 1 it acc env=gQ t2 i2 f2 (do let v <-eval elt env; KJ elt.pos; let _ <-call (.builtin "set.add") [acc,v]) it env (again (.compLoop (.SetComp elt [⟨t1,i1,f1,0⟩,⟨t2,i2,f2,0⟩] scope pos) 1 it acc env)):=by rfl
theorem zA{d:Nat}(hd:d<2){prog:Fk}{w:World}{A:HN}{R:OZ->B2->Prop}{s:B2}{elt t1 i1 t2 i2:Expr}{f1 f2:List Expr}{scope:Scope}{pos:Pos}{it acc:Value}{env:Env}
  (h0:Js (model prog w) A (.compLoop (.SetComp elt [⟨t1,i1,f1,0⟩,⟨t2,i2,f2,0⟩] scope pos) d it acc env) R s)
  (h:wpAny (model prog w) A (MM it) (λit' s'=>Js (model prog w) A (.compLoop (.SetComp elt [⟨t1,i1,f1,0⟩,⟨t2,i2,f2,0⟩] scope pos) d it' acc env) R s')
   (notedBy (model prog w) A env λx s'=>R (.error x) s') s) :
  Js (model prog w) A (.compStart (.SetComp elt [⟨t1,i1,f1,0⟩,⟨t2,i2,f2,0⟩] scope pos) d it acc env) R s:=by
 rcases (show d=0\/d=1 by lia) with rfl | rfl
 ·refine LS ?_
  show wpAny _ _ ((Mw (.SetComp elt [⟨t1,i1,f1,0⟩,⟨t2,i2,f2,0⟩] scope pos) 0 it acc env).onRaise (λx=>do O0 x env; KJ OI)) _ _ s
  refine Op ?_;unfold Mw;show wpAny _ _ (ask >>= _) _ _ s;refine AC (Ju (wpAny_ite ?_))
  split
  ·first
    |exact AC (At (At (KH rfl h0)))
    |exact At (KH rfl h0)
  ·first
    |exact AC (Ii (AC (J4 (AC (J3 h (λit' s' h'=>At (KH rfl h')) λ_ _ x=>x)))))
    |(refine AC (Ii ?_); show wpAny _ _ (KJ i1.pos >>= _) _ _ s; exact AC (J4 (AC (J3 h (λit' s' h'=>At (KH rfl h')) λ_ _ x=>x))))
 ·refine LS ?_
  show wpAny _ _ ((Mw (.SetComp elt [⟨t1,i1,f1,0⟩,⟨t2,i2,f2,0⟩] scope pos) 1 it acc env).onRaise (λx=>do O0 x env; KJ OI)) _ _ s
  refine Op ?_;unfold Mw;show wpAny _ _ (ask >>= _) _ _ s;refine AC (Ju (wpAny_ite ?_))
  split
  ·first
    |exact AC (At (At (KH rfl h0)))
    |exact At (KH rfl h0)
  ·first
    |exact AC (Ii (AC (J4 (AC (J3 h (λit' s' h'=>At (KH rfl h')) λ_ _ x=>x)))))
    |(refine AC (Ii ?_); show wpAny _ _ (KJ i2.pos >>= _) _ _ s; exact AC (J4 (AC (J3 h (λit' s' h'=>At (KH rfl h')) λ_ _ x=>x))))
theorem EC{elt t1 i1 t2 i2:Expr}{f1 f2:List Expr}{scope:Scope}{pos:Pos}{D:Addr}{wi:TI}{g2:TG}{tt2:TT}{te:TE}(hc:X.calm=true)(hx:X.xe=λ_ _=>False)(hi:PI X t2 i2 wi)(hg:PG X t2 g2)(hif:ly X f2 tt2)(hel:PE X elt te)(hs:∀x,HG i2 X.env x=pure x) :
  PEm2 X (inner (.SetComp elt [⟨t1,i1,f1,0⟩,⟨t2,i2,f2,0⟩] scope pos) i2 (.ref D) X.env) (Gw wi g2 tt2 (rL D te)):=by
 intro pins s σ H R I hq;unfold inner;refine AC (aZ (hi pins s σ H _ I hq) λv s1 h1=>?_)
 refine AC (J4 ?_);rw[hs];refine AC (At ?_);refine AC (HW (aZ h1 λitv s2 h2=>?_))
 obtain⟨it,fp,tn,J,H2,e,I2,T,st2,f2',h2⟩:=h2;subst e;refine AC (wpAny_runOwn ?_);have loop:Js (model X.prog X.w) X.A (.compLoop (.SetComp elt [⟨t1,i1,f1,0⟩,⟨t2,i2,f2,0⟩] scope pos) 1 (.ref it) (.ref D) X.env) (λr s'=>match r with | .ok f=>wpAny (model X.prog X.w) X.A (pure ()) (λ_ s'=>∃σ' H',Inv X pins σ' H' s'/\R σ' H') X.xe s' | .error e=>cameBackBy (model X.prog X.w) X.A X.env X.xe e s') s2 :=
  mj (EB ..) (λ_ _ _ z=>z) rfl hc hx hg hif (BK hel) T I2 st2 f2' h2 λτ' H' s' J' q=>At ⟨τ',H',J',q⟩
 exact zA (by decide) loop (T.self X.A 0 _ _ _ st2 loop)
end
noncomputable def tSC2(fr:List (Option Nat))(wi:TI)(g:Bk->TG)(tt:Bk->TT)(wi2:Bk->TI)(g2:Bk->TG)(tt2:Bk->TT)(te:Bk->TE):TE:=λσ H Q=>wi σ H λJ H1=>∀D,H1 D=none->∀z,iV (g z) (tt z) (Gw (wi2 z) (g2 z) (tt2 z) (rL D (te z))) J (lu fr σ) (upd H1 D (.set (λ_=>false) 0)) λ_ H'=>Q (.ref D) H'
section
variable{X:Cx}
theorem ED{elt target iter t2 i2:Expr}{ifs f2:List Expr}{scope:Scope}{pos:Pos}{N:List Str}{fr:List (Option Nat)}{wi:TI}{g:Bk->TG}{tt:Bk->TT}{wi2:Bk->TI}{g2:Bk->TG}{tt2:Bk->TT}{te:Bk->TE}(hc:X.calm=true)(S:aP X scope N fr)(hi:PI X target iter wi)
  (hin:∀z:Bk,PG (ay X scope z.cl N z.C z.fp z.s z.H) target (g z)/\ly (ay X scope z.cl N z.C z.fp z.s z.H) ifs (tt z)/\PI (ay X scope z.cl N z.C z.fp z.s z.H) t2 i2 (wi2 z)/\PG (ay X scope z.cl N z.C z.fp z.s z.H) t2 (g2 z)/\ly (ay X scope z.cl N z.C z.fp z.s z.H) f2 (tt2 z)/\PE (ay X scope z.cl N z.C z.fp z.s z.H) elt (te z))
  (hs:∀x,HG iter X.env x=pure x:=by intro _; rfl) (hs2:∀(env:Env)x,HG i2 env x=pure x:=by intro _ _; rfl):PE X (.SetComp elt [⟨target,iter,ifs,0⟩,⟨t2,i2,f2,0⟩] scope pos) (tSC2 fr wi g tt wi2 g2 tt2 te):=by
 intro pins s σ H Q I h;show wpAny _ _ (Ot (.SetComp elt [⟨target,iter,ifs,0⟩,⟨t2,i2,f2,0⟩] scope pos) scope X.env (Pb [⟨target,iter,ifs,0⟩,⟨t2,i2,f2,0⟩] pos) (newSet (.type "set")) (Qh [⟨target,iter,ifs,0⟩,⟨t2,i2,f2,0⟩]) (firstIter [⟨target,iter,ifs,0⟩,⟨t2,i2,f2,0⟩] X.env)) _ _ s;refine Kn (g:=⟨target,iter,ifs,0⟩) (gs:=[⟨t2,i2,f2,0⟩]) (use:=none) rfl hs (cy (S.cells I)) S.kind S.locs ?_;refine aZ (hi pins s σ H _ I h) λv s1 h1=>aZ h1 λitv s2 h2=>?_
 obtain⟨it,fp,tn,J,H2,e,I2,T,st2,f2',h2⟩:=h2;subst e;refine wpAny_newSet_of (knd:=I9 X.prog X.w) λled hset=>?_
 have hD:H2 s2.heap.objs.size=none:=I2.fresh;have I3:Inv X pins σ (upd H2 s2.heap.objs.size (.set (λ_=>false) 0)) { s2 with heap:=s2.heap.push { cls:=.type "set",dict:=none,data:=.set #[] 0 (.fresh 0 0 led) } }:=I2.laid (t':=s2.toks) (λ_ _ q=>Ap _ q) (Db _) hset
 have lt2:∀b∈fp,b<s2.heap.objs.size:=λb hb=>by
  obtain⟨o,e,_⟩:=T.obj _ _ st2 b hb;exact DD e
 have f3:∀b∈fp,gG X pins (upd H2 s2.heap.objs.size (.set (λ_=>false) 0)) b:=λb hb=>⟨by rw[aA (FC (lt2 b hb))]; exact(f2' b hb).1,(f2' b hb).2⟩
 generalize hs3:({ s2 with heap:=s2.heap.push { cls:=.type "set",dict:=none,data:=.set #[] 0 (.fresh 0 0 led) } }:B2)=s3 at I3 ⊢
 have sz3:s3.heap.objs.size=s2.heap.objs.size+1:=by rw[<-hs3]; exact IA ..
 have u23:Un (frs X.stack) [] H2 (upd H2 s2.heap.objs.size (.set (λ_=>false) 0)) s2.heap s3.heap:=by
  rw[<-hs3];exact Un.laid (λb o e=>Ap _ e) (Db _) hD
 have ho:s3.os=s2.os:=by rw[<-hs3]
 have st3:tn 0 s3.heap:=T.keep _ _ _ st2 λb _ o e=>by rw[<-hs3]; exact Ap _ e
 refine LH S.nocell (by intro y hy; simp at hy) (λh4 hns hsb=>?_) S.kind
 have lt3:∀b∈fp,b<s3.heap.objs.size:=λb hb=>Go (lt2 b hb) (by rw[sz3]; exact IX _)
 have I4:=je (tk:=s3.toks+([]:List (Str×Value)).length) I3 S f3 lt3 hns hsb;have old4:∀b o,s3.heap.get? b=some o->h4.get? b=some o:=λb o e=>(hsb.2 b (FC (DD e))).trans (Ap _ e)
 have st4:tn 0 h4:=T.keep _ _ _ st3 λb _ o e=>old4 b o e
 have h2:=h2 _ hD ⟨aM X.env.cells scope.names [],s3.heap.objs.size,fp,s3,upd H2 s2.heap.objs.size (.set (λ_=>false) 0)⟩
 obtain⟨hg,hif,hi2,hg2,hif2,hel⟩:=hin ⟨aM X.env.cells scope.names [],s3.heap.objs.size,fp,s3,upd H2 s2.heap.objs.size (.set (λ_=>false) 0)⟩
 have loop:Js (model X.prog X.w) X.A (.compLoop (.SetComp elt [⟨target,iter,ifs,0⟩,⟨t2,i2,f2,0⟩] scope pos) 0 (.ref it) (.ref s2.heap.objs.size) (Ml scope (aM X.env.cells scope.names []) s3.heap.objs.size X.env))
   (QA (model X.prog X.w) X.A X.xe none (EP X pins σ Q) (.ref s2.heap.objs.size) s3.heap.objs.size) { s3 with heap:=h4,toks:=s3.toks+([]:List (Str×Value)).length }:=by
  refine mj (X:=ay X scope (aM X.env.cells scope.names []) N s3.heap.objs.size fp s3 (upd H2 s2.heap.objs.size (.set (λ_=>false) 0))) (pins:=[])
   (EA ..) (λ_ _ _ z=>z) rfl hc rfl hg hif (EC hc rfl hi2 hg2 hif2 hel (hs2 _)) T I4 st4 (λb hb=>?_) h2 (λτ' H' s' J' q=>?_)
  ·obtain⟨f0,f1,fs,fe,fc,fp'⟩:=f3 b hb
   refine⟨f0,FC (lt3 b hb),λz=>?_,.inl hb,λx c e=>fc x c (dN scope.names [] (λ_ _ z=>by simp at z) e),λp hp=>absurd (show p∈([]:List (Addr×Obj)) from hp) (by simp)⟩
   rcases lK (I3.iN b z) with z | z
   ·exact f1 z
   ·exact fs z
  ·obtain⟨m,hn,_⟩:=J'.loc
   exact⟨m,hn,λh' sb=>⟨.ref s2.heap.objs.size,H',jf I2 f2' u23 ho (by rw[sz3]; exact IX _) J' sb,rfl,q⟩⟩
 exact zA (by decide) loop (T.self X.A 0 _ _ _ st4 loop)
noncomputable def Hg(te:TE):TE:=λσ H Q=>te σ H λy H1=>∃ (p:Addr) (S:Int->Bool) (n:Nat),y=.ref p/\H1 p=some (.set S n)/\Q (.int n) H1
theorem zB{a:Expr}{te:TE}{p1 pos:Pos}(hc:X.calm=true)(hg:Gl X "len")(hm:X.mg "len" = none)(ha:PE X a te)(hs:FK [a] X.env=[(false,eval a X.env)]:=by rfl) :
  PE X (.Call (.Name "len" p1) [a] [] pos) (Hg te):=by
 intro pins s σ H Q I h;refine Jj (eB I hg hm boot_len ?_);refine Kh ?_ (by rw[hs]; rfl) rfl
 rw[hs];refine MW ?_;refine aZ (ha pins s σ H _ I h) λu s1 ⟨y,H1,I1,r1,p,S,n,ey,hp,q⟩=>LZ ?_
 subst ey;have eu:u=.ref p:=r1;subst eu;obtain⟨o,es,ep,t,ho,hex,hd,hel,hmem,hb',hf,hn⟩:=(show s1.heap.SetOf (I9 X.prog X.w) p S n from I1.hok p _ hp)
 have hfit:(es.size:Int)<2 ^ 63:=by
  have:(es.size:Int)<4096:=by unfold Nz at hb'; lia
  exact Int.lt_of_lt_of_le this (by decide)
 refine call_len_set (s:=s1) ho hex hd hf hfit ?_;exact⟨.int n,H1,I1.kept (t':=s1.toks+1+1) (λb o e=>e),⟨_,by rw[hn]⟩,q⟩
end
end L2
end
section
namespace VL
open PySem PySem.Spec L2 PyProof.Rows
noncomputable def mX(f:FE):FI:=λρ=>(f ρ).bind λp=>match p.1 with
 |.t (.aL kvs)=>some (kvs.map λq=>sH q.1,p.2)
 |_=>none
section
variable{X:Cx}{pos:Pos}{pin:List Nat}{tg:Expr}
theorem EE{K:AT}{H:Hp}{Z:Zs}:∀k:Key,Fz K H Z (kV k) (sH k)
 |.inl i=>.int i
 |.inr x=>.str x
theorem BL{l:Expr}{f:FE}(h:VE X l f):VI X tg l (mX f):=jY (BJ h) λσ H R hq=>by
 obtain⟨Z,ρ,F,ds,ρ',S,w,e,q⟩:=hq;obtain⟨⟨o1,ρ1⟩,e1,e⟩:=oB e;dsimp only at e
 split at e
 ·next kvs=>
  have er:ρ1=ρ':=congrArg Prod.snd (Fu e);have ed:(kvs.map λq=>sH q.1)=ds:=congrArg Prod.fst (Fu e)
  subst er ed;refine⟨Z,ρ,F,_,ρ1,S,w,e1,λx H1 Z1 F1 G1 S1 O1 f1=>?_⟩
  cases O1 with
  |t ow=>
   cases ow with
   |@aL a kxs _ hH fz=>
    refine⟨a,kxs,rfl,hH,λo=>?_⟩
    obtain⟨f2,g2⟩:=aI.put f1 (o':=.frz o (.dK kxs)) hH (λ_ z=>nomatch z) (λ_ _ z=>nomatch z)
    obtain⟨n1,_,n3⟩:=aU f1.nd;have f3:=f2.give (F:=F1) (G:=[a]) n1 (λb hb=>lL _ hb) (λb hb=>lR _ hb) n3 (λb hb=>by
     have e:b=a:=by simpa using hb
     subst e; rw[aB]; exact λz=>nomatch z)
    have at':∀H2 Z2,aJ (upd H1 a (.frz o (.dK kxs))) (λb=>Z1 b\/b∈[a]) H2 Z2->H2 a=some (.frz o (.dK kxs)):=λH2 Z2 g=>g.keep a _ (.inr lS) aB
    refine q _ _ _ F1 ((S1.mono g2 λb hb u e=>?_).mono aJ.more λ_ _ _ e=>e) ⟨λH2 Z2 g k d hd=>?_,λH2 Z2 g k hk=>⟨at' H2 Z2 g,?_⟩⟩ f3
    ·rw[aA (λz=>n3 b hb (by rw[z]; exact lS))]
     exact e
    ·have hl:k<kxs.length:=by
      rw[fz.length];rcases Da.mp hd with⟨h,_⟩
      simpa using h
     refine⟨⟨at' H2 Z2 g,hl⟩,λx H' hx=>?_⟩
     obtain⟨rfl,p,hp,rfl⟩:=hx;refine⟨λ_ _ e=>e,?_⟩
     have hk:(kxs.map (·.1))[k]? = (kvs.map (·.1))[k]? := by rw[fz.keys]
     rw[HL,HL,hp] at hk;rw[HL] at hd;cases hv:kvs[k]? with
     |none=>rw[hv] at hk; simp at hk
     |some v=>
      rw[hv] at hk hd;simp at hk hd;subst hd;rw[hk];exact EE _
    ·rw[D1] at hk
     rw[fz.length];exact hk
 ·cases e
theorem BN{l:Expr}{f:FE}(h:WE X l f):WI X tg l (mX f):=⟨BL h.h⟩
end
noncomputable def zW(ks:List Int)(k:Int):List Int:=if k∈ks then ks else ks++[k]
noncomputable def dI(ns:List Int):List Int:=ns.foldl zW []
theorem BO(ns:List Int)(k:Int):dI (ns++[k])=zW (dI ns) k:=by unfold dI; rw[List.foldl_append]; rfl
theorem u9{ks:List Int}{k x:Int}:x∈zW ks k↔x∈ks\/x=k:=by
 unfold zW
 split
 ·next h=>exact⟨.inl,λz=>z.elim id λe=>e▸h⟩
 ·simp
theorem vc(ks:List Int)(k:Int):(zW ks k).length=if decide (k∈ks)=true then ks.length else ks.length+1:=by
 unfold zW
 by_cases h:k∈ks
 ·simp[h]
 ·simp[h]
theorem EF(ns:List Int):(dI ns).length<=ns.length:=by
 suffices h:∀(ns ks:List Int),(ns.foldl zW ks).length<=ks.length+ns.length by have:=h ns []; simpa[dI] using this
 intro ns
 induction ns with
 |nil=>intro ks; simp
 |cons n ns ih=>
  intro ks;rw[Kg];refine JF (ih _) ?_;rw[vc]
  split <;> simp <;> lia
theorem EG{ns:List Int}{x:Int}:x∈dI ns↔x∈ns:=by
 suffices h:∀(ns ks:List Int),x∈ns.foldl zW ks↔x∈ks\/x∈ns by have:=h ns []; simpa[dI] using this
 intro ns
 induction ns with
 |nil=>intro ks; simp
 |cons n ns ih=>
  intro ks;rw[Kg,ih,u9];simp[or_assoc]
theorem zC(ns:List Int):(dI ns).Nodup:=by
 suffices h:∀(ns ks:List Int),ks.Nodup->(ns.foldl zW ks).Nodup from h ns [] JS
 intro ns
 induction ns with
 |nil=>intro ks h; exact h
 |cons n ns ih=>
  intro ks h;rw[Kg];refine ih _ ?_;unfold zW
  split
  ·exact h
  ·next hn=>exact FM.mpr ⟨h,by simp,λa ha b hb e=>hn (by simp at hb; rw[<-hb,<-e]; exact ha)⟩
theorem oU{fg:FG}{ft:FT}{fe:FE}:∀{ds:List B1}{ρ:Ev}{acc:List B1}{r:List B1×Ev},bz fg ft fe ds ρ acc=some r->∃m,r.1=acc++m:=by
 intro ds
 induction ds with
 |nil=>intro ρ acc r e; cases e; exact⟨[],(FB _).symm⟩
 |cons d ds ih=>
  intro ρ acc r e;obtain⟨ρ1,e1,e⟩:=oB e;obtain⟨⟨b,ρ2⟩,e2,e⟩:=oB e;cases b with
  |false=>exact ih e
  |true=>
   obtain⟨p,e3,e⟩:=oB e;obtain⟨q,e4,e⟩:=oB e
   split at e
   ·obtain⟨m,hm⟩:=ih e
    exact⟨q.1::m,by rw[hm]; simp⟩
   ·cases e
theorem tT{fg:FG}{ft:FT}{i8:FI}{fg2:FG}{iZ:FT}{fe:FE}:∀{ds:List B1}{ρ:Ev}{acc:List B1}{r:List B1×Ev},fQ fg ft i8 fg2 iZ fe ds ρ acc=some r->∃m,r.1=acc++m:=by
 intro ds
 induction ds with
 |nil=>intro ρ acc r e; cases e; exact⟨[],(FB _).symm⟩
 |cons d ds ih=>
  intro ρ acc r e;obtain⟨ρ1,e1,e⟩:=oB e;obtain⟨⟨b,ρ2⟩,e2,e⟩:=oB e;cases b with
  |false=>exact ih e
  |true=>
   obtain⟨p,e3,e⟩:=oB e;obtain⟨q,e4,e⟩:=oB e;obtain⟨m,hm⟩:=oU e4;obtain⟨m',hm'⟩:=ih e;exact⟨m++m',by rw[hm',hm,BM]⟩
noncomputable def zD(n:Nat)(js:List Nat)(fi:FI)(fg:FG)(ft:FT)(i8:FI)(fg2:FG)(iZ:FT)(fe:FE):FE:=λρ=>(fi ρ).bind λp=>(caps p.2 js).bind λos=>(bQ os p.2).bind λq=>
 (fQ fg ft i8 fg2 iZ fe p.1 (D2 n none++q.1.map some) []).bind λr=>(gu r.1).bind λns=>if ns.length<=4000 then (fin (D2 js.length true) q.1 (r.2.drop n)).bind λms'=>some (.t (.v (.int (dI ns).length)),eT os ms' q.2) else none
def zE(H:Hp)(D:Addr)(acc:List B1):Prop:=∃ns:List Int,acc=ns.map .int/\H D=some (.set (λk=>decide (k∈dI ns)) (dI ns).length)
theorem zE.mono{H H':Hp}{D:Addr}{acc:List B1}(h:zE H D acc)(k:∀o,H D=some o->H' D=some o):zE H' D acc:=by
 obtain⟨ns,e,q⟩:=h;exact⟨ns,e,k _ q⟩
theorem zE.some{H:Hp}{D:Addr}{acc:List B1}(h:zE H D acc):∃S n,H D=some (.set S n):=let ⟨_,_,q⟩:=h; ⟨_,_,q⟩
def Ints(all:List B1):Prop:=∃ns:List Int,all=ns.map .int/\ns.length<=4000
section
variable{X:Cx}{pos:Pos}
def nO(D:Addr)(H:Hp)(_:Zs)(acc:List B1)(G:List Addr):Prop:=G=[D]/\zE H D acc
theorem nO.mono{D:Addr}{H H':Hp}{Z Z':Zs}{acc:List B1}{G:List Addr}(h:nO D H Z acc G)(k:∀a∈G,∀o,H a=some o->H' a=some o):nO D H' Z' acc G:=by
 obtain⟨rfl,s⟩:=h;exact⟨rfl,s.mono (k D lS)⟩
theorem nO.al{D:Addr}{H:Hp}{Z:Zs}{acc:List B1}{G:List Addr}(h:nO D H Z acc G):∀a∈G,H a≠none:=by
 obtain⟨rfl,s⟩:=h;obtain⟨_,_,h⟩:=s.some;exact λa ha e=>by rw[Ch.mp ha,h] at e; cases e
theorem BP{pv:Pv}{fg:FG}{ft:FT}{fe:FE}{J:It}{ds:List B1}{D:Addr}{τ:L2.St}{H1:Hp}{Z1:Zs}{A:List Addr}{ρ0:Ev}{r:List B1×Ev}{acc0 all:List B1}{Q:L2.St->Hp->Prop}(S:aS X.K H1 Z1 τ ρ0 A)(w:Wf H1 Z1 (A++[D]))(P:Pin pv τ)(d0:zE H1 D acc0)(hJ:jy X.K J H1 Z1 ds)(e:bz fg ft fe ds ρ0 acc0=some r)(ha:Ints all)(hm:∃m,all=r.1++m)
  (q:∀τ' H' Z' F',aS X.K H' Z' τ' r.2 F'->Pin pv τ'->zE H' D r.1->aI H1 Z1 (A++[D]) H' Z' (F'++[D])->Q τ' H'):iV (vG X.K pv fg) (vT X.K ft) (rL D (vE X.K fe)) J τ H1 Q:=by
 refine jz (nO D) (λds ρ acc=>bz fg ft fe ds ρ acc=some r) (λds ρ acc=>((fe ρ).bind λp=>(cL p.1 p.2).bind λq=>if acc.length<lim then bz fg ft fe ds q.2 (acc++[q.1]) else none)=some r) (λa _ k=>a.mono k) nO.al (λd ds ρ acc e=>?_) S P ⟨rfl,d0⟩ (aI.refl w) e (λH2 Z2 _ f=>hJ.go H2 Z2 (f.grow w)) (λH2 Z2 _ f=>hJ.stop H2 Z2 (f.grow w)) (λds' τ H Z ρ F G acc e S P a f N hN=>?_) λτ' H' Z' ρ' F' G' acc' S P a f e=>?_
 ·obtain⟨ρ3,e3,e⟩:=oB e
  obtain⟨⟨b,ρ4⟩,e4,e⟩:=oB e;exact⟨ρ3,b,ρ4,e3,e4,λh=>by subst h; exact e,λh=>by subst h; exact e⟩
 ·have al:=a.al
  obtain⟨rfl,d4⟩:=a;obtain⟨⟨o5,ρ5⟩,e5,e2⟩:=oB e;obtain⟨⟨d,ρ6⟩,e6,e2⟩:=oB e2
  split at e2
  ·next hl=>
   refine⟨Z,ρ,F,o5,ρ5,S,f.left.wf,e5,λy H5 Z5 F5 G5 S5 O5 g5=>?_⟩
   have d5:zE H5 D acc:=d4.mono λo h=>g5.keep D _ (λz=>(aU f.nd).2.2 D z lS) h
   obtain⟨Z6,F6,S6,y6,f6,g6⟩:=freeze S5 O5 (f.trans (g5.frame f.wf al)) e6;obtain⟨m,em⟩:=oU e2;obtain⟨m',em'⟩:=hm;obtain⟨ns,ens,hns⟩:=ha;obtain⟨ks,eks,hD⟩:=d5;have hall:ns.map IF=ks.map .int++d::(m++m'):=by rw[<-ens,em',em,eks]; simp
   obtain⟨k,rfl⟩:∃k,d=.int k:=by
    have:d∈ns.map IF:=by rw[hall]; simp
    obtain⟨k,_,e⟩:=IL.mp this;exact⟨k,e.symm⟩
   have hlen:ks.length<4000:=by
    have:=congrArg MJ hall;simp at this;lia
   cases y6;obtain⟨f7,g7⟩:=f6.put (o':=.set (λk'=>decide (k'∈dI ks) || decide (k'=k)) (if decide (k∈dI ks)=true then (dI ks).length else (dI ks).length+1)) hD (λ_ z=>nomatch z) (λ_ _ z=>nomatch z)
   have hb:=EF ks;refine⟨k,_,_,rfl,hD,by unfold Nz; lia,hN τ _ Z6 ρ6 F6 _ (acc++[.int k]) (S6.mono g7 λa h o e=>?_) P ⟨rfl,ks++[k],by rw[eks]; simp,?_⟩ f7 e2⟩
   ·have hne:a≠D:=λz=>(aU f6.nd).2.2 a h (by rw[z]; exact lS)
    rw[aA hne];exact e
   ·rw[aB,BO,vc]
    congr 2
    funext x
    rw[Bool.eq_iff_iff];simp[u9]
  ·cases e2
 ·cases e
  exact q τ' H' Z' F' S P a.2 (by rw[a.1] at f; exact f)
end
section
variable{X:Cx}{pos:Pos}
theorem zF{pv:Pv}{fg:FG}{ft:FT}{i8:FI}{fg2:FG}{iZ:FT}{fe:FE}{J:It}{ds:List B1}{D:Addr}{τ:L2.St}{H1:Hp}{Z1:Zs}{A:List Addr}{ρ0:Ev}{r:List B1×Ev}{acc0:List B1}{Q:L2.St->Hp->Prop}(S:aS X.K H1 Z1 τ ρ0 A)(w:Wf H1 Z1 (A++[D]))(P:Pin pv τ)(d0:zE H1 D acc0)(hJ:jy X.K J H1 Z1 ds)(e:fQ fg ft i8 fg2 iZ fe ds ρ0 acc0=some r)(ha:Ints r.1)
  (q:∀τ' H' Z' F',aS X.K H' Z' τ' r.2 F'->Pin pv τ'->zE H' D r.1->aI H1 Z1 (A++[D]) H' Z' (F'++[D])->Q τ' H'):iV (vG X.K pv fg) (vT X.K ft) (Gw (vI X.K i8) (vG X.K pv fg2) (vT X.K iZ) (rL D (vE X.K fe))) J τ H1 Q:=by
 refine jz (nO D) (λds ρ acc=>fQ fg ft i8 fg2 iZ fe ds ρ acc=some r) (λds ρ acc=>((i8 ρ).bind λp=>(bz fg2 iZ fe p.1 p.2 acc).bind λq=>fQ fg ft i8 fg2 iZ fe ds q.2 q.1)=some r) (λa _ k=>a.mono k) nO.al (λd ds ρ acc e=>?_) S P ⟨rfl,d0⟩ (aI.refl w) e (λH2 Z2 _ f=>hJ.go H2 Z2 (f.grow w)) (λH2 Z2 _ f=>hJ.stop H2 Z2 (f.grow w)) (λds' τ H Z ρ F G acc e S P a f N hN=>?_) λτ' H' Z' ρ' F' G' acc' S P a f e=>?_
 ·obtain⟨ρ3,e3,e⟩:=oB e
  obtain⟨⟨b,ρ4⟩,e4,e⟩:=oB e;exact⟨ρ3,b,ρ4,e3,e4,λh=>by subst h; exact e,λh=>by subst h; exact e⟩
 ·obtain⟨⟨ds2,ρ5⟩,e5,e2⟩:=oB e
  obtain⟨⟨acc6,ρ6⟩,e6,e2⟩:=oB e2;refine⟨Z,ρ,F,ds2,ρ5,S,f.left.wf,e5,λJ2 H5 Z5 F5 S5 hJ2 g5=>?_⟩
  have f5:=f.trans (g5.frame f.wf a.al);obtain⟨rfl,d5⟩:=nO.mono (Z':=Z5) a λa h o e=>g5.keep a o (λz=>(aU f.nd).2.2 a z h) e
  exact BP S5 f5.wf P d5 hJ2 e6 ha (tT e2) λτ' H' Z' F' S6 P6 d6 f6=>hN τ' H' Z' ρ6 F' _ acc6 S6 P6 ⟨rfl,d6⟩ (f5.trans f6) e2
 ·cases e
  exact q τ' H' Z' F' S P a.2 (by rw[a.1] at f; exact f)
theorem BQ{n:Nat}{js:List Nat}{fi:FI}{fg:FG}{ft:FT}{i8:FI}{fg2:FG}{iZ:FT}{fe:FE}{σ:L2.St}{H:Hp}{Q:VK}{fr:List (Option Nat)}(hfr:fr=D2 n none++js.map some)(hq:vE X.K (zD n js fi fg ft i8 fg2 iZ fe) σ H Q) :
  Hg (tSC2 fr (vI X.K fi) (λ_=>vG X.K (fP n js σ) fg) (λ_=>vT X.K ft) (λ_=>vI X.K i8) (λ_=>vG X.K (fP n js σ) fg2) (λ_=>vT X.K iZ) (λ_=>vE X.K fe)) σ H Q:=by
 subst hfr;obtain⟨Z,ρ,F,o,ρ',S,w,e,q⟩:=hq;obtain⟨⟨ds,ρ1⟩,e1,e⟩:=oB e;obtain⟨os,e2,e⟩:=oB e;obtain⟨⟨ms,ρh⟩,e3,e⟩:=oB e;obtain⟨⟨acc,ρi⟩,e4,e⟩:=oB e;obtain⟨ns,e6,e⟩:=oB e
 split at e
 case isFalse=>cases e
 next hns=>
 obtain⟨ms',e5,e⟩:=oB e;cases e;have eacc:=bP e6;dsimp only at eacc;refine⟨Z,ρ,F,ds,ρ1,S,w,e1,λJ H1 Z1 F1 S1 hJ f1 D hD z=>?_⟩
 obtain⟨τ,A,Fh,eτ,S0,wA,P0,h2,n3,back⟩:=gy (n:=n) S1 f1 e2 e3;rw[eτ];have n0:=aI.sN (o:=.set (λ_=>false) 0) hD wA.za
 have f0:aI H1 Z1 A (upd H1 D (.set (λ_=>false) 0)) Z1 (A++[D]):=n0.news wA S0.al
 refine zF (acc0:=[]) (S0.news n0) f0.wf P0 ⟨[],rfl,by rw[aB]; simp[dI]⟩ (hJ.mono n0.uv) e4 ⟨ns,eacc,hns⟩ λτ' H2 Z2 F2 S2 P2 d2 f2' =>?_
 obtain⟨F4,p1,f4⟩:=back _ _ _ _ _ _ _ S2 P2 (f0.trans f2') e5;obtain⟨ks,ek,hDs⟩:=d2;have eks:ks=ns:=by
  have h:ks.map IF=ns.map .int:=ek.symm.trans eacc;exact(List.map_inj_right (λa b e=>PyData.int.inj e)).mp h
 subst eks;exact⟨D,_,_,rfl,hDs,q (.int (dI ks).length) H2 Z2 F4 [] p1 (.t (.v (.int _))) f4.left.nil⟩
theorem EH(n:Nat)(js:List Nat){elt target iter t2 i2:Expr}{ifs f2:List Expr}{scope:Scope}{N:List Str}{fr:List (Option Nat)}{pin:List Nat}{fi:FI}{fg:FG}{ft:FT}{i8:FI}{fg2:FG}{iZ:FT}{fe:FE}{p1 pos2:Pos}(hfr:fr=D2 n none++js.map some)(hpin:pin=(Fa js.length).map (n + ·))(hc:X.calm=true)(hgl:Gl X "len")(hm:X.mg "len" = none)(S:aP X scope N fr)(hi:VI X target iter fi)
  (hin:∀z:Bk,VG (ay X scope z.cl N z.C z.fp z.s z.H) pin target fg/\VF (ay X scope z.cl N z.C z.fp z.s z.H) ifs ft/\VI (ay X scope z.cl N z.C z.fp z.s z.H) t2 i2 i8/\VG (ay X scope z.cl N z.C z.fp z.s z.H) pin t2 fg2/\VF (ay X scope z.cl N z.C z.fp z.s z.H) f2 iZ/\VE (ay X scope z.cl N z.C z.fp z.s z.H) elt fe)
  (hst:FK [.SetComp elt [⟨target,iter,ifs,0⟩,⟨t2,i2,f2,0⟩] scope pos2] X.env=[(false,eval (.SetComp elt [⟨target,iter,ifs,0⟩,⟨t2,i2,f2,0⟩] scope pos2) X.env)]:=by rfl)
  (hs:∀x,HG iter X.env x=pure x:=by intro _; rfl) (hs2:∀(env:Env)x,HG i2 env x=pure x:=by intro _ _; rfl):VE X (.Call (.Name "len" p1) [.SetComp elt [⟨target,iter,ifs,0⟩,⟨t2,i2,f2,0⟩] scope pos2] [] pos) (zD n js fi fg ft i8 fg2 iZ fe):=λpins s σ H Q I hq=>
 zB hc hgl hm (ED (g:=λ_=>vG X.K (fP n js σ) fg) (tt:=λ_=>vT X.K ft) (wi2:=λ_=>vI X.K i8) (g2:=λ_=>vG X.K (fP n js σ) fg2) (tt2:=λ_=>vT X.K iZ) (te:=λ_=>vE X.K fe) hc S hi (λz=>⟨(hin z).1 _ (iW n js σ hpin),(hin z).2.1,(hin z).2.2.1,(hin z).2.2.2.1 _ (iW n js σ hpin),(hin z).2.2.2.2.1,(hin z).2.2.2.2.2⟩) hs hs2) hst pins s σ H Q I (BQ hfr hq)
theorem EI(n:Nat)(js:List Nat){elt target iter t2 i2:Expr}{ifs f2:List Expr}{scope:Scope}{N:List Str}{fr:List (Option Nat)}{pin:List Nat}{fi:FI}{fg:FG}{ft:FT}{i8:FI}{fg2:FG}{iZ:FT}{fe:FE}{p1 pos2:Pos}(hfr:fr=D2 n none++js.map some)(hpin:pin=(Fa js.length).map (n + ·))(hc:X.calm=true)(hgl:Gl X "len")(hm:X.mg "len" = none)(S:aP X scope N fr)(hi:WI X target iter fi)
  (hin:∀z:Bk,WG (ay X scope z.cl N z.C z.fp z.s z.H) pin target fg/\WF (ay X scope z.cl N z.C z.fp z.s z.H) ifs ft/\WI (ay X scope z.cl N z.C z.fp z.s z.H) t2 i2 i8/\WG (ay X scope z.cl N z.C z.fp z.s z.H) pin t2 fg2/\WF (ay X scope z.cl N z.C z.fp z.s z.H) f2 iZ/\WE (ay X scope z.cl N z.C z.fp z.s z.H) elt fe)
  (hst:FK [.SetComp elt [⟨target,iter,ifs,0⟩,⟨t2,i2,f2,0⟩] scope pos2] X.env=[(false,eval (.SetComp elt [⟨target,iter,ifs,0⟩,⟨t2,i2,f2,0⟩] scope pos2) X.env)]:=by rfl)
  (hs:∀x,HG iter X.env x=pure x:=by intro _; rfl) (hs2:∀(env:Env)x,HG i2 env x=pure x:=by intro _ _; rfl):WE X (.Call (.Name "len" p1) [.SetComp elt [⟨target,iter,ifs,0⟩,⟨t2,i2,f2,0⟩] scope pos2] [] pos) (zD n js fi fg ft i8 fg2 iZ fe) :=
 ⟨EH n js hfr hpin hc hgl hm S hi.h (λz=>⟨(hin z).1.h,(hin z).2.1.h,(hin z).2.2.1.h,(hin z).2.2.2.1.h,(hin z).2.2.2.2.1.h,(hin z).2.2.2.2.2.h⟩) hst hs hs2⟩
end
end VL
end
section
open PySem L2 VL
end
section
open PySem L2 VL
noncomputable def FF.jK:FS:=(aH (yC (aa 0) (bS 2 (aD (ah 1) (aD (ah 2) bZ))))
 (aH (bw 3 (EU true 1 [] (cD (aa 1)) (ah 0) dB (aa 0) (di gT)))
 (aH (fO (cD (aa 2)) (bS 2 (aD (ah 4) (aD (ah 5) bZ))) (aH (bR (mq 3 (fC 4) (fC 5)))
 (bR (mq 3 (fC 5) (fC 4)))))
 (cP (EU false 1 [3] (cD (aa 1)) (ah 0) dB (aa 0) (fW jx (af (fW qR (af (gH (aa 1) (aa 0)))))))))))
noncomputable def FF.eW:FF:=e9 [true] 6 FF.jK
end
section
open PySem L2 VL
noncomputable def FF.g9:FS:=(aH (yC (cV (ai (vC (.int 0)) (ai (vC (.int 1)) (af (vC (.int 11)))))) (bS 3 (aD (ah 1) (aD (ah 2) (aD (ah 3) bZ)))))
 (aH (fO (cD (wj (aa 0) dm (dw (vC (.int 63))))) (ah 4) (aH (bw 3 (vB iS (vB iT (vB bH (vB bH (vB mulM (aa 3) (vC (.int 48271))) (vB iS (aa 4) (vC (.int 2305843009213693951)))) (vC (.int 13))) (vC (.int 3))) (vC (.int 2305843009213693951))))
 (cW (br (vB FD (fW sV (af (aa 4))) (vB iT (vC (.int 10)) (vC (.int 18))))) (aH (bw 1 (vB bH (aa 1) (vB wK (vB iS (fW sV (af (aa 4))) (vB iT (vC (.int 10)) (vC (.int 60)))) (aa 2))))
 (bw 2 (vB wK (aa 2) (vB iT (vC (.int 10)) (vC (.int 60)))))) bB)))
 (cP (di (ai (aa 1) (ai (aa 3) (af (vC (.int 0)))))))))
noncomputable def FF.cZ:FF:=e9 [true] 5 FF.g9
noncomputable def FF.dU:FS:=(aH (cW (br (vB ye (gH (aa 0) (vC (.int 0))) (vC (.int 0)))) (aH (bw 2 (vB iS (gH (aa 0) (vC (.int 0))) (aa 1)))
 (aH (pU 0 (vC (.int 0)) (vB uy (gH (aa 0) (vC (.int 0))) (aa 1)))
 (cP (aa 2)))) bB)
 (aH (pU 0 (vC (.int 2)) (vB bH (gH (aa 0) (vC (.int 2))) (vC (.int 1))))
 (aH (pU 0 (vC (.int 1)) (vB iS (vB bH (vB bH (vB mulM (gH (aa 0) (vC (.int 1))) (vC (.int 48271))) (vB mulM (vC (.int 104729)) (gH (aa 0) (vC (.int 2))))) (vC (.int 11))) (vC (.int 2305843009213693951))))
 (cP (vB iS (vB uy (vB iS (vB iT (gH (aa 0) (vC (.int 1))) (vC (.int 5))) (vC (.int 2305843009213693921))) (vC (.int 1009))) (aa 1))))))
noncomputable def FF.au:FF:=e9 [true,true] 3 FF.dU
noncomputable def FF.fG:FS:=(aH (bw 2 (dM FF.au (ai (aa 0) (af (vC (.int 3))))))
 (aH (bw 3 (dM FF.au (ai (aa 0) (af (vC (.int 4))))))
 (aH (bw 4 (di gT))
 (aH (fO (bG gw (af (aa 1))) (ah 5) (aH (bR (jA 4 (af (aa 3))))
 (bw 3 (vB bH (vB bH (aa 3) (vC (.int 1))) (gH (di (ai (vC (.int 0)) (ai (dM FF.au (ai (aa 0) (af (vC (.int 2))))) (af (dM FF.au (ai (aa 0) (af (vC (.int 4))))))))) (aa 2))))))
 (cP (aa 4))))))
noncomputable def FF.bT:FF:=e9 [true,true] 6 FF.fG
noncomputable def FF.gh:FS:=(aH (bw 2 (dM FF.au (ai (aa 0) (af (vC (.int 7))))))
 (aH (bw 3 (dM FF.au (ai (aa 0) (af (vC (.int 4))))))
 (aH (bw 4 (di gT))
 (aH (cW (br (vB (iI false) (aa 2) (cV (ai (vC (.int 1)) (ai (vC (.int 2)) (af (vC (.int 3)))))))) (aH (bw 5 (gH (di (ai (vC (.int 0)) (ai (vC (.int 4)) (ai (vC (.int 2)) (af (vC (.int 5))))))) (aa 2)))
 (fO (bG gw (af (aa 1))) (ah 6) (bR (p8 4 (af (nh 1 [6,5,0] (bG gw (af (aa 6))) (ah 0) (br (vB ye (aa 2) (vB mulM (vC (.int 2)) (dM FF.au (ai (aa 3) (af (vC (.int 3)))))))) (cV (ai (aa 0) (af (aa 1)))))))))) bB)
 (aH (cW (br (vB (kF false) (aa 2) (vC (.int 4)))) (bw 4 (nh 1 [0] (bG wz (ai (vC (.int 1)) (af (aa 1)))) (ah 0) dB (cV (ai (dM FF.au (ai (aa 1) (af (aa 0)))) (af (aa 0)))))) bB)
 (aH (cW (qL (br (vB (kF false) (aa 2) (vC (.int 5)))) (br (vB ye (aa 1) (vC (.int 2))))) (bw 4 (vB bH (nh 1 [] (bG gw (af (vB ju (aa 1) (vC (.int 1))))) (ah 0) dB (cV (ai (aa 0) (af (vB bH (aa 0) (vC (.int 1))))))) (di (af (cV (ai (vC (.int 0)) (af (vB ju (aa 1) (vC (.int 1)))))))))) bB)
 (aH (cW (br (vB (kF false) (aa 2) (vC (.int 6)))) (aH (bw 4 (nh 1 [] (bG gw (af (vB ju (aa 1) (vC (.int 1))))) (ah 0) (br (vB DH (vB iS (aa 0) (vC (.int 3))) (vC (.int 2)))) (cV (ai (aa 0) (af (vB bH (aa 0) (vC (.int 1))))))))
 (bR (p8 4 (af (nh 1 [] (bG gw (af (vB ju (aa 1) (vC (.int 3))))) (ah 0) dB (cV (ai (aa 0) (af (vB bH (aa 0) (vC (.int 3))))))))))) bB)
 (aH (fO (bG gw (af (vB mulM (aa 3) (fW iK (af (jt (vB ye (aa 2) (vC (.int 3))) (vB ye (aa 1) (vC (.int 1))))))))) (ah 7) (aH (bw 6 (vB bH (vC (.int 1)) (dM FF.au (ai (aa 0) (af (vB ju (aa 1) (vC (.int 1))))))))
 (bR (jA 4 (af (cV (ai (dM FF.au (ai (aa 0) (af (aa 6)))) (af (aa 6)))))))))
 (cP (wj (fW Fo (af (aa 4))) dm (dw (vC (.int 60)))))))))))))
noncomputable def FF.cu:FF:=e9 [true,true] 8 FF.gh
noncomputable def FF.ic:FS:=(aH (bw 2 (dM FF.bT (ai (aa 0) (af (aa 1)))))
 (aH (bw 3 (nh 2 [2] (cD (dM FF.cu (ai (aa 0) (af (aa 1))))) (bS 2 (aD (ah 0) (aD (ah 1) bZ))) dB (cV (ai (gH (aa 2) (aa 0)) (af (gH (aa 2) (aa 1)))))))
 (cP (cV (ai (fW jx (af (aa 2))) (af (fW jx (af (aa 3)))))))))
noncomputable def FF.cB:FF:=e9 [true,true] 4 FF.ic
noncomputable def FF.fH:FS:=(aH (bw 2 (di gT))
 (aH (fO (cD (aa 1)) (ah 3) (bR (yX 2 (ai (dM FF.au (ai (aa 0) (af (vB bH (fW jw (af (aa 2))) (vC (.int 1)))))) (af (aa 3))))))
 (cP (aa 2))))
noncomputable def FF.bE:FF:=e9 [true,true] 4 FF.fH
noncomputable def FF.dW:FS:=(cP (nh 2 [1] (cD (gH (aa 0) (vC (.int 1)))) (bS 2 (aD (ah 0) (aD (ah 1) bZ))) (br (vB (iI false) (aa 2) (cV (ai (aa 0) (af (aa 1)))))) (vB ju (vB bH (aa 0) (aa 1)) (aa 2))))
noncomputable def FF.bV:FF:=e9 [true,true] 2 FF.dW
noncomputable def FF.aE:Nat->FF
 |0=>λ_=>none
 |n+1=>e9 [true,true] 2 (aH (cW (jX (vU (lZ "tuple") (aa 1))) (aH (cW (Fg (lJ (jX (vU (lZ "tuple") (aa 0)))) (br (vB (kF true) (fW jw (af (aa 0))) (fW jw (af (aa 1)))))) (cP (vC (.bool false))) bB)
 (cP (fW (allM false) (af (nh 2 [] (bG yF (ai (aa 0) (af (aa 1)))) (bS 2 (aD (ah 0) (aD (ah 1) bZ))) dB (dM (FF.aE n) (ai (aa 0) (af (aa 1))))))))) bB)
 (aH (cW (br (vB (we false) (aa 1) (vC .none))) (cP (vB (we false) (aa 0) (vC .none))) bB)
 (aH (cW (jX (vU (lZ "bool") (aa 1))) (cP (jt (vU (lZ "bool") (aa 0)) (vB (kF false) (aa 0) (aa 1)))) bB)
 (aH (cW (jX (vU (lZ "str") (aa 1))) (cP (jt (vU (lZ "str") (aa 0)) (vB (kF false) (aa 0) (aa 1)))) bB)
 (cP (jt (vU (lZ "int") (aa 0)) (jt (uw (vU (lZ "bool") (aa 0))) (vB (kF false) (aa 0) (aa 1)))))))))
end
section
open PySem L2 VL
noncomputable def FF.fJ:FS:=(aH (bw 3 (Ci [((aa 2),(vC (.int 0)))]))
 (aH (bw 4 (di (af (aa 2))))
 (aH (bw 5 (vC (.int 0)))
 (aH (gx 1000000 (br (vB DH (aa 5) (fW jw (af (aa 4))))) (aH (bw 6 (gH (aa 4) (aa 5)))
 (aH (yx 5 (iB (λ_ _=>true) λi j=>.int (i+j)) (vC (.int 1)))
 (fO (cD (gH (aa 0) (aa 6))) (ah 7) (cW (qL (br (vB (iI false) (aa 7) (aa 1))) (br (vB (iI true) (aa 7) (aa 3)))) (aH (pU 3 (aa 7) (vB bH (gH (aa 3) (aa 6)) (vC (.int 1))))
 (bR (jA 4 (af (aa 7))))) bB)))))
 (cP (aa 3))))))
noncomputable def FF.bF:FF:=e9 [true,true,true] 8 FF.fJ
noncomputable def FF.dZ:FS:=(cP (zD 2 [0,1] (mX (dM FF.bF (ai (aa 0) (ai (aa 1) (af (aa 2)))))) (ah 0) dB (cD (gH (aa 2) (aa 0))) (ah 1) (br (vB (iI true) (aa 1) (aa 3))) (aa 1)))
noncomputable def FF.bW:FF:=e9 [true,true,true] 3 FF.dZ
noncomputable def FF.iM:FS:=(aH (bw 2 (dM FF.eW (af (aa 0))))
 (cP (fW jx (af (nh 2 [2,1] (bG oz (af (aa 1))) (bS 2 (aD (ah 0) (aD (ah 1) bZ))) dB (dM FF.bW (ai (aa 2) (ai (wj (aa 3) dm (dw (vB bH (aa 0) (vC (.int 1))))) (af (aa 1))))))))))
noncomputable def FF.bN:FF:=e9 [true,true] 3 FF.iM
noncomputable def FF.gE:FS:=(cP (fW (mH (0)) (af (dM FF.bN (ai (aa 0) (af (aa 1)))))))
noncomputable def FF.dF:FF:=e9 [true,true] 2 FF.gE
noncomputable def FF.fK:FS:=(aH (bw 2 (di gT))
 (aH (fO (bG oz (af (aa 1))) (bS 2 (aD (ah 3) (aD (ah 4) bZ))) (aH (yD 5 6 (ai (di (af (aa 4))) (af (di (af (aa 4))))))
 (aH (gx 1000000 (br (vB (kF true) (aa 6) (di gT))) (fO (cD (dM FF.bV (ai (aa 0) (af (yW 6))))) (ah 7) (cW (br (vB (iI true) (aa 7) (aa 5))) (aH (bR (jA 5 (af (aa 7))))
 (bR (p8 6 (af (vB mulR (di (af (aa 7))) (fW iK (af (vB (iI false) (aa 7) (wj (aa 1) dm (dw (aa 3))))))))))) bB)))
 (bR (jA 2 (af (fW jw (af (mJ 1 [1,3] 5 (ah 0) (br (vB (iI false) (aa 0) (wj (aa 1) (dw (vB bH (aa 2) (vC (.int 1)))) dm))) (aa 0))))))))))
 (cP (fW jx (af (aa 2))))))
noncomputable def FF.bU:FF:=e9 [true,true] 8 FF.fK
noncomputable def FF.gk:FS:=(aH (bw 2 (dM FF.bU (ai (aa 0) (af (aa 1)))))
 (aH (fO (bG gw (af (vC (.int 2)))) (ah 3) (aH (cW (lJ (jX (dM (FF.aE 4) (ai (dM FF.bN (ai (aa 0) (af (aa 1)))) (af (aa 2)))))) (cP (vC (.bool false))) bB)
 (cW (lJ (jX (dM (FF.aE 4) (ai (dM FF.dF (ai (aa 0) (af (aa 1)))) (af (fW (mH (0)) (af (aa 2)))))))) (cP (vC (.bool false))) bB)))
 (cP (vC (.bool true)))))
noncomputable def FF.bL:FF:=e9 [true,true] 4 FF.gk
noncomputable def FF.mY:FS:=(aH (bw 1 (dM FF.cZ (af (aa 0))))
 (aH (fO (bG gw (af (vC (.int 3)))) (ah 2) (aH (bw 3 (vB (kF false) (dM FF.au (ai (aa 1) (af (vC (.int 4))))) (vC (.int 0))))
 (aH (bw 4 (dM FF.cB (ai (aa 1) (af (dM FF.au (ai (aa 1) (af (gH (di (ai (vC (.int 10)) (af (vC (.int 25))))) (fW iK (af (aa 3)))))))))))
 (fO (cD (cV (ai (gH (aa 4) (vC (.int 0))) (ai (vB yQ (gH (aa 4) (vC (.int 0))) (vU wk (vC (.int 1)))) (af (fW jx (af (dM FF.bE (ai (aa 1) (af (gH (aa 4) (vC (.int 0))))))))))))) (ah 5) (cW (lJ (jX (dM FF.bL (ai (aa 4) (af (aa 5)))))) (cP (vC (.bool false))) bB)))))
 (cP (vC (.bool true)))))
noncomputable def FF.rN:FF:=e9 [true] 6 FF.mY
end
section
namespace Lk22
open PySem L2 VL PyProof.Rows
noncomputable def top(i:Nat):Stmt:=PySem.Challenge.pw_drawnweb_k22_widths_of_orders.main.body.getD i (.Pass ⟨0,0,0,0⟩)
structure Txt(mg:Str->Option Value):Prop where
 z_sorted:mg "sorted" = none
 z_tuple:mg "tuple" = none
 z_len:mg "len" = none
 z_enumerate:mg "enumerate" = none
 z_max:mg "max" = none
 z_abs:mg "abs" = none
 z_range:mg "range" = none
 z_set:mg "set" = none
 z_int:mg "int" = none
 z_isinstance:mg "isinstance" = none
 z_bool:mg "bool" = none
 z_str:mg "str" = none
 z_zip:mg "zip" = none
 z_all:mg "all" = none
section
variable{P:Fk}{w:World}{K:AT}{mg:Str->Option Value}{base:Heap}{f:Addr}{fd:Jv}
noncomputable abbrev s_nears:Stmt:=top 1
theorem sc_nears:aX ["web", "places", "ties", "beside", "a", "b"] ["web"] (ao s_nears):=⟨rfl,rfl,rfl,by decide +kernel,rfl,by decide +kernel,by decide +kernel⟩
theorem ok_nears(Fn:lq K "nears" "nears" s_nears f fd)(T:Txt mg):cF P w K mg base jc 1 f fd ["web"] (cS K FF.eW) :=
 bJ [true] Fn sc_nears rfl λcdv A outer s H E hr=>(by
  have hU:=hr.units;have hG:=hr.gd;exact(aq (yP (wv 0) (gY 2 rfl (bh (aC (i:=1) (by decide) sc_nears.nd rfl (HP rfl)) (bh (aC (i:=2) (by decide) sc_nears.nd rfl (HP rfl)) fD))))
  (aq (aW (i:=3) (by decide) sc_nears.nd rfl (KY rfl) (Cg true 1 [] rfl rfl rfl (aP.of (sc0:=ao s_nears) (N0:=["web", "places", "ties", "beside", "a", "b"]) (N:=["place"]) (fr:=[none]) rfl rfl (by decide +kernel)) (dR (wv 1)) (λ_=>⟨(aC (i:=0) (by decide) (show (["place"]:List Str).Nodup by decide +kernel) rfl (HP rfl)),gA,(wv 0),(cQ j7)⟩)))
  (aq (dS IS rfl (dR (wv 2)) (gY 2 rfl (bh (aC (i:=4) (by decide) sc_nears.nd rfl (HP rfl)) (bh (aC (i:=5) (by decide) sc_nears.nd rfl (HP rfl)) fD))) (aq (cX (uO 3 (FP 4) (FP 5) hU (pv 3) (λ_ _=>rfl) (λ_ _ h1 h2=>gO HX Ih J7 cR h1 h2)))
  (az (cX (uO 3 (FP 5) (FP 4) hU (pv 3) (λ_ _=>rfl) (λ_ _ h1 h2=>gO HX Ih J7 cR h1 h2))))))
  (az (bq (Cg false 1 [3] rfl rfl rfl (aP.of (sc0:=ao s_nears) (N0:=["web", "places", "ties", "beside", "a", "b"]) (N:=["place", "beside"]) (fr:=[none,some 3]) rfl rfl (by decide +kernel)) (dR (wv 1)) (λ_=>⟨(aC (i:=0) (by decide) (show (["place", "beside"]:List Str).Nodup by decide +kernel) rfl (HP rfl)),gA,(wv 0),(jE fY rfl T.z_tuple (by decide +kernel) (aj (jD (wm rfl) rfl T.z_sorted (by decide +kernel) (aj (cM hU (wv 1) (wv 0) (λ_ _=>rfl))))))⟩))))))))
noncomputable abbrev s_steps_from:Stmt:=top 2
theorem sc_steps_from:aX ["beside", "some", "start", "steps", "waiting", "at", "place", "other"] ["beside", "some", "start"] (ao s_steps_from):=⟨rfl,rfl,rfl,by decide +kernel,rfl,by decide +kernel,by decide +kernel⟩
theorem ok_steps_from(Fn:lq K "steps_from" "steps_from" s_steps_from f fd)(T:Txt mg):cF P w K mg base jc 1 f fd ["beside", "some", "start"] (cS K FF.bF) :=
 bJ [true,true,true] Fn sc_steps_from rfl λcdv A outer s H E hr=>(by
  have hU:=hr.units;have hG:=hr.gd;exact(aq (aW (i:=3) (by decide) sc_steps_from.nd rfl (HP rfl) (Bh (yR (wv 2) ak Bg) rfl rfl (List.cons_ne_nil _ _) (by show 1<=15; decide)))
  (aq (aW (i:=4) (by decide) sc_steps_from.nd rfl (HP rfl) (cQ (aj (wv 2))))
  (aq (aW (i:=5) (by decide) sc_steps_from.nd rfl (HP rfl) ak)
  (aq (qV 1000000 IS (dQ (Ca hU) (wv 5) (jD lX rfl T.z_len (by decide +kernel) (aj (wv 4))) (bO _)) (aq (aW (i:=6) (by decide) sc_steps_from.nd rfl (HP rfl) (cM hU (wv 4) (wv 5) (λ_ _=>rfl)))
  (aq (Eh (i:=5) AX (by decide) sc_steps_from.nd rfl (HP rfl) ak CJ)
  (az (dS IS rfl (dR (cM hU (wv 0) (wv 6) (λ_ _=>rfl))) (aC (i:=7) (by decide) sc_steps_from.nd rfl (HP rfl)) (az (d7 (yN (yO (uM hU (wv 7) (wv 1)) (uN (mw hU (wv 7) (wv 3))))) (aq (p6 3 hU (pv 3) (wv 7) (aK bX (cM hU (wv 3) (wv 6) (λ_ _=>rfl)) ak) rfl (λ_ _ h1 h2=>jM h1 h2) (λ_ _ h1 h2=>oX h1 h2 set_list))
  (az (cX (mE 4 (aj (wv 7)) (λ_ _ h1 h2=>gO HX Ih J7 cR h1 h2) (pv 4))))) bI)))))))
  (az (bq (wv 3))))))))
noncomputable abbrev s_width_at:Stmt:=top 4
theorem sc_width_at:aX ["ties_of", "some", "place"] ["ties_of", "some", "place"] (ao s_width_at):=⟨rfl,rfl,rfl,by decide +kernel,rfl,by decide +kernel,by decide +kernel⟩
theorem ok_width_at(Fn:lq K "width_at" "width_at" s_width_at f fd)(T:Txt mg)(C_steps_from:aT P w K mg base "steps_from" ["beside", "some", "start"] 1 (cS K FF.bF)):cF P w K mg base jc 2 f fd ["ties_of", "some", "place"] (cS K FF.bW) :=
 bJ [true,true,true] Fn sc_width_at rfl λcdv A outer s H E hr=>(by
  have hU:=hr.units;have hG:=hr.gd;exact(az (bq (EI 2 [0,1] rfl rfl rfl rfl T.z_len (aP.of (sc0:=ao s_width_at) (N0:=["ties_of", "some", "place"]) (N:=["member", "other", "ties_of", "some"]) (fr:=[none,none,some 0,some 1]) rfl rfl (by decide +kernel)) (BN (bC C_steps_from hr rfl (av (wv 0) (av (wv 1) (aj (wv 2)))))) (λ_=>⟨(aC (i:=0) (by decide) (show (["member", "other", "ties_of", "some"]:List Str).Nodup by decide +kernel) rfl (HP rfl)),gA,(dR (cM hU (wv 2) (wv 0) (λ_ _=>rfl))),(aC (i:=1) (by decide) (show (["member", "other", "ties_of", "some"]:List Str).Nodup by decide +kernel) rfl (HP rfl)),(mF (mw hU (wv 1) (wv 3))),(wv 1)⟩)))))
noncomputable abbrev s_widths:Stmt:=top 5
theorem sc_widths:aX ["web", "order", "ties_of"] ["web", "order"] (ao s_widths):=⟨rfl,rfl,rfl,by decide +kernel,rfl,by decide +kernel,by decide +kernel⟩
theorem ok_widths(Fn:lq K "widths" "widths" s_widths f fd)(T:Txt mg)(C_width_at:aT P w K mg base "width_at" ["ties_of", "some", "place"] 2 (cS K FF.bW))(C_nears:aT P w K mg base "nears" ["web"] 1 (cS K FF.eW)):cF P w K mg base jc 3 f fd ["web", "order"] (cS K FF.bN) :=
 bJ [true,true] Fn sc_widths rfl λcdv A outer s H E hr=>(by
  have hU:=hr.units;have hG:=hr.gd;exact(aq (aW (i:=2) (by decide) sc_widths.nd rfl (KY rfl) (bC C_nears hr rfl (aj (wv 0))))
  (az (bq (jE fY rfl T.z_tuple (by decide +kernel) (aj (oE 2 [2,1] rfl rfl rfl (aP.of (sc0:=ao s_widths) (N0:=["web", "order", "ties_of"]) (N:=["at", "place", "ties_of", "order"]) (fr:=[none,none,some 2,some 1]) rfl rfl (by decide +kernel)) (uP rfl T.z_enumerate (aj (wv 1))) (λ_=>⟨(gY 2 rfl (bh (aC (i:=0) (by decide) (show (["at", "place", "ties_of", "order"]:List Str).Nodup by decide +kernel) rfl (HP rfl)) (bh (aC (i:=1) (by decide) (show (["at", "place", "ties_of", "order"]:List Str).Nodup by decide +kernel) rfl (HP rfl)) fD))),gA,(bC C_width_at hr rfl (av (wv 2) (av (qU (wv 3) jB (jC (aK bX (wv 0) ak))) (aj (wv 1)))))⟩))))))))
noncomputable abbrev s_width:Stmt:=top 6
theorem sc_width:aX ["web", "order"] ["web", "order"] (ao s_width):=⟨rfl,rfl,rfl,by decide +kernel,rfl,by decide +kernel,by decide +kernel⟩
theorem ok_width(Fn:lq K "width" "width" s_width f fd)(T:Txt mg)(C_widths:aT P w K mg base "widths" ["web", "order"] 3 (cS K FF.bN)):cF P w K mg base jc 4 f fd ["web", "order"] (cS K FF.dF) :=
 bJ [true,true] Fn sc_width rfl λcdv A outer s H E hr=>(by
  have hU:=hr.units;have hG:=hr.gd;exact(az (bq (uT rfl rfl T.z_max (by decide +kernel) (aj (bC C_widths hr rfl (av (wv 0) (aj (wv 1)))))))))
noncomputable abbrev s_law_pot:Stmt:=top 8
theorem sc_law_pot:aX ["_law_script", "_law_digits", "_law_weight", "_law_seed", "_law_cell"] ["_law_script"] (ao s_law_pot):=⟨rfl,rfl,rfl,by decide +kernel,rfl,by decide +kernel,by decide +kernel⟩
theorem ok_law_pot(Fn:lq K "_law_pot" "_law_pot" s_law_pot f fd)(T:Txt mg):cF P w K mg base jc 1 f fd ["_law_script"] (cS K FF.cZ) :=
 bJ [true] Fn sc_law_pot rfl λcdv A outer s H E hr=>(by
  have hU:=hr.units;have hG:=hr.gd;exact(aq (yP (dD (av ak (av ak (aj ak)))) (gY 3 rfl (bh (aC (i:=1) (by decide) sc_law_pot.nd rfl (HP rfl)) (bh (aC (i:=2) (by decide) sc_law_pot.nd rfl (HP rfl)) (bh (aC (i:=3) (by decide) sc_law_pot.nd rfl (HP rfl)) fD)))))
  (aq (dS IS rfl (dR (qU (wv 0) jB (jC ak))) (aC (i:=4) (by decide) sc_law_pot.nd rfl (HP rfl)) (aq (aW (i:=3) (by decide) sc_law_pot.nd rfl (HP rfl) (aK gV (aK lT (aK bX (aK bX (aK lQ (wv 3) ak) (aK gV (wv 4) ak)) ak) ak) ak))
  (az (d7 (dQ (ov_ge hU) (jD yq rfl T.z_abs (by decide +kernel) (aj (wv 4))) (aK lT ak ak) (bO _)) (aq (aW (i:=1) (by decide) sc_law_pot.nd rfl (HP rfl) (aK bX (wv 1) (aK uU (aK gV (jD yq rfl T.z_abs (by decide +kernel) (aj (wv 4))) (aK lT ak ak)) (wv 2))))
  (az (aW (i:=2) (by decide) sc_law_pot.nd rfl (HP rfl) (aK uU (wv 2) (aK lT ak ak))))) bI))))
  (az (bq (cQ (av (wv 1) (av (wv 3) (aj ak)))))))))
noncomputable abbrev s_law_take:Stmt:=top 9
theorem sc_law_take:aX ["_law_pot_here", "_law_many", "_law_digit"] ["_law_pot_here", "_law_many"] (ao s_law_take):=⟨rfl,rfl,rfl,by decide +kernel,rfl,by decide +kernel,by decide +kernel⟩
theorem ok_law_take(Fn:lq K "_law_take" "_law_take" s_law_take f fd)(T:Txt mg):cF P w K mg base jc 1 f fd ["_law_pot_here", "_law_many"] (cS K FF.au) :=
 bJ [true,true] Fn sc_law_take rfl λcdv A outer s H E hr=>(by
  have hU:=hr.units;have hG:=hr.gd;exact(aq (d7 (dQ qN (cM hU (wv 0) ak (λ_ _=>rfl)) ak (bO _)) (aq (aW (i:=2) (by decide) sc_law_take.nd rfl (HP rfl) (aK gV (cM hU (wv 0) ak (λ_ _=>rfl)) (wv 1)))
  (aq (p6 0 hU (pv 0) ak (aK uz (cM hU (wv 0) ak (λ_ _=>rfl)) (wv 1)) rfl (λ_ _ h1 h2=>jM h1 h2) (λ_ _ h1 h2=>oX h1 h2 set_list))
  (az (bq (wv 2))))) bI)
  (aq (p6 0 hU (pv 0) ak (aK bX (cM hU (wv 0) ak (λ_ _=>rfl)) ak) rfl (λ_ _ h1 h2=>jM h1 h2) (λ_ _ h1 h2=>oX h1 h2 set_list))
  (aq (p6 0 hU (pv 0) ak (aK gV (aK bX (aK bX (aK lQ (cM hU (wv 0) ak (λ_ _=>rfl)) ak) (aK lQ ak (cM hU (wv 0) ak (λ_ _=>rfl)))) ak) ak) rfl (λ_ _ h1 h2=>jM h1 h2) (λ_ _ h1 h2=>oX h1 h2 set_list))
  (az (bq (aK gV (aK uz (aK gV (aK lT (cM hU (wv 0) ak (λ_ _=>rfl)) ak) ak) ak) (wv 1))))))))
noncomputable abbrev s_law_places:Stmt:=top 10
theorem sc_law_places:aX ["_law_pot_here", "_law_many", "_law_wide", "_law_at", "_law_places_here", "_law_k"] ["_law_pot_here", "_law_many"] (ao s_law_places):=⟨rfl,rfl,rfl,by decide +kernel,rfl,by decide +kernel,by decide +kernel⟩
theorem ok_law_places(Fn:lq K "_law_places" "_law_places" s_law_places f fd)(T:Txt mg)(C_law_take:aT P w K mg base "_law_take" ["_law_pot_here", "_law_many"] 1 (cS K FF.au)):cF P w K mg base jc 2 f fd ["_law_pot_here", "_law_many"] (cS K FF.bT) :=
 bJ [true,true] Fn sc_law_places rfl λcdv A outer s H E hr=>(by
  have hU:=hr.units;have hG:=hr.gd;exact(aq (aW (i:=2) (by decide) sc_law_places.nd rfl (HP rfl) (bC C_law_take hr rfl (av (wv 0) (aj ak))))
  (aq (aW (i:=3) (by decide) sc_law_places.nd rfl (HP rfl) (bC C_law_take hr rfl (av (wv 0) (aj ak))))
  (aq (aW (i:=4) (by decide) sc_law_places.nd rfl (HP rfl) (cQ j7))
  (aq (dS IS rfl (ee rfl T.z_range (aj (wv 1))) (aC (i:=5) (by decide) sc_law_places.nd rfl (HP rfl)) (aq (cX (mE 4 (aj (wv 3)) (λ_ _ h1 h2=>gO HX Ih J7 cR h1 h2) (pv 4)))
  (az (aW (i:=3) (by decide) sc_law_places.nd rfl (HP rfl) (aK bX (aK bX (wv 3) ak) (cM hU (cQ (av ak (av (bC C_law_take hr rfl (av (wv 0) (aj ak))) (aj (bC C_law_take hr rfl (av (wv 0) (aj ak))))))) (wv 2) (λ_ _=>rfl)))))))
  (az (bq (wv 4))))))))
noncomputable abbrev s_law_pairs:Stmt:=top 11
theorem sc_law_pairs:aX ["_law_pot_here", "_law_many", "_law_mode", "_law_more", "_law_pairs_here", "_law_bar", "_law_b", "_law_k"] ["_law_pot_here", "_law_many"] (ao s_law_pairs):=⟨rfl,rfl,rfl,by decide +kernel,rfl,by decide +kernel,by decide +kernel⟩
theorem ok_law_pairs(Fn:lq K "_law_pairs" "_law_pairs" s_law_pairs f fd)(T:Txt mg)(C_law_take:aT P w K mg base "_law_take" ["_law_pot_here", "_law_many"] 1 (cS K FF.au)):cF P w K mg base jc 2 f fd ["_law_pot_here", "_law_many"] (cS K FF.cu) :=
 bJ [true,true] Fn sc_law_pairs rfl λcdv A outer s H E hr=>(by
  have hU:=hr.units;have hG:=hr.gd;exact(aq (aW (i:=2) (by decide) sc_law_pairs.nd rfl (HP rfl) (bC C_law_take hr rfl (av (wv 0) (aj ak))))
  (aq (aW (i:=3) (by decide) sc_law_pairs.nd rfl (HP rfl) (bC C_law_take hr rfl (av (wv 0) (aj ak))))
  (aq (aW (i:=4) (by decide) sc_law_pairs.nd rfl (HP rfl) (cQ j7))
  (aq (d7 (uM hU (wv 2) (dD (av ak (av ak (aj ak))))) (aq (aW (i:=5) (by decide) sc_law_pairs.nd rfl (KY rfl) (cM hU (cQ (av ak (av ak (av ak (aj ak))))) (wv 2) (λ_ _=>rfl)))
  (az (dS IS rfl (ee rfl T.z_range (aj (wv 1))) (aC (i:=6) (by decide) sc_law_pairs.nd rfl (KY rfl)) (az (cX (tE 4 (aj (oE 1 [6,5,0] rfl rfl rfl (aP.of (sc0:=ao s_law_pairs) (N0:=["_law_pot_here", "_law_many", "_law_mode", "_law_more", "_law_pairs_here", "_law_bar", "_law_b", "_law_k"]) (N:=["_law_a", "_law_b", "_law_bar", "_law_pot_here"]) (fr:=[none,some 6,some 5,some 0]) rfl rfl (by decide +kernel)) (ee rfl T.z_range (aj (wv 6))) (λ_=>⟨(aC (i:=0) (by decide) (show (["_law_a", "_law_b", "_law_bar", "_law_pot_here"]:List Str).Nodup by decide +kernel) rfl (HP rfl)),(mF (dQ qN (wv 2) (aK lQ ak (bC C_law_take hr rfl (av (wv 3) (aj ak)))) (bO _))),(dD (av (wv 0) (aj (wv 1))))⟩))) (λ_ _ h1 h2=>gO HX Kk LV jP h1 h2) (pv 4))))))) bI)
  (aq (d7 (dQ (lU hU) (wv 2) ak (bO _)) (az (tu (i:=4) 1 [0] (by decide) sc_law_pairs.nd rfl rfl rfl rfl rfl (aP.of (sc0:=ao s_law_pairs) (N0:=["_law_pot_here", "_law_many", "_law_mode", "_law_more", "_law_pairs_here", "_law_bar", "_law_b", "_law_k"]) (N:=["_law_b", "_law_pot_here"]) (fr:=[none,some 0]) rfl rfl (by decide +kernel)) (Bf rfl T.z_range (av ak (aj (wv 1)))) (λ_=>⟨(aC (i:=0) (by decide) (show (["_law_b", "_law_pot_here"]:List Str).Nodup by decide +kernel) rfl (HP rfl)),gA,(dD (av (bC C_law_take hr rfl (av (wv 1) (aj (wv 0)))) (aj (wv 0))))⟩))) bI)
  (aq (d7 (yN (yO (dQ (lU hU) (wv 2) ak (bO _)) (uN (dQ qN (wv 1) ak (bO _))))) (az (aW (i:=4) (by decide) sc_law_pairs.nd rfl (HP rfl) (aK bX (oE 1 [] rfl rfl rfl (aP.of (sc0:=ao s_law_pairs) (N0:=["_law_pot_here", "_law_many", "_law_mode", "_law_more", "_law_pairs_here", "_law_bar", "_law_b", "_law_k"]) (N:=["_law_a"]) (fr:=[none]) rfl rfl (by decide +kernel)) (ee rfl T.z_range (aj (aK jW (wv 1) ak))) (λ_=>⟨(aC (i:=0) (by decide) (show (["_law_a"]:List Str).Nodup by decide +kernel) rfl (HP rfl)),gA,(dD (av (wv 0) (aj (aK bX (wv 0) ak))))⟩)) (cQ (aj (dD (av ak (aj (aK jW (wv 1) ak))))))))) bI)
  (aq (d7 (dQ (lU hU) (wv 2) ak (bO _)) (aq (tu (i:=4) 1 [] (by decide) sc_law_pairs.nd rfl rfl rfl rfl rfl (aP.of (sc0:=ao s_law_pairs) (N0:=["_law_pot_here", "_law_many", "_law_mode", "_law_more", "_law_pairs_here", "_law_bar", "_law_b", "_law_k"]) (N:=["_law_a"]) (fr:=[none]) rfl rfl (by decide +kernel)) (ee rfl T.z_range (aj (aK jW (wv 1) ak))) (λ_=>⟨(aC (i:=0) (by decide) (show (["_law_a"]:List Str).Nodup by decide +kernel) rfl (HP rfl)),(mF (dQ (Ca hU) (aK gV (wv 0) ak) ak (bO _))),(dD (av (wv 0) (aj (aK bX (wv 0) ak))))⟩))
  (az (cX (tE 4 (aj (oE 1 [] rfl rfl rfl (aP.of (sc0:=ao s_law_pairs) (N0:=["_law_pot_here", "_law_many", "_law_mode", "_law_more", "_law_pairs_here", "_law_bar", "_law_b", "_law_k"]) (N:=["_law_a"]) (fr:=[none]) rfl rfl (by decide +kernel)) (ee rfl T.z_range (aj (aK jW (wv 1) ak))) (λ_=>⟨(aC (i:=0) (by decide) (show (["_law_a"]:List Str).Nodup by decide +kernel) rfl (HP rfl)),gA,(dD (av (wv 0) (aj (aK bX (wv 0) ak))))⟩))) (λ_ _ h1 h2=>gO HX Kk LV jP h1 h2) (pv 4))))) bI)
  (aq (dS IS rfl (ee rfl T.z_range (aj (aK lQ (wv 3) (jE sW rfl T.z_int (by decide +kernel) (aj (mz (iX qN (wv 2) ak (bO _)) (p5 (iX qN (wv 1) ak (bO _))))))))) (aC (i:=7) (by decide) sc_law_pairs.nd rfl (HP rfl)) (aq (aW (i:=6) (by decide) sc_law_pairs.nd rfl (KY rfl) (aK bX ak (bC C_law_take hr rfl (av (wv 0) (aj (aK jW (wv 1) ak))))))
  (az (cX (mE 4 (aj (dD (av (bC C_law_take hr rfl (av (wv 0) (aj (wv 6)))) (aj (wv 6))))) (λ_ _ h1 h2=>gO HX Ih J7 cR h1 h2) (pv 4))))))
  (az (bq (qU (tS rfl hU rfl T.z_sorted rfl T.z_set (aj (wv 4))) jB (jC ak)))))))))))))
noncomputable abbrev s_law_web:Stmt:=top 12
theorem sc_law_web:aX ["_law_pot_here", "_law_many", "_law_places_here", "_law_ties"] ["_law_pot_here", "_law_many"] (ao s_law_web):=⟨rfl,rfl,rfl,by decide +kernel,rfl,by decide +kernel,by decide +kernel⟩
theorem ok_law_web(Fn:lq K "_law_web" "_law_web" s_law_web f fd)(T:Txt mg)(C_law_pairs:aT P w K mg base "_law_pairs" ["_law_pot_here", "_law_many"] 2 (cS K FF.cu))(C_law_places:aT P w K mg base "_law_places" ["_law_pot_here", "_law_many"] 2 (cS K FF.bT)):cF P w K mg base jc 3 f fd ["_law_pot_here", "_law_many"] (cS K FF.cB) :=
 bJ [true,true] Fn sc_law_web rfl λcdv A outer s H E hr=>(by
  have hU:=hr.units;have hG:=hr.gd;exact(aq (aW (i:=2) (by decide) sc_law_web.nd rfl (KY rfl) (bC C_law_places hr rfl (av (wv 0) (aj (wv 1)))))
  (aq (tu (i:=3) 2 [2] (by decide) sc_law_web.nd rfl rfl rfl rfl rfl (aP.of (sc0:=ao s_law_web) (N0:=["_law_pot_here", "_law_many", "_law_places_here", "_law_ties"]) (N:=["_law_a", "_law_b", "_law_places_here"]) (fr:=[none,none,some 2]) rfl rfl (by decide +kernel)) (dR (bC C_law_pairs hr rfl (av (wv 0) (aj (wv 1))))) (λ_=>⟨(gY 2 rfl (bh (aC (i:=0) (by decide) (show (["_law_a", "_law_b", "_law_places_here"]:List Str).Nodup by decide +kernel) rfl (HP rfl)) (bh (aC (i:=1) (by decide) (show (["_law_a", "_law_b", "_law_places_here"]:List Str).Nodup by decide +kernel) rfl (HP rfl)) fD))),gA,(dD (av (cM hU (wv 2) (wv 0) (λ_ _=>rfl)) (aj (cM hU (wv 2) (wv 1) (λ_ _=>rfl)))))⟩))
  (az (bq (dD (av (jE fY rfl T.z_tuple (by decide +kernel) (aj (wv 2))) (aj (jE fY rfl T.z_tuple (by decide +kernel) (aj (wv 3)))))))))))
noncomputable abbrev s_law_turned:Stmt:=top 13
theorem sc_law_turned:aX ["_law_pot_here", "_law_some", "_law_found", "_law_one"] ["_law_pot_here", "_law_some"] (ao s_law_turned):=⟨rfl,rfl,rfl,by decide +kernel,rfl,by decide +kernel,by decide +kernel⟩
theorem ok_law_turned(Fn:lq K "_law_turned" "_law_turned" s_law_turned f fd)(T:Txt mg)(C_law_take:aT P w K mg base "_law_take" ["_law_pot_here", "_law_many"] 1 (cS K FF.au)):cF P w K mg base jc 2 f fd ["_law_pot_here", "_law_some"] (cS K FF.bE) :=
 bJ [true,true] Fn sc_law_turned rfl λcdv A outer s H E hr=>(by
  have hU:=hr.units;have hG:=hr.gd;exact(aq (aW (i:=2) (by decide) sc_law_turned.nd rfl (HP rfl) (cQ j7))
  (aq (dS IS rfl (dR (wv 1)) (aC (i:=3) (by decide) sc_law_turned.nd rfl (HP rfl)) (az (cX (Es 2 (av (bC C_law_take hr rfl (av (wv 0) (aj (aK bX (jD lX rfl T.z_len (by decide +kernel) (aj (wv 2))) ak)))) (aj (wv 3))) (λ_ _ h1 h2=>gO HX Oa PySem.F.type_list_insert wI h1 h2) (pv 2)))))
  (az (bq (wv 2))))))
noncomputable abbrev s_law_near:Stmt:=top 14
theorem sc_law_near:aX ["_law_web_here", "_law_place"] ["_law_web_here", "_law_place"] (ao s_law_near):=⟨rfl,rfl,rfl,by decide +kernel,rfl,by decide +kernel,by decide +kernel⟩
theorem ok_law_near(Fn:lq K "_law_near" "_law_near" s_law_near f fd)(T:Txt mg):cF P w K mg base jc 1 f fd ["_law_web_here", "_law_place"] (cS K FF.bV) :=
 bJ [true,true] Fn sc_law_near rfl λcdv A outer s H E hr=>(by
  have hU:=hr.units;have hG:=hr.gd;exact(az (bq (oE 2 [1] rfl rfl rfl (aP.of (sc0:=ao s_law_near) (N0:=["_law_web_here", "_law_place"]) (N:=["_law_a", "_law_b", "_law_place"]) (fr:=[none,none,some 1]) rfl rfl (by decide +kernel)) (dR (cM hU (wv 0) ak (λ_ _=>rfl))) (λ_=>⟨(gY 2 rfl (bh (aC (i:=0) (by decide) (show (["_law_a", "_law_b", "_law_place"]:List Str).Nodup by decide +kernel) rfl (HP rfl)) (bh (aC (i:=1) (by decide) (show (["_law_a", "_law_b", "_law_place"]:List Str).Nodup by decide +kernel) rfl (HP rfl)) fD))),(mF (uM hU (wv 2) (dD (av (wv 0) (aj (wv 1)))))),(aK jW (aK bX (wv 0) (wv 1)) (wv 2))⟩)))))
noncomputable abbrev s_law_widths:Stmt:=top 15
theorem sc_law_widths:aX ["_law_web_here", "_law_order", "_law_found", "_law_at", "_law_place", "_law_met", "_law_waits", "_law_other"] ["_law_web_here", "_law_order"] (ao s_law_widths):=⟨rfl,rfl,rfl,by decide +kernel,rfl,by decide +kernel,by decide +kernel⟩
theorem ok_law_widths(Fn:lq K "_law_widths" "_law_widths" s_law_widths f fd)(T:Txt mg)(C_law_near:aT P w K mg base "_law_near" ["_law_web_here", "_law_place"] 1 (cS K FF.bV)):cF P w K mg base jc 2 f fd ["_law_web_here", "_law_order"] (cS K FF.bU) :=
 bJ [true,true] Fn sc_law_widths rfl λcdv A outer s H E hr=>(by
  have hU:=hr.units;have hG:=hr.gd;exact(aq (aW (i:=2) (by decide) sc_law_widths.nd rfl (HP rfl) (cQ j7))
  (aq (dS IS rfl (uP rfl T.z_enumerate (aj (wv 1))) (gY 2 rfl (bh (aC (i:=3) (by decide) sc_law_widths.nd rfl (KY rfl)) (bh (aC (i:=4) (by decide) sc_law_widths.nd rfl (HP rfl)) fD))) (aq (Ei (i:=5) (j:=6) (by decide) (by decide) (av (cQ (aj (wv 4))) (aj (cQ (aj (wv 4))))) (λ_ h=>CH (i:=5) (j:=6) rfl sc_law_widths.nd rfl rfl (by decide) rfl rfl h rfl))
  (aq (qV 1000000 IS (dQ (B9 hU) (wv 6) (cQ j7) (bO _)) (az (dS IS rfl (dR (bC C_law_near hr rfl (av (wv 0) (aj (Er 6 (λ_ h1=>C5 HX PJ PySem.F.type_list_pop C6 h1) (pv 6)))))) (aC (i:=7) (by decide) sc_law_widths.nd rfl (HP rfl)) (az (d7 (mw hU (wv 7) (wv 5)) (aq (cX (mE 5 (aj (wv 7)) (λ_ _ h1 h2=>gO HX Ih J7 cR h1 h2) (pv 5)))
  (az (cX (tE 6 (aj (aK Ey (cQ (aj (wv 7))) (jE sW rfl T.z_int (by decide +kernel) (aj (we_in hU (wv 7) (qU (wv 1) jB (jC (wv 3)))))))) (λ_ _ h1 h2=>gO HX Kk LV jP h1 h2) (pv 6))))) bI)))))
  (az (cX (mE 2 (aj (jD lX rfl T.z_len (by decide +kernel) (aj (Ew 5 1 [1,3] (pv 5) rfl rfl rfl (aP.of (sc0:=ao s_law_widths) (N0:=["_law_web_here", "_law_order", "_law_found", "_law_at", "_law_place", "_law_met", "_law_waits", "_law_other"]) (N:=["_law_other", "_law_order", "_law_at"]) (fr:=[none,some 1,some 3]) rfl rfl (by decide +kernel)) (dR (wv 5)) (λ_=>⟨(aC (i:=0) (by decide) (show (["_law_other", "_law_order", "_law_at"]:List Str).Nodup by decide +kernel) rfl (HP rfl)),(mF (uM hU (wv 0) (qU (wv 1) (jC (aK bX (wv 2) ak)) jB))),(wv 0)⟩))))) (λ_ _ h1 h2=>gO HX Ih J7 cR h1 h2) (pv 2)))))))
  (az (bq (jE fY rfl T.z_tuple (by decide +kernel) (aj (wv 2))))))))
noncomputable abbrev s_law_same:Stmt:=top 16
theorem sc_law_same:aX ["_law_found", "_law_due"] ["_law_found", "_law_due"] (ao s_law_same):=⟨rfl,rfl,rfl,by decide +kernel,rfl,by decide +kernel,by decide +kernel⟩
theorem ok_law_same(Fn:lq K "_law_same" "_law_same" s_law_same f fd)(T:Txt mg)(bd:Binds K fd ["_law_found", "_law_due"] [])(hm:mg "_law_same" = some (.ref f)):∀n,cF P w K mg base jc (n+1) f fd ["_law_found", "_law_due"] (cS K (FF.aE n))
 |0=>Bj
 |n+1=>by
  have C_law_same:aT P w K mg base "_law_same" ["_law_found", "_law_due"] (n+1) (cS K (FF.aE n)):=⟨f,fd,ok_law_same Fn T bd hm n,bd,Fn.kp,hm⟩;exact bJ [true,true] Fn sc_law_same rfl λcdv A outer s H E hr=>(by
  have hU:=hr.units;have hG:=hr.gd;exact(aq (d7 (iY (gX "tuple" (by decide) (by decide) rfl T.z_isinstance (by decide +kernel) (wv 1) (ff (v:=.ty "tuple") rfl T.z_tuple (by decide +kernel) rfl))) (aq (d7 (yN (ww_or (pZ (iY (gX "tuple" (by decide) (by decide) rfl T.z_isinstance (by decide +kernel) (wv 0) (ff (v:=.ty "tuple") rfl T.z_tuple (by decide +kernel) rfl)))) (Ec (dQ (B9 hU) (jD lX rfl T.z_len (by decide +kernel) (aj (wv 0))) (jD lX rfl T.z_len (by decide +kernel) (aj (wv 1))) (bO _))))) (az (bq oA)) bI)
  (az (bq (jD (DN rfl) rfl T.z_all (by decide +kernel) (aj (oE 2 [] rfl rfl rfl (aP.of (sc0:=ao s_law_same) (N0:=["_law_found", "_law_due"]) (N:=["_law_one", "_law_other"]) (fr:=[none,none]) rfl rfl (by decide +kernel)) (Eg rfl T.z_zip (av (wv 0) (aj (wv 1)))) (λ_=>⟨(gY 2 rfl (bh (aC (i:=0) (by decide) (show (["_law_one", "_law_other"]:List Str).Nodup by decide +kernel) rfl (HP rfl)) (bh (aC (i:=1) (by decide) (show (["_law_one", "_law_other"]:List Str).Nodup by decide +kernel) rfl (HP rfl)) fD))),gA,(bC C_law_same hr rfl (av (wv 0) (aj (wv 1))))⟩))))))) bI)
  (aq (d7 (dQ Cb (wv 1) yM (bO _)) (az (bq (iX Cb (wv 0) yM (bO _)))) bI)
  (aq (d7 (iY (gX "bool" (by decide) (by decide) rfl T.z_isinstance (by decide +kernel) (wv 1) (ff (v:=.ty "bool") rfl T.z_bool (by decide +kernel) rfl))) (az (bq (mz (gX "bool" (by decide) (by decide) rfl T.z_isinstance (by decide +kernel) (wv 0) (ff (v:=.ty "bool") rfl T.z_bool (by decide +kernel) rfl)) (p5 (iX (lU hU) (wv 0) (wv 1) (bO _)))))) bI)
  (aq (d7 (iY (gX "str" (by decide) (by decide) rfl T.z_isinstance (by decide +kernel) (wv 1) (ff (v:=.ty "str") rfl T.z_str (by decide +kernel) rfl))) (az (bq (mz (gX "str" (by decide) (by decide) rfl T.z_isinstance (by decide +kernel) (wv 0) (ff (v:=.ty "str") rfl T.z_str (by decide +kernel) rfl)) (p5 (iX (lU hU) (wv 0) (wv 1) (bO _)))))) bI)
  (az (bq (mz (gX "int" (by decide) (by decide) rfl T.z_isinstance (by decide +kernel) (wv 0) (ff (v:=.ty "int") rfl T.z_int (by decide +kernel) rfl)) (mz (Ed (gX "bool" (by decide) (by decide) rfl T.z_isinstance (by decide +kernel) (wv 0) (ff (v:=.ty "bool") rfl T.z_bool (by decide +kernel) rfl))) (p5 (iX (lU hU) (wv 0) (wv 1) (bO _))))))))))))
noncomputable abbrev s_law_right:Stmt:=top 17
theorem sc_law_right:aX ["_law_web_here", "_law_order", "_law_due", "_law_turn"] ["_law_web_here", "_law_order"] (ao s_law_right):=⟨rfl,rfl,rfl,by decide +kernel,rfl,by decide +kernel,by decide +kernel⟩
theorem ok_law_right(Fn:lq K "_law_right" "_law_right" s_law_right f fd)(T:Txt mg)(C_law_same:aT P w K mg base "_law_same" ["_law_found", "_law_due"] 5 (cS K (FF.aE 4)))(C_width:aT P w K mg base "width" ["web", "order"] 4 (cS K FF.dF))(C_widths:aT P w K mg base "widths" ["web", "order"] 3 (cS K FF.bN))(C_law_widths:aT P w K mg base "_law_widths" ["_law_web_here", "_law_order"] 2 (cS K FF.bU)):cF P w K mg base jc 6 f fd ["_law_web_here", "_law_order"] (cS K FF.bL) :=
 bJ [true,true] Fn sc_law_right rfl λcdv A outer s H E hr=>(by
  have hU:=hr.units;have hG:=hr.gd;exact(aq (aW (i:=2) (by decide) sc_law_right.nd rfl (HP rfl) (bC C_law_widths hr rfl (av (wv 0) (aj (wv 1)))))
  (aq (dS IS rfl (ee rfl T.z_range (aj ak)) (aC (i:=3) (by decide) sc_law_right.nd rfl (HP rfl)) (aq (d7 (pZ (iY (bC C_law_same hr rfl (av (bC C_widths hr rfl (av (wv 0) (aj (wv 1)))) (aj (wv 2)))))) (az (bq oA)) bI)
  (az (d7 (pZ (iY (bC C_law_same hr rfl (av (bC C_width hr rfl (av (wv 0) (aj (wv 1)))) (aj (uT rfl rfl T.z_max (by decide +kernel) (aj (wv 2)))))))) (az (bq oA)) bI))))
  (az (bq oA)))))
noncomputable abbrev s_law:Stmt:=top 18
theorem sc_law:aX ["_law_script", "_law_pot_here", "_law_k", "_law_great", "_law_web_here", "_law_order"] ["_law_script"] (ao s_law):=⟨rfl,rfl,rfl,by decide +kernel,rfl,by decide +kernel,by decide +kernel⟩
theorem ok_law(Fn:lq K "law" "law" s_law f fd)(T:Txt mg)(C_law_turned:aT P w K mg base "_law_turned" ["_law_pot_here", "_law_some"] 2 (cS K FF.bE))(C_law_right:aT P w K mg base "_law_right" ["_law_web_here", "_law_order"] 6 (cS K FF.bL))(C_law_web:aT P w K mg base "_law_web" ["_law_pot_here", "_law_many"] 3 (cS K FF.cB))(C_law_take:aT P w K mg base "_law_take" ["_law_pot_here", "_law_many"] 1 (cS K FF.au))(C_law_pot:aT P w K mg base "_law_pot" ["_law_script"] 1 (cS K FF.cZ)):cF P w K mg base jc 7 f fd ["_law_script"] (cS K FF.rN) :=
 bJ [true] Fn sc_law rfl λcdv A outer s H E hr=>(by
  have hU:=hr.units;have hG:=hr.gd;exact(aq (aW (i:=1) (by decide) sc_law.nd rfl (HP rfl) (bC C_law_pot hr rfl (aj (wv 0))))
  (aq (dS IS rfl (ee rfl T.z_range (aj ak)) (aC (i:=2) (by decide) sc_law.nd rfl (HP rfl)) (aq (aW (i:=3) (by decide) sc_law.nd rfl (HP rfl) (iX (lU hU) (bC C_law_take hr rfl (av (wv 1) (aj ak))) ak (bO _)))
  (aq (aW (i:=4) (by decide) sc_law.nd rfl (HP rfl) (bC C_law_web hr rfl (av (wv 1) (aj (bC C_law_take hr rfl (av (wv 1) (aj (cM hU (cQ (av ak (aj ak))) (jE sW rfl T.z_int (by decide +kernel) (aj (wv 3))) (λ_ _=>rfl)))))))))
  (az (dS IS rfl (dR (dD (av (cM hU (wv 4) ak (λ_ _=>rfl)) (av (Ek (cM hU (wv 4) ak (λ_ _=>rfl)) (Ef ak)) (aj (jE fY rfl T.z_tuple (by decide +kernel) (aj (bC C_law_turned hr rfl (av (wv 1) (aj (cM hU (wv 4) ak (λ_ _=>rfl)))))))))))) (aC (i:=5) (by decide) sc_law.nd rfl (HP rfl)) (az (d7 (pZ (iY (bC C_law_right hr rfl (av (wv 4) (aj (wv 5)))))) (az (bq oA)) bI)))))))
  (az (bq oA)))))
end
end Lk22
end
section
namespace PA
open PySem L2 VL
theorem kO{a b:Int}(h:0<=b/\(IP a:Int)*b<=2 ^ 27):iT (.v (.int a)) (.v (.int b))=some (.v (.int (a ^ b.toNat))):=if_pos (decide_eq_true h)
noncomputable abbrev pD(p:Int×Int):B1:=.tuple [.int p.1,.int p.2]
noncomputable abbrev tD(ts:List (Int×Int)):B1:=.tuple (ts.map pD)
noncomputable abbrev wD(ps:List Int)(ts:List (Int×Int)):B1:=.tuple [tI ps,tD ts]
noncomputable abbrev enc(t:Int×Int):List Int:=[t.1,t.2]
noncomputable def dec(k:List Int):Int×Int:=(k.getD 0 0,k.getD 1 0)
def Hh(a b:Int×Int):Prop:=a.1<b.1\/(a.1=b.1/\a.2<b.2)
instance (a b:Int×Int):Decidable (Hh a b):=by unfold Hh; infer_instance
end PA
end
section
open PySem L2 VL
end
section
namespace PQ
open PySem L2 VL PA
section
variable{ρ:Ev}{i:Nat}
@[simp] theorem vExt_eq{fa:FA}:p8 i fa ρ=(ck ρ i).bind λm0=>match m0 with
 |.lst _=>(fa ρ).bind λp=>match p.1 with
  |[.t (.lst es)]=>(ck p.2 i).bind λm=>match m with
   |.lst ds=>if ds.length+es.length<=lim then some (.t (.v .none),p.2.set i (some (.lst (ds++es)))) else none
   |_=>none
  |_=>none
 |_=>none:=rfl
@[simp] theorem vIns_eq{fa:FA}:yX i fa ρ=(ck ρ i).bind λm0=>match m0 with
 |.lst _=>(fa ρ).bind λp=>match p.1 with
  |[o,o2]=>(peek p.2 o).bind λmk=>match mk with
   |.v (.int k)=>(cL o2 p.2).bind λq=>(ck q.2 i).bind λm=>match m with
    |.lst ds=>if 0<=k/\k.toNat<=ds.length/\ds.length<lim then some (.t (.v .none),q.2.set i (some (.lst (ds.take k.toNat++q.1::ds.drop k.toNat)))) else none
    |_=>none
   |_=>none
  |_=>none
 |_=>none:=rfl
end
theorem iA(ds:List B1)(k:Nat):cutD ds none (some (k:Int))=ds.take k:=by
 unfold cutD;rw[HT.qu,HT.ua,Oe,K5]
 by_cases h:k<=ds.length
 ·rw[Np h]
 ·rw[Nat.min_eq_right (by lia),Jc,Ix (by lia)]
end PQ
end
section
namespace PS
open PySem L2 VL PA PQ
theorem bits_le{x:Int}{n:Nat}(h0:0<=x)(h:x<2 ^ n):IP x<=n:=by
 unfold IP
 split
 ·lia
 ·next hx=>
  have hx:x≠0:=by simpa using hx
  have h1:x.natAbs≠0:=by lia
  have h2:x.natAbs<2 ^ n:=by
   have:(x.natAbs:Int)<((2 ^ n:Nat):Int):=by
    rw[Int.natAbs_of_nonneg h0];simpa using h
   exact Int.ofNat_lt.mp this
  have:=(Nat.log2_lt h1).mpr h2;lia
theorem vd{a b:Int}{m n:Nat}(ha:0<=a)(hb:0<=b)(h1:a<2 ^ m)(h2:b<2 ^ n)(hmn:m+n<=1000000):wK (.v (.int a)) (.v (.int b))=some (.v (.int (a*b))):=if_pos (decide_eq_true (by
 have x1:=bits_le ha h1;have x2:=bits_le hb h2;have:(2:Int) ^ 20=1048576:=by decide
 lia))
def Pt(l:List B1):Prop:=∃g q t:Int,l=[.int g,.int q,.int t]/\0<=g
theorem take{l:List B1}{m:Int}(h:Pt l)(hm:0<m)(hm2:m<1073741824):∃ (r:Int) (l':List B1),0<=r/\r<m/\Pt l'/\FF.au [.lst l,.v (.int m)]=some (.v (.int r),[.lst l',.v (.int m)]):=by
 obtain⟨g,q,t,rfl,hg⟩:=h
 by_cases h0:0<g
 ·refine⟨g % m,[.int (g / m),.int q,.int t],MA _ (by lia),LY _ hm,⟨_,_,_,rfl,Int.ediv_nonneg hg (NE hm)⟩,?_⟩
  simp[FF.au,FF.dU,jF,jO,ud,h0,hm,hm2]
 ·generalize hx:(q*48271+104729*(t+1)+11) % 2305843009213693951=x
  have hx':0<=x/\x<2305843009213693951:=by lia
  have hp:iT (.v (.int x)) (.v (.int 5))=some (.v (.int (x ^ 5))):=kO ⟨by decide,by
   have:=bits_le (n:=61) hx'.1 (by rw[show (2:Int) ^ 61=2305843009213693952 by decide]; lia)
   have:(2:Int) ^ 27=134217728:=by decide
   lia⟩
  refine⟨x ^ 5 % 2305843009213693921 / 1009 % m,[.int g,.int x,.int (t+1)],MA _ (by lia),LY _ hm,⟨_,_,_,rfl,hg⟩,?_⟩
  simp[FF.au,FF.dU,jF,jO,ud,h0,hm,hm2,hx,hp]
theorem pows:∃A B:Int,A=10 ^ 60/\iT (.v (.int 10)) (.v (.int 60))=some (.v (.int A))/\iT (.v (.int 10)) (.v (.int 18))=some (.v (.int B)):=⟨_,_,rfl,kO ⟨by decide,by decide +kernel⟩,kO ⟨by decide,by decide +kernel⟩⟩
noncomputable abbrev potB:FS:=aH (bw 3 (vB iS (vB iT (vB bH (vB bH (vB mulM (aa 3) (vC (.int 48271))) (vB iS (aa 4) (vC (.int 2305843009213693951)))) (vC (.int 13))) (vC (.int 3))) (vC (.int 2305843009213693951))))
 (cW (br (vB FD (fW sV (af (aa 4))) (vB iT (vC (.int 10)) (vC (.int 18))))) (aH (bw 1 (vB bH (aa 1) (vB wK (vB iS (fW sV (af (aa 4))) (vB iT (vC (.int 10)) (vC (.int 60)))) (aa 2))))
 (bw 2 (vB wK (aa 2) (vB iT (vC (.int 10)) (vC (.int 60)))))) bB)
theorem Hi(ns:List Int)(hl:ns.length<=63):∃l,Pt l/\FF.cZ [.v (.list (ns.map .int))]=some (.lst l,[.v (.list (ns.map .int))]):=by
 obtain⟨A,B,hA,e1,e2⟩:=pows;have hA0:0<A/\A<2 ^ 200:=by rw[hA]; decide +kernel
 obtain⟨ρ',e,n,dg,wt,sd,x4,h1,h2,h3,h4,h5,rfl⟩:=cz (fg:=ah 4) (fb:=potB) (P:=λrest ρ=>∃ (n:Nat) (dg wt sd:Int) (x4:Option M),(∃ms:List Int,rest=ms.map .int/\n+ms.length<=63)/\0<=dg/\0<=wt/\wt<2 ^ (200*n+1)/\(0<=sd/\sd<2305843009213693951)/\ρ=[some (.v (.list (ns.map .int))),some (.v (.int dg)),some (.v (.int wt)),some (.v (.int sd)),x4]) (ns.map .int) _ ⟨0,0,1,11,none,⟨ns,rfl,by lia⟩,by lia,by lia,by decide,by lia,rfl⟩ (λd rest ρ hP=>by
  obtain⟨n,dg,wt,sd,x4,⟨ms,hms,hn⟩,h2,h3,h4,h5,rfl⟩:=hP;cases ms with
  |nil=>cases hms
  |cons m ms=>
   obtain⟨rfl,rfl⟩:d=.int m/\rest=ms.map .int:=by
    rw[GM] at hms;exact⟨(JY hms).1,(JY hms).2⟩
   rw[Bn] at hn;have hm':0<=m % 2305843009213693951/\m % 2305843009213693951<2305843009213693951:=by lia
   generalize hy:sd*48271+m % 2305843009213693951+13=y;have hy':0<=y/\y<2 ^ 80:=by
    have:(2:Int) ^ 80=1208925819614629174706176:=by decide
    lia
   have hp:iT (.v (.int y)) (.v (.int 3))=some (.v (.int (y ^ 3))):=kO ⟨by decide,by
    have:=bits_le hy'.1 hy'.2;have:(2:Int) ^ 27=134217728:=by decide
    lia⟩
   have hs:0<=y ^ 3 % 2305843009213693951/\y ^ 3 % 2305843009213693951<2305843009213693951:=by lia
   generalize ha:(if m<0 then -m else m)=a
   have hss : -18446744073709551616<sd/\sd<18446744073709551616:=by lia
   by_cases hb:B<=a
   ·have hr:0<=a % A/\a % A<2 ^ 200:=⟨MA _ (by lia),Int.lt_trans (LY _ hA0.1) hA0.2⟩
    have q1:=vd hr.1 h3 hr.2 h4 (by lia)
    have q2:=vd h3 (NE hA0.1) h4 hA0.2 (by lia)
    refine⟨[some (.v (.list (ns.map .int))),some (.v (.int dg)),some (.v (.int wt)),some (.v (.int sd)),some (.v (.int m))],[some (.v (.list (ns.map .int))),some (.v (.int (dg+a % A*wt))),some (.v (.int (wt*A))),some (.v (.int (y ^ 3 % 2305843009213693951))),some (.v (.int m))],by simp,?_,n+1,dg+a % A*wt,wt*A,y ^ 3 % 2305843009213693951,_,⟨ms,rfl,by lia⟩,Int.add_nonneg h2 (Qq hr.1 h3),Qq h3 (NE hA0.1),?_,hs,rfl⟩
    ·simp[potB,hy,hp,ha,e1,e2,hb,hA0.1,q1,q2,hss]
    ·have t1:wt*A<=wt*2 ^ 200:=Int.mul_le_mul_of_nonneg_left (NE hA0.2) h3
     have t2:wt*2 ^ 200<2 ^ (200*n+1)*2 ^ 200:=Int.mul_lt_mul_of_pos_right h4 (by decide)
     have t3:(2:Int) ^ (200*n+1)*2 ^ 200=2 ^ (200*(n+1)+1):=by rw[<-Int.pow_add]; congr 1
     lia
   ·refine⟨[some (.v (.list (ns.map .int))),some (.v (.int dg)),some (.v (.int wt)),some (.v (.int sd)),some (.v (.int m))],[some (.v (.list (ns.map .int))),some (.v (.int dg)),some (.v (.int wt)),some (.v (.int (y ^ 3 % 2305843009213693951))),some (.v (.int m))],by simp,?_,n,dg,wt,y ^ 3 % 2305843009213693951,_,⟨ms,rfl,by lia⟩,h2,h3,h4,hs,rfl⟩
    simp[potB,hy,hp,ha,e2,hb,hss])
 refine⟨[.int dg,.int sd,.int 0],⟨_,_,_,rfl,h2⟩,cY (ρ:=[some (.v (.list (ns.map .int))),some (.v (.int dg)),some (.v (.int wt)),some (.v (.int sd)),x4]) rfl ?_ rfl⟩;show FF.g9 [some (.v (.list (ns.map .int))),none,none,none,none]=_;refine(aG (ρ1:=[some (.v (.list (ns.map .int))),some (.v (.int 0)),some (.v (.int 1)),some (.v (.int 11)),none]) (by simp[lim])).trans ?_
 refine(aG (ρ1:=[some (.v (.list (ns.map .int))),some (.v (.int dg)),some (.v (.int wt)),some (.v (.int sd)),x4]) ?_).trans (by simp[lim])
 have hc:cutD (ns.map IF) none (some 63)=ns.map .int:=by
  rw[show (63:Int)=((63:Nat):Int) from rfl,iA,Ix (by rw[D1]; exact hl)]
 simp only[Bq,yU,Eo,Bm,at?_0,Ib,wG,wH,vC_eq,El,Bl,yS,hc,En,Bo,yT];exact e
def Nm(a b:Int)(ds:List B1):Prop:=∀d∈ds,∃k:Int,d=.int k/\a<=k/\k<b
theorem jL(a b:Int):Nm a b (bu a b):=λd hd=>by
 unfold bu at hd;obtain⟨k,hk,rfl⟩:=IL.mp hd;have:=Iq.mp hk;exact⟨a+k,rfl,by lia,by lia⟩
theorem dG(a b:Int):(bu a b).length=(b-a).toNat:=by unfold bu; rw[D1,IV]
theorem Nm.tail{a b:Int}{d:B1}{ds:List B1}(h:Nm a b (d::ds)):Nm a b ds:=λx hx=>h x (lO _ hx)
theorem small{k:Int}(h : -1000<=k/\k<=1000):gW k=true:=decide_eq_true (by unfold bigI; lia)
noncomputable abbrev Hj:FS:=aH (bR (jA 4 (af (aa 3))))
 (bw 3 (vB bH (vB bH (aa 3) (vC (.int 1))) (gH (di (ai (vC (.int 0)) (ai (dM FF.au (ai (aa 0) (af (vC (.int 2))))) (af (dM FF.au (ai (aa 0) (af (vC (.int 4))))))))) (aa 2))))
theorem places{l:List B1}{n:Nat}(h:Pt l)(hn:n<=24):∃ (l':List B1) (ps:List Int),ps.length=n/\ps.Pairwise (· < ·)/\(∀p∈ps,0<=p)/\Pt l'/\FF.bT [.lst l,.v (.int (n:Int))]=some (.lst (ps.map .int),[.lst l',.v (.int (n:Int))]):=by
 obtain⟨wd,l1,w0,w1,hl1,e1⟩:=take (m:=3) h (by decide) (by decide)
 obtain⟨GA,l2,a0,a1,hl2,e2⟩:=take (m:=4) hl1 (by decide) (by decide)
 obtain⟨ρ',e,l',ps,at1,x5,h1,h2,h3,h4,h5,rfl⟩:=cz (fg:=ah 5) (fb:=Hj) (P:=λrest ρ=>∃ (l':List B1) (ps:List Int) (at1:Int) (x5:Option M),ps.length+rest.length=n/\ps.Pairwise (· < ·)/\(∀p∈ps,0<=p/\p<at1)/\0<=at1/\Pt l'/\ρ=[some (.lst l'),some (.v (.int (n:Int))),some (.v (.int wd)),some (.v (.int at1)),some (.lst (ps.map .int)),x5])
  (bu 0 (n:Int)) _ ⟨l2,[],GA,none,by rw[dG]; simp,.nil,λp hp=>(nomatch hp),a0,hl2,rfl⟩ (λd rest ρ hP=>by
   obtain⟨l',ps,at1,x5,h1,h2,h3,h4,h5,rfl⟩:=hP;obtain⟨r1,l3,r10,r11,hl3,e3⟩:=take (m:=2) h5 (by decide) (by decide)
   obtain⟨r2,l4,r20,r21,hl4,e4⟩:=take (m:=4) hl3 (by decide) (by decide)
   have hw:wd=0\/wd=1\/wd=2:=by lia
   have hlim:ps.length<1000000:=by rw[Bn] at h1; lia
   obtain⟨z,hz,ez⟩:∃z:Int,0<=z/\jO [IF 0,.int r1,.int r2] wd=some (.int z):=by
    rcases hw with rfl | rfl | rfl
    ·exact⟨0,by lia,rfl⟩
    ·exact⟨r1,r10,rfl⟩
    ·exact⟨r2,r20,rfl⟩
   refine⟨[some (.lst l'),some (.v (.int (n:Int))),some (.v (.int wd)),some (.v (.int at1)),some (.lst (ps.map .int)),some (.v d)],[some (.lst l4),some (.v (.int (n:Int))),some (.v (.int wd)),some (.v (.int (at1+1+z))),some (.lst ((ps++[at1]).map .int)),some (.v d)],by simp,?_,l4,ps++[at1],at1+1+z,_,?_,?_,λp hp=>?_,by lia,hl4,rfl⟩
   ·simp[Hj,lim,hlim,e3,e4,ez]
   ·rw[Bz,Hm]; rw[Bn] at h1; lia
   ·exact Fm.mpr ⟨h2,Lr _ _,λa ha b hb=>by rw[Ch] at hb; subst hb; exact(h3 a ha).2⟩
   ·rcases lM hp with hp | hp
    ·have:=h3 p hp; lia
    ·rw[Ch] at hp; lia)
 refine⟨l',ps,by simpa using h1,h2,λp hp=>(h3 p hp).1,h5,cY (ρ:=[some (.lst l'),some (.v (.int (n:Int))),some (.v (.int wd)),some (.v (.int at1)),none,x5]) rfl ?_ rfl⟩
 show FF.fG [some (.lst l),some (.v (.int (n:Int))),none,none,none,none]=_;refine(aG (ρ1:=[some (.lst l1),some (.v (.int (n:Int))),some (.v (.int wd)),none,none,none]) (by simp[e1])).trans ?_
 refine(aG (ρ1:=[some (.lst l2),some (.v (.int (n:Int))),some (.v (.int wd)),some (.v (.int GA)),none,none]) (by simp[e2])).trans ?_
 refine(aG (ρ1:=[some (.lst l2),some (.v (.int (n:Int))),some (.v (.int wd)),some (.v (.int GA)),some (.lst []),none]) (by simp[lim])).trans ?_
 refine(aG (ρ1:=[some (.lst l'),some (.v (.int (n:Int))),some (.v (.int wd)),some (.v (.int at1)),some (.lst (ps.map .int)),x5]) ?_).trans (by simp)
 have hsm:=small (k:=(n:Int)) (by lia)
 simp[hsm];exact e
def GB(n:Int)(ts:List (Int×Int)):Prop:=∀t∈ts,0<=t.1/\t.1<t.2/\t.2<n
theorem tU(ts:List (Int×Int)):sR (ts.map pD)=some (ts.map enc):=by
 have:ts.map pD=(ts.map enc).map tI:=by rw[Iy]; rfl
 rw[this,uD]
theorem zG(ts:List (Int×Int))(hl:ts.length<=1000):∃us:List (Int×Int),(∀u,u∈us↔u∈ts)/\(us.map enc).Pairwise (λa b=>HT.lexLt a b=true)/\Fo [.lst (ts.map pD)]=some (.lst (us.map pD)):=by
 have hmem:∀k∈cE HT.lexLt (ts.map enc),enc (dec k)=k:=λk hk=>by
  have:=(gg wO).mp hk;obtain⟨t,_,rfl⟩:=IL.mp this;rfl
 have e1:((cE HT.lexLt (ts.map enc)).map dec).map enc=cE HT.lexLt (ts.map enc):=by
  rw[Iy];refine(JU (g:=id) λk hk=>hmem k hk).trans (List.map_id _)
 refine⟨(cE HT.lexLt (ts.map enc)).map dec,λu=>?_,by rw[e1]; exact mV wO _,?_⟩
 ·constructor
  ·intro hu
   obtain⟨k,hk,rfl⟩:=IL.mp hu;obtain⟨t,ht,rfl⟩:=IL.mp ((gg wO).mp hk);exact ht
  ·intro hu
   exact IL.mpr ⟨enc u,(gg wO).mpr (IL.mpr ⟨u,hu,rfl⟩),rfl⟩
 ·have e2:((cE HT.lexLt (ts.map enc)).map dec).map pD=(cE HT.lexLt (ts.map enc)).map tI:=by
   conv=>rhs; rw[<-e1]
   rw[Iy (g:=tI)];rfl
  cases ts with
  |nil=>rfl
  |cons t ts=>
   rw[e2];show (if ((t::ts).map pD).length<=1000 then (match gu ((t::ts).map pD) with
    |some ns=>some (M.lst ((cE ltZ ns).map .int))
    |none=>(sR ((t::ts).map pD)).bind λks=>if ks.all (λk=> !k.isEmpty)=true then some (M.lst ((cE HT.lexLt ks).map tI)) else none) else none)=_
   rw[if_pos (by rw[D1]; exact hl),show gu ((t::ts).map pD)=none from rfl,tU]
   show (if ((t::ts).map enc).all (λk=> !k.isEmpty)=true then _ else _)=_
   rw[if_pos];rw[OR,Kz];intro x _;rfl
def PD(n:Int)(ds:List B1):Prop:=∃ts,ds=ts.map pD/\GB n ts
theorem PD.nil(n:Int):PD n []:=⟨[],rfl,λt ht=>(nomatch ht)⟩
theorem PD.app{n:Int}{ds es:List B1}(h:PD n ds)(h':PD n es):PD n (ds++es):=by
 obtain⟨ts,rfl,a⟩:=h;obtain⟨us,rfl,b⟩:=h';refine⟨ts++us,by rw[Iu],λt ht=>?_⟩
 rcases lM ht with ht | ht
 ·exact a t ht
 ·exact b t ht
theorem PD.one{n a b:Int}(h0:0<=a)(h1:a<b)(h2:b<n):PD n [.tuple [.int a,.int b]]:=⟨[(a,b)],rfl,λt ht=>by rw[Ch] at ht; subst ht; exact⟨h0,h1,h2⟩⟩
noncomputable abbrev FU:FT:=br (vB ye (aa 2) (vB mulM (vC (.int 2)) (dM FF.au (ai (aa 3) (af (vC (.int 3)))))))
noncomputable abbrev FW:FE:=cV (ai (aa 0) (af (aa 1)))
theorem comp1{l:List B1}{n b bar:Int}(h:Pt l)(hb:0<=b)(hbn:b<n)(hn:n<=24):∃ (acc l':List B1) (x0:Option M),Pt l'/\PD n acc/\acc.length<=24 /\
  bz (ah 0) FU FW (bu 0 b) [none,some (.v (.int b)),some (.v (.int bar)),some (.lst l)] []=some (acc,[x0,some (.v (.int b)),some (.v (.int bar)),some (.lst l')]):=by
 obtain⟨acc,ρ',e,l',x0,h1,h2,h3,h4,rfl⟩:=gb (fg:=ah 0) (ft:=FU) (fe:=FW) (P:=λrest acc ρ=>∃ (l':List B1) (x0:Option M),Nm 0 b rest/\PD n acc/\acc.length+rest.length<=24/\Pt l'/\ρ=[x0,some (.v (.int b)),some (.v (.int bar)),some (.lst l')])
  (bu 0 b) _ [] ⟨l,none,jL _ _,PD.nil _,by rw[dG]; simp; lia,h,rfl⟩ (λd rest acc ρ hP=>by
   obtain⟨l',x0,h1,h2,h3,h4,rfl⟩:=hP;obtain⟨k,rfl,k0,k1⟩:=h1 d lS;rw[Bn] at h3;obtain⟨r,l2,r0,r1,hl2,et⟩:=take (m:=3) h4 (by decide) (by decide)
   refine⟨by unfold lim; lia,[some (.v (.int k)),some (.v (.int b)),some (.v (.int bar)),some (.lst l')],decide (2*r<bar),[some (.v (.int k)),some (.v (.int b)),some (.v (.int bar)),some (.lst l2)],by simp,by simp[FU,et],?_⟩
   by_cases hr:2*r<bar
   ·refine .inr ⟨decide_eq_true hr,.t (.v (.tuple [.int k,.int b])),[some (.v (.int k)),some (.v (.int b)),some (.v (.int bar)),some (.lst l2)],.tuple [.int k,.int b],_,by simp[FW,lim],rfl,l2,_,h1.tail,h2.app (PD.one k0 k1 hbn),?_,hl2,rfl⟩
    rw[Bz,Hm]; lia
   ·exact .inl ⟨decide_eq_false hr,l2,_,h1.tail,h2,by lia,hl2,rfl⟩)
 exact⟨acc,l',x0,h4,h2,by simpa using h3,e⟩
noncomputable abbrev FY:FS:=bR (p8 4 (af (nh 1 [6,5,0] (bG gw (af (aa 6))) (ah 0) FU FW)))
theorem rows1{l:List B1}{n md mo bar:Int}(x7:Option M)(h:Pt l)(h0:0<=n)(hn:n<=24):∃ (acc l':List B1) (x6:Option M),Pt l'/\PD n acc/\acc.length<=576 /\
  forL (ah 6) FY (bu 0 n) [some (.lst l),some (.v (.int n)),some (.v (.int md)),some (.v (.int mo)),some (.lst []),some (.v (.int bar)),none,x7]=some (.nx [some (.lst l'),some (.v (.int n)),some (.v (.int md)),some (.v (.int mo)),some (.lst acc),some (.v (.int bar)),x6,x7]):=by
 obtain⟨ρ',e,acc,l',x6,h1,h2,h3,h4,rfl⟩:=cz (fg:=ah 6) (fb:=FY) (P:=λrest ρ=>∃ (acc l':List B1) (x6:Option M),Nm 0 n rest/\PD n acc/\acc.length+24*rest.length<=576/\Pt l'/\ρ=[some (.lst l'),some (.v (.int n)),some (.v (.int md)),some (.v (.int mo)),some (.lst acc),some (.v (.int bar)),x6,x7])
  (bu 0 n) _ ⟨[],l,none,jL _ _,PD.nil _,by rw[dG]; simp; lia,h,rfl⟩ (λd rest ρ hP=>by
   obtain⟨acc,l',x6,h1,h2,h3,h4,rfl⟩:=hP;obtain⟨b,rfl,b0,b1⟩:=h1 d lS;rw[Bn] at h3;obtain⟨es,l2,x0,hl2,g1,g2,ec⟩:=comp1 (b:=b) (bar:=bar) h4 b0 b1 hn;have hsm:=small (k:=b) (by lia)
   have hlim:acc.length+es.length<=1000000:=by lia
   refine⟨[some (.lst l'),some (.v (.int n)),some (.v (.int md)),some (.v (.int mo)),some (.lst acc),some (.v (.int bar)),some (.v (.int b)),x7],[some (.lst l2),some (.v (.int n)),some (.v (.int md)),some (.v (.int mo)),some (.lst (acc++es)),some (.v (.int bar)),some (.v (.int b)),x7],by simp,?_,acc++es,l2,_,h1.tail,h2.app g1,?_,hl2,rfl⟩
   ·simp[FY,hsm,ec,hlim,lim]
   ·rw[Bz]; lia)
 exact⟨acc,l',x6,h4,h2,by simpa using h3,e⟩
noncomputable abbrev FZ:FE:=cV (ai (dM FF.au (ai (aa 1) (af (aa 0)))) (af (aa 0)))
theorem comp2{l:List B1}{n:Int}(h:Pt l)(hn:n<=24):∃ (acc l':List B1) (x0:Option M),Pt l'/\PD n acc/\acc.length<=24/\bz (ah 0) dB FZ (bu 1 n) [none,some (.lst l)] []=some (acc,[x0,some (.lst l')]):=by
 obtain⟨acc,ρ',e,l',x0,h1,h2,h3,h4,rfl⟩:=gb (fg:=ah 0) (ft:=dB) (fe:=FZ) (P:=λrest acc ρ=>∃ (l':List B1) (x0:Option M),Nm 1 n rest/\PD n acc/\acc.length+rest.length<=24/\Pt l'/\ρ=[x0,some (.lst l')])
  (bu 1 n) _ [] ⟨l,none,jL _ _,PD.nil _,by rw[dG]; simp; lia,h,rfl⟩ (λd rest acc ρ hP=>by
   obtain⟨l',x0,h1,h2,h3,h4,rfl⟩:=hP;obtain⟨k,rfl,k0,k1⟩:=h1 d lS;rw[Bn] at h3;obtain⟨r,l2,r0,r1,hl2,et⟩:=take (m:=k) h4 (by lia) (by lia)
   refine⟨by unfold lim; lia,[some (.v (.int k)),some (.lst l')],true,[some (.v (.int k)),some (.lst l')],by simp,by simp,.inr ⟨rfl,.t (.v (.tuple [.int r,.int k])),[some (.v (.int k)),some (.lst l2)],.tuple [.int r,.int k],_,by simp[FZ,lim,et],rfl,l2,_,h1.tail,h2.app (PD.one r0 r1 k1),?_,hl2,rfl⟩⟩
   rw[Bz,Hm]; lia)
 exact⟨acc,l',x0,h4,h2,by simpa using h3,e⟩
theorem zH{n m s:Int}{ft:FT}{q:Int->Bool}(hs:0<s)(hm:m+s<=n)(hn:n<=24)(ht:∀k:Int,0<=k->k<m->ft [some (.v (.int k))]=some (q k,[some (.v (.int k))])):∃ (acc:List B1) (x0:Option M),PD n acc/\acc.length<=24 /\
  bz (ah 0) ft (cV (ai (aa 0) (af (vB bH (aa 0) (vC (.int s)))))) (bu 0 m) [none] []=some (acc,[x0]):=by
 obtain⟨acc,ρ',e,x0,h1,h2,h3,rfl⟩:=gb (fg:=ah 0) (ft:=ft) (fe:=cV (ai (aa 0) (af (vB bH (aa 0) (vC (.int s)))))) (P:=λrest acc ρ=>∃x0:Option M,Nm 0 m rest/\PD n acc/\acc.length+rest.length<=24/\ρ=[x0])
  (bu 0 m) _ [] ⟨none,jL _ _,PD.nil _,by rw[dG]; simp; lia,rfl⟩ (λd rest acc ρ hP=>by
   obtain⟨x0,h1,h2,h3,rfl⟩:=hP;obtain⟨k,rfl,k0,k1⟩:=h1 d lS;rw[Bn] at h3;refine⟨by unfold lim; lia,[some (.v (.int k))],q k,[some (.v (.int k))],by simp,ht k k0 k1,?_⟩
   cases hq:q k with
   |true=>
    refine .inr ⟨rfl,.t (.v (.tuple [.int k,.int (k+s)])),[some (.v (.int k))],.tuple [.int k,.int (k+s)],_,by simp[lim],rfl,_,h1.tail,h2.app (PD.one k0 (by lia) (by lia)),?_,rfl⟩
    rw[Bz,Hm]; lia
   |false=>exact .inl ⟨rfl,_,h1.tail,h2,by lia,rfl⟩)
 exact⟨acc,x0,h2,by simpa using h3,e⟩
end PS
end
section
namespace PA
open PySem L2 VL
@[simp] theorem cls_none:lY (.v .none) = "NoneType" := rfl
@[simp] theorem cls_bool{b:Bool}:lY (.v (.bool b)) = "bool" := rfl
@[simp] theorem cls_int{b:Int}:lY (.v (.int b)) = "int" := rfl
@[simp] theorem cls_str{b:Str}:lY (.v (.str b)) = "str" := rfl
@[simp] theorem cls_tup{b:List B1}:lY (.v (.tuple b)) = "tuple" := rfl
@[simp] theorem cls_list{b:List B1}:lY (.v (.list b)) = "list" := rfl
@[simp] theorem cls_dict{b:List (B1×B1)}:lY (.v (.dict b)) = "dict" := rfl
theorem rO(ns:List Int)(a:Int):((ns.map IF).any λd=>JL d (.int a))=decide (a∈ns):=by
 rw[OQ]
 induction ns with
 |nil=>simp
 |cons m ns ih=>
  rw[JN,ih];show ((m == a) || _)=_
  by_cases h:m=a
  ·simp[h]
  ·simp[h,K8 h]
theorem kP(neg:Bool)(ns:List Int)(a:Int):iI neg (.v (.int a)) (.v (.tuple (ns.map .int)))=some (.v (.bool (if neg then !decide (a∈ns) else decide (a∈ns)))):=by
 show ES neg (.v (.int a)) (.v (.tuple (ns.map .int)))=_;show (if okIn (ns.map .int) (.int a)=true then some (M.v (.bool (if neg then !((ns.map IF).any λd=>JL d (.int a)) else (ns.map IF).any λd=>JL d (.int a)))) else none)=_
 rw[rO,if_pos];unfold okIn;rw[qH];rfl
end PA
end
section
namespace PS
open PySem L2 VL PA PQ
def Sp(n md mo:Int)(c:Nat)(ρ:Ev):Prop:=∃ (l acc:List B1) (x5 x6 x7:Option M),Pt l/\PD n acc/\acc.length<=c/\ρ=[some (.lst l),some (.v (.int n)),some (.v (.int md)),some (.v (.int mo)),some (.lst acc),x5,x6,x7]
theorem zI(md:Int):iI false (.v (.int md)) (.v (.tuple [.int 1,.int 2,.int 3]))=some (.v (.bool (decide (md∈[1,2,3])))):=kP false [1,2,3] md
section
variable{n md mo:Int}{ρ:Ev}(h0:0<=n)(hn:n<=24)(m0:0<=md)(m1:md<7)
include h0 hn m0 m1
theorem step4{l:List B1}(h:Pt l):∃ρ',cW (br (vB (iI false) (aa 2) (cV (ai (vC (.int 1)) (ai (vC (.int 2)) (af (vC (.int 3)))))))) (aH (bw 5 (gH (di (ai (vC (.int 0)) (ai (vC (.int 4)) (ai (vC (.int 2)) (af (vC (.int 5))))))) (aa 2)))
  (fO (bG gw (af (aa 1))) (ah 6) FY)) bB [some (.lst l),some (.v (.int n)),some (.v (.int md)),some (.v (.int mo)),some (.lst []),none,none,none]=some (.nx ρ')/\Sp n md mo 576 ρ':=by
 by_cases hm:md∈[(1:Int),2,3]
 ·obtain⟨bar,eb⟩:∃bar:Int,jO [IF 0,.int 4,.int 2,.int 5] md=some (.int bar):=by
   have:md=1\/md=2\/md=3:=by simpa using hm
   rcases this with rfl | rfl | rfl
   ·exact⟨4,rfl⟩
   ·exact⟨2,rfl⟩
   ·exact⟨5,rfl⟩
  obtain⟨acc,l',x6,g1,g2,g3,e⟩:=rows1 (md:=md) (mo:=mo) (bar:=bar) none h h0 hn;refine⟨_,?_,l',acc,some (.v (.int bar)),x6,none,g1,g2,g3,rfl⟩;have hsm:=small (k:=n) (by lia)
  have hm':md=1\/md=2\/md=3:=by simpa using hm
  simp[zI,hm',lim,eb,hsm];exact e
 ·refine⟨_,?_,l,[],none,none,none,h,PD.nil _,HS _,rfl⟩
  have hm':¬(md=1\/md=2\/md=3):=by simpa using hm
  simp[zI,hm',lim]
theorem step5(h:Sp n md mo 576 ρ):∃ρ',cW (br (vB (kF false) (aa 2) (vC (.int 4)))) (bw 4 (nh 1 [0] (bG wz (ai (vC (.int 1)) (af (aa 1)))) (ah 0) dB FZ)) bB ρ=some (.nx ρ')/\Sp n md mo 576 ρ':=by
 obtain⟨l,acc,x5,x6,x7,g1,g2,g3,rfl⟩:=h
 by_cases hm:md=4
 ·obtain⟨acc',l',x0,k1,k2,k3,e⟩:=comp2 g1 hn
  refine⟨_,?_,l',acc',x5,x6,x7,k1,k2,by lia,rfl⟩
  have hsm:=small (k:=n) (by lia)
  have hs1:=small (k:=1) (by lia)
  simp[hm,hsm,hs1,e]
 ·refine⟨_,?_,l,acc,x5,x6,x7,g1,g2,g3,rfl⟩
  simp[hm]
theorem step6(h:Sp n md mo 576 ρ):∃ρ',cW (qL (br (vB (kF false) (aa 2) (vC (.int 5)))) (br (vB ye (aa 1) (vC (.int 2))))) (bw 4 (vB bH (nh 1 [] (bG gw (af (vB ju (aa 1) (vC (.int 1))))) (ah 0) dB (cV (ai (aa 0) (af (vB bH (aa 0) (vC (.int 1))))))) (di (af (cV (ai (vC (.int 0)) (af (vB ju (aa 1) (vC (.int 1)))))))))) bB ρ=some (.nx ρ')/\Sp n md mo 576 ρ':=by
 obtain⟨l,acc,x5,x6,x7,g1,g2,g3,rfl⟩:=h
 by_cases hm:md=5
 ·by_cases h2:2<n
  ·obtain⟨acc',x0,k1,k2,e⟩:=zH (n:=n) (m:=n-1) (s:=1) (ft:=dB) (q:=λ_=>true) (by lia) (by lia) hn (λk _ _=>rfl)
   refine⟨_,?_,l,acc'++[.tuple [.int 0,.int (n-1)]],x5,x6,x7,g1,k1.app (PD.one (by lia) (by lia) (by lia)),by rw[Bz,Hm]; lia,rfl⟩
   have hsm:=small (k:=n-1) (by lia)
   have hlim:acc'.length+1<=1000000:=by lia
   simp[hm,h2,hsm,e,lim,hlim]
  ·refine⟨_,?_,l,acc,x5,x6,x7,g1,g2,g3,rfl⟩
   simp[hm,h2]
 ·refine⟨_,?_,l,acc,x5,x6,x7,g1,g2,g3,rfl⟩
  simp[hm]
theorem step7(h:Sp n md mo 576 ρ):∃ρ',cW (br (vB (kF false) (aa 2) (vC (.int 6)))) (aH (bw 4 (nh 1 [] (bG gw (af (vB ju (aa 1) (vC (.int 1))))) (ah 0) (br (vB DH (vB iS (aa 0) (vC (.int 3))) (vC (.int 2)))) (cV (ai (aa 0) (af (vB bH (aa 0) (vC (.int 1))))))))
 (bR (p8 4 (af (nh 1 [] (bG gw (af (vB ju (aa 1) (vC (.int 3))))) (ah 0) dB (cV (ai (aa 0) (af (vB bH (aa 0) (vC (.int 3))))))))))) bB ρ=some (.nx ρ')/\Sp n md mo 576 ρ':=by
 obtain⟨l,acc,x5,x6,x7,g1,g2,g3,rfl⟩:=h
 by_cases hm:md=6
 ·obtain⟨acc1,x0,k1,k2,e1⟩:=zH (n:=n) (m:=n-1) (s:=1) (ft:=br (vB DH (vB iS (aa 0) (vC (.int 3))) (vC (.int 2)))) (q:=λk=>decide (k % 3<2)) (by lia) (by lia) hn (λk _ _=>by simp)
  obtain⟨acc2,x1,j1,j2,e2⟩:=zH (n:=n) (m:=n-3) (s:=3) (ft:=dB) (q:=λ_=>true) (by lia) (by lia) hn (λk _ _=>rfl)
  refine⟨_,?_,l,acc1++acc2,x5,x6,x7,g1,k1.app j1,by rw[Bz]; lia,rfl⟩
  have hsm:=small (k:=n-1) (by lia)
  have hsm3:=small (k:=n-3) (by lia)
  have hlim:acc1.length+acc2.length<=1000000:=by lia
  simp[hm,hsm,hsm3,e1,e2,lim,hlim]
 ·refine⟨_,?_,l,acc,x5,x6,x7,g1,g2,g3,rfl⟩
  simp[hm]
noncomputable abbrev GC:FS:=aH (bw 6 (vB bH (vC (.int 1)) (dM FF.au (ai (aa 0) (af (vB ju (aa 1) (vC (.int 1))))))))
 (bR (jA 4 (af (cV (ai (dM FF.au (ai (aa 0) (af (aa 6)))) (af (aa 6)))))))
theorem step8(q0:0<=mo)(q1:mo<4)(h:Sp n md mo 576 ρ):∃ρ',fO (bG gw (af (vB mulM (aa 3) (fW iK (af (jt (vB ye (aa 2) (vC (.int 3))) (vB ye (aa 1) (vC (.int 1))))))))) (ah 7) GC ρ=some (.nx ρ')/\Sp n md mo 580 ρ':=by
 obtain⟨l,acc,x5,x6,x7,g1,g2,g3,rfl⟩:=h;have hmo : -18446744073709551616<mo/\mo<18446744073709551616:=by lia
 by_cases hc:3<md/\1<n
 ·obtain⟨ρ',e,l',acc',x6',x7',j1,j2,j3,rfl⟩:=cz (fg:=ah 7) (fb:=GC) (P:=λrest ρ=>∃ (l' acc':List B1) (x6' x7':Option M),Pt l'/\PD n acc'/\acc'.length+rest.length<=580/\ρ=[some (.lst l'),some (.v (.int n)),some (.v (.int md)),some (.v (.int mo)),some (.lst acc'),x5,x6',x7'])
   (bu 0 mo) _ ⟨l,acc,x6,x7,g1,g2,by rw[dG]; simp; lia,rfl⟩ (λd rest ρ hP=>by
    obtain⟨l',acc',x6',x7',j1,j2,j3,rfl⟩:=hP;rw[Bn] at j3;obtain⟨r,l2,r0,r1,hl2,et⟩:=take (m:=n-1) j1 (by lia) (by lia)
    obtain⟨r',l3,r0',r1',hl3,et'⟩:=take (m:=1+r) hl2 (by lia) (by lia)
    have hlim:acc'.length<1000000:=by lia
    refine⟨[some (.lst l'),some (.v (.int n)),some (.v (.int md)),some (.v (.int mo)),some (.lst acc'),x5,x6',some (.v d)],[some (.lst l3),some (.v (.int n)),some (.v (.int md)),some (.v (.int mo)),some (.lst (acc'++[.tuple [.int r',.int (1+r)]])),x5,some (.v (.int (1+r))),some (.v d)],by simp,?_,l3,_,_,_,hl3,j2.app (PD.one r0' r1' (by lia)),?_,rfl⟩
    ·simp[GC,et,et',lim,hlim]
    ·rw[Bz,Hm]; lia)
  refine⟨_,?_,l',acc',x5,x6',x7',j1,j2,by simpa using j3,rfl⟩
  have hsm:=small (k:=mo) (by lia)
  simp[hc.1,hc.2,hsm,hmo];exact e
 ·refine⟨_,?_,l,acc,x5,x6,x7,g1,g2,by lia,rfl⟩
  have hs0:=small (k:=0) (by lia)
  have er:bu 0 0=[]:=rfl
  by_cases h3:3<md
  ·have:¬1<n:=λz=>hc ⟨h3,z⟩
   simp[h3,this,hs0,hmo,er]
  ·simp[h3,hs0,hmo,er]
end
theorem pairs{l:List B1}{n:Nat}(h:Pt l)(hn:n<=24):∃ (l':List B1) (ts:List (Int×Int)),ts.length<=60/\GB (n:Int) ts/\(ts.map enc).Pairwise (λa b=>HT.lexLt a b=true)/\Pt l'/\FF.cu [.lst l,.v (.int (n:Int))]=some (.lst (ts.map pD),[.lst l',.v (.int (n:Int))]):=by
 obtain⟨md,l1,m0,m1,hl1,e1⟩:=take (m:=7) h (by decide) (by decide)
 obtain⟨mo,l2,o0,o1,hl2,e2⟩:=take (m:=4) hl1 (by decide) (by decide)
 have h0:0<=(n:Int):=by lia
 have h24:(n:Int)<=24:=by lia
 obtain⟨ρ4,e4,s4⟩:=step4 (mo:=mo) h0 h24 m0 m1 hl2;obtain⟨ρ5,e5,s5⟩:=step5 h0 h24 m0 m1 s4;obtain⟨ρ6,e6,s6⟩:=step6 h0 h24 m0 m1 s5;obtain⟨ρ7,e7,s7⟩:=step7 h0 h24 m0 m1 s6;obtain⟨ρ8,e8,s8⟩:=step8 h0 h24 m0 m1 o0 o1 s7;obtain⟨l',acc,x5,x6,x7,g1,⟨ts,rfl,g2⟩,g3,rfl⟩:=s8;rw[D1] at g3;obtain⟨us,u1,u2,u3⟩:=zG ts (by lia)
 have hcut:cutD (us.map pD) none (some 60)=(us.take 60).map pD:=by rw[show (60:Int)=((60:Nat):Int) from rfl,iA,Je]
 refine⟨l',us.take 60,by rw[Gc]; lia,λt ht=>g2 t ((u1 t).mp (IW ht)),?_,g1,cY (ρ:=[some (.lst l'),some (.v (.int (n:Int))),some (.v (.int md)),some (.v (.int mo)),some (.lst (ts.map pD)),x5,x6,x7]) rfl ?_ rfl⟩
 ·rw[Je]
  exact LX (N2 _ _) u2
 show FF.gh [some (.lst l),some (.v (.int (n:Int))),none,none,none,none,none,none]=_;refine(aG (ρ1:=[some (.lst l1),some (.v (.int (n:Int))),some (.v (.int md)),none,none,none,none,none]) (by simp[e1])).trans ?_
 refine(aG (ρ1:=[some (.lst l2),some (.v (.int (n:Int))),some (.v (.int md)),some (.v (.int mo)),none,none,none,none]) (by simp[e2])).trans ?_
 refine(aG (ρ1:=[some (.lst l2),some (.v (.int (n:Int))),some (.v (.int md)),some (.v (.int mo)),some (.lst []),none,none,none]) (by simp[lim])).trans ?_
 refine(aG e4).trans ?_;refine(aG e5).trans ?_;refine(aG e6).trans ?_;refine(aG e7).trans ?_;refine(aG e8).trans ?_;simp[u3,hcut]
end PS
end
section
open PySem L2 VL
end
section
namespace PQ
open PySem L2 VL PA
theorem ci:∀(ns:List Int),IK (ns.map .int)=true
 |[]=>rfl
 |n::ns=>by show (M5 (.int n) && IK (ns.map .int))=true; rw[ci ns]; rfl
theorem rP{ft:FT}{fe:FE}{cs:Ev}{p:Int->Bool}{f:Int->B1}:∀(ns:List Int)(acc:List B1)(x:Option M),(∀n∈ns,ft (some (.v (.int n))::cs)=some (p n,some (.v (.int n))::cs)/\∃o,fe (some (.v (.int n))::cs)=some (o,some (.v (.int n))::cs)/\cL o (some (.v (.int n))::cs)=some (f n,some (.v (.int n))::cs))->acc.length+ns.length<=lim ->
  ∃y,bz (ah 0) ft fe (ns.map .int) (x::cs) acc=some (acc++(ns.filter p).map f,y::cs):=by
 intro ns
 induction ns with
 |nil=>
  intro acc x _ _;exact⟨x,by simp[bz]⟩
 |cons n ns ih=>
  intro acc x h hl;obtain⟨e0,o,e1,e2⟩:=h n lS;rw[Bn] at hl;have hg:ah 0 (.int n) (x::cs)=some (some (.v (.int n))::cs):=by simp
  by_cases hp:p n=true
  ·obtain⟨y,e3⟩:=ih (acc++[f n]) (some (.v (.int n))) (λd hd=>h d (lO _ hd)) (by rw[Bz,Hm]; lia)
   refine⟨y,?_⟩;rw[Lu,if_pos hp,GM];show (ah 0 (.int n) (x::cs)).bind _=_;rw[hg];show (ft (some (.v (.int n))::cs)).bind _=_;rw[e0,hp];show (fe (some (.v (.int n))::cs)).bind _=_;rw[e1];show (cL o (some (.v (.int n))::cs)).bind _=_;rw[e2];show (if acc.length<lim then _ else _)=_
   rw[if_pos (by lia)]
   rw[show bz (ah 0) ft fe (ns.map .int) (some (.v (.int n))::cs) (acc++[f n])=_ from e3,GM,BM]
   rfl
  ·have hp':p n=false:=by simpa using hp
   obtain⟨y,e3⟩:=ih acc (some (.v (.int n))) (λd hd=>h d (lO _ hd)) (by lia)
   refine⟨y,?_⟩;rw[Lu,if_neg hp];show (ah 0 (.int n) (x::cs)).bind _=_;rw[hg];show (ft (some (.v (.int n))::cs)).bind _=_;rw[e0,hp'];exact e3
theorem eq_nil(neg:Bool)(ns:List Int):kF neg (.lst (ns.map .int)) (.lst [])=some (.v (.bool (if neg then !ns.isEmpty else ns.isEmpty))):=by
 rw[Ep];have ok:v9 (.list (ns.map .int)) (.list [])=true:=by
  unfold v9;rw[show M5 (.list (ns.map .int))=true from ci ns,show M5 (.list [])=true from rfl,decide_eq_true (show min (QQ (.list (ns.map .int))) (QQ (.list []))<=60 from JF (QJ _ _) (by decide))]
  rfl
 simp only[Br,Ib,ok,if_true];cases ns with
 |nil=>rfl
 |cons n ns=>rfl
theorem qf{ft:FT}{fe:FE}{cs:Ev}{p:Int×Int->Bool}{f:Int×Int->B1}:∀(ts:List (Int×Int))(acc:List B1)(x y:Option M),(∀t∈ts,ft (some (.v (.int t.1))::some (.v (.int t.2))::cs)=some (p t,some (.v (.int t.1))::some (.v (.int t.2))::cs)/\∃o,fe (some (.v (.int t.1))::some (.v (.int t.2))::cs)=some (o,some (.v (.int t.1))::some (.v (.int t.2))::cs)/\cL o (some (.v (.int t.1))::some (.v (.int t.2))::cs)=some (f t,some (.v (.int t.1))::some (.v (.int t.2))::cs))->acc.length+ts.length<=lim ->
  ∃x' y',bz (bS 2 (aD (ah 0) (aD (ah 1) bZ))) ft fe (ts.map pD) (x::y::cs) acc=some (acc++(ts.filter p).map f,x'::y'::cs):=by
 intro ts
 induction ts with
 |nil=>
  intro acc x y _ _;exact⟨x,y,by simp[bz]⟩
 |cons t ts ih=>
  intro acc x y h hl;obtain⟨e0,o,e1,e2⟩:=h t lS;rw[Bn] at hl;have hg:bS 2 (aD (ah 0) (aD (ah 1) bZ)) (pD t) (x::y::cs)=some (some (.v (.int t.1))::some (.v (.int t.2))::cs):=by simp
  by_cases hp:p t=true
  ·obtain⟨x',y',e3⟩:=ih (acc++[f t]) (some (.v (.int t.1))) (some (.v (.int t.2))) (λd hd=>h d (lO _ hd)) (by rw[Bz,Hm]; lia)
   refine⟨x',y',?_⟩;rw[Lu,if_pos hp,GM];show (bS 2 (aD (ah 0) (aD (ah 1) bZ)) (pD t) (x::y::cs)).bind _=_;rw[hg];show (ft _).bind _=_;rw[e0,hp];show (fe _).bind _=_;rw[e1];show (cL o _).bind _=_;rw[e2];show (if acc.length<lim then _ else _)=_
   rw[if_pos (by lia)]
   rw[show bz (bS 2 (aD (ah 0) (aD (ah 1) bZ))) ft fe (ts.map pD) (some (.v (.int t.1))::some (.v (.int t.2))::cs) (acc++[f t])=_ from e3,GM,BM]
   rfl
  ·have hp':p t=false:=by simpa using hp
   obtain⟨x',y',e3⟩:=ih acc (some (.v (.int t.1))) (some (.v (.int t.2))) (λd hd=>h d (lO _ hd)) (by lia)
   refine⟨x',y',?_⟩;rw[Lu,if_neg hp];show (bS 2 (aD (ah 0) (aD (ah 1) bZ)) (pD t) (x::y::cs)).bind _=_;rw[hg];show (ft _).bind _=_;rw[e0,hp'];exact e3
theorem qg(ns:List Int)(a:Int):((ns.map IF).any λd=>JL d (.int a))=decide (a∈ns):=by
 rw[OQ]
 induction ns with
 |nil=>simp
 |cons m ns ih=>
  rw[JN,ih];show ((m == a) || _)=_
  by_cases h:m=a
  ·simp[h]
  ·simp[h,K8 h]
theorem zJ(neg:Bool)(ns:List Int)(a:Int):iI neg (.v (.int a)) (.v (tI ns))=some (.v (.bool (if neg then !decide (a∈ns) else decide (a∈ns)))):=by
 show (if okIn (ns.map .int) (.int a)=true then some (M.v (.bool (if neg then !((ns.map IF).any λd=>JL d (.int a)) else (ns.map IF).any λd=>JL d (.int a)))) else none)=_
 rw[qg,if_pos];unfold okIn;rw[ci];rfl
end PQ
end
section
namespace PS
open PySem L2 VL PA PQ
structure Wb(ps:List Int)(ts:List (Int×Int)):Prop where
 rise:ps.Pairwise (· < ·)
 ends:∀t∈ts,t.1∈ps/\t.2∈ps/\t.1<t.2
 few:ts.length<=60
noncomputable abbrev Hl:FE:=cV (ai (gH (aa 2) (aa 0)) (af (gH (aa 2) (aa 1))))
theorem HB{l:List B1}{n:Nat}(h:Pt l)(hn:n<=24):∃ (l':List B1) (ps:List Int) (ts:List (Int×Int)),ps.length=n/\Wb ps ts/\Pt l'/\FF.cB [.lst l,.v (.int (n:Int))]=some (.v (wD ps ts),[.lst l',.v (.int (n:Int))]):=by
 obtain⟨l1,ps,hp,hr,_,hl1,e1⟩:=places h hn;obtain⟨l2,us,u1,u2,_,hl2,e2⟩:=pairs (n:=n) hl1 hn;have at1:∀{i:Int},0<=i->i<n->∃p:Int,ps[i.toNat]? = some p/\jO (ps.map IF) i=some (.int p):=λ{i}h0 h1=>by
  obtain⟨k,rfl⟩:=OS h0;have hk:k<ps.length:=by lia
  exact⟨ps[k],by simp[hk],pe (by simp[hk])⟩
 obtain⟨acc,ρ',e,us',ts,x0,x1,k1,k2,k3,k4,k5,rfl⟩:=gb (fg:=bS 2 (aD (ah 0) (aD (ah 1) bZ))) (ft:=dB) (fe:=Hl) (P:=λrest acc ρ=>∃ (us':List (Int×Int)) (ts:List (Int×Int)) (x0 x1:Option M),rest=us'.map pD/\GB (n:Int) us'/\acc=ts.map pD/\ts.length+us'.length<=60/\(∀t∈ts,t.1∈ps/\t.2∈ps/\t.1<t.2)/\ρ=[x0,x1,some (.lst (ps.map .int))])
  (us.map pD) [none,none,some (.lst (ps.map .int))] [] ⟨us,[],none,none,rfl,u2,rfl,by simpa using u1,λt ht=>(nomatch ht),rfl⟩ (λd rest acc ρ hP=>by
   obtain⟨us',ts,x0,x1,k1,k2,rfl,k4,k5,rfl⟩:=hP;cases us' with
   |nil=>cases k1
   |cons u us' =>
    obtain⟨rfl,rfl⟩:=JY k1;rw[Bn] at k4;have hu:=k2 u lS;obtain⟨a,a1,a2⟩:=at1 hu.1 (by lia)
    obtain⟨b,b1,b2⟩:=at1 (i:=u.2) (by lia) hu.2.2
    have hab:a<b:=by
     obtain⟨h1,e1⟩:=Da.mp a1;obtain⟨h2,e2⟩:=Da.mp b1;rw[<-e1,<-e2];exact IJ.mp hr _ _ h1 h2 (by lia)
    refine⟨by rw[D1]; unfold lim; lia,[some (.v (.int u.1)),some (.v (.int u.2)),some (.lst (ps.map .int))],true,[some (.v (.int u.1)),some (.v (.int u.2)),some (.lst (ps.map .int))],by simp,rfl,.inr ⟨rfl,.t (.v (pD (a,b))),[some (.v (.int u.1)),some (.v (.int u.2)),some (.lst (ps.map .int))],pD (a,b),_,by simp[Hl,a2,b2,lim],rfl,us',ts++[(a,b)],_,_,rfl,λt ht=>k2 t (lO _ ht),by rw[Iu]; rfl,by rw[Bz,Hm]; lia,λt ht=>?_,rfl⟩⟩
    rcases lM ht with ht | ht
    ·exact k5 t ht
    ·rw[Ch] at ht
     subst ht;exact⟨IE a1,IE b1,hab⟩)
 subst k3;have:us'=[]:=by cases us' with | nil=>rfl | cons _ _=>cases k1
 subst this;refine⟨l2,ps,ts,hp,⟨hr,k5,by simpa using k4⟩,hl2,cY (ρ:=[some (.lst l2),some (.v (.int (n:Int))),some (.lst (ps.map .int)),some (.lst (ts.map pD))]) rfl ?_ rfl⟩
 show FF.ic [some (.lst l),some (.v (.int (n:Int))),none,none]=_;refine(aG (ρ1:=[some (.lst l1),some (.v (.int (n:Int))),some (.lst (ps.map .int)),none]) (by simp[e1])).trans ?_
 refine(aG (ρ1:=[some (.lst l2),some (.v (.int (n:Int))),some (.lst (ps.map .int)),some (.lst (ts.map pD))]) (by simp[e2,e])).trans ?_
 simp[lim,tI]
noncomputable abbrev Ho:FS:=bR (yX 2 (ai (dM FF.au (ai (aa 0) (af (vB bH (fW jw (af (aa 2))) (vC (.int 1)))))) (af (aa 3))))
theorem turned{l:List B1}{ps:List Int}(h:Pt l)(hn:ps.length<=1000):∃ (l':List B1) (qs:List Int),qs.Perm ps/\Pt l'/\FF.bE [.lst l,.v (tI ps)]=some (.lst (qs.map .int),[.lst l',.v (tI ps)]):=by
 obtain⟨ρ',e,l',dn,rs,qs,x3,h1,h2,h3,h4,rfl⟩:=cz (fg:=ah 3) (fb:=Ho) (P:=λrest ρ=>∃ (l':List B1) (dn rs qs:List Int) (x3:Option M),rest=rs.map .int/\dn++rs=ps/\qs.Perm dn/\Pt l'/\ρ=[some (.lst l'),some (.v (tI ps)),some (.lst (qs.map .int)),x3])
  (ps.map .int) [some (.lst l),some (.v (tI ps)),some (.lst []),none] ⟨l,[],ps,[],none,rfl,rfl,.nil,h,rfl⟩ (λd rest ρ hP=>by
   obtain⟨l',dn,rs,qs,x3,h1,h2,h3,h4,rfl⟩:=hP;cases rs with
   |nil=>cases h1
   |cons r rs=>
    obtain⟨rfl,rfl⟩:=JY h1;have hlen:dn.length+(rs.length+1)=ps.length:=by rw[<-h2,Bz,Bn]
    have hq:=h3.length_eq;obtain⟨k,l2,k0,k1,hl2,e⟩:=take (m:=(qs.length:Int)+1) h4 (by lia) (by lia)
    refine⟨[some (.lst l'),some (.v (tI ps)),some (.lst (qs.map .int)),some (.v (.int r))],[some (.lst l2),some (.v (tI ps)),some (.lst ((qs.take k.toNat++r::qs.drop k.toNat).map .int)),some (.v (.int r))],by simp,?_,l2,dn++[r],rs,_,_,rfl,by rw[BM]; exact h2,?_,hl2,rfl⟩
    ·have hc:k<=(qs.length:Int):=by lia
     have hlim:qs.length<1000000:=by lia
     simp[Ho,e,k0,hc,hlim,lim,Je,Kf]
    ·refine List.perm_middle.trans ?_
     rw[FV];exact(List.Perm.cons r h3).trans (JB (l₁:=[r]) (l₂:=dn)))
 have:rs=[]:=by cases rs with | nil=>rfl | cons _ _=>cases h1
 subst this;rw[FB] at h2;subst h2;refine⟨l',qs,h3,h4,cY (ρ:=[some (.lst l'),some (.v (tI dn)),none,x3]) rfl ?_ rfl⟩;show FF.fH [some (.lst l),some (.v (tI dn)),none,none]=_;refine(aG (ρ1:=[some (.lst l),some (.v (tI dn)),some (.lst []),none]) (by simp[lim])).trans ?_
 refine(aG (ρ1:=[some (.lst l'),some (.v (tI dn)),some (.lst (qs.map .int)),x3]) ?_).trans (by simp)
 simp[tI];exact e
end PS
end
section
namespace PN
open PySem L2 VL PA
theorem oV{fg:FG}{ft:FT}{fk fv:FE}{P:List B1->M->Ev->Prop}:∀(ds:List B1)(ρ:Ev)(acc:M),P ds acc ρ ->
  (∀d ds acc ρ,P (d::ds) acc ρ->∃ρ1 ρ2 kd k ρ3 o ρ4 acc' ρ5,fg d ρ=some ρ1/\ft ρ1=some (true,ρ2)/\fk ρ2=some (.t (.v kd),ρ3)/\eZ kd=some k/\fv ρ3=some (o,ρ4)/\yK k acc o ρ4=some (acc',ρ5)/\P ds acc' ρ5)->∃acc' ρ',kC fg ft fk fv ds ρ acc=some (acc',ρ')/\P [] acc' ρ':=by
 intro ds
 induction ds with
 |nil=>
  intro ρ acc h _;exact⟨acc,ρ,rfl,h⟩
 |cons d ds ih=>
  intro ρ acc h step;obtain⟨ρ1,ρ2,kd,k,ρ3,o,ρ4,acc1,ρ5,e1,e2,e3,e4,e5,e6,h2⟩:=step d ds acc ρ h;obtain⟨acc',ρ',e7,h7⟩:=ih ρ5 acc1 h2 step;refine⟨acc',ρ',?_,h7⟩;show (fg d ρ).bind _=_;rw[e1];show (ft ρ1).bind _=_;rw[e2];show (fk ρ2).bind _=_;rw[e3];show (eZ kd).bind _=_;rw[e4];show (fv ρ3).bind _=_;rw[e5];show (yK k acc o ρ4).bind _=_;rw[e6];exact e7
noncomputable def dl(ps:List Int)(φ:Int->List Int):List (Key×List B1):=ps.map λp=>(.inl p,(φ p).map .int)
noncomputable def dd(ps:List Int)(φ:Int->List Int):List (Key×B1):=ps.map λp=>(.inl p,tI (φ p))
theorem eX{α:Type}(f:Int->α):∀{ps:List Int}{p:Int},p∈ps->cg (ps.map λp=>((.inl p:Key),f p)) (.inl p)=some (f p)
 |[],p,h=>by cases h
 |q::ps,p,h=>by
  unfold cg;rw[GM,JE]
  by_cases e:q=p
  ·subst e; simp
  ·have hm:p∈ps:=by
    rcases lK h with h | h
    ·exact absurd h.symm e
    ·exact h
   have:decide ((Kr q:Key)=.inl p)=false:=decide_eq_false λz=>e (Ly z)
   simp only[this];exact eX f hm
theorem BR(ps:List Int)(φ:Int->List Int)(a b:Int):putL (dl ps φ) (.inl a) (.int b)=dl ps (λp=>if p=a then φ p++[b] else φ p):=by
 unfold putL dl;rw[Iy];refine JU λp _=>?_
 by_cases e:p=a
 ·subst e; simp
 ·have:¬ (Kr p:Key)=.inl a:=λz=>e (Ly z)
  simp[e,this]
theorem qh{α:Type}(f:Int->α)(ps:List Int)(p:Int):((ps.map λp=>((.inl p:Key),f p)).any λkv=>decide (kv.1=.inl p))=decide (p∈ps):=by
 rw[OQ]
 induction ps with
 |nil=>simp
 |cons q ps ih=>
  rw[JN,ih]
  by_cases e:q=p
  ·subst e; simp
  ·have:¬ (Kr q:Key)=.inl p:=λz=>e (Ly z)
   have e':¬p=q:=λz=>e z.symm
   simp[this,e']
theorem BS{α:Type}(f:Int->α){ps:List Int}(h:ps.Nodup):((ps.map λp=>((.inl p:Key),f p)).map (·.1)).Nodup:=by
 rw[Iy];refine N4.mpr (h.imp λ{a b}hab z=>hab (Ly z))
noncomputable def nb(ts:List (Int×Int))(p:Int):List Int:=ts.flatMap λt=>(if p=t.1 then [t.2] else [])++(if p=t.2 then [t.1] else [])
theorem BU(ts:List (Int×Int))(t:Int×Int)(p:Int):nb (ts++[t]) p=nb ts p++((if p=t.1 then [t.2] else [])++(if p=t.2 then [t.1] else [])):=by
 unfold nb;rw[List.flatMap_append];simp
theorem tV{ts:List (Int×Int)}(h:∀t∈ts,t.1<t.2)(p:Int):(nb ts p).length<=ts.length:=by
 induction ts with
 |nil=>exact Db _
 |cons t ts ih=>
  have h1:=ih λu hu=>h u (lO _ hu)
  have h2:=h t lS;have e:nb (t::ts) p=((if p=t.1 then [t.2] else [])++(if p=t.2 then [t.1] else []))++nb ts p:=by
   unfold nb; rw[Ps]
  rw[e,Bz,Bn];have:((if p=t.1 then [t.2] else [])++(if p=t.2 then [t.1] else [])).length<=1:=by
   by_cases a:p=t.1
   ·rw[if_pos a,if_neg (by lia)]; simp
   ·rw[if_neg a]; split <;> simp
  lia
theorem EJ{ts:List (Int×Int)}{p q:Int}:q∈nb ts p↔(p,q)∈ts\/(q,p)∈ts:=by
 unfold nb;rw[Q3];constructor
 ·rintro⟨t,ht,hq⟩
  rcases lM hq with hq | hq
  ·split at hq
   ·next e=>rw[Ch] at hq; rw[e,hq]; exact .inl ht
   ·cases hq
  ·split at hq
   ·next e=>rw[Ch] at hq; rw[e,hq]; exact .inr ht
   ·cases hq
 ·rintro (h | h)
  ·exact⟨_,h,lL _ (by simp)⟩
  ·exact⟨_,h,lR _ (by simp)⟩
noncomputable abbrev HC:FS:=aH (bR (mq 3 (fC 4) (fC 5))) (bR (mq 3 (fC 5) (fC 4)))
theorem appQ{ρ:Ev}{i:Nat}{ps:List Int}{φ:Int->List Int}{a b:Int}{fk fd:Ev->Option B1}(h3:ck ρ i=some (.bM (dl ps φ)))(ha:fk ρ=some (.int a))(hb:fd ρ=some (.int b))(hm:a∈ps)(hl:(φ a).length<1000)(nd:ps.Nodup):mq i fk fd ρ=some (.t (.v .none),ρ.set i (some (.bM (dl ps λp=>if p=a then φ p++[b] else φ p)))):=by
 show (ck ρ i).bind _=_;rw[h3];show (fk ρ).bind _=_;rw[ha];show (cg (dl ps φ) (.inl a)).bind _=_;rw[show cg (dl ps φ) (.inl a)=some ((φ a).map .int) from eX _ hm]
 show (fd ρ).bind _=_;rw[hb];show (if _/\_ then _ else _)=_
 rw[if_pos ⟨by rw[D1]; unfold lim; lia,BS _ nd⟩,BR]
theorem nears{ps:List Int}{ts:List (Int×Int)}(nd:ps.Nodup)(he:∀t∈ts,t.1∈ps/\t.2∈ps/\t.1<t.2)(hp:ps.length<=1000)(ht:ts.length<=63):FF.eW [.v (wD ps ts)]=some (.aL (dd ps λp=>sortI (nb ts p)),[.v (wD ps ts)]):=by
 obtain⟨acc1,ρ1,c1,dn1,rs1,x1,a1,a2,a3,rfl⟩:=oV (fg:=ah 0) (ft:=dB) (fk:=aa 0) (fv:=di gT) (P:=λrest acc ρ=>∃ (dn rs:List Int) (x:Option M),rest=rs.map .int/\dn++rs=ps/\acc=.bM (dl dn λ_=>[])/\ρ=[x]) (ps.map .int) [none] (.bM []) ⟨[],ps,none,rfl,rfl,rfl,rfl⟩ (λd rest acc ρ hP=>by
  obtain⟨dn,rs,x,h1,h2,rfl,rfl⟩:=hP;cases rs with
  |nil=>cases h1
  |cons r rs=>
   obtain⟨rfl,rfl⟩:=JY h1;have hr:r∉dn:=λz=>by
    rw[<-h2,FM] at nd;exact nd.2.2 r z r lS rfl
   have hlen:dn.length+(rs.length+1)=ps.length:=by rw[<-h2,Bz,Bn]
   refine⟨[some (.v (.int r))],[some (.v (.int r))],.int r,.inl r,[some (.v (.int r))],.t (.lst []),[some (.v (.int r))],.bM (dl (dn++[r]) λ_=>[]),[some (.v (.int r))],by simp,rfl,by simp,rfl,by simp[lim],?_,dn++[r],rs,_,rfl,by rw[BM]; exact h2,rfl,rfl⟩
   show (if _/\_ then _ else _)=_
   rw[if_pos ⟨by rw[show dl dn (λ_=>[])=dn.map λp=>((.inl p:Key),(([]:List Int).map IF)) from rfl,qh]; exact decide_eq_false hr,by unfold dl; rw[D1]; unfold lim; lia⟩]
   unfold dl;rw[Iu];rfl)
 have:rs1=[]:=by cases rs1 with | nil=>rfl | cons _ _=>cases a1
 subst this;rw[FB] at a2;subst a2;subst a3;obtain⟨ρ2,c2,dn,rs,x4,x5,b1,b2,rfl⟩:=cz (fg:=bS 2 (aD (ah 4) (aD (ah 5) bZ))) (fb:=HC) (P:=λrest ρ=>∃ (dn rs:List (Int×Int)) (x4 x5:Option M),rest=rs.map pD/\dn++rs=ts/\ρ=[some (.v (wD dn1 ts)),some (.v (tI dn1)),some (.v (tD ts)),some (.bM (dl dn1 (nb dn))),x4,x5])
  (ts.map pD) [some (.v (wD dn1 ts)),some (.v (tI dn1)),some (.v (tD ts)),some (.bM (dl dn1 λ_=>[])),none,none] ⟨[],ts,none,none,rfl,rfl,rfl⟩ (λd rest ρ hP=>by
   obtain⟨dn,rs,x4,x5,h1,h2,rfl⟩:=hP;cases rs with
   |nil=>cases h1
   |cons t rs=>
    obtain⟨rfl,rfl⟩:=JY h1;have hlen:dn.length+(rs.length+1)=ts.length:=by rw[<-h2,Bz,Bn]
    have hte:=he t (by rw[<-h2]; simp)
    have hdn:∀u∈dn,u.1<u.2:=λu hu=>(he u (by rw[<-h2]; exact lL _ hu)).2.2
    have n1:=tV hdn;refine⟨[some (.v (wD dn1 ts)),some (.v (tI dn1)),some (.v (tD ts)),some (.bM (dl dn1 (nb dn))),some (.v (.int t.1)),some (.v (.int t.2))],[some (.v (wD dn1 ts)),some (.v (tI dn1)),some (.v (tD ts)),some (.bM (dl dn1 (nb (dn++[t])))),some (.v (.int t.1)),some (.v (.int t.2))],by simp,?_,dn++[t],rs,_,_,rfl,by rw[BM]; exact h2,rfl⟩
    have q1:=appQ (ρ:=[some (.v (wD dn1 ts)),some (.v (tI dn1)),some (.v (tD ts)),some (.bM (dl dn1 (nb dn))),some (.v (.int t.1)),some (.v (.int t.2))]) (i:=3) (fk:=fC 4) (fd:=fC 5) rfl rfl rfl hte.1 (by have:=n1 t.1; lia) nd
    have q2:=appQ (ρ:=[some (.v (wD dn1 ts)),some (.v (tI dn1)),some (.v (tD ts)),some (.bM (dl dn1 λp=>if p=t.1 then nb dn p++[t.2] else nb dn p)),some (.v (.int t.1)),some (.v (.int t.2))]) (i:=3) (fk:=fC 5) (fd:=fC 4) rfl rfl rfl hte.2.1 (by
     have:=n1 t.2;rw[if_neg (by lia)]
     lia) nd
    have hφ:(λp=>if p=t.2 then (if p=t.1 then nb dn p++[t.2] else nb dn p)++[t.1] else (if p=t.1 then nb dn p++[t.2] else nb dn p))=nb (dn++[t]):=by
     funext p
     rw[BU];have hlt:=hte.2.2
     by_cases e1:p=t.1
     ·have e2:¬p=t.2:=by lia
      rw[if_neg e2,if_pos e1,if_pos e1,if_neg e2,FB]
     ·by_cases e2:p=t.2
      ·rw[if_pos e2,if_neg e1,if_neg e1,if_pos e2,IT]
      ·rw[if_neg e2,if_neg e1,if_neg e1,if_neg e2,FB,FB]
    rw[hφ] at q2;show aH _ _ _=_;refine(aG (ρ1:=[some (.v (wD dn1 ts)),some (.v (tI dn1)),some (.v (tD ts)),some (.bM (dl dn1 λp=>if p=t.1 then nb dn p++[t.2] else nb dn p)),some (.v (.int t.1)),some (.v (.int t.2))]) ?_).trans ?_
    ·rw[qX,q1]; rfl
    ·rw[qX,q2]; rfl)
 have:rs=[]:=by cases rs with | nil=>rfl | cons _ _=>cases b1
 subst this;rw[FB] at b2;subst b2;obtain⟨acc3,ρ3,c3,dn3,rs3,x3,d1,d2,d3,rfl⟩:=oV (fg:=ah 0) (ft:=dB) (fk:=aa 0) (fv:=fW jx (af (fW qR (af (gH (aa 1) (aa 0)))))) (P:=λrest acc ρ=>∃ (dn3 rs:List Int) (x:Option M),rest=rs.map .int/\dn3++rs=dn1/\acc=.aL (dd dn3 λp=>sortI (nb dn p))/\ρ=[x,some (.bM (dl dn1 (nb dn)))]) (dn1.map .int) [none,some (.bM (dl dn1 (nb dn)))] (.aL []) ⟨[],dn1,none,rfl,rfl,rfl,rfl⟩ (λd rest acc ρ hP=>by
  obtain⟨dn3,rs,x,h1,h2,rfl,rfl⟩:=hP;cases rs with
  |nil=>cases h1
  |cons r rs=>
   obtain⟨rfl,rfl⟩:=JY h1;have hr:r∉dn3:=λz=>by
    rw[<-h2,FM] at nd;exact nd.2.2 r z r lS rfl
   have hrm:r∈dn1:=by rw[<-h2]; simp
   have hlen:dn3.length+(rs.length+1)=dn1.length:=by rw[<-h2,Bz,Bn]
   have hn:=tV (λu hu=>(he u hu).2.2) r
   have hk:cg (dl dn1 (nb dn)) (.inl r)=some ((nb dn r).map .int):=eX _ hrm;have hsort:qR [.lst ((nb dn r).map .int)]=some (.lst ((sortI (nb dn r)).map .int)):=by
    show (uE ((nb dn r).map .int)).bind _=_;unfold uE;rw[if_pos (by rw[D1]; lia),fX]
    rfl
   refine⟨[some (.v (.int r)),some (.bM (dl dn1 (nb dn)))],[some (.v (.int r)),some (.bM (dl dn1 (nb dn)))],.int r,.inl r,[some (.v (.int r)),some (.bM (dl dn1 (nb dn)))],.t (.v (tI (sortI (nb dn r)))),[some (.v (.int r)),some (.bM (dl dn1 (nb dn)))],.aL (dd (dn3++[r]) λp=>sortI (nb dn p)),[some (.v (.int r)),some (.bM (dl dn1 (nb dn)))],by simp,rfl,by simp,rfl,?_,?_,dn3++[r],rs,_,rfl,by rw[BM]; exact h2,rfl,rfl⟩
   ·have hpk:peek [some (.v (.int r)),some (.bM (dl dn1 (nb dn)))] (.q 1 (.inl r))=some (.lst ((nb dn r).map .int)):=by
     show (cg (dl dn1 (nb dn)) (.inl r)).map M.lst=_;rw[hk]; rfl
    simp[hk,hpk,hsort,tI]
   ·show (if _ then _ else _)=_
    rw[if_pos (by unfold dd; rw[D1]; unfold lim; lia)]
    show some (M.aL (putD (dd dn3 λp=>sortI (nb dn p)) (.inl r) (tI (sortI (nb dn r)))),_)=_
    unfold putD;rw[if_neg (by rw[show dd dn3 (λp=>sortI (nb dn p))=dn3.map λp=>((.inl p:Key),tI (sortI (nb dn p))) from rfl,qh]; simpa using hr)]
    unfold dd;rw[Iu];rfl)
 have:rs3=[]:=by cases rs3 with | nil=>rfl | cons _ _=>cases d1
 subst this;rw[FB] at d2;subst d2;subst d3;refine cY (ρ:=[some (.v (wD dn3 dn)),some (.v (tI dn3)),some (.v (tD dn)),some (.bM (dl dn3 (nb dn))),x4,x5]) rfl ?_ rfl;show FF.jK [some (.v (wD dn3 dn)),none,none,none,none,none]=_;refine(aG (ρ1:=[some (.v (wD dn3 dn)),some (.v (tI dn3)),some (.v (tD dn)),none,none,none]) (by simp)).trans ?_
 refine(aG (ρ1:=[some (.v (wD dn3 dn)),some (.v (tI dn3)),some (.v (tD dn)),some (.bM (dl dn3 λ_=>[])),none,none]) (by simp[tI,c1])).trans ?_
 refine(aG (ρ1:=[some (.v (wD dn3 dn)),some (.v (tI dn3)),some (.v (tD dn)),some (.bM (dl dn3 (nb dn))),x4,x5]) (by simp[tI]; simpa[tI] using c2)).trans ?_
 simp[tI,c3]
end PN
end
section
open PySem L2 VL
end
section
namespace PA
open PySem L2 VL
theorem mZ:∀bs:List Bool,sX (bs.map .bool)=some bs
 |[]=>rfl
 |b::bs=>by show (some b).bind _=_; rw[Ib,mZ bs]; rfl
theorem wV{α:Type}{u v:α->B1}{fe:FE}{cs:Ev}{f:α->B1}:∀(ts:List α)(acc:List B1)(x y:Option M),(∀t∈ts,∃o,fe (some (.v (u t))::some (.v (v t))::cs)=some (o,some (.v (u t))::some (.v (v t))::cs)/\cL o (some (.v (u t))::some (.v (v t))::cs)=some (f t,some (.v (u t))::some (.v (v t))::cs))->acc.length+ts.length<=lim ->
  ∃x' y',bz (bS 2 (aD (ah 0) (aD (ah 1) bZ))) dB fe (ts.map λt=>.tuple [u t,v t]) (x::y::cs) acc=some (acc++ts.map f,x'::y'::cs):=by
 intro ts
 induction ts with
 |nil=>
  intro acc x y _ _;exact⟨x,y,by simp[bz]⟩
 |cons t ts ih=>
  intro acc x y h hl;obtain⟨o,e1,e2⟩:=h t lS;rw[Bn] at hl;obtain⟨x',y',e3⟩:=ih (acc++[f t]) (some (.v (u t))) (some (.v (v t))) (λd hd=>h d (lO _ hd)) (by rw[Bz,Hm]; lia)
  refine⟨x',y',?_⟩;have hg:bS 2 (aD (ah 0) (aD (ah 1) bZ)) (.tuple [u t,v t]) (x::y::cs)=some (some (.v (u t))::some (.v (v t))::cs):=by simp
  show (bS 2 (aD (ah 0) (aD (ah 1) bZ)) (.tuple [u t,v t]) (x::y::cs)).bind _=_;rw[hg];show (fe _).bind _=_;rw[e1];show (cL o _).bind _=_;rw[e2];show (if acc.length<lim then _ else _)=_
  rw[if_pos (by lia)]
  refine Eq.trans e3 ?_;rw[GM,BM];rfl
theorem zK(ds:List B1):yF [.v (.tuple ds),.v (.tuple ds)]=some (ds.map λd=>.tuple [d,d]):=by
 show some (Mz _ ds ds)=_
 congr 1
 induction ds with
 |nil=>rfl
 |cons d ds ih=>rw[List.zipWith_cons_cons,ih,GM]
theorem all_true(ds:List B1):allM false [.lst (ds.map λ_=>.bool true)]=some (.v (.bool true)):=by
 have h:=mZ (ds.map λ_=>true)
 rw[Iy] at h;show (sX _).bind _=_;rw[show sX (ds.map λ_=>Qj true)=_ from h,Ib]
 congr 3
 show (ds.map λ_=>true).all id=true
 rw[OR];exact Kz.mpr λ_ _=>rfl
end PA
end
section
namespace PS
open PySem L2 VL PA PQ PN
section
variable{ps:List Int}{φ:Int->List Int}
theorem ve(ns:List Int):mH 0 [.v (tI ns)]=some (.v (.int ((j8 ns).getD 0))):=by
 show (uS 0 (ns.map .int))=_;unfold uS;rw[fX];rfl
noncomputable def nl(ts:List (Int×Int))(p:Int):List Int:=(ts.filter λt=>decide (p∈[t.1,t.2])).map λt=>t.1+t.2-p
theorem zL{ts:List (Int×Int)}{p q:Int}:q∈nl ts p↔(p,q)∈ts\/(q,p)∈ts:=by
 unfold nl;rw[IL];constructor
 ·rintro⟨t,ht,rfl⟩
  obtain⟨h1,h2⟩:=Jl.mp ht;have h2:p=t.1\/p=t.2:=by simpa using h2
  rcases h2 with h2 | h2
  ·left; rw[show t.1+t.2-p=t.2 by lia,h2]; exact h1
  ·right; rw[show t.1+t.2-p=t.1 by lia,h2]; exact h1
 ·rintro (h | h)
  ·exact⟨(p,q),Jl.mpr ⟨h,by simp⟩,by show p+q-p=q; lia⟩
  ·exact⟨(q,p),Jl.mpr ⟨h,by simp⟩,by show q+p-p=q; lia⟩
theorem near{ts:List (Int×Int)}(p:Int)(ht:ts.length<=1000):FF.bV [.v (wD ps ts),.v (.int p)]=some (.lst ((nl ts p).map .int),[.v (wD ps ts),.v (.int p)]):=by
 obtain⟨x,y,e⟩:=qf (ft:=br (vB (iI false) (aa 2) (cV (ai (aa 0) (af (aa 1)))))) (fe:=vB ju (vB bH (aa 0) (aa 1)) (aa 2)) (cs:=[some (.v (.int p))]) (p:=λt=>decide (p∈[t.1,t.2])) (f:=λt=>.int (t.1+t.2-p)) ts [] none none (λt _=>by
  have:=kP false [t.1,t.2] p;refine⟨?_,.t (.v (.int (t.1+t.2-p))),by simp,rfl⟩
  simp at this;simp[lim,this]) (by simp; unfold lim; lia)
 rw[IT] at e;refine cY (ρ:=[some (.v (wD ps ts)),some (.v (.int p))]) rfl ?_ rfl;show FF.dW [some (.v (wD ps ts)),some (.v (.int p))]=_;simp[FF.dW,jO,ud,e,nl,Iy]
end
@[simp] theorem mulR_eq{ds:List B1}{k:Int}:mulR (.lst ds) (.v (.int k))=if 0<=k/\k<=1000/\ds.length*k.toNat<=lim then some (.lst (wR ds k.toNat)) else none:=rfl
section
variable{ps:List Int}{ts:List (Int×Int)}
theorem zM(ds:List B1)(k:Nat)(h:k<=ds.length):cutD ds (some (k:Int)) none=ds.drop k:=by
 unfold cutD;rw[HT.qu,HT.ua,Np h,Ix];rw[HI]; lia
end
theorem wW{fc:FT}{fb:FS}{P:Nat->Ev->Prop}{Q:Ev->Prop}(step:∀m ρ,P m ρ->(∃ρ1,fc ρ=some (false,ρ1)/\Q ρ1)\/∃ρ1 ρ2 m',fc ρ=some (true,ρ1)/\fb ρ1=some (.nx ρ2)/\m'<m/\P m' ρ2) :
  ∀(N n:Nat)(ρ:Ev),P n ρ->n<N->∃ρ',iU fc fb N ρ=some (.nx ρ')/\Q ρ':=by
 intro N
 induction N with
 |zero=>
  intro n ρ _ h;exact absurd h (LB _)
 |succ N ih=>
  intro n ρ hP h;rcases step n ρ hP with⟨ρ1,e1,q⟩ | ⟨ρ1,ρ2,m',e1,e2,hm,h2⟩
  ·refine⟨ρ1,?_,q⟩
   show (fc ρ).bind _=_;rw[e1];rfl
  ·obtain⟨ρ',e3,q⟩:=ih m' ρ2 h2 (by lia)
   refine⟨ρ',?_,q⟩;show (fc ρ).bind _=_;rw[e1,Ib];show (if true=true then _ else _)=_
   rw[if_pos rfl,e2];exact e3
theorem nc{fc:FT}{fb:FS}{P:Nat->Ev->Prop}{Q:Ev->Prop}(step:∀m ρ,P m ρ->(∃ρ1,fc ρ=some (false,ρ1)/\Q ρ1)\/∃ρ1 ρ2 m',fc ρ=some (true,ρ1)/\fb ρ1=some (.nx ρ2)/\m'<m/\P m' ρ2)
  (N n:Nat) (ρ:Ev) (h:P n ρ) (hn:n<N):∃ρ',gx N fc fb ρ=some (.nx ρ')/\Q ρ':=wW step N n ρ h hn
def ni(ts:List (Int×Int))(p q:Int):Prop:=(p,q)∈ts\/(q,p)∈ts
inductive vf(ts:List (Int×Int))(fs:List Int)(p:Int):Int->Prop
 |base:vf ts fs p p
 |step {q r:Int}:vf ts fs p q->ni ts q r->r∈fs->vf ts fs p r
theorem vf.or{ts:List (Int×Int)}{fs:List Int}{p q:Int}(h:vf ts fs p q):q=p\/q∈fs:=by
 cases h with
 |base=>exact .inl rfl
 |step _ _ h=>exact .inr h
noncomputable def gd(g:Int->Int)(W:List Int):List (Key×B1):=W.map λx=>(.inl x,.int (g x))
theorem BV(g:Int->Int)(W:List Int){r:Int}(v:Int)(h:r∉W):putD (gd g W) (.inl r) (.int v)=gd (λx=>if x=r then v else g x) (W++[r]):=by
 unfold putD gd;rw[if_neg (by rw[qh]; simpa using h),Iu]
 congr 1
 ·refine JU λx hx=>?_
  have:x≠r:=λe=>h (e▸hx)
  simp[this]
 ·simp
theorem BW(g:Int->Int)(W:List Int)(r:Int):(cg (gd g W) (.inl r)).isSome=decide (r∈W):=by
 by_cases h:r∈W
 ·rw[show cg (gd g W) (.inl r)=some (.int (g r)) from eX _ h]
  simp[h]
 ·have:cg (gd g W) (.inl r)=none:=by
   unfold cg gd;rw[Option.map_eq_none_iff,PV];intro x hx;obtain⟨y,hy,rfl⟩:=IL.mp hx;have:y≠r:=λe=>h (e▸hy)
   simpa using this
  rw[this];simp[h]
theorem len_sub:∀{l m:List Int},l.Nodup->(∀x∈l,x∈m)->l.length<=m.length
 |[],m,_,_=>HS _
 |a::l,m,h,s=>by
  have h':=Ha.mp h;have ha:=s a lS;have:=len_sub (l:=l) (m:=m.erase a) h'.2 λx hx=>(List.mem_erase_of_ne (λe:x=a=>h'.1 (e▸hx))).mpr (s x (lO _ hx))
  rw[List.length_erase_of_mem ha] at this;have:=List.length_pos_of_mem ha;rw[Bn];lia
section
variable{ps fs:List Int}{ts:List (Int×Int)}{p:Int}{φ:Int->List Int}
noncomputable abbrev E7:FS:=cW (qL (br (vB (iI false) (aa 7) (aa 1))) (br (vB (iI true) (aa 7) (aa 3)))) (aH (pU 3 (aa 7) (vB bH (gH (aa 3) (aa 6)) (vC (.int 1)))) (bR (jA 4 (af (aa 7))))) bB
noncomputable abbrev HD:FS:=aH (bw 6 (gH (aa 4) (aa 5)))
 (aH (yx 5 (iB (λ_ _=>true) λi j=>.int (i+j)) (vC (.int 1)))
 (fO (cD (gH (aa 0) (aa 6))) (ah 7) E7))
theorem in_gd(g:Int->Int)(W:List Int)(r:Int):iI true (.v (.int r)) (.aL (gd g W))=some (.v (.bool (!decide (r∈W)))):=by
 have h:iI true (.v (.int r)) (.aL (gd g W))=some (.v (.bool (!(cg (gd g W) (.inl r)).isSome))):=rfl;rw[h,BW]
structure Gd(ts:List (Int×Int))(fs:List Int)(p:Int)(W:List Int):Prop where
 nd:W.Nodup
 rc:∀x∈W,vf ts fs p x
 st:p∈W
theorem Gd.len{W:List Int}(h:Gd ts fs p W)(hp:p∈fs):W.length<=fs.length:=len_sub h.nd λx hx=>(h.rc x hx).or.elim (λe=>e▸hp) id
theorem sf_in{W0:List Int}{g0:Int->Int}{a1 c:Int}{B:M}{x7:Option M}(hφ:∀q r,r∈φ q↔ni ts q r)(hp:p∈fs)(hf:fs.length<=1000)(h0:Gd ts fs p W0)(hc:c∈W0):∃ (W:List Int) (g:Int->Int) (x7':Option M),
  Gd ts fs p W/\(∃m,W=W0++m)/\(∀d,ni ts c d->d∈fs->d∈W)/\forL (ah 7) E7 ((φ c).map .int) [some B,some (.v (tI fs)),some (.v (.int p)),some (.aL (gd g0 W0)),some (.lst (W0.map .int)),some (.v (.int a1)),some (.v (.int c)),x7]=some (.nx [some B,some (.v (tI fs)),some (.v (.int p)),some (.aL (gd g W)),some (.lst (W.map .int)),some (.v (.int a1)),some (.v (.int c)),x7']):=by
 obtain⟨ρ',e,dn,rs,g,W,y7,h1,h2,h3,h4,h5,rfl⟩:=cz (fg:=ah 7) (fb:=E7) (P:=λrest ρ=>∃ (dn rs:List Int) (g:Int->Int) (W:List Int) (y7:Option M),rest=rs.map .int/\dn++rs=φ c/\Gd ts fs p W/\(∃m,W=W0++m)/\(∀d∈dn,d∈fs->d∈W)/\ρ=[some B,some (.v (tI fs)),some (.v (.int p)),some (.aL (gd g W)),some (.lst (W.map .int)),some (.v (.int a1)),some (.v (.int c)),y7])
  ((φ c).map .int) [some B,some (.v (tI fs)),some (.v (.int p)),some (.aL (gd g0 W0)),some (.lst (W0.map .int)),some (.v (.int a1)),some (.v (.int c)),x7] ⟨[],φ c,g0,W0,x7,rfl,rfl,h0,⟨[],(FB _).symm⟩,λd hd=>(nomatch hd),rfl⟩ (λd rest ρ hP=>by
   obtain⟨dn,rs,g,W,y7,h1,h2,h3,⟨m,h4⟩,h5,rfl⟩:=hP;cases rs with
   |nil=>cases h1
   |cons r rs=>
    obtain⟨rfl,rfl⟩:=JY h1;have i1:=zJ false fs r;have i2:=in_gd g W r;have hcW:c∈W:=by rw[h4]; exact lL _ hc
    have hk:cg (gd g W) (.inl c)=some (.int (g c)):=eX _ hcW;have hl:=h3.len hp
    by_cases c1:r∈fs/\r∉W
    ·refine⟨[some B,some (.v (tI fs)),some (.v (.int p)),some (.aL (gd g W)),some (.lst (W.map .int)),some (.v (.int a1)),some (.v (.int c)),some (.v (.int r))],[some B,some (.v (tI fs)),some (.v (.int p)),some (.aL (gd (λx=>if x=r then g c+1 else g x) (W++[r]))),some (.lst ((W++[r]).map .int)),some (.v (.int a1)),some (.v (.int c)),some (.v (.int r))],by simp,?_,dn++[r],rs,_,W++[r],_,rfl,by rw[BM]; exact h2,⟨?_,?_,lL _ h3.st⟩,⟨m++[r],by rw[h4,BM]⟩,?_,rfl⟩
     ·have q:=BV g W (g c+1) c1.2
      have hgl:(gd g W).length<1000000:=by unfold gd; rw[D1]; lia
      have hwl:W.length<1000000:=by lia
      simp at i1 i2;have hkd:eZ (.int r)=some (.inl r):=rfl;have hkc:eZ (.int c)=some (.inl c):=rfl;simp[E7,i1,i2,c1.1,c1.2,hk,hkd,hkc,q,hgl,hwl,lim]
     ·exact FM.mpr ⟨h3.nd,by simp,λa ha b hb e=>c1.2 (by simp at hb; rw[<-hb,<-e]; exact ha)⟩
     ·intro x hx
      rcases lM hx with hx | hx
      ·exact h3.rc x hx
      ·rw[Ch] at hx
       subst hx;exact .step (h3.rc c hcW) ((hφ c x).mp (by rw[<-h2]; simp)) c1.1
     ·intro d hd hdf
      rcases lM hd with hd | hd
      ·exact lL _ (h5 d hd hdf)
      ·exact lR _ hd
    ·refine⟨[some B,some (.v (tI fs)),some (.v (.int p)),some (.aL (gd g W)),some (.lst (W.map .int)),some (.v (.int a1)),some (.v (.int c)),some (.v (.int r))],[some B,some (.v (tI fs)),some (.v (.int p)),some (.aL (gd g W)),some (.lst (W.map .int)),some (.v (.int a1)),some (.v (.int c)),some (.v (.int r))],by simp,?_,dn++[r],rs,g,W,_,rfl,by rw[BM]; exact h2,h3,⟨m,h4⟩,?_,rfl⟩
     ·simp at i1 i2
      by_cases c2:r∈fs
      ·have c3:r∈W:=IH λz=>c1 ⟨c2,z⟩
       simp[E7,i1,i2,c2,c3]
      ·simp[E7,i1,c2]
     ·intro d hd hdf
      rcases lM hd with hd | hd
      ·exact h5 d hd hdf
      ·rw[Ch] at hd
       subst hd;exact IH λz=>c1 ⟨hdf,z⟩)
 have:rs=[]:=by cases rs with | nil=>rfl | cons _ _=>cases h1
 subst this;rw[FB] at h2;subst h2;exact⟨W,g,y7,h3,h4,λd hd hf'=>h5 d ((hφ c d).mpr hd) hf',e⟩
end
theorem BX{W:List Int}{k:Nat}{c:Int}(h:W[k]? = some c):jO (W.map IF) (k:Int)=some (.int c):=by
 obtain⟨hk,e⟩:=Da.mp h;unfold jO ud;rw[D1];simp only[KP];rw[if_pos (by lia)]
 simp[hk,e]
section
variable{ps fs:List Int}{ts:List (Int×Int)}{p:Int}{φ:Int->List Int}
theorem tW(hφ:∀q r,r∈φ q↔ni ts q r)(hp:p∈fs)(hs:∀x∈fs,x∈ps)(hf:fs.length<=1000):∃ (W:List Int) (g:Int->Int),W.Nodup/\(∀x,x∈W↔vf ts fs p x)/\FF.bF [.aL (dd ps φ),.v (tI fs),.v (.int p)]=some (.aL (gd g W),[.aL (dd ps φ),.v (tI fs),.v (.int p)]):=by
 obtain⟨ρ',e,g,W,x5,x6,x7,h1,h2,rfl⟩:=nc (fc:=br (vB DH (aa 5) (fW jw (af (aa 4))))) (fb:=HD)
  (P:=λm ρ=>∃ (k:Nat) (g:Int->Int) (W:List Int) (x6 x7:Option M),m=fs.length-k/\k<=W.length/\Gd ts fs p W/\(∀i x,i<k->W[i]? = some x->∀d,ni ts x d->d∈fs->d∈W)/\ρ=[some (.aL (dd ps φ)),some (.v (tI fs)),some (.v (.int p)),some (.aL (gd g W)),some (.lst (W.map .int)),some (.v (.int (k:Int))),x6,x7])
  (Q:=λρ=>∃ (g:Int->Int) (W:List Int) (x5 x6 x7:Option M),Gd ts fs p W/\(∀x∈W,∀d,ni ts x d->d∈fs->d∈W)/\ρ=[some (.aL (dd ps φ)),some (.v (tI fs)),some (.v (.int p)),some (.aL (gd g W)),some (.lst (W.map .int)),x5,x6,x7])
  (λm ρ hP=>by
   obtain⟨k,g,W,x6,x7,rfl,hk,hG,hcl,rfl⟩:=hP
   by_cases c:k<W.length
   ·right
    have hl:=hG.len hp;have hx:W[k]? = some W[k]:=Bi c;have hxm:W[k]∈W:=He c;generalize W[k]=x at hx hxm;obtain⟨W',g',x7',a1,⟨m,a2⟩,a3,a4⟩:=sf_in (B:=.aL (dd ps φ)) (g0:=g) (a1:=(k:Int)+1) (x7:=x7) hφ hp hf hG hxm;have hxp:x∈ps:=hs x ((hG.rc x hxm).or.elim (λe=>e▸hp) id)
    have hkx:cg (dd ps φ) (.inl x)=some (tI (φ x)):=eX _ hxp;have hat:=BX hx;refine⟨[some (.aL (dd ps φ)),some (.v (tI fs)),some (.v (.int p)),some (.aL (gd g W)),some (.lst (W.map .int)),some (.v (.int (k:Int))),x6,x7],[some (.aL (dd ps φ)),some (.v (tI fs)),some (.v (.int p)),some (.aL (gd g' W')),some (.lst (W'.map .int)),some (.v (.int ((k:Int)+1))),some (.v (.int x)),x7'],fs.length-(k+1),by simp; lia,?_,by lia,k+1,g',W',some (.v (.int x)),x7',rfl,by rw[a2,Bz]; lia,a1,λi y hi hy d hd hdf=>?_,by simp⟩
    ·refine(aG (ρ1:=[some (.aL (dd ps φ)),some (.v (tI fs)),some (.v (.int p)),some (.aL (gd g W)),some (.lst (W.map .int)),some (.v (.int (k:Int))),some (.v (.int x)),x7]) (by simp[hat])).trans ?_
     refine(aG (ρ1:=[some (.aL (dd ps φ)),some (.v (tI fs)),some (.v (.int p)),some (.aL (gd g W)),some (.lst (W.map .int)),some (.v (.int ((k:Int)+1))),some (.v (.int x)),x7]) (by simp)).trans ?_
     have hkd:eZ (.int x)=some (.inl x):=rfl;unfold tI at a4 hkx ⊢;simp[hkd,hkx];simpa using a4
    ·rcases ND i k with hik | hik
     ·have hy0:W[i]? = some y:=by
       rw[a2,HF (by lia)] at hy
       exact hy
      have:=hcl i y hik hy0 d hd hdf;rw[a2];exact lL _ this
     ·have:i=k:=by lia
      subst this;rw[a2,HF c,hx] at hy;cases hy;exact a3 d hd hdf
   ·left
    refine⟨[some (.aL (dd ps φ)),some (.v (tI fs)),some (.v (.int p)),some (.aL (gd g W)),some (.lst (W.map .int)),some (.v (.int (k:Int))),x6,x7],by simp; lia,g,W,some (.v (.int (k:Int))),x6,x7,hG,λx hx d hd hdf=>?_,rfl⟩
    obtain⟨i,hi,e⟩:=HV hx;exact hcl i x (by lia) (by rw[Bi hi,e]) d hd hdf)
  1000000 fs.length [some (.aL (dd ps φ)),some (.v (tI fs)),some (.v (.int p)),some (.aL (gd (λ_=>0) [p])),some (.lst ([p].map .int)),some (.v (.int 0)),none,none] ⟨0,_,[p],none,none,rfl,HS _,⟨by simp,λx hx=>by rw[Ch] at hx; subst hx; exact .base,lS⟩,λi x hi=>absurd hi (LB _),rfl⟩ (by lia)
 refine⟨W,g,h1.nd,λx=>⟨h1.rc x,λhx=>?_⟩,cY (ρ:=[some (.aL (dd ps φ)),some (.v (tI fs)),some (.v (.int p)),none,some (.lst (W.map .int)),x5,x6,x7]) rfl ?_ rfl⟩
 ·induction hx with
  |base=>exact h1.st
  |step _ ha hr ih=>exact h2 _ ih _ ha hr
 ·show FF.fJ [some (.aL (dd ps φ)),some (.v (tI fs)),some (.v (.int p)),none,none,none,none,none]=_
  refine(aG (ρ1:=[some (.aL (dd ps φ)),some (.v (tI fs)),some (.v (.int p)),some (.aL (gd (λ_=>0) [p])),none,none,none,none]) ?_).trans ?_
  ·simp[gd]
   rfl
  refine(aG (ρ1:=[some (.aL (dd ps φ)),some (.v (tI fs)),some (.v (.int p)),some (.aL (gd (λ_=>0) [p])),some (.lst ([p].map .int)),none,none,none]) (by simp[lim])).trans ?_
  refine(aG (ρ1:=[some (.aL (dd ps φ)),some (.v (tI fs)),some (.v (.int p)),some (.aL (gd (λ_=>0) [p])),some (.lst ([p].map .int)),some (.v (.int 0)),none,none]) (by simp)).trans ?_
  refine(aG (ρ1:=[some (.aL (dd ps φ)),some (.v (tI fs)),some (.v (.int p)),some (.aL (gd g W)),some (.lst (W.map .int)),x5,x6,x7]) e).trans (by simp)
end
@[simp] theorem vLS2_eq{n:Nat}{js:List Nat}{fi:FI}{fg:FG}{ft:FT}{i8:FI}{fg2:FG}{iZ:FT}{fe:FE}{ρ:Ev}:zD n js fi fg ft i8 fg2 iZ fe ρ=(fi ρ).bind λp=>(caps p.2 js).bind λos=>(bQ os p.2).bind λq=>
 (fQ fg ft i8 fg2 iZ fe p.1 (D2 n none++q.1.map some) []).bind λr=>(gu r.1).bind λns=>if ns.length<=4000 then (fin (D2 js.length true) q.1 (r.2.drop n)).bind λms'=>some (.t (.v (.int (VL.dI ns).length)),eT os ms' q.2) else none:=rfl
section
variable{ps fs:List Int}{ts:List (Int×Int)}{p:Int}{φ:Int->List Int}
noncomputable abbrev iZ:FT:=br (vB (iI true) (aa 1) (aa 3))
noncomputable abbrev i8:FI:=cD (gH (aa 2) (aa 0))
theorem wa_in{q:Int}{D:M}{x0 x1:Option M}(acc0:List B1)(hl:acc0.length+(φ q).length<=100000):∃x1',bz (ah 1) iZ (aa 1) ((φ q).map .int) [x0,x1,some D,some (.v (tI fs))] acc0=some (acc0++((φ q).filter λy=>decide (y∉fs)).map .int,[x0,x1',some D,some (.v (tI fs))]):=by
 obtain⟨acc,ρ',e,dn,rs,x1',h1,h2,h3,rfl⟩:=gb (fg:=ah 1) (ft:=iZ) (fe:=aa 1) (P:=λrest acc ρ=>∃ (dn rs:List Int) (x1':Option M),rest=rs.map .int/\dn++rs=φ q/\acc=acc0++(dn.filter λy=>decide (y∉fs)).map .int/\ρ=[x0,x1',some D,some (.v (tI fs))])
  ((φ q).map .int) [x0,x1,some D,some (.v (tI fs))] acc0 ⟨[],φ q,x1,rfl,rfl,by simp,rfl⟩ (λd rest acc ρ hP=>by
   obtain⟨dn,rs,x1',h1,h2,rfl,rfl⟩:=hP;cases rs with
   |nil=>cases h1
   |cons r rs=>
    obtain⟨rfl,rfl⟩:=JY h1;have hlen:dn.length+(rs.length+1)=(φ q).length:=by rw[<-h2,Bz,Bn]
    have hfl:=M9 (λy=>decide (y∉fs)) dn
    have i1:=zJ true fs r;simp at i1;refine⟨by rw[Bz,D1]; unfold lim; lia,[x0,some (.v (.int r)),some D,some (.v (tI fs))],!decide (r∈fs),[x0,some (.v (.int r)),some D,some (.v (tI fs))],by simp,by simp[iZ,i1],?_⟩
    by_cases c:r∈fs
    ·left
     refine⟨by simp[c],dn++[r],rs,_,rfl,by rw[BM]; exact h2,by rw[PX]; simp[c],rfl⟩
    ·right
     refine⟨by simp[c],.t (.v (.int r)),[x0,some (.v (.int r)),some D,some (.v (tI fs))],.int r,[x0,some (.v (.int r)),some D,some (.v (tI fs))],by simp,rfl,dn++[r],rs,_,rfl,by rw[BM]; exact h2,by rw[PX]; simp[c],rfl⟩)
 have:rs=[]:=by cases rs with | nil=>rfl | cons _ _=>cases h1
 subst this;rw[FB] at h2;subst h2;exact⟨x1',by rw[e,h3]⟩
theorem EK(h60:∀q,(φ q).length<=1000):∀(W:List Int)(x0 x1:Option M)(acc0:List B1),(∀q∈W,q∈ps)->acc0.length+W.length*1000<=100000->∃x0' x1',fQ (ah 0) dB i8 (ah 1) iZ (aa 1) (W.map .int) [x0,x1,some (.aL (dd ps φ)),some (.v (tI fs))] acc0=some (acc0++(W.flatMap λq=>(φ q).filter λy=>decide (y∉fs)).map .int,[x0',x1',some (.aL (dd ps φ)),some (.v (tI fs))]):=by
 intro W
 induction W with
 |nil=>
  intro x0 x1 acc0 _ _;exact⟨x0,x1,by simp[fQ]⟩
 |cons q W ih=>
  intro x0 x1 acc0 hW hl;have hk:cg (dd ps φ) (.inl q)=some (tI (φ q)):=eX _ (hW q lS);have h6:=h60 q;rw[Bn] at hl;obtain⟨x1',e⟩:=wa_in (fs:=fs) (φ:=φ) (q:=q) (D:=.aL (dd ps φ)) (x0:=some (.v (.int q))) (x1:=x1) acc0 (by lia)
  have hfl:=M9 (λy=>decide (y∉fs)) (φ q)
  obtain⟨y0,y1,e2⟩:=ih (some (.v (.int q))) x1' (acc0++((φ q).filter λy=>decide (y∉fs)).map .int) (λq hq=>hW q (lO _ hq)) (by rw[Bz,D1]; lia)
  refine⟨y0,y1,?_⟩;have hkd:eZ (.int q)=some (.inl q):=rfl;have hfi:i8 [some (.v (.int q)),x1,some (.aL (dd ps φ)),some (.v (tI fs))]=some ((φ q).map .int,[some (.v (.int q)),x1,some (.aL (dd ps φ)),some (.v (tI fs))]):=by
   unfold tI at hk ⊢;simp[i8,hkd,hk]
  show ((ah 0) (.int q) [x0,x1,some (.aL (dd ps φ)),some (.v (tI fs))]).bind _=_;rw[show (ah 0) (.int q) [x0,x1,some (.aL (dd ps φ)),some (.v (tI fs))]=some [some (.v (.int q)),x1,some (.aL (dd ps φ)),some (.v (tI fs))] by simp,Ib]
  show (dB _).bind _=_;rw[show dB [some (.v (.int q)),x1,some (.aL (dd ps φ)),some (.v (tI fs))]=some (true,[some (.v (.int q)),x1,some (.aL (dd ps φ)),some (.v (tI fs))]) from rfl,Ib]
  show (if true=true then _ else _)=_
  rw[if_pos rfl,hfi,Ib];dsimp only;rw[e,Ib];dsimp only;rw[e2,Ps,Iu,BM]
theorem zN(hφ:∀q r,r∈φ q↔ni ts q r)(h60:∀q,(φ q).length<=60)(hp:p∈fs)(hs:∀x∈fs,x∈ps)(hf:fs.length<=24):∃L:List Int,L.Nodup/\(∀y,y∈L↔(∃q,vf ts fs p q/\ni ts q y)/\y∉fs)/\FF.bW [.aL (dd ps φ),.v (tI fs),.v (.int p)]=some (.v (.int (L.length:Nat)),[.aL (dd ps φ),.v (tI fs),.v (.int p)]):=by
 obtain⟨W,g,hnd,hW,e⟩:=tW (ps:=ps) hφ hp hs (by lia)
 have hWf:∀x∈W,x∈fs:=λx hx=>((hW x).mp hx).or.elim (λe=>e▸hp) id
 have hWl:=len_sub hnd hWf;obtain⟨y0,y1,e2⟩:=EK (ps:=ps) (fs:=fs) (φ:=φ) (λq=>JF (h60 q) (by decide)) W none none [] (λq hq=>hs q (hWf q hq)) (by simp; lia)
 rw[IT] at e2;generalize hns:(W.flatMap λq=>(φ q).filter λy=>decide (y∉fs))=ns at e2
 have hlen:ns.length<=4000:=by
  rw[<-hns,List.length_flatMap];have:∀W:List Int,(W.map λq=>((φ q).filter λy=>decide (y∉fs)).length).sum<=W.length*60:=λW=>by
   induction W with
   |nil=>simp
   |cons q W ih=>
    have h1:=M9 (λy=>decide (y∉fs)) (φ q)
    have h2:=h60 q;simp only[GM,List.sum_cons,Bn];lia
  have:=this W;lia
 refine⟨VL.dI ns,zC ns,λy=>?_,?_⟩
 ·rw[EG,<-hns,Q3]
  constructor
  ·rintro⟨q,hq,hy⟩
   obtain⟨h1,h2⟩:=Jl.mp hy;exact⟨⟨q,(hW q).mp hq,(hφ q y).mp h1⟩,by simpa using h2⟩
  ·rintro⟨⟨q,hq,hy⟩,hn⟩
   exact⟨q,(hW q).mpr hq,Jl.mpr ⟨(hφ q y).mpr hy,by simpa using hn⟩⟩
 ·have hk:((gd g W).map λq=>sH q.1)=W.map .int:=by unfold gd; rw[Iy]; rfl
  have ha:=fX ns;refine cY (ρ:=[some (.aL (dd ps φ)),some (.v (tI fs)),some (.v (.int p))]) rfl ?_ rfl;show FF.dZ [some (.aL (dd ps φ)),some (.v (tI fs)),some (.v (.int p))]=_;have hkeys:mX (dM FF.bF (ai (aa 0) (ai (aa 1) (af (aa 2))))) [some (.aL (dd ps φ)),some (.v (tI fs)),some (.v (.int p))]=some (W.map .int,[some (.aL (dd ps φ)),some (.v (tI fs)),some (.v (.int p))]):=by
   unfold mX;simp[e,hk]
  unfold FF.dZ;simp[hkeys,e2,ha,hlen]
end
end PS
end
section
namespace PA
open PySem L2 VL
@[simp] theorem atI_c0{α:Type}{x:α}{xs:List α}:jO (x::xs) 0=some x:=by
 have:=pe (xs:=x::xs) (j:=0) (v:=x) rfl;exact this
@[simp] theorem atI_c1{α:Type}{x y:α}{xs:List α}:jO (x::y::xs) 1=some y:=by
 have:=pe (xs:=x::y::xs) (j:=1) (v:=y) rfl;exact this
noncomputable def w4(xs:List B1):List B1:=Mz (λ(k:Nat)y=>Ma [.int (k:Int),y]) (Fa xs.length) xs
theorem rQ(xs:List B1):oz [.v (.tuple xs)]=some (w4 xs):=rfl
theorem qi(xs:List B1):(w4 xs).length=xs.length:=by unfold w4; rw[MU,IV]; lia
theorem rR{xs:List B1}{i:Nat}{d:B1}{ds:List B1}(h:d::ds=(w4 xs).drop i):∃x,xs[i]? = some x/\d=.tuple [.int (i:Int),x]/\ds=(w4 xs).drop (i+1)/\i<xs.length:=by
 have hi:i<(w4 xs).length:=by
  rcases ND i (w4 xs).length with h1 | h1
  ·exact h1
  ·rw[List.drop_eq_nil_of_le h1] at h; cases h
 rw[JX hi] at h
 injection h with h1 h2
 have hi':=qi xs▸hi;refine⟨xs[i],Bi hi',?_,h2,hi'⟩;rw[h1];exact(List.getElem_zipWith ..).trans (by rw[PU])
end PA
end
section
namespace PS
open PySem L2 VL PA PQ PN
section
variable{ps os:List Int}{ts:List (Int×Int)}
def Ge(ts:List (Int×Int))(os:List Int)(k:Nat)(y:Int):Prop:=∃q,vf ts (os.take (k+1)) (os.getD k 0) q/\ni ts q y
noncomputable def wn(ts:List (Int×Int))(os:List Int)(k:Nat):Nat:=((os.drop (k+1)).filter λy=>@decide (Ge ts os k y) (Kb _)).length
theorem Co(nd:os.Nodup)(ha:∀q y,ni ts q y->y∈os){k:Nat}{L:List Int}(hL:L.Nodup)(h:∀y,y∈L↔Ge ts os k y/\y∉os.take (k+1)):L.length=wn ts os k:=by
 refine List.Perm.length_eq ((List.perm_ext_iff_of_nodup hL ?_).mpr λy=>?_)
 ·exact(List.Sublist.nodup (Pu _ _) nd).filter _
 ·rw[h,Jl]
  have hs:os.take (k+1)++os.drop (k+1)=os:=FV _ _;constructor
  ·rintro⟨h1,h2⟩
   obtain⟨q,h3,h4⟩:=id h1;have:=ha q y h4;rw[<-hs,M4] at this;exact⟨this.resolve_left h2,by simpa using h1⟩
  ·rintro⟨h1,h2⟩
   refine⟨by simpa using h2,λz=>?_⟩
   rw[<-hs,FM] at nd;exact nd.2.2 y z y h1 rfl
noncomputable def zO(ts:List (Int×Int))(os:List Int):List Int:=(Fa os.length).map λk=>((wn ts os k:Nat):Int)
theorem widths(w:Wb ps ts)(hn:ps.length<=24)(hp:os.Perm ps):FF.bN [.v (wD ps ts),.v (tI os)]=some (.v (tI (zO ts os)),[.v (wD ps ts),.v (tI os)]):=by
 have nd:ps.Nodup:=w.rise.imp λh=>by lia
 have ndo:os.Nodup:=hp.nodup_iff.mpr nd;have hnear:=nears nd w.ends (by lia) (by have:=w.few; lia)
 have ho:os.length<=24:=by rw[hp.length_eq]; exact hn
 have hlφ:∀p,(sortI (nb ts p)).length<=60:=λp=>by
  have h1:=tV (λt ht=>(w.ends t ht).2.2) p
  have h2:(sortI (nb ts p)).length=(nb ts p).length:=(eO ltI (nb ts p)).length_eq;have:=w.few;lia
 have hφ:∀q r,r∈sortI (nb ts q)↔ni ts q r:=λq r=>by
  rw[show r∈sortI (nb ts q)↔r∈nb ts q from (eO ltI (nb ts q)).mem_iff,EJ]
  rfl
 have hadj:∀q y,ni ts q y->y∈os:=λq y h=>hp.mem_iff.mpr (by
  rcases h with h | h
  ·exact(w.ends _ h).2.1
  ·exact(w.ends _ h).1)
 generalize hφe:(λp=>sortI (nb ts p))=φ at hnear
 have hφ':∀q r,r∈φ q↔ni ts q r:=λq r=>by rw[<-hφe]; exact hφ q r
 have hlφ':∀q,(φ q).length<=60:=λq=>by rw[<-hφe]; exact hlφ q
 obtain⟨acc,ρ',e,k,x0,x1,h1,h2,h3,rfl⟩:=gb (fg:=bS 2 (aD (ah 0) (aD (ah 1) bZ))) (ft:=dB) (fe:=dM FF.bW (ai (aa 2) (ai (wj (aa 3) dm (dw (vB bH (aa 0) (vC (.int 1))))) (af (aa 1)))))
  (P:=λrest acc ρ=>∃ (k:Nat) (x0 x1:Option M),rest=(w4 (os.map .int)).drop k/\k<=os.length/\acc=((Fa k).map λk=>((wn ts os k:Nat):Int)).map .int/\ρ=[x0,x1,some (.aL (dd ps φ)),some (.v (tI os))])
  (w4 (os.map .int)) [none,none,some (.aL (dd ps φ)),some (.v (tI os))] [] ⟨0,none,none,rfl,HS _,rfl,rfl⟩ (λd rest acc ρ hP=>by
   obtain⟨k,x0,x1,h1,h2,rfl,rfl⟩:=hP;obtain⟨x,hx,rfl,hr,hk⟩:=rR h1;rw[D1] at hk;rw[HL,Bi hk] at hx;have hx:x=.int os[k]:=by simpa using hx.symm
   subst hx;have hgd:os.getD k 0=os[k]:=by simp[hk]
   have hc:cutD (os.map IF) none (some ((k:Int)+1))=(os.take (k+1)).map .int:=by rw[show (k:Int)+1=((k+1:Nat):Int) by lia,iA,Je]
   obtain⟨L,l1,l2,l3⟩:=zN (ps:=ps) (fs:=os.take (k+1)) (p:=os[k]) hφ' hlφ' (O9.mpr ⟨k,by lia,rfl⟩) (λy h=>hp.mem_iff.mp (IW h)) (by rw[Gc]; lia)
   have hL:=Co (k:=k) ndo hadj l1 (λy=>by rw[l2 y]; unfold Ge; rw[hgd])
   rw[hL] at l3;refine⟨by rw[D1,D1,IV]; unfold lim; lia,[some (.v (.int (k:Int))),some (.v (.int os[k])),some (.aL (dd ps φ)),some (.v (tI os))],true,[some (.v (.int (k:Int))),some (.v (.int os[k])),some (.aL (dd ps φ)),some (.v (tI os))],by simp,rfl,.inr ⟨rfl,.t (.v (.int ((wn ts os k:Nat):Int))),[some (.v (.int (k:Int))),some (.v (.int os[k])),some (.aL (dd ps φ)),some (.v (tI os))],.int ((wn ts os k:Nat):Int),[some (.v (.int (k:Int))),some (.v (.int os[k])),some (.aL (dd ps φ)),some (.v (tI os))],?_,rfl,k+1,_,_,hr,by lia,by rw[NW,Iu,Iu]; rfl,rfl⟩⟩
   unfold tI at l3 ⊢;rw[Je] at l3 hc;simp[hc,l3])
 have hk:k=os.length:=by
  have:=congrArg MJ h1;rw[HI,qi,D1] at this;simp at this;lia
 subst hk;subst h3;refine cY (ρ:=[some (.v (wD ps ts)),some (.v (tI os)),some (.aL (dd ps φ))]) rfl ?_ rfl;show FF.iM [some (.v (wD ps ts)),some (.v (tI os)),none]=_;refine(aG (ρ1:=[some (.v (wD ps ts)),some (.v (tI os)),some (.aL (dd ps φ))]) (by simp[hnear])).trans ?_
 have hen:=rQ (os.map .int);unfold tI at e ⊢;simp[hen,e,zO]
theorem width(w:Wb ps ts)(hn:ps.length<=24)(hp:os.Perm ps):FF.dF [.v (wD ps ts),.v (tI os)]=some (.v (.int ((j8 (zO ts os)).getD 0)),[.v (wD ps ts),.v (tI os)]):=by
 have h1:=widths w hn hp;have h2:=ve (zO ts os);refine cY (ρ:=[some (.v (wD ps ts)),some (.v (tI os))]) rfl ?_ rfl;show FF.gE [some (.v (wD ps ts)),some (.v (tI os))]=_;simp[FF.gE,h1,h2]
end
@[simp] theorem vPop_eq{i:Nat}{ρ:Ev}:yW i ρ=(ck ρ i).bind λm0=>match m0 with
 |.lst ds=>(ds[ds.length-1]?).bind λd=>some (.t (.v d),ρ.set i (some (.lst ds.dropLast)))
 |_=>none:=rfl
structure Sv(ts:List (Int×Int))(ps os:List Int)(p:Int)(k:Nat)(S T:List Int)(c:Option Int):Prop where
 nd:S.Nodup
 sub:∀x∈S,x∈ps
 st:p∈S
 com:∀x∈S,x=p\/∃q,vf ts (os.take (k+1)) p q/\ni ts q x
 tr:∀x∈T,vf ts (os.take (k+1)) p x
 cl:∀x∈S,(x=p\/x∈os.take k)->x∈T\/c=some x\/∀y,ni ts x y->y∈S
section
variable{ps os:List Int}{ts:List (Int×Int)}{p:Int}{k:Nat}
noncomputable abbrev E8:FS:=cW (br (vB (iI true) (aa 7) (aa 5))) (aH (bR (jA 5 (af (aa 7))))
 (bR (p8 6 (af (vB mulR (di (af (aa 7))) (fW iK (af (vB (iI false) (aa 7) (wj (aa 1) dm (dw (aa 3))))))))))) bB
theorem EL(neg:Bool)(ns:List Int)(a:Int):iI neg (.v (.int a)) (.lst (ns.map .int))=some (.v (.bool (if neg then !decide (a∈ns) else decide (a∈ns)))):=by
 have h:=zJ neg ns a;exact h
theorem sv_in{S0 T0 F:List Int}{c:Int}{x4 x7:Option M}(hadj:∀q y,ni ts q y->y∈ps)(hn:ps.length<=24)(hc:vf ts (os.take (k+1)) p c)(h0:Sv ts ps os p k S0 T0 (some c))(hT:T0.length<=1000):∃ (A B:List Int) (x7':Option M),
  B.length<=A.length/\Sv ts ps os p k (S0++A) (T0++B) none/\forL (ah 7) E8 ((nl ts c).map .int) [some (.v (wD ps ts)),some (.v (tI os)),some (.lst (F.map .int)),some (.v (.int (k:Int))),x4,some (.lst (S0.map .int)),some (.lst (T0.map .int)),x7] =
   some (.nx [some (.v (wD ps ts)),some (.v (tI os)),some (.lst (F.map .int)),some (.v (.int (k:Int))),x4,some (.lst ((S0++A).map .int)),some (.lst ((T0++B).map .int)),x7']):=by
 obtain⟨ρ',e,dn,rs,A,B,y7,h1,h2,h3,h4,h5,rfl⟩:=cz (fg:=ah 7) (fb:=E8) (P:=λrest ρ=>∃ (dn rs A B:List Int) (y7:Option M),rest=rs.map .int/\dn++rs=nl ts c/\B.length<=A.length/\Sv ts ps os p k (S0++A) (T0++B) (some c)/\(∀d∈dn,d∈S0++A)/\ρ=[some (.v (wD ps ts)),some (.v (tI os)),some (.lst (F.map .int)),some (.v (.int (k:Int))),x4,some (.lst ((S0++A).map .int)),some (.lst ((T0++B).map .int)),y7])
  ((nl ts c).map .int) [some (.v (wD ps ts)),some (.v (tI os)),some (.lst (F.map .int)),some (.v (.int (k:Int))),x4,some (.lst (S0.map .int)),some (.lst (T0.map .int)),x7] ⟨[],nl ts c,[],[],x7,rfl,rfl,Db _,by simpa using h0,λd hd=>(nomatch hd),by simp⟩ (λd rest ρ hP=>by
   obtain⟨dn,rs,A,B,y7,h1,h2,h3,h4,h5,rfl⟩:=hP;cases rs with
   |nil=>cases h1
   |cons r rs=>
    obtain⟨rfl,rfl⟩:=JY h1;have hr:ni ts c r:=zL.mp (by rw[<-h2]; simp)
    have hSl:=len_sub h4.nd h4.sub;generalize hS:S0++A=S at *;have hTl:(T0++B).length<=2000:=by
     have:A.length<=S.length:=by rw[<-hS,Bz]; lia
     rw[Bz]; lia
    generalize hTT:T0++B=T at *;have i1:=EL true S r;simp at i1
    by_cases c1:r∈S
    ·refine⟨[some (.v (wD ps ts)),some (.v (tI os)),some (.lst (F.map .int)),some (.v (.int (k:Int))),x4,some (.lst (S.map .int)),some (.lst (T.map .int)),some (.v (.int r))],[some (.v (wD ps ts)),some (.v (tI os)),some (.lst (F.map .int)),some (.v (.int (k:Int))),x4,some (.lst (S.map .int)),some (.lst (T.map .int)),some (.v (.int r))],by simp,by simp[E8,i1,c1],dn++[r],rs,A,B,_,rfl,by rw[BM]; exact h2,h3,by rw[hS,hTT]; exact h4,λd hd=>?_,by rw[hS,hTT]⟩
     rw[hS];rcases lM hd with hd | hd
     ·exact h5 d hd
     ·rw[Ch] at hd; rw[hd]; exact c1
    ·have hcut:cutD (os.map IF) none (some (k:Int))=(os.take k).map .int:=by rw[iA,Je]
     have i2:=kP false (os.take k) r;simp at i2;have hl1:S.length<1000000:=by lia
     have hl2:T.length<=999999:=by lia
     have hl3:T.length<=1000000:=by lia
     have sv:∀B',(B'=[r]/\r∈os.take k\/B'=[]/\r∉os.take k)->Sv ts ps os p k (S++[r]) (T++B') (some c):=λB' hB=>by
      refine⟨?_,?_,lL _ h4.st,?_,?_,?_⟩
      ·exact FM.mpr ⟨h4.nd,by simp,λa ha b hb e=>c1 (by simp at hb; rw[<-hb,<-e]; exact ha)⟩
      ·intro x hx
       rcases lM hx with hx | hx
       ·exact h4.sub x hx
       ·rw[Ch] at hx; rw[hx]; exact hadj c r hr
      ·intro x hx
       rcases lM hx with hx | hx
       ·exact h4.com x hx
       ·rw[Ch] at hx; rw[hx]; exact .inr ⟨c,hc,hr⟩
      ·intro x hx
       rcases lM hx with hx | hx
       ·exact h4.tr x hx
       ·rcases hB with⟨rfl,hk⟩ | ⟨rfl,_⟩
        ·rw[Ch] at hx; rw[hx]
         refine .step hc hr ?_;exact(List.take_prefix_take_left (by lia)).subset hk
        ·cases hx
      ·intro x hx hxp
       rcases lM hx with hx | hx
       ·rcases h4.cl x hx hxp with z | z | z
        ·exact .inl (lL _ z)
        ·exact .inr (.inl z)
        ·exact .inr (.inr λy hy=>lL _ (z y hy))
       ·rw[Ch] at hx
        subst hx;rcases hxp with hxp | hxp
        ·exact absurd (hxp▸h4.st) c1
        ·rcases hB with⟨rfl,_⟩ | ⟨_,hk⟩
         ·exact .inl (lR _ lS)
         ·exact absurd hxp hk
     have dnn:∀d∈dn++[r],d∈S++[r]:=λd hd=>by
      rcases lM hd with hd | hd
      ·exact lL _ (h5 d hd)
      ·exact lR _ hd
     by_cases c2:r∈os.take k
     ·refine⟨[some (.v (wD ps ts)),some (.v (tI os)),some (.lst (F.map .int)),some (.v (.int (k:Int))),x4,some (.lst (S.map .int)),some (.lst (T.map .int)),some (.v (.int r))],[some (.v (wD ps ts)),some (.v (tI os)),some (.lst (F.map .int)),some (.v (.int (k:Int))),x4,some (.lst ((S++[r]).map .int)),some (.lst ((T++[r]).map .int)),some (.v (.int r))],by simp,?_,dn++[r],rs,A++[r],B++[r],_,rfl,by rw[BM]; exact h2,by simp; exact h3,by rw[<-BM,<-BM,hS,hTT]; exact sv _ (.inl ⟨rfl,c2⟩),by rw[<-BM,hS]; exact dnn,by rw[<-BM,<-BM,hS,hTT]⟩
      unfold tI;simp only[Je] at i2 hcut;simp[E8,i1,c1,hcut,i2,c2,hl1,hl2,lim,wR]
     ·refine⟨[some (.v (wD ps ts)),some (.v (tI os)),some (.lst (F.map .int)),some (.v (.int (k:Int))),x4,some (.lst (S.map .int)),some (.lst (T.map .int)),some (.v (.int r))],[some (.v (wD ps ts)),some (.v (tI os)),some (.lst (F.map .int)),some (.v (.int (k:Int))),x4,some (.lst ((S++[r]).map .int)),some (.lst (T.map .int)),some (.v (.int r))],by simp,?_,dn++[r],rs,A++[r],B,_,rfl,by rw[BM]; exact h2,by simp; lia,by rw[<-BM,hS,hTT]; have:=sv [] (.inr ⟨rfl,c2⟩); rw[FB] at this; exact this,by rw[<-BM,hS]; exact dnn,by rw[<-BM,hS,hTT]⟩
      unfold tI;simp only[Je] at i2 hcut;simp[E8,i1,c1,hcut,i2,c2,hl1,hl2,hl3,lim,wR])
 have:rs=[]:=by cases rs with | nil=>rfl | cons _ _=>cases h1
 subst this;rw[FB] at h2;subst h2;refine⟨A,B,y7,h3,⟨h4.nd,h4.sub,h4.st,h4.com,h4.tr,λx hx hxp=>?_⟩,e⟩
 rcases h4.cl x hx hxp with z | z | z
 ·exact .inl z
 ·cases z
  exact .inr (.inr λy hy=>h5 y (zL.mpr hy))
 ·exact .inr (.inr z)
end
@[simp] theorem ownL_eq{n:Nat}{js:List Nat}{i:Nat}{fg:FG}{ft:FT}{fe:FE}{ρ:Ev}:mJ n js i fg ft fe ρ=match ck ρ i with
 |some (.lst ds)=>if i∈js then none else (caps ρ js).bind λos=>(bQ os ρ).bind λq=>
  (bz fg ft fe ds (D2 n none++q.1.map some) []).bind λr=>(fin (D2 js.length true) q.1 (r.2.drop n)).bind λms'=>some (.t (.lst r.1),eT os ms' q.2)
 |_=>nh n js (cD (aa i)) fg ft fe ρ:=rfl
section
variable{ps os:List Int}{ts:List (Int×Int)}{p:Int}{k:Nat}
noncomputable abbrev Fp:FT:=br (vB (kF true) (aa 6) (di gT))
noncomputable abbrev Gf:FS:=fO (cD (dM FF.bV (ai (aa 0) (af (yW 6))))) (ah 7) E8
theorem zP{F:List Int}{x4 x7:Option M}(w:Wb ps ts)(hn:ps.length<=24)(hp:p∈ps):∃ (S:List Int) (x7':Option M),Sv ts ps os p k S [] none /\
  gx 1000000 Fp Gf [some (.v (wD ps ts)),some (.v (tI os)),some (.lst (F.map .int)),some (.v (.int (k:Int))),x4,some (.lst ([p].map .int)),some (.lst ([p].map .int)),x7] =
   some (.nx [some (.v (wD ps ts)),some (.v (tI os)),some (.lst (F.map .int)),some (.v (.int (k:Int))),x4,some (.lst (S.map .int)),some (.lst []),x7']):=by
 have hadj:∀q y,ni ts q y->y∈ps:=λq y h=>by
  rcases h with h | h
  ·exact(w.ends _ h).2.1
  ·exact(w.ends _ h).1
 obtain⟨ρ',e,S,x7',h1,rfl⟩:=nc (fc:=Fp) (fb:=Gf)
  (P:=λm ρ=>∃ (S T:List Int) (x7:Option M),m=2*(ps.length-S.length)+T.length/\m<=100/\Sv ts ps os p k S T none/\ρ=[some (.v (wD ps ts)),some (.v (tI os)),some (.lst (F.map .int)),some (.v (.int (k:Int))),x4,some (.lst (S.map .int)),some (.lst (T.map .int)),x7])
  (Q:=λρ=>∃ (S:List Int) (x7:Option M),Sv ts ps os p k S [] none/\ρ=[some (.v (wD ps ts)),some (.v (tI os)),some (.lst (F.map .int)),some (.v (.int (k:Int))),x4,some (.lst (S.map .int)),some (.lst []),x7])
  (λm ρ hP=>by
   obtain⟨S,T,x7,hm,hm1,h1,rfl⟩:=hP;have hq:=eq_nil true T;rcases List.eq_nil_or_concat T with rfl | ⟨T',c,rfl⟩
   ·left
    refine⟨[some (.v (wD ps ts)),some (.v (tI os)),some (.lst (F.map .int)),some (.v (.int (k:Int))),x4,some (.lst (S.map .int)),some (.lst []),x7],?_,S,x7,h1,rfl⟩;simp at hq;simp[Fp,lim,hq]
   ·right
    rw[List.concat_eq_append] at hm h1 hq ⊢;rw[Bz,Hm] at hm;have hcr:vf ts (os.take (k+1)) p c:=h1.tr c (by simp)
    have h0:Sv ts ps os p k S T' (some c):=⟨h1.nd,h1.sub,h1.st,h1.com,λx hx=>h1.tr x (lL _ hx),λx hx hxp=>by
     rcases h1.cl x hx hxp with z | z | z
     ·rcases lM z with z | z
      ·exact .inl z
      ·rw[Ch] at z; rw[z]; exact .inr (.inl rfl)
     ·cases z
     ·exact .inr (.inr z)⟩
    obtain⟨A,B,x7',a1,a2,a3⟩:=sv_in (F:=F) (x4:=x4) (x7:=x7) hadj hn hcr h0 (by lia)
    have hl:=len_sub a2.nd a2.sub;rw[Bz] at hl;have hnr:=near (ps:=ps) (ts:=ts) c (by have:=w.few; lia)
    have hpop:((T'++[c]).map IF)[((T'++[c]).map IF).length-1]? = some (.int c):=by simp
    have hdl:((T'++[c]).map IF).dropLast=T'.map .int:=by simp
    have hne:((T'++[c]).isEmpty)=false:=by cases T' <;> rfl
    rw[hne] at hq;have hm2:2*(ps.length-(S++A).length)+(T'++B).length<m:=by
     rw[Bz,Bz]; lia
    generalize hTm:(T'++[c]).map IF=Tm at hpop hdl hq ⊢;refine⟨[some (.v (wD ps ts)),some (.v (tI os)),some (.lst (F.map .int)),some (.v (.int (k:Int))),x4,some (.lst (S.map .int)),some (.lst Tm),x7],[some (.v (wD ps ts)),some (.v (tI os)),some (.lst (F.map .int)),some (.v (.int (k:Int))),x4,some (.lst ((S++A).map .int)),some (.lst ((T'++B).map .int)),x7'],2*(ps.length-(S++A).length)+(T'++B).length,?_,?_,hm2,S++A,T'++B,x7',rfl,by lia,a2,rfl⟩
    ·simp at hq
     simp[Fp,lim,hq]
    ·simp[Gf,hpop,hdl,hnr]
     simpa using a3)
  1000000 (2*(ps.length-1)+1) [some (.v (wD ps ts)),some (.v (tI os)),some (.lst (F.map .int)),some (.v (.int (k:Int))),x4,some (.lst ([p].map .int)),some (.lst ([p].map .int)),x7] ⟨[p],[p],x7,rfl,by lia,⟨by simp,λx hx=>by rw[Ch] at hx; rw[hx]; exact hp,lS,λx hx=>by rw[Ch] at hx; exact .inl hx,λx hx=>by rw[Ch] at hx; rw[hx]; exact .base,λx hx _=>.inl hx⟩,rfl⟩ (by lia)
 exact⟨S,x7',h1,e⟩
noncomputable def GD(os S:List Int)(k:Nat):List Int:=S.filter λy=>decide (y∈os.drop (k+1))
theorem BY{S:List Int}(nd:os.Nodup)(hadj:∀q y,ni ts q y->y∈os)(hk:k<os.length)(hpk:os.getD k 0=p)(h:Sv ts ps os p k S [] none):(GD os S k).length=wn ts os k:=by
 have hs:os.take (k+1)++os.drop (k+1)=os:=FV _ _;have dj:∀y,y∈os.take (k+1)->y∉os.drop (k+1):=λy h1 h2=>by
  rw[<-hs,FM] at nd;exact nd.2.2 y h1 y h2 rfl
 have hgk:os[k]=p:=by rw[<-hpk]; simp[hk]
 have hpt:p∈os.take (k+1):=O9.mpr ⟨k,by lia,hgk⟩
 have htk:∀y,y∈os.take (k+1)->y=p\/y∈os.take k:=λy hy=>by
  rw[List.take_add_one,M4,Bi hk,hgk] at hy;rcases hy with hy | hy
  ·exact .inr hy
  ·exact .inl (by simpa using hy)
 have cls:∀q,vf ts (os.take (k+1)) p q->q∈S/\∀y,ni ts q y->y∈S:=λq hq=>by
  have key:∀q,q∈S->(q=p\/q∈os.take (k+1))->∀y,ni ts q y->y∈S:=λq h1 h2=>by
   rcases h.cl q h1 (h2.elim .inl (htk q)) with z | z | z
   ·cases z
   ·cases z
   ·exact z
  induction hq with
  |base=>exact⟨h.st,key p h.st (.inl rfl)⟩
  |step _ ha hr ih=>exact⟨ih.2 _ ha,key _ (ih.2 _ ha) (.inr hr)⟩
 refine Co nd hadj (h.nd.filter _) λy=>?_
 unfold GD Ge;rw[Jl,hpk];constructor
 ·rintro⟨h1,h2⟩
  have h2:y∈os.drop (k+1):=by simpa using h2
  refine⟨?_,λz=>dj y z h2⟩
  rcases h.com y h1 with z | z
  ·exact absurd h2 (dj y (z▸hpt))
  ·exact z
 ·rintro⟨⟨q,hq,hy⟩,hnt⟩
  refine⟨(cls q hq).2 y hy,?_⟩;have:=hadj q y hy;rw[<-hs,M4] at this;simpa using this.resolve_left hnt
noncomputable abbrev lwO2:FS:=aH (yD 5 6 (ai (di (af (aa 4))) (af (di (af (aa 4))))))
 (aH (gx 1000000 Fp Gf)
 (bR (jA 2 (af (fW jw (af (mJ 1 [1,3] 5 (ah 0) (br (vB (iI false) (aa 0) (wj (aa 1) (dw (vB bH (aa 2) (vC (.int 1)))) dm))) (aa 0))))))))
theorem tZ(w:Wb ps ts)(hn:ps.length<=24)(hp:os.Perm ps):FF.bU [.v (wD ps ts),.v (tI os)]=some (.v (tI (zO ts os)),[.v (wD ps ts),.v (tI os)]):=by
 have nd:ps.Nodup:=w.rise.imp λh=>by lia
 have ndo:os.Nodup:=hp.nodup_iff.mpr nd;have ho:os.length<=24:=by rw[hp.length_eq]; exact hn
 have hadj:∀q y,ni ts q y->y∈os:=λq y h=>hp.mem_iff.mpr (by
  rcases h with h | h
  ·exact(w.ends _ h).2.1
  ·exact(w.ends _ h).1)
 obtain⟨ρ',e,k,x3,x4,x5,x6,x7,h1,h2,rfl⟩:=cz (fg:=bS 2 (aD (ah 3) (aD (ah 4) bZ))) (fb:=lwO2) (P:=λrest ρ=>∃ (k:Nat) (x3 x4 x5 x6 x7:Option M),rest=(w4 (os.map .int)).drop k/\k<=os.length/\ρ=[some (.v (wD ps ts)),some (.v (tI os)),some (.lst (((Fa k).map λk=>((wn ts os k:Nat):Int)).map .int)),x3,x4,x5,x6,x7])
  (w4 (os.map .int)) [some (.v (wD ps ts)),some (.v (tI os)),some (.lst []),none,none,none,none,none] ⟨0,none,none,none,none,none,rfl,HS _,rfl⟩ (λd rest ρ hP=>by
   obtain⟨k,x3,x4,x5,x6,x7,h1,h2,rfl⟩:=hP;obtain⟨x,hx,rfl,hr,hk⟩:=rR h1;rw[D1] at hk;rw[HL,Bi hk] at hx;have hx:x=.int os[k]:=by simpa using hx.symm
   subst hx;have hgd:os.getD k 0=os[k]:=by simp[hk]
   generalize hF:(Fa k).map (λk=>((wn ts os k:Nat):Int))=F
   have hFl:F.length=k:=by rw[<-hF]; simp
   obtain⟨S,x7',s1,s2⟩:=zP (os:=os) (k:=k) (p:=os[k]) (F:=F) (x4:=some (.v (.int os[k]))) (x7:=x7) w hn (hp.mem_iff.mp (He hk));have hb:=BY ndo hadj hk hgd s1;have hSl:=len_sub s1.nd s1.sub;have hcut:cutD (os.map IF) (some ((k:Int)+1)) none=(os.drop (k+1)).map .int:=by rw[show (k:Int)+1=((k+1:Nat):Int) by lia,zM _ _ (by rw[D1]; lia),Kf]
   obtain⟨y,ec⟩:=rP (ft:=br (vB (iI false) (aa 0) (wj (aa 1) (dw (vB bH (aa 2) (vC (.int 1)))) dm))) (fe:=aa 0) (cs:=[some (.v (tI os)),some (.v (.int (k:Int)))]) (p:=λy=>decide (y∈os.drop (k+1))) (f:=.int) S [] none (λy _=>by
    have i2:=kP false (os.drop (k+1)) y;refine⟨?_,.t (.v (.int y)),by simp,rfl⟩
    unfold tI;simp only[Kf] at i2 hcut;simp at i2;simp[hcut,i2]) (by simp; unfold lim; lia)
   rw[IT] at ec;have ec:bz (ah 0) (br (vB (iI false) (aa 0) (wj (aa 1) (dw (vB bH (aa 2) (vC (.int 1)))) dm))) (aa 0) (S.map .int) [none,some (.v (tI os)),some (.v (.int (k:Int)))] []=some ((GD os S k).map .int,[y,some (.v (tI os)),some (.v (.int (k:Int)))]):=ec;refine⟨[some (.v (wD ps ts)),some (.v (tI os)),some (.lst (F.map .int)),some (.v (.int (k:Int))),some (.v (.int os[k])),x5,x6,x7],[some (.v (wD ps ts)),some (.v (tI os)),some (.lst ((F++[((wn ts os k:Nat):Int)]).map .int)),some (.v (.int (k:Int))),some (.v (.int os[k])),some (.lst (S.map .int)),some (.lst []),x7'],by simp,?_,k+1,some (.v (.int (k:Int))),some (.v (.int os[k])),some (.lst (S.map .int)),some (.lst []),x7',hr,by lia,?_⟩
   ·refine(aG (ρ1:=[some (.v (wD ps ts)),some (.v (tI os)),some (.lst (F.map .int)),some (.v (.int (k:Int))),some (.v (.int os[k])),some (.lst ([os[k]].map .int)),some (.lst ([os[k]].map .int)),x7]) (by simp[lim])).trans ?_
    refine(aG (ρ1:=[some (.v (wD ps ts)),some (.v (tI os)),some (.lst (F.map .int)),some (.v (.int (k:Int))),some (.v (.int os[k])),some (.lst (S.map .int)),some (.lst []),x7']) s2).trans ?_;have hlim:F.length<1000000:=by lia
    simp[ec,lim,hlim,hb]
   ·rw[<-hF,NW,Iu (l₁:=Fa k)]
    rfl)
 have hk:k=os.length:=by
  have:=congrArg MJ h1;rw[HI,qi,D1] at this;simp at this;lia
 subst hk;refine cY (ρ:=[some (.v (wD ps ts)),some (.v (tI os)),some (.lst ((zO ts os).map .int)),x3,x4,x5,x6,x7]) rfl ?_ rfl;show FF.fK [some (.v (wD ps ts)),some (.v (tI os)),none,none,none,none,none,none]=_;refine(aG (ρ1:=[some (.v (wD ps ts)),some (.v (tI os)),some (.lst []),none,none,none,none,none]) (by simp[lim])).trans ?_
 refine(aG (ρ1:=[some (.v (wD ps ts)),some (.v (tI os)),some (.lst ((zO ts os).map .int)),x3,x4,x5,x6,x7]) ?_).trans (by simp[tI])
 have hen:=rQ (os.map .int);have e:forL (bS 2 (aD (ah 3) (aD (ah 4) bZ))) lwO2 (w4 (os.map .int)) [some (.v (wD ps ts)),some (.v (tI os)),some (.lst []),none,none,none,none,none]=some (.nx [some (.v (wD ps ts)),some (.v (tI os)),some (.lst ((zO ts os).map .int)),x3,x4,x5,x6,x7]):=e;unfold tI at e ⊢;simp[hen];exact e
end
theorem same_int(n:Nat)(i:Int):FF.aE (n+1) [.v (.int i),.v (.int i)]=some (.v (.bool true),[.v (.int i),.v (.int i)]):=by
 have hn:we false (.v (.int i)) (.v .none)=some (.v (.bool false)):=rfl;simp[FF.aE,jF,subB,hn]
theorem zQ(n:Nat){ds:List B1}(hl:ds.length<=1000)(h:∀d∈ds,FF.aE n [.v d,.v d]=some (.v (.bool true),[.v d,.v d])):FF.aE (n+1) [.v (.tuple ds),.v (.tuple ds)]=some (.v (.bool true),[.v (.tuple ds),.v (.tuple ds)]):=by
 obtain⟨x,y,e⟩:=wV (u:=λd:B1=>d) (v:=λd=>d) (fe:=dM (FF.aE n) (ai (aa 0) (af (aa 1)))) (cs:=[]) (f:=λ_=>.bool true) ds [] none none (λd hd=>⟨.t (.v (.bool true)),by simp[h d hd],rfl⟩) (by rw[Ic]; unfold lim; lia)
 rw[IT] at e;have hz:=zK ds;have ha:=all_true ds;have he:kF true (.v (.int (ds.length:Int))) (.v (.int (ds.length:Int)))=some (.v (.bool false)):=by simp
 generalize ds.map (λd=>Ma [d,d])=Z at *
 generalize ds.map (λ_=>Qj true)=B at *
 simp[FF.aE,jF,subB,he,hz,e,ha,-Bs]
theorem same_ints(n:Nat){xs:List Int}(hl:xs.length<=1000):FF.aE (n+2) [.v (tI xs),.v (tI xs)]=some (.v (.bool true),[.v (tI xs),.v (tI xs)]) :=
 zQ (n+1) (by rw[D1]; exact hl) λd hd=>by
  obtain⟨i,_,rfl⟩:=IL.mp hd;exact same_int n i
section
variable{ps:List Int}{ts:List (Int×Int)}
theorem right22{os:List Int}(w:Wb ps ts)(hn:ps.length<=24)(hp:os.Perm ps):FF.bL [.v (wD ps ts),.v (tI os)]=some (.v (.bool true),[.v (wD ps ts),.v (tI os)]):=by
 have h1:=tZ w hn hp;have h2:=widths w hn hp;have h3:=width w hn hp;have hS:(zO ts os).length<=1000:=by
  unfold zO;rw[D1,IV,hp.length_eq];lia
 generalize zO ts os=S at *;have h4:=ve S;have h5:=same_ints 2 hS;have h6:=same_int 3 ((j8 S).getD 0);obtain⟨ρ',e,x3,rfl⟩:=cz (fg:=ah 3) (fb:=aH (cW (lJ (jX (dM (FF.aE 4) (ai (dM FF.bN (ai (aa 0) (af (aa 1)))) (af (aa 2)))))) (cP (vC (.bool false))) bB)
  (cW (lJ (jX (dM (FF.aE 4) (ai (dM FF.dF (ai (aa 0) (af (aa 1)))) (af (fW (mH (0)) (af (aa 2)))))))) (cP (vC (.bool false))) bB)) (P:=λ_ ρ=>∃x3:Option M,ρ=[some (.v (wD ps ts)),some (.v (tI os)),some (.v (tI S)),x3])
  (bu 0 2) [some (.v (wD ps ts)),some (.v (tI os)),some (.v (tI S)),none] ⟨none,rfl⟩ (λd rest ρ hP=>by
   obtain⟨x3,rfl⟩:=hP;refine⟨[some (.v (wD ps ts)),some (.v (tI os)),some (.v (tI S)),some (.v d)],[some (.v (wD ps ts)),some (.v (tI os)),some (.v (tI S)),some (.v d)],by simp,?_,some (.v d),rfl⟩
   refine(aG (ρ1:=[some (.v (wD ps ts)),some (.v (tI os)),some (.v (tI S)),some (.v d)]) ?_).trans ?_
   ·simp[h2,h5]
   ·simp[h3,h4,h6])
 refine cY (ρ:=[some (.v (wD ps ts)),some (.v (tI os)),some (.v (tI S)),x3]) rfl ?_ rfl;show FF.gk [some (.v (wD ps ts)),some (.v (tI os)),none,none]=_;refine(aG (ρ1:=[some (.v (wD ps ts)),some (.v (tI os)),some (.v (tI S)),none]) (by simp[h1])).trans ?_
 refine(aG (ρ1:=[some (.v (wD ps ts)),some (.v (tI os)),some (.v (tI S)),x3]) ?_).trans (by simp)
 have hsm:=small (k:=2) (by lia)
 simp[hsm];exact e
end
noncomputable abbrev lwP:FS:=cW (lJ (jX (dM FF.bL (ai (aa 4) (af (aa 5)))))) (cP (vC (.bool false))) bB
noncomputable abbrev lwQ:FS:=aH (bw 3 (vB (kF false) (dM FF.au (ai (aa 1) (af (vC (.int 4))))) (vC (.int 0))))
 (aH (bw 4 (dM FF.cB (ai (aa 1) (af (dM FF.au (ai (aa 1) (af (gH (di (ai (vC (.int 10)) (af (vC (.int 25))))) (fW iK (af (aa 3)))))))))))
 (fO (cD (cV (ai (gH (aa 4) (vC (.int 0))) (ai (vB yQ (gH (aa 4) (vC (.int 0))) (vU wk (vC (.int 1)))) (af (fW jx (af (dM FF.bE (ai (aa 1) (af (gH (aa 4) (vC (.int 0))))))))))))) (ah 5) lwP))
theorem lwP22_ok{ps:List Int}{ts:List (Int×Int)}{L:Option M}{l:List B1}{x2 x3 x5:Option M}(w:Wb ps ts)(hn:ps.length<=24){oss:List (List Int)}(h:∀os∈oss,os.Perm ps):∃x5',forL (ah 5) lwP (oss.map tI) [L,some (.lst l),x2,x3,some (.v (wD ps ts)),x5]=some (.nx [L,some (.lst l),x2,x3,some (.v (wD ps ts)),x5']):=by
 obtain⟨ρ',e,rs,x5',_,h2,rfl⟩:=cz (fg:=ah 5) (fb:=lwP) (P:=λrest ρ=>∃ (rs:List (List Int)) (x5':Option M),rest=rs.map tI/\(∀os∈rs,os.Perm ps)/\ρ=[L,some (.lst l),x2,x3,some (.v (wD ps ts)),x5']) (oss.map tI) [L,some (.lst l),x2,x3,some (.v (wD ps ts)),x5] ⟨oss,x5,rfl,h,rfl⟩ (λd rest ρ hP=>by
  obtain⟨rs,x5',h1,h2,rfl⟩:=hP;cases rs with
  |nil=>cases h1
  |cons os rs=>
   obtain⟨rfl,rfl⟩:=JY h1;have hr:=right22 w hn (h2 os lS);refine⟨[L,some (.lst l),x2,x3,some (.v (wD ps ts)),some (.v (tI os))],[L,some (.lst l),x2,x3,some (.v (wD ps ts)),some (.v (tI os))],by simp,by simp[lwP,hr],rs,_,rfl,λo ho=>h2 o (lO _ ho),rfl⟩)
 exact⟨x5',e⟩
theorem k22(ns:List Int)(hl:ns.length<=63):∃ms,FF.rN [.v (.list (ns.map .int))]=some (.v (.bool true),ms):=by
 obtain⟨l0,hl0,e0⟩:=Hi ns hl;obtain⟨ρ',e,l',x2,x3,x4,x5,hl',rfl⟩:=cz (fg:=ah 2) (fb:=lwQ) (P:=λ_ ρ=>∃ (l':List B1) (x2 x3 x4 x5:Option M),Pt l'/\ρ=[some (.v (.list (ns.map .int))),some (.lst l'),x2,x3,x4,x5])
  (bu 0 3) [some (.v (.list (ns.map .int))),some (.lst l0),none,none,none,none] ⟨l0,none,none,none,none,hl0,rfl⟩ (λd rest ρ hP=>by
   obtain⟨l',x2,x3,x4,x5,hl',rfl⟩:=hP;obtain⟨r,l1,r0,r1,hl1,e1⟩:=take (m:=4) hl' (by decide) (by decide)
   obtain⟨mm,hM,eM⟩:∃mm:Int,(mm=10\/mm=25)/\jO [IF 10,.int 25] (if r=0 then 1 else 0)=some (.int mm):=by
    by_cases h:r=0
    ·exact⟨25,.inr rfl,by rw[if_pos h]; rfl⟩
    ·exact⟨10,.inl rfl,by rw[if_neg h]; rfl⟩
   obtain⟨n,l2,n0,n1,hl2,e2⟩:=take (m:=mm) hl1 (by lia) (by lia)
   obtain⟨n,rfl⟩:=OS n0;obtain⟨l3,ps,ts,hp,w,hl3,e3⟩:=HB (n:=n) hl2 (by lia)
   obtain⟨l4,qs,hq,hl4,e4⟩:=turned (ps:=ps) hl3 (by lia)
   obtain⟨x5',e5⟩:=lwP22_ok (L:=some (.v (.list (ns.map .int)))) (l:=l4) (x2:=some (.v d)) (x3:=some (.v (.bool (decide (r=0))))) (x5:=x5) w (by lia) (oss:=[ps,ps.reverse,qs]) (by
    intro os ho;simp only[Hk,HH,or_false] at ho;rcases ho with rfl | rfl | rfl
    ·exact .refl _
    ·exact Pr _
    ·exact hq)
   refine⟨[some (.v (.list (ns.map .int))),some (.lst l'),some (.v d),x3,x4,x5],[some (.v (.list (ns.map .int))),some (.lst l4),some (.v d),some (.v (.bool (decide (r=0)))),some (.v (wD ps ts)),x5'],by simp,?_,l4,_,_,_,_,hl4,rfl⟩
   refine(aG (ρ1:=[some (.v (.list (ns.map .int))),some (.lst l1),some (.v d),some (.v (.bool (decide (r=0)))),x4,x5]) (by simp[e1])).trans ?_
   refine(aG (ρ1:=[some (.v (.list (ns.map .int))),some (.lst l3),some (.v d),some (.v (.bool (decide (r=0)))),some (.v (wD ps ts)),x5]) ?_).trans ?_
   ·simp[lim,eM,e2,e3]
   ·have hrev:yQ (.v (tI ps)) (.v (.int (-1)))=some (.v (tI ps.reverse)):=by
     show _=some (M.v (.tuple (ps.reverse.map .int)));rw[List.map_reverse];rfl
    have hneg:wk (.v (.int 1))=some (.v (.int (-1))):=rfl;have hg:jO [tI ps,tD ts] 0=some (tI ps):=rfl;have hsum:jx [.lst (qs.map IF)]=some (.v (tI qs)):=rfl;simp[hg,hneg,hrev,e4,hsum,lim,-yV];exact e5)
 refine⟨_,cY (ρ:=[some (.v (.list (ns.map .int))),some (.lst l'),x2,x3,x4,x5]) rfl ?_ rfl⟩;show FF.mY [some (.v (.list (ns.map .int))),none,none,none,none,none]=_;refine(aG (ρ1:=[some (.v (.list (ns.map .int))),some (.lst l0),none,none,none,none]) (by simp[e0])).trans ?_
 refine(aG (ρ1:=[some (.v (.list (ns.map .int))),some (.lst l'),x2,x3,x4,x5]) ?_).trans (by simp)
 have hsm:=small (k:=3) (by lia)
 simp[hsm];exact e
end PS
end
section
namespace Lk22
open PySem L2 VL PyProof.Rows
theorem ln0{P:List Value->Prop}(h:P []):∀us,us.length=0->P us:=λus e=>by cases us with | nil=>exact h | cons _ _=>cases e
theorem lnS{n:Nat}{P:List Value->Prop}(h:∀a us,us.length=n->P (a::us)):∀us,us.length=n+1->P us:=λus e=>by cases us with | nil=>cases e | cons a us=>exact h a us (Nat.succ.inj e)
theorem all_mk{l:Lg}{w:World}{K:AT}{h:Heap}{mg:Str->Option Value}{fa f1 f2 f3 f4 f5 f6 f7 f8 f9 f10 f11 f12 f13 f14 f15 f16:Addr}(X:K.In h)(G:h.Ns GE mg)(hfa:mg "law" = some (.ref fa))
  {od1 an1 od2 an2 od3 an3 od4 an4 od5 an5 od6 an6 od7 an7 od8 an8 od9 an9 od10 an10 od11 an11 od12 an12 od13 an13 od14 an14 od15 an15 od16 an16:Option Addr} {sl1 sl2 sl3 sl4 sl5 sl6 sl7 sl8 sl9 sl10 sl11 sl12 sl13 sl14 sl15 sl16:Array (Option Value)} {oc1 kV1 dc1 pm1 cd1 ct1 oc2 kV2 dc2 pm2 cd2 ct2 oc3 kV3 dc3 pm3 cd3 ct3 oc4 kV4 dc4 pm4 cd4 ct4 oc5 kV5 dc5 pm5 cd5 ct5 oc6 kV6 dc6 pm6 cd6 ct6 oc7 kV7 dc7 pm7 cd7 ct7 oc8 kV8 dc8 pm8 cd8 ct8 oc9 kV9 dc9 pm9 cd9 ct9 oc10 kV10 dc10 pm10 cd10 ct10 oc11 kV11 dc11 pm11 cd11 ct11 oc12 kV12 dc12 pm12 cd12 ct12 oc13 kV13 dc13 pm13 cd13 ct13 oc14 kV14 dc14 pm14 cd14 ct14 oc15 kV15 dc15 pm15 cd15 ct15 oc16 kV16 dc16 pm16 cd16 ct16:Value}
  (a1:HJ K GE "nears" = some (some (.ref f1))) (l1:K.lookup f1=some ⟨oc1,od1,.func (HZ "nears" "nears" (aY s_nears) (aQ s_nears) (ao s_nears) .none kV1 dc1 pm1 an1 cd1 ct1),sl1⟩) (c1:Hb K cd1 "nears" = true) (k1:HY K (.ref f1)=true)
  (a2:HJ K GE "steps_from" = some (some (.ref f2))) (l2:K.lookup f2=some ⟨oc2,od2,.func (HZ "steps_from" "steps_from" (aY s_steps_from) (aQ s_steps_from) (ao s_steps_from) .none kV2 dc2 pm2 an2 cd2 ct2),sl2⟩) (c2:Hb K cd2 "steps_from" = true) (k2:HY K (.ref f2)=true)
  (a3:HJ K GE "width_at" = some (some (.ref f3))) (l3:K.lookup f3=some ⟨oc3,od3,.func (HZ "width_at" "width_at" (aY s_width_at) (aQ s_width_at) (ao s_width_at) .none kV3 dc3 pm3 an3 cd3 ct3),sl3⟩) (c3:Hb K cd3 "width_at" = true) (k3:HY K (.ref f3)=true)
  (a4:HJ K GE "widths" = some (some (.ref f4))) (l4:K.lookup f4=some ⟨oc4,od4,.func (HZ "widths" "widths" (aY s_widths) (aQ s_widths) (ao s_widths) .none kV4 dc4 pm4 an4 cd4 ct4),sl4⟩) (c4:Hb K cd4 "widths" = true) (k4:HY K (.ref f4)=true)
  (a5:HJ K GE "width" = some (some (.ref f5))) (l5:K.lookup f5=some ⟨oc5,od5,.func (HZ "width" "width" (aY s_width) (aQ s_width) (ao s_width) .none kV5 dc5 pm5 an5 cd5 ct5),sl5⟩) (c5:Hb K cd5 "width" = true) (k5:HY K (.ref f5)=true)
  (a6:HJ K GE "_law_pot" = some (some (.ref f6))) (l6:K.lookup f6=some ⟨oc6,od6,.func (HZ "_law_pot" "_law_pot" (aY s_law_pot) (aQ s_law_pot) (ao s_law_pot) .none kV6 dc6 pm6 an6 cd6 ct6),sl6⟩) (c6:Hb K cd6 "_law_pot" = true) (k6:HY K (.ref f6)=true)
  (a7:HJ K GE "_law_take" = some (some (.ref f7))) (l7:K.lookup f7=some ⟨oc7,od7,.func (HZ "_law_take" "_law_take" (aY s_law_take) (aQ s_law_take) (ao s_law_take) .none kV7 dc7 pm7 an7 cd7 ct7),sl7⟩) (c7:Hb K cd7 "_law_take" = true) (k7:HY K (.ref f7)=true)
  (a8:HJ K GE "_law_places" = some (some (.ref f8))) (l8:K.lookup f8=some ⟨oc8,od8,.func (HZ "_law_places" "_law_places" (aY s_law_places) (aQ s_law_places) (ao s_law_places) .none kV8 dc8 pm8 an8 cd8 ct8),sl8⟩) (c8:Hb K cd8 "_law_places" = true) (k8:HY K (.ref f8)=true)
  (a9:HJ K GE "_law_pairs" = some (some (.ref f9))) (l9:K.lookup f9=some ⟨oc9,od9,.func (HZ "_law_pairs" "_law_pairs" (aY s_law_pairs) (aQ s_law_pairs) (ao s_law_pairs) .none kV9 dc9 pm9 an9 cd9 ct9),sl9⟩) (c9:Hb K cd9 "_law_pairs" = true) (k9:HY K (.ref f9)=true)
  (a10:HJ K GE "_law_web" = some (some (.ref f10))) (l10:K.lookup f10=some ⟨oc10,od10,.func (HZ "_law_web" "_law_web" (aY s_law_web) (aQ s_law_web) (ao s_law_web) .none kV10 dc10 pm10 an10 cd10 ct10),sl10⟩) (c10:Hb K cd10 "_law_web" = true) (k10:HY K (.ref f10)=true)
  (a11:HJ K GE "_law_turned" = some (some (.ref f11))) (l11:K.lookup f11=some ⟨oc11,od11,.func (HZ "_law_turned" "_law_turned" (aY s_law_turned) (aQ s_law_turned) (ao s_law_turned) .none kV11 dc11 pm11 an11 cd11 ct11),sl11⟩) (c11:Hb K cd11 "_law_turned" = true) (k11:HY K (.ref f11)=true)
  (a12:HJ K GE "_law_near" = some (some (.ref f12))) (l12:K.lookup f12=some ⟨oc12,od12,.func (HZ "_law_near" "_law_near" (aY s_law_near) (aQ s_law_near) (ao s_law_near) .none kV12 dc12 pm12 an12 cd12 ct12),sl12⟩) (c12:Hb K cd12 "_law_near" = true) (k12:HY K (.ref f12)=true)
  (a13:HJ K GE "_law_widths" = some (some (.ref f13))) (l13:K.lookup f13=some ⟨oc13,od13,.func (HZ "_law_widths" "_law_widths" (aY s_law_widths) (aQ s_law_widths) (ao s_law_widths) .none kV13 dc13 pm13 an13 cd13 ct13),sl13⟩) (c13:Hb K cd13 "_law_widths" = true) (k13:HY K (.ref f13)=true)
  (a14:HJ K GE "_law_same" = some (some (.ref f14))) (l14:K.lookup f14=some ⟨oc14,od14,.func (HZ "_law_same" "_law_same" (aY s_law_same) (aQ s_law_same) (ao s_law_same) .none kV14 dc14 pm14 an14 cd14 ct14),sl14⟩) (c14:Hb K cd14 "_law_same" = true) (k14:HY K (.ref f14)=true)
  (a15:HJ K GE "_law_right" = some (some (.ref f15))) (l15:K.lookup f15=some ⟨oc15,od15,.func (HZ "_law_right" "_law_right" (aY s_law_right) (aQ s_law_right) (ao s_law_right) .none kV15 dc15 pm15 an15 cd15 ct15),sl15⟩) (c15:Hb K cd15 "_law_right" = true) (k15:HY K (.ref f15)=true)
  (a16:HJ K GE "law" = some (some (.ref f16))) (l16:K.lookup f16=some ⟨oc16,od16,.func (HZ "law" "law" (aY s_law) (aQ s_law) (ao s_law) .none kV16 dc16 pm16 an16 cd16 ct16),sl16⟩) (c16:Hb K cd16 "law" = true) (k16:HY K (.ref f16)=true)
  (z_sorted:HJ K GE "sorted" = some none)
  (z_tuple:HJ K GE "tuple" = some none)
  (z_len:HJ K GE "len" = some none)
  (z_enumerate:HJ K GE "enumerate" = some none)
  (z_max:HJ K GE "max" = some none)
  (z_abs:HJ K GE "abs" = some none)
  (z_range:HJ K GE "range" = some none)
  (z_set:HJ K GE "set" = some none)
  (z_int:HJ K GE "int" = some none)
  (z_isinstance:HJ K GE "isinstance" = some none)
  (z_bool:HJ K GE "bool" = some none)
  (z_str:HJ K GE "str" = some none)
  (z_zip:HJ K GE "zip" = some none)
  (z_all:HJ K GE "all" = some none)
  : ∃fd:Jv,(∀(s:B2)(v:Value),OP s fd ⟨[v],[]⟩ [("_law_script",v)])/\∀base:Heap,K.In base->base.Ns GE mg->cF l.prog w K mg base jc 7 fa fd ["_law_script"] (p7 K):=by
 have e:=hfa.symm.trans (IN X G a16);cases e;have F1:=cG (st:=s_nears) l1 c1 k1;have b1:=F1.binds (ps:=["web"]) λ_ _ _ _ _ _=>lnS λ_=>ln0 rfl
 have m1:=IN X G a1;have F2:=cG (st:=s_steps_from) l2 c2 k2;have b2:=F2.binds (ps:=["beside", "some", "start"]) λ_ _ _ _ _ _=>lnS λ_=>lnS λ_=>lnS λ_=>ln0 rfl
 have m2:=IN X G a2;have F3:=cG (st:=s_width_at) l3 c3 k3;have b3:=F3.binds (ps:=["ties_of", "some", "place"]) λ_ _ _ _ _ _=>lnS λ_=>lnS λ_=>lnS λ_=>ln0 rfl
 have m3:=IN X G a3;have F4:=cG (st:=s_widths) l4 c4 k4;have b4:=F4.binds (ps:=["web", "order"]) λ_ _ _ _ _ _=>lnS λ_=>lnS λ_=>ln0 rfl
 have m4:=IN X G a4;have F5:=cG (st:=s_width) l5 c5 k5;have b5:=F5.binds (ps:=["web", "order"]) λ_ _ _ _ _ _=>lnS λ_=>lnS λ_=>ln0 rfl
 have m5:=IN X G a5;have F6:=cG (st:=s_law_pot) l6 c6 k6;have b6:=F6.binds (ps:=["_law_script"]) λ_ _ _ _ _ _=>lnS λ_=>ln0 rfl
 have m6:=IN X G a6;have F7:=cG (st:=s_law_take) l7 c7 k7;have b7:=F7.binds (ps:=["_law_pot_here", "_law_many"]) λ_ _ _ _ _ _=>lnS λ_=>lnS λ_=>ln0 rfl
 have m7:=IN X G a7;have F8:=cG (st:=s_law_places) l8 c8 k8;have b8:=F8.binds (ps:=["_law_pot_here", "_law_many"]) λ_ _ _ _ _ _=>lnS λ_=>lnS λ_=>ln0 rfl
 have m8:=IN X G a8;have F9:=cG (st:=s_law_pairs) l9 c9 k9;have b9:=F9.binds (ps:=["_law_pot_here", "_law_many"]) λ_ _ _ _ _ _=>lnS λ_=>lnS λ_=>ln0 rfl
 have m9:=IN X G a9;have F10:=cG (st:=s_law_web) l10 c10 k10;have b10:=F10.binds (ps:=["_law_pot_here", "_law_many"]) λ_ _ _ _ _ _=>lnS λ_=>lnS λ_=>ln0 rfl
 have m10:=IN X G a10;have F11:=cG (st:=s_law_turned) l11 c11 k11;have b11:=F11.binds (ps:=["_law_pot_here", "_law_some"]) λ_ _ _ _ _ _=>lnS λ_=>lnS λ_=>ln0 rfl
 have m11:=IN X G a11;have F12:=cG (st:=s_law_near) l12 c12 k12;have b12:=F12.binds (ps:=["_law_web_here", "_law_place"]) λ_ _ _ _ _ _=>lnS λ_=>lnS λ_=>ln0 rfl
 have m12:=IN X G a12;have F13:=cG (st:=s_law_widths) l13 c13 k13;have b13:=F13.binds (ps:=["_law_web_here", "_law_order"]) λ_ _ _ _ _ _=>lnS λ_=>lnS λ_=>ln0 rfl
 have m13:=IN X G a13;have F14:=cG (st:=s_law_same) l14 c14 k14;have b14:=F14.binds (ps:=["_law_found", "_law_due"]) λ_ _ _ _ _ _=>lnS λ_=>lnS λ_=>ln0 rfl
 have m14:=IN X G a14;have F15:=cG (st:=s_law_right) l15 c15 k15;have b15:=F15.binds (ps:=["_law_web_here", "_law_order"]) λ_ _ _ _ _ _=>lnS λ_=>lnS λ_=>ln0 rfl
 have m15:=IN X G a15;have F16:=cG (st:=s_law) l16 c16 k16;have b16:=F16.binds (ps:=["_law_script"]) λ_ _ _ _ _ _=>lnS λ_=>ln0 rfl
 have m16:=IN X G a16;have T:Txt mg:=⟨Hd X G z_sorted,Hd X G z_tuple,Hd X G z_len,Hd X G z_enumerate,Hd X G z_max,Hd X G z_abs,Hd X G z_range,Hd X G z_set,Hd X G z_int,Hd X G z_isinstance,Hd X G z_bool,Hd X G z_str,Hd X G z_zip,Hd X G z_all⟩;refine⟨HZ "law" "law" (aY s_law) (aQ s_law) (ao s_law) .none kV16 dc16 pm16 an16 cd16 ct16,λs v=>.of_eq rfl,λbase _ _=>?_⟩
 have C_nears:aT l.prog w K mg base "nears" ["web"] 1 (cS K FF.eW):=⟨f1,_,ok_nears F1 T,b1,F1.kp,m1⟩;have C_steps_from:aT l.prog w K mg base "steps_from" ["beside", "some", "start"] 1 (cS K FF.bF):=⟨f2,_,ok_steps_from F2 T,b2,F2.kp,m2⟩;have C_width_at:aT l.prog w K mg base "width_at" ["ties_of", "some", "place"] 2 (cS K FF.bW):=⟨f3,_,ok_width_at F3 T C_steps_from,b3,F3.kp,m3⟩;have C_widths:aT l.prog w K mg base "widths" ["web", "order"] 3 (cS K FF.bN):=⟨f4,_,ok_widths F4 T C_width_at C_nears,b4,F4.kp,m4⟩;have C_width:aT l.prog w K mg base "width" ["web", "order"] 4 (cS K FF.dF):=⟨f5,_,ok_width F5 T C_widths,b5,F5.kp,m5⟩;have C_law_pot:aT l.prog w K mg base "_law_pot" ["_law_script"] 1 (cS K FF.cZ):=⟨f6,_,ok_law_pot F6 T,b6,F6.kp,m6⟩;have C_law_take:aT l.prog w K mg base "_law_take" ["_law_pot_here", "_law_many"] 1 (cS K FF.au):=⟨f7,_,ok_law_take F7 T,b7,F7.kp,m7⟩;have C_law_places:aT l.prog w K mg base "_law_places" ["_law_pot_here", "_law_many"] 2 (cS K FF.bT):=⟨f8,_,ok_law_places F8 T C_law_take,b8,F8.kp,m8⟩;have C_law_pairs:aT l.prog w K mg base "_law_pairs" ["_law_pot_here", "_law_many"] 2 (cS K FF.cu):=⟨f9,_,ok_law_pairs F9 T C_law_take,b9,F9.kp,m9⟩;have C_law_web:aT l.prog w K mg base "_law_web" ["_law_pot_here", "_law_many"] 3 (cS K FF.cB):=⟨f10,_,ok_law_web F10 T C_law_pairs C_law_places,b10,F10.kp,m10⟩;have C_law_turned:aT l.prog w K mg base "_law_turned" ["_law_pot_here", "_law_some"] 2 (cS K FF.bE):=⟨f11,_,ok_law_turned F11 T C_law_take,b11,F11.kp,m11⟩;have C_law_near:aT l.prog w K mg base "_law_near" ["_law_web_here", "_law_place"] 1 (cS K FF.bV):=⟨f12,_,ok_law_near F12 T,b12,F12.kp,m12⟩;have C_law_widths:aT l.prog w K mg base "_law_widths" ["_law_web_here", "_law_order"] 2 (cS K FF.bU):=⟨f13,_,ok_law_widths F13 T C_law_near,b13,F13.kp,m13⟩;have C_law_same:aT l.prog w K mg base "_law_same" ["_law_found", "_law_due"] 5 (cS K (FF.aE 4)):=⟨f14,_,ok_law_same F14 T b14 m14 4,b14,F14.kp,m14⟩;have C_law_right:aT l.prog w K mg base "_law_right" ["_law_web_here", "_law_order"] 6 (cS K FF.bL):=⟨f15,_,ok_law_right F15 T C_law_same C_width C_widths C_law_widths,b15,F15.kp,m15⟩;exact Ej (ok_law F16 T C_law_turned C_law_right C_law_web C_law_take C_law_pot) PS.k22
theorem walk{l:Lg}{q:Fk}{loose:List Str}{XP:(Str->Option Value)->Heap->Prop}{YP:World->Heap->Prop}{d:DefRec}{K:Params->AT}(hn:l.most=some 63)(hdf:d.params.defaults=[])
  (hY:∀(w:World)(h:Heap),YP w h->(K w.params).In h)
  (F:∀(w:World)(mg:Str->Option Value)(fa:Addr)(h:Heap),(K w.params).In h->h.Ns GE mg->mg d.name=some (.ref fa) ->
   ∃fd:Jv,(∀(s:B2)(u:Value),OP s fd ⟨[u],[]⟩ [("_law_script",u)])/\∀base:Heap,(K w.params).In base->base.Ns GE mg->cF l.prog w (K w.params) mg base jc 7 fa fd ["_law_script"] (p7 (K w.params))) :
  Q1 q loose XP YP l.row.toRowW d [] (λf vs=>Ou f vs) :=
 L2.Ay (n:=63) (k:=7) (x := "_law_script") (CX:=λ_=>jc) (sp:=λw=>p7 (K w.params)) hn (by decide) hdf ⟨rfl,by decide,by decide,rfl⟩ hY F (λ_ _ a ns hl _ hS=>⟨a,ns,rfl,hS,hl,λ_=>rfl⟩) λ_ _ _ _ _ z=>z
end Lk22
open PySem PySem.W PyProof.Rows
theorem PySem.Challenge.cw_drawnweb_k22_widths_of_orders_holds : PySem.Challenge.rw_drawnweb_k22_widths_of_orders.Holds := by
 w_on; o_law; k_head; (case hw=>w_witness2)
 k_fill
 refine Lk22.walk (l:=PySem.Challenge.rw_drawnweb_k22_widths_of_orders) rfl rfl (λw h Y=>PySem.W.kIn_of Y) ?F
 case F=>
  intro w mg fa h KX G hmg
  refine' Lk22.all_mk KX G hmg ?a1 ?l1 ?c1 ?k1 ?a2 ?l2 ?c2 ?k2 ?a3 ?l3 ?c3 ?k3 ?a4 ?l4 ?c4 ?k4 ?a5 ?l5 ?c5 ?k5 ?a6 ?l6 ?c6 ?k6 ?a7 ?l7 ?c7 ?k7 ?a8 ?l8 ?c8 ?k8 ?a9 ?l9 ?c9 ?k9 ?a10 ?l10 ?c10 ?k10 ?a11 ?l11 ?c11 ?k11 ?a12 ?l12 ?c12 ?k12 ?a13 ?l13 ?c13 ?k13 ?a14 ?l14 ?c14 ?k14 ?a15 ?l15 ?c15 ?k15 ?a16 ?l16 ?c16 ?k16 ?z_sorted ?z_tuple ?z_len ?z_enumerate ?z_max ?z_abs ?z_range ?z_set ?z_int ?z_isinstance ?z_bool ?z_str ?z_zip ?z_all
  (case a1=>k_is); (case l1=>k_is); (case c1=>k_is); (case k1=>k_is)
  (case a2=>k_is); (case l2=>k_is); (case c2=>k_is); (case k2=>k_is)
  (case a3=>k_is); (case l3=>k_is); (case c3=>k_is); (case k3=>k_is)
  (case a4=>k_is); (case l4=>k_is); (case c4=>k_is); (case k4=>k_is)
  (case a5=>k_is); (case l5=>k_is); (case c5=>k_is); (case k5=>k_is)
  (case a6=>k_is); (case l6=>k_is); (case c6=>k_is); (case k6=>k_is)
  (case a7=>k_is); (case l7=>k_is); (case c7=>k_is); (case k7=>k_is)
  (case a8=>k_is); (case l8=>k_is); (case c8=>k_is); (case k8=>k_is)
  (case a9=>k_is); (case l9=>k_is); (case c9=>k_is); (case k9=>k_is)
  (case a10=>k_is); (case l10=>k_is); (case c10=>k_is); (case k10=>k_is)
  (case a11=>k_is); (case l11=>k_is); (case c11=>k_is); (case k11=>k_is)
  (case a12=>k_is); (case l12=>k_is); (case c12=>k_is); (case k12=>k_is)
  (case a13=>k_is); (case l13=>k_is); (case c13=>k_is); (case k13=>k_is)
  (case a14=>k_is); (case l14=>k_is); (case c14=>k_is); (case k14=>k_is)
  (case a15=>k_is); (case l15=>k_is); (case c15=>k_is); (case k15=>k_is)
  (case a16=>k_is); (case l16=>k_is); (case c16=>k_is); (case k16=>k_is)
  (case z_sorted=>k_is); (case z_tuple=>k_is); (case z_len=>k_is); (case z_enumerate=>k_is); (case z_max=>k_is); (case z_abs=>k_is); (case z_range=>k_is); (case z_set=>k_is); (case z_int=>k_is); (case z_isinstance=>k_is); (case z_bool=>k_is); (case z_str=>k_is); (case z_zip=>k_is); (case z_all=>k_is)
end
