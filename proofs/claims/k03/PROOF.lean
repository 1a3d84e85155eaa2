import PyProof.Rows.All
import Wide.All
import OpenK.AllK
import Wide.FinOn
import Lean
import PyProof.EqAt
import PyProof.EqKinds
import PyProof.TupleCall
import KE.KDictOf
import PyProof.AttrMissHeap
import PyProof.ReprRoads
import PySem.Challenge.RW_drawnweb_k03_pieces_and_what_hangs
set_option Elab.async false
set_option linter.all false
set_option maxRecDepth 100000
set_option maxHeartbeats 0
theorem oB{α β:Type _}{x:Option α}{f:α->Option β}{b:β}(h:x.bind f=some b):∃a,x=some a/\f a=some b:=Option.bind_eq_some_iff.mp h
theorem lR{α:Type _}{a:α}(as:List α){bs:List α}(h:a∈bs):a∈as++bs:=List.mem_append_right as h
theorem lL{α:Type _}{a:α}{as:List α}(bs:List α)(h:a∈as):a∈as++bs:=List.mem_append_left bs h
theorem lM{α:Type _}{a:α}{s t:List α}(h:a∈s++t):a∈s\/a∈t:=List.mem_append.mp h
theorem lS{α:Type _}{a:α}{l:List α}:a∈a::l:=List.mem_cons_self
theorem lO{α:Type _}(y:α){a:α}{l:List α}(h:a∈l):a∈y::l:=List.mem_cons_of_mem y h
theorem lK{α:Type _}{a b:α}{l:List α}(h:a∈b::l):a=b\/a∈l:=List.mem_cons.mp h
open And renaming intro->Oj
open Array renaming length_toList->Do,getElem?_toList->Hc,getElem?_eq_some_iff->J9,perm_iff_toList_perm->JW,getD->Jw,toList_push->L6,replicate->Nb,getElem?_setIfInBounds->Nc,size_map->O0,toList_filterMap->Oc,mem_toList_iff->P6,forIn_toList->PY,ext_getElem?->PZ,append_assoc->Pa,toList->R7
open Bool renaming false_eq_true->GM,and_eq_true->IW,false_ne_true->JC,not_true->Ka,true_and->Mp,not_false->OC,and_false->OD,beq_eq_decide_eq->P5,and_self->R6
open Classical renaming byContradiction->IU,propDecidable->Lk
open False renaming elim->Kh
open ForInStep renaming yield->Lu
open Int renaming toNat_natCast->JZ,emod_nonneg->Ky,emod_lt_of_pos->L3,ne_of_lt->MK,eq_ofNat_of_zero_le->Oi
open List renaming length_map->BM,append_assoc->Bi,getElem?_eq_getElem->Bn,length_cons->Bz,mem_singleton->D1,getElem?_eq_some_iff->DD,append_nil->EQ,size_toArray->Ee,length_append->FB,map_cons->FC,replicate->FK,nodup_append->FM,take_append_drop->FX,pairwise_append->Fs,range->Fu,getD_eq_getElem?_getD->Ha,length_take->Hb,mem_map->Hd,getElem?_append_left->He,map_map->Hk,not_mem_nil->Hm,length_drop->IA,getElem?_map->IC,getElem?_append_right->IH,getElem_of_mem->II,nodup_cons->IM,map_congr_left->IN,mem_cons->IQ,mem_of_getElem?->IS,getElem_mem->IV,lookup_cons->Ia,length_nil->Ic,pairwise_cons->Ig,pairwise_iff_getElem->Ij,nil_append->Im,getElem?_take_of_lt->Ir,map_append->Iw,drop_eq_getElem_cons->Iy,reverse_reverse->JA,mem_range->JB,getElem?_set_self->JH,nodup_nil->JL,find?_cons->JO,mem_of_mem_take->JR,length_range->JY,perm_append_comm->Jg,length_singleton->Jh,zip_cons_cons->Jl,take_length->Jm,any_cons->Jp,mem_of_mem_drop->Js,mem_filter->Jx,take_of_length_le->K0,all_eq_true->K2,drop_drop->K3,getElem?_eq_none->K4,pairwise_map->KA,flatten_cons->KB,filterMap_cons->KJ,drop_zero->KN,take_append_of_le_length->KR,getElem_take->Ke,ext_getElem?->Kf,getD->Kn,getElem?_zip_eq_some->Kq,getElem?_drop->Kx,getElem?_set->L7,filter_cons->LD,drop_length->LF,map_drop->LM,drop_append_of_le_length->LN,foldl_cons->LQ,getElem?_range->LV,perm_append_singleton->Lf,mem_filterMap->Lg,extract_eq_take_drop->Lm,map_take->Ls,map_nil->MB,of_mem_zip->MJ,length_replicate->MN,length->MW,getElem?_set_ne->MX,drop_nil->Mo,find?_eq_none->Mr,toArray->NA,set_set->NB,getElem_drop->NC,any_map->ND,zipIdx_cons->NQ,map_snd_zip->NR,isEmpty_nil->NS,eq_nil_of_length_eq_zero->NY,forIn_cons->Nf,filter_nil->Ng,take_zero->O9,perm_ext_iff_of_nodup->OA,pairwise_singleton->Oa,length_eq_zero_iff->Ob,pairwise_lt_range->Og,all_map->Oh,length_filter_le->Oz,map_id->PB,map->PD,flatten_append->PX,zip_nil_right->Pf,foldl->Pg,filter_append->Ph,filterMap_map->Pi,zip_nil_left->Q0,take_sublist->Q1,nil_sublist->QC,zip_append->QT,zipIdx_nil->QU,length_zip->QV,length_set->QW,take_succ->Qg,forIn_nil->Qh,drop_take->Qi,take_nil->R5
open List.Pairwise renaming sublist->NT,imp₂->Na,nil->OB
open List.Perm renaming append_left->IT,eq_of_pairwise->NZ
open List.Sublist renaming refl->KQ
open List.cons renaming inj->Jf
open Nat renaming le_refl->D2,ne_of_lt->Db,lt_of_lt_of_le->Fk,zero_le->Hn,le_trans->Ip,le_succ->Iq,le_of_lt->JI,lt_succ_of_lt->JJ,mod_eq_of_lt->Jn,pow_succ->Jr,ne_of_gt->KC,lt_irrefl->KF,mod_lt->KU,succ_pos->Kp,eq_zero_or_pos->L0,add_sub_cancel_left->L4,le_add_right->LL,not_lt_zero->LU,zero_add->Lc,lt_trichotomy->Lr,add_assoc->Lz,lt_succ_self->M5,lt_trans->MG,not_lt->N7,lt_or_eq_of_le->N8,lt_or_ge->NJ,le_of_succ_le->NK,le_of_not_lt->NX,min_eq_left->Nz,succ_add->Ov,sub_zero->Ox,pow_zero->Oy,add_mod->PV,mod_mod_of_dvd->Px,mod_eq_sub_mod->Py,lt_of_le_of_lt->Pz,lt_of_succ_le->QA,le_succ_of_le->QB,min_le_right->QR,max_eq_right->QS,strongRecOn->Qe,mod_add_div->Qf
open Ne renaming symm->Kr
open Option renaming bind_some->IG,isSome_iff_exists->Iz,map_eq_some_iff->JF,map_some->M4,isSome_map->Mq,map_eq_none_iff->OS,isSome_some->P9,getD_none->Pe,none->R4
open Option.some renaming inj->Go
open Or renaming inl->IL,inr->KZ
open PyProof.Rows renaming wpS_bind->Dx,wpS_pure->FR,SortSt->IE,wpS_forRange->J2,seqObj->J7,slot_tuple_getitem->JE,callWith_type1->JK,IntsAre->JS,SortKind->JV,wpS_mono->K9,pendingOf->Kj,failedOf->Kt,callWith_builtin1->Kw,wpS_modify->Ly,wpS_get->MA,envOfC->Mc,AllBare->Md,entry_list_sort->Mg,wpS_lift->N4,slot_list_sort->N5,args_list_sort->N6,listUpdate_at->NP,assignInOrder_cons->NV,plain_sorted->Nu,keyKind'->Nv,entry_sorted->Nw,args_sorted1->Ny,kind_sorted->OQ,keyLt'->Ou,subscriptTail->PR,sortedAll_old->PU,lt_int->Pd,subscriptTail_builtinR->Pt,sortedAll_at->Pu,listItems_at->Pw,seqEpoch_at->QP,gallopOf->QQ,ge_int->Qc,entry_tuple_getitem->Qd,size_push'->Qy,args_tuple_getitem->Qz,Subscript_->R3
open PyProof.Rows.F renaming plain_set_update_loop->KY,entry_set_update_loop->Lq
open PyProof.Rows.IntsAre renaming int_at->NW
open PyProof.Rows.IsTup renaming new->OR
open PyProof.Rows.SortSt renaming mk'->LY
open PySem renaming wpAny_bind->AC,wpAny_pure->At,Shared->B1,PyData->B2,sizeLine->FV,starEach->Fa,Program->Fm,Spec->GE,mainGlobals->GT,wpAny_newObj_type->IB,Around->ID,cellsFrom->IF,wpAny_holding->IK,foldedSetIterable->IP,wpAny_call_entry->IR,sizeLine_eq->IX,SetTable->IY,compareOp->IZ,intKind->Ih,wpAny_callSpecial?_slot->Ii,tupleKeyHash->Ix,wpAny_setField_rec->J0,Builtin->J1,behindInMarks->J5,wpAny_setState_of->JN,Paired->JQ,wpAny_Call_Name_kw->JT,wpAny_field->JU,wpAny_seqItems->Ja,wpAny_rule->Jb,sysModules->Jc,NameKind->Jd,codeAny_builtin->Jj,binaryOp->Jq,bootBuiltins->Jv,wpAny_mono->K1,swapsWith->K6,FuncData->K7,wpAny_loadPart'->KG,mem_of_lookup->KH,wpAny_comprehension_free->KO,assignEach->KP,wpAny_typeNameOfWhole_keyiter->Kb,wpAny_passesOwn->Kg,wpAny_standAt->Ki,wpAny_truthy_bool->Kk,codeAny->Kl,pyNext->Ks,wpAny_typeOf->Ku,wpAny_askSetting->Kv,wpAny_attempt->L5,backTo->L8,IsTupleKey->L9,firstArgMember->LG,codeAny_compStart_list->LH,wpAny_forIn_list->LR,assign->LS,wpAny_newList->LW,holding->LX,sliceBounds->LZ,compEnvC->La,rawInt->Lh,wpAny_pyIter_tuple->Lv,tupleKind_room_in1->Lw,wpAny_pyIter_list->M6,getItem->M7,plainId_quiet->MD,IsPair->ME,wpAny_isInstance->MO,standAt->MY,intKind_is->MZ,codeAny_mono->Ma,wpAny_execs_nil->Me,letOwnedTupleGo->Mf,builtinLookup_eq_fast->Mh,wpAny_updateSeq_pair->Ms,wpAny_runValue->Mv,wpAny_of_eq->Mw,wpAny_newFunctionEnv->Mx,wpAny_fieldsOf->My,unsupported->Mz,Operator->N2,IsPart->N3,PassesOwn->N9,wpAny_setEntries_of->NF,noFill_tuple_add->NG,wpAny_onRaise->NL,swapsWithSole->NM,swappedStores->NN,compTurn_list->NO,wpAny_storeSet_of->Nh,wpAny_pyIter_slot->Ni,wpAny_dictEntries->Nj,wpAny_assign_Name->Nk,valueAt->Nl,searchCouldBeSeen->Nn,callerA->No,tupleKind->OE,seq_tuple_add->OF,pyIter->OG,subscripted->OL,wpAny_specialOf->OT,wpAny_dictEpoch->OU,typeLookup_type->OV,pushCells_keeps->OW,concat_meets->OX,codeAny_of_tree->OY,BindsTo->Of,stored->Ol,isTrue->Om,isSubtype_type->On,isSubtype_stop->Oo,compPost->Op,checkCount->Oq,wpAny_handled->PF,setSearchFrom->PH,comprehension->PJ,call->PK,attributeBase->PL,assignInOrder->PM,putSet_of->Pb,wpAny_pyNext_list_item->Pj,richCompare_meets_room->Pk,newExc->Pn,firstIterPos->Po,wpAny_pyNext_list_end->Q2,wpAny_notOrdered_dict->Q3,wpAny_isTrue_Compare1->Q4,wpAny_isSame_ref_self->Q5,wpAny_isOneOf_keyiter->Q6,wpAny_eqIsQuiet_tuple->Q7,exec_Assign_Name_used->Q8,wpAny_throw->QD,wpAny_loadName_local->QE,wpAny_letGo->QF,setField->QG,seqIndex_of->QH,entryFor->QI,bindName->QJ,ReadsAll->QK,GenState->QL,wpAny_loadName_cell->QX,wpAny_dictSet_pairs->QY,wpAny_load->Qj,wpAny_eqBool_tuple->Qk,wpAny_Name->Ql,typeLookup->Qm,setsByText->Qn,layNew->Qo,getattributeRaised->Qp,firstAsync->Qq,call_meets->Qr,builtinsNs->Qs,Result->Qv
open PySem.Around renaming under_plainId->Jo
open PySem.AutoSeq1 renaming sub_tuple_tuple->Nd
open PySem.Builtin.Dict renaming updateFrom->NI,showsAll->NU
open PySem.Builtin.Dict_items renaming ownsTuple->M9
open PySem.Builtin.Frozenset renaming updateFrom->MF,slot0->QM,sizeOf->QN,newClass->QO
open PySem.Builtin.Int renaming intBits->M3
open PySem.Builtin.List renaming listExtendWith->LB,listTooLong->LP,listLengthHint->Mn
open PySem.Builtin.Slice renaming slicePlaces->KW,sliceAdjust->LJ,sliceApplied->Mm
open PySem.Builtin.SmallTypes renaming nextOf->Is,ownedTupleIsFree->Ji,ownedTupleHandOut->Le
open PySem.Builtin.Str renaming occurrences->Jk
open PySem.Builtin.Tuple renaming tupleExact->Kc,tupleCompareSizes->MM,tupleItemsOf->Ml
open PySem.Calls renaming call_function_entry->Km,spliced_nil->Ll,spliced_cons->Mj,Name_function_global->Nt,callWith_builtin->OZ
open PySem.Code renaming quiet_builtin->Pc
open PySem.F renaming slot_dict_keyiterator_next->JM,called_set->Je,slot_list_append->Jt,type_list_append->K8,plainAttrs_list->KD,slot_tuple_iterator_next->Ko,args_tuple_add_2->Lj,entry_tuple_add->Lo,slot_tuple_add->Lx,slot_list_getattribute->M2,args_dict_keyiterator_next_1->MT,slot_zip_next->MU,entry_dict_keyiterator_next->MV,slot_dict_values->Nr,plain_list_iadd->O8,slot_dict_iter->OI,args_tuple_iterator_next_1->OJ,slot_set_iter->ON,plain_set_new->OO,entry_tuple_iterator_next->OP,args_zip_next_1->Qb,entry_zip_next->Qx
open PySem.Heap renaming get?_push_of_some->Ap,lt_size->Ch,get?_push_size->Da,size_push->HI,SameBut->JG,get?_update_self->LC,get?_push_ne->Ln,size_update->M0,get?_update_other->M8,ExtBut->P8
open PySem.Heap.DictOf renaming new->Oe
open PySem.Heap.SameBut renaming update->LA,refl->LO
open PySem.NameKind renaming free->Iv,cell->MS
open PySem.Obj renaming mapSeq->JD,putSet->Kz,data_mapFields->Ps
open PySem.Paired renaming length->Jz,snoc->Qw
open PySem.PassesOwn renaming never->Iu
open PySem.PyData renaming canLayAll0->Il,int->J3,eqv->Ju,list->Li,canLay0->ML,depth->OM,bool->Od,tuple->Qa
open PySem.SeqAt renaming EqAt->PP
open PySem.SetTable renaming runEnd->Jy,insertAt->KI,insertAt_perm->KM,toList_insertAt->Ld,sizeAbove->MP,fits->Pq,fill->Pr
open PySem.SetTable.Slot renaming live->Nq
open PySem.SetTable.below renaming go->Ot
open PySem.SetTable.layClean renaming free->MR
open PySem.SetTable.probe renaming go->MQ
open PySem.SetTable.sizeAbove renaming go->LI
open PySem.Shared renaming TypeIs->O6,heap->Qu
open PySem.Str renaming ofString->KS
open PySem.Value renaming none->Gc,ref->J6,type->Lb,isInt_shape->N1,int->NH,bool->Np,notImplemented->Os,str->Pp,isStrOf->QZ
open PySem.W renaming Frag->AT,nsIn->I9,mg_none_of->IJ,keepIn->Ib,fnOf->Ie,codeIn->Ik,kas_item->J4,mg_of->J8,kia_one->K5,OpenLaw->Lp,hashAt->Mb,methodObj->Mi,cellsFrom_some->OH,kitx_dict->P7,WalkO->Q9,KdlSrc->Qt
open PySem.pickOrder renaming go->Pl
open Sum renaming inl->JP,inr->NE
open Sum.inl renaming inj->MC
open True renaming intro->JX
section
namespace L2
open PySem PySem.Spec PyProof.Rows
abbrev Key:=Sum Int Str
noncomputable def kP:Key->Value->Bool
 |.inl k,v=>Value.isInt k v
 |.inr x,v=>QZ x v
noncomputable def keyH(w:World):Key->Int
 |.inl k=>hashInt k
 |.inr x=>hashStr w x
theorem bq:∀{k:Key}{v:Value},kP k v=true->(∃i t,k=JP i/\v=NH i t)\/(∃x t,k=NE x/\v=Pp x t)
 |.inl i,v,h=>by
  obtain⟨t,e⟩:=N1 (k:=i) (v:=v) h;exact .inl ⟨i,t,rfl,e⟩
 |.inr x,v,h=>by
  obtain⟨t,e⟩:=Value.isStrOf_shape (x:=x) (v:=v) h;exact .inr ⟨x,t,rfl,e⟩
theorem vZ(i:Int)(t:Tok):kP (.inl i) (.int i t)=true:=by simp[kP,Value.isInt]
theorem v5(x:Str)(t:Tok):kP (.inr x) (.str x t)=true:=by simp[kP,QZ]
theorem C0(a b:Int):decide ((JP a:Key)=JP b)=(a == b):=by
 by_cases e:a=b
 ·subst e; simp
 ·have h:¬ (JP a:Key)=JP b:=λq=>e (MC q)
  rw[decide_eq_false h];exact(beq_eq_false_iff_ne.mpr e).symm
theorem C1(a b:Str):decide ((NE a:Key)=NE b)=decide (a=b):=by
 by_cases e:a=b
 ·subst e; simp
 ·have h:¬ (NE a:Key)=NE b:=λq=>e (Sum.inr.inj q)
  rw[decide_eq_false h,decide_eq_false e]
theorem C2(a:Int)(b:Str):decide ((JP a:Key)=NE b)=false:=decide_eq_false (λq=>nomatch q)
theorem C3(a:Str)(b:Int):decide ((NE a:Key)=JP b)=false:=decide_eq_false (λq=>nomatch q)
noncomputable def aO(prog:Fm)(w:World):PySem.KeyKind prog w Key where
 is:=kP
 hash:=keyH w
 inj:=λv a b ha hb=>by
  rcases bq ha with⟨i,t,rfl,rfl⟩ | ⟨x,t,rfl,rfl⟩
  ·rcases bq hb with⟨j,u,rfl,e⟩ | ⟨y,u,rfl,e⟩
   ·injection e with e1 _; rw[e1]
   ·exact nomatch e
  ·rcases bq hb with⟨j,u,rfl,e⟩ | ⟨y,u,rfl,e⟩
   ·exact nomatch e
   ·injection e with e1 _; rw[e1]
 byValue:=λk v h=>by
  rcases bq h with⟨i,t,rfl,rfl⟩ | ⟨x,t,rfl,rfl⟩ <;> rfl
 pyHash:=λhv h=>by
  rcases bq hv with⟨i,t,rfl,rfl⟩ | ⟨x,t,rfl,rfl⟩
  ·exact wpAny_pyHash_int h
  ·exact wpAny_pyHash_str h
 eqBool:=λhu hv h=>by
  rcases bq hu with⟨i,t,rfl,rfl⟩ | ⟨x,t,rfl,rfl⟩
  ·rcases bq hv with⟨j,u,rfl,rfl⟩ | ⟨y,u,rfl,rfl⟩
   ·rw[C0] at h; exact wpAny_eqBool_int h
   ·rw[C2] at h; exact SeqAt.EqAt.int_str i t y u _ _ _ _ h
  ·rcases bq hv with⟨j,u,rfl,rfl⟩ | ⟨y,u,rfl,rfl⟩
   ·rw[C3] at h; exact SeqAt.EqAt.str_int x t j u _ _ _ _ h
   ·rw[C1] at h; exact wpAny_eqBool_str h
 «strs» := λk x t v h=>by
  rcases bq h with⟨i,u,rfl,e⟩ | ⟨y,u,rfl,e⟩
  ·exact nomatch e
  ·injection e with e1 _
   subst e1;cases v <;> rfl
theorem qz(prog:Fm)(w:World)(i:Int)(t:Tok):(aO prog w).is (.inl i) (.int i t)=true:=vZ i t
theorem qA(prog:Fm)(w:World)(x:Str)(t:Tok):(aO prog w).is (.inr x) (.str x t)=true:=v5 x t
end L2
namespace L2
open PySem PySem.Spec PyProof.Rows
inductive V where
 |non | bl (b:Bool) | int (i:Int) | str (x:Str) | byt (b:Array UInt8) | flt (b:UInt64) | ref (a:Addr) | ty (n:String)
 deriving DecidableEq
def RelV:V->Value->Prop
 |.non,u=>u=Gc
 |.bl b,u=>u=Np b
 |.int i,u=>∃t,u=NH i t
 |.str x,u=>∃t,u=Pp x t
 |.byt b,u=>∃t,u=Value.bytes b t
 |.flt b,u=>∃t,u=Value.float b t
 |.ref a,u=>u=J6 a
 |.ty n,u=>u=Lb n
abbrev Vals:List V->List Value->Prop:=JQ RelV
theorem Vals.length{xs:List V}{us:List Value}(r:Vals xs us):xs.length=us.length:=Jz r
theorem Vals.get:∀{xs:List V}{us:List Value}{i:Nat}{x:V},Vals xs us->xs[i]? = some x->∃u,us[i]? = some u/\RelV x u
 |_,_,_,_,.nil,e=>by simp at e
 |_,_,0,_,.cons r _,e=>by simp at e; subst e; exact⟨_,rfl,r⟩
 |_,_,i+1,x,.cons _ t,e=>by
  obtain⟨u,h1,h2⟩:=Vals.get (i:=i) (x:=x) t (by simpa using e)
  exact⟨u,by simpa using h1,h2⟩
theorem Vals.set{x:V}{u:Value}(r:RelV x u):∀{xs:List V}{us:List Value}(i:Nat),Vals xs us->Vals (xs.set i x) (us.set i u)
 |_,_,_,.nil=>.nil
 |_,_,0,.cons _ t=>.cons r t
 |_,_,i+1,.cons q t=>.cons q (Vals.set r i t)
theorem Vals.append:∀{xs ys:List V}{us ws:List Value},Vals xs us->Vals ys ws->Vals (xs++ys) (us++ws)
 |_,_,_,_,.nil,s=>s
 |_,_,_,_,.cons r t,s=>.cons r (Vals.append t s)
theorem Vals.take:∀{xs:List V}{us:List Value}(n:Nat),Vals xs us->Vals (xs.take n) (us.take n)
 |_,_,0,_=>.nil
 |_,_,_+1,.nil=>.nil
 |_,_,n+1,.cons r t=>.cons r (Vals.take n t)
theorem Vals.drop:∀{xs:List V}{us:List Value}(n:Nat),Vals xs us->Vals (xs.drop n) (us.drop n)
 |_,_,0,r=>r
 |_,_,_+1,.nil=>.nil
 |_,_,n+1,.cons _ t=>Vals.drop n t
def mZ:Option V->Option Value->Prop
 |some v,some u=>RelV v u
 |none,none=>True
 |_,_=>False
def KV{κ:Type}:List (κ×V)->List (κ×Value)->Prop:=JQ λ(p:κ×V)(q:κ×Value)=>p.1=q.1/\RelV p.2 q.2
noncomputable def kV:Key->V
 |.inl i=>.int i
 |.inr x=>.str x
inductive HO where
  |lst (xs:List V)
  |tup (xs:List V)
  |dK (kvs:List (Key×V)) | dT (kvs:List (List Key×V))
  |set (S:Int->Bool) (n:Nat)
  |ins (C dx:Addr) (fs:List (Str×V))
  |own (x:Addr)
  |xd (fs:List (Str×V))
  |met (f x:Addr)
  |rng (lo hi:Int)
  |frz (o:Obj) (u:HO)
  |tbl (ps:Array Value)
  |ext (φ:Heap->Prop)
abbrev Hp:=Addr->Option HO
noncomputable def upd(H:Hp)(a:Addr)(o:HO):Hp:=λb=>if b=a then some o else H b
theorem aB{H:Hp}{a:Addr}{o:HO}:upd H a o a=some o:=by unfold upd; rw[if_pos rfl]
theorem aC{H:Hp}{a b:Addr}{o:HO}(h:b≠a):upd H a o b=H b:=by unfold upd; rw[if_neg h]
theorem nL{H:Hp}{a b:Addr}{o u:HO}(h:H a=some o)(h':H b=some u)(d:o≠u):a≠b:=by
 intro e; subst e; rw[h] at h'; exact d (Go h')
theorem bu{H:Hp}{a b:Addr}{o:HO}(h:H a=some o)(h':H b=none):a≠b:=by
 intro e; subst e; rw[h] at h'; cases h'
section
variable(P:Fm)(w:World)
def cy(H:Hp)(h:Heap)(a:Addr):HO->Prop
 |.lst xs=>xs.length<=FV/\∃ (its:List Value) (n:Nat),Vals xs its/\h.get? a=some { cls:=.type "list",data:=.seq its.toArray n }
 |.tup xs=>xs.length<=FV/\∃its:List Value,Vals xs its/\IsTup h a its.toArray
 |.dK kvs=>kvs.length<=FV/\(a == Jc)=false/\∃vs,KV kvs vs/\h.DictOf (aO P w) a vs
 |.dT kvs=>kvs.length<=FV/\(a == Jc)=false/\∃xs:List (List Key×Addr×Value),
  JQ (λ(p:List Key×V)(q:List Key×Addr×Value)=>p.1=q.1/\H q.2.1=some (.tup (p.1.map kV))/\RelV p.2 q.2.2) kvs xs /\
  ∃o es ep,h.get? a=some o/\o.ExactDict/\o.data=.dict es ep/\es.toList=xs.map (entryOfKey (OE (aO P w)))/\(xs.map (·.1)).Nodup
 |.set S n=>h.SetOf (Ih P w) a S n
 |.ins C dx fs=>H dx=some (.own a)/\fs.length<=1000/\dx≠a/\h.get? a=some (PySem.W.instObj C dx) /\
  ∃mA,h.Ns1 dx mA/\(∀f,mZ (fs.lookup f) (mA f))/\PySem.Within mA (fs.map (·.1))
 |.own _=>∃o,h.get? a=some o
 |.xd fs=>∃mA,h.Ns1 a mA/\∀f,mZ (fs.lookup f) (mA f)
 |.rng lo hi=>∃t u v,h.get? a=some { cls:=.type "range",data:=.fields #[.int lo t,.int hi u,.int 1 v] }
 |.frz o u=>h.get? a=some o/\cy H h a u
 |.tbl ps=>h.get? a=some { cls:=.none,data:=.fields ps }
 |.met f x=>h.get? a=some (Mi (.ref f) (.ref x))
 |.ext φ=>φ h/\(∃o,h.get? a=some o)/\∀h1 h2:Heap,φ h1->(∀o,h1.get? a=some o->h2.get? a=some o)->φ h2
def iH(H:Hp)(h:Heap):Prop:=∀a o,H a=some o->cy P w H h a o
end
section
variable{P:Fm}{w:World}{H H':Hp}{h h':Heap}{a:Addr}{o:HO}
theorem cy.lt(x:cy P w H h a o):a<h.objs.size:=by
 cases o with
 |lst xs=>obtain⟨_,_,_,_,e⟩:=x; exact Ch e
 |tup xs=>obtain⟨_,_,_,p⟩:=x; exact p.lt
 |dK kvs=>obtain⟨_,_,_,_,o,_,_,e,_⟩:=x; exact Ch e
 |dT kvs=>obtain⟨_,_,_,_,o,_,_,e,_⟩:=x; exact Ch e
 |set S n=>obtain⟨o,_,_,_,e,_⟩:=x; exact Ch e
 |ins C dx fs=>obtain⟨_,_,_,e,_⟩:=x; exact Ch e
 |own y=>obtain⟨_,e⟩:=x; exact Ch e
 |xd fs=>obtain⟨_,⟨_,_,_,e,_⟩,_⟩:=x; exact Ch e
 |rng lo hi=>obtain⟨_,_,_,e⟩:=x; exact Ch e
 |frz ob u=>obtain⟨e,_⟩:=x; exact Ch e
 |tbl ps=>exact Ch (show h.get? a=some _ from x)
 |met f y=>exact Ch (show h.get? a=some _ from x)
 |ext φ=>obtain⟨_,⟨_,e⟩,_⟩:=x; exact Ch e
theorem JQ.mapP{α β:Type}{F G:α->β->Prop}:∀{l₁:List α}{l₂:List β},JQ F l₁ l₂->(∀a b,F a b->G a b)->JQ G l₁ l₂
 |_,_,.nil,_=>.nil
 |_,_,.cons r t,f=>.cons (f _ _ r) (JQ.mapP t f)
theorem cy.stay(x:cy P w H h a o)(k:∀b u,(b=a\/H b=some (.own a))->h.get? b=some u->h'.get? b=some u)
  (ho:∀b,H b=some (.own a)->H' b=some (.own a)) (ht:∀b xs,H b=some (.tup xs)->H' b=some (.tup xs)):cy P w H' h' a o:=by
 induction o with
 |lst xs=>obtain⟨z,its,n,r,e⟩:=x; exact⟨z,its,n,r,k _ _ (.inl rfl) e⟩
 |tup xs=>obtain⟨z,its,r,ob,e,c⟩:=x; exact⟨z,its,r,ob,k _ _ (.inl rfl) e,c⟩
 |dK kvs=>obtain⟨z,y,vs,r,ob,es,ep,e,c⟩:=x; exact⟨z,y,vs,r,ob,es,ep,k _ _ (.inl rfl) e,c⟩
 |dT kvs=>
  obtain⟨z,y,xs,r,ob,es,ep,e,c⟩:=x;exact⟨z,y,xs,JQ.mapP r λp q z=>⟨z.1,ht _ _ z.2.1,z.2.2⟩,ob,es,ep,k _ _ (.inl rfl) e,c⟩
 |set S n=>obtain⟨ob,es,ep,t,e,c⟩:=x; exact⟨ob,es,ep,t,k _ _ (.inl rfl) e,c⟩
 |ins C dx fs=>
  obtain⟨d,z,ne,e,mA,⟨od,es,ep,e2,c⟩,r⟩:=x;exact⟨ho _ d,z,ne,k _ _ (.inl rfl) e,mA,⟨od,es,ep,k _ _ (.inr d) e2,c⟩,r⟩
 |own y=>obtain⟨ob,e⟩:=x; exact⟨ob,k _ _ (.inl rfl) e⟩
 |xd fs=>obtain⟨mA,⟨od,es,ep,e,c⟩,r⟩:=x; exact⟨mA,⟨od,es,ep,k _ _ (.inl rfl) e,c⟩,r⟩
 |rng lo hi=>obtain⟨t,u,v,e⟩:=x; exact⟨t,u,v,k _ _ (.inl rfl) e⟩
 |frz ob u ih=>obtain⟨e,q⟩:=x; exact⟨k _ _ (.inl rfl) e,ih q⟩
 |tbl ps=>
  have e:h.get? a=some { cls:=.none,data:=.fields ps }:=x;show h'.get? a=some { cls:=.none,data:=.fields ps };exact k a _ (.inl rfl) e
 |met f y=>
  have e:h.get? a=some (Mi (.ref f) (.ref y)):=x;show h'.get? a=some (Mi (.ref f) (.ref y));exact k a _ (.inl rfl) e
 |ext φ=>obtain⟨p,⟨o,e⟩,st⟩:=x; exact⟨st _ _ p λo q=>k _ _ (.inl rfl) q,⟨o,k _ _ (.inl rfl) e⟩,st⟩
theorem iH.lt(x:iH P w H h)(e:H a=some o):a<h.objs.size:=(x a o e).lt
theorem iH.fresh(x:iH P w H h)(e:h.objs.size<=a):H a=none:=by
 cases q:H a with
 |none=>rfl
 |some u=>exact absurd (Fk (x.lt q) e) (KF _)
theorem iH.kept(x:iH P w H h)(k:∀b u,h.get? b=some u->h'.get? b=some u):iH P w H h':=λa o e=>
 (x a o e).stay (λb u _ q=>k b u q) (λ_ q=>q) λ_ _ q=>q
theorem iH.laid(x:iH P w H h)(k:∀b u,h.get? b=some u->h'.get? b=some u)(hp:h.objs.size<=a)(new:cy P w (upd H a o) h' a o):iH P w (upd H a o) h':=λb u e=>by
 have hn:=x.fresh hp
 by_cases hb:b=a
 ·subst hb; rw[aB] at e; cases e; exact new
 ·rw[aC hb] at e
  exact(x b u e).stay (λc v _ q=>k c v q) (λc q=>by rw[aC (bu q hn)]; exact q) λc xs q=>by rw[aC (bu q hn)]; exact q
end
def Rd(H:Hp)(a:Addr)(u:HO):Prop:=H a=some u\/∃o,H a=some (.frz o u)
theorem Rd.ok{P:Fm}{w:World}{H:Hp}{h:Heap}{a:Addr}{u:HO}(r:Rd H a u)(x:iH P w H h):cy P w H h a u:=by
 rcases r with r | ⟨o,r⟩
 ·exact x a u r
 ·obtain⟨_,q⟩:=x a _ r
  exact q
def FQ:Option HO->Prop
 |some (.lst _)=>True
 |some (.dK _)=>True
 |some (.dT _)=>True
 |some (.set _ _)=>True
 |some (.ins _ _ _)=>True
 |some (.ext _)=>True
 |_=>False
section
variable{P:Fm}{w:World}{H:Hp}{h h':Heap}{x e:Addr}{o':HO}
theorem iH.write(ok:iH P w H h)(mu:FQ (H x))(he:e=x\/H e=some (.own x))(k:∀b u,b≠e->h.get? b=some u->h'.get? b=some u)(heo:∃u,h'.get? e=some u)
  (new:cy P w (upd H x o') h' x o'):iH P w (upd H x o') h':=λb u q=>by
 have nown:∀c y,H c=some (.own y)->c≠x:=λc y r z=>by subst z; rw[r] at mu; exact mu
 have ntup:∀c xs,H c=some (.tup xs)->c≠x:=λc xs r z=>by subst z; rw[r] at mu; exact mu
 by_cases hb:b=x
 ·subst hb; rw[aB] at q; cases q; exact new
 ·rw[aC hb] at q
  by_cases hbe:b=e
  ·have q':H b=some (.own x):=by
    rcases he with z | z
    ·exact absurd (hbe.trans z) hb
    ·rw[hbe]; exact z
   rw[q] at q'; cases q';obtain⟨v,hv⟩:=heo;exact⟨v,by rw[hbe]; exact hv⟩
  ·refine(ok b u q).stay (λc v hc r=>k c v ?_ r) (λc r=>by rw[aC (nown c b r)]; exact r) λc xs r=>by rw[aC (ntup c xs r)]; exact r
   rcases hc with rfl | hc
   ·exact hbe
   ·rintro rfl
    rcases he with z | z
    ·exact nown c b hc z
    ·rw[hc] at z; cases z; exact hb rfl
end
structure Un(fs ex:List Addr)(H H':Hp)(h h':Heap):Prop where
 keep:∀b o,h.get? b=some o->H b=none->b∉fs->b∉ex->h'.get? b=some o
 slot:∀b o,h.get? b=some o->H b=none->b∈fs->b∉ex->∃sl,h'.get? b=some { o with slots:=sl }
 free:∀b o,h.get? b=some o->H b=none->b∉ex->H' b=none
 there:∀b o,h.get? b=some o->b∉ex->∃o',h'.get? b=some o'
 tups:∀b xs,H b=some (.tup xs)->H' b=some (.tup xs)
 dG:∀b o u,H b=some (.frz o u)->H' b=some (.frz o u)
 tbls:∀b ps,H b=some (.tbl ps)->∃more,H' b=some (.tbl (ps++more))
section
variable{fs fs' ex ex':List Addr}{H H1 H2:Hp}{h h1 h2 h':Heap}{a x e:Addr}{o:HO}
theorem Un.any(u:Un fs ex H H1 h h1){b:Addr}{ob:Obj}(q:h.get? b=some ob)(n:H b=none)(hx:b∉ex):∃sl,h1.get? b=some { ob with slots:=sl }:=by
 by_cases hb:b∈fs
 ·exact u.slot b ob q n hb hx
 ·exact⟨ob.slots,u.keep b ob q n hb hx⟩
theorem Un.trans(a:Un fs ex H H1 h h1)(b:Un fs ex H1 H2 h1 h2):Un fs ex H H2 h h2 where
 keep:=λc ob q n hc hx=>b.keep c ob (a.keep c ob q n hc hx) (a.free c ob q n hx) hc hx
 slot:=λc ob q n hc hx=>by
  obtain⟨sl,e1⟩:=a.slot c ob q n hc hx;obtain⟨sl',e2⟩:=b.slot c _ e1 (a.free c ob q n hx) hc hx;exact⟨sl',e2⟩
 free:=λc ob q n hx=>by
  obtain⟨o',e1⟩:=a.there c ob q hx;exact b.free c o' e1 (a.free c ob q n hx) hx
 there:=λc ob q hx=>by
  obtain⟨o',e1⟩:=a.there c ob q hx;exact b.there c o' e1 hx
 tups:=λc xs q=>b.tups c xs (a.tups c xs q)
 dG:=λc ob xs q=>b.dG c ob xs (a.dG c ob xs q)
 tbls:=λc ps q=>by
  obtain⟨m1,e1⟩:=a.tbls c ps q;obtain⟨m2,e2⟩:=b.tbls c _ e1;exact⟨m1++m2,by rw[e2,Pa]⟩
theorem Un.kept(k:∀b u,h.get? b=some u->h'.get? b=some u):Un fs ex H H h h' :=
 ⟨λb ob q _ _ _=>k b ob q,λb ob q _ _ _=>⟨ob.slots,k b ob q⟩,λ_ _ _ n _=>n,λb ob q _=>⟨ob,k b ob q⟩,λ_ _ q=>q,λ_ _ _ q=>q,λ_ ps q=>⟨#[],by rw[q]; simp⟩⟩
theorem Un.refl:Un fs ex H H h h:=Un.kept λ_ _ q=>q
theorem Un.laid(k:∀b u,h.get? b=some u->h'.get? b=some u)(hp:h.objs.size<=a)(hn:H a=none):Un fs ex H (upd H a o) h h' where
 keep:=λb u q _ _ _=>k b u q
 slot:=λb u q _ _ _=>⟨u.slots,k b u q⟩
 free:=λb u q n _=>by rw[aC (Db (Fk (Ch q) hp))]; exact n
 there:=λb u q _=>⟨u,k b u q⟩
 tups:=λb xs q=>by rw[aC (bu q hn)]; exact q
 dG:=λb u xs q=>by rw[aC (bu q hn)]; exact q
 tbls:=λb ps q=>⟨#[],by rw[aC (bu q hn),q]; simp⟩
theorem Un.write(mu:FQ (H x))(he:e=x\/H e=some (.own x))(k:∀b u,b≠e->h.get? b=some u->h'.get? b=some u)(heo:∃u,h'.get? e=some u):Un fs ex H (upd H x o) h h':=by
 have hx:∀b,H b=none->b≠x:=λb n z=>by subst z; rw[n] at mu; exact mu
 have hb:∀b,H b=none->b≠e:=λb n z=>by
  subst z;rcases he with r | r
  ·exact hx b n r
  ·rw[n] at r; cases r
 have hm:∀b u,H b=some u->¬FQ (some u)->b≠x:=λb u q nm z=>by subst z; rw[q] at mu; exact nm mu
 refine⟨λb u q n _ _=>k b u (hb b n) q,λb u q n _ _=>⟨u.slots,k b u (hb b n) q⟩,λb u q n _=>by rw[aC (hx b n)]; exact n,λb u q _=>?_,
  λb xs q=>by rw[aC (hm b _ q λz=>z)]; exact q,λb u xs q=>by rw[aC (hm b _ q λz=>z)]; exact q,λb ps q=>⟨#[],by rw[aC (hm b _ q λz=>z),q]; simp⟩⟩
 by_cases hbe:b=e
 ·subst hbe; exact heo
 ·exact⟨u,k b u hbe q⟩
theorem Un.mono(u:Un fs ex H H1 h h1)(hs:∀b∈fs,b∈fs')(hx:∀b∈ex,b∈ex'):Un fs' ex' H H1 h h1 :=
 ⟨λb ob q n hb he=>u.keep b ob q n (λz=>hb (hs b z)) λz=>he (hx b z),λ_ _ q n _ he=>u.any q n λz=>he (hx _ z),λb ob q n he=>u.free b ob q n λz=>he (hx b z),λb ob q he=>u.there b ob q λz=>he (hx b z),u.tups,u.dG,u.tbls⟩
end
noncomputable def Gm(h:Heap)(H:Hp):List Addr:=(Fu h.objs.size).filter λa=>(H a).isSome
noncomputable def oZ(h:Heap)(H:Hp):Heap:=PySem.W.hideAll h (Gm h H)
theorem v7(h:Heap)(H:Hp):(oZ h H).objs.size=h.objs.size:=PySem.W.hideAll_size _ _
theorem xJ{h:Heap}{H:Hp}{b:Addr}{o:Obj}(e:h.get? b=some o)(n:H b=none):(oZ h H).get? b=some o :=
 PySem.W.hideAll_get _ e λhm=>by
  have q:(H b).isSome=true:=(Jx.mp hm).2;rw[n] at q; simp at q
theorem AG{h:Heap}{H:Hp}{b:Addr}{o:Obj}(e:(oZ h H).get? b=some o):h.get? b=some o/\H b=none:=by
 have e':h.get? b=some o:=PySem.W.of_hideAll (Gm h H) e;refine⟨e',?_⟩;cases q:H b with
 |none=>rfl
 |some x=>
  have hm:b∈Gm h H:=Jx.mpr ⟨JB.mpr (Ch e'),by simp[q]⟩
  have z:(oZ h H).get? b=none:=PySem.W.hideAll_none (Gm h H) hm;rw[z] at e; cases e
end L2
namespace L2
open PySem PySem.Spec PyProof.Rows
structure Mod(K:AT)(mg:Str->Option Value)(base:Heap):Prop where
 kin:K.In base
 glob:base.Ns GT mg
 blt:∃mb,base.Ns Qs mb/\∀x:Str,x ≠ "__name__"->mb x=Jv x
 nolimit:base.NoLimit
structure Cx where
 prog:Fm
 w:World
 K:AT
 mg:Str->Option Value
 base:Heap
 A:ID
 N:List Str
 s₀:B1
 H₀:Hp
 env:Env
 outer:List Env
 stack:List Env
 ex:List Addr
 fn:Str->Bool
 calm:Bool
 pn:List (Addr×Obj)
 xe:Value->B1->Prop
noncomputable def frs(l:List Env):List Addr:=l.filterMap (·.frame)
noncomputable abbrev Cx.fs(X:Cx):List Addr:=frs X.outer
def AH(sc:Scope)(x:Str):Prop:=sc.names.lookup x=some .local\/sc.names.lookup x=some .cell\/sc.names.lookup x=some .free
def Loc(sc:Scope)(x:Str):Prop:=sc.names.lookup x=some .local\/sc.names.lookup x=some .cell
def Look(env:Env)(h:Heap)(m:Str->Option Value)(x:Str)(u:Value):Prop :=
 (env.kindOf x=some .local/\m x=some u)\/((env.kindOf x=some .cell\/env.kindOf x=some .free)/\∃c,env.cells.lookup x=some c/\h.IsCell c (some u))
structure Cx.Ok(X:Cx):Prop where
 mod:Mod X.K X.mg X.base
 kind:X.env.scope.kind=.function
 glob:X.env.globals=GT
 blt:X.env.builtins=Qs
 above:X.s₀.heap.objs.size<=X.env.locals
 inj:∀x y c,X.env.cells.lookup x=some c->X.env.cells.lookup y=some c->x=y
 has:∀x,(X.env.kindOf x=some .cell\/X.env.kindOf x=some .free)->∃c,X.env.cells.lookup x=some c
 cab:∀x c,X.fn x=true->X.env.cells.lookup x=some c->X.s₀.heap.objs.size<=c
 hd:X.calm=true->X.A.handled=none
 frames:X.A.frames=some X.stack
 stk:X.stack=X.outer\/(X.stack=X.env::X.outer/\X.env.frame=some X.env.locals)
 exf:∀b∈X.ex,b≠X.env.locals/\∀x c,X.env.cells.lookup x=some c->c≠b
 bs:∀b o,X.base.get? b=some o->X.s₀.heap.get? b=some o/\X.H₀ b=none
 bsz:X.base.objs.size<=X.s₀.heap.objs.size
 noex:∀b o,X.base.get? b=some o->b∉X.ex
 exfs:∀b∈X.ex,b∉X.fs
 kQ:X.s₀.heap.FunFrames X.base X.outer
 frf:∀b∈X.fs,X.H₀ b=none
structure Inv(X:Cx)(pins:List (Addr×Obj))(σ:List (Option V))(H:Hp)(s:B1):Prop where
 ok:X.Ok
 os:s.os=X.s₀.os
 bare:Md s.gens
 base:Un X.fs X.ex X.H₀ H X.s₀.heap s.heap
 loc:∃m,s.heap.Ns X.env.locals m/\∀(i:Nat)(x:Str)(v:V),X.N[i]? = some x->σ[i]? = some (some v)->AH X.env.scope x->∃u,RelV v u/\Look X.env s.heap m x u
 cell:∀x c,X.env.cells.lookup x=some c->∃v,s.heap.IsCell c v
 free:H X.env.locals=none
 freeC:∀x c,X.env.cells.lookup x=some c->H c=none
 pin:∀p∈X.pn++pins,s.heap.get? p.1=some p.2/\H p.1=none/\p.1≠X.env.locals/\p.1∉X.fs/\∀v,p.2.data≠.cell v
 hok:iH X.prog X.w H s.heap
 len:σ.length=X.N.length
section
variable{X:Cx}{pins:List (Addr×Obj)}{σ:List (Option V)}{H H':Hp}{s:B1}{h':Heap}
theorem Cx.Ok.nofr(ok:X.Ok){b:Addr}{o:Obj}(e:X.base.get? b=some o):b∉X.fs:=λhb=>by
 have:=(ok.kQ.mem hb).1;rw[e] at this; cases this
theorem Inv.bs(I:Inv X pins σ H s):∀b o,X.base.get? b=some o->s.heap.get? b=some o/\H b=none:=λb o e=>
 ⟨I.base.keep b o (I.ok.bs b o e).1 (I.ok.bs b o e).2 (I.ok.nofr e) (I.ok.noex b o e),I.base.free b o (I.ok.bs b o e).1 (I.ok.bs b o e).2 (I.ok.noex b o e)⟩
theorem Inv.bk(I:Inv X pins σ H s):∀b o,X.base.get? b=some o->s.heap.get? b=some o:=λb o e=>(I.bs b o e).1
theorem Inv.mod(I:Inv X pins σ H s):Mod X.K X.mg X.base:=I.ok.mod
theorem Inv.uD(I:Inv X pins σ H s):X.K.In s.heap:=I.ok.mod.kin.keeps I.bk
theorem Inv.lt(I:Inv X pins σ H s):X.env.locals<s.heap.objs.size:=let ⟨_,hn,_⟩:=I.loc; hn.lt
theorem Inv.sz(I:Inv X pins σ H s):X.s₀.heap.objs.size<=s.heap.objs.size:=Ip I.ok.above (JI I.lt)
theorem Inv.nofs(I:Inv X pins σ H s){a:Addr}(h:s.heap.objs.size<=a):a∉X.fs:=λhb=>by
 obtain⟨_,o,ho,_⟩:=I.ok.kQ.mem hb;exact absurd (Fk (Ch ho) (Ip I.sz h)) (KF _)
theorem Inv.v8(I:Inv X pins σ H s):∀x c,X.env.cells.lookup x=some c->c≠X.env.locals:=λx c e z=>by
 obtain⟨v,o,ho,hd⟩:=I.cell x c e;obtain⟨m,⟨o',es,ep,ho',hd',_⟩,_⟩:=I.loc;rw[z,ho'] at ho; cases ho; rw[hd'] at hd; cases hd
theorem Inv.kQ(I:Inv X pins σ H s):s.heap.FunFrames X.base X.outer:=by
 have all:∀(l:List Env),(∀b∈frs l,b∈X.fs)->X.s₀.heap.FunFrames X.base l->s.heap.FunFrames X.base l:=by
  intro l
  induction l with
  |nil=>intro _ _; trivial
  |cons env r ih=>
   intro hs hl;obtain⟨hk,⟨L,o,hf,hn,ho,hd⟩,hr⟩:=hl;have hL:L∈X.fs:=hs L (by unfold frs; rw[KJ,hf]; exact lS)
   obtain⟨sl,e⟩:=I.base.slot L o ho (I.ok.frf L hL) hL λz=>I.ok.exfs L z hL
   exact⟨hk,⟨L,_,hf,hn,e,hd⟩,ih (λb hb=>hs b (by unfold frs; rw[KJ,hf]; exact lO _ hb)) hr⟩
 exact all X.outer (λ_ hb=>hb) I.ok.kQ
theorem Inv.stack(I:Inv X pins σ H s):s.heap.FunFrames X.base X.stack:=by
 rcases I.ok.stk with e | ⟨e,hf⟩
 ·rw[e]; exact I.kQ
 ·rw[e]
  obtain⟨m,hn,_⟩:=I.loc;refine .cons (by rw[I.ok.kind]; decide) hf hn ?_ I.kQ
  exact Heap.get?_none_of_le (Ip I.ok.bsz I.ok.above)
theorem Inv.gk(I:Inv X pins σ H s):∀b∈frs X.stack,b∈X.env.locals::X.fs:=λb hb=>by
 rcases I.ok.stk with e | ⟨e,hf⟩
 ·rw[e] at hb; exact lO _ hb
 ·rw[e] at hb
  unfold frs at hb;rw[KJ,hf] at hb;exact hb
theorem Inv.o4(I:Inv X pins σ H s):∀b∈frs X.stack,H b=none:=λb hb=>by
 rcases lK (I.gk b hb) with e | hb
 ·rw[e]; exact I.free
 ·obtain⟨_,o,ho,_⟩:=I.ok.kQ.mem hb
  exact I.base.free b o ho (I.ok.frf b hb) λz=>I.ok.exfs b z hb
theorem Inv.step{g':Array QL}{t':Nat}{d':Drawn}{ch:List Addr}(I:Inv X pins σ H s)
  (hch:∀b∈ch,(b∈X.ex\/X.s₀.heap.objs.size<=b)/\b≠X.env.locals/\(∀x c,X.env.cells.lookup x=some c->c≠b)/\∀p∈X.pn++pins,p.1≠b)
  (keep:∀b o,b≠X.env.locals->b∉X.fs->b∉ch->s.heap.get? b=some o->H b=none->h'.get? b=some o)
  (slot:∀b o,b≠X.env.locals->b∈X.fs->b∉ch->s.heap.get? b=some o->H b=none->∃sl,h'.get? b=some { o with slots:=sl }) (free:∀b o,b∉ch->s.heap.get? b=some o->H b=none->H' b=none)
  (there:∀b o,b∉ch->s.heap.get? b=some o->∃o',h'.get? b=some o')
  (tups:∀b xs,H b=some (.tup xs)->H' b=some (.tup xs)) (dG:∀b o u,H b=some (.frz o u)->H' b=some (.frz o u)) (tbls:∀b ps,H b=some (.tbl ps)->∃more,H' b=some (.tbl (ps++more)))
  (ns:∀m,s.heap.Ns X.env.locals m->h'.Ns X.env.locals m) (hok:iH X.prog X.w H' h') (hg:Md g') :
  Inv X pins σ H' { s with heap:=h',gens:=g',drawn:=d',toks:=t' }:=by
 have neL:∀b o,X.s₀.heap.get? b=some o->b≠X.env.locals:=λb o e=>Db (Fk (Ch e) I.ok.above)
 have neC:∀b o,X.s₀.heap.get? b=some o->b∉X.ex->b∉ch:=λb o e hx hb=>by
  rcases (hch b hb).1 with z | z
  ·exact hx z
  ·exact absurd (Fk (Ch e) z) (KF _)
 have cellK:∀x c,X.env.cells.lookup x=some c->∀v,s.heap.IsCell c v->h'.IsCell c v:=λx c e v ⟨o,ho,hd⟩=>by
  have nch:c∉ch:=λz=>(hch c z).2.2.1 x c e rfl
  by_cases hc:c∈X.fs
  ·obtain⟨sl,q⟩:=slot c o (I.v8 x c e) hc nch ho (I.freeC x c e)
   exact⟨_,q,hd⟩
  ·exact⟨o,keep c o (I.v8 x c e) hc nch ho (I.freeC x c e),hd⟩
 refine⟨I.ok,I.os,hg,⟨λb o e n hb hx=>?_,λb o e n hb hx=>?_,λb o e n hx=>?_,λb o e hx=>?_,λb xs e=>tups b xs (I.base.tups b xs e),λb o xs e=>dG b o xs (I.base.dG b o xs e),λb ps e=>?_⟩,?_,λx c e=>?_,?_,λx c e=>?_,λp hp=>?_,hok,I.len⟩
 ·exact keep b o (neL b o e) hb (neC b o e hx) (I.base.keep b o e n hb hx) (I.base.free b o e n hx)
 ·obtain⟨sl,e1⟩:=I.base.slot b o e n hb hx
  obtain⟨sl',e2⟩:=slot b _ (neL b o e) hb (neC b o e hx) e1 (I.base.free b o e n hx);exact⟨sl',e2⟩
 ·obtain⟨o',e1⟩:=I.base.there b o e hx
  exact free b o' (neC b o e hx) e1 (I.base.free b o e n hx)
 ·obtain⟨o',e1⟩:=I.base.there b o e hx
  exact there b o' (neC b o e hx) e1
 ·obtain⟨m1,e1⟩:=I.base.tbls b ps e
  obtain⟨m2,e2⟩:=tbls b _ e1;exact⟨m1++m2,by rw[e2,Pa]⟩
 ·obtain⟨m,hn,hl⟩:=I.loc
  refine⟨m,ns m hn,λi x v e1 e2 e3=>?_⟩
  obtain⟨u,r,l⟩:=hl i x v e1 e2 e3;refine⟨u,r,?_⟩;rcases l with l | ⟨k,c,e,z⟩
  ·exact .inl l
  ·exact .inr ⟨k,c,e,cellK x c e _ z⟩
 ·obtain⟨v,z⟩:=I.cell x c e
  exact⟨v,cellK x c e v z⟩
 ·obtain⟨m,⟨o,_,_,ho,_⟩,_⟩:=I.loc
  exact free _ o (λz=>(hch _ z).2.1 rfl) ho I.free
 ·obtain⟨v,o,ho,hd⟩:=I.cell x c e
  exact free c o (λz=>(hch c z).2.2.1 x c e rfl) ho (I.freeC x c e)
 ·obtain⟨e,n,ne,nf,d⟩:=I.pin p hp
  have nch:p.1∉ch:=λz=>(hch p.1 z).2.2.2 p hp rfl
  exact⟨keep p.1 p.2 ne nf nch e n,free p.1 p.2 nch e n,ne,nf,d⟩
theorem Inv.un{t':Nat}(I:Inv X pins σ H s)(u:Un X.fs [] H H' s.heap h')(hok:iH X.prog X.w H' h'):Inv X pins σ H' { s with heap:=h',toks:=t' }:=by
 obtain⟨m,⟨o,es,ep,ho,r⟩,_⟩:=id I.loc;obtain⟨sl,hL⟩:=u.any ho I.free (by simp)
 exact I.step (g':=s.gens) (d':=s.drawn) (ch:=[]) (λ_ z=>nomatch z) (λb o _ hb _ e n=>u.keep b o e n hb (by simp)) (λb o _ hb _ e n=>u.slot b o e n hb (by simp)) (λb o _ e n=>u.free b o e n (by simp)) (λb o _ e=>u.there b o e (by simp)) u.tups u.dG u.tbls (λm' hm=>by
  obtain⟨o',es',ep',ho',r'⟩:=hm;rw[ho] at ho'; cases ho';exact⟨_,es',ep',hL,r'⟩) hok I.bare
theorem Inv.call{g':Array QL}{t':Nat}{d':Drawn}{ch:List Addr}(I:Inv X pins σ H s)(u:Un (frs X.stack) ch H H' s.heap h')(hok:iH X.prog X.w H' h')(hg:Md g')
  (hch:∀b∈ch,(b∈X.ex\/X.s₀.heap.objs.size<=b)/\b≠X.env.locals/\(∀x c,X.env.cells.lookup x=some c->c≠b)/\∀p∈X.pn++pins,p.1≠b) :
  Inv X pins σ H' { s with heap:=h',gens:=g',drawn:=d',toks:=t' }:=by
 obtain⟨m,⟨o,es,ep,ho,r⟩,_⟩:=id I.loc;obtain⟨sl,hL⟩:=u.any ho I.free λz=>(hch _ z).2.1 rfl
 exact I.step (ch:=ch) hch (λb o hL hb hc e n=>u.keep b o e n (λz=>(lK (I.gk b z)).elim hL hb) hc) (λb o _ _ hc e n=>u.any e n hc) (λb o hc e n=>u.free b o e n hc) (λb o hc e=>u.there b o e hc) u.tups u.dG u.tbls (λm' hm=>by
  obtain⟨o',es',ep',ho',r'⟩:=hm;rw[ho] at ho'; cases ho';exact⟨_,es',ep',hL,r'⟩) hok hg
theorem Inv.turned{t':Nat}{it:Addr}(I:Inv X pins σ H s)(k:∀b o,b≠it->s.heap.get? b=some o->h'.get? b=some o)(hn:H it=none)(hL:it≠X.env.locals)
  (h1:it∈X.ex\/X.s₀.heap.objs.size<=it) (h2:∀x c,X.env.cells.lookup x=some c->c≠it) (h3:∀p∈X.pn++pins,p.1≠it):Inv X pins σ H { s with heap:=h',toks:=t' }:=by
 have nit:∀b u,H b=some u->b≠it:=λb u e z=>by rw[z,hn] at e; cases e
 refine I.step (g':=s.gens) (d':=s.drawn) (ch:=[it]) (λb hb=>?_) (λb o _ _ hc e _=>k b o (λz=>hc (by simp[z])) e) (λb o _ _ hc e _=>⟨o.slots,k b o (λz=>hc (by simp[z])) e⟩) (λ_ _ _ _ n=>n)
  (λb o hc e=>⟨o,k b o (λz=>hc (by simp[z])) e⟩) (λ_ _ e=>e) (λ_ _ _ e=>e) (λb ps e=>⟨#[],by rw[e]; simp⟩) (λm hm=>?_) (λb u e=>?_) I.bare
 ·have e:b=it:=by simpa using hb
  subst e;exact⟨h1,hL,h2,h3⟩
 ·obtain⟨o,es,ep,ho,r⟩:=hm
  exact⟨o,es,ep,k _ o (Kr hL) ho,r⟩
 ·refine(I.hok b u e).stay (λc v hc q=>k c v ?_ q) (λ_ q=>q) λ_ _ q=>q
  rcases hc with z | z
  ·rw[z]; exact nit b u e
  ·exact nit c _ z
theorem Inv.tok(I:Inv X pins σ H s)(t:Nat):Inv X pins σ H { s with toks:=t }:=I.un (h':=s.heap) (t':=t) Un.refl I.hok
theorem Inv.kept{t':Nat}(I:Inv X pins σ H s)(k:∀b u,s.heap.get? b=some u->h'.get? b=some u):Inv X pins σ H { s with heap:=h',toks:=t' }:=I.un (Un.kept k) (I.hok.kept k)
theorem Inv.laid{a:Addr}{o:HO}{t':Nat}(I:Inv X pins σ H s)(k:∀b u,s.heap.get? b=some u->h'.get? b=some u)(hp:s.heap.objs.size<=a)(new:cy X.prog X.w (upd H a o) h' a o) :
  Inv X pins σ (upd H a o) { s with heap:=h',toks:=t' }:=I.un (Un.laid k hp (I.hok.fresh hp)) (I.hok.laid k hp new)
theorem Inv.write{x e:Addr}{o:HO}{t':Nat}(I:Inv X pins σ H s)(mu:FQ (H x))(he:e=x\/H e=some (.own x))(k:∀b u,b≠e->s.heap.get? b=some u->h'.get? b=some u)(heo:∃u,h'.get? e=some u)
  (new:cy X.prog X.w (upd H x o) h' x o):Inv X pins σ (upd H x o) { s with heap:=h',toks:=t' }:=I.un (Un.write mu he k heo) (I.hok.write mu he k heo new)
theorem Inv.uE{pins':List (Addr×Obj)}(I:Inv X pins σ H s)(h:∀p∈pins',s.heap.get? p.1=some p.2/\H p.1=none/\p.1≠X.env.locals/\p.1∉X.fs/\∀v,p.2.data≠.cell v):Inv X pins' σ H s :=
 ⟨I.ok,I.os,I.bare,I.base,I.loc,I.cell,I.free,I.freeC,λp hp=>(lM hp).elim (λz=>I.pin p (lL _ z)) (h p),I.hok,I.len⟩
theorem qB{N:List Str}(hN:N.Nodup){i j:Nat}{x:Str}(a:N[i]? = some x)(b:N[j]? = some x):i=j:=by
 obtain⟨h1,e1⟩:=DD.mp a;obtain⟨h2,e2⟩:=DD.mp b;exact(List.getElem_inj hN).mp (e1.trans e2.symm)
theorem jK{M:Model}{A:ID}{E:Value->B1->Prop}{i:Nat}{x:Str}{v:V}{u:Value}{Q:Unit->B1->Prop}(I:Inv X pins σ H s)(hN:X.N.Nodup)(hi:X.N[i]? = some x)(hx:Loc X.env.scope x)(r:RelV v u)
  (h:∀s',Inv X pins (σ.set i (some v)) H s'->(∃a,JG a s.heap s'.heap/\(a=X.env.locals\/X.env.cells.lookup x=some a))->Q () s') (hf:X.fn x=true\/X.env.scope.names.lookup x=some .local:=by first | exact .inl rfl | exact .inr rfl | assumption):wpAny M A (storeName X.env x u) Q E s:=by
 obtain⟨m,hn,hl⟩:=id I.loc;have hcls:(X.env.scope.kind == .class || (X.env.scope.kind == .module && X.env.locals != X.env.globals))=false:=by rw[I.ok.kind]; rfl
 have hiσ:i<σ.length:=by rw[I.len]; exact(DD.mp hi).1
 have v8:=I.v8;have tracked:∀{a:Addr}{h':Heap},(∃o,s.heap.get? a=some o/\H a=none)->JG a s.heap h'->iH X.prog X.w H h':=λ{a h'}ha hs b ob e=>by
  obtain⟨_,_,hfree⟩:=ha;refine(I.hok b ob e).stay (λc w' hc q=>(hs.2 c ?_).trans q) (λ_ q=>q) λ_ _ q=>q
  rintro rfl;rcases hc with rfl | hc
  ·rw[hfree] at e; cases e
  ·rw[hfree] at hc; cases hc
 rcases hx with hk | hk
 ·refine wpAny_storeName_local hk hn (λh' hn' hs=>?_) hcls
  obtain⟨oL,_,_,hoL,_⟩:=id hn;refine h _ ⟨I.ok,I.os,I.bare,⟨λb o e n hb hx=>?_,λb o e n hb hx=>?_,I.base.free,λb o e hx=>?_,I.base.tups,I.base.dG,I.base.tbls⟩,⟨_,hn',λj y v' e1 e2 e3=>?_⟩,λy c e=>?_,I.free,I.freeC,λp hp=>?_,tracked ⟨oL,hoL,I.free⟩ hs,by simpa using I.len⟩ ⟨_,hs,.inl rfl⟩
  ·exact(hs.2 b (Db (Fk (Ch e) I.ok.above))).trans (I.base.keep b o e n hb hx)
  ·obtain⟨sl,e1⟩:=I.base.slot b o e n hb hx
   exact⟨sl,(hs.2 b (Db (Fk (Ch e) I.ok.above))).trans e1⟩
  ·obtain⟨o',e1⟩:=I.base.there b o e hx
   exact⟨o',(hs.2 b (Db (Fk (Ch e) I.ok.above))).trans e1⟩
  ·by_cases hj:j=i
   ·subst hj
    rw[hi] at e1; cases e1;rw[JH hiσ] at e2;cases e2;exact⟨u,r,.inl ⟨hk,by simp⟩⟩
   ·rw[MX (Kr hj)] at e2
    obtain⟨u',r',q⟩:=hl j y v' e1 e2 e3;refine⟨u',r',?_⟩;rcases q with⟨k,e⟩ | ⟨k,c,e,z⟩
    ·refine .inl ⟨k,?_⟩
     have:y≠x:=λe=>hj (qB hN e1 (e▸hi))
     simp[this,e]
    ·exact .inr ⟨k,c,e,z.sameBut hs (v8 y c e)⟩
  ·obtain⟨w',z⟩:=I.cell y c e
   exact⟨w',z.sameBut hs (v8 y c e)⟩
  ·obtain⟨e,n,ne,nf,d⟩:=I.pin p hp
   exact⟨(hs.2 p.1 ne).trans e,n,ne,nf,d⟩
 ·have hfn:X.fn x=true:=by
   rcases hf with z | z
   ·exact z
   ·rw[z] at hk; cases hk
  obtain⟨c,hc⟩:=I.ok.has x (.inl hk);obtain⟨w',z⟩:=I.cell x c hc;refine wpAny_storeName_cell I.ok.kind hk hc z (λh' hc' hs=>?_)
  obtain⟨oc,hoc,hocd⟩:=id z;refine h { s with heap:=h' } ⟨I.ok,I.os,I.bare,⟨λb o e n hb hx=>?_,λb o e n hb hx=>?_,I.base.free,λb o e hx=>?_,I.base.tups,I.base.dG,I.base.tbls⟩,⟨m,hn.sameBut hs (Kr (v8 x c hc)),λj y v' e1 e2 e3=>?_⟩,λy c' e=>?_,I.free,I.freeC,λp hp=>?_,tracked ⟨oc,hoc,I.freeC x c hc⟩ hs,by simpa using I.len⟩ ⟨c,hs,.inr hc⟩
  ·exact(hs.2 b (Db (Fk (Ch e) (I.ok.cab x c hfn hc)))).trans (I.base.keep b o e n hb hx)
  ·obtain⟨sl,e1⟩:=I.base.slot b o e n hb hx
   exact⟨sl,(hs.2 b (Db (Fk (Ch e) (I.ok.cab x c hfn hc)))).trans e1⟩
  ·obtain⟨o',e1⟩:=I.base.there b o e hx
   exact⟨o',(hs.2 b (Db (Fk (Ch e) (I.ok.cab x c hfn hc)))).trans e1⟩
  ·by_cases hj:j=i
   ·subst hj
    rw[hi] at e1; cases e1;rw[JH hiσ] at e2;cases e2;exact⟨u,r,.inr ⟨.inl hk,c,hc,hc'⟩⟩
   ·rw[MX (Kr hj)] at e2
    obtain⟨u',r',q⟩:=hl j y v' e1 e2 e3;refine⟨u',r',?_⟩;rcases q with q | ⟨k,c',e,z'⟩
    ·exact .inl q
    ·refine .inr ⟨k,c',e,z'.sameBut hs ?_⟩
     rintro rfl;exact hj (qB hN e1 (I.ok.inj _ _ _ e hc▸hi))
  ·by_cases hcc:c'=c
   ·subst hcc; exact⟨_,hc'⟩
   ·obtain⟨w2,z2⟩:=I.cell y c' e
    exact⟨w2,z2.sameBut hs hcc⟩
  ·obtain⟨e,n,ne,nf,d⟩:=I.pin p hp
   refine⟨(hs.2 p.1 ?_).trans e,n,ne,nf,d⟩;intro q;rw[q,hoc] at e;have q':oc=p.2:=Go e;exact d w' (by rw[<-q']; exact hocd)
theorem gQ{M:Model}{A:ID}{E:Value->B1->Prop}{i:Nat}{x:Str}{v:V}{u:Value}{Q:Unit->B1->Prop}(I:Inv X pins σ H s)(hN:X.N.Nodup)(hi:X.N[i]? = some x)(hx:Loc X.env.scope x)(r:RelV v u)
  (h:∀s',Inv X pins (σ.set i (some v)) H s'->Q () s') (hf:X.fn x=true\/X.env.scope.names.lookup x=some .local:=by first | exact .inl rfl | exact .inr rfl | assumption):wpAny M A (storeName X.env x u) Q E s :=
 jK I hN hi hx r (λs' I' _=>h s' I') hf
theorem Inv.CB{s':B1}{ch:List Addr}(I:Inv X pins σ H s)(ho:s'.os=s.os)(u:Un (frs X.stack) ch H H' s.heap s'.heap)(hok:iH X.prog X.w H' s'.heap)(hg:Md s'.gens)
  (hch:∀b∈ch,(b∈X.ex\/X.s₀.heap.objs.size<=b)/\b≠X.env.locals/\(∀x c,X.env.cells.lookup x=some c->c≠b)/\∀p∈X.pn++pins,p.1≠b):Inv X pins σ H' s':=by
 obtain⟨h',g',d',t',o'⟩:=s';have e:o'=s.os:=ho;subst e;exact I.call (g':=g') (t':=t') (d':=d') u hok hg hch
end
abbrev XK:=Value->Option Addr->Hp->Prop
abbrev St:=List (Option V)
abbrev VK:=V->Hp->Prop
abbrev TE:=St->Hp->VK->Prop
abbrev TT:=St->Hp->(Bool->Hp->Prop)->Prop
abbrev TA:=St->Hp->(List V->Hp->Prop)->Prop
structure Ends where
 nx:St->Hp->Prop
 rt:VK
 bk:St->Hp->Prop:=λ_ _=>False
 ct:St->Hp->Prop:=λ_ _=>False
abbrev TS:=Ends->St->Hp->Prop
def EP(X:Cx)(pins:List (Addr×Obj))(σ:St)(Q:VK)(u:Value)(s':B1):Prop:=∃v H',Inv X pins σ H' s'/\RelV v u/\Q v H'
def TP(X:Cx)(pins:List (Addr×Obj))(σ:St)(Q:Bool->Hp->Prop)(b:Bool)(s':B1):Prop:=∃H',Inv X pins σ H' s'/\Q b H'
def AP(X:Cx)(pins:List (Addr×Obj))(σ:St)(Q:List V->Hp->Prop)(us:List Value)(s':B1):Prop:=∃vs H',Inv X pins σ H' s'/\Vals vs us/\Q vs H'
def SP(X:Cx)(pins:List (Addr×Obj))(D:Ends)(f:Flow)(s':B1):Prop :=
 match f with
 |.next=>∃σ' H',Inv X pins σ' H' s'/\D.nx σ' H'
 |.brk=>∃σ' H',Inv X pins σ' H' s'/\D.bk σ' H'
 |.cont=>∃σ' H',Inv X pins σ' H' s'/\D.ct σ' H'
 |.ret u=>∃v σ' H',Inv X pins σ' H' s'/\RelV v u/\D.rt v H'
def PE(X:Cx)(e:Expr)(t:TE):Prop :=
 ∀(pins:List (Addr×Obj))(s:B1)(σ:St)(H:Hp)(Q:VK),Inv X pins σ H s->t σ H Q->wpAny (model X.prog X.w) X.A (eval e X.env) (EP X pins σ Q) X.xe s
def PT(X:Cx)(e:Expr)(t:TT):Prop :=
 ∀(pins:List (Addr×Obj))(s:B1)(σ:St)(H:Hp)(Q:Bool->Hp->Prop),Inv X pins σ H s->t σ H Q->wpAny (model X.prog X.w) X.A (Om e X.env (eval e X.env)) (TP X pins σ Q) X.xe s
def PW(X:Cx)(e:Expr)(t:TT):Prop :=
 ∀(whole:Sem Value)(pins:List (Addr×Obj))(s:B1)(σ:St)(H:Hp)(Q:Bool->Hp->Prop),Inv X pins σ H s->t σ H Q->wpAny (model X.prog X.w) X.A (Om e X.env whole) (TP X pins σ Q) X.xe s
theorem PW.pt{X:Cx}{e:Expr}{t:TT}(h:PW X e t):PT X e t:=h _
def PA(X:Cx)(es:List Expr)(t:TA):Prop :=
 ∀(pos:Pos)(pins:List (Addr×Obj))(s:B1)(σ:St)(H:Hp)(Q:List V->Hp->Prop),Inv X pins σ H s->t σ H Q->wpAny (model X.prog X.w) X.A (spliced (L8 pos (Fa es X.env))) (AP X pins σ Q) X.xe s
def PS(X:Cx)(st:Stmt)(t:TS):Prop :=
 ∀(pins:List (Addr×Obj))(s:B1)(σ:St)(H:Hp)(D:Ends),Inv X pins σ H s->t D σ H->wpAny (model X.prog X.w) X.A (exec st X.env) (SP X pins D) X.xe s
def sE(X:Cx)(st:List Stmt)(t:TS):Prop :=
 ∀(pins:List (Addr×Obj))(s:B1)(σ:St)(H:Hp)(D:Ends),Inv X pins σ H s->t D σ H->wpAny (model X.prog X.w) X.A (execs st X.env) (SP X pins D) X.xe s
theorem bw{α:Type}{t:Sem α}{Q Q':α->B1->Prop}{M:Model}{A:ID}{E:Value->B1->Prop}{s:B1}(h:wpAny M A t Q E s)(hQ:∀a s,Q a s->Q' a s):wpAny M A t Q' E s:=K1 h hQ λ_ _ x=>x
end L2
namespace L2
open PySem PySem.Spec PyProof.Rows
section
variable{X:Cx}
theorem bin{a b:Expr}{ta tb:TE}(ha:PE X a ta)(hb:PE X b tb){pins:List (Addr×Obj)}{s:B1}{σ:St}{H:Hp}{R:V->V->Hp->Prop}(I:Inv X pins σ H s)(h:ta σ H λx H1=>tb σ H1 λy H2=>R x y H2)
  {α:Type} {Q:α->B1->Prop} {f:Value->Value->Sem α}
  (hf:∀v u s2 x y H2,Inv X pins σ H2 s2->RelV x v->RelV y u->R x y H2->wpAny (model X.prog X.w) X.A (f v u) Q X.xe s2) :
  wpAny (model X.prog X.w) X.A (eval a X.env) (λv s₁=>wpAny (model X.prog X.w) X.A (eval b X.env) (λu s₂=>wpAny (model X.prog X.w) X.A (f v u) Q X.xe s₂) X.xe s₁) X.xe s:=by
 refine bw (ha pins s σ H _ I h) λv s1 ⟨x,H1,I1,r1,q1⟩=>?_
 refine bw (hb pins s1 σ H1 _ I1 q1) λu s2 ⟨y,H2,I2,r2,q2⟩=>?_
 exact hf v u s2 x y H2 I2 r1 r2 q2
noncomputable def fm(i:Nat):TE:=λσ H Q=>∃v,σ[i]? = some (some v)/\Q v H
noncomputable def tC(v:V):TE:=λ_ H Q=>Q v H
theorem sI{i:Nat}{x:Str}{pos:Pos}(hN:X.N[i]? = some x)(hv:AH X.env.scope x)(hd:(x == ("__debug__" : Str))=false:=by decide)(hcd:(x == ("__classdict__" : Str))=false:=by decide):PE X (.Name x pos) (fm i):=by
 intro pins s σ H Q I h;obtain⟨v,e,h⟩:=h;obtain⟨m,hn,hl⟩:=I.loc;obtain⟨u,r,l⟩:=hl i x v hN e hv;have fin:EP X pins σ Q u s:=⟨v,H,I,r,h⟩;rcases l with⟨hk,hm⟩ | ⟨hk,c,hc,hcell⟩
 ·exact Ql (QE I.ok.kind hk hn hm fin) hd
 ·rcases hk with hk | hk
  ·exact Ql (QX I.ok.kind hk hc hcell fin) hd
  ·exact Ql (wpAny_loadName_free I.ok.kind hk hc hcell fin hcd) hd
theorem xK{i j pos}:PE X (.Constant (.int i) j pos) (tC (.int i)):=λ_ _ _ H _ I h=>wpAny_Constant_int ⟨.int i,H,I.tok _,⟨_,rfl⟩,h⟩
theorem pe_bl{b j pos}:PE X (.Constant (.bool b) j pos) (tC (.bl b)):=λ_ _ _ H _ I h=>Constant_bool ⟨.bl b,H,I,rfl,h⟩
def Gl(X:Cx)(x:Str):Prop:=X.env.kindOf x=some .globalImplicit
theorem AI{E:Value->B1->Prop}{pins:List (Addr×Obj)}{s:B1}{σ:St}{H:Hp}{x:Str}{u:Value}{pos:Pos}{Q:Value->B1->Prop}(I:Inv X pins σ H s)(hg:Gl X x)(hm:X.mg x=some u)(h:Q u s)
  (hd:(x == ("__debug__" : Str))=false:=by decide):wpAny (model X.prog X.w) X.A (eval (.Name x pos) X.env) Q E s :=
 Nt I.ok.kind hg (Calls.loadGlobal_global (by rw[I.ok.glob]; exact I.mod.glob.keeps I.bk) hm h) hd
theorem fL{E:Value->B1->Prop}{pins:List (Addr×Obj)}{s:B1}{σ:St}{H:Hp}{x:Str}{u:Value}{pos:Pos}{Q:Value->B1->Prop}(I:Inv X pins σ H s)(hg:Gl X x)(hm:X.mg x=none)(hv:Jv x=some u)(h:Q u s)
  (hn:x ≠ "__name__" := by decide) (hd:(x == ("__debug__" : Str))=false:=by decide):wpAny (model X.prog X.w) X.A (eval (.Name x pos) X.env) Q E s:=by
 obtain⟨mb,h1,h2⟩:=I.mod.blt;exact Nt I.ok.kind hg (Calls.loadGlobal_builtin (by rw[I.ok.glob]; exact I.mod.glob.keeps I.bk) hm (by rw[I.ok.blt]; exact h1.keeps I.bk) ((h2 x hn).trans hv) h) hd
theorem jg{x:Str}{v:V}{u:Value}{pos:Pos}(hg:Gl X x)(hm:X.mg x=none)(hv:Jv x=some u)(r:RelV v u)(hn:x ≠ "__name__" := by decide)(hd:(x == ("__debug__" : Str))=false:=by decide):PE X (.Name x pos) (tC v) :=
 λ_ _ _ H _ I h=>fL I hg hm hv ⟨v,H,I,r,h⟩ hn hd
variable{a b:Expr}{ta tb:TE}{pos:Pos}
def PC(X:Cx)(op:CmpOp)(a b:Expr)(t:TE):Prop :=
 ∀(pins:List (Addr×Obj))(s:B1)(σ:St)(H:Hp)(Q:VK),Inv X pins σ H s->t σ H Q ->
  wpAny (model X.prog X.w) X.A (eval a X.env) (λv s₁=>wpAny (model X.prog X.w) X.A (eval b X.env) (λu s₂=>wpAny (model X.prog X.w) X.A (IZ op v u) (EP X pins σ Q) X.xe s₂) X.xe s₁) X.xe s
noncomputable def tB(t:TE):TT:=λσ H Q=>t σ H λx H1=>∃c,x=.bl c/\Q c H1
theorem C4{op:CmpOp}{t:TE}(h:PC X op a b t)(h1:J5 op b=false:=by first | exact xM _ (by decide) (by decide) | rfl):PE X (.Compare a [op] [b] pos) t:=λpins s σ H Q I hw=>wpAny_Compare1 (h pins s σ H Q I hw) h1
theorem xN{op:CmpOp}{t:TE}(h:PC X op a b t)(h1:J5 op b=false:=by first | exact xM _ (by decide) (by decide) | rfl):PT X (.Compare a [op] [b] pos) (tB t):=by
 intro pins s σ H Q I hw;refine Q4 (bw (h pins s σ H _ I hw) λv s1 h1=>bw h1 λu s2 h2=>bw h2 λc s3 ⟨x,H1,I1,r1,q1⟩=>?_) h1
 obtain⟨d,rfl,q⟩:=q1;cases r1;exact Kk ⟨H1,I1,q⟩
variable{tA tB':TT}{rest:List Expr}
noncomputable def tAnd(t u:TT):TT:=λσ H Q=>t σ H λc H1=>if c=true then u σ H1 Q else Q false H1
noncomputable def G4(t u:TT):TT:=λσ H Q=>t σ H λc H1=>if c=true then Q true H1 else u σ H1 Q
noncomputable def tNot(t:TT):TT:=λσ H Q=>t σ H λc H1=>Q (!c) H1
theorem AJ(ha:PT X a tA):PW X (.BoolOp .And [a] pos) tA:=by
 intro wh pins s σ H Q I h;refine isTrue_and (bw (ha pins s σ H Q I h) λc s1 e=>?_)
 cases c with
 |true=>exact isTrue_and_nil e
 |false=>exact e
theorem C5(ha:PT X a tA):PW X (.BoolOp .Or [a] pos) tA:=by
 intro wh pins s σ H Q I h;refine isTrue_or (bw (ha pins s σ H Q I h) λc s1 e=>?_)
 cases c with
 |false=>exact isTrue_or_nil e
 |true=>exact e
theorem C6(ha:PT X a tA)(hb:PW X (.BoolOp .And (b::rest) pos) tB'):PW X (.BoolOp .And (a::b::rest) pos) (tAnd tA tB'):=by
 intro wh pins s σ H Q I h;refine isTrue_and (bw (ha pins s σ H _ I h) λc s1 ⟨H1,I1,q1⟩=>?_)
 cases c with
 |true=>exact hb wh pins s1 σ H1 Q I1 q1
 |false=>exact⟨H1,I1,q1⟩
theorem pw_or(ha:PT X a tA)(hb:PW X (.BoolOp .Or (b::rest) pos) tB'):PW X (.BoolOp .Or (a::b::rest) pos) (G4 tA tB'):=by
 intro wh pins s σ H Q I h;refine isTrue_or (bw (ha pins s σ H _ I h) λc s1 ⟨H1,I1,q1⟩=>?_)
 cases c with
 |true=>exact⟨H1,I1,q1⟩
 |false=>exact hb wh pins s1 σ H1 Q I1 q1
theorem C7(ha:PT X a tA):PT X (.UnaryOp .Not a pos) (tNot tA):=by
 intro pins s σ H Q I h;exact isTrue_not (ha pins s σ H (λc H1=>Q (!c) H1) I h)
noncomputable def tAndV(ta tb:TE):TE:=λσ H Q=>ta σ H λx H1=>∃c,x=.bl c/\if c=true then tb σ H1 Q else Q (.bl false) H1
noncomputable def tNotV(ta:TE):TE:=λσ H Q=>ta σ H λx H1=>∃c,x=.bl c/\Q (.bl (!c)) H1
theorem C8{op}{t:TE}(h:PE X a t):PE X (.BoolOp op [a] pos) t:=λpins s σ H Q I hw=>BoolOp_one (h pins s σ H Q I hw)
theorem C9(ha:PE X a ta)(hb:PE X (.BoolOp .And (b::rest) pos) tb):PE X (.BoolOp .And (a::b::rest) pos) (tAndV ta tb):=by
 intro pins s σ H Q I h;refine BoolOp_and (bw (ha pins s σ H _ I h) λv s1 ⟨x,H1,I1,r1,q1⟩=>?_)
 obtain⟨c,rfl,q1⟩:=q1;cases r1;refine Kk ?_;cases c with
 |true=>exact hb pins s1 σ H1 Q I1 q1
 |false=>exact⟨.bl false,H1,I1,rfl,q1⟩
theorem Dc(ha:PE X a ta):PE X (.UnaryOp .Not a pos) (tNotV ta):=by
 intro pins s σ H Q I h;refine UnaryOp_ (bw (ha pins s σ H _ I h) λv s1 ⟨x,H1,I1,r1,q1⟩=>?_)
 obtain⟨c,rfl,q1⟩:=q1;cases r1;exact not_of (Kk ⟨.bl (!c),H1,I1,rfl,q1⟩)
end
end L2
namespace L2
open PySem PySem.Spec PyProof.Rows
def fB(K:AT)(H:Hp)(a:Addr)(xs:List V):Prop :=
 Rd H a (.lst xs) \/
  ∃ (o:Obj) (its:Array Value) (n:Nat),K.lookup a=some o/\o.cls=.type "list"/\o.dict=none/\o.data=.seq its n/\its.size<=FV/\Vals xs its.toList
def dc(K:AT)(H:Hp)(a:Addr)(xs:List V):Prop :=
 Rd H a (.tup xs) \/
  ∃ (o:Obj) (its:Array Value) (n:Nat),K.lookup a=some o/\o.cls=.type "tuple"/\o.data=.seq its n/\its.size<=FV/\Vals xs its.toList
noncomputable def absV:Value->Option V
 |.none=>some .non
 |.bool b=>some (.bl b)
 |.int i _=>some (.int i)
 |.str x _=>some (.str x)
 |.bytes b _=>some (.byt b)
 |.float b _=>some (.flt b)
 |.ref a=>some (.ref a)
 |.type n=>some (.ty n)
 |_=>none
theorem RelV.abs{x:V}{u:Value}(r:RelV x u):absV u=some x:=by
 cases x with
 |non=>cases r; rfl
 |bl _=>cases r; rfl
 |int _=>obtain⟨t,rfl⟩:=r; rfl
 |str _=>obtain⟨t,rfl⟩:=r; rfl
 |byt _=>obtain⟨t,rfl⟩:=r; rfl
 |flt _=>obtain⟨t,rfl⟩:=r; rfl
 |ref _=>cases r; rfl
 |ty _=>cases r; rfl
theorem RelV.inj{x y:V}{u:Value}(r:RelV x u)(q:RelV y u):x=y:=Go (r.abs.symm.trans q.abs)
theorem Vals.inj:∀{xs ys:List V}{us:List Value},Vals xs us->Vals ys us->xs=ys
 |_,_,_,.nil,.nil=>rfl
 |_,_,_,.cons r t,.cons r' t'=>by rw[r.inj r',Vals.inj t t']
section
variable{X:Cx}{pins:List (Addr×Obj)}{σ:St}{H:Hp}{s:B1}{a:Addr}{xs ys:List V}
theorem fB.of{K:AT}(h:H a=some (.lst xs)):fB K H a xs:=.inl (.inl h)
theorem dc.of{K:AT}(h:H a=some (.tup xs)):dc K H a xs:=.inl (.inl h)
theorem Inv.list(I:Inv X pins σ H s)(h:fB X.K H a xs):∃its:List Value,Vals xs its/\PlainL s.heap a its.toArray/\xs.length<=FV:=by
 rcases h with h | ⟨o,its,n,hk,hc,hd,hs,hz,r⟩
 ·obtain⟨z,its,n,r,e⟩:=h.ok I.hok
  exact⟨its,r,⟨_,n,e,rfl,rfl,rfl⟩,z⟩
 ·refine⟨its.toList,r,⟨o,n,I.uD a o hk,hc,hd,by simpa using hs⟩,?_⟩
  have e:=r.length;simp only[Do] at e;lia
theorem Inv.tuple(I:Inv X pins σ H s)(h:dc X.K H a xs):∃its:List Value,Vals xs its/\IsTup s.heap a its.toArray/\xs.length<=FV:=by
 rcases h with h | ⟨o,its,n,hk,hc,hs,hz,r⟩
 ·obtain⟨z,its,r,p⟩:=h.ok I.hok
  exact⟨its,r,p,z⟩
 ·refine⟨its.toList,r,⟨o,I.uD a o hk,hc,n,by simpa using hs⟩,?_⟩
  have e:=r.length;simp only[Do] at e;lia
theorem Inv.xO(I:Inv X pins σ H s)(h:fB X.K H a xs)(h':fB X.K H a ys):xs=ys:=by
 obtain⟨its,r,⟨o,n,e,_,_,d⟩,_⟩:=I.list h;obtain⟨its',r',⟨o',n',e',_,_,d'⟩,_⟩:=I.list h';rw[e] at e'; cases e';rw[d] at d'
 injection d' with d1 _
 have:its=its':=by simpa using congrArg R7 d1
 subst this;exact r.inj r'
theorem Inv.jL(I:Inv X pins σ H s)(h:dc X.K H a xs)(h':dc X.K H a ys):xs=ys:=by
 obtain⟨its,r,⟨o,e,_,n,d⟩,_⟩:=I.tuple h;obtain⟨its',r',⟨o',e',_,n',d'⟩,_⟩:=I.tuple h';rw[e] at e'; cases e';rw[d] at d'
 injection d' with d1 _
 have:its=its':=by simpa using congrArg R7 d1
 subst this;exact r.inj r'
end
abbrev Cx.nc(X:Cx)(E:Value->B1->Prop):Cx:={ X with xe:=E }
abbrev Cx.E7(X:Cx):Cx:=X.nc λ_ _=>False
theorem Cx.Ok.nc{X:Cx}(ok:X.Ok)(E:Value->B1->Prop):(X.nc E).Ok :=
 ⟨ok.mod,ok.kind,ok.glob,ok.blt,ok.above,ok.inj,ok.has,ok.cab,ok.hd,ok.frames,ok.stk,ok.exf,ok.bs,ok.bsz,ok.noex,ok.exfs,ok.kQ,ok.frf⟩
theorem Cx.Ok.gR{X:Cx}{E:Value->B1->Prop}(ok:(X.nc E).Ok):X.Ok :=
 ⟨ok.mod,ok.kind,ok.glob,ok.blt,ok.above,ok.inj,ok.has,ok.cab,ok.hd,ok.frames,ok.stk,ok.exf,ok.bs,ok.bsz,ok.noex,ok.exfs,ok.kQ,ok.frf⟩
section
variable{X:Cx}{pins:List (Addr×Obj)}{σ:St}{H:Hp}{s:B1}{E:Value->B1->Prop}
theorem Inv.nc(I:Inv X pins σ H s)(E:Value->B1->Prop):Inv (X.nc E) pins σ H s:=⟨I.ok.nc E,I.os,I.bare,I.base,I.loc,I.cell,I.free,I.freeC,I.pin,I.hok,I.len⟩
theorem Inv.gR(I:Inv (X.nc E) pins σ H s):Inv X pins σ H s:=⟨I.ok.gR,I.os,I.bare,I.base,I.loc,I.cell,I.free,I.freeC,I.pin,I.hok,I.len⟩
theorem SP.gR{D:Ends}{f:Flow}{s':B1}(h:SP (X.nc E) pins D f s'):SP X pins D f s':=by
 cases f with
 |next=>obtain⟨σ',H',I,q⟩:=h; exact⟨σ',H',I.gR,q⟩
 |brk=>obtain⟨σ',H',I,q⟩:=h; exact⟨σ',H',I.gR,q⟩
 |cont=>obtain⟨σ',H',I,q⟩:=h; exact⟨σ',H',I.gR,q⟩
 |ret u=>obtain⟨v,σ',H',I,r,q⟩:=h; exact⟨v,σ',H',I.gR,r,q⟩
theorem sE.E7{st:List Stmt}{t:TS}(h:sE X.E7 st t):sE X st t:=λpins s σ H D I hw=>
 K1 (h pins s σ H D (I.nc _) hw) (λ_ _ q=>q.gR) λ_ _ z=>Kh z
end
section
variable{X:Cx}{st:Stmt}{rest:List Stmt}{t u:TS}{e:Expr}{te:TE}{pos:Pos}
noncomputable def CC:TS:=λD σ H=>D.nx σ H
noncomputable def tSeq(t u:TS):TS:=λD σ H=>t { D with nx:=u D } σ H
theorem AK:sE X [] CC:=λ_ _ σ H _ I h=>Me ⟨σ,H,I,h⟩
theorem xP(h1:PS X st t)(h2:sE X rest u):sE X (st::rest) (tSeq t u):=by
 intro pins s σ H D I h;refine wpAny_execs_cons (bw (h1 pins s σ H { D with nx:=u D } I h) λf s1 q=>?_)
 cases f with
 |next=>
  obtain⟨σ',H',I',q⟩:=q;exact h2 pins s1 σ' H' D I' q
 |ret v=>exact q
 |brk=>exact q
 |cont=>exact q
theorem AL(h1:PS X st t):sE X [st] t:=by
 intro pins s σ H D I h;refine wpAny_execs_cons (bw (h1 pins s σ H D I h) λf s1 q=>?_)
 cases f with
 |next=>exact Me q
 |ret v=>exact q
 |brk=>exact q
 |cont=>exact q
theorem Inv.quiet{pins:List (Addr×Obj)}{σ:St}{H:Hp}{s:B1}(I:Inv X pins σ H s):interactive X.env=false:=by simp[interactive,I.ok.kind]
noncomputable def tDrop(te:TE):TS:=λD σ H=>te σ H λ_ H1=>D.nx σ H1
theorem AM(he:PE X e te)(hs:K6 e none pos.line X.env=pure false:=by rfl):PS X (.Expr e pos) (tDrop te):=by
 intro pins s σ H D I h;exact wpAny_Expr_any (bw (he pins s σ H _ I h) λv s1 ⟨x,H1,I1,r1,q1⟩=>⟨σ,H1,I1,q1⟩) I.quiet hs
noncomputable def tRet(te:TE):TS:=λD σ H=>te σ H D.rt
theorem Dd(he:PE X e te):PS X (.Return (some e) pos) (tRet te):=by
 intro pins s σ H D I h;exact wpAny_Return_some (bw (he pins s σ H _ I h) λv s1 ⟨x,H1,I1,r1,q1⟩=>⟨x,σ,H1,I1,r1,q1⟩)
noncomputable def tIfS(c:TT)(t u:TS):TS:=λD σ H=>c σ H λb H1=>if b=true then t D σ H1 else u D σ H1
theorem ps_if{c:Expr}{a b:List Stmt}{tc:TT}(hc:PT X c tc)(ha:sE X a t)(hb:sE X b u):PS X (.If c a b pos) (tIfS tc t u):=by
 intro pins s σ H D I h;refine wpAny_If (bw (hc pins s σ H _ I h) λd s1 ⟨H1,I1,q1⟩=>?_)
 cases d with
 |true=>exact ha pins s1 σ H1 D I1 q1
 |false=>exact hb pins s1 σ H1 D I1 q1
end
abbrev TG:=V->St->Hp->(St->Hp->Prop)->Prop
abbrev AN:=List V->St->Hp->(St->Hp->Prop)->Prop
def PG(X:Cx)(target:Expr)(t:TG):Prop :=
 ∀(pins:List (Addr×Obj))(s:B1)(σ:St)(H:Hp)(v:V)(u:Value)(Q:St->Hp->Prop),Inv X pins σ H s->RelV v u->t v σ H Q ->
  wpAny (model X.prog X.w) X.A (LS target X.env u) (λ_ s'=>∃σ' H',Inv X pins σ' H' s'/\Q σ' H') X.xe s
def CD(X:Cx)(ts:List Expr)(t:AN):Prop :=
 ∀(pins:List (Addr×Obj))(s:B1)(σ:St)(H:Hp)(vs:List V)(us:List Value)(Q:St->Hp->Prop),Inv X pins σ H s->Vals vs us->t vs σ H Q ->
  wpAny (model X.prog X.w) X.A (PM ((KP ts X.env).map (·.2)) us) (λ_ s'=>∃σ' H',Inv X pins σ' H' s'/\Q σ' H') X.xe s
abbrev TSet:=V->V->V->Hp->(Hp->Prop)->Prop
def PSet(X:Cx)(t:TSet):Prop :=
 ∀(pins:List (Addr×Obj))(s:B1)(σ:St)(H:Hp)(o i v:V)(ov iv u:Value)(Q:Hp->Prop),Inv X pins σ H s->RelV o ov->RelV i iv->RelV v u->t o i v H Q ->
  wpAny (model X.prog X.w) X.A (setItem ov iv u) (λ_ s'=>∃H',Inv X pins σ H' s'/\Q H') X.xe s
abbrev E8:=V->V->Hp->VK->Prop
def Gn(X:Cx)(op:N2)(t:E8):Prop :=
 ∀(pins:List (Addr×Obj))(s:B1)(σ:St)(H:Hp)(x y:V)(v u:Value)(Q:VK),Inv X pins σ H s->RelV x v->RelV y u->t x y H Q ->
  wpAny (model X.prog X.w) X.A (inplaceOp op v u) (EP X pins σ Q) X.xe s
section
variable{X:Cx}{pos:Pos}
noncomputable def uF(i:Nat):TG:=λv σ H Q=>Q (σ.set i (some v)) H
theorem AO{i:Nat}{x:Str}(hN:X.N.Nodup)(hi:X.N[i]? = some x)(hx:Loc X.env.scope x)(hf:X.fn x=true\/X.env.scope.names.lookup x=some .local:=by first | exact .inl rfl | exact .inr rfl | assumption):PG X (.Name x pos) (uF i):=by
 intro pins s σ H v u Q I r h;exact Nk (gQ I hN hi hx r (λs' I'=>⟨_,H,I',h⟩) hf)
noncomputable def gNil:AN:=λvs σ H Q=>vs=[]/\Q σ H
noncomputable def gCons(t:TG)(u:AN):AN:=λvs σ H Q=>∃v r,vs=v::r/\t v σ H λσ' H'=>u r σ' H' Q
theorem AQ:CD X [] gNil:=by
 intro pins s σ H vs us Q I r h;obtain⟨e,h⟩:=h;subst e;cases r;exact assignInOrder_nil ⟨σ,H,I,h⟩
theorem xQ{e:Expr}{es:List Expr}{t:TG}{u:AN}(h1:PG X e t)(h2:CD X es u)
  (hs:(KP (e::es) X.env).map (·.2)=LS e X.env::(KP es X.env).map (·.2):=by rfl):CD X (e::es) (gCons t u):=by
 intro pins s σ H vs us Q I r h;obtain⟨v,vr,e1,h⟩:=h;subst e1;cases r with
 |cons r rr=>
  rw[hs];refine NV (bw (h1 pins s σ H _ _ _ I r h) λ_ s1 ⟨σ1,H1,I1,q1⟩=>?_)
  exact h2 pins s1 σ1 H1 _ _ Q I1 rr q1
noncomputable def gTup(K:AT)(n:Nat)(t:AN):TG:=λv σ H Q=>∃a xs,v=.ref a/\dc K H a xs/\xs.length=n/\t xs σ H Q
theorem De{es:List Expr}{k:Nat}{t:AN}{n:Nat}(hc:X.calm=true)(h:CD X es t)
  (hn:(KP es X.env).length=n:=by rfl) (hst:(KP es X.env).findIdx? (·.1)=none:=by rfl):PG X (.Tuple es k pos) (gTup X.K n t):=by
 intro pins s σ H v u Q I r hw;obtain⟨a,xs,e1,hq,hl,hw⟩:=hw;subst e1;cases r;obtain⟨its,rv,ht,hz⟩:=I.tuple hq;refine assign_Tuple_tuple (I.ok.hd hc) ht (by simp[hn,<-hl,rv.length]) hst λh' hx=>?_
 have I1:Inv X pins σ H { s with heap:=h' }:=I.kept (t':=s.toks) λb o e=>hx b o (Db (Ch e)) e
 exact h pins _ σ H xs _ Q I1 (by simpa using rv) hw
noncomputable def xR(to ti:TE)(t:TSet):TG:=λv σ H Q=>to σ H λo H1=>ti σ H1 λi H2=>t o i v H2 λH3=>Q σ H3
theorem jM{o i:Expr}{to ti:TE}{t:TSet}(ho:PE X o to)(hi:PE X i ti)(hs:PSet X t)
  (ha:∀v,LS (.Subscript o i pos) X.env v=(do
   let ov <-LX [v] (eval o X.env)
   let iv <-LX [v,ov] (eval i X.env)
   MY pos
   LX [v,ov,iv] (setItem ov iv v)
   release [v,ov,iv] []):=by intro _; rfl):PG X (.Subscript o i pos) (xR to ti t):=by
 intro pins s σ H v u Q I r h;rw[ha];refine AC (IK (bw (ho pins s σ H _ I h) λov s1 ⟨x,H1,I1,r1,q1⟩=>?_))
 refine AC (IK (bw (hi pins s1 σ H1 _ I1 q1) λiv s2 ⟨y,H2,I2,r2,q2⟩=>?_))
 refine AC (Ki (AC (IK (bw (hs pins s2 σ H2 x y v ov iv u _ I2 r1 r2 r q2) λ_ s3 ⟨H3,I3,q3⟩=>?_))))
 exact wpAny_release ⟨σ,H3,I3,q3⟩
noncomputable def ng(te:TE)(g:TG):TS:=λD σ H=>te σ H λx H1=>g x σ H1 D.nx
theorem gS{tg e:Expr}{te:TE}{g:TG}(he:PE X e te)(hg:PG X tg g)(hs:NM [tg] e pos.line X.env=pure false:=by rfl)(hw:NN [tg] e X.env=pure none:=by rfl)
  (h1:(KP [tg] X.env).map (·.2)=[LS tg X.env]:=by rfl):PS X (.Assign [tg] e pos) (ng te g):=by
 intro pins s σ H D I h;refine wpAny_Assign_stores (bw (he pins s σ H _ I h) λv s1 ⟨x,H1,I1,r1,q1⟩=>?_) hs hw
 rw[h1];exact bw (hg pins s1 σ H1 x v _ I1 r1 q1) λ_ s2 q=>q
theorem Df{i:Nat}{x:Str}{e:Expr}{te:TE}{pos':Pos}(hN:X.N.Nodup)(hi:X.N[i]? = some x)(hx:Loc X.env.scope x)(he:PE X e te)(hs:K6 e (some (.Name x pos')) pos.line X.env=pure false:=by rfl)(hf:X.fn x=true\/X.env.scope.names.lookup x=some .local:=by first | exact .inl rfl | exact .inr rfl | assumption) :
  PS X (.Assign [.Name x pos'] e pos) (ng te (uF i)):=by
 intro pins s σ H D I h;refine wpAny_Assign_Name (bw (he pins s σ H _ I h) λv s1 ⟨y,H1,I1,r1,q1⟩=>?_) hs
 exact gQ I1 hN hi hx r1 (λs2 I2=>⟨_,H1,I2,q1⟩) hf
noncomputable def tPar(i j:Nat)(ta:TA):TS:=λD σ H=>ta σ H λvs H1=>∃v w,vs=[v,w]/\D.nx ((σ.set i (some v)).set j (some w)) H1
theorem Dg{i j:Nat}{x y:Str}{a b:Expr}{ta:TA}{px py pt:Pos}{kt k2 pt2}(hc:X.calm=true)(hN:X.N.Nodup)(hi:X.N[i]? = some x)(hj:X.N[j]? = some y)(hij:i≠j)
  (hx:X.env.scope.names.lookup x=some .local) (hy:X.env.scope.names.lookup y=some .local) (ha:PA X [a,b] ta)
  (hw:NN [.Tuple [.Name x px,.Name y py] kt pt] (.Tuple [a,b] k2 pt2) X.env=pure (some [x,y]))
  (hs:NM [.Tuple [.Name x px,.Name y py] kt pt] (.Tuple [a,b] k2 pt2) pos.line X.env=pure false:=by rfl) :
  PS X (.Assign [.Tuple [.Name x px,.Name y py] kt pt] (.Tuple [a,b] k2 pt2) pos) (tPar i j ta):=by
 intro pins s σ H D I h;rw[exec_Assign_arm];refine AC (Ki ?_);rw[hs];refine AC (At ?_);rw[if_neg (by decide)]
 refine AC (Tuple_ (bw (ha _ pins s σ H _ I h) λus s1 ⟨vs,H1,I1,r1,q1⟩=>?_))
 obtain⟨v,w,e1,q1⟩:=q1;subst e1;obtain⟨u1,u2,rfl,rv,rw'⟩:∃u1 u2,us=[u1,u2]/\RelV v u1/\RelV w u2:=by
  cases r1 with
  |cons p q=>
   cases q with
   |cons p' q' =>
    cases q';exact⟨_,_,rfl,p,p'⟩
 refine IB ?_ (by show 2<=FV; decide)
 have I2:Inv X pins σ H1 { s1 with heap:=s1.heap.push { cls:=.type "tuple",data:=.seq [u1,u2].toArray } }:=I1.kept (t':=s1.toks) λb o e=>Ap _ e
 rw[hw];refine AC (At ?_);show wpAny (model X.prog X.w) X.A (do rule "assign.swapped-stores"; let items <-unpackItems (.ref s1.heap.objs.size) 2 none; PM [λv=>QJ X.env y v,λv=>QJ X.env x v] items.reverse; pure Flow.next) _ _ _
 refine AC (Jb (AC (unpackItems_tuple (items:=#[u1,u2]) (I.ok.hd hc) (OR s1.heap _) λh' hx' =>?_)))
 have I3:=I2.kept (h':=h') (t':=s1.toks) λb o e=>hx' b o (Db (Ch e)) e
 show wpAny _ _ (PM [λv=>QJ X.env y v,λv=>QJ X.env x v] [u2,u1] >>= λ_=>pure Flow.next) _ _ _
 refine AC (NV (wpAny_bindName (gQ I3 hN hj (.inl hy) rw' (λs2 I4=>?_) (.inr hy))))
 refine NV (wpAny_bindName (gQ I4 hN hi (.inl hx) rv (λs3 I5=>assignInOrder_nil (At ?_)) (.inr hx)))
 rw[List.set_comm _ _ (Kr hij)] at I5;exact⟨_,H1,I5,q1⟩
noncomputable def tAug(i:Nat)(te:TE)(ti:E8):TS:=λD σ H=>∃x,σ[i]? = some (some x)/\te σ H λy H1=>ti x y H1 λz H2=>D.nx (σ.set i (some z)) H2
theorem Dh{i:Nat}{x:Str}{e:Expr}{te:TE}{op:N2}{ti:E8}{pos':Pos}(hN:X.N.Nodup)(hi:X.N[i]? = some x)(hx:Loc X.env.scope x)(he:PE X e te)(ho:Gn X op ti)(hf:X.fn x=true\/X.env.scope.names.lookup x=some .local:=by first | exact .inl rfl | exact .inr rfl | assumption) :
  PS X (.AugAssign (.Name x pos') op e pos) (tAug i te ti):=by
 intro pins s σ H D I h;obtain⟨v,e1,h⟩:=h;obtain⟨m,hn,hl⟩:=I.loc;have vis:AH X.env.scope x:=by rcases hx with k | k; exact .inl k; exact .inr (.inl k)
 obtain⟨u,r,l⟩:=hl i x v hi e1 vis;refine wpAny_AugAssign_Name ?_;have go:wpAny (model X.prog X.w) X.A (eval e X.env) (λw s₂=>wpAny (model X.prog X.w) X.A (inplaceOp op u w) (λr s₃=>wpAny (model X.prog X.w) X.A (storeName X.env x r) (λ_=>SP X pins D .next) X.xe s₃) X.xe s₂) X.xe s:=by
  refine bw (he pins s σ H _ I h) λw s1 ⟨y,H1,I1,r1,q1⟩=>?_
  refine bw (ho pins s1 σ H1 v y u w _ I1 r r1 q1) λz s2 ⟨zv,H2,I2,r2,q2⟩=>?_
  exact gQ I2 hN hi hx r2 (λs3 I3=>⟨_,H2,I3,q2⟩) hf
 rcases l with⟨hk,hm⟩ | ⟨hk,c,hc,hcell⟩
 ·exact QE I.ok.kind hk hn hm go
 ·rcases hk with hk | hk
  ·exact QX I.ok.kind hk hc hcell go
  ·rcases hx with k | k
   ·have:X.env.scope.names.lookup x=some .free:=hk
    rw[k] at this; cases this
   ·have:X.env.scope.names.lookup x=some .free:=hk
    rw[k] at this; cases this
noncomputable def G6(f:Int->Int->Int):E8:=λx y H Q=>∃i j,x=.int i/\y=.int j/\Q (.int (f i j)) H
theorem Di:Gn X .Add (G6 λi j=>i+j):=by
 intro pins s σ H x y v u Q I r1 r2 h;obtain⟨i,j,e1,e2,q⟩:=h;subst e1; subst e2;obtain⟨t,rfl⟩:=r1;obtain⟨t',rfl⟩:=r2;exact iadd_int ⟨.int _,H,I.tok _,⟨_,rfl⟩,q⟩
end
section
variable{X:Cx}{pos:Pos}
noncomputable def xS(c:TT)(tb:TS):TS:=λD σ H=>∃W:Nat->St->Hp->Prop,(∃m,W m σ H)/\∀m σ H,W m σ H ->
 c σ H λb H1=>if b=true then ∃N:St->Hp->Prop,(∀σ' H',N σ' H'->∃m',m'<m/\W m' σ' H')/\tb { D with nx:=N,ct:=N,bk:=D.nx } σ H1 else D.nx σ H1
theorem xT{c:Expr}{body:List Stmt}{tc:TT}{tb:TS}(hp:N9 (model X.prog X.w) X.A X.env X.xe)(hc:PT X c tc)(hb:sE X body tb):PS X (.While c body [] pos) (xS tc tb):=by
 intro pins s σ H D I h;obtain⟨W,⟨m0,w0⟩,turn⟩:=h;refine wpAny_While (codeAny_whileLoop (λn s'=>∃σ' H',Inv X pins σ' H' s'/\W n σ' H') ?_ m0 ⟨σ,H,I,w0⟩)
 rintro n s1 ⟨σ1,H1,I1,w1⟩;refine Kg hp (bw (hc pins s1 σ1 H1 _ I1 (turn n σ1 H1 w1)) λb s2 ⟨H2,I2,q2⟩=>?_)
 cases b with
 |true=>
  obtain⟨N,hN,q2⟩:=q2;rw[if_pos rfl];refine Kg hp (bw (hb pins s2 σ1 H2 _ I2 q2) λf s3 q3=>?_)
  cases f with
  |next=>
   obtain⟨σ3,H3,I3,n3⟩:=q3;obtain⟨m',hm,w3⟩:=hN σ3 H3 n3;exact⟨m',hm,σ3,H3,I3,w3⟩
  |cont=>
   obtain⟨σ3,H3,I3,n3⟩:=q3;obtain⟨m',hm,w3⟩:=hN σ3 H3 n3;exact⟨m',hm,σ3,H3,I3,w3⟩
  |brk=>exact q3
  |ret v=>exact q3
 |false=>
  rw[if_neg JC];exact Me ⟨σ1,H2,I2,q2⟩
end
structure It where
 go:Nat->Hp->Prop
 yld:Nat->Hp->V->Hp->Prop
 stop:Nat->Hp->Prop
def gM(X:Cx)(pins:List (Addr×Obj))(H:Hp)(b:Addr):Prop :=
 H b=none/\b≠X.env.locals/\b∉X.fs/\(b∈X.ex\/X.s₀.heap.objs.size<=b)/\(∀x c,X.env.cells.lookup x=some c->c≠b)/\∀p∈X.pn++pins,p.1≠b
theorem Inv.fpOk{X:Cx}{pins:List (Addr×Obj)}{σ:St}{H H':Hp}{s:B1}{b:Addr}(I:Inv X pins σ H s)(hb:s.heap.objs.size<=b)(hn:H' b=none):gM X pins H' b:=by
 refine⟨hn,KC (Fk I.lt hb),I.nofs hb,.inr (Ip I.sz hb),λx c e z=>?_,λp hp z=>?_⟩
 ·obtain⟨v,q⟩:=I.cell x c e
  exact absurd (Fk q.lt (by rw[z]; exact hb)) (KF _)
 ·exact absurd (Fk (Ch (I.pin p hp).1) (by rw[z]; exact hb)) (KF _)
structure Turn(P:Fm)(w:World)(K:AT)(tg:Expr)(J:It)(fp:List Addr)(it:Addr)(tn:Nat->Heap->Prop):Prop where
 mem:it∈fp
 obj:∀i h,tn i h->∀b∈fp,∃o,h.get? b=some o/\∀v,o.data≠.cell v
 keep:∀i h h',tn i h->(∀b∈fp,∀o,h.get? b=some o->h'.get? b=some o)->tn i h'
 item:∀(X:Cx),X.prog=P->X.w=w->X.K=K->X.calm=true->∀(i:Nat)(pins:List (Addr×Obj))(s:B1)(σ:St)(H:Hp)(E:Value->B1->Prop),Inv X pins σ H s->(∀b∈fp,gM X pins H b)->tn i s.heap->J.go i H ->
  wpAny (model P w) X.A (Ks (.ref it)) (λr s1=>∃u,r=some u /\
   wpAny (model P w) X.A (Mf tg (.ref it) u) (λ_ s2=>∃x H',Inv X pins σ H' s2/\RelV x u/\J.yld i H x H'/\tn (i+1) s2.heap/\∀b∈fp,H' b=none) E s1) E s
 done:∀(X:Cx),X.prog=P->X.w=w->X.K=K->X.calm=true->∀(i:Nat)(pins:List (Addr×Obj))(s:B1)(σ:St)(H:Hp)(E:Value->B1->Prop),Inv X pins σ H s->(∀b∈fp,gM X pins H b)->tn i s.heap->J.stop i H ->
  wpAny (model P w) X.A (Ks (.ref it)) (λr s1=>r=none/\Inv X pins σ H s1) E s
 self:∀(A:ID)(i:Nat)(s:B1)(Q:Value->B1->Prop)(E:Value->B1->Prop),tn i s.heap->Q (.ref it) s->wpAny (model P w) A (OG (.ref it)) Q E s
abbrev TI:=St->Hp->(It->Hp->Prop)->Prop
def G9(X:Cx)(pins:List (Addr×Obj))(σ:St)(tg:Expr)(R:It->Hp->Prop)(itv:Value)(s2:B1):Prop :=
 ∃ (it:Addr) (fp:List Addr) (tn:Nat->Heap->Prop) (J:It) (H':Hp),itv=.ref it/\Inv X pins σ H' s2/\Turn X.prog X.w X.K tg J fp it tn/\tn 0 s2.heap/\(∀b∈fp,gM X pins H' b)/\R J H'
def PI(X:Cx)(tg iter:Expr)(wi:TI):Prop :=
 ∀(pins:List (Addr×Obj))(s:B1)(σ:St)(H:Hp)(R:It->Hp->Prop),Inv X pins σ H s->wi σ H R ->
  wpAny (model X.prog X.w) X.A (eval iter X.env) (λv s1=>wpAny (model X.prog X.w) X.A (OG v) (G9 X pins σ tg R) X.xe s1) X.xe s
theorem xU{M:Model}{A:ID}{E:Value->B1->Prop}{s:B1}{tg:Expr}{it:Addr}{u:Value}{o:Obj}{n:String}{vs:Array Value}{Q:Unit->B1->Prop}(ho:s.heap.get? it=some o)(hc:o.cls=.type n)(hd:o.data=.fields vs)
    (hn:["enumerate", "zip", "dict_itemiterator", "dict_reverseitemiterator", "odict_iterator", "itertools.zip_longest", "itertools.pairwise"].contains n=false) (hQ:Q () s):wpAny M A (Mf tg (.ref it) u) Q E s:=by
  unfold Mf;cases tg <;> first
    |exact At hQ
    |(cases u <;> first
        |exact At hQ
        |(refine AC (Qj ho ?_)
          rw[hc,hd];show wpAny M A (if (["enumerate", "zip", "dict_itemiterator", "dict_reverseitemiterator", "odict_iterator", "itertools.zip_longest", "itertools.pairwise"].contains n && vs[0]? == some (Lh _))=true then _ else _) Q E s
          rw[if_neg (by intro h; rw[hn,Bool.false_and] at h; cases h)]
          exact At hQ))
noncomputable def Gp(K:AT)(a:Addr):It :=
 ⟨λi H=>∃xs x,fB K H a xs/\xs[i]? = some x,λi H x H'=>H'=H/\∀xs,fB K H a xs->xs[i]? = some x,λi H=>∃xs,fB K H a xs/\xs.length<=i⟩
noncomputable def GK(K:AT)(a:Addr):It :=
 ⟨λi H=>∃xs x,dc K H a xs/\xs[i]? = some x,λi H x H'=>H'=H/\∀xs,dc K H a xs->xs[i]? = some x,λi H=>∃xs,dc K H a xs/\xs.length<=i⟩
noncomputable def Gq(lo:Int)(n:Nat):It:=⟨λi _=>i<n,λi H x H'=>H'=H/\x=.int (lo+i),λi _=>n<=i⟩
theorem v9{P:Fm}{w:World}{K:AT}{tg:Expr}(a it:Addr):Turn P w K tg (Gp K a) [it] it (λi h=>h.IsListIter it a i) where
 mem:=by simp
 obj:=λi h st b hb=>by
  have e:b=it:=by simpa using hb
  subst e;obtain⟨o,e,c,d⟩:=st;exact⟨o,e,λv z=>by rw[d] at z; cases z⟩
 keep:=λi h h' st k=>st.at λo e=>k it (by simp) o e
 item:=by
  intro X hP hw hK hc i pins s σ H E I hf st hg;subst hP hw hK;obtain⟨xs,x,hq,hx⟩:=hg;obtain⟨its,rv,p,hz⟩:=I.list hq;obtain⟨u,hu,ru⟩:=rv.get hx;obtain⟨f0,f1,f2,f3,f4,f5⟩:=hf it (by simp)
  refine Pj st p.isList (x:=u) (by simpa using hu) λh' st' sb=>?_
  have I1:Inv X pins σ H { s with heap:=h' }:=I.turned (t':=s.toks) (λb o hb e=>(sb.2 b hb).trans e) f0 f1 f3 f4 f5
  obtain⟨o,e,c,d⟩:=id st';exact⟨u,rfl,xU (s:={ s with heap:=h' }) e c d (by decide) ⟨x,H,I1,ru,⟨rfl,λys hy=>by rw[I.xO hy hq]; exact hx⟩,st',λb hb=>(hf b hb).1⟩⟩
 done:=by
  intro X hP hw hK hc i pins s σ H E I hf st hg;subst hP hw hK;obtain⟨xs,hq,hx⟩:=hg;obtain⟨its,rv,p,hz⟩:=I.list hq;obtain⟨f0,f1,f2,f3,f4,f5⟩:=hf it (by simp)
  have hl:=rv.length;exact Q2 (I.ok.hd hc) st p.isList (by simp; lia) λh' eb=>⟨rfl,I.turned (t':=s.toks) (λb o hb e=>eb b o hb e) f0 f1 f3 f4 f5⟩
 self:=λ_ _ _ _ _ st h=>wpAny_pyIter_listiter st h
theorem sJ{P:Fm}{w:World}{K:AT}{tg:Expr}(a it:Addr):Turn P w K tg (GK K a) [it] it (λi h=>h.IsTupleIter it a i) where
 mem:=by simp
 obj:=λi h st b hb=>by
  have e:b=it:=by simpa using hb
  subst e;obtain⟨o,e,c,d⟩:=st;exact⟨o,e,λv z=>by rw[d] at z; cases z⟩
 keep:=λi h h' st k=>st.at λo e=>k it (by simp) o e
 item:=by
  intro X hP hw hK hc i pins s σ H E I hf st hg;subst hP hw hK;obtain⟨xs,x,hq,hx⟩:=hg;obtain⟨its,rv,p,hz⟩:=I.tuple hq;obtain⟨u,hu,ru⟩:=rv.get hx;obtain⟨f0,f1,f2,f3,f4,f5⟩:=hf it (by simp)
  refine wpAny_pyNext_tuple_item st (show s.heap.IsTuple a its.toArray from p) (x:=u) (by simpa using hu) λh' st' sb=>?_
  have I1:Inv X pins σ H { s with heap:=h' }:=I.turned (t':=s.toks) (λb o hb e=>(sb.2 b hb).trans e) f0 f1 f3 f4 f5
  obtain⟨o,e,c,d⟩:=id st';exact⟨u,rfl,xU (s:={ s with heap:=h' }) e c d (by decide) ⟨x,H,I1,ru,⟨rfl,λys hy=>by rw[I.jL hy hq]; exact hx⟩,st',λb hb=>(hf b hb).1⟩⟩
 done:=by
  intro X hP hw hK hc i pins s σ H E I hf st hg;subst hP hw hK;obtain⟨xs,hq,hx⟩:=hg;obtain⟨its,rv,p,hz⟩:=I.tuple hq;obtain⟨f0,f1,f2,f3,f4,f5⟩:=hf it (by simp)
  have hl:=rv.length;exact wpAny_pyNext_tuple_end (I.ok.hd hc) st (show s.heap.IsTuple a its.toArray from p) (by simp; lia) λh' eb=>⟨rfl,I.turned (t':=s.toks) (λb o hb e=>eb b o hb e) f0 f1 f3 f4 f5⟩
 self:=λ_ _ _ _ _ st h=>wpAny_pyIter_tupleiter st h
theorem sL{P:Fm}{w:World}{K:AT}{tg:Expr}(it:Addr)(lo:Int)(n:Nat):Turn P w K tg (Gq lo n) [it] it (λi h=>IsRangeIter h it (lo+(i:Nat)*1) ((n:Int)-(i:Nat)) 1) where
 mem:=by simp
 obj:=λi h st b hb=>by
  have e:b=it:=by simpa using hb
  subst e;exact⟨_,st,λv z=>by
   have z':Data.fields _=Data.cell v:=z;cases z'⟩
 keep:=λi h h' st k=>k it (by simp) _ st
 item:=by
  intro X hP hw hK hc i pins s σ H E I hf st hg;subst hP hw hK;obtain⟨f0,f1,f2,f3,f4,f5⟩:=hf it (by simp)
  have W:=Walks.range (prog:=X.prog) (w:=X.w) (I.ok.hd hc) it lo 1 n;refine W.item i s _ _ hg st λv h' tk hv st' kk=>?_
  obtain⟨t,rfl⟩:=hv;have I1:Inv X pins σ H { s with heap:=h',toks:=tk }:=I.turned (λb o hb e=>kk b o (by simpa using hb) e) f0 f1 f3 f4 f5
  refine⟨_,rfl,xU (s:={ s with heap:=h',toks:=tk }) (n := "range_iterator") st' rfl rfl (by decide) ⟨.int (lo+i),H,I1,⟨t,?_⟩,⟨rfl,rfl⟩,st',λb hb=>(hf b hb).1⟩⟩
  rw[Int.mul_one]
 done:=by
  intro X hP hw hK hc i pins s σ H E I hf st hg;subst hP hw hK;obtain⟨f0,f1,f2,f3,f4,f5⟩:=hf it (by simp)
  exact wpAny_pyNext_range_end (I.ok.hd hc) st (by have:n<=i:=hg; lia) λh' eb=>⟨rfl,I.turned (t':=s.toks) (λb o hb e=>eb b o hb e) f0 f1 f3 f4 f5⟩
 self:=λ_ _ _ _ _ st h=>wpAny_pyIter_rangeiter st h
end L2
namespace L2
open PySem PySem.Spec PyProof.Rows
section
variable{X:Cx}{tg:Expr}
noncomputable def xV(K:AT)(tl:TE):TI:=λσ H R=>tl σ H λx H1=>∃a,x=.ref a/\(∃xs,fB K H1 a xs)/\R (Gp K a) H1
noncomputable def iTup(K:AT)(tl:TE):TI:=λσ H R=>tl σ H λx H1=>∃a,x=.ref a/\(∃xs,dc K H1 a xs)/\R (GK K a) H1
theorem o6{l:Expr}{tl:TE}(hl:PE X l tl):PI X tg l (xV X.K tl):=by
 intro pins s σ H R I h;refine bw (hl pins s σ H _ I h) λv s1 ⟨x,H1,I1,r1,q1⟩=>?_
 obtain⟨a,e,⟨xs,hq⟩,q⟩:=q1;subst e;cases r1;obtain⟨its,rv,p,hz⟩:=I1.list hq;refine M6 p.isList ?_;refine⟨s1.heap.objs.size,[s1.heap.objs.size],_,_,H1,rfl,I1.kept (t':=s1.toks) λb o e=>Ap _ e,v9 a _,⟨_,Da _ rfl,rfl,rfl⟩,λb hb=>?_,q⟩
 have e:b=s1.heap.objs.size:=by simpa using hb
 subst e;exact I1.fpOk (D2 _) (I1.hok.fresh (D2 _))
theorem Dj{l:Expr}{tl:TE}(hl:PE X l tl):PI X tg l (iTup X.K tl):=by
 intro pins s σ H R I h;refine bw (hl pins s σ H _ I h) λv s1 ⟨x,H1,I1,r1,q1⟩=>?_
 obtain⟨a,e,⟨xs,hq⟩,q⟩:=q1;subst e;cases r1;obtain⟨its,rv,p,hz⟩:=I1.tuple hq;refine Lv (show s1.heap.IsTuple a its.toArray from p) ?_
 refine⟨s1.heap.objs.size,[s1.heap.objs.size],_,_,H1,rfl,I1.kept (t':=s1.toks) λb o e=>Ap _ e,sJ a _,⟨_,Da _ rfl,rfl,rfl⟩,λb hb=>?_,q⟩
 have e:b=s1.heap.objs.size:=by simpa using hb
 subst e;exact I1.fpOk (D2 _) (I1.hok.fresh (D2 _))
theorem xW{pins:List (Addr×Obj)}{σ:St}{H:Hp}{s:B1}{R:It->Hp->Prop}{E:Value->B1->Prop}{lo hi:Int}{t u v:Tok}{tk:Nat}(I:Inv X pins σ H s)(h1 : -(2 ^ 62)<=lo)(h2:lo<2 ^ 62)(h3 : -(2 ^ 62)<=hi)(h4:hi<2 ^ 62)
  (q:R (Gq lo (hi-lo).toNat) H):wpAny (model X.prog X.w) X.A (OG (.ref s.heap.objs.size)) (G9 X pins σ tg R) E { s with heap:=s.heap.push { cls:=.type "range",data:=.fields #[.int lo t,.int hi u,.int 1 v] },toks:=tk }:=by
 refine wpAny_pyIter_range (IsRange.new ..) (small_one h1 h2 h3 h4) ?_;have I1:Inv X pins σ H { s with heap:=s.heap.push { cls:=.type "range",data:=.fields #[.int lo t,.int hi u,.int 1 v] },toks:=tk }:=I.kept λb o e=>Ap _ e
 refine⟨(s.heap.push { cls:=.type "range",data:=.fields #[.int lo t,.int hi u,.int 1 v] }).objs.size,[(s.heap.push { cls:=.type "range",data:=.fields #[.int lo t,.int hi u,.int 1 v] }).objs.size],_,_,H,rfl,
  I1.kept (t':=tk) λb o e=>Ap _ e,sL _ lo (hi-lo).toNat,?_,λb hb=>?_,q⟩
 ·have e1:lo+((0:Nat):Int)*1=lo:=by simp
  have e2:(((hi-lo).toNat:Nat):Int)-((0:Nat):Int)=Builtin.Range.rangeSize lo hi 1:=by rw[rangeSize_one]; split <;> lia
  show IsRangeIter _ _ (lo+((0:Nat):Int)*1) ((((hi-lo).toNat:Nat):Int)-((0:Nat):Int)) 1;rw[e1,e2];exact Da _ rfl
 ·have e:b=(s.heap.push { cls:=.type "range",data:=.fields #[.int lo t,.int hi u,.int 1 v] }).objs.size:=by simpa using hb
  subst e;exact I1.fpOk (D2 _) (I1.hok.fresh (D2 _))
noncomputable def iRng1(ta:TA):TI:=λσ H R=>ta σ H λvs H1=>∃j:Int,vs=[.int j]/\-(2 ^ 62)<=j/\j<2 ^ 62/\R (Gq 0 j.toNat) H1
theorem wc{a:Expr}{ta:TA}{p pos:Pos}(hg:Gl X "range")(hm:X.mg "range" = none)(ha:PA X [a] ta)(hs:Fa [a] X.env=[(false,eval a X.env)]:=by rfl):PI X tg (.Call (.Name "range" p) [a] [] pos) (iRng1 ta):=by
 intro pins s σ H R I h;refine Call_ (fL I hg hm boot_range (JK (bw (ha pos pins s σ H _ I h) λus s1 ⟨vs,H1,I1,r1,q1⟩=>?_) hs rfl))
 obtain⟨j,e,q1,q2,q⟩:=q1;subst e;cases r1 with
 |cons r rr=>
  cases rr;obtain⟨t,rfl⟩:=r;exact call_range_1 (xW I1 (by lia) (by lia) q1 q2 (by simpa using q))
noncomputable def tFor(wi:TI)(g:TG)(tb:TS):TS:=λD σ H=>wi σ H λJ H1=>∃W:Nat->Nat->St->Hp->Prop,(∃m,W 0 m σ H1)/\∀i m σ H,W i m σ H ->
 (J.stop i H/\D.nx σ H)\/(J.go i H/\∃N:St->Hp->Prop,(∀σ' H',N σ' H'->∃m',m'<m/\W (i+1) m' σ' H')/\∀x H',J.yld i H x H'->g x σ H' λσ2 H2=>tb { D with nx:=N,ct:=N,bk:=D.nx } σ2 H2)
noncomputable def kR(fp:List Addr)(h:Heap):List (Addr×Obj):=fp.filterMap λb=>(h.get? b).map λo=>(b,o)
theorem gm{fp:List Addr}{h:Heap}{b:Addr}{o:Obj}(hb:b∈fp)(e:h.get? b=some o):(b,o)∈kR fp h:=Lg.mpr ⟨b,hb,by rw[e]; rfl⟩
theorem we{fp:List Addr}{h:Heap}{p:Addr×Obj}(hp:p∈kR fp h):p.1∈fp/\h.get? p.1=some p.2:=by
 obtain⟨b,hb,e⟩:=Lg.mp hp;cases q:h.get? b with
 |none=>rw[q] at e; cases e
 |some o=>
  rw[q] at e;have e':(b,o)=p:=Go e;subst e';exact⟨hb,q⟩
theorem Inv.pinned{pins:List (Addr×Obj)}{σ:St}{H:Hp}{s:B1}{fp:List Addr}(I:Inv X pins σ H s)(hf:∀b∈fp,gM X pins H b)(ho:∀b∈fp,∃o,s.heap.get? b=some o/\∀v,o.data≠.cell v):Inv X (pins++kR fp s.heap) σ H s :=
 I.uE λp hp=>(lM hp).elim (λz=>I.pin p (lR _ z)) λz=>by
  obtain⟨hb,e⟩:=we z;obtain⟨f0,f1,f2,_⟩:=hf p.1 hb;obtain⟨o,e',d⟩:=ho p.1 hb;rw[e] at e'; cases e';exact⟨e,f0,f1,f2,d⟩
theorem Inv.jh{pins pl:List (Addr×Obj)}{σ:St}{H:Hp}{s:B1}(I:Inv X (pins++pl) σ H s):Inv X pins σ H s:=I.uE λp hp=>I.pin p (lR _ (lL _ hp))
theorem Dk{iter:Expr}{body:List Stmt}{wi:TI}{g:TG}{tb:TS}{pos:Pos}(hp:N9 (model X.prog X.w) X.A X.env X.xe)(hc:X.calm=true)(hi:PI X tg iter wi)(hg:PG X tg g)(hb:sE X body tb)
  (hs:∀x,IP iter X.env x=pure x:=by intro _; rfl):PS X (.For tg iter body [] pos) (tFor wi g tb):=by
 intro pins s σ H D I h;refine wpAny_For (bw (hi pins s σ H _ I h) λv s1 h1=>bw h1 λitv s2 h2=>?_) hs
 obtain⟨it,fp,tn,J,H2,e,I2,T,st2,f2,W,⟨m0,w0⟩,turn⟩:=h2;subst e;have stat:∀{H':Hp},(∀b∈fp,H' b=none)->∀b∈fp,gM X pins H' b:=λhn b hb=>⟨hn b hb,(f2 b hb).2⟩
 refine codeAny_forLoop_any (λn s'=>∃i σ' H',Inv X pins σ' H' s'/\tn i s'.heap/\(∀b∈fp,H' b=none)/\W i n σ' H') ?_ m0 ⟨0,σ,H2,I2,st2,λb hb=>(f2 b hb).1,w0⟩
 rintro n s3 ⟨i,σ3,H3,I3,st3,fr3,w3⟩;rcases turn i n σ3 H3 w3 with⟨stop,qn⟩ | ⟨go,N,hN,step⟩
 ·refine Kg hp (bw (T.done X rfl rfl rfl hc i pins s3 σ3 H3 X.xe I3 (stat fr3) st3 stop) λr s4 ⟨hr,I4⟩=>?_)
  subst hr;exact Me ⟨σ3,H3,I4,qn⟩
 ·refine Kg hp (bw (T.item X rfl rfl rfl hc i pins s3 σ3 H3 X.xe I3 (stat fr3) st3 go) λr s4 ⟨u,hr,h4⟩=>?_)
  subst hr;refine Kg hp (bw h4 λ_ s5 ⟨x,H5,I5,r5,y5,st5,fr5⟩=>?_)
  have I5':=I5.pinned (stat fr5) (T.obj _ _ st5);refine Kg hp (bw (hg _ s5 σ3 H5 x u _ I5' r5 (step x H5 y5)) λ_ s6 ⟨σ6,H6,I6,q6⟩=>?_)
  refine Kg hp (bw (hb _ s6 σ6 H6 _ I6 q6) λf s7 q7=>?_)
  have again:∀{σ7:St}{H7:Hp},Inv X (pins++kR fp s5.heap) σ7 H7 s7->N σ7 H7->∃m,m<n/\∃i σ' H',Inv X pins σ' H' s7/\tn i s7.heap/\(∀b∈fp,H' b=none)/\W i m σ' H':=λ{σ7 H7}I7 n7=>by
   obtain⟨m',hm,w7⟩:=hN σ7 H7 n7;refine⟨m',hm,i+1,σ7,H7,I7.jh,T.keep _ _ _ st5 λb hb o e=>(I7.pin (b,o) (lR _ (lR _ (gm hb e)))).1,λb hb=>?_,w7⟩
   obtain⟨o,e,d⟩:=T.obj _ _ st5 b hb;exact(I7.pin (b,o) (lR _ (lR _ (gm hb e)))).2.1
  cases f with
  |next=>obtain⟨σ7,H7,I7,n7⟩:=q7; exact again I7 n7
  |cont=>obtain⟨σ7,H7,I7,n7⟩:=q7; exact again I7 n7
  |brk=>obtain⟨σ7,H7,I7,q7⟩:=q7; exact⟨σ7,H7,I7.jh,q7⟩
  |ret v=>obtain⟨x7,σ7,H7,I7,r7,q7⟩:=q7; exact⟨x7,σ7,H7,I7.jh,r7,q7⟩
end
end L2
namespace L2
open PySem PySem.Spec PyProof.Rows
abbrev R2:=V->V->Hp->VK->Prop
def ef(X:Cx)(f:Value->Value->Sem Value)(r:R2):Prop :=
 ∀(pins:List (Addr×Obj))(s:B1)(σ:St)(H:Hp)(x y:V)(v u:Value)(Q:VK),Inv X pins σ H s->RelV x v->RelV y u->r x y H Q ->
  wpAny (model X.prog X.w) X.A (f v u) (EP X pins σ Q) X.xe s
def bL(X:Cx)(f:Value)(r:List V->Hp->VK->Prop):Prop :=
 ∀(pins:List (Addr×Obj))(s:B1)(σ:St)(H:Hp)(xs:List V)(us:List Value)(Q:VK),Inv X pins σ H s->Vals xs us->r xs H Q ->
  wpAny (model X.prog X.w) X.A (call f us) (EP X pins σ Q) X.xe s
def TruR(X:Cx)(r:V->Hp->(Bool->Hp->Prop)->Prop):Prop :=
 ∀(pins:List (Addr×Obj))(s:B1)(σ:St)(H:Hp)(x:V)(v:Value)(Q:Bool->Hp->Prop),Inv X pins σ H s->RelV x v->r x H Q ->
  wpAny (model X.prog X.w) X.A (truthy v) (TP X pins σ Q) X.xe s
noncomputable def CF(r:R2)(ta tb:TE):TE:=λσ H Q=>ta σ H λx H1=>tb σ H1 λy H2=>r x y H2 Q
noncomputable def rI(C:Int->Int->Prop)(g:Int->Int->V):R2:=λx y H Q=>∃i j,x=.int i/\y=.int j/\C i j/\Q (g i j) H
noncomputable def CG(g:Int->Int->V):R2:=λx y H Q=>∃i j,x=.int i/\y=.int j/\Q (g i j) H
section
variable{X:Cx}{a b c:Expr}{ta tb tc:TE}{pos:Pos}
theorem binT(ha:PE X a ta)(hb:PE X b tb){pins:List (Addr×Obj)}{s:B1}{σ:St}{H:Hp}{R:V->V->Hp->Prop}(I:Inv X pins σ H s)
  (h:ta σ H λx H1=>tb σ H1 λy H2=>R x y H2) {Q:Value->B1->Prop} {f:Value->Value->Sem Value}
  (hf:∀v u s2 x y H2,Inv X pins σ H2 s2->RelV x v->RelV y u->R x y H2->wpAny (model X.prog X.w) X.A (f v u) Q X.xe s2) :
  wpAny (model X.prog X.w) X.A (eval a X.env) (λv s₁=>wpAny (model X.prog X.w) X.A (eval b X.env) (λu s₂=>wpAny (model X.prog X.w) X.A (f v u) Q X.xe s₂) X.xe s₁) X.xe s:=by
 refine bw (ha pins s σ H _ I h) λv s1 ⟨x,H1,I1,r1,q1⟩=>?_
 refine bw (hb pins s1 σ H1 _ I1 q1) λu s2 ⟨y,H2,I2,r2,q2⟩=>?_
 exact hf v u s2 x y H2 I2 r1 r2 q2
theorem pe_op{op:N2}{r:R2}(ho:ef X (Jq op) r)(ha:PE X a ta)(hb:PE X b tb):PE X (.BinOp a op b pos) (CF r ta tb):=by
 intro pins s σ H Q I h;exact wpAny_BinOp (binT ha hb I h λv u s2 x y H2 I2 rx ry q=>ho pins s2 σ H2 x y v u Q I2 rx ry q)
theorem Gr{f:Value->Value->Sem Value}{C:Int->Int->Prop}{g:Int->Int->Int}
  (rule:∀(i j:Int)(t u:Tok)(s:B1)(Q:Value->B1->Prop)(E:Value->B1->Prop),C i j->Q (.int (g i j) s.toks) { s with toks:=s.toks+1 }->wpAny (model X.prog X.w) X.A (f (.int i t) (.int j u)) Q E s) :
  ef X f (rI C λi j=>.int (g i j)):=by
 intro pins s σ H x y v u Q I rx ry h;obtain⟨i,j,rfl,rfl,hc,q⟩:=h;obtain⟨t,rfl⟩:=rx;obtain⟨t',rfl⟩:=ry;exact rule i j t t' s _ _ hc ⟨.int (g i j),H,I.tok _,⟨_,rfl⟩,q⟩
theorem opI0{f:Value->Value->Sem Value}{g:Int->Int->Int}
  (rule:∀(i j:Int)(t u:Tok)(s:B1)(Q:Value->B1->Prop)(E:Value->B1->Prop),Q (.int (g i j) s.toks) { s with toks:=s.toks+1 }->wpAny (model X.prog X.w) X.A (f (.int i t) (.int j u)) Q E s) :
  ef X f (CG λi j=>.int (g i j)):=by
 intro pins s σ H x y v u Q I rx ry h;obtain⟨i,j,rfl,rfl,q⟩:=h;obtain⟨t,rfl⟩:=rx;obtain⟨t',rfl⟩:=ry;exact rule i j t t' s _ _ ⟨.int (g i j),H,I.tok _,⟨_,rfl⟩,q⟩
theorem opB0{f:Value->Value->Sem Value}{g:Int->Int->Bool}
  (rule:∀(i j:Int)(t u:Tok)(s:B1)(Q:Value->B1->Prop)(E:Value->B1->Prop),Q (.bool (g i j)) s->wpAny (model X.prog X.w) X.A (f (.int i t) (.int j u)) Q E s) :
  ef X f (CG λi j=>.bl (g i j)):=by
 intro pins s σ H x y v u Q I rx ry h;obtain⟨i,j,rfl,rfl,q⟩:=h;obtain⟨t,rfl⟩:=rx;obtain⟨t',rfl⟩:=ry;exact rule i j t t' s _ _ ⟨.bl (g i j),H,I,rfl,q⟩
def CDiv(i j:Int):Prop:=0<j/\j<1073741824
def CMul(i j:Int):Prop:=(-(2 ^ 64)<i/\i<2 ^ 64)\/(-(2 ^ 64)<j/\j<2 ^ 64)
theorem CMul.ok{i j:Int}(h:CMul i j):IntMulOk i j:=by
 rcases h with⟨h1,h2⟩ | ⟨h1,h2⟩
 ·exact .of_left (intBits_le_64 h1 h2)
 ·exact .of_right (intBits_le_64 h1 h2)
theorem Dl:ef X (Jq .Add) (CG λi j=>.int (i+j)):=opI0 λ_ _ _ _ _ _ _ q=>add_int q
theorem Dm:ef X (Jq .Sub) (CG λi j=>.int (i-j)):=opI0 λ_ _ _ _ _ _ _ q=>sub_int q
theorem Dp:ef X (Jq .Mult) (rI CMul λi j=>.int (i*j)):=Gr λ_ _ _ _ _ _ _ hc q=>mul_int q hc.ok
theorem AR:ef X (Jq .FloorDiv) (rI CDiv λi j=>.int (i / j)):=Gr λi j _ _ _ _ _ hc q=>by
 have h1:(0:Int)<j:=hc.1;have h2:j<1073741824:=hc.2;exact floordiv_int (by lia) (by rw[Int.fdiv_eq_ediv_of_nonneg i (by lia)]; exact q) (.inl (PyProof.noPylong_small (by lia)))
theorem Dq:ef X (Jq .Mod) (rI (λ_ j=>0<j) λi j=>.int (i % j)):=Gr λi j _ _ _ _ _ hc q=>by
 have h1:(0:Int)<j:=hc;exact mod_int' (by lia) (by rw[Int.fmod_eq_emod_of_nonneg i (by lia)]; exact q)
end
section
variable{X:Cx}{a b c:Expr}{ta tb tc:TE}{pos:Pos}
theorem sM{pins:List (Addr×Obj)}{σ:St}{H:Hp}{s:B1}{Q:VK}{k k':Bool}(I:Inv X pins σ H s)(q:Q (.bl k) H)(e:k=k'):EP X pins σ Q (.bool k') s:=by
 subst e;exact⟨.bl k,H,I,rfl,q⟩
theorem op_lt:ef X (IZ .Lt) (CG λi j=>.bl (decide (i<j))):=opB0 λ_ _ _ _ _ _ _ q=>Pd q
theorem op_gt:ef X (IZ .Gt) (CG λi j=>.bl (decide (j<i))):=opB0 λ_ _ _ _ _ _ _ q=>gt_int q
theorem op_ge:ef X (IZ .GtE) (CG λi j=>.bl (decide (j<=i))):=opB0 λ_ _ _ _ _ _ _ q=>Qc q
theorem nM:ef X (IZ .In) (λx y H Q=>∃i j,x=.str i/\y=.str j/\Q (.bl (!(Jk j i 0 j.length 1).isEmpty)) H):=by
 intro pins s σ H x y v u Q I rx ry h;obtain⟨i,j,rfl,rfl,q⟩:=h;obtain⟨t,rfl⟩:=rx;obtain⟨t',rfl⟩:=ry;exact in_str (sM I q rfl)
theorem AS:ef X (IZ .IsNot) (λx y H Q=>y=.non/\Q (.bl (!decide (x=.non))) H):=by
 intro pins s σ H x y v u Q I rx ry h;obtain⟨rfl,q⟩:=h;cases ry;refine isnot_none_gen (sM I q ?_);cases x <;> first
  |(cases rx; rfl)
  |(obtain⟨t,rfl⟩:=rx; rfl)
theorem o8:ef X (IZ .NotIn) (λx y H Q=>∃i j,x=.str i/\y=.str j/\Q (.bl (!(!(Jk j i 0 j.length 1).isEmpty))) H):=by
 intro pins s σ H x y v u Q I rx ry h;obtain⟨i,j,rfl,rfl,q⟩:=h;obtain⟨t,rfl⟩:=rx;obtain⟨t',rfl⟩:=ry;exact notIn_str (sM I q rfl)
theorem aX(b:Expr){op:CmpOp}(h:op≠.In:=by decide)(h2:op≠.NotIn:=by decide):J5 op b=false:=by
 have e1:(op == CmpOp.In)=false:=by cases op <;> first | rfl | exact absurd rfl h
 have e2:(op == CmpOp.NotIn)=false:=by cases op <;> first | rfl | exact absurd rfl h2
 cases b <;> simp[J5,e1,e2]
theorem o9{op:CmpOp}{r:R2}(ho:ef X (IZ op) r)(ha:PE X a ta)(hb:PE X b tb)(hm:J5 op b=false):PE X (.Compare a [op] [b] pos) (CF r ta tb):=by
 intro pins s σ H Q I h;exact wpAny_Compare1 (binT ha hb I h λv u s2 x y H2 I2 rx ry q=>ho pins s2 σ H2 x y v u Q I2 rx ry q) hm
noncomputable def tTest(t:TE):TT:=λσ H Q=>t σ H λx H'=>∃k,x=.bl k/\Q k H'
theorem ji{op:CmpOp}{r:R2}(ho:ef X (IZ op) r)(ha:PE X a ta)(hb:PE X b tb)(hm:J5 op b=false):PT X (.Compare a [op] [b] pos) (tTest (CF r ta tb)):=by
 intro pins s σ H Q I h;refine Q4 (bw (ha pins s σ H _ I h) λv s1 ⟨x,H1,I1,r1,q1⟩=>bw (hb pins s1 σ H1 _ I1 q1) λu s2 ⟨y,H2,I2,r2,q2⟩=>
  bw (ho pins s2 σ H2 x y v u _ I2 r1 r2 q2) λc s3 ⟨z,H3,I3,r3,k,e,q3⟩=>?_) hm
 subst e;cases r3;exact Kk ⟨H3,I3,q3⟩
def TruV(K:AT)(x:V)(H:Hp)(k:Bool):Prop :=
 match x with
 |.non=>k=false
 |.bl b=>k=b
 |.int i=>k=(i != 0)
 |.str y=>y.length<=FV/\k=((y.length:Int) != 0)
 |.byt y=>y.size<=FV/\k=((y.size:Int) != 0)
 |.ref p=>(∃xs,fB K H p xs/\k = !xs.isEmpty)\/(∃xs,dc K H p xs/\k = !xs.isEmpty)\/∃kvs,H p=some (.dK kvs)/\k = !kvs.isEmpty
 |_=>False
theorem sN{κ:Type}{kvs:List (κ×V)}{vs:List (κ×Value)}(r:KV kvs vs):(!vs.isEmpty) = !kvs.isEmpty:=by
 cases r <;> rfl
theorem kT{xs:List V}{its:List Value}(r:Vals xs its):(!its.toArray.isEmpty) = !xs.isEmpty:=by
 cases r <;> simp
theorem iU:(FV:Nat)<2 ^ 63:=by rw[IX]; decide
theorem Dr:TruR X (λx H Q=>∃k,TruV X.K x H k/\Q k H):=by
 intro pins s σ H x v Q I rx h;obtain⟨k,e,q⟩:=h;have hl:=iU;have hs:FV=16777216:=IX;cases x with
 |non=>
  cases rx;have e':k=false:=e;subst e';exact truthy_none ⟨H,I,q⟩
 |bl b=>
  cases rx;have e':k=b:=e;subst e';exact Kk ⟨H,I,q⟩
 |int i=>
  obtain⟨t,rfl⟩:=rx;have e':k=(i != 0):=e;subst e';exact PySem.P.truthy_int ⟨H,I,q⟩
 |str y=>
  obtain⟨t,rfl⟩:=rx;obtain⟨hy,e'⟩:y.length<=FV/\k=((y.length:Int) != 0):=e;subst e';exact PySem.P.truthy_str (by lia) ⟨H,I.tok _,q⟩
 |byt y=>
  obtain⟨t,rfl⟩:=rx;obtain⟨hy,e'⟩:y.size<=FV/\k=((y.size:Int) != 0):=e;subst e';exact PySem.W.truthy_bytes (by lia) ⟨H,I.tok _,q⟩
 |ref p=>
  cases rx;have e':(∃xs,fB X.K H p xs/\k = !xs.isEmpty)\/(∃xs,dc X.K H p xs/\k = !xs.isEmpty)\/∃kvs,H p=some (.dK kvs)/\k = !kvs.isEmpty:=e;rcases e' with⟨xs,hx,e'⟩ | ⟨xs,hx,e'⟩ | ⟨kvs,hx,e'⟩
  ·subst e'
   obtain⟨its,r,pl,hz⟩:=I.list hx;have hlen:=r.length;exact wpAny_truthy_list pl.isList (by simp only[Ee]; lia) ⟨H,I.tok _,by rw[kT r]; exact q⟩
  ·subst e'
   obtain⟨its,r,pl,hz⟩:=I.tuple hx;have hlen:=r.length;exact truthy_tuple pl (by simp only[Ee]; lia) ⟨H,I.tok _,by rw[kT r]; exact q⟩
  ·subst e'
   obtain⟨hz,hS,vs,r,m⟩:kvs.length<=FV/\(p == Jc)=false/\∃vs,KV kvs vs/\s.heap.DictOf (aO X.prog X.w) p vs:=I.hok p _ hx;have hlen:kvs.length=vs.length:=Jz r;exact wpAny_truthy_dict hS m (by lia) ⟨H,I.tok _,by rw[sN r]; exact q⟩
 |_=>exact(show False from e).elim
theorem xX(ha:PE X a ta)(he:∀whole,Om a X.env whole=(do let v <-whole; MY a.pos; LX [v] (truthy v))) :
  PT X a (λσ H Q=>ta σ H λx H'=>∃k,TruV X.K x H' k/\Q k H'):=by
 intro pins s σ H Q I h;exact isTrue_plain (bw (ha pins s σ H _ I h) λv s1 ⟨x,H1,I1,r1,q1⟩=>Dr pins s1 σ H1 x v Q I1 r1 q1) (he _)
theorem sO:ef X (Jq .Add) (λx y H Q=>∃i j,x=.str i/\y=.str j/\i.length+j.length<=FV/\Q (.str (i++j)) H):=by
 intro pins s σ H x y v u Q I rx ry h;obtain⟨i,j,rfl,rfl,hz,q⟩:=h;obtain⟨t,rfl⟩:=rx;obtain⟨t',rfl⟩:=ry;exact add_str (λt' tk=>⟨.str (i++j),H,I.tok _,⟨_,rfl⟩,q⟩) hz
theorem vals1{x:V}{us:List Value}(r:Vals [x] us):∃u,us=[u]/\RelV x u:=by
 cases r with
 |cons r1 r2=>cases r2; exact⟨_,rfl,r1⟩
theorem vals2{x y:V}{us:List Value}(r:Vals [x,y] us):∃u w',us=[u,w']/\RelV x u/\RelV y w':=by
 cases r with
 |cons r1 r2=>
  cases r2 with
  |cons r3 r4=>cases r4; exact⟨_,_,rfl,r1,r3⟩
theorem xY:bL X (.builtin "abs") (λxs H Q=>∃i,xs=[.int i]/\Q (.int (if i<0 then -i else i)) H):=by
 intro pins s σ H xs us Q I r h;obtain⟨i,rfl,q⟩:=h;obtain⟨u,rfl,t,rfl⟩:=vals1 r;exact call_abs_int λu tk=>⟨.int (if i<0 then -i else i),H,I.tok _,⟨_,rfl⟩,q⟩
theorem wg(hc:X.calm=true):bL X (.builtin "max") (λxs H Q=>∃i j,xs=[.int i,.int j]/\Q (.int (if j>i then j else i)) H):=by
 intro pins s σ H xs us Q I r h;obtain⟨i,j,rfl,q⟩:=h;obtain⟨u,w',rfl,⟨t,rfl⟩,⟨t',rfl⟩⟩:=vals2 r;refine max_two_ints (I.ok.hd hc) λh' tk k=>⟨_,H,I.kept k,?_,q⟩
 by_cases hj:j>i
 ·rw[if_pos hj,if_pos hj]; exact⟨_,rfl⟩
 ·rw[if_neg hj,if_neg hj]; exact⟨_,rfl⟩
theorem wj(hc:X.calm=true):bL X (.builtin "min") (λxs H Q=>∃i j,xs=[.int i,.int j]/\Q (.int (if j<i then j else i)) H):=by
 intro pins s σ H xs us Q I r h;obtain⟨i,j,rfl,q⟩:=h;obtain⟨u,w',rfl,⟨t,rfl⟩,⟨t',rfl⟩⟩:=vals2 r;refine min_two_ints (I.ok.hd hc) λh' tk k=>⟨_,H,I.kept k,?_,q⟩
 by_cases hj:j<i
 ·rw[if_pos hj,if_pos hj]; exact⟨_,rfl⟩
 ·rw[if_neg hj,if_neg hj]; exact⟨_,rfl⟩
theorem nN:bL X (.type "int") (λxs H Q=>(∃i,xs=[.int i]/\Q (.int i) H)\/∃k,xs=[.bl k]/\Q (.int (if k then 1 else 0)) H):=by
 intro pins s σ H xs us Q I r h;rcases h with⟨i,rfl,q⟩ | ⟨k,rfl,q⟩
 ·obtain⟨u,rfl,t,rfl⟩:=vals1 r
  exact call_int_int ⟨.int i,H,I,⟨_,rfl⟩,q⟩
 ·obtain⟨u,rfl,r1⟩:=vals1 r
  cases r1;exact call_int_bool ⟨.int (if k then 1 else 0),H,I.tok _,⟨_,rfl⟩,q⟩
end
end L2
namespace L2
open PySem PySem.Spec PyProof.Rows
theorem mZ.some_of{v:V}{o:Option Value}(r:mZ (some v) o):∃u,o=some u/\RelV v u:=by
 cases o with
 |none=>exact(show False from r).elim
 |some u=>exact⟨u,rfl,r⟩
end L2
namespace L2
open PySem PySem.Spec PyProof.Rows
structure fq(k:Nat)(A:ID):Prop where
 hd:A.handled=none
 dp:A.depth+3*k+5<recursionLimit
 un:A.units+16*k+200<cLine
 gd:A.guards=some []
theorem fq.mono{j k:Nat}{A:ID}(r:fq k A)(h:j<=k):fq j A:=⟨r.hd,by have:=r.dp; lia,by have:=r.un; lia,r.gd⟩
theorem fq.deeper{k:Nat}{A:ID}(r:fq (k+1) A)(env:Env):fq k (A.deeper env) :=
 ⟨r.hd,by have:=r.dp; show A.depth+1+3*k+5<_; lia,by have:=r.un; show A.units+3+16*k+200<_; lia,r.gd⟩
theorem fq.depth{k:Nat}{A:ID}(r:fq k A):A.depth<recursionLimit:=by have:=r.dp; lia
theorem fq.units{k:Nat}{A:ID}(r:fq k A):A.units+64<cLine:=by have:=r.un; lia
noncomputable def tNil:TA:=λ_ H Q=>Q [] H
noncomputable def CH(ta:TE)(tr:TA):TA:=λσ H Q=>ta σ H λx H1=>tr σ H1 λxs H2=>Q (x::xs) H2
section
variable{X:Cx}{e:Expr}{es:List Expr}{te:TE}{t:TA}{pos:Pos}
theorem kU:PA X [] tNil:=λ_ _ _ _ H Q I h=>Ll ⟨[],H,I,.nil,h⟩
theorem iu(ha:PE X e te)(hr:PA X es t)(hs:Fa (e::es) X.env=(false,eval e X.env)::Fa es X.env:=by rfl):PA X (e::es) (CH te t):=by
 intro pos pins s σ H Q I h;rw[hs];show wpAny _ _ (spliced ((false,eval e X.env)::L8 pos (Fa es X.env))) _ _ s;refine Mj (bw (ha pins s σ H _ I h) λu s1 ⟨x,H1,I1,r1,q1⟩=>?_)
 exact bw (hr pos pins s1 σ H1 _ I1 q1) λus s2 ⟨xs,H2,I2,r2,q2⟩=>⟨x::xs,H2,I2,.cons r1 r2,q2⟩
noncomputable def tTup(t:TA):TE:=λσ H Q=>t σ H λxs H1=>xs.length<=FV/\∀p,H1 p=none->Q (.ref p) (upd H1 p (.tup xs))
noncomputable def tLst(t:TA):TE:=λσ H Q=>t σ H λxs H1=>xs.length<=FV/\∀p,H1 p=none->Q (.ref p) (upd H1 p (.lst xs))
theorem xZ{x1}(h:PA X es t):PE X (.Tuple es x1 pos) (tTup t):=by
 intro pins s σ H Q I hq;refine wpAny_Tuple_spliced (bw (h pos pins s σ H _ I hq) λus s1 ⟨xs,H1,I1,r,z,q⟩=>⟨by rw[<-r.length]; exact z,?_⟩)
 have hf:H1 s1.heap.objs.size=none:=I1.hok.fresh (D2 _);refine⟨.ref s1.heap.objs.size,upd H1 s1.heap.objs.size (.tup xs),I1.laid (t':=s1.toks) (λb u e=>Ap _ e) (D2 _) ?_,rfl,q _ hf⟩
 exact⟨z,us,r,⟨_,Da _ rfl,rfl,_,rfl⟩⟩
theorem Ds(h:PA X es t):PE X (.List es pos) (tLst t):=by
 intro pins s σ H Q I hq;refine wpAny_List_spliced (bw (h pos pins s σ H _ I hq) λus s1 ⟨xs,H1,I1,r,z,q⟩=>⟨by rw[<-r.length]; exact z,?_⟩)
 have hf:H1 s1.heap.objs.size=none:=I1.hok.fresh (D2 _);refine⟨.ref s1.heap.objs.size,upd H1 s1.heap.objs.size (.lst xs),I1.laid (t':=s1.toks) (λb u e=>Ap _ e) (D2 _) ?_,rfl,q _ hf⟩
 exact⟨z,us,0,r,Da _ rfl⟩
end
abbrev Sp:=List V->Hp->VK->XK->Prop
abbrev xE:=List Env->Hp->B1->XK->Value->B1->Prop
structure Env0(P:Fm)(w:World)(K:AT)(mg:Str->Option Value)(base:Heap)(A:ID)(outer:List Env)(s:B1)(H:Hp):Prop where
 frames:A.frames=some outer
 mod:Mod K mg base
 bs:∀b o,base.get? b=some o->s.heap.get? b=some o/\H b=none
 bsz:base.objs.size<=s.heap.objs.size
 kQ:s.heap.FunFrames base outer
 frf:∀b∈frs outer,H b=none
 hok:iH P w H s.heap
 bare:Md s.gens
def CE(outer:List Env)(P:Fm)(w:World)(H:Hp)(s:B1)(Q:VK)(u:Value)(s':B1):Prop :=
 ∃v H',s'.os=s.os/\Md s'.gens/\Un (frs outer) [] H H' s.heap s'.heap/\iH P w H' s'.heap/\RelV v u/\Q v H'
def CR(CX:xE)(outer:List Env)(P:Fm)(w:World)(H:Hp)(s:B1)(Q:VK)(E:XK)(r:Qv)(s':B1):Prop :=
 match r with
 |.ok (.ret u)=>CE outer P w H s Q u s'
 |.ok _=>False
 |.error e=>CX outer H s E e s'
structure cY(P:Fm)(w:World)(K:AT)(mg:Str->Option Value)(base:Heap)(CX:xE)(k:Nat)(f:Addr)(fd:K7)(ps:List Str)(sp:Sp):Prop where
 len:∀vs H Q E,sp vs H Q E->vs.length=ps.length
 run:∀(A:ID)(outer:List Env)(s:B1)(H:Hp)(args:Args)(us:List Value)(vs:List V)(Q:VK)(E:XK),fq k A->Env0 P w K mg base A outer s H->Of s fd args (ps.zip us)->Vals vs us->sp vs H Q E ->
  Kl (model P w) A (.call (.ref f) args) (CR CX outer P w H s Q E) s
theorem cY.imp{P:Fm}{w:World}{K:AT}{mg:Str->Option Value}{base:Heap}{CX:xE}{k:Nat}{f:Addr}{fd:K7}{ps:List Str}{sp sp':Sp}(F:cY P w K mg base CX k f fd ps sp)
  (h:∀vs H Q E,sp' vs H Q E->sp vs H Q E):cY P w K mg base CX k f fd ps sp' :=
 ⟨λvs H Q E q=>F.len vs H Q E (h _ _ _ _ q),λA outer s H args us vs Q E hr he hb hv hs=>F.run A outer s H args us vs Q E hr he hb hv (h _ _ _ _ hs)⟩
section
variable{X:Cx}{pins:List (Addr×Obj)}{σ:St}{H:Hp}{s s':B1}
theorem Inv.env0(I:Inv X pins σ H s):Env0 X.prog X.w X.K X.mg X.base X.A X.stack s H :=
 ⟨I.ok.frames,I.ok.mod,I.bs,Ip I.ok.bsz I.sz,I.stack,I.o4,I.hok,I.bare⟩
theorem Inv.after{Q:VK}{u:Value}(I:Inv X pins σ H s)(h:CE X.stack X.prog X.w H s Q u s'):EP X pins σ Q u s':=by
 obtain⟨v,H',os,bare,un,hok,r,q⟩:=h;obtain⟨hh,g,d,t,os'⟩:=s';obtain rfl:os'=s.os:=os;exact⟨v,H',I.call (h':=hh) (g':=g) (d':=d) (t':=t) (ch:=[]) un hok bare (λb z=>absurd z (by simp)),r,q⟩
end
noncomputable def ya(sp:Sp)(dvs:List V)(E:XK)(t:TA):TE:=λσ H Q=>t σ H λvs H1=>sp (vs++dvs) H1 Q E
def Binds(K:AT)(fd:K7)(ps:List Str)(ds:List Value):Prop :=
 ∀(s:B1)(us:List Value),K.In s.heap->(us++ds).length=ps.length->Of s fd ⟨us,[]⟩ (ps.zip (us++ds))
theorem Binds.all{K:AT}{fd:K7}{ps:List Str}(h:∀us:List Value,us.length=ps.length->bindArgs fd ⟨us,[]⟩=pure (ps.zip us)):Binds K fd ps []:=λs us _ hl=>by
 rw[EQ] at hl ⊢;exact .of_eq (h us hl)
def Passes(CX:xE)(X:Cx)(E:XK):Prop:=∀(pins:List (Addr×Obj))(σ:St)(H:Hp)(s:B1)(e:Value)(s':B1),Inv X pins σ H s->CX X.stack H s E e s'->X.xe e s'
section
variable{X:Cx}{CX:xE}{k:Nat}{f C:Addr}{fd:K7}{ps:List Str}{sp:Sp}{dvs:List V}{ds:List Value}{E:XK}{x m:Str}{p pos apos:Pos}{e o:Expr}{es:List Expr}{ta:TE}{t:TA}
theorem Dt{pins:List (Addr×Obj)}{σ:St}{H:Hp}{s:B1}{Q:VK}{us:List Value}{vs:List V}(F:cY X.prog X.w X.K X.mg X.base CX k f fd ps sp)(hr:fq k X.A)(hb:Binds X.K fd ps ds)(hd:Vals dvs ds)(hx:Passes CX X E)
  (I:Inv X pins σ H s) (r:Vals vs us) (h:sp (vs++dvs) H Q E):wpAny (model X.prog X.w) X.A (call (.ref f) us) (EP X pins σ Q) X.xe s:=by
 have r2:Vals (vs++dvs) (us++ds):=r.append hd;have hl:(us++ds).length=ps.length:=by rw[<-r2.length]; exact F.len _ _ _ _ h
 refine wpAny_call (Ma (F.run X.A X.stack s H ⟨us,[]⟩ (us++ds) (vs++dvs) Q E hr I.env0 (hb s us I.uD hl) r2 h) λr s' hq=>?_)
 cases r with
 |error e=>exact hx pins σ H s e s' I hq
 |ok fl=>
  cases fl with
  |ret u=>exact I.after hq
  |next=>exact Kh hq
  |brk=>exact Kh hq
  |cont=>exact Kh hq
theorem AU(F:cY X.prog X.w X.K X.mg X.base CX k f fd ps sp)(hr:fq k X.A)(hg:Gl X x)(hm:X.mg x=some (.ref f))(hk:Ib X.K (.ref f)=true)(hb:Binds X.K fd ps ds)(hd:Vals dvs ds)(hx:Passes CX X E)
  (ha:PA X (e::es) t) (hdb:(x == ("__debug__" : Str))=false:=by decide) (he:Fa (e::es) X.env=(false,eval e X.env)::Fa es X.env:=by rfl) (hpl:(L8 pos (Fa es X.env)).any (·.1)=false:=by rfl) :
  PE X (.Call (.Name x p) (e::es) [] pos) (ya sp dvs E t):=by
 intro pins s σ H Q I h;refine JT (AI I hg hm ?_ hdb);refine PySem.W.callWith_K (h₀:=X.base) I.ok.mod.kin hk (bw (ha pos pins s σ H _ I h) λus s1 ⟨vs,H1,I1,r,q⟩=>⟨I1.uD,?_⟩) he hpl
 exact Dt F hr hb hd hx I1 r q
end
structure bB(N P:List Str)(sc:Scope):Prop where
 kind:sc.kind=.function
 co:sc.isCoroutine=false
 gen:sc.isGenerator=false
 nd:N.Nodup
 pre:N.take P.length=P
 par:∀x∈P,sc.names.lookup x=some .local\/sc.names.lookup x=some .cell
 nofree:∀y∈sc.names,y.2≠.free
theorem nO{kindOf:Str->Option Jd}{x:Str}:∀{binds:List (Str×Value)}{m:Str->Option Value},(∀v,(x,v)∉binds)->bindL kindOf binds m x=m x
 |[],_,_=>rfl
 |(n,v)::r,m,h=>by
  unfold bindL;rw[nO λw hw=>h w (lO _ hw)]
  split
  ·have:x≠n:=by rintro rfl; exact h v lS
   simp[this]
  ·rfl
theorem nP{kindOf:Str->Option Jd}{x:Str}:∀{binds:List (Str×Value)}{m:Str->Option Value},(∀v,(x,v)∉binds)->bindC kindOf binds m x=m x
 |[],_,_=>rfl
 |(n,v)::r,m,h=>by
  unfold bindC;rw[nP λw hw=>h w (lO _ hw)]
  split
  ·rfl
  ·have:x≠n:=by rintro rfl; exact h v lS
   simp[this]
theorem nQ{kindOf:Str->Option Jd}{x:Str}{v:Value}:∀{P:List Str}{vs:List Value}{i:Nat}{m:Str->Option Value},P.Nodup->P[i]? = some x->vs[i]? = some v->kindOf x=some .local ->
  bindL kindOf (P.zip vs) m x=some v
 |[],_,_,_,_,h,_,_=>by simp at h
 |_::_,[],_,_,_,_,h,_=>by simp at h
 |p::P,w::vs,0,m,nd,h1,h2,hk=>by
  simp at h1 h2; subst h1; subst h2;show bindL kindOf ((p,w)::P.zip vs) m p=_;unfold bindL;rw[nO λv hv=>(IM.mp nd).1 (MJ hv).1,if_pos hk]
  simp
 |p::P,w::vs,i+1,m,nd,h1,h2,hk=>by
  show bindL kindOf ((p,w)::P.zip vs) m x=_;unfold bindL;exact nQ (i:=i) (IM.mp nd).2 (by simpa using h1) (by simpa using h2) hk
theorem nR{kindOf:Str->Option Jd}{x:Str}{v:Value}:∀{P:List Str}{vs:List Value}{i:Nat}{m:Str->Option Value},P.Nodup->P[i]? = some x->vs[i]? = some v->kindOf x≠some .local ->
  bindC kindOf (P.zip vs) m x=some v
 |[],_,_,_,_,h,_,_=>by simp at h
 |_::_,[],_,_,_,_,h,_=>by simp at h
 |p::P,w::vs,0,m,nd,h1,h2,hk=>by
  simp at h1 h2; subst h1; subst h2;show bindC kindOf ((p,w)::P.zip vs) m p=_;unfold bindC;rw[nP λv hv=>(IM.mp nd).1 (MJ hv).1,if_neg hk]
  simp
 |p::P,w::vs,i+1,m,nd,h1,h2,hk=>by
  show bindC kindOf ((p,w)::P.zip vs) m x=_;unfold bindC;exact nR (i:=i) (IM.mp nd).2 (by simpa using h1) (by simpa using h2) hk
noncomputable def start(N:List Str)(vs:List V):St:=vs.map some++FK (N.length-vs.length) none
noncomputable def qC(CX:xE)(P:Fm)(w:World)(K:AT)(mg:Str->Option Value)(base:Heap)(N:List Str)(qual:Str)(scope:Scope)(f:Addr)(cd:Value)(A:ID)(outer:List Env)(s:B1)(H:Hp)(E:XK):Cx where
 prog:=P
 w:=w
 K:=K
 mg:=mg
 base:=base
 A:=A.deeper (Mc qual scope s.heap.objs.size f cd)
 N:=N
 s₀:=s
 H₀:=H
 env:=Mc qual scope s.heap.objs.size f cd
 outer:=outer
 stack:=Mc qual scope s.heap.objs.size f cd::outer
 ex:=[]
 calm:=true
 fn:=λ_=>true
 pn:=[]
 xe:=λe s'=>wpAny (model P w) (A.deeper (Mc qual scope s.heap.objs.size f cd)) (leaving (Mc qual scope s.heap.objs.size f cd) e) (λ_ s''=>CX outer H s E e s'') (λe' s''=>CX outer H s E e' s'') s'
theorem qD{sc:Scope}{n:Nat}{x:Str}(h:sc.names.lookup x=some .cell):∃c,(IF n sc.names []).lookup x=some c:=by
 have q:=OH sc.names n [] (.inl h);exact Iz.mp q
theorem wk{CX:xE}{P:Fm}{w:World}{K:AT}{mg:Str->Option Value}{base:Heap}{N ps:List Str}{qual:Str}{scope:Scope}{f:Addr}{cd:Value}{A:ID}{outer:List Env}{s s1:B1}{H:Hp}{E:XK}{us:List Value}{vs:List V}
  (S:bB N ps scope) (hd:A.handled=none) (e0:Env0 P w K mg base A outer s H) (hl:vs.length=ps.length) (r:Vals vs us)
  (x:InCallC s s.heap.objs.size (bindL (Mc qual scope s.heap.objs.size f cd).kindOf (ps.zip us) λ_=>none) (IF (s.heap.objs.size+1) scope.names []) (bindC (Mc qual scope s.heap.objs.size f cd).kindOf (ps.zip us) λ_=>none) s1) :
  Inv (qC CX P w K mg base N qual scope f cd A outer s H E) [] (start N vs) H s1:=by
 have hpl:ps.length<=N.length:=by have:=congrArg MW S.pre; rw[Hb] at this; lia
 obtain⟨h1,tk,rfl,hk⟩:=x.done;have noA:∀b:Addr,b∉(qC CX P w K mg base N qual scope f cd A outer s H E).ex:=λb z=>absurd (show b∈([]:List Addr) from z) (by simp)
 refine⟨⟨e0.mod,S.kind,rfl,rfl,D2 _,λy z c h1 h2=>?_,λy hy=>?_,λy c _ h=>?_,λ_=>hd,Around.frames_deeper e0.frames,.inr ⟨rfl,rfl⟩,λb z=>absurd z (noA b),e0.bs,e0.bsz,λb _ _=>noA b,λb z=>absurd z (noA b),e0.kQ,e0.frf⟩,
  rfl,e0.bare,Un.kept hk,⟨_,x.toInCall.ns,λi y v h1 h2 h3=>?_⟩,λy c h=>⟨_,x.cell y c h⟩,e0.hok.fresh (D2 _),λy c h=>?_,λp hp=>absurd (show p∈([]:List (Addr×Obj)) from hp) (by simp),e0.hok.kept hk,?_⟩
 ·exact name_of_addr x.apart (KH h1) (KH h2)
 ·have hy:scope.names.lookup y=some .cell\/scope.names.lookup y=some .free:=hy
  rcases hy with hy | hy
  ·exact qD hy
  ·exact absurd rfl (S.nofree _ (KH hy))
 ·exact JI (x.above y c (KH h))
 ·have hi:i<vs.length:=by
   unfold start at h2
   by_cases hi:i<vs.length
   ·exact hi
   ·rw[IH (by simpa using hi)] at h2
    rw[List.getElem?_replicate] at h2
    split at h2 <;> cases h2
  have ha:vs[i]? = some v:=by
   unfold start at h2;rw[He (by simpa using hi),IC] at h2
   cases e:vs[i]? with
   |none=>rw[e] at h2; cases h2
   |some a=>rw[e] at h2; cases h2; rfl
  obtain⟨u,hu,rv⟩:=r.get ha;have hp:ps[i]? = some y:=by
   rw[<-S.pre,Ir (by lia)]; exact h1
  have ndP:ps.Nodup:=by rw[<-S.pre]; exact S.nd.sublist (Q1 _ _)
  refine⟨u,rv,?_⟩;rcases S.par y (IS hp) with k | k
  ·exact .inl ⟨k,nQ ndP hp hu k⟩
  ·obtain⟨c,e⟩:=qD (n:=s.heap.objs.size+1) k
   refine .inr ⟨.inl k,c,e,?_⟩;have q:=x.cell y c e;rw[nR ndP hp hu (by show scope.names.lookup y≠_; rw[k]; decide)] at q
   exact q
 ·exact e0.hok.fresh (JI (x.above y c (KH h)))
 ·unfold start
  show _=N.length;rw[FB,BM,MN];lia
theorem fn_of{CX:xE}{P:Fm}{w:World}{K:AT}{mg:Str->Option Value}{base:Heap}{k:Nat}{f:Addr}{name qual:Str}{params:Arguments}{body:List Stmt}{scope:Scope}{dV kV doc pm cdv ct oc:Value}{an od:Option Addr}
  {osl:Array (Option Value)} {N ps:List Str} {sp:Sp} (lk:K.lookup f=some ⟨oc,od,.func (Ie name qual params body scope dV kV doc pm an cdv ct),osl⟩) (hcd:Ik K cdv qual=true) (S:bB N ps scope)
  (len:∀vs H Q E,sp vs H Q E->vs.length=ps.length)
  (hbody:∀(A:ID)(outer:List Env)(s:B1)(H:Hp)(vs:List V)(Q:VK)(E:XK),fq k (A.deeper (Mc qual scope s.heap.objs.size f cdv))->sp vs H Q E ->
   ∃t,sE (qC CX P w K mg base N qual scope f cdv A outer s H E) body t/\t { nx:=λ_ H'=>Q .non H',rt:=Q } (start N vs) H) :
  cY P w K mg base CX (k+1) f (Ie name qual params body scope dV kV doc pm an cdv ct) ps sp:=by
 refine⟨len,λA outer s H args us vs Q E hr e0 hb r hsp=>?_⟩
 have hl:=len _ _ _ _ hsp;have KX:K.In s.heap:=e0.mod.kin.keeps λb o e=>(e0.bs b o e).1
 have lim:s.heap.NoLimit:=e0.mod.nolimit.keeps λb o e=>(e0.bs b o e).1
 have hkind:∀y∈ps.zip us,scope.names.lookup y.1=some .local\/(scope.names.lookup y.1=some .cell/\((IF (s.heap.objs.size+1) scope.names []).lookup y.1).isSome=true):=λ⟨n,v⟩ hy=>by
  rcases S.par n (MJ hy).1 with q | q
  ·exact .inl q
  ·exact .inr ⟨q,OH _ _ _ (.inl q)⟩
 refine codeAny_call_function hr.depth (KX _ _ lk) rfl S.co S.gen rfl (PySem.W.codeRec_of KX hcd) (hb _ _ _ _ ?_);refine wpAny_newFunctionEnv_cells S.kind hkind λenv he s1 x=>?_
 subst he;refine⟨lim.keeps x.toInCall.keep,codeAny_func ?_⟩;obtain⟨t,ht,hq⟩:=hbody A outer s H vs Q E (hr.deeper _) hsp;have I:Inv (qC CX P w K mg base N qual scope f cdv A outer s H E) [] (start N vs) H s1:=wk S hr.hd e0 hl r x;refine K1 (ht [] s1 (start N vs) H _ I hq) (λfl s' hs=>?_) λe s' hs=>hs
 have fin:∀{σ':St}{H':Hp}{v:V}{u:Value},Inv (qC CX P w K mg base N qual scope f cdv A outer s H E) [] σ' H' s'->RelV v u->Q v H'->CE outer P w H s Q u s' :=
  λ{σ' H' v u}J rv q=>⟨v,H',J.os,J.bare,J.base,J.hok,rv,q⟩
 cases fl with
 |ret u=>
  obtain⟨v,σ',H',J,rv,q⟩:=hs;exact fin J rv q
 |next=>
  obtain⟨σ',H',J,q⟩:=hs;exact fin (v:=V.non) (u:=Gc) J rfl q
 |brk=>
  obtain⟨_,_,_,q⟩:=hs;exact Kh q
 |cont=>
  obtain⟨_,_,_,q⟩:=hs;exact Kh q
end L2
namespace L2
open PySem PySem.Spec PyProof.Rows
section
variable{X:Cx}{x:Str}{p pos:Pos}{e:Expr}{es:List Expr}{t:TA}{id T:String}{r:List V->Hp->VK->Prop}
noncomputable def Gs(r:List V->Hp->VK->Prop)(t:TA):TE:=λσ H Q=>t σ H λvs H1=>r vs H1 Q
theorem qE(hc:bL X (.builtin id) r)(hg:Gl X x)(hm:X.mg x=none)(hv:Jv x=some (.builtin id))(ha:PA X (e::es) t)(hn:x ≠ "__name__" := by decide)(hdb:(x == ("__debug__" : Str))=false:=by decide)
  (he:Fa (e::es) X.env=(false,eval e X.env)::Fa es X.env:=by rfl) (hpl:(L8 pos (Fa es X.env)).any (·.1)=false:=by rfl):PE X (.Call (.Name x p) (e::es) [] pos) (Gs r t):=by
 intro pins s σ H Q I h;refine JT (fL I hg hm hv ?_ hn hdb);exact Kw (bw (ha pos pins s σ H _ I h) λus s1 ⟨vs,H1,I1,r1,q1⟩=>hc pins s1 σ H1 vs us Q I1 r1 q1) he hpl
theorem wm(hc:bL X (.type T) r)(hg:Gl X x)(hm:X.mg x=none)(hv:Jv x=some (.type T))(ha:PA X (e::es) t)(hn:x ≠ "__name__" := by decide)(hdb:(x == ("__debug__" : Str))=false:=by decide)
  (he:Fa (e::es) X.env=(false,eval e X.env)::Fa es X.env:=by rfl) (hpl:(L8 pos (Fa es X.env)).any (·.1)=false:=by rfl):PE X (.Call (.Name x p) (e::es) [] pos) (Gs r t):=by
 intro pins s σ H Q I h;refine JT (fL I hg hm hv ?_ hn hdb);exact JK (bw (ha pos pins s σ H _ I h) λus s1 ⟨vs,H1,I1,r1,q1⟩=>hc pins s1 σ H1 vs us Q I1 r1 q1) he hpl
end
end L2
namespace HT
open PySem PyProof.Rows
noncomputable def lexLt:List Int->List Int->Bool
 |[],[]=>false
 |[],_::_=>true
 |_::_,[]=>false
 |x::xs,y::ys=>if x=y then lexLt xs ys else decide (x<y)
theorem bN(x y:Int)(xs ys:List Int):lexLt (x::xs) (y::ys)=if x=y then lexLt xs ys else decide (x<y):=rfl
theorem iI:lexLt [] []=false:=rfl
theorem kW(y:Int)(ys:List Int):lexLt [] (y::ys)=true:=rfl
theorem kX(x:Int)(xs:List Int):lexLt (x::xs) []=false:=rfl
theorem qF(A:ID)(s:B1)(a:Int)(t:Tok)(c:Int)(u:Tok):∃e,PP A s (.int a t) (.int c u) e/\(e=true↔a=c) :=
 ⟨(a == c),SeqAt.EqAt.int_int a t c u,by simp⟩
theorem yb(A:ID)(s:B1)(a:Int)(t:Tok)(c:Int)(u:Tok)(prog:Fm)(w:World)(E:Value->B1->Prop)(Q:Value->B1->Prop)(h:Q (.bool (decide (a<c))) s) :
  wpAny (model prog w) A (richCompare .Lt (.int a t) (.int c u)) Q E s :=
 (Pd h:wpAny (model prog w) A (IZ .Lt (.int a t) (.int c u)) Q E s)
section
open PySem.SeqAt
open PySem.AutoSeq1 (wpAny_loadPart')
open PySem.MeetsSeq PySem.MeetsSeq2 PySem.MeetsSeq3
theorem nh(l b:Addr)(items items2:Array Value)(n n2:Nat)(dd dd2:Option Addr)(sl sl2:Array (Option Value))(ns ms:List Int)(hi:JS items.toList ns)(hj:JS items2.toList ms) :
  Meets (J1.«tuple.__lt__» ⟨[.ref l,.ref b],[]⟩)
   (λ_ R s=>s.heap.get? l=some { cls:=.type "tuple",dict:=dd,data:=.seq items n,slots:=sl }/\s.heap.get? b=some { cls:=.type "tuple",dict:=dd2,data:=.seq items2 n2,slots:=sl2 } /\
    R (.ok (.ret (.bool (lexLt ns ms)))) s) :=
 .of_wp λprog w A R s h=>by
  obtain⟨hp,g,d,tk,os⟩:=s; obtain⟨hl,hb,h⟩:=h;have f2:=Nd;have z1:items.size=ns.length:=by rw[<-hi.length]; simp
  have z2:items2.size=ms.length:=by rw[<-hj.length]; simp
  wp_walk using KG hl,KG hb,LR _ (λrest b s'=>b.1=none/\s'=⟨hp,g,d,tk,os⟩/\∃ (vs ws:List Value) (ns' ms':List Int),rest=vs.zip ws /\
   JS vs ns'/\JS ws ms'/\ns'.length+items2.size=ms'.length+items.size/\R (.ok (.ret (.bool (lexLt ns' ms')))) ⟨hp,g,d,tk,os⟩) _
  case turn=>
   rintro⟨y,x⟩ rest b s' ⟨hb',rfl,vs,ws,ns',ms',hz,hvi,hwi,hlen,hR⟩;cases hvi with
   |nil=>rw[Q0] at hz; cases hz
   |cons a t hvi' =>
    cases hwi with
    |nil=>rw[Pf] at hz; cases hz
    |cons c u hwi' =>
     rw[Jl] at hz
     injection hz with hyx hrest
     injection hyx with hy hx
     subst hy hx;rw[bN] at hR;simp only[Bz] at hlen;obtain⟨e,he,hiff⟩:=qF A.in1 ⟨hp,g,d,tk,os⟩ a t c u;refine AC (he prog w _ _ ?_);cases e with
     |true=>
      rw[if_pos (hiff.mp rfl)] at hR
      wp_walk
      exact⟨rfl,rfl,_,_,_,_,hrest,hvi',hwi',by lia,hR⟩
     |false=>
      rw[if_neg (λq=>absurd (hiff.mpr q) JC)] at hR
      have hri:=yb A.in1 ⟨hp,g,d,tk,os⟩ a t c u prog w
      wp_walk using hri
      exact⟨_,rfl,by simpa using hR⟩
  case fin=>
   rintro⟨b1,b2⟩ s' ⟨hb',rfl,vs,ws,ns',ms',hz,hvi,hwi,hlen,hR⟩;simp only at hb';subst hb';have hv:lexLt ns' ms'=decide (items.size<items2.size):=by
    cases hvi with
    |nil=>
     cases hwi with
     |nil=>
      simp only[Ic] at hlen;rw[iI];exact(decide_eq_false (by lia)).symm
     |cons c u hw=>
      simp only[Ic,Bz] at hlen;rw[kW];exact(decide_eq_true (by lia)).symm
    |cons a t hv=>
     cases hwi with
     |nil=>
      simp only[Ic,Bz] at hlen;rw[kX];exact(decide_eq_false (by lia)).symm
     |cons c u hw=>
      rw[Jl] at hz;cases hz
   rw[hv] at hR
   wp_walk
   exact⟨_,rfl,by simpa[MM] using hR⟩
  case h=>
   exact⟨rfl,rfl,items.toList,items2.toList,ns,ms,rfl,hi,hj,by lia,h⟩
end
section
variable{prog:Fm}{w:World}{A:ID}{E:Value->B1->Prop}{s:B1}
theorem sP{l b:Addr}{items items2:Array Value}{ns ms:List Int}{Q:Value->B1->Prop}(hl:IsTup s.heap l items)(hb:IsTup s.heap b items2)(hi:JS items.toList ns)(hj:JS items2.toList ms)
  (hu:A.units<cLine) (h:Q (.bool (lexLt ns ms)) s):wpAny (model prog w) A (IZ .Lt (.ref l) (.ref b)) Q E s:=by
 obtain⟨⟨cls,dd,data,sl⟩,ho,hc,n,hd⟩:=id hl;obtain⟨⟨cls2,dd2,data2,sl2⟩,ho2,hc2,n2,hd2⟩:=id hb;simp only at hc hd hc2 hd2;subst hc hd hc2 hd2;exact Pk (op:=.Lt) ⟨_,ho,rfl⟩ ⟨_,ho2,rfl⟩ PySem.F.slot_tuple_lt PySem.F.entry_tuple_lt (PySem.F.args_tuple_lt_2 _ _) (nh l b items items2 n n2 dd dd2 sl sl2 ns ms hi hj)
  ⟨ho,ho2,show Np (lexLt ns ms)≠Os/\Q (.bool (lexLt ns ms)) s from⟨(λx=>nomatch x),h⟩⟩ hu
theorem AV{t b:Addr}{vs ws:List Value}{Q:Value->B1->Prop}(ht:IsTup s.heap t vs.toArray)(hb:IsTup s.heap b ws.toArray)(hv:vs≠[])
  (h1:ws=[]->Q (.ref t) s) (h2:ws≠[]->Q (.ref s.heap.objs.size) { s with heap:=s.heap.push { cls:=.type "tuple",data:=.seq (vs++ws).toArray } })
  (hsz:vs.length+ws.length<=FV):wpAny (model prog w) A (Jq .Add (.ref t) (.ref b)) Q E s:=by
 obtain⟨⟨cls,dd,data,sl⟩,ho,hc,n,hd⟩:=id ht;obtain⟨⟨cls2,dd2,data2,sl2⟩,ho2,hc2,n2,hd2⟩:=id hb;simp only at hc hd hc2 hd2;subst hc hd hc2 hd2;have e:vs.toArray++ws.toArray=(vs++ws).toArray:=by simp
 by_cases hw:ws=[]
 ·exact OX ⟨_,ho,rfl⟩ ⟨_,ho2,rfl⟩ NG OF Lx Lo (Lj _ _)
   (tuple_addW1 t b vs.toArray ws.toArray n n2 dd dd2 sl sl2 (by simpa using hv) (by simp[hw])) ⟨ho,ho2,h1 hw⟩
 ·refine OX ⟨_,ho,rfl⟩ ⟨_,ho2,rfl⟩ NG OF Lx Lo (Lj _ _)
   (tuple_addW2 t b vs.toArray ws.toArray n n2 dd dd2 sl sl2 (by simpa using hv) (by simpa using hw) (by rw[Ee,Ee]; exact hsz)) ⟨ho,ho2,?_⟩
  rw[e];exact h2 hw
noncomputable def cM(n d:Nat):Option Int->Nat
 |none=>d
 |some v=>if v<0 then (v+(n:Int)).toNat else min v.toNat n
theorem qG(n d:Nat):cM n d none=d:=rfl
theorem uG(n d k:Nat):cM n d (some (k:Int))=min k n:=by
 show (if (k:Int)<0 then ((k:Int)+(n:Int)).toNat else min (k:Int).toNat n)=min k n
 rw[if_neg (by lia),JZ]
theorem Du(n d:Nat)(hd:d<=n)(o:Option Int):cM n d o<=n:=by
 cases o with
 |none=>exact hd
 |some v=>
  show (if v<0 then (v+(n:Int)).toNat else min v.toNat n)<=n
  by_cases hv:v<0
  ·rw[if_pos hv]; lia
  ·rw[if_neg hv]; exact QR _ _
theorem uH(v:Int)(n d:Nat):(if v<0 then max (v+(n:Int)) 0 else min v (n:Int))=((cM n d (some v):Nat):Int):=by
 show (if v<0 then max (v+(n:Int)) 0 else min v (n:Int))=(((if v<0 then (v+(n:Int)).toNat else min v.toNat n):Nat):Int)
 by_cases hv:v<0
 ·simp only[if_pos hv]; lia
 ·simp only[if_neg hv]; lia
theorem sQ(lo hi:Option Int)(n:Nat):LJ lo hi 1 (n:Int)=(((cM n 0 lo:Nat):Int),((cM n n hi:Nat):Int)):=by
 have h1:¬ ((1:Int)<0):=by lia
 unfold LJ;simp only[h1,if_false];refine Prod.ext ?_ ?_
 ·cases lo with
  |none=>rfl
  |some v=>exact uH v n 0
 ·cases hi with
  |none=>rfl
  |some v=>exact uH v n n
theorem sR(i j:Nat):KW (i:Int) (j:Int) 1=j-i:=by
 unfold KW;have h1:(1:Int)>0:=by lia
 simp only[h1,if_true,Int.ediv_one]
 split <;> lia
theorem kY{v:Value}{o:Option Int}{Q:Option Int->B1->Prop}(p:N3 v o)(h:Q o s):wpAny (model prog w) A (Builtin.Slice.slicePartIndex v) Q E s:=by
 cases p with
 |none=>exact slicePart_none h
 |int i t=>exact slicePart_int h
theorem fR{sl:Addr}{vl vu:Value}{lo hi:Option Int}{n:Nat}{Q:Int×Int×Nat->B1->Prop}(hs:s.heap.IsSliceOf sl vl vu .none)(pl:N3 vl lo)(pu:N3 vu hi)
  (h:Q (((cM n 0 lo:Nat):Int),1,cM n n hi-cM n 0 lo) s):wpAny (model prog w) A (Mm (.ref sl) (pure (n:Int))) Q E s:=by
 obtain⟨os,hos,hcs,hds⟩:=id hs;unfold Mm Builtin.Slice.sliceFields;refine AC (AC (JU hos hds (x:=vl) rfl (AC (JU hos hds (x:=vu) rfl (AC (JU hos hds (x:=.none) rfl (At ?_)))))));refine AC (slicePart_none ?_);show wpAny _ _ (if ((1:Int) == 0)=true then _ else _) _ _ s
 rw[if_neg (by decide)]
 refine AC (kY pl (AC (kY pu (AC (At ?_)))));show wpAny _ _ (match LJ lo hi 1 (n:Int) with | (lo,hi)=>pure (lo,(1:Int),KW lo hi 1)) _ _ s
 rw[sQ lo hi n];show wpAny _ _ (pure (((cM n 0 lo:Nat):Int),(1:Int),KW ((cM n 0 lo:Nat):Int) ((cM n n hi:Nat):Int) 1)) _ _ s;rw[sR];exact At h
theorem yc(xs:Array Value)(i k:Nat):((Fu k).filterMap λ(m:Nat)=>xs[((i:Int)+(m:Int)*1).toNat]?).toArray=((xs.toList.drop i).take k).toArray:=by
 have e:(λ(m:Nat)=>xs[((i:Int)+(m:Int)*1).toNat]?)=λm=>xs[i+m]? := by
  funext m
  have:((i:Int)+(m:Int)*1).toNat=i+m:=by lia
  rw[this]
 rw[e];have:=pick_run xs i k;rw[Pi] at this;have e2:((λx=>xs[x]?)∘λx=>i+x)=λm=>xs[i+m]? := rfl
 rw[e2] at this;rw[this]
theorem jj{t sl:Addr}{items:Array Value}{vl vu:Value}{lo hi:Option Int}{Q:Value->B1->Prop}(ht:IsTup s.heap t items)(hs:s.heap.IsSliceOf sl vl vu .none)(pl:N3 vl lo)(pu:N3 vu hi)
  (hw:¬ (cM items.size 0 lo=0/\cM items.size items.size hi=items.size))
  (h:Q (.ref s.heap.objs.size) { s with heap:=s.heap.push { cls:=.type "tuple",data:=.seq ((items.toList.drop (cM items.size 0 lo)).take (cM items.size items.size hi-cM items.size 0 lo)).toArray } })
  (hsz:items.size<=FV):wpAny (model prog w) A (M7 (.ref t) (.ref sl)) Q E s:=by
 have htake:sizeOk (.seq ((items.toList.drop (cM items.size 0 lo)).take (cM items.size items.size hi-cM items.size 0 lo)).toArray):=by
  show ((items.toList.drop (cM items.size 0 lo)).take (cM items.size items.size hi-cM items.size 0 lo)).toArray.size<=FV;rw[Ee,Hb,IA,Do];lia
 have hj:cM items.size items.size hi<=items.size:=Du _ _ (D2 _) hi;obtain⟨os,hos,hcs,hds⟩:=id hs;have hTs:s.TypeIs (.ref sl) "slice" := ⟨os,hos,hcs⟩;unfold M7
 try with_reducible refine IK ?_
 first | refine AC (At ?_) | skip
 refine AC (wpAny_sequenceKey ht.typeIs (by decide) ?_)
 refine AC (Ii (name:=KS "__getitem__") ht.typeIs JE
  (IR JE ht.typeIs Qd ?_ (Qz _ _)))
 show wpAny _ _ (Ml (.ref t) >>= _) _ _ s;refine AC (tupleItemsOf_ ht ?_);refine AC (Ku hTs ?_);rw[if_pos (by decide)]
 refine AC (fR hs pl pu ?_);have hno:¬ ((((cM items.size 0 lo:Nat):Int) == 0 && (1:Int) == 1 && (cM items.size items.size hi-cM items.size 0 lo) == items.size)=true):=by
  intro q;rw[IW,IW] at q;have q1:((cM items.size 0 lo:Nat):Int)=0:=eq_of_beq q.1.1;have q2:cM items.size items.size hi-cM items.size 0 lo=items.size:=eq_of_beq q.2;exact hw ⟨by lia,by lia⟩
 show wpAny _ _ (if (((cM items.size 0 lo:Nat):Int) == 0 && (1:Int) == 1 && (cM items.size items.size hi-cM items.size 0 lo) == items.size)=true then _ else _) _ _ s
 rw[if_neg hno,yc]
 first
  |exact AC (m:=Kc _) (IB (At ⟨_,rfl,At h⟩) htake)
  |exact AC (m:=Kc _) (IB (AC (At (At ⟨_,rfl,At h⟩))) htake)
  |exact AC (AC (m:=Kc _) (IB (At (At ⟨_,rfl,At h⟩)) htake))
  |exact AC (AC (m:=Kc _) (IB (At ⟨_,rfl,At h⟩) htake))
end
end HT
namespace L2
open PySem PySem.Spec PyProof.Rows
abbrev TO:=St->Hp->(Option Int->Hp->Prop)->Prop
def PO(X:Cx)(e:Option Expr)(t:TO):Prop :=
 ∀(pins:List (Addr×Obj))(s:B1)(σ:St)(H:Hp)(Q:Option Int->Hp->Prop),Inv X pins σ H s->t σ H Q ->
  wpAny (model X.prog X.w) X.A (evalPart e X.env) (λu s'=>∃o H',Inv X pins σ H' s'/\N3 u o/\Q o H') X.xe s
noncomputable def AW:TO:=λ_ H Q=>Q none H
noncomputable def tPart(t:TE):TO:=λσ H Q=>t σ H λx H1=>∃i,x=.int i/\Q (some i) H1
theorem intsAre_of{ns:List Int}:∀{us:List Value},Vals (ns.map V.int) us->JS us ns:=by
 induction ns with
 |nil=>intro us r; rw[MB] at r; cases r; exact .nil
 |cons n ns ih=>
  intro us r;rw[FC] at r;cases r with
  |cons r1 r2=>
   obtain⟨t,e⟩:=r1;subst e;exact .cons n t (ih r2)
section
variable{X:Cx}{e:Expr}{te:TE}{lo hi:Option Expr}{tl th:TO}{pos p2:Pos}
theorem AX:PO X none AW:=by
 intro pins s σ H Q I h;rw[evalPart_none];exact At ⟨none,H,I,.none,h⟩
theorem AY(h:PE X e te):PO X (some e) (tPart te):=by
 intro pins s σ H Q I hw;rw[evalPart_some];refine bw (h pins s σ H _ I hw) λu s1 ⟨x,H1,I1,r1,q1⟩=>?_
 obtain⟨i,rfl,q⟩:=q1;obtain⟨t,rfl⟩:=r1;exact⟨some i,H1,I1,.int i t,q⟩
def AZ(X:Cx)(r:V->Option Int->Option Int->Hp->VK->Prop):Prop :=
 ∀(pins:List (Addr×Obj))(s:B1)(σ:St)(H:Hp)(x:V)(v vl vu:Value)(lo hi:Option Int)(sl:Addr)(Q:VK),Inv X pins σ H s->RelV x v->s.heap.IsSliceOf sl vl vu .none->N3 vl lo->N3 vu hi->r x lo hi H Q ->
  ∃T id,Qm (.type T) "__getitem__" = pure (some (.builtin id))/\s.TypeIs v T/\wpAny (model X.prog X.w) X.A (M7 v (.ref sl)) (EP X pins σ Q) X.xe s
noncomputable def HF(r:V->Option Int->Option Int->Hp->VK->Prop)(te:TE)(tl th:TO):TE:=λσ H Q=>te σ H λx H1=>tl σ H1 λl H2=>th σ H2 λu H3=>r x l u H3 Q
theorem yd{r:V->Option Int->Option Int->Hp->VK->Prop}(hr:AZ X r)(he:PE X e te)(hl:PO X lo tl)(hu:PO X hi th):PE X (.Subscript e (.Slice lo hi none p2) pos) (HF r te tl th):=by
 intro pins s σ H Q I h;refine R3 (bw (he pins s σ H _ I h) λv s1 ⟨x,H1,I1,r1,q1⟩=>?_)
 refine wpAny_Slice (bw (hl pins s1 σ H1 _ I1 q1) λvl s2 ⟨l,H2,I2,pl,q2⟩=>bw (hu pins s2 σ H2 _ I2 q2) λvu s3 ⟨u,H3,I3,pu,q3⟩=>?_)
 rw[evalPart_none];refine At ?_;have I4:Inv X pins σ H3 { s3 with heap:=s3.heap.push { cls:=.type "slice",data:=.fields #[vl,vu,.none] } }:=I3.kept (t':=s3.toks) λb ob q=>Ap _ q
 obtain⟨T,id,hT,ht,hg⟩:=hr pins { s3 with heap:=s3.heap.push { cls:=.type "slice",data:=.fields #[vl,vu,.none] } } σ H3 x v vl vu l u s3.heap.objs.size Q I4 r1 (Heap.IsSliceOf.new ..) pl pu q3
 show wpAny (model X.prog X.w) X.A (PR e (.Slice lo hi none p2) v (.ref s3.heap.objs.size)) (EP X pins σ Q) X.xe { s3 with heap:=s3.heap.push { cls:=.type "slice",data:=.fields #[vl,vu,.none] } }
 exact tail_any (ops:=[.ref s3.heap.objs.size,v]) ht hT hg (by with_unfolding_all rfl)
noncomputable def kZ(xs:List V)(lo hi:Option Int):List V:=(xs.drop (HT.cM xs.length 0 lo)).take (HT.cM xs.length xs.length hi-HT.cM xs.length 0 lo)
theorem jZ(xs:List V)(lo hi:Option Int):(kZ xs lo hi).length<=xs.length:=by
 unfold kZ;rw[Hb,IA];lia
def rSlT(K:AT):V->Option Int->Option Int->Hp->VK->Prop:=λx lo hi H Q=>∃a xs,x=.ref a/\dc K H a xs /\
 ¬ (HT.cM xs.length 0 lo=0/\HT.cM xs.length xs.length hi=xs.length)/\∀p,H p=none->Q (.ref p) (upd H p (.tup (kZ xs lo hi)))
theorem Dv:AZ X (rSlT X.K):=by
 intro pins s σ H x v vl vu lo hi sl Q I rx hs pl pu h;obtain⟨a,xs,rfl,hx,hw,q⟩:=h;cases rx;obtain⟨its,r,ht,hz⟩:=I.tuple hx;have hlen:its.toArray.size=xs.length:=by rw[Ee]; exact r.length.symm
 refine⟨"tuple",_,JE.lookup,ht.typeIs,?_⟩;refine HT.jj ht hs pl pu (by rw[hlen]; exact hw) ?_ (by rw[hlen]; exact hz)
 rw[hlen];refine⟨.ref s.heap.objs.size,_,I.laid (t':=s.toks) (o:=.tup (kZ xs lo hi)) (λb ob q=>Ap _ q) (D2 _) ?_,rfl,q _ (I.hok.fresh (D2 _))⟩
 exact⟨Ip (jZ xs lo hi) hz,_,(r.drop (HT.cM xs.length 0 lo)).take (HT.cM xs.length xs.length hi-HT.cM xs.length 0 lo),OR _ _⟩
noncomputable def rLtT(K:AT):R2:=λx y H Q=>∃a b ns ms,x=.ref a/\y=.ref b/\dc K H a (ns.map V.int)/\dc K H b (ms.map V.int)/\Q (.bl (HT.lexLt ns ms)) H
theorem Dw(hu:X.A.units<cLine):ef X (IZ .Lt) (rLtT X.K):=by
 intro pins s σ H x y v u Q I rx ry h;obtain⟨a,b,ns,ms,rfl,rfl,ha,hb,q⟩:=h;cases rx;cases ry;obtain⟨its,r1,p1,_⟩:=I.tuple ha;obtain⟨its2,r2,p2,_⟩:=I.tuple hb;have i1:JS its.toArray.toList ns:=intsAre_of r1;have i2:JS its2.toArray.toList ms:=intsAre_of r2;exact HT.sP p1 p2 i1 i2 hu ⟨.bl (HT.lexLt ns ms),H,I,rfl,q⟩
noncomputable def rCatT(K:AT):R2:=λx y H Q=>∃a b xs ys,x=.ref a/\y=.ref b/\dc K H a xs/\dc K H b ys/\xs≠[]/\xs.length+ys.length<=FV /\
 (ys=[]->Q (.ref a) H)/\(ys≠[]->∀p,H p=none->Q (.ref p) (upd H p (.tup (xs++ys))))
theorem Vals.pe{xs:List V}{us:List Value}(r:Vals xs us):us=[]↔xs=[]:=by
 cases r with
 |nil=>simp
 |cons _ _=>simp
theorem A0:ef X (Jq .Add) (rCatT X.K):=by
 intro pins s σ H x y v u Q I rx ry h;obtain⟨a,b,xs,ys,rfl,rfl,ha,hb,hx,hz,q1,q2⟩:=h;cases rx;cases ry;obtain⟨its,r1,p1,_⟩:=I.tuple ha;obtain⟨its2,r2,p2,_⟩:=I.tuple hb;refine HT.AV p1 p2 (λz=>hx (r1.pe.mp z)) (λz=>⟨.ref a,H,I,rfl,q1 (r2.pe.mp z)⟩) (λz=>?_) (by rw[<-r1.length,<-r2.length]; exact hz)
 refine⟨.ref s.heap.objs.size,_,I.laid (t':=s.toks) (o:=.tup (xs++ys)) (λb ob q=>Ap _ q) (D2 _) ?_,rfl,q2 (λw=>z (r2.pe.mpr w)) _ (I.hok.fresh (D2 _))⟩
 exact⟨by rw[FB]; exact hz,_,r1.append r2,OR _ _⟩
end
end L2
namespace L2
open PySem PySem.Spec PyProof.Rows
noncomputable def qH(n:Nat)(i:Int):Option Nat:=if 0<=i then (if i<n then some i.toNat else none) else if -(n:Int)<=i then some (i+n).toNat else none
noncomputable def jf{α:Type}(xs:List α)(i:Int):Option α:=(qH xs.length i).bind λj=>xs[j]?
theorem uI{n:Nat}{i:Int}{j:Nat}(h:qH n i=some j):seqIndex? i n=some j/\j<n/\-(n:Int)<=i/\i<n:=by
 unfold qH at h
 by_cases h0:0<=i
 ·rw[if_pos h0] at h
  by_cases h1:i<n
  ·rw[if_pos h1] at h
   have e:i.toNat=j:=Go h;exact⟨by rw[QH h0 h1,e],by lia,by lia,h1⟩
  ·rw[if_neg h1] at h; cases h
 ·rw[if_neg h0] at h
  by_cases h1 : -(n:Int)<=i
  ·rw[if_pos h1] at h
   have e:(i+n).toNat=j:=Go h;exact⟨by rw[seqIndex_neg (by lia) h1,e],by lia,h1,by lia⟩
  ·rw[if_neg h1] at h; cases h
theorem jk{α:Type}{xs:List α}{i:Int}{v:α}(h:jf xs i=some v):∃j,seqIndex? i xs.length=some j/\xs[j]? = some v/\j<xs.length/\-(xs.length:Int)<=i/\i<xs.length:=by
 unfold jf at h;cases e:qH xs.length i with
 |none=>rw[e] at h; cases h
 |some j=>
  rw[e] at h;obtain⟨h1,h2,h3,h4⟩:=uI e;exact⟨j,h1,h,h2,h3,h4⟩
theorem pg{α:Type}{xs:List α}{j:Nat}{v:α}(h:xs[j]? = some v):jf xs (j:Int)=some v:=by
 have hj:j<xs.length:=(DD.mp h).1;have e:qH xs.length (j:Int)=some j:=by
  unfold qH;rw[if_pos (by lia),if_pos (by lia)]; simp
 unfold jf; rw[e]; exact h
def pq(b:Expr):Prop:=∀o i,OL b false o i=operate [o,i] (M7 o i)
def A1(X:Cx)(r:R2):Prop :=
 ∀(value slice:Expr)(pins:List (Addr×Obj))(s:B1)(σ:St)(H:Hp)(x y:V)(v u:Value)(Q:VK),Inv X pins σ H s->RelV x v->RelV y u->r x y H Q ->
  OL slice false v u=operate [v,u] (M7 v u)->wpAny (model X.prog X.w) X.A (PR value slice v u) (EP X pins σ Q) X.xe s
def HG(X:Cx)(id:String)(r:V->List V->Hp->VK->Prop):Prop :=
 ∀(pins:List (Addr×Obj))(s:B1)(σ:St)(H:Hp)(x:V)(xs:List V)(v:Value)(us:List Value)(Q:VK),Inv X pins σ H s->RelV x v->Vals xs us->r x xs H Q ->
  wpAny (model X.prog X.w) X.A (call (.builtin id) (v::us)) (EP X pins σ Q) X.xe s
section
variable{X:Cx}{a b:Expr}{ta tb:TE}{pos:Pos}
theorem A1.or{r r':R2}(h:A1 X r)(h':A1 X r'):A1 X (λx y H Q=>r x y H Q\/r' x y H Q):=by
 intro value slice pins s σ H x y v u Q I rx ry q hs;rcases q with q | q
 ·exact h value slice pins s σ H x y v u Q I rx ry q hs
 ·exact h' value slice pins s σ H x y v u Q I rx ry q hs
theorem pe_ix{r:R2}(hr:A1 X r)(ha:PE X a ta)(hb:PE X b tb)(hs:pq b):PE X (.Subscript a b pos) (CF r ta tb):=by
 intro pins s σ H Q I h;exact R3 (binT ha hb I h λv u s2 x y H2 I2 rx ry q=>hr a b pins s2 σ H2 x y v u Q I2 rx ry q (hs _ _))
noncomputable def rIxL(K:AT):R2:=λx y H Q=>∃p xs i v,x=.ref p/\y=.int i/\fB K H p xs/\jf xs i=some v/\Q v H
noncomputable def rIxT(K:AT):R2:=λx y H Q=>∃p xs i v,x=.ref p/\y=.int i/\dc K H p xs/\jf xs i=some v/\Q v H
noncomputable def rIxS:R2:=λx y H Q=>∃z i c,x=.str z/\y=.int i/\z.length<=FV/\jf z.cps.toList i=some c/\Q (.str ⟨#[c]⟩) H
theorem A3:A1 X (rIxL X.K):=by
 intro value slice pins s σ H x y v u Q I rx ry h hs;obtain⟨p,xs,i,z,rfl,rfl,hq,he,q⟩:=h;cases rx;obtain⟨t,rfl⟩:=ry;obtain⟨its,r,pl,hz⟩:=I.list hq;obtain⟨j,h1,h2,h3,h4,h5⟩:=jk he;obtain⟨w,ew,rw'⟩:=r.get h2;have hl:=r.length;have hn:=iU;have fin:EP X pins σ Q w s:=⟨z,H,I,rw',q⟩
 by_cases h0:0<=i
 ·have hj:i.toNat=j:=by
   rw[QH h0 h5] at h1;exact Go h1
  exact item_listR pl.isList h0 (by lia) (by rw[hj]; simpa using ew) fin hs
 ·have hj:(i+(its.toArray.size:Int)).toNat=j:=by
   rw[seqIndex_neg (by lia) h4] at h1
   rw[Ee,<-hl];exact Go h1
  exact Pt (x:=w) pl.isList.typeIs slot_list_getitem.lookup
   (wpAny_getItem_list_neg (Q:=λr s'=>r=w/\EP X pins σ Q r s') pl.isList (by lia) (by rw[Ee] <;> lia) (by lia) (by rw[hj]; simpa using ew) ⟨rfl,fin⟩) hs
theorem Dy:A1 X (rIxT X.K):=by
 intro value slice pins s σ H x y v u Q I rx ry h hs;obtain⟨p,xs,i,z,rfl,rfl,hq,he,q⟩:=h;cases rx;obtain⟨t,rfl⟩:=ry;obtain⟨its,r,pl,hz⟩:=I.tuple hq;obtain⟨j,h1,h2,h3,h4,h5⟩:=jk he;obtain⟨w,ew,rw'⟩:=r.get h2;have hl:=r.length;have hn:=iU;have fin:EP X pins σ Q w s:=⟨z,H,I,rw',q⟩;exact Pt (x:=w) pl.typeIs JE.lookup
  (getItem_tuple (j:=j) (Q:=λr s'=>r=w/\EP X pins σ Q r s') pl (by lia) (by lia) (by rw[Ee,<-hl]; exact h1) (by simpa using ew) ⟨rfl,fin⟩) hs
theorem Dz:A1 X rIxS:=by
 intro value slice pins s σ H x y v u Q I rx ry h hs;obtain⟨z,i,c,rfl,rfl,hz,he,q⟩:=h;obtain⟨t,rfl⟩:=rx;obtain⟨t',rfl⟩:=ry;obtain⟨j,h1,h2,h3,h4,h5⟩:=jk he;have hl:z.cps.toList.length=z.length:=by simp[Str.length]
 rw[hl] at h1 h4 h5;have hn:=iU;exact tail_any (typeIs_str s z t) slot_str_getitem.lookup (getItem_str (c:=c) (by
  have e1:decide (i < -(2 ^ 63:Int))=false:=decide_eq_false (by lia)
  have e2:decide (i>=2 ^ 63)=false:=decide_eq_false (by lia)
  rw[e1,e2,Bool.or_false]) (by rw[h1]; simpa using h2) ⟨.str ⟨#[c]⟩,H,I.tok _,⟨_,rfl⟩,q⟩) hs
noncomputable def Hf(K:AT):R2:=λx y H Q=>rIxL K x y H Q\/rIxT K x y H Q\/rIxS x y H Q
theorem DA:A1 X (Hf X.K):=A3.or (Dy.or Dz)
theorem sU(its:List Value)(n j:Nat)(u:Value):JD (·.setIfInBounds j u) { cls:=.type "list",data:=.seq its.toArray n }={ cls:=.type "list",data:=.seq (its.set j u).toArray n }:=by
 simp[JD]
theorem Inv.lst{pins:List (Addr×Obj)}{σ:St}{H:Hp}{s:B1}{p:Addr}{xs:List V}(I:Inv X pins σ H s)(h:H p=some (.lst xs)) :
  ∃ (its:List Value) (n:Nat),Vals xs its/\s.heap.get? p=some { cls:=.type "list",data:=.seq its.toArray n }/\xs.length<=FV:=by
 obtain⟨z,its,n,r,e⟩:=I.hok p _ h;exact⟨its,n,r,e,z⟩
theorem Inv.DB{pins:List (Addr×Obj)}{σ:St}{H:Hp}{s:B1}{p:Addr}{xs ys:List V}{its its':List Value}{n n':Nat}{f:Obj->Obj}(I:Inv X pins σ H s)(h:H p=some (.lst xs))
  (ho:s.heap.get? p=some { cls:=.type "list",data:=.seq its.toArray n }) (hf:f { cls:=.type "list",data:=.seq its.toArray n }={ cls:=.type "list",data:=.seq its'.toArray n' }) (r:Vals ys its') (hz:ys.length<=FV) (t:Nat) :
  Inv X pins σ (upd H p (.lst ys)) { s with heap:=s.heap.update p f,toks:=t }:=by
 have e:(s.heap.update p f).get? p=some { cls:=.type "list",data:=.seq its'.toArray n' }:=by
  rw[LC f ho (by rw[hf] <;> rfl),hf]
 refine I.write (x:=p) (e:=p) (by rw[h]; trivial) (.inl rfl) (λb u hb q=>(M8 _ _ (Kr hb)).trans q) ⟨_,e⟩ ?_
 exact⟨hz,its',n',r,e⟩
def qI:V->V->V->Hp->(Hp->Prop)->Prop:=λo i v H Q=>∃p xs k j,o=.ref p/\i=.int k/\H p=some (.lst xs)/\qH xs.length k=some j/\Q (upd H p (.lst (xs.set j v)))
theorem set_list:PSet X qI:=by
 intro pins s σ H o i v ov iv u Q I ro ri rv h;obtain⟨p,xs,k,j,rfl,rfl,hp,hj,q⟩:=h;cases ro;obtain⟨t,rfl⟩:=ri;obtain⟨its,n,r,ho,hz⟩:=I.lst hp;obtain⟨h1,h2,h3,h4⟩:=uI hj;have hl:=r.length;have hn:=iU;have I':Inv X pins σ (upd H p (.lst (xs.set j v))) { s with heap:=s.heap.update p (JD (·.setIfInBounds j u)) } :=
  I.DB hp ho (sU its n j u) (r.set rv j) (by rw[QW]; exact hz) s.toks
 by_cases h0:0<=k
 ·have hk:k.toNat=j:=by
   rw[QH h0 h4] at h1;exact Go h1
  exact PySem.W.ki_setAt ho h0 (by lia) (by rw[Ee,<-hl]; exact h4) (by rw[hk]; exact⟨_,I',q⟩)
 ·have hk:(k+(its.toArray.size:Int)).toNat=j:=by
   rw[seqIndex_neg (by lia) h3] at h1
   rw[Ee,<-hl];exact Go h1
  exact PySem.W.ki_setBack ho (by lia) (by rw[Ee,<-hl]; exact h3) (by lia) (by rw[hk]; exact⟨_,I',q⟩)
theorem pA(lo hi:Option Int)(n:Nat):(LZ lo hi none n).1=((HT.cM n 0 lo:Nat):Int)/\(LZ lo hi none n).2.1=((HT.cM n n hi:Nat):Int)/\(LZ lo hi none n).2.2=1:=by
 refine⟨?_,?_,rfl⟩
 ·cases lo with
  |none=>simp[LZ,HT.cM]
  |some i=>
   simp only[LZ,HT.cM,Pe,show (1:Int)>0 by decide,if_true]
   by_cases h:i<0
   ·simp only[h,if_true] <;> lia
   ·simp only[h,if_false] <;> lia
 ·cases hi with
  |none=>simp[LZ,HT.cM]
  |some i=>
   simp only[LZ,HT.cM,Pe,show (1:Int)>0 by decide,if_true]
   by_cases h:i<0
   ·simp only[h,if_true] <;> lia
   ·simp only[h,if_false] <;> lia
theorem ni(its:List Value)(lo hi:Option Int):slicePick its.toArray lo hi none=((its.drop (HT.cM its.length 0 lo)).take (HT.cM its.length its.length hi-HT.cM its.length 0 lo)).toArray:=by
 obtain⟨h1,h2,h3⟩:=pA lo hi its.toArray.size;unfold slicePick;rw[h1,h2,h3];simp only[sliceRange_one,pick_run,Ee] <;> rfl
def rSlL(K:AT):V->Option Int->Option Int->Hp->VK->Prop:=λx lo hi H Q=>∃a xs,x=.ref a/\fB K H a xs/\∀p,H p=none->Q (.ref p) (upd H p (.lst (kZ xs lo hi)))
theorem A4:AZ X (rSlL X.K):=by
 intro pins s σ H x v vl vu lo hi sl Q I rx hs pl pu h;obtain⟨a,xs,rfl,hx,q⟩:=h;cases rx;obtain⟨its,r,ht,hz⟩:=I.list hx;have hlen:=r.length;refine⟨"list",_,slot_list_getitem.lookup,ht.isList.typeIs,?_⟩;refine wpAny_getItem_list_slice ht.isList hs pl pu .none (by simp) ?_ (by rw[Ee] <;> lia)
 rw[ni,<-hlen];refine⟨.ref s.heap.objs.size,_,I.laid (t':=s.toks) (o:=.lst (kZ xs lo hi)) (λb ob q=>Ap _ q) (D2 _) ?_,rfl,q _ (I.hok.fresh (D2 _))⟩
 exact⟨Ip (jZ xs lo hi) hz,_,0,(r.drop (HT.cM xs.length 0 lo)).take (HT.cM xs.length xs.length hi-HT.cM xs.length 0 lo),Da _ rfl⟩
theorem pB:bL X (.builtin "len") (λxs H Q=>∃p ys,xs=[.ref p]/\(fB X.K H p ys\/dc X.K H p ys)/\Q (.int ys.length) H):=by
 intro pins s σ H xs us Q I r h;obtain⟨p,ys,rfl,hq,q⟩:=h;obtain⟨u,rfl,rx⟩:=vals1 r;cases rx;have hn:=iU;rcases hq with hq | hq
 ·obtain⟨its,r',pl,hz⟩:=I.list hq
  have hlen:=r'.length;exact Calls.call_len_list pl.isList (by simp only[Ee] <;> lia) ⟨.int ys.length,H,I.tok _,⟨s.toks+1,by rw[Ee,hlen]⟩,q⟩
 ·obtain⟨its,r',pl,hz⟩:=I.tuple hq
  have hlen:=r'.length;exact len_tuple pl (by simp only[Ee] <;> lia) ⟨.int ys.length,H,I.tok _,⟨s.toks+1,by rw[Ee,hlen]⟩,q⟩
theorem pF:bL X (.builtin "len") (λxs H Q=>∃z,xs=[.str z]/\z.length<=FV/\Q (.int z.length) H):=by
 intro pins s σ H xs us Q I r h;obtain⟨z,rfl,hz,q⟩:=h;obtain⟨u,rfl,t,rfl⟩:=vals1 r;have hn:=iU;exact len_str (by lia) ⟨.int z.length,H,I.tok _,⟨_,rfl⟩,q⟩
theorem nj:bL X (.type "tuple") (λxs H Q=>∃p ys,xs=[.ref p]/\((fB X.K H p ys/\∀l,H l=none->Q (.ref l) (upd H l (.tup ys)))\/(dc X.K H p ys/\Q (.ref p) H))):=by
 intro pins s σ H xs us Q I r h;obtain⟨p,ys,rfl,h⟩:=h;obtain⟨u,rfl,rx⟩:=vals1 r;cases rx;rcases h with⟨hq,q⟩ | ⟨hq,q⟩
 ·obtain⟨its,r',pl,hz⟩:=I.list hq
  have hlen:=r'.length;refine call_tuple_list pl.isList (λh' kp=>?_) (by simp only[Ee] <;> lia)
  have I1:Inv X pins σ H { s with heap:=h' }:=I.kept (t':=s.toks) kp
  have I2:Inv X pins σ (upd H h'.objs.size (.tup ys)) { s with heap:=h'.push { cls:=.type "tuple",data:=.seq its.toArray } } :=
   I1.laid (t':=s.toks) (λb o e=>Ap _ e) (D2 _) (show cy X.prog X.w _ _ _ (.tup ys) from⟨hz,its,r',OR _ _⟩)
  exact⟨.ref h'.objs.size,_,I2,rfl,q _ (I1.hok.fresh (D2 _))⟩
 ·obtain⟨its,r',pl,hz⟩:=I.tuple hq
  exact call_tuple_same pl ⟨.ref p,H,I,rfl,q⟩
def Hg(K:AT)(T:String)(x:V)(H:Hp):Prop:=match x with
 |.str _=>T = "str"
 |.int _=>T = "int"
 |.ref p=>(T = "list"/\∃xs,fB K H p xs)\/(T = "tuple"/\∃o,K.lookup p=some o/\o.cls=.type "tuple"/\o.dict=none) \/
  (T = "dict"/\((∃kvs,H p=some (.dK kvs))\/∃kvs,H p=some (.dT kvs)))\/(T = "set"/\∃S n,H p=some (.set S n))
 |_=>False
theorem DC{pins:List (Addr×Obj)}{σ:St}{H:Hp}{s:B1}{T:String}{x:V}{v:Value}(I:Inv X pins σ H s)(r:RelV x v)(ty:Hg X.K T x H) :
  s.TypeIs v T/\∀a,v=.ref a->∃ob,s.heap.get? a=some ob/\ob.dict=none:=by
 cases x with
 |str z=>
  obtain⟨t,rfl⟩:=r;cases (show T = "str" from ty)
  exact⟨typeIs_str s z t,λ_ e=>nomatch e⟩
 |int i=>
  obtain⟨t,rfl⟩:=r;cases (show T = "int" from ty)
  exact⟨typeIs_int s i t,λ_ e=>nomatch e⟩
 |ref p=>
  cases r;rcases ty with⟨rfl,xs,hq⟩ | ⟨rfl,o,hk,hc,hd⟩ | ⟨rfl,hk⟩ | ⟨rfl,S,n,hk⟩
  ·obtain⟨its,_,pl,_⟩:=I.list hq
   refine⟨pl.isList.typeIs,λa e=>?_⟩
   cases e;obtain⟨o,n,e,c,hd,_⟩:=pl;exact⟨o,e,hd⟩
  ·refine⟨⟨o,I.uD p o hk,hc⟩,λa e=>?_⟩
   cases e;exact⟨o,I.uD _ o hk,hd⟩
  ·have z:∃o,s.heap.get? p=some o/\o.ExactDict:=by
    rcases hk with⟨kvs,hk⟩ | ⟨kvs,hk⟩
    ·obtain⟨_,_,_,_,o,_,_,e,ex,_⟩:=I.hok p _ hk
     exact⟨o,e,ex⟩
    ·obtain⟨_,_,_,_,o,_,_,e,ex,_⟩:=I.hok p _ hk
     exact⟨o,e,ex⟩
   obtain⟨o,e,ex⟩:=z;refine⟨⟨o,e,ex.1⟩,λa e2=>?_⟩
   cases e2;exact⟨o,e,ex.2.1⟩
  ·obtain⟨o,_,_,_,e,ex,_⟩:=I.hok p _ hk
   refine⟨⟨o,e,ex.1⟩,λa e2=>?_⟩
   cases e2;exact⟨o,e,ex.2.1⟩
 |_=>exact Kh ty
noncomputable def E9(K:AT)(T:String)(r:V->List V->Hp->VK->Prop)(to:TE)(t:TA):TE:=λσ H Q=>to σ H λx H1=>Hg K T x H1/\t σ H1 λxs H2=>r x xs H2 Q
variable{o e:Expr}{es:List Expr}{to:TE}{t:TA}{name:Str}{apos cpos:Pos}{T id:String}{r:V->List V->Hp->VK->Prop}
theorem qJ(pa:PlainAttrs T)(slot:Slot T name id)(hty:typeOf (.builtin id)=pure (.type "method_descriptor"))(hm:HG X id r)(ho:PE X o to)(ha:PA X (e::es) t)
  (hbase:PL o name X.env (eval o X.env)=eval o X.env:=by rfl)
  (hfew:((L8 cpos (Fa (e::es) X.env)).all (λx=> !x.1) && (backToKw cpos (keywordEach [] X.env)).all (λx=>x.1.isSome)
   && decide ((e::es).length+([]:List Keyword).length+(if ([]:List Keyword).isEmpty then 0 else 1)<30))=true:=by rfl)
  (hline:(apos.endLine == cpos.line)=true:=by rfl) (hs:Fa (e::es) X.env=(false,eval e X.env)::Fa es X.env:=by rfl) (hplain:(L8 cpos (Fa es X.env)).any (·.1)=false:=by rfl) :
  PE X (.Call (.Attribute o name apos) (e::es) [] cpos) (E9 X.K T r to t):=by
 intro pins s σ H Q I h;refine wpAny_Call_method_late hbase hfew hline rfl (bw (ho pins s σ H _ I h) λv s1 ⟨x,H1,I1,r1,ty,q1⟩=>?_)
 obtain⟨h1,h2⟩:=DC I1 r1 ty;refine⟨T,id,pa,slot,hty,h1,h2,?_⟩;have hA:=ha cpos pins s1 σ H1 _ I1 q1;rw[hs] at hA ⊢;refine OZ (by show (false || (L8 cpos (Fa es X.env)).any (·.1))=false; rw[hplain] <;> rfl) (Calls.evalArgs_plain ?_)
 exact bw hA λus s2 ⟨vs,H2,I2,r2,q2⟩=>hm pins s2 σ H2 x vs v us Q I2 r1 r2 q2
end
end L2
namespace L2
open PySem PySem.Spec PyProof.Rows
def Hh(X:Cx)(id:String)(r:V->List V->Hp->VK->Prop):Prop :=
 ∀(pins:List (Addr×Obj))(s:B1)(σ:St)(H:Hp)(x:V)(xs:List V)(v:Value)(us:List Value)(Q:VK),Inv X pins σ H s->RelV x v->Vals xs us->r x xs H Q ->
  wpAny (model X.prog X.w) X.A (call (.builtin id) (v::us)) (EP X pins σ Q) X.xe s
theorem Vals.one:∀{x:V}{us:List Value},Vals [x] us->∃u,us=[u]/\RelV x u:=by
 intro x us h;cases h with | cons r t=>
 cases t;exact⟨_,rfl,r⟩
theorem Vals.two:∀{x y:V}{us:List Value},Vals [x,y] us->∃u v,us=[u,v]/\RelV x u/\RelV y v:=by
 intro x y us h;cases h with | cons r t=>
 obtain⟨v,rfl,q⟩:=Vals.one t;exact⟨_,_,rfl,r,q⟩
section
variable{X:Cx}{pins:List (Addr×Obj)}{σ:St}{H:Hp}{s:B1}{l b:Addr}{xs ys zs:List V}
theorem Inv.lset{its its':List Value}{n:Nat}{f:Array Value->Array Value}{t':Nat}(I:Inv X pins σ H s)(hH:H l=some (.lst xs))
  (e:s.heap.get? l=some { cls:=.type "list",data:=.seq its.toArray n }) (hf:f its.toArray=its'.toArray) (hv:Vals ys its') (hz:ys.length<=FV) :
  Inv X pins σ (upd H l (.lst ys)) { s with heap:=s.heap.update l (JD f),toks:=t' }:=by
 have q:=PySem.IsL.update e f;rw[hf] at q;refine I.write (x:=l) (e:=l) (by rw[hH]; exact trivial) (.inl rfl) (λb' u hb hu=>(M8 s.heap (JD f) (Kr hb)).trans hu) ⟨_,q⟩ ?_
 exact⟨hz,its',_,hv,q⟩
theorem Inv.ye{its:List Value}{t':Nat}(I:Inv X pins σ H s)(hv:Vals ys its)(hz:ys.length<=FV) :
  Inv X pins σ (upd H s.heap.objs.size (.lst ys)) { s with heap:=s.heap.push { cls:=.type "list",data:=.seq its.toArray },toks:=t' } :=
 I.laid (λ_ _ q=>Ap _ q) (D2 _) ⟨hz,its,0,hv,Da _ rfl⟩
theorem Inv.fresh(I:Inv X pins σ H s):H s.heap.objs.size=none:=I.hok.fresh (D2 _)
theorem Inv.yf(I:Inv X pins σ H s)(hH:H l=some (.lst xs)):xs.length<=FV/\∃ (its:List Value) (n:Nat),Vals xs its/\xs.length=its.length/\s.heap.get? l=some { cls:=.type "list",data:=.seq its.toArray n }:=by
 obtain⟨z,its,n,r,e⟩:=I.hok l _ hH;exact⟨z,its,n,r,r.length,e⟩
theorem yg{n:Nat}(h:n<=FV):LP n=false:=by
 unfold LP;exact decide_eq_false (by lia)
end
section
variable{X:Cx}
def iw:V->List V->Hp->VK->Prop:=λx vs H Q=>∃l xs y,x=.ref l/\vs=[y]/\H l=some (.lst xs)/\xs.length<FV/\Q .non (upd H l (.lst (xs++[y])))
theorem eL:Hh X "list.append" iw:=by
 intro pins s σ H x vs v us Q I rx rv h;obtain⟨l,xs,y,rfl,rfl,hH,hz,q⟩:=h;cases rx;obtain⟨u,rfl,ru⟩:=rv.one;obtain⟨z,its,n,r,hl,e⟩:=I.yf hH;refine Qr Jt ⟨_,e,rfl⟩ F.entry_list_append (F.args_list_append_2 _ _) (PySem.list_append l its.toArray n u (by rw[Ee]; lia)) ⟨e,?_⟩
 refine⟨.non,_,I.lset (its':=its++[u]) hH e (by simp) (r.append (.cons ru .nil)) ?_,rfl,q⟩
 rw[FB,Jh];lia
def A5:V->List V->Hp->VK->Prop:=λx vs H Q=>∃l b xs zs,x=.ref l/\vs=[.ref b]/\H l=some (.lst xs)/\H b=some (.lst zs)/\xs.length+zs.length<=FV/\Q .non (upd H l (.lst (xs++zs)))
theorem Fb:Hh X "list.extend" A5:=by
 intro pins s σ H x vs v us Q I rx rv h;obtain⟨l,b,xs,zs,rfl,rfl,hH,hB,hz,q⟩:=h;cases rx;obtain⟨u,rfl,ru⟩:=rv.one;cases ru;obtain⟨z,its,n,r,hl,e⟩:=I.yf hH;obtain⟨z2,its2,n2,r2,hl2,e2⟩:=I.yf hB;have hsz:its.toArray.size+its2.toArray.size<=FV:=by rw[Ee,Ee]; lia
 have hlong:¬ (!its.toArray.isEmpty && LP (its.toArray.size+its2.toArray.size))=true:=by
  rw[yg hsz,OD];exact JC
 refine Qr F.slot_list_extend ⟨_,e,rfl⟩ F.entry_list_extend (F.args_list_extend_2 _ _)
  (AutoSeq1.list_extend_list_list_0 l its.toArray n b its2.toArray n2 hlong (by rw[Ee]; lia) (by lia)) ⟨e,e2,?_⟩
 refine⟨.non,_,I.lset (its':=its++its2) hH e (by simp) (r.append r2) ?_,rfl,q⟩
 rw[FB];lia
noncomputable def rCat:R2:=λx y H Q=>∃l b xs zs,x=.ref l/\y=.ref b/\H l=some (.lst xs)/\H b=some (.lst zs)/\xs.length+zs.length<=FV/\∀p,H p=none->Q (.ref p) (upd H p (.lst (xs++zs)))
theorem DE:ef X (Jq .Add) rCat:=by
 intro pins s σ H x y v u Q I rx ry h;obtain⟨l,b,xs,zs,rfl,rfl,hH,hB,hz,q⟩:=h;cases rx;cases ry;obtain⟨z,its,n,r,hl,e⟩:=I.yf hH;obtain⟨z2,its2,n2,r2,hl2,e2⟩:=I.yf hB;refine PySem.P.add_list e e2 ?_ (by rw[Ee,Ee]; lia)
 have ea:its.toArray++its2.toArray=(its++its2).toArray:=by simp
 rw[ea];exact⟨.ref _,_,I.ye (t':=s.toks) (r.append r2) (by rw[FB]; lia),rfl,q _ I.fresh⟩
end
end L2
namespace L2
open PySem PySem.Spec PyProof.Rows
section
variable{κ:Type}[DecidableEq κ]
noncomputable def fS(kvs:List (κ×V))(k:κ):Option V:=(kvs.find? λkv=>decide (kv.1=k)).map (·.2)
noncomputable def putK(kvs:List (κ×V))(k:κ)(v:V):List (κ×V) :=
 if (kvs.any λkv=>decide (kv.1=k))=true then kvs.map (λkv=>if kv.1=k then (kv.1,v) else kv) else kvs++[(k,v)]
theorem eO{p:κ×V}{r:List (κ×V)}{k:κ}(e:p.1=k):fS (p::r) k=some p.2:=by simp[fS,JO,e]
theorem eT{p:κ×V}{r:List (κ×V)}{k:κ}(e:¬p.1=k):fS (p::r) k=fS r k:=by simp[fS,JO,e]
theorem qK(k:κ):∀kvs:List (κ×V),(kvs.any λkv=>decide (kv.1=k))=(fS kvs k).isSome
 |[]=>rfl
 |p::r=>by
  rw[Jp]
  by_cases e:p.1=k
  ·simp only[eO e,decide_eq_true e,Bool.true_or,P9]
  ·rw[eT e,decide_eq_false e,Bool.false_or]; exact qK k r
theorem dO(kvs:List (κ×V))(k:κ)(v:V):(putK kvs k v).length<=kvs.length+1:=by
 unfold putK
 split
 ·rw[BM]; lia
 ·rw[FB,Bz,Ic]; lia
theorem mZ.fT{o:Option V}{u:Option Value}(r:mZ o u):o.isSome=u.isSome:=by
 cases o with
 |none=>cases u with
  |none=>rfl
  |some _=>exact(show False from r).elim
 |some _=>cases u with
  |none=>exact(show False from r).elim
  |some _=>rfl
theorem KV.val{kvs:List (κ×V)}{vs:List (κ×Value)}(r:KV kvs vs)(k:κ):mZ (fS kvs k) (Nl vs k):=by
 unfold KV at r
 induction r with
 |nil=>exact JX
 |@cons p q ps qs h t ih=>
  obtain⟨h1,h2⟩:=h
  by_cases e:p.1=k
  ·have e':q.1=k:=h1.symm.trans e
   have b:Nl (q::qs) k=some q.2:=by simp[Nl,JO,e']
   rw[eO e,b]; exact h2
  ·have e':¬q.1=k:=λz=>e (h1.trans z)
   have b:Nl (q::qs) k=Nl qs k:=by simp[Nl,JO,e']
   rw[eT e,b]; exact ih
theorem KV.any{kvs:List (κ×V)}{vs:List (κ×Value)}(r:KV kvs vs)(k:κ):(kvs.any λkv=>decide (kv.1=k))=vs.any λkv=>decide (kv.1=k):=by
 unfold KV at r
 induction r with
 |nil=>rfl
 |cons h t ih=>rw[Jp,Jp,ih,h.1]
theorem KV.repl{kvs:List (κ×V)}{vs:List (κ×Value)}(r:KV kvs vs)(k:κ){y:V}{u:Value}(ry:RelV y u) :
  KV (kvs.map λkv=>if kv.1=k then (kv.1,y) else kv) (vs.map λkv=>if kv.1=k then (kv.1,u) else kv):=by
 unfold KV at r ⊢
 induction r with
 |nil=>exact .nil
 |@cons p q ps qs h t ih=>
  rw[FC,FC];refine .cons ?_ ih;obtain⟨h1,h2⟩:=h
  by_cases e:p.1=k
  ·rw[if_pos e,if_pos (h1.symm.trans e)]; exact⟨h1,ry⟩
  ·rw[if_neg e,if_neg (λz=>e (h1.trans z))]; exact⟨h1,h2⟩
theorem KV.put{kvs:List (κ×V)}{vs:List (κ×Value)}(r:KV kvs vs)(k:κ){y:V}{u:Value}(ry:RelV y u):KV (putK kvs k y) (Ol vs k u):=by
 unfold putK Ol;rw[r.any k]
 by_cases e:(vs.any λkv=>decide (kv.1=k))=true
 ·rw[if_pos e,if_pos e]; exact r.repl k ry
 ·rw[if_neg e,if_neg e]; exact Qw r ⟨rfl,ry⟩
theorem KV.length{kvs:List (κ×V)}{vs:List (κ×Value)}(r:KV kvs vs):kvs.length=vs.length:=Jz r
end
theorem j3{P:Fm}{w:World}{k:Key}{u:Value}(r:RelV (kV k) u):(aO P w).is k u=true:=by
 cases k with
 |inl i=>obtain⟨t,e⟩:=(show ∃t,u=NH i t from r); subst e; exact qz P w i t
 |inr x=>obtain⟨t,e⟩:=(show ∃t,u=Pp x t from r); subst e; exact qA P w x t
theorem nS{P:Fm}{w:World}:∀{ks:List Key}{us:List Value},Vals (ks.map kV) us->ItemsAre (aO P w) ks us
 |[],_,r=>by rw[MB] at r; cases r; exact .nil
 |k::ks,_,r=>by
  rw[FC] at r;cases r with
  |cons h t=>exact .cons (j3 h) (nS t)
abbrev KT(H:Hp):List (List Key×V)->List (List Key×Addr×Value)->Prop:=JQ λp q=>p.1=q.1/\H q.2.1=some (.tup (p.1.map kV))/\RelV p.2 q.2.2
theorem KT.val{H:Hp}{kvs:List (List Key×V)}{xs:List (List Key×Addr×Value)}(r:KT H kvs xs)(k:List Key):mZ (fS kvs k) ((atKey xs k).map (·.2)):=by
 induction r with
 |nil=>exact JX
 |@cons p q ps qs h t ih=>
  obtain⟨h1,_,h2⟩:=h
  by_cases e:p.1=k
  ·have e':q.1=k:=h1.symm.trans e
   have b:atKey (q::qs) k=some q.2:=by simp[atKey,JO,e']
   rw[eO e,b]; exact h2
  ·have e':¬q.1=k:=λz=>e (h1.trans z)
   have b:atKey (q::qs) k=atKey qs k:=by simp[atKey,JO,e']
   rw[eT e,b]; exact ih
theorem KT.repl{H:Hp}{kvs:List (List Key×V)}{xs:List (List Key×Addr×Value)}(r:KT H kvs xs)(k:List Key){y:V}{u:Value}(ry:RelV y u) :
  KT H (kvs.map λkv=>if kv.1=k then (kv.1,y) else kv) (xs.map (putAt k u)):=by
 induction r with
 |nil=>exact .nil
 |@cons p q ps qs h t ih=>
  rw[FC,FC];refine .cons ?_ ih;obtain⟨h1,h2,h3⟩:=h;unfold putAt
  by_cases e:p.1=k
  ·rw[if_pos e,if_pos (h1.symm.trans e)]; exact⟨h1,h2,ry⟩
  ·rw[if_neg e,if_neg (λz=>e (h1.trans z))]; exact⟨h1,h2,h3⟩
theorem KT.put{H:Hp}{kvs:List (List Key×V)}{xs:List (List Key×Addr×Value)}(r:KT H kvs xs)(k:List Key){b:Addr}{y:V}{u:Value}(hb:H b=some (.tup (k.map kV)))(ry:RelV y u) :
  KT H (putK kvs k y) (storedH xs k b u):=by
 have e:(kvs.any λkv=>decide (kv.1=k))=(atKey xs k).isSome:=by
  rw[qK,(r.val k).fT,Mq]
 unfold putK storedH;rw[e]
 by_cases q:(atKey xs k).isSome=true
 ·rw[if_pos q,if_pos q]; exact r.repl k ry
 ·rw[if_neg q,if_neg q]; exact Qw r ⟨rfl,hb,ry⟩
theorem KT.keeps{H H':Hp}{kvs:List (List Key×V)}{xs:List (List Key×Addr×Value)}(r:KT H kvs xs)(ht:∀b ys,H b=some (.tup ys)->H' b=some (.tup ys)):KT H' kvs xs :=
 JQ.mapP r λ_ _ z=>⟨z.1,ht _ _ z.2.1,z.2.2⟩
section
variable{P:Fm}{w:World}{H:Hp}{h:Heap}{a:Addr}
theorem CI{u:HO}(ok:iH P w H h)(e:Rd H a u):cy P w H h a u:=e.ok ok
theorem lg{kvs:List (Key×V)}(ok:iH P w H h)(e:Rd H a (.dK kvs)):kvs.length<=FV/\(a == Jc)=false/\∃vs,KV kvs vs/\h.DictOf (aO P w) a vs :=
 show cy P w H h a (.dK kvs) from CI ok e
theorem uJ{kvs:List (Key×V)}(ok:iH P w H h)(e:H a=some (.dK kvs)):kvs.length<=FV/\(a == Jc)=false/\∃vs,KV kvs vs/\h.DictOf (aO P w) a vs:=lg ok (.inl e)
theorem lq{ks:List Key}(ok:iH P w H h)(e:H a=some (.tup (ks.map kV))):(OE (aO P w)).is h ks a:=by
 obtain⟨_,its,r,o,h1,h2,n,h3⟩:=(show cy P w H h a (.tup (ks.map kV)) from ok a _ e)
 exact⟨o,its.toArray,n,h1,h2,h3,by simpa using nS r⟩
theorem nT{kvs:List (List Key×V)}(ok:iH P w H h)(e:Rd H a (.dT kvs)):kvs.length<=FV/\(a == Jc)=false /\
  ∃xs,KT H kvs xs/\h.DictOfH (OE (aO P w)) a xs:=by
 obtain⟨z,y,xs,r,o,es,ep,h1,h2,h3,h4,h5⟩:=(show cy P w H h a (.dT kvs) from CI ok e)
 refine⟨z,y,xs,r,o,es,ep,h1,h2,h3,h4,λx hx=>?_,h5⟩
 have all:∀{l:List (List Key×V)}{m:List (List Key×Addr×Value)},KT H l m->∀x∈m,(OE (aO P w)).is h x.1 x.2.1:=by
  intro l m q
  induction q with
  |nil=>intro x hx; exact nomatch hx
  |@cons p q ps qs hq t ih=>
   intro x hx;rcases lK hx with e | hx
   ·subst e
    exact lq ok (by rw[<-hq.1]; exact hq.2.1)
   ·exact ih x hx
 exact all r x hx
theorem dt_of{kvs:List (List Key×V)}(ok:iH P w H h)(e:H a=some (.dT kvs)):kvs.length<=FV/\(a == Jc)=false /\
  ∃xs,KT H kvs xs/\h.DictOfH (OE (aO P w)) a xs:=nT ok (.inl e)
end
def iV(H:Hp)(a:Addr)(y:V)(r:Option V):Prop :=
 (∃kvs k,Rd H a (.dK kvs)/\y=kV k/\r=fS kvs k)\/∃kvs k b,Rd H a (.dT kvs)/\y=.ref b/\H b=some (.tup (k.map kV))/\r=fS kvs k
def qL(H:Hp)(a:Addr)(y v:V)(H':Hp):Prop :=
 (∃kvs k,H a=some (.dK kvs)/\y=kV k/\kvs.length<FV/\H'=upd H a (.dK (putK kvs k v))) \/
 ∃kvs k b,H a=some (.dT kvs)/\y=.ref b/\H b=some (.tup (k.map kV))/\kvs.length<FV/\H'=upd H a (.dT (putK kvs k v))
theorem iV.k{H:Hp}{a:Addr}{kvs:List (Key×V)}{k:Key}(e:H a=some (.dK kvs)):iV H a (kV k) (fS kvs k):=.inl ⟨kvs,k,.inl e,rfl,rfl⟩
theorem qL.k{H:Hp}{a:Addr}{kvs:List (Key×V)}{k:Key}{v:V}(e:H a=some (.dK kvs))(hl:kvs.length<FV):qL H a (kV k) v (upd H a (.dK (putK kvs k v))):=.inl ⟨kvs,k,e,rfl,hl,rfl⟩
theorem qL.t{H:Hp}{a b:Addr}{kvs:List (List Key×V)}{k:List Key}{v:V}(e:H a=some (.dT kvs))(eb:H b=some (.tup (k.map kV)))(hl:kvs.length<FV) :
  qL H a (.ref b) v (upd H a (.dT (putK kvs k v))):=.inr ⟨kvs,k,b,e,rfl,eb,hl,rfl⟩
section
variable{X:Cx}{pins:List (Addr×Obj)}{σ:St}{H:Hp}{s:B1}{a:Addr}{y v:V}{u r:Value}{o:Option V}{A:ID}{E:Value->B1->Prop}
theorem Inv.big(I:Inv X pins σ H s):Jc<s.heap.objs.size:=by
 have h:GT<s.heap.objs.size:=(I.mod.glob.keeps I.bk).lt;exact MG (by decide) h
theorem wo{Q:Value->B1->Prop}(hu:A.units+1<cLine)(I:Inv X pins σ H s)(g:iV H a y (some v))(ry:RelV y u)(h:∀w' s',Inv X pins σ H s'->RelV v w'->Q w' s') :
  wpAny (model X.prog X.w) A (M7 (.ref a) u) Q E s:=by
 rcases g with⟨kvs,k,e,ey,l⟩ | ⟨kvs,k,b,e,ey,eb,l⟩
 ·subst ey
  obtain⟨z,hd,vs,rel,dd⟩:=lg I.hok e;obtain⟨w',hw,rw'⟩:=mZ.some_of (v:=v) (o:=Nl vs k) (by rw[l]; exact rel.val k)
  exact wpAny_getItem_of (j3 ry) dd.mapOf hw (h w' _ (I.tok _) rw')
 ·subst ey
  cases (show u=J6 b from ry)
  obtain⟨z,hd,xs,rel,dd⟩:=nT I.hok e;obtain⟨w',hw,rw'⟩:=mZ.some_of (v:=v) (o:=(atKey xs k).map (·.2)) (by rw[l]; exact rel.val k)
  obtain⟨p,hp,hp2⟩:=JF.mp hw;refine wpAny_getItem_heap (Lw hu) (lq I.hok eb) dd hp ?_;rw[hp2];exact h w' _ (I.tok _) rw'
theorem d_in{Q:Value->B1->Prop}(hu:A.units+1<cLine)(I:Inv X pins σ H s)(g:iV H a y o)(ry:RelV y u)(h:∀s',Inv X pins σ H s'->Q (.bool o.isSome) s') :
  wpAny (model X.prog X.w) A (IZ .In u (.ref a)) Q E s:=by
 rcases g with⟨kvs,k,e,ey,l⟩ | ⟨kvs,k,b,e,ey,eb,l⟩
 ·subst ey
  obtain⟨z,hd,vs,rel,dd⟩:=lg I.hok e;refine wpAny_in_of (j3 ry) hd dd.mapOf ?_;rw[<-(rel.val k).fT,<-l];exact h _ (I.tok _)
 ·subst ey
  cases (show u=J6 b from ry)
  obtain⟨z,hd,xs,rel,dd⟩:=nT I.hok e;refine wpAny_in_heap (Lw hu) (lq I.hok eb) hd dd ?_;have q:=(rel.val k).fT;rw[Mq] at q;rw[<-q,<-l];exact h _ (I.tok _)
theorem A6{Q:Value->B1->Prop}(hu:A.units+1<cLine)(I:Inv X pins σ H s)(g:iV H a y o)(ry:RelV y u)(h:∀s',Inv X pins σ H s'->Q (.bool (!o.isSome)) s') :
  wpAny (model X.prog X.w) A (IZ .NotIn u (.ref a)) Q E s:=by
 rcases g with⟨kvs,k,e,ey,l⟩ | ⟨kvs,k,b,e,ey,eb,l⟩
 ·subst ey
  obtain⟨z,hd,vs,rel,dd⟩:=lg I.hok e;refine wpAny_notIn_of (j3 ry) hd dd.mapOf ?_;rw[<-(rel.val k).fT,<-l];exact h _ (I.tok _)
 ·subst ey
  cases (show u=J6 b from ry)
  obtain⟨z,hd,xs,rel,dd⟩:=nT I.hok e;refine wpAny_notIn_heap (Lw hu) (lq I.hok eb) hd dd ?_;have q:=(rel.val k).fT;rw[Mq] at q;rw[<-q,<-l];exact h _ (I.tok _)
theorem kI{h':Heap}{t':Nat}{ob:HO}(I:Inv X pins σ H s)(mu:FQ (H a))(hs:JG a s.heap h')(he:∃q,h'.get? a=some q)(new:cy X.prog X.w (upd H a ob) h' a ob) :
  Inv X pins σ (upd H a ob) { s with heap:=h',toks:=t' } :=
 I.write (x:=a) (e:=a) mu (.inl rfl) (λb q hb z=>(hs.2 b hb).trans z) he new
theorem sV{P:Fm}{w:World}{H':Hp}{h':Heap}{kvs:List (Key×V)}{vs:List (Key×Value)}(z:kvs.length<=FV)(hd:(a == Jc)=false)(rel:KV kvs vs)(dd:h'.DictOf (aO P w) a vs) :
  cy P w H' h' a (.dK kvs):=⟨z,hd,vs,rel,dd⟩
theorem wu{H':Hp}{Q:Unit->B1->Prop}(hu:A.units+1<cLine)(I:Inv X pins σ H s)(g:qL H a y v H')(ry:RelV y u)(rv:RelV v r)(h:∀s',Inv X pins σ H' s'->Q () s') :
  wpAny (model X.prog X.w) A (setItem (.ref a) u r) Q E s:=by
 rcases g with⟨kvs,k,e,ey,l,eH⟩ | ⟨kvs,k,b,e,ey,eb,l,eH⟩
 ·subst ey eH
  obtain⟨z,hd,vs,rel,dd⟩:=uJ I.hok e;have hz:vs.length<=FV:=by rw[<-rel.length]; exact z
  have hl:(putK kvs k v).length<=FV:=by have:=dO kvs k v; lia
  refine wpAny_setItem_pairs (hsz:=hz) (j3 ry) dd λh' dd' hs=>h _ ?_
  have he:∃q,h'.get? a=some q:=let ⟨q,_,_,hq,_⟩:=dd'; ⟨q,hq⟩;exact kI I (by rw[e]; exact JX) hs he (sV hl hd (rel.put k rv) dd')
 ·subst ey eH
  cases (show u=J6 b from ry)
  obtain⟨z,hd,xs,rel,dd⟩:=dt_of I.hok e;have hz:xs.length<=FV:=by rw[<-Jz rel]; exact z
  have hl:(putK kvs k v).length<=FV:=by have:=dO kvs k v; lia
  refine wpAny_setItem_heap (hsz:=hz) (Lw hu) (lq I.hok eb) dd λh' dd' hs=>h _ ?_
  obtain⟨q,es,ep,hq,h2,h3,h4,_,h5⟩:=dd';refine kI I (by rw[e]; exact JX) hs ⟨q,hq⟩ ⟨hl,hd,_,(rel.put k eb rv).keeps λc ys ec=>?_,q,es,ep,hq,h2,h3,h4,h5⟩
  rw[aC (nL ec e (λz=>nomatch z))]
  exact ec
end
section
variable{X:Cx}{pins:List (Addr×Obj)}{σ:St}{H:Hp}{s:B1}{a:Addr}{kvs:List (Key×V)}{k:Key}{u:Value}{A:ID}{E:Value->B1->Prop}
theorem d_len{Q:Value->B1->Prop}(I:Inv X pins σ H s)(e:Rd H a (.dK kvs))(h:∀t s',Inv X pins σ H s'->Q (.int kvs.length t) s'):wpAny (model X.prog X.w) A (call (.builtin "len") [.ref a]) Q E s:=by
 obtain⟨z,hd,vs,rel,dd⟩:=lg I.hok e;refine call_len_dict hd dd (by rw[<-rel.length]; rw[IX] at z; lia) ?_
 rw[<-rel.length];exact h _ _ (I.tok _)
end
def NoSl(i:Expr):Prop:=∀ov iv,OL i false ov iv=operate [ov,iv] (M7 ov iv)
theorem A7{prog:Fm}{w:World}{A:ID}{E:Value->B1->Prop}{s:B1}{env:Env}{value slice:Expr}{pos:Pos}{T id:String}{Q:Value->B1->Prop}
  (hl:Qm (.type T) "__getitem__" = pure (some (.builtin id))) (hs:NoSl slice)
  (h:wpAny (model prog w) A (eval value env) (λo s₁=>wpAny (model prog w) A (eval slice env) (λi s₂=>s₂.TypeIs o T/\wpAny (model prog w) A (M7 o i) Q E s₂) E s₁) E s) :
  wpAny (model prog w) A (eval (.Subscript value slice pos) env) Q E s:=by
 refine R3 (K1 h (λo s₁ h₁=>K1 h₁ (λi s₂ h₂=>?_) λ_ _ x=>x) λ_ _ x=>x)
 obtain⟨hT,h₂⟩:=h₂;unfold PR;refine AC ?_;rw[getitemInPython_of_ne hT.not_modules];refine AC (OT hT hl ?_);have fin:wpAny (model prog w) A (OL slice false o i) (λr s₃=>wpAny (model prog w) A (letTemporaryGo value o r >>= λ_=>pure r) Q E s₃) E s₂:=by
  rw[hs o i];exact wpAny_operating (K1 h₂ (λr s₃ h₃=>AC (wpAny_letTemporaryGo (At h₃))) λ_ _ x=>x)
 first
  |exact At (AC fin)
  |exact AC (At (AC fin))
  |exact AC fin
theorem qM{X:Cx}{pins:List (Addr×Obj)}{σ:St}{H:Hp}{s:B1}{a:Addr}{y:V}{o:Option V}(I:Inv X pins σ H s)(g:iV H a y o):s.TypeIs (.ref a) "dict" := by
 rcases g with⟨kvs,k,e,_,_⟩ | ⟨kvs,k,b,e,_,_,_⟩
 ·obtain⟨_,_,vs,_,dd⟩:=lg I.hok e
  exact dd.typeIs
 ·obtain⟨_,_,xs,_,dd⟩:=nT I.hok e
  exact dd.typeIs
noncomputable def yi(td ty:TE):TE:=λσ H Q=>td σ H λx H1=>ty σ H1 λy H2=>∃a v,x=.ref a/\iV H2 a y (some v)/\Q v H2
noncomputable def tDIn(ty td:TE):TE:=λσ H Q=>ty σ H λy H1=>td σ H1 λx H2=>∃a o,x=.ref a/\iV H2 a y o/\Q (.bl o.isSome) H2
noncomputable def A8(ty td:TE):TE:=λσ H Q=>ty σ H λy H1=>td σ H1 λx H2=>∃a o,x=.ref a/\iV H2 a y o/\Q (.bl (!o.isSome)) H2
noncomputable def uK(td ty tv:TE):TS:=λD σ H=>tv σ H λv H1=>td σ H1 λx H2=>ty σ H2 λy H3=>∃a H4,x=.ref a/\qL H3 a y v H4/\D.nx σ H4
section
variable{X:Cx}{o i e value:Expr}{pos pos' tpos:Pos}{td ty tv:TE}
theorem uL(hu:X.A.units+1<cLine)(ho:PE X o td)(hi:PE X i ty)(hs:NoSl i):PE X (.Subscript o i pos) (yi td ty):=by
 intro pins s σ H Q I h;refine A7 PySem.F.slot_dict_getitem.lookup hs (bw (ho pins s σ H _ I h) λu s1 ⟨x,H1,I1,rx,q1⟩=>bw (hi pins s1 σ H1 _ I1 q1) λiv s2 ⟨y,H2,I2,ry,a,v,ex,g,q2⟩=>?_)
 subst ex;obtain rfl:u=J6 a:=rx;exact⟨qM I2 g,wo hu I2 g ry λw' s3 I3 rw'=>⟨v,H2,I3,rw',q2⟩⟩
theorem yj(hu:X.A.units+1<cLine)(hi:PE X i ty)(ho:PE X o td):PC X .In i o (tDIn ty td):=by
 intro pins s σ H Q I h;refine bw (hi pins s σ H _ I h) λiv s1 ⟨y,H1,I1,ry,q1⟩=>bw (ho pins s1 σ H1 _ I1 q1) λu s2 ⟨x,H2,I2,rx,a,ov,ex,g,q2⟩=>?_
 subst ex;obtain rfl:u=J6 a:=rx;exact d_in hu I2 g ry λs3 I3=>⟨.bl ov.isSome,H2,I3,rfl,q2⟩
theorem wz(hu:X.A.units+1<cLine)(hi:PE X i ty)(ho:PE X o td):PC X .NotIn i o (A8 ty td):=by
 intro pins s σ H Q I h;refine bw (hi pins s σ H _ I h) λiv s1 ⟨y,H1,I1,ry,q1⟩=>bw (ho pins s1 σ H1 _ I1 q1) λu s2 ⟨x,H2,I2,rx,a,ov,ex,g,q2⟩=>?_
 subst ex;obtain rfl:u=J6 a:=rx;exact A6 hu I2 g ry λs3 I3=>⟨.bl (!ov.isSome),H2,I3,rfl,q2⟩
theorem uM(hu:X.A.units+1<cLine)(ho:PE X o td)(hi:PE X i ty)(hv:PE X value tv)(hs:K6 value (some (.Subscript o i pos')) pos.line X.env=pure false) :
  PS X (.Assign [.Subscript o i pos'] value pos) (uK td ty tv):=by
 intro pins s σ H D I h;refine wpAny_Assign_Subscript (bw (hv pins s σ H _ I h) λr s1 ⟨v,H1,I1,rv,q1⟩=>bw (ho pins s1 σ H1 _ I1 q1) λu s2 ⟨x,H2,I2,rx,q2⟩=>bw (hi pins s2 σ H2 _ I2 q2) λiv s3 ⟨y,H3,I3,ry,a,H4,ex,g,q3⟩=>?_) hs
 subst ex;obtain rfl:u=J6 a:=rx;exact wu hu I3 g ry rv λs4 I4=>⟨σ,H4,I4,q3⟩
end
theorem lu{P:Fm}{w:World}{H:Hp}(h:Heap)(hb:Jc<h.objs.size):cy P w H (h.push { cls:=.type "dict",data:=.dict #[] }) h.objs.size (.dK []) :=
 ⟨Hn _,beq_eq_false_iff_ne.mpr (Kr (Db hb)),[],.nil,Oe h⟩
theorem ym{P:Fm}{w:World}{H:Hp}(h:Heap)(hb:Jc<h.objs.size):cy P w H (h.push { cls:=.type "dict",data:=.dict #[] }) h.objs.size (.dT []) :=
 ⟨Hn _,beq_eq_false_iff_ne.mpr (Kr (Db hb)),[],.nil,_,#[],0,Da _ rfl,⟨rfl,rfl,rfl⟩,rfl,rfl,JL⟩
noncomputable def DF:TE:=λ_ H Q=>∀p,H p=none->Q (.ref p) (upd H p (.dK []))
noncomputable def DG:TE:=λ_ H Q=>∀p,H p=none->Q (.ref p) (upd H p (.dT []))
section
variable{X:Cx}{pos:Pos}
theorem yo:PE X (.Dict [] [] pos) DF:=λpins s σ H Q I h=>
 wpAny_Dict_empty ⟨.ref s.heap.objs.size,_,I.laid (a:=s.heap.objs.size) (o:=.dK []) (t':=s.toks) (λ_ _ q=>Ap _ q) (D2 _) (lu s.heap I.big),rfl,h _ (I.hok.fresh (D2 _))⟩
theorem yp:PE X (.Dict [] [] pos) DG:=λpins s σ H Q I h=>
 wpAny_Dict_empty ⟨.ref s.heap.objs.size,_,I.laid (a:=s.heap.objs.size) (o:=.dT []) (t':=s.toks) (λ_ _ q=>Ap _ q) (D2 _) (ym s.heap I.big),rfl,h _ (I.hok.fresh (D2 _))⟩
end
def pG:List (TE×TE)->St->Hp->(List (V×V)->Hp->Prop)->Prop
 |[],_,H,Q=>Q [] H
 |(tk,tv)::r,σ,H,Q=>tk σ H λx H1=>tv σ H1 λy H2=>pG r σ H2 λps H3=>Q ((x,y)::ps) H3
abbrev VV:List (V×V)->List (Value×Value)->Prop:=JQ λp q=>RelV p.1 q.1/\RelV p.2 q.2
def FU(X:Cx)(pos:Pos)(keys:List (Option Expr))(values:List Expr)(trs:List (TE×TE)):Prop :=
 ∀(pins:List (Addr×Obj))(s:B1)(σ:St)(H:Hp)(Q:List (V×V)->Hp->Prop),Inv X pins σ H s->pG trs σ H Q ->
  wpAny (model X.prog X.w) X.A (evalPairs (pairTrees keys values X.env pos)) (λvs s'=>∃ps H',Inv X pins σ H' s'/\VV ps vs/\Q ps H') X.xe s
theorem A9{X:Cx}{pos:Pos}:FU X pos [] [] []:=λpins s σ H Q I h=>pairTrees_nil_walk ⟨[],H,I,.nil,h⟩
theorem yq{X:Cx}{pos:Pos}{k v:Expr}{ks:List (Option Expr)}{vs:List Expr}{tk tv:TE}{trs:List (TE×TE)}(hk:PE X k tk)(hv:PE X v tv)(hr:FU X pos ks vs trs) :
  FU X pos (some k::ks) (v::vs) ((tk,tv)::trs):=λpins s σ H Q I h=>
 pairTrees_cons_walk (bw (hk pins s σ H _ I h) λu s1 ⟨x,H1,I1,rx,q1⟩=>bw (hv pins s1 σ H1 _ I1 q1) λw2 s2 ⟨y,H2,I2,ry,q2⟩=>
  bw (hr pins s2 σ H2 _ I2 q2) λws s3 ⟨ps,H3,I3,rel,q3⟩=>⟨(x,y)::ps,H3,I3,.cons ⟨rx,ry⟩ rel,q3⟩)
noncomputable def iW(kvs more:List (Key×V)):List (Key×V):=more.foldl (λacc kv=>putK acc kv.1 kv.2) kvs
theorem KV.merge:∀{more:List (Key×V)}{rs:List (Key×Value)}{kvs:List (Key×V)}{vs:List (Key×Value)},KV more rs->KV kvs vs->KV (iW kvs more) (merged vs rs):=by
 intro more rs kvs vs r;unfold KV at r
 induction r generalizing kvs vs with
 |nil=>intro q; exact q
 |@cons p q ps qs h t ih=>
  intro r0;have e:KV (putK kvs p.1 p.2) (Ol vs q.1 q.2):=by
   have:=r0.put p.1 h.2;rw[<-h.1]; exact this
  exact ih e
theorem iJ:∀(more kvs:List (Key×V)),(iW kvs more).length<=kvs.length+more.length
 |[],kvs=>by show kvs.length<=kvs.length+0; lia
 |p::r,kvs=>by
  have h1:=iJ r (putK kvs p.1 p.2);have h2:=dO kvs p.1 p.2;show (iW (putK kvs p.1 p.2) r).length<=_;rw[Bz]; lia
theorem ly{P:Fm}{w:World}:∀{kvs:List (Key×V)}{ws:List (Value×Value)},VV (kvs.map λkv=>(kV kv.1,kv.2)) ws->∃rs,Carries (aO P w) ws rs/\KV kvs rs
 |[],_,r=>by rw[MB] at r; cases r; exact⟨[],JX,.nil⟩
 |p::kvs,_,r=>by
  rw[FC] at r;cases r with
  |@cons a b as bs h t=>
   obtain⟨rs,c,q⟩:=ly (P:=P) (w:=w) t;obtain⟨b1,b2⟩:=b;exact⟨(p.1,b2)::rs,⟨j3 h.1,rfl,c⟩,.cons ⟨rfl,h.2⟩ q⟩
noncomputable def tDisp(trs:List (TE×TE)):TE:=λσ H Q=>∀p,H p=none->pG trs σ (upd H p (.dK [])) λps H2=>H2 p=some (.dK [])/\∃kvs:List (Key×V),ps=kvs.map (λkv=>(kV kv.1,kv.2))/\kvs.length<=15/\Q (.ref p) (upd H2 p (.dK (iW [] kvs)))
theorem Ba{X:Cx}{pos:Pos}{keys:List (Option Expr)}{values:List Expr}{trs:List (TE×TE)}(h:FU X pos keys values trs)(hall:keys.all (·.isSome)=true)(hl:keys.length=values.length)(h0:keys≠[])
  (h15:keys.length<=15):PE X (.Dict keys values pos) (tDisp trs):=by
 intro pins s σ H Q I q;have hn:=I.hok.fresh (D2 s.heap.objs.size);have I1:=I.laid (a:=s.heap.objs.size) (o:=.dK []) (h':=s.heap.push { cls:=.type "dict",data:=.dict #[] }) (t':=s.toks) (λ_ _ q=>Ap _ q) (D2 _) (lu s.heap I.big)
 refine wpAny_Dict_walk (knd:=aO X.prog X.w) hall hl h0 h15 (bw (h pins _ σ _ _ I1 (q _ hn)) λws s2 ⟨ps,H2,I2,rel,e,kvs,ep,lk,q2⟩=>?_)
 subst ep;obtain⟨rs,c,rk⟩:=ly (P:=X.prog) (w:=X.w) rel;obtain⟨z,hd,vs0,r0,dd⟩:=uJ I2.hok e;cases r0;refine⟨rs,c,dd,λh' dd' hs=>⟨.ref s.heap.objs.size,_,?_,rfl,q2⟩⟩
 have hz:(iW [] kvs).length<=FV:=by
  have h1:=iJ kvs [];rw[Ic] at h1;rw[IX]; lia
 have he:∃q,h'.get? s.heap.objs.size=some q:=let ⟨q,_,_,hq,_⟩:=dd'; ⟨q,hq⟩;exact kI I2 (by rw[e]; exact JX) hs he (sV hz hd (rk.merge .nil) dd')
def HH(H:Hp)(a:Addr):Prop:=(∃kvs,Rd H a (.dK kvs))\/∃kvs,Rd H a (.dT kvs)
theorem yr{X:Cx}{pins:List (Addr×Obj)}{σ:St}{H:Hp}{s:B1}{a:Addr}(I:Inv X pins σ H s)(d:HH H a) :
  s.TypeIs (.ref a) "dict"/\(∀b,J6 a=.ref b->∃ob,s.heap.get? b=some ob/\ob.dict=none)/\(a == Jc)=false:=by
 rcases d with⟨kvs,e⟩ | ⟨kvs,e⟩
 ·obtain⟨_,hd,vs,_,dd⟩:=lg I.hok e
  refine⟨dd.typeIs,λb q=>?_,hd⟩
  cases q;obtain⟨ob,_,_,h1,h2,_⟩:=dd;exact⟨ob,h1,h2.2.1⟩
 ·obtain⟨_,hd,xs,_,dd⟩:=nT I.hok e
  refine⟨dd.typeIs,λb q=>?_,hd⟩
  cases q;obtain⟨ob,_,_,h1,h2,_⟩:=dd;exact⟨ob,h1,h2.2.1⟩
end L2
namespace Att
open PySem PySem.W PySem.Calls PyProof.Rows
theorem kD{P:Params}{h:Heap}:∀(ns:List Int)(vs:List Value),WellAll P h vs (ns.map WData.int)->JS vs ns:=by
 intro ns
 induction ns with
 |nil=>
  intro vs w;rw[MB] at w;cases w;exact .nil
 |cons n ns ih=>
  intro vs w;rw[FC] at w;cases w with
  |cons a b=>
   cases a;exact .cons _ _ (ih _ b)
theorem wB{l:Lp}{n:Nat}(hn:l.most=some n){P:Params}{h:Heap}{args:List WData}{vals:List Value}
  (hpre:l.row.toRowW.claim.pre args=true) (hwl:WellAll P h vals args) :
  ∃a vs ns,vals=[J6 a]/\args=[WData.list (ns.map WData.int)]/\h.get? a=some { cls:=.type "list",data:=.seq vs.toArray }/\JS vs ns/\ns.length<=n:=by
 have hsh:WShape.hasAll [] args [.list .int]=true:=(pre_splitW hpre).1;have hc:l.pre.holds [] { args:=args }=true:=(pre_splitW hpre).2;obtain⟨d,r,rfl,h1,h2⟩:=hasAllW_cons hsh;obtain rfl:=hasAllW_nil h2;obtain⟨xs,rfl,h3⟩:=hasW_list h1;obtain⟨ns,rfl⟩:=items_int h3;have hlen:ns.length<=n:=by
  unfold OpenLaw.pre at hc;have h4:(WTm.not (.lt (.lit (.int (n:Int))) (.len (.arg 0)))).holds [] { args:=[.list (ns.map .int)] }=true:=by
   have h4:=(holds_andW hc).1;rw[hn] at h4;exact h4
  have h5:=condW_of h4 (w_not (w_lt w_lit (w_len_list (w_arg rfl))));rw[BM] at h5;refine NX λq=>?_
  have q':(n:Int)<((ns.length:Nat):Int):=by lia
  first
   |(rw[decide_eq_true q'] at h5; exact absurd h5 (by decide))
   |(simp at h5; lia)
 cases hwl with
 |cons w1 w2=>
  cases w2;cases w1 with
  |list ho hall=>exact⟨_,_,ns,rfl,rfl,ho,kD ns _ hall,hlen⟩
theorem wC(l:Lp)(args:List WData):l.row.toRowW.claim.post args (.bool true) args=true :=
 postW_of (r:=l.row.toRowW) (X:=(true == true))
  (show WShape.has [] (.bool true) .bool=true by first | rfl | decide | simp[WShape.has,WShape.arms,WShape.armsAll])
  (show (WTm.eq .res (.lit (.bool true))).value [] { args:=args,res:=some (.bool true),after:=args }=some (.bool (true == true)) from w_eq_bool (w_res rfl) w_lit) rfl
theorem qN{l:Lp}{n:Nat}{q:Fm}{loose:List Str}{XP:(Str->Option Value)->Heap->Prop}{YP:World->Heap->Prop}{d:DefRec}
  (hn:l.most=some n) (hdf:d.params.defaults=[])
  (call:∀(w:World)(s₀ s₁:B1)(mg mb:Str->Option Value)(fa:Addr)(o:Obj)(pm cd doc:Value)(a:Addr)(vs:List Value)(ns:List Int),
   Ground q loose [] XP w s₀ mg mb s₁.heap->YP w s₁.heap ->
   s₁.heap.get? fa=some o->o.data=.func (docDef d.name d.params d.body d.scope pm cd doc)->s₁.heap.CodeRec cd d.name->mg d.name=some (.ref fa) ->
   s₁.heap.get? a=some { cls:=.type "list",data:=.seq vs.toArray }->JS vs ns->ns.length<=n->s₁.gens = #[] ->
   Kl (model l.prog w) No (.call (.ref fa) ⟨[.ref a],[]⟩) (λr s'=>r=.ok (.ret (.bool true))/\OldK s₁.heap s'.heap/\s'.os=s₁.os/\Md s'.gens) s₁) :
  WalkO q loose XP YP l.row.toRowW d [] (λf vs=>PK f vs):=by
 intro w s₀ s₁ mg mb G Y fa o pm cd doc dV kV ho hd hcd hD hmg hg args vals as hpre hlay hrd hwl hlo;obtain rfl:dV=.none:=Dflts.none hD hdf;obtain rfl:kV=.none:=Dflts.noKw hD;obtain⟨a,vs,ns,rfl,rfl,hobj,hints,hlen⟩:=wB hn hpre hwl;refine enter_call (Ma (call w s₀ s₁ mg mb fa o pm cd doc a vs ns G Y ho (fd_plain hd) hcd hmg hobj hints hlen hg) λr s' hq=>?_)
 obtain⟨rfl,h2,h3,h4⟩:=hq;exact⟨.inl ⟨.bool true,.bool true,[],rfl,λ_=>rfl,.bool true,wC l _,λ_=>⟨OB,λ_ hm=>(nomatch hm)⟩⟩,h2,h3,h4⟩
end Att
namespace L2
open PySem PySem.Spec PyProof.Rows
theorem nU:∀{vs:List Value}{ns:List Int},JS vs ns->Vals (ns.map V.int) vs
 |_,_,.nil=>.nil
 |_,_,.cons n t h=>.cons ⟨t,rfl⟩ (nU h)
def Only(H:Hp):Prop:=∀b,H b=none\/∃o xs,H b=some (.frz o (.lst xs))
theorem yt{P:Fm}{w:World}{K:AT}{mg mb:Str->Option Value}{CX:xE}{k:Nat}{fa a:Addr}{fd:K7}{x:Str}{sp:Sp}{s₁:B1}{vs:List Value}{ns:List Int}
  (KX:K.In s₁.heap) (hns:s₁.heap.Ns GT mg) (hb:s₁.heap.Ns Qs mb) (hbb:∀x:Str,x ≠ "__name__"->mb x=Jv x) (hlim:s₁.heap.NoLimit) (hg:s₁.gens = #[])
  (ha:s₁.heap.get? a=some { cls:=.type "list",data:=.seq vs.toArray }) (hi:JS vs ns) (hl:ns.length<=FV) (hr:fq k No)
  (F:∀base:Heap,K.In base->base.Ns GT mg->cY P w K mg base CX k fa fd [x] sp) (hbind:∀(s:B1)(u:Value),Of s fd ⟨[u],[]⟩ [(x,u)])
  (hsp:∀H:Hp,Only H->fB K H a (ns.map V.int)->sp [.ref a] H (λv _=>v=.bl true) λ_ _ _=>False)
  (hCX:∀H e s',CX [] H s₁ (λ_ _ _=>False) e s'->False) :
  Kl (model P w) No (.call (.ref fa) ⟨[.ref a],[]⟩) (λr s'=>r=.ok (.ret (.bool true))/\OldK s₁.heap s'.heap/\s'.os=s₁.os/\Md s'.gens) s₁:=by
 have rv:=nU hi;have lenV:=hi.length;have core:∀H:Hp,Only H->fB K H a (ns.map V.int)->iH P w H s₁.heap->(∀b,H b≠none->b=a)->(H a≠none->K.lookup a=none) ->
   Kl (model P w) No (.call (.ref fa) ⟨[.ref a],[]⟩) (λr s'=>r=.ok (.ret (.bool true))/\OldK s₁.heap s'.heap/\s'.os=s₁.os/\Md s'.gens) s₁:=by
  intro H hO hS hok hA hK;have base_of:∀{b:Addr}{o:Obj},s₁.heap.get? b=some o->H b=none->(oZ s₁.heap H).get? b=some o:=λe n=>xJ e n
  have noA:∀{b:Addr}{o:Obj}{es:Array DictEntry}{ep:Nat},s₁.heap.get? b=some o->o.data=.dict es ep->H b=none:=λ{b o es ep}e d=>by
   cases q:H b with
   |none=>rfl
   |some u=>
    have e':b=a:=hA b (by rw[q]; simp)
    subst e';rw[ha] at e; cases e;have d':Data.seq vs.toArray _=Data.dict es ep:=d;cases d'
  have nsK:∀{b:Addr}{m:Str->Option Value},s₁.heap.Ns b m->(oZ s₁.heap H).Ns b m:=λ{b m} ⟨o,es,ep,e,d,r⟩=>⟨o,es,ep,base_of e (noA e d),d,r⟩
  have hKb:K.In (oZ s₁.heap H):=λb o e=>base_of (KX b o e) (by
   cases q:H b with
   |none=>rfl
   |some u=>
    have e':b=a:=hA b (by rw[q]; simp)
    subst e';rw[hK (by rw[q]; simp)] at e; cases e)
  have hM:Mod K mg (oZ s₁.heap H):=⟨hKb,nsK hns,⟨mb,nsK hb,hbb⟩,let ⟨mc,h1,h2⟩:=hlim; ⟨mc,nsK h1,h2⟩⟩;have e0:Env0 P w K mg (oZ s₁.heap H) No [] s₁ H:=⟨rfl,hM,λb o e=>AG e,Nat.le_of_eq (v7 _ _),trivial,λb hb=>absurd (show b∈([]:List Addr) from hb) (by simp),hok,.of_eq hg⟩
  refine Ma ((F _ hKb (nsK hns)).run No [] s₁ H ⟨[.ref a],[]⟩ [.ref a] [.ref a] _ _ hr e0 (hbind s₁ (.ref a)) (.cons rfl .nil) (hsp H hO hS)) λr s' h=>?_
  cases r with
  |error e=>exact(hCX H e s' h).elim
  |ok fl=>
   cases fl with
   |next=>exact Kh h
   |brk=>exact Kh h
   |cont=>exact Kh h
   |ret u=>
    obtain⟨v,H',os,bare,un,hok',r',q⟩:=h;have q':v=.bl true:=q;subst q';obtain rfl:u=Np true:=r';refine⟨rfl,OldK.of_keep λb o e=>?_,os,bare⟩
    cases q:H b with
    |none=>exact un.keep b o e q (by intro z; exact absurd (show b∈([]:List Addr) from z) (by simp)) (by simp)
    |some u=>
     rcases hO b with z | ⟨ob,xs,z⟩
     ·rw[q] at z; cases z
     ·have z2:=un.dG b ob _ z
      obtain⟨e1,_⟩:=hok b _ z;obtain⟨e2,_⟩:=hok' b _ z2;rw[e] at e1; cases e1;exact e2
 cases hk:K.lookup a with
 |some o=>
  have e:=KX a o hk;rw[ha] at e;cases e;refine core (λ_=>none) (λ_=>.inl rfl) (.inr ⟨_,vs.toArray,_,hk,rfl,rfl,rfl,by rw[Ee,lenV]; exact hl,by simpa using rv⟩) (λb u z=>by have z':(none:Option HO)=some u:=z; cases z') (λb z=>absurd rfl z) λz=>absurd rfl z
 |none=>
  refine core (λb=>if b=a then some (.frz { cls:=.type "list",data:=.seq vs.toArray } (.lst (ns.map V.int))) else none) (λb=>?_) (.inl (.inr ⟨{ cls:=.type "list",data:=.seq vs.toArray },if_pos rfl⟩)) (λb u z=>?_) (λb z=>?_) λ_=>hk
  ·by_cases hb:b=a
   ·exact .inr ⟨_,_,if_pos hb⟩
   ·exact .inl (if_neg hb)
  ·by_cases hb:b=a
   ·have z':=(if_pos hb).symm.trans z
    cases z';subst hb;exact⟨ha,by rw[BM]; exact hl,vs,_,rv,ha⟩
   ·have z':=(if_neg hb).symm.trans z
    cases z'
  ·by_cases hb:b=a
   ·exact hb
   ·exact absurd (if_neg hb) z
end L2
namespace L2
open PySem PySem.Spec PyProof.Rows
theorem Bb{l:Lp}{n k:Nat}{q:Fm}{loose:List Str}{XP:(Str->Option Value)->Heap->Prop}{YP:World->Heap->Prop}{d:DefRec}{K:Params->AT}{CX:World->xE}{sp:World->Sp}{x:Str}
  (hn:l.most=some n) (hn2:n<=FV) (hdf:d.params.defaults=[]) (hr:fq k No)
  (hY:∀(w:World)(h:Heap),YP w h->(K w.params).In h)
  (F:∀(w:World)(mg:Str->Option Value)(fa:Addr)(h:Heap),(K w.params).In h->h.Ns GT mg->mg d.name=some (.ref fa) ->
   ∃fd:K7,(∀(s:B1)(u:Value),Of s fd ⟨[u],[]⟩ [(x,u)]) /\
    ∀base:Heap,(K w.params).In base->base.Ns GT mg->cY l.prog w (K w.params) mg base (CX w) k fa fd [x] (sp w))
  (hsp:∀(w:World)(H:Hp)(a:Addr)(ns:List Int),ns.length<=n->Only H->fB (K w.params) H a (ns.map V.int)->sp w [.ref a] H (λv _=>v=.bl true) λ_ _ _=>False)
  (hCX:∀(w:World)(H:Hp)(s:B1)(e:Value)(s':B1),CX w [] H s (λ_ _ _=>False) e s'->False) :
  Q9 q loose XP YP l.row.toRowW d [] (λf vs=>PK f vs):=by
 refine Att.qN hn hdf λw s₀ s₁ mg mb fa o pm cd doc a vs ns G Y ho hd hcd hmg hobj hints hlen hg=>?_
 have KX:=hY w _ Y;obtain⟨fd,hb,hF⟩:=F w mg fa _ KX G.T.g hmg;exact yt KX G.T.g G.T.b G.T.builtins G.T.nolimit hg hobj hints (Ip hlen hn2) hr hF hb (λH hO hS=>hsp w H a ns hlen hO hS) λH e s'=>hCX w H s₁ e s'
end L2
namespace L2
open PySem PySem.Spec PyProof.Rows
noncomputable def bC(s:Stmt):Arguments:=match s with
 |.FunctionDef _ a _ _ _ _ _ _ _ _=>a
 |_=>{ posonlyargs:=[],args:=[],vararg:=none,kwonlyargs:=[],kw_defaults:=[],kwarg:=none,defaults:=[] }
noncomputable def aV(s:Stmt):List Stmt:=match s with
 |.FunctionDef _ _ b _ _ _ _ _ _ _=>b
 |_=>[]
noncomputable def au(s:Stmt):Scope:=match s with
 |.FunctionDef _ _ _ _ _ _ sc _ _ _=>sc
 |_=>{ kind:=.function,names:=[],isGenerator:=false,isCoroutine:=false }
abbrev j6:xE:=λ_ _ _ _ _ _=>False
abbrev E0:XK:=λ_ _ _=>False
theorem pass0{X:Cx}:Passes j6 X E0:=λ_ _ _ _ _ _ _ h=>h.elim
structure nV(K:AT)(x qual:Str)(st:Stmt)(f:Addr)(fd:K7):Prop where
 ex:∃ (oc:Value) (od:Option Addr) (kV doc pm:Value) (an:Option Addr) (cdv ct:Value) (osl:Array (Option Value)),
  fd=Ie x qual (bC st) (aV st) (au st) .none kV doc pm an cdv ct/\K.lookup f=some ⟨oc,od,.func fd,osl⟩/\Ik K cdv qual=true
 kp:Ib K (.ref f)=true
section
variable{P:Fm}{w:World}{K:AT}{mg:Str->Option Value}{base:Heap}
theorem nV.ok{x qual:Str}{st:Stmt}{f:Addr}{fd:K7}{N ps:List Str}{k:Nat}{sp:Sp}(F:nV K x qual st f fd)(S:bB N ps (au st))(len:∀vs H Q E,sp vs H Q E->vs.length=ps.length)
  (hbody:∀(cdv:Value)(A:ID)(outer:List Env)(s:B1)(H:Hp)(vs:List V)(Q:VK)(E:XK),fq k (A.deeper (Mc qual (au st) s.heap.objs.size f cdv))->sp vs H Q E ->
   ∃t,sE (qC j6 P w K mg base N qual (au st) f cdv A outer s H E).E7 (aV st) t/\t { nx:=λ_ H'=>Q .non H',rt:=Q } (start N vs) H):cY P w K mg base j6 (k+1) f fd ps sp:=by
 obtain⟨oc,od,kV,doc,pm,an,cdv,ct,osl,rfl,lk,hcd⟩:=F.ex;refine fn_of lk hcd S len λA outer s H vs Q E hr hsp=>?_
 obtain⟨t,h,q⟩:=hbody cdv A outer s H vs Q E hr hsp;exact⟨t,h.E7,q⟩
theorem nV.binds{x qual:Str}{st:Stmt}{f:Addr}{fd:K7}{ps:List Str}(F:nV K x qual st f fd)
  (h:∀(kV doc pm:Value)(an:Option Addr)(cdv ct:Value)(us:List Value),us.length=ps.length->bindArgs (Ie x qual (bC st) (aV st) (au st) .none kV doc pm an cdv ct) ⟨us,[]⟩=pure (ps.zip us)):Binds K fd ps []:=by
 obtain⟨oc,od,kV,doc,pm,an,cdv,ct,osl,rfl,lk,hcd⟩:=F.ex;exact .all (h kV doc pm an cdv ct)
theorem dH{x qual:Str}{st:Stmt}{f:Addr}{oc:Value}{od an:Option Addr}{osl:Array (Option Value)}{kV doc pm cdv ct:Value}(l:K.lookup f=some ⟨oc,od,.func (Ie x qual (bC st) (aV st) (au st) .none kV doc pm an cdv ct),osl⟩)
  (c:Ik K cdv qual=true) (k:Ib K (.ref f)=true):nV K x qual st f (Ie x qual (bC st) (aV st) (au st) .none kV doc pm an cdv ct):=⟨⟨oc,od,kV,doc,pm,an,cdv,ct,osl,rfl,l,c⟩,k⟩
end
section
variable{X:Cx}
theorem pv(i:Nat){x:Str}{pos:Pos}(hN:X.N[i]? = some x:=by rfl)(hv:AH X.env.scope x:=by first | exact IL rfl | exact KZ (IL rfl) | exact KZ (KZ rfl))(hd:(x == ("__debug__" : Str))=false:=by decide)
  (hcd:(x == ("__classdict__" : Str))=false:=by decide):PE X (.Name x pos) (fm i):=sI hN hv hd hcd
theorem nW:bL X (.builtin "len") (λxs H Q=>∃a kvs,xs=[V.ref a]/\H a=some (.dK kvs)/\Q (.int kvs.length) H):=by
 intro pins s σ H xs us Q I r h;obtain⟨a,kvs,rfl,ha,q⟩:=h;obtain⟨u,rfl,ru⟩:=vals1 r;cases ru;exact d_len I (.inl ha) λt s' I'=>⟨.int kvs.length,H,I',⟨t,rfl⟩,q⟩
end
theorem iteF{A B:Prop}(h:B):if false=true then A else B:=by
 rw[if_neg JC];exact h
theorem iteT{A B:Prop}(h:A):if true=true then A else B:=by
 rw[if_pos rfl];exact h
def bD(H H':Hp):Prop:=∀b o,H b=some o->H' b=some o
theorem bD.refl(H:Hp):bD H H:=λ_ _ h=>h
theorem bD.free{H H':Hp}(e:bD H H'){l:Addr}(h:H' l=R4):H l=R4:=by
 cases q:H l with
 |none=>rfl
 |some o=>
  rw[e l o q] at h;cases h
end L2
end
section
namespace L2
open PySem PySem.Spec PyProof.Rows
noncomputable def ay(cells:List (Str×Addr)):List (Str×Jd)->List (Str×Addr)->List (Str×Addr)
 |[],cs=>cs
 |(n,k)::r,cs=>if (k == Iv)=true then (match cells.lookup n with | some a=>ay cells r ((n,a)::cs) | none=>ay cells r cs) else ay cells r cs
theorem pH{env:Env}:∀(names:List (Str×Jd))(cs:List (Str×Addr)),(∀x∈names,x.2=.free->∃a,env.cells.lookup x.1=some a) ->
  (forIn names cs λ(x:Str×Jd)(r:List (Str×Addr))=>(if (x.2 == Iv)=true then (do let a <-cellOf env x.1; pure (Lu ((x.1,a)::r))) else pure (Lu r):Sem (ForInStep (List (Str×Addr)))))=(pure (ay env.cells names cs):Sem (List (Str×Addr)))
 |[],cs,_=>rfl
 |(n,k)::r,cs,h=>by
  rw[Nf]
  by_cases hk:(k == Iv)=true
  ·obtain⟨a,ha⟩:=h (n,k) lS (by simpa using hk)
   have ha:env.cells.lookup n=some a:=ha;have hcell:cellOf env n=pure a:=by unfold cellOf; rw[ha]
   simp only[hk,if_true];rw[hcell];show (forIn r ((n,a)::cs) _:Sem _)=_;rw[pH r _ λx hx=>h x (lO _ hx)]
   simp only[ay,hk,if_true,ha]
  ·simp only[hk,if_false]
   show (forIn r cs _:Sem _)=_;rw[pH r _ λx hx=>h x (lO _ hx)]
   simp only[ay,hk,if_false];rfl
theorem bT{scope:Scope}{env:Env}(h:∀x∈scope.names,x.2=.free->∃a,env.cells.lookup x.1=some a):closureFor scope env=pure (ay env.cells scope.names []):=by
 have e:=pH (env:=env) scope.names [] h;unfold closureFor;simp only[bind_pure_comp] at e ⊢
 first
  |(rw[<-e]; rfl)
  |(simpa using e)
theorem bf{cells:List (Str×Addr)}{y:Str}{c:Addr}:∀(names:List (Str×Jd))(cs:List (Str×Addr)),(∀y c,cs.lookup y=some c->cells.lookup y=some c)->(ay cells names cs).lookup y=some c->cells.lookup y=some c
 |[],cs,h,e=>h y c e
 |(n,k)::r,cs,h,e=>by
  unfold ay at e
  by_cases hk:(k == Iv)=true
  ·rw[if_pos hk] at e
   cases ha:cells.lookup n with
   |none=>
    rw[ha] at e;exact bf r cs h e
   |some a=>
    rw[ha] at e;refine bf r _ (λy c q=>?_) e
    rw[Ia] at q
    by_cases hy:(y == n)=true
    ·rw[hy] at q
     cases q;have:y=n:=by simpa using hy
     rw[this]; exact ha
    ·have hy':(y == n)=false:=by simpa using hy
     rw[hy'] at q;exact h y c q
  ·rw[if_neg hk] at e
   exact bf r cs h e
theorem gn{cells:List (Str×Addr)}{y:Str}:∀(names:List (Str×Jd))(cs:List (Str×Addr)),(cs.lookup y).isSome=true->((ay cells names cs).lookup y).isSome=true
 |[],cs,h=>h
 |(n,k)::r,cs,h=>by
  unfold ay
  by_cases hk:(k == Iv)=true
  ·rw[if_pos hk]
   cases ha:cells.lookup n with
   |none=>exact gn r cs h
   |some a=>
    refine gn r _ ?_;rw[Ia]
    by_cases hy:(y == n)=true
    ·rw[hy]; rfl
    ·have hy':(y == n)=false:=by simpa using hy
     rw[hy']; exact h
  ·rw[if_neg hk]
   exact gn r cs h
theorem dP{cells:List (Str×Addr)}{y:Str}:∀(names:List (Str×Jd))(cs:List (Str×Addr)),(y,Iv)∈names->(cells.lookup y).isSome=true->((ay cells names cs).lookup y).isSome=true
 |[],cs,h,_=>by simp at h
 |(n,k)::r,cs,h,hy=>by
  unfold ay;rcases lK h with e | h'
  ·cases e
   rw[if_pos (by rfl)]
   cases ha:cells.lookup y with
   |none=>rw[ha] at hy; cases hy
   |some a=>
    refine gn r _ ?_;rw[Ia,show (y == y)=true by simp]
    rfl
  ·by_cases hk:(k == Iv)=true
   ·rw[if_pos hk]
    cases ha:cells.lookup n with
    |none=>exact dP r cs h' hy
    |some a=>exact dP r _ h' hy
   ·rw[if_neg hk]
    exact dP r cs h' hy
theorem jl{scope:Scope}{env:Env}{x:Str}{k:Jd}(hc:∀y∈scope.names,y.2≠.cell):(relabel scope env).names.lookup x=some k->(k=.cell\/k=.free)->scope.names.lookup x=some .free:=by
 unfold relabel;dsimp only;generalize hn:scope.names=names at hc ⊢
 clear hn
 induction names with
 |nil=>intro h; simp at h
 |cons p r ih=>
  obtain⟨n,k0⟩:=p;intro h hk;rw[FC,Ia] at h;rw[Ia];have hc':∀y∈r,y.2≠.cell:=λy hy=>hc y (lO _ hy)
  by_cases hx:(x == n)=true
  ·rw[hx]
   have hk0:=hc (n,k0) lS;have hk0:k0≠.cell:=hk0
   by_cases hq:(k0 == Iv && env.scope.kind == .function && env.kindOf n == some .cell)=true
   ·have:(k0 == Iv)=true:=by
     rw[IW,IW] at hq;exact hq.1.1
    have:k0=.free:=by simpa using this
    rw[this]
   ·rw[if_neg hq] at h
    dsimp only at h;rw[hx] at h
    injection h with h
    subst h;rcases hk with z | z
    ·exact absurd z hk0
    ·rw[z]
  ·have hx':(x == n)=false:=by simpa using hx
   rw[hx'];refine ih hc' ?_ hk
   by_cases hq:(k0 == Iv && env.scope.kind == .function && env.kindOf n == some .cell)=true
   ·rw[if_pos hq] at h
    dsimp only at h;rw[hx'] at h;exact h
   ·rw[if_neg hq] at h
    dsimp only at h;rw[hx'] at h;exact h
theorem jm{scope:Scope}{env:Env}{x:Str}:scope.names.lookup x=some .free->(relabel scope env).names.lookup x=some .cell\/(relabel scope env).names.lookup x=some .free:=by
 unfold relabel;dsimp only;generalize hn:scope.names=names
 clear hn
 induction names with
 |nil=>intro h; simp at h
 |cons p r ih=>
  obtain⟨n,k0⟩:=p;intro h;rw[Ia] at h;rw[FC,Ia]
  by_cases hx:(x == n)=true
  ·rw[hx] at h
   injection h with h
   subst h
   by_cases hq:(Iv == Iv && env.scope.kind == .function && env.kindOf n == some .cell)=true
   ·rw[if_pos hq]; dsimp only; rw[hx]; exact .inl rfl
   ·rw[if_neg hq]; dsimp only; rw[hx]; exact .inr rfl
  ·have hx':(x == n)=false:=by simpa using hx
   rw[hx'] at h
   by_cases hq:(k0 == Iv && env.scope.kind == .function && env.kindOf n == some .cell)=true
   ·rw[if_pos hq]; dsimp only; rw[hx']; exact ih h
   ·rw[if_neg hq]; dsimp only; rw[hx']; exact ih h
noncomputable def aE(X:Cx)(scope:Scope)(cl:List (Str×Addr))(N:List Str)(C:Addr)(fp:List Addr)(s:B1)(H:Hp):Cx :=
 { X with N:=N,s₀:=s,H₀:=H,env:=La scope cl C X.env,outer:=X.stack,ex:=fp,fn:=λ_=>false,pn:=[],xe:=λ_ _=>False }
structure Bk where
 cl:List (Str×Addr)
 C:Addr
 fp:List Addr
 s:B1
 H:Hp
noncomputable def iX(fr:List (Option Nat))(σ:St):St:=fr.map λo=>match o with
 |some j=>(match σ[j]? with | some v=>v | none=>none)
 |none=>none
structure bh(X:Cx)(scope:Scope)(N:List Str)(fr:List (Option Nat)):Prop where
 kind:scope.kind=.function
 nocell:∀y∈scope.names,y.2≠.cell
 locs:∀y∈scope.names,y.2=.local->scope.names.lookup y.1=some .local
 free:∀y∈scope.names,y.2=.free->X.env.kindOf y.1=some .cell\/X.env.kindOf y.1=some .free
 len:fr.length=N.length
 fr:∀(i j:Nat)(x:Str),N[i]? = some x->fr[i]? = some (some j)->X.N[j]? = some x/\scope.names.lookup x=some .free
 nd:N.Nodup
theorem aM{x:Str}{k:Jd}:∀{l:List (Str×Jd)},l.lookup x=some k->(x,k)∈l:=λh=>KH h
section
variable{X:Cx}{pins:List (Addr×Obj)}{σ:St}{H:Hp}{s:B1}{scope:Scope}{N:List Str}{fr:List (Option Nat)}{fp:List Addr}
theorem bh.cells(S:bh X scope N fr)(I:Inv X pins σ H s):∀x∈scope.names,x.2=.free->∃a,X.env.cells.lookup x.1=some a:=λx hx e=>I.ok.has x.1 (S.free x hx e)
theorem lz{h1:Heap}{m:Str->Option Value}{ob:Obj}{tk:Nat}(I:Inv X pins σ H s)(S:bh X scope N fr)(hf:∀b∈fp,gM X pins H b)(hs:∀b∈fp,b<s.heap.objs.size)
  (hns:h1.Ns s.heap.objs.size m) (hsb:JG s.heap.objs.size (s.heap.push ob) h1) :
  Inv (aE X scope (ay X.env.cells scope.names []) N s.heap.objs.size fp s H) [] (iX fr σ) H { s with heap:=h1,toks:=tk }:=by
 have sub:∀y c,(ay X.env.cells scope.names []).lookup y=some c->X.env.cells.lookup y=some c:=λy c e=>bf scope.names [] (λ_ _ z=>by simp at z) e
 have old:∀b o,s.heap.get? b=some o->h1.get? b=some o:=λb o e=>(hsb.2 b (Db (Ch e))).trans (Ap _ e)
 have cle:∀x c,X.env.cells.lookup x=some c->c<s.heap.objs.size:=λx c e=>by
  obtain⟨v,z⟩:=I.cell x c e;exact z.lt
 have bne:∀b∈fp,b∉X.ex->X.s₀.heap.objs.size<=b:=λb hb hx=>by
  rcases (hf b hb).2.2.2.1 with z | z
  ·exact absurd z hx
  ·exact z
 have ok:(aE X scope (ay X.env.cells scope.names []) N s.heap.objs.size fp s H).Ok:=by
  refine⟨I.ok.mod,?_,I.ok.glob,I.ok.blt,D2 _,λx y c h1 h2=>I.ok.inj x y c (sub x c h1) (sub y c h2),λx hx=>?_,λx c z=>(by cases z),I.ok.hd,I.ok.frames,.inl rfl,λb hb=>⟨?_,λx c e=>?_⟩,λb o e=>I.bs b o e,?_,λb o e hb=>?_,λb hb hs' =>?_,I.stack,I.o4⟩
  ·exact S.kind
  ·have hx:(relabel scope X.env).names.lookup x=some .cell\/(relabel scope X.env).names.lookup x=some .free:=hx
   have hfr:scope.names.lookup x=some .free:=by
    rcases hx with z | z
    ·exact jl S.nocell z (.inl rfl)
    ·exact jl S.nocell z (.inr rfl)
   have hm:=aM hfr;obtain⟨a,ha⟩:=S.cells I _ hm rfl;exact Iz.mp (dP scope.names [] hm (by show (X.env.cells.lookup x).isSome=true; rw[show X.env.cells.lookup x=some a from ha]; rfl))
  ·exact Db (hs b hb)
  ·exact(hf b hb).2.2.2.2.1 x c (sub x c e)
  ·exact Ip I.ok.bsz I.sz
  ·have e:X.base.get? b=some o:=e
   rcases (hf b hb).2.2.2.1 with z | z
   ·exact I.ok.noex b o e z
   ·exact absurd (Fk (Ch e) (Ip I.ok.bsz z)) (KF _)
  ·rcases lK (I.gk b hs') with z | z
   ·exact(hf b hb).2.1 z
   ·exact(hf b hb).2.2.1 z
 refine⟨ok,rfl,I.bare,Un.kept old,⟨m,hns,λi x v h1' h2 h3=>?_⟩,λx c e=>?_,I.hok.fresh (D2 _),λx c e=>I.freeC x c (sub x c e),λp hp=>absurd (show p∈([]:List (Addr×Obj)) from hp) (by simp),I.hok.kept old,?_⟩
 ·have h1':N[i]? = some x:=h1'
  have h2:(iX fr σ)[i]? = some (some v):=h2;unfold iX at h2;rw[IC] at h2;cases e:fr[i]? with
  |none=>rw[e] at h2; cases h2
  |some o=>
   rw[e] at h2;cases o with
   |none=>cases h2
   |some j=>
    obtain⟨hj,hx⟩:=S.fr i j x h1' e;have h2:some (match σ[j]? with | some v=>v | none=>none)=some (some v):=h2
    injection h2 with h2
    cases ej:σ[j]? with
    |none=>rw[ej] at h2; cases h2
    |some w' =>
     rw[ej] at h2;have h2:w'=some v:=h2;subst h2;have hk:=S.free _ (aM hx) rfl;obtain⟨m0,hn0,hl⟩:=I.loc;have vis:AH X.env.scope x:=by
      rcases hk with z | z
      ·exact .inr (.inl z)
      ·exact .inr (.inr z)
     obtain⟨u,r,l⟩:=hl j x v hj ej vis;refine⟨u,r,?_⟩;rcases l with⟨k,_⟩ | ⟨_,c,ec,z⟩
     ·exfalso
      rcases hk with q | q
      ·have:=k.symm.trans q; cases this
      ·have:=k.symm.trans q; cases this
     ·have hm:=aM hx
      obtain⟨c',ec'⟩:=Iz.mp (dP (cells:=X.env.cells) scope.names [] hm (by rw[ec]; rfl))
      have:c'=c:=by
       have q:=sub x c' ec';rw[ec] at q;cases q;rfl
      subst this;refine .inr ⟨jm hx,c',ec',?_⟩;obtain⟨o,ho,hd⟩:=z;exact⟨o,old _ o ho,hd⟩
 ·obtain⟨v,o,ho,hd⟩:=I.cell x c (sub x c e)
  exact⟨v,o,old _ o ho,hd⟩
 ·show (iX fr σ).length=N.length
  unfold iX;rw[BM,S.len]
end
def pI(X:Cx)(ifs:List Expr)(t:TT):Prop :=
 ∀(pins:List (Addr×Obj))(s:B1)(σ:St)(H:Hp)(Q:Bool->Hp->Prop),Inv X pins σ H s->t σ H Q ->
  wpAny (model X.prog X.w) X.A (forIn ifs true λc r=>if r=true then do let ok <-Om c X.env (eval c X.env); pure (Lu ok) else pure (Lu r)) (TP X pins σ Q) X.xe s
noncomputable def tYes:TT:=λ_ H Q=>Q true H
theorem DH{X:Cx}:pI X [] tYes:=λ_ _ _ H _ I h=>wpAny_tests_nil ⟨H,I,h⟩
theorem DI{X:Cx}{c:Expr}{t:TT}(h:PT X c t):pI X [c] t:=λpins s σ H Q I hq=>wpAny_tests_one (h pins s σ H Q I hq)
abbrev TM:=St->Hp->(Hp->Prop)->Prop
def GL(X:Cx)(em:Sem Unit)(t:TM):Prop :=
 ∀(pins:List (Addr×Obj))(s:B1)(σ:St)(H:Hp)(R:Hp->Prop),Inv X pins σ H s->t σ H R ->
  wpAny (model X.prog X.w) X.A em (λ_ s'=>∃H',Inv X pins σ H' s'/\R H') X.xe s
def nX(g:TG)(tt:TT)(tem:TM)(J:It)(τ:St)(H:Hp)(Q:Hp->Prop):Prop :=
 ∃W:Nat->Nat->St->Hp->Prop,(∃m,W 0 m τ H)/\∀i m τ H,W i m τ H ->
  (J.stop i H/\Q H)\/(J.go i H/\∃N:St->Hp->Prop,(∀τ' H',N τ' H'->∃m',m'<m/\W (i+1) m' τ' H')/\∀x H',J.yld i H x H'->g x τ H' λτ2 H2=>tt τ2 H2 λb H3=>
   if b=true then tem τ2 H3 (N τ2) else N τ2 H3)
noncomputable def sW(target iter:Expr)(ifs:List Expr)(em:Sem Unit)(it:Value)(env:Env)(nxt:Sem Fin):Sem Fin:=do
 MY iter.pos
 match <-Ks it with
 |none=>pure (.done .next)
 |some v=>
  Mf target it v
  LS target env v
  let mut ok:=true
  for c in ifs do
   if ok then ok <-Om c env (eval c env)
  if ok then em
  nxt
section
variable{X:Cx}{e target iter:Expr}{ifs:List Expr}{g:TG}{tt:TT}{tem:TM}{acc:Value}{em:Sem Unit}
theorem fU{it:Addr}{fp:List Addr}{tn:Nat->Heap->Prop}{J:It}{τ:St}{H:Hp}{s:B1}{Q:Hp->Prop}{R:Qv->B1->Prop}
  (ht:compTurn e 0 (.ref it) acc X.env=sW target iter ifs em (.ref it) X.env (again (.compLoop e 0 (.ref it) acc X.env)))
  (hd:∀(Q:Fin->B1->Prop)(E:Value->B1->Prop)(s:B1),wpAny (model X.prog X.w) X.A ((compTurn e 0 (.ref it) acc X.env).onRaise (λx=>do noteFrame x X.env; theTreesLotGoes x)) Q E s ->
   wpAny (model X.prog X.w) (X.A.under (.compLoop e 0 (.ref it) acc X.env)) ((model X.prog X.w).den (.compLoop e 0 (.ref it) acc X.env)) Q E s)
  (hq:(Code.compLoop e 0 (.ref it) acc X.env).quiet=true)
  (hc:X.calm=true) (hx:X.xe=λ_ _=>False) (hg:PG X target g) (hi:pI X ifs tt) (he:GL X em tem) (T:Turn X.prog X.w X.K target J fp it tn)
  (I:Inv X [] τ H s) (st:tn 0 s.heap) (hf:∀b∈fp,gM X [] H b) (h:nX g tt tem J τ H Q) (hR:∀τ' H' s',Inv X [] τ' H' s'->Q H'->R (.ok .next) s') :
  Kl (model X.prog X.w) X.A (.compLoop e 0 (.ref it) acc X.env) R s:=by
 obtain⟨W,⟨m0,w0⟩,turn⟩:=h;have stat:∀{H':Hp},(∀b∈fp,H' b=none)->∀b∈fp,gM X [] H' b:=λhn b hb=>⟨hn b hb,(hf b hb).2⟩
 have noX:∀{α:Type}{t:Sem α}{Q:α->B1->Prop}{s':B1}{E:Value->B1->Prop},wpAny (model X.prog X.w) X.A t Q X.xe s'->wpAny (model X.prog X.w) X.A t Q E s':=λ{α t Q s' E}h' =>
  K1 h' (λ_ _ q=>q) λ_ _ z=>by rw[hx] at z; exact z.elim
 refine codeAny_loop hq (λn s'=>∃i τ' H',Inv X [] τ' H' s'/\tn i s'.heap/\(∀b∈fp,H' b=none)/\W i n τ' H') ?_ m0 ⟨0,τ,H,I,st,λb hb=>(hf b hb).1,w0⟩
 rintro n s3 ⟨i,σ3,H3,I3,st3,fr3,w3⟩;refine hd _ _ _ (wpAny_noted ?_);rw[ht];unfold sW;refine AC (Ki (AC ?_));rcases turn i n σ3 H3 w3 with⟨stop,qn⟩ | ⟨go,Nx,hNx,step⟩
 ·refine bw (T.done X rfl rfl rfl hc i [] s3 σ3 H3 _ I3 (stat fr3) st3 stop) λr s4 ⟨hr,I4⟩=>?_
  subst hr;exact At (hR _ _ _ I4 qn)
 ·refine bw (T.item X rfl rfl rfl hc i [] s3 σ3 H3 _ I3 (stat fr3) st3 go) λr s4 ⟨u,hr,h4⟩=>?_
  subst hr;refine AC (bw h4 λ_ s5 ⟨x,H5,I5,r5,y5,st5,fr5⟩=>?_)
  have I5':=I5.pinned (stat fr5) (T.obj _ _ st5);refine AC (noX (bw (hg _ s5 σ3 H5 x u _ I5' r5 (step x H5 y5)) λ_ s6 ⟨σ6,H6,I6,q6⟩=>?_))
  have again':∀{σ7:St}{H7:Hp}{s7:B1},Inv X ([]++kR fp s5.heap) σ7 H7 s7->(∃m',m'<n/\W (i+1) m' σ7 H7)->∃m,m<n/\∃i σ' H',Inv X [] σ' H' s7/\tn i s7.heap/\(∀b∈fp,H' b=none)/\W i m σ' H':=λ{σ7 H7 s7}I7 n7=>by
   obtain⟨m',hm,w7⟩:=n7;refine⟨m',hm,i+1,σ7,H7,I7.jh,T.keep _ _ _ st5 λb hb o e=>(I7.pin (b,o) (lR _ (lR _ (gm hb e)))).1,λb hb=>?_,w7⟩
   obtain⟨o,e,d⟩:=T.obj _ _ st5 b hb;exact(I7.pin (b,o) (lR _ (lR _ (gm hb e)))).2.1
  refine AC (noX (bw (hi _ s6 σ6 H6 _ I6 q6) λok s7 ⟨H7,I7,q7⟩=>?_))
  cases ok with
  |false=>exact At ⟨rfl,again' I7 (hNx _ _ q7)⟩
  |true=>
   refine AC (noX (bw (he _ s7 σ6 H7 _ I7 q7) λ_ s8 ⟨H8,I8,q8⟩=>?_))
   exact At ⟨rfl,again' I8 (hNx _ _ q8)⟩
end
noncomputable def eApp(D:Addr)(te:TE):TM:=λσ H R=>te σ H λy H1=>∃xs,H1 D=some (.lst xs)/\xs.length<FV/\R (upd H1 D (.lst (xs++[y])))
theorem pJ{X:Cx}{elt:Expr}{te:TE}{D:Addr}(h:PE X elt te):GL X (do let _ <-call (.builtin "list.append") [.ref D,<-eval elt X.env]) (eApp D te):=by
 intro pins s σ H R I hq;refine AC (bw (h pins s σ H _ I hq) λu s1 ⟨y,H1,I1,r1,xs,hD,hz,q⟩=>?_)
 refine AC (bw (eL pins s1 σ H1 (.ref D) [y] (.ref D) [u] (λ_ H'=>R H') I1 rfl (.cons r1 .nil) ⟨D,xs,y,rfl,rfl,hD,hz,q⟩) λ_ s2 ⟨v,H2,I2,_,q2⟩=>?_)
 exact At ⟨H2,I2,q2⟩
noncomputable def CJ(fr:List (Option Nat))(wi:TI)(g:Bk->TG)(tt:Bk->TT)(te:Bk->TE):TE:=λσ H Q=>wi σ H λJ H1=>∀D,H1 D=none->∀z,nX (g z) (tt z) (eApp D (te z)) J (iX fr σ) (upd H1 D (.lst [])) λH'=>Q (.ref D) H'
section
variable{X:Cx}
theorem lA{pins:List (Addr×Obj)}{σ τ:St}{H1 H3 H':Hp}{s2 s3 s':B1}{fp:List Addr}{scope:Scope}{cl:List (Str×Addr)}{N:List Str}{h':Heap}
  (I2:Inv X pins σ H1 s2) (hf:∀b∈fp,gM X pins H1 b) (u23:Un (frs X.stack) [] H1 H3 s2.heap s3.heap) (ho:s3.os=s2.os) (hs:s2.heap.objs.size<=s3.heap.objs.size)
  (J:Inv (aE X scope cl N s3.heap.objs.size fp s3 H3) [] τ H' s') (sb:JG s3.heap.objs.size s'.heap h'):Inv X pins σ H' { s' with heap:=h' }:=by
 have hC:H' s3.heap.objs.size=none:=J.free;have hbase:Un (frs X.stack) fp H3 H' s3.heap s'.heap:=J.base;have u3:Un (frs X.stack) fp H1 H' s2.heap s'.heap:=(u23.mono (λ_ z=>z) (λ_ z=>nomatch z)).trans hbase
 have ne:∀b o,s2.heap.get? b=some o->b≠s3.heap.objs.size:=λb o e=>Db (Fk (Ch e) hs)
 have u:Un (frs X.stack) fp H1 H' s2.heap h':=⟨λb o e n h1 h2=>(sb.2 b (ne b o e)).trans (u3.keep b o e n h1 h2),λb o e n h1 h2=>by
   obtain⟨sl,q⟩:=u3.slot b o e n h1 h2;exact⟨sl,(sb.2 b (ne b o e)).trans q⟩,u3.free,λb o e h2=>by
   obtain⟨o',q⟩:=u3.there b o e h2;exact⟨o',(sb.2 b (ne b o e)).trans q⟩,u3.tups,u3.dG,u3.tbls⟩
 have hok:iH X.prog X.w H' h':=λb ob e=>by
  have q:cy X.prog X.w H' s'.heap b ob:=J.hok b ob e;refine q.stay (λc w' hc q=>(sb.2 c ?_).trans q) (λ_ q=>q) λ_ _ q=>q
  intro z;rw[z] at hc;rcases hc with rfl | hc
  ·rw[hC] at e; cases e
  ·rw[hC] at hc; cases hc
 refine I2.CB (s':={ s' with heap:=h' }) (H':=H') (ch:=fp) (J.os.trans ho) u hok J.bare λb hb=>?_
 obtain⟨_,f1,_,f3,f4,f5⟩:=hf b hb;exact⟨f3,f1,f4,f5⟩
theorem yu{elt target iter:Expr}{ifs:List Expr}{scope:Scope}{pos:Pos}{N:List Str}{fr:List (Option Nat)}{wi:TI}{g:Bk->TG}{tt:Bk->TT}{te:Bk->TE}(hc:X.calm=true)(S:bh X scope N fr)(hi:PI X target iter wi)
  (hin:∀z:Bk,PG (aE X scope z.cl N z.C z.fp z.s z.H) target (g z)/\pI (aE X scope z.cl N z.C z.fp z.s z.H) ifs (tt z)/\PE (aE X scope z.cl N z.C z.fp z.s z.H) elt (te z))
  (hs:∀x,IP iter X.env x=pure x:=by intro _; rfl):PE X (.ListComp elt [⟨target,iter,ifs,0⟩] scope pos) (CJ fr wi g tt te):=by
 intro pins s σ H Q I h;rw[eval_ListComp];refine KO (g:=⟨target,iter,ifs,0⟩) (gs:=[]) (use:=none) rfl hs (bT (S.cells I)) S.kind S.locs ?_;refine bw (hi pins s σ H _ I h) λv s1 h1=>bw h1 λitv s2 h2=>?_
 obtain⟨it,fp,tn,J,H2,e,I2,T,st2,f2,h2⟩:=h2;subst e;refine IB ?_;have hD:H2 s2.heap.objs.size=none:=I2.fresh;have I3:=I2.ye (t':=s2.toks) (ys:=[]) (its:=[]) .nil (Hn _);have lt2:∀b∈fp,b<s2.heap.objs.size:=λb hb=>by
  obtain⟨o,e,_⟩:=T.obj _ _ st2 b hb;exact Ch e
 have f3:∀b∈fp,gM X pins (upd H2 s2.heap.objs.size (.lst [])) b:=λb hb=>⟨by rw[aC (Db (lt2 b hb))]; exact(f2 b hb).1,(f2 b hb).2⟩
 generalize hs3:({ s2 with heap:=s2.heap.push { cls:=.type "list",data:=.seq ([]:List Value).toArray } }:B1)=s3
 have I3:Inv X pins σ (upd H2 s2.heap.objs.size (.lst [])) s3:=by rw[<-hs3]; exact I3
 have sz3:s3.heap.objs.size=s2.heap.objs.size+1:=by rw[<-hs3]; exact HI ..
 have u23:Un (frs X.stack) [] H2 (upd H2 s2.heap.objs.size (.lst [])) s2.heap s3.heap:=by
  rw[<-hs3];exact Un.laid (λb o e=>Ap _ e) (D2 _) hD
 have ho:s3.os=s2.os:=by rw[<-hs3]
 have st3:tn 0 s3.heap:=T.keep _ _ _ st2 λb _ o e=>by rw[<-hs3]; exact Ap _ e
 refine Mx S.nocell (by intro y hy; simp at hy) (λh4 hns hsb=>?_) S.kind
 have lt3:∀b∈fp,b<s3.heap.objs.size:=λb hb=>Fk (lt2 b hb) (by rw[sz3]; exact Iq _)
 have I4:=lz (tk:=s3.toks+([]:List (Str×Value)).length) I3 S f3 lt3 hns hsb;have old4:∀b o,s3.heap.get? b=some o->h4.get? b=some o:=λb o e=>(hsb.2 b (Db (Ch e))).trans (Ap _ e)
 have st4:tn 0 h4:=T.keep _ _ _ st3 λb _ o e=>old4 b o e
 have h2:=h2 _ hD ⟨ay X.env.cells scope.names [],s3.heap.objs.size,fp,s3,upd H2 s2.heap.objs.size (.lst [])⟩;obtain⟨hg,hif,hel⟩:=hin ⟨ay X.env.cells scope.names [],s3.heap.objs.size,fp,s3,upd H2 s2.heap.objs.size (.lst [])⟩;have loop:Kl (model X.prog X.w) X.A (.compLoop (.ListComp elt [⟨target,iter,ifs,0⟩] scope pos) 0 (.ref it) (.ref s2.heap.objs.size) (La scope (ay X.env.cells scope.names []) s3.heap.objs.size X.env))
   (Op (model X.prog X.w) X.A X.xe none (EP X pins σ Q) (.ref s2.heap.objs.size) s3.heap.objs.size) { s3 with heap:=h4,toks:=s3.toks+([]:List (Str×Value)).length }:=by
  refine fU (X:=aE X scope (ay X.env.cells scope.names []) N s3.heap.objs.size fp s3 (upd H2 s2.heap.objs.size (.lst []))) (em:=(do let _ <-call (.builtin "list.append") [.ref s2.heap.objs.size,<-eval elt (La scope (ay X.env.cells scope.names []) s3.heap.objs.size X.env)]))
   (NO ..) (λ_ _ _ z=>z) rfl hc rfl hg hif (pJ hel) T I4 st4 (λb hb=>?_) h2 (λτ' H' s' J' q=>?_)
  ·obtain⟨f0,f1,fs,fe,fc,fp'⟩:=f3 b hb
   refine⟨f0,Db (lt3 b hb),λz=>?_,.inl hb,λx c e=>fc x c (bf scope.names [] (λ_ _ z=>by simp at z) e),λp hp=>absurd (show p∈([]:List (Addr×Obj)) from hp) (by simp)⟩
   rcases lK (I3.gk b z) with z | z
   ·exact f1 z
   ·exact fs z
  ·obtain⟨m,hn,_⟩:=J'.loc
   exact⟨m,hn,λh' sb=>⟨.ref s2.heap.objs.size,H',lA I2 f2 u23 ho (by rw[sz3]; exact Iq _) J' sb,rfl,q⟩⟩
 exact LH loop (T.self X.A 0 _ _ _ st4 loop)
end
theorem compTurn_dict(ek ev target iter:Expr)(ifs:List Expr)(scope:Scope)(pos:Pos)(it:Value)(d:Addr)(env:Env) :
  compTurn (.DictComp ek ev [⟨target,iter,ifs,0⟩] scope pos) 0 it (.ref d) env=sW target iter ifs (do
    let kv <-eval ek env
    let vv <-LX [kv] (eval ev env)
    MY { ek.pos with endLine:=ev.pos.endLine,endCol:=ev.pos.endCol }
    LX [kv,vv] (dictSet d kv vv)) it env (again (.compLoop (.DictComp ek ev [⟨target,iter,ifs,0⟩] scope pos) 0 it (.ref d) env)):=by rfl
theorem codeAny_compStart_dict{prog:Fm}{w:World}{A:ID}{R:Qv->B1->Prop}{s:B1}{ek ev target iter ifs rest scope pos it acc env}
  (h0:Kl (model prog w) A (.compLoop (.DictComp ek ev (⟨target,iter,ifs,0⟩::rest) scope pos) 0 it acc env) R s)
  (h:wpAny (model prog w) A (OG it) (λit' s'=>Kl (model prog w) A (.compLoop (.DictComp ek ev (⟨target,iter,ifs,0⟩::rest) scope pos) 0 it' acc env) R s')
   (notedBy (model prog w) A env λx s'=>R (.error x) s') s) :
  Kl (model prog w) A (.compStart (.DictComp ek ev (⟨target,iter,ifs,0⟩::rest) scope pos) 0 it acc env) R s:=by
 refine OY ?_;show wpAny _ _ ((compStart (.DictComp ek ev (⟨target,iter,ifs,0⟩::rest) scope pos) 0 it acc env).onRaise (λx=>do noteFrame x env; MY theWindowsPlace)) _ _ s
 refine wpAny_notedAt ?_;unfold compStart;show wpAny _ _ (ask >>= _) _ _ s;refine AC (Kv (wpAny_ite ?_))
 split
 ·first
   |exact AC (At (At (Oj rfl h0)))
   |exact At (Oj rfl h0)
 ·first
   |exact AC (Jb (AC (Ki (AC (K1 h (λit' s' h'=>At (Oj rfl h')) λ_ _ x=>x)))))
   |(refine AC (Jb ?_); show wpAny _ _ (MY iter.pos >>= _) _ _ s; exact AC (Ki (AC (K1 h (λit' s' h'=>At (Oj rfl h')) λ_ _ x=>x))))
noncomputable def ePut(D:Addr)(tk tv:TE):TM:=λσ H R=>tk σ H λy H1=>tv σ H1 λv H2=>∃kvs k,y=kV k/\H2 D=some (.dK kvs)/\kvs.length<FV/\R (upd H2 D (.dK (putK kvs k v)))
theorem d_set{X:Cx}{pins:List (Addr×Obj)}{σ:St}{H:Hp}{s:B1}{A:ID}{E:Value->B1->Prop}{a:Addr}{k:Key}{v:V}{u r:Value}{kvs:List (Key×V)}{Q:Unit->B1->Prop}(I:Inv X pins σ H s)(e:H a=some (.dK kvs))(l:kvs.length<FV)(ry:RelV (kV k) u)(rv:RelV v r)
  (h:∀s',Inv X pins σ (upd H a (.dK (putK kvs k v))) s'->Q () s'):wpAny (model X.prog X.w) A (dictSet a u r) Q E s:=by
 obtain⟨z,hd,vs,rel,dd⟩:=uJ I.hok e;have hz:vs.length<=FV:=by rw[<-rel.length]; exact z
 have hl:(putK kvs k v).length<=FV:=by have:=dO kvs k v; lia
 refine QY (hsz:=hz) (j3 ry) dd λh' dd' hs=>h _ ?_
 have he:∃q,h'.get? a=some q:=let ⟨q,_,_,hq,_⟩:=dd'; ⟨q,hq⟩;exact kI I (by rw[e]; exact JX) hs he (sV hl hd (rel.put k rv) dd')
theorem DJ {X:Cx} {ek ev:Expr} {tk tv:TE} {D:Addr} {p:Pos} (hk:PE X ek tk) (hv:PE X ev tv):GL X (do
        let kv <-eval ek X.env
        let vv <-LX [kv] (eval ev X.env)
        MY p
        LX [kv,vv] (dictSet D kv vv)) (ePut D tk tv):=by
  intro pins s σ H R I hq;refine AC (bw (hk pins s σ H _ I hq) λu s1 ⟨y,H1,I1,r1,q1⟩=>?_)
  refine AC (IK (bw (hv pins s1 σ H1 _ I1 q1) λr s2 ⟨v,H2,I2,r2,q2⟩=>?_))
  obtain⟨kvs,k,e,hD,hz,q⟩:=q2;subst e;exact AC (Ki (IK (d_set I2 hD hz r1 r2 λs3 I3=>⟨_,I3,q⟩)))
noncomputable def Hi(fr:List (Option Nat))(wi:TI)(g:Bk->TG)(tt:Bk->TT)(tk tv:Bk->TE):TE:=λσ H Q=>wi σ H λJ H1=>∀D,H1 D=none->∀z,nX (g z) (tt z) (ePut D (tk z) (tv z)) J (iX fr σ) (upd H1 D (.dK [])) λH'=>Q (.ref D) H'
section
variable{X:Cx}
theorem pe_dc{ek ev target iter:Expr}{ifs:List Expr}{scope:Scope}{pos:Pos}{N:List Str}{fr:List (Option Nat)}{wi:TI}{g:Bk->TG}{tt:Bk->TT}{tk tv:Bk->TE}(hc:X.calm=true)(S:bh X scope N fr)(hi:PI X target iter wi)
  (hin:∀z:Bk,PG (aE X scope z.cl N z.C z.fp z.s z.H) target (g z)/\pI (aE X scope z.cl N z.C z.fp z.s z.H) ifs (tt z)/\PE (aE X scope z.cl N z.C z.fp z.s z.H) ek (tk z)/\PE (aE X scope z.cl N z.C z.fp z.s z.H) ev (tv z))
  (hs:∀x,IP iter X.env x=pure x:=by intro _; rfl):PE X (.DictComp ek ev [⟨target,iter,ifs,0⟩] scope pos) (Hi fr wi g tt tk tv):=by
 intro pins s σ H Q I h;show wpAny _ _ (PJ (.DictComp ek ev [⟨target,iter,ifs,0⟩] scope pos) scope X.env (Po [⟨target,iter,ifs,0⟩] pos) newDict (Qq [⟨target,iter,ifs,0⟩]) (firstIter [⟨target,iter,ifs,0⟩] X.env)) _ _ s;refine KO (g:=⟨target,iter,ifs,0⟩) (gs:=[]) (use:=none) rfl hs (bT (S.cells I)) S.kind S.locs ?_;refine bw (hi pins s σ H _ I h) λv s1 h1=>bw h1 λitv s2 h2=>?_
 obtain⟨it,fp,tn,J,H2,e,I2,T,st2,f2,h2⟩:=h2;subst e;refine IB ?_;have hD:H2 s2.heap.objs.size=none:=I2.fresh;have I3:=I2.laid (a:=s2.heap.objs.size) (o:=.dK []) (t':=s2.toks) (λ_ _ q=>Ap _ q) (D2 _) (lu s2.heap I2.big)
 have lt2:∀b∈fp,b<s2.heap.objs.size:=λb hb=>by
  obtain⟨o,e,_⟩:=T.obj _ _ st2 b hb;exact Ch e
 have f3:∀b∈fp,gM X pins (upd H2 s2.heap.objs.size (.dK [])) b:=λb hb=>⟨by rw[aC (Db (lt2 b hb))]; exact(f2 b hb).1,(f2 b hb).2⟩
 generalize hs3:({ s2 with heap:=s2.heap.push { cls:=.type "dict",data:=.dict #[] } }:B1)=s3
 have I3:Inv X pins σ (upd H2 s2.heap.objs.size (.dK [])) s3:=by rw[<-hs3]; exact I3
 have sz3:s3.heap.objs.size=s2.heap.objs.size+1:=by rw[<-hs3]; exact HI ..
 have u23:Un (frs X.stack) [] H2 (upd H2 s2.heap.objs.size (.dK [])) s2.heap s3.heap:=by
  rw[<-hs3];exact Un.laid (λb o e=>Ap _ e) (D2 _) hD
 have ho:s3.os=s2.os:=by rw[<-hs3]
 have st3:tn 0 s3.heap:=T.keep _ _ _ st2 λb _ o e=>by rw[<-hs3]; exact Ap _ e
 refine Mx S.nocell (by intro y hy; simp at hy) (λh4 hns hsb=>?_) S.kind
 have lt3:∀b∈fp,b<s3.heap.objs.size:=λb hb=>Fk (lt2 b hb) (by rw[sz3]; exact Iq _)
 have I4:=lz (tk:=s3.toks+([]:List (Str×Value)).length) I3 S f3 lt3 hns hsb;have old4:∀b o,s3.heap.get? b=some o->h4.get? b=some o:=λb o e=>(hsb.2 b (Db (Ch e))).trans (Ap _ e)
 have st4:tn 0 h4:=T.keep _ _ _ st3 λb _ o e=>old4 b o e
 have h2:=h2 _ hD ⟨ay X.env.cells scope.names [],s3.heap.objs.size,fp,s3,upd H2 s2.heap.objs.size (.dK [])⟩;obtain⟨hg,hif,hek,hev⟩:=hin ⟨ay X.env.cells scope.names [],s3.heap.objs.size,fp,s3,upd H2 s2.heap.objs.size (.dK [])⟩;have loop:Kl (model X.prog X.w) X.A (.compLoop (.DictComp ek ev [⟨target,iter,ifs,0⟩] scope pos) 0 (.ref it) (.ref s2.heap.objs.size) (La scope (ay X.env.cells scope.names []) s3.heap.objs.size X.env))
   (Op (model X.prog X.w) X.A X.xe none (EP X pins σ Q) (.ref s2.heap.objs.size) s3.heap.objs.size) { s3 with heap:=h4,toks:=s3.toks+([]:List (Str×Value)).length }:=by
  refine fU (X:=aE X scope (ay X.env.cells scope.names []) N s3.heap.objs.size fp s3 (upd H2 s2.heap.objs.size (.dK [])))
   (compTurn_dict ..) (λ_ _ _ z=>z) rfl hc rfl hg hif (DJ hek hev) T I4 st4 (λb hb=>?_) h2 (λτ' H' s' J' q=>?_)
  ·obtain⟨f0,f1,fs,fe,fc,fp'⟩:=f3 b hb
   refine⟨f0,Db (lt3 b hb),λz=>?_,.inl hb,λx c e=>fc x c (bf scope.names [] (λ_ _ z=>by simp at z) e),λp hp=>absurd (show p∈([]:List (Addr×Obj)) from hp) (by simp)⟩
   rcases lK (I3.gk b z) with z | z
   ·exact f1 z
   ·exact fs z
  ·obtain⟨m,hn,_⟩:=J'.loc
   exact⟨m,hn,λh' sb=>⟨.ref s2.heap.objs.size,H',lA I2 f2 u23 ho (by rw[sz3]; exact Iq _) J' sb,rfl,q⟩⟩
 exact codeAny_compStart_dict loop (T.self X.A 0 _ _ _ st4 loop)
end
end L2
end
section
namespace L2
open PySem PySem.W PyProof.Rows
structure Ord(lt:Nat->Nat->Bool):Prop where
 asym:∀a b,lt a b=true->lt b a=false
 trans:∀a b c,lt b a=false->lt c b=false->lt c a=false
section
variable{lt:Nat->Nat->Bool}{N:Nat}
noncomputable abbrev gD(p:Array Nat)(i:Nat):Nat:=p.getD i 0
def DK(lt:Nat->Nat->Bool)(p:Array Nat)(m:Nat):Prop:=∀i j,i<=j->j<m->lt (gD p j) (gD p i)=false
def Pm(N:Nat)(p:Array Nat):Prop:=p.Perm (NA (Fu N))
theorem Pm.size{p:Array Nat}(h:Pm N p):p.size=N:=by
 have:=h.size_eq;simpa using this
theorem qO(O:Ord lt)(a:Nat):lt a a=false:=by
 cases q:lt a a with
 |false=>rfl
 |true=>rw[O.asym _ _ q] at q; cases q
end
end L2
end
section
namespace TS
open PySem PySem.W PyProof.Rows L2
noncomputable def pK:Bool->Keyed->Array Keyed->Nat->Nat->Nat->StateT IE Sem (Option Nat):=sortPriv% PySem.Builtin.gallop
noncomputable def yw:Array Keyed->Array Keyed->StateT IE Sem (Array Keyed):=sortPriv% PySem.Builtin.mergeLo
noncomputable def yx:Array Keyed->Array Keyed->StateT IE Sem (Array Keyed):=sortPriv% PySem.Builtin.mergeHi
noncomputable def Bc:Nat->StateT IE Sem Unit:=sortPriv% PySem.Builtin.setMinGallop
section
variable{prog:Fm}{w:World}{A:ID}{S:B1}{κ:JV}{it:Array Keyed}{lt:Nat->Nat->Bool}{N:Nat}
def xF(prog:Fm)(w:World)(A:ID)(S:B1)(κ:JV)(it:Array Keyed)(lt:Nat->Nat->Bool)(N:Nat):Prop :=
 ∀i j,i<N->j<N->∀C:Bool->B1->Prop,C (lt i j) S->wpAny (model prog w) A (Ou κ (J4 it i).1 (J4 it j).1) C (λ_ _=>False) S
abbrev W(prog:Fm)(w:World)(A:ID)(S:B1){α:Type}(m:StateT IE Sem α)(Q:α->IE->Prop)(st:IE):Prop:=wpS (model prog w) A (λ_ _=>False) S m Q st
theorem w_lt(c:xF prog w A S κ it lt N){i j:Nat}(hi:i<N)(hj:j<N){st:IE}(hk:kindOf st=κ){Q:Option Bool->IE->Prop}(h:Q (some (lt i j)) st):W prog w A S (lt' (J4 it i) (J4 it j)) Q st:=by
 show wpS _ _ _ _ _ _ _;rw[lt'_eq];refine Dx (MA ?_);rw[hk];refine Dx (N4 (L5 (K1 (c i j hi hj (λb s'=>s'=S/\b=lt i j) ⟨rfl,rfl⟩) (λb s' e=>?_) λ_ _ z=>z.elim)))
 obtain⟨rfl,rfl⟩:=e;exact⟨rfl,FR h⟩
theorem bx{xs:List Nat}{i:Nat}(hi:i<xs.length){st:IE}{Q:Keyed->IE->Prop}(h:Q (J4 it xs[i]) st):W prog w A S (elem' ((xs.map (J4 it)).toArray) i) Q st:=by
 show wpS _ _ _ _ _ _ _;rw[elem'_eq];have e:((xs.map (J4 it)).toArray)[i]? = some (J4 it xs[i]):=by simp[hi]
 rw[e];exact FR h
structure Cut(B:Nat->Bool)(n k:Nat):Prop where
 le:k<=n
 lo:∀i,i<k->B i=true
 hi:∀i,k<=i->i<n->B i=false
theorem cutB{H G:Nat->Nat->Prop}{P:Prop}(k:(∀l o,H l o->G l o)->P)(g:∀l o,H l o->G l o):P:=k g
inductive Hj{β:Type}(B:Nat->Bool)(hint n x:Nat)(c:Option β×Nat×Nat):Prop
 |mk (l o:Nat):c=(none,l,o)->B (hint+l)=true->hint+l<n->l<o->x<o->Hj B hint n x c
inductive Hl{β:Type}(B:Nat->Bool)(hint n:Nat)(c:Option β×Nat×Nat):Prop
 |mk (l o:Nat):c=(none,l,o)->B (hint+l)=true->hint+l<n->l<o->(o>=n-hint\/(o<n-hint/\B (hint+o)=false))->Hl B hint n c
inductive Ho{β:Type}(B:Nat->Bool)(hint x:Nat)(c:Option β×Nat×Nat):Prop
 |mk (l o:Nat):c=(none,l,o)->B (hint-l)=false->l<=hint->l<o->x<o->Ho B hint x c
inductive Hq{β:Type}(B:Nat->Bool)(hint:Nat)(c:Option β×Nat×Nat):Prop
 |mk (l o:Nat):c=(none,l,o)->B (hint-l)=false->l<=hint->l<o->(o>=hint+1\/(o<hint+1/\B (hint-o)=true))->Hq B hint c
inductive GN(B:Nat->Bool)(n lo hi:Nat):Prop
 |mk:lo<=hi->hi<=n->(∀i,i<lo->B i=true)->(∀i,hi<=i->i<n->B i=false)->GN B n lo hi
inductive Hr{β:Type}(B:Nat->Bool)(n x:Nat)(c:Option β×Nat×Nat):Prop
 |mk (lo hi:Nat):c=(none,lo,hi)->hi-lo<=n-x->GN B n lo hi->Hr B n x c
inductive Hs{β:Type}(B:Nat->Bool)(n:Nat)(c:Option β×Nat×Nat):Prop
 |mk (hi:Nat):c=(none,hi,hi)->Cut B n hi->Hs B n c
theorem lB{B:Nat->Bool}{n hint:Nat}(mono:∀i j,i<=j->j<n->B j=true->B i=true)(hh:hint<n){left:Bool}{key:Keyed}{xs:Array Keyed}{base:Nat}{P:IE->Prop}
  (hb:∀i,i<n->∀st,P st->∀(Q:Option Bool->IE->Prop),Q (some (B i)) st->W prog w A S (do
   let x <-elem' xs (base+i)
   if left=true then lt' x key else return (<-lt' key x).map (!·)) Q st)
  {st:IE} (hP:P st) {Q:Option Nat->IE->Prop} (h:∀k,Cut B n k->Q (some k) st):W prog w A S (pK left key xs base n hint) Q st:=by
 refine Dx (hb hint hh st hP _ ?_);refine cutB (H:=GN B n) (λkey=>by
  cases e0:B hint with
  |true=>
   show wpS _ _ _ _ _ _ _;dsimp only;rw[if_pos rfl];refine Dx (K9 (J2 (I:=λx c st'=>st=st'/\Hj B hint n x c) (Q:=λc st'=>st=st'/\Hl B hint n c) ?_ ?_ ⟨rfl,0,1,rfl,e0,hh,by lia,by lia⟩) ?_)
   ·rintro x c st' _ hx ⟨rfl,l,o,rfl,k1,k2,k3,k4⟩
    dsimp only
    by_cases hge:o>=n-hint
    ·rw[if_pos hge]; exact FR ⟨rfl,l,o,rfl,k1,k2,k3,.inl hge⟩
    ·rw[if_neg hge]
     refine Dx (hb _ (by lia) st hP _ ?_)
     cases e:B (hint+o) with
     |true=>exact FR ⟨rfl,_,_,rfl,e,by lia,by lia,by lia⟩
     |false=>exact FR ⟨rfl,l,o,rfl,k1,k2,k3,.inr ⟨by lia,e⟩⟩
   ·rintro c st' ⟨rfl,l,o,rfl,k1,k2,k3,k4⟩
    exact⟨rfl,l,o,rfl,k1,k2,k3,.inl (by lia)⟩
   ·rintro c st' ⟨rfl,l,o,rfl,k1,k2,k3,k4⟩
    obtain⟨lo,elo⟩:∃lo,lo=hint+l+1:=⟨_,rfl⟩;obtain⟨hi,ehi⟩:∃hi,hi=hint+min o (n-hint):=⟨_,rfl⟩;have l1:lo<=hi:=by lia
    have l2:hi<=n:=by lia
    have l3:∀i,i<lo->B i=true:=λi hi=>by
     exact mono i _ (by lia) k2 k1
    have l4:∀i,hi<=i->i<n->B i=false:=λi h1 h2=>by
     rcases k4 with k4 | ⟨k4,k5⟩
     ·lia
     ·cases q:B i with
      |false=>rfl
      |true=>rw[mono _ i (by lia) h2 q] at k5; cases k5
    dsimp only;rw[<-elo,<-ehi];exact key lo hi ⟨l1,l2,l3,l4⟩
  |false=>
   show wpS _ _ _ _ _ _ _;dsimp only;rw[if_neg (by simp)]
   refine Dx (K9 (J2 (I:=λx c st'=>st=st'/\Ho B hint x c) (Q:=λc st'=>st=st'/\Hq B hint c) ?_ ?_ ⟨rfl,0,1,rfl,e0,by lia,by lia,by lia⟩) ?_)
   ·rintro x c st' _ hx ⟨rfl,l,o,rfl,k1,k2,k3,k4⟩
    dsimp only
    by_cases hge:o>=hint+1
    ·rw[if_pos hge]; exact FR ⟨rfl,l,o,rfl,k1,k2,k3,.inl hge⟩
    ·rw[if_neg hge]
     refine Dx (hb _ (by lia) st hP _ ?_)
     cases e:B (hint-o) with
     |false=>exact FR ⟨rfl,_,_,rfl,e,by lia,by lia,by lia⟩
     |true=>exact FR ⟨rfl,l,o,rfl,k1,k2,k3,.inr ⟨by lia,e⟩⟩
   ·rintro c st' ⟨rfl,l,o,rfl,k1,k2,k3,k4⟩
    exact⟨rfl,l,o,rfl,k1,k2,k3,.inl (by lia)⟩
   ·rintro c st' ⟨rfl,l,o,rfl,k1,k2,k3,k4⟩
    obtain⟨lo,elo⟩:∃lo,lo=hint+1-min o (hint+1):=⟨_,rfl⟩;obtain⟨hi,ehi⟩:∃hi,hi=hint-l:=⟨_,rfl⟩;have l1:lo<=hi:=by lia
    have l2:hi<=n:=by lia
    have l3:∀i,i<lo->B i=true:=λi hi=>by
     rcases k4 with k4 | ⟨k4,k5⟩
     ·lia
     ·exact mono i _ (by lia) (by lia) k5
    have l4:∀i,hi<=i->i<n->B i=false:=λi h1 h2=>by
     cases q:B i with
     |false=>rfl
     |true=>rw[mono _ i (by lia) h2 q] at k1; cases k1
    dsimp only;rw[<-elo,<-ehi];exact key lo hi ⟨l1,l2,l3,l4⟩) ?_
 rintro lo hi ⟨l1,l2,l3,l4⟩;refine Dx (K9 (J2 (I:=λx c st''=>st=st''/\Hr B n x c) (Q:=λc st''=>st=st''/\Hs B n c) ?_ ?_ ⟨rfl,lo,hi,rfl,by lia,l1,l2,l3,l4⟩) ?_)
 ·rintro x c st'' _ hx ⟨rfl,lo,hi,rfl,l5,l1,l2,l3,l4⟩
  dsimp only
  by_cases hge:lo>=hi
  ·rw[if_pos hge]
   have:lo=hi:=by lia
   subst this;exact FR ⟨rfl,lo,rfl,l2,l3,l4⟩
  ·rw[if_neg hge]
   refine Dx (hb _ (by lia) st hP _ ?_)
   cases e:B (lo+(hi-lo) / 2) with
   |true=>exact FR ⟨rfl,_,_,rfl,by lia,by lia,l2,λi hi'=>mono i _ (by lia) (by lia) e,l4⟩
   |false=>
    refine FR ⟨rfl,_,_,rfl,by lia,by lia,by lia,l3,λi h1 h2=>?_⟩
    cases q:B i with
    |false=>rfl
    |true=>rw[mono _ i h1 h2 q] at e; cases e
 ·rintro c st'' ⟨rfl,lo,hi,rfl,l5,l1,l2,l3,l4⟩
  have:lo=hi:=by lia
  subst this;exact⟨rfl,lo,rfl,l2,l3,l4⟩
 ·rintro c st'' ⟨rfl,hi,rfl,hc⟩
  exact FR (h hi hc)
end
def Sd(lt:Nat->Nat->Bool)(l:List Nat):Prop:=l.Pairwise λx y=>lt y x=false
structure MI(lt:Nat->Nat->Bool)(a b out:List Nat)(ia ib:Nat):Prop where
 perm:out.Perm (a.take ia++b.take ib)
 srt:Sd lt out
 lea:∀o∈out,∀r∈a.drop ia,lt r o=false
 leb:∀o∈out,∀r∈b.drop ib,lt r o=false
section
variable{lt:Nat->Nat->Bool}{a b out:List Nat}{ia ib:Nat}
theorem MI.sym(m:MI lt a b out ia ib):MI lt b a out ib ia:=⟨m.perm.trans Jg,m.srt,m.leb,m.lea⟩
theorem wF(l:List Nat)(i k:Nat):l.take (i+k)=l.take i++(l.drop i).take k:=by rw[List.take_add]
theorem nq{l:List Nat}{i k:Nat}{x:Nat}(h:x∈(l.drop i).take k):x∈l.drop i:=JR h
theorem pM{l:List Nat}{i k:Nat}{x:Nat}(h:x∈l.drop (i+k)):x∈l.drop i:=by rw[<-K3] at h; exact Js h
theorem Sd.drop(h:Sd lt a)(i:Nat):Sd lt (a.drop i):=NT (List.drop_sublist i a) h
theorem Sd.take(h:Sd lt a)(i:Nat):Sd lt (a.take i):=NT (Q1 i a) h
theorem MI.iK(m:MI lt a b out ia ib)(ha:Sd lt a)(k:Nat)(h:∀x∈(a.drop ia).take k,∀r∈b.drop ib,lt r x=false):MI lt a b (out++(a.drop ia).take k) (ia+k) ib:=by
 have hs:=ha.drop ia;refine⟨?_,?_,λo ho r hr=>?_,λo ho r hr=>?_⟩
 ·rw[wF]
  have h1:(out++(a.drop ia).take k).Perm ((a.take ia++b.take ib)++(a.drop ia).take k):=m.perm.append_right _;refine h1.trans ?_;rw[Bi,Bi];exact IT _ Jg
 ·exact Fs.mpr ⟨m.srt,Sd.take hs k,λo ho r hr=>m.lea o ho r (nq hr)⟩
 ·rcases lM ho with ho | ho
  ·exact m.lea o ho r (pM hr)
  ·have h2:=hs
   unfold Sd at h2;rw[<-FX k (a.drop ia)] at h2;rw[<-K3] at hr;exact(Fs.mp h2).2.2 o ho r hr
 ·rcases lM ho with ho | ho
  ·exact m.leb o ho r hr
  ·exact h o ho r hr
theorem MI.j7(m:MI lt a b out ia ib)(hb:Sd lt b)(k:Nat)(h:∀x∈(b.drop ib).take k,∀r∈a.drop ia,lt r x=false):MI lt a b (out++(b.drop ib).take k) ia (ib+k):=(m.sym.iK hb k h).sym
theorem take_one{l:List Nat}{i:Nat}(h:i<l.length):(l.drop i).take 1=[l[i]]:=by
 rw[Iy h,List.take_succ_cons,O9]
def Res(lt:Nat->Nat->Bool)(a b res:List Nat):Prop:=Sd lt res/\res.Perm (a++b)
theorem MI.done(m:MI lt a b out ia ib)(ha:Sd lt a)(hb:Sd lt b)(h:ib=b.length\/ia=a.length):Res lt a b (out++a.drop ia++b.drop ib):=by
 refine⟨?_,?_⟩
 ·refine Fs.mpr ⟨Fs.mpr ⟨m.srt,ha.drop ia,λo ho r hr=>m.lea o ho r hr⟩,hb.drop ib,λo ho r hr=>?_⟩
  rcases lM ho with ho | ho
  ·exact m.leb o ho r hr
  ·rcases h with h | h
   ·rw[h,LF] at hr; cases hr
   ·rw[h,LF] at ho; cases ho
 ·have:(out++a.drop ia++b.drop ib).Perm ((a.take ia++b.take ib)++a.drop ia++b.drop ib):=(m.perm.append_right _).append_right _
  refine this.trans ?_;have e:a++b=(a.take ia++a.drop ia)++(b.take ib++b.drop ib):=by rw[FX,FX]
  rw[e,Bi (a.take ia),Bi (a.take ia),Bi (a.take ia)];refine IT _ ?_;rw[<-Bi (a.drop ia)];exact Jg.append_right _
theorem MI.uN(m:MI lt a b out ia ib)(ha:Sd lt a)(hb:Sd lt b)(h:∀y∈b,∀x∈a.drop ia,lt x y=false):Res lt a b (out++b.drop ib++a.drop ia):=by
 refine⟨?_,?_⟩
 ·refine Fs.mpr ⟨Fs.mpr ⟨m.srt,hb.drop ib,λo ho r hr=>m.leb o ho r hr⟩,ha.drop ia,λo ho r hr=>?_⟩
  rcases lM ho with ho | ho
  ·exact m.lea o ho r hr
  ·exact h o (Js ho) r hr
 ·have:(out++b.drop ib++a.drop ia).Perm ((a.take ia++b.take ib)++b.drop ib++a.drop ia):=(m.perm.append_right _).append_right _
  refine this.trans ?_;have e:a++b=(a.take ia++a.drop ia)++(b.take ib++b.drop ib):=by rw[FX,FX]
  rw[e,Bi (a.take ia),Bi (a.take ia),Bi (a.take ia),FX];exact IT _ Jg
end
section
variable{prog:Fm}{w:World}{A:ID}{S:B1}{κ:JV}{it:Array Keyed}{lt:Nat->Nat->Bool}{N:Nat}
theorem nY(c:xF prog w A S κ it lt N){key:Nat}(hk:key<N){xs:List Nat}(hx:∀x∈xs,x<N){base n:Nat}(hn:base+n<=xs.length)(left:Bool)(i:Nat)(hi:i<n)(st:IE)(hst:kindOf st=κ)(Q:Option Bool->IE->Prop)
  (h:Q (some (if left=true then lt (xs.getD (base+i) 0) key else !lt key (xs.getD (base+i) 0))) st):W prog w A S (do
   let x <-elem' ((xs.map (J4 it)).toArray) (base+i)
   if left=true then lt' x (J4 it key) else return (<-lt' (J4 it key) x).map (!·)) Q st:=by
 have hb:base+i<xs.length:=by lia
 have e:xs.getD (base+i) 0=xs[base+i]:=by simp[Kn,hb]
 have hxi:xs[base+i]<N:=hx _ (IV hb);rw[e] at h;refine Dx (bx hb ?_);cases left with
 |true=>
  rw[if_pos rfl];rw[if_pos rfl] at h;exact w_lt c hxi hk hst h
 |false=>
  rw[if_neg (by simp)]
  rw[if_neg (by simp)] at h
  exact Dx (w_lt c hk hxi hst (FR h))
theorem lC(O:Ord lt)(c:xF prog w A S κ it lt N){key:Nat}(hk:key<N){xs:List Nat}(hx:∀x∈xs,x<N){base n hint:Nat}(hn:base+n<=xs.length)(hs:Sd lt ((xs.drop base).take n))(hh:hint<n){st:IE}(hst:kindOf st=κ){Q:Option Nat->IE->Prop}
  (h:∀k,k<=n->(∀x∈(xs.drop base).take k,lt key x=false)->(∀x∈((xs.drop base).take n).drop k,lt key x=true)->Q (some k) st):W prog w A S (pK false (J4 it key) ((xs.map (J4 it)).toArray) base n hint) Q st:=by
 have at_:∀i,i<n->((xs.drop base).take n)[i]? = some (xs.getD (base+i) 0):=λi hi=>by
  rw[Ir hi,Kx,Bn (by lia)]
  simp[Kn,show base+i<xs.length by lia]
 have le:∀i j,i<=j->j<n->lt (xs.getD (base+j) 0) (xs.getD (base+i) 0)=false:=λi j hij hj=>by
  by_cases e:i=j
  ·subst e; exact qO O _
  ·obtain⟨h1,e1⟩:=DD.mp (at_ i (by lia))
   obtain⟨h2,e2⟩:=DD.mp (at_ j hj);have:=Ij.mp hs i j h1 h2 (by lia)
   rw[e1,e2] at this;exact this
 refine lB (B:=λi=> !lt key (xs.getD (base+i) 0)) (n:=n) (P:=λst=>kindOf st=κ) (λi j hij hj q=>?_) hh (λi hi st hst Q q=>nY c hk hx hn false i hi st hst Q (by simpa using q)) hst λk cut=>h k cut.le (λx hx' =>?_) λx hx' =>?_
 ·have q:lt key (xs.getD (base+j) 0)=false:=by simpa using q
  have:=O.trans _ _ _ (le i j hij hj) q;simpa using this
 ·obtain⟨i,hi,e⟩:=II hx'
  have hl:=hi;rw[Hb] at hl;have ek:=cut.lo i (by lia)
  have e2:=at_ i (by have:=cut.le; lia)
  have hik:i<k:=by lia
  have hin:i<n:=by have:=cut.le; lia
  have e3:((xs.drop base).take k)[i]? = some x:=by rw[Bn hi,e]
  rw[Ir hik] at e3;rw[Ir hin,e3] at e2;rw[<-Go e2] at ek;simpa using ek
 ·obtain⟨i,hi,e⟩:=II hx'
  rw[IA,Hb,IA] at hi;rw[NC] at e;have e2:=at_ (k+i) (by lia)
  rw[Bn (by rw[Hb,IA]; lia),e] at e2
  have ek:=cut.hi (k+i) (by lia) (by lia)
  rw[<-Go e2] at ek;simpa using ek
theorem lD(O:Ord lt)(c:xF prog w A S κ it lt N){key:Nat}(hk:key<N){xs:List Nat}(hx:∀x∈xs,x<N){base n hint:Nat}(hn:base+n<=xs.length)(hs:Sd lt ((xs.drop base).take n))(hh:hint<n){st:IE}(hst:kindOf st=κ){Q:Option Nat->IE->Prop}
  (h:∀k,k<=n->(∀x∈(xs.drop base).take k,lt x key=true)->(∀x∈((xs.drop base).take n).drop k,lt x key=false)->Q (some k) st):W prog w A S (pK true (J4 it key) ((xs.map (J4 it)).toArray) base n hint) Q st:=by
 have at_:∀i,i<n->((xs.drop base).take n)[i]? = some (xs.getD (base+i) 0):=λi hi=>by
  rw[Ir hi,Kx,Bn (by lia)]
  simp[Kn,show base+i<xs.length by lia]
 have le:∀i j,i<=j->j<n->lt (xs.getD (base+j) 0) (xs.getD (base+i) 0)=false:=λi j hij hj=>by
  by_cases e:i=j
  ·subst e; exact qO O _
  ·obtain⟨h1,e1⟩:=DD.mp (at_ i (by lia))
   obtain⟨h2,e2⟩:=DD.mp (at_ j hj);have:=Ij.mp hs i j h1 h2 (by lia)
   rw[e1,e2] at this;exact this
 refine lB (B:=λi=>lt (xs.getD (base+i) 0) key) (n:=n) (P:=λst=>kindOf st=κ) (λi j hij hj q=>?_) hh (λi hi st hst Q q=>nY c hk hx hn true i hi st hst Q (by simpa using q)) hst λk cut=>h k cut.le (λx hx' =>?_) λx hx' =>?_
 ·cases z:lt (xs.getD (base+i) 0) key with
  |true=>rfl
  |false=>rw[O.trans _ _ _ z (le i j hij hj)] at q; cases q
 ·obtain⟨i,hi,e⟩:=II hx'
  have hl:=hi;rw[Hb] at hl;have ek:=cut.lo i (by lia)
  have e2:=at_ i (by have:=cut.le; lia)
  have hik:i<k:=by lia
  have hin:i<n:=by have:=cut.le; lia
  have e3:((xs.drop base).take k)[i]? = some x:=by rw[Bn hi,e]
  rw[Ir hik] at e3;rw[Ir hin,e3] at e2;rw[<-Go e2] at ek;simpa using ek
 ·obtain⟨i,hi,e⟩:=II hx'
  rw[IA,Hb,IA] at hi;rw[NC] at e;have e2:=at_ (k+i) (by lia)
  rw[Bn (by rw[Hb,IA]; lia),e] at e2
  have ek:=cut.hi (k+i) (by lia) (by lia)
  rw[<-Go e2] at ek;simpa using ek
end
structure bD(st st':IE):Prop where
 kind:kindOf st'=kindOf st
 arr:arrOf st'=arrOf st
 pend:Kj st'=Kj st
 fail:Kt st'=Kt st
theorem bD.refl(st:IE):bD st st:=⟨rfl,rfl,rfl,rfl⟩
section
variable{prog:Fm}{w:World}{A:ID}{S:B1}{κ:JV}{it:Array Keyed}{lt:Nat->Nat->Bool}{N:Nat}
abbrev ar(it:Array Keyed)(l:List Nat):Array Keyed:=(l.map (J4 it)).toArray
theorem jn(l:List Nat):(ar it l).size=l.length:=by simp[ar]
theorem jo(l:List Nat)(x:Nat):(ar it l).push (J4 it x)=ar it (l++[x]):=by simp[ar]
theorem aQ(l m:List Nat):ar it l++ar it m=ar it (l++m):=by simp[ar]
theorem sX(l:List Nat)(i k:Nat):(ar it l).extract i (i+k)=ar it ((l.drop i).take k):=by
 simp[ar,Lm,LM,Ls]
theorem kJ(l:List Nat)(i:Nat):(ar it l).extract i l.length=ar it (l.drop i):=by
 simp[ar,Lm,LM,K0]
theorem uO(l:List Nat)(i j:Nat):(ar it l).extract i j=ar it ((l.drop i).take (j-i)):=by
 simp[ar,Lm,LM,Ls]
theorem fM(l:List Nat):(ar it l).reverse=ar it l.reverse:=by simp[ar]
theorem DL(x:Nat):(#[J4 it x]:Array Keyed)=ar it [x]:=rfl
theorem jq{g:Nat}{st:IE}{Q:Unit->IE->Prop}(h:∀st',bD st st'->Q () st'):W prog w A S (Bc g) Q st :=
 show wpS _ _ _ _ (modify λs=>LY (kindOf s) (arrOf s) (Kj s) g (Kt s)) _ _ from Ly (h _ ⟨rfl,rfl,rfl,rfl⟩)
theorem jr{lt:Nat->Nat->Bool}{l:List Nat}(O:Ord lt)(hs:Sd lt l){i:Nat}(h:i<l.length):∀r∈l.drop i,lt r l[i]=false:=λr hr=>by
 rw[Iy h] at hr;rcases lK hr with rfl | hr
 ·exact qO O _
 ·have h2:=hs.drop i
  unfold Sd at h2;rw[Iy h] at h2;exact(Ig.mp h2).1 r hr
inductive DM{β:Type}(lt:Nat->Nat->Bool)(a b:List Nat)(it:Array Keyed)(d:Option (Array Keyed)×β):Prop
 |mk (res:List Nat) (r:β):d=(some (ar it res),r)->Res lt a b res->DM lt a b it d
structure LK(lt:Nat->Nat->Bool)(a b o:List Nat)(ia ib n:Nat):Prop where
 m:MI lt a b o ia ib
 k1:ib<b.length
 k2:ia+1<a.length
 k3:n<ia+ib
inductive Ht(lt:Nat->Nat->Bool)(a b:List Nat)(it:Array Keyed)(n:Nat)(d:Option (Array Keyed)×Array Keyed×Nat×Nat×Nat):Prop
 |mk (o:List Nat) (ia ib mg:Nat):d=(none,ar it o,ia,ib,mg)->LK lt a b o ia ib n->Ht lt a b it n d
inductive GO(lt:Nat->Nat->Bool)(a b:List Nat)(it:Array Keyed)(n:Nat)(d:Option (Array Keyed)×Array Keyed×Nat×Nat×Nat×Nat):Prop
 |mk (o:List Nat) (ia ib ac bc:Nat):d=(none,ar it o,ia,ib,ac,bc)->LK lt a b o ia ib n->GO lt a b it n d
inductive GP(lt:Nat->Nat->Bool)(a b:List Nat)(it:Array Keyed)(n:Nat)(d:Option (Array Keyed)×Array Keyed×Nat×Nat×Nat×Nat×Nat):Prop
 |mk (o:List Nat) (ia ib mg ac bc:Nat):d=(none,ar it o,ia,ib,mg,ac,bc)->LK lt a b o ia ib n->GP lt a b it n d
theorem dF{α:Type}{x y:Nat}{t e:StateT IE Sem α}{Q:α->IE->Prop}{st:IE}(h1:x=y->W prog w A S t Q st)(h2:x≠y->W prog w A S e Q st):W prog w A S (if (x == y)=true then t else e) Q st:=by
 by_cases h:x=y
 ·rw[if_pos (by simpa using h)]; exact h1 h
 ·rw[if_neg (by simpa using h)]; exact h2 h
theorem cutN{G P:Nat->Prop}(k:∀m,(∀g,G g)->P m)(g:∀g,G g):∀m,P m:=λm=>k m g
theorem cutG{H G:Nat->List Nat->Prop}{P:List Nat->Nat->Prop}{o0:List Nat}{n0:Nat}(k:∀o,o0=o->∀n,n0=n->(∀n o,H n o->G n o)->P o n)(g:∀n o,H n o->G n o):∀o,o0=o->∀n,n0=n->P o n:=λo e n f=>k o e n f g
theorem pN(O:Ord lt)(c:xF prog w A S κ it lt N){a b:List Nat}(ha:Sd lt a)(hb:Sd lt b)(hxa:∀x∈a,x<N)(hxb:∀x∈b,x<N)(na:0<a.length)(nb:0<b.length)
  (h0:∀r∈a,lt r b[0]=false) (hl:∀y∈b,∀x∈a.drop (a.length-1),lt x y=false) {st:IE} (hst:kindOf st=κ) {Q:Array Keyed->IE->Prop} (h:∀res st',bD st st'->Res lt a b res->Q (ar it res) st') :
  W prog w A S (yw (ar it a) (ar it b)) Q st:=by
 have m0:MI lt a b [b[0]] 0 1:=by
  have z:MI lt a b [] 0 0:=⟨.refl _,.nil,λo ho=>(nomatch ho),λo ho=>(nomatch ho)⟩
  have:=z.j7 hb 1 λx hx r hr=>by
   rw[take_one nb] at hx;rw[D1] at hx;subst hx;exact h0 r (by simpa using hr)
  rw[take_one nb] at this;simpa using this
 have at1:∀{ia:Nat}(hia:ia<a.length),a[ia]<N:=λhia=>hxa _ (IV hia)
 have bt1:∀{ib:Nat}(hib:ib<b.length),b[ib]<N:=λhib=>hxb _ (IV hib)
 have last:∀{ia:Nat},ia+1=a.length->∀y∈b,∀x∈a.drop ia,lt x y=false:=λ{ia}e y hy x hx=>hl y hy x (by rw[<-e]; exact hx)
 clear h0
 show wpS _ _ _ _ _ _ _;refine Dx (N4 (Jb ⟨rfl,?_⟩));refine Dx (bx nb ?_);rw[DL];simp -zeta only[jn];refine dF (λe1=>?_) λe1=>?_
 ·simp only[kJ,aQ]
  exact FR (h _ st (bD.refl st) (m0.done ha hb (.inl e1)))
 refine dF (λe2=>?_) λe2=>?_
 ·simp only[kJ,aQ]
  exact FR (h _ st (bD.refl st) (m0.uN ha hb λy hy x hx=>hl y hy x (by rw[<-e2]; exact hx)))
 refine Dx (MA ?_);refine Dx (K9 (J2
  (I:=λx d st'=>bD st st'/\Ht lt a b it x d)
  (Q:=λd st'=>bD st st'/\DM lt a b it d) ?_ ?_ ⟨bD.refl st,[b[0]],0,1,_,rfl,m0,by lia,by lia,by lia⟩) ?_)
 rotate_left
 ·rintro d st' ⟨sm,out,ia,ib,mg,rfl,m,k1,k2,k3⟩
  lia
 ·rintro d st' ⟨sm,res,r,rfl,hr⟩
  exact FR (h res st' sm hr)
 rintro x d st' _ hx ⟨sm,out,ia,ib,mg,rfl,m,k1,k2,k3⟩;dsimp -zeta only;refine Dx (K9 (J2
  (I:=λy d st''=>st''=st'/\GO lt a b it (x+y) d)
  (Q:=λd st''=>st''=st'/\(DM lt a b it d\/GO lt a b it (x+1) d)) ?_ ?_ ⟨rfl,out,ia,ib,0,0,rfl,m,k1,k2,k3⟩) ?_)
 rotate_left
 ·rintro d st'' ⟨rfl,out,ia,ib,ac,bc,rfl,m,k1,k2,k3⟩
  exact⟨rfl,.inr ⟨out,ia,ib,ac,bc,rfl,m,k1,k2,by lia⟩⟩
 rotate_left
 ·rintro y d st'' _ hy ⟨rfl,out,ia,ib,ac,bc,rfl,m,k1,k2,k3⟩
  have k2':ia<a.length:=by lia
  simp only[kJ];refine Dx (bx k1 (Dx (bx k2' (Dx (w_lt c (bt1 k1) (at1 k2') (sm.kind.trans hst) ?_)))));cases e:lt b[ib] a[ia] with
  |true=>
   have m2:=m.j7 hb 1 λx hx r hr=>by
    rw[take_one k1,D1] at hx;subst hx;exact O.trans _ _ _ (O.asym _ _ e) (jr O ha k2' r hr)
   rw[take_one k1] at m2;dsimp only;rw[if_pos rfl];refine Dx (bx k1 ?_);rw[jo,aQ,aQ];refine dF (λe3=>?_) λe3=>?_
   ·exact FR ⟨rfl,.inl ⟨_,_,rfl,m2.done ha hb (.inl e3)⟩⟩
   ·split
    ·exact FR ⟨rfl,.inr ⟨_,_,_,_,_,rfl,m2,by lia,k2,by lia⟩⟩
    ·exact FR ⟨rfl,_,_,_,_,_,rfl,m2,by lia,k2,by lia⟩
  |false=>
   have m2:=m.iK ha 1 λx hx r hr=>by
    rw[take_one k2',D1] at hx;subst hx;exact O.trans _ _ _ e (jr O hb k1 r hr)
   rw[take_one k2'] at m2;dsimp only;rw[if_neg (by simp)]
   refine Dx (bx k2' ?_);rw[jo,aQ,aQ];refine dF (λe3=>?_) λe3=>?_
   ·exact FR ⟨rfl,.inl ⟨_,_,rfl,m2.uN ha hb (last e3)⟩⟩
   ·split
    ·exact FR ⟨rfl,.inr ⟨_,_,_,_,_,rfl,m2,k1,by lia,by lia⟩⟩
    ·exact FR ⟨rfl,_,_,_,_,_,rfl,m2,k1,by lia,by lia⟩
 rintro d st'' ⟨rfl,⟨res,r,rfl,hr⟩ | ⟨out,ia,ib,ac,bc,rfl,m,k1,k2,k3⟩⟩
 ·exact FR ⟨sm,res,_,rfl,hr⟩
 dsimp -zeta only;refine Dx (N4 (Jb ⟨rfl,?_⟩));refine Dx (K9 (J2
  (I:=λy d st2=>bD st st2/\GP lt a b it (x+1) d)
  (Q:=λd st2=>bD st st2/\(DM lt a b it d\/GP lt a b it (x+1) d)) ?_ ?_ ⟨sm,out,ia,ib,_,ac,bc,rfl,m,k1,k2,k3⟩) ?_)
 rotate_left
 ·rintro d st2 ⟨sm,out,ia,ib,mg,ac,bc,rfl,m,k1,k2,k3⟩
  exact⟨sm,.inr ⟨out,ia,ib,mg,ac,bc,rfl,m,k1,k2,k3⟩⟩
 ·rintro d st2 ⟨sm,⟨res,r,rfl,hr⟩ | ⟨out,ia,ib,mg,ac,bc,rfl,m,k1,k2,k3⟩⟩
  ·exact FR ⟨sm,res,_,rfl,hr⟩
  ·dsimp only
   refine Dx (jq λst3 sm3=>?_)
   exact FR ⟨⟨sm3.kind.trans sm.kind,sm3.arr.trans sm.arr,sm3.pend.trans sm.pend,sm3.fail.trans sm.fail⟩,out,ia,ib,_,rfl,m,k1,k2,k3⟩
 rintro y d st2 _ hy ⟨sm2,out,ia,ib,mg,ac,bc,rfl,m,k1,k2,k3⟩
 clear sm hy
 have k2':ia<a.length:=by lia
 have all:∀{l:List Nat}{i:Nat},(l.drop i).take (l.length-i)=l.drop i:=λ{l i}=>K0 (by rw[IA]; exact D2 _)
 have sa:Sd lt ((a.drop ia).take (a.length-ia)):=by rw[all]; exact ha.drop ia
 simp only[kJ]
 revert mg
 refine cutN (λmg key=>by
  rcases NJ 1 mg with hmg | hmg
  rotate_left
  ·rw[if_neg (N7.mpr hmg)]; exact key mg
  ·rw[if_pos hmg]; exact key (mg-1)) λg=>?_
 refine Dx (jq λst3 sm3=>?_)
 have sm:bD st st3:=⟨sm3.kind.trans sm2.kind,sm3.arr.trans sm2.arr,sm3.pend.trans sm2.pend,sm3.fail.trans sm2.fail⟩;refine Dx (bx k1 ?_);refine Dx (lC O c (bt1 k1) hxa (by lia) sa (by lia) (sm.kind.trans hst) λk hk hlo hhi=>?_)
 rw[all] at hhi;have mA:=m.iK ha k λx hx r hr=>O.trans _ _ _ (hlo x hx) (jr O hb k1 r hr)
 dsimp only;generalize eo:out=ox;generalize en:ia=nx
 revert ox nx
 refine cutG (H:=λn o=>n=ia+k/\MI lt a b o (ia+k) ib/\ia+k+1<a.length) (λox eo nx en key=>by
  rcases L0 k with hk0 | hk0
  ·rw[if_neg (by lia)]
   exact key nx ox ⟨by lia,by rw[hk0,<-eo]; exact m,by lia⟩
  ·subst eo en
   rw[if_pos hk0,sX,aQ,aQ,aQ];refine dF (λe3=>?_) λe3=>?_
   ·exact FR ⟨sm,.inl ⟨_,_,rfl,mA.uN ha hb (last e3)⟩⟩
   rw[aQ,aQ];refine dF (λe4=>?_) λe4=>?_
   ·exact FR ⟨sm,.inl ⟨_,_,rfl,mA.done ha hb (.inr e4)⟩⟩
   exact key _ _ ⟨rfl,mA,by lia⟩) ?_
 clear mA m
 rintro n out ⟨rfl,mA,k4⟩;have mB:=mA.j7 hb 1 λx hx r hr=>by
  rw[take_one k1,D1] at hx;subst hx;rw[<-K3] at hr;exact O.asym _ _ (hhi r hr)
 rw[take_one k1] at mB;have k5:ia+k<a.length:=by lia
 refine Dx (bx k1 ?_);rw[jo,aQ,aQ];refine dF (λe5=>?_) λe5=>?_
 ·exact FR ⟨sm,.inl ⟨_,_,rfl,mB.done ha hb (.inl e5)⟩⟩
 refine Dx (bx k5 ?_);refine Dx (lD O c (at1 k5) hxb (by lia) (by rw[all]; exact hb.drop (ib+1)) (by lia) (sm.kind.trans hst) λj hj jlo jhi=>?_)
 rw[all] at jhi;have mC:=mB.j7 hb j λx hx r hr=>O.trans _ _ _ (O.asym _ _ (jlo x hx)) (jr O ha k5 r hr)
 dsimp only;generalize eo:out++[b[ib]]=ox;generalize en:ib+1=nx
 revert ox nx
 refine cutG (H:=λn o=>n=ib+1+j/\MI lt a b o (ia+k) (ib+1+j)/\ib+1+j<b.length) (λox eo nx en key=>by
  rcases L0 j with hj0 | hj0
  ·rw[if_neg (by lia)]
   exact key nx ox ⟨by lia,by rw[hj0,<-eo]; exact mB,by lia⟩
  ·subst eo en
   rw[if_pos hj0,sX,aQ,aQ,aQ];refine dF (λe6=>?_) λe6=>?_
   ·exact FR ⟨sm,.inl ⟨_,_,rfl,mC.done ha hb (.inl e6)⟩⟩
   exact key _ _ ⟨rfl,mC,by lia⟩) ?_
 clear mC mB
 rintro n out ⟨rfl,mC,j4⟩;have mD:=mC.iK ha 1 λx hx r hr=>by
  rw[take_one k5,D1] at hx;subst hx;rw[<-K3] at hr;exact jhi r hr
 rw[take_one k5] at mD;refine Dx (bx k5 ?_);rw[jo,aQ,aQ];refine dF (λe7=>?_) λe7=>?_
 ·exact FR ⟨sm,.inl ⟨_,_,rfl,mD.uN ha hb (last e7)⟩⟩
 split
 ·exact FR ⟨sm,.inr ⟨_,_,_,_,_,_,rfl,mD,by lia,by lia,by lia⟩⟩
 ·exact FR ⟨sm,_,_,_,_,_,_,rfl,mD,by lia,by lia,by lia⟩
end
structure MH(lt:Nat->Nat->Bool)(a b o:List Nat)(na nb:Nat):Prop where
 perm:o.Perm (a.drop na++b.drop nb)
 srt:Sd lt o
 lea:∀x∈o,∀r∈a.take na,lt x r=false
 leb:∀x∈o,∀r∈b.take nb,lt x r=false
section
variable{lt:Nat->Nat->Bool}{a b o:List Nat}{na nb:Nat}
theorem MH.sym(m:MH lt a b o na nb):MH lt b a o nb na:=⟨m.perm.trans Jg,m.srt,m.leb,m.lea⟩
theorem lE(l:List Nat){i n:Nat}(h:i<=n):l.drop i=(l.take n).drop i++l.drop n:=by
 have e:l.drop n=(l.drop i).drop (n-i):=by rw[K3,Nat.add_sub_cancel' h]
 have e2:(l.take n).drop i=(l.drop i).take (n-i):=by rw[Qi]
 rw[e,e2,FX]
theorem MH.iK(m:MH lt a b o na nb)(ha:Sd lt a){i:Nat}(hi:i<=na)(hn:na<=a.length)(h:∀x∈(a.take na).drop i,∀r∈b.take nb,lt x r=false):MH lt a b ((a.take na).drop i++o) i nb:=by
 have hs:=ha.take na;have es:(a.take na).take i=a.take i:=by rw[List.take_take,Nz hi]
 refine⟨?_,?_,λx hx r hr=>?_,λx hx r hr=>?_⟩
 ·rw[lE a hi,Bi]
  exact IT _ m.perm
 ·exact Fs.mpr ⟨Sd.drop hs i,m.srt,λx hx y hy=>m.lea y hy x (Js hx)⟩
 ·rcases lM hx with hx | hx
  ·have h2:=hs
   unfold Sd at h2;rw[<-FX i (a.take na),es] at h2;exact(Fs.mp h2).2.2 r hr x hx
  ·refine m.lea x hx r ?_
   rw[<-es] at hr;exact JR hr
 ·rcases lM hx with hx | hx
  ·exact h x hx r hr
  ·exact m.leb x hx r hr
theorem MH.j7(m:MH lt a b o na nb)(hb:Sd lt b){i:Nat}(hi:i<=nb)(hn:nb<=b.length)(h:∀x∈(b.take nb).drop i,∀r∈a.take na,lt x r=false):MH lt a b ((b.take nb).drop i++o) na i:=(m.sym.iK hb hi hn h).sym
theorem drop_one{l:List Nat}{n:Nat}(h:n<l.length):(l.take (n+1)).drop n=[l[n]]:=by
 rw[Qg,LN (by rw[Hb]; lia),List.drop_of_length_le (by rw[Hb]; lia),Bn h]; rfl
theorem MH.done(m:MH lt a b o na nb)(ha:Sd lt a)(hb:Sd lt b)(h:na=0\/nb=0):Res lt a b (a.take na++b.take nb++o):=by
 refine⟨?_,?_⟩
 ·refine Fs.mpr ⟨Fs.mpr ⟨ha.take na,hb.take nb,λx hx y hy=>?_⟩,m.srt,λx hx y hy=>?_⟩
  ·rcases h with h | h
   ·rw[h] at hx; simp at hx
   ·rw[h] at hy; simp at hy
  ·rcases lM hx with hx | hx
   ·exact m.lea y hy x hx
   ·exact m.leb y hy x hx
 ·have:(a.take na++b.take nb++o).Perm (a.take na++b.take nb++(a.drop na++b.drop nb)):=IT _ m.perm
  refine this.trans ?_;have e:a++b=(a.take na++a.drop na)++(b.take nb++b.drop nb):=by rw[FX,FX]
  rw[e,Bi,Bi];refine IT _ ?_;rw[<-Bi,<-Bi];exact Jg.append_right _
theorem MH.pO(m:MH lt a b o na nb)(ha:Sd lt a)(hb:Sd lt b)(h:∀x∈b.take nb,∀r∈a,lt r x=false):Res lt a b (b.take nb++a.take na++o):=by
 refine⟨?_,?_⟩
 ·refine Fs.mpr ⟨Fs.mpr ⟨hb.take nb,ha.take na,λx hx y hy=>h x hx y (JR hy)⟩,m.srt,λx hx y hy=>?_⟩
  rcases lM hx with hx | hx
  ·exact m.leb y hy x hx
  ·exact m.lea y hy x hx
 ·have:(b.take nb++a.take na++o).Perm (b.take nb++a.take na++(a.drop na++b.drop nb)):=IT _ m.perm
  refine this.trans ?_;rw[Bi,<-Bi (a.take na),FX];have e:a++b=a++(b.take nb++b.drop nb):=by rw[FX]
  rw[e,<-Bi,<-Bi];exact Jg.append_right _
end
theorem bU{l:List Nat}{n:Nat}(h0:0<n)(h:n<=l.length):(l.take n).drop (n-1)=[l[n-1]'(by lia)]:=by
 obtain⟨m,rfl⟩:∃m,n=m+1:=⟨n-1,by lia⟩
 exact drop_one (by lia)
theorem jt{lt:Nat->Nat->Bool}{l:List Nat}(O:Ord lt)(hs:Sd lt l){n:Nat}(h0:0<n)(h:n<=l.length):∀r∈l.take n,lt (l[n-1]'(by lia)) r=false:=λr hr=>by
 have h2:=hs.take n;unfold Sd at h2;rw[<-FX (n-1) (l.take n),bU h0 h] at h2 hr;rcases lM hr with hr | hr
 ·exact(Fs.mp h2).2.2 r hr _ lS
 ·rw[D1] at hr; subst hr; exact qO O _
structure HK(lt:Nat->Nat->Bool)(a b o:List Nat)(na nb n:Nat):Prop where
 m:MH lt a b o na nb
 k1:0<na
 k1':na<=a.length
 k2:1<nb
 k2':nb<=b.length
 k3:n+na+nb<a.length+b.length
inductive Hu(lt:Nat->Nat->Bool)(a b:List Nat)(it:Array Keyed)(n:Nat)(d:Option (Array Keyed)×Nat×Nat×Array Keyed×Nat):Prop
 |mk (na nb:Nat) (o:List Nat) (mg:Nat):d=(none,na,nb,ar it o.reverse,mg)->HK lt a b o na nb n->Hu lt a b it n d
inductive GQ(lt:Nat->Nat->Bool)(a b:List Nat)(it:Array Keyed)(n:Nat)(d:Option (Array Keyed)×Nat×Nat×Array Keyed×Nat×Nat):Prop
 |mk (na nb:Nat) (o:List Nat) (ac bc:Nat):d=(none,na,nb,ar it o.reverse,ac,bc)->HK lt a b o na nb n->GQ lt a b it n d
inductive GR(lt:Nat->Nat->Bool)(a b:List Nat)(it:Array Keyed)(n:Nat)(d:Option (Array Keyed)×Nat×Nat×Array Keyed×Nat×Nat×Nat):Prop
 |mk (na nb:Nat) (o:List Nat) (mg ac bc:Nat):d=(none,na,nb,ar it o.reverse,mg,ac,bc)->HK lt a b o na nb n->GR lt a b it n d
section
variable{prog:Fm}{w:World}{A:ID}{S:B1}{κ:JV}{it:Array Keyed}{lt:Nat->Nat->Bool}{N:Nat}
theorem pP(l:List Nat)(i n:Nat):(ar it l).extract i n=ar it ((l.take n).drop i):=by rw[uO,Qi]
theorem ju(o:List Nat)(x:Nat):(ar it o.reverse).push (J4 it x)=ar it ([x]++o).reverse:=by rw[jo]; simp
theorem uP(o g:List Nat):ar it o.reverse++ar it g.reverse=ar it (g++o).reverse:=by rw[aQ,List.reverse_append]
theorem ar_dd(l m:List Nat):ar it (l.drop 0)++ar it (m.drop 0)=ar it (l.drop 0++m.drop 0):=aQ _ _
theorem pQ(O:Ord lt)(c:xF prog w A S κ it lt N){a b:List Nat}(ha:Sd lt a)(hb:Sd lt b)(hxa:∀x∈a,x<N)(hxb:∀x∈b,x<N)(na0:0<a.length)(nb0:0<b.length)
  (h0:∀r∈a,lt r b[0]=false) (hl:∀y∈b,∀x∈a.drop (a.length-1),lt x y=false) {st:IE} (hst:kindOf st=κ) {Q:Array Keyed->IE->Prop} (h:∀res st',bD st st'->Res lt a b res->Q (ar it res) st') :
  W prog w A S (yx (ar it a) (ar it b)) Q st:=by
 have la:a.length-1<a.length:=by lia
 have m0:MH lt a b [a[a.length-1]] (a.length-1) b.length:=by
  have z:MH lt a b [] a.length b.length:=⟨by simp,.nil,λo ho=>(nomatch ho),λo ho=>(nomatch ho)⟩
  have:=z.iK ha (i:=a.length-1) (by lia) (D2 _) λx hx r hr=>by
   rw[Jm] at hx;exact hl r (JR hr) x hx
  rw[bU na0 (D2 _)] at this;exact this
 have first:∀{nb:Nat},nb=1->∀x∈b.take nb,∀r∈a,lt r x=false:=λ{nb}e x hx r hr=>by
  subst e;have:x=b[0]:=by
   obtain⟨y,ys,rfl⟩:∃y ys,b=y::ys:=by cases b with | nil=>simp at nb0 | cons y ys=>exact⟨_,_,rfl⟩
   simpa using hx
  subst this;exact h0 r hr
 have at1:∀{i:Nat}(hi:i<a.length),a[i]<N:=λhi=>hxa _ (IV hi)
 have bt1:∀{i:Nat}(hi:i<b.length),b[i]<N:=λhi=>hxb _ (IV hi)
 clear hl h0
 show wpS _ _ _ _ _ _ _;refine Dx (N4 (Jb ⟨rfl,?_⟩));simp -zeta only[jn];refine Dx (bx la ?_);rw[show (#[J4 it a[a.length-1]]:Array Keyed)=ar it [a[a.length-1]].reverse from rfl]
 refine dF (λe1=>?_) λe1=>?_
 ·simp only[pP,fM,aQ,JA]
  exact FR (h _ st (bD.refl st) (m0.done ha hb (.inl e1)))
 refine dF (λe2=>?_) λe2=>?_
 ·simp only[pP,fM,aQ,JA]
  exact FR (h _ st (bD.refl st) (m0.pO ha hb (first e2)))
 refine Dx (MA ?_);refine Dx (K9 (J2
  (I:=λx d st'=>bD st st'/\Hu lt a b it x d)
  (Q:=λd st'=>bD st st'/\DM lt a b it d) ?_ ?_ ⟨bD.refl st,_,_,[a[a.length-1]],_,rfl,m0,by lia,by lia,by lia,by lia,by lia⟩) ?_)
 rotate_left
 ·rintro d st' ⟨sm,na,nb,o,mg,rfl,m,k1,k1',k2,k2',k3⟩
  lia
 ·rintro d st' ⟨sm,res,r,rfl,hr⟩
  exact FR (h res st' sm hr)
 rintro x d st' _ hx ⟨sm,na,nb,o,mg,rfl,m,k1,k1',k2,k2',k3⟩;dsimp -zeta only;refine Dx (K9 (J2
  (I:=λy d st''=>st''=st'/\GQ lt a b it (x+y) d)
  (Q:=λd st''=>st''=st'/\(DM lt a b it d\/GQ lt a b it (x+1) d)) ?_ ?_ ⟨rfl,na,nb,o,0,0,rfl,m,k1,k1',k2,k2',k3⟩) ?_)
 rotate_left
 ·rintro d st'' ⟨rfl,na,nb,o,ac,bc,rfl,m,k1,k1',k2,k2',k3⟩
  exact⟨rfl,.inr ⟨na,nb,o,ac,bc,rfl,m,k1,k1',k2,k2',by lia⟩⟩
 rotate_left
 ·rintro y d st'' _ hy ⟨rfl,na,nb,o,ac,bc,rfl,m,k1,k1',k2,k2',k3⟩
  have pa:na-1<a.length:=by lia
  have pb:nb-1<b.length:=by lia
  simp only[pP,fM,aQ,JA];refine Dx (bx pb (Dx (bx pa (Dx (w_lt c (bt1 pb) (at1 pa) (sm.kind.trans hst) ?_)))));cases e:lt b[nb-1] a[na-1] with
  |true=>
   have m2:=m.iK ha (i:=na-1) (by lia) k1' λx hx r hr=>by
    rw[bU k1 k1',D1] at hx;subst hx;exact O.trans _ _ _ (jt O hb (by lia) k2' r hr) (O.asym _ _ e)
   rw[bU k1 k1'] at m2;dsimp only;rw[if_pos rfl];refine Dx (bx pa ?_);rw[ju,fM,JA,aQ];refine dF (λe3=>?_) λe3=>?_
   ·exact FR ⟨rfl,.inl ⟨_,_,rfl,m2.done ha hb (.inl e3)⟩⟩
   ·split
    ·exact FR ⟨rfl,.inr ⟨_,_,_,_,_,rfl,m2,by lia,by lia,k2,k2',by lia⟩⟩
    ·exact FR ⟨rfl,_,_,_,_,_,rfl,m2,by lia,by lia,k2,k2',by lia⟩
  |false=>
   have m2:=m.j7 hb (i:=nb-1) (by lia) k2' λx hx r hr=>by
    rw[bU (by lia) k2',D1] at hx
    subst hx;exact O.trans _ _ _ (jt O ha k1 k1' r hr) e
   rw[bU (by lia) k2'] at m2
   dsimp only;rw[if_neg (by simp)]
   refine Dx (bx pb ?_);rw[ju,fM,JA,aQ];refine dF (λe3=>?_) λe3=>?_
   ·exact FR ⟨rfl,.inl ⟨_,_,rfl,m2.pO ha hb (first e3)⟩⟩
   ·split
    ·exact FR ⟨rfl,.inr ⟨_,_,_,_,_,rfl,m2,k1,k1',by lia,by lia,by lia⟩⟩
    ·exact FR ⟨rfl,_,_,_,_,_,rfl,m2,k1,k1',by lia,by lia,by lia⟩
 rintro d st'' ⟨rfl,⟨res,r,rfl,hr⟩ | ⟨na,nb,o,ac,bc,rfl,m,k1,k1',k2,k2',k3⟩⟩
 ·exact FR ⟨sm,res,_,rfl,hr⟩
 dsimp -zeta only;refine Dx (N4 (Jb ⟨rfl,?_⟩));refine Dx (K9 (J2
  (I:=λy d st2=>bD st st2/\GR lt a b it (x+1) d)
  (Q:=λd st2=>bD st st2/\(DM lt a b it d\/GR lt a b it (x+1) d)) ?_ ?_ ⟨sm,na,nb,o,_,ac,bc,rfl,m,k1,k1',k2,k2',k3⟩) ?_)
 rotate_left
 ·rintro d st2 ⟨sm,na,nb,o,mg,ac,bc,rfl,q⟩
  exact⟨sm,.inr ⟨na,nb,o,mg,ac,bc,rfl,q⟩⟩
 ·rintro d st2 ⟨sm,⟨res,r,rfl,hr⟩ | ⟨na,nb,o,mg,ac,bc,rfl,q⟩⟩
  ·exact FR ⟨sm,res,_,rfl,hr⟩
  ·dsimp only
   refine Dx (jq λst3 sm3=>?_)
   exact FR ⟨⟨sm3.kind.trans sm.kind,sm3.arr.trans sm.arr,sm3.pend.trans sm.pend,sm3.fail.trans sm.fail⟩,na,nb,o,_,rfl,q⟩
 rintro y d st2 _ hy ⟨sm2,na,nb,o,mg,ac,bc,rfl,m,k1,k1',k2,k2',k3⟩
 clear sm hy
 have pa:na-1<a.length:=by lia
 have pb:nb-1<b.length:=by lia
 simp only[pP,fM,ar_dd]
 revert mg
 refine cutN (λmg key=>by
  rcases NJ 1 mg with hmg | hmg
  rotate_left
  ·rw[if_neg (N7.mpr hmg)]; exact key mg
  ·rw[if_pos hmg]; exact key (mg-1)) λg=>?_
 refine Dx (jq λst3 sm3=>?_)
 have sm:bD st st3:=⟨sm3.kind.trans sm2.kind,sm3.arr.trans sm2.arr,sm3.pend.trans sm2.pend,sm3.fail.trans sm2.fail⟩;refine Dx (bx pb ?_);refine Dx (lC O c (bt1 pb) hxa (by lia) (by rw[KN]; exact ha.take na) (by lia) (sm.kind.trans hst) λi hi hlo hhi=>?_)
 rw[KN] at hlo hhi;have mA:=m.iK ha hi k1' λx hx r hr=>O.trans _ _ _ (jt O hb (by lia) k2' r hr) (O.asym _ _ (hhi x hx))
 dsimp only;generalize hk:na-i=k;generalize eo:o=ox;generalize en:na=nx
 revert ox nx
 refine cutG (H:=λn o'=>n=i/\MH lt a b o' i nb/\0<i) (λox eo nx en key=>by
  rcases L0 k with hk0 | hk0
  ·rw[if_neg (by lia)]
   have e:na=i:=by lia
   exact key nx ox ⟨en.symm.trans e,eo▸e▸m,e▸k1⟩
  ·subst eo en
   rw[if_pos hk0,uP,fM,JA,aQ];refine dF (λe3=>?_) λe3=>?_
   ·exact FR ⟨sm,.inl ⟨_,_,rfl,mA.done ha hb (.inl e3)⟩⟩
   exact key i _ ⟨rfl,mA,by lia⟩) ?_
 clear mA m
 rintro n o ⟨rfl,mA,i0⟩;have mB:=mA.j7 hb (i:=nb-1) (by lia) k2' λx hx r hr=>by
  rw[bU (by lia) k2',D1] at hx
  subst hx;exact hlo r hr
 rw[bU (by lia) k2'] at mB
 refine Dx (bx pb ?_);rw[ju,fM,JA,aQ];refine dF (λe5=>?_) λe5=>?_
 ·exact FR ⟨sm,.inl ⟨_,_,rfl,mB.pO ha hb (first e5)⟩⟩
 have pi:n-1<a.length:=by lia
 refine Dx (bx pi ?_);refine Dx (lD O c (at1 pi) hxb (by lia) (by rw[KN]; exact hb.take (nb-1)) (by lia) (sm.kind.trans hst) λj hj jlo jhi=>?_)
 rw[KN] at jlo jhi;have mC:=mB.j7 hb hj (by lia) λx hx r hr=>O.trans _ _ _ (jt O ha (by lia) (by lia) r hr) (jhi x hx)
 dsimp only;generalize hkj:nb-1-j=kj;generalize eo:[b[nb-1]]++o=ox;generalize en:nb-1=nx
 revert ox nx
 refine cutG (H:=λm o'=>m=j/\MH lt a b o' n j/\1<j) (λox eo nx en key=>by
  rcases L0 kj with hj0 | hj0
  ·rw[if_neg (by lia)]
   have e:nb-1=j:=by lia
   exact key nx ox ⟨en.symm.trans e,eo▸e▸mB,by lia⟩
  ·subst eo en
   rw[if_pos hj0,uP,fM,JA,aQ];refine dF (λe6=>?_) λe6=>?_
   ·exact FR ⟨sm,.inl ⟨_,_,rfl,mC.pO ha hb (first e6)⟩⟩
   rw[aQ];refine dF (λe7=>?_) λe7=>?_
   ·exact FR ⟨sm,.inl ⟨_,_,rfl,mC.done ha hb (.inr e7)⟩⟩
   exact key j _ ⟨rfl,mC,by lia⟩) ?_
 clear mC mB
 rintro n2 o ⟨rfl,mC,j1⟩;have mD:=mC.iK ha (i:=n-1) (by lia) (by lia) λx hx r hr=>by
  rw[bU (by lia) (by lia),D1] at hx
  subst hx;exact O.asym _ _ (jlo r hr)
 rw[bU (by lia) (by lia)] at mD
 refine Dx (bx pi ?_);rw[ju,fM,JA,aQ];refine dF (λe8=>?_) λe8=>?_
 ·exact FR ⟨sm,.inl ⟨_,_,rfl,mD.done ha hb (.inl e8)⟩⟩
 split
 ·exact FR ⟨sm,.inr ⟨_,_,_,_,_,_,rfl,mD,by lia,by lia,by lia,by lia,by lia⟩⟩
 ·exact FR ⟨sm,_,_,_,_,_,_,rfl,mD,by lia,by lia,by lia,by lia,by lia⟩
end
section
variable{prog:Fm}{w:World}{A:ID}{S:B1}{κ:JV}{it:Array Keyed}{lt:Nat->Nat->Bool}{N:Nat}
structure St(κ:JV)(it:Array Keyed)(p:List Nat)(pend:Array (Nat×Nat×Nat))(st:IE):Prop where
 kind:kindOf st=κ
 arr:arrOf st=ar it p
 pend:Kj st=pend
 fail:Kt st=none
noncomputable abbrev g(V:List Nat)(i:Nat):Nat:=V.getD i 0
theorem wG{V:List Nat}{i:Nat}(h:i<V.length):g V i=V[i]:=by simp[g,Kn,h]
theorem jN(c:xF prog w A S κ it lt N){U V:List Nat}(hN:∀x∈V,x<N){pend:Array (Nat×Nat×Nat)}{st:IE}(s:St κ it (U++V) pend st){lo x y i j:Nat}(hU:U.length=lo)(ex:x=lo+i)(ey:y=lo+j)(hi:i<V.length)(hj:j<V.length){Q:Option Bool->IE->Prop}
  (h:Q (some (lt (g V i) (g V j))) st):W prog w A S (ltAt' x y) Q st:=by
 subst ex; subst ey; subst hU;show wpS _ _ _ _ _ _ _;rw[ltAt'_eq];refine Dx (MA ?_);rw[s.arr];have e1:(U++V)[U.length+i]'(by simp; lia)=V[i]:=by simp
 have e2:(U++V)[U.length+j]'(by simp; lia)=V[j]:=by simp
 rw[wG hi,wG hj] at h;refine Dx (bx (by simp; lia) (Dx (bx (by simp; lia) ?_)))
 rw[e1,e2];exact w_lt c (hN _ (IV hi)) (hN _ (IV hj)) s.kind h
noncomputable def iY(V:List Nat)(i j:Nat):List Nat:=V.take i++((V.take j).drop i).reverse++V.drop j
theorem fV(V:List Nat){i j:Nat}(h:i<=j):(iY V i j).Perm V:=by
 have e:V=V.take i++(V.take j).drop i++V.drop j:=by
  have:=lE V h;rw[Bi,<-this,FX]
 unfold iY
 conv=>rhs; rw[e]
 exact(IT _ (List.reverse_perm _)).append_right _
theorem yy(V:List Nat){i j:Nat}(h:i<=j):(iY V i j).length=V.length:=(fV V h).length_eq
theorem gU{V:List Nat}{i j k:Nat}(hij:i<=j)(hj:j<=V.length):g (iY V i j) k=if i<=k/\k<j then g V (i+j-1-k) else g V k:=by
 unfold g iY;rw[Ha,Ha,Ha];have l1:(V.take i).length=i:=by rw[Hb]; lia
 have l2:((V.take j).drop i).reverse.length=j-i:=by rw[List.length_reverse,IA,Hb]; lia
 by_cases h1:k<i
 ·rw[if_neg (by lia),Bi,He (by lia),Ir h1]
 ·by_cases h2:k<j
  ·rw[if_pos ⟨by lia,h2⟩,Bi,IH (by lia),He (by lia),l1,List.getElem?_reverse (by rw[IA,Hb]; lia)]
   rw[Kx,IA,Hb,Ir (by lia)]
   congr 2
   lia
  ·rw[if_neg (by lia),IH (by rw[FB]; lia),FB,l1,l2,Kx]
   congr 2
   lia
theorem wH(U V:List Nat){i j:Nat}(hij:i<=j)(hj:j<=V.length):mirror (ar it (U++V)) (U.length+i) (U.length+j) ((U.length+j-(U.length+i)) / 2)=ar it (U++iY V i j):=by
 apply PZ;intro k;rw[getElem?_mirror_all (by rw[jn,FB]; lia)]
 have get:∀(l:List Nat)(k:Nat),(ar it l)[k]? = (l[k]?).map (J4 it):=λl k=>by simp[ar]
 rw[get,get,get]
 by_cases hk:k<U.length
 ·rw[if_neg (by lia),He hk,He hk]
 ·obtain⟨m,rfl⟩:∃m,k=U.length+m:=⟨k-U.length,by lia⟩
  have gr:=gU (k:=m) hij hj;unfold g at gr;rw[Ha,Ha,Ha] at gr;have hl:=yy V hij;have hR:(U++iY V i j)[U.length+m]? = (iY V i j)[m]? := by rw[IH (by lia),L4]
  rw[hR]
  by_cases hm:i<=m/\m<j
  ·rw[if_pos hm] at gr
   have hL:(U++V)[U.length+i+(U.length+j)-1-(U.length+m)]? = V[i+j-1-m]? := by
    rw[IH (by lia),show U.length+i+(U.length+j)-1-(U.length+m)-U.length=i+j-1-m by lia]
   rw[if_pos (by lia),hL]
   have a1:i+j-1-m<V.length:=by lia
   have a2:m<(iY V i j).length:=by lia
   rw[Bn a1,Bn a2] at gr ⊢;simp at gr;rw[gr]
  ·rw[if_neg hm] at gr
   have hL:(U++V)[U.length+m]? = V[m]? := by rw[IH (by lia),L4]
   rw[if_neg (by lia),hL]
   by_cases a1:m<V.length
   ·have a2:m<(iY V i j).length:=by lia
    rw[Bn a1,Bn a2] at gr ⊢;simp at gr;rw[gr]
   ·rw[K4 (by lia),K4 (by lia)]
theorem w_rev{U V:List Nat}{pend:Array (Nat×Nat×Nat)}{st:IE}(s:St κ it (U++V) pend st){lo x y i j:Nat}(hU:U.length=lo)(ex:x=lo+i)(ey:y=lo+j)(hij:i<=j)(hj:j<=V.length){Q:Unit->IE->Prop}
  (h:∀st',St κ it (U++iY V i j) pend st'->Q () st'):W prog w A S (reverseSlice' x y) Q st:=by
 subst ex; subst ey; subst hU;show wpS _ _ _ _ _ _ _;rw[reverseSlice'_eq];refine Ly (h _ ⟨s.kind,?_,s.pend,s.fail⟩);show mirror (arrOf st) _ _ _=_;rw[s.arr];exact wH U V hij hj
def sF(lt:Nat->Nat->Bool)(V:List Nat)(m:Nat):Prop:=∀i j,i<=j->j<m->lt (g V j) (g V i)=false
def sG(lt:Nat->Nat->Bool)(V:List Nat)(m:Nat):Prop:=∀i j,i<=j->j<m->lt (g V i) (g V j)=false
def Gu(lt:Nat->Nat->Bool)(V:List Nat)(a b:Nat):Prop:=∀i j,a<=i->i<b->a<=j->j<b->lt (g V i) (g V j)=false
theorem sF.sd{V:List Nat}{m:Nat}(h:sF lt V m)(hm:m<=V.length):Sd lt (V.take m):=by
 refine Ij.mpr λi j hi hj hij=>?_
 rw[Hb] at hi hj;have:=h i j (by lia) (by lia)
 rw[wG (by lia),wG (by lia)] at this
 rw[Ke,Ke];exact this
theorem Sd.HJ(O:Ord lt){V:List Nat}{m:Nat}(h:Sd lt (V.take m))(hm:m<=V.length):sF lt V m:=λi j hij hj=>by
 by_cases e:i=j
 ·subst e; exact qO O _
 ·have:=Ij.mp h i j (by rw[Hb]; lia) (by rw[Hb]; lia) (by lia)
  rw[Ke,Ke] at this;rw[wG (by lia),wG (by lia)]
  exact this
theorem sF.step(O:Ord lt){V:List Nat}{n:Nat}(h1:1<=n)(h:sF lt V n)(e:lt (g V n) (g V (n-1))=false):sF lt V (n+1):=λi j hij hj=>by
 by_cases hjn:j=n
 ·subst hjn
  by_cases hin:i=j
  ·subst hin; exact qO O _
  ·exact O.trans _ _ _ (h i (j-1) (by lia) (by lia)) e
 ·exact h i j hij (by lia)
theorem sG.step(O:Ord lt){V:List Nat}{n:Nat}(h1:1<=n)(h:sG lt V n)(e:lt (g V (n-1)) (g V n)=false):sG lt V (n+1):=λi j hij hj=>by
 by_cases hjn:j=n
 ·subst hjn
  by_cases hin:i=j
  ·subst hin; exact qO O _
  ·exact O.trans _ _ _ e (h i (j-1) (by lia) (by lia))
 ·exact h i j hij (by lia)
theorem sG.rev{V:List Nat}{a b:Nat}(hab:a<=b)(hb:b<=V.length)(he:Gu lt V a b)(h:sG lt V b):sG lt (iY V a b) b:=λi j hij hj=>by
 rw[gU hab hb,gU hab hb]
 by_cases hi:a<=i/\i<b
 ·rw[if_pos hi,if_pos ⟨by lia,hj⟩]
  exact he _ _ (by lia) (by lia) (by lia) (by lia)
 ·rw[if_neg hi]
  by_cases hj':a<=j/\j<b
  ·rw[if_pos hj']; exact h _ _ (by lia) (by lia)
  ·rw[if_neg hj']; exact h _ _ hij hj
theorem sG.asc{V:List Nat}{n:Nat}(hn:n<=V.length)(h:sG lt V n):sF lt (iY V 0 n) n:=λi j hij hj=>by
 rw[gU (Hn _) hn,gU (Hn _) hn,if_pos ⟨by lia,hj⟩,if_pos ⟨by lia,by lia⟩]
 exact h _ _ (by lia) (by lia)
theorem Bd(O:Ord lt)(V:List Nat):sF lt V 1:=λi j hij hj=>by
 obtain rfl:i=j:=by lia
 exact qO O _
theorem Be(O:Ord lt)(V:List Nat):sG lt V 1:=λi j hij hj=>by
 obtain rfl:i=j:=by lia
 exact qO O _
inductive Hv{β:Type}(κ:JV)(it:Array Keyed)(lt:Nat->Nat->Bool)(U V:List Nat)(pend:Array (Nat×Nat×Nat))(x:Nat)(d:Option β×Nat×Nat)(st:IE):Prop
 |mk (V2:List Nat) (q:Nat):d=(none,x,q)->V2.Perm V->St κ it (U++V2) pend st->1<=x->q+1<=x->sG lt V2 x->Gu lt V2 (x-(q+1)) x->Hv κ it lt U V pend x d st
inductive Hw{β:Type}(κ:JV)(it:Array Keyed)(lt:Nat->Nat->Bool)(U V:List Nat)(pend:Array (Nat×Nat×Nat))(n:Nat)(d:Option β×Nat×Nat)(st:IE):Prop
 |mk (V2:List Nat) (m q:Nat):d=(none,m,q)->V2.Perm V->St κ it (U++V2) pend st->1<=m->m<=n->q+1<=m->sG lt V2 m->Gu lt V2 (m-(q+1)) m->Hw κ it lt U V pend n d st
theorem cutS{H:List Nat->IE->Prop}{G:IE->Prop}{P:Prop}(k:(∀V s,H V s->G s)->P)(g:∀V s,H V s->G s):P:=k g
theorem nu(O:Ord lt)(c:xF prog w A S κ it lt N){U V:List Nat}(hN:∀x∈V,x<N){pend:Array (Nat×Nat×Nat)}{st:IE}(s:St κ it (U++V) pend st){lo nrem:Nat}(hU:U.length=lo)(hV:V.length=nrem)(h1:1<=nrem){Q:Option Nat->IE->Prop}
  (h:∀m V' st',1<=m->m<=nrem->V'.Perm V->Sd lt (V'.take m)->St κ it (U++V') pend st'->Q (some m) st'):W prog w A S (countRun' lo nrem) Q st:=by
 show wpS _ _ _ _ _ _ _;refine Dx (K9 (J2 (I:=λx d st'=>st'=st/\d=(none,x)/\1<=x/\sF lt V x)
  (Q:=λd st'=>st'=st/\∃n,d=(none,n)/\1<=n/\n<=nrem/\sF lt V n/\(n<nrem->lt (g V n) (g V (n-1))=true)) ?_ ?_ ⟨rfl,rfl,D2 _,Bd O V⟩) ?_)
 ·rintro x d st' hx1 hx2 ⟨rfl,rfl,k1,k2⟩
  dsimp only;refine Dx (jN c hN s hU (i:=x) (j:=x-1) rfl (by lia) (by lia) (by lia) ?_)
  cases e:lt (g V x) (g V (x-1)) with
  |true=>exact FR ⟨rfl,x,rfl,k1,by lia,k2,λ_=>e⟩
  |false=>exact FR ⟨rfl,rfl,by lia,k2.step O k1 e⟩
 ·rintro d st' ⟨rfl,rfl,k1,k2⟩
  exact⟨rfl,_,rfl,k1,by lia,by rw[QS h1] at *; exact k2,λz=>by lia⟩
 rintro d st' ⟨rfl,n,rfl,k1,k2,k3,k4⟩;dsimp only
 by_cases e1:n=nrem
 ·rw[if_pos (by simpa using e1)]
  exact FR (h n V st' k1 k2 (.refl _) (k3.sd (by lia)) s)
 rw[if_neg (by simpa using e1)]
 have k4:=k4 (by lia)
 have one:∀(V1:List Nat)(m:Nat),Gu lt V1 (m+1-(0+1)) (m+1):=λV1 m i j a1 a2 a3 a4=>by
  obtain rfl:i=j:=by lia
  exact qO O _
 refine cutS (H:=λV1 s1=>V1.Perm V/\sG lt V1 (n+1)/\St κ it (U++V1) pend s1) (λkey=>by
  by_cases e2:n>1
  ·rw[if_pos e2]
   refine Dx (jN c hN s hU (i:=0) (j:=n-1) (by lia) (by lia) (by lia) (by lia) ?_)
   cases e3:lt (g V 0) (g V (n-1)) with
   |true=>exact FR (h n V st' k1 k2 (.refl _) (k3.sd (by lia)) s)
   |false=>
    dsimp only;rw[if_neg (by simp)]
    refine Dx (w_rev s hU (i:=0) (j:=n) (by lia) rfl (Hn _) (by lia) λst1 s1=>?_)
    have p1:=fV V (Hn n);have d1:sG lt (iY V 0 n) (n+1):=by
     have hall:∀i j,i<n->j<n->lt (g V i) (g V j)=false:=λi j hi hj=>by
      have a1:=k3 j (n-1) (by lia) (by lia)
      have a2:=k3 0 i (by lia) hi
      exact O.trans _ _ _ a1 (O.trans _ _ _ e3 a2)
     refine sG.step O k1 (λi j hij hj=>?_) ?_
     ·rw[gU (Hn _) (by lia),gU (Hn _) (by lia),if_pos ⟨by lia,by lia⟩,if_pos ⟨by lia,by lia⟩]
      exact hall _ _ (by lia) (by lia)
     ·rw[gU (Hn _) (by lia),gU (Hn _) (by lia),if_pos ⟨by lia,by lia⟩,if_neg (by lia)]
      exact O.trans _ _ _ (O.asym _ _ k4) (hall _ _ (by lia) (by lia))
    exact key _ st1 ⟨p1,d1,s1⟩
  ·rw[if_neg e2]
   have en:n=1:=by lia
   exact key V st' ⟨.refl _,by rw[en] at k4 ⊢; exact sG.step O (D2 _) (Be O V) (O.asym _ _ k4),s⟩) ?_
 rintro V1 st1 ⟨p1,d1,s1⟩;refine Dx (N4 (Jb ⟨rfl,?_⟩));refine Dx (K9 (J2 (I:=λx d st2=>Hv κ it lt U V pend x d st2)
  (Q:=λd st2=>Hw κ it lt U V pend nrem d st2) ?_ ?_ ⟨V1,0,rfl,p1,s1,by lia,by lia,d1,one _ _⟩) ?_)
 ·rintro x d st2 hx1 hx2 ⟨V2,q,rfl,pV,s2,b0,b1,b2,b3⟩
  have l2:V2.length=nrem:=by rw[pV.length_eq,hV]
  have hN2:∀y∈V2,y<N:=λy hy=>hN y (pV.mem_iff.mp hy)
  dsimp only;refine Dx (jN c hN2 s2 hU (i:=x) (j:=x-1) rfl (by lia) (by lia) (by lia) ?_)
  cases e4:lt (g V2 x) (g V2 (x-1)) with
  |true=>
   dsimp only;rw[if_pos rfl];have e5:=O.asym _ _ e4
   by_cases hq:q>0
   ·rw[if_pos hq]
    refine Dx (w_rev s2 hU (i:=x-(q+1)) (j:=x) (by lia) rfl (by lia) (by lia) λst3 s3=>?_)
    refine FR ⟨_,0,rfl,(fV V2 (by lia)).trans pV,s3,by lia,by lia,(b2.rev (by lia) (by lia) b3).step O b0 ?_,one _ _⟩
    rw[gU (by lia) (by lia),gU (by lia) (by lia),if_pos ⟨by lia,by lia⟩,if_neg (by lia)]
    exact O.trans _ _ _ e5 (b3 _ _ (by lia) (by lia) (by lia) (by lia))
   ·rw[if_neg hq]
    exact FR ⟨V2,0,rfl,pV,s2,by lia,by lia,b2.step O b0 e5,one _ _⟩
  |false=>
   dsimp only;rw[if_neg (by simp)]
   refine Dx (jN c hN2 s2 hU (i:=x-1) (j:=x) (by lia) rfl (by lia) (by lia) ?_)
   cases e5:lt (g V2 (x-1)) (g V2 x) with
   |true=>exact FR ⟨V2,x,q,rfl,pV,s2,b0,by lia,b1,b2,b3⟩
   |false=>
    refine FR ⟨V2,q+1,rfl,pV,s2,by lia,by lia,b2.step O b0 e5,λi j a1 a2 a3 a4=>?_⟩
    by_cases hi:i=x
    ·by_cases hj:j=x
     ·subst hi; subst hj; exact qO O _
     ·rw[hi]; exact O.trans _ _ _ (b3 (x-1) j (by lia) (by lia) (by lia) (by lia)) e4
    ·by_cases hj:j=x
     ·rw[hj]; exact O.trans _ _ _ e5 (b3 i (x-1) (by lia) (by lia) (by lia) (by lia))
     ·exact b3 i j (by lia) (by lia) (by lia) (by lia)
 ·rintro d st2 ⟨V2,q,rfl,pV,s2,b0,b1,b2,b3⟩
  exact⟨V2,_,q,rfl,pV,s2,b0,by lia,b1,b2,b3⟩
 rintro d st2 ⟨V2,m,q,rfl,pV,s2,b0,b0',b1,b2,b3⟩;have l2:V2.length=nrem:=by rw[pV.length_eq,hV]
 dsimp only;refine cutS (H:=λV3 s3=>V3.Perm V/\sG lt V3 m/\St κ it (U++V3) pend s3) (λkey=>by
  by_cases hq:q>0
  ·rw[if_pos hq]
   refine Dx (w_rev s2 hU (i:=m-(q+1)) (j:=m) (by lia) rfl (by lia) (by lia) λst3 s3=>?_)
   exact key _ st3 ⟨(fV V2 (i:=m-(q+1)) (j:=m) (by lia)).trans pV,b2.rev (by lia) (by lia) b3,s3⟩
  ·rw[if_neg hq]
   exact key V2 st2 ⟨pV,b2,s2⟩) ?_
 rintro V3 st3 ⟨pV3,d3,s3⟩;have l3:=pV3.length_eq;rw[hV] at l3;refine Dx (w_rev s3 hU (i:=0) (j:=m) (by lia) rfl (Hn _) (by lia) λst4 s4=>?_)
 have p4:=(fV _ (Hn m)).trans pV3;have d4:=d3.asc (by lia)
 have l4:=p4.length_eq;rw[hV] at l4;generalize iY _ 0 m=V5 at s4 p4 d4 l4;have hN4:∀y∈V5,y<N:=λy hy=>hN y (p4.mem_iff.mp hy)
 refine Dx (K9 (J2 (I:=λx d st5=>st5=st4/\d=(none,x)/\1<=x/\sF lt V5 x) (Q:=λd st5=>st5=st4/\∃k,d=(none,k)/\1<=k/\k<=nrem/\sF lt V5 k) ?_ ?_ ⟨rfl,rfl,b0,d4⟩) ?_)
 ·rintro x d st5 hx1 hx2 ⟨rfl,rfl,f1,f2⟩
  dsimp only;refine Dx (jN c hN4 s4 hU (i:=x) (j:=x-1) rfl (by lia) (by lia) (by lia) ?_)
  cases e6:lt (g V5 x) (g V5 (x-1)) with
  |true=>exact FR ⟨rfl,x,rfl,f1,by lia,f2⟩
  |false=>exact FR ⟨rfl,rfl,by lia,f2.step O f1 e6⟩
 ·rintro d st5 ⟨rfl,rfl,f1,f2⟩
  exact⟨rfl,_,rfl,f1,by lia,f2⟩
 ·rintro d st5 ⟨rfl,k,rfl,f1,f2,f3⟩
  exact FR (h k _ st5 f1 f2 p4 (f3.sd (by lia)) s4)
end
noncomputable def mv(V:List Nat)(k l:Nat):List Nat:=(bubble V.toArray k (k-l)).toList
theorem Bf(V:List Nat)(k l:Nat):(mv V k l).Perm V:=by
 unfold mv;have:=JW.mp (bubble_perm V.toArray k (k-l));simpa using this
theorem yz{V:List Nat}{k l:Nat}(hk:k<V.length)(hl:l<=k)(i:Nat):(mv V k l)[i]? = if i=l then V[k]? else if l<i/\i<=k then V[i-1]? else V[i]? := by
 unfold mv;rw[Hc,getElem?_bubble (by simpa using hk) (k-l) (by lia),show k-(k-l)=l by lia]
 simp only[List.getElem?_toArray]
theorem g_mv{V:List Nat}{k l:Nat}(hk:k<V.length)(hl:l<=k)(i:Nat):g (mv V k l) i=if i=l then g V k else if l<i/\i<=k then g V (i-1) else g V i:=by
 unfold g;rw[Ha,yz hk hl,Ha,Ha,Ha]
 split
 ·rfl
 ·split <;> rfl
section
variable{prog:Fm}{w:World}{A:ID}{S:B1}{κ:JV}{it:Array Keyed}{lt:Nat->Nat->Bool}{N:Nat}
theorem wI(U V:List Nat){k l:Nat}(hk:k<V.length)(hl:l<=k):bubble (ar it (U++V)) (U.length+k) (U.length+k-(U.length+l))=ar it (U++mv V k l):=by
 apply PZ;intro i;have get:∀(l:List Nat)(k:Nat),(ar it l)[k]? = (l[k]?).map (J4 it):=λl k=>by simp[ar]
 rw[getElem?_bubble (by rw[jn,FB]; lia) _ (by lia),get,get,get,get]
 by_cases hi:i<U.length
 ·rw[if_neg (by lia),if_neg (by lia),He hi,He hi]
 ·obtain⟨m,rfl⟩:∃m,i=U.length+m:=⟨i-U.length,by lia⟩
  have R:∀(X:List Nat)(m:Nat),(U++X)[U.length+m]? = X[m]? := λX m=>by rw[IH (by lia),L4]
  rw[R,R,R,yz hk hl]
  by_cases h1:m=l
  ·rw[if_pos h1,if_pos (by lia)]
  ·rw[if_neg h1,if_neg (by lia)]
   by_cases h2:l<m/\m<=k
   ·rw[if_pos h2,if_pos (by lia),show U.length+m-1=U.length+(m-1) by lia,R]
   ·rw[if_neg h2,if_neg (by lia)]
theorem DN{U V:List Nat}{pend:Array (Nat×Nat×Nat)}{st:IE}(s:St κ it (U++V) pend st){lo k l:Nat}(hU:U.length=lo)(hk:k<V.length)(hl:l<=k){Q:Unit->IE->Prop}
  (h:∀st',St κ it (U++mv V k l) pend st'->Q () st'):W prog w A S (moveDown' (lo+k) (lo+l)) Q st:=by
 subst hU;show wpS _ _ _ _ _ _ _;rw[moveDown'_eq];refine Ly (h _ ⟨s.kind,?_,s.pend,s.fail⟩);show bubble (arrOf st) _ _=_;rw[s.arr];exact wI U V hk hl
theorem Bg(O:Ord lt){V:List Nat}{k l:Nat}(hk:k<V.length)(hl:l<=k)(hs:sF lt V k)(a:∀i,i<l->lt (g V k) (g V i)=false)(b:∀i,l<=i->i<k->lt (g V k) (g V i)=true):sF lt (mv V k l) (k+1):=by
 intro i j hij hj;rw[g_mv hk hl,g_mv hk hl]
 by_cases hjl:j=l
 ·rw[if_pos hjl]
  by_cases hil:i=l
  ·rw[if_pos hil]; exact qO O _
  ·rw[if_neg hil,if_neg (by lia)]
   exact a i (by lia)
 ·rw[if_neg hjl]
  by_cases hj2:l<j/\j<=k
  ·rw[if_pos hj2]
   by_cases hil:i=l
   ·rw[if_pos hil]
    exact O.asym _ _ (b (j-1) (by lia) (by lia))
   ·rw[if_neg hil]
    by_cases hi2:l<i/\i<=k
    ·rw[if_pos hi2]
     exact hs _ _ (by lia) (by lia)
    ·rw[if_neg hi2]
     exact hs _ _ (by lia) (by lia)
  ·rw[if_neg hj2,if_neg (by lia),if_neg (by lia)]
   exact hs _ _ (by lia) (by lia)
theorem qP(O:Ord lt)(c:xF prog w A S κ it lt N){U V:List Nat}(hN:∀x∈V,x<N){pend:Array (Nat×Nat×Nat)}{st:IE}(s:St κ it (U++V) pend st){lo n ok:Nat}(hU:U.length=lo)(hn:n<=V.length)(h1:1<=ok)(hok:ok<=n)(hs:Sd lt (V.take ok)){Q:Bool->IE->Prop}
  (h:∀V' st',V'.Perm V->Sd lt (V'.take n)->St κ it (U++V') pend st'->Q true st'):W prog w A S (binarySort' lo n ok) Q st:=by
 show wpS _ _ _ _ _ _ _;refine Dx (K9 (J2 (I:=λx d st'=>d=(none,())/\∃V',V'.Perm V/\St κ it (U++V') pend st'/\sF lt V' x) (Q:=λd st'=>d=(none,())/\∃V',V'.Perm V/\St κ it (U++V') pend st'/\sF lt V' n) ?_ ?_ ⟨rfl,V,.refl _,s,by rw[Nat.max_eq_left h1]; exact Sd.HJ O hs (by lia)⟩) ?_)
 ·rintro k d st' hk1 hk2 ⟨rfl,V1,p1,s1,d1⟩
  have l1:=p1.length_eq;have hN1:∀y∈V1,y<N:=λy hy=>hN y (p1.mem_iff.mp hy)
  dsimp only;refine Dx (K9 (J2 (I:=λx d st2=>st2=st'/\∃l r,d=(none,l,r)/\l<=r/\r<=k/\r-l<=k-x/\(∀i,i<l->lt (g V1 k) (g V1 i)=false)/\(∀i,r<=i->i<k->lt (g V1 k) (g V1 i)=true))
   (Q:=λd st2=>st2=st'/\∃l,d=(none,l,l)/\l<=k/\(∀i,i<l->lt (g V1 k) (g V1 i)=false)/\(∀i,l<=i->i<k->lt (g V1 k) (g V1 i)=true)) ?_ ?_ ⟨rfl,0,k,rfl,Hn _,D2 _,by lia,λi hi=>by lia,λi a b=>by lia⟩) ?_)
  ·rintro x d st2 _ hx ⟨rfl,l,r,rfl,b1,b2,b3,b4,b5⟩
   dsimp only
   by_cases hge:l>=r
   ·rw[if_pos hge]
    obtain rfl:l=r:=by lia
    exact FR ⟨rfl,l,rfl,b2,b4,b5⟩
   ·rw[if_neg hge]
    refine Dx (jN c hN1 s1 hU (i:=k) (j:=(l+r) / 2) rfl rfl (by lia) (by lia) ?_)
    cases e:lt (g V1 k) (g V1 ((l+r) / 2)) with
    |true=>
     refine FR ⟨rfl,_,_,rfl,by lia,by lia,by lia,b4,λi hi hik=>?_⟩
     cases q:lt (g V1 k) (g V1 i) with
     |true=>rfl
     |false=>
      have z:=O.trans _ _ _ (d1 ((l+r) / 2) i hi hik) q;rw[e] at z; cases z
    |false=>exact FR ⟨rfl,_,_,rfl,by lia,b2,by lia,λi hi=>O.trans _ _ _ (d1 i ((l+r) / 2) (by lia) (by lia)) e,b5⟩
  ·rintro d st2 ⟨rfl,l,r,rfl,b1,b2,b3,b4,b5⟩
   obtain rfl:l=r:=by lia
   exact⟨rfl,l,rfl,b2,b4,b5⟩
  ·rintro d st2 ⟨rfl,l,rfl,b1,b2,b3⟩
   dsimp only;refine Dx (DN s1 hU (by lia) b1 λst3 s3=>?_)
   exact FR ⟨rfl,_,(Bf V1 k l).trans p1,s3,Bg O (by lia) b1 d1 b2 b3⟩
 ·rintro d st' ⟨rfl,V1,p1,s1,d1⟩
  rw[QS (by lia)] at d1
  exact⟨rfl,V1,p1,s1,d1⟩
 ·rintro d st' ⟨rfl,V1,p1,s1,d1⟩
  exact FR (h V1 st' p1 (d1.sd (by rw[p1.length_eq]; exact hn)) s1)
theorem wJ:∀(l:List Keyed)(X:List Keyed)(sa k:Nat),sa+k+l.length<=X.length->(l.zipIdx k).foldl (λ(a:Array Keyed)(q:Keyed×Nat)=>a.setIfInBounds (sa+q.2) q.1) X.toArray=(X.take (sa+k)++l++X.drop (sa+k+l.length)).toArray:=by
 intro l
 induction l with
 |nil=>
  intro X sa k _;simp
 |cons x l ih=>
  intro X sa k h;rw[Bz] at h;rw[NQ,LQ];have e:X.toArray.setIfInBounds (sa+k) x=(X.set (sa+k) x).toArray:=by simp
  dsimp only;rw[e,ih (X.set (sa+k) x) sa (k+1) (by rw[QW]; lia)]
  congr 1
  have e1:(X.set (sa+k) x).take (sa+(k+1))=X.take (sa+k)++[x]:=by
   rw[<-Lz,Qg,List.take_set_of_le (D2 _),JH (by lia)]
   rfl
  have e2:(X.set (sa+k) x).drop (sa+(k+1)+l.length)=X.drop (sa+k+(x::l).length):=by
   rw[List.drop_set_of_lt (by lia),Bz,show sa+(k+1)+l.length=sa+k+(l.length+1) by lia]
  rw[e1,e2,Bi,Bi,Bi];rfl
end
inductive Mt(lt:Nat->Nat->Bool):Nat->List (List Nat)->List (Nat×Nat×Nat)->Prop
 |nil (s:Nat):Mt lt s [] []
 |cons {s:Nat} {r:List Nat} {rs:List (List Nat)} {pw:Nat} {ps:List (Nat×Nat×Nat)}:0<r.length->Sd lt r->Mt lt (s+r.length) rs ps->Mt lt s (r::rs) ((s,r.length,pw)::ps)
inductive Hx(lt:Nat->Nat->Bool)(ps:List (Nat×Nat×Nat))(rs:List (List Nat))(s i:Nat):Prop
 |mk (R0:List (List Nat)) (A B:List Nat) (R1:List (List Nat)) (q0 q1:List (Nat×Nat×Nat)) (pa pb:Nat):rs=R0++A::B::R1->q0.length=i->0<A.length->0<B.length->Sd lt A->Sd lt B ->
  ps=q0++(s+R0.flatten.length,A.length,pa)::(s+R0.flatten.length+A.length,B.length,pb)::q1->(∀C:List Nat,C.length=A.length+B.length->Sd lt C->Mt lt s (R0++C::R1) (q0++(s+R0.flatten.length,A.length+B.length,pa)::q1))->Hx lt ps rs s i
theorem Mt.split{lt:Nat->Nat->Bool}:∀{ps:List (Nat×Nat×Nat)}{rs:List (List Nat)}{s i:Nat},Mt lt s rs ps->i+1<ps.length->Hx lt ps rs s i:=by
 intro ps rs s i m h
 induction m generalizing i with
 |nil _=>simp at h
 |@cons s r rs pw ps h1 h2 m ih=>
  cases i with
  |zero=>
   cases m with
   |nil=>simp at h
   |@cons _ r2 rs pw2 ps g1 g2 m=>
    refine⟨[],r,r2,rs,[],ps,pw,pw2,rfl,rfl,h1,g1,h2,g2,by simp,λC hC sC=>?_⟩
    rw[Im,Im,<-hC];refine .cons (by lia) sC ?_
    rw[hC,<-Lz];exact m
  |succ i=>
   obtain⟨R0,A,B,R1,q0,q1,pa,pb,e1,e2,e3,e4,e5,e6,e7,e8⟩:=ih (i:=i) (by simpa using h)
   refine⟨r::R0,A,B,R1,(s,r.length,pw)::q0,q1,pa,pb,by rw[e1]; rfl,by rw[Bz,e2],e3,e4,e5,e6,?_,λC hC sC=>?_⟩
   ·rw[e7,KB,FB,<-Lz]; rfl
   ·have:=e8 C hC sC
    rw[KB,FB,<-Lz];exact .cons h1 h2 this
theorem Mt.snoc{lt:Nat->Nat->Bool}{s:Nat}{rs:List (List Nat)}{ps:List (Nat×Nat×Nat)}(m:Mt lt s rs ps){r:List Nat}(h1:0<r.length)(h2:Sd lt r)(pw:Nat):Mt lt s (rs++[r]) (ps++[(s+rs.flatten.length,r.length,pw)]):=by
 induction m with
 |nil s=>exact .cons h1 h2 (.nil _)
 |@cons s r' rs pw' ps g1 g2 m ih=>
  rw[KB,FB,<-Lz];exact .cons g1 g2 ih
theorem Mt.len{lt:Nat->Nat->Bool}{s:Nat}{rs:List (List Nat)}{ps:List (Nat×Nat×Nat)}(m:Mt lt s rs ps):rs.length=ps.length/\ps.length<=rs.flatten.length:=by
 induction m with
 |nil s=>exact⟨rfl,D2 _⟩
 |cons g1 g2 m ih=>rw[Bz,Bz,KB,FB]; lia
theorem Mt.last{lt:Nat->Nat->Bool}{s:Nat}{rs:List (List Nat)}{ps:List (Nat×Nat×Nat)}(m:Mt lt s rs ps)(pw:Nat):Mt lt s rs (ps.modify (ps.length-1) λq=>(q.1,q.2.1,pw)):=by
 induction m with
 |nil s=>exact .nil s
 |@cons s r rs pw' ps g1 g2 m ih=>
  cases ps with
  |nil=>exact .cons g1 g2 m
  |cons q ps=>exact .cons g1 g2 ih
section
variable{prog:Fm}{w:World}{A:ID}{S:B1}{κ:JV}{it:Array Keyed}{lt:Nat->Nat->Bool}{N:Nat}
theorem jv(O:Ord lt)(c:xF prog w A S κ it lt N){p:List Nat}(hN:∀x∈p,x<N){rs:List (List Nat)}{V:List Nat}(ep:p=rs.flatten++V){ps:List (Nat×Nat×Nat)}(m:Mt lt 0 rs ps){st:IE}(s:St κ it p ps.toArray st){i:Nat}(hi:i+1<ps.length){Q:Bool->IE->Prop}
  (h:∀rs' ps' st',rs'.flatten.Perm rs.flatten->Mt lt 0 rs' ps'->ps'.length+1=ps.length->St κ it (rs'.flatten++V) ps'.toArray st'->Q true st'):W prog w A S (mergeAt' i) Q st:=by
 obtain⟨R0,X,Y,R1,q0,q1,pa,pb,e1,e2,e3,e4,e5,e6,e7,e8⟩:=m.split hi;rw[Lc] at e7 e8;show wpS _ _ _ _ _ _ _;refine Dx (MA ?_);have g1:(Kj st)[i]? = some (R0.flatten.length,X.length,pa):=by rw[s.pend,e7,<-e2]; simp
 have g2:(Kj st)[i+1]? = some (R0.flatten.length+X.length,Y.length,pb):=by rw[s.pend,e7,<-e2]; simp
 rw[g1,g2];dsimp only;have e7':((Kj st).setIfInBounds i (R0.flatten.length,X.length+Y.length,pa)).eraseIdxIfInBounds (i+1)=(q0++(R0.flatten.length,X.length+Y.length,pa)::q1).toArray:=by
  rw[s.pend,e7,<-e2];simp[List.eraseIdx_append_of_length_le]
 rw[e7'];refine Dx (show wpS _ _ _ _ (set (LY (kindOf st) (arrOf st) (q0++(R0.flatten.length,X.length+Y.length,pa)::q1).toArray (QQ st) (Kt st))) _ _ from ?_)
 refine(show ∀{st':IE}{Q':PUnit->IE->Prop},Q' ⟨⟩ st'->wpS (model prog w) A (λ_ _=>False) S (set st':StateT IE Sem PUnit) Q' st from λ{st' Q'}q=>by unfold wpS; rw[StateT.run_set]; exact At ⟨rfl,q⟩) ?_
 have s1:St κ it p (q0++(R0.flatten.length,X.length+Y.length,pa)::q1).toArray (LY (kindOf st) (arrOf st) (q0++(R0.flatten.length,X.length+Y.length,pa)::q1).toArray (QQ st) (Kt st)):=⟨s.kind,s.arr,rfl,s.fail⟩;have harr:(sortPriv% PySem.Builtin.SortState.a) st=ar it p:=s.arr;generalize LY (kindOf st) (arrOf st) (q0++(R0.flatten.length,X.length+Y.length,pa)::q1).toArray (QQ st) (Kt st)=st1 at s1 ⊢;rw[harr];have ps':(q0++(R0.flatten.length,X.length+Y.length,pa)::q1).length+1=ps.length:=by rw[e7]; simp; lia
 generalize hU:R0.flatten=U at e7 e8 s1 ps' g1 g2;generalize hW1:R1.flatten++V=W1;have pp:p=U++(X++(Y++W1)):=by rw[ep,e1,<-hU,<-hW1]; simp
 have back:∀C:List Nat,(R0++C::R1).flatten++V=U++(C++W1):=λC=>by rw[<-hU,<-hW1]; simp
 have fin:∀(C:List Nat)(st':IE),C.Perm (X++Y)->Sd lt C->St κ it (U++(C++W1)) (q0++(U.length,X.length+Y.length,pa)::q1).toArray st'->Q true st':=λC st' pC sC sS=>by
  refine h (R0++C::R1) _ st' ?_ (e8 C (by rw[pC.length_eq,FB]) sC) ps' (by rw[back]; exact sS)
  rw[e1,PX,PX,KB,KB,KB,<-Bi X];exact IT _ (pC.append_right _)
 have lp:p.length=U.length+(X.length+(Y.length+W1.length)):=by rw[pp]; simp
 have dX:p.drop U.length=X++(Y++W1):=by rw[pp]; simp
 have dY:p.drop (U.length+X.length)=Y++W1:=by rw[<-K3,dX]; simp
 have i1:U.length+X.length<p.length:=by lia
 have pY:p[U.length+X.length]=Y[0]:=by
  have:p[U.length+X.length]? = Y[0]? := by
   rw[pp,IH (by lia),L4,IH (D2 _),Nat.sub_self,He e4]
  rw[Bn i1,Bn e4] at this;exact Go this
 have hXN:∀x∈X,x<N:=λx hx=>hN x (by rw[pp]; simp[hx])
 have hYN:∀x∈Y,x<N:=λx hx=>hN x (by rw[pp]; simp[hx])
 have tX:∀{k:Nat},k<=X.length->(p.drop U.length).take k=X.take k:=λ{k}hk=>by rw[dX,KR hk]
 have tY:∀{k:Nat},k<=Y.length->(p.drop (U.length+X.length)).take k=Y.take k:=λ{k}hk=>by rw[dY,KR hk]
 refine Dx (bx i1 ?_);rw[pY];refine Dx (lC O c (hYN _ (IV e4)) hN (by lia) (by rw[tX (D2 _),Jm]; exact e5) e3 s1.kind λk hk hlo hhi=>?_)
 rw[tX hk] at hlo;rw[tX (D2 _),Jm] at hhi;have Y0:=jr O e6 e4;rw[KN] at Y0;dsimp only
 by_cases k0:X.length-k=0
 ·rw[if_pos (by simpa using k0)]
  refine FR (fin (X++Y) st1 (.refl _) (Fs.mpr ⟨e5,e6,λx hx y hy=>?_⟩) (by rw[Bi,<-pp]; exact s1))
  rw[K0 (by lia)] at hlo
  exact O.trans _ _ _ (hlo x hx) (Y0 y hy)
 rw[if_neg (by simpa using k0)]
 have i2:U.length+k+(X.length-k)-1<p.length:=by lia
 have i3:X.length-1<X.length:=by lia
 have pX:p[U.length+k+(X.length-k)-1]=X[X.length-1]:=by
  have:p[U.length+k+(X.length-k)-1]? = X[X.length-1]? := by
   rw[pp,IH (by lia),He (by lia)]
   congr 1; lia
  rw[Bn i2,Bn i3] at this;exact Go this
 refine Dx (bx i2 ?_);rw[pX];refine Dx (lD O c (hXN _ (IV i3)) hN (by lia) (by rw[tY (D2 _),Jm]; exact e6) (by lia) s1.kind λj hj jlo jhi=>?_)
 rw[tY hj] at jlo;rw[tY (D2 _),Jm] at jhi;have Xl:∀x∈X,lt X[X.length-1] x=false:=by
  have:=jt O e5 e3 (D2 _);rw[Jm] at this;exact this
 dsimp only
 by_cases j0:j=0
 ·rw[if_pos (by simpa using j0)]
  refine FR (fin (X++Y) st1 (.refl _) (Fs.mpr ⟨e5,e6,λx hx y hy=>?_⟩) (by rw[Bi,<-pp]; exact s1))
  rw[j0,KN] at jhi;exact O.trans _ _ _ (Xl x hx) (jhi y hy)
 rw[if_neg (by simpa using j0)]
 have ex:(ar it p).extract (U.length+k) (U.length+X.length)=ar it (X.drop k):=by
  rw[uO,<-K3,dX,LN hk,KR (by rw[IA]; lia),K0 (by rw[IA]; lia)]
 have ey:(ar it p).extract (U.length+X.length) (U.length+X.length+j)=ar it (Y.take j):=by
  rw[sX,tY hj]
 rw[ex,ey];have sC:∀res:List Nat,Res lt (X.drop k) (Y.take j) res->Sd lt (X.take k++res++Y.drop j)/\(X.take k++res++Y.drop j).Perm (X++Y):=λres ⟨r1,r2⟩=>by
  refine⟨Fs.mpr ⟨Fs.mpr ⟨e5.take k,r1,λx hx y hy=>?_⟩,e6.drop j,λx hx y hy=>?_⟩,?_⟩
  ·rcases lM (r2.mem_iff.mp hy) with hy | hy
   ·have h2:=e5
    unfold Sd at h2;rw[<-FX k X] at h2;exact(Fs.mp h2).2.2 x hx y hy
   ·exact O.trans _ _ _ (hlo x hx) (Y0 y (JR hy))
  ·rcases lM hx with hx | hx
   ·exact O.trans _ _ _ (Xl x (JR hx)) (jhi y hy)
   ·rcases lM (r2.mem_iff.mp hx) with hx | hx
    ·exact O.trans _ _ _ (Xl x (Js hx)) (jhi y hy)
    ·have h2:=e6
     unfold Sd at h2;rw[<-FX j Y] at h2;exact(Fs.mp h2).2.2 x hx y hy
  ·have:(X.take k++res++Y.drop j).Perm (X.take k++(X.drop k++Y.take j)++Y.drop j):=(IT _ r2).append_right _
   refine this.trans (.of_eq ?_);rw[<-Bi,FX,Bi,FX]
 have tail:∀(res:List Nat)(st2:IE),bD st1 st2->Res lt (X.drop k) (Y.take j) res->wpS (model prog w) A (λ_ _=>False) S (do
   modify λs=>LY (kindOf s) (Pg (λa x=>match x with | (p,j)=>a.setIfInBounds (U.length+k+j) p) (arrOf s) (ar it res).toList.zipIdx) (Kj s) (QQ s) (Kt s)
   let r <-get
   pure (Kt r).isNone) Q st2:=λres st2 sm hr=>by
  refine Dx (Ly (Dx (MA (FR ?_))));obtain⟨c1,c2⟩:=sC res hr;have lr:res.length=X.length-k+j:=by rw[hr.2.length_eq,FB,IA,Hb]; lia
  have hf:Kt st2=none:=sm.fail.trans s1.fail;show Q ((Kt st2).isNone) _;rw[hf];refine fin _ _ c2 c1 ⟨sm.kind.trans s1.kind,?_,sm.pend.trans s1.pend,rfl⟩;show Pg _ (arrOf st2) _=_;rw[sm.arr,s1.arr];have wa:=wJ (res.map (J4 it)) (p.map (J4 it)) (U.length+k) 0 (by rw[BM,BM]; lia)
  refine wa.trans ?_;rw[Nat.add_zero,BM,<-Ls,<-LM,<-Iw,<-Iw];show ar it _=ar it _
  congr 1
  have t1:p.take (U.length+k)=U++X.take k:=by rw[pp,List.take_length_add_append,KR hk]
  have t2:p.drop (U.length+k+res.length)=Y.drop j++W1:=by
   rw[lr,show U.length+k+(X.length-k+j)=U.length+X.length+j by lia,<-K3,dY,LN hj]
  rw[t1,t2];simp
 have y0:(Y.take j)[0]'(by rw[Hb]; lia)=Y[0]:=by rw[Ke]
 have nx:0<(X.drop k).length:=by rw[IA]; lia
 have ny:0<(Y.take j).length:=by rw[Hb]; lia
 have c1:∀r∈X.drop k,lt r ((Y.take j)[0]'ny)=false:=λr hr=>by rw[y0]; exact O.asym _ _ (hhi r hr)
 have c2:∀y∈Y.take j,∀x∈(X.drop k).drop ((X.drop k).length-1),lt x y=false:=λy hy x hx=>by
  rw[K3,IA,show k+(X.length-k-1)=X.length-1 by lia] at hx
  have:X.drop (X.length-1)=[X[X.length-1]]:=by
   have:=bU e3 (D2 _);rw[Jm] at this;exact this
  rw[this,D1] at hx;subst hx;exact O.asym _ _ (jlo y hy)
 by_cases hle:X.length-k<=j
 ·rw[if_pos hle]
  refine Dx (pN O c (e5.drop k) (e6.take j) (λx hx=>hXN x (Js hx)) (λx hx=>hYN x (JR hx)) nx ny c1 c2 s1.kind λres st2 sm hr=>?_)
  exact tail res st2 sm hr
 ·rw[if_neg hle]
  refine Dx (pQ O c (e5.drop k) (e6.take j) (λx hx=>hXN x (Js hx)) (λx hx=>hYN x (JR hx)) nx ny c1 c2 s1.kind λres st2 sm hr=>?_)
  exact tail res st2 sm hr
end
section
variable{prog:Fm}{w:World}{A:ID}{S:B1}{κ:JV}{it:Array Keyed}{lt:Nat->Nat->Bool}{N:Nat}
theorem ite_le{c:Prop}[Decidable c](a:Nat):(if c then a-1 else a)<=a:=by split <;> lia
inductive Wt(κ:JV)(it:Array Keyed)(lt:Nat->Nat->Bool)(p0:List Nat)(lo:Nat)(st:IE):Prop
 |mk (rs:List (List Nat)) (ps:List (Nat×Nat×Nat)) (V:List Nat):Mt lt 0 rs ps->rs.flatten.length=lo->St κ it (rs.flatten++V) ps.toArray st->(rs.flatten++V).Perm p0->Wt κ it lt p0 lo st
theorem cutR{H:Nat->List Nat->IE->Prop}{G:Nat->IE->Prop}{P:Prop}(k:(∀n V s,H n V s->G n s)->P)(g:∀n V s,H n V s->G n s):P:=k g
inductive Hy{β:Type}(κ:JV)(it:Array Keyed)(lt:Nat->Nat->Bool)(p0:List Nat)(x:Nat)(d:Option β×Nat)(st:IE):Prop
 |mk (lo:Nat):d=(none,lo)->(x<=lo\/lo=p0.length)->lo<=p0.length->Wt κ it lt p0 lo st->Hy κ it lt p0 x d st
inductive GS(κ:JV)(it:Array Keyed)(lt:Nat->Nat->Bool)(p0:List Nat)(st:IE)(R:Nat->Prop):Prop
 |mk (rs:List (List Nat)) (ps:List (Nat×Nat×Nat)):Mt lt 0 rs ps->St κ it rs.flatten ps.toArray st->rs.flatten.Perm p0->R ps.length->GS κ it lt p0 st R
inductive GU(κ:JV)(it:Array Keyed)(lt:Nat->Nat->Bool)(p0:List Nat)(lo:Nat)(V2:List Nat)(st:IE):Prop
 |mk (rs:List (List Nat)) (ps:List (Nat×Nat×Nat)):Mt lt 0 rs ps->rs.flatten.length=lo->St κ it (rs.flatten++V2) ps.toArray st->(rs.flatten++V2).Perm p0->GU κ it lt p0 lo V2 st
theorem nv(O:Ord lt)(c:xF prog w A S κ it lt N){p0:List Nat}(hN:∀x∈p0,x<N){st:IE}(s:St κ it p0 #[] st)(h0:2<=p0.length){Q:Unit->IE->Prop}
  (h:∀p st',p.Perm p0->Sd lt p->arrOf st'=ar it p->Kt st'=none->Q () st'):W prog w A S sortRuns' Q st:=by
 show wpS _ _ _ _ _ _ _;rw[sortRuns'_eq];refine Dx (MA ?_);have hsz:(arrOf st).size=p0.length:=by rw[s.arr,jn]
 dsimp only;rw[hsz];generalize minRun' p0.length p0.length 0=mr;refine Dx (K9 (J2 (I:=λx d st'=>Hy κ it lt p0 x d st') (Q:=λd st'=>d=(none,p0.length)/\Wt κ it lt p0 p0.length st') ?_ ?_ ⟨0,rfl,.inl (D2 _),Hn _,[],[],p0,.nil 0,rfl,s,.refl _⟩) ?_)
 rotate_left
 ·rintro d st' ⟨lo,rfl,a1,a2,a3⟩
  have:lo=p0.length:=by lia
  subst this;exact⟨rfl,a3⟩
 ·rintro d st' ⟨rfl,rs,ps,V,m,hl,sS,pm⟩
  have hV:V=[]:=by
   have:=pm.length_eq;rw[FB,hl] at this;exact NY (by lia)
  subst hV;rw[EQ] at sS pm;dsimp only;have lm:=m.len;refine Dx (K9 (J2 (I:=λx d st2=>d=(none,())/\GS κ it lt p0 st2 λn=>n+x<=p0.length\/n<=1) (Q:=λd st2=>d=(none,())/\GS κ it lt p0 st2 λn=>n<=1) ?_ ?_ ⟨rfl,rs,ps,m,sS,pm,.inl (by lia)⟩) ?_)
  ·rintro x d st2 _ hx ⟨rfl,rs,ps,m,sS,pm,hle⟩
   refine Dx (MA ?_);rw[sS.pend]
   by_cases h1:ps.toArray.size<=1
   ·rw[if_pos h1]
    exact FR ⟨rfl,rs,ps,m,sS,pm,by simpa using h1⟩
   rw[if_neg h1];have h1':1<ps.length:=by simpa using h1
   refine Dx (jv O c (p:=rs.flatten) (λx hx=>hN x (pm.mem_iff.mp hx)) (EQ _).symm m sS ?_ λrs' ps' st3 q1 q2 q3 q4=>?_)
   ·have:ps.toArray.size=ps.length:=by simp
    exact Pz (Nat.succ_le_succ (ite_le _)) (show ps.toArray.size-2+1<ps.length by lia)
   ·rw[EQ] at q4
    exact FR ⟨rfl,rs',ps',q2,q4,q1.trans pm,by lia⟩
  ·rintro d st2 ⟨rfl,rs,ps,m,sS,pm,hle⟩
   refine⟨rfl,rs,ps,m,sS,pm,?_⟩;have:=m.len;have:p0.length>=2:=h0;lia
  ·rintro d st2 ⟨rfl,rs,ps,m,sS,pm,hle⟩
   refine FR (h rs.flatten st2 pm ?_ sS.arr sS.fail);cases m with
   |nil _=>exact .nil
   |cons g1 g2 m=>
    cases m with
    |nil _=>simpa using g2
    |cons _ _ _=>simp at hle
 rintro x d st' _ hx ⟨lo,rfl,a1,a2,rs,ps,V,m,hl,sS,pm⟩;dsimp only
 by_cases hge:lo>=p0.length
 ·rw[if_pos hge]
  have:lo=p0.length:=by lia
  subst this;exact FR ⟨rfl,rs,ps,V,m,hl,sS,pm⟩
 rw[if_neg hge];have hV:V.length=p0.length-lo:=by
  have:=pm.length_eq;rw[FB,hl] at this;lia
 have hVN:∀{V':List Nat},V'.Perm V->∀y∈V',y<N:=λpV y hy=>hN y (pm.mem_iff.mp (lR _ (pV.mem_iff.mp hy)))
 refine Dx (nu O c (hVN (.refl _)) sS hl hV (by lia) λk V1 st1 k1 k2 pV1 sd1 s1=>?_)
 have l1:=pV1.length_eq;dsimp only;have push:∀(rs:List (List Nat))(ps:List (Nat×Nat×Nat))(n:Nat)(V2:List Nat)(st2:IE),Mt lt 0 rs ps->rs.flatten.length=lo->St κ it (rs.flatten++V2) ps.toArray st2->(rs.flatten++V2).Perm p0->Sd lt (V2.take n)->1<=n->n<=p0.length-lo->V2.length=p0.length-lo ->
   Wt κ it lt p0 (lo+n) (setPending st2 ((Kj st2).push (lo,n,0))):=λrs ps n V2 st2 m hl sS pm sd n1 n2 lv=>by
  have ln:(V2.take n).length=n:=by rw[Hb]; lia
  have e:(rs++[V2.take n]).flatten=rs.flatten++V2.take n:=by simp
  have e2:(rs++[V2.take n]).flatten++V2.drop n=rs.flatten++V2:=by rw[e,Bi,FX]
  refine⟨rs++[V2.take n],ps++[(lo,n,0)],V2.drop n,?_,by rw[e,FB,hl,ln],⟨sS.kind,by rw[e2]; exact sS.arr,?_,sS.fail⟩,by rw[e2]; exact pm⟩
  ·have:=m.snoc (r:=V2.take n) (by lia) sd 0
   rw[Lc,hl,ln] at this;exact this
  ·show (Kj st2).push _=_
   rw[sS.pend];simp
 refine cutR (H:=λn V2 st2=>V2.Perm V/\Sd lt (V2.take n)/\St κ it (rs.flatten++V2) ps.toArray st2/\1<=n/\n<=p0.length-lo) (λkey=>by
  by_cases hmr:k<mr
  ·rw[if_pos hmr]
   refine Dx (N4 (Jb ⟨rfl,?_⟩));have f1:min (p0.length-lo) mr<=p0.length-lo:=Nat.min_le_left _ _;have f2:k<=min (p0.length-lo) mr:=by lia
   generalize min (p0.length-lo) mr=n at f1 f2 ⊢;refine Dx (qP O c (hVN pV1) s1 hl (by lia) k1 f2 sd1 λV2 st2 pV2 sd2 s2=>?_)
   rw[if_neg (by simp)]
   exact key n V2 st2 ⟨pV2.trans pV1,sd2,s2,by lia,f1⟩
  ·rw[if_neg hmr]
   exact key k V1 st1 ⟨pV1,sd1,s1,k1,k2⟩) ?_
 rintro n V2 st2 ⟨pV2,sd2,s2,n1,f1⟩;have l2:V2.length=p0.length-lo:=by rw[pV2.length_eq,hV]
 have pm2:(rs.flatten++V2).Perm p0:=(IT _ pV2).trans pm;refine Dx (MA ?_);rw[s2.pend];cases hb:ps.toArray.back? with
 |none=>
  dsimp only;refine Dx (Ly (FR ⟨lo+n,rfl,by lia,by lia,?_⟩))
  exact push rs ps n V2 st2 m hl s2 pm2 sd2 n1 f1 l2
 |some q=>
  obtain⟨b1,b2,b3⟩:=q;dsimp only;generalize power' p0.length (2*b1+b2) (2*b1+b2+b2+n) p0.length=pw;refine Dx (K9 (J2 (I:=λx d st3=>d=(none,())/\GU κ it lt p0 lo V2 st3) (Q:=λd st3=>d=(none,())/\GU κ it lt p0 lo V2 st3) ?_ (λ_ _ z=>z) ⟨rfl,rs,ps,m,hl,s2,pm2⟩) ?_)
  ·rintro y d st3 _ _ ⟨rfl,rs,ps,m,hl,s3,pm3⟩
   refine Dx (MA ?_);rw[s3.pend]
   by_cases h1:ps.toArray.size>1
   ·rw[if_pos h1]
    have h1':ps.length>1:=by simpa using h1
    have e1:ps.toArray[ps.toArray.size-2]? = some (ps[ps.length-2]'(by lia)):=by simp
    rw[e1];generalize ps[ps.length-2]'(by lia)=q
    obtain⟨c1,c2,c3⟩:=q;dsimp only
    by_cases h2:c3<=pw
    ·rw[if_pos h2]
     exact FR ⟨rfl,rs,ps,m,hl,s3,pm3⟩
    ·rw[if_neg h2]
     refine Dx (jv O c (p:=rs.flatten++V2) (λx hx=>hN x (pm3.mem_iff.mp hx)) rfl m s3 (by simp; lia) λrs' ps' st4 q1 q2 q3 q4=>?_)
     exact FR ⟨rfl,rs',ps',q2,q1.length_eq.trans hl,q4,(q1.append_right _).trans pm3⟩
   ·rw[if_neg h1]
    exact FR ⟨rfl,rs,ps,m,hl,s3,pm3⟩
  ·rintro d st3 ⟨rfl,rs,ps,m,hl,s3,pm3⟩
   dsimp only;refine Dx (Ly (Dx (Ly (FR ⟨lo+n,rfl,by lia,by lia,?_⟩))))
   refine push rs (ps.modify (ps.length-1) λq=>(q.1,q.2.1,pw)) n V2 _ (m.last pw) hl ⟨s3.kind,s3.arr,?_,s3.fail⟩ pm3 sd2 n1 f1 l2
   refine Eq.trans (b:=(Kj st3).modify ((Kj st3).size-1) λq=>(q.1,q.2.1,pw)) rfl ?_
   rw[s3.pend];simp
end
end TS
end
section
namespace L2
open PySem PySem.W PyProof.Rows PySem.Calls TS
section
variable{prog:Fm}{w:World}{A:ID}{E:Value->B1->Prop}{s:B1}
noncomputable def d7(vs:List Value)(p:Array Nat):List Value:=p.toList.map λi=>vs.getD i Gc
theorem wK(vs:List Value):d7 vs (NA (Fu vs.length))=vs:=by
 unfold d7;apply Kf;intro i;rw[IC]
 by_cases hi:i<vs.length
 ·simp[LV hi,hi]
 ·simp[K4,hi,NX hi]
theorem jw{n:Nat}(h:n<=1000000):n<=FV:=by rw[IX]; lia
theorem DO{lt:Nat->Nat->Bool}(O:Ord lt){p:List Nat}(h:Sd lt p):DK lt p.toArray p.length:=λi j hij hj=>by
 by_cases e:i=j
 ·subst e; exact qO O _
 ·have:=Ij.mp h i j (by lia) hj (by lia)
  have gi:gD p.toArray i=p[i]'(by lia):=by unfold gD; simp[Jw,show i<p.length by lia]
  have gj:gD p.toArray j=p[j]:=by unfold gD; simp[Jw,hj]
  rw[gi,gj];exact this
theorem iL{a:Addr}{vs:List Value}{n:Nat}{lt:Nat->Nat->Bool}{P:PySem.Fin->B1->Prop}(O:Ord lt)(ho:s.heap.get? a=some (J7 "list" vs.toArray n))(hbig:vs.length<=1000000)
  (hk:2<=vs.length->∀h':Heap,(∀b o,b≠a->s.heap.get? b=some o->h'.get? b=some o)->∃κ,(∀Q:JV->B1->Prop,Q κ { s with heap:=h' }->wpAny (model prog w) A (Nv vs.toArray) Q (λ_ _=>False) { s with heap:=h' }) /\
   ∀i j,i<vs.length->j<vs.length->∀C:Bool->B1->Prop,C (lt i j) { s with heap:=h' }->wpAny (model prog w) A (Ou κ (vs.getD i Gc) (vs.getD j Gc)) C (λ_ _=>False) { s with heap:=h' })
  (h:∀p:Array Nat,Pm vs.length p->DK lt p vs.length->P (.done (.ret .none)) { s with heap:=sortedHeap s.heap a vs (d7 vs p).toArray }) :
  wpAny (model prog w) A (J1.«list.sort» ⟨[.ref a],[]⟩) P E s:=by
 have ha:a<s.heap.objs.size:=Ch ho;obtain⟨e1,ho1⟩:∃e1,(s.heap.update a (JD λ_=>(#[]:Array Value))).get? a=some (J7 "list" #[] e1):=⟨_,get?_update_seq ho λ_=> #[]⟩
 rw[list_sort_plain];refine AC (Pw ho rfl ?_);refine AC (NP ho rfl ?_ (by rw[Ee]; exact jw hbig) (Hn _))
 refine AC (QP ho1 rfl ?_);refine AC (wpAny_newTuple ?_ (by show vs.length<=_; exact jw hbig))
 refine AC (LW ?_ (Hn _));refine IK ?_;have ho6:(((s.heap.update a (JD λ_=> #[])).push (J7 "tuple" vs.toArray 0)).push (J7 "list" #[] 0)).get? a=some (J7 "list" #[] e1):=by
  rw[Ln _ _ _ (by rw[Qy,M0]; exact Db (JJ ha)),Ln _ _ _ (by rw[M0]; exact Db ha)]
  exact ho1
 show wpAny (model prog w) A _ P E { s with heap:=((s.heap.update a (JD λ_=>(#[]:Array Value))).push (J7 "tuple" vs.toArray 0)).push (J7 "list" #[] 0) }
 dsimp only
 by_cases h2:vs.toArray.size<2
 ·rw[if_pos h2,if_pos h2]
  refine AC (At ?_);rw[StateT.run_pure];refine AC (At ?_);dsimp only;refine AC (QP ho6 rfl ?_);have hsmall:vs.length<2:=by simpa using h2
  refine AC (NP ho6 rfl ?_ (hsz2:=by rw[O0]; show (pairsOf vs).size<=_; rw[pairsOf_size]; exact QB (jw hbig)))
  simp only[bne_self_eq_false,GM,if_false];have hs:DK lt (NA (Fu vs.length)) vs.length:=λi j hij hj=>by
   have e:i=j:=by lia
   subst e; exact qO O _
  have z:=h _ (Array.Perm.refl _) hs;have eo:((arrOf (LY general' (vs.toArray.zip vs.toArray) #[] 7 none)).map (·.2))=(d7 vs (NA (Fu vs.length))).toArray:=by
   rw[wK];show (vs.toArray.zip vs.toArray).map (·.2)=vs.toArray;apply Array.toList_inj.mp;simp[NR]
  refine At ?_;rw[<-eo] at z;exact z
 ·rw[if_neg h2,if_neg h2]
  have h2':2<=vs.length:=by
   have:¬vs.length<2:=by simpa using h2
   lia
  have keep:∀b o,b≠a->s.heap.get? b=some o->(((s.heap.update a (JD λ_=>(#[]:Array Value))).push (J7 "tuple" vs.toArray 0)).push (J7 "list" #[] 0)).get? b=some o:=λb o hb e=>
   Ap _ (Ap _ ((M8 s.heap _ (Kr hb)).trans e))
  obtain⟨κ,hkk,hlt⟩:=hk h2' _ keep;refine AC (K1 (hkk _ ?_) (λκ s0 hk=>hk) λ_ _ x=>x.elim)
  generalize eS:({ s with heap:=((s.heap.update a (JD λ_=>(#[]:Array Value))).push (J7 "tuple" vs.toArray 0)).push (J7 "list" #[] 0) }:B1)=S at hlt ⊢
  have item:∀i,i<vs.length->(J4 (vs.toArray.zip vs.toArray) i).1=vs.getD i Gc:=λi hi=>by
   unfold J4;simp[Jw,hi]
  have cm:xF prog w A S κ (vs.toArray.zip vs.toArray) lt vs.length:=λi j hi hj C hC=>by
   rw[item i hi,item j hj];exact hlt i j hi hj C hC
  have er:=kas_range (vs.toArray.zip vs.toArray);rw[show (vs.toArray.zip vs.toArray).size=vs.length by simp] at er
  have sS:TS.St κ (vs.toArray.zip vs.toArray) (Fu vs.length) #[] (LY κ (vs.toArray.zip vs.toArray) #[] 7 none):=⟨rfl,by
   rw[List.map_toArray] at er;exact er.symm,rfl,rfl⟩
  have run:=nv (Q:=λ_ st'=>∃p:List Nat,p.Perm (Fu vs.length)/\Sd lt p/\arrOf st'=p.toArray.map (J4 (vs.toArray.zip vs.toArray))/\Kt st'=none) O cm (λx hx=>JB.mp hx) sS (by simpa using h2') (λp st' q1 q2 q3 q4=>⟨p,q1,q2,by rw[q3]; simp[ar],q4⟩)
  refine AC (K1 run ?_ λ_ _ e=>e.elim)
  rintro⟨⟨⟩,st'⟩ s' ⟨hs',p,hp,hsd,har,hf⟩;subst hs';subst eS;dsimp only;have hpl:p.length=vs.length:=by rw[hp.length_eq,JY]
  have hout:=kat_snds (p:=p.toArray) rfl har;rw[hout];refine AC (QP ho6 rfl ?_);refine AC (NP ho6 rfl ?_ (hsz2:=by rw[Ee,BM]; simp only[hpl]; exact QB (jw hbig)))
  rw[hf];simp only[bne_self_eq_false,GM,if_false];refine At (h p.toArray ?_ ?_)
  ·exact JW.mpr (by simpa using hp)
  ·have:=DO O hsd
   rw[hpl] at this;exact this
theorem nA{a:Addr}{vs:List Value}{n:Nat}{lt:Nat->Nat->Bool}{P:PySem.Fin->B1->Prop}(O:Ord lt)(ho:s.heap.get? a=some (J7 "list" vs.toArray n))(h64:vs.length<64)
  (hk:2<=vs.length->∀h':Heap,(∀b o,b≠a->s.heap.get? b=some o->h'.get? b=some o)->∃κ,(∀Q:JV->B1->Prop,Q κ { s with heap:=h' }->wpAny (model prog w) A (Nv vs.toArray) Q (λ_ _=>False) { s with heap:=h' }) /\
   ∀i j,i<vs.length->j<vs.length->∀C:Bool->B1->Prop,C (lt i j) { s with heap:=h' }->wpAny (model prog w) A (Ou κ (vs.getD i Gc) (vs.getD j Gc)) C (λ_ _=>False) { s with heap:=h' })
  (h:∀p:Array Nat,Pm vs.length p->DK lt p vs.length->P (.done (.ret .none)) { s with heap:=sortedHeap s.heap a vs (d7 vs p).toArray }) :
  wpAny (model prog w) A (J1.«list.sort» ⟨[.ref a],[]⟩) P E s:=iL O ho (by lia) hk h
theorem sY{l:Addr}{vs:List Value}{lt:Nat->Nat->Bool}{Q:Value->B1->Prop}(O:Ord lt)(hl:s.heap.IsList l vs.toArray)(h64:vs.length<64)
  (hk:2<=vs.length->∀(A':ID),A'.units<=A.units+2->∀h':Heap,(∀b o,s.heap.get? b=some o->h'.get? b=some o)->∃κ,(∀Q:JV->B1->Prop,Q κ { s with heap:=h' }->wpAny (model prog w) A' (Nv vs.toArray) Q (λ_ _=>False) { s with heap:=h' }) /\
   ∀i j,i<vs.length->j<vs.length->∀C:Bool->B1->Prop,C (lt i j) { s with heap:=h' }->wpAny (model prog w) A' (Ou κ (vs.getD i Gc) (vs.getD j Gc)) C (λ_ _=>False) { s with heap:=h' })
  (h:∀p:Array Nat,Pm vs.length p->DK lt p vs.length->Q (.ref (s.heap.objs.size+1)) { s with heap:=sortedAll s.heap vs (d7 vs p).toArray }) :
  wpAny (model prog w) A (call (.builtin "sorted") [.ref l]) Q E s:=by
 refine Km OQ Nu Nw (Ny _) ?_;unfold J1.«sorted»;refine AC (m:=Oq "sorted" 1 1 _) (At ?_);refine AC (collect_list hl ?_ (by rw[IX]; lia))
 refine AC (LW ?_ (by rw[IX]; lia))
 have hsz:((s.heap.push (J7 "list" #[] 0)).update s.heap.objs.size (JD (· ++ vs.toArray))).objs.size=s.heap.objs.size+1:=by
  rw[M0,Qy]
 have hoL:(((s.heap.push (J7 "list" #[] 0)).update s.heap.objs.size (JD (· ++ vs.toArray))).push (J7 "list" vs.toArray 0)).get? (s.heap.objs.size+1)=some (J7 "list" vs.toArray 0):=by
  rw[<-hsz]; exact Da _ rfl
 have keep:∀b o,s.heap.get? b=some o->b≠s.heap.objs.size+1/\(((s.heap.push (J7 "list" #[] 0)).update s.heap.objs.size (JD (· ++ vs.toArray))).push (J7 "list" vs.toArray 0)).get? b=some o:=λb o q=>by
  have hlt:b<s.heap.objs.size:=Ch q;refine⟨Db (JJ hlt),?_⟩;rw[Ln _ _ _ (by rw[hsz]; exact Db (JJ hlt)),Heap.get?_update_ne _ _ _ _ (Db hlt),Ln _ _ _ (Db hlt)]
  exact q
 show wpAny _ _ _ _ _ { s with heap:=((s.heap.push (J7 "list" #[] 0)).update s.heap.objs.size (JD (· ++ vs.toArray))).push (J7 "list" vs.toArray 0) }
 rw[hsz];refine AC (IK (IR N5 ⟨_,hoL,rfl⟩ Mg ?body (N6 _)))
 case body=>
  refine nA O hoL h64 (λh2 h' kp=>hk h2 _ ?_ h' λb o e=>kp b o (keep b o e).1 (keep b o e).2) λp a1 a2=>⟨_,rfl,At ⟨_,rfl,h p a1 a2⟩⟩
  show A.units+1+1<=A.units+2;lia
end
end L2
end
section
namespace L2
open PySem PySem.W PyProof.Rows PySem.Calls
theorem cT:∀(a b:List Int),HT.lexLt a b=true->HT.lexLt b a=false
 |[],[],h=>by cases h
 |[],_::_,_=>rfl
 |_::_,[],h=>by cases h
 |x::xs,y::ys,h=>by
  rw[HT.bN] at h ⊢
  by_cases e:x=y
  ·subst e
   rw[if_pos rfl] at h ⊢;exact cT xs ys h
  ·rw[if_neg e] at h
   rw[if_neg (Kr e)];have:x<y:=by simpa using h
   exact decide_eq_false (by lia)
theorem cX:∀(a b c:List Int),HT.lexLt b a=false->HT.lexLt c b=false->HT.lexLt c a=false
 |[],[],[],_,_=>rfl
 |[],[],_::_,_,_=>rfl
 |[],_::_,[],_,h=>by cases h
 |[],_::_,_::_,_,_=>rfl
 |_::_,[],_,h,_=>by cases h
 |_::_,_::_,[],_,h=>by cases h
 |x::xs,y::ys,z::zs,h1,h2=>by
  rw[HT.bN] at h1 h2 ⊢
  by_cases e1:y=x
  ·subst e1
   rw[if_pos rfl] at h1
   by_cases e2:z=y
   ·subst e2
    rw[if_pos rfl] at h2 ⊢;exact cX xs ys zs h1 h2
   ·rw[if_neg e2] at h2 ⊢
    exact h2
  ·rw[if_neg e1] at h1
   have l1:¬y<x:=by simpa using h1
   by_cases e2:z=y
   ·subst e2
    rw[if_neg e1];exact decide_eq_false l1
   ·rw[if_neg e2] at h2
    have l2:¬z<y:=by simpa using h2
    rw[if_neg (by lia)]
    exact decide_eq_false (by lia)
theorem lexOrd(ks:List (List Int)):Ord (λi j=>HT.lexLt (ks.getD i []) (ks.getD j [])):=⟨λa b=>cT _ _,λa b c=>cX _ _ _⟩
def xG(K:AT)(H:Hp)(ys:List V)(ks:List (List Int)):Prop:=JQ (λ(v:V)(t:List Int)=>∃a,v=.ref a/\dc K H a (t.map V.int)) ys ks
theorem JQ.getD{α β:Type}{F:α->β->Prop}{d:α}{d':β}:∀{xs:List α}{ys:List β},JQ F xs ys->∀i,i<xs.length->F (xs.getD i d) (ys.getD i d'):=by
 intro xs ys h
 induction h with
 |nil=>exact λi h=>absurd h (LU _)
 |cons r t ih=>
  intro i h;cases i with
  |zero=>exact r
  |succ i=>
   have:=ih i (by simpa using h)
   simpa using this
theorem j8{prog:Fm}{w:World}{A:ID}{b:Bool}{Q:Bool->B1->Prop}{s:B1}:∀(xs ys:List Value)(as bs:List Int)(i:Nat),Vals (as.map V.int) xs->Vals (bs.map V.int) ys ->
  Q (HT.lexLt as bs) s->∀fin,(∀(n:Nat),fin=decide (n+xs.length<n+ys.length)->True)->(fin=decide (xs.length<ys.length))->KatLex prog w A b fin Q (xs.zip ys) i s:=by
 intro xs
 induction xs with
 |nil=>
  intro ys as bs i h1 h2 q fin _ hf;have e:as=[]:=by
   have:=h1.length;simpa using this
  subst e;show Q fin s;cases bs with
  |nil=>
   cases h2;rw[hf]; exact q
  |cons y bs=>
   cases h2 with
   |cons _ t=>
    have q:Q true s:=q;rw[hf]; simpa using q
 |cons x xs ih=>
  intro ys as bs i h1 h2 q fin _ hf;cases ys with
  |nil=>
   have e:bs=[]:=by
    have:=h2.length;simpa using this
   subst e;cases as with
   |nil=>cases h1
   |cons a as=>
    show Q fin s;have q:Q false s:=q;rw[hf];simpa using q
  |cons y ys=>
   cases as with
   |nil=>cases h1
   |cons a as=>
    cases bs with
    |nil=>cases h2
    |cons c bs=>
     cases h1 with
     |cons r1 t1=>
      cases h2 with
      |cons r2 t2=>
       obtain⟨t,rfl⟩:=r1;obtain⟨u,rfl⟩:=r2;refine kat_cons (wpAny_eqBool_int ?_);rw[HT.bN] at q
       by_cases e:a=c
       ·subst e
        rw[show (a == a)=true by simp]
        rw[if_pos rfl] at q;exact kat_yes (ih ys as bs (i+1) t1 t2 q fin (λ_ _=>JX) (by rw[hf]; simp))
       ·rw[show (a == c)=false by simpa using e]
        rw[if_neg e] at q;refine kat_no ?_;cases hb:(b && i == 0) with
        |true=>exact oneLt_int q
        |false=>exact kat_one _ _ (Pd q)
section
variable{X:Cx}
theorem jO:bL X (.builtin "sorted") (λxs H Q=>∃p ns,xs=[.ref p]/\fB X.K H p (ns.map V.int)/\ns.length<64/\∀(ns':List Int)l,ns'.Perm ns->ns'.Pairwise (·<=·)->H l=none->Q (.ref l) (upd H l (.lst (ns'.map V.int)))):=by
 intro pins s σ H xs us Q I r h;obtain⟨p,ns,rfl,hq,h64,q⟩:=h;obtain⟨u,rfl,rx⟩:=vals1 r;cases rx;obtain⟨its,rv,pl,hz⟩:=I.list hq;have hI:JS its ns:=by
  clear pl hz h64 q hq
  induction ns generalizing its with
  |nil=>cases rv; exact .nil
  |cons n ns ih=>
   cases rv with
   |cons r1 t1=>
    obtain⟨t,rfl⟩:=r1;exact .cons n t (ih _ t1)
 have hl:=rv.length;rw[BM] at hl;refine sorted_ints pl.isList hI (by lia) λout ns' ho hp hs=>?_
 obtain⟨e,he⟩:=Pu s.heap its out;have hv:Vals (ns'.map V.int) out.toList:=by
  clear he hp hs
  generalize out.toList=os at ho
  induction ho with
  |nil=>exact .nil
  |cons n t _ ih=>exact .cons ⟨_,rfl⟩ ih
 have hlen:(ns'.map V.int).length<=FV:=by
  rw[BM,hp.length_eq,IX]; lia
 refine⟨.ref (s.heap.objs.size+1),_,I.laid (t':=s.toks) (a:=s.heap.objs.size+1) (o:=.lst (ns'.map V.int)) (λb u e=>PU e) (Iq _) ?_,rfl,q ns' _ hp hs (I.hok.fresh (Iq _))⟩
 refine⟨hlen,out.toList,e,hv,?_⟩;rw[he]
 all_goals simp[J7]
theorem j9{pins:List (Addr×Obj)}{σ:St}{H:Hp}{s:B1}{h':Heap}(I:Inv X pins σ H s)(kp:∀b o,s.heap.get? b=some o->h'.get? b=some o):∀{ys:List V}{ks:List (List Int)}{its:List Value},xG X.K H ys ks->Vals ys its->(∀t∈ks,t≠[]) ->
  ∃fs,KatTups h' its fs/\fs.length=its.length/\∀v∈fs,∃i t,v=NH i t:=by
 intro ys ks its h
 induction h generalizing its with
 |nil=>intro v _; cases v; exact⟨[],.nil,rfl,λ_ h=>nomatch h⟩
 |@cons y t _ _ h r ih=>
  intro v hne;obtain⟨a,e,hq⟩:=h;cases v with | cons ru rr=>
  subst e;cases ru;obtain⟨fs,h1,h2,h3⟩:=ih rr λt ht=>hne t (lO _ ht)
  obtain⟨its',rv,⟨o,ho,hc,n,hd⟩,_⟩:=I.tuple hq;cases t with
  |nil=>exact absurd rfl (hne [] lS)
  |cons i t=>
   cases rv with
   |cons r1 t1=>
    obtain⟨tk,rfl⟩:=r1;refine⟨.int i tk::fs,.cons (kp _ _ ho) hc hd rfl h1,by simp[h2],λv hv=>?_⟩
    rcases lK hv with e | hv
    ·exact⟨i,tk,e⟩
    ·exact h3 v hv
theorem fO{α β:Type}{p:Array Nat}{zs:List α}{d:α}(h:Pm zs.length p):(p.toList.map λi=>zs.getD i d).Perm zs:=by
 have h1:p.toList.Perm (Fu zs.length):=JW.mp h;have h2:(p.toList.map λi=>zs.getD i d).Perm ((Fu zs.length).map λi=>zs.getD i d):=h1.map _
 have h3:((Fu zs.length).map λi=>zs.getD i d)=zs:=by
  apply Kf;intro i;rw[IC]
  by_cases hi:i<zs.length
  ·rw[LV hi]
   simp[hi]
  ·rw[K4 (by simpa using hi),K4 (by simpa using hi)]
   rfl
 rw[h3] at h2;exact h2
theorem qQ{α β:Type}{d:α}{d':β}:∀{xs:List α}{ys:List β}(i:Nat),xs.length=ys.length->(xs.zip ys).getD i (d,d')=(xs.getD i d,ys.getD i d'):=by
 intro xs
 induction xs with
 |nil=>intro ys i h; cases ys with
  |nil=>simp
  |cons _ _=>simp at h
 |cons x xs ih=>
  intro ys i h;cases ys with
  |nil=>simp at h
  |cons y ys=>
   cases i with
   |zero=>rfl
   |succ i=>
    have:=ih (ys:=ys) i (by simpa using h)
    simpa using this
theorem jP:bL X (.builtin "sorted") (λxs H Q=>∃p ys ks,xs=[.ref p]/\fB X.K H p ys/\xG X.K H ys ks/\(∀t∈ks,t≠[])/\ys.length<64 /\
  ∀(zs:List (V×List Int))l,zs.Perm (ys.zip ks)->(zs.map (·.2)).Pairwise (λa b=>HT.lexLt b a=false)->H l=none->Q (.ref l) (upd H l (.lst (zs.map (·.1))))):=by
 intro pins s σ H xs us Q I r h;obtain⟨p,ys,ks,rfl,hq,ht,hne,h64,q⟩:=h;obtain⟨u,rfl,rx⟩:=vals1 r;cases rx;obtain⟨its,rv,pl,hz⟩:=I.list hq;have hl:=rv.length;have hk:ys.length=ks.length:=Jz ht;refine sY (lexOrd ks) pl.isList (by lia) (λh2 A' _ h' kp=>⟨tuples' true,λQ' hq' =>?_,λi j hi hj C hC=>?_⟩) λpm hpm hsr=>?_
 ·obtain⟨fs,h1,h2',h3⟩:=j9 I kp ht rv hne
  refine kat_kind (s:={ s with heap:=h' }) (T:=.type "int") h1 (by lia) (λv hv=>?_) rfl hq'
  obtain⟨i,t,rfl⟩:=h3 v hv;exact Looks.now
 ·have hiy:i<ys.length:=by lia
  have hjy:j<ys.length:=by lia
  obtain⟨a,ea,qa⟩:=JQ.getD (d:=V.non) (d':=[]) ht i hiy;obtain⟨b,eb,qb⟩:=JQ.getD (d:=V.non) (d':=[]) ht j hjy;have ra:=JQ.getD (d:=V.non) (d':=Gc) rv i hiy;have rb:=JQ.getD (d:=V.non) (d':=Gc) rv j hjy;rw[ea] at ra;rw[eb] at rb;have ra:its.getD i Gc=.ref a:=ra;have rb:its.getD j Gc=.ref b:=rb;rw[ra,rb];obtain⟨ia,va,⟨oa,ha,_,na,da⟩,_⟩:=I.tuple qa;obtain⟨ib,vb,⟨ob,hb,_,nb,db⟩,_⟩:=I.tuple qb;refine kat_lt (s:={ s with heap:=h' }) (kp _ _ ha) da (kp _ _ hb) db ?_
  refine j8 ia ib _ _ 0 va vb hC _ (λ_ _=>JX) ?_
  simp
 ·have hlen:its.length=ys.length:=hl.symm
  have hzl:(ys.zip ks).length=its.length:=by rw[QV]; lia
  let zs:List (V×List Int):=pm.toList.map λi=>(ys.zip ks).getD i (V.non,[])
  have hzp:zs.Perm (ys.zip ks):=fO (β:=Nat) (by rw[hzl]; exact hpm)
  have e1:zs.map (·.1)=pm.toList.map λi=>ys.getD i V.non:=by
   show PD _ (PD _ _)=_;rw[Hk];exact IN λi _=>by show ((ys.zip ks).getD i (V.non,[])).1=_; rw[qQ i hk]
  have e2:zs.map (·.2)=pm.toList.map λi=>ks.getD i []:=by
   show PD _ (PD _ _)=_;rw[Hk];exact IN λi _=>by show ((ys.zip ks).getD i (V.non,[])).2=_; rw[qQ i hk]
  have hpw:(zs.map (·.2)).Pairwise (λa b=>HT.lexLt b a=false):=by
   rw[e2,KA,Ij];intro i j hi hj hij;have sz:pm.toList.length=its.length:=by rw[Do]; exact hpm.size
   have z:=hsr i j (by lia) (by lia)
   have gi:gD pm i=pm.toList[i]:=by unfold gD; simp[Jw,show i<pm.size by simpa using hi]
   have gj:gD pm j=pm.toList[j]:=by unfold gD; simp[Jw,show j<pm.size by simpa using hj]
   rw[gi,gj] at z;exact z
  obtain⟨e,he⟩:=Pu s.heap its (d7 its pm).toArray;have hv:Vals (zs.map (·.1)) (d7 its pm):=by
   rw[e1];unfold d7;have hb:∀i∈pm.toList,i<ys.length:=λi hi=>by
    have h1:pm.toList.Perm (Fu its.length):=JW.mp hpm;have:=h1.mem_iff.mp hi;have:i<its.length:=by simpa using this
    lia
   clear he hpw e1 e2 hzp hsr hpm
   generalize pm.toList=ix at hb
   clear zs
   induction ix with
   |nil=>exact .nil
   |cons i ix ih=>exact .cons (JQ.getD (d:=V.non) (d':=Gc) rv i (hb i lS)) (ih λj hj=>hb j (lO _ hj))
  refine⟨.ref (s.heap.objs.size+1),_,I.laid (t':=s.toks) (a:=s.heap.objs.size+1) (o:=.lst (zs.map (·.1))) (λb u e=>PU e) (Iq _) ?_,rfl,q zs _ hzp hpw (I.hok.fresh (Iq _))⟩
  refine⟨?_,d7 its pm,e,hv,he⟩;rw[BM,hzp.length_eq,hzl,IX];lia
end
end L2
end
section
namespace L2
open PySem PySem.Spec PyProof.Rows
section
variable{prog:Fm}{w:World}{A:ID}{E:Value->B1->Prop}{s:B1}
theorem pR{j t:Addr}{k:Nat}{its:Array Value}{v:Value}{Q:Value->B1->Prop}(hj:s.heap.IsTupleIter j t k)(ht:s.heap.IsTuple t its)(hv:its[k]? = some v)
  (h:∀g,g.IsTupleIter j t (k+1)->JG j s.heap g->Q v { s with heap:=g }):wpAny (model prog w) A (Is (.ref j)) Q E s:=by
 obtain⟨oj,ej,cj,dj⟩:=id hj;obtain⟨ot,et,_,nt,dt⟩:=ht;unfold Is;refine AC (Ii (name:=KS "__next__") hj.typeIs Ko (IR Ko hj.typeIs OP ?body (OJ _)))
 case body=>
  show wpAny _ _ (field (.ref j) 0 >>= _) _ _ s;refine AC (JU ej dj (x:=.ref t) rfl ?a)
  case a=>
   show wpAny _ _ (if (J6 t == Gc)=true then _ else _) _ _ s
   rw[if_neg (by intro z; exact JC z)]
   show wpAny _ _ (field (.ref j) 1 >>= _) _ _ s;refine AC (JU ej dj (x:=.int k 0) rfl ?b)
   case b=>
    show wpAny _ _ (seqItems? (.ref t) >>= _) _ _ s;refine AC (Ja et dt ?c)
    case c=>
     simp only[JZ,hv];refine AC (wpAny_setField ej dj (by simp) (At ⟨v,rfl,At (h _ ⟨_,LC _ ej (Obj.isFreed_of_fields (Ps dj _)),(Obj.cls_mapFields ..).trans cj,?d⟩ (LA ..))⟩))
     rw[Ps dj];simp[Lh]
theorem yC{j t:Addr}{k:Nat}{its:Array Value}{Q:Value->B1->Prop}(hh:A.handled=none)(hj:s.heap.IsTupleIter j t k)(ht:s.heap.IsTuple t its)(hv:its[k]? = none)
  (h:∀g x,P8 j s.heap g->(∃o,g.get? x=some o/\o.cls=.type "StopIteration")->E (.ref x) { s with heap:=g }):wpAny (model prog w) A (Is (.ref j)) Q E s:=by
 obtain⟨oj,ej,cj,dj⟩:=id hj;obtain⟨ot,et,_,nt,dt⟩:=ht;unfold Is;refine AC (Ii (name:=KS "__next__") hj.typeIs Ko (IR Ko hj.typeIs OP ?body (OJ _)))
 case body=>
  show wpAny _ _ (field (.ref j) 0 >>= _) _ _ s;refine AC (JU ej dj (x:=.ref t) rfl ?a)
  case a=>
   show wpAny _ _ (if (J6 t == Gc)=true then _ else _) _ _ s
   rw[if_neg (by intro z; exact JC z)]
   show wpAny _ _ (field (.ref j) 1 >>= _) _ _ s;refine AC (JU ej dj (x:=.int k 0) rfl ?b)
   case b=>
    show wpAny _ _ (seqItems? (.ref t) >>= _) _ _ s;refine AC (Ja et dt ?c)
    case c=>
     simp only[JZ,hv];refine AC (Jb (AC (wpAny_setField ej dj (by simp) ?d)))
     case d=>
      show wpAny _ _ (Pn (.type "StopIteration") [] >>= _) _ _ _;refine AC ?f;simp only[Pn,newTuple];refine AC (IB ?g (by size_fits))
      case g=>
       refine AC (m:=LG _ _) (Mw (a:=Gc) (by first | rfl | (simp only[LG]; rfl)) ?k)
       case k=>
        refine IB ?l (by size_fits)
        simp only[raiseNew];refine AC (PF ?m)
        first | rw[show A.in1.handled=none from hh] | rw[hh]
        refine AC (At (QD (h _ _ (((LA ..).extBut.push _).push _) ⟨_,Da _ rfl,rfl⟩)))
structure ZS(g:Heap)(z p q i j a b:Addr)(k:Nat):Prop where
 zr:IsZip g z p q .none
 ins:ME g p (.ref i) (.ref j)
 out:∃u v,ME g q u v
 one:g.IsTupleIter i a k
 two:g.IsTupleIter j b k
theorem ZS.keep{g g':Heap}{z p q i j a b:Addr}{k:Nat}(x:ZS g z p q i j a b k)(h:∀c∈[z,p,q,i,j],∀o,g.get? c=some o->g'.get? c=some o):ZS g' z p q i j a b k :=
 ⟨h z (by simp) _ x.zr,h p (by simp) _ x.ins,let ⟨u,v,e⟩:=x.out; ⟨u,v,h q (by simp) _ e⟩,x.one.at λo e=>h i (by simp) o e,x.two.at λo e=>h j (by simp) o e⟩
theorem DP{z p q i j a b:Addr}{k:Nat}{xs ys:Array Value}{x y:Value}{Q:Option Value->B1->Prop}(D:ZipApart z p q i j a b)(Z:ZS s.heap z p q i j a b k)(ha:s.heap.IsTuple a xs)(hb:s.heap.IsTuple b ys)(hx:xs[k]? = some x)(hy:ys[k]? = some y)
  (h:∀g,IsZip g z p q (Lh s.heap.objs.size)->ME g p (.ref i) (.ref j)->ME g q x y->g.IsTupleIter i a (k+1)->g.IsTupleIter j b (k+1)->ME g s.heap.objs.size x y->(∀c o,c∉[z,q,i,j]->s.heap.get? c=some o->g.get? c=some o)->Q (some (.ref s.heap.objs.size)) { s with heap:=g }) :
  wpAny (model prog w) A (Ks (.ref z)) Q E s:=by
 have hT:s.TypeIs (.ref z) "zip" := ⟨_,Z.zr,rfl⟩;obtain⟨u0,v0,eq⟩:=Z.out;unfold Ks;refine AC (L5 (Ii (name:=KS "__next__") hT MU (IR MU hT Qx ?body (Qb _))))
 case body=>
  show wpAny _ _ (field (.ref z) 2 >>= _) _ _ _;refine AC (JU Z.zr rfl (x:=.bool false) rfl ?f2);show wpAny _ _ (field (.ref z) 3 >>= _) _ _ _;refine AC (JU Z.zr rfl (x:=.ref p) rfl (AC (Ja Z.ins rfl ?f3)));show wpAny _ _ (Ji (.ref z) >>= _) _ _ _;refine AC ?f4;unfold Ji;refine AC (JU Z.zr rfl (x:=.none) rfl (At ?f5));simp only[if_true];refine AC (Jb (AC (JU Z.zr rfl (x:=.ref q) rfl (AC (J0 Z.zr (by simp) λg1 z1 s1=>?f6)))))
  have z1:IsZip g1 z p q .ellipsis:=z1;refine AC ?f7;simp only[NQ,QU,Nf,Qh];refine AC (AC (NL ?f8));show wpAny _ _ (Is (.ref i) >>= _) _ _ _;refine AC (pR (Z.one.extBut s1.extBut D.i1z) (ha.extBut s1.extBut D.l1z) hx λg2 i2 s2=>At ?f9)
  have q2:ME g2 q u0 v0:=s2.extBut _ _ D.TOi1 (s1.extBut _ _ D.TOz eq);refine AC (Ja q2 rfl (AC (Ms q2 λg3 q3 s3=>?f10)))
  have q3:ME g3 q x v0:=q3;refine AC (QF (At ?f11));refine AC (AC (NL ?f12));show wpAny _ _ (Is (.ref j) >>= _) _ _ _;refine AC (pR (((Z.two.extBut s1.extBut D.i2z).extBut s2.extBut D.i12.symm).extBut s3.extBut D.TOi2.symm) (((hb.extBut s1.extBut D.l2z).extBut s2.extBut D.l2i1).extBut s3.extBut D.l2TO) hy λg4 j4 s4=>At ?f13)
  have q4:ME g4 q x v0:=s4.extBut _ _ D.TOi2 q3;refine AC (Ja q4 rfl (AC (Ms q4 λg5 q5 s5=>?f14)))
  have q5:ME g5 q x y:=q5;refine AC (QF (At (At ?f15)));refine AC (Ja q5 rfl (AC (wpAny_newTuple ?f16)));have sz:g5.objs.size=s.heap.objs.size:=by rw[s5.1,s4.1,s3.1,s2.1,s1.1]
  have z5:IsZip g5 z p q .ellipsis:=s5.extBut _ _ D.TOz.symm (s4.extBut _ _ D.i2z.symm (s3.extBut _ _ D.TOz.symm (s2.extBut _ _ D.i1z.symm z1)));have k5:∀c o,c∉[z,q,i,j]->s.heap.get? c=some o->g5.get? c=some o:=λc o hc e=>by
   have c1:c≠z:=λt=>hc (by simp[t])
   have c2:c≠q:=λt=>hc (by simp[t])
   have c3:c≠i:=λt=>hc (by simp[t])
   have c4:c≠j:=λt=>hc (by simp[t])
   exact s5.extBut _ _ c2 (s4.extBut _ _ c4 (s3.extBut _ _ c2 (s2.extBut _ _ c3 (s1.extBut _ _ c1 e))))
  have i5:g5.IsTupleIter i a (k+1):=((i2.extBut s3.extBut D.TOi1.symm).extBut s4.extBut D.i12).extBut s5.extBut D.TOi1.symm;have j5:g5.IsTupleIter j b (k+1):=j4.extBut s5.extBut D.TOi2.symm;have zlt:z<g5.objs.size:=Ch z5;show wpAny _ _ (Le (.ref z) (.ref g5.objs.size) >>= _) _ _ _;refine AC ?f17;unfold Le;have z6:IsZip (g5.push { cls:=.type "tuple",data:=.seq #[x,y] }) z p q .ellipsis:=Ap _ z5;refine AC (J0 z6 (by simp) λg7 z7 s7=>?f18)
  have z7:IsZip g7 z p q (Lh g5.objs.size):=z7;refine J0 z7 (by simp) λg8 z8 s8=>?f19
  have z8:IsZip g8 z p q (Lh g5.objs.size):=z8;have up:∀c o,c≠z->g5.get? c=some o->g8.get? c=some o:=λc o c1 e=>s8.extBut _ _ c1 (s7.extBut _ _ c1 (Ap _ e))
  have t8:ME g8 g5.objs.size x y:=s8.extBut _ _ (KC zlt) (s7.extBut _ _ (KC zlt) (Da _ rfl));rw[sz] at z8 t8;have pne:p∉[z,q,i,j]:=by
   intro t;simp only[IQ,Hm,or_false] at t;rcases t with t | t | t | t
   ·exact D.TIz t
   ·exact D.TITO t
   ·exact D.TIi1 t
   ·exact D.TIi2 t
  have fin:=h g8 z8 (up _ _ D.TIz (k5 p _ pne Z.ins)) (up _ _ D.TOz q5) (i5.at λo e=>up _ o D.i1z e) (j5.at λo e=>up _ o D.i2z e) t8 λc o hc e=>up c o (λt=>hc (by simp[t])) (k5 c o hc e)
  refine At ⟨_,rfl,At ?_⟩;show Q (some (.ref g5.objs.size)) _;rw[sz];exact fin
theorem yD{z p q i j a b:Addr}{k:Nat}{xs ys:Array Value}{Q:Option Value->B1->Prop}(hh:A.handled=none)(D:ZipApart z p q i j a b)(Z:ZS s.heap z p q i j a b k)(ha:s.heap.IsTuple a xs)(hb:s.heap.IsTuple b ys)(he:xs[k]? = none\/ys[k]? = none)
  (h:∀g,(∀c o,c∉[z,q,i,j]->s.heap.get? c=some o->g.get? c=some o)->Q none { s with heap:=g }):wpAny (model prog w) A (Ks (.ref z)) Q E s:=by
 have hT:s.TypeIs (.ref z) "zip" := ⟨_,Z.zr,rfl⟩;obtain⟨u0,v0,eq⟩:=Z.out;have apart:∀c,c∉[z,q,i,j]->c≠z/\c≠q/\c≠i/\c≠j:=λc hc=>⟨λt=>hc (by simp[t]),λt=>hc (by simp[t]),λt=>hc (by simp[t]),λt=>hc (by simp[t])⟩
 unfold Ks;refine AC (L5 (Ii (name:=KS "__next__") hT MU (IR MU hT Qx ?body (Qb _))))
 case body=>
  have fin:∀g x,(∀c o,c∉[z,q,i,j]->s.heap.get? c=some o->g.get? c=some o)->(∃o,g.get? x=some o/\o.cls=.type "StopIteration")->wpAny (model prog w) A (isInstance (.ref x) (.type "StopIteration")) (λr s'=>wpAny (model prog w) A (if r=true then pure none else throw (.ref x)) Q E s') E { s with heap:=g }:=λg x kp hx=>by
   obtain⟨o,ho,hc⟩:=hx;exact MO (T := "StopIteration") (b:=true) ⟨o,ho,hc⟩ Oo (At (h g kp))
  show wpAny _ _ (field (.ref z) 2 >>= _) _ _ _;refine AC (JU Z.zr rfl (x:=.bool false) rfl ?f2);show wpAny _ _ (field (.ref z) 3 >>= _) _ _ _;refine AC (JU Z.zr rfl (x:=.ref p) rfl (AC (Ja Z.ins rfl ?f3)));show wpAny _ _ (Ji (.ref z) >>= _) _ _ _;refine AC ?f4;unfold Ji;refine AC (JU Z.zr rfl (x:=.none) rfl (At ?f5));simp only[if_true];refine AC (Jb (AC (JU Z.zr rfl (x:=.ref q) rfl (AC (J0 Z.zr (by simp) λg1 z1 s1=>?f6)))))
  have z1:IsZip g1 z p q .ellipsis:=z1;refine AC ?f7;simp only[NQ,QU,Nf,Qh];refine AC (AC (NL ?f8));show wpAny _ _ (Is (.ref i) >>= _) _ _ _;cases hx:xs[k]? with
  |none=>
   refine AC (yC hh (Z.one.extBut s1.extBut D.i1z) (ha.extBut s1.extBut D.l1z) hx λg2 x s2 hx' =>?g1)
   obtain⟨ox,eox,cox⟩:=hx';have z2:IsZip g2 z p q .ellipsis:=s2 _ _ D.i1z.symm z1;have xz:x≠z:=λt=>by subst t; rw[z2] at eox; cases eox; simp at cox
   refine J0 z2 (by simp) λg3 _ s3=>AC (fin g3 x (λc o hc e=>?g2) ⟨ox,s3.extBut _ _ xz eox,cox⟩)
   obtain⟨c1,_,c3,_⟩:=apart c hc;exact s3.extBut _ _ c1 (s2 _ _ c3 (s1.extBut _ _ c1 e))
  |some x0=>
   have hy:ys[k]? = none:=by
    rcases he with t | t
    ·rw[hx] at t; cases t
    ·exact t
   refine AC (pR (Z.one.extBut s1.extBut D.i1z) (ha.extBut s1.extBut D.l1z) hx λg2 i2 s2=>At ?g3)
   have q2:ME g2 q u0 v0:=s2.extBut _ _ D.TOi1 (s1.extBut _ _ D.TOz eq);refine AC (Ja q2 rfl (AC (Ms q2 λg3 q3 s3=>?g4)))
   refine AC (QF (At ?g5));refine AC (AC (NL ?g6));show wpAny _ _ (Is (.ref j) >>= _) _ _ _;refine AC (yC hh (((Z.two.extBut s1.extBut D.i2z).extBut s2.extBut D.i12.symm).extBut s3.extBut D.TOi2.symm) (((hb.extBut s1.extBut D.l2z).extBut s2.extBut D.l2i1).extBut s3.extBut D.l2TO) hy λg4 x s4 hx' =>?g7)
   obtain⟨ox,eox,cox⟩:=hx';have z4:IsZip g4 z p q .ellipsis:=s4 _ _ D.i2z.symm (s3.extBut _ _ D.TOz.symm (s2.extBut _ _ D.i1z.symm z1));have xz:x≠z:=λt=>by subst t; rw[z4] at eox; cases eox; simp at cox
   refine J0 z4 (by simp) λg5 _ s5=>AC (fin g5 x (λc o hc e=>?g8) ⟨ox,s5.extBut _ _ xz eox,cox⟩)
   obtain⟨c1,c2,c3,c4⟩:=apart c hc;exact s5.extBut _ _ c1 (s4 _ _ c4 (s3.extBut _ _ c2 (s2.extBut _ _ c3 (s1.extBut _ _ c1 e))))
end
section
variable{prog:Fm}{w:World}{A:ID}{E:Value->B1->Prop}{s:B1}
noncomputable def uQ(h:Heap)(a b:Addr):Heap :=
 ((((h.push { cls:=.type "tuple_iterator",data:=.fields #[.ref a,.int 0 0] }).push { cls:=.type "tuple_iterator",data:=.fields #[.ref b,.int 0 0] }).push { cls:=.type "tuple",data:=.seq #[.ref h.objs.size,.ref (h.push { cls:=.type "tuple_iterator",data:=.fields #[.ref a,.int 0 0] }).objs.size] }).push { cls:=.type "tuple",data:=.seq #[.none,.none] }).push
  { cls:=.type "zip",data:=.fields #[.none,.bool false,.bool false,.ref ((h.push { cls:=.type "tuple_iterator",data:=.fields #[.ref a,.int 0 0] }).push { cls:=.type "tuple_iterator",data:=.fields #[.ref b,.int 0 0] }).objs.size,
   .ref (((h.push { cls:=.type "tuple_iterator",data:=.fields #[.ref a,.int 0 0] }).push { cls:=.type "tuple_iterator",data:=.fields #[.ref b,.int 0 0] }).push { cls:=.type "tuple",data:=.seq #[.ref h.objs.size,.ref (h.push { cls:=.type "tuple_iterator",data:=.fields #[.ref a,.int 0 0] }).objs.size] }).objs.size] }
theorem yE(a b:Addr)(xs ys:Array Value) :
  Meets (J1.«zip.__new__» ⟨[.type "zip",.ref a,.ref b],[]⟩) (λ_ R s=>s.heap.IsTuple a xs/\s.heap.IsTuple b ys /\
   R (.ok (.ret (.ref (((((s.heap.push { cls:=.type "tuple_iterator",data:=.fields #[.ref a,.int 0 0] }).push { cls:=.type "tuple_iterator",data:=.fields #[.ref b,.int 0 0] }).push { cls:=.type "tuple",data:=.seq #[.ref s.heap.objs.size,.ref (s.heap.push { cls:=.type "tuple_iterator",data:=.fields #[.ref a,.int 0 0] }).objs.size] }).push { cls:=.type "tuple",data:=.seq #[.none,.none] }).objs.size))))
    { s with heap:=uQ s.heap a b }) :=
 .of_wp λprog w A R s h=>by
  obtain⟨hp,g,d,tk,os⟩:=s;obtain⟨h1,h2,h⟩:=h;have hsub:=sub_zip;have k1:Heap.IsTuple (Qu ⟨hp,g,d,tk,os⟩) a xs:=h1;have k2:Heap.IsTuple (Qu ⟨hp.push { cls:=.type "tuple_iterator",data:=.fields #[.ref a,.int 0 0] },g,d,tk,os⟩) b ys:=by
   obtain⟨o,e,r⟩:=h2;exact⟨o,Ap _ e,r⟩
  wp_walk using Lv k1,Lv k2
  exact⟨_,rfl,h⟩
theorem wL{a b:Addr}{xs ys:Array Value}{Q:Value->B1->Prop}(ha:s.heap.IsTuple a xs)(hb:s.heap.IsTuple b ys)
  (h:∀g,ZS g (s.heap.objs.size+4) (s.heap.objs.size+2) (s.heap.objs.size+3) s.heap.objs.size (s.heap.objs.size+1) a b 0->(∀c o,s.heap.get? c=some o->g.get? c=some o)->Q (.ref (s.heap.objs.size+4)) { s with heap:=g }) :
  wpAny (model prog w) A (call (.type "zip") [.ref a,.ref b]) Q E s:=by
 refine callType_new F.called_zip (by decide) (F.typeCall_zip_2 _ _) (F.newCall_zip_2 _ _) (λobj=>F.args_object_init_3 obj _ _) F.entry_zip_new (yE a b xs ys) ⟨ha,hb,?_⟩
 unfold uQ;generalize e1:s.heap.push { cls:=.type "tuple_iterator",data:=.fields #[.ref a,.int 0 0] }=g1;have z1:g1.objs.size=s.heap.objs.size+1:=by rw[<-e1]; exact HI ..
 have i1:g1.get? s.heap.objs.size=some { cls:=.type "tuple_iterator",data:=.fields #[.ref a,.int 0 0] }:=by rw[<-e1]; exact Da _ rfl
 have k1:∀c o,s.heap.get? c=some o->g1.get? c=some o:=λc o e=>by rw[<-e1]; exact Ap _ e
 generalize e2:g1.push { cls:=.type "tuple_iterator",data:=.fields #[.ref b,.int 0 0] }=g2;have z2:g2.objs.size=s.heap.objs.size+2:=by rw[<-e2,HI,z1]
 have i2:g2.get? (s.heap.objs.size+1)=some { cls:=.type "tuple_iterator",data:=.fields #[.ref b,.int 0 0] }:=by rw[<-e2,<-z1]; exact Da _ rfl
 have k2:∀c o,g1.get? c=some o->g2.get? c=some o:=λc o e=>by rw[<-e2]; exact Ap _ e
 generalize e3:g2.push { cls:=.type "tuple",data:=.seq #[.ref s.heap.objs.size,.ref g1.objs.size] }=g3;have z3:g3.objs.size=s.heap.objs.size+3:=by rw[<-e3,HI,z2]
 have i3:g3.get? (s.heap.objs.size+2)=some { cls:=.type "tuple",data:=.seq #[.ref s.heap.objs.size,.ref g1.objs.size] }:=by rw[<-e3,<-z2]; exact Da _ rfl
 have k3:∀c o,g2.get? c=some o->g3.get? c=some o:=λc o e=>by rw[<-e3]; exact Ap _ e
 generalize e4:g3.push { cls:=.type "tuple",data:=.seq #[.none,.none] }=g4;have z4:g4.objs.size=s.heap.objs.size+4:=by rw[<-e4,HI,z3]
 have i4:g4.get? (s.heap.objs.size+3)=some { cls:=.type "tuple",data:=.seq #[.none,.none] }:=by rw[<-e4,<-z3]; exact Da _ rfl
 have k4:∀c o,g3.get? c=some o->g4.get? c=some o:=λc o e=>by rw[<-e4]; exact Ap _ e
 generalize e5:g4.push { cls:=.type "zip",data:=.fields #[.none,.bool false,.bool false,.ref g2.objs.size,.ref g3.objs.size] }=g5;have i5:g5.get? (s.heap.objs.size+4)=some { cls:=.type "zip",data:=.fields #[.none,.bool false,.bool false,.ref g2.objs.size,.ref g3.objs.size] }:=by rw[<-e5,<-z4]; exact Da _ rfl
 have k5:∀c o,g4.get? c=some o->g5.get? c=some o:=λc o e=>by rw[<-e5]; exact Ap _ e
 rw[z4];rw[z2,z3] at i5;rw[z1] at i3;exact⟨⟨_,i5,rfl⟩,h _ ⟨i5,k5 _ _ (k4 _ _ i3),⟨_,_,k5 _ _ i4⟩,⟨_,k5 _ _ (k4 _ _ (k3 _ _ (k2 _ _ i1))),rfl,rfl⟩,⟨_,k5 _ _ (k4 _ _ (k3 _ _ i2)),rfl,rfl⟩⟩ λc o e=>k5 _ _ (k4 _ _ (k3 _ _ (k2 _ _ (k1 _ _ e))))⟩
end
noncomputable def Hz(K:AT)(a b:Addr):It :=
  ⟨λi H=>∃xs ys x y,dc K H a xs/\dc K H b ys/\xs[i]? = some x/\ys[i]? = some y,
   λi H v H'=>∃p x y,H p=none/\v=.ref p/\H'=upd H p (.tup [x,y])/\(∀xs,dc K H a xs->xs[i]? = some x)/\∀ys,dc K H b ys->ys[i]? = some y,
   λi H=>∃xs ys,dc K H a xs/\dc K H b ys/\(xs.length<=i\/ys.length<=i)⟩
theorem yF{P:Fm}{w:World}{K:AT}{es:List Expr}{k:Nat}{pos:Pos}{z p q i j a b:Addr}(D:ZipApart z p q i j a b):Turn P w K (.Tuple es k pos) (Hz K a b) [z,p,q,i,j] z (λn h=>ZS h z p q i j a b n) where
 mem:=by simp
 obj:=λn h st c hc=>by
  simp only[IQ,Hm,or_false] at hc;rcases hc with rfl | rfl | rfl | rfl | rfl
  ·exact⟨_,st.zr,λv e=>nomatch e⟩
  ·exact⟨_,st.ins,λv e=>nomatch e⟩
  ·obtain⟨u,v,e⟩:=st.out; exact⟨_,e,λv e=>nomatch e⟩
  ·obtain⟨o,e,_,d⟩:=st.one; exact⟨o,e,λv t=>by rw[d] at t; cases t⟩
  ·obtain⟨o,e,_,d⟩:=st.two; exact⟨o,e,λv t=>by rw[d] at t; cases t⟩
 keep:=λn h h' st kp=>st.keep kp
 item:=by
  intro X hP hw hK hc n pins s σ H E I hf st hg;subst hP hw hK;obtain⟨xs,ys,x,y,qa,qb,hx,hy⟩:=hg;obtain⟨ia,ra,ta,_⟩:=I.tuple qa;obtain⟨ib,rb,tb,_⟩:=I.tuple qb;obtain⟨u,hu,ru⟩:=ra.get hx;obtain⟨v,hv,rv⟩:=rb.get hy;refine DP D st ta tb (x:=u) (y:=v) (by simpa using hu) (by simpa using hv) λg gz gp gq gi gj gt kp=>?_
  refine⟨_,rfl,wpAny_letOwnedTupleGo_zip (s:={ s with heap:=g }) gz λg' gz' sb=>?_⟩
  have ne:∀c o,s.heap.get? c=some o->c≠s.heap.objs.size:=λc o e=>Db (Ch e)
  have zne:s.heap.objs.size≠z:=(ne z _ st.zr).symm;have t':ME g' s.heap.objs.size u v:=(sb.2 _ zne).trans gt;have f:=I.hok.fresh (D2 s.heap.objs.size);have free:∀c∈[z,p,q,i,j],H c=none:=λc hc=>(hf c hc).1
  have kp':∀c o,c∉[z,q,i,j]->s.heap.get? c=some o->g'.get? c=some o:=λc o hc e=>(sb.2 c (λt=>hc (by simp[t]))).trans (kp c o hc e)
  have sub:∀c,c∈[z,q,i,j]->c∈[z,p,q,i,j]:=λc hc=>by
   simp only[IQ,Hm,or_false] at hc ⊢;rcases hc with h | h | h | h <;> simp[h]
  have tracked:∀c o,H c=some o->c∉[z,q,i,j]:=λc o e hc=>by rw[free c (sub c hc)] at e; cases e
  have hok:iH X.prog X.w (upd H s.heap.objs.size (.tup [x,y])) g':=λc o e=>by
   by_cases hc:c=s.heap.objs.size
   ·subst hc
    rw[aB] at e;cases e;exact⟨by rw[IX]; show 2<=_; lia,[u,v],.cons ru (.cons rv .nil),_,t',rfl,0,rfl⟩
   ·rw[aC hc] at e
    refine(I.hok c o e).stay (λd o' hd e'=>kp' d o' ?_ e') (λd e'=>by rw[aC (bu e' f)]; exact e') λd xs e'=>by rw[aC (bu e' f)]; exact e'
    rcases hd with rfl | hd
    ·exact tracked _ _ e
    ·exact tracked _ _ hd
  have I':Inv X pins σ (upd H s.heap.objs.size (.tup [x,y])) { s with heap:=g' }:=by
   refine I.step (g':=s.gens) (t':=s.toks) (d':=s.drawn) (ch:=[z,q,i,j]) (λc hc=>?_) (λc o _ _ hc e _=>kp' c o hc e) (λc o _ _ hc e _=>⟨o.slots,kp' c o hc e⟩) (λc o hc e n=>by rw[aC (ne c o e)]; exact n)
    (λc o hc e=>⟨o,kp' c o hc e⟩) (λc xs e=>by rw[aC (bu e f)]; exact e) (λc o u e=>by rw[aC (bu e f)]; exact e) (λc ps e=>⟨#[],by rw[aC (bu e f),e]; simp⟩) (λm hm=>?_) hok I.bare
   ·obtain⟨_,f1,_,f3,f4,f5⟩:=hf c (sub c hc)
    exact⟨f3,f1,f4,f5⟩
   ·obtain⟨o,es',ep,ho,r⟩:=hm
    exact⟨o,es',ep,kp' _ o (λhc=>(hf _ (sub _ hc)).2.1 rfl) ho,r⟩
  refine⟨.ref s.heap.objs.size,_,I',rfl,⟨_,x,y,f,rfl,rfl,λzs hz=>by rw[I.jL hz qa]; exact hx,λzs hz=>by rw[I.jL hz qb]; exact hy⟩,?_,λc hc=>?_⟩
  ·exact⟨gz',(sb.2 _ D.TIz).trans gp,⟨_,_,(sb.2 _ D.TOz).trans gq⟩,gi.at λo e=>(sb.2 _ D.i1z).trans e,gj.at λo e=>(sb.2 _ D.i2z).trans e⟩
  ·rw[aC]
   ·exact free c hc
   ·simp only[IQ,Hm,or_false] at hc
    rcases hc with rfl | rfl | rfl | rfl | rfl
    ·exact ne _ _ st.zr
    ·exact ne _ _ st.ins
    ·obtain⟨_,_,e⟩:=st.out; exact ne _ _ e
    ·obtain⟨_,e,_⟩:=st.one; exact ne _ _ e
    ·obtain⟨_,e,_⟩:=st.two; exact ne _ _ e
 done:=by
  intro X hP hw hK hc n pins s σ H E I hf st hg;subst hP hw hK;obtain⟨xs,ys,qa,qb,hl⟩:=hg;obtain⟨ia,ra,ta,_⟩:=I.tuple qa;obtain⟨ib,rb,tb,_⟩:=I.tuple qb;have la:=ra.length;have lb:=rb.length;have sub:∀c,c∈[z,q,i,j]->c∈[z,p,q,i,j]:=λc hc=>by
   simp only[IQ,Hm,or_false] at hc ⊢;rcases hc with h | h | h | h <;> simp[h]
  refine yD (I.ok.hd hc) D st ta tb ?_ λg kp=>⟨rfl,?_⟩
  ·rcases hl with h | h
   ·exact .inl (by simp; lia)
   ·exact .inr (by simp; lia)
  ·have tracked:∀c o,H c=some o->c∉[z,q,i,j]:=λc o e hc=>by rw[(hf c (sub c hc)).1] at e; cases e
   refine I.step (g':=s.gens) (t':=s.toks) (d':=s.drawn) (ch:=[z,q,i,j]) (λc hc=>?_) (λc o _ _ hc e _=>kp c o hc e) (λc o _ _ hc e _=>⟨o.slots,kp c o hc e⟩) (λc o hc e n=>n)
    (λc o hc e=>⟨o,kp c o hc e⟩) (λc xs e=>e) (λc o u e=>e) (λc ps e=>⟨#[],by rw[e]; simp⟩) (λm hm=>?_) (λc o e=>?_) I.bare
   ·obtain⟨_,f1,_,f3,f4,f5⟩:=hf c (sub c hc)
    exact⟨f3,f1,f4,f5⟩
   ·obtain⟨o,es',ep,ho,r⟩:=hm
    exact⟨o,es',ep,kp _ o (λhc=>(hf _ (sub _ hc)).2.1 rfl) ho,r⟩
   ·refine(I.hok c o e).stay (λd o' hd e'=>kp d o' ?_ e') (λd e'=>e') λd xs e'=>e'
    rcases hd with rfl | hd
    ·exact tracked _ _ e
    ·exact tracked _ _ hd
 self:=λ_ _ _ _ _ st h=>wpAny_pyIter_zip st.zr h
section
variable{X:Cx}
noncomputable def iZip(K:AT)(ta:TA):TI:=λσ H R=>ta σ H λvs H1=>∃a b,vs=[.ref a,.ref b]/\(∃xs,dc K H1 a xs)/\(∃ys,dc K H1 b ys)/\R (Hz K a b) H1
theorem DQ{a b:Expr}{ta:TA}{p pos tp:Pos}{es:List Expr}{k:Nat}(hg:Gl X "zip")(hm:X.mg "zip" = none)(ha:PA X [a,b] ta)(hs:Fa [a,b] X.env=[(false,eval a X.env),(false,eval b X.env)]:=by rfl)(hs2:Fa [b] X.env=[(false,eval b X.env)]:=by rfl) :
  PI X (.Tuple es k tp) (.Call (.Name "zip" p) [a,b] [] pos) (iZip X.K ta):=by
 intro pins s σ H R I h;refine JT (fL I hg hm PyProof.Rows.boot_zip ?_);refine JK (bw (ha pos pins s σ H _ I h) λus s1 ⟨vs,H1,I1,r1,q1⟩=>?_) (by rw[hs,hs2]) (by rw[hs2]; rfl)
 obtain⟨a',b',e,⟨xs,qa⟩,⟨ys,qb⟩,q⟩:=q1;subst e;obtain⟨u,v,rfl,ru,rv⟩:=vals2 r1;cases ru;cases rv;obtain⟨ia,ra,ta',_⟩:=I1.tuple qa;obtain⟨ib,rb,tb,_⟩:=I1.tuple qb;refine wL ta' tb λg Z kp=>?_
 refine wpAny_pyIter_zip (s:={ s1 with heap:=g }) Z.zr ?_
 have la:a'<s1.heap.objs.size:=by obtain⟨_,e,_⟩:=ta'; exact Ch e
 have lb:b'<s1.heap.objs.size:=by obtain⟨_,e,_⟩:=tb; exact Ch e
 have fr:∀c,s1.heap.objs.size<=c->gM X pins H1 c:=λc hc=>I1.fpOk hc (I1.hok.fresh hc)
 refine⟨_,_,_,_,H1,rfl,I1.kept (t':=s1.toks) kp,yF (PyProof.Rows.zipApart_new la lb),Z,λc hc=>?_,q⟩
 simp only[IQ,Hm,or_false] at hc;rcases hc with h | h | h | h | h
 ·exact h▸fr _ (LL _ _)
 ·exact h▸fr _ (LL _ _)
 ·exact h▸fr _ (LL _ _)
 ·exact h▸fr _ (D2 _)
 ·exact h▸fr _ (LL _ _)
end
mutual
inductive Rp(K:AT)(H:Hp):V->B2->Prop
 |non:Rp K H .non .none
 |bl (b:Bool):Rp K H (.bl b) (.bool b)
 |int (i:Int):Rp K H (.int i) (.int i)
 |str (x:Str):Rp K H (.str x) (.str x)
 |tup {a:Addr} {xs:List V} {ds:List B2}:dc K H a xs->DR K H xs ds->Rp K H (.ref a) (.tuple ds)
inductive DR(K:AT)(H:Hp):List V->List B2->Prop
 |nil:DR K H [] []
 |cons {v:V} {vs:List V} {d:B2} {ds:List B2}:Rp K H v d->DR K H vs ds->DR K H (v::vs) (d::ds)
end
def eB(H H':Hp):Prop:=∀a u,Rd H a (.tup u)->Rd H' a (.tup u)
theorem eB.refl{H:Hp}:eB H H:=λ_ _ h=>h
theorem eB.trans{H H1 H2:Hp}(a:eB H H1)(b:eB H1 H2):eB H H2:=λc u h=>b c u (a c u h)
theorem eB.sq{K:AT}{H H':Hp}(t:eB H H'){a:Addr}{xs:List V}(h:dc K H a xs):dc K H' a xs:=by
 rcases h with h | h
 ·exact .inl (t a xs h)
 ·exact .inr h
theorem eB.put{H:Hp}{a:Addr}{o o':HO}(h:H a=some o)(hn:∀u,o≠.tup u)(hf:∀x u,o≠.frz x u):eB H (upd H a o'):=λc u r=>by
 rcases r with e | ⟨x,e⟩
 ·exact .inl (by rw[aC (nL e h λz=>hn u z.symm)]; exact e)
 ·exact .inr ⟨x,by rw[aC (nL e h λz=>hf x _ z.symm)]; exact e⟩
theorem eB.lst{H:Hp}{a:Addr}{xs:List V}{o':HO}(h:H a=some (.lst xs)):eB H (upd H a o'):=.put h (λ_ z=>nomatch z) λ_ _ z=>nomatch z
theorem eB.dk{H:Hp}{a:Addr}{xs:List (Key×V)}{o':HO}(h:H a=some (.dK xs)):eB H (upd H a o'):=.put h (λ_ z=>nomatch z) λ_ _ z=>nomatch z
theorem bD.tups{H H':Hp}(s:bD H H'):eB H H':=λa u r=>by
 rcases r with e | ⟨o,e⟩
 ·exact .inl (s _ _ e)
 ·exact .inr ⟨o,s _ _ e⟩
section
variable{X:Cx}
theorem nZ{h:Heap}:∀{vs:List Value}{ds:List B2}{as:List Addr},QK h vs ds as->∀v∈vs,∃d bs,d∈ds/\Reads h v d bs
 |_,_,_,.nil,v,hv=>nomatch hv
 |_,_,_,.cons r q,v,hv=>by
  rcases lK hv with e | hv
  ·subst e; exact⟨_,_,lS,r⟩
  ·obtain⟨d,bs,h1,h2⟩:=nZ q v hv
   exact⟨d,bs,lO _ h1,h2⟩
theorem yG{ds:List B2}(h:Il ds=true):∀d∈ds,d.canLay0=true:=by
 induction ds with
 |nil=>intro d hd; exact nomatch hd
 |cons x xs ih=>
  unfold Il at h;rw[IW] at h;intro d hd;rcases lK hd with e | hd
  ·subst e; exact h.1
  ·exact ih h.2 d hd
noncomputable def AE(h:Heap)(e:B2)(u:Value):Bool:=@decide (∃d as,Reads h u d as/\Ju d e=true) (Lk _)
theorem yH{h:Heap}{e d:B2}{u:Value}{as:List Addr}(r:Reads h u d as)(c:d.canLay0=true):AE h e u=Ju d e:=by
 unfold AE;cases q:Ju d e with
 |true=>exact@decide_eq_true _ (Lk _) ⟨d,as,r,q⟩
 |false=>
  refine@decide_eq_false _ (Lk _) ?_;rintro⟨d',as',r',q'⟩;rw[<-SeqAt.Reads.unique d d' u as as' c r r'] at q';rw[q] at q';cases q'
theorem pS{h:Heap}{e:B2}:∀{vs:List Value}{ds:List B2}{as:List Addr},QK h vs ds as->Il ds=true->vs.any (AE h e)=ds.any λd=>Ju d e
 |_,_,_,.nil,_=>rfl
 |_,_,_,.cons r q,c=>by
  unfold Il at c;rw[IW] at c;rw[Jp,Jp,yH r c.1,pS q c.2]
theorem yI{pins:List (Addr×Obj)}{σ:St}{H:Hp}{s:B1}{its:List Value}{ds:List B2}{as bs:List Addr}{e:B2}{v:Value}(hu:X.A.units+64<cLine)(r:QK s.heap its ds as)(re:Reads s.heap v e bs)(c:Il ds=true)(ce:e.canLay0=true)(dp:e.depth<=50) :
  ∀y,y∈its.toArray->PP X.A.in1 s y v (AE s.heap e y):=λy hy=>by
 obtain⟨d,cs,hd,rd⟩:=nZ r y (by simpa using hy)
 rw[yH rd (yG c d hd)];refine SeqAt.eqAt_reads d e X.A.in1 s y v cs bs rd re (yG c d hd) ce ?_;show X.A.units+1+_<_;lia
theorem Bh:ef X (Jq .Pow) (rI (λi j=>0<=j/\(M3 i:Int)*j<=2 ^ 27) λi j=>.int (i ^ j.toNat)):=Gr λ_ _ _ _ _ _ _ hc q=>pow_int hc.1 hc.2 q
inductive fW(K:AT)(H:Hp):V->String->Prop where
 |non:fW K H .non "NoneType"
 |bl (x:Bool):fW K H (.bl x) "bool"
 |int (i:Int):fW K H (.int i) "int"
 |str (x:Str):fW K H (.str x) "str"
 |lst {a:Addr} {xs:List V} (e:fB K H a xs):fW K H (.ref a) "list"
 |tup {a:Addr} {xs:List V} (e:dc K H a xs):fW K H (.ref a) "tuple"
 |dK {a:Addr} {kvs:List (Key×V)} (e:H a=some (.dK kvs)):fW K H (.ref a) "dict"
 |dT {a:Addr} {kvs:List (List Key×V)} (e:H a=some (.dT kvs)):fW K H (.ref a) "dict"
noncomputable def subB(t c:String):Bool:=t == c || (t == "bool" && c == "int")
noncomputable def dg:List String:=["NoneType", "bool", "int", "str", "list", "tuple", "dict"]
theorem Bj(K:AT):∀t∈dg,∀c∈dg,c ≠ "NoneType"->PySem.W.kitOne K (.type t) (.type c)=some (subB t c):=by
 intro t ht c hc hn;simp only[dg,IQ,Hm,or_false] at ht hc;rcases hc with rfl | rfl | rfl | rfl | rfl | rfl | rfl
 ·exact absurd rfl hn
 all_goals (rcases ht with rfl | rfl | rfl | rfl | rfl | rfl | rfl <;> first | rfl | decide +kernel)
theorem fW.mem{K:AT}{H:Hp}{x:V}{t:String}(h:fW K H x t):t∈dg:=by
 cases h <;> simp[dg]
theorem qR:bL X (.builtin "isinstance") (λxs H Q=>∃x t c,xs=[x,.ty c]/\fW X.K H x t/\c∈dg/\c ≠ "NoneType"/\Q (.bl (subB t c)) H):=by
 intro pins s σ H xs us Q I r h;obtain⟨x,t,c,rfl,ty,hc,hn,q⟩:=h;obtain⟨u,w',rfl,rx,rw'⟩:=vals2 r;cases rw';have e:=Bj X.K t ty.mem c hc hn;have fin:∀tk,EP X pins σ Q (.bool (subB t c)) { s with toks:=tk }:=λtk=>⟨.bl _,H,I.tok tk,rfl,q⟩
 cases ty with
 |non=>cases rx; exact K5 PySem.W.kitx_none I.uD JX e (λz=>nomatch z) fin
 |bl y=>cases rx; exact K5 PySem.W.kitx_bool I.uD JX e (λz=>nomatch z) fin
 |int i=>obtain⟨t,rfl⟩:=rx; exact K5 PySem.W.kitx_int I.uD JX e (λz=>nomatch z) fin
 |str y=>obtain⟨t,rfl⟩:=rx; exact K5 PySem.W.kitx_str I.uD JX e (λz=>nomatch z) fin
 |lst hq=>
  cases rx;obtain⟨its,_,⟨o,n,h1,h2,_⟩,_⟩:=I.list hq;exact K5 PySem.W.kitx_list I.uD ⟨o,h1,h2⟩ e (λz=>nomatch z) fin
 |tup hq=>
  cases rx;obtain⟨its,_,⟨o,h1,h2,_⟩,_⟩:=I.tuple hq;exact K5 PySem.W.kitx_tuple I.uD ⟨o,h1,h2⟩ e (λz=>nomatch z) fin
 |dK ea=>
  cases rx;obtain⟨_,_,vs,_,o,es,ep,h1,h2,_⟩:=I.hok _ _ ea;exact K5 P7 I.uD ⟨o,h1,h2.1⟩ e (λz=>nomatch z) fin
 |dT ea=>
  cases rx;obtain⟨o,h1,h2⟩:=(yr I (.inr ⟨_,.inl ea⟩)).1;exact K5 P7 I.uD ⟨o,h1,h2⟩ e (λz=>nomatch z) fin
noncomputable def FW(bs:List Bool):List V:=bs.map V.bl
theorem Bl{bs:List Bool}{its:List Value}(r:Vals (FW bs) its)(i:Nat)(u:Value)(e:its[i]? = some u):∃b,bs[i]? = some b/\u=.bool b:=by
 have hl:=r.length;unfold FW at hl r;rw[BM] at hl;have hi:i<its.length:=(DD.mp e).1;have hb:bs[i]? = some bs[i]:=by simp
 obtain⟨u',e',ru⟩:=r.get (i:=i) (x:=.bl bs[i]) (by rw[IC,hb]; rfl)
 rw[e] at e';cases e';exact⟨bs[i],hb,ru⟩
theorem range_all(bs:List Bool):(Fu bs.length).all (λi=>(bs[i]?).getD false)=bs.all id:=by
 have e:(Fu bs.length).map (λi=>(bs[i]?).getD false)=bs:=by
  apply Kf;intro i;rw[IC]
  by_cases hi:i<bs.length
  ·simp[LV hi,hi]
  ·simp[K4,hi,NX hi]
 conv=>rhs; rw[<-e]
 rw[Oh];rfl
theorem lF(hc:X.calm=true):bL X (.builtin "all") (λxs H Q=>∃p bs,xs=[.ref p]/\fB X.K H p (FW bs)/\Q (.bl (bs.all id)) H):=by
 intro pins s σ H xs us Q I r h;obtain⟨p,bs,rfl,hq,q⟩:=h;obtain⟨u,rfl,rx⟩:=vals1 r;cases rx;obtain⟨its,rv,pl,hz⟩:=I.list hq;have hlt:p<s.heap.objs.size:=by obtain⟨o,n,e,_⟩:=pl; exact Ch e
 have hl:its.length=bs.length:=by have:=rv.length; unfold FW at this; rw[BM] at this; lia
 refine call_all_walk (M6 pl.isList ?_);refine⟨_,_,_,_,_,_,λi=>(bs[i]?).getD false,rfl,Walks.list (A:=X.A.in1) (I.ok.hd hc) s.heap.objs.size p (Db hlt) its.toArray,⟨⟨_,Da _ rfl,rfl,rfl⟩,pl.isList.push _⟩,λi v s' Q' E' hv hq' =>?_,λh' tk kp=>?_⟩
 ·obtain⟨b,hb,rfl⟩:=Bl rv i v (by simpa using hv)
  have hq':Q' ((bs[i]?).getD false) s':=hq';rw[hb] at hq';exact Kk hq'
 ·refine⟨.bl _,H,I.kept (t':=tk) λb o e=>kp b o (λhb=>?_) (Ap _ e),rfl,?_⟩
  ·have:b=s.heap.objs.size:=by simpa using hb
   exact absurd (Ch e) (by rw[this]; exact KF _)
  ·rw[Ee,hl,range_all]
   exact q
end
section
variable{prog:Fm}{w:World}{A:ID}{E:Value->B1->Prop}{s:B1}
theorem lG(t b:Addr)(items items2:Array Value)(n n2:Nat)(dd dd2:Option Addr)(sl sl2:Array (Option Value))(h0:items.isEmpty=true) :
  Meets (J1.«tuple.__add__» ⟨[.ref t,.ref b],[]⟩) (λ_ R s=>s.heap.get? t=some ⟨.type "tuple",dd,.seq items n,sl⟩/\s.heap.get? b=some ⟨.type "tuple",dd2,.seq items2 n2,sl2⟩/\R (.ok (.ret (.ref b))) s) :=
 .of_wp λprog w A R s h=>by
  obtain⟨hp,g,d,tk,os⟩:=s;obtain⟨h1,h2,h⟩:=h;have hsub:=sub_tuple_self
  wp_walk using KG h1,KG h2
  exact⟨_,rfl,h⟩
end
section
variable{X:Cx}
theorem cN{H:Hp}{p:Addr}(h:H p=none)(o:HO):bD H (upd H p o):=λb u q=>by rw[aC (bu q h)]; exact q
noncomputable def rCatA(K:AT):R2:=λx y H Q=>∃a b xs ys,x=.ref a/\y=.ref b/\dc K H a xs/\dc K H b ys/\xs.length+ys.length<=FV/\∀r H',bD H H'->dc K H' r (xs++ys)->Q (.ref r) H'
theorem Bm:ef X (Jq .Add) (rCatA X.K):=by
 intro pins s σ H x y v u Q I rx ry h;obtain⟨a,b,xs,ys,rfl,rfl,ha,hb,hz,q⟩:=h
 by_cases hx:xs=[]
 ·subst hx
  cases rx;cases ry;obtain⟨its,r1,⟨⟨cls,dd,data,sl⟩,ho,hc,n,hd⟩,_⟩:=I.tuple ha;obtain⟨its2,r2,⟨⟨cls2,dd2,data2,sl2⟩,ho2,hc2,n2,hd2⟩,_⟩:=I.tuple hb;simp only at hc hd hc2 hd2;subst hc hd hc2 hd2;cases r1;exact OX ⟨_,ho,rfl⟩ ⟨_,ho2,rfl⟩ NG OF Lx Lo (Lj _ _)
   (lG a b _ _ n n2 dd dd2 sl sl2 (by simp)) ⟨ho,ho2,⟨.ref b,H,I,rfl,q b H (bD.refl H) (by simpa using hb)⟩⟩
 ·refine A0 pins s σ H _ _ v u Q I rx ry ⟨a,b,xs,ys,rfl,rfl,ha,hb,hx,hz,λe=>q a H (bD.refl H) (by rw[e,EQ]; exact ha),λ_ p hp=>q p _ (cN hp _) (dc.of aB)⟩
noncomputable def yJ(sc0:Scope)(N0:List Str)(scope:Scope)(N:List Str)(fr:List (Option Nat)):Bool :=
 (scope.kind == .function) && scope.names.all (λy=>y.2 != .cell) && scope.names.all (λy=>y.2 != .local || scope.names.lookup y.1 == some .local) &&
 scope.names.all (λy=>y.2 != .free || (sc0.names.lookup y.1 == some .cell || sc0.names.lookup y.1 == some .free)) && (fr.length == N.length) &&
 (N.zip fr).all (λp=>match p.2 with | none=>true | some j=>N0[j]? == some p.1 && scope.names.lookup p.1 == some .free) && decide N.Nodup
theorem bh.of{sc0:Scope}{N0:List Str}{scope:Scope}{N:List Str}{fr:List (Option Nat)}(h1:X.env.scope=sc0)(h2:X.N=N0)(h:yJ sc0 N0 scope N fr=true):bh X scope N fr:=by
 unfold yJ at h;simp only[IW] at h;obtain⟨⟨⟨⟨⟨⟨k1,k2⟩,k3⟩,k4⟩,k5⟩,k6⟩,k7⟩:=h;rw[K2] at k2 k3 k4 k6;refine⟨by simpa using k1,λy hy=>by simpa using k2 y hy,λy hy e=>?_,λy hy e=>?_,by simpa using k5,λi j x hi hj=>?_,of_decide_eq_true k7⟩
 ·have:=k3 y hy
  rw[e] at this;simpa using this
 ·have:=k4 y hy
  rw[e] at this;have t:sc0.names.lookup y.1=some .cell\/sc0.names.lookup y.1=some .free:=by simpa using this
  show X.env.scope.names.lookup y.1=_\/X.env.scope.names.lookup y.1=_;rw[h1];exact t
 ·have hm:(x,some j)∈N.zip fr:=by
   have hz:(N.zip fr)[i]? = some (x,some j):=by rw[Kq]; exact⟨hi,hj⟩
   exact IS hz
  have:=k6 _ hm;simp only[IW] at this;rw[h2];exact⟨by simpa using this.1,by simpa using this.2⟩
structure bz(P:Fm)(w:World)(K:AT)(mg:Str->Option Value)(base:Heap)(x:Str)(ps:List Str)(k:Nat)(sp:Sp):Prop where
 ex:∃f fd,cY P w K mg base j6 k f fd ps sp/\Binds K fd ps []/\Ib K (.ref f)=true/\mg x=some (.ref f)
theorem pe_fn{x:Str}{ps:List Str}{k k':Nat}{sp:Sp}{e:Expr}{es:List Expr}{t:TA}{p pos:Pos}(C:bz X.prog X.w X.K X.mg X.base x ps k sp)(hr:fq k' X.A)(hg:Gl X x)(ha:PA X (e::es) t)(hk:k<=k':=by first | decide | exact D2 _ | lia)(hdb:(x == ("__debug__" : Str))=false:=by decide)
  (he:Fa (e::es) X.env=(false,eval e X.env)::Fa es X.env:=by rfl) (hpl:(L8 pos (Fa es X.env)).any (·.1)=false:=by rfl):PE X (.Call (.Name x p) (e::es) [] pos) (ya sp [] E0 t):=by
 obtain⟨f,fd,F,b,kp,m⟩:=C.ex;exact AU F (hr.mono hk) hg m kp b .nil pass0 ha hdb he hpl
end
section
variable{K:AT}{H:Hp}
theorem DR.ints:∀(ns:List Int),DR K H (ns.map V.int) (ns.map .int)
 |[]=>.nil
 |n::ns=>.cons (.int n) (DR.ints ns)
theorem qS:∀(ns:List Int),Il (ns.map .int)=true
 |[]=>rfl
 |n::ns=>by show (ML (.int n) && Il (ns.map .int))=true; rw[qS ns]; rfl
end
section
variable{X:Cx}
theorem Inv.yK{pins:List (Addr×Obj)}{σ:St}{H:Hp}{s:B1}{C:Addr}{h':Heap}(I:Inv X pins σ H s)(hn:H C=none)(hL:C≠X.env.locals)(h1:X.s₀.heap.objs.size<=C)(h2:∀x c,X.env.cells.lookup x=some c->c≠C)(h3:∀p∈X.pn++pins,p.1≠C)
  (sb:JG C s.heap h'):Inv X pins σ H { s with heap:=h' }:=I.turned (t':=s.toks) (λb o hb e=>(sb.2 b hb).trans e) hn hL (.inr h1) h2 h3
theorem DS{i:Nat}{x:Str}{elt target iter:Expr}{ifs:List Expr}{scope:Scope}{pos pos' spos:Pos}{N:List Str}{fr:List (Option Nat)}{wi:TI}{g:Bk->TG}{tt:Bk->TT}{te:Bk->TE}(hN:X.N.Nodup)(hi':X.N[i]? = some x)(hx:X.env.scope.names.lookup x=some .local)
  (hc:X.calm=true) (S:bh X scope N fr) (hi:PI X target iter wi)
  (hin:∀z:Bk,PG (aE X scope z.cl N z.C z.fp z.s z.H) target (g z)/\pI (aE X scope z.cl N z.C z.fp z.s z.H) ifs (tt z)/\PE (aE X scope z.cl N z.C z.fp z.s z.H) elt (te z))
  (hs:∀x,IP iter X.env x=pure x:=by intro _; rfl) (hsw:K6 (.ListComp elt [⟨target,iter,ifs,0⟩] scope pos) (some (.Name x pos')) spos.line X.env=pure true:=by rfl) :
  PS X (.Assign [.Name x pos'] (.ListComp elt [⟨target,iter,ifs,0⟩] scope pos) spos) (ng (CJ fr wi g tt te) (uF i)):=by
 intro pins s σ H Dn I h;rw[Q8 _ _ _ _ hsw];refine AC (Ki (AC ?_));show wpAny _ X.A (do let _ <-PJ (.ListComp elt [⟨target,iter,ifs,0⟩] scope pos) scope X.env (Po [⟨target,iter,ifs,0⟩] pos) (newList []) (Qq [⟨target,iter,ifs,0⟩]) (firstIter [⟨target,iter,ifs,0⟩] X.env) (some (LS (.Name x pos') X.env))) _ _ s
 refine AC (K1 (KO (g:=⟨target,iter,ifs,0⟩) (gs:=[]) (use:=some (LS (.Name x pos') X.env)) (Q:=λ_ s'=>SP X pins Dn .next s') (E:=X.xe) rfl hs (bT (S.cells I)) S.kind S.locs ?_) (λ_ s' hq=>At (At hq)) λ_ _ e=>e)
 refine bw (hi pins s σ H _ I h) λv s1 h1=>bw h1 λitv s2 h2=>?_
 obtain⟨it,fp,tn,J,H2,e,I2,T,st2,f2,h2⟩:=h2;subst e;refine IB ?_;have hD:H2 s2.heap.objs.size=none:=I2.fresh;have I3:=I2.ye (t':=s2.toks) (ys:=[]) (its:=[]) .nil (Hn _);have lt2:∀b∈fp,b<s2.heap.objs.size:=λb hb=>by
  obtain⟨o,e,_⟩:=T.obj _ _ st2 b hb;exact Ch e
 have f3:∀b∈fp,gM X pins (upd H2 s2.heap.objs.size (.lst [])) b:=λb hb=>⟨by rw[aC (Db (lt2 b hb))]; exact(f2 b hb).1,(f2 b hb).2⟩
 generalize hs3:({ s2 with heap:=s2.heap.push { cls:=.type "list",data:=.seq ([]:List Value).toArray } }:B1)=s3
 have I3:Inv X pins σ (upd H2 s2.heap.objs.size (.lst [])) s3:=by rw[<-hs3]; exact I3
 have sz3:s3.heap.objs.size=s2.heap.objs.size+1:=by rw[<-hs3]; exact HI ..
 have u23:Un (frs X.stack) [] H2 (upd H2 s2.heap.objs.size (.lst [])) s2.heap s3.heap:=by
  rw[<-hs3];exact Un.laid (λb o e=>Ap _ e) (D2 _) hD
 have ho:s3.os=s2.os:=by rw[<-hs3]
 have st3:tn 0 s3.heap:=T.keep _ _ _ st2 λb _ o e=>by rw[<-hs3]; exact Ap _ e
 refine Mx S.nocell (by intro y hy; simp at hy) (λh4 hns hsb=>?_) S.kind
 have lt3:∀b∈fp,b<s3.heap.objs.size:=λb hb=>Fk (lt2 b hb) (by rw[sz3]; exact Iq _)
 have I4:=lz (tk:=s3.toks+([]:List (Str×Value)).length) I3 S f3 lt3 hns hsb;have old4:∀b o,s3.heap.get? b=some o->h4.get? b=some o:=λb o e=>(hsb.2 b (Db (Ch e))).trans (Ap _ e)
 have st4:tn 0 h4:=T.keep _ _ _ st3 λb _ o e=>old4 b o e
 have h2:=h2 _ hD ⟨ay X.env.cells scope.names [],s3.heap.objs.size,fp,s3,upd H2 s2.heap.objs.size (.lst [])⟩;obtain⟨hg,hif,hel⟩:=hin ⟨ay X.env.cells scope.names [],s3.heap.objs.size,fp,s3,upd H2 s2.heap.objs.size (.lst [])⟩;have loop:Kl (model X.prog X.w) X.A (.compLoop (.ListComp elt [⟨target,iter,ifs,0⟩] scope pos) 0 (.ref it) (.ref s2.heap.objs.size) (La scope (ay X.env.cells scope.names []) s3.heap.objs.size X.env))
   (Op (model X.prog X.w) X.A X.xe (some (LS (.Name x pos') X.env)) (λ_ s'=>SP X pins Dn .next s') (.ref s2.heap.objs.size) s3.heap.objs.size) { s3 with heap:=h4,toks:=s3.toks+([]:List (Str×Value)).length }:=by
  refine fU (X:=aE X scope (ay X.env.cells scope.names []) N s3.heap.objs.size fp s3 (upd H2 s2.heap.objs.size (.lst []))) (em:=(do let _ <-call (.builtin "list.append") [.ref s2.heap.objs.size,<-eval elt (La scope (ay X.env.cells scope.names []) s3.heap.objs.size X.env)]))
   (NO ..) (λ_ _ _ z=>z) rfl hc rfl hg hif (pJ hel) T I4 st4 (λb hb=>?_) h2 (λτ' H' s' J' q=>?_)
  ·obtain⟨f0,f1,fs,fe,fc,fp'⟩:=f3 b hb
   refine⟨f0,Db (lt3 b hb),λz=>?_,.inl hb,λx c e=>fc x c (bf scope.names [] (λ_ _ z=>by simp at z) e),λp hp=>absurd (show p∈([]:List (Addr×Obj)) from hp) (by simp)⟩
   rcases lK (I3.gk b z) with z | z
   ·exact f1 z
   ·exact fs z
  ·obtain⟨m,hn,_⟩:=J'.loc
   have Io:Inv X pins σ H' s':=lA (h':=s'.heap) I2 f2 u23 ho (by rw[sz3]; exact Iq _) J' (LO ..)
   have Lne:X.env.locals≠s3.heap.objs.size:=Db I3.lt;have v8:∀y c,X.env.cells.lookup y=some c->c≠s3.heap.objs.size:=λy c e=>by
    obtain⟨v,z⟩:=I3.cell y c e;exact Db z.lt
   show wpAny (model X.prog X.w) X.A (LS (.Name x pos') X.env (.ref s2.heap.objs.size)) _ X.xe s';refine Nk (jK (v:=.ref s2.heap.objs.size) Io hN hi' (.inl hx) rfl (λs5 I5 sb5=>?_) (.inr hx))
   obtain⟨b,sb,hb⟩:=sb5;have hbne:s3.heap.objs.size≠b:=by
    rcases hb with e | e
    ·rw[e]; exact Lne.symm
    ·exact(v8 _ _ e).symm
   refine⟨m,hn.sameBut sb hbne,λh' sb'=>⟨_,H',?_,q⟩⟩
   refine I5.yK (C:=s3.heap.objs.size) J'.free Lne.symm I3.sz v8 (λp hp=>?_) sb'
   exact Db (Ch (I3.pin p hp).1)
 exact LH loop (T.self X.A 0 _ _ _ st4 loop)
end
section
variable{X:Cx}
noncomputable def kK:List Expr->Option (List Int)
 |[]=>some []
 |.Constant (.int i) _ _::es=>(kK es).map (i :: ·)
 |_=>none
noncomputable def tInts(ns:List Int):TA:=λ_ H Q=>Q (ns.map V.int) H
theorem qT:∀(es:List Expr)(ns:List Int),kK es=some ns->PA X es (tInts ns)
 |[],ns,h=>by cases h; exact kU
 |e::es,ns,h=>by
  unfold kK at h
  split at h
  ·rename_i e1; cases e1
  ·rename_i i j p es' e1
   cases e1;obtain⟨ms,h1,rfl⟩:=JF.mp h;exact iu xK (qT es ms h1)
  ·cases h
end
section
variable{X:Cx}
theorem nB(hc:X.calm=true):bL X (.builtin "min") (λxs H Q=>∃p ns,xs=[.ref p]/\fB X.K H p (ns.map V.int)/\ns≠[]/\∀M:Int,M∈ns->(∀a,a∈ns->M<=a)->Q (.int M) H):=by
 intro pins s σ H xs us Q I r h;obtain⟨p,ns,rfl,hq,hne,q⟩:=h;obtain⟨u,rfl,rx⟩:=vals1 r;cases rx;obtain⟨its,rv,pl,hz⟩:=I.list hq;have hi:=intsAre_of rv;have hn:=hi.numsOf;have hl:=hi.length;obtain⟨xs,e⟩:=hi.allInts.items;have hp:=pl.isList;rw[e] at hp;have en:numsOf its=xs.toList.map (·.1):=by
  have:=nums_intItems (xs:=xs);rw[<-e] at this;exact this
 rw[en] at hn;have hsz:0<xs.size:=by
  have h1:ns.length=xs.size:=by rw[<-hn,BM,Do]
  have:ns.length≠0:=λz=>hne (Ob.mp z)
  lia
 refine min_intList (I.ok.hd hc) hp hsz λv h' tk hv hk=>?_
 obtain⟨t,rfl⟩:=intItems_at hv;obtain⟨h1,h2⟩:=argBest_lt (numAt xs) (xs.size-1);refine⟨.int _,H,I.kept (t':=tk) hk,⟨t,rfl⟩,q _ ?_ λa ha=>?_⟩
 ·rw[numAt_eq,<-hn]; exact getD_mem (by rw[BM,Do]; lia)
 ·rw[<-hn] at ha
  obtain⟨j,hj,rfl⟩:=mem_getD ha;rw[BM,Do] at hj;rw[<-numAt_eq]; exact h2 j (by lia)
end
section
variable{X:Cx}
theorem jx{prog:Fm}{w:World}{A:ID}{E:Value->B1->Prop}{s:B1}{t sl:Addr}{its:Array Value}{vl vu:Value}{lo hi:Option Int}{Q:Value->B1->Prop}(ht:IsTup s.heap t its)(hs:s.heap.IsSliceOf sl vl vu .none)(pl:N3 vl lo)(pu:N3 vu hi)
  (h0:HT.cM its.size 0 lo=0) (h1:HT.cM its.size its.size hi=its.size) (h:Q (.ref t) s):wpAny (model prog w) A (M7 (.ref t) (.ref sl)) Q E s:=by
 have T:s.TypeIs (.ref sl) "slice" := by obtain⟨o,a,b,_⟩:=id hs; exact⟨o,a,b⟩
 unfold M7
 first | with_reducible refine IK ?_ | skip
 first | refine AC (At ?_) | skip
 refine AC (wpAny_sequenceKey ht.typeIs (by decide) ?_)
 refine AC (Ii (name := "__getitem__") ht.typeIs JE (IR JE ht.typeIs Qd ?_ (Qz _ _)));show wpAny _ _ (Ml (.ref t) >>= _) _ _ s;refine AC (tupleItemsOf_ ht (AC (Ku T ?_)));rw[if_pos (by decide)]
 refine AC (HT.fR hs pl pu ?_);have c:(((HT.cM its.size 0 lo:Nat):Int) == 0 && (1:Int) == 1 && (HT.cM its.size its.size hi-HT.cM its.size 0 lo) == its.size)=true:=by
  rw[h0,h1,Ox,beq_self_eq_true its.size]; rfl
 show wpAny _ _ (if (((HT.cM its.size 0 lo:Nat):Int) == 0 && (1:Int) == 1 && (HT.cM its.size its.size hi-HT.cM its.size 0 lo) == its.size)=true then _ else _) _ _ s
 rw[if_pos c];refine AC (AC (Ku ht.typeIs (At ?_)));rw[if_pos (by decide)]
 first
  |exact AC (At (At ⟨_,rfl,At h⟩))
  |exact AC (Jb (At ⟨_,rfl,At h⟩))
  |exact Jb (At ⟨_,rfl,At h⟩)
  |trace_state
def rSlA(K:AT):V->Option Int->Option Int->Hp->VK->Prop:=λx lo hi H Q=>∃a xs,x=.ref a/\dc K H a xs/\∀r H',bD H H'->dc K H' r (kZ xs lo hi)->Q (.ref r) H'
theorem Bo:AZ X (rSlA X.K):=by
 intro pins s σ H x v vl vu lo hi sl Q I rx hs pl pu h;obtain⟨a,xs,rfl,hx,q⟩:=h
 by_cases hw:HT.cM xs.length 0 lo=0/\HT.cM xs.length xs.length hi=xs.length
 ·cases rx
  obtain⟨its,r,ht,hz⟩:=I.tuple hx;have hlen:its.toArray.size=xs.length:=by rw[Ee]; exact r.length.symm
  refine⟨"tuple",_,JE.lookup,ht.typeIs,?_⟩;refine jx ht hs pl pu (by rw[hlen]; exact hw.1) (by rw[hlen]; exact hw.2) ⟨.ref a,H,I,rfl,q a H (λ_ _ z=>z) ?_⟩
  have e:kZ xs lo hi=xs:=by unfold kZ; rw[hw.1,hw.2,KN,Ox,Jm]
  rw[e]; exact hx
 ·exact Dv pins s σ H _ v vl vu lo hi sl Q I rx hs pl pu ⟨a,xs,rfl,hx,hw,λp hp=>q p _ (cN hp _) (dc.of aB)⟩
end
end L2
end
section
namespace L2
open PySem PySem.Spec PyProof.Rows PySem.W
section
variable{prog:Fm}{w:World}{A:ID}{E:Value->B1->Prop}{s:B1}
theorem kc{T:String}{r d:Addr}{n:Nat}{P:Nat->Value->Prop}{OK:Heap->Prop}{Q:List Value->B1->Prop}(K:Qt prog w T r d n P OK)(hh:A.handled=none)(hok:OK s.heap)(hn:n<=FV)
  (hQ:∀h' tk acc,(∀b o,s.heap.get? b=some o->h'.get? b=some o)->s.heap.objs.size<h'.objs.size->ItemsOf P acc n->Q acc.toList { s with heap:=h',toks:=tk }):wpAny (model prog w) A (collect (.ref r)) Q E s:=by
 unfold collect;refine AC (Mv (Jj PySem.F.entry_proto_collect ?_));rw[Jo PySem.F.plain_proto_collect _];show wpAny _ A.in1 (newList [] >>= λl=>again (.builtin "list.__iadd__" ⟨[l,.ref r],[]⟩)) _ _ s
 refine AC (IB ?_);refine At ⟨MD O8 _,Jj PySem.F.entry_list_iadd ?_⟩;rw[Jo O8 _];have hlt:=K.there _ hok;have old:∀b o,s.heap.get? b=some o->(s.heap.push { cls:=.type "list",data:=.seq ([]:List Value).toArray }).get? b=some o:=λb o e=>Ap _ e
 have hok':OK (s.heap.push { cls:=.type "list",data:=.seq ([]:List Value).toArray }):=K.keep _ _ hok λb _ o e=>old b o e
 show wpAny _ A.in1 (LB (.ref s.heap.objs.size) (.ref r) (.ref s.heap.objs.size)) _ _ _;refine kdl_extend (R:=λres s'=>match res with
  |.ok (.ret v)=>wpAny (model prog w) A (match v with
   |.ref a=>do
    let o <-load a
    match o.data with
     |.seq xs _=>pure xs.toList
     |_=>Mz "internal:collect"
   |_=>Mz "internal:collect") Q E s'
  |.ok _=>False
  |.error e=>E e s') (s:={ s with heap:=s.heap.push { cls:=.type "list",data:=.seq ([]:List Value).toArray } }) K hh hok' s.heap.objs.size (KC hlt.1) (KC hlt.2) (.ref s.heap.objs.size) 0 (Da _ rfl) (λh' tk acc c hk hS hacc=>?_) hn
 show wpAny _ A (load s.heap.objs.size >>= _) _ _ _;refine AC (Qj hS ?_);exact At (hQ h' tk acc (λb o e=>hk b o (Db (Ch e)) (old b o e)) (Ch hS) hacc)
theorem sZ{T:String}{r d:Addr}{n:Nat}{P:Nat->Value->Prop}{OK:Heap->Prop}{ns:List Int}{Q:Value->B1->Prop}(K:Qt prog w T r d n P OK)(hh:A.handled=none)(hok:OK s.heap)(h64:n<64)
  (hP:∀acc,ItemsOf P acc n->JS acc.toList ns)
  (h:∀(l:Addr)(h':Heap)(tk e:Nat)(out:Array Value)(ns':List Int),s.heap.objs.size<=l->(∀b o,s.heap.get? b=some o->h'.get? b=some o)->h'.get? l=some (J7 "list" out e)->JS out.toList ns'->ns'.Perm ns->ns'.Pairwise (·<=·)->Q (.ref l) { s with heap:=h',toks:=tk }) :
  wpAny (model prog w) A (call (.builtin "sorted") [.ref r]) Q E s:=by
 refine Km OQ Nu Nw (Ny _) ?_;unfold J1.«sorted»;refine AC (m:=Oq "sorted" 1 1 _) (At ?_);refine AC (kc K hh hok (by rw[IX]; lia) λh1 tk acc kp lt1 hacc=>?_)
 have hsz:acc.toList.length=n:=by rw[Do]; exact hacc.1
 refine AC (LW ?_ (by rw[IX]; lia))
 have hoL:(h1.push (J7 "list" acc.toList.toArray 0)).get? h1.objs.size=some (J7 "list" acc.toList.toArray 0):=Da _ rfl;have le:s.heap.objs.size<=h1.objs.size:=JI lt1;show wpAny _ _ _ _ _ { s with heap:=h1.push (J7 "list" acc.toList.toArray 0),toks:=tk }
 refine AC (IK (IR N5 ⟨_,hoL,rfl⟩ Mg (list_sort_tree hoL (hP acc hacc) (by lia) λout ns' a1 a2 a3=>⟨_,rfl,?_⟩) (N6 _)))
 obtain⟨e,he⟩:=sortedHeap_at (out:=out) hoL;refine At ⟨_,rfl,h h1.objs.size _ tk e out ns' le (λb o q=>?_) he a1 a2 a3⟩
 have q1:=kp b o q;rw[sortedHeap_old (Db (Ch q1)) (by rw[HI]; exact JJ (Ch q1)),Ap _ q1]
end
theorem uR:∀{us:List Value}{ns:List Int},us.length=ns.length->(∀(j:Nat)(v:Value),us[j]? = some v->∃n t,ns[j]? = some n/\v=.int n t)->JS us ns
 |[],[],_,_=>.nil
 |[],_::_,h,_=>by simp at h
 |_::_,[],h,_=>by simp at h
 |u::us,n::ns,h,q=>by
  obtain⟨m,t,e,rfl⟩:=q 0 u rfl;have e:n=m:=Go e;subst e;exact .cons n t (uR (by simpa using h) λj v hv=>q (j+1) v hv)
theorem KV.at{κ:Type}{kvs:List (κ×V)}{vs:List (κ×Value)}(r:KV kvs vs):∀{j:Nat}{k:κ}{x:Value},vs[j]? = some (k,x)->∃y,kvs[j]? = some (k,y)/\RelV y x:=by
 induction r with
 |nil=>intro j k x h; simp at h
 |@cons a b as bs r1 t ih=>
  intro j k x h;cases j with
  |zero=>
   have h:b=(k,x):=Go h;subst h;obtain⟨k',y⟩:=a;obtain⟨e,r2⟩:=r1;have e:k'=k:=e;subst e;exact⟨y,rfl,r2⟩
  |succ j=>exact ih (by simpa using h)
section
variable{X:Cx}
theorem fX(hc:X.calm=true):bL X (.builtin "sorted") (λxs H Q=>∃a kvs ns,xs=[.ref a]/\H a=some (.dK kvs)/\kvs.map (·.1)=ns.map JP/\ns.length<64/\∀(ns':List Int)l,ns'.Perm ns->ns'.Pairwise (·<=·)->H l=none->Q (.ref l) (upd H l (.lst (ns'.map V.int)))):=by
 intro pins s σ H xs us Q I r h;obtain⟨a,kvs,ns,rfl,hq,ek,h64,q⟩:=h;obtain⟨u,rfl,rx⟩:=vals1 r;cases rx;obtain⟨hz,hS,vs,rv,m⟩:=uJ I.hok hq;obtain⟨ep,hm⟩:=m.dictAt;have ln:kvs.length=ns.length:=by
  have:=congrArg MW ek;rw[BM,BM] at this;exact this
 have lv:=rv.length;refine sZ (ns:=ns) (kdl_dict (knd:=aO X.prog X.w) (kvs:=vs) (ep:=ep) hS) (I.ok.hd hc) hm (by lia) (λacc hacc=>uR (by rw[Do,hacc.1]; lia) λj v hv=>?_) λl h' tk e out ns' hl kp he hI pm srt=>?_
 ·obtain⟨k,x,hkx,hk⟩:=hacc.2 j v (by rw[<-Hc]; exact hv)
  obtain⟨y,hy,_⟩:=rv.at hkx;have e1:(kvs.map (·.1))[j]? = some k:=by rw[IC,hy]; rfl
  rw[ek,IC] at e1;obtain⟨n,hn,rfl⟩:=JF.mp e1;have hk:kP (JP n) v=true:=hk;rcases bq hk with⟨i,t,e2,rfl⟩ | ⟨z,t,e2,_⟩
  ·cases e2
   exact⟨n,t,hn,rfl⟩
  ·cases e2
 ·have hv:Vals (ns'.map V.int) out.toList:=by
   clear he pm srt
   generalize out.toList=os at hI
   induction hI with
   |nil=>exact .nil
   |cons n t _ ih=>exact .cons ⟨_,rfl⟩ ih
  have hlen:(ns'.map V.int).length<=FV:=by
   rw[BM,pm.length_eq,IX]; lia
  refine⟨.ref l,_,I.laid (t':=tk) (a:=l) (o:=.lst (ns'.map V.int)) kp hl ?_,rfl,q ns' _ pm srt (I.hok.fresh hl)⟩;refine⟨hlen,out.toList,e,hv,?_⟩;rw[he]
end
end L2
end
section
namespace L2
open PySem PySem.Spec PyProof.Rows
section
variable{X:Cx}
theorem yL:ef X (IZ .IsNot) (λx y H Q=>∃a b,x=.bl a/\y=.bl b/\Q (.bl (!(a == b))) H):=by
 intro pins s σ H x y v u Q I rx ry h;obtain⟨a,b,rfl,rfl,q⟩:=h;cases rx;cases ry;refine At ⟨.bl (!(a == b)),H,I,?_,q⟩;cases a <;> cases b <;> rfl
end
section
variable{prog:Fm}{w:World}{A:ID}{E:Value->B1->Prop}{s:B1}
theorem qU{l:Addr}{vs:List Value}{Q:List Value->B1->Prop}(hl:IsTup s.heap l vs.toArray)(hsz:vs.length<=FV)
  (h:Q vs { s with heap:=(s.heap.push (J7 "list" #[] 0)).update s.heap.objs.size (JD (· ++ vs.toArray)) }):wpAny (model prog w) A (collect (.ref l)) Q E s:=by
 obtain⟨o,ho,hc,n,hd⟩:=id hl;unfold collect;refine AC (Mv (Jj entry_proto_collect' ?_));show wpAny _ _ (do again (.builtin "list.__iadd__" ⟨[<-newList [],.ref l],[]⟩)) _ _ s
 refine AC (LW (At ⟨Pc _ (by decide +kernel),Jj entry_list_iadd' ?_⟩))
 show wpAny _ _ (LB (.ref s.heap.objs.size) (.ref l) (.ref s.heap.objs.size)) _ _ { s with heap:=s.heap.push (J7 "list" #[] 0) }
 unfold LB;have ho':(s.heap.push (J7 "list" #[] 0)).get? l=some o:=Ap _ ho;refine AC (Ku (T := "tuple") ⟨o,ho',hc⟩ ?_);rw[if_pos (by rw[show (Lb "tuple" == Lb "tuple")=true from rfl]; simp)]
 refine AC (Pw ho' hd (AC (Pw (xs:=#[]) (n:=0) (Da _ rfl) rfl ?_)));rw[if_neg (by simp)]
 refine AC (NP (xs:=#[]) (n:=0) (Da _ rfl) rfl ?_ (Hn _) (by show (#[]++vs.toArray).size<=FV+1; simp only[Array.size_append,Ee,Ic]; lia))
 refine At ?_;show wpAny (model prog w) A (do
   let o <-load s.heap.objs.size
   match o.data with
   |.seq xs _=>pure xs.toList
   |_=>Mz "internal:collect") Q E { s with heap:=(s.heap.push (J7 "list" #[] 0)).update s.heap.objs.size (JD (· ++ vs.toArray)) }
 refine AC (Qj (get?_update_seq (Da _ rfl) _) ?_);show wpAny _ _ (pure ((#[]:Array Value)++vs.toArray).toList) Q E _;rw[show ((#[]:Array Value)++vs.toArray).toList=vs by simp]
 exact At h
theorem s9{l:Addr}{vs:List Value}{ns:List Int}{Q:Value->B1->Prop}(hl:IsTup s.heap l vs.toArray)(hI:JS vs ns)(h64:vs.length<64)
  (h:∀(out:Array Value)(ns':List Int),JS out.toList ns'->ns'.Perm ns->ns'.Pairwise (·<=·)->Q (.ref (s.heap.objs.size+1)) { s with heap:=sortedAll s.heap vs out }) :
  wpAny (model prog w) A (call (.builtin "sorted") [.ref l]) Q E s:=by
 refine Km OQ Nu Nw (Ny _) ?_;unfold J1.«sorted»;refine AC (m:=Oq "sorted" 1 1 _) (At ?_);refine AC (qU hl (by rw[IX]; lia) ?_)
 refine AC (LW ?_ (by rw[IX]; lia))
 have hsz:((s.heap.push (J7 "list" #[] 0)).update s.heap.objs.size (JD (· ++ vs.toArray))).objs.size=s.heap.objs.size+1:=by rw[M0,Qy]
 have hoL:(((s.heap.push (J7 "list" #[] 0)).update s.heap.objs.size (JD (· ++ vs.toArray))).push (J7 "list" vs.toArray 0)).get? (s.heap.objs.size+1)=some (J7 "list" vs.toArray 0):=by
  rw[<-hsz]; exact Da _ rfl
 show wpAny _ _ _ _ _ { s with heap:=((s.heap.push (J7 "list" #[] 0)).update s.heap.objs.size (JD (· ++ vs.toArray))).push (J7 "list" vs.toArray 0) }
 rw[hsz];refine AC (IK (IR N5 ⟨_,hoL,rfl⟩ Mg (list_sort_tree hoL hI h64 λout ns' a1 a2 a3=>⟨_,rfl,?_⟩) (N6 _)))
 exact At ⟨_,rfl,h out ns' a1 a2 a3⟩
end
section
variable{X:Cx}
theorem jQ:bL X (.builtin "sorted") (λxs H Q=>∃p ns,xs=[.ref p]/\dc X.K H p (ns.map V.int)/\ns.length<64/\∀(ns':List Int)l,ns'.Perm ns->ns'.Pairwise (·<=·)->H l=none->Q (.ref l) (upd H l (.lst (ns'.map V.int)))):=by
 intro pins s σ H xs us Q I r h;obtain⟨p,ns,rfl,hq,h64,q⟩:=h;obtain⟨u,rfl,rx⟩:=vals1 r;cases rx;obtain⟨its,rv,pl,hz⟩:=I.tuple hq;have hI:=intsAre_of rv;have hl:=rv.length;rw[BM] at hl;refine s9 pl hI (by lia) λout ns' ho hp hs=>?_
 obtain⟨e,he⟩:=Pu s.heap its out;have hv:Vals (ns'.map V.int) out.toList:=by
  clear he hp hs
  generalize out.toList=os at ho
  induction ho with
  |nil=>exact .nil
  |cons n t _ ih=>exact .cons ⟨_,rfl⟩ ih
 have hlen:(ns'.map V.int).length<=FV:=by rw[BM,hp.length_eq,IX]; lia
 refine⟨.ref (s.heap.objs.size+1),_,I.laid (t':=s.toks) (a:=s.heap.objs.size+1) (o:=.lst (ns'.map V.int)) (λb u e=>PU e) (Iq _) ?_,rfl,q ns' _ hp hs (I.hok.fresh (Iq _))⟩
 refine⟨hlen,out.toList,e,hv,?_⟩;rw[he]
end
end L2
end
section
namespace HT
open PySem PySem.Spec PyProof.Rows
noncomputable def fC:List Int->List Int->Bool
 |[],[]=>true
 |[],_::_=>false
 |_::_,[]=>true
 |x::xs,y::ys=>if x=y then fC xs ys else decide (x>=y)
theorem lH(x y:Int)(xs ys:List Int):fC (x::xs) (y::ys)=if x=y then fC xs ys else decide (x>=y):=rfl
theorem nC:fC [] []=true:=rfl
theorem lI(y:Int)(ys:List Int):fC [] (y::ys)=false:=rfl
theorem lJ(x:Int)(xs:List Int):fC (x::xs) []=true:=rfl
theorem n8:∀(xs ys:List Int),fC xs ys = !lexLt xs ys
 |[],[]=>rfl
 |[],_::_=>rfl
 |_::_,[]=>rfl
 |x::xs,y::ys=>by
  rw[lH,bN]
  by_cases e:x=y
  ·rw[if_pos e,if_pos e]; exact n8 xs ys
  ·rw[if_neg e,if_neg e]
   by_cases h:x<y
   ·rw[decide_eq_true h,decide_eq_false (by lia)]; rfl
   ·rw[decide_eq_false h,decide_eq_true (by lia)]; rfl
theorem yM(A:ID)(s:B1)(a:Int)(t:Tok)(c:Int)(u:Tok)(prog:Fm)(w:World)(E:Value->B1->Prop)(Q:Value->B1->Prop)(h:Q (.bool (decide (a>=c))) s) :
  wpAny (model prog w) A (richCompare .GtE (.int a t) (.int c u)) Q E s:=(Qc h:wpAny (model prog w) A (IZ .GtE (.int a t) (.int c u)) Q E s)
section
open PySem.SeqAt
open PySem.AutoSeq1 (wpAny_loadPart')
open PySem.MeetsSeq PySem.MeetsSeq2 PySem.MeetsSeq3
theorem nD(l b:Addr)(items items2:Array Value)(n n2:Nat)(dd dd2:Option Addr)(sl sl2:Array (Option Value))(ns ms:List Int)(hi:JS items.toList ns)(hj:JS items2.toList ms) :
  Meets (J1.«tuple.__ge__» ⟨[.ref l,.ref b],[]⟩)
   (λ_ R s=>s.heap.get? l=some { cls:=.type "tuple",dict:=dd,data:=.seq items n,slots:=sl }/\s.heap.get? b=some { cls:=.type "tuple",dict:=dd2,data:=.seq items2 n2,slots:=sl2 } /\
    R (.ok (.ret (.bool (fC ns ms)))) s) :=
 .of_wp λprog w A R s h=>by
  obtain⟨hp,g,d,tk,os⟩:=s; obtain⟨hl,hb,h⟩:=h;have f2:=Nd;have z1:items.size=ns.length:=by rw[<-hi.length]; simp
  have z2:items2.size=ms.length:=by rw[<-hj.length]; simp
  wp_walk using KG hl,KG hb,LR _ (λrest b s'=>b.1=none/\s'=⟨hp,g,d,tk,os⟩/\∃ (vs ws:List Value) (ns' ms':List Int),rest=vs.zip ws /\
   JS vs ns'/\JS ws ms'/\ns'.length+items2.size=ms'.length+items.size/\R (.ok (.ret (.bool (fC ns' ms')))) ⟨hp,g,d,tk,os⟩) _
  case turn=>
   rintro⟨y,x⟩ rest b s' ⟨hb',rfl,vs,ws,ns',ms',hz,hvi,hwi,hlen,hR⟩;cases hvi with
   |nil=>rw[Q0] at hz; cases hz
   |cons a t hvi' =>
    cases hwi with
    |nil=>rw[Pf] at hz; cases hz
    |cons c u hwi' =>
     rw[Jl] at hz
     injection hz with hyx hrest
     injection hyx with hy hx
     subst hy hx;rw[lH] at hR;simp only[Bz] at hlen;obtain⟨e,he,hiff⟩:=qF A.in1 ⟨hp,g,d,tk,os⟩ a t c u;refine AC (he prog w _ _ ?_);cases e with
     |true=>
      rw[if_pos (hiff.mp rfl)] at hR
      wp_walk
      exact⟨rfl,rfl,_,_,_,_,hrest,hvi',hwi',by lia,hR⟩
     |false=>
      rw[if_neg (λq=>absurd (hiff.mpr q) JC)] at hR
      have hri:=yM A.in1 ⟨hp,g,d,tk,os⟩ a t c u prog w
      wp_walk using hri
      exact⟨_,rfl,by simpa using hR⟩
  case fin=>
   rintro⟨b1,b2⟩ s' ⟨hb',rfl,vs,ws,ns',ms',hz,hvi,hwi,hlen,hR⟩;simp only at hb';subst hb';have hv:fC ns' ms'=decide (items.size>=items2.size):=by
    cases hvi with
    |nil=>
     cases hwi with
     |nil=>
      simp only[Ic] at hlen;rw[nC];exact(decide_eq_true (by lia)).symm
     |cons c u hw=>
      simp only[Ic,Bz] at hlen;rw[lI];exact(decide_eq_false (by lia)).symm
    |cons a t hv=>
     cases hwi with
     |nil=>
      simp only[Ic,Bz] at hlen;rw[lJ];exact(decide_eq_true (by lia)).symm
     |cons c u hw=>
      rw[Jl] at hz;cases hz
   rw[hv] at hR
   wp_walk
   exact⟨_,rfl,by simpa[MM] using hR⟩
  case h=>
   exact⟨rfl,rfl,items.toList,items2.toList,ns,ms,rfl,hi,hj,by lia,h⟩
end
section
variable{prog:Fm}{w:World}{A:ID}{E:Value->B1->Prop}{s:B1}
theorem tu{l b:Addr}{items items2:Array Value}{ns ms:List Int}{Q:Value->B1->Prop}(hl:IsTup s.heap l items)(hb:IsTup s.heap b items2)(hi:JS items.toList ns)(hj:JS items2.toList ms)
  (hu:A.units<cLine) (h:Q (.bool (fC ns ms)) s):wpAny (model prog w) A (IZ .GtE (.ref l) (.ref b)) Q E s:=by
 obtain⟨⟨cls,dd,data,sl⟩,ho,hc,n,hd⟩:=id hl;obtain⟨⟨cls2,dd2,data2,sl2⟩,ho2,hc2,n2,hd2⟩:=id hb;simp only at hc hd hc2 hd2;subst hc hd hc2 hd2;exact Pk (op:=.GtE) ⟨_,ho,rfl⟩ ⟨_,ho2,rfl⟩ PySem.F.slot_tuple_ge PySem.F.entry_tuple_ge (PySem.F.args_tuple_ge_2 _ _) (nD l b items items2 n n2 dd dd2 sl sl2 ns ms hi hj)
  ⟨ho,ho2,show Np (fC ns ms)≠Os/\Q (.bool (fC ns ms)) s from⟨(λx=>nomatch x),h⟩⟩ hu
end
end HT
namespace L2
open PySem PySem.Spec PyProof.Rows
section
variable{X:Cx}
noncomputable def rGeT(K:AT):R2:=λx y H Q=>∃a b ns ms,x=.ref a/\y=.ref b/\dc K H a (ns.map V.int)/\dc K H b (ms.map V.int)/\Q (.bl (!HT.lexLt ns ms)) H
theorem DT(hu:X.A.units<cLine):ef X (IZ .GtE) (rGeT X.K):=by
 intro pins s σ H x y v u Q I rx ry h;obtain⟨a,b,ns,ms,rfl,rfl,ha,hb,q⟩:=h;cases rx;cases ry;obtain⟨its,r1,p1,_⟩:=I.tuple ha;obtain⟨its2,r2,p2,_⟩:=I.tuple hb;refine HT.tu p1 p2 (intsAre_of r1) (intsAre_of r2) hu ⟨.bl (HT.fC ns ms),H,I,rfl,?_⟩;rw[HT.n8]; exact q
end
end L2
end
section
namespace VL
open PySem PySem.Spec L2 PyProof.Rows
abbrev Zs:=Addr->Prop
noncomputable def yN:Key->B2
 |.inl i=>.int i
 |.inr x=>.str x
def KL(K:AT)(a:Addr)(xs:List V):Prop:=∃ (o:Obj) (its:Array Value) (n:Nat),K.lookup a=some o/\o.cls=.type "list"/\o.dict=none/\o.data=.seq its n/\its.size<=FV/\Vals xs its.toList
mutual
inductive Fz(K:AT)(H:Hp)(Z:Zs):V->B2->Prop
 |non:Fz K H Z .non .none
 |bl (b:Bool):Fz K H Z (.bl b) (.bool b)
 |int (i:Int):Fz K H Z (.int i) (.int i)
 |str (x:Str):Fz K H Z (.str x) (.str x)
 |tup {a:Addr} {xs:List V} {ds:List B2}:dc K H a xs->bF K H Z xs ds->Fz K H Z (.ref a) (.tuple ds)
 |lst {a:Addr} {xs:List V} {ds:List B2}:Rd H a (.lst xs)->Z a->bF K H Z xs ds->Fz K H Z (.ref a) (.list ds)
 |lsK {a:Addr} {xs:List V} {ds:List B2}:KL K a xs->bF K H Z xs ds->Fz K H Z (.ref a) (.list ds)
 |aA {a:Addr} {kxs:List (Key×V)} {ds:List (Key×B2)}:H a=some (.dK kxs)->Z a->gH K H Z kxs ds->Fz K H Z (.ref a) (.dict (ds.map λp=>(yN p.1,p.2)))
 |dtp {a:Addr} {kxs:List (List Key×V)} {ds:List (List Key×B2)}:H a=some (.dT kxs)->Z a->kxs.map (·.1)=ds.map (·.1)->bF K H Z (kxs.map (·.2)) (ds.map (·.2))->Fz K H Z (.ref a) (.dict (ds.map λp=>(.tuple (p.1.map yN),p.2)))
inductive bF(K:AT)(H:Hp)(Z:Zs):List V->List B2->Prop
 |nil:bF K H Z [] []
 |cons {x:V} {d:B2} {xs:List V} {ds:List B2}:Fz K H Z x d->bF K H Z xs ds->bF K H Z (x::xs) (d::ds)
inductive gH(K:AT)(H:Hp)(Z:Zs):List (Key×V)->List (Key×B2)->Prop
 |nil:gH K H Z [] []
 |cons {k:Key} {x:V} {d:B2} {xs:List (Key×V)} {ds:List (Key×B2)}:Fz K H Z x d->gH K H Z xs ds->gH K H Z ((k,x)::xs) ((k,d)::ds)
end
structure aL(H:Hp)(Z:Zs)(H':Hp)(Z':Zs):Prop where
 tups:eB H H'
 keep:∀a o,Z a->H a=some o->H' a=some o
 zs:∀a,Z a->Z' a
theorem aL.refl{H:Hp}{Z:Zs}:aL H Z H Z:=⟨eB.refl,λ_ _ _ h=>h,λ_ h=>h⟩
theorem aL.trans{H H1 H2:Hp}{Z Z1 Z2:Zs}(g:aL H Z H1 Z1)(h:aL H1 Z1 H2 Z2):aL H Z H2 Z2:=⟨g.tups.trans h.tups,λa o z e=>h.keep a o (g.zs a z) (g.keep a o z e),λa z=>h.zs a (g.zs a z)⟩
section
variable{K:AT}{H H':Hp}{Z Z':Zs}
mutual
theorem Fz.mono(g:aL H Z H' Z'):∀{x:V}{d:B2},Fz K H Z x d->Fz K H' Z' x d
 |_,_,.non=>.non
 |_,_,.bl b=>.bl b
 |_,_,.int i=>.int i
 |_,_,.str x=>.str x
 |_,_,.tup h r=>.tup (g.tups.sq h) (bF.mono g r)
 |_,_,.lst (a:=a) h z r=>.lst (by
  rcases h with e | ⟨o,e⟩
  ·exact .inl (g.keep a _ z e)
  ·exact .inr ⟨o,g.keep a _ z e⟩) (g.zs _ z) (bF.mono g r)
 |_,_,.lsK h r=>.lsK h (bF.mono g r)
 |_,_,.aA (a:=a) h z r=>.aA (g.keep a _ z h) (g.zs _ z) (gH.mono g r)
 |_,_,.dtp (a:=a) h z e r=>.dtp (g.keep a _ z h) (g.zs _ z) e (bF.mono g r)
theorem bF.mono(g:aL H Z H' Z'):∀{x:List V}{d:List B2},bF K H Z x d->bF K H' Z' x d
 |_,_,.nil=>.nil
 |_,_,.cons h r=>.cons (Fz.mono g h) (bF.mono g r)
theorem gH.mono(g:aL H Z H' Z'):∀{x:List (Key×V)}{d:List (Key×B2)},gH K H Z x d->gH K H' Z' x d
 |_,_,.nil=>.nil
 |_,_,.cons h r=>.cons (Fz.mono g h) (gH.mono g r)
end
theorem bF.length:∀{xs:List V}{ds:List B2},bF K H Z xs ds->xs.length=ds.length:=by
 intro xs
 induction xs with
 |nil=>intro ds h; cases h; rfl
 |cons x xs ih=>intro ds h; cases h with | cons _ r=>rw[Bz,Bz,ih r]
theorem bF.get':∀{xs:List V}{ds:List B2}{i:Nat}{d:B2},bF K H Z xs ds->ds[i]? = some d->∃x,xs[i]? = some x/\Fz K H Z x d:=by
 intro xs
 induction xs with
 |nil=>intro ds i d h e; cases h; simp at e
 |cons x xs ih=>
  intro ds i d h e;cases h with | cons r t=>
  cases i with
  |zero=>simp at e; subst e; exact⟨_,rfl,r⟩
  |succ i=>
   obtain⟨d,h1,h2⟩:=ih (i:=i) t (by simpa using e)
   exact⟨d,by simpa using h1,h2⟩
theorem bF.append:∀{xs ys:List V}{ds es:List B2},bF K H Z xs ds->bF K H Z ys es->bF K H Z (xs++ys) (ds++es):=by
 intro xs
 induction xs with
 |nil=>intro ys ds es h s; cases h; exact s
 |cons x xs ih=>intro ys ds es h s; cases h with | cons h r=>exact .cons h (ih r s)
theorem bF.take:∀{xs:List V}{ds:List B2}(n:Nat),bF K H Z xs ds->bF K H Z (xs.take n) (ds.take n)
 |_,_,0,_=>by rw[O9,O9]; exact .nil
 |_,_,n+1,.nil=>by rw[R5,R5]; exact .nil
 |_,_,n+1,.cons h r=>.cons h (bF.take n r)
theorem bF.drop:∀{xs:List V}{ds:List B2}(n:Nat),bF K H Z xs ds->bF K H Z (xs.drop n) (ds.drop n)
 |_,_,0,h=>h
 |_,_,n+1,.nil=>by rw[Mo,Mo]; exact .nil
 |_,_,n+1,.cons h r=>bF.drop n r
theorem bF.set:∀{xs:List V}{ds:List B2}{x:V}{d:B2}(i:Nat),bF K H Z xs ds->Fz K H Z x d->bF K H Z (xs.set i x) (ds.set i d):=by
 intro xs
 induction xs with
 |nil=>intro ds x d i h _; cases h; exact .nil
 |cons y xs ih=>
  intro ds x d i h q;cases h with | cons p r=>
  cases i with
  |zero=>exact .cons q r
  |succ i=>exact .cons p (ih i r q)
theorem gH.length:∀{xs:List (Key×V)}{ds:List (Key×B2)},gH K H Z xs ds->xs.length=ds.length:=by
 intro xs
 induction xs with
 |nil=>intro ds h; cases h; rfl
 |cons x xs ih=>intro ds h; cases h with | cons _ r=>rw[Bz,Bz,ih r]
theorem gH.keys:∀{xs:List (Key×V)}{ds:List (Key×B2)},gH K H Z xs ds->xs.map (·.1)=ds.map (·.1)
 |_,_,.nil=>rfl
 |_,_,.cons _ r=>by rw[FC,FC,gH.keys r]
theorem Fz.int_inv{x:V}{i:Int}(h:Fz K H Z x (.int i)):x=.int i:=by cases h; rfl
theorem Fz.tw{x:V}{i:Bool}(h:Fz K H Z x (.bool i)):x=.bl i:=by cases h; rfl
theorem Fz.str_inv{x:V}{i:Str}(h:Fz K H Z x (.str i)):x=.str i:=by cases h; rfl
theorem Fz.uS{x:V}(h:Fz K H Z x .none):x=.non:=by cases h; rfl
theorem Fz.gu{x:V}{ds:List B2}(h:Fz K H Z x (.tuple ds)):∃a xs,x=.ref a/\dc K H a xs/\bF K H Z xs ds:=by
 cases h with
 |tup q r=>exact⟨_,_,rfl,q,r⟩
theorem Fz.lst_inv{x:V}{ds:List B2}(h:Fz K H Z x (.list ds)):∃a xs,x=.ref a/\fB K H a xs/\bF K H Z xs ds:=by
 cases h with
 |lst q z r=>exact⟨_,_,rfl,.inl q,r⟩
 |lsK q r=>exact⟨_,_,rfl,.inr q,r⟩
theorem bF.ints:∀(ns:List Int),bF K H Z (ns.map V.int) (ns.map .int)
 |[]=>.nil
 |n::ns=>.cons (.int n) (bF.ints ns)
theorem bF.dh:∀{ns:List Int}{xs:List V},bF K H Z xs (ns.map .int)->xs=ns.map V.int:=by
 intro ns
 induction ns with
 |nil=>intro xs h; cases h; rfl
 |cons n ns ih=>
  intro xs h;cases h with | cons q r=>
  cases q;rw[ih r]; rfl
end
section
variable{X:Cx}{pins:List (Addr×Obj)}{σ:L2.St}{H:Hp}{s:B1}{Z:Zs}
mutual
theorem Fz.reads(I:Inv X pins σ H s):∀{v:V}{d:B2}{u:Value},Fz X.K H Z v d->d.canLay0=true->RelV v u->∃as,Reads s.heap u d as
 |_,_,_,.non,_,r=>by cases r; exact⟨_,.none⟩
 |_,_,_,.bl b,_,r=>by cases r; exact⟨_,.bool b⟩
 |_,_,_,.int i,_,r=>by obtain⟨t,rfl⟩:=r; exact⟨_,.int i t⟩
 |_,_,_,.str x,_,r=>by obtain⟨t,rfl⟩:=r; exact⟨_,.str x t⟩
 |_,_,_,.tup q rs,c,r=>by
  cases r;obtain⟨its,rv,⟨o,ho,hc,n,hd⟩,_⟩:=I.tuple q;obtain⟨as,h⟩:=bF.reads I rs c rv;exact⟨as,.tuple ho hc hd (by simpa using h)⟩
 |_,_,_,.lst q z rs,c,r=>by
  cases r;obtain⟨its,rv,⟨o,n,ho,hc,hdd,hd⟩,_⟩:=I.list (.inl q);obtain⟨as,h⟩:=bF.reads I rs c rv;exact⟨_,.list ho hc hd (by simpa using h)⟩
 |_,_,_,.lsK q rs,c,r=>by
  cases r;obtain⟨its,rv,⟨o,n,ho,hc,hdd,hd⟩,_⟩:=I.list (.inr q);obtain⟨as,h⟩:=bF.reads I rs c rv;exact⟨_,.list ho hc hd (by simpa using h)⟩
 |_,_,_,.aA _ _ _,c,_=>nomatch c
 |_,_,_,.dtp _ _ _ _,c,_=>nomatch c
theorem bF.reads(I:Inv X pins σ H s):∀{v:List V}{d:List B2}{u:List Value},bF X.K H Z v d->Il d=true->Vals v u->∃as,QK s.heap u d as
 |_,_,_,.nil,_,.nil=>⟨_,.nil⟩
 |_,_,_,.cons (d:=d) (ds:=ds) r q,c,.cons a b=>by
  have c':d.canLay0=true/\Il ds=true:=by simpa[Il] using c
  obtain⟨x,h1⟩:=Fz.reads I r c'.1 a;obtain⟨y,h2⟩:=bF.reads I q c'.2 b;exact⟨_,.cons h1 h2⟩
end
end
end VL
end
section
namespace VL
open PySem PySem.Spec L2 PyProof.Rows
inductive M where
 |v (d:B2)
 |lst (ds:List B2)
 |aA (kvs:List (Key×B2))
 |bW (kvs:List (Key×List B2))
 |dtp (kvs:List (List Key×B2))
abbrev Ev:=List (Option M)
section
variable(K:AT)(H:Hp)(Z:Zs)
inductive iy:List (Key×V)->List (Key×List B2)->List Addr->Prop
 |nil:iy [] [] []
 |cons {k:Key} {b:Addr} {xs:List V} {ds:List B2} {kxs:List (Key×V)} {kvs:List (Key×List B2)} {G:List Addr}:H b=some (.lst xs)->bF K H Z xs ds->iy kxs kvs G->iy ((k,.ref b)::kxs) ((k,ds)::kvs) (b::G)
inductive Ow:V->M->List Addr->Prop
 |v {x:V} {d:B2}:Fz K H Z x d->Ow x (.v d) []
 |lst {a:Addr} {xs:List V} {ds:List B2}:H a=some (.lst xs)->bF K H Z xs ds->Ow (.ref a) (.lst ds) [a]
 |aA {a:Addr} {kxs:List (Key×V)} {kvs:List (Key×B2)}:H a=some (.dK kxs)->gH K H Z kxs kvs->Ow (.ref a) (.aA kvs) [a]
 |bW {a:Addr} {kxs:List (Key×V)} {kvs:List (Key×List B2)} {G:List Addr}:H a=some (.dK kxs)->iy K H Z kxs kvs G->Ow (.ref a) (.bW kvs) (a::G)
 |dtp {a:Addr} {kxs:List (List Key×V)} {kvs:List (List Key×B2)}:H a=some (.dT kxs)->kxs.map (·.1)=kvs.map (·.1)->bF K H Z (kxs.map (·.2)) (kvs.map (·.2))->Ow (.ref a) (.dtp kvs) [a]
inductive aR:L2.St->Ev->List Addr->Prop
 |nil:aR [] [] []
 |non {x:Option V} {σ:L2.St} {ρ:Ev} {F:List Addr}:aR σ ρ F->aR (x::σ) (none::ρ) F
 |som {x:V} {m:M} {G:List Addr} {σ:L2.St} {ρ:Ev} {F:List Addr}:Ow K H Z x m G->aR σ ρ F->aR (some x::σ) (some m::ρ) (G++F)
end
def Mu(o:HO):Prop:=(∃xs,o=.lst xs)\/(∃kvs,o=.dK kvs)\/∃kvs,o=.dT kvs
structure Wf(H:Hp)(Z:Zs)(F:List Addr):Prop where
 nd:F.Nodup
 dz:∀a∈F,¬Z a
 za:∀a,Z a->H a≠none
structure aH(H:Hp)(Z:Zs)(F:List Addr)(H':Hp)(Z':Zs)(F':List Addr):Prop where
 keep:∀a o,a∉F->H a=some o->H' a=some o
 tups:eB H H'
 zs:∀a,Z a->Z' a
 zn:∀a,Z' a->Z a\/a∈F\/H a=none
 fr:∀a∈F',a∈F\/H a=none
 nd:F'.Nodup
 dz:∀a∈F',¬Z' a
 za:∀a,Z' a->H' a≠none
section
variable{K:AT}{H H' H1 H2:Hp}{Z Z' Z1 Z2:Zs}{F F' F1 F2 G:List Addr}
theorem aH.refl(w:Wf H Z F):aH H Z F H Z F:=⟨λ_ _ _ h=>h,eB.refl,λ_ h=>h,λ_ h=>.inl h,λ_ h=>.inl h,w.nd,w.dz,w.za⟩
theorem aH.wf(f:aH H Z F H' Z' F'):Wf H' Z' F':=⟨f.nd,f.dz,f.za⟩
theorem aH.grow(f:aH H Z F H' Z' F')(w:Wf H Z F):aL H Z H' Z':=⟨f.tups,λa o z e=>f.keep a o (λh=>w.dz a h z) e,f.zs⟩
theorem aH.trans(f:aH H Z F H1 Z1 F1)(g:aH H1 Z1 F1 H2 Z2 F2):aH H Z F H2 Z2 F2:=by
 have old:∀a,H1 a=none->a∈F\/H a=none:=λa e=>by
  by_cases h:a∈F
  ·exact .inl h
  ·cases q:H a with
   |none=>exact .inr rfl
   |some o=>rw[f.keep a o h q] at e; cases e
 refine⟨λa o h e=>g.keep a o (λz=>?_) (f.keep a o h e),f.tups.trans g.tups,λa z=>g.zs a (f.zs a z),λa z=>?_,λa h=>?_,g.nd,g.dz,g.za⟩
 ·rcases f.fr a z with z | z
  ·exact h z
  ·rw[e] at z; cases z
 ·rcases g.zn a z with z | z | z
  ·exact f.zn a z
  ·exact .inr (f.fr a z)
  ·exact .inr (old a z)
 ·rcases g.fr a h with z | z
  ·exact f.fr a z
  ·exact old a z
theorem aH.frame(f:aH H Z F H' Z' F')(w:Wf H Z (F++G))(al:∀a∈G,H a≠none):aH H Z (F++G) H' Z' (F'++G):=by
 have nd:=FM.mp w.nd;have sep:∀a∈G,a∉F:=λa h z=>nd.2.2 a z a h rfl
 refine⟨λa o h e=>f.keep a o (λz=>h (lL _ z)) e,f.tups,f.zs,λa z=>?_,λa h=>?_,?_,λa h z=>?_,f.za⟩
 ·rcases f.zn a z with z | z | z
  ·exact .inl z
  ·exact .inr (.inl (lL _ z))
  ·exact .inr (.inr z)
 ·rcases lM h with h | h
  ·rcases f.fr a h with z | z
   ·exact .inl (lL _ z)
   ·exact .inr z
  ·exact .inl (lR _ h)
 ·refine FM.mpr ⟨f.nd,nd.2.1,λa h b h' e=>?_⟩
  subst e;rcases f.fr a h with z | z
  ·exact sep a h' z
  ·exact al a h' z
 ·rcases lM h with h | h
  ·exact f.dz a h z
  ·rcases f.zn a z with z | z | z
   ·exact w.dz a (lR _ h) z
   ·exact sep a h z
   ·exact al a h z
theorem aH.sub(f:aH H Z F H' Z' F')(hn:F1.Nodup)(hs:∀a∈F1,a∈F'):aH H Z F H' Z' F1:=⟨f.keep,f.tups,f.zs,f.zn,λa h=>f.fr a (hs a h),hn,λa h=>f.dz a (hs a h),f.za⟩
theorem aH.left(f:aH H Z F H' Z' (F1++G)):aH H Z F H' Z' F1:=f.sub (FM.mp f.nd).1 λ_ h=>lL _ h
theorem aH.nil(f:aH H Z F H' Z' F1):aH H Z F H' Z' (F1++[]):=by rw[EQ]; exact f
theorem aH.swap(f:aH H Z F H' Z' (F1++G)):aH H Z F H' Z' (G++F1):=f.sub (by
  have h:=FM.mp f.nd;exact FM.mpr ⟨h.2.1,h.1,λa x b y e=>h.2.2 b y a x e.symm⟩) λa h=>by
  rcases lM h with h | h
  ·exact lR _ h
  ·exact lL _ h
theorem iy.mem:∀{kxs:List (Key×V)}{kvs:List (Key×List B2)}{G:List Addr},iy K H Z kxs kvs G->∀a∈G,∃o,H a=some o/\Mu o:=by
 intro kxs kvs G r
 induction r with
 |nil=>intro a h; simp at h
 |cons e _ r ih=>
  intro a h;rcases lK h with h | h
  ·subst h; exact⟨_,e,.inl ⟨_,rfl⟩⟩
  ·exact ih a h
theorem Ow.mem{x:V}{m:M}(h:Ow K H Z x m G):∀a∈G,∃o,H a=some o/\Mu o:=λa ha=>by
 cases h with
 |v _=>simp at ha
 |lst e _=>rw[D1] at ha; subst ha; exact⟨_,e,.inl ⟨_,rfl⟩⟩
 |aA e _=>rw[D1] at ha; subst ha; exact⟨_,e,.inr (.inl ⟨_,rfl⟩)⟩
 |dtp e _ _=>rw[D1] at ha; subst ha; exact⟨_,e,.inr (.inr ⟨_,rfl⟩)⟩
 |bW e r=>
  rcases lK ha with ha | ha
  ·subst ha; exact⟨_,e,.inr (.inl ⟨_,rfl⟩)⟩
  ·exact r.mem a ha
theorem Ow.al{x:V}{m:M}(h:Ow K H Z x m G):∀a∈G,H a≠none:=λa ha e=>by obtain⟨o,q,_⟩:=h.mem a ha; rw[q] at e; cases e
theorem aR.mem:∀{σ:L2.St}{ρ:Ev}{F:List Addr},aR K H Z σ ρ F->∀a∈F,∃o,H a=some o/\Mu o:=by
 intro σ ρ F r
 induction r with
 |nil=>intro a h; simp at h
 |non _ ih=>exact ih
 |som q r ih=>
  intro a h;rcases lM h with h | h
  ·exact q.mem a h
  ·exact ih a h
theorem aR.al{σ:L2.St}{ρ:Ev}(h:aR K H Z σ ρ F):∀a∈F,H a≠none:=λa ha e=>by obtain⟨o,q,_⟩:=h.mem a ha; rw[q] at e; cases e
theorem iy.mono(g:aL H Z H' Z'):∀{kxs:List (Key×V)}{kvs:List (Key×List B2)}{G:List Addr},iy K H Z kxs kvs G->(∀a∈G,∀o,H a=some o->H' a=some o)->iy K H' Z' kxs kvs G:=by
 intro kxs kvs G r
 induction r with
 |nil=>exact λ_=>.nil
 |cons e f r ih=>exact λk=>.cons (k _ lS _ e) (f.mono g) (ih λa h=>k a (lO _ h))
theorem Ow.mono{x:V}{m:M}(g:aL H Z H' Z')(h:Ow K H Z x m G)(k:∀a∈G,∀o,H a=some o->H' a=some o):Ow K H' Z' x m G:=by
 cases h with
 |v f=>exact .v (f.mono g)
 |lst e f=>exact .lst (k _ lS _ e) (f.mono g)
 |aA e f=>exact .aA (k _ lS _ e) (f.mono g)
 |dtp e n f=>exact .dtp (k _ lS _ e) n (f.mono g)
 |bW e f=>exact .bW (k _ lS _ e) (f.mono g λa h=>k a (lO _ h))
theorem aR.mono(g:aL H Z H' Z'):∀{σ:L2.St}{ρ:Ev}{F:List Addr},aR K H Z σ ρ F->(∀a∈F,∀o,H a=some o->H' a=some o)->aR K H' Z' σ ρ F:=by
 intro σ ρ F r
 induction r with
 |nil=>exact λ_=>.nil
 |non r ih=>exact λk=>.non (ih k)
 |som q r ih=>exact λk=>.som (q.mono g λa h=>k a (lL _ h)) (ih λa h=>k a (lR _ h))
theorem aR.get:∀{σ:L2.St}{ρ:Ev}{F:List Addr}{i:Nat}{m:M},aR K H Z σ ρ F->ρ[i]? = some (some m)->∃x G,σ[i]? = some (some x)/\Ow K H Z x m G/\∀a∈G,a∈F:=by
 intro σ ρ F i m r
 induction r generalizing i with
 |nil=>intro e; simp at e
 |non r ih=>
  intro e;cases i with
  |zero=>simp at e
  |succ i=>
   obtain⟨x,G,h1,h2,h3⟩:=ih (i:=i) (by simpa using e)
   exact⟨x,G,by simpa using h1,h2,h3⟩
 |som q r ih=>
  intro e;cases i with
  |zero=>simp at e; subst e; exact⟨_,_,rfl,q,λa h=>lL _ h⟩
  |succ i=>
   obtain⟨x,G,h1,h2,h3⟩:=ih (i:=i) (by simpa using e)
   exact⟨x,G,by simpa using h1,h2,λa h=>lR _ (h3 a h)⟩
theorem aR.take:∀{σ:L2.St}{ρ:Ev}{F:List Addr}{i:Nat}{m:M},aR K H Z σ ρ F->F.Nodup->ρ[i]? = some (some m) ->
  ∃x G F1,σ[i]? = some (some x)/\Ow K H Z x m G/\aR K H Z σ (ρ.set i none) F1/\(F1++G).Nodup/\∀a,a∈F1++G->a∈F:=by
 intro σ ρ F i m r
 induction r generalizing i with
 |nil=>intro _ e; simp at e
 |non r ih=>
  intro nd e;cases i with
  |zero=>simp at e
  |succ i=>
   obtain⟨x,G,F1,h1,h2,h3,h4,h5⟩:=ih (i:=i) nd (by simpa using e)
   exact⟨x,G,F1,by simpa using h1,h2,.non h3,h4,h5⟩
 |@som x0 m0 G0 σ ρ F q r ih=>
  intro nd e;have h:=FM.mp nd;cases i with
  |zero=>
   simp at e; subst e;exact⟨_,G0,F,rfl,q,.non r,FM.mpr ⟨h.2.1,h.1,λa x b y e=>h.2.2 b y a x e.symm⟩,λa h=>by
    rcases lM h with h | h
    ·exact lR _ h
    ·exact lL _ h⟩
  |succ i=>
   obtain⟨x,G,F1,h1,h2,h3,h4,h5⟩:=ih (i:=i) h.2.1 (by simpa using e)
   refine⟨x,G,G0++F1,by simpa using h1,h2,.som q h3,?_,λa z=>?_⟩
   ·rw[Bi]
    exact FM.mpr ⟨h.1,h4,λa x b y e=>h.2.2 a x b (h5 b y) e⟩
   ·rw[Bi] at z
    rcases lM z with z | z
    ·exact lL _ z
    ·exact lR _ (h5 a z)
theorem aR.drop:∀{σ:L2.St}{ρ:Ev}{F:List Addr}(i:Nat),aR K H Z σ ρ F->F.Nodup->∃F1,aR K H Z σ (ρ.set i none) F1/\F1.Nodup/\∀a∈F1,a∈F:=by
 intro σ ρ F i r
 induction r generalizing i with
 |nil=>exact λnd=>⟨_,.nil,nd,λ_ h=>h⟩
 |non r ih=>
  intro nd;cases i with
  |zero=>exact⟨_,.non r,nd,λ_ h=>h⟩
  |succ i=>
   obtain⟨F1,h1,h2,h3⟩:=ih i nd;exact⟨F1,.non h1,h2,h3⟩
 |@som x0 m0 G0 σ ρ F q r ih=>
  intro nd;have h:=FM.mp nd;cases i with
  |zero=>exact⟨_,.non r,h.2.1,λ_ h=>lR _ h⟩
  |succ i=>
   obtain⟨F1,h1,h2,h3⟩:=ih i h.2.1;refine⟨G0++F1,.som q h1,FM.mpr ⟨h.1,h2,λa x b y e=>h.2.2 a x b (h3 b y) e⟩,λa z=>?_⟩
   rcases lM z with z | z
   ·exact lL _ z
   ·exact lR _ (h3 a z)
theorem aR.put:∀{σ:L2.St}{ρ:Ev}{F:List Addr}{i:Nat}{x:V}{m:M}{G:List Addr},aR K H Z σ ρ F->Ow K H Z x m G->(F++G).Nodup->ρ[i]? = some none ->
  ∃F1,aR K H Z (σ.set i (some x)) (ρ.set i (some m)) F1/\F1.Nodup/\∀a∈F1,a∈F++G:=by
 intro σ ρ F i x m G r h
 induction r generalizing i with
 |nil=>intro _ e; simp at e
 |@non _ σ ρ F r ih=>
  intro nd e;cases i with
  |zero=>
   have h':=FM.mp nd;exact⟨G++F,.som h r,FM.mpr ⟨h'.2.1,h'.1,λa x b y e=>h'.2.2 b y a x e.symm⟩,λa h=>by
    rcases lM h with h | h
    ·exact lR _ h
    ·exact lL _ h⟩
  |succ i=>
   obtain⟨F1,h1,h2,h3⟩:=ih (i:=i) nd (by simpa using e)
   exact⟨F1,.non h1,h2,h3⟩
 |@som x0 m0 G0 σ ρ F q r ih=>
  intro nd e;cases i with
  |zero=>simp at e
  |succ i=>
   rw[Bi] at nd;have h':=FM.mp nd;obtain⟨F1,h1,h2,h3⟩:=ih (i:=i) h'.2.1 (by simpa using e)
   refine⟨G0++F1,.som q h1,FM.mpr ⟨h'.1,h2,λa x b y e=>h'.2.2 a x b (h3 b y) e⟩,λa z=>?_⟩
   rw[Bi];rcases lM z with z | z
   ·exact lL _ z
   ·exact lR _ (h3 a z)
end
inductive cR where
 |t (m:M)
 |p (i:Nat)
 |q (i:Nat) (k:Key)
noncomputable def bE{α:Type}(kvs:List (Key×α))(k:Key):Option α:=(kvs.find? λkv=>decide (kv.1=k)).map (·.2)
noncomputable def cS(ρ:Ev)(i:Nat):Option M:=match ρ[i]? with
 |some (some m)=>some m
 |_=>none
theorem aF{ρ:Ev}{i:Nat}{m:M}:cS ρ i=some m↔ρ[i]? = some (some m):=by
 unfold cS
 split
 ·next h=>rw[h]; simp
 ·next h=>
  exact⟨λe=>(nomatch e),λe=>(h m e).elim⟩
noncomputable def jy(ρ:Ev):cR->Option M
 |.t m=>some m
 |.p i=>cS ρ i
 |.q _ _=>none
noncomputable def peek(ρ:Ev):cR->Option M
 |.t m=>some m
 |.p i=>cS ρ i
 |.q i k=>match cS ρ i with
  |some (.bW kvs)=>(bE kvs k).map .lst
  |_=>none
noncomputable def gI(ρ:Ev):List cR->Option (List M)
 |[]=>some []
 |o::os=>(peek ρ o).bind λm=>(gI ρ os).bind λms=>some (m::ms)
theorem dJ{ρ:Ev}{o:cR}{m:M}(h:jy ρ o=some m):peek ρ o=some m:=by
 cases o with
 |t _=>exact h
 |p _=>exact h
 |q _ _=>cases h
inductive mY(K:AT)(H:Hp)(Z:Zs)(σ:L2.St):V->cR->List Addr->Prop
 |t {x:V} {m:M} {G:List Addr}:Ow K H Z x m G->mY K H Z σ x (.t m) G
 |p {x:V} {i:Nat}:σ[i]? = some (some x)->mY K H Z σ x (.p i) []
 |q {x:V} {i:Nat} {k:Key} {a:Addr} {kxs:List (Key×V)}:σ[i]? = some (some (.ref a))->H a=some (.dK kxs)->fS kxs k=some x->mY K H Z σ x (.q i k) []
inductive jz(K:AT)(H:Hp)(Z:Zs)(σ:L2.St):List V->List cR->List Addr->Prop
 |nil:jz K H Z σ [] [] []
 |cons {x:V} {o:cR} {G:List Addr} {xs:List V} {os:List cR} {G':List Addr}:mY K H Z σ x o G->jz K H Z σ xs os G'->jz K H Z σ (x::xs) (o::os) (G++G')
def Ro(K:AT)(H:Hp)(Z:Zs)(x:V)(m:M):Prop:=∃G,Ow K H Z x m G
def Fc(K:AT)(H:Hp)(Z:Zs):List V->List M->Prop:=JQ (Ro K H Z)
section
variable{K:AT}{H H' H1 H2 H3:Hp}{Z Z' Z1 Z2 Z3:Zs}{F F' F1 F2 G:List Addr}{σ:L2.St}{ρ:Ev}
theorem iy.get:∀{kxs:List (Key×V)}{kvs:List (Key×List B2)}{G:List Addr}{k:Key}{ds:List B2},iy K H Z kxs kvs G->bE kvs k=some ds->∃b xs,fS kxs k=some (.ref b)/\H b=some (.lst xs)/\bF K H Z xs ds/\b∈G:=by
 intro kxs kvs G k ds h
 induction h with
 |nil=>intro e; cases e
 |@cons k' b xs ds' kxs kvs G h f r ih=>
  intro e;unfold bE at e;rw[JO] at e;unfold fS;rw[JO]
  by_cases hk:k'=k
  ·simp only[hk,decide_true,M4] at e ⊢
   cases e;exact⟨b,_,rfl,h,f,lS⟩
  ·simp only[hk,decide_false] at e ⊢
   obtain⟨b',xs,h1,h2,h3,h4⟩:=ih e;exact⟨b',xs,h1,h2,h3,lO _ h4⟩
theorem mY.peek{x:V}{o:cR}{m:M}(S:aR K H Z σ ρ F)(h:mY K H Z σ x o G)(e:VL.peek ρ o=some m):Ro K H Z x m:=by
 cases h with
 |t q=>cases e; exact⟨_,q⟩
 |p q=>
  obtain⟨x',G',h1,h2,_⟩:=S.get (aF.mp e);rw[q] at h1; cases h1;exact⟨_,h2⟩
 |q h1 h2 h3=>
  rename_i i k a kxs
  have e:(match cS ρ i with
   |some (.bW kvs)=>(bE kvs k).map M.lst
   |_=>none)=some m:=e
  split at e
  ·next kvs hk=>
   obtain⟨x',G',q1,q2,_⟩:=S.get (aF.mp hk);rw[h1] at q1; cases q1;obtain⟨ds,e1,e2⟩:=JF.mp e;subst e2;cases q2 with
   |bW q3 q4=>
    rw[h2] at q3; cases q3;obtain⟨b,xs,z1,z2,z3,_⟩:=q4.get e1;rw[h3] at z1; cases z1;exact⟨_,.lst z2 z3⟩
  ·cases e
theorem jz.peek:∀{xs:List V}{os:List cR}{ms:List M}{G:List Addr},aR K H Z σ ρ F->jz K H Z σ xs os G->gI ρ os=some ms->Fc K H Z xs ms:=by
 intro xs os ms G S h
 induction h generalizing ms with
 |nil=>intro e; cases e; exact .nil
 |cons h r ih=>
  intro e;obtain⟨m,h1,e⟩:=oB e;obtain⟨ms,h2,e⟩:=oB e;cases e;exact .cons (h.peek S h1) (ih h2)
theorem mY.al{x:V}{o:cR}(h:mY K H Z σ x o G):∀a∈G,H a≠none:=by
 cases h with
 |t q=>exact q.al
 |p _=>intro a h; simp at h
 |q _ _ _=>intro a h; simp at h
noncomputable def tE:cR->Bool
 |.q _ _=>false
 |_=>true
theorem dM{o:cR}{m:M}(h:jy ρ o=some m):tE o=true:=by
 cases o with
 |t _=>rfl
 |p _=>rfl
 |q _ _=>cases h
theorem mY.mono{x:V}{o:cR}(h:mY K H Z σ x o G)(hs:tE o=true)(g:aL H Z H' Z')(k:∀a∈G,∀o,H a=some o->H' a=some o):mY K H' Z' σ x o G:=by
 cases h with
 |t q=>exact .t (q.mono g k)
 |p q=>exact .p q
 |q _ _ _=>cases hs
theorem aH.news(n:aH H Z [] H' Z' G)(w:Wf H Z F)(al:∀a∈F,H a≠none):aH H Z F H' Z' (F++G):=by
 have h:=n.frame (F:=[]) (G:=F) (by rw[Im]; exact w) al
 rw[Im] at h;exact h.swap
theorem aH.yO(n:aH H Z [] H' Z' G):aL H Z H' Z':=⟨n.tups,λa o _ e=>n.keep a o Hm e,n.zs⟩
theorem aR.news(S:aR K H Z σ ρ F)(n:aH H Z [] H' Z' G):aR K H' Z' σ ρ F:=S.mono (n.yO) λa _ o e=>n.keep a o (Hm) e
theorem aH.through{F2:List Addr}(f1:aH H Z F H1 Z1 (F1++G))(f2:aH H1 Z1 F1 H2 Z2 F2)(al:∀a∈G,H1 a≠none):aH H Z F H2 Z2 (F2++G):=f1.trans (f2.frame f1.wf al)
theorem aH.qV{F2:List Addr}(f1:aH H Z F H1 Z1 (F1++G))(f2:aH H1 Z1 F1 H2 Z2 F2):∀a∈G,∀o,H1 a=some o->H2 a=some o:=λa h o e=>
 f2.keep a o (λz=>(FM.mp f1.nd).2.2 a z a h rfl) e
theorem aH.assoc'{A B C:List Addr}(f:aH H Z F H' Z' (A++(B++C))):aH H Z F H' Z' ((A++B)++C):=by rw[Bi]; exact f
theorem aH.DU{A B C:List Addr}(f:aH H Z F H' Z' ((A++B)++C)):aH H Z F H' Z' (A++(C++B)):=f.sub (by
  have h:=FM.mp f.nd;have h':=FM.mp h.1;refine FM.mpr ⟨h'.1,FM.mpr ⟨h.2.1,h'.2.1,λa x b y e=>h.2.2 b (lR _ y) a x e.symm⟩,λa x b y e=>?_⟩
  rcases lM y with y | y
  ·exact h.2.2 a (lL _ x) b y e
  ·exact h'.2.2 a x b y e) λa h=>by
  rcases lM h with h | h
  ·exact lL _ (lL _ h)
  rcases lM h with h | h
  ·exact lR _ h
  ·exact lL _ (lR _ h)
end
abbrev FE:=Ev->Option (cR×Ev)
abbrev FA:=Ev->Option (List cR×Ev)
abbrev FT:=Ev->Option (Bool×Ev)
inductive vE(K:AT)(f:FE)(σ:L2.St)(H:Hp)(Q:VK):Prop
 |mk (Z:Zs) (ρ:Ev) (F:List Addr) (o:cR) (ρ':Ev):aR K H Z σ ρ F->Wf H Z F->f ρ=some (o,ρ')->(∀x H' Z' F' G,aR K H' Z' σ ρ' F'->mY K H' Z' σ x o G->aH H Z F H' Z' (F'++G)->Q x H')->vE K f σ H Q
inductive vA(K:AT)(f:FA)(σ:L2.St)(H:Hp)(Q:List V->Hp->Prop):Prop
 |mk (Z:Zs) (ρ:Ev) (F:List Addr) (os:List cR) (ρ':Ev):aR K H Z σ ρ F->Wf H Z F->f ρ=some (os,ρ')->(∀xs H' Z' F' G,aR K H' Z' σ ρ' F'->jz K H' Z' σ xs os G->aH H Z F H' Z' (F'++G)->Q xs H')->vA K f σ H Q
inductive vT(K:AT)(f:FT)(σ:L2.St)(H:Hp)(Q:Bool->Hp->Prop):Prop
 |mk (Z:Zs) (ρ:Ev) (F:List Addr) (b:Bool) (ρ':Ev):aR K H Z σ ρ F->Wf H Z F->f ρ=some (b,ρ')->(∀H' Z' F',aR K H' Z' σ ρ' F'->aH H Z F H' Z' F'->Q b H')->vT K f σ H Q
section
variable{X:Cx}{e:Expr}
theorem aY{t t':TE}(h:PE X e t)(i:∀σ H Q,t' σ H Q->t σ H Q):PE X e t':=λpins s σ H Q I q=>h pins s σ H Q I (i σ H Q q)
theorem lN{t t':TT}(h:PT X e t)(i:∀σ H Q,t' σ H Q->t σ H Q):PT X e t':=λpins s σ H Q I q=>h pins s σ H Q I (i σ H Q q)
theorem yP{t t':TT}(h:PW X e t)(i:∀σ H Q,t' σ H Q->t σ H Q):PW X e t':=λwh pins s σ H Q I q=>h wh pins s σ H Q I (i σ H Q q)
theorem pT{es:List Expr}{t t':TA}(h:PA X es t)(i:∀σ H Q,t' σ H Q->t σ H Q):PA X es t':=λpos pins s σ H Q I q=>h pos pins s σ H Q I (i σ H Q q)
theorem tF{t u:TE}(h:PE X e t)(h':PE X e u):PE X e (λσ H Q=>t σ H Q\/u σ H Q):=λpins s σ H Q I q=>q.elim (h pins s σ H Q I) (h' pins s σ H Q I)
theorem pU{t u:TT}(h:PT X e t)(h':PT X e u):PT X e (λσ H Q=>t σ H Q\/u σ H Q):=λpins s σ H Q I q=>q.elim (h pins s σ H Q I) (h' pins s σ H Q I)
abbrev VE(X:Cx)(e:Expr)(f:FE):Prop:=PE X e (vE X.K f)
abbrev VA(X:Cx)(es:List Expr)(f:FA):Prop:=PA X es (vA X.K f)
abbrev VT(X:Cx)(e:Expr)(f:FT):Prop:=PT X e (vT X.K f)
abbrev VW(X:Cx)(e:Expr)(f:FT):Prop:=PW X e (vT X.K f)
noncomputable def aa(i:Nat):FE:=λρ=>match cS ρ i with
 |some (.v d)=>some (.t (.v d),ρ)
 |some _=>some (.p i,ρ)
 |none=>none
theorem Bp{i:Nat}(h:PE X e (fm i)):VE X e (aa i):=aY h λσ H Q hq=>by
 obtain⟨Z,ρ,F,o,ρ',S,w,e,q⟩:=hq;unfold aa at e;cases hm:cS ρ i with
 |none=>rw[hm] at e; cases e
 |some m=>
  obtain⟨x,G,h1,h2,h3⟩:=S.get (aF.mp hm);refine⟨x,h1,?_⟩;cases m with
  |v d=>
   rw[hm] at e; cases e;cases h2 with
   |v f=>exact q x H Z F [] S (.t (.v f)) (aH.refl w).nil
  |lst _=>rw[hm] at e; cases e; exact q x H Z F [] S (.p h1) (aH.refl w).nil
  |aA _=>rw[hm] at e; cases e; exact q x H Z F [] S (.p h1) (aH.refl w).nil
  |bW _=>rw[hm] at e; cases e; exact q x H Z F [] S (.p h1) (aH.refl w).nil
  |dtp _=>rw[hm] at e; cases e; exact q x H Z F [] S (.p h1) (aH.refl w).nil
theorem vv(i:Nat){x:Str}{pos:Pos}(hN:X.N[i]? = some x:=by rfl)(hv:AH X.env.scope x:=by first | exact IL rfl | exact KZ (IL rfl) | exact KZ (KZ rfl))(hd:(x == ("__debug__" : Str))=false:=by decide)
  (hcd:(x == ("__classdict__" : Str))=false:=by decide):VE X (.Name x pos) (aa i):=Bp (sI hN hv hd hcd)
noncomputable def vC(d:B2):FE:=λρ=>some (.t (.v d),ρ)
theorem ve_c{v:V}{d:B2}(h:PE X e (tC v))(hd:∀H Z,Fz X.K H Z v d):VE X e (vC d):=aY h λσ H Q hq=>by
 obtain⟨Z,ρ,F,o,ρ',S,w,e,q⟩:=hq;cases e;exact q v H Z F [] S (.t (.v (hd H Z))) (aH.refl w).nil
theorem DV{i j pos}:VE X (.Constant (.int i) j pos) (vC (.int i)):=ve_c xK λ_ _=>.int i
theorem ve_bl{i j pos}:VE X (.Constant (.bool i) j pos) (vC (.bool i)):=ve_c pe_bl λ_ _=>.bl i
def CK(K:AT)(r:R2)(g:M->M->Option M):Prop:=∀H Z x y m1 m2 m Q,(∀a,Z a->H a≠none)->Ro K H Z x m1->Ro K H Z y m2->g m1 m2=some m->(∀z H' Z' G,Ow K H' Z' z m G->aH H Z [] H' Z' G->Q z H')->r x y H Q
noncomputable def vB(g:M->M->Option M)(fa fb:FE):FE:=λρ=>(fa ρ).bind λp=>(fb p.2).bind λq=>(jy q.2 p.1).bind λm1=>(peek q.2 q.1).bind λm2=>(g m1 m2).bind λm=>some (.t m,q.2)
theorem two{fa fb:FE}{g:M->M->Option M}{r:R2}{σ:L2.St}{H:Hp}{Q:VK}(hr:CK X.K r g)(hq:vE X.K (vB g fa fb) σ H Q):CF r (vE X.K fa) (vE X.K fb) σ H Q:=by
 obtain⟨Z,ρ,F,o,ρ',S,w,e,q⟩:=hq;obtain⟨⟨o1,ρ1⟩,e1,e⟩:=oB e;obtain⟨⟨o2,ρ2⟩,e2,e⟩:=oB e;obtain⟨m1,e3,e⟩:=oB e;obtain⟨m2,e4,e⟩:=oB e;obtain⟨m,e5,e⟩:=oB e;cases e;refine⟨Z,ρ,F,o1,ρ1,S,w,e1,λx H1 Z1 F1 G1 S1 O1 f1=>⟨Z1,ρ1,F1,o2,ρ2,S1,f1.left.wf,e2,λy H2 Z2 F2 G2 S2 O2 f2=>?_⟩⟩
 have O1':=O1.mono (dM e3) (f2.grow f1.left.wf) (f1.qV f2);refine hr H2 Z2 x y m1 m2 m Q f2.za (O1'.peek S2 (dJ e3)) (O2.peek S2 e4) e5 λz H3 Z3 G h3 n=>?_
 exact q z H3 Z3 F2 G (S2.news n) (.t h3) ((f1.left.trans f2.left).trans (n.news f2.left.wf S2.al))
theorem ve_op{op:N2}{a b:Expr}{pos:Pos}{r:R2}{g:M->M->Option M}{fa fb:FE}(hr:CK X.K r g)(ho:ef X (Jq op) r)(ha:VE X a fa)(hb:VE X b fb):VE X (.BinOp a op b pos) (vB g fa fb):=aY (pe_op ho ha hb) λ_ _ _=>two hr
theorem DW{op:CmpOp}{a b:Expr}{pos:Pos}{r:R2}{g:M->M->Option M}{fa fb:FE}(hr:CK X.K r g)(ho:ef X (IZ op) r)(ha:VE X a fa)(hb:VE X b fb)(hm:J5 op b=false):VE X (.Compare a [op] [b] pos) (vB g fa fb):=aY (o9 ho ha hb hm) λ_ _ _=>two hr
def HL(K:AT)(r:V->Hp->VK->Prop)(g:M->Option M):Prop:=∀H Z x m1 m Q,(∀a,Z a->H a≠none)->Ro K H Z x m1->g m1=some m->(∀z H' Z' G,Ow K H' Z' z m G->aH H Z [] H' Z' G->Q z H')->r x H Q
noncomputable def vU(g:M->Option M)(fa:FE):FE:=λρ=>(fa ρ).bind λp=>(peek p.2 p.1).bind λm1=>(g m1).bind λm=>some (.t m,p.2)
theorem one{fa:FE}{g:M->Option M}{r:V->Hp->VK->Prop}{σ:L2.St}{H:Hp}{Q:VK}(hr:HL X.K r g)(hq:vE X.K (vU g fa) σ H Q):vE X.K fa σ H λx H1=>r x H1 Q:=by
 obtain⟨Z,ρ,F,o,ρ',S,w,e,q⟩:=hq;obtain⟨⟨o1,ρ1⟩,e1,e⟩:=oB e;obtain⟨m1,e3,e⟩:=oB e;obtain⟨m,e5,e⟩:=oB e;cases e;refine⟨Z,ρ,F,o1,ρ1,S,w,e1,λx H1 Z1 F1 G1 S1 O1 f1=>?_⟩
 refine hr H1 Z1 x m1 m Q f1.za (O1.peek S1 e3) e5 λz H3 Z3 G h3 n=>?_
 exact q z H3 Z3 F1 G (S1.news n) (.t h3) (f1.left.trans (n.news f1.left.wf S1.al))
noncomputable def fY:FA:=λρ=>some ([],ρ)
noncomputable def af(fa:FE):FA:=λρ=>(fa ρ).bind λp=>some ([p.1],p.2)
noncomputable def aj(fa:FE)(fr:FA):FA:=λρ=>(fa ρ).bind λp=>(fr p.2).bind λq=>if tE p.1=true then some (p.1::q.1,q.2) else none
theorem DX:VA X [] fY:=pT kU λσ H Q hq=>by
 obtain⟨Z,ρ,F,o,ρ',S,w,e,q⟩:=hq;cases e;exact q [] H Z F [] S .nil (aH.refl w).nil
theorem DY{a:Expr}{fa:FE}(ha:VE X a fa)(hs:Fa [a] X.env=[(false,eval a X.env)]:=by rfl):VA X [a] (af fa):=pT (iu ha kU hs) λσ H Q hq=>by
 obtain⟨Z,ρ,F,o,ρ',S,w,e,q⟩:=hq;obtain⟨⟨o1,ρ1⟩,e1,e⟩:=oB e;cases e;refine⟨Z,ρ,F,o1,ρ1,S,w,e1,λx H1 Z1 F1 G1 S1 O1 f1=>?_⟩
 exact q [x] H1 Z1 F1 (G1++[]) S1 (.cons O1 .nil) (by rw[EQ]; exact f1)
theorem Bq{a:Expr}{as:List Expr}{fa:FE}{fr:FA}(ha:VE X a fa)(hr:VA X as fr)(hs:Fa (a::as) X.env=(false,eval a X.env)::Fa as X.env:=by rfl):VA X (a::as) (aj fa fr):=pT (iu ha hr hs) λσ H Q hq=>by
 obtain⟨Z,ρ,F,o,ρ',S,w,e,q⟩:=hq;obtain⟨⟨o1,ρ1⟩,e1,e⟩:=oB e;obtain⟨⟨os,ρ2⟩,e2,e⟩:=oB e
 by_cases hs:tE o1=true
 ·rw[if_pos hs] at e
  cases e;refine⟨Z,ρ,F,o1,ρ1,S,w,e1,λx H1 Z1 F1 G1 S1 O1 f1=>⟨Z1,ρ1,F1,os,ρ2,S1,f1.left.wf,e2,λxs H2 Z2 F2 G2 S2 O2 f2=>?_⟩⟩
  exact q (x::xs) H2 Z2 F2 (G1++G2) S2 (.cons (O1.mono hs (f2.grow f1.left.wf) (f1.qV f2)) O2) (f1.through f2 O1.al).DU
 ·rw[if_neg hs] at e; cases e
def FY(K:AT)(r:List V->Hp->VK->Prop)(g:List M->Option M):Prop:=∀H Z xs ms m Q,(∀a,Z a->H a≠none)->Fc K H Z xs ms->g ms=some m->(∀z H' Z' G,Ow K H' Z' z m G->aH H Z [] H' Z' G->Q z H')->r xs H Q
noncomputable def cF(g:List M->Option M)(fa:FA):FE:=λρ=>(fa ρ).bind λp=>(gI p.2 p.1).bind λms=>(g ms).bind λm=>some (.t m,p.2)
theorem many{fa:FA}{g:List M->Option M}{r:List V->Hp->VK->Prop}{σ:L2.St}{H:Hp}{Q:VK}(hr:FY X.K r g)(hq:vE X.K (cF g fa) σ H Q):Gs r (vA X.K fa) σ H Q:=by
 obtain⟨Z,ρ,F,o,ρ',S,w,e,q⟩:=hq;obtain⟨⟨os,ρ1⟩,e1,e⟩:=oB e;obtain⟨ms,e3,e⟩:=oB e;obtain⟨m,e5,e⟩:=oB e;cases e;refine⟨Z,ρ,F,os,ρ1,S,w,e1,λxs H1 Z1 F1 G1 S1 O1 f1=>?_⟩
 refine hr H1 Z1 xs ms m Q f1.za (O1.peek S1 e3) e5 λz H3 Z3 G h3 n=>?_
 exact q z H3 Z3 F1 G (S1.news n) (.t h3) (f1.left.trans (n.news f1.left.wf S1.al))
noncomputable def GV:M->Option Bool
 |.v (.bool b)=>some b
 |_=>none
noncomputable def aG(f:FE):FT:=λρ=>(f ρ).bind λp=>(peek p.2 p.1).bind λm=>(GV m).bind λb=>some (b,p.2)
theorem FZ{f:FE}{σ:L2.St}{H:Hp}{Q:Bool->Hp->Prop}(hq:vT X.K (aG f) σ H Q):vE X.K f σ H λx H1=>∃c,x=.bl c/\Q c H1:=by
 obtain⟨Z,ρ,F,b,ρ',S,w,e,q⟩:=hq;obtain⟨⟨o1,ρ1⟩,e1,e⟩:=oB e;obtain⟨m,e2,e⟩:=oB e;obtain⟨b',e3,e⟩:=oB e;cases e;refine⟨Z,ρ,F,o1,ρ1,S,w,e1,λx H1 Z1 F1 G1 S1 O1 f1=>?_⟩
 obtain⟨G,h⟩:=O1.peek S1 e2;cases h with
 |v f=>
  cases f with
  |bl c=>cases e3; exact⟨_,rfl,q H1 Z1 F1 S1 f1.left⟩
  |_=>cases e3
 |_=>cases e3
theorem DZ{op:CmpOp}{a b:Expr}{pos:Pos}{r:R2}{g:M->M->Option M}{fa fb:FE}(hr:CK X.K r g)(ho:ef X (IZ op) r)(ha:VE X a fa)(hb:VE X b fb)(hm:J5 op b=false):VT X (.Compare a [op] [b] pos) (aG (vB g fa fb)):=by
 refine lN (ji ho ha hb hm) λσ H Q hq=>?_
 exact two hr (FZ hq)
noncomputable def pW(f:FT):FT:=λρ=>(f ρ).bind λp=>some (!p.1,p.2)
noncomputable def fu(f g:FT):FT:=λρ=>(f ρ).bind λp=>if p.1=true then g p.2 else some (false,p.2)
noncomputable def qy(f g:FT):FT:=λρ=>(f ρ).bind λp=>if p.1=true then some (true,p.2) else g p.2
theorem not_imp{f:FT}{σ:L2.St}{H:Hp}{Q:Bool->Hp->Prop}(hq:vT X.K (pW f) σ H Q):tNot (vT X.K f) σ H Q:=by
 obtain⟨Z,ρ,F,b,ρ',S,w,e,q⟩:=hq;obtain⟨⟨o1,ρ1⟩,e1,e⟩:=oB e;cases e;exact⟨Z,ρ,F,o1,ρ1,S,w,e1,q⟩
theorem and_imp{f g:FT}{σ:L2.St}{H:Hp}{Q:Bool->Hp->Prop}(hq:vT X.K (fu f g) σ H Q):tAnd (vT X.K f) (vT X.K g) σ H Q:=by
 obtain⟨Z,ρ,F,b,ρ',S,w,e,q⟩:=hq;obtain⟨⟨o1,ρ1⟩,e1,e⟩:=oB e;refine⟨Z,ρ,F,o1,ρ1,S,w,e1,λH1 Z1 F1 S1 f1=>?_⟩
 cases o1 with
 |true=>exact⟨Z1,ρ1,F1,b,ρ',S1,f1.wf,e,λH2 Z2 F2 S2 f2=>q H2 Z2 F2 S2 (f1.trans f2)⟩
 |false=>cases e; exact q H1 Z1 F1 S1 f1
theorem or_imp{f g:FT}{σ:L2.St}{H:Hp}{Q:Bool->Hp->Prop}(hq:vT X.K (qy f g) σ H Q):G4 (vT X.K f) (vT X.K g) σ H Q:=by
 obtain⟨Z,ρ,F,b,ρ',S,w,e,q⟩:=hq;obtain⟨⟨o1,ρ1⟩,e1,e⟩:=oB e;refine⟨Z,ρ,F,o1,ρ1,S,w,e1,λH1 Z1 F1 S1 f1=>?_⟩
 cases o1 with
 |false=>exact⟨Z1,ρ1,F1,b,ρ',S1,f1.wf,e,λH2 Z2 F2 S2 f2=>q H2 Z2 F2 S2 (f1.trans f2)⟩
 |true=>cases e; exact q H1 Z1 F1 S1 f1
theorem D0{a:Expr}{pos:Pos}{f:FT}(h:VT X a f):VT X (.UnaryOp .Not a pos) (pW f):=lN (C7 h) λ_ _ _=>not_imp
theorem Br{a:Expr}{pos:Pos}{f:FT}(h:VT X a f):VW X (.BoolOp .And [a] pos) f:=AJ h
theorem D3{a:Expr}{pos:Pos}{f:FT}(h:VT X a f):VW X (.BoolOp .Or [a] pos) f:=C5 h
theorem D4{a b:Expr}{rest:List Expr}{pos:Pos}{f g:FT}(h:VT X a f)(h':VW X (.BoolOp .And (b::rest) pos) g):VW X (.BoolOp .And (a::b::rest) pos) (fu f g):=yP (C6 h h') λ_ _ _=>and_imp
theorem vw_or{a b:Expr}{rest:List Expr}{pos:Pos}{f g:FT}(h:VT X a f)(h':VW X (.BoolOp .Or (b::rest) pos) g):VW X (.BoolOp .Or (a::b::rest) pos) (qy f g):=yP (pw_or h h') λ_ _ _=>or_imp
noncomputable def qW(fa fb:FE):FE:=λρ=>(aG fa ρ).bind λp=>if p.1=true then fb p.2 else some (.t (.v (.bool false)),p.2)
theorem D5{a b:Expr}{rest:List Expr}{pos:Pos}{fa fb:FE}(ha:VE X a fa)(hb:VE X (.BoolOp .And (b::rest) pos) fb):VE X (.BoolOp .And (a::b::rest) pos) (qW fa fb):=aY (C9 ha hb) λσ H Q hq=>by
 obtain⟨Z,ρ,F,o,ρ',S,w,e,q⟩:=hq;obtain⟨⟨b1,ρ1⟩,e1,e⟩:=oB e;refine FZ ⟨Z,ρ,F,b1,ρ1,S,w,e1,λH1 Z1 F1 S1 f1=>?_⟩
 cases b1 with
 |true=>exact iteT ⟨Z1,ρ1,F1,o,ρ',S1,f1.wf,e,λx H2 Z2 F2 G S2 O f2=>q x H2 Z2 F2 G S2 O (f1.trans f2)⟩
 |false=>cases e; exact iteF (q (.bl false) H1 Z1 F1 [] S1 (.t (.v (.bl false))) f1.nil)
theorem D6{op a}{pos:Pos}{f:FE}(h:VE X a f):VE X (.BoolOp op [a] pos) f:=C8 h
noncomputable def uT(fa:FE):FE:=λρ=>(aG fa ρ).bind λp=>some (.t (.v (.bool (!p.1))),p.2)
theorem D7{a:Expr}{pos:Pos}{fa:FE}(ha:VE X a fa):VE X (.UnaryOp .Not a pos) (uT fa):=aY (Dc ha) λσ H Q hq=>by
 obtain⟨Z,ρ,F,o,ρ',S,w,e,q⟩:=hq;obtain⟨⟨b1,ρ1⟩,e1,e⟩:=oB e;refine FZ ⟨Z,ρ,F,b1,ρ1,S,w,e1,λH1 Z1 F1 S1 f1=>?_⟩
 cases e;exact q (.bl (!b1)) H1 Z1 F1 [] S1 (.t (.v (.bl _))) f1.nil
end
noncomputable def lim:Nat:=1000000
theorem gw{n:Nat}(h:n<=lim):n<=FV:=Ip h (by decide)
theorem iZ{n:Nat}(h:n<=lim):n<FV:=Pz h (by decide)
inductive rM(K:AT)(g:M->M->Option M)(x:V)(y:V)(H:Hp)(Q:VK):Prop
 |mk (Z:Zs) (m1 m2 m:M):(∀a,Z a->H a≠none)->Ro K H Z x m1->Ro K H Z y m2->g m1 m2=some m->(∀z H' Z' G,Ow K H' Z' z m G->aH H Z [] H' Z' G->Q z H')->rM K g x y H Q
theorem rM_v{K:AT}{g:M->M->Option M}:CK K (rM K g) g:=λH Z x y m1 m2 m Q za h1 h2 e q=>⟨Z,m1,m2,m,za,h1,h2,e,q⟩
inductive uU(K:AT)(g:List M->Option M)(xs:List V)(H:Hp)(Q:VK):Prop
 |mk (Z:Zs) (ms:List M) (m:M):(∀a,Z a->H a≠none)->Fc K H Z xs ms->g ms=some m->(∀z H' Z' G,Ow K H' Z' z m G->aH H Z [] H' Z' G->Q z H')->uU K g xs H Q
theorem CL{K:AT}{g:List M->Option M}:FY K (uU K g) g:=λH Z xs ms m Q za h1 e q=>⟨Z,ms,m,za,h1,e,q⟩
section
variable{K:AT}{H H':Hp}{Z:Zs}{x:V}{Q:VK}
theorem Ro.fz{d:B2}(h:Ro K H Z x (.v d)):Fz K H Z x d:=by
 obtain⟨G,h⟩:=h;cases h with
 |v f=>exact f
theorem Ro.int{i:Int}(h:Ro K H Z x (.v (.int i))):x=.int i:=h.fz.int_inv
theorem Ro.bl{i:Bool}(h:Ro K H Z x (.v (.bool i))):x=.bl i:=h.fz.tw
theorem Ro.str{i:Str}(h:Ro K H Z x (.v (.str i))):x=.str i:=h.fz.str_inv
theorem Ro.lst{ds:List B2}(h:Ro K H Z x (.lst ds)):∃a xs,x=.ref a/\H a=some (.lst xs)/\bF K H Z xs ds:=by
 obtain⟨G,h⟩:=h;cases h with
 |lst e f=>exact⟨_,_,rfl,e,f⟩
theorem Ro.aA{ds:List (Key×B2)}(h:Ro K H Z x (.aA ds)):∃a xs,x=.ref a/\H a=some (.dK xs)/\gH K H Z xs ds:=by
 obtain⟨G,h⟩:=h;cases h with
 |aA e f=>exact⟨_,_,rfl,e,f⟩
theorem Ro.bW{ds:List (Key×List B2)}(h:Ro K H Z x (.bW ds)):∃a xs G,x=.ref a/\H a=some (.dK xs)/\iy K H Z xs ds G:=by
 obtain⟨G,h⟩:=h;cases h with
 |bW e f=>exact⟨_,_,_,rfl,e,f⟩
theorem Ro.tup{ds:List B2}(h:Ro K H Z x (.v (.tuple ds))):∃a xs,x=.ref a/\dc K H a xs/\bF K H Z xs ds:=h.fz.gu
noncomputable def lP:M->Option (List B2)
 |.lst ds=>some ds
 |.v (.list ds)=>some ds
 |_=>none
noncomputable def seqT:M->Option (List B2)
 |.v (.tuple ds)=>some ds
 |_=>none
noncomputable def seq:M->Option (List B2)
 |.lst ds=>some ds
 |.v (.list ds)=>some ds
 |.v (.tuple ds)=>some ds
 |_=>none
theorem Ro.lP{m:M}{ds:List B2}(h:Ro K H Z x m)(e:VL.lP m=some ds):∃a xs,x=.ref a/\fB K H a xs/\bF K H Z xs ds:=by
 unfold VL.lP at e
 split at e
 ·cases e
  obtain⟨a,xs,e1,e2,e3⟩:=h.lst;exact⟨a,xs,e1,.of e2,e3⟩
 ·cases e
  obtain⟨a,xs,e1,e2,e3⟩:=h.fz.lst_inv;exact⟨a,xs,e1,e2,e3⟩
 ·cases e
theorem Ro.seq{m:M}{ds:List B2}(h:Ro K H Z x m)(e:VL.seq m=some ds):∃a xs,x=.ref a/\(fB K H a xs\/dc K H a xs)/\bF K H Z xs ds:=by
 unfold VL.seq at e
 split at e
 ·cases e
  obtain⟨a,xs,e1,e2,e3⟩:=h.lst;exact⟨a,xs,e1,.inl (.of e2),e3⟩
 ·cases e
  obtain⟨a,xs,e1,e2,e3⟩:=h.fz.lst_inv;exact⟨a,xs,e1,.inl e2,e3⟩
 ·cases e
  obtain⟨a,xs,e1,e2,e3⟩:=h.tup;exact⟨a,xs,e1,.inr e2,e3⟩
 ·cases e
theorem aH.same(s:bD H H')(za:∀a,Z a->H a≠none):aH H Z [] H' Z []:=⟨λa o _ e=>s a o e,s.tups,λ_ h=>h,λ_ h=>.inl h,λ_ h=>(nomatch h),JL,λ_ h=>(nomatch h),λa z e=>za a z (s.free e)⟩
theorem aH.pZ{p:Addr}{o:HO}(hp:H p=none)(za:∀a,Z a->H a≠none):aH H Z [] (upd H p o) Z [p]:=by
 have s:=cN hp o;exact⟨λa o _ e=>s a o e,s.tups,λ_ h=>h,λ_ h=>.inl h,λa h=>.inr (by rw[D1] at h; subst h; exact hp),IM.mpr ⟨Hm,JL⟩,λa h z=>by rw[D1] at h; subst h; exact za _ z hp,λa z e=>za a z (s.free e)⟩
theorem aL.same(s:bD H H'):aL H Z H' Z:=⟨s.tups,λa o _ e=>s a o e,λ_ h=>h⟩
theorem cG{z:V}{d:B2}(q:∀z H' Z' G,Ow K H' Z' z (.v d) G->aH H Z [] H' Z' G->Q z H')(za:∀a,Z a->H a≠none)(h:Fz K H Z z d):Q z H:=q z H Z [] (.v h) (aH.same (bD.refl H) za)
theorem endS{z:V}{d:B2}(q:∀z H' Z' G,Ow K H' Z' z (.v d) G->aH H Z [] H' Z' G->Q z H')(za:∀a,Z a->H a≠none)(s:bD H H')(h:Fz K H' Z z d):Q z H':=q z H' Z [] (.v h) (aH.same s za)
theorem endT{p:Addr}{xs:List V}{ds:List B2}(q:∀z H' Z' G,Ow K H' Z' z (.v (.tuple ds)) G->aH H Z [] H' Z' G->Q z H')(za:∀a,Z a->H a≠none)(hp:H p=none)(h:bF K H Z xs ds):Q (.ref p) (upd H p (.tup xs)) :=
 endS q za (cN hp _) (.tup (dc.of aB) (h.mono (aL.same (cN hp _))))
theorem p5{p:Addr}{xs:List V}{ds:List B2}(q:∀z H' Z' G,Ow K H' Z' z (.lst ds) G->aH H Z [] H' Z' G->Q z H')(za:∀a,Z a->H a≠none)(hp:H p=none)(h:bF K H Z xs ds):Q (.ref p) (upd H p (.lst xs)) :=
 q (.ref p) (upd H p (.lst xs)) Z [p] (.lst aB (h.mono (aL.same (cN hp _)))) (aH.pZ hp za)
theorem endD{p:Addr}{xs:List (Key×V)}{ds:List (Key×B2)}(q:∀z H' Z' G,Ow K H' Z' z (.aA ds) G->aH H Z [] H' Z' G->Q z H')(za:∀a,Z a->H a≠none)(hp:H p=none)(h:gH K H Z xs ds):Q (.ref p) (upd H p (.dK xs)) :=
 q (.ref p) (upd H p (.dK xs)) Z [p] (.aA aB (h.mono (aL.same (cN hp _)))) (aH.pZ hp za)
end
noncomputable def cB:M->M->Option M
 |.v (.int i),.v (.int j)=>some (.v (.int (i+j)))
 |.v (.tuple a),.v (.tuple b)=>if a.length+b.length<=lim then some (.v (.tuple (a++b))) else none
 |.lst a,.lst b=>if a.length+b.length<=lim then some (.lst (a++b)) else none
 |.v (.str a),.v (.str b)=>if a.length+b.length<=lim then some (.v (.str (a++b))) else none
 |_,_=>none
noncomputable def i6(C:Int->Int->Bool)(g:Int->Int->B2):M->M->Option M
 |.v (.int i),.v (.int j)=>if C i j=true then some (.v (g i j)) else none
 |_,_=>none
section
variable{X:Cx}
theorem cC:ef X (Jq .Add) (rM X.K cB):=by
 intro pins s σ H x y v u Q I rx ry h;obtain⟨Z,m1,m2,m,za,h1,h2,e,q⟩:=h;unfold cB at e
 split at e
 ·cases e
  obtain rfl:=h1.int; obtain rfl:=h2.int;exact Dl pins s σ H _ _ v u Q I rx ry ⟨_,_,rfl,rfl,cG q za (.int _)⟩
 ·split at e
  ·next hl=>
   cases e;obtain⟨a,xs,rfl,e2,e3⟩:=h1.tup;obtain⟨b,ys,rfl,e5,e6⟩:=h2.tup;exact Bm pins s σ H _ _ v u Q I rx ry ⟨a,b,xs,ys,rfl,rfl,e2,e5,gw (by rw[e3.length,e6.length]; exact hl),λr H' s' t=>endS q za s' (.tup t ((e3.append e6).mono (aL.same s')))⟩
  ·cases e
 ·split at e
  ·next hl=>
   cases e;obtain⟨a,xs,rfl,e2,e3⟩:=h1.lst;obtain⟨b,ys,rfl,e5,e6⟩:=h2.lst;exact DE pins s σ H _ _ v u Q I rx ry ⟨a,b,xs,ys,rfl,rfl,e2,e5,gw (by rw[e3.length,e6.length]; exact hl),λp hp=>p5 q za hp (e3.append e6)⟩
  ·cases e
 ·split at e
  ·next hl=>
   cases e;obtain rfl:=h1.str; obtain rfl:=h2.str;exact sO pins s σ H _ _ v u Q I rx ry ⟨_,_,rfl,rfl,gw hl,cG q za (.str _)⟩
  ·cases e
 ·cases e
theorem p6{f:Value->Value->Sem Value}{C:Int->Int->Bool}{P:Int->Int->Prop}{g:Int->Int->B2}{gv:Int->Int->V}(ho:ef X f (rI P gv))(hc:∀i j,C i j=true->P i j)(hg:∀H Z i j,Fz X.K H Z (gv i j) (g i j)):ef X f (rM X.K (i6 C g)):=by
 intro pins s σ H x y v u Q I rx ry h;obtain⟨Z,m1,m2,m,za,h1,h2,e,q⟩:=h;unfold i6 at e
 split at e
 ·split at e
  ·next hl=>
   cases e;obtain rfl:=h1.int; obtain rfl:=h2.int;exact ho pins s σ H _ _ v u Q I rx ry ⟨_,_,rfl,rfl,hc _ _ hl,cG q za (hg H Z _ _)⟩
  ·cases e
 ·cases e
theorem uV{f:Value->Value->Sem Value}{g:Int->Int->B2}{gv:Int->Int->V}(ho:ef X f (CG gv))(hg:∀H Z i j,Fz X.K H Z (gv i j) (g i j)):ef X f (rM X.K (i6 (λ_ _=>true) g)):=by
 intro pins s σ H x y v u Q I rx ry h;obtain⟨Z,m1,m2,m,za,h1,h2,e,q⟩:=h;unfold i6 at e
 split at e
 ·split at e
  ·next hl=>
   cases e;obtain rfl:=h1.int; obtain rfl:=h2.int;exact ho pins s σ H _ _ v u Q I rx ry ⟨_,_,rfl,rfl,cG q za (hg H Z _ _)⟩
  ·cases e
 ·cases e
noncomputable def qX:=i6 (λ_ _=>true) λi j=>.int (i-j)
noncomputable def mulM:=i6 (λi j=>decide ((-(2 ^ 64)<i/\i<2 ^ 64)\/(-(2 ^ 64)<j/\j<2 ^ 64))) λi j=>.int (i*j)
noncomputable def kg:=i6 (λ_ j=>decide (0<j/\j<1073741824)) λi j=>.int (i / j)
noncomputable def gV:=i6 (λ_ j=>decide (0<j)) λi j=>.int (i % j)
noncomputable def qY:=i6 (λi j=>decide (0<=j/\(M3 i:Int)*j<=2 ^ 27)) λi j=>.int (i ^ j.toNat)
theorem tG:ef X (Jq .Sub) (rM X.K qX):=uV Dm λ_ _ _ _=>.int _
theorem gx:ef X (Jq .Mult) (rM X.K mulM):=p6 Dp (λi j h=>by have h:=of_decide_eq_true h; exact h) λ_ _ _ _=>.int _
theorem p7:ef X (Jq .FloorDiv) (rM X.K kg):=p6 AR (λi j h=>by have h:=of_decide_eq_true h; exact h) λ_ _ _ _=>.int _
theorem dR:ef X (Jq .Mod) (rM X.K gV):=p6 Dq (λ_ _ h=>of_decide_eq_true h) λ_ _ _ _=>.int _
theorem tH:ef X (Jq .Pow) (rM X.K qY):=p6 Bh (λ_ _ h=>of_decide_eq_true h) λ_ _ _ _=>.int _
noncomputable def Bs:M->Option B2
 |.v d=>some d
 |.lst ds=>some (.list ds)
 |_=>none
theorem Ro.reads{pins:List (Addr×Obj)}{σ:L2.St}{H:Hp}{s:B1}{Z:Zs}{x:V}{m:M}{d:B2}{u:Value}(I:Inv X pins σ H s)(h:Ro X.K H Z x m)(e:Bs m=some d)(c:d.canLay0=true)(r:RelV x u):∃as,Reads s.heap u d as:=by
 unfold Bs at e
 split at e
 ·cases e; exact h.fz.reads I c r
 ·cases e
  obtain⟨a,xs,rfl,e2,e3⟩:=h.lst;cases r;obtain⟨its,rv,⟨o,n,ho,hc,hdd,hd⟩,_⟩:=I.list (fB.of e2);obtain⟨as,h⟩:=e3.reads I c rv;exact⟨_,.list ho hc hd (by simpa using h)⟩
 ·cases e
noncomputable def qZ(d e:B2):Bool:=d.canLay0 && e.canLay0 && decide (min d.depth e.depth<=60)
noncomputable def dD(neg:Bool)(m1 m2:M):Option M:=(Bs m1).bind λd=>(Bs m2).bind λe=>if qZ d e=true then some (.v (.bool (if neg then !PyData.eqv d e else Ju d e))) else none
theorem gW(hu:X.A.units+64<cLine):ef X (IZ .Eq) (rM X.K (dD false)):=by
 intro pins s σ H x y v u Q I rx ry h;obtain⟨Z,m1,m2,m,za,h1,h2,e,q⟩:=h;obtain⟨d,e1,e⟩:=oB e;obtain⟨d',e2,e⟩:=oB e
 split at e
 ·next ok=>
  cases e;unfold qZ at ok;simp only[IW,decide_eq_true_eq] at ok;obtain⟨as,r1⟩:=h1.reads I e1 ok.1.1 rx;obtain⟨bs,r2⟩:=h2.reads I e2 ok.1.2 ry;exact SeqAt.compareEq_reads r1 r2 ok.1.1 ok.1.2 (by have:=ok.2; lia) ⟨.bl _,H,I,rfl,cG q za (.bl _)⟩
 ·cases e
theorem n9(hu:X.A.units+64<cLine):ef X (IZ .NotEq) (rM X.K (dD true)):=by
 intro pins s σ H x y v u Q I rx ry h;obtain⟨Z,m1,m2,m,za,h1,h2,e,q⟩:=h;obtain⟨d,e1,e⟩:=oB e;obtain⟨d',e2,e⟩:=oB e
 split at e
 ·next ok=>
  cases e;unfold qZ at ok;simp only[IW,decide_eq_true_eq] at ok;obtain⟨as,r1⟩:=h1.reads I e1 ok.1.1 rx;obtain⟨bs,r2⟩:=h2.reads I e2 ok.1.2 ry;exact SeqAt.compareNe_reads r1 r2 ok.1.1 ok.1.2 (by have:=ok.2; lia) ⟨.bl _,H,I,rfl,cG q za (.bl _)⟩
 ·cases e
noncomputable def HM:B2->Option Int
 |.int i=>some i
 |_=>none
noncomputable def gX:List B2->Option (List Int)
 |[]=>some []
 |d::ds=>(HM d).bind λi=>(gX ds).bind λis=>some (i::is)
theorem cO:∀{ds:List B2}{is:List Int},gX ds=some is->ds=is.map .int:=by
 intro ds
 induction ds with
 |nil=>
  intro _ e;cases e; rfl
 |cons d ds ih=>
  intro _ e;obtain⟨i,e1,e⟩:=oB e;obtain⟨is,e2,e⟩:=oB e;cases e;rw[ih e2];cases d <;> cases e1
  rfl
theorem fZ:∀(is:List Int),gX (is.map .int)=some is
 |[]=>rfl
 |i::is=>by show (some i).bind _=_; rw[IG,fZ is]; rfl
noncomputable def wM(gi:Int->Int->Bool)(gt:List Int->List Int->Bool):M->M->Option M
 |.v (.int i),.v (.int j)=>some (.v (.bool (gi i j)))
 |.v (.tuple a),.v (.tuple b)=>(gX a).bind λis=>(gX b).bind λjs=>some (.v (.bool (gt is js)))
 |_,_=>none
theorem q9(hu:X.A.units+64<cLine):ef X (IZ .Lt) (rM X.K (wM (λi j=>decide (i<j)) HT.lexLt)):=by
 intro pins s σ H x y v u Q I rx ry h;obtain⟨Z,m1,m2,m,za,h1,h2,e,q⟩:=h;unfold wM at e
 split at e
 ·cases e
  obtain rfl:=h1.int; obtain rfl:=h2.int;exact op_lt pins s σ H _ _ v u Q I rx ry ⟨_,_,rfl,rfl,cG q za (.bl _)⟩
 ·obtain⟨is,e1,e⟩:=oB e
  obtain⟨js,e2,e⟩:=oB e;cases e;obtain⟨a,xs,rfl,t1,f1⟩:=h1.tup;obtain⟨b,ys,rfl,t2,f2⟩:=h2.tup;rw[cO e1] at f1;rw[cO e2] at f2;rw[f1.dh] at t1;rw[f2.dh] at t2;exact Dw (by lia) pins s σ H _ _ v u Q I rx ry ⟨a,b,is,js,rfl,rfl,t1,t2,cG q za (.bl _)⟩
 ·cases e
theorem ov_ge(hu:X.A.units+64<cLine):ef X (IZ .GtE) (rM X.K (wM (λi j=>decide (j<=i)) λa b=> !HT.lexLt a b)):=by
 intro pins s σ H x y v u Q I rx ry h;obtain⟨Z,m1,m2,m,za,h1,h2,e,q⟩:=h;unfold wM at e
 split at e
 ·cases e
  obtain rfl:=h1.int; obtain rfl:=h2.int;exact op_ge pins s σ H _ _ v u Q I rx ry ⟨_,_,rfl,rfl,cG q za (.bl _)⟩
 ·obtain⟨is,e1,e⟩:=oB e
  obtain⟨js,e2,e⟩:=oB e;cases e;obtain⟨a,xs,rfl,t1,f1⟩:=h1.tup;obtain⟨b,ys,rfl,t2,f2⟩:=h2.tup;rw[cO e1] at f1;rw[cO e2] at f2;rw[f1.dh] at t1;rw[f2.dh] at t2;exact DT (by lia) pins s σ H _ _ v u Q I rx ry ⟨a,b,is,js,rfl,rfl,t1,t2,cG q za (.bl _)⟩
 ·cases e
noncomputable def Gv:=i6 (λ_ _=>true) λi j=>.bool (decide (j<i))
noncomputable def tK:=wM (λi j=>decide (i<j)) HT.lexLt
noncomputable def GW:=wM (λi j=>decide (j<=i)) λa b=> !HT.lexLt a b
theorem CM:ef X (IZ .Gt) (rM X.K Gv):=uV op_gt λ_ _ _ _=>.bl _
noncomputable def isNone:M->Bool
 |.v .none=>true
 |_=>false
theorem Ro.isNone{K:AT}{H:Hp}{Z:Zs}{x:V}{m:M}(h:Ro K H Z x m):decide (x=.non)=VL.isNone m:=by
 obtain⟨G,h⟩:=h;cases h with
 |v f=>cases f <;> rfl
 |lst _ _=>rfl
 |aA _ _=>rfl
 |bW _ _=>rfl
 |dtp _ _ _=>rfl
noncomputable def wN(neg:Bool):M->M->Option M
 |m,.v .none=>some (.v (.bool (if neg then !isNone m else isNone m)))
 |.v (.bool a),.v (.bool b)=>if neg then some (.v (.bool (!(a == b)))) else none
 |_,_=>none
theorem Bt:ef X (IZ .IsNot) (rM X.K (wN true)):=by
 intro pins s σ H x y v u Q I rx ry h;obtain⟨Z,m1,m2,m,za,h1,h2,e,q⟩:=h;unfold wN at e
 split at e
 ·cases e
  obtain rfl:=h2.fz.uS;exact AS pins s σ H _ _ v u Q I rx ry ⟨rfl,by rw[h1.isNone]; exact cG q za (.bl _)⟩
 ·cases e
  obtain rfl:=h1.bl; obtain rfl:=h2.bl;exact yL pins s σ H _ _ v u Q I rx ry ⟨_,_,rfl,rfl,cG q za (.bl _)⟩
 ·cases e
noncomputable def okIn(ds:List B2)(e:B2):Bool:=Il ds && e.canLay0 && decide (e.depth<=50)
noncomputable def Ge(neg:Bool)(m1 m2:M):Option M:=(Bs m1).bind λe=>(seq m2).bind λds=>if okIn ds e=true then some (.v (.bool (if neg then !(ds.any λd=>Ju d e) else ds.any λd=>Ju d e))) else none
theorem oh(neg:Bool)(hu:X.A.units+64<cLine){pins:List (Addr×Obj)}{s:B1}{σ:L2.St}{H:Hp}{x y:V}{v u:Value}{Q:VK}(I:Inv X pins σ H s)(rx:RelV x v)(ry:RelV y u)(h:rM X.K (Ge neg) x y H Q) :
  ∃ (p:Addr) (its:List Value) (g:Value->Bool) (b:Bool),u=.ref p/\(PlainL s.heap p its.toArray\/s.heap.IsTuple p its.toArray)/\(∀y,y∈its.toArray->PP X.A.in1 s y v (g y))/\its.toArray.any g=b/\EP X pins σ Q (.bool (if neg then !b else b)) s:=by
 obtain⟨Z,m1,m2,m,za,h1,h2,e,q⟩:=h;obtain⟨d,e1,e⟩:=oB e;obtain⟨ds,e2,e⟩:=oB e
 split at e
 ·next ok=>
  cases e;unfold okIn at ok;simp only[IW,decide_eq_true_eq] at ok;obtain⟨bs,re⟩:=h1.reads I e1 ok.1.2 rx;obtain⟨a,xs,rfl,hq,f⟩:=h2.seq e2;cases ry;have fin:EP X pins σ Q (.bool (if neg then !(ds.any λd'=>Ju d' d) else ds.any λd'=>Ju d' d)) s:=⟨.bl _,H,I,rfl,cG q za (.bl _)⟩
  rcases hq with hq | hq
  ·obtain⟨its,r,pl,hz⟩:=I.list hq
   obtain⟨as,ra⟩:=f.reads I ok.1.1 r;refine⟨a,its,AE s.heap d,_,rfl,.inl pl,yI (pins:=pins) (σ:=σ) (H:=H) hu ra re ok.1.1 ok.1.2 ok.2,rfl,?_⟩;rw[show its.toArray.any (AE s.heap d)=its.any (AE s.heap d) by simp,pS ra ok.1.1]
   exact fin
  ·obtain⟨its,r,pl,hz⟩:=I.tuple hq
   obtain⟨as,ra⟩:=f.reads I ok.1.1 r;refine⟨a,its,AE s.heap d,_,rfl,.inr pl,yI (pins:=pins) (σ:=σ) (H:=H) hu ra re ok.1.1 ok.1.2 ok.2,rfl,?_⟩;rw[show its.toArray.any (AE s.heap d)=its.any (AE s.heap d) by simp,pS ra ok.1.1]
   exact fin
 ·cases e
theorem CN(hu:X.A.units+64<cLine):ef X (IZ .In) (rM X.K (Ge false)):=by
 intro pins s σ H x y v u Q I rx ry h;obtain⟨p,its,g,b,rfl,hq,hg,e,fin⟩:=oh false hu I rx ry h;subst e;rcases hq with hq | hq
 ·exact SeqAt.in_listAt g hq.isList hg fin
 ·exact SeqAt.in_tupleAt g hq hg fin
theorem yQ(hu:X.A.units+64<cLine):ef X (IZ .NotIn) (rM X.K (Ge true)):=by
 intro pins s σ H x y v u Q I rx ry h;obtain⟨p,its,g,b,rfl,hq,hg,e,fin⟩:=oh true hu I rx ry h;subst e;rcases hq with hq | hq
 ·exact SeqAt.notIn_listAt g hq.isList hg fin
 ·exact SeqAt.notIn_tupleAt g hq hg fin
end
noncomputable def toD:M->B2
 |.v d=>d
 |.lst ds=>.list ds
 |.aA kvs=>.dict (kvs.map λp=>(yN p.1,p.2))
 |.bW kvs=>.dict ((kvs.map λp=>(p.1,Li p.2)).map λp=>(yN p.1,p.2))
 |.dtp kvs=>.dict (kvs.map λp=>(.tuple (p.1.map yN),p.2))
noncomputable def cU:cR->Ev->Option (B2×Ev)
 |.t m,ρ=>some (toD m,ρ)
 |.p i,ρ=>(cS ρ i).bind λm=>some (toD m,ρ.set i (some (.v (toD m))))
 |.q i k,ρ=>match cS ρ i with
  |some (.bW kvs)=>(bE kvs k).bind λds=>some (.list ds,ρ.set i (some (.aA (kvs.map λp=>(p.1,Li p.2)))))
  |_=>none
noncomputable def dG:List cR->Ev->Option (List B2×Ev)
 |[],ρ=>some ([],ρ)
 |o::os,ρ=>(cU o ρ).bind λp=>(dG os p.2).bind λq=>some (p.1::q.1,q.2)
section
variable{K:AT}{H H0:Hp}{Z Z0:Zs}{F F0 G R:List Addr}{σ:L2.St}{ρ ρ':Ev}{x:V}{o:cR}{d:B2}
theorem aL.more{G:List Addr}:aL H Z H (λa=>Z a\/a∈G):=⟨eB.refl,λ_ _ _ e=>e,λ_ z=>.inl z⟩
theorem iy.fz{Z':Zs}(g:aL H Z H Z'):∀{kxs:List (Key×V)}{kvs:List (Key×List B2)}{G:List Addr},iy K H Z kxs kvs G->(∀a∈G,Z' a)->gH K H Z' kxs (kvs.map λp=>(p.1,Li p.2)):=by
 intro kxs kvs G h
 induction h with
 |nil=>exact λ_=>.nil
 |cons e f r ih=>exact λh=>.cons (.lst (.inl e) (h _ lS) (f.mono g)) (ih λa z=>h a (lO _ z))
theorem Ow.fz{m:M}{Z':Zs}(g:aL H Z H Z')(h:Ow K H Z x m G)(hz:∀a∈G,Z' a):Fz K H Z' x (toD m):=by
 cases h with
 |v f=>exact f.mono g
 |lst e f=>exact .lst (.inl e) (hz _ lS) (f.mono g)
 |aA e f=>exact .aA e (hz _ lS) (f.mono g)
 |bW e f=>exact .aA e (hz _ lS) (f.fz g λa z=>hz a (lO _ z))
 |dtp e n f=>exact .dtp e (hz _ lS) n (f.mono g)
theorem aH.give{A:List Addr}(f:aH H0 Z0 F0 H Z A)(hF:F.Nodup)(hs:∀a∈F,a∈A)(hG:∀a∈G,a∈A)(hd:∀a∈F,a∉G)(al:∀a∈G,H a≠none):aH H0 Z0 F0 H (λa=>Z a\/a∈G) F:=by
 refine⟨f.keep,f.tups,λa z=>.inl (f.zs a z),λa z=>?_,λa h=>f.fr a (hs a h),hF,λa h z=>?_,λa z=>?_⟩
 ·rcases z with z | z
  ·exact f.zn a z
  ·exact .inr (f.fr a (hG a z))
 ·rcases z with z | z
  ·exact f.dz a (hs a h) z
  ·exact hd a h z
 ·rcases z with z | z
  ·exact f.za a z
  ·exact al a z
theorem Gf{A B C:List Addr}(h:(A++B++C).Nodup):A.Nodup/\B.Nodup/\C.Nodup/\(∀a∈A,a∉B)/\(∀a∈A,a∉C)/\∀a∈B,a∉C:=by
 have h1:=FM.mp h;have h2:=FM.mp h1.1;exact⟨h2.1,h2.2.1,h1.2.1,λa x y=>h2.2.2 a x a y rfl,λa x y=>h1.2.2 a (lL _ x) a y rfl,λa x y=>h1.2.2 a (lR _ x) a y rfl⟩
theorem aP{A B:List Addr}(h1:A.Nodup)(h2:B.Nodup)(h:∀a∈A,a∉B):(A++B).Nodup:=FM.mpr ⟨h1,h2,λa x b y e=>h a x (e▸y)⟩
theorem iz{σ:L2.St}{i:Nat}{x:V}(q:σ[i]? = some (some x)):σ.set i (some x)=σ:=by
  refine Kf λj=>?_
  rw[L7]
  split
  · next hj=>subst hj; split
             · exact q.symm
             · next hh=>exact absurd (DD.mp q).1 hh
  · rfl
theorem freeze(S:aR K H Z σ ρ F)(h:mY K H Z σ x o G)(f:aH H0 Z0 F0 H Z (F++G++R))(e:cU o ρ=some (d,ρ')):∃Z' F',aR K H Z' σ ρ' F'/\Fz K H Z' x d/\aH H0 Z0 F0 H Z' (F'++R)/\aL H Z H Z':=by
 obtain⟨n1,n2,n3,s1,s2,s3⟩:=Gf f.nd;cases h with
 |t q=>
  cases e;refine⟨λa=>Z a\/a∈G,F,S.mono aL.more λ_ _ _ e=>e,q.fz aL.more λa h=>.inr h,f.give (aP n1 n3 s2) (λa h=>?_) (λa h=>?_) (λa h z=>?_) q.al,aL.more⟩
  ·rcases lM h with h | h
   ·exact lL _ (lL _ h)
   ·exact lR _ h
  ·exact lL _ (lR _ h)
  ·rcases lM h with h | h
   ·exact s1 a h z
   ·exact s3 a z h
 |p q=>
  rename_i i
  obtain⟨m,e1,e⟩:=oB e;cases e;obtain⟨x',G',F1,h1,h2,h3,h4,h5⟩:=S.take n1 (aF.mp e1);rw[q] at h1; cases h1;have hl:=(DD.mp (aF.mp e1)).1;have k4:=FM.mp h4;have fz:=h2.fz (aL.more (G:=G')) λa h=>.inr h
  obtain⟨F2,p1,p2,p3⟩:=(h3.mono (aL.more (G:=G')) λ_ _ _ e=>e).put (i:=i) (Ow.v fz) (by rw[EQ]; exact k4.1) (by rw[JH hl])
  rw[EQ] at p3;rw[NB] at p1;rw[iz q] at p1;refine⟨_,F2,p1,fz,f.give (aP p2 n3 λa h=>s2 a (h5 a (lL _ (p3 a h)))) (λa h=>?_) (λa h=>?_) (λa h z=>?_) h2.al,aL.more⟩
  ·rcases lM h with h | h
   ·exact lL _ (lL _ (h5 a (lL _ (p3 a h))))
   ·exact lR _ h
  ·exact lL _ (lL _ (h5 a (lR _ h)))
  ·rcases lM h with h | h
   ·exact k4.2.2 a (p3 a h) a z rfl
   ·exact s2 a (h5 a (lR _ z)) h
 |q q1 q2 q3=>
  rename_i i k a0 kxs
  have e:(match cS ρ i with
   |some (.bW kvs)=>(bE kvs k).bind λds=>some (Li ds,ρ.set i (some (M.aA (kvs.map λp=>(p.1,Li p.2)))))
   |_=>none)=some (d,ρ'):=e
  split at e
  ·next kvs hk=>
   obtain⟨ds,e1,e⟩:=oB e;cases e;obtain⟨x',G',F1,h1,h2,h3,h4,h5⟩:=S.take n1 (aF.mp hk);rw[q1] at h1; cases h1;have hl:=(DD.mp (aF.mp hk)).1;cases h2 with
   |bW e2 ol=>
    rename_i kxs' Gl
    rw[q2] at e2; cases e2;have k4:=FM.mp h4;have k5:=IM.mp k4.2.1;have ow:Ow K H (λa=>Z a\/a∈Gl) (.ref a0) (.aA (kvs.map λp=>(p.1,Li p.2))) [a0]:=.aA q2 (ol.fz aL.more λa h=>.inr h)
    obtain⟨b,xs,z1,z2,z3,z4⟩:=ol.get e1;rw[q3] at z1; cases z1;obtain⟨F2,p1,p2,p3⟩:=(h3.mono (aL.more (G:=Gl)) λ_ _ _ e=>e).put (i:=i) ow (aP k4.1 (IM.mpr ⟨Hm,JL⟩) λa h z=>k4.2.2 a h a0 lS (D1.mp z)) (by rw[JH hl])
    rw[NB] at p1;rw[iz q1] at p1;have inF:∀a∈F2,a∈F:=λa h=>by
     rcases lM (p3 a h) with h | h
     ·exact h5 a (lL _ h)
     ·exact h5 a (lR _ (by rw[D1.mp h]; exact lS))
    refine⟨_,F2,p1,.lst (.inl z2) (.inr z4) (z3.mono aL.more),f.give (aP p2 n3 λa h=>s2 a (inF a h)) (λa h=>?_) (λa h=>?_) (λa h z=>?_) (λa h e=>?_),aL.more⟩
    ·rcases lM h with h | h
     ·exact lL _ (lL _ (inF a h))
     ·exact lR _ h
    ·exact lL _ (lL _ (h5 a (lR _ (lO _ h))))
    ·rcases lM h with h | h
     ·rcases lM (p3 a h) with h | h
      ·exact k4.2.2 a h a (lO _ z) rfl
      ·rw[D1.mp h] at z; exact k5.1 z
     ·exact s2 a (h5 a (lR _ (lO _ z))) h
    ·obtain⟨_,z',_⟩:=ol.mem a h; rw[z'] at e; cases e
  ·cases e
theorem mY.yR{Z':Zs}(g:aL H Z H Z')(h:mY K H Z σ x o G):mY K H Z' σ x o G:=by
 cases h with
 |t q=>exact .t (q.mono g λ_ _ _ e=>e)
 |p q=>exact .p q
 |q a b c=>exact .q a b c
theorem jz.yR{Z Z':Zs}(g:aL H Z H Z'):∀{os:List cR}{xs:List V}{G:List Addr},jz K H Z σ xs os G->jz K H Z' σ xs os G:=by
 intro os xs G h
 induction h with
 |nil=>exact .nil
 |cons h r ih=>exact .cons (h.yR g) ih
theorem p8:∀{os:List cR}{xs:List V}{ds:List B2}{Z:Zs}{ρ ρ':Ev}{F G:List Addr},aR K H Z σ ρ F->jz K H Z σ xs os G->aH H0 Z0 F0 H Z (F++G)->dG os ρ=some (ds,ρ')->∃Z' F',aR K H Z' σ ρ' F'/\bF K H Z' xs ds/\aH H0 Z0 F0 H Z' F'/\aL H Z H Z':=by
 intro os
 induction os with
 |nil=>
  intro xs ds Z ρ ρ' F G S h f e;cases h;cases e; exact⟨_,_,S,.nil,(by rw[EQ] at f; exact f),aL.refl⟩
 |cons o os ih=>
  intro xs ds Z ρ ρ' F G S h f e;cases h with | cons h r=>
  obtain⟨⟨d,ρ1⟩,e1,e⟩:=oB e;obtain⟨⟨ds,ρ2⟩,e2,e⟩:=oB e;cases e;obtain⟨Z1,F1,S1,z1,f1,g1⟩:=freeze S h f.assoc' e1;obtain⟨Z2,F2,S2,z2,f2,g2⟩:=ih S1 (r.yR g1) f1 e2;exact⟨Z2,F2,S2,.cons (z1.mono g2) z2,f2,g1.trans g2⟩
theorem iA(S:aR K H Z σ ρ F)(h:mY K H Z σ x o G)(f:aH H0 Z0 F0 H Z (F++G))(e:cU o ρ=some (d,ρ')):∃Z' F',aR K H Z' σ ρ' F'/\Fz K H Z' x d/\aH H0 Z0 F0 H Z' F'/\aL H Z H Z':=by
 obtain⟨Z',F',h1,h2,h3,h4⟩:=freeze (R:=[]) S h (by rw[EQ]; exact f) e
 rw[EQ] at h3;exact⟨Z',F',h1,h2,h3,h4⟩
end
section
variable{X:Cx}{pos:Pos}
noncomputable def di(fa:FA):FE:=λρ=>(fa ρ).bind λp=>(dG p.1 p.2).bind λq=>if q.1.length<=lim then some (.t (.v (.tuple q.1)),q.2) else none
noncomputable def iF(fa:FA):FE:=λρ=>(fa ρ).bind λp=>(dG p.1 p.2).bind λq=>if q.1.length<=lim then some (.t (.lst q.1),q.2) else none
theorem D8{es:List Expr}{k:Nat}{fa:FA}(h:VA X es fa):VE X (.Tuple es k pos) (di fa):=aY (xZ h) λσ H Q hq=>by
 obtain⟨Z,ρ,F,o,ρ',S,w,e,q⟩:=hq;obtain⟨⟨os,ρ1⟩,e1,e⟩:=oB e;obtain⟨⟨ds,ρ2⟩,e2,e⟩:=oB e
 split at e
 ·next hl=>
  cases e;refine⟨Z,ρ,F,os,ρ1,S,w,e1,λxs H1 Z1 F1 G1 S1 O1 f1=>?_⟩
  obtain⟨Z2,F2,S2,z2,f2,g2⟩:=p8 S1 O1 f1 e2;refine⟨gw (by rw[z2.length]; exact hl),λp hp=>?_⟩
  have n:=aH.same (cN hp (.tup xs)) f2.za;exact q (.ref p) _ Z2 F2 [] (S2.news n) (.t (.v (.tup (dc.of aB) (z2.mono n.yO)))) (f2.trans (n.news f2.wf S2.al))
 ·cases e
theorem D9{es:List Expr}{fa:FA}(h:VA X es fa):VE X (.List es pos) (iF fa):=aY (Ds h) λσ H Q hq=>by
 obtain⟨Z,ρ,F,o,ρ',S,w,e,q⟩:=hq;obtain⟨⟨os,ρ1⟩,e1,e⟩:=oB e;obtain⟨⟨ds,ρ2⟩,e2,e⟩:=oB e
 split at e
 ·next hl=>
  cases e;refine⟨Z,ρ,F,os,ρ1,S,w,e1,λxs H1 Z1 F1 G1 S1 O1 f1=>?_⟩
  obtain⟨Z2,F2,S2,z2,f2,g2⟩:=p8 S1 O1 f1 e2;refine⟨gw (by rw[z2.length]; exact hl),λp hp=>?_⟩
  have n:=aH.pZ (o:=.lst xs) hp f2.za;exact q (.ref p) _ Z2 F2 [p] (S2.news n) (.t (.lst aB (z2.mono n.yO))) (f2.trans (n.news f2.wf S2.al))
 ·cases e
noncomputable def uW:FE:=λρ=>some (.t (.aA []),ρ)
theorem Bu:VE X (.Dict [] [] pos) uW:=aY yo λσ H Q hq=>by
 obtain⟨Z,ρ,F,o,ρ',S,w,e,q⟩:=hq;cases e;intro p hp;have n:=aH.pZ (o:=.dK []) hp w.za;exact q (.ref p) _ Z F [p] (S.news n) (.t (.aA aB .nil)) (n.news w S.al)
noncomputable def dm:B2->Option Key
 |.int i=>some (.inl i)
 |.str s=>some (.inr s)
 |_=>none
noncomputable def getM:M->M->Option M
 |.aA kvs,.v k=>(dm k).bind λk=>(bE kvs k).bind λd=>some (.v d)
 |.v (.str z),.v (.int i)=>if z.length<=lim then (jf z.cps.toList i).bind λc=>some (.v (.str ⟨#[c]⟩)) else none
 |m,.v (.int i)=>(seq m).bind λds=>(jf ds i).bind λd=>some (.v d)
 |_,_=>none
noncomputable def Gw:cR->M->Ev->Option (cR×Ev)
 |.t m1,m2,ρ=>(getM m1 m2).bind λm=>some (.t m,ρ)
 |.p i,m2,ρ=>(cS ρ i).bind λm1=>match m1,m2 with
  |.bW kvs,.v k=>(dm k).bind λk=>(bE kvs k).bind λ_=>some (.q i k,ρ)
  |m1,m2=>(getM m1 m2).bind λm=>some (.t m,ρ)
 |.q _ _,_,_=>none
noncomputable def bO(fa fb:FE):FE:=λρ=>(fa ρ).bind λp=>(fb p.2).bind λq=>(peek q.2 q.1).bind λm2=>Gw p.1 m2 q.2
theorem uX{K:AT}{H:Hp}{Z:Zs}:∀{kxs:List (Key×V)}{kvs:List (Key×B2)}{k:Key},gH K H Z kxs kvs->(bE kvs k=none->fS kxs k=none)/\∀d,bE kvs k=some d->∃x,fS kxs k=some x/\Fz K H Z x d:=by
 intro kxs
 induction kxs with
 |nil=>intro kvs k h; cases h; exact⟨λ_=>rfl,λ_ e=>(nomatch e)⟩
 |cons p kxs ih0=>
  intro kvs k h;cases h with | @cons k' _ _ _ _ h r=>
  have ih:=ih0 (k:=k) r;unfold bE;rw[JO]
  by_cases hk:k'=k
  ·subst hk
   simp only[decide_true,M4];rw[eO rfl];exact⟨λe=>(nomatch e),λd e=>⟨_,rfl,by cases e; exact h⟩⟩
  ·simp only[hk,decide_false]
   rw[eT hk];exact ih
theorem dN{K:AT}{H:Hp}{Z:Zs}{x:V}{d:B2}{k:Key}(h:Fz K H Z x d)(e:dm d=some k):x=kV k:=by
 cases h <;> cases e <;> rfl
theorem Ea{K:AT}{H:Hp}{Z:Zs}{xs:List V}{ds:List B2}{i:Int}{d:B2}(r:bF K H Z xs ds)(e:jf ds i=some d):∃x,jf xs i=some x/\Fz K H Z x d:=by
 unfold jf at e ⊢;rw[r.length];obtain⟨j,e1,e2⟩:=oB e;obtain⟨x,h1,h2⟩:=r.get' e2;exact⟨x,by rw[e1,IG]; exact h1,h2⟩
theorem ve_ix{a b:Expr}{fa fb:FE}(hu:X.A.units+64<cLine)(ha:VE X a fa)(hb:VE X b fb)(hs:pq b):VE X (.Subscript a b pos) (bO fa fb):=by
 refine aY (tF (pe_ix DA ha hb hs) (uL (by lia) ha hb hs)) λσ H Q hq=>?_
 obtain⟨Z,ρ,F,o,ρ',S,w,e,q⟩:=hq;obtain⟨⟨o1,ρ1⟩,e1,e⟩:=oB e;obtain⟨⟨o2,ρ2⟩,e2,e⟩:=oB e;obtain⟨m2,e3,e⟩:=oB e;have gen:∀m1 m,jy ρ2 o1=some m1->getM m1 m2=some m->o=.t m->ρ'=ρ2->CF (Hf X.K) (vE X.K fa) (vE X.K fb) σ H Q\/yi (vE X.K fa) (vE X.K fb) σ H Q:=λm1 m e4 e5 eo er=>by
  subst eo; subst er;have two':∀R:V->V->Hp->Prop,(∀H2 Z2 x y,(∀a,Z2 a->H2 a≠none)->Ro X.K H2 Z2 x m1->Ro X.K H2 Z2 y m2->(∀z H3 Z3 G,Ow X.K H3 Z3 z m G->aH H2 Z2 [] H3 Z3 G->Q z H3)->R x y H2) ->
    vE X.K fa σ H λx H1=>vE X.K fb σ H1 λy H2=>R x y H2:=λR hR=>by
   refine⟨Z,ρ,F,o1,ρ1,S,w,e1,λx H1 Z1 F1 G1 S1 O1 f1=>⟨Z1,ρ1,F1,o2,ρ',S1,f1.left.wf,e2,λy H2 Z2 F2 G2 S2 O2 f2=>?_⟩⟩
   have O1':=O1.mono (dM e4) (f2.grow f1.left.wf) (f1.qV f2);exact hR H2 Z2 x y f2.za (O1'.peek S2 (dJ e4)) (O2.peek S2 e3) λz H3 Z3 G h3 n=>q z H3 Z3 F2 G (S2.news n) (.t h3) ((f1.left.trans f2.left).trans (n.news f2.left.wf S2.al))
  clear q e e3
  unfold getM at e5
  split at e5
  ·rename_i kvs k
   obtain⟨k',e6,e5⟩:=oB e5;obtain⟨d,e7,e5⟩:=oB e5;cases e5;refine .inr (two' _ λH2 Z2 x y za h1 h2 fin=>?_)
   obtain⟨a',kxs,rfl,he,fk⟩:=h1.aA;obtain⟨v,hv,fv⟩:=(uX fk).2 d e7;obtain rfl:=dN h2.fz e6;exact⟨a',v,rfl,hv▸iV.k he,cG fin za fv⟩
  ·rename_i z i
   split at e5
   ·rename_i hl
    obtain⟨c,e7,e5⟩:=oB e5;cases e5;refine .inl (two' _ λH2 Z2 x y za h1 h2 fin=>?_)
    obtain rfl:=h1.str;obtain rfl:=h2.int;exact .inr (.inr ⟨_,_,c,rfl,rfl,gw hl,e7,cG fin za (.str _)⟩)
   ·cases e5
  ·obtain⟨ds,e6,e5⟩:=oB e5
   obtain⟨d,e7,e5⟩:=oB e5;cases e5;refine .inl (two' _ λH2 Z2 x y za h1 h2 fin=>?_)
   obtain⟨a',xs,rfl,hq,fs⟩:=h1.seq e6;obtain rfl:=h2.int;obtain⟨v,hv,fv⟩:=Ea fs e7;rcases hq with hq | hq
   ·exact .inl ⟨a',xs,_,v,rfl,rfl,hq,hv,cG fin za fv⟩
   ·exact .inr (.inl ⟨a',xs,_,v,rfl,rfl,hq,hv,cG fin za fv⟩)
  ·cases e5
 cases o1 with
 |t m1=>
  obtain⟨m,e5,e⟩:=oB e
  injection e with e
  injection e with ea eb
  exact gen m1 m rfl e5 ea.symm eb.symm
 |q _ _=>cases e
 |p i=>
  obtain⟨m1,e4,e⟩:=oB e
  split at e
  ·rename_i kvs k
   obtain⟨k',e6,e⟩:=oB e;obtain⟨ds,e7,e⟩:=oB e
   injection e with e
   injection e with ea eb
   subst ea; subst eb;refine .inr ⟨Z,ρ,F,.p i,ρ1,S,w,e1,λx H1 Z1 F1 G1 S1 O1 f1=>⟨Z1,ρ1,F1,o2,_,S1,f1.left.wf,e2,λy H2 Z2 F2 G2 S2 O2 f2=>?_⟩⟩
   cases O1 with
   |p hx=>
    obtain⟨x',G',h1,h2,_⟩:=S2.get (aF.mp e4);rw[hx] at h1; cases h1;cases h2 with
    |bW he ol=>
     obtain⟨b,xs,z1,z2,z3,z4⟩:=ol.get e7;have O2':=O2.peek S2 e3;obtain rfl:=dN O2'.fz e6;exact⟨_,.ref b,rfl,z1▸iV.k he,q (.ref b) H2 Z2 F2 [] S2 (.q hx he z1) (f1.left.trans f2.left).nil⟩
  ·obtain⟨m,e5,e⟩:=oB e
   injection e with e
   injection e with ea eb
   exact gen _ m e4 e5 ea.symm eb.symm
end
section
variable{X:Cx}{pos:Pos}
theorem Bv{fa fb:FE}{g:M->M->Option M}{σ:L2.St}{H:Hp}{Q:VK}(hq:vE X.K (vB g fa fb) σ H Q) :
  ∃m1 m2 m,g m1 m2=some m/\∀R:V->V->Hp->Prop,(∀H2 Z2 x y,(∀a,Z2 a->H2 a≠none)->Ro X.K H2 Z2 x m1->Ro X.K H2 Z2 y m2->(∀z H3 Z3 G,Ow X.K H3 Z3 z m G->aH H2 Z2 [] H3 Z3 G->Q z H3)->R x y H2) ->
   vE X.K fa σ H λx H1=>vE X.K fb σ H1 λy H2=>R x y H2:=by
 obtain⟨Z,ρ,F,o,ρ',S,w,e,q⟩:=hq;obtain⟨⟨o1,ρ1⟩,e1,e⟩:=oB e;obtain⟨⟨o2,ρ2⟩,e2,e⟩:=oB e;obtain⟨m1,e3,e⟩:=oB e;obtain⟨m2,e4,e⟩:=oB e;obtain⟨m,e5,e⟩:=oB e;cases e;refine⟨m1,m2,m,e5,λR hR=>⟨Z,ρ,F,o1,ρ1,S,w,e1,λx H1 Z1 F1 G1 S1 O1 f1=>⟨Z1,ρ1,F1,o2,ρ2,S1,f1.left.wf,e2,λy H2 Z2 F2 G2 S2 O2 f2=>?_⟩⟩⟩
 have O1':=O1.mono (dM e3) (f2.grow f1.left.wf) (f1.qV f2);exact hR H2 Z2 x y f2.za (O1'.peek S2 (dJ e3)) (O2.peek S2 e4) λz H3 Z3 G h3 n=>q z H3 Z3 F2 G (S2.news n) (.t h3) ((f1.left.trans f2.left).trans (n.news f2.left.wf S2.al))
noncomputable def kL(neg:Bool):M->M->Option M
 |.v k,.aA kvs=>(dm k).bind λk=>some (.v (.bool (if neg then !(bE kvs k).isSome else (bE kvs k).isSome)))
 |.v k,.bW kvs=>(dm k).bind λk=>some (.v (.bool (if neg then !(bE kvs k).isSome else (bE kvs k).isSome)))
 |.v (.str i),.v (.str j)=>some (.v (.bool (if neg then !(!(Jk j i 0 j.length 1).isEmpty) else !(Jk j i 0 j.length 1).isEmpty)))
 |m1,m2=>Ge neg m1 m2
theorem yS{K:AT}{H:Hp}{Z:Zs}:∀{kxs:List (Key×V)}{kvs:List (Key×List B2)}{G:List Addr}{k:Key},iy K H Z kxs kvs G->(fS kxs k).isSome=(bE kvs k).isSome:=by
 intro kxs kvs G k h
 induction h with
 |nil=>rfl
 |@cons k' _ _ _ _ _ _ h f r ih=>
  unfold bE;rw[JO]
  by_cases hk:k'=k
  ·subst hk
   simp only[decide_true,M4];rw[eO rfl];rfl
  ·simp only[hk,decide_false]
   rw[eT hk];exact ih
theorem wO{K:AT}{H:Hp}{Z:Zs}{kxs:List (Key×V)}{kvs:List (Key×B2)}{k:Key}(h:gH K H Z kxs kvs):(fS kxs k).isSome=(bE kvs k).isSome:=by
 obtain⟨h1,h2⟩:=uX (k:=k) h;cases e:bE kvs k with
 |none=>rw[h1 e]; rfl
 |some d=>obtain⟨x,h3,_⟩:=h2 d e; rw[h3]; rfl
theorem yT{neg:Bool}{fa fb:FE}{σ:L2.St}{H:Hp}{Q:VK}{rs:R2}(hrs:rs=λx y H Q=>∃i j,x=.str i/\y=.str j/\Q (.bl (if neg then !(!(Jk j i 0 j.length 1).isEmpty) else !(Jk j i 0 j.length 1).isEmpty)) H)(hq:vE X.K (vB (kL neg) fa fb) σ H Q) :
  (CF (rM X.K (Ge neg)) (vE X.K fa) (vE X.K fb) σ H Q\/CF rs (vE X.K fa) (vE X.K fb) σ H Q)\/(λσ H Q=>vE X.K fa σ H λy H1=>vE X.K fb σ H1 λx H2=>∃a o,x=.ref a/\iV H2 a y o/\Q (.bl (if neg then !o.isSome else o.isSome)) H2:TE) σ H Q:=by
 obtain⟨m1,m2,m,e,h⟩:=Bv hq;unfold kL at e
 split at e
 ·obtain⟨k,e1,e⟩:=oB e
  cases e;refine .inr (h _ λH2 Z2 x y za h1 h2 fin=>?_)
  obtain⟨a,kxs,rfl,he,fk⟩:=h2.aA;obtain rfl:=dN h1.fz e1;refine⟨a,_,rfl,iV.k he,?_⟩;rw[wO fk];exact cG fin za (.bl _)
 ·obtain⟨k,e1,e⟩:=oB e
  cases e;refine .inr (h _ λH2 Z2 x y za h1 h2 fin=>?_)
  obtain⟨a,kxs,G,rfl,he,fk⟩:=h2.bW;obtain rfl:=dN h1.fz e1;refine⟨a,_,rfl,iV.k he,?_⟩;rw[yS fk];exact cG fin za (.bl _)
 ·cases e
  refine .inl (.inr (h _ λH2 Z2 x y za h1 h2 fin=>?_))
  obtain rfl:=h1.str; obtain rfl:=h2.str;rw[hrs];exact⟨_,_,rfl,rfl,cG fin za (.bl _)⟩
 ·exact .inl (.inl (h _ λH2 Z2 x y za h1 h2 fin=>⟨Z2,_,_,_,za,h1,h2,e,fin⟩))
theorem ve_in{a b:Expr}{fa fb:FE}(hu:X.A.units+64<cLine)(ha:VE X a fa)(hb:VE X b fb)(hm:J5 .In b=false:=by rfl):VE X (.Compare a [.In] [b] pos) (vB (kL false) fa fb) :=
 aY (tF (tF (o9 (CN hu) ha hb hm) (o9 nM ha hb hm)) (C4 (yj (by lia) ha hb) hm)) λ_ _ _ hq=>yT rfl hq
theorem vt_in{a b:Expr}{fa fb:FE}(hu:X.A.units+64<cLine)(ha:VE X a fa)(hb:VE X b fb)(hm:J5 .In b=false:=by rfl):VT X (.Compare a [.In] [b] pos) (aG (vB (kL false) fa fb)) :=
 lN (pU (pU (ji (CN hu) ha hb hm) (ji nM ha hb hm)) (xN (yj (by lia) ha hb) hm)) λ_ _ _ hq=>yT rfl (FZ hq)
theorem yU{a b:Expr}{fa fb:FE}(hu:X.A.units+64<cLine)(ha:VE X a fa)(hb:VE X b fb)(hm:J5 .NotIn b=false:=by rfl):VT X (.Compare a [.NotIn] [b] pos) (aG (vB (kL true) fa fb)) :=
 lN (pU (pU (ji (yQ hu) ha hb hm) (ji o8 ha hb hm)) (xN (wz (by lia) ha hb) hm)) λ_ _ _ hq=>yT rfl (FZ hq)
noncomputable def rf:M->Option Bool
 |.v .none=>some false
 |.v (.bool b)=>some b
 |.v (.int i)=>some (i != 0)
 |.v (.str y)=>if y.length<=lim then some ((y.length:Int) != 0) else none
 |.v (.tuple ds)=>some (!ds.isEmpty)
 |.v (.list ds)=>some (!ds.isEmpty)
 |.lst ds=>some (!ds.isEmpty)
 |.aA kvs=>some (!kvs.isEmpty)
 |.bW kvs=>some (!kvs.isEmpty)
 |_=>none
noncomputable def p9(f:FE):FT:=λρ=>(f ρ).bind λp=>(peek p.2 p.1).bind λm=>(rf m).bind λb=>some (b,p.2)
theorem Gx{α β:Type}{xs:List α}{ys:List β}(h:xs.length=ys.length):(!xs.isEmpty) = !ys.isEmpty:=by
 cases xs <;> cases ys <;> simp_all
theorem Ro.HN{K:AT}{H:Hp}{Z:Zs}{x:V}{m:M}{b:Bool}(h:Ro K H Z x m)(e:rf m=some b):TruV K x H b:=by
 have seqs:∀{ds:List B2},VL.seq m=some ds->some (!ds.isEmpty)=some b->TruV K x H b:=λ{ds}e1 e2=>by
  obtain⟨a,xs,rfl,hq,f⟩:=h.seq e1;cases e2;rcases hq with hq | hq
  ·exact .inl ⟨xs,hq,(Gx f.length).symm⟩
  ·exact .inr (.inl ⟨xs,hq,(Gx f.length).symm⟩)
 cases m with
 |v d=>
  cases d with
  |none=>cases e; obtain rfl:=h.fz.uS; exact rfl
  |bool _=>cases e; obtain rfl:=h.bl; exact rfl
  |int _=>cases e; obtain rfl:=h.int; exact rfl
  |str y=>
   have e:(if y.length<=lim then some ((y.length:Int) != 0) else none)=some b:=e
   split at e
   ·next hl=>cases e; obtain rfl:=h.str; exact⟨gw hl,rfl⟩
   ·cases e
  |tuple ds=>exact seqs rfl e
  |list ds=>exact seqs rfl e
  |dict _=>cases e
 |lst ds=>exact seqs rfl e
 |aA kvs=>
  cases e;obtain⟨a,kxs,rfl,he,fk⟩:=h.aA;exact .inr (.inr ⟨kxs,he,(Gx fk.length).symm⟩)
 |dtp kvs=>cases e
 |bW kvs=>
  cases e;obtain⟨a,kxs,G,rfl,he,fk⟩:=h.bW;refine .inr (.inr ⟨kxs,he,(Gx ?_).symm⟩)
  clear he h seqs
  induction fk with
  |nil=>rfl
  |cons _ _ _ ih=>rw[Bz,Bz,ih]
theorem Eb{e:Expr}{f:FE}(h:VE X e f)(he:∀whole,Om e X.env whole=(do let v <-whole; MY e.pos; LX [v] (truthy v)):=by intro _; rfl):VT X e (p9 f):=lN (xX h he) λσ H Q hq=>by
 obtain⟨Z,ρ,F,b,ρ',S,w,e,q⟩:=hq;obtain⟨⟨o1,ρ1⟩,e1,e⟩:=oB e;obtain⟨m,e2,e⟩:=oB e;obtain⟨b',e3,e⟩:=oB e;cases e;exact⟨Z,ρ,F,o1,ρ1,S,w,e1,λx H1 Z1 F1 G1 S1 O1 f1=>⟨_,(O1.peek S1 e2).HN e3,q H1 Z1 F1 S1 f1.left⟩⟩
abbrev FO:=Ev->Option (Option Int×Ev)
inductive vO(K:AT)(f:FO)(σ:L2.St)(H:Hp)(Q:Option Int->Hp->Prop):Prop
 |mk (Z:Zs) (ρ:Ev) (F:List Addr) (o:Option Int) (ρ':Ev):aR K H Z σ ρ F->Wf H Z F->f ρ=some (o,ρ')->(∀H' Z' F',aR K H' Z' σ ρ' F'->aH H Z F H' Z' F'->Q o H')->vO K f σ H Q
noncomputable def i7:FO:=λρ=>some (none,ρ)
noncomputable def i8(f:FE):FO:=λρ=>(f ρ).bind λp=>(peek p.2 p.1).bind λm=>match m with
 |.v (.int i)=>some (some i,p.2)
 |_=>none
theorem Bw:PO X none (vO X.K i7):=λpins s σ H Q I hq=>AX pins s σ H Q I (by
 obtain⟨Z,ρ,F,o,ρ',S,w,e,q⟩:=hq;cases e;exact q H Z F S (aH.refl w))
theorem Bx{e:Expr}{f:FE}(h:VE X e f):PO X (some e) (vO X.K (i8 f)):=λpins s σ H Q I hq=>AY h pins s σ H Q I (by
 obtain⟨Z,ρ,F,o,ρ',S,w,e,q⟩:=hq;obtain⟨⟨o1,ρ1⟩,e1,e⟩:=oB e;obtain⟨m1,e3,e⟩:=oB e;refine⟨Z,ρ,F,o1,ρ1,S,w,e1,λx H1 Z1 F1 G1 S1 O1 f1=>?_⟩
 split at e
 ·cases e
  obtain rfl:=(O1.peek S1 e3).int;exact⟨_,rfl,q H1 Z1 F1 S1 f1.left⟩
 ·cases e)
noncomputable def cutD(ds:List B2)(lo hi:Option Int):List B2:=(ds.drop (HT.cM ds.length 0 lo)).take (HT.cM ds.length ds.length hi-HT.cM ds.length 0 lo)
theorem tL{K:AT}{H:Hp}{Z:Zs}{xs:List V}{ds:List B2}(r:bF K H Z xs ds)(lo hi:Option Int):bF K H Z (kZ xs lo hi) (cutD ds lo hi):=by
 unfold kZ cutD;rw[r.length];exact(r.drop _).take _
noncomputable def Fd(lo hi:Option Int):M->Option M
 |.v (.tuple ds)=>some (.v (.tuple (cutD ds lo hi)))
 |.lst ds=>some (.lst (cutD ds lo hi))
 |.v (.list ds)=>some (.lst (cutD ds lo hi))
 |_=>none
noncomputable def Ec(fa:FE)(fl fh:FO):FE:=λρ=>(fa ρ).bind λp=>(fl p.2).bind λl=>(fh l.2).bind λh=>(jy h.2 p.1).bind λm=>(Fd l.1 h.1 m).bind λm'=>some (.t m',h.2)
theorem AZ.or{r r':V->Option Int->Option Int->Hp->VK->Prop}(h:AZ X r)(h':AZ X r'):AZ X (λx lo hi H Q=>r x lo hi H Q\/r' x lo hi H Q):=by
 intro pins s σ H x v vl vu lo hi sl Q I rx hs pl pu q;rcases q with q | q
 ·exact h pins s σ H x v vl vu lo hi sl Q I rx hs pl pu q
 ·exact h' pins s σ H x v vl vu lo hi sl Q I rx hs pl pu q
theorem ve_sl{e:Expr}{lo hi:Option Expr}{p2:Pos}{fa:FE}{fl fh:FO}(ha:VE X e fa)(hl:PO X lo (vO X.K fl))(hh:PO X hi (vO X.K fh)):VE X (.Subscript e (.Slice lo hi none p2) pos) (Ec fa fl fh):=aY (yd (AZ.or Bo A4) ha hl hh) λσ H Q hq=>by
 obtain⟨Z,ρ,F,o,ρ',S,w,e,q⟩:=hq;obtain⟨⟨o1,ρ1⟩,e1,e⟩:=oB e;obtain⟨⟨l,ρ2⟩,e2,e⟩:=oB e;obtain⟨⟨h,ρ3⟩,e3,e⟩:=oB e;obtain⟨m,e4,e⟩:=oB e;obtain⟨m',e5,e⟩:=oB e;cases e;refine⟨Z,ρ,F,o1,ρ1,S,w,e1,λx H1 Z1 F1 G1 S1 O1 f1=>⟨Z1,ρ1,F1,l,ρ2,S1,f1.left.wf,e2,λH2 Z2 F2 S2 f2=>⟨Z2,ρ2,F2,h,ρ3,S2,f2.wf,e3,λH3 Z3 F3 S3 f3=>?_⟩⟩⟩
 have f23:=f2.trans f3;have O1':=O1.mono (dM e4) (f23.grow f1.left.wf) (f1.qV f23);have r:=O1'.peek S3 (dJ e4);have fin:∀z H4 Z4 G,Ow X.K H4 Z4 z m' G->aH H3 Z3 [] H4 Z4 G->Q z H4:=λz H4 Z4 G h4 n=>q z H4 Z4 F3 G (S3.news n) (.t h4) ((f1.left.trans f23).trans (n.news f3.wf S3.al))
 unfold Fd at e5
 split at e5
 ·cases e5
  obtain⟨a,xs,rfl,hx,fx⟩:=r.tup;exact .inl ⟨a,xs,rfl,hx,λr H' s' t=>endS fin f3.za s' (.tup t ((tL fx _ _).mono (aL.same s')))⟩
 ·cases e5
  obtain⟨a,xs,rfl,hx,fx⟩:=r.lP rfl;exact .inr ⟨a,xs,rfl,hx,λp hp=>p5 fin f3.za hp (tL fx _ _)⟩
 ·cases e5
  obtain⟨a,xs,rfl,hx,fx⟩:=r.lP rfl;exact .inr ⟨a,xs,rfl,hx,λp hp=>p5 fin f3.za hp (tL fx _ _)⟩
 ·cases e5
end
section
variable{α:Type}
noncomputable def ins(lt:α->α->Bool)(x:α):List α->List α
 |[]=>[x]
 |y::ys=>if lt y x=true then y::ins lt x ys else x::y::ys
noncomputable def oi(lt:α->α->Bool):List α->List α
 |[]=>[]
 |x::xs=>ins lt x (oi lt xs)
theorem lQ(lt:α->α->Bool)(x:α):∀ys:List α,(ins lt x ys).Perm (x::ys)
 |[]=>.refl _
 |y::ys=>by
  unfold ins
  split
  ·exact((lQ lt x ys).cons y).trans (.swap x y ys)
  ·exact .refl _
theorem cV(lt:α->α->Bool):∀xs:List α,(oi lt xs).Perm xs
 |[]=>.refl _
 |x::xs=>(lQ lt x _).trans ((cV lt xs).cons x)
theorem yV{lt:α->α->Bool}(as:∀a b,lt a b=true->lt b a=false)(tr:∀a b c,lt b a=false->lt c b=false->lt c a=false)(x:α):∀{ys:List α},ys.Pairwise (λa b=>lt b a=false)->(ins lt x ys).Pairwise (λa b=>lt b a=false)
 |[],_=>Oa _ _
 |y::ys,h=>by
  obtain⟨h1,h2⟩:=Ig.mp h;unfold ins
  split
  ·next e=>
   refine Ig.mpr ⟨λz hz=>?_,yV as tr x h2⟩
   rcases lK ((lQ lt x ys).mem_iff.mp hz) with hz | hz
   ·subst hz; exact as _ _ e
   ·exact h1 z hz
  ·next e=>
   have e:lt y x=false:=by simpa using e
   refine Ig.mpr ⟨λz hz=>?_,h⟩
   rcases lK hz with hz | hz
   ·subst hz; exact e
   ·exact tr _ _ _ e (h1 z hz)
theorem gY{lt:α->α->Bool}(as:∀a b,lt a b=true->lt b a=false)(tr:∀a b c,lt b a=false->lt c b=false->lt c a=false):∀xs:List α,(oi lt xs).Pairwise (λa b=>lt b a=false)
 |[]=>.nil
 |x::xs=>yV as tr x (gY as tr xs)
end
noncomputable def ltI(a b:Int):Bool:=decide (a<b)
noncomputable def sortI(ns:List Int):List Int:=oi ltI ns
noncomputable def kh(ks:List (List Int)):List (List Int):=oi HT.lexLt ks
theorem iM:∀(a b:List Int),HT.lexLt a b=false->HT.lexLt b a=false->a=b
 |[],[],_,_=>rfl
 |[],_::_,h,_=>by cases h
 |_::_,[],_,h=>by cases h
 |x::xs,y::ys,h,h'=>by
  rw[HT.bN] at h h'
  by_cases e:x=y
  ·subst e
   rw[if_pos rfl] at h h';rw[iM xs ys h h']
  ·rw[if_neg e] at h
   rw[if_neg (Kr e)] at h';have h:=of_decide_eq_false h;have h':=of_decide_eq_false h';lia
theorem lT{ns ns':List Int}(p:ns'.Perm ns)(s:ns'.Pairwise (·<=·)):ns'=sortI ns:=by
 refine NZ (le:=λa b=>ltI b a=false) (λa b _ _ h1 h2=>?_) (s.imp λh=>?_) (gY (λa b h=>?_) (λa b c h1 h2=>?_) ns) (p.trans (cV _ ns).symm)
 ·unfold ltI at h1 h2
  have h1:=of_decide_eq_false h1;have h2:=of_decide_eq_false h2;lia
 ·exact decide_eq_false (by lia)
 ·have h:=of_decide_eq_true h
  exact decide_eq_false (by lia)
 ·have h1:=of_decide_eq_false h1
  have h2:=of_decide_eq_false h2;exact decide_eq_false (by lia)
theorem lU{ns ns':List (List Int)}(p:ns'.Perm ns)(s:ns'.Pairwise λa b=>HT.lexLt b a=false):ns'=kh ns :=
 NZ (le:=λa b=>HT.lexLt b a=false) (λa b _ _ h1 h2=>iM a b h2 h1) s (gY cT cX ns) (p.trans (cV _ ns).symm)
noncomputable def tI(ns:List Int):B2:=.tuple (ns.map .int)
noncomputable def HP:B2->Option (List Int)
 |.tuple ds=>gX ds
 |_=>none
noncomputable def wQ:List B2->Option (List (List Int))
 |[]=>some []
 |d::ds=>(HP d).bind λi=>(wQ ds).bind λis=>some (i::is)
theorem jA:∀{ds:List B2}{ks:List (List Int)},wQ ds=some ks->ds=ks.map tI:=by
 intro ds
 induction ds with
 |nil=>intro _ e; cases e; rfl
 |cons d ds ih=>
  intro _ e;obtain⟨i,e1,e⟩:=oB e;obtain⟨is,e2,e⟩:=oB e;cases e;rw[ih e2];cases d with
  |tuple xs=>rw[FC]; unfold tI; rw[cO e1]
  |_=>cases e1
theorem qc:∀(ks:List (List Int)),wQ (ks.map tI)=some ks
 |[]=>rfl
 |k::ks=>by show (gX (k.map .int)).bind _=_; rw[fZ,IG,qc ks]; rfl
theorem bF.HA{K:AT}{H:Hp}{Z:Zs}:∀{ks:List (List Int)}{xs:List V},bF K H Z xs (ks.map tI)->xG K H xs ks:=by
 intro ks
 induction ks with
 |nil=>intro xs h; cases h; exact .nil
 |cons k ks ih=>
  intro xs h;cases h with | cons h r=>
  exact .cons (by obtain⟨a,xs,e1,e2,e3⟩:=h.gu; rw[e3.dh] at e2; exact⟨a,e1,e2⟩) (ih r)
theorem bF.qd{K:AT}{H:Hp}{Z:Zs}{xs:List V}{ks:List (List Int)}(r:xG K H xs ks):∀(zs:List (V×List Int)),(∀z∈zs,z∈xs.zip ks)->bF K H Z (zs.map (·.1)) ((zs.map (·.2)).map tI)
 |[],_=>.nil
 |z::zs,h=>.cons (by
  have hz:=h z lS;have:∀{xs:List V}{ks:List (List Int)},xG K H xs ks->z∈xs.zip ks->∃a,z.1=.ref a/\dc K H a (z.2.map V.int):=λ{xs ks}r hz=>by
   induction r with
   |nil=>simp at hz
   |cons q _ ih=>
    rw[Jl] at hz;rcases lK hz with hz | hz
    ·subst hz; exact q
    ·exact ih hz
  obtain⟨a,e1,e2⟩:=this r hz;show Fz K H Z z.1 (tI z.2);rw[e1];exact .tup e2 (bF.ints _)) (bF.qd r zs λz' h'=>h z' (lO _ h'))
noncomputable def inlK:Key->Option Int
 |.inl i=>some i
 |.inr _=>none
noncomputable def tM:List Key->Option (List Int)
 |[]=>some []
 |k::ks=>(inlK k).bind λi=>(tM ks).bind λis=>some (i::is)
theorem rj:∀{ks:List Key}{is:List Int},tM ks=some is->ks=is.map JP:=by
 intro ks
 induction ks with
 |nil=>intro _ e; cases e; rfl
 |cons k ks ih=>
  intro _ e;obtain⟨i,e1,e⟩:=oB e;obtain⟨is,e2,e⟩:=oB e;cases e;rw[ih e2];cases k with
  |inl j=>cases e1; rfl
  |inr _=>cases e1
theorem rm:∀(is:List Int),tM (is.map JP)=some is
 |[]=>rfl
 |i::is=>by show (some i).bind _=_; rw[IG,rm is]; rfl
noncomputable def iN(ds:List B2):Option (List B2) :=
 if ds.length<64 then
  match gX ds with
  |some ns=>some ((sortI ns).map .int)
  |none=>(wQ ds).bind λks=>if ks.all (λk=> !k.isEmpty)=true then some ((kh ks).map tI) else none
 else none
noncomputable def eU:List M->Option M
 |[.aA kvs]=>(tM (kvs.map (·.1))).bind λns=>if ns.length<64 then some (.lst ((sortI ns).map .int)) else none
 |[.bW kvs]=>(tM (kvs.map (·.1))).bind λns=>if ns.length<64 then some (.lst ((sortI ns).map .int)) else none
 |[.v (.tuple ds)]=>(gX ds).bind λns=>if ns.length<64 then some (.lst ((sortI ns).map .int)) else none
 |[m]=>(lP m).bind λds=>(iN ds).bind λes=>some (.lst es)
 |_=>none
theorem iy.keys{K:AT}{H:Hp}{Z:Zs}:∀{xs:List (Key×V)}{ds:List (Key×List B2)}{G:List Addr},iy K H Z xs ds G->xs.map (·.1)=ds.map (·.1):=by
 intro xs ds G h
 induction h with
 |nil=>rfl
 |cons _ _ r ih=>rw[FC,FC,ih]
section
variable{X:Cx}{pos:Pos}
theorem gO{K:AT}{H:Hp}{Z:Zs}{xs:List V}{m:M}(h:Fc K H Z xs [m]):∃x,xs=[x]/\Ro K H Z x m:=by
 cases h with
 |cons h r=>cases r; exact⟨_,rfl,h⟩
theorem ros2{K:AT}{H:Hp}{Z:Zs}{xs:List V}{m m':M}(h:Fc K H Z xs [m,m']):∃x y,xs=[x,y]/\Ro K H Z x m/\Ro K H Z y m':=by
 cases h with
 |cons h r=>cases r with
  |cons h' r=>cases r; exact⟨_,_,rfl,h,h'⟩
theorem gb(hc:X.calm=true):bL X (.builtin "sorted") (uU X.K eU):=by
 intro pins s σ H xs us Q I rs h;obtain⟨Z,ms,m,za,hr,e,q⟩:=h;have hInt:∀{ns ns':List Int}{l:Addr},(∀z H' Z' G,Ow X.K H' Z' z (.lst ((sortI ns).map .int)) G->aH H Z [] H' Z' G->Q z H')->ns'.Perm ns->ns'.Pairwise (·<=·)->H l=none->Q (.ref l) (upd H l (.lst (ns'.map V.int))):=λ{ns ns' l}q p w hl=>by
  rw[lT p w];exact p5 q za hl (bF.ints _)
 unfold eU at e
 split at e
 ·obtain⟨ns,e1,e⟩:=oB e
  split at e
  ·next h64=>
   cases e;obtain⟨x,rfl,h1⟩:=gO hr;obtain⟨a,kxs,rfl,he,fk⟩:=h1.aA;exact fX hc pins s σ H _ us Q I rs ⟨a,kxs,ns,rfl,he,by rw[fk.keys,rj e1],h64,λns' l p w hl=>hInt q p w hl⟩
  ·cases e
 ·obtain⟨ns,e1,e⟩:=oB e
  split at e
  ·next h64=>
   cases e;obtain⟨x,rfl,h1⟩:=gO hr;obtain⟨a,kxs,G,rfl,he,fk⟩:=h1.bW;exact fX hc pins s σ H _ us Q I rs ⟨a,kxs,ns,rfl,he,by rw[fk.keys,rj e1],h64,λns' l p w hl=>hInt q p w hl⟩
  ·cases e
 ·obtain⟨ns,e1,e⟩:=oB e
  split at e
  ·next h64=>
   cases e;obtain⟨x,rfl,h1⟩:=gO hr;obtain⟨a,xs,rfl,hx,fx⟩:=h1.tup;rw[cO e1] at fx;rw[fx.dh] at hx;exact jQ pins s σ H _ us Q I rs ⟨a,ns,rfl,hx,h64,λns' l p w hl=>hInt q p w hl⟩
  ·cases e
 ·next m0 _ _ _=>
  obtain⟨ds,e1,e⟩:=oB e;obtain⟨es,e2,e⟩:=oB e;cases e;obtain⟨x,rfl,h1⟩:=gO hr;obtain⟨a,xs,rfl,hx,fx⟩:=h1.lP e1;unfold iN at e2
  split at e2
  ·next h64=>
   split at e2
   ·next ns e3=>
    cases e2;rw[cO e3] at fx h64;rw[fx.dh] at hx;exact jO pins s σ H _ us Q I rs ⟨a,ns,rfl,hx,by simpa using h64,λns' l p w hl=>hInt q p w hl⟩
   ·obtain⟨ks,e3,e2⟩:=oB e2
    split at e2
    ·next hne=>
     cases e2;rw[jA e3] at fx;have hl:xs.length=ks.length:=by rw[fx.length,BM]
     have ht:=fx.HA;refine jP pins s σ H _ us Q I rs ⟨a,xs,ks,rfl,hx,ht,λt h z=>?_,?_,λzs l p w hl' =>?_⟩
     ·have:=K2.mp hne t h
      rw[z] at this;cases this
     ·have:ds.length=ks.length:=by rw[jA e3,BM]
      lia
     ·have e:zs.map (·.2)=kh ks:=lU ((p.map (·.2)).trans (by rw[NR (by lia)])) w
      have:=bF.qd (Z:=Z) ht zs λz h=>p.mem_iff.mp h
      rw[e] at this;exact p5 q za hl' this
    ·cases e2
  ·cases e2
 ·cases e
noncomputable def cK:List M->Option M
 |[.aA kvs]=>some (.v (.int kvs.length))
 |[.bW kvs]=>some (.v (.int kvs.length))
 |[.v (.str z)]=>if z.length<=lim then some (.v (.int z.length)) else none
 |[m]=>(seq m).bind λds=>some (.v (.int ds.length))
 |_=>none
theorem iy.length{K:AT}{H:Hp}{Z:Zs}:∀{xs:List (Key×V)}{ds:List (Key×List B2)}{G:List Addr},iy K H Z xs ds G->xs.length=ds.length
 |_,_,_,.nil=>rfl
 |_,_,_,.cons _ _ r=>by rw[Bz,Bz,iy.length r]
theorem cW:bL X (.builtin "len") (uU X.K cK):=by
 intro pins s σ H xs us Q I rs h;obtain⟨Z,ms,m,za,hr,e,q⟩:=h;unfold cK at e
 split at e
 ·cases e
  obtain⟨x,rfl,h1⟩:=gO hr;obtain⟨a,kxs,rfl,he,fk⟩:=h1.aA;exact nW pins s σ H _ us Q I rs ⟨a,kxs,rfl,he,by rw[fk.length]; exact cG q za (.int _)⟩
 ·cases e
  obtain⟨x,rfl,h1⟩:=gO hr;obtain⟨a,kxs,G,rfl,he,fk⟩:=h1.bW;exact nW pins s σ H _ us Q I rs ⟨a,kxs,rfl,he,by rw[fk.length]; exact cG q za (.int _)⟩
 ·split at e
  ·next hl=>
   cases e;obtain⟨x,rfl,h1⟩:=gO hr;obtain rfl:=h1.str;exact pF pins s σ H _ us Q I rs ⟨_,rfl,gw hl,cG q za (.int _)⟩
  ·cases e
 ·obtain⟨ds,e1,e⟩:=oB e
  cases e;obtain⟨x,rfl,h1⟩:=gO hr;obtain⟨a,ys,rfl,hx,fx⟩:=h1.seq e1;exact pB pins s σ H _ us Q I rs ⟨a,ys,rfl,hx,by rw[fx.length]; exact cG q za (.int _)⟩
 ·cases e
noncomputable def gP:List M->Option M
 |[m]=>(seq m).bind λds=>some (.v (.tuple ds))
 |_=>none
theorem dw:bL X (.type "tuple") (uU X.K gP):=by
 intro pins s σ H xs us Q I rs h;obtain⟨Z,ms,m,za,hr,e,q⟩:=h;unfold gP at e
 split at e
 ·obtain⟨ds,e1,e⟩:=oB e
  cases e;obtain⟨x,rfl,h1⟩:=gO hr;obtain⟨a,ys,rfl,hx,fx⟩:=h1.seq e1;refine nj pins s σ H _ us Q I rs ⟨a,ys,rfl,?_⟩;rcases hx with hx | hx
  ·exact .inl ⟨hx,λl hl=>endT q za hl fx⟩
  ·exact .inr ⟨hx,cG q za (.tup hx fx)⟩
 ·cases e
noncomputable def yW:List M->Option M
 |[.v (.int i)]=>some (.v (.int (if i<0 then -i else i)))
 |_=>none
theorem yX:bL X (.builtin "abs") (uU X.K yW):=by
 intro pins s σ H xs us Q I rs h;obtain⟨Z,ms,m,za,hr,e,q⟩:=h;unfold yW at e
 split at e
 ·cases e
  obtain⟨x,rfl,h1⟩:=gO hr;obtain rfl:=h1.int;exact xY pins s σ H _ us Q I rs ⟨_,rfl,cG q za (.int _)⟩
 ·cases e
noncomputable def rq:List M->Option M
 |[.v (.int i)]=>some (.v (.int i))
 |[.v (.bool k)]=>some (.v (.int (if k then 1 else 0)))
 |_=>none
theorem Ed:bL X (.type "int") (uU X.K rq):=by
 intro pins s σ H xs us Q I rs h;obtain⟨Z,ms,m,za,hr,e,q⟩:=h;unfold rq at e
 split at e
 ·cases e
  obtain⟨x,rfl,h1⟩:=gO hr;obtain rfl:=h1.int;exact nN pins s σ H _ us Q I rs (.inl ⟨_,rfl,cG q za (.int _)⟩)
 ·cases e
  obtain⟨x,rfl,h1⟩:=gO hr;obtain rfl:=h1.bl;exact nN pins s σ H _ us Q I rs (.inr ⟨_,rfl,cG q za (.int _)⟩)
 ·cases e
noncomputable def wR:List Int->Option Int
 |[]=>none
 |n::ns=>match wR ns with
  |none=>some n
  |some k=>some (if k<n then k else n)
theorem om:∀{ns:List Int}{k:Int},wR ns=some k->k∈ns/\∀a∈ns,k<=a
 |[],_,e=>by cases e
 |n::ns,k,e=>by
  unfold wR at e;cases h:wR ns with
  |none=>
   rw[h] at e; cases e;cases ns with
   |nil=>exact⟨lS,λa ha=>by rw[D1.mp ha]; exact Int.le_refl _⟩
   |cons y ys=>unfold wR at h; split at h <;> cases h
  |some j=>
   rw[h] at e;have e:(if j<n then j else n)=k:=Go e
   obtain⟨h1,h2⟩:=om h
   by_cases c:j<n
   ·rw[if_pos c] at e; subst e
    exact⟨lO _ h1,λa ha=>by
     rcases lK ha with ha | ha
     ·subst ha; lia
     ·exact h2 a ha⟩
   ·rw[if_neg c] at e; subst e
    exact⟨lS,λa ha=>by
     rcases lK ha with ha | ha
     ·subst ha; lia
     ·have:=h2 a ha; lia⟩
noncomputable def tN:List M->Option M
 |[.v (.int i),.v (.int j)]=>some (.v (.int (if j<i then j else i)))
 |[m]=>(lP m).bind λds=>(gX ds).bind λns=>(wR ns).bind λk=>some (.v (.int k))
 |_=>none
theorem yY(hc:X.calm=true):bL X (.builtin "min") (uU X.K tN):=by
 intro pins s σ H xs us Q I rs h;obtain⟨Z,ms,m,za,hr,e,q⟩:=h;unfold tN at e
 split at e
 ·cases e
  obtain⟨x,y,rfl,h1,h2⟩:=ros2 hr;obtain rfl:=h1.int; obtain rfl:=h2.int;exact wj hc pins s σ H _ us Q I rs ⟨_,_,rfl,cG q za (.int _)⟩
 ·obtain⟨ds,e1,e⟩:=oB e
  obtain⟨ns,e2,e⟩:=oB e;obtain⟨k,e3,e⟩:=oB e;cases e;obtain⟨x,rfl,h1⟩:=gO hr;obtain⟨a,ys,rfl,hx,fx⟩:=h1.lP e1;rw[cO e2] at fx;rw[fx.dh] at hx;obtain⟨k1,k2⟩:=om e3;refine nB hc pins s σ H _ us Q I rs ⟨a,ns,rfl,hx,λz=>by rw[z] at k1; simp at k1,λM h1 h2=>?_⟩
  have:M=k:=Int.le_antisymm (h2 k k1) (k2 M h1);subst this;exact cG q za (.int _)
 ·cases e
noncomputable def oq:List M->Option M
 |[.v (.int i),.v (.int j)]=>some (.v (.int (if j>i then j else i)))
 |_=>none
theorem By(hc:X.calm=true):bL X (.builtin "max") (uU X.K oq):=by
 intro pins s σ H xs us Q I rs h;obtain⟨Z,ms,m,za,hr,e,q⟩:=h;unfold oq at e
 split at e
 ·cases e
  obtain⟨x,y,rfl,h1,h2⟩:=ros2 hr;obtain rfl:=h1.int; obtain rfl:=h2.int;exact wg hc pins s σ H _ us Q I rs ⟨_,_,rfl,cG q za (.int _)⟩
 ·cases e
noncomputable def HQ:B2->Option Bool
 |.bool b=>some b
 |_=>none
noncomputable def tO:List B2->Option (List Bool)
 |[]=>some []
 |d::ds=>(HQ d).bind λi=>(tO ds).bind λis=>some (i::is)
theorem yZ:∀{ds:List B2}{is:List Bool},tO ds=some is->ds=is.map .bool:=by
 intro ds
 induction ds with
 |nil=>intro _ e; cases e; rfl
 |cons d ds ih=>
  intro _ e;obtain⟨i,e1,e⟩:=oB e;obtain⟨is,e2,e⟩:=oB e;cases e;rw[ih e2];cases d <;> cases e1
  rfl
theorem bF.wU{K:AT}{H:Hp}{Z:Zs}:∀{ns:List Bool}{xs:List V},bF K H Z xs (ns.map .bool)->xs=FW ns:=by
 intro ns
 induction ns with
 |nil=>intro xs h; cases h; rfl
 |cons n ns ih=>
  intro xs h;cases h with | cons q r=>
  cases q;rw[ih r]; rfl
noncomputable def allM(any:Bool):List M->Option M
 |[m]=>(lP m).bind λds=>(tO ds).bind λbs=>some (.v (.bool (if any then bs.any id else bs.all id)))
 |_=>none
theorem Ef(hc:X.calm=true):bL X (.builtin "all") (uU X.K (allM false)):=by
 intro pins s σ H xs us Q I rs h;obtain⟨Z,ms,m,za,hr,e,q⟩:=h;unfold allM at e
 split at e
 ·obtain⟨ds,e1,e⟩:=oB e
  obtain⟨bs,e2,e⟩:=oB e;cases e;obtain⟨x,rfl,h1⟩:=gO hr;obtain⟨a,ys,rfl,hx,fx⟩:=h1.lP e1;rw[yZ e2] at fx;rw[fx.wU] at hx;exact lF hc pins s σ H _ us Q I rs ⟨a,bs,rfl,hx,cG q za (.bl _)⟩
 ·cases e
theorem ve_cb{id:String}{x:Str}{p:Pos}{e:Expr}{es:List Expr}{g:List M->Option M}{fa:FA}(hc:bL X (.builtin id) (uU X.K g))(hg:Gl X x)(hm:X.mg x=none)(hv:Jv x=some (.builtin id))(ha:VA X (e::es) fa)(hn:x ≠ "__name__" := by decide)(hdb:(x == ("__debug__" : Str))=false:=by decide)
  (he:Fa (e::es) X.env=(false,eval e X.env)::Fa es X.env:=by rfl) (hpl:(L8 pos (Fa es X.env)).any (·.1)=false:=by rfl):VE X (.Call (.Name x p) (e::es) [] pos) (cF g fa):=aY (qE hc hg hm hv ha hn hdb he hpl) λ_ _ _=>many CL
theorem ve_ct{T:String}{x:Str}{p:Pos}{e:Expr}{es:List Expr}{g:List M->Option M}{fa:FA}(hc:bL X (.type T) (uU X.K g))(hg:Gl X x)(hm:X.mg x=none)(hv:Jv x=some (.type T))(ha:VA X (e::es) fa)(hn:x ≠ "__name__" := by decide)(hdb:(x == ("__debug__" : Str))=false:=by decide)
  (he:Fa (e::es) X.env=(false,eval e X.env)::Fa es X.env:=by rfl) (hpl:(L8 pos (Fa es X.env)).any (·.1)=false:=by rfl):VE X (.Call (.Name x p) (e::es) [] pos) (cF g fa):=aY (wm hc hg hm hv ha hn hdb he hpl) λ_ _ _=>many CL
noncomputable def clsD:B2->String
 |.none=> "NoneType"
 |.bool _=> "bool"
 |.int _=> "int"
 |.str _=> "str"
 |.tuple _=> "tuple"
 |.list _=> "list"
 |.dict _=> "dict"
noncomputable def lV:M->String
 |.v d=>clsD d
 |.lst _=> "list"
 |.aA _=> "dict"
 |.bW _=> "dict"
 |.dtp _=> "dict"
theorem Ro.cls{K:AT}{H:Hp}{Z:Zs}{x:V}{m:M}(h:Ro K H Z x m):fW K H x (lV m):=by
 obtain⟨G,h⟩:=h;cases h with
 |v f=>
  cases f with
  |non=>exact .non
  |bl b=>exact .bl b
  |int i=>exact .int i
  |str x=>exact .str x
  |tup q _=>exact .tup q
  |lst q _ _=>exact .lst (.inl q)
  |lsK q _=>exact .lst (.inr q)
  |aA q _ _=>exact .dK q
  |dtp q _ _ _=>exact .dT q
 |lst e _=>exact .lst (fB.of e)
 |aA e _=>exact .dK e
 |bW e _=>exact .dK e
 |dtp e _ _=>exact .dT e
noncomputable def nE(c:String)(m:M):Option M:=some (.v (.bool (subB (lV m) c)))
theorem Eg{p p2:Pos}{e:Expr}{c:String}{y:Str}{fa:FE}(hc:c∈dg)(hn:c ≠ "NoneType")(hg:Gl X "isinstance")(hm:X.mg "isinstance" = none)(hv:Jv "isinstance" = some (.builtin "isinstance"))(ha:VE X e fa)(hy:PE X (.Name y p2) (tC (.ty c)))
  (he:Fa [e,.Name y p2] X.env=[(false,eval e X.env),(false,eval (.Name y p2) X.env)]:=by rfl) (he2:Fa [.Name y p2] X.env=[(false,eval (.Name y p2) X.env)]:=by rfl) (hpl:(L8 pos (Fa [.Name y p2] X.env)).any (·.1)=false:=by rfl):VE X (.Call (.Name "isinstance" p) [e,.Name y p2] [] pos) (vU (nE c) fa) :=
 aY (qE qR hg hm hv (iu ha (iu hy kU he2) he) (by decide) (by decide) he hpl) λσ H Q hq=>one (r:=λx H1 Q=>∃x' t c',[x,V.ty c]=[x',.ty c']/\fW X.K H1 x' t/\c'∈dg/\c' ≠ "NoneType"/\Q (.bl (subB t c')) H1) (λH Z x m1 m Q za h1 e q=>by
  cases e;exact⟨x,lV m1,c,rfl,h1.cls,hc,hn,cG q za (.bl _)⟩) hq
end
inductive tP(K:AT)(H:Hp)(Z:Zs):List V->List M->List Addr->Prop
 |nil:tP K H Z [] [] []
 |cons {x:V} {m:M} {G:List Addr} {xs:List V} {ms:List M} {G':List Addr}:Ow K H Z x m G->tP K H Z xs ms G'->tP K H Z (x::xs) (m::ms) (G++G')
noncomputable def cD:List cR->Ev->Option (List M×Ev)
 |[],ρ=>some ([],ρ)
 |.t m::os,ρ=>(cD os ρ).bind λq=>some (m::q.1,q.2)
 |.p i::os,ρ=>(cS ρ i).bind λm=>(cD os (ρ.set i none)).bind λq=>some (m::q.1,q.2)
 |.q _ _::_,_=>none
noncomputable def fP:List cR->List M->Ev->Ev
 |.p i::os,m::ms,ρ=>fP os ms (ρ.set i (some m))
 |_::os,_::ms,ρ=>fP os ms ρ
 |_,_,ρ=>ρ
def xH(ρ:Ev):List cR->Prop
 |[]=>True
 |.p i::os=>ρ[i]? = some none/\.p i∉os/\xH ρ os
 |_::os=>xH ρ os
section
variable{K:AT}{H H':Hp}{Z Z':Zs}{σ:L2.St}
theorem tP.length:∀{xs:List V}{ms:List M}{G:List Addr},tP K H Z xs ms G->xs.length=ms.length:=by
 intro xs ms G h
 induction h with
 |nil=>rfl
 |cons _ r ih=>rw[Bz,Bz,ih]
theorem uY{ρ:Ev}{i j:Nat}{m:M}(h:cS (ρ.set j none) i=some m):i≠j/\cS ρ i=some m:=by
 have h:=aF.mp h;rw[L7] at h
 split at h
 ·next e=>split at h <;> cases h
 ·next e=>exact⟨λz=>e z.symm,aF.mpr h⟩
theorem y9:∀{os:List cR}{ρ:Ev}{r:List M×Ev}{i:Nat},cD os ρ=some r->.p i∈os->∃m,cS ρ i=some m:=by
 intro os
 induction os with
 |nil=>intro ρ r i e h; simp at h
 |cons o os ih=>
  intro ρ r i e h;cases o with
  |t m=>
   obtain⟨q,e1,_⟩:=oB e;exact ih e1 (by simpa using h)
  |p j=>
   obtain⟨m,e1,e⟩:=oB e;obtain⟨q,e2,_⟩:=oB e;rcases lK h with h | h
   ·cases h; exact⟨m,e1⟩
   ·obtain⟨m',h'⟩:=ih e2 h
    exact⟨m',(uY h').2⟩
  |q _ _=>cases e
theorem tQ:∀{os:List cR}{ρ:Ev}{ms:List M}{ρ':Ev}{i:Nat},cD os ρ=some (ms,ρ')->ρ[i]? = some none->ρ'[i]? = some none:=by
 intro os
 induction os with
 |nil=>intro ρ ms ρ' i e h; cases e; exact h
 |cons o os ih=>
  intro ρ ms ρ' i e h;cases o with
  |t m=>
   obtain⟨⟨ms,ρ1⟩,e1,e⟩:=oB e;cases e;exact ih e1 h
  |p j=>
   obtain⟨m,e1,e⟩:=oB e;obtain⟨⟨ms,ρ1⟩,e2,e⟩:=oB e;cases e;refine ih e2 ?_;rw[L7]
   split
   ·next z=>subst z; rw[if_pos (DD.mp h).1]
   ·exact h
  |q _ _=>cases e
theorem ou:∀{os:List cR}{ρ:Ev}{ms:List M}{ρ':Ev},cD os ρ=some (ms,ρ')->xH ρ' os:=by
 intro os
 induction os with
 |nil=>exact λ_=>JX
 |cons o os ih=>
  intro ρ ms ρ' e;cases o with
  |t m=>
   obtain⟨⟨ms,ρ1⟩,e1,e⟩:=oB e;cases e;exact show xH ρ1 os from ih e1
  |p j=>
   obtain⟨m,e1,e⟩:=oB e;obtain⟨⟨ms,ρ1⟩,e2,e⟩:=oB e;cases e;have hl:=(DD.mp (aF.mp e1)).1;refine⟨tQ e2 (by rw[JH hl]),λh=>?_,ih e2⟩
   obtain⟨m',h'⟩:=y9 e2 h;exact(uY h').1 rfl
  |q _ _=>cases e
theorem bA{A B:List Addr}(h:(A++B).Nodup):A.Nodup/\B.Nodup/\∀a∈A,a∉B:=by
 have h':=FM.mp h;exact⟨h'.1,h'.2.1,λa x y=>h'.2.2 a x a y rfl⟩
theorem rz:∀{os:List cR}{xs:List V}{ρ:Ev}{F G:List Addr}{ms:List M}{ρ':Ev},aR K H Z σ ρ F->jz K H Z σ xs os G->(F++G).Nodup->cD os ρ=some (ms,ρ') ->
  ∃A F',tP K H Z xs ms A/\aR K H Z σ ρ' F'/\(F'++A).Nodup/\∀a∈F'++A,a∈F++G:=by
 intro os
 induction os with
 |nil=>
  intro xs ρ F G ms ρ' S r nd e;cases r;cases e;exact⟨[],F,.nil,S,nd,λ_ h=>h⟩
 |cons o os ih=>
  intro xs ρ F G ms ρ' S r nd e;cases r with | @cons _ _ G1 _ _ G2 q r=>
  cases q with
  |q _ _ _=>cases e
  |t q=>
   obtain⟨⟨ms,ρ1⟩,e1,e⟩:=oB e;cases e;obtain⟨n1,n2,n3⟩:=bA nd;obtain⟨n4,n5,n6⟩:=bA n2;obtain⟨A,F',h1,h2,h3,h4⟩:=ih S r (aP n1 n5 λa h z=>n3 a h (lR _ z)) e1
   obtain⟨k1,k2,k3⟩:=bA h3;have far:∀a∈G1,a∉F++G2:=λa h z=>by
    rcases lM z with z | z
    ·exact n3 a z (lL _ h)
    ·exact n6 a h z
   refine⟨G1++A,F',.cons q h1,h2,aP k1 (aP n4 k2 λa h z=>far a h (h4 a (lR _ z))) λa h z=>?_,λa h=>?_⟩
   ·rcases lM z with z | z
    ·exact far a z (h4 a (lL _ h))
    ·exact k3 a h z
   ·rcases lM h with h | h
    ·rcases lM (h4 a (lL _ h)) with z | z
     ·exact lL _ z
     ·exact lR _ (lR _ z)
    rcases lM h with h | h
    ·exact lR _ (lL _ h)
    ·rcases lM (h4 a (lR _ h)) with z | z
     ·exact lL _ z
     ·exact lR _ (lR _ z)
  |p q=>
   obtain⟨m,e1,e⟩:=oB e;obtain⟨⟨ms,ρ1⟩,e2,e⟩:=oB e;cases e;rw[Im] at nd ⊢;obtain⟨n1,n2,n3⟩:=bA nd;obtain⟨x',G',F1,t1,t2,t3,t4,t5⟩:=S.take n1 (aF.mp e1);rw[q] at t1; cases t1;obtain⟨u1,u2,u3⟩:=bA t4;obtain⟨A,F',h1,h2,h3,h4⟩:=ih t3 r (aP u1 n2 λa h z=>n3 a (t5 a (lL _ h)) z) e2
   obtain⟨k1,k2,k3⟩:=bA h3;have far:∀a∈G',a∉F1++G2:=λa h z=>by
    rcases lM z with z | z
    ·exact u3 a z h
    ·exact n3 a (t5 a (lR _ h)) z
   have HB:∀a∈F1++G2,a∈F++G2:=λa z=>by
    rcases lM z with z | z
    ·exact lL _ (t5 a (lL _ z))
    ·exact lR _ z
   refine⟨G'++A,F',.cons t2 h1,h2,aP k1 (aP u2 k2 λa h z=>far a h (h4 a (lR _ z))) λa h z=>?_,λa h=>?_⟩
   ·rcases lM z with z | z
    ·exact far a z (h4 a (lL _ h))
    ·exact k3 a h z
   ·rcases lM h with h | h
    ·exact HB a (h4 a (lL _ h))
    rcases lM h with h | h
    ·exact lL _ (t5 a (lR _ h))
    ·exact HB a (h4 a (lR _ h))
theorem xH.set{ρ:Ev}{i:Nat}{m:M}:∀{os:List cR},xH ρ os->.p i∉os->xH (ρ.set i (some m)) os
 |[],_,_=>JX
 |.t _::os,h,n=>xH.set (os:=os) h λz=>n (lO _ z)
 |.q _ _::os,h,n=>xH.set (os:=os) h λz=>n (lO _ z)
 |.p j::os,h,n=>by
  obtain⟨h1,h2,h3⟩:=h;refine⟨?_,h2,xH.set h3 λz=>n (lO _ z)⟩
  rw[L7,if_neg λz=>n (by rw[z]; exact lS)]
  exact h1
theorem uZ{H0:Hp}{Z0:Zs}:∀{os:List cR}{xs:List V}{ρ:Ev}{F G0 A:List Addr}{ms:List M},aR K H Z σ ρ F->jz K H0 Z0 σ xs os G0->tP K H Z xs ms A->(F++A).Nodup->xH ρ os ->
  ∃F',aR K H Z σ (fP os ms ρ) F'/\F'.Nodup/\∀a∈F',a∈F++A:=by
 intro os
 induction os with
 |nil=>
  intro xs ρ F G0 A ms S r hs nd _;cases r;cases hs;exact⟨F,S,(bA nd).1,λa h=>lL _ h⟩
 |cons o os ih=>
  intro xs ρ F G0 A ms S r hs nd hol;cases r with | cons q r=>
  cases hs with | @cons _ m' G _ ms G' h hs=>
  obtain⟨n1,n2,n3⟩:=bA nd;obtain⟨n4,n5,n6⟩:=bA n2;have fin:xH ρ os->∃F',aR K H Z σ (fP os ms ρ) F'/\F'.Nodup/\∀a∈F',a∈F++(G++G'):=λhol=>by
   obtain⟨F',h1,h2,h3⟩:=ih S r hs (aP n1 n5 λa h z=>n3 a h (lR _ z)) hol
   refine⟨F',h1,h2,λa h=>?_⟩
   rcases lM (h3 a h) with z | z
   ·exact lL _ z
   ·exact lR _ (lR _ z)
  cases q with
  |t _=>exact fin hol
  |q _ _ _=>exact fin hol
  |p q=>
   obtain⟨l1,l2,l3⟩:=hol;obtain⟨F1,p1,p2,p3⟩:=S.put h (aP n1 n4 λa h z=>n3 a h (lL _ z)) l1
   rw[iz q] at p1;obtain⟨F',h1,h2,h3⟩:=ih p1 r hs (aP p2 n5 λa h z=>by
    rcases lM (p3 a h) with y | y
    ·exact n3 a y (lR _ z)
    ·exact n6 a y z) (l3.set l2)
   refine⟨F',h1,h2,λa h=>?_⟩
   rcases lM (h3 a h) with z | z
   ·rcases lM (p3 a z) with z | z
    ·exact lL _ z
    ·exact lR _ (lL _ z)
   ·exact lR _ (lR _ z)
end
abbrev FF:=List M->Option (M×List M)
inductive d8(K:AT)(g:FF)(vs:List V)(H:Hp)(Q:VK)(_u:XK):Prop
 |mk (Z:Zs) (ms:List M) (A:List Addr) (m:M) (ms':List M):tP K H Z vs ms A->Wf H Z A->g ms=some (m,ms')->(∀x H' Z' A' G,tP K H' Z' vs ms' A'->Ow K H' Z' x m G->aH H Z A H' Z' (A'++G)->Q x H')->d8 K g vs H Q _u
noncomputable def dQ(g:FF)(fa:FA):FE:=λρ=>(fa ρ).bind λp=>(cD p.1 p.2).bind λq=>(g q.1).bind λr=>some (.t r.1,fP p.1 r.2 q.2)
section
variable{X:Cx}{pos:Pos}
theorem called{g:FF}{fa:FA}{σ:L2.St}{H:Hp}{Q:VK}{E:XK}(hq:vE X.K (dQ g fa) σ H Q):ya (d8 X.K g) [] E (vA X.K fa) σ H Q:=by
 obtain⟨Z,ρ,F,o,ρ',S,w,e,q⟩:=hq;obtain⟨⟨os,ρ1⟩,e1,e⟩:=oB e;obtain⟨⟨ms,ρ2⟩,e2,e⟩:=oB e;obtain⟨⟨m,ms'⟩,e3,e⟩:=oB e;cases e;refine⟨Z,ρ,F,os,ρ1,S,w,e1,λxs H1 Z1 F1 G1 S1 O1 f1=>?_⟩
 show d8 X.K g (xs++[]) H1 Q E;rw[EQ];obtain⟨A,Fh,h1,h2,h3,h4⟩:=rz S1 O1 f1.nd e2;obtain⟨n1,n2,n3⟩:=bA h3;refine⟨Z1,ms,A,m,ms',h1,⟨n2,λa h=>f1.dz a (h4 a (lR _ h)),f1.za⟩,e3,λx H2 Z2 A' G k1 k2 f2=>?_⟩
 have wA:Wf H1 Z1 A:=⟨n2,λa h=>f1.dz a (h4 a (lR _ h)),f1.za⟩
 have n3':∀a∈A,a∉Fh:=λa h z=>n3 a z h
 have S2:aR X.K H2 Z2 σ ρ2 Fh:=h2.mono (f2.grow wA) λa h o e=>f2.keep a o (n3 a h) e
 have f3:=f2.frame (G:=Fh) ⟨aP n2 n1 n3',λa h=>by
  rcases lM h with h | h
  ·exact f1.dz a (h4 a (lR _ h))
  ·exact f1.dz a (h4 a (lL _ h)),f1.za⟩ h2.al
 obtain⟨m1,m2,m3,m4,m5,m6⟩:=Gf f3.nd;obtain⟨F',p1,p2,p3⟩:=uZ S2 O1 k1 (aP m3 m1 λa h z=>m5 a z h) (ou e2)
 have f4:aH H Z F H1 Z1 (A++Fh):=f1.sub (aP n2 n1 n3') λa h=>h4 a (by
  rcases lM h with h | h
  ·exact lR _ h
  ·exact lL _ h)
 refine q x H2 Z2 F' G p1 (.t k2) ((f4.trans f3).sub (aP p2 m2 λa h z=>?_) λa h=>?_)
 ·rcases lM (p3 a h) with y | y
  ·exact m6 a z y
  ·exact m4 a y z
 ·rcases lM h with h | h
  ·rcases lM (p3 a h) with y | y
   ·exact lR _ y
   ·exact lL _ (lL _ y)
  ·exact lL _ (lR _ h)
theorem ve_fn{x:Str}{ps:List Str}{k k':Nat}{g:FF}{e:Expr}{es:List Expr}{fa:FA}{p:Pos}(C:bz X.prog X.w X.K X.mg X.base x ps k (d8 X.K g))(hr:fq k' X.A)(hg:Gl X x)(ha:VA X (e::es) fa)(hk:k<=k':=by first | decide | exact D2 _ | lia)(hdb:(x == ("__debug__" : Str))=false:=by decide)
  (he:Fa (e::es) X.env=(false,eval e X.env)::Fa es X.env:=by rfl) (hpl:(L8 pos (Fa es X.env)).any (·.1)=false:=by rfl):VE X (.Call (.Name x p) (e::es) [] pos) (dQ g fa):=aY (pe_fn C hr hg ha hk hdb he hpl) λ_ _ _ hq=>called hq
end
inductive Out where
 |nx (ρ:Ev)
 |bk (ρ:Ev)
 |ct (ρ:Ev)
 |rt (m:M) (ρ:Ev)
abbrev FS:=Ev->Option Out
abbrev Pv:=Nat->Option V
def Pin(pv:Pv)(σ:L2.St):Prop:=∀i x,pv i=some x->σ[i]? = some (some x)
def nF(K:AT)(pv:Pv)(D:Ends)(H:Hp)(Z:Zs)(F:List Addr):Out->Prop
 |.nx ρ'=>∀σ' H' Z' F',aR K H' Z' σ' ρ' F'->aH H Z F H' Z' F'->Pin pv σ'->D.nx σ' H'
 |.bk ρ'=>∀σ' H' Z' F',aR K H' Z' σ' ρ' F'->aH H Z F H' Z' F'->Pin pv σ'->D.bk σ' H'
 |.ct ρ'=>∀σ' H' Z' F',aR K H' Z' σ' ρ' F'->aH H Z F H' Z' F'->Pin pv σ'->D.ct σ' H'
 |.rt m ρ'=>∀x σ' H' Z' F' G,aR K H' Z' σ' ρ' F'->Ow K H' Z' x m G->aH H Z F H' Z' (F'++G)->Pin pv σ'->D.rt x H'
inductive vS(K:AT)(pv:Pv)(f:FS)(D:Ends)(σ:L2.St)(H:Hp):Prop
 |mk (Z:Zs) (ρ:Ev) (F:List Addr) (out:Out):aR K H Z σ ρ F->Wf H Z F->Pin pv σ->f ρ=some out->nF K pv D H Z F out->vS K pv f D σ H
theorem nF.trans{K:AT}{pv:Pv}{D:Ends}{H H':Hp}{Z Z':Zs}{F F':List Addr}{o:Out}(h:nF K pv D H Z F o)(f:aH H Z F H' Z' F'):nF K pv D H' Z' F' o:=by
 cases o with
 |nx ρ=>exact λσ1 H1 Z1 F1 s1 f1 p1=>h σ1 H1 Z1 F1 s1 (f.trans f1) p1
 |bk ρ=>exact λσ1 H1 Z1 F1 s1 f1 p1=>h σ1 H1 Z1 F1 s1 (f.trans f1) p1
 |ct ρ=>exact λσ1 H1 Z1 F1 s1 f1 p1=>h σ1 H1 Z1 F1 s1 (f.trans f1) p1
 |rt m ρ=>exact λx σ1 H1 Z1 F1 G s1 o1 f1 p1=>h x σ1 H1 Z1 F1 G s1 o1 (f.trans f1) p1
abbrev CO(pv:Pv)(pin:List Nat):Prop:=∀j x,pv j=some x->j∈pin
def VS(X:Cx)(pin:List Nat)(st:Stmt)(f:FS):Prop:=∀pv,CO pv pin->PS X st (vS X.K pv f)
def AF(X:Cx)(pin:List Nat)(st:List Stmt)(f:FS):Prop:=∀pv,CO pv pin->sE X st (vS X.K pv f)
section
variable{X:Cx}{pos:Pos}{pin:List Nat}
theorem eV{st:Stmt}{t t':TS}(h:PS X st t)(i:∀D σ H,t' D σ H->t D σ H):PS X st t':=λpins s σ H D I q=>h pins s σ H D I (i D σ H q)
theorem u7{st:List Stmt}{t t':TS}(h:sE X st t)(i:∀D σ H,t' D σ H->t D σ H):sE X st t':=λpins s σ H D I q=>h pins s σ H D I (i D σ H q)
noncomputable def bg:FS:=λρ=>some (.nx ρ)
noncomputable def aJ(f g:FS):FS:=λρ=>(f ρ).bind λo=>match o with
 |.nx ρ1=>g ρ1
 |o=>some o
theorem zb{pv:Pv}{D:Ends}{σ:L2.St}{H:Hp}(hq:vS X.K pv bg D σ H):CC D σ H:=by
 obtain⟨Z,ρ,F,o,S,w,P,e,q⟩:=hq;cases e;exact q σ H Z F S (aH.refl w) P
theorem BA:AF X pin [] bg:=λpv hp=>u7 AK λ_ _ _ hq=>zb (X:=X) hq
theorem BB{pv:Pv}{f g:FS}{D:Ends}{σ:L2.St}{H:Hp}(hq:vS X.K pv (aJ f g) D σ H):tSeq (vS X.K pv f) (vS X.K pv g) D σ H:=by
 obtain⟨Z,ρ,F,o,S,w,P,e,q⟩:=hq;obtain⟨o1,e1,e⟩:=oB e;refine⟨Z,ρ,F,o1,S,w,P,e1,?_⟩;cases o1 with
 |nx ρ1=>exact λσ1 H1 Z1 F1 S1 f1 P1=>⟨Z1,ρ1,F1,o,S1,f1.wf,P1,e,q.trans f1⟩
 |bk ρ1=>cases e; exact q
 |ct ρ1=>cases e; exact q
 |rt m ρ1=>cases e; exact q
theorem zc{st:Stmt}{rest:List Stmt}{f g:FS}(h1:VS X pin st f)(h2:AF X pin rest g):AF X pin (st::rest) (aJ f g):=λpv hp=>u7 (xP (h1 pv hp) (h2 pv hp)) λ_ _ _ hq=>BB hq
theorem BC{st:Stmt}{f:FS}(h1:VS X pin st f):AF X pin [st] f:=λpv hp=>AL (h1 pv hp)
noncomputable def cP(c:FT)(f g:FS):FS:=λρ=>(c ρ).bind λp=>if p.1=true then f p.2 else g p.2
theorem vs_if{c:Expr}{a b:List Stmt}{fc:FT}{f g:FS}(hc:VT X c fc)(ha:AF X pin a f)(hb:AF X pin b g):VS X pin (.If c a b pos) (cP fc f g):=λpv hp=>eV (ps_if hc (ha pv hp) (hb pv hp)) λD σ H hq=>by
 obtain⟨Z,ρ,F,o,S,w,P,e,q⟩:=hq;obtain⟨⟨b1,ρ1⟩,e1,e⟩:=oB e;refine⟨Z,ρ,F,b1,ρ1,S,w,e1,λH1 Z1 F1 S1 f1=>?_⟩
 cases b1 with
 |true=>exact iteT ⟨Z1,ρ1,F1,o,S1,f1.wf,P,e,q.trans f1⟩
 |false=>exact iteF ⟨Z1,ρ1,F1,o,S1,f1.wf,P,e,q.trans f1⟩
noncomputable def eW(f:FE):FS:=λρ=>(f ρ).bind λp=>some (.nx p.2)
theorem BD{e:Expr}{f:FE}(h:VE X e f)(hs:K6 e none pos.line X.env=pure false:=by rfl):VS X pin (.Expr e pos) (eW f):=λpv hp=>eV (AM h hs) λD σ H hq=>by
 obtain⟨Z,ρ,F,o,S,w,P,e,q⟩:=hq;obtain⟨⟨o1,ρ1⟩,e1,e⟩:=oB e;cases e;exact⟨Z,ρ,F,o1,ρ1,S,w,e1,λx H1 Z1 F1 G1 S1 O1 f1=>q σ H1 Z1 F1 S1 f1.left P⟩
noncomputable def qe:cR->Ev->Option (M×Ev)
 |.t m,ρ=>some (m,ρ)
 |.p i,ρ=>(cS ρ i).bind λm=>some (m,ρ.set i none)
 |.q i k,ρ=>(cU (.q i k) ρ).bind λp=>some (.v p.1,p.2)
theorem moved{K:AT}{H H0:Hp}{Z Z0:Zs}{F F0 G:List Addr}{σ:L2.St}{ρ ρ':Ev}{x:V}{o:cR}{m:M}(S:aR K H Z σ ρ F)(h:mY K H Z σ x o G)(f:aH H0 Z0 F0 H Z (F++G))(e:qe o ρ=some (m,ρ')) :
  ∃Z' F' G',aR K H Z' σ ρ' F'/\Ow K H Z' x m G'/\aH H0 Z0 F0 H Z' (F'++G'):=by
 cases o with
 |t m1=>
  cases e;cases h with
  |t q=>exact⟨Z,F,G,S,q,f⟩
 |p i=>
  obtain⟨m1,e1,e⟩:=oB e;cases e;cases h with
  |p q=>
   rw[EQ] at f;obtain⟨x',G',F1,t1,t2,t3,t4,t5⟩:=S.take f.nd (aF.mp e1);rw[q] at t1; cases t1;exact⟨Z,F1,G',t3,t2,f.sub t4 t5⟩
 |q i k=>
  obtain⟨⟨d,ρ1⟩,e1,e⟩:=oB e;cases e;obtain⟨Z',F',h1,h2,h3,_⟩:=iA S h f e1;exact⟨Z',F',[],h1,.v h2,h3.nil⟩
noncomputable def cZ(f:FE):FS:=λρ=>(f ρ).bind λp=>(qe p.1 p.2).bind λq=>some (.rt q.1 q.2)
theorem Eh{e:Expr}{f:FE}(h:VE X e f):VS X pin (.Return (some e) pos) (cZ f):=λpv hp=>eV (Dd h) λD σ H hq=>by
 obtain⟨Z,ρ,F,o,S,w,P,e,q⟩:=hq;obtain⟨⟨o1,ρ1⟩,e1,e⟩:=oB e;obtain⟨⟨m,ρ2⟩,e2,e⟩:=oB e;cases e;refine⟨Z,ρ,F,o1,ρ1,S,w,e1,λx H1 Z1 F1 G1 S1 O1 f1=>?_⟩
 obtain⟨Z2,F2,G2,h1,h2,h3⟩:=moved S1 O1 f1 e2;exact q x σ H1 Z2 F2 G2 h1 h2 h3 P
noncomputable def gc(i:Nat)(m:M)(ρ:Ev):Option Ev:=if i<ρ.length then some (ρ.set i (some m)) else none
theorem Pin.set{pv:Pv}{σ:L2.St}{i:Nat}{x:Option V}(P:Pin pv σ)(hp:CO pv pin)(hi:i∉pin):Pin pv (σ.set i x):=λj y e=>by
 rw[L7,if_neg λz=>hi (by subst z; exact hp _ _ e)]
 exact P j y e
theorem aR.gc{K:AT}{H:Hp}{Z:Zs}{F G:List Addr}{σ:L2.St}{ρ ρ':Ev}{x:V}{m:M}{i:Nat}(S:aR K H Z σ ρ F)(h:Ow K H Z x m G)(nd:(F++G).Nodup)(e:VL.gc i m ρ=some ρ'):∃F',aR K H Z (σ.set i (some x)) ρ' F'/\F'.Nodup/\∀a∈F',a∈F++G:=by
 unfold VL.gc at e
 split at e
 ·next hl=>
  cases e;obtain⟨n1,n2,n3⟩:=bA nd;obtain⟨F1,h1,h2,h3⟩:=S.drop i n1;obtain⟨F2,p1,p2,p3⟩:=h1.put h (aP h2 n2 λa z=>n3 a (h3 a z)) (by rw[JH hl])
  rw[NB] at p1;refine⟨F2,p1,p2,λa z=>?_⟩
  rcases lM (p3 a z) with z | z
  ·exact lL _ (h3 a z)
  ·exact lR _ z
 ·cases e
noncomputable def bM(i:Nat)(f:FE):FS:=λρ=>(f ρ).bind λp=>(qe p.1 p.2).bind λq=>(gc i q.1 q.2).bind λρ'=>some (.nx ρ')
theorem Ei{i:Nat}{x:Str}{e:Expr}{f:FE}{pos':Pos}(hp0:i∉pin)(hN:X.N.Nodup)(hi:X.N[i]? = some x)(hx:Loc X.env.scope x)(he:VE X e f)(hs:K6 e (some (.Name x pos')) pos.line X.env=pure false:=by rfl)(hf:X.fn x=true\/X.env.scope.names.lookup x=some .local:=by first | exact .inl rfl | exact .inr rfl | assumption) :
  VS X pin (.Assign [.Name x pos'] e pos) (bM i f):=λpv hp=>eV (Df hN hi hx he hs hf) λD σ H hq=>by
 obtain⟨Z,ρ,F,o,S,w,P,e,q⟩:=hq;obtain⟨⟨o1,ρ1⟩,e1,e⟩:=oB e;obtain⟨⟨m,ρ2⟩,e2,e⟩:=oB e;obtain⟨ρ3,e3,e⟩:=oB e;cases e;refine⟨Z,ρ,F,o1,ρ1,S,w,e1,λy H1 Z1 F1 G1 S1 O1 f1=>?_⟩
 obtain⟨Z2,F2,G2,h1,h2,h3⟩:=moved S1 O1 f1 e2;obtain⟨F3,k1,k2,k3⟩:=h1.gc h2 h3.nd e3;exact q _ H1 Z2 F3 k1 (h3.sub k2 k3) (P.set hp hp0)
noncomputable def zd(i:Nat)(g:M->M->Option M)(f:FE):FS:=λρ=>(cS ρ i).bind λm1=>(f ρ).bind λp=>(peek p.2 p.1).bind λm2=>match m1 with
 |.v _=>(g m1 m2).bind λm=>(gc i m p.2).bind λρ'=>some (.nx ρ')
 |_=>none
theorem Ej{i:Nat}{x:Str}{e:Expr}{f:FE}{op:N2}{ti:E8}{pos':Pos}{g:M->M->Option M}(hg:CK X.K ti g)(hp0:i∉pin)(hN:X.N.Nodup)(hi:X.N[i]? = some x)(hx:Loc X.env.scope x)(he:VE X e f)(ho:Gn X op ti)(hf:X.fn x=true\/X.env.scope.names.lookup x=some .local:=by first | exact .inl rfl | exact .inr rfl | assumption) :
  VS X pin (.AugAssign (.Name x pos') op e pos) (zd i g f):=λpv hp=>eV (Dh hN hi hx he ho hf) λD σ H hq=>by
 obtain⟨Z,ρ,F,o,S,w,P,e,q⟩:=hq;obtain⟨m1,e0,e⟩:=oB e;obtain⟨⟨o1,ρ1⟩,e1,e⟩:=oB e;obtain⟨m2,e2,e⟩:=oB e;cases m1 with
 |v d=>
  obtain⟨m,e3,e⟩:=oB e;obtain⟨ρ2,e4,e⟩:=oB e;cases e;obtain⟨y,G,h1,h2,h3⟩:=S.get (aF.mp e0);cases h2 with
  |v fz=>
   refine⟨y,h1,Z,ρ,F,o1,ρ1,S,w,e1,λz H1 Z1 F1 G1 S1 O1 f1=>?_⟩
   refine hg H1 Z1 y z _ _ m _ f1.za ⟨[],.v (fz.mono (f1.grow w))⟩ (O1.peek S1 e2) e3 λz' H2 Z2 G2 h n=>?_
   have f2:=f1.left.trans (n.news f1.left.wf S1.al);obtain⟨F3,k1,k2,k3⟩:=(S1.news n).gc h f2.nd e4;exact q _ H2 Z2 F3 k1 (f2.sub k2 k3) (P.set hp hp0)
 |lst _=>cases e
 |aA _=>cases e
 |bW _=>cases e
 |dtp _=>cases e
theorem BE:CK X.K (G6 λi j=>i+j) (i6 (λ_ _=>true) λi j=>.int (i+j)):=λH Z x y m1 m2 m Q za h1 h2 e q=>by
 unfold i6 at e
 split at e
 ·split at e
  ·cases e
   obtain rfl:=h1.int; obtain rfl:=h2.int;exact⟨_,_,rfl,rfl,cG q za (.int _)⟩
  ·cases e
 ·cases e
abbrev FG:=B2->Ev->Option Ev
abbrev wV:=List B2->Ev->Option Ev
inductive vG(K:AT)(pv:Pv)(f:FG)(x:V)(σ:L2.St)(H:Hp)(Q:L2.St->Hp->Prop):Prop
 |mk (Z:Zs) (ρ:Ev) (F:List Addr) (d:B2) (ρ':Ev):aR K H Z σ ρ F->F.Nodup->Pin pv σ->Fz K H Z x d->f d ρ=some ρ'->(∀σ' F',aR K H Z σ' ρ' F'->F'.Nodup->(∀a∈F',a∈F)->Pin pv σ'->Q σ' H)->vG K pv f x σ H Q
inductive HC(K:AT)(pv:Pv)(f:wV)(xs:List V)(σ:L2.St)(H:Hp)(Q:L2.St->Hp->Prop):Prop
 |mk (Z:Zs) (ρ:Ev) (F:List Addr) (ds:List B2) (ρ':Ev):aR K H Z σ ρ F->F.Nodup->Pin pv σ->bF K H Z xs ds->f ds ρ=some ρ'->(∀σ' F',aR K H Z σ' ρ' F'->F'.Nodup->(∀a∈F',a∈F)->Pin pv σ'->Q σ' H)->HC K pv f xs σ H Q
def VG(X:Cx)(pin:List Nat)(tg:Expr)(f:FG):Prop:=∀pv,CO pv pin->PG X tg (vG X.K pv f)
def Gg(X:Cx)(pin:List Nat)(tg:List Expr)(f:wV):Prop:=∀pv,CO pv pin->CD X tg (HC X.K pv f)
theorem ze{tg:Expr}{t t':TG}(h:PG X tg t)(i:∀x σ H Q,t' x σ H Q->t x σ H Q):PG X tg t':=λpins s σ H x u Q I r q=>h pins s σ H x u Q I r (i x σ H Q q)
theorem u9{tg:List Expr}{t t':AN}(h:CD X tg t)(i:∀x σ H Q,t' x σ H Q->t x σ H Q):CD X tg t':=λpins s σ H x u Q I r q=>h pins s σ H x u Q I r (i x σ H Q q)
noncomputable def ah(i:Nat):FG:=λd ρ=>gc i (.v d) ρ
theorem BF{i:Nat}{x:Str}(hp0:i∉pin)(hN:X.N.Nodup)(hi:X.N[i]? = some x)(hx:Loc X.env.scope x)(hf:X.fn x=true\/X.env.scope.names.lookup x=some .local:=by first | exact .inl rfl | exact .inr rfl | assumption):VG X pin (.Name x pos) (ah i):=λpv hp=>ze (AO hN hi hx hf) λx σ H Q hq=>by
 obtain⟨Z,ρ,F,d,ρ',S,w,P,fz,e,q⟩:=hq;obtain⟨F3,k1,k2,k3⟩:=S.gc (.v fz) (by rw[EQ]; exact w) e
 rw[EQ] at k3;exact q _ F3 k1 k2 k3 (P.set hp hp0)
noncomputable def eX:wV:=λds ρ=>match ds with
 |[]=>some ρ
 |_=>none
noncomputable def aT(f:FG)(g:wV):wV:=λds ρ=>match ds with
 |d::ds=>(f d ρ).bind λρ1=>g ds ρ1
 |[]=>none
theorem BG:Gg X pin [] eX:=λpv hp=>u9 AQ λxs σ H Q hq=>by
 obtain⟨Z,ρ,F,ds,ρ',S,w,P,fz,e,q⟩:=hq;cases fz with
 |nil=>cases e; exact⟨rfl,q σ F S w (λ_ h=>h) P⟩
 |cons _ _=>cases e
theorem zf{e:Expr}{es:List Expr}{f:FG}{g:wV}(h1:VG X pin e f)(h2:Gg X pin es g)(hs:(KP (e::es) X.env).map (·.2)=LS e X.env::(KP es X.env).map (·.2):=by rfl):Gg X pin (e::es) (aT f g):=λpv hp=>u9 (xQ (h1 pv hp) (h2 pv hp) hs) λxs σ H Q hq=>by
 obtain⟨Z,ρ,F,ds,ρ',S,w,P,fz,e,q⟩:=hq;cases fz with
 |nil=>cases e
 |cons z1 z2=>
  obtain⟨ρ1,e1,e⟩:=oB e;exact⟨_,_,rfl,Z,ρ,F,_,ρ1,S,w,P,z1,e1,λσ1 F1 S1 w1 s1 P1=>⟨Z,ρ1,F1,_,ρ',S1,w1,P1,z2,e,λσ2 F2 S2 w2 s2 P2=>q σ2 F2 S2 w2 (λa h=>s1 a (s2 a h)) P2⟩⟩
noncomputable def d9(n:Nat)(g:wV):FG:=λd ρ=>match d with
 |.tuple ds=>if ds.length=n then g ds ρ else none
 |_=>none
theorem Ek{es:List Expr}{k n:Nat}{g:wV}(hc:X.calm=true)(h:Gg X pin es g)(hpg:∀t:AN,CD X es t->PG X (.Tuple es k pos) (gTup X.K n t)):VG X pin (.Tuple es k pos) (d9 n g):=λpv hp=>ze (hpg _ (h pv hp)) λx σ H Q hq=>by
 obtain⟨Z,ρ,F,d,ρ',S,w,P,fz,e,q⟩:=hq;unfold d9 at e
 split at e
 ·split at e
  ·next hl=>
   obtain⟨a,xs,e1,e2,e3⟩:=fz.gu;exact⟨a,xs,e1,e2,by rw[e3.length]; exact hl,Z,ρ,F,_,ρ',S,w,P,e3,e,q⟩
  ·cases e
 ·cases e
noncomputable def wW(f:FE)(g:FG):FS:=λρ=>(f ρ).bind λp=>(cU p.1 p.2).bind λq=>(g q.1 q.2).bind λρ'=>some (.nx ρ')
theorem El{tg e:Expr}{f:FE}{g:FG}(he:VE X e f)(hg:VG X pin tg g)(hs:NM [tg] e pos.line X.env=pure false:=by rfl)(hw:NN [tg] e X.env=pure none:=by rfl)
  (hps:∀(te:TE)(t:TG),PE X e te->PG X tg t->PS X (.Assign [tg] e pos) (ng te t):=by exact λ_ _ h1 h2=>gS h1 h2):VS X pin (.Assign [tg] e pos) (wW f g):=λpv hp=>eV (hps _ _ he (hg pv hp)) λD σ H hq=>by
 obtain⟨Z,ρ,F,o,S,w,P,e,q⟩:=hq;obtain⟨⟨o1,ρ1⟩,e1,e⟩:=oB e;obtain⟨⟨d,ρ2⟩,e2,e⟩:=oB e;obtain⟨ρ3,e3,e⟩:=oB e;cases e;refine⟨Z,ρ,F,o1,ρ1,S,w,e1,λy H1 Z1 F1 G1 S1 O1 f1=>?_⟩
 obtain⟨Z2,F2,h1,h2,h3,_⟩:=iA S1 O1 f1 e2;exact⟨Z2,ρ2,F2,d,ρ3,h1,h3.nd,P,h2,e3,λσ' F' S' w' s' P'=>q σ' H1 Z2 F' S' (h3.sub w' s') P'⟩
noncomputable def parO(i j:Nat):List cR->Ev->Option Out
 |[o1,.t m2],ρ=>(qe o1 ρ).bind λq1=>(gc i q1.1 q1.2).bind λρ1=>(gc j m2 ρ1).bind λρ2=>some (.nx ρ2)
 |_,_=>none
noncomputable def vPar(i j:Nat)(fa:FA):FS:=λρ=>(fa ρ).bind λp=>parO i j p.1 p.2
theorem Em{i j:Nat}{a b:Expr}{fa:FA}{st:Stmt}(hpi:i∉pin)(hpj:j∉pin)(ha:VA X [a,b] fa)(hps:∀t:TA,PA X [a,b] t->PS X st (tPar i j t)):VS X pin st (vPar i j fa):=λpv hp=>eV (hps _ ha) λD σ H hq=>by
  obtain⟨Z,ρ,F,o,S,w,P,e,q⟩:=hq;obtain⟨⟨os,ρ1⟩,e1,e⟩:=oB e;refine⟨Z,ρ,F,os,ρ1,S,w,e1,λxs H1 Z1 F1 G1 S1 O1 f1=>?_⟩
  have e:parO i j os ρ1=some o:=e
  clear e1
  rcases os with _ | ⟨o1,_ | ⟨o2,_ | ⟨o3,os⟩⟩⟩
  · cases e
  · cases e
  · cases o2 with
   |p _=>cases e
   |q _ _=>cases e
   |t m2=>
    obtain⟨⟨m1,ρ2⟩,e2,e⟩:=oB e;cases O1 with
    |@cons x1 _ Ga _ _ _ p1 r1=>
     cases r1 with
     |@cons x2 _ Gb _ _ _ p2 r2=>
         cases r2;obtain⟨ρ3,e3,e⟩:=oB e;obtain⟨ρ4,e4,e⟩:=oB e;cases e;rw[EQ] at f1;have f1':aH H Z F H1 Z1 (F1++Ga++Gb):=f1.assoc';cases p2 with
         |t w2=>
          have al:=w2.al;have key:∃Z' F' G',aR X.K H1 Z' σ ρ2 F'/\Ow X.K H1 Z' x1 m1 G'/\aH H Z F H1 Z' (F'++G'++Gb)/\aL H1 Z1 H1 Z':=by
            cases o1 with
            |t m=>
             cases e2;cases p1 with
             |t w1=>exact⟨Z1,F1,Ga,S1,w1,f1',aL.refl⟩
            |p k=>
             obtain⟨m,e5,e2⟩:=oB e2;cases e2;cases p1 with
             |p q1=>
              rw[EQ] at f1';obtain⟨n1,n2,n3⟩:=bA f1'.nd;obtain⟨x',G',F1',t1,t2,t3,t4,t5⟩:=S1.take n1 (aF.mp e5);rw[q1] at t1; cases t1;refine⟨Z1,F1',G',t3,t2,f1'.sub (aP t4 n2 λa h z=>n3 a (t5 a h) z) (λa h=>?_),aL.refl⟩
              rcases lM h with h | h
              · exact lL _ (t5 a h)
              · exact lR _ h
            |q k1 k2=>
             obtain⟨⟨d,ρ'⟩,e5,e2⟩:=oB e2;cases e2;obtain⟨Z',F',z1,z2,z3,z4⟩:=freeze S1 p1 f1' e5;exact⟨Z',F',[],z1,.v z2,by rw[EQ]; exact z3,z4⟩
          obtain⟨Z2,F2,G2,h1,h2,h3,h4⟩:=key;obtain⟨n1,n2,n3,n4,n5,n6⟩:=Gf h3.nd;obtain⟨F3,k1,k2,k3⟩:=h1.gc h2 (aP n1 n2 n4) e3;obtain⟨F4,l1,l2,l3⟩:=k1.gc (w2.mono h4 λ_ _ _ e=>e) (aP k2 n3 λa h z=>by
            rcases lM (k3 a h) with y | y
            · exact n5 a y z
            · exact n6 a y z) e4
          refine⟨x1,x2,rfl,q _ H1 Z2 F4 l1 (h3.sub l2 λa h=>?_) ((P.set hp hpi).set hp hpj)⟩
          rcases lM (l3 a h) with y | y
          · exact lL _ (k3 a y)
          · exact lR _ y
  · cases o2 <;> cases e
end
structure qf(K:AT)(J:It)(H:Hp)(Z:Zs)(ds:List B2):Prop where
 go:∀H2 Z2,aL H Z H2 Z2->∀k d,ds[k]? = some d->J.go k H2/\∀x H',J.yld k H2 x H'->bD H2 H'/\Fz K H' Z2 x d
 stop:∀H2 Z2,aL H Z H2 Z2->∀k,ds.length<=k->J.stop k H2
abbrev FI:=Ev->Option (List B2×Ev)
inductive vI(K:AT)(f:FI)(σ:L2.St)(H:Hp)(R:It->Hp->Prop):Prop
 |mk (Z:Zs) (ρ:Ev) (F:List Addr) (ds:List B2) (ρ':Ev):aR K H Z σ ρ F->Wf H Z F->f ρ=some (ds,ρ')->(∀J H' Z' F',aR K H' Z' σ ρ' F'->qf K J H' Z' ds->aH H Z F H' Z' F'->R J H')->vI K f σ H R
abbrev VI(X:Cx)(tg iter:Expr)(f:FI):Prop:=PI X tg iter (vI X.K f)
section
variable{X:Cx}{pos:Pos}{pin:List Nat}{tg:Expr}
theorem tR{it:Expr}{t t':TI}(h:PI X tg it t)(i:∀σ H R,t' σ H R->t σ H R):PI X tg it t':=λpins s σ H R I q=>h pins s σ H R I (i σ H R q)
theorem En{it:Expr}{t u:TI}(h:PI X tg it t)(h':PI X tg it u):PI X tg it (λσ H R=>t σ H R\/u σ H R):=λpins s σ H R I q=>q.elim (h pins s σ H R I) (h' pins s σ H R I)
noncomputable def Gz:B2->Option (List B2)
 |.tuple ds=>some ds
 |.list ds=>some ds
 |_=>none
noncomputable def bR(f:FE):FI:=λρ=>(f ρ).bind λp=>(cU p.1 p.2).bind λq=>(Gz q.1).bind λds=>some (ds,q.2)
theorem BH{K:AT}{H:Hp}{Z:Zs}{a:Addr}{ds:List B2}(h:Fz K H Z (.ref a) (.list ds)):qf K (Gp K a) H Z ds:=by
 refine⟨λH2 Z2 g k d hd=>?_,λH2 Z2 g k hk=>?_⟩
 ·obtain⟨a',xs,e,r,fs⟩:=(h.mono g).lst_inv
  cases e;obtain⟨x,h1,h2⟩:=fs.get' hd;refine⟨⟨xs,x,r,h1⟩,λy H' hy=>?_⟩
  obtain⟨rfl,hy⟩:=hy;have:=hy xs r;rw[h1] at this; cases this;exact⟨bD.refl _,h2⟩
 ·obtain⟨a',xs,e,r,fs⟩:=(h.mono g).lst_inv
  cases e;exact⟨xs,r,by rw[fs.length]; exact hk⟩
theorem qg{K:AT}{H:Hp}{Z:Zs}{a:Addr}{xs:List V}{ds:List B2}{k:Nat}{d:B2}{y:V}(r:dc K H a xs)(fs:bF K H Z xs ds)(hd:ds[k]? = some d)(hy:∀xs,dc K H a xs->xs[k]? = some y):Fz K H Z y d:=by
 obtain⟨x,h1,h2⟩:=fs.get' hd;have:=hy xs r;rw[h1] at this; cases this;exact h2
theorem Eo{K:AT}{H:Hp}{Z:Zs}{a:Addr}{ds:List B2}(h:Fz K H Z (.ref a) (.tuple ds)):qf K (GK K a) H Z ds:=by
 refine⟨λH2 Z2 g k d hd=>?_,λH2 Z2 g k hk=>?_⟩
 ·obtain⟨a',xs,e,r,fs⟩:=(h.mono g).gu
  cases e;obtain⟨x,h1,h2⟩:=fs.get' hd;refine⟨⟨xs,x,r,h1⟩,λy H' hy=>?_⟩
  obtain⟨rfl,hy⟩:=hy;exact⟨bD.refl _,qg r fs hd hy⟩
 ·obtain⟨a',xs,e,r,fs⟩:=(h.mono g).gu
  cases e;exact⟨xs,r,by rw[fs.length]; exact hk⟩
theorem Ep{l:Expr}{f:FE}(h:VE X l f):VI X tg l (bR f):=tR (En (o6 h) (Dj h)) λσ H R hq=>by
 obtain⟨Z,ρ,F,ds,ρ',S,w,e,q⟩:=hq;obtain⟨⟨o1,ρ1⟩,e1,e⟩:=oB e;obtain⟨⟨d,ρ2⟩,e2,e⟩:=oB e;obtain⟨ds',e3,e⟩:=oB e;cases e;have key:∀x H1 Z1 F1 G1,aR X.K H1 Z1 σ ρ1 F1->mY X.K H1 Z1 σ x o1 G1->aH H Z F H1 Z1 (F1++G1)->∃Z2,Fz X.K H1 Z2 x d/\∀J,qf X.K J H1 Z2 ds->R J H1:=λx H1 Z1 F1 G1 S1 O1 f1=>by
  obtain⟨Z2,F2,h1,h2,h3,_⟩:=iA S1 O1 f1 e2;exact⟨Z2,h2,λJ hJ=>q J H1 Z2 F2 h1 hJ h3⟩
 cases d with
 |tuple ds0=>
  cases e3;refine .inr ⟨Z,ρ,F,o1,ρ1,S,w,e1,λx H1 Z1 F1 G1 S1 O1 f1=>?_⟩
  obtain⟨Z2,h2,h3⟩:=key x H1 Z1 F1 G1 S1 O1 f1;obtain⟨a,xs,rfl,r,fs⟩:=h2.gu;exact⟨a,rfl,⟨xs,r⟩,h3 _ (Eo h2)⟩
 |list ds0=>
  cases e3;refine .inl ⟨Z,ρ,F,o1,ρ1,S,w,e1,λx H1 Z1 F1 G1 S1 O1 f1=>?_⟩
  obtain⟨Z2,h2,h3⟩:=key x H1 Z1 F1 G1 S1 O1 f1;obtain⟨a,xs,rfl,r,fs⟩:=h2.lst_inv;exact⟨a,rfl,⟨xs,r⟩,h3 _ (BH h2)⟩
 |_=>cases e3
noncomputable def bV(lo hi:Int):List B2:=(Fu (hi-lo).toNat).map λk:Nat=>J3 (lo+k)
noncomputable def zg:Int:=1000000000
noncomputable def lW(i:Int):Bool:=decide (-zg<=i/\i<=zg)
theorem wX{i:Int}(h:lW i=true) : -(2 ^ 62)<=i/\i<2 ^ 62:=by
 have h:=of_decide_eq_true h;unfold zg at h;lia
noncomputable def kE:List M->Option (List B2)
 |[.v (.int j)]=>if lW j=true then some (bV 0 j) else none
 |_=>none
noncomputable def fD(g:List M->Option (List B2))(fa:FA):FI:=λρ=>(fa ρ).bind λp=>(gI p.2 p.1).bind λms=>(g ms).bind λds=>some (ds,p.2)
theorem Er{K:AT}{H:Hp}{Z:Zs}(lo hi:Int):qf K (Gq lo (hi-lo).toNat) H Z (bV lo hi):=by
 refine⟨λH2 Z2 g k d hd=>?_,λH2 Z2 g k hk=>?_⟩
 ·unfold bV at hd
  rw[IC] at hd;obtain⟨j,h1,h2⟩:=JF.mp hd;obtain⟨h3,h4⟩:=DD.mp h1;rw[JY] at h3;rw[List.getElem_range] at h4;subst h4; subst h2;refine⟨h3,λx H' hx=>?_⟩
  obtain⟨rfl,rfl⟩:=hx;exact⟨bD.refl _,.int _⟩
 ·unfold bV at hk
  rw[BM,JY] at hk;exact hk
theorem vc{fa:FA}{σ:L2.St}{H:Hp}{R:It->Hp->Prop}{ms:List M}{ds:List B2}{Z:Zs}{ρ ρ1:Ev}{F:List Addr}{os:List cR}(S:aR X.K H Z σ ρ F)(w:Wf H Z F)(e1:fa ρ=some (os,ρ1))(e2:gI ρ1 os=some ms)
  (q:∀J H' Z' F',aR X.K H' Z' σ ρ1 F'->qf X.K J H' Z' ds->aH H Z F H' Z' F'->R J H') {T:List V->Hp->Prop} (hT:∀xs H1 Z1,Fc X.K H1 Z1 xs ms->(∀J,qf X.K J H1 Z1 ds->R J H1)->T xs H1):vA X.K fa σ H T :=
 ⟨Z,ρ,F,os,ρ1,S,w,e1,λxs H1 Z1 F1 G1 S1 O1 f1=>hT xs H1 Z1 (O1.peek S1 e2) λJ hJ=>q J H1 Z1 F1 S1 hJ f1.left⟩
theorem BI{a:Expr}{fa:FA}{p:Pos}(hg:Gl X "range")(hm:X.mg "range" = none)(ha:VA X [a] fa)(hs:Fa [a] X.env=[(false,eval a X.env)]:=by rfl):VI X tg (.Call (.Name "range" p) [a] [] pos) (fD kE fa):=tR (wc hg hm ha hs) λσ H R hq=>by
 obtain⟨Z,ρ,F,ds,ρ',S,w,e,q⟩:=hq;obtain⟨⟨os,ρ1⟩,e1,e⟩:=oB e;obtain⟨ms,e2,e⟩:=oB e;obtain⟨ds',e3,e⟩:=oB e;cases e;refine vc S w e1 e2 q λxs H1 Z1 r h=>?_
 unfold kE at e3
 split at e3
 ·rename_i j
  split at e3
  ·next hl=>
   cases e3;obtain⟨x,rfl,h1⟩:=gO r;obtain rfl:=h1.int;have hj:=wX hl;refine⟨_,rfl,hj.1,hj.2,h _ ?_⟩;have k:=Er (K:=X.K) (H:=H1) (Z:=Z1) 0 j;rw[Int.sub_zero] at k;exact k
  ·cases e3
 ·cases e3
noncomputable def zh:List M->Option (List B2)
 |[.v (.tuple a),.v (.tuple b)]=>some (List.zipWith (λx y=>Qa [x,y]) a b)
 |_=>none
theorem Es{a b:Expr}{fa:FA}{p tp:Pos}{es:List Expr}{k:Nat}(hg:Gl X "zip")(hm:X.mg "zip" = none)(ha:VA X [a,b] fa)(hs:Fa [a,b] X.env=[(false,eval a X.env),(false,eval b X.env)]:=by rfl)(hs2:Fa [b] X.env=[(false,eval b X.env)]:=by rfl):VI X (.Tuple es k tp) (.Call (.Name "zip" p) [a,b] [] pos) (fD zh fa):=tR (DQ hg hm ha hs hs2) λσ H R hq=>by
 obtain⟨Z,ρ,F,ds,ρ',S,w,e,q⟩:=hq;obtain⟨⟨os,ρ1⟩,e1,e⟩:=oB e;obtain⟨ms,e2,e⟩:=oB e;obtain⟨ds',e3,e⟩:=oB e;cases e;refine vc S w e1 e2 q λxs H1 Z1 r h=>?_
 unfold zh at e3
 split at e3
 ·rename_i A B
  cases e3;obtain⟨x,y,rfl,h1,h2⟩:=ros2 r;obtain⟨a,xs,rfl,t1,g1⟩:=h1.tup;obtain⟨b,ys,rfl,t2,g2⟩:=h2.tup;refine⟨a,b,rfl,⟨xs,t1⟩,⟨ys,t2⟩,h _ ⟨λH2 Z2 g k d hd=>?_,λH2 Z2 g k hk=>?_⟩⟩
  ·rw[List.getElem?_zipWith] at hd
   have u1:=g.tups.sq t1;have u2:=g.tups.sq t2;have v1:=g1.mono g;have v2:=g2.mono g;cases ea:A[k]? with
   |none=>rw[ea] at hd; cases hd
   |some da=>
    cases eb:B[k]? with
    |none=>rw[ea,eb] at hd; cases hd
    |some db=>
     rw[ea,eb] at hd;cases hd;obtain⟨x,x1,x2⟩:=v1.get' ea;obtain⟨y,y1,y2⟩:=v2.get' eb;refine⟨⟨xs,ys,x,y,u1,u2,x1,y1⟩,λz H' hz=>?_⟩
     obtain⟨p,x',y',hp,rfl,rfl,zx,zy⟩:=hz;have s:=cN hp (.tup [x',y']);exact⟨s,.tup (dc.of aB) (.cons ((qg u1 v1 ea zx).mono (aL.same s)) (.cons ((qg u2 v2 eb zy).mono (aL.same s)) .nil))⟩
  ·rw[List.length_zipWith] at hk
   refine⟨xs,ys,g.tups.sq t1,g.tups.sq t2,?_⟩;rw[g1.length,g2.length];lia
 ·cases e3
noncomputable def forL(fg:FG)(fb:FS):List B2->Ev->Option Out
 |[],ρ=>some (.nx ρ)
 |d::ds,ρ=>(fg d ρ).bind λρ1=>(fb ρ1).bind λo=>match o with
  |.nx ρ2=>forL fg fb ds ρ2
  |.ct ρ2=>forL fg fb ds ρ2
  |.bk ρ2=>some (.nx ρ2)
  |.rt m ρ2=>some (.rt m ρ2)
noncomputable def eE(fi:FI)(fg:FG)(fb:FS):FS:=λρ=>(fi ρ).bind λp=>forL fg fb p.1 p.2
theorem BJ{fi:FI}{fg:FG}{fb:FS}{pv:Pv}{D:Ends}{σ:L2.St}{H:Hp}(hq:vS X.K pv (eE fi fg fb) D σ H):tFor (vI X.K fi) (vG X.K pv fg) (vS X.K pv fb) D σ H:=by
 obtain⟨Z,ρ,F,o,S,w,P,e,q⟩:=hq;obtain⟨⟨ds,ρ1⟩,e1,e⟩:=oB e;refine⟨Z,ρ,F,ds,ρ1,S,w,e1,λJ H1 Z1 F1 S1 hJ f1=>?_⟩
 refine⟨λi m σ' H'=>m=ds.length-i/\i<=ds.length/\∃Z' ρ' F',aR X.K H' Z' σ' ρ' F'/\Wf H' Z' F'/\Pin pv σ'/\aL H1 Z1 H' Z'/\∃out,forL fg fb (ds.drop i) ρ'=some out/\nF X.K pv D H' Z' F' out,⟨_,rfl,Hn _,Z1,ρ1,F1,S1,f1.wf,P,aL.refl,o,e,q.trans f1⟩,λi m σ2 H2 hW=>?_⟩
 obtain⟨rfl,hi,Z2,ρ2,F2,S2,w2,P2,g2,out,e2,q2⟩:=hW;rcases N8 hi with hi | rfl
 ·right
  rw[Iy hi] at e2;have hd:ds[i]? = some ds[i]:=Bn hi;obtain⟨go,yl⟩:=hJ.go H2 Z2 g2 i _ hd;obtain⟨ρ3,e3,e2⟩:=oB e2;obtain⟨o3,e4,e2⟩:=oB e2;refine⟨go,λσ' H'=>∃m',m'<ds.length-i/\m'=ds.length-(i+1)/\i+1<=ds.length/\∃Z' ρ' F',aR X.K H' Z' σ' ρ' F'/\Wf H' Z' F'/\Pin pv σ'/\aL H1 Z1 H' Z'/\∃out,forL fg fb (ds.drop (i+1)) ρ'=some out/\nF X.K pv D H' Z' F' out,λσ' H' h=>h,λx H' hx=>?_⟩
  obtain⟨s,fz⟩:=yl x H' hx;have gs:aL H2 Z2 H' Z2:=aL.same s;have S2':=S2.mono gs λa _ o e=>s a o e
  have fs:aH H2 Z2 F2 H' Z2 F2:=by
   have:=(aH.same s w2.za).news w2 S2.al;rw[EQ] at this;exact this
  refine⟨Z2,ρ2,F2,_,ρ3,S2',w2.nd,P2,fz,e3,λσ3 F3 S3 n3 s3 P3=>?_⟩
  have f3:aH H2 Z2 F2 H' Z2 F3:=fs.sub n3 s3;refine⟨Z2,ρ3,F3,o3,S3,f3.wf,P3,e4,?_⟩;have again:∀ρ4,forL fg fb (ds.drop (i+1)) ρ4=some out->∀σ' H4 Z4 F4,aR X.K H4 Z4 σ' ρ4 F4->aH H' Z2 F3 H4 Z4 F4->Pin pv σ'->∃m',m'<ds.length-i/\m'=ds.length-(i+1)/\i+1<=ds.length/\∃Z' ρ' F',aR X.K H4 Z' σ' ρ' F'/\Wf H4 Z' F'/\Pin pv σ'/\aL H1 Z1 H4 Z'/\∃out,forL fg fb (ds.drop (i+1)) ρ'=some out/\nF X.K pv D H4 Z' F' out:=λρ4 e5 σ' H4 Z4 F4 S4 f4 P4=>
   ⟨_,by lia,rfl,hi,Z4,ρ4,F4,S4,f4.wf,P4,(g2.trans gs).trans (f4.grow f3.wf),out,e5,q2.trans (f3.trans f4)⟩
  cases o3 with
  |nx ρ4=>exact again ρ4 e2
  |ct ρ4=>exact again ρ4 e2
  |bk ρ4=>cases e2; exact λσ' H4 Z4 F4 S4 f4 P4=>q2 σ' H4 Z4 F4 S4 (f3.trans f4) P4
  |rt m ρ4=>cases e2; exact λx σ' H4 Z4 F4 G S4 O4 f4 P4=>q2 x σ' H4 Z4 F4 G S4 O4 (f3.trans f4) P4
 ·left
  rw[LF] at e2;cases e2;exact⟨hJ.stop H2 Z2 g2 _ (D2 _),q2 σ2 H2 Z2 F2 S2 (aH.refl w2) P2⟩
theorem Et{iter:Expr}{body:List Stmt}{fi:FI}{fg:FG}{fb:FS}(hp0:N9 (model X.prog X.w) X.A X.env X.xe)(hc:X.calm=true)(hi:VI X tg iter fi)(hg:VG X pin tg fg)(hb:AF X pin body fb)
  (hs:∀x,IP iter X.env x=pure x:=by intro _; rfl):VS X pin (.For tg iter body [] pos) (eE fi fg fb):=λpv hp=>eV (Dk hp0 hc hi (hg pv hp) (hb pv hp) hs) λ_ _ _ hq=>BJ hq
noncomputable def i9(fc:FT)(fb:FS):Nat->Ev->Option Out
 |0,_=>none
 |n+1,ρ=>(fc ρ).bind λp=>if p.1=true then (fb p.2).bind λo=>match o with
  |.nx ρ2=>i9 fc fb n ρ2
  |.ct ρ2=>i9 fc fb n ρ2
  |.bk ρ2=>some (.nx ρ2)
  |.rt m ρ2=>some (.rt m ρ2)
  else some (.nx p.2)
noncomputable def jR(n:Nat)(fc:FT)(fb:FS):FS:=λρ=>i9 fc fb n ρ
theorem wY{n:Nat}{fc:FT}{fb:FS}{pv:Pv}{D:Ends}{σ:L2.St}{H:Hp}(hq:vS X.K pv (jR n fc fb) D σ H):xS (vT X.K fc) (vS X.K pv fb) D σ H:=by
 obtain⟨Z,ρ,F,o,S,w,P,e,q⟩:=hq;refine⟨λm σ' H'=>∃Z' ρ' F',aR X.K H' Z' σ' ρ' F'/\Wf H' Z' F'/\Pin pv σ'/\∃out,i9 fc fb m ρ'=some out/\nF X.K pv D H' Z' F' out,⟨n,Z,ρ,F,S,w,P,o,e,q⟩,λm σ2 H2 hW=>?_⟩
 obtain⟨Z2,ρ2,F2,S2,w2,P2,out,e2,q2⟩:=hW;cases m with
 |zero=>cases e2
 |succ m=>
  obtain⟨⟨b,ρ3⟩,e3,e2⟩:=oB e2;refine⟨Z2,ρ2,F2,b,ρ3,S2,w2,e3,λH3 Z3 F3 S3 f3=>?_⟩
  cases b with
  |false=>cases e2; exact iteF (q2 σ2 H3 Z3 F3 S3 f3 P2)
  |true=>
   obtain⟨o3,e4,e2⟩:=oB e2;refine iteT ⟨λσ' H'=>∃m',m'<m+1/\∃Z' ρ' F',aR X.K H' Z' σ' ρ' F'/\Wf H' Z' F'/\Pin pv σ'/\∃out,i9 fc fb m' ρ'=some out/\nF X.K pv D H' Z' F' out,λσ' H' h=>h,Z3,ρ3,F3,o3,S3,f3.wf,P2,e4,?_⟩
   cases o3 with
   |nx ρ4=>exact λσ' H4 Z4 F4 S4 f4 P4=>⟨m,M5 m,Z4,ρ4,F4,S4,f4.wf,P4,out,e2,q2.trans (f3.trans f4)⟩
   |ct ρ4=>exact λσ' H4 Z4 F4 S4 f4 P4=>⟨m,M5 m,Z4,ρ4,F4,S4,f4.wf,P4,out,e2,q2.trans (f3.trans f4)⟩
   |bk ρ4=>cases e2; exact λσ' H4 Z4 F4 S4 f4 P4=>q2 σ' H4 Z4 F4 S4 (f3.trans f4) P4
   |rt m ρ4=>cases e2; exact λx σ' H4 Z4 F4 G S4 O4 f4 P4=>q2 x σ' H4 Z4 F4 G S4 O4 (f3.trans f4) P4
theorem zj(n:Nat){c:Expr}{body:List Stmt}{fc:FT}{fb:FS}(hp0:N9 (model X.prog X.w) X.A X.env X.xe)(hc:VT X c fc)(hb:AF X pin body fb):VS X pin (.While c body [] pos) (jR n fc fb):=λpv hp=>eV (xT hp0 hc (hb pv hp)) λ_ _ _ hq=>wY hq
end
noncomputable def fin:List Bool->List M->Ev->Option (List M)
 |[],[],_=>some []
 |true::ps,_::ms,some m'::ρ=>(fin ps ms ρ).bind λms'=>some (m'::ms')
 |false::ps,.v d::ms,_::ρ=>(fin ps ms ρ).bind λms'=>some (.v d::ms')
 |_,_,_=>none
section
variable{K:AT}{H:Hp}{Z:Zs}
theorem tS:∀{ps:List Bool}{ms:List M}{ρ:Ev}{ms':List M}{σ:L2.St}{F:List Addr}{vs:List V},aR K H Z σ ρ F->F.Nodup->(∀(i:Nat)x,ps[i]? = some true->vs[i]? = some x->σ[i]? = some (some x)) ->
  (∀(i:Nat)x d,ps[i]? = some false->vs[i]? = some x->ms[i]? = some (.v d)->Fz K H Z x d)->vs.length=ms.length->fin ps ms ρ=some ms'->∃A,tP K H Z vs ms' A/\A.Nodup/\∀a∈A,a∈F:=by
 intro ps
 induction ps with
 |nil=>
  intro ms ρ ms' σ F vs S nd _ _ hl e;cases ms with
  |cons _ _=>cases e
  |nil=>
   have e:some []=some _:=e;cases e;have:vs=[]:=Ob.mp (by simpa using hl)
   subst this;exact⟨[],.nil,JL,λa h=>by simp at h⟩
 |cons p ps ih=>
  intro ms ρ ms' σ F vs S nd h1 h2 hl e;cases ms with
  |nil=>cases p <;> cases e
  |cons m ms=>
  cases vs with
  |nil=>simp at hl
  |cons v vs=>
  have hl':vs.length=ms.length:=by simpa using hl
  have h2':∀(i:Nat)x d,ps[i]? = some false->vs[i]? = some x->ms[i]? = some (.v d)->Fz K H Z x d:=λi x d p q z=>h2 (i+1) x d (by simpa using p) (by simpa using q) (by simpa using z)
  have hσ:∀{x:Option V}{σ':L2.St},σ=x::σ'->(∀(i:Nat)x,ps[i]? = some true->vs[i]? = some x->σ'[i]? = some (some x)):=λ{x σ'}eσ i y p q=>by
   have:=h1 (i+1) y (by simpa using p) (by simpa using q)
   rw[eσ] at this;simpa using this
  cases p with
  |true=>
   cases S with
   |nil=>cases e
   |non r=>cases e
   |@som x m' G σ ρ F q r=>
    obtain⟨ms',e1,e⟩:=oB e;cases e;obtain⟨n1,n2,n3⟩:=bA nd;have hx:=h1 0 v rfl rfl;cases hx;obtain⟨A,a1,a2,a3⟩:=ih r n2 (hσ rfl) h2' hl' e1;refine⟨G++A,.cons q a1,aP n1 a2 λa h z=>n3 a h (a3 a z),λa h=>?_⟩
    rcases lM h with h | h
    ·exact lL _ h
    ·exact lR _ (a3 a h)
  |false=>
   cases m with
   |lst _=>cases ρ <;> cases e
   |aA _=>cases ρ <;> cases e
   |bW _=>cases ρ <;> cases e
   |dtp _=>cases ρ <;> cases e
   |v d=>
   cases ρ with
   |nil=>cases e
   |cons c ρ=>
   obtain⟨ms',e1,e⟩:=oB e;cases e;have key:∀{σ':L2.St}{F':List Addr},aR K H Z σ' ρ F'->F'.Nodup->(∀a∈F',a∈F)->(∀(i:Nat)x,ps[i]? = some true->vs[i]? = some x->σ'[i]? = some (some x))->∃A,tP K H Z (v::vs) (.v d::ms') A/\A.Nodup/\∀a∈A,a∈F:=λS' nd' sub h1'=>by
    obtain⟨A,a1,a2,a3⟩:=ih S' nd' h1' h2' hl' e1;exact⟨[]++A,.cons (.v (h2 0 v d rfl rfl rfl)) a1,by rw[Im]; exact a2,λa h=>by rw[Im] at h; exact sub a (a3 a h)⟩
   cases S with
   |non r=>exact key r nd (λ_ h=>h) (hσ rfl)
   |som q r=>exact key r (bA nd).2.1 (λa h=>lR _ h) (hσ rfl)
theorem aR.zk:∀{xs:List V}{ms:List M}{A:List Addr}(n:Nat),tP K H Z xs ms A->aR K H Z (xs.map some++FK n none) (ms.map some++FK n none) A:=by
 intro xs ms A n h
 induction h with
 |nil=>
  induction n with
  |zero=>exact .nil
  |succ n ih=>exact .non ih
 |cons h r ih=>exact .som h ih
theorem aR.vd{xs:List V}{ms:List M}{A:List Addr}(h:tP K H Z xs ms A):∀n:Nat,aR K H Z (FK n none++xs.map some) (FK n none++ms.map some) A
 |0=>by have:=aR.zk 0 h; simpa using this
 |n+1=>.non (aR.vd h n)
end
noncomputable def gy(ps:List Bool)(n:Nat)(fb:FS):FF:=λms=>if ms.length=ps.length then (fb (ms.map some++FK (n-ms.length) none)).bind λo=>match o with
 |.rt m ρ=>(fin ps ms ρ).bind λms'=>some (m,ms')
 |.nx ρ=>(fin ps ms ρ).bind λms'=>some (.v .none,ms')
 |_=>none
 else none
noncomputable def pins:List Bool->Nat->List Nat
 |[],_=>[]
 |true::ps,k=>k::pins ps (k+1)
 |false::ps,k=>pins ps (k+1)
theorem lX:∀{ps:List Bool}{k i:Nat},ps[i]? = some true->k+i∈pins ps k
 |[],_,_,h=>by simp at h
 |true::ps,k,0,_=>lS
 |true::ps,k,i+1,h=>lO _ (by have:=lX (k:=k+1) (i:=i) (ps:=ps) (by simpa using h); rw[show k+(i+1)=k+1+i by lia]; exact this)
 |false::ps,k,0,h=>by simp at h
 |false::ps,k,i+1,h=>by have:=lX (k:=k+1) (i:=i) (ps:=ps) (by simpa using h); rw[show k+(i+1)=k+1+i by lia]; exact this
theorem tP.get{K:AT}{H:Hp}{Z:Zs}:∀{xs:List V}{ms:List M}{A:List Addr}{i:Nat}{x:V}{m:M},tP K H Z xs ms A->xs[i]? = some x->ms[i]? = some m->∃G,Ow K H Z x m G:=by
 intro xs ms A i x m h
 induction h generalizing i with
 |nil=>intro e; simp at e
 |cons h r ih=>
  intro e e';cases i with
  |zero=>cases e; cases e'; exact⟨_,h⟩
  |succ i=>exact ih (i:=i) (by simpa using e) (by simpa using e')
section
variable{P:Fm}{w:World}{K:AT}{mg:Str->Option Value}{base:Heap}
theorem Eu{x qual:Str}{st:Stmt}{f:Addr}{fd:K7}{N prs:List Str}{k:Nat}(ps:List Bool){fb:FS}(Fn:nV K x qual st f fd)(S:bB N prs (au st))(hl:prs.length=ps.length)
  (hb:∀(cdv:Value)(A:ID)(outer:List Env)(s:B1)(H:Hp)(E:XK),fq k (A.deeper (Mc qual (au st) s.heap.objs.size f cdv))->AF (qC j6 P w K mg base N qual (au st) f cdv A outer s H E).E7 (pins ps 0) (aV st) fb) :
  cY P w K mg base j6 (k+1) f fd prs (d8 K (gy ps N.length fb)):=by
 refine Fn.ok S (λvs H Q E h=>?_) λcdv A outer s H vs Q E hr h=>?_
 ·obtain⟨Z,ms,A,m,ms',h1,_,e,_⟩:=h
  unfold gy at e
  split at e
  ·next he=>rw[hl,<-he,h1.length]
  ·cases e
 ·obtain⟨Z,ms,A',m,ms',h1,h2,e,q⟩:=h
  unfold gy at e
  split at e
  ·next he=>
   let pv:Pv:=λi=>if ps[i]? = some true then vs[i]? else none
   have sup:CO pv (pins ps 0):=λj y e=>by
    have e:(if ps[j]? = some true then vs[j]? else none)=some y:=e
    split at e
    ·next hj=>have:=lX (k:=0) hj; rwa [Lc] at this
    ·cases e
   refine⟨_,hb cdv A outer s H E hr pv sup,?_⟩;obtain⟨o,e1,e⟩:=oB e;have hlen:=h1.length;have pin0:Pin pv (L2.start N vs):=λi y e=>by
    have e:(if ps[i]? = some true then vs[i]? else none)=some y:=e
    split at e
    ·unfold L2.start
     rw[He (by rw[BM]; exact(DD.mp e).1),IC,e]
     rfl
    ·cases e
   have S0:aR K H Z (L2.start N vs) (ms.map some++FK (N.length-ms.length) none) A':=by
    have:=aR.zk (N.length-ms.length) h1;rw[<-hlen] at this;unfold L2.start;rw[<-hlen];exact this
   have fz0:∀(i:Nat)x d,ps[i]? = some false->vs[i]? = some x->ms[i]? = some (.v d)->Fz K H Z x d:=λi x d _ h h'=>by
    obtain⟨G,z⟩:=h1.get h h';cases z with
    |v f=>exact f
   have pinR:∀{σ':L2.St},Pin pv σ'->∀(i:Nat)x,ps[i]? = some true->vs[i]? = some x->σ'[i]? = some (some x):=λ{σ'}P' i x h h'=>P' i x (by show (if ps[i]? = some true then vs[i]? else none)=some x; rw[if_pos h]; exact h')
   refine⟨Z,_,A',o,S0,h2,pin0,e1,?_⟩;cases o with
   |nx ρ=>
    obtain⟨ms2,e2,e⟩:=oB e;cases e;intro σ' H' Z' F' S' f' P';obtain⟨A2,a1,a2,a3⟩:=tS S' f'.nd (pinR P') (λi x d h h' h''=>(fz0 i x d h h' h'').mono (f'.grow h2)) hlen e2
    exact q .non H' Z' A2 [] a1 (.v .non) (f'.sub a2 a3).nil
   |rt m2 ρ=>
    obtain⟨ms2,e2,e⟩:=oB e;cases e;intro x σ' H' Z' F' G S' O' f' P';obtain⟨n1,n2,n3⟩:=bA f'.nd;obtain⟨A2,a1,a2,a3⟩:=tS S' n1 (pinR P') (λi x d h h' h''=>(fz0 i x d h h' h'').mono (f'.grow h2)) hlen e2
    refine q x H' Z' A2 G a1 O' (f'.sub (aP a2 n2 λa h z=>n3 a (a3 a h) z) λa h=>?_)
    rcases lM h with h | h
    ·exact lL _ (a3 a h)
    ·exact lR _ h
   |bk ρ=>cases e
   |ct ρ=>cases e
  ·cases e
end
end VL
end
section
namespace L2
open PySem PySem.Spec PyProof.Rows
theorem ee:QI table "dict.update.loop" = some J1.«dict.update.loop» := entryFor_of_tree (by kernel_rfl)
theorem bS:plainId "dict.update.loop" = true:=by decide +kernel
section
variable{X:Cx}
theorem kq:∀(l:List (Key×V))(acc:List (Key×V)),(l.foldl (λa p=>putK a p.1 p.2) acc).length<=acc.length+l.length
 |[],_=>D2 _
 |p::l,acc=>by
  have h1:=kq l (putK acc p.1 p.2);have h2:=dO acc p.1 p.2;rw[LQ,Bz];lia
end
theorem lY{α β:Type}{R:α->β->Prop}:∀{xs:List α}{ys:List β},xs.length=ys.length->(∀(n:Nat)x y,xs[n]? = some x->ys[n]? = some y->R x y)->JQ R xs ys
 |[],[],_,_=>.nil
 |[],_::_,h,_=>by simp at h
 |_::_,[],h,_=>by simp at h
 |x::xs,y::ys,h,r=>.cons (r 0 x y rfl rfl) (lY (by simpa using h) λn a b h1 h2=>r (n+1) a b (by simpa using h1) (by simpa using h2))
abbrev GA:=St->Hp->(St->Hp->Prop)->Prop
def zl(g:TG)(tt:TT)(tem:GA)(J:It)(τ:St)(H:Hp)(Q:St->Hp->Prop):Prop :=
 ∃W:Nat->Nat->St->Hp->Prop,(∃m,W 0 m τ H)/\∀i m τ H,W i m τ H ->
  (J.stop i H/\Q τ H)\/(J.go i H/\∃N:St->Hp->Prop,(∀τ' H',N τ' H'->∃m',m'<m/\W (i+1) m' τ' H')/\∀x H',J.yld i H x H'->g x τ H' λτ2 H2=>tt τ2 H2 λb H3=>
   if b=true then tem τ2 H3 N else N τ2 H3)
section
variable{X:Cx}{e target iter:Expr}{ifs:List Expr}{g:TG}{tt:TT}{tem:GA}{acc:Value}{em:Sem Unit}
noncomputable def eApp2(D:Addr)(te:TE):GA:=λσ H R=>te σ H λy H1=>∃xs,H1 D=some (.lst xs)/\xs.length<FV/\R σ (upd H1 D (.lst (xs++[y])))
end
end L2
end
section
namespace VL
open PySem PySem.Spec L2 PyProof.Rows
noncomputable def dS:FT:=λρ=>some (true,ρ)
abbrev VF(X:Cx)(ifs:List Expr)(f:FT):Prop:=pI X ifs (vT X.K f)
section
variable{X:Cx}{pos:Pos}
theorem Ew:VF X [] dS:=λpins s σ H Q I hq=>DH pins s σ H Q I (by
 obtain⟨Z,ρ,F,b,ρ',S,w,e,q⟩:=hq;cases e;exact q H Z F S (aH.refl w))
theorem Ex{c:Expr}{f:FT}(h:VT X c f):VF X [c] f:=DI h
end
noncomputable def cap(ρ:Ev)(j:Nat):Option cR:=match cS ρ j with
 |some (.v d)=>some (.t (.v d))
 |some _=>some (.p j)
 |none=>none
noncomputable def caps(ρ:Ev):List Nat->Option (List cR)
 |[]=>some []
 |j::js=>(cap ρ j).bind λo=>(caps ρ js).bind λos=>some (o::os)
noncomputable def cg(fg:FG)(ft:FT)(fe:FE):List B2->Ev->List B2->Option (List B2×Ev)
 |[],ρ,acc=>some (acc,ρ)
 |d::ds,ρ,acc=>(fg d ρ).bind λρ1=>(ft ρ1).bind λt=>if t.1=true then
  (fe t.2).bind λp=>(cU p.1 p.2).bind λq=>if acc.length<lim then cg fg ft fe ds q.2 (acc++[q.1]) else none
  else cg fg ft fe ds t.2 acc
noncomputable def tU(n:Nat)(js:List Nat)(fi:FI)(fg:FG)(ft:FT)(fe:FE):FE:=λρ=>(fi ρ).bind λp=>(caps p.2 js).bind λos=>(cD os p.2).bind λq=>
 (cg fg ft fe p.1 (FK n none++q.1.map some) []).bind λr=>(fin (FK js.length true) q.1 (r.2.drop n)).bind λms'=>some (.t (.lst r.1),fP os ms' q.2)
noncomputable def slot(σ:L2.St)(j:Nat):Option V:=match σ[j]? with
 |some v=>v
 |none=>none
noncomputable def gA(n:Nat)(js:List Nat)(σ:L2.St):Pv:=λk=>if k<n then none else match js[k-n]? with
 |some j=>slot σ j
 |none=>none
section
variable{K:AT}{H:Hp}{Z:Zs}{σ:L2.St}{ρ:Ev}{F:List Addr}
theorem BK(S:aR K H Z σ ρ F):∀{js:List Nat}{os:List cR},caps ρ js=some os->∃xs,jz K H Z σ xs os []/\xs.map some=js.map (slot σ)/\xs.length=js.length:=by
 intro js
 induction js with
 |nil=>
  intro _ e;cases e; exact⟨[],.nil,rfl,rfl⟩
 |cons j js ih=>
  intro _ e;obtain⟨o,e1,e⟩:=oB e;obtain⟨os,e2,e⟩:=oB e;cases e;obtain⟨xs,h1,h2,h3⟩:=ih e2;unfold cap at e1;cases hm:cS ρ j with
  |none=>rw[hm] at e1; cases e1
  |some m=>
   obtain⟨x,G,k1,k2,k3⟩:=S.get (aF.mp hm);have ho:mY K H Z σ x o []:=by
    rw[hm] at e1;cases m with
    |v d=>cases e1; cases k2 with
     |v f=>exact .t (.v f)
    |lst _=>cases e1; exact .p k1
    |aA _=>cases e1; exact .p k1
    |bW _=>cases e1; exact .p k1
    |dtp _=>cases e1; exact .p k1
   refine⟨x::xs,.cons (G:=[]) ho h1,?_,by rw[Bz,Bz,h3]⟩
   rw[FC,FC,h2];unfold slot;rw[k1]
theorem BL(n:Nat)(js:List Nat)(σ:L2.St):iX (FK n none++js.map some) σ=FK n none++js.map (slot σ):=by
 unfold iX;rw[Iw,List.map_replicate,Hk];rfl
theorem Ey(n:Nat)(js:List Nat)(σ:L2.St):Pin (gA n js σ) (FK n none++js.map (slot σ)):=λk x e=>by
 unfold gA at e
 split at e
 ·cases e
 ·next hk=>
  rw[IH (by rw[MN]; lia),MN,IC]
  cases hj:js[k-n]? with
  |none=>rw[hj] at e; cases e
  |some j=>rw[hj] at e; rw[M4]; exact congrArg some e
theorem ja(n:Nat)(js:List Nat)(σ:L2.St){pin:List Nat}(hp:pin=(Fu js.length).map (n + ·)):CO (gA n js σ) pin:=λk x e=>by
 unfold gA at e
 split at e
 ·cases e
 ·next hk=>
  cases hj:js[k-n]? with
  |none=>rw[hj] at e; cases e
  |some j=>
   subst hp;have:=(DD.mp hj).1;exact Hd.mpr ⟨k-n,JB.mpr this,by lia⟩
end
section
variable{X:Cx}{pos:Pos}
theorem aR.dropN{K:AT}{H:Hp}{Z:Zs}:∀{σ:L2.St}{ρ:Ev}{F:List Addr}(n:Nat),aR K H Z σ ρ F->F.Nodup->∃F',aR K H Z (σ.drop n) (ρ.drop n) F'/\F'.Nodup/\∀a∈F',a∈F:=by
 intro σ ρ F n h
 induction h generalizing n with
 |nil=>exact λnd=>⟨[],by rw[Mo,Mo]; exact .nil,nd,λ_ h=>h⟩
 |non r ih=>
  cases n with
  |zero=>exact λnd=>⟨_,.non r,nd,λ_ h=>h⟩
  |succ n=>exact ih n
 |som q r ih=>
  intro nd;cases n with
  |zero=>exact⟨_,.som q r,nd,λ_ h=>h⟩
  |succ n=>
   obtain⟨F',h1,h2,h3⟩:=ih n (bA nd).2.1;exact⟨F',h1,h2,λa h=>lR _ (h3 a h)⟩
theorem aH.put{H0 H:Hp}{Z0 Z:Zs}{F0 F:List Addr}{D:Addr}{o o':HO}(f:aH H0 Z0 F0 H Z (F++[D]))(e:H D=some o)(hn:∀u,o≠.tup u)(hf:∀x u,o≠.frz x u):aH H0 Z0 F0 (upd H D o') Z (F++[D])/\aL H Z (upd H D o') Z:=by
 have hD:D∈F++[D]:=lR _ lS;have nz:¬Z D:=f.dz D hD;have keep:∀a o2,a≠D->H a=some o2->upd H D o' a=some o2:=λa o2 n h=>by rw[aC n]; exact h
 have za:∀a,Z a->upd H D o' a≠none:=λa z=>by
  have hne:a≠D:=λh=>nz (h▸z)
  rw[aC hne];exact f.za a z
 have g:aL H Z (upd H D o') Z:=⟨eB.put e hn hf,λa o2 z h=>keep a o2 (λw=>nz (w▸z)) h,λ_ z=>z⟩
 refine⟨f.trans ⟨λa o2 n h=>keep a o2 (λw=>n (w▸hD)) h,g.tups,λ_ z=>z,λa z=>.inl z,λa h=>.inl h,f.nd,f.dz,za⟩,g⟩
inductive GX{α:Type}(K:AT)(pv:Pv)(AP:Hp->Zs->α->List Addr->Prop)(C:List B2->Ev->α->Prop)(H1:Hp)(Z1:Zs)(B:List Addr)(ds:List B2)(i m:Nat)(τ:L2.St)(H:Hp):Prop
 |mk (Z:Zs) (ρ:Ev) (F G:List Addr) (acc:α):m=ds.length-i->i<=ds.length->aR K H Z τ ρ F->Pin pv τ->AP H Z acc G->aH H1 Z1 B H Z (F++G)->C (ds.drop i) ρ acc->GX K pv AP C H1 Z1 B ds i m τ H
theorem rA{α:Type}{pv:Pv}{fg:FG}{ft:FT}{tem:GA}{J:It}{ds:List B2}{τ:L2.St}{H0 H1:Hp}{Z0 Z1:Zs}{F0 G0 B:List Addr}{ρ0:Ev}{acc0:α}{Q:L2.St->Hp->Prop}
  (AP:Hp->Zs->α->List Addr->Prop) (C E:List B2->Ev->α->Prop)
  (apm:∀{H Z H' Z' acc G},AP H Z acc G->aL H Z H' Z'->(∀a∈G,∀o,H a=some o->H' a=some o)->AP H' Z' acc G) (apa:∀{H Z acc G},AP H Z acc G->∀a∈G,H a≠none)
  (hC:∀d ds ρ acc,C (d::ds) ρ acc->∃ρ1 b ρ2,fg d ρ=some ρ1/\ft ρ1=some (b,ρ2)/\(b=true->E ds ρ2 acc)/\(b=false->C ds ρ2 acc))
  (S:aR X.K H0 Z0 τ ρ0 F0) (P:Pin pv τ) (a0:AP H0 Z0 acc0 G0) (f0:aH H1 Z1 B H0 Z0 (F0++G0)) (e:C ds ρ0 acc0)
  (hgo:∀H2 Z2 F2,aH H1 Z1 B H2 Z2 F2->∀k d,ds[k]? = some d->J.go k H2/\∀x H',J.yld k H2 x H'->bD H2 H'/\Fz X.K H' Z2 x d) (hst:∀H2 Z2 F2,aH H1 Z1 B H2 Z2 F2->∀k,ds.length<=k->J.stop k H2)
  (hE:∀ds' τ H Z ρ F G acc,E ds' ρ acc->aR X.K H Z τ ρ F->Pin pv τ->AP H Z acc G->aH H1 Z1 B H Z (F++G)->∀N:L2.St->Hp->Prop,(∀τ' H' Z' ρ' F' G' acc',aR X.K H' Z' τ' ρ' F'->Pin pv τ'->AP H' Z' acc' G'->aH H1 Z1 B H' Z' (F'++G')->C ds' ρ' acc'->N τ' H')->tem τ H N)
  (q:∀τ' H' Z' ρ' F' G' acc',aR X.K H' Z' τ' ρ' F'->Pin pv τ'->AP H' Z' acc' G'->aH H1 Z1 B H' Z' (F'++G')->C [] ρ' acc'->Q τ' H') :
  zl (vG X.K pv fg) (vT X.K ft) tem J τ H0 Q:=by
 refine⟨GX X.K pv AP C H1 Z1 B ds,⟨_,Z0,ρ0,F0,G0,acc0,rfl,Hn _,S,P,a0,f0,e⟩,λi m τ2 H2 hW=>?_⟩
 obtain⟨Z2,ρ2,F2,G2,acc,rfl,hi,S2,P2,a2,f2,e2⟩:=hW;rcases N8 hi with hi | rfl
 ·right
  rw[Iy hi] at e2;obtain⟨go,yl⟩:=hgo H2 Z2 _ f2 i _ (Bn hi);obtain⟨ρ3,b,ρ4,e3,e4,e5,e6⟩:=hC _ _ _ _ e2;refine⟨go,λτ' H'=>∃m',m'<ds.length-i/\GX X.K pv AP C H1 Z1 B ds (i+1) m' τ' H',λτ' H' h=>h,λx H' hx=>?_⟩
  obtain⟨s,fz⟩:=yl x H' hx;have gs:aL H2 Z2 H' Z2:=aL.same s;have a2':=apm a2 gs λa _ o e=>s a o e
  obtain⟨m1,m2,m3⟩:=bA f2.nd;have fs:aH H2 Z2 (F2++G2) H' Z2 (F2++G2):=by
   have:=(aH.same s f2.za).news f2.wf λa h=>(lM h).elim (S2.al a) (apa a2 a)
   rw[EQ] at this;exact this
  refine⟨Z2,ρ2,F2,_,ρ3,S2.mono gs λa _ o e=>s a o e,m1,P2,fz,e3,λτ3 F3 S3 n3 s3 P3=>?_⟩
  have f3:aH H1 Z1 B H' Z2 (F3++G2):=(f2.trans fs).sub (aP n3 m2 λa h z=>m3 a (s3 a h) z) λa h=>by
   rcases lM h with h | h
   ·exact lL _ (s3 a h)
   ·exact lR _ h
  refine⟨Z2,ρ3,F3,b,ρ4,S3,f3.left.wf,e4,λH4 Z4 F4 S4 g4=>?_⟩
  have f4:aH H1 Z1 B H4 Z4 (F4++G2):=f3.trans (g4.frame f3.wf (apa a2'));have a4:=apm a2' (g4.grow f3.left.wf) λa h o e=>g4.keep a o (λz=>(bA f3.nd).2.2 a z h) e
  cases b with
  |false=>exact iteF ⟨_,by lia,Z4,ρ4,F4,G2,acc,rfl,hi,S4,P3,a4,f4,e6 rfl⟩
  |true=>exact iteT (hE _ _ _ _ _ _ _ _ (e5 rfl) S4 P3 a4 f4 _ λτ' H' Z' ρ' F' G' acc' s p a f c=>⟨_,by lia,Z',ρ',F',G',acc',rfl,hi,s,p,a,f,c⟩)
 ·left
  rw[LF] at e2;exact⟨hst H2 Z2 _ f2 _ (D2 _),q τ2 H2 Z2 _ F2 G2 _ S2 P2 a2 f2 e2⟩
inductive nH(K:AT)(D:Addr)(H:Hp)(Z:Zs)(acc:List B2)(G:List Addr):Prop
 |mk (xs:List V):G=[D]->H D=some (.lst xs)->bF K H Z xs acc->nH K D H Z acc G
theorem nH.mono{K:AT}{D:Addr}{H H':Hp}{Z Z':Zs}{acc:List B2}{G:List Addr}(h:nH K D H Z acc G)(g:aL H Z H' Z')(k:∀a∈G,∀o,H a=some o->H' a=some o):nH K D H' Z' acc G:=by
 obtain⟨xs,rfl,e,z⟩:=h;exact⟨xs,rfl,k D lS _ e,z.mono g⟩
theorem nH.al{K:AT}{D:Addr}{H:Hp}{Z:Zs}{acc:List B2}{G:List Addr}(h:nH K D H Z acc G):∀a∈G,H a≠none:=by
 obtain⟨xs,rfl,e,z⟩:=h;exact λa h q=>by rw[D1.mp h,e] at q; cases q
theorem zm{pv:Pv}{fg:FG}{ft:FT}{fe:FE}{J:It}{ds:List B2}{D:Addr}{τ:L2.St}{H0 H1:Hp}{Z0 Z1:Zs}{F0 B:List Addr}{ρ0:Ev}{r:List B2×Ev}{xs0:List V}{acc0:List B2}{Q:L2.St->Hp->Prop}(S:aR X.K H0 Z0 τ ρ0 F0)(P:Pin pv τ)(d0:H0 D=some (.lst xs0))(z0:bF X.K H0 Z0 xs0 acc0)(f0:aH H1 Z1 B H0 Z0 (F0++[D]))
  (hgo:∀H2 Z2 F2,aH H1 Z1 B H2 Z2 F2->∀k d,ds[k]? = some d->J.go k H2/\∀x H',J.yld k H2 x H'->bD H2 H'/\Fz X.K H' Z2 x d) (hst:∀H2 Z2 F2,aH H1 Z1 B H2 Z2 F2->∀k,ds.length<=k->J.stop k H2) (e:cg fg ft fe ds ρ0 acc0=some r)
  (q:∀τ' H' Z' F' xs,aR X.K H' Z' τ' r.2 F'->Pin pv τ'->H' D=some (.lst xs)->bF X.K H' Z' xs r.1->aH H1 Z1 B H' Z' (F'++[D])->Q τ' H'):zl (vG X.K pv fg) (vT X.K ft) (eApp2 D (vE X.K fe)) J τ H0 Q:=by
 refine rA (nH X.K D) (λds ρ acc=>cg fg ft fe ds ρ acc=some r) (λds ρ acc=>((fe ρ).bind λp=>(cU p.1 p.2).bind λq=>if acc.length<lim then cg fg ft fe ds q.2 (acc++[q.1]) else none)=some r) nH.mono nH.al (λd ds ρ acc e=>?_) S P ⟨xs0,rfl,d0,z0⟩ f0 e hgo hst (λds' τ H Z ρ F G acc e S P a f N hN=>?_) λτ' H' Z' ρ' F' G' acc' S P a f e=>?_
 ·obtain⟨ρ3,e3,e⟩:=oB e
  obtain⟨⟨b,ρ4⟩,e4,e⟩:=oB e;exact⟨ρ3,b,ρ4,e3,e4,λh=>by subst h; exact e,λh=>by subst h; exact e⟩
 ·obtain⟨xs,rfl,d4,z4⟩:=a
  obtain⟨⟨o5,ρ5⟩,e5,e⟩:=oB e;obtain⟨⟨d,ρ6⟩,e6,e⟩:=oB e
  split at e
  ·next hl=>
   refine⟨Z,ρ,F,o5,ρ5,S,f.left.wf,e5,λy H5 Z5 F5 G5 S5 O5 g5=>?_⟩
   have d5:H5 D=some (.lst xs):=g5.keep D _ (λz=>(bA f.nd).2.2 D z lS) d4
   obtain⟨Z6,F6,S6,y6,f6,g6⟩:=freeze S5 O5 (f.trans (g5.frame f.wf (nH.al ⟨xs,rfl,d4,z4⟩))) e6;have z6:=(z4.mono (g5.grow f.left.wf)).mono g6;obtain⟨f7,g7⟩:=f6.put (o':=.lst (xs++[y])) d5 (λ_ z=>nomatch z) (λ_ _ z=>nomatch z)
   refine⟨xs,d5,iZ (JI (by rw[z6.length]; exact hl)),hN _ _ Z6 ρ6 F6 _ _ (S6.mono g7 λa h o e=>?_) P ⟨xs++[y],rfl,aB,(z6.mono g7).append (.cons (y6.mono g7) .nil)⟩ f7 e⟩
   rw[aC λz=>(bA f6.nd).2.2 a h (by rw[z]; exact lS)]
   exact e
  ·cases e
 ·cases e
  obtain⟨xs,rfl,d,z⟩:=a;exact q τ' H' Z' F' xs S P d z f
theorem BN{n:Nat}{pv:Pv}{fg:FG}{ft:FT}{fe:FE}{J:It}{ds:List B2}{D:Addr}{τ:L2.St}{H1:Hp}{Z1:Zs}{A:List Addr}{ρ0:Ev}{r:List B2×Ev}{Q:Hp->Prop}(hD:H1 D=none)(S:aR X.K H1 Z1 τ ρ0 A)(w:Wf H1 Z1 A)(P:Pin pv τ)(hJ:qf X.K J H1 Z1 ds)(e:cg fg ft fe ds ρ0 []=some r)
  (q:∀τ' H' Z' F' xs,aR X.K H' Z' τ' r.2 F'->Pin pv τ'->H' D=some (.lst xs)->bF X.K H' Z' xs r.1->aH H1 Z1 A H' Z' (F'++[D])->Q H'):nX (vG X.K pv fg) (vT X.K ft) (eApp D (vE X.K fe)) J τ (upd H1 D (.lst [])) Q:=by
 have n0:=aH.pZ (o:=.lst []) hD w.za;exact zm (Q:=λ_=>Q) (S.news n0) P aB .nil (n0.news w S.al) (λH2 Z2 _ f=>hJ.go H2 Z2 (f.grow w)) (λH2 Z2 _ f=>hJ.stop H2 Z2 (f.grow w)) e q
inductive CP(K:AT)(H:Hp)(Z:Zs)(F:List Addr)(H1:Hp)(Z1:Zs)(σ:L2.St)(n:Nat)(js:List Nat)(os:List cR)(ms:List M)(ρh:Ev):Prop
 |mk (τ:L2.St) (A Fh:List Addr):iX (FK n none++js.map some) σ=τ->aR K H1 Z1 τ (FK n none++ms.map some) A->Wf H1 Z1 A->Pin (gA n js σ) τ->aR K H1 Z1 σ ρh Fh->(∀a∈Fh,a∉A) ->
  (∀τ' H2 Z2 ρi F2 G ms',aR K H2 Z2 τ' ρi F2->Pin (gA n js σ) τ'->aH H1 Z1 A H2 Z2 (F2++G)->fin (FK js.length true) ms (ρi.drop n)=some ms'->∃F4,aR K H2 Z2 σ (fP os ms' ρh) F4/\aH H Z F H2 Z2 (F4++G))->CP K H Z F H1 Z1 σ n js os ms ρh
theorem jb{H:Hp}{Z:Zs}{F:List Addr}{H1:Hp}{Z1:Zs}{F1:List Addr}{σ:L2.St}{ρ1:Ev}{n:Nat}{js:List Nat}{os:List cR}{ms:List M}{ρh:Ev}(S1:aR X.K H1 Z1 σ ρ1 F1)(f1:aH H Z F H1 Z1 F1)(e2:caps ρ1 js=some os)(e3:cD os ρ1=some (ms,ρh)):CP X.K H Z F H1 Z1 σ n js os ms ρh:=by
 obtain⟨xs,O1,hxs,hxl⟩:=BK S1 e2;obtain⟨A,Fh,h1,h2,h3,h4⟩:=rz S1 O1 (by rw[EQ]; exact f1.nd) e3
 rw[EQ] at h4;obtain⟨n1,n2,n3⟩:=bA h3;have wA:Wf H1 Z1 A:=⟨n2,λa h=>f1.dz a (h4 a (lR _ h)),f1.za⟩
 have P0:=Ey n js σ;rw[<-hxs] at P0;refine⟨_,A,Fh,by rw[BL,<-hxs],aR.vd h1 n,wA,P0,h2,n3,λτ' H2 Z2 ρi F2 G ms' S2 P2 f2 e5=>?_⟩
 obtain⟨m1,m2,m3⟩:=bA f2.nd;obtain⟨F3,k1,k2,k3⟩:=S2.dropN n m1;obtain⟨A',a1,a2,a3⟩:=tS (vs:=xs) k1 k2 (λi x _ hx=>by
  rw[Kx];refine P2 (n+i) x ?_;unfold gA;rw[if_neg (by lia),show n+i-n=i by lia]
  have hmap:(js.map (slot σ))[i]? = some (some x):=by rw[<-hxs,IC,hx]; rfl
  rw[IC] at hmap;obtain⟨j,hj,hj'⟩:=JF.mp hmap;rw[hj];exact hj') (λi x d h=>by
   have:=IS h;rw[List.mem_replicate] at this;cases this.2) h1.length e5
 have n3':∀a∈A,a∉Fh:=λa h z=>n3 a z h
 have Sh:aR X.K H2 Z2 σ ρh Fh:=h2.mono (f2.grow wA) λa h o e=>f2.keep a o (n3 a h) e
 have fF:=f2.frame (G:=Fh) ⟨aP n2 n1 n3',λa h=>by
  rcases lM h with h | h
  ·exact f1.dz a (h4 a (lR _ h))
  ·exact f1.dz a (h4 a (lL _ h)),f1.za⟩ h2.al
 obtain⟨u1,u2,u3,u4,u5,u6⟩:=Gf fF.nd;obtain⟨F4,p1,p2,p3⟩:=uZ Sh O1 a1 (aP u3 a2 λa h z=>u5 a (k3 a (a3 a z)) h) (ou e3)
 have f4:aH H Z F H1 Z1 (A++Fh):=f1.sub (aP n2 n1 n3') λa h=>h4 a (by
  rcases lM h with h | h
  ·exact lR _ h
  ·exact lL _ h)
 refine⟨F4,p1,(f4.trans fF).sub (aP p2 u2 λa h z=>?_) λa h=>?_⟩
 ·rcases lM (p3 a h) with y | y
  ·exact u6 a z y
  ·exact u4 a (k3 a (a3 a y)) z
 ·rcases lM h with h | h
  ·rcases lM (p3 a h) with y | y
   ·exact lR _ y
   ·exact lL _ (lL _ (k3 a (a3 a y)))
  ·exact lL _ (lR _ h)
theorem jc{n:Nat}{js:List Nat}{fi:FI}{fg:FG}{ft:FT}{fe:FE}{σ:L2.St}{H:Hp}{Q:VK}{fr:List (Option Nat)}(hfr:fr=FK n none++js.map some)(hq:vE X.K (tU n js fi fg ft fe) σ H Q) :
  CJ fr (vI X.K fi) (λ_=>vG X.K (gA n js σ) fg) (λ_=>vT X.K ft) (λ_=>vE X.K fe) σ H Q:=by
 subst hfr;obtain⟨Z,ρ,F,o,ρ',S,w,e,q⟩:=hq;obtain⟨⟨ds,ρ1⟩,e1,e⟩:=oB e;obtain⟨os,e2,e⟩:=oB e;obtain⟨⟨ms,ρh⟩,e3,e⟩:=oB e;obtain⟨⟨acc,ρi⟩,e4,e⟩:=oB e;obtain⟨ms',e5,e⟩:=oB e;cases e;refine⟨Z,ρ,F,ds,ρ1,S,w,e1,λJ H1 Z1 F1 S1 hJ f1 D hD z=>?_⟩
 obtain⟨τ,A,Fh,eτ,S0,wA,P0,h2,n3,back⟩:=jb (n:=n) S1 f1 e2 e3;rw[eτ];refine BN (n:=n) hD S0 wA P0 hJ e4 λτ' H2 Z2 F2 ys S2 P2 d2 z2 f2=>?_
 obtain⟨F4,p1,f4⟩:=back _ _ _ _ _ _ _ S2 P2 f2 e5;exact q (.ref D) H2 Z2 F4 [D] p1 (.t (.lst d2 z2)) f4
theorem ve_lc(n:Nat)(js:List Nat){elt target iter:Expr}{ifs:List Expr}{scope:Scope}{N:List Str}{fr:List (Option Nat)}{pin:List Nat}{fi:FI}{fg:FG}{ft:FT}{fe:FE}(hfr:fr=FK n none++js.map some)(hpin:pin=(Fu js.length).map (n + ·))(hc:X.calm=true)(S:bh X scope N fr)(hi:VI X target iter fi)
  (hin:∀z:Bk,VG (aE X scope z.cl N z.C z.fp z.s z.H) pin target fg/\VF (aE X scope z.cl N z.C z.fp z.s z.H) ifs ft/\VE (aE X scope z.cl N z.C z.fp z.s z.H) elt fe)
  (hs:∀x,IP iter X.env x=pure x:=by intro _; rfl):VE X (.ListComp elt [⟨target,iter,ifs,0⟩] scope pos) (tU n js fi fg ft fe):=λpins s σ H Q I hq=>
 yu (g:=λ_=>vG X.K (gA n js σ) fg) (tt:=λ_=>vT X.K ft) (te:=λ_=>vE X.K fe) hc S hi (λz=>⟨(hin z).1 _ (ja n js σ hpin),(hin z).2.1,(hin z).2.2⟩) hs pins s σ H Q I (jc hfr hq)
end
section
variable{K:AT}{H H0:Hp}{Z Z0:Zs}{F F0:List Addr}{σ:L2.St}{ρ:Ev}
theorem mut1{i:Nat}{m:M}(S:aR K H Z σ ρ F)(f:aH H0 Z0 F0 H Z F)(e:cS ρ i=some m):∃x G,σ[i]? = some (some x)/\Ow K H Z x m G/\∀a o',a∈G->aL H Z (upd H a o') Z/\(∀b∈G,b≠a->∀o,H b=some o->upd H a o' b=some o) /\
  ∀m' G',(∀b∈G',b∈G)->G'.Nodup->Ow K (upd H a o') Z x m' G'->∃F',aR K (upd H a o') Z σ (ρ.set i (some m')) F'/\aH H0 Z0 F0 (upd H a o') Z F':=by
 obtain⟨x,G,F1,t1,t2,t3,t4,t5⟩:=S.take f.nd (aF.mp e);have hl:=(DD.mp (aF.mp e)).1;obtain⟨n1,n2,n3⟩:=bA t4;refine⟨x,G,t1,t2,λa o' ha=>?_⟩
 obtain⟨o,ho,hmu⟩:=t2.mem a ha;have haF:a∈F:=t5 a (lR _ ha);have nz:¬Z a:=f.dz a haF;have ne:∀b,b≠a->upd H a o' b=H b:=λb h=>aC h
 have g:aL H Z (upd H a o') Z:=⟨by
  rcases hmu with⟨xs,rfl⟩ | ⟨kvs,rfl⟩ | ⟨kvs,rfl⟩
  ·exact eB.lst ho
  ·exact eB.dk ho
  ·exact .put ho (λ_ z=>nomatch z) (λ_ _ z=>nomatch z),λb o2 z h=>by rw[ne b λw=>nz (w▸z)]; exact h,λ_ z=>z⟩
 refine⟨g,λb _ h o2 e2=>by rw[ne b h]; exact e2,λm' G' hs nd' h' =>?_⟩
 have S1:aR K (upd H a o') Z σ (ρ.set i none) F1:=t3.mono g λb hb o2 e2=>by
  rw[ne b λw=>n3 b hb (w▸ha)]
  exact e2
 obtain⟨F2,p1,p2,p3⟩:=S1.put h' (aP n1 nd' λb hb z=>n3 b hb (hs b z)) (by rw[JH hl])
 rw[NB,iz t1] at p1;have za:∀b,Z b->upd H a o' b≠none:=λb z=>by
  rw[ne b λw=>nz (w▸z)]
  exact f.za b z
 have f1:aH H Z F (upd H a o') Z F:=⟨λb o2 n h=>by rw[ne b λw=>n (w▸haF)]; exact h,g.tups,λ_ z=>z,λb z=>.inl z,λb h=>.inl h,f.nd,f.dz,za⟩
 refine⟨F2,p1,(f.trans f1).sub p2 λb hb=>?_⟩
 rcases lM (p3 b hb) with y | y
 ·exact t5 b (lL _ y)
 ·exact t5 b (lR _ (hs b y))
end
section
variable{X:Cx}{pos:Pos}{pin:List Nat}
noncomputable def kF(i:Nat)(fa:FA):FE:=λρ=>(cS ρ i).bind λm0=>match m0 with
 |.lst _=>(fa ρ).bind λp=>match p.1 with
  |[o]=>(cU o p.2).bind λq=>(cS q.2 i).bind λm=>match m with
   |.lst ds=>if ds.length<lim then some (.t (.v .none),q.2.set i (some (.lst (ds++[q.1])))) else none
   |_=>none
  |_=>none
 |_=>none
theorem BO{i:Nat}{fa:FA}{σ:L2.St}{H:Hp}{Q:VK}(hq:vE X.K (kF i fa) σ H Q):E9 X.K "list" iw (fm i) (vA X.K fa) σ H Q:=by
 obtain⟨Z,ρ,F,o,ρ',S,w,e,q⟩:=hq;obtain⟨m0,e0,e⟩:=oB e
 split at e
 ·rename_i ds0
  obtain⟨x,G,h1,h2,_⟩:=S.get (aF.mp e0);obtain⟨a,xs0,rfl,ha,_⟩:=(show Ro X.K H Z x (.lst ds0) from⟨G,h2⟩).lst
  refine⟨.ref a,h1,.inl ⟨rfl,_,fB.of ha⟩,?_⟩;obtain⟨⟨os,ρ1⟩,e1,e⟩:=oB e;refine⟨Z,ρ,F,os,ρ1,S,w,e1,λxs H1 Z1 F1 G1 S1 O1 f1=>?_⟩
  rcases os with _ | ⟨o1,_ | ⟨o2,os⟩⟩
  ·cases e
  ·obtain⟨⟨d,ρ2⟩,e2,e⟩:=oB e
   obtain⟨m,e3,e⟩:=oB e
   split at e
   ·rename_i ds
    split at e
    ·rename_i hl
     cases e;cases O1 with
     |cons p1 r1=>
      cases r1;rw[EQ] at f1;obtain⟨Z2,F2,S2,z2,f2,_⟩:=iA S1 p1 f1 e2;obtain⟨x',G',k1,k2,k3⟩:=mut1 S2 f2 e3;rw[h1] at k1; cases k1;cases k2 with
      |lst hb fb=>
       obtain⟨g,_,k4⟩:=k3 a (.lst (_++[_])) lS;obtain⟨F3,S3,f3⟩:=k4 (.lst (ds++[d])) [a] (λ_ h=>h) (IM.mpr ⟨Hm,JL⟩) (.lst aB ((fb.append (.cons z2 .nil)).mono g))
       exact⟨a,_,_,rfl,rfl,hb,iZ (JI (by rw[fb.length]; exact hl)),q .non _ Z2 F3 [] S3 (.t (.v .non)) f3.nil⟩
    ·cases e
   ·cases e
  ·cases e
 ·cases e
theorem Ez(i:Nat){e:Expr}{es:List Expr}{fa:FA}{x:Str}{p1 p2:Pos}(ha:VA X (e::es) fa)(hpe:∀(to:TE)(t:TA),PE X (.Name x p1) to->PA X (e::es) t->PE X (.Call (.Attribute (.Name x p1) "append" p2) (e::es) [] pos) (E9 X.K "list" iw to t))(hv:PE X (.Name x p1) (fm i)):VE X (.Call (.Attribute (.Name x p1) "append" p2) (e::es) [] pos) (kF i fa):=aY (hpe _ _ hv ha) λ_ _ _ hq=>BO hq
inductive vP(K:AT)(f:Ev->Option B2)(σ:L2.St)(H:Hp)(Q:VK):Prop
 |mk (Z:Zs) (ρ:Ev) (F:List Addr) (d:B2):aR K H Z σ ρ F->f ρ=some d->(∀x,Fz K H Z x d->Q x H)->vP K f σ H Q
abbrev VP(X:Cx)(e:Expr)(f:Ev->Option B2):Prop:=PE X e (vP X.K f)
noncomputable def fE(i:Nat):Ev->Option B2:=λρ=>(cS ρ i).bind λm=>match m with
 |.v d=>some d
 |_=>none
theorem EA(i:Nat){x:Str}{p:Pos}(h:PE X (.Name x p) (fm i)):VP X (.Name x p) (fE i):=aY h λσ H Q hq=>by
 obtain⟨Z,ρ,F,d,S,e,q⟩:=hq;obtain⟨m,e1,e⟩:=oB e;obtain⟨x,G,h1,h2,_⟩:=S.get (aF.mp e1)
 split at e
 ·cases e
  cases h2 with
  |v f=>exact⟨x,h1,q x f⟩
 ·cases e
noncomputable def putL(kvs:List (Key×List B2))(k:Key)(d:B2):List (Key×List B2):=kvs.map λp=>if p.1=k then (p.1,p.2++[d]) else p
noncomputable def lZ(i:Nat)(fk fd:Ev->Option B2):FE:=λρ=>(cS ρ i).bind λm=>match m with
 |.bW kvs=>(fk ρ).bind λkd=>(dm kd).bind λk=>(bE kvs k).bind λds=>(fd ρ).bind λd=>if ds.length<lim/\(kvs.map (·.1)).Nodup then some (.t (.v .none),ρ.set i (some (.bW (putL kvs k d)))) else none
 |_=>none
theorem iy.app{K:AT}{H H':Hp}{Z:Zs}{k:Key}{b:Addr}{y:V}{d:B2}(g:aL H Z H' Z):∀{kxs:List (Key×V)}{kvs:List (Key×List B2)}{G:List Addr},iy K H Z kxs kvs G->(kvs.map (·.1)).Nodup->G.Nodup->fS kxs k=some (.ref b)->(∀c∈G,c≠b->∀o,H c=some o->H' c=some o) ->
  (∀xs,H b=some (.lst xs)->H' b=some (.lst (xs++[y])))->Fz K H' Z y d->iy K H' Z kxs (putL kvs k d) G:=by
 intro kxs kvs G r
 induction r with
 |nil=>intro _ _ e; cases e
 |@cons k' b' xs ds kxs kvs G h f r ih=>
  intro nk nG e keep put fy;have nk':=IM.mp (show (k'::kvs.map (·.1)).Nodup from nk)
  have nG':=IM.mp nG;show iy K H' Z _ ((if k'=k then (k',_++[d]) else (k',_))::putL kvs k d) _
  by_cases hk:k'=k
  ·subst hk
   rw[eO rfl] at e;cases e;rw[if_pos rfl];have same:putL kvs k' d=kvs:=by
    unfold putL;rw[IN (g:=id),PB];intro p hp;rw[if_neg λz=>nk'.1 (Hd.mpr ⟨p,hp,z⟩)]
    rfl
   rw[same];exact .cons (put _ h) ((f.mono g).append (.cons fy .nil)) (r.mono g λc hc o ho=>keep c (lO _ hc) (λz=>nG'.1 (z▸hc)) o ho)
  ·rw[if_neg hk]
   rw[eT hk] at e;have hb:b∈G:=by
    clear keep put
    have:∀{kxs:List (Key×V)}{kvs:List (Key×List B2)}{G:List Addr},iy K H Z kxs kvs G->fS kxs k=some (.ref b)->b∈G:=λ{kxs kvs G}r e=>by
     induction r with
     |nil=>cases e
     |cons h f r ih=>
      rename_i k0 b0 _ _ _ _ _
      by_cases h0:k0=k
      ·rw[eO h0] at e; cases e; exact lS
      ·rw[eT h0] at e; exact lO _ (ih e)
    exact this r e
   refine .cons (keep b' lS (λz=>nG'.1 (z▸hb)) _ h) (f.mono g) (ih nk'.2 nG'.2 e (λc hc=>keep c (lO _ hc)) put fy)
theorem iy.uniq{K:AT}{H:Hp}{Z:Zs}{kxs:List (Key×V)}{kvs:List (Key×List B2)}{G G':List Addr}(r:iy K H Z kxs kvs G)(r':iy K H Z kxs kvs G'):G=G':=by
 induction r generalizing G' with
 |nil=>cases r'; rfl
 |cons _ _ _ ih=>cases r' with
  |cons _ _ r2=>rw[ih r2]
theorem zp{i:Nat}{fk fd:Ev->Option B2}{σ:L2.St}{H:Hp}{Q:VK}(hq:vE X.K (lZ i fk fd) σ H Q):E9 X.K "list" iw (yi (fm i) (vP X.K fk)) (CH (vP X.K fd) tNil) σ H Q:=by
 obtain⟨Z,ρ,F,o,ρ',S,w,e,q⟩:=hq;obtain⟨m,e0,e⟩:=oB e
 split at e
 ·rename_i kvs
  obtain⟨kd,e1,e⟩:=oB e;obtain⟨k,e2,e⟩:=oB e;obtain⟨ds,e3,e⟩:=oB e;obtain⟨d,e4,e⟩:=oB e
  split at e
  ·rename_i hl
   cases e;obtain⟨x,G,h1,h2,h3⟩:=mut1 S (aH.refl w) e0;cases h2 with
   |bW ha ol=>
    rename_i a kxs Gl
    refine⟨.ref a,h1,Z,ρ,F,kd,S,e1,λy fy=>?_⟩
    obtain rfl:=dN fy e2;obtain⟨b,xs,z1,z2,z3,z4⟩:=ol.get e3;refine⟨a,.ref b,rfl,z1▸iV.k ha,.inl ⟨rfl,_,fB.of z2⟩,Z,ρ,F,d,S,e4,λv fv=>?_⟩
    obtain⟨g,kp,k4⟩:=h3 b (.lst (xs++[v])) (lO _ z4);have ndG:(a::Gl).Nodup:=by
     obtain⟨x',G',F1,t1,t2,t3,t4,t5⟩:=S.take w.nd (aF.mp e0);rw[h1] at t1; cases t1;cases t2 with
     |bW ha' ol' =>
      rw[ha] at ha'; cases ha';rw[iy.uniq ol ol'];exact(bA t4).2.1
    have nG:=IM.mp ndG;have hab:a≠b:=λz=>nG.1 (z▸z4)
    have ol2:=ol.app (H':=upd H b (.lst (xs++[v]))) (y:=v) g hl.2 nG.2 z1 (λc hc n o ho=>kp c (lO _ hc) n o ho) (λxs' h'=>by rw[z2] at h'; cases h'; exact aB) (fv.mono g)
    obtain⟨F3,S3,f3⟩:=k4 (.bW (putL kvs k d)) (a::Gl) (λ_ h=>h) ndG (.bW (by rw[aC hab]; exact ha) ol2)
    exact⟨b,xs,v,rfl,rfl,z2,iZ (JI (by rw[z3.length]; exact hl.1)),q .non _ Z F3 [] S3 (.t (.v .non)) f3.nil⟩
  ·cases e
 ·cases e
noncomputable def putD(kvs:List (Key×B2))(k:Key)(d:B2):List (Key×B2):=if (kvs.any λkv=>decide (kv.1=k))=true then kvs.map (λkv=>if kv.1=k then (kv.1,d) else kv) else kvs++[(k,d)]
noncomputable def gZ(i:Nat)(fk fe:FE):FS:=λρ=>(fe ρ).bind λp=>(cU p.1 p.2).bind λq=>(cS q.2 i).bind λm0=>match m0 with
 |.v _=>none
 |_=>(fk q.2).bind λr=>(peek r.2 r.1).bind λmk=>(cS r.2 i).bind λm=>match m,mk with
  |.aA kvs,.v kd=>(dm kd).bind λk=>if kvs.length<lim then some (.nx (r.2.set i (some (.aA (putD kvs k q.1))))) else none
  |.lst ds,.v (.int k)=>(qH ds.length k).bind λj=>some (.nx (r.2.set i (some (.lst (ds.set j q.1)))))
  |_,_=>none
theorem BP{K:AT}{H:Hp}{Z:Zs}(k:Key):∀{kxs:List (Key×V)}{kvs:List (Key×B2)},gH K H Z kxs kvs->(kxs.any λkv=>decide (kv.1=k))=(kvs.any λkv=>decide (kv.1=k)):=by
 intro kxs
 induction kxs with
 |nil=>intro kvs h; cases h; rfl
 |cons p kxs ih=>intro kvs h; cases h with | cons _ r=>rw[Jp,Jp,ih r]
theorem qh{K:AT}{H:Hp}{Z:Zs}{y:V}{d:B2}{k:Key}(fy:Fz K H Z y d):∀{kxs:List (Key×V)}{kvs:List (Key×B2)},gH K H Z kxs kvs->gH K H Z (kxs.map λkv=>if kv.1=k then (kv.1,y) else kv) (kvs.map λkv=>if kv.1=k then (kv.1,d) else kv)
 |_,_,.nil=>.nil
 |_,_,.cons (k:=k') h r=>by
  rw[FC,FC]
  by_cases hk:k'=k
  ·simp only[hk,if_true]; exact .cons fy (qh fy r)
  ·simp only[hk,if_false]; exact .cons h (qh fy r)
theorem rB{K:AT}{H:Hp}{Z:Zs}{y:V}{d:B2}{k:Key}(fy:Fz K H Z y d):∀{kxs:List (Key×V)}{kvs:List (Key×B2)},gH K H Z kxs kvs->gH K H Z (kxs++[(k,y)]) (kvs++[(k,d)])
 |_,_,.nil=>.cons fy .nil
 |_,_,.cons h r=>.cons h (rB fy r)
theorem gH.put{K:AT}{H:Hp}{Z:Zs}{y:V}{d:B2}{k:Key}(fy:Fz K H Z y d){kxs:List (Key×V)}{kvs:List (Key×B2)}(r:gH K H Z kxs kvs):gH K H Z (putK kxs k y) (putD kvs k d):=by
 unfold putK putD;rw[BP k r]
 split
 ·exact qh fy r
 ·exact rB fy r
theorem EB{st:Stmt}{t u:TS}(h:PS X st t)(h':PS X st u):PS X st (λD σ H=>t D σ H\/u D σ H):=λpins s σ H D I q=>q.elim (h pins s σ H D I) (h' pins s σ H D I)
theorem Ow.uniq{K:AT}{H:Hp}{Z:Zs}{x:V}{m:M}{A B:List Addr}(r:Ow K H Z x m A)(r':Ow K H Z x m B):A=B:=by
 cases r with
 |v _=>cases r'; rfl
 |lst _ _=>cases r'; rfl
 |aA _ _=>cases r'; rfl
 |dtp _ _ _=>cases r'; rfl
 |bW e r=>
  cases r' with
  |bW e' r' =>
   rw[e] at e'; cases e';rw[iy.uniq r r']
theorem ve{i:Nat}{fk fe:FE}{pv:Pv}{D:Ends}{σ:L2.St}{H:Hp}{Z:Zs}{ρ:Ev}{F:List Addr}{o1 o2:cR}{d:B2}{ρ1 ρ2 ρ3:Ev}{mk m m':M}(S:aR X.K H Z σ ρ F)(w:Wf H Z F)(P:Pin pv σ)(e1:fe ρ=some (o1,ρ1))(e2:cU o1 ρ1=some (d,ρ2))(e4:fk ρ2=some (o2,ρ3))(e5:peek ρ3 o2=some mk)(e6:cS ρ3 i=some m)
  (q:nF X.K pv D H Z F (.nx (ρ3.set i (some m')))) {a:Addr} {m0:M} (e3:cS ρ2 i=some m0) (hm0:∀d,m0≠.v d)
  (R:V->V->V->Hp->Prop) (hR:∀H3 Z3 x v k,Ro X.K H3 Z3 x m->Fz X.K H3 Z3 v d->Ro X.K H3 Z3 k mk->(∀G,Ow X.K H3 Z3 x m G->∀a o',a∈G->(aL H3 Z3 (upd H3 a o') Z3->Ow X.K (upd H3 a o') Z3 x m' G)->D.nx σ (upd H3 a o'))->R x v k H3) :
  vE X.K fe σ H λv H1=>fm i σ H1 λx H2=>vE X.K fk σ H2 λk H3=>R x v k H3:=by
 refine⟨Z,ρ,F,o1,ρ1,S,w,e1,λv H1 Z1 F1 G1 S1 O1 f1=>?_⟩
 obtain⟨Z2,F2,S2,z2,f2,_⟩:=iA S1 O1 f1 e2;obtain⟨x,G,h1,h2,_⟩:=S2.get (aF.mp e3);refine⟨x,h1,Z2,ρ2,F2,o2,ρ3,S2,f2.wf,e4,λk H3 Z3 F3 G3 S3 O3 f3=>?_⟩
 have f4:=f2.trans f3.left;obtain⟨x',G',k1,k2,k3⟩:=mut1 S3 f4 e6;rw[h1] at k1; cases k1;refine hR H3 Z3 x v k ⟨G',k2⟩ (z2.mono (f3.grow f2.wf)) (O3.peek S3 e5) λG2 hG a o' ha hk=>?_
 have eG:G2=G':=by
  exact Ow.uniq hG k2
 subst eG;obtain⟨g,_,k4⟩:=k3 a o' ha;have ndG:G2.Nodup:=by
  obtain⟨x2,G3',F1',t1,t2,t3,t4,t5⟩:=S3.take f4.nd (aF.mp e6);rw[h1] at t1; cases t1;rw[Ow.uniq k2 t2];exact(bA t4).2.1
 obtain⟨F5,S5,f5⟩:=k4 m' G2 (λ_ h=>h) ndG (hk g)
 exact q σ _ Z3 F5 S5 f5 P
theorem BQ{i:Nat}{fk fe:FE}{pv:Pv}{D:Ends}{σ:L2.St}{H:Hp}(hq:vS X.K pv (gZ i fk fe) D σ H):uK (fm i) (vE X.K fk) (vE X.K fe) D σ H\/ng (vE X.K fe) (xR (fm i) (vE X.K fk) qI) D σ H:=by
 obtain⟨Z,ρ,F,o,S,w,P,e,q⟩:=hq;obtain⟨⟨o1,ρ1⟩,e1,e⟩:=oB e;obtain⟨⟨d,ρ2⟩,e2,e⟩:=oB e;obtain⟨m0,e3,e⟩:=oB e;have main:(∀d,m0≠.v d)->((fk ρ2).bind λr=>(peek r.2 r.1).bind λmk=>(cS r.2 i).bind λm=>match m,mk with
  |.aA kvs,.v kd=>(dm kd).bind λk=>if kvs.length<lim then some (Out.nx (r.2.set i (some (.aA (putD kvs k d))))) else none
  |.lst ds,.v (.int k)=>(qH ds.length k).bind λj=>some (.nx (r.2.set i (some (.lst (ds.set j d)))))
  |_,_=>none)=some o->uK (fm i) (vE X.K fk) (vE X.K fe) D σ H\/ng (vE X.K fe) (xR (fm i) (vE X.K fk) qI) D σ H:=λhm0 e=>by
  obtain⟨⟨o2,ρ3⟩,e4,e⟩:=oB e;obtain⟨mk,e5,e⟩:=oB e;obtain⟨m,e6,e⟩:=oB e
  split at e
  ·rename_i kvs kd
   obtain⟨k,e7,e⟩:=oB e
   split at e
   ·rename_i hl
    injection e with e
    subst e;refine .inl (ve (a:=0) S w P e1 e2 e4 e5 e6 q e3 hm0 _ λH3 Z3 x v y hx hv hy fin=>?_)
    obtain⟨G,hG⟩:=hx;cases hG with
    |aA ha fk' =>
     obtain rfl:=dN hy.fz e7;exact⟨_,_,rfl,qL.k ha (iZ (JI (by rw[fk'.length]; exact hl))),fin _ (.aA ha fk') _ _ lS λg=>.aA aB (gH.put (hv.mono g) (fk'.mono g))⟩
   ·cases e
  ·rename_i ds k
   obtain⟨j,e7,e⟩:=oB e
   injection e with e
   subst e;refine .inr (ve (a:=0) S w P e1 e2 e4 e5 e6 q e3 hm0 _ λH3 Z3 x v y hx hv hy fin=>?_)
   obtain⟨G,hG⟩:=hx;cases hG with
   |lst ha fs=>
    obtain rfl:=hy.int;exact⟨_,_,_,j,rfl,rfl,ha,by rw[fs.length]; exact e7,fin _ (.lst ha fs) _ _ lS λg=>.lst aB ((fs.mono g).set j (hv.mono g))⟩
  ·cases e
 cases m0 with
 |v d=>cases e
 |lst _=>exact main (λ_ z=>nomatch z) e
 |aA _=>exact main (λ_ z=>nomatch z) e
 |bW _=>exact main (λ_ z=>nomatch z) e
 |dtp _=>exact main (λ_ z=>nomatch z) e
theorem EC(i:Nat){o k e:Expr}{fk fe:FE}{pos':Pos}(hu:X.A.units+64<cLine)(ho:PE X o (fm i))(hk:VE X k fk)(he:VE X e fe)(hs:K6 e (some (.Subscript o k pos')) pos.line X.env=pure false)
  (hps:∀(te:TE)(t:TG),PE X e te->PG X (.Subscript o k pos') t->PS X (.Assign [.Subscript o k pos'] e pos) (ng te t)) (hpg:∀to ti:TE,PE X o to->PE X k ti->PG X (.Subscript o k pos') (xR to ti qI)):VS X pin (.Assign [.Subscript o k pos'] e pos) (gZ i fk fe):=λpv hp=>
 eV (EB (uM (by lia) ho hk he hs) (hps _ _ he (hpg _ _ ho hk))) λ_ _ _ hq=>BQ hq
end
section
variable{X:Cx}{pos:Pos}{pin:List Nat}
theorem vf{i:Nat}{f:FE}{pv:Pv}{D:Ends}{σ:L2.St}{H:Hp}(hp:CO pv pin)(hp0:i∉pin)(hq:vS X.K pv (bM i f) D σ H):vE X.K f σ H λx H1=>D.nx (σ.set i (some x)) H1:=by
 obtain⟨Z,ρ,F,o,S,w,P,e,q⟩:=hq;obtain⟨⟨o1,ρ1⟩,e1,e⟩:=oB e;obtain⟨⟨m,ρ2⟩,e2,e⟩:=oB e;obtain⟨ρ3,e3,e⟩:=oB e;cases e;refine⟨Z,ρ,F,o1,ρ1,S,w,e1,λy H1 Z1 F1 G1 S1 O1 f1=>?_⟩
 obtain⟨Z2,F2,G2,h1,h2,h3⟩:=moved S1 O1 f1 e2;obtain⟨F3,k1,k2,k3⟩:=h1.gc h2 h3.nd e3;exact q _ H1 Z2 F3 k1 (h3.sub k2 k3) (P.set hp hp0)
theorem ED{i:Nat}{x:Str}(n:Nat)(js:List Nat){elt target iter:Expr}{ifs:List Expr}{scope:Scope}{N:List Str}{fr:List (Option Nat)}{pinI:List Nat}{fi:FI}{fg:FG}{ft:FT}{fe:FE}{pos' spos:Pos}(hp0:i∉pin)(hN:X.N.Nodup)(hi':X.N[i]? = some x)(hx:X.env.scope.names.lookup x=some .local)
  (hfr:fr=FK n none++js.map some) (hpin:pinI=(Fu js.length).map (n + ·)) (hc:X.calm=true) (S:bh X scope N fr) (hi:VI X target iter fi)
  (hin:∀z:Bk,VG (aE X scope z.cl N z.C z.fp z.s z.H) pinI target fg/\VF (aE X scope z.cl N z.C z.fp z.s z.H) ifs ft/\VE (aE X scope z.cl N z.C z.fp z.s z.H) elt fe)
  (hs:∀x,IP iter X.env x=pure x:=by intro _; rfl) (hsw:K6 (.ListComp elt [⟨target,iter,ifs,0⟩] scope pos) (some (.Name x pos')) spos.line X.env=pure true:=by rfl) :
  VS X pin (.Assign [.Name x pos'] (.ListComp elt [⟨target,iter,ifs,0⟩] scope pos) spos) (bM i (tU n js fi fg ft fe)):=λpv hp pins s σ H D I hq=>
 DS (g:=λ_=>vG X.K (gA n js σ) fg) (tt:=λ_=>vT X.K ft) (te:=λ_=>vE X.K fe) hN hi' hx hc S hi (λz=>⟨(hin z).1 _ (ja n js σ hpin),(hin z).2.1,(hin z).2.2⟩) hs hsw pins s σ H D I (jc hfr (vf hp hp0 hq))
theorem aH.fP{H0 H:Hp}{Z0 Z:Zs}{F0 A:List Addr}{D:Addr}{o o':HO}(f:aH H0 Z0 F0 H Z A)(hD:D∈A)(e:H D=some o)(hn:∀u,o≠.tup u)(hf:∀x u,o≠.frz x u):aH H0 Z0 F0 (upd H D o') Z A/\aL H Z (upd H D o') Z:=by
 have nz:¬Z D:=f.dz D hD;have keep:∀a o2,a≠D->H a=some o2->upd H D o' a=some o2:=λa o2 n h=>by rw[aC n]; exact h
 have za:∀a,Z a->upd H D o' a≠none:=λa z=>by
  have hne:a≠D:=λh=>nz (h▸z)
  rw[aC hne];exact f.za a z
 have g:aL H Z (upd H D o') Z:=⟨eB.put e hn hf,λa o2 z h=>keep a o2 (λw=>nz (w▸z)) h,λ_ z=>z⟩
 exact⟨f.trans ⟨λa o2 n h=>keep a o2 (λw=>n (w▸hD)) h,g.tups,λ_ z=>z,λa z=>.inl z,λa h=>.inl h,f.nd,f.dz,za⟩,g⟩
def Acc(K:AT)(H:Hp)(Z:Zs)(D:Addr):M->List Addr->Prop
 |.aA kvs,G=>G=[D]/\∃kxs,H D=some (.dK kxs)/\gH K H Z kxs kvs
 |.bW kvs,G=>∃Gl kxs,G=D::Gl/\H D=some (.dK kxs)/\iy K H Z kxs kvs Gl
 |_,_=>False
noncomputable def zq(k:Key):M->cR->Ev->Option (M×Ev)
 |.bW kvs,.t (.lst ds),ρ=>if (kvs.any λp=>decide (p.1=k))=false/\kvs.length<lim then some (.bW (kvs++[(k,ds)]),ρ) else none
 |.aA kvs,o,ρ=>if kvs.length<lim then (cU o ρ).bind λq=>some (.aA (putD kvs k q.1),q.2) else none
 |_,_,_=>none
noncomputable def kr(fg:FG)(ft:FT)(fk fv:FE):List B2->Ev->M->Option (M×Ev)
 |[],ρ,acc=>some (acc,ρ)
 |d::ds,ρ,acc=>(fg d ρ).bind λρ1=>(ft ρ1).bind λt=>if t.1=true then
  (fk t.2).bind λp=>match p.1 with
   |.t (.v kd)=>(dm kd).bind λk=>(fv p.2).bind λr=>(zq k acc r.1 r.2).bind λa=>kr fg ft fk fv ds a.2 a.1
   |_=>none
  else kr fg ft fk fv ds t.2 acc
noncomputable def Fe(lists:Bool)(n:Nat)(js:List Nat)(fi:FI)(fg:FG)(ft:FT)(fk fv:FE):FE:=λρ=>(fi ρ).bind λp=>(caps p.2 js).bind λos=>(cD os p.2).bind λq=>
 (kr fg ft fk fv p.1 (FK n none++q.1.map some) (if lists then .bW [] else .aA [])).bind λr=>(fin (FK js.length true) q.1 (r.2.drop n)).bind λms'=>some (.t r.1,fP os ms' q.2)
theorem zu{K:AT}{H:Hp}{Z:Zs}{k:Key}{b:Addr}{xs:List V}{ds:List B2}(h:H b=some (.lst xs))(f:bF K H Z xs ds):∀{kxs:List (Key×V)}{kvs:List (Key×List B2)}{G:List Addr},iy K H Z kxs kvs G->iy K H Z (kxs++[(k,.ref b)]) (kvs++[(k,ds)]) (G++[b]):=by
 intro kxs kvs G r
 induction r with
 |nil=>exact .cons h f .nil
 |cons h' f' r ih=>exact .cons h' f' ih
theorem vg{K:AT}{H:Hp}{Z:Zs}(k:Key):∀{kxs:List (Key×V)}{kvs:List (Key×List B2)}{G:List Addr},iy K H Z kxs kvs G->(kxs.any λkv=>decide (kv.1=k))=(kvs.any λkv=>decide (kv.1=k))
 |_,_,_,.nil=>rfl
 |_,_,_,.cons _ _ r=>by rw[Jp,Jp,vg k r]
theorem Acc.mem{K:AT}{H:Hp}{Z:Zs}{D:Addr}{m:M}{G:List Addr}(h:Acc K H Z D m G):D∈G/\(∃kxs,H D=some (.dK kxs))/\∀a∈G,H a≠none:=by
 cases m with
 |aA kvs=>
  obtain⟨rfl,kxs,e,_⟩:=h;exact⟨lS,⟨kxs,e⟩,λa ha z=>by rw[D1.mp ha,e] at z; cases z⟩
 |bW kvs=>
  obtain⟨Gl,kxs,rfl,e,r⟩:=h;refine⟨lS,⟨kxs,e⟩,λa ha z=>?_⟩
  rcases lK ha with ha | ha
  ·rw[ha,e] at z; cases z
  ·obtain⟨o,q,_⟩:=r.mem a ha; rw[q] at z; cases z
 |v _=>exact h.elim
 |lst _=>exact h.elim
 |dtp _=>exact h.elim
theorem Acc.mono{K:AT}{H H':Hp}{Z Z':Zs}{D:Addr}{m:M}{G:List Addr}(g:aL H Z H' Z')(h:Acc K H Z D m G)(k:∀a∈G,∀o,H a=some o->H' a=some o):Acc K H' Z' D m G:=by
 cases m with
 |aA kvs=>
  obtain⟨rfl,kxs,e,r⟩:=h;exact⟨rfl,kxs,k D lS _ e,r.mono g⟩
 |bW kvs=>
  obtain⟨Gl,kxs,rfl,e,r⟩:=h;exact⟨Gl,kxs,rfl,k D lS _ e,r.mono g λa ha=>k a (lO _ ha)⟩
 |v _=>exact h.elim
 |lst _=>exact h.elim
 |dtp _=>exact h.elim
theorem Acc.ow{K:AT}{H:Hp}{Z:Zs}{D:Addr}{m:M}{G:List Addr}(h:Acc K H Z D m G):Ow K H Z (.ref D) m G:=by
 cases m with
 |aA kvs=>obtain⟨rfl,kxs,e,r⟩:=h; exact .aA e r
 |bW kvs=>obtain⟨Gl,kxs,rfl,e,r⟩:=h; exact .bW e r
 |v _=>exact h.elim
 |lst _=>exact h.elim
 |dtp _=>exact h.elim
theorem Acc.add{K:AT}{H H0:Hp}{Z Z0:Zs}{D:Addr}{m m':M}{G Gy F F0:List Addr}{k:Key}{o:cR}{ρ ρ':Ev}{σ:L2.St}{y:V}(S:aR K H Z σ ρ F)(O:mY K H Z σ y o Gy)(h:Acc K H Z D m G)(f:aH H0 Z0 F0 H Z (F++Gy++G))(e:zq k m o ρ=some (m',ρ')) :
  ∃kxs,H D=some (.dK kxs)/\kxs.length<FV/\∃Z' F' G',aR K (upd H D (.dK (putK kxs k y))) Z' σ ρ' F'/\Acc K (upd H D (.dK (putK kxs k y))) Z' D m' G'/\aH H0 Z0 F0 (upd H D (.dK (putK kxs k y))) Z' (F'++G'):=by
 obtain⟨n1,n2,n3,s1,s2,s3⟩:=Gf f.nd;cases m with
 |aA kvs=>
  obtain⟨rfl,kxs,eD,r⟩:=h;have e:(if kvs.length<lim then (cU o ρ).bind λq=>some (M.aA (putD kvs k q.1),q.2) else none)=some (m',ρ'):=by
   cases o <;> exact e
  split at e
  ·rename_i hl
   obtain⟨⟨d,ρ2⟩,e2,e⟩:=oB e;cases e;obtain⟨Z2,F2,S2,y2,f2,g2⟩:=freeze S O f e2;have hDm:D∈F2++[D]:=lR _ lS;obtain⟨f3,g3⟩:=f2.fP (o':=.dK (putK kxs k y)) hDm eD (λ_ z=>nomatch z) (λ_ _ z=>nomatch z)
   refine⟨kxs,eD,iZ (JI (by rw[r.length]; exact hl)),Z2,F2,[D],S2.mono g3 λa ha o2 e3=>?_,⟨rfl,_,aB,gH.put (y2.mono g3) ((r.mono g2).mono g3)⟩,f3⟩
   have hne:a≠D:=λz=>(bA f2.nd).2.2 a ha (by rw[z]; exact lS)
   rw[aC hne]; exact e3
  ·cases e
 |bW kvs=>
  obtain⟨Gl,kxs,rfl,eD,r⟩:=h;cases o with
  |t m0=>
   cases m0 with
   |lst ds=>
    have e:(if (kvs.any λp=>decide (p.1=k))=false/\kvs.length<lim then some (M.bW (kvs++[(k,ds)]),ρ) else none)=some (m',ρ'):=e
    split at e
    ·rename_i hl
     cases e;cases O with
     |t ow=>
      cases ow with
      |lst hb fb=>
       rename_i b xs
       have hDm:D∈F++[b]++(D::Gl):=lR _ lS;obtain⟨f3,g3⟩:=f.fP (o':=.dK (putK kxs k (.ref b))) hDm eD (λ_ z=>nomatch z) (λ_ _ z=>nomatch z)
       have hbD:b≠D:=λz=>s3 b lS (by rw[z]; exact lS)
       have nG:=IM.mp n3;have hput:putK kxs k (.ref b)=kxs++[(k,.ref b)]:=by
        unfold putK;rw[vg k r,hl.1];rfl
       refine⟨kxs,eD,iZ (JI (by rw[r.length]; exact hl.2)),Z,F,D::(Gl++[b]),S.mono g3 λa ha o2 e3=>?_,⟨Gl++[b],_,rfl,aB,?_⟩,f3.sub (aP n1 (IM.mpr ⟨λz=>?_,aP nG.2 n2 λa ha z=>s3 a z (lO _ ha)⟩) λa ha z=>?_) λa ha=>?_⟩
       ·have hne:a≠D:=λz=>s2 a ha (by rw[z]; exact lS)
        rw[aC hne]; exact e3
       ·rw[hput]
        refine zu (by rw[aC hbD]; exact hb) (fb.mono (hput▸g3)) (r.mono (hput▸g3) λa ha o2 e3=>?_)
        have hne:a≠D:=λz=>nG.1 (z▸ha)
        rw[aC hne]; exact e3
       ·rcases lM z with z | z
        ·exact nG.1 z
        ·exact hbD (D1.mp z).symm
       ·rcases lK z with z | z
        ·exact s2 a ha (by rw[z]; exact lS)
        rcases lM z with z | z
        ·exact s2 a ha (lO _ z)
        ·exact s1 a ha z
       ·rcases lM ha with ha | ha
        ·exact lL _ (lL _ ha)
        rcases lK ha with ha | ha
        ·exact lR _ (by rw[ha]; exact lS)
        rcases lM ha with ha | ha
        ·exact lR _ (lO _ ha)
        ·exact lL _ (lR _ ha)
    ·cases e
   |_=>cases e
  |_=>cases e
 |v _=>exact h.elim
 |lst _=>exact h.elim
 |dtp _=>exact h.elim
theorem BR{pv:Pv}{fg:FG}{ft:FT}{fk fv:FE}{J:It}{ds:List B2}{D:Addr}{τ:L2.St}{H1:Hp}{Z1:Zs}{A:List Addr}{ρ0:Ev}{m0:M}{r:M×Ev}{Q:Hp->Prop}(hD:H1 D=none)(S:aR X.K H1 Z1 τ ρ0 A)(w:Wf H1 Z1 A)(P:Pin pv τ)(hJ:qf X.K J H1 Z1 ds)(hm0:Acc X.K (upd H1 D (.dK [])) Z1 D m0 [D])(e:kr fg ft fk fv ds ρ0 m0=some r)
  (q:∀τ' H' Z' F' G',aR X.K H' Z' τ' r.2 F'->Pin pv τ'->Acc X.K H' Z' D r.1 G'->aH H1 Z1 A H' Z' (F'++G')->Q H'):nX (vG X.K pv fg) (vT X.K ft) (ePut D (vE X.K fk) (vE X.K fv)) J τ (upd H1 D (.dK [])) Q:=by
 have n0:=aH.pZ (o:=.dK []) hD w.za;refine rA (tem:=λσ H R=>ePut D (vE X.K fk) (vE X.K fv) σ H (R σ)) (Q:=λ_=>Q) (λH Z m G=>Acc X.K H Z D m G) (λds ρ acc=>kr fg ft fk fv ds ρ acc=some r) (λds ρ acc=>((fk ρ).bind λp=>match p.1 with
    |.t (.v kd)=>(dm kd).bind λk=>(fv p.2).bind λr=>(zq k acc r.1 r.2).bind λa=>kr fg ft fk fv ds a.2 a.1
    |_=>none)=some r) (λa g k=>Acc.mono g a k) (λa=>a.mem.2.2) (λd ds ρ acc e=>?_) (S.news n0) P hm0 (n0.news w S.al) e (λH2 Z2 _ f=>hJ.go H2 Z2 (f.grow w)) (λH2 Z2 _ f=>hJ.stop H2 Z2 (f.grow w)) (λds' τ H Z ρ F G acc e S P a f N hN=>?_) λτ' H' Z' ρ' F' G' acc' S P a f e=>?_
 ·obtain⟨ρ3,e3,e⟩:=oB e
  obtain⟨⟨b,ρ4⟩,e4,e⟩:=oB e;exact⟨ρ3,b,ρ4,e3,e4,λh=>by subst h; exact e,λh=>by subst h; exact e⟩
 ·obtain⟨⟨o5,ρ5⟩,e5,e2⟩:=oB e
  split at e2
  ·rename_i kd hko
   have hko:o5=.t (.v kd):=hko;subst hko;obtain⟨k,e6,e2⟩:=oB e2;obtain⟨⟨o7,ρ7⟩,e7,e2⟩:=oB e2;obtain⟨⟨acc',ρ8⟩,e8,e2⟩:=oB e2;refine⟨Z,ρ,F,_,ρ5,S,f.left.wf,e5,λy H5 Z5 F5 G5 S5 O5 g5=>?_⟩
   have yk:y=kV k:=by
    cases O5 with
    |t ow=>cases ow with
     |v fy=>exact dN fy e6
   have f5:=f.trans (g5.left.frame f.wf a.mem.2.2);have a5:=Acc.mono (g5.grow f.left.wf) a λa h o e=>g5.keep a o (λz=>(bA f.nd).2.2 a z h) e
   refine⟨Z5,ρ5,F5,o7,ρ7,S5,f5.left.wf,e7,λv H7 Z7 F7 G7 S7 O7 g7=>?_⟩
   have a7:=Acc.mono (g7.grow f5.left.wf) a5 λa h o e=>g7.keep a o (λz=>(bA f5.nd).2.2 a z h) e
   obtain⟨kxs,eD,hsz,Z8,F8,G8,S8,a8,f8⟩:=a7.add S7 O7 (f5.trans (g7.frame f5.wf a5.mem.2.2)) e8;exact⟨kxs,k,yk,eD,hsz,hN τ _ Z8 ρ8 F8 G8 acc' S8 P a8 f8 e2⟩
  ·cases e2
 ·cases e
  exact q τ' H' Z' F' G' S P a f
end
section
variable{X:Cx}{pos:Pos}{pin:List Nat}
theorem EE{b:Bool}{n:Nat}{js:List Nat}{fi:FI}{fg:FG}{ft:FT}{fk fv:FE}{σ:L2.St}{H:Hp}{Q:VK}{fr:List (Option Nat)}(hfr:fr=FK n none++js.map some)(hq:vE X.K (Fe b n js fi fg ft fk fv) σ H Q) :
  Hi fr (vI X.K fi) (λ_=>vG X.K (gA n js σ) fg) (λ_=>vT X.K ft) (λ_=>vE X.K fk) (λ_=>vE X.K fv) σ H Q:=by
 subst hfr;obtain⟨Z,ρ,F,o,ρ',S,w,e,q⟩:=hq;obtain⟨⟨ds,ρ1⟩,e1,e⟩:=oB e;obtain⟨os,e2,e⟩:=oB e;obtain⟨⟨ms,ρh⟩,e3,e⟩:=oB e;obtain⟨⟨acc,ρi⟩,e4,e⟩:=oB e;obtain⟨ms',e5,e⟩:=oB e;cases e;refine⟨Z,ρ,F,ds,ρ1,S,w,e1,λJ H1 Z1 F1 S1 hJ f1 D hD z=>?_⟩
 obtain⟨τ,A,Fh,eτ,S0,wA,P0,h2,n3,back⟩:=jb (n:=n) S1 f1 e2 e3;rw[eτ];have hm0:Acc X.K (upd H1 D (.dK [])) Z1 D (if b=true then .bW [] else .aA []) [D]:=by
  cases b with
  |true=>exact⟨[],[],rfl,aB,.nil⟩
  |false=>exact⟨rfl,[],aB,.nil⟩
 refine BR hD S0 wA P0 hJ hm0 e4 λτ' H2 Z2 F2 G2 S2 P2 d2 f2=>?_
 obtain⟨F4,p1,f4⟩:=back _ _ _ _ _ _ _ S2 P2 f2 e5;exact q (.ref D) H2 Z2 F4 G2 p1 (.t d2.ow) f4
theorem ve_dc(b:Bool)(n:Nat)(js:List Nat){ek ev target iter:Expr}{ifs:List Expr}{scope:Scope}{N:List Str}{fr:List (Option Nat)}{pin:List Nat}{fi:FI}{fg:FG}{ft:FT}{fk fv:FE}(hfr:fr=FK n none++js.map some)(hpin:pin=(Fu js.length).map (n + ·))(hc:X.calm=true)(S:bh X scope N fr)(hi:VI X target iter fi)
  (hin:∀z:Bk,VG (aE X scope z.cl N z.C z.fp z.s z.H) pin target fg/\VF (aE X scope z.cl N z.C z.fp z.s z.H) ifs ft/\VE (aE X scope z.cl N z.C z.fp z.s z.H) ek fk/\VE (aE X scope z.cl N z.C z.fp z.s z.H) ev fv)
  (hs:∀x,IP iter X.env x=pure x:=by intro _; rfl):VE X (.DictComp ek ev [⟨target,iter,ifs,0⟩] scope pos) (Fe b n js fi fg ft fk fv):=λpins s σ H Q I hq=>
 pe_dc (g:=λ_=>vG X.K (gA n js σ) fg) (tt:=λ_=>vT X.K ft) (tk:=λ_=>vE X.K fk) (tv:=λ_=>vE X.K fv) hc S hi (λz=>⟨(hin z).1 _ (ja n js σ hpin),(hin z).2.1,(hin z).2.2.1,(hin z).2.2.2⟩) hs pins s σ H Q I (EE hfr hq)
end
structure WE(X:Cx)(e:Expr)(f:FE):Prop where
 h:VE X e f
structure WA(X:Cx)(e:List Expr)(f:FA):Prop where
 h:VA X e f
structure WT(X:Cx)(e:Expr)(f:FT):Prop where
 h:VT X e f
structure WW(X:Cx)(e:Expr)(f:FT):Prop where
 h:VW X e f
structure WO(X:Cx)(e:Option Expr)(f:FO):Prop where
 h:PO X e (vO X.K f)
structure WI(X:Cx)(tg e:Expr)(f:FI):Prop where
 h:VI X tg e f
structure WG(X:Cx)(pin:List Nat)(tg:Expr)(f:FG):Prop where
 h:VG X pin tg f
structure GB(X:Cx)(pin:List Nat)(tg:List Expr)(f:wV):Prop where
 h:Gg X pin tg f
structure WF(X:Cx)(e:List Expr)(f:FT):Prop where
 h:VF X e f
structure WP(X:Cx)(e:Expr)(f:Ev->Option B2):Prop where
 h:VP X e f
structure WS(X:Cx)(pin:List Nat)(st:Stmt)(f:FS):Prop where
 h:VS X pin st f
structure BS(X:Cx)(pin:List Nat)(st:List Stmt)(f:FS):Prop where
 h:AF X pin st f
section
variable{X:Cx}{pos:Pos}{pin:List Nat}
theorem wv(i:Nat){x:Str}{pos:Pos}(hN:X.N[i]? = some x:=by rfl)(hv:AH X.env.scope x:=by first | exact IL rfl | exact KZ (IL rfl) | exact KZ (KZ rfl))(hd:(x == ("__debug__" : Str))=false:=by decide)
  (hcd:(x == ("__classdict__" : Str))=false:=by decide):WE X (.Name x pos) (aa i):=⟨vv i hN hv hd hcd⟩
theorem GC(i:Nat){x:Str}{pos:Pos}(hN:X.N[i]? = some x:=by rfl)(hv:AH X.env.scope x:=by first | exact IL rfl | exact KZ (IL rfl) | exact KZ (KZ rfl))(hd:(x == ("__debug__" : Str))=false:=by decide)
  (hcd:(x == ("__classdict__" : Str))=false:=by decide):WP X (.Name x pos) (fE i):=⟨EA i (sI hN hv hd hcd)⟩
theorem ak{i j pos}:WE X (.Constant (.int i) j pos) (vC (.int i)):=⟨DV⟩
theorem l0{i j pos}:WE X (.Constant (.bool i) j pos) (vC (.bool i)):=⟨ve_bl⟩
theorem aN{op:N2}{a b:Expr}{g:M->M->Option M}{fa fb:FE}(ho:ef X (Jq op) (rM X.K g))(ha:WE X a fa)(hb:WE X b fb):WE X (.BinOp a op b pos) (vB g fa fb):=⟨ve_op rM_v ho ha.h hb.h⟩
theorem qi{op:CmpOp}{a b:Expr}{g:M->M->Option M}{fa fb:FE}(ho:ef X (IZ op) (rM X.K g))(ha:WE X a fa)(hb:WE X b fb)(hm:J5 op b=false):WE X (.Compare a [op] [b] pos) (vB g fa fb):=⟨DW rM_v ho ha.h hb.h hm⟩
theorem bH{op:CmpOp}{a b:Expr}{g:M->M->Option M}{fa fb:FE}(ho:ef X (IZ op) (rM X.K g))(ha:WE X a fa)(hb:WE X b fb)(hm:J5 op b=false):WT X (.Compare a [op] [b] pos) (aG (vB g fa fb)):=⟨DZ rM_v ho ha.h hb.h hm⟩
theorem zw{a b:Expr}{fa fb:FE}(hu:X.A.units+64<cLine)(ha:WE X a fa)(hb:WE X b fb)(hm:J5 .In b=false:=by rfl):WT X (.Compare a [.In] [b] pos) (aG (vB (kL false) fa fb)):=⟨vt_in hu ha.h hb.h hm⟩
theorem rC{a b:Expr}{fa fb:FE}(hu:X.A.units+64<cLine)(ha:WE X a fa)(hb:WE X b fb)(hm:J5 .NotIn b=false:=by rfl):WT X (.Compare a [.NotIn] [b] pos) (aG (vB (kL true) fa fb)):=⟨yU hu ha.h hb.h hm⟩
theorem qj{e:Expr}{f:FE}(h:WE X e f)(he:∀whole,Om e X.env whole=(do let v <-whole; MY e.pos; LX [v] (truthy v)):=by intro _; rfl):WT X e (p9 f):=⟨Eb h.h he⟩
theorem tV{a:Expr}{f:FT}(h:WT X a f):WT X (.UnaryOp .Not a pos) (pW f):=⟨D0 h.h⟩
theorem iO{e:Expr}{f:FT}(h:WW X e f):WT X e f:=⟨PW.pt h.h⟩
theorem kM{a:Expr}{f:FT}(h:WT X a f):WW X (.BoolOp .And [a] pos) f:=⟨Br h.h⟩
theorem jS{a:Expr}{f:FT}(h:WT X a f):WW X (.BoolOp .Or [a] pos) f:=⟨D3 h.h⟩
theorem jT{a b:Expr}{rest:List Expr}{f g:FT}(h:WT X a f)(h':WW X (.BoolOp .And (b::rest) pos) g):WW X (.BoolOp .And (a::b::rest) pos) (fu f g):=⟨D4 h.h h'.h⟩
theorem mh{a b:Expr}{rest:List Expr}{f g:FT}(h:WT X a f)(h':WW X (.BoolOp .Or (b::rest) pos) g):WW X (.BoolOp .Or (a::b::rest) pos) (qy f g):=⟨vw_or h.h h'.h⟩
theorem zz{a b:Expr}{rest:List Expr}{fa fb:FE}(ha:WE X a fa)(hb:WE X (.BoolOp .And (b::rest) pos) fb):WE X (.BoolOp .And (a::b::rest) pos) (qW fa fb):=⟨D5 ha.h hb.h⟩
theorem EF{op a}{f:FE}(h:WE X a f):WE X (.BoolOp op [a] pos) f:=⟨D6 h.h⟩
theorem EG{a:Expr}{fa:FE}(ha:WE X a fa):WE X (.UnaryOp .Not a pos) (uT fa):=⟨D7 ha.h⟩
theorem jU:WA X [] fY:=⟨DX⟩
theorem ai{a:Expr}{fa:FE}(ha:WE X a fa)(hs:Fa [a] X.env=[(false,eval a X.env)]:=by rfl):WA X [a] (af fa):=⟨DY ha.h hs⟩
theorem av{a:Expr}{as:List Expr}{fa:FE}{fr:FA}(ha:WE X a fa)(hr:WA X as fr)(hs:Fa (a::as) X.env=(false,eval a X.env)::Fa as X.env:=by rfl):WA X (a::as) (aj fa fr):=⟨Bq ha.h hr.h hs⟩
noncomputable def tW(ns:List Int):FA:=λρ=>some (ns.map λn=>.t (.v (.int n)),ρ)
theorem oz{K:AT}{H:Hp}{Z:Zs}{σ:L2.St}:∀ns:List Int,jz K H Z σ (ns.map V.int) (ns.map λn=>.t (.v (.int n))) []
 |[]=>.nil
 |n::ns=>.cons (G:=[]) (.t (.v (.int n))) (oz ns)
theorem BU{es:List Expr}{ns:List Int}(h:kK es=some ns):WA X es (tW ns):=⟨pT (qT es ns h) λσ H Q hq=>by
 obtain⟨Z,ρ,F,o,ρ',S,w,e,q⟩:=hq;cases e;exact q _ H Z F [] S (oz ns) (aH.refl w).nil⟩
theorem dU{es:List Expr}{k:Nat}{fa:FA}(h:WA X es fa):WE X (.Tuple es k pos) (di fa):=⟨D8 h.h⟩
theorem fQ{es:List Expr}{fa:FA}(h:WA X es fa):WE X (.List es pos) (iF fa):=⟨D9 h.h⟩
theorem BV:WE X (.Dict [] [] pos) uW:=⟨Bu⟩
theorem aS{a b:Expr}{fa fb:FE}(hu:X.A.units+64<cLine)(ha:WE X a fa)(hb:WE X b fb)(hs:pq b):WE X (.Subscript a b pos) (bO fa fb):=⟨ve_ix hu ha.h hb.h hs⟩
theorem vh:WO X none i7:=⟨Bw⟩
theorem vj{e:Expr}{f:FE}(h:WE X e f):WO X (some e) (i8 f):=⟨Bx h.h⟩
theorem CQ{e:Expr}{lo hi:Option Expr}{p2:Pos}{fa:FE}{fl fh:FO}(ha:WE X e fa)(hl:WO X lo fl)(hh:WO X hi fh):WE X (.Subscript e (.Slice lo hi none p2) pos) (Ec fa fl fh):=⟨ve_sl ha.h hl.h hh.h⟩
theorem bX{id:String}{x:Str}{p:Pos}{e:Expr}{es:List Expr}{g:List M->Option M}{fa:FA}(hc:bL X (.builtin id) (uU X.K g))(hg:Gl X x)(hm:X.mg x=none)(hv:Jv x=some (.builtin id))(ha:WA X (e::es) fa)(hn:x ≠ "__name__" := by decide)(hdb:(x == ("__debug__" : Str))=false:=by decide)
  (he:Fa (e::es) X.env=(false,eval e X.env)::Fa es X.env:=by rfl) (hpl:(L8 pos (Fa es X.env)).any (·.1)=false:=by rfl):WE X (.Call (.Name x p) (e::es) [] pos) (cF g fa):=⟨ve_cb hc hg hm hv ha.h hn hdb he hpl⟩
theorem iP{T:String}{x:Str}{p:Pos}{e:Expr}{es:List Expr}{g:List M->Option M}{fa:FA}(hc:bL X (.type T) (uU X.K g))(hg:Gl X x)(hm:X.mg x=none)(hv:Jv x=some (.type T))(ha:WA X (e::es) fa)(hn:x ≠ "__name__" := by decide)(hdb:(x == ("__debug__" : Str))=false:=by decide)
  (he:Fa (e::es) X.env=(false,eval e X.env)::Fa es X.env:=by rfl) (hpl:(L8 pos (Fa es X.env)).any (·.1)=false:=by rfl):WE X (.Call (.Name x p) (e::es) [] pos) (cF g fa):=⟨ve_ct hc hg hm hv ha.h hn hdb he hpl⟩
theorem mj{p p2:Pos}{e:Expr}(c:String){y:Str}{fa:FE}(hc:c∈dg)(hn:c ≠ "NoneType")(hg:Gl X "isinstance")(hm:X.mg "isinstance" = none)(hv:Jv "isinstance" = some (.builtin "isinstance"))(ha:WE X e fa)(hy:PE X (.Name y p2) (tC (.ty c)))
  (he:Fa [e,.Name y p2] X.env=[(false,eval e X.env),(false,eval (.Name y p2) X.env)]:=by rfl) (he2:Fa [.Name y p2] X.env=[(false,eval (.Name y p2) X.env)]:=by rfl) (hpl:(L8 pos (Fa [.Name y p2] X.env)).any (·.1)=false:=by rfl):WE X (.Call (.Name "isinstance" p) [e,.Name y p2] [] pos) (vU (nE c) fa):=⟨Eg hc hn hg hm hv ha.h hy he he2 hpl⟩
theorem bY{x:Str}{ps:List Str}{k k':Nat}{g:FF}{e:Expr}{es:List Expr}{fa:FA}{p:Pos}(C:bz X.prog X.w X.K X.mg X.base x ps k (d8 X.K g))(hr:fq k' X.A)(hg:Gl X x)(ha:WA X (e::es) fa)(hk:k<=k':=by first | decide | exact D2 _ | lia)(hdb:(x == ("__debug__" : Str))=false:=by decide)
  (he:Fa (e::es) X.env=(false,eval e X.env)::Fa es X.env:=by rfl) (hpl:(L8 pos (Fa es X.env)).any (·.1)=false:=by rfl):WE X (.Call (.Name x p) (e::es) [] pos) (dQ g fa):=⟨ve_fn C hr hg ha.h hk hdb he hpl⟩
theorem tZ(i:Nat){e:Expr}{es:List Expr}{fa:FA}{x:Str}{p1 p2:Pos}(ha:WA X (e::es) fa)(hpe:∀(to:TE)(t:TA),PE X (.Name x p1) to->PA X (e::es) t->PE X (.Call (.Attribute (.Name x p1) "append" p2) (e::es) [] pos) (E9 X.K "list" iw to t))(hv:PE X (.Name x p1) (fm i)):WE X (.Call (.Attribute (.Name x p1) "append" p2) (e::es) [] pos) (kF i fa):=⟨Ez i ha.h hpe hv⟩
theorem vm(i:Nat){o k d:Expr}{p1 p2 p3:Pos}{fk fd:Ev->Option B2}(hk:WP X k fk)(hd:WP X d fd)(hu:X.A.units+64<cLine)(ho:PE X o (fm i))(hs:NoSl k)
  (hpe:∀(to:TE)(t:TA),PE X (.Subscript o k p1) to->PA X [d] t->PE X (.Call (.Attribute (.Subscript o k p1) "append" p2) [d] [] p3) (E9 X.K "list" iw to t)) (hse:Fa [d] X.env=[(false,eval d X.env)]:=by rfl):WE X (.Call (.Attribute (.Subscript o k p1) "append" p2) [d] [] p3) (lZ i fk fd) :=
 ⟨aY (hpe _ _ (uL (by lia) ho hk.h hs) (iu hd.h kU hse)) λ_ _ _ hq=>zp hq⟩
theorem vn(n:Nat)(js:List Nat){elt target iter:Expr}{ifs:List Expr}{scope:Scope}{N:List Str}{fr:List (Option Nat)}{pin:List Nat}{fi:FI}{fg:FG}{ft:FT}{fe:FE}(hfr:fr=FK n none++js.map some)(hpin:pin=(Fu js.length).map (n + ·))(hc:X.calm=true)(S:bh X scope N fr)(hi:WI X target iter fi)
  (hin:∀z:Bk,WG (aE X scope z.cl N z.C z.fp z.s z.H) pin target fg/\WF (aE X scope z.cl N z.C z.fp z.s z.H) ifs ft/\WE (aE X scope z.cl N z.C z.fp z.s z.H) elt fe)
  (hs:∀x,IP iter X.env x=pure x:=by intro _; rfl):WE X (.ListComp elt [⟨target,iter,ifs,0⟩] scope pos) (tU n js fi fg ft fe):=⟨ve_lc n js hfr hpin hc S hi.h (λz=>⟨(hin z).1.h,(hin z).2.1.h,(hin z).2.2.h⟩) hs⟩
theorem CS(b:Bool)(n:Nat)(js:List Nat){ek ev target iter:Expr}{ifs:List Expr}{scope:Scope}{N:List Str}{fr:List (Option Nat)}{pin:List Nat}{fi:FI}{fg:FG}{ft:FT}{fk fv:FE}(hfr:fr=FK n none++js.map some)(hpin:pin=(Fu js.length).map (n + ·))(hc:X.calm=true)(S:bh X scope N fr)(hi:WI X target iter fi)
  (hin:∀z:Bk,WG (aE X scope z.cl N z.C z.fp z.s z.H) pin target fg/\WF (aE X scope z.cl N z.C z.fp z.s z.H) ifs ft/\WE (aE X scope z.cl N z.C z.fp z.s z.H) ek fk/\WE (aE X scope z.cl N z.C z.fp z.s z.H) ev fv)
  (hs:∀x,IP iter X.env x=pure x:=by intro _; rfl):WE X (.DictComp ek ev [⟨target,iter,ifs,0⟩] scope pos) (Fe b n js fi fg ft fk fv):=⟨ve_dc b n js hfr hpin hc S hi.h (λz=>⟨(hin z).1.h,(hin z).2.1.h,(hin z).2.2.1.h,(hin z).2.2.2.h⟩) hs⟩
theorem g9:WF X [] dS:=⟨Ew⟩
theorem zA{c:Expr}{f:FT}(h:WT X c f):WF X [c] f:=⟨Ex h.h⟩
theorem cL{tg l:Expr}{f:FE}(h:WE X l f):WI X tg l (bR f):=⟨Ep h.h⟩
theorem iB{tg a:Expr}{fa:FA}{p:Pos}(hg:Gl X "range")(hm:X.mg "range" = none)(ha:WA X [a] fa)(hs:Fa [a] X.env=[(false,eval a X.env)]:=by rfl):WI X tg (.Call (.Name "range" p) [a] [] pos) (fD kE fa):=⟨BI hg hm ha.h hs⟩
theorem EH{a b:Expr}{fa:FA}{p tp:Pos}{es:List Expr}{k:Nat}(hg:Gl X "zip")(hm:X.mg "zip" = none)(ha:WA X [a,b] fa)(hs:Fa [a,b] X.env=[(false,eval a X.env),(false,eval b X.env)]:=by rfl)(hs2:Fa [b] X.env=[(false,eval b X.env)]:=by rfl):WI X (.Tuple es k tp) (.Call (.Name "zip" p) [a,b] [] pos) (fD zh fa):=⟨Es hg hm ha.h hs hs2⟩
theorem aI{i:Nat}{x:Str}(hp0:i∉pin)(hN:X.N.Nodup)(hi:X.N[i]? = some x)(hx:Loc X.env.scope x)(hf:X.fn x=true\/X.env.scope.names.lookup x=some .local:=by first | exact .inl rfl | exact .inr rfl | assumption):WG X pin (.Name x pos) (ah i):=⟨BF hp0 hN hi hx hf⟩
theorem jB:GB X pin [] eX:=⟨BG⟩
theorem cQ{e:Expr}{es:List Expr}{f:FG}{g:wV}(h1:WG X pin e f)(h2:GB X pin es g)(hs:(KP (e::es) X.env).map (·.2)=LS e X.env::(KP es X.env).map (·.2):=by rfl):GB X pin (e::es) (aT f g):=⟨zf h1.h h2.h hs⟩
theorem mq{es:List Expr}{k:Nat}(n:Nat){g:wV}(hc:X.calm=true)(h:GB X pin es g)(hn:(KP es X.env).length=n:=by rfl)(hst:(KP es X.env).findIdx? (·.1)=none:=by rfl):WG X pin (.Tuple es k pos) (d9 n g):=⟨Ek hc h.h λ_ h=>De hc h hn hst⟩
theorem bZ:BS X pin [] bg:=⟨BA⟩
theorem az{st:Stmt}{f:FS}(h:WS X pin st f):BS X pin [st] f:=⟨BC h.h⟩
theorem ao{st:Stmt}{rest:List Stmt}{f g:FS}(h1:WS X pin st f)(h2:BS X pin rest g):BS X pin (st::rest) (aJ f g):=⟨zc h1.h h2.h⟩
theorem eY{c:Expr}{a b:List Stmt}{fc:FT}{f g:FS}(hc:WT X c fc)(ha:BS X pin a f)(hb:BS X pin b g):WS X pin (.If c a b pos) (cP fc f g):=⟨vs_if hc.h ha.h hb.h⟩
theorem jC{e:Expr}{f:FE}(h:WE X e f)(hs:K6 e none pos.line X.env=pure false:=by rfl):WS X pin (.Expr e pos) (eW f):=⟨BD h.h hs⟩
theorem bI{e:Expr}{f:FE}(h:WE X e f):WS X pin (.Return (some e) pos) (cZ f):=⟨Eh h.h⟩
theorem aU{i:Nat}{x:Str}{e:Expr}{f:FE}{pos':Pos}(hp0:i∉pin)(hN:X.N.Nodup)(hi:X.N[i]? = some x)(hx:Loc X.env.scope x)(he:WE X e f)(hs:K6 e (some (.Name x pos')) pos.line X.env=pure false:=by rfl)(hf:X.fn x=true\/X.env.scope.names.lookup x=some .local:=by first | exact .inl rfl | exact .inr rfl | assumption) :
  WS X pin (.Assign [.Name x pos'] e pos) (bM i f):=⟨Ei hp0 hN hi hx he.h hs hf⟩
theorem EI{i:Nat}{x:Str}(n:Nat)(js:List Nat){elt target iter:Expr}{ifs:List Expr}{scope:Scope}{N:List Str}{fr:List (Option Nat)}{pinI:List Nat}{fi:FI}{fg:FG}{ft:FT}{fe:FE}{pos' spos:Pos}(hp0:i∉pin)(hN:X.N.Nodup)(hi':X.N[i]? = some x)(hx:X.env.scope.names.lookup x=some .local)
  (hfr:fr=FK n none++js.map some) (hpin:pinI=(Fu js.length).map (n + ·)) (hc:X.calm=true) (S:bh X scope N fr) (hi:WI X target iter fi)
  (hin:∀z:Bk,WG (aE X scope z.cl N z.C z.fp z.s z.H) pinI target fg/\WF (aE X scope z.cl N z.C z.fp z.s z.H) ifs ft/\WE (aE X scope z.cl N z.C z.fp z.s z.H) elt fe)
  (hs:∀x,IP iter X.env x=pure x:=by intro _; rfl) (hsw:K6 (.ListComp elt [⟨target,iter,ifs,0⟩] scope pos) (some (.Name x pos')) spos.line X.env=pure true:=by rfl) :
  WS X pin (.Assign [.Name x pos'] (.ListComp elt [⟨target,iter,ifs,0⟩] scope pos) spos) (bM i (tU n js fi fg ft fe)):=⟨ED n js hp0 hN hi' hx hfr hpin hc S hi.h (λz=>⟨(hin z).1.h,(hin z).2.1.h,(hin z).2.2.h⟩) hs hsw⟩
theorem EJ{i:Nat}{x:Str}{e:Expr}{f:FE}{op:N2}{ti:E8}{pos':Pos}{g:M->M->Option M}(hg:CK X.K ti g)(hp0:i∉pin)(hN:X.N.Nodup)(hi:X.N[i]? = some x)(hx:Loc X.env.scope x)(he:WE X e f)(ho:Gn X op ti)(hf:X.fn x=true\/X.env.scope.names.lookup x=some .local:=by first | exact .inl rfl | exact .inr rfl | assumption) :
  WS X pin (.AugAssign (.Name x pos') op e pos) (zd i g f):=⟨Ej hg hp0 hN hi hx he.h ho hf⟩
theorem zB{tg e:Expr}{f:FE}{g:FG}(he:WE X e f)(hg:WG X pin tg g)(hs:NM [tg] e pos.line X.env=pure false:=by rfl)(hw:NN [tg] e X.env=pure none:=by rfl)
  (hps:∀(te:TE)(t:TG),PE X e te->PG X tg t->PS X (.Assign [tg] e pos) (ng te t):=by exact λ_ _ h1 h2=>gS h1 h2):WS X pin (.Assign [tg] e pos) (wW f g):=⟨El he.h hg.h hs hw hps⟩
theorem EK{i j:Nat}{a b:Expr}{fa:FA}{x y:Str}{px py pt:Pos}{kt k2 pt2}(hpi:i∉pin)(hpj:j∉pin)(ha:WA X [a,b] fa)(hps:∀t:TA,PA X [a,b] t->PS X (.Assign [.Tuple [.Name x px,.Name y py] kt pt] (.Tuple [a,b] k2 pt2) pos) (tPar i j t)):WS X pin (.Assign [.Tuple [.Name x px,.Name y py] kt pt] (.Tuple [a,b] k2 pt2) pos) (vPar i j fa):=⟨Em hpi hpj ha.h hps⟩
theorem jV(i:Nat){o k e:Expr}{fk fe:FE}{pos':Pos}(hu:X.A.units+64<cLine)(ho:PE X o (fm i))(hk:WE X k fk)(he:WE X e fe)(hs:K6 e (some (.Subscript o k pos')) pos.line X.env=pure false)
  (hps:∀(te:TE)(t:TG),PE X e te->PG X (.Subscript o k pos') t->PS X (.Assign [.Subscript o k pos'] e pos) (ng te t)) (hpg:∀to ti:TE,PE X o to->PE X k ti->PG X (.Subscript o k pos') (xR to ti qI)):WS X pin (.Assign [.Subscript o k pos'] e pos) (gZ i fk fe):=⟨EC i hu ho hk.h he.h hs hps hpg⟩
theorem dI{tg iter:Expr}{body:List Stmt}{fi:FI}{fg:FG}{fb:FS}(hp0:N9 (model X.prog X.w) X.A X.env X.xe)(hc:X.calm=true)(hi:WI X tg iter fi)(hg:WG X pin tg fg)(hb:BS X pin body fb)
  (hs:∀x,IP iter X.env x=pure x:=by intro _; rfl):WS X pin (.For tg iter body [] pos) (eE fi fg fb):=⟨Et hp0 hc hi.h hg.h hb.h hs⟩
theorem zC(n:Nat){c:Expr}{body:List Stmt}{fc:FT}{fb:FS}(hp0:N9 (model X.prog X.w) X.A X.env X.xe)(hc:WT X c fc)(hb:BS X pin body fb):WS X pin (.While c body [] pos) (jR n fc fb):=⟨zj n hp0 hc.h hb.h⟩
end
section
variable{P:Fm}{w:World}{K:AT}{mg:Str->Option Value}{base:Heap}
theorem cH{x qual:Str}{st:Stmt}{f:Addr}{fd:K7}{N prs:List Str}{k:Nat}(ps:List Bool){fb:FS}(Fn:nV K x qual st f fd)(S:bB N prs (au st))(hl:prs.length=ps.length)
  (hb:∀(cdv:Value)(A:ID)(outer:List Env)(s:B1)(H:Hp)(E:XK),fq k (A.deeper (Mc qual (au st) s.heap.objs.size f cdv))->BS (qC j6 P w K mg base N qual (au st) f cdv A outer s H E).E7 (pins ps 0) (aV st) fb) :
  cY P w K mg base j6 (k+1) f fd prs (d8 K (gy ps N.length fb)):=Eu ps Fn S hl λcdv A outer s H E hr=>(hb cdv A outer s H E hr).h
noncomputable def qk(K:AT):Sp:=λvs H Q _=>∃ (a:Addr) (ns:List Int),vs=[.ref a]/\fB K H a (ns.map V.int)/\ns.length<=63/\∀H',Q (.bl true) H'
theorem EL{k:Nat}{f:Addr}{fd:K7}{x:Str}{g:FF}(F:cY P w K mg base j6 k f fd [x] (d8 K g))(h:∀ns:List Int,ns.length<=63->∃ms,g [.v (.list (ns.map .int))]=some (.v (.bool true),ms)):cY P w K mg base j6 k f fd [x] (qk K):=by
 refine F.imp λvs H Q E hs=>?_
 obtain⟨a,ns,rfl,hq,hl,q⟩:=hs;obtain⟨ms,e⟩:=h ns hl;rcases hq with hq | hq
 ·have hz:∀b,(λb=>b=a) b->H b≠none:=λb hb e=>by
   have hb:b=a:=hb;subst hb;rcases hq with hq | ⟨o,hq⟩ <;> rw[hq] at e <;> cases e
  refine⟨λb=>b=a,_,[],_,ms,.cons (G:=[]) (.v (.lst hq rfl (bF.ints ns))) .nil,⟨JL,λ_ h=>(nomatch h),hz⟩,e,λx H' Z' A' G _ h _=>?_⟩
  cases h with
  |v f=>obtain rfl:=f.tw; exact q H'
 ·refine⟨λ_=>False,_,[],_,ms,.cons (G:=[]) (.v (.lsK hq (bF.ints ns))) .nil,⟨JL,λ_ h=>(nomatch h),λ_ h=>h.elim⟩,e,λx H' Z' A' G _ h _=>?_⟩
  cases h with
  |v f=>obtain rfl:=f.tw; exact q H'
end
section
variable{X:Cx}{pos:Pos}{pin:List Nat}
noncomputable def revM:M->M->Option M
 |.v (.tuple ds),.v (.int i)=>if i = -1 then some (.v (.tuple ds.reverse)) else none
 |_,_=>none
noncomputable def t6:List (FE×FE)->Ev->Option (List (Key×B2)×Ev)
 |[],ρ=>some ([],ρ)
 |(fk,fv)::r,ρ=>(fk ρ).bind λp=>match p.1 with
  |.t (.v kd)=>(dm kd).bind λk=>(fv p.2).bind λq=>(cU q.1 q.2).bind λd=>(t6 r d.2).bind λz=>some ((k,d.1)::z.1,z.2)
  |_=>none
noncomputable def CT(trs:List (FE×FE)):FE:=λρ=>(t6 trs ρ).bind λz=>if z.1.length<=15 then some (.t (.aA (z.1.foldl (λacc kv=>putD acc kv.1 kv.2) [])),z.2) else none
theorem wZ{H0:Hp}{Z0:Zs}{F0 R:List Addr}{σ:L2.St}:∀{trs:List (FE×FE)}{H:Hp}{Z:Zs}{ρ ρ':Ev}{F:List Addr}{kvs:List (Key×B2)}{Q:List (V×V)->Hp->Prop},aR X.K H Z σ ρ F->aH H0 Z0 F0 H Z (F++R)->(∀a∈R,H a≠none)->t6 trs ρ=some (kvs,ρ') ->
  (∀kxs H' Z' F',aR X.K H' Z' σ ρ' F'->gH X.K H' Z' kxs kvs->aH H0 Z0 F0 H' Z' (F'++R)->(∀a∈R,∀o,H a=some o->H' a=some o)->aL H Z H' Z'->Q (kxs.map λkv=>(kV kv.1,kv.2)) H')->pG (trs.map λp=>(vE X.K p.1,vE X.K p.2)) σ H Q:=by
 intro trs
 induction trs with
 |nil=>
  intro H Z ρ ρ' F kvs Q S f al e q;cases e; exact q [] H Z F S .nil f (λ_ _ _ h=>h) aL.refl
 |cons p r ih=>
  intro H Z ρ ρ' F kvs Q S f al e q;obtain⟨fk,fv⟩:=p;obtain⟨⟨o1,ρ1⟩,e1,e⟩:=oB e;cases o1 with
  |p _=>cases e
  |q _ _=>cases e
  |t m=>
   cases m with
   |lst _=>cases e
   |aA _=>cases e
   |bW _=>cases e
   |dtp _=>cases e
   |v kd=>
    obtain⟨k,e2,e⟩:=oB e;obtain⟨⟨o3,ρ3⟩,e3,e⟩:=oB e;obtain⟨⟨d,ρ4⟩,e4,e⟩:=oB e;obtain⟨⟨kvs',ρ5⟩,e5,e⟩:=oB e;cases e;refine⟨Z,ρ,F,_,ρ1,S,f.left.wf,e1,λx H1 Z1 F1 G1 S1 O1 f1=>?_⟩
    have xk:x=kV k:=by
     cases O1 with
     |t ow=>cases ow with
      |v fx=>exact dN fx e2
    have g1:=f1.left.frame f.wf al;have k1:∀a∈R,∀o,H a=some o->H1 a=some o:=λa h o e=>f1.keep a o (λz=>(bA f.nd).2.2 a z h) e
    have al1:∀a∈R,H1 a≠none:=λa h e=>by
     cases q:H a with
     |none=>exact al a h q
     |some o=>rw[k1 a h o q] at e; cases e
    have F1':=f.trans g1;refine⟨Z1,ρ1,F1,o3,ρ3,S1,F1'.left.wf,e3,λy H2 Z2 F2 G2 S2 O2 f2=>?_⟩
    have g2:aH H0 Z0 F0 H2 Z2 (F2++G2++R):=F1'.trans (f2.frame F1'.wf al1);have k2:∀a∈R,∀o,H1 a=some o->H2 a=some o:=λa h o e=>f2.keep a o (λz=>(bA F1'.nd).2.2 a z h) e
    have al2:∀a∈R,H2 a≠none:=λa h e=>by
     cases q:H1 a with
     |none=>exact al1 a h q
     |some o=>rw[k2 a h o q] at e; cases e
    obtain⟨Z3,F3,S3,y3,f3,g3⟩:=freeze S2 O2 g2 e4;refine ih S3 f3 al2 e5 λkxs H' Z' F' S' fk' f' k' g' =>?_
    rw[xk];exact q ((k,y)::kxs) H' Z' F' S' (.cons (y3.mono g') fk') f' (λa h o e=>k' a h o (k2 a h o (k1 a h o e))) (((f1.grow f.left.wf).trans (f2.grow F1'.left.wf)).trans (g3.trans g'))
theorem mw{K:AT}{H:Hp}{Z:Zs}:∀{kxs:List (Key×V)}{kvs:List (Key×B2)}{axs:List (Key×V)}{avs:List (Key×B2)},gH K H Z kxs kvs->gH K H Z axs avs->gH K H Z (iW axs kxs) (kvs.foldl (λacc kv=>putD acc kv.1 kv.2) avs)
 |_,_,_,_,.nil,a=>a
 |_,_,axs,avs,.cons (k:=k) (x:=x) (d:=d) (xs:=xs) (ds:=ds) h r,a=>by
  have:=mw r (gH.put (k:=k) h a);exact this
structure GD(X:Cx)(pos:Pos)(ks:List (Option Expr))(vs:List Expr)(trs:List (FE×FE)):Prop where
 h:FU X pos ks vs (trs.map λp=>(vE X.K p.1,vE X.K p.2))
theorem BW:GD X pos [] [] []:=⟨A9⟩
theorem zD{k v:Expr}{ks:List (Option Expr)}{vs:List Expr}{fk fv:FE}{trs:List (FE×FE)}(hk:WE X k fk)(hv:WE X v fv)(hr:GD X pos ks vs trs):GD X pos (some k::ks) (v::vs) ((fk,fv)::trs):=⟨yq hk.h hv.h hr.h⟩
theorem BX{keys:List (Option Expr)}{values:List Expr}{trs:List (FE×FE)}(h:GD X pos keys values trs)(hall:keys.all (·.isSome)=true)(hl:keys.length=values.length)(h0:keys≠[])(h15:keys.length<=15):WE X (.Dict keys values pos) (CT trs):=⟨aY (Ba h.h hall hl h0 h15) λσ H Q hq p hp=>by
 obtain⟨Z,ρ,F,o,ρ',S,w,e,q⟩:=hq;obtain⟨⟨kvs,ρ1⟩,e1,e⟩:=oB e
 split at e
 ·next hl=>
  cases e;have n0:=aH.pZ (o:=.dK []) hp w.za;have f0:aH H Z F (upd H p (.dK [])) Z (F++[p]):=n0.news w S.al;refine wZ (S.news n0) f0 (λa h e=>by rw[D1.mp h,aB] at e; cases e) e1 λkxs H' Z' F' S' fk f' k' g' =>?_
  have ep:=k' p lS _ aB;obtain⟨f3,g3⟩:=f'.put (o':=.dK (iW [] kxs)) ep (λ_ z=>nomatch z) (λ_ _ z=>nomatch z)
  refine⟨ep,kxs,rfl,by rw[fk.length]; exact hl,q (.ref p) _ Z' F' [p] (S'.mono g3 λa h o e=>?_) (.t (.aA aB (mw (fk.mono g3) .nil))) f3⟩
  have hne:a≠p:=λz=>(bA f'.nd).2.2 a h (by rw[z]; exact lS)
  rw[aC hne]; exact e
 ·cases e⟩
end
theorem BY{P:Fm}{w:World}{K:AT}{mg:Str->Option Value}{base:Heap}{CX:xE}{k:Nat}{f:Addr}{fd:K7}{ps:List Str}:cY P w K mg base CX k f fd ps (d8 K λ_=>none) :=
 ⟨λvs H Q E h=>(by obtain⟨_,_,_,_,_,_,_,e,_⟩:=h; cases e),λA outer s H args us vs Q E _ _ _ _ h=>(by obtain⟨_,_,_,_,_,_,_,e,_⟩:=h; cases e)⟩
end VL
end
section
namespace VL
open PySem L2
section
variable{ρ:Ev}{m:M}{x:Option M}{i j:Nat}
@[simp] theorem at?_0:cS (some m::ρ) 0=some m:=rfl
@[simp] theorem at?_n:cS (none::ρ) 0=none:=rfl
@[simp] theorem at?_s:cS (x::ρ) (i+1)=cS ρ i:=rfl
@[simp] theorem peek_t:peek ρ (.t m)=some m:=rfl
@[simp] theorem peek_p:peek ρ (.p i)=cS ρ i:=rfl
@[simp] theorem peekS_t:jy ρ (.t m)=some m:=rfl
@[simp] theorem peekS_p:jy ρ (.p i)=cS ρ i:=rfl
@[simp] theorem Ff:gI ρ []=some []:=rfl
@[simp] theorem EM{o:cR}{os:List cR}:gI ρ (o::os)=(peek ρ o).bind λm=>(gI ρ os).bind λms=>some (m::ms):=rfl
@[simp] theorem vVar_eq:aa i ρ=match cS ρ i with
 |some (.v d)=>some (.t (.v d),ρ)
 |some _=>some (.p i,ρ)
 |none=>none:=rfl
@[simp] theorem vC_eq{d:B2}:vC d ρ=some (.t (.v d),ρ):=rfl
@[simp] theorem vB_eq{g:M->M->Option M}{fa fb:FE}:vB g fa fb ρ=(fa ρ).bind λp=>(fb p.2).bind λq=>(jy q.2 p.1).bind λm1=>(peek q.2 q.1).bind λm2=>(g m1 m2).bind λm=>some (.t m,q.2):=rfl
@[simp] theorem vU_eq{g:M->Option M}{fa:FE}:vU g fa ρ=(fa ρ).bind λp=>(peek p.2 p.1).bind λm1=>(g m1).bind λm=>some (.t m,p.2):=rfl
@[simp] theorem vaNil_eq:fY ρ=some ([],ρ):=rfl
@[simp] theorem rD{fa:FE}:af fa ρ=(fa ρ).bind λp=>some ([p.1],p.2):=rfl
@[simp] theorem stab_t:tE (.t m)=true:=rfl
@[simp] theorem stab_p:tE (.p i)=true:=rfl
@[simp] theorem Fg{fa:FE}{fr:FA}:aj fa fr ρ=(fa ρ).bind λp=>(fr p.2).bind λq=>if tE p.1=true then some (p.1::q.1,q.2) else none:=rfl
@[simp] theorem Fi{ns:List Int}:tW ns ρ=some (ns.map λn=>.t (.v (.int n)),ρ):=rfl
@[simp] theorem t7{g:List M->Option M}{fa:FA}:cF g fa ρ=(fa ρ).bind λp=>(gI p.2 p.1).bind λms=>(g ms).bind λm=>some (.t m,p.2):=rfl
@[simp] theorem tr_bool{b:Bool}:GV (.v (.bool b))=some b:=rfl
@[simp] theorem vTst_eq{f:FE}:aG f ρ=(f ρ).bind λp=>(peek p.2 p.1).bind λm=>(GV m).bind λb=>some (b,p.2):=rfl
@[simp] theorem vTru_eq{f:FE}:p9 f ρ=(f ρ).bind λp=>(peek p.2 p.1).bind λm=>(rf m).bind λb=>some (b,p.2):=rfl
@[simp] theorem tru_bool{b:Bool}:rf (.v (.bool b))=some b:=rfl
@[simp] theorem tru_tup{ds:List B2}:rf (.v (.tuple ds))=some (!ds.isEmpty):=rfl
@[simp] theorem tru_list{ds:List B2}:rf (.v (.list ds))=some (!ds.isEmpty):=rfl
@[simp] theorem tru_lst{ds:List B2}:rf (.lst ds)=some (!ds.isEmpty):=rfl
@[simp] theorem tru_dic{ds:List (Key×B2)}:rf (.aA ds)=some (!ds.isEmpty):=rfl
@[simp] theorem vNot_eq{f:FT}:pW f ρ=(f ρ).bind λp=>some (!p.1,p.2):=rfl
@[simp] theorem vAnd_eq{f g:FT}:fu f g ρ=(f ρ).bind λp=>if p.1=true then g p.2 else some (false,p.2):=rfl
@[simp] theorem vOr_eq{f g:FT}:qy f g ρ=(f ρ).bind λp=>if p.1=true then some (true,p.2) else g p.2:=rfl
@[simp] theorem vYes_eq:dS ρ=some (true,ρ):=rfl
@[simp] theorem vAndV_eq{fa fb:FE}:qW fa fb ρ=(aG fa ρ).bind λp=>if p.1=true then fb p.2 else some (.t (.v (.bool false)),p.2):=rfl
@[simp] theorem vNotV_eq{fa:FE}:uT fa ρ=(aG fa ρ).bind λp=>some (.t (.v (.bool (!p.1))),p.2):=rfl
@[simp] theorem toD_v{d:B2}:toD (.v d)=d:=rfl
@[simp] theorem toD_lst{d:List B2}:toD (.lst d)=.list d:=rfl
@[simp] theorem frz1_t:cU (.t m) ρ=some (toD m,ρ):=rfl
@[simp] theorem frz1_p:cU (.p i) ρ=(cS ρ i).bind λm=>some (toD m,ρ.set i (some (.v (toD m)))):=rfl
@[simp] theorem frzs_nil:dG [] ρ=some ([],ρ):=rfl
@[simp] theorem Fj{o:cR}{os:List cR}:dG (o::os) ρ=(cU o ρ).bind λp=>(dG os p.2).bind λq=>some (p.1::q.1,q.2):=rfl
@[simp] theorem vTup_eq{fa:FA}:di fa ρ=(fa ρ).bind λp=>(dG p.1 p.2).bind λq=>if q.1.length<=lim then some (.t (.v (.tuple q.1)),q.2) else none:=rfl
@[simp] theorem vLst_eq{fa:FA}:iF fa ρ=(fa ρ).bind λp=>(dG p.1 p.2).bind λq=>if q.1.length<=lim then some (.t (.lst q.1),q.2) else none:=rfl
@[simp] theorem vDnew_eq:uW ρ=some (.t (.aA []),ρ):=rfl
@[simp] theorem ixO_t{m1 m2:M}:Gw (.t m1) m2 ρ=(getM m1 m2).bind λm=>some (.t m,ρ):=rfl
@[simp] theorem EN{fa fb:FE}:bO fa fb ρ=(fa ρ).bind λp=>(fb p.2).bind λq=>(peek q.2 q.1).bind λm2=>Gw p.1 m2 q.2:=rfl
@[simp] theorem ixO_p{m2:M}:Gw (.p i) m2 ρ=(cS ρ i).bind λm1=>match m1,m2 with
  |.bW kvs,.v k=>(dm k).bind λk=>(bE kvs k).bind λ_=>some (.q i k,ρ)
  |m1,m2=>(getM m1 m2).bind λm=>some (.t m,ρ):=rfl
@[simp] theorem zE{ds:List B2}{k:Int}:getM (.v (.tuple ds)) (.v (.int k))=(jf ds k).bind λd=>some (.v d):=rfl
@[simp] theorem Fl{ds:List B2}{k:Int}:getM (.v (.list ds)) (.v (.int k))=(jf ds k).bind λd=>some (.v d):=rfl
@[simp] theorem getM_lst{ds:List B2}{k:Int}:getM (.lst ds) (.v (.int k))=(jf ds k).bind λd=>some (.v d):=rfl
@[simp] theorem getM_dic{kvs:List (Key×B2)}{k:B2}:getM (.aA kvs) (.v k)=(dm k).bind λk=>(bE kvs k).bind λd=>some (.v d):=rfl
@[simp] theorem keyD_int{k:Int}:dm (.int k)=some (.inl k):=rfl
@[simp] theorem keyD_str{k:Str}:dm (.str k)=some (.inr k):=rfl
@[simp] theorem Fo:i7 ρ=some (none,ρ):=rfl
@[simp] theorem Fp{f:FE}:i8 f ρ=(f ρ).bind λp=>(peek p.2 p.1).bind λm=>match m with
 |.v (.int i)=>some (some i,p.2)
 |_=>none:=rfl
@[simp] theorem vSl_eq{fa:FE}{fl fh:FO}:Ec fa fl fh ρ=(fa ρ).bind λp=>(fl p.2).bind λl=>(fh l.2).bind λh=>(jy h.2 p.1).bind λm=>(Fd l.1 h.1 m).bind λm'=>some (.t m',h.2):=rfl
@[simp] theorem slM_tup{lo hi:Option Int}{ds:List B2}:Fd lo hi (.v (.tuple ds))=some (.v (.tuple (cutD ds lo hi))):=rfl
@[simp] theorem slM_lst{lo hi:Option Int}{ds:List B2}:Fd lo hi (.lst ds)=some (.lst (cutD ds lo hi)):=rfl
@[simp] theorem slM_list{lo hi:Option Int}{ds:List B2}:Fd lo hi (.v (.list ds))=some (.lst (cutD ds lo hi)):=rfl
@[simp] theorem Fq:cD [] ρ=some ([],ρ):=rfl
@[simp] theorem takeA_t{os:List cR}:cD (.t m::os) ρ=(cD os ρ).bind λq=>some (m::q.1,q.2):=rfl
@[simp] theorem takeA_p{os:List cR}:cD (.p i::os) ρ=(cS ρ i).bind λm=>(cD os (ρ.set i none)).bind λq=>some (m::q.1,q.2):=rfl
@[simp] theorem putA_nil{ms:List M}:fP [] ms ρ=ρ:=by cases ms <;> rfl
@[simp] theorem putA_t{os:List cR}{m':M}{ms:List M}:fP (.t m::os) (m'::ms) ρ=fP os ms ρ:=rfl
@[simp] theorem putA_p{os:List cR}{m':M}{ms:List M}:fP (.p i::os) (m'::ms) ρ=fP os ms (ρ.set i (some m')):=rfl
@[simp] theorem vFn_eq{g:FF}{fa:FA}:dQ g fa ρ=(fa ρ).bind λp=>(cD p.1 p.2).bind λq=>(g q.1).bind λr=>some (.t r.1,fP p.1 r.2 q.2):=rfl
@[simp] theorem vNext_eq:bg ρ=some (.nx ρ):=rfl
@[simp] theorem BZ{f g:FS}:aJ f g ρ=(f ρ).bind λo=>match o with
 |.nx ρ1=>g ρ1
 |o=>some o:=rfl
@[simp] theorem vo{c:FT}{f g:FS}:cP c f g ρ=(c ρ).bind λp=>if p.1=true then f p.2 else g p.2:=rfl
@[simp] theorem rE{f:FE}:eW f ρ=(f ρ).bind λp=>some (.nx p.2):=rfl
@[simp] theorem movO_t:qe (.t m) ρ=some (m,ρ):=rfl
@[simp] theorem movO_p:qe (.p i) ρ=(cS ρ i).bind λm=>some (m,ρ.set i none):=rfl
@[simp] theorem B0{f:FE}:cZ f ρ=(f ρ).bind λp=>(qe p.1 p.2).bind λq=>some (.rt q.1 q.2):=rfl
@[simp] theorem setN_eq:gc i m ρ=if i<ρ.length then some (ρ.set i (some m)) else none:=rfl
@[simp] theorem ql{f:FE}:bM i f ρ=(f ρ).bind λp=>(qe p.1 p.2).bind λq=>(gc i q.1 q.2).bind λρ'=>some (.nx ρ'):=rfl
@[simp] theorem vAug_eq{g:M->M->Option M}{f:FE}:zd i g f ρ=(cS ρ i).bind λm1=>(f ρ).bind λp=>(peek p.2 p.1).bind λm2=>match m1 with
 |.v _=>(g m1 m2).bind λm=>(gc i m p.2).bind λρ'=>some (.nx ρ')
 |_=>none:=rfl
@[simp] theorem Ft{d:B2}:ah i d ρ=gc i (.v d) ρ:=rfl
@[simp] theorem vgNil_eq:eX [] ρ=some ρ:=rfl
@[simp] theorem Fv{f:FG}{g:wV}{d:B2}{ds:List B2}:aT f g (d::ds) ρ=(f d ρ).bind λρ1=>g ds ρ1:=rfl
@[simp] theorem vgTup_eq{n:Nat}{g:wV}{ds:List B2}:d9 n g (.tuple ds) ρ=if ds.length=n then g ds ρ else none:=rfl
@[simp] theorem vAsg_eq{f:FE}{g:FG}:wW f g ρ=(f ρ).bind λp=>(cU p.1 p.2).bind λq=>(g q.1 q.2).bind λρ'=>some (.nx ρ'):=rfl
@[simp] theorem parO_eq{o1:cR}{m2:M}:parO i j [o1,.t m2] ρ=(qe o1 ρ).bind λq1=>(gc i q1.1 q1.2).bind λρ1=>(gc j m2 ρ1).bind λρ2=>some (.nx ρ2):=rfl
@[simp] theorem vPar_eq{fa:FA}:vPar i j fa ρ=(fa ρ).bind λp=>parO i j p.1 p.2:=rfl
@[simp] theorem itD_tup{ds:List B2}:Gz (.tuple ds)=some ds:=rfl
@[simp] theorem itD_list{ds:List B2}:Gz (.list ds)=some ds:=rfl
@[simp] theorem zF{f:FE}:bR f ρ=(f ρ).bind λp=>(cU p.1 p.2).bind λq=>(Gz q.1).bind λds=>some (ds,q.2):=rfl
@[simp] theorem viArg_eq{g:List M->Option (List B2)}{fa:FA}:fD g fa ρ=(fa ρ).bind λp=>(gI p.2 p.1).bind λms=>(g ms).bind λds=>some (ds,p.2):=rfl
@[simp] theorem rng1_eq{k:Int}:kE [.v (.int k)]=if lW k=true then some (bV 0 k) else none:=rfl
@[simp] theorem B3{fi:FI}{fg:FG}{fb:FS}:eE fi fg fb ρ=(fi ρ).bind λp=>forL fg fb p.1 p.2:=rfl
@[simp] theorem forL_nil{fg:FG}{fb:FS}:forL fg fb [] ρ=some (.nx ρ):=rfl
@[simp] theorem Fw{n:Nat}{fc:FT}{fb:FS}:jR n fc fb ρ=i9 fc fb n ρ:=rfl
@[simp] theorem cap_eq:cap ρ j=match cS ρ j with
 |some (.v d)=>some (.t (.v d))
 |some _=>some (.p j)
 |none=>none:=rfl
@[simp] theorem caps_nil:caps ρ []=some []:=rfl
@[simp] theorem Fx{js:List Nat}:caps ρ (j::js)=(cap ρ j).bind λo=>(caps ρ js).bind λos=>some (o::os):=rfl
@[simp] theorem vLC_eq{n:Nat}{js:List Nat}{fi:FI}{fg:FG}{ft:FT}{fe:FE}:tU n js fi fg ft fe ρ=(fi ρ).bind λp=>(caps p.2 js).bind λos=>(cD os p.2).bind λq=>
 (cg fg ft fe p.1 (FK n none++q.1.map some) []).bind λr=>(fin (FK js.length true) q.1 (r.2.drop n)).bind λms'=>some (.t (.lst r.1),fP os ms' q.2):=rfl
@[simp] theorem fin_nil:fin [] [] ρ=some []:=by cases ρ <;> rfl
@[simp] theorem fin_t{ps:List Bool}{ms:List M}{m':M}:fin (true::ps) (m::ms) (some m'::ρ)=(fin ps ms ρ).bind λms'=>some (m'::ms'):=rfl
@[simp] theorem fin_f{ps:List Bool}{ms:List M}{d:B2}:fin (false::ps) (.v d::ms) (x::ρ)=(fin ps ms ρ).bind λms'=>some (.v d::ms'):=rfl
@[simp] theorem vDC_eq{b:Bool}{n:Nat}{js:List Nat}{fi:FI}{fg:FG}{ft:FT}{fk fv:FE}:Fe b n js fi fg ft fk fv ρ=(fi ρ).bind λp=>(caps p.2 js).bind λos=>(cD os p.2).bind λq=>
 (kr fg ft fk fv p.1 (FK n none++q.1.map some) (if b then .bW [] else .aA [])).bind λr=>(fin (FK js.length true) q.1 (r.2.drop n)).bind λms'=>some (.t r.1,fP os ms' q.2):=rfl
@[simp] theorem vApp_eq{fa:FA}:kF i fa ρ=(cS ρ i).bind λm0=>match m0 with
 |.lst _=>(fa ρ).bind λp=>match p.1 with
  |[o]=>(cU o p.2).bind λq=>(cS q.2 i).bind λm=>match m with
   |.lst ds=>if ds.length<lim then some (.t (.v .none),q.2.set i (some (.lst (ds++[q.1])))) else none
   |_=>none
  |_=>none
 |_=>none:=rfl
@[simp] theorem vPut_eq{fk fe:FE}:gZ i fk fe ρ=(fe ρ).bind λp=>(cU p.1 p.2).bind λq=>(cS q.2 i).bind λm0=>match m0 with
 |.v _=>none
 |_=>(fk q.2).bind λr=>(peek r.2 r.1).bind λmk=>(cS r.2 i).bind λm=>match m,mk with
  |.aA kvs,.v kd=>(dm kd).bind λk=>if kvs.length<lim then some (.nx (r.2.set i (some (.aA (putD kvs k q.1))))) else none
  |.lst ds,.v (.int k)=>(qH ds.length k).bind λj=>some (.nx (r.2.set i (some (.lst (ds.set j q.1)))))
  |_,_=>none:=rfl
theorem fG{ps:List Bool}{n:Nat}{fb:FS}{ms:List M}:gy ps n fb ms=if ms.length=ps.length then (fb (ms.map some++FK (n-ms.length) none)).bind λo=>match o with
 |.rt m ρ=>(fin ps ms ρ).bind λms'=>some (m,ms')
 |.nx ρ=>(fin ps ms ρ).bind λms'=>some (.v .none,ms')
 |_=>none
 else none:=rfl
@[simp] theorem int_eq{C:Int->Int->Bool}{g:Int->Int->B2}{a b:Int}:i6 C g (.v (.int a)) (.v (.int b))=if C a b=true then some (.v (g a b)) else none:=rfl
@[simp] theorem sub_eq{a b:Int}:qX (.v (.int a)) (.v (.int b))=some (.v (.int (a-b))):=rfl
@[simp] theorem add_int{a b:Int}:cB (.v (.int a)) (.v (.int b))=some (.v (.int (a+b))):=rfl
@[simp] theorem vp{a b:List B2}:cB (.v (.tuple a)) (.v (.tuple b))=if a.length+b.length<=lim then some (.v (.tuple (a++b))) else none:=rfl
@[simp] theorem add_lst{a b:List B2}:cB (.lst a) (.lst b)=if a.length+b.length<=lim then some (.lst (a++b)) else none:=rfl
@[simp] theorem mul_eq{a b:Int}:mulM (.v (.int a)) (.v (.int b))=if decide ((-(2 ^ 64)<a/\a<2 ^ 64)\/(-(2 ^ 64)<b/\b<2 ^ 64))=true then some (.v (.int (a*b))) else none:=rfl
@[simp] theorem mod_eq{a b:Int}:gV (.v (.int a)) (.v (.int b))=if decide (0<b)=true then some (.v (.int (a % b))) else none:=rfl
@[simp] theorem fdiv_eq{a b:Int}:kg (.v (.int a)) (.v (.int b))=if decide (0<b/\b<1073741824)=true then some (.v (.int (a / b))) else none:=rfl
@[simp] theorem gt_eq{a b:Int}:Gv (.v (.int a)) (.v (.int b))=some (.v (.bool (decide (b<a)))):=rfl
@[simp] theorem lt_eq{a b:Int}:tK (.v (.int a)) (.v (.int b))=some (.v (.bool (decide (a<b)))):=rfl
@[simp] theorem ge_eq{a b:Int}:GW (.v (.int a)) (.v (.int b))=some (.v (.bool (decide (b<=a)))):=rfl
@[simp] theorem lt_tup{a b:List B2}:tK (.v (.tuple a)) (.v (.tuple b))=(gX a).bind λis=>(gX b).bind λjs=>some (.v (.bool (HT.lexLt is js))):=rfl
@[simp] theorem ge_tup{a b:List B2}:GW (.v (.tuple a)) (.v (.tuple b))=(gX a).bind λis=>(gX b).bind λjs=>some (.v (.bool (!HT.lexLt is js))):=rfl
@[simp] theorem asD_v{d:B2}:Bs (.v d)=some d:=rfl
@[simp] theorem asD_lst{d:List B2}:Bs (.lst d)=some (.list d):=rfl
theorem EO{neg:Bool}{m1 m2:M}:dD neg m1 m2=(Bs m1).bind λd=>(Bs m2).bind λe=>if qZ d e=true then some (.v (.bool (if neg then !PyData.eqv d e else Ju d e))) else none:=rfl
@[simp] theorem eq_int{a b:Int}:dD false (.v (.int a)) (.v (.int b))=some (.v (.bool (decide (a=b)))):=by
 have h:dD false (.v (.int a)) (.v (.int b))=some (.v (.bool (a == b))):=rfl;rw[h,P5]
@[simp] theorem ne_int{a b:Int}:dD true (.v (.int a)) (.v (.int b))=some (.v (.bool (!decide (a=b)))):=by
 have h:dD true (.v (.int a)) (.v (.int b))=some (.v (.bool (!(a == b)))):=rfl;rw[h,P5]
@[simp] theorem eq_bool{a b:Bool}:dD false (.v (.bool a)) (.v (.bool b))=some (.v (.bool (a == b))):=rfl
@[simp] theorem ne_bool{a b:Bool}:dD true (.v (.bool a)) (.v (.bool b))=some (.v (.bool (!(a == b)))):=rfl
@[simp] theorem isn_bool{a b:Bool}:wN true (.v (.bool a)) (.v (.bool b))=some (.v (.bool (!(a == b)))):=rfl
@[simp] theorem vq{ds:List B2}:cK [.v (.tuple ds)]=some (.v (.int ds.length)):=rfl
@[simp] theorem len_list{ds:List B2}:cK [.v (.list ds)]=some (.v (.int ds.length)):=rfl
@[simp] theorem len_lst{ds:List B2}:cK [.lst ds]=some (.v (.int ds.length)):=rfl
@[simp] theorem len_dic{ds:List (Key×B2)}:cK [.aA ds]=some (.v (.int ds.length)):=rfl
@[simp] theorem tupM_lst{ds:List B2}:gP [.lst ds]=some (.v (.tuple ds)):=rfl
@[simp] theorem Fy{ds:List B2}:gP [.v (.list ds)]=some (.v (.tuple ds)):=rfl
@[simp] theorem tupM_tup{ds:List B2}:gP [.v (.tuple ds)]=some (.v (.tuple ds)):=rfl
@[simp] theorem isi_eq{c:String}:nE c m=some (.v (.bool (subB (lV m) c))):=rfl
@[simp] theorem abs_eq{a:Int}:yW [.v (.int a)]=some (.v (.int (if a<0 then -a else a))):=rfl
@[simp] theorem int1_int{a:Int}:rq [.v (.int a)]=some (.v (.int a)):=rfl
@[simp] theorem FD{a:Bool}:rq [.v (.bool a)]=some (.v (.int (if a then 1 else 0))):=rfl
@[simp] theorem min2_eq{a b:Int}:tN [.v (.int a),.v (.int b)]=some (.v (.int (if b<a then b else a))):=rfl
@[simp] theorem max2_eq{a b:Int}:oq [.v (.int a),.v (.int b)]=some (.v (.int (if b>a then b else a))):=rfl
@[simp] theorem B4{any:Bool}{ds:List B2}:allM any [.lst ds]=(tO ds).bind λbs=>some (.v (.bool (if any then bs.any id else bs.all id))):=rfl
end
theorem aK{f g:FS}{ρ ρ1:Ev}(h:f ρ=some (.nx ρ1)):aJ f g ρ=g ρ1:=by rw[BZ,h]; rfl
theorem gB{ps:List Bool}{n:Nat}{fb:FS}{ms:List M}{m:M}{ρ:Ev}{ms':List M}(hl:ms.length=ps.length)(h:fb (ms.map some++FK (n-ms.length) none)=some (.rt m ρ))(hf:fin ps ms ρ=some ms'):gy ps n fb ms=some (m,ms'):=by
 rw[fG,if_pos hl,h];show (fin ps ms ρ).bind _=_;rw[hf]; rfl
theorem cz{fg:FG}{fb:FS}{P:List B2->Ev->Prop}:∀(ds:List B2)(ρ:Ev),P ds ρ->(∀d ds ρ,P (d::ds) ρ->∃ρ1 ρ2,fg d ρ=some ρ1/\fb ρ1=some (.nx ρ2)/\P ds ρ2)->∃ρ',forL fg fb ds ρ=some (.nx ρ')/\P [] ρ'
 |[],ρ,h,_=>⟨ρ,rfl,h⟩
 |d::ds,ρ,h,step=>by
  obtain⟨ρ1,ρ2,e1,e2,h2⟩:=step d ds ρ h;obtain⟨ρ',e3,h3⟩:=cz ds ρ2 h2 step;refine⟨ρ',?_,h3⟩;show (fg d ρ).bind _=_;rw[e1];show (fb ρ1).bind _=_;rw[e2];exact e3
theorem mz{fg:FG}{ft:FT}{fe:FE}{P:List B2->List B2->Ev->Prop}:∀(ds:List B2)(ρ:Ev)(acc:List B2),P ds acc ρ ->
  (∀d ds acc ρ,P (d::ds) acc ρ->acc.length<lim/\∃ρ1 b ρ2,fg d ρ=some ρ1/\ft ρ1=some (b,ρ2)/\((b=false/\P ds acc ρ2)\/(b=true/\∃o ρ3 e ρ4,fe ρ2=some (o,ρ3)/\cU o ρ3=some (e,ρ4)/\P ds (acc++[e]) ρ4)))->∃acc' ρ',cg fg ft fe ds ρ acc=some (acc',ρ')/\P [] acc' ρ':=by
 intro ds
 induction ds with
 |nil=>
  intro ρ acc h _;exact⟨acc,ρ,rfl,h⟩
 |cons d ds ih=>
  intro ρ acc h step;obtain⟨hl,ρ1,b,ρ2,e1,e2,h2⟩:=step d ds acc ρ h;rcases h2 with⟨rfl,h2⟩ | ⟨rfl,o,ρ3,e,ρ4,e3,e4,h2⟩
  ·obtain⟨acc',ρ',e5,h5⟩:=ih ρ2 acc h2 step
   refine⟨acc',ρ',?_,h5⟩;show (fg d ρ).bind _=_;rw[e1];show (ft ρ1).bind _=_;rw[e2];exact e5
  ·obtain⟨acc',ρ',e5,h5⟩:=ih ρ4 (acc++[e]) h2 step
   refine⟨acc',ρ',?_,h5⟩;show (fg d ρ).bind _=_;rw[e1];show (ft ρ1).bind _=_;rw[e2];show (fe ρ2).bind _=_;rw[e3];show (cU o ρ3).bind _=_;rw[e4];show (if acc.length<lim then _ else _)=_
   rw[if_pos hl];exact e5
end VL
end
section
namespace VL
open PySem PySem.Spec L2 PyProof.Rows
end VL
end
section
namespace L2
open PySem PySem.Spec PyProof.Rows
theorem jD:∀(names:List (Str×Jd))(h:Heap)(acc:List (Str×Addr)){x:Str}{c:Addr},(IF h.objs.size names acc).lookup x=some c->acc.lookup x=some c\/((x,MS)∈names/\h.objs.size<=c/\(pushCells h names).IsCell c none)
 |[],h,acc,x,c,e=>.inl e
 |(n,k)::r,h,acc,x,c,e=>by
  unfold IF at e;unfold pushCells
  split at e
  ·next hk=>
   rw[if_pos hk];have hk':k=.cell:=by simpa using hk
   have e':(IF (h.push { cls:=.type "cell",data:=.cell none }).objs.size r ((n,h.objs.size)::acc)).lookup x=some c:=by rw[HI]; exact e
   rcases jD r _ _ e' with q | ⟨q1,q2,q3⟩
   ·rw[Ia] at q
    by_cases hx:(x == n)=true
    ·rw[hx] at q
     cases q;have hx':x=n:=by simpa using hx
     refine .inr ⟨by rw[hx',hk']; exact lS,D2 _,?_⟩
     exact⟨_,OW _ _ _ _ (Da _ rfl),rfl⟩
    ·have hx':(x == n)=false:=by simpa using hx
     rw[hx'] at q;exact .inl q
   ·rw[HI] at q2
    exact .inr ⟨lO _ q1,NK q2,q3⟩
  ·next hk=>
   rw[if_neg hk];rcases jD r h acc e with q | ⟨q1,q2,q3⟩
   ·exact .inl q
   ·exact .inr ⟨lO _ q1,q2,q3⟩
theorem ic:∀(names:List (Str×Jd))(lo:Nat)(acc:List (Str×Addr)){x:Str},(acc.lookup x).isSome=true->((IF lo names acc).lookup x).isSome=true
 |[],_,_,_,h=>h
 |(n,k)::r,lo,acc,x,h=>by
  unfold IF
  split
  ·refine ic r _ _ ?_
   rw[Ia]
   by_cases hx:(x == n)=true
   ·rw[hx]; rfl
   ·have hx':(x == n)=false:=by simpa using hx
    rw[hx']; exact h
  ·exact ic r _ _ h
theorem qm:∀(names:List (Str×Jd))(lo:Nat)(acc:List (Str×Addr)){x:Str},(x,MS)∈names->((IF lo names acc).lookup x).isSome=true
 |[],_,_,_,h=>by simp at h
 |(n,k)::r,lo,acc,x,h=>by
  unfold IF;rcases lK h with e | h'
  ·cases e
   rw[if_pos (by rfl)]
   refine ic r _ _ ?_;rw[Ia,show (n == n)=true by simp]
   rfl
  ·split
   ·exact qm r _ _ h'
   ·exact qm r _ _ h'
theorem kN:∀(names:List (Str×Jd))(lo:Nat)(acc:List (Str×Addr)){x:Str},(x,MS)∉names->(IF lo names acc).lookup x=acc.lookup x
 |[],_,_,_,_=>rfl
 |(n,k)::r,lo,acc,x,h=>by
  unfold IF
  split
  ·next hk=>
   have hk':k=.cell:=by simpa using hk
   rw[kN r _ _ λz=>h (lO _ z),Ia]
   have hx:(x == n)=false:=beq_eq_false_iff_ne.mpr λe=>h (by rw[e,hk']; exact lS)
   rw[hx]
  ·exact kN r _ _ λz=>h (lO _ z)
theorem qo(lo0:Nat):∀(names:List (Str×Jd))(lo:Nat)(acc acc':List (Str×Addr)){x:Str}{c:Addr},(∀x(c:Addr),acc.lookup x=some c->lo0<=c->acc'.lookup x=some c)->(IF lo names acc).lookup x=some c->lo0<=c->(IF lo names acc').lookup x=some c
 |[],_,_,_,x,c,h,e,hc=>h x c e hc
 |(n,k)::r,lo,acc,acc',x,c,h,e,hc=>by
  unfold IF at e ⊢
  split at e
  ·next hk=>
   rw[if_pos hk];refine qo lo0 r _ _ _ (λy c' q hq=>?_) e hc
   rw[Ia] at q ⊢
   by_cases hy:(y == n)=true
   ·rw[hy] at q ⊢; exact q
   ·have hy':(y == n)=false:=by simpa using hy
    rw[hy'] at q ⊢;exact h y c' q hq
  ·next hk=>
   rw[if_neg hk];exact qo lo0 r _ _ _ h e hc
theorem zG{names:List (Str×Jd)}{h:Heap}{acc:List (Str×Addr)}(lt:∀x(c:Addr),acc.lookup x=some c->c<h.objs.size)(inj:∀x y c,acc.lookup x=some c->acc.lookup y=some c->x=y){x y:Str}{c:Addr}
  (e1:(IF h.objs.size names acc).lookup x=some c) (e2:(IF h.objs.size names acc).lookup y=some c):x=y:=by
 have vac:∀x(c:Addr),acc.lookup x=some c->h.objs.size<=c->([]:List (Str×Addr)).lookup x=some c:=λx c q hq=>absurd (lt x c q) (N7.mpr hq)
 rcases jD names h acc e1 with q1 | ⟨_,q1,_⟩
 ·rcases jD names h acc e2 with q2 | ⟨_,q2,_⟩
  ·exact inj x y c q1 q2
  ·exact absurd (lt x c q1) (N7.mpr q2)
 ·have ok:=cellsFrom_ok names h h.objs.size [] ⟨λ_ _ hm=>(nomatch hm),OB⟩ (D2 _)
  have m1:=qo h.objs.size names _ acc [] vac e1 q1;have m2:=qo h.objs.size names _ acc [] vac e2 q1;exact name_of_addr ok.apart (mem_of_lookup m1) (mem_of_lookup m2)
noncomputable def cA(X:Cx)(scope:Scope)(cl:List (Str×Addr))(N:List Str)(C:Addr)(fp:List Addr)(s:B1)(H:Hp):Cx :=
 { aE X scope cl N C fp s H with fn:=λx=>scope.names.lookup x == some .cell }
structure eF(X:Cx)(scope:Scope)(N:List Str)(fr:List (Option Nat)):Prop where
 kind:scope.kind=.function
 uniq:∀y∈scope.names,scope.names.lookup y.1=some y.2
 free:∀y∈scope.names,y.2=.free->X.env.kindOf y.1=some .cell\/X.env.kindOf y.1=some .free
 len:fr.length=N.length
 fr:∀(i j:Nat)(x:Str),N[i]? = some x->fr[i]? = some (some j)->X.N[j]? = some x/\scope.names.lookup x=some .free
 nd:N.Nodup
theorem iQ{scope:Scope}{env:Env}{x:Str}{k:Jd}:(relabel scope env).names.lookup x=some k->(k=.cell\/k=.free)->scope.names.lookup x=some .free\/scope.names.lookup x=some .cell:=by
 unfold relabel;dsimp only;generalize hn:scope.names=names
 clear hn
 induction names with
 |nil=>intro h; simp at h
 |cons p r ih=>
  obtain⟨n,k0⟩:=p;intro h hk;rw[FC,Ia] at h;rw[Ia]
  by_cases hq:(k0 == Iv && env.scope.kind == .function && env.kindOf n == some .cell)=true
  ·simp only[hq,if_true] at h
   have hf:k0=.free:=by
    rw[IW,IW] at hq;simpa using hq.1.1
   by_cases hx:(x == n)=true
   ·rw[hx]; left; rw[hf]
   ·have hx':(x == n)=false:=by simpa using hx
    rw[hx'] at h ⊢;exact ih h hk
  ·simp only[hq,if_false,GM] at h
   by_cases hx:(x == n)=true
   ·rw[hx] at h ⊢
    have h:some k0=some k:=h;cases h;rcases hk with e | e
    ·right; rw[e]
    ·left; rw[e]
   ·have hx':(x == n)=false:=by simpa using hx
    rw[hx'] at h ⊢;exact ih h hk
section
variable{X:Cx}{pins:List (Addr×Obj)}{σ:St}{H:Hp}{s:B1}{scope:Scope}{N:List Str}{fr:List (Option Nat)}{fp:List Addr}
theorem eF.cells(S:eF X scope N fr)(I:Inv X pins σ H s):∀x∈scope.names,x.2=.free->∃a,X.env.cells.lookup x.1=some a:=λx hx e=>I.ok.has x.1 (S.free x hx e)
theorem oA{h1:Heap}{m:Str->Option Value}{tk:Nat}{cl:List (Str×Addr)}(I:Inv X pins σ H s)(S:eF X scope N fr)(hf:∀b∈fp,gM X pins H b)(hs:∀b∈fp,b<s.heap.objs.size)
  (hns:h1.Ns s.heap.objs.size m) (old:∀b o,s.heap.get? b=some o->h1.get? b=some o)
  (a1:∀x c,cl.lookup x=some c->(ay X.env.cells scope.names []).lookup x=some c\/(s.heap.objs.size<c/\h1.IsCell c none))
  (a2:∀x y c,cl.lookup x=some c->cl.lookup y=some c->x=y) (a3:∀x,scope.names.lookup x=some .cell\/scope.names.lookup x=some .free->∃c,cl.lookup x=some c) (a4:∀x,scope.names.lookup x=some .free->cl.lookup x=(ay X.env.cells scope.names []).lookup x) :
  Inv (cA X scope cl N s.heap.objs.size fp s H) [] (iX fr σ) H { s with heap:=h1,toks:=tk }:=by
 have sub:∀y c,(ay X.env.cells scope.names []).lookup y=some c->X.env.cells.lookup y=some c:=λy c e=>bf scope.names [] (λ_ _ z=>by simp at z) e
 have ok:(cA X scope cl N s.heap.objs.size fp s H).Ok:=by
  refine⟨I.ok.mod,?_,I.ok.glob,I.ok.blt,D2 _,λx y c h1 h2=>a2 x y c h1 h2,λx hx=>?_,λx c z e=>?_,I.ok.hd,I.ok.frames,.inl rfl,λb hb=>⟨?_,λx c e=>?_⟩,λb o e=>I.bs b o e,?_,λb o e hb=>?_,λb hb hs' =>?_,I.stack,I.o4⟩
  ·exact S.kind
  ·have hx:(relabel scope X.env).names.lookup x=some .cell\/(relabel scope X.env).names.lookup x=some .free:=hx
   rcases hx with z | z
   ·exact a3 x ((iQ z (.inl rfl)).symm)
   ·exact a3 x ((iQ z (.inr rfl)).symm)
  ·have z:(scope.names.lookup x == some .cell)=true:=z
   have z':scope.names.lookup x=some .cell:=by simpa using z
   show s.heap.objs.size<=c;rcases a1 x c e with q | ⟨q,_⟩
   ·exfalso
    obtain⟨v,w⟩:=I.cell x c (sub x c q);have hm:∀(names:List (Str×Jd))(cs:List (Str×Addr)){y:Str}{c:Addr},(ay X.env.cells names cs).lookup y=some c->cs.lookup y=some c\/(y,Iv)∈names:=λnames=>by
     induction names with
     |nil=>intro cs y c h; exact .inl h
     |cons p r ih=>
      obtain⟨n,k⟩:=p;intro cs y c h;unfold ay at h
      by_cases hk:(k == Iv)=true
      ·rw[if_pos hk] at h
       have hk':k=.free:=by simpa using hk
       cases ha:X.env.cells.lookup n with
       |none=>
        rw[ha] at h;rcases ih cs h with q | q
        ·exact .inl q
        ·exact .inr (lO _ q)
       |some a=>
        rw[ha] at h;rcases ih _ h with q | q
        ·rw[Ia] at q
         by_cases hy:(y == n)=true
         ·have:y=n:=by simpa using hy
          exact .inr (by rw[this,hk']; exact lS)
         ·have hy':(y == n)=false:=by simpa using hy
          rw[hy'] at q;exact .inl q
        ·exact .inr (lO _ q)
      ·rw[if_neg hk] at h
       rcases ih cs h with q | q
       ·exact .inl q
       ·exact .inr (lO _ q)
    rcases hm _ _ q with q' | q'
    ·simp at q'
    ·have:=S.uniq _ q'
     rw[z'] at this;cases this
   ·exact JI q
  ·exact Db (hs b hb)
  ·rcases a1 x c e with q | ⟨q,_⟩
   ·exact(hf b hb).2.2.2.2.1 x c (sub x c q)
   ·exact KC (MG (hs b hb) q)
  ·exact Ip I.ok.bsz I.sz
  ·have e:X.base.get? b=some o:=e
   rcases (hf b hb).2.2.2.1 with z | z
   ·exact I.ok.noex b o e z
   ·exact absurd (Fk (Ch e) (Ip I.ok.bsz z)) (KF _)
  ·rcases lK (I.gk b hs') with z | z
   ·exact(hf b hb).2.1 z
   ·exact(hf b hb).2.2.1 z
 refine⟨ok,rfl,I.bare,Un.kept old,⟨m,hns,λi x v h1' h2 h3=>?_⟩,λx c e=>?_,I.hok.fresh (D2 _),λx c e=>?_,λp hp=>absurd (show p∈([]:List (Addr×Obj)) from hp) (by simp),I.hok.kept old,?_⟩
 ·have h1':N[i]? = some x:=h1'
  have h2:(iX fr σ)[i]? = some (some v):=h2;unfold iX at h2;rw[IC] at h2;cases e:fr[i]? with
  |none=>rw[e] at h2; cases h2
  |some o=>
   rw[e] at h2;cases o with
   |none=>cases h2
   |some j=>
    obtain⟨hj,hx⟩:=S.fr i j x h1' e;have h2:some (match σ[j]? with | some v=>v | none=>none)=some (some v):=h2
    injection h2 with h2
    cases ej:σ[j]? with
    |none=>rw[ej] at h2; cases h2
    |some w' =>
     rw[ej] at h2;have h2:w'=some v:=h2;subst h2;have hk:=S.free _ (aM hx) rfl;obtain⟨m0,hn0,hl⟩:=I.loc;have vis:AH X.env.scope x:=by
      rcases hk with z | z
      ·exact .inr (.inl z)
      ·exact .inr (.inr z)
     obtain⟨u,r,l⟩:=hl j x v hj ej vis;refine⟨u,r,?_⟩;rcases l with⟨k,_⟩ | ⟨_,c,ec,z⟩
     ·exfalso
      rcases hk with q | q
      ·have:=k.symm.trans q; cases this
      ·have:=k.symm.trans q; cases this
     ·have hm:=aM hx
      obtain⟨c',ec'⟩:=Iz.mp (dP (cells:=X.env.cells) scope.names [] hm (by rw[ec]; rfl))
      have:c'=c:=by
       have q:=sub x c' ec';rw[ec] at q;cases q;rfl
      subst this;refine .inr ⟨jm hx,c',(a4 x hx).trans ec',?_⟩;obtain⟨o,ho,hd⟩:=z;exact⟨o,old _ o ho,hd⟩
 ·rcases a1 x c e with q | ⟨_,q⟩
  ·obtain⟨v,o,ho,hd⟩:=I.cell x c (sub x c q)
   exact⟨v,o,old _ o ho,hd⟩
  ·exact⟨none,q⟩
 ·rcases a1 x c e with q | ⟨q,_⟩
  ·exact I.freeC x c (sub x c q)
  ·exact I.hok.fresh (JI q)
 ·show (iX fr σ).length=N.length
  unfold iX;rw[BM,S.len]
end
theorem vt{prog:Fm}{w:World}{A:ID}{E:Value->B1->Prop}{s:B1}{scope:Scope}{globals:Addr}{closure:List (Str×Addr)}{qual:Str}{func:Option Addr}{code:Value}{outer:Env}{builtins:Addr}{Q:Env->B1->Prop}(hk:scope.kind=.function)
  (hQ:∀h',h'.Ns s.heap.objs.size (λ_=>none)->(∀b o,s.heap.get? b=some o->h'.get? b=some o)->(∀x c,(IF (s.heap.objs.size+1) scope.names closure).lookup x=some c->closure.lookup x=some c\/(s.heap.objs.size+1<=c/\h'.IsCell c none)) ->
   Q (newEnv scope s.heap.objs.size globals (IF (s.heap.objs.size+1) scope.names closure) qual func code (some outer) builtins) { s with heap:=h' }) :
  wpAny (model prog w) A (newFunctionEnv scope globals closure [] qual func code (some outer) builtins) Q E s:=by
 simp only[newFunctionEnv,P9,if_true];refine AC (wpAny_alloc ?_);refine AC (wpAny_layCells _ (λname kind cells=>by cases hkc:kind == MS <;> simp[hkc]) _ _ _ _ ?_)
 have sz:(s.heap.push { cls:=.type "dict",data:=.dict #[] }).objs.size=s.heap.objs.size+1:=HI ..;rw[show ({ s with heap:=s.heap.push { cls:=.type "dict",data:=.dict #[] } }:B1).heap.objs.size=s.heap.objs.size+1 from sz]
 refine AC (At (At ?_));refine hQ _ ((Heap.Ns.new s.heap (.type "dict")).keeps (OW _ _)) (λb o e=>OW _ _ b o (Ap _ e)) λx c e=>?_
 have e':(IF (s.heap.push { cls:=.type "dict",data:=.dict #[] }).objs.size scope.names closure).lookup x=some c:=by rw[sz]; exact e
 rcases jD _ _ _ e' with q | ⟨_,q1,q2⟩
 ·exact .inl q
 ·rw[sz] at q1
  exact .inr ⟨q1,q2⟩
section
variable{X:Cx}
theorem oE{pins:List (Addr×Obj)}{σ τ:St}{H1 H3 H':Hp}{s2 s3 s':B1}{fp:List Addr}{scope:Scope}{cl:List (Str×Addr)}{N:List Str}{h':Heap}
  (I2:Inv X pins σ H1 s2) (hf:∀b∈fp,gM X pins H1 b) (u23:Un (frs X.stack) [] H1 H3 s2.heap s3.heap) (ho:s3.os=s2.os) (hs:s2.heap.objs.size<=s3.heap.objs.size)
  (J:Inv (cA X scope cl N s3.heap.objs.size fp s3 H3) [] τ H' s') (sb:JG s3.heap.objs.size s'.heap h'):Inv X pins σ H' { s' with heap:=h' }:=by
 have hC:H' s3.heap.objs.size=none:=J.free;have hbase:Un (frs X.stack) fp H3 H' s3.heap s'.heap:=J.base;have u3:Un (frs X.stack) fp H1 H' s2.heap s'.heap:=(u23.mono (λ_ z=>z) (λ_ z=>nomatch z)).trans hbase
 have ne:∀b o,s2.heap.get? b=some o->b≠s3.heap.objs.size:=λb o e=>Db (Fk (Ch e) hs)
 have u:Un (frs X.stack) fp H1 H' s2.heap h':=⟨λb o e n h1 h2=>(sb.2 b (ne b o e)).trans (u3.keep b o e n h1 h2),λb o e n h1 h2=>by
   obtain⟨sl,q⟩:=u3.slot b o e n h1 h2;exact⟨sl,(sb.2 b (ne b o e)).trans q⟩,u3.free,λb o e h2=>by
   obtain⟨o',q⟩:=u3.there b o e h2;exact⟨o',(sb.2 b (ne b o e)).trans q⟩,u3.tups,u3.dG,u3.tbls⟩
 have hok:iH X.prog X.w H' h':=λb ob e=>by
  have q:cy X.prog X.w H' s'.heap b ob:=J.hok b ob e;refine q.stay (λc w' hc q=>(sb.2 c ?_).trans q) (λ_ q=>q) λ_ _ q=>q
  intro z;rw[z] at hc;rcases hc with rfl | hc
  ·rw[hC] at e; cases e
  ·rw[hC] at hc; cases hc
 refine I2.CB (s':={ s' with heap:=h' }) (H':=H') (ch:=fp) (J.os.trans ho) u hok J.bare λb hb=>?_
 obtain⟨_,f1,_,f3,f4,f5⟩:=hf b hb;exact⟨f3,f1,f4,f5⟩
theorem pe_lcC{elt target iter:Expr}{ifs:List Expr}{scope:Scope}{pos:Pos}{N:List Str}{fr:List (Option Nat)}{wi:TI}{g:Bk->TG}{tt:Bk->TT}{te:Bk->TE}(hc:X.calm=true)(S:eF X scope N fr)(hi:PI X target iter wi)
  (hin:∀z:Bk,PG (cA X scope z.cl N z.C z.fp z.s z.H) target (g z)/\pI (cA X scope z.cl N z.C z.fp z.s z.H) ifs (tt z)/\PE (cA X scope z.cl N z.C z.fp z.s z.H) elt (te z))
  (hs:∀x,IP iter X.env x=pure x:=by intro _; rfl):PE X (.ListComp elt [⟨target,iter,ifs,0⟩] scope pos) (CJ fr wi g tt te):=by
 intro pins s σ H Q I h;rw[eval_ListComp];refine KO (g:=⟨target,iter,ifs,0⟩) (gs:=[]) (use:=none) rfl hs (bT (S.cells I)) S.kind (λy hy e=>by rw[S.uniq y hy,e]) ?_
 refine bw (hi pins s σ H _ I h) λv s1 h1=>bw h1 λitv s2 h2=>?_
 obtain⟨it,fp,tn,J,H2,e,I2,T,st2,f2,h2⟩:=h2;subst e;refine IB ?_;have hD:H2 s2.heap.objs.size=none:=I2.fresh;have I3:=I2.ye (t':=s2.toks) (ys:=[]) (its:=[]) .nil (Hn _);have lt2:∀b∈fp,b<s2.heap.objs.size:=λb hb=>by
  obtain⟨o,e,_⟩:=T.obj _ _ st2 b hb;exact Ch e
 have f3:∀b∈fp,gM X pins (upd H2 s2.heap.objs.size (.lst [])) b:=λb hb=>⟨by rw[aC (Db (lt2 b hb))]; exact(f2 b hb).1,(f2 b hb).2⟩
 generalize hs3:({ s2 with heap:=s2.heap.push { cls:=.type "list",data:=.seq ([]:List Value).toArray } }:B1)=s3
 have I3:Inv X pins σ (upd H2 s2.heap.objs.size (.lst [])) s3:=by rw[<-hs3]; exact I3
 have sz3:s3.heap.objs.size=s2.heap.objs.size+1:=by rw[<-hs3]; exact HI ..
 have u23:Un (frs X.stack) [] H2 (upd H2 s2.heap.objs.size (.lst [])) s2.heap s3.heap:=by
  rw[<-hs3];exact Un.laid (λb o e=>Ap _ e) (D2 _) hD
 have ho:s3.os=s2.os:=by rw[<-hs3]
 have st3:tn 0 s3.heap:=T.keep _ _ _ st2 λb _ o e=>by rw[<-hs3]; exact Ap _ e
 refine vt S.kind λh4 hns old4 hcl=>?_
 have lt3:∀b∈fp,b<s3.heap.objs.size:=λb hb=>Fk (lt2 b hb) (by rw[sz3]; exact Iq _)
 have clt:∀x(c:Addr),(ay X.env.cells scope.names []).lookup x=some c->c<s3.heap.objs.size+1:=λx c e=>by
  obtain⟨v,w⟩:=I3.cell x c (bf scope.names [] (λ_ _ z=>by simp at z) e)
  exact JJ w.lt
 have I4:=oA (cl:=(IF (s3.heap.objs.size+1) scope.names (ay X.env.cells scope.names []))) (tk:=s3.toks) I3 S f3 lt3 hns old4 (λx c e=>(hcl x c e).imp id λq=>⟨QA q.1,q.2⟩)
  (λx y c e1 e2=>by
   have e1':(IF (s3.heap.push { cls:=.type "dict",data:=.dict #[] }).objs.size scope.names (ay X.env.cells scope.names [])).lookup x=some c:=by rw[HI]; exact e1
   have e2':(IF (s3.heap.push { cls:=.type "dict",data:=.dict #[] }).objs.size scope.names (ay X.env.cells scope.names [])).lookup y=some c:=by rw[HI]; exact e2
   exact zG (λx c e=>by rw[HI]; exact clt x c e) (λx y c h1 h2=>I3.ok.inj x y c (bf scope.names [] (λ_ _ z=>by simp at z) h1) (bf scope.names [] (λ_ _ z=>by simp at z) h2)) e1' e2')
  (λx hx=>by
   rcases hx with hx | hx
   ·exact Iz.mp (qm _ _ _ (aM hx))
   ·obtain⟨a,ha⟩:=S.cells I3 _ (aM hx) rfl
    exact Iz.mp (ic _ _ _ (dP scope.names [] (aM hx) (by show (X.env.cells.lookup x).isSome=true; rw[show X.env.cells.lookup x=some a from ha]; rfl))))
  (λx hx=>kN _ _ _ λz=>by have:=S.uniq _ z; rw[hx] at this; cases this)
 have st4:tn 0 h4:=T.keep _ _ _ st3 λb _ o e=>old4 b o e
 have h2:=h2 _ hD ⟨(IF (s3.heap.objs.size+1) scope.names (ay X.env.cells scope.names [])),s3.heap.objs.size,fp,s3,upd H2 s2.heap.objs.size (.lst [])⟩;obtain⟨hg,hif,hel⟩:=hin ⟨(IF (s3.heap.objs.size+1) scope.names (ay X.env.cells scope.names [])),s3.heap.objs.size,fp,s3,upd H2 s2.heap.objs.size (.lst [])⟩;have loop:Kl (model X.prog X.w) X.A (.compLoop (.ListComp elt [⟨target,iter,ifs,0⟩] scope pos) 0 (.ref it) (.ref s2.heap.objs.size) (La scope (IF (s3.heap.objs.size+1) scope.names (ay X.env.cells scope.names [])) s3.heap.objs.size X.env))
   (Op (model X.prog X.w) X.A X.xe none (EP X pins σ Q) (.ref s2.heap.objs.size) s3.heap.objs.size) { s3 with heap:=h4,toks:=s3.toks }:=by
  refine fU (X:=cA X scope (IF (s3.heap.objs.size+1) scope.names (ay X.env.cells scope.names [])) N s3.heap.objs.size fp s3 (upd H2 s2.heap.objs.size (.lst []))) (em:=(do let _ <-call (.builtin "list.append") [.ref s2.heap.objs.size,<-eval elt (La scope (IF (s3.heap.objs.size+1) scope.names (ay X.env.cells scope.names [])) s3.heap.objs.size X.env)]))
   (NO ..) (λ_ _ _ z=>z) rfl hc rfl hg hif (pJ hel) T I4 st4 (λb hb=>?_) h2 (λτ' H' s' J' q=>?_)
  ·obtain⟨f0,f1,fs,fe,fc,fp'⟩:=f3 b hb
   refine⟨f0,Db (lt3 b hb),λz=>?_,.inl hb,λx c e=>(by
    rcases hcl x c e with q | q
    ·exact fc x c (bf scope.names [] (λ_ _ z=>by simp at z) q)
    ·exact KC (Fk (lt3 b hb) (NK q.1))),λp hp=>absurd (show p∈([]:List (Addr×Obj)) from hp) (by simp)⟩
   rcases lK (I3.gk b z) with z | z
   ·exact f1 z
   ·exact fs z
  ·obtain⟨m,hn,_⟩:=J'.loc
   exact⟨m,hn,λh' sb=>⟨.ref s2.heap.objs.size,H',oE I2 f2 u23 ho (by rw[sz3]; exact Iq _) J' sb,rfl,q⟩⟩
 exact LH loop (T.self X.A 0 _ _ _ st4 loop)
theorem vz{i:Nat}{x:Str}{elt target iter:Expr}{ifs:List Expr}{scope:Scope}{pos pos' spos:Pos}{N:List Str}{fr:List (Option Nat)}{wi:TI}{g:Bk->TG}{tt:Bk->TT}{te:Bk->TE}(hN:X.N.Nodup)(hi':X.N[i]? = some x)(hx:X.env.scope.names.lookup x=some .local)
  (hc:X.calm=true) (S:eF X scope N fr) (hi:PI X target iter wi)
  (hin:∀z:Bk,PG (cA X scope z.cl N z.C z.fp z.s z.H) target (g z)/\pI (cA X scope z.cl N z.C z.fp z.s z.H) ifs (tt z)/\PE (cA X scope z.cl N z.C z.fp z.s z.H) elt (te z))
  (hs:∀x,IP iter X.env x=pure x:=by intro _; rfl) (hsw:K6 (.ListComp elt [⟨target,iter,ifs,0⟩] scope pos) (some (.Name x pos')) spos.line X.env=pure true:=by rfl) :
  PS X (.Assign [.Name x pos'] (.ListComp elt [⟨target,iter,ifs,0⟩] scope pos) spos) (ng (CJ fr wi g tt te) (uF i)):=by
 intro pins s σ H Dn I h;rw[Q8 _ _ _ _ hsw];refine AC (Ki (AC ?_));show wpAny _ X.A (do let _ <-PJ (.ListComp elt [⟨target,iter,ifs,0⟩] scope pos) scope X.env (Po [⟨target,iter,ifs,0⟩] pos) (newList []) (Qq [⟨target,iter,ifs,0⟩]) (firstIter [⟨target,iter,ifs,0⟩] X.env) (some (LS (.Name x pos') X.env))) _ _ s
 refine AC (K1 (KO (g:=⟨target,iter,ifs,0⟩) (gs:=[]) (use:=some (LS (.Name x pos') X.env)) (Q:=λ_ s'=>SP X pins Dn .next s') (E:=X.xe) rfl hs (bT (S.cells I)) S.kind (λy hy e=>by rw[S.uniq y hy,e]) ?_) (λ_ s' hq=>At (At hq)) λ_ _ e=>e)
 refine bw (hi pins s σ H _ I h) λv s1 h1=>bw h1 λitv s2 h2=>?_
 obtain⟨it,fp,tn,J,H2,e,I2,T,st2,f2,h2⟩:=h2;subst e;refine IB ?_;have hD:H2 s2.heap.objs.size=none:=I2.fresh;have I3:=I2.ye (t':=s2.toks) (ys:=[]) (its:=[]) .nil (Hn _);have lt2:∀b∈fp,b<s2.heap.objs.size:=λb hb=>by
  obtain⟨o,e,_⟩:=T.obj _ _ st2 b hb;exact Ch e
 have f3:∀b∈fp,gM X pins (upd H2 s2.heap.objs.size (.lst [])) b:=λb hb=>⟨by rw[aC (Db (lt2 b hb))]; exact(f2 b hb).1,(f2 b hb).2⟩
 generalize hs3:({ s2 with heap:=s2.heap.push { cls:=.type "list",data:=.seq ([]:List Value).toArray } }:B1)=s3
 have I3:Inv X pins σ (upd H2 s2.heap.objs.size (.lst [])) s3:=by rw[<-hs3]; exact I3
 have sz3:s3.heap.objs.size=s2.heap.objs.size+1:=by rw[<-hs3]; exact HI ..
 have u23:Un (frs X.stack) [] H2 (upd H2 s2.heap.objs.size (.lst [])) s2.heap s3.heap:=by
  rw[<-hs3];exact Un.laid (λb o e=>Ap _ e) (D2 _) hD
 have ho:s3.os=s2.os:=by rw[<-hs3]
 have st3:tn 0 s3.heap:=T.keep _ _ _ st2 λb _ o e=>by rw[<-hs3]; exact Ap _ e
 refine vt S.kind λh4 hns old4 hcl=>?_
 have lt3:∀b∈fp,b<s3.heap.objs.size:=λb hb=>Fk (lt2 b hb) (by rw[sz3]; exact Iq _)
 have clt:∀x(c:Addr),(ay X.env.cells scope.names []).lookup x=some c->c<s3.heap.objs.size+1:=λx c e=>by
  obtain⟨v,w⟩:=I3.cell x c (bf scope.names [] (λ_ _ z=>by simp at z) e)
  exact JJ w.lt
 have I4:=oA (cl:=(IF (s3.heap.objs.size+1) scope.names (ay X.env.cells scope.names []))) (tk:=s3.toks) I3 S f3 lt3 hns old4 (λx c e=>(hcl x c e).imp id λq=>⟨QA q.1,q.2⟩)
  (λx y c e1 e2=>by
   have e1':(IF (s3.heap.push { cls:=.type "dict",data:=.dict #[] }).objs.size scope.names (ay X.env.cells scope.names [])).lookup x=some c:=by rw[HI]; exact e1
   have e2':(IF (s3.heap.push { cls:=.type "dict",data:=.dict #[] }).objs.size scope.names (ay X.env.cells scope.names [])).lookup y=some c:=by rw[HI]; exact e2
   exact zG (λx c e=>by rw[HI]; exact clt x c e) (λx y c h1 h2=>I3.ok.inj x y c (bf scope.names [] (λ_ _ z=>by simp at z) h1) (bf scope.names [] (λ_ _ z=>by simp at z) h2)) e1' e2')
  (λx hx=>by
   rcases hx with hx | hx
   ·exact Iz.mp (qm _ _ _ (aM hx))
   ·obtain⟨a,ha⟩:=S.cells I3 _ (aM hx) rfl
    exact Iz.mp (ic _ _ _ (dP scope.names [] (aM hx) (by show (X.env.cells.lookup x).isSome=true; rw[show X.env.cells.lookup x=some a from ha]; rfl))))
  (λx hx=>kN _ _ _ λz=>by have:=S.uniq _ z; rw[hx] at this; cases this)
 have st4:tn 0 h4:=T.keep _ _ _ st3 λb _ o e=>old4 b o e
 have h2:=h2 _ hD ⟨(IF (s3.heap.objs.size+1) scope.names (ay X.env.cells scope.names [])),s3.heap.objs.size,fp,s3,upd H2 s2.heap.objs.size (.lst [])⟩;obtain⟨hg,hif,hel⟩:=hin ⟨(IF (s3.heap.objs.size+1) scope.names (ay X.env.cells scope.names [])),s3.heap.objs.size,fp,s3,upd H2 s2.heap.objs.size (.lst [])⟩;have loop:Kl (model X.prog X.w) X.A (.compLoop (.ListComp elt [⟨target,iter,ifs,0⟩] scope pos) 0 (.ref it) (.ref s2.heap.objs.size) (La scope (IF (s3.heap.objs.size+1) scope.names (ay X.env.cells scope.names [])) s3.heap.objs.size X.env))
   (Op (model X.prog X.w) X.A X.xe (some (LS (.Name x pos') X.env)) (λ_ s'=>SP X pins Dn .next s') (.ref s2.heap.objs.size) s3.heap.objs.size) { s3 with heap:=h4,toks:=s3.toks }:=by
  refine fU (X:=cA X scope (IF (s3.heap.objs.size+1) scope.names (ay X.env.cells scope.names [])) N s3.heap.objs.size fp s3 (upd H2 s2.heap.objs.size (.lst []))) (em:=(do let _ <-call (.builtin "list.append") [.ref s2.heap.objs.size,<-eval elt (La scope (IF (s3.heap.objs.size+1) scope.names (ay X.env.cells scope.names [])) s3.heap.objs.size X.env)]))
   (NO ..) (λ_ _ _ z=>z) rfl hc rfl hg hif (pJ hel) T I4 st4 (λb hb=>?_) h2 (λτ' H' s' J' q=>?_)
  ·obtain⟨f0,f1,fs,fe,fc,fp'⟩:=f3 b hb
   refine⟨f0,Db (lt3 b hb),λz=>?_,.inl hb,λx c e=>(by
    rcases hcl x c e with q | q
    ·exact fc x c (bf scope.names [] (λ_ _ z=>by simp at z) q)
    ·exact KC (Fk (lt3 b hb) (NK q.1))),λp hp=>absurd (show p∈([]:List (Addr×Obj)) from hp) (by simp)⟩
   rcases lK (I3.gk b z) with z | z
   ·exact f1 z
   ·exact fs z
  ·obtain⟨m,hn,_⟩:=J'.loc
   have Io:Inv X pins σ H' s':=oE (h':=s'.heap) I2 f2 u23 ho (by rw[sz3]; exact Iq _) J' (LO ..)
   have Lne:X.env.locals≠s3.heap.objs.size:=Db I3.lt;have v8:∀y c,X.env.cells.lookup y=some c->c≠s3.heap.objs.size:=λy c e=>by
    obtain⟨v,z⟩:=I3.cell y c e;exact Db z.lt
   show wpAny (model X.prog X.w) X.A (LS (.Name x pos') X.env (.ref s2.heap.objs.size)) _ X.xe s';refine Nk (jK (v:=.ref s2.heap.objs.size) Io hN hi' (.inl hx) rfl (λs5 I5 sb5=>?_) (.inr hx))
   obtain⟨b,sb,hb⟩:=sb5;have hbne:s3.heap.objs.size≠b:=by
    rcases hb with e | e
    ·rw[e]; exact Lne.symm
    ·exact(v8 _ _ e).symm
   refine⟨m,hn.sameBut sb hbne,λh' sb'=>⟨_,H',?_,q⟩⟩
   refine I5.yK (C:=s3.heap.objs.size) J'.free Lne.symm I3.sz v8 (λp hp=>?_) sb'
   exact Db (Ch (I3.pin p hp).1)
 exact LH loop (T.self X.A 0 _ _ _ st4 loop)
end
noncomputable def vD(sc0:Scope)(N0:List Str)(scope:Scope)(N:List Str)(fr:List (Option Nat)):Bool :=
 (scope.kind == .function) && scope.names.all (λy=>scope.names.lookup y.1 == some y.2) &&
 scope.names.all (λy=>y.2 != .free || (sc0.names.lookup y.1 == some .cell || sc0.names.lookup y.1 == some .free)) && (fr.length == N.length) &&
 (N.zip fr).all (λp=>match p.2 with | none=>true | some j=>N0[j]? == some p.1 && scope.names.lookup p.1 == some .free) && decide N.Nodup
theorem eF.of{X:Cx}{sc0:Scope}{N0:List Str}{scope:Scope}{N:List Str}{fr:List (Option Nat)}(h1:X.env.scope=sc0)(h2:X.N=N0)(h:vD sc0 N0 scope N fr=true):eF X scope N fr:=by
 unfold vD at h;simp only[IW] at h;obtain⟨⟨⟨⟨⟨k1,k3⟩,k4⟩,k5⟩,k6⟩,k7⟩:=h;rw[K2] at k3 k4 k6;refine⟨by simpa using k1,λy hy=>by simpa using k3 y hy,λy hy e=>?_,by simpa using k5,λi j x hi hj=>?_,of_decide_eq_true k7⟩
 ·have:=k4 y hy
  rw[e] at this;have t:sc0.names.lookup y.1=some .cell\/sc0.names.lookup y.1=some .free:=by simpa using this
  show X.env.scope.names.lookup y.1=_\/X.env.scope.names.lookup y.1=_;rw[h1];exact t
 ·have hm:(x,some j)∈N.zip fr:=by
   have hz:(N.zip fr)[i]? = some (x,some j):=by rw[Kq]; exact⟨hi,hj⟩
   exact IS hz
  have:=k6 _ hm;simp only[IW] at this;rw[h2];exact⟨by simpa using this.1,by simpa using this.2⟩
end L2
end
section
namespace VL
open PySem PySem.Spec L2 PyProof.Rows
end VL
end
section
namespace L2
open PySem PySem.W PyProof.Rows PySem.Calls
end L2
end
section
namespace VL
open PySem PySem.Spec L2 PyProof.Rows
section
variable{X:Cx}{pos:Pos}{pin:List Nat}
noncomputable def ie(n:Nat)(js:List Nat)(i:Nat)(fg:FG)(ft:FT)(fe:FE):FE:=λρ=>match cS ρ i with
 |some (.lst ds)=>if i∈js then none else (caps ρ js).bind λos=>(cD os ρ).bind λq=>
  (cg fg ft fe ds (FK n none++q.1.map some) []).bind λr=>(fin (FK js.length true) q.1 (r.2.drop n)).bind λms'=>some (.t (.lst r.1),fP os ms' q.2)
 |_=>tU n js (bR (aa i)) fg ft fe ρ
structure ItAt(K:AT)(J:It)(H:Hp)(Z:Zs)(a:Addr)(xs:List V)(ds:List B2):Prop where
 go:∀H2 Z2,aL H Z H2 Z2->H2 a=some (.lst xs)->∀k d,ds[k]? = some d->J.go k H2/\∀x H',J.yld k H2 x H'->bD H2 H'/\Fz K H' Z2 x d
 stop:∀H2 Z2,aL H Z H2 Z2->H2 a=some (.lst xs)->∀k,ds.length<=k->J.stop k H2
theorem it_at{K:AT}{H:Hp}{Z:Zs}{a:Addr}{xs:List V}{ds:List B2}(r:bF K H Z xs ds):ItAt K (Gp K a) H Z a xs ds:=by
 refine⟨λH2 Z2 g e k d hd=>?_,λH2 Z2 g e k hk=>⟨xs,fB.of e,by rw[r.length]; exact hk⟩⟩
 obtain⟨x,hx,fx⟩:=(r.mono g).get' hd;exact⟨⟨xs,x,fB.of e,hx⟩,λy H' ⟨hH,hy⟩=>by
  subst hH;have:=hy xs (fB.of e);rw[hx] at this;cases this;exact⟨bD.refl _,fx⟩⟩
theorem rF{ρ:Ev}:∀{js:List Nat}{os:List cR},caps ρ js=some os->∀j,cR.p j∈os->j∈js
 |[],_,e,j,h=>by cases e; cases h
 |k::js,_,e,j,h=>by
  obtain⟨o,e1,e⟩:=oB e;obtain⟨os,e2,e⟩:=oB e;cases e;rcases lK h with z | z
  ·subst z
   unfold cap at e1
   split at e1
   ·cases e1
   ·cases e1; exact lS
   ·cases e1
  ·exact lO _ (rF e2 j z)
theorem rG{ρ:Ev}:∀{js:List Nat}{os:List cR},caps ρ js=some os->∀j k,cR.q j k∉os
 |[],_,e,j,k,h=>by cases e; cases h
 |k'::js,_,e,j,k,h=>by
  obtain⟨o,e1,e⟩:=oB e;obtain⟨os,e2,e⟩:=oB e;cases e;rcases lK h with z | z
  ·subst z
   unfold cap at e1
   split at e1 <;> cases e1
  ·exact rG e2 j k z
theorem zH{ρ:Ev}{i j:Nat}(h:i≠j):cS (ρ.set j none) i=cS ρ i:=by
 unfold cS;rw[MX (Kr h)]
theorem t9{i:Nat}:∀{os:List cR}{ρ ρ':Ev}{ms:List M},(∀j,cR.p j∈os->i≠j)->(∀j k,cR.q j k∉os)->cD os ρ=some (ms,ρ')->cS ρ' i=cS ρ i:=by
 intro os
 induction os with
 |nil=>intro ρ ρ' ms _ _ e; cases e; rfl
 |cons o os ih=>
  intro ρ ρ' ms h hq e;have h':=λj hj=>h j (lO _ hj)
  have hq':=λj k hj=>hq j k (lO _ hj)
  cases o with
  |t m=>
   have e:(cD os ρ).bind _=_:=e;obtain⟨⟨ms,ρ1⟩,e1,e⟩:=oB e;cases e;exact ih h' hq' e1
  |p k=>
   obtain⟨m,e0,e⟩:=oB e;obtain⟨⟨ms,ρ1⟩,e1,e⟩:=oB e;cases e;rw[ih h' hq' e1,zH (h k lS)]
  |q j k=>exact absurd lS (hq j k)
theorem rH{i:Nat}{js:List Nat}{os:List cR}{ρ ρ':Ev}{ms:List M}(hi:i∉js)(h1:caps ρ js=some os)(h2:cD os ρ=some (ms,ρ')):cS ρ' i=cS ρ i :=
 t9 (λj hj e=>hi (e▸rF h1 j hj)) (rG h1) h2
theorem zI{a0:Addr}{xs0:List V}{n:Nat}{pv:Pv}{fg:FG}{ft:FT}{fe:FE}{J:It}{ds:List B2}{D:Addr}{τ:L2.St}{H1:Hp}{Z1:Zs}{A:List Addr}{ρ0:Ev}{r:List B2×Ev}{Q:Hp->Prop}(hD:H1 D=none)(S:aR X.K H1 Z1 τ ρ0 A)(w:Wf H1 Z1 A)(P:Pin pv τ)(hJ:ItAt X.K J H1 Z1 a0 xs0 ds)(ha0:H1 a0=some (.lst xs0))(haA:a0∉A)(e:cg fg ft fe ds ρ0 []=some r)
  (q:∀τ' H' Z' F' xs,aR X.K H' Z' τ' r.2 F'->Pin pv τ'->H' D=some (.lst xs)->bF X.K H' Z' xs r.1->aH H1 Z1 A H' Z' (F'++[D])->Q H'):nX (vG X.K pv fg) (vT X.K ft) (eApp D (vE X.K fe)) J τ (upd H1 D (.lst [])) Q:=by
 have n0:=aH.pZ (o:=.lst []) hD w.za;exact zm (Q:=λ_=>Q) (S.news n0) P aB .nil (n0.news w S.al) (λH2 Z2 _ f=>hJ.go H2 Z2 (f.grow w) (f.keep a0 _ haA ha0)) (λH2 Z2 _ f=>hJ.stop H2 Z2 (f.grow w) (f.keep a0 _ haA ha0)) e q
theorem B5{n:Nat}{js:List Nat}{i:Nat}{fg:FG}{ft:FT}{fe:FE}{σ:L2.St}{H:Hp}{Q:VK}{fr:List (Option Nat)}{Z:Zs}{ρ:Ev}{F:List Addr}{o:cR}{ρ':Ev}{ds:List B2}(hfr:fr=FK n none++js.map some)(S:aR X.K H Z σ ρ F)(w:Wf H Z F)(e0:cS ρ i=some (.lst ds))(e:ie n js i fg ft fe ρ=some (o,ρ'))
  (q:∀x H' Z' F' G,aR X.K H' Z' σ ρ' F'->mY X.K H' Z' σ x o G->aH H Z F H' Z' (F'++G)->Q x H') :
  CJ fr (xV X.K (fm i)) (λ_=>vG X.K (gA n js σ) fg) (λ_=>vT X.K ft) (λ_=>vE X.K fe) σ H Q:=by
 subst hfr;unfold ie at e;rw[e0] at e;dsimp only at e
 split at e
 ·cases e
 next hij=>
 obtain⟨os,e2,e⟩:=oB e;obtain⟨⟨ms,ρh⟩,e3,e⟩:=oB e;obtain⟨⟨acc,ρi⟩,e4,e⟩:=oB e;obtain⟨ms',e5,e⟩:=oB e;cases e;obtain⟨x,G,hx,hG,_⟩:=S.get (aF.mp e0);obtain⟨a,xsa,rfl,hxa,fzx⟩:=(show Ro X.K H Z x (.lst ds) from⟨G,hG⟩).lst
 refine⟨.ref a,hx,a,rfl,⟨xsa,fB.of hxa⟩,λD hD z=>?_⟩
 obtain⟨τ,A,Fh,eτ,S0,wA,P0,h2,n3,back⟩:=jb (n:=n) S (aH.refl w) e2 e3;rw[eτ];obtain⟨x',G',g1,g2,g3⟩:=h2.get (aF.mp ((rH hij e2 e3).trans e0));rw[hx] at g1;cases g1;have haA:a∉A:=λz=>by
  cases g2 with
  |lst _ _=>exact n3 a (g3 a lS) z
 refine zI (n:=n) hD S0 wA P0 (it_at fzx) hxa haA e4 λτ' H2 Z2 F2 ys S2 P2 d2 z2 f2=>?_
 obtain⟨F4,p1,f4⟩:=back _ _ _ _ _ _ _ S2 P2 f2 e5;exact q (.ref D) H2 Z2 F4 [D] p1 (.t (.lst d2 z2)) f4
theorem zJ{n:Nat}{js:List Nat}{i:Nat}{fg:FG}{ft:FT}{fe:FE}{σ:L2.St}{H:Hp}{Q:VK}{fr:List (Option Nat)}(hfr:fr=FK n none++js.map some)(hq:vE X.K (ie n js i fg ft fe) σ H Q) :
  CJ fr (xV X.K (fm i)) (λ_=>vG X.K (gA n js σ) fg) (λ_=>vT X.K ft) (λ_=>vE X.K fe) σ H Q\/CJ fr (vI X.K (bR (aa i))) (λ_=>vG X.K (gA n js σ) fg) (λ_=>vT X.K ft) (λ_=>vE X.K fe) σ H Q:=by
 obtain⟨Z,ρ,F,o,ρ',S,w,e,q⟩:=hq;cases e0:cS ρ i with
 |none=>
  right;refine jc hfr ⟨Z,ρ,F,o,ρ',S,w,?_,q⟩;unfold ie at e;rw[e0] at e;exact e
 |some m=>
  cases m with
  |lst ds=>exact .inl (B5 hfr S w e0 e q)
  |v d=>
   right;refine jc hfr ⟨Z,ρ,F,o,ρ',S,w,?_,q⟩;unfold ie at e;rw[e0] at e;exact e
  |aA d=>
   right;refine jc hfr ⟨Z,ρ,F,o,ρ',S,w,?_,q⟩;unfold ie at e;rw[e0] at e;exact e
  |dtp d=>
   right;refine jc hfr ⟨Z,ρ,F,o,ρ',S,w,?_,q⟩;unfold ie at e;rw[e0] at e;exact e
  |bW d=>
   right;refine jc hfr ⟨Z,ρ,F,o,ρ',S,w,?_,q⟩;unfold ie at e;rw[e0] at e;exact e
theorem zK(i:Nat)(n:Nat)(js:List Nat){elt target:Expr}{ifs:List Expr}{scope:Scope}{N:List Str}{fr:List (Option Nat)}{pinI:List Nat}{fg:FG}{ft:FT}{fe:FE}{x:Str}{px:Pos}(hv:PE X (.Name x px) (fm i))(hfr:fr=FK n none++js.map some)(hpin:pinI=(Fu js.length).map (n + ·))(hc:X.calm=true)(S:bh X scope N fr)(hi:WI X target (.Name x px) (bR (aa i)))
  (hin:∀z:Bk,WG (aE X scope z.cl N z.C z.fp z.s z.H) pinI target fg/\WF (aE X scope z.cl N z.C z.fp z.s z.H) ifs ft/\WE (aE X scope z.cl N z.C z.fp z.s z.H) elt fe)
  (hs:∀y,IP (.Name x px) X.env y=pure y:=by intro _; rfl):WE X (.ListComp elt [⟨target,.Name x px,ifs,0⟩] scope pos) (ie n js i fg ft fe):=⟨λpins s σ H Q I hq=>by
 rcases zJ hfr hq with h | h
 ·exact yu (g:=λ_=>vG X.K (gA n js σ) fg) (tt:=λ_=>vT X.K ft) (te:=λ_=>vE X.K fe) hc S (o6 hv) (λz=>⟨(hin z).1.h _ (ja n js σ hpin),(hin z).2.1.h,(hin z).2.2.h⟩) hs pins s σ H Q I h
 ·exact yu (g:=λ_=>vG X.K (gA n js σ) fg) (tt:=λ_=>vT X.K ft) (te:=λ_=>vE X.K fe) hc S hi.h (λz=>⟨(hin z).1.h _ (ja n js σ hpin),(hin z).2.1.h,(hin z).2.2.h⟩) hs pins s σ H Q I h⟩
theorem zL(i:Nat){i1:Nat}{x1:Str}(n:Nat)(js:List Nat){elt target:Expr}{ifs:List Expr}{scope:Scope}{N:List Str}{fr:List (Option Nat)}{pinI:List Nat}{fg:FG}{ft:FT}{fe:FE}{pos' spos:Pos}{x:Str}{px:Pos}(hv:PE X (.Name x px) (fm i))(hp0:i1∉pin)(hN:X.N.Nodup)(hi':X.N[i1]? = some x1)(hx:X.env.scope.names.lookup x1=some .local)
  (hfr:fr=FK n none++js.map some) (hpin:pinI=(Fu js.length).map (n + ·)) (hc:X.calm=true) (S:eF X scope N fr) (hi:WI X target (.Name x px) (bR (aa i)))
  (hin:∀z:Bk,WG (cA X scope z.cl N z.C z.fp z.s z.H) pinI target fg/\WF (cA X scope z.cl N z.C z.fp z.s z.H) ifs ft/\WE (cA X scope z.cl N z.C z.fp z.s z.H) elt fe)
  (hs:∀y,IP (.Name x px) X.env y=pure y:=by intro _; rfl) (hsw:K6 (.ListComp elt [⟨target,.Name x px,ifs,0⟩] scope pos) (some (.Name x1 pos')) spos.line X.env=pure true:=by rfl) :
  WS X pin (.Assign [.Name x1 pos'] (.ListComp elt [⟨target,.Name x px,ifs,0⟩] scope pos) spos) (bM i1 (ie n js i fg ft fe)):=⟨λpv hp pins s σ H D I hq=>by
 rcases zJ hfr (vf hp hp0 hq) with h | h
 ·exact vz (g:=λ_=>vG X.K (gA n js σ) fg) (tt:=λ_=>vT X.K ft) (te:=λ_=>vE X.K fe) hN hi' hx hc S (o6 hv) (λz=>⟨(hin z).1.h _ (ja n js σ hpin),(hin z).2.1.h,(hin z).2.2.h⟩) hs hsw pins s σ H D I h
 ·exact vz (g:=λ_=>vG X.K (gA n js σ) fg) (tt:=λ_=>vT X.K ft) (te:=λ_=>vE X.K fe) hN hi' hx hc S hi.h (λz=>⟨(hin z).1.h _ (ja n js σ hpin),(hin z).2.1.h,(hin z).2.2.h⟩) hs hsw pins s σ H D I h⟩
end
end VL
end
section
namespace L2
open PySem PySem.Spec PyProof.Rows
section
variable{X:Cx}
theorem gC:∀{ns:List Int}{us:List Value},Vals (ns.map V.int) us->JS us ns
 |[],_,h=>by cases h; exact .nil
 |n::ns,_,h=>by
  cases h with
  |cons r rr=>obtain⟨t,rfl⟩:=r; exact .cons _ _ (gC rr)
end
end L2
end
section
namespace VL
open PySem PySem.Spec L2 PyProof.Rows
end VL
end
section
namespace L2
open PySem PySem.W PyProof.Rows PySem.Calls
end L2
end
section
namespace L2
open PySem PySem.Spec PySem.W PyProof.Rows
end L2
end
section
namespace VL
open PySem PySem.Spec L2 PyProof.Rows
end VL
end
section
namespace L2
open PySem PySem.Spec PyProof.Rows AutoSeq1
end L2
end
section
namespace VL
open PySem PySem.Spec L2 PyProof.Rows
end VL
end
section
namespace ST
open PySem PySem.SetTable
noncomputable def fN:Nat->Nat->Nat
 |0,x=>x
 |n+1,x=>fN n (5*x+1)
theorem ua:∀(m n x:Nat),fN (n+m) x=fN m (fN n x)
 |m,0,x=>by rw[Lc]; rfl
 |m,n+1,x=>by rw[Ov]; exact ua m n (5*x+1)
theorem zM:∀k,∃c d,∀x,fN (2 ^ k) x=(1+2 ^ (k+2)*c)*x+2 ^ k*(1+2*d)
 |0=>⟨1,0,λx=>by show 5*x+1=_; lia⟩
 |k+1=>by
  obtain⟨c,d,h⟩:=zM k;refine⟨c+2 ^ (k+1)*(c*c),d+2 ^ k*c*(1+2*d),λx=>?_⟩
  rw[show 2 ^ (k+1)=2 ^ k+2 ^ k by rw[Jr]; lia,ua,h,h]
  rw[show 2 ^ (k+1+2)=8*2 ^ k by rw[Jr,Jr,Jr]; lia,show 2 ^ (k+2)=4*2 ^ k by rw[Jr,Jr]; lia]
  generalize 2 ^ k=p
  grind
theorem cover:∀(k x y:Nat),∃n,n<2 ^ k/\fN n x % 2 ^ k=y % 2 ^ k:=by
 intro k
 induction k with
 |zero=>
  intro x y;exact⟨0,by simp,by rw[Oy,Nat.mod_one,Nat.mod_one]⟩
 |succ k ih=>
  intro x y;obtain⟨n,hn,e⟩:=ih x y;obtain⟨c,d,h⟩:=zM k;have hp:2 ^ (k+1)=2 ^ k+2 ^ k:=by rw[Jr]; lia
  have hp2:2 ^ (k+2)=4*2 ^ k:=by rw[Jr,Jr]; lia
  have hpos:0<2 ^ k:=Nat.pow_pos (by decide)
  by_cases q:fN n x % 2 ^ (k+1)=y % 2 ^ (k+1)
  ·exact⟨n,by lia,q⟩
  ·refine⟨n+2 ^ k,by lia,?_⟩
   rw[ua,h (fN n x)];generalize fN n x=z at e q;rw[hp] at q ⊢;rw[hp2];generalize 2 ^ k=p at *;have e1:(1+4*p*c)*z+p*(1+2*d)=z+p+(p+p)*(2*c*z+d):=by grind
   rw[e1,Nat.add_mul_mod_self_left];have hz:z % p+p*(z / p)=z:=Qf z p;have hy:y % p+p*(y / p)=y:=Qf y p;have hzp:z % p<p:=KU _ hpos;have tz:z % (p+p)=z % p\/z % (p+p)=z % p+p:=by
    have a:=KU z (show 0<p+p by lia)
    have b:z % (p+p) % p=z % p:=Px z ⟨2,by lia⟩
    by_cases hh:z % (p+p)<p
    ·rw[Jn hh] at b; exact .inl b
    ·rw[Py (by lia),Jn (by lia)] at b; exact .inr (by lia)
   have ty:y % (p+p)=y % p\/y % (p+p)=y % p+p:=by
    have a:=KU y (show 0<p+p by lia)
    have b:y % (p+p) % p=y % p:=Px y ⟨2,by lia⟩
    by_cases hh:y % (p+p)<p
    ·rw[Jn hh] at b; exact .inl b
    ·rw[Py (by lia),Jn (by lia)] at b; exact .inr (by lia)
   rw[PV,Jn (show p<p+p by lia)]
   rcases tz with tz | tz <;> rcases ty with ty | ty
   ·exact absurd (by rw[tz,ty,e]) q
   ·rw[tz,ty,Jn (by lia),e]
   ·rw[tz,ty,show z % p+p+p=z % p+(p+p) by lia,Nat.add_mod_right,Jn (by lia),e]
   ·exact absurd (by rw[tz,ty,e]) q
theorem uc(m:Nat):∀(n x:Nat),fN n (x % m) % m=fN n x % m
 |0,x=>by show x % m % m=x % m; rw[Nat.mod_mod]
 |n+1,x=>by
  show fN n (5*(x % m)+1) % m=fN n (5*x+1) % m;rw[<-uc m n (5*(x % m)+1),<-uc m n (5*x+1)];have:(5*(x % m)+1) % m=(5*x+1) % m:=by
   rw[PV,Nat.mul_mod,Nat.mod_mod,<-Nat.mul_mod,<-PV]
  rw[this]
noncomputable def lp(mask:Nat):Nat->Nat×Nat->Nat×Nat
 |0,q=>q
 |n+1,q=>lp mask n (leap mask q.1 q.2)
theorem zN(mask:Nat):∀(m n:Nat)(q:Nat×Nat),lp mask (n+m) q=lp mask m (lp mask n q)
 |m,0,q=>by rw[Lc]; rfl
 |m,n+1,q=>by rw[Ov]; exact zN mask m n _
theorem vF(mask:Nat):∀(n:Nat)(q:Nat×Nat),(lp mask n q).2=q.2 / 32 ^ n
 |0,q=>by rw[Oy,Nat.div_one]; rfl
 |n+1,q=>by
  show (lp mask n (leap mask q.1 q.2)).2=_;rw[vF mask n,Jr,Nat.mul_comm (32 ^ n) 32,<-Nat.div_div_eq_div_mul];rfl
theorem vH(mask:Nat):∀(n i:Nat),i<mask+1->(lp mask n (i,0)).1=fN n i % (mask+1)
 |0,i,h=>by show i=i % (mask+1); rw[Jn h]
 |n+1,i,h=>by
  show (lp mask n ((i*5+1+0 / 32) % (mask+1),0 / 32)).1=fN n (5*i+1) % (mask+1);rw[Nat.zero_div,Nat.add_zero,vH mask n _ (KU _ (Kp _)),uc,Nat.mul_comm i 5]
theorem CU(mask:Nat):∀(n:Nat)(q:Nat×Nat),q.1<mask+1->(lp mask n q).1<mask+1
 |0,q,h=>h
 |n+1,q,h=>CU mask n _ (KU _ (Kp _))
theorem rJ{mask k:Nat}(hm:mask+1=2 ^ k){i p e:Nat}(hi:i<mask+1)(hp:p<2 ^ 64)(he:e<=mask):∃n,n<mask+14/\(lp mask n (i,p)).1=e:=by
 have h13:(lp mask 13 (i,p)).2=0:=by
  rw[vF];exact Nat.div_eq_of_lt (Fk hp (by decide))
 have hl:=CU mask 13 (i,p) hi;obtain⟨n,hn,e1⟩:=cover k (lp mask 13 (i,p)).1 e;refine⟨13+n,by lia,?_⟩
 rw[zN];have:lp mask 13 (i,p)=((lp mask 13 (i,p)).1,0):=by rw[<-h13]
 rw[this,vH mask n _ hl,hm,e1,<-hm,Jn (by lia)]
theorem vJ(h:Int):bits h<2 ^ 64:=by
 unfold bits;have h1:h % (2 ^ 64:Int)<2 ^ 64:=L3 _ (by decide)
 have h0:0<=h % (2 ^ 64:Int):=Ky _ (by decide)
 lia
noncomputable def zO(mask:Nat)(p:Probe):Probe :=
 if p.more>0 then { p with j:=p.j+1,more:=p.more-1 } else
 let (i,perturb):=leap mask p.i p.perturb
 { p with j:=i,more:=Jy mask i-i,i,perturb }
theorem zP(t:IY)(p:Probe):t.advance p=zO t.mask p:=rfl
noncomputable def ls(mask:Nat)(q:Nat×Nat):Probe:={ j:=q.1,more:=Jy mask q.1-q.1,i:=q.1,perturb:=q.2,dummy:=none }
noncomputable def at_(mask i p k:Nat):Probe:={ j:=i+k,more:=Jy mask i-(i+k),i:=i,perturb:=p,dummy:=none }
theorem iC(mask i:Nat):i<=Jy mask i:=by unfold Jy; split <;> lia
theorem ud(mask i:Nat):Jy mask i<=i+9:=by unfold Jy; split <;> lia
theorem jW{mask i:Nat}(h:i<=mask):Jy mask i<=mask:=by unfold Jy; split <;> lia
theorem ER{mask i p k:Nat}(h:i+k<Jy mask i):zO mask (at_ mask i p k)=at_ mask i p (k+1):=by
 unfold zO at_;rw[if_pos (by show Jy mask i-(i+k)>0; lia)]
 show Probe.mk _ _ _ _ _=Probe.mk _ _ _ _ _
 congr 1
theorem vK{mask i p k:Nat}(h:i+k=Jy mask i):zO mask (at_ mask i p k)=ls mask (leap mask i p):=by
 unfold zO at_;rw[if_neg (by show ¬Jy mask i-(i+k)>0; lia)]
 rfl
noncomputable def it(mask:Nat):Nat->Probe->Probe
 |0,p=>p
 |n+1,p=>it mask n (zO mask p)
theorem eZ(mask:Nat):∀(m n:Nat)(p:Probe),it mask (n+m) p=it mask m (it mask n p)
 |m,0,p=>by rw[Lc]; rfl
 |m,n+1,p=>by rw[Ov]; exact eZ mask m n _
theorem jX{mask i p:Nat}:∀(k:Nat),i+k<=Jy mask i->it mask k (ls mask (i,p))=at_ mask i p k
 |0,_=>rfl
 |k+1,h=>by rw[eZ mask 1 k,jX k (by lia)]; exact ER (by lia)
theorem B6(mask i p:Nat):∃s,s<=10/\it mask s (ls mask (i,p))=ls mask (leap mask i p):=by
 refine⟨Jy mask i-i+1,by have:=ud mask i; lia,?_⟩
 have:=iC mask i;rw[eZ mask 1 _,jX _ (by lia)]
 exact vK (by lia)
theorem CV(mask:Nat):∀(n:Nat)(q:Nat×Nat),∃s,s<=10*n/\it mask s (ls mask q)=ls mask (lp mask n q)
 |0,q=>⟨0,D2 _,rfl⟩
 |n+1,(i,p)=>by
  obtain⟨s1,h1,e1⟩:=B6 mask i p;obtain⟨s2,h2,e2⟩:=CV mask n (leap mask i p);exact⟨s1+s2,by lia,by rw[eZ,e1,e2]; rfl⟩
noncomputable def start(mask:Nat)(h:Int):Probe:=ls mask (bits h % (mask+1),bits h)
theorem zQ(t:IY)(h:Int):t.probeStart h=start t.mask h:=rfl
theorem zR{mask k:Nat}(hm:mask+1=2 ^ k)(h:Int){e:Nat}(he:e<=mask):∃n,n<10*(mask+14)/\(it mask n (start mask h)).j=e:=by
 obtain⟨n,hn,e1⟩:=rJ hm (i:=bits h % (mask+1)) (p:=bits h) (KU _ (Kp _)) (vJ h) he;obtain⟨s,hs,e2⟩:=CV mask n (bits h % (mask+1),bits h);exact⟨s,by lia,by unfold start; rw[e2]; exact e1⟩
theorem least{P:Nat->Prop}:∀n,P n->∃m,m<=n/\P m/\∀k,k<m->¬P k:=by
 intro n
 induction n using Qe with
 |ind n ih=>
  intro h
  by_cases q:∃k,k<n/\P k
  ·obtain⟨k,hk,pk⟩:=q
   obtain⟨m,a,b,c⟩:=ih k hk pk;exact⟨m,by lia,b,c⟩
  ·exact⟨n,D2 _,h,λk hk pk=>q ⟨k,hk,pk⟩⟩
def Way(mask:Nat)(ne:Nat->Prop)(h:Int)(j:Nat):Prop:=∃m,(it mask m (start mask h)).j=j/\∀k,k<m->ne (it mask k (start mask h)).j
theorem Way.mono{mask:Nat}{ne ne':Nat->Prop}{h:Int}{j:Nat}(w:Way mask ne h j)(hm:∀j,ne j->ne' j):Way mask ne' h j:=by
 obtain⟨m,a,b⟩:=w;exact⟨m,a,λk hk=>hm _ (b k hk)⟩
def jd(xs:Array Nat):Prop:=xs.toList.Pairwise (· < ·)
theorem jd.lt{xs:Array Nat}(h:jd xs){a b x y:Nat}(hab:a<b)(ha:xs[a]? = some x)(hb:xs[b]? = some y):x<y:=by
 rw[<-Hc] at ha hb;obtain⟨h1,e1⟩:=DD.mp ha;obtain⟨h2,e2⟩:=DD.mp hb;have:=Ij.mp h a b h1 h2 hab;rw[e1,e2] at this;exact this
theorem mE{xs:Array Nat}{j:Nat}(hr:jd xs):∀(f lo hi:Nat),hi-lo<=f->lo<=hi->hi<=xs.size->(∀k x,k<lo->xs[k]? = some x->x<j)->(∀k x,hi<=k->xs[k]? = some x->j<=x) ->
  Ot xs j f lo hi<=xs.size/\(∀k x,k<Ot xs j f lo hi->xs[k]? = some x->x<j)/\(∀k x,Ot xs j f lo hi<=k->xs[k]? = some x->j<=x)
 |0,lo,hi,hf,hl,hs,h1,h2=>by
  have:lo=hi:=by lia
  subst this;exact⟨hs,h1,h2⟩
 |f+1,lo,hi,hf,hl,hs,h1,h2=>by
  unfold Ot
  by_cases hlt:lo<hi
  ·rw[if_pos hlt]
   dsimp only;have hm:(lo+hi) / 2<xs.size:=by lia
   have eg:xs.getD ((lo+hi) / 2) j=xs[(lo+hi) / 2]:=by simp[Jw,hm]
   have eg':xs[(lo+hi) / 2]? = some (xs.getD ((lo+hi) / 2) j):=by rw[eg]; simp[hm]
   by_cases hx:xs.getD ((lo+hi) / 2) j<j
   ·rw[if_pos hx]
    refine mE hr f ((lo+hi) / 2+1) hi (by lia) (by lia) hs (λk x hk e=>?_) h2
    by_cases hk':k=(lo+hi) / 2
    ·subst hk'; rw[eg'] at e; cases e; exact hx
    ·have:=hr.lt (show k<(lo+hi) / 2 by lia) e eg'
     lia
   ·rw[if_neg hx]
    refine mE hr f lo ((lo+hi) / 2) (by lia) (by lia) (by lia) h1 (λk x hk e=>?_)
    by_cases hk':k=(lo+hi) / 2
    ·subst hk'; rw[eg'] at e; cases e; lia
    ·have:=hr.lt (show (lo+hi) / 2<k by lia) eg' e
     lia
  ·rw[if_neg hlt]
   have:lo=hi:=by lia
   subst this;exact⟨hs,h1,h2⟩
theorem gE{xs:Array Nat}(hr:jd xs)(j:Nat):below xs j<=xs.size/\(∀k x,k<below xs j->xs[k]? = some x->x<j)/\(∀k x,below xs j<=k->xs[k]? = some x->j<=x):=by
 unfold below;exact mE hr _ _ _ (by lia) (Hn _) (D2 _) (λk x h=>by lia) (λk x h e=>by
  obtain⟨h',_⟩:=J9.mp e;lia)
theorem below_at{xs:Array Nat}(hr:jd xs){i j:Nat}(h:xs[i]? = some j):below xs j=i:=by
 obtain⟨a,b,c⟩:=gE hr j;rcases Lr (below xs j) i with q | q | q
 ·obtain⟨h',_⟩:=J9.mp h
  have e:xs[below xs j]? = some (xs[below xs j]'(by lia)):=by simp[show below xs j<xs.size by lia]
  have h1:=hr.lt q e h;have h2:=c _ _ (D2 _) e;lia
 ·exact q
 ·have:=b i j q h
  lia
theorem ue{xs:Array Nat}(hr:jd xs){i j:Nat}(h:xs[i]? = some j):below xs (j+1)=i+1:=by
 obtain⟨a,b,c⟩:=gE hr (j+1);obtain⟨h',_⟩:=J9.mp h;rcases Lr (below xs (j+1)) (i+1) with q | q | q
 ·have:=c i j (by lia) h
  lia
 ·exact q
 ·have e:xs[i+1]? = some (xs[i+1]'(by lia)):=by simp[show i+1<xs.size by lia]
  have h1:=hr.lt (M5 i) h e;have h2:=b _ _ q e;lia
theorem uf{xs:Array Nat}(hr:jd xs):below xs 0=0:=by
 obtain⟨a,b,c⟩:=gE hr 0;rcases L0 (below xs 0) with q | q
 ·exact q
 ·have e:xs[0]? = some (xs[0]'(by lia)):=by simp[show 0<xs.size by lia]
  have:=b 0 _ q e;lia
section
variable{t:IY}
def Tk(t:IY)(j:Nat):Prop:=j∈t.place.toList
theorem mF(hr:jd t.place)(hd:t.dummies = #[])(j:Nat):(∃i,t.slot j=.live i/\t.place[i]? = some j)\/(t.slot j=.empty/\¬Tk t j):=by
 unfold slot;dsimp only
 by_cases h:t.place[below t.place j]? = some j
 ·exact .inl ⟨_,by rw[h]; simp,h⟩
 ·refine .inr ⟨?_,λhm=>?_⟩
  ·rw[if_neg (by simpa using h),hd,if_neg (by unfold has; simp)]
  ·obtain⟨i,hi,e⟩:=II hm
   have e:t.place[i]? = some j:=by rw[<-Hc,Bn hi,e]
   rw[below_at hr e] at h;exact h e
theorem gf(hr:jd t.place){i j:Nat}(h:t.place[i]? = some j):t.slot j=.live i:=by
 unfold slot;dsimp only;rw[below_at hr h,h];simp
theorem CW{i j:Nat}(h:t.place[i]? = some j):Tk t j:=by
 unfold Tk;rw[<-Hc] at h;obtain⟨h1,e⟩:=DD.mp h;rw[<-e]; exact IV h1
end
theorem zS{xs:Array Nat}(hr:jd xs){j:Nat}(hj:j∉xs.toList):jd (KI xs (below xs j) j):=by
 unfold jd;rw[Ld];obtain⟨a,b,c⟩:=gE hr j;have low:∀x∈xs.toList.take (below xs j),x<j:=λx hx=>by
  obtain⟨i,hi,e⟩:=II hx;rw[Hb] at hi;rw[Ke] at e;exact b i x (by lia) (by rw[<-Hc,Bn (by lia),e])
 have up:∀x∈xs.toList.drop (below xs j),j<x:=λx hx=>by
  have hx':x∈xs.toList:=Js hx;obtain⟨i,hi,e⟩:=II hx;rw[IA] at hi;rw[NC] at e;have:=c (below xs j+i) x (by lia) (by rw[<-Hc,Bn (by lia),e])
  rcases N8 this with q | q
  ·exact q
  ·subst q; exact absurd hx' hj
 have hp:(xs.toList.take (below xs j)++xs.toList.drop (below xs j)).Pairwise (· < ·):=by rw[FX]; exact hr
 obtain⟨p1,p2,p3⟩:=Fs.mp hp;refine Fs.mpr ⟨p1,Ig.mpr ⟨λx hx=>up x hx,p2⟩,λx hx y hy=>?_⟩
 rcases lK hy with rfl | hy
 ·exact low x hx
 ·exact p3 x hx y hy
theorem ug{α β:Type}{xs:Array α}{ys:Array β}(hl:xs.size=ys.size)(p:Nat)(x:α)(y:β){q:α×β}(h:q∈(KI xs p x).toList.zip (KI ys p y).toList):q=(x,y)\/q∈xs.toList.zip ys.toList:=by
 rw[Ld,Ld,QT (by simp[hl]),Jl] at h
 have e:xs.toList.zip ys.toList=(xs.toList.take p).zip (ys.toList.take p)++(xs.toList.drop p).zip (ys.toList.drop p):=by
  rw[<-QT (by simp[hl]),FX,FX]
 rw[e];rcases lM h with h | h
 ·exact .inr (lL _ h)
 ·rcases lK h with h | h
  ·exact .inl h
  ·exact .inr (lR _ h)
structure eK(t:IY)(es:Array (Int×Value)):Prop where
 size:t.place.size=es.size
 rise:jd t.place
 dum:t.dummies = #[]
 room:t.place.size*5<t.mask*3
 pow:∃k,t.mask+1=2 ^ k
 ge:7<=t.mask
 le:t.mask<=8*es.size+7
 inb:∀j,Tk t j->j<=t.mask
 way:∀q∈t.place.toList.zip es.toList,Way t.mask (Tk t) q.2.1 q.1
 plain:t.plain=true
theorem eK.fits{t:IY}{es:Array (Int×Value)}(T:eK t es):t.fits es.size=true:=by
 unfold Pq Pr;have:=T.room;rw[T.dum,T.size];simp only[beq_self_eq_true,Mp,decide_eq_true_eq];rw[T.size] at this;show es.size+0<=t.mask;lia
theorem oF(led:Bool):eK (.fresh 0 0 led) #[] where
 size:=rfl
 rise:=.nil
 dum:=rfl
 room:=by show 0*5<7*3; decide
 pow:=⟨3,rfl⟩
 ge:=D2 _
 le:=D2 _
 inb:=λj h=>by cases h
 way:=λq h=>by cases h
 plain:=rfl
theorem eK.free{t:IY}{es:Array (Int×Value)}(T:eK t es):∃e,e<=t.mask/\¬Tk t e:=by
 refine IU λhn=>?_
 have all:∀e,e∈Fu (t.mask+1)->e∈t.place.toList:=λe he=>by
  refine IU λq=>hn ⟨e,?_,q⟩
  have:=JB.mp he;lia
 have:=(List.nodup_range (n:=t.mask+1)).length_le_of_subset all;rw[JY,Do] at this;have:=T.room;lia
theorem eK.first{t:IY}{es:Array (Int×Value)}(T:eK t es)(h:Int):∃m,m<10*(t.mask+14)/\¬Tk t (it t.mask m (start t.mask h)).j/\(it t.mask m (start t.mask h)).j<=t.mask/\∀k,k<m->Tk t (it t.mask k (start t.mask h)).j:=by
 obtain⟨e,he,hn⟩:=T.free;obtain⟨k,hk⟩:=T.pow;obtain⟨n,hn1,e1⟩:=zR hk h he;obtain⟨m,a,b,c⟩:=least (P:=λn=>¬Tk t (it t.mask n (start t.mask h)).j) n (by rw[e1]; exact hn)
 refine⟨m,by lia,b,?_,λk hk=>IU λq=>c k hk q⟩
 have bd:∀(m:Nat)(p:Probe),p.j+p.more<=t.mask->(it t.mask m p).j+(it t.mask m p).more<=t.mask:=by
  intro m
  induction m with
  |zero=>intro p hp; exact hp
  |succ m ih=>
   intro p hp;refine ih _ ?_;unfold zO
   split
   ·show p.j+1+(p.more-1)<=_; lia
   ·have h1:(leap t.mask p.i p.perturb).1<=t.mask:=by
     have:(leap t.mask p.i p.perturb).1<t.mask+1:=KU _ (Kp _);lia
    show (leap t.mask p.i p.perturb).1+(Jy t.mask (leap t.mask p.i p.perturb).1-(leap t.mask p.i p.perturb).1)<=_;have:=jW h1;have:=iC t.mask (leap t.mask p.i p.perturb).1;lia
 have h0:bits h % (t.mask+1)<t.mask+1:=KU _ (Kp _);have:=bd m (start t.mask h) (by
  show bits h % (t.mask+1)+(Jy t.mask (bits h % (t.mask+1))-bits h % (t.mask+1))<=_;have:=jW (mask:=t.mask) (i:=bits h % (t.mask+1)) (by lia)
  have:=iC t.mask (bits h % (t.mask+1));lia)
 lia
structure nI(t:IY)(es:Array (Int×Value)):Prop where
 size:t.place.size=es.size
 rise:jd t.place
 dum:t.dummies = #[]
 room:t.place.size<=t.mask
 pow:∃k,t.mask+1=2 ^ k
 ge:7<=t.mask
 le:t.mask<=8*es.size+7
 inb:∀j,Tk t j->j<=t.mask
 way:∀q∈t.place.toList.zip es.toList,Way t.mask (Tk t) q.2.1 q.1
 plain:t.plain=true
theorem nI.fits{t:IY}{es:Array (Int×Value)}(T:nI t es):t.fits es.size=true:=by
 unfold Pq Pr;have:=T.room;rw[T.dum,T.size];simp only[beq_self_eq_true,Mp,decide_eq_true_eq];rw[T.size] at this;show es.size+0<=t.mask;lia
theorem nI.inv{t:IY}{es:Array (Int×Value)}(T:nI t es)(h:t.tooFull=false):eK t es where
 size:=T.size
 rise:=T.rise
 dum:=T.dum
 room:=by
  unfold tooFull fill at h;rw[T.dum] at h;have:=of_decide_eq_false h;have e:(#[]:Array Nat).size=0:=rfl;rw[e] at this;lia
 pow:=T.pow
 ge:=T.ge
 le:=T.le
 inb:=T.inb
 way:=T.way
 plain:=T.plain
theorem fH{α:Type}(xs:Array α)(p:Nat)(x:α):(KI xs p x).size=xs.size+1:=by
 rw[<-Do,(KM xs p x).length_eq,Do,Array.size_push]
theorem eK.put{t:IY}{es:Array (Int×Value)}(T:eK t es){h:Int}{j:Nat}(x:Value)(hj:¬Tk t j)(hle:j<=t.mask)(hw:Way t.mask (Tk t) h j) :
  nI (t.put j).1 (KI es (t.put j).2 (h,x))/\(t.put j).1.led=t.led:=by
 have ed:has t.dummies j=false:=by rw[T.dum]; unfold has; simp
 have e1:(t.put j).1={ t with place:=KI t.place (below t.place j) j }:=by
  unfold SetTable.put; dsimp only; rw[ed]; rfl
 have e2:(t.put j).2=below t.place j:=rfl;have old:∀k,Tk t k->Tk { t with place:=KI t.place (below t.place j) j } k:=λk hk=>by
  show k∈(KI t.place (below t.place j) j).toList;rw[(KM t.place _ j).mem_iff,L6];exact lL _ hk
 rw[e1,e2];refine⟨⟨?_,zS T.rise hj,T.dum,?_,T.pow,T.ge,?_,λk hk=>?_,λq hq=>?_,T.plain⟩,rfl⟩
 ·show (KI t.place _ j).size=_
  rw[fH,fH,T.size]
 ·show (KI t.place _ j).size<=t.mask
  rw[fH];have:=T.room;have:=T.ge;lia
 ·rw[fH]; have:=T.le; show t.mask<=_; lia
 ·have hk:k∈(KI t.place (below t.place j) j).toList:=hk
  rw[(KM t.place _ j).mem_iff,L6] at hk;rcases lM hk with hk | hk
  ·exact T.inb k hk
  ·rw[D1] at hk; subst hk; exact hle
 ·rcases ug T.size _ _ _ hq with rfl | hq
  ·exact hw.mono old
  ·exact(T.way q hq).mono old
abbrev gg:=Array (Option Nat)
def Own(o:gg)(j:Nat):Prop:=∃id,o[j]? = some (some id)
theorem mG{o:gg}{j:Nat}(h:j<o.size):(o.getD j (some 0)).isNone=true↔¬Own o j:=by
 unfold Own;have e:o.getD j (some 0)=o[j]:=by simp[Jw,h]
 have e2:o[j]? = some o[j]:=by simp[h]
 rw[e,e2];cases o[j] with
 |none=>simp
 |some x=>simp
theorem B7{mask:Nat}{o:gg}(hs:o.size=mask+1):∀(f i p:Nat),i<=mask->(∃n,n<f/\¬Own o (lp mask n (i,p)).1) ->
  ∃j m,MR mask o f i p=some j/\¬Own o j/\j<=mask/\(it mask m (ls mask (i,p))).j=j/\∀k,k<m->Own o (it mask k (ls mask (i,p))).j:=by
 intro f
 induction f with
 |zero=>
  intro i p _ h;obtain⟨n,hn,_⟩:=h; lia
 |succ f ih=>
  intro i p hi h;have re:=jW hi;have rg:=iC mask i;unfold MR;cases q:(Fu (Jy mask i+1-i)).find? (λk=>(o.getD (i+k) (some 0)).isNone) with
  |some k=>
   have h1:=List.find?_some q;have hk:k<Jy mask i+1-i:=JB.mp (List.mem_of_find?_eq_some q);have h0:=(mG (o:=o) (j:=i+k) (by lia)).mp h1
   refine⟨i+k,k,rfl,h0,by lia,?_,λk' hk' =>?_⟩
   ·rw[jX k (by lia)]; rfl
   ·rw[jX k' (by lia)]
    show Own o (i+k');obtain⟨_,as,bs,e,hno⟩:=List.find?_eq_some_iff_append.mp q;have hlen:as.length=k:=by
     have hg:(Fu (Jy mask i+1-i))[as.length]? = some k:=by rw[e]; simp
     rw[DD] at hg;obtain⟨_,hg⟩:=hg;simpa using hg
    have hm:k'∈as:=by
     have hg:as[k']? = some k':=by
      have:(Fu (Jy mask i+1-i))[k']? = some k':=by rw[LV (by lia)]
      rw[e,He (by lia)] at this
      exact this
     exact IS hg
    have:=hno k' hm;refine IU λz=>?_
    rw[(mG (o:=o) (j:=i+k') (by lia)).mpr z] at this
    cases this
  |none=>
   have hall:∀k,k<Jy mask i+1-i->Own o (i+k):=λk hk=>IU λz=>by
    have:=Mr.mp q k (JB.mpr hk);exact this ((mG (o:=o) (j:=i+k) (by lia)).mpr z)
   obtain⟨n,hn,hno⟩:=h;cases n with
   |zero=>exact absurd (hall 0 (by lia)) hno
   |succ n=>
    have hlt:(leap mask i p).1<mask+1:=KU _ (Kp _);obtain⟨j,m,e1,e2,e3,e4,e5⟩:=ih (leap mask i p).1 (leap mask i p).2 (by lia) ⟨n,by lia,hno⟩
    have hfull:it mask (Jy mask i-i+1) (ls mask (i,p))=ls mask (leap mask i p):=by
     rw[eZ mask 1 _,jX _ (by lia)]
     exact vK (by lia)
    refine⟨j,Jy mask i-i+1+m,e1,e2,e3,?_,λk hk=>?_⟩
    ·rw[eZ,hfull]; exact e4
    ·by_cases hk':k<=Jy mask i-i
     ·rw[jX k (by lia)]; exact hall k (by lia)
     ·have:=e5 (k-(Jy mask i-i+1)) (by lia)
      rw[show k=Jy mask i-i+1+(k-(Jy mask i-i+1)) by lia,eZ,hfull]
      exact this
noncomputable def stp(mask:Nat)(acc:Option (gg×Nat))(h:Int):Option (gg×Nat):=do
 let (owner,k) <-acc
 let j <-MR mask owner (turns mask) (bits h % (mask+1)) (bits h)
 pure (owner.setIfInBounds j (some k),k+1)
theorem rK(mask:Nat)(hashes:Array Int):layClean mask hashes=(hashes.toList.foldl (stp mask) (some (Nb (mask+1) none,0))).map (·.1):=by
 rw[Array.foldl_toList]; rfl
theorem rN{k:Nat}:∀{l:List (Option Nat)}{j:Nat},l[j]? = some none->((l.set j (some k)).filterMap id).Perm (k::l.filterMap id)
 |[],j,h=>by simp at h
 |x::l,0,h=>by simp at h; subst h; exact .refl _
 |x::l,j+1,h=>by
  have ih:=rN (k:=k) (l:=l) (j:=j) (by simpa using h)
  rw[List.set_cons_succ];cases x with
  |none=>exact ih
  |some y=>exact(ih.cons y).trans (.swap _ _ _)
structure rO(mask:Nat)(hs:List Int)(o:gg)(k:Nat):Prop where
 size:o.size=mask+1
 len:k=hs.length
 perm:(o.toList.filterMap id).Perm (Fu k)
 way:∀j id,o[j]? = some (some id)->∃h,hs[id]? = some h/\Way mask (Own o) h j
theorem rO.free{mask:Nat}{hs:List Int}{o:gg}{k:Nat}(T:rO mask hs o k)(hk:k<=mask):∃e,e<=mask/\¬Own o e:=by
 refine IU λhn=>?_
 have all:∀x∈o.toList,∃id,x=some id:=λx hx=>by
  obtain⟨i,hi,e⟩:=II hx;refine IU λq=>hn ⟨i,by rw[Do,T.size] at hi; lia,?_⟩
  rintro⟨id,h⟩;rw[<-Hc,Bn hi,e] at h;exact q ⟨id,Go h⟩
 have hl:∀{l:List (Option Nat)},(∀x∈l,∃id,x=some id)->(l.filterMap id).length=l.length:=λ{l}=>by
  induction l with
  |nil=>intro _; rfl
  |cons x l ih=>
   intro h;obtain⟨y,rfl⟩:=h x lS;show ((y::l.filterMap id)).length=_;rw[Bz,Bz,ih λx hx=>h x (lO _ hx)]
 have:=T.perm.length_eq;rw[hl all,Do,T.size,JY] at this;lia
theorem rO.step{mask:Nat}{hs:List Int}{o:gg}{k:Nat}(T:rO mask hs o k)(hp:∃b,mask+1=2 ^ b)(hk:k<=mask)(h:Int):∃o',stp mask (some (o,k)) h=some (o',k+1)/\rO mask (hs++[h]) o' (k+1):=by
 obtain⟨e,he,hne⟩:=T.free hk;obtain⟨b,hb⟩:=hp;have hi:bits h % (mask+1)<mask+1:=KU _ (Kp _);obtain⟨n,hn,en⟩:=rJ hb hi (vJ h) he;obtain⟨j,m,e1,e2,e3,e4,e5⟩:=B7 T.size (turns mask) (bits h % (mask+1)) (bits h) (by lia) ⟨n,by unfold turns; lia,by rw[en]; exact hne⟩
 have hj:j<o.size:=by rw[T.size]; lia
 have hjn:o[j]? = some none:=by
  have:o[j]? = some o[j]:=by simp[hj]
  cases q:o[j] with
  |none=>rw[this,q]
  |some x=>exact absurd ⟨x,by rw[this,q]⟩ e2
 have old:∀i,Own o i->Own (o.setIfInBounds j (some k)) i:=λi ⟨id,hid⟩=>by
  refine⟨id,?_⟩;rw[Nc,if_neg]
  ·exact hid
  ·intro q; subst q; rw[hjn] at hid; cases hid
 refine⟨o.setIfInBounds j (some k),?_,⟨?_,?_,?_,λi id hid=>?_⟩⟩
 ·unfold stp; show (MR mask o (turns mask) (bits h % (mask+1)) (bits h)).bind _=_; rw[e1]; rfl
 ·rw[Array.size_setIfInBounds]; exact T.size
 ·rw[FB,<-T.len]; rfl
 ·rw[Array.toList_setIfInBounds]
  have h1:o.toList[j]? = some none:=by rw[Hc]; exact hjn
  refine(rN h1).trans ((T.perm.cons k).trans ?_);rw[List.range_succ];exact(Lf k _).symm
 ·rw[Nc] at hid
  split at hid
  ·next q=>
   subst q;have hid:k=id:=Go (Go hid);subst hid;exact⟨h,by rw[T.len]; simp,m,e4,λk' hk'=>old _ (e5 k' hk')⟩
  ·obtain⟨h',a,b⟩:=T.way i id hid
   refine⟨h',?_,b.mono old⟩;rw[He (DD.mp a).1];exact a
theorem rP{mask:Nat}(hp:∃b,mask+1=2 ^ b):∀(hs ds:List Int)(o:gg),rO mask ds o ds.length->ds.length+hs.length<=mask->∃o',hs.foldl (stp mask) (some (o,ds.length))=some (o',(ds++hs).length)/\rO mask (ds++hs) o' (ds++hs).length
 |[],ds,o,T,_=>⟨o,by rw[EQ]; rfl,by rw[EQ]; exact T⟩
 |h::hs,ds,o,T,hl=>by
  rw[Bz] at hl;obtain⟨o1,e1,T1⟩:=T.step hp (by lia) h
  rw[show ds.length+1=(ds++[h]).length by simp] at e1 T1
  obtain⟨o2,e2,T2⟩:=rP hp hs (ds++[h]) o1 T1 (by simp; lia)
  rw[Bi] at e2 T2;exact⟨o2,by rw[LQ,e1]; exact e2,T2⟩
theorem w9{mask:Nat}(hp:∃b,mask+1=2 ^ b)(hashes:Array Int)(hl:hashes.size<=mask):∃o,layClean mask hashes=some o/\rO mask hashes.toList o hashes.size:=by
 obtain⟨o,e,T⟩:=rP hp hashes.toList [] (Nb (mask+1) none) ⟨by simp,rfl,by
   rw[Array.toList_replicate];have:∀n,((FK n (none:Option Nat)).filterMap id)=[]:=λn=>by induction n with | zero=>rfl | succ n ih=>exact ih
   rw[this]; exact .refl _,λj id h=>by
   rw[Array.getElem?_replicate] at h
   split at h <;> cases h⟩ (by simpa using hl)
 rw[Im] at e T;have e:hashes.toList.foldl (stp mask) (some (Nb (mask+1) none,0))=some (o,hashes.toList.length):=e;rw[Do] at T;exact⟨o,by rw[rK,e]; rfl,T⟩
theorem zT(n:Nat):∀(f s:Nat),(∃k,s=2 ^ k)->8<=s->(s<=2*n\/s=8)->n<s*2 ^ f->(∃k,LI n f s=2 ^ k)/\8<=LI n f s/\n<LI n f s/\(LI n f s<=2*n\/LI n f s=8):=by
 intro f
 induction f with
 |zero=>
  intro s hk h8 h2 h;exact⟨hk,h8,by show n<s; simpa using h,h2⟩
 |succ f ih=>
  intro s hk h8 h2 h;unfold LI
  split
  ·next hle=>
   obtain⟨k,rfl⟩:=hk;exact ih _ ⟨k+1,by rw[Jr]⟩ (by lia) (.inl (by lia)) (by rw[Nat.mul_assoc,<-Nat.pow_succ']; exact h)
  ·exact⟨hk,h8,by lia,h2⟩
theorem mH{n:Nat}(h:n<2 ^ 40):(∃k,MP n=2 ^ k)/\8<=MP n/\n<MP n/\(MP n<=2*n\/MP n=8) :=
 zT n 64 8 ⟨3,rfl⟩ (D2 _) (.inr rfl) (Fk h (by decide))
theorem jE(o:gg):∀(js:List Nat),((js.filterMap λj=>(o.getD j none).map (j,·)).map (·.1)).Sublist js
 |[]=>.slnil
 |j::js=>by
  rw[KJ];cases o.getD j none with
  |none=>exact(jE o js).cons _
  |some x=>exact(jE o js).cons_cons _
theorem zU(o:gg):((Fu o.size).filterMap λj=>(o.getD j none).map (j,·)).map (·.2)=o.toList.filterMap id:=by
 rw[List.map_filterMap];have e:o.toList=(Fu o.size).map (λj=>o.getD j none):=by
  apply List.ext_getElem
  ·simp
  ·intro i h1 h2
   have h1:i<o.size:=by simpa using h1
   simp[Jw,h1]
 have e2:(Fu o.size).filterMap (λj=>((o.getD j none).map (j,·)).map (·.2))=(Fu o.size).filterMap (λj=>o.getD j none):=by
  congr 1; funext j; cases o.getD j none <;> rfl
 rw[e,Pi];exact e2
theorem zV{o:gg}{q:Nat×Nat}(h:q∈(Fu o.size).filterMap λj=>(o.getD j none).map (j,·)):o[q.1]? = some (some q.2):=by
 obtain⟨j,hj,e⟩:=Lg.mp h;have hj:=JB.mp hj;have e2:o.getD j none=o[j]:=by simp[Jw,hj]
 rw[e2] at e;cases z:o[j] with
 |none=>rw[z] at e; cases e
 |some x=>
  rw[z] at e;cases e;simp[hj,z]
theorem zW{o:gg}{j:Nat}(h:Own o j):j∈((Fu o.size).filterMap λj=>(o.getD j none).map (j,·)).map (·.1):=by
 obtain⟨id,h⟩:=h;obtain⟨hj,e⟩:=J9.mp h;refine Hd.mpr ⟨(j,id),Lg.mpr ⟨j,JB.mpr hj,?_⟩,rfl⟩;have e2:o.getD j none=o[j]:=by simp[Jw,hj]
 rw[e2,e]; rfl
theorem CY{t:IY}{es:Array (Int×Value)}(T:nI t es)(hn:es.size<=50000) :
  ∃t' order,t.relaid (es.map (·.1)) (grown es.size)=some (t',order)/\order.toList.Perm (Fu es.size)/\eK t' (order.filterMap (es[·]?))/\t'.led=t.led:=by
 have hg:grown es.size=es.size*4:=by unfold grown; rw[if_neg (by lia)]
 obtain⟨⟨b,hb⟩,h8,hgt,hle⟩:=mH (n:=grown es.size) (by rw[hg]; lia)
 rw[hg] at hgt hle;rw[hg];rw[hg] at hb h8;generalize hS:MP (es.size*4)=S at *;obtain⟨o,eo,O⟩:=w9 (mask:=S-1) ⟨b,by lia⟩ (es.map (·.1)) (by rw[O0]; lia)
 have hsz:(es.map (·.1)).size=es.size:=O0 ..;rw[hsz] at O;have hos:o.size=S-1+1:=O.size
 let live:=(Fu (S-1+1)).filterMap λj=>(o.getD j none).map (j,·)
 have hlive:live=(Fu o.size).filterMap λj=>(o.getD j none).map (j,·):=by show (Fu (S-1+1)).filterMap _=_; rw[hos]
 have hsnd:live.map (·.2)=o.toList.filterMap id:=by rw[hlive]; exact zU o
 have hperm:(live.map (·.2)).Perm (Fu es.size):=by rw[hsnd]; exact O.perm
 have hid:∀q∈live,q.2<es.size:=λq hq=>JB.mp (hperm.mem_iff.mp (Hd.mpr ⟨q,hq,rfl⟩))
 refine⟨{ mask:=S-1,place:=(live.map (·.1)).toArray,dummies:=#[],finger:=t.finger,led:=t.led,moves:=t.movedTo (S-1),plain:=t.plain },(live.map (·.2)).toArray,by unfold relaid laid; rw[hS,eo]; rfl,by simpa using hperm,?_,rfl⟩
 have hes:((live.map (·.2)).toArray.filterMap (es[·]?)).toList=(live.map (·.2)).filterMap (es[·]?):=by rw[Oc]
 have hall:∀{l:List Nat},(∀i∈l,i<es.size)->(l.filterMap (es[·]?)).length=l.length:=λ{l}=>by
  induction l with
  |nil=>intro _; rfl
  |cons i l ih=>
   intro h;have hi:=h i lS;rw[KJ,show es[i]? = some es[i] by simp[hi]]
   show (_::_).length=_;rw[Bz,Bz,ih λx hx=>h x (lO _ hx)]
 have hlen:((live.map (·.2)).toArray.filterMap (es[·]?)).size=es.size:=by
  rw[<-Do,hes,hall λi hi=>JB.mp (hperm.mem_iff.mp hi),hperm.length_eq,JY]
 have hpl:live.length=es.size:=by have:=hperm.length_eq; simpa using this
 refine⟨?_,?_,rfl,?_,⟨b,by show S-1+1=_; lia⟩,?_,?_,λj hj=>?_,λq hq=>?_,T.plain⟩
 ·show (live.map (·.1)).toArray.size=_; rw[hlen]; simpa using hpl
 ·show (live.map (·.1)).toArray.toList.Pairwise (· < ·)
  have:(live.map (·.1)).Sublist (Fu (S-1+1)):=jE o _;exact Og.sublist (by simpa using this)
 ·show (live.map (·.1)).toArray.size*5<(S-1)*3
  have:(live.map (·.1)).toArray.size=es.size:=by simpa using hpl
  rw[this]; lia
 ·show 7<=S-1; lia
 ·show S-1<=_; rw[hlen]; lia
 ·have hj:j∈(live.map (·.1)).toArray.toList:=hj
  have hj:j∈live.map (·.1):=hj;have:j∈Fu (S-1+1):=(jE o (Fu (S-1+1))).mem hj;have:=JB.mp this;show j<=S-1; lia
 ·have hz:∀{l:List (Nat×Nat)},(∀q∈l,q.2<es.size)->∀q∈(l.map (·.1)).zip ((l.map (·.2)).filterMap (es[·]?)),∃z∈l,q.1=z.1/\es[z.2]? = some q.2:=λ{l}=>by
   induction l with
   |nil=>intro _ q hq; simp at hq
   |cons z l ih=>
    intro h q hq;have hi:=h z lS;rw[FC,FC,KJ,show es[z.2]? = some es[z.2] by simp[hi],Jl] at hq
    rcases lK hq with rfl | hq
    ·exact⟨z,lS,rfl,by simp[hi]⟩
    ·obtain⟨z',a,b⟩:=ih (λx hx=>h x (lO _ hx)) q hq
     exact⟨z',lO _ a,b⟩
  have hq:q∈(live.map (·.1)).zip ((live.map (·.2)).filterMap (es[·]?)):=by
   have hq:q∈(live.map (·.1)).toArray.toList.zip ((live.map (·.2)).toArray.filterMap (es[·]?)).toList:=hq;rw[hes] at hq;simpa using hq
  obtain⟨z,hz1,hz2,hz3⟩:=hz hid q hq;have ho:=zV (o:=o) (q:=z) (by rw[<-hlive]; exact hz1)
  obtain⟨h,hh,hw⟩:=O.way _ _ ho;have:h=q.2.1:=by
   rw[Hc,Array.getElem?_map,hz3] at hh;exact(Go hh).symm
  subst this;rw[hz2];refine hw.mono λj hj=>?_
  show j∈(live.map (·.1)).toArray.toList;have:=zW hj;rw[<-hlive] at this;simpa using this
theorem rQ{t:IY}(hr:jd t.place)(hd:t.dummies = #[])(Mb:Nat->Int)(h:Int):∀(f:Nat)(p:Probe)(m:Nat),m<f->p.dummy=none->¬Tk t (it t.mask m p).j->(∀k,k<m->Tk t (it t.mask k p).j) ->
  (MQ t Mb h f p=some (.empty (it t.mask m p).j none)/\∀k,k<m->∀i,t.place[i]? = some (it t.mask k p).j->Mb i≠h) \/
  (∃k i,k<m/\t.place[i]? = some (it t.mask k p).j/\Mb i=h/\MQ t Mb h f p=some (.candidate (it t.mask k p).j i (it t.mask (k+1) p))/\∀k',k'<k->∀i',t.place[i']? = some (it t.mask k' p).j->Mb i'≠h):=by
 intro f
 induction f with
 |zero=>
  intro p m hf _ _ _;lia
 |succ f ih=>
  intro p m hf hp hn ht;cases m with
  |zero=>
   refine .inl ⟨?_,λk hk=>by lia⟩
   unfold MQ;rcases mF hr hd p.j with⟨i,_,hi⟩ | ⟨e,_⟩
   ·exact absurd (CW hi) hn
   ·rw[e,<-hp]; rfl
  |succ m=>
   have h0:Tk t p.j:=ht 0 (by lia)
   unfold MQ;rcases mF hr hd p.j with⟨i,e,hi⟩ | ⟨_,e⟩
   ·rw[e]
    dsimp only
    by_cases hh:Mb i=h
    ·rw[if_pos (by simpa using hh)]
     exact .inr ⟨0,i,by lia,hi,hh,by rw[zP]; rfl,λk' hk'=>by lia⟩
    ·rw[if_neg (by simpa using hh),zP]
     have one:∀i',t.place[i']? = some p.j->Mb i'≠h:=λi' hi'=>by
      have:Nq i'=Nq i:=by rw[<-gf hr hi',e]
      cases this; exact hh
     have hpd:(zO t.mask p).dummy=none:=by unfold zO; split <;> exact hp
     rcases ih (zO t.mask p) m (by lia) hpd hn (λk hk=>ht (k+1) (by lia)) with⟨e1,e2⟩ | ⟨k,i',hk,hi',hh',e1,e2⟩
     ·refine .inl ⟨e1,λk hk=>?_⟩
      cases k with
      |zero=>exact one
      |succ k=>exact e2 k (by lia)
     ·refine .inr ⟨k+1,i',by lia,hi',hh',e1,λk' hk' =>?_⟩
      cases k' with
      |zero=>exact one
      |succ k'=>exact e2 k' (by lia)
   ·exact absurd h0 e
theorem rR(t:IY)(Mb:Nat->Int)(h:Int)(p:Probe):t.probe Mb h p=MQ t Mb h (10*turns t.mask) p:=rfl
theorem rS(mask:Nat):∀(n:Nat)(p:Probe),p.dummy=none->(it mask n p).dummy=none
 |0,p,h=>h
 |n+1,p,h=>rS mask n _ (by unfold zO; split <;> exact h)
theorem eK.freeSlot{t:IY}{es:Array (Int×Value)}(T:eK t es)(h:Int):∃j,t.freeSlot h=some (j,false)/\¬Tk t j/\j<=t.mask/\Way t.mask (Tk t) h j:=by
 obtain⟨m,hm,hn,hle,ht⟩:=T.first h;refine⟨_,?_,hn,hle,⟨m,rfl,ht⟩⟩;unfold SetTable.freeSlot;rw[zQ,rR];rcases rQ T.rise T.dum (λ_=>h+1) h (10*turns t.mask) (start t.mask h) m (by unfold turns; lia) rfl hn ht with⟨e,_⟩ | ⟨k,i,hk,hi,hh,_⟩
 ·rw[e]; rfl
 ·exact absurd hh (by show h+1≠h; lia)
theorem eK.layNew{t:IY}{es:Array (Int×Value)}(T:eK t es)(h:Int)(x:Value):∃es' t',layNew t es h x=(es',t',false,false)/\nI t' es'/\t'.led=t.led/\es'.toList.Perm ((h,x)::es.toList):=by
 obtain⟨j,e,hn,hle,hw⟩:=T.freeSlot h;obtain⟨M,hl⟩:=T.put x hn hle hw;have e':Qo t es h x=(KI es (t.put j).2 (h,x),(t.put j).1.orStandIn (KI es (t.put j).2 (h,x)).size,false,!(t.put j).1.fits (KI es (t.put j).2 (h,x)).size):=by
  unfold Qo; rw[e]
 refine⟨_,_,e'.trans ?_,M,hl,?_⟩
 ·unfold SetTable.orStandIn; rw[M.fits]; rfl
 ·refine(KM es _ _).trans ?_
  rw[L6];exact Lf _ _
theorem oG{es:Array (Int×Value)}{order:Array Nat}(hp:order.toList.Perm (Fu es.size)):(order.filterMap (es[·]?)).toList.Perm es.toList:=by
 rw[Oc];exact(hp.filterMap _).trans (by rw[filterMap_getElem?_range])
theorem nI.relayAll{t:IY}{es:Array (Int×Value)}(T:nI t es)(hn:es.size<=50000):∃es' t',relayAll t es (grown es.size)=(es',t',false)/\eK t' es'/\t'.led=t.led/\es'.toList.Perm es.toList:=by
 obtain⟨t',order,e,hp,I,hl⟩:=CY T hn;refine⟨order.filterMap (es[·]?),t',?_,I,hl,oG hp⟩;unfold PySem.relayAll;rw[e];dsimp only;have hc:coversAll order es.size=true:=by unfold coversAll; exact List.isPerm_iff.mpr hp
 rw[hc,I.fits];rfl
structure Kd(prog:Fm)(w:World) where
 K:Type
 dec:DecidableEq K
 is:Heap->K->Value->Prop
 hash:K->Int
 keeps:∀{h h':Heap}{k:K}{v:Value}{a:Addr}{o:Obj}{es:Array (Int×Value)}{ep:Nat}{t:IY},is h k v->h.get? a=some o->o.data=.set es ep t->JG a h h'->is h' k v
section
variable{prog:Fm}{w:World}(D:Kd prog w)
inductive oH(h:Heap):List D.K->List (Int×Value)->Prop
 |nil:oH h [] []
 |cons {k:D.K} {x:Value} {ks:List D.K} {es:List (Int×Value)}:D.is h k x->oH h ks es->oH h (k::ks) ((D.hash k,x)::es)
variable{D}
theorem oH.perm{h:Heap}{ks:List D.K}{es es':List (Int×Value)}(e:oH D h ks es)(p:es'.Perm es):∃ks',ks'.Perm ks/\oH D h ks' es':=by
 induction p generalizing ks with
 |nil=>cases e; exact⟨[],.refl _,.nil⟩
 |@cons x l₁ l₂ p ih=>
  cases e with
  |cons a r=>
   obtain⟨ks',p',e'⟩:=ih r;exact⟨_,p'.cons _,.cons a e'⟩
 |swap x y l=>
  cases e with
  |cons a r=>
   cases r with
   |cons b r=>exact⟨_,.swap _ _ _,.cons b (.cons a r)⟩
 |trans p1 p2 ih1 ih2=>
  obtain⟨k1,q1,e1⟩:=ih2 e;obtain⟨k2,q2,e2⟩:=ih1 e1;exact⟨k2,q2.trans q1,e2⟩
theorem oH.length{h:Heap}{ks:List D.K}{es:List (Int×Value)}(e:oH D h ks es):ks.length=es.length:=by
 induction e with
 |nil=>rfl
 |cons _ _ ih=>rw[Bz,Bz,ih]
theorem oH.get{h:Heap}{ks:List D.K}{es:List (Int×Value)}(e:oH D h ks es):∀{i:Nat}{q:Int×Value},es[i]? = some q->∃k,ks[i]? = some k/\D.is h k q.2/\q.1=D.hash k:=by
 induction e with
 |nil=>intro i q hq; simp at hq
 |cons a r ih=>
  intro i q hq;cases i with
  |zero=>simp at hq; subst hq; exact⟨_,rfl,a,rfl⟩
  |succ i=>exact ih (i:=i) (by simpa using hq)
theorem oH.get'{h:Heap}{ks:List D.K}{es:List (Int×Value)}(e:oH D h ks es):∀{i:Nat}{k:D.K},ks[i]? = some k->∃x,es[i]? = some (D.hash k,x)/\D.is h k x:=by
 induction e with
 |nil=>intro i q hq; simp at hq
 |cons a r ih=>
  intro i q hq;cases i with
  |zero=>simp at hq; subst hq; exact⟨_,rfl,a⟩
  |succ i=>exact ih (i:=i) (by simpa using hq)
theorem oH.mono{h h':Heap}{ks:List D.K}{es:List (Int×Value)}(e:oH D h ks es)(hk:∀k v,D.is h k v->D.is h' k v):oH D h' ks es:=by
 induction e with
 |nil=>exact .nil
 |cons a _ ih=>exact .cons (hk _ _ a) ih
variable(D)
structure kG(h:Heap)(a:Addr)(led:Bool)(ks:List D.K)(o:Obj)(es:Array (Int×Value))(ep:Nat)(t:IY):Prop where
 ho:h.get? a=some o
 hex:o.ExactSet
 hd:o.data=.set es ep t
 inv:eK t es
 led:t.led=led
 els:oH D h ks es.toList
 nd:ks.Nodup
variable{D}
variable{A:ID}{E:Value->B1->Prop}{s:B1}
theorem kG.size{h:Heap}{a:Addr}{led:Bool}{ks:List D.K}{o:Obj}{es:Array (Int×Value)}{ep:Nat}{t:IY}(S:kG D h a led ks o es ep t):es.size=ks.length:=by
 rw[S.els.length,Do]
def Fin(D:Kd prog w)(h:Heap)(a:Addr)(led:Bool)(ks:List D.K)(k:D.K)(h':Heap):Prop:=∃ks' o' es' ep' t',JG a h h'/\kG D h' a led ks' o' es' ep' t'/\ks'.Perm (k::ks)
theorem oJ{a:Addr}{led:Bool}{ks:List D.K}{o:Obj}{es:Array (Int×Value)}{ep:Nat}{t:IY}(S:kG D s.heap a led ks o es ep t){k:D.K}{x:Value}{es1:Array (Int×Value)}{t1:IY}
  (hn:k∉ks) (hx:D.is s.heap k x) (M:nI t1 es1) (hl:t1.led=led) (hp:es1.toList.Perm ((D.hash k,x)::es.toList)) (hb:ks.length<=1000)
  {Q:Unit->B1->Prop}
  (h:∀h1,h1.get? a=some { o with data:=.set es1 (ep+1) t1 }->(t1.tooFull=false->Fin D s.heap a led ks k h1)->(∀es2 t2,eK t2 es2->t2.led=led->es2.toList.Perm es1.toList->Fin D s.heap a led ks k (h1.update a (Kz es2 t2)))->Q () { s with heap:=h1 }) :
  wpAny (model prog w) A (storeSet a es1 t1) Q E s:=by
 have hsz:es1.size=ks.length+1:=by rw[<-Do,hp.length_eq,Bz,Do,S.size]
 refine Nh S.ho S.hd ?_ (by rw[IX]; lia)
 have hsb:=LA s.heap a (Kz es1 t1);have get1:(s.heap.update a (Kz es1 t1)).get? a=some { o with data:=.set es1 (ep+1) t1 }:=by
  have:=LC (Kz es1 t1) S.ho (by rw[Pb es1 t1 S.hd]; rfl)
  rw[Pb es1 t1 S.hd] at this; exact this
 have E0:oH D s.heap (k::ks) ((D.hash k,x)::es.toList):=.cons hx S.els;have kp:∀{h':Heap},JG a s.heap h'->∀k v,D.is s.heap k v->D.is h' k v:=λ{h'}q k v hv=>D.keeps hv S.ho S.hd q
 have nd:(k::ks).Nodup:=IM.mpr ⟨hn,S.nd⟩;refine h _ get1 (λhf=>?_) λes2 t2 I2 l2 p2=>?_
 ·obtain⟨ks',p',e'⟩:=(E0.mono (kp hsb)).perm hp
  exact⟨ks',_,es1,_,t1,hsb,⟨get1,S.hex,rfl,M.inv hf,hl,e',p'.nodup_iff.mpr nd⟩,p'⟩
 ·have hsb2:JG a s.heap ((s.heap.update a (Kz es1 t1)).update a (Kz es2 t2)):=hsb.trans (LA _ a _)
  obtain⟨ks',p',e'⟩:=(E0.mono (kp hsb2)).perm (p2.trans hp);have get2:((s.heap.update a (Kz es1 t1)).update a (Kz es2 t2)).get? a=some { o with data:=.set es2 (ep+1+1) t2 }:=by
   have:=LC (Kz es2 t2) get1 (by rw[Pb es2 t2 (es:=es1) (ep:=ep+1) (t:=t1) rfl]; rfl)
   rw[Pb es2 t2 (es:=es1) (ep:=ep+1) (t:=t1) rfl] at this; exact this
  exact⟨ks',_,es2,_,t2,hsb2,⟨get2,S.hex,rfl,I2,l2,e',p'.nodup_iff.mpr nd⟩,p'⟩
end
def AddR{K:Type}(k:K)(ks ks':List K):Prop:=(k∈ks/\ks'=ks)\/(k∉ks/\ks'.Perm (k::ks))
def Adds{prog:Fm}{w:World}(D:Kd prog w)(A:ID):Prop:=∀{E:Value->B1->Prop}{s:B1}{a:Addr}{led:Bool}{ks:List D.K}{o:Obj}{es:Array (Int×Value)}{ep:Nat}{t:IY}{k:D.K}{x:Value}{Q:Bool->B1->Prop},
  kG D s.heap a led ks o es ep t->D.is s.heap k x->ks.length<=1000 ->
  (∀b h' tk ks' o' es' ep' t',s.toks<=tk->JG a s.heap h'->kG D h' a led ks' o' es' ep' t'->AddR k ks ks'->Q b { s with heap:=h',toks:=tk }) ->
  wpAny (model prog w) A (setAdd a x) Q E s
noncomputable def intD(prog:Fm)(w:World):Kd prog w where
 K:=Int
 dec:=inferInstance
 is:=λ_ k v=>∃tk,v=.int k tk
 hash:=hashInt
 keeps:=λh _ _ _=>h
section
variable{prog:Fm}{w:World}
theorem xg{h:Heap}{ks:List (intD prog w).K}{es:List (Int×Value)}(e:oH (intD prog w) h ks es):ElemsOf (Ih prog w) es:=by
 intro q hq;obtain⟨i,hi,e1⟩:=II hq;obtain⟨k,_,⟨tk,e2⟩,e3⟩:=e.get (i:=i) (q:=q) (by rw[Bn hi,e1])
 exact⟨⟨k,by rw[e2]; exact MZ _ _ _ _,e3⟩,by rw[e2]; rfl⟩
theorem add_int(A:ID):Adds (intD prog w) A:=by
 intro E s a led ks o es ep t k x Q S hx hb h;obtain⟨tk,rfl⟩:=hx;unfold setAdd;refine IK ?_;refine AC ((Ih prog w).pyHash (k:=k) (MZ _ _ _ _) ?_);have S':kG (intD prog w) ({ s with toks:=s.toks+1 }:B1).heap a led ks o es ep t:=S
 have hel:=xg S.els;have hsz:=S.size;have hsb:es.size<scanBound:=by unfold scanBound; lia
 unfold setAddHashed setAddHashedIn;refine IK (AC (JN S.ho S.hd S.inv.fits ?_));dsimp only;rw[byScan_of (knd:=Ih prog w) rfl hsb hel];simp only[↓reduceIte];unfold setAddByScan;refine AC ?_;refine AC (Jb ?_);refine AC (wpAny_setScan_of (knd:=Ih prog w) (k:=k) (MZ _ _ _ _) S.ho S.hd S.inv.fits hel ?_);cases hr:List.findIdx? (λe=>(Ih prog w).is k e.2) es.toList with
 |some j=>
  dsimp only;obtain⟨hj,hpj,_⟩:=List.findIdx?_eq_some_iff_getElem.mp hr;have hmem:k∈ks:=by
   obtain⟨k',e1,⟨t',e2⟩,_⟩:=S.els.get (i:=j) (Bn hj);have:k=k':=by
    rw[e2] at hpj;exact(Ih prog w).inj _ _ _ hpj (MZ _ _ _ _)
   subst this;exact IS e1
  exact At (At (h _ s.heap _ ks o es ep t (Iq _) (LO a s.heap) S (.inl ⟨hmem,rfl⟩)))
 |none=>
  dsimp only;have hmem:k∉ks:=λhm=>by
   obtain⟨i,hi,e⟩:=II hm;obtain⟨x,e1,⟨t',e2⟩⟩:=S.els.get' (i:=i) (by rw[Bn hi,e])
   have:=List.findIdx?_eq_none_iff.mp hr _ (IS e1);rw[e2] at this;rw[show (Ih prog w).is k (NH k t')=true from MZ _ _ _ _] at this
   cases this
  obtain⟨es1,t1,e1,M1,l1,p1⟩:=S.inv.layNew (hashInt k) (.int k tk);have e1:layNew t es ((Ih prog w).hash k) (.int k tk)=(es1,t1,false,false):=e1;rw[e1];dsimp only;refine AC (show wpAny _ _ (pure ()) _ _ _ from At ?_)
  rw[M1.plain];simp only[↓reduceIte];refine AC ?_;rw[hashByValue_scannable 8 rfl];refine At ?_;simp only[plainKind,↓reduceIte,OC,Mp];refine AC (oJ (A:=A) (E:=E) (D:=intD prog w) (s:={ s with toks:=s.toks+1 }) S' hmem ⟨tk,rfl⟩ M1 (l1.trans S.led) p1 hb λh1 g1 f1 f2=>?_)
  have fin:∀h',Fin (intD prog w) s.heap a led ks k h'->Q true { s with heap:=h',toks:=s.toks+1 }:=λh' ⟨ks',o',es',ep',t',sb,K',pm⟩=>h _ h' _ ks' o' es' ep' t' (Iq _) sb K' (.inr ⟨hmem,pm⟩)
  by_cases hf:t1.tooFull=true
  ·rw[if_pos hf]
   have hsz1:es1.size=ks.length+1:=by rw[<-Do,p1.length_eq,Bz,Do,S.size]
   obtain⟨es2,t2,e2,I2,l2,p2⟩:=M1.relayAll (by lia)
   rw[e2];dsimp only;refine AC (show wpAny _ _ (pure ()) _ _ _ from At ?_)
   have hsz2:es2.size=ks.length+1:=by rw[<-Do,p2.length_eq,Do,hsz1]
   refine AC (Nh g1 rfl ?_ (by rw[IX]; lia))
   exact At (At (fin _ (f2 es2 t2 I2 (l2.trans (l1.trans S.led)) p2)))
  ·rw[if_neg hf]
   exact At (At (fin _ (f1 (by simpa using hf))))
end
abbrev xh(prog:Fm)(w:World)(L:List Int->Value->Prop):Kd prog w where
 K:=List Int
 dec:=inferInstance
 is:=λh k v=>L k v/\∃a,v=.ref a/\L9 (Ih prog w) h k a
 hash:=Ix (Ih prog w)
 keeps:=λ{h h' k v a o es ep t} ⟨hL,b,e,o',items,n,ho',hc,hd',hi⟩ ho hd hs=>by
  have hne:b≠a:=by
   rintro rfl;obtain rfl:o'=o:=Go (ho'.symm.trans ho);rw[hd] at hd'; exact nomatch hd'
  exact⟨hL,b,e,o',items,n,(hs.2 b hne).trans ho',hc,hd',hi⟩
section
variable{prog:Fm}{w:World}{A:ID}{E:Value->B1->Prop}{s:B1}
theorem kH{k:List Int}{b:Addr}{Q:Bool->B1->Prop}(hk:L9 (Ih prog w) s.heap k b)(h:Q true s):wpAny (model prog w) A (hashByValue 8 (.ref b)) Q E s:=by
 have hT:=hk.typeIs;obtain⟨o,items,n,ho,_,hd,hi⟩:=hk;unfold hashByValue;refine AC (OT hT F.slot_tuple_hash.lookup ?_);dsimp only;refine AC (Ja ho hd ?_);refine AC ?_;show wpAny _ _ (forIn items _ _) _ _ s;rw[<-PY];refine LR _ (λrest r s'=>r.1=none/\s'=s/\∃left,ItemsAre (Ih prog w) left rest) _ ?_ ?_ _ _ ⟨rfl,rfl,_,hi⟩
 ·rintro v rest r s' ⟨hr,rfl,left,hl⟩
  cases hl with
  |cons h1 hl' =>
   obtain⟨tk,rfl⟩:=N1 h1;refine AC (show wpAny _ _ (pure true) _ _ _ from At ?_)
   simp only[Ka,GM,if_false];exact At ⟨rfl,rfl,_,hl'⟩
 ·rintro⟨r1,r2⟩ s' ⟨hr,rfl,_⟩
  simp only at hr;subst hr;exact At h
theorem ku{k:List Int}{b:Addr}{Q:Bool->B1->Prop}(hk:L9 (Ih prog w) s.heap k b)(h:Q false s):wpAny (model prog w) A (ofAClassStatement 8 (.ref b)) Q E s:=by
 have hT:=hk.typeIs;obtain⟨o,items,n,ho,_,hd,hi⟩:=hk;unfold ofAClassStatement;refine AC (Ku hT ?_);dsimp only;rw[if_pos (by rfl)]
 refine AC (At ?_);simp only[Ka,GM,if_false];refine AC (Ja ho hd ?_);dsimp only;refine AC ?_;show wpAny _ _ (forIn items _ _) _ _ s;rw[<-PY];refine LR _ (λrest r s'=>r.1=none/\s'=s/\∃left,ItemsAre (Ih prog w) left rest) _ ?_ ?_ _ _ ⟨rfl,rfl,_,hi⟩
 ·rintro v rest r s' ⟨hr,rfl,left,hl⟩
  cases hl with
  |cons h1 hl' =>
   obtain⟨tk,rfl⟩:=N1 h1;refine AC (show wpAny _ _ (pure false) _ _ _ from At ?_)
   simp only[GM,if_false];exact At ⟨rfl,rfl,_,hl'⟩
 ·rintro⟨r1,r2⟩ s' ⟨hr,rfl,_⟩
  simp only at hr;subst hr;exact At h
theorem zX{k:List Int}{b:Addr}{Q:Bool->B1->Prop}(hk:L9 (Ih prog w) s.heap k b)(ys:List Value)(hy:∀y∈ys,∃k' b',y=.ref b'/\L9 (Ih prog w) s.heap k' b')(h:Q false s):wpAny (model prog w) A (Nn (.ref b) ys) Q E s:=by
 unfold Nn;refine AC ?_;refine LR _ (λrest r s'=>r.1=none/\s'=s/\∀y∈rest,∃k' b',y=.ref b'/\L9 (Ih prog w) s.heap k' b') _ ?_ ?_ _ _ ⟨rfl,rfl,hy⟩
 ·rintro v rest r s' ⟨hr,rfl,hl⟩
  obtain⟨k',b',rfl,hk'⟩:=hl v lS;have hl':∀y∈rest,∃k' b',y=.ref b'/\L9 (Ih prog w) s'.heap k' b':=λy hy=>hl y (lO _ hy)
  dsimp only
  split
  ·exact At ⟨rfl,rfl,hl'⟩
  ·refine AC (Q7 hk ?_)
   simp only[Ka,GM,if_false];refine AC (Q7 hk' ?_);simp only[Ka,GM,if_false];refine AC (ku hk ?_);simp only[GM,if_false];refine AC (ku hk' ?_);simp only[GM,if_false];exact At ⟨rfl,rfl,hl'⟩
 ·rintro⟨r1,r2⟩ s' ⟨hr,rfl,_⟩
  simp only at hr;subst hr;exact At h
theorem uh{a:Addr}{led:Bool}{L:List Int->Value->Prop}{ks:List (xh prog w L).K}{o:Obj}{es:Array (Int×Value)}{ep:Nat}{t:IY}(S:kG (xh prog w L) s.heap a led ks o es ep t)(hu:A.units<cLine){k:List Int}{b:Addr}(hk:L9 (Ih prog w) s.heap k b){Q:SetFound->B1->Prop} :
  ∀(m f:Nat)(p:Probe)(st:Option Probe),m<f->m<10*turns t.mask->st.getD (t.probeStart (Ix (Ih prog w) k))=p->p.dummy=none->¬Tk t (it t.mask m p).j->(∀k',k'<m->Tk t (it t.mask k' p).j) ->
  (k∈ks->Q (.there none) s)->((∀k',k'<m->∀i:Nat,t.place[i]? = some (it t.mask k' p).j->ks[i]?≠some k)->Q (.free (it t.mask m p).j false) s) ->
  wpAny (model prog w) A (PH a (.ref b) (Ix (Ih prog w) k) true f st) Q E s:=by
 intro m
 induction m using Qe with
 |ind m ih=>
  intro f p st hmf hmt hst hpd hn ht hthere hfree;obtain⟨f,rfl⟩:∃g,f=g+1:=⟨f-1,by lia⟩
  unfold PH;refine AC (JN S.ho S.hd S.inv.fits ?_);dsimp only;have hgw:t.gaveWay=false:=by
   obtain⟨c,hc⟩:=S.inv.pow;have h7:=S.inv.ge;unfold SetTable.gaveWay;cases c with
   |zero=>rw[Oy] at hc; lia
   |succ c=>
    rw[Jr] at hc;have:t.mask % 2=1:=by lia
    rw[this]; rfl
  rw[hgw];simp only[GM,if_false];rw[hst,rR];have nL:∀{i:Nat},((es[i]?.map (·.1)).getD 0)≠Ix (Ih prog w) k->ks[i]?≠some k:=λ{i}hne e=>by
   obtain⟨x,e1,_⟩:=S.els.get' e;rw[Hc] at e1;rw[e1] at hne;exact hne rfl
  generalize hr:MQ t _ (Ix (Ih prog w) k) (10*turns t.mask) p=r;have hr:MQ t (λi=>(es[i]?.map (·.1)).getD 0) (Ix (Ih prog w) k) (10*turns t.mask) p=r:=hr
  rcases rQ S.inv.rise S.inv.dum (λi=>(es[i]?.map (·.1)).getD 0) (Ix (Ih prog w) k) (10*turns t.mask) p m hmt hpd hn ht with⟨e,hno⟩ | ⟨k1,i,hk1,hi,hh,e,hno⟩
  ·rw[e] at hr
   subst hr;exact At (hfree λk' hk' i hi=>nL (hno k' hk' i hi))
  ·rw[e] at hr
   subst hr;have hio:i<es.size:=by rw[<-S.inv.size]; exact(J9.mp hi).1
   obtain⟨y,hy⟩:∃y,es[i]? = some y:=⟨es[i],by simp[hio]⟩
   obtain⟨ki,hki,⟨_,bi,ebi,hti⟩,_⟩:=S.els.get (i:=i) (q:=y) (by rw[Hc]; exact hy)
   obtain⟨yh,yv⟩:=y;have ebi:yv=.ref bi:=ebi;subst ebi;dsimp only;have hsm:t.sameMemory t.moves t.mask=some true:=by unfold SetTable.sameMemory; simp
   have hsplit:m=k1+1+(m-(k1+1)):=by lia
   have recu:ki≠k->wpAny (model prog w) A (PH a (.ref b) (Ix (Ih prog w) k) true f (some (it t.mask (k1+1) p))) Q E s:=λhq=>by
    refine ih (m-(k1+1)) (by lia) f (it t.mask (k1+1) p) _ (by lia) (by lia) rfl (rS _ _ _ hpd) ?_ (λk' hk' =>?_) hthere λhfr=>?_
    ·rw[<-eZ,<-hsplit]; exact hn
    ·rw[<-eZ]; exact ht _ (by lia)
    ·have:=hfree λk' hk' i' hi' =>?_
     ·rw[hsplit,eZ] at this; exact this
     ·rcases Lr k' k1 with q | q | q
      ·exact nL (hno k' q i' hi')
      ·subst q
       have:i'=i:=by
        have a1:=gf S.inv.rise hi';have a2:=gf S.inv.rise hi;rw[a1] at a2
        injection a2
       subst this;rw[hki];intro z;exact hq (Go z)
      ·have:=hfr (k'-(k1+1)) (by lia) i' (by rw[<-eZ,show k1+1+(k'-(k1+1))=k' by lia]; exact hi')
       exact this
   have seen:∀{Q':Bool->B1->Prop},Q' false s->wpAny (model prog w) A (Nn (.ref b) ((es.filter (·.1 == Ix (Ih prog w) k)).toList.map (·.2))) Q' E s:=λhQ'=>zX hk _ (λy hyy=>by
     obtain⟨q,hq,rfl⟩:=Hd.mp hyy;have hq:=(Array.mem_filter.mp (P6.mp hq)).1;obtain⟨j,hj,e⟩:=II (P6.mpr hq);obtain⟨kj,_,⟨_,bj,ebj,htj⟩,_⟩:=S.els.get (i:=j) (q:=q) (by rw[Bn hj,e])
     exact⟨kj,bj,ebj,htj⟩) hQ'
   cases hled:t.led
   ·simp only[OC,if_true]
    refine AC (seen ?_);simp only[GM,if_false];rw[hy];dsimp only;refine AC (IK (Qk hu hti hk ?_));refine AC (JN S.ho S.hd S.inv.fits ?_);dsimp only
    by_cases hq:ki=k
    ·rw[decide_eq_true hq]
     simp only[R6,if_true];exact At (hthere (hq▸IS hki))
    ·rw[decide_eq_false hq]
     simp only[OD,GM,if_false];rw[hsm];dsimp only;rw[if_pos rfl,gf S.inv.rise hi];dsimp only;rw[hy];dsimp only;refine AC (Q5 (AC (At ?_)));exact recu hq
   ·simp only[Ka,GM,if_false]
    rw[hy];dsimp only;refine AC (IK (Qk hu hti hk ?_));refine AC (JN S.ho S.hd S.inv.fits ?_);dsimp only
    by_cases hq:ki=k
    ·rw[decide_eq_true hq]
     simp only[R6,if_true];exact At (hthere (hq▸IS hki))
    ·rw[decide_eq_false hq]
     simp only[OD,GM,if_false];rw[hsm];dsimp only;rw[if_pos rfl,gf S.inv.rise hi];dsimp only;rw[hy];dsimp only;refine AC (Q5 (AC (At ?_)));exact recu hq
end
section
variable{prog:Fm}{w:World}{A:ID}{E:Value->B1->Prop}{s:B1}
theorem kG.toks{D:Kd prog w}{a:Addr}{led:Bool}{ks:List D.K}{o:Obj}{es:Array (Int×Value)}{ep:Nat}{t:IY}(S:kG D s.heap a led ks o es ep t)(n:Nat):kG D ({ s with toks:=n }:B1).heap a led ks o es ep t:=S
theorem vp{L:List Int->Value->Prop}(hu:A.units<cLine):Adds (xh prog w L) A:=by
 intro E s a led ks o es ep t k x Q S hx hb h;obtain⟨hL,b,rfl,hk⟩:=hx;unfold setAdd;refine IK ?_;refine AC (wpAny_pyHash_tuple hu hk ?_);have S':=S.toks (s.toks+(k.length+1));have hk':L9 (Ih prog w) ({ s with toks:=s.toks+(k.length+1) }:B1).heap k b:=hk
 have htk:s.toks<=s.toks+(k.length+1):=LL _ _;have hsz:=S.size;unfold setAddHashed setAddHashedIn;refine IK (AC (JN S.ho S.hd S.inv.fits ?_));dsimp only;rw[show byScan (.ref b) es=false from rfl]
 simp only[GM,if_false];obtain⟨m,hm,hn,hle,ht⟩:=S.inv.first (Ix (Ih prog w) k);have hmask:=S.inv.le;refine AC (uh (s:={ s with toks:=s.toks+(k.length+1) }) S' hu hk' m 100000 (start t.mask (Ix (Ih prog w) k)) none (by lia) (by unfold turns; lia) rfl rfl hn ht (λhmem=>?_) λhno=>?_)
 ·exact At (h _ s.heap _ ks o es ep t htk (LO a s.heap) S (.inl ⟨hmem,rfl⟩))
 ·dsimp only
  have hmem:k∉ks:=λhmk=>by
   obtain⟨i,hi,e⟩:=II hmk;have hki:ks[i]? = some k:=by rw[Bn hi,e]
   obtain⟨x,e1,_⟩:=S.els.get' hki;have hio:i<t.place.size:=by rw[S.inv.size,hsz]; exact hi
   have hpl:t.place[i]? = some t.place[i]:=by simp[hio]
   have hz:(t.place[i],((Ix (Ih prog w) k,x):Int×Value))∈t.place.toList.zip es.toList:=by
    refine IS (i:=i) ?_;rw[Kq];exact⟨by rw[Hc]; exact hpl,e1⟩
   obtain⟨m',e2,e3⟩:=S.inv.way _ hz;have e2:(it t.mask m' (start t.mask (Ix (Ih prog w) k))).j=t.place[i]:=e2;have hlt:m'<m:=by
    rcases Lr m' m with q | q | q
    ·exact q
    ·subst q; exact absurd (CW (by rw[e2]; exact hpl)) hn
    ·exact absurd (e3 m q) hn
   exact hno m' hlt i (by rw[e2]; exact hpl) hki
  obtain⟨M1,l1⟩:=S.inv.put (.ref b) hn hle ⟨m,rfl,ht⟩;refine AC (JN S.ho S.hd S.inv.fits ?_);dsimp only;have p1:(KI es (t.put (it t.mask m (start t.mask (Ix (Ih prog w) k))).j).2 (Ix (Ih prog w) k,.ref b)).toList.Perm ((Ix (Ih prog w) k,.ref b)::es.toList):=by
   refine(KM es _ _).trans ?_;rw[L6];exact Lf _ _
  generalize t.put (it t.mask m (start t.mask (Ix (Ih prog w) k))).j=pt at M1 l1 p1 ⊢;obtain⟨t1,p⟩:=pt;dsimp only at M1 l1 p1 ⊢;generalize KI es p (Ix (Ih prog w) k,J6 b)=es1 at M1 p1 ⊢;rw[M1.plain];simp only[if_true];refine AC (kH hk' ?_);simp only[if_true];refine AC (oJ (D:=xh prog w L) (k:=k) (x:=.ref b) (s:={ s with toks:=s.toks+(k.length+1) }) S' hmem ⟨hL,b,rfl,hk'⟩ M1 (l1.trans S.led) p1 hb λh1 g1 f1 f2=>?_)
  have fin:∀h',Fin (xh prog w L) s.heap a led ks k h'->Q true { s with heap:=h',toks:=s.toks+(k.length+1) }:=λh' ⟨ks',o',es',ep',t',sb,K',pm⟩=>h _ h' _ ks' o' es' ep' t' htk sb K' (.inr ⟨hmem,pm⟩)
  simp only[OC,Mp];have hsz1:es1.size=ks.length+1:=by rw[<-Do,p1.length_eq,Bz,Do,hsz]
  by_cases hf:t1.tooFull=true
  ·rw[if_pos hf]
   unfold setRelay;refine AC (AC (JN (s:={ s with heap:=h1,toks:=s.toks+(k.length+1) }) g1 rfl M1.fits ?_))
   dsimp only;have hg:grown (es.size+1)=grown es1.size:=by rw[hsz1,hsz]
   rw[hg];obtain⟨t2,order,e2,hp2,I2,l2⟩:=CY M1 (by lia)
   have hab:¬MP (grown es1.size)>FV:=by
    have hgr:grown es1.size=es1.size*4:=by unfold grown; rw[if_neg (by lia)]
    obtain⟨_,_,_,h4⟩:=mH (n:=grown es1.size) (by rw[hgr]; lia)
    rw[IX];rw[hgr] at h4 ⊢;lia
   rw[if_neg hab,e2];have hpp:=oG hp2;have hsz2:(order.filterMap (es1[·]?)).size=es1.size:=by rw[<-Do,hpp.length_eq,Do]
   refine AC (show wpAny _ _ (do
     if (order.filterMap (es1[·]?)).size != es1.size then Mz "internal:set-table-lost-an-element"
     pure (order.filterMap (es1[·]?),t2)) _ _ _ from ?_)
   rw[hsz2];simp only[bne_self_eq_false,GM,if_false];refine At ?_;dsimp only;refine Nh (s:={ s with heap:=h1,toks:=s.toks+(k.length+1) }) g1 rfl ?_ (by rw[IX,hsz2]; lia)
   exact At (fin _ (f2 _ t2 I2 (l2.trans (l1.trans S.led)) hpp))
  ·rw[if_neg hf]
   exact At (fin _ (f1 (by simpa using hf)))
end
end ST
end
section
namespace ST
open PySem PySem.SetTable PySem.Spec PySem.W
namespace F
theorem rT:Manifest.owners.lookup (String.ofList ("rotareti_tes".toList).reverse)=some Manifest.sig_set_iterator:=by kernel_rfl
theorem cI:Slot "set_iterator" "__next__" "set_iterator.__next__" :=
 Slot.of (owner := "set_iterator") (n := "__next__") (by rw[OV,Mh]; kernel_rfl) (by decide +kernel) (by decide +kernel) (by decide +kernel) (by first | exact .inl (by decide +kernel) | exact .inr (by decide +kernel)) (by rw[On]; kernel_rfl)
theorem jF:Slot "set_iterator" "__iter__" "set_iterator.__iter__" :=
 Slot.of (owner := "set_iterator") (n := "__iter__") (by rw[OV,Mh]; kernel_rfl) (by decide +kernel) (by decide +kernel) (by decide +kernel) (by first | exact .inl (by decide +kernel) | exact .inr (by decide +kernel)) (by rw[On]; kernel_rfl)
theorem iR:QI table "set_iterator.__next__" = some J1.«set_iterator.__next__» := entryFor_of_tree (by kernel_rfl)
theorem jG(a:Value):argsOk "set_iterator.__next__" ⟨[a],[]⟩:=by
 unfold argsOk;rw[signature?_of (id := "set_iterator.__next__") (n := "__txen__".toList) (o := "rotareti_tes".toList) (by kernel_rfl) rT]
 kernel_rfl
theorem qp(a:Value):argsOk "set_iterator.__iter__" ⟨[a],[]⟩:=by
 unfold argsOk;rw[signature?_of (id := "set_iterator.__iter__") (n := "__reti__".toList) (o := "rotareti_tes".toList) (by kernel_rfl) rT]
 kernel_rfl
theorem nJ:QI table "set_iterator.__iter__" = some J1.«dict_keyiterator.__iter__» :=
 entryFor_alias (id' := "dict_keyiterator.__iter__") (by kernel_rfl) (by first | rfl | decide +kernel | (unfold String.splitOn; simp +decide [String.splitOnAux])) (by decide +kernel) (by kernel_rfl)
theorem mJ:QI table "set.__iter__" = some J1.«frozenset.__iter__» := entryFor_alias (id' := "frozenset.__iter__") (by kernel_rfl) rfl (by decide +kernel) (by kernel_rfl)
end F
noncomputable def je(w:World):Bool:=w.params.followText "set-order"
theorem mK{α:Type}:∀{l:List α}{i:Nat}(h:i<l.length),(l[i]::l.eraseIdx i).Perm l
 |x::l,0,_=>.refl _
 |x::l,i+1,h=>(List.Perm.swap _ _ _).trans ((mK (l:=l) (i:=i) (by simpa using h)).cons x)
theorem oK{α:Type}(next:Nat->Nat):∀(f k:Nat)(left:List α)(out:Array α),left.length=f->(Pl next f k left out).toList.Perm (out.toList++left)
 |0,k,left,out,h=>by
  have:left=[]:=NY h;subst this;rw[EQ]; exact .refl _
 |f+1,k,left,out,h=>by
  have hi:next k % left.length<left.length:=KU _ (by lia)
  unfold Pl;rw[Bn hi];dsimp only;refine(oK next f (k+1) _ _ (by rw[List.length_eraseIdx,if_pos hi]; lia)).trans ?_
  rw[L6,Bi];exact IT _ (mK hi)
noncomputable def e9(w:World)(a:Addr)(ep:Nat)(es:Array (Int×Value)):Array (Int×Value):=if je w=true then pickOrder (w.params.setOrder a ep) es else es
theorem rU(w:World)(a:Addr)(ep:Nat)(es:Array (Int×Value)):(e9 w a ep es).toList.Perm es.toList:=by
 unfold e9
 split
 ·unfold pickOrder
  have:=oK (w.params.setOrder a ep) es.size 0 es.toList #[] (by simp)
  simpa using this
 ·exact .refl _
theorem jH(w:World)(a:Addr)(ep:Nat)(es:Array (Int×Value)):(e9 w a ep es).size=es.size:=by
 rw[<-Do,(rU w a ep es).length_eq,Do]
noncomputable def slotAt(w:World)(t:IY):Nat->Nat
 |0=>0
 |i+1=>if je w=true then 0 else t.place.getD i 0+1
theorem mL(w:World)(t:IY)(i:Nat):slotAt w t (i+1)=if je w=true then 0 else t.place.getD i 0+1:=rfl
section
variable{prog:Fm}{w:World}{A:ID}{E:Value->B1->Prop}{s:B1}{a:Addr}{o:Obj}{es:Array (Int×Value)}{ep:Nat}{t:IY}
theorem mO(ho:s.heap.get? a=some o)(hd:o.data=.set es ep t)(T:eK t es)(hl:t.led = !je w){i:Nat}(hi:i<=es.size){Q:Option (Value×Nat)->B1->Prop}
  (h:Q (((e9 w a ep es)[i]?).map λe=>(e.2,slotAt w t (i+1))) s):wpAny (model prog w) A (setNext a (slotAt w t i) i ep) Q E s:=by
 unfold setNext;refine AC (JN ho hd T.fits ?_);dsimp only;unfold Qn;refine AC (AC (Kv (At ?_)));show wpAny _ _ (if je w=true then _ else _) _ _ _
 by_cases hb:je w=true
 ·rw[if_pos hb]
  simp only[bne_self_eq_false,GM,if_false];unfold setWalk;refine AC (AC (JN ho hd T.fits ?_));dsimp only;unfold Qn;refine AC (AC (Kv (At ?_)));show wpAny _ _ (if je w=true then _ else _) _ _ _
  rw[if_pos hb];refine AC (Kv (At ?_));refine At ?_;have e1:slotAt w t (i+1)=slotAt w t i:=by
   cases i with
   |zero=>rw[mL,if_pos hb]; rfl
   |succ i=>rw[mL,mL,if_pos hb,if_pos hb]
  unfold e9 at h;rw[if_pos hb,e1] at h;exact h
 ·rw[if_neg hb]
  have hbf:je w=false:=by simpa using hb
  rw[hbf] at hl;have hbel:below t.place (slotAt w t i)=i:=by
   cases i with
   |zero=>exact uf T.rise
   |succ i=>
    rw[mL,if_neg hb];have hlt:i<t.place.size:=by rw[T.size]; lia
    exact ue T.rise (by simp[Jw,hlt])
  show wpAny _ _ (if (!t.plain && decide (es.size>1))=true then _ else _) _ _ _
  rw[T.plain,if_neg (by simp)]
  refine AC (show wpAny _ _ (if (!t.led && !es.isEmpty)=true then Mz "set:maker-not-led" else pure ()) _ _ _ from ?_)
  rw[hl,if_neg (by simp)]
  refine At (At ?_);rw[hbel];unfold e9 at h;rw[if_neg hb,mL,if_neg hb] at h
  by_cases hlt:i<es.size
  ·have hlt':i<t.place.size:=by rw[T.size]; exact hlt
   have e1:es[i]? = some es[i]:=by simp[hlt]
   have e2:t.place[i]? = some t.place[i]:=by simp[hlt']
   have e3:t.place.getD i 0=t.place[i]:=by simp[Jw,hlt']
   rw[e1,e3] at h;rw[e1,e2];exact h
  ·have e1:es[i]? = none:=by simp; lia
   rw[e1] at h;rw[e1];exact h
noncomputable abbrev Gh(sl i n ep:Nat)(a:Addr):Obj:={ cls:=.type "set_iterator",data:=.fields #[Lh sl,Lh i,.ref a,Lh n,Lh ep] }
theorem um(ho:s.heap.get? a=some o)(hex:o.ExactSet)(hd:o.data=.set es ep t)(T:eK t es){Q:Value->B1->Prop}(h:Q (.ref s.heap.objs.size) { s with heap:=s.heap.push (Gh 0 0 es.size ep a) }) :
  wpAny (model prog w) A (OG (.ref a)) Q E s:=by
 have hT:s.TypeIs (.ref a) "set" := ⟨o,ho,hex.1⟩;refine Ni hT ON (IR ON hT F.mJ ?_ (PySem.F.args_set_iter_1 _));unfold J1.«frozenset.__iter__» QM slotArgs QN;simp only[NS,Ka,GM,↓reduceIte,bind_assoc,Ic,bne_self_eq_false];refine AC (At ?_);refine AC (show wpAny _ _ (pure a) _ _ _ from At ?_)
 refine AC (NF ho hd T.fits ?_);refine AC (At ?_);refine AC ?_;unfold setDrawn Qn;refine AC (JN ho hd T.fits ?_);dsimp only;refine AC (AC (Kv (At ?_)));refine At ?_;show wpAny _ _ (if (!je w && (!t.plain && decide (es.size>1)))=true then _ else _) _ _ _
 rw[T.plain,if_neg (by simp)]
 refine AC (At ?_);refine AC (wpAny_setEpoch_of ho hd T.fits ?_);refine AC (IB (At ⟨_,rfl, "set_iterator",_,⟨_,Da _ rfl,rfl⟩,F.cI.lookup,?_⟩));exact h
theorem B8{I:Addr}{i:Nat}(hI:s.heap.get? I=some (Gh (slotAt w t i) i es.size ep a))(ho:s.heap.get? a=some o)(hd:o.data=.set es ep t)(T:eK t es)(hl:t.led = !je w){v:Value}(hv:((e9 w a ep es)[i]?).map (·.2)=some v)
  {Q:Option Value->B1->Prop} (h:∀h',h'.get? I=some (Gh (slotAt w t (i+1)) (i+1) es.size ep a)->JG I s.heap h'->Q (some v) { s with heap:=h' }):wpAny (model prog w) A (Ks (.ref I)) Q E s:=by
 have hT:s.TypeIs (.ref I) "set_iterator" := ⟨_,hI,rfl⟩;obtain⟨e,he,rfl⟩:=JF.mp hv;have hlt:i<es.size:=by rw[<-jH w a ep es]; exact(J9.mp he).1
 unfold Ks;refine AC (L5 (Ii (name:=KS "__next__") hT F.cI (IR F.cI hT F.iR ?_ (F.jG _))));unfold J1.«set_iterator.__next__» slotArgs;simp only[NS,Ka,GM,↓reduceIte,Ic,bne_self_eq_false];refine AC (At ?_);refine AC (My hI rfl ?_);show wpAny _ _ (setEntries a >>= _) _ _ _;refine AC (NF ho hd T.fits ?_);rw[if_neg (by simp)]
 show wpAny _ _ (setNext a ((slotAt w t i:Int)).toNat ((i:Int)).toNat ((ep:Int)).toNat >>= _) _ _ _;simp only[JZ];refine AC (mO ho hd T hl (JI hlt) ?_);rw[he];show wpAny _ _ (QG (.ref I) 0 (Lh (slotAt w t (i+1))) >>= _) _ _ _;refine AC (J0 hI (by simp) λh1 g1 s1=>?_)
 refine AC (J0 g1 (by simp) λh2 g2 s2=>?_)
 refine At ⟨e.2,rfl,At (h h2 ?_ (s1.trans s2))⟩;rw[g2];rfl
theorem next_end(hh:A.handled=none){I:Addr}(hI:s.heap.get? I=some (Gh (slotAt w t es.size) es.size es.size ep a))(ho:s.heap.get? a=some o)(hd:o.data=.set es ep t)(T:eK t es)(hl:t.led = !je w)
  {Q:Option Value->B1->Prop} (h:∀h',P8 I s.heap h'->Q none { s with heap:=h' }):wpAny (model prog w) A (Ks (.ref I)) Q E s:=by
 have hT:s.TypeIs (.ref I) "set_iterator" := ⟨_,hI,rfl⟩;have he:(e9 w a ep es)[es.size]? = none:=by rw[<-jH w a ep es]; simp
 unfold Ks;refine AC (L5 (Ii (name:=KS "__next__") hT F.cI (IR F.cI hT F.iR ?_ (F.jG _))));unfold J1.«set_iterator.__next__» slotArgs;simp only[NS,Ka,GM,↓reduceIte,Ic,bne_self_eq_false];refine AC (At ?_);refine AC (My hI rfl ?_);show wpAny _ _ (setEntries a >>= _) _ _ _;refine AC (NF ho hd T.fits ?_);rw[if_neg (by simp)]
 show wpAny _ _ (setNext a ((slotAt w t es.size:Int)).toNat ((es.size:Int)).toNat ((ep:Int)).toNat >>= _) _ _ _;simp only[JZ];refine AC (mO ho hd T hl (D2 _) ?_);rw[he];show wpAny _ _ (QG (.ref I) 2 .none >>= _) _ _ _;refine AC (J0 hI (by simp) λh1 g1 s1=>?_)
 refine AC (show wpAny _ _ (Pn (.type "StopIteration") []) _ _ _ from ?_)
 simp only[Pn,newTuple];refine AC (IB ?_ (by size_fits))
 refine AC (m:=LG _ _) (Mw (a:=Gc) (by first | rfl | (simp only[LG]; rfl)) ?_)
 refine IB ?_ (by size_fits)
 simp only[raiseNew];refine AC (PF ?_)
 first | rw[show A.in1.handled=none from hh] | rw[hh]
 refine AC (At (QD ?_));refine AC (MO (T := "StopIteration") (b:=true) ⟨_,Da _ rfl,rfl⟩ Oo ?_);exact At (h _ ((s1.extBut.push _).push _))
theorem zY(hh:A.handled=none)(I:Addr)(hne:a≠I)(hd:o.data=.set es ep t)(T:eK t es)(hl:t.led = !je w) :
  Walks prog w A I [I,a] [I] es.size (λi v=>((e9 w a ep es)[i]?).map (·.2)=some v) (λi h=>h.get? I=some (Gh (slotAt w t i) i es.size ep a)/\h.get? a=some o) where
 sub:=λb hb=>by simp at hb; simp[hb]
 frame:=λ_ _ _ st hk=>⟨hk I (by simp) _ st.1,hk a (by simp) _ st.2⟩
 item:=λi s Q E hi st hQ=>by
  have hi':i<(e9 w a ep es).size:=by rw[jH]; exact hi
  refine B8 (v:=(e9 w a ep es)[i].2) st.1 st.2 hd T hl (by simp[hi']) λh' g' sb=>?_
  exact hQ _ h' s.toks (by simp[hi']) ⟨g',sb.extBut a o hne st.2⟩ λb o hb e=>sb.extBut b o (λz=>hb (by simp[z])) e
 done:=λs Q E st hQ=>next_end hh st.1 st.2 hd T hl λh' he'=>hQ h' s.toks λb o hb e=>he' b o (λz=>hb (by simp[z])) e
 self:=λi s Q E st hQ=>by
  have hT:s.TypeIs (.ref I) "set_iterator" := ⟨_,st.1,rfl⟩;refine Ni hT F.jF (IR F.jF hT F.nJ (show wpAny _ _ (ret (.ref I)) _ _ s from ?_) (F.qp _))
  exact At ⟨_,rfl, "set_iterator",_,hT,F.cI.lookup,hQ⟩
theorem zZ{r:Addr}{Q:Bool->B1->Prop}(hT:s.TypeIs (.ref r) "set")(h:Q false s):wpAny (model prog w) A (Mn (.ref r)) Q E s:=by
 unfold Mn;refine AC (OT hT PySem.F.slot_set_len.lookup ?_);generalize hid:("set.__len__" : String)=id0
 wp_delta
 rw[show splitId id0=some ("set", "__len__") from by subst hid; decide +kernel]
 subst hid;refine AC (MO (T := "set") (b:=true) hT (by rw[On]; kernel_rfl) ?_)
 refine wpAny_ite_split (λhab=>absurd hab (by decide)) (λ_=>?_)
 refine wpAny_ite_split (λ_=>?_) (λhab=>absurd (by decide +kernel) hab)
 exact AC (Ku hT (At h))
theorem B9(hex:o.ExactSet)(hd:o.data=.set es ep t)(T:eK t es)(hl:t.led = !je w):Qt prog w "set" a a es.size (λi v=>((e9 w a ep es)[i]?).map (·.2)=some v) (λh=>h.get? a=some o) where
 type:=λ_ ho=>⟨o,ho,hex.1⟩
 there:=λ_ ho=>⟨Ch ho,Ch ho⟩
 keep:=λ_ _ ho hk=>hk a (.inl rfl) _ ho
 notList:=by decide
 notTuple:=by decide
 hint:=λ_ _ _ _ ho hq=>zZ ⟨o,ho,hex.1⟩ hq
 iter:=λA s hh ho=>⟨_,_,(λ_ _ hq=>um ho hex hd T hq),zY hh _ (Db (Ch ho)) hd T hl,⟨Da _ rfl,Ap _ ho⟩⟩
end
end ST
end
section
namespace ST
open PySem PySem.SetTable PySem.Spec
noncomputable abbrev ig(led:Bool):Obj:={ cls:=.type "set",dict:=none,data:=.set #[] 0 (.fresh 0 0 led) }
def Sets{prog:Fm}{w:World}(D:Kd prog w)(h:Heap)(a:Addr)(M:D.K->Prop)(n:Nat):Prop:=∃ks o es ep t,kG D h a (!je w) ks o es ep t/\(∀k,k∈ks↔M k)/\ks.length<=n
section
variable{prog:Fm}{w:World}{A:ID}{R:Qv->B1->Prop}{I:Addr}{fp wr:List Addr}{G:Array QL->Array QL->Prop}{n:Nat}{P:Nat->Value->Prop}{St:Nat->B1->Prop}
theorem rV{D:Kd prog w}(ad:Adds D A.in1)(W:WalksS prog w A.in1 I fp wr G n P St)(S:Addr)(hS:S∉fp)(val:Nat->D.K)(h0:Heap)
  (hval:∀i v h,P i v->(∀b o,b∉S::wr->h0.get? b=some o->h.get? b=some o)->D.is h (val i) v)
  (hst:∀i h h' k v,(∀b o,b∉S::wr->h0.get? b=some o->h.get? b=some o)->(∀b o,b∉wr->h.get? b=some o->h'.get? b=some o)->k=val i->D.is h k v->D.is h' k v) (hn:n<=1000) :
  ∀(m i:Nat)(s:B1),n-i=m->i<=n->St i s->(∀b o,b∉S::wr->h0.get? b=some o->s.heap.get? b=some o)->Sets D s.heap S (λk=>∃j,j<i/\val j=k) i ->
   (∀s',Moved (S::wr) G s s'->Sets D s'.heap S (λk=>∃j,j<n/\val j=k) n->R (.ok (.ret .none)) s') ->
   Kl (model prog w) A (.builtin "set.update.loop" ⟨[.ref S,.ref I],[]⟩) R s:=by
 have hw:S∉wr:=λz=>hS (W.sub _ z)
 have up:∀b∈wr,b∈S::wr:=λb z=>lO _ z
 have move:∀{s s':B1}{i:Nat},i<=n->(∀b o,b∉S::wr->h0.get? b=some o->s.heap.get? b=some o)->Moved wr G s s'->Sets D s.heap S (λk=>∃j,j<i/\val j=k) i->Sets D s'.heap S (λk=>∃j,j<i/\val j=k) i:=λ{s s' i}hi old mv T=>by
  obtain⟨ks,o,es,ep,t,K,mm,l⟩:=T;refine⟨ks,o,es,ep,t,⟨mv.heap S o hw K.ho,K.hex,K.hd,K.inv,K.led,?_,K.nd⟩,mm,l⟩;have:∀{ks:List D.K}{es:List (Int×Value)},(∀k∈ks,∃j,j<i/\val j=k)->oH D s.heap ks es->oH D s'.heap ks es:=λ{ks es}hm e=>by
   induction e with
   |nil=>exact .nil
   |cons a r ih=>
    obtain⟨j,_,ej⟩:=hm _ lS;exact .cons (hst j _ _ _ _ old mv.heap ej.symm a) (ih λk hk=>hm k (lO _ hk))
  exact this (λk hk=>(mm k).mp hk) K.els
 intro m
 induction m with
 |zero=>
  intro i s e1 e2 st old T fin;obtain rfl:i=n:=by lia
  refine Jj Lq ?_;rw[Jo KY _];refine AC (show wpAny _ A.in1 (Ks (.ref I)) _ _ s from W.done s _ _ st λs' mv=>?_)
  exact At (fin s' (mv.mono up) (move (D2 _) old mv T))
 |succ m ih=>
  intro i s e1 e2 st old T fin;have lt:i<n:=by lia
  refine Jj Lq ?_;rw[Jo KY _];refine AC (show wpAny _ A.in1 (Ks (.ref I)) _ _ s from W.item i s _ _ lt st λv s' hP st' mv=>?_)
  have old':∀b o,b∉S::wr->h0.get? b=some o->s'.heap.get? b=some o:=λb o hb e=>mv.heap b o (λz=>hb (up b z)) (old b o hb e)
  obtain⟨ks,o,es,ep,t,K,mm,l⟩:=move e2 old mv T;refine AC (show wpAny _ A.in1 (LX [v] (setAdd S v)) _ _ s' from IK ?_)
  refine ad K (hval i v _ hP old') (by lia) λb h' tk ks' o' es' ep' t' htk sb K' ar=>?_
  have hsb:∀b o,b≠S->s'.heap.get? b=some o->h'.get? b=some o:=λb o hb e=>(sb.2 b hb).trans e
  refine At ⟨MD KY _,ih (i+1) _ (by lia) lt (W.frame _ s' _ _ st' htk λb hb o e=>hsb b o (λz=>hS (z▸hb)) e) (λb o hb e=>hsb b o (λz=>hb (z▸lS)) (old' b o hb e)) ?_ λs2 mv2 T2=>?_⟩
  ·refine⟨ks',o',es',ep',t',K',λk=>?_,?_⟩
   ·have sx:(∃j,j<i+1/\val j=k)↔(∃j,j<i/\val j=k)\/k=val i:=by
     constructor
     ·rintro⟨j,hj,e⟩
      by_cases q:j=i
      ·subst q; exact .inr e.symm
      ·exact .inl ⟨j,by lia,e⟩
     ·rintro (⟨j,hj,e⟩ | e)
      ·exact⟨j,by lia,e⟩
      ·exact⟨i,by lia,e.symm⟩
    show k∈ks'↔∃j,j<i+1/\val j=k;have mk:k∈ks↔∃j,j<i/\val j=k:=mm k;rw[sx,<-mk];rcases ar with⟨a1,rfl⟩ | ⟨a1,a2⟩
    ·exact⟨λz=>.inl z,λz=>z.elim id λe=>e▸a1⟩
    ·rw[a2.mem_iff,IQ]; exact or_comm
   ·rcases ar with⟨a1,rfl⟩ | ⟨a1,a2⟩
    ·lia
    ·rw[a2.length_eq,Bz]; lia
  ·refine fin s2 (Moved.trans W.gtrans ((mv.mono up).then_heap htk λb o hb e=>hsb b o (λz=>hb (z▸lS)) e) mv2) T2
end
section
variable{prog:Fm}{w:World}{A:ID}{E:Value->B1->Prop}{s:B1}
theorem Ca(a:Value){Q:Value->B1->Prop}(h:Q (.ref s.heap.objs.size) { s with heap:=s.heap.push (ig (!je w)) }) :
  Kl (model prog w) A (.call (.builtin "set.__new__") ⟨[.type "set",a],[]⟩) (wants Q E) s:=by
 refine OY (show wpAny _ A.in1 (do checkBuiltinCall "set.__new__" ⟨[.type "set",a],[]⟩; again (.builtin "set.__new__" ⟨[.type "set",a],[]⟩)) _ _ s from ?_)
 refine AC (Mw (PySem.F.newCall_set_1 a) (At ⟨MD OO _,Jj PySem.F.entry_set_new ?_⟩));rw[Jo OO _];unfold J1.«set.__new__» QO;have self:=sub_set_self;obtain⟨hp,g,d,tk,os⟩:=s;dsimp only
 wp_walk
 refine Kv (At ?_);simp only[newObj];exact AC (wpAny_alloc (At (At h)))
theorem rW{D:Kd prog w}(ad:∀A',A'.units<=A.units+4->Adds D A'){l:Addr}{items:Array Value}{val:Nat->D.K}{Q:Value->B1->Prop}
  (hh:A.handled=none) (hl:s.heap.IsList l items\/s.heap.IsTuple l items) (hn:items.size<=1000)
  (hval:∀i v h,items[i]? = some v->(∀b o,s.heap.get? b=some o->h.get? b=some o)->D.is h (val i) v)
  (hst:∀i h h' k v I,s.heap.objs.size<=I->(∀b o,s.heap.get? b=some o->h.get? b=some o)->(∀b o,b≠I->h.get? b=some o->h'.get? b=some o)->k=val i->D.is h k v->D.is h' k v)
  (h:∀(h':Heap)(tk:Nat),s.toks<=tk->Sets D h' s.heap.objs.size (λk=>∃j,j<items.size/\val j=k) items.size->(∀b o,s.heap.get? b=some o->h'.get? b=some o)->Q (.ref s.heap.objs.size) { s with heap:=h',toks:=tk }) :
  wpAny (model prog w) A (call (.type "set") [.ref l]) Q E s:=by
 obtain⟨c,tl,hmro⟩:=Je.mro;have hmade:=Je.made;have hsub:=Je.sub;refine wpAny_call (OY (show wpAny _ _ (callAny (.type "set") _) _ _ _ from ?_))
 refine At ⟨Pc _ (by decide +kernel),Jj F.entry_type_call ?_⟩
 rw[Around.under_plain (weight_type_call_type "set" [.ref l] []) rfl];have n1:=Je.notType;have n2:=Je.canCreate;have n3:=PySem.F.typeCall_set_1 (.ref l)
 repeat (any_goals (first | assumption | wp_step))
 refine Ma (Ca (.ref l) (E:=E) (Q:=λobj s₁=>obj=.ref s.heap.objs.size/\s₁={ s with heap:=s.heap.push (ig (!je w)) }) ⟨rfl,rfl⟩) λr s₁ hr=>?_
 cases r with
 |error e=>exact hr
 |ok fl=>
  cases fl with
  |ret obj=>
   obtain⟨rfl,rfl⟩:=hr;have hS:(s.heap.push (ig (!je w))).get? s.heap.objs.size=some (ig (!je w)):=Da _ rfl;have hT:O6 { s with heap:=s.heap.push (ig (!je w)) } (.ref s.heap.objs.size) "set" := ⟨_,hS,rfl⟩
   have n4:=Je.init.lookup;have n5:=Je.init.bind (.ref s.heap.objs.size)
   repeat (any_goals (first | assumption | wp_step))
   refine Ma (codeAny_call_builtin (R:=wants (λr s₂=>r=.none/\∃h' tk,s₂={ s with heap:=h',toks:=tk }/\s.toks<=tk /\
     Sets D h' s.heap.objs.size (λk=>∃j,j<items.size/\val j=k) items.size/\(∀b o,s.heap.get? b=some o->h'.get? b=some o)) E) Je.init.plain PySem.F.entry_set_init (check_set_init_1 hT ?_)) λr₂ s₂ hr₂=>?_
   ·have far:∀{l:Addr},l<s.heap.objs.size->s.heap.objs.size∉[(s.heap.push (ig (!je w))).objs.size,l]:=λlt=>by
     rw[HI];simp only[IQ,D1,Hm,or_false,not_or];exact⟨Db (M5 _),KC lt⟩
    have nin:∀{b:Addr},b<s.heap.objs.size->b∉[s.heap.objs.size,(s.heap.push (ig (!je w))).objs.size]:=λlt=>by
     rw[HI];simp only[IQ,D1,Hm,or_false,not_or];exact⟨Db lt,Db (JJ lt)⟩
    have h3:A.in1.in1.in1.handled=none:=by simp[hh]
    rcases hl with hl | hl
    ·obtain⟨ol,hol,hcl,nl,hdl⟩:=hl
     obtain⟨ocls,odict,odata,oslots⟩:=ol;dsimp only at hcl hdl;subst hcl; subst hdl;have hol':(s.heap.push (ig (!je w))).get? l=some ⟨.type "list",odict,.seq items nl,oslots⟩:=Ap _ hol;have q1:=PySem.F.sub_list_set;have q2:=PySem.F.sub_list_frozenset;have q3:(Lb "list" == Lb "dict")=false:=by decide
     have src:(s.heap.push (ig (!je w))).IsList l items:=⟨_,hol',rfl,nl,rfl⟩;have lt:=Ch hol;unfold J1.«set.__init__» noKeywords MF;generalize hPI:OG=PI
     wp_walk
     subst hPI;refine M6 src (AC (Mv ?_));refine rV (D:=D) (ad _ (by show A.units+1+1+1<=A.units+4; lia)) ((Walks.list (A:=A.in1.in1.in1) h3 _ l (by rw[HI]; exact Db (JJ lt)) items).toS) s.heap.objs.size (far lt) val ((s.heap.push (ig (!je w))).push ⟨.type "list_iterator",none,.fields #[.ref l,.int 0 0],#[]⟩)
      (λi v h e k=>hval i v h e λb o eb=>k b o (nin (Ch eb)) (Ap _ (Ap _ eb)))
      (λi h h' k v k1 k2 ek a=>hst i h h' k v (s.heap.push (ig (!je w))).objs.size (by rw[HI]; exact Iq _) (λb o eb=>k1 b o (nin (Ch eb)) (Ap _ (Ap _ eb))) (λb o hb eb=>k2 b o (by simpa using hb) eb) ek a)
      hn (items.size-0) 0 _ rfl (Hn _) ⟨⟨_,Da _ rfl,rfl,rfl⟩,src.push _⟩ (λb o _ e=>e) ?_ λs' mv T=>?_
     ·exact⟨[],ig (!je w),#[],0,_,⟨Ap _ hS,⟨rfl,rfl,rfl⟩,rfl,oF _,rfl,.nil,.nil⟩,λk=>⟨λz=>(nomatch z),λ⟨j,z,_⟩=>absurd z (LU _)⟩,D2 _⟩
     ·obtain⟨h',g',d',tk',os'⟩:=s'
      obtain rfl:g'=s.gens:=mv.gens;obtain rfl:d'=s.drawn:=mv.drawn;obtain rfl:os'=s.os:=mv.os;refine At (show wpAny _ _ (ret Gc) _ _ _ from At ⟨rfl,h',tk',rfl,mv.toks,T,λb o e=>?_⟩)
      exact mv.heap b o (nin (Ch e)) (Ap _ (Ap _ e))
    ·obtain⟨ol,hol,hcl,nl,hdl⟩:=hl
     obtain⟨ocls,odict,odata,oslots⟩:=ol;dsimp only at hcl hdl;subst hcl; subst hdl;have hol':(s.heap.push (ig (!je w))).get? l=some ⟨.type "tuple",odict,.seq items nl,oslots⟩:=Ap _ hol;have q1:=PySem.F.sub_tuple_set;have q2:=PySem.F.sub_tuple_frozenset;have q3:(Lb "tuple" == Lb "dict")=false:=by decide
     have src:(s.heap.push (ig (!je w))).IsTuple l items:=⟨_,hol',rfl,nl,rfl⟩;have lt:=Ch hol;unfold J1.«set.__init__» noKeywords MF;generalize hPI:OG=PI
     wp_walk
     subst hPI;refine Lv src (AC (Mv ?_));refine rV (D:=D) (ad _ (by show A.units+1+1+1<=A.units+4; lia)) ((Walks.tuple (A:=A.in1.in1.in1) h3 _ l (by rw[HI]; exact Db (JJ lt)) items).toS) s.heap.objs.size (far lt) val ((s.heap.push (ig (!je w))).push ⟨.type "tuple_iterator",none,.fields #[.ref l,.int 0 0],#[]⟩)
      (λi v h e k=>hval i v h e λb o eb=>k b o (nin (Ch eb)) (Ap _ (Ap _ eb)))
      (λi h h' k v k1 k2 ek a=>hst i h h' k v (s.heap.push (ig (!je w))).objs.size (by rw[HI]; exact Iq _) (λb o eb=>k1 b o (nin (Ch eb)) (Ap _ (Ap _ eb))) (λb o hb eb=>k2 b o (by simpa using hb) eb) ek a)
      hn (items.size-0) 0 _ rfl (Hn _) ⟨⟨_,Da _ rfl,rfl,rfl⟩,src.push _⟩ (λb o _ e=>e) ?_ λs' mv T=>?_
     ·exact⟨[],ig (!je w),#[],0,_,⟨Ap _ hS,⟨rfl,rfl,rfl⟩,rfl,oF _,rfl,.nil,.nil⟩,λk=>⟨λz=>(nomatch z),λ⟨j,z,_⟩=>absurd z (LU _)⟩,D2 _⟩
     ·obtain⟨h',g',d',tk',os'⟩:=s'
      obtain rfl:g'=s.gens:=mv.gens;obtain rfl:d'=s.drawn:=mv.drawn;obtain rfl:os'=s.os:=mv.os;refine At (show wpAny _ _ (ret Gc) _ _ _ from At ⟨rfl,h',tk',rfl,mv.toks,T,λb o e=>?_⟩)
      exact mv.heap b o (nin (Ch e)) (Ap _ (Ap _ e))
   ·cases r₂ with
    |error e=>exact hr₂
    |ok fl₂=>
     cases fl₂ with
     |ret r=>
      obtain⟨rfl,h',tk,rfl,htk,hS',hk'⟩:=hr₂
      repeat (any_goals (first | assumption | wp_step))
      exact h _ _ htk hS' hk'
     |_=>exact hr₂.elim
  |_=>exact hr.elim
end
end ST
end
section
namespace L2
open PySem PySem.W PyProof.Rows PySem.Calls TS
section
variable{prog:Fm}{w:World}{A:ID}{E:Value->B1->Prop}{s:B1}
theorem kB{T:String}{r d:Addr}{n:Nat}{P:Nat->Value->Prop}{OK:Heap->Prop}{Q:Value->B1->Prop}(K:Qt prog w T r d n P OK)(hh:A.handled=none)(hok:OK s.heap)(hn:n<=100000)
  (hk:∀acc,ItemsOf P acc n->∃lt,Ord lt/\(2<=n->∀(A':ID),A'.units<=A.units+2->∀(h':Heap)(tk:Nat),(∀b o,s.heap.get? b=some o->h'.get? b=some o)->∃κ,(∀Q:JV->B1->Prop,Q κ { s with heap:=h',toks:=tk }->wpAny (model prog w) A' (Nv acc) Q (λ_ _=>False) { s with heap:=h',toks:=tk }) /\
   ∀i j,i<n->j<n->∀C:Bool->B1->Prop,C (lt i j) { s with heap:=h',toks:=tk }->wpAny (model prog w) A' (Ou κ (acc.toList.getD i Gc) (acc.toList.getD j Gc)) C (λ_ _=>False) { s with heap:=h',toks:=tk }) /\
   ∀(l:Addr)(h':Heap)(tk e:Nat)(p:Array Nat),s.heap.objs.size<=l->(∀b o,s.heap.get? b=some o->h'.get? b=some o)->h'.get? l=some (J7 "list" (d7 acc.toList p).toArray e)->Pm n p->DK lt p n->Q (.ref l) { s with heap:=h',toks:=tk }) :
  wpAny (model prog w) A (call (.builtin "sorted") [.ref r]) Q E s:=by
 refine Km OQ Nu Nw (Ny _) ?_;unfold J1.«sorted»;refine AC (m:=Oq "sorted" 1 1 _) (At ?_);refine AC (kc K hh hok (by rw[IX]; lia) λh1 tk acc kp lt1 hacc=>?_)
 obtain⟨lt,O,hcmp,hend⟩:=hk acc hacc;have hsz:acc.toList.length=n:=by rw[Do]; exact hacc.1
 refine AC (LW ?_ (by rw[IX]; lia))
 have hoL:(h1.push (J7 "list" acc.toList.toArray 0)).get? h1.objs.size=some (J7 "list" acc.toList.toArray 0):=Da _ rfl;have le:s.heap.objs.size<=h1.objs.size:=JI lt1;show wpAny _ _ _ _ _ { s with heap:=h1.push (J7 "list" acc.toList.toArray 0),toks:=tk }
 refine AC (IK (IR N5 ⟨_,hoL,rfl⟩ Mg (iL O hoL (by lia) (λh2 h' kp' =>?_) λp a1 a2=>⟨_,rfl,?_⟩) (N6 _)))
 ·obtain⟨κ,c1,c2⟩:=hcmp (by lia) A.in1.in1 (show A.units+1+1<=A.units+2 by lia) h' tk λb o q=>by
   have q1:=kp b o q;exact kp' b o (Db (Ch q1)) (Ap _ q1)
  exact⟨κ,by rw[show acc.toList.toArray=acc by simp]; exact c1,λi j hi hj C hC=>c2 i j (by lia) (by lia) C hC⟩
 ·obtain⟨e,he⟩:=sortedHeap_at (out:=(d7 acc.toList p).toArray) hoL
  rw[hsz] at a1 a2;refine At ⟨_,rfl,hend h1.objs.size _ tk e p le (λb o q=>?_) he a1 a2⟩
  have q1:=kp b o q;rw[sortedHeap_old (Db (Ch q1)) (by rw[HI]; exact JJ (Ch q1)),Ap _ q1]
end
end L2
end
section
namespace L2
open PySem PySem.Spec PyProof.Rows PySem.W
section
variable{α:Type}
noncomputable def nK(lt:α->α->Bool)(x:α):List α->List α
 |[]=>[x]
 |y::ys=>if lt y x=true then y::nK lt x ys else if lt x y=true then x::y::ys else y::ys
noncomputable def bG(lt:α->α->Bool):List α->List α
 |[]=>[]
 |x::xs=>nK lt x (bG lt xs)
structure qq(lt:α->α->Bool):Prop where
 asym:∀a b,lt a b=true->lt b a=false
 trans:∀a b c,lt a b=true->lt b c=true->lt a c=true
 tot:∀a b,lt a b=false->lt b a=false->a=b
theorem mP{lt:α->α->Bool}(T:qq lt)(x:α):∀{l:List α}{k:α},k∈nK lt x l↔k=x\/k∈l
 |[],k=>by simp[nK]
 |y::ys,k=>by
  unfold nK
  split
  ·rw[IQ,mP T x,IQ]
   constructor
   ·rintro (h | h | h)
    ·exact .inr (.inl h)
    ·exact .inl h
    ·exact .inr (.inr h)
   ·rintro (h | h | h)
    ·exact .inr (.inl h)
    ·exact .inl h
    ·exact .inr (.inr h)
  ·next h1=>
   split
   ·rw[IQ]
   ·next h2=>
    have:x=y:=T.tot _ _ (by simpa using h2) (by simpa using h1)
    subst this;simp
theorem eN{lt:α->α->Bool}(T:qq lt):∀{l:List α}{k:α},k∈bG lt l↔k∈l
 |[],k=>by simp[bG]
 |x::xs,k=>by unfold bG; rw[mP T,eN T,IQ]
theorem vL{lt:α->α->Bool}(T:qq lt)(x:α):∀{l:List α},l.Pairwise (λa b=>lt a b=true)->(nK lt x l).Pairwise (λa b=>lt a b=true)
 |[],_=>Oa _ _
 |y::ys,h=>by
  obtain⟨h1,h2⟩:=Ig.mp h;unfold nK
  split
  ·next e=>
   refine Ig.mpr ⟨λz hz=>?_,vL T x h2⟩
   rcases (mP T x).mp hz with rfl | hz
   ·exact e
   ·exact h1 z hz
  ·split
   ·next e=>
    refine Ig.mpr ⟨λz hz=>?_,h⟩
    rcases lK hz with rfl | hz
    ·exact e
    ·exact T.trans _ _ _ e (h1 z hz)
   ·exact h
theorem jI{lt:α->α->Bool}(T:qq lt):∀(l:List α),(bG lt l).Pairwise (λa b=>lt a b=true)
 |[]=>.nil
 |x::xs=>vL T x (jI T xs)
theorem oM{lt:α->α->Bool}(T:qq lt):∀{xs ys:List α},xs.Pairwise (λa b=>lt a b=true)->ys.Pairwise (λa b=>lt a b=true)->(∀k,k∈xs↔k∈ys)->xs=ys
 |[],[],_,_,_=>rfl
 |[],y::ys,_,_,h=>by have:=(h y).mpr lS; simp at this
 |x::xs,[],_,_,h=>by have:=(h x).mp lS; simp at this
 |x::xs,y::ys,h1,h2,h=>by
  obtain⟨a1,a2⟩:=Ig.mp h1;obtain⟨b1,b2⟩:=Ig.mp h2;have qO:∀a,lt a a=false:=λa=>by
   cases q:lt a a with
   |false=>rfl
   |true=>rw[T.asym _ _ q] at q; cases q
  have e:x=y:=by
   rcases lK ((h x).mp lS) with e | e
   ·exact e
   ·rcases lK ((h y).mpr lS) with e' | e'
    ·exact e'.symm
    ·have:=T.asym _ _ (b1 x e)
     rw[a1 y e'] at this; cases this
  subst e
  congr 1
  refine oM T a2 b2 λk=>⟨λhk=>?_,λhk=>?_⟩
  ·rcases lK ((h k).mp (lO _ hk)) with rfl | q
   ·have:=a1 k hk; rw[qO] at this; cases this
   ·exact q
  ·rcases lK ((h k).mpr (lO _ hk)) with rfl | q
   ·have:=b1 k hk; rw[qO] at this; cases this
   ·exact q
theorem mQ{lt:α->α->Bool}(T:qq lt){xs zs:List α}(nd:zs.Nodup)(s:zs.Pairwise λa b=>lt b a=false)(m:∀k,k∈zs↔k∈xs):zs=bG lt xs:=by
 refine oM T ?_ (jI T xs) λk=>(m k).trans (eN T).symm
 refine(List.pairwise_and_iff.mpr ⟨s,nd⟩).imp λ{a b} ⟨h1,h2⟩=>?_
 cases q:lt a b with
 |true=>rfl
 |false=>exact absurd (T.tot _ _ q h1) h2
end
noncomputable def ltZ(a b:Int):Bool:=decide (a<b)
theorem qt:qq ltZ:=⟨λa b h=>decide_eq_false (by have:=of_decide_eq_true h; lia),λa b c h h'=>decide_eq_true (by have:=of_decide_eq_true h; have:=of_decide_eq_true h'; lia),λa b h h'=>by have:=of_decide_eq_false h; have:=of_decide_eq_false h'; lia⟩
theorem oN:∀(a b:List Int),HT.lexLt a b=false->HT.lexLt b a=false->a=b
 |[],[],_,_=>rfl
 |[],_::_,h,_=>by cases h
 |_::_,[],_,h=>by cases h
 |x::xs,y::ys,h,h'=>by
  rw[HT.bN] at h h'
  by_cases e:x=y
  ·subst e
   rw[if_pos rfl] at h h';rw[oN xs ys h h']
  ·rw[if_neg e] at h
   rw[if_neg (Kr e)] at h';have h:=of_decide_eq_false h;have h':=of_decide_eq_false h';lia
theorem totL:qq HT.lexLt where
 asym:=cT
 trans:=λa b c h h'=>by
  cases q:HT.lexLt a c with
  |true=>rfl
  |false=>
   have h3:=cX b c a (cT _ _ h') q;rw[h] at h3; cases h3
 tot:=oN
section
variable{X:Cx}
theorem JQ.Cb{α β:Type}{F:α->β->Prop}{xs:List α}{ys:List β}(h:JQ F xs ys):∀z∈xs.zip ys,F z.1 z.2:=by
 induction h with
 |nil=>intro z hz; simp at hz
 |cons a r ih=>
  intro z hz;rw[Jl] at hz;rcases lK hz with rfl | hz
  ·exact a
  ·exact ih z hz
theorem z9{K:AT}{H:Hp}{ys:List V}{ks:List (List Int)}(ht:xG K H ys ks):∀{zs:List (V×List Int)},(∀z∈zs,z∈ys.zip ks)->xG K H (zs.map (·.1)) (zs.map (·.2))
 |[],_=>.nil
 |z::zs,h=>.cons (JQ.Cb ht z (h z lS)) (z9 ht λz' h'=>h z' (lO _ h'))
theorem vM{pins:List (Addr×Obj)}{σ:St}{H:Hp}{s:B1}(I:Inv X pins σ H s){ys:List V}{ks:List (List Int)}{its:List Value}(ht:xG X.K H ys ks)(rv:Vals ys its)(hne:∀t∈ks,t≠[])(h2:2<=its.length){A':ID}{h':Heap}{tk:Nat}(kp:∀b o,s.heap.get? b=some o->h'.get? b=some o) :
  ∃κ,(∀Q:JV->B1->Prop,Q κ { s with heap:=h',toks:=tk }->wpAny (model X.prog X.w) A' (Nv its.toArray) Q (λ_ _=>False) { s with heap:=h',toks:=tk }) /\
   ∀i j,i<its.length->j<its.length->∀C:Bool->B1->Prop,C (HT.lexLt (ks.getD i []) (ks.getD j [])) { s with heap:=h',toks:=tk }->wpAny (model X.prog X.w) A' (Ou κ (its.getD i Gc) (its.getD j Gc)) C (λ_ _=>False) { s with heap:=h',toks:=tk }:=by
 have hl:=rv.length;refine⟨tuples' true,λQ' hq' =>?_,λi j hi hj C hC=>?_⟩
 ·obtain⟨fs,h1,h2',h3⟩:=j9 I kp ht rv hne
  refine kat_kind (s:={ s with heap:=h',toks:=tk }) (T:=.type "int") h1 (by lia) (λv hv=>?_) rfl hq'
  obtain⟨i,t,rfl⟩:=h3 v hv;exact Looks.now
 ·have hiy:i<ys.length:=by lia
  have hjy:j<ys.length:=by lia
  obtain⟨a,ea,qa⟩:=JQ.getD (d:=V.non) (d':=[]) ht i hiy;obtain⟨b,eb,qb⟩:=JQ.getD (d:=V.non) (d':=[]) ht j hjy;have ra:=JQ.getD (d:=V.non) (d':=Gc) rv i hiy;have rb:=JQ.getD (d:=V.non) (d':=Gc) rv j hjy;rw[ea] at ra;rw[eb] at rb;have ra:its.getD i Gc=.ref a:=ra;have rb:its.getD j Gc=.ref b:=rb;rw[ra,rb];obtain⟨ia,va,⟨oa,ha,_,na,da⟩,_⟩:=I.tuple qa;obtain⟨ib,vb,⟨ob,hb,_,nb,db⟩,_⟩:=I.tuple qb;refine kat_lt (s:={ s with heap:=h',toks:=tk }) (kp _ _ ha) da (kp _ _ hb) db ?_
  refine j8 ia ib _ _ 0 va vb hC _ (λ_ _=>JX) ?_
  simp
theorem oO{α:Type}{d:α}{zs:List (V×α)}{its:List Value}(rv:Vals (zs.map (·.1)) its){pm:Array Nat}(hp:Pm zs.length pm):Vals ((pm.toList.map λi=>zs.getD i (V.non,d)).map (·.1)) (d7 its pm):=by
 have hl:=rv.length;rw[BM] at hl;have hb:∀i∈pm.toList,i<zs.length:=λi hi=>by
  have h1:pm.toList.Perm (Fu zs.length):=JW.mp hp;simpa using h1.mem_iff.mp hi
 unfold d7;rw[Hk];generalize pm.toList=ix at hb
 induction ix with
 |nil=>exact .nil
 |cons i ix ih=>
  refine .cons ?_ (ih λj hj=>hb j (lO _ hj))
  have:=JQ.getD (d:=V.non) (d':=Gc) rv i (by rw[BM]; exact hb i lS)
  have e:(zs.map (·.1)).getD i V.non=(zs.getD i (V.non,d)).1:=by
   have hi:=hb i lS;simp[Kn,hi]
  rw[e] at this;exact this
theorem vN{α:Type}{d:α}{lt:α->α->Bool}{zs:List (V×α)}{pm:Array Nat}(hp:Pm zs.length pm)(hs:DK (λi j=>lt ((zs.map (·.2)).getD i d) ((zs.map (·.2)).getD j d)) pm zs.length):((pm.toList.map λi=>zs.getD i (V.non,d)).map (·.2)).Pairwise (λa b=>lt b a=false):=by
 have sz:pm.toList.length=zs.length:=by rw[Do]; exact hp.size
 have hb:∀i∈pm.toList,i<zs.length:=λi hi=>by
  have h1:pm.toList.Perm (Fu zs.length):=JW.mp hp;simpa using h1.mem_iff.mp hi
 rw[Hk,KA,Ij];intro i j hi hj hij;have z:=hs i j (by lia) (by lia)
 have gi:gD pm i=pm.toList[i]:=by unfold gD; simp[Jw,show i<pm.size by simpa using hi]
 have gj:gD pm j=pm.toList[j]:=by unfold gD; simp[Jw,show j<pm.size by simpa using hj]
 rw[gi,gj] at z;dsimp only at z;have bi:=hb _ (IV hi);have bj:=hb _ (IV hj);have e:∀{k:Nat},k<zs.length->(zs.map (·.2)).getD k d=(zs.getD k (V.non,d)).2:=λ{k}hk=>by simp[Kn,hk]
 rw[e bi,e bj] at z;exact z
theorem mR{pins:List (Addr×Obj)}{σ:St}{H:Hp}{s:B1}{E:Value->B1->Prop}{A:ID}(I:Inv X pins σ H s)(hh:A.handled=none){D:ST.Kd X.prog X.w}{S:Addr}{M:D.K->Prop}{n:Nat}(T:ST.Sets D s.heap S M n)(hn:n<=1000){lt:D.K->D.K->Bool}(TO:qq lt)(d:D.K)
  {src:List (V×D.K)} (hsrc:∀k v,M k->D.is s.heap k v->∃z∈src,z.2=k/\RelV z.1 v)
  (cmp:∀(zs:List (V×D.K))(its:List Value),(∀z∈zs,z∈src)->Vals (zs.map (·.1)) its->2<=its.length->∀(A':ID)(h':Heap)(tk:Nat),(∀b o,s.heap.get? b=some o->h'.get? b=some o) ->
   ∃κ,(∀Q:JV->B1->Prop,Q κ { s with heap:=h',toks:=tk }->wpAny (model X.prog X.w) A' (Nv its.toArray) Q (λ_ _=>False) { s with heap:=h',toks:=tk }) /\
   ∀i j,i<its.length->j<its.length->∀C:Bool->B1->Prop,C (lt ((zs.map (·.2)).getD i d) ((zs.map (·.2)).getD j d)) { s with heap:=h',toks:=tk }->wpAny (model X.prog X.w) A' (Ou κ (its.getD i Gc) (its.getD j Gc)) C (λ_ _=>False) { s with heap:=h',toks:=tk })
  {Q:Value->B1->Prop} (q:∀(zs:List (V×D.K))l s',(∀z∈zs,z∈src)->(zs.map (·.2)).Nodup->(zs.map (·.2)).Pairwise (λa b=>lt b a=false)->(∀k,k∈zs.map (·.2)↔M k)->H l=none->Inv X pins σ (upd H l (.lst (zs.map (·.1)))) s'->Q (.ref l) s') :
  wpAny (model X.prog X.w) A (call (.builtin "sorted") [.ref S]) Q E s:=by
 obtain⟨ks,o,es,ep,t,K,mem,len⟩:=T;refine kB (ST.B9 (a:=S) K.hex K.hd K.inv K.led) hh K.ho (by rw[K.size]; lia) λacc hacc=>?_
 obtain⟨ko,pk,eo⟩:=K.els.perm (ST.rU X.w S ep es);have hai:acc.toList=(ST.e9 X.w S ep es).toList.map (·.2):=by
  apply Kf;intro i;rw[Hc,IC,Hc]
  by_cases hi:i<es.size
  ·obtain⟨v,hv⟩:∃v,acc[i]? = some v:=⟨acc[i]'(by rw[hacc.1]; exact hi),by simp[hacc.1,hi]⟩
   rw[hv];exact(hacc.2 i v hv).symm
  ·have h1:acc[i]? = none:=by simp[hacc.1]; lia
   have h2:(ST.e9 X.w S ep es)[i]? = none:=by simp[ST.jH]; lia
   rw[h1,h2]; rfl
 obtain⟨zs,z1,z2,z3⟩:∃zs:List (V×D.K),(∀z∈zs,z∈src)/\zs.map (·.2)=ko/\Vals (zs.map (·.1)) acc.toList:=by
  rw[hai];have hM:∀k∈ko,M k:=λk hk=>(mem k).mp (pk.mem_iff.mp hk)
  clear hai hacc pk
  generalize (ST.e9 X.w S ep es).toList=l at eo
  induction eo with
  |nil=>exact⟨[],λz hz=>(nomatch hz),rfl,.nil⟩
  |cons a r ih=>
   obtain⟨zs,i1,i2,i3⟩:=ih λk hk=>hM k (lO _ hk)
   obtain⟨z,hz,e1,e2⟩:=hsrc _ _ (hM _ lS) a;refine⟨z::zs,λz' h' =>?_,by rw[FC,e1,i2],.cons e2 i3⟩
   rcases lK h' with rfl | h'
   ·exact hz
   ·exact i1 z' h'
 have hal:acc.toList.length=es.size:=by rw[Do]; exact hacc.1
 have hzl:zs.length=es.size:=by have:=z3.length; rw[BM] at this; lia
 refine⟨λi j=>lt ((zs.map (·.2)).getD i d) ((zs.map (·.2)).getD j d),⟨λa b=>TO.asym _ _,λa b c h1 h2=>?_⟩,λh2 A' _ h' tk kp=>?_,λl h' tk e pm hl kp he hpm hsr=>?_⟩
 ·generalize (zs.map (·.2)).getD a d=a at *
  generalize (zs.map (·.2)).getD b d=b at *;generalize (zs.map (·.2)).getD c d=c at *;cases z:lt c a with
  |false=>rfl
  |true=>
   rcases hab:lt a b with _ | _
   ·have:=TO.tot _ _ hab h1
    subst this;rw[z] at h2; cases h2
   ·have:=TO.trans _ _ _ z hab
    rw[this] at h2; cases h2
 ·obtain⟨κ,c1,c2⟩:=cmp zs acc.toList z1 z3 (by lia) A' h' tk kp
  exact⟨κ,by rw[show acc.toList.toArray=acc by simp] at c1; exact c1,λi j hi hj C hC=>c2 i j (by lia) (by lia) C hC⟩
 ·rw[<-hzl] at hpm hsr
  have hv:=oO (d:=d) z3 hpm;have hp:(pm.toList.map λi=>zs.getD i (V.non,d)).Perm zs:=fO (β:=Nat) hpm
  have hs:=vN (lt:=lt) (d:=d) hpm hsr;generalize (pm.toList.map λi=>zs.getD i (V.non,d))=zo at hv hp hs
  have hp2:(zo.map (·.2)).Perm ks:=(hp.map (·.2)).trans (by rw[z2]; exact pk)
  refine q zo l _ (λz hz=>z1 z (hp.mem_iff.mp hz)) (hp2.nodup_iff.mpr K.nd) hs (λk=>hp2.mem_iff.trans (mem k)) (I.hok.fresh hl) (I.laid (t':=tk) (a:=l) (o:=.lst (zo.map (·.1))) kp hl ?_)
  refine⟨?_,d7 acc.toList pm,e,hv,he⟩;rw[BM,hp.length_eq,hzl,K.size,IX];lia
noncomputable def HR(K:AT)(ta:TA):TE:=λσ H Q=>ta σ H λvs H1=>∃p,vs=[.ref p] /\
 ((∃ns:List Int,(fB K H1 p (ns.map V.int)\/dc K H1 p (ns.map V.int))/\ns.length<=1000/\∀l,H1 l=none->Q (.ref l) (upd H1 l (.lst ((bG ltZ ns).map V.int)))) \/
 (∃ys ks,(fB K H1 p ys\/dc K H1 p ys)/\xG K H1 ys ks/\(∀t∈ks,t≠[])/\ys.length<=1000/\∀(zs:List (V×List Int))l,(∀z∈zs,z∈ys.zip ks)->zs.map (·.2)=bG HT.lexLt ks->H1 l=none->Q (.ref l) (upd H1 l (.lst (zs.map (·.1))))))
theorem oQ{pins:List (Addr×Obj)}{σ:St}{H:Hp}{s:B1}(I:Inv X pins σ H s){p:Addr}{ys:List V}(h:fB X.K H p ys\/dc X.K H p ys):∃its,Vals ys its/\(s.heap.IsList p its.toArray\/s.heap.IsTuple p its.toArray):=by
 rcases h with h | h
 ·obtain⟨its,rv,pl,_⟩:=I.list h
  exact⟨its,rv,.inl pl.isList⟩
 ·obtain⟨its,rv,pl,_⟩:=I.tuple h
  exact⟨its,rv,.inr pl⟩
theorem oR{prog:Fm}{w:World}:∀{ks:List Int}{its:List Value},Vals (ks.map V.int) its->ItemsAre (Ih prog w) ks its
 |[],_,h=>by cases h; exact .nil
 |k::ks,_,h=>by
  cases h with
  |cons r rr=>obtain⟨t,rfl⟩:=r; exact .cons (MZ _ _ _ _) (oR rr)
theorem uo{a:Expr}{ta:TA}{p1 p2 pos pos2:Pos}(hc:X.calm=true)(hU:X.A.units+64<cLine)(hg:Gl X "sorted")(hm:X.mg "sorted" = none)(hg2:Gl X "set")(hm2:X.mg "set" = none)(ha:PA X [a] ta)(hs:Fa [a] X.env=[(false,eval a X.env)]:=by rfl)
  (hs3:Fa [.Call (.Name "set" p2) [a] [] pos2] X.env=[(false,eval (.Call (.Name "set" p2) [a] [] pos2) X.env)]:=by rfl) :
  PE X (.Call (.Name "sorted" p1) [.Call (.Name "set" p2) [a] [] pos2] [] pos) (HR X.K ta):=by
 intro pins s σ H Q I h;refine JT (fL I hg hm boot_sorted ?_);refine Kw ?_ (by rw[hs3]; rfl) rfl
 rw[hs3];show wpAny _ _ (spliced ((false,eval (.Call (.Name "set" p2) [a] [] pos2) X.env)::[])) _ _ s;refine Mj ?_;refine JT (fL I hg2 hm2 PyProof.Rows.boot_set ?_);refine JK (bw (ha pos2 pins s σ H _ I h) λus s1 ⟨vs,H1,I1,r1,q1⟩=>?_) (by rw[hs]; rfl) rfl
 obtain⟨p,e,q1⟩:=q1;subst e;obtain⟨u,rfl,rx⟩:=vals1 r1;cases rx;have hh:=I1.ok.hd hc;rcases q1 with⟨ns,hq,hb,q⟩ | ⟨ys,ks,hq,ht,hne,hb,q⟩
 ·obtain⟨its,rv,src⟩:=oQ I1 hq
  have hl:its.length=ns.length:=by have:=rv.length; rw[BM] at this; lia
  have hint:=gC rv;refine ST.rW (D:=ST.intD X.prog X.w) (val:=λi=>ns.getD i 0) (λA' _=>ST.add_int A') hh src (by rw[Ee]; lia) (λi v h e _=>?_) (λ_ _ _ _ _ _ _ _ _ _ a=>a) λh' tk _ T kp=>Ll ?_
  ·exact NW hint i v (by simpa using e)
  ·have I2:Inv X pins σ H1 { s1 with heap:=h',toks:=tk }:=I1.kept kp
   have mem:∀k,(∃j,j<its.toArray.size/\ns.getD j 0=k)↔k∈ns:=λk=>by
    rw[Ee,hl];constructor
    ·rintro⟨j,hj,e⟩
     rw[<-e,Ha,Bn hj];exact IV hj
    ·intro hk
     obtain⟨j,hj,e⟩:=II hk;exact⟨j,hj,by rw[Ha,Bn hj]; exact e⟩
   refine mR I2 hh T (by rw[Ee]; lia) qt (0:Int) (src:=ns.map λn=>(V.int n,n)) (λk v hM hv=>?_) (λ(zs:List (V×Int))its' hz rv' h2 A' h2' tk' kp' =>?_) λ(zs:List (V×Int))l s' z1 z2 z3 z4 hl' I3=>?_
   ·obtain⟨t,rfl⟩:=hv
    exact⟨(V.int k,k),Hd.mpr ⟨k,(mem k).mp hM,rfl⟩,rfl,⟨t,rfl⟩⟩
   ·have ez:zs.map (·.1)=(zs.map (·.2)).map V.int:=by
     rw[Hk];refine IN λz hz' =>?_
     obtain⟨n,_,rfl⟩:=Hd.mp (hz z hz');rfl
    have rv2:Vals (zs.map (·.1)) its':=rv';rw[ez] at rv2;have hia:=gC rv2;refine⟨oneType',λQ' hq' =>?_,λi j hi hj C hC=>?_⟩
    ·match its',hia,h2 with
     |v1::v2::vs,hia,_=>exact Mw (keyKind_ints hia) hq'
    ·obtain⟨ti,ei⟩:=NW hia i (its'.getD i Gc) (by simp[Kn,hi])
     obtain⟨tj,ej⟩:=NW hia j (its'.getD j Gc) (by simp[Kn,hj])
     rw[ei,ej,keyLt'_oneType];exact oneLt_int hC
   ·have ez:zs.map (·.1)=(zs.map (·.2)).map V.int:=by
     rw[Hk];refine IN λz hz' =>?_
     obtain⟨n,_,rfl⟩:=Hd.mp (z1 z hz');rfl
    have I3:Inv X pins σ (upd H1 l (.lst (zs.map (·.1)))) s':=I3;have eu:zs.map (·.2)=bG ltZ ns:=mQ qt z2 z3 λk=>(z4 k).trans (mem k)
    rw[ez,eu] at I3;exact⟨.ref l,_,I3,rfl,q l hl'⟩
 ·obtain⟨its,rv,src⟩:=oQ I1 hq
  have hl:its.length=ks.length:=by have:=rv.length; have:=Jz ht; lia
  have hyl:ys.length=ks.length:=Jz ht;have at1:∀i v,its[i]? = some v->∃b,v=.ref b/\ys[i]? = some (.ref b)/\ks[i]? = some (ks.getD i [])/\∃o its' n,s1.heap.get? b=some o/\o.cls=.type "tuple"/\o.data=.seq its' n/\Vals ((ks.getD i []).map V.int) its'.toList:=λi v e=>by
   have hi:i<its.length:=(DD.mp e).1;have hv:its.getD i Gc=v:=by simp[Kn,e]
   obtain⟨b,eb,qb⟩:=JQ.getD (d:=V.non) (d':=[]) ht i (by lia)
   have rb:=JQ.getD (d:=V.non) (d':=Gc) rv i (by lia)
   rw[eb,hv] at rb;have rb:v=.ref b:=rb;obtain⟨ib,vb,⟨ob,hb,hcb,nb,db⟩,_⟩:=I1.tuple qb;refine⟨b,rb,?_,?_,ob,_,nb,hb,hcb,db,by simpa using vb⟩
   ·rw[<-eb]; simp[Kn,show i<ys.length by lia]
   ·simp[Kn,show i<ks.length by lia]
  refine ST.rW (D:=ST.xh X.prog X.w λk v=>∃i b:Nat,v=.ref b/\ys[i]? = some (.ref b)/\ks[i]? = some k/\b<s1.heap.objs.size) (val:=λi=>ks.getD i []) (λA' hA'=>ST.vp (by have:A'.units<=X.A.units+4:=hA'; lia)) hh src (by rw[Ee]; lia) (λi v h e kp=>?_) (λi h h' k v I0 hI kp k2 ek a=>?_) λh' tk _ T kp=>Ll ?_
  ·obtain⟨b,e1,e2,e3,o,its',n,e4,e5,e6,e7⟩:=at1 i v (by simpa using e)
   exact⟨⟨i,b,e1,e2,e3,Ch e4⟩,b,e1,o,its',n,kp _ _ e4,e5,e6,oR e7⟩
  ·obtain⟨⟨i',b,e1,e2,e3,e4⟩,b',e5,o,its',n,e6,e7⟩:=a
   have:b=b':=by rw[e1] at e5; injection e5
   subst this;exact⟨⟨i',b,e1,e2,e3,e4⟩,b,e1,o,its',n,k2 _ _ (λz=>by rw[z] at e4; exact absurd e4 (N7.mpr hI)) e6,e7⟩
  ·have I2:Inv X pins σ H1 { s1 with heap:=h',toks:=tk }:=I1.kept kp
   have mem:∀k,(∃j,j<its.toArray.size/\ks.getD j []=k)↔k∈ks:=λk=>by
    rw[Ee,hl];constructor
    ·rintro⟨j,hj,e⟩
     rw[<-e,Ha,Bn hj];exact IV hj
    ·intro hk
     obtain⟨j,hj,e⟩:=II hk;exact⟨j,hj,by rw[Ha,Bn hj]; exact e⟩
   refine mR I2 hh T (by rw[Ee]; lia) totL ([]:List Int) (src:=ys.zip ks) (λk v hM hv=>?_) (λzs its' hz rv' h2 A' h2' tk' kp' =>?_) λzs l s' z1 z2 z3 z4 hl' I3=>?_
   ·obtain⟨⟨i',b,e1,e2,e3,e4⟩,_⟩:=hv
    refine⟨(.ref b,k),IS (i:=i') ?_,rfl,e1⟩;rw[Kq];exact⟨e2,e3⟩
   ·have ht':=z9 ht hz
    refine vM I2 ht' rv' (λt htm=>?_) h2 kp'
    obtain⟨z,hz',rfl⟩:=Hd.mp htm;exact hne _ (MJ (hz z hz')).2
   ·have eu:zs.map (·.2)=bG HT.lexLt ks:=mQ totL z2 z3 λk=>(z4 k).trans (mem k)
    exact⟨.ref l,_,I3,rfl,q zs l z1 eu hl'⟩
end
end L2
end
section
namespace VL
open PySem PySem.Spec L2 PyProof.Rows
section
variable{X:Cx}{pos:Pos}
noncomputable def FH:List M->Option M
 |[m]=>(seq m).bind λds=>if ds.length<=1000 then (match gX ds with
  |some ns=>some (.lst ((bG ltZ ns).map .int))
  |none=>(wQ ds).bind λks=>if ks.all (λk=> !k.isEmpty)=true then some (.lst ((bG HT.lexLt ks).map tI)) else none) else none
 |_=>none
def HS(K:AT):List V->Hp->VK->Prop:=λvs H1 Q=>∃p,vs=[.ref p] /\
 ((∃ns:List Int,(fB K H1 p (ns.map V.int)\/dc K H1 p (ns.map V.int))/\ns.length<=1000/\∀l,H1 l=none->Q (.ref l) (upd H1 l (.lst ((bG ltZ ns).map V.int)))) \/
 (∃ys ks,(fB K H1 p ys\/dc K H1 p ys)/\xG K H1 ys ks/\(∀t∈ks,t≠[])/\ys.length<=1000/\∀(zs:List (V×List Int))l,(∀z∈zs,z∈ys.zip ks)->zs.map (·.2)=bG HT.lexLt ks->H1 l=none->Q (.ref l) (upd H1 l (.lst (zs.map (·.1))))))
theorem rSS_v{K:AT}:FY K (HS K) FH:=λH Z xs ms m Q za hr e q=>by
 unfold FH at e
 split at e
 ·obtain⟨ds,e1,e⟩:=oB e
  split at e
  ·next hl=>
   obtain⟨x,rfl,h1⟩:=gO hr;obtain⟨a,ys,rfl,hx,fx⟩:=h1.seq e1
   split at e
   ·next ns e2=>
    cases e;have hn:ns.length<=1000:=by rw[cO e2,BM] at hl; exact hl
    rw[cO e2] at fx;rw[fx.dh] at hx;exact⟨a,rfl,.inl ⟨ns,hx,hn,λl hl'=>p5 q za hl' (bF.ints _)⟩⟩
   ·obtain⟨ks,e3,e⟩:=oB e
    split at e
    ·next hne=>
     cases e;rw[jA e3] at fx;have hlen:ys.length=ks.length:=by rw[fx.length,BM]
     have hk:ks.length<=1000:=by rw[jA e3,BM] at hl; exact hl
     have ht:=fx.HA;refine⟨a,rfl,.inr ⟨ys,ks,hx,ht,λt h z=>?_,by lia,λzs l z1 z2 hl' =>?_⟩⟩
     ·have:=K2.mp hne t h
      rw[z] at this;cases this
     ·have:=bF.qd (Z:=Z) ht zs z1
      rw[z2] at this;exact p5 q za hl' this
    ·cases e
  ·cases e
 ·cases e
theorem uq{a:Expr}{fa:FA}{p1 p2 pos2:Pos}(hc:X.calm=true)(hU:X.A.units+64<cLine)(hg:Gl X "sorted")(hm:X.mg "sorted" = none)(hg2:Gl X "set")(hm2:X.mg "set" = none)(ha:WA X [a] fa)(hs:Fa [a] X.env=[(false,eval a X.env)]:=by rfl)
  (hs3:Fa [.Call (.Name "set" p2) [a] [] pos2] X.env=[(false,eval (.Call (.Name "set" p2) [a] [] pos2) X.env)]:=by rfl) :
  WE X (.Call (.Name "sorted" p1) [.Call (.Name "set" p2) [a] [] pos2] [] pos) (cF FH fa):=⟨aY (uo hc hU hg hm hg2 hm2 ha.h hs hs3) λ_ _ _ hq=>many rSS_v hq⟩
end
end VL
end
section
namespace L2
open PySem PySem.Spec PyProof.Rows
theorem pairG{α β:Type}{R:α->β->Prop}:∀{xs:List α}{ys:List β},JQ R xs ys->∀{i:Nat}{x:α},xs[i]? = some x->∃y,ys[i]? = some y/\R x y:=by
 intro xs ys h
 induction h with
 |nil=>intro i x h; simp at h
 |cons r rr ih=>
  intro i x h;cases i with
  |zero=>simp at h; subst h; exact⟨_,rfl,r⟩
  |succ i=>
   simp only[List.getElem?_cons_succ] at h ⊢;exact ih h
end L2
end
section
namespace VL
open PySem PySem.Spec L2 PyProof.Rows
end VL
end
section
namespace L2
open PySem PySem.Spec PyProof.Rows
section
variable{X:Cx}
noncomputable def HU(te:TE):TE:=λσ H Q=>te σ H λy H1=>∃a kvs,y=.ref a/\H1 a=some (.dK kvs)/\∀l,H1 l=none->Q (.ref l) (upd H1 l (.lst (kvs.map (·.2))))
theorem Aa{o:Expr}{te:TE}{p1 ap cp pos:Pos}(hc:X.calm=true)(hg:Gl X "list")(hm:X.mg "list" = none)(ho:PE X o te)
  (hbase:PL o "values" X.env (eval o X.env)=eval o X.env:=by rfl) (hline:(ap.endLine == cp.line)=true:=by rfl)
  (hs:Fa [.Call (.Attribute o "values" ap) [] [] cp] X.env=[(false,eval (.Call (.Attribute o "values" ap) [] [] cp) X.env)]:=by rfl) :
  PE X (.Call (.Name "list" p1) [.Call (.Attribute o "values" ap) [] [] cp] [] pos) (HU te):=by
 intro pins s σ H Q I h;refine JT (fL I hg hm PyProof.Rows.boot_list ?_);refine JK ?_ (by rw[hs]; rfl) rfl
 rw[hs];show wpAny _ _ (spliced ((false,eval (.Call (.Attribute o "values" ap) [] [] cp) X.env)::[])) _ _ s;refine Mj ?_;refine wpAny_Call_method0_late hbase hline (bw (ho pins s σ H _ I h) λu s1 ⟨x,H1,I1,r1,a,kvs,ex,ea,q⟩=>?_)
 subst ex;obtain rfl:u=J6 a:=r1;obtain⟨hz,hS,vs,kv,d⟩:kvs.length<=FV/\(a == Jc)=false/\∃vs,KV kvs vs/\s1.heap.DictOf (aO X.prog X.w) a vs:=I1.hok a _ ea;refine⟨"dict", "dict.values",PySem.F.plainAttrs_dict,Nr,PySem.F.type_dict_values,d.typeIs,(yr I1 (.inl ⟨kvs,.inl ea⟩)).2.1,?_⟩;refine OZ rfl (PySem.evalArgs_none (call_meetsIn Nr d.typeIs PySem.F.entry_dict_values (PySem.F.args_dict_values_1 _) (meets_dict_values (aO X.prog X.w) a hS) ⟨⟨vs,d⟩,?_⟩));refine Ll ?_;have k1:∀b o,s1.heap.get? b=some o->(s1.heap.push { cls:=.type "dict_values",data:=.fields #[.ref a] }).get? b=some o:=λb o e=>Ap _ e
 have hv:(s1.heap.push { cls:=.type "dict_values",data:=.fields #[.ref a] }).IsValuesView s1.heap.objs.size a:=⟨_,Da _ rfl,rfl,rfl⟩;generalize eg:s1.heap.push { cls:=.type "dict_values",data:=.fields #[.ref a] }=g at k1 hv;have gsz:g.objs.size=s1.heap.objs.size+1:=by rw[<-eg]; exact HI ..
 obtain⟨ob,es,ep,h1,h2,h3,h4⟩:=d;have hd:g.DictAt (aO X.prog X.w) a vs ep:=⟨ob,es,k1 _ _ h1,h2,h3,h4⟩;have hl:kvs.length=vs.length:=Jz kv;refine PySem.W.kdl_call (s:={ s1 with heap:=g }) (PySem.W.kdl_values (r:=s1.heap.objs.size) (kvs:=vs) (ep:=ep)) (I1.ok.hd hc) ⟨hv,hd⟩ (hl▸hz) λh' tk acc c' hk hS' hacc=>?_
 have gle:s1.heap.objs.size<=g.objs.size:=by rw[gsz]; exact Iq _
 refine⟨.ref g.objs.size,_,I1.laid (a:=g.objs.size) (o:=.lst (kvs.map (·.2))) (t':=tk) (λb o e=>hk b o (k1 b o e)) gle ?_,rfl,q _ (I1.hok.fresh gle)⟩
 have hvals:Vals (kvs.map (·.2)) acc.toList:=by
  have hl2:acc.toList.length=vs.length:=by rw[Do]; exact hacc.1
  refine lY (by rw[BM,hl,hl2]) λn x y hx hy=>?_
  rw[IC] at hx;obtain⟨p,hp,rfl⟩:=JF.mp hx;obtain⟨k',hk'⟩:=hacc.2 n y (by simpa using hy)
  obtain⟨p',hp',e1,e2⟩:=pairG kv hp;rw[hk'] at hp';cases hp';exact e2
 exact⟨by rw[BM]; exact hz,acc.toList,c',hvals,by simpa using hS'⟩
end
theorem rX{prog:Fm}{w:World}{A:ID}{E:Value->B1->Prop}{s:B1}{a:Addr}{o:Obj}{xs:Array Value}{k:Nat}{Q:Option Value->B1->Prop}
  (hx:s.heap.get? a=some o) (hc:o.cls=.type "list") (hdat:o.data=.seq xs k) (hd:o.dict=none) (hA:A.handled=none)
  (h:∀h' tk,(∀b o,s.heap.get? b=some o->h'.get? b=some o)->Q none { s with heap:=h',toks:=tk }):wpAny (model prog w) A (getAttr? (.ref a) "keys") Q E s:=by
 obtain⟨c,dct,dat,sl⟩:=o;simp only at hc hdat hd;subst hc hdat hd;obtain⟨hp,g,d,tk,os⟩:=s;have hT:∀tk',(⟨hp,g,d,tk',os⟩:B1).TypeIs (.ref a) "list" := λ_=>⟨_,hx,rfl⟩
 have hmiss:Qm (.type "list") "keys" = pure none:=by rw[OV,Mh]; kernel_rfl
 have hname:(["__module__", "__name__", "__qualname__", "__doc__", "__annotations__"]:List Str).contains "keys" = false:=by decide
 have f1:=sub_AttributeError;have f3:=M2.lookup;have f4:=M2.bind (.ref a);have f5:=am_list_getattr_none;unfold getAttr? getAttrBy? getAttrBy
 repeat (any_goals (first | assumption | exact hT _ | ((with_reducible show wpAny _ _ (call (Value.builtin "list.__getattribute__") _ _) _ _ _); refine Qr M2 (hT _) am_entry_list_getattribute (F.args_list_getattribute_2 _ _) (meets_getattribute_miss_list a xs k sl "keys" _ hmiss hname) ⟨hx,hA,λh' tk' e hx' =>?_⟩) | wp_step))
 obtain⟨t',u',he⟩:=hx'.there;show wpAny _ _ (Qp _ _ _ _ _ _ _) _ _ _;unfold Qp
 repeat (any_goals (first | assumption | wp_step))
 exact h h' tk' hx'.keeps
section
variable{prog:Fm}{w:World}{A:ID}{E:Value->B1->Prop}{R:Qv->B1->Prop}{s:B1}
def mS(prog:Fm)(w:World)(h:Heap)(items:Array Value)(ps:List (Key×Value)):Prop :=
 ∀(n:Nat)p,ps[n]? = some p->∃t x,items[n]? = some (.ref t)/\h.IsTuple t #[x,p.2]/\(aO prog w).is p.1 x=true
theorem mS.at{h h':Heap}{items:Array Value}{ps:List (Key×Value)}{d it:Addr}(x:mS prog w h items ps)(hn:∀(n:Nat)t,items[n]? = some (.ref t)->t≠d/\t≠it)(k:∀c o,c∉[d,it]->h.get? c=some o->h'.get? c=some o):mS prog w h' items ps:=λn p hp=>by
 obtain⟨t,x,e,⟨o,e1,r⟩,hk⟩:=x n p hp;obtain⟨n1,n2⟩:=hn n t e;exact⟨t,x,e,⟨o,k t o (by simp[n1,n2]) e1,r⟩,hk⟩
theorem Cc{l it d:Addr}{items:Array Value}(hh:A.handled=none)(hid:it≠d)(hld:l≠d)(hil:l≠it)(ps:List (Key×Value))(hp:ps.length=items.size)(hn:∀(n:Nat)t,items[n]? = some (.ref t)->t≠d/\t≠it)(hz:ps.length<=FV) :
  ∀(m k:Nat)(c:Int)(t:Tok)(s:B1)(acc:List (Key×Value)),ps.length-k=m->k<=ps.length->acc.length<=k->s.heap.IsListIter it l k->s.heap.IsList l items->mS prog w s.heap items ps->s.heap.DictOf (aO prog w) d acc ->
   (∀h' tk,(∀c o,c∉[d,it]->s.heap.get? c=some o->h'.get? c=some o)->h'.DictOf (aO prog w) d ((ps.drop k).foldl (λa p=>Ol a p.1 p.2) acc)->R (.ok (.ret .none)) { s with heap:=h',toks:=tk }) ->
   Kl (model prog w) A (.builtin "dict.update.loop" ⟨[.ref d,.ref it,.int c t,.none],[]⟩) R s:=by
 intro m
 induction m with
 |zero=>
  intro k c t s acc hm hle hacc I L P hD hR;have hkk:k=ps.length:=by lia
  refine Jj ee ?_;rw[Jo bS _];show wpAny _ A.in1 (Ks (.ref it) >>= _) _ _ s;refine AC (Q2 (by simpa using hh) I L (by rw[Array.getElem?_eq_none]; lia) λg kp=>?_)
  show wpAny _ A.in1 (Builtin.Dict.addKeywords d [] >>= _) _ _ _;refine AC (At (At ?_));refine hR g s.toks (λc o hc e=>kp c o (λh=>hc (by simp[h])) e) ?_
  rw[hkk,LF];obtain⟨o,es,ep,ho,r⟩:=hD;exact⟨o,es,ep,kp _ _ hid.symm ho,r⟩
 |succ m ih=>
  intro k c t s acc hm hle hacc I L P hD hR;refine Jj ee ?_;rw[Jo bS _];show wpAny _ A.in1 (Ks (.ref it) >>= _) _ _ s;have hlt:k<ps.length:=by lia
  obtain⟨T,x,hx,hT,hkey⟩:=P k ps[k] (Bn hlt);refine AC (Pj I L hx λg I' sb=>?_)
  have kp:∀c o,c≠it->s.heap.get? c=some o->g.get? c=some o:=λc o hc e=>(sb.2 c hc).trans e
  have hD':g.DictOf (aO prog w) d acc:=by
   obtain⟨o,es,ep,ho,r⟩:=hD;exact⟨o,es,ep,kp _ _ hid.symm ho,r⟩
  obtain⟨oT,e1,e2,n2,e3⟩:=hT;have gT:=kp T oT (hn k T hx).2 e1;have tT:O6 { s with heap:=g } (.ref T) "tuple" := ⟨_,gT,e2⟩
  refine AC (IK ?_);refine AC (wpAny_tryCatch ?_);unfold Builtin.Dict.pairItems;refine AC (Ku tT ?_);show wpAny _ _ (seqItems? _ >>= _) _ _ _;refine AC (Ja gT e3 (At ?_));show wpAny _ _ (LX [x,ps[k].2] (dictSet d x ps[k].2)) _ _ _;refine IK ?_;refine QY (s:={ s with heap:=g }) hkey hD' (hsz:=by lia) λh' hd' hs=>?_
  refine At ⟨MD bS _,?_⟩;have kp':∀c o,c∉[d,it]->s.heap.get? c=some o->h'.get? c=some o:=λc o hc e=>hs.extBut _ _ (λt=>hc (by simp[t])) (kp c o (λh=>hc (by simp[h])) e)
  have L':h'.IsList l items:=by
   obtain⟨o,e,r⟩:=L;exact⟨o,hs.extBut _ _ hld (kp _ _ hil e),r⟩
  have I2:h'.IsListIter it l (k+1):=by
   obtain⟨o,e,r⟩:=I';exact⟨o,hs.extBut _ _ hid e,r⟩
  have hle':(Ol acc ps[k].1 ps[k].2).length<=k+1:=Ip (stored_length_le _ _ _) (by lia)
  refine ih (k+1) _ _ _ _ (by lia) hlt hle' I2 L' (P.at hn kp') hd' λh'' tk k2 hd2=>?_
  refine hR h'' tk (λc o hc e=>k2 c o hc (kp' c o hc e)) ?_
  rw[Iy hlt,LQ];exact hd2
theorem Cd{l:Addr}{items:Array Value}{o:Obj}{n:Nat}{Q:Value->B1->Prop}(hh:A.handled=none)(ho:s.heap.get? l=some o)(hc:o.cls=.type "list")(hdn:o.dict=none)(hdat:o.data=.seq items n)
  (ps:List (Key×Value)) (hp:ps.length=items.size) (P:mS prog w s.heap items ps) (hz:ps.length<=FV)
  (h:∀h' tk,(∀c o,s.heap.get? c=some o->h'.get? c=some o)->h'.DictOf (aO prog w) s.heap.objs.size (ps.foldl (λa p=>Ol a p.1 p.2) [])->Q (.ref s.heap.objs.size) { s with heap:=h',toks:=tk }) :
  wpAny (model prog w) A (call (.type "dict") [.ref l]) Q E s:=by
 have lt:∀c o,s.heap.get? c=some o->c<s.heap.objs.size:=λc o e=>Ch e
 have hT:∀(n:Nat)t,items[n]? = some (.ref t)->t<s.heap.objs.size:=λn t e=>by
  have hn:n<ps.length:=by rw[hp]; exact(J9.mp e).1
  obtain⟨t',x,e',⟨o,e1,_⟩,_⟩:=P n ps[n] (Bn hn);rw[e] at e';cases e';exact lt _ _ e1
 refine callType_codes (Q₁:=λobj s₁=>obj=.ref s.heap.objs.size/\s₁={ s with heap:=s.heap.push { cls:=.type "dict",data:=.dict #[] } }) F.kt_called_dict (F.kt_typeCall_dict_1 _) F.entry_dict_init (kt_code_dict_new _ ⟨rfl,rfl⟩) ?_
 rintro obj s₁ ⟨rfl,rfl⟩;have hnew:(s.heap.push { cls:=.type "dict",data:=.dict #[] }).DictOf (aO prog w) s.heap.objs.size []:=Oe s.heap;refine⟨hnew.typeIs,F.args_dict_init_2 _ _,?_⟩;unfold J1.«dict.__init__»;refine AC ?_;unfold Builtin.Dict.selfAndRest;refine AC (Q3 hnew.typeIs ?_);show wpAny _ _ (pure (s.heap.objs.size,[J6 l])) _ _ _;refine At ?_;show wpAny _ _ (NI "dict.__init__" s.heap.objs.size (.ref l) [] .none) _ _ _;unfold NI;have ho1:(s.heap.push { cls:=.type "dict",data:=.dict #[] }).get? l=some o:=Ap _ ho;have tl:O6 { s with heap:=s.heap.push { cls:=.type "dict",data:=.dict #[] } } (.ref l) "list" := ⟨_,ho1,hc⟩
 refine AC (Ku tl ?_);rw[if_pos (by decide)]
 refine AC (rX (s:={ s with heap:=s.heap.push { cls:=.type "dict",data:=.dict #[] } }) ho1 hc hdat hdn (by simpa using hh) λh1 tk1 k1=>?_)
 simp only[Option.isNone_none,if_true];refine AC (Jb ?_);have L1:h1.IsList l items:=⟨o,k1 _ _ ho1,hc,n,hdat⟩;have d1:∃o,h1.get? s.heap.objs.size=some o:=⟨_,k1 _ _ (Da _ rfl)⟩;have hsz:s.heap.objs.size<h1.objs.size:=let ⟨_,e⟩:=d1; Ch e;refine AC (M6 (s:={ s with heap:=h1,toks:=tk1 }) L1 ?_)
 have k2:∀c o,s.heap.get? c=some o->(h1.push { cls:=.type "list_iterator",data:=.fields #[.ref l,.int 0 0] }).get? c=some o:=λc o e=>Ap _ (k1 _ _ (Ap _ e))
 have L2':(h1.push { cls:=.type "list_iterator",data:=.fields #[.ref l,.int 0 0] }).IsList l items:=⟨o,k2 _ _ ho,hc,n,hdat⟩;have I2:(h1.push { cls:=.type "list_iterator",data:=.fields #[.ref l,.int 0 0] }).IsListIter h1.objs.size l 0:=⟨_,Da _ rfl,rfl,rfl⟩;have hD2:(h1.push { cls:=.type "list_iterator",data:=.fields #[.ref l,.int 0 0] }).DictOf (aO prog w) s.heap.objs.size []:=by
  obtain⟨o,es,ep,ho,r⟩:=hnew;exact⟨o,es,ep,Ap _ (k1 _ _ ho),r⟩
 have P2:mS prog w (h1.push { cls:=.type "list_iterator",data:=.fields #[.ref l,.int 0 0] }) items ps:=λn p hp=>by
  obtain⟨t,x,e,⟨o,e1,r⟩,hk⟩:=P n p hp;exact⟨t,x,e,⟨o,k2 _ _ e1,r⟩,hk⟩
 have hl:=lt _ _ ho;refine At ⟨MD bS _,Cc (s:={ s with heap:=_,toks:=tk1 }) (by simpa using hh) (KC hsz) (Db hl) (Db (MG hl hsz)) ps hp (λn t e=>⟨Db (hT n t e),Db (MG (hT n t e) hsz)⟩) hz ps.length 0 _ _ [] rfl (Hn _) (D2 _) I2 L2' P2 hD2 λh' tk kp hd'=>⟨rfl,h h' tk (λc o e=>kp c o (λhm=>?_) (k2 _ _ e)) ?_⟩⟩
 ·have hc:=lt _ _ e
  simp only[IQ,Hm,or_false] at hm;rcases hm with t | t
  ·exact Db hc t
  ·exact Db (MG hc hsz) t
 ·simpa using hd'
end
section
variable{X:Cx}
theorem KV.ES{kvs:List (Key×V)}{ps:List (Key×Value)}(h:KV kvs ps):∀{acc:List (Key×V)}{acc':List (Key×Value)},KV acc acc'->KV (kvs.foldl (λa p=>putK a p.1 p.2) acc) (ps.foldl (λa p=>Ol a p.1 p.2) acc'):=by
 induction h with
 |nil=>exact λh=>h
 |@cons p q _ _ r _ ih=>
  intro acc acc' h;obtain⟨k,v⟩:=p;obtain⟨k',u⟩:=q;obtain⟨e,r⟩:=r;cases e;exact ih (h.put k r)
def GF(K:AT)(H:Hp):List V->List (Key×V)->Prop:=JQ λy q=>∃t,y=.ref t/\dc K H t [kV q.1,q.2]
theorem ET{pins:List (Addr×Obj)}{σ:St}{H:Hp}{s:B1}(I:Inv X pins σ H s){ys:List V}{kvs:List (Key×V)}(h:GF X.K H ys kvs):∀{its:List Value},Vals ys its->∃ps,KV kvs ps/\ps.length=its.length/\mS X.prog X.w s.heap its.toArray ps:=by
 induction h with
 |nil=>intro its r; cases r; exact⟨[],.nil,rfl,λn p h=>by simp at h⟩
 |@cons y q ys kvs r _ ih=>
  intro its v;cases v with | cons ru rr=>
  obtain⟨t,rfl,ht⟩:=r;cases ru;obtain⟨ps,h1,h2,h3⟩:=ih rr;obtain⟨tt,rt,⟨o,e1,e2,n,e3⟩,_⟩:=I.tuple ht;obtain⟨u1,u2,rfl,q1,q2⟩:=Vals.two rt;refine⟨(q.1,u2)::ps,.cons ⟨rfl,q2⟩ h1,by rw[Bz,Bz,h2],λn p hp=>?_⟩
  cases n with
  |zero=>
   cases hp;exact⟨t,u1,by simp,⟨o,e1,e2,_,e3⟩,j3 q1⟩
  |succ n=>
   obtain⟨t',x,g1,g2⟩:=h3 n p (by simpa using hp)
   exact⟨t',x,by simpa using g1,g2⟩
noncomputable def HV(K:AT)(ta:TA):TE:=λσ H Q=>ta σ H λvs H1=>∃ (l:Addr) (ys:List V) (kvs:List (Key×V)),vs=[.ref l]/\fB K H1 l ys/\GF K H1 ys kvs/\∀p,H1 p=none->Q (.ref p) (upd H1 p (.dK (kvs.foldl (λacc q=>putK acc q.1 q.2) [])))
theorem Ce{a:Expr}{ta:TA}{p1 pos:Pos}(hc:X.calm=true)(hg:Gl X "dict")(hm:X.mg "dict" = none)(ha:PA X [a] ta)(hs:Fa [a] X.env=[(false,eval a X.env)]:=by rfl) :
  PE X (.Call (.Name "dict" p1) [a] [] pos) (HV X.K ta):=by
 intro pins s σ H Q I h;refine JT (fL I hg hm PyProof.Rows.boot_dict ?_);refine JK (bw (ha pos pins s σ H _ I h) λus s1 ⟨vs,H1,I1,r1,q1⟩=>?_) (by rw[hs]; rfl) rfl
 obtain⟨l,ys,kvs,e,hl,hp,q⟩:=q1;subst e;obtain⟨u,rfl,ru⟩:=Vals.one r1;cases ru;obtain⟨its,r,⟨o,n,e,hcl,hdn,hdat⟩,hz⟩:=I1.list hl;obtain⟨ps,kv,hlen,P⟩:=ET I1 hp r;have hkl:kvs.length=ps.length:=Jz kv;have hyl:ys.length=its.length:=r.length;refine Cd (I1.ok.hd hc) e hcl hdn hdat ps (by simpa using hlen) P (by lia) λh' tk k2 hD=>?_
 have fr:H1 s1.heap.objs.size=none:=I1.fresh;refine⟨.ref s1.heap.objs.size,_,I1.laid (a:=s1.heap.objs.size) (o:=.dK (kvs.foldl (λacc q=>putK acc q.1 q.2) [])) (t':=tk) k2 (D2 _) ?_,rfl,q _ fr⟩
 have hbig:(s1.heap.objs.size == Jc)=false:=by
  have:=I1.big;exact beq_eq_false_iff_ne.mpr λe=>absurd this (by rw[e]; exact KF _)
 refine⟨?_,hbig,_,KV.ES kv .nil,hD⟩;have h1:=kq kvs [];simp only[Ic] at h1;lia
end
end L2
end
section
namespace VL
open PySem PySem.Spec L2 PyProof.Rows
noncomputable def HD:M->Option M
 |.aA kvs=>some (.lst (kvs.map (·.2)))
 |_=>none
noncomputable def GG(fe:FE):FE:=λρ=>(fe ρ).bind λp=>(peek p.2 p.1).bind λm=>(HD m).bind λr=>some (.t r,p.2)
theorem Ab{K:AT}{H:Hp}{Z:Zs}:∀{kxs:List (Key×V)}{kvs:List (Key×B2)},gH K H Z kxs kvs->bF K H Z (kxs.map (·.2)) (kvs.map (·.2)):=by
 intro kxs
 induction kxs with
 |nil=>intro kvs h; cases h; exact .nil
 |cons p kxs ih=>intro kvs h; cases h with | cons h r=>exact .cons h (ih r)
section
variable{X:Cx}{pos:Pos}
theorem Ac{o:Expr}{fe:FE}{p1 ap cp:Pos}(hc:X.calm=true)(hg:Gl X "list")(hm:X.mg "list" = none)(ho:WE X o fe)
  (hbase:PL o "values" X.env (eval o X.env)=eval o X.env:=by rfl) (hline:(ap.endLine == cp.line)=true:=by rfl)
  (hs:Fa [.Call (.Attribute o "values" ap) [] [] cp] X.env=[(false,eval (.Call (.Attribute o "values" ap) [] [] cp) X.env)]:=by rfl) :
  WE X (.Call (.Name "list" p1) [.Call (.Attribute o "values" ap) [] [] cp] [] pos) (GG fe):=⟨aY (Aa hc hg hm ho.h hbase hline hs) λσ H Q hq=>by
 obtain⟨Z,ρ,F,o,ρ',S,w,e,q⟩:=hq;obtain⟨⟨o1,ρ1⟩,e1,e⟩:=oB e;obtain⟨m,e2,e⟩:=oB e;obtain⟨r,e3,e⟩:=oB e;cases e;refine⟨Z,ρ,F,o1,ρ1,S,w,e1,λx H1 Z1 F1 G1 S1 O1 f1=>?_⟩
 cases m with
 |aA kvs=>
  cases e3;obtain⟨a,kxs,rfl,he,fk⟩:=(O1.peek S1 e2).aA;exact⟨a,kxs,rfl,he,λl hl=>p5 (λz H3 Z3 G h3 n=>q z H3 Z3 F1 G (S1.news n) (.t h3) (f1.left.trans (n.news f1.left.wf S1.al))) f1.za hl (Ab fk)⟩
 |_=>cases e3⟩
end
noncomputable def GH:B2->Option (Key×B2)
 |.tuple [kd,d]=>(dm kd).bind λk=>some (k,d)
 |_=>none
noncomputable def Ad:List B2->Option (List (Key×B2))
 |[]=>some []
 |d::ds=>(GH d).bind λp=>(Ad ds).bind λps=>some (p::ps)
noncomputable def FJ:List M->Option M
 |[.lst ds]=>(Ad ds).bind λkvs=>some (.aA (kvs.foldl (λa p=>putD a p.1 p.2) []))
 |_=>none
theorem Cf{K:AT}{H:Hp}{Z:Zs}:∀{ds:List B2}{xs:List V}{kvs:List (Key×B2)},bF K H Z xs ds->Ad ds=some kvs->∃kxs,GF K H xs kxs/\gH K H Z kxs kvs:=by
 intro ds
 induction ds with
 |nil=>intro xs kvs h e; cases h; cases e; exact⟨[],.nil,.nil⟩
 |cons d ds ih=>
  intro xs kvs h e;obtain⟨p,e1,e⟩:=oB e;obtain⟨ps,e2,e⟩:=oB e;cases e;cases h with | cons h r=>
  obtain⟨kxs,h1,h2⟩:=ih r e2;unfold GH at e1
  split at e1
  ·obtain⟨k,e3,e1⟩:=oB e1
   cases e1;obtain⟨a,ys,rfl,t,f⟩:=h.gu;cases f with | cons f1 f=>
   cases f with | cons f2 f=>
   cases f;obtain rfl:=dN f1 e3;exact⟨(k,_)::kxs,.cons ⟨a,rfl,t⟩ h1,.cons f2 h2⟩
  ·cases e1
def HW(K:AT):List V->Hp->VK->Prop:=λvs H1 Q=>∃ (l:Addr) (ys:List V) (kvs:List (Key×V)),vs=[.ref l]/\fB K H1 l ys/\GF K H1 ys kvs/\∀p,H1 p=none->Q (.ref p) (upd H1 p (.dK (kvs.foldl (λacc q=>putK acc q.1 q.2) [])))
theorem rDP_v{K:AT}:FY K (HW K) FJ:=λH Z xs ms m Q za hr e q=>by
 unfold FJ at e
 split at e
 ·obtain⟨kvs,e1,e⟩:=oB e
  cases e;obtain⟨x,rfl,h1⟩:=gO hr;obtain⟨a,ys,rfl,ha,f⟩:=h1.lst;obtain⟨kxs,p1,p2⟩:=Cf f e1;exact⟨a,ys,kxs,rfl,fB.of ha,p1,λl hl=>endD q za hl (mw p2 .nil)⟩
 ·cases e
section
variable{X:Cx}{pos:Pos}
theorem Cg{a:Expr}{fa:FA}{p1:Pos}(hc:X.calm=true)(hg:Gl X "dict")(hm:X.mg "dict" = none)(ha:WA X [a] fa)(hs:Fa [a] X.env=[(false,eval a X.env)]:=by rfl) :
  WE X (.Call (.Name "dict" p1) [a] [] pos) (cF FJ fa):=⟨aY (Ce hc hg hm ha.h hs) λ_ _ _ hq=>many rDP_v hq⟩
end
@[simp] theorem vLV_eq{fe:FE}{ρ:Ev}:GG fe ρ=(fe ρ).bind λp=>(peek p.2 p.1).bind λm=>(HD m).bind λr=>some (.t r,p.2):=rfl
noncomputable def ur:FE:=λρ=>some (.t (.dtp []),ρ)
section
variable{X:Cx}{pos:Pos}
theorem Ae:WE X (.Dict [] [] pos) ur:=⟨aY yp λσ H Q hq=>by
 obtain⟨Z,ρ,F,o,ρ',S,w,e,q⟩:=hq;cases e;intro p hp;have n:=aH.pZ (Z:=Z) (o:=.dT []) hp w.za;exact q (.ref p) _ Z F [p] (S.news n) (.t (.dtp (kxs:=[]) aB rfl .nil)) (n.news w S.al)⟩
end
@[simp] theorem FL{ρ:Ev}:ur ρ=some (.t (.dtp []),ρ):=rfl
end VL
end
section
namespace L2
open PySem PySem.Spec PyProof.Rows PySem.W
section
variable{prog:Fm}{w:World}{A:ID}{E:Value->B1->Prop}{s:B1}{d:Addr}{o:Obj}{es:Array DictEntry}{ep:Nat}
noncomputable abbrev EU(d:Addr)(i n ep:Nat):Obj:={ cls:=.type "dict_keyiterator",data:=.fields #[.ref d,Lh i,Lh n,Lh ep] }
theorem qu{h:Heap}{I:Addr}{i n:Nat}(hI:h.get? I=some (EU d i n ep)):h.IsKeyIter I d i n ep:=⟨_,hI,rfl,rfl⟩
theorem Af{Q:Value->B1->Prop}(hd:(d == Jc)=false)(ho:s.heap.get? d=some o)(hc:o.ExactDict)(hdat:o.data=.dict es ep)(hQ:Q (.ref s.heap.objs.size) { s with heap:=s.heap.push (EU d 0 es.size ep) }) :
  wpAny (model prog w) A (OG (.ref d)) Q E s:=by
 have hT:s.TypeIs (.ref d) "dict" := ⟨o,ho,hc.1⟩;refine Ni hT OI (IR OI hT PySem.F.entry_dict_iter ?_ (PySem.F.args_dict_iter_1 _));unfold J1.«dict.__iter__» Builtin.Dict.dictSlotNone;refine AC (AC (Q3 hT ?_));refine(show wpAny _ _ (pure (J6 d)) _ _ s from At ?_)
 show wpAny _ _ (NU d >>= _) _ _ s;unfold NU;rw[if_neg (by rw[hd]; exact JC)]
 exact AC (At (AC (Nj ho hdat (AC (OU ho hdat (AC (IB (At ⟨_,rfl, "dict_keyiterator",_,⟨_,Da _ rfl,rfl⟩,JM.lookup,hQ⟩))))))))
theorem Ag{I:Addr}{i:Nat}{e:DictEntry}{Q:Option Value->B1->Prop}(hI:s.heap.get? I=some (EU d i es.size ep))(ho:s.heap.get? d=some o)(hdat:o.data=.dict es ep)(he:es[i]? = some e)
  (hQ:∀h',h'.get? I=some (EU d (i+1) es.size ep)->JG I s.heap h'->Q (some e.key) { s with heap:=h' }):wpAny (model prog w) A (Ks (.ref I)) Q E s:=by
 have hT:=(qu hI).typeIs;unfold Ks;refine AC (L5 (Ii (name:=KS "__next__") hT JM (IR JM hT MV ?_ (MT _))));refine AC (At (AC (AC ?_)));refine AC (Kb hT (At (AC (My hI rfl ?_))));simp only[show M9 "dict_keyiterator" = false by decide,GM,if_false]
 show wpAny _ _ (if (J6 d == Gc)=true then _ else _) _ _ s
 rw[if_neg (show ¬ ((J6 d == Gc)=true) from JC)]
 refine AC (At (AC (Nj ho hdat ?_)));rw[if_neg (by simp)]
 refine AC (At (AC (OU ho hdat ?_)));rw[if_neg (by simp)]
 refine At ?_;simp only[show ¬ ((i:Int)<0) from by lia,if_false,JZ,he]
 refine AC (AC (Kb hT (At (AC (Q6 hT ?_)))));show wpAny _ _ (QG (.ref I) 1 (Lh ((i:Int)+1)) >>= _) _ _ s;refine AC (J0 hI (by simp) λh1 g1 s1=>?_)
 have g2:h1.get? I=some (EU d (i+1) es.size ep):=g1;refine AC (IK (AC (Q6 (s:={ s with heap:=h1 }) (qu g2).typeIs ?_)))
 show wpAny _ _ (pure e.key) _ _ _;exact At (At ⟨_,rfl,At (hQ _ g2 s1)⟩)
theorem Ci(hh:A.handled=none){I:Addr}{Q:Option Value->B1->Prop}(hI:s.heap.get? I=some (EU d es.size es.size ep))(ho:s.heap.get? d=some o)(hdat:o.data=.dict es ep)
  (hQ:∀h',P8 I s.heap h'->Q none { s with heap:=h' }):wpAny (model prog w) A (Ks (.ref I)) Q E s:=by
 have hT:=(qu hI).typeIs;have he:es[es.size]? = none:=by simp
 unfold Ks;refine AC (L5 (Ii (name:=KS "__next__") hT JM (IR JM hT MV ?_ (MT _))));refine AC (At (AC (AC ?_)));refine AC (Kb hT (At (AC (My hI rfl ?_))));simp only[show M9 "dict_keyiterator" = false by decide,GM,if_false]
 show wpAny _ _ (if (J6 d == Gc)=true then _ else _) _ _ s
 rw[if_neg (show ¬ ((J6 d == Gc)=true) from JC)]
 refine AC (At (AC (Nj ho hdat ?_)));rw[if_neg (by simp)]
 refine AC (At (AC (OU ho hdat ?_)));rw[if_neg (by simp)]
 refine At ?_;simp only[show ¬ ((es.size:Int)<0) from by lia,if_false,JZ,he]
 refine AC (AC (Kb hT (At ?_)));show wpAny _ _ (QG (.ref I) 0 .none >>= _) _ _ _;refine AC (J0 hI (by simp) λh1 g1 s1=>?_)
 refine AC (show wpAny _ _ (Pn (.type "StopIteration") []) _ _ _ from ?_)
 simp only[Pn,newTuple];refine AC (IB ?_ (by size_fits))
 refine AC (m:=LG _ _) (Mw (a:=Gc) (by first | rfl | (simp only[LG]; rfl)) ?_)
 refine IB ?_ (by size_fits)
 simp only[raiseNew];refine AC (PF ?_)
 first | rw[show A.in1.handled=none from hh] | rw[hh]
 refine AC (At (QD ?_));refine AC (MO (T := "StopIteration") (b:=true) ⟨_,Da _ rfl,rfl⟩ Oo ?_);exact At (hQ _ ((s1.extBut.push _).push _))
theorem Ah(hh:A.handled=none)(I:Addr)(hne:d≠I)(hdat:o.data=.dict es ep) :
  Walks prog w A I [I,d] [I] es.size (λi v=>(es[i]?).map (·.key)=some v) (λi h=>h.get? I=some (EU d i es.size ep)/\h.get? d=some o) where
 sub:=λb hb=>by simp at hb; simp[hb]
 frame:=λ_ _ _ st hk=>⟨hk I (by simp) _ st.1,hk d (by simp) _ st.2⟩
 item:=λi s Q E hi st hQ=>by
  refine Ag (e:=es[i]) st.1 st.2 hdat (by simp[hi]) λh' g' sb=>?_
  exact hQ _ h' s.toks (by simp[hi]) ⟨g',sb.extBut d o hne st.2⟩ λb o hb e=>sb.extBut b o (λz=>hb (by simp[z])) e
 done:=λs Q E st hQ=>Ci hh st.1 st.2 hdat λh' he'=>hQ h' s.toks λb o hb e=>he' b o (λz=>hb (by simp[z])) e
 self:=λi s Q E st hQ=>wpAny_pyIter_keyiter (qu st.1) hQ
theorem Cj(hd:(d == Jc)=false)(hex:o.ExactDict)(hdat:o.data=.dict es ep):Qt prog w "dict" d d es.size (λi v=>(es[i]?).map (·.key)=some v) (λh=>h.get? d=some o) where
 type:=λ_ ho=>⟨o,ho,hex.1⟩
 there:=λ_ ho=>⟨Ch ho,Ch ho⟩
 keep:=λ_ _ ho hk=>hk d (.inl rfl) _ ho
 notList:=by decide
 notTuple:=by decide
 hint:=λ_ _ _ _ ho hq=>kdl_hint_dict ⟨o,ho,hex.1⟩ hq
 iter:=λA s hh ho=>⟨_,_,(λ_ _ hq=>Af hd ho hex hdat hq),Ah hh _ (Db (Ch ho)) hdat,⟨Da _ rfl,Ap _ ho⟩⟩
end
section
variable{X:Cx}
def HE(K:AT):List V->Hp->VK->Prop:=λvs H1 Q=>∃p kvs ks,vs=[.ref p]/\H1 p=some (.dT kvs)/\kvs.map (·.1)=ks.map (λk:List Int=>k.map JP)/\(∀t∈ks,t≠[])/\ks.length<=1000 /\
 ∀ys(zs:List (V×List Int))l,xG K H1 ys ks->(∀z∈zs,z∈ys.zip ks)->zs.map (·.2)=bG HT.lexLt ks->H1 l=none->Q (.ref l) (upd H1 l (.lst (zs.map (·.1))))
theorem rY{K:AT}{H:Hp}:∀{kvs:List (List Key×V)}{xs:List (List Key×Addr×Value)}{ks:List (List Int)},JQ (λ(p:List Key×V)(q:List Key×Addr×Value)=>p.1=q.1/\H q.2.1=some (.tup (p.1.map kV))/\RelV p.2 q.2.2) kvs xs ->
  kvs.map (·.1)=ks.map (λk:List Int=>k.map JP)->xG K H (xs.map λq=>V.ref q.2.1) ks/\xs.map (·.1)=ks.map (λk:List Int=>k.map JP)
 |_,_,ks,.nil,e=>by
  cases ks with
  |nil=>exact⟨.nil,rfl⟩
  |cons k ks=>cases e
 |_,_,ks,.cons (a:=p) (b:=q) ⟨h1,h2,h3⟩ r,e=>by
  cases ks with
  |nil=>cases e
  |cons k ks=>
   rw[FC,FC] at e
   injection e with e1 e2
   obtain⟨i1,i2⟩:=rY r e2;refine⟨.cons ⟨q.2.1,rfl,dc.of ?_⟩ i1,by rw[FC,FC,i2,<-h1,e1]⟩
   rw[h2,e1,Hk];rfl
theorem rZ{a:Expr}{ta:TA}{p1 pos:Pos}(hc:X.calm=true)(hg:Gl X "sorted")(hm:X.mg "sorted" = none)(ha:PA X [a] ta)(hs:Fa [a] X.env=[(false,eval a X.env)]:=by rfl) :
  PE X (.Call (.Name "sorted" p1) [a] [] pos) (Gs (HE X.K) ta):=by
 intro pins s σ H Q I h;refine JT (fL I hg hm boot_sorted ?_);refine Kw (bw (ha pos pins s σ H _ I h) λus s1 ⟨vs,H1,I1,r1,q1⟩=>?_) (by rw[hs]; rfl) rfl
 obtain⟨p,kvs,ks,e,hp,hk,hne,hl,q⟩:=q1;subst e;obtain⟨u,rfl,rx⟩:=vals1 r1;cases rx;have hh:=I1.ok.hd hc;obtain⟨hz,hS,xs,hpr,o,es,ep,h1,h2,h3,h4,h5⟩:=(show cy X.prog X.w H1 s1.heap p (.dT kvs) from I1.hok p _ hp)
 obtain⟨ht,ek⟩:=rY (K:=X.K) hpr hk;have hxl:xs.length=ks.length:=by have:=congrArg MW ek; rwa [BM,BM] at this
 have hel:es.size=ks.length:=by rw[<-hxl,<-Do,h4,BM]
 refine kB (Cj hS h2 h3) hh h1 (by lia) λacc hacc=>?_
 have hai:acc.toList=xs.map λq=>J6 q.2.1:=by
  apply Kf;intro i;rw[Hc,IC]
  by_cases hi:i<es.size
  ·obtain⟨v,hv⟩:∃v,acc[i]? = some v:=⟨acc[i]'(by rw[hacc.1]; exact hi),by simp[hacc.1,hi]⟩
   have:(es[i]?).map (·.key)=some v:=hacc.2 i v hv;rw[<-Hc,h4,IC,Option.map_map] at this;rw[hv,<-this];rfl
  ·have e1:acc[i]? = none:=by simp[hacc.1]; lia
   have e2:xs[i]? = none:=by simp; lia
   rw[e1,e2]; rfl
 have rv:Vals (xs.map λq=>V.ref q.2.1) acc.toList:=by
  rw[hai];generalize xs=l
  induction l with
  |nil=>exact .nil
  |cons x l ih=>exact .cons rfl ih
 generalize hys:(xs.map λq=>V.ref q.2.1)=ys at ht rv
 have hyl:ys.length=ks.length:=Jz ht;have hal:acc.toList.length=ks.length:=by rw[Do,hacc.1,hel]
 have m1:(ys.zip ks).map (·.1)=ys:=List.map_fst_zip (by lia)
 have m2:(ys.zip ks).map (·.2)=ks:=NR (by lia)
 have hzl:(ys.zip ks).length=ks.length:=by rw[QV]; lia
 refine⟨λi j=>HT.lexLt (ks.getD i []) (ks.getD j []),⟨λa b=>cT _ _,λa b c h1 h2=>cX _ _ _ h1 h2⟩,λh2 A' _ h' tk kp=>?_,λl h' tk e pm hl' kp he hpm hsr=>?_⟩
 ·obtain⟨κ,c1,c2⟩:=vM I1 ht rv hne (by lia) (A':=A') (h':=h') (tk:=tk) kp
  exact⟨κ,by rw[show acc.toList.toArray=acc by simp] at c1; exact c1,λi j hi hj C hC=>c2 i j (by lia) (by lia) C hC⟩
 ·have hv:=oO (d:=([]:List Int)) (zs:=ys.zip ks) (its:=acc.toList) (by rw[m1]; exact rv) (pm:=pm) (by rw[hzl,<-hel]; exact hpm)
  have hpp:(pm.toList.map λi=>(ys.zip ks).getD i (V.non,[])).Perm (ys.zip ks):=fO (β:=Nat) (by rw[hzl,<-hel]; exact hpm)
  have hso:=vN (lt:=HT.lexLt) (d:=([]:List Int)) (zs:=ys.zip ks) (pm:=pm) (by rw[hzl,<-hel]; exact hpm) (by rw[m2,hzl,<-hel]; exact hsr)
  generalize (pm.toList.map λi=>(ys.zip ks).getD i (V.non,[]))=zo at hv hpp hso
  have hp2:(zo.map (·.2)).Perm ks:=(hpp.map (·.2)).trans (by rw[m2])
  have nd:ks.Nodup:=by
   rw[ek] at h5;exact List.Pairwise.of_map _ (λa b hab z=>hab (by rw[z])) h5
  have eu:zo.map (·.2)=bG HT.lexLt ks:=mQ totL (hp2.nodup_iff.mpr nd) hso λk=>hp2.mem_iff
  refine⟨.ref l,_,I1.laid (t':=tk) (a:=l) (o:=.lst (zo.map (·.1))) kp hl' ?_,rfl,q ys zo l ht (λz hz=>hpp.mem_iff.mp hz) eu (I1.hok.fresh hl')⟩
  refine⟨?_,d7 acc.toList pm,e,hv,he⟩;rw[BM,hpp.length_eq,hzl,IX];lia
end
end L2
end
section
namespace VL
open PySem PySem.Spec L2 PyProof.Rows
noncomputable def Gi:List B2->Option (List Key)
 |[]=>some []
 |d::ds=>(dm d).bind λk=>(Gi ds).bind λks=>some (k::ks)
theorem Ai{K:AT}{H:Hp}{Z:Zs}:∀{ds:List B2}{xs:List V}{k:List Key},bF K H Z xs ds->Gi ds=some k->xs=k.map kV
 |[],_,_,.nil,e=>by cases e; rfl
 |d::ds,_,_,.cons h r,e=>by
  obtain⟨k,e1,e⟩:=oB e;obtain⟨ks,e2,e⟩:=oB e;cases e;rw[FC,dN h e1,Ai r e2]
noncomputable def r6(kvs:List (List Key×B2))(k:List Key)(d:B2):List (List Key×B2):=if (kvs.any λkv=>decide (kv.1=k))=true then kvs.map (λkv=>if kv.1=k then (kv.1,d) else kv) else kvs++[(k,d)]
section
variable{K:AT}{H:Hp}{Z:Zs}{y:V}{d:B2}{k:List Key}
theorem r8(fy:Fz K H Z y d):∀{kxs:List (List Key×V)}{kvs:List (List Key×B2)},kxs.map (·.1)=kvs.map (·.1)->bF K H Z (kxs.map (·.2)) (kvs.map (·.2)) ->
  (kxs.map λkv=>if kv.1=k then (kv.1,y) else kv).map (·.1)=(kvs.map λkv=>if kv.1=k then (kv.1,d) else kv).map (·.1)/\bF K H Z ((kxs.map λkv=>if kv.1=k then (kv.1,y) else kv).map (·.2)) ((kvs.map λkv=>if kv.1=k then (kv.1,d) else kv).map (·.2))
 |[],[],_,_=>⟨rfl,.nil⟩
 |[],_::_,e,_=>by cases e
 |_::_,[],e,_=>by cases e
 |(a,x)::kxs,(b,z)::kvs,e,f=>by
  rw[FC,FC] at e
  injection e with e1 e2
  cases f with
  |cons f1 f2=>
   obtain⟨i1,i2⟩:=r8 fy e2 f2;have e1:a=b:=e1;subst e1
   by_cases h:a=k
   ·simp only[FC,h,if_true]
    exact⟨by rw[i1],.cons fy i2⟩
   ·simp only[FC,h,if_false]
    exact⟨by rw[i1],.cons f1 i2⟩
theorem Ck(fy:Fz K H Z y d){kxs:List (List Key×V)}{kvs:List (List Key×B2)}(e:kxs.map (·.1)=kvs.map (·.1))(f:bF K H Z (kxs.map (·.2)) (kvs.map (·.2))):(putK kxs k y).map (·.1)=(r6 kvs k d).map (·.1)/\bF K H Z ((putK kxs k y).map (·.2)) ((r6 kvs k d).map (·.2)):=by
 have ea:(kxs.any λkv=>decide (kv.1=k))=(kvs.any λkv=>decide (kv.1=k)):=by
  have h1:(kxs.any λkv=>decide (kv.1=k))=(kxs.map (·.1)).any λx=>decide (x=k):=by rw[ND]; rfl
  have h2:(kvs.any λkv=>decide (kv.1=k))=(kvs.map (·.1)).any λx=>decide (x=k):=by rw[ND]; rfl
  rw[h1,h2,e]
 unfold putK r6;rw[ea]
 split
 ·exact r8 fy e f
 ·refine⟨by rw[Iw,Iw,e]; rfl,?_⟩
  rw[Iw,Iw];exact f.append (.cons fy .nil)
end
noncomputable def oS(i:Nat)(fa:FA)(fe:FE):FS:=λρ=>(fe ρ).bind λp=>(cU p.1 p.2).bind λq=>(cS q.2 i).bind λm0=>match m0 with
 |.dtp _=>(fa q.2).bind λr=>(dG r.1 r.2).bind λt=>(Gi t.1).bind λk=>(cS t.2 i).bind λm=>match m with
  |.dtp kvs=>if kvs.length<lim/\t.1.length<=lim then some (.nx (t.2.set i (some (.dtp (r6 kvs k q.1))))) else none
  |_=>none
 |_=>none
section
variable{X:Cx}{pos:Pos}{pin:List Nat}
theorem Aj{i:Nat}{fa:FA}{fe:FE}{pv:Pv}{D:Ends}{σ:L2.St}{H:Hp}(hq:vS X.K pv (oS i fa fe) D σ H):uK (fm i) (tTup (vA X.K fa)) (vE X.K fe) D σ H:=by
 obtain⟨Z,ρ,F,o,S,w,P,e,q⟩:=hq;obtain⟨⟨o1,ρ1⟩,e1,e⟩:=oB e;obtain⟨⟨d,ρ2⟩,e2,e⟩:=oB e;obtain⟨m0,e3,e⟩:=oB e
 split at e
 ·obtain⟨⟨os,ρ3⟩,e4,e⟩:=oB e
  obtain⟨⟨ds,ρ4⟩,e5,e⟩:=oB e;obtain⟨k,e6,e⟩:=oB e;obtain⟨m,e7,e⟩:=oB e
  split at e
  ·rename_i kvs
   split at e
   ·rename_i hl
    injection e with e
    subst e;refine⟨Z,ρ,F,o1,ρ1,S,w,e1,λv H1 Z1 F1 G1 S1 O1 f1=>?_⟩
    obtain⟨Z2,F2,S2,z2,f2,_⟩:=iA S1 O1 f1 e2;obtain⟨x,G,h1,h2,_⟩:=S2.get (aF.mp e3);refine⟨x,h1,Z2,ρ2,F2,os,ρ3,S2,f2.wf,e4,λxs H3 Z3 F3 G3 S3 O3 f3=>?_⟩
    obtain⟨Z4,F4,S4,z4,f4,g4⟩:=p8 S3 O3 f3 e5;refine⟨gw (by rw[z4.length]; exact hl.2),λp hp=>?_⟩
    have n:=aH.same (cN hp (.tup xs)) f4.za;have S5:=S4.news n;have f5:=f4.trans (n.news f4.wf S4.al);rw[EQ] at f5;obtain⟨x',G',k1,k2,k3⟩:=mut1 S5 (f2.trans f5) e7;rw[h1] at k1; cases k1;cases k2 with
    |@dtp a kxs _ ha en fv=>
     obtain⟨g,_,k4⟩:=k3 a (.dT (putK kxs k v)) lS;have pk:=Ck (k:=k) (z2.mono ((f5.grow f2.wf).trans g)) en (fv.mono g);obtain⟨F7,S7,f7⟩:=k4 (.dtp (r6 kvs k d)) [a] (λ_ h=>h) (IM.mpr ⟨Hm,JL⟩) (.dtp aB pk.1 pk.2)
     have hk:=Ai z4 e6;have el:kvs.length=kxs.length:=by have:=congrArg MW en; rw[BM,BM] at this; exact this.symm
     exact⟨_,_,rfl,qL.t ha (by rw[aB,hk]) (iZ (JI (by rw[<-el]; exact hl.1))),q σ _ _ F7 S7 f7 P⟩
   ·cases e
  ·cases e
 ·cases e
theorem Cm(i:Nat){o e:Expr}{es:List Expr}{fa:FA}{fe:FE}{n:Nat}{pos' p2:Pos}(hu:X.A.units+64<cLine)(ho:PE X o (fm i))(hk:WA X es fa)(he:WE X e fe)(hs:K6 e (some (.Subscript o (.Tuple es n p2) pos')) pos.line X.env=pure false) :
  WS X pin (.Assign [.Subscript o (.Tuple es n p2) pos'] e pos) (oS i fa fe):=⟨λpv hp=>eV (uM (by lia) ho (xZ hk.h) he.h hs) λ_ _ _ hq=>Aj hq⟩
noncomputable def xj:List Key->Option (List Int)
 |[]=>some []
 |.inl i::ks=>(xj ks).bind λis=>some (i::is)
 |.inr _::_=>none
noncomputable def oU:List (List Key)->Option (List (List Int))
 |[]=>some []
 |k::ks=>(xj k).bind λi=>(oU ks).bind λis=>some (i::is)
theorem r9:∀{ks:List Key}{is:List Int},xj ks=some is->ks=is.map JP
 |[],_,e=>by cases e; rfl
 |.inl i::ks,_,e=>by
  obtain⟨is,e1,e⟩:=oB e;cases e;rw[FC,r9 e1]
 |.inr _::_,_,e=>by cases e
theorem oV:∀{ks:List (List Key)}{is:List (List Int)},oU ks=some is->ks=is.map λk:List Int=>k.map JP
 |[],_,e=>by cases e; rfl
 |k::ks,_,e=>by
  obtain⟨i,e1,e⟩:=oB e;obtain⟨is,e2,e⟩:=oB e;cases e;rw[FC,r9 e1,oV e2]
theorem vQ:∀(is:List Int),xj (is.map JP)=some is
 |[]=>rfl
 |i::is=>by
  show (xj (is.map JP)).bind _=_;rw[vQ is]; rfl
theorem se:∀(is:List (List Int)),oU (is.map λk:List Int=>k.map JP)=some is
 |[]=>rfl
 |i::is=>by
  show (xj (i.map JP)).bind (λi=>(oU (is.map λk:List Int=>k.map JP)).bind _)=_
  rw[vQ i,se is]; rfl
noncomputable def Gj:List M->Option M
 |[.dtp kvs]=>(oU (kvs.map (·.1))).bind λks=>if ks.length<=1000/\ks.all (λk=> !k.isEmpty)=true then some (.lst ((bG HT.lexLt ks).map tI)) else none
 |_=>none
theorem rSD_v{K:AT}:FY K (HE K) Gj:=λH Z xs ms m Q za hr e q=>by
 unfold Gj at e
 split at e
 ·obtain⟨ks,e1,e⟩:=oB e
  split at e
  ·next hl=>
   cases e;obtain⟨x,rfl,G,h1⟩:=gO hr;cases h1 with
   |dtp ha en fv=>
    refine⟨_,_,ks,rfl,ha,en.trans (oV e1),λt h z=>?_,hl.1,λys zs l ht z1 z2 hl' =>?_⟩
    ·have:=K2.mp hl.2 t h
     rw[z] at this;cases this
    ·have:=bF.qd (Z:=Z) ht zs z1
     rw[z2] at this;exact p5 q za hl' this
  ·cases e
 ·cases e
theorem sf{a:Expr}{fa:FA}{p1:Pos}(hc:X.calm=true)(hg:Gl X "sorted")(hm:X.mg "sorted" = none)(ha:WA X [a] fa)(hs:Fa [a] X.env=[(false,eval a X.env)]:=by rfl) :
  WE X (.Call (.Name "sorted" p1) [a] [] pos) (cF Gj fa):=⟨aY (rZ hc hg hm ha.h hs) λ_ _ _ hq=>many rSD_v hq⟩
end
end VL
end
section
open PySem L2 VL
noncomputable def FF.dW:FS:=(aJ (cP (aG (vB (dD false) (cF cK (af (aa 0))) (vC (.int 0)))) (cZ (vC (.int 0))) bg)
 (cZ (bO (aa 0) (vB gV (aa 1) (cF cK (af (aa 0)))))))
noncomputable def FF.bP:FF:=gy [true,true] 2 FF.dW
noncomputable def FF.gJ:FS:=(aJ (bM 2 (dQ FF.bP (aj (aa 0) (af (aa 1)))))
 (aJ (bM 3 (vB mulM (vB gV (cF yW (af (aa 2))) (vB qY (vB qY (vC (.int 10)) (vC (.int 50))) (vC (.int 8)))) (cF rq (af (vB GW (cF yW (af (aa 2))) (vB qY (vC (.int 10)) (vC (.int 18))))))))
 (cZ (iF (aj (aa 3) (aj (vB gV (vB mulM (vB cB (vB cB (vB gV (aa 2) (vC (.int 2147483629))) (vB mulM (vB mulM (vC (.int 7919)) (aa 1)) (aa 1))) (vC (.int 17))) (vC (.int 48271))) (vC (.int 2147483647))) (af (vC (.int 0)))))))))
noncomputable def FF.bQ:FF:=gy [true,true] 4 FF.gJ
noncomputable def FF.dZ:FS:=(aJ (cP (aG (vB Gv (bO (aa 0) (vC (.int 0))) (vC (.int 0)))) (aJ (bM 2 (vB gV (bO (aa 0) (vC (.int 0))) (aa 1)))
 (aJ (gZ 0 (vC (.int 0)) (vB kg (bO (aa 0) (vC (.int 0))) (aa 1)))
 (cZ (aa 2)))) bg)
 (aJ (gZ 0 (vC (.int 2)) (vB cB (bO (aa 0) (vC (.int 2))) (vC (.int 1))))
 (aJ (gZ 0 (vC (.int 1)) (vB gV (vB cB (vB cB (vB mulM (bO (aa 0) (vC (.int 1))) (vC (.int 69621))) (vC (.int 12345))) (vB mulM (vC (.int 101)) (bO (aa 0) (vC (.int 2))))) (vC (.int 2147483647))))
 (cZ (vB gV (vB kg (vB gV (vB mulM (bO (aa 0) (vC (.int 1))) (vB cB (vB gV (bO (aa 0) (vC (.int 1))) (vC (.int 40009))) (vC (.int 7)))) (vC (.int 2147483629))) (vC (.int 64))) (aa 1))))))
noncomputable def FF.aq:FF:=gy [true,true] 3 FF.dZ
noncomputable def FF.ir:FS:=(aJ (vPar 2 3 (aj (dQ FF.aq (aj (aa 0) (af (vC (.int 5))))) (af (bO (iF (aj (vC (.int 1)) (aj (vC (.int 2)) (aj (vC (.int 3)) (af (vC (.int 7))))))) (dQ FF.aq (aj (aa 0) (af (vC (.int 4)))))))))
 (aJ (bM 4 (bO (iF (aj (vC (.int 0)) (aj (vC (.int 1)) (aj (vC (.int 2)) (aj (aa 1) (af (vB cB (vC (.int 3)) (dQ FF.aq (aj (aa 0) (af (vB qX (aa 1) (vC (.int 2))))))))))))) (aa 2)))
 (aJ (bM 5 (dQ FF.aq (aj (aa 0) (af (vC (.int 100))))))
 (aJ (bM 6 (bO (iF (tW [1,3,7,9,11,13,17,19,21,23,27,29,31,33])) (dQ FF.aq (aj (aa 0) (af (vC (.int 14)))))))
 (aJ (bM 7 (cF eU (af (tU 1 [5,6] (fD kE (af (aa 4))) (ah 0) dS (vB gV (vB cB (aa 1) (vB mulM (aa 2) (aa 0))) (vC (.int 100)))))))
 (aJ (bM 8 (iF fY))
 (aJ (eE (bR (aa 7)) (ah 9) (eE (bR (aa 7)) (ah 10) (cP (fu (aG (vB tK (aa 10) (aa 9))) (fu (aG (vB tK (cF cK (af (aa 8))) (vC (.int 60)))) (aG (vB (dD false) (dQ FF.aq (aj (aa 0) (af (aa 3)))) (vC (.int 0)))))) (eW (kF 8 (af (di (aj (aa 10) (af (aa 9))))))) bg)))
 (cZ (di (aj (cF gP (af (aa 7))) (af (cF gP (af (cF eU (af (aa 8))))))))))))))))
noncomputable def FF.cJ:FF:=gy [true,true] 11 FF.ir
end
section
open PySem L2 VL
noncomputable def FF.jJ:FS:=(aJ (wW (aa 0) (d9 2 (aT (ah 1) (aT (ah 2) eX))))
 (aJ (bM 3 (Fe true 1 [] (bR (aa 1)) (ah 0) dS (aa 0) (iF fY)))
 (aJ (eE (bR (aa 2)) (d9 2 (aT (ah 4) (aT (ah 5) eX))) (aJ (eW (lZ 3 (fE 4) (fE 5)))
 (eW (lZ 3 (fE 5) (fE 4)))))
 (cZ (Fe false 1 [3] (bR (aa 1)) (ah 0) dS (aa 0) (cF gP (af (cF eU (af (bO (aa 1) (aa 0)))))))))))
noncomputable def FF.ff:FF:=gy [true] 6 FF.jJ
noncomputable def FF.gK:FS:=(aJ (bM 2 (dQ FF.aq (aj (aa 0) (af (vC (.int 6))))))
 (aJ (cP (qy (aG (vB tK (aa 2) (vC (.int 2)))) (aG (vB (dD false) (aa 1) (di fY)))) (cZ (bO (iF (aj (di fY) (af (aa 1)))) (vB gV (aa 2) (vC (.int 2))))) bg)
 (aJ (cP (aG (vB (dD false) (aa 2) (vC (.int 2)))) (aJ (bM 3 (dQ FF.aq (aj (aa 0) (af (cF cK (af (aa 1)))))))
 (cZ (vB cB (Ec (aa 1) i7 (i8 (aa 3))) (Ec (aa 1) (i8 (vB cB (aa 3) (vC (.int 1)))) i7)))) bg)
 (cZ (cF gP (af (tU 1 [0,2] (bR (aa 1)) (ah 0) (aG (vB (dD false) (dQ FF.aq (aj (aa 1) (af (vB qX (aa 2) (vC (.int 1)))))) (vC (.int 0)))) (aa 0))))))))
noncomputable def FF.aW:FF:=gy [true,true] 4 FF.gK
noncomputable def FF.aD:Nat->FF
 |0=>λ_=>none
 |n+1=>gy [true,true] 2 (aJ (cP (p9 (vU (nE "tuple") (aa 1))) (aJ (cP (qy (pW (p9 (vU (nE "tuple") (aa 0)))) (aG (vB (dD true) (cF cK (af (aa 0))) (cF cK (af (aa 1)))))) (cZ (vC (.bool false))) bg)
 (cZ (cF (allM false) (af (tU 2 [] (fD zh (aj (aa 0) (af (aa 1)))) (d9 2 (aT (ah 0) (aT (ah 1) eX))) dS (dQ (FF.aD n) (aj (aa 0) (af (aa 1))))))))) bg)
 (cZ (qW (vU (nE "int") (aa 0)) (qW (uT (vU (nE "bool") (aa 0))) (vB (dD false) (aa 0) (aa 1))))))
end
section
open PySem L2 VL
end
section
open PySem L2 VL
noncomputable def FF.fJ:FS:=(aJ (bM 3 (CT [((aa 2),(vC (.int 0)))]))
 (aJ (bM 4 (iF (af (aa 2))))
 (aJ (bM 5 (vC (.int 0)))
 (aJ (jR 1000000 (aG (vB tK (aa 5) (cF cK (af (aa 4))))) (aJ (bM 6 (bO (aa 4) (aa 5)))
 (aJ (zd 5 (i6 (λ_ _=>true) λi j=>.int (i+j)) (vC (.int 1)))
 (eE (bR (bO (aa 0) (aa 6))) (ah 7) (cP (fu (aG (vB (kL false) (aa 7) (aa 1))) (aG (vB (kL true) (aa 7) (aa 3)))) (aJ (gZ 3 (aa 7) (vB cB (bO (aa 3) (aa 6)) (vC (.int 1))))
 (eW (kF 4 (af (aa 7))))) bg)))))
 (cZ (aa 3))))))
noncomputable def FF.bJ:FF:=gy [true,true,true] 8 FF.fJ
end
section
open PySem L2 VL
noncomputable def FF.iS:FS:=(aJ (bM 2 (dQ FF.ff (af (aa 0))))
 (aJ (bM 3 (iF fY))
 (aJ (bM 4 uW)
 (aJ (eE (bR (aa 1)) (ah 5) (cP (aG (vB (kL true) (aa 5) (aa 4))) (aJ (bM 6 (cF gP (af (cF eU (af (dQ FF.bJ (aj (aa 2) (aj (aa 1) (af (aa 5))))))))))
 (aJ (eW (kF 3 (af (aa 6))))
 (eE (bR (aa 6)) (ah 7) (gZ 4 (aa 7) (vC (.bool true)))))) bg))
 (cZ (cF gP (af (aa 3))))))))
noncomputable def FF.br:FF:=gy [true,true] 8 FF.iS
noncomputable def FF.gF:FS:=(cZ (vB (dD false) (cF cK (af (dQ FF.br (aj (aa 0) (af (aa 1)))))) (vC (.int 1))))
noncomputable def FF.cE:FF:=gy [true,true] 2 FF.gF
noncomputable def FF.dB:FS:=(aJ (wW (di (aj (dQ FF.aq (aj (aa 0) (af (vC (.int 3))))) (af (vB cB (vC (.int 1)) (dQ FF.aq (aj (aa 0) (af (vC (.int 22))))))))) (d9 2 (aT (ah 2) (aT (ah 3) eX))))
 (aJ (cP (qy (aG (vB Gv (aa 2) (vC (.int 1)))) (aG (vB tK (cF cK (af (bO (aa 1) (vC (.int 0))))) (vC (.int 4))))) (cZ (aa 1)) bg)
 (aJ (bM 4 (tU 1 [1,3] (fD kE (af (cF cK (af (bO (aa 1) (vC (.int 0))))))) (ah 0) dS (bO (bO (aa 1) (vC (.int 0))) (vB gV (vB mulM (aa 2) (aa 0)) (cF cK (af (bO (aa 1) (vC (.int 0)))))))))
 (aJ (bM 5 ur)
 (aJ (eE (fD kE (af (vB qX (cF cK (af (aa 4))) (vC (.int 1))))) (ah 6) (cP (fu (aG (vB (dD true) (bO (aa 4) (aa 6)) (bO (aa 4) (vB cB (aa 6) (vC (.int 1)))))) (qy (aG (vB (dD false) (aa 2) (vC (.int 0)))) (aG (vB (dD true) (aa 6) (vB kg (cF cK (af (aa 4))) (vC (.int 2))))))) (oS 5 (aj (cF tN (aj (bO (aa 4) (aa 6)) (af (bO (aa 4) (vB cB (aa 6) (vC (.int 1))))))) (af (cF oq (aj (bO (aa 4) (aa 6)) (af (bO (aa 4) (vB cB (aa 6) (vC (.int 1))))))))) (vC (.bool true))) bg))
 (cZ (di (aj (bO (aa 1) (vC (.int 0))) (af (cF gP (af (cF Gj (af (aa 5))))))))))))))
noncomputable def FF.aZ:FF:=gy [true,true] 7 FF.dB
noncomputable def FF.fK:FS:=(aJ (bM 2 (cF FJ (af (ie 1 [] 1 (ah 0) dS (di (aj (aa 0) (af (aa 0))))))))
 (aJ (eE (bR (bO (aa 0) (vC (.int 1)))) (d9 2 (aT (ah 3) (aT (ah 4) eX))) (cP (fu (aG (vB (kL false) (aa 3) (aa 2))) (fu (aG (vB (kL false) (aa 4) (aa 2))) (aG (vB (dD true) (bO (aa 2) (aa 3)) (bO (aa 2) (aa 4)))))) (aJ (bM 5 (bO (aa 2) (aa 4)))
 (eE (bR (aa 1)) (ah 6) (cP (aG (vB (dD false) (bO (aa 2) (aa 6)) (aa 5))) (gZ 2 (aa 6) (bO (aa 2) (aa 3))) bg))) bg))
 (aJ (bM 7 (cF FH (af (GG (aa 2)))))
 (aJ (bM 8 (ie 1 [1,2] 7 (ah 0) dS (cF gP (af (ie 1 [0,2] 1 (ah 0) (aG (vB (dD false) (bO (aa 2) (aa 0)) (aa 1))) (aa 0))))))
 (cZ (cF gP (af (cF eU (af (aa 8))))))))))
noncomputable def FF.bK:FF:=gy [true,true] 9 FF.fK
noncomputable def FF.mT:FS:=(aJ (eE (fD kE (af (vB cB (vC (.int 1)) (cF tN (aj (vC (.int 5)) (af (cF cK (af (aa 0))))))))) (ah 1) (aJ (bM 2 (dQ FF.bQ (aj (aa 0) (af (aa 1)))))
 (aJ (bM 3 (dQ FF.aZ (aj (aa 2) (af (dQ FF.cJ (aj (aa 2) (af (vC (.int 24)))))))))
 (aJ (eE (bR (vB cB (tU 1 [2,3] (fD kE (af (vC (.int 7)))) (ah 0) dS (dQ FF.aW (aj (aa 1) (af (bO (aa 2) (vC (.int 0))))))) (iF (aj (di fY) (af (bO (aa 3) (vC (.int 0)))))))) (ah 4) (aJ (bM 5 (dQ FF.bK (aj (aa 3) (af (aa 4)))))
 (eE (fD kE (af (vC (.int 2)))) (ah 6) (aJ (bM 7 (dQ FF.cE (aj (aa 3) (af (aa 4)))))
 (cP (qy (pW (p9 (dQ (FF.aD 4) (aj (dQ FF.br (aj (aa 3) (af (aa 4)))) (af (aa 5)))))) (qy (pW (p9 (vU (nE "bool") (aa 7)))) (aG (vB (dD true) (aa 7) (vB (dD false) (cF cK (af (aa 5))) (vC (.int 1))))))) (cZ (vC (.bool false))) bg)))))
 (eE (bR (bO (aa 3) (vC (.int 0)))) (ah 8) (cP (qy (aG (vB (dD true) (dQ FF.br (aj (aa 3) (af (di (af (aa 8)))))) (di (af (di (af (aa 8))))))) (aG (vB (wN true) (dQ FF.cE (aj (aa 3) (af (di (af (aa 8)))))) (vC (.bool true))))) (cZ (vC (.bool false))) bg))))))
 (cZ (vC (.bool true))))
noncomputable def FF.mU:FF:=gy [true] 9 FF.mT
end
section
namespace Lk03
open PySem L2 VL PyProof.Rows
noncomputable def top(i:Nat):Stmt:=PySem.Challenge.pw_drawnweb_k03_pieces_and_what_hangs.main.body.getD i (.Pass ⟨0,0,0,0⟩)
structure Txt(mg:Str->Option Value):Prop where
 z_sorted:mg "sorted" = none
 z_tuple:mg "tuple" = none
 z_len:mg "len" = none
 z_abs:mg "abs" = none
 z_int:mg "int" = none
 z_range:mg "range" = none
 z_isinstance:mg "isinstance" = none
 z_bool:mg "bool" = none
 z_zip:mg "zip" = none
 z_all:mg "all" = none
 z_max:mg "max" = none
 z_min:mg "min" = none
 z_list:mg "list" = none
 z_set:mg "set" = none
 z_dict:mg "dict" = none
section
variable{P:Fm}{w:World}{K:AT}{mg:Str->Option Value}{base:Heap}{f:Addr}{fd:K7}
noncomputable abbrev s_nears:Stmt:=top 1
theorem sc_nears:bB ["web", "places", "ties", "beside", "a", "b"] ["web"] (au s_nears):=⟨rfl,rfl,rfl,by decide +kernel,rfl,by decide +kernel,by decide +kernel⟩
theorem ok_nears(Fn:nV K "nears" "nears" s_nears f fd)(T:Txt mg):cY P w K mg base j6 1 f fd ["web"] (d8 K FF.ff) :=
 cH [true] Fn sc_nears rfl λcdv A outer s H E hr=>(by
  have hU:=hr.units;have hG:=hr.gd;exact(ao (zB (wv 0) (mq 2 rfl (cQ (aI (i:=1) (by decide) sc_nears.nd rfl (IL rfl)) (cQ (aI (i:=2) (by decide) sc_nears.nd rfl (IL rfl)) jB))))
  (ao (aU (i:=3) (by decide) sc_nears.nd rfl (KZ rfl) (CS true 1 [] rfl rfl rfl (bh.of (sc0:=au s_nears) (N0:=["web", "places", "ties", "beside", "a", "b"]) (N:=["place"]) (fr:=[none]) rfl rfl (by decide +kernel)) (cL (wv 1)) (λ_=>⟨(aI (i:=0) (by decide) (show (["place"]:List Str).Nodup by decide +kernel) rfl (IL rfl)),g9,(wv 0),(fQ jU)⟩)))
  (ao (dI Iu rfl (cL (wv 2)) (mq 2 rfl (cQ (aI (i:=4) (by decide) sc_nears.nd rfl (IL rfl)) (cQ (aI (i:=5) (by decide) sc_nears.nd rfl (IL rfl)) jB))) (ao (jC (vm 3 (GC 4) (GC 5) hU (pv 3) (λ_ _=>rfl) (λ_ _ h1 h2=>qJ KD Jt K8 eL h1 h2)))
  (az (jC (vm 3 (GC 5) (GC 4) hU (pv 3) (λ_ _=>rfl) (λ_ _ h1 h2=>qJ KD Jt K8 eL h1 h2))))))
  (az (bI (CS false 1 [3] rfl rfl rfl (bh.of (sc0:=au s_nears) (N0:=["web", "places", "ties", "beside", "a", "b"]) (N:=["place", "beside"]) (fr:=[none,some 3]) rfl rfl (by decide +kernel)) (cL (wv 1)) (λ_=>⟨(aI (i:=0) (by decide) (show (["place", "beside"]:List Str).Nodup by decide +kernel) rfl (IL rfl)),g9,(wv 0),(iP dw rfl T.z_tuple (by decide +kernel) (ai (bX (gb rfl) rfl T.z_sorted (by decide +kernel) (ai (aS hU (wv 1) (wv 0) (λ_ _=>rfl))))))⟩))))))))
noncomputable abbrev s_steps_from:Stmt:=top 2
theorem sc_steps_from:bB ["beside", "some", "start", "steps", "waiting", "at", "place", "other"] ["beside", "some", "start"] (au s_steps_from):=⟨rfl,rfl,rfl,by decide +kernel,rfl,by decide +kernel,by decide +kernel⟩
theorem ok_steps_from(Fn:nV K "steps_from" "steps_from" s_steps_from f fd)(T:Txt mg):cY P w K mg base j6 1 f fd ["beside", "some", "start"] (d8 K FF.bJ) :=
 cH [true,true,true] Fn sc_steps_from rfl λcdv A outer s H E hr=>(by
  have hU:=hr.units;have hG:=hr.gd;exact(ao (aU (i:=3) (by decide) sc_steps_from.nd rfl (IL rfl) (BX (zD (wv 2) ak BW) rfl rfl (List.cons_ne_nil _ _) (by show 1<=15; decide)))
  (ao (aU (i:=4) (by decide) sc_steps_from.nd rfl (IL rfl) (fQ (ai (wv 2))))
  (ao (aU (i:=5) (by decide) sc_steps_from.nd rfl (IL rfl) ak)
  (ao (zC 1000000 Iu (bH (q9 hU) (wv 5) (bX cW rfl T.z_len (by decide +kernel) (ai (wv 4))) (aX _)) (ao (aU (i:=6) (by decide) sc_steps_from.nd rfl (IL rfl) (aS hU (wv 4) (wv 5) (λ_ _=>rfl)))
  (ao (EJ (i:=5) BE (by decide) sc_steps_from.nd rfl (IL rfl) ak Di)
  (az (dI Iu rfl (cL (aS hU (wv 0) (wv 6) (λ_ _=>rfl))) (aI (i:=7) (by decide) sc_steps_from.nd rfl (IL rfl)) (az (eY (iO (jT (zw hU (wv 7) (wv 1)) (kM (rC hU (wv 7) (wv 3))))) (ao (jV 3 hU (pv 3) (wv 7) (aN cC (aS hU (wv 3) (wv 6) (λ_ _=>rfl)) ak) rfl (λ_ _ h1 h2=>gS h1 h2) (λ_ _ h1 h2=>jM h1 h2 set_list))
  (az (jC (tZ 4 (ai (wv 7)) (λ_ _ h1 h2=>qJ KD Jt K8 eL h1 h2) (pv 4))))) bZ)))))))
  (az (bI (wv 3))))))))
noncomputable abbrev s_pieces:Stmt:=top 3
theorem sc_pieces:bB ["web", "some", "beside", "told", "seen", "place", "piece", "member"] ["web", "some"] (au s_pieces):=⟨rfl,rfl,rfl,by decide +kernel,rfl,by decide +kernel,by decide +kernel⟩
theorem ok_pieces(Fn:nV K "pieces" "pieces" s_pieces f fd)(T:Txt mg)(C_steps_from:bz P w K mg base "steps_from" ["beside", "some", "start"] 1 (d8 K FF.bJ))(C_nears:bz P w K mg base "nears" ["web"] 1 (d8 K FF.ff)):cY P w K mg base j6 2 f fd ["web", "some"] (d8 K FF.br) :=
 cH [true,true] Fn sc_pieces rfl λcdv A outer s H E hr=>(by
  have hU:=hr.units;have hG:=hr.gd;exact(ao (aU (i:=2) (by decide) sc_pieces.nd rfl (IL rfl) (bY C_nears hr rfl (ai (wv 0))))
  (ao (aU (i:=3) (by decide) sc_pieces.nd rfl (IL rfl) (fQ jU))
  (ao (aU (i:=4) (by decide) sc_pieces.nd rfl (IL rfl) BV)
  (ao (dI Iu rfl (cL (wv 1)) (aI (i:=5) (by decide) sc_pieces.nd rfl (IL rfl)) (az (eY (rC hU (wv 5) (wv 4)) (ao (aU (i:=6) (by decide) sc_pieces.nd rfl (IL rfl) (iP dw rfl T.z_tuple (by decide +kernel) (ai (bX (gb rfl) rfl T.z_sorted (by decide +kernel) (ai (bY C_steps_from hr rfl (av (wv 2) (av (wv 1) (ai (wv 5))))))))))
  (ao (jC (tZ 3 (ai (wv 6)) (λ_ _ h1 h2=>qJ KD Jt K8 eL h1 h2) (pv 3)))
  (az (dI Iu rfl (cL (wv 6)) (aI (i:=7) (by decide) sc_pieces.nd rfl (IL rfl)) (az (jV 4 hU (pv 4) (wv 7) l0 rfl (λ_ _ h1 h2=>gS h1 h2) (λ_ _ h1 h2=>jM h1 h2 set_list))))))) bZ)))
  (az (bI (iP dw rfl T.z_tuple (by decide +kernel) (ai (wv 3))))))))))
noncomputable abbrev s_hangs:Stmt:=top 4
theorem sc_hangs:bB ["web", "some"] ["web", "some"] (au s_hangs):=⟨rfl,rfl,rfl,by decide +kernel,rfl,by decide +kernel,by decide +kernel⟩
theorem ok_hangs(Fn:nV K "hangs" "hangs" s_hangs f fd)(T:Txt mg)(C_pieces:bz P w K mg base "pieces" ["web", "some"] 2 (d8 K FF.br)):cY P w K mg base j6 3 f fd ["web", "some"] (d8 K FF.cE) :=
 cH [true,true] Fn sc_hangs rfl λcdv A outer s H E hr=>(by
  have hU:=hr.units;have hG:=hr.gd;exact(az (bI (qi (gW hU) (bX cW rfl T.z_len (by decide +kernel) (ai (bY C_pieces hr rfl (av (wv 0) (ai (wv 1)))))) ak (aX _)))))
noncomputable abbrev s_law_cell:Stmt:=top 6
theorem sc_law_cell:bB ["_law_script", "_law_k"] ["_law_script", "_law_k"] (au s_law_cell):=⟨rfl,rfl,rfl,by decide +kernel,rfl,by decide +kernel,by decide +kernel⟩
theorem ok_law_cell(Fn:nV K "_law_cell" "_law_cell" s_law_cell f fd)(T:Txt mg):cY P w K mg base j6 1 f fd ["_law_script", "_law_k"] (d8 K FF.bP) :=
 cH [true,true] Fn sc_law_cell rfl λcdv A outer s H E hr=>(by
  have hU:=hr.units;have hG:=hr.gd;exact(ao (eY (bH (gW hU) (bX cW rfl T.z_len (by decide +kernel) (ai (wv 0))) ak (aX _)) (az (bI ak)) bZ)
  (az (bI (aS hU (wv 0) (aN dR (wv 1) (bX cW rfl T.z_len (by decide +kernel) (ai (wv 0)))) (λ_ _=>rfl))))))
noncomputable abbrev s_law_left:Stmt:=top 7
theorem sc_law_left:bB ["_law_script", "_law_k", "_law_cell_here", "_law_great"] ["_law_script", "_law_k"] (au s_law_left):=⟨rfl,rfl,rfl,by decide +kernel,rfl,by decide +kernel,by decide +kernel⟩
theorem ok_law_left(Fn:nV K "_law_left" "_law_left" s_law_left f fd)(T:Txt mg)(C_law_cell:bz P w K mg base "_law_cell" ["_law_script", "_law_k"] 1 (d8 K FF.bP)):cY P w K mg base j6 2 f fd ["_law_script", "_law_k"] (d8 K FF.bQ) :=
 cH [true,true] Fn sc_law_left rfl λcdv A outer s H E hr=>(by
  have hU:=hr.units;have hG:=hr.gd;exact(ao (aU (i:=2) (by decide) sc_law_left.nd rfl (IL rfl) (bY C_law_cell hr rfl (av (wv 0) (ai (wv 1)))))
  (ao (aU (i:=3) (by decide) sc_law_left.nd rfl (IL rfl) (aN gx (aN dR (bX yX rfl T.z_abs (by decide +kernel) (ai (wv 2))) (aN tH (aN tH ak ak) ak)) (iP Ed rfl T.z_int (by decide +kernel) (ai (qi (ov_ge hU) (bX yX rfl T.z_abs (by decide +kernel) (ai (wv 2))) (aN tH ak ak) (aX _))))))
  (az (bI (fQ (av (wv 3) (av (aN dR (aN gx (aN cC (aN cC (aN dR (wv 2) ak) (aN gx (aN gx ak (wv 1)) (wv 1))) ak) ak) ak) (ai ak)))))))))
noncomputable abbrev s_law_pick:Stmt:=top 8
theorem sc_law_pick:bB ["_law_left_here", "_law_many", "_law_digit"] ["_law_left_here", "_law_many"] (au s_law_pick):=⟨rfl,rfl,rfl,by decide +kernel,rfl,by decide +kernel,by decide +kernel⟩
theorem ok_law_pick(Fn:nV K "_law_pick" "_law_pick" s_law_pick f fd)(T:Txt mg):cY P w K mg base j6 1 f fd ["_law_left_here", "_law_many"] (d8 K FF.aq) :=
 cH [true,true] Fn sc_law_pick rfl λcdv A outer s H E hr=>(by
  have hU:=hr.units;have hG:=hr.gd;exact(ao (eY (bH CM (aS hU (wv 0) ak (λ_ _=>rfl)) ak (aX _)) (ao (aU (i:=2) (by decide) sc_law_pick.nd rfl (IL rfl) (aN dR (aS hU (wv 0) ak (λ_ _=>rfl)) (wv 1)))
  (ao (jV 0 hU (pv 0) ak (aN p7 (aS hU (wv 0) ak (λ_ _=>rfl)) (wv 1)) rfl (λ_ _ h1 h2=>gS h1 h2) (λ_ _ h1 h2=>jM h1 h2 set_list))
  (az (bI (wv 2))))) bZ)
  (ao (jV 0 hU (pv 0) ak (aN cC (aS hU (wv 0) ak (λ_ _=>rfl)) ak) rfl (λ_ _ h1 h2=>gS h1 h2) (λ_ _ h1 h2=>jM h1 h2 set_list))
  (ao (jV 0 hU (pv 0) ak (aN dR (aN cC (aN cC (aN gx (aS hU (wv 0) ak (λ_ _=>rfl)) ak) ak) (aN gx ak (aS hU (wv 0) ak (λ_ _=>rfl)))) ak) rfl (λ_ _ h1 h2=>gS h1 h2) (λ_ _ h1 h2=>jM h1 h2 set_list))
  (az (bI (aN dR (aN p7 (aN dR (aN gx (aS hU (wv 0) ak (λ_ _=>rfl)) (aN cC (aN dR (aS hU (wv 0) ak (λ_ _=>rfl)) ak) ak)) ak) ak) (wv 1))))))))
noncomputable abbrev s_law_web:Stmt:=top 9
theorem sc_law_web:bB ["_law_left_here", "_law_most", "_law_choice", "_law_often", "_law_many", "_law_first", "_law_step", "_law_places", "_law_ties", "_law_b", "_law_a"] ["_law_left_here", "_law_most"] (au s_law_web):=⟨rfl,rfl,rfl,by decide +kernel,rfl,by decide +kernel,by decide +kernel⟩
theorem ok_law_web(Fn:nV K "_law_web" "_law_web" s_law_web f fd)(T:Txt mg)(C_law_pick:bz P w K mg base "_law_pick" ["_law_left_here", "_law_many"] 1 (d8 K FF.aq)):cY P w K mg base j6 2 f fd ["_law_left_here", "_law_most"] (d8 K FF.cJ) :=
 cH [true,true] Fn sc_law_web rfl λcdv A outer s H E hr=>(by
  have hU:=hr.units;have hG:=hr.gd;exact(ao (EK (i:=2) (j:=3) (by decide) (by decide) (av (bY C_law_pick hr rfl (av (wv 0) (ai ak))) (ai (aS hU (fQ (av ak (av ak (av ak (ai ak))))) (bY C_law_pick hr rfl (av (wv 0) (ai ak))) (λ_ _=>rfl)))) (λ_ h=>Dg (i:=2) (j:=3) rfl sc_law_web.nd rfl rfl (by decide) rfl rfl h rfl))
  (ao (aU (i:=4) (by decide) sc_law_web.nd rfl (IL rfl) (aS hU (fQ (av ak (av ak (av ak (av (wv 1) (ai (aN cC ak (bY C_law_pick hr rfl (av (wv 0) (ai (aN tG (wv 1) ak))))))))))) (wv 2) (λ_ _=>rfl)))
  (ao (aU (i:=5) (by decide) sc_law_web.nd rfl (KZ rfl) (bY C_law_pick hr rfl (av (wv 0) (ai ak))))
  (ao (aU (i:=6) (by decide) sc_law_web.nd rfl (KZ rfl) (aS hU (fQ (BU (ns:=[1,3,7,9,11,13,17,19,21,23,27,29,31,33]) (by decide +kernel))) (bY C_law_pick hr rfl (av (wv 0) (ai ak))) (λ_ _=>rfl)))
  (ao (aU (i:=7) (by decide) sc_law_web.nd rfl (IL rfl) (bX (gb rfl) rfl T.z_sorted (by decide +kernel) (ai (vn 1 [5,6] rfl rfl rfl (bh.of (sc0:=au s_law_web) (N0:=["_law_left_here", "_law_most", "_law_choice", "_law_often", "_law_many", "_law_first", "_law_step", "_law_places", "_law_ties", "_law_b", "_law_a"]) (N:=["_law_k", "_law_first", "_law_step"]) (fr:=[none,some 5,some 6]) rfl rfl (by decide +kernel)) (iB rfl T.z_range (ai (wv 4))) (λ_=>⟨(aI (i:=0) (by decide) (show (["_law_k", "_law_first", "_law_step"]:List Str).Nodup by decide +kernel) rfl (IL rfl)),g9,(aN dR (aN cC (wv 1) (aN gx (wv 2) (wv 0))) ak)⟩)))))
  (ao (aU (i:=8) (by decide) sc_law_web.nd rfl (IL rfl) (fQ jU))
  (ao (dI Iu rfl (cL (wv 7)) (aI (i:=9) (by decide) sc_law_web.nd rfl (IL rfl)) (az (dI Iu rfl (cL (wv 7)) (aI (i:=10) (by decide) sc_law_web.nd rfl (IL rfl)) (az (eY (iO (jT (bH (q9 hU) (wv 10) (wv 9) (aX _)) (jT (bH (q9 hU) (bX cW rfl T.z_len (by decide +kernel) (ai (wv 8))) ak (aX _)) (kM (bH (gW hU) (bY C_law_pick hr rfl (av (wv 0) (ai (wv 3)))) ak (aX _)))))) (az (jC (tZ 8 (ai (dU (av (wv 10) (ai (wv 9))))) (λ_ _ h1 h2=>qJ KD Jt K8 eL h1 h2) (pv 8)))) bZ)))))
  (az (bI (dU (av (iP dw rfl T.z_tuple (by decide +kernel) (ai (wv 7))) (ai (iP dw rfl T.z_tuple (by decide +kernel) (ai (bX (gb rfl) rfl T.z_sorted (by decide +kernel) (ai (wv 8))))))))))))))))))
noncomputable abbrev s_law_some:Stmt:=top 10
theorem sc_law_some:bB ["_law_left_here", "_law_places", "_law_choice", "_law_at"] ["_law_left_here", "_law_places"] (au s_law_some):=⟨rfl,rfl,rfl,by decide +kernel,rfl,by decide +kernel,by decide +kernel⟩
theorem ok_law_some(Fn:nV K "_law_some" "_law_some" s_law_some f fd)(T:Txt mg)(C_law_pick:bz P w K mg base "_law_pick" ["_law_left_here", "_law_many"] 1 (d8 K FF.aq)):cY P w K mg base j6 2 f fd ["_law_left_here", "_law_places"] (d8 K FF.aW) :=
 cH [true,true] Fn sc_law_some rfl λcdv A outer s H E hr=>(by
  have hU:=hr.units;have hG:=hr.gd;exact(ao (aU (i:=2) (by decide) sc_law_some.nd rfl (KZ rfl) (bY C_law_pick hr rfl (av (wv 0) (ai ak))))
  (ao (eY (iO (mh (bH (q9 hU) (wv 2) ak (aX _)) (jS (bH (gW hU) (wv 1) (dU jU) (aX _))))) (az (bI (aS hU (fQ (av (dU jU) (ai (wv 1)))) (aN dR (wv 2) ak) (λ_ _=>rfl)))) bZ)
  (ao (eY (bH (gW hU) (wv 2) ak (aX _)) (ao (aU (i:=3) (by decide) sc_law_some.nd rfl (IL rfl) (bY C_law_pick hr rfl (av (wv 0) (ai (bX cW rfl T.z_len (by decide +kernel) (ai (wv 1)))))))
  (az (bI (aN cC (CQ (wv 1) vh (vj (wv 3))) (CQ (wv 1) (vj (aN cC (wv 3) ak)) vh))))) bZ)
  (az (bI (iP dw rfl T.z_tuple (by decide +kernel) (ai (vn 1 [0,2] rfl rfl rfl (bh.of (sc0:=au s_law_some) (N0:=["_law_left_here", "_law_places", "_law_choice", "_law_at"]) (N:=["_law_place", "_law_left_here", "_law_choice"]) (fr:=[none,some 0,some 2]) rfl rfl (by decide +kernel)) (cL (wv 1)) (λ_=>⟨(aI (i:=0) (by decide) (show (["_law_place", "_law_left_here", "_law_choice"]:List Str).Nodup by decide +kernel) rfl (IL rfl)),(zA (bH (gW hU) (bY C_law_pick hr rfl (av (wv 1) (ai (aN tG (wv 2) ak)))) ak (aX _))),(wv 0)⟩))))))))))
noncomputable abbrev s_law_same:Stmt:=top 11
theorem sc_law_same:bB ["_law_found", "_law_due"] ["_law_found", "_law_due"] (au s_law_same):=⟨rfl,rfl,rfl,by decide +kernel,rfl,by decide +kernel,by decide +kernel⟩
theorem ok_law_same(Fn:nV K "_law_same" "_law_same" s_law_same f fd)(T:Txt mg)(bd:Binds K fd ["_law_found", "_law_due"] [])(hm:mg "_law_same" = some (.ref f)):∀n,cY P w K mg base j6 (n+1) f fd ["_law_found", "_law_due"] (d8 K (FF.aD n))
 |0=>BY
 |n+1=>by
  have C_law_same:bz P w K mg base "_law_same" ["_law_found", "_law_due"] (n+1) (d8 K (FF.aD n)):=⟨f,fd,ok_law_same Fn T bd hm n,bd,Fn.kp,hm⟩;exact cH [true,true] Fn sc_law_same rfl λcdv A outer s H E hr=>(by
  have hU:=hr.units;have hG:=hr.gd;exact(ao (eY (qj (mj "tuple" (by decide) (by decide) rfl T.z_isinstance (by decide +kernel) (wv 1) (jg (v:=.ty "tuple") rfl T.z_tuple (by decide +kernel) rfl))) (ao (eY (iO (mh (tV (qj (mj "tuple" (by decide) (by decide) rfl T.z_isinstance (by decide +kernel) (wv 0) (jg (v:=.ty "tuple") rfl T.z_tuple (by decide +kernel) rfl)))) (jS (bH (n9 hU) (bX cW rfl T.z_len (by decide +kernel) (ai (wv 0))) (bX cW rfl T.z_len (by decide +kernel) (ai (wv 1))) (aX _))))) (az (bI l0)) bZ)
  (az (bI (bX (Ef rfl) rfl T.z_all (by decide +kernel) (ai (vn 2 [] rfl rfl rfl (bh.of (sc0:=au s_law_same) (N0:=["_law_found", "_law_due"]) (N:=["_law_one", "_law_other"]) (fr:=[none,none]) rfl rfl (by decide +kernel)) (EH rfl T.z_zip (av (wv 0) (ai (wv 1)))) (λ_=>⟨(mq 2 rfl (cQ (aI (i:=0) (by decide) (show (["_law_one", "_law_other"]:List Str).Nodup by decide +kernel) rfl (IL rfl)) (cQ (aI (i:=1) (by decide) (show (["_law_one", "_law_other"]:List Str).Nodup by decide +kernel) rfl (IL rfl)) jB))),g9,(bY C_law_same hr rfl (av (wv 0) (ai (wv 1))))⟩))))))) bZ)
  (az (bI (zz (mj "int" (by decide) (by decide) rfl T.z_isinstance (by decide +kernel) (wv 0) (jg (v:=.ty "int") rfl T.z_int (by decide +kernel) rfl)) (zz (EG (mj "bool" (by decide) (by decide) rfl T.z_isinstance (by decide +kernel) (wv 0) (jg (v:=.ty "bool") rfl T.z_bool (by decide +kernel) rfl))) (EF (qi (gW hU) (wv 0) (wv 1) (aX _)))))))))
noncomputable abbrev s_law_strung:Stmt:=top 12
theorem sc_law_strung:bB ["_law_left_here", "_law_web_here", "_law_choice", "_law_step", "_law_order", "_law_ties", "_law_k"] ["_law_left_here", "_law_web_here"] (au s_law_strung):=⟨rfl,rfl,rfl,by decide +kernel,rfl,by decide +kernel,by decide +kernel⟩
theorem ok_law_strung(Fn:nV K "_law_strung" "_law_strung" s_law_strung f fd)(T:Txt mg)(C_law_pick:bz P w K mg base "_law_pick" ["_law_left_here", "_law_many"] 1 (d8 K FF.aq)):cY P w K mg base j6 2 f fd ["_law_left_here", "_law_web_here"] (d8 K FF.aZ) :=
 cH [true,true] Fn sc_law_strung rfl λcdv A outer s H E hr=>(by
  have hU:=hr.units;have hG:=hr.gd;exact(ao (zB (dU (av (bY C_law_pick hr rfl (av (wv 0) (ai ak))) (ai (aN cC ak (bY C_law_pick hr rfl (av (wv 0) (ai ak))))))) (mq 2 rfl (cQ (aI (i:=2) (by decide) sc_law_strung.nd rfl (IL rfl)) (cQ (aI (i:=3) (by decide) sc_law_strung.nd rfl (KZ rfl)) jB))))
  (ao (eY (iO (mh (bH CM (wv 2) ak (aX _)) (jS (bH (q9 hU) (bX cW rfl T.z_len (by decide +kernel) (ai (aS hU (wv 1) ak (λ_ _=>rfl)))) ak (aX _))))) (az (bI (wv 1))) bZ)
  (ao (EI (i:=4) 1 [1,3] (by decide) sc_law_strung.nd rfl rfl rfl rfl rfl (bh.of (sc0:=au s_law_strung) (N0:=["_law_left_here", "_law_web_here", "_law_choice", "_law_step", "_law_order", "_law_ties", "_law_k"]) (N:=["_law_k", "_law_web_here", "_law_step"]) (fr:=[none,some 1,some 3]) rfl rfl (by decide +kernel)) (iB rfl T.z_range (ai (bX cW rfl T.z_len (by decide +kernel) (ai (aS hU (wv 1) ak (λ_ _=>rfl)))))) (λ_=>⟨(aI (i:=0) (by decide) (show (["_law_k", "_law_web_here", "_law_step"]:List Str).Nodup by decide +kernel) rfl (IL rfl)),g9,(aS hU (aS hU (wv 1) ak (λ_ _=>rfl)) (aN dR (aN gx (wv 2) (wv 0)) (bX cW rfl T.z_len (by decide +kernel) (ai (aS hU (wv 1) ak (λ_ _=>rfl))))) (λ_ _=>rfl))⟩))
  (ao (aU (i:=5) (by decide) sc_law_strung.nd rfl (IL rfl) Ae)
  (ao (dI Iu rfl (iB rfl T.z_range (ai (aN tG (bX cW rfl T.z_len (by decide +kernel) (ai (wv 4))) ak))) (aI (i:=6) (by decide) sc_law_strung.nd rfl (IL rfl)) (az (eY (iO (jT (bH (n9 hU) (aS hU (wv 4) (wv 6) (λ_ _=>rfl)) (aS hU (wv 4) (aN cC (wv 6) ak) (λ_ _=>rfl)) (aX _)) (kM (iO (mh (bH (gW hU) (wv 2) ak (aX _)) (jS (bH (n9 hU) (wv 6) (aN p7 (bX cW rfl T.z_len (by decide +kernel) (ai (wv 4))) ak) (aX _)))))))) (az (Cm 5 hU (pv 5) (av (bX (yY rfl) rfl T.z_min (by decide +kernel) (av (aS hU (wv 4) (wv 6) (λ_ _=>rfl)) (ai (aS hU (wv 4) (aN cC (wv 6) ak) (λ_ _=>rfl))))) (ai (bX (By rfl) rfl T.z_max (by decide +kernel) (av (aS hU (wv 4) (wv 6) (λ_ _=>rfl)) (ai (aS hU (wv 4) (aN cC (wv 6) ak) (λ_ _=>rfl))))))) l0 rfl)) bZ)))
  (az (bI (dU (av (aS hU (wv 1) ak (λ_ _=>rfl)) (ai (iP dw rfl T.z_tuple (by decide +kernel) (ai (sf rfl rfl T.z_sorted (ai (wv 5))))))))))))))))
noncomputable abbrev s_law_joined:Stmt:=top 13
theorem sc_law_joined:bB ["_law_web_here", "_law_some_here", "_law_mark", "_law_a", "_law_b", "_law_gone", "_law_place", "_law_marks", "_law_found"] ["_law_web_here", "_law_some_here"] (au s_law_joined):=⟨rfl,rfl,rfl,by decide +kernel,rfl,by decide +kernel,by decide +kernel⟩
theorem ok_law_joined(Fn:nV K "_law_joined" "_law_joined" s_law_joined f fd)(T:Txt mg):cY P w K mg base j6 1 f fd ["_law_web_here", "_law_some_here"] (d8 K FF.bK) :=
 cH [true,true] Fn sc_law_joined rfl λcdv A outer s H E hr=>(by
  have hU:=hr.units;have hG:=hr.gd;exact(ao (aU (i:=2) (by decide) sc_law_joined.nd rfl (KZ rfl) (Cg rfl rfl T.z_dict (ai (zK 1 1 [] (pv 1) rfl rfl rfl (bh.of (sc0:=au s_law_joined) (N0:=["_law_web_here", "_law_some_here", "_law_mark", "_law_a", "_law_b", "_law_gone", "_law_place", "_law_marks", "_law_found"]) (N:=["_law_place"]) (fr:=[none]) rfl rfl (by decide +kernel)) (cL (wv 1)) (λ_=>⟨(aI (i:=0) (by decide) (show (["_law_place"]:List Str).Nodup by decide +kernel) rfl (IL rfl)),g9,(dU (av (wv 0) (ai (wv 0))))⟩)))))
  (ao (dI Iu rfl (cL (aS hU (wv 0) ak (λ_ _=>rfl))) (mq 2 rfl (cQ (aI (i:=3) (by decide) sc_law_joined.nd rfl (IL rfl)) (cQ (aI (i:=4) (by decide) sc_law_joined.nd rfl (IL rfl)) jB))) (az (eY (iO (jT (zw hU (wv 3) (wv 2)) (jT (zw hU (wv 4) (wv 2)) (kM (bH (n9 hU) (aS hU (wv 2) (wv 3) (λ_ _=>rfl)) (aS hU (wv 2) (wv 4) (λ_ _=>rfl)) (aX _)))))) (ao (aU (i:=5) (by decide) sc_law_joined.nd rfl (IL rfl) (aS hU (wv 2) (wv 4) (λ_ _=>rfl)))
  (az (dI Iu rfl (cL (wv 1)) (aI (i:=6) (by decide) sc_law_joined.nd rfl (IL rfl)) (az (eY (bH (gW hU) (aS hU (wv 2) (wv 6) (λ_ _=>rfl)) (wv 5) (aX _)) (az (jV 2 hU (pv 2) (wv 6) (aS hU (wv 2) (wv 3) (λ_ _=>rfl)) rfl (λ_ _ h1 h2=>gS h1 h2) (λ_ _ h1 h2=>jM h1 h2 set_list))) bZ))))) bZ)))
  (ao (aU (i:=7) (by decide) sc_law_joined.nd rfl (IL rfl) (uq rfl hU rfl T.z_sorted rfl T.z_set (ai (Ac rfl rfl T.z_list (wv 2)))))
  (ao (zL 7 (i1:=8) 1 [1,2] (pv 7) (by decide) sc_law_joined.nd rfl rfl rfl rfl rfl (eF.of (sc0:=au s_law_joined) (N0:=["_law_web_here", "_law_some_here", "_law_mark", "_law_a", "_law_b", "_law_gone", "_law_place", "_law_marks", "_law_found"]) (N:=["_law_one", "_law_some_here", "_law_mark"]) (fr:=[none,some 1,some 2]) rfl rfl (by decide +kernel)) (cL (wv 7)) (λ_=>⟨(aI (i:=0) (by decide) (show (["_law_one", "_law_some_here", "_law_mark"]:List Str).Nodup by decide +kernel) rfl (KZ rfl)),g9,(iP dw rfl T.z_tuple (by decide +kernel) (ai (zK 1 1 [0,2] (pv 1) rfl rfl rfl (bh.of (sc0:=_) (N0:=["_law_one", "_law_some_here", "_law_mark"]) (N:=["_law_place", "_law_one", "_law_mark"]) (fr:=[none,some 0,some 2]) rfl rfl (by kernel_rfl)) (cL (wv 1)) (λ_=>⟨(aI (i:=0) (by decide) (show (["_law_place", "_law_one", "_law_mark"]:List Str).Nodup by decide +kernel) rfl (IL rfl)),(zA (bH (gW hU) (aS hU (wv 2) (wv 0) (λ_ _=>rfl)) (wv 1) (aX _))),(wv 0)⟩))))⟩))
  (az (bI (iP dw rfl T.z_tuple (by decide +kernel) (ai (bX (gb rfl) rfl T.z_sorted (by decide +kernel) (ai (wv 8))))))))))))
noncomputable abbrev s_law:Stmt:=top 14
theorem sc_law:bB ["_law_script", "_law_k", "_law_left_here", "_law_web_here", "_law_some_here", "_law_due", "_law_again", "_law_one", "_law_place"] ["_law_script"] (au s_law):=⟨rfl,rfl,rfl,by decide +kernel,rfl,by decide +kernel,by decide +kernel⟩
theorem ok_law(Fn:nV K "law" "law" s_law f fd)(T:Txt mg)(C_hangs:bz P w K mg base "hangs" ["web", "some"] 3 (d8 K FF.cE))(C_pieces:bz P w K mg base "pieces" ["web", "some"] 2 (d8 K FF.br))(C_law_some:bz P w K mg base "_law_some" ["_law_left_here", "_law_places"] 2 (d8 K FF.aW))(C_law_same:bz P w K mg base "_law_same" ["_law_found", "_law_due"] 5 (d8 K (FF.aD 4)))(C_law_joined:bz P w K mg base "_law_joined" ["_law_web_here", "_law_some_here"] 1 (d8 K FF.bK))(C_law_strung:bz P w K mg base "_law_strung" ["_law_left_here", "_law_web_here"] 2 (d8 K FF.aZ))(C_law_web:bz P w K mg base "_law_web" ["_law_left_here", "_law_most"] 2 (d8 K FF.cJ))(C_law_left:bz P w K mg base "_law_left" ["_law_script", "_law_k"] 2 (d8 K FF.bQ)):cY P w K mg base j6 6 f fd ["_law_script"] (d8 K FF.mU) :=
 cH [true] Fn sc_law rfl λcdv A outer s H E hr=>(by
  have hU:=hr.units;have hG:=hr.gd;exact(ao (dI Iu rfl (iB rfl T.z_range (ai (aN cC ak (bX (yY rfl) rfl T.z_min (by decide +kernel) (av ak (ai (bX cW rfl T.z_len (by decide +kernel) (ai (wv 0))))))))) (aI (i:=1) (by decide) sc_law.nd rfl (IL rfl)) (ao (aU (i:=2) (by decide) sc_law.nd rfl (KZ rfl) (bY C_law_left hr rfl (av (wv 0) (ai (wv 1)))))
  (ao (aU (i:=3) (by decide) sc_law.nd rfl (KZ rfl) (bY C_law_strung hr rfl (av (wv 2) (ai (bY C_law_web hr rfl (av (wv 2) (ai ak)))))))
  (ao (dI Iu rfl (cL (aN cC (vn 1 [2,3] rfl rfl rfl (bh.of (sc0:=au s_law) (N0:=["_law_script", "_law_k", "_law_left_here", "_law_web_here", "_law_some_here", "_law_due", "_law_again", "_law_one", "_law_place"]) (N:=["_law_turn", "_law_left_here", "_law_web_here"]) (fr:=[none,some 2,some 3]) rfl rfl (by decide +kernel)) (iB rfl T.z_range (ai ak)) (λ_=>⟨(aI (i:=0) (by decide) (show (["_law_turn", "_law_left_here", "_law_web_here"]:List Str).Nodup by decide +kernel) rfl (IL rfl)),g9,(bY C_law_some hr rfl (av (wv 1) (ai (aS hU (wv 2) ak (λ_ _=>rfl)))))⟩)) (fQ (av (dU jU) (ai (aS hU (wv 3) ak (λ_ _=>rfl))))))) (aI (i:=4) (by decide) sc_law.nd rfl (IL rfl)) (ao (aU (i:=5) (by decide) sc_law.nd rfl (IL rfl) (bY C_law_joined hr rfl (av (wv 3) (ai (wv 4)))))
  (az (dI Iu rfl (iB rfl T.z_range (ai ak)) (aI (i:=6) (by decide) sc_law.nd rfl (IL rfl)) (ao (aU (i:=7) (by decide) sc_law.nd rfl (IL rfl) (bY C_hangs hr rfl (av (wv 3) (ai (wv 4)))))
  (az (eY (iO (mh (tV (qj (bY C_law_same hr rfl (av (bY C_pieces hr rfl (av (wv 3) (ai (wv 4)))) (ai (wv 5)))))) (mh (tV (qj (mj "bool" (by decide) (by decide) rfl T.z_isinstance (by decide +kernel) (wv 7) (jg (v:=.ty "bool") rfl T.z_bool (by decide +kernel) rfl)))) (jS (bH (n9 hU) (wv 7) (qi (gW hU) (bX cW rfl T.z_len (by decide +kernel) (ai (wv 5))) ak (aX _)) (aX _)))))) (az (bI l0)) bZ)))))))
  (az (dI Iu rfl (cL (aS hU (wv 3) ak (λ_ _=>rfl))) (aI (i:=8) (by decide) sc_law.nd rfl (IL rfl)) (az (eY (iO (mh (bH (n9 hU) (bY C_pieces hr rfl (av (wv 3) (ai (dU (ai (wv 8)))))) (dU (ai (dU (ai (wv 8))))) (aX _)) (jS (bH Bt (bY C_hangs hr rfl (av (wv 3) (ai (dU (ai (wv 8)))))) l0 (aX _))))) (az (bI l0)) bZ))))))))
  (az (bI l0))))
end
end Lk03
end
section
namespace PA
open PySem L2 VL
noncomputable abbrev ck(g q c:Int):M:=.lst [.int g,.int q,.int c]
theorem pick(g q c m:Int)(hg:0<=g)(hm:0<m)(hm2:m<1073741824):∃r g' q' c':Int,0<=r/\r<m/\0<=g'/\FF.aq [ck g q c,.v (.int m)]=some (.v (.int r),[ck g' q' c',.v (.int m)]):=by
 by_cases h:0<g
 ·refine⟨g % m,g / m,q,c,Ky _ (by lia),L3 _ hm,Int.ediv_nonneg hg (Int.le_of_lt hm),?_⟩
  simp[FF.aq,FF.dZ,fG,jf,qH,h,hm,hm2]
 ·have hb:∀x:Int,(-18446744073709551616<x % 2147483647/\x % 2147483647<18446744073709551616):=λx=>by lia
  generalize hx:(q*69621+12345+101*(c+1)) % 2147483647=x;have hx' : -18446744073709551616<x/\x<18446744073709551616:=hx▸hb _;refine⟨x*(x % 40009+7) % 2147483629 / 64 % m,g,x,c+1,Ky _ (by lia),L3 _ hm,hg,?_⟩
  simp[FF.aq,FF.dZ,fG,jf,qH,h,hm,hm2,hx,hx']
theorem jk{α:Type}{xs:List α}{i:Int}(h0:0<=i)(h1:i<(xs.length:Int)):∃x,x∈xs/\jf xs i=some x:=by
 obtain⟨k,rfl⟩:=Oi h0;have hk:k<xs.length:=by lia
 exact⟨xs[k],IV hk,pg (Bn hk)⟩
theorem fj{ns:List Int}{i:Int}(h0:0<=i)(h1:i<(ns.length:Int)):∃n,n∈ns/\jf (ns.map J3) i=some (.int n):=by
 obtain⟨d,h,e⟩:=jk (xs:=ns.map J3) h0 (by rw[BM]; exact h1)
 obtain⟨n,hn,rfl⟩:=Hd.mp h;exact⟨n,hn,e⟩
theorem cell(ns:List Int)(k:Int)(hl:ns.length<=63):∃n:Int,FF.bP [.v (.list (ns.map .int)),.v (.int k)]=some (.v (.int n),[.v (.list (ns.map .int)),.v (.int k)]):=by
 by_cases h:ns.length=0
 ·refine⟨0,?_⟩
  simp[FF.bP,FF.dW,fG,h]
 ·have h0:(0:Int)<ns.length:=by lia
  obtain⟨n,hn,e⟩:=fj (ns:=ns) (Ky k (by lia)) (L3 k h0)
  refine⟨n,?_⟩;have hn':0<ns.length:=by lia
  simp[FF.bP,FF.dW,fG,h,hn',e]
theorem qv{a b:Int}(h:0<=b/\(M3 a:Int)*b<=2 ^ 27):qY (.v (.int a)) (.v (.int b))=some (.v (.int (a ^ b.toNat))):=if_pos (decide_eq_true h)
theorem pows:∃A B C:Int,0<B/\qY (.v (.int 10)) (.v (.int 50))=some (.v (.int A))/\qY (.v (.int A)) (.v (.int 8))=some (.v (.int B))/\qY (.v (.int 10)) (.v (.int 18))=some (.v (.int C)) :=
 ⟨_,_,_,by decide +kernel,qv ⟨by decide,by decide +kernel⟩,qv ⟨by decide,by decide +kernel⟩,qv ⟨by decide,by decide +kernel⟩⟩
theorem left(ns:List Int)(k:Int)(hl:ns.length<=63)(hk0:0<=k)(hk:k<=100):∃g q c:Int,0<=g/\FF.bQ [.v (.list (ns.map .int)),.v (.int k)]=some (ck g q c,[.v (.list (ns.map .int)),.v (.int k)]):=by
 obtain⟨n,e⟩:=cell ns k hl;obtain⟨A,B,C,hB,e1,e2,e3⟩:=pows;have hk' : -18446744073709551616<k/\k<18446744073709551616:=by lia
 generalize hx:(if n<0 then -n else n)=x
 have hb : -18446744073709551616<(if C<=x then (1:Int) else 0)/\(if C<=x then (1:Int) else 0)<18446744073709551616/\0<=(if C<=x then (1:Int) else 0):=by split <;> lia
 refine⟨x % B*(if C<=x then 1 else 0),(n % 2147483629+7919*k*k+17)*48271 % 2147483647,0,Int.mul_nonneg (Ky _ (by lia)) hb.2.2,?_⟩
 simp[FF.bQ,FF.gJ,fG,e,e1,e2,e3,hB,hx,lim,hb.1,hb.2.1,hk']
noncomputable abbrev pD(p:Int×Int):B2:=.tuple [.int p.1,.int p.2]
noncomputable abbrev tD(ts:List (Int×Int)):B2:=.tuple (ts.map pD)
noncomputable abbrev wD(ps:List Int)(ts:List (Int×Int)):B2:=.tuple [tI ps,tD ts]
noncomputable abbrev enc(t:Int×Int):List Int:=[t.1,t.2]
noncomputable def dec(k:List Int):Int×Int:=(k.getD 0 0,k.getD 1 0)
noncomputable def kC(ts:List (Int×Int)):List (Int×Int):=(kh (ts.map enc)).map dec
theorem sj(ts:List (Int×Int)):(ts.map enc).map dec=ts:=by rw[Hk]; exact PB ts
theorem oW(ts:List (Int×Int)):kh (ts.map enc)=(kC ts).map enc:=by
 unfold kC;rw[Hk];refine(PB _).symm.trans (IN λk hk=>?_)
 have hk:=(cV HT.lexLt (ts.map enc)).mem_iff.mp hk;obtain⟨t,_,rfl⟩:=Hd.mp hk;rfl
theorem gG(ts:List (Int×Int)):(kC ts).Perm ts:=by
 have h:=(cV HT.lexLt (ts.map enc)).map dec;rw[sj] at h;exact h
def EV(a b:Int×Int):Prop:=a.1<b.1\/(a.1=b.1/\a.2<b.2)
instance (a b:Int×Int):Decidable (EV a b):=by unfold EV; infer_instance
theorem xm(a b:Int×Int):HT.lexLt (enc a) (enc b)=decide (EV a b):=by
 obtain⟨x,y⟩:=a;obtain⟨z,t⟩:=b;unfold enc EV;rw[HT.bN,HT.bN,HT.iI]
 by_cases h1:x=z <;> by_cases h2:y=t <;> by_cases h3:x<z <;> by_cases h4:y<t <;> simp[h1,h2,h3,h4] <;> lia
theorem uu{ts:List (Int×Int)}(nd:ts.Nodup):(kC ts).Pairwise EV:=by
 have h:=gY (lt:=HT.lexLt) cT cX (ts.map enc);rw[show oi HT.lexLt (ts.map enc)=(kC ts).map enc from oW ts,KA] at h
 have nd':(kC ts).Nodup:=(gG ts).nodup_iff.mpr nd;refine Na (λa b h1 h2=>?_) h nd'
 rw[xm] at h1;have h1:=of_decide_eq_false h1;unfold EV at h1 ⊢;obtain⟨x,y⟩:=a;obtain⟨z,t⟩:=b
 by_cases e:x=z
 ·by_cases e2:y=t
  ·exact absurd (by rw[e,e2]) h2
  ·simp only at h1 ⊢; lia
 ·simp only at h1 ⊢; lia
theorem uv(ts:List (Int×Int)):wQ (ts.map pD)=some (ts.map enc):=by
 have h:=qc (ts.map enc);rw[Hk] at h;exact h
theorem uw:∀{ts:List (Int×Int)},ts≠[]->gX (ts.map pD)=none
 |[],h=>absurd rfl h
 |t::ts,_=>rfl
theorem sr{ts:List (Int×Int)}(h:ts.length<64):eU [.lst (ts.map pD)]=some (.lst ((kC ts).map pD)):=by
 show (iN (ts.map pD)).bind _=_;unfold iN;rw[if_pos (by rw[BM]; exact h)]
 by_cases e:ts=[]
 ·subst e; rfl
 ·rw[uw e,uv]
  show (if ((ts.map enc).all λk=> !k.isEmpty)=true then some ((kh (ts.map enc)).map tI) else none).bind _=_
  rw[if_pos (by rw[Oh]; simp),oW,Hk]
  rfl
theorem ux{ns:List Int}(h:ns.length<64):eU [.lst (ns.map .int)]=some (.lst ((sortI ns).map .int)):=by
 show (iN (ns.map .int)).bind _=_;unfold iN;rw[if_pos (by rw[BM]; exact h),fZ]
 rfl
theorem sortI_perm(ns:List Int):(sortI ns).Perm ns:=cV _ _
theorem Ak(ns:List Int):(sortI ns).Pairwise (·<=·):=by
 refine(gY (lt:=ltI) (λa b h=>?_) (λa b c h1 h2=>?_) ns).imp λh=>?_
 ·have h:=of_decide_eq_true h; exact decide_eq_false (by lia)
 ·have h1:=of_decide_eq_false h1
  have h2:=of_decide_eq_false h2;exact decide_eq_false (by lia)
 ·have h:=of_decide_eq_false h; lia
theorem uy{ns:List Int}(nd:ns.Nodup):(sortI ns).Pairwise (· < ·):=by
 refine Na (λa b h1 h2=>?_) (Ak ns) ((sortI_perm ns).nodup_iff.mpr nd)
 lia
structure CZ(ps:List Int)(ts:List (Int×Int)):Prop where
 rise:ps.Pairwise (· < ·)
 rng:∀p∈ps,0<=p/\p<=99
 few:ps.length<=24
 up:ts.Pairwise EV
 lt:∀t∈ts,t.1<t.2
 ends:∀t∈ts,t.1∈ps/\t.2∈ps
 len:ts.length<=60
noncomputable abbrev steps:List Int:=[1,3,7,9,11,13,17,19,21,23,27,29,31,33]
theorem Cn{s:Int}(hs:s∈steps){f i j:Int}(h0:0<=i)(h1:i<j)(h2:j<24):(f+s*(0+i)) % 100≠(f+s*(0+j)) % 100:=by
 simp only[steps,IQ,Hm,or_false] at hs;rcases hs with rfl | rfl | rfl | rfl | rfl | rfl | rfl | rfl | rfl | rfl | rfl | rfl | rfl | rfl <;> lia
noncomputable def Al(f s:Int)(n:Nat):List Int:=(Fu n).map λk:Nat=>(f+s*(0+(k:Int))) % 100
theorem vR(f s:Int)(n:Nat):(Al f s n).length=n:=by unfold Al; rw[BM,JY]
theorem xo{f s:Int}{n:Nat}(hs:s∈steps)(hn:n<=24):(Al f s n).Nodup:=by
 unfold Al List.Nodup;rw[KA];refine List.Pairwise.imp_of_mem ?_ Og;intro a b ha hb hab;rw[JB] at ha hb;exact Cn hs (by lia) (by lia) (by lia)
theorem Co{f s:Int}{n:Nat}:∀p∈Al f s n,0<=p/\p<=99:=by
 intro p hp;unfold Al at hp;obtain⟨k,_,rfl⟩:=Hd.mp hp;lia
theorem su{ps:List Int}(rise:ps.Pairwise (· < ·)){i:Nat}{pl:Int}(hpl:ps[i]? = some pl):pl∉ps.take i:=λz=>by
 obtain⟨hi,e2⟩:=DD.mp hpl;obtain⟨j,hj⟩:=List.mem_iff_getElem?.mp z;rw[List.getElem?_take] at hj
 split at hj
 ·rename_i hji
  have:=(Ij.mp rise) j i (by lia) hi hji
  obtain⟨_,e1⟩:=DD.mp hj;lia
 ·cases hj
theorem take_snoc{ps:List Int}{i:Nat}{pl:Int}(hpl:ps[i]? = some pl):ps.take (i+1)=ps.take i++[pl]:=by rw[List.take_add_one,hpl]; rfl
structure sH(ps:List Int)(i j:Nat)(tys:List (Int×Int)):Prop where
 nd:tys.Nodup
 lt:∀t∈tys,t.1<t.2
 ends:∀t∈tys,t.1∈ps/\t.2∈ps
 len:tys.length<=60
 seen:∀t∈tys,t.2∈ps.take i\/(ps[i]? = some t.2/\t.1∈ps.take j)
theorem sH.zero{ps:List Int}:sH ps 0 0 []:=⟨JL,λt h=>by simp at h,λt h=>by simp at h,Hn _,λt h=>by simp at h⟩
theorem sH.skip{ps:List Int}{i j:Nat}{tys:List (Int×Int)}(S:sH ps i j tys){a:Int}(ha:ps[j]? = some a):sH ps i (j+1) tys :=
 ⟨S.nd,S.lt,S.ends,S.len,λt ht=>(S.seen t ht).imp id λ⟨h1,h2⟩=>⟨h1,by rw[take_snoc ha]; exact lL _ h2⟩⟩
theorem sH.row{ps:List Int}{i:Nat}{tys:List (Int×Int)}(S:sH ps i ps.length tys){b:Int}(hb:ps[i]? = some b):sH ps (i+1) 0 tys:=by
 refine⟨S.nd,S.lt,S.ends,S.len,λt ht=>.inl ?_⟩
 rw[take_snoc hb];rcases S.seen t ht with h | ⟨h,_⟩
 ·exact lL _ h
 ·rw[hb] at h
  cases h;exact lR _ (D1.mpr rfl)
theorem sH.add{ps:List Int}{i j:Nat}{tys:List (Int×Int)}(S:sH ps i j tys)(rise:ps.Pairwise (· < ·)){a b:Int}(ha:ps[j]? = some a)(hb:ps[i]? = some b)(h:a<b)(hl:tys.length<60):sH ps i (j+1) (tys++[(a,b)]):=by
 have no:(a,b)∉tys:=λz=>by
  rcases S.seen _ z with h | ⟨_,h⟩
  ·exact su rise hb h
  ·exact su rise ha h
 refine⟨?_,λt ht=>?_,λt ht=>?_,?_,λt ht=>?_⟩
 ·rw[FM]
  refine⟨S.nd,IM.mpr ⟨by simp,JL⟩,λx hx y hy e=>?_⟩
  rw[D1] at hy;subst hy e;exact no hx
 ·rcases lM ht with h' | h'
  ·exact S.lt t h'
  ·rw[D1] at h'; subst h'; exact h
 ·rcases lM ht with h' | h'
  ·exact S.ends t h'
  ·rw[D1] at h'; subst h'; exact⟨IS ha,IS hb⟩
 ·rw[FB,Jh]; lia
 ·rw[take_snoc ha]
  rcases lM ht with h' | h'
  ·exact(S.seen t h').imp id λ⟨h1,h2⟩=>⟨h1,lL _ h2⟩
  ·rw[D1] at h'; subst h'; exact .inr ⟨hb,lR _ (D1.mpr rfl)⟩
theorem jY(n:Nat):bV 0 (n:Int)=(Fu n).map λk:Nat=>J3 (0+(k:Int)):=by
 unfold bV;rw[Int.sub_zero,JZ]
theorem iD{fe:FE}{cs:Ev}{f:B2->B2}:∀(ds acc:List B2)(x:Option M),(∀d∈ds,∃o,fe (some (.v d)::cs)=some (o,some (.v d)::cs)/\cU o (some (.v d)::cs)=some (f d,some (.v d)::cs))->acc.length+ds.length<=lim ->
  ∃y,cg (ah 0) dS fe ds (x::cs) acc=some (acc++ds.map f,y::cs)
 |[],acc,x,_,_=>⟨x,by rw[MB,EQ]; rfl⟩
 |d::ds,acc,x,h,hl=>by
  obtain⟨o,e1,e2⟩:=h d lS;rw[Bz] at hl;obtain⟨y,e3⟩:=iD (fe:=fe) (cs:=cs) (f:=f) ds (acc++[f d]) (some (.v d)) (λd' hd=>h d' (lO _ hd)) (by rw[FB,Jh]; lia)
  refine⟨y,?_⟩;show (ah 0 d (x::cs)).bind _=_;rw[show ah 0 d (x::cs)=some (some (.v d)::cs) by simp]
  show (fe (some (.v d)::cs)).bind _=_;rw[e1];show (cU o (some (.v d)::cs)).bind _=_;rw[e2];show (if acc.length<lim then _ else _)=_
  rw[if_pos (by lia)]
  rw[show cg (ah 0) dS fe ds (some (.v d)::cs) (acc++[f d])=_ from e3,FC,Bi]
  rfl
theorem iT{α β:Type}{f:α->β}{xs:List α}{i:Nat}{d:β}{ds:List β}(h:d::ds=(xs.drop i).map f):∃x,xs[i]? = some x/\d=f x/\ds=(xs.drop (i+1)).map f:=by
 have hi:i<xs.length:=by
  rcases NJ i xs.length with h1 | h1
  ·exact h1
  ·rw[List.drop_eq_nil_of_le h1] at h; cases h
 rw[Iy hi,FC] at h
 injection h with h1 h2
 exact⟨xs[i],Bn hi,h1,h2⟩
theorem HX(g q c most:Int)(hg:0<=g)(h3:3<=most)(h24:most<=24):∃ps ts g' q' c',0<=g'/\CZ ps ts/\FF.cJ [ck g q c,.v (.int most)]=some (.v (wD ps ts),[ck g' q' c',.v (.int most)]):=by
 obtain⟨r1,g1,q1,c1,a1,b1,k1,e1⟩:=pick g q c 5 hg (by decide) (by decide)
 obtain⟨r2,g2,q2,c2,a2,b2,k2,e2⟩:=pick g1 q1 c1 4 k1 (by decide) (by decide)
 obtain⟨r3,g3,q3,c3,a3,b3,k3,e3⟩:=pick g2 q2 c2 (most-2) k2 (by lia) (by lia)
 obtain⟨r4,g4,q4,c4,a4,b4,k4,e4⟩:=pick g3 q3 c3 100 k3 (by decide) (by decide)
 obtain⟨r5,g5,q5,c5,a5,b5,k5,e5⟩:=pick g4 q4 c4 14 k4 (by decide) (by decide)
 obtain⟨often,of1,of2⟩:=fj (ns:=[1,2,3,7]) a2 b2;obtain⟨many,ma1,ma2⟩:=fj (ns:=[0,1,2,most,3+r3]) a1 b1;obtain⟨st,st1,st2⟩:=fj (ns:=steps) a5 b5;have hof:0<often/\often<1073741824:=by
  simp only[IQ,Hm,or_false] at of1;lia
 have hma:0<=many/\many<=24:=by
  simp only[IQ,Hm,or_false] at ma1;lia
 obtain⟨n,rfl⟩:=Oi hma.1;have hst : -18446744073709551616<st/\st<18446744073709551616:=by
  simp only[steps,IQ,Hm,or_false] at st1;omega
 have of2:jf [J3 1,.int 2,.int 3,.int 7] r2=some (.int often):=of2;have ma2:jf [J3 0,.int 1,.int 2,.int most,.int (3+r3)] r1=some (.int (n:Int)):=ma2;have st2:jf [J3 1,.int 3,.int 7,.int 9,.int 11,.int 13,.int 17,.int 19,.int 21,.int 23,.int 27,.int 29,.int 31,.int 33] r5=some (.int st):=st2;have hsm:lW (n:Int)=true:=decide_eq_true (by unfold zg; lia)
 obtain⟨y,ec⟩:=iD (fe:=vB gV (vB cB (aa 1) (vB mulM (aa 2) (aa 0))) (vC (.int 100))) (cs:=[some (.v (.int r4)),some (.v (.int st))]) (f:=λd=>match d with | .int k=>.int ((r4+st*k) % 100) | _=>.none) (bV 0 (n:Int)) [] none (λd hd=>by
  rw[jY] at hd;obtain⟨k,hk,rfl⟩:=Hd.mp hd;refine⟨.t (.v (.int ((r4+st*(0+(k:Int))) % 100))),?_,rfl⟩;simp[hst]) (by rw[jY,BM,JY,Ic]; unfold lim; lia)
 have emap:(bV 0 (n:Int)).map (λd=>match d with | .int k=>J3 ((r4+st*k) % 100) | _=>.none)=(Al r4 st n).map .int:=by
  rw[jY,Hk];unfold Al;rw[Hk];rfl
 rw[emap,Im] at ec;have hn24:n<=24:=by lia
 have nd:=xo (f:=r4) st1 hn24;generalize hps:sortI (Al r4 st n)=ps;have pm:ps.Perm (Al r4 st n):=hps▸sortI_perm _;have rise:ps.Pairwise (· < ·):=hps▸uy nd;have hlen:ps.length=n:=by rw[pm.length_eq,vR]
 have es:=ux (ns:=Al r4 st n) (by rw[vR]; lia)
 rw[hps] at es;have inner:∀(i:Nat)(b:Int)(g q c:Int)(tys:List (Int×Int))(x:Option M),0<=g->ps[i]? = some b->sH ps i 0 tys->∃g' q' c' tys' x',0<=g'/\sH ps (i+1) 0 tys' /\
   forL (ah 10) (cP (fu (aG (vB tK (aa 10) (aa 9))) (fu (aG (vB tK (cF cK (af (aa 8))) (vC (.int 60)))) (aG (vB (dD false) (dQ FF.aq (aj (aa 0) (af (aa 3)))) (vC (.int 0)))))) (eW (kF 8 (af (di (aj (aa 10) (af (aa 9))))))) bg) (ps.map .int)
    [some (ck g q c),some (.v (.int most)),some (.v (.int r1)),some (.v (.int often)),some (.v (.int (n:Int))),some (.v (.int r4)),some (.v (.int st)),some (.v (.list (ps.map .int))),some (.lst (tys.map pD)),some (.v (.int b)),x]
   = some (.nx [some (ck g' q' c'),some (.v (.int most)),some (.v (.int r1)),some (.v (.int often)),some (.v (.int (n:Int))),some (.v (.int r4)),some (.v (.int st)),some (.v (.list (ps.map .int))),some (.lst (tys'.map pD)),some (.v (.int b)),x']):=λi b g q c tys x hg hb hT=>by
  obtain⟨ρ',e,h⟩:=cz (fg:=ah 10) (fb:=cP (fu (aG (vB tK (aa 10) (aa 9))) (fu (aG (vB tK (cF cK (af (aa 8))) (vC (.int 60)))) (aG (vB (dD false) (dQ FF.aq (aj (aa 0) (af (aa 3)))) (vC (.int 0)))))) (eW (kF 8 (af (di (aj (aa 10) (af (aa 9))))))) bg)
   (P:=λds ρ=>∃j g q c tys x,ds=(ps.drop j).map J3/\j<=ps.length/\0<=g/\sH ps i j tys/\ρ=[some (ck g q c),some (.v (.int most)),some (.v (.int r1)),some (.v (.int often)),some (.v (.int (n:Int))),some (.v (.int r4)),some (.v (.int st)),some (.v (.list (ps.map .int))),some (.lst (tys.map pD)),some (.v (.int b)),x]) (ps.map .int) _ ⟨0,g,q,c,tys,x,rfl,Hn _,hg,hT,rfl⟩ (λd ds ρ hP=>by
    obtain⟨j,g,q,c,tys,x,hds,hj,hg,hT,rfl⟩:=hP;obtain⟨a,ha,rfl,hds'⟩:=iT hds;have hj':j+1<=ps.length:=(DD.mp ha).1;obtain⟨r,g',q',c',ra,rb,rg,re⟩:=pick g q c often hg hof.1 hof.2;have hlim:tys.length<1000000:=by have:=hT.len; lia
    by_cases h1:a<b
    ·by_cases h2:tys.length<60
     ·by_cases h3:r=0
      ·refine⟨_,[some (ck g' q' c'),some (.v (.int most)),some (.v (.int r1)),some (.v (.int often)),some (.v (.int (n:Int))),some (.v (.int r4)),some (.v (.int st)),some (.v (.list (ps.map .int))),some (.lst ((tys++[(a,b)]).map pD)),some (.v (.int b)),some (.v (.int a))],rfl,?_,j+1,g',q',c',tys++[(a,b)],some (.v (.int a)),hds',hj',rg,hT.add rise ha hb h1 h2,rfl⟩
       subst h3;have h2':(tys.length:Int)<60:=by lia
       simp[h1,h2',re,hlim,lim]
      ·refine⟨_,[some (ck g' q' c'),some (.v (.int most)),some (.v (.int r1)),some (.v (.int often)),some (.v (.int (n:Int))),some (.v (.int r4)),some (.v (.int st)),some (.v (.list (ps.map .int))),some (.lst (tys.map pD)),some (.v (.int b)),some (.v (.int a))],rfl,?_,j+1,g',q',c',tys,some (.v (.int a)),hds',hj',rg,hT.skip ha,rfl⟩
       have h2':(tys.length:Int)<60:=by lia
       simp[h1,h2',re,h3]
     ·refine⟨_,[some (ck g q c),some (.v (.int most)),some (.v (.int r1)),some (.v (.int often)),some (.v (.int (n:Int))),some (.v (.int r4)),some (.v (.int st)),some (.v (.list (ps.map .int))),some (.lst (tys.map pD)),some (.v (.int b)),some (.v (.int a))],rfl,?_,j+1,g,q,c,tys,some (.v (.int a)),hds',hj',hg,hT.skip ha,rfl⟩
      have h2':¬ (tys.length:Int)<60:=by lia
      simp[h1,h2']
    ·refine⟨_,[some (ck g q c),some (.v (.int most)),some (.v (.int r1)),some (.v (.int often)),some (.v (.int (n:Int))),some (.v (.int r4)),some (.v (.int st)),some (.v (.list (ps.map .int))),some (.lst (tys.map pD)),some (.v (.int b)),some (.v (.int a))],rfl,?_,j+1,g,q,c,tys,some (.v (.int a)),hds',hj',hg,hT.skip ha,rfl⟩
     simp[h1])
  obtain⟨j,g',q',c',tys',x',hds,hj,hg',hT',rfl⟩:=h;have hj:j=ps.length:=by
   have:=congrArg MW hds;rw[Ic,BM,IA] at this;lia
  subst hj;exact⟨g',q',c',tys',x',hg',hT'.row hb,e⟩
 obtain⟨ρ',eo,ho⟩:=cz (fg:=ah 9) (fb:=eE (bR (aa 7)) (ah 10) (cP (fu (aG (vB tK (aa 10) (aa 9))) (fu (aG (vB tK (cF cK (af (aa 8))) (vC (.int 60)))) (aG (vB (dD false) (dQ FF.aq (aj (aa 0) (af (aa 3)))) (vC (.int 0)))))) (eW (kF 8 (af (di (aj (aa 10) (af (aa 9))))))) bg))
  (P:=λds ρ=>∃i g q c tys x9 x10,ds=(ps.drop i).map J3/\i<=ps.length/\0<=g/\sH ps i 0 tys/\ρ=[some (ck g q c),some (.v (.int most)),some (.v (.int r1)),some (.v (.int often)),some (.v (.int (n:Int))),some (.v (.int r4)),some (.v (.int st)),some (.v (.list (ps.map .int))),some (.lst (tys.map pD)),x9,x10]) (ps.map .int) _ ⟨0,g5,q5,c5,[],none,none,rfl,Hn _,k5,sH.zero,rfl⟩ (λd ds ρ hP=>by
   obtain⟨i,g,q,c,tys,x9,x10,hds,hi,hg,hT,rfl⟩:=hP;obtain⟨b,hb,rfl,hds'⟩:=iT hds;obtain⟨g',q',c',tys',x',hg',hT',e⟩:=inner i b g q c tys x10 hg hb hT;exact⟨_,_,rfl,e,i+1,g',q',c',tys',_,x',hds',(DD.mp hb).1,hg',hT',rfl⟩)
 obtain⟨i,g',q',c',tys,x9,x10,hds,hi,hg',hT,rfl⟩:=ho;refine⟨ps,kC tys,g',q',c',hg',⟨rise,λp hp=>Co p (pm.mem_iff.mp hp),by lia,uu hT.nd,λt ht=>hT.lt t ((gG tys).mem_iff.mp ht),λt ht=>hT.ends t ((gG tys).mem_iff.mp ht),by rw[(gG tys).length_eq]; exact hT.len⟩,?_⟩
 have et:=sr (ts:=tys) (by have:=hT.len; lia)
 refine gB (ρ:=[some (ck g' q' c'),some (.v (.int most)),some (.v (.int r1)),some (.v (.int often)),some (.v (.int (n:Int))),some (.v (.int r4)),some (.v (.int st)),some (.v (.list (ps.map .int))),some (.lst (tys.map pD)),x9,x10]) rfl ?_ rfl;show FF.ir [some (ck g q c),some (.v (.int most)),none,none,none,none,none,none,none,none,none]=_;refine(aK (ρ1:=[some (ck g2 q2 c2),some (.v (.int most)),some (.v (.int r1)),some (.v (.int often)),none,none,none,none,none,none,none]) (by simp[e1,e2,lim,of2])).trans ?_
 refine(aK (ρ1:=[some (ck g3 q3 c3),some (.v (.int most)),some (.v (.int r1)),some (.v (.int often)),some (.v (.int (n:Int))),none,none,none,none,none,none]) (by simp[e3,lim,ma2])).trans ?_
 refine(aK (ρ1:=[some (ck g4 q4 c4),some (.v (.int most)),some (.v (.int r1)),some (.v (.int often)),some (.v (.int (n:Int))),some (.v (.int r4)),none,none,none,none,none]) (by simp[e4])).trans ?_
 refine(aK (ρ1:=[some (ck g5 q5 c5),some (.v (.int most)),some (.v (.int r1)),some (.v (.int often)),some (.v (.int (n:Int))),some (.v (.int r4)),some (.v (.int st)),none,none,none,none]) (by simp[e5,lim,st2])).trans ?_
 refine(aK (ρ1:=[some (ck g5 q5 c5),some (.v (.int most)),some (.v (.int r1)),some (.v (.int often)),some (.v (.int (n:Int))),some (.v (.int r4)),some (.v (.int st)),some (.lst (ps.map .int)),none,none,none]) (by simp[hsm,ec,es])).trans ?_
 refine(aK (ρ1:=[some (ck g5 q5 c5),some (.v (.int most)),some (.v (.int r1)),some (.v (.int often)),some (.v (.int (n:Int))),some (.v (.int r4)),some (.v (.int st)),some (.lst (ps.map .int)),some (.lst []),none,none]) (by simp[lim])).trans ?_
 refine(aK (ρ1:=_) (show _=_ from eo)).trans ?_
 simp[et,lim,tI]
end PA
end
section
open PySem L2 VL
end
section
namespace PQ
open PySem L2 VL PA
theorem xq(ds:List B2)(k:Nat):cutD ds none (some (k:Int))=ds.take k:=by
 unfold cutD;rw[HT.qG,HT.uG,Ox,KN]
 by_cases h:k<=ds.length
 ·rw[Nz h]
 ·rw[Nat.min_eq_right (by lia),Jm,K0 (by lia)]
end PQ
end
section
namespace PS
open PySem L2 VL PA PQ
def Nm(a b:Int)(ds:List B2):Prop:=∀d∈ds,∃k:Int,d=.int k/\a<=k/\k<b
theorem mV(a b:Int):Nm a b (bV a b):=λd hd=>by
 unfold bV at hd;obtain⟨k,hk,rfl⟩:=Hd.mp hd;have:=JB.mp hk;exact⟨a+k,rfl,by lia,by lia⟩
theorem mW(a b:Int):(bV a b).length=(b-a).toNat:=by unfold bV; rw[BM,JY]
theorem small{k:Int}(h : -1000<=k/\k<=1000):lW k=true:=decide_eq_true (by unfold zg; lia)
end PS
end
section
namespace PA
open PySem L2 VL
@[simp] theorem cls_none:lV (.v .none) = "NoneType" := rfl
@[simp] theorem cls_bool{b:Bool}:lV (.v (.bool b)) = "bool" := rfl
@[simp] theorem cls_int{b:Int}:lV (.v (.int b)) = "int" := rfl
@[simp] theorem cls_str{b:Str}:lV (.v (.str b)) = "str" := rfl
@[simp] theorem cls_tup{b:List B2}:lV (.v (.tuple b)) = "tuple" := rfl
@[simp] theorem cls_list{b:List B2}:lV (.v (.list b)) = "list" := rfl
@[simp] theorem cls_dict{b:List (B2×B2)}:lV (.v (.dict b)) = "dict" := rfl
end PA
end
section
namespace PS
open PySem L2 VL PA PQ
section
variable{n md mo:Int}{ρ:Ev}(h0:0<=n)(hn:n<=24)(m0:0<=md)(m1:md<7)
include h0 hn m0 m1
end
end PS
end
section
open PySem L2 VL
end
section
namespace PQ
open PySem L2 VL PA
theorem sy{ns ns':List Int}(p:ns'.Perm ns)(s:ns.Pairwise (· < ·)):sortI ns'=ns:=(lT p.symm (s.imp λh=>Int.le_of_lt h)).symm
theorem ci:∀(ns:List Int),Il (ns.map .int)=true
 |[]=>rfl
 |n::ns=>by show (ML (.int n) && Il (ns.map .int))=true; rw[ci ns]; rfl
theorem sA{ft:FT}{fe:FE}{cs:Ev}{p:Int->Bool}{f:Int->B2}:∀(ns:List Int)(acc:List B2)(x:Option M),(∀n∈ns,ft (some (.v (.int n))::cs)=some (p n,some (.v (.int n))::cs)/\∃o,fe (some (.v (.int n))::cs)=some (o,some (.v (.int n))::cs)/\cU o (some (.v (.int n))::cs)=some (f n,some (.v (.int n))::cs))->acc.length+ns.length<=lim ->
  ∃y,cg (ah 0) ft fe (ns.map .int) (x::cs) acc=some (acc++(ns.filter p).map f,y::cs):=by
 intro ns
 induction ns with
 |nil=>
  intro acc x _ _;exact⟨x,by simp[cg]⟩
 |cons n ns ih=>
  intro acc x h hl;obtain⟨e0,o,e1,e2⟩:=h n lS;rw[Bz] at hl;have hg:ah 0 (.int n) (x::cs)=some (some (.v (.int n))::cs):=by simp
  by_cases hp:p n=true
  ·obtain⟨y,e3⟩:=ih (acc++[f n]) (some (.v (.int n))) (λd hd=>h d (lO _ hd)) (by rw[FB,Jh]; lia)
   refine⟨y,?_⟩;rw[LD,if_pos hp,FC];show (ah 0 (.int n) (x::cs)).bind _=_;rw[hg];show (ft (some (.v (.int n))::cs)).bind _=_;rw[e0,hp];show (fe (some (.v (.int n))::cs)).bind _=_;rw[e1];show (cU o (some (.v (.int n))::cs)).bind _=_;rw[e2];show (if acc.length<lim then _ else _)=_
   rw[if_pos (by lia)]
   rw[show cg (ah 0) ft fe (ns.map .int) (some (.v (.int n))::cs) (acc++[f n])=_ from e3,FC,Bi]
   rfl
  ·have hp':p n=false:=by simpa using hp
   obtain⟨y,e3⟩:=ih acc (some (.v (.int n))) (λd hd=>h d (lO _ hd)) (by lia)
   refine⟨y,?_⟩;rw[LD,if_neg hp];show (ah 0 (.int n) (x::cs)).bind _=_;rw[hg];show (ft (some (.v (.int n))::cs)).bind _=_;rw[e0,hp'];exact e3
theorem qw(ns:List Int)(a:Int):((ns.map J3).any λd=>Ju d (.int a))=decide (a∈ns):=by
 rw[ND]
 induction ns with
 |nil=>simp
 |cons m ns ih=>
  rw[Jp,ih];show ((m == a) || _)=_
  by_cases h:m=a
  ·simp[h]
  ·simp[h,Kr h]
theorem in_tI(neg:Bool)(ns:List Int)(a:Int):kL neg (.v (.int a)) (.v (tI ns))=some (.v (.bool (if neg then !decide (a∈ns) else decide (a∈ns)))):=by
 show (if okIn (ns.map .int) (.int a)=true then some (M.v (.bool (if neg then !((ns.map J3).any λd=>Ju d (.int a)) else (ns.map J3).any λd=>Ju d (.int a)))) else none)=_
 rw[qw,if_pos];unfold okIn;rw[ci];rfl
end PQ
end
section
namespace PS
open PySem L2 VL PA PQ
structure Wb(ps:List Int)(ts:List (Int×Int)):Prop where
 rise:ps.Pairwise (· < ·)
 ends:∀t∈ts,t.1∈ps/\t.2∈ps/\t.1<t.2
 few:ts.length<=60
end PS
end
section
namespace PN
open PySem L2 VL PA
theorem oX{fg:FG}{ft:FT}{fk fv:FE}{P:List B2->M->Ev->Prop}:∀(ds:List B2)(ρ:Ev)(acc:M),P ds acc ρ ->
  (∀d ds acc ρ,P (d::ds) acc ρ->∃ρ1 ρ2 kd k ρ3 o ρ4 acc' ρ5,fg d ρ=some ρ1/\ft ρ1=some (true,ρ2)/\fk ρ2=some (.t (.v kd),ρ3)/\dm kd=some k/\fv ρ3=some (o,ρ4)/\zq k acc o ρ4=some (acc',ρ5)/\P ds acc' ρ5)->∃acc' ρ',kr fg ft fk fv ds ρ acc=some (acc',ρ')/\P [] acc' ρ':=by
 intro ds
 induction ds with
 |nil=>
  intro ρ acc h _;exact⟨acc,ρ,rfl,h⟩
 |cons d ds ih=>
  intro ρ acc h step;obtain⟨ρ1,ρ2,kd,k,ρ3,o,ρ4,acc1,ρ5,e1,e2,e3,e4,e5,e6,h2⟩:=step d ds acc ρ h;obtain⟨acc',ρ',e7,h7⟩:=ih ρ5 acc1 h2 step;refine⟨acc',ρ',?_,h7⟩;show (fg d ρ).bind _=_;rw[e1];show (ft ρ1).bind _=_;rw[e2];show (fk ρ2).bind _=_;rw[e3];show (dm kd).bind _=_;rw[e4];show (fv ρ3).bind _=_;rw[e5];show (zq k acc o ρ4).bind _=_;rw[e6];exact e7
noncomputable def dl(ps:List Int)(φ:Int->List Int):List (Key×List B2):=ps.map λp=>(.inl p,(φ p).map .int)
noncomputable def dd(ps:List Int)(φ:Int->List Int):List (Key×B2):=ps.map λp=>(.inl p,tI (φ p))
theorem cu{α:Type}(f:Int->α):∀{ps:List Int}{p:Int},p∈ps->bE (ps.map λp=>((.inl p:Key),f p)) (.inl p)=some (f p)
 |[],p,h=>by cases h
 |q::ps,p,h=>by
  unfold bE;rw[FC,JO]
  by_cases e:q=p
  ·subst e; simp
  ·have hm:p∈ps:=by
    rcases lK h with h | h
    ·exact absurd h.symm e
    ·exact h
   have:decide ((JP q:Key)=.inl p)=false:=decide_eq_false λz=>e (MC z)
   simp only[this];exact cu f hm
theorem Cp(ps:List Int)(φ:Int->List Int)(a b:Int):putL (dl ps φ) (.inl a) (.int b)=dl ps (λp=>if p=a then φ p++[b] else φ p):=by
 unfold putL dl;rw[Hk];refine IN λp _=>?_
 by_cases e:p=a
 ·subst e; simp
 ·have:¬ (JP p:Key)=.inl a:=λz=>e (MC z)
  simp[e,this]
theorem iE{α:Type}(f:Int->α)(ps:List Int)(p:Int):((ps.map λp=>((.inl p:Key),f p)).any λkv=>decide (kv.1=.inl p))=decide (p∈ps):=by
 rw[ND]
 induction ps with
 |nil=>simp
 |cons q ps ih=>
  rw[Jp,ih]
  by_cases e:q=p
  ·subst e; simp
  ·have:¬ (JP q:Key)=.inl p:=λz=>e (MC z)
   have e':¬p=q:=λz=>e z.symm
   simp[this,e']
theorem Cq{α:Type}(f:Int->α){ps:List Int}(h:ps.Nodup):((ps.map λp=>((.inl p:Key),f p)).map (·.1)).Nodup:=by
 rw[Hk];refine KA.mpr (h.imp λ{a b}hab z=>hab (MC z))
noncomputable def nb(ts:List (Int×Int))(p:Int):List Int:=ts.flatMap λt=>(if p=t.1 then [t.2] else [])++(if p=t.2 then [t.1] else [])
theorem Cr(ts:List (Int×Int))(t:Int×Int)(p:Int):nb (ts++[t]) p=nb ts p++((if p=t.1 then [t.2] else [])++(if p=t.2 then [t.1] else [])):=by
 unfold nb;rw[List.flatMap_append];simp
theorem Am{ts:List (Int×Int)}(h:∀t∈ts,t.1<t.2)(p:Int):(nb ts p).length<=ts.length:=by
 induction ts with
 |nil=>exact D2 _
 |cons t ts ih=>
  have h1:=ih λu hu=>h u (lO _ hu)
  have h2:=h t lS;have e:nb (t::ts) p=((if p=t.1 then [t.2] else [])++(if p=t.2 then [t.1] else []))++nb ts p:=by
   unfold nb; rw[List.flatMap_cons]
  rw[e,FB,Bz];have:((if p=t.1 then [t.2] else [])++(if p=t.2 then [t.1] else [])).length<=1:=by
   by_cases a:p=t.1
   ·rw[if_pos a,if_neg (by lia)]; simp
   ·rw[if_neg a]; split <;> simp
  lia
theorem EW{ts:List (Int×Int)}{p q:Int}:q∈nb ts p↔(p,q)∈ts\/(q,p)∈ts:=by
 unfold nb;rw[List.mem_flatMap];constructor
 ·rintro⟨t,ht,hq⟩
  rcases lM hq with hq | hq
  ·split at hq
   ·next e=>rw[D1] at hq; rw[e,hq]; exact .inl ht
   ·cases hq
  ·split at hq
   ·next e=>rw[D1] at hq; rw[e,hq]; exact .inr ht
   ·cases hq
 ·rintro (h | h)
  ·exact⟨_,h,lL _ (by simp)⟩
  ·exact⟨_,h,lR _ (by simp)⟩
noncomputable abbrev HY:FS:=aJ (eW (lZ 3 (fE 4) (fE 5))) (eW (lZ 3 (fE 5) (fE 4)))
theorem appQ{ρ:Ev}{i:Nat}{ps:List Int}{φ:Int->List Int}{a b:Int}{fk fd:Ev->Option B2}(h3:cS ρ i=some (.bW (dl ps φ)))(ha:fk ρ=some (.int a))(hb:fd ρ=some (.int b))(hm:a∈ps)(hl:(φ a).length<1000)(nd:ps.Nodup):lZ i fk fd ρ=some (.t (.v .none),ρ.set i (some (.bW (dl ps λp=>if p=a then φ p++[b] else φ p)))):=by
 show (cS ρ i).bind _=_;rw[h3];show (fk ρ).bind _=_;rw[ha];show (bE (dl ps φ) (.inl a)).bind _=_;rw[show bE (dl ps φ) (.inl a)=some ((φ a).map .int) from cu _ hm]
 show (fd ρ).bind _=_;rw[hb];show (if _/\_ then _ else _)=_
 rw[if_pos ⟨by rw[BM]; unfold lim; lia,Cq _ nd⟩,Cp]
theorem nears{ps:List Int}{ts:List (Int×Int)}(nd:ps.Nodup)(he:∀t∈ts,t.1∈ps/\t.2∈ps/\t.1<t.2)(hp:ps.length<=1000)(ht:ts.length<=63):FF.ff [.v (wD ps ts)]=some (.aA (dd ps λp=>sortI (nb ts p)),[.v (wD ps ts)]):=by
 obtain⟨acc1,ρ1,c1,dn1,rs1,x1,a1,a2,a3,rfl⟩:=oX (fg:=ah 0) (ft:=dS) (fk:=aa 0) (fv:=iF fY) (P:=λrest acc ρ=>∃ (dn rs:List Int) (x:Option M),rest=rs.map .int/\dn++rs=ps/\acc=.bW (dl dn λ_=>[])/\ρ=[x]) (ps.map .int) [none] (.bW []) ⟨[],ps,none,rfl,rfl,rfl,rfl⟩ (λd rest acc ρ hP=>by
  obtain⟨dn,rs,x,h1,h2,rfl,rfl⟩:=hP;cases rs with
  |nil=>cases h1
  |cons r rs=>
   obtain⟨rfl,rfl⟩:=Jf h1;have hr:r∉dn:=λz=>by
    rw[<-h2,FM] at nd;exact nd.2.2 r z r lS rfl
   have hlen:dn.length+(rs.length+1)=ps.length:=by rw[<-h2,FB,Bz]
   refine⟨[some (.v (.int r))],[some (.v (.int r))],.int r,.inl r,[some (.v (.int r))],.t (.lst []),[some (.v (.int r))],.bW (dl (dn++[r]) λ_=>[]),[some (.v (.int r))],by simp,rfl,by simp,rfl,by simp[lim],?_,dn++[r],rs,_,rfl,by rw[Bi]; exact h2,rfl,rfl⟩
   show (if _/\_ then _ else _)=_
   rw[if_pos ⟨by rw[show dl dn (λ_=>[])=dn.map λp=>((.inl p:Key),(([]:List Int).map J3)) from rfl,iE]; exact decide_eq_false hr,by unfold dl; rw[BM]; unfold lim; lia⟩]
   unfold dl;rw[Iw];rfl)
 have:rs1=[]:=by cases rs1 with | nil=>rfl | cons _ _=>cases a1
 subst this;rw[EQ] at a2;subst a2;subst a3;obtain⟨ρ2,c2,dn,rs,x4,x5,b1,b2,rfl⟩:=cz (fg:=d9 2 (aT (ah 4) (aT (ah 5) eX))) (fb:=HY) (P:=λrest ρ=>∃ (dn rs:List (Int×Int)) (x4 x5:Option M),rest=rs.map pD/\dn++rs=ts/\ρ=[some (.v (wD dn1 ts)),some (.v (tI dn1)),some (.v (tD ts)),some (.bW (dl dn1 (nb dn))),x4,x5])
  (ts.map pD) [some (.v (wD dn1 ts)),some (.v (tI dn1)),some (.v (tD ts)),some (.bW (dl dn1 λ_=>[])),none,none] ⟨[],ts,none,none,rfl,rfl,rfl⟩ (λd rest ρ hP=>by
   obtain⟨dn,rs,x4,x5,h1,h2,rfl⟩:=hP;cases rs with
   |nil=>cases h1
   |cons t rs=>
    obtain⟨rfl,rfl⟩:=Jf h1;have hlen:dn.length+(rs.length+1)=ts.length:=by rw[<-h2,FB,Bz]
    have hte:=he t (by rw[<-h2]; simp)
    have hdn:∀u∈dn,u.1<u.2:=λu hu=>(he u (by rw[<-h2]; exact lL _ hu)).2.2
    have n1:=Am hdn;refine⟨[some (.v (wD dn1 ts)),some (.v (tI dn1)),some (.v (tD ts)),some (.bW (dl dn1 (nb dn))),some (.v (.int t.1)),some (.v (.int t.2))],[some (.v (wD dn1 ts)),some (.v (tI dn1)),some (.v (tD ts)),some (.bW (dl dn1 (nb (dn++[t])))),some (.v (.int t.1)),some (.v (.int t.2))],by simp,?_,dn++[t],rs,_,_,rfl,by rw[Bi]; exact h2,rfl⟩
    have q1:=appQ (ρ:=[some (.v (wD dn1 ts)),some (.v (tI dn1)),some (.v (tD ts)),some (.bW (dl dn1 (nb dn))),some (.v (.int t.1)),some (.v (.int t.2))]) (i:=3) (fk:=fE 4) (fd:=fE 5) rfl rfl rfl hte.1 (by have:=n1 t.1; lia) nd
    have q2:=appQ (ρ:=[some (.v (wD dn1 ts)),some (.v (tI dn1)),some (.v (tD ts)),some (.bW (dl dn1 λp=>if p=t.1 then nb dn p++[t.2] else nb dn p)),some (.v (.int t.1)),some (.v (.int t.2))]) (i:=3) (fk:=fE 5) (fd:=fE 4) rfl rfl rfl hte.2.1 (by
     have:=n1 t.2;rw[if_neg (by lia)]
     lia) nd
    have hφ:(λp=>if p=t.2 then (if p=t.1 then nb dn p++[t.2] else nb dn p)++[t.1] else (if p=t.1 then nb dn p++[t.2] else nb dn p))=nb (dn++[t]):=by
     funext p
     rw[Cr];have hlt:=hte.2.2
     by_cases e1:p=t.1
     ·have e2:¬p=t.2:=by lia
      rw[if_neg e2,if_pos e1,if_pos e1,if_neg e2,EQ]
     ·by_cases e2:p=t.2
      ·rw[if_pos e2,if_neg e1,if_neg e1,if_pos e2,Im]
      ·rw[if_neg e2,if_neg e1,if_neg e1,if_neg e2,EQ,EQ]
    rw[hφ] at q2;show aJ _ _ _=_;refine(aK (ρ1:=[some (.v (wD dn1 ts)),some (.v (tI dn1)),some (.v (tD ts)),some (.bW (dl dn1 λp=>if p=t.1 then nb dn p++[t.2] else nb dn p)),some (.v (.int t.1)),some (.v (.int t.2))]) ?_).trans ?_
    ·rw[rE,q1]; rfl
    ·rw[rE,q2]; rfl)
 have:rs=[]:=by cases rs with | nil=>rfl | cons _ _=>cases b1
 subst this;rw[EQ] at b2;subst b2;obtain⟨acc3,ρ3,c3,dn3,rs3,x3,d1,d2,d3,rfl⟩:=oX (fg:=ah 0) (ft:=dS) (fk:=aa 0) (fv:=cF gP (af (cF eU (af (bO (aa 1) (aa 0)))))) (P:=λrest acc ρ=>∃ (dn3 rs:List Int) (x:Option M),rest=rs.map .int/\dn3++rs=dn1/\acc=.aA (dd dn3 λp=>sortI (nb dn p))/\ρ=[x,some (.bW (dl dn1 (nb dn)))]) (dn1.map .int) [none,some (.bW (dl dn1 (nb dn)))] (.aA []) ⟨[],dn1,none,rfl,rfl,rfl,rfl⟩ (λd rest acc ρ hP=>by
  obtain⟨dn3,rs,x,h1,h2,rfl,rfl⟩:=hP;cases rs with
  |nil=>cases h1
  |cons r rs=>
   obtain⟨rfl,rfl⟩:=Jf h1;have hr:r∉dn3:=λz=>by
    rw[<-h2,FM] at nd;exact nd.2.2 r z r lS rfl
   have hrm:r∈dn1:=by rw[<-h2]; simp
   have hlen:dn3.length+(rs.length+1)=dn1.length:=by rw[<-h2,FB,Bz]
   have hn:=Am (λu hu=>(he u hu).2.2) r
   have hk:bE (dl dn1 (nb dn)) (.inl r)=some ((nb dn r).map .int):=cu _ hrm;have hsort:eU [.lst ((nb dn r).map .int)]=some (.lst ((sortI (nb dn r)).map .int)):=by
    show (iN ((nb dn r).map .int)).bind _=_;unfold iN;rw[if_pos (by rw[BM]; lia),fZ]
    rfl
   refine⟨[some (.v (.int r)),some (.bW (dl dn1 (nb dn)))],[some (.v (.int r)),some (.bW (dl dn1 (nb dn)))],.int r,.inl r,[some (.v (.int r)),some (.bW (dl dn1 (nb dn)))],.t (.v (tI (sortI (nb dn r)))),[some (.v (.int r)),some (.bW (dl dn1 (nb dn)))],.aA (dd (dn3++[r]) λp=>sortI (nb dn p)),[some (.v (.int r)),some (.bW (dl dn1 (nb dn)))],by simp,rfl,by simp,rfl,?_,?_,dn3++[r],rs,_,rfl,by rw[Bi]; exact h2,rfl,rfl⟩
   ·have hpk:peek [some (.v (.int r)),some (.bW (dl dn1 (nb dn)))] (.q 1 (.inl r))=some (.lst ((nb dn r).map .int)):=by
     show (bE (dl dn1 (nb dn)) (.inl r)).map M.lst=_;rw[hk]; rfl
    simp[hk,hpk,hsort,tI]
   ·show (if _ then _ else _)=_
    rw[if_pos (by unfold dd; rw[BM]; unfold lim; lia)]
    show some (M.aA (putD (dd dn3 λp=>sortI (nb dn p)) (.inl r) (tI (sortI (nb dn r)))),_)=_
    unfold putD;rw[if_neg (by rw[show dd dn3 (λp=>sortI (nb dn p))=dn3.map λp=>((.inl p:Key),tI (sortI (nb dn p))) from rfl,iE]; simpa using hr)]
    unfold dd;rw[Iw];rfl)
 have:rs3=[]:=by cases rs3 with | nil=>rfl | cons _ _=>cases d1
 subst this;rw[EQ] at d2;subst d2;subst d3;refine gB (ρ:=[some (.v (wD dn3 dn)),some (.v (tI dn3)),some (.v (tD dn)),some (.bW (dl dn3 (nb dn))),x4,x5]) rfl ?_ rfl;show FF.jJ [some (.v (wD dn3 dn)),none,none,none,none,none]=_;refine(aK (ρ1:=[some (.v (wD dn3 dn)),some (.v (tI dn3)),some (.v (tD dn)),none,none,none]) (by simp)).trans ?_
 refine(aK (ρ1:=[some (.v (wD dn3 dn)),some (.v (tI dn3)),some (.v (tD dn)),some (.bW (dl dn3 λ_=>[])),none,none]) (by simp[tI,c1])).trans ?_
 refine(aK (ρ1:=[some (.v (wD dn3 dn)),some (.v (tI dn3)),some (.v (tD dn)),some (.bW (dl dn3 (nb dn))),x4,x5]) (by simp[tI]; simpa[tI] using c2)).trans ?_
 simp[tI,c3]
end PN
end
section
open PySem L2 VL
end
section
namespace PA
open PySem L2 VL
theorem mX:∀bs:List Bool,tO (bs.map .bool)=some bs
 |[]=>rfl
 |b::bs=>by show (some b).bind _=_; rw[IG,mX bs]; rfl
theorem xr{α:Type}{u v:α->B2}{fe:FE}{cs:Ev}{f:α->B2}:∀(ts:List α)(acc:List B2)(x y:Option M),(∀t∈ts,∃o,fe (some (.v (u t))::some (.v (v t))::cs)=some (o,some (.v (u t))::some (.v (v t))::cs)/\cU o (some (.v (u t))::some (.v (v t))::cs)=some (f t,some (.v (u t))::some (.v (v t))::cs))->acc.length+ts.length<=lim ->
  ∃x' y',cg (d9 2 (aT (ah 0) (aT (ah 1) eX))) dS fe (ts.map λt=>.tuple [u t,v t]) (x::y::cs) acc=some (acc++ts.map f,x'::y'::cs):=by
 intro ts
 induction ts with
 |nil=>
  intro acc x y _ _;exact⟨x,y,by simp[cg]⟩
 |cons t ts ih=>
  intro acc x y h hl;obtain⟨o,e1,e2⟩:=h t lS;rw[Bz] at hl;obtain⟨x',y',e3⟩:=ih (acc++[f t]) (some (.v (u t))) (some (.v (v t))) (λd hd=>h d (lO _ hd)) (by rw[FB,Jh]; lia)
  refine⟨x',y',?_⟩;have hg:d9 2 (aT (ah 0) (aT (ah 1) eX)) (.tuple [u t,v t]) (x::y::cs)=some (some (.v (u t))::some (.v (v t))::cs):=by simp
  show (d9 2 (aT (ah 0) (aT (ah 1) eX)) (.tuple [u t,v t]) (x::y::cs)).bind _=_;rw[hg];show (fe _).bind _=_;rw[e1];show (cU o _).bind _=_;rw[e2];show (if acc.length<lim then _ else _)=_
  rw[if_pos (by lia)]
  refine Eq.trans e3 ?_;rw[FC,Bi];rfl
theorem eq_self{d:B2}(h:ML d=true)(hd:OM d<=60)(neg:Bool):dD neg (.v d) (.v d)=some (.v (.bool (!neg))):=by
 rw[EO];simp only[asD_v,IG];rw[if_pos (show qZ d d=true by unfold qZ; rw[h,decide_eq_true (show min (OM d) (OM d)<=60 by lia)]; rfl),PySem.SeqAt.eqv_refl d h]
 cases neg <;> rfl
theorem An(ds:List B2):zh [.v (.tuple ds),.v (.tuple ds)]=some (ds.map λd=>.tuple [d,d]):=by
 show some (List.zipWith _ ds ds)=_
 congr 1
 induction ds with
 |nil=>rfl
 |cons d ds ih=>rw[List.zipWith_cons_cons,ih,FC]
theorem all_true(ds:List B2):allM false [.lst (ds.map λ_=>.bool true)]=some (.v (.bool true)):=by
 have h:=mX (ds.map λ_=>true)
 rw[Hk] at h;show (tO _).bind _=_;rw[show tO (ds.map λ_=>Od true)=_ from h,IG]
 congr 3
 show (ds.map λ_=>true).all id=true
 rw[Oh];exact K2.mpr λ_ _=>rfl
end PA
end
section
namespace PS
open PySem L2 VL PA PQ PN
section
variable{ps:List Int}{ts:List (Int×Int)}
theorem Ao(ds:List B2)(k:Nat)(h:k<=ds.length):cutD ds (some (k:Int)) none=ds.drop k:=by
 unfold cutD;rw[HT.qG,HT.uG,Nz h,K0];rw[IA]; lia
end
theorem xu{fc:FT}{fb:FS}{P:Nat->Ev->Prop}{Q:Ev->Prop}(step:∀m ρ,P m ρ->(∃ρ1,fc ρ=some (false,ρ1)/\Q ρ1)\/∃ρ1 ρ2 m',fc ρ=some (true,ρ1)/\fb ρ1=some (.nx ρ2)/\m'<m/\P m' ρ2) :
  ∀(N n:Nat)(ρ:Ev),P n ρ->n<N->∃ρ',i9 fc fb N ρ=some (.nx ρ')/\Q ρ':=by
 intro N
 induction N with
 |zero=>
  intro n ρ _ h;exact absurd h (LU _)
 |succ N ih=>
  intro n ρ hP h;rcases step n ρ hP with⟨ρ1,e1,q⟩ | ⟨ρ1,ρ2,m',e1,e2,hm,h2⟩
  ·refine⟨ρ1,?_,q⟩
   show (fc ρ).bind _=_;rw[e1];rfl
  ·obtain⟨ρ',e3,q⟩:=ih m' ρ2 h2 (by lia)
   refine⟨ρ',?_,q⟩;show (fc ρ).bind _=_;rw[e1,IG];show (if true=true then _ else _)=_
   rw[if_pos rfl,e2];exact e3
theorem uz{fc:FT}{fb:FS}{P:Nat->Ev->Prop}{Q:Ev->Prop}(step:∀m ρ,P m ρ->(∃ρ1,fc ρ=some (false,ρ1)/\Q ρ1)\/∃ρ1 ρ2 m',fc ρ=some (true,ρ1)/\fb ρ1=some (.nx ρ2)/\m'<m/\P m' ρ2)
  (N n:Nat) (ρ:Ev) (h:P n ρ) (hn:n<N):∃ρ',jR N fc fb ρ=some (.nx ρ')/\Q ρ':=xu step N n ρ h hn
def Aq(ts:List (Int×Int))(p q:Int):Prop:=(p,q)∈ts\/(q,p)∈ts
inductive iG(ts:List (Int×Int))(fs:List Int)(p:Int):Int->Prop
 |base:iG ts fs p p
 |step {q r:Int}:iG ts fs p q->Aq ts q r->r∈fs->iG ts fs p r
theorem iG.or{ts:List (Int×Int)}{fs:List Int}{p q:Int}(h:iG ts fs p q):q=p\/q∈fs:=by
 cases h with
 |base=>exact .inl rfl
 |step _ _ h=>exact .inr h
noncomputable def gd(g:Int->Int)(W:List Int):List (Key×B2):=W.map λx=>(.inl x,.int (g x))
theorem vV(g:Int->Int)(W:List Int){r:Int}(v:Int)(h:r∉W):putD (gd g W) (.inl r) (.int v)=gd (λx=>if x=r then v else g x) (W++[r]):=by
 unfold putD gd;rw[if_neg (by rw[iE]; simpa using h),Iw]
 congr 1
 ·refine IN λx hx=>?_
  have:x≠r:=λe=>h (e▸hx)
  simp[this]
 ·simp
theorem vW(g:Int->Int)(W:List Int)(r:Int):(bE (gd g W) (.inl r)).isSome=decide (r∈W):=by
 by_cases h:r∈W
 ·rw[show bE (gd g W) (.inl r)=some (.int (g r)) from cu _ h]
  simp[h]
 ·have:bE (gd g W) (.inl r)=none:=by
   unfold bE gd;rw[OS,Mr];intro x hx;obtain⟨y,hy,rfl⟩:=Hd.mp hx;have:y≠r:=λe=>h (e▸hy)
   simpa using this
  rw[this];simp[h]
theorem len_sub:∀{l m:List Int},l.Nodup->(∀x∈l,x∈m)->l.length<=m.length
 |[],m,_,_=>Hn _
 |a::l,m,h,s=>by
  have h':=IM.mp h;have ha:=s a lS;have:=len_sub (l:=l) (m:=m.erase a) h'.2 λx hx=>(List.mem_erase_of_ne (λe:x=a=>h'.1 (e▸hx))).mpr (s x (lO _ hx))
  rw[List.length_erase_of_mem ha] at this;have:=List.length_pos_of_mem ha;rw[Bz];lia
section
variable{ps fs:List Int}{ts:List (Int×Int)}{p:Int}{φ:Int->List Int}
noncomputable abbrev FN:FS:=cP (fu (aG (vB (kL false) (aa 7) (aa 1))) (aG (vB (kL true) (aa 7) (aa 3)))) (aJ (gZ 3 (aa 7) (vB cB (bO (aa 3) (aa 6)) (vC (.int 1)))) (eW (kF 4 (af (aa 7))))) bg
noncomputable abbrev HZ:FS:=aJ (bM 6 (bO (aa 4) (aa 5)))
 (aJ (zd 5 (i6 (λ_ _=>true) λi j=>.int (i+j)) (vC (.int 1)))
 (eE (bR (bO (aa 0) (aa 6))) (ah 7) FN))
theorem in_gd(g:Int->Int)(W:List Int)(r:Int):kL true (.v (.int r)) (.aA (gd g W))=some (.v (.bool (!decide (r∈W)))):=by
 have h:kL true (.v (.int r)) (.aA (gd g W))=some (.v (.bool (!(bE (gd g W) (.inl r)).isSome))):=rfl;rw[h,vW]
structure Gd(ts:List (Int×Int))(fs:List Int)(p:Int)(W:List Int):Prop where
 nd:W.Nodup
 rc:∀x∈W,iG ts fs p x
 st:p∈W
theorem Gd.len{W:List Int}(h:Gd ts fs p W)(hp:p∈fs):W.length<=fs.length:=len_sub h.nd λx hx=>(h.rc x hx).or.elim (λe=>e▸hp) id
theorem sf_in{W0:List Int}{g0:Int->Int}{a1 c:Int}{B:M}{x7:Option M}(hφ:∀q r,r∈φ q↔Aq ts q r)(hp:p∈fs)(hf:fs.length<=1000)(h0:Gd ts fs p W0)(hc:c∈W0):∃ (W:List Int) (g:Int->Int) (x7':Option M),
  Gd ts fs p W/\(∃m,W=W0++m)/\(∀d,Aq ts c d->d∈fs->d∈W)/\forL (ah 7) FN ((φ c).map .int) [some B,some (.v (tI fs)),some (.v (.int p)),some (.aA (gd g0 W0)),some (.lst (W0.map .int)),some (.v (.int a1)),some (.v (.int c)),x7]=some (.nx [some B,some (.v (tI fs)),some (.v (.int p)),some (.aA (gd g W)),some (.lst (W.map .int)),some (.v (.int a1)),some (.v (.int c)),x7']):=by
 obtain⟨ρ',e,dn,rs,g,W,y7,h1,h2,h3,h4,h5,rfl⟩:=cz (fg:=ah 7) (fb:=FN) (P:=λrest ρ=>∃ (dn rs:List Int) (g:Int->Int) (W:List Int) (y7:Option M),rest=rs.map .int/\dn++rs=φ c/\Gd ts fs p W/\(∃m,W=W0++m)/\(∀d∈dn,d∈fs->d∈W)/\ρ=[some B,some (.v (tI fs)),some (.v (.int p)),some (.aA (gd g W)),some (.lst (W.map .int)),some (.v (.int a1)),some (.v (.int c)),y7])
  ((φ c).map .int) [some B,some (.v (tI fs)),some (.v (.int p)),some (.aA (gd g0 W0)),some (.lst (W0.map .int)),some (.v (.int a1)),some (.v (.int c)),x7] ⟨[],φ c,g0,W0,x7,rfl,rfl,h0,⟨[],(EQ _).symm⟩,λd hd=>(nomatch hd),rfl⟩ (λd rest ρ hP=>by
   obtain⟨dn,rs,g,W,y7,h1,h2,h3,⟨m,h4⟩,h5,rfl⟩:=hP;cases rs with
   |nil=>cases h1
   |cons r rs=>
    obtain⟨rfl,rfl⟩:=Jf h1;have i1:=in_tI false fs r;have i2:=in_gd g W r;have hcW:c∈W:=by rw[h4]; exact lL _ hc
    have hk:bE (gd g W) (.inl c)=some (.int (g c)):=cu _ hcW;have hl:=h3.len hp
    by_cases c1:r∈fs/\r∉W
    ·refine⟨[some B,some (.v (tI fs)),some (.v (.int p)),some (.aA (gd g W)),some (.lst (W.map .int)),some (.v (.int a1)),some (.v (.int c)),some (.v (.int r))],[some B,some (.v (tI fs)),some (.v (.int p)),some (.aA (gd (λx=>if x=r then g c+1 else g x) (W++[r]))),some (.lst ((W++[r]).map .int)),some (.v (.int a1)),some (.v (.int c)),some (.v (.int r))],by simp,?_,dn++[r],rs,_,W++[r],_,rfl,by rw[Bi]; exact h2,⟨?_,?_,lL _ h3.st⟩,⟨m++[r],by rw[h4,Bi]⟩,?_,rfl⟩
     ·have q:=vV g W (g c+1) c1.2
      have hgl:(gd g W).length<1000000:=by unfold gd; rw[BM]; lia
      have hwl:W.length<1000000:=by lia
      simp at i1 i2;have hkd:dm (.int r)=some (.inl r):=rfl;have hkc:dm (.int c)=some (.inl c):=rfl;simp[FN,i1,i2,c1.1,c1.2,hk,hkd,hkc,q,hgl,hwl,lim]
     ·exact FM.mpr ⟨h3.nd,by simp,λa ha b hb e=>c1.2 (by simp at hb; rw[<-hb,<-e]; exact ha)⟩
     ·intro x hx
      rcases lM hx with hx | hx
      ·exact h3.rc x hx
      ·rw[D1] at hx
       subst hx;exact .step (h3.rc c hcW) ((hφ c x).mp (by rw[<-h2]; simp)) c1.1
     ·intro d hd hdf
      rcases lM hd with hd | hd
      ·exact lL _ (h5 d hd hdf)
      ·exact lR _ hd
    ·refine⟨[some B,some (.v (tI fs)),some (.v (.int p)),some (.aA (gd g W)),some (.lst (W.map .int)),some (.v (.int a1)),some (.v (.int c)),some (.v (.int r))],[some B,some (.v (tI fs)),some (.v (.int p)),some (.aA (gd g W)),some (.lst (W.map .int)),some (.v (.int a1)),some (.v (.int c)),some (.v (.int r))],by simp,?_,dn++[r],rs,g,W,_,rfl,by rw[Bi]; exact h2,h3,⟨m,h4⟩,?_,rfl⟩
     ·simp at i1 i2
      by_cases c2:r∈fs
      ·have c3:r∈W:=IU λz=>c1 ⟨c2,z⟩
       simp[FN,i1,i2,c2,c3]
      ·simp[FN,i1,c2]
     ·intro d hd hdf
      rcases lM hd with hd | hd
      ·exact h5 d hd hdf
      ·rw[D1] at hd
       subst hd;exact IU λz=>c1 ⟨hdf,z⟩)
 have:rs=[]:=by cases rs with | nil=>rfl | cons _ _=>cases h1
 subst this;rw[EQ] at h2;subst h2;exact⟨W,g,y7,h3,h4,λd hd hf'=>h5 d ((hφ c d).mpr hd) hf',e⟩
end
theorem Cs{W:List Int}{k:Nat}{c:Int}(h:W[k]? = some c):jf (W.map J3) (k:Int)=some (.int c):=by
 obtain⟨hk,e⟩:=DD.mp h;unfold jf qH;rw[BM];simp only[JZ];rw[if_pos (by lia)]
 simp[hk,e]
section
variable{ps fs:List Int}{ts:List (Int×Int)}{p:Int}{φ:Int->List Int}
theorem uA(hφ:∀q r,r∈φ q↔Aq ts q r)(hp:p∈fs)(hs:∀x∈fs,x∈ps)(hf:fs.length<=1000):∃ (W:List Int) (g:Int->Int),W.Nodup/\(∀x,x∈W↔iG ts fs p x)/\FF.bJ [.aA (dd ps φ),.v (tI fs),.v (.int p)]=some (.aA (gd g W),[.aA (dd ps φ),.v (tI fs),.v (.int p)]):=by
 obtain⟨ρ',e,g,W,x5,x6,x7,h1,h2,rfl⟩:=uz (fc:=aG (vB tK (aa 5) (cF cK (af (aa 4))))) (fb:=HZ)
  (P:=λm ρ=>∃ (k:Nat) (g:Int->Int) (W:List Int) (x6 x7:Option M),m=fs.length-k/\k<=W.length/\Gd ts fs p W/\(∀i x,i<k->W[i]? = some x->∀d,Aq ts x d->d∈fs->d∈W)/\ρ=[some (.aA (dd ps φ)),some (.v (tI fs)),some (.v (.int p)),some (.aA (gd g W)),some (.lst (W.map .int)),some (.v (.int (k:Int))),x6,x7])
  (Q:=λρ=>∃ (g:Int->Int) (W:List Int) (x5 x6 x7:Option M),Gd ts fs p W/\(∀x∈W,∀d,Aq ts x d->d∈fs->d∈W)/\ρ=[some (.aA (dd ps φ)),some (.v (tI fs)),some (.v (.int p)),some (.aA (gd g W)),some (.lst (W.map .int)),x5,x6,x7])
  (λm ρ hP=>by
   obtain⟨k,g,W,x6,x7,rfl,hk,hG,hcl,rfl⟩:=hP
   by_cases c:k<W.length
   ·right
    have hl:=hG.len hp;have hx:W[k]? = some W[k]:=Bn c;have hxm:W[k]∈W:=IV c;generalize W[k]=x at hx hxm;obtain⟨W',g',x7',a1,⟨m,a2⟩,a3,a4⟩:=sf_in (B:=.aA (dd ps φ)) (g0:=g) (a1:=(k:Int)+1) (x7:=x7) hφ hp hf hG hxm;have hxp:x∈ps:=hs x ((hG.rc x hxm).or.elim (λe=>e▸hp) id)
    have hkx:bE (dd ps φ) (.inl x)=some (tI (φ x)):=cu _ hxp;have hat:=Cs hx;refine⟨[some (.aA (dd ps φ)),some (.v (tI fs)),some (.v (.int p)),some (.aA (gd g W)),some (.lst (W.map .int)),some (.v (.int (k:Int))),x6,x7],[some (.aA (dd ps φ)),some (.v (tI fs)),some (.v (.int p)),some (.aA (gd g' W')),some (.lst (W'.map .int)),some (.v (.int ((k:Int)+1))),some (.v (.int x)),x7'],fs.length-(k+1),by simp; lia,?_,by lia,k+1,g',W',some (.v (.int x)),x7',rfl,by rw[a2,FB]; lia,a1,λi y hi hy d hd hdf=>?_,by simp⟩
    ·refine(aK (ρ1:=[some (.aA (dd ps φ)),some (.v (tI fs)),some (.v (.int p)),some (.aA (gd g W)),some (.lst (W.map .int)),some (.v (.int (k:Int))),some (.v (.int x)),x7]) (by simp[hat])).trans ?_
     refine(aK (ρ1:=[some (.aA (dd ps φ)),some (.v (tI fs)),some (.v (.int p)),some (.aA (gd g W)),some (.lst (W.map .int)),some (.v (.int ((k:Int)+1))),some (.v (.int x)),x7]) (by simp)).trans ?_
     have hkd:dm (.int x)=some (.inl x):=rfl;unfold tI at a4 hkx ⊢;simp[hkd,hkx];simpa using a4
    ·rcases NJ i k with hik | hik
     ·have hy0:W[i]? = some y:=by
       rw[a2,He (by lia)] at hy
       exact hy
      have:=hcl i y hik hy0 d hd hdf;rw[a2];exact lL _ this
     ·have:i=k:=by lia
      subst this;rw[a2,He c,hx] at hy;cases hy;exact a3 d hd hdf
   ·left
    refine⟨[some (.aA (dd ps φ)),some (.v (tI fs)),some (.v (.int p)),some (.aA (gd g W)),some (.lst (W.map .int)),some (.v (.int (k:Int))),x6,x7],by simp; lia,g,W,some (.v (.int (k:Int))),x6,x7,hG,λx hx d hd hdf=>?_,rfl⟩
    obtain⟨i,hi,e⟩:=II hx;exact hcl i x (by lia) (by rw[Bn hi,e]) d hd hdf)
  1000000 fs.length [some (.aA (dd ps φ)),some (.v (tI fs)),some (.v (.int p)),some (.aA (gd (λ_=>0) [p])),some (.lst ([p].map .int)),some (.v (.int 0)),none,none] ⟨0,_,[p],none,none,rfl,Hn _,⟨by simp,λx hx=>by rw[D1] at hx; subst hx; exact .base,lS⟩,λi x hi=>absurd hi (LU _),rfl⟩ (by lia)
 refine⟨W,g,h1.nd,λx=>⟨h1.rc x,λhx=>?_⟩,gB (ρ:=[some (.aA (dd ps φ)),some (.v (tI fs)),some (.v (.int p)),none,some (.lst (W.map .int)),x5,x6,x7]) rfl ?_ rfl⟩
 ·induction hx with
  |base=>exact h1.st
  |step _ ha hr ih=>exact h2 _ ih _ ha hr
 ·show FF.fJ [some (.aA (dd ps φ)),some (.v (tI fs)),some (.v (.int p)),none,none,none,none,none]=_
  refine(aK (ρ1:=[some (.aA (dd ps φ)),some (.v (tI fs)),some (.v (.int p)),some (.aA (gd (λ_=>0) [p])),none,none,none,none]) ?_).trans ?_
  ·simp[gd]
   rfl
  refine(aK (ρ1:=[some (.aA (dd ps φ)),some (.v (tI fs)),some (.v (.int p)),some (.aA (gd (λ_=>0) [p])),some (.lst ([p].map .int)),none,none,none]) (by simp[lim])).trans ?_
  refine(aK (ρ1:=[some (.aA (dd ps φ)),some (.v (tI fs)),some (.v (.int p)),some (.aA (gd (λ_=>0) [p])),some (.lst ([p].map .int)),some (.v (.int 0)),none,none]) (by simp)).trans ?_
  refine(aK (ρ1:=[some (.aA (dd ps φ)),some (.v (tI fs)),some (.v (.int p)),some (.aA (gd g W)),some (.lst (W.map .int)),x5,x6,x7]) e).trans (by simp)
end
end PS
end
section
namespace PA
open PySem L2 VL
@[simp] theorem atI_c0{α:Type}{x:α}{xs:List α}:jf (x::xs) 0=some x:=by
 have:=pg (xs:=x::xs) (j:=0) (v:=x) rfl;exact this
@[simp] theorem atI_c1{α:Type}{x y:α}{xs:List α}:jf (x::y::xs) 1=some y:=by
 have:=pg (xs:=x::y::xs) (j:=1) (v:=y) rfl;exact this
end PA
end
section
namespace PS
open PySem L2 VL PA PQ PN
noncomputable def sn(S:List Int):List (Key×B2):=S.map λx=>(.inl x,.bool true)
theorem Ct(S:List Int)(r:Int):(bE (sn S) (.inl r)).isSome=decide (r∈S):=by
 by_cases h:r∈S
 ·rw[show bE (sn S) (.inl r)=some (.bool true) from cu (λ_=>Od true) h]
  simp[h]
 ·have:bE (sn S) (.inl r)=none:=by
   unfold bE sn;rw[OS,Mr];intro x hx;obtain⟨y,hy,rfl⟩:=Hd.mp hx;have:y≠r:=λe=>h (e▸hy)
   simpa using this
  rw[this];simp[h]
theorem in_sn(S:List Int)(r:Int):kL true (.v (.int r)) (.aA (sn S))=some (.v (.bool (!decide (r∈S)))):=by
 have h:kL true (.v (.int r)) (.aA (sn S))=some (.v (.bool (!(bE (sn S) (.inl r)).isSome))):=rfl;rw[h,Ct]
noncomputable def ad(S:List Int)(r:Int):List Int:=if r∈S then S else S++[r]
theorem EX{S:List Int}{r x:Int}:x∈ad S r↔x∈S\/x=r:=by
 unfold ad
 split
 ·next h=>exact⟨.inl,λh'=>h'.elim id λe=>e▸h⟩
 ·simp
theorem nd_ad{S:List Int}{r:Int}(h:S.Nodup):(ad S r).Nodup:=by
 unfold ad
 split
 ·exact h
 ·next n=>exact FM.mpr ⟨h,by simp,λa ha b hb e=>n (by simp at hb; rw[<-hb,<-e]; exact ha)⟩
theorem Cu(S:List Int)(r:Int):putD (sn S) (.inl r) (.bool true)=sn (ad S r):=by
 unfold putD sn ad
 by_cases h:r∈S
 ·rw[if_pos (by rw[iE]; simpa using h),if_pos h,Hk]
  refine IN λx _=>?_
  simp only[Function.comp]
  split
  ·rfl
  ·rfl
 ·rw[if_neg (by rw[iE]; simpa using h),if_neg h,Iw]
  rfl
section
variable{ps fs:List Int}{ts:List (Int×Int)}
theorem mark{c S0:List Int}{w0 w1 w2 w3 w5 w6 x7:Option M}(nd:S0.Nodup)(hf:∀x∈S0,x∈fs)(hc:∀x∈c,x∈fs)(hl:fs.length<=1000):∃ (S:List Int) (x7':Option M),S.Nodup/\(∀x,x∈S↔x∈S0\/x∈c) /\
  forL (ah 7) (gZ 4 (aa 7) (vC (.bool true))) (c.map .int) [w0,w1,w2,w3,some (.aA (sn S0)),w5,w6,x7]=some (.nx [w0,w1,w2,w3,some (.aA (sn S)),w5,w6,x7']):=by
 obtain⟨ρ',e,dn,rs,S,y7,h1,h2,h3,h4,rfl⟩:=cz (fg:=ah 7) (fb:=gZ 4 (aa 7) (vC (.bool true))) (P:=λrest ρ=>∃ (dn rs S:List Int) (y7:Option M),rest=rs.map .int/\dn++rs=c/\S.Nodup/\(∀x,x∈S↔x∈S0\/x∈dn)/\ρ=[w0,w1,w2,w3,some (.aA (sn S)),w5,w6,y7])
  (c.map .int) [w0,w1,w2,w3,some (.aA (sn S0)),w5,w6,x7] ⟨[],c,S0,x7,rfl,rfl,nd,λx=>by simp,rfl⟩ (λd rest ρ hP=>by
   obtain⟨dn,rs,S,y7,h1,h2,h3,h4,rfl⟩:=hP;cases rs with
   |nil=>cases h1
   |cons r rs=>
    obtain⟨rfl,rfl⟩:=Jf h1;have hS:∀x∈S,x∈fs:=λx hx=>((h4 x).mp hx).elim (hf x) λh=>hc x (by rw[<-h2]; exact lL _ h)
    have hlen:=len_sub h3 hS;refine⟨[w0,w1,w2,w3,some (.aA (sn S)),w5,w6,some (.v (.int r))],[w0,w1,w2,w3,some (.aA (sn (ad S r))),w5,w6,some (.v (.int r))],by simp,?_,dn++[r],rs,ad S r,_,rfl,by rw[Bi]; exact h2,nd_ad h3,λx=>?_,rfl⟩
    ·have q:=Cu S r
     have hgl:(sn S).length<1000000:=by unfold sn; rw[BM]; lia
     have hkd:dm (.int r)=some (.inl r):=rfl;simp[hkd,q,hgl,lim]
    ·rw[EX,h4 x]
     simp[or_assoc])
 have:rs=[]:=by cases rs with | nil=>rfl | cons _ _=>cases h1
 subst this;rw[EQ] at h2;subst h2;exact⟨S,y7,h3,h4,e⟩
open Classical in
noncomputable def cls(ts:List (Int×Int))(fs:List Int)(p:Int):List Int:=fs.filter λx=>decide (iG ts fs p x)
def xw(ts:List (Int×Int))(fs:List Int)(p:Int):Prop:=∀q∈fs,iG ts fs q p->p<=q
open Classical in
noncomputable def gh(ts:List (Int×Int))(fs l:List Int):List (List Int):=(l.filter λp=>decide (xw ts fs p)).map (cls ts fs)
open Classical in
theorem kO{p x:Int}(hp:p∈fs):x∈cls ts fs p↔iG ts fs p x:=by
 unfold cls;rw[Jx,decide_eq_true_iff];exact⟨λh=>h.2,λh=>⟨h.or.elim (λe=>e▸hp) id,h⟩⟩
theorem Ar{p:Int}{W:List Int}(hr:fs.Pairwise (· < ·))(hp:p∈fs)(nd:W.Nodup)(hW:∀x,x∈W↔iG ts fs p x):sortI W=cls ts fs p:=by
 have r:(cls ts fs p).Pairwise (· < ·):=hr.filter _;refine sy ?_ r;exact(OA nd (r.imp λh=>MK h)).mpr λx=>by rw[hW,kO hp]
theorem iG.trans{p q r:Int}(h:iG ts fs p q)(g:iG ts fs q r):iG ts fs p r:=by
 induction g with
 |base=>exact h
 |step _ a f ih=>exact .step ih a f
theorem EY{dn:List Int}{r:Int}(h:¬xw ts fs r):gh ts fs (dn++[r])=gh ts fs dn:=by
 unfold gh;rw[Ph,LD,if_neg (by simpa using h),Ng,EQ]
theorem vX{dn:List Int}{r:Int}(h:xw ts fs r):gh ts fs (dn++[r])=gh ts fs dn++[cls ts fs r]:=by
 unfold gh;rw[Ph,LD,if_pos (by simpa using h),Ng,Iw]
 rfl
theorem vY(l:List Int):(gh ts fs l).length<=l.length:=by
 unfold gh;rw[BM];exact Oz _ _
theorem pieces(w:Wb ps ts)(hn:ps.length<=24)(hs:∀x∈fs,x∈ps)(hr:fs.Pairwise (· < ·)):FF.br [.v (wD ps ts),.v (tI fs)]=some (.v (.tuple ((gh ts fs fs).map tI)),[.v (wD ps ts),.v (tI fs)]):=by
 have nd:ps.Nodup:=w.rise.imp λh=>by lia
 have ndf:fs.Nodup:=hr.imp λh=>MK h
 have hfl:fs.length<=24:=Ip (len_sub ndf hs) hn;have hnear:=nears nd w.ends (by lia) (by have:=w.few; lia)
 have hφ:∀q r,r∈sortI (nb ts q)↔Aq ts q r:=λq r=>by
  rw[show r∈sortI (nb ts q)↔r∈nb ts q from (cV ltI (nb ts q)).mem_iff,EW]
  rfl
 generalize hφe:(λp=>sortI (nb ts p))=φ at hnear
 have hφ':∀q r,r∈φ q↔Aq ts q r:=λq r=>by rw[<-hφe]; exact hφ q r
 obtain⟨ρ',e,dn,rs,S,x5,x6,x7,h1,h2,h3,h4,rfl⟩:=cz (fg:=ah 5) (fb:=cP (aG (vB (kL true) (aa 5) (aa 4))) (aJ (bM 6 (cF gP (af (cF eU (af (dQ FF.bJ (aj (aa 2) (aj (aa 1) (af (aa 5)))))))))) (aJ (eW (kF 3 (af (aa 6)))) (eE (bR (aa 6)) (ah 7) (gZ 4 (aa 7) (vC (.bool true)))))) bg)
  (P:=λrest ρ=>∃ (dn rs S:List Int) (x5 x6 x7:Option M),rest=rs.map .int/\dn++rs=fs/\S.Nodup/\(∀x,x∈S↔∃q∈dn,iG ts fs q x)/\ρ=[some (.v (wD ps ts)),some (.v (tI fs)),some (.aA (dd ps φ)),some (.lst ((gh ts fs dn).map tI)),some (.aA (sn S)),x5,x6,x7])
  (fs.map .int) [some (.v (wD ps ts)),some (.v (tI fs)),some (.aA (dd ps φ)),some (.lst []),some (.aA []),none,none,none] ⟨[],fs,[],none,none,none,rfl,rfl,JL,λx=>by simp,rfl⟩ (λd rest ρ hP=>by
   obtain⟨dn,rs,S,x5,x6,x7,h1,h2,h3,h4,rfl⟩:=hP;cases rs with
   |nil=>cases h1
   |cons r rs=>
    obtain⟨rfl,rfl⟩:=Jf h1;have hrf:r∈fs:=by rw[<-h2]; simp
    have i1:=in_sn S r;have hpw:=hr;rw[<-h2] at hpw;obtain⟨_,hp2,hp3⟩:=Fs.mp hpw;refine⟨[some (.v (wD ps ts)),some (.v (tI fs)),some (.aA (dd ps φ)),some (.lst ((gh ts fs dn).map tI)),some (.aA (sn S)),some (.v (.int r)),x6,x7],?_⟩
    by_cases c1:r∈S
    ·obtain⟨q,hq,hqr⟩:=(h4 r).mp c1
     have hno:¬xw ts fs r:=λh=>by
      have h1:=h q (by rw[<-h2]; exact lL _ hq) hqr
      have h2:=hp3 q hq r lS;lia
     refine⟨[some (.v (wD ps ts)),some (.v (tI fs)),some (.aA (dd ps φ)),some (.lst ((gh ts fs dn).map tI)),some (.aA (sn S)),some (.v (.int r)),x6,x7],by simp,?_,dn++[r],rs,S,some (.v (.int r)),x6,x7,rfl,by rw[Bi]; exact h2,h3,λx=>?_,by rw[EY hno]⟩
     ·simp[i1,c1]
     ·rw[h4 x]
      refine⟨λ⟨q,h,g⟩=>⟨q,lL _ h,g⟩,λ⟨q',h,g⟩=>?_⟩
      rcases lM h with h | h
      ·exact⟨q',h,g⟩
      ·rw[D1] at h
       subst h;exact⟨q,hq,hqr.trans g⟩
    ·have hyes:xw ts fs r:=λq hq hqr=>by
      rw[<-h2] at hq;rcases lM hq with hq | hq
      ·exact absurd ((h4 r).mpr ⟨q,hq,hqr⟩) c1
      ·rcases lK hq with hq | hq
       ·lia
       ·have:=(Ig.mp hp2).1 q hq
        lia
     obtain⟨W,g,w1,w2,w3⟩:=uA (ps:=ps) (fs:=fs) (p:=r) hφ' hrf hs (by lia)
     have hsort:=Ar hr hrf w1 w2;have hWl:W.length<64:=by
      have:=len_sub w1 λx hx=>((w2 x).mp hx).or.elim (λe=>e▸hrf) id
      lia
     have hcf:∀x∈cls ts fs r,x∈fs:=λx hx=>(Jx.mp hx).1
     have hSf:∀x∈S,x∈fs:=λx hx=>by
      obtain⟨q,hq,g⟩:=(h4 x).mp hx;exact g.or.elim (λe=>by rw[e,<-h2]; exact lL _ hq) id
     obtain⟨S',x7',m1,m2,m3⟩:=mark (fs:=fs) (c:=cls ts fs r) (S0:=S) (w0:=some (.v (wD ps ts))) (w1:=some (.v (tI fs))) (w2:=some (.aA (dd ps φ))) (w3:=some (.lst ((gh ts fs dn++[cls ts fs r]).map tI))) (w5:=some (.v (.int r))) (w6:=some (.v (tI (cls ts fs r)))) (x7:=x7) h3 hSf hcf (by lia)
     refine⟨[some (.v (wD ps ts)),some (.v (tI fs)),some (.aA (dd ps φ)),some (.lst ((gh ts fs dn++[cls ts fs r]).map tI)),some (.aA (sn S')),some (.v (.int r)),some (.v (tI (cls ts fs r))),x7'],by simp,?_,dn++[r],rs,S',some (.v (.int r)),some (.v (tI (cls ts fs r))),x7',rfl,by rw[Bi]; exact h2,m1,λx=>?_,by rw[vX hyes]⟩
     ·have hil:tM ((gd g W).map (·.1))=some W:=by unfold gd; rw[Hk]; exact rm W
      have hso:eU [.aA (gd g W)]=some (.lst ((cls ts fs r).map .int)):=by
       show (tM ((gd g W).map (·.1))).bind _=_;rw[hil,IG,if_pos hWl,hsort]
      have hpl:=vY (ts:=ts) (fs:=fs) dn;have hdl:dn.length<=fs.length:=by rw[<-h2,FB]; lia
      have hlim:(gh ts fs dn).length<1000000:=by lia
      unfold tI at w3 m3 ⊢;rw[Iw] at m3;simp[i1,c1,w3,hso,hlim,lim];exact m3
     ·rw[m2 x,h4 x,kO hrf]
      refine⟨λh=>h.elim (λ⟨q,h,g⟩=>⟨q,lL _ h,g⟩) λh=>⟨r,by simp,h⟩,λ⟨q',h,g⟩=>?_⟩
      rcases lM h with h | h
      ·exact .inl ⟨q',h,g⟩
      ·rw[D1] at h
       subst h;exact .inr g)
 have:rs=[]:=by cases rs with | nil=>rfl | cons _ _=>cases h1
 subst this;rw[EQ] at h2;subst h2;refine gB (ρ:=[some (.v (wD ps ts)),some (.v (tI dn)),some (.aA (dd ps φ)),some (.lst ((gh ts dn dn).map tI)),some (.aA (sn S)),x5,x6,x7]) rfl ?_ rfl;show FF.iS [some (.v (wD ps ts)),some (.v (tI dn)),none,none,none,none,none,none]=_;refine(aK (ρ1:=[some (.v (wD ps ts)),some (.v (tI dn)),some (.aA (dd ps φ)),none,none,none,none,none]) (by simp[hnear])).trans ?_
 refine(aK (ρ1:=[some (.v (wD ps ts)),some (.v (tI dn)),some (.aA (dd ps φ)),some (.lst []),none,none,none,none]) (by simp)).trans ?_
 refine(aK (ρ1:=[some (.v (wD ps ts)),some (.v (tI dn)),some (.aA (dd ps φ)),some (.lst []),some (.aA []),none,none,none]) (by simp)).trans ?_
 refine(aK (ρ1:=[some (.v (wD ps ts)),some (.v (tI dn)),some (.aA (dd ps φ)),some (.lst ((gh ts dn dn).map tI)),some (.aA (sn S)),x5,x6,x7]) (by unfold tI at e ⊢; simp[e])).trans ?_
 simp
end
section
variable{ps fs:List Int}{ts:List (Int×Int)}
theorem xx{fs:List Int}(nd:fs.Nodup)(g:Int->Int):∀(l d:List Int),d++l=fs->(l.map λx=>((JP x:Key),J3 (g x))).foldl (λa p=>putD a p.1 p.2) (gd g d)=gd g fs:=by
 intro l
 induction l with
 |nil=>intro d h; rw[<-h,EQ]; rfl
 |cons x l ih=>
  intro d h;have hx:x∉d:=by
   rw[<-h] at nd;exact λz=>(FM.mp nd).2.2 x z x lS rfl
  rw[FC,LQ];show Pg _ (putD (gd g d) (.inl x) (.int (g x))) _=_;rw[vV g d (g x) hx];have e:gd (λy=>if y=x then g x else g y) (d++[x])=gd g (d++[x]):=by
   unfold gd;refine IN λy _=>?_
   dsimp only
   by_cases h:y=x
   ·rw[if_pos h,h]
   ·rw[if_neg h]
  rw[e];exact ih (d++[x]) (by rw[Bi]; exact h)
theorem Cv(g:Int->Int)(W:List Int){r:Int}(v:Int)(h:r∈W):putD (gd g W) (.inl r) (.int v)=gd (λx=>if x=r then v else g x) W:=by
 unfold putD gd;rw[if_pos (by rw[iE]; simpa using h),Hk]
 refine IN λx _=>?_
 by_cases e:x=r
 ·simp[e]
 ·simp[e]
theorem relabel{a c:Int}{g0:Int->Int}{w0 w4 x6 w7 w8:Option M}(nd:fs.Nodup)(hl:fs.length<=1000)(ha:a∈fs)(hab:g0 a≠c):∃x6',
  forL (ah 6) (cP (aG (vB (dD false) (bO (aa 2) (aa 6)) (aa 5))) (gZ 2 (aa 6) (bO (aa 2) (aa 3))) bg) (fs.map .int) [w0,some (.v (tI fs)),some (.aA (gd g0 fs)),some (.v (.int a)),w4,some (.v (.int c)),x6,w7,w8] =
   some (.nx [w0,some (.v (tI fs)),some (.aA (gd (λx=>if g0 x=c then g0 a else g0 x) fs)),some (.v (.int a)),w4,some (.v (.int c)),x6',w7,w8]):=by
 obtain⟨ρ',e,dn,rs,g,y6,h1,h2,h3,h4,rfl⟩:=cz (fg:=ah 6) (fb:=cP (aG (vB (dD false) (bO (aa 2) (aa 6)) (aa 5))) (gZ 2 (aa 6) (bO (aa 2) (aa 3))) bg)
  (P:=λrest ρ=>∃ (dn rs:List Int) (g:Int->Int) (y6:Option M),rest=rs.map .int/\dn++rs=fs/\(∀x∈dn,g x=if g0 x=c then g0 a else g0 x)/\(∀x∈rs,g x=g0 x)/\ρ=[w0,some (.v (tI fs)),some (.aA (gd g fs)),some (.v (.int a)),w4,some (.v (.int c)),y6,w7,w8])
  (fs.map .int) [w0,some (.v (tI fs)),some (.aA (gd g0 fs)),some (.v (.int a)),w4,some (.v (.int c)),x6,w7,w8] ⟨[],fs,g0,x6,rfl,rfl,λx hx=>(nomatch hx),λ_ _=>rfl,rfl⟩ (λd rest ρ hP=>by
   obtain⟨dn,rs,g,y6,h1,h2,h3,h4,rfl⟩:=hP;cases rs with
   |nil=>cases h1
   |cons r rs=>
    obtain⟨rfl,rfl⟩:=Jf h1;have hr:r∈fs:=by rw[<-h2]; simp
    have gr:g r=g0 r:=h4 r lS;have ga:g a=g0 a:=by
     have hm:=ha;rw[<-h2] at hm;rcases lM hm with hm | hm
     ·rw[h3 a hm,if_neg hab]
     ·exact h4 a hm
    have hk:bE (gd g fs) (.inl r)=some (.int (g r)):=cu _ hr;have hka:bE (gd g fs) (.inl a)=some (.int (g a)):=cu _ ha;have hkd:dm (.int r)=some (.inl r):=rfl;have hkc:dm (.int a)=some (.inl a):=rfl;have hgl:(gd g fs).length<1000000:=by unfold gd; rw[BM]; lia
    have ndr:r∉dn/\r∉rs:=by
     rw[<-h2] at nd;have:=FM.mp nd;exact⟨λz=>this.2.2 r z r lS rfl,(IM.mp this.2.1).1⟩
    refine⟨[w0,some (.v (tI fs)),some (.aA (gd g fs)),some (.v (.int a)),w4,some (.v (.int c)),some (.v (.int r)),w7,w8],?_⟩
    by_cases c1:g r=c
    ·have q:=Cv g fs (g a) hr
     refine⟨[w0,some (.v (tI fs)),some (.aA (gd (λx=>if x=r then g a else g x) fs)),some (.v (.int a)),w4,some (.v (.int c)),some (.v (.int r)),w7,w8],by simp,?_,dn++[r],rs,λx=>if x=r then g a else g x,some (.v (.int r)),rfl,by rw[Bi]; exact h2,λx hx=>?_,λx hx=>?_,rfl⟩
     ·simp[hkd,hkc,hk,hka,c1,q,hgl,lim]
     ·dsimp only
      rcases lM hx with hx | hx
      ·rw[if_neg λe:x=r=>ndr.1 (e▸hx)]
       exact h3 x hx
      ·rw[D1] at hx
       subst hx;rw[if_pos rfl,if_pos (gr▸c1),ga]
     ·dsimp only
      rw[if_neg λe:x=r=>ndr.2 (e▸hx)]
      exact h4 x (lO _ hx)
    ·refine⟨[w0,some (.v (tI fs)),some (.aA (gd g fs)),some (.v (.int a)),w4,some (.v (.int c)),some (.v (.int r)),w7,w8],by simp,?_,dn++[r],rs,g,some (.v (.int r)),rfl,by rw[Bi]; exact h2,λx hx=>?_,λx hx=>h4 x (lO _ hx),rfl⟩
     ·simp[hkd,hk,c1]
     ·rcases lM hx with hx | hx
      ·exact h3 x hx
      ·rw[D1] at hx
       subst hx;rw[gr,if_neg (gr▸c1)])
 have:rs=[]:=by cases rs with | nil=>rfl | cons _ _=>cases h1
 subst this;rw[EQ] at h2;subst h2;refine⟨y6,e.trans ?_⟩;rw[show gd g dn=gd (λx=>if g0 x=c then g0 a else g0 x) dn from IN λx hx=>by rw[h3 x hx]]
theorem iG.sym{p q:Int}(hp:p∈fs)(h:iG ts fs p q):iG ts fs q p:=by
 induction h with
 |base=>exact .base
 |@step q r h a f ih=>exact(iG.step .base (a.elim .inr .inl) (h.or.elim (λe=>e▸hp) id):iG ts fs r q).trans ih
theorem iG.mono{us:List (Int×Int)}(hs:∀t∈ts,t∈us){p q:Int}(h:iG ts fs p q):iG us fs p q:=by
 induction h with
 |base=>exact .base
 |step _ a f ih=>exact .step ih (a.elim (λh=>.inl (hs _ h)) λh=>.inr (hs _ h)) f
theorem qx{dn:List (Int×Int)}{a b x y:Int}(hx:x∈fs):iG (dn++[(a,b)]) fs x y↔iG dn fs x y\/(a∈fs/\b∈fs/\((iG dn fs x a/\iG dn fs b y)\/(iG dn fs x b/\iG dn fs a y))):=by
 have hs:∀t∈dn,t∈dn++[(a,b)]:=λt h=>lL _ h
 have hab:Aq (dn++[(a,b)]) a b:=.inl (by simp)
 have hba:Aq (dn++[(a,b)]) b a:=.inr (by simp)
 constructor
 ·intro h
  induction h with
  |base=>exact .inl .base
  |@step q r h ad f ih=>
   have hq:q∈fs:=h.or.elim (λe=>e▸hx) id
   have ad':Aq dn q r\/(q=a/\r=b)\/(q=b/\r=a):=by
    rcases ad with ad | ad
    ·rcases lM ad with ad | ad
     ·exact .inl (.inl ad)
     ·simp at ad; exact .inr (.inl ad)
    ·rcases lM ad with ad | ad
     ·exact .inl (.inr ad)
     ·simp at ad; exact .inr (.inr ⟨ad.2,ad.1⟩)
   rcases ad' with ad | ⟨rfl,rfl⟩ | ⟨rfl,rfl⟩
   ·rcases ih with ih | ⟨h1,h2,⟨h3,h4⟩ | ⟨h3,h4⟩⟩
    ·exact .inl (.step ih ad f)
    ·exact .inr ⟨h1,h2,.inl ⟨h3,.step h4 ad f⟩⟩
    ·exact .inr ⟨h1,h2,.inr ⟨h3,.step h4 ad f⟩⟩
   ·rcases ih with ih | ⟨h1,h2,⟨h3,h4⟩ | ⟨h3,h4⟩⟩
    ·exact .inr ⟨hq,f,.inl ⟨ih,.base⟩⟩
    ·exact .inr ⟨hq,f,.inl ⟨h3,.base⟩⟩
    ·exact .inl h3
   ·rcases ih with ih | ⟨h1,h2,⟨h3,h4⟩ | ⟨h3,h4⟩⟩
    ·exact .inr ⟨f,hq,.inr ⟨ih,.base⟩⟩
    ·exact .inl h3
    ·exact .inr ⟨f,hq,.inr ⟨h3,.base⟩⟩
 ·rintro (h | ⟨h1,h2,⟨h3,h4⟩ | ⟨h3,h4⟩⟩)
  ·exact h.mono hs
  ·exact((h3.mono hs).trans (.step .base hab h2)).trans (h4.mono hs)
  ·exact((h3.mono hs).trans (.step .base hba h1)).trans (h4.mono hs)
def Mk(fs:List Int)(dn:List (Int×Int))(g:Int->Int):Prop:=∀x∈fs,∀y∈fs,g x=g y↔iG dn fs x y
theorem EZ:Mk fs [] id:=λx hx y hy=>by
 refine⟨λe=>?_,λh=>?_⟩
 ·have e:x=y:=e
  rw[e]; exact .base
 ·cases h with
  |base=>rfl
  |step _ a _=>rcases a with a | a <;> simp at a
theorem E1{dn:List (Int×Int)}{a b:Int}{g:Int->Int}(h:Mk fs dn g)(hn:¬ (a∈fs/\b∈fs)):Mk fs (dn++[(a,b)]) g:=λx hx y hy=>by
 rw[h x hx y hy,qx hx];exact⟨.inl,λz=>z.elim id λz=>absurd ⟨z.1,z.2.1⟩ hn⟩
theorem Cw{dn:List (Int×Int)}{a b:Int}{g:Int->Int}(h:Mk fs dn g)(ha:a∈fs)(hb:b∈fs)(e:g a=g b):Mk fs (dn++[(a,b)]) g:=λx hx y hy=>by
 have r:=(h a ha b hb).mp e;rw[h x hx y hy,qx hx];refine⟨.inl,λz=>?_⟩
 rcases z with z | ⟨_,_,⟨z1,z2⟩ | ⟨z1,z2⟩⟩
 ·exact z
 ·exact(z1.trans r).trans z2
 ·exact(z1.trans (r.sym ha)).trans z2
theorem Cy{dn:List (Int×Int)}{a b:Int}{g:Int->Int}(h:Mk fs dn g)(ha:a∈fs)(hb:b∈fs)(e:g a≠g b):Mk fs (dn++[(a,b)]) (λx=>if g x=g b then g a else g x):=λx hx y hy=>by
 rw[qx hx,<-h x hx y hy,<-h x hx a ha,<-h b hb y hy,<-h x hx b hb,<-h a ha y hy];simp only[ha,hb,true_and]
 by_cases c1:g x=g b
 ·by_cases c2:g y=g b
  ·simp[c1,c2]
  ·have c2':¬g b=g y:=λz=>c2 z.symm
   have e':¬g b=g a:=λz=>e z.symm
   simp[c1,c2,c2',e']
 ·by_cases c2:g y=g b
  ·have c1':¬g x=g y:=λz=>c1 (z.trans c2)
   simp[c1,c2]
  ·have c2':¬g b=g y:=λz=>c2 z.symm
   simp[c1,c2,c2']
theorem As(g:Int->Int)(W:List Int)(r:Int):kL false (.v (.int r)) (.aA (gd g W))=some (.v (.bool (decide (r∈W)))):=by
 have h:kL false (.v (.int r)) (.aA (gd g W))=some (.v (.bool ((bE (gd g W) (.inl r)).isSome))):=rfl;rw[h,vW]
noncomputable abbrev FP:FS:=cP (fu (aG (vB (kL false) (aa 3) (aa 2))) (fu (aG (vB (kL false) (aa 4) (aa 2))) (aG (vB (dD true) (bO (aa 2) (aa 3)) (bO (aa 2) (aa 4)))))) (aJ (bM 5 (bO (aa 2) (aa 4)))
 (eE (bR (aa 1)) (ah 6) (cP (aG (vB (dD false) (bO (aa 2) (aa 6)) (aa 5))) (gZ 2 (aa 6) (bO (aa 2) (aa 3))) bg))) bg
theorem Au{W0:Option M}(nd:fs.Nodup)(hl:fs.length<=1000):∃ (g:Int->Int) (x3 x4 x5 x6:Option M),Mk fs ts g /\
  forL (d9 2 (aT (ah 3) (aT (ah 4) eX))) FP (ts.map pD) [W0,some (.v (tI fs)),some (.aA (gd id fs)),none,none,none,none,none,none]=some (.nx [W0,some (.v (tI fs)),some (.aA (gd g fs)),x3,x4,x5,x6,none,none]):=by
 obtain⟨ρ',e,dn,rs,g,x3,x4,x5,x6,h1,h2,h3,rfl⟩:=cz (fg:=d9 2 (aT (ah 3) (aT (ah 4) eX))) (fb:=FP)
  (P:=λrest ρ=>∃ (dn rs:List (Int×Int)) (g:Int->Int) (x3 x4 x5 x6:Option M),rest=rs.map pD/\dn++rs=ts/\Mk fs dn g/\ρ=[W0,some (.v (tI fs)),some (.aA (gd g fs)),x3,x4,x5,x6,none,none])
  (ts.map pD) [W0,some (.v (tI fs)),some (.aA (gd id fs)),none,none,none,none,none,none] ⟨[],ts,id,none,none,none,none,rfl,rfl,EZ,rfl⟩ (λd rest ρ hP=>by
   obtain⟨dn,rs,g,x3,x4,x5,x6,h1,h2,h3,rfl⟩:=hP;cases rs with
   |nil=>cases h1
   |cons t rs=>
    obtain⟨rfl,rfl⟩:=Jf h1;obtain⟨a,b⟩:=t;have i1:=As g fs a;have i2:=As g fs b;have hkd:dm (.int a)=some (.inl a):=rfl;have hkc:dm (.int b)=some (.inl b):=rfl;refine⟨[W0,some (.v (tI fs)),some (.aA (gd g fs)),some (.v (.int a)),some (.v (.int b)),x5,x6,none,none],?_⟩
    by_cases c1:a∈fs/\b∈fs
    ·have hka:bE (gd g fs) (.inl a)=some (.int (g a)):=cu _ c1.1
     have hkb:bE (gd g fs) (.inl b)=some (.int (g b)):=cu _ c1.2
     by_cases c2:g a=g b
     ·refine⟨[W0,some (.v (tI fs)),some (.aA (gd g fs)),some (.v (.int a)),some (.v (.int b)),x5,x6,none,none],by simp[pD],?_,dn++[(a,b)],rs,g,some (.v (.int a)),some (.v (.int b)),x5,x6,rfl,by rw[Bi]; exact h2,Cw h3 c1.1 c1.2 c2,rfl⟩
      simp[FP,i1,i2,c1.1,c1.2,hkd,hkc,hka,hkb,c2]
     ·obtain⟨y6,r⟩:=relabel (fs:=fs) (a:=a) (c:=g b) (g0:=g) (w0:=W0) (w4:=some (.v (.int b))) (x6:=x6) (w7:=none) (w8:=none) nd hl c1.1 c2
      refine⟨[W0,some (.v (tI fs)),some (.aA (gd (λx=>if g x=g b then g a else g x) fs)),some (.v (.int a)),some (.v (.int b)),some (.v (.int (g b))),y6,none,none],by simp[pD],?_,dn++[(a,b)],rs,λx=>if g x=g b then g a else g x,some (.v (.int a)),some (.v (.int b)),some (.v (.int (g b))),y6,rfl,by rw[Bi]; exact h2,Cy h3 c1.1 c1.2 c2,rfl⟩
      unfold tI at r ⊢;simp[FP,i1,i2,c1.1,c1.2,hkd,hkc,hka,hkb,c2];exact r
    ·refine⟨[W0,some (.v (tI fs)),some (.aA (gd g fs)),some (.v (.int a)),some (.v (.int b)),x5,x6,none,none],by simp[pD],?_,dn++[(a,b)],rs,g,some (.v (.int a)),some (.v (.int b)),x5,x6,rfl,by rw[Bi]; exact h2,E1 h3 c1,rfl⟩
     by_cases c2:a∈fs
     ·have c3:b∉fs:=λz=>c1 ⟨c2,z⟩
      simp[FP,i1,i2,c2,c3]
     ·simp[FP,i1,c2])
 have:rs=[]:=by cases rs with | nil=>rfl | cons _ _=>cases h1
 subst this;rw[EQ] at h2;subst h2;exact⟨g,x3,x4,x5,x6,h3,e⟩
end
section
variable{ps fs:List Int}{ts:List (Int×Int)}
noncomputable def cl(fs:List Int)(g:Int->Int)(m:Int):List Int:=fs.filter λx=>decide (g x=m)
theorem E2{g:Int->Int}(hM:Mk fs ts g){p:Int}(hp:p∈fs):cls ts fs p=cl fs g (g p):=by
 unfold cls cl;refine List.filter_congr λx hx=>?_
 have h:=hM p hp x hx
 by_cases c:g x=g p
 ·simp[c,h.mp c.symm]
 ·have:¬iG ts fs p x:=λz=>c (h.mpr z).symm
  simp[c,this]
theorem sD(hr:fs.Pairwise (· < ·)){p:Int}(hp:p∈fs)(hL:xw ts fs p):∃t,cls ts fs p=p::t:=by
 have hm:p∈cls ts fs p:=(kO hp).mpr .base;have r:(cls ts fs p).Pairwise (· < ·):=hr.filter _;have low:∀x∈cls ts fs p,p<=x:=λx hx=>hL x (Jx.mp hx).1 (((kO hp).mp hx).sym hp)
 cases e:cls ts fs p with
 |nil=>rw[e] at hm; cases hm
 |cons h t=>
  rw[e] at hm r low;have h1:=low h lS;rcases lK hm with hm | hm
  ·exact⟨t,by rw[hm]⟩
  ·have:=(Ig.mp r).1 p hm
   lia
open Classical in
theorem uB{g:Int->Int}(hr:fs.Pairwise (· < ·))(hM:Mk fs ts g):kh ((bG ltZ (fs.map g)).map (cl fs g))=gh ts fs fs:=by
 have nd:fs.Nodup:=hr.imp λh=>MK h
 have hLm:∀p,p∈fs.filter (λp=>decide (xw ts fs p))↔p∈fs/\xw ts fs p:=λp=>by simp
 have rL:(fs.filter λp=>decide (xw ts fs p)).Pairwise (· < ·):=hr.filter _
 have e1:gh ts fs fs=((fs.filter λp=>decide (xw ts fs p)).map g).map (cl fs g):=by
  unfold gh;rw[Hk];exact IN λp hp=>E2 hM ((hLm p).mp hp).1
 have ndg:((fs.filter λp=>decide (xw ts fs p)).map g).Nodup:=by
  refine KA.mpr (rL.imp_of_mem λ{p q}hp hq hlt e=>?_)
  obtain⟨p1,p2⟩:=(hLm p).mp hp;obtain⟨q1,q2⟩:=(hLm q).mp hq;have h1:=q2 p p1 ((hM p p1 q q1).mp e);lia
 have ndu:(bG ltZ (fs.map g)).Nodup:=(jI qt (fs.map g)).imp λ{a b}h e=>by
  subst e;rw[qt.asym _ _ h] at h;cases h
 have perm:((fs.filter λp=>decide (xw ts fs p)).map g).Perm (bG ltZ (fs.map g)):=by
  refine(OA ndg ndu).mpr λk=>?_
  rw[eN qt];constructor
  ·intro h
   obtain⟨p,hp,rfl⟩:=Hd.mp h;exact Hd.mpr ⟨p,((hLm p).mp hp).1,rfl⟩
  ·intro h
   obtain⟨x,hx,rfl⟩:=Hd.mp h;have hc:x∈cl fs g (g x):=Jx.mpr ⟨hx,by simp⟩
   have r:(cl fs g (g x)).Pairwise (· < ·):=hr.filter _;cases e:cl fs g (g x) with
   |nil=>rw[e] at hc; cases hc
   |cons p t=>
    have hp:p∈cl fs g (g x):=by rw[e]; exact lS
    obtain⟨p1,p2⟩:=Jx.mp hp;have p2:g p=g x:=by simpa using p2
    refine Hd.mpr ⟨p,(hLm p).mpr ⟨p1,λq hq hqp=>?_⟩,p2⟩
    have hqc:q∈cl fs g (g x):=Jx.mpr ⟨hq,by rw[(hM q hq p p1).mpr hqp,p2]; simp⟩
    rw[e] at hqc r;rcases lK hqc with z | z
    ·lia
    ·have:=(Ig.mp r).1 q z
     lia
 symm
 refine lU (by rw[e1]; exact perm.map _) ?_
 unfold gh;refine KA.mpr (rL.imp_of_mem λ{p q}hp hq hlt=>?_)
 obtain⟨p1,p2⟩:=(hLm p).mp hp;obtain⟨q1,q2⟩:=(hLm q).mp hq;obtain⟨t,e⟩:=sD hr p1 p2;obtain⟨u,e'⟩:=sD hr q1 q2;rw[e,e',HT.bN,if_neg (by lia)]
 simp;lia
end
@[simp] theorem ownL_eq{n:Nat}{js:List Nat}{i:Nat}{fg:FG}{ft:FT}{fe:FE}{ρ:Ev}:ie n js i fg ft fe ρ=match cS ρ i with
 |some (.lst ds)=>if i∈js then none else (caps ρ js).bind λos=>(cD os ρ).bind λq=>
  (cg fg ft fe ds (FK n none++q.1.map some) []).bind λr=>(fin (FK js.length true) q.1 (r.2.drop n)).bind λms'=>some (.t (.lst r.1),fP os ms' q.2)
 |_=>tU n js (bR (aa i)) fg ft fe ρ:=rfl
section
variable{ps fs:List Int}{ts:List (Int×Int)}
theorem Av:∀(l:List Int),Ad (l.map λx=>.tuple [.int x,.int x])=some (l.map λx=>((JP x:Key),J3 (id x))):=by
 intro l
 induction l with
 |nil=>rfl
 |cons x l ih=>
  rw[FC,FC];show (GH (.tuple [.int x,.int x])).bind _=_;rw[show GH (.tuple [.int x,.int x])=some (.inl x,.int x) from rfl,IG,ih]
  rfl
theorem Aw(nd:fs.Nodup)(hl:fs.length<=1000){W0:Option M}{r:Ev}:cF FJ (af (ie 1 [] 1 (ah 0) dS (di (aj (aa 0) (af (aa 0)))))) (W0::some (.v (tI fs))::r)=some (.t (.aA (gd id fs)),W0::some (.v (tI fs))::r):=by
 obtain⟨y,e⟩:=iD (fe:=di (aj (aa 0) (af (aa 0)))) (cs:=[]) (f:=λd=>.tuple [d,d]) (fs.map .int) [] none (λd hd=>by
  obtain⟨x,_,rfl⟩:=Hd.mp hd;exact⟨.t (.v (.tuple [.int x,.int x])),by simp[lim],rfl⟩) (by simp; unfold lim; lia)
 rw[Im,Hk] at e;have e:cg (ah 0) dS (di (aj (aa 0) (af (aa 0)))) (fs.map .int) [none] []=some (fs.map (λx=>.tuple [.int x,.int x]),[y]):=e
 have hd:FJ [.lst (fs.map λx=>.tuple [.int x,.int x])]=some (.aA (gd id fs)):=by
  show (Ad _).bind _=_;rw[Av,IG,show ([]:List (Key×B2))=gd id [] from rfl,xx nd id fs [] rfl]
 unfold tI;simp[e,hd]
noncomputable abbrev Gk:FE:=cF gP (af (ie 1 [0,2] 1 (ah 0) (aG (vB (dD false) (bO (aa 2) (aa 0)) (aa 1))) (aa 0)))
theorem E3{g:Int->Int}(hl:fs.length<=1000)(m:Int):Gk [some (.v (.int m)),some (.v (tI fs)),some (.aA (gd g fs))]=some (.t (.v (tI (cl fs g m))),[some (.v (.int m)),some (.v (tI fs)),some (.aA (gd g fs))]):=by
 obtain⟨y,e⟩:=sA (ft:=aG (vB (dD false) (bO (aa 2) (aa 0)) (aa 1))) (fe:=aa 0) (cs:=[some (.v (.int m)),some (.aA (gd g fs))]) (p:=λx=>decide (g x=m)) (f:=.int) fs [] none (λx hx=>by
  have hk:bE (gd g fs) (.inl x)=some (.int (g x)):=cu _ hx;have hkd:dm (.int x)=some (.inl x):=rfl;exact⟨by simp[hk,hkd],.t (.v (.int x)),by simp,rfl⟩) (by simp; unfold lim; lia)
 rw[Im] at e;have e:cg (ah 0) (aG (vB (dD false) (bO (aa 2) (aa 0)) (aa 1))) (aa 0) (fs.map .int) [none,some (.v (.int m)),some (.aA (gd g fs))] []=some ((cl fs g m).map .int,[y,some (.v (.int m)),some (.aA (gd g fs))]):=e;unfold tI;simp[Gk,e]
theorem Ax{g:Int->Int}(hl:fs.length<=1000){ms:List Int}(hm:ms.length<=1000){W0 x3 x4 x5 x6 x8:Option M}:ie 1 [1,2] 7 (ah 0) dS Gk [W0,some (.v (tI fs)),some (.aA (gd g fs)),x3,x4,x5,x6,some (.lst (ms.map .int)),x8] =
  some (.t (.lst ((ms.map (cl fs g)).map tI)),[W0,some (.v (tI fs)),some (.aA (gd g fs)),x3,x4,x5,x6,some (.lst (ms.map .int)),x8]):=by
 obtain⟨y,e⟩:=iD (fe:=Gk) (cs:=[some (.v (tI fs)),some (.aA (gd g fs))]) (f:=λd=>match d with | .int m=>tI (cl fs g m) | d=>d) (ms.map .int) [] none (λd hd=>by
  obtain⟨m,_,rfl⟩:=Hd.mp hd;exact⟨_,E3 hl m,rfl⟩) (by simp; unfold lim; lia)
 rw[Im,Hk] at e;have e:cg (ah 0) dS Gk (ms.map .int) [none,some (.v (tI fs)),some (.aA (gd g fs))] []=some ((ms.map (cl fs g)).map tI,[y,some (.v (tI fs)),some (.aA (gd g fs))]):=by
  rw[Hk];exact e
 simp[e]
theorem Ay{F:List (List Int)}(hl:F.length<64)(hne:∀k∈F,k≠[]):eU [.lst (F.map tI)]=some (.lst ((kh F).map tI)):=by
 show (iN (F.map tI)).bind _=_;unfold iN;rw[BM,if_pos hl];cases F with
 |nil=>rfl
 |cons k F=>
  have e:gX ((k::F).map tI)=none:=rfl;have a:(k::F).all (λk=> !k.isEmpty)=true:=K2.mpr λx hx=>by simpa using hne x hx
  rw[e,qc,IG,if_pos a];rfl
theorem Az{l:List Int}(hl:l.length<=1000):FH [.lst (l.map .int)]=some (.lst ((bG ltZ l).map .int)):=by
 unfold FH;simp only[VL.seq];rw[IG,BM,if_pos hl,fZ]
theorem joined(w:Wb ps ts)(hn:ps.length<=24)(hs:∀x∈fs,x∈ps)(hr:fs.Pairwise (· < ·)):FF.bK [.v (wD ps ts),.v (tI fs)]=some (.v (.tuple ((gh ts fs fs).map tI)),[.v (wD ps ts),.v (tI fs)]):=by
 have nd:fs.Nodup:=hr.imp λh=>MK h
 have hfl:fs.length<=24:=Ip (len_sub nd hs) hn;obtain⟨g,x3,x4,x5,x6,hM,e⟩:=Au (ts:=ts) (W0:=some (.v (wD ps ts))) nd (by lia)
 have ndu:(bG ltZ (fs.map g)).Nodup:=(jI qt (fs.map g)).imp λ{a b}h e=>by
  subst e;rw[qt.asym _ _ h] at h;cases h
 have hml:(bG ltZ (fs.map g)).length<=24:=by
  have:=len_sub ndu λx hx=>(eN qt).mp hx
  rw[BM] at this;lia
 have hst:=Aw (fs:=fs) nd (by lia) (W0:=some (.v (wD ps ts))) (r:=[none,none,none,none,none,none,none])
 have hss:=Az (l:=fs.map g) (by rw[BM]; lia)
 have hvals:(gd g fs).map (·.2)=(fs.map g).map J3:=by unfold gd; rw[Hk,Hk]; rfl
 have hfo:=Ax (fs:=fs) (g:=g) (by lia) (ms:=bG ltZ (fs.map g)) (by lia) (W0:=some (.v (wD ps ts))) (x3:=x3) (x4:=x4) (x5:=x5) (x6:=x6) (x8:=none)
 have hso:=Ay (F:=(bG ltZ (fs.map g)).map (cl fs g)) (by rw[BM]; lia) (λk hk=>by
  obtain⟨m,hm,rfl⟩:=Hd.mp hk;obtain⟨x,hx,rfl⟩:=Hd.mp ((eN qt).mp hm);have hc:x∈cl fs g (g x):=Jx.mpr ⟨hx,by simp⟩
  exact λz=>by rw[z] at hc; cases hc)
 rw[uB hr hM] at hso;generalize bG ltZ (fs.map g)=ms at *;refine gB (ρ:=[some (.v (wD ps ts)),some (.v (tI fs)),some (.aA (gd g fs)),x3,x4,x5,x6,some (.lst (ms.map .int)),some (.lst ((ms.map (cl fs g)).map tI))]) rfl ?_ rfl;show FF.fK [some (.v (wD ps ts)),some (.v (tI fs)),none,none,none,none,none,none,none]=_;refine(aK (ρ1:=[some (.v (wD ps ts)),some (.v (tI fs)),some (.aA (gd id fs)),none,none,none,none,none,none]) (by rw[ql,hst]; rfl)).trans ?_
 refine(aK (ρ1:=[some (.v (wD ps ts)),some (.v (tI fs)),some (.aA (gd g fs)),x3,x4,x5,x6,none,none]) (by
  have hw:bO (aa 0) (vC (.int 1)) [some (.v (wD ps ts)),some (.v (tI fs)),some (.aA (gd id fs)),none,none,none,none,none,none]=some (.t (.v (.tuple (ts.map pD))),[some (.v (wD ps ts)),some (.v (tI fs)),some (.aA (gd id fs)),none,none,none,none,none,none]):=rfl;simp[hw,e])).trans ?_
 refine(aK (ρ1:=[some (.v (wD ps ts)),some (.v (tI fs)),some (.aA (gd g fs)),x3,x4,x5,x6,some (.lst (ms.map .int)),none]) (by
  have hpk:GG (aa 2) [some (.v (wD ps ts)),some (.v (tI fs)),some (.aA (gd g fs)),x3,x4,x5,x6,none,none]=some (.t (.lst ((fs.map g).map .int)),[some (.v (wD ps ts)),some (.v (tI fs)),some (.aA (gd g fs)),x3,x4,x5,x6,none,none]):=by
   rw[<-hvals]; rfl
  rw[ql,t7];simp only[rD,hpk,IG];rw[show gI [some (.v (wD ps ts)),some (.v (tI fs)),some (.aA (gd g fs)),x3,x4,x5,x6,none,none] [.t (.lst ((fs.map g).map .int))]=some [.lst ((fs.map g).map .int)] from rfl,IG,hss]
  rfl)).trans ?_
 refine(aK (ρ1:=[some (.v (wD ps ts)),some (.v (tI fs)),some (.aA (gd g fs)),x3,x4,x5,x6,some (.lst (ms.map .int)),some (.lst ((ms.map (cl fs g)).map tI))]) (by rw[ql,hfo]; rfl)).trans ?_
 rw[B0,t7];have hv:af (cF eU (af (aa 8))) [some (.v (wD ps ts)),some (.v (tI fs)),some (.aA (gd g fs)),x3,x4,x5,x6,some (.lst (ms.map .int)),some (.lst ((ms.map (cl fs g)).map tI))]=some ([.t (.lst ((gh ts fs fs).map tI))],[some (.v (wD ps ts)),some (.v (tI fs)),some (.aA (gd g fs)),x3,x4,x5,x6,some (.lst (ms.map .int)),some (.lst ((ms.map (cl fs g)).map tI))]):=by
  rw[rD,t7];rw[show af (aa 8) [some (.v (wD ps ts)),some (.v (tI fs)),some (.aA (gd g fs)),x3,x4,x5,x6,some (.lst (ms.map .int)),some (.lst ((ms.map (cl fs g)).map tI))]=some ([.p 8],[some (.v (wD ps ts)),some (.v (tI fs)),some (.aA (gd g fs)),x3,x4,x5,x6,some (.lst (ms.map .int)),some (.lst ((ms.map (cl fs g)).map tI))]) from rfl,IG]
  rw[show gI [some (.v (wD ps ts)),some (.v (tI fs)),some (.aA (gd g fs)),x3,x4,x5,x6,some (.lst (ms.map .int)),some (.lst ((ms.map (cl fs g)).map tI))] [.p 8]=some [.lst ((ms.map (cl fs g)).map tI)] from rfl,IG,hso]
  rfl
 rw[hv];rfl
end
theorem xy(n:Nat)(i:Int):FF.aD (n+1) [.v (.int i),.v (.int i)]=some (.v (.bool true),[.v (.int i),.v (.int i)]):=by
 simp[FF.aD,fG,subB]
theorem oY(n:Nat){ds:List B2}(hl:ds.length<=1000)(h:∀d∈ds,FF.aD n [.v d,.v d]=some (.v (.bool true),[.v d,.v d])):FF.aD (n+1) [.v (.tuple ds),.v (.tuple ds)]=some (.v (.bool true),[.v (.tuple ds),.v (.tuple ds)]):=by
 obtain⟨x,y,e⟩:=xr (u:=λd:B2=>d) (v:=λd=>d) (fe:=dQ (FF.aD n) (aj (aa 0) (af (aa 1)))) (cs:=[]) (f:=λ_=>.bool true) ds [] none none (λd hd=>⟨.t (.v (.bool true)),by simp[h d hd],rfl⟩) (by rw[Ic]; unfold lim; lia)
 rw[Im] at e;have hz:=An ds;have ha:=all_true ds;have he:dD true (.v (.int (ds.length:Int))) (.v (.int (ds.length:Int)))=some (.v (.bool false)):=by simp
 generalize ds.map (λd=>Qa [d,d])=Z at *
 generalize ds.map (λ_=>Od true)=B at *
 simp[FF.aD,fG,subB,he,hz,e,ha,-B4]
theorem uC(n:Nat){xs:List Int}(hl:xs.length<=1000):FF.aD (n+2) [.v (tI xs),.v (tI xs)]=some (.v (.bool true),[.v (tI xs),.v (tI xs)]) :=
 oY (n+1) (by rw[BM]; exact hl) λd hd=>by
  obtain⟨i,_,rfl⟩:=Hd.mp hd;exact xy n i
section
variable{ps fs:List Int}{ts:List (Int×Int)}
theorem xA(hl:fs.length<=1000):FF.aD 4 [.v (.tuple ((gh ts fs fs).map tI)),.v (.tuple ((gh ts fs fs).map tI))]=some (.v (.bool true),[.v (.tuple ((gh ts fs fs).map tI)),.v (.tuple ((gh ts fs fs).map tI))]) :=
 oY 3 (by rw[BM]; exact Ip (vY fs) hl) λd hd=>by
  obtain⟨c,hc,rfl⟩:=Hd.mp hd;refine uC 1 ?_;unfold gh at hc;obtain⟨p,_,rfl⟩:=Hd.mp hc;exact Ip (Oz _ _) hl
theorem hangs(w:Wb ps ts)(hn:ps.length<=24)(hs:∀x∈fs,x∈ps)(hr:fs.Pairwise (· < ·)):FF.cE [.v (wD ps ts),.v (tI fs)]=some (.v (.bool (decide (((gh ts fs fs).length:Int)=1))),[.v (wD ps ts),.v (tI fs)]):=by
 have h:=pieces w hn hs hr;refine gB (ρ:=[some (.v (wD ps ts)),some (.v (tI fs))]) rfl ?_ rfl;show FF.gF [some (.v (wD ps ts)),some (.v (tI fs))]=_;simp[FF.gF,h]
theorem Cz(p:Int):gh ts [p] [p]=[[p]]:=by
 have hL:xw ts [p] p:=λq hq _=>by rw[D1.mp hq]; exact Int.le_refl _
 have hc:cls ts [p] p=[p]:=by
  unfold cls;rw[LD,if_pos (by simpa using iG.base),Ng]
 have:=vX (dn:=[]) hL;rw[Im,hc] at this;exact this
end
theorem CA(ns:List Int):dD false (.v (tI ns)) (.v (.tuple []))=some (.v (.bool ns.isEmpty)):=by
 show (if qZ (.tuple (ns.map .int)) (.tuple [])=true then some (M.v (.bool (Ju (.tuple (ns.map .int)) (.tuple [])))) else none)=_
 rw[if_pos]
 ·cases ns <;> rfl
 ·unfold qZ
  rw[show ML (.tuple (ns.map .int))=true from qS ns,IW]
  exact⟨rfl,decide_eq_true (Ip (QR _ _) (by decide))⟩
section
variable{ps fs:List Int}{ts:List (Int×Int)}
theorem xB{g q c r:Int}(hg:0<=g)(h3:3<=r)(h6:r<6)(hl:ps.length<=1000):∃ (fs:List Int) (g' q' c':Int) (x:Option M),0<=g'/\fs.Sublist ps /\
  cg (ah 0) (aG (vB (dD false) (dQ FF.aq (aj (aa 1) (af (vB qX (aa 2) (vC (.int 1)))))) (vC (.int 0)))) (aa 0) (ps.map .int) [none,some (PA.ck g q c),some (.v (.int r))] []=some (fs.map .int,[x,some (PA.ck g' q' c'),some (.v (.int r))]):=by
 obtain⟨acc,ρ',e,dn,rs,fs,g',q',c',x,h1,h2,rfl,h4,h5,rfl⟩:=mz (fg:=ah 0) (ft:=aG (vB (dD false) (dQ FF.aq (aj (aa 1) (af (vB qX (aa 2) (vC (.int 1)))))) (vC (.int 0)))) (fe:=aa 0)
  (P:=λrest acc ρ=>∃ (dn rs fs:List Int) (g q c:Int) (x:Option M),rest=rs.map .int/\dn++rs=ps/\acc=fs.map .int/\fs.Sublist dn/\0<=g/\ρ=[x,some (PA.ck g q c),some (.v (.int r))])
  (ps.map .int) [none,some (PA.ck g q c),some (.v (.int r))] [] ⟨[],ps,[],g,q,c,none,rfl,rfl,rfl,KQ _,hg,rfl⟩ (λd rest acc ρ hP=>by
   obtain⟨dn,rs,fs,g,q,c,x,h1,h2,rfl,h4,h5,rfl⟩:=hP;cases rs with
   |nil=>cases h1
   |cons y rs=>
    obtain⟨rfl,rfl⟩:=Jf h1;obtain⟨k,g',q',c',k1,k2,k3,k4⟩:=PA.pick g q c (r-1) h5 (by lia) (by lia)
    have hdl:dn.length<=ps.length:=by rw[<-h2,FB]; lia
    have hfl:=h4.length_le;refine⟨by rw[BM]; unfold lim; lia,[some (.v (.int y)),some (PA.ck g q c),some (.v (.int r))],decide (k=0),[some (.v (.int y)),some (PA.ck g' q' c'),some (.v (.int r))],by simp,by simp[k4],?_⟩
    by_cases c1:k=0
    ·exact .inr ⟨by simp[c1],.t (.v (.int y)),[some (.v (.int y)),some (PA.ck g' q' c'),some (.v (.int r))],.int y,[some (.v (.int y)),some (PA.ck g' q' c'),some (.v (.int r))],by simp,rfl,dn++[y],rs,fs++[y],g',q',c',some (.v (.int y)),rfl,by rw[Bi]; exact h2,by simp,h4.append (KQ _),k3,rfl⟩
    ·exact .inl ⟨by simp[c1],dn++[y],rs,fs,g',q',c',some (.v (.int y)),rfl,by rw[Bi]; exact h2,rfl,h4.trans (List.sublist_append_left _ _),k3,rfl⟩)
 have:rs=[]:=by cases rs with | nil=>rfl | cons _ _=>cases h1
 subst this;rw[EQ] at h2;subst h2;exact⟨fs,g',q',c',x,h5,h4,e⟩
theorem AA{g q c:Int}(hg:0<=g)(hr:ps.Pairwise (· < ·))(hl:ps.length<=24):∃ (fs:List Int) (g' q' c':Int),0<=g'/\fs.Sublist ps/\FF.aW [PA.ck g q c,.v (tI ps)]=some (.v (tI fs),[PA.ck g' q' c',.v (tI ps)]):=by
 obtain⟨r,g1,q1,c1,a1,b1,k1,e1⟩:=PA.pick g q c 6 hg (by decide) (by decide)
 have start:∀{m:M}{ρ:Ev}{ms':List M},(aJ (cP (qy (aG (vB tK (aa 2) (vC (.int 2)))) (aG (vB (dD false) (aa 1) (di fY)))) (cZ (bO (iF (aj (di fY) (af (aa 1)))) (vB gV (aa 2) (vC (.int 2))))) bg)
 (aJ (cP (aG (vB (dD false) (aa 2) (vC (.int 2)))) (aJ (bM 3 (dQ FF.aq (aj (aa 0) (af (cF cK (af (aa 1)))))))
 (cZ (vB cB (Ec (aa 1) i7 (i8 (aa 3))) (Ec (aa 1) (i8 (vB cB (aa 3) (vC (.int 1)))) i7)))) bg)
 (cZ (cF gP (af (tU 1 [0,2] (bR (aa 1)) (ah 0) (aG (vB (dD false) (dQ FF.aq (aj (aa 1) (af (vB qX (aa 2) (vC (.int 1)))))) (vC (.int 0)))) (aa 0))))))) [some (PA.ck g1 q1 c1),some (.v (tI ps)),some (.v (.int r)),none]=some (.rt m ρ)->fin [true,true] [PA.ck g q c,.v (tI ps)] ρ=some ms' ->
   FF.aW [PA.ck g q c,.v (tI ps)]=some (m,ms'):=λ{m ρ ms'}h hf=>by
  refine gB (ρ:=ρ) rfl ?_ hf;show FF.gK [some (PA.ck g q c),some (.v (tI ps)),none,none]=_;refine(aK (ρ1:=[some (PA.ck g1 q1 c1),some (.v (tI ps)),some (.v (.int r)),none]) (by simp[e1])).trans ?_
  exact h
 by_cases h2:r<2
 ·by_cases h0:r=0
  ·subst h0
   refine⟨[],g1,q1,c1,k1,QC _,start (ρ:=[some (PA.ck g1 q1 c1),some (.v (tI ps)),some (.v (.int 0)),none]) ?_ rfl⟩;unfold tI;simp[jf,qH,lim]
  ·have h1:r=1:=by lia
   subst h1;refine⟨ps,g1,q1,c1,k1,KQ _,start (ρ:=[some (PA.ck g1 q1 c1),some (.v (tI ps)),some (.v (.int 1)),none]) ?_ rfl⟩;unfold tI;simp[jf,qH,lim]
 ·cases hps:ps with
  |nil=>
   subst hps;have hm:∃i:Int,(i=0\/i=1)/\r % 2=i:=⟨r % 2,by lia,rfl⟩
   obtain⟨i,hi,em⟩:=hm;refine⟨[],g1,q1,c1,k1,KQ _,start (ρ:=[some (PA.ck g1 q1 c1),some (.v (tI [])),some (.v (.int r)),none]) ?_ rfl⟩;have he:dD false (.v (.tuple [])) (.v (.tuple []))=some (.v (.bool true)):=rfl;unfold tI;rcases hi with rfl | rfl
   ·simp[h2,he,em,jf,qH,lim]
   ·simp[h2,he,em,jf,qH,lim]
  |cons p t=>
   rw[<-hps];have he:dD false (.v (tI ps)) (.v (.tuple []))=some (.v (.bool false)):=by rw[CA,hps]; rfl
   have hpl:0<ps.length:=by rw[hps]; exact Kp _
   by_cases h3:r=2
   ·subst h3
    obtain⟨k,g2,q2,c2,a2,b2,k2,e2⟩:=PA.pick g1 q1 c1 (ps.length:Int) k1 (by lia) (by lia)
    obtain⟨n,rfl⟩:∃n:Nat,k=(n:Int):=⟨k.toNat,by lia⟩
    have hn:n<ps.length:=by lia
    have c1':cutD (ps.map J3) none (some (n:Int))=(ps.take n).map .int:=by rw[xq,Ls]
    have c2':cutD (ps.map J3) (some ((n:Int)+1)) none=(ps.drop (n+1)).map .int:=by rw[show (n:Int)+1=((n+1:Nat):Int) by lia,Ao _ _ (by rw[BM]; lia),LM]
    have hsub:(ps.take n++ps.drop (n+1)).Sublist ps:=by
     conv=>rhs; rw[<-FX n ps]
     exact(KQ _).append (by rw[Iy hn]; exact List.sublist_cons_self _ _)
    refine⟨ps.take n++ps.drop (n+1),g2,q2,c2,k2,hsub,start (ρ:=[some (PA.ck g2 q2 c2),some (.v (tI ps)),some (.v (.int 2)),some (.v (.int (n:Int)))]) ?_ rfl⟩;unfold tI at he ⊢;simp only[Ls,LM] at c1' c2';have hle:min n ps.length+(ps.length-(n+1))<=1000000:=by lia
    simp[he,e2,c1',c2',lim,hle]
   ·obtain⟨fs,g2,q2,c2,x,k2,hsub,e⟩:=xB (ps:=ps) (g:=g1) (q:=q1) (c:=c1) (r:=r) k1 (by lia) (by lia) (by lia)
    refine⟨fs,g2,q2,c2,k2,hsub,start (ρ:=[some (PA.ck g2 q2 c2),some (.v (tI ps)),some (.v (.int r)),none]) ?_ rfl⟩;unfold tI at he ⊢;simp[h2,h3,he,e]
end
section
variable{ps fs:List Int}{ts:List (Int×Int)}
noncomputable abbrev GY:FS:=aJ (bM 7 (dQ FF.cE (aj (aa 3) (af (aa 4)))))
 (cP (qy (pW (p9 (dQ (FF.aD 4) (aj (dQ FF.br (aj (aa 3) (af (aa 4)))) (af (aa 5)))))) (qy (pW (p9 (vU (nE "bool") (aa 7)))) (aG (vB (dD true) (aa 7) (vB (dD false) (cF cK (af (aa 5))) (vC (.int 1))))))) (cZ (vC (.bool false))) bg)
theorem again{w0 w1 w2 x6 x7 x8:Option M}(w:Wb ps ts)(hn:ps.length<=24)(hs:∀x∈fs,x∈ps)(hr:fs.Pairwise (· < ·)):∃x7',GY [w0,w1,w2,some (.v (wD ps ts)),some (.v (tI fs)),some (.v (.tuple ((gh ts fs fs).map tI))),x6,x7,x8] =
  some (.nx [w0,w1,w2,some (.v (wD ps ts)),some (.v (tI fs)),some (.v (.tuple ((gh ts fs fs).map tI))),x6,x7',x8]):=by
 have h1:=hangs w hn hs hr;have h2:=pieces w hn hs hr;have nd:fs.Nodup:=hr.imp λh=>MK h
 have h3:=xA (ts:=ts) (fs:=fs) (by have:=len_sub nd hs; lia)
 refine⟨some (.v (.bool (decide (((gh ts fs fs).length:Int)=1)))),?_⟩;refine(aK (ρ1:=[w0,w1,w2,some (.v (wD ps ts)),some (.v (tI fs)),some (.v (.tuple ((gh ts fs fs).map tI))),x6,some (.v (.bool (decide (((gh ts fs fs).length:Int)=1)))),x8]) (by simp[h1])).trans ?_
 have hb:nE "bool" (.v (.bool (decide (((gh ts fs fs).length:Int)=1))))=some (.v (.bool true)):=rfl;have hsb:subB "bool" "bool" = true:=rfl;simp[h2,h3,hsb]
noncomputable abbrev GI:FS:=cP (qy (aG (vB (dD true) (dQ FF.br (aj (aa 3) (af (di (af (aa 8)))))) (di (af (di (af (aa 8))))))) (aG (vB (wN true) (dQ FF.cE (aj (aa 3) (af (di (af (aa 8)))))) (vC (.bool true))))) (cZ (vC (.bool false))) bg
theorem place{w0 w1 w2 w4 w5 w6 w7:Option M}{p:Int}(w:Wb ps ts)(hn:ps.length<=24)(hp:p∈ps):GI [w0,w1,w2,some (.v (wD ps ts)),w4,w5,w6,w7,some (.v (.int p))]=some (.nx [w0,w1,w2,some (.v (wD ps ts)),w4,w5,w6,w7,some (.v (.int p))]):=by
 have hs:∀x∈[p],x∈ps:=λx hx=>by rw[D1.mp hx]; exact hp
 have h1:=hangs (fs:=[p]) w hn hs (by simp)
 have h2:=pieces (fs:=[p]) w hn hs (by simp)
 rw[Cz] at h1 h2;have he:=eq_self (d:=.tuple [.tuple [.int p]]) rfl (by show (2:Nat)<=60; decide) true
 have hi:wN true (.v (.bool true)) (.v (.bool true))=some (.v (.bool false)):=rfl;unfold tI at h1 h2;simp at h1 h2 he;simp[h1,h2,he,hi,lim]
noncomputable abbrev GJ:FS:=aJ (bM 5 (dQ FF.bK (aj (aa 3) (af (aa 4))))) (eE (fD kE (af (vC (.int 2)))) (ah 6) GY)
theorem xC{w0 w1 w2 x5 x6 x7 x8:Option M}(w:Wb ps ts)(hn:ps.length<=24)(hs:∀x∈fs,x∈ps)(hr:fs.Pairwise (· < ·)):∃x5' x6' x7',GJ [w0,w1,w2,some (.v (wD ps ts)),some (.v (tI fs)),x5,x6,x7,x8] =
  some (.nx [w0,w1,w2,some (.v (wD ps ts)),some (.v (tI fs)),x5',x6',x7',x8]):=by
 have hj:=joined w hn hs hr;obtain⟨ρ',e,y6,y7,rfl⟩:=cz (fg:=ah 6) (fb:=GY) (P:=λ_ ρ=>∃ (y6 y7:Option M),ρ=[w0,w1,w2,some (.v (wD ps ts)),some (.v (tI fs)),some (.v (.tuple ((gh ts fs fs).map tI))),y6,y7,x8])
  (bV 0 2) [w0,w1,w2,some (.v (wD ps ts)),some (.v (tI fs)),some (.v (.tuple ((gh ts fs fs).map tI))),x6,x7,x8] ⟨x6,x7,rfl⟩ (λd rest ρ hP=>by
   obtain⟨y6,y7,rfl⟩:=hP;obtain⟨y7',h⟩:=again (w0:=w0) (w1:=w1) (w2:=w2) (x6:=some (.v d)) (x7:=y7) (x8:=x8) w hn hs hr;exact⟨[w0,w1,w2,some (.v (wD ps ts)),some (.v (tI fs)),some (.v (.tuple ((gh ts fs fs).map tI))),some (.v d),y7,x8],_,by simp,h,some (.v d),y7',rfl⟩)
 refine⟨some (.v (.tuple ((gh ts fs fs).map tI))),y6,y7,?_⟩;refine(aK (ρ1:=[w0,w1,w2,some (.v (wD ps ts)),some (.v (tI fs)),some (.v (.tuple ((gh ts fs fs).map tI))),x6,x7,x8]) (by simp[hj])).trans ?_
 have hsm:=small (k:=2) (by lia)
 simp[hsm];exact e
theorem AB{w0 w1 w2 x4 x5 x6 x7 x8:Option M}(w:Wb ps ts)(hn:ps.length<=24){L:List (List Int)}(hL:∀fs∈L,fs.Sublist ps):∃x4' x5' x6' x7',forL (ah 4) GJ (L.map tI) [w0,w1,w2,some (.v (wD ps ts)),x4,x5,x6,x7,x8] =
  some (.nx [w0,w1,w2,some (.v (wD ps ts)),x4',x5',x6',x7',x8]):=by
 obtain⟨ρ',e,rs,y4,y5,y6,y7,_,_,rfl⟩:=cz (fg:=ah 4) (fb:=GJ) (P:=λrest ρ=>∃ (rs:List (List Int)) (y4 y5 y6 y7:Option M),rest=rs.map tI/\(∀fs∈rs,fs.Sublist ps)/\ρ=[w0,w1,w2,some (.v (wD ps ts)),y4,y5,y6,y7,x8])
  (L.map tI) [w0,w1,w2,some (.v (wD ps ts)),x4,x5,x6,x7,x8] ⟨L,x4,x5,x6,x7,rfl,hL,rfl⟩ (λd rest ρ hP=>by
   obtain⟨rs,y4,y5,y6,y7,h1,h2,rfl⟩:=hP;cases rs with
   |nil=>cases h1
   |cons fs rs=>
    obtain⟨rfl,rfl⟩:=Jf h1;have hf:=h2 fs lS;obtain⟨y5',y6',y7',h⟩:=xC (w0:=w0) (w1:=w1) (w2:=w2) (x5:=y5) (x6:=y6) (x7:=y7) (x8:=x8) (fs:=fs) w hn (λx hx=>hf.subset hx) (w.rise.sublist hf)
    exact⟨[w0,w1,w2,some (.v (wD ps ts)),some (.v (tI fs)),y5,y6,y7,x8],_,by simp,h,rs,some (.v (tI fs)),y5',y6',y7',rfl,λf hf=>h2 f (lO _ hf),rfl⟩)
 exact⟨y4,y5,y6,y7,e⟩
theorem xD{w0 w1 w2 w4 w5 w6 w7 x8:Option M}(w:Wb ps ts)(hn:ps.length<=24):∃x8',forL (ah 8) GI (ps.map .int) [w0,w1,w2,some (.v (wD ps ts)),w4,w5,w6,w7,x8] =
  some (.nx [w0,w1,w2,some (.v (wD ps ts)),w4,w5,w6,w7,x8']):=by
 obtain⟨ρ',e,rs,y8,_,_,rfl⟩:=cz (fg:=ah 8) (fb:=GI) (P:=λrest ρ=>∃ (rs:List Int) (y8:Option M),rest=rs.map .int/\(∀p∈rs,p∈ps)/\ρ=[w0,w1,w2,some (.v (wD ps ts)),w4,w5,w6,w7,y8])
  (ps.map .int) [w0,w1,w2,some (.v (wD ps ts)),w4,w5,w6,w7,x8] ⟨ps,x8,rfl,λ_ h=>h,rfl⟩ (λd rest ρ hP=>by
   obtain⟨rs,y8,h1,h2,rfl⟩:=hP;cases rs with
   |nil=>cases h1
   |cons p rs=>
    obtain⟨rfl,rfl⟩:=Jf h1;exact⟨[w0,w1,w2,some (.v (wD ps ts)),w4,w5,w6,w7,some (.v (.int p))],_,by simp,place w hn (h2 p lS),rs,some (.v (.int p)),rfl,λq hq=>h2 q (lO _ hq),rfl⟩)
 exact⟨y8,e⟩
theorem E4{g q c:Int}{k:Nat}(hg:0<=g)(w:Wb ps ts)(hn:ps.length<=24)(ds:List B2)(hd:ds.length<=100):∃ (L:List (List Int)) (g' q' c':Int) (x:Option M),0<=g'/\(∀fs∈L,fs.Sublist ps)/\L.length<=ds.length /\
  cg (ah 0) dS (dQ FF.aW (aj (aa 1) (af (bO (aa 2) (vC (.int 0)))))) ds [none,some (PA.ck g q c),some (.v (wD ps ts))] []=some (L.map tI,[x,some (PA.ck g' q' c'),some (.v (wD ps ts))]):=by
 obtain⟨acc,ρ',e,L,g',q',c',x,rfl,h4,h5,h6,rfl⟩:=mz (fg:=ah 0) (ft:=dS) (fe:=dQ FF.aW (aj (aa 1) (af (bO (aa 2) (vC (.int 0))))))
  (P:=λrest acc ρ=>∃ (L:List (List Int)) (g q c:Int) (x:Option M),acc=L.map tI/\(∀fs∈L,fs.Sublist ps)/\0<=g/\L.length+rest.length<=ds.length/\ρ=[x,some (PA.ck g q c),some (.v (wD ps ts))])
  ds [none,some (PA.ck g q c),some (.v (wD ps ts))] [] ⟨[],g,q,c,none,rfl,λ_ h=>(nomatch h),hg,by simp,rfl⟩ (λd rest acc ρ hP=>by
   obtain⟨L,g,q,c,x,rfl,h4,h5,h6,rfl⟩:=hP;rw[Bz] at h6;obtain⟨fs,g',q',c',k1,k2,k3⟩:=AA (ps:=ps) (g:=g) (q:=q) (c:=c) h5 w.rise hn;have hw:bO (aa 2) (vC (.int 0)) [some (.v d),some (PA.ck g q c),some (.v (wD ps ts))]=some (.t (.v (tI ps)),[some (.v d),some (PA.ck g q c),some (.v (wD ps ts))]):=rfl;refine⟨by rw[BM]; unfold lim; lia,[some (.v d),some (PA.ck g q c),some (.v (wD ps ts))],true,[some (.v d),some (PA.ck g q c),some (.v (wD ps ts))],by simp,rfl,.inr ⟨rfl,.t (.v (tI fs)),[some (.v d),some (PA.ck g' q' c'),some (.v (wD ps ts))],tI fs,[some (.v d),some (PA.ck g' q' c'),some (.v (wD ps ts))],by simp[hw,k3],rfl,L++[fs],g',q',c',some (.v d),by simp,λf hf=>?_,k1,by rw[FB,Jh]; lia,rfl⟩⟩
   rcases lM hf with hf | hf
   ·exact h4 f hf
   ·rw[D1.mp hf]; exact k2)
 exact⟨L,g',q',c',x,h5,h4,by simpa using h6,e⟩
end
def AD:Prop:=∀(g q c:Int)(ps:List Int)(ts:List (Int×Int)),0<=g->CZ ps ts->∃ (us:List (Int×Int)) (g' q' c':Int),0<=g'/\Wb ps us/\FF.aZ [PA.ck g q c,.v (wD ps ts)]=some (.v (wD ps us),[PA.ck g' q' c',.v (wD ps ts)])
noncomputable abbrev GZ:FE:=vB cB (tU 1 [2,3] (fD kE (af (vC (.int 7)))) (ah 0) dS (dQ FF.aW (aj (aa 1) (af (bO (aa 2) (vC (.int 0))))))) (iF (aj (di fY) (af (bO (aa 3) (vC (.int 0))))))
theorem E5{ps:List Int}{us:List (Int×Int)}{g q c:Int}{w0 w1 x4 x5 x6 x7 x8:Option M}(hg:0<=g)(w:Wb ps us)(hn:ps.length<=24):∃ (L:List (List Int)) (g' q' c':Int),0<=g'/\(∀fs∈L,fs.Sublist ps) /\
  GZ [w0,w1,some (PA.ck g q c),some (.v (wD ps us)),x4,x5,x6,x7,x8]=some (.t (.lst (L.map tI)),[w0,w1,some (PA.ck g' q' c'),some (.v (wD ps us)),x4,x5,x6,x7,x8]):=by
 obtain⟨L,g',q',c',x,k1,k2,k3,e⟩:=E4 (k:=0) (g:=g) (q:=q) (c:=c) hg w hn (bV 0 7) (by decide)
 refine⟨L++[[],ps],g',q',c',k1,λf hf=>?_,?_⟩
 ·rcases lM hf with hf | hf
  ·exact k2 f hf
  ·simp only[IQ,Hm,or_false] at hf
   rcases hf with rfl | rfl
   ·exact QC _
   ·exact KQ _
 ·have hsm:=small (k:=7) (by lia)
  have k3':L.length<=7:=k3;have hw:bO (aa 3) (vC (.int 0)) [w0,w1,some (PA.ck g' q' c'),some (.v (wD ps us)),x4,x5,x6,x7,x8]=some (.t (.v (tI ps)),[w0,w1,some (PA.ck g' q' c'),some (.v (wD ps us)),x4,x5,x6,x7,x8]):=rfl;have hle:L.length+2<=1000000:=by lia
  have ht:tI []=.tuple []:=rfl;simp[GZ,hsm,e,hw,hle,ht,lim]
noncomputable abbrev H9:FS:=aJ (bM 2 (dQ FF.bQ (aj (aa 0) (af (aa 1)))))
 (aJ (bM 3 (dQ FF.aZ (aj (aa 2) (af (dQ FF.cJ (aj (aa 2) (af (vC (.int 24)))))))))
 (aJ (eE (bR GZ) (ah 4) GJ) (eE (bR (bO (aa 3) (vC (.int 0)))) (ah 8) GI)))
theorem E6(hst:AD)(ns:List Int)(hl:ns.length<=63):∃ms,FF.mU [.v (.list (ns.map .int))]=some (.v (.bool true),ms):=by
 have hm:∃m:Int,1<=m/\m<=6/\(1+if ((ns.length:Nat):Int)<5 then ((ns.length:Nat):Int) else 5)=m:=⟨_,by split <;> lia,by split <;> lia,rfl⟩
 obtain⟨m,m1,m6,em⟩:=hm;obtain⟨ρ',e,_,x1,x2,x3,x4,x5,x6,x7,x8,rfl⟩:=cz (fg:=ah 1) (fb:=H9) (P:=λrest ρ=>(∀d∈rest,∃k:Int,d=.int k/\0<=k/\k<=100)/\∃ (x1 x2 x3 x4 x5 x6 x7 x8:Option M),ρ=[some (.v (.list (ns.map .int))),x1,x2,x3,x4,x5,x6,x7,x8])
  (bV 0 m) [some (.v (.list (ns.map .int))),none,none,none,none,none,none,none,none] ⟨λd hd=>by
   obtain⟨k,e,h0,h1⟩:=mV 0 m d hd;exact⟨k,e,h0,by lia⟩,none,none,none,none,none,none,none,none,rfl⟩ (λd rest ρ hP=>by
   obtain⟨hd,x1,x2,x3,x4,x5,x6,x7,x8,rfl⟩:=hP;obtain⟨k,rfl,k0,k100⟩:=hd d lS;obtain⟨g,q,c,hg,e1⟩:=PA.left ns k hl k0 k100;obtain⟨ps,ts,g1,q1,c1,hg1,w,e2⟩:=PA.HX g q c 24 hg (by decide) (by decide)
   obtain⟨us,g2,q2,c2,hg2,wb,e3⟩:=hst g1 q1 c1 ps ts hg1 w;obtain⟨L,g3,q3,c3,hg3,hL,e4⟩:=E5 (w0:=some (.v (.list (ns.map .int)))) (w1:=some (.v (.int k))) (x4:=x4) (x5:=x5) (x6:=x6) (x7:=x7) (x8:=x8) hg2 wb w.few;obtain⟨y4,y5,y6,y7,e5⟩:=AB (w0:=some (.v (.list (ns.map .int)))) (w1:=some (.v (.int k))) (w2:=some (PA.ck g3 q3 c3)) (x4:=x4) (x5:=x5) (x6:=x6) (x7:=x7) (x8:=x8) wb w.few hL;obtain⟨y8,e6⟩:=xD (w0:=some (.v (.list (ns.map .int)))) (w1:=some (.v (.int k))) (w2:=some (PA.ck g3 q3 c3)) (w4:=y4) (w5:=y5) (w6:=y6) (w7:=y7) (x8:=x8) wb w.few;refine⟨[some (.v (.list (ns.map .int))),some (.v (.int k)),x2,x3,x4,x5,x6,x7,x8],[some (.v (.list (ns.map .int))),some (.v (.int k)),some (PA.ck g3 q3 c3),some (.v (wD ps us)),y4,y5,y6,y7,y8],by simp,?_,λd h=>hd d (lO _ h),_,_,_,_,_,_,_,_,rfl⟩
   refine(aK (ρ1:=[some (.v (.list (ns.map .int))),some (.v (.int k)),some (PA.ck g q c),x3,x4,x5,x6,x7,x8]) (by simp[e1])).trans ?_
   refine(aK (ρ1:=[some (.v (.list (ns.map .int))),some (.v (.int k)),some (PA.ck g2 q2 c2),some (.v (wD ps us)),x4,x5,x6,x7,x8]) (by simp[e2,e3])).trans ?_
   refine(aK (ρ1:=[some (.v (.list (ns.map .int))),some (.v (.int k)),some (PA.ck g3 q3 c3),some (.v (wD ps us)),y4,y5,y6,y7,x8]) (by rw[B3,zF,e4]; exact e5)).trans ?_
   have hw:bO (aa 3) (vC (.int 0)) [some (.v (.list (ns.map .int))),some (.v (.int k)),some (PA.ck g3 q3 c3),some (.v (wD ps us)),y4,y5,y6,y7,x8]=some (.t (.v (tI ps)),[some (.v (.list (ns.map .int))),some (.v (.int k)),some (PA.ck g3 q3 c3),some (.v (wD ps us)),y4,y5,y6,y7,x8]):=rfl;unfold tI at hw;simp[hw];exact e6)
 refine⟨_,gB (ρ:=[some (.v (.list (ns.map .int))),x1,x2,x3,x4,x5,x6,x7,x8]) rfl ?_ rfl⟩;show FF.mT [some (.v (.list (ns.map .int))),none,none,none,none,none,none,none,none]=_;refine(aK (ρ1:=[some (.v (.list (ns.map .int))),x1,x2,x3,x4,x5,x6,x7,x8]) ?_).trans (by simp)
 have hsm:=small (k:=m) (by lia)
 simp[em,hsm];exact e
section
noncomputable abbrev tk1(t:Int×Int):List Key×B2:=([.inl t.1,.inl t.2],.bool true)
noncomputable def adP(S:List (Int×Int))(t:Int×Int):List (Int×Int):=if t∈S then S else S++[t]
theorem key_eq{t:Int×Int}{a b:Int}:((tk1 t).1=[.inl a,.inl b])↔t=(a,b):=by
 constructor
 ·intro h
  injection h with h1 h2
  injection h2 with h2 _
  injection h1 with h1
  injection h2 with h2
  exact Prod.ext h1 h2
 ·rintro rfl; rfl
theorem putT_tk(S:List (Int×Int))(a b:Int):r6 (S.map tk1) [.inl a,.inl b] (.bool true)=(adP S (a,b)).map tk1:=by
 have ha:((S.map tk1).any λkv=>decide (kv.1=[.inl a,.inl b]))=decide ((a,b)∈S):=by
  rw[Bool.eq_iff_iff,List.any_eq_true,decide_eq_true_iff];constructor
  ·rintro⟨x,hx,e⟩
   obtain⟨t,ht,rfl⟩:=Hd.mp hx;rw[<-key_eq.mp (of_decide_eq_true e)];exact ht
  ·intro h
   exact⟨tk1 (a,b),Hd.mpr ⟨_,h,rfl⟩,decide_eq_true rfl⟩
 unfold r6 adP;rw[ha]
 by_cases h:(a,b)∈S
 ·rw[if_pos (decide_eq_true h),if_pos h,Hk]
  refine IN λt _=>?_
  by_cases e:t=(a,b)
  ·subst e; exact if_pos rfl
  ·exact if_neg λz=>e (key_eq.mp z)
 ·rw[if_neg (by simpa using h),if_neg h,Iw]
  rfl
theorem adP_len(S:List (Int×Int))(t:Int×Int):(adP S t).length<=S.length+1:=by
 unfold adP
 split
 ·lia
 ·simp
theorem mem_adP{S:List (Int×Int)}{t u:Int×Int}(h:u∈adP S t):u∈S\/u=t:=by
 unfold adP at h
 split at h
 ·exact .inl h
 ·simpa using h
theorem insU_len{α:Type}{lt:α->α->Bool}(x:α):∀(l:List α),(nK lt x l).length<=l.length+1
 |[]=>by simp[nK]
 |y::ys=>by
  have:=insU_len (lt:=lt) x ys;unfold nK
  split
  ·rw[Bz,Bz]; lia
  ·split <;> simp
theorem uSort_len{α:Type}{lt:α->α->Bool}:∀(l:List α),(bG lt l).length<=l.length
 |[]=>D2 _
 |x::xs=>by
  have h1:=insU_len (lt:=lt) x (bG lt xs);have h2:=uSort_len (lt:=lt) xs;unfold bG;rw[Bz];lia
noncomputable abbrev pL(t:Int×Int):List Int:=[t.1,t.2]
theorem pre_pL{S:List (Int×Int)}:∀(l:List (List Int)),(∀x∈l,x∈S.map pL)->∃us:List (Int×Int),l=us.map pL/\∀t∈us,t∈S
 |[],_=>⟨[],rfl,λ_ h=>(nomatch h)⟩
 |x::l,h=>by
  obtain⟨us,e,h2⟩:=pre_pL l λy hy=>h y (lO _ hy)
  obtain⟨t,ht,rfl⟩:=Hd.mp (h x lS);refine⟨t::us,by rw[FC,<-e],λu hu=>?_⟩
  rcases lK hu with rfl | hu
  ·exact ht
  ·exact h2 u hu
theorem sd_tk{S:List (Int×Int)}(hl:S.length<=1000):∃us:List (Int×Int),us.length<=S.length/\(∀t∈us,t∈S)/\Gj [.dtp (S.map tk1)]=some (.lst (us.map pD)):=by
 obtain⟨us,e,h⟩:=pre_pL (S:=S) (bG HT.lexLt (S.map pL)) λx hx=>(eN totL).mp hx
 have hk:(S.map tk1).map (·.1)=(S.map pL).map λk:List Int=>k.map JP:=by rw[Hk,Hk]; rfl
 refine⟨us,?_,h,?_⟩
 ·have:=uSort_len (lt:=HT.lexLt) (S.map pL)
  rw[e,BM,BM] at this;exact this
 ·show (oU ((S.map tk1).map (·.1))).bind _=_
  have ha:(S.map pL).all (λk=> !k.isEmpty)=true:=K2.mpr λx hx=>by
   obtain⟨t,_,rfl⟩:=Hd.mp hx;rfl
  rw[hk,se,IG,if_pos ⟨by rw[BM]; exact hl,ha⟩,e,Hk]
  rfl
noncomputable abbrev stI:FE:=bO (bO (aa 1) (vC (.int 0))) (vB gV (vB mulM (aa 2) (aa 0)) (cF cK (af (bO (aa 1) (vC (.int 0))))))
theorem order{ps:List Int}{ts:List (Int×Int)}{st:Int}(h1:0<=st)(h2:st<=100)(hp:0<ps.length)(hn:ps.length<=24):∃ (os:List Int) (x:Option M),os.length=ps.length/\(∀y∈os,y∈ps) /\
  cg (ah 0) dS stI (bV 0 (ps.length:Int)) [none,some (.v (wD ps ts)),some (.v (.int st))] []=some (os.map .int,[x,some (.v (wD ps ts)),some (.v (.int st))]):=by
 obtain⟨acc,ρ',e,os,x,k1,rfl,k3,k4,rfl⟩:=mz (fg:=ah 0) (ft:=dS) (fe:=stI) (P:=λrest acc ρ=>∃ (os:List Int) (x:Option M),(∀d∈rest,∃k:Int,d=.int k/\0<=k/\k<ps.length)/\acc=os.map .int/\os.length+rest.length=ps.length/\(∀y∈os,y∈ps)/\ρ=[x,some (.v (wD ps ts)),some (.v (.int st))])
  (bV 0 (ps.length:Int)) [none,some (.v (wD ps ts)),some (.v (.int st))] [] ⟨[],none,mV _ _,rfl,by rw[mW]; simp,λ_ h=>(nomatch h),rfl⟩ (λd rest acc ρ hP=>by
   obtain⟨os,x,k1,rfl,k3,k4,rfl⟩:=hP;obtain⟨k,rfl,a,b⟩:=k1 _ lS;rw[Bz] at k3;have hpz:(0:Int)<ps.length:=by lia
   obtain⟨p,hpm,ep⟩:=PA.fj (ns:=ps) (i:=st*k % (ps.length:Int)) (Ky _ (by lia)) (L3 _ hpz)
   have hw:bO (aa 1) (vC (.int 0)) [some (.v (.int k)),some (.v (wD ps ts)),some (.v (.int st))]=some (.t (.v (tI ps)),[some (.v (.int k)),some (.v (wD ps ts)),some (.v (.int st))]):=rfl;refine⟨by rw[BM]; unfold lim; lia,[some (.v (.int k)),some (.v (wD ps ts)),some (.v (.int st))],true,[some (.v (.int k)),some (.v (wD ps ts)),some (.v (.int st))],by simp,rfl,.inr ⟨rfl,.t (.v (.int p)),[some (.v (.int k)),some (.v (wD ps ts)),some (.v (.int st))],.int p,[some (.v (.int k)),some (.v (wD ps ts)),some (.v (.int st))],?_,rfl,os++[p],some (.v (.int k)),λd h=>k1 d (lO _ h),by simp,by rw[FB,Jh]; lia,λy hy=>?_,rfl⟩⟩
   ·have hm:(-18446744073709551616<st/\st<18446744073709551616)\/(-18446744073709551616<k/\k<18446744073709551616):=.inl ⟨by lia,by lia⟩
    have hlen:cK [M.v (tI ps)]=some (.v (.int ps.length)):=by unfold tI; rw[vq,BM]
    have hg:getM (.v (tI ps)) (.v (.int (st*k % (ps.length:Int))))=some (.v (.int p)):=by unfold tI; rw[zE,ep]; rfl
    rw[stI,EN,hw];simp[hm,hlen,hp,hg]
   ·rcases lM hy with hy | hy
    ·exact k4 y hy
    ·rw[D1.mp hy]; exact hpm)
 exact⟨os,x,by simpa using k3,k4,e⟩
noncomputable abbrev stB:FS:=cP (fu (aG (vB (dD true) (bO (aa 4) (aa 6)) (bO (aa 4) (vB cB (aa 6) (vC (.int 1)))))) (qy (aG (vB (dD false) (aa 2) (vC (.int 0)))) (aG (vB (dD true) (aa 6) (vB kg (cF cK (af (aa 4))) (vC (.int 2))))))) (oS 5 (aj (cF tN (aj (bO (aa 4) (aa 6)) (af (bO (aa 4) (vB cB (aa 6) (vC (.int 1))))))) (af (cF oq (aj (bO (aa 4) (aa 6)) (af (bO (aa 4) (vB cB (aa 6) (vC (.int 1))))))))) (vC (.bool true))) bg
@[simp] theorem vPutT_eq{i:Nat}{fa:FA}{fe:FE}{ρ:Ev}:oS i fa fe ρ=(fe ρ).bind λp=>(cU p.1 p.2).bind λq=>(cS q.2 i).bind λm0=>match m0 with
 |.dtp _=>(fa q.2).bind λr=>(dG r.1 r.2).bind λt=>(Gi t.1).bind λk=>(cS t.2 i).bind λm=>match m with
  |.dtp kvs=>if kvs.length<lim/\t.1.length<=lim then some (.nx (t.2.set i (some (.dtp (r6 kvs k q.1))))) else none
  |_=>none
 |_=>none:=rfl
theorem st_step{ps os:List Int}{S:List (Int×Int)}{w0 w1 w3:Option M}{ch k:Int}(ho:∀y∈os,y∈ps)(hS:∀t∈S,t.1∈ps/\t.2∈ps/\t.1<t.2)(hl:S.length<=1000)(k0:0<=k)(k1:k+1<os.length) :
  ∃S':List (Int×Int),S'.length<=S.length+1/\(∀t∈S',t.1∈ps/\t.2∈ps/\t.1<t.2)/\stB [w0,w1,some (.v (.int ch)),w3,some (.lst (os.map .int)),some (.dtp (S.map tk1)),some (.v (.int k))] =
   some (.nx [w0,w1,some (.v (.int ch)),w3,some (.lst (os.map .int)),some (.dtp (S'.map tk1)),some (.v (.int k))]):=by
 obtain⟨p,hp,ep⟩:=PA.fj (ns:=os) (i:=k) k0 (by lia)
 obtain⟨q,hq,eq⟩:=PA.fj (ns:=os) (i:=k+1) (by lia) k1
 by_cases c1:p=q
 ·refine⟨S,by lia,hS,?_⟩
  subst c1;simp[ep,eq]
 ·have hmm:∃a b:Int,a∈ps/\b∈ps/\a<b/\(if q<p then q else p)=a/\(if q>p then q else p)=b:=by
   by_cases h:q<p
   ·exact⟨q,p,ho q hq,ho p hp,h,if_pos h,if_neg (by lia)⟩
   ·exact⟨p,q,ho p hp,ho q hq,by lia,if_neg h,if_pos (by lia)⟩
  obtain⟨a,b,ha,hb,hab,ea,eb⟩:=hmm;have put:oS 5 (aj (cF tN (aj (bO (aa 4) (aa 6)) (af (bO (aa 4) (vB cB (aa 6) (vC (.int 1))))))) (af (cF oq (aj (bO (aa 4) (aa 6)) (af (bO (aa 4) (vB cB (aa 6) (vC (.int 1))))))))) (vC (.bool true)) [w0,w1,some (.v (.int ch)),w3,some (.lst (os.map .int)),some (.dtp (S.map tk1)),some (.v (.int k))] =
    some (.nx [w0,w1,some (.v (.int ch)),w3,some (.lst (os.map .int)),some (.dtp ((adP S (a,b)).map tk1)),some (.v (.int k))]):=by
   have hlt:S.length<1000000:=by lia
   have hk:Gi [.int a,.int b]=some [.inl a,.inl b]:=rfl;have h2:(2:Nat)<=1000000:=by decide
   simp[ep,eq,ea,eb,hk,hlt,lim,<-putT_tk]
  by_cases c2:ch=0\/k≠(os.length:Int) / 2
  ·refine⟨adP S (a,b),adP_len _ _,λt ht=>?_,?_⟩
   ·rcases mem_adP ht with h | rfl
    ·exact hS t h
    ·exact⟨ha,hb,hab⟩
   ·rw[stB,vo]
    have hc:(fu (aG (vB (dD true) (bO (aa 4) (aa 6)) (bO (aa 4) (vB cB (aa 6) (vC (.int 1)))))) (qy (aG (vB (dD false) (aa 2) (vC (.int 0)))) (aG (vB (dD true) (aa 6) (vB kg (cF cK (af (aa 4))) (vC (.int 2))))))) [w0,w1,some (.v (.int ch)),w3,some (.lst (os.map .int)),some (.dtp (S.map tk1)),some (.v (.int k))] =
      some (true,[w0,w1,some (.v (.int ch)),w3,some (.lst (os.map .int)),some (.dtp (S.map tk1)),some (.v (.int k))]):=by
     rcases c2 with c2 | c2
     ·simp[ep,eq,c1,c2]
     ·by_cases c3:ch=0
      ·simp[ep,eq,c1,c3]
      ·simp[ep,eq,c1,c2,c3]
    rw[hc];exact put
  ·refine⟨S,by lia,hS,?_⟩
   have c3:¬ch=0:=λz=>c2 (.inl z)
   have c4:k=(os.length:Int) / 2:=IU λz=>c2 (.inr z)
   rw[stB,vo];have hc:(fu (aG (vB (dD true) (bO (aa 4) (aa 6)) (bO (aa 4) (vB cB (aa 6) (vC (.int 1)))))) (qy (aG (vB (dD false) (aa 2) (vC (.int 0)))) (aG (vB (dD true) (aa 6) (vB kg (cF cK (af (aa 4))) (vC (.int 2))))))) [w0,w1,some (.v (.int ch)),w3,some (.lst (os.map .int)),some (.dtp (S.map tk1)),some (.v (.int k))] =
     some (false,[w0,w1,some (.v (.int ch)),w3,some (.lst (os.map .int)),some (.dtp (S.map tk1)),some (.v (.int k))]):=by
    simp[ep,eq,c1,c3];exact c4
   rw[hc];rfl
theorem st_loop{ps os:List Int}{w0 w1 w3 x6:Option M}{ch:Int}(ho:∀y∈os,y∈ps)(hl:os.length<=24)(h4:4<=os.length):∃ (S:List (Int×Int)) (x6':Option M),S.length<=60/\(∀t∈S,t.1∈ps/\t.2∈ps/\t.1<t.2) /\
  forL (ah 6) stB (bV 0 ((os.length:Int)-1)) [w0,w1,some (.v (.int ch)),w3,some (.lst (os.map .int)),some (.dtp []),x6]=some (.nx [w0,w1,some (.v (.int ch)),w3,some (.lst (os.map .int)),some (.dtp (S.map tk1)),x6']):=by
 obtain⟨ρ',e,S,x6',_,h1,h2,rfl⟩:=cz (fg:=ah 6) (fb:=stB) (P:=λrest ρ=>∃ (S:List (Int×Int)) (x6:Option M),(∀d∈rest,∃k:Int,d=.int k/\0<=k/\k<(os.length:Int)-1)/\S.length+rest.length<=24/\(∀t∈S,t.1∈ps/\t.2∈ps/\t.1<t.2)/\ρ=[w0,w1,some (.v (.int ch)),w3,some (.lst (os.map .int)),some (.dtp (S.map tk1)),x6])
  (bV 0 ((os.length:Int)-1)) [w0,w1,some (.v (.int ch)),w3,some (.lst (os.map .int)),some (.dtp []),x6] ⟨[],x6,mV _ _,by rw[mW]; simp; lia,λ_ h=>(nomatch h),rfl⟩ (λd rest ρ hP=>by
   obtain⟨S,x6,k1,k2,k3,rfl⟩:=hP;obtain⟨k,rfl,a,b⟩:=k1 _ lS;rw[Bz] at k2;obtain⟨S',s1,s2,s3⟩:=st_step (w0:=w0) (w1:=w1) (w3:=w3) (ch:=ch) ho k3 (by lia) a (by lia)
   exact⟨[w0,w1,some (.v (.int ch)),w3,some (.lst (os.map .int)),some (.dtp (S.map tk1)),some (.v (.int k))],_,by simp,s3,S',some (.v (.int k)),λd h=>k1 d (lO _ h),by lia,s2,rfl⟩)
 exact⟨S,x6',by simp at h1; lia,h2,e⟩
theorem strung:AD:=λg q c ps ts hg w=>by
 obtain⟨r,g1,q1,c1,a1,b1,k1,e1⟩:=PA.pick g q c 3 hg (by decide) (by decide)
 obtain⟨s,g2,q2,c2,a2,b2,k2,e2⟩:=PA.pick g1 q1 c1 22 k1 (by decide) (by decide)
 have hw0:∀{x0 x2 x3 x4 x5 x6:Option M},bO (aa 1) (vC (.int 0)) [x0,some (.v (wD ps ts)),x2,x3,x4,x5,x6]=some (.t (.v (tI ps)),[x0,some (.v (wD ps ts)),x2,x3,x4,x5,x6]):=rfl;have hlen:cK [M.v (tI ps)]=some (.v (.int ps.length)):=by unfold tI; rw[vq,BM]
 have start:∀{m:M}{ρ:Ev}{ms':List M}{rest:FS},rest [some (PA.ck g2 q2 c2),some (.v (wD ps ts)),some (.v (.int r)),some (.v (.int (1+s))),none,none,none]=some (.rt m ρ)->fin [true,true] [PA.ck g q c,.v (wD ps ts)] ρ=some ms' ->
   FF.dB=aJ (wW (di (aj (dQ FF.aq (aj (aa 0) (af (vC (.int 3))))) (af (vB cB (vC (.int 1)) (dQ FF.aq (aj (aa 0) (af (vC (.int 22))))))))) (d9 2 (aT (ah 2) (aT (ah 3) eX)))) rest ->
   FF.aZ [PA.ck g q c,.v (wD ps ts)]=some (m,ms'):=λ{m ρ ms' rest}h hf hb=>by
  refine gB (ρ:=ρ) rfl ?_ hf;show FF.dB [some (PA.ck g q c),some (.v (wD ps ts)),none,none,none,none,none]=_;rw[hb];refine(aK (ρ1:=[some (PA.ck g2 q2 c2),some (.v (wD ps ts)),some (.v (.int r)),some (.v (.int (1+s))),none,none,none]) (by simp[e1,e2,lim])).trans h
 by_cases c1':1<r\/(ps.length:Int)<4
 ·refine⟨ts,g2,q2,c2,k2,⟨w.rise,λt ht=>⟨(w.ends t ht).1,(w.ends t ht).2,w.lt t ht⟩,w.len⟩,start (ρ:=[some (PA.ck g2 q2 c2),some (.v (wD ps ts)),some (.v (.int r)),some (.v (.int (1+s))),none,none,none]) ?_ rfl rfl⟩
  by_cases h:1<r
  ·simp[h]
  ·have h4:(ps.length:Int)<4:=c1'.resolve_left h
   simp[h,hlen,h4]
 ·have n1:¬1<r:=λz=>c1' (.inl z)
  have n4:¬ (ps.length:Int)<4:=λz=>c1' (.inr z)
  have hfew:=w.few;obtain⟨os,x,o1,o2,o3⟩:=order (ts:=ts) (st:=1+s) (ps:=ps) (by lia) (by lia) (by lia) w.few
  obtain⟨S,x6,s1,s2,s3⟩:=st_loop (os:=os) (ps:=ps) (w0:=some (PA.ck g2 q2 c2)) (w1:=some (.v (wD ps ts))) (w3:=some (.v (.int (1+s)))) (x6:=none) (ch:=r) o2 (by lia) (by lia)
  obtain⟨us,u1,u2,u3⟩:=sd_tk (S:=S) (by lia)
  refine⟨us,g2,q2,c2,k2,⟨w.rise,λt ht=>s2 t (u2 t ht),by lia⟩,start (ρ:=[some (PA.ck g2 q2 c2),some (.v (wD ps ts)),some (.v (.int r)),some (.v (.int (1+s))),some (.lst (os.map .int)),some (.dtp (S.map tk1)),x6]) ?_ rfl rfl⟩
  refine(aK (ρ1:=[some (PA.ck g2 q2 c2),some (.v (wD ps ts)),some (.v (.int r)),some (.v (.int (1+s))),none,none,none]) (by simp[n1,hlen,n4])).trans ?_
  have hsm:=small (k:=(ps.length:Int)) (by lia)
  refine(aK (ρ1:=[some (PA.ck g2 q2 c2),some (.v (wD ps ts)),some (.v (.int r)),some (.v (.int (1+s))),some (.lst (os.map .int)),none,none]) ?_).trans ?_
  ·simp[hlen,hsm,o3]
  refine(aK (ρ1:=[some (PA.ck g2 q2 c2),some (.v (wD ps ts)),some (.v (.int r)),some (.v (.int (1+s))),some (.lst (os.map .int)),some (.dtp []),none]) (by simp)).trans ?_
  have hsm2:=small (k:=(os.length:Int)-1) (by lia)
  refine(aK (ρ1:=[some (PA.ck g2 q2 c2),some (.v (wD ps ts)),some (.v (.int r)),some (.v (.int (1+s))),some (.lst (os.map .int)),some (.dtp (S.map tk1)),x6]) ?_).trans ?_
  ·simp[hsm2]
   exact s3
  ·simp[u3,lim]
end
end PS
end
section
namespace PS
open PySem L2 VL
theorem k03(ns:List Int)(hl:ns.length<=63):∃ms,FF.mU [.v (.list (ns.map .int))]=some (.v (.bool true),ms):=E6 strung ns hl
end PS
end
section
namespace Lk03
open PySem L2 VL PyProof.Rows
theorem ln0{P:List Value->Prop}(h:P []):∀us,us.length=0->P us:=λus e=>by cases us with | nil=>exact h | cons _ _=>cases e
theorem lnS{n:Nat}{P:List Value->Prop}(h:∀a us,us.length=n->P (a::us)):∀us,us.length=n+1->P us:=λus e=>by cases us with | nil=>cases e | cons a us=>exact h a us (Nat.succ.inj e)
theorem all_mk{l:Lp}{w:World}{K:AT}{h:Heap}{mg:Str->Option Value}{fa f1 f2 f3 f4 f5 f6 f7 f8 f9 f10 f11 f12 f13:Addr}(X:K.In h)(G:h.Ns GT mg)(hfa:mg "law" = some (.ref fa))
  {od1 an1 od2 an2 od3 an3 od4 an4 od5 an5 od6 an6 od7 an7 od8 an8 od9 an9 od10 an10 od11 an11 od12 an12 od13 an13:Option Addr} {sl1 sl2 sl3 sl4 sl5 sl6 sl7 sl8 sl9 sl10 sl11 sl12 sl13:Array (Option Value)} {oc1 kV1 dc1 pm1 cd1 ct1 oc2 kV2 dc2 pm2 cd2 ct2 oc3 kV3 dc3 pm3 cd3 ct3 oc4 kV4 dc4 pm4 cd4 ct4 oc5 kV5 dc5 pm5 cd5 ct5 oc6 kV6 dc6 pm6 cd6 ct6 oc7 kV7 dc7 pm7 cd7 ct7 oc8 kV8 dc8 pm8 cd8 ct8 oc9 kV9 dc9 pm9 cd9 ct9 oc10 kV10 dc10 pm10 cd10 ct10 oc11 kV11 dc11 pm11 cd11 ct11 oc12 kV12 dc12 pm12 cd12 ct12 oc13 kV13 dc13 pm13 cd13 ct13:Value}
  (a1:I9 K GT "nears" = some (some (.ref f1))) (l1:K.lookup f1=some ⟨oc1,od1,.func (Ie "nears" "nears" (bC s_nears) (aV s_nears) (au s_nears) .none kV1 dc1 pm1 an1 cd1 ct1),sl1⟩) (c1:Ik K cd1 "nears" = true) (k1:Ib K (.ref f1)=true)
  (a2:I9 K GT "steps_from" = some (some (.ref f2))) (l2:K.lookup f2=some ⟨oc2,od2,.func (Ie "steps_from" "steps_from" (bC s_steps_from) (aV s_steps_from) (au s_steps_from) .none kV2 dc2 pm2 an2 cd2 ct2),sl2⟩) (c2:Ik K cd2 "steps_from" = true) (k2:Ib K (.ref f2)=true)
  (a3:I9 K GT "pieces" = some (some (.ref f3))) (l3:K.lookup f3=some ⟨oc3,od3,.func (Ie "pieces" "pieces" (bC s_pieces) (aV s_pieces) (au s_pieces) .none kV3 dc3 pm3 an3 cd3 ct3),sl3⟩) (c3:Ik K cd3 "pieces" = true) (k3:Ib K (.ref f3)=true)
  (a4:I9 K GT "hangs" = some (some (.ref f4))) (l4:K.lookup f4=some ⟨oc4,od4,.func (Ie "hangs" "hangs" (bC s_hangs) (aV s_hangs) (au s_hangs) .none kV4 dc4 pm4 an4 cd4 ct4),sl4⟩) (c4:Ik K cd4 "hangs" = true) (k4:Ib K (.ref f4)=true)
  (a5:I9 K GT "_law_cell" = some (some (.ref f5))) (l5:K.lookup f5=some ⟨oc5,od5,.func (Ie "_law_cell" "_law_cell" (bC s_law_cell) (aV s_law_cell) (au s_law_cell) .none kV5 dc5 pm5 an5 cd5 ct5),sl5⟩) (c5:Ik K cd5 "_law_cell" = true) (k5:Ib K (.ref f5)=true)
  (a6:I9 K GT "_law_left" = some (some (.ref f6))) (l6:K.lookup f6=some ⟨oc6,od6,.func (Ie "_law_left" "_law_left" (bC s_law_left) (aV s_law_left) (au s_law_left) .none kV6 dc6 pm6 an6 cd6 ct6),sl6⟩) (c6:Ik K cd6 "_law_left" = true) (k6:Ib K (.ref f6)=true)
  (a7:I9 K GT "_law_pick" = some (some (.ref f7))) (l7:K.lookup f7=some ⟨oc7,od7,.func (Ie "_law_pick" "_law_pick" (bC s_law_pick) (aV s_law_pick) (au s_law_pick) .none kV7 dc7 pm7 an7 cd7 ct7),sl7⟩) (c7:Ik K cd7 "_law_pick" = true) (k7:Ib K (.ref f7)=true)
  (a8:I9 K GT "_law_web" = some (some (.ref f8))) (l8:K.lookup f8=some ⟨oc8,od8,.func (Ie "_law_web" "_law_web" (bC s_law_web) (aV s_law_web) (au s_law_web) .none kV8 dc8 pm8 an8 cd8 ct8),sl8⟩) (c8:Ik K cd8 "_law_web" = true) (k8:Ib K (.ref f8)=true)
  (a9:I9 K GT "_law_some" = some (some (.ref f9))) (l9:K.lookup f9=some ⟨oc9,od9,.func (Ie "_law_some" "_law_some" (bC s_law_some) (aV s_law_some) (au s_law_some) .none kV9 dc9 pm9 an9 cd9 ct9),sl9⟩) (c9:Ik K cd9 "_law_some" = true) (k9:Ib K (.ref f9)=true)
  (a10:I9 K GT "_law_same" = some (some (.ref f10))) (l10:K.lookup f10=some ⟨oc10,od10,.func (Ie "_law_same" "_law_same" (bC s_law_same) (aV s_law_same) (au s_law_same) .none kV10 dc10 pm10 an10 cd10 ct10),sl10⟩) (c10:Ik K cd10 "_law_same" = true) (k10:Ib K (.ref f10)=true)
  (a11:I9 K GT "_law_strung" = some (some (.ref f11))) (l11:K.lookup f11=some ⟨oc11,od11,.func (Ie "_law_strung" "_law_strung" (bC s_law_strung) (aV s_law_strung) (au s_law_strung) .none kV11 dc11 pm11 an11 cd11 ct11),sl11⟩) (c11:Ik K cd11 "_law_strung" = true) (k11:Ib K (.ref f11)=true)
  (a12:I9 K GT "_law_joined" = some (some (.ref f12))) (l12:K.lookup f12=some ⟨oc12,od12,.func (Ie "_law_joined" "_law_joined" (bC s_law_joined) (aV s_law_joined) (au s_law_joined) .none kV12 dc12 pm12 an12 cd12 ct12),sl12⟩) (c12:Ik K cd12 "_law_joined" = true) (k12:Ib K (.ref f12)=true)
  (a13:I9 K GT "law" = some (some (.ref f13))) (l13:K.lookup f13=some ⟨oc13,od13,.func (Ie "law" "law" (bC s_law) (aV s_law) (au s_law) .none kV13 dc13 pm13 an13 cd13 ct13),sl13⟩) (c13:Ik K cd13 "law" = true) (k13:Ib K (.ref f13)=true)
  (z_sorted:I9 K GT "sorted" = some none)
  (z_tuple:I9 K GT "tuple" = some none)
  (z_len:I9 K GT "len" = some none)
  (z_abs:I9 K GT "abs" = some none)
  (z_int:I9 K GT "int" = some none)
  (z_range:I9 K GT "range" = some none)
  (z_isinstance:I9 K GT "isinstance" = some none)
  (z_bool:I9 K GT "bool" = some none)
  (z_zip:I9 K GT "zip" = some none)
  (z_all:I9 K GT "all" = some none)
  (z_max:I9 K GT "max" = some none)
  (z_min:I9 K GT "min" = some none)
  (z_list:I9 K GT "list" = some none)
  (z_set:I9 K GT "set" = some none)
  (z_dict:I9 K GT "dict" = some none)
  : ∃fd:K7,(∀(s:B1)(v:Value),Of s fd ⟨[v],[]⟩ [("_law_script",v)])/\∀base:Heap,K.In base->base.Ns GT mg->cY l.prog w K mg base j6 6 fa fd ["_law_script"] (qk K):=by
 have e:=hfa.symm.trans (J8 X G a13);cases e;have F1:=dH (st:=s_nears) l1 c1 k1;have b1:=F1.binds (ps:=["web"]) λ_ _ _ _ _ _=>lnS λ_=>ln0 rfl
 have m1:=J8 X G a1;have F2:=dH (st:=s_steps_from) l2 c2 k2;have b2:=F2.binds (ps:=["beside", "some", "start"]) λ_ _ _ _ _ _=>lnS λ_=>lnS λ_=>lnS λ_=>ln0 rfl
 have m2:=J8 X G a2;have F3:=dH (st:=s_pieces) l3 c3 k3;have b3:=F3.binds (ps:=["web", "some"]) λ_ _ _ _ _ _=>lnS λ_=>lnS λ_=>ln0 rfl
 have m3:=J8 X G a3;have F4:=dH (st:=s_hangs) l4 c4 k4;have b4:=F4.binds (ps:=["web", "some"]) λ_ _ _ _ _ _=>lnS λ_=>lnS λ_=>ln0 rfl
 have m4:=J8 X G a4;have F5:=dH (st:=s_law_cell) l5 c5 k5;have b5:=F5.binds (ps:=["_law_script", "_law_k"]) λ_ _ _ _ _ _=>lnS λ_=>lnS λ_=>ln0 rfl
 have m5:=J8 X G a5;have F6:=dH (st:=s_law_left) l6 c6 k6;have b6:=F6.binds (ps:=["_law_script", "_law_k"]) λ_ _ _ _ _ _=>lnS λ_=>lnS λ_=>ln0 rfl
 have m6:=J8 X G a6;have F7:=dH (st:=s_law_pick) l7 c7 k7;have b7:=F7.binds (ps:=["_law_left_here", "_law_many"]) λ_ _ _ _ _ _=>lnS λ_=>lnS λ_=>ln0 rfl
 have m7:=J8 X G a7;have F8:=dH (st:=s_law_web) l8 c8 k8;have b8:=F8.binds (ps:=["_law_left_here", "_law_most"]) λ_ _ _ _ _ _=>lnS λ_=>lnS λ_=>ln0 rfl
 have m8:=J8 X G a8;have F9:=dH (st:=s_law_some) l9 c9 k9;have b9:=F9.binds (ps:=["_law_left_here", "_law_places"]) λ_ _ _ _ _ _=>lnS λ_=>lnS λ_=>ln0 rfl
 have m9:=J8 X G a9;have F10:=dH (st:=s_law_same) l10 c10 k10;have b10:=F10.binds (ps:=["_law_found", "_law_due"]) λ_ _ _ _ _ _=>lnS λ_=>lnS λ_=>ln0 rfl
 have m10:=J8 X G a10;have F11:=dH (st:=s_law_strung) l11 c11 k11;have b11:=F11.binds (ps:=["_law_left_here", "_law_web_here"]) λ_ _ _ _ _ _=>lnS λ_=>lnS λ_=>ln0 rfl
 have m11:=J8 X G a11;have F12:=dH (st:=s_law_joined) l12 c12 k12;have b12:=F12.binds (ps:=["_law_web_here", "_law_some_here"]) λ_ _ _ _ _ _=>lnS λ_=>lnS λ_=>ln0 rfl
 have m12:=J8 X G a12;have F13:=dH (st:=s_law) l13 c13 k13;have b13:=F13.binds (ps:=["_law_script"]) λ_ _ _ _ _ _=>lnS λ_=>ln0 rfl
 have m13:=J8 X G a13;have T:Txt mg:=⟨IJ X G z_sorted,IJ X G z_tuple,IJ X G z_len,IJ X G z_abs,IJ X G z_int,IJ X G z_range,IJ X G z_isinstance,IJ X G z_bool,IJ X G z_zip,IJ X G z_all,IJ X G z_max,IJ X G z_min,IJ X G z_list,IJ X G z_set,IJ X G z_dict⟩;refine⟨Ie "law" "law" (bC s_law) (aV s_law) (au s_law) .none kV13 dc13 pm13 an13 cd13 ct13,λs v=>.of_eq rfl,λbase _ _=>?_⟩
 have C_nears:bz l.prog w K mg base "nears" ["web"] 1 (d8 K FF.ff):=⟨f1,_,ok_nears F1 T,b1,F1.kp,m1⟩;have C_steps_from:bz l.prog w K mg base "steps_from" ["beside", "some", "start"] 1 (d8 K FF.bJ):=⟨f2,_,ok_steps_from F2 T,b2,F2.kp,m2⟩;have C_pieces:bz l.prog w K mg base "pieces" ["web", "some"] 2 (d8 K FF.br):=⟨f3,_,ok_pieces F3 T C_steps_from C_nears,b3,F3.kp,m3⟩;have C_hangs:bz l.prog w K mg base "hangs" ["web", "some"] 3 (d8 K FF.cE):=⟨f4,_,ok_hangs F4 T C_pieces,b4,F4.kp,m4⟩;have C_law_cell:bz l.prog w K mg base "_law_cell" ["_law_script", "_law_k"] 1 (d8 K FF.bP):=⟨f5,_,ok_law_cell F5 T,b5,F5.kp,m5⟩;have C_law_left:bz l.prog w K mg base "_law_left" ["_law_script", "_law_k"] 2 (d8 K FF.bQ):=⟨f6,_,ok_law_left F6 T C_law_cell,b6,F6.kp,m6⟩;have C_law_pick:bz l.prog w K mg base "_law_pick" ["_law_left_here", "_law_many"] 1 (d8 K FF.aq):=⟨f7,_,ok_law_pick F7 T,b7,F7.kp,m7⟩;have C_law_web:bz l.prog w K mg base "_law_web" ["_law_left_here", "_law_most"] 2 (d8 K FF.cJ):=⟨f8,_,ok_law_web F8 T C_law_pick,b8,F8.kp,m8⟩;have C_law_some:bz l.prog w K mg base "_law_some" ["_law_left_here", "_law_places"] 2 (d8 K FF.aW):=⟨f9,_,ok_law_some F9 T C_law_pick,b9,F9.kp,m9⟩;have C_law_same:bz l.prog w K mg base "_law_same" ["_law_found", "_law_due"] 5 (d8 K (FF.aD 4)):=⟨f10,_,ok_law_same F10 T b10 m10 4,b10,F10.kp,m10⟩;have C_law_strung:bz l.prog w K mg base "_law_strung" ["_law_left_here", "_law_web_here"] 2 (d8 K FF.aZ):=⟨f11,_,ok_law_strung F11 T C_law_pick,b11,F11.kp,m11⟩;have C_law_joined:bz l.prog w K mg base "_law_joined" ["_law_web_here", "_law_some_here"] 1 (d8 K FF.bK):=⟨f12,_,ok_law_joined F12 T,b12,F12.kp,m12⟩;exact EL (ok_law F13 T C_hangs C_pieces C_law_some C_law_same C_law_joined C_law_strung C_law_web C_law_left) PS.k03
theorem walk{l:Lp}{q:Fm}{loose:List Str}{XP:(Str->Option Value)->Heap->Prop}{YP:World->Heap->Prop}{d:DefRec}{K:Params->AT}(hn:l.most=some 63)(hdf:d.params.defaults=[])
  (hY:∀(w:World)(h:Heap),YP w h->(K w.params).In h)
  (F:∀(w:World)(mg:Str->Option Value)(fa:Addr)(h:Heap),(K w.params).In h->h.Ns GT mg->mg d.name=some (.ref fa) ->
   ∃fd:K7,(∀(s:B1)(u:Value),Of s fd ⟨[u],[]⟩ [("_law_script",u)])/\∀base:Heap,(K w.params).In base->base.Ns GT mg->cY l.prog w (K w.params) mg base j6 6 fa fd ["_law_script"] (qk (K w.params))) :
  Q9 q loose XP YP l.row.toRowW d [] (λf vs=>PK f vs) :=
 L2.Bb (n:=63) (k:=6) (x := "_law_script") (CX:=λ_=>j6) (sp:=λw=>qk (K w.params)) hn (by decide) hdf ⟨rfl,by decide,by decide,rfl⟩ hY F (λ_ _ a ns hl _ hS=>⟨a,ns,rfl,hS,hl,λ_=>rfl⟩) λ_ _ _ _ _ z=>z
end Lk03
open PySem PySem.W PyProof.Rows
theorem PySem.Challenge.cw_drawnweb_k03_pieces_and_what_hangs_holds : PySem.Challenge.rw_drawnweb_k03_pieces_and_what_hangs.Holds := by
 w_on; o_law; k_head; (case hw=>w_witness2)
 k_fill
 refine Lk03.walk (l:=PySem.Challenge.rw_drawnweb_k03_pieces_and_what_hangs) rfl rfl (λw h Y=>PySem.W.kIn_of Y) ?F
 case F=>
  intro w mg fa h KX G hmg
  refine' Lk03.all_mk KX G hmg ?a1 ?l1 ?c1 ?k1 ?a2 ?l2 ?c2 ?k2 ?a3 ?l3 ?c3 ?k3 ?a4 ?l4 ?c4 ?k4 ?a5 ?l5 ?c5 ?k5 ?a6 ?l6 ?c6 ?k6 ?a7 ?l7 ?c7 ?k7 ?a8 ?l8 ?c8 ?k8 ?a9 ?l9 ?c9 ?k9 ?a10 ?l10 ?c10 ?k10 ?a11 ?l11 ?c11 ?k11 ?a12 ?l12 ?c12 ?k12 ?a13 ?l13 ?c13 ?k13 ?z_sorted ?z_tuple ?z_len ?z_abs ?z_int ?z_range ?z_isinstance ?z_bool ?z_zip ?z_all ?z_max ?z_min ?z_list ?z_set ?z_dict
  (case a1=>k_is); (case l1=>k_is); (case c1=>k_is); (case k1=>k_is)
  (case a2=>k_is); (case l2=>k_is); (case c2=>k_is); (case k2=>k_is)
  (case a3=>k_is); (case l3=>k_is); (case c3=>k_is); (case k3=>k_is)
  (case a4=>k_is); (case l4=>k_is); (case c4=>k_is); (case k4=>k_is)
  (case a5=>k_is); (case l5=>k_is); (case c5=>k_is); (case k5=>k_is)
  (case a6=>k_is); (case l6=>k_is); (case c6=>k_is); (case k6=>k_is)
  (case a7=>k_is); (case l7=>k_is); (case c7=>k_is); (case k7=>k_is)
  (case a8=>k_is); (case l8=>k_is); (case c8=>k_is); (case k8=>k_is)
  (case a9=>k_is); (case l9=>k_is); (case c9=>k_is); (case k9=>k_is)
  (case a10=>k_is); (case l10=>k_is); (case c10=>k_is); (case k10=>k_is)
  (case a11=>k_is); (case l11=>k_is); (case c11=>k_is); (case k11=>k_is)
  (case a12=>k_is); (case l12=>k_is); (case c12=>k_is); (case k12=>k_is)
  (case a13=>k_is); (case l13=>k_is); (case c13=>k_is); (case k13=>k_is)
  (case z_sorted=>k_is); (case z_tuple=>k_is); (case z_len=>k_is); (case z_abs=>k_is); (case z_int=>k_is); (case z_range=>k_is); (case z_isinstance=>k_is); (case z_bool=>k_is); (case z_zip=>k_is); (case z_all=>k_is); (case z_max=>k_is); (case z_min=>k_is); (case z_list=>k_is); (case z_set=>k_is); (case z_dict=>k_is)
end
