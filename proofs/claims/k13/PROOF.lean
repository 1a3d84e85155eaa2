import PyProof.Rows.All
import Wide.All
import OpenK.AllK
import Wide.FinOn
import Lean
import PyProof.EqAt
import PyProof.EqKinds
import PyProof.TupleCall
import KE.KDictOf
import PyProof.AttrMissHeap
import PyProof.ReprRoads
import PySem.Challenge.RW_drawnweb_k13_forms
set_option Elab.async false
set_option linter.all false
set_option maxRecDepth 100000
set_option maxHeartbeats 0
theorem oB{α β:Type _}{x:Option α}{f:α->Option β}{b:β}(h:x.bind f=some b):∃a,x=some a/\f a=some b:=Option.bind_eq_some_iff.mp h
theorem lR{α:Type _}{a:α}(as:List α){bs:List α}(h:a∈bs):a∈as++bs:=List.mem_append_right as h
theorem lL{α:Type _}{a:α}{as:List α}(bs:List α)(h:a∈as):a∈as++bs:=List.mem_append_left bs h
theorem lM{α:Type _}{a:α}{s t:List α}(h:a∈s++t):a∈s\/a∈t:=List.mem_append.mp h
theorem lS{α:Type _}{a:α}{l:List α}:a∈a::l:=List.mem_cons_self
theorem lO{α:Type _}(y:α){a:α}{l:List α}(h:a∈l):a∈y::l:=List.mem_cons_of_mem y h
theorem lK{α:Type _}{a b:α}{l:List α}(h:a∈b::l):a=b\/a∈l:=List.mem_cons.mp h
open And renaming intro->Lq
open Array renaming length_toList->FW,perm_iff_toList_perm->HH,getD->JD,getElem?_eq_some_iff->LG,getElem?_toList->Lp,forIn_toList->MM,ext_getElem?->MN,append_assoc->MO,toList_inj->Mi,toList->NV
open Bool renaming and_eq_true->Fk,false_ne_true->GI,false_eq_true->IR,and_true->Lg,beq_eq_decide_eq->M8,true_and->NU
open Classical renaming propDecidable->JN
open False renaming elim->Hz
open ForInStep renaming yield->JV
open Int renaming toNat_natCast->GY,eq_ofNat_of_zero_le->Hq,le_antisymm->J5,emod_nonneg->LF,le_refl->ML,emod_lt_of_pos->Mh
open List renaming length_map->B2,append_assoc->Bi,mem_singleton->Bn,length_append->Bz,length_cons->D1,getElem?_eq_getElem->Do,size_toArray->Dx,append_nil->E3,nodup_append->E4,replicate->E7,getElem?_eq_some_iff->EY,take_append_drop->EZ,map_map->Ee,length_nil->FC,range->FD,length_take->FH,getD_eq_getElem?_getD->FJ,pairwise_append->FK,map_cons->FN,length_drop->FP,mem_map->FZ,nodup_cons->Fb,getElem?_append_right->Ff,not_mem_nil->Fg,length_range->Fj,nil_append->Fm,map_congr_left->Fo,getElem?_map->Fs,length_singleton->Ft,getElem?_append_left->Fu,drop_eq_getElem_cons->Fv,nodup_nil->G7,getElem?_take_of_lt->GH,pairwise_iff_getElem->GQ,getElem_mem->GT,zip_cons_cons->Gc,reverse_reverse->Gd,mem_of_mem_take->Ge,getElem?_set_self->Gh,perm_append_comm->Gk,find?_cons->Gm,take_of_length_le->Gu,pairwise_map->Gv,take_length->HB,length_eq_zero_iff->HF,mem_cons->HG,drop_drop->HJ,getElem?_eq_none->HN,map_append->HS,mem_of_mem_drop->HV,flatten_cons->HW,any_cons->Ha,mem_range->Hj,lookup_cons->Hk,drop_zero->Hl,all_eq_true->Hm,take_append_of_le_length->Ht,getElem_of_mem->IF,zip_nil_right->IN,pairwise_cons->IP,getElem?_drop->IQ,zip_nil_left->IW,getElem_take->IX,getElem?_set->IY,drop_length->Ic,map_take->Ip,map_drop->Iq,mem_of_getElem?->Iu,map->Iv,length->Iw,eq_nil_of_length_eq_zero->Ix,drop_append_of_le_length->Iy,mem_filter->J1,forIn_cons->J3,getElem?_range->J4,map_nil->J8,extract_eq_take_drop->JQ,map_id->JS,filter_cons->Jf,foldl_cons->Ju,length_replicate->Jv,getElem?_set_ne->Jy,forIn_nil->Jz,getD->K5,length_pos_iff->K7,filterMap_cons->K8,drop_nil->KC,Nodup->KF,toArray->KY,take_sublist->KZ,set_set->Ka,ext_getElem?->Kb,zipIdx_cons->Km,perm_middle->Kn,map_snd_zip->Ko,of_mem_zip->Kr,length_zip->Ks,take_zero->LM,pairwise_lt_range->Ln,drop_eq_nil_of_le->Lo,length_filter_le->M7,flatten_append->MK,mem_filterMap->MS,getElem_range->MT,getElem_drop->Mf,flatMap_cons->Mg,mem_flatMap->Mp,zipIdx_nil->N2,length_set->N3,take_succ->NE,drop_take->NF,take_nil->NT
open List.Pairwise renaming sublist->Kp,nil->LN,imp->LO
open List.Perm renaming append_left->G4,eq_of_pairwise->Kq
open List.cons renaming inj->MU
open Nat renaming le_refl->Da,ne_of_lt->E1,lt_of_lt_of_le->FL,zero_le->FV,le_trans->GE,le_succ->GU,lt_irrefl->Gs,lt_succ_of_lt->Gx,le_of_lt->HX,add_sub_cancel_left->IS,lt_succ_self->Im,pow_le_pow_right->Iz,eq_zero_or_pos->JM,add_assoc->Jd,ne_of_gt->Jt,pos_of_ne_zero->KS,lt_of_le_of_lt->KU,min_eq_left->LD,zero_add->M4,sub_zero->M5,lt_or_ge->M6,mul_le_mul_right->MJ,not_lt->Md,lt_or_eq_of_le->Me,le_succ_of_le->Mo,max_eq_right->Mz,le_of_not_lt->N1,min_le_left->ND
open Ne renaming symm->HZ
open Option renaming bind_some->Fi,map_eq_some_iff->Go,isSome_iff_exists->IE,map_some->Ji,isSome_map->KD,getD_none->MR,none->NS
open Option.some renaming inj->FX
open Or renaming inl->Fx,inr->Hs
open Prod renaming ext->NC
open PyProof.Rows renaming wpS_bind->D2,wpS_pure->E2,SortSt->Fd,callWith_type1->GB,seqObj->GP,wpS_forRange->GS,slot_tuple_getitem->Gf,IntsAre->Gr,SortKind->HC,wpS_mono->HR,pendingOf->I9,failedOf->IJ,assignInOrder_cons->Ia,wpS_modify->Jc,wpS_get->Jm,envOfC->K3,AllBare->K4,entry_list_sort->K6,wpS_lift->KP,slot_list_sort->KQ,args_list_sort->KR,sortedAll_old->Kk,listUpdate_at->Kl,sortedAll_at->L8,plain_sorted->L9,entry_sorted->LA,assignInOrder_nil->LB,args_sorted1->LC,boot_range->LJ,kind_sorted->Lf,size_push'->M3,subscriptTail->MG,lt_int->MQ,subscriptTail_builtinR->Mb,listItems_at->Mc,seqEpoch_at->Mw,keyKind'->Mx,gallopOf->My,ge_int->NA,entry_tuple_getitem->NB,keyLt'->NO,assign_Tuple_tuple->NP,args_tuple_getitem->NQ,Subscript_->NR
open PyProof.Rows.IsTup renaming new->Kf
open PyProof.Rows.SortSt renaming mk'->J7
open PySem renaming wpAny_bind->AC,PyData->Ap,Shared->B1,wpAny_pure->BM,starEach->E5,sizeLine->E6,Spec->E9,Program->FB,mainGlobals->FQ,wpAny_loadPart'->FR,wpAny_newObj_type->FU,foldedSetIterable->FY,Around->Fa,wpAny_field->Fq,compareOp->Fy,wpAny_holding->G6,wpAny_callSpecial?_slot->G8,wpAny_call_entry->GF,wpAny_seqItems->GJ,sizeLine_eq->GR,codeAny_builtin->GV,behindInMarks->GX,Builtin->Gg,binaryOp->Gp,argBest->Gq,wpAny_rule->Gy,wpAny_mono->Gz,assignEach->H9,wpAny_Call_Name_kw->HD,plainId_quiet->HE,Paired->HL,wpAny_setField_rec->HP,sysModules->HQ,swapsWith->Hc,mem_of_lookup->He,bootBuiltins->Hg,FuncData->Hh,wpAny_standAt->Hn,codeAny->Hu,assign->IG,NameKind->IH,wpAny_comprehension_free->IT,intItems->IU,ReadsAll->IV,wpAny_typeOf->Ie,wpAny_assign_Name->Ig,richCompare_meets_room->Ih,codeAny_compStart_list->Ii,backTo->Ij,wpAny_newList->J6,wpAny_newFunctionEnv->J9,wpAny_letGo->JA,sliceBounds->JB,wpAny_passesOwn->JG,pyNext->JH,letOwnedTupleGo->JI,IsPair->JK,seqItems?->JT,wpAny_tryCatch->JW,wpAny_pyIter_tuple->JX,tupleKind_room_in1->JY,slot_listiter_next->JZ,wpAny_truthy_bool->Jj,intItems_at->Jk,getItem->Jl,wpAny_attempt->Jn,swapsWithSole->Jo,swappedStores->Jp,rawInt->Jq,numAt_eq->Jw,standAt->K0,holding->K1,wpAny_updateSeq_pair->KG,wpAny_setField->KH,unsupported->KI,richCompare->KJ,firstArgMember->KM,compEnvC->KN,IsPart->KO,noFill_tuple_add->Kd,wpAny_onRaise->Kg,nums_intItems->Kh,wpAny_pyIter_list->Kt,valueAt->Ku,relabel->Kv,compTurn->Kw,codeAny_mono->Kx,callerA->Ky,ZipApart->Kz,SetTable->L0,ItemsOf->L3,wpAny_forIn_list->LP,tupleKind->LQ,seq_tuple_add->LR,Result->LU,wpAny_of_eq->LY,subscripted->LZ,wpAny_updateSeq->Lh,wpAny_execs_nil->Li,concat_meets->Lj,collect->Ll,BindsTo->Lm,wpAny_runValue->Lr,wpAny_newTuple->Ls,wpAny_load->Lu,typeLookup->Lv,pyIter->Lw,isTrue->Lx,checkCount->Ly,call_meets->Lz,call->MB,attributeBase->MC,assignInOrder->MD,stored->MV,spliced->MW,newList->MX,IsRange->Ma,wpAny_isTrue_Compare1->Mj,exec_Assign_Name_used->Mk,builtinLookup_eq_fast->Ml,seqIndex_of->Mq,mem_getD->Mr,compPost->Ms,bindName->Mv,wpAny_Assign_stores->N5,entry_listiter_next->N6,wpAny_Name->NG,getattributeRaised->NH,call_function_tree->NI,builtinsNs->NJ,args_listiter_next->NK
open PySem.Around renaming under_plainId->GC
open PySem.AutoSeq1 renaming sub_tuple_tuple->JF
open PySem.Builtin.Builtins renaming bindParams->Hb
open PySem.Builtin.Dict renaming addKeywords->KW,updateFrom->Ke
open PySem.Builtin.Int renaming intBits->GG
open PySem.Builtin.List renaming listExtendWith->Ho,listTooLong->J0
open PySem.Builtin.Range renaming rangeSize->I0,small->Jb
open PySem.Builtin.Slice renaming slicePlaces->Hw,sliceAdjust->Il,sliceApplied->KB
open PySem.Builtin.SmallTypes renaming nextOf->E8,ownedTupleIsFree->Fc,ownedTupleHandOut->JE
open PySem.Builtin.Str renaming occurrences->HA
open PySem.Builtin.Tuple renaming tupleExact->Gw,tupleCompareSizes->II,tupleItemsOf->KA
open PySem.Calls renaming call_function_entry->IB,spliced_cons->JC,spliced_nil->JP,Name_function_global->L7,callWith_builtin->Lk
open PySem.Code renaming compLoop->NN
open PySem.F renaming plain_min_loop->HM,slot_zip_next->HY,slot_tuple_iterator_next->IC,plainAttrs_list->IK,plain_list_iadd->Ir,args_tuple_add_2->JL,entry_tuple_add->JR,slot_tuple_add->Ja,args_zip_next_1->Je,slot_list_extend->Jh,slot_zip_getattribute->Jr,entry_zip_next->Js,type_list_extend->L4,slot_dict_values->L5,entry_min_loop->L6,args_tuple_lt_2->LI,entry_tuple_lt->LW,args_tuple_iterator_next_1->LX,slot_tuple_lt->Lb,plain_proto_collect->Lc,entry_tuple_iterator_next->Ld,entry_proto_collect->Le,slot_list_insert->M1,slot_list_append->M2,entry_list_iadd->MA
open PySem.Heap renaming get?_push_of_some->At,lt_size->Ch,get?_push_size->Db,get?_update_other->GD,size_push->GN,SameBut->HU,get?_update_self->Hx,get?_push_ne->Hy,size_update->Ib,ExtBut->Jx,get?_update_ne->MF
open PySem.Heap.SameBut renaming update->IZ,refl->LV
open PySem.IsRange renaming new->N9
open PySem.MeetsSeq3 renaming plain_eq_loop->Kj
open PySem.NameKind renaming free->Gi
open PySem.Obj renaming mapSeq->GK,data_mapFields->JJ,isFreed_of_fields->M9,cls_mapFields->Mn
open PySem.Paired renaming length->ID,snoc->NM
open PySem.PassesOwn renaming never->HI
open PySem.PyData renaming canLayAll0->EQ,eqv->FM,int->Fe,canLay0->Fw,depth->GL,depthAll->GZ,weightAll->Hf,showableAll->Hr,intsShortAll->IA,list->IL,eqvAll->JO,weight->K2,showable->Ki,intsShort->MP,tuple->N8
open PySem.SeqAt renaming EqAt->L1,eqAt_reads->MZ
open PySem.Shared renaming TypeIs->LH,heap->NL
open PySem.Str renaming ofString->Hv
open PySem.Value renaming none->Fp,ref->Gn,notImplemented->Ik,bool->Jg,int->La,type->ME,str->MY,isStrOf->N7
open PySem.W renaming Frag->AT,nsIn->Fl,keepIn->G9,fnOf->GA,codeIn->GM,mg_none_of->GO,kas_item->GW,mg_of->Gj,OpenLaw->JU,methodObj->K9,cellsFrom_some->LS,WalkO->Mm
open PySem.Walks renaming tuple->M0
open Sum renaming inl->Hi,inr->Kc
open Sum.inl renaming inj->N4
open True renaming intro->IM
section
namespace L2
open PySem PySem.Spec PyProof.Rows
abbrev Key:=Sum Int Str
noncomputable def kE:Key->Value->Bool
 |.inl k,v=>Value.isInt k v
 |.inr x,v=>N7 x v
noncomputable def keyH(w:World):Key->Int
 |.inl k=>hashInt k
 |.inr x=>hashStr w x
theorem br:∀{k:Key}{v:Value},kE k v=true->(∃i t,k=Hi i/\v=La i t)\/(∃x t,k=Kc x/\v=MY x t)
 |.inl i,v,h=>by
  obtain⟨t,e⟩:=Value.isInt_shape (k:=i) (v:=v) h;exact .inl ⟨i,t,rfl,e⟩
 |.inr x,v,h=>by
  obtain⟨t,e⟩:=Value.isStrOf_shape (x:=x) (v:=v) h;exact .inr ⟨x,t,rfl,e⟩
theorem uc(i:Int)(t:Tok):kE (.inl i) (.int i t)=true:=by simp[kE,Value.isInt]
theorem ud(x:Str)(t:Tok):kE (.inr x) (.str x t)=true:=by simp[kE,N7]
theorem Bc(a b:Int):decide ((Hi a:Key)=Hi b)=(a == b):=by
 by_cases e:a=b
 ·subst e; simp
 ·have h:¬ (Hi a:Key)=Hi b:=λq=>e (N4 q)
  rw[decide_eq_false h];exact(beq_eq_false_iff_ne.mpr e).symm
theorem Bd(a b:Str):decide ((Kc a:Key)=Kc b)=decide (a=b):=by
 by_cases e:a=b
 ·subst e; simp
 ·have h:¬ (Kc a:Key)=Kc b:=λq=>e (Sum.inr.inj q)
  rw[decide_eq_false h,decide_eq_false e]
theorem Be(a:Int)(b:Str):decide ((Hi a:Key)=Kc b)=false:=decide_eq_false (λq=>nomatch q)
theorem Bf(a:Str)(b:Int):decide ((Kc a:Key)=Hi b)=false:=decide_eq_false (λq=>nomatch q)
noncomputable def aI(prog:FB)(w:World):PySem.KeyKind prog w Key where
 is:=kE
 hash:=keyH w
 inj:=λv a b ha hb=>by
  rcases br ha with⟨i,t,rfl,rfl⟩ | ⟨x,t,rfl,rfl⟩
  ·rcases br hb with⟨j,u,rfl,e⟩ | ⟨y,u,rfl,e⟩
   ·injection e with e1 _; rw[e1]
   ·exact nomatch e
  ·rcases br hb with⟨j,u,rfl,e⟩ | ⟨y,u,rfl,e⟩
   ·exact nomatch e
   ·injection e with e1 _; rw[e1]
 byValue:=λk v h=>by
  rcases br h with⟨i,t,rfl,rfl⟩ | ⟨x,t,rfl,rfl⟩ <;> rfl
 pyHash:=λhv h=>by
  rcases br hv with⟨i,t,rfl,rfl⟩ | ⟨x,t,rfl,rfl⟩
  ·exact wpAny_pyHash_int h
  ·exact wpAny_pyHash_str h
 eqBool:=λhu hv h=>by
  rcases br hu with⟨i,t,rfl,rfl⟩ | ⟨x,t,rfl,rfl⟩
  ·rcases br hv with⟨j,u,rfl,rfl⟩ | ⟨y,u,rfl,rfl⟩
   ·rw[Bc] at h; exact wpAny_eqBool_int h
   ·rw[Be] at h; exact SeqAt.EqAt.int_str i t y u _ _ _ _ h
  ·rcases br hv with⟨j,u,rfl,rfl⟩ | ⟨y,u,rfl,rfl⟩
   ·rw[Bf] at h; exact SeqAt.EqAt.str_int x t j u _ _ _ _ h
   ·rw[Bd] at h; exact wpAny_eqBool_str h
 «strs» := λk x t v h=>by
  rcases br h with⟨i,u,rfl,e⟩ | ⟨y,u,rfl,e⟩
  ·exact nomatch e
  ·injection e with e1 _
   subst e1;cases v <;> rfl
theorem pP(prog:FB)(w:World)(i:Int)(t:Tok):(aI prog w).is (.inl i) (.int i t)=true:=uc i t
theorem pQ(prog:FB)(w:World)(x:Str)(t:Tok):(aI prog w).is (.inr x) (.str x t)=true:=ud x t
end L2
namespace L2
open PySem PySem.Spec PyProof.Rows
inductive V where
 |non | bl (b:Bool) | int (i:Int) | str (x:Str) | byt (b:Array UInt8) | flt (b:UInt64) | ref (a:Addr) | ty (n:String)
 deriving DecidableEq
def RelV:V->Value->Prop
 |.non,u=>u=Fp
 |.bl b,u=>u=Jg b
 |.int i,u=>∃t,u=La i t
 |.str x,u=>∃t,u=MY x t
 |.byt b,u=>∃t,u=Value.bytes b t
 |.flt b,u=>∃t,u=Value.float b t
 |.ref a,u=>u=Gn a
 |.ty n,u=>u=ME n
abbrev Vals:List V->List Value->Prop:=HL RelV
theorem Vals.length{xs:List V}{us:List Value}(r:Vals xs us):xs.length=us.length:=ID r
theorem Vals.get:∀{xs:List V}{us:List Value}{i:Nat}{x:V},Vals xs us->xs[i]? = some x->∃u,us[i]? = some u/\RelV x u
 |_,_,_,_,.nil,e=>by simp at e
 |_,_,0,_,.cons r _,e=>by simp at e; subst e; exact⟨_,rfl,r⟩
 |_,_,i+1,x,.cons _ t,e=>by
  obtain⟨u,h1,h2⟩:=Vals.get (i:=i) (x:=x) t (by simpa using e)
  exact⟨u,by simpa using h1,h2⟩
theorem Vals.set{x:V}{u:Value}(r:RelV x u):∀{xs:List V}{us:List Value}(i:Nat),Vals xs us->Vals (xs.set i x) (us.set i u)
 |_,_,_,.nil=>.nil
 |_,_,0,.cons _ t=>.cons r t
 |_,_,i+1,.cons q t=>.cons q (Vals.set r i t)
theorem Vals.append:∀{xs ys:List V}{us ws:List Value},Vals xs us->Vals ys ws->Vals (xs++ys) (us++ws)
 |_,_,_,_,.nil,s=>s
 |_,_,_,_,.cons r t,s=>.cons r (Vals.append t s)
theorem Vals.take:∀{xs:List V}{us:List Value}(n:Nat),Vals xs us->Vals (xs.take n) (us.take n)
 |_,_,0,_=>.nil
 |_,_,_+1,.nil=>.nil
 |_,_,n+1,.cons r t=>.cons r (Vals.take n t)
theorem Vals.drop:∀{xs:List V}{us:List Value}(n:Nat),Vals xs us->Vals (xs.drop n) (us.drop n)
 |_,_,0,r=>r
 |_,_,_+1,.nil=>.nil
 |_,_,n+1,.cons _ t=>Vals.drop n t
def lW:Option V->Option Value->Prop
 |some v,some u=>RelV v u
 |none,none=>True
 |_,_=>False
def KV{κ:Type}:List (κ×V)->List (κ×Value)->Prop:=HL λ(p:κ×V)(q:κ×Value)=>p.1=q.1/\RelV p.2 q.2
noncomputable def kV:Key->V
 |.inl i=>.int i
 |.inr x=>.str x
inductive HO where
  |lst (xs:List V)
  |tup (xs:List V)
  |dK (kvs:List (Key×V)) | dT (kvs:List (List Key×V))
  |set (S:Int->Bool) (n:Nat)
  |ins (C dx:Addr) (fs:List (Str×V))
  |own (x:Addr)
  |xd (fs:List (Str×V))
  |met (f x:Addr)
  |rng (lo hi:Int)
  |frz (o:Obj) (u:HO)
  |tbl (ps:Array Value)
  |ext (φ:Heap->Prop)
abbrev Hp:=Addr->Option HO
noncomputable def upd(H:Hp)(a:Addr)(o:HO):Hp:=λb=>if b=a then some o else H b
theorem aT{H:Hp}{a:Addr}{o:HO}:upd H a o a=some o:=by unfold upd; rw[if_pos rfl]
theorem aZ{H:Hp}{a b:Addr}{o:HO}(h:b≠a):upd H a o b=H b:=by unfold upd; rw[if_neg h]
theorem vJ{H:Hp}{a b:Addr}{o u:HO}(h:H a=some o)(h':H b=some u)(d:o≠u):a≠b:=by
 intro e; subst e; rw[h] at h'; exact d (FX h')
theorem dh{H:Hp}{a b:Addr}{o:HO}(h:H a=some o)(h':H b=none):a≠b:=by
 intro e; subst e; rw[h] at h'; cases h'
section
variable(P:FB)(w:World)
def cS(H:Hp)(h:Heap)(a:Addr):HO->Prop
 |.lst xs=>xs.length<=E6/\∃ (its:List Value) (n:Nat),Vals xs its/\h.get? a=some { cls:=.type "list",data:=.seq its.toArray n }
 |.tup xs=>xs.length<=E6/\∃its:List Value,Vals xs its/\IsTup h a its.toArray
 |.dK kvs=>kvs.length<=E6/\(a == HQ)=false/\∃vs,KV kvs vs/\h.DictOf (aI P w) a vs
 |.dT kvs=>kvs.length<=E6/\(a == HQ)=false/\∃xs:List (List Key×Addr×Value),
  HL (λ(p:List Key×V)(q:List Key×Addr×Value)=>p.1=q.1/\H q.2.1=some (.tup (p.1.map kV))/\RelV p.2 q.2.2) kvs xs /\
  ∃o es ep,h.get? a=some o/\o.ExactDict/\o.data=.dict es ep/\es.toList=xs.map (entryOfKey (LQ (aI P w)))/\(xs.map (·.1)).Nodup
 |.set S n=>h.SetOf (intKind P w) a S n
 |.ins C dx fs=>H dx=some (.own a)/\fs.length<=1000/\dx≠a/\h.get? a=some (PySem.W.instObj C dx) /\
  ∃mA,h.Ns1 dx mA/\(∀f,lW (fs.lookup f) (mA f))/\PySem.Within mA (fs.map (·.1))
 |.own _=>∃o,h.get? a=some o
 |.xd fs=>∃mA,h.Ns1 a mA/\∀f,lW (fs.lookup f) (mA f)
 |.rng lo hi=>∃t u v,h.get? a=some { cls:=.type "range",data:=.fields #[.int lo t,.int hi u,.int 1 v] }
 |.frz o u=>h.get? a=some o/\cS H h a u
 |.tbl ps=>h.get? a=some { cls:=.none,data:=.fields ps }
 |.met f x=>h.get? a=some (K9 (.ref f) (.ref x))
 |.ext φ=>φ h/\(∃o,h.get? a=some o)/\∀h1 h2:Heap,φ h1->(∀o,h1.get? a=some o->h2.get? a=some o)->φ h2
def iQ(H:Hp)(h:Heap):Prop:=∀a o,H a=some o->cS P w H h a o
end
section
variable{P:FB}{w:World}{H H':Hp}{h h':Heap}{a:Addr}{o:HO}
theorem cS.lt(x:cS P w H h a o):a<h.objs.size:=by
 cases o with
 |lst xs=>obtain⟨_,_,_,_,e⟩:=x; exact Ch e
 |tup xs=>obtain⟨_,_,_,p⟩:=x; exact p.lt
 |dK kvs=>obtain⟨_,_,_,_,o,_,_,e,_⟩:=x; exact Ch e
 |dT kvs=>obtain⟨_,_,_,_,o,_,_,e,_⟩:=x; exact Ch e
 |set S n=>obtain⟨o,_,_,_,e,_⟩:=x; exact Ch e
 |ins C dx fs=>obtain⟨_,_,_,e,_⟩:=x; exact Ch e
 |own y=>obtain⟨_,e⟩:=x; exact Ch e
 |xd fs=>obtain⟨_,⟨_,_,_,e,_⟩,_⟩:=x; exact Ch e
 |rng lo hi=>obtain⟨_,_,_,e⟩:=x; exact Ch e
 |frz ob u=>obtain⟨e,_⟩:=x; exact Ch e
 |tbl ps=>exact Ch (show h.get? a=some _ from x)
 |met f y=>exact Ch (show h.get? a=some _ from x)
 |ext φ=>obtain⟨_,⟨_,e⟩,_⟩:=x; exact Ch e
theorem HL.mapP{α β:Type}{F G:α->β->Prop}:∀{l₁:List α}{l₂:List β},HL F l₁ l₂->(∀a b,F a b->G a b)->HL G l₁ l₂
 |_,_,.nil,_=>.nil
 |_,_,.cons r t,f=>.cons (f _ _ r) (HL.mapP t f)
theorem cS.stay(x:cS P w H h a o)(k:∀b u,(b=a\/H b=some (.own a))->h.get? b=some u->h'.get? b=some u)
  (ho:∀b,H b=some (.own a)->H' b=some (.own a)) (ht:∀b xs,H b=some (.tup xs)->H' b=some (.tup xs)):cS P w H' h' a o:=by
 induction o with
 |lst xs=>obtain⟨z,its,n,r,e⟩:=x; exact⟨z,its,n,r,k _ _ (.inl rfl) e⟩
 |tup xs=>obtain⟨z,its,r,ob,e,c⟩:=x; exact⟨z,its,r,ob,k _ _ (.inl rfl) e,c⟩
 |dK kvs=>obtain⟨z,y,vs,r,ob,es,ep,e,c⟩:=x; exact⟨z,y,vs,r,ob,es,ep,k _ _ (.inl rfl) e,c⟩
 |dT kvs=>
  obtain⟨z,y,xs,r,ob,es,ep,e,c⟩:=x;exact⟨z,y,xs,HL.mapP r λp q z=>⟨z.1,ht _ _ z.2.1,z.2.2⟩,ob,es,ep,k _ _ (.inl rfl) e,c⟩
 |set S n=>obtain⟨ob,es,ep,t,e,c⟩:=x; exact⟨ob,es,ep,t,k _ _ (.inl rfl) e,c⟩
 |ins C dx fs=>
  obtain⟨d,z,ne,e,mA,⟨od,es,ep,e2,c⟩,r⟩:=x;exact⟨ho _ d,z,ne,k _ _ (.inl rfl) e,mA,⟨od,es,ep,k _ _ (.inr d) e2,c⟩,r⟩
 |own y=>obtain⟨ob,e⟩:=x; exact⟨ob,k _ _ (.inl rfl) e⟩
 |xd fs=>obtain⟨mA,⟨od,es,ep,e,c⟩,r⟩:=x; exact⟨mA,⟨od,es,ep,k _ _ (.inl rfl) e,c⟩,r⟩
 |rng lo hi=>obtain⟨t,u,v,e⟩:=x; exact⟨t,u,v,k _ _ (.inl rfl) e⟩
 |frz ob u ih=>obtain⟨e,q⟩:=x; exact⟨k _ _ (.inl rfl) e,ih q⟩
 |tbl ps=>
  have e:h.get? a=some { cls:=.none,data:=.fields ps }:=x;show h'.get? a=some { cls:=.none,data:=.fields ps };exact k a _ (.inl rfl) e
 |met f y=>
  have e:h.get? a=some (K9 (.ref f) (.ref y)):=x;show h'.get? a=some (K9 (.ref f) (.ref y));exact k a _ (.inl rfl) e
 |ext φ=>obtain⟨p,⟨o,e⟩,st⟩:=x; exact⟨st _ _ p λo q=>k _ _ (.inl rfl) q,⟨o,k _ _ (.inl rfl) e⟩,st⟩
theorem iQ.lt(x:iQ P w H h)(e:H a=some o):a<h.objs.size:=(x a o e).lt
theorem iQ.fresh(x:iQ P w H h)(e:h.objs.size<=a):H a=none:=by
 cases q:H a with
 |none=>rfl
 |some u=>exact absurd (FL (x.lt q) e) (Gs _)
theorem iQ.kept(x:iQ P w H h)(k:∀b u,h.get? b=some u->h'.get? b=some u):iQ P w H h':=λa o e=>
 (x a o e).stay (λb u _ q=>k b u q) (λ_ q=>q) λ_ _ q=>q
theorem iQ.laid(x:iQ P w H h)(k:∀b u,h.get? b=some u->h'.get? b=some u)(hp:h.objs.size<=a)(new:cS P w (upd H a o) h' a o):iQ P w (upd H a o) h':=λb u e=>by
 have hn:=x.fresh hp
 by_cases hb:b=a
 ·subst hb; rw[aT] at e; cases e; exact new
 ·rw[aZ hb] at e
  exact(x b u e).stay (λc v _ q=>k c v q) (λc q=>by rw[aZ (dh q hn)]; exact q) λc xs q=>by rw[aZ (dh q hn)]; exact q
end
def Rd(H:Hp)(a:Addr)(u:HO):Prop:=H a=some u\/∃o,H a=some (.frz o u)
theorem Rd.ok{P:FB}{w:World}{H:Hp}{h:Heap}{a:Addr}{u:HO}(r:Rd H a u)(x:iQ P w H h):cS P w H h a u:=by
 rcases r with r | ⟨o,r⟩
 ·exact x a u r
 ·obtain⟨_,q⟩:=x a _ r
  exact q
def Dv:Option HO->Prop
 |some (.lst _)=>True
 |some (.dK _)=>True
 |some (.dT _)=>True
 |some (.set _ _)=>True
 |some (.ins _ _ _)=>True
 |some (.ext _)=>True
 |_=>False
section
variable{P:FB}{w:World}{H:Hp}{h h':Heap}{x e:Addr}{o':HO}
theorem iQ.write(ok:iQ P w H h)(mu:Dv (H x))(he:e=x\/H e=some (.own x))(k:∀b u,b≠e->h.get? b=some u->h'.get? b=some u)(heo:∃u,h'.get? e=some u)
  (new:cS P w (upd H x o') h' x o'):iQ P w (upd H x o') h':=λb u q=>by
 have nown:∀c y,H c=some (.own y)->c≠x:=λc y r z=>by subst z; rw[r] at mu; exact mu
 have ntup:∀c xs,H c=some (.tup xs)->c≠x:=λc xs r z=>by subst z; rw[r] at mu; exact mu
 by_cases hb:b=x
 ·subst hb; rw[aT] at q; cases q; exact new
 ·rw[aZ hb] at q
  by_cases hbe:b=e
  ·have q':H b=some (.own x):=by
    rcases he with z | z
    ·exact absurd (hbe.trans z) hb
    ·rw[hbe]; exact z
   rw[q] at q'; cases q';obtain⟨v,hv⟩:=heo;exact⟨v,by rw[hbe]; exact hv⟩
  ·refine(ok b u q).stay (λc v hc r=>k c v ?_ r) (λc r=>by rw[aZ (nown c b r)]; exact r) λc xs r=>by rw[aZ (ntup c xs r)]; exact r
   rcases hc with rfl | hc
   ·exact hbe
   ·rintro rfl
    rcases he with z | z
    ·exact nown c b hc z
    ·rw[hc] at z; cases z; exact hb rfl
end
structure Un(fs ex:List Addr)(H H':Hp)(h h':Heap):Prop where
 keep:∀b o,h.get? b=some o->H b=none->b∉fs->b∉ex->h'.get? b=some o
 slot:∀b o,h.get? b=some o->H b=none->b∈fs->b∉ex->∃sl,h'.get? b=some { o with slots:=sl }
 free:∀b o,h.get? b=some o->H b=none->b∉ex->H' b=none
 there:∀b o,h.get? b=some o->b∉ex->∃o',h'.get? b=some o'
 tups:∀b xs,H b=some (.tup xs)->H' b=some (.tup xs)
 dH:∀b o u,H b=some (.frz o u)->H' b=some (.frz o u)
 tbls:∀b ps,H b=some (.tbl ps)->∃more,H' b=some (.tbl (ps++more))
section
variable{fs fs' ex ex':List Addr}{H H1 H2:Hp}{h h1 h2 h':Heap}{a x e:Addr}{o:HO}
theorem Un.any(u:Un fs ex H H1 h h1){b:Addr}{ob:Obj}(q:h.get? b=some ob)(n:H b=none)(hx:b∉ex):∃sl,h1.get? b=some { ob with slots:=sl }:=by
 by_cases hb:b∈fs
 ·exact u.slot b ob q n hb hx
 ·exact⟨ob.slots,u.keep b ob q n hb hx⟩
theorem Un.trans(a:Un fs ex H H1 h h1)(b:Un fs ex H1 H2 h1 h2):Un fs ex H H2 h h2 where
 keep:=λc ob q n hc hx=>b.keep c ob (a.keep c ob q n hc hx) (a.free c ob q n hx) hc hx
 slot:=λc ob q n hc hx=>by
  obtain⟨sl,e1⟩:=a.slot c ob q n hc hx;obtain⟨sl',e2⟩:=b.slot c _ e1 (a.free c ob q n hx) hc hx;exact⟨sl',e2⟩
 free:=λc ob q n hx=>by
  obtain⟨o',e1⟩:=a.there c ob q hx;exact b.free c o' e1 (a.free c ob q n hx) hx
 there:=λc ob q hx=>by
  obtain⟨o',e1⟩:=a.there c ob q hx;exact b.there c o' e1 hx
 tups:=λc xs q=>b.tups c xs (a.tups c xs q)
 dH:=λc ob xs q=>b.dH c ob xs (a.dH c ob xs q)
 tbls:=λc ps q=>by
  obtain⟨m1,e1⟩:=a.tbls c ps q;obtain⟨m2,e2⟩:=b.tbls c _ e1;exact⟨m1++m2,by rw[e2,MO]⟩
theorem Un.kept(k:∀b u,h.get? b=some u->h'.get? b=some u):Un fs ex H H h h' :=
 ⟨λb ob q _ _ _=>k b ob q,λb ob q _ _ _=>⟨ob.slots,k b ob q⟩,λ_ _ _ n _=>n,λb ob q _=>⟨ob,k b ob q⟩,λ_ _ q=>q,λ_ _ _ q=>q,λ_ ps q=>⟨#[],by rw[q]; simp⟩⟩
theorem Un.refl:Un fs ex H H h h:=Un.kept λ_ _ q=>q
theorem Un.laid(k:∀b u,h.get? b=some u->h'.get? b=some u)(hp:h.objs.size<=a)(hn:H a=none):Un fs ex H (upd H a o) h h' where
 keep:=λb u q _ _ _=>k b u q
 slot:=λb u q _ _ _=>⟨u.slots,k b u q⟩
 free:=λb u q n _=>by rw[aZ (E1 (FL (Ch q) hp))]; exact n
 there:=λb u q _=>⟨u,k b u q⟩
 tups:=λb xs q=>by rw[aZ (dh q hn)]; exact q
 dH:=λb u xs q=>by rw[aZ (dh q hn)]; exact q
 tbls:=λb ps q=>⟨#[],by rw[aZ (dh q hn),q]; simp⟩
theorem Un.write(mu:Dv (H x))(he:e=x\/H e=some (.own x))(k:∀b u,b≠e->h.get? b=some u->h'.get? b=some u)(heo:∃u,h'.get? e=some u):Un fs ex H (upd H x o) h h':=by
 have hx:∀b,H b=none->b≠x:=λb n z=>by subst z; rw[n] at mu; exact mu
 have hb:∀b,H b=none->b≠e:=λb n z=>by
  subst z;rcases he with r | r
  ·exact hx b n r
  ·rw[n] at r; cases r
 have hm:∀b u,H b=some u->¬Dv (some u)->b≠x:=λb u q nm z=>by subst z; rw[q] at mu; exact nm mu
 refine⟨λb u q n _ _=>k b u (hb b n) q,λb u q n _ _=>⟨u.slots,k b u (hb b n) q⟩,λb u q n _=>by rw[aZ (hx b n)]; exact n,λb u q _=>?_,
  λb xs q=>by rw[aZ (hm b _ q λz=>z)]; exact q,λb u xs q=>by rw[aZ (hm b _ q λz=>z)]; exact q,λb ps q=>⟨#[],by rw[aZ (hm b _ q λz=>z),q]; simp⟩⟩
 by_cases hbe:b=e
 ·subst hbe; exact heo
 ·exact⟨u,k b u hbe q⟩
theorem Un.mono(u:Un fs ex H H1 h h1)(hs:∀b∈fs,b∈fs')(hx:∀b∈ex,b∈ex'):Un fs' ex' H H1 h h1 :=
 ⟨λb ob q n hb he=>u.keep b ob q n (λz=>hb (hs b z)) λz=>he (hx b z),λ_ _ q n _ he=>u.any q n λz=>he (hx _ z),λb ob q n he=>u.free b ob q n λz=>he (hx b z),λb ob q he=>u.there b ob q λz=>he (hx b z),u.tups,u.dH,u.tbls⟩
end
noncomputable def DE(h:Heap)(H:Hp):List Addr:=(FD h.objs.size).filter λa=>(H a).isSome
noncomputable def nQ(h:Heap)(H:Hp):Heap:=PySem.W.hideAll h (DE h H)
theorem ue(h:Heap)(H:Hp):(nQ h H).objs.size=h.objs.size:=PySem.W.hideAll_size _ _
theorem vK{h:Heap}{H:Hp}{b:Addr}{o:Obj}(e:h.get? b=some o)(n:H b=none):(nQ h H).get? b=some o :=
 PySem.W.hideAll_get _ e λhm=>by
  have q:(H b).isSome=true:=(J1.mp hm).2;rw[n] at q; simp at q
theorem yD{h:Heap}{H:Hp}{b:Addr}{o:Obj}(e:(nQ h H).get? b=some o):h.get? b=some o/\H b=none:=by
 have e':h.get? b=some o:=PySem.W.of_hideAll (DE h H) e;refine⟨e',?_⟩;cases q:H b with
 |none=>rfl
 |some x=>
  have hm:b∈DE h H:=J1.mpr ⟨Hj.mpr (Ch e'),by simp[q]⟩
  have z:(nQ h H).get? b=none:=PySem.W.hideAll_none (DE h H) hm;rw[z] at e; cases e
end L2
namespace L2
open PySem PySem.Spec PyProof.Rows
structure Mod(K:AT)(mg:Str->Option Value)(base:Heap):Prop where
 kin:K.In base
 glob:base.Ns FQ mg
 blt:∃mb,base.Ns NJ mb/\∀x:Str,x ≠ "__name__"->mb x=Hg x
 nolimit:base.NoLimit
structure Cx where
 prog:FB
 w:World
 K:AT
 mg:Str->Option Value
 base:Heap
 A:Fa
 N:List Str
 s₀:B1
 H₀:Hp
 env:Env
 outer:List Env
 stack:List Env
 ex:List Addr
 fn:Str->Bool
 calm:Bool
 pn:List (Addr×Obj)
 xe:Value->B1->Prop
noncomputable def frs(l:List Env):List Addr:=l.filterMap (·.frame)
noncomputable abbrev Cx.fs(X:Cx):List Addr:=frs X.outer
def C5(sc:Scope)(x:Str):Prop:=sc.names.lookup x=some .local\/sc.names.lookup x=some .cell\/sc.names.lookup x=some .free
def Loc(sc:Scope)(x:Str):Prop:=sc.names.lookup x=some .local\/sc.names.lookup x=some .cell
def Look(env:Env)(h:Heap)(m:Str->Option Value)(x:Str)(u:Value):Prop :=
 (env.kindOf x=some .local/\m x=some u)\/((env.kindOf x=some .cell\/env.kindOf x=some .free)/\∃c,env.cells.lookup x=some c/\h.IsCell c (some u))
structure Cx.Ok(X:Cx):Prop where
 mod:Mod X.K X.mg X.base
 kind:X.env.scope.kind=.function
 glob:X.env.globals=FQ
 blt:X.env.builtins=NJ
 above:X.s₀.heap.objs.size<=X.env.locals
 inj:∀x y c,X.env.cells.lookup x=some c->X.env.cells.lookup y=some c->x=y
 has:∀x,(X.env.kindOf x=some .cell\/X.env.kindOf x=some .free)->∃c,X.env.cells.lookup x=some c
 cab:∀x c,X.fn x=true->X.env.cells.lookup x=some c->X.s₀.heap.objs.size<=c
 hd:X.calm=true->X.A.handled=none
 frames:X.A.frames=some X.stack
 stk:X.stack=X.outer\/(X.stack=X.env::X.outer/\X.env.frame=some X.env.locals)
 exf:∀b∈X.ex,b≠X.env.locals/\∀x c,X.env.cells.lookup x=some c->c≠b
 bs:∀b o,X.base.get? b=some o->X.s₀.heap.get? b=some o/\X.H₀ b=none
 bsz:X.base.objs.size<=X.s₀.heap.objs.size
 noex:∀b o,X.base.get? b=some o->b∉X.ex
 exfs:∀b∈X.ex,b∉X.fs
 kF:X.s₀.heap.FunFrames X.base X.outer
 frf:∀b∈X.fs,X.H₀ b=none
structure Inv(X:Cx)(pins:List (Addr×Obj))(σ:List (Option V))(H:Hp)(s:B1):Prop where
 ok:X.Ok
 os:s.os=X.s₀.os
 bare:K4 s.gens
 base:Un X.fs X.ex X.H₀ H X.s₀.heap s.heap
 loc:∃m,s.heap.Ns X.env.locals m/\∀(i:Nat)(x:Str)(v:V),X.N[i]? = some x->σ[i]? = some (some v)->C5 X.env.scope x->∃u,RelV v u/\Look X.env s.heap m x u
 cell:∀x c,X.env.cells.lookup x=some c->∃v,s.heap.IsCell c v
 free:H X.env.locals=none
 freeC:∀x c,X.env.cells.lookup x=some c->H c=none
 pin:∀p∈X.pn++pins,s.heap.get? p.1=some p.2/\H p.1=none/\p.1≠X.env.locals/\p.1∉X.fs/\∀v,p.2.data≠.cell v
 hok:iQ X.prog X.w H s.heap
 len:σ.length=X.N.length
section
variable{X:Cx}{pins:List (Addr×Obj)}{σ:List (Option V)}{H H':Hp}{s:B1}{h':Heap}
theorem Cx.Ok.nofr(ok:X.Ok){b:Addr}{o:Obj}(e:X.base.get? b=some o):b∉X.fs:=λhb=>by
 have:=(ok.kF.mem hb).1;rw[e] at this; cases this
theorem Inv.bs(I:Inv X pins σ H s):∀b o,X.base.get? b=some o->s.heap.get? b=some o/\H b=none:=λb o e=>
 ⟨I.base.keep b o (I.ok.bs b o e).1 (I.ok.bs b o e).2 (I.ok.nofr e) (I.ok.noex b o e),I.base.free b o (I.ok.bs b o e).1 (I.ok.bs b o e).2 (I.ok.noex b o e)⟩
theorem Inv.bk(I:Inv X pins σ H s):∀b o,X.base.get? b=some o->s.heap.get? b=some o:=λb o e=>(I.bs b o e).1
theorem Inv.mod(I:Inv X pins σ H s):Mod X.K X.mg X.base:=I.ok.mod
theorem Inv.C6(I:Inv X pins σ H s):X.K.In s.heap:=I.ok.mod.kin.keeps I.bk
theorem Inv.lt(I:Inv X pins σ H s):X.env.locals<s.heap.objs.size:=let ⟨_,hn,_⟩:=I.loc; hn.lt
theorem Inv.sz(I:Inv X pins σ H s):X.s₀.heap.objs.size<=s.heap.objs.size:=GE I.ok.above (HX I.lt)
theorem Inv.nofs(I:Inv X pins σ H s){a:Addr}(h:s.heap.objs.size<=a):a∉X.fs:=λhb=>by
 obtain⟨_,o,ho,_⟩:=I.ok.kF.mem hb;exact absurd (FL (Ch ho) (GE I.sz h)) (Gs _)
theorem Inv.uf(I:Inv X pins σ H s):∀x c,X.env.cells.lookup x=some c->c≠X.env.locals:=λx c e z=>by
 obtain⟨v,o,ho,hd⟩:=I.cell x c e;obtain⟨m,⟨o',es,ep,ho',hd',_⟩,_⟩:=I.loc;rw[z,ho'] at ho; cases ho; rw[hd'] at hd; cases hd
theorem Inv.kF(I:Inv X pins σ H s):s.heap.FunFrames X.base X.outer:=by
 have all:∀(l:List Env),(∀b∈frs l,b∈X.fs)->X.s₀.heap.FunFrames X.base l->s.heap.FunFrames X.base l:=by
  intro l
  induction l with
  |nil=>intro _ _; trivial
  |cons env r ih=>
   intro hs hl;obtain⟨hk,⟨L,o,hf,hn,ho,hd⟩,hr⟩:=hl;have hL:L∈X.fs:=hs L (by unfold frs; rw[K8,hf]; exact lS)
   obtain⟨sl,e⟩:=I.base.slot L o ho (I.ok.frf L hL) hL λz=>I.ok.exfs L z hL
   exact⟨hk,⟨L,_,hf,hn,e,hd⟩,ih (λb hb=>hs b (by unfold frs; rw[K8,hf]; exact lO _ hb)) hr⟩
 exact all X.outer (λ_ hb=>hb) I.ok.kF
theorem Inv.stack(I:Inv X pins σ H s):s.heap.FunFrames X.base X.stack:=by
 rcases I.ok.stk with e | ⟨e,hf⟩
 ·rw[e]; exact I.kF
 ·rw[e]
  obtain⟨m,hn,_⟩:=I.loc;refine .cons (by rw[I.ok.kind]; decide) hf hn ?_ I.kF
  exact Heap.get?_none_of_le (GE I.ok.bsz I.ok.above)
theorem Inv.iD(I:Inv X pins σ H s):∀b∈frs X.stack,b∈X.env.locals::X.fs:=λb hb=>by
 rcases I.ok.stk with e | ⟨e,hf⟩
 ·rw[e] at hb; exact lO _ hb
 ·rw[e] at hb
  unfold frs at hb;rw[K8,hf] at hb;exact hb
theorem Inv.sF(I:Inv X pins σ H s):∀b∈frs X.stack,H b=none:=λb hb=>by
 rcases lK (I.iD b hb) with e | hb
 ·rw[e]; exact I.free
 ·obtain⟨_,o,ho,_⟩:=I.ok.kF.mem hb
  exact I.base.free b o ho (I.ok.frf b hb) λz=>I.ok.exfs b z hb
theorem Inv.step{g':Array GenState}{t':Nat}{d':Drawn}{ch:List Addr}(I:Inv X pins σ H s)
  (hch:∀b∈ch,(b∈X.ex\/X.s₀.heap.objs.size<=b)/\b≠X.env.locals/\(∀x c,X.env.cells.lookup x=some c->c≠b)/\∀p∈X.pn++pins,p.1≠b)
  (keep:∀b o,b≠X.env.locals->b∉X.fs->b∉ch->s.heap.get? b=some o->H b=none->h'.get? b=some o)
  (slot:∀b o,b≠X.env.locals->b∈X.fs->b∉ch->s.heap.get? b=some o->H b=none->∃sl,h'.get? b=some { o with slots:=sl }) (free:∀b o,b∉ch->s.heap.get? b=some o->H b=none->H' b=none)
  (there:∀b o,b∉ch->s.heap.get? b=some o->∃o',h'.get? b=some o')
  (tups:∀b xs,H b=some (.tup xs)->H' b=some (.tup xs)) (dH:∀b o u,H b=some (.frz o u)->H' b=some (.frz o u)) (tbls:∀b ps,H b=some (.tbl ps)->∃more,H' b=some (.tbl (ps++more)))
  (ns:∀m,s.heap.Ns X.env.locals m->h'.Ns X.env.locals m) (hok:iQ X.prog X.w H' h') (hg:K4 g') :
  Inv X pins σ H' { s with heap:=h',gens:=g',drawn:=d',toks:=t' }:=by
 have neL:∀b o,X.s₀.heap.get? b=some o->b≠X.env.locals:=λb o e=>E1 (FL (Ch e) I.ok.above)
 have neC:∀b o,X.s₀.heap.get? b=some o->b∉X.ex->b∉ch:=λb o e hx hb=>by
  rcases (hch b hb).1 with z | z
  ·exact hx z
  ·exact absurd (FL (Ch e) z) (Gs _)
 have cellK:∀x c,X.env.cells.lookup x=some c->∀v,s.heap.IsCell c v->h'.IsCell c v:=λx c e v ⟨o,ho,hd⟩=>by
  have nch:c∉ch:=λz=>(hch c z).2.2.1 x c e rfl
  by_cases hc:c∈X.fs
  ·obtain⟨sl,q⟩:=slot c o (I.uf x c e) hc nch ho (I.freeC x c e)
   exact⟨_,q,hd⟩
  ·exact⟨o,keep c o (I.uf x c e) hc nch ho (I.freeC x c e),hd⟩
 refine⟨I.ok,I.os,hg,⟨λb o e n hb hx=>?_,λb o e n hb hx=>?_,λb o e n hx=>?_,λb o e hx=>?_,λb xs e=>tups b xs (I.base.tups b xs e),λb o xs e=>dH b o xs (I.base.dH b o xs e),λb ps e=>?_⟩,?_,λx c e=>?_,?_,λx c e=>?_,λp hp=>?_,hok,I.len⟩
 ·exact keep b o (neL b o e) hb (neC b o e hx) (I.base.keep b o e n hb hx) (I.base.free b o e n hx)
 ·obtain⟨sl,e1⟩:=I.base.slot b o e n hb hx
  obtain⟨sl',e2⟩:=slot b _ (neL b o e) hb (neC b o e hx) e1 (I.base.free b o e n hx);exact⟨sl',e2⟩
 ·obtain⟨o',e1⟩:=I.base.there b o e hx
  exact free b o' (neC b o e hx) e1 (I.base.free b o e n hx)
 ·obtain⟨o',e1⟩:=I.base.there b o e hx
  exact there b o' (neC b o e hx) e1
 ·obtain⟨m1,e1⟩:=I.base.tbls b ps e
  obtain⟨m2,e2⟩:=tbls b _ e1;exact⟨m1++m2,by rw[e2,MO]⟩
 ·obtain⟨m,hn,hl⟩:=I.loc
  refine⟨m,ns m hn,λi x v e1 e2 e3=>?_⟩
  obtain⟨u,r,l⟩:=hl i x v e1 e2 e3;refine⟨u,r,?_⟩;rcases l with l | ⟨k,c,e,z⟩
  ·exact .inl l
  ·exact .inr ⟨k,c,e,cellK x c e _ z⟩
 ·obtain⟨v,z⟩:=I.cell x c e
  exact⟨v,cellK x c e v z⟩
 ·obtain⟨m,⟨o,_,_,ho,_⟩,_⟩:=I.loc
  exact free _ o (λz=>(hch _ z).2.1 rfl) ho I.free
 ·obtain⟨v,o,ho,hd⟩:=I.cell x c e
  exact free c o (λz=>(hch c z).2.2.1 x c e rfl) ho (I.freeC x c e)
 ·obtain⟨e,n,ne,nf,d⟩:=I.pin p hp
  have nch:p.1∉ch:=λz=>(hch p.1 z).2.2.2 p hp rfl
  exact⟨keep p.1 p.2 ne nf nch e n,free p.1 p.2 nch e n,ne,nf,d⟩
theorem Inv.un{t':Nat}(I:Inv X pins σ H s)(u:Un X.fs [] H H' s.heap h')(hok:iQ X.prog X.w H' h'):Inv X pins σ H' { s with heap:=h',toks:=t' }:=by
 obtain⟨m,⟨o,es,ep,ho,r⟩,_⟩:=id I.loc;obtain⟨sl,hL⟩:=u.any ho I.free (by simp)
 exact I.step (g':=s.gens) (d':=s.drawn) (ch:=[]) (λ_ z=>nomatch z) (λb o _ hb _ e n=>u.keep b o e n hb (by simp)) (λb o _ hb _ e n=>u.slot b o e n hb (by simp)) (λb o _ e n=>u.free b o e n (by simp)) (λb o _ e=>u.there b o e (by simp)) u.tups u.dH u.tbls (λm' hm=>by
  obtain⟨o',es',ep',ho',r'⟩:=hm;rw[ho] at ho'; cases ho';exact⟨_,es',ep',hL,r'⟩) hok I.bare
theorem Inv.call{g':Array GenState}{t':Nat}{d':Drawn}{ch:List Addr}(I:Inv X pins σ H s)(u:Un (frs X.stack) ch H H' s.heap h')(hok:iQ X.prog X.w H' h')(hg:K4 g')
  (hch:∀b∈ch,(b∈X.ex\/X.s₀.heap.objs.size<=b)/\b≠X.env.locals/\(∀x c,X.env.cells.lookup x=some c->c≠b)/\∀p∈X.pn++pins,p.1≠b) :
  Inv X pins σ H' { s with heap:=h',gens:=g',drawn:=d',toks:=t' }:=by
 obtain⟨m,⟨o,es,ep,ho,r⟩,_⟩:=id I.loc;obtain⟨sl,hL⟩:=u.any ho I.free λz=>(hch _ z).2.1 rfl
 exact I.step (ch:=ch) hch (λb o hL hb hc e n=>u.keep b o e n (λz=>(lK (I.iD b z)).elim hL hb) hc) (λb o _ _ hc e n=>u.any e n hc) (λb o hc e n=>u.free b o e n hc) (λb o hc e=>u.there b o e hc) u.tups u.dH u.tbls (λm' hm=>by
  obtain⟨o',es',ep',ho',r'⟩:=hm;rw[ho] at ho'; cases ho';exact⟨_,es',ep',hL,r'⟩) hok hg
theorem Inv.turned{t':Nat}{it:Addr}(I:Inv X pins σ H s)(k:∀b o,b≠it->s.heap.get? b=some o->h'.get? b=some o)(hn:H it=none)(hL:it≠X.env.locals)
  (h1:it∈X.ex\/X.s₀.heap.objs.size<=it) (h2:∀x c,X.env.cells.lookup x=some c->c≠it) (h3:∀p∈X.pn++pins,p.1≠it):Inv X pins σ H { s with heap:=h',toks:=t' }:=by
 have nit:∀b u,H b=some u->b≠it:=λb u e z=>by rw[z,hn] at e; cases e
 refine I.step (g':=s.gens) (d':=s.drawn) (ch:=[it]) (λb hb=>?_) (λb o _ _ hc e _=>k b o (λz=>hc (by simp[z])) e) (λb o _ _ hc e _=>⟨o.slots,k b o (λz=>hc (by simp[z])) e⟩) (λ_ _ _ _ n=>n)
  (λb o hc e=>⟨o,k b o (λz=>hc (by simp[z])) e⟩) (λ_ _ e=>e) (λ_ _ _ e=>e) (λb ps e=>⟨#[],by rw[e]; simp⟩) (λm hm=>?_) (λb u e=>?_) I.bare
 ·have e:b=it:=by simpa using hb
  subst e;exact⟨h1,hL,h2,h3⟩
 ·obtain⟨o,es,ep,ho,r⟩:=hm
  exact⟨o,es,ep,k _ o (HZ hL) ho,r⟩
 ·refine(I.hok b u e).stay (λc v hc q=>k c v ?_ q) (λ_ q=>q) λ_ _ q=>q
  rcases hc with z | z
  ·rw[z]; exact nit b u e
  ·exact nit c _ z
theorem Inv.tok(I:Inv X pins σ H s)(t:Nat):Inv X pins σ H { s with toks:=t }:=I.un (h':=s.heap) (t':=t) Un.refl I.hok
theorem Inv.kept{t':Nat}(I:Inv X pins σ H s)(k:∀b u,s.heap.get? b=some u->h'.get? b=some u):Inv X pins σ H { s with heap:=h',toks:=t' }:=I.un (Un.kept k) (I.hok.kept k)
theorem Inv.laid{a:Addr}{o:HO}{t':Nat}(I:Inv X pins σ H s)(k:∀b u,s.heap.get? b=some u->h'.get? b=some u)(hp:s.heap.objs.size<=a)(new:cS X.prog X.w (upd H a o) h' a o) :
  Inv X pins σ (upd H a o) { s with heap:=h',toks:=t' }:=I.un (Un.laid k hp (I.hok.fresh hp)) (I.hok.laid k hp new)
theorem Inv.write{x e:Addr}{o:HO}{t':Nat}(I:Inv X pins σ H s)(mu:Dv (H x))(he:e=x\/H e=some (.own x))(k:∀b u,b≠e->s.heap.get? b=some u->h'.get? b=some u)(heo:∃u,h'.get? e=some u)
  (new:cS X.prog X.w (upd H x o) h' x o):Inv X pins σ (upd H x o) { s with heap:=h',toks:=t' }:=I.un (Un.write mu he k heo) (I.hok.write mu he k heo new)
theorem Inv.sG{pins':List (Addr×Obj)}(I:Inv X pins σ H s)(h:∀p∈pins',s.heap.get? p.1=some p.2/\H p.1=none/\p.1≠X.env.locals/\p.1∉X.fs/\∀v,p.2.data≠.cell v):Inv X pins' σ H s :=
 ⟨I.ok,I.os,I.bare,I.base,I.loc,I.cell,I.free,I.freeC,λp hp=>(lM hp).elim (λz=>I.pin p (lL _ z)) (h p),I.hok,I.len⟩
theorem pR{N:List Str}(hN:N.Nodup){i j:Nat}{x:Str}(a:N[i]? = some x)(b:N[j]? = some x):i=j:=by
 obtain⟨h1,e1⟩:=EY.mp a;obtain⟨h2,e2⟩:=EY.mp b;exact(List.getElem_inj hN).mp (e1.trans e2.symm)
theorem jv{M:Model}{A:Fa}{E:Value->B1->Prop}{i:Nat}{x:Str}{v:V}{u:Value}{Q:Unit->B1->Prop}(I:Inv X pins σ H s)(hN:X.N.Nodup)(hi:X.N[i]? = some x)(hx:Loc X.env.scope x)(r:RelV v u)
  (h:∀s',Inv X pins (σ.set i (some v)) H s'->(∃a,HU a s.heap s'.heap/\(a=X.env.locals\/X.env.cells.lookup x=some a))->Q () s') (hf:X.fn x=true\/X.env.scope.names.lookup x=some .local:=by first | exact .inl rfl | exact .inr rfl | assumption):wpAny M A (storeName X.env x u) Q E s:=by
 obtain⟨m,hn,hl⟩:=id I.loc;have hcls:(X.env.scope.kind == .class || (X.env.scope.kind == .module && X.env.locals != X.env.globals))=false:=by rw[I.ok.kind]; rfl
 have hiσ:i<σ.length:=by rw[I.len]; exact(EY.mp hi).1
 have uf:=I.uf;have tracked:∀{a:Addr}{h':Heap},(∃o,s.heap.get? a=some o/\H a=none)->HU a s.heap h'->iQ X.prog X.w H h':=λ{a h'}ha hs b ob e=>by
  obtain⟨_,_,hfree⟩:=ha;refine(I.hok b ob e).stay (λc w' hc q=>(hs.2 c ?_).trans q) (λ_ q=>q) λ_ _ q=>q
  rintro rfl;rcases hc with rfl | hc
  ·rw[hfree] at e; cases e
  ·rw[hfree] at hc; cases hc
 rcases hx with hk | hk
 ·refine wpAny_storeName_local hk hn (λh' hn' hs=>?_) hcls
  obtain⟨oL,_,_,hoL,_⟩:=id hn;refine h _ ⟨I.ok,I.os,I.bare,⟨λb o e n hb hx=>?_,λb o e n hb hx=>?_,I.base.free,λb o e hx=>?_,I.base.tups,I.base.dH,I.base.tbls⟩,⟨_,hn',λj y v' e1 e2 e3=>?_⟩,λy c e=>?_,I.free,I.freeC,λp hp=>?_,tracked ⟨oL,hoL,I.free⟩ hs,by simpa using I.len⟩ ⟨_,hs,.inl rfl⟩
  ·exact(hs.2 b (E1 (FL (Ch e) I.ok.above))).trans (I.base.keep b o e n hb hx)
  ·obtain⟨sl,e1⟩:=I.base.slot b o e n hb hx
   exact⟨sl,(hs.2 b (E1 (FL (Ch e) I.ok.above))).trans e1⟩
  ·obtain⟨o',e1⟩:=I.base.there b o e hx
   exact⟨o',(hs.2 b (E1 (FL (Ch e) I.ok.above))).trans e1⟩
  ·by_cases hj:j=i
   ·subst hj
    rw[hi] at e1; cases e1;rw[Gh hiσ] at e2;cases e2;exact⟨u,r,.inl ⟨hk,by simp⟩⟩
   ·rw[Jy (HZ hj)] at e2
    obtain⟨u',r',q⟩:=hl j y v' e1 e2 e3;refine⟨u',r',?_⟩;rcases q with⟨k,e⟩ | ⟨k,c,e,z⟩
    ·refine .inl ⟨k,?_⟩
     have:y≠x:=λe=>hj (pR hN e1 (e▸hi))
     simp[this,e]
    ·exact .inr ⟨k,c,e,z.sameBut hs (uf y c e)⟩
  ·obtain⟨w',z⟩:=I.cell y c e
   exact⟨w',z.sameBut hs (uf y c e)⟩
  ·obtain⟨e,n,ne,nf,d⟩:=I.pin p hp
   exact⟨(hs.2 p.1 ne).trans e,n,ne,nf,d⟩
 ·have hfn:X.fn x=true:=by
   rcases hf with z | z
   ·exact z
   ·rw[z] at hk; cases hk
  obtain⟨c,hc⟩:=I.ok.has x (.inl hk);obtain⟨w',z⟩:=I.cell x c hc;refine wpAny_storeName_cell I.ok.kind hk hc z (λh' hc' hs=>?_)
  obtain⟨oc,hoc,hocd⟩:=id z;refine h { s with heap:=h' } ⟨I.ok,I.os,I.bare,⟨λb o e n hb hx=>?_,λb o e n hb hx=>?_,I.base.free,λb o e hx=>?_,I.base.tups,I.base.dH,I.base.tbls⟩,⟨m,hn.sameBut hs (HZ (uf x c hc)),λj y v' e1 e2 e3=>?_⟩,λy c' e=>?_,I.free,I.freeC,λp hp=>?_,tracked ⟨oc,hoc,I.freeC x c hc⟩ hs,by simpa using I.len⟩ ⟨c,hs,.inr hc⟩
  ·exact(hs.2 b (E1 (FL (Ch e) (I.ok.cab x c hfn hc)))).trans (I.base.keep b o e n hb hx)
  ·obtain⟨sl,e1⟩:=I.base.slot b o e n hb hx
   exact⟨sl,(hs.2 b (E1 (FL (Ch e) (I.ok.cab x c hfn hc)))).trans e1⟩
  ·obtain⟨o',e1⟩:=I.base.there b o e hx
   exact⟨o',(hs.2 b (E1 (FL (Ch e) (I.ok.cab x c hfn hc)))).trans e1⟩
  ·by_cases hj:j=i
   ·subst hj
    rw[hi] at e1; cases e1;rw[Gh hiσ] at e2;cases e2;exact⟨u,r,.inr ⟨.inl hk,c,hc,hc'⟩⟩
   ·rw[Jy (HZ hj)] at e2
    obtain⟨u',r',q⟩:=hl j y v' e1 e2 e3;refine⟨u',r',?_⟩;rcases q with q | ⟨k,c',e,z'⟩
    ·exact .inl q
    ·refine .inr ⟨k,c',e,z'.sameBut hs ?_⟩
     rintro rfl;exact hj (pR hN e1 (I.ok.inj _ _ _ e hc▸hi))
  ·by_cases hcc:c'=c
   ·subst hcc; exact⟨_,hc'⟩
   ·obtain⟨w2,z2⟩:=I.cell y c' e
    exact⟨w2,z2.sameBut hs hcc⟩
  ·obtain⟨e,n,ne,nf,d⟩:=I.pin p hp
   refine⟨(hs.2 p.1 ?_).trans e,n,ne,nf,d⟩;intro q;rw[q,hoc] at e;have q':oc=p.2:=FX e;exact d w' (by rw[<-q']; exact hocd)
theorem fq{M:Model}{A:Fa}{E:Value->B1->Prop}{i:Nat}{x:Str}{v:V}{u:Value}{Q:Unit->B1->Prop}(I:Inv X pins σ H s)(hN:X.N.Nodup)(hi:X.N[i]? = some x)(hx:Loc X.env.scope x)(r:RelV v u)
  (h:∀s',Inv X pins (σ.set i (some v)) H s'->Q () s') (hf:X.fn x=true\/X.env.scope.names.lookup x=some .local:=by first | exact .inl rfl | exact .inr rfl | assumption):wpAny M A (storeName X.env x u) Q E s :=
 jv I hN hi hx r (λs' I' _=>h s' I') hf
theorem Inv.call'{s':B1}{ch:List Addr}(I:Inv X pins σ H s)(ho:s'.os=s.os)(u:Un (frs X.stack) ch H H' s.heap s'.heap)(hok:iQ X.prog X.w H' s'.heap)(hg:K4 s'.gens)
  (hch:∀b∈ch,(b∈X.ex\/X.s₀.heap.objs.size<=b)/\b≠X.env.locals/\(∀x c,X.env.cells.lookup x=some c->c≠b)/\∀p∈X.pn++pins,p.1≠b):Inv X pins σ H' s':=by
 obtain⟨h',g',d',t',o'⟩:=s';have e:o'=s.os:=ho;subst e;exact I.call (g':=g') (t':=t') (d':=d') u hok hg hch
end
abbrev XK:=Value->Option Addr->Hp->Prop
abbrev St:=List (Option V)
abbrev VK:=V->Hp->Prop
abbrev TE:=St->Hp->VK->Prop
abbrev TT:=St->Hp->(Bool->Hp->Prop)->Prop
abbrev TA:=St->Hp->(List V->Hp->Prop)->Prop
structure Ends where
 nx:St->Hp->Prop
 rt:VK
 bk:St->Hp->Prop:=λ_ _=>False
 ct:St->Hp->Prop:=λ_ _=>False
abbrev TS:=Ends->St->Hp->Prop
def EP(X:Cx)(pins:List (Addr×Obj))(σ:St)(Q:VK)(u:Value)(s':B1):Prop:=∃v H',Inv X pins σ H' s'/\RelV v u/\Q v H'
def TP(X:Cx)(pins:List (Addr×Obj))(σ:St)(Q:Bool->Hp->Prop)(b:Bool)(s':B1):Prop:=∃H',Inv X pins σ H' s'/\Q b H'
def AP(X:Cx)(pins:List (Addr×Obj))(σ:St)(Q:List V->Hp->Prop)(us:List Value)(s':B1):Prop:=∃vs H',Inv X pins σ H' s'/\Vals vs us/\Q vs H'
def SP(X:Cx)(pins:List (Addr×Obj))(D:Ends)(f:Flow)(s':B1):Prop :=
 match f with
 |.next=>∃σ' H',Inv X pins σ' H' s'/\D.nx σ' H'
 |.brk=>∃σ' H',Inv X pins σ' H' s'/\D.bk σ' H'
 |.cont=>∃σ' H',Inv X pins σ' H' s'/\D.ct σ' H'
 |.ret u=>∃v σ' H',Inv X pins σ' H' s'/\RelV v u/\D.rt v H'
def PE(X:Cx)(e:Expr)(t:TE):Prop :=
 ∀(pins:List (Addr×Obj))(s:B1)(σ:St)(H:Hp)(Q:VK),Inv X pins σ H s->t σ H Q->wpAny (model X.prog X.w) X.A (eval e X.env) (EP X pins σ Q) X.xe s
def PT(X:Cx)(e:Expr)(t:TT):Prop :=
 ∀(pins:List (Addr×Obj))(s:B1)(σ:St)(H:Hp)(Q:Bool->Hp->Prop),Inv X pins σ H s->t σ H Q->wpAny (model X.prog X.w) X.A (Lx e X.env (eval e X.env)) (TP X pins σ Q) X.xe s
def PW(X:Cx)(e:Expr)(t:TT):Prop :=
 ∀(whole:Sem Value)(pins:List (Addr×Obj))(s:B1)(σ:St)(H:Hp)(Q:Bool->Hp->Prop),Inv X pins σ H s->t σ H Q->wpAny (model X.prog X.w) X.A (Lx e X.env whole) (TP X pins σ Q) X.xe s
theorem PW.pt{X:Cx}{e:Expr}{t:TT}(h:PW X e t):PT X e t:=h _
def PA(X:Cx)(es:List Expr)(t:TA):Prop :=
 ∀(pos:Pos)(pins:List (Addr×Obj))(s:B1)(σ:St)(H:Hp)(Q:List V->Hp->Prop),Inv X pins σ H s->t σ H Q->wpAny (model X.prog X.w) X.A (MW (Ij pos (E5 es X.env))) (AP X pins σ Q) X.xe s
def PS(X:Cx)(st:Stmt)(t:TS):Prop :=
 ∀(pins:List (Addr×Obj))(s:B1)(σ:St)(H:Hp)(D:Ends),Inv X pins σ H s->t D σ H->wpAny (model X.prog X.w) X.A (exec st X.env) (SP X pins D) X.xe s
def qZ(X:Cx)(st:List Stmt)(t:TS):Prop :=
 ∀(pins:List (Addr×Obj))(s:B1)(σ:St)(H:Hp)(D:Ends),Inv X pins σ H s->t D σ H->wpAny (model X.prog X.w) X.A (execs st X.env) (SP X pins D) X.xe s
theorem bD{α:Type}{t:Sem α}{Q Q':α->B1->Prop}{M:Model}{A:Fa}{E:Value->B1->Prop}{s:B1}(h:wpAny M A t Q E s)(hQ:∀a s,Q a s->Q' a s):wpAny M A t Q' E s:=Gz h hQ λ_ _ x=>x
end L2
namespace L2
open PySem PySem.Spec PyProof.Rows
section
variable{X:Cx}
theorem bin{a b:Expr}{ta tb:TE}(ha:PE X a ta)(hb:PE X b tb){pins:List (Addr×Obj)}{s:B1}{σ:St}{H:Hp}{R:V->V->Hp->Prop}(I:Inv X pins σ H s)(h:ta σ H λx H1=>tb σ H1 λy H2=>R x y H2)
  {α:Type} {Q:α->B1->Prop} {f:Value->Value->Sem α}
  (hf:∀v u s2 x y H2,Inv X pins σ H2 s2->RelV x v->RelV y u->R x y H2->wpAny (model X.prog X.w) X.A (f v u) Q X.xe s2) :
  wpAny (model X.prog X.w) X.A (eval a X.env) (λv s₁=>wpAny (model X.prog X.w) X.A (eval b X.env) (λu s₂=>wpAny (model X.prog X.w) X.A (f v u) Q X.xe s₂) X.xe s₁) X.xe s:=by
 refine bD (ha pins s σ H _ I h) λv s1 ⟨x,H1,I1,r1,q1⟩=>?_
 refine bD (hb pins s1 σ H1 _ I1 q1) λu s2 ⟨y,H2,I2,r2,q2⟩=>?_
 exact hf v u s2 x y H2 I2 r1 r2 q2
noncomputable def fu(i:Nat):TE:=λσ H Q=>∃v,σ[i]? = some (some v)/\Q v H
noncomputable def tC(v:V):TE:=λ_ H Q=>Q v H
theorem vL{i:Nat}{x:Str}{pos:Pos}(hN:X.N[i]? = some x)(hv:C5 X.env.scope x)(hd:(x == ("__debug__" : Str))=false:=by decide)(hcd:(x == ("__classdict__" : Str))=false:=by decide):PE X (.Name x pos) (fu i):=by
 intro pins s σ H Q I h;obtain⟨v,e,h⟩:=h;obtain⟨m,hn,hl⟩:=I.loc;obtain⟨u,r,l⟩:=hl i x v hN e hv;have fin:EP X pins σ Q u s:=⟨v,H,I,r,h⟩;rcases l with⟨hk,hm⟩ | ⟨hk,c,hc,hcell⟩
 ·exact NG (wpAny_loadName_local I.ok.kind hk hn hm fin) hd
 ·rcases hk with hk | hk
  ·exact NG (wpAny_loadName_cell I.ok.kind hk hc hcell fin) hd
  ·exact NG (wpAny_loadName_free I.ok.kind hk hc hcell fin hcd) hd
theorem vM{i j pos}:PE X (.Constant (.int i) j pos) (tC (.int i)):=λ_ _ _ H _ I h=>wpAny_Constant_int ⟨.int i,H,I.tok _,⟨_,rfl⟩,h⟩
theorem pe_bl{b j pos}:PE X (.Constant (.bool b) j pos) (tC (.bl b)):=λ_ _ _ H _ I h=>Constant_bool ⟨.bl b,H,I,rfl,h⟩
theorem Bg{j pos}:PE X (.Constant .none j pos) (tC .non):=λ_ _ _ H _ I h=>Constant_none ⟨.non,H,I,rfl,h⟩
def Gl(X:Cx)(x:Str):Prop:=X.env.kindOf x=some .globalImplicit
theorem yE{E:Value->B1->Prop}{pins:List (Addr×Obj)}{s:B1}{σ:St}{H:Hp}{x:Str}{u:Value}{pos:Pos}{Q:Value->B1->Prop}(I:Inv X pins σ H s)(hg:Gl X x)(hm:X.mg x=some u)(h:Q u s)
  (hd:(x == ("__debug__" : Str))=false:=by decide):wpAny (model X.prog X.w) X.A (eval (.Name x pos) X.env) Q E s :=
 L7 I.ok.kind hg (Calls.loadGlobal_global (by rw[I.ok.glob]; exact I.mod.glob.keeps I.bk) hm h) hd
theorem fP{E:Value->B1->Prop}{pins:List (Addr×Obj)}{s:B1}{σ:St}{H:Hp}{x:Str}{u:Value}{pos:Pos}{Q:Value->B1->Prop}(I:Inv X pins σ H s)(hg:Gl X x)(hm:X.mg x=none)(hv:Hg x=some u)(h:Q u s)
  (hn:x ≠ "__name__" := by decide) (hd:(x == ("__debug__" : Str))=false:=by decide):wpAny (model X.prog X.w) X.A (eval (.Name x pos) X.env) Q E s:=by
 obtain⟨mb,h1,h2⟩:=I.mod.blt;exact L7 I.ok.kind hg (Calls.loadGlobal_builtin (by rw[I.ok.glob]; exact I.mod.glob.keeps I.bk) hm (by rw[I.ok.blt]; exact h1.keeps I.bk) ((h2 x hn).trans hv) h) hd
variable{a b:Expr}{ta tb:TE}{pos:Pos}
def PC(X:Cx)(op:CmpOp)(a b:Expr)(t:TE):Prop :=
 ∀(pins:List (Addr×Obj))(s:B1)(σ:St)(H:Hp)(Q:VK),Inv X pins σ H s->t σ H Q ->
  wpAny (model X.prog X.w) X.A (eval a X.env) (λv s₁=>wpAny (model X.prog X.w) X.A (eval b X.env) (λu s₂=>wpAny (model X.prog X.w) X.A (Fy op v u) (EP X pins σ Q) X.xe s₂) X.xe s₁) X.xe s
noncomputable def tB(t:TE):TT:=λσ H Q=>t σ H λx H1=>∃c,x=.bl c/\Q c H1
theorem Bh{op:CmpOp}{t:TE}(h:PC X op a b t)(h1:GX op b=false:=by first | exact vN _ (by decide) (by decide) | rfl):PE X (.Compare a [op] [b] pos) t:=λpins s σ H Q I hw=>wpAny_Compare1 (h pins s σ H Q I hw) h1
theorem vP{op:CmpOp}{t:TE}(h:PC X op a b t)(h1:GX op b=false:=by first | exact vN _ (by decide) (by decide) | rfl):PT X (.Compare a [op] [b] pos) (tB t):=by
 intro pins s σ H Q I hw;refine Mj (bD (h pins s σ H _ I hw) λv s1 h1=>bD h1 λu s2 h2=>bD h2 λc s3 ⟨x,H1,I1,r1,q1⟩=>?_) h1
 obtain⟨d,rfl,q⟩:=q1;cases r1;exact Jj ⟨H1,I1,q⟩
variable{tA tB':TT}{rest:List Expr}
noncomputable def tAnd(t u:TT):TT:=λσ H Q=>t σ H λc H1=>if c=true then u σ H1 Q else Q false H1
theorem yF(ha:PT X a tA):PW X (.BoolOp .And [a] pos) tA:=by
 intro wh pins s σ H Q I h;refine isTrue_and (bD (ha pins s σ H Q I h) λc s1 e=>?_)
 cases c with
 |true=>exact isTrue_and_nil e
 |false=>exact e
theorem Bj(ha:PT X a tA)(hb:PW X (.BoolOp .And (b::rest) pos) tB'):PW X (.BoolOp .And (a::b::rest) pos) (tAnd tA tB'):=by
 intro wh pins s σ H Q I h;refine isTrue_and (bD (ha pins s σ H _ I h) λc s1 ⟨H1,I1,q1⟩=>?_)
 cases c with
 |true=>exact hb wh pins s1 σ H1 Q I1 q1
 |false=>exact⟨H1,I1,q1⟩
noncomputable def EJ(t:TT)(ta tb:TE):TE:=λσ H Q=>t σ H λc H1=>if c=true then ta σ H1 Q else tb σ H1 Q
theorem vQ{c:Expr}(hc:PT X c tA)(ha:PE X a ta)(hb:PE X b tb):PE X (.IfExp c a b pos) (EJ tA ta tb):=by
 intro pins s σ H Q I h;refine wpAny_IfExp (bD (hc pins s σ H _ I h) λd s1 ⟨H1,I1,q1⟩=>?_)
 cases d with
 |true=>exact ha pins s1 σ H1 Q I1 q1
 |false=>exact hb pins s1 σ H1 Q I1 q1
end
end L2
namespace L2
open PySem PySem.Spec PyProof.Rows
def gg(K:AT)(H:Hp)(a:Addr)(xs:List V):Prop :=
 Rd H a (.lst xs) \/
  ∃ (o:Obj) (its:Array Value) (n:Nat),K.lookup a=some o/\o.cls=.type "list"/\o.dict=none/\o.data=.seq its n/\its.size<=E6/\Vals xs its.toList
def dR(K:AT)(H:Hp)(a:Addr)(xs:List V):Prop :=
 Rd H a (.tup xs) \/
  ∃ (o:Obj) (its:Array Value) (n:Nat),K.lookup a=some o/\o.cls=.type "tuple"/\o.data=.seq its n/\its.size<=E6/\Vals xs its.toList
noncomputable def absV:Value->Option V
 |.none=>some .non
 |.bool b=>some (.bl b)
 |.int i _=>some (.int i)
 |.str x _=>some (.str x)
 |.bytes b _=>some (.byt b)
 |.float b _=>some (.flt b)
 |.ref a=>some (.ref a)
 |.type n=>some (.ty n)
 |_=>none
theorem RelV.abs{x:V}{u:Value}(r:RelV x u):absV u=some x:=by
 cases x with
 |non=>cases r; rfl
 |bl _=>cases r; rfl
 |int _=>obtain⟨t,rfl⟩:=r; rfl
 |str _=>obtain⟨t,rfl⟩:=r; rfl
 |byt _=>obtain⟨t,rfl⟩:=r; rfl
 |flt _=>obtain⟨t,rfl⟩:=r; rfl
 |ref _=>cases r; rfl
 |ty _=>cases r; rfl
theorem RelV.inj{x y:V}{u:Value}(r:RelV x u)(q:RelV y u):x=y:=FX (r.abs.symm.trans q.abs)
theorem Vals.inj:∀{xs ys:List V}{us:List Value},Vals xs us->Vals ys us->xs=ys
 |_,_,_,.nil,.nil=>rfl
 |_,_,_,.cons r t,.cons r' t'=>by rw[r.inj r',Vals.inj t t']
section
variable{X:Cx}{pins:List (Addr×Obj)}{σ:St}{H:Hp}{s:B1}{a:Addr}{xs ys:List V}
theorem gg.of{K:AT}(h:H a=some (.lst xs)):gg K H a xs:=.inl (.inl h)
theorem dR.of{K:AT}(h:H a=some (.tup xs)):dR K H a xs:=.inl (.inl h)
theorem Inv.list(I:Inv X pins σ H s)(h:gg X.K H a xs):∃its:List Value,Vals xs its/\PlainL s.heap a its.toArray/\xs.length<=E6:=by
 rcases h with h | ⟨o,its,n,hk,hc,hd,hs,hz,r⟩
 ·obtain⟨z,its,n,r,e⟩:=h.ok I.hok
  exact⟨its,r,⟨_,n,e,rfl,rfl,rfl⟩,z⟩
 ·refine⟨its.toList,r,⟨o,n,I.C6 a o hk,hc,hd,by simpa using hs⟩,?_⟩
  have e:=r.length;simp only[FW] at e;lia
theorem Inv.tuple(I:Inv X pins σ H s)(h:dR X.K H a xs):∃its:List Value,Vals xs its/\IsTup s.heap a its.toArray/\xs.length<=E6:=by
 rcases h with h | ⟨o,its,n,hk,hc,hs,hz,r⟩
 ·obtain⟨z,its,r,p⟩:=h.ok I.hok
  exact⟨its,r,p,z⟩
 ·refine⟨its.toList,r,⟨o,I.C6 a o hk,hc,n,by simpa using hs⟩,?_⟩
  have e:=r.length;simp only[FW] at e;lia
theorem Inv.vR(I:Inv X pins σ H s)(h:gg X.K H a xs)(h':gg X.K H a ys):xs=ys:=by
 obtain⟨its,r,⟨o,n,e,_,_,d⟩,_⟩:=I.list h;obtain⟨its',r',⟨o',n',e',_,_,d'⟩,_⟩:=I.list h';rw[e] at e'; cases e';rw[d] at d'
 injection d' with d1 _
 have:its=its':=by simpa using congrArg NV d1
 subst this;exact r.inj r'
theorem Inv.ug(I:Inv X pins σ H s)(h:dR X.K H a xs)(h':dR X.K H a ys):xs=ys:=by
 obtain⟨its,r,⟨o,e,_,n,d⟩,_⟩:=I.tuple h;obtain⟨its',r',⟨o',e',_,n',d'⟩,_⟩:=I.tuple h';rw[e] at e'; cases e';rw[d] at d'
 injection d' with d1 _
 have:its=its':=by simpa using congrArg NV d1
 subst this;exact r.inj r'
end
abbrev Cx.lX(X:Cx)(E:Value->B1->Prop):Cx:={ X with xe:=E }
abbrev Cx.C7(X:Cx):Cx:=X.lX λ_ _=>False
theorem Cx.Ok.lX{X:Cx}(ok:X.Ok)(E:Value->B1->Prop):(X.lX E).Ok :=
 ⟨ok.mod,ok.kind,ok.glob,ok.blt,ok.above,ok.inj,ok.has,ok.cab,ok.hd,ok.frames,ok.stk,ok.exf,ok.bs,ok.bsz,ok.noex,ok.exfs,ok.kF,ok.frf⟩
theorem Cx.Ok.gu{X:Cx}{E:Value->B1->Prop}(ok:(X.lX E).Ok):X.Ok :=
 ⟨ok.mod,ok.kind,ok.glob,ok.blt,ok.above,ok.inj,ok.has,ok.cab,ok.hd,ok.frames,ok.stk,ok.exf,ok.bs,ok.bsz,ok.noex,ok.exfs,ok.kF,ok.frf⟩
section
variable{X:Cx}{pins:List (Addr×Obj)}{σ:St}{H:Hp}{s:B1}{E:Value->B1->Prop}
theorem Inv.lX(I:Inv X pins σ H s)(E:Value->B1->Prop):Inv (X.lX E) pins σ H s:=⟨I.ok.lX E,I.os,I.bare,I.base,I.loc,I.cell,I.free,I.freeC,I.pin,I.hok,I.len⟩
theorem Inv.gu(I:Inv (X.lX E) pins σ H s):Inv X pins σ H s:=⟨I.ok.gu,I.os,I.bare,I.base,I.loc,I.cell,I.free,I.freeC,I.pin,I.hok,I.len⟩
theorem SP.gu{D:Ends}{f:Flow}{s':B1}(h:SP (X.lX E) pins D f s'):SP X pins D f s':=by
 cases f with
 |next=>obtain⟨σ',H',I,q⟩:=h; exact⟨σ',H',I.gu,q⟩
 |brk=>obtain⟨σ',H',I,q⟩:=h; exact⟨σ',H',I.gu,q⟩
 |cont=>obtain⟨σ',H',I,q⟩:=h; exact⟨σ',H',I.gu,q⟩
 |ret u=>obtain⟨v,σ',H',I,r,q⟩:=h; exact⟨v,σ',H',I.gu,r,q⟩
theorem qZ.C7{st:List Stmt}{t:TS}(h:qZ X.C7 st t):qZ X st t:=λpins s σ H D I hw=>
 Gz (h pins s σ H D (I.lX _) hw) (λ_ _ q=>q.gu) λ_ _ z=>Hz z
end
section
variable{X:Cx}{st:Stmt}{rest:List Stmt}{t u:TS}{e:Expr}{te:TE}{pos:Pos}
noncomputable def AJ:TS:=λD σ H=>D.nx σ H
noncomputable def tSeq(t u:TS):TS:=λD σ H=>t { D with nx:=u D } σ H
theorem yG:qZ X [] AJ:=λ_ _ σ H _ I h=>Li ⟨σ,H,I,h⟩
theorem vV(h1:PS X st t)(h2:qZ X rest u):qZ X (st::rest) (tSeq t u):=by
 intro pins s σ H D I h;refine wpAny_execs_cons (bD (h1 pins s σ H { D with nx:=u D } I h) λf s1 q=>?_)
 cases f with
 |next=>
  obtain⟨σ',H',I',q⟩:=q;exact h2 pins s1 σ' H' D I' q
 |ret v=>exact q
 |brk=>exact q
 |cont=>exact q
theorem yH(h1:PS X st t):qZ X [st] t:=by
 intro pins s σ H D I h;refine wpAny_execs_cons (bD (h1 pins s σ H D I h) λf s1 q=>?_)
 cases f with
 |next=>exact Li q
 |ret v=>exact q
 |brk=>exact q
 |cont=>exact q
theorem Inv.quiet{pins:List (Addr×Obj)}{σ:St}{H:Hp}{s:B1}(I:Inv X pins σ H s):interactive X.env=false:=by simp[interactive,I.ok.kind]
noncomputable def tDrop(te:TE):TS:=λD σ H=>te σ H λ_ H1=>D.nx σ H1
theorem yI(he:PE X e te)(hs:Hc e none pos.line X.env=pure false:=by rfl):PS X (.Expr e pos) (tDrop te):=by
 intro pins s σ H D I h;exact wpAny_Expr_any (bD (he pins s σ H _ I h) λv s1 ⟨x,H1,I1,r1,q1⟩=>⟨σ,H1,I1,q1⟩) I.quiet hs
noncomputable def tRet(te:TE):TS:=λD σ H=>te σ H D.rt
theorem Bl(he:PE X e te):PS X (.Return (some e) pos) (tRet te):=by
 intro pins s σ H D I h;exact wpAny_Return_some (bD (he pins s σ H _ I h) λv s1 ⟨x,H1,I1,r1,q1⟩=>⟨x,σ,H1,I1,r1,q1⟩)
noncomputable def tIfS(c:TT)(t u:TS):TS:=λD σ H=>c σ H λb H1=>if b=true then t D σ H1 else u D σ H1
theorem ps_if{c:Expr}{a b:List Stmt}{tc:TT}(hc:PT X c tc)(ha:qZ X a t)(hb:qZ X b u):PS X (.If c a b pos) (tIfS tc t u):=by
 intro pins s σ H D I h;refine wpAny_If (bD (hc pins s σ H _ I h) λd s1 ⟨H1,I1,q1⟩=>?_)
 cases d with
 |true=>exact ha pins s1 σ H1 D I1 q1
 |false=>exact hb pins s1 σ H1 D I1 q1
end
abbrev TG:=V->St->Hp->(St->Hp->Prop)->Prop
abbrev yJ:=List V->St->Hp->(St->Hp->Prop)->Prop
def PG(X:Cx)(target:Expr)(t:TG):Prop :=
 ∀(pins:List (Addr×Obj))(s:B1)(σ:St)(H:Hp)(v:V)(u:Value)(Q:St->Hp->Prop),Inv X pins σ H s->RelV v u->t v σ H Q ->
  wpAny (model X.prog X.w) X.A (IG target X.env u) (λ_ s'=>∃σ' H',Inv X pins σ' H' s'/\Q σ' H') X.xe s
def AK(X:Cx)(ts:List Expr)(t:yJ):Prop :=
 ∀(pins:List (Addr×Obj))(s:B1)(σ:St)(H:Hp)(vs:List V)(us:List Value)(Q:St->Hp->Prop),Inv X pins σ H s->Vals vs us->t vs σ H Q ->
  wpAny (model X.prog X.w) X.A (MD ((H9 ts X.env).map (·.2)) us) (λ_ s'=>∃σ' H',Inv X pins σ' H' s'/\Q σ' H') X.xe s
abbrev TSet:=V->V->V->Hp->(Hp->Prop)->Prop
def PSet(X:Cx)(t:TSet):Prop :=
 ∀(pins:List (Addr×Obj))(s:B1)(σ:St)(H:Hp)(o i v:V)(ov iv u:Value)(Q:Hp->Prop),Inv X pins σ H s->RelV o ov->RelV i iv->RelV v u->t o i v H Q ->
  wpAny (model X.prog X.w) X.A (setItem ov iv u) (λ_ s'=>∃H',Inv X pins σ H' s'/\Q H') X.xe s
section
variable{X:Cx}{pos:Pos}
noncomputable def sH(i:Nat):TG:=λv σ H Q=>Q (σ.set i (some v)) H
theorem yK{i:Nat}{x:Str}(hN:X.N.Nodup)(hi:X.N[i]? = some x)(hx:Loc X.env.scope x)(hf:X.fn x=true\/X.env.scope.names.lookup x=some .local:=by first | exact .inl rfl | exact .inr rfl | assumption):PG X (.Name x pos) (sH i):=by
 intro pins s σ H v u Q I r h;exact Ig (fq I hN hi hx r (λs' I'=>⟨_,H,I',h⟩) hf)
noncomputable def gNil:yJ:=λvs σ H Q=>vs=[]/\Q σ H
noncomputable def gCons(t:TG)(u:yJ):yJ:=λvs σ H Q=>∃v r,vs=v::r/\t v σ H λσ' H'=>u r σ' H' Q
theorem yL:AK X [] gNil:=by
 intro pins s σ H vs us Q I r h;obtain⟨e,h⟩:=h;subst e;cases r;exact LB ⟨σ,H,I,h⟩
theorem vW{e:Expr}{es:List Expr}{t:TG}{u:yJ}(h1:PG X e t)(h2:AK X es u)
  (hs:(H9 (e::es) X.env).map (·.2)=IG e X.env::(H9 es X.env).map (·.2):=by rfl):AK X (e::es) (gCons t u):=by
 intro pins s σ H vs us Q I r h;obtain⟨v,vr,e1,h⟩:=h;subst e1;cases r with
 |cons r rr=>
  rw[hs];refine Ia (bD (h1 pins s σ H _ _ _ I r h) λ_ s1 ⟨σ1,H1,I1,q1⟩=>?_)
  exact h2 pins s1 σ1 H1 _ _ Q I1 rr q1
noncomputable def gTup(K:AT)(n:Nat)(t:yJ):TG:=λv σ H Q=>∃a xs,v=.ref a/\dR K H a xs/\xs.length=n/\t xs σ H Q
theorem Bm{es:List Expr}{k:Nat}{t:yJ}{n:Nat}(hc:X.calm=true)(h:AK X es t)
  (hn:(H9 es X.env).length=n:=by rfl) (hst:(H9 es X.env).findIdx? (·.1)=none:=by rfl):PG X (.Tuple es k pos) (gTup X.K n t):=by
 intro pins s σ H v u Q I r hw;obtain⟨a,xs,e1,hq,hl,hw⟩:=hw;subst e1;cases r;obtain⟨its,rv,ht,hz⟩:=I.tuple hq;refine NP (I.ok.hd hc) ht (by simp[hn,<-hl,rv.length]) hst λh' hx=>?_
 have I1:Inv X pins σ H { s with heap:=h' }:=I.kept (t':=s.toks) λb o e=>hx b o (E1 (Ch e)) e
 exact h pins _ σ H xs _ Q I1 (by simpa using rv) hw
noncomputable def vX(to ti:TE)(t:TSet):TG:=λv σ H Q=>to σ H λo H1=>ti σ H1 λi H2=>t o i v H2 λH3=>Q σ H3
theorem vY{o i:Expr}{to ti:TE}{t:TSet}(ho:PE X o to)(hi:PE X i ti)(hs:PSet X t)
  (ha:∀v,IG (.Subscript o i pos) X.env v=(do
   let ov <-K1 [v] (eval o X.env)
   let iv <-K1 [v,ov] (eval i X.env)
   K0 pos
   K1 [v,ov,iv] (setItem ov iv v)
   release [v,ov,iv] []):=by intro _; rfl):PG X (.Subscript o i pos) (vX to ti t):=by
 intro pins s σ H v u Q I r h;rw[ha];refine AC (G6 (bD (ho pins s σ H _ I h) λov s1 ⟨x,H1,I1,r1,q1⟩=>?_))
 refine AC (G6 (bD (hi pins s1 σ H1 _ I1 q1) λiv s2 ⟨y,H2,I2,r2,q2⟩=>?_))
 refine AC (Hn (AC (G6 (bD (hs pins s2 σ H2 x y v ov iv u _ I2 r1 r2 r q2) λ_ s3 ⟨H3,I3,q3⟩=>?_))))
 exact wpAny_release ⟨σ,H3,I3,q3⟩
noncomputable def lY(te:TE)(g:TG):TS:=λD σ H=>te σ H λx H1=>g x σ H1 D.nx
theorem nR{tg e:Expr}{te:TE}{g:TG}(he:PE X e te)(hg:PG X tg g)(hs:Jo [tg] e pos.line X.env=pure false:=by rfl)(hw:Jp [tg] e X.env=pure none:=by rfl)
  (h1:(H9 [tg] X.env).map (·.2)=[IG tg X.env]:=by rfl):PS X (.Assign [tg] e pos) (lY te g):=by
 intro pins s σ H D I h;refine N5 (bD (he pins s σ H _ I h) λv s1 ⟨x,H1,I1,r1,q1⟩=>?_) hs hw
 rw[h1];exact bD (hg pins s1 σ H1 x v _ I1 r1 q1) λ_ s2 q=>q
theorem Bo{i:Nat}{x:Str}{e:Expr}{te:TE}{pos':Pos}(hN:X.N.Nodup)(hi:X.N[i]? = some x)(hx:Loc X.env.scope x)(he:PE X e te)(hs:Hc e (some (.Name x pos')) pos.line X.env=pure false:=by rfl)(hf:X.fn x=true\/X.env.scope.names.lookup x=some .local:=by first | exact .inl rfl | exact .inr rfl | assumption) :
  PS X (.Assign [.Name x pos'] e pos) (lY te (sH i)):=by
 intro pins s σ H D I h;refine wpAny_Assign_Name (bD (he pins s σ H _ I h) λv s1 ⟨y,H1,I1,r1,q1⟩=>?_) hs
 exact fq I1 hN hi hx r1 (λs2 I2=>⟨_,H1,I2,q1⟩) hf
noncomputable def tPar(i j:Nat)(ta:TA):TS:=λD σ H=>ta σ H λvs H1=>∃v w,vs=[v,w]/\D.nx ((σ.set i (some v)).set j (some w)) H1
theorem vZ{i j:Nat}{x y:Str}{a b:Expr}{ta:TA}{px py pt:Pos}{kt k2 pt2}(hc:X.calm=true)(hN:X.N.Nodup)(hi:X.N[i]? = some x)(hj:X.N[j]? = some y)(hij:i≠j)
  (hx:X.env.scope.names.lookup x=some .local) (hy:X.env.scope.names.lookup y=some .local) (ha:PA X [a,b] ta)
  (hw:Jp [.Tuple [.Name x px,.Name y py] kt pt] (.Tuple [a,b] k2 pt2) X.env=pure (some [x,y]))
  (hs:Jo [.Tuple [.Name x px,.Name y py] kt pt] (.Tuple [a,b] k2 pt2) pos.line X.env=pure false:=by rfl) :
  PS X (.Assign [.Tuple [.Name x px,.Name y py] kt pt] (.Tuple [a,b] k2 pt2) pos) (tPar i j ta):=by
 intro pins s σ H D I h;rw[exec_Assign_arm];refine AC (Hn ?_);rw[hs];refine AC (BM ?_);rw[if_neg (by decide)]
 refine AC (Tuple_ (bD (ha _ pins s σ H _ I h) λus s1 ⟨vs,H1,I1,r1,q1⟩=>?_))
 obtain⟨v,w,e1,q1⟩:=q1;subst e1;obtain⟨u1,u2,rfl,rv,rw'⟩:∃u1 u2,us=[u1,u2]/\RelV v u1/\RelV w u2:=by
  cases r1 with
  |cons p q=>
   cases q with
   |cons p' q' =>
    cases q';exact⟨_,_,rfl,p,p'⟩
 refine FU ?_ (by show 2<=E6; decide)
 have I2:Inv X pins σ H1 { s1 with heap:=s1.heap.push { cls:=.type "tuple",data:=.seq [u1,u2].toArray } }:=I1.kept (t':=s1.toks) λb o e=>At _ e
 rw[hw];refine AC (BM ?_);show wpAny (model X.prog X.w) X.A (do rule "assign.swapped-stores"; let items <-unpackItems (.ref s1.heap.objs.size) 2 none; MD [λv=>Mv X.env y v,λv=>Mv X.env x v] items.reverse; pure Flow.next) _ _ _
 refine AC (Gy (AC (unpackItems_tuple (items:=#[u1,u2]) (I.ok.hd hc) (Kf s1.heap _) λh' hx' =>?_)))
 have I3:=I2.kept (h':=h') (t':=s1.toks) λb o e=>hx' b o (E1 (Ch e)) e
 show wpAny _ _ (MD [λv=>Mv X.env y v,λv=>Mv X.env x v] [u2,u1] >>= λ_=>pure Flow.next) _ _ _
 refine AC (Ia (wpAny_bindName (fq I3 hN hj (.inl hy) rw' (λs2 I4=>?_) (.inr hy))))
 refine Ia (wpAny_bindName (fq I4 hN hi (.inl hx) rv (λs3 I5=>LB (BM ?_)) (.inr hx)))
 rw[List.set_comm _ _ (HZ hij)] at I5;exact⟨_,H1,I5,q1⟩
end
structure It where
 go:Nat->Hp->Prop
 yld:Nat->Hp->V->Hp->Prop
 stop:Nat->Hp->Prop
def ic(X:Cx)(pins:List (Addr×Obj))(H:Hp)(b:Addr):Prop :=
 H b=none/\b≠X.env.locals/\b∉X.fs/\(b∈X.ex\/X.s₀.heap.objs.size<=b)/\(∀x c,X.env.cells.lookup x=some c->c≠b)/\∀p∈X.pn++pins,p.1≠b
theorem Inv.fpOk{X:Cx}{pins:List (Addr×Obj)}{σ:St}{H H':Hp}{s:B1}{b:Addr}(I:Inv X pins σ H s)(hb:s.heap.objs.size<=b)(hn:H' b=none):ic X pins H' b:=by
 refine⟨hn,Jt (FL I.lt hb),I.nofs hb,.inr (GE I.sz hb),λx c e z=>?_,λp hp z=>?_⟩
 ·obtain⟨v,q⟩:=I.cell x c e
  exact absurd (FL q.lt (by rw[z]; exact hb)) (Gs _)
 ·exact absurd (FL (Ch (I.pin p hp).1) (by rw[z]; exact hb)) (Gs _)
structure Turn(P:FB)(w:World)(K:AT)(tg:Expr)(J:It)(fp:List Addr)(it:Addr)(tn:Nat->Heap->Prop):Prop where
 mem:it∈fp
 obj:∀i h,tn i h->∀b∈fp,∃o,h.get? b=some o/\∀v,o.data≠.cell v
 keep:∀i h h',tn i h->(∀b∈fp,∀o,h.get? b=some o->h'.get? b=some o)->tn i h'
 item:∀(X:Cx),X.prog=P->X.w=w->X.K=K->X.calm=true->∀(i:Nat)(pins:List (Addr×Obj))(s:B1)(σ:St)(H:Hp)(E:Value->B1->Prop),Inv X pins σ H s->(∀b∈fp,ic X pins H b)->tn i s.heap->J.go i H ->
  wpAny (model P w) X.A (JH (.ref it)) (λr s1=>∃u,r=some u /\
   wpAny (model P w) X.A (JI tg (.ref it) u) (λ_ s2=>∃x H',Inv X pins σ H' s2/\RelV x u/\J.yld i H x H'/\tn (i+1) s2.heap/\∀b∈fp,H' b=none) E s1) E s
 done:∀(X:Cx),X.prog=P->X.w=w->X.K=K->X.calm=true->∀(i:Nat)(pins:List (Addr×Obj))(s:B1)(σ:St)(H:Hp)(E:Value->B1->Prop),Inv X pins σ H s->(∀b∈fp,ic X pins H b)->tn i s.heap->J.stop i H ->
  wpAny (model P w) X.A (JH (.ref it)) (λr s1=>r=none/\Inv X pins σ H s1) E s
 self:∀(A:Fa)(i:Nat)(s:B1)(Q:Value->B1->Prop)(E:Value->B1->Prop),tn i s.heap->Q (.ref it) s->wpAny (model P w) A (Lw (.ref it)) Q E s
abbrev TI:=St->Hp->(It->Hp->Prop)->Prop
def Eh(X:Cx)(pins:List (Addr×Obj))(σ:St)(tg:Expr)(R:It->Hp->Prop)(itv:Value)(s2:B1):Prop :=
 ∃ (it:Addr) (fp:List Addr) (tn:Nat->Heap->Prop) (J:It) (H':Hp),itv=.ref it/\Inv X pins σ H' s2/\Turn X.prog X.w X.K tg J fp it tn/\tn 0 s2.heap/\(∀b∈fp,ic X pins H' b)/\R J H'
def PI(X:Cx)(tg iter:Expr)(wi:TI):Prop :=
 ∀(pins:List (Addr×Obj))(s:B1)(σ:St)(H:Hp)(R:It->Hp->Prop),Inv X pins σ H s->wi σ H R ->
  wpAny (model X.prog X.w) X.A (eval iter X.env) (λv s1=>wpAny (model X.prog X.w) X.A (Lw v) (Eh X pins σ tg R) X.xe s1) X.xe s
theorem v5{M:Model}{A:Fa}{E:Value->B1->Prop}{s:B1}{tg:Expr}{it:Addr}{u:Value}{o:Obj}{n:String}{vs:Array Value}{Q:Unit->B1->Prop}(ho:s.heap.get? it=some o)(hc:o.cls=.type n)(hd:o.data=.fields vs)
    (hn:["enumerate", "zip", "dict_itemiterator", "dict_reverseitemiterator", "odict_iterator", "itertools.zip_longest", "itertools.pairwise"].contains n=false) (hQ:Q () s):wpAny M A (JI tg (.ref it) u) Q E s:=by
  unfold JI;cases tg <;> first
    |exact BM hQ
    |(cases u <;> first
        |exact BM hQ
        |(refine AC (Lu ho ?_)
          rw[hc,hd];show wpAny M A (if (["enumerate", "zip", "dict_itemiterator", "dict_reverseitemiterator", "odict_iterator", "itertools.zip_longest", "itertools.pairwise"].contains n && vs[0]? == some (Jq _))=true then _ else _) Q E s
          rw[if_neg (by intro h; rw[hn,Bool.false_and] at h; cases h)]
          exact BM hQ))
noncomputable def DF(K:AT)(a:Addr):It :=
 ⟨λi H=>∃xs x,gg K H a xs/\xs[i]? = some x,λi H x H'=>H'=H/\∀xs,gg K H a xs->xs[i]? = some x,λi H=>∃xs,gg K H a xs/\xs.length<=i⟩
noncomputable def DR(K:AT)(a:Addr):It :=
 ⟨λi H=>∃xs x,dR K H a xs/\xs[i]? = some x,λi H x H'=>H'=H/\∀xs,dR K H a xs->xs[i]? = some x,λi H=>∃xs,dR K H a xs/\xs.length<=i⟩
noncomputable def Dw(lo:Int)(n:Nat):It:=⟨λi _=>i<n,λi H x H'=>H'=H/\x=.int (lo+i),λi _=>n<=i⟩
theorem uh{P:FB}{w:World}{K:AT}{tg:Expr}(a it:Addr):Turn P w K tg (DF K a) [it] it (λi h=>h.IsListIter it a i) where
 mem:=by simp
 obj:=λi h st b hb=>by
  have e:b=it:=by simpa using hb
  subst e;obtain⟨o,e,c,d⟩:=st;exact⟨o,e,λv z=>by rw[d] at z; cases z⟩
 keep:=λi h h' st k=>st.at λo e=>k it (by simp) o e
 item:=by
  intro X hP hw hK hc i pins s σ H E I hf st hg;subst hP hw hK;obtain⟨xs,x,hq,hx⟩:=hg;obtain⟨its,rv,p,hz⟩:=I.list hq;obtain⟨u,hu,ru⟩:=rv.get hx;obtain⟨f0,f1,f2,f3,f4,f5⟩:=hf it (by simp)
  refine wpAny_pyNext_list_item st p.isList (x:=u) (by simpa using hu) λh' st' sb=>?_
  have I1:Inv X pins σ H { s with heap:=h' }:=I.turned (t':=s.toks) (λb o hb e=>(sb.2 b hb).trans e) f0 f1 f3 f4 f5
  obtain⟨o,e,c,d⟩:=id st';exact⟨u,rfl,v5 (s:={ s with heap:=h' }) e c d (by decide) ⟨x,H,I1,ru,⟨rfl,λys hy=>by rw[I.vR hy hq]; exact hx⟩,st',λb hb=>(hf b hb).1⟩⟩
 done:=by
  intro X hP hw hK hc i pins s σ H E I hf st hg;subst hP hw hK;obtain⟨xs,hq,hx⟩:=hg;obtain⟨its,rv,p,hz⟩:=I.list hq;obtain⟨f0,f1,f2,f3,f4,f5⟩:=hf it (by simp)
  have hl:=rv.length;exact wpAny_pyNext_list_end (I.ok.hd hc) st p.isList (by simp; lia) λh' eb=>⟨rfl,I.turned (t':=s.toks) (λb o hb e=>eb b o hb e) f0 f1 f3 f4 f5⟩
 self:=λ_ _ _ _ _ st h=>wpAny_pyIter_listiter st h
theorem q9{P:FB}{w:World}{K:AT}{tg:Expr}(a it:Addr):Turn P w K tg (DR K a) [it] it (λi h=>h.IsTupleIter it a i) where
 mem:=by simp
 obj:=λi h st b hb=>by
  have e:b=it:=by simpa using hb
  subst e;obtain⟨o,e,c,d⟩:=st;exact⟨o,e,λv z=>by rw[d] at z; cases z⟩
 keep:=λi h h' st k=>st.at λo e=>k it (by simp) o e
 item:=by
  intro X hP hw hK hc i pins s σ H E I hf st hg;subst hP hw hK;obtain⟨xs,x,hq,hx⟩:=hg;obtain⟨its,rv,p,hz⟩:=I.tuple hq;obtain⟨u,hu,ru⟩:=rv.get hx;obtain⟨f0,f1,f2,f3,f4,f5⟩:=hf it (by simp)
  refine wpAny_pyNext_tuple_item st (show s.heap.IsTuple a its.toArray from p) (x:=u) (by simpa using hu) λh' st' sb=>?_
  have I1:Inv X pins σ H { s with heap:=h' }:=I.turned (t':=s.toks) (λb o hb e=>(sb.2 b hb).trans e) f0 f1 f3 f4 f5
  obtain⟨o,e,c,d⟩:=id st';exact⟨u,rfl,v5 (s:={ s with heap:=h' }) e c d (by decide) ⟨x,H,I1,ru,⟨rfl,λys hy=>by rw[I.ug hy hq]; exact hx⟩,st',λb hb=>(hf b hb).1⟩⟩
 done:=by
  intro X hP hw hK hc i pins s σ H E I hf st hg;subst hP hw hK;obtain⟨xs,hq,hx⟩:=hg;obtain⟨its,rv,p,hz⟩:=I.tuple hq;obtain⟨f0,f1,f2,f3,f4,f5⟩:=hf it (by simp)
  have hl:=rv.length;exact wpAny_pyNext_tuple_end (I.ok.hd hc) st (show s.heap.IsTuple a its.toArray from p) (by simp; lia) λh' eb=>⟨rfl,I.turned (t':=s.toks) (λb o hb e=>eb b o hb e) f0 f1 f3 f4 f5⟩
 self:=λ_ _ _ _ _ st h=>wpAny_pyIter_tupleiter st h
theorem rf{P:FB}{w:World}{K:AT}{tg:Expr}(it:Addr)(lo:Int)(n:Nat):Turn P w K tg (Dw lo n) [it] it (λi h=>IsRangeIter h it (lo+(i:Nat)*1) ((n:Int)-(i:Nat)) 1) where
 mem:=by simp
 obj:=λi h st b hb=>by
  have e:b=it:=by simpa using hb
  subst e;exact⟨_,st,λv z=>by
   have z':Data.fields _=Data.cell v:=z;cases z'⟩
 keep:=λi h h' st k=>k it (by simp) _ st
 item:=by
  intro X hP hw hK hc i pins s σ H E I hf st hg;subst hP hw hK;obtain⟨f0,f1,f2,f3,f4,f5⟩:=hf it (by simp)
  have W:=Walks.range (prog:=X.prog) (w:=X.w) (I.ok.hd hc) it lo 1 n;refine W.item i s _ _ hg st λv h' tk hv st' kk=>?_
  obtain⟨t,rfl⟩:=hv;have I1:Inv X pins σ H { s with heap:=h',toks:=tk }:=I.turned (λb o hb e=>kk b o (by simpa using hb) e) f0 f1 f3 f4 f5
  refine⟨_,rfl,v5 (s:={ s with heap:=h',toks:=tk }) (n := "range_iterator") st' rfl rfl (by decide) ⟨.int (lo+i),H,I1,⟨t,?_⟩,⟨rfl,rfl⟩,st',λb hb=>(hf b hb).1⟩⟩
  rw[Int.mul_one]
 done:=by
  intro X hP hw hK hc i pins s σ H E I hf st hg;subst hP hw hK;obtain⟨f0,f1,f2,f3,f4,f5⟩:=hf it (by simp)
  exact wpAny_pyNext_range_end (I.ok.hd hc) st (by have:n<=i:=hg; lia) λh' eb=>⟨rfl,I.turned (t':=s.toks) (λb o hb e=>eb b o hb e) f0 f1 f3 f4 f5⟩
 self:=λ_ _ _ _ _ st h=>wpAny_pyIter_rangeiter st h
end L2
namespace L2
open PySem PySem.Spec PyProof.Rows
section
variable{X:Cx}{tg:Expr}
noncomputable def v7(K:AT)(tl:TE):TI:=λσ H R=>tl σ H λx H1=>∃a,x=.ref a/\(∃xs,gg K H1 a xs)/\R (DF K a) H1
noncomputable def iTup(K:AT)(tl:TE):TI:=λσ H R=>tl σ H λx H1=>∃a,x=.ref a/\(∃xs,dR K H1 a xs)/\R (DR K a) H1
theorem sI{l:Expr}{tl:TE}(hl:PE X l tl):PI X tg l (v7 X.K tl):=by
 intro pins s σ H R I h;refine bD (hl pins s σ H _ I h) λv s1 ⟨x,H1,I1,r1,q1⟩=>?_
 obtain⟨a,e,⟨xs,hq⟩,q⟩:=q1;subst e;cases r1;obtain⟨its,rv,p,hz⟩:=I1.list hq;refine Kt p.isList ?_;refine⟨s1.heap.objs.size,[s1.heap.objs.size],_,_,H1,rfl,I1.kept (t':=s1.toks) λb o e=>At _ e,uh a _,⟨_,Db _ rfl,rfl,rfl⟩,λb hb=>?_,q⟩
 have e:b=s1.heap.objs.size:=by simpa using hb
 subst e;exact I1.fpOk (Da _) (I1.hok.fresh (Da _))
theorem Bp{l:Expr}{tl:TE}(hl:PE X l tl):PI X tg l (iTup X.K tl):=by
 intro pins s σ H R I h;refine bD (hl pins s σ H _ I h) λv s1 ⟨x,H1,I1,r1,q1⟩=>?_
 obtain⟨a,e,⟨xs,hq⟩,q⟩:=q1;subst e;cases r1;obtain⟨its,rv,p,hz⟩:=I1.tuple hq;refine JX (show s1.heap.IsTuple a its.toArray from p) ?_
 refine⟨s1.heap.objs.size,[s1.heap.objs.size],_,_,H1,rfl,I1.kept (t':=s1.toks) λb o e=>At _ e,q9 a _,⟨_,Db _ rfl,rfl,rfl⟩,λb hb=>?_,q⟩
 have e:b=s1.heap.objs.size:=by simpa using hb
 subst e;exact I1.fpOk (Da _) (I1.hok.fresh (Da _))
theorem pS{pins:List (Addr×Obj)}{σ:St}{H:Hp}{s:B1}{R:It->Hp->Prop}{E:Value->B1->Prop}{lo hi:Int}{t u v:Tok}{tk:Nat}(I:Inv X pins σ H s)(h1 : -(2 ^ 62)<=lo)(h2:lo<2 ^ 62)(h3 : -(2 ^ 62)<=hi)(h4:hi<2 ^ 62)
  (q:R (Dw lo (hi-lo).toNat) H):wpAny (model X.prog X.w) X.A (Lw (.ref s.heap.objs.size)) (Eh X pins σ tg R) E { s with heap:=s.heap.push { cls:=.type "range",data:=.fields #[.int lo t,.int hi u,.int 1 v] },toks:=tk }:=by
 refine wpAny_pyIter_range (N9 ..) (small_one h1 h2 h3 h4) ?_;have I1:Inv X pins σ H { s with heap:=s.heap.push { cls:=.type "range",data:=.fields #[.int lo t,.int hi u,.int 1 v] },toks:=tk }:=I.kept λb o e=>At _ e
 refine⟨(s.heap.push { cls:=.type "range",data:=.fields #[.int lo t,.int hi u,.int 1 v] }).objs.size,[(s.heap.push { cls:=.type "range",data:=.fields #[.int lo t,.int hi u,.int 1 v] }).objs.size],_,_,H,rfl,
  I1.kept (t':=tk) λb o e=>At _ e,rf _ lo (hi-lo).toNat,?_,λb hb=>?_,q⟩
 ·have e1:lo+((0:Nat):Int)*1=lo:=by simp
  have e2:(((hi-lo).toNat:Nat):Int)-((0:Nat):Int)=I0 lo hi 1:=by rw[rangeSize_one]; split <;> lia
  show IsRangeIter _ _ (lo+((0:Nat):Int)*1) ((((hi-lo).toNat:Nat):Int)-((0:Nat):Int)) 1;rw[e1,e2];exact Db _ rfl
 ·have e:b=(s.heap.push { cls:=.type "range",data:=.fields #[.int lo t,.int hi u,.int 1 v] }).objs.size:=by simpa using hb
  subst e;exact I1.fpOk (Da _) (I1.hok.fresh (Da _))
noncomputable def iRng1(ta:TA):TI:=λσ H R=>ta σ H λvs H1=>∃j:Int,vs=[.int j]/\-(2 ^ 62)<=j/\j<2 ^ 62/\R (Dw 0 j.toNat) H1
noncomputable def iRng2(ta:TA):TI:=λσ H R=>ta σ H λvs H1=>∃i j:Int,vs=[.int i,.int j]/\(-(2 ^ 62)<=i/\i<2 ^ 62/\-(2 ^ 62)<=j/\j<2 ^ 62)/\R (Dw i (j-i).toNat) H1
theorem um{a:Expr}{ta:TA}{p pos:Pos}(hg:Gl X "range")(hm:X.mg "range" = none)(ha:PA X [a] ta)(hs:E5 [a] X.env=[(false,eval a X.env)]:=by rfl):PI X tg (.Call (.Name "range" p) [a] [] pos) (iRng1 ta):=by
 intro pins s σ H R I h;refine Call_ (fP I hg hm LJ (GB (bD (ha pos pins s σ H _ I h) λus s1 ⟨vs,H1,I1,r1,q1⟩=>?_) hs rfl))
 obtain⟨j,e,q1,q2,q⟩:=q1;subst e;cases r1 with
 |cons r rr=>
  cases rr;obtain⟨t,rfl⟩:=r;exact call_range_1 (pS I1 (by lia) (by lia) q1 q2 (by simpa using q))
theorem uo{a b:Expr}{ta:TA}{p pos:Pos}(hg:Gl X "range")(hm:X.mg "range" = none)(ha:PA X [a,b] ta)(hs:E5 [a,b] X.env=[(false,eval a X.env),(false,eval b X.env)]:=by rfl)(hs2:E5 [b] X.env=[(false,eval b X.env)]:=by rfl) :
  PI X tg (.Call (.Name "range" p) [a,b] [] pos) (iRng2 ta):=by
 intro pins s σ H R I h;refine Call_ (fP I hg hm LJ (GB (bD (ha pos pins s σ H _ I h) λus s1 ⟨vs,H1,I1,r1,q1⟩=>?_) (by rw[hs,hs2]) (by rw[hs2]; rfl)))
 obtain⟨i,j,e,⟨q1,q2,q3,q4⟩,q⟩:=q1;subst e;cases r1 with
 |cons r rr=>
  cases rr with
  |cons r' rr=>
   cases rr;obtain⟨t,rfl⟩:=r;obtain⟨t',rfl⟩:=r';exact call_range_2 (pS I1 q1 q2 q3 q4 q)
noncomputable def tFor(wi:TI)(g:TG)(tb:TS):TS:=λD σ H=>wi σ H λJ H1=>∃W:Nat->Nat->St->Hp->Prop,(∃m,W 0 m σ H1)/\∀i m σ H,W i m σ H ->
 (J.stop i H/\D.nx σ H)\/(J.go i H/\∃N:St->Hp->Prop,(∀σ' H',N σ' H'->∃m',m'<m/\W (i+1) m' σ' H')/\∀x H',J.yld i H x H'->g x σ H' λσ2 H2=>tb { D with nx:=N,ct:=N,bk:=D.nx } σ2 H2)
noncomputable def jw(fp:List Addr)(h:Heap):List (Addr×Obj):=fp.filterMap λb=>(h.get? b).map λo=>(b,o)
theorem di{fp:List Addr}{h:Heap}{b:Addr}{o:Obj}(hb:b∈fp)(e:h.get? b=some o):(b,o)∈jw fp h:=MS.mpr ⟨b,hb,by rw[e]; rfl⟩
theorem uq{fp:List Addr}{h:Heap}{p:Addr×Obj}(hp:p∈jw fp h):p.1∈fp/\h.get? p.1=some p.2:=by
 obtain⟨b,hb,e⟩:=MS.mp hp;cases q:h.get? b with
 |none=>rw[q] at e; cases e
 |some o=>
  rw[q] at e;have e':(b,o)=p:=FX e;subst e';exact⟨hb,q⟩
theorem Inv.pinned{pins:List (Addr×Obj)}{σ:St}{H:Hp}{s:B1}{fp:List Addr}(I:Inv X pins σ H s)(hf:∀b∈fp,ic X pins H b)(ho:∀b∈fp,∃o,s.heap.get? b=some o/\∀v,o.data≠.cell v):Inv X (pins++jw fp s.heap) σ H s :=
 I.sG λp hp=>(lM hp).elim (λz=>I.pin p (lR _ z)) λz=>by
  obtain⟨hb,e⟩:=uq z;obtain⟨f0,f1,f2,_⟩:=hf p.1 hb;obtain⟨o,e',d⟩:=ho p.1 hb;rw[e] at e'; cases e';exact⟨e,f0,f1,f2,d⟩
theorem Inv.gw{pins pl:List (Addr×Obj)}{σ:St}{H:Hp}{s:B1}(I:Inv X (pins++pl) σ H s):Inv X pins σ H s:=I.sG λp hp=>I.pin p (lR _ (lL _ hp))
theorem Bq{iter:Expr}{body:List Stmt}{wi:TI}{g:TG}{tb:TS}{pos:Pos}(hp:PassesOwn (model X.prog X.w) X.A X.env X.xe)(hc:X.calm=true)(hi:PI X tg iter wi)(hg:PG X tg g)(hb:qZ X body tb)
  (hs:∀x,FY iter X.env x=pure x:=by intro _; rfl):PS X (.For tg iter body [] pos) (tFor wi g tb):=by
 intro pins s σ H D I h;refine wpAny_For (bD (hi pins s σ H _ I h) λv s1 h1=>bD h1 λitv s2 h2=>?_) hs
 obtain⟨it,fp,tn,J,H2,e,I2,T,st2,f2,W,⟨m0,w0⟩,turn⟩:=h2;subst e;have stat:∀{H':Hp},(∀b∈fp,H' b=none)->∀b∈fp,ic X pins H' b:=λhn b hb=>⟨hn b hb,(f2 b hb).2⟩
 refine codeAny_forLoop_any (λn s'=>∃i σ' H',Inv X pins σ' H' s'/\tn i s'.heap/\(∀b∈fp,H' b=none)/\W i n σ' H') ?_ m0 ⟨0,σ,H2,I2,st2,λb hb=>(f2 b hb).1,w0⟩
 rintro n s3 ⟨i,σ3,H3,I3,st3,fr3,w3⟩;rcases turn i n σ3 H3 w3 with⟨stop,qn⟩ | ⟨go,N,hN,step⟩
 ·refine JG hp (bD (T.done X rfl rfl rfl hc i pins s3 σ3 H3 X.xe I3 (stat fr3) st3 stop) λr s4 ⟨hr,I4⟩=>?_)
  subst hr;exact Li ⟨σ3,H3,I4,qn⟩
 ·refine JG hp (bD (T.item X rfl rfl rfl hc i pins s3 σ3 H3 X.xe I3 (stat fr3) st3 go) λr s4 ⟨u,hr,h4⟩=>?_)
  subst hr;refine JG hp (bD h4 λ_ s5 ⟨x,H5,I5,r5,y5,st5,fr5⟩=>?_)
  have I5':=I5.pinned (stat fr5) (T.obj _ _ st5);refine JG hp (bD (hg _ s5 σ3 H5 x u _ I5' r5 (step x H5 y5)) λ_ s6 ⟨σ6,H6,I6,q6⟩=>?_)
  refine JG hp (bD (hb _ s6 σ6 H6 _ I6 q6) λf s7 q7=>?_)
  have again:∀{σ7:St}{H7:Hp},Inv X (pins++jw fp s5.heap) σ7 H7 s7->N σ7 H7->∃m,m<n/\∃i σ' H',Inv X pins σ' H' s7/\tn i s7.heap/\(∀b∈fp,H' b=none)/\W i m σ' H':=λ{σ7 H7}I7 n7=>by
   obtain⟨m',hm,w7⟩:=hN σ7 H7 n7;refine⟨m',hm,i+1,σ7,H7,I7.gw,T.keep _ _ _ st5 λb hb o e=>(I7.pin (b,o) (lR _ (lR _ (di hb e)))).1,λb hb=>?_,w7⟩
   obtain⟨o,e,d⟩:=T.obj _ _ st5 b hb;exact(I7.pin (b,o) (lR _ (lR _ (di hb e)))).2.1
  cases f with
  |next=>obtain⟨σ7,H7,I7,n7⟩:=q7; exact again I7 n7
  |cont=>obtain⟨σ7,H7,I7,n7⟩:=q7; exact again I7 n7
  |brk=>obtain⟨σ7,H7,I7,q7⟩:=q7; exact⟨σ7,H7,I7.gw,q7⟩
  |ret v=>obtain⟨x7,σ7,H7,I7,r7,q7⟩:=q7; exact⟨x7,σ7,H7,I7.gw,r7,q7⟩
end
end L2
namespace L2
open PySem PySem.Spec PyProof.Rows
abbrev R2:=V->V->Hp->VK->Prop
def dN(X:Cx)(f:Value->Value->Sem Value)(r:R2):Prop :=
 ∀(pins:List (Addr×Obj))(s:B1)(σ:St)(H:Hp)(x y:V)(v u:Value)(Q:VK),Inv X pins σ H s->RelV x v->RelV y u->r x y H Q ->
  wpAny (model X.prog X.w) X.A (f v u) (EP X pins σ Q) X.xe s
def bf(X:Cx)(f:Value)(r:List V->Hp->VK->Prop):Prop :=
 ∀(pins:List (Addr×Obj))(s:B1)(σ:St)(H:Hp)(xs:List V)(us:List Value)(Q:VK),Inv X pins σ H s->Vals xs us->r xs H Q ->
  wpAny (model X.prog X.w) X.A (call f us) (EP X pins σ Q) X.xe s
def TruR(X:Cx)(r:V->Hp->(Bool->Hp->Prop)->Prop):Prop :=
 ∀(pins:List (Addr×Obj))(s:B1)(σ:St)(H:Hp)(x:V)(v:Value)(Q:Bool->Hp->Prop),Inv X pins σ H s->RelV x v->r x H Q ->
  wpAny (model X.prog X.w) X.A (truthy v) (TP X pins σ Q) X.xe s
noncomputable def AL(r:R2)(ta tb:TE):TE:=λσ H Q=>ta σ H λx H1=>tb σ H1 λy H2=>r x y H2 Q
noncomputable def rI(C:Int->Int->Prop)(g:Int->Int->V):R2:=λx y H Q=>∃i j,x=.int i/\y=.int j/\C i j/\Q (g i j) H
noncomputable def AM(g:Int->Int->V):R2:=λx y H Q=>∃i j,x=.int i/\y=.int j/\Q (g i j) H
section
variable{X:Cx}{a b c:Expr}{ta tb tc:TE}{pos:Pos}
theorem binT(ha:PE X a ta)(hb:PE X b tb){pins:List (Addr×Obj)}{s:B1}{σ:St}{H:Hp}{R:V->V->Hp->Prop}(I:Inv X pins σ H s)
  (h:ta σ H λx H1=>tb σ H1 λy H2=>R x y H2) {Q:Value->B1->Prop} {f:Value->Value->Sem Value}
  (hf:∀v u s2 x y H2,Inv X pins σ H2 s2->RelV x v->RelV y u->R x y H2->wpAny (model X.prog X.w) X.A (f v u) Q X.xe s2) :
  wpAny (model X.prog X.w) X.A (eval a X.env) (λv s₁=>wpAny (model X.prog X.w) X.A (eval b X.env) (λu s₂=>wpAny (model X.prog X.w) X.A (f v u) Q X.xe s₂) X.xe s₁) X.xe s:=by
 refine bD (ha pins s σ H _ I h) λv s1 ⟨x,H1,I1,r1,q1⟩=>?_
 refine bD (hb pins s1 σ H1 _ I1 q1) λu s2 ⟨y,H2,I2,r2,q2⟩=>?_
 exact hf v u s2 x y H2 I2 r1 r2 q2
theorem pe_op{op:Operator}{r:R2}(ho:dN X (Gp op) r)(ha:PE X a ta)(hb:PE X b tb):PE X (.BinOp a op b pos) (AL r ta tb):=by
 intro pins s σ H Q I h;exact wpAny_BinOp (binT ha hb I h λv u s2 x y H2 I2 rx ry q=>ho pins s2 σ H2 x y v u Q I2 rx ry q)
theorem Dy{f:Value->Value->Sem Value}{C:Int->Int->Prop}{g:Int->Int->Int}
  (rule:∀(i j:Int)(t u:Tok)(s:B1)(Q:Value->B1->Prop)(E:Value->B1->Prop),C i j->Q (.int (g i j) s.toks) { s with toks:=s.toks+1 }->wpAny (model X.prog X.w) X.A (f (.int i t) (.int j u)) Q E s) :
  dN X f (rI C λi j=>.int (g i j)):=by
 intro pins s σ H x y v u Q I rx ry h;obtain⟨i,j,rfl,rfl,hc,q⟩:=h;obtain⟨t,rfl⟩:=rx;obtain⟨t',rfl⟩:=ry;exact rule i j t t' s _ _ hc ⟨.int (g i j),H,I.tok _,⟨_,rfl⟩,q⟩
theorem opI0{f:Value->Value->Sem Value}{g:Int->Int->Int}
  (rule:∀(i j:Int)(t u:Tok)(s:B1)(Q:Value->B1->Prop)(E:Value->B1->Prop),Q (.int (g i j) s.toks) { s with toks:=s.toks+1 }->wpAny (model X.prog X.w) X.A (f (.int i t) (.int j u)) Q E s) :
  dN X f (AM λi j=>.int (g i j)):=by
 intro pins s σ H x y v u Q I rx ry h;obtain⟨i,j,rfl,rfl,q⟩:=h;obtain⟨t,rfl⟩:=rx;obtain⟨t',rfl⟩:=ry;exact rule i j t t' s _ _ ⟨.int (g i j),H,I.tok _,⟨_,rfl⟩,q⟩
theorem opB0{f:Value->Value->Sem Value}{g:Int->Int->Bool}
  (rule:∀(i j:Int)(t u:Tok)(s:B1)(Q:Value->B1->Prop)(E:Value->B1->Prop),Q (.bool (g i j)) s->wpAny (model X.prog X.w) X.A (f (.int i t) (.int j u)) Q E s) :
  dN X f (AM λi j=>.bl (g i j)):=by
 intro pins s σ H x y v u Q I rx ry h;obtain⟨i,j,rfl,rfl,q⟩:=h;obtain⟨t,rfl⟩:=rx;obtain⟨t',rfl⟩:=ry;exact rule i j t t' s _ _ ⟨.bl (g i j),H,I,rfl,q⟩
def CDiv(i j:Int):Prop:=0<j/\j<1073741824
def CMul(i j:Int):Prop:=(-(2 ^ 64)<i/\i<2 ^ 64)\/(-(2 ^ 64)<j/\j<2 ^ 64)
theorem CMul.ok{i j:Int}(h:CMul i j):IntMulOk i j:=by
 rcases h with⟨h1,h2⟩ | ⟨h1,h2⟩
 ·exact .of_left (intBits_le_64 h1 h2)
 ·exact .of_right (intBits_le_64 h1 h2)
theorem Br:dN X (Gp .Add) (AM λi j=>.int (i+j)):=opI0 λ_ _ _ _ _ _ _ q=>add_int q
theorem Bt:dN X (Gp .Sub) (AM λi j=>.int (i-j)):=opI0 λ_ _ _ _ _ _ _ q=>sub_int q
theorem Bu:dN X (Gp .Mult) (rI CMul λi j=>.int (i*j)):=Dy λ_ _ _ _ _ _ _ hc q=>mul_int q hc.ok
theorem yM:dN X (Gp .FloorDiv) (rI CDiv λi j=>.int (i / j)):=Dy λi j _ _ _ _ _ hc q=>by
 have h1:(0:Int)<j:=hc.1;have h2:j<1073741824:=hc.2;exact floordiv_int (by lia) (by rw[Int.fdiv_eq_ediv_of_nonneg i (by lia)]; exact q) (.inl (PyProof.noPylong_small (by lia)))
theorem Bv:dN X (Gp .Mod) (rI (λ_ j=>0<j) λi j=>.int (i % j)):=Dy λi j _ _ _ _ _ hc q=>by
 have h1:(0:Int)<j:=hc;exact mod_int' (by lia) (by rw[Int.fmod_eq_emod_of_nonneg i (by lia)]; exact q)
end
section
variable{X:Cx}{a b c:Expr}{ta tb tc:TE}{pos:Pos}
theorem rg{pins:List (Addr×Obj)}{σ:St}{H:Hp}{s:B1}{Q:VK}{k k':Bool}(I:Inv X pins σ H s)(q:Q (.bl k) H)(e:k=k'):EP X pins σ Q (.bool k') s:=by
 subst e;exact⟨.bl k,H,I,rfl,q⟩
theorem op_lt:dN X (Fy .Lt) (AM λi j=>.bl (decide (i<j))):=opB0 λ_ _ _ _ _ _ _ q=>MQ q
theorem op_gt:dN X (Fy .Gt) (AM λi j=>.bl (decide (j<i))):=opB0 λ_ _ _ _ _ _ _ q=>gt_int q
theorem op_ge:dN X (Fy .GtE) (AM λi j=>.bl (decide (j<=i))):=opB0 λ_ _ _ _ _ _ _ q=>NA q
theorem mP:dN X (Fy .In) (λx y H Q=>∃i j,x=.str i/\y=.str j/\Q (.bl (!(HA j i 0 j.length 1).isEmpty)) H):=by
 intro pins s σ H x y v u Q I rx ry h;obtain⟨i,j,rfl,rfl,q⟩:=h;obtain⟨t,rfl⟩:=rx;obtain⟨t',rfl⟩:=ry;exact in_str (rg I q rfl)
theorem Bw:dN X (Fy .Is) (λx y H Q=>y=.non/\Q (.bl (decide (x=.non))) H):=by
 intro pins s σ H x y v u Q I rx ry h;obtain⟨rfl,q⟩:=h;cases ry;refine is_none_gen (rg I q ?_);cases x <;> first
  |(cases rx; rfl)
  |(obtain⟨t,rfl⟩:=rx; rfl)
theorem nT:dN X (Fy .NotIn) (λx y H Q=>∃i j,x=.str i/\y=.str j/\Q (.bl (!(!(HA j i 0 j.length 1).isEmpty))) H):=by
 intro pins s σ H x y v u Q I rx ry h;obtain⟨i,j,rfl,rfl,q⟩:=h;obtain⟨t,rfl⟩:=rx;obtain⟨t',rfl⟩:=ry;exact notIn_str (rg I q rfl)
theorem eX(b:Expr){op:CmpOp}(h:op≠.In:=by decide)(h2:op≠.NotIn:=by decide):GX op b=false:=by
 have e1:(op == CmpOp.In)=false:=by cases op <;> first | rfl | exact absurd rfl h
 have e2:(op == CmpOp.NotIn)=false:=by cases op <;> first | rfl | exact absurd rfl h2
 cases b <;> simp[GX,e1,e2]
theorem nU{op:CmpOp}{r:R2}(ho:dN X (Fy op) r)(ha:PE X a ta)(hb:PE X b tb)(hm:GX op b=false):PE X (.Compare a [op] [b] pos) (AL r ta tb):=by
 intro pins s σ H Q I h;exact wpAny_Compare1 (binT ha hb I h λv u s2 x y H2 I2 rx ry q=>ho pins s2 σ H2 x y v u Q I2 rx ry q) hm
noncomputable def tTest(t:TE):TT:=λσ H Q=>t σ H λx H'=>∃k,x=.bl k/\Q k H'
theorem iR{op:CmpOp}{r:R2}(ho:dN X (Fy op) r)(ha:PE X a ta)(hb:PE X b tb)(hm:GX op b=false):PT X (.Compare a [op] [b] pos) (tTest (AL r ta tb)):=by
 intro pins s σ H Q I h;refine Mj (bD (ha pins s σ H _ I h) λv s1 ⟨x,H1,I1,r1,q1⟩=>bD (hb pins s1 σ H1 _ I1 q1) λu s2 ⟨y,H2,I2,r2,q2⟩=>
  bD (ho pins s2 σ H2 x y v u _ I2 r1 r2 q2) λc s3 ⟨z,H3,I3,r3,k,e,q3⟩=>?_) hm
 subst e;cases r3;exact Jj ⟨H3,I3,q3⟩
def TruV(K:AT)(x:V)(H:Hp)(k:Bool):Prop :=
 match x with
 |.non=>k=false
 |.bl b=>k=b
 |.int i=>k=(i != 0)
 |.str y=>y.length<=E6/\k=((y.length:Int) != 0)
 |.byt y=>y.size<=E6/\k=((y.size:Int) != 0)
 |.ref p=>(∃xs,gg K H p xs/\k = !xs.isEmpty)\/(∃xs,dR K H p xs/\k = !xs.isEmpty)\/∃kvs,H p=some (.dK kvs)/\k = !kvs.isEmpty
 |_=>False
theorem rj{κ:Type}{kvs:List (κ×V)}{vs:List (κ×Value)}(r:KV kvs vs):(!vs.isEmpty) = !kvs.isEmpty:=by
 cases r <;> rfl
theorem kG{xs:List V}{its:List Value}(r:Vals xs its):(!its.toArray.isEmpty) = !xs.isEmpty:=by
 cases r <;> simp
theorem iE:(E6:Nat)<2 ^ 63:=by rw[GR]; decide
theorem Bx:TruR X (λx H Q=>∃k,TruV X.K x H k/\Q k H):=by
 intro pins s σ H x v Q I rx h;obtain⟨k,e,q⟩:=h;have hl:=iE;have hs:E6=16777216:=GR;cases x with
 |non=>
  cases rx;have e':k=false:=e;subst e';exact truthy_none ⟨H,I,q⟩
 |bl b=>
  cases rx;have e':k=b:=e;subst e';exact Jj ⟨H,I,q⟩
 |int i=>
  obtain⟨t,rfl⟩:=rx;have e':k=(i != 0):=e;subst e';exact PySem.P.truthy_int ⟨H,I,q⟩
 |str y=>
  obtain⟨t,rfl⟩:=rx;obtain⟨hy,e'⟩:y.length<=E6/\k=((y.length:Int) != 0):=e;subst e';exact PySem.P.truthy_str (by lia) ⟨H,I.tok _,q⟩
 |byt y=>
  obtain⟨t,rfl⟩:=rx;obtain⟨hy,e'⟩:y.size<=E6/\k=((y.size:Int) != 0):=e;subst e';exact PySem.W.truthy_bytes (by lia) ⟨H,I.tok _,q⟩
 |ref p=>
  cases rx;have e':(∃xs,gg X.K H p xs/\k = !xs.isEmpty)\/(∃xs,dR X.K H p xs/\k = !xs.isEmpty)\/∃kvs,H p=some (.dK kvs)/\k = !kvs.isEmpty:=e;rcases e' with⟨xs,hx,e'⟩ | ⟨xs,hx,e'⟩ | ⟨kvs,hx,e'⟩
  ·subst e'
   obtain⟨its,r,pl,hz⟩:=I.list hx;have hlen:=r.length;exact wpAny_truthy_list pl.isList (by simp only[Dx]; lia) ⟨H,I.tok _,by rw[kG r]; exact q⟩
  ·subst e'
   obtain⟨its,r,pl,hz⟩:=I.tuple hx;have hlen:=r.length;exact truthy_tuple pl (by simp only[Dx]; lia) ⟨H,I.tok _,by rw[kG r]; exact q⟩
  ·subst e'
   obtain⟨hz,hS,vs,r,m⟩:kvs.length<=E6/\(p == HQ)=false/\∃vs,KV kvs vs/\s.heap.DictOf (aI X.prog X.w) p vs:=I.hok p _ hx;have hlen:kvs.length=vs.length:=ID r;exact wpAny_truthy_dict hS m (by lia) ⟨H,I.tok _,by rw[rj r]; exact q⟩
 |_=>exact(show False from e).elim
theorem v8(ha:PE X a ta)(he:∀whole,Lx a X.env whole=(do let v <-whole; K0 a.pos; K1 [v] (truthy v))) :
  PT X a (λσ H Q=>ta σ H λx H'=>∃k,TruV X.K x H' k/\Q k H'):=by
 intro pins s σ H Q I h;exact isTrue_plain (bD (ha pins s σ H _ I h) λv s1 ⟨x,H1,I1,r1,q1⟩=>Bx pins s1 σ H1 x v Q I1 r1 q1) (he _)
theorem rm:dN X (Gp .Add) (λx y H Q=>∃i j,x=.str i/\y=.str j/\i.length+j.length<=E6/\Q (.str (i++j)) H):=by
 intro pins s σ H x y v u Q I rx ry h;obtain⟨i,j,rfl,rfl,hz,q⟩:=h;obtain⟨t,rfl⟩:=rx;obtain⟨t',rfl⟩:=ry;exact add_str (λt' tk=>⟨.str (i++j),H,I.tok _,⟨_,rfl⟩,q⟩) hz
theorem vals1{x:V}{us:List Value}(r:Vals [x] us):∃u,us=[u]/\RelV x u:=by
 cases r with
 |cons r1 r2=>cases r2; exact⟨_,rfl,r1⟩
theorem vals2{x y:V}{us:List Value}(r:Vals [x,y] us):∃u w',us=[u,w']/\RelV x u/\RelV y w':=by
 cases r with
 |cons r1 r2=>
  cases r2 with
  |cons r3 r4=>cases r4; exact⟨_,_,rfl,r1,r3⟩
theorem ur(hc:X.calm=true):bf X (.builtin "max") (λxs H Q=>∃i j,xs=[.int i,.int j]/\Q (.int (if j>i then j else i)) H):=by
 intro pins s σ H xs us Q I r h;obtain⟨i,j,rfl,q⟩:=h;obtain⟨u,w',rfl,⟨t,rfl⟩,⟨t',rfl⟩⟩:=vals2 r;refine max_two_ints (I.ok.hd hc) λh' tk k=>⟨_,H,I.kept k,?_,q⟩
 by_cases hj:j>i
 ·rw[if_pos hj,if_pos hj]; exact⟨_,rfl⟩
 ·rw[if_neg hj,if_neg hj]; exact⟨_,rfl⟩
theorem uu(hc:X.calm=true):bf X (.builtin "min") (λxs H Q=>∃i j,xs=[.int i,.int j]/\Q (.int (if j<i then j else i)) H):=by
 intro pins s σ H xs us Q I r h;obtain⟨i,j,rfl,q⟩:=h;obtain⟨u,w',rfl,⟨t,rfl⟩,⟨t',rfl⟩⟩:=vals2 r;refine min_two_ints (I.ok.hd hc) λh' tk k=>⟨_,H,I.kept k,?_,q⟩
 by_cases hj:j<i
 ·rw[if_pos hj,if_pos hj]; exact⟨_,rfl⟩
 ·rw[if_neg hj,if_neg hj]; exact⟨_,rfl⟩
theorem mQ:bf X (.type "int") (λxs H Q=>(∃i,xs=[.int i]/\Q (.int i) H)\/∃k,xs=[.bl k]/\Q (.int (if k then 1 else 0)) H):=by
 intro pins s σ H xs us Q I r h;rcases h with⟨i,rfl,q⟩ | ⟨k,rfl,q⟩
 ·obtain⟨u,rfl,t,rfl⟩:=vals1 r
  exact call_int_int ⟨.int i,H,I,⟨_,rfl⟩,q⟩
 ·obtain⟨u,rfl,r1⟩:=vals1 r
  cases r1;exact call_int_bool ⟨.int (if k then 1 else 0),H,I.tok _,⟨_,rfl⟩,q⟩
end
end L2
namespace L2
open PySem PySem.Spec PyProof.Rows
theorem lW.some_of{v:V}{o:Option Value}(r:lW (some v) o):∃u,o=some u/\RelV v u:=by
 cases o with
 |none=>exact(show False from r).elim
 |some u=>exact⟨u,rfl,r⟩
end L2
namespace L2
open PySem PySem.Spec PyProof.Rows
structure eN(k:Nat)(A:Fa):Prop where
 hd:A.handled=none
 dp:A.depth+3*k+5<recursionLimit
 un:A.units+16*k+200<cLine
 gd:A.guards=some []
theorem eN.mono{j k:Nat}{A:Fa}(r:eN k A)(h:j<=k):eN j A:=⟨r.hd,by have:=r.dp; lia,by have:=r.un; lia,r.gd⟩
theorem eN.deeper{k:Nat}{A:Fa}(r:eN (k+1) A)(env:Env):eN k (A.deeper env) :=
 ⟨r.hd,by have:=r.dp; show A.depth+1+3*k+5<_; lia,by have:=r.un; show A.units+3+16*k+200<_; lia,r.gd⟩
theorem eN.depth{k:Nat}{A:Fa}(r:eN k A):A.depth<recursionLimit:=by have:=r.dp; lia
theorem eN.units{k:Nat}{A:Fa}(r:eN k A):A.units+64<cLine:=by have:=r.un; lia
noncomputable def tNil:TA:=λ_ H Q=>Q [] H
noncomputable def tCons(ta:TE)(tr:TA):TA:=λσ H Q=>ta σ H λx H1=>tr σ H1 λxs H2=>Q (x::xs) H2
section
variable{X:Cx}{e:Expr}{es:List Expr}{te:TE}{t:TA}{pos:Pos}
theorem rq:PA X [] tNil:=λ_ _ _ _ H Q I h=>JP ⟨[],H,I,.nil,h⟩
theorem nV(ha:PE X e te)(hr:PA X es t)(hs:E5 (e::es) X.env=(false,eval e X.env)::E5 es X.env:=by rfl):PA X (e::es) (tCons te t):=by
 intro pos pins s σ H Q I h;rw[hs];show wpAny _ _ (MW ((false,eval e X.env)::Ij pos (E5 es X.env))) _ _ s;refine JC (bD (ha pins s σ H _ I h) λu s1 ⟨x,H1,I1,r1,q1⟩=>?_)
 exact bD (hr pos pins s1 σ H1 _ I1 q1) λus s2 ⟨xs,H2,I2,r2,q2⟩=>⟨x::xs,H2,I2,.cons r1 r2,q2⟩
noncomputable def tTup(t:TA):TE:=λσ H Q=>t σ H λxs H1=>xs.length<=E6/\∀p,H1 p=none->Q (.ref p) (upd H1 p (.tup xs))
noncomputable def tLst(t:TA):TE:=λσ H Q=>t σ H λxs H1=>xs.length<=E6/\∀p,H1 p=none->Q (.ref p) (upd H1 p (.lst xs))
theorem By{x1}(h:PA X es t):PE X (.Tuple es x1 pos) (tTup t):=by
 intro pins s σ H Q I hq;refine wpAny_Tuple_spliced (bD (h pos pins s σ H _ I hq) λus s1 ⟨xs,H1,I1,r,z,q⟩=>⟨by rw[<-r.length]; exact z,?_⟩)
 have hf:H1 s1.heap.objs.size=none:=I1.hok.fresh (Da _);refine⟨.ref s1.heap.objs.size,upd H1 s1.heap.objs.size (.tup xs),I1.laid (t':=s1.toks) (λb u e=>At _ e) (Da _) ?_,rfl,q _ hf⟩
 exact⟨z,us,r,⟨_,Db _ rfl,rfl,_,rfl⟩⟩
theorem BA(h:PA X es t):PE X (.List es pos) (tLst t):=by
 intro pins s σ H Q I hq;refine wpAny_List_spliced (bD (h pos pins s σ H _ I hq) λus s1 ⟨xs,H1,I1,r,z,q⟩=>⟨by rw[<-r.length]; exact z,?_⟩)
 have hf:H1 s1.heap.objs.size=none:=I1.hok.fresh (Da _);refine⟨.ref s1.heap.objs.size,upd H1 s1.heap.objs.size (.lst xs),I1.laid (t':=s1.toks) (λb u e=>At _ e) (Da _) ?_,rfl,q _ hf⟩
 exact⟨z,us,0,r,Db _ rfl⟩
end
abbrev Sp:=List V->Hp->VK->XK->Prop
abbrev v9:=List Env->Hp->B1->XK->Value->B1->Prop
structure Env0(P:FB)(w:World)(K:AT)(mg:Str->Option Value)(base:Heap)(A:Fa)(outer:List Env)(s:B1)(H:Hp):Prop where
 frames:A.frames=some outer
 mod:Mod K mg base
 bs:∀b o,base.get? b=some o->s.heap.get? b=some o/\H b=none
 bsz:base.objs.size<=s.heap.objs.size
 kF:s.heap.FunFrames base outer
 frf:∀b∈frs outer,H b=none
 hok:iQ P w H s.heap
 bare:K4 s.gens
def CE(outer:List Env)(P:FB)(w:World)(H:Hp)(s:B1)(Q:VK)(u:Value)(s':B1):Prop :=
 ∃v H',s'.os=s.os/\K4 s'.gens/\Un (frs outer) [] H H' s.heap s'.heap/\iQ P w H' s'.heap/\RelV v u/\Q v H'
def CR(CX:v9)(outer:List Env)(P:FB)(w:World)(H:Hp)(s:B1)(Q:VK)(E:XK)(r:LU)(s':B1):Prop :=
 match r with
 |.ok (.ret u)=>CE outer P w H s Q u s'
 |.ok _=>False
 |.error e=>CX outer H s E e s'
structure cY(P:FB)(w:World)(K:AT)(mg:Str->Option Value)(base:Heap)(CX:v9)(k:Nat)(f:Addr)(fd:Hh)(ps:List Str)(sp:Sp):Prop where
 len:∀vs H Q E,sp vs H Q E->vs.length=ps.length
 run:∀(A:Fa)(outer:List Env)(s:B1)(H:Hp)(args:Args)(us:List Value)(vs:List V)(Q:VK)(E:XK),eN k A->Env0 P w K mg base A outer s H->Lm s fd args (ps.zip us)->Vals vs us->sp vs H Q E ->
  Hu (model P w) A (.call (.ref f) args) (CR CX outer P w H s Q E) s
theorem cY.imp{P:FB}{w:World}{K:AT}{mg:Str->Option Value}{base:Heap}{CX:v9}{k:Nat}{f:Addr}{fd:Hh}{ps:List Str}{sp sp':Sp}(F:cY P w K mg base CX k f fd ps sp)
  (h:∀vs H Q E,sp' vs H Q E->sp vs H Q E):cY P w K mg base CX k f fd ps sp' :=
 ⟨λvs H Q E q=>F.len vs H Q E (h _ _ _ _ q),λA outer s H args us vs Q E hr he hb hv hs=>F.run A outer s H args us vs Q E hr he hb hv (h _ _ _ _ hs)⟩
section
variable{X:Cx}{pins:List (Addr×Obj)}{σ:St}{H:Hp}{s s':B1}
theorem Inv.env0(I:Inv X pins σ H s):Env0 X.prog X.w X.K X.mg X.base X.A X.stack s H :=
 ⟨I.ok.frames,I.ok.mod,I.bs,GE I.ok.bsz I.sz,I.stack,I.sF,I.hok,I.bare⟩
theorem Inv.after{Q:VK}{u:Value}(I:Inv X pins σ H s)(h:CE X.stack X.prog X.w H s Q u s'):EP X pins σ Q u s':=by
 obtain⟨v,H',os,bare,un,hok,r,q⟩:=h;obtain⟨hh,g,d,t,os'⟩:=s';obtain rfl:os'=s.os:=os;exact⟨v,H',I.call (h':=hh) (g':=g) (d':=d) (t':=t) (ch:=[]) un hok bare (λb z=>absurd z (by simp)),r,q⟩
end
noncomputable def wc(sp:Sp)(dvs:List V)(E:XK)(t:TA):TE:=λσ H Q=>t σ H λvs H1=>sp (vs++dvs) H1 Q E
def Binds(K:AT)(fd:Hh)(ps:List Str)(ds:List Value):Prop :=
 ∀(s:B1)(us:List Value),K.In s.heap->(us++ds).length=ps.length->Lm s fd ⟨us,[]⟩ (ps.zip (us++ds))
theorem Binds.all{K:AT}{fd:Hh}{ps:List Str}(h:∀us:List Value,us.length=ps.length->bindArgs fd ⟨us,[]⟩=pure (ps.zip us)):Binds K fd ps []:=λs us _ hl=>by
 rw[E3] at hl ⊢;exact .of_eq (h us hl)
def Passes(CX:v9)(X:Cx)(E:XK):Prop:=∀(pins:List (Addr×Obj))(σ:St)(H:Hp)(s:B1)(e:Value)(s':B1),Inv X pins σ H s->CX X.stack H s E e s'->X.xe e s'
section
variable{X:Cx}{CX:v9}{k:Nat}{f C:Addr}{fd:Hh}{ps:List Str}{sp:Sp}{dvs:List V}{ds:List Value}{E:XK}{x m:Str}{p pos apos:Pos}{e o:Expr}{es:List Expr}{ta:TE}{t:TA}
theorem BC{pins:List (Addr×Obj)}{σ:St}{H:Hp}{s:B1}{Q:VK}{us:List Value}{vs:List V}(F:cY X.prog X.w X.K X.mg X.base CX k f fd ps sp)(hr:eN k X.A)(hb:Binds X.K fd ps ds)(hd:Vals dvs ds)(hx:Passes CX X E)
  (I:Inv X pins σ H s) (r:Vals vs us) (h:sp (vs++dvs) H Q E):wpAny (model X.prog X.w) X.A (call (.ref f) us) (EP X pins σ Q) X.xe s:=by
 have r2:Vals (vs++dvs) (us++ds):=r.append hd;have hl:(us++ds).length=ps.length:=by rw[<-r2.length]; exact F.len _ _ _ _ h
 refine wpAny_call (Kx (F.run X.A X.stack s H ⟨us,[]⟩ (us++ds) (vs++dvs) Q E hr I.env0 (hb s us I.C6 hl) r2 h) λr s' hq=>?_)
 cases r with
 |error e=>exact hx pins σ H s e s' I hq
 |ok fl=>
  cases fl with
  |ret u=>exact I.after hq
  |next=>exact Hz hq
  |brk=>exact Hz hq
  |cont=>exact Hz hq
theorem yN(F:cY X.prog X.w X.K X.mg X.base CX k f fd ps sp)(hr:eN k X.A)(hg:Gl X x)(hm:X.mg x=some (.ref f))(hk:G9 X.K (.ref f)=true)(hb:Binds X.K fd ps ds)(hd:Vals dvs ds)(hx:Passes CX X E)
  (ha:PA X (e::es) t) (hdb:(x == ("__debug__" : Str))=false:=by decide) (he:E5 (e::es) X.env=(false,eval e X.env)::E5 es X.env:=by rfl) (hpl:(Ij pos (E5 es X.env)).any (·.1)=false:=by rfl) :
  PE X (.Call (.Name x p) (e::es) [] pos) (wc sp dvs E t):=by
 intro pins s σ H Q I h;refine HD (yE I hg hm ?_ hdb);refine PySem.W.callWith_K (h₀:=X.base) I.ok.mod.kin hk (bD (ha pos pins s σ H _ I h) λus s1 ⟨vs,H1,I1,r,q⟩=>⟨I1.C6,?_⟩) he hpl
 exact BC F hr hb hd hx I1 r q
end
structure bF(N P:List Str)(sc:Scope):Prop where
 kind:sc.kind=.function
 co:sc.isCoroutine=false
 gen:sc.isGenerator=false
 nd:N.Nodup
 pre:N.take P.length=P
 par:∀x∈P,sc.names.lookup x=some .local\/sc.names.lookup x=some .cell
 nofree:∀y∈sc.names,y.2≠.free
theorem mR{kindOf:Str->Option IH}{x:Str}:∀{binds:List (Str×Value)}{m:Str->Option Value},(∀v,(x,v)∉binds)->bindL kindOf binds m x=m x
 |[],_,_=>rfl
 |(n,v)::r,m,h=>by
  unfold bindL;rw[mR λw hw=>h w (lO _ hw)]
  split
  ·have:x≠n:=by rintro rfl; exact h v lS
   simp[this]
  ·rfl
theorem mS{kindOf:Str->Option IH}{x:Str}:∀{binds:List (Str×Value)}{m:Str->Option Value},(∀v,(x,v)∉binds)->bindC kindOf binds m x=m x
 |[],_,_=>rfl
 |(n,v)::r,m,h=>by
  unfold bindC;rw[mS λw hw=>h w (lO _ hw)]
  split
  ·rfl
  ·have:x≠n:=by rintro rfl; exact h v lS
   simp[this]
theorem mT{kindOf:Str->Option IH}{x:Str}{v:Value}:∀{P:List Str}{vs:List Value}{i:Nat}{m:Str->Option Value},P.Nodup->P[i]? = some x->vs[i]? = some v->kindOf x=some .local ->
  bindL kindOf (P.zip vs) m x=some v
 |[],_,_,_,_,h,_,_=>by simp at h
 |_::_,[],_,_,_,_,h,_=>by simp at h
 |p::P,w::vs,0,m,nd,h1,h2,hk=>by
  simp at h1 h2; subst h1; subst h2;show bindL kindOf ((p,w)::P.zip vs) m p=_;unfold bindL;rw[mR λv hv=>(Fb.mp nd).1 (Kr hv).1,if_pos hk]
  simp
 |p::P,w::vs,i+1,m,nd,h1,h2,hk=>by
  show bindL kindOf ((p,w)::P.zip vs) m x=_;unfold bindL;exact mT (i:=i) (Fb.mp nd).2 (by simpa using h1) (by simpa using h2) hk
theorem mU{kindOf:Str->Option IH}{x:Str}{v:Value}:∀{P:List Str}{vs:List Value}{i:Nat}{m:Str->Option Value},P.Nodup->P[i]? = some x->vs[i]? = some v->kindOf x≠some .local ->
  bindC kindOf (P.zip vs) m x=some v
 |[],_,_,_,_,h,_,_=>by simp at h
 |_::_,[],_,_,_,_,h,_=>by simp at h
 |p::P,w::vs,0,m,nd,h1,h2,hk=>by
  simp at h1 h2; subst h1; subst h2;show bindC kindOf ((p,w)::P.zip vs) m p=_;unfold bindC;rw[mS λv hv=>(Fb.mp nd).1 (Kr hv).1,if_neg hk]
  simp
 |p::P,w::vs,i+1,m,nd,h1,h2,hk=>by
  show bindC kindOf ((p,w)::P.zip vs) m x=_;unfold bindC;exact mU (i:=i) (Fb.mp nd).2 (by simpa using h1) (by simpa using h2) hk
noncomputable def start(N:List Str)(vs:List V):St:=vs.map some++E7 (N.length-vs.length) none
noncomputable def pT(CX:v9)(P:FB)(w:World)(K:AT)(mg:Str->Option Value)(base:Heap)(N:List Str)(qual:Str)(scope:Scope)(f:Addr)(cd:Value)(A:Fa)(outer:List Env)(s:B1)(H:Hp)(E:XK):Cx where
 prog:=P
 w:=w
 K:=K
 mg:=mg
 base:=base
 A:=A.deeper (K3 qual scope s.heap.objs.size f cd)
 N:=N
 s₀:=s
 H₀:=H
 env:=K3 qual scope s.heap.objs.size f cd
 outer:=outer
 stack:=K3 qual scope s.heap.objs.size f cd::outer
 ex:=[]
 calm:=true
 fn:=λ_=>true
 pn:=[]
 xe:=λe s'=>wpAny (model P w) (A.deeper (K3 qual scope s.heap.objs.size f cd)) (leaving (K3 qual scope s.heap.objs.size f cd) e) (λ_ s''=>CX outer H s E e s'') (λe' s''=>CX outer H s E e' s'') s'
theorem pU{sc:Scope}{n:Nat}{x:Str}(h:sc.names.lookup x=some .cell):∃c,(cellsFrom n sc.names []).lookup x=some c:=by
 have q:=LS sc.names n [] (.inl h);exact IE.mp q
theorem uv{CX:v9}{P:FB}{w:World}{K:AT}{mg:Str->Option Value}{base:Heap}{N ps:List Str}{qual:Str}{scope:Scope}{f:Addr}{cd:Value}{A:Fa}{outer:List Env}{s s1:B1}{H:Hp}{E:XK}{us:List Value}{vs:List V}
  (S:bF N ps scope) (hd:A.handled=none) (e0:Env0 P w K mg base A outer s H) (hl:vs.length=ps.length) (r:Vals vs us)
  (x:InCallC s s.heap.objs.size (bindL (K3 qual scope s.heap.objs.size f cd).kindOf (ps.zip us) λ_=>none) (cellsFrom (s.heap.objs.size+1) scope.names []) (bindC (K3 qual scope s.heap.objs.size f cd).kindOf (ps.zip us) λ_=>none) s1) :
  Inv (pT CX P w K mg base N qual scope f cd A outer s H E) [] (start N vs) H s1:=by
 have hpl:ps.length<=N.length:=by have:=congrArg Iw S.pre; rw[FH] at this; lia
 obtain⟨h1,tk,rfl,hk⟩:=x.done;have noA:∀b:Addr,b∉(pT CX P w K mg base N qual scope f cd A outer s H E).ex:=λb z=>absurd (show b∈([]:List Addr) from z) (by simp)
 refine⟨⟨e0.mod,S.kind,rfl,rfl,Da _,λy z c h1 h2=>?_,λy hy=>?_,λy c _ h=>?_,λ_=>hd,Around.frames_deeper e0.frames,.inr ⟨rfl,rfl⟩,λb z=>absurd z (noA b),e0.bs,e0.bsz,λb _ _=>noA b,λb z=>absurd z (noA b),e0.kF,e0.frf⟩,
  rfl,e0.bare,Un.kept hk,⟨_,x.toInCall.ns,λi y v h1 h2 h3=>?_⟩,λy c h=>⟨_,x.cell y c h⟩,e0.hok.fresh (Da _),λy c h=>?_,λp hp=>absurd (show p∈([]:List (Addr×Obj)) from hp) (by simp),e0.hok.kept hk,?_⟩
 ·exact name_of_addr x.apart (He h1) (He h2)
 ·have hy:scope.names.lookup y=some .cell\/scope.names.lookup y=some .free:=hy
  rcases hy with hy | hy
  ·exact pU hy
  ·exact absurd rfl (S.nofree _ (He hy))
 ·exact HX (x.above y c (He h))
 ·have hi:i<vs.length:=by
   unfold start at h2
   by_cases hi:i<vs.length
   ·exact hi
   ·rw[Ff (by simpa using hi)] at h2
    rw[List.getElem?_replicate] at h2
    split at h2 <;> cases h2
  have ha:vs[i]? = some v:=by
   unfold start at h2;rw[Fu (by simpa using hi),Fs] at h2
   cases e:vs[i]? with
   |none=>rw[e] at h2; cases h2
   |some a=>rw[e] at h2; cases h2; rfl
  obtain⟨u,hu,rv⟩:=r.get ha;have hp:ps[i]? = some y:=by
   rw[<-S.pre,GH (by lia)]; exact h1
  have ndP:ps.Nodup:=by rw[<-S.pre]; exact S.nd.sublist (KZ _ _)
  refine⟨u,rv,?_⟩;rcases S.par y (Iu hp) with k | k
  ·exact .inl ⟨k,mT ndP hp hu k⟩
  ·obtain⟨c,e⟩:=pU (n:=s.heap.objs.size+1) k
   refine .inr ⟨.inl k,c,e,?_⟩;have q:=x.cell y c e;rw[mU ndP hp hu (by show scope.names.lookup y≠_; rw[k]; decide)] at q
   exact q
 ·exact e0.hok.fresh (HX (x.above y c (He h)))
 ·unfold start
  show _=N.length;rw[Bz,B2,Jv];lia
theorem fn_of{CX:v9}{P:FB}{w:World}{K:AT}{mg:Str->Option Value}{base:Heap}{k:Nat}{f:Addr}{name qual:Str}{params:Arguments}{body:List Stmt}{scope:Scope}{dV kV doc pm cdv ct oc:Value}{an od:Option Addr}
  {osl:Array (Option Value)} {N ps:List Str} {sp:Sp} (lk:K.lookup f=some ⟨oc,od,.func (GA name qual params body scope dV kV doc pm an cdv ct),osl⟩) (hcd:GM K cdv qual=true) (S:bF N ps scope)
  (len:∀vs H Q E,sp vs H Q E->vs.length=ps.length)
  (hbody:∀(A:Fa)(outer:List Env)(s:B1)(H:Hp)(vs:List V)(Q:VK)(E:XK),eN k (A.deeper (K3 qual scope s.heap.objs.size f cdv))->sp vs H Q E ->
   ∃t,qZ (pT CX P w K mg base N qual scope f cdv A outer s H E) body t/\t { nx:=λ_ H'=>Q .non H',rt:=Q } (start N vs) H) :
  cY P w K mg base CX (k+1) f (GA name qual params body scope dV kV doc pm an cdv ct) ps sp:=by
 refine⟨len,λA outer s H args us vs Q E hr e0 hb r hsp=>?_⟩
 have hl:=len _ _ _ _ hsp;have KX:K.In s.heap:=e0.mod.kin.keeps λb o e=>(e0.bs b o e).1
 have lim:s.heap.NoLimit:=e0.mod.nolimit.keeps λb o e=>(e0.bs b o e).1
 have hkind:∀y∈ps.zip us,scope.names.lookup y.1=some .local\/(scope.names.lookup y.1=some .cell/\((cellsFrom (s.heap.objs.size+1) scope.names []).lookup y.1).isSome=true):=λ⟨n,v⟩ hy=>by
  rcases S.par n (Kr hy).1 with q | q
  ·exact .inl q
  ·exact .inr ⟨q,LS _ _ _ (.inl q)⟩
 refine codeAny_call_function hr.depth (KX _ _ lk) rfl S.co S.gen rfl (PySem.W.codeRec_of KX hcd) (hb _ _ _ _ ?_);refine wpAny_newFunctionEnv_cells S.kind hkind λenv he s1 x=>?_
 subst he;refine⟨lim.keeps x.toInCall.keep,codeAny_func ?_⟩;obtain⟨t,ht,hq⟩:=hbody A outer s H vs Q E (hr.deeper _) hsp;have I:Inv (pT CX P w K mg base N qual scope f cdv A outer s H E) [] (start N vs) H s1:=uv S hr.hd e0 hl r x;refine Gz (ht [] s1 (start N vs) H _ I hq) (λfl s' hs=>?_) λe s' hs=>hs
 have fin:∀{σ':St}{H':Hp}{v:V}{u:Value},Inv (pT CX P w K mg base N qual scope f cdv A outer s H E) [] σ' H' s'->RelV v u->Q v H'->CE outer P w H s Q u s' :=
  λ{σ' H' v u}J rv q=>⟨v,H',J.os,J.bare,J.base,J.hok,rv,q⟩
 cases fl with
 |ret u=>
  obtain⟨v,σ',H',J,rv,q⟩:=hs;exact fin J rv q
 |next=>
  obtain⟨σ',H',J,q⟩:=hs;exact fin (v:=V.non) (u:=Fp) J rfl q
 |brk=>
  obtain⟨_,_,_,q⟩:=hs;exact Hz q
 |cont=>
  obtain⟨_,_,_,q⟩:=hs;exact Hz q
end L2
namespace L2
open PySem PySem.Spec PyProof.Rows
section
variable{X:Cx}{x:Str}{p pos:Pos}{e:Expr}{es:List Expr}{t:TA}{id T:String}{r:List V->Hp->VK->Prop}
noncomputable def DS(r:List V->Hp->VK->Prop)(t:TA):TE:=λσ H Q=>t σ H λvs H1=>r vs H1 Q
theorem pW(hc:bf X (.builtin id) r)(hg:Gl X x)(hm:X.mg x=none)(hv:Hg x=some (.builtin id))(ha:PA X (e::es) t)(hn:x ≠ "__name__" := by decide)(hdb:(x == ("__debug__" : Str))=false:=by decide)
  (he:E5 (e::es) X.env=(false,eval e X.env)::E5 es X.env:=by rfl) (hpl:(Ij pos (E5 es X.env)).any (·.1)=false:=by rfl):PE X (.Call (.Name x p) (e::es) [] pos) (DS r t):=by
 intro pins s σ H Q I h;refine HD (fP I hg hm hv ?_ hn hdb);exact PyProof.Rows.callWith_builtin1 (bD (ha pos pins s σ H _ I h) λus s1 ⟨vs,H1,I1,r1,q1⟩=>hc pins s1 σ H1 vs us Q I1 r1 q1) he hpl
theorem uw(hc:bf X (.type T) r)(hg:Gl X x)(hm:X.mg x=none)(hv:Hg x=some (.type T))(ha:PA X (e::es) t)(hn:x ≠ "__name__" := by decide)(hdb:(x == ("__debug__" : Str))=false:=by decide)
  (he:E5 (e::es) X.env=(false,eval e X.env)::E5 es X.env:=by rfl) (hpl:(Ij pos (E5 es X.env)).any (·.1)=false:=by rfl):PE X (.Call (.Name x p) (e::es) [] pos) (DS r t):=by
 intro pins s σ H Q I h;refine HD (fP I hg hm hv ?_ hn hdb);exact GB (bD (ha pos pins s σ H _ I h) λus s1 ⟨vs,H1,I1,r1,q1⟩=>hc pins s1 σ H1 vs us Q I1 r1 q1) he hpl
end
end L2
namespace HT
open PySem PyProof.Rows
noncomputable def lexLt:List Int->List Int->Bool
 |[],[]=>false
 |[],_::_=>true
 |_::_,[]=>false
 |x::xs,y::ys=>if x=y then lexLt xs ys else decide (x<y)
theorem aV(x y:Int)(xs ys:List Int):lexLt (x::xs) (y::ys)=if x=y then lexLt xs ys else decide (x<y):=rfl
theorem ie:lexLt [] []=false:=rfl
theorem kH(y:Int)(ys:List Int):lexLt [] (y::ys)=true:=rfl
theorem kI(x:Int)(xs:List Int):lexLt (x::xs) []=false:=rfl
theorem pZ(A:Fa)(s:B1)(a:Int)(t:Tok)(c:Int)(u:Tok):∃e,L1 A s (.int a t) (.int c u) e/\(e=true↔a=c) :=
 ⟨(a == c),SeqAt.EqAt.int_int a t c u,by simp⟩
theorem kJ(A:Fa)(s:B1)(a:Int)(t:Tok)(c:Int)(u:Tok)(prog:FB)(w:World)(E:Value->B1->Prop)(Q:Value->B1->Prop)(h:Q (.bool (decide (a<c))) s) :
  wpAny (model prog w) A (KJ .Lt (.int a t) (.int c u)) Q E s :=
 (MQ h:wpAny (model prog w) A (Fy .Lt (.int a t) (.int c u)) Q E s)
section
open PySem.SeqAt
open PySem.AutoSeq1 (wpAny_loadPart')
open PySem.MeetsSeq PySem.MeetsSeq2 PySem.MeetsSeq3
theorem lZ(l b:Addr)(items items2:Array Value)(n n2:Nat)(dd dd2:Option Addr)(sl sl2:Array (Option Value))(ns ms:List Int)(hi:Gr items.toList ns)(hj:Gr items2.toList ms) :
  Meets (Gg.«tuple.__lt__» ⟨[.ref l,.ref b],[]⟩)
   (λ_ R s=>s.heap.get? l=some { cls:=.type "tuple",dict:=dd,data:=.seq items n,slots:=sl }/\s.heap.get? b=some { cls:=.type "tuple",dict:=dd2,data:=.seq items2 n2,slots:=sl2 } /\
    R (.ok (.ret (.bool (lexLt ns ms)))) s) :=
 .of_wp λprog w A R s h=>by
  obtain⟨hp,g,d,tk,os⟩:=s; obtain⟨hl,hb,h⟩:=h;have f2:=JF;have z1:items.size=ns.length:=by rw[<-hi.length]; simp
  have z2:items2.size=ms.length:=by rw[<-hj.length]; simp
  wp_walk using FR hl,FR hb,LP _ (λrest b s'=>b.1=none/\s'=⟨hp,g,d,tk,os⟩/\∃ (vs ws:List Value) (ns' ms':List Int),rest=vs.zip ws /\
   Gr vs ns'/\Gr ws ms'/\ns'.length+items2.size=ms'.length+items.size/\R (.ok (.ret (.bool (lexLt ns' ms')))) ⟨hp,g,d,tk,os⟩) _
  case turn=>
   rintro⟨y,x⟩ rest b s' ⟨hb',rfl,vs,ws,ns',ms',hz,hvi,hwi,hlen,hR⟩;cases hvi with
   |nil=>rw[IW] at hz; cases hz
   |cons a t hvi' =>
    cases hwi with
    |nil=>rw[IN] at hz; cases hz
    |cons c u hwi' =>
     rw[Gc] at hz
     injection hz with hyx hrest
     injection hyx with hy hx
     subst hy hx;rw[aV] at hR;simp only[D1] at hlen;obtain⟨e,he,hiff⟩:=pZ A.in1 ⟨hp,g,d,tk,os⟩ a t c u;refine AC (he prog w _ _ ?_);cases e with
     |true=>
      rw[if_pos (hiff.mp rfl)] at hR
      wp_walk
      exact⟨rfl,rfl,_,_,_,_,hrest,hvi',hwi',by lia,hR⟩
     |false=>
      rw[if_neg (λq=>absurd (hiff.mpr q) GI)] at hR
      have hri:=kJ A.in1 ⟨hp,g,d,tk,os⟩ a t c u prog w
      wp_walk using hri
      exact⟨_,rfl,by simpa using hR⟩
  case fin=>
   rintro⟨b1,b2⟩ s' ⟨hb',rfl,vs,ws,ns',ms',hz,hvi,hwi,hlen,hR⟩;simp only at hb';subst hb';have hv:lexLt ns' ms'=decide (items.size<items2.size):=by
    cases hvi with
    |nil=>
     cases hwi with
     |nil=>
      simp only[FC] at hlen;rw[ie];exact(decide_eq_false (by lia)).symm
     |cons c u hw=>
      simp only[FC,D1] at hlen;rw[kH];exact(decide_eq_true (by lia)).symm
    |cons a t hv=>
     cases hwi with
     |nil=>
      simp only[FC,D1] at hlen;rw[kI];exact(decide_eq_false (by lia)).symm
     |cons c u hw=>
      rw[Gc] at hz;cases hz
   rw[hv] at hR
   wp_walk
   exact⟨_,rfl,by simpa[II] using hR⟩
  case h=>
   exact⟨rfl,rfl,items.toList,items2.toList,ns,ms,rfl,hi,hj,by lia,h⟩
end
section
variable{prog:FB}{w:World}{A:Fa}{E:Value->B1->Prop}{s:B1}
theorem rz{l b:Addr}{items items2:Array Value}{ns ms:List Int}{Q:Value->B1->Prop}(hl:IsTup s.heap l items)(hb:IsTup s.heap b items2)(hi:Gr items.toList ns)(hj:Gr items2.toList ms)
  (hu:A.units<cLine) (h:Q (.bool (lexLt ns ms)) s):wpAny (model prog w) A (Fy .Lt (.ref l) (.ref b)) Q E s:=by
 obtain⟨⟨cls,dd,data,sl⟩,ho,hc,n,hd⟩:=id hl;obtain⟨⟨cls2,dd2,data2,sl2⟩,ho2,hc2,n2,hd2⟩:=id hb;simp only at hc hd hc2 hd2;subst hc hd hc2 hd2;exact Ih (op:=.Lt) ⟨_,ho,rfl⟩ ⟨_,ho2,rfl⟩ Lb LW (LI _ _) (lZ l b items items2 n n2 dd dd2 sl sl2 ns ms hi hj)
  ⟨ho,ho2,show Jg (lexLt ns ms)≠Ik/\Q (.bool (lexLt ns ms)) s from⟨(λx=>nomatch x),h⟩⟩ hu
theorem yO{t b:Addr}{vs ws:List Value}{Q:Value->B1->Prop}(ht:IsTup s.heap t vs.toArray)(hb:IsTup s.heap b ws.toArray)(hv:vs≠[])
  (h1:ws=[]->Q (.ref t) s) (h2:ws≠[]->Q (.ref s.heap.objs.size) { s with heap:=s.heap.push { cls:=.type "tuple",data:=.seq (vs++ws).toArray } })
  (hsz:vs.length+ws.length<=E6):wpAny (model prog w) A (Gp .Add (.ref t) (.ref b)) Q E s:=by
 obtain⟨⟨cls,dd,data,sl⟩,ho,hc,n,hd⟩:=id ht;obtain⟨⟨cls2,dd2,data2,sl2⟩,ho2,hc2,n2,hd2⟩:=id hb;simp only at hc hd hc2 hd2;subst hc hd hc2 hd2;have e:vs.toArray++ws.toArray=(vs++ws).toArray:=by simp
 by_cases hw:ws=[]
 ·exact Lj ⟨_,ho,rfl⟩ ⟨_,ho2,rfl⟩ Kd LR Ja JR (JL _ _)
   (tuple_addW1 t b vs.toArray ws.toArray n n2 dd dd2 sl sl2 (by simpa using hv) (by simp[hw])) ⟨ho,ho2,h1 hw⟩
 ·refine Lj ⟨_,ho,rfl⟩ ⟨_,ho2,rfl⟩ Kd LR Ja JR (JL _ _)
   (tuple_addW2 t b vs.toArray ws.toArray n n2 dd dd2 sl sl2 (by simpa using hv) (by simpa using hw) (by rw[Dx,Dx]; exact hsz)) ⟨ho,ho2,?_⟩
  rw[e];exact h2 hw
noncomputable def cI(n d:Nat):Option Int->Nat
 |none=>d
 |some v=>if v<0 then (v+(n:Int)).toNat else min v.toNat n
theorem p5(n d:Nat):cI n d none=d:=rfl
theorem sJ(n d k:Nat):cI n d (some (k:Int))=min k n:=by
 show (if (k:Int)<0 then ((k:Int)+(n:Int)).toNat else min (k:Int).toNat n)=min k n
 rw[if_neg (by lia),GY]
theorem BD(n d:Nat)(hd:d<=n)(o:Option Int):cI n d o<=n:=by
 cases o with
 |none=>exact hd
 |some v=>
  show (if v<0 then (v+(n:Int)).toNat else min v.toNat n)<=n
  by_cases hv:v<0
  ·rw[if_pos hv]; lia
  ·rw[if_neg hv]; exact Nat.min_le_right _ _
theorem sL(v:Int)(n d:Nat):(if v<0 then max (v+(n:Int)) 0 else min v (n:Int))=((cI n d (some v):Nat):Int):=by
 show (if v<0 then max (v+(n:Int)) 0 else min v (n:Int))=(((if v<0 then (v+(n:Int)).toNat else min v.toNat n):Nat):Int)
 by_cases hv:v<0
 ·simp only[if_pos hv]; lia
 ·simp only[if_neg hv]; lia
theorem rA(lo hi:Option Int)(n:Nat):Il lo hi 1 (n:Int)=(((cI n 0 lo:Nat):Int),((cI n n hi:Nat):Int)):=by
 have h1:¬ ((1:Int)<0):=by lia
 unfold Il;simp only[h1,if_false];refine NC ?_ ?_
 ·cases lo with
  |none=>rfl
  |some v=>exact sL v n 0
 ·cases hi with
  |none=>rfl
  |some v=>exact sL v n n
theorem rB(i j:Nat):Hw (i:Int) (j:Int) 1=j-i:=by
 unfold Hw;have h1:(1:Int)>0:=by lia
 simp only[h1,if_true,Int.ediv_one]
 split <;> lia
theorem kK{v:Value}{o:Option Int}{Q:Option Int->B1->Prop}(p:KO v o)(h:Q o s):wpAny (model prog w) A (Builtin.Slice.slicePartIndex v) Q E s:=by
 cases p with
 |none=>exact slicePart_none h
 |int i t=>exact slicePart_int h
theorem fB{sl:Addr}{vl vu:Value}{lo hi:Option Int}{n:Nat}{Q:Int×Int×Nat->B1->Prop}(hs:s.heap.IsSliceOf sl vl vu .none)(pl:KO vl lo)(pu:KO vu hi)
  (h:Q (((cI n 0 lo:Nat):Int),1,cI n n hi-cI n 0 lo) s):wpAny (model prog w) A (KB (.ref sl) (pure (n:Int))) Q E s:=by
 obtain⟨os,hos,hcs,hds⟩:=id hs;unfold KB Builtin.Slice.sliceFields;refine AC (AC (Fq hos hds (x:=vl) rfl (AC (Fq hos hds (x:=vu) rfl (AC (Fq hos hds (x:=.none) rfl (BM ?_)))))));refine AC (slicePart_none ?_);show wpAny _ _ (if ((1:Int) == 0)=true then _ else _) _ _ s
 rw[if_neg (by decide)]
 refine AC (kK pl (AC (kK pu (AC (BM ?_)))));show wpAny _ _ (match Il lo hi 1 (n:Int) with | (lo,hi)=>pure (lo,(1:Int),Hw lo hi 1)) _ _ s
 rw[rA lo hi n];show wpAny _ _ (pure (((cI n 0 lo:Nat):Int),(1:Int),Hw ((cI n 0 lo:Nat):Int) ((cI n n hi:Nat):Int) 1)) _ _ s;rw[rB];exact BM h
theorem we(xs:Array Value)(i k:Nat):((FD k).filterMap λ(m:Nat)=>xs[((i:Int)+(m:Int)*1).toNat]?).toArray=((xs.toList.drop i).take k).toArray:=by
 have e:(λ(m:Nat)=>xs[((i:Int)+(m:Int)*1).toNat]?)=λm=>xs[i+m]? := by
  funext m
  have:((i:Int)+(m:Int)*1).toNat=i+m:=by lia
  rw[this]
 rw[e];have:=pick_run xs i k;rw[List.filterMap_map] at this;have e2:((λx=>xs[x]?)∘λx=>i+x)=λm=>xs[i+m]? := rfl
 rw[e2] at this;rw[this]
theorem iS{t sl:Addr}{items:Array Value}{vl vu:Value}{lo hi:Option Int}{Q:Value->B1->Prop}(ht:IsTup s.heap t items)(hs:s.heap.IsSliceOf sl vl vu .none)(pl:KO vl lo)(pu:KO vu hi)
  (hw:¬ (cI items.size 0 lo=0/\cI items.size items.size hi=items.size))
  (h:Q (.ref s.heap.objs.size) { s with heap:=s.heap.push { cls:=.type "tuple",data:=.seq ((items.toList.drop (cI items.size 0 lo)).take (cI items.size items.size hi-cI items.size 0 lo)).toArray } })
  (hsz:items.size<=E6):wpAny (model prog w) A (Jl (.ref t) (.ref sl)) Q E s:=by
 have htake:sizeOk (.seq ((items.toList.drop (cI items.size 0 lo)).take (cI items.size items.size hi-cI items.size 0 lo)).toArray):=by
  show ((items.toList.drop (cI items.size 0 lo)).take (cI items.size items.size hi-cI items.size 0 lo)).toArray.size<=E6;rw[Dx,FH,FP,FW];lia
 have hj:cI items.size items.size hi<=items.size:=BD _ _ (Da _) hi;obtain⟨os,hos,hcs,hds⟩:=id hs;have hTs:s.TypeIs (.ref sl) "slice" := ⟨os,hos,hcs⟩;unfold Jl
 try with_reducible refine G6 ?_
 first | refine AC (BM ?_) | skip
 refine AC (wpAny_sequenceKey ht.typeIs (by decide) ?_)
 refine AC (G8 (name:=Hv "__getitem__") ht.typeIs Gf
  (GF Gf ht.typeIs NB ?_ (NQ _ _)))
 show wpAny _ _ (KA (.ref t) >>= _) _ _ s;refine AC (tupleItemsOf_ ht ?_);refine AC (Ie hTs ?_);rw[if_pos (by decide)]
 refine AC (fB hs pl pu ?_);have hno:¬ ((((cI items.size 0 lo:Nat):Int) == 0 && (1:Int) == 1 && (cI items.size items.size hi-cI items.size 0 lo) == items.size)=true):=by
  intro q;rw[Fk,Fk] at q;have q1:((cI items.size 0 lo:Nat):Int)=0:=eq_of_beq q.1.1;have q2:cI items.size items.size hi-cI items.size 0 lo=items.size:=eq_of_beq q.2;exact hw ⟨by lia,by lia⟩
 show wpAny _ _ (if (((cI items.size 0 lo:Nat):Int) == 0 && (1:Int) == 1 && (cI items.size items.size hi-cI items.size 0 lo) == items.size)=true then _ else _) _ _ s
 rw[if_neg hno,we]
 first
  |exact AC (m:=Gw _) (FU (BM ⟨_,rfl,BM h⟩) htake)
  |exact AC (m:=Gw _) (FU (AC (BM (BM ⟨_,rfl,BM h⟩))) htake)
  |exact AC (AC (m:=Gw _) (FU (BM (BM ⟨_,rfl,BM h⟩)) htake))
  |exact AC (AC (m:=Gw _) (FU (BM ⟨_,rfl,BM h⟩) htake))
end
end HT
namespace L2
open PySem PySem.Spec PyProof.Rows
abbrev TO:=St->Hp->(Option Int->Hp->Prop)->Prop
def PO(X:Cx)(e:Option Expr)(t:TO):Prop :=
 ∀(pins:List (Addr×Obj))(s:B1)(σ:St)(H:Hp)(Q:Option Int->Hp->Prop),Inv X pins σ H s->t σ H Q ->
  wpAny (model X.prog X.w) X.A (evalPart e X.env) (λu s'=>∃o H',Inv X pins σ H' s'/\KO u o/\Q o H') X.xe s
noncomputable def yP:TO:=λ_ H Q=>Q none H
noncomputable def tPart(t:TE):TO:=λσ H Q=>t σ H λx H1=>∃i,x=.int i/\Q (some i) H1
theorem intsAre_of{ns:List Int}:∀{us:List Value},Vals (ns.map V.int) us->Gr us ns:=by
 induction ns with
 |nil=>intro us r; rw[J8] at r; cases r; exact .nil
 |cons n ns ih=>
  intro us r;rw[FN] at r;cases r with
  |cons r1 r2=>
   obtain⟨t,e⟩:=r1;subst e;exact .cons n t (ih r2)
section
variable{X:Cx}{e:Expr}{te:TE}{lo hi:Option Expr}{tl th:TO}{pos p2:Pos}
theorem yQ:PO X none yP:=by
 intro pins s σ H Q I h;rw[evalPart_none];exact BM ⟨none,H,I,.none,h⟩
theorem yR(h:PE X e te):PO X (some e) (tPart te):=by
 intro pins s σ H Q I hw;rw[evalPart_some];refine bD (h pins s σ H _ I hw) λu s1 ⟨x,H1,I1,r1,q1⟩=>?_
 obtain⟨i,rfl,q⟩:=q1;obtain⟨t,rfl⟩:=r1;exact⟨some i,H1,I1,.int i t,q⟩
def yS(X:Cx)(r:V->Option Int->Option Int->Hp->VK->Prop):Prop :=
 ∀(pins:List (Addr×Obj))(s:B1)(σ:St)(H:Hp)(x:V)(v vl vu:Value)(lo hi:Option Int)(sl:Addr)(Q:VK),Inv X pins σ H s->RelV x v->s.heap.IsSliceOf sl vl vu .none->KO vl lo->KO vu hi->r x lo hi H Q ->
  ∃T id,Lv (.type T) "__getitem__" = pure (some (.builtin id))/\s.TypeIs v T/\wpAny (model X.prog X.w) X.A (Jl v (.ref sl)) (EP X pins σ Q) X.xe s
noncomputable def EK(r:V->Option Int->Option Int->Hp->VK->Prop)(te:TE)(tl th:TO):TE:=λσ H Q=>te σ H λx H1=>tl σ H1 λl H2=>th σ H2 λu H3=>r x l u H3 Q
theorem wg{r:V->Option Int->Option Int->Hp->VK->Prop}(hr:yS X r)(he:PE X e te)(hl:PO X lo tl)(hu:PO X hi th):PE X (.Subscript e (.Slice lo hi none p2) pos) (EK r te tl th):=by
 intro pins s σ H Q I h;refine NR (bD (he pins s σ H _ I h) λv s1 ⟨x,H1,I1,r1,q1⟩=>?_)
 refine wpAny_Slice (bD (hl pins s1 σ H1 _ I1 q1) λvl s2 ⟨l,H2,I2,pl,q2⟩=>bD (hu pins s2 σ H2 _ I2 q2) λvu s3 ⟨u,H3,I3,pu,q3⟩=>?_)
 rw[evalPart_none];refine BM ?_;have I4:Inv X pins σ H3 { s3 with heap:=s3.heap.push { cls:=.type "slice",data:=.fields #[vl,vu,.none] } }:=I3.kept (t':=s3.toks) λb ob q=>At _ q
 obtain⟨T,id,hT,ht,hg⟩:=hr pins { s3 with heap:=s3.heap.push { cls:=.type "slice",data:=.fields #[vl,vu,.none] } } σ H3 x v vl vu l u s3.heap.objs.size Q I4 r1 (Heap.IsSliceOf.new ..) pl pu q3
 show wpAny (model X.prog X.w) X.A (MG e (.Slice lo hi none p2) v (.ref s3.heap.objs.size)) (EP X pins σ Q) X.xe { s3 with heap:=s3.heap.push { cls:=.type "slice",data:=.fields #[vl,vu,.none] } }
 exact tail_any (ops:=[.ref s3.heap.objs.size,v]) ht hT hg (by with_unfolding_all rfl)
noncomputable def kL(xs:List V)(lo hi:Option Int):List V:=(xs.drop (HT.cI xs.length 0 lo)).take (HT.cI xs.length xs.length hi-HT.cI xs.length 0 lo)
theorem jS(xs:List V)(lo hi:Option Int):(kL xs lo hi).length<=xs.length:=by
 unfold kL;rw[FH,FP];lia
def rSlT(K:AT):V->Option Int->Option Int->Hp->VK->Prop:=λx lo hi H Q=>∃a xs,x=.ref a/\dR K H a xs /\
 ¬ (HT.cI xs.length 0 lo=0/\HT.cI xs.length xs.length hi=xs.length)/\∀p,H p=none->Q (.ref p) (upd H p (.tup (kL xs lo hi)))
theorem BE:yS X (rSlT X.K):=by
 intro pins s σ H x v vl vu lo hi sl Q I rx hs pl pu h;obtain⟨a,xs,rfl,hx,hw,q⟩:=h;cases rx;obtain⟨its,r,ht,hz⟩:=I.tuple hx;have hlen:its.toArray.size=xs.length:=by rw[Dx]; exact r.length.symm
 refine⟨"tuple",_,Gf.lookup,ht.typeIs,?_⟩;refine HT.iS ht hs pl pu (by rw[hlen]; exact hw) ?_ (by rw[hlen]; exact hz)
 rw[hlen];refine⟨.ref s.heap.objs.size,_,I.laid (t':=s.toks) (o:=.tup (kL xs lo hi)) (λb ob q=>At _ q) (Da _) ?_,rfl,q _ (I.hok.fresh (Da _))⟩
 exact⟨GE (jS xs lo hi) hz,_,(r.drop (HT.cI xs.length 0 lo)).take (HT.cI xs.length xs.length hi-HT.cI xs.length 0 lo),Kf _ _⟩
noncomputable def rLtT(K:AT):R2:=λx y H Q=>∃a b ns ms,x=.ref a/\y=.ref b/\dR K H a (ns.map V.int)/\dR K H b (ms.map V.int)/\Q (.bl (HT.lexLt ns ms)) H
theorem BF(hu:X.A.units<cLine):dN X (Fy .Lt) (rLtT X.K):=by
 intro pins s σ H x y v u Q I rx ry h;obtain⟨a,b,ns,ms,rfl,rfl,ha,hb,q⟩:=h;cases rx;cases ry;obtain⟨its,r1,p1,_⟩:=I.tuple ha;obtain⟨its2,r2,p2,_⟩:=I.tuple hb;have i1:Gr its.toArray.toList ns:=intsAre_of r1;have i2:Gr its2.toArray.toList ms:=intsAre_of r2;exact HT.rz p1 p2 i1 i2 hu ⟨.bl (HT.lexLt ns ms),H,I,rfl,q⟩
noncomputable def rCatT(K:AT):R2:=λx y H Q=>∃a b xs ys,x=.ref a/\y=.ref b/\dR K H a xs/\dR K H b ys/\xs≠[]/\xs.length+ys.length<=E6 /\
 (ys=[]->Q (.ref a) H)/\(ys≠[]->∀p,H p=none->Q (.ref p) (upd H p (.tup (xs++ys))))
theorem Vals.nW{xs:List V}{us:List Value}(r:Vals xs us):us=[]↔xs=[]:=by
 cases r with
 |nil=>simp
 |cons _ _=>simp
theorem yT:dN X (Gp .Add) (rCatT X.K):=by
 intro pins s σ H x y v u Q I rx ry h;obtain⟨a,b,xs,ys,rfl,rfl,ha,hb,hx,hz,q1,q2⟩:=h;cases rx;cases ry;obtain⟨its,r1,p1,_⟩:=I.tuple ha;obtain⟨its2,r2,p2,_⟩:=I.tuple hb;refine HT.yO p1 p2 (λz=>hx (r1.nW.mp z)) (λz=>⟨.ref a,H,I,rfl,q1 (r2.nW.mp z)⟩) (λz=>?_) (by rw[<-r1.length,<-r2.length]; exact hz)
 refine⟨.ref s.heap.objs.size,_,I.laid (t':=s.toks) (o:=.tup (xs++ys)) (λb ob q=>At _ q) (Da _) ?_,rfl,q2 (λw=>z (r2.nW.mpr w)) _ (I.hok.fresh (Da _))⟩
 exact⟨by rw[Bz]; exact hz,_,r1.append r2,Kf _ _⟩
end
end L2
namespace L2
open PySem PySem.Spec PyProof.Rows
noncomputable def vz(n:Nat)(i:Int):Option Nat:=if 0<=i then (if i<n then some i.toNat else none) else if -(n:Int)<=i then some (i+n).toNat else none
noncomputable def mV{α:Type}(xs:List α)(i:Int):Option α:=(vz xs.length i).bind λj=>xs[j]?
theorem sM{n:Nat}{i:Int}{j:Nat}(h:vz n i=some j):seqIndex? i n=some j/\j<n/\-(n:Int)<=i/\i<n:=by
 unfold vz at h
 by_cases h0:0<=i
 ·rw[if_pos h0] at h
  by_cases h1:i<n
  ·rw[if_pos h1] at h
   have e:i.toNat=j:=FX h;exact⟨by rw[Mq h0 h1,e],by lia,by lia,h1⟩
  ·rw[if_neg h1] at h; cases h
 ·rw[if_neg h0] at h
  by_cases h1 : -(n:Int)<=i
  ·rw[if_pos h1] at h
   have e:(i+n).toNat=j:=FX h;exact⟨by rw[seqIndex_neg (by lia) h1,e],by lia,h1,by lia⟩
  ·rw[if_neg h1] at h; cases h
theorem gR{α:Type}{xs:List α}{i:Int}{v:α}(h:mV xs i=some v):∃j,seqIndex? i xs.length=some j/\xs[j]? = some v/\j<xs.length/\-(xs.length:Int)<=i/\i<xs.length:=by
 unfold mV at h;cases e:vz xs.length i with
 |none=>rw[e] at h; cases h
 |some j=>
  rw[e] at h;obtain⟨h1,h2,h3,h4⟩:=sM e;exact⟨j,h1,h,h2,h3,h4⟩
theorem sN{α:Type}{xs:List α}{j:Nat}{v:α}(h:xs[j]? = some v):mV xs (j:Int)=some v:=by
 have hj:j<xs.length:=(EY.mp h).1;have e:vz xs.length (j:Int)=some j:=by
  unfold vz;rw[if_pos (by lia),if_pos (by lia)]; simp
 unfold mV; rw[e]; exact h
def nX(b:Expr):Prop:=∀o i,LZ b false o i=operate [o,i] (Jl o i)
def yU(X:Cx)(r:R2):Prop :=
 ∀(value slice:Expr)(pins:List (Addr×Obj))(s:B1)(σ:St)(H:Hp)(x y:V)(v u:Value)(Q:VK),Inv X pins σ H s->RelV x v->RelV y u->r x y H Q ->
  LZ slice false v u=operate [v,u] (Jl v u)->wpAny (model X.prog X.w) X.A (MG value slice v u) (EP X pins σ Q) X.xe s
def EL(X:Cx)(id:String)(r:V->List V->Hp->VK->Prop):Prop :=
 ∀(pins:List (Addr×Obj))(s:B1)(σ:St)(H:Hp)(x:V)(xs:List V)(v:Value)(us:List Value)(Q:VK),Inv X pins σ H s->RelV x v->Vals xs us->r x xs H Q ->
  wpAny (model X.prog X.w) X.A (call (.builtin id) (v::us)) (EP X pins σ Q) X.xe s
section
variable{X:Cx}{a b:Expr}{ta tb:TE}{pos:Pos}
theorem yU.or{r r':R2}(h:yU X r)(h':yU X r'):yU X (λx y H Q=>r x y H Q\/r' x y H Q):=by
 intro value slice pins s σ H x y v u Q I rx ry q hs;rcases q with q | q
 ·exact h value slice pins s σ H x y v u Q I rx ry q hs
 ·exact h' value slice pins s σ H x y v u Q I rx ry q hs
theorem pe_ix{r:R2}(hr:yU X r)(ha:PE X a ta)(hb:PE X b tb)(hs:nX b):PE X (.Subscript a b pos) (AL r ta tb):=by
 intro pins s σ H Q I h;exact NR (binT ha hb I h λv u s2 x y H2 I2 rx ry q=>hr a b pins s2 σ H2 x y v u Q I2 rx ry q (hs _ _))
noncomputable def rIxL(K:AT):R2:=λx y H Q=>∃p xs i v,x=.ref p/\y=.int i/\gg K H p xs/\mV xs i=some v/\Q v H
noncomputable def rIxT(K:AT):R2:=λx y H Q=>∃p xs i v,x=.ref p/\y=.int i/\dR K H p xs/\mV xs i=some v/\Q v H
noncomputable def rIxS:R2:=λx y H Q=>∃z i c,x=.str z/\y=.int i/\z.length<=E6/\mV z.cps.toList i=some c/\Q (.str ⟨#[c]⟩) H
theorem yV:yU X (rIxL X.K):=by
 intro value slice pins s σ H x y v u Q I rx ry h hs;obtain⟨p,xs,i,z,rfl,rfl,hq,he,q⟩:=h;cases rx;obtain⟨t,rfl⟩:=ry;obtain⟨its,r,pl,hz⟩:=I.list hq;obtain⟨j,h1,h2,h3,h4,h5⟩:=gR he;obtain⟨w,ew,rw'⟩:=r.get h2;have hl:=r.length;have hn:=iE;have fin:EP X pins σ Q w s:=⟨z,H,I,rw',q⟩
 by_cases h0:0<=i
 ·have hj:i.toNat=j:=by
   rw[Mq h0 h5] at h1;exact FX h1
  exact item_listR pl.isList h0 (by lia) (by rw[hj]; simpa using ew) fin hs
 ·have hj:(i+(its.toArray.size:Int)).toNat=j:=by
   rw[seqIndex_neg (by lia) h4] at h1
   rw[Dx,<-hl];exact FX h1
  exact Mb (x:=w) pl.isList.typeIs slot_list_getitem.lookup
   (wpAny_getItem_list_neg (Q:=λr s'=>r=w/\EP X pins σ Q r s') pl.isList (by lia) (by rw[Dx] <;> lia) (by lia) (by rw[hj]; simpa using ew) ⟨rfl,fin⟩) hs
theorem BG:yU X (rIxT X.K):=by
 intro value slice pins s σ H x y v u Q I rx ry h hs;obtain⟨p,xs,i,z,rfl,rfl,hq,he,q⟩:=h;cases rx;obtain⟨t,rfl⟩:=ry;obtain⟨its,r,pl,hz⟩:=I.tuple hq;obtain⟨j,h1,h2,h3,h4,h5⟩:=gR he;obtain⟨w,ew,rw'⟩:=r.get h2;have hl:=r.length;have hn:=iE;have fin:EP X pins σ Q w s:=⟨z,H,I,rw',q⟩;exact Mb (x:=w) pl.typeIs Gf.lookup
  (getItem_tuple (j:=j) (Q:=λr s'=>r=w/\EP X pins σ Q r s') pl (by lia) (by lia) (by rw[Dx,<-hl]; exact h1) (by simpa using ew) ⟨rfl,fin⟩) hs
theorem BH:yU X rIxS:=by
 intro value slice pins s σ H x y v u Q I rx ry h hs;obtain⟨z,i,c,rfl,rfl,hz,he,q⟩:=h;obtain⟨t,rfl⟩:=rx;obtain⟨t',rfl⟩:=ry;obtain⟨j,h1,h2,h3,h4,h5⟩:=gR he;have hl:z.cps.toList.length=z.length:=by simp[Str.length]
 rw[hl] at h1 h4 h5;have hn:=iE;exact tail_any (typeIs_str s z t) slot_str_getitem.lookup (getItem_str (c:=c) (by
  have e1:decide (i < -(2 ^ 63:Int))=false:=decide_eq_false (by lia)
  have e2:decide (i>=2 ^ 63)=false:=decide_eq_false (by lia)
  rw[e1,e2,Bool.or_false]) (by rw[h1]; simpa using h2) ⟨.str ⟨#[c]⟩,H,I.tok _,⟨_,rfl⟩,q⟩) hs
noncomputable def Ei(K:AT):R2:=λx y H Q=>rIxL K x y H Q\/rIxT K x y H Q\/rIxS x y H Q
theorem BI:yU X (Ei X.K):=yV.or (BG.or BH)
theorem rC(its:List Value)(n j:Nat)(u:Value):GK (·.setIfInBounds j u) { cls:=.type "list",data:=.seq its.toArray n }={ cls:=.type "list",data:=.seq (its.set j u).toArray n }:=by
 simp[GK]
theorem Inv.lst{pins:List (Addr×Obj)}{σ:St}{H:Hp}{s:B1}{p:Addr}{xs:List V}(I:Inv X pins σ H s)(h:H p=some (.lst xs)) :
  ∃ (its:List Value) (n:Nat),Vals xs its/\s.heap.get? p=some { cls:=.type "list",data:=.seq its.toArray n }/\xs.length<=E6:=by
 obtain⟨z,its,n,r,e⟩:=I.hok p _ h;exact⟨its,n,r,e,z⟩
theorem Inv.BJ{pins:List (Addr×Obj)}{σ:St}{H:Hp}{s:B1}{p:Addr}{xs ys:List V}{its its':List Value}{n n':Nat}{f:Obj->Obj}(I:Inv X pins σ H s)(h:H p=some (.lst xs))
  (ho:s.heap.get? p=some { cls:=.type "list",data:=.seq its.toArray n }) (hf:f { cls:=.type "list",data:=.seq its.toArray n }={ cls:=.type "list",data:=.seq its'.toArray n' }) (r:Vals ys its') (hz:ys.length<=E6) (t:Nat) :
  Inv X pins σ (upd H p (.lst ys)) { s with heap:=s.heap.update p f,toks:=t }:=by
 have e:(s.heap.update p f).get? p=some { cls:=.type "list",data:=.seq its'.toArray n' }:=by
  rw[Hx f ho (by rw[hf] <;> rfl),hf]
 refine I.write (x:=p) (e:=p) (by rw[h]; trivial) (.inl rfl) (λb u hb q=>(GD _ _ (HZ hb)).trans q) ⟨_,e⟩ ?_
 exact⟨hz,its',n',r,e⟩
def p6:V->V->V->Hp->(Hp->Prop)->Prop:=λo i v H Q=>∃p xs k j,o=.ref p/\i=.int k/\H p=some (.lst xs)/\vz xs.length k=some j/\Q (upd H p (.lst (xs.set j v)))
theorem set_list:PSet X p6:=by
 intro pins s σ H o i v ov iv u Q I ro ri rv h;obtain⟨p,xs,k,j,rfl,rfl,hp,hj,q⟩:=h;cases ro;obtain⟨t,rfl⟩:=ri;obtain⟨its,n,r,ho,hz⟩:=I.lst hp;obtain⟨h1,h2,h3,h4⟩:=sM hj;have hl:=r.length;have hn:=iE;have I':Inv X pins σ (upd H p (.lst (xs.set j v))) { s with heap:=s.heap.update p (GK (·.setIfInBounds j u)) } :=
  I.BJ hp ho (rC its n j u) (r.set rv j) (by rw[N3]; exact hz) s.toks
 by_cases h0:0<=k
 ·have hk:k.toNat=j:=by
   rw[Mq h0 h4] at h1;exact FX h1
  exact PySem.W.ki_setAt ho h0 (by lia) (by rw[Dx,<-hl]; exact h4) (by rw[hk]; exact⟨_,I',q⟩)
 ·have hk:(k+(its.toArray.size:Int)).toNat=j:=by
   rw[seqIndex_neg (by lia) h3] at h1
   rw[Dx,<-hl];exact FX h1
  exact PySem.W.ki_setBack ho (by lia) (by rw[Dx,<-hl]; exact h3) (by lia) (by rw[hk]; exact⟨_,I',q⟩)
theorem nY(lo hi:Option Int)(n:Nat):(JB lo hi none n).1=((HT.cI n 0 lo:Nat):Int)/\(JB lo hi none n).2.1=((HT.cI n n hi:Nat):Int)/\(JB lo hi none n).2.2=1:=by
 refine⟨?_,?_,rfl⟩
 ·cases lo with
  |none=>simp[JB,HT.cI]
  |some i=>
   simp only[JB,HT.cI,MR,show (1:Int)>0 by decide,if_true]
   by_cases h:i<0
   ·simp only[h,if_true] <;> lia
   ·simp only[h,if_false] <;> lia
 ·cases hi with
  |none=>simp[JB,HT.cI]
  |some i=>
   simp only[JB,HT.cI,MR,show (1:Int)>0 by decide,if_true]
   by_cases h:i<0
   ·simp only[h,if_true] <;> lia
   ·simp only[h,if_false] <;> lia
theorem l0(its:List Value)(lo hi:Option Int):slicePick its.toArray lo hi none=((its.drop (HT.cI its.length 0 lo)).take (HT.cI its.length its.length hi-HT.cI its.length 0 lo)).toArray:=by
 obtain⟨h1,h2,h3⟩:=nY lo hi its.toArray.size;unfold slicePick;rw[h1,h2,h3];simp only[sliceRange_one,pick_run,Dx] <;> rfl
def rSlL(K:AT):V->Option Int->Option Int->Hp->VK->Prop:=λx lo hi H Q=>∃a xs,x=.ref a/\gg K H a xs/\∀p,H p=none->Q (.ref p) (upd H p (.lst (kL xs lo hi)))
theorem yW:yS X (rSlL X.K):=by
 intro pins s σ H x v vl vu lo hi sl Q I rx hs pl pu h;obtain⟨a,xs,rfl,hx,q⟩:=h;cases rx;obtain⟨its,r,ht,hz⟩:=I.list hx;have hlen:=r.length;refine⟨"list",_,slot_list_getitem.lookup,ht.isList.typeIs,?_⟩;refine wpAny_getItem_list_slice ht.isList hs pl pu .none (by simp) ?_ (by rw[Dx] <;> lia)
 rw[l0,<-hlen];refine⟨.ref s.heap.objs.size,_,I.laid (t':=s.toks) (o:=.lst (kL xs lo hi)) (λb ob q=>At _ q) (Da _) ?_,rfl,q _ (I.hok.fresh (Da _))⟩
 exact⟨GE (jS xs lo hi) hz,_,0,(r.drop (HT.cI xs.length 0 lo)).take (HT.cI xs.length xs.length hi-HT.cI xs.length 0 lo),Db _ rfl⟩
theorem nZ:bf X (.builtin "len") (λxs H Q=>∃p ys,xs=[.ref p]/\(gg X.K H p ys\/dR X.K H p ys)/\Q (.int ys.length) H):=by
 intro pins s σ H xs us Q I r h;obtain⟨p,ys,rfl,hq,q⟩:=h;obtain⟨u,rfl,rx⟩:=vals1 r;cases rx;have hn:=iE;rcases hq with hq | hq
 ·obtain⟨its,r',pl,hz⟩:=I.list hq
  have hlen:=r'.length;exact Calls.call_len_list pl.isList (by simp only[Dx] <;> lia) ⟨.int ys.length,H,I.tok _,⟨s.toks+1,by rw[Dx,hlen]⟩,q⟩
 ·obtain⟨its,r',pl,hz⟩:=I.tuple hq
  have hlen:=r'.length;exact len_tuple pl (by simp only[Dx] <;> lia) ⟨.int ys.length,H,I.tok _,⟨s.toks+1,by rw[Dx,hlen]⟩,q⟩
theorem n8:bf X (.builtin "len") (λxs H Q=>∃z,xs=[.str z]/\z.length<=E6/\Q (.int z.length) H):=by
 intro pins s σ H xs us Q I r h;obtain⟨z,rfl,hz,q⟩:=h;obtain⟨u,rfl,t,rfl⟩:=vals1 r;have hn:=iE;exact len_str (by lia) ⟨.int z.length,H,I.tok _,⟨_,rfl⟩,q⟩
theorem mh:bf X (.type "tuple") (λxs H Q=>∃p ys,xs=[.ref p]/\((gg X.K H p ys/\∀l,H l=none->Q (.ref l) (upd H l (.tup ys)))\/(dR X.K H p ys/\Q (.ref p) H))):=by
 intro pins s σ H xs us Q I r h;obtain⟨p,ys,rfl,h⟩:=h;obtain⟨u,rfl,rx⟩:=vals1 r;cases rx;rcases h with⟨hq,q⟩ | ⟨hq,q⟩
 ·obtain⟨its,r',pl,hz⟩:=I.list hq
  have hlen:=r'.length;refine call_tuple_list pl.isList (λh' kp=>?_) (by simp only[Dx] <;> lia)
  have I1:Inv X pins σ H { s with heap:=h' }:=I.kept (t':=s.toks) kp
  have I2:Inv X pins σ (upd H h'.objs.size (.tup ys)) { s with heap:=h'.push { cls:=.type "tuple",data:=.seq its.toArray } } :=
   I1.laid (t':=s.toks) (λb o e=>At _ e) (Da _) (show cS X.prog X.w _ _ _ (.tup ys) from⟨hz,its,r',Kf _ _⟩)
  exact⟨.ref h'.objs.size,_,I2,rfl,q _ (I1.hok.fresh (Da _))⟩
 ·obtain⟨its,r',pl,hz⟩:=I.tuple hq
  exact call_tuple_same pl ⟨.ref p,H,I,rfl,q⟩
def Ej(K:AT)(T:String)(x:V)(H:Hp):Prop:=match x with
 |.str _=>T = "str"
 |.int _=>T = "int"
 |.ref p=>(T = "list"/\∃xs,gg K H p xs)\/(T = "tuple"/\∃o,K.lookup p=some o/\o.cls=.type "tuple"/\o.dict=none) \/
  (T = "dict"/\((∃kvs,H p=some (.dK kvs))\/∃kvs,H p=some (.dT kvs)))\/(T = "set"/\∃S n,H p=some (.set S n))
 |_=>False
theorem BK{pins:List (Addr×Obj)}{σ:St}{H:Hp}{s:B1}{T:String}{x:V}{v:Value}(I:Inv X pins σ H s)(r:RelV x v)(ty:Ej X.K T x H) :
  s.TypeIs v T/\∀a,v=.ref a->∃ob,s.heap.get? a=some ob/\ob.dict=none:=by
 cases x with
 |str z=>
  obtain⟨t,rfl⟩:=r;cases (show T = "str" from ty)
  exact⟨typeIs_str s z t,λ_ e=>nomatch e⟩
 |int i=>
  obtain⟨t,rfl⟩:=r;cases (show T = "int" from ty)
  exact⟨typeIs_int s i t,λ_ e=>nomatch e⟩
 |ref p=>
  cases r;rcases ty with⟨rfl,xs,hq⟩ | ⟨rfl,o,hk,hc,hd⟩ | ⟨rfl,hk⟩ | ⟨rfl,S,n,hk⟩
  ·obtain⟨its,_,pl,_⟩:=I.list hq
   refine⟨pl.isList.typeIs,λa e=>?_⟩
   cases e;obtain⟨o,n,e,c,hd,_⟩:=pl;exact⟨o,e,hd⟩
  ·refine⟨⟨o,I.C6 p o hk,hc⟩,λa e=>?_⟩
   cases e;exact⟨o,I.C6 _ o hk,hd⟩
  ·have z:∃o,s.heap.get? p=some o/\o.ExactDict:=by
    rcases hk with⟨kvs,hk⟩ | ⟨kvs,hk⟩
    ·obtain⟨_,_,_,_,o,_,_,e,ex,_⟩:=I.hok p _ hk
     exact⟨o,e,ex⟩
    ·obtain⟨_,_,_,_,o,_,_,e,ex,_⟩:=I.hok p _ hk
     exact⟨o,e,ex⟩
   obtain⟨o,e,ex⟩:=z;refine⟨⟨o,e,ex.1⟩,λa e2=>?_⟩
   cases e2;exact⟨o,e,ex.2.1⟩
  ·obtain⟨o,_,_,_,e,ex,_⟩:=I.hok p _ hk
   refine⟨⟨o,e,ex.1⟩,λa e2=>?_⟩
   cases e2;exact⟨o,e,ex.2.1⟩
 |_=>exact Hz ty
noncomputable def AN(K:AT)(T:String)(r:V->List V->Hp->VK->Prop)(to:TE)(t:TA):TE:=λσ H Q=>to σ H λx H1=>Ej K T x H1/\t σ H1 λxs H2=>r x xs H2 Q
variable{o e:Expr}{es:List Expr}{to:TE}{t:TA}{name:Str}{apos cpos:Pos}{T id:String}{r:V->List V->Hp->VK->Prop}
theorem sO(pa:PlainAttrs T)(slot:Slot T name id)(hty:typeOf (.builtin id)=pure (.type "method_descriptor"))(hm:EL X id r)(ho:PE X o to)(ha:PA X (e::es) t)
  (hbase:MC o name X.env (eval o X.env)=eval o X.env:=by rfl)
  (hfew:((Ij cpos (E5 (e::es) X.env)).all (λx=> !x.1) && (backToKw cpos (keywordEach [] X.env)).all (λx=>x.1.isSome)
   && decide ((e::es).length+([]:List Keyword).length+(if ([]:List Keyword).isEmpty then 0 else 1)<30))=true:=by rfl)
  (hline:(apos.endLine == cpos.line)=true:=by rfl) (hs:E5 (e::es) X.env=(false,eval e X.env)::E5 es X.env:=by rfl) (hplain:(Ij cpos (E5 es X.env)).any (·.1)=false:=by rfl) :
  PE X (.Call (.Attribute o name apos) (e::es) [] cpos) (AN X.K T r to t):=by
 intro pins s σ H Q I h;refine wpAny_Call_method_late hbase hfew hline rfl (bD (ho pins s σ H _ I h) λv s1 ⟨x,H1,I1,r1,ty,q1⟩=>?_)
 obtain⟨h1,h2⟩:=BK I1 r1 ty;refine⟨T,id,pa,slot,hty,h1,h2,?_⟩;have hA:=ha cpos pins s1 σ H1 _ I1 q1;rw[hs] at hA ⊢;refine Lk (by show (false || (Ij cpos (E5 es X.env)).any (·.1))=false; rw[hplain] <;> rfl) (Calls.evalArgs_plain ?_)
 exact bD hA λus s2 ⟨vs,H2,I2,r2,q2⟩=>hm pins s2 σ H2 x vs v us Q I2 r1 r2 q2
end
end L2
namespace L2
open PySem PySem.Spec PyProof.Rows
def DT(X:Cx)(id:String)(r:V->List V->Hp->VK->Prop):Prop :=
 ∀(pins:List (Addr×Obj))(s:B1)(σ:St)(H:Hp)(x:V)(xs:List V)(v:Value)(us:List Value)(Q:VK),Inv X pins σ H s->RelV x v->Vals xs us->r x xs H Q ->
  wpAny (model X.prog X.w) X.A (call (.builtin id) (v::us)) (EP X pins σ Q) X.xe s
theorem Vals.one:∀{x:V}{us:List Value},Vals [x] us->∃u,us=[u]/\RelV x u:=by
 intro x us h;cases h with | cons r t=>
 cases t;exact⟨_,rfl,r⟩
theorem Vals.two:∀{x y:V}{us:List Value},Vals [x,y] us->∃u v,us=[u,v]/\RelV x u/\RelV y v:=by
 intro x y us h;cases h with | cons r t=>
 obtain⟨v,rfl,q⟩:=Vals.one t;exact⟨_,_,rfl,r,q⟩
section
variable{X:Cx}{pins:List (Addr×Obj)}{σ:St}{H:Hp}{s:B1}{l b:Addr}{xs ys zs:List V}
theorem Inv.lset{its its':List Value}{n:Nat}{f:Array Value->Array Value}{t':Nat}(I:Inv X pins σ H s)(hH:H l=some (.lst xs))
  (e:s.heap.get? l=some { cls:=.type "list",data:=.seq its.toArray n }) (hf:f its.toArray=its'.toArray) (hv:Vals ys its') (hz:ys.length<=E6) :
  Inv X pins σ (upd H l (.lst ys)) { s with heap:=s.heap.update l (GK f),toks:=t' }:=by
 have q:=PySem.IsL.update e f;rw[hf] at q;refine I.write (x:=l) (e:=l) (by rw[hH]; exact trivial) (.inl rfl) (λb' u hb hu=>(GD s.heap (GK f) (HZ hb)).trans hu) ⟨_,q⟩ ?_
 exact⟨hz,its',_,hv,q⟩
theorem Inv.wj{its:List Value}{t':Nat}(I:Inv X pins σ H s)(hv:Vals ys its)(hz:ys.length<=E6) :
  Inv X pins σ (upd H s.heap.objs.size (.lst ys)) { s with heap:=s.heap.push { cls:=.type "list",data:=.seq its.toArray },toks:=t' } :=
 I.laid (λ_ _ q=>At _ q) (Da _) ⟨hz,its,0,hv,Db _ rfl⟩
theorem Inv.fresh(I:Inv X pins σ H s):H s.heap.objs.size=none:=I.hok.fresh (Da _)
theorem Inv.ux(I:Inv X pins σ H s)(hH:H l=some (.lst xs)):xs.length<=E6/\∃ (its:List Value) (n:Nat),Vals xs its/\xs.length=its.length/\s.heap.get? l=some { cls:=.type "list",data:=.seq its.toArray n }:=by
 obtain⟨z,its,n,r,e⟩:=I.hok l _ hH;exact⟨z,its,n,r,r.length,e⟩
theorem wk{n:Nat}(h:n<=E6):J0 n=false:=by
 unfold J0;exact decide_eq_false (by lia)
end
section
variable{X:Cx}
def ki:V->List V->Hp->VK->Prop:=λx vs H Q=>∃l xs y,x=.ref l/\vs=[y]/\H l=some (.lst xs)/\xs.length<E6/\Q .non (upd H l (.lst (xs++[y])))
theorem jx:DT X "list.append" ki:=by
 intro pins s σ H x vs v us Q I rx rv h;obtain⟨l,xs,y,rfl,rfl,hH,hz,q⟩:=h;cases rx;obtain⟨u,rfl,ru⟩:=rv.one;obtain⟨z,its,n,r,hl,e⟩:=I.ux hH;refine Lz M2 ⟨_,e,rfl⟩ F.entry_list_append (F.args_list_append_2 _ _) (PySem.list_append l its.toArray n u (by rw[Dx]; lia)) ⟨e,?_⟩
 refine⟨.non,_,I.lset (its':=its++[u]) hH e (by simp) (r.append (.cons ru .nil)) ?_,rfl,q⟩
 rw[Bz,Ft];lia
def n9:V->List V->Hp->VK->Prop:=λx vs H Q=>∃l b xs zs,x=.ref l/\vs=[.ref b]/\H l=some (.lst xs)/\H b=some (.lst zs)/\xs.length+zs.length<=E6/\Q .non (upd H l (.lst (xs++zs)))
theorem mW:DT X "list.extend" n9:=by
 intro pins s σ H x vs v us Q I rx rv h;obtain⟨l,b,xs,zs,rfl,rfl,hH,hB,hz,q⟩:=h;cases rx;obtain⟨u,rfl,ru⟩:=rv.one;cases ru;obtain⟨z,its,n,r,hl,e⟩:=I.ux hH;obtain⟨z2,its2,n2,r2,hl2,e2⟩:=I.ux hB;have hsz:its.toArray.size+its2.toArray.size<=E6:=by rw[Dx,Dx]; lia
 have hlong:¬ (!its.toArray.isEmpty && J0 (its.toArray.size+its2.toArray.size))=true:=by
  rw[wk hsz,Bool.and_false];exact GI
 refine Lz Jh ⟨_,e,rfl⟩ F.entry_list_extend (F.args_list_extend_2 _ _)
  (AutoSeq1.list_extend_list_list_0 l its.toArray n b its2.toArray n2 hlong (by rw[Dx]; lia) (by lia)) ⟨e,e2,?_⟩
 refine⟨.non,_,I.lset (its':=its++its2) hH e (by simp) (r.append r2) ?_,rfl,q⟩
 rw[Bz];lia
noncomputable def rCat:R2:=λx y H Q=>∃l b xs zs,x=.ref l/\y=.ref b/\H l=some (.lst xs)/\H b=some (.lst zs)/\xs.length+zs.length<=E6/\∀p,H p=none->Q (.ref p) (upd H p (.lst (xs++zs)))
theorem BL:dN X (Gp .Add) rCat:=by
 intro pins s σ H x y v u Q I rx ry h;obtain⟨l,b,xs,zs,rfl,rfl,hH,hB,hz,q⟩:=h;cases rx;cases ry;obtain⟨z,its,n,r,hl,e⟩:=I.ux hH;obtain⟨z2,its2,n2,r2,hl2,e2⟩:=I.ux hB;refine PySem.P.add_list e e2 ?_ (by rw[Dx,Dx]; lia)
 have ea:its.toArray++its2.toArray=(its++its2).toArray:=by simp
 rw[ea];exact⟨.ref _,_,I.wj (t':=s.toks) (r.append r2) (by rw[Bz]; lia),rfl,q _ I.fresh⟩
end
end L2
namespace L2
open PySem PySem.Spec PyProof.Rows
section
variable{κ:Type}[DecidableEq κ]
noncomputable def gh(kvs:List (κ×V))(k:κ):Option V:=(kvs.find? λkv=>decide (kv.1=k)).map (·.2)
noncomputable def putK(kvs:List (κ×V))(k:κ)(v:V):List (κ×V) :=
 if (kvs.any λkv=>decide (kv.1=k))=true then kvs.map (λkv=>if kv.1=k then (kv.1,v) else kv) else kvs++[(k,v)]
theorem gx{p:κ×V}{r:List (κ×V)}{k:κ}(e:p.1=k):gh (p::r) k=some p.2:=by simp[gh,Gm,e]
theorem gy{p:κ×V}{r:List (κ×V)}{k:κ}(e:¬p.1=k):gh (p::r) k=gh r k:=by simp[gh,Gm,e]
theorem p7(k:κ):∀kvs:List (κ×V),(kvs.any λkv=>decide (kv.1=k))=(gh kvs k).isSome
 |[]=>rfl
 |p::r=>by
  rw[Ha]
  by_cases e:p.1=k
  ·simp only[gx e,decide_eq_true e,Bool.true_or,Option.isSome_some]
  ·rw[gy e,decide_eq_false e,Bool.false_or]; exact p7 k r
theorem gz(kvs:List (κ×V))(k:κ)(v:V):(putK kvs k v).length<=kvs.length+1:=by
 unfold putK
 split
 ·rw[B2]; lia
 ·rw[Bz,D1,FC]; lia
theorem lW.fC{o:Option V}{u:Option Value}(r:lW o u):o.isSome=u.isSome:=by
 cases o with
 |none=>cases u with
  |none=>rfl
  |some _=>exact(show False from r).elim
 |some _=>cases u with
  |none=>exact(show False from r).elim
  |some _=>rfl
theorem KV.val{kvs:List (κ×V)}{vs:List (κ×Value)}(r:KV kvs vs)(k:κ):lW (gh kvs k) (Ku vs k):=by
 unfold KV at r
 induction r with
 |nil=>exact IM
 |@cons p q ps qs h t ih=>
  obtain⟨h1,h2⟩:=h
  by_cases e:p.1=k
  ·have e':q.1=k:=h1.symm.trans e
   have b:Ku (q::qs) k=some q.2:=by simp[Ku,Gm,e']
   rw[gx e,b]; exact h2
  ·have e':¬q.1=k:=λz=>e (h1.trans z)
   have b:Ku (q::qs) k=Ku qs k:=by simp[Ku,Gm,e']
   rw[gy e,b]; exact ih
theorem KV.any{kvs:List (κ×V)}{vs:List (κ×Value)}(r:KV kvs vs)(k:κ):(kvs.any λkv=>decide (kv.1=k))=vs.any λkv=>decide (kv.1=k):=by
 unfold KV at r
 induction r with
 |nil=>rfl
 |cons h t ih=>rw[Ha,Ha,ih,h.1]
theorem KV.repl{kvs:List (κ×V)}{vs:List (κ×Value)}(r:KV kvs vs)(k:κ){y:V}{u:Value}(ry:RelV y u) :
  KV (kvs.map λkv=>if kv.1=k then (kv.1,y) else kv) (vs.map λkv=>if kv.1=k then (kv.1,u) else kv):=by
 unfold KV at r ⊢
 induction r with
 |nil=>exact .nil
 |@cons p q ps qs h t ih=>
  rw[FN,FN];refine .cons ?_ ih;obtain⟨h1,h2⟩:=h
  by_cases e:p.1=k
  ·rw[if_pos e,if_pos (h1.symm.trans e)]; exact⟨h1,ry⟩
  ·rw[if_neg e,if_neg (λz=>e (h1.trans z))]; exact⟨h1,h2⟩
theorem KV.put{kvs:List (κ×V)}{vs:List (κ×Value)}(r:KV kvs vs)(k:κ){y:V}{u:Value}(ry:RelV y u):KV (putK kvs k y) (MV vs k u):=by
 unfold putK MV;rw[r.any k]
 by_cases e:(vs.any λkv=>decide (kv.1=k))=true
 ·rw[if_pos e,if_pos e]; exact r.repl k ry
 ·rw[if_neg e,if_neg e]; exact NM r ⟨rfl,ry⟩
theorem KV.length{kvs:List (κ×V)}{vs:List (κ×Value)}(r:KV kvs vs):kvs.length=vs.length:=ID r
end
theorem mX{P:FB}{w:World}{k:Key}{u:Value}(r:RelV (kV k) u):(aI P w).is k u=true:=by
 cases k with
 |inl i=>obtain⟨t,e⟩:=(show ∃t,u=La i t from r); subst e; exact pP P w i t
 |inr x=>obtain⟨t,e⟩:=(show ∃t,u=MY x t from r); subst e; exact pQ P w x t
theorem mY{P:FB}{w:World}:∀{ks:List Key}{us:List Value},Vals (ks.map kV) us->ItemsAre (aI P w) ks us
 |[],_,r=>by rw[J8] at r; cases r; exact .nil
 |k::ks,_,r=>by
  rw[FN] at r;cases r with
  |cons h t=>exact .cons (mX h) (mY t)
abbrev KT(H:Hp):List (List Key×V)->List (List Key×Addr×Value)->Prop:=HL λp q=>p.1=q.1/\H q.2.1=some (.tup (p.1.map kV))/\RelV p.2 q.2.2
theorem KT.val{H:Hp}{kvs:List (List Key×V)}{xs:List (List Key×Addr×Value)}(r:KT H kvs xs)(k:List Key):lW (gh kvs k) ((atKey xs k).map (·.2)):=by
 induction r with
 |nil=>exact IM
 |@cons p q ps qs h t ih=>
  obtain⟨h1,_,h2⟩:=h
  by_cases e:p.1=k
  ·have e':q.1=k:=h1.symm.trans e
   have b:atKey (q::qs) k=some q.2:=by simp[atKey,Gm,e']
   rw[gx e,b]; exact h2
  ·have e':¬q.1=k:=λz=>e (h1.trans z)
   have b:atKey (q::qs) k=atKey qs k:=by simp[atKey,Gm,e']
   rw[gy e,b]; exact ih
theorem KT.repl{H:Hp}{kvs:List (List Key×V)}{xs:List (List Key×Addr×Value)}(r:KT H kvs xs)(k:List Key){y:V}{u:Value}(ry:RelV y u) :
  KT H (kvs.map λkv=>if kv.1=k then (kv.1,y) else kv) (xs.map (putAt k u)):=by
 induction r with
 |nil=>exact .nil
 |@cons p q ps qs h t ih=>
  rw[FN,FN];refine .cons ?_ ih;obtain⟨h1,h2,h3⟩:=h;unfold putAt
  by_cases e:p.1=k
  ·rw[if_pos e,if_pos (h1.symm.trans e)]; exact⟨h1,h2,ry⟩
  ·rw[if_neg e,if_neg (λz=>e (h1.trans z))]; exact⟨h1,h2,h3⟩
theorem KT.put{H:Hp}{kvs:List (List Key×V)}{xs:List (List Key×Addr×Value)}(r:KT H kvs xs)(k:List Key){b:Addr}{y:V}{u:Value}(hb:H b=some (.tup (k.map kV)))(ry:RelV y u) :
  KT H (putK kvs k y) (storedH xs k b u):=by
 have e:(kvs.any λkv=>decide (kv.1=k))=(atKey xs k).isSome:=by
  rw[p7,(r.val k).fC,KD]
 unfold putK storedH;rw[e]
 by_cases q:(atKey xs k).isSome=true
 ·rw[if_pos q,if_pos q]; exact r.repl k ry
 ·rw[if_neg q,if_neg q]; exact NM r ⟨rfl,hb,ry⟩
theorem KT.keeps{H H':Hp}{kvs:List (List Key×V)}{xs:List (List Key×Addr×Value)}(r:KT H kvs xs)(ht:∀b ys,H b=some (.tup ys)->H' b=some (.tup ys)):KT H' kvs xs :=
 HL.mapP r λ_ _ z=>⟨z.1,ht _ _ z.2.1,z.2.2⟩
section
variable{P:FB}{w:World}{H:Hp}{h:Heap}{a:Addr}
theorem AO{u:HO}(ok:iQ P w H h)(e:Rd H a u):cS P w H h a u:=e.ok ok
theorem kM{kvs:List (Key×V)}(ok:iQ P w H h)(e:Rd H a (.dK kvs)):kvs.length<=E6/\(a == HQ)=false/\∃vs,KV kvs vs/\h.DictOf (aI P w) a vs :=
 show cS P w H h a (.dK kvs) from AO ok e
theorem AQ{kvs:List (Key×V)}(ok:iQ P w H h)(e:H a=some (.dK kvs)):kvs.length<=E6/\(a == HQ)=false/\∃vs,KV kvs vs/\h.DictOf (aI P w) a vs:=kM ok (.inl e)
theorem kN{ks:List Key}(ok:iQ P w H h)(e:H a=some (.tup (ks.map kV))):(LQ (aI P w)).is h ks a:=by
 obtain⟨_,its,r,o,h1,h2,n,h3⟩:=(show cS P w H h a (.tup (ks.map kV)) from ok a _ e)
 exact⟨o,its.toArray,n,h1,h2,h3,by simpa using mY r⟩
theorem mZ{kvs:List (List Key×V)}(ok:iQ P w H h)(e:Rd H a (.dT kvs)):kvs.length<=E6/\(a == HQ)=false /\
  ∃xs,KT H kvs xs/\h.DictOfH (LQ (aI P w)) a xs:=by
 obtain⟨z,y,xs,r,o,es,ep,h1,h2,h3,h4,h5⟩:=(show cS P w H h a (.dT kvs) from AO ok e)
 refine⟨z,y,xs,r,o,es,ep,h1,h2,h3,h4,λx hx=>?_,h5⟩
 have all:∀{l:List (List Key×V)}{m:List (List Key×Addr×Value)},KT H l m->∀x∈m,(LQ (aI P w)).is h x.1 x.2.1:=by
  intro l m q
  induction q with
  |nil=>intro x hx; exact nomatch hx
  |@cons p q ps qs hq t ih=>
   intro x hx;rcases lK hx with e | hx
   ·subst e
    exact kN ok (by rw[<-hq.1]; exact hq.2.1)
   ·exact ih x hx
 exact all r x hx
theorem dt_of{kvs:List (List Key×V)}(ok:iQ P w H h)(e:H a=some (.dT kvs)):kvs.length<=E6/\(a == HQ)=false /\
  ∃xs,KT H kvs xs/\h.DictOfH (LQ (aI P w)) a xs:=mZ ok (.inl e)
end
def iF(H:Hp)(a:Addr)(y:V)(r:Option V):Prop :=
 (∃kvs k,Rd H a (.dK kvs)/\y=kV k/\r=gh kvs k)\/∃kvs k b,Rd H a (.dT kvs)/\y=.ref b/\H b=some (.tup (k.map kV))/\r=gh kvs k
def wm(H:Hp)(a:Addr)(y v:V)(H':Hp):Prop :=
 (∃kvs k,H a=some (.dK kvs)/\y=kV k/\kvs.length<E6/\H'=upd H a (.dK (putK kvs k v))) \/
 ∃kvs k b,H a=some (.dT kvs)/\y=.ref b/\H b=some (.tup (k.map kV))/\kvs.length<E6/\H'=upd H a (.dT (putK kvs k v))
theorem iF.k{H:Hp}{a:Addr}{kvs:List (Key×V)}{k:Key}(e:H a=some (.dK kvs)):iF H a (kV k) (gh kvs k):=.inl ⟨kvs,k,.inl e,rfl,rfl⟩
theorem wm.k{H:Hp}{a:Addr}{kvs:List (Key×V)}{k:Key}{v:V}(e:H a=some (.dK kvs))(hl:kvs.length<E6):wm H a (kV k) v (upd H a (.dK (putK kvs k v))):=.inl ⟨kvs,k,e,rfl,hl,rfl⟩
section
variable{X:Cx}{pins:List (Addr×Obj)}{σ:St}{H:Hp}{s:B1}{a:Addr}{y v:V}{u r:Value}{o:Option V}{A:Fa}{E:Value->B1->Prop}
theorem Inv.big(I:Inv X pins σ H s):HQ<s.heap.objs.size:=by
 have h:FQ<s.heap.objs.size:=(I.mod.glob.keeps I.bk).lt;exact Nat.lt_trans (by decide) h
theorem uy{Q:Value->B1->Prop}(hu:A.units+1<cLine)(I:Inv X pins σ H s)(g:iF H a y (some v))(ry:RelV y u)(h:∀w' s',Inv X pins σ H s'->RelV v w'->Q w' s') :
  wpAny (model X.prog X.w) A (Jl (.ref a) u) Q E s:=by
 rcases g with⟨kvs,k,e,ey,l⟩ | ⟨kvs,k,b,e,ey,eb,l⟩
 ·subst ey
  obtain⟨z,hd,vs,rel,dd⟩:=kM I.hok e;obtain⟨w',hw,rw'⟩:=lW.some_of (v:=v) (o:=Ku vs k) (by rw[l]; exact rel.val k)
  exact wpAny_getItem_of (mX ry) dd.mapOf hw (h w' _ (I.tok _) rw')
 ·subst ey
  cases (show u=Gn b from ry)
  obtain⟨z,hd,xs,rel,dd⟩:=mZ I.hok e;obtain⟨w',hw,rw'⟩:=lW.some_of (v:=v) (o:=(atKey xs k).map (·.2)) (by rw[l]; exact rel.val k)
  obtain⟨p,hp,hp2⟩:=Go.mp hw;refine wpAny_getItem_heap (JY hu) (kN I.hok eb) dd hp ?_;rw[hp2];exact h w' _ (I.tok _) rw'
theorem d_in{Q:Value->B1->Prop}(hu:A.units+1<cLine)(I:Inv X pins σ H s)(g:iF H a y o)(ry:RelV y u)(h:∀s',Inv X pins σ H s'->Q (.bool o.isSome) s') :
  wpAny (model X.prog X.w) A (Fy .In u (.ref a)) Q E s:=by
 rcases g with⟨kvs,k,e,ey,l⟩ | ⟨kvs,k,b,e,ey,eb,l⟩
 ·subst ey
  obtain⟨z,hd,vs,rel,dd⟩:=kM I.hok e;refine wpAny_in_of (mX ry) hd dd.mapOf ?_;rw[<-(rel.val k).fC,<-l];exact h _ (I.tok _)
 ·subst ey
  cases (show u=Gn b from ry)
  obtain⟨z,hd,xs,rel,dd⟩:=mZ I.hok e;refine wpAny_in_heap (JY hu) (kN I.hok eb) hd dd ?_;have q:=(rel.val k).fC;rw[KD] at q;rw[<-q,<-l];exact h _ (I.tok _)
theorem yX{Q:Value->B1->Prop}(hu:A.units+1<cLine)(I:Inv X pins σ H s)(g:iF H a y o)(ry:RelV y u)(h:∀s',Inv X pins σ H s'->Q (.bool (!o.isSome)) s') :
  wpAny (model X.prog X.w) A (Fy .NotIn u (.ref a)) Q E s:=by
 rcases g with⟨kvs,k,e,ey,l⟩ | ⟨kvs,k,b,e,ey,eb,l⟩
 ·subst ey
  obtain⟨z,hd,vs,rel,dd⟩:=kM I.hok e;refine wpAny_notIn_of (mX ry) hd dd.mapOf ?_;rw[<-(rel.val k).fC,<-l];exact h _ (I.tok _)
 ·subst ey
  cases (show u=Gn b from ry)
  obtain⟨z,hd,xs,rel,dd⟩:=mZ I.hok e;refine wpAny_notIn_heap (JY hu) (kN I.hok eb) hd dd ?_;have q:=(rel.val k).fC;rw[KD] at q;rw[<-q,<-l];exact h _ (I.tok _)
theorem sP{h':Heap}{t':Nat}{ob:HO}(I:Inv X pins σ H s)(mu:Dv (H a))(hs:HU a s.heap h')(he:∃q,h'.get? a=some q)(new:cS X.prog X.w (upd H a ob) h' a ob) :
  Inv X pins σ (upd H a ob) { s with heap:=h',toks:=t' } :=
 I.write (x:=a) (e:=a) mu (.inl rfl) (λb q hb z=>(hs.2 b hb).trans z) he new
theorem BN{P:FB}{w:World}{H':Hp}{h':Heap}{kvs:List (Key×V)}{vs:List (Key×Value)}(z:kvs.length<=E6)(hd:(a == HQ)=false)(rel:KV kvs vs)(dd:h'.DictOf (aI P w) a vs) :
  cS P w H' h' a (.dK kvs):=⟨z,hd,vs,rel,dd⟩
theorem uz{H':Hp}{Q:Unit->B1->Prop}(hu:A.units+1<cLine)(I:Inv X pins σ H s)(g:wm H a y v H')(ry:RelV y u)(rv:RelV v r)(h:∀s',Inv X pins σ H' s'->Q () s') :
  wpAny (model X.prog X.w) A (setItem (.ref a) u r) Q E s:=by
 rcases g with⟨kvs,k,e,ey,l,eH⟩ | ⟨kvs,k,b,e,ey,eb,l,eH⟩
 ·subst ey eH
  obtain⟨z,hd,vs,rel,dd⟩:=AQ I.hok e;have hz:vs.length<=E6:=by rw[<-rel.length]; exact z
  have hl:(putK kvs k v).length<=E6:=by have:=gz kvs k v; lia
  refine wpAny_setItem_pairs (hsz:=hz) (mX ry) dd λh' dd' hs=>h _ ?_
  have he:∃q,h'.get? a=some q:=let ⟨q,_,_,hq,_⟩:=dd'; ⟨q,hq⟩;exact sP I (by rw[e]; exact IM) hs he (BN hl hd (rel.put k rv) dd')
 ·subst ey eH
  cases (show u=Gn b from ry)
  obtain⟨z,hd,xs,rel,dd⟩:=dt_of I.hok e;have hz:xs.length<=E6:=by rw[<-ID rel]; exact z
  have hl:(putK kvs k v).length<=E6:=by have:=gz kvs k v; lia
  refine wpAny_setItem_heap (hsz:=hz) (JY hu) (kN I.hok eb) dd λh' dd' hs=>h _ ?_
  obtain⟨q,es,ep,hq,h2,h3,h4,_,h5⟩:=dd';refine sP I (by rw[e]; exact IM) hs ⟨q,hq⟩ ⟨hl,hd,_,(rel.put k eb rv).keeps λc ys ec=>?_,q,es,ep,hq,h2,h3,h4,h5⟩
  rw[aZ (vJ ec e (λz=>nomatch z))]
  exact ec
end
section
variable{X:Cx}{pins:List (Addr×Obj)}{σ:St}{H:Hp}{s:B1}{a:Addr}{kvs:List (Key×V)}{k:Key}{u:Value}{A:Fa}{E:Value->B1->Prop}
theorem d_len{Q:Value->B1->Prop}(I:Inv X pins σ H s)(e:Rd H a (.dK kvs))(h:∀t s',Inv X pins σ H s'->Q (.int kvs.length t) s'):wpAny (model X.prog X.w) A (call (.builtin "len") [.ref a]) Q E s:=by
 obtain⟨z,hd,vs,rel,dd⟩:=kM I.hok e;refine call_len_dict hd dd (by rw[<-rel.length]; rw[GR] at z; lia) ?_
 rw[<-rel.length];exact h _ _ (I.tok _)
end
def NoSl(i:Expr):Prop:=∀ov iv,LZ i false ov iv=operate [ov,iv] (Jl ov iv)
theorem yY{prog:FB}{w:World}{A:Fa}{E:Value->B1->Prop}{s:B1}{env:Env}{value slice:Expr}{pos:Pos}{T id:String}{Q:Value->B1->Prop}
  (hl:Lv (.type T) "__getitem__" = pure (some (.builtin id))) (hs:NoSl slice)
  (h:wpAny (model prog w) A (eval value env) (λo s₁=>wpAny (model prog w) A (eval slice env) (λi s₂=>s₂.TypeIs o T/\wpAny (model prog w) A (Jl o i) Q E s₂) E s₁) E s) :
  wpAny (model prog w) A (eval (.Subscript value slice pos) env) Q E s:=by
 refine NR (Gz h (λo s₁ h₁=>Gz h₁ (λi s₂ h₂=>?_) λ_ _ x=>x) λ_ _ x=>x)
 obtain⟨hT,h₂⟩:=h₂;unfold MG;refine AC ?_;rw[getitemInPython_of_ne hT.not_modules];refine AC (wpAny_specialOf hT hl ?_);have fin:wpAny (model prog w) A (LZ slice false o i) (λr s₃=>wpAny (model prog w) A (letTemporaryGo value o r >>= λ_=>pure r) Q E s₃) E s₂:=by
  rw[hs o i];exact wpAny_operating (Gz h₂ (λr s₃ h₃=>AC (wpAny_letTemporaryGo (BM h₃))) λ_ _ x=>x)
 first
  |exact BM (AC fin)
  |exact AC (BM (AC fin))
  |exact AC fin
theorem p8{X:Cx}{pins:List (Addr×Obj)}{σ:St}{H:Hp}{s:B1}{a:Addr}{y:V}{o:Option V}(I:Inv X pins σ H s)(g:iF H a y o):s.TypeIs (.ref a) "dict" := by
 rcases g with⟨kvs,k,e,_,_⟩ | ⟨kvs,k,b,e,_,_,_⟩
 ·obtain⟨_,_,vs,_,dd⟩:=kM I.hok e
  exact dd.typeIs
 ·obtain⟨_,_,xs,_,dd⟩:=mZ I.hok e
  exact dd.typeIs
noncomputable def AR(td ty:TE):TE:=λσ H Q=>td σ H λx H1=>ty σ H1 λy H2=>∃a v,x=.ref a/\iF H2 a y (some v)/\Q v H2
noncomputable def tDIn(ty td:TE):TE:=λσ H Q=>ty σ H λy H1=>td σ H1 λx H2=>∃a o,x=.ref a/\iF H2 a y o/\Q (.bl o.isSome) H2
noncomputable def yZ(ty td:TE):TE:=λσ H Q=>ty σ H λy H1=>td σ H1 λx H2=>∃a o,x=.ref a/\iF H2 a y o/\Q (.bl (!o.isSome)) H2
noncomputable def wo(td ty tv:TE):TS:=λD σ H=>tv σ H λv H1=>td σ H1 λx H2=>ty σ H2 λy H3=>∃a H4,x=.ref a/\wm H3 a y v H4/\D.nx σ H4
section
variable{X:Cx}{o i e value:Expr}{pos pos' tpos:Pos}{td ty tv:TE}
theorem zb(hu:X.A.units+1<cLine)(ho:PE X o td)(hi:PE X i ty)(hs:NoSl i):PE X (.Subscript o i pos) (AR td ty):=by
 intro pins s σ H Q I h;refine yY PySem.F.slot_dict_getitem.lookup hs (bD (ho pins s σ H _ I h) λu s1 ⟨x,H1,I1,rx,q1⟩=>bD (hi pins s1 σ H1 _ I1 q1) λiv s2 ⟨y,H2,I2,ry,a,v,ex,g,q2⟩=>?_)
 subst ex;obtain rfl:u=Gn a:=rx;exact⟨p8 I2 g,uy hu I2 g ry λw' s3 I3 rw'=>⟨v,H2,I3,rw',q2⟩⟩
theorem wz(hu:X.A.units+1<cLine)(hi:PE X i ty)(ho:PE X o td):PC X .In i o (tDIn ty td):=by
 intro pins s σ H Q I h;refine bD (hi pins s σ H _ I h) λiv s1 ⟨y,H1,I1,ry,q1⟩=>bD (ho pins s1 σ H1 _ I1 q1) λu s2 ⟨x,H2,I2,rx,a,ov,ex,g,q2⟩=>?_
 subst ex;obtain rfl:u=Gn a:=rx;exact d_in hu I2 g ry λs3 I3=>⟨.bl ov.isSome,H2,I3,rfl,q2⟩
theorem uA(hu:X.A.units+1<cLine)(hi:PE X i ty)(ho:PE X o td):PC X .NotIn i o (yZ ty td):=by
 intro pins s σ H Q I h;refine bD (hi pins s σ H _ I h) λiv s1 ⟨y,H1,I1,ry,q1⟩=>bD (ho pins s1 σ H1 _ I1 q1) λu s2 ⟨x,H2,I2,rx,a,ov,ex,g,q2⟩=>?_
 subst ex;obtain rfl:u=Gn a:=rx;exact yX hu I2 g ry λs3 I3=>⟨.bl (!ov.isSome),H2,I3,rfl,q2⟩
theorem zc(hu:X.A.units+1<cLine)(ho:PE X o td)(hi:PE X i ty)(hv:PE X value tv)(hs:Hc value (some (.Subscript o i pos')) pos.line X.env=pure false) :
  PS X (.Assign [.Subscript o i pos'] value pos) (wo td ty tv):=by
 intro pins s σ H D I h;refine wpAny_Assign_Subscript (bD (hv pins s σ H _ I h) λr s1 ⟨v,H1,I1,rv,q1⟩=>bD (ho pins s1 σ H1 _ I1 q1) λu s2 ⟨x,H2,I2,rx,q2⟩=>bD (hi pins s2 σ H2 _ I2 q2) λiv s3 ⟨y,H3,I3,ry,a,H4,ex,g,q3⟩=>?_) hs
 subst ex;obtain rfl:u=Gn a:=rx;exact uz hu I3 g ry rv λs4 I4=>⟨σ,H4,I4,q3⟩
end
def EM(H:Hp)(a:Addr):Prop:=(∃kvs,Rd H a (.dK kvs))\/∃kvs,Rd H a (.dT kvs)
theorem BO{X:Cx}{pins:List (Addr×Obj)}{σ:St}{H:Hp}{s:B1}{a:Addr}(I:Inv X pins σ H s)(d:EM H a) :
  s.TypeIs (.ref a) "dict"/\(∀b,Gn a=.ref b->∃ob,s.heap.get? b=some ob/\ob.dict=none)/\(a == HQ)=false:=by
 rcases d with⟨kvs,e⟩ | ⟨kvs,e⟩
 ·obtain⟨_,hd,vs,_,dd⟩:=kM I.hok e
  refine⟨dd.typeIs,λb q=>?_,hd⟩
  cases q;obtain⟨ob,_,_,h1,h2,_⟩:=dd;exact⟨ob,h1,h2.2.1⟩
 ·obtain⟨_,hd,xs,_,dd⟩:=mZ I.hok e
  refine⟨dd.typeIs,λb q=>?_,hd⟩
  cases q;obtain⟨ob,_,_,h1,h2,_⟩:=dd;exact⟨ob,h1,h2.2.1⟩
end L2
namespace Att
open PySem PySem.W PySem.Calls PyProof.Rows
theorem j3{P:Params}{h:Heap}:∀(ns:List Int)(vs:List Value),WellAll P h vs (ns.map WData.int)->Gr vs ns:=by
 intro ns
 induction ns with
 |nil=>
  intro vs w;rw[J8] at w;cases w;exact .nil
 |cons n ns ih=>
  intro vs w;rw[FN] at w;cases w with
  |cons a b=>
   cases a;exact .cons _ _ (ih _ b)
theorem uB{l:JU}{n:Nat}(hn:l.most=some n){P:Params}{h:Heap}{args:List WData}{vals:List Value}
  (hpre:l.row.toRowW.claim.pre args=true) (hwl:WellAll P h vals args) :
  ∃a vs ns,vals=[Gn a]/\args=[WData.list (ns.map WData.int)]/\h.get? a=some { cls:=.type "list",data:=.seq vs.toArray }/\Gr vs ns/\ns.length<=n:=by
 have hsh:WShape.hasAll [] args [.list .int]=true:=(pre_splitW hpre).1;have hc:l.pre.holds [] { args:=args }=true:=(pre_splitW hpre).2;obtain⟨d,r,rfl,h1,h2⟩:=hasAllW_cons hsh;obtain rfl:=hasAllW_nil h2;obtain⟨xs,rfl,h3⟩:=hasW_list h1;obtain⟨ns,rfl⟩:=items_int h3;have hlen:ns.length<=n:=by
  unfold OpenLaw.pre at hc;have h4:(WTm.not (.lt (.lit (.int (n:Int))) (.len (.arg 0)))).holds [] { args:=[.list (ns.map .int)] }=true:=by
   have h4:=(holds_andW hc).1;rw[hn] at h4;exact h4
  have h5:=condW_of h4 (w_not (w_lt w_lit (w_len_list (w_arg rfl))));rw[B2] at h5;refine N1 λq=>?_
  have q':(n:Int)<((ns.length:Nat):Int):=by lia
  first
   |(rw[decide_eq_true q'] at h5; exact absurd h5 (by decide))
   |(simp at h5; lia)
 cases hwl with
 |cons w1 w2=>
  cases w2;cases w1 with
  |list ho hall=>exact⟨_,_,ns,rfl,rfl,ho,j3 ns _ hall,hlen⟩
theorem uC(l:JU)(args:List WData):l.row.toRowW.claim.post args (.bool true) args=true :=
 postW_of (r:=l.row.toRowW) (X:=(true == true))
  (show WShape.has [] (.bool true) .bool=true by first | rfl | decide | simp[WShape.has,WShape.arms,WShape.armsAll])
  (show (WTm.eq .res (.lit (.bool true))).value [] { args:=args,res:=some (.bool true),after:=args }=some (.bool (true == true)) from w_eq_bool (w_res rfl) w_lit) rfl
theorem p9{l:JU}{n:Nat}{q:FB}{loose:List Str}{XP:(Str->Option Value)->Heap->Prop}{YP:World->Heap->Prop}{d:DefRec}
  (hn:l.most=some n) (hdf:d.params.defaults=[])
  (call:∀(w:World)(s₀ s₁:B1)(mg mb:Str->Option Value)(fa:Addr)(o:Obj)(pm cd doc:Value)(a:Addr)(vs:List Value)(ns:List Int),
   Ground q loose [] XP w s₀ mg mb s₁.heap->YP w s₁.heap ->
   s₁.heap.get? fa=some o->o.data=.func (docDef d.name d.params d.body d.scope pm cd doc)->s₁.heap.CodeRec cd d.name->mg d.name=some (.ref fa) ->
   s₁.heap.get? a=some { cls:=.type "list",data:=.seq vs.toArray }->Gr vs ns->ns.length<=n->s₁.gens = #[] ->
   Hu (model l.prog w) Ky (.call (.ref fa) ⟨[.ref a],[]⟩) (λr s'=>r=.ok (.ret (.bool true))/\OldK s₁.heap s'.heap/\s'.os=s₁.os/\K4 s'.gens) s₁) :
  WalkO q loose XP YP l.row.toRowW d [] (λf vs=>MB f vs):=by
 intro w s₀ s₁ mg mb G Y fa o pm cd doc dV kV ho hd hcd hD hmg hg args vals as hpre hlay hrd hwl hlo;obtain rfl:dV=.none:=Dflts.none hD hdf;obtain rfl:kV=.none:=Dflts.noKw hD;obtain⟨a,vs,ns,rfl,rfl,hobj,hints,hlen⟩:=uB hn hpre hwl;refine enter_call (Kx (call w s₀ s₁ mg mb fa o pm cd doc a vs ns G Y ho (fd_plain hd) hcd hmg hobj hints hlen hg) λr s' hq=>?_)
 obtain⟨rfl,h2,h3,h4⟩:=hq;exact⟨.inl ⟨.bool true,.bool true,[],rfl,λ_=>rfl,.bool true,uC l _,λ_=>⟨LN,λ_ hm=>(nomatch hm)⟩⟩,h2,h3,h4⟩
end Att
namespace L2
open PySem PySem.Spec PyProof.Rows
theorem nc:∀{vs:List Value}{ns:List Int},Gr vs ns->Vals (ns.map V.int) vs
 |_,_,.nil=>.nil
 |_,_,.cons n t h=>.cons ⟨t,rfl⟩ (nc h)
def Only(H:Hp):Prop:=∀b,H b=none\/∃o xs,H b=some (.frz o (.lst xs))
theorem wB{P:FB}{w:World}{K:AT}{mg mb:Str->Option Value}{CX:v9}{k:Nat}{fa a:Addr}{fd:Hh}{x:Str}{sp:Sp}{s₁:B1}{vs:List Value}{ns:List Int}
  (KX:K.In s₁.heap) (hns:s₁.heap.Ns FQ mg) (hb:s₁.heap.Ns NJ mb) (hbb:∀x:Str,x ≠ "__name__"->mb x=Hg x) (hlim:s₁.heap.NoLimit) (hg:s₁.gens = #[])
  (ha:s₁.heap.get? a=some { cls:=.type "list",data:=.seq vs.toArray }) (hi:Gr vs ns) (hl:ns.length<=E6) (hr:eN k Ky)
  (F:∀base:Heap,K.In base->base.Ns FQ mg->cY P w K mg base CX k fa fd [x] sp) (hbind:∀(s:B1)(u:Value),Lm s fd ⟨[u],[]⟩ [(x,u)])
  (hsp:∀H:Hp,Only H->gg K H a (ns.map V.int)->sp [.ref a] H (λv _=>v=.bl true) λ_ _ _=>False)
  (hCX:∀H e s',CX [] H s₁ (λ_ _ _=>False) e s'->False) :
  Hu (model P w) Ky (.call (.ref fa) ⟨[.ref a],[]⟩) (λr s'=>r=.ok (.ret (.bool true))/\OldK s₁.heap s'.heap/\s'.os=s₁.os/\K4 s'.gens) s₁:=by
 have rv:=nc hi;have lenV:=hi.length;have core:∀H:Hp,Only H->gg K H a (ns.map V.int)->iQ P w H s₁.heap->(∀b,H b≠none->b=a)->(H a≠none->K.lookup a=none) ->
   Hu (model P w) Ky (.call (.ref fa) ⟨[.ref a],[]⟩) (λr s'=>r=.ok (.ret (.bool true))/\OldK s₁.heap s'.heap/\s'.os=s₁.os/\K4 s'.gens) s₁:=by
  intro H hO hS hok hA hK;have base_of:∀{b:Addr}{o:Obj},s₁.heap.get? b=some o->H b=none->(nQ s₁.heap H).get? b=some o:=λe n=>vK e n
  have noA:∀{b:Addr}{o:Obj}{es:Array DictEntry}{ep:Nat},s₁.heap.get? b=some o->o.data=.dict es ep->H b=none:=λ{b o es ep}e d=>by
   cases q:H b with
   |none=>rfl
   |some u=>
    have e':b=a:=hA b (by rw[q]; simp)
    subst e';rw[ha] at e; cases e;have d':Data.seq vs.toArray _=Data.dict es ep:=d;cases d'
  have nsK:∀{b:Addr}{m:Str->Option Value},s₁.heap.Ns b m->(nQ s₁.heap H).Ns b m:=λ{b m} ⟨o,es,ep,e,d,r⟩=>⟨o,es,ep,base_of e (noA e d),d,r⟩
  have hKb:K.In (nQ s₁.heap H):=λb o e=>base_of (KX b o e) (by
   cases q:H b with
   |none=>rfl
   |some u=>
    have e':b=a:=hA b (by rw[q]; simp)
    subst e';rw[hK (by rw[q]; simp)] at e; cases e)
  have hM:Mod K mg (nQ s₁.heap H):=⟨hKb,nsK hns,⟨mb,nsK hb,hbb⟩,let ⟨mc,h1,h2⟩:=hlim; ⟨mc,nsK h1,h2⟩⟩;have e0:Env0 P w K mg (nQ s₁.heap H) Ky [] s₁ H:=⟨rfl,hM,λb o e=>yD e,Nat.le_of_eq (ue _ _),trivial,λb hb=>absurd (show b∈([]:List Addr) from hb) (by simp),hok,.of_eq hg⟩
  refine Kx ((F _ hKb (nsK hns)).run Ky [] s₁ H ⟨[.ref a],[]⟩ [.ref a] [.ref a] _ _ hr e0 (hbind s₁ (.ref a)) (.cons rfl .nil) (hsp H hO hS)) λr s' h=>?_
  cases r with
  |error e=>exact(hCX H e s' h).elim
  |ok fl=>
   cases fl with
   |next=>exact Hz h
   |brk=>exact Hz h
   |cont=>exact Hz h
   |ret u=>
    obtain⟨v,H',os,bare,un,hok',r',q⟩:=h;have q':v=.bl true:=q;subst q';obtain rfl:u=Jg true:=r';refine⟨rfl,OldK.of_keep λb o e=>?_,os,bare⟩
    cases q:H b with
    |none=>exact un.keep b o e q (by intro z; exact absurd (show b∈([]:List Addr) from z) (by simp)) (by simp)
    |some u=>
     rcases hO b with z | ⟨ob,xs,z⟩
     ·rw[q] at z; cases z
     ·have z2:=un.dH b ob _ z
      obtain⟨e1,_⟩:=hok b _ z;obtain⟨e2,_⟩:=hok' b _ z2;rw[e] at e1; cases e1;exact e2
 cases hk:K.lookup a with
 |some o=>
  have e:=KX a o hk;rw[ha] at e;cases e;refine core (λ_=>none) (λ_=>.inl rfl) (.inr ⟨_,vs.toArray,_,hk,rfl,rfl,rfl,by rw[Dx,lenV]; exact hl,by simpa using rv⟩) (λb u z=>by have z':(none:Option HO)=some u:=z; cases z') (λb z=>absurd rfl z) λz=>absurd rfl z
 |none=>
  refine core (λb=>if b=a then some (.frz { cls:=.type "list",data:=.seq vs.toArray } (.lst (ns.map V.int))) else none) (λb=>?_) (.inl (.inr ⟨{ cls:=.type "list",data:=.seq vs.toArray },if_pos rfl⟩)) (λb u z=>?_) (λb z=>?_) λ_=>hk
  ·by_cases hb:b=a
   ·exact .inr ⟨_,_,if_pos hb⟩
   ·exact .inl (if_neg hb)
  ·by_cases hb:b=a
   ·have z':=(if_pos hb).symm.trans z
    cases z';subst hb;exact⟨ha,by rw[B2]; exact hl,vs,_,rv,ha⟩
   ·have z':=(if_neg hb).symm.trans z
    cases z'
  ·by_cases hb:b=a
   ·exact hb
   ·exact absurd (if_neg hb) z
end L2
namespace L2
open PySem PySem.Spec PyProof.Rows
theorem zd{l:JU}{n k:Nat}{q:FB}{loose:List Str}{XP:(Str->Option Value)->Heap->Prop}{YP:World->Heap->Prop}{d:DefRec}{K:Params->AT}{CX:World->v9}{sp:World->Sp}{x:Str}
  (hn:l.most=some n) (hn2:n<=E6) (hdf:d.params.defaults=[]) (hr:eN k Ky)
  (hY:∀(w:World)(h:Heap),YP w h->(K w.params).In h)
  (F:∀(w:World)(mg:Str->Option Value)(fa:Addr)(h:Heap),(K w.params).In h->h.Ns FQ mg->mg d.name=some (.ref fa) ->
   ∃fd:Hh,(∀(s:B1)(u:Value),Lm s fd ⟨[u],[]⟩ [(x,u)]) /\
    ∀base:Heap,(K w.params).In base->base.Ns FQ mg->cY l.prog w (K w.params) mg base (CX w) k fa fd [x] (sp w))
  (hsp:∀(w:World)(H:Hp)(a:Addr)(ns:List Int),ns.length<=n->Only H->gg (K w.params) H a (ns.map V.int)->sp w [.ref a] H (λv _=>v=.bl true) λ_ _ _=>False)
  (hCX:∀(w:World)(H:Hp)(s:B1)(e:Value)(s':B1),CX w [] H s (λ_ _ _=>False) e s'->False) :
  Mm q loose XP YP l.row.toRowW d [] (λf vs=>MB f vs):=by
 refine Att.p9 hn hdf λw s₀ s₁ mg mb fa o pm cd doc a vs ns G Y ho hd hcd hmg hobj hints hlen hg=>?_
 have KX:=hY w _ Y;obtain⟨fd,hb,hF⟩:=F w mg fa _ KX G.T.g hmg;exact wB KX G.T.g G.T.b G.T.builtins G.T.nolimit hg hobj hints (GE hlen hn2) hr hF hb (λH hO hS=>hsp w H a ns hlen hO hS) λH e s'=>hCX w H s₁ e s'
end L2
namespace L2
open PySem PySem.Spec PyProof.Rows
noncomputable def bG(s:Stmt):Arguments:=match s with
 |.FunctionDef _ a _ _ _ _ _ _ _ _=>a
 |_=>{ posonlyargs:=[],args:=[],vararg:=none,kwonlyargs:=[],kw_defaults:=[],kwarg:=none,defaults:=[] }
noncomputable def bh(s:Stmt):List Stmt:=match s with
 |.FunctionDef _ _ b _ _ _ _ _ _ _=>b
 |_=>[]
noncomputable def aq(s:Stmt):Scope:=match s with
 |.FunctionDef _ _ _ _ _ _ sc _ _ _=>sc
 |_=>{ kind:=.function,names:=[],isGenerator:=false,isCoroutine:=false }
abbrev j6:v9:=λ_ _ _ _ _ _=>False
abbrev E0:XK:=λ_ _ _=>False
theorem pass0{X:Cx}:Passes j6 X E0:=λ_ _ _ _ _ _ _ h=>h.elim
structure oh(K:AT)(x qual:Str)(st:Stmt)(f:Addr)(fd:Hh):Prop where
 ex:∃ (oc:Value) (od:Option Addr) (kV doc pm:Value) (an:Option Addr) (cdv ct:Value) (osl:Array (Option Value)),
  fd=GA x qual (bG st) (bh st) (aq st) .none kV doc pm an cdv ct/\K.lookup f=some ⟨oc,od,.func fd,osl⟩/\GM K cdv qual=true
 kp:G9 K (.ref f)=true
section
variable{P:FB}{w:World}{K:AT}{mg:Str->Option Value}{base:Heap}
theorem oh.ok{x qual:Str}{st:Stmt}{f:Addr}{fd:Hh}{N ps:List Str}{k:Nat}{sp:Sp}(F:oh K x qual st f fd)(S:bF N ps (aq st))(len:∀vs H Q E,sp vs H Q E->vs.length=ps.length)
  (hbody:∀(cdv:Value)(A:Fa)(outer:List Env)(s:B1)(H:Hp)(vs:List V)(Q:VK)(E:XK),eN k (A.deeper (K3 qual (aq st) s.heap.objs.size f cdv))->sp vs H Q E ->
   ∃t,qZ (pT j6 P w K mg base N qual (aq st) f cdv A outer s H E).C7 (bh st) t/\t { nx:=λ_ H'=>Q .non H',rt:=Q } (start N vs) H):cY P w K mg base j6 (k+1) f fd ps sp:=by
 obtain⟨oc,od,kV,doc,pm,an,cdv,ct,osl,rfl,lk,hcd⟩:=F.ex;refine fn_of lk hcd S len λA outer s H vs Q E hr hsp=>?_
 obtain⟨t,h,q⟩:=hbody cdv A outer s H vs Q E hr hsp;exact⟨t,h.C7,q⟩
theorem oh.binds{x qual:Str}{st:Stmt}{f:Addr}{fd:Hh}{ps:List Str}(F:oh K x qual st f fd)
  (h:∀(kV doc pm:Value)(an:Option Addr)(cdv ct:Value)(us:List Value),us.length=ps.length->bindArgs (GA x qual (bG st) (bh st) (aq st) .none kV doc pm an cdv ct) ⟨us,[]⟩=pure (ps.zip us)):Binds K fd ps []:=by
 obtain⟨oc,od,kV,doc,pm,an,cdv,ct,osl,rfl,lk,hcd⟩:=F.ex;exact .all (h kV doc pm an cdv ct)
theorem dO{x qual:Str}{st:Stmt}{f:Addr}{oc:Value}{od an:Option Addr}{osl:Array (Option Value)}{kV doc pm cdv ct:Value}(l:K.lookup f=some ⟨oc,od,.func (GA x qual (bG st) (bh st) (aq st) .none kV doc pm an cdv ct),osl⟩)
  (c:GM K cdv qual=true) (k:G9 K (.ref f)=true):oh K x qual st f (GA x qual (bG st) (bh st) (aq st) .none kV doc pm an cdv ct):=⟨⟨oc,od,kV,doc,pm,an,cdv,ct,osl,rfl,l,c⟩,k⟩
end
section
variable{X:Cx}
theorem pv(i:Nat){x:Str}{pos:Pos}(hN:X.N[i]? = some x:=by rfl)(hv:C5 X.env.scope x:=by first | exact Fx rfl | exact Hs (Fx rfl) | exact Hs (Hs rfl))(hd:(x == ("__debug__" : Str))=false:=by decide)
  (hcd:(x == ("__classdict__" : Str))=false:=by decide):PE X (.Name x pos) (fu i):=vL hN hv hd hcd
theorem ng:bf X (.builtin "len") (λxs H Q=>∃a kvs,xs=[V.ref a]/\H a=some (.dK kvs)/\Q (.int kvs.length) H):=by
 intro pins s σ H xs us Q I r h;obtain⟨a,kvs,rfl,ha,q⟩:=h;obtain⟨u,rfl,ru⟩:=vals1 r;cases ru;exact d_len I (.inl ha) λt s' I'=>⟨.int kvs.length,H,I',⟨t,rfl⟩,q⟩
end
theorem iteF{A B:Prop}(h:B):if false=true then A else B:=by
 rw[if_neg GI];exact h
theorem iteT{A B:Prop}(h:A):if true=true then A else B:=by
 rw[if_pos rfl];exact h
def bB(H H':Hp):Prop:=∀b o,H b=some o->H' b=some o
theorem bB.refl(H:Hp):bB H H:=λ_ _ h=>h
theorem bB.free{H H':Hp}(e:bB H H'){l:Addr}(h:H' l=NS):H l=NS:=by
 cases q:H l with
 |none=>rfl
 |some o=>
  rw[e l o q] at h;cases h
end L2
end
section
namespace L2
open PySem PySem.Spec PyProof.Rows
noncomputable def aH(cells:List (Str×Addr)):List (Str×IH)->List (Str×Addr)->List (Str×Addr)
 |[],cs=>cs
 |(n,k)::r,cs=>if (k == Gi)=true then (match cells.lookup n with | some a=>aH cells r ((n,a)::cs) | none=>aH cells r cs) else aH cells r cs
theorem oi{env:Env}:∀(names:List (Str×IH))(cs:List (Str×Addr)),(∀x∈names,x.2=.free->∃a,env.cells.lookup x.1=some a) ->
  (forIn names cs λ(x:Str×IH)(r:List (Str×Addr))=>(if (x.2 == Gi)=true then (do let a <-cellOf env x.1; pure (JV ((x.1,a)::r))) else pure (JV r):Sem (ForInStep (List (Str×Addr)))))=(pure (aH env.cells names cs):Sem (List (Str×Addr)))
 |[],cs,_=>rfl
 |(n,k)::r,cs,h=>by
  rw[J3]
  by_cases hk:(k == Gi)=true
  ·obtain⟨a,ha⟩:=h (n,k) lS (by simpa using hk)
   have ha:env.cells.lookup n=some a:=ha;have hcell:cellOf env n=pure a:=by unfold cellOf; rw[ha]
   simp only[hk,if_true];rw[hcell];show (forIn r ((n,a)::cs) _:Sem _)=_;rw[oi r _ λx hx=>h x (lO _ hx)]
   simp only[aH,hk,if_true,ha]
  ·simp only[hk,if_false]
   show (forIn r cs _:Sem _)=_;rw[oi r _ λx hx=>h x (lO _ hx)]
   simp only[aH,hk,if_false];rfl
theorem cC{scope:Scope}{env:Env}(h:∀x∈scope.names,x.2=.free->∃a,env.cells.lookup x.1=some a):closureFor scope env=pure (aH env.cells scope.names []):=by
 have e:=oi (env:=env) scope.names [] h;unfold closureFor;simp only[bind_pure_comp] at e ⊢
 first
  |(rw[<-e]; rfl)
  |(simpa using e)
theorem dI{cells:List (Str×Addr)}{y:Str}{c:Addr}:∀(names:List (Str×IH))(cs:List (Str×Addr)),(∀y c,cs.lookup y=some c->cells.lookup y=some c)->(aH cells names cs).lookup y=some c->cells.lookup y=some c
 |[],cs,h,e=>h y c e
 |(n,k)::r,cs,h,e=>by
  unfold aH at e
  by_cases hk:(k == Gi)=true
  ·rw[if_pos hk] at e
   cases ha:cells.lookup n with
   |none=>
    rw[ha] at e;exact dI r cs h e
   |some a=>
    rw[ha] at e;refine dI r _ (λy c q=>?_) e
    rw[Hk] at q
    by_cases hy:(y == n)=true
    ·rw[hy] at q
     cases q;have:y=n:=by simpa using hy
     rw[this]; exact ha
    ·have hy':(y == n)=false:=by simpa using hy
     rw[hy'] at q;exact h y c q
  ·rw[if_neg hk] at e
   exact dI r cs h e
theorem fQ{cells:List (Str×Addr)}{y:Str}:∀(names:List (Str×IH))(cs:List (Str×Addr)),(cs.lookup y).isSome=true->((aH cells names cs).lookup y).isSome=true
 |[],cs,h=>h
 |(n,k)::r,cs,h=>by
  unfold aH
  by_cases hk:(k == Gi)=true
  ·rw[if_pos hk]
   cases ha:cells.lookup n with
   |none=>exact fQ r cs h
   |some a=>
    refine fQ r _ ?_;rw[Hk]
    by_cases hy:(y == n)=true
    ·rw[hy]; rfl
    ·have hy':(y == n)=false:=by simpa using hy
     rw[hy']; exact h
  ·rw[if_neg hk]
   exact fQ r cs h
theorem gA{cells:List (Str×Addr)}{y:Str}:∀(names:List (Str×IH))(cs:List (Str×Addr)),(y,Gi)∈names->(cells.lookup y).isSome=true->((aH cells names cs).lookup y).isSome=true
 |[],cs,h,_=>by simp at h
 |(n,k)::r,cs,h,hy=>by
  unfold aH;rcases lK h with e | h'
  ·cases e
   rw[if_pos (by rfl)]
   cases ha:cells.lookup y with
   |none=>rw[ha] at hy; cases hy
   |some a=>
    refine fQ r _ ?_;rw[Hk,show (y == y)=true by simp]
    rfl
  ·by_cases hk:(k == Gi)=true
   ·rw[if_pos hk]
    cases ha:cells.lookup n with
    |none=>exact gA r cs h' hy
    |some a=>exact gA r _ h' hy
   ·rw[if_neg hk]
    exact gA r cs h' hy
theorem iT{scope:Scope}{env:Env}{x:Str}{k:IH}(hc:∀y∈scope.names,y.2≠.cell):(Kv scope env).names.lookup x=some k->(k=.cell\/k=.free)->scope.names.lookup x=some .free:=by
 unfold Kv;dsimp only;generalize hn:scope.names=names at hc ⊢
 clear hn
 induction names with
 |nil=>intro h; simp at h
 |cons p r ih=>
  obtain⟨n,k0⟩:=p;intro h hk;rw[FN,Hk] at h;rw[Hk];have hc':∀y∈r,y.2≠.cell:=λy hy=>hc y (lO _ hy)
  by_cases hx:(x == n)=true
  ·rw[hx]
   have hk0:=hc (n,k0) lS;have hk0:k0≠.cell:=hk0
   by_cases hq:(k0 == Gi && env.scope.kind == .function && env.kindOf n == some .cell)=true
   ·have:(k0 == Gi)=true:=by
     rw[Fk,Fk] at hq;exact hq.1.1
    have:k0=.free:=by simpa using this
    rw[this]
   ·rw[if_neg hq] at h
    dsimp only at h;rw[hx] at h
    injection h with h
    subst h;rcases hk with z | z
    ·exact absurd z hk0
    ·rw[z]
  ·have hx':(x == n)=false:=by simpa using hx
   rw[hx'];refine ih hc' ?_ hk
   by_cases hq:(k0 == Gi && env.scope.kind == .function && env.kindOf n == some .cell)=true
   ·rw[if_pos hq] at h
    dsimp only at h;rw[hx'] at h;exact h
   ·rw[if_neg hq] at h
    dsimp only at h;rw[hx'] at h;exact h
theorem om{scope:Scope}{env:Env}{x:Str}:scope.names.lookup x=some .free->(Kv scope env).names.lookup x=some .cell\/(Kv scope env).names.lookup x=some .free:=by
 unfold Kv;dsimp only;generalize hn:scope.names=names
 clear hn
 induction names with
 |nil=>intro h; simp at h
 |cons p r ih=>
  obtain⟨n,k0⟩:=p;intro h;rw[Hk] at h;rw[FN,Hk]
  by_cases hx:(x == n)=true
  ·rw[hx] at h
   injection h with h
   subst h
   by_cases hq:(Gi == Gi && env.scope.kind == .function && env.kindOf n == some .cell)=true
   ·rw[if_pos hq]; dsimp only; rw[hx]; exact .inl rfl
   ·rw[if_neg hq]; dsimp only; rw[hx]; exact .inr rfl
  ·have hx':(x == n)=false:=by simpa using hx
   rw[hx'] at h
   by_cases hq:(k0 == Gi && env.scope.kind == .function && env.kindOf n == some .cell)=true
   ·rw[if_pos hq]; dsimp only; rw[hx']; exact ih h
   ·rw[if_neg hq]; dsimp only; rw[hx']; exact ih h
noncomputable def aA(X:Cx)(scope:Scope)(cl:List (Str×Addr))(N:List Str)(C:Addr)(fp:List Addr)(s:B1)(H:Hp):Cx :=
 { X with N:=N,s₀:=s,H₀:=H,env:=KN scope cl C X.env,outer:=X.stack,ex:=fp,fn:=λ_=>false,pn:=[],xe:=λ_ _=>False }
structure Bk where
 cl:List (Str×Addr)
 C:Addr
 fp:List Addr
 s:B1
 H:Hp
noncomputable def mj(fr:List (Option Nat))(σ:St):St:=fr.map λo=>match o with
 |some j=>(match σ[j]? with | some v=>v | none=>none)
 |none=>none
structure aR(X:Cx)(scope:Scope)(N:List Str)(fr:List (Option Nat)):Prop where
 kind:scope.kind=.function
 nocell:∀y∈scope.names,y.2≠.cell
 locs:∀y∈scope.names,y.2=.local->scope.names.lookup y.1=some .local
 free:∀y∈scope.names,y.2=.free->X.env.kindOf y.1=some .cell\/X.env.kindOf y.1=some .free
 len:fr.length=N.length
 fr:∀(i j:Nat)(x:Str),N[i]? = some x->fr[i]? = some (some j)->X.N[j]? = some x/\scope.names.lookup x=some .free
 nd:N.Nodup
theorem d9{x:Str}{k:IH}:∀{l:List (Str×IH)},l.lookup x=some k->(x,k)∈l:=λh=>He h
section
variable{X:Cx}{pins:List (Addr×Obj)}{σ:St}{H:Hp}{s:B1}{scope:Scope}{N:List Str}{fr:List (Option Nat)}{fp:List Addr}
theorem aR.cells(S:aR X scope N fr)(I:Inv X pins σ H s):∀x∈scope.names,x.2=.free->∃a,X.env.cells.lookup x.1=some a:=λx hx e=>I.ok.has x.1 (S.free x hx e)
theorem iU{h1:Heap}{m:Str->Option Value}{ob:Obj}{tk:Nat}(I:Inv X pins σ H s)(S:aR X scope N fr)(hf:∀b∈fp,ic X pins H b)(hs:∀b∈fp,b<s.heap.objs.size)
  (hns:h1.Ns s.heap.objs.size m) (hsb:HU s.heap.objs.size (s.heap.push ob) h1) :
  Inv (aA X scope (aH X.env.cells scope.names []) N s.heap.objs.size fp s H) [] (mj fr σ) H { s with heap:=h1,toks:=tk }:=by
 have sub:∀y c,(aH X.env.cells scope.names []).lookup y=some c->X.env.cells.lookup y=some c:=λy c e=>dI scope.names [] (λ_ _ z=>by simp at z) e
 have old:∀b o,s.heap.get? b=some o->h1.get? b=some o:=λb o e=>(hsb.2 b (E1 (Ch e))).trans (At _ e)
 have cle:∀x c,X.env.cells.lookup x=some c->c<s.heap.objs.size:=λx c e=>by
  obtain⟨v,z⟩:=I.cell x c e;exact z.lt
 have bne:∀b∈fp,b∉X.ex->X.s₀.heap.objs.size<=b:=λb hb hx=>by
  rcases (hf b hb).2.2.2.1 with z | z
  ·exact absurd z hx
  ·exact z
 have ok:(aA X scope (aH X.env.cells scope.names []) N s.heap.objs.size fp s H).Ok:=by
  refine⟨I.ok.mod,?_,I.ok.glob,I.ok.blt,Da _,λx y c h1 h2=>I.ok.inj x y c (sub x c h1) (sub y c h2),λx hx=>?_,λx c z=>(by cases z),I.ok.hd,I.ok.frames,.inl rfl,λb hb=>⟨?_,λx c e=>?_⟩,λb o e=>I.bs b o e,?_,λb o e hb=>?_,λb hb hs' =>?_,I.stack,I.sF⟩
  ·exact S.kind
  ·have hx:(Kv scope X.env).names.lookup x=some .cell\/(Kv scope X.env).names.lookup x=some .free:=hx
   have hfr:scope.names.lookup x=some .free:=by
    rcases hx with z | z
    ·exact iT S.nocell z (.inl rfl)
    ·exact iT S.nocell z (.inr rfl)
   have hm:=d9 hfr;obtain⟨a,ha⟩:=S.cells I _ hm rfl;exact IE.mp (gA scope.names [] hm (by show (X.env.cells.lookup x).isSome=true; rw[show X.env.cells.lookup x=some a from ha]; rfl))
  ·exact E1 (hs b hb)
  ·exact(hf b hb).2.2.2.2.1 x c (sub x c e)
  ·exact GE I.ok.bsz I.sz
  ·have e:X.base.get? b=some o:=e
   rcases (hf b hb).2.2.2.1 with z | z
   ·exact I.ok.noex b o e z
   ·exact absurd (FL (Ch e) (GE I.ok.bsz z)) (Gs _)
  ·rcases lK (I.iD b hs') with z | z
   ·exact(hf b hb).2.1 z
   ·exact(hf b hb).2.2.1 z
 refine⟨ok,rfl,I.bare,Un.kept old,⟨m,hns,λi x v h1' h2 h3=>?_⟩,λx c e=>?_,I.hok.fresh (Da _),λx c e=>I.freeC x c (sub x c e),λp hp=>absurd (show p∈([]:List (Addr×Obj)) from hp) (by simp),I.hok.kept old,?_⟩
 ·have h1':N[i]? = some x:=h1'
  have h2:(mj fr σ)[i]? = some (some v):=h2;unfold mj at h2;rw[Fs] at h2;cases e:fr[i]? with
  |none=>rw[e] at h2; cases h2
  |some o=>
   rw[e] at h2;cases o with
   |none=>cases h2
   |some j=>
    obtain⟨hj,hx⟩:=S.fr i j x h1' e;have h2:some (match σ[j]? with | some v=>v | none=>none)=some (some v):=h2
    injection h2 with h2
    cases ej:σ[j]? with
    |none=>rw[ej] at h2; cases h2
    |some w' =>
     rw[ej] at h2;have h2:w'=some v:=h2;subst h2;have hk:=S.free _ (d9 hx) rfl;obtain⟨m0,hn0,hl⟩:=I.loc;have vis:C5 X.env.scope x:=by
      rcases hk with z | z
      ·exact .inr (.inl z)
      ·exact .inr (.inr z)
     obtain⟨u,r,l⟩:=hl j x v hj ej vis;refine⟨u,r,?_⟩;rcases l with⟨k,_⟩ | ⟨_,c,ec,z⟩
     ·exfalso
      rcases hk with q | q
      ·have:=k.symm.trans q; cases this
      ·have:=k.symm.trans q; cases this
     ·have hm:=d9 hx
      obtain⟨c',ec'⟩:=IE.mp (gA (cells:=X.env.cells) scope.names [] hm (by rw[ec]; rfl))
      have:c'=c:=by
       have q:=sub x c' ec';rw[ec] at q;cases q;rfl
      subst this;refine .inr ⟨om hx,c',ec',?_⟩;obtain⟨o,ho,hd⟩:=z;exact⟨o,old _ o ho,hd⟩
 ·obtain⟨v,o,ho,hd⟩:=I.cell x c (sub x c e)
  exact⟨v,o,old _ o ho,hd⟩
 ·show (mj fr σ).length=N.length
  unfold mj;rw[B2,S.len]
end
def j7(X:Cx)(ifs:List Expr)(t:TT):Prop :=
 ∀(pins:List (Addr×Obj))(s:B1)(σ:St)(H:Hp)(Q:Bool->Hp->Prop),Inv X pins σ H s->t σ H Q ->
  wpAny (model X.prog X.w) X.A (forIn ifs true λc r=>if r=true then do let ok <-Lx c X.env (eval c X.env); pure (JV ok) else pure (JV r)) (TP X pins σ Q) X.xe s
noncomputable def tYes:TT:=λ_ H Q=>Q true H
theorem BP{X:Cx}:j7 X [] tYes:=λ_ _ _ H _ I h=>wpAny_tests_nil ⟨H,I,h⟩
theorem BQ{X:Cx}{c:Expr}{t:TT}(h:PT X c t):j7 X [c] t:=λpins s σ H Q I hq=>wpAny_tests_one (h pins s σ H Q I hq)
abbrev TM:=St->Hp->(Hp->Prop)->Prop
def Ek(X:Cx)(em:Sem Unit)(t:TM):Prop :=
 ∀(pins:List (Addr×Obj))(s:B1)(σ:St)(H:Hp)(R:Hp->Prop),Inv X pins σ H s->t σ H R ->
  wpAny (model X.prog X.w) X.A em (λ_ s'=>∃H',Inv X pins σ H' s'/\R H') X.xe s
def sQ(g:TG)(tt:TT)(tem:TM)(J:It)(τ:St)(H:Hp)(Q:Hp->Prop):Prop :=
 ∃W:Nat->Nat->St->Hp->Prop,(∃m,W 0 m τ H)/\∀i m τ H,W i m τ H ->
  (J.stop i H/\Q H)\/(J.go i H/\∃N:St->Hp->Prop,(∀τ' H',N τ' H'->∃m',m'<m/\W (i+1) m' τ' H')/\∀x H',J.yld i H x H'->g x τ H' λτ2 H2=>tt τ2 H2 λb H3=>
   if b=true then tem τ2 H3 (N τ2) else N τ2 H3)
noncomputable def iG(target iter:Expr)(ifs:List Expr)(em:Sem Unit)(it:Value)(env:Env)(nxt:Sem Fin):Sem Fin:=do
 K0 iter.pos
 match <-JH it with
 |none=>pure (.done .next)
 |some v=>
  JI target it v
  IG target env v
  let mut ok:=true
  for c in ifs do
   if ok then ok <-Lx c env (eval c env)
  if ok then em
  nxt
section
variable{X:Cx}{e target iter:Expr}{ifs:List Expr}{g:TG}{tt:TT}{tem:TM}{acc:Value}{em:Sem Unit}
theorem nh{it:Addr}{fp:List Addr}{tn:Nat->Heap->Prop}{J:It}{τ:St}{H:Hp}{s:B1}{Q:Hp->Prop}{R:LU->B1->Prop}
  (ht:Kw e 0 (.ref it) acc X.env=iG target iter ifs em (.ref it) X.env (again (.compLoop e 0 (.ref it) acc X.env)))
  (hd:∀(Q:Fin->B1->Prop)(E:Value->B1->Prop)(s:B1),wpAny (model X.prog X.w) X.A ((Kw e 0 (.ref it) acc X.env).onRaise (λx=>do noteFrame x X.env; theTreesLotGoes x)) Q E s ->
   wpAny (model X.prog X.w) (X.A.under (.compLoop e 0 (.ref it) acc X.env)) ((model X.prog X.w).den (.compLoop e 0 (.ref it) acc X.env)) Q E s)
  (hq:(NN e 0 (.ref it) acc X.env).quiet=true)
  (hc:X.calm=true) (hx:X.xe=λ_ _=>False) (hg:PG X target g) (hi:j7 X ifs tt) (he:Ek X em tem) (T:Turn X.prog X.w X.K target J fp it tn)
  (I:Inv X [] τ H s) (st:tn 0 s.heap) (hf:∀b∈fp,ic X [] H b) (h:sQ g tt tem J τ H Q) (hR:∀τ' H' s',Inv X [] τ' H' s'->Q H'->R (.ok .next) s') :
  Hu (model X.prog X.w) X.A (.compLoop e 0 (.ref it) acc X.env) R s:=by
 obtain⟨W,⟨m0,w0⟩,turn⟩:=h;have stat:∀{H':Hp},(∀b∈fp,H' b=none)->∀b∈fp,ic X [] H' b:=λhn b hb=>⟨hn b hb,(hf b hb).2⟩
 have noX:∀{α:Type}{t:Sem α}{Q:α->B1->Prop}{s':B1}{E:Value->B1->Prop},wpAny (model X.prog X.w) X.A t Q X.xe s'->wpAny (model X.prog X.w) X.A t Q E s':=λ{α t Q s' E}h' =>
  Gz h' (λ_ _ q=>q) λ_ _ z=>by rw[hx] at z; exact z.elim
 refine codeAny_loop hq (λn s'=>∃i τ' H',Inv X [] τ' H' s'/\tn i s'.heap/\(∀b∈fp,H' b=none)/\W i n τ' H') ?_ m0 ⟨0,τ,H,I,st,λb hb=>(hf b hb).1,w0⟩
 rintro n s3 ⟨i,σ3,H3,I3,st3,fr3,w3⟩;refine hd _ _ _ (wpAny_noted ?_);rw[ht];unfold iG;refine AC (Hn (AC ?_));rcases turn i n σ3 H3 w3 with⟨stop,qn⟩ | ⟨go,Nx,hNx,step⟩
 ·refine bD (T.done X rfl rfl rfl hc i [] s3 σ3 H3 _ I3 (stat fr3) st3 stop) λr s4 ⟨hr,I4⟩=>?_
  subst hr;exact BM (hR _ _ _ I4 qn)
 ·refine bD (T.item X rfl rfl rfl hc i [] s3 σ3 H3 _ I3 (stat fr3) st3 go) λr s4 ⟨u,hr,h4⟩=>?_
  subst hr;refine AC (bD h4 λ_ s5 ⟨x,H5,I5,r5,y5,st5,fr5⟩=>?_)
  have I5':=I5.pinned (stat fr5) (T.obj _ _ st5);refine AC (noX (bD (hg _ s5 σ3 H5 x u _ I5' r5 (step x H5 y5)) λ_ s6 ⟨σ6,H6,I6,q6⟩=>?_))
  have again':∀{σ7:St}{H7:Hp}{s7:B1},Inv X ([]++jw fp s5.heap) σ7 H7 s7->(∃m',m'<n/\W (i+1) m' σ7 H7)->∃m,m<n/\∃i σ' H',Inv X [] σ' H' s7/\tn i s7.heap/\(∀b∈fp,H' b=none)/\W i m σ' H':=λ{σ7 H7 s7}I7 n7=>by
   obtain⟨m',hm,w7⟩:=n7;refine⟨m',hm,i+1,σ7,H7,I7.gw,T.keep _ _ _ st5 λb hb o e=>(I7.pin (b,o) (lR _ (lR _ (di hb e)))).1,λb hb=>?_,w7⟩
   obtain⟨o,e,d⟩:=T.obj _ _ st5 b hb;exact(I7.pin (b,o) (lR _ (lR _ (di hb e)))).2.1
  refine AC (noX (bD (hi _ s6 σ6 H6 _ I6 q6) λok s7 ⟨H7,I7,q7⟩=>?_))
  cases ok with
  |false=>exact BM ⟨rfl,again' I7 (hNx _ _ q7)⟩
  |true=>
   refine AC (noX (bD (he _ s7 σ6 H7 _ I7 q7) λ_ s8 ⟨H8,I8,q8⟩=>?_))
   exact BM ⟨rfl,again' I8 (hNx _ _ q8)⟩
end
noncomputable def eApp(D:Addr)(te:TE):TM:=λσ H R=>te σ H λy H1=>∃xs,H1 D=some (.lst xs)/\xs.length<E6/\R (upd H1 D (.lst (xs++[y])))
theorem wC{X:Cx}{elt:Expr}{te:TE}{D:Addr}(h:PE X elt te):Ek X (do let _ <-call (.builtin "list.append") [.ref D,<-eval elt X.env]) (eApp D te):=by
 intro pins s σ H R I hq;refine AC (bD (h pins s σ H _ I hq) λu s1 ⟨y,H1,I1,r1,xs,hD,hz,q⟩=>?_)
 refine AC (bD (jx pins s1 σ H1 (.ref D) [y] (.ref D) [u] (λ_ H'=>R H') I1 rfl (.cons r1 .nil) ⟨D,xs,y,rfl,rfl,hD,hz,q⟩) λ_ s2 ⟨v,H2,I2,_,q2⟩=>?_)
 exact BM ⟨H2,I2,q2⟩
noncomputable def C8(fr:List (Option Nat))(wi:TI)(g:Bk->TG)(tt:Bk->TT)(te:Bk->TE):TE:=λσ H Q=>wi σ H λJ H1=>∀D,H1 D=none->∀z,sQ (g z) (tt z) (eApp D (te z)) J (mj fr σ) (upd H1 D (.lst [])) λH'=>Q (.ref D) H'
section
variable{X:Cx}
theorem iV{pins:List (Addr×Obj)}{σ τ:St}{H1 H3 H':Hp}{s2 s3 s':B1}{fp:List Addr}{scope:Scope}{cl:List (Str×Addr)}{N:List Str}{h':Heap}
  (I2:Inv X pins σ H1 s2) (hf:∀b∈fp,ic X pins H1 b) (u23:Un (frs X.stack) [] H1 H3 s2.heap s3.heap) (ho:s3.os=s2.os) (hs:s2.heap.objs.size<=s3.heap.objs.size)
  (J:Inv (aA X scope cl N s3.heap.objs.size fp s3 H3) [] τ H' s') (sb:HU s3.heap.objs.size s'.heap h'):Inv X pins σ H' { s' with heap:=h' }:=by
 have hC:H' s3.heap.objs.size=none:=J.free;have hbase:Un (frs X.stack) fp H3 H' s3.heap s'.heap:=J.base;have u3:Un (frs X.stack) fp H1 H' s2.heap s'.heap:=(u23.mono (λ_ z=>z) (λ_ z=>nomatch z)).trans hbase
 have ne:∀b o,s2.heap.get? b=some o->b≠s3.heap.objs.size:=λb o e=>E1 (FL (Ch e) hs)
 have u:Un (frs X.stack) fp H1 H' s2.heap h':=⟨λb o e n h1 h2=>(sb.2 b (ne b o e)).trans (u3.keep b o e n h1 h2),λb o e n h1 h2=>by
   obtain⟨sl,q⟩:=u3.slot b o e n h1 h2;exact⟨sl,(sb.2 b (ne b o e)).trans q⟩,u3.free,λb o e h2=>by
   obtain⟨o',q⟩:=u3.there b o e h2;exact⟨o',(sb.2 b (ne b o e)).trans q⟩,u3.tups,u3.dH,u3.tbls⟩
 have hok:iQ X.prog X.w H' h':=λb ob e=>by
  have q:cS X.prog X.w H' s'.heap b ob:=J.hok b ob e;refine q.stay (λc w' hc q=>(sb.2 c ?_).trans q) (λ_ q=>q) λ_ _ q=>q
  intro z;rw[z] at hc;rcases hc with rfl | hc
  ·rw[hC] at e; cases e
  ·rw[hC] at hc; cases hc
 refine I2.call' (s':={ s' with heap:=h' }) (H':=H') (ch:=fp) (J.os.trans ho) u hok J.bare λb hb=>?_
 obtain⟨_,f1,_,f3,f4,f5⟩:=hf b hb;exact⟨f3,f1,f4,f5⟩
theorem wF{elt target iter:Expr}{ifs:List Expr}{scope:Scope}{pos:Pos}{N:List Str}{fr:List (Option Nat)}{wi:TI}{g:Bk->TG}{tt:Bk->TT}{te:Bk->TE}(hc:X.calm=true)(S:aR X scope N fr)(hi:PI X target iter wi)
  (hin:∀z:Bk,PG (aA X scope z.cl N z.C z.fp z.s z.H) target (g z)/\j7 (aA X scope z.cl N z.C z.fp z.s z.H) ifs (tt z)/\PE (aA X scope z.cl N z.C z.fp z.s z.H) elt (te z))
  (hs:∀x,FY iter X.env x=pure x:=by intro _; rfl):PE X (.ListComp elt [⟨target,iter,ifs,0⟩] scope pos) (C8 fr wi g tt te):=by
 intro pins s σ H Q I h;rw[eval_ListComp];refine IT (g:=⟨target,iter,ifs,0⟩) (gs:=[]) (use:=none) rfl hs (cC (S.cells I)) S.kind S.locs ?_;refine bD (hi pins s σ H _ I h) λv s1 h1=>bD h1 λitv s2 h2=>?_
 obtain⟨it,fp,tn,J,H2,e,I2,T,st2,f2,h2⟩:=h2;subst e;refine FU ?_;have hD:H2 s2.heap.objs.size=none:=I2.fresh;have I3:=I2.wj (t':=s2.toks) (ys:=[]) (its:=[]) .nil (FV _);have lt2:∀b∈fp,b<s2.heap.objs.size:=λb hb=>by
  obtain⟨o,e,_⟩:=T.obj _ _ st2 b hb;exact Ch e
 have f3:∀b∈fp,ic X pins (upd H2 s2.heap.objs.size (.lst [])) b:=λb hb=>⟨by rw[aZ (E1 (lt2 b hb))]; exact(f2 b hb).1,(f2 b hb).2⟩
 generalize hs3:({ s2 with heap:=s2.heap.push { cls:=.type "list",data:=.seq ([]:List Value).toArray } }:B1)=s3
 have I3:Inv X pins σ (upd H2 s2.heap.objs.size (.lst [])) s3:=by rw[<-hs3]; exact I3
 have sz3:s3.heap.objs.size=s2.heap.objs.size+1:=by rw[<-hs3]; exact GN ..
 have u23:Un (frs X.stack) [] H2 (upd H2 s2.heap.objs.size (.lst [])) s2.heap s3.heap:=by
  rw[<-hs3];exact Un.laid (λb o e=>At _ e) (Da _) hD
 have ho:s3.os=s2.os:=by rw[<-hs3]
 have st3:tn 0 s3.heap:=T.keep _ _ _ st2 λb _ o e=>by rw[<-hs3]; exact At _ e
 refine J9 S.nocell (by intro y hy; simp at hy) (λh4 hns hsb=>?_) S.kind
 have lt3:∀b∈fp,b<s3.heap.objs.size:=λb hb=>FL (lt2 b hb) (by rw[sz3]; exact GU _)
 have I4:=iU (tk:=s3.toks+([]:List (Str×Value)).length) I3 S f3 lt3 hns hsb;have old4:∀b o,s3.heap.get? b=some o->h4.get? b=some o:=λb o e=>(hsb.2 b (E1 (Ch e))).trans (At _ e)
 have st4:tn 0 h4:=T.keep _ _ _ st3 λb _ o e=>old4 b o e
 have h2:=h2 _ hD ⟨aH X.env.cells scope.names [],s3.heap.objs.size,fp,s3,upd H2 s2.heap.objs.size (.lst [])⟩;obtain⟨hg,hif,hel⟩:=hin ⟨aH X.env.cells scope.names [],s3.heap.objs.size,fp,s3,upd H2 s2.heap.objs.size (.lst [])⟩;have loop:Hu (model X.prog X.w) X.A (.compLoop (.ListComp elt [⟨target,iter,ifs,0⟩] scope pos) 0 (.ref it) (.ref s2.heap.objs.size) (KN scope (aH X.env.cells scope.names []) s3.heap.objs.size X.env))
   (Ms (model X.prog X.w) X.A X.xe none (EP X pins σ Q) (.ref s2.heap.objs.size) s3.heap.objs.size) { s3 with heap:=h4,toks:=s3.toks+([]:List (Str×Value)).length }:=by
  refine nh (X:=aA X scope (aH X.env.cells scope.names []) N s3.heap.objs.size fp s3 (upd H2 s2.heap.objs.size (.lst []))) (em:=(do let _ <-call (.builtin "list.append") [.ref s2.heap.objs.size,<-eval elt (KN scope (aH X.env.cells scope.names []) s3.heap.objs.size X.env)]))
   (compTurn_list ..) (λ_ _ _ z=>z) rfl hc rfl hg hif (wC hel) T I4 st4 (λb hb=>?_) h2 (λτ' H' s' J' q=>?_)
  ·obtain⟨f0,f1,fs,fe,fc,fp'⟩:=f3 b hb
   refine⟨f0,E1 (lt3 b hb),λz=>?_,.inl hb,λx c e=>fc x c (dI scope.names [] (λ_ _ z=>by simp at z) e),λp hp=>absurd (show p∈([]:List (Addr×Obj)) from hp) (by simp)⟩
   rcases lK (I3.iD b z) with z | z
   ·exact f1 z
   ·exact fs z
  ·obtain⟨m,hn,_⟩:=J'.loc
   exact⟨m,hn,λh' sb=>⟨.ref s2.heap.objs.size,H',iV I2 f2 u23 ho (by rw[sz3]; exact GU _) J' sb,rfl,q⟩⟩
 exact Ii loop (T.self X.A 0 _ _ _ st4 loop)
end
end L2
end
section
namespace L2
open PySem PySem.W PyProof.Rows
structure Ord(lt:Nat->Nat->Bool):Prop where
 asym:∀a b,lt a b=true->lt b a=false
 trans:∀a b c,lt b a=false->lt c b=false->lt c a=false
section
variable{lt:Nat->Nat->Bool}{N:Nat}
noncomputable abbrev gD(p:Array Nat)(i:Nat):Nat:=p.getD i 0
def C9(lt:Nat->Nat->Bool)(p:Array Nat)(m:Nat):Prop:=∀i j,i<=j->j<m->lt (gD p j) (gD p i)=false
def Pm(N:Nat)(p:Array Nat):Prop:=p.Perm (KY (FD N))
theorem Pm.size{p:Array Nat}(h:Pm N p):p.size=N:=by
 have:=h.size_eq;simpa using this
theorem sR(O:Ord lt)(a:Nat):lt a a=false:=by
 cases q:lt a a with
 |false=>rfl
 |true=>rw[O.asym _ _ q] at q; cases q
end
end L2
end
section
namespace TS
open PySem PySem.W PyProof.Rows L2
noncomputable def oq:Bool->Keyed->Array Keyed->Nat->Nat->Nat->StateT Fd Sem (Option Nat):=sortPriv% PySem.Builtin.gallop
noncomputable def wG:Array Keyed->Array Keyed->StateT Fd Sem (Array Keyed):=sortPriv% PySem.Builtin.mergeLo
noncomputable def wH:Array Keyed->Array Keyed->StateT Fd Sem (Array Keyed):=sortPriv% PySem.Builtin.mergeHi
noncomputable def ze:Nat->StateT Fd Sem Unit:=sortPriv% PySem.Builtin.setMinGallop
section
variable{prog:FB}{w:World}{A:Fa}{S:B1}{κ:HC}{it:Array Keyed}{lt:Nat->Nat->Bool}{N:Nat}
def vD(prog:FB)(w:World)(A:Fa)(S:B1)(κ:HC)(it:Array Keyed)(lt:Nat->Nat->Bool)(N:Nat):Prop :=
 ∀i j,i<N->j<N->∀C:Bool->B1->Prop,C (lt i j) S->wpAny (model prog w) A (NO κ (GW it i).1 (GW it j).1) C (λ_ _=>False) S
abbrev W(prog:FB)(w:World)(A:Fa)(S:B1){α:Type}(m:StateT Fd Sem α)(Q:α->Fd->Prop)(st:Fd):Prop:=wpS (model prog w) A (λ_ _=>False) S m Q st
theorem w_lt(c:vD prog w A S κ it lt N){i j:Nat}(hi:i<N)(hj:j<N){st:Fd}(hk:kindOf st=κ){Q:Option Bool->Fd->Prop}(h:Q (some (lt i j)) st):W prog w A S (lt' (GW it i) (GW it j)) Q st:=by
 show wpS _ _ _ _ _ _ _;rw[lt'_eq];refine D2 (Jm ?_);rw[hk];refine D2 (KP (Jn (Gz (c i j hi hj (λb s'=>s'=S/\b=lt i j) ⟨rfl,rfl⟩) (λb s' e=>?_) λ_ _ z=>z.elim)))
 obtain⟨rfl,rfl⟩:=e;exact⟨rfl,E2 h⟩
theorem bz{xs:List Nat}{i:Nat}(hi:i<xs.length){st:Fd}{Q:Keyed->Fd->Prop}(h:Q (GW it xs[i]) st):W prog w A S (elem' ((xs.map (GW it)).toArray) i) Q st:=by
 show wpS _ _ _ _ _ _ _;rw[elem'_eq];have e:((xs.map (GW it)).toArray)[i]? = some (GW it xs[i]):=by simp[hi]
 rw[e];exact E2 h
structure Cut(B:Nat->Bool)(n k:Nat):Prop where
 le:k<=n
 lo:∀i,i<k->B i=true
 hi:∀i,k<=i->i<n->B i=false
theorem cutB{H G:Nat->Nat->Prop}{P:Prop}(k:(∀l o,H l o->G l o)->P)(g:∀l o,H l o->G l o):P:=k g
inductive El{β:Type}(B:Nat->Bool)(hint n x:Nat)(c:Option β×Nat×Nat):Prop
 |mk (l o:Nat):c=(none,l,o)->B (hint+l)=true->hint+l<n->l<o->x<o->El B hint n x c
inductive Em{β:Type}(B:Nat->Bool)(hint n:Nat)(c:Option β×Nat×Nat):Prop
 |mk (l o:Nat):c=(none,l,o)->B (hint+l)=true->hint+l<n->l<o->(o>=n-hint\/(o<n-hint/\B (hint+o)=false))->Em B hint n c
inductive En{β:Type}(B:Nat->Bool)(hint x:Nat)(c:Option β×Nat×Nat):Prop
 |mk (l o:Nat):c=(none,l,o)->B (hint-l)=false->l<=hint->l<o->x<o->En B hint x c
inductive Eo{β:Type}(B:Nat->Bool)(hint:Nat)(c:Option β×Nat×Nat):Prop
 |mk (l o:Nat):c=(none,l,o)->B (hint-l)=false->l<=hint->l<o->(o>=hint+1\/(o<hint+1/\B (hint-o)=true))->Eo B hint c
inductive DU(B:Nat->Bool)(n lo hi:Nat):Prop
 |mk:lo<=hi->hi<=n->(∀i,i<lo->B i=true)->(∀i,hi<=i->i<n->B i=false)->DU B n lo hi
inductive Ep{β:Type}(B:Nat->Bool)(n x:Nat)(c:Option β×Nat×Nat):Prop
 |mk (lo hi:Nat):c=(none,lo,hi)->hi-lo<=n-x->DU B n lo hi->Ep B n x c
inductive Er{β:Type}(B:Nat->Bool)(n:Nat)(c:Option β×Nat×Nat):Prop
 |mk (hi:Nat):c=(none,hi,hi)->Cut B n hi->Er B n c
theorem kO{B:Nat->Bool}{n hint:Nat}(mono:∀i j,i<=j->j<n->B j=true->B i=true)(hh:hint<n){left:Bool}{key:Keyed}{xs:Array Keyed}{base:Nat}{P:Fd->Prop}
  (hb:∀i,i<n->∀st,P st->∀(Q:Option Bool->Fd->Prop),Q (some (B i)) st->W prog w A S (do
   let x <-elem' xs (base+i)
   if left=true then lt' x key else return (<-lt' key x).map (!·)) Q st)
  {st:Fd} (hP:P st) {Q:Option Nat->Fd->Prop} (h:∀k,Cut B n k->Q (some k) st):W prog w A S (oq left key xs base n hint) Q st:=by
 refine D2 (hb hint hh st hP _ ?_);refine cutB (H:=DU B n) (λkey=>by
  cases e0:B hint with
  |true=>
   show wpS _ _ _ _ _ _ _;dsimp only;rw[if_pos rfl];refine D2 (HR (GS (I:=λx c st'=>st=st'/\El B hint n x c) (Q:=λc st'=>st=st'/\Em B hint n c) ?_ ?_ ⟨rfl,0,1,rfl,e0,hh,by lia,by lia⟩) ?_)
   ·rintro x c st' _ hx ⟨rfl,l,o,rfl,k1,k2,k3,k4⟩
    dsimp only
    by_cases hge:o>=n-hint
    ·rw[if_pos hge]; exact E2 ⟨rfl,l,o,rfl,k1,k2,k3,.inl hge⟩
    ·rw[if_neg hge]
     refine D2 (hb _ (by lia) st hP _ ?_)
     cases e:B (hint+o) with
     |true=>exact E2 ⟨rfl,_,_,rfl,e,by lia,by lia,by lia⟩
     |false=>exact E2 ⟨rfl,l,o,rfl,k1,k2,k3,.inr ⟨by lia,e⟩⟩
   ·rintro c st' ⟨rfl,l,o,rfl,k1,k2,k3,k4⟩
    exact⟨rfl,l,o,rfl,k1,k2,k3,.inl (by lia)⟩
   ·rintro c st' ⟨rfl,l,o,rfl,k1,k2,k3,k4⟩
    obtain⟨lo,elo⟩:∃lo,lo=hint+l+1:=⟨_,rfl⟩;obtain⟨hi,ehi⟩:∃hi,hi=hint+min o (n-hint):=⟨_,rfl⟩;have l1:lo<=hi:=by lia
    have l2:hi<=n:=by lia
    have l3:∀i,i<lo->B i=true:=λi hi=>by
     exact mono i _ (by lia) k2 k1
    have l4:∀i,hi<=i->i<n->B i=false:=λi h1 h2=>by
     rcases k4 with k4 | ⟨k4,k5⟩
     ·lia
     ·cases q:B i with
      |false=>rfl
      |true=>rw[mono _ i (by lia) h2 q] at k5; cases k5
    dsimp only;rw[<-elo,<-ehi];exact key lo hi ⟨l1,l2,l3,l4⟩
  |false=>
   show wpS _ _ _ _ _ _ _;dsimp only;rw[if_neg (by simp)]
   refine D2 (HR (GS (I:=λx c st'=>st=st'/\En B hint x c) (Q:=λc st'=>st=st'/\Eo B hint c) ?_ ?_ ⟨rfl,0,1,rfl,e0,by lia,by lia,by lia⟩) ?_)
   ·rintro x c st' _ hx ⟨rfl,l,o,rfl,k1,k2,k3,k4⟩
    dsimp only
    by_cases hge:o>=hint+1
    ·rw[if_pos hge]; exact E2 ⟨rfl,l,o,rfl,k1,k2,k3,.inl hge⟩
    ·rw[if_neg hge]
     refine D2 (hb _ (by lia) st hP _ ?_)
     cases e:B (hint-o) with
     |false=>exact E2 ⟨rfl,_,_,rfl,e,by lia,by lia,by lia⟩
     |true=>exact E2 ⟨rfl,l,o,rfl,k1,k2,k3,.inr ⟨by lia,e⟩⟩
   ·rintro c st' ⟨rfl,l,o,rfl,k1,k2,k3,k4⟩
    exact⟨rfl,l,o,rfl,k1,k2,k3,.inl (by lia)⟩
   ·rintro c st' ⟨rfl,l,o,rfl,k1,k2,k3,k4⟩
    obtain⟨lo,elo⟩:∃lo,lo=hint+1-min o (hint+1):=⟨_,rfl⟩;obtain⟨hi,ehi⟩:∃hi,hi=hint-l:=⟨_,rfl⟩;have l1:lo<=hi:=by lia
    have l2:hi<=n:=by lia
    have l3:∀i,i<lo->B i=true:=λi hi=>by
     rcases k4 with k4 | ⟨k4,k5⟩
     ·lia
     ·exact mono i _ (by lia) (by lia) k5
    have l4:∀i,hi<=i->i<n->B i=false:=λi h1 h2=>by
     cases q:B i with
     |false=>rfl
     |true=>rw[mono _ i (by lia) h2 q] at k1; cases k1
    dsimp only;rw[<-elo,<-ehi];exact key lo hi ⟨l1,l2,l3,l4⟩) ?_
 rintro lo hi ⟨l1,l2,l3,l4⟩;refine D2 (HR (GS (I:=λx c st''=>st=st''/\Ep B n x c) (Q:=λc st''=>st=st''/\Er B n c) ?_ ?_ ⟨rfl,lo,hi,rfl,by lia,l1,l2,l3,l4⟩) ?_)
 ·rintro x c st'' _ hx ⟨rfl,lo,hi,rfl,l5,l1,l2,l3,l4⟩
  dsimp only
  by_cases hge:lo>=hi
  ·rw[if_pos hge]
   have:lo=hi:=by lia
   subst this;exact E2 ⟨rfl,lo,rfl,l2,l3,l4⟩
  ·rw[if_neg hge]
   refine D2 (hb _ (by lia) st hP _ ?_)
   cases e:B (lo+(hi-lo) / 2) with
   |true=>exact E2 ⟨rfl,_,_,rfl,by lia,by lia,l2,λi hi'=>mono i _ (by lia) (by lia) e,l4⟩
   |false=>
    refine E2 ⟨rfl,_,_,rfl,by lia,by lia,by lia,l3,λi h1 h2=>?_⟩
    cases q:B i with
    |false=>rfl
    |true=>rw[mono _ i h1 h2 q] at e; cases e
 ·rintro c st'' ⟨rfl,lo,hi,rfl,l5,l1,l2,l3,l4⟩
  have:lo=hi:=by lia
  subst this;exact⟨rfl,lo,rfl,l2,l3,l4⟩
 ·rintro c st'' ⟨rfl,hi,rfl,hc⟩
  exact E2 (h hi hc)
end
def Sd(lt:Nat->Nat->Bool)(l:List Nat):Prop:=l.Pairwise λx y=>lt y x=false
structure MI(lt:Nat->Nat->Bool)(a b out:List Nat)(ia ib:Nat):Prop where
 perm:out.Perm (a.take ia++b.take ib)
 srt:Sd lt out
 lea:∀o∈out,∀r∈a.drop ia,lt r o=false
 leb:∀o∈out,∀r∈b.drop ib,lt r o=false
section
variable{lt:Nat->Nat->Bool}{a b out:List Nat}{ia ib:Nat}
theorem MI.sym(m:MI lt a b out ia ib):MI lt b a out ib ia:=⟨m.perm.trans Gk,m.srt,m.leb,m.lea⟩
theorem uD(l:List Nat)(i k:Nat):l.take (i+k)=l.take i++(l.drop i).take k:=by rw[List.take_add]
theorem mq{l:List Nat}{i k:Nat}{x:Nat}(h:x∈(l.drop i).take k):x∈l.drop i:=Ge h
theorem ou{l:List Nat}{i k:Nat}{x:Nat}(h:x∈l.drop (i+k)):x∈l.drop i:=by rw[<-HJ] at h; exact HV h
theorem Sd.drop(h:Sd lt a)(i:Nat):Sd lt (a.drop i):=Kp (List.drop_sublist i a) h
theorem Sd.take(h:Sd lt a)(i:Nat):Sd lt (a.take i):=Kp (KZ i a) h
theorem MI.ig(m:MI lt a b out ia ib)(ha:Sd lt a)(k:Nat)(h:∀x∈(a.drop ia).take k,∀r∈b.drop ib,lt r x=false):MI lt a b (out++(a.drop ia).take k) (ia+k) ib:=by
 have hs:=ha.drop ia;refine⟨?_,?_,λo ho r hr=>?_,λo ho r hr=>?_⟩
 ·rw[uD]
  have h1:(out++(a.drop ia).take k).Perm ((a.take ia++b.take ib)++(a.drop ia).take k):=m.perm.append_right _;refine h1.trans ?_;rw[Bi,Bi];exact G4 _ Gk
 ·exact FK.mpr ⟨m.srt,Sd.take hs k,λo ho r hr=>m.lea o ho r (mq hr)⟩
 ·rcases lM ho with ho | ho
  ·exact m.lea o ho r (ou hr)
  ·have h2:=hs
   unfold Sd at h2;rw[<-EZ k (a.drop ia)] at h2;rw[<-HJ] at hr;exact(FK.mp h2).2.2 o ho r hr
 ·rcases lM ho with ho | ho
  ·exact m.leb o ho r hr
  ·exact h o ho r hr
theorem MI.jT(m:MI lt a b out ia ib)(hb:Sd lt b)(k:Nat)(h:∀x∈(b.drop ib).take k,∀r∈a.drop ia,lt r x=false):MI lt a b (out++(b.drop ib).take k) ia (ib+k):=(m.sym.ig hb k h).sym
theorem take_one{l:List Nat}{i:Nat}(h:i<l.length):(l.drop i).take 1=[l[i]]:=by
 rw[Fv h,List.take_succ_cons,LM]
def Res(lt:Nat->Nat->Bool)(a b res:List Nat):Prop:=Sd lt res/\res.Perm (a++b)
theorem MI.done(m:MI lt a b out ia ib)(ha:Sd lt a)(hb:Sd lt b)(h:ib=b.length\/ia=a.length):Res lt a b (out++a.drop ia++b.drop ib):=by
 refine⟨?_,?_⟩
 ·refine FK.mpr ⟨FK.mpr ⟨m.srt,ha.drop ia,λo ho r hr=>m.lea o ho r hr⟩,hb.drop ib,λo ho r hr=>?_⟩
  rcases lM ho with ho | ho
  ·exact m.leb o ho r hr
  ·rcases h with h | h
   ·rw[h,Ic] at hr; cases hr
   ·rw[h,Ic] at ho; cases ho
 ·have:(out++a.drop ia++b.drop ib).Perm ((a.take ia++b.take ib)++a.drop ia++b.drop ib):=(m.perm.append_right _).append_right _
  refine this.trans ?_;have e:a++b=(a.take ia++a.drop ia)++(b.take ib++b.drop ib):=by rw[EZ,EZ]
  rw[e,Bi (a.take ia),Bi (a.take ia),Bi (a.take ia)];refine G4 _ ?_;rw[<-Bi (a.drop ia)];exact Gk.append_right _
theorem MI.sU(m:MI lt a b out ia ib)(ha:Sd lt a)(hb:Sd lt b)(h:∀y∈b,∀x∈a.drop ia,lt x y=false):Res lt a b (out++b.drop ib++a.drop ia):=by
 refine⟨?_,?_⟩
 ·refine FK.mpr ⟨FK.mpr ⟨m.srt,hb.drop ib,λo ho r hr=>m.leb o ho r hr⟩,ha.drop ia,λo ho r hr=>?_⟩
  rcases lM ho with ho | ho
  ·exact m.lea o ho r hr
  ·exact h o (HV ho) r hr
 ·have:(out++b.drop ib++a.drop ia).Perm ((a.take ia++b.take ib)++b.drop ib++a.drop ia):=(m.perm.append_right _).append_right _
  refine this.trans ?_;have e:a++b=(a.take ia++a.drop ia)++(b.take ib++b.drop ib):=by rw[EZ,EZ]
  rw[e,Bi (a.take ia),Bi (a.take ia),Bi (a.take ia),EZ];exact G4 _ Gk
end
section
variable{prog:FB}{w:World}{A:Fa}{S:B1}{κ:HC}{it:Array Keyed}{lt:Nat->Nat->Bool}{N:Nat}
theorem ni(c:vD prog w A S κ it lt N){key:Nat}(hk:key<N){xs:List Nat}(hx:∀x∈xs,x<N){base n:Nat}(hn:base+n<=xs.length)(left:Bool)(i:Nat)(hi:i<n)(st:Fd)(hst:kindOf st=κ)(Q:Option Bool->Fd->Prop)
  (h:Q (some (if left=true then lt (xs.getD (base+i) 0) key else !lt key (xs.getD (base+i) 0))) st):W prog w A S (do
   let x <-elem' ((xs.map (GW it)).toArray) (base+i)
   if left=true then lt' x (GW it key) else return (<-lt' (GW it key) x).map (!·)) Q st:=by
 have hb:base+i<xs.length:=by lia
 have e:xs.getD (base+i) 0=xs[base+i]:=by simp[K5,hb]
 have hxi:xs[base+i]<N:=hx _ (GT hb);rw[e] at h;refine D2 (bz hb ?_);cases left with
 |true=>
  rw[if_pos rfl];rw[if_pos rfl] at h;exact w_lt c hxi hk hst h
 |false=>
  rw[if_neg (by simp)]
  rw[if_neg (by simp)] at h
  exact D2 (w_lt c hk hxi hst (E2 h))
theorem kP(O:Ord lt)(c:vD prog w A S κ it lt N){key:Nat}(hk:key<N){xs:List Nat}(hx:∀x∈xs,x<N){base n hint:Nat}(hn:base+n<=xs.length)(hs:Sd lt ((xs.drop base).take n))(hh:hint<n){st:Fd}(hst:kindOf st=κ){Q:Option Nat->Fd->Prop}
  (h:∀k,k<=n->(∀x∈(xs.drop base).take k,lt key x=false)->(∀x∈((xs.drop base).take n).drop k,lt key x=true)->Q (some k) st):W prog w A S (oq false (GW it key) ((xs.map (GW it)).toArray) base n hint) Q st:=by
 have at_:∀i,i<n->((xs.drop base).take n)[i]? = some (xs.getD (base+i) 0):=λi hi=>by
  rw[GH hi,IQ,Do (by lia)]
  simp[K5,show base+i<xs.length by lia]
 have le:∀i j,i<=j->j<n->lt (xs.getD (base+j) 0) (xs.getD (base+i) 0)=false:=λi j hij hj=>by
  by_cases e:i=j
  ·subst e; exact sR O _
  ·obtain⟨h1,e1⟩:=EY.mp (at_ i (by lia))
   obtain⟨h2,e2⟩:=EY.mp (at_ j hj);have:=GQ.mp hs i j h1 h2 (by lia)
   rw[e1,e2] at this;exact this
 refine kO (B:=λi=> !lt key (xs.getD (base+i) 0)) (n:=n) (P:=λst=>kindOf st=κ) (λi j hij hj q=>?_) hh (λi hi st hst Q q=>ni c hk hx hn false i hi st hst Q (by simpa using q)) hst λk cut=>h k cut.le (λx hx' =>?_) λx hx' =>?_
 ·have q:lt key (xs.getD (base+j) 0)=false:=by simpa using q
  have:=O.trans _ _ _ (le i j hij hj) q;simpa using this
 ·obtain⟨i,hi,e⟩:=IF hx'
  have hl:=hi;rw[FH] at hl;have ek:=cut.lo i (by lia)
  have e2:=at_ i (by have:=cut.le; lia)
  have hik:i<k:=by lia
  have hin:i<n:=by have:=cut.le; lia
  have e3:((xs.drop base).take k)[i]? = some x:=by rw[Do hi,e]
  rw[GH hik] at e3;rw[GH hin,e3] at e2;rw[<-FX e2] at ek;simpa using ek
 ·obtain⟨i,hi,e⟩:=IF hx'
  rw[FP,FH,FP] at hi;rw[Mf] at e;have e2:=at_ (k+i) (by lia)
  rw[Do (by rw[FH,FP]; lia),e] at e2
  have ek:=cut.hi (k+i) (by lia) (by lia)
  rw[<-FX e2] at ek;simpa using ek
theorem kQ(O:Ord lt)(c:vD prog w A S κ it lt N){key:Nat}(hk:key<N){xs:List Nat}(hx:∀x∈xs,x<N){base n hint:Nat}(hn:base+n<=xs.length)(hs:Sd lt ((xs.drop base).take n))(hh:hint<n){st:Fd}(hst:kindOf st=κ){Q:Option Nat->Fd->Prop}
  (h:∀k,k<=n->(∀x∈(xs.drop base).take k,lt x key=true)->(∀x∈((xs.drop base).take n).drop k,lt x key=false)->Q (some k) st):W prog w A S (oq true (GW it key) ((xs.map (GW it)).toArray) base n hint) Q st:=by
 have at_:∀i,i<n->((xs.drop base).take n)[i]? = some (xs.getD (base+i) 0):=λi hi=>by
  rw[GH hi,IQ,Do (by lia)]
  simp[K5,show base+i<xs.length by lia]
 have le:∀i j,i<=j->j<n->lt (xs.getD (base+j) 0) (xs.getD (base+i) 0)=false:=λi j hij hj=>by
  by_cases e:i=j
  ·subst e; exact sR O _
  ·obtain⟨h1,e1⟩:=EY.mp (at_ i (by lia))
   obtain⟨h2,e2⟩:=EY.mp (at_ j hj);have:=GQ.mp hs i j h1 h2 (by lia)
   rw[e1,e2] at this;exact this
 refine kO (B:=λi=>lt (xs.getD (base+i) 0) key) (n:=n) (P:=λst=>kindOf st=κ) (λi j hij hj q=>?_) hh (λi hi st hst Q q=>ni c hk hx hn true i hi st hst Q (by simpa using q)) hst λk cut=>h k cut.le (λx hx' =>?_) λx hx' =>?_
 ·cases z:lt (xs.getD (base+i) 0) key with
  |true=>rfl
  |false=>rw[O.trans _ _ _ z (le i j hij hj)] at q; cases q
 ·obtain⟨i,hi,e⟩:=IF hx'
  have hl:=hi;rw[FH] at hl;have ek:=cut.lo i (by lia)
  have e2:=at_ i (by have:=cut.le; lia)
  have hik:i<k:=by lia
  have hin:i<n:=by have:=cut.le; lia
  have e3:((xs.drop base).take k)[i]? = some x:=by rw[Do hi,e]
  rw[GH hik] at e3;rw[GH hin,e3] at e2;rw[<-FX e2] at ek;simpa using ek
 ·obtain⟨i,hi,e⟩:=IF hx'
  rw[FP,FH,FP] at hi;rw[Mf] at e;have e2:=at_ (k+i) (by lia)
  rw[Do (by rw[FH,FP]; lia),e] at e2
  have ek:=cut.hi (k+i) (by lia) (by lia)
  rw[<-FX e2] at ek;simpa using ek
end
structure bB(st st':Fd):Prop where
 kind:kindOf st'=kindOf st
 arr:arrOf st'=arrOf st
 pend:I9 st'=I9 st
 fail:IJ st'=IJ st
theorem bB.refl(st:Fd):bB st st:=⟨rfl,rfl,rfl,rfl⟩
section
variable{prog:FB}{w:World}{A:Fa}{S:B1}{κ:HC}{it:Array Keyed}{lt:Nat->Nat->Bool}{N:Nat}
abbrev ar(it:Array Keyed)(l:List Nat):Array Keyed:=(l.map (GW it)).toArray
theorem iW(l:List Nat):(ar it l).size=l.length:=by simp[ar]
theorem iX(l:List Nat)(x:Nat):(ar it l).push (GW it x)=ar it (l++[x]):=by simp[ar]
theorem aO(l m:List Nat):ar it l++ar it m=ar it (l++m):=by simp[ar]
theorem rD(l:List Nat)(i k:Nat):(ar it l).extract i (i+k)=ar it ((l.drop i).take k):=by
 simp[ar,JQ,Iq,Ip]
theorem ko(l:List Nat)(i:Nat):(ar it l).extract i l.length=ar it (l.drop i):=by
 simp[ar,JQ,Iq,Gu]
theorem sV(l:List Nat)(i j:Nat):(ar it l).extract i j=ar it ((l.drop i).take (j-i)):=by
 simp[ar,JQ,Iq,Ip]
theorem eY(l:List Nat):(ar it l).reverse=ar it l.reverse:=by simp[ar]
theorem BR(x:Nat):(#[GW it x]:Array Keyed)=ar it [x]:=rfl
theorem iY{g:Nat}{st:Fd}{Q:Unit->Fd->Prop}(h:∀st',bB st st'->Q () st'):W prog w A S (ze g) Q st :=
 show wpS _ _ _ _ (modify λs=>J7 (kindOf s) (arrOf s) (I9 s) g (IJ s)) _ _ from Jc (h _ ⟨rfl,rfl,rfl,rfl⟩)
theorem iZ{lt:Nat->Nat->Bool}{l:List Nat}(O:Ord lt)(hs:Sd lt l){i:Nat}(h:i<l.length):∀r∈l.drop i,lt r l[i]=false:=λr hr=>by
 rw[Fv h] at hr;rcases lK hr with rfl | hr
 ·exact sR O _
 ·have h2:=hs.drop i
  unfold Sd at h2;rw[Fv h] at h2;exact(IP.mp h2).1 r hr
inductive BU{β:Type}(lt:Nat->Nat->Bool)(a b:List Nat)(it:Array Keyed)(d:Option (Array Keyed)×β):Prop
 |mk (res:List Nat) (r:β):d=(some (ar it res),r)->Res lt a b res->BU lt a b it d
structure LK(lt:Nat->Nat->Bool)(a b o:List Nat)(ia ib n:Nat):Prop where
 m:MI lt a b o ia ib
 k1:ib<b.length
 k2:ia+1<a.length
 k3:n<ia+ib
inductive Es(lt:Nat->Nat->Bool)(a b:List Nat)(it:Array Keyed)(n:Nat)(d:Option (Array Keyed)×Array Keyed×Nat×Nat×Nat):Prop
 |mk (o:List Nat) (ia ib mg:Nat):d=(none,ar it o,ia,ib,mg)->LK lt a b o ia ib n->Es lt a b it n d
inductive DV(lt:Nat->Nat->Bool)(a b:List Nat)(it:Array Keyed)(n:Nat)(d:Option (Array Keyed)×Array Keyed×Nat×Nat×Nat×Nat):Prop
 |mk (o:List Nat) (ia ib ac bc:Nat):d=(none,ar it o,ia,ib,ac,bc)->LK lt a b o ia ib n->DV lt a b it n d
inductive DW(lt:Nat->Nat->Bool)(a b:List Nat)(it:Array Keyed)(n:Nat)(d:Option (Array Keyed)×Array Keyed×Nat×Nat×Nat×Nat×Nat):Prop
 |mk (o:List Nat) (ia ib mg ac bc:Nat):d=(none,ar it o,ia,ib,mg,ac,bc)->LK lt a b o ia ib n->DW lt a b it n d
theorem dc{α:Type}{x y:Nat}{t e:StateT Fd Sem α}{Q:α->Fd->Prop}{st:Fd}(h1:x=y->W prog w A S t Q st)(h2:x≠y->W prog w A S e Q st):W prog w A S (if (x == y)=true then t else e) Q st:=by
 by_cases h:x=y
 ·rw[if_pos (by simpa using h)]; exact h1 h
 ·rw[if_neg (by simpa using h)]; exact h2 h
theorem cutN{G P:Nat->Prop}(k:∀m,(∀g,G g)->P m)(g:∀g,G g):∀m,P m:=λm=>k m g
theorem cutG{H G:Nat->List Nat->Prop}{P:List Nat->Nat->Prop}{o0:List Nat}{n0:Nat}(k:∀o,o0=o->∀n,n0=n->(∀n o,H n o->G n o)->P o n)(g:∀n o,H n o->G n o):∀o,o0=o->∀n,n0=n->P o n:=λo e n f=>k o e n f g
theorem oz(O:Ord lt)(c:vD prog w A S κ it lt N){a b:List Nat}(ha:Sd lt a)(hb:Sd lt b)(hxa:∀x∈a,x<N)(hxb:∀x∈b,x<N)(na:0<a.length)(nb:0<b.length)
  (h0:∀r∈a,lt r b[0]=false) (hl:∀y∈b,∀x∈a.drop (a.length-1),lt x y=false) {st:Fd} (hst:kindOf st=κ) {Q:Array Keyed->Fd->Prop} (h:∀res st',bB st st'->Res lt a b res->Q (ar it res) st') :
  W prog w A S (wG (ar it a) (ar it b)) Q st:=by
 have m0:MI lt a b [b[0]] 0 1:=by
  have z:MI lt a b [] 0 0:=⟨.refl _,.nil,λo ho=>(nomatch ho),λo ho=>(nomatch ho)⟩
  have:=z.jT hb 1 λx hx r hr=>by
   rw[take_one nb] at hx;rw[Bn] at hx;subst hx;exact h0 r (by simpa using hr)
  rw[take_one nb] at this;simpa using this
 have at1:∀{ia:Nat}(hia:ia<a.length),a[ia]<N:=λhia=>hxa _ (GT hia)
 have bt1:∀{ib:Nat}(hib:ib<b.length),b[ib]<N:=λhib=>hxb _ (GT hib)
 have last:∀{ia:Nat},ia+1=a.length->∀y∈b,∀x∈a.drop ia,lt x y=false:=λ{ia}e y hy x hx=>hl y hy x (by rw[<-e]; exact hx)
 clear h0
 show wpS _ _ _ _ _ _ _;refine D2 (KP (Gy ⟨rfl,?_⟩));refine D2 (bz nb ?_);rw[BR];simp -zeta only[iW];refine dc (λe1=>?_) λe1=>?_
 ·simp only[ko,aO]
  exact E2 (h _ st (bB.refl st) (m0.done ha hb (.inl e1)))
 refine dc (λe2=>?_) λe2=>?_
 ·simp only[ko,aO]
  exact E2 (h _ st (bB.refl st) (m0.sU ha hb λy hy x hx=>hl y hy x (by rw[<-e2]; exact hx)))
 refine D2 (Jm ?_);refine D2 (HR (GS
  (I:=λx d st'=>bB st st'/\Es lt a b it x d)
  (Q:=λd st'=>bB st st'/\BU lt a b it d) ?_ ?_ ⟨bB.refl st,[b[0]],0,1,_,rfl,m0,by lia,by lia,by lia⟩) ?_)
 rotate_left
 ·rintro d st' ⟨sm,out,ia,ib,mg,rfl,m,k1,k2,k3⟩
  lia
 ·rintro d st' ⟨sm,res,r,rfl,hr⟩
  exact E2 (h res st' sm hr)
 rintro x d st' _ hx ⟨sm,out,ia,ib,mg,rfl,m,k1,k2,k3⟩;dsimp -zeta only;refine D2 (HR (GS
  (I:=λy d st''=>st''=st'/\DV lt a b it (x+y) d)
  (Q:=λd st''=>st''=st'/\(BU lt a b it d\/DV lt a b it (x+1) d)) ?_ ?_ ⟨rfl,out,ia,ib,0,0,rfl,m,k1,k2,k3⟩) ?_)
 rotate_left
 ·rintro d st'' ⟨rfl,out,ia,ib,ac,bc,rfl,m,k1,k2,k3⟩
  exact⟨rfl,.inr ⟨out,ia,ib,ac,bc,rfl,m,k1,k2,by lia⟩⟩
 rotate_left
 ·rintro y d st'' _ hy ⟨rfl,out,ia,ib,ac,bc,rfl,m,k1,k2,k3⟩
  have k2':ia<a.length:=by lia
  simp only[ko];refine D2 (bz k1 (D2 (bz k2' (D2 (w_lt c (bt1 k1) (at1 k2') (sm.kind.trans hst) ?_)))));cases e:lt b[ib] a[ia] with
  |true=>
   have m2:=m.jT hb 1 λx hx r hr=>by
    rw[take_one k1,Bn] at hx;subst hx;exact O.trans _ _ _ (O.asym _ _ e) (iZ O ha k2' r hr)
   rw[take_one k1] at m2;dsimp only;rw[if_pos rfl];refine D2 (bz k1 ?_);rw[iX,aO,aO];refine dc (λe3=>?_) λe3=>?_
   ·exact E2 ⟨rfl,.inl ⟨_,_,rfl,m2.done ha hb (.inl e3)⟩⟩
   ·split
    ·exact E2 ⟨rfl,.inr ⟨_,_,_,_,_,rfl,m2,by lia,k2,by lia⟩⟩
    ·exact E2 ⟨rfl,_,_,_,_,_,rfl,m2,by lia,k2,by lia⟩
  |false=>
   have m2:=m.ig ha 1 λx hx r hr=>by
    rw[take_one k2',Bn] at hx;subst hx;exact O.trans _ _ _ e (iZ O hb k1 r hr)
   rw[take_one k2'] at m2;dsimp only;rw[if_neg (by simp)]
   refine D2 (bz k2' ?_);rw[iX,aO,aO];refine dc (λe3=>?_) λe3=>?_
   ·exact E2 ⟨rfl,.inl ⟨_,_,rfl,m2.sU ha hb (last e3)⟩⟩
   ·split
    ·exact E2 ⟨rfl,.inr ⟨_,_,_,_,_,rfl,m2,k1,by lia,by lia⟩⟩
    ·exact E2 ⟨rfl,_,_,_,_,_,rfl,m2,k1,by lia,by lia⟩
 rintro d st'' ⟨rfl,⟨res,r,rfl,hr⟩ | ⟨out,ia,ib,ac,bc,rfl,m,k1,k2,k3⟩⟩
 ·exact E2 ⟨sm,res,_,rfl,hr⟩
 dsimp -zeta only;refine D2 (KP (Gy ⟨rfl,?_⟩));refine D2 (HR (GS
  (I:=λy d st2=>bB st st2/\DW lt a b it (x+1) d)
  (Q:=λd st2=>bB st st2/\(BU lt a b it d\/DW lt a b it (x+1) d)) ?_ ?_ ⟨sm,out,ia,ib,_,ac,bc,rfl,m,k1,k2,k3⟩) ?_)
 rotate_left
 ·rintro d st2 ⟨sm,out,ia,ib,mg,ac,bc,rfl,m,k1,k2,k3⟩
  exact⟨sm,.inr ⟨out,ia,ib,mg,ac,bc,rfl,m,k1,k2,k3⟩⟩
 ·rintro d st2 ⟨sm,⟨res,r,rfl,hr⟩ | ⟨out,ia,ib,mg,ac,bc,rfl,m,k1,k2,k3⟩⟩
  ·exact E2 ⟨sm,res,_,rfl,hr⟩
  ·dsimp only
   refine D2 (iY λst3 sm3=>?_)
   exact E2 ⟨⟨sm3.kind.trans sm.kind,sm3.arr.trans sm.arr,sm3.pend.trans sm.pend,sm3.fail.trans sm.fail⟩,out,ia,ib,_,rfl,m,k1,k2,k3⟩
 rintro y d st2 _ hy ⟨sm2,out,ia,ib,mg,ac,bc,rfl,m,k1,k2,k3⟩
 clear sm hy
 have k2':ia<a.length:=by lia
 have all:∀{l:List Nat}{i:Nat},(l.drop i).take (l.length-i)=l.drop i:=λ{l i}=>Gu (by rw[FP]; exact Da _)
 have sa:Sd lt ((a.drop ia).take (a.length-ia)):=by rw[all]; exact ha.drop ia
 simp only[ko]
 revert mg
 refine cutN (λmg key=>by
  rcases M6 1 mg with hmg | hmg
  rotate_left
  ·rw[if_neg (Md.mpr hmg)]; exact key mg
  ·rw[if_pos hmg]; exact key (mg-1)) λg=>?_
 refine D2 (iY λst3 sm3=>?_)
 have sm:bB st st3:=⟨sm3.kind.trans sm2.kind,sm3.arr.trans sm2.arr,sm3.pend.trans sm2.pend,sm3.fail.trans sm2.fail⟩;refine D2 (bz k1 ?_);refine D2 (kP O c (bt1 k1) hxa (by lia) sa (by lia) (sm.kind.trans hst) λk hk hlo hhi=>?_)
 rw[all] at hhi;have mA:=m.ig ha k λx hx r hr=>O.trans _ _ _ (hlo x hx) (iZ O hb k1 r hr)
 dsimp only;generalize eo:out=ox;generalize en:ia=nx
 revert ox nx
 refine cutG (H:=λn o=>n=ia+k/\MI lt a b o (ia+k) ib/\ia+k+1<a.length) (λox eo nx en key=>by
  rcases JM k with hk0 | hk0
  ·rw[if_neg (by lia)]
   exact key nx ox ⟨by lia,by rw[hk0,<-eo]; exact m,by lia⟩
  ·subst eo en
   rw[if_pos hk0,rD,aO,aO,aO];refine dc (λe3=>?_) λe3=>?_
   ·exact E2 ⟨sm,.inl ⟨_,_,rfl,mA.sU ha hb (last e3)⟩⟩
   rw[aO,aO];refine dc (λe4=>?_) λe4=>?_
   ·exact E2 ⟨sm,.inl ⟨_,_,rfl,mA.done ha hb (.inr e4)⟩⟩
   exact key _ _ ⟨rfl,mA,by lia⟩) ?_
 clear mA m
 rintro n out ⟨rfl,mA,k4⟩;have mB:=mA.jT hb 1 λx hx r hr=>by
  rw[take_one k1,Bn] at hx;subst hx;rw[<-HJ] at hr;exact O.asym _ _ (hhi r hr)
 rw[take_one k1] at mB;have k5:ia+k<a.length:=by lia
 refine D2 (bz k1 ?_);rw[iX,aO,aO];refine dc (λe5=>?_) λe5=>?_
 ·exact E2 ⟨sm,.inl ⟨_,_,rfl,mB.done ha hb (.inl e5)⟩⟩
 refine D2 (bz k5 ?_);refine D2 (kQ O c (at1 k5) hxb (by lia) (by rw[all]; exact hb.drop (ib+1)) (by lia) (sm.kind.trans hst) λj hj jlo jhi=>?_)
 rw[all] at jhi;have mC:=mB.jT hb j λx hx r hr=>O.trans _ _ _ (O.asym _ _ (jlo x hx)) (iZ O ha k5 r hr)
 dsimp only;generalize eo:out++[b[ib]]=ox;generalize en:ib+1=nx
 revert ox nx
 refine cutG (H:=λn o=>n=ib+1+j/\MI lt a b o (ia+k) (ib+1+j)/\ib+1+j<b.length) (λox eo nx en key=>by
  rcases JM j with hj0 | hj0
  ·rw[if_neg (by lia)]
   exact key nx ox ⟨by lia,by rw[hj0,<-eo]; exact mB,by lia⟩
  ·subst eo en
   rw[if_pos hj0,rD,aO,aO,aO];refine dc (λe6=>?_) λe6=>?_
   ·exact E2 ⟨sm,.inl ⟨_,_,rfl,mC.done ha hb (.inl e6)⟩⟩
   exact key _ _ ⟨rfl,mC,by lia⟩) ?_
 clear mC mB
 rintro n out ⟨rfl,mC,j4⟩;have mD:=mC.ig ha 1 λx hx r hr=>by
  rw[take_one k5,Bn] at hx;subst hx;rw[<-HJ] at hr;exact jhi r hr
 rw[take_one k5] at mD;refine D2 (bz k5 ?_);rw[iX,aO,aO];refine dc (λe7=>?_) λe7=>?_
 ·exact E2 ⟨sm,.inl ⟨_,_,rfl,mD.sU ha hb (last e7)⟩⟩
 split
 ·exact E2 ⟨sm,.inr ⟨_,_,_,_,_,_,rfl,mD,by lia,by lia,by lia⟩⟩
 ·exact E2 ⟨sm,_,_,_,_,_,_,rfl,mD,by lia,by lia,by lia⟩
end
structure MH(lt:Nat->Nat->Bool)(a b o:List Nat)(na nb:Nat):Prop where
 perm:o.Perm (a.drop na++b.drop nb)
 srt:Sd lt o
 lea:∀x∈o,∀r∈a.take na,lt x r=false
 leb:∀x∈o,∀r∈b.take nb,lt x r=false
section
variable{lt:Nat->Nat->Bool}{a b o:List Nat}{na nb:Nat}
theorem MH.sym(m:MH lt a b o na nb):MH lt b a o nb na:=⟨m.perm.trans Gk,m.srt,m.leb,m.lea⟩
theorem kR(l:List Nat){i n:Nat}(h:i<=n):l.drop i=(l.take n).drop i++l.drop n:=by
 have e:l.drop n=(l.drop i).drop (n-i):=by rw[HJ,Nat.add_sub_cancel' h]
 have e2:(l.take n).drop i=(l.drop i).take (n-i):=by rw[NF]
 rw[e,e2,EZ]
theorem MH.ig(m:MH lt a b o na nb)(ha:Sd lt a){i:Nat}(hi:i<=na)(hn:na<=a.length)(h:∀x∈(a.take na).drop i,∀r∈b.take nb,lt x r=false):MH lt a b ((a.take na).drop i++o) i nb:=by
 have hs:=ha.take na;have es:(a.take na).take i=a.take i:=by rw[List.take_take,LD hi]
 refine⟨?_,?_,λx hx r hr=>?_,λx hx r hr=>?_⟩
 ·rw[kR a hi,Bi]
  exact G4 _ m.perm
 ·exact FK.mpr ⟨Sd.drop hs i,m.srt,λx hx y hy=>m.lea y hy x (HV hx)⟩
 ·rcases lM hx with hx | hx
  ·have h2:=hs
   unfold Sd at h2;rw[<-EZ i (a.take na),es] at h2;exact(FK.mp h2).2.2 r hr x hx
  ·refine m.lea x hx r ?_
   rw[<-es] at hr;exact Ge hr
 ·rcases lM hx with hx | hx
  ·exact h x hx r hr
  ·exact m.leb x hx r hr
theorem MH.jT(m:MH lt a b o na nb)(hb:Sd lt b){i:Nat}(hi:i<=nb)(hn:nb<=b.length)(h:∀x∈(b.take nb).drop i,∀r∈a.take na,lt x r=false):MH lt a b ((b.take nb).drop i++o) na i:=(m.sym.ig hb hi hn h).sym
theorem drop_one{l:List Nat}{n:Nat}(h:n<l.length):(l.take (n+1)).drop n=[l[n]]:=by
 rw[NE,Iy (by rw[FH]; lia),List.drop_of_length_le (by rw[FH]; lia),Do h]; rfl
theorem MH.done(m:MH lt a b o na nb)(ha:Sd lt a)(hb:Sd lt b)(h:na=0\/nb=0):Res lt a b (a.take na++b.take nb++o):=by
 refine⟨?_,?_⟩
 ·refine FK.mpr ⟨FK.mpr ⟨ha.take na,hb.take nb,λx hx y hy=>?_⟩,m.srt,λx hx y hy=>?_⟩
  ·rcases h with h | h
   ·rw[h] at hx; simp at hx
   ·rw[h] at hy; simp at hy
  ·rcases lM hx with hx | hx
   ·exact m.lea y hy x hx
   ·exact m.leb y hy x hx
 ·have:(a.take na++b.take nb++o).Perm (a.take na++b.take nb++(a.drop na++b.drop nb)):=G4 _ m.perm
  refine this.trans ?_;have e:a++b=(a.take na++a.drop na)++(b.take nb++b.drop nb):=by rw[EZ,EZ]
  rw[e,Bi,Bi];refine G4 _ ?_;rw[<-Bi,<-Bi];exact Gk.append_right _
theorem MH.oA(m:MH lt a b o na nb)(ha:Sd lt a)(hb:Sd lt b)(h:∀x∈b.take nb,∀r∈a,lt r x=false):Res lt a b (b.take nb++a.take na++o):=by
 refine⟨?_,?_⟩
 ·refine FK.mpr ⟨FK.mpr ⟨hb.take nb,ha.take na,λx hx y hy=>h x hx y (Ge hy)⟩,m.srt,λx hx y hy=>?_⟩
  rcases lM hx with hx | hx
  ·exact m.leb y hy x hx
  ·exact m.lea y hy x hx
 ·have:(b.take nb++a.take na++o).Perm (b.take nb++a.take na++(a.drop na++b.drop nb)):=G4 _ m.perm
  refine this.trans ?_;rw[Bi,<-Bi (a.take na),EZ];have e:a++b=a++(b.take nb++b.drop nb):=by rw[EZ]
  rw[e,<-Bi,<-Bi];exact Gk.append_right _
end
theorem bL{l:List Nat}{n:Nat}(h0:0<n)(h:n<=l.length):(l.take n).drop (n-1)=[l[n-1]'(by lia)]:=by
 obtain⟨m,rfl⟩:∃m,n=m+1:=⟨n-1,by lia⟩
 exact drop_one (by lia)
theorem i6{lt:Nat->Nat->Bool}{l:List Nat}(O:Ord lt)(hs:Sd lt l){n:Nat}(h0:0<n)(h:n<=l.length):∀r∈l.take n,lt (l[n-1]'(by lia)) r=false:=λr hr=>by
 have h2:=hs.take n;unfold Sd at h2;rw[<-EZ (n-1) (l.take n),bL h0 h] at h2 hr;rcases lM hr with hr | hr
 ·exact(FK.mp h2).2.2 r hr _ lS
 ·rw[Bn] at hr; subst hr; exact sR O _
structure HK(lt:Nat->Nat->Bool)(a b o:List Nat)(na nb n:Nat):Prop where
 m:MH lt a b o na nb
 k1:0<na
 k1':na<=a.length
 k2:1<nb
 k2':nb<=b.length
 k3:n+na+nb<a.length+b.length
inductive Et(lt:Nat->Nat->Bool)(a b:List Nat)(it:Array Keyed)(n:Nat)(d:Option (Array Keyed)×Nat×Nat×Array Keyed×Nat):Prop
 |mk (na nb:Nat) (o:List Nat) (mg:Nat):d=(none,na,nb,ar it o.reverse,mg)->HK lt a b o na nb n->Et lt a b it n d
inductive DX(lt:Nat->Nat->Bool)(a b:List Nat)(it:Array Keyed)(n:Nat)(d:Option (Array Keyed)×Nat×Nat×Array Keyed×Nat×Nat):Prop
 |mk (na nb:Nat) (o:List Nat) (ac bc:Nat):d=(none,na,nb,ar it o.reverse,ac,bc)->HK lt a b o na nb n->DX lt a b it n d
inductive DY(lt:Nat->Nat->Bool)(a b:List Nat)(it:Array Keyed)(n:Nat)(d:Option (Array Keyed)×Nat×Nat×Array Keyed×Nat×Nat×Nat):Prop
 |mk (na nb:Nat) (o:List Nat) (mg ac bc:Nat):d=(none,na,nb,ar it o.reverse,mg,ac,bc)->HK lt a b o na nb n->DY lt a b it n d
section
variable{prog:FB}{w:World}{A:Fa}{S:B1}{κ:HC}{it:Array Keyed}{lt:Nat->Nat->Bool}{N:Nat}
theorem oE(l:List Nat)(i n:Nat):(ar it l).extract i n=ar it ((l.take n).drop i):=by rw[sV,NF]
theorem i7(o:List Nat)(x:Nat):(ar it o.reverse).push (GW it x)=ar it ([x]++o).reverse:=by rw[iX]; simp
theorem sW(o g:List Nat):ar it o.reverse++ar it g.reverse=ar it (g++o).reverse:=by rw[aO,List.reverse_append]
theorem ar_dd(l m:List Nat):ar it (l.drop 0)++ar it (m.drop 0)=ar it (l.drop 0++m.drop 0):=aO _ _
theorem oF(O:Ord lt)(c:vD prog w A S κ it lt N){a b:List Nat}(ha:Sd lt a)(hb:Sd lt b)(hxa:∀x∈a,x<N)(hxb:∀x∈b,x<N)(na0:0<a.length)(nb0:0<b.length)
  (h0:∀r∈a,lt r b[0]=false) (hl:∀y∈b,∀x∈a.drop (a.length-1),lt x y=false) {st:Fd} (hst:kindOf st=κ) {Q:Array Keyed->Fd->Prop} (h:∀res st',bB st st'->Res lt a b res->Q (ar it res) st') :
  W prog w A S (wH (ar it a) (ar it b)) Q st:=by
 have la:a.length-1<a.length:=by lia
 have m0:MH lt a b [a[a.length-1]] (a.length-1) b.length:=by
  have z:MH lt a b [] a.length b.length:=⟨by simp,.nil,λo ho=>(nomatch ho),λo ho=>(nomatch ho)⟩
  have:=z.ig ha (i:=a.length-1) (by lia) (Da _) λx hx r hr=>by
   rw[HB] at hx;exact hl r (Ge hr) x hx
  rw[bL na0 (Da _)] at this;exact this
 have first:∀{nb:Nat},nb=1->∀x∈b.take nb,∀r∈a,lt r x=false:=λ{nb}e x hx r hr=>by
  subst e;have:x=b[0]:=by
   obtain⟨y,ys,rfl⟩:∃y ys,b=y::ys:=by cases b with | nil=>simp at nb0 | cons y ys=>exact⟨_,_,rfl⟩
   simpa using hx
  subst this;exact h0 r hr
 have at1:∀{i:Nat}(hi:i<a.length),a[i]<N:=λhi=>hxa _ (GT hi)
 have bt1:∀{i:Nat}(hi:i<b.length),b[i]<N:=λhi=>hxb _ (GT hi)
 clear hl h0
 show wpS _ _ _ _ _ _ _;refine D2 (KP (Gy ⟨rfl,?_⟩));simp -zeta only[iW];refine D2 (bz la ?_);rw[show (#[GW it a[a.length-1]]:Array Keyed)=ar it [a[a.length-1]].reverse from rfl]
 refine dc (λe1=>?_) λe1=>?_
 ·simp only[oE,eY,aO,Gd]
  exact E2 (h _ st (bB.refl st) (m0.done ha hb (.inl e1)))
 refine dc (λe2=>?_) λe2=>?_
 ·simp only[oE,eY,aO,Gd]
  exact E2 (h _ st (bB.refl st) (m0.oA ha hb (first e2)))
 refine D2 (Jm ?_);refine D2 (HR (GS
  (I:=λx d st'=>bB st st'/\Et lt a b it x d)
  (Q:=λd st'=>bB st st'/\BU lt a b it d) ?_ ?_ ⟨bB.refl st,_,_,[a[a.length-1]],_,rfl,m0,by lia,by lia,by lia,by lia,by lia⟩) ?_)
 rotate_left
 ·rintro d st' ⟨sm,na,nb,o,mg,rfl,m,k1,k1',k2,k2',k3⟩
  lia
 ·rintro d st' ⟨sm,res,r,rfl,hr⟩
  exact E2 (h res st' sm hr)
 rintro x d st' _ hx ⟨sm,na,nb,o,mg,rfl,m,k1,k1',k2,k2',k3⟩;dsimp -zeta only;refine D2 (HR (GS
  (I:=λy d st''=>st''=st'/\DX lt a b it (x+y) d)
  (Q:=λd st''=>st''=st'/\(BU lt a b it d\/DX lt a b it (x+1) d)) ?_ ?_ ⟨rfl,na,nb,o,0,0,rfl,m,k1,k1',k2,k2',k3⟩) ?_)
 rotate_left
 ·rintro d st'' ⟨rfl,na,nb,o,ac,bc,rfl,m,k1,k1',k2,k2',k3⟩
  exact⟨rfl,.inr ⟨na,nb,o,ac,bc,rfl,m,k1,k1',k2,k2',by lia⟩⟩
 rotate_left
 ·rintro y d st'' _ hy ⟨rfl,na,nb,o,ac,bc,rfl,m,k1,k1',k2,k2',k3⟩
  have pa:na-1<a.length:=by lia
  have pb:nb-1<b.length:=by lia
  simp only[oE,eY,aO,Gd];refine D2 (bz pb (D2 (bz pa (D2 (w_lt c (bt1 pb) (at1 pa) (sm.kind.trans hst) ?_)))));cases e:lt b[nb-1] a[na-1] with
  |true=>
   have m2:=m.ig ha (i:=na-1) (by lia) k1' λx hx r hr=>by
    rw[bL k1 k1',Bn] at hx;subst hx;exact O.trans _ _ _ (i6 O hb (by lia) k2' r hr) (O.asym _ _ e)
   rw[bL k1 k1'] at m2;dsimp only;rw[if_pos rfl];refine D2 (bz pa ?_);rw[i7,eY,Gd,aO];refine dc (λe3=>?_) λe3=>?_
   ·exact E2 ⟨rfl,.inl ⟨_,_,rfl,m2.done ha hb (.inl e3)⟩⟩
   ·split
    ·exact E2 ⟨rfl,.inr ⟨_,_,_,_,_,rfl,m2,by lia,by lia,k2,k2',by lia⟩⟩
    ·exact E2 ⟨rfl,_,_,_,_,_,rfl,m2,by lia,by lia,k2,k2',by lia⟩
  |false=>
   have m2:=m.jT hb (i:=nb-1) (by lia) k2' λx hx r hr=>by
    rw[bL (by lia) k2',Bn] at hx
    subst hx;exact O.trans _ _ _ (i6 O ha k1 k1' r hr) e
   rw[bL (by lia) k2'] at m2
   dsimp only;rw[if_neg (by simp)]
   refine D2 (bz pb ?_);rw[i7,eY,Gd,aO];refine dc (λe3=>?_) λe3=>?_
   ·exact E2 ⟨rfl,.inl ⟨_,_,rfl,m2.oA ha hb (first e3)⟩⟩
   ·split
    ·exact E2 ⟨rfl,.inr ⟨_,_,_,_,_,rfl,m2,k1,k1',by lia,by lia,by lia⟩⟩
    ·exact E2 ⟨rfl,_,_,_,_,_,rfl,m2,k1,k1',by lia,by lia,by lia⟩
 rintro d st'' ⟨rfl,⟨res,r,rfl,hr⟩ | ⟨na,nb,o,ac,bc,rfl,m,k1,k1',k2,k2',k3⟩⟩
 ·exact E2 ⟨sm,res,_,rfl,hr⟩
 dsimp -zeta only;refine D2 (KP (Gy ⟨rfl,?_⟩));refine D2 (HR (GS
  (I:=λy d st2=>bB st st2/\DY lt a b it (x+1) d)
  (Q:=λd st2=>bB st st2/\(BU lt a b it d\/DY lt a b it (x+1) d)) ?_ ?_ ⟨sm,na,nb,o,_,ac,bc,rfl,m,k1,k1',k2,k2',k3⟩) ?_)
 rotate_left
 ·rintro d st2 ⟨sm,na,nb,o,mg,ac,bc,rfl,q⟩
  exact⟨sm,.inr ⟨na,nb,o,mg,ac,bc,rfl,q⟩⟩
 ·rintro d st2 ⟨sm,⟨res,r,rfl,hr⟩ | ⟨na,nb,o,mg,ac,bc,rfl,q⟩⟩
  ·exact E2 ⟨sm,res,_,rfl,hr⟩
  ·dsimp only
   refine D2 (iY λst3 sm3=>?_)
   exact E2 ⟨⟨sm3.kind.trans sm.kind,sm3.arr.trans sm.arr,sm3.pend.trans sm.pend,sm3.fail.trans sm.fail⟩,na,nb,o,_,rfl,q⟩
 rintro y d st2 _ hy ⟨sm2,na,nb,o,mg,ac,bc,rfl,m,k1,k1',k2,k2',k3⟩
 clear sm hy
 have pa:na-1<a.length:=by lia
 have pb:nb-1<b.length:=by lia
 simp only[oE,eY,ar_dd]
 revert mg
 refine cutN (λmg key=>by
  rcases M6 1 mg with hmg | hmg
  rotate_left
  ·rw[if_neg (Md.mpr hmg)]; exact key mg
  ·rw[if_pos hmg]; exact key (mg-1)) λg=>?_
 refine D2 (iY λst3 sm3=>?_)
 have sm:bB st st3:=⟨sm3.kind.trans sm2.kind,sm3.arr.trans sm2.arr,sm3.pend.trans sm2.pend,sm3.fail.trans sm2.fail⟩;refine D2 (bz pb ?_);refine D2 (kP O c (bt1 pb) hxa (by lia) (by rw[Hl]; exact ha.take na) (by lia) (sm.kind.trans hst) λi hi hlo hhi=>?_)
 rw[Hl] at hlo hhi;have mA:=m.ig ha hi k1' λx hx r hr=>O.trans _ _ _ (i6 O hb (by lia) k2' r hr) (O.asym _ _ (hhi x hx))
 dsimp only;generalize hk:na-i=k;generalize eo:o=ox;generalize en:na=nx
 revert ox nx
 refine cutG (H:=λn o'=>n=i/\MH lt a b o' i nb/\0<i) (λox eo nx en key=>by
  rcases JM k with hk0 | hk0
  ·rw[if_neg (by lia)]
   have e:na=i:=by lia
   exact key nx ox ⟨en.symm.trans e,eo▸e▸m,e▸k1⟩
  ·subst eo en
   rw[if_pos hk0,sW,eY,Gd,aO];refine dc (λe3=>?_) λe3=>?_
   ·exact E2 ⟨sm,.inl ⟨_,_,rfl,mA.done ha hb (.inl e3)⟩⟩
   exact key i _ ⟨rfl,mA,by lia⟩) ?_
 clear mA m
 rintro n o ⟨rfl,mA,i0⟩;have mB:=mA.jT hb (i:=nb-1) (by lia) k2' λx hx r hr=>by
  rw[bL (by lia) k2',Bn] at hx
  subst hx;exact hlo r hr
 rw[bL (by lia) k2'] at mB
 refine D2 (bz pb ?_);rw[i7,eY,Gd,aO];refine dc (λe5=>?_) λe5=>?_
 ·exact E2 ⟨sm,.inl ⟨_,_,rfl,mB.oA ha hb (first e5)⟩⟩
 have pi:n-1<a.length:=by lia
 refine D2 (bz pi ?_);refine D2 (kQ O c (at1 pi) hxb (by lia) (by rw[Hl]; exact hb.take (nb-1)) (by lia) (sm.kind.trans hst) λj hj jlo jhi=>?_)
 rw[Hl] at jlo jhi;have mC:=mB.jT hb hj (by lia) λx hx r hr=>O.trans _ _ _ (i6 O ha (by lia) (by lia) r hr) (jhi x hx)
 dsimp only;generalize hkj:nb-1-j=kj;generalize eo:[b[nb-1]]++o=ox;generalize en:nb-1=nx
 revert ox nx
 refine cutG (H:=λm o'=>m=j/\MH lt a b o' n j/\1<j) (λox eo nx en key=>by
  rcases JM kj with hj0 | hj0
  ·rw[if_neg (by lia)]
   have e:nb-1=j:=by lia
   exact key nx ox ⟨en.symm.trans e,eo▸e▸mB,by lia⟩
  ·subst eo en
   rw[if_pos hj0,sW,eY,Gd,aO];refine dc (λe6=>?_) λe6=>?_
   ·exact E2 ⟨sm,.inl ⟨_,_,rfl,mC.oA ha hb (first e6)⟩⟩
   rw[aO];refine dc (λe7=>?_) λe7=>?_
   ·exact E2 ⟨sm,.inl ⟨_,_,rfl,mC.done ha hb (.inr e7)⟩⟩
   exact key j _ ⟨rfl,mC,by lia⟩) ?_
 clear mC mB
 rintro n2 o ⟨rfl,mC,j1⟩;have mD:=mC.ig ha (i:=n-1) (by lia) (by lia) λx hx r hr=>by
  rw[bL (by lia) (by lia),Bn] at hx
  subst hx;exact O.asym _ _ (jlo r hr)
 rw[bL (by lia) (by lia)] at mD
 refine D2 (bz pi ?_);rw[i7,eY,Gd,aO];refine dc (λe8=>?_) λe8=>?_
 ·exact E2 ⟨sm,.inl ⟨_,_,rfl,mD.done ha hb (.inl e8)⟩⟩
 split
 ·exact E2 ⟨sm,.inr ⟨_,_,_,_,_,_,rfl,mD,by lia,by lia,by lia,by lia,by lia⟩⟩
 ·exact E2 ⟨sm,_,_,_,_,_,_,rfl,mD,by lia,by lia,by lia,by lia,by lia⟩
end
section
variable{prog:FB}{w:World}{A:Fa}{S:B1}{κ:HC}{it:Array Keyed}{lt:Nat->Nat->Bool}{N:Nat}
structure St(κ:HC)(it:Array Keyed)(p:List Nat)(pend:Array (Nat×Nat×Nat))(st:Fd):Prop where
 kind:kindOf st=κ
 arr:arrOf st=ar it p
 pend:I9 st=pend
 fail:IJ st=none
noncomputable abbrev g(V:List Nat)(i:Nat):Nat:=V.getD i 0
theorem uE{V:List Nat}{i:Nat}(h:i<V.length):g V i=V[i]:=by simp[g,K5,h]
theorem jy(c:vD prog w A S κ it lt N){U V:List Nat}(hN:∀x∈V,x<N){pend:Array (Nat×Nat×Nat)}{st:Fd}(s:St κ it (U++V) pend st){lo x y i j:Nat}(hU:U.length=lo)(ex:x=lo+i)(ey:y=lo+j)(hi:i<V.length)(hj:j<V.length){Q:Option Bool->Fd->Prop}
  (h:Q (some (lt (g V i) (g V j))) st):W prog w A S (ltAt' x y) Q st:=by
 subst ex; subst ey; subst hU;show wpS _ _ _ _ _ _ _;rw[ltAt'_eq];refine D2 (Jm ?_);rw[s.arr];have e1:(U++V)[U.length+i]'(by simp; lia)=V[i]:=by simp
 have e2:(U++V)[U.length+j]'(by simp; lia)=V[j]:=by simp
 rw[uE hi,uE hj] at h;refine D2 (bz (by simp; lia) (D2 (bz (by simp; lia) ?_)))
 rw[e1,e2];exact w_lt c (hN _ (GT hi)) (hN _ (GT hj)) s.kind h
noncomputable def iH(V:List Nat)(i j:Nat):List Nat:=V.take i++((V.take j).drop i).reverse++V.drop j
theorem fD(V:List Nat){i j:Nat}(h:i<=j):(iH V i j).Perm V:=by
 have e:V=V.take i++(V.take j).drop i++V.drop j:=by
  have:=kR V h;rw[Bi,<-this,EZ]
 unfold iH
 conv=>rhs; rw[e]
 exact(G4 _ (List.reverse_perm _)).append_right _
theorem wI(V:List Nat){i j:Nat}(h:i<=j):(iH V i j).length=V.length:=(fD V h).length_eq
theorem gB{V:List Nat}{i j k:Nat}(hij:i<=j)(hj:j<=V.length):g (iH V i j) k=if i<=k/\k<j then g V (i+j-1-k) else g V k:=by
 unfold g iH;rw[FJ,FJ,FJ];have l1:(V.take i).length=i:=by rw[FH]; lia
 have l2:((V.take j).drop i).reverse.length=j-i:=by rw[List.length_reverse,FP,FH]; lia
 by_cases h1:k<i
 ·rw[if_neg (by lia),Bi,Fu (by lia),GH h1]
 ·by_cases h2:k<j
  ·rw[if_pos ⟨by lia,h2⟩,Bi,Ff (by lia),Fu (by lia),l1,List.getElem?_reverse (by rw[FP,FH]; lia)]
   rw[IQ,FP,FH,GH (by lia)]
   congr 2
   lia
  ·rw[if_neg (by lia),Ff (by rw[Bz]; lia),Bz,l1,l2,IQ]
   congr 2
   lia
theorem uF(U V:List Nat){i j:Nat}(hij:i<=j)(hj:j<=V.length):mirror (ar it (U++V)) (U.length+i) (U.length+j) ((U.length+j-(U.length+i)) / 2)=ar it (U++iH V i j):=by
 apply MN;intro k;rw[getElem?_mirror_all (by rw[iW,Bz]; lia)]
 have get:∀(l:List Nat)(k:Nat),(ar it l)[k]? = (l[k]?).map (GW it):=λl k=>by simp[ar]
 rw[get,get,get]
 by_cases hk:k<U.length
 ·rw[if_neg (by lia),Fu hk,Fu hk]
 ·obtain⟨m,rfl⟩:∃m,k=U.length+m:=⟨k-U.length,by lia⟩
  have gr:=gB (k:=m) hij hj;unfold g at gr;rw[FJ,FJ,FJ] at gr;have hl:=wI V hij;have hR:(U++iH V i j)[U.length+m]? = (iH V i j)[m]? := by rw[Ff (by lia),IS]
  rw[hR]
  by_cases hm:i<=m/\m<j
  ·rw[if_pos hm] at gr
   have hL:(U++V)[U.length+i+(U.length+j)-1-(U.length+m)]? = V[i+j-1-m]? := by
    rw[Ff (by lia),show U.length+i+(U.length+j)-1-(U.length+m)-U.length=i+j-1-m by lia]
   rw[if_pos (by lia),hL]
   have a1:i+j-1-m<V.length:=by lia
   have a2:m<(iH V i j).length:=by lia
   rw[Do a1,Do a2] at gr ⊢;simp at gr;rw[gr]
  ·rw[if_neg hm] at gr
   have hL:(U++V)[U.length+m]? = V[m]? := by rw[Ff (by lia),IS]
   rw[if_neg (by lia),hL]
   by_cases a1:m<V.length
   ·have a2:m<(iH V i j).length:=by lia
    rw[Do a1,Do a2] at gr ⊢;simp at gr;rw[gr]
   ·rw[HN (by lia),HN (by lia)]
theorem w_rev{U V:List Nat}{pend:Array (Nat×Nat×Nat)}{st:Fd}(s:St κ it (U++V) pend st){lo x y i j:Nat}(hU:U.length=lo)(ex:x=lo+i)(ey:y=lo+j)(hij:i<=j)(hj:j<=V.length){Q:Unit->Fd->Prop}
  (h:∀st',St κ it (U++iH V i j) pend st'->Q () st'):W prog w A S (reverseSlice' x y) Q st:=by
 subst ex; subst ey; subst hU;show wpS _ _ _ _ _ _ _;rw[reverseSlice'_eq];refine Jc (h _ ⟨s.kind,?_,s.pend,s.fail⟩);show mirror (arrOf st) _ _ _=_;rw[s.arr];exact uF U V hij hj
def qW(lt:Nat->Nat->Bool)(V:List Nat)(m:Nat):Prop:=∀i j,i<=j->j<m->lt (g V j) (g V i)=false
def qX(lt:Nat->Nat->Bool)(V:List Nat)(m:Nat):Prop:=∀i j,i<=j->j<m->lt (g V i) (g V j)=false
def DG(lt:Nat->Nat->Bool)(V:List Nat)(a b:Nat):Prop:=∀i j,a<=i->i<b->a<=j->j<b->lt (g V i) (g V j)=false
theorem qW.sd{V:List Nat}{m:Nat}(h:qW lt V m)(hm:m<=V.length):Sd lt (V.take m):=by
 refine GQ.mpr λi j hi hj hij=>?_
 rw[FH] at hi hj;have:=h i j (by lia) (by lia)
 rw[uE (by lia),uE (by lia)] at this
 rw[IX,IX];exact this
theorem Sd.EN(O:Ord lt){V:List Nat}{m:Nat}(h:Sd lt (V.take m))(hm:m<=V.length):qW lt V m:=λi j hij hj=>by
 by_cases e:i=j
 ·subst e; exact sR O _
 ·have:=GQ.mp h i j (by rw[FH]; lia) (by rw[FH]; lia) (by lia)
  rw[IX,IX] at this;rw[uE (by lia),uE (by lia)]
  exact this
theorem qW.step(O:Ord lt){V:List Nat}{n:Nat}(h1:1<=n)(h:qW lt V n)(e:lt (g V n) (g V (n-1))=false):qW lt V (n+1):=λi j hij hj=>by
 by_cases hjn:j=n
 ·subst hjn
  by_cases hin:i=j
  ·subst hin; exact sR O _
  ·exact O.trans _ _ _ (h i (j-1) (by lia) (by lia)) e
 ·exact h i j hij (by lia)
theorem qX.step(O:Ord lt){V:List Nat}{n:Nat}(h1:1<=n)(h:qX lt V n)(e:lt (g V (n-1)) (g V n)=false):qX lt V (n+1):=λi j hij hj=>by
 by_cases hjn:j=n
 ·subst hjn
  by_cases hin:i=j
  ·subst hin; exact sR O _
  ·exact O.trans _ _ _ e (h i (j-1) (by lia) (by lia))
 ·exact h i j hij (by lia)
theorem qX.rev{V:List Nat}{a b:Nat}(hab:a<=b)(hb:b<=V.length)(he:DG lt V a b)(h:qX lt V b):qX lt (iH V a b) b:=λi j hij hj=>by
 rw[gB hab hb,gB hab hb]
 by_cases hi:a<=i/\i<b
 ·rw[if_pos hi,if_pos ⟨by lia,hj⟩]
  exact he _ _ (by lia) (by lia) (by lia) (by lia)
 ·rw[if_neg hi]
  by_cases hj':a<=j/\j<b
  ·rw[if_pos hj']; exact h _ _ (by lia) (by lia)
  ·rw[if_neg hj']; exact h _ _ hij hj
theorem qX.asc{V:List Nat}{n:Nat}(hn:n<=V.length)(h:qX lt V n):qW lt (iH V 0 n) n:=λi j hij hj=>by
 rw[gB (FV _) hn,gB (FV _) hn,if_pos ⟨by lia,hj⟩,if_pos ⟨by lia,by lia⟩]
 exact h _ _ (by lia) (by lia)
theorem zf(O:Ord lt)(V:List Nat):qW lt V 1:=λi j hij hj=>by
 obtain rfl:i=j:=by lia
 exact sR O _
theorem zg(O:Ord lt)(V:List Nat):qX lt V 1:=λi j hij hj=>by
 obtain rfl:i=j:=by lia
 exact sR O _
inductive Eu{β:Type}(κ:HC)(it:Array Keyed)(lt:Nat->Nat->Bool)(U V:List Nat)(pend:Array (Nat×Nat×Nat))(x:Nat)(d:Option β×Nat×Nat)(st:Fd):Prop
 |mk (V2:List Nat) (q:Nat):d=(none,x,q)->V2.Perm V->St κ it (U++V2) pend st->1<=x->q+1<=x->qX lt V2 x->DG lt V2 (x-(q+1)) x->Eu κ it lt U V pend x d st
inductive Ew{β:Type}(κ:HC)(it:Array Keyed)(lt:Nat->Nat->Bool)(U V:List Nat)(pend:Array (Nat×Nat×Nat))(n:Nat)(d:Option β×Nat×Nat)(st:Fd):Prop
 |mk (V2:List Nat) (m q:Nat):d=(none,m,q)->V2.Perm V->St κ it (U++V2) pend st->1<=m->m<=n->q+1<=m->qX lt V2 m->DG lt V2 (m-(q+1)) m->Ew κ it lt U V pend n d st
theorem cutS{H:List Nat->Fd->Prop}{G:Fd->Prop}{P:Prop}(k:(∀V s,H V s->G s)->P)(g:∀V s,H V s->G s):P:=k g
theorem mw(O:Ord lt)(c:vD prog w A S κ it lt N){U V:List Nat}(hN:∀x∈V,x<N){pend:Array (Nat×Nat×Nat)}{st:Fd}(s:St κ it (U++V) pend st){lo nrem:Nat}(hU:U.length=lo)(hV:V.length=nrem)(h1:1<=nrem){Q:Option Nat->Fd->Prop}
  (h:∀m V' st',1<=m->m<=nrem->V'.Perm V->Sd lt (V'.take m)->St κ it (U++V') pend st'->Q (some m) st'):W prog w A S (countRun' lo nrem) Q st:=by
 show wpS _ _ _ _ _ _ _;refine D2 (HR (GS (I:=λx d st'=>st'=st/\d=(none,x)/\1<=x/\qW lt V x)
  (Q:=λd st'=>st'=st/\∃n,d=(none,n)/\1<=n/\n<=nrem/\qW lt V n/\(n<nrem->lt (g V n) (g V (n-1))=true)) ?_ ?_ ⟨rfl,rfl,Da _,zf O V⟩) ?_)
 ·rintro x d st' hx1 hx2 ⟨rfl,rfl,k1,k2⟩
  dsimp only;refine D2 (jy c hN s hU (i:=x) (j:=x-1) rfl (by lia) (by lia) (by lia) ?_)
  cases e:lt (g V x) (g V (x-1)) with
  |true=>exact E2 ⟨rfl,x,rfl,k1,by lia,k2,λ_=>e⟩
  |false=>exact E2 ⟨rfl,rfl,by lia,k2.step O k1 e⟩
 ·rintro d st' ⟨rfl,rfl,k1,k2⟩
  exact⟨rfl,_,rfl,k1,by lia,by rw[Mz h1] at *; exact k2,λz=>by lia⟩
 rintro d st' ⟨rfl,n,rfl,k1,k2,k3,k4⟩;dsimp only
 by_cases e1:n=nrem
 ·rw[if_pos (by simpa using e1)]
  exact E2 (h n V st' k1 k2 (.refl _) (k3.sd (by lia)) s)
 rw[if_neg (by simpa using e1)]
 have k4:=k4 (by lia)
 have one:∀(V1:List Nat)(m:Nat),DG lt V1 (m+1-(0+1)) (m+1):=λV1 m i j a1 a2 a3 a4=>by
  obtain rfl:i=j:=by lia
  exact sR O _
 refine cutS (H:=λV1 s1=>V1.Perm V/\qX lt V1 (n+1)/\St κ it (U++V1) pend s1) (λkey=>by
  by_cases e2:n>1
  ·rw[if_pos e2]
   refine D2 (jy c hN s hU (i:=0) (j:=n-1) (by lia) (by lia) (by lia) (by lia) ?_)
   cases e3:lt (g V 0) (g V (n-1)) with
   |true=>exact E2 (h n V st' k1 k2 (.refl _) (k3.sd (by lia)) s)
   |false=>
    dsimp only;rw[if_neg (by simp)]
    refine D2 (w_rev s hU (i:=0) (j:=n) (by lia) rfl (FV _) (by lia) λst1 s1=>?_)
    have p1:=fD V (FV n);have d1:qX lt (iH V 0 n) (n+1):=by
     have hall:∀i j,i<n->j<n->lt (g V i) (g V j)=false:=λi j hi hj=>by
      have a1:=k3 j (n-1) (by lia) (by lia)
      have a2:=k3 0 i (by lia) hi
      exact O.trans _ _ _ a1 (O.trans _ _ _ e3 a2)
     refine qX.step O k1 (λi j hij hj=>?_) ?_
     ·rw[gB (FV _) (by lia),gB (FV _) (by lia),if_pos ⟨by lia,by lia⟩,if_pos ⟨by lia,by lia⟩]
      exact hall _ _ (by lia) (by lia)
     ·rw[gB (FV _) (by lia),gB (FV _) (by lia),if_pos ⟨by lia,by lia⟩,if_neg (by lia)]
      exact O.trans _ _ _ (O.asym _ _ k4) (hall _ _ (by lia) (by lia))
    exact key _ st1 ⟨p1,d1,s1⟩
  ·rw[if_neg e2]
   have en:n=1:=by lia
   exact key V st' ⟨.refl _,by rw[en] at k4 ⊢; exact qX.step O (Da _) (zg O V) (O.asym _ _ k4),s⟩) ?_
 rintro V1 st1 ⟨p1,d1,s1⟩;refine D2 (KP (Gy ⟨rfl,?_⟩));refine D2 (HR (GS (I:=λx d st2=>Eu κ it lt U V pend x d st2)
  (Q:=λd st2=>Ew κ it lt U V pend nrem d st2) ?_ ?_ ⟨V1,0,rfl,p1,s1,by lia,by lia,d1,one _ _⟩) ?_)
 ·rintro x d st2 hx1 hx2 ⟨V2,q,rfl,pV,s2,b0,b1,b2,b3⟩
  have l2:V2.length=nrem:=by rw[pV.length_eq,hV]
  have hN2:∀y∈V2,y<N:=λy hy=>hN y (pV.mem_iff.mp hy)
  dsimp only;refine D2 (jy c hN2 s2 hU (i:=x) (j:=x-1) rfl (by lia) (by lia) (by lia) ?_)
  cases e4:lt (g V2 x) (g V2 (x-1)) with
  |true=>
   dsimp only;rw[if_pos rfl];have e5:=O.asym _ _ e4
   by_cases hq:q>0
   ·rw[if_pos hq]
    refine D2 (w_rev s2 hU (i:=x-(q+1)) (j:=x) (by lia) rfl (by lia) (by lia) λst3 s3=>?_)
    refine E2 ⟨_,0,rfl,(fD V2 (by lia)).trans pV,s3,by lia,by lia,(b2.rev (by lia) (by lia) b3).step O b0 ?_,one _ _⟩
    rw[gB (by lia) (by lia),gB (by lia) (by lia),if_pos ⟨by lia,by lia⟩,if_neg (by lia)]
    exact O.trans _ _ _ e5 (b3 _ _ (by lia) (by lia) (by lia) (by lia))
   ·rw[if_neg hq]
    exact E2 ⟨V2,0,rfl,pV,s2,by lia,by lia,b2.step O b0 e5,one _ _⟩
  |false=>
   dsimp only;rw[if_neg (by simp)]
   refine D2 (jy c hN2 s2 hU (i:=x-1) (j:=x) (by lia) rfl (by lia) (by lia) ?_)
   cases e5:lt (g V2 (x-1)) (g V2 x) with
   |true=>exact E2 ⟨V2,x,q,rfl,pV,s2,b0,by lia,b1,b2,b3⟩
   |false=>
    refine E2 ⟨V2,q+1,rfl,pV,s2,by lia,by lia,b2.step O b0 e5,λi j a1 a2 a3 a4=>?_⟩
    by_cases hi:i=x
    ·by_cases hj:j=x
     ·subst hi; subst hj; exact sR O _
     ·rw[hi]; exact O.trans _ _ _ (b3 (x-1) j (by lia) (by lia) (by lia) (by lia)) e4
    ·by_cases hj:j=x
     ·rw[hj]; exact O.trans _ _ _ e5 (b3 i (x-1) (by lia) (by lia) (by lia) (by lia))
     ·exact b3 i j (by lia) (by lia) (by lia) (by lia)
 ·rintro d st2 ⟨V2,q,rfl,pV,s2,b0,b1,b2,b3⟩
  exact⟨V2,_,q,rfl,pV,s2,b0,by lia,b1,b2,b3⟩
 rintro d st2 ⟨V2,m,q,rfl,pV,s2,b0,b0',b1,b2,b3⟩;have l2:V2.length=nrem:=by rw[pV.length_eq,hV]
 dsimp only;refine cutS (H:=λV3 s3=>V3.Perm V/\qX lt V3 m/\St κ it (U++V3) pend s3) (λkey=>by
  by_cases hq:q>0
  ·rw[if_pos hq]
   refine D2 (w_rev s2 hU (i:=m-(q+1)) (j:=m) (by lia) rfl (by lia) (by lia) λst3 s3=>?_)
   exact key _ st3 ⟨(fD V2 (i:=m-(q+1)) (j:=m) (by lia)).trans pV,b2.rev (by lia) (by lia) b3,s3⟩
  ·rw[if_neg hq]
   exact key V2 st2 ⟨pV,b2,s2⟩) ?_
 rintro V3 st3 ⟨pV3,d3,s3⟩;have l3:=pV3.length_eq;rw[hV] at l3;refine D2 (w_rev s3 hU (i:=0) (j:=m) (by lia) rfl (FV _) (by lia) λst4 s4=>?_)
 have p4:=(fD _ (FV m)).trans pV3;have d4:=d3.asc (by lia)
 have l4:=p4.length_eq;rw[hV] at l4;generalize iH _ 0 m=V5 at s4 p4 d4 l4;have hN4:∀y∈V5,y<N:=λy hy=>hN y (p4.mem_iff.mp hy)
 refine D2 (HR (GS (I:=λx d st5=>st5=st4/\d=(none,x)/\1<=x/\qW lt V5 x) (Q:=λd st5=>st5=st4/\∃k,d=(none,k)/\1<=k/\k<=nrem/\qW lt V5 k) ?_ ?_ ⟨rfl,rfl,b0,d4⟩) ?_)
 ·rintro x d st5 hx1 hx2 ⟨rfl,rfl,f1,f2⟩
  dsimp only;refine D2 (jy c hN4 s4 hU (i:=x) (j:=x-1) rfl (by lia) (by lia) (by lia) ?_)
  cases e6:lt (g V5 x) (g V5 (x-1)) with
  |true=>exact E2 ⟨rfl,x,rfl,f1,by lia,f2⟩
  |false=>exact E2 ⟨rfl,rfl,by lia,f2.step O f1 e6⟩
 ·rintro d st5 ⟨rfl,rfl,f1,f2⟩
  exact⟨rfl,_,rfl,f1,by lia,f2⟩
 ·rintro d st5 ⟨rfl,k,rfl,f1,f2,f3⟩
  exact E2 (h k _ st5 f1 f2 p4 (f3.sd (by lia)) s4)
end
noncomputable def mv(V:List Nat)(k l:Nat):List Nat:=(bubble V.toArray k (k-l)).toList
theorem zh(V:List Nat)(k l:Nat):(mv V k l).Perm V:=by
 unfold mv;have:=HH.mp (bubble_perm V.toArray k (k-l));simpa using this
theorem wJ{V:List Nat}{k l:Nat}(hk:k<V.length)(hl:l<=k)(i:Nat):(mv V k l)[i]? = if i=l then V[k]? else if l<i/\i<=k then V[i-1]? else V[i]? := by
 unfold mv;rw[Lp,getElem?_bubble (by simpa using hk) (k-l) (by lia),show k-(k-l)=l by lia]
 simp only[List.getElem?_toArray]
theorem g_mv{V:List Nat}{k l:Nat}(hk:k<V.length)(hl:l<=k)(i:Nat):g (mv V k l) i=if i=l then g V k else if l<i/\i<=k then g V (i-1) else g V i:=by
 unfold g;rw[FJ,wJ hk hl,FJ,FJ,FJ]
 split
 ·rfl
 ·split <;> rfl
section
variable{prog:FB}{w:World}{A:Fa}{S:B1}{κ:HC}{it:Array Keyed}{lt:Nat->Nat->Bool}{N:Nat}
theorem uG(U V:List Nat){k l:Nat}(hk:k<V.length)(hl:l<=k):bubble (ar it (U++V)) (U.length+k) (U.length+k-(U.length+l))=ar it (U++mv V k l):=by
 apply MN;intro i;have get:∀(l:List Nat)(k:Nat),(ar it l)[k]? = (l[k]?).map (GW it):=λl k=>by simp[ar]
 rw[getElem?_bubble (by rw[iW,Bz]; lia) _ (by lia),get,get,get,get]
 by_cases hi:i<U.length
 ·rw[if_neg (by lia),if_neg (by lia),Fu hi,Fu hi]
 ·obtain⟨m,rfl⟩:∃m,i=U.length+m:=⟨i-U.length,by lia⟩
  have R:∀(X:List Nat)(m:Nat),(U++X)[U.length+m]? = X[m]? := λX m=>by rw[Ff (by lia),IS]
  rw[R,R,R,wJ hk hl]
  by_cases h1:m=l
  ·rw[if_pos h1,if_pos (by lia)]
  ·rw[if_neg h1,if_neg (by lia)]
   by_cases h2:l<m/\m<=k
   ·rw[if_pos h2,if_pos (by lia),show U.length+m-1=U.length+(m-1) by lia,R]
   ·rw[if_neg h2,if_neg (by lia)]
theorem BV{U V:List Nat}{pend:Array (Nat×Nat×Nat)}{st:Fd}(s:St κ it (U++V) pend st){lo k l:Nat}(hU:U.length=lo)(hk:k<V.length)(hl:l<=k){Q:Unit->Fd->Prop}
  (h:∀st',St κ it (U++mv V k l) pend st'->Q () st'):W prog w A S (moveDown' (lo+k) (lo+l)) Q st:=by
 subst hU;show wpS _ _ _ _ _ _ _;rw[moveDown'_eq];refine Jc (h _ ⟨s.kind,?_,s.pend,s.fail⟩);show bubble (arrOf st) _ _=_;rw[s.arr];exact uG U V hk hl
theorem zj(O:Ord lt){V:List Nat}{k l:Nat}(hk:k<V.length)(hl:l<=k)(hs:qW lt V k)(a:∀i,i<l->lt (g V k) (g V i)=false)(b:∀i,l<=i->i<k->lt (g V k) (g V i)=true):qW lt (mv V k l) (k+1):=by
 intro i j hij hj;rw[g_mv hk hl,g_mv hk hl]
 by_cases hjl:j=l
 ·rw[if_pos hjl]
  by_cases hil:i=l
  ·rw[if_pos hil]; exact sR O _
  ·rw[if_neg hil,if_neg (by lia)]
   exact a i (by lia)
 ·rw[if_neg hjl]
  by_cases hj2:l<j/\j<=k
  ·rw[if_pos hj2]
   by_cases hil:i=l
   ·rw[if_pos hil]
    exact O.asym _ _ (b (j-1) (by lia) (by lia))
   ·rw[if_neg hil]
    by_cases hi2:l<i/\i<=k
    ·rw[if_pos hi2]
     exact hs _ _ (by lia) (by lia)
    ·rw[if_neg hi2]
     exact hs _ _ (by lia) (by lia)
  ·rw[if_neg hj2,if_neg (by lia),if_neg (by lia)]
   exact hs _ _ (by lia) (by lia)
theorem qc(O:Ord lt)(c:vD prog w A S κ it lt N){U V:List Nat}(hN:∀x∈V,x<N){pend:Array (Nat×Nat×Nat)}{st:Fd}(s:St κ it (U++V) pend st){lo n ok:Nat}(hU:U.length=lo)(hn:n<=V.length)(h1:1<=ok)(hok:ok<=n)(hs:Sd lt (V.take ok)){Q:Bool->Fd->Prop}
  (h:∀V' st',V'.Perm V->Sd lt (V'.take n)->St κ it (U++V') pend st'->Q true st'):W prog w A S (binarySort' lo n ok) Q st:=by
 show wpS _ _ _ _ _ _ _;refine D2 (HR (GS (I:=λx d st'=>d=(none,())/\∃V',V'.Perm V/\St κ it (U++V') pend st'/\qW lt V' x) (Q:=λd st'=>d=(none,())/\∃V',V'.Perm V/\St κ it (U++V') pend st'/\qW lt V' n) ?_ ?_ ⟨rfl,V,.refl _,s,by rw[Nat.max_eq_left h1]; exact Sd.EN O hs (by lia)⟩) ?_)
 ·rintro k d st' hk1 hk2 ⟨rfl,V1,p1,s1,d1⟩
  have l1:=p1.length_eq;have hN1:∀y∈V1,y<N:=λy hy=>hN y (p1.mem_iff.mp hy)
  dsimp only;refine D2 (HR (GS (I:=λx d st2=>st2=st'/\∃l r,d=(none,l,r)/\l<=r/\r<=k/\r-l<=k-x/\(∀i,i<l->lt (g V1 k) (g V1 i)=false)/\(∀i,r<=i->i<k->lt (g V1 k) (g V1 i)=true))
   (Q:=λd st2=>st2=st'/\∃l,d=(none,l,l)/\l<=k/\(∀i,i<l->lt (g V1 k) (g V1 i)=false)/\(∀i,l<=i->i<k->lt (g V1 k) (g V1 i)=true)) ?_ ?_ ⟨rfl,0,k,rfl,FV _,Da _,by lia,λi hi=>by lia,λi a b=>by lia⟩) ?_)
  ·rintro x d st2 _ hx ⟨rfl,l,r,rfl,b1,b2,b3,b4,b5⟩
   dsimp only
   by_cases hge:l>=r
   ·rw[if_pos hge]
    obtain rfl:l=r:=by lia
    exact E2 ⟨rfl,l,rfl,b2,b4,b5⟩
   ·rw[if_neg hge]
    refine D2 (jy c hN1 s1 hU (i:=k) (j:=(l+r) / 2) rfl rfl (by lia) (by lia) ?_)
    cases e:lt (g V1 k) (g V1 ((l+r) / 2)) with
    |true=>
     refine E2 ⟨rfl,_,_,rfl,by lia,by lia,by lia,b4,λi hi hik=>?_⟩
     cases q:lt (g V1 k) (g V1 i) with
     |true=>rfl
     |false=>
      have z:=O.trans _ _ _ (d1 ((l+r) / 2) i hi hik) q;rw[e] at z; cases z
    |false=>exact E2 ⟨rfl,_,_,rfl,by lia,b2,by lia,λi hi=>O.trans _ _ _ (d1 i ((l+r) / 2) (by lia) (by lia)) e,b5⟩
  ·rintro d st2 ⟨rfl,l,r,rfl,b1,b2,b3,b4,b5⟩
   obtain rfl:l=r:=by lia
   exact⟨rfl,l,rfl,b2,b4,b5⟩
  ·rintro d st2 ⟨rfl,l,rfl,b1,b2,b3⟩
   dsimp only;refine D2 (BV s1 hU (by lia) b1 λst3 s3=>?_)
   exact E2 ⟨rfl,_,(zh V1 k l).trans p1,s3,zj O (by lia) b1 d1 b2 b3⟩
 ·rintro d st' ⟨rfl,V1,p1,s1,d1⟩
  rw[Mz (by lia)] at d1
  exact⟨rfl,V1,p1,s1,d1⟩
 ·rintro d st' ⟨rfl,V1,p1,s1,d1⟩
  exact E2 (h V1 st' p1 (d1.sd (by rw[p1.length_eq]; exact hn)) s1)
theorem uH:∀(l:List Keyed)(X:List Keyed)(sa k:Nat),sa+k+l.length<=X.length->(l.zipIdx k).foldl (λ(a:Array Keyed)(q:Keyed×Nat)=>a.setIfInBounds (sa+q.2) q.1) X.toArray=(X.take (sa+k)++l++X.drop (sa+k+l.length)).toArray:=by
 intro l
 induction l with
 |nil=>
  intro X sa k _;simp
 |cons x l ih=>
  intro X sa k h;rw[D1] at h;rw[Km,Ju];have e:X.toArray.setIfInBounds (sa+k) x=(X.set (sa+k) x).toArray:=by simp
  dsimp only;rw[e,ih (X.set (sa+k) x) sa (k+1) (by rw[N3]; lia)]
  congr 1
  have e1:(X.set (sa+k) x).take (sa+(k+1))=X.take (sa+k)++[x]:=by
   rw[<-Jd,NE,List.take_set_of_le (Da _),Gh (by lia)]
   rfl
  have e2:(X.set (sa+k) x).drop (sa+(k+1)+l.length)=X.drop (sa+k+(x::l).length):=by
   rw[List.drop_set_of_lt (by lia),D1,show sa+(k+1)+l.length=sa+k+(l.length+1) by lia]
  rw[e1,e2,Bi,Bi,Bi];rfl
end
inductive Mt(lt:Nat->Nat->Bool):Nat->List (List Nat)->List (Nat×Nat×Nat)->Prop
 |nil (s:Nat):Mt lt s [] []
 |cons {s:Nat} {r:List Nat} {rs:List (List Nat)} {pw:Nat} {ps:List (Nat×Nat×Nat)}:0<r.length->Sd lt r->Mt lt (s+r.length) rs ps->Mt lt s (r::rs) ((s,r.length,pw)::ps)
inductive Ex(lt:Nat->Nat->Bool)(ps:List (Nat×Nat×Nat))(rs:List (List Nat))(s i:Nat):Prop
 |mk (R0:List (List Nat)) (A B:List Nat) (R1:List (List Nat)) (q0 q1:List (Nat×Nat×Nat)) (pa pb:Nat):rs=R0++A::B::R1->q0.length=i->0<A.length->0<B.length->Sd lt A->Sd lt B ->
  ps=q0++(s+R0.flatten.length,A.length,pa)::(s+R0.flatten.length+A.length,B.length,pb)::q1->(∀C:List Nat,C.length=A.length+B.length->Sd lt C->Mt lt s (R0++C::R1) (q0++(s+R0.flatten.length,A.length+B.length,pa)::q1))->Ex lt ps rs s i
theorem Mt.split{lt:Nat->Nat->Bool}:∀{ps:List (Nat×Nat×Nat)}{rs:List (List Nat)}{s i:Nat},Mt lt s rs ps->i+1<ps.length->Ex lt ps rs s i:=by
 intro ps rs s i m h
 induction m generalizing i with
 |nil _=>simp at h
 |@cons s r rs pw ps h1 h2 m ih=>
  cases i with
  |zero=>
   cases m with
   |nil=>simp at h
   |@cons _ r2 rs pw2 ps g1 g2 m=>
    refine⟨[],r,r2,rs,[],ps,pw,pw2,rfl,rfl,h1,g1,h2,g2,by simp,λC hC sC=>?_⟩
    rw[Fm,Fm,<-hC];refine .cons (by lia) sC ?_
    rw[hC,<-Jd];exact m
  |succ i=>
   obtain⟨R0,A,B,R1,q0,q1,pa,pb,e1,e2,e3,e4,e5,e6,e7,e8⟩:=ih (i:=i) (by simpa using h)
   refine⟨r::R0,A,B,R1,(s,r.length,pw)::q0,q1,pa,pb,by rw[e1]; rfl,by rw[D1,e2],e3,e4,e5,e6,?_,λC hC sC=>?_⟩
   ·rw[e7,HW,Bz,<-Jd]; rfl
   ·have:=e8 C hC sC
    rw[HW,Bz,<-Jd];exact .cons h1 h2 this
theorem Mt.snoc{lt:Nat->Nat->Bool}{s:Nat}{rs:List (List Nat)}{ps:List (Nat×Nat×Nat)}(m:Mt lt s rs ps){r:List Nat}(h1:0<r.length)(h2:Sd lt r)(pw:Nat):Mt lt s (rs++[r]) (ps++[(s+rs.flatten.length,r.length,pw)]):=by
 induction m with
 |nil s=>exact .cons h1 h2 (.nil _)
 |@cons s r' rs pw' ps g1 g2 m ih=>
  rw[HW,Bz,<-Jd];exact .cons g1 g2 ih
theorem Mt.len{lt:Nat->Nat->Bool}{s:Nat}{rs:List (List Nat)}{ps:List (Nat×Nat×Nat)}(m:Mt lt s rs ps):rs.length=ps.length/\ps.length<=rs.flatten.length:=by
 induction m with
 |nil s=>exact⟨rfl,Da _⟩
 |cons g1 g2 m ih=>rw[D1,D1,HW,Bz]; lia
theorem Mt.last{lt:Nat->Nat->Bool}{s:Nat}{rs:List (List Nat)}{ps:List (Nat×Nat×Nat)}(m:Mt lt s rs ps)(pw:Nat):Mt lt s rs (ps.modify (ps.length-1) λq=>(q.1,q.2.1,pw)):=by
 induction m with
 |nil s=>exact .nil s
 |@cons s r rs pw' ps g1 g2 m ih=>
  cases ps with
  |nil=>exact .cons g1 g2 m
  |cons q ps=>exact .cons g1 g2 ih
section
variable{prog:FB}{w:World}{A:Fa}{S:B1}{κ:HC}{it:Array Keyed}{lt:Nat->Nat->Bool}{N:Nat}
theorem i8(O:Ord lt)(c:vD prog w A S κ it lt N){p:List Nat}(hN:∀x∈p,x<N){rs:List (List Nat)}{V:List Nat}(ep:p=rs.flatten++V){ps:List (Nat×Nat×Nat)}(m:Mt lt 0 rs ps){st:Fd}(s:St κ it p ps.toArray st){i:Nat}(hi:i+1<ps.length){Q:Bool->Fd->Prop}
  (h:∀rs' ps' st',rs'.flatten.Perm rs.flatten->Mt lt 0 rs' ps'->ps'.length+1=ps.length->St κ it (rs'.flatten++V) ps'.toArray st'->Q true st'):W prog w A S (mergeAt' i) Q st:=by
 obtain⟨R0,X,Y,R1,q0,q1,pa,pb,e1,e2,e3,e4,e5,e6,e7,e8⟩:=m.split hi;rw[M4] at e7 e8;show wpS _ _ _ _ _ _ _;refine D2 (Jm ?_);have g1:(I9 st)[i]? = some (R0.flatten.length,X.length,pa):=by rw[s.pend,e7,<-e2]; simp
 have g2:(I9 st)[i+1]? = some (R0.flatten.length+X.length,Y.length,pb):=by rw[s.pend,e7,<-e2]; simp
 rw[g1,g2];dsimp only;have e7':((I9 st).setIfInBounds i (R0.flatten.length,X.length+Y.length,pa)).eraseIdxIfInBounds (i+1)=(q0++(R0.flatten.length,X.length+Y.length,pa)::q1).toArray:=by
  rw[s.pend,e7,<-e2];simp[List.eraseIdx_append_of_length_le]
 rw[e7'];refine D2 (show wpS _ _ _ _ (set (J7 (kindOf st) (arrOf st) (q0++(R0.flatten.length,X.length+Y.length,pa)::q1).toArray (My st) (IJ st))) _ _ from ?_)
 refine(show ∀{st':Fd}{Q':PUnit->Fd->Prop},Q' ⟨⟩ st'->wpS (model prog w) A (λ_ _=>False) S (set st':StateT Fd Sem PUnit) Q' st from λ{st' Q'}q=>by unfold wpS; rw[StateT.run_set]; exact BM ⟨rfl,q⟩) ?_
 have s1:St κ it p (q0++(R0.flatten.length,X.length+Y.length,pa)::q1).toArray (J7 (kindOf st) (arrOf st) (q0++(R0.flatten.length,X.length+Y.length,pa)::q1).toArray (My st) (IJ st)):=⟨s.kind,s.arr,rfl,s.fail⟩;have harr:(sortPriv% PySem.Builtin.SortState.a) st=ar it p:=s.arr;generalize J7 (kindOf st) (arrOf st) (q0++(R0.flatten.length,X.length+Y.length,pa)::q1).toArray (My st) (IJ st)=st1 at s1 ⊢;rw[harr];have ps':(q0++(R0.flatten.length,X.length+Y.length,pa)::q1).length+1=ps.length:=by rw[e7]; simp; lia
 generalize hU:R0.flatten=U at e7 e8 s1 ps' g1 g2;generalize hW1:R1.flatten++V=W1;have pp:p=U++(X++(Y++W1)):=by rw[ep,e1,<-hU,<-hW1]; simp
 have back:∀C:List Nat,(R0++C::R1).flatten++V=U++(C++W1):=λC=>by rw[<-hU,<-hW1]; simp
 have fin:∀(C:List Nat)(st':Fd),C.Perm (X++Y)->Sd lt C->St κ it (U++(C++W1)) (q0++(U.length,X.length+Y.length,pa)::q1).toArray st'->Q true st':=λC st' pC sC sS=>by
  refine h (R0++C::R1) _ st' ?_ (e8 C (by rw[pC.length_eq,Bz]) sC) ps' (by rw[back]; exact sS)
  rw[e1,MK,MK,HW,HW,HW,<-Bi X];exact G4 _ (pC.append_right _)
 have lp:p.length=U.length+(X.length+(Y.length+W1.length)):=by rw[pp]; simp
 have dX:p.drop U.length=X++(Y++W1):=by rw[pp]; simp
 have dY:p.drop (U.length+X.length)=Y++W1:=by rw[<-HJ,dX]; simp
 have i1:U.length+X.length<p.length:=by lia
 have pY:p[U.length+X.length]=Y[0]:=by
  have:p[U.length+X.length]? = Y[0]? := by
   rw[pp,Ff (by lia),IS,Ff (Da _),Nat.sub_self,Fu e4]
  rw[Do i1,Do e4] at this;exact FX this
 have hXN:∀x∈X,x<N:=λx hx=>hN x (by rw[pp]; simp[hx])
 have hYN:∀x∈Y,x<N:=λx hx=>hN x (by rw[pp]; simp[hx])
 have tX:∀{k:Nat},k<=X.length->(p.drop U.length).take k=X.take k:=λ{k}hk=>by rw[dX,Ht hk]
 have tY:∀{k:Nat},k<=Y.length->(p.drop (U.length+X.length)).take k=Y.take k:=λ{k}hk=>by rw[dY,Ht hk]
 refine D2 (bz i1 ?_);rw[pY];refine D2 (kP O c (hYN _ (GT e4)) hN (by lia) (by rw[tX (Da _),HB]; exact e5) e3 s1.kind λk hk hlo hhi=>?_)
 rw[tX hk] at hlo;rw[tX (Da _),HB] at hhi;have Y0:=iZ O e6 e4;rw[Hl] at Y0;dsimp only
 by_cases k0:X.length-k=0
 ·rw[if_pos (by simpa using k0)]
  refine E2 (fin (X++Y) st1 (.refl _) (FK.mpr ⟨e5,e6,λx hx y hy=>?_⟩) (by rw[Bi,<-pp]; exact s1))
  rw[Gu (by lia)] at hlo
  exact O.trans _ _ _ (hlo x hx) (Y0 y hy)
 rw[if_neg (by simpa using k0)]
 have i2:U.length+k+(X.length-k)-1<p.length:=by lia
 have i3:X.length-1<X.length:=by lia
 have pX:p[U.length+k+(X.length-k)-1]=X[X.length-1]:=by
  have:p[U.length+k+(X.length-k)-1]? = X[X.length-1]? := by
   rw[pp,Ff (by lia),Fu (by lia)]
   congr 1; lia
  rw[Do i2,Do i3] at this;exact FX this
 refine D2 (bz i2 ?_);rw[pX];refine D2 (kQ O c (hXN _ (GT i3)) hN (by lia) (by rw[tY (Da _),HB]; exact e6) (by lia) s1.kind λj hj jlo jhi=>?_)
 rw[tY hj] at jlo;rw[tY (Da _),HB] at jhi;have Xl:∀x∈X,lt X[X.length-1] x=false:=by
  have:=i6 O e5 e3 (Da _);rw[HB] at this;exact this
 dsimp only
 by_cases j0:j=0
 ·rw[if_pos (by simpa using j0)]
  refine E2 (fin (X++Y) st1 (.refl _) (FK.mpr ⟨e5,e6,λx hx y hy=>?_⟩) (by rw[Bi,<-pp]; exact s1))
  rw[j0,Hl] at jhi;exact O.trans _ _ _ (Xl x hx) (jhi y hy)
 rw[if_neg (by simpa using j0)]
 have ex:(ar it p).extract (U.length+k) (U.length+X.length)=ar it (X.drop k):=by
  rw[sV,<-HJ,dX,Iy hk,Ht (by rw[FP]; lia),Gu (by rw[FP]; lia)]
 have ey:(ar it p).extract (U.length+X.length) (U.length+X.length+j)=ar it (Y.take j):=by
  rw[rD,tY hj]
 rw[ex,ey];have sC:∀res:List Nat,Res lt (X.drop k) (Y.take j) res->Sd lt (X.take k++res++Y.drop j)/\(X.take k++res++Y.drop j).Perm (X++Y):=λres ⟨r1,r2⟩=>by
  refine⟨FK.mpr ⟨FK.mpr ⟨e5.take k,r1,λx hx y hy=>?_⟩,e6.drop j,λx hx y hy=>?_⟩,?_⟩
  ·rcases lM (r2.mem_iff.mp hy) with hy | hy
   ·have h2:=e5
    unfold Sd at h2;rw[<-EZ k X] at h2;exact(FK.mp h2).2.2 x hx y hy
   ·exact O.trans _ _ _ (hlo x hx) (Y0 y (Ge hy))
  ·rcases lM hx with hx | hx
   ·exact O.trans _ _ _ (Xl x (Ge hx)) (jhi y hy)
   ·rcases lM (r2.mem_iff.mp hx) with hx | hx
    ·exact O.trans _ _ _ (Xl x (HV hx)) (jhi y hy)
    ·have h2:=e6
     unfold Sd at h2;rw[<-EZ j Y] at h2;exact(FK.mp h2).2.2 x hx y hy
  ·have:(X.take k++res++Y.drop j).Perm (X.take k++(X.drop k++Y.take j)++Y.drop j):=(G4 _ r2).append_right _
   refine this.trans (.of_eq ?_);rw[<-Bi,EZ,Bi,EZ]
 have tail:∀(res:List Nat)(st2:Fd),bB st1 st2->Res lt (X.drop k) (Y.take j) res->wpS (model prog w) A (λ_ _=>False) S (do
   modify λs=>J7 (kindOf s) (List.foldl (λa x=>match x with | (p,j)=>a.setIfInBounds (U.length+k+j) p) (arrOf s) (ar it res).toList.zipIdx) (I9 s) (My s) (IJ s)
   let r <-get
   pure (IJ r).isNone) Q st2:=λres st2 sm hr=>by
  refine D2 (Jc (D2 (Jm (E2 ?_))));obtain⟨c1,c2⟩:=sC res hr;have lr:res.length=X.length-k+j:=by rw[hr.2.length_eq,Bz,FP,FH]; lia
  have hf:IJ st2=none:=sm.fail.trans s1.fail;show Q ((IJ st2).isNone) _;rw[hf];refine fin _ _ c2 c1 ⟨sm.kind.trans s1.kind,?_,sm.pend.trans s1.pend,rfl⟩;show List.foldl _ (arrOf st2) _=_;rw[sm.arr,s1.arr];have wa:=uH (res.map (GW it)) (p.map (GW it)) (U.length+k) 0 (by rw[B2,B2]; lia)
  refine wa.trans ?_;rw[Nat.add_zero,B2,<-Ip,<-Iq,<-HS,<-HS];show ar it _=ar it _
  congr 1
  have t1:p.take (U.length+k)=U++X.take k:=by rw[pp,List.take_length_add_append,Ht hk]
  have t2:p.drop (U.length+k+res.length)=Y.drop j++W1:=by
   rw[lr,show U.length+k+(X.length-k+j)=U.length+X.length+j by lia,<-HJ,dY,Iy hj]
  rw[t1,t2];simp
 have y0:(Y.take j)[0]'(by rw[FH]; lia)=Y[0]:=by rw[IX]
 have nx:0<(X.drop k).length:=by rw[FP]; lia
 have ny:0<(Y.take j).length:=by rw[FH]; lia
 have c1:∀r∈X.drop k,lt r ((Y.take j)[0]'ny)=false:=λr hr=>by rw[y0]; exact O.asym _ _ (hhi r hr)
 have c2:∀y∈Y.take j,∀x∈(X.drop k).drop ((X.drop k).length-1),lt x y=false:=λy hy x hx=>by
  rw[HJ,FP,show k+(X.length-k-1)=X.length-1 by lia] at hx
  have:X.drop (X.length-1)=[X[X.length-1]]:=by
   have:=bL e3 (Da _);rw[HB] at this;exact this
  rw[this,Bn] at hx;subst hx;exact O.asym _ _ (jlo y hy)
 by_cases hle:X.length-k<=j
 ·rw[if_pos hle]
  refine D2 (oz O c (e5.drop k) (e6.take j) (λx hx=>hXN x (HV hx)) (λx hx=>hYN x (Ge hx)) nx ny c1 c2 s1.kind λres st2 sm hr=>?_)
  exact tail res st2 sm hr
 ·rw[if_neg hle]
  refine D2 (oF O c (e5.drop k) (e6.take j) (λx hx=>hXN x (HV hx)) (λx hx=>hYN x (Ge hx)) nx ny c1 c2 s1.kind λres st2 sm hr=>?_)
  exact tail res st2 sm hr
end
section
variable{prog:FB}{w:World}{A:Fa}{S:B1}{κ:HC}{it:Array Keyed}{lt:Nat->Nat->Bool}{N:Nat}
theorem ite_le{c:Prop}[Decidable c](a:Nat):(if c then a-1 else a)<=a:=by split <;> lia
inductive Wt(κ:HC)(it:Array Keyed)(lt:Nat->Nat->Bool)(p0:List Nat)(lo:Nat)(st:Fd):Prop
 |mk (rs:List (List Nat)) (ps:List (Nat×Nat×Nat)) (V:List Nat):Mt lt 0 rs ps->rs.flatten.length=lo->St κ it (rs.flatten++V) ps.toArray st->(rs.flatten++V).Perm p0->Wt κ it lt p0 lo st
theorem cutR{H:Nat->List Nat->Fd->Prop}{G:Nat->Fd->Prop}{P:Prop}(k:(∀n V s,H n V s->G n s)->P)(g:∀n V s,H n V s->G n s):P:=k g
inductive Ey{β:Type}(κ:HC)(it:Array Keyed)(lt:Nat->Nat->Bool)(p0:List Nat)(x:Nat)(d:Option β×Nat)(st:Fd):Prop
 |mk (lo:Nat):d=(none,lo)->(x<=lo\/lo=p0.length)->lo<=p0.length->Wt κ it lt p0 lo st->Ey κ it lt p0 x d st
inductive DZ(κ:HC)(it:Array Keyed)(lt:Nat->Nat->Bool)(p0:List Nat)(st:Fd)(R:Nat->Prop):Prop
 |mk (rs:List (List Nat)) (ps:List (Nat×Nat×Nat)):Mt lt 0 rs ps->St κ it rs.flatten ps.toArray st->rs.flatten.Perm p0->R ps.length->DZ κ it lt p0 st R
inductive D0(κ:HC)(it:Array Keyed)(lt:Nat->Nat->Bool)(p0:List Nat)(lo:Nat)(V2:List Nat)(st:Fd):Prop
 |mk (rs:List (List Nat)) (ps:List (Nat×Nat×Nat)):Mt lt 0 rs ps->rs.flatten.length=lo->St κ it (rs.flatten++V2) ps.toArray st->(rs.flatten++V2).Perm p0->D0 κ it lt p0 lo V2 st
theorem mz(O:Ord lt)(c:vD prog w A S κ it lt N){p0:List Nat}(hN:∀x∈p0,x<N){st:Fd}(s:St κ it p0 #[] st)(h0:2<=p0.length){Q:Unit->Fd->Prop}
  (h:∀p st',p.Perm p0->Sd lt p->arrOf st'=ar it p->IJ st'=none->Q () st'):W prog w A S sortRuns' Q st:=by
 show wpS _ _ _ _ _ _ _;rw[sortRuns'_eq];refine D2 (Jm ?_);have hsz:(arrOf st).size=p0.length:=by rw[s.arr,iW]
 dsimp only;rw[hsz];generalize minRun' p0.length p0.length 0=mr;refine D2 (HR (GS (I:=λx d st'=>Ey κ it lt p0 x d st') (Q:=λd st'=>d=(none,p0.length)/\Wt κ it lt p0 p0.length st') ?_ ?_ ⟨0,rfl,.inl (Da _),FV _,[],[],p0,.nil 0,rfl,s,.refl _⟩) ?_)
 rotate_left
 ·rintro d st' ⟨lo,rfl,a1,a2,a3⟩
  have:lo=p0.length:=by lia
  subst this;exact⟨rfl,a3⟩
 ·rintro d st' ⟨rfl,rs,ps,V,m,hl,sS,pm⟩
  have hV:V=[]:=by
   have:=pm.length_eq;rw[Bz,hl] at this;exact Ix (by lia)
  subst hV;rw[E3] at sS pm;dsimp only;have lm:=m.len;refine D2 (HR (GS (I:=λx d st2=>d=(none,())/\DZ κ it lt p0 st2 λn=>n+x<=p0.length\/n<=1) (Q:=λd st2=>d=(none,())/\DZ κ it lt p0 st2 λn=>n<=1) ?_ ?_ ⟨rfl,rs,ps,m,sS,pm,.inl (by lia)⟩) ?_)
  ·rintro x d st2 _ hx ⟨rfl,rs,ps,m,sS,pm,hle⟩
   refine D2 (Jm ?_);rw[sS.pend]
   by_cases h1:ps.toArray.size<=1
   ·rw[if_pos h1]
    exact E2 ⟨rfl,rs,ps,m,sS,pm,by simpa using h1⟩
   rw[if_neg h1];have h1':1<ps.length:=by simpa using h1
   refine D2 (i8 O c (p:=rs.flatten) (λx hx=>hN x (pm.mem_iff.mp hx)) (E3 _).symm m sS ?_ λrs' ps' st3 q1 q2 q3 q4=>?_)
   ·have:ps.toArray.size=ps.length:=by simp
    exact KU (Nat.succ_le_succ (ite_le _)) (show ps.toArray.size-2+1<ps.length by lia)
   ·rw[E3] at q4
    exact E2 ⟨rfl,rs',ps',q2,q4,q1.trans pm,by lia⟩
  ·rintro d st2 ⟨rfl,rs,ps,m,sS,pm,hle⟩
   refine⟨rfl,rs,ps,m,sS,pm,?_⟩;have:=m.len;have:p0.length>=2:=h0;lia
  ·rintro d st2 ⟨rfl,rs,ps,m,sS,pm,hle⟩
   refine E2 (h rs.flatten st2 pm ?_ sS.arr sS.fail);cases m with
   |nil _=>exact .nil
   |cons g1 g2 m=>
    cases m with
    |nil _=>simpa using g2
    |cons _ _ _=>simp at hle
 rintro x d st' _ hx ⟨lo,rfl,a1,a2,rs,ps,V,m,hl,sS,pm⟩;dsimp only
 by_cases hge:lo>=p0.length
 ·rw[if_pos hge]
  have:lo=p0.length:=by lia
  subst this;exact E2 ⟨rfl,rs,ps,V,m,hl,sS,pm⟩
 rw[if_neg hge];have hV:V.length=p0.length-lo:=by
  have:=pm.length_eq;rw[Bz,hl] at this;lia
 have hVN:∀{V':List Nat},V'.Perm V->∀y∈V',y<N:=λpV y hy=>hN y (pm.mem_iff.mp (lR _ (pV.mem_iff.mp hy)))
 refine D2 (mw O c (hVN (.refl _)) sS hl hV (by lia) λk V1 st1 k1 k2 pV1 sd1 s1=>?_)
 have l1:=pV1.length_eq;dsimp only;have push:∀(rs:List (List Nat))(ps:List (Nat×Nat×Nat))(n:Nat)(V2:List Nat)(st2:Fd),Mt lt 0 rs ps->rs.flatten.length=lo->St κ it (rs.flatten++V2) ps.toArray st2->(rs.flatten++V2).Perm p0->Sd lt (V2.take n)->1<=n->n<=p0.length-lo->V2.length=p0.length-lo ->
   Wt κ it lt p0 (lo+n) (setPending st2 ((I9 st2).push (lo,n,0))):=λrs ps n V2 st2 m hl sS pm sd n1 n2 lv=>by
  have ln:(V2.take n).length=n:=by rw[FH]; lia
  have e:(rs++[V2.take n]).flatten=rs.flatten++V2.take n:=by simp
  have e2:(rs++[V2.take n]).flatten++V2.drop n=rs.flatten++V2:=by rw[e,Bi,EZ]
  refine⟨rs++[V2.take n],ps++[(lo,n,0)],V2.drop n,?_,by rw[e,Bz,hl,ln],⟨sS.kind,by rw[e2]; exact sS.arr,?_,sS.fail⟩,by rw[e2]; exact pm⟩
  ·have:=m.snoc (r:=V2.take n) (by lia) sd 0
   rw[M4,hl,ln] at this;exact this
  ·show (I9 st2).push _=_
   rw[sS.pend];simp
 refine cutR (H:=λn V2 st2=>V2.Perm V/\Sd lt (V2.take n)/\St κ it (rs.flatten++V2) ps.toArray st2/\1<=n/\n<=p0.length-lo) (λkey=>by
  by_cases hmr:k<mr
  ·rw[if_pos hmr]
   refine D2 (KP (Gy ⟨rfl,?_⟩));have f1:min (p0.length-lo) mr<=p0.length-lo:=ND _ _;have f2:k<=min (p0.length-lo) mr:=by lia
   generalize min (p0.length-lo) mr=n at f1 f2 ⊢;refine D2 (qc O c (hVN pV1) s1 hl (by lia) k1 f2 sd1 λV2 st2 pV2 sd2 s2=>?_)
   rw[if_neg (by simp)]
   exact key n V2 st2 ⟨pV2.trans pV1,sd2,s2,by lia,f1⟩
  ·rw[if_neg hmr]
   exact key k V1 st1 ⟨pV1,sd1,s1,k1,k2⟩) ?_
 rintro n V2 st2 ⟨pV2,sd2,s2,n1,f1⟩;have l2:V2.length=p0.length-lo:=by rw[pV2.length_eq,hV]
 have pm2:(rs.flatten++V2).Perm p0:=(G4 _ pV2).trans pm;refine D2 (Jm ?_);rw[s2.pend];cases hb:ps.toArray.back? with
 |none=>
  dsimp only;refine D2 (Jc (E2 ⟨lo+n,rfl,by lia,by lia,?_⟩))
  exact push rs ps n V2 st2 m hl s2 pm2 sd2 n1 f1 l2
 |some q=>
  obtain⟨b1,b2,b3⟩:=q;dsimp only;generalize power' p0.length (2*b1+b2) (2*b1+b2+b2+n) p0.length=pw;refine D2 (HR (GS (I:=λx d st3=>d=(none,())/\D0 κ it lt p0 lo V2 st3) (Q:=λd st3=>d=(none,())/\D0 κ it lt p0 lo V2 st3) ?_ (λ_ _ z=>z) ⟨rfl,rs,ps,m,hl,s2,pm2⟩) ?_)
  ·rintro y d st3 _ _ ⟨rfl,rs,ps,m,hl,s3,pm3⟩
   refine D2 (Jm ?_);rw[s3.pend]
   by_cases h1:ps.toArray.size>1
   ·rw[if_pos h1]
    have h1':ps.length>1:=by simpa using h1
    have e1:ps.toArray[ps.toArray.size-2]? = some (ps[ps.length-2]'(by lia)):=by simp
    rw[e1];generalize ps[ps.length-2]'(by lia)=q
    obtain⟨c1,c2,c3⟩:=q;dsimp only
    by_cases h2:c3<=pw
    ·rw[if_pos h2]
     exact E2 ⟨rfl,rs,ps,m,hl,s3,pm3⟩
    ·rw[if_neg h2]
     refine D2 (i8 O c (p:=rs.flatten++V2) (λx hx=>hN x (pm3.mem_iff.mp hx)) rfl m s3 (by simp; lia) λrs' ps' st4 q1 q2 q3 q4=>?_)
     exact E2 ⟨rfl,rs',ps',q2,q1.length_eq.trans hl,q4,(q1.append_right _).trans pm3⟩
   ·rw[if_neg h1]
    exact E2 ⟨rfl,rs,ps,m,hl,s3,pm3⟩
  ·rintro d st3 ⟨rfl,rs,ps,m,hl,s3,pm3⟩
   dsimp only;refine D2 (Jc (D2 (Jc (E2 ⟨lo+n,rfl,by lia,by lia,?_⟩))))
   refine push rs (ps.modify (ps.length-1) λq=>(q.1,q.2.1,pw)) n V2 _ (m.last pw) hl ⟨s3.kind,s3.arr,?_,s3.fail⟩ pm3 sd2 n1 f1 l2
   refine Eq.trans (b:=(I9 st3).modify ((I9 st3).size-1) λq=>(q.1,q.2.1,pw)) rfl ?_
   rw[s3.pend];simp
end
end TS
end
section
namespace L2
open PySem PySem.W PyProof.Rows PySem.Calls TS
section
variable{prog:FB}{w:World}{A:Fa}{E:Value->B1->Prop}{s:B1}
noncomputable def ee(vs:List Value)(p:Array Nat):List Value:=p.toList.map λi=>vs.getD i Fp
theorem uI(vs:List Value):ee vs (KY (FD vs.length))=vs:=by
 unfold ee;apply Kb;intro i;rw[Fs]
 by_cases hi:i<vs.length
 ·simp[J4 hi,hi]
 ·simp[HN,hi,N1 hi]
theorem i9{n:Nat}(h:n<=1000000):n<=E6:=by rw[GR]; lia
theorem BW{lt:Nat->Nat->Bool}(O:Ord lt){p:List Nat}(h:Sd lt p):C9 lt p.toArray p.length:=λi j hij hj=>by
 by_cases e:i=j
 ·subst e; exact sR O _
 ·have:=GQ.mp h i j (by lia) hj (by lia)
  have gi:gD p.toArray i=p[i]'(by lia):=by unfold gD; simp[JD,show i<p.length by lia]
  have gj:gD p.toArray j=p[j]:=by unfold gD; simp[JD,hj]
  rw[gi,gj];exact this
theorem mE{a:Addr}{vs:List Value}{n:Nat}{lt:Nat->Nat->Bool}{P:PySem.Fin->B1->Prop}(O:Ord lt)(ho:s.heap.get? a=some (GP "list" vs.toArray n))(hbig:vs.length<=1000000)
  (hk:2<=vs.length->∀h':Heap,(∀b o,b≠a->s.heap.get? b=some o->h'.get? b=some o)->∃κ,(∀Q:HC->B1->Prop,Q κ { s with heap:=h' }->wpAny (model prog w) A (Mx vs.toArray) Q (λ_ _=>False) { s with heap:=h' }) /\
   ∀i j,i<vs.length->j<vs.length->∀C:Bool->B1->Prop,C (lt i j) { s with heap:=h' }->wpAny (model prog w) A (NO κ (vs.getD i Fp) (vs.getD j Fp)) C (λ_ _=>False) { s with heap:=h' })
  (h:∀p:Array Nat,Pm vs.length p->C9 lt p vs.length->P (.done (.ret .none)) { s with heap:=sortedHeap s.heap a vs (ee vs p).toArray }) :
  wpAny (model prog w) A (Gg.«list.sort» ⟨[.ref a],[]⟩) P E s:=by
 have ha:a<s.heap.objs.size:=Ch ho;obtain⟨e1,ho1⟩:∃e1,(s.heap.update a (GK λ_=>(#[]:Array Value))).get? a=some (GP "list" #[] e1):=⟨_,get?_update_seq ho λ_=> #[]⟩
 rw[list_sort_plain];refine AC (Mc ho rfl ?_);refine AC (Kl ho rfl ?_ (by rw[Dx]; exact i9 hbig) (FV _))
 refine AC (Mw ho1 rfl ?_);refine AC (Ls ?_ (by show vs.length<=_; exact i9 hbig))
 refine AC (J6 ?_ (FV _));refine G6 ?_;have ho6:(((s.heap.update a (GK λ_=> #[])).push (GP "tuple" vs.toArray 0)).push (GP "list" #[] 0)).get? a=some (GP "list" #[] e1):=by
  rw[Hy _ _ _ (by rw[M3,Ib]; exact E1 (Gx ha)),Hy _ _ _ (by rw[Ib]; exact E1 ha)]
  exact ho1
 show wpAny (model prog w) A _ P E { s with heap:=((s.heap.update a (GK λ_=>(#[]:Array Value))).push (GP "tuple" vs.toArray 0)).push (GP "list" #[] 0) }
 dsimp only
 by_cases h2:vs.toArray.size<2
 ·rw[if_pos h2,if_pos h2]
  refine AC (BM ?_);rw[StateT.run_pure];refine AC (BM ?_);dsimp only;refine AC (Mw ho6 rfl ?_);have hsmall:vs.length<2:=by simpa using h2
  refine AC (Kl ho6 rfl ?_ (hsz2:=by rw[Array.size_map]; show (pairsOf vs).size<=_; rw[pairsOf_size]; exact Mo (i9 hbig)))
  simp only[bne_self_eq_false,IR,if_false];have hs:C9 lt (KY (FD vs.length)) vs.length:=λi j hij hj=>by
   have e:i=j:=by lia
   subst e; exact sR O _
  have z:=h _ (Array.Perm.refl _) hs;have eo:((arrOf (J7 general' (vs.toArray.zip vs.toArray) #[] 7 none)).map (·.2))=(ee vs (KY (FD vs.length))).toArray:=by
   rw[uI];show (vs.toArray.zip vs.toArray).map (·.2)=vs.toArray;apply Mi.mp;simp[Ko]
  refine BM ?_;rw[<-eo] at z;exact z
 ·rw[if_neg h2,if_neg h2]
  have h2':2<=vs.length:=by
   have:¬vs.length<2:=by simpa using h2
   lia
  have keep:∀b o,b≠a->s.heap.get? b=some o->(((s.heap.update a (GK λ_=>(#[]:Array Value))).push (GP "tuple" vs.toArray 0)).push (GP "list" #[] 0)).get? b=some o:=λb o hb e=>
   At _ (At _ ((GD s.heap _ (HZ hb)).trans e))
  obtain⟨κ,hkk,hlt⟩:=hk h2' _ keep;refine AC (Gz (hkk _ ?_) (λκ s0 hk=>hk) λ_ _ x=>x.elim)
  generalize eS:({ s with heap:=((s.heap.update a (GK λ_=>(#[]:Array Value))).push (GP "tuple" vs.toArray 0)).push (GP "list" #[] 0) }:B1)=S at hlt ⊢
  have item:∀i,i<vs.length->(GW (vs.toArray.zip vs.toArray) i).1=vs.getD i Fp:=λi hi=>by
   unfold GW;simp[JD,hi]
  have cm:vD prog w A S κ (vs.toArray.zip vs.toArray) lt vs.length:=λi j hi hj C hC=>by
   rw[item i hi,item j hj];exact hlt i j hi hj C hC
  have er:=kas_range (vs.toArray.zip vs.toArray);rw[show (vs.toArray.zip vs.toArray).size=vs.length by simp] at er
  have sS:TS.St κ (vs.toArray.zip vs.toArray) (FD vs.length) #[] (J7 κ (vs.toArray.zip vs.toArray) #[] 7 none):=⟨rfl,by
   rw[List.map_toArray] at er;exact er.symm,rfl,rfl⟩
  have run:=mz (Q:=λ_ st'=>∃p:List Nat,p.Perm (FD vs.length)/\Sd lt p/\arrOf st'=p.toArray.map (GW (vs.toArray.zip vs.toArray))/\IJ st'=none) O cm (λx hx=>Hj.mp hx) sS (by simpa using h2') (λp st' q1 q2 q3 q4=>⟨p,q1,q2,by rw[q3]; simp[ar],q4⟩)
  refine AC (Gz run ?_ λ_ _ e=>e.elim)
  rintro⟨⟨⟩,st'⟩ s' ⟨hs',p,hp,hsd,har,hf⟩;subst hs';subst eS;dsimp only;have hpl:p.length=vs.length:=by rw[hp.length_eq,Fj]
  have hout:=kat_snds (p:=p.toArray) rfl har;rw[hout];refine AC (Mw ho6 rfl ?_);refine AC (Kl ho6 rfl ?_ (hsz2:=by rw[Dx,B2]; simp only[hpl]; exact Mo (i9 hbig)))
  rw[hf];simp only[bne_self_eq_false,IR,if_false];refine BM (h p.toArray ?_ ?_)
  ·exact HH.mpr (by simpa using hp)
  ·have:=BW O hsd
   rw[hpl] at this;exact this
theorem ir{a:Addr}{vs:List Value}{n:Nat}{lt:Nat->Nat->Bool}{P:PySem.Fin->B1->Prop}(O:Ord lt)(ho:s.heap.get? a=some (GP "list" vs.toArray n))(h64:vs.length<64)
  (hk:2<=vs.length->∀h':Heap,(∀b o,b≠a->s.heap.get? b=some o->h'.get? b=some o)->∃κ,(∀Q:HC->B1->Prop,Q κ { s with heap:=h' }->wpAny (model prog w) A (Mx vs.toArray) Q (λ_ _=>False) { s with heap:=h' }) /\
   ∀i j,i<vs.length->j<vs.length->∀C:Bool->B1->Prop,C (lt i j) { s with heap:=h' }->wpAny (model prog w) A (NO κ (vs.getD i Fp) (vs.getD j Fp)) C (λ_ _=>False) { s with heap:=h' })
  (h:∀p:Array Nat,Pm vs.length p->C9 lt p vs.length->P (.done (.ret .none)) { s with heap:=sortedHeap s.heap a vs (ee vs p).toArray }) :
  wpAny (model prog w) A (Gg.«list.sort» ⟨[.ref a],[]⟩) P E s:=mE O ho (by lia) hk h
theorem rE{l:Addr}{vs:List Value}{lt:Nat->Nat->Bool}{Q:Value->B1->Prop}(O:Ord lt)(hl:s.heap.IsList l vs.toArray)(h64:vs.length<64)
  (hk:2<=vs.length->∀(A':Fa),A'.units<=A.units+2->∀h':Heap,(∀b o,s.heap.get? b=some o->h'.get? b=some o)->∃κ,(∀Q:HC->B1->Prop,Q κ { s with heap:=h' }->wpAny (model prog w) A' (Mx vs.toArray) Q (λ_ _=>False) { s with heap:=h' }) /\
   ∀i j,i<vs.length->j<vs.length->∀C:Bool->B1->Prop,C (lt i j) { s with heap:=h' }->wpAny (model prog w) A' (NO κ (vs.getD i Fp) (vs.getD j Fp)) C (λ_ _=>False) { s with heap:=h' })
  (h:∀p:Array Nat,Pm vs.length p->C9 lt p vs.length->Q (.ref (s.heap.objs.size+1)) { s with heap:=sortedAll s.heap vs (ee vs p).toArray }) :
  wpAny (model prog w) A (call (.builtin "sorted") [.ref l]) Q E s:=by
 refine IB Lf L9 LA (LC _) ?_;unfold Gg.«sorted»;refine AC (m:=Ly "sorted" 1 1 _) (BM ?_);refine AC (collect_list hl ?_ (by rw[GR]; lia))
 refine AC (J6 ?_ (by rw[GR]; lia))
 have hsz:((s.heap.push (GP "list" #[] 0)).update s.heap.objs.size (GK (· ++ vs.toArray))).objs.size=s.heap.objs.size+1:=by
  rw[Ib,M3]
 have hoL:(((s.heap.push (GP "list" #[] 0)).update s.heap.objs.size (GK (· ++ vs.toArray))).push (GP "list" vs.toArray 0)).get? (s.heap.objs.size+1)=some (GP "list" vs.toArray 0):=by
  rw[<-hsz]; exact Db _ rfl
 have keep:∀b o,s.heap.get? b=some o->b≠s.heap.objs.size+1/\(((s.heap.push (GP "list" #[] 0)).update s.heap.objs.size (GK (· ++ vs.toArray))).push (GP "list" vs.toArray 0)).get? b=some o:=λb o q=>by
  have hlt:b<s.heap.objs.size:=Ch q;refine⟨E1 (Gx hlt),?_⟩;rw[Hy _ _ _ (by rw[hsz]; exact E1 (Gx hlt)),MF _ _ _ _ (E1 hlt),Hy _ _ _ (E1 hlt)]
  exact q
 show wpAny _ _ _ _ _ { s with heap:=((s.heap.push (GP "list" #[] 0)).update s.heap.objs.size (GK (· ++ vs.toArray))).push (GP "list" vs.toArray 0) }
 rw[hsz];refine AC (G6 (GF KQ ⟨_,hoL,rfl⟩ K6 ?body (KR _)))
 case body=>
  refine ir O hoL h64 (λh2 h' kp=>hk h2 _ ?_ h' λb o e=>kp b o (keep b o e).1 (keep b o e).2) λp a1 a2=>⟨_,rfl,BM ⟨_,rfl,h p a1 a2⟩⟩
  show A.units+1+1<=A.units+2;lia
end
end L2
end
section
namespace L2
open PySem PySem.W PyProof.Rows PySem.Calls
theorem cN:∀(a b:List Int),HT.lexLt a b=true->HT.lexLt b a=false
 |[],[],h=>by cases h
 |[],_::_,_=>rfl
 |_::_,[],h=>by cases h
 |x::xs,y::ys,h=>by
  rw[HT.aV] at h ⊢
  by_cases e:x=y
  ·subst e
   rw[if_pos rfl] at h ⊢;exact cN xs ys h
  ·rw[if_neg e] at h
   rw[if_neg (HZ e)];have:x<y:=by simpa using h
   exact decide_eq_false (by lia)
theorem cT:∀(a b c:List Int),HT.lexLt b a=false->HT.lexLt c b=false->HT.lexLt c a=false
 |[],[],[],_,_=>rfl
 |[],[],_::_,_,_=>rfl
 |[],_::_,[],_,h=>by cases h
 |[],_::_,_::_,_,_=>rfl
 |_::_,[],_,h,_=>by cases h
 |_::_,_::_,[],_,h=>by cases h
 |x::xs,y::ys,z::zs,h1,h2=>by
  rw[HT.aV] at h1 h2 ⊢
  by_cases e1:y=x
  ·subst e1
   rw[if_pos rfl] at h1
   by_cases e2:z=y
   ·subst e2
    rw[if_pos rfl] at h2 ⊢;exact cT xs ys zs h1 h2
   ·rw[if_neg e2] at h2 ⊢
    exact h2
  ·rw[if_neg e1] at h1
   have l1:¬y<x:=by simpa using h1
   by_cases e2:z=y
   ·subst e2
    rw[if_neg e1];exact decide_eq_false l1
   ·rw[if_neg e2] at h2
    have l2:¬z<y:=by simpa using h2
    rw[if_neg (by lia)]
    exact decide_eq_false (by lia)
theorem lexOrd(ks:List (List Int)):Ord (λi j=>HT.lexLt (ks.getD i []) (ks.getD j [])):=⟨λa b=>cN _ _,λa b c=>cT _ _ _⟩
def Dc(K:AT)(H:Hp)(ys:List V)(ks:List (List Int)):Prop:=HL (λ(v:V)(t:List Int)=>∃a,v=.ref a/\dR K H a (t.map V.int)) ys ks
theorem HL.getD{α β:Type}{F:α->β->Prop}{d:α}{d':β}:∀{xs:List α}{ys:List β},HL F xs ys->∀i,i<xs.length->F (xs.getD i d) (ys.getD i d'):=by
 intro xs ys h
 induction h with
 |nil=>exact λi h=>absurd h (Nat.not_lt_zero _)
 |cons r t ih=>
  intro i h;cases i with
  |zero=>exact r
  |succ i=>
   have:=ih i (by simpa using h)
   simpa using this
theorem jU{prog:FB}{w:World}{A:Fa}{b:Bool}{Q:Bool->B1->Prop}{s:B1}:∀(xs ys:List Value)(as bs:List Int)(i:Nat),Vals (as.map V.int) xs->Vals (bs.map V.int) ys ->
  Q (HT.lexLt as bs) s->∀fin,(∀(n:Nat),fin=decide (n+xs.length<n+ys.length)->True)->(fin=decide (xs.length<ys.length))->KatLex prog w A b fin Q (xs.zip ys) i s:=by
 intro xs
 induction xs with
 |nil=>
  intro ys as bs i h1 h2 q fin _ hf;have e:as=[]:=by
   have:=h1.length;simpa using this
  subst e;show Q fin s;cases bs with
  |nil=>
   cases h2;rw[hf]; exact q
  |cons y bs=>
   cases h2 with
   |cons _ t=>
    have q:Q true s:=q;rw[hf]; simpa using q
 |cons x xs ih=>
  intro ys as bs i h1 h2 q fin _ hf;cases ys with
  |nil=>
   have e:bs=[]:=by
    have:=h2.length;simpa using this
   subst e;cases as with
   |nil=>cases h1
   |cons a as=>
    show Q fin s;have q:Q false s:=q;rw[hf];simpa using q
  |cons y ys=>
   cases as with
   |nil=>cases h1
   |cons a as=>
    cases bs with
    |nil=>cases h2
    |cons c bs=>
     cases h1 with
     |cons r1 t1=>
      cases h2 with
      |cons r2 t2=>
       obtain⟨t,rfl⟩:=r1;obtain⟨u,rfl⟩:=r2;refine kat_cons (wpAny_eqBool_int ?_);rw[HT.aV] at q
       by_cases e:a=c
       ·subst e
        rw[show (a == a)=true by simp]
        rw[if_pos rfl] at q;exact kat_yes (ih ys as bs (i+1) t1 t2 q fin (λ_ _=>IM) (by rw[hf]; simp))
       ·rw[show (a == c)=false by simpa using e]
        rw[if_neg e] at q;refine kat_no ?_;cases hb:(b && i == 0) with
        |true=>exact oneLt_int q
        |false=>exact kat_one _ _ (MQ q)
section
variable{X:Cx}
theorem jz:bf X (.builtin "sorted") (λxs H Q=>∃p ns,xs=[.ref p]/\gg X.K H p (ns.map V.int)/\ns.length<64/\∀(ns':List Int)l,ns'.Perm ns->ns'.Pairwise (·<=·)->H l=none->Q (.ref l) (upd H l (.lst (ns'.map V.int)))):=by
 intro pins s σ H xs us Q I r h;obtain⟨p,ns,rfl,hq,h64,q⟩:=h;obtain⟨u,rfl,rx⟩:=vals1 r;cases rx;obtain⟨its,rv,pl,hz⟩:=I.list hq;have hI:Gr its ns:=by
  clear pl hz h64 q hq
  induction ns generalizing its with
  |nil=>cases rv; exact .nil
  |cons n ns ih=>
   cases rv with
   |cons r1 t1=>
    obtain⟨t,rfl⟩:=r1;exact .cons n t (ih _ t1)
 have hl:=rv.length;rw[B2] at hl;refine sorted_ints pl.isList hI (by lia) λout ns' ho hp hs=>?_
 obtain⟨e,he⟩:=L8 s.heap its out;have hv:Vals (ns'.map V.int) out.toList:=by
  clear he hp hs
  generalize out.toList=os at ho
  induction ho with
  |nil=>exact .nil
  |cons n t _ ih=>exact .cons ⟨_,rfl⟩ ih
 have hlen:(ns'.map V.int).length<=E6:=by
  rw[B2,hp.length_eq,GR]; lia
 refine⟨.ref (s.heap.objs.size+1),_,I.laid (t':=s.toks) (a:=s.heap.objs.size+1) (o:=.lst (ns'.map V.int)) (λb u e=>Kk e) (GU _) ?_,rfl,q ns' _ hp hs (I.hok.fresh (GU _))⟩
 refine⟨hlen,out.toList,e,hv,?_⟩;rw[he]
 all_goals simp[GP]
theorem jV{pins:List (Addr×Obj)}{σ:St}{H:Hp}{s:B1}{h':Heap}(I:Inv X pins σ H s)(kp:∀b o,s.heap.get? b=some o->h'.get? b=some o):∀{ys:List V}{ks:List (List Int)}{its:List Value},Dc X.K H ys ks->Vals ys its->(∀t∈ks,t≠[]) ->
  ∃fs,KatTups h' its fs/\fs.length=its.length/\∀v∈fs,∃i t,v=La i t:=by
 intro ys ks its h
 induction h generalizing its with
 |nil=>intro v _; cases v; exact⟨[],.nil,rfl,λ_ h=>nomatch h⟩
 |@cons y t _ _ h r ih=>
  intro v hne;obtain⟨a,e,hq⟩:=h;cases v with | cons ru rr=>
  subst e;cases ru;obtain⟨fs,h1,h2,h3⟩:=ih rr λt ht=>hne t (lO _ ht)
  obtain⟨its',rv,⟨o,ho,hc,n,hd⟩,_⟩:=I.tuple hq;cases t with
  |nil=>exact absurd rfl (hne [] lS)
  |cons i t=>
   cases rv with
   |cons r1 t1=>
    obtain⟨tk,rfl⟩:=r1;refine⟨.int i tk::fs,.cons (kp _ _ ho) hc hd rfl h1,by simp[h2],λv hv=>?_⟩
    rcases lK hv with e | hv
    ·exact⟨i,tk,e⟩
    ·exact h3 v hv
theorem iu{α β:Type}{p:Array Nat}{zs:List α}{d:α}(h:Pm zs.length p):(p.toList.map λi=>zs.getD i d).Perm zs:=by
 have h1:p.toList.Perm (FD zs.length):=HH.mp h;have h2:(p.toList.map λi=>zs.getD i d).Perm ((FD zs.length).map λi=>zs.getD i d):=h1.map _
 have h3:((FD zs.length).map λi=>zs.getD i d)=zs:=by
  apply Kb;intro i;rw[Fs]
  by_cases hi:i<zs.length
  ·rw[J4 hi]
   simp[hi]
  ·rw[HN (by simpa using hi),HN (by simpa using hi)]
   rfl
 rw[h3] at h2;exact h2
theorem ja{α β:Type}{d:α}{d':β}:∀{xs:List α}{ys:List β}(i:Nat),xs.length=ys.length->(xs.zip ys).getD i (d,d')=(xs.getD i d,ys.getD i d'):=by
 intro xs
 induction xs with
 |nil=>intro ys i h; cases ys with
  |nil=>simp
  |cons _ _=>simp at h
 |cons x xs ih=>
  intro ys i h;cases ys with
  |nil=>simp at h
  |cons y ys=>
   cases i with
   |zero=>rfl
   |succ i=>
    have:=ih (ys:=ys) i (by simpa using h)
    simpa using this
theorem jA:bf X (.builtin "sorted") (λxs H Q=>∃p ys ks,xs=[.ref p]/\gg X.K H p ys/\Dc X.K H ys ks/\(∀t∈ks,t≠[])/\ys.length<64 /\
  ∀(zs:List (V×List Int))l,zs.Perm (ys.zip ks)->(zs.map (·.2)).Pairwise (λa b=>HT.lexLt b a=false)->H l=none->Q (.ref l) (upd H l (.lst (zs.map (·.1))))):=by
 intro pins s σ H xs us Q I r h;obtain⟨p,ys,ks,rfl,hq,ht,hne,h64,q⟩:=h;obtain⟨u,rfl,rx⟩:=vals1 r;cases rx;obtain⟨its,rv,pl,hz⟩:=I.list hq;have hl:=rv.length;have hk:ys.length=ks.length:=ID ht;refine rE (lexOrd ks) pl.isList (by lia) (λh2 A' _ h' kp=>⟨tuples' true,λQ' hq' =>?_,λi j hi hj C hC=>?_⟩) λpm hpm hsr=>?_
 ·obtain⟨fs,h1,h2',h3⟩:=jV I kp ht rv hne
  refine kat_kind (s:={ s with heap:=h' }) (T:=.type "int") h1 (by lia) (λv hv=>?_) rfl hq'
  obtain⟨i,t,rfl⟩:=h3 v hv;exact Looks.now
 ·have hiy:i<ys.length:=by lia
  have hjy:j<ys.length:=by lia
  obtain⟨a,ea,qa⟩:=HL.getD (d:=V.non) (d':=[]) ht i hiy;obtain⟨b,eb,qb⟩:=HL.getD (d:=V.non) (d':=[]) ht j hjy;have ra:=HL.getD (d:=V.non) (d':=Fp) rv i hiy;have rb:=HL.getD (d:=V.non) (d':=Fp) rv j hjy;rw[ea] at ra;rw[eb] at rb;have ra:its.getD i Fp=.ref a:=ra;have rb:its.getD j Fp=.ref b:=rb;rw[ra,rb];obtain⟨ia,va,⟨oa,ha,_,na,da⟩,_⟩:=I.tuple qa;obtain⟨ib,vb,⟨ob,hb,_,nb,db⟩,_⟩:=I.tuple qb;refine kat_lt (s:={ s with heap:=h' }) (kp _ _ ha) da (kp _ _ hb) db ?_
  refine jU ia ib _ _ 0 va vb hC _ (λ_ _=>IM) ?_
  simp
 ·have hlen:its.length=ys.length:=hl.symm
  have hzl:(ys.zip ks).length=its.length:=by rw[Ks]; lia
  let zs:List (V×List Int):=pm.toList.map λi=>(ys.zip ks).getD i (V.non,[])
  have hzp:zs.Perm (ys.zip ks):=iu (β:=Nat) (by rw[hzl]; exact hpm)
  have e1:zs.map (·.1)=pm.toList.map λi=>ys.getD i V.non:=by
   show Iv _ (Iv _ _)=_;rw[Ee];exact Fo λi _=>by show ((ys.zip ks).getD i (V.non,[])).1=_; rw[ja i hk]
  have e2:zs.map (·.2)=pm.toList.map λi=>ks.getD i []:=by
   show Iv _ (Iv _ _)=_;rw[Ee];exact Fo λi _=>by show ((ys.zip ks).getD i (V.non,[])).2=_; rw[ja i hk]
  have hpw:(zs.map (·.2)).Pairwise (λa b=>HT.lexLt b a=false):=by
   rw[e2,Gv,GQ];intro i j hi hj hij;have sz:pm.toList.length=its.length:=by rw[FW]; exact hpm.size
   have z:=hsr i j (by lia) (by lia)
   have gi:gD pm i=pm.toList[i]:=by unfold gD; simp[JD,show i<pm.size by simpa using hi]
   have gj:gD pm j=pm.toList[j]:=by unfold gD; simp[JD,show j<pm.size by simpa using hj]
   rw[gi,gj] at z;exact z
  obtain⟨e,he⟩:=L8 s.heap its (ee its pm).toArray;have hv:Vals (zs.map (·.1)) (ee its pm):=by
   rw[e1];unfold ee;have hb:∀i∈pm.toList,i<ys.length:=λi hi=>by
    have h1:pm.toList.Perm (FD its.length):=HH.mp hpm;have:=h1.mem_iff.mp hi;have:i<its.length:=by simpa using this
    lia
   clear he hpw e1 e2 hzp hsr hpm
   generalize pm.toList=ix at hb
   clear zs
   induction ix with
   |nil=>exact .nil
   |cons i ix ih=>exact .cons (HL.getD (d:=V.non) (d':=Fp) rv i (hb i lS)) (ih λj hj=>hb j (lO _ hj))
  refine⟨.ref (s.heap.objs.size+1),_,I.laid (t':=s.toks) (a:=s.heap.objs.size+1) (o:=.lst (zs.map (·.1))) (λb u e=>Kk e) (GU _) ?_,rfl,q zs _ hzp hpw (I.hok.fresh (GU _))⟩
  refine⟨?_,ee its pm,e,hv,he⟩;rw[B2,hzp.length_eq,hzl,GR];lia
end
end L2
end
section
namespace L2
open PySem PySem.Spec PyProof.Rows
section
variable{prog:FB}{w:World}{A:Fa}{E:Value->B1->Prop}{s:B1}
theorem wK{j t:Addr}{k:Nat}{its:Array Value}{v:Value}{Q:Value->B1->Prop}(hj:s.heap.IsTupleIter j t k)(ht:s.heap.IsTuple t its)(hv:its[k]? = some v)
  (h:∀g,g.IsTupleIter j t (k+1)->HU j s.heap g->Q v { s with heap:=g }):wpAny (model prog w) A (E8 (.ref j)) Q E s:=by
 obtain⟨oj,ej,cj,dj⟩:=id hj;obtain⟨ot,et,_,nt,dt⟩:=ht;unfold E8;refine AC (G8 (name:=Hv "__next__") hj.typeIs IC (GF IC hj.typeIs Ld ?body (LX _)))
 case body=>
  show wpAny _ _ (field (.ref j) 0 >>= _) _ _ s;refine AC (Fq ej dj (x:=.ref t) rfl ?a)
  case a=>
   show wpAny _ _ (if (Gn t == Fp)=true then _ else _) _ _ s
   rw[if_neg (by intro z; exact GI z)]
   show wpAny _ _ (field (.ref j) 1 >>= _) _ _ s;refine AC (Fq ej dj (x:=.int k 0) rfl ?b)
   case b=>
    show wpAny _ _ (JT (.ref t) >>= _) _ _ s;refine AC (GJ et dt ?c)
    case c=>
     simp only[GY,hv];refine AC (KH ej dj (by simp) (BM ⟨v,rfl,BM (h _ ⟨_,Hx _ ej (M9 (JJ dj _)),(Mn ..).trans cj,?d⟩ (IZ ..))⟩))
     rw[JJ dj];simp[Jq]
theorem zk{j t:Addr}{k:Nat}{its:Array Value}{Q:Value->B1->Prop}(hh:A.handled=none)(hj:s.heap.IsTupleIter j t k)(ht:s.heap.IsTuple t its)(hv:its[k]? = none)
  (h:∀g x,Jx j s.heap g->(∃o,g.get? x=some o/\o.cls=.type "StopIteration")->E (.ref x) { s with heap:=g }):wpAny (model prog w) A (E8 (.ref j)) Q E s:=by
 obtain⟨oj,ej,cj,dj⟩:=id hj;obtain⟨ot,et,_,nt,dt⟩:=ht;unfold E8;refine AC (G8 (name:=Hv "__next__") hj.typeIs IC (GF IC hj.typeIs Ld ?body (LX _)))
 case body=>
  show wpAny _ _ (field (.ref j) 0 >>= _) _ _ s;refine AC (Fq ej dj (x:=.ref t) rfl ?a)
  case a=>
   show wpAny _ _ (if (Gn t == Fp)=true then _ else _) _ _ s
   rw[if_neg (by intro z; exact GI z)]
   show wpAny _ _ (field (.ref j) 1 >>= _) _ _ s;refine AC (Fq ej dj (x:=.int k 0) rfl ?b)
   case b=>
    show wpAny _ _ (JT (.ref t) >>= _) _ _ s;refine AC (GJ et dt ?c)
    case c=>
     simp only[GY,hv];refine AC (Gy (AC (KH ej dj (by simp) ?d)))
     case d=>
      show wpAny _ _ (newExc (.type "StopIteration") [] >>= _) _ _ _;refine AC ?f;simp only[newExc,newTuple];refine AC (FU ?g (by size_fits))
      case g=>
       refine AC (m:=KM _ _) (LY (a:=Fp) (by first | rfl | (simp only[KM]; rfl)) ?k)
       case k=>
        refine FU ?l (by size_fits)
        simp only[raiseNew];refine AC (wpAny_handled ?m)
        first | rw[show A.in1.handled=none from hh] | rw[hh]
        refine AC (BM (wpAny_throw (h _ _ (((IZ ..).extBut.push _).push _) ⟨_,Db _ rfl,rfl⟩)))
theorem wL{j t:Addr}{k:Nat}{its:Array Value}{v:Value}{Q:Value->B1->Prop}(hj:s.heap.IsListIter j t k)(ht:s.heap.IsList t its)(hv:its[k]? = some v)
  (h:∀g,g.IsListIter j t (k+1)->HU j s.heap g->Q v { s with heap:=g }):wpAny (model prog w) A (E8 (.ref j)) Q E s:=by
 obtain⟨oj,ej,cj,dj⟩:=id hj;obtain⟨ot,et,_,nt,dt⟩:=ht;unfold E8;refine AC (G8 (name:=Hv "__next__") hj.typeIs JZ (GF JZ hj.typeIs N6 ?body (NK _)))
 case body=>
  show wpAny _ _ (field (.ref j) 0 >>= _) _ _ s;refine AC (Fq ej dj (x:=.ref t) rfl ?a)
  case a=>
   show wpAny _ _ (if (Gn t == Fp)=true then _ else _) _ _ s
   rw[if_neg (by intro z; exact GI z)]
   show wpAny _ _ (field (.ref j) 1 >>= _) _ _ s;refine AC (Fq ej dj (x:=.int k 0) rfl ?b)
   case b=>
    show wpAny _ _ (JT (.ref t) >>= _) _ _ s;refine AC (GJ et dt ?c)
    case c=>
     simp only[GY,hv];refine AC (KH ej dj (by simp) (BM ⟨v,rfl,BM (h _ ⟨_,Hx _ ej (M9 (JJ dj _)),(Mn ..).trans cj,?d⟩ (IZ ..))⟩))
     rw[JJ dj];simp[Jq]
theorem zl{j t:Addr}{k:Nat}{its:Array Value}{Q:Value->B1->Prop}(hh:A.handled=none)(hj:s.heap.IsListIter j t k)(ht:s.heap.IsList t its)(hv:its[k]? = none)
  (h:∀g x,Jx j s.heap g->(∃o,g.get? x=some o/\o.cls=.type "StopIteration")->E (.ref x) { s with heap:=g }):wpAny (model prog w) A (E8 (.ref j)) Q E s:=by
 obtain⟨oj,ej,cj,dj⟩:=id hj;obtain⟨ot,et,_,nt,dt⟩:=ht;unfold E8;refine AC (G8 (name:=Hv "__next__") hj.typeIs JZ (GF JZ hj.typeIs N6 ?body (NK _)))
 case body=>
  show wpAny _ _ (field (.ref j) 0 >>= _) _ _ s;refine AC (Fq ej dj (x:=.ref t) rfl ?a)
  case a=>
   show wpAny _ _ (if (Gn t == Fp)=true then _ else _) _ _ s
   rw[if_neg (by intro z; exact GI z)]
   show wpAny _ _ (field (.ref j) 1 >>= _) _ _ s;refine AC (Fq ej dj (x:=.int k 0) rfl ?b)
   case b=>
    show wpAny _ _ (JT (.ref t) >>= _) _ _ s;refine AC (GJ et dt ?c)
    case c=>
     simp only[GY,hv];refine AC (Gy (AC (KH ej dj (by simp) ?d)))
     case d=>
      show wpAny _ _ (newExc (.type "StopIteration") [] >>= _) _ _ _;refine AC ?f;simp only[newExc,newTuple];refine AC (FU ?g (by size_fits))
      case g=>
       refine AC (m:=KM _ _) (LY (a:=Fp) (by first | rfl | (simp only[KM]; rfl)) ?k)
       case k=>
        refine FU ?l (by size_fits)
        simp only[raiseNew];refine AC (wpAny_handled ?m)
        first | rw[show A.in1.handled=none from hh] | rw[hh]
        refine AC (BM (wpAny_throw (h _ _ (((IZ ..).extBut.push _).push _) ⟨_,Db _ rfl,rfl⟩)))
def SQ(t:Bool)(h:Heap)(a:Addr)(its:Array Value):Prop:=∃o,h.get? a=some o/\o.cls=.type (if t=true then "tuple" else "list")/\∃n,o.data=.seq its n
def SI(t:Bool)(h:Heap)(i a:Addr)(k:Nat):Prop:=∃o,h.get? i=some o/\o.cls=.type (if t=true then "tuple_iterator" else "list_iterator")/\o.data=.fields #[.ref a,.int k 0]
theorem SQ.at{t:Bool}{h h':Heap}{a:Addr}{its:Array Value}(x:SQ t h a its)(e:∀o,h.get? a=some o->h'.get? a=some o):SQ t h' a its:=let ⟨o,ho,r⟩:=x; ⟨o,e _ ho,r⟩
theorem SI.at{t:Bool}{h h':Heap}{i a:Addr}{k:Nat}(x:SI t h i a k)(e:∀o,h.get? i=some o->h'.get? i=some o):SI t h' i a k:=let ⟨o,ho,r⟩:=x; ⟨o,e _ ho,r⟩
theorem SQ.extBut{t:Bool}{h h':Heap}{a b:Addr}{its:Array Value}(x:SQ t h a its)(hs:Jx b h h')(hab:a≠b):SQ t h' a its:=x.at λo e=>hs a o hab e
theorem SI.extBut{t:Bool}{h h':Heap}{i a b:Addr}{k:Nat}(x:SI t h i a k)(hs:Jx b h h')(hab:i≠b):SI t h' i a k:=x.at λo e=>hs i o hab e
theorem gS{t:Bool}{j a:Addr}{k:Nat}{its:Array Value}{v:Value}{Q:Value->B1->Prop}(hj:SI t s.heap j a k)(ht:SQ t s.heap a its)(hv:its[k]? = some v)
  (h:∀g,SI t g j a (k+1)->HU j s.heap g->Q v { s with heap:=g }):wpAny (model prog w) A (E8 (.ref j)) Q E s:=by
 cases t with
 |true=>exact wK hj ht hv h
 |false=>exact wL hj ht hv h
theorem oG{t:Bool}{j a:Addr}{k:Nat}{its:Array Value}{Q:Value->B1->Prop}(hh:A.handled=none)(hj:SI t s.heap j a k)(ht:SQ t s.heap a its)(hv:its[k]? = none)
  (h:∀g x,Jx j s.heap g->(∃o,g.get? x=some o/\o.cls=.type "StopIteration")->E (.ref x) { s with heap:=g }):wpAny (model prog w) A (E8 (.ref j)) Q E s:=by
 cases t with
 |true=>exact zk hh hj ht hv h
 |false=>exact zl hh hj ht hv h
variable{t1 t2:Bool}
structure ZS(t1 t2:Bool)(g:Heap)(z p q i j a b:Addr)(k:Nat):Prop where
 zr:IsZip g z p q .none
 ins:JK g p (.ref i) (.ref j)
 out:∃u v,JK g q u v
 one:SI t1 g i a k
 two:SI t2 g j b k
theorem ZS.keep{g g':Heap}{z p q i j a b:Addr}{k:Nat}(x:ZS t1 t2 g z p q i j a b k)(h:∀c∈[z,p,q,i,j],∀o,g.get? c=some o->g'.get? c=some o):ZS t1 t2 g' z p q i j a b k :=
 ⟨h z (by simp) _ x.zr,h p (by simp) _ x.ins,let ⟨u,v,e⟩:=x.out; ⟨u,v,h q (by simp) _ e⟩,x.one.at λo e=>h i (by simp) o e,x.two.at λo e=>h j (by simp) o e⟩
theorem BX{z p q i j a b:Addr}{k:Nat}{xs ys:Array Value}{x y:Value}{Q:Option Value->B1->Prop}(D:Kz z p q i j a b)(Z:ZS t1 t2 s.heap z p q i j a b k)(ha:SQ t1 s.heap a xs)(hb:SQ t2 s.heap b ys)(hx:xs[k]? = some x)(hy:ys[k]? = some y)
  (h:∀g,IsZip g z p q (Jq s.heap.objs.size)->JK g p (.ref i) (.ref j)->JK g q x y->SI t1 g i a (k+1)->SI t2 g j b (k+1)->JK g s.heap.objs.size x y->(∀c o,c∉[z,q,i,j]->s.heap.get? c=some o->g.get? c=some o)->Q (some (.ref s.heap.objs.size)) { s with heap:=g }) :
  wpAny (model prog w) A (JH (.ref z)) Q E s:=by
 have hT:s.TypeIs (.ref z) "zip" := ⟨_,Z.zr,rfl⟩;obtain⟨u0,v0,eq⟩:=Z.out;unfold JH;refine AC (Jn (G8 (name:=Hv "__next__") hT HY (GF HY hT Js ?body (Je _))))
 case body=>
  show wpAny _ _ (field (.ref z) 2 >>= _) _ _ _;refine AC (Fq Z.zr rfl (x:=.bool false) rfl ?f2);show wpAny _ _ (field (.ref z) 3 >>= _) _ _ _;refine AC (Fq Z.zr rfl (x:=.ref p) rfl (AC (GJ Z.ins rfl ?f3)));show wpAny _ _ (Fc (.ref z) >>= _) _ _ _;refine AC ?f4;unfold Fc;refine AC (Fq Z.zr rfl (x:=.none) rfl (BM ?f5));simp only[if_true];refine AC (Gy (AC (Fq Z.zr rfl (x:=.ref q) rfl (AC (HP Z.zr (by simp) λg1 z1 s1=>?f6)))))
  have z1:IsZip g1 z p q .ellipsis:=z1;refine AC ?f7;simp only[Km,N2,J3,Jz];refine AC (AC (Kg ?f8));show wpAny _ _ (E8 (.ref i) >>= _) _ _ _;refine AC (gS (Z.one.extBut s1.extBut D.i1z) (ha.extBut s1.extBut D.l1z) hx λg2 i2 s2=>BM ?f9)
  have q2:JK g2 q u0 v0:=s2.extBut _ _ D.TOi1 (s1.extBut _ _ D.TOz eq);refine AC (GJ q2 rfl (AC (KG q2 λg3 q3 s3=>?f10)))
  have q3:JK g3 q x v0:=q3;refine AC (JA (BM ?f11));refine AC (AC (Kg ?f12));show wpAny _ _ (E8 (.ref j) >>= _) _ _ _;refine AC (gS (((Z.two.extBut s1.extBut D.i2z).extBut s2.extBut D.i12.symm).extBut s3.extBut D.TOi2.symm) (((hb.extBut s1.extBut D.l2z).extBut s2.extBut D.l2i1).extBut s3.extBut D.l2TO) hy λg4 j4 s4=>BM ?f13)
  have q4:JK g4 q x v0:=s4.extBut _ _ D.TOi2 q3;refine AC (GJ q4 rfl (AC (KG q4 λg5 q5 s5=>?f14)))
  have q5:JK g5 q x y:=q5;refine AC (JA (BM (BM ?f15)));refine AC (GJ q5 rfl (AC (Ls ?f16)));have sz:g5.objs.size=s.heap.objs.size:=by rw[s5.1,s4.1,s3.1,s2.1,s1.1]
  have z5:IsZip g5 z p q .ellipsis:=s5.extBut _ _ D.TOz.symm (s4.extBut _ _ D.i2z.symm (s3.extBut _ _ D.TOz.symm (s2.extBut _ _ D.i1z.symm z1)));have k5:∀c o,c∉[z,q,i,j]->s.heap.get? c=some o->g5.get? c=some o:=λc o hc e=>by
   have c1:c≠z:=λt=>hc (by simp[t])
   have c2:c≠q:=λt=>hc (by simp[t])
   have c3:c≠i:=λt=>hc (by simp[t])
   have c4:c≠j:=λt=>hc (by simp[t])
   exact s5.extBut _ _ c2 (s4.extBut _ _ c4 (s3.extBut _ _ c2 (s2.extBut _ _ c3 (s1.extBut _ _ c1 e))))
  have i5:SI t1 g5 i a (k+1):=((i2.extBut s3.extBut D.TOi1.symm).extBut s4.extBut D.i12).extBut s5.extBut D.TOi1.symm;have j5:SI t2 g5 j b (k+1):=j4.extBut s5.extBut D.TOi2.symm;have zlt:z<g5.objs.size:=Ch z5;show wpAny _ _ (JE (.ref z) (.ref g5.objs.size) >>= _) _ _ _;refine AC ?f17;unfold JE;have z6:IsZip (g5.push { cls:=.type "tuple",data:=.seq #[x,y] }) z p q .ellipsis:=At _ z5;refine AC (HP z6 (by simp) λg7 z7 s7=>?f18)
  have z7:IsZip g7 z p q (Jq g5.objs.size):=z7;refine HP z7 (by simp) λg8 z8 s8=>?f19
  have z8:IsZip g8 z p q (Jq g5.objs.size):=z8;have up:∀c o,c≠z->g5.get? c=some o->g8.get? c=some o:=λc o c1 e=>s8.extBut _ _ c1 (s7.extBut _ _ c1 (At _ e))
  have t8:JK g8 g5.objs.size x y:=s8.extBut _ _ (Jt zlt) (s7.extBut _ _ (Jt zlt) (Db _ rfl));rw[sz] at z8 t8;have pne:p∉[z,q,i,j]:=by
   intro t;simp only[HG,Fg,or_false] at t;rcases t with t | t | t | t
   ·exact D.TIz t
   ·exact D.TITO t
   ·exact D.TIi1 t
   ·exact D.TIi2 t
  have fin:=h g8 z8 (up _ _ D.TIz (k5 p _ pne Z.ins)) (up _ _ D.TOz q5) (i5.at λo e=>up _ o D.i1z e) (j5.at λo e=>up _ o D.i2z e) t8 λc o hc e=>up c o (λt=>hc (by simp[t])) (k5 c o hc e)
  refine BM ⟨_,rfl,BM ?_⟩;show Q (some (.ref g5.objs.size)) _;rw[sz];exact fin
theorem wM{z p q i j a b:Addr}{k:Nat}{xs ys:Array Value}{Q:Option Value->B1->Prop}(hh:A.handled=none)(D:Kz z p q i j a b)(Z:ZS t1 t2 s.heap z p q i j a b k)(ha:SQ t1 s.heap a xs)(hb:SQ t2 s.heap b ys)(he:xs[k]? = none\/ys[k]? = none)
  (h:∀g,(∀c o,c∉[z,q,i,j]->s.heap.get? c=some o->g.get? c=some o)->Q none { s with heap:=g }):wpAny (model prog w) A (JH (.ref z)) Q E s:=by
 have hT:s.TypeIs (.ref z) "zip" := ⟨_,Z.zr,rfl⟩;obtain⟨u0,v0,eq⟩:=Z.out;have apart:∀c,c∉[z,q,i,j]->c≠z/\c≠q/\c≠i/\c≠j:=λc hc=>⟨λt=>hc (by simp[t]),λt=>hc (by simp[t]),λt=>hc (by simp[t]),λt=>hc (by simp[t])⟩
 unfold JH;refine AC (Jn (G8 (name:=Hv "__next__") hT HY (GF HY hT Js ?body (Je _))))
 case body=>
  have fin:∀g x,(∀c o,c∉[z,q,i,j]->s.heap.get? c=some o->g.get? c=some o)->(∃o,g.get? x=some o/\o.cls=.type "StopIteration")->wpAny (model prog w) A (isInstance (.ref x) (.type "StopIteration")) (λr s'=>wpAny (model prog w) A (if r=true then pure none else throw (.ref x)) Q E s') E { s with heap:=g }:=λg x kp hx=>by
   obtain⟨o,ho,hc⟩:=hx;exact wpAny_isInstance (T := "StopIteration") (b:=true) ⟨o,ho,hc⟩ isSubtype_stop (BM (h g kp))
  show wpAny _ _ (field (.ref z) 2 >>= _) _ _ _;refine AC (Fq Z.zr rfl (x:=.bool false) rfl ?f2);show wpAny _ _ (field (.ref z) 3 >>= _) _ _ _;refine AC (Fq Z.zr rfl (x:=.ref p) rfl (AC (GJ Z.ins rfl ?f3)));show wpAny _ _ (Fc (.ref z) >>= _) _ _ _;refine AC ?f4;unfold Fc;refine AC (Fq Z.zr rfl (x:=.none) rfl (BM ?f5));simp only[if_true];refine AC (Gy (AC (Fq Z.zr rfl (x:=.ref q) rfl (AC (HP Z.zr (by simp) λg1 z1 s1=>?f6)))))
  have z1:IsZip g1 z p q .ellipsis:=z1;refine AC ?f7;simp only[Km,N2,J3,Jz];refine AC (AC (Kg ?f8));show wpAny _ _ (E8 (.ref i) >>= _) _ _ _;cases hx:xs[k]? with
  |none=>
   refine AC (oG hh (Z.one.extBut s1.extBut D.i1z) (ha.extBut s1.extBut D.l1z) hx λg2 x s2 hx' =>?g1)
   obtain⟨ox,eox,cox⟩:=hx';have z2:IsZip g2 z p q .ellipsis:=s2 _ _ D.i1z.symm z1;have xz:x≠z:=λt=>by subst t; rw[z2] at eox; cases eox; simp at cox
   refine HP z2 (by simp) λg3 _ s3=>AC (fin g3 x (λc o hc e=>?g2) ⟨ox,s3.extBut _ _ xz eox,cox⟩)
   obtain⟨c1,_,c3,_⟩:=apart c hc;exact s3.extBut _ _ c1 (s2 _ _ c3 (s1.extBut _ _ c1 e))
  |some x0=>
   have hy:ys[k]? = none:=by
    rcases he with t | t
    ·rw[hx] at t; cases t
    ·exact t
   refine AC (gS (Z.one.extBut s1.extBut D.i1z) (ha.extBut s1.extBut D.l1z) hx λg2 i2 s2=>BM ?g3)
   have q2:JK g2 q u0 v0:=s2.extBut _ _ D.TOi1 (s1.extBut _ _ D.TOz eq);refine AC (GJ q2 rfl (AC (KG q2 λg3 q3 s3=>?g4)))
   refine AC (JA (BM ?g5));refine AC (AC (Kg ?g6));show wpAny _ _ (E8 (.ref j) >>= _) _ _ _;refine AC (oG hh (((Z.two.extBut s1.extBut D.i2z).extBut s2.extBut D.i12.symm).extBut s3.extBut D.TOi2.symm) (((hb.extBut s1.extBut D.l2z).extBut s2.extBut D.l2i1).extBut s3.extBut D.l2TO) hy λg4 x s4 hx' =>?g7)
   obtain⟨ox,eox,cox⟩:=hx';have z4:IsZip g4 z p q .ellipsis:=s4 _ _ D.i2z.symm (s3.extBut _ _ D.TOz.symm (s2.extBut _ _ D.i1z.symm z1));have xz:x≠z:=λt=>by subst t; rw[z4] at eox; cases eox; simp at cox
   refine HP z4 (by simp) λg5 _ s5=>AC (fin g5 x (λc o hc e=>?g8) ⟨ox,s5.extBut _ _ xz eox,cox⟩)
   obtain⟨c1,c2,c3,c4⟩:=apart c hc;exact s5.extBut _ _ c1 (s4 _ _ c4 (s3.extBut _ _ c2 (s2.extBut _ _ c3 (s1.extBut _ _ c1 e))))
end
section
variable{prog:FB}{w:World}{A:Fa}{E:Value->B1->Prop}{s:B1}
variable{t1 t2:Bool}
noncomputable def qd(t:Bool)(a:Addr):Obj:={ cls:=.type (if t=true then "tuple_iterator" else "list_iterator"),data:=.fields #[.ref a,.int 0 0] }
theorem sX{t:Bool}{a:Addr}{its:Array Value}{Q:Value->B1->Prop}(hl:SQ t s.heap a its)(h:Q (.ref s.heap.objs.size) { s with heap:=s.heap.push (qd t a) }):wpAny (model prog w) A (Lw (.ref a)) Q E s:=by
 cases t with
 |true=>exact JX hl h
 |false=>exact Kt hl h
noncomputable def sY(t1 t2:Bool)(h:Heap)(a b:Addr):Heap :=
 ((((h.push (qd t1 a)).push (qd t2 b)).push { cls:=.type "tuple",data:=.seq #[.ref h.objs.size,.ref (h.push (qd t1 a)).objs.size] }).push { cls:=.type "tuple",data:=.seq #[.none,.none] }).push
  { cls:=.type "zip",data:=.fields #[.none,.bool false,.bool false,.ref ((h.push (qd t1 a)).push (qd t2 b)).objs.size,
   .ref (((h.push (qd t1 a)).push (qd t2 b)).push { cls:=.type "tuple",data:=.seq #[.ref h.objs.size,.ref (h.push (qd t1 a)).objs.size] }).objs.size] }
theorem wN(a b:Addr)(xs ys:Array Value) :
  Meets (Gg.«zip.__new__» ⟨[.type "zip",.ref a,.ref b],[]⟩) (λ_ R s=>SQ t1 s.heap a xs/\SQ t2 s.heap b ys /\
   R (.ok (.ret (.ref (((((s.heap.push (qd t1 a)).push (qd t2 b)).push { cls:=.type "tuple",data:=.seq #[.ref s.heap.objs.size,.ref (s.heap.push (qd t1 a)).objs.size] }).push { cls:=.type "tuple",data:=.seq #[.none,.none] }).objs.size))))
    { s with heap:=sY t1 t2 s.heap a b }) :=
 .of_wp λprog w A R s h=>by
  obtain⟨hp,g,d,tk,os⟩:=s;obtain⟨h1,h2,h⟩:=h;have hsub:=sub_zip;have k1:SQ t1 (NL ⟨hp,g,d,tk,os⟩) a xs:=h1;have k2:SQ t2 (NL ⟨hp.push (qd t1 a),g,d,tk,os⟩) b ys:=by
   obtain⟨o,e,r⟩:=h2;exact⟨o,At _ e,r⟩
  wp_walk using sX k1,sX k2
  exact⟨_,rfl,h⟩
theorem uJ{a b:Addr}{xs ys:Array Value}{Q:Value->B1->Prop}(ha:SQ t1 s.heap a xs)(hb:SQ t2 s.heap b ys)
  (h:∀g,ZS t1 t2 g (s.heap.objs.size+4) (s.heap.objs.size+2) (s.heap.objs.size+3) s.heap.objs.size (s.heap.objs.size+1) a b 0->(∀c o,s.heap.get? c=some o->g.get? c=some o)->Q (.ref (s.heap.objs.size+4)) { s with heap:=g }) :
  wpAny (model prog w) A (call (.type "zip") [.ref a,.ref b]) Q E s:=by
 refine callType_new F.called_zip (by decide) (F.typeCall_zip_2 _ _) (F.newCall_zip_2 _ _) (λobj=>F.args_object_init_3 obj _ _) F.entry_zip_new (wN a b xs ys) ⟨ha,hb,?_⟩
 unfold sY;generalize e1:s.heap.push (qd t1 a)=g1;have z1:g1.objs.size=s.heap.objs.size+1:=by rw[<-e1]; exact GN ..
 have i1:g1.get? s.heap.objs.size=some (qd t1 a):=by rw[<-e1]; exact Db _ rfl
 have k1:∀c o,s.heap.get? c=some o->g1.get? c=some o:=λc o e=>by rw[<-e1]; exact At _ e
 generalize e2:g1.push (qd t2 b)=g2;have z2:g2.objs.size=s.heap.objs.size+2:=by rw[<-e2,GN,z1]
 have i2:g2.get? (s.heap.objs.size+1)=some (qd t2 b):=by rw[<-e2,<-z1]; exact Db _ rfl
 have k2:∀c o,g1.get? c=some o->g2.get? c=some o:=λc o e=>by rw[<-e2]; exact At _ e
 generalize e3:g2.push { cls:=.type "tuple",data:=.seq #[.ref s.heap.objs.size,.ref g1.objs.size] }=g3;have z3:g3.objs.size=s.heap.objs.size+3:=by rw[<-e3,GN,z2]
 have i3:g3.get? (s.heap.objs.size+2)=some { cls:=.type "tuple",data:=.seq #[.ref s.heap.objs.size,.ref g1.objs.size] }:=by rw[<-e3,<-z2]; exact Db _ rfl
 have k3:∀c o,g2.get? c=some o->g3.get? c=some o:=λc o e=>by rw[<-e3]; exact At _ e
 generalize e4:g3.push { cls:=.type "tuple",data:=.seq #[.none,.none] }=g4;have z4:g4.objs.size=s.heap.objs.size+4:=by rw[<-e4,GN,z3]
 have i4:g4.get? (s.heap.objs.size+3)=some { cls:=.type "tuple",data:=.seq #[.none,.none] }:=by rw[<-e4,<-z3]; exact Db _ rfl
 have k4:∀c o,g3.get? c=some o->g4.get? c=some o:=λc o e=>by rw[<-e4]; exact At _ e
 generalize e5:g4.push { cls:=.type "zip",data:=.fields #[.none,.bool false,.bool false,.ref g2.objs.size,.ref g3.objs.size] }=g5;have i5:g5.get? (s.heap.objs.size+4)=some { cls:=.type "zip",data:=.fields #[.none,.bool false,.bool false,.ref g2.objs.size,.ref g3.objs.size] }:=by rw[<-e5,<-z4]; exact Db _ rfl
 have k5:∀c o,g4.get? c=some o->g5.get? c=some o:=λc o e=>by rw[<-e5]; exact At _ e
 rw[z4];rw[z2,z3] at i5;rw[z1] at i3;exact⟨⟨_,i5,rfl⟩,h _ ⟨i5,k5 _ _ (k4 _ _ i3),⟨_,_,k5 _ _ i4⟩,⟨_,k5 _ _ (k4 _ _ (k3 _ _ (k2 _ _ i1))),rfl,rfl⟩,⟨_,k5 _ _ (k4 _ _ (k3 _ _ i2)),rfl,rfl⟩⟩ λc o e=>k5 _ _ (k4 _ _ (k3 _ _ (k2 _ _ (k1 _ _ e))))⟩
end
def ef(H H':Hp):Prop:=∀a u,Rd H a (.tup u)->Rd H' a (.tup u)
theorem ef.refl{H:Hp}:ef H H:=λ_ _ h=>h
theorem ef.trans{H H1 H2:Hp}(a:ef H H1)(b:ef H1 H2):ef H H2:=λc u h=>b c u (a c u h)
theorem ef.sq{K:AT}{H H':Hp}(t:ef H H'){a:Addr}{xs:List V}(h:dR K H a xs):dR K H' a xs:=by
 rcases h with h | h
 ·exact .inl (t a xs h)
 ·exact .inr h
theorem ef.put{H:Hp}{a:Addr}{o o':HO}(h:H a=some o)(hn:∀u,o≠.tup u)(hf:∀x u,o≠.frz x u):ef H (upd H a o'):=λc u r=>by
 rcases r with e | ⟨x,e⟩
 ·exact .inl (by rw[aZ (vJ e h λz=>hn u z.symm)]; exact e)
 ·exact .inr ⟨x,by rw[aZ (vJ e h λz=>hf x _ z.symm)]; exact e⟩
theorem ef.lst{H:Hp}{a:Addr}{xs:List V}{o':HO}(h:H a=some (.lst xs)):ef H (upd H a o'):=.put h (λ_ z=>nomatch z) λ_ _ z=>nomatch z
theorem ef.dk{H:Hp}{a:Addr}{xs:List (Key×V)}{o':HO}(h:H a=some (.dK xs)):ef H (upd H a o'):=.put h (λ_ z=>nomatch z) λ_ _ z=>nomatch z
theorem bB.tups{H H':Hp}(s:bB H H'):ef H H':=λa u r=>by
 rcases r with e | ⟨o,e⟩
 ·exact .inl (s _ _ e)
 ·exact .inr ⟨o,s _ _ e⟩
section
variable{X:Cx}
theorem nj{h:Heap}:∀{vs:List Value}{ds:List Ap}{as:List Addr},IV h vs ds as->∀v∈vs,∃d bs,d∈ds/\Reads h v d bs
 |_,_,_,.nil,v,hv=>nomatch hv
 |_,_,_,.cons r q,v,hv=>by
  rcases lK hv with e | hv
  ·subst e; exact⟨_,_,lS,r⟩
  ·obtain⟨d,bs,h1,h2⟩:=nj q v hv
   exact⟨d,bs,lO _ h1,h2⟩
theorem oH{ds:List Ap}(h:EQ ds=true):∀d∈ds,d.canLay0=true:=by
 induction ds with
 |nil=>intro d hd; exact nomatch hd
 |cons x xs ih=>
  unfold EQ at h;rw[Fk] at h;intro d hd;rcases lK hd with e | hd
  ·subst e; exact h.1
  ·exact ih h.2 d hd
noncomputable def yC(h:Heap)(e:Ap)(u:Value):Bool:=@decide (∃d as,Reads h u d as/\FM d e=true) (JN _)
theorem wO{h:Heap}{e d:Ap}{u:Value}{as:List Addr}(r:Reads h u d as)(c:d.canLay0=true):yC h e u=FM d e:=by
 unfold yC;cases q:FM d e with
 |true=>exact@decide_eq_true _ (JN _) ⟨d,as,r,q⟩
 |false=>
  refine@decide_eq_false _ (JN _) ?_;rintro⟨d',as',r',q'⟩;rw[<-SeqAt.Reads.unique d d' u as as' c r r'] at q';rw[q] at q';cases q'
theorem oJ{h:Heap}{e:Ap}:∀{vs:List Value}{ds:List Ap}{as:List Addr},IV h vs ds as->EQ ds=true->vs.any (yC h e)=ds.any λd=>FM d e
 |_,_,_,.nil,_=>rfl
 |_,_,_,.cons r q,c=>by
  unfold EQ at c;rw[Fk] at c;rw[Ha,Ha,wO r c.1,oJ q c.2]
theorem wQ{pins:List (Addr×Obj)}{σ:St}{H:Hp}{s:B1}{its:List Value}{ds:List Ap}{as bs:List Addr}{e:Ap}{v:Value}(hu:X.A.units+64<cLine)(r:IV s.heap its ds as)(re:Reads s.heap v e bs)(c:EQ ds=true)(ce:e.canLay0=true)(dp:e.depth<=50) :
  ∀y,y∈its.toArray->L1 X.A.in1 s y v (yC s.heap e y):=λy hy=>by
 obtain⟨d,cs,hd,rd⟩:=nj r y (by simpa using hy)
 rw[wO rd (oH c d hd)];refine MZ d e X.A.in1 s y v cs bs rd re (oH c d hd) ce ?_;show X.A.units+1+_<_;lia
theorem zm:dN X (Gp .Pow) (rI (λi j=>0<=j/\(GG i:Int)*j<=2 ^ 27) λi j=>.int (i ^ j.toNat)):=Dy λ_ _ _ _ _ _ _ hc q=>pow_int hc.1 hc.2 q
end
section
variable{prog:FB}{w:World}{A:Fa}{E:Value->B1->Prop}{s:B1}
theorem kT(t b:Addr)(items items2:Array Value)(n n2:Nat)(dd dd2:Option Addr)(sl sl2:Array (Option Value))(h0:items.isEmpty=true) :
  Meets (Gg.«tuple.__add__» ⟨[.ref t,.ref b],[]⟩) (λ_ R s=>s.heap.get? t=some ⟨.type "tuple",dd,.seq items n,sl⟩/\s.heap.get? b=some ⟨.type "tuple",dd2,.seq items2 n2,sl2⟩/\R (.ok (.ret (.ref b))) s) :=
 .of_wp λprog w A R s h=>by
  obtain⟨hp,g,d,tk,os⟩:=s;obtain⟨h1,h2,h⟩:=h;have hsub:=sub_tuple_self
  wp_walk using FR h1,FR h2
  exact⟨_,rfl,h⟩
end
section
variable{X:Cx}
theorem dJ{H:Hp}{p:Addr}(h:H p=none)(o:HO):bB H (upd H p o):=λb u q=>by rw[aZ (dh q h)]; exact q
noncomputable def rCatA(K:AT):R2:=λx y H Q=>∃a b xs ys,x=.ref a/\y=.ref b/\dR K H a xs/\dR K H b ys/\xs.length+ys.length<=E6/\∀r H',bB H H'->dR K H' r (xs++ys)->Q (.ref r) H'
theorem zo:dN X (Gp .Add) (rCatA X.K):=by
 intro pins s σ H x y v u Q I rx ry h;obtain⟨a,b,xs,ys,rfl,rfl,ha,hb,hz,q⟩:=h
 by_cases hx:xs=[]
 ·subst hx
  cases rx;cases ry;obtain⟨its,r1,⟨⟨cls,dd,data,sl⟩,ho,hc,n,hd⟩,_⟩:=I.tuple ha;obtain⟨its2,r2,⟨⟨cls2,dd2,data2,sl2⟩,ho2,hc2,n2,hd2⟩,_⟩:=I.tuple hb;simp only at hc hd hc2 hd2;subst hc hd hc2 hd2;cases r1;exact Lj ⟨_,ho,rfl⟩ ⟨_,ho2,rfl⟩ Kd LR Ja JR (JL _ _)
   (kT a b _ _ n n2 dd dd2 sl sl2 (by simp)) ⟨ho,ho2,⟨.ref b,H,I,rfl,q b H (bB.refl H) (by simpa using hb)⟩⟩
 ·refine yT pins s σ H _ _ v u Q I rx ry ⟨a,b,xs,ys,rfl,rfl,ha,hb,hx,hz,λe=>q a H (bB.refl H) (by rw[e,E3]; exact ha),λ_ p hp=>q p _ (dJ hp _) (dR.of aT)⟩
noncomputable def wR(sc0:Scope)(N0:List Str)(scope:Scope)(N:List Str)(fr:List (Option Nat)):Bool :=
 (scope.kind == .function) && scope.names.all (λy=>y.2 != .cell) && scope.names.all (λy=>y.2 != .local || scope.names.lookup y.1 == some .local) &&
 scope.names.all (λy=>y.2 != .free || (sc0.names.lookup y.1 == some .cell || sc0.names.lookup y.1 == some .free)) && (fr.length == N.length) &&
 (N.zip fr).all (λp=>match p.2 with | none=>true | some j=>N0[j]? == some p.1 && scope.names.lookup p.1 == some .free) && decide N.Nodup
theorem aR.of{sc0:Scope}{N0:List Str}{scope:Scope}{N:List Str}{fr:List (Option Nat)}(h1:X.env.scope=sc0)(h2:X.N=N0)(h:wR sc0 N0 scope N fr=true):aR X scope N fr:=by
 unfold wR at h;simp only[Fk] at h;obtain⟨⟨⟨⟨⟨⟨k1,k2⟩,k3⟩,k4⟩,k5⟩,k6⟩,k7⟩:=h;rw[Hm] at k2 k3 k4 k6;refine⟨by simpa using k1,λy hy=>by simpa using k2 y hy,λy hy e=>?_,λy hy e=>?_,by simpa using k5,λi j x hi hj=>?_,of_decide_eq_true k7⟩
 ·have:=k3 y hy
  rw[e] at this;simpa using this
 ·have:=k4 y hy
  rw[e] at this;have t:sc0.names.lookup y.1=some .cell\/sc0.names.lookup y.1=some .free:=by simpa using this
  show X.env.scope.names.lookup y.1=_\/X.env.scope.names.lookup y.1=_;rw[h1];exact t
 ·have hm:(x,some j)∈N.zip fr:=by
   have hz:(N.zip fr)[i]? = some (x,some j):=by rw[List.getElem?_zip_eq_some]; exact⟨hi,hj⟩
   exact Iu hz
  have:=k6 _ hm;simp only[Fk] at this;rw[h2];exact⟨by simpa using this.1,by simpa using this.2⟩
structure bA(P:FB)(w:World)(K:AT)(mg:Str->Option Value)(base:Heap)(x:Str)(ps:List Str)(k:Nat)(sp:Sp):Prop where
 ex:∃f fd,cY P w K mg base j6 k f fd ps sp/\Binds K fd ps []/\G9 K (.ref f)=true/\mg x=some (.ref f)
theorem pe_fn{x:Str}{ps:List Str}{k k':Nat}{sp:Sp}{e:Expr}{es:List Expr}{t:TA}{p pos:Pos}(C:bA X.prog X.w X.K X.mg X.base x ps k sp)(hr:eN k' X.A)(hg:Gl X x)(ha:PA X (e::es) t)(hk:k<=k':=by first | decide | exact Da _ | lia)(hdb:(x == ("__debug__" : Str))=false:=by decide)
  (he:E5 (e::es) X.env=(false,eval e X.env)::E5 es X.env:=by rfl) (hpl:(Ij pos (E5 es X.env)).any (·.1)=false:=by rfl):PE X (.Call (.Name x p) (e::es) [] pos) (wc sp [] E0 t):=by
 obtain⟨f,fd,F,b,kp,m⟩:=C.ex;exact yN F (hr.mono hk) hg m kp b .nil pass0 ha hdb he hpl
end
section
variable{X:Cx}
theorem Inv.wU{pins:List (Addr×Obj)}{σ:St}{H:Hp}{s:B1}{C:Addr}{h':Heap}(I:Inv X pins σ H s)(hn:H C=none)(hL:C≠X.env.locals)(h1:X.s₀.heap.objs.size<=C)(h2:∀x c,X.env.cells.lookup x=some c->c≠C)(h3:∀p∈X.pn++pins,p.1≠C)
  (sb:HU C s.heap h'):Inv X pins σ H { s with heap:=h' }:=I.turned (t':=s.toks) (λb o hb e=>(sb.2 b hb).trans e) hn hL (.inr h1) h2 h3
theorem BY{i:Nat}{x:Str}{elt target iter:Expr}{ifs:List Expr}{scope:Scope}{pos pos' spos:Pos}{N:List Str}{fr:List (Option Nat)}{wi:TI}{g:Bk->TG}{tt:Bk->TT}{te:Bk->TE}(hN:X.N.Nodup)(hi':X.N[i]? = some x)(hx:X.env.scope.names.lookup x=some .local)
  (hc:X.calm=true) (S:aR X scope N fr) (hi:PI X target iter wi)
  (hin:∀z:Bk,PG (aA X scope z.cl N z.C z.fp z.s z.H) target (g z)/\j7 (aA X scope z.cl N z.C z.fp z.s z.H) ifs (tt z)/\PE (aA X scope z.cl N z.C z.fp z.s z.H) elt (te z))
  (hs:∀x,FY iter X.env x=pure x:=by intro _; rfl) (hsw:Hc (.ListComp elt [⟨target,iter,ifs,0⟩] scope pos) (some (.Name x pos')) spos.line X.env=pure true:=by rfl) :
  PS X (.Assign [.Name x pos'] (.ListComp elt [⟨target,iter,ifs,0⟩] scope pos) spos) (lY (C8 fr wi g tt te) (sH i)):=by
 intro pins s σ H Dn I h;rw[Mk _ _ _ _ hsw];refine AC (Hn (AC ?_));show wpAny _ X.A (do let _ <-comprehension (.ListComp elt [⟨target,iter,ifs,0⟩] scope pos) scope X.env (firstIterPos [⟨target,iter,ifs,0⟩] pos) (MX []) (firstAsync [⟨target,iter,ifs,0⟩]) (firstIter [⟨target,iter,ifs,0⟩] X.env) (some (IG (.Name x pos') X.env))) _ _ s
 refine AC (Gz (IT (g:=⟨target,iter,ifs,0⟩) (gs:=[]) (use:=some (IG (.Name x pos') X.env)) (Q:=λ_ s'=>SP X pins Dn .next s') (E:=X.xe) rfl hs (cC (S.cells I)) S.kind S.locs ?_) (λ_ s' hq=>BM (BM hq)) λ_ _ e=>e)
 refine bD (hi pins s σ H _ I h) λv s1 h1=>bD h1 λitv s2 h2=>?_
 obtain⟨it,fp,tn,J,H2,e,I2,T,st2,f2,h2⟩:=h2;subst e;refine FU ?_;have hD:H2 s2.heap.objs.size=none:=I2.fresh;have I3:=I2.wj (t':=s2.toks) (ys:=[]) (its:=[]) .nil (FV _);have lt2:∀b∈fp,b<s2.heap.objs.size:=λb hb=>by
  obtain⟨o,e,_⟩:=T.obj _ _ st2 b hb;exact Ch e
 have f3:∀b∈fp,ic X pins (upd H2 s2.heap.objs.size (.lst [])) b:=λb hb=>⟨by rw[aZ (E1 (lt2 b hb))]; exact(f2 b hb).1,(f2 b hb).2⟩
 generalize hs3:({ s2 with heap:=s2.heap.push { cls:=.type "list",data:=.seq ([]:List Value).toArray } }:B1)=s3
 have I3:Inv X pins σ (upd H2 s2.heap.objs.size (.lst [])) s3:=by rw[<-hs3]; exact I3
 have sz3:s3.heap.objs.size=s2.heap.objs.size+1:=by rw[<-hs3]; exact GN ..
 have u23:Un (frs X.stack) [] H2 (upd H2 s2.heap.objs.size (.lst [])) s2.heap s3.heap:=by
  rw[<-hs3];exact Un.laid (λb o e=>At _ e) (Da _) hD
 have ho:s3.os=s2.os:=by rw[<-hs3]
 have st3:tn 0 s3.heap:=T.keep _ _ _ st2 λb _ o e=>by rw[<-hs3]; exact At _ e
 refine J9 S.nocell (by intro y hy; simp at hy) (λh4 hns hsb=>?_) S.kind
 have lt3:∀b∈fp,b<s3.heap.objs.size:=λb hb=>FL (lt2 b hb) (by rw[sz3]; exact GU _)
 have I4:=iU (tk:=s3.toks+([]:List (Str×Value)).length) I3 S f3 lt3 hns hsb;have old4:∀b o,s3.heap.get? b=some o->h4.get? b=some o:=λb o e=>(hsb.2 b (E1 (Ch e))).trans (At _ e)
 have st4:tn 0 h4:=T.keep _ _ _ st3 λb _ o e=>old4 b o e
 have h2:=h2 _ hD ⟨aH X.env.cells scope.names [],s3.heap.objs.size,fp,s3,upd H2 s2.heap.objs.size (.lst [])⟩;obtain⟨hg,hif,hel⟩:=hin ⟨aH X.env.cells scope.names [],s3.heap.objs.size,fp,s3,upd H2 s2.heap.objs.size (.lst [])⟩;have loop:Hu (model X.prog X.w) X.A (.compLoop (.ListComp elt [⟨target,iter,ifs,0⟩] scope pos) 0 (.ref it) (.ref s2.heap.objs.size) (KN scope (aH X.env.cells scope.names []) s3.heap.objs.size X.env))
   (Ms (model X.prog X.w) X.A X.xe (some (IG (.Name x pos') X.env)) (λ_ s'=>SP X pins Dn .next s') (.ref s2.heap.objs.size) s3.heap.objs.size) { s3 with heap:=h4,toks:=s3.toks+([]:List (Str×Value)).length }:=by
  refine nh (X:=aA X scope (aH X.env.cells scope.names []) N s3.heap.objs.size fp s3 (upd H2 s2.heap.objs.size (.lst []))) (em:=(do let _ <-call (.builtin "list.append") [.ref s2.heap.objs.size,<-eval elt (KN scope (aH X.env.cells scope.names []) s3.heap.objs.size X.env)]))
   (compTurn_list ..) (λ_ _ _ z=>z) rfl hc rfl hg hif (wC hel) T I4 st4 (λb hb=>?_) h2 (λτ' H' s' J' q=>?_)
  ·obtain⟨f0,f1,fs,fe,fc,fp'⟩:=f3 b hb
   refine⟨f0,E1 (lt3 b hb),λz=>?_,.inl hb,λx c e=>fc x c (dI scope.names [] (λ_ _ z=>by simp at z) e),λp hp=>absurd (show p∈([]:List (Addr×Obj)) from hp) (by simp)⟩
   rcases lK (I3.iD b z) with z | z
   ·exact f1 z
   ·exact fs z
  ·obtain⟨m,hn,_⟩:=J'.loc
   have Io:Inv X pins σ H' s':=iV (h':=s'.heap) I2 f2 u23 ho (by rw[sz3]; exact GU _) J' (LV ..)
   have Lne:X.env.locals≠s3.heap.objs.size:=E1 I3.lt;have uf:∀y c,X.env.cells.lookup y=some c->c≠s3.heap.objs.size:=λy c e=>by
    obtain⟨v,z⟩:=I3.cell y c e;exact E1 z.lt
   show wpAny (model X.prog X.w) X.A (IG (.Name x pos') X.env (.ref s2.heap.objs.size)) _ X.xe s';refine Ig (jv (v:=.ref s2.heap.objs.size) Io hN hi' (.inl hx) rfl (λs5 I5 sb5=>?_) (.inr hx))
   obtain⟨b,sb,hb⟩:=sb5;have hbne:s3.heap.objs.size≠b:=by
    rcases hb with e | e
    ·rw[e]; exact Lne.symm
    ·exact(uf _ _ e).symm
   refine⟨m,hn.sameBut sb hbne,λh' sb'=>⟨_,H',?_,q⟩⟩
   refine I5.wU (C:=s3.heap.objs.size) J'.free Lne.symm I3.sz uf (λp hp=>?_) sb'
   exact E1 (Ch (I3.pin p hp).1)
 exact Ii loop (T.self X.A 0 _ _ _ st4 loop)
end
section
variable{X:Cx}
noncomputable def kq:List Expr->Option (List Int)
 |[]=>some []
 |.Constant (.int i) _ _::es=>(kq es).map (i :: ·)
 |_=>none
noncomputable def tInts(ns:List Int):TA:=λ_ H Q=>Q (ns.map V.int) H
theorem qe:∀(es:List Expr)(ns:List Int),kq es=some ns->PA X es (tInts ns)
 |[],ns,h=>by cases h; exact rq
 |e::es,ns,h=>by
  unfold kq at h
  split at h
  ·rename_i e1; cases e1
  ·rename_i i j p es' e1
   cases e1;obtain⟨ms,h1,rfl⟩:=Go.mp h;exact nV vM (qe es ms h1)
  ·cases h
end
section
variable{X:Cx}
theorem iw(hc:X.calm=true):bf X (.builtin "min") (λxs H Q=>∃p ns,xs=[.ref p]/\gg X.K H p (ns.map V.int)/\ns≠[]/\∀M:Int,M∈ns->(∀a,a∈ns->M<=a)->Q (.int M) H):=by
 intro pins s σ H xs us Q I r h;obtain⟨p,ns,rfl,hq,hne,q⟩:=h;obtain⟨u,rfl,rx⟩:=vals1 r;cases rx;obtain⟨its,rv,pl,hz⟩:=I.list hq;have hi:=intsAre_of rv;have hn:=hi.numsOf;have hl:=hi.length;obtain⟨xs,e⟩:=hi.allInts.items;have hp:=pl.isList;rw[e] at hp;have en:numsOf its=xs.toList.map (·.1):=by
  have:=Kh (xs:=xs);rw[<-e] at this;exact this
 rw[en] at hn;have hsz:0<xs.size:=by
  have h1:ns.length=xs.size:=by rw[<-hn,B2,FW]
  have:ns.length≠0:=λz=>hne (HF.mp z)
  lia
 refine min_intList (I.ok.hd hc) hp hsz λv h' tk hv hk=>?_
 obtain⟨t,rfl⟩:=Jk hv;obtain⟨h1,h2⟩:=argBest_lt (numAt xs) (xs.size-1);refine⟨.int _,H,I.kept (t':=tk) hk,⟨t,rfl⟩,q _ ?_ λa ha=>?_⟩
 ·rw[Jw,<-hn]; exact getD_mem (by rw[B2,FW]; lia)
 ·rw[<-hn] at ha
  obtain⟨j,hj,rfl⟩:=Mr ha;rw[B2,FW] at hj;rw[<-Jw]; exact h2 j (by lia)
end
section
variable{X:Cx}
theorem jb{prog:FB}{w:World}{A:Fa}{E:Value->B1->Prop}{s:B1}{t sl:Addr}{its:Array Value}{vl vu:Value}{lo hi:Option Int}{Q:Value->B1->Prop}(ht:IsTup s.heap t its)(hs:s.heap.IsSliceOf sl vl vu .none)(pl:KO vl lo)(pu:KO vu hi)
  (h0:HT.cI its.size 0 lo=0) (h1:HT.cI its.size its.size hi=its.size) (h:Q (.ref t) s):wpAny (model prog w) A (Jl (.ref t) (.ref sl)) Q E s:=by
 have T:s.TypeIs (.ref sl) "slice" := by obtain⟨o,a,b,_⟩:=id hs; exact⟨o,a,b⟩
 unfold Jl
 first | with_reducible refine G6 ?_ | skip
 first | refine AC (BM ?_) | skip
 refine AC (wpAny_sequenceKey ht.typeIs (by decide) ?_)
 refine AC (G8 (name := "__getitem__") ht.typeIs Gf (GF Gf ht.typeIs NB ?_ (NQ _ _)));show wpAny _ _ (KA (.ref t) >>= _) _ _ s;refine AC (tupleItemsOf_ ht (AC (Ie T ?_)));rw[if_pos (by decide)]
 refine AC (HT.fB hs pl pu ?_);have c:(((HT.cI its.size 0 lo:Nat):Int) == 0 && (1:Int) == 1 && (HT.cI its.size its.size hi-HT.cI its.size 0 lo) == its.size)=true:=by
  rw[h0,h1,M5,beq_self_eq_true its.size]; rfl
 show wpAny _ _ (if (((HT.cI its.size 0 lo:Nat):Int) == 0 && (1:Int) == 1 && (HT.cI its.size its.size hi-HT.cI its.size 0 lo) == its.size)=true then _ else _) _ _ s
 rw[if_pos c];refine AC (AC (Ie ht.typeIs (BM ?_)));rw[if_pos (by decide)]
 first
  |exact AC (BM (BM ⟨_,rfl,BM h⟩))
  |exact AC (Gy (BM ⟨_,rfl,BM h⟩))
  |exact Gy (BM ⟨_,rfl,BM h⟩)
  |trace_state
def rSlA(K:AT):V->Option Int->Option Int->Hp->VK->Prop:=λx lo hi H Q=>∃a xs,x=.ref a/\dR K H a xs/\∀r H',bB H H'->dR K H' r (kL xs lo hi)->Q (.ref r) H'
theorem zp:yS X (rSlA X.K):=by
 intro pins s σ H x v vl vu lo hi sl Q I rx hs pl pu h;obtain⟨a,xs,rfl,hx,q⟩:=h
 by_cases hw:HT.cI xs.length 0 lo=0/\HT.cI xs.length xs.length hi=xs.length
 ·cases rx
  obtain⟨its,r,ht,hz⟩:=I.tuple hx;have hlen:its.toArray.size=xs.length:=by rw[Dx]; exact r.length.symm
  refine⟨"tuple",_,Gf.lookup,ht.typeIs,?_⟩;refine jb ht hs pl pu (by rw[hlen]; exact hw.1) (by rw[hlen]; exact hw.2) ⟨.ref a,H,I,rfl,q a H (λ_ _ z=>z) ?_⟩
  have e:kL xs lo hi=xs:=by unfold kL; rw[hw.1,hw.2,Hl,M5,HB]
  rw[e]; exact hx
 ·exact BE pins s σ H _ v vl vu lo hi sl Q I rx hs pl pu ⟨a,xs,rfl,hx,hw,λp hp=>q p _ (dJ hp _) (dR.of aT)⟩
end
end L2
end
section
namespace L2
open PySem PySem.Spec PyProof.Rows PySem.W
section
variable{prog:FB}{w:World}{A:Fa}{E:Value->B1->Prop}{s:B1}
theorem qf{T:String}{r d:Addr}{n:Nat}{P:Nat->Value->Prop}{OK:Heap->Prop}{Q:List Value->B1->Prop}(K:KdlSrc prog w T r d n P OK)(hh:A.handled=none)(hok:OK s.heap)(hn:n<=E6)
  (hQ:∀h' tk acc,(∀b o,s.heap.get? b=some o->h'.get? b=some o)->s.heap.objs.size<h'.objs.size->L3 P acc n->Q acc.toList { s with heap:=h',toks:=tk }):wpAny (model prog w) A (Ll (.ref r)) Q E s:=by
 unfold Ll;refine AC (Lr (GV Le ?_));rw[GC Lc _];show wpAny _ A.in1 (MX [] >>= λl=>again (.builtin "list.__iadd__" ⟨[l,.ref r],[]⟩)) _ _ s
 refine AC (FU ?_);refine BM ⟨HE Ir _,GV MA ?_⟩;rw[GC Ir _];have hlt:=K.there _ hok;have old:∀b o,s.heap.get? b=some o->(s.heap.push { cls:=.type "list",data:=.seq ([]:List Value).toArray }).get? b=some o:=λb o e=>At _ e
 have hok':OK (s.heap.push { cls:=.type "list",data:=.seq ([]:List Value).toArray }):=K.keep _ _ hok λb _ o e=>old b o e
 show wpAny _ A.in1 (Ho (.ref s.heap.objs.size) (.ref r) (.ref s.heap.objs.size)) _ _ _;refine kdl_extend (R:=λres s'=>match res with
  |.ok (.ret v)=>wpAny (model prog w) A (match v with
   |.ref a=>do
    let o <-load a
    match o.data with
     |.seq xs _=>pure xs.toList
     |_=>KI "internal:collect"
   |_=>KI "internal:collect") Q E s'
  |.ok _=>False
  |.error e=>E e s') (s:={ s with heap:=s.heap.push { cls:=.type "list",data:=.seq ([]:List Value).toArray } }) K hh hok' s.heap.objs.size (Jt hlt.1) (Jt hlt.2) (.ref s.heap.objs.size) 0 (Db _ rfl) (λh' tk acc c hk hS hacc=>?_) hn
 show wpAny _ A (load s.heap.objs.size >>= _) _ _ _;refine AC (Lu hS ?_);exact BM (hQ h' tk acc (λb o e=>hk b o (E1 (Ch e)) (old b o e)) (Ch hS) hacc)
theorem rF{T:String}{r d:Addr}{n:Nat}{P:Nat->Value->Prop}{OK:Heap->Prop}{ns:List Int}{Q:Value->B1->Prop}(K:KdlSrc prog w T r d n P OK)(hh:A.handled=none)(hok:OK s.heap)(h64:n<64)
  (hP:∀acc,L3 P acc n->Gr acc.toList ns)
  (h:∀(l:Addr)(h':Heap)(tk e:Nat)(out:Array Value)(ns':List Int),s.heap.objs.size<=l->(∀b o,s.heap.get? b=some o->h'.get? b=some o)->h'.get? l=some (GP "list" out e)->Gr out.toList ns'->ns'.Perm ns->ns'.Pairwise (·<=·)->Q (.ref l) { s with heap:=h',toks:=tk }) :
  wpAny (model prog w) A (call (.builtin "sorted") [.ref r]) Q E s:=by
 refine IB Lf L9 LA (LC _) ?_;unfold Gg.«sorted»;refine AC (m:=Ly "sorted" 1 1 _) (BM ?_);refine AC (qf K hh hok (by rw[GR]; lia) λh1 tk acc kp lt1 hacc=>?_)
 have hsz:acc.toList.length=n:=by rw[FW]; exact hacc.1
 refine AC (J6 ?_ (by rw[GR]; lia))
 have hoL:(h1.push (GP "list" acc.toList.toArray 0)).get? h1.objs.size=some (GP "list" acc.toList.toArray 0):=Db _ rfl;have le:s.heap.objs.size<=h1.objs.size:=HX lt1;show wpAny _ _ _ _ _ { s with heap:=h1.push (GP "list" acc.toList.toArray 0),toks:=tk }
 refine AC (G6 (GF KQ ⟨_,hoL,rfl⟩ K6 (list_sort_tree hoL (hP acc hacc) (by lia) λout ns' a1 a2 a3=>⟨_,rfl,?_⟩) (KR _)))
 obtain⟨e,he⟩:=sortedHeap_at (out:=out) hoL;refine BM ⟨_,rfl,h h1.objs.size _ tk e out ns' le (λb o q=>?_) he a1 a2 a3⟩
 have q1:=kp b o q;rw[sortedHeap_old (E1 (Ch q1)) (by rw[GN]; exact Gx (Ch q1)),At _ q1]
end
theorem sZ:∀{us:List Value}{ns:List Int},us.length=ns.length->(∀(j:Nat)(v:Value),us[j]? = some v->∃n t,ns[j]? = some n/\v=.int n t)->Gr us ns
 |[],[],_,_=>.nil
 |[],_::_,h,_=>by simp at h
 |_::_,[],h,_=>by simp at h
 |u::us,n::ns,h,q=>by
  obtain⟨m,t,e,rfl⟩:=q 0 u rfl;have e:n=m:=FX e;subst e;exact .cons n t (sZ (by simpa using h) λj v hv=>q (j+1) v hv)
theorem KV.at{κ:Type}{kvs:List (κ×V)}{vs:List (κ×Value)}(r:KV kvs vs):∀{j:Nat}{k:κ}{x:Value},vs[j]? = some (k,x)->∃y,kvs[j]? = some (k,y)/\RelV y x:=by
 induction r with
 |nil=>intro j k x h; simp at h
 |@cons a b as bs r1 t ih=>
  intro j k x h;cases j with
  |zero=>
   have h:b=(k,x):=FX h;subst h;obtain⟨k',y⟩:=a;obtain⟨e,r2⟩:=r1;have e:k'=k:=e;subst e;exact⟨y,rfl,r2⟩
  |succ j=>exact ih (by simpa using h)
section
variable{X:Cx}
theorem fE(hc:X.calm=true):bf X (.builtin "sorted") (λxs H Q=>∃a kvs ns,xs=[.ref a]/\H a=some (.dK kvs)/\kvs.map (·.1)=ns.map Hi/\ns.length<64/\∀(ns':List Int)l,ns'.Perm ns->ns'.Pairwise (·<=·)->H l=none->Q (.ref l) (upd H l (.lst (ns'.map V.int)))):=by
 intro pins s σ H xs us Q I r h;obtain⟨a,kvs,ns,rfl,hq,ek,h64,q⟩:=h;obtain⟨u,rfl,rx⟩:=vals1 r;cases rx;obtain⟨hz,hS,vs,rv,m⟩:=AQ I.hok hq;obtain⟨ep,hm⟩:=m.dictAt;have ln:kvs.length=ns.length:=by
  have:=congrArg Iw ek;rw[B2,B2] at this;exact this
 have lv:=rv.length;refine rF (ns:=ns) (kdl_dict (knd:=aI X.prog X.w) (kvs:=vs) (ep:=ep) hS) (I.ok.hd hc) hm (by lia) (λacc hacc=>sZ (by rw[FW,hacc.1]; lia) λj v hv=>?_) λl h' tk e out ns' hl kp he hI pm srt=>?_
 ·obtain⟨k,x,hkx,hk⟩:=hacc.2 j v (by rw[<-Lp]; exact hv)
  obtain⟨y,hy,_⟩:=rv.at hkx;have e1:(kvs.map (·.1))[j]? = some k:=by rw[Fs,hy]; rfl
  rw[ek,Fs] at e1;obtain⟨n,hn,rfl⟩:=Go.mp e1;have hk:kE (Hi n) v=true:=hk;rcases br hk with⟨i,t,e2,rfl⟩ | ⟨z,t,e2,_⟩
  ·cases e2
   exact⟨n,t,hn,rfl⟩
  ·cases e2
 ·have hv:Vals (ns'.map V.int) out.toList:=by
   clear he pm srt
   generalize out.toList=os at hI
   induction hI with
   |nil=>exact .nil
   |cons n t _ ih=>exact .cons ⟨_,rfl⟩ ih
  have hlen:(ns'.map V.int).length<=E6:=by
   rw[B2,pm.length_eq,GR]; lia
  refine⟨.ref l,_,I.laid (t':=tk) (a:=l) (o:=.lst (ns'.map V.int)) kp hl ?_,rfl,q ns' _ pm srt (I.hok.fresh hl)⟩;refine⟨hlen,out.toList,e,hv,?_⟩;rw[he]
end
end L2
end
section
namespace L2
open PySem PySem.Spec PyProof.Rows
section
variable{prog:FB}{w:World}{A:Fa}{E:Value->B1->Prop}{s:B1}
theorem jW{l:Addr}{vs:List Value}{Q:List Value->B1->Prop}(hl:IsTup s.heap l vs.toArray)(hsz:vs.length<=E6)
  (h:Q vs { s with heap:=(s.heap.push (GP "list" #[] 0)).update s.heap.objs.size (GK (· ++ vs.toArray)) }):wpAny (model prog w) A (Ll (.ref l)) Q E s:=by
 obtain⟨o,ho,hc,n,hd⟩:=id hl;unfold Ll;refine AC (Lr (GV entry_proto_collect' ?_));show wpAny _ _ (do again (.builtin "list.__iadd__" ⟨[<-MX [],.ref l],[]⟩)) _ _ s
 refine AC (J6 (BM ⟨Code.quiet_builtin _ (by decide +kernel),GV entry_list_iadd' ?_⟩))
 show wpAny _ _ (Ho (.ref s.heap.objs.size) (.ref l) (.ref s.heap.objs.size)) _ _ { s with heap:=s.heap.push (GP "list" #[] 0) }
 unfold Ho;have ho':(s.heap.push (GP "list" #[] 0)).get? l=some o:=At _ ho;refine AC (Ie (T := "tuple") ⟨o,ho',hc⟩ ?_);rw[if_pos (by rw[show (ME "tuple" == ME "tuple")=true from rfl]; simp)]
 refine AC (Mc ho' hd (AC (Mc (xs:=#[]) (n:=0) (Db _ rfl) rfl ?_)));rw[if_neg (by simp)]
 refine AC (Kl (xs:=#[]) (n:=0) (Db _ rfl) rfl ?_ (FV _) (by show (#[]++vs.toArray).size<=E6+1; simp only[Array.size_append,Dx,FC]; lia))
 refine BM ?_;show wpAny (model prog w) A (do
   let o <-load s.heap.objs.size
   match o.data with
   |.seq xs _=>pure xs.toList
   |_=>KI "internal:collect") Q E { s with heap:=(s.heap.push (GP "list" #[] 0)).update s.heap.objs.size (GK (· ++ vs.toArray)) }
 refine AC (Lu (get?_update_seq (Db _ rfl) _) ?_);show wpAny _ _ (pure ((#[]:Array Value)++vs.toArray).toList) Q E _;rw[show ((#[]:Array Value)++vs.toArray).toList=vs by simp]
 exact BM h
theorem rG{l:Addr}{vs:List Value}{ns:List Int}{Q:Value->B1->Prop}(hl:IsTup s.heap l vs.toArray)(hI:Gr vs ns)(h64:vs.length<64)
  (h:∀(out:Array Value)(ns':List Int),Gr out.toList ns'->ns'.Perm ns->ns'.Pairwise (·<=·)->Q (.ref (s.heap.objs.size+1)) { s with heap:=sortedAll s.heap vs out }) :
  wpAny (model prog w) A (call (.builtin "sorted") [.ref l]) Q E s:=by
 refine IB Lf L9 LA (LC _) ?_;unfold Gg.«sorted»;refine AC (m:=Ly "sorted" 1 1 _) (BM ?_);refine AC (jW hl (by rw[GR]; lia) ?_)
 refine AC (J6 ?_ (by rw[GR]; lia))
 have hsz:((s.heap.push (GP "list" #[] 0)).update s.heap.objs.size (GK (· ++ vs.toArray))).objs.size=s.heap.objs.size+1:=by rw[Ib,M3]
 have hoL:(((s.heap.push (GP "list" #[] 0)).update s.heap.objs.size (GK (· ++ vs.toArray))).push (GP "list" vs.toArray 0)).get? (s.heap.objs.size+1)=some (GP "list" vs.toArray 0):=by
  rw[<-hsz]; exact Db _ rfl
 show wpAny _ _ _ _ _ { s with heap:=((s.heap.push (GP "list" #[] 0)).update s.heap.objs.size (GK (· ++ vs.toArray))).push (GP "list" vs.toArray 0) }
 rw[hsz];refine AC (G6 (GF KQ ⟨_,hoL,rfl⟩ K6 (list_sort_tree hoL hI h64 λout ns' a1 a2 a3=>⟨_,rfl,?_⟩) (KR _)))
 exact BM ⟨_,rfl,h out ns' a1 a2 a3⟩
end
section
variable{X:Cx}
theorem jB:bf X (.builtin "sorted") (λxs H Q=>∃p ns,xs=[.ref p]/\dR X.K H p (ns.map V.int)/\ns.length<64/\∀(ns':List Int)l,ns'.Perm ns->ns'.Pairwise (·<=·)->H l=none->Q (.ref l) (upd H l (.lst (ns'.map V.int)))):=by
 intro pins s σ H xs us Q I r h;obtain⟨p,ns,rfl,hq,h64,q⟩:=h;obtain⟨u,rfl,rx⟩:=vals1 r;cases rx;obtain⟨its,rv,pl,hz⟩:=I.tuple hq;have hI:=intsAre_of rv;have hl:=rv.length;rw[B2] at hl;refine rG pl hI (by lia) λout ns' ho hp hs=>?_
 obtain⟨e,he⟩:=L8 s.heap its out;have hv:Vals (ns'.map V.int) out.toList:=by
  clear he hp hs
  generalize out.toList=os at ho
  induction ho with
  |nil=>exact .nil
  |cons n t _ ih=>exact .cons ⟨_,rfl⟩ ih
 have hlen:(ns'.map V.int).length<=E6:=by rw[B2,hp.length_eq,GR]; lia
 refine⟨.ref (s.heap.objs.size+1),_,I.laid (t':=s.toks) (a:=s.heap.objs.size+1) (o:=.lst (ns'.map V.int)) (λb u e=>Kk e) (GU _) ?_,rfl,q ns' _ hp hs (I.hok.fresh (GU _))⟩
 refine⟨hlen,out.toList,e,hv,?_⟩;rw[he]
end
end L2
end
section
namespace HT
open PySem PySem.Spec PyProof.Rows
noncomputable def eU:List Int->List Int->Bool
 |[],[]=>true
 |[],_::_=>false
 |_::_,[]=>true
 |x::xs,y::ys=>if x=y then eU xs ys else decide (x>=y)
theorem kU(x y:Int)(xs ys:List Int):eU (x::xs) (y::ys)=if x=y then eU xs ys else decide (x>=y):=rfl
theorem mF:eU [] []=true:=rfl
theorem kW(y:Int)(ys:List Int):eU [] (y::ys)=false:=rfl
theorem kX(x:Int)(xs:List Int):eU (x::xs) []=true:=rfl
theorem nk:∀(xs ys:List Int),eU xs ys = !lexLt xs ys
 |[],[]=>rfl
 |[],_::_=>rfl
 |_::_,[]=>rfl
 |x::xs,y::ys=>by
  rw[kU,aV]
  by_cases e:x=y
  ·rw[if_pos e,if_pos e]; exact nk xs ys
  ·rw[if_neg e,if_neg e]
   by_cases h:x<y
   ·rw[decide_eq_true h,decide_eq_false (by lia)]; rfl
   ·rw[decide_eq_false h,decide_eq_true (by lia)]; rfl
theorem wV(A:Fa)(s:B1)(a:Int)(t:Tok)(c:Int)(u:Tok)(prog:FB)(w:World)(E:Value->B1->Prop)(Q:Value->B1->Prop)(h:Q (.bool (decide (a>=c))) s) :
  wpAny (model prog w) A (KJ .GtE (.int a t) (.int c u)) Q E s:=(NA h:wpAny (model prog w) A (Fy .GtE (.int a t) (.int c u)) Q E s)
section
open PySem.SeqAt
open PySem.AutoSeq1 (wpAny_loadPart')
open PySem.MeetsSeq PySem.MeetsSeq2 PySem.MeetsSeq3
theorem mG(l b:Addr)(items items2:Array Value)(n n2:Nat)(dd dd2:Option Addr)(sl sl2:Array (Option Value))(ns ms:List Int)(hi:Gr items.toList ns)(hj:Gr items2.toList ms) :
  Meets (Gg.«tuple.__ge__» ⟨[.ref l,.ref b],[]⟩)
   (λ_ R s=>s.heap.get? l=some { cls:=.type "tuple",dict:=dd,data:=.seq items n,slots:=sl }/\s.heap.get? b=some { cls:=.type "tuple",dict:=dd2,data:=.seq items2 n2,slots:=sl2 } /\
    R (.ok (.ret (.bool (eU ns ms)))) s) :=
 .of_wp λprog w A R s h=>by
  obtain⟨hp,g,d,tk,os⟩:=s; obtain⟨hl,hb,h⟩:=h;have f2:=JF;have z1:items.size=ns.length:=by rw[<-hi.length]; simp
  have z2:items2.size=ms.length:=by rw[<-hj.length]; simp
  wp_walk using FR hl,FR hb,LP _ (λrest b s'=>b.1=none/\s'=⟨hp,g,d,tk,os⟩/\∃ (vs ws:List Value) (ns' ms':List Int),rest=vs.zip ws /\
   Gr vs ns'/\Gr ws ms'/\ns'.length+items2.size=ms'.length+items.size/\R (.ok (.ret (.bool (eU ns' ms')))) ⟨hp,g,d,tk,os⟩) _
  case turn=>
   rintro⟨y,x⟩ rest b s' ⟨hb',rfl,vs,ws,ns',ms',hz,hvi,hwi,hlen,hR⟩;cases hvi with
   |nil=>rw[IW] at hz; cases hz
   |cons a t hvi' =>
    cases hwi with
    |nil=>rw[IN] at hz; cases hz
    |cons c u hwi' =>
     rw[Gc] at hz
     injection hz with hyx hrest
     injection hyx with hy hx
     subst hy hx;rw[kU] at hR;simp only[D1] at hlen;obtain⟨e,he,hiff⟩:=pZ A.in1 ⟨hp,g,d,tk,os⟩ a t c u;refine AC (he prog w _ _ ?_);cases e with
     |true=>
      rw[if_pos (hiff.mp rfl)] at hR
      wp_walk
      exact⟨rfl,rfl,_,_,_,_,hrest,hvi',hwi',by lia,hR⟩
     |false=>
      rw[if_neg (λq=>absurd (hiff.mpr q) GI)] at hR
      have hri:=wV A.in1 ⟨hp,g,d,tk,os⟩ a t c u prog w
      wp_walk using hri
      exact⟨_,rfl,by simpa using hR⟩
  case fin=>
   rintro⟨b1,b2⟩ s' ⟨hb',rfl,vs,ws,ns',ms',hz,hvi,hwi,hlen,hR⟩;simp only at hb';subst hb';have hv:eU ns' ms'=decide (items.size>=items2.size):=by
    cases hvi with
    |nil=>
     cases hwi with
     |nil=>
      simp only[FC] at hlen;rw[mF];exact(decide_eq_true (by lia)).symm
     |cons c u hw=>
      simp only[FC,D1] at hlen;rw[kW];exact(decide_eq_false (by lia)).symm
    |cons a t hv=>
     cases hwi with
     |nil=>
      simp only[FC,D1] at hlen;rw[kX];exact(decide_eq_true (by lia)).symm
     |cons c u hw=>
      rw[Gc] at hz;cases hz
   rw[hv] at hR
   wp_walk
   exact⟨_,rfl,by simpa[II] using hR⟩
  case h=>
   exact⟨rfl,rfl,items.toList,items2.toList,ns,ms,rfl,hi,hj,by lia,h⟩
end
section
variable{prog:FB}{w:World}{A:Fa}{E:Value->B1->Prop}{s:B1}
theorem rH{l b:Addr}{items items2:Array Value}{ns ms:List Int}{Q:Value->B1->Prop}(hl:IsTup s.heap l items)(hb:IsTup s.heap b items2)(hi:Gr items.toList ns)(hj:Gr items2.toList ms)
  (hu:A.units<cLine) (h:Q (.bool (eU ns ms)) s):wpAny (model prog w) A (Fy .GtE (.ref l) (.ref b)) Q E s:=by
 obtain⟨⟨cls,dd,data,sl⟩,ho,hc,n,hd⟩:=id hl;obtain⟨⟨cls2,dd2,data2,sl2⟩,ho2,hc2,n2,hd2⟩:=id hb;simp only at hc hd hc2 hd2;subst hc hd hc2 hd2;exact Ih (op:=.GtE) ⟨_,ho,rfl⟩ ⟨_,ho2,rfl⟩ PySem.F.slot_tuple_ge PySem.F.entry_tuple_ge (PySem.F.args_tuple_ge_2 _ _) (mG l b items items2 n n2 dd dd2 sl sl2 ns ms hi hj)
  ⟨ho,ho2,show Jg (eU ns ms)≠Ik/\Q (.bool (eU ns ms)) s from⟨(λx=>nomatch x),h⟩⟩ hu
end
end HT
namespace L2
open PySem PySem.Spec PyProof.Rows
section
variable{X:Cx}
noncomputable def rGeT(K:AT):R2:=λx y H Q=>∃a b ns ms,x=.ref a/\y=.ref b/\dR K H a (ns.map V.int)/\dR K H b (ms.map V.int)/\Q (.bl (!HT.lexLt ns ms)) H
theorem BZ(hu:X.A.units<cLine):dN X (Fy .GtE) (rGeT X.K):=by
 intro pins s σ H x y v u Q I rx ry h;obtain⟨a,b,ns,ms,rfl,rfl,ha,hb,q⟩:=h;cases rx;cases ry;obtain⟨its,r1,p1,_⟩:=I.tuple ha;obtain⟨its2,r2,p2,_⟩:=I.tuple hb;refine HT.rH p1 p2 (intsAre_of r1) (intsAre_of r2) hu ⟨.bl (HT.eU ns ms),H,I,rfl,?_⟩;rw[HT.nk]; exact q
end
end L2
end
section
namespace VL
open PySem PySem.Spec L2 PyProof.Rows
abbrev Zs:=Addr->Prop
noncomputable def kY:Key->Ap
 |.inl i=>.int i
 |.inr x=>.str x
def KL(K:AT)(a:Addr)(xs:List V):Prop:=∃ (o:Obj) (its:Array Value) (n:Nat),K.lookup a=some o/\o.cls=.type "list"/\o.dict=none/\o.data=.seq its n/\its.size<=E6/\Vals xs its.toList
mutual
inductive Fz(K:AT)(H:Hp)(Z:Zs):V->Ap->Prop
 |non:Fz K H Z .non .none
 |bl (b:Bool):Fz K H Z (.bl b) (.bool b)
 |int (i:Int):Fz K H Z (.int i) (.int i)
 |str (x:Str):Fz K H Z (.str x) (.str x)
 |tup {a:Addr} {xs:List V} {ds:List Ap}:dR K H a xs->bu K H Z xs ds->Fz K H Z (.ref a) (.tuple ds)
 |lst {a:Addr} {xs:List V} {ds:List Ap}:Rd H a (.lst xs)->Z a->bu K H Z xs ds->Fz K H Z (.ref a) (.list ds)
 |lsK {a:Addr} {xs:List V} {ds:List Ap}:KL K a xs->bu K H Z xs ds->Fz K H Z (.ref a) (.list ds)
 |bP {a:Addr} {kxs:List (Key×V)} {ds:List (Key×Ap)}:H a=some (.dK kxs)->Z a->gp K H Z kxs ds->Fz K H Z (.ref a) (.dict (ds.map λp=>(kY p.1,p.2)))
 |dtp {a:Addr} {kxs:List (List Key×V)} {ds:List (List Key×Ap)}:H a=some (.dT kxs)->Z a->kxs.map (·.1)=ds.map (·.1)->bu K H Z (kxs.map (·.2)) (ds.map (·.2))->Fz K H Z (.ref a) (.dict (ds.map λp=>(.tuple (p.1.map kY),p.2)))
inductive bu(K:AT)(H:Hp)(Z:Zs):List V->List Ap->Prop
 |nil:bu K H Z [] []
 |cons {x:V} {d:Ap} {xs:List V} {ds:List Ap}:Fz K H Z x d->bu K H Z xs ds->bu K H Z (x::xs) (d::ds)
inductive gp(K:AT)(H:Hp)(Z:Zs):List (Key×V)->List (Key×Ap)->Prop
 |nil:gp K H Z [] []
 |cons {k:Key} {x:V} {d:Ap} {xs:List (Key×V)} {ds:List (Key×Ap)}:Fz K H Z x d->gp K H Z xs ds->gp K H Z ((k,x)::xs) ((k,d)::ds)
end
structure aM(H:Hp)(Z:Zs)(H':Hp)(Z':Zs):Prop where
 tups:ef H H'
 keep:∀a o,Z a->H a=some o->H' a=some o
 zs:∀a,Z a->Z' a
theorem aM.refl{H:Hp}{Z:Zs}:aM H Z H Z:=⟨ef.refl,λ_ _ _ h=>h,λ_ h=>h⟩
theorem aM.trans{H H1 H2:Hp}{Z Z1 Z2:Zs}(g:aM H Z H1 Z1)(h:aM H1 Z1 H2 Z2):aM H Z H2 Z2:=⟨g.tups.trans h.tups,λa o z e=>h.keep a o (g.zs a z) (g.keep a o z e),λa z=>h.zs a (g.zs a z)⟩
section
variable{K:AT}{H H':Hp}{Z Z':Zs}
mutual
theorem Fz.mono(g:aM H Z H' Z'):∀{x:V}{d:Ap},Fz K H Z x d->Fz K H' Z' x d
 |_,_,.non=>.non
 |_,_,.bl b=>.bl b
 |_,_,.int i=>.int i
 |_,_,.str x=>.str x
 |_,_,.tup h r=>.tup (g.tups.sq h) (bu.mono g r)
 |_,_,.lst (a:=a) h z r=>.lst (by
  rcases h with e | ⟨o,e⟩
  ·exact .inl (g.keep a _ z e)
  ·exact .inr ⟨o,g.keep a _ z e⟩) (g.zs _ z) (bu.mono g r)
 |_,_,.lsK h r=>.lsK h (bu.mono g r)
 |_,_,.bP (a:=a) h z r=>.bP (g.keep a _ z h) (g.zs _ z) (gp.mono g r)
 |_,_,.dtp (a:=a) h z e r=>.dtp (g.keep a _ z h) (g.zs _ z) e (bu.mono g r)
theorem bu.mono(g:aM H Z H' Z'):∀{x:List V}{d:List Ap},bu K H Z x d->bu K H' Z' x d
 |_,_,.nil=>.nil
 |_,_,.cons h r=>.cons (Fz.mono g h) (bu.mono g r)
theorem gp.mono(g:aM H Z H' Z'):∀{x:List (Key×V)}{d:List (Key×Ap)},gp K H Z x d->gp K H' Z' x d
 |_,_,.nil=>.nil
 |_,_,.cons h r=>.cons (Fz.mono g h) (gp.mono g r)
end
theorem bu.length:∀{xs:List V}{ds:List Ap},bu K H Z xs ds->xs.length=ds.length:=by
 intro xs
 induction xs with
 |nil=>intro ds h; cases h; rfl
 |cons x xs ih=>intro ds h; cases h with | cons _ r=>rw[D1,D1,ih r]
theorem bu.get:∀{xs:List V}{ds:List Ap}{i:Nat}{x:V},bu K H Z xs ds->xs[i]? = some x->∃d,ds[i]? = some d/\Fz K H Z x d
 |_,_,_,_,.nil,e=>by simp at e
 |_,_,0,_,.cons r _,e=>by simp at e; subst e; exact⟨_,rfl,r⟩
 |_,_,i+1,_,.cons _ t,e=>by
  obtain⟨d,h1,h2⟩:=bu.get (i:=i) t (by simpa using e)
  exact⟨d,by simpa using h1,h2⟩
theorem bu.get':∀{xs:List V}{ds:List Ap}{i:Nat}{d:Ap},bu K H Z xs ds->ds[i]? = some d->∃x,xs[i]? = some x/\Fz K H Z x d:=by
 intro xs
 induction xs with
 |nil=>intro ds i d h e; cases h; simp at e
 |cons x xs ih=>
  intro ds i d h e;cases h with | cons r t=>
  cases i with
  |zero=>simp at e; subst e; exact⟨_,rfl,r⟩
  |succ i=>
   obtain⟨d,h1,h2⟩:=ih (i:=i) t (by simpa using e)
   exact⟨d,by simpa using h1,h2⟩
theorem bu.append:∀{xs ys:List V}{ds es:List Ap},bu K H Z xs ds->bu K H Z ys es->bu K H Z (xs++ys) (ds++es):=by
 intro xs
 induction xs with
 |nil=>intro ys ds es h s; cases h; exact s
 |cons x xs ih=>intro ys ds es h s; cases h with | cons h r=>exact .cons h (ih r s)
theorem bu.take:∀{xs:List V}{ds:List Ap}(n:Nat),bu K H Z xs ds->bu K H Z (xs.take n) (ds.take n)
 |_,_,0,_=>by rw[LM,LM]; exact .nil
 |_,_,n+1,.nil=>by rw[NT,NT]; exact .nil
 |_,_,n+1,.cons h r=>.cons h (bu.take n r)
theorem bu.drop:∀{xs:List V}{ds:List Ap}(n:Nat),bu K H Z xs ds->bu K H Z (xs.drop n) (ds.drop n)
 |_,_,0,h=>h
 |_,_,n+1,.nil=>by rw[KC,KC]; exact .nil
 |_,_,n+1,.cons h r=>bu.drop n r
theorem bu.set:∀{xs:List V}{ds:List Ap}{x:V}{d:Ap}(i:Nat),bu K H Z xs ds->Fz K H Z x d->bu K H Z (xs.set i x) (ds.set i d):=by
 intro xs
 induction xs with
 |nil=>intro ds x d i h _; cases h; exact .nil
 |cons y xs ih=>
  intro ds x d i h q;cases h with | cons p r=>
  cases i with
  |zero=>exact .cons q r
  |succ i=>exact .cons p (ih i r q)
theorem gp.length:∀{xs:List (Key×V)}{ds:List (Key×Ap)},gp K H Z xs ds->xs.length=ds.length:=by
 intro xs
 induction xs with
 |nil=>intro ds h; cases h; rfl
 |cons x xs ih=>intro ds h; cases h with | cons _ r=>rw[D1,D1,ih r]
theorem gp.keys:∀{xs:List (Key×V)}{ds:List (Key×Ap)},gp K H Z xs ds->xs.map (·.1)=ds.map (·.1)
 |_,_,.nil=>rfl
 |_,_,.cons _ r=>by rw[FN,FN,gp.keys r]
theorem Fz.int_inv{x:V}{i:Int}(h:Fz K H Z x (.int i)):x=.int i:=by cases h; rfl
theorem Fz.rJ{x:V}{i:Bool}(h:Fz K H Z x (.bool i)):x=.bl i:=by cases h; rfl
theorem Fz.str_inv{x:V}{i:Str}(h:Fz K H Z x (.str i)):x=.str i:=by cases h; rfl
theorem Fz.s9{x:V}(h:Fz K H Z x .none):x=.non:=by cases h; rfl
theorem Fz.gT{x:V}{ds:List Ap}(h:Fz K H Z x (.tuple ds)):∃a xs,x=.ref a/\dR K H a xs/\bu K H Z xs ds:=by
 cases h with
 |tup q r=>exact⟨_,_,rfl,q,r⟩
theorem Fz.lst_inv{x:V}{ds:List Ap}(h:Fz K H Z x (.list ds)):∃a xs,x=.ref a/\gg K H a xs/\bu K H Z xs ds:=by
 cases h with
 |lst q z r=>exact⟨_,_,rfl,.inl q,r⟩
 |lsK q r=>exact⟨_,_,rfl,.inr q,r⟩
theorem bu.ints:∀(ns:List Int),bu K H Z (ns.map V.int) (ns.map .int)
 |[]=>.nil
 |n::ns=>.cons (.int n) (bu.ints ns)
theorem bu.bU:∀{ns:List Int}{xs:List V},bu K H Z xs (ns.map .int)->xs=ns.map V.int:=by
 intro ns
 induction ns with
 |nil=>intro xs h; cases h; rfl
 |cons n ns ih=>
  intro xs h;cases h with | cons q r=>
  cases q;rw[ih r]; rfl
end
section
variable{X:Cx}{pins:List (Addr×Obj)}{σ:L2.St}{H:Hp}{s:B1}{Z:Zs}
mutual
theorem Fz.reads(I:Inv X pins σ H s):∀{v:V}{d:Ap}{u:Value},Fz X.K H Z v d->d.canLay0=true->RelV v u->∃as,Reads s.heap u d as
 |_,_,_,.non,_,r=>by cases r; exact⟨_,.none⟩
 |_,_,_,.bl b,_,r=>by cases r; exact⟨_,.bool b⟩
 |_,_,_,.int i,_,r=>by obtain⟨t,rfl⟩:=r; exact⟨_,.int i t⟩
 |_,_,_,.str x,_,r=>by obtain⟨t,rfl⟩:=r; exact⟨_,.str x t⟩
 |_,_,_,.tup q rs,c,r=>by
  cases r;obtain⟨its,rv,⟨o,ho,hc,n,hd⟩,_⟩:=I.tuple q;obtain⟨as,h⟩:=bu.reads I rs c rv;exact⟨as,.tuple ho hc hd (by simpa using h)⟩
 |_,_,_,.lst q z rs,c,r=>by
  cases r;obtain⟨its,rv,⟨o,n,ho,hc,hdd,hd⟩,_⟩:=I.list (.inl q);obtain⟨as,h⟩:=bu.reads I rs c rv;exact⟨_,.list ho hc hd (by simpa using h)⟩
 |_,_,_,.lsK q rs,c,r=>by
  cases r;obtain⟨its,rv,⟨o,n,ho,hc,hdd,hd⟩,_⟩:=I.list (.inr q);obtain⟨as,h⟩:=bu.reads I rs c rv;exact⟨_,.list ho hc hd (by simpa using h)⟩
 |_,_,_,.bP _ _ _,c,_=>nomatch c
 |_,_,_,.dtp _ _ _ _,c,_=>nomatch c
theorem bu.reads(I:Inv X pins σ H s):∀{v:List V}{d:List Ap}{u:List Value},bu X.K H Z v d->EQ d=true->Vals v u->∃as,IV s.heap u d as
 |_,_,_,.nil,_,.nil=>⟨_,.nil⟩
 |_,_,_,.cons (d:=d) (ds:=ds) r q,c,.cons a b=>by
  have c':d.canLay0=true/\EQ ds=true:=by simpa[EQ] using c
  obtain⟨x,h1⟩:=Fz.reads I r c'.1 a;obtain⟨y,h2⟩:=bu.reads I q c'.2 b;exact⟨_,.cons h1 h2⟩
end
end
end VL
end
section
namespace VL
open PySem PySem.Spec L2 PyProof.Rows
inductive M where
 |v (d:Ap)
 |lst (ds:List Ap)
 |bP (kvs:List (Key×Ap))
 |gq (kvs:List (Key×List Ap))
 |dtp (kvs:List (List Key×Ap))
abbrev Ev:=List (Option M)
section
variable(K:AT)(H:Hp)(Z:Zs)
inductive kr:List (Key×V)->List (Key×List Ap)->List Addr->Prop
 |nil:kr [] [] []
 |cons {k:Key} {b:Addr} {xs:List V} {ds:List Ap} {kxs:List (Key×V)} {kvs:List (Key×List Ap)} {G:List Addr}:H b=some (.lst xs)->bu K H Z xs ds->kr kxs kvs G->kr ((k,.ref b)::kxs) ((k,ds)::kvs) (b::G)
inductive Ow:V->M->List Addr->Prop
 |v {x:V} {d:Ap}:Fz K H Z x d->Ow x (.v d) []
 |lst {a:Addr} {xs:List V} {ds:List Ap}:H a=some (.lst xs)->bu K H Z xs ds->Ow (.ref a) (.lst ds) [a]
 |bP {a:Addr} {kxs:List (Key×V)} {kvs:List (Key×Ap)}:H a=some (.dK kxs)->gp K H Z kxs kvs->Ow (.ref a) (.bP kvs) [a]
 |gq {a:Addr} {kxs:List (Key×V)} {kvs:List (Key×List Ap)} {G:List Addr}:H a=some (.dK kxs)->kr K H Z kxs kvs G->Ow (.ref a) (.gq kvs) (a::G)
 |dtp {a:Addr} {kxs:List (List Key×V)} {kvs:List (List Key×Ap)}:H a=some (.dT kxs)->kxs.map (·.1)=kvs.map (·.1)->bu K H Z (kxs.map (·.2)) (kvs.map (·.2))->Ow (.ref a) (.dtp kvs) [a]
inductive aS:L2.St->Ev->List Addr->Prop
 |nil:aS [] [] []
 |non {x:Option V} {σ:L2.St} {ρ:Ev} {F:List Addr}:aS σ ρ F->aS (x::σ) (none::ρ) F
 |som {x:V} {m:M} {G:List Addr} {σ:L2.St} {ρ:Ev} {F:List Addr}:Ow K H Z x m G->aS σ ρ F->aS (some x::σ) (some m::ρ) (G++F)
end
def Mu(o:HO):Prop:=(∃xs,o=.lst xs)\/(∃kvs,o=.dK kvs)\/∃kvs,o=.dT kvs
structure Wf(H:Hp)(Z:Zs)(F:List Addr):Prop where
 nd:F.Nodup
 dz:∀a∈F,¬Z a
 za:∀a,Z a->H a≠none
structure aF(H:Hp)(Z:Zs)(F:List Addr)(H':Hp)(Z':Zs)(F':List Addr):Prop where
 keep:∀a o,a∉F->H a=some o->H' a=some o
 tups:ef H H'
 zs:∀a,Z a->Z' a
 zn:∀a,Z' a->Z a\/a∈F\/H a=none
 fr:∀a∈F',a∈F\/H a=none
 nd:F'.Nodup
 dz:∀a∈F',¬Z' a
 za:∀a,Z' a->H' a≠none
section
variable{K:AT}{H H' H1 H2:Hp}{Z Z' Z1 Z2:Zs}{F F' F1 F2 G:List Addr}
theorem aF.refl(w:Wf H Z F):aF H Z F H Z F:=⟨λ_ _ _ h=>h,ef.refl,λ_ h=>h,λ_ h=>.inl h,λ_ h=>.inl h,w.nd,w.dz,w.za⟩
theorem aF.wf(f:aF H Z F H' Z' F'):Wf H' Z' F':=⟨f.nd,f.dz,f.za⟩
theorem aF.grow(f:aF H Z F H' Z' F')(w:Wf H Z F):aM H Z H' Z':=⟨f.tups,λa o z e=>f.keep a o (λh=>w.dz a h z) e,f.zs⟩
theorem aF.trans(f:aF H Z F H1 Z1 F1)(g:aF H1 Z1 F1 H2 Z2 F2):aF H Z F H2 Z2 F2:=by
 have old:∀a,H1 a=none->a∈F\/H a=none:=λa e=>by
  by_cases h:a∈F
  ·exact .inl h
  ·cases q:H a with
   |none=>exact .inr rfl
   |some o=>rw[f.keep a o h q] at e; cases e
 refine⟨λa o h e=>g.keep a o (λz=>?_) (f.keep a o h e),f.tups.trans g.tups,λa z=>g.zs a (f.zs a z),λa z=>?_,λa h=>?_,g.nd,g.dz,g.za⟩
 ·rcases f.fr a z with z | z
  ·exact h z
  ·rw[e] at z; cases z
 ·rcases g.zn a z with z | z | z
  ·exact f.zn a z
  ·exact .inr (f.fr a z)
  ·exact .inr (old a z)
 ·rcases g.fr a h with z | z
  ·exact f.fr a z
  ·exact old a z
theorem aF.frame(f:aF H Z F H' Z' F')(w:Wf H Z (F++G))(al:∀a∈G,H a≠none):aF H Z (F++G) H' Z' (F'++G):=by
 have nd:=E4.mp w.nd;have sep:∀a∈G,a∉F:=λa h z=>nd.2.2 a z a h rfl
 refine⟨λa o h e=>f.keep a o (λz=>h (lL _ z)) e,f.tups,f.zs,λa z=>?_,λa h=>?_,?_,λa h z=>?_,f.za⟩
 ·rcases f.zn a z with z | z | z
  ·exact .inl z
  ·exact .inr (.inl (lL _ z))
  ·exact .inr (.inr z)
 ·rcases lM h with h | h
  ·rcases f.fr a h with z | z
   ·exact .inl (lL _ z)
   ·exact .inr z
  ·exact .inl (lR _ h)
 ·refine E4.mpr ⟨f.nd,nd.2.1,λa h b h' e=>?_⟩
  subst e;rcases f.fr a h with z | z
  ·exact sep a h' z
  ·exact al a h' z
 ·rcases lM h with h | h
  ·exact f.dz a h z
  ·rcases f.zn a z with z | z | z
   ·exact w.dz a (lR _ h) z
   ·exact sep a h z
   ·exact al a h z
theorem aF.sub(f:aF H Z F H' Z' F')(hn:F1.Nodup)(hs:∀a∈F1,a∈F'):aF H Z F H' Z' F1:=⟨f.keep,f.tups,f.zs,f.zn,λa h=>f.fr a (hs a h),hn,λa h=>f.dz a (hs a h),f.za⟩
theorem aF.left(f:aF H Z F H' Z' (F1++G)):aF H Z F H' Z' F1:=f.sub (E4.mp f.nd).1 λ_ h=>lL _ h
theorem aF.nil(f:aF H Z F H' Z' F1):aF H Z F H' Z' (F1++[]):=by rw[E3]; exact f
theorem aF.swap(f:aF H Z F H' Z' (F1++G)):aF H Z F H' Z' (G++F1):=f.sub (by
  have h:=E4.mp f.nd;exact E4.mpr ⟨h.2.1,h.1,λa x b y e=>h.2.2 b y a x e.symm⟩) λa h=>by
  rcases lM h with h | h
  ·exact lR _ h
  ·exact lL _ h
theorem kr.mem:∀{kxs:List (Key×V)}{kvs:List (Key×List Ap)}{G:List Addr},kr K H Z kxs kvs G->∀a∈G,∃o,H a=some o/\Mu o:=by
 intro kxs kvs G r
 induction r with
 |nil=>intro a h; simp at h
 |cons e _ r ih=>
  intro a h;rcases lK h with h | h
  ·subst h; exact⟨_,e,.inl ⟨_,rfl⟩⟩
  ·exact ih a h
theorem Ow.mem{x:V}{m:M}(h:Ow K H Z x m G):∀a∈G,∃o,H a=some o/\Mu o:=λa ha=>by
 cases h with
 |v _=>simp at ha
 |lst e _=>rw[Bn] at ha; subst ha; exact⟨_,e,.inl ⟨_,rfl⟩⟩
 |bP e _=>rw[Bn] at ha; subst ha; exact⟨_,e,.inr (.inl ⟨_,rfl⟩)⟩
 |dtp e _ _=>rw[Bn] at ha; subst ha; exact⟨_,e,.inr (.inr ⟨_,rfl⟩)⟩
 |gq e r=>
  rcases lK ha with ha | ha
  ·subst ha; exact⟨_,e,.inr (.inl ⟨_,rfl⟩)⟩
  ·exact r.mem a ha
theorem Ow.al{x:V}{m:M}(h:Ow K H Z x m G):∀a∈G,H a≠none:=λa ha e=>by obtain⟨o,q,_⟩:=h.mem a ha; rw[q] at e; cases e
theorem aS.mem:∀{σ:L2.St}{ρ:Ev}{F:List Addr},aS K H Z σ ρ F->∀a∈F,∃o,H a=some o/\Mu o:=by
 intro σ ρ F r
 induction r with
 |nil=>intro a h; simp at h
 |non _ ih=>exact ih
 |som q r ih=>
  intro a h;rcases lM h with h | h
  ·exact q.mem a h
  ·exact ih a h
theorem aS.al{σ:L2.St}{ρ:Ev}(h:aS K H Z σ ρ F):∀a∈F,H a≠none:=λa ha e=>by obtain⟨o,q,_⟩:=h.mem a ha; rw[q] at e; cases e
theorem kr.mono(g:aM H Z H' Z'):∀{kxs:List (Key×V)}{kvs:List (Key×List Ap)}{G:List Addr},kr K H Z kxs kvs G->(∀a∈G,∀o,H a=some o->H' a=some o)->kr K H' Z' kxs kvs G:=by
 intro kxs kvs G r
 induction r with
 |nil=>exact λ_=>.nil
 |cons e f r ih=>exact λk=>.cons (k _ lS _ e) (f.mono g) (ih λa h=>k a (lO _ h))
theorem Ow.mono{x:V}{m:M}(g:aM H Z H' Z')(h:Ow K H Z x m G)(k:∀a∈G,∀o,H a=some o->H' a=some o):Ow K H' Z' x m G:=by
 cases h with
 |v f=>exact .v (f.mono g)
 |lst e f=>exact .lst (k _ lS _ e) (f.mono g)
 |bP e f=>exact .bP (k _ lS _ e) (f.mono g)
 |dtp e n f=>exact .dtp (k _ lS _ e) n (f.mono g)
 |gq e f=>exact .gq (k _ lS _ e) (f.mono g λa h=>k a (lO _ h))
theorem aS.mono(g:aM H Z H' Z'):∀{σ:L2.St}{ρ:Ev}{F:List Addr},aS K H Z σ ρ F->(∀a∈F,∀o,H a=some o->H' a=some o)->aS K H' Z' σ ρ F:=by
 intro σ ρ F r
 induction r with
 |nil=>exact λ_=>.nil
 |non r ih=>exact λk=>.non (ih k)
 |som q r ih=>exact λk=>.som (q.mono g λa h=>k a (lL _ h)) (ih λa h=>k a (lR _ h))
theorem aS.get:∀{σ:L2.St}{ρ:Ev}{F:List Addr}{i:Nat}{m:M},aS K H Z σ ρ F->ρ[i]? = some (some m)->∃x G,σ[i]? = some (some x)/\Ow K H Z x m G/\∀a∈G,a∈F:=by
 intro σ ρ F i m r
 induction r generalizing i with
 |nil=>intro e; simp at e
 |non r ih=>
  intro e;cases i with
  |zero=>simp at e
  |succ i=>
   obtain⟨x,G,h1,h2,h3⟩:=ih (i:=i) (by simpa using e)
   exact⟨x,G,by simpa using h1,h2,h3⟩
 |som q r ih=>
  intro e;cases i with
  |zero=>simp at e; subst e; exact⟨_,_,rfl,q,λa h=>lL _ h⟩
  |succ i=>
   obtain⟨x,G,h1,h2,h3⟩:=ih (i:=i) (by simpa using e)
   exact⟨x,G,by simpa using h1,h2,λa h=>lR _ (h3 a h)⟩
theorem aS.take:∀{σ:L2.St}{ρ:Ev}{F:List Addr}{i:Nat}{m:M},aS K H Z σ ρ F->F.Nodup->ρ[i]? = some (some m) ->
  ∃x G F1,σ[i]? = some (some x)/\Ow K H Z x m G/\aS K H Z σ (ρ.set i none) F1/\(F1++G).Nodup/\∀a,a∈F1++G->a∈F:=by
 intro σ ρ F i m r
 induction r generalizing i with
 |nil=>intro _ e; simp at e
 |non r ih=>
  intro nd e;cases i with
  |zero=>simp at e
  |succ i=>
   obtain⟨x,G,F1,h1,h2,h3,h4,h5⟩:=ih (i:=i) nd (by simpa using e)
   exact⟨x,G,F1,by simpa using h1,h2,.non h3,h4,h5⟩
 |@som x0 m0 G0 σ ρ F q r ih=>
  intro nd e;have h:=E4.mp nd;cases i with
  |zero=>
   simp at e; subst e;exact⟨_,G0,F,rfl,q,.non r,E4.mpr ⟨h.2.1,h.1,λa x b y e=>h.2.2 b y a x e.symm⟩,λa h=>by
    rcases lM h with h | h
    ·exact lR _ h
    ·exact lL _ h⟩
  |succ i=>
   obtain⟨x,G,F1,h1,h2,h3,h4,h5⟩:=ih (i:=i) h.2.1 (by simpa using e)
   refine⟨x,G,G0++F1,by simpa using h1,h2,.som q h3,?_,λa z=>?_⟩
   ·rw[Bi]
    exact E4.mpr ⟨h.1,h4,λa x b y e=>h.2.2 a x b (h5 b y) e⟩
   ·rw[Bi] at z
    rcases lM z with z | z
    ·exact lL _ z
    ·exact lR _ (h5 a z)
theorem aS.drop:∀{σ:L2.St}{ρ:Ev}{F:List Addr}(i:Nat),aS K H Z σ ρ F->F.Nodup->∃F1,aS K H Z σ (ρ.set i none) F1/\F1.Nodup/\∀a∈F1,a∈F:=by
 intro σ ρ F i r
 induction r generalizing i with
 |nil=>exact λnd=>⟨_,.nil,nd,λ_ h=>h⟩
 |non r ih=>
  intro nd;cases i with
  |zero=>exact⟨_,.non r,nd,λ_ h=>h⟩
  |succ i=>
   obtain⟨F1,h1,h2,h3⟩:=ih i nd;exact⟨F1,.non h1,h2,h3⟩
 |@som x0 m0 G0 σ ρ F q r ih=>
  intro nd;have h:=E4.mp nd;cases i with
  |zero=>exact⟨_,.non r,h.2.1,λ_ h=>lR _ h⟩
  |succ i=>
   obtain⟨F1,h1,h2,h3⟩:=ih i h.2.1;refine⟨G0++F1,.som q h1,E4.mpr ⟨h.1,h2,λa x b y e=>h.2.2 a x b (h3 b y) e⟩,λa z=>?_⟩
   rcases lM z with z | z
   ·exact lL _ z
   ·exact lR _ (h3 a z)
theorem aS.put:∀{σ:L2.St}{ρ:Ev}{F:List Addr}{i:Nat}{x:V}{m:M}{G:List Addr},aS K H Z σ ρ F->Ow K H Z x m G->(F++G).Nodup->ρ[i]? = some none ->
  ∃F1,aS K H Z (σ.set i (some x)) (ρ.set i (some m)) F1/\F1.Nodup/\∀a∈F1,a∈F++G:=by
 intro σ ρ F i x m G r h
 induction r generalizing i with
 |nil=>intro _ e; simp at e
 |@non _ σ ρ F r ih=>
  intro nd e;cases i with
  |zero=>
   have h':=E4.mp nd;exact⟨G++F,.som h r,E4.mpr ⟨h'.2.1,h'.1,λa x b y e=>h'.2.2 b y a x e.symm⟩,λa h=>by
    rcases lM h with h | h
    ·exact lR _ h
    ·exact lL _ h⟩
  |succ i=>
   obtain⟨F1,h1,h2,h3⟩:=ih (i:=i) nd (by simpa using e)
   exact⟨F1,.non h1,h2,h3⟩
 |@som x0 m0 G0 σ ρ F q r ih=>
  intro nd e;cases i with
  |zero=>simp at e
  |succ i=>
   rw[Bi] at nd;have h':=E4.mp nd;obtain⟨F1,h1,h2,h3⟩:=ih (i:=i) h'.2.1 (by simpa using e)
   refine⟨G0++F1,.som q h1,E4.mpr ⟨h'.1,h2,λa x b y e=>h'.2.2 a x b (h3 b y) e⟩,λa z=>?_⟩
   rw[Bi];rcases lM z with z | z
   ·exact lL _ z
   ·exact lR _ (h3 a z)
end
inductive cU where
 |t (m:M)
 |p (i:Nat)
 |q (i:Nat) (k:Key)
noncomputable def dm{α:Type}(kvs:List (Key×α))(k:Key):Option α:=(kvs.find? λkv=>decide (kv.1=k)).map (·.2)
noncomputable def cJ(ρ:Ev)(i:Nat):Option M:=match ρ[i]? with
 |some (some m)=>some m
 |_=>none
theorem aE{ρ:Ev}{i:Nat}{m:M}:cJ ρ i=some m↔ρ[i]? = some (some m):=by
 unfold cJ
 split
 ·next h=>rw[h]; simp
 ·next h=>
  exact⟨λe=>(nomatch e),λe=>(h m e).elim⟩
noncomputable def jc(ρ:Ev):cU->Option M
 |.t m=>some m
 |.p i=>cJ ρ i
 |.q _ _=>none
noncomputable def peek(ρ:Ev):cU->Option M
 |.t m=>some m
 |.p i=>cJ ρ i
 |.q i k=>match cJ ρ i with
  |some (.gq kvs)=>(dm kvs k).map .lst
  |_=>none
noncomputable def iy(ρ:Ev):List cU->Option (List M)
 |[]=>some []
 |o::os=>(peek ρ o).bind λm=>(iy ρ os).bind λms=>some (m::ms)
theorem dF{ρ:Ev}{o:cU}{m:M}(h:jc ρ o=some m):peek ρ o=some m:=by
 cases o with
 |t _=>exact h
 |p _=>exact h
 |q _ _=>cases h
inductive mH(K:AT)(H:Hp)(Z:Zs)(σ:L2.St):V->cU->List Addr->Prop
 |t {x:V} {m:M} {G:List Addr}:Ow K H Z x m G->mH K H Z σ x (.t m) G
 |p {x:V} {i:Nat}:σ[i]? = some (some x)->mH K H Z σ x (.p i) []
 |q {x:V} {i:Nat} {k:Key} {a:Addr} {kxs:List (Key×V)}:σ[i]? = some (some (.ref a))->H a=some (.dK kxs)->gh kxs k=some x->mH K H Z σ x (.q i k) []
inductive jd(K:AT)(H:Hp)(Z:Zs)(σ:L2.St):List V->List cU->List Addr->Prop
 |nil:jd K H Z σ [] [] []
 |cons {x:V} {o:cU} {G:List Addr} {xs:List V} {os:List cU} {G':List Addr}:mH K H Z σ x o G->jd K H Z σ xs os G'->jd K H Z σ (x::xs) (o::os) (G++G')
def Ro(K:AT)(H:Hp)(Z:Zs)(x:V)(m:M):Prop:=∃G,Ow K H Z x m G
def Dd(K:AT)(H:Hp)(Z:Zs):List V->List M->Prop:=HL (Ro K H Z)
section
variable{K:AT}{H H' H1 H2 H3:Hp}{Z Z' Z1 Z2 Z3:Zs}{F F' F1 F2 G:List Addr}{σ:L2.St}{ρ:Ev}
theorem kr.get:∀{kxs:List (Key×V)}{kvs:List (Key×List Ap)}{G:List Addr}{k:Key}{ds:List Ap},kr K H Z kxs kvs G->dm kvs k=some ds->∃b xs,gh kxs k=some (.ref b)/\H b=some (.lst xs)/\bu K H Z xs ds/\b∈G:=by
 intro kxs kvs G k ds h
 induction h with
 |nil=>intro e; cases e
 |@cons k' b xs ds' kxs kvs G h f r ih=>
  intro e;unfold dm at e;rw[Gm] at e;unfold gh;rw[Gm]
  by_cases hk:k'=k
  ·simp only[hk,decide_true,Ji] at e ⊢
   cases e;exact⟨b,_,rfl,h,f,lS⟩
  ·simp only[hk,decide_false] at e ⊢
   obtain⟨b',xs,h1,h2,h3,h4⟩:=ih e;exact⟨b',xs,h1,h2,h3,lO _ h4⟩
theorem mH.peek{x:V}{o:cU}{m:M}(S:aS K H Z σ ρ F)(h:mH K H Z σ x o G)(e:VL.peek ρ o=some m):Ro K H Z x m:=by
 cases h with
 |t q=>cases e; exact⟨_,q⟩
 |p q=>
  obtain⟨x',G',h1,h2,_⟩:=S.get (aE.mp e);rw[q] at h1; cases h1;exact⟨_,h2⟩
 |q h1 h2 h3=>
  rename_i i k a kxs
  have e:(match cJ ρ i with
   |some (.gq kvs)=>(dm kvs k).map M.lst
   |_=>none)=some m:=e
  split at e
  ·next kvs hk=>
   obtain⟨x',G',q1,q2,_⟩:=S.get (aE.mp hk);rw[h1] at q1; cases q1;obtain⟨ds,e1,e2⟩:=Go.mp e;subst e2;cases q2 with
   |gq q3 q4=>
    rw[h2] at q3; cases q3;obtain⟨b,xs,z1,z2,z3,_⟩:=q4.get e1;rw[h3] at z1; cases z1;exact⟨_,.lst z2 z3⟩
  ·cases e
theorem jd.peek:∀{xs:List V}{os:List cU}{ms:List M}{G:List Addr},aS K H Z σ ρ F->jd K H Z σ xs os G->iy ρ os=some ms->Dd K H Z xs ms:=by
 intro xs os ms G S h
 induction h generalizing ms with
 |nil=>intro e; cases e; exact .nil
 |cons h r ih=>
  intro e;obtain⟨m,h1,e⟩:=oB e;obtain⟨ms,h2,e⟩:=oB e;cases e;exact .cons (h.peek S h1) (ih h2)
theorem mH.al{x:V}{o:cU}(h:mH K H Z σ x o G):∀a∈G,H a≠none:=by
 cases h with
 |t q=>exact q.al
 |p _=>intro a h; simp at h
 |q _ _ _=>intro a h; simp at h
noncomputable def rK:cU->Bool
 |.q _ _=>false
 |_=>true
theorem dG{o:cU}{m:M}(h:jc ρ o=some m):rK o=true:=by
 cases o with
 |t _=>rfl
 |p _=>rfl
 |q _ _=>cases h
theorem mH.mono{x:V}{o:cU}(h:mH K H Z σ x o G)(hs:rK o=true)(g:aM H Z H' Z')(k:∀a∈G,∀o,H a=some o->H' a=some o):mH K H' Z' σ x o G:=by
 cases h with
 |t q=>exact .t (q.mono g k)
 |p q=>exact .p q
 |q _ _ _=>cases hs
theorem aF.news(n:aF H Z [] H' Z' G)(w:Wf H Z F)(al:∀a∈F,H a≠none):aF H Z F H' Z' (F++G):=by
 have h:=n.frame (F:=[]) (G:=F) (by rw[Fm]; exact w) al
 rw[Fm] at h;exact h.swap
theorem aF.tu(n:aF H Z [] H' Z' G):aM H Z H' Z':=⟨n.tups,λa o _ e=>n.keep a o Fg e,n.zs⟩
theorem aS.news(S:aS K H Z σ ρ F)(n:aF H Z [] H' Z' G):aS K H' Z' σ ρ F:=S.mono (n.tu) λa _ o e=>n.keep a o (Fg) e
theorem aF.through{F2:List Addr}(f1:aF H Z F H1 Z1 (F1++G))(f2:aF H1 Z1 F1 H2 Z2 F2)(al:∀a∈G,H1 a≠none):aF H Z F H2 Z2 (F2++G):=f1.trans (f2.frame f1.wf al)
theorem aF.qg{F2:List Addr}(f1:aF H Z F H1 Z1 (F1++G))(f2:aF H1 Z1 F1 H2 Z2 F2):∀a∈G,∀o,H1 a=some o->H2 a=some o:=λa h o e=>
 f2.keep a o (λz=>(E4.mp f1.nd).2.2 a z a h rfl) e
theorem aF.assoc'{A B C:List Addr}(f:aF H Z F H' Z' (A++(B++C))):aF H Z F H' Z' ((A++B)++C):=by rw[Bi]; exact f
theorem aF.B0{A B C:List Addr}(f:aF H Z F H' Z' ((A++B)++C)):aF H Z F H' Z' (A++(C++B)):=f.sub (by
  have h:=E4.mp f.nd;have h':=E4.mp h.1;refine E4.mpr ⟨h'.1,E4.mpr ⟨h.2.1,h'.2.1,λa x b y e=>h.2.2 b (lR _ y) a x e.symm⟩,λa x b y e=>?_⟩
  rcases lM y with y | y
  ·exact h.2.2 a (lL _ x) b y e
  ·exact h'.2.2 a x b y e) λa h=>by
  rcases lM h with h | h
  ·exact lL _ (lL _ h)
  rcases lM h with h | h
  ·exact lR _ h
  ·exact lL _ (lR _ h)
end
abbrev FE:=Ev->Option (cU×Ev)
abbrev FA:=Ev->Option (List cU×Ev)
abbrev FT:=Ev->Option (Bool×Ev)
inductive vE(K:AT)(f:FE)(σ:L2.St)(H:Hp)(Q:VK):Prop
 |mk (Z:Zs) (ρ:Ev) (F:List Addr) (o:cU) (ρ':Ev):aS K H Z σ ρ F->Wf H Z F->f ρ=some (o,ρ')->(∀x H' Z' F' G,aS K H' Z' σ ρ' F'->mH K H' Z' σ x o G->aF H Z F H' Z' (F'++G)->Q x H')->vE K f σ H Q
inductive vA(K:AT)(f:FA)(σ:L2.St)(H:Hp)(Q:List V->Hp->Prop):Prop
 |mk (Z:Zs) (ρ:Ev) (F:List Addr) (os:List cU) (ρ':Ev):aS K H Z σ ρ F->Wf H Z F->f ρ=some (os,ρ')->(∀xs H' Z' F' G,aS K H' Z' σ ρ' F'->jd K H' Z' σ xs os G->aF H Z F H' Z' (F'++G)->Q xs H')->vA K f σ H Q
inductive vT(K:AT)(f:FT)(σ:L2.St)(H:Hp)(Q:Bool->Hp->Prop):Prop
 |mk (Z:Zs) (ρ:Ev) (F:List Addr) (b:Bool) (ρ':Ev):aS K H Z σ ρ F->Wf H Z F->f ρ=some (b,ρ')->(∀H' Z' F',aS K H' Z' σ ρ' F'->aF H Z F H' Z' F'->Q b H')->vT K f σ H Q
section
variable{X:Cx}{e:Expr}
theorem bM{t t':TE}(h:PE X e t)(i:∀σ H Q,t' σ H Q->t σ H Q):PE X e t':=λpins s σ H Q I q=>h pins s σ H Q I (i σ H Q q)
theorem oK{t t':TT}(h:PT X e t)(i:∀σ H Q,t' σ H Q->t σ H Q):PT X e t':=λpins s σ H Q I q=>h pins s σ H Q I (i σ H Q q)
theorem B3{t t':TT}(h:PW X e t)(i:∀σ H Q,t' σ H Q->t σ H Q):PW X e t':=λwh pins s σ H Q I q=>h wh pins s σ H Q I (i σ H Q q)
theorem oM{es:List Expr}{t t':TA}(h:PA X es t)(i:∀σ H Q,t' σ H Q->t σ H Q):PA X es t':=λpos pins s σ H Q I q=>h pos pins s σ H Q I (i σ H Q q)
theorem rL{t u:TE}(h:PE X e t)(h':PE X e u):PE X e (λσ H Q=>t σ H Q\/u σ H Q):=λpins s σ H Q I q=>q.elim (h pins s σ H Q I) (h' pins s σ H Q I)
theorem oN{t u:TT}(h:PT X e t)(h':PT X e u):PT X e (λσ H Q=>t σ H Q\/u σ H Q):=λpins s σ H Q I q=>q.elim (h pins s σ H Q I) (h' pins s σ H Q I)
abbrev VE(X:Cx)(e:Expr)(f:FE):Prop:=PE X e (vE X.K f)
abbrev VA(X:Cx)(es:List Expr)(f:FA):Prop:=PA X es (vA X.K f)
abbrev VT(X:Cx)(e:Expr)(f:FT):Prop:=PT X e (vT X.K f)
abbrev VW(X:Cx)(e:Expr)(f:FT):Prop:=PW X e (vT X.K f)
noncomputable def aa(i:Nat):FE:=λρ=>match cJ ρ i with
 |some (.v d)=>some (.t (.v d),ρ)
 |some _=>some (.p i,ρ)
 |none=>none
theorem zq{i:Nat}(h:PE X e (fu i)):VE X e (aa i):=bM h λσ H Q hq=>by
 obtain⟨Z,ρ,F,o,ρ',S,w,e,q⟩:=hq;unfold aa at e;cases hm:cJ ρ i with
 |none=>rw[hm] at e; cases e
 |some m=>
  obtain⟨x,G,h1,h2,h3⟩:=S.get (aE.mp hm);refine⟨x,h1,?_⟩;cases m with
  |v d=>
   rw[hm] at e; cases e;cases h2 with
   |v f=>exact q x H Z F [] S (.t (.v f)) (aF.refl w).nil
  |lst _=>rw[hm] at e; cases e; exact q x H Z F [] S (.p h1) (aF.refl w).nil
  |bP _=>rw[hm] at e; cases e; exact q x H Z F [] S (.p h1) (aF.refl w).nil
  |gq _=>rw[hm] at e; cases e; exact q x H Z F [] S (.p h1) (aF.refl w).nil
  |dtp _=>rw[hm] at e; cases e; exact q x H Z F [] S (.p h1) (aF.refl w).nil
theorem vv(i:Nat){x:Str}{pos:Pos}(hN:X.N[i]? = some x:=by rfl)(hv:C5 X.env.scope x:=by first | exact Fx rfl | exact Hs (Fx rfl) | exact Hs (Hs rfl))(hd:(x == ("__debug__" : Str))=false:=by decide)
  (hcd:(x == ("__classdict__" : Str))=false:=by decide):VE X (.Name x pos) (aa i):=zq (vL hN hv hd hcd)
noncomputable def vC(d:Ap):FE:=λρ=>some (.t (.v d),ρ)
theorem ve_c{v:V}{d:Ap}(h:PE X e (tC v))(hd:∀H Z,Fz X.K H Z v d):VE X e (vC d):=bM h λσ H Q hq=>by
 obtain⟨Z,ρ,F,o,ρ',S,w,e,q⟩:=hq;cases e;exact q v H Z F [] S (.t (.v (hd H Z))) (aF.refl w).nil
theorem B4{i j pos}:VE X (.Constant (.int i) j pos) (vC (.int i)):=ve_c vM λ_ _=>.int i
theorem ve_bl{i j pos}:VE X (.Constant (.bool i) j pos) (vC (.bool i)):=ve_c pe_bl λ_ _=>.bl i
theorem B5{j pos}:VE X (.Constant .none j pos) (vC .none):=ve_c Bg λ_ _=>.non
def Dz(K:AT)(r:R2)(g:M->M->Option M):Prop:=∀H Z x y m1 m2 m Q,(∀a,Z a->H a≠none)->Ro K H Z x m1->Ro K H Z y m2->g m1 m2=some m->(∀z H' Z' G,Ow K H' Z' z m G->aF H Z [] H' Z' G->Q z H')->r x y H Q
noncomputable def vB(g:M->M->Option M)(fa fb:FE):FE:=λρ=>(fa ρ).bind λp=>(fb p.2).bind λq=>(jc q.2 p.1).bind λm1=>(peek q.2 q.1).bind λm2=>(g m1 m2).bind λm=>some (.t m,q.2)
theorem two{fa fb:FE}{g:M->M->Option M}{r:R2}{σ:L2.St}{H:Hp}{Q:VK}(hr:Dz X.K r g)(hq:vE X.K (vB g fa fb) σ H Q):AL r (vE X.K fa) (vE X.K fb) σ H Q:=by
 obtain⟨Z,ρ,F,o,ρ',S,w,e,q⟩:=hq;obtain⟨⟨o1,ρ1⟩,e1,e⟩:=oB e;obtain⟨⟨o2,ρ2⟩,e2,e⟩:=oB e;obtain⟨m1,e3,e⟩:=oB e;obtain⟨m2,e4,e⟩:=oB e;obtain⟨m,e5,e⟩:=oB e;cases e;refine⟨Z,ρ,F,o1,ρ1,S,w,e1,λx H1 Z1 F1 G1 S1 O1 f1=>⟨Z1,ρ1,F1,o2,ρ2,S1,f1.left.wf,e2,λy H2 Z2 F2 G2 S2 O2 f2=>?_⟩⟩
 have O1':=O1.mono (dG e3) (f2.grow f1.left.wf) (f1.qg f2);refine hr H2 Z2 x y m1 m2 m Q f2.za (O1'.peek S2 (dF e3)) (O2.peek S2 e4) e5 λz H3 Z3 G h3 n=>?_
 exact q z H3 Z3 F2 G (S2.news n) (.t h3) ((f1.left.trans f2.left).trans (n.news f2.left.wf S2.al))
theorem ve_op{op:Operator}{a b:Expr}{pos:Pos}{r:R2}{g:M->M->Option M}{fa fb:FE}(hr:Dz X.K r g)(ho:dN X (Gp op) r)(ha:VE X a fa)(hb:VE X b fb):VE X (.BinOp a op b pos) (vB g fa fb):=bM (pe_op ho ha hb) λ_ _ _=>two hr
theorem B6{op:CmpOp}{a b:Expr}{pos:Pos}{r:R2}{g:M->M->Option M}{fa fb:FE}(hr:Dz X.K r g)(ho:dN X (Fy op) r)(ha:VE X a fa)(hb:VE X b fb)(hm:GX op b=false):VE X (.Compare a [op] [b] pos) (vB g fa fb):=bM (nU ho ha hb hm) λ_ _ _=>two hr
noncomputable def vU(g:M->Option M)(fa:FE):FE:=λρ=>(fa ρ).bind λp=>(peek p.2 p.1).bind λm1=>(g m1).bind λm=>some (.t m,p.2)
noncomputable def je:FA:=λρ=>some ([],ρ)
noncomputable def af(fa:FE):FA:=λρ=>(fa ρ).bind λp=>some ([p.1],p.2)
noncomputable def ah(fa:FE)(fr:FA):FA:=λρ=>(fa ρ).bind λp=>(fr p.2).bind λq=>if rK p.1=true then some (p.1::q.1,q.2) else none
theorem B7:VA X [] je:=oM rq λσ H Q hq=>by
 obtain⟨Z,ρ,F,o,ρ',S,w,e,q⟩:=hq;cases e;exact q [] H Z F [] S .nil (aF.refl w).nil
theorem B8{a:Expr}{fa:FE}(ha:VE X a fa)(hs:E5 [a] X.env=[(false,eval a X.env)]:=by rfl):VA X [a] (af fa):=oM (nV ha rq hs) λσ H Q hq=>by
 obtain⟨Z,ρ,F,o,ρ',S,w,e,q⟩:=hq;obtain⟨⟨o1,ρ1⟩,e1,e⟩:=oB e;cases e;refine⟨Z,ρ,F,o1,ρ1,S,w,e1,λx H1 Z1 F1 G1 S1 O1 f1=>?_⟩
 exact q [x] H1 Z1 F1 (G1++[]) S1 (.cons O1 .nil) (by rw[E3]; exact f1)
theorem zv{a:Expr}{as:List Expr}{fa:FE}{fr:FA}(ha:VE X a fa)(hr:VA X as fr)(hs:E5 (a::as) X.env=(false,eval a X.env)::E5 as X.env:=by rfl):VA X (a::as) (ah fa fr):=oM (nV ha hr hs) λσ H Q hq=>by
 obtain⟨Z,ρ,F,o,ρ',S,w,e,q⟩:=hq;obtain⟨⟨o1,ρ1⟩,e1,e⟩:=oB e;obtain⟨⟨os,ρ2⟩,e2,e⟩:=oB e
 by_cases hs:rK o1=true
 ·rw[if_pos hs] at e
  cases e;refine⟨Z,ρ,F,o1,ρ1,S,w,e1,λx H1 Z1 F1 G1 S1 O1 f1=>⟨Z1,ρ1,F1,os,ρ2,S1,f1.left.wf,e2,λxs H2 Z2 F2 G2 S2 O2 f2=>?_⟩⟩
  exact q (x::xs) H2 Z2 F2 (G1++G2) S2 (.cons (O1.mono hs (f2.grow f1.left.wf) (f1.qg f2)) O2) (f1.through f2 O1.al).B0
 ·rw[if_neg hs] at e; cases e
def DH(K:AT)(r:List V->Hp->VK->Prop)(g:List M->Option M):Prop:=∀H Z xs ms m Q,(∀a,Z a->H a≠none)->Dd K H Z xs ms->g ms=some m->(∀z H' Z' G,Ow K H' Z' z m G->aF H Z [] H' Z' G->Q z H')->r xs H Q
noncomputable def bQ(g:List M->Option M)(fa:FA):FE:=λρ=>(fa ρ).bind λp=>(iy p.2 p.1).bind λms=>(g ms).bind λm=>some (.t m,p.2)
theorem many{fa:FA}{g:List M->Option M}{r:List V->Hp->VK->Prop}{σ:L2.St}{H:Hp}{Q:VK}(hr:DH X.K r g)(hq:vE X.K (bQ g fa) σ H Q):DS r (vA X.K fa) σ H Q:=by
 obtain⟨Z,ρ,F,o,ρ',S,w,e,q⟩:=hq;obtain⟨⟨os,ρ1⟩,e1,e⟩:=oB e;obtain⟨ms,e3,e⟩:=oB e;obtain⟨m,e5,e⟩:=oB e;cases e;refine⟨Z,ρ,F,os,ρ1,S,w,e1,λxs H1 Z1 F1 G1 S1 O1 f1=>?_⟩
 refine hr H1 Z1 xs ms m Q f1.za (O1.peek S1 e3) e5 λz H3 Z3 G h3 n=>?_
 exact q z H3 Z3 F1 G (S1.news n) (.t h3) (f1.left.trans (n.news f1.left.wf S1.al))
noncomputable def D3:M->Option Bool
 |.v (.bool b)=>some b
 |_=>none
noncomputable def cK(f:FE):FT:=λρ=>(f ρ).bind λp=>(peek p.2 p.1).bind λm=>(D3 m).bind λb=>some (b,p.2)
theorem D4{f:FE}{σ:L2.St}{H:Hp}{Q:Bool->Hp->Prop}(hq:vT X.K (cK f) σ H Q):vE X.K f σ H λx H1=>∃c,x=.bl c/\Q c H1:=by
 obtain⟨Z,ρ,F,b,ρ',S,w,e,q⟩:=hq;obtain⟨⟨o1,ρ1⟩,e1,e⟩:=oB e;obtain⟨m,e2,e⟩:=oB e;obtain⟨b',e3,e⟩:=oB e;cases e;refine⟨Z,ρ,F,o1,ρ1,S,w,e1,λx H1 Z1 F1 G1 S1 O1 f1=>?_⟩
 obtain⟨G,h⟩:=O1.peek S1 e2;cases h with
 |v f=>
  cases f with
  |bl c=>cases e3; exact⟨_,rfl,q H1 Z1 F1 S1 f1.left⟩
  |_=>cases e3
 |_=>cases e3
theorem B9{op:CmpOp}{a b:Expr}{pos:Pos}{r:R2}{g:M->M->Option M}{fa fb:FE}(hr:Dz X.K r g)(ho:dN X (Fy op) r)(ha:VE X a fa)(hb:VE X b fb)(hm:GX op b=false):VT X (.Compare a [op] [b] pos) (cK (vB g fa fb)):=by
 refine oK (iR ho ha hb hm) λσ H Q hq=>?_
 exact two hr (D4 hq)
noncomputable def uK(f g:FT):FT:=λρ=>(f ρ).bind λp=>if p.1=true then g p.2 else some (false,p.2)
theorem and_imp{f g:FT}{σ:L2.St}{H:Hp}{Q:Bool->Hp->Prop}(hq:vT X.K (uK f g) σ H Q):tAnd (vT X.K f) (vT X.K g) σ H Q:=by
 obtain⟨Z,ρ,F,b,ρ',S,w,e,q⟩:=hq;obtain⟨⟨o1,ρ1⟩,e1,e⟩:=oB e;refine⟨Z,ρ,F,o1,ρ1,S,w,e1,λH1 Z1 F1 S1 f1=>?_⟩
 cases o1 with
 |true=>exact⟨Z1,ρ1,F1,b,ρ',S1,f1.wf,e,λH2 Z2 F2 S2 f2=>q H2 Z2 F2 S2 (f1.trans f2)⟩
 |false=>cases e; exact q H1 Z1 F1 S1 f1
theorem zw{a:Expr}{pos:Pos}{f:FT}(h:VT X a f):VW X (.BoolOp .And [a] pos) f:=yF h
theorem Ca{a b:Expr}{rest:List Expr}{pos:Pos}{f g:FT}(h:VT X a f)(h':VW X (.BoolOp .And (b::rest) pos) g):VW X (.BoolOp .And (a::b::rest) pos) (uK f g):=B3 (Bj h h') λ_ _ _=>and_imp
noncomputable def AS(c:FT)(fa fb:FE):FE:=λρ=>(c ρ).bind λp=>if p.1=true then fa p.2 else fb p.2
theorem ve_if{c a b:Expr}{pos:Pos}{fc:FT}{fa fb:FE}(hc:VT X c fc)(ha:VE X a fa)(hb:VE X b fb):VE X (.IfExp c a b pos) (AS fc fa fb):=bM (vQ hc ha hb) λσ H Q hq=>by
 obtain⟨Z,ρ,F,o,ρ',S,w,e,q⟩:=hq;obtain⟨⟨b1,ρ1⟩,e1,e⟩:=oB e;refine⟨Z,ρ,F,b1,ρ1,S,w,e1,λH1 Z1 F1 S1 f1=>?_⟩
 cases b1 with
 |true=>exact iteT ⟨Z1,ρ1,F1,o,ρ',S1,f1.wf,e,λx H2 Z2 F2 G S2 O f2=>q x H2 Z2 F2 G S2 O (f1.trans f2)⟩
 |false=>exact iteF ⟨Z1,ρ1,F1,o,ρ',S1,f1.wf,e,λx H2 Z2 F2 G S2 O f2=>q x H2 Z2 F2 G S2 O (f1.trans f2)⟩
end
noncomputable def lim:Nat:=1000000
theorem gC{n:Nat}(h:n<=lim):n<=E6:=GE h (by decide)
theorem kZ{n:Nat}(h:n<=lim):n<E6:=KU h (by decide)
inductive rM(K:AT)(g:M->M->Option M)(x:V)(y:V)(H:Hp)(Q:VK):Prop
 |mk (Z:Zs) (m1 m2 m:M):(∀a,Z a->H a≠none)->Ro K H Z x m1->Ro K H Z y m2->g m1 m2=some m->(∀z H' Z' G,Ow K H' Z' z m G->aF H Z [] H' Z' G->Q z H')->rM K g x y H Q
theorem rM_v{K:AT}{g:M->M->Option M}:Dz K (rM K g) g:=λH Z x y m1 m2 m Q za h1 h2 e q=>⟨Z,m1,m2,m,za,h1,h2,e,q⟩
inductive pN(K:AT)(g:List M->Option M)(xs:List V)(H:Hp)(Q:VK):Prop
 |mk (Z:Zs) (ms:List M) (m:M):(∀a,Z a->H a≠none)->Dd K H Z xs ms->g ms=some m->(∀z H' Z' G,Ow K H' Z' z m G->aF H Z [] H' Z' G->Q z H')->pN K g xs H Q
theorem AU{K:AT}{g:List M->Option M}:DH K (pN K g) g:=λH Z xs ms m Q za h1 e q=>⟨Z,ms,m,za,h1,e,q⟩
section
variable{K:AT}{H H':Hp}{Z:Zs}{x:V}{Q:VK}
theorem Ro.fz{d:Ap}(h:Ro K H Z x (.v d)):Fz K H Z x d:=by
 obtain⟨G,h⟩:=h;cases h with
 |v f=>exact f
theorem Ro.int{i:Int}(h:Ro K H Z x (.v (.int i))):x=.int i:=h.fz.int_inv
theorem Ro.bl{i:Bool}(h:Ro K H Z x (.v (.bool i))):x=.bl i:=h.fz.rJ
theorem Ro.str{i:Str}(h:Ro K H Z x (.v (.str i))):x=.str i:=h.fz.str_inv
theorem Ro.lst{ds:List Ap}(h:Ro K H Z x (.lst ds)):∃a xs,x=.ref a/\H a=some (.lst xs)/\bu K H Z xs ds:=by
 obtain⟨G,h⟩:=h;cases h with
 |lst e f=>exact⟨_,_,rfl,e,f⟩
theorem Ro.bP{ds:List (Key×Ap)}(h:Ro K H Z x (.bP ds)):∃a xs,x=.ref a/\H a=some (.dK xs)/\gp K H Z xs ds:=by
 obtain⟨G,h⟩:=h;cases h with
 |bP e f=>exact⟨_,_,rfl,e,f⟩
theorem Ro.gq{ds:List (Key×List Ap)}(h:Ro K H Z x (.gq ds)):∃a xs G,x=.ref a/\H a=some (.dK xs)/\kr K H Z xs ds G:=by
 obtain⟨G,h⟩:=h;cases h with
 |gq e f=>exact⟨_,_,_,rfl,e,f⟩
theorem Ro.tup{ds:List Ap}(h:Ro K H Z x (.v (.tuple ds))):∃a xs,x=.ref a/\dR K H a xs/\bu K H Z xs ds:=h.fz.gT
noncomputable def jf:M->Option (List Ap)
 |.lst ds=>some ds
 |.v (.list ds)=>some ds
 |_=>none
noncomputable def rN:M->Option (List Ap)
 |.v (.tuple ds)=>some ds
 |_=>none
noncomputable def seq:M->Option (List Ap)
 |.lst ds=>some ds
 |.v (.list ds)=>some ds
 |.v (.tuple ds)=>some ds
 |_=>none
theorem Ro.jf{m:M}{ds:List Ap}(h:Ro K H Z x m)(e:VL.jf m=some ds):∃a xs,x=.ref a/\gg K H a xs/\bu K H Z xs ds:=by
 unfold VL.jf at e
 split at e
 ·cases e
  obtain⟨a,xs,e1,e2,e3⟩:=h.lst;exact⟨a,xs,e1,.of e2,e3⟩
 ·cases e
  obtain⟨a,xs,e1,e2,e3⟩:=h.fz.lst_inv;exact⟨a,xs,e1,e2,e3⟩
 ·cases e
theorem Ro.rN{m:M}{ds:List Ap}(h:Ro K H Z x m)(e:VL.rN m=some ds):∃a xs,x=.ref a/\dR K H a xs/\bu K H Z xs ds:=by
 unfold VL.rN at e
 split at e
 ·cases e
  exact h.tup
 ·cases e
theorem Ro.seq{m:M}{ds:List Ap}(h:Ro K H Z x m)(e:VL.seq m=some ds):∃a xs,x=.ref a/\(gg K H a xs\/dR K H a xs)/\bu K H Z xs ds:=by
 unfold VL.seq at e
 split at e
 ·cases e
  obtain⟨a,xs,e1,e2,e3⟩:=h.lst;exact⟨a,xs,e1,.inl (.of e2),e3⟩
 ·cases e
  obtain⟨a,xs,e1,e2,e3⟩:=h.fz.lst_inv;exact⟨a,xs,e1,.inl e2,e3⟩
 ·cases e
  obtain⟨a,xs,e1,e2,e3⟩:=h.tup;exact⟨a,xs,e1,.inr e2,e3⟩
 ·cases e
theorem aF.same(s:bB H H')(za:∀a,Z a->H a≠none):aF H Z [] H' Z []:=⟨λa o _ e=>s a o e,s.tups,λ_ h=>h,λ_ h=>.inl h,λ_ h=>(nomatch h),G7,λ_ h=>(nomatch h),λa z e=>za a z (s.free e)⟩
theorem aF.uL{p:Addr}{o:HO}(hp:H p=none)(za:∀a,Z a->H a≠none):aF H Z [] (upd H p o) Z [p]:=by
 have s:=dJ hp o;exact⟨λa o _ e=>s a o e,s.tups,λ_ h=>h,λ_ h=>.inl h,λa h=>.inr (by rw[Bn] at h; subst h; exact hp),Fb.mpr ⟨Fg,G7⟩,λa h z=>by rw[Bn] at h; subst h; exact za _ z hp,λa z e=>za a z (s.free e)⟩
theorem aM.same(s:bB H H'):aM H Z H' Z:=⟨s.tups,λa o _ e=>s a o e,λ_ h=>h⟩
theorem ck{z:V}{d:Ap}(q:∀z H' Z' G,Ow K H' Z' z (.v d) G->aF H Z [] H' Z' G->Q z H')(za:∀a,Z a->H a≠none)(h:Fz K H Z z d):Q z H:=q z H Z [] (.v h) (aF.same (bB.refl H) za)
theorem endS{z:V}{d:Ap}(q:∀z H' Z' G,Ow K H' Z' z (.v d) G->aF H Z [] H' Z' G->Q z H')(za:∀a,Z a->H a≠none)(s:bB H H')(h:Fz K H' Z z d):Q z H':=q z H' Z [] (.v h) (aF.same s za)
theorem endT{p:Addr}{xs:List V}{ds:List Ap}(q:∀z H' Z' G,Ow K H' Z' z (.v (.tuple ds)) G->aF H Z [] H' Z' G->Q z H')(za:∀a,Z a->H a≠none)(hp:H p=none)(h:bu K H Z xs ds):Q (.ref p) (upd H p (.tup xs)) :=
 endS q za (dJ hp _) (.tup (dR.of aT) (h.mono (aM.same (dJ hp _))))
theorem rO{p:Addr}{xs:List V}{ds:List Ap}(q:∀z H' Z' G,Ow K H' Z' z (.lst ds) G->aF H Z [] H' Z' G->Q z H')(za:∀a,Z a->H a≠none)(hp:H p=none)(h:bu K H Z xs ds):Q (.ref p) (upd H p (.lst xs)) :=
 q (.ref p) (upd H p (.lst xs)) Z [p] (.lst aT (h.mono (aM.same (dJ hp _)))) (aF.uL hp za)
theorem endD{p:Addr}{xs:List (Key×V)}{ds:List (Key×Ap)}(q:∀z H' Z' G,Ow K H' Z' z (.bP ds) G->aF H Z [] H' Z' G->Q z H')(za:∀a,Z a->H a≠none)(hp:H p=none)(h:gp K H Z xs ds):Q (.ref p) (upd H p (.dK xs)) :=
 q (.ref p) (upd H p (.dK xs)) Z [p] (.bP aT (h.mono (aM.same (dJ hp _)))) (aF.uL hp za)
end
noncomputable def cy:M->M->Option M
 |.v (.int i),.v (.int j)=>some (.v (.int (i+j)))
 |.v (.tuple a),.v (.tuple b)=>if a.length+b.length<=lim then some (.v (.tuple (a++b))) else none
 |.lst a,.lst b=>if a.length+b.length<=lim then some (.lst (a++b)) else none
 |.v (.str a),.v (.str b)=>if a.length+b.length<=lim then some (.v (.str (a++b))) else none
 |_,_=>none
noncomputable def j8(C:Int->Int->Bool)(g:Int->Int->Ap):M->M->Option M
 |.v (.int i),.v (.int j)=>if C i j=true then some (.v (g i j)) else none
 |_,_=>none
section
variable{X:Cx}
theorem cO:dN X (Gp .Add) (rM X.K cy):=by
 intro pins s σ H x y v u Q I rx ry h;obtain⟨Z,m1,m2,m,za,h1,h2,e,q⟩:=h;unfold cy at e
 split at e
 ·cases e
  obtain rfl:=h1.int; obtain rfl:=h2.int;exact Br pins s σ H _ _ v u Q I rx ry ⟨_,_,rfl,rfl,ck q za (.int _)⟩
 ·split at e
  ·next hl=>
   cases e;obtain⟨a,xs,rfl,e2,e3⟩:=h1.tup;obtain⟨b,ys,rfl,e5,e6⟩:=h2.tup;exact zo pins s σ H _ _ v u Q I rx ry ⟨a,b,xs,ys,rfl,rfl,e2,e5,gC (by rw[e3.length,e6.length]; exact hl),λr H' s' t=>endS q za s' (.tup t ((e3.append e6).mono (aM.same s')))⟩
  ·cases e
 ·split at e
  ·next hl=>
   cases e;obtain⟨a,xs,rfl,e2,e3⟩:=h1.lst;obtain⟨b,ys,rfl,e5,e6⟩:=h2.lst;exact BL pins s σ H _ _ v u Q I rx ry ⟨a,b,xs,ys,rfl,rfl,e2,e5,gC (by rw[e3.length,e6.length]; exact hl),λp hp=>rO q za hp (e3.append e6)⟩
  ·cases e
 ·split at e
  ·next hl=>
   cases e;obtain rfl:=h1.str; obtain rfl:=h2.str;exact rm pins s σ H _ _ v u Q I rx ry ⟨_,_,rfl,rfl,gC hl,ck q za (.str _)⟩
  ·cases e
 ·cases e
theorem lg{f:Value->Value->Sem Value}{C:Int->Int->Bool}{P:Int->Int->Prop}{g:Int->Int->Ap}{gv:Int->Int->V}(ho:dN X f (rI P gv))(hc:∀i j,C i j=true->P i j)(hg:∀H Z i j,Fz X.K H Z (gv i j) (g i j)):dN X f (rM X.K (j8 C g)):=by
 intro pins s σ H x y v u Q I rx ry h;obtain⟨Z,m1,m2,m,za,h1,h2,e,q⟩:=h;unfold j8 at e
 split at e
 ·split at e
  ·next hl=>
   cases e;obtain rfl:=h1.int; obtain rfl:=h2.int;exact ho pins s σ H _ _ v u Q I rx ry ⟨_,_,rfl,rfl,hc _ _ hl,ck q za (hg H Z _ _)⟩
  ·cases e
 ·cases e
theorem tw{f:Value->Value->Sem Value}{g:Int->Int->Ap}{gv:Int->Int->V}(ho:dN X f (AM gv))(hg:∀H Z i j,Fz X.K H Z (gv i j) (g i j)):dN X f (rM X.K (j8 (λ_ _=>true) g)):=by
 intro pins s σ H x y v u Q I rx ry h;obtain⟨Z,m1,m2,m,za,h1,h2,e,q⟩:=h;unfold j8 at e
 split at e
 ·split at e
  ·next hl=>
   cases e;obtain rfl:=h1.int; obtain rfl:=h2.int;exact ho pins s σ H _ _ v u Q I rx ry ⟨_,_,rfl,rfl,ck q za (hg H Z _ _)⟩
  ·cases e
 ·cases e
noncomputable def oO:=j8 (λ_ _=>true) λi j=>.int (i-j)
noncomputable def mulM:=j8 (λi j=>decide ((-(2 ^ 64)<i/\i<2 ^ 64)\/(-(2 ^ 64)<j/\j<2 ^ 64))) λi j=>.int (i*j)
noncomputable def qh:=j8 (λ_ j=>decide (0<j/\j<1073741824)) λi j=>.int (i / j)
noncomputable def jC:=j8 (λ_ j=>decide (0<j)) λi j=>.int (i % j)
noncomputable def jg:=j8 (λi j=>decide (0<=j/\(GG i:Int)*j<=2 ^ 27)) λi j=>.int (i ^ j.toNat)
theorem oQ:dN X (Gp .Sub) (rM X.K oO):=tw Bt λ_ _ _ _=>.int _
theorem eZ:dN X (Gp .Mult) (rM X.K mulM):=lg Bu (λi j h=>by have h:=of_decide_eq_true h; exact h) λ_ _ _ _=>.int _
theorem oR:dN X (Gp .FloorDiv) (rM X.K qh):=lg yM (λi j h=>by have h:=of_decide_eq_true h; exact h) λ_ _ _ _=>.int _
theorem gE:dN X (Gp .Mod) (rM X.K jC):=lg Bv (λ_ _ h=>of_decide_eq_true h) λ_ _ _ _=>.int _
theorem lu:dN X (Gp .Pow) (rM X.K jg):=lg zm (λ_ _ h=>of_decide_eq_true h) λ_ _ _ _=>.int _
noncomputable def AV:M->Option Ap
 |.v d=>some d
 |.lst ds=>some (.list ds)
 |_=>none
theorem Ro.reads{pins:List (Addr×Obj)}{σ:L2.St}{H:Hp}{s:B1}{Z:Zs}{x:V}{m:M}{d:Ap}{u:Value}(I:Inv X pins σ H s)(h:Ro X.K H Z x m)(e:AV m=some d)(c:d.canLay0=true)(r:RelV x u):∃as,Reads s.heap u d as:=by
 unfold AV at e
 split at e
 ·cases e; exact h.fz.reads I c r
 ·cases e
  obtain⟨a,xs,rfl,e2,e3⟩:=h.lst;cases r;obtain⟨its,rv,⟨o,n,ho,hc,hdd,hd⟩,_⟩:=I.list (gg.of e2);obtain⟨as,h⟩:=e3.reads I c rv;exact⟨_,.list ho hc hd (by simpa using h)⟩
 ·cases e
noncomputable def okEq(d e:Ap):Bool:=d.canLay0 && e.canLay0 && decide (min d.depth e.depth<=60)
noncomputable def rP(neg:Bool)(m1 m2:M):Option M:=(AV m1).bind λd=>(AV m2).bind λe=>if okEq d e=true then some (.v (.bool (if neg then !PyData.eqv d e else FM d e))) else none
theorem AW(hu:X.A.units+64<cLine):dN X (Fy .Eq) (rM X.K (rP false)):=by
 intro pins s σ H x y v u Q I rx ry h;obtain⟨Z,m1,m2,m,za,h1,h2,e,q⟩:=h;obtain⟨d,e1,e⟩:=oB e;obtain⟨d',e2,e⟩:=oB e
 split at e
 ·next ok=>
  cases e;unfold okEq at ok;simp only[Fk,decide_eq_true_eq] at ok;obtain⟨as,r1⟩:=h1.reads I e1 ok.1.1 rx;obtain⟨bs,r2⟩:=h2.reads I e2 ok.1.2 ry;exact SeqAt.compareEq_reads r1 r2 ok.1.1 ok.1.2 (by have:=ok.2; lia) ⟨.bl _,H,I,rfl,ck q za (.bl _)⟩
 ·cases e
theorem ov_ne(hu:X.A.units+64<cLine):dN X (Fy .NotEq) (rM X.K (rP true)):=by
 intro pins s σ H x y v u Q I rx ry h;obtain⟨Z,m1,m2,m,za,h1,h2,e,q⟩:=h;obtain⟨d,e1,e⟩:=oB e;obtain⟨d',e2,e⟩:=oB e
 split at e
 ·next ok=>
  cases e;unfold okEq at ok;simp only[Fk,decide_eq_true_eq] at ok;obtain⟨as,r1⟩:=h1.reads I e1 ok.1.1 rx;obtain⟨bs,r2⟩:=h2.reads I e2 ok.1.2 ry;exact SeqAt.compareNe_reads r1 r2 ok.1.1 ok.1.2 (by have:=ok.2; lia) ⟨.bl _,H,I,rfl,ck q za (.bl _)⟩
 ·cases e
noncomputable def EO:Ap->Option Int
 |.int i=>some i
 |_=>none
noncomputable def eO:List Ap->Option (List Int)
 |[]=>some []
 |d::ds=>(EO d).bind λi=>(eO ds).bind λis=>some (i::is)
theorem bV:∀{ds:List Ap}{is:List Int},eO ds=some is->ds=is.map .int:=by
 intro ds
 induction ds with
 |nil=>
  intro _ e;cases e; rfl
 |cons d ds ih=>
  intro _ e;obtain⟨i,e1,e⟩:=oB e;obtain⟨is,e2,e⟩:=oB e;cases e;rw[ih e2];cases d <;> cases e1
  rfl
theorem fG:∀(is:List Int),eO (is.map .int)=some is
 |[]=>rfl
 |i::is=>by show (some i).bind _=_; rw[Fi,fG is]; rfl
noncomputable def uM(gi:Int->Int->Bool)(gt:List Int->List Int->Bool):M->M->Option M
 |.v (.int i),.v (.int j)=>some (.v (.bool (gi i j)))
 |.v (.tuple a),.v (.tuple b)=>(eO a).bind λis=>(eO b).bind λjs=>some (.v (.bool (gt is js)))
 |_,_=>none
theorem ov_lt(hu:X.A.units+64<cLine):dN X (Fy .Lt) (rM X.K (uM (λi j=>decide (i<j)) HT.lexLt)):=by
 intro pins s σ H x y v u Q I rx ry h;obtain⟨Z,m1,m2,m,za,h1,h2,e,q⟩:=h;unfold uM at e
 split at e
 ·cases e
  obtain rfl:=h1.int; obtain rfl:=h2.int;exact op_lt pins s σ H _ _ v u Q I rx ry ⟨_,_,rfl,rfl,ck q za (.bl _)⟩
 ·obtain⟨is,e1,e⟩:=oB e
  obtain⟨js,e2,e⟩:=oB e;cases e;obtain⟨a,xs,rfl,t1,f1⟩:=h1.tup;obtain⟨b,ys,rfl,t2,f2⟩:=h2.tup;rw[bV e1] at f1;rw[bV e2] at f2;rw[f1.bU] at t1;rw[f2.bU] at t2;exact BF (by lia) pins s σ H _ _ v u Q I rx ry ⟨a,b,is,js,rfl,rfl,t1,t2,ck q za (.bl _)⟩
 ·cases e
theorem ov_ge(hu:X.A.units+64<cLine):dN X (Fy .GtE) (rM X.K (uM (λi j=>decide (j<=i)) λa b=> !HT.lexLt a b)):=by
 intro pins s σ H x y v u Q I rx ry h;obtain⟨Z,m1,m2,m,za,h1,h2,e,q⟩:=h;unfold uM at e
 split at e
 ·cases e
  obtain rfl:=h1.int; obtain rfl:=h2.int;exact op_ge pins s σ H _ _ v u Q I rx ry ⟨_,_,rfl,rfl,ck q za (.bl _)⟩
 ·obtain⟨is,e1,e⟩:=oB e
  obtain⟨js,e2,e⟩:=oB e;cases e;obtain⟨a,xs,rfl,t1,f1⟩:=h1.tup;obtain⟨b,ys,rfl,t2,f2⟩:=h2.tup;rw[bV e1] at f1;rw[bV e2] at f2;rw[f1.bU] at t1;rw[f2.bU] at t2;exact BZ (by lia) pins s σ H _ _ v u Q I rx ry ⟨a,b,is,js,rfl,rfl,t1,t2,ck q za (.bl _)⟩
 ·cases e
noncomputable def Cb:=j8 (λ_ _=>true) λi j=>.bool (decide (j<i))
noncomputable def D5:=uM (λi j=>decide (i<j)) HT.lexLt
noncomputable def DI:=uM (λi j=>decide (j<=i)) λa b=> !HT.lexLt a b
theorem AX:dN X (Fy .Gt) (rM X.K Cb):=tw op_gt λ_ _ _ _=>.bl _
noncomputable def isNone:M->Bool
 |.v .none=>true
 |_=>false
theorem Ro.isNone{K:AT}{H:Hp}{Z:Zs}{x:V}{m:M}(h:Ro K H Z x m):decide (x=.non)=VL.isNone m:=by
 obtain⟨G,h⟩:=h;cases h with
 |v f=>cases f <;> rfl
 |lst _ _=>rfl
 |bP _ _=>rfl
 |gq _ _=>rfl
 |dtp _ _ _=>rfl
noncomputable def oS(neg:Bool):M->M->Option M
 |m,.v .none=>some (.v (.bool (if neg then !isNone m else isNone m)))
 |.v (.bool a),.v (.bool b)=>if neg then some (.v (.bool (!(a == b)))) else none
 |_,_=>none
theorem ov_is:dN X (Fy .Is) (rM X.K (oS false)):=by
 intro pins s σ H x y v u Q I rx ry h;obtain⟨Z,m1,m2,m,za,h1,h2,e,q⟩:=h;unfold oS at e
 split at e
 ·cases e
  obtain rfl:=h2.fz.s9;exact Bw pins s σ H _ _ v u Q I rx ry ⟨rfl,by rw[h1.isNone]; exact ck q za (.bl _)⟩
 ·cases e
 ·cases e
noncomputable def okIn(ds:List Ap)(e:Ap):Bool:=EQ ds && e.canLay0 && decide (e.depth<=50)
noncomputable def DA(neg:Bool)(m1 m2:M):Option M:=(AV m1).bind λe=>(seq m2).bind λds=>if okIn ds e=true then some (.v (.bool (if neg then !(ds.any λd=>FM d e) else ds.any λd=>FM d e))) else none
theorem nu(neg:Bool)(hu:X.A.units+64<cLine){pins:List (Addr×Obj)}{s:B1}{σ:L2.St}{H:Hp}{x y:V}{v u:Value}{Q:VK}(I:Inv X pins σ H s)(rx:RelV x v)(ry:RelV y u)(h:rM X.K (DA neg) x y H Q) :
  ∃ (p:Addr) (its:List Value) (g:Value->Bool) (b:Bool),u=.ref p/\(PlainL s.heap p its.toArray\/s.heap.IsTuple p its.toArray)/\(∀y,y∈its.toArray->L1 X.A.in1 s y v (g y))/\its.toArray.any g=b/\EP X pins σ Q (.bool (if neg then !b else b)) s:=by
 obtain⟨Z,m1,m2,m,za,h1,h2,e,q⟩:=h;obtain⟨d,e1,e⟩:=oB e;obtain⟨ds,e2,e⟩:=oB e
 split at e
 ·next ok=>
  cases e;unfold okIn at ok;simp only[Fk,decide_eq_true_eq] at ok;obtain⟨bs,re⟩:=h1.reads I e1 ok.1.2 rx;obtain⟨a,xs,rfl,hq,f⟩:=h2.seq e2;cases ry;have fin:EP X pins σ Q (.bool (if neg then !(ds.any λd'=>FM d' d) else ds.any λd'=>FM d' d)) s:=⟨.bl _,H,I,rfl,ck q za (.bl _)⟩
  rcases hq with hq | hq
  ·obtain⟨its,r,pl,hz⟩:=I.list hq
   obtain⟨as,ra⟩:=f.reads I ok.1.1 r;refine⟨a,its,yC s.heap d,_,rfl,.inl pl,wQ (pins:=pins) (σ:=σ) (H:=H) hu ra re ok.1.1 ok.1.2 ok.2,rfl,?_⟩;rw[show its.toArray.any (yC s.heap d)=its.any (yC s.heap d) by simp,oJ ra ok.1.1]
   exact fin
  ·obtain⟨its,r,pl,hz⟩:=I.tuple hq
   obtain⟨as,ra⟩:=f.reads I ok.1.1 r;refine⟨a,its,yC s.heap d,_,rfl,.inr pl,wQ (pins:=pins) (σ:=σ) (H:=H) hu ra re ok.1.1 ok.1.2 ok.2,rfl,?_⟩;rw[show its.toArray.any (yC s.heap d)=its.any (yC s.heap d) by simp,oJ ra ok.1.1]
   exact fin
 ·cases e
theorem AY(hu:X.A.units+64<cLine):dN X (Fy .In) (rM X.K (DA false)):=by
 intro pins s σ H x y v u Q I rx ry h;obtain⟨p,its,g,b,rfl,hq,hg,e,fin⟩:=nu false hu I rx ry h;subst e;rcases hq with hq | hq
 ·exact SeqAt.in_listAt g hq.isList hg fin
 ·exact SeqAt.in_tupleAt g hq hg fin
theorem wW(hu:X.A.units+64<cLine):dN X (Fy .NotIn) (rM X.K (DA true)):=by
 intro pins s σ H x y v u Q I rx ry h;obtain⟨p,its,g,b,rfl,hq,hg,e,fin⟩:=nu true hu I rx ry h;subst e;rcases hq with hq | hq
 ·exact SeqAt.notIn_listAt g hq.isList hg fin
 ·exact SeqAt.notIn_tupleAt g hq hg fin
end
noncomputable def toD:M->Ap
 |.v d=>d
 |.lst ds=>.list ds
 |.bP kvs=>.dict (kvs.map λp=>(kY p.1,p.2))
 |.gq kvs=>.dict ((kvs.map λp=>(p.1,IL p.2)).map λp=>(kY p.1,p.2))
 |.dtp kvs=>.dict (kvs.map λp=>(.tuple (p.1.map kY),p.2))
noncomputable def cZ:cU->Ev->Option (Ap×Ev)
 |.t m,ρ=>some (toD m,ρ)
 |.p i,ρ=>(cJ ρ i).bind λm=>some (toD m,ρ.set i (some (.v (toD m))))
 |.q i k,ρ=>match cJ ρ i with
  |some (.gq kvs)=>(dm kvs k).bind λds=>some (.list ds,ρ.set i (some (.bP (kvs.map λp=>(p.1,IL p.2)))))
  |_=>none
noncomputable def dH:List cU->Ev->Option (List Ap×Ev)
 |[],ρ=>some ([],ρ)
 |o::os,ρ=>(cZ o ρ).bind λp=>(dH os p.2).bind λq=>some (p.1::q.1,q.2)
section
variable{K:AT}{H H0:Hp}{Z Z0:Zs}{F F0 G R:List Addr}{σ:L2.St}{ρ ρ':Ev}{x:V}{o:cU}{d:Ap}
theorem aM.more{G:List Addr}:aM H Z H (λa=>Z a\/a∈G):=⟨ef.refl,λ_ _ _ e=>e,λ_ z=>.inl z⟩
theorem kr.fz{Z':Zs}(g:aM H Z H Z'):∀{kxs:List (Key×V)}{kvs:List (Key×List Ap)}{G:List Addr},kr K H Z kxs kvs G->(∀a∈G,Z' a)->gp K H Z' kxs (kvs.map λp=>(p.1,IL p.2)):=by
 intro kxs kvs G h
 induction h with
 |nil=>exact λ_=>.nil
 |cons e f r ih=>exact λh=>.cons (.lst (.inl e) (h _ lS) (f.mono g)) (ih λa z=>h a (lO _ z))
theorem Ow.fz{m:M}{Z':Zs}(g:aM H Z H Z')(h:Ow K H Z x m G)(hz:∀a∈G,Z' a):Fz K H Z' x (toD m):=by
 cases h with
 |v f=>exact f.mono g
 |lst e f=>exact .lst (.inl e) (hz _ lS) (f.mono g)
 |bP e f=>exact .bP e (hz _ lS) (f.mono g)
 |gq e f=>exact .bP e (hz _ lS) (f.fz g λa z=>hz a (lO _ z))
 |dtp e n f=>exact .dtp e (hz _ lS) n (f.mono g)
theorem aF.give{A:List Addr}(f:aF H0 Z0 F0 H Z A)(hF:F.Nodup)(hs:∀a∈F,a∈A)(hG:∀a∈G,a∈A)(hd:∀a∈F,a∉G)(al:∀a∈G,H a≠none):aF H0 Z0 F0 H (λa=>Z a\/a∈G) F:=by
 refine⟨f.keep,f.tups,λa z=>.inl (f.zs a z),λa z=>?_,λa h=>f.fr a (hs a h),hF,λa h z=>?_,λa z=>?_⟩
 ·rcases z with z | z
  ·exact f.zn a z
  ·exact .inr (f.fr a (hG a z))
 ·rcases z with z | z
  ·exact f.dz a (hs a h) z
  ·exact hd a h z
 ·rcases z with z | z
  ·exact f.za a z
  ·exact al a z
theorem DJ{A B C:List Addr}(h:(A++B++C).Nodup):A.Nodup/\B.Nodup/\C.Nodup/\(∀a∈A,a∉B)/\(∀a∈A,a∉C)/\∀a∈B,a∉C:=by
 have h1:=E4.mp h;have h2:=E4.mp h1.1;exact⟨h2.1,h2.2.1,h1.2.1,λa x y=>h2.2.2 a x a y rfl,λa x y=>h1.2.2 a (lL _ x) a y rfl,λa x y=>h1.2.2 a (lR _ x) a y rfl⟩
theorem aP{A B:List Addr}(h1:A.Nodup)(h2:B.Nodup)(h:∀a∈A,a∉B):(A++B).Nodup:=E4.mpr ⟨h1,h2,λa x b y e=>h a x (e▸y)⟩
theorem gU{σ:L2.St}{i:Nat}{x:V}(q:σ[i]? = some (some x)):σ.set i (some x)=σ:=by
  refine Kb λj=>?_
  rw[IY]
  split
  · next hj=>subst hj; split
             · exact q.symm
             · next hh=>exact absurd (EY.mp q).1 hh
  · rfl
theorem freeze(S:aS K H Z σ ρ F)(h:mH K H Z σ x o G)(f:aF H0 Z0 F0 H Z (F++G++R))(e:cZ o ρ=some (d,ρ')):∃Z' F',aS K H Z' σ ρ' F'/\Fz K H Z' x d/\aF H0 Z0 F0 H Z' (F'++R)/\aM H Z H Z':=by
 obtain⟨n1,n2,n3,s1,s2,s3⟩:=DJ f.nd;cases h with
 |t q=>
  cases e;refine⟨λa=>Z a\/a∈G,F,S.mono aM.more λ_ _ _ e=>e,q.fz aM.more λa h=>.inr h,f.give (aP n1 n3 s2) (λa h=>?_) (λa h=>?_) (λa h z=>?_) q.al,aM.more⟩
  ·rcases lM h with h | h
   ·exact lL _ (lL _ h)
   ·exact lR _ h
  ·exact lL _ (lR _ h)
  ·rcases lM h with h | h
   ·exact s1 a h z
   ·exact s3 a z h
 |p q=>
  rename_i i
  obtain⟨m,e1,e⟩:=oB e;cases e;obtain⟨x',G',F1,h1,h2,h3,h4,h5⟩:=S.take n1 (aE.mp e1);rw[q] at h1; cases h1;have hl:=(EY.mp (aE.mp e1)).1;have k4:=E4.mp h4;have fz:=h2.fz (aM.more (G:=G')) λa h=>.inr h
  obtain⟨F2,p1,p2,p3⟩:=(h3.mono (aM.more (G:=G')) λ_ _ _ e=>e).put (i:=i) (Ow.v fz) (by rw[E3]; exact k4.1) (by rw[Gh hl])
  rw[E3] at p3;rw[Ka] at p1;rw[gU q] at p1;refine⟨_,F2,p1,fz,f.give (aP p2 n3 λa h=>s2 a (h5 a (lL _ (p3 a h)))) (λa h=>?_) (λa h=>?_) (λa h z=>?_) h2.al,aM.more⟩
  ·rcases lM h with h | h
   ·exact lL _ (lL _ (h5 a (lL _ (p3 a h))))
   ·exact lR _ h
  ·exact lL _ (lL _ (h5 a (lR _ h)))
  ·rcases lM h with h | h
   ·exact k4.2.2 a (p3 a h) a z rfl
   ·exact s2 a (h5 a (lR _ z)) h
 |q q1 q2 q3=>
  rename_i i k a0 kxs
  have e:(match cJ ρ i with
   |some (.gq kvs)=>(dm kvs k).bind λds=>some (IL ds,ρ.set i (some (M.bP (kvs.map λp=>(p.1,IL p.2)))))
   |_=>none)=some (d,ρ'):=e
  split at e
  ·next kvs hk=>
   obtain⟨ds,e1,e⟩:=oB e;cases e;obtain⟨x',G',F1,h1,h2,h3,h4,h5⟩:=S.take n1 (aE.mp hk);rw[q1] at h1; cases h1;have hl:=(EY.mp (aE.mp hk)).1;cases h2 with
   |gq e2 ol=>
    rename_i kxs' Gl
    rw[q2] at e2; cases e2;have k4:=E4.mp h4;have k5:=Fb.mp k4.2.1;have ow:Ow K H (λa=>Z a\/a∈Gl) (.ref a0) (.bP (kvs.map λp=>(p.1,IL p.2))) [a0]:=.bP q2 (ol.fz aM.more λa h=>.inr h)
    obtain⟨b,xs,z1,z2,z3,z4⟩:=ol.get e1;rw[q3] at z1; cases z1;obtain⟨F2,p1,p2,p3⟩:=(h3.mono (aM.more (G:=Gl)) λ_ _ _ e=>e).put (i:=i) ow (aP k4.1 (Fb.mpr ⟨Fg,G7⟩) λa h z=>k4.2.2 a h a0 lS (Bn.mp z)) (by rw[Gh hl])
    rw[Ka] at p1;rw[gU q1] at p1;have inF:∀a∈F2,a∈F:=λa h=>by
     rcases lM (p3 a h) with h | h
     ·exact h5 a (lL _ h)
     ·exact h5 a (lR _ (by rw[Bn.mp h]; exact lS))
    refine⟨_,F2,p1,.lst (.inl z2) (.inr z4) (z3.mono aM.more),f.give (aP p2 n3 λa h=>s2 a (inF a h)) (λa h=>?_) (λa h=>?_) (λa h z=>?_) (λa h e=>?_),aM.more⟩
    ·rcases lM h with h | h
     ·exact lL _ (lL _ (inF a h))
     ·exact lR _ h
    ·exact lL _ (lL _ (h5 a (lR _ (lO _ h))))
    ·rcases lM h with h | h
     ·rcases lM (p3 a h) with h | h
      ·exact k4.2.2 a h a (lO _ z) rfl
      ·rw[Bn.mp h] at z; exact k5.1 z
     ·exact s2 a (h5 a (lR _ (lO _ z))) h
    ·obtain⟨_,z',_⟩:=ol.mem a h; rw[z'] at e; cases e
  ·cases e
theorem mH.wX{Z':Zs}(g:aM H Z H Z')(h:mH K H Z σ x o G):mH K H Z' σ x o G:=by
 cases h with
 |t q=>exact .t (q.mono g λ_ _ _ e=>e)
 |p q=>exact .p q
 |q a b c=>exact .q a b c
theorem jd.wX{Z Z':Zs}(g:aM H Z H Z'):∀{os:List cU}{xs:List V}{G:List Addr},jd K H Z σ xs os G->jd K H Z' σ xs os G:=by
 intro os xs G h
 induction h with
 |nil=>exact .nil
 |cons h r ih=>exact .cons (h.wX g) ih
theorem oU:∀{os:List cU}{xs:List V}{ds:List Ap}{Z:Zs}{ρ ρ':Ev}{F G:List Addr},aS K H Z σ ρ F->jd K H Z σ xs os G->aF H0 Z0 F0 H Z (F++G)->dH os ρ=some (ds,ρ')->∃Z' F',aS K H Z' σ ρ' F'/\bu K H Z' xs ds/\aF H0 Z0 F0 H Z' F'/\aM H Z H Z':=by
 intro os
 induction os with
 |nil=>
  intro xs ds Z ρ ρ' F G S h f e;cases h;cases e; exact⟨_,_,S,.nil,(by rw[E3] at f; exact f),aM.refl⟩
 |cons o os ih=>
  intro xs ds Z ρ ρ' F G S h f e;cases h with | cons h r=>
  obtain⟨⟨d,ρ1⟩,e1,e⟩:=oB e;obtain⟨⟨ds,ρ2⟩,e2,e⟩:=oB e;cases e;obtain⟨Z1,F1,S1,z1,f1,g1⟩:=freeze S h f.assoc' e1;obtain⟨Z2,F2,S2,z2,f2,g2⟩:=ih S1 (r.wX g1) f1 e2;exact⟨Z2,F2,S2,.cons (z1.mono g2) z2,f2,g1.trans g2⟩
theorem gV(S:aS K H Z σ ρ F)(h:mH K H Z σ x o G)(f:aF H0 Z0 F0 H Z (F++G))(e:cZ o ρ=some (d,ρ')):∃Z' F',aS K H Z' σ ρ' F'/\Fz K H Z' x d/\aF H0 Z0 F0 H Z' F'/\aM H Z H Z':=by
 obtain⟨Z',F',h1,h2,h3,h4⟩:=freeze (R:=[]) S h (by rw[E3]; exact f) e
 rw[E3] at h3;exact⟨Z',F',h1,h2,h3,h4⟩
end
section
variable{X:Cx}{pos:Pos}
noncomputable def cz(fa:FA):FE:=λρ=>(fa ρ).bind λp=>(dH p.1 p.2).bind λq=>if q.1.length<=lim then some (.t (.v (.tuple q.1)),q.2) else none
noncomputable def eT(fa:FA):FE:=λρ=>(fa ρ).bind λp=>(dH p.1 p.2).bind λq=>if q.1.length<=lim then some (.t (.lst q.1),q.2) else none
theorem Cc{es:List Expr}{k:Nat}{fa:FA}(h:VA X es fa):VE X (.Tuple es k pos) (cz fa):=bM (By h) λσ H Q hq=>by
 obtain⟨Z,ρ,F,o,ρ',S,w,e,q⟩:=hq;obtain⟨⟨os,ρ1⟩,e1,e⟩:=oB e;obtain⟨⟨ds,ρ2⟩,e2,e⟩:=oB e
 split at e
 ·next hl=>
  cases e;refine⟨Z,ρ,F,os,ρ1,S,w,e1,λxs H1 Z1 F1 G1 S1 O1 f1=>?_⟩
  obtain⟨Z2,F2,S2,z2,f2,g2⟩:=oU S1 O1 f1 e2;refine⟨gC (by rw[z2.length]; exact hl),λp hp=>?_⟩
  have n:=aF.same (dJ hp (.tup xs)) f2.za;exact q (.ref p) _ Z2 F2 [] (S2.news n) (.t (.v (.tup (dR.of aT) (z2.mono n.tu)))) (f2.trans (n.news f2.wf S2.al))
 ·cases e
theorem Cd{es:List Expr}{fa:FA}(h:VA X es fa):VE X (.List es pos) (eT fa):=bM (BA h) λσ H Q hq=>by
 obtain⟨Z,ρ,F,o,ρ',S,w,e,q⟩:=hq;obtain⟨⟨os,ρ1⟩,e1,e⟩:=oB e;obtain⟨⟨ds,ρ2⟩,e2,e⟩:=oB e
 split at e
 ·next hl=>
  cases e;refine⟨Z,ρ,F,os,ρ1,S,w,e1,λxs H1 Z1 F1 G1 S1 O1 f1=>?_⟩
  obtain⟨Z2,F2,S2,z2,f2,g2⟩:=oU S1 O1 f1 e2;refine⟨gC (by rw[z2.length]; exact hl),λp hp=>?_⟩
  have n:=aF.uL (o:=.lst xs) hp f2.za;exact q (.ref p) _ Z2 F2 [p] (S2.news n) (.t (.lst aT (z2.mono n.tu))) (f2.trans (n.news f2.wf S2.al))
 ·cases e
noncomputable def fR:Ap->Option Key
 |.int i=>some (.inl i)
 |.str s=>some (.inr s)
 |_=>none
noncomputable def nv:List (Ap×Ap)->Option (List (Key×Ap))
 |[]=>some []
 |p::ps=>(fR p.1).bind λk=>(nv ps).bind λr=>some ((k,p.2)::r)
noncomputable def getM:M->M->Option M
 |.bP kvs,.v k=>(fR k).bind λk=>(dm kvs k).bind λd=>some (.v d)
 |.v (.dict ps),.v k=>(nv ps).bind λkvs=>(fR k).bind λk=>(dm kvs k).bind λd=>some (.v d)
 |.v (.str z),.v (.int i)=>if z.length<=lim then (mV z.cps.toList i).bind λc=>some (.v (.str ⟨#[c]⟩)) else none
 |m,.v (.int i)=>(seq m).bind λds=>(mV ds i).bind λd=>some (.v d)
 |_,_=>none
noncomputable def DK:cU->M->Ev->Option (cU×Ev)
 |.t m1,m2,ρ=>(getM m1 m2).bind λm=>some (.t m,ρ)
 |.p i,m2,ρ=>(cJ ρ i).bind λm1=>match m1,m2 with
  |.gq kvs,.v k=>(fR k).bind λk=>(dm kvs k).bind λ_=>some (.q i k,ρ)
  |m1,m2=>(getM m1 m2).bind λm=>some (.t m,ρ)
 |.q _ _,_,_=>none
noncomputable def cH(fa fb:FE):FE:=λρ=>(fa ρ).bind λp=>(fb p.2).bind λq=>(peek q.2 q.1).bind λm2=>DK p.1 m2 q.2
theorem oV{K:AT}{H:Hp}{Z:Zs}:∀{kxs:List (Key×V)}{kvs:List (Key×Ap)}{k:Key},gp K H Z kxs kvs->(dm kvs k=none->gh kxs k=none)/\∀d,dm kvs k=some d->∃x,gh kxs k=some x/\Fz K H Z x d:=by
 intro kxs
 induction kxs with
 |nil=>intro kvs k h; cases h; exact⟨λ_=>rfl,λ_ e=>(nomatch e)⟩
 |cons p kxs ih0=>
  intro kvs k h;cases h with | @cons k' _ _ _ _ h r=>
  have ih:=ih0 (k:=k) r;unfold dm;rw[Gm]
  by_cases hk:k'=k
  ·subst hk
   simp only[decide_true,Ji];rw[gx rfl];exact⟨λe=>(nomatch e),λd e=>⟨_,rfl,by cases e; exact h⟩⟩
  ·simp only[hk,decide_false]
   rw[gy hk];exact ih
theorem fS{K:AT}{H:Hp}{Z:Zs}{x:V}{d:Ap}{k:Key}(h:Fz K H Z x d)(e:fR d=some k):x=kV k:=by
 cases h <;> cases e <;> rfl
theorem Ce:∀(k:Key),fR (kY k)=some k
 |.inl _=>rfl
 |.inr _=>rfl
theorem ly:∀(ds:List (Key×Ap)),nv (ds.map λp=>(kY p.1,p.2))=some ds
 |[]=>rfl
 |p::ds=>by
  show (fR (kY p.1)).bind (λk=>(nv (ds.map λp=>(kY p.1,p.2))).bind λr=>some ((k,p.2)::r))=_
  rw[Ce,ly ds];rfl
theorem Fz.wY{K:AT}{H:Hp}{Z:Zs}{x:V}{ps:List (Ap×Ap)}{kvs:List (Key×Ap)}(h:Fz K H Z x (.dict ps))(e:nv ps=some kvs)(ne:kvs≠[]):∃a kxs,x=.ref a/\H a=some (.dK kxs)/\gp K H Z kxs kvs:=by
 cases h with
 |bP ha _ f=>
  rw[ly] at e;cases e;exact⟨_,_,rfl,ha,f⟩
 |@dtp _ _ ds ha _ en f=>
  cases ds with
  |nil=>cases e; exact absurd rfl ne
  |cons p ds=>cases e
theorem Cf{K:AT}{H:Hp}{Z:Zs}{xs:List V}{ds:List Ap}{i:Int}{d:Ap}(r:bu K H Z xs ds)(e:mV ds i=some d):∃x,mV xs i=some x/\Fz K H Z x d:=by
 unfold mV at e ⊢;rw[r.length];obtain⟨j,e1,e2⟩:=oB e;obtain⟨x,h1,h2⟩:=r.get' e2;exact⟨x,by rw[e1,Fi]; exact h1,h2⟩
theorem ve_ix{a b:Expr}{fa fb:FE}(hu:X.A.units+64<cLine)(ha:VE X a fa)(hb:VE X b fb)(hs:nX b):VE X (.Subscript a b pos) (cH fa fb):=by
 refine bM (rL (pe_ix BI ha hb hs) (zb (by lia) ha hb hs)) λσ H Q hq=>?_
 obtain⟨Z,ρ,F,o,ρ',S,w,e,q⟩:=hq;obtain⟨⟨o1,ρ1⟩,e1,e⟩:=oB e;obtain⟨⟨o2,ρ2⟩,e2,e⟩:=oB e;obtain⟨m2,e3,e⟩:=oB e;have gen:∀m1 m,jc ρ2 o1=some m1->getM m1 m2=some m->o=.t m->ρ'=ρ2->AL (Ei X.K) (vE X.K fa) (vE X.K fb) σ H Q\/AR (vE X.K fa) (vE X.K fb) σ H Q:=λm1 m e4 e5 eo er=>by
  subst eo; subst er;have two':∀R:V->V->Hp->Prop,(∀H2 Z2 x y,(∀a,Z2 a->H2 a≠none)->Ro X.K H2 Z2 x m1->Ro X.K H2 Z2 y m2->(∀z H3 Z3 G,Ow X.K H3 Z3 z m G->aF H2 Z2 [] H3 Z3 G->Q z H3)->R x y H2) ->
    vE X.K fa σ H λx H1=>vE X.K fb σ H1 λy H2=>R x y H2:=λR hR=>by
   refine⟨Z,ρ,F,o1,ρ1,S,w,e1,λx H1 Z1 F1 G1 S1 O1 f1=>⟨Z1,ρ1,F1,o2,ρ',S1,f1.left.wf,e2,λy H2 Z2 F2 G2 S2 O2 f2=>?_⟩⟩
   have O1':=O1.mono (dG e4) (f2.grow f1.left.wf) (f1.qg f2);exact hR H2 Z2 x y f2.za (O1'.peek S2 (dF e4)) (O2.peek S2 e3) λz H3 Z3 G h3 n=>q z H3 Z3 F2 G (S2.news n) (.t h3) ((f1.left.trans f2.left).trans (n.news f2.left.wf S2.al))
  clear q e e3
  unfold getM at e5
  split at e5
  ·rename_i kvs k
   obtain⟨k',e6,e5⟩:=oB e5;obtain⟨d,e7,e5⟩:=oB e5;cases e5;refine .inr (two' _ λH2 Z2 x y za h1 h2 fin=>?_)
   obtain⟨a',kxs,rfl,he,fk⟩:=h1.bP;obtain⟨v,hv,fv⟩:=(oV fk).2 d e7;obtain rfl:=fS h2.fz e6;exact⟨a',v,rfl,hv▸iF.k he,ck fin za fv⟩
  ·rename_i ps k
   obtain⟨kvs,e8,e5⟩:=oB e5;obtain⟨k',e6,e5⟩:=oB e5;obtain⟨d,e7,e5⟩:=oB e5;cases e5;refine .inr (two' _ λH2 Z2 x y za h1 h2 fin=>?_)
   obtain⟨a',kxs,rfl,he,fk⟩:=h1.fz.wY e8 λz=>by rw[z] at e7; cases e7
   obtain⟨v,hv,fv⟩:=(oV fk).2 d e7;obtain rfl:=fS h2.fz e6;exact⟨a',v,rfl,hv▸iF.k he,ck fin za fv⟩
  ·rename_i z i
   split at e5
   ·rename_i hl
    obtain⟨c,e7,e5⟩:=oB e5;cases e5;refine .inl (two' _ λH2 Z2 x y za h1 h2 fin=>?_)
    obtain rfl:=h1.str;obtain rfl:=h2.int;exact .inr (.inr ⟨_,_,c,rfl,rfl,gC hl,e7,ck fin za (.str _)⟩)
   ·cases e5
  ·obtain⟨ds,e6,e5⟩:=oB e5
   obtain⟨d,e7,e5⟩:=oB e5;cases e5;refine .inl (two' _ λH2 Z2 x y za h1 h2 fin=>?_)
   obtain⟨a',xs,rfl,hq,fs⟩:=h1.seq e6;obtain rfl:=h2.int;obtain⟨v,hv,fv⟩:=Cf fs e7;rcases hq with hq | hq
   ·exact .inl ⟨a',xs,_,v,rfl,rfl,hq,hv,ck fin za fv⟩
   ·exact .inr (.inl ⟨a',xs,_,v,rfl,rfl,hq,hv,ck fin za fv⟩)
  ·cases e5
 cases o1 with
 |t m1=>
  obtain⟨m,e5,e⟩:=oB e
  injection e with e
  injection e with ea eb
  exact gen m1 m rfl e5 ea.symm eb.symm
 |q _ _=>cases e
 |p i=>
  obtain⟨m1,e4,e⟩:=oB e
  split at e
  ·rename_i kvs k
   obtain⟨k',e6,e⟩:=oB e;obtain⟨ds,e7,e⟩:=oB e
   injection e with e
   injection e with ea eb
   subst ea; subst eb;refine .inr ⟨Z,ρ,F,.p i,ρ1,S,w,e1,λx H1 Z1 F1 G1 S1 O1 f1=>⟨Z1,ρ1,F1,o2,_,S1,f1.left.wf,e2,λy H2 Z2 F2 G2 S2 O2 f2=>?_⟩⟩
   cases O1 with
   |p hx=>
    obtain⟨x',G',h1,h2,_⟩:=S2.get (aE.mp e4);rw[hx] at h1; cases h1;cases h2 with
    |gq he ol=>
     obtain⟨b,xs,z1,z2,z3,z4⟩:=ol.get e7;have O2':=O2.peek S2 e3;obtain rfl:=fS O2'.fz e6;exact⟨_,.ref b,rfl,z1▸iF.k he,q (.ref b) H2 Z2 F2 [] S2 (.q hx he z1) (f1.left.trans f2.left).nil⟩
  ·obtain⟨m,e5,e⟩:=oB e
   injection e with e
   injection e with ea eb
   exact gen _ m e4 e5 ea.symm eb.symm
end
section
variable{X:Cx}{pos:Pos}
theorem zx{fa fb:FE}{g:M->M->Option M}{σ:L2.St}{H:Hp}{Q:VK}(hq:vE X.K (vB g fa fb) σ H Q) :
  ∃m1 m2 m,g m1 m2=some m/\∀R:V->V->Hp->Prop,(∀H2 Z2 x y,(∀a,Z2 a->H2 a≠none)->Ro X.K H2 Z2 x m1->Ro X.K H2 Z2 y m2->(∀z H3 Z3 G,Ow X.K H3 Z3 z m G->aF H2 Z2 [] H3 Z3 G->Q z H3)->R x y H2) ->
   vE X.K fa σ H λx H1=>vE X.K fb σ H1 λy H2=>R x y H2:=by
 obtain⟨Z,ρ,F,o,ρ',S,w,e,q⟩:=hq;obtain⟨⟨o1,ρ1⟩,e1,e⟩:=oB e;obtain⟨⟨o2,ρ2⟩,e2,e⟩:=oB e;obtain⟨m1,e3,e⟩:=oB e;obtain⟨m2,e4,e⟩:=oB e;obtain⟨m,e5,e⟩:=oB e;cases e;refine⟨m1,m2,m,e5,λR hR=>⟨Z,ρ,F,o1,ρ1,S,w,e1,λx H1 Z1 F1 G1 S1 O1 f1=>⟨Z1,ρ1,F1,o2,ρ2,S1,f1.left.wf,e2,λy H2 Z2 F2 G2 S2 O2 f2=>?_⟩⟩⟩
 have O1':=O1.mono (dG e3) (f2.grow f1.left.wf) (f1.qg f2);exact hR H2 Z2 x y f2.za (O1'.peek S2 (dF e3)) (O2.peek S2 e4) λz H3 Z3 G h3 n=>q z H3 Z3 F2 G (S2.news n) (.t h3) ((f1.left.trans f2.left).trans (n.news f2.left.wf S2.al))
noncomputable def pO(neg:Bool):M->M->Option M
 |.v k,.bP kvs=>(fR k).bind λk=>some (.v (.bool (if neg then !(dm kvs k).isSome else (dm kvs k).isSome)))
 |.v k,.gq kvs=>(fR k).bind λk=>some (.v (.bool (if neg then !(dm kvs k).isSome else (dm kvs k).isSome)))
 |.v (.str i),.v (.str j)=>some (.v (.bool (if neg then !(!(HA j i 0 j.length 1).isEmpty) else !(HA j i 0 j.length 1).isEmpty)))
 |m1,m2=>DA neg m1 m2
theorem wZ{K:AT}{H:Hp}{Z:Zs}:∀{kxs:List (Key×V)}{kvs:List (Key×List Ap)}{G:List Addr}{k:Key},kr K H Z kxs kvs G->(gh kxs k).isSome=(dm kvs k).isSome:=by
 intro kxs kvs G k h
 induction h with
 |nil=>rfl
 |@cons k' _ _ _ _ _ _ h f r ih=>
  unfold dm;rw[Gm]
  by_cases hk:k'=k
  ·subst hk
   simp only[decide_true,Ji];rw[gx rfl];rfl
  ·simp only[hk,decide_false]
   rw[gy hk];exact ih
theorem uN{K:AT}{H:Hp}{Z:Zs}{kxs:List (Key×V)}{kvs:List (Key×Ap)}{k:Key}(h:gp K H Z kxs kvs):(gh kxs k).isSome=(dm kvs k).isSome:=by
 obtain⟨h1,h2⟩:=oV (k:=k) h;cases e:dm kvs k with
 |none=>rw[h1 e]; rfl
 |some d=>obtain⟨x,h3,_⟩:=h2 d e; rw[h3]; rfl
theorem w5{neg:Bool}{fa fb:FE}{σ:L2.St}{H:Hp}{Q:VK}{rs:R2}(hrs:rs=λx y H Q=>∃i j,x=.str i/\y=.str j/\Q (.bl (if neg then !(!(HA j i 0 j.length 1).isEmpty) else !(HA j i 0 j.length 1).isEmpty)) H)(hq:vE X.K (vB (pO neg) fa fb) σ H Q) :
  (AL (rM X.K (DA neg)) (vE X.K fa) (vE X.K fb) σ H Q\/AL rs (vE X.K fa) (vE X.K fb) σ H Q)\/(λσ H Q=>vE X.K fa σ H λy H1=>vE X.K fb σ H1 λx H2=>∃a o,x=.ref a/\iF H2 a y o/\Q (.bl (if neg then !o.isSome else o.isSome)) H2:TE) σ H Q:=by
 obtain⟨m1,m2,m,e,h⟩:=zx hq;unfold pO at e
 split at e
 ·obtain⟨k,e1,e⟩:=oB e
  cases e;refine .inr (h _ λH2 Z2 x y za h1 h2 fin=>?_)
  obtain⟨a,kxs,rfl,he,fk⟩:=h2.bP;obtain rfl:=fS h1.fz e1;refine⟨a,_,rfl,iF.k he,?_⟩;rw[uN fk];exact ck fin za (.bl _)
 ·obtain⟨k,e1,e⟩:=oB e
  cases e;refine .inr (h _ λH2 Z2 x y za h1 h2 fin=>?_)
  obtain⟨a,kxs,G,rfl,he,fk⟩:=h2.gq;obtain rfl:=fS h1.fz e1;refine⟨a,_,rfl,iF.k he,?_⟩;rw[wZ fk];exact ck fin za (.bl _)
 ·cases e
  refine .inl (.inr (h _ λH2 Z2 x y za h1 h2 fin=>?_))
  obtain rfl:=h1.str; obtain rfl:=h2.str;rw[hrs];exact⟨_,_,rfl,rfl,ck fin za (.bl _)⟩
 ·exact .inl (.inl (h _ λH2 Z2 x y za h1 h2 fin=>⟨Z2,_,_,_,za,h1,h2,e,fin⟩))
theorem ve_in{a b:Expr}{fa fb:FE}(hu:X.A.units+64<cLine)(ha:VE X a fa)(hb:VE X b fb)(hm:GX .In b=false:=by rfl):VE X (.Compare a [.In] [b] pos) (vB (pO false) fa fb) :=
 bM (rL (rL (nU (AY hu) ha hb hm) (nU mP ha hb hm)) (Bh (wz (by lia) ha hb) hm)) λ_ _ _ hq=>w5 rfl hq
theorem vt_in{a b:Expr}{fa fb:FE}(hu:X.A.units+64<cLine)(ha:VE X a fa)(hb:VE X b fb)(hm:GX .In b=false:=by rfl):VT X (.Compare a [.In] [b] pos) (cK (vB (pO false) fa fb)) :=
 oK (oN (oN (iR (AY hu) ha hb hm) (iR mP ha hb hm)) (vP (wz (by lia) ha hb) hm)) λ_ _ _ hq=>w5 rfl (D4 hq)
theorem w6{a b:Expr}{fa fb:FE}(hu:X.A.units+64<cLine)(ha:VE X a fa)(hb:VE X b fb)(hm:GX .NotIn b=false:=by rfl):VT X (.Compare a [.NotIn] [b] pos) (cK (vB (pO true) fa fb)) :=
 oK (oN (oN (iR (wW hu) ha hb hm) (iR nT ha hb hm)) (vP (uA (by lia) ha hb) hm)) λ_ _ _ hq=>w5 rfl (D4 hq)
noncomputable def qi:M->Option Bool
 |.v .none=>some false
 |.v (.bool b)=>some b
 |.v (.int i)=>some (i != 0)
 |.v (.str y)=>if y.length<=lim then some ((y.length:Int) != 0) else none
 |.v (.tuple ds)=>some (!ds.isEmpty)
 |.v (.list ds)=>some (!ds.isEmpty)
 |.lst ds=>some (!ds.isEmpty)
 |.bP kvs=>some (!kvs.isEmpty)
 |.gq kvs=>some (!kvs.isEmpty)
 |_=>none
noncomputable def w9(f:FE):FT:=λρ=>(f ρ).bind λp=>(peek p.2 p.1).bind λm=>(qi m).bind λb=>some (b,p.2)
theorem DL{α β:Type}{xs:List α}{ys:List β}(h:xs.length=ys.length):(!xs.isEmpty) = !ys.isEmpty:=by
 cases xs <;> cases ys <;> simp_all
theorem Ro.ER{K:AT}{H:Hp}{Z:Zs}{x:V}{m:M}{b:Bool}(h:Ro K H Z x m)(e:qi m=some b):TruV K x H b:=by
 have seqs:∀{ds:List Ap},VL.seq m=some ds->some (!ds.isEmpty)=some b->TruV K x H b:=λ{ds}e1 e2=>by
  obtain⟨a,xs,rfl,hq,f⟩:=h.seq e1;cases e2;rcases hq with hq | hq
  ·exact .inl ⟨xs,hq,(DL f.length).symm⟩
  ·exact .inr (.inl ⟨xs,hq,(DL f.length).symm⟩)
 cases m with
 |v d=>
  cases d with
  |none=>cases e; obtain rfl:=h.fz.s9; exact rfl
  |bool _=>cases e; obtain rfl:=h.bl; exact rfl
  |int _=>cases e; obtain rfl:=h.int; exact rfl
  |str y=>
   have e:(if y.length<=lim then some ((y.length:Int) != 0) else none)=some b:=e
   split at e
   ·next hl=>cases e; obtain rfl:=h.str; exact⟨gC hl,rfl⟩
   ·cases e
  |tuple ds=>exact seqs rfl e
  |list ds=>exact seqs rfl e
  |dict _=>cases e
 |lst ds=>exact seqs rfl e
 |bP kvs=>
  cases e;obtain⟨a,kxs,rfl,he,fk⟩:=h.bP;exact .inr (.inr ⟨kxs,he,(DL fk.length).symm⟩)
 |dtp kvs=>cases e
 |gq kvs=>
  cases e;obtain⟨a,kxs,G,rfl,he,fk⟩:=h.gq;refine .inr (.inr ⟨kxs,he,(DL ?_).symm⟩)
  clear he h seqs
  induction fk with
  |nil=>rfl
  |cons _ _ _ ih=>rw[D1,D1,ih]
theorem Cg{e:Expr}{f:FE}(h:VE X e f)(he:∀whole,Lx e X.env whole=(do let v <-whole; K0 e.pos; K1 [v] (truthy v)):=by intro _; rfl):VT X e (w9 f):=oK (v8 h he) λσ H Q hq=>by
 obtain⟨Z,ρ,F,b,ρ',S,w,e,q⟩:=hq;obtain⟨⟨o1,ρ1⟩,e1,e⟩:=oB e;obtain⟨m,e2,e⟩:=oB e;obtain⟨b',e3,e⟩:=oB e;cases e;exact⟨Z,ρ,F,o1,ρ1,S,w,e1,λx H1 Z1 F1 G1 S1 O1 f1=>⟨_,(O1.peek S1 e2).ER e3,q H1 Z1 F1 S1 f1.left⟩⟩
abbrev FO:=Ev->Option (Option Int×Ev)
inductive vO(K:AT)(f:FO)(σ:L2.St)(H:Hp)(Q:Option Int->Hp->Prop):Prop
 |mk (Z:Zs) (ρ:Ev) (F:List Addr) (o:Option Int) (ρ':Ev):aS K H Z σ ρ F->Wf H Z F->f ρ=some (o,ρ')->(∀H' Z' F',aS K H' Z' σ ρ' F'->aF H Z F H' Z' F'->Q o H')->vO K f σ H Q
noncomputable def gF:FO:=λρ=>some (none,ρ)
noncomputable def gG(f:FE):FO:=λρ=>(f ρ).bind λp=>(peek p.2 p.1).bind λm=>match m with
 |.v (.int i)=>some (some i,p.2)
 |_=>none
theorem zy:PO X none (vO X.K gF):=λpins s σ H Q I hq=>yQ pins s σ H Q I (by
 obtain⟨Z,ρ,F,o,ρ',S,w,e,q⟩:=hq;cases e;exact q H Z F S (aF.refl w))
theorem zz{e:Expr}{f:FE}(h:VE X e f):PO X (some e) (vO X.K (gG f)):=λpins s σ H Q I hq=>yR h pins s σ H Q I (by
 obtain⟨Z,ρ,F,o,ρ',S,w,e,q⟩:=hq;obtain⟨⟨o1,ρ1⟩,e1,e⟩:=oB e;obtain⟨m1,e3,e⟩:=oB e;refine⟨Z,ρ,F,o1,ρ1,S,w,e1,λx H1 Z1 F1 G1 S1 O1 f1=>?_⟩
 split at e
 ·cases e
  obtain rfl:=(O1.peek S1 e3).int;exact⟨_,rfl,q H1 Z1 F1 S1 f1.left⟩
 ·cases e)
noncomputable def cutD(ds:List Ap)(lo hi:Option Int):List Ap:=(ds.drop (HT.cI ds.length 0 lo)).take (HT.cI ds.length ds.length hi-HT.cI ds.length 0 lo)
theorem rQ{K:AT}{H:Hp}{Z:Zs}{xs:List V}{ds:List Ap}(r:bu K H Z xs ds)(lo hi:Option Int):bu K H Z (kL xs lo hi) (cutD ds lo hi):=by
 unfold kL cutD;rw[r.length];exact(r.drop _).take _
noncomputable def De(lo hi:Option Int):M->Option M
 |.v (.tuple ds)=>some (.v (.tuple (cutD ds lo hi)))
 |.lst ds=>some (.lst (cutD ds lo hi))
 |.v (.list ds)=>some (.lst (cutD ds lo hi))
 |_=>none
noncomputable def AZ(fa:FE)(fl fh:FO):FE:=λρ=>(fa ρ).bind λp=>(fl p.2).bind λl=>(fh l.2).bind λh=>(jc h.2 p.1).bind λm=>(De l.1 h.1 m).bind λm'=>some (.t m',h.2)
theorem yS.or{r r':V->Option Int->Option Int->Hp->VK->Prop}(h:yS X r)(h':yS X r'):yS X (λx lo hi H Q=>r x lo hi H Q\/r' x lo hi H Q):=by
 intro pins s σ H x v vl vu lo hi sl Q I rx hs pl pu q;rcases q with q | q
 ·exact h pins s σ H x v vl vu lo hi sl Q I rx hs pl pu q
 ·exact h' pins s σ H x v vl vu lo hi sl Q I rx hs pl pu q
theorem ve_sl{e:Expr}{lo hi:Option Expr}{p2:Pos}{fa:FE}{fl fh:FO}(ha:VE X e fa)(hl:PO X lo (vO X.K fl))(hh:PO X hi (vO X.K fh)):VE X (.Subscript e (.Slice lo hi none p2) pos) (AZ fa fl fh):=bM (wg (yS.or zp yW) ha hl hh) λσ H Q hq=>by
 obtain⟨Z,ρ,F,o,ρ',S,w,e,q⟩:=hq;obtain⟨⟨o1,ρ1⟩,e1,e⟩:=oB e;obtain⟨⟨l,ρ2⟩,e2,e⟩:=oB e;obtain⟨⟨h,ρ3⟩,e3,e⟩:=oB e;obtain⟨m,e4,e⟩:=oB e;obtain⟨m',e5,e⟩:=oB e;cases e;refine⟨Z,ρ,F,o1,ρ1,S,w,e1,λx H1 Z1 F1 G1 S1 O1 f1=>⟨Z1,ρ1,F1,l,ρ2,S1,f1.left.wf,e2,λH2 Z2 F2 S2 f2=>⟨Z2,ρ2,F2,h,ρ3,S2,f2.wf,e3,λH3 Z3 F3 S3 f3=>?_⟩⟩⟩
 have f23:=f2.trans f3;have O1':=O1.mono (dG e4) (f23.grow f1.left.wf) (f1.qg f23);have r:=O1'.peek S3 (dF e4);have fin:∀z H4 Z4 G,Ow X.K H4 Z4 z m' G->aF H3 Z3 [] H4 Z4 G->Q z H4:=λz H4 Z4 G h4 n=>q z H4 Z4 F3 G (S3.news n) (.t h4) ((f1.left.trans f23).trans (n.news f3.wf S3.al))
 unfold De at e5
 split at e5
 ·cases e5
  obtain⟨a,xs,rfl,hx,fx⟩:=r.tup;exact .inl ⟨a,xs,rfl,hx,λr H' s' t=>endS fin f3.za s' (.tup t ((rQ fx _ _).mono (aM.same s')))⟩
 ·cases e5
  obtain⟨a,xs,rfl,hx,fx⟩:=r.jf rfl;exact .inr ⟨a,xs,rfl,hx,λp hp=>rO fin f3.za hp (rQ fx _ _)⟩
 ·cases e5
  obtain⟨a,xs,rfl,hx,fx⟩:=r.jf rfl;exact .inr ⟨a,xs,rfl,hx,λp hp=>rO fin f3.za hp (rQ fx _ _)⟩
 ·cases e5
end
section
variable{α:Type}
noncomputable def ins(lt:α->α->Bool)(x:α):List α->List α
 |[]=>[x]
 |y::ys=>if lt y x=true then y::ins lt x ys else x::y::ys
noncomputable def nA(lt:α->α->Bool):List α->List α
 |[]=>[]
 |x::xs=>ins lt x (nA lt xs)
theorem lz(lt:α->α->Bool)(x:α):∀ys:List α,(ins lt x ys).Perm (x::ys)
 |[]=>.refl _
 |y::ys=>by
  unfold ins
  split
  ·exact((lz lt x ys).cons y).trans (.swap x y ys)
  ·exact .refl _
theorem cP(lt:α->α->Bool):∀xs:List α,(nA lt xs).Perm xs
 |[]=>.refl _
 |x::xs=>(lz lt x _).trans ((cP lt xs).cons x)
theorem xg{lt:α->α->Bool}(as:∀a b,lt a b=true->lt b a=false)(tr:∀a b c,lt b a=false->lt c b=false->lt c a=false)(x:α):∀{ys:List α},ys.Pairwise (λa b=>lt b a=false)->(ins lt x ys).Pairwise (λa b=>lt b a=false)
 |[],_=>List.pairwise_singleton _ _
 |y::ys,h=>by
  obtain⟨h1,h2⟩:=IP.mp h;unfold ins
  split
  ·next e=>
   refine IP.mpr ⟨λz hz=>?_,xg as tr x h2⟩
   rcases lK ((lz lt x ys).mem_iff.mp hz) with hz | hz
   ·subst hz; exact as _ _ e
   ·exact h1 z hz
  ·next e=>
   have e:lt y x=false:=by simpa using e
   refine IP.mpr ⟨λz hz=>?_,h⟩
   rcases lK hz with hz | hz
   ·subst hz; exact e
   ·exact tr _ _ _ e (h1 z hz)
theorem gH{lt:α->α->Bool}(as:∀a b,lt a b=true->lt b a=false)(tr:∀a b c,lt b a=false->lt c b=false->lt c a=false):∀xs:List α,(nA lt xs).Pairwise (λa b=>lt b a=false)
 |[]=>.nil
 |x::xs=>xg as tr x (gH as tr xs)
end
noncomputable def ltI(a b:Int):Bool:=decide (a<b)
noncomputable def sortI(ns:List Int):List Int:=nA ltI ns
noncomputable def iz(ks:List (List Int)):List (List Int):=nA HT.lexLt ks
theorem iA:∀(a b:List Int),HT.lexLt a b=false->HT.lexLt b a=false->a=b
 |[],[],_,_=>rfl
 |[],_::_,h,_=>by cases h
 |_::_,[],_,h=>by cases h
 |x::xs,y::ys,h,h'=>by
  rw[HT.aV] at h h'
  by_cases e:x=y
  ·subst e
   rw[if_pos rfl] at h h';rw[iA xs ys h h']
  ·rw[if_neg e] at h
   rw[if_neg (HZ e)] at h';have h:=of_decide_eq_false h;have h':=of_decide_eq_false h';lia
theorem iI{ns ns':List Int}(p:ns'.Perm ns)(s:ns'.Pairwise (·<=·)):ns'=sortI ns:=by
 refine Kq (le:=λa b=>ltI b a=false) (λa b _ _ h1 h2=>?_) (s.imp λh=>?_) (gH (λa b h=>?_) (λa b c h1 h2=>?_) ns) (p.trans (cP _ ns).symm)
 ·unfold ltI at h1 h2
  have h1:=of_decide_eq_false h1;have h2:=of_decide_eq_false h2;lia
 ·exact decide_eq_false (by lia)
 ·have h:=of_decide_eq_true h
  exact decide_eq_false (by lia)
 ·have h1:=of_decide_eq_false h1
  have h2:=of_decide_eq_false h2;exact decide_eq_false (by lia)
theorem iJ{ns ns':List (List Int)}(p:ns'.Perm ns)(s:ns'.Pairwise λa b=>HT.lexLt b a=false):ns'=iz ns :=
 Kq (le:=λa b=>HT.lexLt b a=false) (λa b _ _ h1 h2=>iA a b h2 h1) s (gH cN cT ns) (p.trans (cP _ ns).symm)
noncomputable def tI(ns:List Int):Ap:=.tuple (ns.map .int)
noncomputable def Ez:Ap->Option (List Int)
 |.tuple ds=>eO ds
 |_=>none
noncomputable def rR:List Ap->Option (List (List Int))
 |[]=>some []
 |d::ds=>(Ez d).bind λi=>(rR ds).bind λis=>some (i::is)
theorem lA:∀{ds:List Ap}{ks:List (List Int)},rR ds=some ks->ds=ks.map tI:=by
 intro ds
 induction ds with
 |nil=>intro _ e; cases e; rfl
 |cons d ds ih=>
  intro _ e;obtain⟨i,e1,e⟩:=oB e;obtain⟨is,e2,e⟩:=oB e;cases e;rw[ih e2];cases d with
  |tuple xs=>rw[FN]; unfold tI; rw[bV e1]
  |_=>cases e1
theorem tE:∀(ks:List (List Int)),rR (ks.map tI)=some ks
 |[]=>rfl
 |k::ks=>by show (eO (k.map .int)).bind _=_; rw[fG,Fi,tE ks]; rfl
theorem bu.EA{K:AT}{H:Hp}{Z:Zs}:∀{ks:List (List Int)}{xs:List V},bu K H Z xs (ks.map tI)->Dc K H xs ks:=by
 intro ks
 induction ks with
 |nil=>intro xs h; cases h; exact .nil
 |cons k ks ih=>
  intro xs h;cases h with | cons h r=>
  exact .cons (by obtain⟨a,xs,e1,e2,e3⟩:=h.gT; rw[e3.bU] at e2; exact⟨a,e1,e2⟩) (ih r)
theorem bu.rS{K:AT}{H:Hp}{Z:Zs}{xs:List V}{ks:List (List Int)}(r:Dc K H xs ks):∀(zs:List (V×List Int)),(∀z∈zs,z∈xs.zip ks)->bu K H Z (zs.map (·.1)) ((zs.map (·.2)).map tI)
 |[],_=>.nil
 |z::zs,h=>.cons (by
  have hz:=h z lS;have:∀{xs:List V}{ks:List (List Int)},Dc K H xs ks->z∈xs.zip ks->∃a,z.1=.ref a/\dR K H a (z.2.map V.int):=λ{xs ks}r hz=>by
   induction r with
   |nil=>simp at hz
   |cons q _ ih=>
    rw[Gc] at hz;rcases lK hz with hz | hz
    ·subst hz; exact q
    ·exact ih hz
  obtain⟨a,e1,e2⟩:=this r hz;show Fz K H Z z.1 (tI z.2);rw[e1];exact .tup e2 (bu.ints _)) (bu.rS r zs λz' h'=>h z' (lO _ h'))
noncomputable def inlK:Key->Option Int
 |.inl i=>some i
 |.inr _=>none
noncomputable def inls:List Key->Option (List Int)
 |[]=>some []
 |k::ks=>(inlK k).bind λi=>(inls ks).bind λis=>some (i::is)
theorem qj:∀{ks:List Key}{is:List Int},inls ks=some is->ks=is.map Hi:=by
 intro ks
 induction ks with
 |nil=>intro _ e; cases e; rfl
 |cons k ks ih=>
  intro _ e;obtain⟨i,e1,e⟩:=oB e;obtain⟨is,e2,e⟩:=oB e;cases e;rw[ih e2];cases k with
  |inl j=>cases e1; rfl
  |inr _=>cases e1
noncomputable def nB(ds:List Ap):Option (List Ap) :=
 if ds.length<64 then
  match eO ds with
  |some ns=>some ((sortI ns).map .int)
  |none=>(rR ds).bind λks=>if ks.all (λk=> !k.isEmpty)=true then some ((iz ks).map tI) else none
 else none
noncomputable def bW:List M->Option M
 |[.bP kvs]=>(inls (kvs.map (·.1))).bind λns=>if ns.length<64 then some (.lst ((sortI ns).map .int)) else none
 |[.gq kvs]=>(inls (kvs.map (·.1))).bind λns=>if ns.length<64 then some (.lst ((sortI ns).map .int)) else none
 |[.v (.tuple ds)]=>(eO ds).bind λns=>if ns.length<64 then some (.lst ((sortI ns).map .int)) else none
 |[m]=>(jf m).bind λds=>(nB ds).bind λes=>some (.lst es)
 |_=>none
theorem kr.keys{K:AT}{H:Hp}{Z:Zs}:∀{xs:List (Key×V)}{ds:List (Key×List Ap)}{G:List Addr},kr K H Z xs ds G->xs.map (·.1)=ds.map (·.1):=by
 intro xs ds G h
 induction h with
 |nil=>rfl
 |cons _ _ r ih=>rw[FN,FN,ih]
section
variable{X:Cx}{pos:Pos}
theorem ff{K:AT}{H:Hp}{Z:Zs}{xs:List V}{m:M}(h:Dd K H Z xs [m]):∃x,xs=[x]/\Ro K H Z x m:=by
 cases h with
 |cons h r=>cases r; exact⟨_,rfl,h⟩
theorem ros2{K:AT}{H:Hp}{Z:Zs}{xs:List V}{m m':M}(h:Dd K H Z xs [m,m']):∃x y,xs=[x,y]/\Ro K H Z x m/\Ro K H Z y m':=by
 cases h with
 |cons h r=>cases r with
  |cons h' r=>cases r; exact⟨_,_,rfl,h,h'⟩
theorem cD(hc:X.calm=true):bf X (.builtin "sorted") (pN X.K bW):=by
 intro pins s σ H xs us Q I rs h;obtain⟨Z,ms,m,za,hr,e,q⟩:=h;have hInt:∀{ns ns':List Int}{l:Addr},(∀z H' Z' G,Ow X.K H' Z' z (.lst ((sortI ns).map .int)) G->aF H Z [] H' Z' G->Q z H')->ns'.Perm ns->ns'.Pairwise (·<=·)->H l=none->Q (.ref l) (upd H l (.lst (ns'.map V.int))):=λ{ns ns' l}q p w hl=>by
  rw[iI p w];exact rO q za hl (bu.ints _)
 unfold bW at e
 split at e
 ·obtain⟨ns,e1,e⟩:=oB e
  split at e
  ·next h64=>
   cases e;obtain⟨x,rfl,h1⟩:=ff hr;obtain⟨a,kxs,rfl,he,fk⟩:=h1.bP;exact fE hc pins s σ H _ us Q I rs ⟨a,kxs,ns,rfl,he,by rw[fk.keys,qj e1],h64,λns' l p w hl=>hInt q p w hl⟩
  ·cases e
 ·obtain⟨ns,e1,e⟩:=oB e
  split at e
  ·next h64=>
   cases e;obtain⟨x,rfl,h1⟩:=ff hr;obtain⟨a,kxs,G,rfl,he,fk⟩:=h1.gq;exact fE hc pins s σ H _ us Q I rs ⟨a,kxs,ns,rfl,he,by rw[fk.keys,qj e1],h64,λns' l p w hl=>hInt q p w hl⟩
  ·cases e
 ·obtain⟨ns,e1,e⟩:=oB e
  split at e
  ·next h64=>
   cases e;obtain⟨x,rfl,h1⟩:=ff hr;obtain⟨a,xs,rfl,hx,fx⟩:=h1.tup;rw[bV e1] at fx;rw[fx.bU] at hx;exact jB pins s σ H _ us Q I rs ⟨a,ns,rfl,hx,h64,λns' l p w hl=>hInt q p w hl⟩
  ·cases e
 ·next m0 _ _ _=>
  obtain⟨ds,e1,e⟩:=oB e;obtain⟨es,e2,e⟩:=oB e;cases e;obtain⟨x,rfl,h1⟩:=ff hr;obtain⟨a,xs,rfl,hx,fx⟩:=h1.jf e1;unfold nB at e2
  split at e2
  ·next h64=>
   split at e2
   ·next ns e3=>
    cases e2;rw[bV e3] at fx h64;rw[fx.bU] at hx;exact jz pins s σ H _ us Q I rs ⟨a,ns,rfl,hx,by simpa using h64,λns' l p w hl=>hInt q p w hl⟩
   ·obtain⟨ks,e3,e2⟩:=oB e2
    split at e2
    ·next hne=>
     cases e2;rw[lA e3] at fx;have hl:xs.length=ks.length:=by rw[fx.length,B2]
     have ht:=fx.EA;refine jA pins s σ H _ us Q I rs ⟨a,xs,ks,rfl,hx,ht,λt h z=>?_,?_,λzs l p w hl' =>?_⟩
     ·have:=Hm.mp hne t h
      rw[z] at this;cases this
     ·have:ds.length=ks.length:=by rw[lA e3,B2]
      lia
     ·have e:zs.map (·.2)=iz ks:=iJ ((p.map (·.2)).trans (by rw[Ko (by lia)])) w
      have:=bu.rS (Z:=Z) ht zs λz h=>p.mem_iff.mp h
      rw[e] at this;exact rO q za hl' this
    ·cases e2
  ·cases e2
 ·cases e
noncomputable def gk:List M->Option M
 |[.bP kvs]=>some (.v (.int kvs.length))
 |[.gq kvs]=>some (.v (.int kvs.length))
 |[.v (.str z)]=>if z.length<=lim then some (.v (.int z.length)) else none
 |[m]=>(seq m).bind λds=>some (.v (.int ds.length))
 |_=>none
theorem kr.length{K:AT}{H:Hp}{Z:Zs}:∀{xs:List (Key×V)}{ds:List (Key×List Ap)}{G:List Addr},kr K H Z xs ds G->xs.length=ds.length
 |_,_,_,.nil=>rfl
 |_,_,_,.cons _ _ r=>by rw[D1,D1,kr.length r]
theorem jD:bf X (.builtin "len") (pN X.K gk):=by
 intro pins s σ H xs us Q I rs h;obtain⟨Z,ms,m,za,hr,e,q⟩:=h;unfold gk at e
 split at e
 ·cases e
  obtain⟨x,rfl,h1⟩:=ff hr;obtain⟨a,kxs,rfl,he,fk⟩:=h1.bP;exact ng pins s σ H _ us Q I rs ⟨a,kxs,rfl,he,by rw[fk.length]; exact ck q za (.int _)⟩
 ·cases e
  obtain⟨x,rfl,h1⟩:=ff hr;obtain⟨a,kxs,G,rfl,he,fk⟩:=h1.gq;exact ng pins s σ H _ us Q I rs ⟨a,kxs,rfl,he,by rw[fk.length]; exact ck q za (.int _)⟩
 ·split at e
  ·next hl=>
   cases e;obtain⟨x,rfl,h1⟩:=ff hr;obtain rfl:=h1.str;exact n8 pins s σ H _ us Q I rs ⟨_,rfl,gC hl,ck q za (.int _)⟩
  ·cases e
 ·obtain⟨ds,e1,e⟩:=oB e
  cases e;obtain⟨x,rfl,h1⟩:=ff hr;obtain⟨a,ys,rfl,hx,fx⟩:=h1.seq e1;exact nZ pins s σ H _ us Q I rs ⟨a,ys,rfl,hx,by rw[fx.length]; exact ck q za (.int _)⟩
 ·cases e
noncomputable def dw:List M->Option M
 |[m]=>(seq m).bind λds=>some (.v (.tuple ds))
 |_=>none
theorem cA:bf X (.type "tuple") (pN X.K dw):=by
 intro pins s σ H xs us Q I rs h;obtain⟨Z,ms,m,za,hr,e,q⟩:=h;unfold dw at e
 split at e
 ·obtain⟨ds,e1,e⟩:=oB e
  cases e;obtain⟨x,rfl,h1⟩:=ff hr;obtain⟨a,ys,rfl,hx,fx⟩:=h1.seq e1;refine mh pins s σ H _ us Q I rs ⟨a,ys,rfl,?_⟩;rcases hx with hx | hx
  ·exact .inl ⟨hx,λl hl=>endT q za hl fx⟩
  ·exact .inr ⟨hx,ck q za (.tup hx fx)⟩
 ·cases e
noncomputable def absM:List M->Option M
 |[.v (.int i)]=>some (.v (.int (if i<0 then -i else i)))
 |_=>none
noncomputable def nC:List M->Option M
 |[.v (.int i)]=>some (.v (.int i))
 |[.v (.bool k)]=>some (.v (.int (if k then 1 else 0)))
 |_=>none
theorem Ci:bf X (.type "int") (pN X.K nC):=by
 intro pins s σ H xs us Q I rs h;obtain⟨Z,ms,m,za,hr,e,q⟩:=h;unfold nC at e
 split at e
 ·cases e
  obtain⟨x,rfl,h1⟩:=ff hr;obtain rfl:=h1.int;exact mQ pins s σ H _ us Q I rs (.inl ⟨_,rfl,ck q za (.int _)⟩)
 ·cases e
  obtain⟨x,rfl,h1⟩:=ff hr;obtain rfl:=h1.bl;exact mQ pins s σ H _ us Q I rs (.inr ⟨_,rfl,ck q za (.int _)⟩)
 ·cases e
noncomputable def qk:List Int->Option Int
 |[]=>none
 |n::ns=>match qk ns with
  |none=>some n
  |some k=>some (if k<n then k else n)
theorem gW:∀{ns:List Int}{k:Int},qk ns=some k->k∈ns/\∀a∈ns,k<=a
 |[],_,e=>by cases e
 |n::ns,k,e=>by
  unfold qk at e;cases h:qk ns with
  |none=>
   rw[h] at e; cases e;cases ns with
   |nil=>exact⟨lS,λa ha=>by rw[Bn.mp ha]; exact ML _⟩
   |cons y ys=>unfold qk at h; split at h <;> cases h
  |some j=>
   rw[h] at e;have e:(if j<n then j else n)=k:=FX e
   obtain⟨h1,h2⟩:=gW h
   by_cases c:j<n
   ·rw[if_pos c] at e; subst e
    exact⟨lO _ h1,λa ha=>by
     rcases lK ha with ha | ha
     ·subst ha; lia
     ·exact h2 a ha⟩
   ·rw[if_neg c] at e; subst e
    exact⟨lS,λa ha=>by
     rcases lK ha with ha | ha
     ·subst ha; lia
     ·have:=h2 a ha; lia⟩
noncomputable def minM:List M->Option M
 |[.v (.int i),.v (.int j)]=>some (.v (.int (if j<i then j else i)))
 |[m]=>(jf m).bind λds=>(eO ds).bind λns=>(qk ns).bind λk=>some (.v (.int k))
 |_=>none
theorem Cj(hc:X.calm=true):bf X (.builtin "min") (pN X.K minM):=by
 intro pins s σ H xs us Q I rs h;obtain⟨Z,ms,m,za,hr,e,q⟩:=h;unfold minM at e
 split at e
 ·cases e
  obtain⟨x,y,rfl,h1,h2⟩:=ros2 hr;obtain rfl:=h1.int; obtain rfl:=h2.int;exact uu hc pins s σ H _ us Q I rs ⟨_,_,rfl,ck q za (.int _)⟩
 ·obtain⟨ds,e1,e⟩:=oB e
  obtain⟨ns,e2,e⟩:=oB e;obtain⟨k,e3,e⟩:=oB e;cases e;obtain⟨x,rfl,h1⟩:=ff hr;obtain⟨a,ys,rfl,hx,fx⟩:=h1.jf e1;rw[bV e2] at fx;rw[fx.bU] at hx;obtain⟨k1,k2⟩:=gW e3;refine iw hc pins s σ H _ us Q I rs ⟨a,ns,rfl,hx,λz=>by rw[z] at k1; simp at k1,λM h1 h2=>?_⟩
  have:M=k:=J5 (h2 k k1) (k2 M h1);subst this;exact ck q za (.int _)
 ·cases e
noncomputable def ql:List M->Option M
 |[.v (.int i),.v (.int j)]=>some (.v (.int (if j>i then j else i)))
 |_=>none
theorem tF(hc:X.calm=true):bf X (.builtin "max") (pN X.K ql):=by
 intro pins s σ H xs us Q I rs h;obtain⟨Z,ms,m,za,hr,e,q⟩:=h;unfold ql at e
 split at e
 ·cases e
  obtain⟨x,y,rfl,h1,h2⟩:=ros2 hr;obtain rfl:=h1.int; obtain rfl:=h2.int;exact ur hc pins s σ H _ us Q I rs ⟨_,_,rfl,ck q za (.int _)⟩
 ·cases e
theorem ve_cb{id:String}{x:Str}{p:Pos}{e:Expr}{es:List Expr}{g:List M->Option M}{fa:FA}(hc:bf X (.builtin id) (pN X.K g))(hg:Gl X x)(hm:X.mg x=none)(hv:Hg x=some (.builtin id))(ha:VA X (e::es) fa)(hn:x ≠ "__name__" := by decide)(hdb:(x == ("__debug__" : Str))=false:=by decide)
  (he:E5 (e::es) X.env=(false,eval e X.env)::E5 es X.env:=by rfl) (hpl:(Ij pos (E5 es X.env)).any (·.1)=false:=by rfl):VE X (.Call (.Name x p) (e::es) [] pos) (bQ g fa):=bM (pW hc hg hm hv ha hn hdb he hpl) λ_ _ _=>many AU
theorem ve_ct{T:String}{x:Str}{p:Pos}{e:Expr}{es:List Expr}{g:List M->Option M}{fa:FA}(hc:bf X (.type T) (pN X.K g))(hg:Gl X x)(hm:X.mg x=none)(hv:Hg x=some (.type T))(ha:VA X (e::es) fa)(hn:x ≠ "__name__" := by decide)(hdb:(x == ("__debug__" : Str))=false:=by decide)
  (he:E5 (e::es) X.env=(false,eval e X.env)::E5 es X.env:=by rfl) (hpl:(Ij pos (E5 es X.env)).any (·.1)=false:=by rfl):VE X (.Call (.Name x p) (e::es) [] pos) (bQ g fa):=bM (uw hc hg hm hv ha hn hdb he hpl) λ_ _ _=>many AU
end
inductive rT(K:AT)(H:Hp)(Z:Zs):List V->List M->List Addr->Prop
 |nil:rT K H Z [] [] []
 |cons {x:V} {m:M} {G:List Addr} {xs:List V} {ms:List M} {G':List Addr}:Ow K H Z x m G->rT K H Z xs ms G'->rT K H Z (x::xs) (m::ms) (G++G')
noncomputable def cG:List cU->Ev->Option (List M×Ev)
 |[],ρ=>some ([],ρ)
 |.t m::os,ρ=>(cG os ρ).bind λq=>some (m::q.1,q.2)
 |.p i::os,ρ=>(cJ ρ i).bind λm=>(cG os (ρ.set i none)).bind λq=>some (m::q.1,q.2)
 |.q _ _::_,_=>none
noncomputable def gI:List cU->List M->Ev->Ev
 |.p i::os,m::ms,ρ=>gI os ms (ρ.set i (some m))
 |_::os,_::ms,ρ=>gI os ms ρ
 |_,_,ρ=>ρ
def vF(ρ:Ev):List cU->Prop
 |[]=>True
 |.p i::os=>ρ[i]? = some none/\.p i∉os/\vF ρ os
 |_::os=>vF ρ os
section
variable{K:AT}{H H':Hp}{Z Z':Zs}{σ:L2.St}
theorem rT.length:∀{xs:List V}{ms:List M}{G:List Addr},rT K H Z xs ms G->xs.length=ms.length:=by
 intro xs ms G h
 induction h with
 |nil=>rfl
 |cons _ r ih=>rw[D1,D1,ih]
theorem tG{ρ:Ev}{i j:Nat}{m:M}(h:cJ (ρ.set j none) i=some m):i≠j/\cJ ρ i=some m:=by
 have h:=aE.mp h;rw[IY] at h
 split at h
 ·next e=>split at h <;> cases h
 ·next e=>exact⟨λz=>e z.symm,aE.mpr h⟩
theorem xh:∀{os:List cU}{ρ:Ev}{r:List M×Ev}{i:Nat},cG os ρ=some r->.p i∈os->∃m,cJ ρ i=some m:=by
 intro os
 induction os with
 |nil=>intro ρ r i e h; simp at h
 |cons o os ih=>
  intro ρ r i e h;cases o with
  |t m=>
   obtain⟨q,e1,_⟩:=oB e;exact ih e1 (by simpa using h)
  |p j=>
   obtain⟨m,e1,e⟩:=oB e;obtain⟨q,e2,_⟩:=oB e;rcases lK h with h | h
   ·cases h; exact⟨m,e1⟩
   ·obtain⟨m',h'⟩:=ih e2 h
    exact⟨m',(tG h').2⟩
  |q _ _=>cases e
theorem rU:∀{os:List cU}{ρ:Ev}{ms:List M}{ρ':Ev}{i:Nat},cG os ρ=some (ms,ρ')->ρ[i]? = some none->ρ'[i]? = some none:=by
 intro os
 induction os with
 |nil=>intro ρ ms ρ' i e h; cases e; exact h
 |cons o os ih=>
  intro ρ ms ρ' i e h;cases o with
  |t m=>
   obtain⟨⟨ms,ρ1⟩,e1,e⟩:=oB e;cases e;exact ih e1 h
  |p j=>
   obtain⟨m,e1,e⟩:=oB e;obtain⟨⟨ms,ρ1⟩,e2,e⟩:=oB e;cases e;refine ih e2 ?_;rw[IY]
   split
   ·next z=>subst z; rw[if_pos (EY.mp h).1]
   ·exact h
  |q _ _=>cases e
theorem nD:∀{os:List cU}{ρ:Ev}{ms:List M}{ρ':Ev},cG os ρ=some (ms,ρ')->vF ρ' os:=by
 intro os
 induction os with
 |nil=>exact λ_=>IM
 |cons o os ih=>
  intro ρ ms ρ' e;cases o with
  |t m=>
   obtain⟨⟨ms,ρ1⟩,e1,e⟩:=oB e;cases e;exact show vF ρ1 os from ih e1
  |p j=>
   obtain⟨m,e1,e⟩:=oB e;obtain⟨⟨ms,ρ1⟩,e2,e⟩:=oB e;cases e;have hl:=(EY.mp (aE.mp e1)).1;refine⟨rU e2 (by rw[Gh hl]),λh=>?_,ih e2⟩
   obtain⟨m',h'⟩:=xh e2 h;exact(tG h').1 rfl
  |q _ _=>cases e
theorem bI{A B:List Addr}(h:(A++B).Nodup):A.Nodup/\B.Nodup/\∀a∈A,a∉B:=by
 have h':=E4.mp h;exact⟨h'.1,h'.2.1,λa x y=>h'.2.2 a x a y rfl⟩
theorem qm:∀{os:List cU}{xs:List V}{ρ:Ev}{F G:List Addr}{ms:List M}{ρ':Ev},aS K H Z σ ρ F->jd K H Z σ xs os G->(F++G).Nodup->cG os ρ=some (ms,ρ') ->
  ∃A F',rT K H Z xs ms A/\aS K H Z σ ρ' F'/\(F'++A).Nodup/\∀a∈F'++A,a∈F++G:=by
 intro os
 induction os with
 |nil=>
  intro xs ρ F G ms ρ' S r nd e;cases r;cases e;exact⟨[],F,.nil,S,nd,λ_ h=>h⟩
 |cons o os ih=>
  intro xs ρ F G ms ρ' S r nd e;cases r with | @cons _ _ G1 _ _ G2 q r=>
  cases q with
  |q _ _ _=>cases e
  |t q=>
   obtain⟨⟨ms,ρ1⟩,e1,e⟩:=oB e;cases e;obtain⟨n1,n2,n3⟩:=bI nd;obtain⟨n4,n5,n6⟩:=bI n2;obtain⟨A,F',h1,h2,h3,h4⟩:=ih S r (aP n1 n5 λa h z=>n3 a h (lR _ z)) e1
   obtain⟨k1,k2,k3⟩:=bI h3;have far:∀a∈G1,a∉F++G2:=λa h z=>by
    rcases lM z with z | z
    ·exact n3 a z (lL _ h)
    ·exact n6 a h z
   refine⟨G1++A,F',.cons q h1,h2,aP k1 (aP n4 k2 λa h z=>far a h (h4 a (lR _ z))) λa h z=>?_,λa h=>?_⟩
   ·rcases lM z with z | z
    ·exact far a z (h4 a (lL _ h))
    ·exact k3 a h z
   ·rcases lM h with h | h
    ·rcases lM (h4 a (lL _ h)) with z | z
     ·exact lL _ z
     ·exact lR _ (lR _ z)
    rcases lM h with h | h
    ·exact lR _ (lL _ h)
    ·rcases lM (h4 a (lR _ h)) with z | z
     ·exact lL _ z
     ·exact lR _ (lR _ z)
  |p q=>
   obtain⟨m,e1,e⟩:=oB e;obtain⟨⟨ms,ρ1⟩,e2,e⟩:=oB e;cases e;rw[Fm] at nd ⊢;obtain⟨n1,n2,n3⟩:=bI nd;obtain⟨x',G',F1,t1,t2,t3,t4,t5⟩:=S.take n1 (aE.mp e1);rw[q] at t1; cases t1;obtain⟨u1,u2,u3⟩:=bI t4;obtain⟨A,F',h1,h2,h3,h4⟩:=ih t3 r (aP u1 n2 λa h z=>n3 a (t5 a (lL _ h)) z) e2
   obtain⟨k1,k2,k3⟩:=bI h3;have far:∀a∈G',a∉F1++G2:=λa h z=>by
    rcases lM z with z | z
    ·exact u3 a z h
    ·exact n3 a (t5 a (lR _ h)) z
   have EB:∀a∈F1++G2,a∈F++G2:=λa z=>by
    rcases lM z with z | z
    ·exact lL _ (t5 a (lL _ z))
    ·exact lR _ z
   refine⟨G'++A,F',.cons t2 h1,h2,aP k1 (aP u2 k2 λa h z=>far a h (h4 a (lR _ z))) λa h z=>?_,λa h=>?_⟩
   ·rcases lM z with z | z
    ·exact far a z (h4 a (lL _ h))
    ·exact k3 a h z
   ·rcases lM h with h | h
    ·exact EB a (h4 a (lL _ h))
    rcases lM h with h | h
    ·exact lL _ (t5 a (lR _ h))
    ·exact EB a (h4 a (lR _ h))
theorem vF.set{ρ:Ev}{i:Nat}{m:M}:∀{os:List cU},vF ρ os->.p i∉os->vF (ρ.set i (some m)) os
 |[],_,_=>IM
 |.t _::os,h,n=>vF.set (os:=os) h λz=>n (lO _ z)
 |.q _ _::os,h,n=>vF.set (os:=os) h λz=>n (lO _ z)
 |.p j::os,h,n=>by
  obtain⟨h1,h2,h3⟩:=h;refine⟨?_,h2,vF.set h3 λz=>n (lO _ z)⟩
  rw[IY,if_neg λz=>n (by rw[z]; exact lS)]
  exact h1
theorem tH{H0:Hp}{Z0:Zs}:∀{os:List cU}{xs:List V}{ρ:Ev}{F G0 A:List Addr}{ms:List M},aS K H Z σ ρ F->jd K H0 Z0 σ xs os G0->rT K H Z xs ms A->(F++A).Nodup->vF ρ os ->
  ∃F',aS K H Z σ (gI os ms ρ) F'/\F'.Nodup/\∀a∈F',a∈F++A:=by
 intro os
 induction os with
 |nil=>
  intro xs ρ F G0 A ms S r hs nd _;cases r;cases hs;exact⟨F,S,(bI nd).1,λa h=>lL _ h⟩
 |cons o os ih=>
  intro xs ρ F G0 A ms S r hs nd hol;cases r with | cons q r=>
  cases hs with | @cons _ m' G _ ms G' h hs=>
  obtain⟨n1,n2,n3⟩:=bI nd;obtain⟨n4,n5,n6⟩:=bI n2;have fin:vF ρ os->∃F',aS K H Z σ (gI os ms ρ) F'/\F'.Nodup/\∀a∈F',a∈F++(G++G'):=λhol=>by
   obtain⟨F',h1,h2,h3⟩:=ih S r hs (aP n1 n5 λa h z=>n3 a h (lR _ z)) hol
   refine⟨F',h1,h2,λa h=>?_⟩
   rcases lM (h3 a h) with z | z
   ·exact lL _ z
   ·exact lR _ (lR _ z)
  cases q with
  |t _=>exact fin hol
  |q _ _ _=>exact fin hol
  |p q=>
   obtain⟨l1,l2,l3⟩:=hol;obtain⟨F1,p1,p2,p3⟩:=S.put h (aP n1 n4 λa h z=>n3 a h (lL _ z)) l1
   rw[gU q] at p1;obtain⟨F',h1,h2,h3⟩:=ih p1 r hs (aP p2 n5 λa h z=>by
    rcases lM (p3 a h) with y | y
    ·exact n3 a y (lR _ z)
    ·exact n6 a y z) (l3.set l2)
   refine⟨F',h1,h2,λa h=>?_⟩
   rcases lM (h3 a h) with z | z
   ·rcases lM (p3 a z) with z | z
    ·exact lL _ z
    ·exact lR _ (lL _ z)
   ·exact lR _ (lR _ z)
end
abbrev FF:=List M->Option (M×List M)
inductive dZ(K:AT)(g:FF)(vs:List V)(H:Hp)(Q:VK)(_u:XK):Prop
 |mk (Z:Zs) (ms:List M) (A:List Addr) (m:M) (ms':List M):rT K H Z vs ms A->Wf H Z A->g ms=some (m,ms')->(∀x H' Z' A' G,rT K H' Z' vs ms' A'->Ow K H' Z' x m G->aF H Z A H' Z' (A'++G)->Q x H')->dZ K g vs H Q _u
noncomputable def fj(g:FF)(fa:FA):FE:=λρ=>(fa ρ).bind λp=>(cG p.1 p.2).bind λq=>(g q.1).bind λr=>some (.t r.1,gI p.1 r.2 q.2)
section
variable{X:Cx}{pos:Pos}
theorem called{g:FF}{fa:FA}{σ:L2.St}{H:Hp}{Q:VK}{E:XK}(hq:vE X.K (fj g fa) σ H Q):wc (dZ X.K g) [] E (vA X.K fa) σ H Q:=by
 obtain⟨Z,ρ,F,o,ρ',S,w,e,q⟩:=hq;obtain⟨⟨os,ρ1⟩,e1,e⟩:=oB e;obtain⟨⟨ms,ρ2⟩,e2,e⟩:=oB e;obtain⟨⟨m,ms'⟩,e3,e⟩:=oB e;cases e;refine⟨Z,ρ,F,os,ρ1,S,w,e1,λxs H1 Z1 F1 G1 S1 O1 f1=>?_⟩
 show dZ X.K g (xs++[]) H1 Q E;rw[E3];obtain⟨A,Fh,h1,h2,h3,h4⟩:=qm S1 O1 f1.nd e2;obtain⟨n1,n2,n3⟩:=bI h3;refine⟨Z1,ms,A,m,ms',h1,⟨n2,λa h=>f1.dz a (h4 a (lR _ h)),f1.za⟩,e3,λx H2 Z2 A' G k1 k2 f2=>?_⟩
 have wA:Wf H1 Z1 A:=⟨n2,λa h=>f1.dz a (h4 a (lR _ h)),f1.za⟩
 have n3':∀a∈A,a∉Fh:=λa h z=>n3 a z h
 have S2:aS X.K H2 Z2 σ ρ2 Fh:=h2.mono (f2.grow wA) λa h o e=>f2.keep a o (n3 a h) e
 have f3:=f2.frame (G:=Fh) ⟨aP n2 n1 n3',λa h=>by
  rcases lM h with h | h
  ·exact f1.dz a (h4 a (lR _ h))
  ·exact f1.dz a (h4 a (lL _ h)),f1.za⟩ h2.al
 obtain⟨m1,m2,m3,m4,m5,m6⟩:=DJ f3.nd;obtain⟨F',p1,p2,p3⟩:=tH S2 O1 k1 (aP m3 m1 λa h z=>m5 a z h) (nD e2)
 have f4:aF H Z F H1 Z1 (A++Fh):=f1.sub (aP n2 n1 n3') λa h=>h4 a (by
  rcases lM h with h | h
  ·exact lR _ h
  ·exact lL _ h)
 refine q x H2 Z2 F' G p1 (.t k2) ((f4.trans f3).sub (aP p2 m2 λa h z=>?_) λa h=>?_)
 ·rcases lM (p3 a h) with y | y
  ·exact m6 a z y
  ·exact m4 a y z
 ·rcases lM h with h | h
  ·rcases lM (p3 a h) with y | y
   ·exact lR _ y
   ·exact lL _ (lL _ y)
  ·exact lL _ (lR _ h)
theorem ve_fn{x:Str}{ps:List Str}{k k':Nat}{g:FF}{e:Expr}{es:List Expr}{fa:FA}{p:Pos}(C:bA X.prog X.w X.K X.mg X.base x ps k (dZ X.K g))(hr:eN k' X.A)(hg:Gl X x)(ha:VA X (e::es) fa)(hk:k<=k':=by first | decide | exact Da _ | lia)(hdb:(x == ("__debug__" : Str))=false:=by decide)
  (he:E5 (e::es) X.env=(false,eval e X.env)::E5 es X.env:=by rfl) (hpl:(Ij pos (E5 es X.env)).any (·.1)=false:=by rfl):VE X (.Call (.Name x p) (e::es) [] pos) (fj g fa):=bM (pe_fn C hr hg ha hk hdb he hpl) λ_ _ _ hq=>called hq
end
inductive Out where
 |nx (ρ:Ev)
 |bk (ρ:Ev)
 |ct (ρ:Ev)
 |rt (m:M) (ρ:Ev)
abbrev FS:=Ev->Option Out
abbrev Pv:=Nat->Option V
def Pin(pv:Pv)(σ:L2.St):Prop:=∀i x,pv i=some x->σ[i]? = some (some x)
def qo(K:AT)(pv:Pv)(D:Ends)(H:Hp)(Z:Zs)(F:List Addr):Out->Prop
 |.nx ρ'=>∀σ' H' Z' F',aS K H' Z' σ' ρ' F'->aF H Z F H' Z' F'->Pin pv σ'->D.nx σ' H'
 |.bk ρ'=>∀σ' H' Z' F',aS K H' Z' σ' ρ' F'->aF H Z F H' Z' F'->Pin pv σ'->D.bk σ' H'
 |.ct ρ'=>∀σ' H' Z' F',aS K H' Z' σ' ρ' F'->aF H Z F H' Z' F'->Pin pv σ'->D.ct σ' H'
 |.rt m ρ'=>∀x σ' H' Z' F' G,aS K H' Z' σ' ρ' F'->Ow K H' Z' x m G->aF H Z F H' Z' (F'++G)->Pin pv σ'->D.rt x H'
inductive vS(K:AT)(pv:Pv)(f:FS)(D:Ends)(σ:L2.St)(H:Hp):Prop
 |mk (Z:Zs) (ρ:Ev) (F:List Addr) (out:Out):aS K H Z σ ρ F->Wf H Z F->Pin pv σ->f ρ=some out->qo K pv D H Z F out->vS K pv f D σ H
theorem qo.trans{K:AT}{pv:Pv}{D:Ends}{H H':Hp}{Z Z':Zs}{F F':List Addr}{o:Out}(h:qo K pv D H Z F o)(f:aF H Z F H' Z' F'):qo K pv D H' Z' F' o:=by
 cases o with
 |nx ρ=>exact λσ1 H1 Z1 F1 s1 f1 p1=>h σ1 H1 Z1 F1 s1 (f.trans f1) p1
 |bk ρ=>exact λσ1 H1 Z1 F1 s1 f1 p1=>h σ1 H1 Z1 F1 s1 (f.trans f1) p1
 |ct ρ=>exact λσ1 H1 Z1 F1 s1 f1 p1=>h σ1 H1 Z1 F1 s1 (f.trans f1) p1
 |rt m ρ=>exact λx σ1 H1 Z1 F1 G s1 o1 f1 p1=>h x σ1 H1 Z1 F1 G s1 o1 (f.trans f1) p1
abbrev A0(pv:Pv)(pin:List Nat):Prop:=∀j x,pv j=some x->j∈pin
def VS(X:Cx)(pin:List Nat)(st:Stmt)(f:FS):Prop:=∀pv,A0 pv pin->PS X st (vS X.K pv f)
def zA(X:Cx)(pin:List Nat)(st:List Stmt)(f:FS):Prop:=∀pv,A0 pv pin->qZ X st (vS X.K pv f)
section
variable{X:Cx}{pos:Pos}{pin:List Nat}
theorem gJ{st:Stmt}{t t':TS}(h:PS X st t)(i:∀D σ H,t' D σ H->t D σ H):PS X st t':=λpins s σ H D I q=>h pins s σ H D I (i D σ H q)
theorem tK{st:List Stmt}{t t':TS}(h:qZ X st t)(i:∀D σ H,t' D σ H->t D σ H):qZ X st t':=λpins s σ H D I q=>h pins s σ H D I (i D σ H q)
noncomputable def eu:FS:=λρ=>some (.nx ρ)
noncomputable def aN(f g:FS):FS:=λρ=>(f ρ).bind λo=>match o with
 |.nx ρ1=>g ρ1
 |o=>some o
theorem xj{pv:Pv}{D:Ends}{σ:L2.St}{H:Hp}(hq:vS X.K pv eu D σ H):AJ D σ H:=by
 obtain⟨Z,ρ,F,o,S,w,P,e,q⟩:=hq;cases e;exact q σ H Z F S (aF.refl w) P
theorem zB:zA X pin [] eu:=λpv hp=>tK yG λ_ _ _ hq=>xj (X:=X) hq
theorem zC{pv:Pv}{f g:FS}{D:Ends}{σ:L2.St}{H:Hp}(hq:vS X.K pv (aN f g) D σ H):tSeq (vS X.K pv f) (vS X.K pv g) D σ H:=by
 obtain⟨Z,ρ,F,o,S,w,P,e,q⟩:=hq;obtain⟨o1,e1,e⟩:=oB e;refine⟨Z,ρ,F,o1,S,w,P,e1,?_⟩;cases o1 with
 |nx ρ1=>exact λσ1 H1 Z1 F1 S1 f1 P1=>⟨Z1,ρ1,F1,o,S1,f1.wf,P1,e,q.trans f1⟩
 |bk ρ1=>cases e; exact q
 |ct ρ1=>cases e; exact q
 |rt m ρ1=>cases e; exact q
theorem xm{st:Stmt}{rest:List Stmt}{f g:FS}(h1:VS X pin st f)(h2:zA X pin rest g):zA X pin (st::rest) (aN f g):=λpv hp=>tK (vV (h1 pv hp) (h2 pv hp)) λ_ _ _ hq=>zC hq
theorem zE{st:Stmt}{f:FS}(h1:VS X pin st f):zA X pin [st] f:=λpv hp=>yH (h1 pv hp)
noncomputable def jh(c:FT)(f g:FS):FS:=λρ=>(c ρ).bind λp=>if p.1=true then f p.2 else g p.2
theorem vs_if{c:Expr}{a b:List Stmt}{fc:FT}{f g:FS}(hc:VT X c fc)(ha:zA X pin a f)(hb:zA X pin b g):VS X pin (.If c a b pos) (jh fc f g):=λpv hp=>gJ (ps_if hc (ha pv hp) (hb pv hp)) λD σ H hq=>by
 obtain⟨Z,ρ,F,o,S,w,P,e,q⟩:=hq;obtain⟨⟨b1,ρ1⟩,e1,e⟩:=oB e;refine⟨Z,ρ,F,b1,ρ1,S,w,e1,λH1 Z1 F1 S1 f1=>?_⟩
 cases b1 with
 |true=>exact iteT ⟨Z1,ρ1,F1,o,S1,f1.wf,P,e,q.trans f1⟩
 |false=>exact iteF ⟨Z1,ρ1,F1,o,S1,f1.wf,P,e,q.trans f1⟩
noncomputable def fY(f:FE):FS:=λρ=>(f ρ).bind λp=>some (.nx p.2)
theorem zF{e:Expr}{f:FE}(h:VE X e f)(hs:Hc e none pos.line X.env=pure false:=by rfl):VS X pin (.Expr e pos) (fY f):=λpv hp=>gJ (yI h hs) λD σ H hq=>by
 obtain⟨Z,ρ,F,o,S,w,P,e,q⟩:=hq;obtain⟨⟨o1,ρ1⟩,e1,e⟩:=oB e;cases e;exact⟨Z,ρ,F,o1,ρ1,S,w,e1,λx H1 Z1 F1 G1 S1 O1 f1=>q σ H1 Z1 F1 S1 f1.left P⟩
noncomputable def oW:cU->Ev->Option (M×Ev)
 |.t m,ρ=>some (m,ρ)
 |.p i,ρ=>(cJ ρ i).bind λm=>some (m,ρ.set i none)
 |.q i k,ρ=>(cZ (.q i k) ρ).bind λp=>some (.v p.1,p.2)
theorem moved{K:AT}{H H0:Hp}{Z Z0:Zs}{F F0 G:List Addr}{σ:L2.St}{ρ ρ':Ev}{x:V}{o:cU}{m:M}(S:aS K H Z σ ρ F)(h:mH K H Z σ x o G)(f:aF H0 Z0 F0 H Z (F++G))(e:oW o ρ=some (m,ρ')) :
  ∃Z' F' G',aS K H Z' σ ρ' F'/\Ow K H Z' x m G'/\aF H0 Z0 F0 H Z' (F'++G'):=by
 cases o with
 |t m1=>
  cases e;cases h with
  |t q=>exact⟨Z,F,G,S,q,f⟩
 |p i=>
  obtain⟨m1,e1,e⟩:=oB e;cases e;cases h with
  |p q=>
   rw[E3] at f;obtain⟨x',G',F1,t1,t2,t3,t4,t5⟩:=S.take f.nd (aE.mp e1);rw[q] at t1; cases t1;exact⟨Z,F1,G',t3,t2,f.sub t4 t5⟩
 |q i k=>
  obtain⟨⟨d,ρ1⟩,e1,e⟩:=oB e;cases e;obtain⟨Z',F',h1,h2,h3,_⟩:=gV S h f e1;exact⟨Z',F',[],h1,.v h2,h3.nil⟩
noncomputable def fm(f:FE):FS:=λρ=>(f ρ).bind λp=>(oW p.1 p.2).bind λq=>some (.rt q.1 q.2)
theorem Ck{e:Expr}{f:FE}(h:VE X e f):VS X pin (.Return (some e) pos) (fm f):=λpv hp=>gJ (Bl h) λD σ H hq=>by
 obtain⟨Z,ρ,F,o,S,w,P,e,q⟩:=hq;obtain⟨⟨o1,ρ1⟩,e1,e⟩:=oB e;obtain⟨⟨m,ρ2⟩,e2,e⟩:=oB e;cases e;refine⟨Z,ρ,F,o1,ρ1,S,w,e1,λx H1 Z1 F1 G1 S1 O1 f1=>?_⟩
 obtain⟨Z2,F2,G2,h1,h2,h3⟩:=moved S1 O1 f1 e2;exact q x σ H1 Z2 F2 G2 h1 h2 h3 P
noncomputable def gK(i:Nat)(m:M)(ρ:Ev):Option Ev:=if i<ρ.length then some (ρ.set i (some m)) else none
theorem Pin.set{pv:Pv}{σ:L2.St}{i:Nat}{x:Option V}(P:Pin pv σ)(hp:A0 pv pin)(hi:i∉pin):Pin pv (σ.set i x):=λj y e=>by
 rw[IY,if_neg λz=>hi (by subst z; exact hp _ _ e)]
 exact P j y e
theorem aS.gK{K:AT}{H:Hp}{Z:Zs}{F G:List Addr}{σ:L2.St}{ρ ρ':Ev}{x:V}{m:M}{i:Nat}(S:aS K H Z σ ρ F)(h:Ow K H Z x m G)(nd:(F++G).Nodup)(e:VL.gK i m ρ=some ρ'):∃F',aS K H Z (σ.set i (some x)) ρ' F'/\F'.Nodup/\∀a∈F',a∈F++G:=by
 unfold VL.gK at e
 split at e
 ·next hl=>
  cases e;obtain⟨n1,n2,n3⟩:=bI nd;obtain⟨F1,h1,h2,h3⟩:=S.drop i n1;obtain⟨F2,p1,p2,p3⟩:=h1.put h (aP h2 n2 λa z=>n3 a (h3 a z)) (by rw[Gh hl])
  rw[Ka] at p1;refine⟨F2,p1,p2,λa z=>?_⟩
  rcases lM (p3 a z) with z | z
  ·exact lL _ (h3 a z)
  ·exact lR _ z
 ·cases e
noncomputable def bg(i:Nat)(f:FE):FS:=λρ=>(f ρ).bind λp=>(oW p.1 p.2).bind λq=>(gK i q.1 q.2).bind λρ'=>some (.nx ρ')
theorem Cm{i:Nat}{x:Str}{e:Expr}{f:FE}{pos':Pos}(hp0:i∉pin)(hN:X.N.Nodup)(hi:X.N[i]? = some x)(hx:Loc X.env.scope x)(he:VE X e f)(hs:Hc e (some (.Name x pos')) pos.line X.env=pure false:=by rfl)(hf:X.fn x=true\/X.env.scope.names.lookup x=some .local:=by first | exact .inl rfl | exact .inr rfl | assumption) :
  VS X pin (.Assign [.Name x pos'] e pos) (bg i f):=λpv hp=>gJ (Bo hN hi hx he hs hf) λD σ H hq=>by
 obtain⟨Z,ρ,F,o,S,w,P,e,q⟩:=hq;obtain⟨⟨o1,ρ1⟩,e1,e⟩:=oB e;obtain⟨⟨m,ρ2⟩,e2,e⟩:=oB e;obtain⟨ρ3,e3,e⟩:=oB e;cases e;refine⟨Z,ρ,F,o1,ρ1,S,w,e1,λy H1 Z1 F1 G1 S1 O1 f1=>?_⟩
 obtain⟨Z2,F2,G2,h1,h2,h3⟩:=moved S1 O1 f1 e2;obtain⟨F3,k1,k2,k3⟩:=h1.gK h2 h3.nd e3;exact q _ H1 Z2 F3 k1 (h3.sub k2 k3) (P.set hp hp0)
abbrev FG:=Ap->Ev->Option Ev
abbrev uO:=List Ap->Ev->Option Ev
inductive vG(K:AT)(pv:Pv)(f:FG)(x:V)(σ:L2.St)(H:Hp)(Q:L2.St->Hp->Prop):Prop
 |mk (Z:Zs) (ρ:Ev) (F:List Addr) (d:Ap) (ρ':Ev):aS K H Z σ ρ F->F.Nodup->Pin pv σ->Fz K H Z x d->f d ρ=some ρ'->(∀σ' F',aS K H Z σ' ρ' F'->F'.Nodup->(∀a∈F',a∈F)->Pin pv σ'->Q σ' H)->vG K pv f x σ H Q
inductive EC(K:AT)(pv:Pv)(f:uO)(xs:List V)(σ:L2.St)(H:Hp)(Q:L2.St->Hp->Prop):Prop
 |mk (Z:Zs) (ρ:Ev) (F:List Addr) (ds:List Ap) (ρ':Ev):aS K H Z σ ρ F->F.Nodup->Pin pv σ->bu K H Z xs ds->f ds ρ=some ρ'->(∀σ' F',aS K H Z σ' ρ' F'->F'.Nodup->(∀a∈F',a∈F)->Pin pv σ'->Q σ' H)->EC K pv f xs σ H Q
def VG(X:Cx)(pin:List Nat)(tg:Expr)(f:FG):Prop:=∀pv,A0 pv pin->PG X tg (vG X.K pv f)
def DB(X:Cx)(pin:List Nat)(tg:List Expr)(f:uO):Prop:=∀pv,A0 pv pin->AK X tg (EC X.K pv f)
theorem xo{tg:Expr}{t t':TG}(h:PG X tg t)(i:∀x σ H Q,t' x σ H Q->t x σ H Q):PG X tg t':=λpins s σ H x u Q I r q=>h pins s σ H x u Q I r (i x σ H Q q)
theorem tL{tg:List Expr}{t t':yJ}(h:AK X tg t)(i:∀x σ H Q,t' x σ H Q->t x σ H Q):AK X tg t':=λpins s σ H x u Q I r q=>h pins s σ H x u Q I r (i x σ H Q q)
noncomputable def aj(i:Nat):FG:=λd ρ=>gK i (.v d) ρ
theorem zG{i:Nat}{x:Str}(hp0:i∉pin)(hN:X.N.Nodup)(hi:X.N[i]? = some x)(hx:Loc X.env.scope x)(hf:X.fn x=true\/X.env.scope.names.lookup x=some .local:=by first | exact .inl rfl | exact .inr rfl | assumption):VG X pin (.Name x pos) (aj i):=λpv hp=>xo (yK hN hi hx hf) λx σ H Q hq=>by
 obtain⟨Z,ρ,F,d,ρ',S,w,P,fz,e,q⟩:=hq;obtain⟨F3,k1,k2,k3⟩:=S.gK (.v fz) (by rw[E3]; exact w) e
 rw[E3] at k3;exact q _ F3 k1 k2 k3 (P.set hp hp0)
noncomputable def ez:uO:=λds ρ=>match ds with
 |[]=>some ρ
 |_=>none
noncomputable def aW(f:FG)(g:uO):uO:=λds ρ=>match ds with
 |d::ds=>(f d ρ).bind λρ1=>g ds ρ1
 |[]=>none
theorem zH:DB X pin [] ez:=λpv hp=>tL yL λxs σ H Q hq=>by
 obtain⟨Z,ρ,F,ds,ρ',S,w,P,fz,e,q⟩:=hq;cases fz with
 |nil=>cases e; exact⟨rfl,q σ F S w (λ_ h=>h) P⟩
 |cons _ _=>cases e
theorem xq{e:Expr}{es:List Expr}{f:FG}{g:uO}(h1:VG X pin e f)(h2:DB X pin es g)(hs:(H9 (e::es) X.env).map (·.2)=IG e X.env::(H9 es X.env).map (·.2):=by rfl):DB X pin (e::es) (aW f g):=λpv hp=>tL (vW (h1 pv hp) (h2 pv hp) hs) λxs σ H Q hq=>by
 obtain⟨Z,ρ,F,ds,ρ',S,w,P,fz,e,q⟩:=hq;cases fz with
 |nil=>cases e
 |cons z1 z2=>
  obtain⟨ρ1,e1,e⟩:=oB e;exact⟨_,_,rfl,Z,ρ,F,_,ρ1,S,w,P,z1,e1,λσ1 F1 S1 w1 s1 P1=>⟨Z,ρ1,F1,_,ρ',S1,w1,P1,z2,e,λσ2 F2 S2 w2 s2 P2=>q σ2 F2 S2 w2 (λa h=>s1 a (s2 a h)) P2⟩⟩
noncomputable def dS(n:Nat)(g:uO):FG:=λd ρ=>match d with
 |.tuple ds=>if ds.length=n then g ds ρ else none
 |_=>none
theorem Cn{es:List Expr}{k n:Nat}{g:uO}(hc:X.calm=true)(h:DB X pin es g)(hpg:∀t:yJ,AK X es t->PG X (.Tuple es k pos) (gTup X.K n t)):VG X pin (.Tuple es k pos) (dS n g):=λpv hp=>xo (hpg _ (h pv hp)) λx σ H Q hq=>by
 obtain⟨Z,ρ,F,d,ρ',S,w,P,fz,e,q⟩:=hq;unfold dS at e
 split at e
 ·split at e
  ·next hl=>
   obtain⟨a,xs,e1,e2,e3⟩:=fz.gT;exact⟨a,xs,e1,e2,by rw[e3.length]; exact hl,Z,ρ,F,_,ρ',S,w,P,e3,e,q⟩
  ·cases e
 ·cases e
noncomputable def xr(f:FE)(g:FG):FS:=λρ=>(f ρ).bind λp=>(cZ p.1 p.2).bind λq=>(g q.1 q.2).bind λρ'=>some (.nx ρ')
theorem Co{tg e:Expr}{f:FE}{g:FG}(he:VE X e f)(hg:VG X pin tg g)(hs:Jo [tg] e pos.line X.env=pure false:=by rfl)(hw:Jp [tg] e X.env=pure none:=by rfl)
  (hps:∀(te:TE)(t:TG),PE X e te->PG X tg t->PS X (.Assign [tg] e pos) (lY te t):=by exact λ_ _ h1 h2=>nR h1 h2):VS X pin (.Assign [tg] e pos) (xr f g):=λpv hp=>gJ (hps _ _ he (hg pv hp)) λD σ H hq=>by
 obtain⟨Z,ρ,F,o,S,w,P,e,q⟩:=hq;obtain⟨⟨o1,ρ1⟩,e1,e⟩:=oB e;obtain⟨⟨d,ρ2⟩,e2,e⟩:=oB e;obtain⟨ρ3,e3,e⟩:=oB e;cases e;refine⟨Z,ρ,F,o1,ρ1,S,w,e1,λy H1 Z1 F1 G1 S1 O1 f1=>?_⟩
 obtain⟨Z2,F2,h1,h2,h3,_⟩:=gV S1 O1 f1 e2;exact⟨Z2,ρ2,F2,d,ρ3,h1,h3.nd,P,h2,e3,λσ' F' S' w' s' P'=>q σ' H1 Z2 F' S' (h3.sub w' s') P'⟩
noncomputable def parO(i j:Nat):List cU->Ev->Option Out
 |[o1,.t m2],ρ=>(oW o1 ρ).bind λq1=>(gK i q1.1 q1.2).bind λρ1=>(gK j m2 ρ1).bind λρ2=>some (.nx ρ2)
 |_,_=>none
noncomputable def rV(i j:Nat)(fa:FA):FS:=λρ=>(fa ρ).bind λp=>parO i j p.1 p.2
theorem Cp{i j:Nat}{a b:Expr}{fa:FA}{st:Stmt}(hpi:i∉pin)(hpj:j∉pin)(ha:VA X [a,b] fa)(hps:∀t:TA,PA X [a,b] t->PS X st (tPar i j t)):VS X pin st (rV i j fa):=λpv hp=>gJ (hps _ ha) λD σ H hq=>by
  obtain⟨Z,ρ,F,o,S,w,P,e,q⟩:=hq;obtain⟨⟨os,ρ1⟩,e1,e⟩:=oB e;refine⟨Z,ρ,F,os,ρ1,S,w,e1,λxs H1 Z1 F1 G1 S1 O1 f1=>?_⟩
  have e:parO i j os ρ1=some o:=e
  clear e1
  rcases os with _ | ⟨o1,_ | ⟨o2,_ | ⟨o3,os⟩⟩⟩
  · cases e
  · cases e
  · cases o2 with
   |p _=>cases e
   |q _ _=>cases e
   |t m2=>
    obtain⟨⟨m1,ρ2⟩,e2,e⟩:=oB e;cases O1 with
    |@cons x1 _ Ga _ _ _ p1 r1=>
     cases r1 with
     |@cons x2 _ Gb _ _ _ p2 r2=>
         cases r2;obtain⟨ρ3,e3,e⟩:=oB e;obtain⟨ρ4,e4,e⟩:=oB e;cases e;rw[E3] at f1;have f1':aF H Z F H1 Z1 (F1++Ga++Gb):=f1.assoc';cases p2 with
         |t w2=>
          have al:=w2.al;have key:∃Z' F' G',aS X.K H1 Z' σ ρ2 F'/\Ow X.K H1 Z' x1 m1 G'/\aF H Z F H1 Z' (F'++G'++Gb)/\aM H1 Z1 H1 Z':=by
            cases o1 with
            |t m=>
             cases e2;cases p1 with
             |t w1=>exact⟨Z1,F1,Ga,S1,w1,f1',aM.refl⟩
            |p k=>
             obtain⟨m,e5,e2⟩:=oB e2;cases e2;cases p1 with
             |p q1=>
              rw[E3] at f1';obtain⟨n1,n2,n3⟩:=bI f1'.nd;obtain⟨x',G',F1',t1,t2,t3,t4,t5⟩:=S1.take n1 (aE.mp e5);rw[q1] at t1; cases t1;refine⟨Z1,F1',G',t3,t2,f1'.sub (aP t4 n2 λa h z=>n3 a (t5 a h) z) (λa h=>?_),aM.refl⟩
              rcases lM h with h | h
              · exact lL _ (t5 a h)
              · exact lR _ h
            |q k1 k2=>
             obtain⟨⟨d,ρ'⟩,e5,e2⟩:=oB e2;cases e2;obtain⟨Z',F',z1,z2,z3,z4⟩:=freeze S1 p1 f1' e5;exact⟨Z',F',[],z1,.v z2,by rw[E3]; exact z3,z4⟩
          obtain⟨Z2,F2,G2,h1,h2,h3,h4⟩:=key;obtain⟨n1,n2,n3,n4,n5,n6⟩:=DJ h3.nd;obtain⟨F3,k1,k2,k3⟩:=h1.gK h2 (aP n1 n2 n4) e3;obtain⟨F4,l1,l2,l3⟩:=k1.gK (w2.mono h4 λ_ _ _ e=>e) (aP k2 n3 λa h z=>by
            rcases lM (k3 a h) with y | y
            · exact n5 a y z
            · exact n6 a y z) e4
          refine⟨x1,x2,rfl,q _ H1 Z2 F4 l1 (h3.sub l2 λa h=>?_) ((P.set hp hpi).set hp hpj)⟩
          rcases lM (l3 a h) with y | y
          · exact lL _ (k3 a y)
          · exact lR _ y
  · cases o2 <;> cases e
end
structure jE(K:AT)(J:It)(H:Hp)(Z:Zs)(ds:List Ap):Prop where
 go:∀H2 Z2,aM H Z H2 Z2->∀k d,ds[k]? = some d->J.go k H2/\∀x H',J.yld k H2 x H'->bB H2 H'/\Fz K H' Z2 x d
 stop:∀H2 Z2,aM H Z H2 Z2->∀k,ds.length<=k->J.stop k H2
abbrev FI:=Ev->Option (List Ap×Ev)
inductive vI(K:AT)(f:FI)(σ:L2.St)(H:Hp)(R:It->Hp->Prop):Prop
 |mk (Z:Zs) (ρ:Ev) (F:List Addr) (ds:List Ap) (ρ':Ev):aS K H Z σ ρ F->Wf H Z F->f ρ=some (ds,ρ')->(∀J H' Z' F',aS K H' Z' σ ρ' F'->jE K J H' Z' ds->aF H Z F H' Z' F'->R J H')->vI K f σ H R
abbrev VI(X:Cx)(tg iter:Expr)(f:FI):Prop:=PI X tg iter (vI X.K f)
theorem jE.mono{K:AT}{J:It}{H H1:Hp}{Z Z1:Zs}{ds:List Ap}(h:jE K J H Z ds)(g:aM H Z H1 Z1):jE K J H1 Z1 ds:=⟨λH2 Z2 g2=>h.go H2 Z2 (g.trans g2),λH2 Z2 g2=>h.stop H2 Z2 (g.trans g2)⟩
section
variable{X:Cx}{pos:Pos}{pin:List Nat}{tg:Expr}
theorem rW{it:Expr}{t t':TI}(h:PI X tg it t)(i:∀σ H R,t' σ H R->t σ H R):PI X tg it t':=λpins s σ H R I q=>h pins s σ H R I (i σ H R q)
theorem Cq{it:Expr}{t u:TI}(h:PI X tg it t)(h':PI X tg it u):PI X tg it (λσ H R=>t σ H R\/u σ H R):=λpins s σ H R I q=>q.elim (h pins s σ H R I) (h' pins s σ H R I)
noncomputable def Cr:Ap->Option (List Ap)
 |.tuple ds=>some ds
 |.list ds=>some ds
 |_=>none
noncomputable def bC(f:FE):FI:=λρ=>(f ρ).bind λp=>(cZ p.1 p.2).bind λq=>(Cr q.1).bind λds=>some (ds,q.2)
theorem zI{K:AT}{H:Hp}{Z:Zs}{a:Addr}{ds:List Ap}(h:Fz K H Z (.ref a) (.list ds)):jE K (DF K a) H Z ds:=by
 refine⟨λH2 Z2 g k d hd=>?_,λH2 Z2 g k hk=>?_⟩
 ·obtain⟨a',xs,e,r,fs⟩:=(h.mono g).lst_inv
  cases e;obtain⟨x,h1,h2⟩:=fs.get' hd;refine⟨⟨xs,x,r,h1⟩,λy H' hy=>?_⟩
  obtain⟨rfl,hy⟩:=hy;have:=hy xs r;rw[h1] at this; cases this;exact⟨bB.refl _,h2⟩
 ·obtain⟨a',xs,e,r,fs⟩:=(h.mono g).lst_inv
  cases e;exact⟨xs,r,by rw[fs.length]; exact hk⟩
theorem zJ{K:AT}{H:Hp}{Z:Zs}{a:Addr}{xs:List V}{ds:List Ap}{k:Nat}{d:Ap}{y:V}(r:dR K H a xs)(fs:bu K H Z xs ds)(hd:ds[k]? = some d)(hy:∀xs,dR K H a xs->xs[k]? = some y):Fz K H Z y d:=by
 obtain⟨x,h1,h2⟩:=fs.get' hd;have:=hy xs r;rw[h1] at this; cases this;exact h2
theorem Cs{K:AT}{H:Hp}{Z:Zs}{a:Addr}{ds:List Ap}(h:Fz K H Z (.ref a) (.tuple ds)):jE K (DR K a) H Z ds:=by
 refine⟨λH2 Z2 g k d hd=>?_,λH2 Z2 g k hk=>?_⟩
 ·obtain⟨a',xs,e,r,fs⟩:=(h.mono g).gT
  cases e;obtain⟨x,h1,h2⟩:=fs.get' hd;refine⟨⟨xs,x,r,h1⟩,λy H' hy=>?_⟩
  obtain⟨rfl,hy⟩:=hy;exact⟨bB.refl _,zJ r fs hd hy⟩
 ·obtain⟨a',xs,e,r,fs⟩:=(h.mono g).gT
  cases e;exact⟨xs,r,by rw[fs.length]; exact hk⟩
theorem Ct{l:Expr}{f:FE}(h:VE X l f):VI X tg l (bC f):=rW (Cq (sI h) (Bp h)) λσ H R hq=>by
 obtain⟨Z,ρ,F,ds,ρ',S,w,e,q⟩:=hq;obtain⟨⟨o1,ρ1⟩,e1,e⟩:=oB e;obtain⟨⟨d,ρ2⟩,e2,e⟩:=oB e;obtain⟨ds',e3,e⟩:=oB e;cases e;have key:∀x H1 Z1 F1 G1,aS X.K H1 Z1 σ ρ1 F1->mH X.K H1 Z1 σ x o1 G1->aF H Z F H1 Z1 (F1++G1)->∃Z2,Fz X.K H1 Z2 x d/\∀J,jE X.K J H1 Z2 ds->R J H1:=λx H1 Z1 F1 G1 S1 O1 f1=>by
  obtain⟨Z2,F2,h1,h2,h3,_⟩:=gV S1 O1 f1 e2;exact⟨Z2,h2,λJ hJ=>q J H1 Z2 F2 h1 hJ h3⟩
 cases d with
 |tuple ds0=>
  cases e3;refine .inr ⟨Z,ρ,F,o1,ρ1,S,w,e1,λx H1 Z1 F1 G1 S1 O1 f1=>?_⟩
  obtain⟨Z2,h2,h3⟩:=key x H1 Z1 F1 G1 S1 O1 f1;obtain⟨a,xs,rfl,r,fs⟩:=h2.gT;exact⟨a,rfl,⟨xs,r⟩,h3 _ (Cs h2)⟩
 |list ds0=>
  cases e3;refine .inl ⟨Z,ρ,F,o1,ρ1,S,w,e1,λx H1 Z1 F1 G1 S1 O1 f1=>?_⟩
  obtain⟨Z2,h2,h3⟩:=key x H1 Z1 F1 G1 S1 O1 f1;obtain⟨a,xs,rfl,r,fs⟩:=h2.lst_inv;exact⟨a,rfl,⟨xs,r⟩,h3 _ (zI h2)⟩
 |_=>cases e3
noncomputable def aQ(lo hi:Int):List Ap:=(FD (hi-lo).toNat).map λk:Nat=>Fe (lo+k)
noncomputable def j9:Int:=1000000000
noncomputable def cu(i:Int):Bool:=decide (-j9<=i/\i<=j9)
theorem jF{i:Int}(h:cu i=true) : -(2 ^ 62)<=i/\i<2 ^ 62:=by
 have h:=of_decide_eq_true h;unfold j9 at h;lia
noncomputable def eB:List M->Option (List Ap)
 |[.v (.int j)]=>if cu j=true then some (aQ 0 j) else none
 |_=>none
noncomputable def xu:List M->Option (List Ap)
 |[.v (.int i),.v (.int j)]=>if cu i=true/\cu j=true then some (aQ i j) else none
 |_=>none
noncomputable def bX(g:List M->Option (List Ap))(fa:FA):FI:=λρ=>(fa ρ).bind λp=>(iy p.2 p.1).bind λms=>(g ms).bind λds=>some (ds,p.2)
theorem xw{K:AT}{H:Hp}{Z:Zs}(lo hi:Int):jE K (Dw lo (hi-lo).toNat) H Z (aQ lo hi):=by
 refine⟨λH2 Z2 g k d hd=>?_,λH2 Z2 g k hk=>?_⟩
 ·unfold aQ at hd
  rw[Fs] at hd;obtain⟨j,h1,h2⟩:=Go.mp hd;obtain⟨h3,h4⟩:=EY.mp h1;rw[Fj] at h3;rw[MT] at h4;subst h4; subst h2;refine⟨h3,λx H' hx=>?_⟩
  obtain⟨rfl,rfl⟩:=hx;exact⟨bB.refl _,.int _⟩
 ·unfold aQ at hk
  rw[B2,Fj] at hk;exact hk
theorem tM{fa:FA}{σ:L2.St}{H:Hp}{R:It->Hp->Prop}{ms:List M}{ds:List Ap}{Z:Zs}{ρ ρ1:Ev}{F:List Addr}{os:List cU}(S:aS X.K H Z σ ρ F)(w:Wf H Z F)(e1:fa ρ=some (os,ρ1))(e2:iy ρ1 os=some ms)
  (q:∀J H' Z' F',aS X.K H' Z' σ ρ1 F'->jE X.K J H' Z' ds->aF H Z F H' Z' F'->R J H') {T:List V->Hp->Prop} (hT:∀xs H1 Z1,Dd X.K H1 Z1 xs ms->(∀J,jE X.K J H1 Z1 ds->R J H1)->T xs H1):vA X.K fa σ H T :=
 ⟨Z,ρ,F,os,ρ1,S,w,e1,λxs H1 Z1 F1 G1 S1 O1 f1=>hT xs H1 Z1 (O1.peek S1 e2) λJ hJ=>q J H1 Z1 F1 S1 hJ f1.left⟩
theorem zK{a:Expr}{fa:FA}{p:Pos}(hg:Gl X "range")(hm:X.mg "range" = none)(ha:VA X [a] fa)(hs:E5 [a] X.env=[(false,eval a X.env)]:=by rfl):VI X tg (.Call (.Name "range" p) [a] [] pos) (bX eB fa):=rW (um hg hm ha hs) λσ H R hq=>by
 obtain⟨Z,ρ,F,ds,ρ',S,w,e,q⟩:=hq;obtain⟨⟨os,ρ1⟩,e1,e⟩:=oB e;obtain⟨ms,e2,e⟩:=oB e;obtain⟨ds',e3,e⟩:=oB e;cases e;refine tM S w e1 e2 q λxs H1 Z1 r h=>?_
 unfold eB at e3
 split at e3
 ·rename_i j
  split at e3
  ·next hl=>
   cases e3;obtain⟨x,rfl,h1⟩:=ff r;obtain rfl:=h1.int;have hj:=jF hl;refine⟨_,rfl,hj.1,hj.2,h _ ?_⟩;have k:=xw (K:=X.K) (H:=H1) (Z:=Z1) 0 j;rw[Int.sub_zero] at k;exact k
  ·cases e3
 ·cases e3
theorem zL{a b:Expr}{fa:FA}{p:Pos}(hg:Gl X "range")(hm:X.mg "range" = none)(ha:VA X [a,b] fa)(hs:E5 [a,b] X.env=[(false,eval a X.env),(false,eval b X.env)]:=by rfl)(hs2:E5 [b] X.env=[(false,eval b X.env)]:=by rfl):VI X tg (.Call (.Name "range" p) [a,b] [] pos) (bX xu fa):=rW (uo hg hm ha hs hs2) λσ H R hq=>by
 obtain⟨Z,ρ,F,ds,ρ',S,w,e,q⟩:=hq;obtain⟨⟨os,ρ1⟩,e1,e⟩:=oB e;obtain⟨ms,e2,e⟩:=oB e;obtain⟨ds',e3,e⟩:=oB e;cases e;refine tM S w e1 e2 q λxs H1 Z1 r h=>?_
 unfold xu at e3
 split at e3
 ·rename_i i j
  split at e3
  ·next hl=>
   cases e3;obtain⟨x,y,rfl,h1,h2⟩:=ros2 r;obtain rfl:=h1.int; obtain rfl:=h2.int;have hi:=jF hl.1;have hj:=jF hl.2;exact⟨_,_,rfl,⟨hi.1,hi.2,hj.1,hj.2⟩,h _ (xw i j)⟩
  ·cases e3
 ·cases e3
noncomputable def forL(fg:FG)(fb:FS):List Ap->Ev->Option Out
 |[],ρ=>some (.nx ρ)
 |d::ds,ρ=>(fg d ρ).bind λρ1=>(fb ρ1).bind λo=>match o with
  |.nx ρ2=>forL fg fb ds ρ2
  |.ct ρ2=>forL fg fb ds ρ2
  |.bk ρ2=>some (.nx ρ2)
  |.rt m ρ2=>some (.rt m ρ2)
noncomputable def ji(fi:FI)(fg:FG)(fb:FS):FS:=λρ=>(fi ρ).bind λp=>forL fg fb p.1 p.2
theorem zM{fi:FI}{fg:FG}{fb:FS}{pv:Pv}{D:Ends}{σ:L2.St}{H:Hp}(hq:vS X.K pv (ji fi fg fb) D σ H):tFor (vI X.K fi) (vG X.K pv fg) (vS X.K pv fb) D σ H:=by
 obtain⟨Z,ρ,F,o,S,w,P,e,q⟩:=hq;obtain⟨⟨ds,ρ1⟩,e1,e⟩:=oB e;refine⟨Z,ρ,F,ds,ρ1,S,w,e1,λJ H1 Z1 F1 S1 hJ f1=>?_⟩
 refine⟨λi m σ' H'=>m=ds.length-i/\i<=ds.length/\∃Z' ρ' F',aS X.K H' Z' σ' ρ' F'/\Wf H' Z' F'/\Pin pv σ'/\aM H1 Z1 H' Z'/\∃out,forL fg fb (ds.drop i) ρ'=some out/\qo X.K pv D H' Z' F' out,⟨_,rfl,FV _,Z1,ρ1,F1,S1,f1.wf,P,aM.refl,o,e,q.trans f1⟩,λi m σ2 H2 hW=>?_⟩
 obtain⟨rfl,hi,Z2,ρ2,F2,S2,w2,P2,g2,out,e2,q2⟩:=hW;rcases Me hi with hi | rfl
 ·right
  rw[Fv hi] at e2;have hd:ds[i]? = some ds[i]:=Do hi;obtain⟨go,yl⟩:=hJ.go H2 Z2 g2 i _ hd;obtain⟨ρ3,e3,e2⟩:=oB e2;obtain⟨o3,e4,e2⟩:=oB e2;refine⟨go,λσ' H'=>∃m',m'<ds.length-i/\m'=ds.length-(i+1)/\i+1<=ds.length/\∃Z' ρ' F',aS X.K H' Z' σ' ρ' F'/\Wf H' Z' F'/\Pin pv σ'/\aM H1 Z1 H' Z'/\∃out,forL fg fb (ds.drop (i+1)) ρ'=some out/\qo X.K pv D H' Z' F' out,λσ' H' h=>h,λx H' hx=>?_⟩
  obtain⟨s,fz⟩:=yl x H' hx;have gs:aM H2 Z2 H' Z2:=aM.same s;have S2':=S2.mono gs λa _ o e=>s a o e
  have fs:aF H2 Z2 F2 H' Z2 F2:=by
   have:=(aF.same s w2.za).news w2 S2.al;rw[E3] at this;exact this
  refine⟨Z2,ρ2,F2,_,ρ3,S2',w2.nd,P2,fz,e3,λσ3 F3 S3 n3 s3 P3=>?_⟩
  have f3:aF H2 Z2 F2 H' Z2 F3:=fs.sub n3 s3;refine⟨Z2,ρ3,F3,o3,S3,f3.wf,P3,e4,?_⟩;have again:∀ρ4,forL fg fb (ds.drop (i+1)) ρ4=some out->∀σ' H4 Z4 F4,aS X.K H4 Z4 σ' ρ4 F4->aF H' Z2 F3 H4 Z4 F4->Pin pv σ'->∃m',m'<ds.length-i/\m'=ds.length-(i+1)/\i+1<=ds.length/\∃Z' ρ' F',aS X.K H4 Z' σ' ρ' F'/\Wf H4 Z' F'/\Pin pv σ'/\aM H1 Z1 H4 Z'/\∃out,forL fg fb (ds.drop (i+1)) ρ'=some out/\qo X.K pv D H4 Z' F' out:=λρ4 e5 σ' H4 Z4 F4 S4 f4 P4=>
   ⟨_,by lia,rfl,hi,Z4,ρ4,F4,S4,f4.wf,P4,(g2.trans gs).trans (f4.grow f3.wf),out,e5,q2.trans (f3.trans f4)⟩
  cases o3 with
  |nx ρ4=>exact again ρ4 e2
  |ct ρ4=>exact again ρ4 e2
  |bk ρ4=>cases e2; exact λσ' H4 Z4 F4 S4 f4 P4=>q2 σ' H4 Z4 F4 S4 (f3.trans f4) P4
  |rt m ρ4=>cases e2; exact λx σ' H4 Z4 F4 G S4 O4 f4 P4=>q2 x σ' H4 Z4 F4 G S4 O4 (f3.trans f4) P4
 ·left
  rw[Ic] at e2;cases e2;exact⟨hJ.stop H2 Z2 g2 _ (Da _),q2 σ2 H2 Z2 F2 S2 (aF.refl w2) P2⟩
theorem Cu{iter:Expr}{body:List Stmt}{fi:FI}{fg:FG}{fb:FS}(hp0:PassesOwn (model X.prog X.w) X.A X.env X.xe)(hc:X.calm=true)(hi:VI X tg iter fi)(hg:VG X pin tg fg)(hb:zA X pin body fb)
  (hs:∀x,FY iter X.env x=pure x:=by intro _; rfl):VS X pin (.For tg iter body [] pos) (ji fi fg fb):=λpv hp=>gJ (Bq hp0 hc hi (hg pv hp) (hb pv hp) hs) λ_ _ _ hq=>zM hq
end
noncomputable def fin:List Bool->List M->Ev->Option (List M)
 |[],[],_=>some []
 |true::ps,_::ms,some m'::ρ=>(fin ps ms ρ).bind λms'=>some (m'::ms')
 |false::ps,.v d::ms,_::ρ=>(fin ps ms ρ).bind λms'=>some (.v d::ms')
 |_,_,_=>none
section
variable{K:AT}{H:Hp}{Z:Zs}
theorem rX:∀{ps:List Bool}{ms:List M}{ρ:Ev}{ms':List M}{σ:L2.St}{F:List Addr}{vs:List V},aS K H Z σ ρ F->F.Nodup->(∀(i:Nat)x,ps[i]? = some true->vs[i]? = some x->σ[i]? = some (some x)) ->
  (∀(i:Nat)x d,ps[i]? = some false->vs[i]? = some x->ms[i]? = some (.v d)->Fz K H Z x d)->vs.length=ms.length->fin ps ms ρ=some ms'->∃A,rT K H Z vs ms' A/\A.Nodup/\∀a∈A,a∈F:=by
 intro ps
 induction ps with
 |nil=>
  intro ms ρ ms' σ F vs S nd _ _ hl e;cases ms with
  |cons _ _=>cases e
  |nil=>
   have e:some []=some _:=e;cases e;have:vs=[]:=HF.mp (by simpa using hl)
   subst this;exact⟨[],.nil,G7,λa h=>by simp at h⟩
 |cons p ps ih=>
  intro ms ρ ms' σ F vs S nd h1 h2 hl e;cases ms with
  |nil=>cases p <;> cases e
  |cons m ms=>
  cases vs with
  |nil=>simp at hl
  |cons v vs=>
  have hl':vs.length=ms.length:=by simpa using hl
  have h2':∀(i:Nat)x d,ps[i]? = some false->vs[i]? = some x->ms[i]? = some (.v d)->Fz K H Z x d:=λi x d p q z=>h2 (i+1) x d (by simpa using p) (by simpa using q) (by simpa using z)
  have hσ:∀{x:Option V}{σ':L2.St},σ=x::σ'->(∀(i:Nat)x,ps[i]? = some true->vs[i]? = some x->σ'[i]? = some (some x)):=λ{x σ'}eσ i y p q=>by
   have:=h1 (i+1) y (by simpa using p) (by simpa using q)
   rw[eσ] at this;simpa using this
  cases p with
  |true=>
   cases S with
   |nil=>cases e
   |non r=>cases e
   |@som x m' G σ ρ F q r=>
    obtain⟨ms',e1,e⟩:=oB e;cases e;obtain⟨n1,n2,n3⟩:=bI nd;have hx:=h1 0 v rfl rfl;cases hx;obtain⟨A,a1,a2,a3⟩:=ih r n2 (hσ rfl) h2' hl' e1;refine⟨G++A,.cons q a1,aP n1 a2 λa h z=>n3 a h (a3 a z),λa h=>?_⟩
    rcases lM h with h | h
    ·exact lL _ h
    ·exact lR _ (a3 a h)
  |false=>
   cases m with
   |lst _=>cases ρ <;> cases e
   |bP _=>cases ρ <;> cases e
   |gq _=>cases ρ <;> cases e
   |dtp _=>cases ρ <;> cases e
   |v d=>
   cases ρ with
   |nil=>cases e
   |cons c ρ=>
   obtain⟨ms',e1,e⟩:=oB e;cases e;have key:∀{σ':L2.St}{F':List Addr},aS K H Z σ' ρ F'->F'.Nodup->(∀a∈F',a∈F)->(∀(i:Nat)x,ps[i]? = some true->vs[i]? = some x->σ'[i]? = some (some x))->∃A,rT K H Z (v::vs) (.v d::ms') A/\A.Nodup/\∀a∈A,a∈F:=λS' nd' sub h1'=>by
    obtain⟨A,a1,a2,a3⟩:=ih S' nd' h1' h2' hl' e1;exact⟨[]++A,.cons (.v (h2 0 v d rfl rfl rfl)) a1,by rw[Fm]; exact a2,λa h=>by rw[Fm] at h; exact sub a (a3 a h)⟩
   cases S with
   |non r=>exact key r nd (λ_ h=>h) (hσ rfl)
   |som q r=>exact key r (bI nd).2.1 (λa h=>lR _ h) (hσ rfl)
theorem aS.xx:∀{xs:List V}{ms:List M}{A:List Addr}(n:Nat),rT K H Z xs ms A->aS K H Z (xs.map some++E7 n none) (ms.map some++E7 n none) A:=by
 intro xs ms A n h
 induction h with
 |nil=>
  induction n with
  |zero=>exact .nil
  |succ n ih=>exact .non ih
 |cons h r ih=>exact .som h ih
theorem aS.tN{xs:List V}{ms:List M}{A:List Addr}(h:rT K H Z xs ms A):∀n:Nat,aS K H Z (E7 n none++xs.map some) (E7 n none++ms.map some) A
 |0=>by have:=aS.xx 0 h; simpa using this
 |n+1=>.non (aS.tN h n)
end
noncomputable def gm(ps:List Bool)(n:Nat)(fb:FS):FF:=λms=>if ms.length=ps.length then (fb (ms.map some++E7 (n-ms.length) none)).bind λo=>match o with
 |.rt m ρ=>(fin ps ms ρ).bind λms'=>some (m,ms')
 |.nx ρ=>(fin ps ms ρ).bind λms'=>some (.v .none,ms')
 |_=>none
 else none
noncomputable def pins:List Bool->Nat->List Nat
 |[],_=>[]
 |true::ps,k=>k::pins ps (k+1)
 |false::ps,k=>pins ps (k+1)
theorem lB:∀{ps:List Bool}{k i:Nat},ps[i]? = some true->k+i∈pins ps k
 |[],_,_,h=>by simp at h
 |true::ps,k,0,_=>lS
 |true::ps,k,i+1,h=>lO _ (by have:=lB (k:=k+1) (i:=i) (ps:=ps) (by simpa using h); rw[show k+(i+1)=k+1+i by lia]; exact this)
 |false::ps,k,0,h=>by simp at h
 |false::ps,k,i+1,h=>by have:=lB (k:=k+1) (i:=i) (ps:=ps) (by simpa using h); rw[show k+(i+1)=k+1+i by lia]; exact this
theorem rT.get{K:AT}{H:Hp}{Z:Zs}:∀{xs:List V}{ms:List M}{A:List Addr}{i:Nat}{x:V}{m:M},rT K H Z xs ms A->xs[i]? = some x->ms[i]? = some m->∃G,Ow K H Z x m G:=by
 intro xs ms A i x m h
 induction h generalizing i with
 |nil=>intro e; simp at e
 |cons h r ih=>
  intro e e';cases i with
  |zero=>cases e; cases e'; exact⟨_,h⟩
  |succ i=>exact ih (i:=i) (by simpa using e) (by simpa using e')
section
variable{P:FB}{w:World}{K:AT}{mg:Str->Option Value}{base:Heap}
theorem Cv{x qual:Str}{st:Stmt}{f:Addr}{fd:Hh}{N prs:List Str}{k:Nat}(ps:List Bool){fb:FS}(Fn:oh K x qual st f fd)(S:bF N prs (aq st))(hl:prs.length=ps.length)
  (hb:∀(cdv:Value)(A:Fa)(outer:List Env)(s:B1)(H:Hp)(E:XK),eN k (A.deeper (K3 qual (aq st) s.heap.objs.size f cdv))->zA (pT j6 P w K mg base N qual (aq st) f cdv A outer s H E).C7 (pins ps 0) (bh st) fb) :
  cY P w K mg base j6 (k+1) f fd prs (dZ K (gm ps N.length fb)):=by
 refine Fn.ok S (λvs H Q E h=>?_) λcdv A outer s H vs Q E hr h=>?_
 ·obtain⟨Z,ms,A,m,ms',h1,_,e,_⟩:=h
  unfold gm at e
  split at e
  ·next he=>rw[hl,<-he,h1.length]
  ·cases e
 ·obtain⟨Z,ms,A',m,ms',h1,h2,e,q⟩:=h
  unfold gm at e
  split at e
  ·next he=>
   let pv:Pv:=λi=>if ps[i]? = some true then vs[i]? else none
   have sup:A0 pv (pins ps 0):=λj y e=>by
    have e:(if ps[j]? = some true then vs[j]? else none)=some y:=e
    split at e
    ·next hj=>have:=lB (k:=0) hj; rwa [M4] at this
    ·cases e
   refine⟨_,hb cdv A outer s H E hr pv sup,?_⟩;obtain⟨o,e1,e⟩:=oB e;have hlen:=h1.length;have pin0:Pin pv (L2.start N vs):=λi y e=>by
    have e:(if ps[i]? = some true then vs[i]? else none)=some y:=e
    split at e
    ·unfold L2.start
     rw[Fu (by rw[B2]; exact(EY.mp e).1),Fs,e]
     rfl
    ·cases e
   have S0:aS K H Z (L2.start N vs) (ms.map some++E7 (N.length-ms.length) none) A':=by
    have:=aS.xx (N.length-ms.length) h1;rw[<-hlen] at this;unfold L2.start;rw[<-hlen];exact this
   have fz0:∀(i:Nat)x d,ps[i]? = some false->vs[i]? = some x->ms[i]? = some (.v d)->Fz K H Z x d:=λi x d _ h h'=>by
    obtain⟨G,z⟩:=h1.get h h';cases z with
    |v f=>exact f
   have pinR:∀{σ':L2.St},Pin pv σ'->∀(i:Nat)x,ps[i]? = some true->vs[i]? = some x->σ'[i]? = some (some x):=λ{σ'}P' i x h h'=>P' i x (by show (if ps[i]? = some true then vs[i]? else none)=some x; rw[if_pos h]; exact h')
   refine⟨Z,_,A',o,S0,h2,pin0,e1,?_⟩;cases o with
   |nx ρ=>
    obtain⟨ms2,e2,e⟩:=oB e;cases e;intro σ' H' Z' F' S' f' P';obtain⟨A2,a1,a2,a3⟩:=rX S' f'.nd (pinR P') (λi x d h h' h''=>(fz0 i x d h h' h'').mono (f'.grow h2)) hlen e2
    exact q .non H' Z' A2 [] a1 (.v .non) (f'.sub a2 a3).nil
   |rt m2 ρ=>
    obtain⟨ms2,e2,e⟩:=oB e;cases e;intro x σ' H' Z' F' G S' O' f' P';obtain⟨n1,n2,n3⟩:=bI f'.nd;obtain⟨A2,a1,a2,a3⟩:=rX S' n1 (pinR P') (λi x d h h' h''=>(fz0 i x d h h' h'').mono (f'.grow h2)) hlen e2
    refine q x H' Z' A2 G a1 O' (f'.sub (aP a2 n2 λa h z=>n3 a (a3 a h) z) λa h=>?_)
    rcases lM h with h | h
    ·exact lL _ (a3 a h)
    ·exact lR _ h
   |bk ρ=>cases e
   |ct ρ=>cases e
  ·cases e
end
end VL
end
section
namespace L2
open PySem PySem.Spec PyProof.Rows
theorem jG:Lv (.type "zip") "__getattr__" = pure none:=by rw[typeLookup_type,Ml]; kernel_rfl
theorem mJ:Lv (.type "zip") "keys" = pure none:=by rw[typeLookup_type,Ml]; kernel_rfl
theorem fT:entryFor table "zip.__getattribute__" = some Gg.«object.__getattribute__» :=
 entryFor_alias (id' := "object.__getattribute__") (by kernel_rfl) (by decide +kernel) (by decide +kernel) (by kernel_rfl)
theorem xy(a:Addr)(xs:Array Value)(sl:Array (Option Value))(u:Tok) :
  Meets (Gg.«object.__getattribute__» ⟨[.ref a,.str "keys" u],[]⟩) (λA R s=>s.heap.get? a=some { cls:=.type "zip",dict:=none,data:=.fields xs,slots:=sl }/\raisesAttr (.ref a) "keys" A R s) :=
 Meets.of_wp λprog w A R s hs=>by
  obtain⟨hp,g,d,tk,os⟩:=s;obtain⟨hx,hs⟩:=hs;have hmiss:=mJ;have hname:(["__module__", "__name__", "__qualname__", "__doc__", "__annotations__"]:List Str).contains "keys" = false:=by decide
  have hT:(⟨hp,g,d,tk,os⟩:B1).TypeIs (.ref a) "zip" := ⟨_,hx,rfl⟩;unfold Gg.«object.__getattribute__»
  repeat (any_goals (first | assumption | wp_step))
  try simp only[hname,IR,if_false]
  try repeat (any_goals (first | assumption | wp_step))
  exact wpAny_raiseAttrError hs.1 hs.2 (attrMsg_fits (by decide +kernel) (by decide))
theorem rY{prog:FB}{w:World}{A:Fa}{E:Value->B1->Prop}{s:B1}{a:Addr}{xs:Array Value}{sl:Array (Option Value)}{Q:Option Value->B1->Prop}
  (hx:s.heap.get? a=some { cls:=.type "zip",dict:=none,data:=.fields xs,slots:=sl }) (hA:A.handled=none)
  (h:∀h' tk,(∀b o,s.heap.get? b=some o->h'.get? b=some o)->Q none { s with heap:=h',toks:=tk }):wpAny (model prog w) A (getAttr? (.ref a) "keys") Q E s:=by
 obtain⟨hp,g,d,tk,os⟩:=s;have hT:∀tk',(⟨hp,g,d,tk',os⟩:B1).TypeIs (.ref a) "zip" := λ_=>⟨_,hx,rfl⟩
 have f1:=sub_AttributeError;have f3:=Jr.lookup;have f4:=Jr.bind (.ref a);have f5:=jG;unfold getAttr? getAttrBy? getAttrBy
 repeat (any_goals (first | assumption | exact hT _ | ((with_reducible show wpAny _ _ (call (Value.builtin "zip.__getattribute__") _ _) _ _ _); refine Lz Jr (hT _) fT (F.args_zip_getattribute_2 _ _) (xy a xs sl _) ⟨hx,hA,λh' tk' e hx' =>?_⟩) | wp_step))
 obtain⟨t',u',he⟩:=hx'.there;show wpAny _ _ (NH _ _ _ _ _ _ _) _ _ _;unfold NH
 repeat (any_goals (first | assumption | wp_step))
 exact h h' tk' hx'.keeps
section
variable{prog:FB}{w:World}{A:Fa}{E:Value->B1->Prop}{s:B1}{t1 t2:Bool}
theorem jj{a:Addr}{Q:Option Obj->B1->Prop}(h:Q (s.heap.get? a) s):wpAny (model prog w) A (loadIfAlive a) Q E s:=λ_ _ _=>h
abbrev IsZ2(h:Heap)(z TI TO:Addr)(f0 f1:Value):Prop :=
 h.get? z=some { cls:=.type "zip",dict:=none,data:=.fields #[f0,f1,.bool false,.ref TI,.ref TO],slots:=#[] }
structure ZU(t1 t2:Bool)(g:Heap)(z p q i j a b:Addr)(k:Nat):Prop where
 zr:IsZip g z p q .none\/∃ (T:Nat) (f1:Bool) (o:Obj),IsZ2 g z p q (Jq T) (.bool f1)/\g.get? T=some o/\T∉[z,p,q,i,j]
 ins:JK g p (.ref i) (.ref j)
 out:∃u v,JK g q u v
 one:SI t1 g i a k
 two:SI t2 g j b k
theorem ZS.zu{g:Heap}{z p q i j a b:Addr}{k:Nat}(h:ZS t1 t2 g z p q i j a b k):ZU t1 t2 g z p q i j a b k:=⟨.inl h.zr,h.ins,h.out,h.one,h.two⟩
theorem ZU.keep{g g':Heap}{z p q i j a b:Addr}{k:Nat}(x:ZU t1 t2 g z p q i j a b k)(h:∀c o,g.get? c=some o->g'.get? c=some o):ZU t1 t2 g' z p q i j a b k :=
 ⟨by
  rcases x.zr with e | ⟨T,f,o,e1,e2,e3⟩
  ·exact .inl (h _ _ e)
  ·exact .inr ⟨T,f,o,h _ _ e1,h _ _ e2,e3⟩,h _ _ x.ins,let ⟨u,v,e⟩:=x.out; ⟨u,v,h _ _ e⟩,x.one.at λo e=>h _ o e,x.two.at λo e=>h _ o e⟩
theorem ZU.zN{g g':Heap}{z p q i j a b d:Addr}{k:Nat}(x:ZU t1 t2 g z p q i j a b k)(hd:d∉[z,p,q,i,j])(od:∃o,g'.get? d=some o)(h:∀c o,c≠d->g.get? c=some o->g'.get? c=some o):ZU t1 t2 g' z p q i j a b k:=by
 have n:∀c∈[z,p,q,i,j],c≠d:=λc hc e=>hd (e▸hc)
 refine⟨?_,h _ _ (n p (by simp)) x.ins,let ⟨u,v,e⟩:=x.out; ⟨u,v,h _ _ (n q (by simp)) e⟩,x.one.at λo e=>h _ o (n i (by simp)) e,x.two.at λo e=>h _ o (n j (by simp)) e⟩
 rcases x.zr with e | ⟨T,f,o,e1,e2,e3⟩
 ·exact .inl (h _ _ (n z (by simp)) e)
 ·by_cases ht:T=d
  ·subst ht
   obtain⟨o',e'⟩:=od;exact .inr ⟨T,f,o',h _ _ (n z (by simp)) e1,e',e3⟩
  ·exact .inr ⟨T,f,o,h _ _ (n z (by simp)) e1,h _ _ ht e2,e3⟩
theorem A1{z p q:Addr}{T:Nat}{f:Bool}{o:Obj}{P:Bool->B1->Prop}(zr:IsZ2 s.heap z p q (Jq T) (.bool f))(et:s.heap.get? T=some o)
  (h:∀g1,IsZ2 g1 z p q (Jq T) (.bool true)->HU z s.heap g1->P false { s with heap:=g1 }):wpAny (model prog w) A (Fc (.ref z)) P E s:=by
 unfold Fc;refine AC (Fq zr rfl (x:=Jq T) rfl ?f5);show wpAny _ _ (loadIfAlive (Int.toNat (T:Int)) >>= _) _ _ _;refine AC (jj ?f6);rw[GY,et];show wpAny _ _ (field (.ref z) 1 >>= _) _ _ _;refine AC (Fq zr rfl (x:=.bool f) rfl ?f7);cases f with
 |false=>
  show wpAny _ _ (setField (.ref z) 1 (.bool true) >>= _) _ _ _;exact AC (HP zr (by simp) λg1 z1 s1=>BM (h g1 z1 s1))
 |true=>exact BM (h s.heap zr ⟨rfl,λ_ _=>rfl⟩)
theorem zu_go{z p q i j a b:Addr}{k:Nat}{xs ys:Array Value}{x y:Value}{Q:Option Value->B1->Prop}(D:Kz z p q i j a b)(Z:ZU t1 t2 s.heap z p q i j a b k)(ha:SQ t1 s.heap a xs)(hb:SQ t2 s.heap b ys)(hx:xs[k]? = some x)(hy:ys[k]? = some y)
  (h:∀g,ZU t1 t2 g z p q i j a b (k+1)->JK g s.heap.objs.size x y->(∀c o,c∉[z,q,i,j]->s.heap.get? c=some o->g.get? c=some o)->Q (some (.ref s.heap.objs.size)) { s with heap:=g }) :
  wpAny (model prog w) A (JH (.ref z)) Q E s:=by
 have lt:∀c o,s.heap.get? c=some o->c≠s.heap.objs.size:=λc o e=>E1 (Ch e)
 rcases id Z.zr with e | ⟨T,f,o,zr,et,tn⟩
 ·refine BX D ⟨e,Z.ins,Z.out,Z.one,Z.two⟩ ha hb hx hy λg g1 g2 g3 g4 g5 g6 g7=>h g ⟨.inr ⟨s.heap.objs.size,false,_,g1,g6,λhm=>?_⟩,g2,⟨_,_,g3⟩,g4,g5⟩ g6 g7
  obtain⟨u,v,eq⟩:=Z.out;obtain⟨o1,e1,_⟩:=Z.one;obtain⟨o2,e2,_⟩:=Z.two;simp only[HG,Fg,or_false] at hm;rcases hm with t | t | t | t | t
  ·exact lt _ _ e t.symm
  ·exact lt _ _ Z.ins t.symm
  ·exact lt _ _ eq t.symm
  ·exact lt _ _ e1 t.symm
  ·exact lt _ _ e2 t.symm
 ·have hT:s.TypeIs (.ref z) "zip" := ⟨_,zr,rfl⟩
  have tz:(T:Nat)≠z:=λt=>tn (by simp[t])
  have ti:(T:Nat)≠i:=λt=>tn (by simp[t])
  have tj:(T:Nat)≠j:=λt=>tn (by simp[t])
  unfold JH;refine AC (Jn (G8 (name:=Hv "__next__") hT HY (GF HY hT Js ?body (Je _))))
  case body=>
   show wpAny _ _ (field (.ref z) 2 >>= _) _ _ _;refine AC (Fq zr rfl (x:=.bool false) rfl ?f2);show wpAny _ _ (field (.ref z) 3 >>= _) _ _ _;refine AC (Fq zr rfl (x:=.ref p) rfl (AC (GJ Z.ins rfl ?f3)));show wpAny _ _ (Fc (.ref z) >>= _) _ _ _;refine AC (A1 zr et λg1 z1 s1=>?f4)
   simp only[IR,if_false];refine AC ?f5;rw[<-MM];simp only[J3,Jz];refine AC (AC (G6 ?f6));show wpAny _ _ (E8 (.ref i) >>= _) _ _ _;refine AC (gS (s:={ s with heap:=g1 }) (Z.one.extBut s1.extBut D.i1z) (ha.extBut s1.extBut D.l1z) hx λg2 i2 s2=>BM ?f7)
   refine BM ?f8;refine AC (AC (G6 ?f9));show wpAny _ _ (E8 (.ref j) >>= _) _ _ _;refine AC (gS (s:={ s with heap:=g2 }) ((Z.two.extBut s1.extBut D.i2z).extBut s2.extBut D.i12.symm) ((hb.extBut s1.extBut D.l2z).extBut s2.extBut D.l2i1) hy λg4 j4 s4=>BM ?g0)
   refine BM (BM ?g1);have sz:g4.objs.size=s.heap.objs.size:=by rw[s4.1,s2.1,s1.1]
   have ZZ:ZU t1 t2 g4 z p q i j a b (k+1):=by
    refine⟨.inr ⟨T,true,o,?_,?_,tn⟩,?_,?_,?_,j4⟩
    ·exact s4.extBut _ _ D.i2z.symm (s2.extBut _ _ D.i1z.symm z1)
    ·exact s4.extBut _ _ tj (s2.extBut _ _ ti (s1.extBut _ _ tz et))
    ·exact s4.extBut _ _ D.TIi2 (s2.extBut _ _ D.TIi1 (s1.extBut _ _ D.TIz Z.ins))
    ·obtain⟨u,v,eq⟩:=Z.out
     exact⟨u,v,s4.extBut _ _ D.TOi2 (s2.extBut _ _ D.TOi1 (s1.extBut _ _ D.TOz eq))⟩
    ·exact i2.extBut s4.extBut D.i12
   refine AC (Ls ?g2 (by show (2:Nat)<=_; rw[GR]; lia))
   refine BM ⟨_,rfl,BM ?_⟩;show Q (some (.ref g4.objs.size)) _;rw[sz];refine h _ (ZZ.keep λc o e=>At _ e) ?_ λc o hc e=>At _ ?_
   ·rw[<-sz]; exact Db _ rfl
   ·exact s4.extBut _ _ (λt=>hc (by simp[t])) (s2.extBut _ _ (λt=>hc (by simp[t])) (s1.extBut _ _ (λt=>hc (by simp[t])) e))
theorem tO{z p q i j a b:Addr}{k:Nat}{xs ys:Array Value}{Q:Option Value->B1->Prop}(hh:A.handled=none)(D:Kz z p q i j a b)(Z:ZU t1 t2 s.heap z p q i j a b k)(ha:SQ t1 s.heap a xs)(hb:SQ t2 s.heap b ys)(he:xs[k]? = none\/ys[k]? = none)
  (h:∀g,(∀c o,c∉[z,q,i,j]->s.heap.get? c=some o->g.get? c=some o)->Q none { s with heap:=g }):wpAny (model prog w) A (JH (.ref z)) Q E s:=by
 rcases id Z.zr with e | ⟨T,f,o,zr,et,tn⟩
 ·exact wM hh D ⟨e,Z.ins,Z.out,Z.one,Z.two⟩ ha hb he h
 ·have hT:s.TypeIs (.ref z) "zip" := ⟨_,zr,rfl⟩
  have apart:∀c,c∉[z,q,i,j]->c≠z/\c≠q/\c≠i/\c≠j:=λc hc=>⟨λt=>hc (by simp[t]),λt=>hc (by simp[t]),λt=>hc (by simp[t]),λt=>hc (by simp[t])⟩
  unfold JH;refine AC (Jn (G8 (name:=Hv "__next__") hT HY (GF HY hT Js ?body (Je _))))
  case body=>
   have fin:∀g x,(∀c o,c∉[z,q,i,j]->s.heap.get? c=some o->g.get? c=some o)->(∃o,g.get? x=some o/\o.cls=.type "StopIteration")->wpAny (model prog w) A (isInstance (.ref x) (.type "StopIteration")) (λr s'=>wpAny (model prog w) A (if r=true then pure none else throw (.ref x)) Q E s') E { s with heap:=g }:=λg x kp hx=>by
    obtain⟨o,ho,hc⟩:=hx;exact wpAny_isInstance (T := "StopIteration") (b:=true) ⟨o,ho,hc⟩ isSubtype_stop (BM (h g kp))
   show wpAny _ _ (field (.ref z) 2 >>= _) _ _ _;refine AC (Fq zr rfl (x:=.bool false) rfl ?f2);show wpAny _ _ (field (.ref z) 3 >>= _) _ _ _;refine AC (Fq zr rfl (x:=.ref p) rfl (AC (GJ Z.ins rfl ?f3)));show wpAny _ _ (Fc (.ref z) >>= _) _ _ _;refine AC (A1 zr et λg1 z1 s1=>?f4)
   simp only[IR,if_false];refine AC ?f5;rw[<-MM];simp only[J3,Jz];refine AC (AC (G6 ?f6));show wpAny _ _ (E8 (.ref i) >>= _) _ _ _;cases hx:xs[k]? with
   |none=>
    refine AC (oG (s:={ s with heap:=g1 }) hh (Z.one.extBut s1.extBut D.i1z) (ha.extBut s1.extBut D.l1z) hx λg2 x s2 hx' =>?g1)
    refine AC (fin g2 x (λc o hc e=>?g2) hx')
    obtain⟨c1,_,c3,_⟩:=apart c hc;exact s2 _ _ c3 (s1.extBut _ _ c1 e)
   |some x0=>
    have hy:ys[k]? = none:=by
     rcases he with t | t
     ·rw[hx] at t; cases t
     ·exact t
    refine AC (gS (s:={ s with heap:=g1 }) (Z.one.extBut s1.extBut D.i1z) (ha.extBut s1.extBut D.l1z) hx λg2 i2 s2=>BM ?g3)
    refine BM ?g4;refine AC (AC (G6 ?g5));show wpAny _ _ (E8 (.ref j) >>= _) _ _ _;refine AC (oG (s:={ s with heap:=g2 }) hh ((Z.two.extBut s1.extBut D.i2z).extBut s2.extBut D.i12.symm) ((hb.extBut s1.extBut D.l2z).extBut s2.extBut D.l2i1) hy λg4 x s4 hx' =>?g7)
    refine AC (fin g4 x (λc o hc e=>?g8) hx')
    obtain⟨c1,c2,c3,c4⟩:=apart c hc;exact s4 _ _ c4 (s2.extBut _ _ c3 (s1.extBut _ _ c1 e))
end
theorem dU:entryFor table "dict.update.loop" = some Gg.«dict.update.loop» := entryFor_of_tree (by kernel_rfl)
theorem bK:plainId "dict.update.loop" = true:=by decide +kernel
section
variable{prog:FB}{w:World}{A:Fa}{E:Value->B1->Prop}{R:LU->B1->Prop}{s:B1}{t1 t2:Bool}
theorem zO{z p q i j a b d:Addr}{xs ys:Array Value}(hh:A.handled=none)(D:Kz z p q i j a b)(hd:d∉[z,p,q,i,j])(had:a≠d)(hbd:b≠d)(han:a∉[z,q,i,j])(hbn:b∉[z,q,i,j])(ks:List Key)(hk:ks.length=xs.size)(hks:∀(n:Nat)(x:Value)(k:Key),xs[n]? = some x->ks[n]? = some k->(aI prog w).is k x=true)(hz:ks.length<=E6) :
  ∀(m k:Nat)(c:Int)(t:Tok)(s:B1)(acc:List (Key×Value)),ks.length-k=m->k<=ks.length->k<=ys.size->acc.length<=k->ZU t1 t2 s.heap z p q i j a b k->SQ t1 s.heap a xs->SQ t2 s.heap b ys->s.heap.DictOf (aI prog w) d acc ->
   (∀h' tk,(∀c o,c∉[d,z,q,i,j]->s.heap.get? c=some o->h'.get? c=some o)->h'.DictOf (aI prog w) d (((ks.drop k).zip (ys.toList.drop k)).foldl (λa p=>MV a p.1 p.2) acc)->R (.ok (.ret .none)) { s with heap:=h',toks:=tk }) ->
   Hu (model prog w) A (.builtin "dict.update.loop" ⟨[.ref d,.ref z,.int c t,.none],[]⟩) R s:=by
 have sub4:∀{c:Addr},c∈[z,q,i,j]->c∈[z,p,q,i,j]:=λ{c}hc=>by
  simp only[HG,Fg,or_false] at hc ⊢;rcases hc with h | h | h | h <;> simp[h]
 intro m
 induction m with
 |zero=>
  intro k c t s acc hm hle hley hacc Z ta tb hD hR;have hkk:k=ks.length:=by lia
  refine GV dU ?_;rw[GC bK _];show wpAny _ A.in1 (JH (.ref z) >>= _) _ _ s;refine AC (tO (by simpa using hh) D Z ta tb (.inl (by rw[Array.getElem?_eq_none]; lia)) λg kp=>?_)
  show wpAny _ A.in1 (KW d [] >>= _) _ _ _;refine AC (BM (BM ?_));refine hR g s.toks (λc o hc e=>kp c o (λh=>hc (lO _ h)) e) ?_
  rw[hkk,Ic,IW];obtain⟨o,es,ep,ho,r⟩:=hD;exact⟨o,es,ep,kp _ _ (λh=>hd (sub4 h)) ho,r⟩
 |succ m ih=>
  intro k c t s acc hm hle hley hacc Z ta tb hD hR;refine GV dU ?_;rw[GC bK _];show wpAny _ A.in1 (JH (.ref z) >>= _) _ _ s;have hlt:k<ks.length:=by lia
  obtain⟨x,hx⟩:∃x,xs[k]? = some x:=⟨_,Array.getElem?_eq_getElem (by lia)⟩
  have hkey:=hks k x ks[k] hx (Do hlt);cases hy:ys[k]? with
  |none=>
   refine AC (tO (by simpa using hh) D Z ta tb (.inr hy) λg kp=>?_)
   show wpAny _ A.in1 (KW d [] >>= _) _ _ _;refine AC (BM (BM ?_));refine hR g s.toks (λc o hc e=>kp c o (λh=>hc (lO _ h)) e) ?_
   have hys:ys.toList.drop k=[]:=Lo (by rw[FW]; exact Array.getElem?_eq_none_iff.mp hy)
   rw[hys,IN];obtain⟨o,es,ep,ho,r⟩:=hD;exact⟨o,es,ep,kp _ _ (λh=>hd (sub4 h)) ho,r⟩
  |some y=>
   refine AC (zu_go D Z ta tb hx hy λg Z' gt kp=>?_)
   have hD':g.DictOf (aI prog w) d acc:=by
    obtain⟨o,es,ep,ho,r⟩:=hD;exact⟨o,es,ep,kp _ _ (λh=>hd (sub4 h)) ho,r⟩
   have tT:LH { s with heap:=g } (.ref s.heap.objs.size) "tuple" := ⟨_,gt,rfl⟩
   refine AC (G6 ?_);refine AC (JW ?_);unfold Builtin.Dict.pairItems;refine AC (Ie tT ?_);show wpAny _ _ (JT _ >>= _) _ _ _;refine AC (GJ gt rfl (BM ?_));show wpAny _ _ (K1 [x,y] (dictSet d x y)) _ _ _;refine G6 ?_;refine wpAny_dictSet_pairs (s:={ s with heap:=g }) hkey hD' (hsz:=by lia) λh' hd' hs=>?_
   refine BM ⟨HE bK _,?_⟩;have kp':∀c o,c∉[d,z,q,i,j]->s.heap.get? c=some o->h'.get? c=some o:=λc o hc e=>hs.extBut _ _ (λt=>hc (by simp[t])) (kp c o (λh=>hc (lO _ h)) e)
   have ta':SQ t1 h' a xs:=by
    obtain⟨o,e,r⟩:=ta;exact⟨o,hs.extBut _ _ had (kp _ _ han e),r⟩
   have tb':SQ t2 h' b ys:=by
    obtain⟨o,e,r⟩:=tb;exact⟨o,hs.extBut _ _ hbd (kp _ _ hbn e),r⟩
   have od:∃o,h'.get? d=some o:=let ⟨o,_,_,ho,_⟩:=hd'; ⟨o,ho⟩;have hle':(MV acc ks[k] y).length<=k+1:=GE (stored_length_le _ _ _) (by lia)
   refine ih (k+1) _ _ _ _ (by lia) hlt (LG.mp hy).1 hle' (Z'.zN hd od λc o hc e=>hs.extBut _ _ hc e) ta' tb' hd' λh'' tk k2 hd2=>?_
   refine hR h'' tk (λc o hc e=>k2 c o hc (kp' c o hc e)) ?_
   have e1:ks.drop k=ks[k]::ks.drop (k+1):=Fv hlt;have e2:ys.toList.drop k=y::ys.toList.drop (k+1):=by
    obtain⟨hl,e⟩:=LG.mp hy;rw[Fv (by simpa using hl)]
    simp[e]
   rw[e1,e2,Gc,Ju];exact hd2
end
section
variable{prog:FB}{w:World}{A:Fa}{E:Value->B1->Prop}{s:B1}{t1 t2:Bool}
theorem zP{z p q i j a b:Addr}{xs ys:Array Value}{Q:Value->B1->Prop}(hh:A.handled=none)(D:Kz z p q i j a b)(Z:ZS t1 t2 s.heap z p q i j a b 0)(ta:SQ t1 s.heap a xs)(tb:SQ t2 s.heap b ys)(han:a∉[z,q,i,j])(hbn:b∉[z,q,i,j])
  (ks:List Key) (hk:ks.length=xs.size) (hks:∀(n:Nat)(x:Value)(k:Key),xs[n]? = some x->ks[n]? = some k->(aI prog w).is k x=true) (hz:ks.length<=E6)
  (h:∀h' tk,(∀c o,c∉[z,q,i,j]->s.heap.get? c=some o->h'.get? c=some o)->h'.DictOf (aI prog w) s.heap.objs.size ((ks.zip ys.toList).foldl (λa p=>MV a p.1 p.2) [])->Q (.ref s.heap.objs.size) { s with heap:=h',toks:=tk }) :
  wpAny (model prog w) A (call (.type "dict") [.ref z]) Q E s:=by
 refine callType_codes (Q₁:=λobj s₁=>obj=.ref s.heap.objs.size/\s₁={ s with heap:=s.heap.push { cls:=.type "dict",data:=.dict #[] } }) F.kt_called_dict (F.kt_typeCall_dict_1 _) F.entry_dict_init (kt_code_dict_new _ ⟨rfl,rfl⟩) ?_
 rintro obj s₁ ⟨rfl,rfl⟩;have hnew:(s.heap.push { cls:=.type "dict",data:=.dict #[] }).DictOf (aI prog w) s.heap.objs.size []:=Heap.DictOf.new s.heap;have Z1:ZS t1 t2 (s.heap.push { cls:=.type "dict",data:=.dict #[] }) z p q i j a b 0:=Z.keep λc _ o e=>At _ e
 have lt:∀c o,s.heap.get? c=some o->c≠s.heap.objs.size:=λc o e=>E1 (Ch e)
 refine⟨hnew.typeIs,F.args_dict_init_2 _ _,?_⟩;unfold Gg.«dict.__init__»;refine AC ?_;unfold Builtin.Dict.selfAndRest;refine AC (wpAny_notOrdered_dict hnew.typeIs ?_);show wpAny _ _ (pure (s.heap.objs.size,[Gn z])) _ _ _;refine BM ?_;show wpAny _ _ (Ke "dict.__init__" s.heap.objs.size (.ref z) [] .none) _ _ _;unfold Ke;have tz:LH { s with heap:=s.heap.push { cls:=.type "dict",data:=.dict #[] } } (.ref z) "zip" := ⟨_,Z1.zr,rfl⟩
 refine AC (Ie tz ?_);rw[if_pos (by decide)]
 refine AC (rY (s:={ s with heap:=s.heap.push { cls:=.type "dict",data:=.dict #[] } }) Z1.zr (by simpa using hh) λh1 tk1 k1=>?_)
 simp only[Option.isNone_none,if_true];refine AC (Gy ?_);have Z2:ZS t1 t2 h1 z p q i j a b 0:=Z1.keep λc _ o e=>k1 _ _ e
 refine AC (wpAny_pyIter_zip (s:={ s with heap:=h1,toks:=tk1 }) Z2.zr ?_)
 have ta':SQ t1 h1 a xs:=by
  obtain⟨o,e,r⟩:=ta;exact⟨o,k1 _ _ (At _ e),r⟩
 have tb':SQ t2 h1 b ys:=by
  obtain⟨o,e,r⟩:=tb;exact⟨o,k1 _ _ (At _ e),r⟩
 have hD1:h1.DictOf (aI prog w) s.heap.objs.size []:=by
  obtain⟨o,es,ep,ho,r⟩:=hnew;exact⟨o,es,ep,k1 _ _ ho,r⟩
 have hd:s.heap.objs.size∉[z,p,q,i,j]:=λhm=>by
  obtain⟨u,v,eq⟩:=Z.out;obtain⟨o1,e1,_⟩:=Z.one;obtain⟨o2,e2,_⟩:=Z.two;simp only[HG,Fg,or_false] at hm;rcases hm with t | t | t | t | t
  ·exact lt _ _ Z.zr t.symm
  ·exact lt _ _ Z.ins t.symm
  ·exact lt _ _ eq t.symm
  ·exact lt _ _ e1 t.symm
  ·exact lt _ _ e2 t.symm
 have hh':A.in1.handled=none:=by simpa using hh
 refine BM ⟨HE bK _,zO (s:={ s with heap:=h1,toks:=tk1 }) hh' D hd ?_ ?_ han hbn ks hk hks hz ks.length 0 _ _ [] rfl (FV _) (FV _) (Da _) Z2.zu ta' tb' hD1 λh' tk kp hd'=>⟨rfl,h h' tk (λc o hc e=>kp c o (λhm=>?_) (k1 _ _ (At _ e))) ?_⟩⟩
 ·obtain⟨o,e,_⟩:=ta
  exact lt _ _ e
 ·obtain⟨o,e,_⟩:=tb
  exact lt _ _ e
 ·rcases lK hm with t | t
  ·exact lt _ _ e t
  ·exact hc t
 ·simpa using hd'
end
section
variable{X:Cx}
theorem KV.lC:∀{ks:List Key}{ys:List V}{us:List Value}{acc:List (Key×V)}{acc':List (Key×Value)},Vals ys us->KV acc acc'->KV ((ks.zip ys).foldl (λa p=>putK a p.1 p.2) acc) ((ks.zip us).foldl (λa p=>MV a p.1 p.2) acc')
 |[],_,_,_,_,_,h=>h
 |_::_,[],_,_,_,r,h=>by cases r; exact h
 |k::ks,y::ys,_,_,_,.cons r rs,h=>KV.lC (ks:=ks) rs (h.put k r)
theorem jX:∀(l:List (Key×V))(acc:List (Key×V)),(l.foldl (λa p=>putK a p.1 p.2) acc).length<=acc.length+l.length
 |[],_=>Da _
 |p::l,acc=>by
  have h1:=jX l (putK acc p.1 p.2);have h2:=gz acc p.1 p.2;rw[Ju,D1];lia
noncomputable def ES(K:AT)(ta:TA):TE:=λσ H Q=>ta σ H λvs H1=>∃ (a b:Addr) (ys:List V) (ks:List Key),vs=[.ref a,.ref b]/\dR K H1 a (ks.map kV)/\(gg K H1 b ys\/dR K H1 b ys)/\∀l,H1 l=none->Q (.ref l) (upd H1 l (.dK ((ks.zip ys).foldl (λacc p=>putK acc p.1 p.2) [])))
theorem zQ{a b:Expr}{ta:TA}{p1 p2 pos pos2:Pos}(hc:X.calm=true)(hg:Gl X "dict")(hm:X.mg "dict" = none)(hg2:Gl X "zip")(hm2:X.mg "zip" = none)(ha:PA X [a,b] ta)(hs:E5 [a,b] X.env=[(false,eval a X.env),(false,eval b X.env)]:=by rfl)(hs2:E5 [b] X.env=[(false,eval b X.env)]:=by rfl)
  (hs3:E5 [.Call (.Name "zip" p2) [a,b] [] pos2] X.env=[(false,eval (.Call (.Name "zip" p2) [a,b] [] pos2) X.env)]:=by rfl) :
  PE X (.Call (.Name "dict" p1) [.Call (.Name "zip" p2) [a,b] [] pos2] [] pos) (ES X.K ta):=by
 intro pins s σ H Q I h;refine HD (fP I hg hm PyProof.Rows.boot_dict ?_);refine GB ?_ (by rw[hs3]; rfl) rfl
 rw[hs3];show wpAny _ _ (MW ((false,eval (.Call (.Name "zip" p2) [a,b] [] pos2) X.env)::[])) _ _ s;refine JC ?_;refine HD (fP I hg2 hm2 PyProof.Rows.boot_zip ?_);refine GB (bD (ha pos2 pins s σ H _ I h) λus s1 ⟨vs,H1,I1,r1,q1⟩=>?_) (by rw[hs,hs2]) (by rw[hs2]; rfl)
 obtain⟨a',b',ys,ks,e,qa,qb,q⟩:=q1;subst e;obtain⟨u,v,rfl,ru,rv⟩:=vals2 r1;cases ru;cases rv;obtain⟨ia,ra,ta',la'⟩:=I1.tuple qa;obtain⟨t2,ib,rb,tb⟩:∃ (t2:Bool) (ib:List Value),Vals ys ib/\SQ t2 s1.heap b' ib.toArray:=by
  rcases qb with qb | qb
  ·obtain⟨ib,rb,pl,_⟩:=I1.list qb
   exact⟨false,ib,rb,pl.isList⟩
  ·obtain⟨ib,rb,tb,_⟩:=I1.tuple qb
   exact⟨true,ib,rb,tb⟩
 have la:a'<s1.heap.objs.size:=by obtain⟨_,e,_⟩:=ta'; exact Ch e
 have lb:b'<s1.heap.objs.size:=by obtain⟨_,e,_⟩:=tb; exact Ch e
 refine uJ (t1:=true) ta' tb λg Z kp=>JP ?_
 have tg:SQ true g a' ia.toArray:=by obtain⟨o,e,r⟩:=ta'; exact⟨o,kp _ _ e,r⟩
 have tg2:SQ t2 g b' ib.toArray:=by obtain⟨o,e,r⟩:=tb; exact⟨o,kp _ _ e,r⟩
 have nn:∀c,c<s1.heap.objs.size->c∉[s1.heap.objs.size+4,s1.heap.objs.size+3,s1.heap.objs.size,s1.heap.objs.size+1]:=λc hc hm=>by
  simp only[HG,Fg,or_false] at hm;have hc':(c:Nat)<s1.heap.objs.size:=hc;rcases hm with t | t | t | t
  ·have t':(c:Nat)=s1.heap.objs.size+4:=t; lia
  ·have t':(c:Nat)=s1.heap.objs.size+3:=t; lia
  ·have t':(c:Nat)=s1.heap.objs.size:=t; lia
  ·have t':(c:Nat)=s1.heap.objs.size+1:=t; lia
 have gsz:s1.heap.objs.size<=g.objs.size:=HX (KU (Nat.le_add_right _ _) (Ch Z.zr));have hkl:ks.length=ia.toArray.size:=by rw[Dx,<-ra.length,B2]
 refine zP (s:={ s1 with heap:=g }) (I1.ok.hd hc) (PyProof.Rows.zipApart_new la lb) Z tg tg2 (nn _ la) (nn _ lb) ks hkl (λn x k hx hk=>?_) (by rw[B2] at la'; exact la') λh' tk k2 hD=>?_
 ·have hx':ia[n]? = some x:=by simpa using hx
  have hv:(ks.map kV)[n]? = some (kV k):=by rw[Fs,hk]; rfl
  obtain⟨x',hx2,r⟩:=ra.get hv;rw[hx'] at hx2;cases hx2;exact mX r
 ·have fr:H1 g.objs.size=none:=I1.hok.fresh gsz
  have keep:∀c o,s1.heap.get? c=some o->h'.get? c=some o:=λc o e=>k2 c o (nn c (Ch e)) (kp c o e)
  refine⟨.ref g.objs.size,_,I1.laid (a:=g.objs.size) (o:=.dK ((ks.zip ys).foldl (λacc p=>putK acc p.1 p.2) [])) (t':=tk) keep gsz ?_,rfl,q _ fr⟩
  have hbig:(g.objs.size == HQ)=false:=by
   have:=I1.big;exact beq_eq_false_iff_ne.mpr λe=>absurd (FL this gsz) (by rw[e]; exact Gs _)
  refine⟨?_,hbig,_,KV.lC rb .nil,by simpa using hD⟩
  have h1:=jX (ks.zip ys) [];have h2:(ks.zip ys).length<=ks.length:=by rw[Ks]; lia
  rw[B2] at la';simp only[FC] at h1;lia
end
theorem iK{α β:Type}{R:α->β->Prop}:∀{xs:List α}{ys:List β},xs.length=ys.length->(∀(n:Nat)x y,xs[n]? = some x->ys[n]? = some y->R x y)->HL R xs ys
 |[],[],_,_=>.nil
 |[],_::_,h,_=>by simp at h
 |_::_,[],h,_=>by simp at h
 |x::xs,y::ys,h,r=>.cons (r 0 x y rfl rfl) (iK (by simpa using h) λn a b h1 h2=>r (n+1) a b (by simpa using h1) (by simpa using h2))
section
variable{X:Cx}{pos:Pos}
theorem zR{i j:Nat}{x y:Str}{a b:Expr}{ta:TA}{px py pt:Pos}{kt k2 pt2}(hc:X.calm=true)(hN:X.N.Nodup)(hi:X.N[i]? = some x)(hj:X.N[j]? = some y)
  (hx:Loc X.env.scope x) (hy:Loc X.env.scope y) (ha:PA X [a,b] ta)
  (hw:Jp [.Tuple [.Name x px,.Name y py] kt pt] (.Tuple [a,b] k2 pt2) X.env=pure none)
  (hs:Jo [.Tuple [.Name x px,.Name y py] kt pt] (.Tuple [a,b] k2 pt2) pos.line X.env=pure false:=by rfl)
  (hfx:X.fn x=true\/X.env.scope.names.lookup x=some .local:=by first | exact .inl rfl | exact .inr rfl | assumption) (hfy:X.fn y=true\/X.env.scope.names.lookup y=some .local:=by first | exact .inl rfl | exact .inr rfl | assumption)
  (h1:(H9 [.Tuple [.Name x px,.Name y py] kt pt] X.env).map (·.2)=[IG (.Tuple [.Name x px,.Name y py] kt pt) X.env]:=by rfl)
  (h2:(H9 [.Name x px,.Name y py] X.env).map (·.2)=[IG (.Name x px) X.env,IG (.Name y py) X.env]:=by rfl)
  (hn:(H9 [.Name x px,.Name y py] X.env).length=2:=by rfl) (hst:(H9 [.Name x px,.Name y py] X.env).findIdx? (·.1)=none:=by rfl) :
  PS X (.Assign [.Tuple [.Name x px,.Name y py] kt pt] (.Tuple [a,b] k2 pt2) pos) (tPar i j ta):=by
 intro pins s σ H D I h;refine N5 (Tuple_ (bD (ha _ pins s σ H _ I h) λus s1 ⟨vs,H1,I1,r1,q1⟩=>?_)) hs hw
 obtain⟨v,w,e1,q1⟩:=q1;subst e1;obtain⟨u1,u2,rfl,rv,rw'⟩:∃u1 u2,us=[u1,u2]/\RelV v u1/\RelV w u2:=by
  cases r1 with
  |cons p q=>
   cases q with
   |cons p' q' =>
    cases q';exact⟨_,_,rfl,p,p'⟩
 refine FU ?_ (by show 2<=E6; decide)
 have I2:Inv X pins σ H1 { s1 with heap:=s1.heap.push { cls:=.type "tuple",data:=.seq [u1,u2].toArray } }:=I1.kept (t':=s1.toks) λb o e=>At _ e
 rw[h1];refine NP (I.ok.hd hc) (Kf s1.heap _) (by simp[hn]) hst λh' hx' =>?_
 have I3:=I2.kept (h':=h') (t':=s1.toks) λb o e=>hx' b o (E1 (Ch e)) e
 rw[h2];refine Ia (Ig (fq I3 hN hi hx rv (λs2 I4=>?_) hfx))
 refine Ia (Ig (fq I4 hN hj hy rw' (λs3 I5=>LB ?_) hfy))
 exact⟨_,H1,I5,q1⟩
end
abbrev Cw:=St->Hp->(St->Hp->Prop)->Prop
def PEm2(X:Cx)(em:Sem Unit)(t:Cw):Prop :=
 ∀(pins:List (Addr×Obj))(s:B1)(σ:St)(H:Hp)(R:St->Hp->Prop),Inv X pins σ H s->t σ H R ->
  wpAny (model X.prog X.w) X.A em (λ_ s'=>∃σ' H',Inv X pins σ' H' s'/\R σ' H') X.xe s
def iL(g:TG)(tt:TT)(tem:Cw)(J:It)(τ:St)(H:Hp)(Q:St->Hp->Prop):Prop :=
 ∃W:Nat->Nat->St->Hp->Prop,(∃m,W 0 m τ H)/\∀i m τ H,W i m τ H ->
  (J.stop i H/\Q τ H)\/(J.go i H/\∃N:St->Hp->Prop,(∀τ' H',N τ' H'->∃m',m'<m/\W (i+1) m' τ' H')/\∀x H',J.yld i H x H'->g x τ H' λτ2 H2=>tt τ2 H2 λb H3=>
   if b=true then tem τ2 H3 N else N τ2 H3)
section
variable{X:Cx}{e target iter:Expr}{ifs:List Expr}{g:TG}{tt:TT}{tem:Cw}{acc:Value}{em:Sem Unit}
theorem iM{d:Nat}{pins:List (Addr×Obj)}{it:Addr}{fp:List Addr}{tn:Nat->Heap->Prop}{J:It}{τ:St}{H:Hp}{s:B1}{Q:St->Hp->Prop}{R:LU->B1->Prop}
  (ht:Kw e d (.ref it) acc X.env=iG target iter ifs em (.ref it) X.env (again (.compLoop e d (.ref it) acc X.env)))
  (hd:∀(Q:Fin->B1->Prop)(E:Value->B1->Prop)(s:B1),wpAny (model X.prog X.w) X.A ((Kw e d (.ref it) acc X.env).onRaise (λx=>do noteFrame x X.env; theTreesLotGoes x)) Q E s ->
   wpAny (model X.prog X.w) (X.A.under (.compLoop e d (.ref it) acc X.env)) ((model X.prog X.w).den (.compLoop e d (.ref it) acc X.env)) Q E s)
  (hq:(NN e d (.ref it) acc X.env).quiet=true)
  (hc:X.calm=true) (hx:X.xe=λ_ _=>False) (hg:PG X target g) (hi:j7 X ifs tt) (he:PEm2 X em tem) (T:Turn X.prog X.w X.K target J fp it tn)
  (I:Inv X pins τ H s) (st:tn 0 s.heap) (hf:∀b∈fp,ic X pins H b) (h:iL g tt tem J τ H Q) (hR:∀τ' H' s',Inv X pins τ' H' s'->Q τ' H'->R (.ok .next) s') :
  Hu (model X.prog X.w) X.A (.compLoop e d (.ref it) acc X.env) R s:=by
 obtain⟨W,⟨m0,w0⟩,turn⟩:=h;have stat:∀{H':Hp},(∀b∈fp,H' b=none)->∀b∈fp,ic X pins H' b:=λhn b hb=>⟨hn b hb,(hf b hb).2⟩
 have noX:∀{α:Type}{t:Sem α}{Q:α->B1->Prop}{s':B1}{E:Value->B1->Prop},wpAny (model X.prog X.w) X.A t Q X.xe s'->wpAny (model X.prog X.w) X.A t Q E s':=λ{α t Q s' E}h' =>
  Gz h' (λ_ _ q=>q) λ_ _ z=>by rw[hx] at z; exact z.elim
 refine codeAny_loop hq (λn s'=>∃i τ' H',Inv X pins τ' H' s'/\tn i s'.heap/\(∀b∈fp,H' b=none)/\W i n τ' H') ?_ m0 ⟨0,τ,H,I,st,λb hb=>(hf b hb).1,w0⟩
 rintro n s3 ⟨i,σ3,H3,I3,st3,fr3,w3⟩;refine hd _ _ _ (wpAny_noted ?_);rw[ht];unfold iG;refine AC (Hn (AC ?_));rcases turn i n σ3 H3 w3 with⟨stop,qn⟩ | ⟨go,Nx,hNx,step⟩
 ·refine bD (T.done X rfl rfl rfl hc i pins s3 σ3 H3 _ I3 (stat fr3) st3 stop) λr s4 ⟨hr,I4⟩=>?_
  subst hr;exact BM (hR _ _ _ I4 qn)
 ·refine bD (T.item X rfl rfl rfl hc i pins s3 σ3 H3 _ I3 (stat fr3) st3 go) λr s4 ⟨u,hr,h4⟩=>?_
  subst hr;refine AC (bD h4 λ_ s5 ⟨x,H5,I5,r5,y5,st5,fr5⟩=>?_)
  have I5':=I5.pinned (stat fr5) (T.obj _ _ st5);refine AC (noX (bD (hg _ s5 σ3 H5 x u _ I5' r5 (step x H5 y5)) λ_ s6 ⟨σ6,H6,I6,q6⟩=>?_))
  have again':∀{σ7:St}{H7:Hp}{s7:B1},Inv X (pins++jw fp s5.heap) σ7 H7 s7->(∃m',m'<n/\W (i+1) m' σ7 H7)->∃m,m<n/\∃i σ' H',Inv X pins σ' H' s7/\tn i s7.heap/\(∀b∈fp,H' b=none)/\W i m σ' H':=λ{σ7 H7 s7}I7 n7=>by
   obtain⟨m',hm,w7⟩:=n7;refine⟨m',hm,i+1,σ7,H7,I7.gw,T.keep _ _ _ st5 λb hb o e=>(I7.pin (b,o) (lR _ (lR _ (di hb e)))).1,λb hb=>?_,w7⟩
   obtain⟨o,e,d⟩:=T.obj _ _ st5 b hb;exact(I7.pin (b,o) (lR _ (lR _ (di hb e)))).2.1
  refine AC (noX (bD (hi _ s6 σ6 H6 _ I6 q6) λok s7 ⟨H7,I7,q7⟩=>?_))
  cases ok with
  |false=>exact BM ⟨rfl,again' I7 (hNx _ _ q7)⟩
  |true=>
   refine AC (noX (bD (he _ s7 σ6 H7 _ I7 q7) λ_ s8 ⟨σ8,H8,I8,q8⟩=>?_))
   exact BM ⟨rfl,again' I8 (hNx _ _ q8)⟩
noncomputable def nE(D:Addr)(te:TE):Cw:=λσ H R=>te σ H λy H1=>∃xs,H1 D=some (.lst xs)/\xs.length<E6/\R σ (upd H1 D (.lst (xs++[y])))
theorem zS{elt:Expr}{te:TE}{D:Addr}(h:PE X elt te):PEm2 X (do let _ <-call (.builtin "list.append") [.ref D,<-eval elt X.env]) (nE D te):=by
 intro pins s σ H R I hq;refine AC (bD (h pins s σ H _ I hq) λu s1 ⟨y,H1,I1,r1,xs,hD,hz,q⟩=>?_)
 refine AC (bD (jx pins s1 σ H1 (.ref D) [y] (.ref D) [u] (λ_ H'=>R σ H') I1 rfl (.cons r1 .nil) ⟨D,xs,y,rfl,rfl,hD,hz,q⟩) λ_ s2 ⟨v,H2,I2,_,q2⟩=>?_)
 exact BM ⟨σ,H2,I2,q2⟩
noncomputable def inner(e iter2:Expr)(acc:Value)(env:Env):Sem Unit:=do
 let x <-eval iter2 env
 K0 iter2.pos
 let x <-FY iter2 env x
 let _ <-runOwn (.compStart e 1 (<-K1 [x] (Lw x)) acc env) env
theorem A3(elt t1 i1 t2 i2:Expr)(f1 f2:List Expr)(scope:Scope)(pos:Pos)(it acc:Value)(env:Env) :
  Kw (.ListComp elt [⟨t1,i1,f1,0⟩,⟨t2,i2,f2,0⟩] scope pos) 0 it acc env=iG t1 i1 f1 (inner (.ListComp elt [⟨t1,i1,f1,0⟩,⟨t2,i2,f2,0⟩] scope pos) i2 acc env) it env (again (.compLoop (.ListComp elt [⟨t1,i1,f1,0⟩,⟨t2,i2,f2,0⟩] scope pos) 0 it acc env)):=by
 unfold iG inner;simp only[bind_assoc,pure_bind];show (K0 i1.pos >>= _)=_;refine congrArg _ (funext λ_=>?_)
 show (JH it >>= _)=_;refine congrArg _ (funext λr=>?_)
 cases r with
 |none=>rfl
 |some v=>
  show (JI t1 it v >>= _)=_;refine congrArg _ (funext λ_=>?_)
  show (IG t1 env v >>= _)=_;refine congrArg _ (funext λ_=>?_)
  refine congrArg _ (funext λok=>?_)
  cases ok with
  |false=>rfl
  |true=>rfl
theorem turn1(elt t1 i1 t2 i2:Expr)(f1 f2:List Expr)(scope:Scope)(pos:Pos)(it acc:Value)(env:Env) :
  Kw (.ListComp elt [⟨t1,i1,f1,0⟩,⟨t2,i2,f2,0⟩] scope pos) 1 it acc env=iG t2 i2 f2 (do let _ <-call (.builtin "list.append") [acc,<-eval elt env]) it env (again (.compLoop (.ListComp elt [⟨t1,i1,f1,0⟩,⟨t2,i2,f2,0⟩] scope pos) 1 it acc env)):=by rfl
theorem Cy{prog:FB}{w:World}{A:Fa}{R:LU->B1->Prop}{s:B1}{elt t1 i1 t2 i2:Expr}{f1 f2:List Expr}{scope:Scope}{pos:Pos}{it acc:Value}{env:Env}
  (h0:Hu (model prog w) A (.compLoop (.ListComp elt [⟨t1,i1,f1,0⟩,⟨t2,i2,f2,0⟩] scope pos) 1 it acc env) R s)
  (h:wpAny (model prog w) A (Lw it) (λit' s'=>Hu (model prog w) A (.compLoop (.ListComp elt [⟨t1,i1,f1,0⟩,⟨t2,i2,f2,0⟩] scope pos) 1 it' acc env) R s')
   (notedBy (model prog w) A env λx s'=>R (.error x) s') s) :
  Hu (model prog w) A (.compStart (.ListComp elt [⟨t1,i1,f1,0⟩,⟨t2,i2,f2,0⟩] scope pos) 1 it acc env) R s:=by
 refine codeAny_of_tree ?_;show wpAny _ _ ((compStart (.ListComp elt [⟨t1,i1,f1,0⟩,⟨t2,i2,f2,0⟩] scope pos) 1 it acc env).onRaise (λx=>do noteFrame x env; K0 theWindowsPlace)) _ _ s
 refine wpAny_notedAt ?_;unfold compStart;show wpAny _ _ (ask >>= _) _ _ s;refine AC (wpAny_askSetting (wpAny_ite ?_))
 split
 ·first
   |exact AC (BM (BM (Lq rfl h0)))
   |exact BM (Lq rfl h0)
 ·first
   |exact AC (Gy (AC (Hn (AC (Gz h (λit' s' h'=>BM (Lq rfl h')) λ_ _ x=>x)))))
   |(refine AC (Gy ?_); show wpAny _ _ (K0 i2.pos >>= _) _ _ s; exact AC (Hn (AC (Gz h (λit' s' h'=>BM (Lq rfl h')) λ_ _ x=>x))))
noncomputable def D6(wi:TI)(g:TG)(tt:TT)(tem:Cw):Cw:=λσ H R=>wi σ H λJ H1=>iL g tt tem J σ H1 R
theorem A4{elt t1 i1 t2 i2:Expr}{f1 f2:List Expr}{scope:Scope}{pos:Pos}{D:Addr}{wi:TI}{g2:TG}{tt2:TT}{te:TE}(hc:X.calm=true)(hx:X.xe=λ_ _=>False)(hi:PI X t2 i2 wi)(hg:PG X t2 g2)(hif:j7 X f2 tt2)(hel:PE X elt te)(hs:∀x,FY i2 X.env x=pure x) :
  PEm2 X (inner (.ListComp elt [⟨t1,i1,f1,0⟩,⟨t2,i2,f2,0⟩] scope pos) i2 (.ref D) X.env) (D6 wi g2 tt2 (nE D te)):=by
 intro pins s σ H R I hq;unfold inner;refine AC (bD (hi pins s σ H _ I hq) λv s1 h1=>?_)
 refine AC (Hn ?_);rw[hs];refine AC (BM ?_);refine AC (G6 (bD h1 λitv s2 h2=>?_))
 obtain⟨it,fp,tn,J,H2,e,I2,T,st2,f2',h2⟩:=h2;subst e;refine AC (wpAny_runOwn ?_);have loop:Hu (model X.prog X.w) X.A (.compLoop (.ListComp elt [⟨t1,i1,f1,0⟩,⟨t2,i2,f2,0⟩] scope pos) 1 (.ref it) (.ref D) X.env) (λr s'=>match r with | .ok f=>wpAny (model X.prog X.w) X.A (pure ()) (λ_ s'=>∃σ' H',Inv X pins σ' H' s'/\R σ' H') X.xe s' | .error e=>cameBackBy (model X.prog X.w) X.A X.env X.xe e s') s2 :=
  iM (turn1 ..) (λ_ _ _ z=>z) rfl hc hx hg hif (zS hel) T I2 st2 f2' h2 λτ' H' s' J' q=>BM ⟨τ',H',J',q⟩
 exact Cy loop (T.self X.A 0 _ _ _ st2 loop)
end
noncomputable def tLC2(fr:List (Option Nat))(wi:TI)(g:Bk->TG)(tt:Bk->TT)(wi2:Bk->TI)(g2:Bk->TG)(tt2:Bk->TT)(te:Bk->TE):TE:=λσ H Q=>wi σ H λJ H1=>∀D,H1 D=none->∀z,iL (g z) (tt z) (D6 (wi2 z) (g2 z) (tt2 z) (nE D (te z))) J (mj fr σ) (upd H1 D (.lst [])) λ_ H'=>Q (.ref D) H'
section
variable{X:Cx}
theorem pe_lc2{elt target iter t2 i2:Expr}{ifs f2:List Expr}{scope:Scope}{pos:Pos}{N:List Str}{fr:List (Option Nat)}{wi:TI}{g:Bk->TG}{tt:Bk->TT}{wi2:Bk->TI}{g2:Bk->TG}{tt2:Bk->TT}{te:Bk->TE}(hc:X.calm=true)(S:aR X scope N fr)(hi:PI X target iter wi)
  (hin:∀z:Bk,PG (aA X scope z.cl N z.C z.fp z.s z.H) target (g z)/\j7 (aA X scope z.cl N z.C z.fp z.s z.H) ifs (tt z)/\PI (aA X scope z.cl N z.C z.fp z.s z.H) t2 i2 (wi2 z)/\PG (aA X scope z.cl N z.C z.fp z.s z.H) t2 (g2 z)/\j7 (aA X scope z.cl N z.C z.fp z.s z.H) f2 (tt2 z)/\PE (aA X scope z.cl N z.C z.fp z.s z.H) elt (te z))
  (hs:∀x,FY iter X.env x=pure x:=by intro _; rfl) (hs2:∀(env:Env)x,FY i2 env x=pure x:=by intro _ _; rfl):PE X (.ListComp elt [⟨target,iter,ifs,0⟩,⟨t2,i2,f2,0⟩] scope pos) (tLC2 fr wi g tt wi2 g2 tt2 te):=by
 intro pins s σ H Q I h;rw[eval_ListComp];refine IT (g:=⟨target,iter,ifs,0⟩) (gs:=[⟨t2,i2,f2,0⟩]) (use:=none) rfl hs (cC (S.cells I)) S.kind S.locs ?_;refine bD (hi pins s σ H _ I h) λv s1 h1=>bD h1 λitv s2 h2=>?_
 obtain⟨it,fp,tn,J,H2,e,I2,T,st2,f2',h2⟩:=h2;subst e;refine FU ?_;have hD:H2 s2.heap.objs.size=none:=I2.fresh;have I3:=I2.wj (t':=s2.toks) (ys:=[]) (its:=[]) .nil (FV _);have lt2:∀b∈fp,b<s2.heap.objs.size:=λb hb=>by
  obtain⟨o,e,_⟩:=T.obj _ _ st2 b hb;exact Ch e
 have f3:∀b∈fp,ic X pins (upd H2 s2.heap.objs.size (.lst [])) b:=λb hb=>⟨by rw[aZ (E1 (lt2 b hb))]; exact(f2' b hb).1,(f2' b hb).2⟩
 generalize hs3:({ s2 with heap:=s2.heap.push { cls:=.type "list",data:=.seq ([]:List Value).toArray } }:B1)=s3
 have I3:Inv X pins σ (upd H2 s2.heap.objs.size (.lst [])) s3:=by rw[<-hs3]; exact I3
 have sz3:s3.heap.objs.size=s2.heap.objs.size+1:=by rw[<-hs3]; exact GN ..
 have u23:Un (frs X.stack) [] H2 (upd H2 s2.heap.objs.size (.lst [])) s2.heap s3.heap:=by
  rw[<-hs3];exact Un.laid (λb o e=>At _ e) (Da _) hD
 have ho:s3.os=s2.os:=by rw[<-hs3]
 have st3:tn 0 s3.heap:=T.keep _ _ _ st2 λb _ o e=>by rw[<-hs3]; exact At _ e
 refine J9 S.nocell (by intro y hy; simp at hy) (λh4 hns hsb=>?_) S.kind
 have lt3:∀b∈fp,b<s3.heap.objs.size:=λb hb=>FL (lt2 b hb) (by rw[sz3]; exact GU _)
 have I4:=iU (tk:=s3.toks+([]:List (Str×Value)).length) I3 S f3 lt3 hns hsb;have old4:∀b o,s3.heap.get? b=some o->h4.get? b=some o:=λb o e=>(hsb.2 b (E1 (Ch e))).trans (At _ e)
 have st4:tn 0 h4:=T.keep _ _ _ st3 λb _ o e=>old4 b o e
 have h2:=h2 _ hD ⟨aH X.env.cells scope.names [],s3.heap.objs.size,fp,s3,upd H2 s2.heap.objs.size (.lst [])⟩;obtain⟨hg,hif,hi2,hg2,hif2,hel⟩:=hin ⟨aH X.env.cells scope.names [],s3.heap.objs.size,fp,s3,upd H2 s2.heap.objs.size (.lst [])⟩;have loop:Hu (model X.prog X.w) X.A (.compLoop (.ListComp elt [⟨target,iter,ifs,0⟩,⟨t2,i2,f2,0⟩] scope pos) 0 (.ref it) (.ref s2.heap.objs.size) (KN scope (aH X.env.cells scope.names []) s3.heap.objs.size X.env))
   (Ms (model X.prog X.w) X.A X.xe none (EP X pins σ Q) (.ref s2.heap.objs.size) s3.heap.objs.size) { s3 with heap:=h4,toks:=s3.toks+([]:List (Str×Value)).length }:=by
  refine iM (X:=aA X scope (aH X.env.cells scope.names []) N s3.heap.objs.size fp s3 (upd H2 s2.heap.objs.size (.lst []))) (pins:=[])
   (A3 ..) (λ_ _ _ z=>z) rfl hc rfl hg hif (A4 hc rfl hi2 hg2 hif2 hel (hs2 _)) T I4 st4 (λb hb=>?_) h2 (λτ' H' s' J' q=>?_)
  ·obtain⟨f0,f1,fs,fe,fc,fp'⟩:=f3 b hb
   refine⟨f0,E1 (lt3 b hb),λz=>?_,.inl hb,λx c e=>fc x c (dI scope.names [] (λ_ _ z=>by simp at z) e),λp hp=>absurd (show p∈([]:List (Addr×Obj)) from hp) (by simp)⟩
   rcases lK (I3.iD b z) with z | z
   ·exact f1 z
   ·exact fs z
  ·obtain⟨m,hn,_⟩:=J'.loc
   exact⟨m,hn,λh' sb=>⟨.ref s2.heap.objs.size,H',iV I2 f2' u23 ho (by rw[sz3]; exact GU _) J' sb,rfl,q⟩⟩
 exact Ii loop (T.self X.A 0 _ _ _ st4 loop)
theorem zT{i:Nat}{x:Str}{elt target iter t2 i2:Expr}{ifs f2:List Expr}{scope:Scope}{pos pos' spos:Pos}{N:List Str}{fr:List (Option Nat)}{wi:TI}{g:Bk->TG}{tt:Bk->TT}{wi2:Bk->TI}{g2:Bk->TG}{tt2:Bk->TT}{te:Bk->TE}(hN:X.N.Nodup)(hi':X.N[i]? = some x)(hx:X.env.scope.names.lookup x=some .local)
  (hc:X.calm=true) (S:aR X scope N fr) (hi:PI X target iter wi)
  (hin:∀z:Bk,PG (aA X scope z.cl N z.C z.fp z.s z.H) target (g z)/\j7 (aA X scope z.cl N z.C z.fp z.s z.H) ifs (tt z)/\PI (aA X scope z.cl N z.C z.fp z.s z.H) t2 i2 (wi2 z)/\PG (aA X scope z.cl N z.C z.fp z.s z.H) t2 (g2 z)/\j7 (aA X scope z.cl N z.C z.fp z.s z.H) f2 (tt2 z)/\PE (aA X scope z.cl N z.C z.fp z.s z.H) elt (te z))
  (hs:∀x,FY iter X.env x=pure x:=by intro _; rfl) (hs2:∀(env:Env)x,FY i2 env x=pure x:=by intro _ _; rfl) (hsw:Hc (.ListComp elt [⟨target,iter,ifs,0⟩,⟨t2,i2,f2,0⟩] scope pos) (some (.Name x pos')) spos.line X.env=pure true:=by rfl) :
  PS X (.Assign [.Name x pos'] (.ListComp elt [⟨target,iter,ifs,0⟩,⟨t2,i2,f2,0⟩] scope pos) spos) (lY (tLC2 fr wi g tt wi2 g2 tt2 te) (sH i)):=by
 intro pins s σ H Dn I h;rw[Mk _ _ _ _ hsw];refine AC (Hn (AC ?_));show wpAny _ X.A (do let _ <-comprehension (.ListComp elt [⟨target,iter,ifs,0⟩,⟨t2,i2,f2,0⟩] scope pos) scope X.env (firstIterPos [⟨target,iter,ifs,0⟩,⟨t2,i2,f2,0⟩] pos) (MX []) (firstAsync [⟨target,iter,ifs,0⟩,⟨t2,i2,f2,0⟩]) (firstIter [⟨target,iter,ifs,0⟩,⟨t2,i2,f2,0⟩] X.env) (some (IG (.Name x pos') X.env))) _ _ s
 refine AC (Gz (IT (g:=⟨target,iter,ifs,0⟩) (gs:=[⟨t2,i2,f2,0⟩]) (use:=some (IG (.Name x pos') X.env)) (Q:=λ_ s'=>SP X pins Dn .next s') (E:=X.xe) rfl hs (cC (S.cells I)) S.kind S.locs ?_) (λ_ s' hq=>BM (BM hq)) λ_ _ e=>e)
 refine bD (hi pins s σ H _ I h) λv s1 h1=>bD h1 λitv s2 h2=>?_
 obtain⟨it,fp,tn,J,H2,e,I2,T,st2,f2',h2⟩:=h2;subst e;refine FU ?_;have hD:H2 s2.heap.objs.size=none:=I2.fresh;have I3:=I2.wj (t':=s2.toks) (ys:=[]) (its:=[]) .nil (FV _);have lt2:∀b∈fp,b<s2.heap.objs.size:=λb hb=>by
  obtain⟨o,e,_⟩:=T.obj _ _ st2 b hb;exact Ch e
 have f3:∀b∈fp,ic X pins (upd H2 s2.heap.objs.size (.lst [])) b:=λb hb=>⟨by rw[aZ (E1 (lt2 b hb))]; exact(f2' b hb).1,(f2' b hb).2⟩
 generalize hs3:({ s2 with heap:=s2.heap.push { cls:=.type "list",data:=.seq ([]:List Value).toArray } }:B1)=s3
 have I3:Inv X pins σ (upd H2 s2.heap.objs.size (.lst [])) s3:=by rw[<-hs3]; exact I3
 have sz3:s3.heap.objs.size=s2.heap.objs.size+1:=by rw[<-hs3]; exact GN ..
 have u23:Un (frs X.stack) [] H2 (upd H2 s2.heap.objs.size (.lst [])) s2.heap s3.heap:=by
  rw[<-hs3];exact Un.laid (λb o e=>At _ e) (Da _) hD
 have ho:s3.os=s2.os:=by rw[<-hs3]
 have st3:tn 0 s3.heap:=T.keep _ _ _ st2 λb _ o e=>by rw[<-hs3]; exact At _ e
 refine J9 S.nocell (by intro y hy; simp at hy) (λh4 hns hsb=>?_) S.kind
 have lt3:∀b∈fp,b<s3.heap.objs.size:=λb hb=>FL (lt2 b hb) (by rw[sz3]; exact GU _)
 have I4:=iU (tk:=s3.toks+([]:List (Str×Value)).length) I3 S f3 lt3 hns hsb;have old4:∀b o,s3.heap.get? b=some o->h4.get? b=some o:=λb o e=>(hsb.2 b (E1 (Ch e))).trans (At _ e)
 have st4:tn 0 h4:=T.keep _ _ _ st3 λb _ o e=>old4 b o e
 have h2:=h2 _ hD ⟨aH X.env.cells scope.names [],s3.heap.objs.size,fp,s3,upd H2 s2.heap.objs.size (.lst [])⟩;obtain⟨hg,hif,hi2,hg2,hif2,hel⟩:=hin ⟨aH X.env.cells scope.names [],s3.heap.objs.size,fp,s3,upd H2 s2.heap.objs.size (.lst [])⟩;have loop:Hu (model X.prog X.w) X.A (.compLoop (.ListComp elt [⟨target,iter,ifs,0⟩,⟨t2,i2,f2,0⟩] scope pos) 0 (.ref it) (.ref s2.heap.objs.size) (KN scope (aH X.env.cells scope.names []) s3.heap.objs.size X.env))
   (Ms (model X.prog X.w) X.A X.xe (some (IG (.Name x pos') X.env)) (λ_ s'=>SP X pins Dn .next s') (.ref s2.heap.objs.size) s3.heap.objs.size) { s3 with heap:=h4,toks:=s3.toks+([]:List (Str×Value)).length }:=by
  refine iM (X:=aA X scope (aH X.env.cells scope.names []) N s3.heap.objs.size fp s3 (upd H2 s2.heap.objs.size (.lst []))) (pins:=[])
   (A3 ..) (λ_ _ _ z=>z) rfl hc rfl hg hif (A4 hc rfl hi2 hg2 hif2 hel (hs2 _)) T I4 st4 (λb hb=>?_) h2 (λτ' H' s' J' q=>?_)
  ·obtain⟨f0,f1,fs,fe,fc,fp'⟩:=f3 b hb
   refine⟨f0,E1 (lt3 b hb),λz=>?_,.inl hb,λx c e=>fc x c (dI scope.names [] (λ_ _ z=>by simp at z) e),λp hp=>absurd (show p∈([]:List (Addr×Obj)) from hp) (by simp)⟩
   rcases lK (I3.iD b z) with z | z
   ·exact f1 z
   ·exact fs z
  ·obtain⟨m,hn,_⟩:=J'.loc
   have Io:Inv X pins σ H' s':=iV (h':=s'.heap) I2 f2' u23 ho (by rw[sz3]; exact GU _) J' (LV ..)
   have Lne:X.env.locals≠s3.heap.objs.size:=E1 I3.lt;have uf:∀y c,X.env.cells.lookup y=some c->c≠s3.heap.objs.size:=λy c e=>by
    obtain⟨v,z⟩:=I3.cell y c e;exact E1 z.lt
   show wpAny (model X.prog X.w) X.A (IG (.Name x pos') X.env (.ref s2.heap.objs.size)) _ X.xe s';refine Ig (jv (v:=.ref s2.heap.objs.size) Io hN hi' (.inl hx) rfl (λs5 I5 sb5=>?_) (.inr hx))
   obtain⟨b,sb,hb⟩:=sb5;have hbne:s3.heap.objs.size≠b:=by
    rcases hb with e | e
    ·rw[e]; exact Lne.symm
    ·exact(uf _ _ e).symm
   refine⟨m,hn.sameBut sb hbne,λh' sb'=>⟨_,H',?_,q⟩⟩
   refine I5.wU (C:=s3.heap.objs.size) J'.free Lne.symm I3.sz uf (λp hp=>?_) sb'
   exact E1 (Ch (I3.pin p hp).1)
 exact Ii loop (T.self X.A 0 _ _ _ st4 loop)
end
end L2
end
section
namespace VL
open PySem PySem.Spec L2 PyProof.Rows
noncomputable def cE:FT:=λρ=>some (true,ρ)
abbrev VF(X:Cx)(ifs:List Expr)(f:FT):Prop:=j7 X ifs (vT X.K f)
section
variable{X:Cx}{pos:Pos}
theorem Cz:VF X [] cE:=λpins s σ H Q I hq=>BP pins s σ H Q I (by
 obtain⟨Z,ρ,F,b,ρ',S,w,e,q⟩:=hq;cases e;exact q H Z F S (aF.refl w))
theorem CA{c:Expr}{f:FT}(h:VT X c f):VF X [c] f:=BQ h
end
noncomputable def cap(ρ:Ev)(j:Nat):Option cU:=match cJ ρ j with
 |some (.v d)=>some (.t (.v d))
 |some _=>some (.p j)
 |none=>none
noncomputable def caps(ρ:Ev):List Nat->Option (List cU)
 |[]=>some []
 |j::js=>(cap ρ j).bind λo=>(caps ρ js).bind λos=>some (o::os)
noncomputable def bJ(fg:FG)(ft:FT)(fe:FE):List Ap->Ev->List Ap->Option (List Ap×Ev)
 |[],ρ,acc=>some (acc,ρ)
 |d::ds,ρ,acc=>(fg d ρ).bind λρ1=>(ft ρ1).bind λt=>if t.1=true then
  (fe t.2).bind λp=>(cZ p.1 p.2).bind λq=>if acc.length<lim then bJ fg ft fe ds q.2 (acc++[q.1]) else none
  else bJ fg ft fe ds t.2 acc
noncomputable def kc(n:Nat)(js:List Nat)(fi:FI)(fg:FG)(ft:FT)(fe:FE):FE:=λρ=>(fi ρ).bind λp=>(caps p.2 js).bind λos=>(cG os p.2).bind λq=>
 (bJ fg ft fe p.1 (E7 n none++q.1.map some) []).bind λr=>(fin (E7 js.length true) q.1 (r.2.drop n)).bind λms'=>some (.t (.lst r.1),gI os ms' q.2)
noncomputable def slot(σ:L2.St)(j:Nat):Option V:=match σ[j]? with
 |some v=>v
 |none=>none
noncomputable def fU(n:Nat)(js:List Nat)(σ:L2.St):Pv:=λk=>if k<n then none else match js[k-n]? with
 |some j=>slot σ j
 |none=>none
section
variable{K:AT}{H:Hp}{Z:Zs}{σ:L2.St}{ρ:Ev}{F:List Addr}
theorem zU(S:aS K H Z σ ρ F):∀{js:List Nat}{os:List cU},caps ρ js=some os->∃xs,jd K H Z σ xs os []/\xs.map some=js.map (slot σ)/\xs.length=js.length:=by
 intro js
 induction js with
 |nil=>
  intro _ e;cases e; exact⟨[],.nil,rfl,rfl⟩
 |cons j js ih=>
  intro _ e;obtain⟨o,e1,e⟩:=oB e;obtain⟨os,e2,e⟩:=oB e;cases e;obtain⟨xs,h1,h2,h3⟩:=ih e2;unfold cap at e1;cases hm:cJ ρ j with
  |none=>rw[hm] at e1; cases e1
  |some m=>
   obtain⟨x,G,k1,k2,k3⟩:=S.get (aE.mp hm);have ho:mH K H Z σ x o []:=by
    rw[hm] at e1;cases m with
    |v d=>cases e1; cases k2 with
     |v f=>exact .t (.v f)
    |lst _=>cases e1; exact .p k1
    |bP _=>cases e1; exact .p k1
    |gq _=>cases e1; exact .p k1
    |dtp _=>cases e1; exact .p k1
   refine⟨x::xs,.cons (G:=[]) ho h1,?_,by rw[D1,D1,h3]⟩
   rw[FN,FN,h2];unfold slot;rw[k1]
theorem zV(n:Nat)(js:List Nat)(σ:L2.St):mj (E7 n none++js.map some) σ=E7 n none++js.map (slot σ):=by
 unfold mj;rw[HS,List.map_replicate,Ee];rfl
theorem CB(n:Nat)(js:List Nat)(σ:L2.St):Pin (fU n js σ) (E7 n none++js.map (slot σ)):=λk x e=>by
 unfold fU at e
 split at e
 ·cases e
 ·next hk=>
  rw[Ff (by rw[Jv]; lia),Jv,Fs]
  cases hj:js[k-n]? with
  |none=>rw[hj] at e; cases e
  |some j=>rw[hj] at e; rw[Ji]; exact congrArg some e
theorem jH(n:Nat)(js:List Nat)(σ:L2.St){pin:List Nat}(hp:pin=(FD js.length).map (n + ·)):A0 (fU n js σ) pin:=λk x e=>by
 unfold fU at e
 split at e
 ·cases e
 ·next hk=>
  cases hj:js[k-n]? with
  |none=>rw[hj] at e; cases e
  |some j=>
   subst hp;have:=(EY.mp hj).1;exact FZ.mpr ⟨k-n,Hj.mpr this,by lia⟩
end
section
variable{X:Cx}{pos:Pos}
theorem aS.dropN{K:AT}{H:Hp}{Z:Zs}:∀{σ:L2.St}{ρ:Ev}{F:List Addr}(n:Nat),aS K H Z σ ρ F->F.Nodup->∃F',aS K H Z (σ.drop n) (ρ.drop n) F'/\F'.Nodup/\∀a∈F',a∈F:=by
 intro σ ρ F n h
 induction h generalizing n with
 |nil=>exact λnd=>⟨[],by rw[KC,KC]; exact .nil,nd,λ_ h=>h⟩
 |non r ih=>
  cases n with
  |zero=>exact λnd=>⟨_,.non r,nd,λ_ h=>h⟩
  |succ n=>exact ih n
 |som q r ih=>
  intro nd;cases n with
  |zero=>exact⟨_,.som q r,nd,λ_ h=>h⟩
  |succ n=>
   obtain⟨F',h1,h2,h3⟩:=ih n (bI nd).2.1;exact⟨F',h1,h2,λa h=>lR _ (h3 a h)⟩
theorem aF.put{H0 H:Hp}{Z0 Z:Zs}{F0 F:List Addr}{D:Addr}{o o':HO}(f:aF H0 Z0 F0 H Z (F++[D]))(e:H D=some o)(hn:∀u,o≠.tup u)(hf:∀x u,o≠.frz x u):aF H0 Z0 F0 (upd H D o') Z (F++[D])/\aM H Z (upd H D o') Z:=by
 have hD:D∈F++[D]:=lR _ lS;have nz:¬Z D:=f.dz D hD;have keep:∀a o2,a≠D->H a=some o2->upd H D o' a=some o2:=λa o2 n h=>by rw[aZ n]; exact h
 have za:∀a,Z a->upd H D o' a≠none:=λa z=>by
  have hne:a≠D:=λh=>nz (h▸z)
  rw[aZ hne];exact f.za a z
 have g:aM H Z (upd H D o') Z:=⟨ef.put e hn hf,λa o2 z h=>keep a o2 (λw=>nz (w▸z)) h,λ_ z=>z⟩
 refine⟨f.trans ⟨λa o2 n h=>keep a o2 (λw=>n (w▸hD)) h,g.tups,λ_ z=>z,λa z=>.inl z,λa h=>.inl h,f.nd,f.dz,za⟩,g⟩
inductive D7{α:Type}(K:AT)(pv:Pv)(AP:Hp->Zs->α->List Addr->Prop)(C:List Ap->Ev->α->Prop)(H1:Hp)(Z1:Zs)(B:List Addr)(ds:List Ap)(i m:Nat)(τ:L2.St)(H:Hp):Prop
 |mk (Z:Zs) (ρ:Ev) (F G:List Addr) (acc:α):m=ds.length-i->i<=ds.length->aS K H Z τ ρ F->Pin pv τ->AP H Z acc G->aF H1 Z1 B H Z (F++G)->C (ds.drop i) ρ acc->D7 K pv AP C H1 Z1 B ds i m τ H
theorem qp{α:Type}{pv:Pv}{fg:FG}{ft:FT}{tem:Cw}{J:It}{ds:List Ap}{τ:L2.St}{H0 H1:Hp}{Z0 Z1:Zs}{F0 G0 B:List Addr}{ρ0:Ev}{acc0:α}{Q:L2.St->Hp->Prop}
  (AP:Hp->Zs->α->List Addr->Prop) (C E:List Ap->Ev->α->Prop)
  (apm:∀{H Z H' Z' acc G},AP H Z acc G->aM H Z H' Z'->(∀a∈G,∀o,H a=some o->H' a=some o)->AP H' Z' acc G) (apa:∀{H Z acc G},AP H Z acc G->∀a∈G,H a≠none)
  (hC:∀d ds ρ acc,C (d::ds) ρ acc->∃ρ1 b ρ2,fg d ρ=some ρ1/\ft ρ1=some (b,ρ2)/\(b=true->E ds ρ2 acc)/\(b=false->C ds ρ2 acc))
  (S:aS X.K H0 Z0 τ ρ0 F0) (P:Pin pv τ) (a0:AP H0 Z0 acc0 G0) (f0:aF H1 Z1 B H0 Z0 (F0++G0)) (e:C ds ρ0 acc0)
  (hgo:∀H2 Z2 F2,aF H1 Z1 B H2 Z2 F2->∀k d,ds[k]? = some d->J.go k H2/\∀x H',J.yld k H2 x H'->bB H2 H'/\Fz X.K H' Z2 x d) (hst:∀H2 Z2 F2,aF H1 Z1 B H2 Z2 F2->∀k,ds.length<=k->J.stop k H2)
  (hE:∀ds' τ H Z ρ F G acc,E ds' ρ acc->aS X.K H Z τ ρ F->Pin pv τ->AP H Z acc G->aF H1 Z1 B H Z (F++G)->∀N:L2.St->Hp->Prop,(∀τ' H' Z' ρ' F' G' acc',aS X.K H' Z' τ' ρ' F'->Pin pv τ'->AP H' Z' acc' G'->aF H1 Z1 B H' Z' (F'++G')->C ds' ρ' acc'->N τ' H')->tem τ H N)
  (q:∀τ' H' Z' ρ' F' G' acc',aS X.K H' Z' τ' ρ' F'->Pin pv τ'->AP H' Z' acc' G'->aF H1 Z1 B H' Z' (F'++G')->C [] ρ' acc'->Q τ' H') :
  iL (vG X.K pv fg) (vT X.K ft) tem J τ H0 Q:=by
 refine⟨D7 X.K pv AP C H1 Z1 B ds,⟨_,Z0,ρ0,F0,G0,acc0,rfl,FV _,S,P,a0,f0,e⟩,λi m τ2 H2 hW=>?_⟩
 obtain⟨Z2,ρ2,F2,G2,acc,rfl,hi,S2,P2,a2,f2,e2⟩:=hW;rcases Me hi with hi | rfl
 ·right
  rw[Fv hi] at e2;obtain⟨go,yl⟩:=hgo H2 Z2 _ f2 i _ (Do hi);obtain⟨ρ3,b,ρ4,e3,e4,e5,e6⟩:=hC _ _ _ _ e2;refine⟨go,λτ' H'=>∃m',m'<ds.length-i/\D7 X.K pv AP C H1 Z1 B ds (i+1) m' τ' H',λτ' H' h=>h,λx H' hx=>?_⟩
  obtain⟨s,fz⟩:=yl x H' hx;have gs:aM H2 Z2 H' Z2:=aM.same s;have a2':=apm a2 gs λa _ o e=>s a o e
  obtain⟨m1,m2,m3⟩:=bI f2.nd;have fs:aF H2 Z2 (F2++G2) H' Z2 (F2++G2):=by
   have:=(aF.same s f2.za).news f2.wf λa h=>(lM h).elim (S2.al a) (apa a2 a)
   rw[E3] at this;exact this
  refine⟨Z2,ρ2,F2,_,ρ3,S2.mono gs λa _ o e=>s a o e,m1,P2,fz,e3,λτ3 F3 S3 n3 s3 P3=>?_⟩
  have f3:aF H1 Z1 B H' Z2 (F3++G2):=(f2.trans fs).sub (aP n3 m2 λa h z=>m3 a (s3 a h) z) λa h=>by
   rcases lM h with h | h
   ·exact lL _ (s3 a h)
   ·exact lR _ h
  refine⟨Z2,ρ3,F3,b,ρ4,S3,f3.left.wf,e4,λH4 Z4 F4 S4 g4=>?_⟩
  have f4:aF H1 Z1 B H4 Z4 (F4++G2):=f3.trans (g4.frame f3.wf (apa a2'));have a4:=apm a2' (g4.grow f3.left.wf) λa h o e=>g4.keep a o (λz=>(bI f3.nd).2.2 a z h) e
  cases b with
  |false=>exact iteF ⟨_,by lia,Z4,ρ4,F4,G2,acc,rfl,hi,S4,P3,a4,f4,e6 rfl⟩
  |true=>exact iteT (hE _ _ _ _ _ _ _ _ (e5 rfl) S4 P3 a4 f4 _ λτ' H' Z' ρ' F' G' acc' s p a f c=>⟨_,by lia,Z',ρ',F',G',acc',rfl,hi,s,p,a,f,c⟩)
 ·left
  rw[Ic] at e2;exact⟨hst H2 Z2 _ f2 _ (Da _),q τ2 H2 Z2 _ F2 G2 _ S2 P2 a2 f2 e2⟩
inductive jI(K:AT)(D:Addr)(H:Hp)(Z:Zs)(acc:List Ap)(G:List Addr):Prop
 |mk (xs:List V):G=[D]->H D=some (.lst xs)->bu K H Z xs acc->jI K D H Z acc G
theorem jI.mono{K:AT}{D:Addr}{H H':Hp}{Z Z':Zs}{acc:List Ap}{G:List Addr}(h:jI K D H Z acc G)(g:aM H Z H' Z')(k:∀a∈G,∀o,H a=some o->H' a=some o):jI K D H' Z' acc G:=by
 obtain⟨xs,rfl,e,z⟩:=h;exact⟨xs,rfl,k D lS _ e,z.mono g⟩
theorem jI.al{K:AT}{D:Addr}{H:Hp}{Z:Zs}{acc:List Ap}{G:List Addr}(h:jI K D H Z acc G):∀a∈G,H a≠none:=by
 obtain⟨xs,rfl,e,z⟩:=h;exact λa h q=>by rw[Bn.mp h,e] at q; cases q
theorem rZ{pv:Pv}{fg:FG}{ft:FT}{fe:FE}{J:It}{ds:List Ap}{D:Addr}{τ:L2.St}{H0 H1:Hp}{Z0 Z1:Zs}{F0 B:List Addr}{ρ0:Ev}{r:List Ap×Ev}{xs0:List V}{acc0:List Ap}{Q:L2.St->Hp->Prop}(S:aS X.K H0 Z0 τ ρ0 F0)(P:Pin pv τ)(d0:H0 D=some (.lst xs0))(z0:bu X.K H0 Z0 xs0 acc0)(f0:aF H1 Z1 B H0 Z0 (F0++[D]))
  (hgo:∀H2 Z2 F2,aF H1 Z1 B H2 Z2 F2->∀k d,ds[k]? = some d->J.go k H2/\∀x H',J.yld k H2 x H'->bB H2 H'/\Fz X.K H' Z2 x d) (hst:∀H2 Z2 F2,aF H1 Z1 B H2 Z2 F2->∀k,ds.length<=k->J.stop k H2) (e:bJ fg ft fe ds ρ0 acc0=some r)
  (q:∀τ' H' Z' F' xs,aS X.K H' Z' τ' r.2 F'->Pin pv τ'->H' D=some (.lst xs)->bu X.K H' Z' xs r.1->aF H1 Z1 B H' Z' (F'++[D])->Q τ' H'):iL (vG X.K pv fg) (vT X.K ft) (nE D (vE X.K fe)) J τ H0 Q:=by
 refine qp (jI X.K D) (λds ρ acc=>bJ fg ft fe ds ρ acc=some r) (λds ρ acc=>((fe ρ).bind λp=>(cZ p.1 p.2).bind λq=>if acc.length<lim then bJ fg ft fe ds q.2 (acc++[q.1]) else none)=some r) jI.mono jI.al (λd ds ρ acc e=>?_) S P ⟨xs0,rfl,d0,z0⟩ f0 e hgo hst (λds' τ H Z ρ F G acc e S P a f N hN=>?_) λτ' H' Z' ρ' F' G' acc' S P a f e=>?_
 ·obtain⟨ρ3,e3,e⟩:=oB e
  obtain⟨⟨b,ρ4⟩,e4,e⟩:=oB e;exact⟨ρ3,b,ρ4,e3,e4,λh=>by subst h; exact e,λh=>by subst h; exact e⟩
 ·obtain⟨xs,rfl,d4,z4⟩:=a
  obtain⟨⟨o5,ρ5⟩,e5,e⟩:=oB e;obtain⟨⟨d,ρ6⟩,e6,e⟩:=oB e
  split at e
  ·next hl=>
   refine⟨Z,ρ,F,o5,ρ5,S,f.left.wf,e5,λy H5 Z5 F5 G5 S5 O5 g5=>?_⟩
   have d5:H5 D=some (.lst xs):=g5.keep D _ (λz=>(bI f.nd).2.2 D z lS) d4
   obtain⟨Z6,F6,S6,y6,f6,g6⟩:=freeze S5 O5 (f.trans (g5.frame f.wf (jI.al ⟨xs,rfl,d4,z4⟩))) e6;have z6:=(z4.mono (g5.grow f.left.wf)).mono g6;obtain⟨f7,g7⟩:=f6.put (o':=.lst (xs++[y])) d5 (λ_ z=>nomatch z) (λ_ _ z=>nomatch z)
   refine⟨xs,d5,kZ (HX (by rw[z6.length]; exact hl)),hN _ _ Z6 ρ6 F6 _ _ (S6.mono g7 λa h o e=>?_) P ⟨xs++[y],rfl,aT,(z6.mono g7).append (.cons (y6.mono g7) .nil)⟩ f7 e⟩
   rw[aZ λz=>(bI f6.nd).2.2 a h (by rw[z]; exact lS)]
   exact e
  ·cases e
 ·cases e
  obtain⟨xs,rfl,d,z⟩:=a;exact q τ' H' Z' F' xs S P d z f
theorem zW{n:Nat}{pv:Pv}{fg:FG}{ft:FT}{fe:FE}{J:It}{ds:List Ap}{D:Addr}{τ:L2.St}{H1:Hp}{Z1:Zs}{A:List Addr}{ρ0:Ev}{r:List Ap×Ev}{Q:Hp->Prop}(hD:H1 D=none)(S:aS X.K H1 Z1 τ ρ0 A)(w:Wf H1 Z1 A)(P:Pin pv τ)(hJ:jE X.K J H1 Z1 ds)(e:bJ fg ft fe ds ρ0 []=some r)
  (q:∀τ' H' Z' F' xs,aS X.K H' Z' τ' r.2 F'->Pin pv τ'->H' D=some (.lst xs)->bu X.K H' Z' xs r.1->aF H1 Z1 A H' Z' (F'++[D])->Q H'):sQ (vG X.K pv fg) (vT X.K ft) (eApp D (vE X.K fe)) J τ (upd H1 D (.lst [])) Q:=by
 have n0:=aF.uL (o:=.lst []) hD w.za;exact rZ (Q:=λ_=>Q) (S.news n0) P aT .nil (n0.news w S.al) (λH2 Z2 _ f=>hJ.go H2 Z2 (f.grow w)) (λH2 Z2 _ f=>hJ.stop H2 Z2 (f.grow w)) e q
inductive A5(K:AT)(H:Hp)(Z:Zs)(F:List Addr)(H1:Hp)(Z1:Zs)(σ:L2.St)(n:Nat)(js:List Nat)(os:List cU)(ms:List M)(ρh:Ev):Prop
 |mk (τ:L2.St) (A Fh:List Addr):mj (E7 n none++js.map some) σ=τ->aS K H1 Z1 τ (E7 n none++ms.map some) A->Wf H1 Z1 A->Pin (fU n js σ) τ->aS K H1 Z1 σ ρh Fh->(∀a∈Fh,a∉A) ->
  (∀τ' H2 Z2 ρi F2 G ms',aS K H2 Z2 τ' ρi F2->Pin (fU n js σ) τ'->aF H1 Z1 A H2 Z2 (F2++G)->fin (E7 js.length true) ms (ρi.drop n)=some ms'->∃F4,aS K H2 Z2 σ (gI os ms' ρh) F4/\aF H Z F H2 Z2 (F4++G))->A5 K H Z F H1 Z1 σ n js os ms ρh
theorem iN{H:Hp}{Z:Zs}{F:List Addr}{H1:Hp}{Z1:Zs}{F1:List Addr}{σ:L2.St}{ρ1:Ev}{n:Nat}{js:List Nat}{os:List cU}{ms:List M}{ρh:Ev}(S1:aS X.K H1 Z1 σ ρ1 F1)(f1:aF H Z F H1 Z1 F1)(e2:caps ρ1 js=some os)(e3:cG os ρ1=some (ms,ρh)):A5 X.K H Z F H1 Z1 σ n js os ms ρh:=by
 obtain⟨xs,O1,hxs,hxl⟩:=zU S1 e2;obtain⟨A,Fh,h1,h2,h3,h4⟩:=qm S1 O1 (by rw[E3]; exact f1.nd) e3
 rw[E3] at h4;obtain⟨n1,n2,n3⟩:=bI h3;have wA:Wf H1 Z1 A:=⟨n2,λa h=>f1.dz a (h4 a (lR _ h)),f1.za⟩
 have P0:=CB n js σ;rw[<-hxs] at P0;refine⟨_,A,Fh,by rw[zV,<-hxs],aS.tN h1 n,wA,P0,h2,n3,λτ' H2 Z2 ρi F2 G ms' S2 P2 f2 e5=>?_⟩
 obtain⟨m1,m2,m3⟩:=bI f2.nd;obtain⟨F3,k1,k2,k3⟩:=S2.dropN n m1;obtain⟨A',a1,a2,a3⟩:=rX (vs:=xs) k1 k2 (λi x _ hx=>by
  rw[IQ];refine P2 (n+i) x ?_;unfold fU;rw[if_neg (by lia),show n+i-n=i by lia]
  have hmap:(js.map (slot σ))[i]? = some (some x):=by rw[<-hxs,Fs,hx]; rfl
  rw[Fs] at hmap;obtain⟨j,hj,hj'⟩:=Go.mp hmap;rw[hj];exact hj') (λi x d h=>by
   have:=Iu h;rw[List.mem_replicate] at this;cases this.2) h1.length e5
 have n3':∀a∈A,a∉Fh:=λa h z=>n3 a z h
 have Sh:aS X.K H2 Z2 σ ρh Fh:=h2.mono (f2.grow wA) λa h o e=>f2.keep a o (n3 a h) e
 have fF:=f2.frame (G:=Fh) ⟨aP n2 n1 n3',λa h=>by
  rcases lM h with h | h
  ·exact f1.dz a (h4 a (lR _ h))
  ·exact f1.dz a (h4 a (lL _ h)),f1.za⟩ h2.al
 obtain⟨u1,u2,u3,u4,u5,u6⟩:=DJ fF.nd;obtain⟨F4,p1,p2,p3⟩:=tH Sh O1 a1 (aP u3 a2 λa h z=>u5 a (k3 a (a3 a z)) h) (nD e3)
 have f4:aF H Z F H1 Z1 (A++Fh):=f1.sub (aP n2 n1 n3') λa h=>h4 a (by
  rcases lM h with h | h
  ·exact lR _ h
  ·exact lL _ h)
 refine⟨F4,p1,(f4.trans fF).sub (aP p2 u2 λa h z=>?_) λa h=>?_⟩
 ·rcases lM (p3 a h) with y | y
  ·exact u6 a z y
  ·exact u4 a (k3 a (a3 a y)) z
 ·rcases lM h with h | h
  ·rcases lM (p3 a h) with y | y
   ·exact lR _ y
   ·exact lL _ (lL _ (k3 a (a3 a y)))
  ·exact lL _ (lR _ h)
theorem iO{n:Nat}{js:List Nat}{fi:FI}{fg:FG}{ft:FT}{fe:FE}{σ:L2.St}{H:Hp}{Q:VK}{fr:List (Option Nat)}(hfr:fr=E7 n none++js.map some)(hq:vE X.K (kc n js fi fg ft fe) σ H Q) :
  C8 fr (vI X.K fi) (λ_=>vG X.K (fU n js σ) fg) (λ_=>vT X.K ft) (λ_=>vE X.K fe) σ H Q:=by
 subst hfr;obtain⟨Z,ρ,F,o,ρ',S,w,e,q⟩:=hq;obtain⟨⟨ds,ρ1⟩,e1,e⟩:=oB e;obtain⟨os,e2,e⟩:=oB e;obtain⟨⟨ms,ρh⟩,e3,e⟩:=oB e;obtain⟨⟨acc,ρi⟩,e4,e⟩:=oB e;obtain⟨ms',e5,e⟩:=oB e;cases e;refine⟨Z,ρ,F,ds,ρ1,S,w,e1,λJ H1 Z1 F1 S1 hJ f1 D hD z=>?_⟩
 obtain⟨τ,A,Fh,eτ,S0,wA,P0,h2,n3,back⟩:=iN (n:=n) S1 f1 e2 e3;rw[eτ];refine zW (n:=n) hD S0 wA P0 hJ e4 λτ' H2 Z2 F2 ys S2 P2 d2 z2 f2=>?_
 obtain⟨F4,p1,f4⟩:=back _ _ _ _ _ _ _ S2 P2 f2 e5;exact q (.ref D) H2 Z2 F4 [D] p1 (.t (.lst d2 z2)) f4
theorem ve_lc(n:Nat)(js:List Nat){elt target iter:Expr}{ifs:List Expr}{scope:Scope}{N:List Str}{fr:List (Option Nat)}{pin:List Nat}{fi:FI}{fg:FG}{ft:FT}{fe:FE}(hfr:fr=E7 n none++js.map some)(hpin:pin=(FD js.length).map (n + ·))(hc:X.calm=true)(S:aR X scope N fr)(hi:VI X target iter fi)
  (hin:∀z:Bk,VG (aA X scope z.cl N z.C z.fp z.s z.H) pin target fg/\VF (aA X scope z.cl N z.C z.fp z.s z.H) ifs ft/\VE (aA X scope z.cl N z.C z.fp z.s z.H) elt fe)
  (hs:∀x,FY iter X.env x=pure x:=by intro _; rfl):VE X (.ListComp elt [⟨target,iter,ifs,0⟩] scope pos) (kc n js fi fg ft fe):=λpins s σ H Q I hq=>
 wF (g:=λ_=>vG X.K (fU n js σ) fg) (tt:=λ_=>vT X.K ft) (te:=λ_=>vE X.K fe) hc S hi (λz=>⟨(hin z).1 _ (jH n js σ hpin),(hin z).2.1,(hin z).2.2⟩) hs pins s σ H Q I (iO hfr hq)
end
section
variable{K:AT}{H H0:Hp}{Z Z0:Zs}{F F0:List Addr}{σ:L2.St}{ρ:Ev}
theorem mut1{i:Nat}{m:M}(S:aS K H Z σ ρ F)(f:aF H0 Z0 F0 H Z F)(e:cJ ρ i=some m):∃x G,σ[i]? = some (some x)/\Ow K H Z x m G/\∀a o',a∈G->aM H Z (upd H a o') Z/\(∀b∈G,b≠a->∀o,H b=some o->upd H a o' b=some o) /\
  ∀m' G',(∀b∈G',b∈G)->G'.Nodup->Ow K (upd H a o') Z x m' G'->∃F',aS K (upd H a o') Z σ (ρ.set i (some m')) F'/\aF H0 Z0 F0 (upd H a o') Z F':=by
 obtain⟨x,G,F1,t1,t2,t3,t4,t5⟩:=S.take f.nd (aE.mp e);have hl:=(EY.mp (aE.mp e)).1;obtain⟨n1,n2,n3⟩:=bI t4;refine⟨x,G,t1,t2,λa o' ha=>?_⟩
 obtain⟨o,ho,hmu⟩:=t2.mem a ha;have haF:a∈F:=t5 a (lR _ ha);have nz:¬Z a:=f.dz a haF;have ne:∀b,b≠a->upd H a o' b=H b:=λb h=>aZ h
 have g:aM H Z (upd H a o') Z:=⟨by
  rcases hmu with⟨xs,rfl⟩ | ⟨kvs,rfl⟩ | ⟨kvs,rfl⟩
  ·exact ef.lst ho
  ·exact ef.dk ho
  ·exact .put ho (λ_ z=>nomatch z) (λ_ _ z=>nomatch z),λb o2 z h=>by rw[ne b λw=>nz (w▸z)]; exact h,λ_ z=>z⟩
 refine⟨g,λb _ h o2 e2=>by rw[ne b h]; exact e2,λm' G' hs nd' h' =>?_⟩
 have S1:aS K (upd H a o') Z σ (ρ.set i none) F1:=t3.mono g λb hb o2 e2=>by
  rw[ne b λw=>n3 b hb (w▸ha)]
  exact e2
 obtain⟨F2,p1,p2,p3⟩:=S1.put h' (aP n1 nd' λb hb z=>n3 b hb (hs b z)) (by rw[Gh hl])
 rw[Ka,gU t1] at p1;have za:∀b,Z b->upd H a o' b≠none:=λb z=>by
  rw[ne b λw=>nz (w▸z)]
  exact f.za b z
 have f1:aF H Z F (upd H a o') Z F:=⟨λb o2 n h=>by rw[ne b λw=>n (w▸haF)]; exact h,g.tups,λ_ z=>z,λb z=>.inl z,λb h=>.inl h,f.nd,f.dz,za⟩
 refine⟨F2,p1,(f.trans f1).sub p2 λb hb=>?_⟩
 rcases lM (p3 b hb) with y | y
 ·exact t5 b (lL _ y)
 ·exact t5 b (lR _ (hs b y))
end
section
variable{X:Cx}{pos:Pos}{pin:List Nat}
noncomputable def uP(i:Nat)(fa:FA):FE:=λρ=>(cJ ρ i).bind λm0=>match m0 with
 |.lst _=>(fa ρ).bind λp=>match p.1 with
  |[o]=>(cZ o p.2).bind λq=>(cJ q.2 i).bind λm=>match m with
   |.lst ds=>if ds.length<lim then some (.t (.v .none),q.2.set i (some (.lst (ds++[q.1])))) else none
   |_=>none
  |_=>none
 |_=>none
theorem zX{i:Nat}{fa:FA}{σ:L2.St}{H:Hp}{Q:VK}(hq:vE X.K (uP i fa) σ H Q):AN X.K "list" ki (fu i) (vA X.K fa) σ H Q:=by
 obtain⟨Z,ρ,F,o,ρ',S,w,e,q⟩:=hq;obtain⟨m0,e0,e⟩:=oB e
 split at e
 ·rename_i ds0
  obtain⟨x,G,h1,h2,_⟩:=S.get (aE.mp e0);obtain⟨a,xs0,rfl,ha,_⟩:=(show Ro X.K H Z x (.lst ds0) from⟨G,h2⟩).lst
  refine⟨.ref a,h1,.inl ⟨rfl,_,gg.of ha⟩,?_⟩;obtain⟨⟨os,ρ1⟩,e1,e⟩:=oB e;refine⟨Z,ρ,F,os,ρ1,S,w,e1,λxs H1 Z1 F1 G1 S1 O1 f1=>?_⟩
  rcases os with _ | ⟨o1,_ | ⟨o2,os⟩⟩
  ·cases e
  ·obtain⟨⟨d,ρ2⟩,e2,e⟩:=oB e
   obtain⟨m,e3,e⟩:=oB e
   split at e
   ·rename_i ds
    split at e
    ·rename_i hl
     cases e;cases O1 with
     |cons p1 r1=>
      cases r1;rw[E3] at f1;obtain⟨Z2,F2,S2,z2,f2,_⟩:=gV S1 p1 f1 e2;obtain⟨x',G',k1,k2,k3⟩:=mut1 S2 f2 e3;rw[h1] at k1; cases k1;cases k2 with
      |lst hb fb=>
       obtain⟨g,_,k4⟩:=k3 a (.lst (_++[_])) lS;obtain⟨F3,S3,f3⟩:=k4 (.lst (ds++[d])) [a] (λ_ h=>h) (Fb.mpr ⟨Fg,G7⟩) (.lst aT ((fb.append (.cons z2 .nil)).mono g))
       exact⟨a,_,_,rfl,rfl,hb,kZ (HX (by rw[fb.length]; exact hl)),q .non _ Z2 F3 [] S3 (.t (.v .non)) f3.nil⟩
    ·cases e
   ·cases e
  ·cases e
 ·cases e
theorem CC(i:Nat){e:Expr}{es:List Expr}{fa:FA}{x:Str}{p1 p2:Pos}(ha:VA X (e::es) fa)(hpe:∀(to:TE)(t:TA),PE X (.Name x p1) to->PA X (e::es) t->PE X (.Call (.Attribute (.Name x p1) "append" p2) (e::es) [] pos) (AN X.K "list" ki to t))(hv:PE X (.Name x p1) (fu i)):VE X (.Call (.Attribute (.Name x p1) "append" p2) (e::es) [] pos) (uP i fa):=bM (hpe _ _ hv ha) λ_ _ _ hq=>zX hq
noncomputable def vpVar(i:Nat):Ev->Option Ap:=λρ=>(cJ ρ i).bind λm=>match m with
 |.v d=>some d
 |_=>none
theorem kr.uniq{K:AT}{H:Hp}{Z:Zs}{kxs:List (Key×V)}{kvs:List (Key×List Ap)}{G G':List Addr}(r:kr K H Z kxs kvs G)(r':kr K H Z kxs kvs G'):G=G':=by
 induction r generalizing G' with
 |nil=>cases r'; rfl
 |cons _ _ _ ih=>cases r' with
  |cons _ _ r2=>rw[ih r2]
noncomputable def putD(kvs:List (Key×Ap))(k:Key)(d:Ap):List (Key×Ap):=if (kvs.any λkv=>decide (kv.1=k))=true then kvs.map (λkv=>if kv.1=k then (kv.1,d) else kv) else kvs++[(k,d)]
noncomputable def uQ(i:Nat)(fk fe:FE):FS:=λρ=>(fe ρ).bind λp=>(cZ p.1 p.2).bind λq=>(cJ q.2 i).bind λm0=>match m0 with
 |.v _=>none
 |_=>(fk q.2).bind λr=>(peek r.2 r.1).bind λmk=>(cJ r.2 i).bind λm=>match m,mk with
  |.bP kvs,.v kd=>(fR kd).bind λk=>if kvs.length<lim then some (.nx (r.2.set i (some (.bP (putD kvs k q.1))))) else none
  |.lst ds,.v (.int k)=>(vz ds.length k).bind λj=>some (.nx (r.2.set i (some (.lst (ds.set j q.1)))))
  |_,_=>none
theorem zY{K:AT}{H:Hp}{Z:Zs}(k:Key):∀{kxs:List (Key×V)}{kvs:List (Key×Ap)},gp K H Z kxs kvs->(kxs.any λkv=>decide (kv.1=k))=(kvs.any λkv=>decide (kv.1=k)):=by
 intro kxs
 induction kxs with
 |nil=>intro kvs h; cases h; rfl
 |cons p kxs ih=>intro kvs h; cases h with | cons _ r=>rw[Ha,Ha,ih r]
theorem oX{K:AT}{H:Hp}{Z:Zs}{y:V}{d:Ap}{k:Key}(fy:Fz K H Z y d):∀{kxs:List (Key×V)}{kvs:List (Key×Ap)},gp K H Z kxs kvs->gp K H Z (kxs.map λkv=>if kv.1=k then (kv.1,y) else kv) (kvs.map λkv=>if kv.1=k then (kv.1,d) else kv)
 |_,_,.nil=>.nil
 |_,_,.cons (k:=k') h r=>by
  rw[FN,FN]
  by_cases hk:k'=k
  ·simp only[hk,if_true]; exact .cons fy (oX fy r)
  ·simp only[hk,if_false]; exact .cons h (oX fy r)
theorem qq{K:AT}{H:Hp}{Z:Zs}{y:V}{d:Ap}{k:Key}(fy:Fz K H Z y d):∀{kxs:List (Key×V)}{kvs:List (Key×Ap)},gp K H Z kxs kvs->gp K H Z (kxs++[(k,y)]) (kvs++[(k,d)])
 |_,_,.nil=>.cons fy .nil
 |_,_,.cons h r=>.cons h (qq fy r)
theorem gp.put{K:AT}{H:Hp}{Z:Zs}{y:V}{d:Ap}{k:Key}(fy:Fz K H Z y d){kxs:List (Key×V)}{kvs:List (Key×Ap)}(r:gp K H Z kxs kvs):gp K H Z (putK kxs k y) (putD kvs k d):=by
 unfold putK putD;rw[zY k r]
 split
 ·exact oX fy r
 ·exact qq fy r
theorem CD{st:Stmt}{t u:TS}(h:PS X st t)(h':PS X st u):PS X st (λD σ H=>t D σ H\/u D σ H):=λpins s σ H D I q=>q.elim (h pins s σ H D I) (h' pins s σ H D I)
theorem Ow.uniq{K:AT}{H:Hp}{Z:Zs}{x:V}{m:M}{A B:List Addr}(r:Ow K H Z x m A)(r':Ow K H Z x m B):A=B:=by
 cases r with
 |v _=>cases r'; rfl
 |lst _ _=>cases r'; rfl
 |bP _ _=>cases r'; rfl
 |dtp _ _ _=>cases r'; rfl
 |gq e r=>
  cases r' with
  |gq e' r' =>
   rw[e] at e'; cases e';rw[kr.uniq r r']
theorem tP{i:Nat}{fk fe:FE}{pv:Pv}{D:Ends}{σ:L2.St}{H:Hp}{Z:Zs}{ρ:Ev}{F:List Addr}{o1 o2:cU}{d:Ap}{ρ1 ρ2 ρ3:Ev}{mk m m':M}(S:aS X.K H Z σ ρ F)(w:Wf H Z F)(P:Pin pv σ)(e1:fe ρ=some (o1,ρ1))(e2:cZ o1 ρ1=some (d,ρ2))(e4:fk ρ2=some (o2,ρ3))(e5:peek ρ3 o2=some mk)(e6:cJ ρ3 i=some m)
  (q:qo X.K pv D H Z F (.nx (ρ3.set i (some m')))) {a:Addr} {m0:M} (e3:cJ ρ2 i=some m0) (hm0:∀d,m0≠.v d)
  (R:V->V->V->Hp->Prop) (hR:∀H3 Z3 x v k,Ro X.K H3 Z3 x m->Fz X.K H3 Z3 v d->Ro X.K H3 Z3 k mk->(∀G,Ow X.K H3 Z3 x m G->∀a o',a∈G->(aM H3 Z3 (upd H3 a o') Z3->Ow X.K (upd H3 a o') Z3 x m' G)->D.nx σ (upd H3 a o'))->R x v k H3) :
  vE X.K fe σ H λv H1=>fu i σ H1 λx H2=>vE X.K fk σ H2 λk H3=>R x v k H3:=by
 refine⟨Z,ρ,F,o1,ρ1,S,w,e1,λv H1 Z1 F1 G1 S1 O1 f1=>?_⟩
 obtain⟨Z2,F2,S2,z2,f2,_⟩:=gV S1 O1 f1 e2;obtain⟨x,G,h1,h2,_⟩:=S2.get (aE.mp e3);refine⟨x,h1,Z2,ρ2,F2,o2,ρ3,S2,f2.wf,e4,λk H3 Z3 F3 G3 S3 O3 f3=>?_⟩
 have f4:=f2.trans f3.left;obtain⟨x',G',k1,k2,k3⟩:=mut1 S3 f4 e6;rw[h1] at k1; cases k1;refine hR H3 Z3 x v k ⟨G',k2⟩ (z2.mono (f3.grow f2.wf)) (O3.peek S3 e5) λG2 hG a o' ha hk=>?_
 have eG:G2=G':=by
  exact Ow.uniq hG k2
 subst eG;obtain⟨g,_,k4⟩:=k3 a o' ha;have ndG:G2.Nodup:=by
  obtain⟨x2,G3',F1',t1,t2,t3,t4,t5⟩:=S3.take f4.nd (aE.mp e6);rw[h1] at t1; cases t1;rw[Ow.uniq k2 t2];exact(bI t4).2.1
 obtain⟨F5,S5,f5⟩:=k4 m' G2 (λ_ h=>h) ndG (hk g)
 exact q σ _ Z3 F5 S5 f5 P
theorem zZ{i:Nat}{fk fe:FE}{pv:Pv}{D:Ends}{σ:L2.St}{H:Hp}(hq:vS X.K pv (uQ i fk fe) D σ H):wo (fu i) (vE X.K fk) (vE X.K fe) D σ H\/lY (vE X.K fe) (vX (fu i) (vE X.K fk) p6) D σ H:=by
 obtain⟨Z,ρ,F,o,S,w,P,e,q⟩:=hq;obtain⟨⟨o1,ρ1⟩,e1,e⟩:=oB e;obtain⟨⟨d,ρ2⟩,e2,e⟩:=oB e;obtain⟨m0,e3,e⟩:=oB e;have main:(∀d,m0≠.v d)->((fk ρ2).bind λr=>(peek r.2 r.1).bind λmk=>(cJ r.2 i).bind λm=>match m,mk with
  |.bP kvs,.v kd=>(fR kd).bind λk=>if kvs.length<lim then some (Out.nx (r.2.set i (some (.bP (putD kvs k d))))) else none
  |.lst ds,.v (.int k)=>(vz ds.length k).bind λj=>some (.nx (r.2.set i (some (.lst (ds.set j d)))))
  |_,_=>none)=some o->wo (fu i) (vE X.K fk) (vE X.K fe) D σ H\/lY (vE X.K fe) (vX (fu i) (vE X.K fk) p6) D σ H:=λhm0 e=>by
  obtain⟨⟨o2,ρ3⟩,e4,e⟩:=oB e;obtain⟨mk,e5,e⟩:=oB e;obtain⟨m,e6,e⟩:=oB e
  split at e
  ·rename_i kvs kd
   obtain⟨k,e7,e⟩:=oB e
   split at e
   ·rename_i hl
    injection e with e
    subst e;refine .inl (tP (a:=0) S w P e1 e2 e4 e5 e6 q e3 hm0 _ λH3 Z3 x v y hx hv hy fin=>?_)
    obtain⟨G,hG⟩:=hx;cases hG with
    |bP ha fk' =>
     obtain rfl:=fS hy.fz e7;exact⟨_,_,rfl,wm.k ha (kZ (HX (by rw[fk'.length]; exact hl))),fin _ (.bP ha fk') _ _ lS λg=>.bP aT (gp.put (hv.mono g) (fk'.mono g))⟩
   ·cases e
  ·rename_i ds k
   obtain⟨j,e7,e⟩:=oB e
   injection e with e
   subst e;refine .inr (tP (a:=0) S w P e1 e2 e4 e5 e6 q e3 hm0 _ λH3 Z3 x v y hx hv hy fin=>?_)
   obtain⟨G,hG⟩:=hx;cases hG with
   |lst ha fs=>
    obtain rfl:=hy.int;exact⟨_,_,_,j,rfl,rfl,ha,by rw[fs.length]; exact e7,fin _ (.lst ha fs) _ _ lS λg=>.lst aT ((fs.mono g).set j (hv.mono g))⟩
  ·cases e
 cases m0 with
 |v d=>cases e
 |lst _=>exact main (λ_ z=>nomatch z) e
 |bP _=>exact main (λ_ z=>nomatch z) e
 |gq _=>exact main (λ_ z=>nomatch z) e
 |dtp _=>exact main (λ_ z=>nomatch z) e
theorem CF(i:Nat){o k e:Expr}{fk fe:FE}{pos':Pos}(hu:X.A.units+64<cLine)(ho:PE X o (fu i))(hk:VE X k fk)(he:VE X e fe)(hs:Hc e (some (.Subscript o k pos')) pos.line X.env=pure false)
  (hps:∀(te:TE)(t:TG),PE X e te->PG X (.Subscript o k pos') t->PS X (.Assign [.Subscript o k pos'] e pos) (lY te t)) (hpg:∀to ti:TE,PE X o to->PE X k ti->PG X (.Subscript o k pos') (vX to ti p6)):VS X pin (.Assign [.Subscript o k pos'] e pos) (uQ i fk fe):=λpv hp=>
 gJ (CD (zc (by lia) ho hk he hs) (hps _ _ he (hpg _ _ ho hk))) λ_ _ _ hq=>zZ hq
end
section
variable{X:Cx}{pos:Pos}{pin:List Nat}
theorem tQ{i:Nat}{f:FE}{pv:Pv}{D:Ends}{σ:L2.St}{H:Hp}(hp:A0 pv pin)(hp0:i∉pin)(hq:vS X.K pv (bg i f) D σ H):vE X.K f σ H λx H1=>D.nx (σ.set i (some x)) H1:=by
 obtain⟨Z,ρ,F,o,S,w,P,e,q⟩:=hq;obtain⟨⟨o1,ρ1⟩,e1,e⟩:=oB e;obtain⟨⟨m,ρ2⟩,e2,e⟩:=oB e;obtain⟨ρ3,e3,e⟩:=oB e;cases e;refine⟨Z,ρ,F,o1,ρ1,S,w,e1,λy H1 Z1 F1 G1 S1 O1 f1=>?_⟩
 obtain⟨Z2,F2,G2,h1,h2,h3⟩:=moved S1 O1 f1 e2;obtain⟨F3,k1,k2,k3⟩:=h1.gK h2 h3.nd e3;exact q _ H1 Z2 F3 k1 (h3.sub k2 k3) (P.set hp hp0)
theorem CG{i:Nat}{x:Str}(n:Nat)(js:List Nat){elt target iter:Expr}{ifs:List Expr}{scope:Scope}{N:List Str}{fr:List (Option Nat)}{pinI:List Nat}{fi:FI}{fg:FG}{ft:FT}{fe:FE}{pos' spos:Pos}(hp0:i∉pin)(hN:X.N.Nodup)(hi':X.N[i]? = some x)(hx:X.env.scope.names.lookup x=some .local)
  (hfr:fr=E7 n none++js.map some) (hpin:pinI=(FD js.length).map (n + ·)) (hc:X.calm=true) (S:aR X scope N fr) (hi:VI X target iter fi)
  (hin:∀z:Bk,VG (aA X scope z.cl N z.C z.fp z.s z.H) pinI target fg/\VF (aA X scope z.cl N z.C z.fp z.s z.H) ifs ft/\VE (aA X scope z.cl N z.C z.fp z.s z.H) elt fe)
  (hs:∀x,FY iter X.env x=pure x:=by intro _; rfl) (hsw:Hc (.ListComp elt [⟨target,iter,ifs,0⟩] scope pos) (some (.Name x pos')) spos.line X.env=pure true:=by rfl) :
  VS X pin (.Assign [.Name x pos'] (.ListComp elt [⟨target,iter,ifs,0⟩] scope pos) spos) (bg i (kc n js fi fg ft fe)):=λpv hp pins s σ H D I hq=>
 BY (g:=λ_=>vG X.K (fU n js σ) fg) (tt:=λ_=>vT X.K ft) (te:=λ_=>vE X.K fe) hN hi' hx hc S hi (λz=>⟨(hin z).1 _ (jH n js σ hpin),(hin z).2.1,(hin z).2.2⟩) hs hsw pins s σ H D I (iO hfr (tQ hp hp0 hq))
end
structure WE(X:Cx)(e:Expr)(f:FE):Prop where
 h:VE X e f
structure WA(X:Cx)(e:List Expr)(f:FA):Prop where
 h:VA X e f
structure WT(X:Cx)(e:Expr)(f:FT):Prop where
 h:VT X e f
structure WW(X:Cx)(e:Expr)(f:FT):Prop where
 h:VW X e f
structure WO(X:Cx)(e:Option Expr)(f:FO):Prop where
 h:PO X e (vO X.K f)
structure WI(X:Cx)(tg e:Expr)(f:FI):Prop where
 h:VI X tg e f
structure WG(X:Cx)(pin:List Nat)(tg:Expr)(f:FG):Prop where
 h:VG X pin tg f
structure DM(X:Cx)(pin:List Nat)(tg:List Expr)(f:uO):Prop where
 h:DB X pin tg f
structure WF(X:Cx)(e:List Expr)(f:FT):Prop where
 h:VF X e f
structure WS(X:Cx)(pin:List Nat)(st:Stmt)(f:FS):Prop where
 h:VS X pin st f
structure A6(X:Cx)(pin:List Nat)(st:List Stmt)(f:FS):Prop where
 h:zA X pin st f
section
variable{X:Cx}{pos:Pos}{pin:List Nat}
theorem wv(i:Nat){x:Str}{pos:Pos}(hN:X.N[i]? = some x:=by rfl)(hv:C5 X.env.scope x:=by first | exact Fx rfl | exact Hs (Fx rfl) | exact Hs (Hs rfl))(hd:(x == ("__debug__" : Str))=false:=by decide)
  (hcd:(x == ("__classdict__" : Str))=false:=by decide):WE X (.Name x pos) (aa i):=⟨vv i hN hv hd hcd⟩
theorem ak{i j pos}:WE X (.Constant (.int i) j pos) (vC (.int i)):=⟨B4⟩
theorem xA{i j pos}:WE X (.Constant (.bool i) j pos) (vC (.bool i)):=⟨ve_bl⟩
theorem xB{j pos}:WE X (.Constant .none j pos) (vC .none):=⟨B5⟩
theorem aG{op:Operator}{a b:Expr}{g:M->M->Option M}{fa fb:FE}(ho:dN X (Gp op) (rM X.K g))(ha:WE X a fa)(hb:WE X b fb):WE X (.BinOp a op b pos) (vB g fa fb):=⟨ve_op rM_v ho ha.h hb.h⟩
theorem xC{op:CmpOp}{a b:Expr}{g:M->M->Option M}{fa fb:FE}(ho:dN X (Fy op) (rM X.K g))(ha:WE X a fa)(hb:WE X b fb)(hm:GX op b=false):WE X (.Compare a [op] [b] pos) (vB g fa fb):=⟨B6 rM_v ho ha.h hb.h hm⟩
theorem gM{op:CmpOp}{a b:Expr}{g:M->M->Option M}{fa fb:FE}(ho:dN X (Fy op) (rM X.K g))(ha:WE X a fa)(hb:WE X b fb)(hm:GX op b=false):WT X (.Compare a [op] [b] pos) (cK (vB g fa fb)):=⟨B9 rM_v ho ha.h hb.h hm⟩
theorem wt_in{a b:Expr}{fa fb:FE}(hu:X.A.units+64<cLine)(ha:WE X a fa)(hb:WE X b fb)(hm:GX .In b=false:=by rfl):WT X (.Compare a [.In] [b] pos) (cK (vB (pO false) fa fb)):=⟨vt_in hu ha.h hb.h hm⟩
theorem qt{a b:Expr}{fa fb:FE}(hu:X.A.units+64<cLine)(ha:WE X a fa)(hb:WE X b fb)(hm:GX .NotIn b=false:=by rfl):WT X (.Compare a [.NotIn] [b] pos) (cK (vB (pO true) fa fb)):=⟨w6 hu ha.h hb.h hm⟩
theorem CH{e:Expr}{f:FE}(h:WE X e f)(he:∀whole,Lx e X.env whole=(do let v <-whole; K0 e.pos; K1 [v] (truthy v)):=by intro _; rfl):WT X e (w9 f):=⟨Cg h.h he⟩
theorem wt_pw{e:Expr}{f:FT}(h:WW X e f):WT X e f:=⟨PW.pt h.h⟩
theorem Aa{a:Expr}{f:FT}(h:WT X a f):WW X (.BoolOp .And [a] pos) f:=⟨zw h.h⟩
theorem CI{a b:Expr}{rest:List Expr}{f g:FT}(h:WT X a f)(h':WW X (.BoolOp .And (b::rest) pos) g):WW X (.BoolOp .And (a::b::rest) pos) (uK f g):=⟨Ca h.h h'.h⟩
theorem A7{c a b:Expr}{fc:FT}{fa fb:FE}(hc:WT X c fc)(ha:WE X a fa)(hb:WE X b fb):WE X (.IfExp c a b pos) (AS fc fa fb):=⟨ve_if hc.h ha.h hb.h⟩
theorem lD:WA X [] je:=⟨B7⟩
theorem ai{a:Expr}{fa:FE}(ha:WE X a fa)(hs:E5 [a] X.env=[(false,eval a X.env)]:=by rfl):WA X [a] (af fa):=⟨B8 ha.h hs⟩
theorem ao{a:Expr}{as:List Expr}{fa:FE}{fr:FA}(ha:WE X a fa)(hr:WA X as fr)(hs:E5 (a::as) X.env=(false,eval a X.env)::E5 as X.env:=by rfl):WA X (a::as) (ah fa fr):=⟨zv ha.h hr.h hs⟩
noncomputable def oY(ns:List Int):FA:=λρ=>some (ns.map λn=>.t (.v (.int n)),ρ)
theorem nF{K:AT}{H:Hp}{Z:Zs}{σ:L2.St}:∀ns:List Int,jd K H Z σ (ns.map V.int) (ns.map λn=>.t (.v (.int n))) []
 |[]=>.nil
 |n::ns=>.cons (G:=[]) (.t (.v (.int n))) (nF ns)
theorem Ab{es:List Expr}{ns:List Int}(h:kq es=some ns):WA X es (oY ns):=⟨oM (qe es ns h) λσ H Q hq=>by
 obtain⟨Z,ρ,F,o,ρ',S,w,e,q⟩:=hq;cases e;exact q _ H Z F [] S (nF ns) (aF.refl w).nil⟩
theorem bR{es:List Expr}{k:Nat}{fa:FA}(h:WA X es fa):WE X (.Tuple es k pos) (cz fa):=⟨Cc h.h⟩
theorem dP{es:List Expr}{fa:FA}(h:WA X es fa):WE X (.List es pos) (eT fa):=⟨Cd h.h⟩
theorem bw{a b:Expr}{fa fb:FE}(hu:X.A.units+64<cLine)(ha:WE X a fa)(hb:WE X b fb)(hs:nX b):WE X (.Subscript a b pos) (cH fa fb):=⟨ve_ix hu ha.h hb.h hs⟩
theorem oZ:WO X none gF:=⟨zy⟩
theorem o4{e:Expr}{f:FE}(h:WE X e f):WO X (some e) (gG f):=⟨zz h.h⟩
theorem xD{e:Expr}{lo hi:Option Expr}{p2:Pos}{fa:FE}{fl fh:FO}(ha:WE X e fa)(hl:WO X lo fl)(hh:WO X hi fh):WE X (.Subscript e (.Slice lo hi none p2) pos) (AZ fa fl fh):=⟨ve_sl ha.h hl.h hh.h⟩
theorem bY{id:String}{x:Str}{p:Pos}{e:Expr}{es:List Expr}{g:List M->Option M}{fa:FA}(hc:bf X (.builtin id) (pN X.K g))(hg:Gl X x)(hm:X.mg x=none)(hv:Hg x=some (.builtin id))(ha:WA X (e::es) fa)(hn:x ≠ "__name__" := by decide)(hdb:(x == ("__debug__" : Str))=false:=by decide)
  (he:E5 (e::es) X.env=(false,eval e X.env)::E5 es X.env:=by rfl) (hpl:(Ij pos (E5 es X.env)).any (·.1)=false:=by rfl):WE X (.Call (.Name x p) (e::es) [] pos) (bQ g fa):=⟨ve_cb hc hg hm hv ha.h hn hdb he hpl⟩
theorem fZ{T:String}{x:Str}{p:Pos}{e:Expr}{es:List Expr}{g:List M->Option M}{fa:FA}(hc:bf X (.type T) (pN X.K g))(hg:Gl X x)(hm:X.mg x=none)(hv:Hg x=some (.type T))(ha:WA X (e::es) fa)(hn:x ≠ "__name__" := by decide)(hdb:(x == ("__debug__" : Str))=false:=by decide)
  (he:E5 (e::es) X.env=(false,eval e X.env)::E5 es X.env:=by rfl) (hpl:(Ij pos (E5 es X.env)).any (·.1)=false:=by rfl):WE X (.Call (.Name x p) (e::es) [] pos) (bQ g fa):=⟨ve_ct hc hg hm hv ha.h hn hdb he hpl⟩
theorem cB{x:Str}{ps:List Str}{k k':Nat}{g:FF}{e:Expr}{es:List Expr}{fa:FA}{p:Pos}(C:bA X.prog X.w X.K X.mg X.base x ps k (dZ X.K g))(hr:eN k' X.A)(hg:Gl X x)(ha:WA X (e::es) fa)(hk:k<=k':=by first | decide | exact Da _ | lia)(hdb:(x == ("__debug__" : Str))=false:=by decide)
  (he:E5 (e::es) X.env=(false,eval e X.env)::E5 es X.env:=by rfl) (hpl:(Ij pos (E5 es X.env)).any (·.1)=false:=by rfl):WE X (.Call (.Name x p) (e::es) [] pos) (fj g fa):=⟨ve_fn C hr hg ha.h hk hdb he hpl⟩
theorem CJ(i:Nat){e:Expr}{es:List Expr}{fa:FA}{x:Str}{p1 p2:Pos}(ha:WA X (e::es) fa)(hpe:∀(to:TE)(t:TA),PE X (.Name x p1) to->PA X (e::es) t->PE X (.Call (.Attribute (.Name x p1) "append" p2) (e::es) [] pos) (AN X.K "list" ki to t))(hv:PE X (.Name x p1) (fu i)):WE X (.Call (.Attribute (.Name x p1) "append" p2) (e::es) [] pos) (uP i fa):=⟨CC i ha.h hpe hv⟩
theorem iB(n:Nat)(js:List Nat){elt target iter:Expr}{ifs:List Expr}{scope:Scope}{N:List Str}{fr:List (Option Nat)}{pin:List Nat}{fi:FI}{fg:FG}{ft:FT}{fe:FE}(hfr:fr=E7 n none++js.map some)(hpin:pin=(FD js.length).map (n + ·))(hc:X.calm=true)(S:aR X scope N fr)(hi:WI X target iter fi)
  (hin:∀z:Bk,WG (aA X scope z.cl N z.C z.fp z.s z.H) pin target fg/\WF (aA X scope z.cl N z.C z.fp z.s z.H) ifs ft/\WE (aA X scope z.cl N z.C z.fp z.s z.H) elt fe)
  (hs:∀x,FY iter X.env x=pure x:=by intro _; rfl):WE X (.ListComp elt [⟨target,iter,ifs,0⟩] scope pos) (kc n js fi fg ft fe):=⟨ve_lc n js hfr hpin hc S hi.h (λz=>⟨(hin z).1.h,(hin z).2.1.h,(hin z).2.2.h⟩) hs⟩
theorem eE:WF X [] cE:=⟨Cz⟩
theorem r6{c:Expr}{f:FT}(h:WT X c f):WF X [c] f:=⟨CA h.h⟩
theorem dB{tg l:Expr}{f:FE}(h:WE X l f):WI X tg l (bC f):=⟨Ct h.h⟩
theorem eV{tg a:Expr}{fa:FA}{p:Pos}(hg:Gl X "range")(hm:X.mg "range" = none)(ha:WA X [a] fa)(hs:E5 [a] X.env=[(false,eval a X.env)]:=by rfl):WI X tg (.Call (.Name "range" p) [a] [] pos) (bX eB fa):=⟨zK hg hm ha.h hs⟩
theorem Ac{tg a b:Expr}{fa:FA}{p:Pos}(hg:Gl X "range")(hm:X.mg "range" = none)(ha:WA X [a,b] fa)(hs:E5 [a,b] X.env=[(false,eval a X.env),(false,eval b X.env)]:=by rfl)(hs2:E5 [b] X.env=[(false,eval b X.env)]:=by rfl):WI X tg (.Call (.Name "range" p) [a,b] [] pos) (bX xu fa):=⟨zL hg hm ha.h hs hs2⟩
theorem aC{i:Nat}{x:Str}(hp0:i∉pin)(hN:X.N.Nodup)(hi:X.N[i]? = some x)(hx:Loc X.env.scope x)(hf:X.fn x=true\/X.env.scope.names.lookup x=some .local:=by first | exact .inl rfl | exact .inr rfl | assumption):WG X pin (.Name x pos) (aj i):=⟨zG hp0 hN hi hx hf⟩
theorem gX:DM X pin [] ez:=⟨zH⟩
theorem bZ{e:Expr}{es:List Expr}{f:FG}{g:uO}(h1:WG X pin e f)(h2:DM X pin es g)(hs:(H9 (e::es) X.env).map (·.2)=IG e X.env::(H9 es X.env).map (·.2):=by rfl):DM X pin (e::es) (aW f g):=⟨xq h1.h h2.h hs⟩
theorem jJ{es:List Expr}{k:Nat}(n:Nat){g:uO}(hc:X.calm=true)(h:DM X pin es g)(hn:(H9 es X.env).length=n:=by rfl)(hst:(H9 es X.env).findIdx? (·.1)=none:=by rfl):WG X pin (.Tuple es k pos) (dS n g):=⟨Cn hc h.h λ_ h=>Bm hc h hn hst⟩
theorem gY:A6 X pin [] eu:=⟨zB⟩
theorem aJ{st:Stmt}{f:FS}(h:WS X pin st f):A6 X pin [st] f:=⟨zE h.h⟩
theorem au{st:Stmt}{rest:List Stmt}{f g:FS}(h1:WS X pin st f)(h2:A6 X pin rest g):A6 X pin (st::rest) (aN f g):=⟨xm h1.h h2.h⟩
theorem nG{c:Expr}{a b:List Stmt}{fc:FT}{f g:FS}(hc:WT X c fc)(ha:A6 X pin a f)(hb:A6 X pin b g):WS X pin (.If c a b pos) (jh fc f g):=⟨vs_if hc.h ha.h hb.h⟩
theorem ku{e:Expr}{f:FE}(h:WE X e f)(hs:Hc e none pos.line X.env=pure false:=by rfl):WS X pin (.Expr e pos) (fY f):=⟨zF h.h hs⟩
theorem cQ{e:Expr}{f:FE}(h:WE X e f):WS X pin (.Return (some e) pos) (fm f):=⟨Ck h.h⟩
theorem aX{i:Nat}{x:Str}{e:Expr}{f:FE}{pos':Pos}(hp0:i∉pin)(hN:X.N.Nodup)(hi:X.N[i]? = some x)(hx:Loc X.env.scope x)(he:WE X e f)(hs:Hc e (some (.Name x pos')) pos.line X.env=pure false:=by rfl)(hf:X.fn x=true\/X.env.scope.names.lookup x=some .local:=by first | exact .inl rfl | exact .inr rfl | assumption) :
  WS X pin (.Assign [.Name x pos'] e pos) (bg i f):=⟨Cm hp0 hN hi hx he.h hs hf⟩
theorem CK{i:Nat}{x:Str}(n:Nat)(js:List Nat){elt target iter:Expr}{ifs:List Expr}{scope:Scope}{N:List Str}{fr:List (Option Nat)}{pinI:List Nat}{fi:FI}{fg:FG}{ft:FT}{fe:FE}{pos' spos:Pos}(hp0:i∉pin)(hN:X.N.Nodup)(hi':X.N[i]? = some x)(hx:X.env.scope.names.lookup x=some .local)
  (hfr:fr=E7 n none++js.map some) (hpin:pinI=(FD js.length).map (n + ·)) (hc:X.calm=true) (S:aR X scope N fr) (hi:WI X target iter fi)
  (hin:∀z:Bk,WG (aA X scope z.cl N z.C z.fp z.s z.H) pinI target fg/\WF (aA X scope z.cl N z.C z.fp z.s z.H) ifs ft/\WE (aA X scope z.cl N z.C z.fp z.s z.H) elt fe)
  (hs:∀x,FY iter X.env x=pure x:=by intro _; rfl) (hsw:Hc (.ListComp elt [⟨target,iter,ifs,0⟩] scope pos) (some (.Name x pos')) spos.line X.env=pure true:=by rfl) :
  WS X pin (.Assign [.Name x pos'] (.ListComp elt [⟨target,iter,ifs,0⟩] scope pos) spos) (bg i (kc n js fi fg ft fe)):=⟨CG n js hp0 hN hi' hx hfr hpin hc S hi.h (λz=>⟨(hin z).1.h,(hin z).2.1.h,(hin z).2.2.h⟩) hs hsw⟩
theorem xE{tg e:Expr}{f:FE}{g:FG}(he:WE X e f)(hg:WG X pin tg g)(hs:Jo [tg] e pos.line X.env=pure false:=by rfl)(hw:Jp [tg] e X.env=pure none:=by rfl)
  (hps:∀(te:TE)(t:TG),PE X e te->PG X tg t->PS X (.Assign [tg] e pos) (lY te t):=by exact λ_ _ h1 h2=>nR h1 h2):WS X pin (.Assign [tg] e pos) (xr f g):=⟨Co he.h hg.h hs hw hps⟩
theorem r9{i j:Nat}{a b:Expr}{fa:FA}{x y:Str}{px py pt:Pos}{kt k2 pt2}(hpi:i∉pin)(hpj:j∉pin)(ha:WA X [a,b] fa)(hps:∀t:TA,PA X [a,b] t->PS X (.Assign [.Tuple [.Name x px,.Name y py] kt pt] (.Tuple [a,b] k2 pt2) pos) (tPar i j t)):WS X pin (.Assign [.Tuple [.Name x px,.Name y py] kt pt] (.Tuple [a,b] k2 pt2) pos) (rV i j fa):=⟨Cp hpi hpj ha.h hps⟩
theorem xF(i:Nat){o k e:Expr}{fk fe:FE}{pos':Pos}(hu:X.A.units+64<cLine)(ho:PE X o (fu i))(hk:WE X k fk)(he:WE X e fe)(hs:Hc e (some (.Subscript o k pos')) pos.line X.env=pure false)
  (hps:∀(te:TE)(t:TG),PE X e te->PG X (.Subscript o k pos') t->PS X (.Assign [.Subscript o k pos'] e pos) (lY te t)) (hpg:∀to ti:TE,PE X o to->PE X k ti->PG X (.Subscript o k pos') (vX to ti p6)):WS X pin (.Assign [.Subscript o k pos'] e pos) (uQ i fk fe):=⟨CF i hu ho hk.h he.h hs hps hpg⟩
theorem gO{tg iter:Expr}{body:List Stmt}{fi:FI}{fg:FG}{fb:FS}(hp0:PassesOwn (model X.prog X.w) X.A X.env X.xe)(hc:X.calm=true)(hi:WI X tg iter fi)(hg:WG X pin tg fg)(hb:A6 X pin body fb)
  (hs:∀x,FY iter X.env x=pure x:=by intro _; rfl):WS X pin (.For tg iter body [] pos) (ji fi fg fb):=⟨Cu hp0 hc hi.h hg.h hb.h hs⟩
end
section
variable{P:FB}{w:World}{K:AT}{mg:Str->Option Value}{base:Heap}
theorem cM{x qual:Str}{st:Stmt}{f:Addr}{fd:Hh}{N prs:List Str}{k:Nat}(ps:List Bool){fb:FS}(Fn:oh K x qual st f fd)(S:bF N prs (aq st))(hl:prs.length=ps.length)
  (hb:∀(cdv:Value)(A:Fa)(outer:List Env)(s:B1)(H:Hp)(E:XK),eN k (A.deeper (K3 qual (aq st) s.heap.objs.size f cdv))->A6 (pT j6 P w K mg base N qual (aq st) f cdv A outer s H E).C7 (pins ps 0) (bh st) fb) :
  cY P w K mg base j6 (k+1) f fd prs (dZ K (gm ps N.length fb)):=Cv ps Fn S hl λcdv A outer s H E hr=>(hb cdv A outer s H E hr).h
noncomputable def o6(K:AT):Sp:=λvs H Q _=>∃ (a:Addr) (ns:List Int),vs=[.ref a]/\gg K H a (ns.map V.int)/\ns.length<=63/\∀H',Q (.bl true) H'
theorem CL{k:Nat}{f:Addr}{fd:Hh}{x:Str}{g:FF}(F:cY P w K mg base j6 k f fd [x] (dZ K g))(h:∀ns:List Int,ns.length<=63->∃ms,g [.v (.list (ns.map .int))]=some (.v (.bool true),ms)):cY P w K mg base j6 k f fd [x] (o6 K):=by
 refine F.imp λvs H Q E hs=>?_
 obtain⟨a,ns,rfl,hq,hl,q⟩:=hs;obtain⟨ms,e⟩:=h ns hl;rcases hq with hq | hq
 ·have hz:∀b,(λb=>b=a) b->H b≠none:=λb hb e=>by
   have hb:b=a:=hb;subst hb;rcases hq with hq | ⟨o,hq⟩ <;> rw[hq] at e <;> cases e
  refine⟨λb=>b=a,_,[],_,ms,.cons (G:=[]) (.v (.lst hq rfl (bu.ints ns))) .nil,⟨G7,λ_ h=>(nomatch h),hz⟩,e,λx H' Z' A' G _ h _=>?_⟩
  cases h with
  |v f=>obtain rfl:=f.rJ; exact q H'
 ·refine⟨λ_=>False,_,[],_,ms,.cons (G:=[]) (.v (.lsK hq (bu.ints ns))) .nil,⟨G7,λ_ h=>(nomatch h),λ_ h=>h.elim⟩,e,λx H' Z' A' G _ h _=>?_⟩
  cases h with
  |v f=>obtain rfl:=f.rJ; exact q H'
end
end VL
end
section
namespace VL
open PySem L2
section
variable{ρ:Ev}{m:M}{x:Option M}{i j:Nat}
@[simp] theorem at?_0:cJ (some m::ρ) 0=some m:=rfl
@[simp] theorem at?_n:cJ (none::ρ) 0=none:=rfl
@[simp] theorem at?_s:cJ (x::ρ) (i+1)=cJ ρ i:=rfl
@[simp] theorem peek_t:peek ρ (.t m)=some m:=rfl
@[simp] theorem peek_p:peek ρ (.p i)=cJ ρ i:=rfl
@[simp] theorem peekS_t:jc ρ (.t m)=some m:=rfl
@[simp] theorem peekS_p:jc ρ (.p i)=cJ ρ i:=rfl
@[simp] theorem Df:iy ρ []=some []:=rfl
@[simp] theorem CM{o:cU}{os:List cU}:iy ρ (o::os)=(peek ρ o).bind λm=>(iy ρ os).bind λms=>some (m::ms):=rfl
@[simp] theorem vVar_eq:aa i ρ=match cJ ρ i with
 |some (.v d)=>some (.t (.v d),ρ)
 |some _=>some (.p i,ρ)
 |none=>none:=rfl
@[simp] theorem vC_eq{d:Ap}:vC d ρ=some (.t (.v d),ρ):=rfl
@[simp] theorem vB_eq{g:M->M->Option M}{fa fb:FE}:vB g fa fb ρ=(fa ρ).bind λp=>(fb p.2).bind λq=>(jc q.2 p.1).bind λm1=>(peek q.2 q.1).bind λm2=>(g m1 m2).bind λm=>some (.t m,q.2):=rfl
@[simp] theorem vU_eq{g:M->Option M}{fa:FE}:vU g fa ρ=(fa ρ).bind λp=>(peek p.2 p.1).bind λm1=>(g m1).bind λm=>some (.t m,p.2):=rfl
@[simp] theorem vaNil_eq:je ρ=some ([],ρ):=rfl
@[simp] theorem fH{fa:FE}:af fa ρ=(fa ρ).bind λp=>some ([p.1],p.2):=rfl
@[simp] theorem stab_t:rK (.t m)=true:=rfl
@[simp] theorem stab_p:rK (.p i)=true:=rfl
@[simp] theorem gZ{fa:FE}{fr:FA}:ah fa fr ρ=(fa ρ).bind λp=>(fr p.2).bind λq=>if rK p.1=true then some (p.1::q.1,q.2) else none:=rfl
@[simp] theorem Dg{ns:List Int}:oY ns ρ=some (ns.map λn=>.t (.v (.int n)),ρ):=rfl
@[simp] theorem jK{g:List M->Option M}{fa:FA}:bQ g fa ρ=(fa ρ).bind λp=>(iy p.2 p.1).bind λms=>(g ms).bind λm=>some (.t m,p.2):=rfl
@[simp] theorem tr_bool{b:Bool}:D3 (.v (.bool b))=some b:=rfl
@[simp] theorem vTst_eq{f:FE}:cK f ρ=(f ρ).bind λp=>(peek p.2 p.1).bind λm=>(D3 m).bind λb=>some (b,p.2):=rfl
@[simp] theorem vTru_eq{f:FE}:w9 f ρ=(f ρ).bind λp=>(peek p.2 p.1).bind λm=>(qi m).bind λb=>some (b,p.2):=rfl
@[simp] theorem tru_bool{b:Bool}:qi (.v (.bool b))=some b:=rfl
@[simp] theorem tru_tup{ds:List Ap}:qi (.v (.tuple ds))=some (!ds.isEmpty):=rfl
@[simp] theorem tru_list{ds:List Ap}:qi (.v (.list ds))=some (!ds.isEmpty):=rfl
@[simp] theorem tru_lst{ds:List Ap}:qi (.lst ds)=some (!ds.isEmpty):=rfl
@[simp] theorem tru_dic{ds:List (Key×Ap)}:qi (.bP ds)=some (!ds.isEmpty):=rfl
@[simp] theorem vAnd_eq{f g:FT}:uK f g ρ=(f ρ).bind λp=>if p.1=true then g p.2 else some (false,p.2):=rfl
@[simp] theorem vYes_eq:cE ρ=some (true,ρ):=rfl
@[simp] theorem vIf_eq{c:FT}{fa fb:FE}:AS c fa fb ρ=(c ρ).bind λp=>if p.1=true then fa p.2 else fb p.2:=rfl
@[simp] theorem toD_v{d:Ap}:toD (.v d)=d:=rfl
@[simp] theorem toD_lst{d:List Ap}:toD (.lst d)=.list d:=rfl
@[simp] theorem frz1_t:cZ (.t m) ρ=some (toD m,ρ):=rfl
@[simp] theorem frz1_p:cZ (.p i) ρ=(cJ ρ i).bind λm=>some (toD m,ρ.set i (some (.v (toD m)))):=rfl
@[simp] theorem frzs_nil:dH [] ρ=some ([],ρ):=rfl
@[simp] theorem Dh{o:cU}{os:List cU}:dH (o::os) ρ=(cZ o ρ).bind λp=>(dH os p.2).bind λq=>some (p.1::q.1,q.2):=rfl
@[simp] theorem tR{fa:FA}:cz fa ρ=(fa ρ).bind λp=>(dH p.1 p.2).bind λq=>if q.1.length<=lim then some (.t (.v (.tuple q.1)),q.2) else none:=rfl
@[simp] theorem vLst_eq{fa:FA}:eT fa ρ=(fa ρ).bind λp=>(dH p.1 p.2).bind λq=>if q.1.length<=lim then some (.t (.lst q.1),q.2) else none:=rfl
@[simp] theorem ixO_t{m1 m2:M}:DK (.t m1) m2 ρ=(getM m1 m2).bind λm=>some (.t m,ρ):=rfl
@[simp] theorem vIx_eq{fa fb:FE}:cH fa fb ρ=(fa ρ).bind λp=>(fb p.2).bind λq=>(peek q.2 q.1).bind λm2=>DK p.1 m2 q.2:=rfl
@[simp] theorem ixO_p{m2:M}:DK (.p i) m2 ρ=(cJ ρ i).bind λm1=>match m1,m2 with
  |.gq kvs,.v k=>(fR k).bind λk=>(dm kvs k).bind λ_=>some (.q i k,ρ)
  |m1,m2=>(getM m1 m2).bind λm=>some (.t m,ρ):=rfl
@[simp] theorem qu{ds:List Ap}{k:Int}:getM (.v (.tuple ds)) (.v (.int k))=(mV ds k).bind λd=>some (.v d):=rfl
@[simp] theorem Di{ds:List Ap}{k:Int}:getM (.v (.list ds)) (.v (.int k))=(mV ds k).bind λd=>some (.v d):=rfl
@[simp] theorem getM_lst{ds:List Ap}{k:Int}:getM (.lst ds) (.v (.int k))=(mV ds k).bind λd=>some (.v d):=rfl
@[simp] theorem getM_dic{kvs:List (Key×Ap)}{k:Ap}:getM (.bP kvs) (.v k)=(fR k).bind λk=>(dm kvs k).bind λd=>some (.v d):=rfl
@[simp] theorem keyD_int{k:Int}:fR (.int k)=some (.inl k):=rfl
@[simp] theorem keyD_str{k:Str}:fR (.str k)=some (.inr k):=rfl
@[simp] theorem Dj:gF ρ=some (none,ρ):=rfl
@[simp] theorem Dk{f:FE}:gG f ρ=(f ρ).bind λp=>(peek p.2 p.1).bind λm=>match m with
 |.v (.int i)=>some (some i,p.2)
 |_=>none:=rfl
@[simp] theorem vSl_eq{fa:FE}{fl fh:FO}:AZ fa fl fh ρ=(fa ρ).bind λp=>(fl p.2).bind λl=>(fh l.2).bind λh=>(jc h.2 p.1).bind λm=>(De l.1 h.1 m).bind λm'=>some (.t m',h.2):=rfl
@[simp] theorem slM_tup{lo hi:Option Int}{ds:List Ap}:De lo hi (.v (.tuple ds))=some (.v (.tuple (cutD ds lo hi))):=rfl
@[simp] theorem slM_lst{lo hi:Option Int}{ds:List Ap}:De lo hi (.lst ds)=some (.lst (cutD ds lo hi)):=rfl
@[simp] theorem slM_list{lo hi:Option Int}{ds:List Ap}:De lo hi (.v (.list ds))=some (.lst (cutD ds lo hi)):=rfl
@[simp] theorem Dl:cG [] ρ=some ([],ρ):=rfl
@[simp] theorem takeA_t{os:List cU}:cG (.t m::os) ρ=(cG os ρ).bind λq=>some (m::q.1,q.2):=rfl
@[simp] theorem takeA_p{os:List cU}:cG (.p i::os) ρ=(cJ ρ i).bind λm=>(cG os (ρ.set i none)).bind λq=>some (m::q.1,q.2):=rfl
@[simp] theorem putA_nil{ms:List M}:gI [] ms ρ=ρ:=by cases ms <;> rfl
@[simp] theorem putA_t{os:List cU}{m':M}{ms:List M}:gI (.t m::os) (m'::ms) ρ=gI os ms ρ:=rfl
@[simp] theorem putA_p{os:List cU}{m':M}{ms:List M}:gI (.p i::os) (m'::ms) ρ=gI os ms (ρ.set i (some m')):=rfl
@[simp] theorem CN{g:FF}{fa:FA}:fj g fa ρ=(fa ρ).bind λp=>(cG p.1 p.2).bind λq=>(g q.1).bind λr=>some (.t r.1,gI p.1 r.2 q.2):=rfl
@[simp] theorem vNext_eq:eu ρ=some (.nx ρ):=rfl
@[simp] theorem Ad{f g:FS}:aN f g ρ=(f ρ).bind λo=>match o with
 |.nx ρ1=>g ρ1
 |o=>some o:=rfl
@[simp] theorem Ae{c:FT}{f g:FS}:jh c f g ρ=(c ρ).bind λp=>if p.1=true then f p.2 else g p.2:=rfl
@[simp] theorem vExpr_eq{f:FE}:fY f ρ=(f ρ).bind λp=>some (.nx p.2):=rfl
@[simp] theorem movO_t:oW (.t m) ρ=some (m,ρ):=rfl
@[simp] theorem movO_p:oW (.p i) ρ=(cJ ρ i).bind λm=>some (m,ρ.set i none):=rfl
@[simp] theorem o7{f:FE}:fm f ρ=(f ρ).bind λp=>(oW p.1 p.2).bind λq=>some (.rt q.1 q.2):=rfl
@[simp] theorem setN_eq:gK i m ρ=if i<ρ.length then some (ρ.set i (some m)) else none:=rfl
@[simp] theorem tS{f:FE}:bg i f ρ=(f ρ).bind λp=>(oW p.1 p.2).bind λq=>(gK i q.1 q.2).bind λρ'=>some (.nx ρ'):=rfl
@[simp] theorem Dm{d:Ap}:aj i d ρ=gK i (.v d) ρ:=rfl
@[simp] theorem vgNil_eq:ez [] ρ=some ρ:=rfl
@[simp] theorem Dp{f:FG}{g:uO}{d:Ap}{ds:List Ap}:aW f g (d::ds) ρ=(f d ρ).bind λρ1=>g ds ρ1:=rfl
@[simp] theorem vgTup_eq{n:Nat}{g:uO}{ds:List Ap}:dS n g (.tuple ds) ρ=if ds.length=n then g ds ρ else none:=rfl
@[simp] theorem vAsg_eq{f:FE}{g:FG}:xr f g ρ=(f ρ).bind λp=>(cZ p.1 p.2).bind λq=>(g q.1 q.2).bind λρ'=>some (.nx ρ'):=rfl
@[simp] theorem parO_eq{o1:cU}{m2:M}:parO i j [o1,.t m2] ρ=(oW o1 ρ).bind λq1=>(gK i q1.1 q1.2).bind λρ1=>(gK j m2 ρ1).bind λρ2=>some (.nx ρ2):=rfl
@[simp] theorem Af{fa:FA}:rV i j fa ρ=(fa ρ).bind λp=>parO i j p.1 p.2:=rfl
@[simp] theorem itD_tup{ds:List Ap}:Cr (.tuple ds)=some ds:=rfl
@[simp] theorem itD_list{ds:List Ap}:Cr (.list ds)=some ds:=rfl
@[simp] theorem qv{f:FE}:bC f ρ=(f ρ).bind λp=>(cZ p.1 p.2).bind λq=>(Cr q.1).bind λds=>some (ds,q.2):=rfl
@[simp] theorem viArg_eq{g:List M->Option (List Ap)}{fa:FA}:bX g fa ρ=(fa ρ).bind λp=>(iy p.2 p.1).bind λms=>(g ms).bind λds=>some (ds,p.2):=rfl
@[simp] theorem rng1_eq{k:Int}:eB [.v (.int k)]=if cu k=true then some (aQ 0 k) else none:=rfl
@[simp] theorem rng2_eq{a k:Int}:xu [.v (.int a),.v (.int k)]=if cu a=true/\cu k=true then some (aQ a k) else none:=rfl
@[simp] theorem kB{fi:FI}{fg:FG}{fb:FS}:ji fi fg fb ρ=(fi ρ).bind λp=>forL fg fb p.1 p.2:=rfl
@[simp] theorem forL_nil{fg:FG}{fb:FS}:forL fg fb [] ρ=some (.nx ρ):=rfl
@[simp] theorem cap_eq:cap ρ j=match cJ ρ j with
 |some (.v d)=>some (.t (.v d))
 |some _=>some (.p j)
 |none=>none:=rfl
@[simp] theorem caps_nil:caps ρ []=some []:=rfl
@[simp] theorem Dq{js:List Nat}:caps ρ (j::js)=(cap ρ j).bind λo=>(caps ρ js).bind λos=>some (o::os):=rfl
@[simp] theorem xG{n:Nat}{js:List Nat}{fi:FI}{fg:FG}{ft:FT}{fe:FE}:kc n js fi fg ft fe ρ=(fi ρ).bind λp=>(caps p.2 js).bind λos=>(cG os p.2).bind λq=>
 (bJ fg ft fe p.1 (E7 n none++q.1.map some) []).bind λr=>(fin (E7 js.length true) q.1 (r.2.drop n)).bind λms'=>some (.t (.lst r.1),gI os ms' q.2):=rfl
@[simp] theorem fin_nil:fin [] [] ρ=some []:=by cases ρ <;> rfl
@[simp] theorem fin_t{ps:List Bool}{ms:List M}{m':M}:fin (true::ps) (m::ms) (some m'::ρ)=(fin ps ms ρ).bind λms'=>some (m'::ms'):=rfl
@[simp] theorem fin_f{ps:List Bool}{ms:List M}{d:Ap}:fin (false::ps) (.v d::ms) (x::ρ)=(fin ps ms ρ).bind λms'=>some (.v d::ms'):=rfl
@[simp] theorem vApp_eq{fa:FA}:uP i fa ρ=(cJ ρ i).bind λm0=>match m0 with
 |.lst _=>(fa ρ).bind λp=>match p.1 with
  |[o]=>(cZ o p.2).bind λq=>(cJ q.2 i).bind λm=>match m with
   |.lst ds=>if ds.length<lim then some (.t (.v .none),q.2.set i (some (.lst (ds++[q.1])))) else none
   |_=>none
  |_=>none
 |_=>none:=rfl
@[simp] theorem vPut_eq{fk fe:FE}:uQ i fk fe ρ=(fe ρ).bind λp=>(cZ p.1 p.2).bind λq=>(cJ q.2 i).bind λm0=>match m0 with
 |.v _=>none
 |_=>(fk q.2).bind λr=>(peek r.2 r.1).bind λmk=>(cJ r.2 i).bind λm=>match m,mk with
  |.bP kvs,.v kd=>(fR kd).bind λk=>if kvs.length<lim then some (.nx (r.2.set i (some (.bP (putD kvs k q.1))))) else none
  |.lst ds,.v (.int k)=>(vz ds.length k).bind λj=>some (.nx (r.2.set i (some (.lst (ds.set j q.1)))))
  |_,_=>none:=rfl
theorem kC{ps:List Bool}{n:Nat}{fb:FS}{ms:List M}:gm ps n fb ms=if ms.length=ps.length then (fb (ms.map some++E7 (n-ms.length) none)).bind λo=>match o with
 |.rt m ρ=>(fin ps ms ρ).bind λms'=>some (m,ms')
 |.nx ρ=>(fin ps ms ρ).bind λms'=>some (.v .none,ms')
 |_=>none
 else none:=rfl
@[simp] theorem int_eq{C:Int->Int->Bool}{g:Int->Int->Ap}{a b:Int}:j8 C g (.v (.int a)) (.v (.int b))=if C a b=true then some (.v (g a b)) else none:=rfl
@[simp] theorem sub_eq{a b:Int}:oO (.v (.int a)) (.v (.int b))=some (.v (.int (a-b))):=rfl
@[simp] theorem add_int{a b:Int}:cy (.v (.int a)) (.v (.int b))=some (.v (.int (a+b))):=rfl
@[simp] theorem add_tup{a b:List Ap}:cy (.v (.tuple a)) (.v (.tuple b))=if a.length+b.length<=lim then some (.v (.tuple (a++b))) else none:=rfl
@[simp] theorem add_lst{a b:List Ap}:cy (.lst a) (.lst b)=if a.length+b.length<=lim then some (.lst (a++b)) else none:=rfl
@[simp] theorem mul_eq{a b:Int}:mulM (.v (.int a)) (.v (.int b))=if decide ((-(2 ^ 64)<a/\a<2 ^ 64)\/(-(2 ^ 64)<b/\b<2 ^ 64))=true then some (.v (.int (a*b))) else none:=rfl
@[simp] theorem mod_eq{a b:Int}:jC (.v (.int a)) (.v (.int b))=if decide (0<b)=true then some (.v (.int (a % b))) else none:=rfl
@[simp] theorem fdiv_eq{a b:Int}:qh (.v (.int a)) (.v (.int b))=if decide (0<b/\b<1073741824)=true then some (.v (.int (a / b))) else none:=rfl
@[simp] theorem gt_eq{a b:Int}:Cb (.v (.int a)) (.v (.int b))=some (.v (.bool (decide (b<a)))):=rfl
@[simp] theorem lt_eq{a b:Int}:D5 (.v (.int a)) (.v (.int b))=some (.v (.bool (decide (a<b)))):=rfl
@[simp] theorem ge_eq{a b:Int}:DI (.v (.int a)) (.v (.int b))=some (.v (.bool (decide (b<=a)))):=rfl
@[simp] theorem lt_tup{a b:List Ap}:D5 (.v (.tuple a)) (.v (.tuple b))=(eO a).bind λis=>(eO b).bind λjs=>some (.v (.bool (HT.lexLt is js))):=rfl
@[simp] theorem ge_tup{a b:List Ap}:DI (.v (.tuple a)) (.v (.tuple b))=(eO a).bind λis=>(eO b).bind λjs=>some (.v (.bool (!HT.lexLt is js))):=rfl
@[simp] theorem asD_v{d:Ap}:AV (.v d)=some d:=rfl
@[simp] theorem asD_lst{d:List Ap}:AV (.lst d)=some (.list d):=rfl
@[simp] theorem eq_int{a b:Int}:rP false (.v (.int a)) (.v (.int b))=some (.v (.bool (decide (a=b)))):=by
 have h:rP false (.v (.int a)) (.v (.int b))=some (.v (.bool (a == b))):=rfl;rw[h,M8]
@[simp] theorem ne_int{a b:Int}:rP true (.v (.int a)) (.v (.int b))=some (.v (.bool (!decide (a=b)))):=by
 have h:rP true (.v (.int a)) (.v (.int b))=some (.v (.bool (!(a == b)))):=rfl;rw[h,M8]
@[simp] theorem eq_bool{a b:Bool}:rP false (.v (.bool a)) (.v (.bool b))=some (.v (.bool (a == b))):=rfl
@[simp] theorem ne_bool{a b:Bool}:rP true (.v (.bool a)) (.v (.bool b))=some (.v (.bool (!(a == b)))):=rfl
@[simp] theorem isn_bool{a b:Bool}:oS true (.v (.bool a)) (.v (.bool b))=some (.v (.bool (!(a == b)))):=rfl
@[simp] theorem tU{ds:List Ap}:gk [.v (.tuple ds)]=some (.v (.int ds.length)):=rfl
@[simp] theorem len_list{ds:List Ap}:gk [.v (.list ds)]=some (.v (.int ds.length)):=rfl
@[simp] theorem len_lst{ds:List Ap}:gk [.lst ds]=some (.v (.int ds.length)):=rfl
@[simp] theorem len_dic{ds:List (Key×Ap)}:gk [.bP ds]=some (.v (.int ds.length)):=rfl
@[simp] theorem tupM_lst{ds:List Ap}:dw [.lst ds]=some (.v (.tuple ds)):=rfl
@[simp] theorem Dr{ds:List Ap}:dw [.v (.list ds)]=some (.v (.tuple ds)):=rfl
@[simp] theorem tupM_tup{ds:List Ap}:dw [.v (.tuple ds)]=some (.v (.tuple ds)):=rfl
@[simp] theorem abs_eq{a:Int}:absM [.v (.int a)]=some (.v (.int (if a<0 then -a else a))):=rfl
@[simp] theorem int1_int{a:Int}:nC [.v (.int a)]=some (.v (.int a)):=rfl
@[simp] theorem Ds{a:Bool}:nC [.v (.bool a)]=some (.v (.int (if a then 1 else 0))):=rfl
@[simp] theorem min2_eq{a b:Int}:minM [.v (.int a),.v (.int b)]=some (.v (.int (if b<a then b else a))):=rfl
@[simp] theorem max2_eq{a b:Int}:ql [.v (.int a),.v (.int b)]=some (.v (.int (if b>a then b else a))):=rfl
end
theorem aB{f g:FS}{ρ ρ1:Ev}(h:f ρ=some (.nx ρ1)):aN f g ρ=g ρ1:=by rw[Ad,h]; rfl
theorem eF{ps:List Bool}{n:Nat}{fb:FS}{ms:List M}{m:M}{ρ:Ev}{ms':List M}(hl:ms.length=ps.length)(h:fb (ms.map some++E7 (n-ms.length) none)=some (.rt m ρ))(hf:fin ps ms ρ=some ms'):gm ps n fb ms=some (m,ms'):=by
 rw[kC,if_pos hl,h];show (fin ps ms ρ).bind _=_;rw[hf]; rfl
theorem g9{fg:FG}{fb:FS}{P:List Ap->Ev->Prop}:∀(ds:List Ap)(ρ:Ev),P ds ρ->(∀d ds ρ,P (d::ds) ρ->∃ρ1 ρ2,fg d ρ=some ρ1/\fb ρ1=some (.nx ρ2)/\P ds ρ2)->∃ρ',forL fg fb ds ρ=some (.nx ρ')/\P [] ρ'
 |[],ρ,h,_=>⟨ρ,rfl,h⟩
 |d::ds,ρ,h,step=>by
  obtain⟨ρ1,ρ2,e1,e2,h2⟩:=step d ds ρ h;obtain⟨ρ',e3,h3⟩:=g9 ds ρ2 h2 step;refine⟨ρ',?_,h3⟩;show (fg d ρ).bind _=_;rw[e1];show (fb ρ1).bind _=_;rw[e2];exact e3
theorem qw{fg:FG}{ft:FT}{fe:FE}{P:List Ap->List Ap->Ev->Prop}:∀(ds:List Ap)(ρ:Ev)(acc:List Ap),P ds acc ρ ->
  (∀d ds acc ρ,P (d::ds) acc ρ->acc.length<lim/\∃ρ1 b ρ2,fg d ρ=some ρ1/\ft ρ1=some (b,ρ2)/\((b=false/\P ds acc ρ2)\/(b=true/\∃o ρ3 e ρ4,fe ρ2=some (o,ρ3)/\cZ o ρ3=some (e,ρ4)/\P ds (acc++[e]) ρ4)))->∃acc' ρ',bJ fg ft fe ds ρ acc=some (acc',ρ')/\P [] acc' ρ':=by
 intro ds
 induction ds with
 |nil=>
  intro ρ acc h _;exact⟨acc,ρ,rfl,h⟩
 |cons d ds ih=>
  intro ρ acc h step;obtain⟨hl,ρ1,b,ρ2,e1,e2,h2⟩:=step d ds acc ρ h;rcases h2 with⟨rfl,h2⟩ | ⟨rfl,o,ρ3,e,ρ4,e3,e4,h2⟩
  ·obtain⟨acc',ρ',e5,h5⟩:=ih ρ2 acc h2 step
   refine⟨acc',ρ',?_,h5⟩;show (fg d ρ).bind _=_;rw[e1];show (ft ρ1).bind _=_;rw[e2];exact e5
  ·obtain⟨acc',ρ',e5,h5⟩:=ih ρ4 (acc++[e]) h2 step
   refine⟨acc',ρ',?_,h5⟩;show (fg d ρ).bind _=_;rw[e1];show (ft ρ1).bind _=_;rw[e2];show (fe ρ2).bind _=_;rw[e3];show (cZ o ρ3).bind _=_;rw[e4];show (if acc.length<lim then _ else _)=_
   rw[if_pos hl];exact e5
end VL
end
section
namespace VL
open PySem PySem.Spec L2 PyProof.Rows
section
variable{X:Cx}{pos:Pos}{pin:List Nat}
noncomputable def qx(i:Nat)(fa:FA):FE:=λρ=>(cJ ρ i).bind λm0=>match m0 with
 |.lst _=>(fa ρ).bind λp=>match p.1 with
  |[.t (.lst es)]=>(cJ p.2 i).bind λm=>match m with
   |.lst ds=>if ds.length+es.length<=lim then some (.t (.v .none),p.2.set i (some (.lst (ds++es)))) else none
   |_=>none
  |_=>none
 |_=>none
theorem Ag{i:Nat}{fa:FA}{σ:L2.St}{H:Hp}{Q:VK}(hq:vE X.K (qx i fa) σ H Q):AN X.K "list" n9 (fu i) (vA X.K fa) σ H Q:=by
 obtain⟨Z,ρ,F,o,ρ',S,w,e,q⟩:=hq;obtain⟨m0,e0,e⟩:=oB e
 split at e
 ·rename_i ds0
  obtain⟨x,G,h1,h2,_⟩:=S.get (aE.mp e0);obtain⟨a,xs0,rfl,ha,_⟩:=(show Ro X.K H Z x (.lst ds0) from⟨G,h2⟩).lst
  refine⟨.ref a,h1,.inl ⟨rfl,_,gg.of ha⟩,?_⟩;obtain⟨⟨os,ρ1⟩,e1,e⟩:=oB e;refine⟨Z,ρ,F,os,ρ1,S,w,e1,λxs H1 Z1 F1 G1 S1 O1 f1=>?_⟩
  dsimp only at e
  split at e
  ·rename_i es
   obtain⟨m,e3,e⟩:=oB e
   split at e
   ·rename_i ds
    split at e
    ·rename_i hl
     cases e;cases O1 with
     |cons p1 r1=>
      cases r1;rw[E3] at f1;cases p1 with
      |t p2=>
       cases p2 with
       |lst hz fz=>
        have f2:=f1.sub (bI f1.nd).1 λb hb=>lL _ hb
        obtain⟨x',G',k1,k2,k3⟩:=mut1 S1 f2 e3;rw[h1] at k1; cases k1;cases k2 with
        |lst hb fb=>
         obtain⟨g,_,k4⟩:=k3 a (.lst (_++_)) lS;obtain⟨F3,S3,f3⟩:=k4 (.lst (ds++es)) [a] (λ_ h=>h) (Fb.mpr ⟨Fg,G7⟩) (.lst aT ((fb.append fz).mono g))
         exact⟨a,_,_,_,rfl,rfl,hb,hz,HX (kZ (by rw[fb.length,fz.length]; exact hl)),q .non _ Z1 F3 [] S3 (.t (.v .non)) f3.nil⟩
    ·cases e
   ·cases e
  ·cases e
 ·cases e
theorem xH(i:Nat){e:Expr}{es:List Expr}{fa:FA}{x:Str}{p1 p2:Pos}(ha:WA X (e::es) fa)(hpe:∀(to:TE)(t:TA),PE X (.Name x p1) to->PA X (e::es) t->PE X (.Call (.Attribute (.Name x p1) "extend" p2) (e::es) [] pos) (AN X.K "list" n9 to t))(hv:PE X (.Name x p1) (fu i)):WE X (.Call (.Attribute (.Name x p1) "extend" p2) (e::es) [] pos) (qx i fa):=⟨bM (hpe _ _ hv ha.h) λ_ _ _ hq=>Ag hq⟩
end
section
variable{X:Cx}{pos:Pos}{pin:List Nat}
noncomputable def vPopA(i:Nat)(fa:FA):FE:=λρ=>(cJ ρ i).bind λm0=>match m0 with
 |.lst _=>(fa ρ).bind λp=>match p.1 with
  |[o]=>(peek p.2 o).bind λmk=>match mk with
   |.v (.int k)=>(cJ p.2 i).bind λm=>match m with
    |.lst ds=>if k < -(2 ^ 63)\/2 ^ 63<=k then none else (seqIndex? k ds.length).bind λn=>(ds[n]?).bind λd=>some (.t (.v d),p.2.set i (some (.lst (ds.eraseIdx n))))
    |_=>none
   |_=>none
  |_=>none
 |_=>none
def o8:V->List V->Hp->VK->Prop:=λx vs H Q=>∃l xs i k y,x=.ref l/\vs=[.int i,y]/\H l=some (.lst xs)/\i=((k:Nat):Int)/\k<=xs.length/\xs.length<2 ^ 62/\xs.length<E6/\Q .non (upd H l (.lst (xs.take k++y::xs.drop k)))
theorem uR:DT X "list.insert" o8:=by
 intro pins s σ H x vs v us Q I rx rv h;obtain⟨l,xs,i,k,y,rfl,rfl,hH,hi,h1,h2,hz,q⟩:=h;cases rx;obtain⟨ui,u,rfl,ri,ru⟩:=Vals.two rv;obtain⟨t,rfl⟩:=ri;obtain⟨z,its,n,r,hl,e⟩:=I.ux hH;have hf:Builtin.List.listFitsIndex i=true:=fitsIndex_both (by lia) (by lia)
 have hg:¬ (!Builtin.List.listFitsIndex i)=true:=by rw[hf]; exact GI
 have hs:its.toArray.size<=E6:=by rw[Dx]; lia
 refine Lz M1 ⟨_,e,rfl⟩ F.entry_list_insert (F.args_list_insert_3 _ _ _) (AutoSeq1.list_insert_list_int_val_1 l its.toArray n i t u hg hs) ⟨e,?_⟩;refine⟨.non,_,I.lset (its':=its.take k++u::its.drop k) hH e ?_ ((r.take k).append (.cons ru (r.drop k))) ?_,rfl,q⟩
 ·have hm:(if i<0 then (i+(its.toArray.size:Int)).toNat else min i.toNat its.toArray.size)=k:=by
   rw[if_neg (by lia),Dx]
   lia
  show (its.toArray.extract 0 (if i<0 then (i+(its.toArray.size:Int)).toNat else min i.toNat its.toArray.size)).push u++its.toArray.extract (if i<0 then (i+(its.toArray.size:Int)).toNat else min i.toNat its.toArray.size)=_
  rw[hm];apply Mi.mp;simp;exact Gu (by rw[FP]; exact Da _)
 ·simp
  lia
noncomputable def xJ(i:Nat)(fa:FA):FE:=λρ=>(cJ ρ i).bind λm0=>match m0 with
 |.lst _=>(fa ρ).bind λp=>match p.1 with
  |[o,o2]=>(peek p.2 o).bind λmk=>match mk with
   |.v (.int k)=>(cZ o2 p.2).bind λq=>(cJ q.2 i).bind λm=>match m with
    |.lst ds=>if 0<=k/\k.toNat<=ds.length/\ds.length<lim then some (.t (.v .none),q.2.set i (some (.lst (ds.take k.toNat++q.1::ds.drop k.toNat)))) else none
    |_=>none
   |_=>none
  |_=>none
 |_=>none
theorem Ah{i:Nat}{fa:FA}{σ:L2.St}{H:Hp}{Q:VK}(hq:vE X.K (xJ i fa) σ H Q):AN X.K "list" o8 (fu i) (vA X.K fa) σ H Q:=by
 obtain⟨Z,ρ,F,o,ρ',S,w,e,q⟩:=hq;obtain⟨m0,e0,e⟩:=oB e
 split at e
 ·rename_i ds0
  obtain⟨x,G,h1,h2,_⟩:=S.get (aE.mp e0);obtain⟨a,xs0,rfl,ha,_⟩:=(show Ro X.K H Z x (.lst ds0) from⟨G,h2⟩).lst
  refine⟨.ref a,h1,.inl ⟨rfl,_,gg.of ha⟩,?_⟩;obtain⟨⟨os,ρ1⟩,e1,e⟩:=oB e;refine⟨Z,ρ,F,os,ρ1,S,w,e1,λxs H1 Z1 F1 G1 S1 O1 f1=>?_⟩
  dsimp only at e
  split at e
  ·rename_i o1 o2
   obtain⟨mk,e2,e⟩:=oB e
   split at e
   ·rename_i k
    obtain⟨⟨d,ρ2⟩,e4,e⟩:=oB e;obtain⟨m,e3,e⟩:=oB e
    split at e
    ·rename_i ds
     split at e
     ·rename_i hk
      cases e;cases O1 with
      |cons p1 r1=>
       cases r1 with
       |cons p3 r2=>
        cases r2;rw[E3] at f1;obtain⟨G2,p2⟩:=p1.peek S1 e2;cases p2 with
        |v fz=>
         cases fz;have f2:=f1.sub (F':=F1++_) (by
          obtain⟨n1,n2,n3⟩:=bI f1.nd;exact aP n1 (bI n2).2.1 λb hb h=>n3 b hb (lR _ h)) λb hb=>by
           rcases lM hb with h | h
           ·exact lL _ h
           ·exact lR _ (lR _ h)
         obtain⟨Z2,F2,S2,z2,f3,_⟩:=gV S1 p3 f2 e4;obtain⟨x',G',k1,k2,k3⟩:=mut1 S2 f3 e3;rw[h1] at k1; cases k1;cases k2 with
         |lst hb fb=>
          obtain⟨g,_,k4⟩:=k3 a (.lst (_)) lS;obtain⟨F3,S3,f3⟩:=k4 (.lst (ds.take k.toNat++d::ds.drop k.toNat)) [a] (λ_ h=>h) (Fb.mpr ⟨Fg,G7⟩) (.lst aT (((fb.take k.toNat).append (.cons z2 (fb.drop k.toNat))).mono g))
          have hl:=fb.length;have h5:lim<2 ^ 62:=by decide
          exact⟨a,_,k,k.toNat,_,rfl,rfl,hb,by lia,by lia,by lia,kZ (by lia),q .non _ Z2 F3 [] S3 (.t (.v .non)) f3.nil⟩
     ·cases e
    ·cases e
   ·cases e
  ·cases e
 ·cases e
theorem CO(i:Nat){e:Expr}{es:List Expr}{fa:FA}{x:Str}{p1 p2:Pos}(ha:WA X (e::es) fa)(hpe:∀(to:TE)(t:TA),PE X (.Name x p1) to->PA X (e::es) t->PE X (.Call (.Attribute (.Name x p1) "insert" p2) (e::es) [] pos) (AN X.K "list" o8 to t))(hv:PE X (.Name x p1) (fu i)):WE X (.Call (.Attribute (.Name x p1) "insert" p2) (e::es) [] pos) (xJ i fa):=⟨bM (hpe _ _ hv ha.h) λ_ _ _ hq=>Ah hq⟩
end
noncomputable def se:List Int->Option Int
 |[]=>none
 |n::ns=>match se ns with
  |none=>some n
  |some j=>some (if j>n then j else n)
theorem jL:∀{ns:List Int}{k:Int},se ns=some k->k∈ns/\∀a∈ns,a<=k
 |[],_,e=>by cases e
 |n::ns,k,e=>by
  unfold se at e;cases h:se ns with
  |none=>
   rw[h] at e; cases e;cases ns with
   |nil=>exact⟨lS,λa ha=>by rw[Bn.mp ha]; exact ML _⟩
   |cons y ys=>unfold se at h; split at h <;> cases h
  |some j=>
   rw[h] at e;have e:(if j>n then j else n)=k:=FX e
   obtain⟨h1,h2⟩:=jL h
   by_cases c:j>n
   ·rw[if_pos c] at e; subst e
    exact⟨lO _ h1,λa ha=>by
     rcases lK ha with ha | ha
     ·subst ha; lia
     ·exact h2 a ha⟩
   ·rw[if_neg c] at e; subst e
    exact⟨lS,λa ha=>by
     rcases lK ha with ha | ha
     ·subst ha; lia
     ·have:=h2 a ha; lia⟩
section
variable{X:Cx}
theorem qy{prog:FB}{w:World}{A:Fa}{E:Value->B1->Prop}{s:B1}{l:Addr}{its:Array Value}{Q:Value->B1->Prop}(hl:s.heap.IsTuple l its)
  (h:∀s₂:B1,(∀b o,b∉[s.heap.objs.size]->s.heap.get? b=some o->s₂.heap.get? b=some o)->s₂={ s with heap:=s₂.heap }->s₂.heap.IsTupleIter s.heap.objs.size l 0->s₂.heap.IsTuple l its->(∀b∈[s.heap.objs.size,l],b<s₂.heap.objs.size)->l≠s.heap.objs.size->Q (.ref s.heap.objs.size) s₂):wpAny (model prog w) A (Lw (.ref l)) Q E s:=by
 have hlt:l<s.heap.objs.size:=by obtain⟨_,e,_⟩:=hl; exact Ch e
 refine JX hl (h _ (λb o _ e=>At _ e) rfl ⟨_,Db _ rfl,rfl,rfl⟩ (hl.push _) ?_ (E1 hlt))
 intro b hb;rw[GN];rcases lK hb with e | hb
 ·rw[e]; exact Im _
 ·rw[Bn.mp hb]; exact Gx hlt
theorem mK(hc:X.calm=true):bf X (.builtin "max") (λxs H Q=>∃p ns,xs=[.ref p]/\gg X.K H p (ns.map V.int)/\ns≠[]/\∀M:Int,M∈ns->(∀a,a∈ns->a<=M)->Q (.int M) H):=by
 intro pins s σ H xs us Q I r ⟨p,ns,exs,hq,hne,q⟩;subst exs;obtain⟨u,rfl,rx⟩:=vals1 r;cases rx;obtain⟨its,rv,pl,hz⟩:=I.list hq;have hi:=intsAre_of rv;obtain⟨xs,e⟩:=hi.allInts.items;have hp:=pl.isList;have hn:xs.toList.map (·.1)=ns:=by
  rw[<-hi.numsOf,<-Kh (xs:=xs),<-e]
 rw[e] at hp;have hlen:ns.length=xs.size:=by rw[<-hn,B2,FW]
 have hsz:0<xs.size:=KS λz=>hne (HF.mp (hlen.trans z))
 refine max_intList (I.ok.hd hc) hp hsz λv h' tk hv hk=>?_
 obtain⟨t,rfl⟩:=Jk hv;obtain⟨h1,h2⟩:=argBest_gt (numAt xs) (xs.size-1);refine⟨.int _,H,I.kept (t':=tk) hk,⟨t,rfl⟩,q _ ?_ λa ha=>?_⟩
 ·rw[Jw,hn]; exact getD_mem (by lia)
 ·obtain⟨j,hj,rfl⟩:=Mr ha
  rw[<-hn,<-Jw];exact h2 j (by lia)
theorem o9(hc:X.calm=true):bf X (.builtin "max") (λxs H Q=>∃p ns,xs=[.ref p]/\dR X.K H p (ns.map V.int)/\ns≠[]/\∀M:Int,M∈ns->(∀a,a∈ns->a<=M)->Q (.int M) H):=by
 intro pins s σ H xs us Q I r ⟨p,ns,exs,hq,hne,q⟩;subst exs;obtain⟨u,rfl,rx⟩:=vals1 r;cases rx;obtain⟨its,rv,pl,hz⟩:=I.tuple hq;have hi:=intsAre_of rv;obtain⟨xs,e⟩:=hi.allInts.items;have hp:s.heap.IsTuple p its.toArray:=pl;have hn:xs.toList.map (·.1)=ns:=by
  rw[<-hi.numsOf,<-Kh (xs:=xs),<-e]
 rw[e] at hp;have hlen:ns.length=xs.size:=by rw[<-hn,B2,FW]
 have hsz:0<xs.size:=KS λz=>hne (HF.mp (hlen.trans z))
 refine call_max_walk (qy hp λs₂ k2 e2 st1 st2 hfp hnp=>?_)
 refine⟨_,_,_,(IU xs).size,λi v=>(IU xs)[i]? = some v,_,λi j=>decide (numAt xs i>numAt xs j),rfl,M0 (A:=X.A.in1) (show X.A.in1.handled=none from I.ok.hd hc) _ p hnp (IU xs),(show _/\_ from⟨st1,st2⟩),hfp,by simpa[IU] using hsz,CmpOf.ints_gt (numAt xs) (λ_ _=>Jk),λv h' tk hv hk=>?_⟩
 have hv:(IU xs)[Gq (λi j=>decide (numAt xs i>numAt xs j)) (xs.size-1)]? = some v:=by simpa[IU] using hv
 obtain⟨t,rfl⟩:=Jk hv;obtain⟨h1,h2⟩:=argBest_gt (numAt xs) (xs.size-1);rw[e2];have hk2:∀b o,s.heap.get? b=some o->h'.get? b=some o:=λb o eb=>by
  have hb:b∉[s.heap.objs.size]:=λhm=>absurd (Bn.mp hm▸Ch eb) (Gs _)
  exact hk b o hb (k2 b o hb eb)
 refine⟨.int _,H,I.kept (t':=tk) hk2,⟨t,rfl⟩,q _ ?_ λa ha=>?_⟩
 ·rw[Jw,hn]; exact getD_mem (by lia)
 ·obtain⟨j,hj,rfl⟩:=Mr ha
  rw[<-hn,<-Jw];exact h2 j (by lia)
theorem pe(hc:X.calm=true):bf X (.builtin "min") (λxs H Q=>∃p ns,xs=[.ref p]/\dR X.K H p (ns.map V.int)/\ns≠[]/\∀M:Int,M∈ns->(∀a,a∈ns->M<=a)->Q (.int M) H):=by
 intro pins s σ H xs us Q I r ⟨p,ns,exs,hq,hne,q⟩;subst exs;obtain⟨u,rfl,rx⟩:=vals1 r;cases rx;obtain⟨its,rv,pl,hz⟩:=I.tuple hq;have hi:=intsAre_of rv;obtain⟨xs,e⟩:=hi.allInts.items;have hp:s.heap.IsTuple p its.toArray:=pl;have hn:xs.toList.map (·.1)=ns:=by
  rw[<-hi.numsOf,<-Kh (xs:=xs),<-e]
 rw[e] at hp;have hlen:ns.length=xs.size:=by rw[<-hn,B2,FW]
 have hsz:0<xs.size:=KS λz=>hne (HF.mp (hlen.trans z))
 refine call_min_walk (qy hp λs₂ k2 e2 st1 st2 hfp hnp=>?_)
 refine⟨_,_,_,(IU xs).size,λi v=>(IU xs)[i]? = some v,_,λi j=>decide (numAt xs i<numAt xs j),rfl,M0 (A:=X.A.in1) (show X.A.in1.handled=none from I.ok.hd hc) _ p hnp (IU xs),(show _/\_ from⟨st1,st2⟩),hfp,by simpa[IU] using hsz,CmpOf.ints_lt (numAt xs) (λ_ _=>Jk),λv h' tk hv hk=>?_⟩
 have hv:(IU xs)[Gq (λi j=>decide (numAt xs i<numAt xs j)) (xs.size-1)]? = some v:=by simpa[IU] using hv
 obtain⟨t,rfl⟩:=Jk hv;obtain⟨h1,h2⟩:=argBest_lt (numAt xs) (xs.size-1);rw[e2];have hk2:∀b o,s.heap.get? b=some o->h'.get? b=some o:=λb o eb=>by
  have hb:b∉[s.heap.objs.size]:=λhm=>absurd (Bn.mp hm▸Ch eb) (Gs _)
  exact hk b o hb (k2 b o hb eb)
 refine⟨.int _,H,I.kept (t':=tk) hk2,⟨t,rfl⟩,q _ ?_ λa ha=>?_⟩
 ·rw[Jw,hn]; exact getD_mem (by lia)
 ·obtain⟨j,hj,rfl⟩:=Mr ha
  rw[<-hn,<-Jw];exact h2 j (by lia)
noncomputable def xK:List M->Option M
 |[m]=>match jf m with
  |some ds=>(eO ds).bind λns=>(se ns).bind λk=>some (.v (.int k))
  |none=>(rN m).bind λds=>(eO ds).bind λns=>(se ns).bind λk=>some (.v (.int k))
 |_=>none
noncomputable def qz:List M->Option M
 |[m]=>match jf m with
  |some ds=>(eO ds).bind λns=>(qk ns).bind λk=>some (.v (.int k))
  |none=>(rN m).bind λds=>(eO ds).bind λns=>(qk ns).bind λk=>some (.v (.int k))
 |_=>none
theorem Ai(hc:X.calm=true):bf X (.builtin "max") (pN X.K xK):=by
 intro pins s σ H xs us Q I rs h;obtain⟨Z,ms,m,za,hr,e,q⟩:=h;unfold xK at e
 split at e
 ·split at e
  ·next ds e1=>
   obtain⟨ns,e2,e⟩:=oB e;obtain⟨k,e3,e⟩:=oB e;cases e;obtain⟨x,rfl,h1⟩:=ff hr;obtain⟨a,ys,rfl,hx,fx⟩:=h1.jf e1;rw[bV e2] at fx;rw[fx.bU] at hx;obtain⟨k1,k2⟩:=jL e3;refine mK hc pins s σ H _ us Q I rs ⟨a,ns,rfl,hx,λz=>by rw[z] at k1; simp at k1,λM h1 h2=>?_⟩
   have:M=k:=J5 (k2 M h1) (h2 k k1);subst this;exact ck q za (.int _)
  ·obtain⟨ds,e1,e⟩:=oB e
   obtain⟨ns,e2,e⟩:=oB e;obtain⟨k,e3,e⟩:=oB e;cases e;obtain⟨x,rfl,h1⟩:=ff hr;obtain⟨a,ys,rfl,hx,fx⟩:=h1.rN e1;rw[bV e2] at fx;rw[fx.bU] at hx;obtain⟨k1,k2⟩:=jL e3;refine o9 hc pins s σ H _ us Q I rs ⟨a,ns,rfl,hx,λz=>by rw[z] at k1; simp at k1,λM h1 h2=>?_⟩
   have:M=k:=J5 (k2 M h1) (h2 k k1);subst this;exact ck q za (.int _)
 ·cases e
theorem Aj(hc:X.calm=true):bf X (.builtin "min") (pN X.K qz):=by
 intro pins s σ H xs us Q I rs h;obtain⟨Z,ms,m,za,hr,e,q⟩:=h;unfold qz at e
 split at e
 ·split at e
  ·next ds e1=>
   obtain⟨ns,e2,e⟩:=oB e;obtain⟨k,e3,e⟩:=oB e;cases e;obtain⟨x,rfl,h1⟩:=ff hr;obtain⟨a,ys,rfl,hx,fx⟩:=h1.jf e1;rw[bV e2] at fx;rw[fx.bU] at hx;obtain⟨k1,k2⟩:=gW e3;refine iw hc pins s σ H _ us Q I rs ⟨a,ns,rfl,hx,λz=>by rw[z] at k1; simp at k1,λM h1 h2=>?_⟩
   have:M=k:=J5 (h2 k k1) (k2 M h1);subst this;exact ck q za (.int _)
  ·obtain⟨ds,e1,e⟩:=oB e
   obtain⟨ns,e2,e⟩:=oB e;obtain⟨k,e3,e⟩:=oB e;cases e;obtain⟨x,rfl,h1⟩:=ff hr;obtain⟨a,ys,rfl,hx,fx⟩:=h1.rN e1;rw[bV e2] at fx;rw[fx.bU] at hx;obtain⟨k1,k2⟩:=gW e3;refine pe hc pins s σ H _ us Q I rs ⟨a,ns,rfl,hx,λz=>by rw[z] at k1; simp at k1,λM h1 h2=>?_⟩
   have:M=k:=J5 (h2 k k1) (k2 M h1);subst this;exact ck q za (.int _)
 ·cases e
end
section
variable{prog:FB}{w:World}{A:Fa}{R:LU->B1->Prop}{I S:Addr}{fp wr:List Addr}{n:Nat}{P:Nat->Value->Prop}{St:Nat->Heap->Prop}{bt:Nat->Nat->Bool}{kw:List (Str×Value)}
abbrev xM(h:Heap)(S:Addr)(xs:Array Value)(c:Nat):Prop:=h.get? S=some { cls:=.type "list",dict:=none,data:=.seq xs c,slots:=#[] }
abbrev tV(wr:List Addr)(S:Addr)(h h':Heap):Prop:=∀b o,b∉wr->b≠S->h.get? b=some o->h'.get? b=some o
end
section
variable{X:Cx}{pos:Pos}
noncomputable def jk:List Ap->Option (List Key)
 |[]=>some []
 |d::ds=>(fR d).bind λk=>(jk ds).bind λks=>some (k::ks)
theorem bu.jk{K:AT}{H:Hp}{Z:Zs}:∀{ds:List Ap}{xs:List V}{ks:List Key},bu K H Z xs ds->VL.jk ds=some ks->xs=ks.map kV
 |[],_,_,.nil,e=>by cases e; rfl
 |d::ds,_,_,.cons h r,e=>by
  obtain⟨k,e1,e⟩:=oB e;obtain⟨ks,e2,e⟩:=oB e;cases e;rw[fS h e1,bu.jk r e2];rfl
theorem gp.lC{K:AT}{H:Hp}{Z:Zs}:∀{ks:List Key}{ys:List V}{ds:List Ap}{acc:List (Key×V)}{acc':List (Key×Ap)},bu K H Z ys ds->gp K H Z acc acc'->gp K H Z ((ks.zip ys).foldl (λa p=>putK a p.1 p.2) acc) ((ks.zip ds).foldl (λa p=>putD a p.1 p.2) acc')
 |[],_,_,_,_,_,h=>h
 |_::_,_,_,_,_,.nil,h=>h
 |k::ks,_,_,_,_,.cons h r,a=>gp.lC (ks:=ks) r (a.put h)
noncomputable def DN(ks:List Key)(bs:List Ap):List (Key×Ap):=(ks.zip bs).foldl (λacc p=>putD acc p.1 p.2) []
noncomputable def vH:List M->Option M
 |[.v (.tuple as),m]=>(jk as).bind λks=>(seq m).bind λbs=>some (.bP (DN ks bs))
 |_=>none
def ET(K:AT):List V->Hp->VK->Prop:=λvs H1 Q=>∃ (a b:Addr) (ys:List V) (ks:List Key),vs=[.ref a,.ref b]/\dR K H1 a (ks.map kV)/\(gg K H1 b ys\/dR K H1 b ys)/\∀l,H1 l=none->Q (.ref l) (upd H1 l (.dK ((ks.zip ys).foldl (λacc p=>putK acc p.1 p.2) [])))
theorem rDZ_v{K:AT}:DH K (ET K) vH:=λH Z xs ms m Q za hr e q=>by
 unfold vH at e
 split at e
 ·obtain⟨ks,e1,e⟩:=oB e
  obtain⟨bs,e2,e⟩:=oB e;cases e;obtain⟨x,y,rfl,h1,h2⟩:=ros2 hr;obtain⟨a,xs,rfl,t1,g1⟩:=h1.tup;obtain⟨b,ys,rfl,t2,g2⟩:=h2.seq e2;rw[g1.jk e1] at t1;exact⟨a,b,ys,ks,rfl,t1,t2,λl hl=>endD q za hl (gp.lC g2 .nil)⟩
 ·cases e
theorem Ak{a b:Expr}{fa:FA}{p1 p2 pos2:Pos}(hc:X.calm=true)(hg:Gl X "dict")(hm:X.mg "dict" = none)(hg2:Gl X "zip")(hm2:X.mg "zip" = none)(ha:VA X [a,b] fa)(hs:E5 [a,b] X.env=[(false,eval a X.env),(false,eval b X.env)]:=by rfl)(hs2:E5 [b] X.env=[(false,eval b X.env)]:=by rfl)
  (hs3:E5 [.Call (.Name "zip" p2) [a,b] [] pos2] X.env=[(false,eval (.Call (.Name "zip" p2) [a,b] [] pos2) X.env)]:=by rfl) :
  VE X (.Call (.Name "dict" p1) [.Call (.Name "zip" p2) [a,b] [] pos2] [] pos) (bQ vH fa):=bM (zQ hc hg hm hg2 hm2 ha hs hs2 hs3) λ_ _ _ hq=>many rDZ_v hq
theorem pg{a b:Expr}{fa:FA}{p1 p2 pos2:Pos}(hc:X.calm=true)(hg:Gl X "dict")(hm:X.mg "dict" = none)(hg2:Gl X "zip")(hm2:X.mg "zip" = none)(ha:WA X [a,b] fa)(hs:E5 [a,b] X.env=[(false,eval a X.env),(false,eval b X.env)]:=by rfl)(hs2:E5 [b] X.env=[(false,eval b X.env)]:=by rfl)
  (hs3:E5 [.Call (.Name "zip" p2) [a,b] [] pos2] X.env=[(false,eval (.Call (.Name "zip" p2) [a,b] [] pos2) X.env)]:=by rfl) :
  WE X (.Call (.Name "dict" p1) [.Call (.Name "zip" p2) [a,b] [] pos2] [] pos) (bQ vH fa):=⟨Ak hc hg hm hg2 hm2 ha.h hs hs2 hs3⟩
noncomputable def upto(n:Nat):List Ap:=(FD n).map λ(k:Nat)=>Fe (k:Int)
theorem xN{K:AT}{H:Hp}{Z:Zs}(n:Nat):bu K H Z ((FD n).map λ(k:Nat)=>V.int (k:Int)) (upto n):=by
 have h:=bu.ints (K:=K) (H:=H) (Z:=Z) ((FD n).map λ(k:Nat)=>(k:Int))
 rw[Ee,Ee] at h;exact h
noncomputable def isSq:Ap->Bool
 |.tuple _=>true
 |.list _=>true
 |_=>false
noncomputable def pA(d:Ap):Bool:=isSq d && d.canLay0 && d.showable && decide (d.depth<=50) && decide (d.shown.length<=E6)
noncomputable def fJ:List M->Option M
 |[m]=>(AV m).bind λd=>if pA d=true then some (.v (.str d.shown)) else none
 |_=>none
theorem kD(hu:X.A.units+64<cLine)(hg:X.A.guards=some []):bf X (.builtin "repr") (pN X.K fJ):=by
 intro pins s σ H xs us Q I rs h;obtain⟨Z,ms,m,za,hr,e,q⟩:=h;unfold fJ at e
 split at e
 ·obtain⟨d,e1,e⟩:=oB e
  split at e
  ·next ok=>
   cases e;unfold pA at ok;simp only[Fk,decide_eq_true_eq] at ok;obtain⟨x,rfl,h1⟩:=ff hr;cases rs with
   |cons rx rr=>
    cases rr;obtain⟨as,rd⟩:=h1.reads I e1 ok.1.1.1.2 rx;have hsm:d.hasDict=true->HQ∉as:=PyData.noDict_hsm (PyData.hasDict_of_canLay d ok.1.1.1.2);have key:∀{a:Addr},Reads s.heap (.ref a) d as->wpAny (model X.prog X.w) X.A (call (.builtin "repr") [.ref a]) (EP X pins σ Q) X.xe s:=λ{a}rd=>by
     refine repr_of_reads' rd ok.1.1.2 hsm hg (by have:=ok.1.2; lia) (λ_ _ e=>e) (λh' u tk k=>⟨.str _,H,I.kept (t':=tk) k,⟨u,rfl⟩,ck q za (.str _)⟩) ok.2
    cases d with
    |tuple ds=>cases rd with
     |tuple a b c d=>exact key (.tuple a b c d)
    |list ds=>cases rd with
     |list a b c d=>exact key (.list a b c d)
    |_=>exact absurd ok.1.1.1.1 (by simp[isSq])
  ·cases e
 ·cases e
noncomputable def CP(neg:Bool):M->M->Option M
 |.v (.str x),.v (.str y)=>some (.v (.bool (if neg then x != y else x == y)))
 |_,_=>none
theorem xO:dN X (Fy .NotEq) (rM X.K (CP true)):=by
 intro pins s σ H x y v u Q I rx ry h;obtain⟨Z,m1,m2,m,za,h1,h2,e,q⟩:=h;unfold CP at e
 split at e
 ·cases e
  obtain rfl:=h1.str;obtain rfl:=h2.str;obtain⟨t,rfl⟩:=rx;obtain⟨t',rfl⟩:=ry;exact ne_str ⟨.bl _,H,I,rfl,ck q za (.bl _)⟩
 ·cases e
noncomputable def lE:=j8 (λi j=>decide ((GG i:Int)+GG j<=2 ^ 20)) λi j=>.int (i*j)
theorem Al:dN X (Gp .Mult) (rI (λi j=>(GG i:Int)+GG j<=2 ^ 20) λi j=>.int (i*j)):=Dy λi j _ _ _ _ _ hc q=>mul_int q (by
 unfold IntMulOk Builtin.Int.intTooBig;have h:¬ ((GG i:Int)+GG j>bitsLine):=by
  have:(2:Int) ^ 20<=(bitsLine:Int):=by decide
  lia
 simp;intro _ _;lia)
theorem pB:dN X (Gp .Mult) (rM X.K lE):=lg Al (λi j h=>of_decide_eq_true h) λ_ _ _ _=>.int _
end
noncomputable def fV(fg:FG)(ft:FT)(fi2:FI)(fg2:FG)(ft2:FT)(fe:FE):List Ap->Ev->List Ap->Option (List Ap×Ev)
 |[],ρ,acc=>some (acc,ρ)
 |d::ds,ρ,acc=>(fg d ρ).bind λρ1=>(ft ρ1).bind λt=>if t.1=true then
  (fi2 t.2).bind λp=>(bJ fg2 ft2 fe p.1 p.2 acc).bind λq=>fV fg ft fi2 fg2 ft2 fe ds q.2 q.1
  else fV fg ft fi2 fg2 ft2 fe ds t.2 acc
noncomputable def xP(n:Nat)(js:List Nat)(fi:FI)(fg:FG)(ft:FT)(fi2:FI)(fg2:FG)(ft2:FT)(fe:FE):FE:=λρ=>(fi ρ).bind λp=>(caps p.2 js).bind λos=>(cG os p.2).bind λq=>
 (fV fg ft fi2 fg2 ft2 fe p.1 (E7 n none++q.1.map some) []).bind λr=>(fin (E7 js.length true) q.1 (r.2.drop n)).bind λms'=>some (.t (.lst r.1),gI os ms' q.2)
section
variable{X:Cx}{pos:Pos}
theorem xQ{pv:Pv}{fg:FG}{ft:FT}{fe:FE}{J:It}{ds:List Ap}{D:Addr}{τ:L2.St}{H1:Hp}{Z1:Zs}{A:List Addr}{ρ0:Ev}{r:List Ap×Ev}{xs0:List V}{acc0:List Ap}{Q:L2.St->Hp->Prop}(S:aS X.K H1 Z1 τ ρ0 A)(w:Wf H1 Z1 (A++[D]))(P:Pin pv τ)(d0:H1 D=some (.lst xs0))(z0:bu X.K H1 Z1 xs0 acc0)(hJ:jE X.K J H1 Z1 ds)(e:bJ fg ft fe ds ρ0 acc0=some r)
  (q:∀τ' H' Z' F' xs,aS X.K H' Z' τ' r.2 F'->Pin pv τ'->H' D=some (.lst xs)->bu X.K H' Z' xs r.1->aF H1 Z1 (A++[D]) H' Z' (F'++[D])->Q τ' H'):iL (vG X.K pv fg) (vT X.K ft) (nE D (vE X.K fe)) J τ H1 Q :=
 rZ S P d0 z0 (aF.refl w) (λH2 Z2 _ f=>hJ.go H2 Z2 (f.grow w)) (λH2 Z2 _ f=>hJ.stop H2 Z2 (f.grow w)) e q
theorem xR{pv:Pv}{fg:FG}{ft:FT}{fi2:FI}{fg2:FG}{ft2:FT}{fe:FE}{J:It}{ds:List Ap}{D:Addr}{τ:L2.St}{H1:Hp}{Z1:Zs}{A:List Addr}{ρ0:Ev}{r:List Ap×Ev}{xs0:List V}{acc0:List Ap}{Q:L2.St->Hp->Prop}(S:aS X.K H1 Z1 τ ρ0 A)(w:Wf H1 Z1 (A++[D]))(P:Pin pv τ)(d0:H1 D=some (.lst xs0))(z0:bu X.K H1 Z1 xs0 acc0)(hJ:jE X.K J H1 Z1 ds)(e:fV fg ft fi2 fg2 ft2 fe ds ρ0 acc0=some r)
  (q:∀τ' H' Z' F' xs,aS X.K H' Z' τ' r.2 F'->Pin pv τ'->H' D=some (.lst xs)->bu X.K H' Z' xs r.1->aF H1 Z1 (A++[D]) H' Z' (F'++[D])->Q τ' H'):iL (vG X.K pv fg) (vT X.K ft) (D6 (vI X.K fi2) (vG X.K pv fg2) (vT X.K ft2) (nE D (vE X.K fe))) J τ H1 Q:=by
 refine qp (jI X.K D) (λds ρ acc=>fV fg ft fi2 fg2 ft2 fe ds ρ acc=some r) (λds ρ acc=>((fi2 ρ).bind λp=>(bJ fg2 ft2 fe p.1 p.2 acc).bind λq=>fV fg ft fi2 fg2 ft2 fe ds q.2 q.1)=some r) jI.mono jI.al (λd ds ρ acc e=>?_) S P ⟨xs0,rfl,d0,z0⟩ (aF.refl w) e (λH2 Z2 _ f=>hJ.go H2 Z2 (f.grow w)) (λH2 Z2 _ f=>hJ.stop H2 Z2 (f.grow w)) (λds' τ H Z ρ F G acc e S P a f N hN=>?_) λτ' H' Z' ρ' F' G' acc' S P a f e=>?_
 ·obtain⟨ρ3,e3,e⟩:=oB e
  obtain⟨⟨b,ρ4⟩,e4,e⟩:=oB e;exact⟨ρ3,b,ρ4,e3,e4,λh=>by subst h; exact e,λh=>by subst h; exact e⟩
 ·obtain⟨⟨ds2,ρ5⟩,e5,e⟩:=oB e
  obtain⟨⟨acc6,ρ6⟩,e6,e⟩:=oB e;refine⟨Z,ρ,F,ds2,ρ5,S,f.left.wf,e5,λJ2 H5 Z5 F5 S5 hJ2 g5=>?_⟩
  have f5:=f.trans (g5.frame f.wf a.al);obtain⟨xs,rfl,d5,z5⟩:=a.mono (g5.grow f.left.wf) λa h o e=>g5.keep a o (λz=>(bI f.nd).2.2 a z h) e
  exact xQ S5 f5.wf P d5 z5 hJ2 e6 λτ' H' Z' F' xs' S6 P6 d6 z6 f6=>hN τ' H' Z' ρ6 F' _ acc6 S6 P6 ⟨xs',rfl,d6,z6⟩ (f5.trans f6) e
 ·cases e
  obtain⟨xs,rfl,d,z⟩:=a;exact q τ' H' Z' F' xs S P d z f
theorem Am{n:Nat}{js:List Nat}{fi:FI}{fg:FG}{ft:FT}{fi2:FI}{fg2:FG}{ft2:FT}{fe:FE}{σ:L2.St}{H:Hp}{Q:VK}{fr:List (Option Nat)}(hfr:fr=E7 n none++js.map some)(hq:vE X.K (xP n js fi fg ft fi2 fg2 ft2 fe) σ H Q) :
  tLC2 fr (vI X.K fi) (λ_=>vG X.K (fU n js σ) fg) (λ_=>vT X.K ft) (λ_=>vI X.K fi2) (λ_=>vG X.K (fU n js σ) fg2) (λ_=>vT X.K ft2) (λ_=>vE X.K fe) σ H Q:=by
 subst hfr;obtain⟨Z,ρ,F,o,ρ',S,w,e,q⟩:=hq;obtain⟨⟨ds,ρ1⟩,e1,e⟩:=oB e;obtain⟨os,e2,e⟩:=oB e;obtain⟨⟨ms,ρh⟩,e3,e⟩:=oB e;obtain⟨⟨acc,ρi⟩,e4,e⟩:=oB e;obtain⟨ms',e5,e⟩:=oB e;cases e;refine⟨Z,ρ,F,ds,ρ1,S,w,e1,λJ H1 Z1 F1 S1 hJ f1 D hD z=>?_⟩
 obtain⟨τ,A,Fh,eτ,S0,wA,P0,h2,n3,back⟩:=iN (n:=n) S1 f1 e2 e3;rw[eτ];have n0:=aF.uL (o:=.lst []) hD wA.za;have f0:aF H1 Z1 A (upd H1 D (.lst [])) Z1 (A++[D]):=n0.news wA S0.al;refine xR (S0.news n0) f0.wf P0 aT .nil (hJ.mono n0.tu) e4 λτ' H2 Z2 F2 ys S2 P2 d2 z2 f2' =>?_
 obtain⟨F4,p1,f4⟩:=back _ _ _ _ _ _ _ S2 P2 (f0.trans f2') e5;exact q (.ref D) H2 Z2 F4 [D] p1 (.t (.lst d2 z2)) f4
end
section
variable{X:Cx}{pos:Pos}{pin:List Nat}
theorem An{i:Nat}{x:Str}(n:Nat)(js:List Nat){elt target iter t2 i2:Expr}{ifs f2:List Expr}{scope:Scope}{N:List Str}{fr:List (Option Nat)}{pinI:List Nat}{fi:FI}{fg:FG}{ft:FT}{fi2:FI}{fg2:FG}{ft2:FT}{fe:FE}{pos' spos:Pos}(hp0:i∉pin)(hN:X.N.Nodup)(hi':X.N[i]? = some x)(hx:X.env.scope.names.lookup x=some .local)
  (hfr:fr=E7 n none++js.map some) (hpin:pinI=(FD js.length).map (n + ·)) (hc:X.calm=true) (S:aR X scope N fr) (hi:WI X target iter fi)
  (hin:∀z:Bk,WG (aA X scope z.cl N z.C z.fp z.s z.H) pinI target fg/\WF (aA X scope z.cl N z.C z.fp z.s z.H) ifs ft/\WI (aA X scope z.cl N z.C z.fp z.s z.H) t2 i2 fi2/\WG (aA X scope z.cl N z.C z.fp z.s z.H) pinI t2 fg2/\WF (aA X scope z.cl N z.C z.fp z.s z.H) f2 ft2/\WE (aA X scope z.cl N z.C z.fp z.s z.H) elt fe)
  (hs:∀x,FY iter X.env x=pure x:=by intro _; rfl) (hs2:∀(env:Env)x,FY i2 env x=pure x:=by intro _ _; rfl) (hsw:Hc (.ListComp elt [⟨target,iter,ifs,0⟩,⟨t2,i2,f2,0⟩] scope pos) (some (.Name x pos')) spos.line X.env=pure true:=by rfl) :
  WS X pin (.Assign [.Name x pos'] (.ListComp elt [⟨target,iter,ifs,0⟩,⟨t2,i2,f2,0⟩] scope pos) spos) (bg i (xP n js fi fg ft fi2 fg2 ft2 fe)):=⟨λpv hp pins s σ H D I hq=>
 zT (g:=λ_=>vG X.K (fU n js σ) fg) (tt:=λ_=>vT X.K ft) (wi2:=λ_=>vI X.K fi2) (g2:=λ_=>vG X.K (fU n js σ) fg2) (tt2:=λ_=>vT X.K ft2) (te:=λ_=>vE X.K fe) hN hi' hx hc S hi.h (λz=>⟨(hin z).1.h _ (jH n js σ hpin),(hin z).2.1.h,(hin z).2.2.1.h,(hin z).2.2.2.1.h _ (jH n js σ hpin),(hin z).2.2.2.2.1.h,(hin z).2.2.2.2.2.h⟩) hs hs2 hsw pins s σ H D I (Am hfr (tQ hp hp0 hq))⟩
end
end VL
end
section
namespace L2
open PySem PySem.Spec PyProof.Rows
end L2
end
section
namespace VL
open PySem PySem.Spec L2 PyProof.Rows
end VL
end
section
namespace L2
open PySem PySem.W PyProof.Rows PySem.Calls
section
variable{prog:FB}{w:World}{A:Fa}{E:Value->B1->Prop}{s:B1}
theorem qA{l:Addr}{vs:List Value}{lt:Nat->Nat->Bool}{Q:Value->B1->Prop}(O:Ord lt)(hl:IsTup s.heap l vs.toArray)(h64:vs.length<64)
  (hk:2<=vs.length->∀(A':Fa),A'.units<=A.units+2->∀h':Heap,(∀b o,s.heap.get? b=some o->h'.get? b=some o)->∃κ,(∀Q:HC->B1->Prop,Q κ { s with heap:=h' }->wpAny (model prog w) A' (Mx vs.toArray) Q (λ_ _=>False) { s with heap:=h' }) /\
   ∀i j,i<vs.length->j<vs.length->∀C:Bool->B1->Prop,C (lt i j) { s with heap:=h' }->wpAny (model prog w) A' (NO κ (vs.getD i Fp) (vs.getD j Fp)) C (λ_ _=>False) { s with heap:=h' })
  (h:∀p:Array Nat,Pm vs.length p->C9 lt p vs.length->Q (.ref (s.heap.objs.size+1)) { s with heap:=sortedAll s.heap vs (ee vs p).toArray }) :
  wpAny (model prog w) A (call (.builtin "sorted") [.ref l]) Q E s:=by
 refine IB Lf L9 LA (LC _) ?_;unfold Gg.«sorted»;refine AC (m:=Ly "sorted" 1 1 _) (BM ?_);refine AC (jW hl (by rw[GR]; lia) ?_)
 refine AC (J6 ?_ (by rw[GR]; lia))
 have hsz:((s.heap.push (GP "list" #[] 0)).update s.heap.objs.size (GK (· ++ vs.toArray))).objs.size=s.heap.objs.size+1:=by
  rw[Ib,M3]
 have hoL:(((s.heap.push (GP "list" #[] 0)).update s.heap.objs.size (GK (· ++ vs.toArray))).push (GP "list" vs.toArray 0)).get? (s.heap.objs.size+1)=some (GP "list" vs.toArray 0):=by
  rw[<-hsz]; exact Db _ rfl
 have keep:∀b o,s.heap.get? b=some o->b≠s.heap.objs.size+1/\(((s.heap.push (GP "list" #[] 0)).update s.heap.objs.size (GK (· ++ vs.toArray))).push (GP "list" vs.toArray 0)).get? b=some o:=λb o q=>by
  have hlt:b<s.heap.objs.size:=Ch q;refine⟨E1 (Gx hlt),?_⟩;rw[Hy _ _ _ (by rw[hsz]; exact E1 (Gx hlt)),MF _ _ _ _ (E1 hlt),Hy _ _ _ (E1 hlt)]
  exact q
 show wpAny _ _ _ _ _ { s with heap:=((s.heap.push (GP "list" #[] 0)).update s.heap.objs.size (GK (· ++ vs.toArray))).push (GP "list" vs.toArray 0) }
 rw[hsz];refine AC (G6 (GF KQ ⟨_,hoL,rfl⟩ K6 ?body (KR _)))
 case body=>
  refine ir O hoL h64 (λh2 h' kp=>hk h2 _ ?_ h' λb o e=>kp b o (keep b o e).1 (keep b o e).2) λp a1 a2=>⟨_,rfl,BM ⟨_,rfl,h p a1 a2⟩⟩
  show A.units+1+1<=A.units+2;lia
end
section
variable{X:Cx}
theorem jl:bf X (.builtin "sorted") (λxs H Q=>∃p ys ks,xs=[.ref p]/\dR X.K H p ys/\Dc X.K H ys ks/\(∀t∈ks,t≠[])/\ys.length<64 /\
  ∀(zs:List (V×List Int))l,zs.Perm (ys.zip ks)->(zs.map (·.2)).Pairwise (λa b=>HT.lexLt b a=false)->H l=none->Q (.ref l) (upd H l (.lst (zs.map (·.1))))):=by
 intro pins s σ H xs us Q I r h;obtain⟨p,ys,ks,rfl,hq,ht,hne,h64,q⟩:=h;obtain⟨u,rfl,rx⟩:=vals1 r;cases rx;obtain⟨its,rv,pl,hz⟩:=I.tuple hq;have hl:=rv.length;have hk:ys.length=ks.length:=ID ht;refine qA (lexOrd ks) pl (by lia) (λh2 A' _ h' kp=>⟨tuples' true,λQ' hq' =>?_,λi j hi hj C hC=>?_⟩) λpm hpm hsr=>?_
 ·obtain⟨fs,h1,h2',h3⟩:=jV I kp ht rv hne
  refine kat_kind (s:={ s with heap:=h' }) (T:=.type "int") h1 (by lia) (λv hv=>?_) rfl hq'
  obtain⟨i,t,rfl⟩:=h3 v hv;exact Looks.now
 ·have hiy:i<ys.length:=by lia
  have hjy:j<ys.length:=by lia
  obtain⟨a,ea,qa⟩:=HL.getD (d:=V.non) (d':=[]) ht i hiy;obtain⟨b,eb,qb⟩:=HL.getD (d:=V.non) (d':=[]) ht j hjy;have ra:=HL.getD (d:=V.non) (d':=Fp) rv i hiy;have rb:=HL.getD (d:=V.non) (d':=Fp) rv j hjy;rw[ea] at ra;rw[eb] at rb;have ra:its.getD i Fp=.ref a:=ra;have rb:its.getD j Fp=.ref b:=rb;rw[ra,rb];obtain⟨ia,va,⟨oa,ha,_,na,da⟩,_⟩:=I.tuple qa;obtain⟨ib,vb,⟨ob,hb,_,nb,db⟩,_⟩:=I.tuple qb;refine kat_lt (s:={ s with heap:=h' }) (kp _ _ ha) da (kp _ _ hb) db ?_
  refine jU ia ib _ _ 0 va vb hC _ (λ_ _=>IM) ?_
  simp
 ·have hlen:its.length=ys.length:=hl.symm
  have hzl:(ys.zip ks).length=its.length:=by rw[Ks]; lia
  let zs:List (V×List Int):=pm.toList.map λi=>(ys.zip ks).getD i (V.non,[])
  have hzp:zs.Perm (ys.zip ks):=iu (β:=Nat) (by rw[hzl]; exact hpm)
  have e1:zs.map (·.1)=pm.toList.map λi=>ys.getD i V.non:=by
   show Iv _ (Iv _ _)=_;rw[Ee];exact Fo λi _=>by show ((ys.zip ks).getD i (V.non,[])).1=_; rw[ja i hk]
  have e2:zs.map (·.2)=pm.toList.map λi=>ks.getD i []:=by
   show Iv _ (Iv _ _)=_;rw[Ee];exact Fo λi _=>by show ((ys.zip ks).getD i (V.non,[])).2=_; rw[ja i hk]
  have hpw:(zs.map (·.2)).Pairwise (λa b=>HT.lexLt b a=false):=by
   rw[e2,Gv,GQ];intro i j hi hj hij;have sz:pm.toList.length=its.length:=by rw[FW]; exact hpm.size
   have z:=hsr i j (by lia) (by lia)
   have gi:gD pm i=pm.toList[i]:=by unfold gD; simp[JD,show i<pm.size by simpa using hi]
   have gj:gD pm j=pm.toList[j]:=by unfold gD; simp[JD,show j<pm.size by simpa using hj]
   rw[gi,gj] at z;exact z
  obtain⟨e,he⟩:=L8 s.heap its (ee its pm).toArray;have hv:Vals (zs.map (·.1)) (ee its pm):=by
   rw[e1];unfold ee;have hb:∀i∈pm.toList,i<ys.length:=λi hi=>by
    have h1:pm.toList.Perm (FD its.length):=HH.mp hpm;have:=h1.mem_iff.mp hi;have:i<its.length:=by simpa using this
    lia
   clear he hpw e1 e2 hzp hsr hpm
   generalize pm.toList=ix at hb
   clear zs
   induction ix with
   |nil=>exact .nil
   |cons i ix ih=>exact .cons (HL.getD (d:=V.non) (d':=Fp) rv i (hb i lS)) (ih λj hj=>hb j (lO _ hj))
  refine⟨.ref (s.heap.objs.size+1),_,I.laid (t':=s.toks) (a:=s.heap.objs.size+1) (o:=.lst (zs.map (·.1))) (λb u e=>Kk e) (GU _) ?_,rfl,q zs _ hzp hpw (I.hok.fresh (GU _))⟩
  refine⟨?_,ee its pm,e,hv,he⟩;rw[B2,hzp.length_eq,hzl,GR];lia
end
end L2
end
section
namespace VL
open PySem PySem.Spec L2 PyProof.Rows
section
variable{X:Cx}{pos:Pos}{pin:List Nat}
noncomputable def xS:List M->Option M
 |[.v (.tuple ds)]=>if ds.length<64 then (rR ds).bind λks=>if ks.all (λk=> !k.isEmpty)=true then some (.lst ((iz ks).map tI)) else none else none
 |_=>none
theorem xT:bf X (.builtin "sorted") (pN X.K xS):=by
 intro pins s σ H xs us Q I rs h;obtain⟨Z,ms,m,za,hr,e,q⟩:=h;unfold xS at e
 split at e
 ·split at e
  ·next h64=>
   obtain⟨ks,e3,e⟩:=oB e
   split at e
   ·next hne=>
    cases e;obtain⟨x,rfl,h1⟩:=ff hr;obtain⟨a,xs,rfl,hx,fx⟩:=h1.tup;rw[lA e3] at fx h64;have hl:xs.length=ks.length:=by rw[fx.length,B2]
    have ht:=fx.EA;refine jl pins s σ H _ us Q I rs ⟨a,xs,ks,rfl,hx,ht,λt h z=>?_,?_,λzs l p w hl' =>?_⟩
    ·have:=Hm.mp hne t h
     rw[z] at this;cases this
    ·rw[B2] at h64
     lia
    ·have e:zs.map (·.2)=iz ks:=iJ ((p.map (·.2)).trans (by rw[Ko (by lia)])) w
     have:=bu.rS (Z:=Z) ht zs λz h=>p.mem_iff.mp h
     rw[e] at this;exact rO q za hl' this
   ·cases e
  ·cases e
 ·cases e
noncomputable def nH(ms:List M):Option M:=match bW ms with
 |some m=>some m
 |none=>xS ms
theorem xU(hc:X.calm=true):bf X (.builtin "sorted") (pN X.K nH):=by
 intro pins s σ H xs us Q I rs h;obtain⟨Z,ms,m,za,hr,e,q⟩:=h;unfold nH at e
 split at e
 ·next m' em=>cases e; exact cD hc pins s σ H xs us Q I rs ⟨Z,ms,m,za,hr,em,q⟩
 ·exact xT pins s σ H xs us Q I rs ⟨Z,ms,m,za,hr,e,q⟩
noncomputable def jM(n:Nat)(js:List Nat)(i:Nat)(fg:FG)(ft:FT)(fe:FE):FE:=λρ=>match cJ ρ i with
 |some (.lst ds)=>if i∈js then none else (caps ρ js).bind λos=>(cG os ρ).bind λq=>
  (bJ fg ft fe ds (E7 n none++q.1.map some) []).bind λr=>(fin (E7 js.length true) q.1 (r.2.drop n)).bind λms'=>some (.t (.lst r.1),gI os ms' q.2)
 |_=>kc n js (bC (aa i)) fg ft fe ρ
structure ItAt(K:AT)(J:It)(H:Hp)(Z:Zs)(a:Addr)(xs:List V)(ds:List Ap):Prop where
 go:∀H2 Z2,aM H Z H2 Z2->H2 a=some (.lst xs)->∀k d,ds[k]? = some d->J.go k H2/\∀x H',J.yld k H2 x H'->bB H2 H'/\Fz K H' Z2 x d
 stop:∀H2 Z2,aM H Z H2 Z2->H2 a=some (.lst xs)->∀k,ds.length<=k->J.stop k H2
theorem it_at{K:AT}{H:Hp}{Z:Zs}{a:Addr}{xs:List V}{ds:List Ap}(r:bu K H Z xs ds):ItAt K (DF K a) H Z a xs ds:=by
 refine⟨λH2 Z2 g e k d hd=>?_,λH2 Z2 g e k hk=>⟨xs,gg.of e,by rw[r.length]; exact hk⟩⟩
 obtain⟨x,hx,fx⟩:=(r.mono g).get' hd;exact⟨⟨xs,x,gg.of e,hx⟩,λy H' ⟨hH,hy⟩=>by
  subst hH;have:=hy xs (gg.of e);rw[hx] at this;cases this;exact⟨bB.refl _,fx⟩⟩
theorem qB{ρ:Ev}:∀{js:List Nat}{os:List cU},caps ρ js=some os->∀j,cU.p j∈os->j∈js
 |[],_,e,j,h=>by cases e; cases h
 |k::js,_,e,j,h=>by
  obtain⟨o,e1,e⟩:=oB e;obtain⟨os,e2,e⟩:=oB e;cases e;rcases lK h with z | z
  ·subst z
   unfold cap at e1
   split at e1
   ·cases e1
   ·cases e1; exact lS
   ·cases e1
  ·exact lO _ (qB e2 j z)
theorem qC{ρ:Ev}:∀{js:List Nat}{os:List cU},caps ρ js=some os->∀j k,cU.q j k∉os
 |[],_,e,j,k,h=>by cases e; cases h
 |k'::js,_,e,j,k,h=>by
  obtain⟨o,e1,e⟩:=oB e;obtain⟨os,e2,e⟩:=oB e;cases e;rcases lK h with z | z
  ·subst z
   unfold cap at e1
   split at e1 <;> cases e1
  ·exact qC e2 j k z
theorem xV{ρ:Ev}{i j:Nat}(h:i≠j):cJ (ρ.set j none) i=cJ ρ i:=by
 unfold cJ;rw[Jy (HZ h)]
theorem sf{i:Nat}:∀{os:List cU}{ρ ρ':Ev}{ms:List M},(∀j,cU.p j∈os->i≠j)->(∀j k,cU.q j k∉os)->cG os ρ=some (ms,ρ')->cJ ρ' i=cJ ρ i:=by
 intro os
 induction os with
 |nil=>intro ρ ρ' ms _ _ e; cases e; rfl
 |cons o os ih=>
  intro ρ ρ' ms h hq e;have h':=λj hj=>h j (lO _ hj)
  have hq':=λj k hj=>hq j k (lO _ hj)
  cases o with
  |t m=>
   have e:(cG os ρ).bind _=_:=e;obtain⟨⟨ms,ρ1⟩,e1,e⟩:=oB e;cases e;exact ih h' hq' e1
  |p k=>
   obtain⟨m,e0,e⟩:=oB e;obtain⟨⟨ms,ρ1⟩,e1,e⟩:=oB e;cases e;rw[ih h' hq' e1,xV (h k lS)]
  |q j k=>exact absurd lS (hq j k)
theorem qD{i:Nat}{js:List Nat}{os:List cU}{ρ ρ':Ev}{ms:List M}(hi:i∉js)(h1:caps ρ js=some os)(h2:cG os ρ=some (ms,ρ')):cJ ρ' i=cJ ρ i :=
 sf (λj hj e=>hi (e▸qB h1 j hj)) (qC h1) h2
theorem xW{a0:Addr}{xs0:List V}{n:Nat}{pv:Pv}{fg:FG}{ft:FT}{fe:FE}{J:It}{ds:List Ap}{D:Addr}{τ:L2.St}{H1:Hp}{Z1:Zs}{A:List Addr}{ρ0:Ev}{r:List Ap×Ev}{Q:Hp->Prop}(hD:H1 D=none)(S:aS X.K H1 Z1 τ ρ0 A)(w:Wf H1 Z1 A)(P:Pin pv τ)(hJ:ItAt X.K J H1 Z1 a0 xs0 ds)(ha0:H1 a0=some (.lst xs0))(haA:a0∉A)(e:bJ fg ft fe ds ρ0 []=some r)
  (q:∀τ' H' Z' F' xs,aS X.K H' Z' τ' r.2 F'->Pin pv τ'->H' D=some (.lst xs)->bu X.K H' Z' xs r.1->aF H1 Z1 A H' Z' (F'++[D])->Q H'):sQ (vG X.K pv fg) (vT X.K ft) (eApp D (vE X.K fe)) J τ (upd H1 D (.lst [])) Q:=by
 have n0:=aF.uL (o:=.lst []) hD w.za;exact rZ (Q:=λ_=>Q) (S.news n0) P aT .nil (n0.news w S.al) (λH2 Z2 _ f=>hJ.go H2 Z2 (f.grow w) (f.keep a0 _ haA ha0)) (λH2 Z2 _ f=>hJ.stop H2 Z2 (f.grow w) (f.keep a0 _ haA ha0)) e q
theorem Ao{n:Nat}{js:List Nat}{i:Nat}{fg:FG}{ft:FT}{fe:FE}{σ:L2.St}{H:Hp}{Q:VK}{fr:List (Option Nat)}{Z:Zs}{ρ:Ev}{F:List Addr}{o:cU}{ρ':Ev}{ds:List Ap}(hfr:fr=E7 n none++js.map some)(S:aS X.K H Z σ ρ F)(w:Wf H Z F)(e0:cJ ρ i=some (.lst ds))(e:jM n js i fg ft fe ρ=some (o,ρ'))
  (q:∀x H' Z' F' G,aS X.K H' Z' σ ρ' F'->mH X.K H' Z' σ x o G->aF H Z F H' Z' (F'++G)->Q x H') :
  C8 fr (v7 X.K (fu i)) (λ_=>vG X.K (fU n js σ) fg) (λ_=>vT X.K ft) (λ_=>vE X.K fe) σ H Q:=by
 subst hfr;unfold jM at e;rw[e0] at e;dsimp only at e
 split at e
 ·cases e
 next hij=>
 obtain⟨os,e2,e⟩:=oB e;obtain⟨⟨ms,ρh⟩,e3,e⟩:=oB e;obtain⟨⟨acc,ρi⟩,e4,e⟩:=oB e;obtain⟨ms',e5,e⟩:=oB e;cases e;obtain⟨x,G,hx,hG,_⟩:=S.get (aE.mp e0);obtain⟨a,xsa,rfl,hxa,fzx⟩:=(show Ro X.K H Z x (.lst ds) from⟨G,hG⟩).lst
 refine⟨.ref a,hx,a,rfl,⟨xsa,gg.of hxa⟩,λD hD z=>?_⟩
 obtain⟨τ,A,Fh,eτ,S0,wA,P0,h2,n3,back⟩:=iN (n:=n) S (aF.refl w) e2 e3;rw[eτ];obtain⟨x',G',g1,g2,g3⟩:=h2.get (aE.mp ((qD hij e2 e3).trans e0));rw[hx] at g1;cases g1;have haA:a∉A:=λz=>by
  cases g2 with
  |lst _ _=>exact n3 a (g3 a lS) z
 refine xW (n:=n) hD S0 wA P0 (it_at fzx) hxa haA e4 λτ' H2 Z2 F2 ys S2 P2 d2 z2 f2=>?_
 obtain⟨F4,p1,f4⟩:=back _ _ _ _ _ _ _ S2 P2 f2 e5;exact q (.ref D) H2 Z2 F4 [D] p1 (.t (.lst d2 z2)) f4
theorem CQ{n:Nat}{js:List Nat}{i:Nat}{fg:FG}{ft:FT}{fe:FE}{σ:L2.St}{H:Hp}{Q:VK}{fr:List (Option Nat)}(hfr:fr=E7 n none++js.map some)(hq:vE X.K (jM n js i fg ft fe) σ H Q) :
  C8 fr (v7 X.K (fu i)) (λ_=>vG X.K (fU n js σ) fg) (λ_=>vT X.K ft) (λ_=>vE X.K fe) σ H Q\/C8 fr (vI X.K (bC (aa i))) (λ_=>vG X.K (fU n js σ) fg) (λ_=>vT X.K ft) (λ_=>vE X.K fe) σ H Q:=by
 obtain⟨Z,ρ,F,o,ρ',S,w,e,q⟩:=hq;cases e0:cJ ρ i with
 |none=>
  right;refine iO hfr ⟨Z,ρ,F,o,ρ',S,w,?_,q⟩;unfold jM at e;rw[e0] at e;exact e
 |some m=>
  cases m with
  |lst ds=>exact .inl (Ao hfr S w e0 e q)
  |v d=>
   right;refine iO hfr ⟨Z,ρ,F,o,ρ',S,w,?_,q⟩;unfold jM at e;rw[e0] at e;exact e
  |bP d=>
   right;refine iO hfr ⟨Z,ρ,F,o,ρ',S,w,?_,q⟩;unfold jM at e;rw[e0] at e;exact e
  |dtp d=>
   right;refine iO hfr ⟨Z,ρ,F,o,ρ',S,w,?_,q⟩;unfold jM at e;rw[e0] at e;exact e
  |gq d=>
   right;refine iO hfr ⟨Z,ρ,F,o,ρ',S,w,?_,q⟩;unfold jM at e;rw[e0] at e;exact e
theorem CS(i:Nat)(n:Nat)(js:List Nat){elt target:Expr}{ifs:List Expr}{scope:Scope}{N:List Str}{fr:List (Option Nat)}{pinI:List Nat}{fg:FG}{ft:FT}{fe:FE}{x:Str}{px:Pos}(hv:PE X (.Name x px) (fu i))(hfr:fr=E7 n none++js.map some)(hpin:pinI=(FD js.length).map (n + ·))(hc:X.calm=true)(S:aR X scope N fr)(hi:WI X target (.Name x px) (bC (aa i)))
  (hin:∀z:Bk,WG (aA X scope z.cl N z.C z.fp z.s z.H) pinI target fg/\WF (aA X scope z.cl N z.C z.fp z.s z.H) ifs ft/\WE (aA X scope z.cl N z.C z.fp z.s z.H) elt fe)
  (hs:∀y,FY (.Name x px) X.env y=pure y:=by intro _; rfl):WE X (.ListComp elt [⟨target,.Name x px,ifs,0⟩] scope pos) (jM n js i fg ft fe):=⟨λpins s σ H Q I hq=>by
 rcases CQ hfr hq with h | h
 ·exact wF (g:=λ_=>vG X.K (fU n js σ) fg) (tt:=λ_=>vT X.K ft) (te:=λ_=>vE X.K fe) hc S (sI hv) (λz=>⟨(hin z).1.h _ (jH n js σ hpin),(hin z).2.1.h,(hin z).2.2.h⟩) hs pins s σ H Q I h
 ·exact wF (g:=λ_=>vG X.K (fU n js σ) fg) (tt:=λ_=>vT X.K ft) (te:=λ_=>vE X.K fe) hc S hi.h (λz=>⟨(hin z).1.h _ (jH n js σ hpin),(hin z).2.1.h,(hin z).2.2.h⟩) hs pins s σ H Q I h⟩
end
end VL
end
section
namespace L2
open PySem PySem.Spec PyProof.Rows
end L2
end
section
namespace VL
open PySem PySem.Spec L2 PyProof.Rows
end VL
end
section
namespace L2
open PySem PySem.W PyProof.Rows PySem.Calls
end L2
end
section
namespace L2
open PySem PySem.Spec PySem.W PyProof.Rows
end L2
end
section
namespace VL
open PySem PySem.Spec L2 PyProof.Rows
end VL
end
section
namespace L2
open PySem PySem.Spec PyProof.Rows AutoSeq1
section
variable{prog:FB}{w:World}{A:Fa}{E:Value->B1->Prop}{s:B1}
theorem mL{Q:List Value->B1->Prop}{r:Addr}{a b c:Int}{t u v:Tok}{n:Nat}(hh:A.handled=none)(hr:Ma s.heap r a b c t u v)(hsmall:Jb a b c=true)(hn:I0 a b c=n)(hlen:n<=2 ^ 24)
  (hQ:∀h' tk acc,(∀b o,s.heap.get? b=some o->h'.get? b=some o)->L3 (λi v=>∃t,v=.int (a+i*c) t) acc n->Q acc.toList { s with heap:=h',toks:=tk }) :
  wpAny (model prog w) A (Ll (.ref r)) Q E s:=by
 unfold Ll;refine AC (Lr (GV Le ?_)); rw[GC Lc _];show wpAny _ A.in1 (MX [] >>= λl=>again (.builtin "list.__iadd__" ⟨[l,.ref r],[]⟩)) _ _ s; refine AC (FU ?_)
 refine BM ⟨HE Ir _,GV MA ?_⟩; rw[GC Ir _];show wpAny _ A.in1 (Ho (.ref s.heap.objs.size) (.ref r) (.ref s.heap.objs.size)) _ _ _;have hS:(s.heap.push { cls:=.type "list",data:=.seq ([]:List Value).toArray }).get? s.heap.objs.size=some { cls:=.type "list",data:=.seq #[] 0 }:=Db _ rfl;have hr1:Ma (s.heap.push { cls:=.type "list",data:=.seq ([]:List Value).toArray }) r a b c t u v:=At _ hr;refine Gz (wpAny_extend_range (A:=A) (s:={ s with heap:=s.heap.push { cls:=.type "list",data:=.seq ([]:List Value).toArray } }) (R:=λr' s'=>∃h' tk acc c',r'=.ok (.ret (.ref s.heap.objs.size))/\s'={ s with heap:=h',toks:=tk }/\(∀b o,s.heap.get? b=some o->h'.get? b=some o)/\h'.get? s.heap.objs.size=some { cls:=.type "list",dict:=none,data:=.seq acc c',slots:=#[] }/\L3 (λi v=>∃t,v=.int (a+i*c) t) acc n)
  hh hr1 hsmall hn hlen s.heap.objs.size (.ref s.heap.objs.size) 0 hS λh' tk acc c' hk hS' hacc=>⟨h',tk,acc,c',rfl,rfl,λb o e=>hk b o (E1 (Ch e)) (At _ e),hS',hacc⟩) (λfin s' h=>?_) (λe s' h=>?_)
 ·have fin':∀h' tk acc c',(∀b o,s.heap.get? b=some o->h'.get? b=some o)->h'.get? s.heap.objs.size=some { cls:=.type "list",dict:=none,data:=.seq acc c',slots:=#[] }->L3 (λi v=>∃t,v=.int (a+i*c) t) acc n->wpAny (model prog w) A (match Gn s.heap.objs.size with
    |Gn a=>do
     match (<-load a).data with
      |Data.seq xs _=>pure xs.toList
      |_=>KI "internal:collect"
    |_=>KI "internal:collect") Q E { s with heap:=h',toks:=tk }:=λh' tk acc c' hk hS' hacc=>by
   show wpAny _ A (load s.heap.objs.size >>= _) _ _ _;exact AC (Lu hS' (BM (hQ h' tk acc hk hacc)))
  cases fin with
  |done f=>
   obtain⟨h',tk,acc,c',e,rfl,h1,h2,h3⟩:=h;cases e;exact fin' h' tk acc c' h1 h2 h3
  |again c'=>exact⟨h.1,Kx h.2 λr s'' hr=>by obtain⟨h',tk,acc,c',rfl,rfl,h1,h2,h3⟩:=hr; exact fin' h' tk acc c' h1 h2 h3⟩
 ·obtain⟨_,_,_,_,e,_⟩:=h
  cases e
theorem kg(r:Addr)(a b c:Int)(t u v:Tok)(n:Nat)(hsmall:Jb a b c=true)(hn:I0 a b c=n)(hlen:n<=1000000) :
  Meets (Gg.«tuple.__new__» ⟨[.type "tuple",.ref r],[]⟩) (λA R s=>A.handled=none/\Ma s.heap r a b c t u v/\∀(h':Heap)tk acc,(∀b o,s.heap.get? b=some o->h'.get? b=some o)->L3 (λi v=>∃t,v=.int (a+i*c) t) acc n->R (.ok (.ret (.ref h'.objs.size))) { s with heap:=h'.push { cls:=.type "tuple",data:=.seq acc },toks:=tk }) :=
 .of_wp λprog w A R s h=>by
  obtain⟨hp,g,d,tk,os⟩:=s; obtain⟨hh,ht,h⟩:=h;have hsub:=sub_tuple_self; have hinit:=init_tuple_lookup; have hmh:=madeHere_tuple;have hT:LH ⟨hp,g,d,tk,os⟩ (.ref r) "range" := ⟨_,ht,rfl⟩
  wp_walk using Ie hT,mL (by simpa using hh) ht hsmall hn (GE hlen (by decide))
  intro h' tk' acc hk hacc;show wpAny _ _ (Gw acc.toList.toArray >>= λv=>ret v) _ _ _; unfold Gw
  refine AC (FU ?_ (by show acc.toList.toArray.size<=E6; rw[show acc.toList.toArray=acc by simp,hacc.1,GR]; lia)); refine BM ⟨_,rfl,?_⟩
  rw[show acc.toList.toArray=acc by simp]; exact h h' tk' acc hk hacc
theorem jN{Q:Value->B1->Prop}{r:Addr}{a b c:Int}{t u v:Tok}{n:Nat}(hh:A.handled=none)(hr:Ma s.heap r a b c t u v)(hsmall:Jb a b c=true)(hn:I0 a b c=n)(hlen:n<=1000000)
  (hQ:∀(h':Heap)tk acc,(∀b o,s.heap.get? b=some o->h'.get? b=some o)->L3 (λi v=>∃t,v=.int (a+i*c) t) acc n->Q (.ref h'.objs.size) { s with heap:=h'.push { cls:=.type "tuple",data:=.seq acc },toks:=tk }) :
  wpAny (model prog w) A (call (.type "tuple") [.ref r]) Q E s :=
 callType_new F.called_tuple (by decide) (F.typeCall_tuple_1 _) (F.newCall_tuple_1 _) (λobj=>F.args_object_init_2 obj _) F.entry_tuple_new (kg r a b c t u v n hsmall hn hlen)
  ⟨by simpa using hh,hr,λh' tk acc hk hacc=>⟨⟨_,Db _ rfl,rfl⟩,hQ h' tk acc hk hacc⟩⟩
end
section
variable{X:Cx}
noncomputable def EU(ta:TA):TE:=λσ H Q=>ta σ H λvs H1=>∃j:Nat,vs=[.int j]/\j<=1000000/\∀l,H1 l=none->Q (.ref l) (upd H1 l (.tup ((FD j).map λ(n:Nat)=>V.int (n:Int))))
theorem uS{a:Expr}{ta:TA}{p1 p2 pos pos2:Pos}(hc:X.calm=true)(hg:Gl X "tuple")(hm:X.mg "tuple" = none)(hg2:Gl X "range")(hm2:X.mg "range" = none)(ha:PA X [a] ta)(hs:E5 [a] X.env=[(false,eval a X.env)]:=by rfl)
  (hs3:E5 [.Call (.Name "range" p2) [a] [] pos2] X.env=[(false,eval (.Call (.Name "range" p2) [a] [] pos2) X.env)]:=by rfl) :
  PE X (.Call (.Name "tuple" p1) [.Call (.Name "range" p2) [a] [] pos2] [] pos) (EU ta):=by
 intro pins s σ H Q I h;refine HD (fP I hg hm PyProof.Rows.boot_tuple ?_);refine GB ?_ (by rw[hs3]; rfl) rfl
 rw[hs3];show wpAny _ _ (MW ((false,eval (.Call (.Name "range" p2) [a] [] pos2) X.env)::[])) _ _ s;refine JC ?_;refine HD (fP I hg2 hm2 LJ ?_);refine GB (bD (ha pos2 pins s σ H _ I h) λus s1 ⟨vs,H1,I1,r1,q1⟩=>?_) (by rw[hs]; rfl) rfl
 obtain⟨j,e,hj,q⟩:=q1;subst e;cases r1 with
 |cons r rr=>
  cases rr;obtain⟨t,rfl⟩:=r;refine call_range_1 (JP ?_);have k1:∀b o,s1.heap.get? b=some o->(s1.heap.push { cls:=.type "range",data:=.fields #[.int 0 s1.toks,.int j t,.int 1 (s1.toks+1)] }).get? b=some o:=λb o e=>At _ e
  generalize eg:s1.heap.push { cls:=.type "range",data:=.fields #[.int 0 s1.toks,.int j t,.int 1 (s1.toks+1)] }=g at k1;have gsz:g.objs.size=s1.heap.objs.size+1:=by rw[<-eg]; exact GN ..
  have hr:Ma g s1.heap.objs.size 0 j 1 s1.toks t (s1.toks+1):=by rw[<-eg]; exact N9 ..
  refine jN (s:={ s1 with heap:=g,toks:=s1.toks+1+1 }) (n:=j) (I1.ok.hd hc) hr (small_one (by lia) (by lia) (by lia) (by lia)) (by rw[rangeSize_one]; split <;> lia) hj λh' tk acc hk hacc=>?_
  have hle:s1.heap.objs.size<=h'.objs.size:=HX (Ch (hk _ _ hr));refine⟨.ref h'.objs.size,_,I1.laid (a:=h'.objs.size) (o:=.tup ((FD j).map λ(n:Nat)=>V.int (n:Int))) (t':=tk) (λb o e=>At _ (hk b o (k1 b o e))) hle ?_,rfl,q _ (I1.hok.fresh hle)⟩
  have hv:Vals ((FD j).map λ(n:Nat)=>V.int (n:Int)) acc.toList:=by
   have hl:acc.toList.length=j:=by rw[FW]; exact hacc.1
   refine iK (by rw[B2,Fj,hl]) λn x y hx hy=>?_
   rw[Fs] at hx;have hn:n<j:=by
    by_cases hn:n<j
    ·exact hn
    ·rw[HN (by simpa using hn)] at hx; cases hx
   rw[J4 hn] at hx;cases hx;obtain⟨t',e⟩:=hacc.2 n y (by simpa using hy)
   exact⟨t',by rw[e]; simp⟩
  exact⟨by rw[B2,Fj]; exact GE hj (by decide),acc.toList,hv,⟨_,Db _ rfl,rfl,0,by simp⟩⟩
end
end L2
end
section
namespace VL
open PySem PySem.Spec L2 PyProof.Rows
section
variable{X:Cx}{pos:Pos}
noncomputable def Dt:List M->Option M
 |[.v (.int j)]=>if 0<=j/\j<=1000000 then some (.v (.tuple (upto j.toNat))) else none
 |_=>none
def EV:List V->Hp->VK->Prop:=λvs H1 Q=>∃j:Nat,vs=[.int j]/\j<=1000000/\∀l,H1 l=none->Q (.ref l) (upd H1 l (.tup ((FD j).map λ(n:Nat)=>V.int (n:Int))))
theorem rTR_v{K:AT}:DH K EV Dt:=λH Z xs ms m Q za hr e q=>by
 unfold Dt at e
 split at e
 ·rename_i j
  split at e
  ·next hj=>
   cases e;obtain⟨x,rfl,h1⟩:=ff hr;obtain rfl:=h1.int;exact⟨j.toNat,by rw[Int.toNat_of_nonneg hj.1],by lia,λl hl=>endT q za hl (xN _)⟩
  ·cases e
 ·cases e
theorem uT{a:Expr}{fa:FA}{p1 p2 pos2:Pos}(hc:X.calm=true)(hg:Gl X "tuple")(hm:X.mg "tuple" = none)(hg2:Gl X "range")(hm2:X.mg "range" = none)(ha:WA X [a] fa)(hs:E5 [a] X.env=[(false,eval a X.env)]:=by rfl)
  (hs3:E5 [.Call (.Name "range" p2) [a] [] pos2] X.env=[(false,eval (.Call (.Name "range" p2) [a] [] pos2) X.env)]:=by rfl) :
  WE X (.Call (.Name "tuple" p1) [.Call (.Name "range" p2) [a] [] pos2] [] pos) (bQ Dt fa):=⟨bM (uS hc hg hm hg2 hm2 ha.h hs hs3) λ_ _ _ hq=>many rTR_v hq⟩
end
end VL
end
section
namespace ST
open PySem PySem.SetTable
end ST
end
section
namespace ST
open PySem PySem.SetTable PySem.Spec PySem.W
namespace F
end F
end ST
end
section
namespace ST
open PySem PySem.SetTable PySem.Spec
end ST
end
section
namespace L2
open PySem PySem.W PyProof.Rows PySem.Calls TS
end L2
end
section
namespace L2
open PySem PySem.Spec PyProof.Rows PySem.W
section
variable{α:Type}
structure TotO(lt:α->α->Bool):Prop where
 asym:∀a b,lt a b=true->lt b a=false
 trans:∀a b c,lt a b=true->lt b c=true->lt a c=true
 tot:∀a b,lt a b=false->lt b a=false->a=b
end
theorem nI:∀(a b:List Int),HT.lexLt a b=false->HT.lexLt b a=false->a=b
 |[],[],_,_=>rfl
 |[],_::_,h,_=>by cases h
 |_::_,[],_,h=>by cases h
 |x::xs,y::ys,h,h'=>by
  rw[HT.aV] at h h'
  by_cases e:x=y
  ·subst e
   rw[if_pos rfl] at h h';rw[nI xs ys h h']
  ·rw[if_neg e] at h
   rw[if_neg (HZ e)] at h';have h:=of_decide_eq_false h;have h':=of_decide_eq_false h';lia
theorem totL:TotO HT.lexLt where
 asym:=cN
 trans:=λa b c h h'=>by
  cases q:HT.lexLt a c with
  |true=>rfl
  |false=>
   have h3:=cT b c a (cN _ _ h') q;rw[h] at h3; cases h3
 tot:=nI
end L2
end
section
namespace VL
open PySem PySem.Spec L2 PyProof.Rows
end VL
end
section
namespace L2
open PySem PySem.Spec PyProof.Rows
theorem pairG{α β:Type}{R:α->β->Prop}:∀{xs:List α}{ys:List β},HL R xs ys->∀{i:Nat}{x:α},xs[i]? = some x->∃y,ys[i]? = some y/\R x y:=by
 intro xs ys h
 induction h with
 |nil=>intro i x h; simp at h
 |cons r rr ih=>
  intro i x h;cases i with
  |zero=>simp at h; subst h; exact⟨_,rfl,r⟩
  |succ i=>
   simp only[List.getElem?_cons_succ] at h ⊢;exact ih h
end L2
end
section
namespace VL
open PySem PySem.Spec L2 PyProof.Rows
end VL
end
section
namespace L2
open PySem PySem.Spec PyProof.Rows
section
variable{X:Cx}
noncomputable def EW(te:TE):TE:=λσ H Q=>te σ H λy H1=>∃a kvs,y=.ref a/\H1 a=some (.dK kvs)/\∀l,H1 l=none->Q (.ref l) (upd H1 l (.lst (kvs.map (·.2))))
theorem xX{o:Expr}{te:TE}{p1 ap cp pos:Pos}(hc:X.calm=true)(hg:Gl X "list")(hm:X.mg "list" = none)(ho:PE X o te)
  (hbase:MC o "values" X.env (eval o X.env)=eval o X.env:=by rfl) (hline:(ap.endLine == cp.line)=true:=by rfl)
  (hs:E5 [.Call (.Attribute o "values" ap) [] [] cp] X.env=[(false,eval (.Call (.Attribute o "values" ap) [] [] cp) X.env)]:=by rfl) :
  PE X (.Call (.Name "list" p1) [.Call (.Attribute o "values" ap) [] [] cp] [] pos) (EW te):=by
 intro pins s σ H Q I h;refine HD (fP I hg hm PyProof.Rows.boot_list ?_);refine GB ?_ (by rw[hs]; rfl) rfl
 rw[hs];show wpAny _ _ (MW ((false,eval (.Call (.Attribute o "values" ap) [] [] cp) X.env)::[])) _ _ s;refine JC ?_;refine wpAny_Call_method0_late hbase hline (bD (ho pins s σ H _ I h) λu s1 ⟨x,H1,I1,r1,a,kvs,ex,ea,q⟩=>?_)
 subst ex;obtain rfl:u=Gn a:=r1;obtain⟨hz,hS,vs,kv,d⟩:kvs.length<=E6/\(a == HQ)=false/\∃vs,KV kvs vs/\s1.heap.DictOf (aI X.prog X.w) a vs:=I1.hok a _ ea;refine⟨"dict", "dict.values",PySem.F.plainAttrs_dict,L5,PySem.F.type_dict_values,d.typeIs,(BO I1 (.inl ⟨kvs,.inl ea⟩)).2.1,?_⟩;refine Lk rfl (PySem.evalArgs_none (call_meetsIn L5 d.typeIs PySem.F.entry_dict_values (PySem.F.args_dict_values_1 _) (meets_dict_values (aI X.prog X.w) a hS) ⟨⟨vs,d⟩,?_⟩));refine JP ?_;have k1:∀b o,s1.heap.get? b=some o->(s1.heap.push { cls:=.type "dict_values",data:=.fields #[.ref a] }).get? b=some o:=λb o e=>At _ e
 have hv:(s1.heap.push { cls:=.type "dict_values",data:=.fields #[.ref a] }).IsValuesView s1.heap.objs.size a:=⟨_,Db _ rfl,rfl,rfl⟩;generalize eg:s1.heap.push { cls:=.type "dict_values",data:=.fields #[.ref a] }=g at k1 hv;have gsz:g.objs.size=s1.heap.objs.size+1:=by rw[<-eg]; exact GN ..
 obtain⟨ob,es,ep,h1,h2,h3,h4⟩:=d;have hd:g.DictAt (aI X.prog X.w) a vs ep:=⟨ob,es,k1 _ _ h1,h2,h3,h4⟩;have hl:kvs.length=vs.length:=ID kv;refine PySem.W.kdl_call (s:={ s1 with heap:=g }) (PySem.W.kdl_values (r:=s1.heap.objs.size) (kvs:=vs) (ep:=ep)) (I1.ok.hd hc) ⟨hv,hd⟩ (hl▸hz) λh' tk acc c' hk hS' hacc=>?_
 have gle:s1.heap.objs.size<=g.objs.size:=by rw[gsz]; exact GU _
 refine⟨.ref g.objs.size,_,I1.laid (a:=g.objs.size) (o:=.lst (kvs.map (·.2))) (t':=tk) (λb o e=>hk b o (k1 b o e)) gle ?_,rfl,q _ (I1.hok.fresh gle)⟩
 have hvals:Vals (kvs.map (·.2)) acc.toList:=by
  have hl2:acc.toList.length=vs.length:=by rw[FW]; exact hacc.1
  refine iK (by rw[B2,hl,hl2]) λn x y hx hy=>?_
  rw[Fs] at hx;obtain⟨p,hp,rfl⟩:=Go.mp hx;obtain⟨k',hk'⟩:=hacc.2 n y (by simpa using hy)
  obtain⟨p',hp',e1,e2⟩:=pairG kv hp;rw[hk'] at hp';cases hp';exact e2
 exact⟨by rw[B2]; exact hz,acc.toList,c',hvals,by simpa using hS'⟩
end
end L2
end
section
namespace VL
open PySem PySem.Spec L2 PyProof.Rows
noncomputable def DO:M->Option M
 |.bP kvs=>some (.lst (kvs.map (·.2)))
 |_=>none
noncomputable def DC(fe:FE):FE:=λρ=>(fe ρ).bind λp=>(peek p.2 p.1).bind λm=>(DO m).bind λr=>some (.t r,p.2)
theorem xY{K:AT}{H:Hp}{Z:Zs}:∀{kxs:List (Key×V)}{kvs:List (Key×Ap)},gp K H Z kxs kvs->bu K H Z (kxs.map (·.2)) (kvs.map (·.2)):=by
 intro kxs
 induction kxs with
 |nil=>intro kvs h; cases h; exact .nil
 |cons p kxs ih=>intro kvs h; cases h with | cons h r=>exact .cons h (ih r)
section
variable{X:Cx}{pos:Pos}
theorem xZ{o:Expr}{fe:FE}{p1 ap cp:Pos}(hc:X.calm=true)(hg:Gl X "list")(hm:X.mg "list" = none)(ho:WE X o fe)
  (hbase:MC o "values" X.env (eval o X.env)=eval o X.env:=by rfl) (hline:(ap.endLine == cp.line)=true:=by rfl)
  (hs:E5 [.Call (.Attribute o "values" ap) [] [] cp] X.env=[(false,eval (.Call (.Attribute o "values" ap) [] [] cp) X.env)]:=by rfl) :
  WE X (.Call (.Name "list" p1) [.Call (.Attribute o "values" ap) [] [] cp] [] pos) (DC fe):=⟨bM (xX hc hg hm ho.h hbase hline hs) λσ H Q hq=>by
 obtain⟨Z,ρ,F,o,ρ',S,w,e,q⟩:=hq;obtain⟨⟨o1,ρ1⟩,e1,e⟩:=oB e;obtain⟨m,e2,e⟩:=oB e;obtain⟨r,e3,e⟩:=oB e;cases e;refine⟨Z,ρ,F,o1,ρ1,S,w,e1,λx H1 Z1 F1 G1 S1 O1 f1=>?_⟩
 cases m with
 |bP kvs=>
  cases e3;obtain⟨a,kxs,rfl,he,fk⟩:=(O1.peek S1 e2).bP;exact⟨a,kxs,rfl,he,λl hl=>rO (λz H3 Z3 G h3 n=>q z H3 Z3 F1 G (S1.news n) (.t h3) (f1.left.trans (n.news f1.left.wf S1.al))) f1.za hl (xY fk)⟩
 |_=>cases e3⟩
end
@[simp] theorem ya{fe:FE}{ρ:Ev}:DC fe ρ=(fe ρ).bind λp=>(peek p.2 p.1).bind λm=>(DO m).bind λr=>some (.t r,p.2):=rfl
end VL
end
section
namespace L2
open PySem PySem.Spec PyProof.Rows PySem.W
end L2
end
section
namespace VL
open PySem PySem.Spec L2 PyProof.Rows
end VL
end
section
namespace L2
open PySem PySem.Spec PyProof.Rows
def LtAt(A:Fa)(s:B1)(y x:Value)(b:Bool):Prop:=∀(prog:FB)(w:World)(E:Value->B1->Prop)(Q:Value->B1->Prop),Q (.bool b) s->wpAny (model prog w) A (KJ .Lt y x) Q E s
def lF(A:Fa)(s:B1):List Value->List Value->Bool->Prop
 |[],[],r=>r=false
 |[],_::_,r=>r=true
 |_::_,[],r=>r=false
 |x::xs,y::ys,r=>∃e,L1 A s x y e/\(if e=true then lF A s xs ys r else LtAt A s x y r)
section
open PySem.SeqAt
open PySem.AutoSeq1 (wpAny_loadPart')
open PySem.MeetsSeq PySem.MeetsSeq2 PySem.MeetsSeq3
theorem uU(l b:Addr)(items items2:Array Value)(n n2:Nat)(dd dd2:Option Addr)(sl sl2:Array (Option Value)) :
  Meets (Gg.«tuple.__lt__» ⟨[.ref l,.ref b],[]⟩)
   (λA R s=>s.heap.get? l=some { cls:=.type "tuple",dict:=dd,data:=.seq items n,slots:=sl }/\s.heap.get? b=some { cls:=.type "tuple",dict:=dd2,data:=.seq items2 n2,slots:=sl2 } /\
    ∃r,lF A.in1 s items.toList items2.toList r/\R (.ok (.ret (.bool r))) s) :=
 .of_wp λprog w A R s h=>by
  obtain⟨hp,g,d,tk,os⟩:=s; obtain⟨hl,hb,r,hx,h⟩:=h;have f2:=JF
  wp_walk using FR hl,FR hb,LP _ (λrest b s'=>b.1=none/\s'=⟨hp,g,d,tk,os⟩/\∃ (vs ws:List Value),rest=vs.zip ws /\
   lF A.in1 ⟨hp,g,d,tk,os⟩ vs ws r/\vs.length+items2.size=ws.length+items.size) _
  case turn=>
   rintro⟨y,x⟩ rest b s' ⟨hb',rfl,vs,ws,hz,hlx,hlen⟩;cases vs with
   |nil=>rw[IW] at hz; cases hz
   |cons a vs=>
    cases ws with
    |nil=>rw[IN] at hz; cases hz
    |cons c ws=>
     rw[Gc] at hz
     injection hz with hyx hrest
     injection hyx with hy hx
     subst hy hx;simp only[D1] at hlen;obtain⟨e,he,hlx⟩:=hlx;refine AC (he prog w _ _ ?_);cases e with
     |true=>
      rw[if_pos rfl] at hlx
      wp_walk
      exact⟨rfl,rfl,_,_,hrest,hlx,by lia⟩
     |false=>
      rw[if_neg GI] at hlx;have hri:=λE Q=>hlx prog w E Q
      wp_walk using hri
      exact⟨_,rfl,by simpa using h⟩
  case fin=>
   rintro⟨b1,b2⟩ s' ⟨hb',rfl,vs,ws,hz,hlx,hlen⟩;simp only at hb';subst hb';have hv:r=decide (items.size<items2.size):=by
    cases vs with
    |nil=>
     cases ws with
     |nil=>
      simp only[FC] at hlen;rw[show r=false from hlx]
      exact(decide_eq_false (by lia)).symm
     |cons c ws=>
      simp only[FC,D1] at hlen;rw[show r=true from hlx]
      exact(decide_eq_true (by lia)).symm
    |cons a vs=>
     cases ws with
     |nil=>
      simp only[FC,D1] at hlen;rw[show r=false from hlx]
      exact(decide_eq_false (by lia)).symm
     |cons c ws=>
      rw[Gc] at hz;cases hz
   rw[hv] at h
   wp_walk
   exact⟨_,rfl,by simpa[II] using h⟩
  case h=>
   exact⟨rfl,rfl,items.toList,items2.toList,rfl,hx,by simp; lia⟩
theorem yb(l b:Addr)(items items2:Array Value)(n n2:Nat)(dd dd2:Option Addr)(sl sl2:Array (Option Value))(k:Nat) :
  ∀i:Nat,items.size-i=k->i<=items.size->i<=items2.size->Meets (Gg.«list.__eq__.loop» ⟨[.ref l,.ref b,Jq i,Jq 0],[]⟩)
   (λA R s=>s.heap.get? l=some { cls:=.type "list",dict:=dd,data:=.seq items n,slots:=sl }/\s.heap.get? b=some { cls:=.type "list",dict:=dd2,data:=.seq items2 n2,slots:=sl2 } /\
    ∃r,lF A.in1 s (items.toList.drop i) (items2.toList.drop i) r/\R (.ok (.ret (.bool r))) s):=by
 induction k with
 |zero=>
  intro i hk hi hi' prog w A R s h;obtain⟨hp,g,d,tk,os⟩:=s; obtain⟨hl,hb,r,hx,h⟩:=h
  wp_walk using FR hl,FR hb
  have hi1:items[((i:Nat):Int).toNat]? = none:=by simp; lia
  have hd:items.toList.drop i=[]:=by simp; lia
  rw[hd] at hx;rw[hi1];have hv:r=decide (items.size<items2.size):=by
   cases hd2:items2.toList.drop i with
   |nil=>
    rw[hd2] at hx;have:items2.size<=i:=by simpa using hd2
    rw[show r=false from hx]
    exact(decide_eq_false (by lia)).symm
   |cons c ws=>
    rw[hd2] at hx;have hln:0<(items2.toList.drop i).length:=by rw[hd2]; exact Nat.succ_pos _
    rw[FP,FW] at hln;rw[show r=true from hx]
    exact(decide_eq_true (by lia)).symm
  wp_walk using FR hl,FR hb
  show R (.ok (.ret (.bool (decide (items.size<items2.size))))) _;rw[<-hv];exact h
 |succ k ih=>
  intro i hk hi hi' prog w A R s h;obtain⟨hp,g,d,tk,os⟩:=s; obtain⟨hl,hb,r,hx,h⟩:=h
  wp_walk using FR hl,FR hb
  have hlt:i<items.size:=by lia
  have hi1:items[((i:Nat):Int).toNat]? = some items[i]:=by simp[hlt]
  have hd1:items.toList.drop i=items[i]::items.toList.drop (i+1):=by rw[Fv (by simpa using hlt)]; simp
  have hc:((i:Int)+1)=((i+1:Nat):Int):=by push_cast; rfl
  rw[hd1] at hx
  by_cases hlt2:i<items2.size
  ·have hi2:items2[((i:Nat):Int).toNat]? = some items2[i]:=by simp[hlt2]
   have hd2:items2.toList.drop i=items2[i]::items2.toList.drop (i+1):=by rw[Fv (by simpa using hlt2)]; simp
   rw[hd2] at hx;rw[hi1,hi2];obtain⟨e,he,hx⟩:=hx;refine AC (he prog w _ _ ?_);cases e with
   |true=>
    rw[if_pos rfl] at hx
    wp_walk
    rw[hc];exact⟨HE Kj _,GV entry_eq_loop (by
     rw[GC Kj _];exact ih (i+1) (by lia) (by lia) (by lia) prog w A R _ ⟨hl,hb,r,hx,h⟩)⟩
   |false=>
    rw[if_neg GI] at hx
    wp_walk using FR hl,FR hb
    rw[hi1,hi2];have hri:=λE Q=>hx prog w E Q
    wp_walk using hri
    exact h
  ·have hi2:items2[((i:Nat):Int).toNat]? = none:=by simp; lia
   have hd2:items2.toList.drop i=[]:=by simp; lia
   rw[hd2] at hx;rw[hi1,hi2];have hv:r=decide (items.size<items2.size):=by
    rw[show r=false from hx]
    exact(decide_eq_false (by lia)).symm
   wp_walk using FR hl,FR hb
   show R (.ok (.ret (.bool (decide (items.size<items2.size))))) _;rw[<-hv];exact h
theorem yc(l b:Addr)(items items2:Array Value)(n n2:Nat)(dd dd2:Option Addr)(sl sl2:Array (Option Value)) :
  Meets (Gg.«list.__lt__» ⟨[.ref l,.ref b],[]⟩)
   (λA R s=>s.heap.get? l=some { cls:=.type "list",dict:=dd,data:=.seq items n,slots:=sl }/\s.heap.get? b=some { cls:=.type "list",dict:=dd2,data:=.seq items2 n2,slots:=sl2 } /\
    ∃r,lF A.in1 s items.toList items2.toList r/\R (.ok (.ret (.bool r))) s):=by
 intro prog w A R s h;obtain⟨hp,g,d,tk,os⟩:=s; obtain⟨hl,hb,r,hx,h⟩:=h;have f3:=AutoSeq1.sub_list_list
 wp_walk using FR hl,FR hb
 exact⟨HE Kj _,GV entry_eq_loop (by
  rw[GC Kj _];exact yb l b items items2 n n2 dd dd2 sl sl2 _ 0 rfl (FV _) (FV _) prog w A R _ ⟨hl,hb,r,by simpa using hx,h⟩)⟩
end
noncomputable def jO(lt:Ap->Ap->Option Bool):List Ap->List Ap->Option Bool
 |[],[]=>some false
 |[],_::_=>some true
 |_::_,[]=>some false
 |x::xs,y::ys=>if FM x y=true then jO lt xs ys else lt x y
noncomputable def ltN:Nat->Ap->Ap->Option Bool
 |_,.int a,.int b=>some (decide (a<b))
 |n+1,.tuple xs,.tuple ys=>jO (ltN n) xs ys
 |n+1,.list xs,.list ys=>jO (ltN n) xs ys
 |_,_,_=>none
theorem jY{lt:Ap->Ap->Option Bool}{A:Fa}{s:B1}(hlt:∀d e b y v as bs,lt d e=some b->Reads s.heap y d as->Reads s.heap v e bs->d.canLay0=true->e.canLay0=true->d.depth<=50->LtAt A s y v b)(hu:A.units+50<cLine) :
  ∀{xs ys:List Ap}{vs ws:List Value}{as bs:List Addr}{r:Bool},jO lt xs ys=some r->IV s.heap vs xs as->IV s.heap ws ys bs->EQ xs=true->EQ ys=true->(∀x∈xs,x.depth<=50)->lF A s vs ws r
 |[],[],_,_,_,_,r,e,.nil,.nil,_,_,_=>by cases e; rfl
 |[],_::_,_,_,_,_,r,e,.nil,.cons _ _,_,_,_=>by cases e; rfl
 |_::_,[],_,_,_,_,r,e,.cons _ _,.nil,_,_,_=>by cases e; rfl
 |x::xs,y::ys,_,_,_,_,r,e,.cons r1 q1,.cons r2 q2,c1,c2,hd=>by
  unfold EQ at c1 c2;rw[Fk] at c1 c2;have hx:=hd x lS;refine⟨FM x y,MZ x y A s _ _ _ _ r1 r2 c1.1 c2.1 (by have:=ND x.depth y.depth; lia),?_⟩
  rw[show jO lt (x::xs) (y::ys)=if FM x y=true then jO lt xs ys else lt x y from rfl] at e
  by_cases q:FM x y=true
  ·rw[if_pos q] at e
   rw[if_pos q];exact jY hlt hu e q1 q2 c1.2 c2.2 λz hz=>hd z (lO _ hz)
  ·rw[if_neg q] at e
   rw[if_neg q];exact hlt _ _ _ _ _ _ _ e r1 r2 c1.1 c2.1 hx
theorem nJ:∀{xs:List Ap}{x:Ap},x∈xs->x.depth<=GZ xs
 |y::ys,x,h=>by
  unfold GZ;rcases lK h with rfl | h
  ·exact Nat.le_max_left _ _
  ·exact GE (nJ h) (Nat.le_max_right _ _)
theorem yd{s:B1}:∀(n:Nat)(A:Fa)(d e:Ap)(b:Bool)(y v:Value)(as bs:List Addr),A.units+n+50<cLine->ltN n d e=some b->Reads s.heap y d as->Reads s.heap v e bs->d.canLay0=true->e.canLay0=true->d.depth<=50->LtAt A s y v b:=by
 intro n
 induction n with
 |zero=>
  intro A d e b y v as bs hu h ra rb ca cb hd;unfold ltN at h
  split at h
  ·cases h
   cases ra; cases rb;exact λprog w E Q q=>HT.kJ A s _ _ _ _ prog w E Q q
  ·rename_i n' xs ys z; cases z
  ·rename_i n' xs ys z; cases z
  ·cases h
 |succ n ih=>
  intro A d e b y v as bs hu h ra rb ca cb hd;have lex:∀{xs ys:List Ap}{vs ws:List Value}{as bs:List Addr},jO (ltN n) xs ys=some b->IV s.heap vs xs as->IV s.heap ws ys bs->EQ xs=true->EQ ys=true->GZ xs<=50->lF A.in1 s vs ws b:=λh r1 r2 k1 k2 hd=>
   jY (lt:=ltN n) (A:=A.in1) (s:=s) (λd e b y v as bs h ra rb ca cb hd=>ih A.in1 d e b y v as bs (by show A.units+1+n+50<_; lia) h ra rb ca cb hd) (by show A.units+1+50<_; lia) h r1 r2 k1 k2 λx hx=>GE (nJ hx) hd
  unfold ltN at h
  split at h
  ·cases h
   cases ra; cases rb;exact λprog w E Q q=>HT.kJ A s _ _ _ _ prog w E Q q
  ·rename_i n' xs ys z
   cases z;cases ra with
   |@tuple a1 o1 _ _ _ _ g1 c1 d1 r1=>
    cases rb with
    |@tuple a2 o2 _ _ _ _ g2 c2 d2 r2=>
     have hx:=lex h r1 r2 (by unfold Fw at ca; exact ca) (by unfold Fw at cb; exact cb) (by unfold GL at hd; lia)
     obtain⟨cls1,dd1,dat1,sl1⟩:=o1;obtain⟨cls2,dd2,dat2,sl2⟩:=o2;simp only at c1 d1 c2 d2;subst c1 d1 c2 d2;exact λprog w E Q q=>Ih (op:=.Lt) ⟨_,g1,rfl⟩ ⟨_,g2,rfl⟩ Lb LW (LI _ _) (uU a1 a2 _ _ _ _ _ _ _ _) ⟨g1,g2,b,hx,show Jg b≠Ik/\Q (.bool b) s from⟨(λx=>nomatch x),q⟩⟩ (by lia)
  ·rename_i n' xs ys z
   cases z;cases ra with
   |@list a1 o1 _ _ _ _ g1 c1 d1 r1=>
    cases rb with
    |@list a2 o2 _ _ _ _ g2 c2 d2 r2=>
     have hx:=lex h r1 r2 (by unfold Fw at ca; exact ca) (by unfold Fw at cb; exact cb) (by unfold GL at hd; lia)
     obtain⟨cls1,dd1,dat1,sl1⟩:=o1;obtain⟨cls2,dd2,dat2,sl2⟩:=o2;simp only at c1 d1 c2 d2;subst c1 d1 c2 d2;exact λprog w E Q q=>Ih (op:=.Lt) ⟨_,g1,rfl⟩ ⟨_,g2,rfl⟩ PySem.F.slot_list_lt PySem.F.entry_list_lt (PySem.F.args_list_lt_2 _ _) (yc a1 a2 _ _ _ _ _ _ _ _) ⟨g1,g2,b,hx,show Jg b≠Ik/\Q (.bool b) s from⟨(λx=>nomatch x),q⟩⟩ (by lia)
  ·cases h
end L2
end
section
namespace L2
open PySem PySem.Spec PyProof.Rows VL
section
variable{prog:FB}{w:World}{A:Fa}{R:LU->B1->Prop}{I S:Addr}{fp wr:List Addr}{n:Nat}{P:Nat->Value->Prop}{St:Nat->Heap->Prop}{bt:Nat->Nat->Bool}{h0:Heap}
abbrev mO(h0 h:Heap):Prop:=∀b o,h0.get? b=some o->h.get? b=some o
def uV(prog:FB)(w:World)(A:Fa)(h0:Heap)(P:Nat->Value->Prop)(bt:Nat->Nat->Bool):Prop :=
 ∀i j vi vj(s:B1)(Q:Value->B1->Prop)(E:Value->B1->Prop),mO h0 s.heap->P i vi->P j vj->Q (.bool (bt i j)) s->wpAny (model prog w) A (KJ .Lt vi vj) Q E s
theorem lG:(toString "min" ++ toString ".loop" : String) = "min.loop" := by decide
theorem loopH(W:Walks prog w A.in1 I fp wr n P St)(hcmp:uV prog w A.in1 h0 P bt)(hSf:S∉fp)(hw:∀b∈wr,h0.get? b=none)(hS0:h0.get? S=none) :
  ∀(k j:Nat)(s:B1)(vb:Value)(c:Nat),n=j+1+k->mO h0 s.heap->St (j+1) s.heap->P (Gq bt j) vb->xM s.heap S #[vb,vb] c ->
   (∀v h' tk,P (Gq bt (n-1)) v->tV wr S s.heap h'->R (.ok (.ret v)) { s with heap:=h',toks:=tk })->Hu (model prog w) A (.builtin "min.loop" ⟨[.ref I,.none,.ref S],[]⟩) R s:=by
 have hSw:S∉wr:=λh=>hSf (W.sub _ h)
 have nw:∀b o,h0.get? b=some o->b∉wr:=λb o e hb=>by rw[hw b hb] at e; cases e
 have nS:∀b o,h0.get? b=some o->b≠S:=λb o e hb=>by rw[hb,hS0] at e; cases e
 intro k
 induction k with
 |zero=>
  intro j s vb c hn x0 st hb hS hR;refine GV L6 (by
   rw[GC HM _];show wpAny _ A.in1 (JT (.ref S) >>= _) _ _ s;refine AC (GJ hS rfl (AC (JW (W.done s _ _ (by rw[hn]; exact st) λh' tk kp=>?_))))
   have hS':xM h' S #[vb,vb] c:=kp S _ hSw hS;show wpAny _ A.in1 (updateSeq S (λ_=> #[]) >>= _) _ _ _
   exact AC (Lh hS' rfl (AC (JA (BM (hR vb _ tk (by rw[hn]; exact hb) λb o h1 h2 e=>by
    rw[GD _ _ (HZ h2)];exact kp b o h1 e))))))
 |succ k ih=>
  intro j s vb c hn x0 st hb hS hR;refine GV L6 (by
   rw[GC HM _];show wpAny _ A.in1 (JT (.ref S) >>= _) _ _ s;refine AC (GJ hS rfl (AC (JW (W.item (j+1) s _ _ (by lia) st λv h' tk hv st' kp=>?_))))
   have hS':xM h' S #[vb,vb] c:=kp S _ hSw hS;have x1:mO h0 h':=λb o e=>kp b o (nw b o e) (x0 b o e)
   show wpAny _ A.in1 (tryCatch (K1 [v,v] (KJ .Lt v vb >>= _)) _ >>= _) _ _ _;refine AC (JW (G6 (AC (hcmp (j+1) (Gq bt j) v vb _ _ _ x1 hv hb (AC (G6 (Jj (AC (JA (BM ?_))))))))))
   by_cases hc:bt (j+1) (Gq bt j)=true
   ·rw[if_pos hc]
    refine AC (Lh hS' rfl (AC (JA ?_)));rw[lG];exact BM ⟨HE HM _,ih (j+1) _ v _ (by lia) (λb o e=>by
     show (Heap.update _ _ _).get? b=some o;rw[GD _ _ (HZ (nS b o e))]; exact x1 b o e) (W.frame _ _ _ st' λb hf o e=>by
     rw[GD _ _ (λh:S=b=>hSf (h▸hf))]; exact e) (by unfold Gq; rw[if_pos hc]; exact hv) (Hx _ hS' rfl) λv2 h2 t2 p2 k2=>hR v2 h2 t2 p2 λb o h1 h3 e=>k2 b o h1 h3 (by
      rw[GD _ _ (HZ h3)]; exact kp b o h1 e)⟩
   ·rw[if_neg hc]
    refine AC (JA ?_);rw[lG];exact BM ⟨HE HM _,ih (j+1) _ vb c (by lia) x1 st' (by unfold Gq; rw[if_neg hc]; exact hb) hS' λv2 h2 t2 p2 k2=>hR v2 h2 t2 p2 λb o h1 h3 e=>k2 b o h1 h3 (kp b o h1 e)⟩)
theorem CT(W:Walks prog w A.in1 I fp wr n P St)(hcmp:uV prog w A.in1 h0 P bt)(hSf:S∉fp)(hw:∀b∈wr,h0.get? b=none)(hS0:h0.get? S=none)(hn:0<n){s:B1}{c:Nat}(x0:mO h0 s.heap)(st:St 0 s.heap)(hS:xM s.heap S #[] c)
  (hR:∀v h' tk,P (Gq bt (n-1)) v->tV wr S s.heap h'->R (.ok (.ret v)) { s with heap:=h',toks:=tk }) :
  Hu (model prog w) A (.builtin "min.loop" ⟨[.ref I,.none,.ref S],[]⟩) R s:=by
 have hSw:S∉wr:=λh=>hSf (W.sub _ h)
 have nw:∀b o,h0.get? b=some o->b∉wr:=λb o e hb=>by rw[hw b hb] at e; cases e
 have nS:∀b o,h0.get? b=some o->b≠S:=λb o e hb=>by rw[hb,hS0] at e; cases e
 refine GV L6 (by
  rw[GC HM _];show wpAny _ A.in1 (JT (.ref S) >>= _) _ _ s;refine AC (GJ hS rfl (AC (JW ?_)));refine W.item 0 s _ _ hn st λv h' tk hv st' kp=>?_
  have hS':xM h' S #[] c:=kp S _ hSw hS;show wpAny _ A.in1 (updateSeq S (λ_=> #[v,v]) >>= _) _ _ _
  refine AC (Lh hS' rfl ?_);rw[lG];exact BM ⟨HE HM _,loopH W hcmp hSf hw hS0 (n-1) 0 _ v _ (by lia) (λb o e=>by
    show (Heap.update _ _ _).get? b=some o;rw[GD _ _ (HZ (nS b o e))]; exact kp b o (nw b o e) (x0 b o e)) (W.frame _ _ _ st' λb hf o e=>by
   rw[GD _ _ (λh:S=b=>hSf (h▸hf))]; exact e) hv (Hx _ hS' rfl) λv2 h2 t2 p2 k2=>hR v2 h2 t2 p2 λb o h1 h3 e=>k2 b o h1 h3 (by
    rw[GD _ _ (HZ h3)]; exact kp b o h1 e)⟩)
end
section
variable{prog:FB}{w:World}{A:Fa}{E:Value->B1->Prop}{s:B1}{its:Array Value}{bt:Nat->Nat->Bool}{Q:Value->B1->Prop}
theorem A8{h0:Heap}{s₂:B1}{I:Addr}{fp:List Addr}{St:Nat->Heap->Prop}{P:Fin->B1->Prop}{E':Value->B1->Prop}(W:Walks prog w A.in1 I fp [I] its.size (λi v=>its[i]? = some v) St)(st:St 0 s₂.heap)(hfp:∀b∈fp,b<s₂.heap.objs.size)(hn:0<its.size)(hcmp:uV prog w A.in1 h0 (λi v=>its[i]? = some v) bt)(hI:h0.get? I=none)(x0:mO h0 s₂.heap){R:LU->B1->Prop}
  (q:∀v h' tk,its[Gq bt (its.size-1)]? = some v->mO h0 h'->R (.ok (.ret v)) { s₂ with heap:=h',toks:=tk }) :
  Hu (model prog w) A (.builtin "min.loop" ⟨[.ref I,.none,.ref s₂.heap.objs.size],[]⟩) R { s₂ with heap:=s₂.heap.push { cls:=.type "list",data:=.seq #[] } }:=by
 have hSf:s₂.heap.objs.size∉fp:=λhm=>Gs _ (hfp _ hm)
 have hS0:h0.get? s₂.heap.objs.size=none:=by
  cases e:h0.get? s₂.heap.objs.size with
  |none=>rfl
  |some o=>exact absurd (Ch (x0 _ _ e)) (Gs _)
 have hw:∀b∈[I],h0.get? b=none:=λb hb=>by rw[Bn.mp hb]; exact hI
 refine CT W hcmp hSf hw hS0 hn (λb o e=>At _ (x0 b o e)) (W.frame _ _ _ st λb _ o e=>At _ e) (Db _ rfl) λv h' tk hv k=>q v h' tk hv λb o e=>?_
 exact k b o (λhb=>by rw[hw b hb] at e; cases e) (λhb=>by rw[hb,hS0] at e; cases e) (At _ (x0 b o e))
theorem uW{l:Addr}(hh:A.handled=none)(hl:s.heap.IsList l its)(hn:0<its.size)(hcmp:uV prog w A.in1 s.heap (λi v=>its[i]? = some v) bt)
  (q:∀v h' tk,its[Gq bt (its.size-1)]? = some v->mO s.heap h'->Q v { s with heap:=h',toks:=tk }):wpAny (model prog w) A (call (.builtin "min") [.ref l]) Q E s:=by
 have hlt:l<s.heap.objs.size:=by obtain⟨_,e,_⟩:=hl; exact Ch e
 refine NI F.kind_min F.plain_min F.entry_min (F.args_min1 _) ?_;show wpAny _ A.in1 (Hb "min" ["key", "default"] 0 ⟨[],[]⟩ >>= _) _ _ s;refine AC (LY (show Hb "min" ["key", "default"] 0 ⟨[],[]⟩=pure [none,none] from rfl) (AC (BM (AC (Kt hl ?_)))))
 refine AC (FU ?_);rw[lG];have hne:s.heap.get? s.heap.objs.size=none:=by
  cases e:s.heap.get? s.heap.objs.size with
  |none=>rfl
  |some o=>exact absurd (Ch e) (Gs _)
 exact BM ⟨HE HM _,A8 (s₂:={ s with heap:=s.heap.push { cls:=.type "list_iterator",data:=.fields #[.ref l,.int 0 0] } }) (P:=λ_ _=>True) (E':=E) (Walks.list (A:=A.in1) hh _ l (E1 hlt) its) ⟨⟨_,Db _ rfl,rfl,rfl⟩,hl.push _⟩ (λb hb=>by
  show b<(s.heap.push _).objs.size;rw[GN];rcases lK hb with e | hb
  ·rw[e]; exact Im _
  ·rw[Bn.mp hb]; exact Gx hlt) hn hcmp hne (λb o e=>At _ e) q⟩
theorem ye{a b:Value}(hh:A.handled=none)(hcmp:uV prog w A.in1 s.heap (λi v=>(#[a,b]:Array Value)[i]? = some v) bt)
  (q:∀v h' tk,(#[a,b]:Array Value)[Gq bt 1]? = some v->mO s.heap h'->Q v { s with heap:=h',toks:=tk }):wpAny (model prog w) A (call (.builtin "min") [a,b]) Q E s:=by
 refine NI F.kind_min F.plain_min F.entry_min (F.args_min2 _ _) ?_;show wpAny _ A.in1 (Hb "min" ["key", "default"] 0 ⟨[],[]⟩ >>= _) _ _ s;refine AC (LY (show Hb "min" ["key", "default"] 0 ⟨[],[]⟩=pure [none,none] from rfl) ?_)
 show wpAny _ A.in1 (newTuple [a,b] >>= _) _ _ s;refine AC (FU ?_);have hT:(s.heap.push { cls:=.type "tuple",data:=.seq #[a,b] }).IsTuple s.heap.objs.size #[a,b]:=⟨_,Db _ rfl,rfl,0,rfl⟩;have sz:(s.heap.push { cls:=.type "tuple",data:=.seq #[a,b] }).objs.size=s.heap.objs.size+1:=GN ..;refine AC (JX (s:={ s with heap:=s.heap.push { cls:=.type "tuple",data:=.seq #[a,b] } }) hT ?_)
 refine AC (FU ?_);rw[lG];have hne:s.heap.get? (s.heap.push { cls:=.type "tuple",data:=.seq #[a,b] }).objs.size=none:=by
  cases e:s.heap.get? (s.heap.push { cls:=.type "tuple",data:=.seq #[a,b] }).objs.size with
  |none=>rfl
  |some o=>exact absurd (Ch e) (by rw[sz]; exact Md.mpr (GU _))
 exact BM ⟨HE HM _,A8 (s₂:={ s with heap:=(s.heap.push { cls:=.type "tuple",data:=.seq #[a,b] }).push { cls:=.type "tuple_iterator",data:=.fields #[.ref s.heap.objs.size,.int 0 0] } }) (P:=λ_ _=>True) (E':=E) (M0 (A:=A.in1) hh _ s.heap.objs.size (by rw[sz]; exact E1 (Im _)) #[a,b]) ⟨⟨_,Db _ rfl,rfl,rfl⟩,hT.push _⟩ (λc hc=>by
  show c<((s.heap.push _).push _).objs.size;rw[GN,sz];rcases lK hc with e | hc
  ·rw[e,sz]; exact Im _
  ·rw[Bn.mp hc]; exact Gx (Im _)) (by show 0<2; decide) hcmp hne (λb o e=>At _ (At _ e)) q⟩
end
end L2
end
section
namespace VL
open PySem PySem.Spec L2 PyProof.Rows
section
variable{h h':Heap}
mutual
theorem yf(k:mO h h'):∀{v:Value}{d:Ap}{as:List Addr},Reads h v d as->Reads h' v d as
 |_,_,_,.none=>.none
 |_,_,_,.bool b=>.bool b
 |_,_,_,.int i t=>.int i t
 |_,_,_,.str x t=>.str x t
 |_,_,_,.list g c e r=>.list (k _ _ g) c e (jm k r)
 |_,_,_,.tuple g c e r=>.tuple (k _ _ g) c e (jm k r)
 |_,_,_,.dict g c e r q=>.dict (k _ _ g) c e (jm k r) (jm k q)
theorem jm(k:mO h h'):∀{v:List Value}{d:List Ap}{as:List Addr},IV h v d as->IV h' v d as
 |_,_,_,.nil=>.nil
 |_,_,_,.cons r q=>.cons (yf k r) (jm k q)
end
theorem qE:∀{vs:List Value}{ds:List Ap}{as:List Addr}{i:Nat}{v:Value},IV h vs ds as->vs[i]? = some v->∃bs,ds[i]? = some (ds.getD i .none)/\Reads h v (ds.getD i .none) bs
 |_,_,_,i,v,.nil,e=>by simp at e
 |_,_,_,0,v,.cons r q,e=>by
  cases e;exact⟨_,rfl,r⟩
 |_,_,_,i+1,v,.cons r q,e=>by
  obtain⟨bs,h1,h2⟩:=qE (i:=i) q (by simpa using e)
  exact⟨bs,by simpa using h1,by simpa using h2⟩
end
noncomputable def qY(ds:List Ap)(i j:Nat):Bool:=(ltN 5 (ds.getD i .none) (ds.getD j .none)) == some true
noncomputable def jP(ds:List Ap):Bool:=!ds.isEmpty && EQ ds && ds.all λd=>decide (d.depth<=50) && ds.all λe=>(ltN 5 d e).isSome
noncomputable def gc(ds:List Ap):Nat:=Gq (qY ds) (ds.length-1)
noncomputable def minW:List M->Option M
 |[.lst ds]=>if jP ds=true then some (.v (ds.getD (gc ds) .none)) else none
 |_=>none
theorem yg{ds:List Ap}(h:ds≠[]):gc ds<ds.length:=by
 have key:∀(bt:Nat->Nat->Bool)(k:Nat),Gq bt k<=k:=λbt k=>by
  induction k with
  |zero=>exact Da _
  |succ k ih=>unfold Gq; split <;> lia
 have:=key (qY ds) (ds.length-1);have:=K7.mpr h;unfold gc;lia
section
variable{X:Cx}{pos:Pos}
theorem nK{prog:FB}{w:World}{A:Fa}{s:B1}{its:List Value}{ds:List Ap}{as:List Addr}(hu:A.units+60<cLine)(ra:IV s.heap its ds as)(ok:jP ds=true):uV prog w A s.heap (λi v=>its.toArray[i]? = some v) (qY ds):=λi j vi vj s' Q E x0 hi hj q=>by
 unfold jP at ok;simp only[Fk] at ok;have key:∀{i:Nat}{v:Value},its.toArray[i]? = some v->∃bs,ds.getD i .none∈ds/\Reads s'.heap v (ds.getD i .none) bs:=λ{i v}e=>by
  obtain⟨bs,h1,h2⟩:=qE ra (i:=i) (v:=v) (by simpa using e)
  exact⟨bs,Iu h1,yf x0 h2⟩
 obtain⟨b1,m1,r1⟩:=key hi;obtain⟨b2,m2,r2⟩:=key hj;have o1:=Hm.mp ok.2 _ m1;rw[Fk] at o1;have hs:=Hm.mp o1.2 _ m2;obtain⟨b,hb⟩:=IE.mp hs;have:qY ds i j=b:=by unfold qY; rw[hb]; cases b <;> rfl
 rw[this] at q;exact yd 5 A _ _ b _ _ _ _ (by lia) hb r1 r2 (oH ok.1.2 _ m1) (oH ok.1.2 _ m2) (of_decide_eq_true o1.1) prog w E Q q
theorem Aq(hc:X.calm=true)(hu:X.A.units+64<cLine):bf X (.builtin "min") (pN X.K minW):=by
 intro pins s σ H xs us Q I rs h;obtain⟨Z,ms,m,za,hr,e,q⟩:=h;unfold minW at e
 split at e
 ·rename_i ds
  split at e
  ·rename_i ok
   cases e;have ok':=ok;unfold jP at ok';simp only[Fk] at ok';have hne:ds≠[]:=λz=>by rw[z] at ok'; simp at ok'
   obtain⟨x,rfl,h1⟩:=ff hr;obtain⟨a,ys,rfl,hx,fx⟩:=h1.jf (ds:=ds) rfl;obtain⟨u,rfl,rx⟩:=vals1 rs;cases rx;obtain⟨its,r,pl,hz⟩:=I.list hx;obtain⟨as,ra⟩:=fx.reads I ok'.1.2 r;have l1:its.length=ds.length:=by rw[<-r.length,fx.length]
   have hsz:its.toArray.size=ds.length:=by rw[Dx,l1]
   have hpos:=K7.mpr hne;refine uW (its:=its.toArray) (bt:=qY ds) (I.ok.hd hc) pl.isList (by lia) (nK (A:=X.A.in1) (by show X.A.units+1+60<_; lia) ra ok) λv h' tk hv k=>?_
   have hb:Gq (qY ds) (its.toArray.size-1)=gc ds:=by rw[hsz]; rfl
   rw[hb] at hv;have hlt:=yg hne;have hvi:its[gc ds]? = some v:=by simpa using hv
   obtain⟨y,hy⟩:∃y,ys[gc ds]? = some y:=⟨ys[gc ds]'(by rw[fx.length]; exact hlt),by simp[fx.length,hlt]⟩
   obtain⟨d,hd,fd⟩:=fx.get hy;obtain⟨v',hv',rv⟩:=r.get hy;rw[hvi] at hv';cases hv';have hdd:ds.getD (gc ds) .none=d:=by rw[FJ,hd]; rfl
   rw[hdd] at q;exact⟨y,H,I.kept (t':=tk) k,rv,ck q za fd⟩
  ·cases e
 ·cases e
def rMn2(K:AT):List V->Hp->VK->Prop:=λvs H Q=>∃ (Z:Zs) (x y:V) (d e:Ap),vs=[x,y]/\Fz K H Z x d/\Fz K H Z y e/\jP [d,e]=true/\Q (if ltN 5 e d=some true then y else x) H
theorem yh(hc:X.calm=true)(hu:X.A.units+64<cLine):bf X (.builtin "min") (rMn2 X.K):=by
 intro pins s σ H xs us Q I rs h;obtain⟨Z,x,y,d,e,rfl,fx,fy,ok,q⟩:=h;obtain⟨u,v,rfl,ru,rv⟩:=vals2 rs;have ok':=ok;unfold jP at ok';simp only[Fk] at ok';obtain⟨as,ra⟩:=bu.reads I (bu.cons fx (bu.cons fy .nil)) ok'.1.2 (.cons ru (.cons rv .nil));refine ye (bt:=qY [d,e]) (I.ok.hd hc) (nK (its:=[u,v]) (A:=X.A.in1) (by show X.A.units+1+60<_; lia) ra ok) λz h' tk hz k=>?_
 by_cases c:ltN 5 e d=some true
 ·have hb:Gq (qY [d,e]) 1=1:=by
   show (if qY [d,e] 1 0=true then 1 else 0)=1
   rw[if_pos (by show (ltN 5 e d == some true)=true; rw[c]; rfl)]
  rw[hb] at hz;have:v=z:=by simpa using hz
  subst this;rw[if_pos c] at q;exact⟨y,H,I.kept (t':=tk) k,rv,q⟩
 ·have hb:Gq (qY [d,e]) 1=0:=by
   show (if qY [d,e] 1 0=true then 1 else 0)=0
   rw[if_neg (by show ¬ (ltN 5 e d == some true)=true; simpa using c)]
  rw[hb] at hz;have:u=z:=by simpa using hz
  subst this;rw[if_neg c] at q;exact⟨x,H,I.kept (t':=tk) k,ru,q⟩
noncomputable def qF(fa:FA):FE:=λρ=>(fa ρ).bind λp=>(dH p.1 p.2).bind λq=>match q.1 with
 |[d,e]=>if jP [d,e]=true then some (.t (.v (if ltN 5 e d=some true then e else d)),q.2) else none
 |_=>none
theorem Ar{x:Str}{p:Pos}{e:Expr}{es:List Expr}{fa:FA}(hc:X.calm=true)(hu:X.A.units+64<cLine)(hg:Gl X x)(hm:X.mg x=none)(hv:Hg x=some (.builtin "min"))(ha:WA X (e::es) fa)(hn:x ≠ "__name__" := by decide)(hdb:(x == ("__debug__" : Str))=false:=by decide)
  (he:E5 (e::es) X.env=(false,eval e X.env)::E5 es X.env:=by rfl) (hpl:(Ij pos (E5 es X.env)).any (·.1)=false:=by rfl):WE X (.Call (.Name x p) (e::es) [] pos) (qF fa):=⟨bM (pW (yh hc hu) hg hm hv ha.h hn hdb he hpl) λσ H Q hq=>by
 obtain⟨Z,ρ,F,o,ρ',S,w,e,q⟩:=hq;obtain⟨⟨os,ρ1⟩,e1,e⟩:=oB e;obtain⟨⟨ds,ρ2⟩,e2,e⟩:=oB e;refine⟨Z,ρ,F,os,ρ1,S,w,e1,λxs H1 Z1 F1 G1 S1 O1 f1=>?_⟩
 obtain⟨Z2,F2,S2,z2,f2,g2⟩:=oU S1 O1 f1 e2;dsimp only at e
 split at e
 ·rename_i d e'
  split at e
  ·rename_i ok
   cases e;cases z2 with
   |cons a1 r1=>cases r1 with
    |cons a2 r2=>
     cases r2;refine⟨Z2,_,_,d,e',rfl,a1,a2,ok,?_⟩
     by_cases c:ltN 5 e' d=some true
     ·rw[if_pos c] at q ⊢
      exact q _ H1 Z2 F2 [] S2 (.t (.v a2)) f2.nil
     ·rw[if_neg c] at q ⊢
      exact q _ H1 Z2 F2 [] S2 (.t (.v a1)) f2.nil
  ·cases e
 ·cases e⟩
end
@[simp] theorem vMin2_eq{fa:FA}{ρ:Ev}:qF fa ρ=(fa ρ).bind λp=>(dH p.1 p.2).bind λq=>match q.1 with
 |[d,e]=>if jP [d,e]=true then some (.t (.v (if ltN 5 e d=some true then e else d)),q.2) else none
 |_=>none:=rfl
end VL
end
section
open PySem L2 VL
noncomputable def FF.gP:FS:=(aN (xr (aa 0) (dS 2 (aW (aj 2) (aW (aj 3) ez))))
 (aN (bg 4 (bQ vH (ah (aa 2) (af (aa 1)))))
 (aN (bg 5 (kc 2 [4] (bC (aa 3)) (dS 2 (aW (aj 0) (aW (aj 1) ez))) cE (cz (ah (cH (aa 2) (aa 0)) (af (cH (aa 2) (aa 1)))))))
 (fm (cz (ah (bQ dw (af (bQ bW (af (aa 1))))) (af (bQ dw (af (bQ bW (af (kc 1 [] (bC (aa 5)) (aj 0) cE (cz (ah (bQ qz (af (aa 0))) (af (bQ xK (af (aa 0))))))))))))))))))
noncomputable def FF.cF:FF:=gm [true,true] 6 FF.gP
noncomputable def FF.cR:FS:=(aN (bg 2 (vC (.int 0)))
 (aN (jh (cK (vB D5 (aa 1) (bQ gk (af (aa 0))))) (bg 2 (cH (aa 0) (aa 1))) eu)
 (aN (bg 3 (vB mulM (vB jC (aa 2) (vB lE (vB lE (vB lE (vB jg (vC (.int 10)) (vC (.int 60))) (vB jg (vC (.int 10)) (vC (.int 60)))) (vB jg (vC (.int 10)) (vC (.int 60)))) (vB jg (vC (.int 10)) (vC (.int 60))))) (bQ nC (af (vB DI (aa 2) (vB jg (vC (.int 10)) (vC (.int 18))))))))
 (fm (eT (ah (aa 3) (ah (vB jC (vB cy (vB cy (vB jC (aa 2) (vC (.int 2305843009213693951))) (vB mulM (vC (.int 7919)) (aa 1))) (vC (.int 3))) (vC (.int 2305843009213693951))) (af (vC (.int 0))))))))))
noncomputable def FF.bx:FF:=gm [true,true] 4 FF.cR
noncomputable def FF.dQ:FS:=(aN (jh (cK (vB Cb (cH (aa 0) (vC (.int 0))) (vC (.int 0)))) (aN (bg 2 (vB jC (cH (aa 0) (vC (.int 0))) (aa 1)))
 (aN (uQ 0 (vC (.int 0)) (vB qh (cH (aa 0) (vC (.int 0))) (aa 1)))
 (fm (aa 2)))) eu)
 (aN (uQ 0 (vC (.int 2)) (vB cy (cH (aa 0) (vC (.int 2))) (vC (.int 1))))
 (aN (bg 3 (vB jC (vB mulM (vB cy (vB cy (cH (aa 0) (vC (.int 1))) (vB mulM (vB mulM (vC (.int 65537)) (cH (aa 0) (vC (.int 2)))) (cH (aa 0) (vC (.int 2))))) (vC (.int 11))) (vC (.int 48271))) (vC (.int 2305843009213693921))))
 (aN (bg 3 (vB jC (vB mulM (aa 3) (vB cy (vB jC (aa 3) (vC (.int 1000003))) (vB mulM (vC (.int 99991)) (cH (aa 0) (vC (.int 2)))))) (vC (.int 2305843009213693907))))
 (fm (vB jC (vB cy (vB qh (aa 3) (vC (.int 97))) (vB qh (aa 3) (vC (.int 1000033)))) (aa 1)))))))
noncomputable def FF.av:FF:=gm [true,true] 4 FF.dQ
noncomputable def FF.gf:FS:=(fm (cH (aa 1) (fj FF.av (ah (aa 0) (af (bQ gk (af (aa 1))))))))
noncomputable def FF.ay:FF:=gm [true,true] 2 FF.gf
noncomputable def FF.dW:FS:=(aN (bg 2 (eT je))
 (aN (ji (bC (aa 1)) (aj 3) (fY (xJ 2 (ah (fj FF.av (ah (aa 0) (af (vB cy (bQ gk (af (aa 2))) (vC (.int 1)))))) (af (aa 3))))))
 (fm (aa 2))))
noncomputable def FF.aK:FF:=gm [true,true] 4 FF.dW
noncomputable def FF.cV:FS:=(aN (bg 2 (fj FF.ay (ah (aa 0) (af (eT (ah (vC (.int 1)) (ah (vC (.int 1)) (ah (vC (.int 3)) (af (vC (.int 4)))))))))))
 (aN (bg 3 (fj FF.ay (ah (aa 0) (af (eT (ah (vC (.int 0)) (ah (vC (.int 0)) (ah (vC (.int 5)) (af (vB oO (vC (.int 99)) (vB mulM (aa 2) (bQ ql (ah (vC (.int 0)) (af (vB oO (aa 1) (vC (.int 1)))))))))))))))))
 (fm (bQ dw (af (kc 1 [3,2] (bX eB (af (aa 1))) (aj 0) cE (vB cy (aa 1) (vB mulM (aa 2) (aa 0)))))))))
noncomputable def FF.aU:FF:=gm [true,true] 4 FF.cV
noncomputable def FF.dM:FS:=(aN (xr (cz (ah (fj FF.ay (ah (aa 0) (af (eT (ah (vC (.int 2)) (ah (vC (.int 3)) (ah (vC (.int 5)) (ah (vC (.int 9)) (af (vC (.int 1))))))))))) (af (vB (rP false) (fj FF.av (ah (aa 0) (af (vC (.int 2))))) (vC (.int 0)))))) (dS 2 (aW (aj 3) (aW (aj 4) ez))))
 (aN (rV 5 6 (ah (fj FF.aU (ah (aa 0) (af (aa 1)))) (af (eT je))))
 (aN (ji (bX xu (ah (vC (.int 1)) (af (aa 1)))) (aj 7) (aN (jh (w9 (aa 4)) (fY (uP 6 (af (cz (ah (fj FF.av (ah (aa 0) (af (aa 7)))) (af (aa 7))))))) eu)
 (fY (qx 6 (af (kc 1 [7,6,0,3] (bX eB (af (aa 7))) (aj 0) (uK (cK (vB (pO true) (cz (ah (aa 0) (af (aa 1)))) (aa 2))) (cK (vB (rP false) (fj FF.av (ah (aa 3) (af (aa 4)))) (vC (.int 0))))) (cz (ah (aa 0) (af (aa 1))))))))))
 (aN (bg 6 (bQ bW (af (AZ (fj FF.aK (ah (aa 0) (af (aa 6)))) gF (gG (aa 2))))))
 (fm (cz (ah (aa 5) (af (bQ dw (af (kc 2 [5] (bC (aa 6)) (dS 2 (aW (aj 0) (aW (aj 1) ez))) cE (cz (ah (cH (aa 2) (aa 0)) (af (cH (aa 2) (aa 1))))))))))))))))
noncomputable def FF.aY:FF:=gm [true,true,true] 8 FF.dM
end
section
open PySem L2 VL
noncomputable def FF.fK:FS:=(aN (bg 1 (eT (af (cz je))))
 (aN (ji (bX eB (af (aa 0))) (aj 2) (bg 1 (xP 2 [2] (bC (aa 1)) (aj 0) cE (bX eB (af (vB cy (aa 2) (vC (.int 1))))) (aj 1) cE (vB cy (vB cy (AZ (aa 0) gF (gG (aa 1))) (cz (af (aa 2)))) (AZ (aa 0) (gG (aa 1)) gF)))))
 (fm (aa 1))))
noncomputable def FF.bN:FF:=gm [true] 3 FF.fK
noncomputable def FF.gQ:FS:=(fm (bQ minW (af (kc 1 [0] (bC (fj FF.bN (af (bQ gk (af (cH (aa 0) (vC (.int 0)))))))) (aj 0) cE (fj FF.cF (ah (aa 1) (af (aa 0))))))))
noncomputable def FF.bE:FF:=gm [true] 1 FF.gQ
noncomputable def FF.cW:FS:=(aN (bg 1 (eT (af (cz je))))
 (aN (ji (bX eB (af (aa 0))) (aj 2) (aN (bg 3 (eT je))
 (aN (ji (bC (aa 1)) (aj 4) (fY (qx 3 (af (kc 1 [4] (bX eB (af (aa 0))) (aj 0) (cK (vB (pO true) (aa 0) (aa 1))) (vB cy (aa 1) (cz (af (aa 0)))))))))
 (bg 1 (aa 3)))))
 (fm (aa 1))))
noncomputable def FF.aL:FF:=gm [true] 5 FF.cW
noncomputable def FF.dg:FS:=(aN (rV 2 3 (ah (jM 1 [0] 1 (aj 0) cE (bQ vH (ah (cH (aa 1) (vC (.int 0))) (af (aa 0))))) (af (vC .none))))
 (aN (ji (bC (aa 2)) (aj 4) (aN (bg 5 (bQ bW (af (kc 2 [4] (bC (cH (aa 0) (vC (.int 1)))) (dS 2 (aW (aj 0) (aW (aj 1) ez))) cE (bQ dw (af (bQ bW (af (eT (ah (cH (aa 2) (aa 0)) (af (cH (aa 2) (aa 1)))))))))))))
 (bg 3 (AS (cK (vB (oS false) (aa 3) (vC .none))) (aa 5) (qF (ah (aa 3) (af (aa 5))))))))
 (fm (cz (ah (bQ Dt (af (bQ gk (af (cH (aa 0) (vC (.int 0))))))) (af (bQ dw (af (aa 3)))))))))
noncomputable def FF.aD:FF:=gm [true,true] 6 FF.dg
noncomputable def FF.lH:FS:=(aN (ji (bX eB (af (bQ ql (ah (vC (.int 1)) (af (bQ minM (ah (vC (.int 3)) (af (bQ gk (af (aa 0))))))))))) (aj 1) (aN (bg 2 (fj FF.bx (ah (aa 0) (af (aa 1)))))
 (aN (bg 3 (fj FF.ay (ah (aa 2) (af (eT (oY [6,5,4,3,2,1,0]))))))
 (aN (rV 4 5 (ah (fj FF.aY (ah (aa 2) (ah (aa 3) (af (vC (.int 15)))))) (af (fj FF.aL (af (aa 3))))))
 (aN (bg 6 (bQ vH (ah (cH (aa 4) (vC (.int 0))) (af (fj FF.aK (ah (aa 2) (af (kc 1 [] (bX eB (af (aa 3))) (aj 0) cE (vB oO (vC (.int 99)) (vB mulM (vC (.int 7)) (aa 0)))))))))))
 (aN (bg 7 (bQ bW (af (kc 2 [6] (bC (cH (aa 4) (vC (.int 1)))) (dS 2 (aW (aj 0) (aW (aj 1) ez))) cE (bQ dw (af (bQ bW (af (eT (ah (cH (aa 2) (aa 0)) (af (cH (aa 2) (aa 1)))))))))))))
 (aN (bg 8 (cz (ah (bQ dw (af (bQ bW (af (DC (aa 6)))))) (af (bQ dw (af (aa 7)))))))
 (aN (bg 9 (fj FF.aD (ah (aa 4) (af (aa 5)))))
 (aN (ji (bC (cz (ah (aa 4) (ah (aa 8) (ah (aa 9) (af (aa 4))))))) (aj 10) (jh (cK (vB (CP true) (bQ fJ (af (fj FF.bE (af (aa 10))))) (bQ fJ (af (aa 9))))) (fm (vC (.bool false))) eu))
 (jh (cK (vB Cb (aa 3) (vC (.int 1)))) (aN (bg 11 (vB cy (vC (.int 1)) (fj FF.av (ah (aa 2) (af (vB oO (aa 3) (vC (.int 1))))))))
 (aN (bg 12 (cz (ah (cH (cH (aa 4) (vC (.int 0))) (fj FF.av (ah (aa 2) (af (aa 11))))) (af (cH (cH (aa 4) (vC (.int 0))) (aa 11))))))
 (aN (bg 13 (bQ dw (af (kc 1 [12] (bC (cH (aa 4) (vC (.int 1)))) (aj 0) (cK (vB (rP true) (aa 0) (aa 1))) (aa 0)))))
 (aN (bg 14 (cz (ah (cH (aa 4) (vC (.int 0))) (af (AS (cK (vB (pO false) (aa 12) (cH (aa 4) (vC (.int 1))))) (aa 13) (bQ dw (af (bQ nH (af (vB cy (cH (aa 4) (vC (.int 1))) (cz (af (aa 12)))))))))))))
 (jh (cK (vB (CP true) (bQ fJ (af (fj FF.bE (af (aa 14))))) (bQ fJ (af (fj FF.aD (ah (aa 14) (af (aa 5)))))))) (fm (vC (.bool false))) eu))))) eu))))))))))
 (fm (vC (.bool true))))
noncomputable def FF.qG:FF:=gm [true] 15 FF.lH
end
section
namespace Lk13
open PySem L2 VL PyProof.Rows
noncomputable def top(i:Nat):Stmt:=PySem.Challenge.pw_drawnweb_k13_forms.main.body.getD i (.Pass ⟨0,0,0,0⟩)
structure Txt(mg:Str->Option Value):Prop where
 z_max:mg "max" = none
 z_min:mg "min" = none
 z_sorted:mg "sorted" = none
 z_tuple:mg "tuple" = none
 z_dict:mg "dict" = none
 z_zip:mg "zip" = none
 z_range:mg "range" = none
 z_len:mg "len" = none
 z_int:mg "int" = none
 z_repr:mg "repr" = none
 z_list:mg "list" = none
section
variable{P:FB}{w:World}{K:AT}{mg:Str->Option Value}{base:Heap}{f:Addr}{fd:Hh}
noncomputable abbrev s_renamed:Stmt:=top 1
theorem sc_renamed:bF ["web", "names", "places", "ties", "name_of", "ends"] ["web", "names"] (aq s_renamed):=⟨rfl,rfl,rfl,by decide +kernel,rfl,by decide +kernel,by decide +kernel⟩
theorem ok_renamed(Fn:oh K "renamed" "renamed" s_renamed f fd)(T:Txt mg):cY P w K mg base j6 1 f fd ["web", "names"] (dZ K FF.cF) :=
 cM [true,true] Fn sc_renamed rfl λcdv A outer s H E hr=>(by
  have hU:=hr.units;have hG:=hr.gd;exact(au (xE (wv 0) (jJ 2 rfl (bZ (aC (i:=2) (by decide) sc_renamed.nd rfl (Fx rfl)) (bZ (aC (i:=3) (by decide) sc_renamed.nd rfl (Fx rfl)) gX))))
  (au (aX (i:=4) (by decide) sc_renamed.nd rfl (Hs rfl) (pg rfl rfl T.z_dict rfl T.z_zip (ao (wv 2) (ai (wv 1)))))
  (au (CK (i:=5) 2 [4] (by decide) sc_renamed.nd rfl rfl rfl rfl rfl (aR.of (sc0:=aq s_renamed) (N0:=["web", "names", "places", "ties", "name_of", "ends"]) (N:=["a", "b", "name_of"]) (fr:=[none,none,some 4]) rfl rfl (by decide +kernel)) (dB (wv 3)) (λ_=>⟨(jJ 2 rfl (bZ (aC (i:=0) (by decide) (show (["a", "b", "name_of"]:List Str).Nodup by decide +kernel) rfl (Fx rfl)) (bZ (aC (i:=1) (by decide) (show (["a", "b", "name_of"]:List Str).Nodup by decide +kernel) rfl (Fx rfl)) gX))),eE,(bR (ao (bw hU (wv 2) (wv 0) (λ_ _=>rfl)) (ai (bw hU (wv 2) (wv 1) (λ_ _=>rfl)))))⟩))
  (aJ (cQ (bR (ao (fZ cA rfl T.z_tuple (by decide +kernel) (ai (bY (cD rfl) rfl T.z_sorted (by decide +kernel) (ai (wv 1))))) (ai (fZ cA rfl T.z_tuple (by decide +kernel) (ai (bY (cD rfl) rfl T.z_sorted (by decide +kernel) (ai (iB 1 [] rfl rfl rfl (aR.of (sc0:=aq s_renamed) (N0:=["web", "names", "places", "ties", "name_of", "ends"]) (N:=["pair"]) (fr:=[none]) rfl rfl (by decide +kernel)) (dB (wv 5)) (λ_=>⟨(aC (i:=0) (by decide) (show (["pair"]:List Str).Nodup by decide +kernel) rfl (Fx rfl)),eE,(bR (ao (bY (Aj rfl) rfl T.z_min (by decide +kernel) (ai (wv 0))) (ai (bY (Ai rfl) rfl T.z_max (by decide +kernel) (ai (wv 0))))))⟩)))))))))))))))
noncomputable abbrev s_all_names:Stmt:=top 3
theorem sc_all_names:bF ["many", "told", "name"] ["many"] (aq s_all_names):=⟨rfl,rfl,rfl,by decide +kernel,rfl,by decide +kernel,by decide +kernel⟩
theorem ok_all_names(Fn:oh K "all_names" "all_names" s_all_names f fd)(T:Txt mg):cY P w K mg base j6 1 f fd ["many"] (dZ K FF.bN) :=
 cM [true] Fn sc_all_names rfl λcdv A outer s H E hr=>(by
  have hU:=hr.units;have hG:=hr.gd;exact(au (aX (i:=1) (by decide) sc_all_names.nd rfl (Fx rfl) (dP (ai (bR lD))))
  (au (gO HI rfl (eV rfl T.z_range (ai (wv 0))) (aC (i:=2) (by decide) sc_all_names.nd rfl (Hs rfl)) (aJ (An (i:=1) 2 [2] (by decide) sc_all_names.nd rfl rfl rfl rfl rfl (aR.of (sc0:=aq s_all_names) (N0:=["many", "told", "name"]) (N:=["names", "at", "name"]) (fr:=[none,none,some 2]) rfl rfl (by decide +kernel)) (dB (wv 1)) (λ_=>⟨(aC (i:=0) (by decide) (show (["names", "at", "name"]:List Str).Nodup by decide +kernel) rfl (Fx rfl)),eE,(eV rfl T.z_range (ai (aG cO (wv 2) ak))),(aC (i:=1) (by decide) (show (["names", "at", "name"]:List Str).Nodup by decide +kernel) rfl (Fx rfl)),eE,(aG cO (aG cO (xD (wv 0) oZ (o4 (wv 1))) (bR (ai (wv 2)))) (xD (wv 0) (o4 (wv 1)) oZ))⟩))))
  (aJ (cQ (wv 1))))))
noncomputable abbrev s_form:Stmt:=top 2
theorem sc_form:bF ["web"] ["web"] (aq s_form):=⟨rfl,rfl,rfl,by decide +kernel,rfl,by decide +kernel,by decide +kernel⟩
theorem ok_form(Fn:oh K "form" "form" s_form f fd)(T:Txt mg)(C_all_names:bA P w K mg base "all_names" ["many"] 1 (dZ K FF.bN))(C_renamed:bA P w K mg base "renamed" ["web", "names"] 1 (dZ K FF.cF)):cY P w K mg base j6 2 f fd ["web"] (dZ K FF.bE) :=
 cM [true] Fn sc_form rfl λcdv A outer s H E hr=>(by
  have hU:=hr.units;have hG:=hr.gd;exact(aJ (cQ (bY (Aq rfl hU) rfl T.z_min (by decide +kernel) (ai (iB 1 [0] rfl rfl rfl (aR.of (sc0:=aq s_form) (N0:=["web"]) (N:=["names", "web"]) (fr:=[none,some 0]) rfl rfl (by decide +kernel)) (dB (cB C_all_names hr rfl (ai (bY jD rfl T.z_len (by decide +kernel) (ai (bw hU (wv 0) ak (λ_ _=>rfl))))))) (λ_=>⟨(aC (i:=0) (by decide) (show (["names", "web"]:List Str).Nodup by decide +kernel) rfl (Fx rfl)),eE,(cB C_renamed hr rfl (ao (wv 1) (ai (wv 0))))⟩)))))))
noncomputable abbrev s_law_hand_of:Stmt:=top 5
theorem sc_law_hand_of:bF ["_law_script", "_law_k", "_law_cell", "_law_great"] ["_law_script", "_law_k"] (aq s_law_hand_of):=⟨rfl,rfl,rfl,by decide +kernel,rfl,by decide +kernel,by decide +kernel⟩
theorem ok_law_hand_of(Fn:oh K "_law_hand_of" "_law_hand_of" s_law_hand_of f fd)(T:Txt mg):cY P w K mg base j6 1 f fd ["_law_script", "_law_k"] (dZ K FF.bx) :=
 cM [true,true] Fn sc_law_hand_of rfl λcdv A outer s H E hr=>(by
  have hU:=hr.units;have hG:=hr.gd;exact(au (aX (i:=2) (by decide) sc_law_hand_of.nd rfl (Fx rfl) ak)
  (au (nG (gM (ov_lt hU) (wv 1) (bY jD rfl T.z_len (by decide +kernel) (ai (wv 0))) (eX _)) (aJ (aX (i:=2) (by decide) sc_law_hand_of.nd rfl (Fx rfl) (bw hU (wv 0) (wv 1) (λ_ _=>rfl)))) gY)
  (au (aX (i:=3) (by decide) sc_law_hand_of.nd rfl (Fx rfl) (aG eZ (aG gE (wv 2) (aG pB (aG pB (aG pB (aG lu ak ak) (aG lu ak ak)) (aG lu ak ak)) (aG lu ak ak))) (fZ Ci rfl T.z_int (by decide +kernel) (ai (xC (ov_ge hU) (wv 2) (aG lu ak ak) (eX _))))))
  (aJ (cQ (dP (ao (wv 3) (ao (aG gE (aG cO (aG cO (aG gE (wv 2) ak) (aG eZ ak (wv 1))) ak) ak) (ai ak))))))))))
noncomputable abbrev s_law_take:Stmt:=top 6
theorem sc_law_take:bF ["_law_hand", "_law_many", "_law_digit", "_law_mixed"] ["_law_hand", "_law_many"] (aq s_law_take):=⟨rfl,rfl,rfl,by decide +kernel,rfl,by decide +kernel,by decide +kernel⟩
theorem ok_law_take(Fn:oh K "_law_take" "_law_take" s_law_take f fd)(T:Txt mg):cY P w K mg base j6 1 f fd ["_law_hand", "_law_many"] (dZ K FF.av) :=
 cM [true,true] Fn sc_law_take rfl λcdv A outer s H E hr=>(by
  have hU:=hr.units;have hG:=hr.gd;exact(au (nG (gM AX (bw hU (wv 0) ak (λ_ _=>rfl)) ak (eX _)) (au (aX (i:=2) (by decide) sc_law_take.nd rfl (Fx rfl) (aG gE (bw hU (wv 0) ak (λ_ _=>rfl)) (wv 1)))
  (au (xF 0 hU (pv 0) ak (aG oR (bw hU (wv 0) ak (λ_ _=>rfl)) (wv 1)) rfl (λ_ _ h1 h2=>nR h1 h2) (λ_ _ h1 h2=>vY h1 h2 set_list))
  (aJ (cQ (wv 2))))) gY)
  (au (xF 0 hU (pv 0) ak (aG cO (bw hU (wv 0) ak (λ_ _=>rfl)) ak) rfl (λ_ _ h1 h2=>nR h1 h2) (λ_ _ h1 h2=>vY h1 h2 set_list))
  (au (aX (i:=3) (by decide) sc_law_take.nd rfl (Fx rfl) (aG gE (aG eZ (aG cO (aG cO (bw hU (wv 0) ak (λ_ _=>rfl)) (aG eZ (aG eZ ak (bw hU (wv 0) ak (λ_ _=>rfl))) (bw hU (wv 0) ak (λ_ _=>rfl)))) ak) ak) ak))
  (au (aX (i:=3) (by decide) sc_law_take.nd rfl (Fx rfl) (aG gE (aG eZ (wv 3) (aG cO (aG gE (wv 3) ak) (aG eZ ak (bw hU (wv 0) ak (λ_ _=>rfl))))) ak))
  (aJ (cQ (aG gE (aG cO (aG oR (wv 3) ak) (aG oR (wv 3) ak)) (wv 1)))))))))
noncomputable abbrev s_law_pick:Stmt:=top 7
theorem sc_law_pick:bF ["_law_hand", "_law_some"] ["_law_hand", "_law_some"] (aq s_law_pick):=⟨rfl,rfl,rfl,by decide +kernel,rfl,by decide +kernel,by decide +kernel⟩
theorem ok_law_pick(Fn:oh K "_law_pick" "_law_pick" s_law_pick f fd)(T:Txt mg)(C_law_take:bA P w K mg base "_law_take" ["_law_hand", "_law_many"] 1 (dZ K FF.av)):cY P w K mg base j6 2 f fd ["_law_hand", "_law_some"] (dZ K FF.ay) :=
 cM [true,true] Fn sc_law_pick rfl λcdv A outer s H E hr=>(by
  have hU:=hr.units;have hG:=hr.gd;exact(aJ (cQ (bw hU (wv 1) (cB C_law_take hr rfl (ao (wv 0) (ai (bY jD rfl T.z_len (by decide +kernel) (ai (wv 1)))))) (λ_ _=>rfl)))))
noncomputable abbrev s_law_shuffled:Stmt:=top 8
theorem sc_law_shuffled:bF ["_law_hand", "_law_some", "_law_found", "_law_one"] ["_law_hand", "_law_some"] (aq s_law_shuffled):=⟨rfl,rfl,rfl,by decide +kernel,rfl,by decide +kernel,by decide +kernel⟩
theorem ok_law_shuffled(Fn:oh K "_law_shuffled" "_law_shuffled" s_law_shuffled f fd)(T:Txt mg)(C_law_take:bA P w K mg base "_law_take" ["_law_hand", "_law_many"] 1 (dZ K FF.av)):cY P w K mg base j6 2 f fd ["_law_hand", "_law_some"] (dZ K FF.aK) :=
 cM [true,true] Fn sc_law_shuffled rfl λcdv A outer s H E hr=>(by
  have hU:=hr.units;have hG:=hr.gd;exact(au (aX (i:=2) (by decide) sc_law_shuffled.nd rfl (Fx rfl) (dP lD))
  (au (gO HI rfl (dB (wv 1)) (aC (i:=3) (by decide) sc_law_shuffled.nd rfl (Fx rfl)) (aJ (ku (CO 2 (ao (cB C_law_take hr rfl (ao (wv 0) (ai (aG cO (bY jD rfl T.z_len (by decide +kernel) (ai (wv 2))) ak)))) (ai (wv 3))) (λ_ _ h1 h2=>sO IK M1 PySem.F.type_list_insert uR h1 h2) (pv 2)))))
  (aJ (cQ (wv 2))))))
noncomputable abbrev s_law_places_drawn:Stmt:=top 9
theorem sc_law_places_drawn:bF ["_law_hand", "_law_many", "_law_stride", "_law_first"] ["_law_hand", "_law_many"] (aq s_law_places_drawn):=⟨rfl,rfl,rfl,by decide +kernel,rfl,by decide +kernel,by decide +kernel⟩
theorem ok_law_places_drawn(Fn:oh K "_law_places_drawn" "_law_places_drawn" s_law_places_drawn f fd)(T:Txt mg)(C_law_pick:bA P w K mg base "_law_pick" ["_law_hand", "_law_some"] 2 (dZ K FF.ay)):cY P w K mg base j6 3 f fd ["_law_hand", "_law_many"] (dZ K FF.aU) :=
 cM [true,true] Fn sc_law_places_drawn rfl λcdv A outer s H E hr=>(by
  have hU:=hr.units;have hG:=hr.gd;exact(au (aX (i:=2) (by decide) sc_law_places_drawn.nd rfl (Hs rfl) (cB C_law_pick hr rfl (ao (wv 0) (ai (dP (ao ak (ao ak (ao ak (ai ak)))))))))
  (au (aX (i:=3) (by decide) sc_law_places_drawn.nd rfl (Hs rfl) (cB C_law_pick hr rfl (ao (wv 0) (ai (dP (ao ak (ao ak (ao ak (ai (aG oQ ak (aG eZ (wv 2) (bY (tF rfl) rfl T.z_max (by decide +kernel) (ao ak (ai (aG oQ (wv 1) ak)))))))))))))))
  (aJ (cQ (fZ cA rfl T.z_tuple (by decide +kernel) (ai (iB 1 [3,2] rfl rfl rfl (aR.of (sc0:=aq s_law_places_drawn) (N0:=["_law_hand", "_law_many", "_law_stride", "_law_first"]) (N:=["_law_k", "_law_first", "_law_stride"]) (fr:=[none,some 3,some 2]) rfl rfl (by decide +kernel)) (eV rfl T.z_range (ai (wv 1))) (λ_=>⟨(aC (i:=0) (by decide) (show (["_law_k", "_law_first", "_law_stride"]:List Str).Nodup by decide +kernel) rfl (Fx rfl)),eE,(aG cO (wv 1) (aG eZ (wv 2) (wv 0)))⟩)))))))))
noncomputable abbrev s_law_web_drawn:Stmt:=top 10
theorem sc_law_web_drawn:bF ["_law_hand", "_law_many", "_law_most", "_law_sparse", "_law_tree", "_law_places", "_law_ties", "_law_b"] ["_law_hand", "_law_many", "_law_most"] (aq s_law_web_drawn):=⟨rfl,rfl,rfl,by decide +kernel,rfl,by decide +kernel,by decide +kernel⟩
theorem ok_law_web_drawn(Fn:oh K "_law_web_drawn" "_law_web_drawn" s_law_web_drawn f fd)(T:Txt mg)(C_law_shuffled:bA P w K mg base "_law_shuffled" ["_law_hand", "_law_some"] 2 (dZ K FF.aK))(C_law_take:bA P w K mg base "_law_take" ["_law_hand", "_law_many"] 1 (dZ K FF.av))(C_law_places_drawn:bA P w K mg base "_law_places_drawn" ["_law_hand", "_law_many"] 3 (dZ K FF.aU))(C_law_pick:bA P w K mg base "_law_pick" ["_law_hand", "_law_some"] 2 (dZ K FF.ay)):cY P w K mg base j6 4 f fd ["_law_hand", "_law_many", "_law_most"] (dZ K FF.aY) :=
 cM [true,true,true] Fn sc_law_web_drawn rfl λcdv A outer s H E hr=>(by
  have hU:=hr.units;have hG:=hr.gd;exact(au (xE (bR (ao (cB C_law_pick hr rfl (ao (wv 0) (ai (dP (ao ak (ao ak (ao ak (ao ak (ai ak))))))))) (ai (xC (AW hU) (cB C_law_take hr rfl (ao (wv 0) (ai ak))) ak (eX _))))) (jJ 2 rfl (bZ (aC (i:=3) (by decide) sc_law_web_drawn.nd rfl (Hs rfl)) (bZ (aC (i:=4) (by decide) sc_law_web_drawn.nd rfl (Fx rfl)) gX))))
  (au (r9 (i:=5) (j:=6) (by decide) (by decide) (ao (cB C_law_places_drawn hr rfl (ao (wv 0) (ai (wv 1)))) (ai (dP lD))) (λ_ h=>zR (i:=5) (j:=6) rfl sc_law_web_drawn.nd rfl rfl (Hs rfl) (Hs rfl) h rfl))
  (au (gO HI rfl (Ac rfl T.z_range (ao ak (ai (wv 1)))) (aC (i:=7) (by decide) sc_law_web_drawn.nd rfl (Hs rfl)) (au (nG (CH (wv 4)) (aJ (ku (CJ 6 (ai (bR (ao (cB C_law_take hr rfl (ao (wv 0) (ai (wv 7)))) (ai (wv 7))))) (λ_ _ h1 h2=>sO IK M2 PySem.F.type_list_append jx h1 h2) (pv 6)))) gY)
  (aJ (ku (xH 6 (ai (iB 1 [7,6,0,3] rfl rfl rfl (aR.of (sc0:=aq s_law_web_drawn) (N0:=["_law_hand", "_law_many", "_law_most", "_law_sparse", "_law_tree", "_law_places", "_law_ties", "_law_b"]) (N:=["_law_a", "_law_b", "_law_ties", "_law_hand", "_law_sparse"]) (fr:=[none,some 7,some 6,some 0,some 3]) rfl rfl (by decide +kernel)) (eV rfl T.z_range (ai (wv 7))) (λ_=>⟨(aC (i:=0) (by decide) (show (["_law_a", "_law_b", "_law_ties", "_law_hand", "_law_sparse"]:List Str).Nodup by decide +kernel) rfl (Fx rfl)),(r6 (wt_pw (CI (qt hU (bR (ao (wv 0) (ai (wv 1)))) (wv 2)) (Aa (gM (AW hU) (cB C_law_take hr rfl (ao (wv 3) (ai (wv 4)))) ak (eX _)))))),(bR (ao (wv 0) (ai (wv 1))))⟩))) (λ_ _ h1 h2=>sO IK Jh L4 mW h1 h2) (pv 6))))))
  (au (aX (i:=6) (by decide) sc_law_web_drawn.nd rfl (Hs rfl) (bY (cD rfl) rfl T.z_sorted (by decide +kernel) (ai (xD (cB C_law_shuffled hr rfl (ao (wv 0) (ai (wv 6)))) oZ (o4 (wv 2))))))
  (aJ (cQ (bR (ao (wv 5) (ai (fZ cA rfl T.z_tuple (by decide +kernel) (ai (iB 2 [5] rfl rfl rfl (aR.of (sc0:=aq s_law_web_drawn) (N0:=["_law_hand", "_law_many", "_law_most", "_law_sparse", "_law_tree", "_law_places", "_law_ties", "_law_b"]) (N:=["_law_a", "_law_b", "_law_places"]) (fr:=[none,none,some 5]) rfl rfl (by decide +kernel)) (dB (wv 6)) (λ_=>⟨(jJ 2 rfl (bZ (aC (i:=0) (by decide) (show (["_law_a", "_law_b", "_law_places"]:List Str).Nodup by decide +kernel) rfl (Fx rfl)) (bZ (aC (i:=1) (by decide) (show (["_law_a", "_law_b", "_law_places"]:List Str).Nodup by decide +kernel) rfl (Fx rfl)) gX))),eE,(bR (ao (bw hU (wv 2) (wv 0) (λ_ _=>rfl)) (ai (bw hU (wv 2) (wv 1) (λ_ _=>rfl)))))⟩))))))))))))))
noncomputable abbrev s_law_orders_below:Stmt:=top 11
theorem sc_law_orders_below:bF ["_law_many", "_law_found", "_law_turn", "_law_longer", "_law_some"] ["_law_many"] (aq s_law_orders_below):=⟨rfl,rfl,rfl,by decide +kernel,rfl,by decide +kernel,by decide +kernel⟩
theorem ok_law_orders_below(Fn:oh K "_law_orders_below" "_law_orders_below" s_law_orders_below f fd)(T:Txt mg):cY P w K mg base j6 1 f fd ["_law_many"] (dZ K FF.aL) :=
 cM [true] Fn sc_law_orders_below rfl λcdv A outer s H E hr=>(by
  have hU:=hr.units;have hG:=hr.gd;exact(au (aX (i:=1) (by decide) sc_law_orders_below.nd rfl (Fx rfl) (dP (ai (bR lD))))
  (au (gO HI rfl (eV rfl T.z_range (ai (wv 0))) (aC (i:=2) (by decide) sc_law_orders_below.nd rfl (Fx rfl)) (au (aX (i:=3) (by decide) sc_law_orders_below.nd rfl (Fx rfl) (dP lD))
  (au (gO HI rfl (dB (wv 1)) (aC (i:=4) (by decide) sc_law_orders_below.nd rfl (Hs rfl)) (aJ (ku (xH 3 (ai (iB 1 [4] rfl rfl rfl (aR.of (sc0:=aq s_law_orders_below) (N0:=["_law_many", "_law_found", "_law_turn", "_law_longer", "_law_some"]) (N:=["_law_one", "_law_some"]) (fr:=[none,some 4]) rfl rfl (by decide +kernel)) (eV rfl T.z_range (ai (wv 0))) (λ_=>⟨(aC (i:=0) (by decide) (show (["_law_one", "_law_some"]:List Str).Nodup by decide +kernel) rfl (Fx rfl)),(r6 (qt hU (wv 0) (wv 1))),(aG cO (wv 1) (bR (ai (wv 0))))⟩))) (λ_ _ h1 h2=>sO IK Jh L4 mW h1 h2) (pv 3)))))
  (aJ (aX (i:=1) (by decide) sc_law_orders_below.nd rfl (Fx rfl) (wv 3))))))
  (aJ (cQ (wv 1))))))
noncomputable abbrev s_law_least_form:Stmt:=top 12
theorem sc_law_least_form:bF ["_law_web", "_law_orders", "_law_called", "_law_best", "_law_names", "_law_ties"] ["_law_web", "_law_orders"] (aq s_law_least_form):=⟨rfl,rfl,rfl,by decide +kernel,rfl,by decide +kernel,by decide +kernel⟩
theorem ok_law_least_form(Fn:oh K "_law_least_form" "_law_least_form" s_law_least_form f fd)(T:Txt mg):cY P w K mg base j6 1 f fd ["_law_web", "_law_orders"] (dZ K FF.aD) :=
 cM [true,true] Fn sc_law_least_form rfl λcdv A outer s H E hr=>(by
  have hU:=hr.units;have hG:=hr.gd;exact(au (r9 (i:=2) (j:=3) (by decide) (by decide) (ao (CS 1 1 [0] (pv 1) rfl rfl rfl (aR.of (sc0:=aq s_law_least_form) (N0:=["_law_web", "_law_orders", "_law_called", "_law_best", "_law_names", "_law_ties"]) (N:=["_law_some", "_law_web"]) (fr:=[none,some 0]) rfl rfl (by decide +kernel)) (dB (wv 1)) (λ_=>⟨(aC (i:=0) (by decide) (show (["_law_some", "_law_web"]:List Str).Nodup by decide +kernel) rfl (Fx rfl)),eE,(pg rfl rfl T.z_dict rfl T.z_zip (ao (bw hU (wv 1) ak (λ_ _=>rfl)) (ai (wv 0))))⟩)) (ai xB)) (λ_ h=>vZ (i:=2) (j:=3) rfl sc_law_least_form.nd rfl rfl (by decide) rfl rfl h rfl))
  (au (gO HI rfl (dB (wv 2)) (aC (i:=4) (by decide) sc_law_least_form.nd rfl (Hs rfl)) (au (aX (i:=5) (by decide) sc_law_least_form.nd rfl (Fx rfl) (bY (cD rfl) rfl T.z_sorted (by decide +kernel) (ai (iB 2 [4] rfl rfl rfl (aR.of (sc0:=aq s_law_least_form) (N0:=["_law_web", "_law_orders", "_law_called", "_law_best", "_law_names", "_law_ties"]) (N:=["_law_a", "_law_b", "_law_names"]) (fr:=[none,none,some 4]) rfl rfl (by decide +kernel)) (dB (bw hU (wv 0) ak (λ_ _=>rfl))) (λ_=>⟨(jJ 2 rfl (bZ (aC (i:=0) (by decide) (show (["_law_a", "_law_b", "_law_names"]:List Str).Nodup by decide +kernel) rfl (Fx rfl)) (bZ (aC (i:=1) (by decide) (show (["_law_a", "_law_b", "_law_names"]:List Str).Nodup by decide +kernel) rfl (Fx rfl)) gX))),eE,(fZ cA rfl T.z_tuple (by decide +kernel) (ai (bY (cD rfl) rfl T.z_sorted (by decide +kernel) (ai (dP (ao (bw hU (wv 2) (wv 0) (λ_ _=>rfl)) (ai (bw hU (wv 2) (wv 1) (λ_ _=>rfl)))))))))⟩)))))
  (aJ (aX (i:=3) (by decide) sc_law_least_form.nd rfl (Fx rfl) (A7 (gM ov_is (wv 3) xB (eX _)) (wv 5) (Ar rfl hU rfl T.z_min (by decide +kernel) (ao (wv 3) (ai (wv 5)))))))))
  (aJ (cQ (bR (ao (uT rfl rfl T.z_tuple rfl T.z_range (ai (bY jD rfl T.z_len (by decide +kernel) (ai (bw hU (wv 0) ak (λ_ _=>rfl)))))) (ai (fZ cA rfl T.z_tuple (by decide +kernel) (ai (wv 3)))))))))))
noncomputable abbrev s_law:Stmt:=top 13
theorem sc_law:bF ["_law_script", "_law_k", "_law_hand", "_law_many", "_law_web", "_law_orders", "_law_called", "_law_ties", "_law_other", "_law_due", "_law_one", "_law_b", "_law_tie", "_law_less", "_law_changed"] ["_law_script"] (aq s_law):=⟨rfl,rfl,rfl,by decide +kernel,rfl,by decide +kernel,by decide +kernel⟩
theorem ok_law(Fn:oh K "law" "law" s_law f fd)(T:Txt mg)(C_form:bA P w K mg base "form" ["web"] 2 (dZ K FF.bE))(C_law_least_form:bA P w K mg base "_law_least_form" ["_law_web", "_law_orders"] 1 (dZ K FF.aD))(C_law_take:bA P w K mg base "_law_take" ["_law_hand", "_law_many"] 1 (dZ K FF.av))(C_law_shuffled:bA P w K mg base "_law_shuffled" ["_law_hand", "_law_some"] 2 (dZ K FF.aK))(C_law_orders_below:bA P w K mg base "_law_orders_below" ["_law_many"] 1 (dZ K FF.aL))(C_law_web_drawn:bA P w K mg base "_law_web_drawn" ["_law_hand", "_law_many", "_law_most"] 4 (dZ K FF.aY))(C_law_pick:bA P w K mg base "_law_pick" ["_law_hand", "_law_some"] 2 (dZ K FF.ay))(C_law_hand_of:bA P w K mg base "_law_hand_of" ["_law_script", "_law_k"] 1 (dZ K FF.bx)):cY P w K mg base j6 5 f fd ["_law_script"] (dZ K FF.qG) :=
 cM [true] Fn sc_law rfl λcdv A outer s H E hr=>(by
  have hU:=hr.units;have hG:=hr.gd;exact(au (gO HI rfl (eV rfl T.z_range (ai (bY (tF rfl) rfl T.z_max (by decide +kernel) (ao ak (ai (bY (Cj rfl) rfl T.z_min (by decide +kernel) (ao ak (ai (bY jD rfl T.z_len (by decide +kernel) (ai (wv 0))))))))))) (aC (i:=1) (by decide) sc_law.nd rfl (Fx rfl)) (au (aX (i:=2) (by decide) sc_law.nd rfl (Fx rfl) (cB C_law_hand_of hr rfl (ao (wv 0) (ai (wv 1)))))
  (au (aX (i:=3) (by decide) sc_law.nd rfl (Fx rfl) (cB C_law_pick hr rfl (ao (wv 2) (ai (dP (Ab (ns:=[6,5,4,3,2,1,0]) (by decide +kernel)))))))
  (au (r9 (i:=4) (j:=5) (by decide) (by decide) (ao (cB C_law_web_drawn hr rfl (ao (wv 2) (ao (wv 3) (ai ak)))) (ai (cB C_law_orders_below hr rfl (ai (wv 3))))) (λ_ h=>vZ (i:=4) (j:=5) rfl sc_law.nd rfl rfl (by decide) rfl rfl h rfl))
  (au (aX (i:=6) (by decide) sc_law.nd rfl (Hs rfl) (pg rfl rfl T.z_dict rfl T.z_zip (ao (bw hU (wv 4) ak (λ_ _=>rfl)) (ai (cB C_law_shuffled hr rfl (ao (wv 2) (ai (iB 1 [] rfl rfl rfl (aR.of (sc0:=aq s_law) (N0:=["_law_script", "_law_k", "_law_hand", "_law_many", "_law_web", "_law_orders", "_law_called", "_law_ties", "_law_other", "_law_due", "_law_one", "_law_b", "_law_tie", "_law_less", "_law_changed"]) (N:=["_law_j"]) (fr:=[none]) rfl rfl (by decide +kernel)) (eV rfl T.z_range (ai (wv 3))) (λ_=>⟨(aC (i:=0) (by decide) (show (["_law_j"]:List Str).Nodup by decide +kernel) rfl (Fx rfl)),eE,(aG oQ ak (aG eZ ak (wv 0)))⟩)))))))))
  (au (aX (i:=7) (by decide) sc_law.nd rfl (Fx rfl) (bY (cD rfl) rfl T.z_sorted (by decide +kernel) (ai (iB 2 [6] rfl rfl rfl (aR.of (sc0:=aq s_law) (N0:=["_law_script", "_law_k", "_law_hand", "_law_many", "_law_web", "_law_orders", "_law_called", "_law_ties", "_law_other", "_law_due", "_law_one", "_law_b", "_law_tie", "_law_less", "_law_changed"]) (N:=["_law_a", "_law_b", "_law_called"]) (fr:=[none,none,some 6]) rfl rfl (by decide +kernel)) (dB (bw hU (wv 4) ak (λ_ _=>rfl))) (λ_=>⟨(jJ 2 rfl (bZ (aC (i:=0) (by decide) (show (["_law_a", "_law_b", "_law_called"]:List Str).Nodup by decide +kernel) rfl (Fx rfl)) (bZ (aC (i:=1) (by decide) (show (["_law_a", "_law_b", "_law_called"]:List Str).Nodup by decide +kernel) rfl (Fx rfl)) gX))),eE,(fZ cA rfl T.z_tuple (by decide +kernel) (ai (bY (cD rfl) rfl T.z_sorted (by decide +kernel) (ai (dP (ao (bw hU (wv 2) (wv 0) (λ_ _=>rfl)) (ai (bw hU (wv 2) (wv 1) (λ_ _=>rfl)))))))))⟩)))))
  (au (aX (i:=8) (by decide) sc_law.nd rfl (Fx rfl) (bR (ao (fZ cA rfl T.z_tuple (by decide +kernel) (ai (bY (cD rfl) rfl T.z_sorted (by decide +kernel) (ai (xZ rfl rfl T.z_list (wv 6)))))) (ai (fZ cA rfl T.z_tuple (by decide +kernel) (ai (wv 7)))))))
  (au (aX (i:=9) (by decide) sc_law.nd rfl (Fx rfl) (cB C_law_least_form hr rfl (ao (wv 4) (ai (wv 5)))))
  (au (gO HI rfl (dB (bR (ao (wv 4) (ao (wv 8) (ao (wv 9) (ai (wv 4))))))) (aC (i:=10) (by decide) sc_law.nd rfl (Fx rfl)) (aJ (nG (gM xO (bY (kD hU hG) rfl T.z_repr (by decide +kernel) (ai (cB C_form hr rfl (ai (wv 10))))) (bY (kD hU hG) rfl T.z_repr (by decide +kernel) (ai (wv 9))) (eX _)) (aJ (cQ xA)) gY)))
  (aJ (nG (gM AX (wv 3) ak (eX _)) (au (aX (i:=11) (by decide) sc_law.nd rfl (Fx rfl) (aG cO ak (cB C_law_take hr rfl (ao (wv 2) (ai (aG oQ (wv 3) ak))))))
  (au (aX (i:=12) (by decide) sc_law.nd rfl (Hs rfl) (bR (ao (bw hU (bw hU (wv 4) ak (λ_ _=>rfl)) (cB C_law_take hr rfl (ao (wv 2) (ai (wv 11)))) (λ_ _=>rfl)) (ai (bw hU (bw hU (wv 4) ak (λ_ _=>rfl)) (wv 11) (λ_ _=>rfl))))))
  (au (aX (i:=13) (by decide) sc_law.nd rfl (Fx rfl) (fZ cA rfl T.z_tuple (by decide +kernel) (ai (iB 1 [12] rfl rfl rfl (aR.of (sc0:=aq s_law) (N0:=["_law_script", "_law_k", "_law_hand", "_law_many", "_law_web", "_law_orders", "_law_called", "_law_ties", "_law_other", "_law_due", "_law_one", "_law_b", "_law_tie", "_law_less", "_law_changed"]) (N:=["_law_one", "_law_tie"]) (fr:=[none,some 12]) rfl rfl (by decide +kernel)) (dB (bw hU (wv 4) ak (λ_ _=>rfl))) (λ_=>⟨(aC (i:=0) (by decide) (show (["_law_one", "_law_tie"]:List Str).Nodup by decide +kernel) rfl (Fx rfl)),(r6 (gM (ov_ne hU) (wv 0) (wv 1) (eX _))),(wv 0)⟩)))))
  (au (aX (i:=14) (by decide) sc_law.nd rfl (Fx rfl) (bR (ao (bw hU (wv 4) ak (λ_ _=>rfl)) (ai (A7 (wt_in hU (wv 12) (bw hU (wv 4) ak (λ_ _=>rfl))) (wv 13) (fZ cA rfl T.z_tuple (by decide +kernel) (ai (bY (xU rfl) rfl T.z_sorted (by decide +kernel) (ai (aG cO (bw hU (wv 4) ak (λ_ _=>rfl)) (bR (ai (wv 12)))))))))))))
  (aJ (nG (gM xO (bY (kD hU hG) rfl T.z_repr (by decide +kernel) (ai (cB C_form hr rfl (ai (wv 14))))) (bY (kD hU hG) rfl T.z_repr (by decide +kernel) (ai (cB C_law_least_form hr rfl (ao (wv 14) (ai (wv 5)))))) (eX _)) (aJ (cQ xA)) gY)))))) gY)))))))))))
  (aJ (cQ xA))))
end
end Lk13
end
section
open PySem L2 VL
end
section
namespace PA
open PySem L2 VL
theorem gR{α:Type}{xs:List α}{i:Int}(h0:0<=i)(h1:i<(xs.length:Int)):∃x,x∈xs/\mV xs i=some x:=by
 obtain⟨k,rfl⟩:=Hq h0;have hk:k<xs.length:=by lia
 exact⟨xs[k],GT hk,sN (Do hk)⟩
theorem yi{ns:List Int}{i:Int}(h0:0<=i)(h1:i<(ns.length:Int)):∃n,n∈ns/\mV (ns.map Fe) i=some (.int n):=by
 obtain⟨d,h,e⟩:=gR (xs:=ns.map Fe) h0 (by rw[B2]; exact h1)
 obtain⟨n,hn,rfl⟩:=FZ.mp h;exact⟨n,hn,e⟩
theorem tW{a b:Int}(h:0<=b/\(GG a:Int)*b<=2 ^ 27):jg (.v (.int a)) (.v (.int b))=some (.v (.int (a ^ b.toNat))):=if_pos (decide_eq_true h)
noncomputable abbrev pD(p:Int×Int):Ap:=.tuple [.int p.1,.int p.2]
noncomputable abbrev tD(ts:List (Int×Int)):Ap:=.tuple (ts.map pD)
noncomputable abbrev wD(ps:List Int)(ts:List (Int×Int)):Ap:=.tuple [tI ps,tD ts]
noncomputable abbrev enc(t:Int×Int):List Int:=[t.1,t.2]
noncomputable def dec(k:List Int):Int×Int:=(k.getD 0 0,k.getD 1 0)
noncomputable def cL(ts:List (Int×Int)):List (Int×Int):=(iz (ts.map enc)).map dec
theorem qH(ts:List (Int×Int)):(ts.map enc).map dec=ts:=by rw[Ee]; exact JS ts
theorem jQ(ts:List (Int×Int)):iz (ts.map enc)=(cL ts).map enc:=by
 unfold cL;rw[Ee];refine(JS _).symm.trans (Fo λk hk=>?_)
 have hk:=(cP HT.lexLt (ts.map enc)).mem_iff.mp hk;obtain⟨t,_,rfl⟩:=FZ.mp hk;rfl
theorem bS(ts:List (Int×Int)):(cL ts).Perm ts:=by
 have h:=(cP HT.lexLt (ts.map enc)).map dec;rw[qH] at h;exact h
def A9(a b:Int×Int):Prop:=a.1<b.1\/(a.1=b.1/\a.2<b.2)
instance (a b:Int×Int):Decidable (A9 a b):=by unfold A9; infer_instance
theorem uX(a b:Int×Int):HT.lexLt (enc a) (enc b)=decide (A9 a b):=by
 obtain⟨x,y⟩:=a;obtain⟨z,t⟩:=b;unfold enc A9;rw[HT.aV,HT.aV,HT.ie]
 by_cases h1:x=z <;> by_cases h2:y=t <;> by_cases h3:x<z <;> by_cases h4:y<t <;> simp[h1,h2,h3,h4] <;> lia
theorem sj{ts:List (Int×Int)}(nd:ts.Nodup):(cL ts).Pairwise A9:=by
 have h:=gH (lt:=HT.lexLt) cN cT (ts.map enc);rw[show nA HT.lexLt (ts.map enc)=(cL ts).map enc from jQ ts,Gv] at h
 have nd':(cL ts).Nodup:=(bS ts).nodup_iff.mpr nd;refine List.Pairwise.imp₂ (λa b h1 h2=>?_) h nd'
 rw[uX] at h1;have h1:=of_decide_eq_false h1;unfold A9 at h1 ⊢;obtain⟨x,y⟩:=a;obtain⟨z,t⟩:=b
 by_cases e:x=z
 ·by_cases e2:y=t
  ·exact absurd (by rw[e,e2]) h2
  ·simp only at h1 ⊢; lia
 ·simp only at h1 ⊢; lia
theorem lI(ts:List (Int×Int)):rR (ts.map pD)=some (ts.map enc):=by
 have h:=tE (ts.map enc);rw[Ee] at h;exact h
theorem lJ:∀{ts:List (Int×Int)},ts≠[]->eO (ts.map pD)=none
 |[],h=>absurd rfl h
 |t::ts,_=>rfl
theorem eW{ts:List (Int×Int)}(h:ts.length<64):bW [.lst (ts.map pD)]=some (.lst ((cL ts).map pD)):=by
 show (nB (ts.map pD)).bind _=_;unfold nB;rw[if_pos (by rw[B2]; exact h)]
 by_cases e:ts=[]
 ·subst e; rfl
 ·rw[lJ e,lI]
  show (if ((ts.map enc).all λk=> !k.isEmpty)=true then some ((iz (ts.map enc)).map tI) else none).bind _=_
  rw[if_pos (by rw[List.all_map]; simp),jQ,Ee]
  rfl
theorem iP{ns:List Int}(h:ns.length<64):bW [.lst (ns.map .int)]=some (.lst ((sortI ns).map .int)):=by
 show (nB (ns.map .int)).bind _=_;unfold nB;rw[if_pos (by rw[B2]; exact h),fG]
 rfl
theorem sortI_perm(ns:List Int):(sortI ns).Perm ns:=cP _ _
structure Ba(ps:List Int)(ts:List (Int×Int)):Prop where
 rise:ps.Pairwise (· < ·)
 rng:∀p∈ps,0<=p/\p<=99
 few:ps.length<=24
 up:ts.Pairwise A9
 lt:∀t∈ts,t.1<t.2
 ends:∀t∈ts,t.1∈ps/\t.2∈ps
 len:ts.length<=60
theorem fL(n:Nat):aQ 0 (n:Int)=(FD n).map λk:Nat=>Fe (0+(k:Int)):=by
 unfold aQ;rw[Int.sub_zero,GY]
theorem d7{fe:FE}{cs:Ev}{f:Ap->Ap}:∀(ds acc:List Ap)(x:Option M),(∀d∈ds,∃o,fe (some (.v d)::cs)=some (o,some (.v d)::cs)/\cZ o (some (.v d)::cs)=some (f d,some (.v d)::cs))->acc.length+ds.length<=lim ->
  ∃y,bJ (aj 0) cE fe ds (x::cs) acc=some (acc++ds.map f,y::cs)
 |[],acc,x,_,_=>⟨x,by rw[J8,E3]; rfl⟩
 |d::ds,acc,x,h,hl=>by
  obtain⟨o,e1,e2⟩:=h d lS;rw[D1] at hl;obtain⟨y,e3⟩:=d7 (fe:=fe) (cs:=cs) (f:=f) ds (acc++[f d]) (some (.v d)) (λd' hd=>h d' (lO _ hd)) (by rw[Bz,Ft]; lia)
  refine⟨y,?_⟩;show (aj 0 d (x::cs)).bind _=_;rw[show aj 0 d (x::cs)=some (some (.v d)::cs) by simp]
  show (fe (some (.v d)::cs)).bind _=_;rw[e1];show (cZ o (some (.v d)::cs)).bind _=_;rw[e2];show (if acc.length<lim then _ else _)=_
  rw[if_pos (by lia)]
  rw[show bJ (aj 0) cE fe ds (some (.v d)::cs) (acc++[f d])=_ from e3,FN,Bi]
  rfl
theorem iC{α β:Type}{f:α->β}{xs:List α}{i:Nat}{d:β}{ds:List β}(h:d::ds=(xs.drop i).map f):∃x,xs[i]? = some x/\d=f x/\ds=(xs.drop (i+1)).map f:=by
 have hi:i<xs.length:=by
  rcases M6 i xs.length with h1 | h1
  ·exact h1
  ·rw[Lo h1] at h; cases h
 rw[Fv hi,FN] at h
 injection h with h1 h2
 exact⟨xs[i],Do hi,h1,h2⟩
end PA
end
section
namespace PQ
open PySem L2 VL PA
section
variable{ρ:Ev}{i:Nat}
@[simp] theorem vExt_eq{fa:FA}:qx i fa ρ=(cJ ρ i).bind λm0=>match m0 with
 |.lst _=>(fa ρ).bind λp=>match p.1 with
  |[.t (.lst es)]=>(cJ p.2 i).bind λm=>match m with
   |.lst ds=>if ds.length+es.length<=lim then some (.t (.v .none),p.2.set i (some (.lst (ds++es)))) else none
   |_=>none
  |_=>none
 |_=>none:=rfl
@[simp] theorem vIns_eq{fa:FA}:xJ i fa ρ=(cJ ρ i).bind λm0=>match m0 with
 |.lst _=>(fa ρ).bind λp=>match p.1 with
  |[o,o2]=>(peek p.2 o).bind λmk=>match mk with
   |.v (.int k)=>(cZ o2 p.2).bind λq=>(cJ q.2 i).bind λm=>match m with
    |.lst ds=>if 0<=k/\k.toNat<=ds.length/\ds.length<lim then some (.t (.v .none),q.2.set i (some (.lst (ds.take k.toNat++q.1::ds.drop k.toNat)))) else none
    |_=>none
   |_=>none
  |_=>none
 |_=>none:=rfl
end
def Hd(B:Nat)(l:List Ap):Prop:=∃g q t:Int,l=[.int g,.int q,.int t]/\0<=g/\0<=t/\t<=B
theorem Hd.mono{B B':Nat}{l:List Ap}(h:Hd B l)(hb:B<=B'):Hd B' l:=by
 obtain⟨g,q,t,e,h1,h2,h3⟩:=h;exact⟨g,q,t,e,h1,h2,by lia⟩
theorem take{B:Nat}{l:List Ap}{m:Int}(h:Hd B l)(hB:B<=1000000)(hm:0<m)(hm2:m<1073741824):∃ (r:Int) (l':List Ap),0<=r/\r<m/\Hd (B+1) l'/\FF.av [.lst l,.v (.int m)]=some (.v (.int r),[.lst l',.v (.int m)]):=by
 obtain⟨g,q,t,rfl,hg,ht,hb⟩:=h
 by_cases h0:0<g
 ·refine⟨g % m,[.int (g / m),.int q,.int t],LF _ (by lia),Mh _ hm,⟨_,_,_,rfl,Int.ediv_nonneg hg (Int.le_of_lt hm),ht,by lia⟩,?_⟩
  simp[FF.av,FF.dQ,kC,mV,vz,h0,hm,hm2]
 ·have hb' : -18446744073709551616<t+1/\t+1<18446744073709551616:=by lia
  generalize hx:(q+65537*(t+1)*(t+1)+11)*48271 % 2305843009213693921=x;have hx' : -18446744073709551616<x/\x<18446744073709551616:=by lia
  generalize hy:x*(x % 1000003+99991*(t+1)) % 2305843009213693907=y;refine⟨(y / 97+y / 1000033) % m,[.int g,.int q,.int (t+1)],LF _ (by lia),Mh _ hm,⟨_,_,_,rfl,hg,by lia,by lia⟩,?_⟩
  simp[FF.av,FF.dQ,kC,mV,vz,h0,hm,hm2,hx,hx',hb',hy]
theorem pick{B:Nat}{l ds:List Ap}(h:Hd B l)(hB:B<=1000000)(h0:0<ds.length)(h1:ds.length<1000000):∃d l',d∈ds/\Hd (B+1) l'/\FF.ay [.lst l,.lst ds]=some (.v d,[.lst l',.lst ds]):=by
 obtain⟨r,l',r0,r1,hl,e⟩:=take (m:=ds.length) h hB (by lia) (by lia)
 obtain⟨d,hd,ed⟩:=gR (xs:=ds) r0 r1;refine⟨d,l',hd,hl,?_⟩;simp[FF.ay,FF.gf,kC,e,ed]
theorem tZ{B:Nat}{l:List Ap}{ns:List Int}(h:Hd B l)(hB:B<=1000000)(h0:0<ns.length)(h1:ns.length<1000000):∃n l',n∈ns/\Hd (B+1) l'/\FF.ay [.lst l,.lst (ns.map .int)]=some (.v (.int n),[.lst l',.lst (ns.map .int)]):=by
 obtain⟨d,l',hd,hl,e⟩:=pick (ds:=ns.map .int) h hB (by simpa using h0) (by simpa using h1)
 obtain⟨n,hn,rfl⟩:=FZ.mp hd;exact⟨n,l',hn,hl,e⟩
theorem pF{a b:Int}(h:(GG a:Int)+GG b<=2 ^ 20):lE (.v (.int a)) (.v (.int b))=some (.v (.int (a*b))):=if_pos (decide_eq_true h)
theorem CU:∃A B C D C18:Int,0<D/\jg (.v (.int 10)) (.v (.int 60))=some (.v (.int A))/\lE (.v (.int A)) (.v (.int A))=some (.v (.int B))/\lE (.v (.int B)) (.v (.int A))=some (.v (.int C))/\lE (.v (.int C)) (.v (.int A))=some (.v (.int D))/\jg (.v (.int 10)) (.v (.int 18))=some (.v (.int C18)) :=
 ⟨_,_,_,_,_,by decide +kernel,tW ⟨by decide,by decide +kernel⟩,pF (by decide +kernel),pF (by decide +kernel),pF (by decide +kernel),tW ⟨by decide,by decide +kernel⟩⟩
theorem hand(ns:List Int)(k:Int)(hl:ns.length<=63)(hk0:0<=k)(hk:k<=100):∃l,Hd 0 l/\FF.bx [.v (.list (ns.map .int)),.v (.int k)]=some (.lst l,[.v (.list (ns.map .int)),.v (.int k)]):=by
 obtain⟨A,B,C,D,C18,hD,e1,e2,e3,e4,e5⟩:=CU;have hk' : -18446744073709551616<k/\k<18446744073709551616:=by lia
 have fin:∀n:Int,∃l,Hd 0 l/\aN (bg 3 (vB mulM (vB jC (aa 2) (vB lE (vB lE (vB lE (vB jg (vC (.int 10)) (vC (.int 60))) (vB jg (vC (.int 10)) (vC (.int 60)))) (vB jg (vC (.int 10)) (vC (.int 60)))) (vB jg (vC (.int 10)) (vC (.int 60))))) (bQ nC (af (vB DI (aa 2) (vB jg (vC (.int 10)) (vC (.int 18))))))))
   (fm (eT (ah (aa 3) (ah (vB jC (vB cy (vB cy (vB jC (aa 2) (vC (.int 2305843009213693951))) (vB mulM (vC (.int 7919)) (aa 1))) (vC (.int 3))) (vC (.int 2305843009213693951))) (af (vC (.int 0))))))) [some (.v (.list (ns.map .int))),some (.v (.int k)),some (.v (.int n)),none]=some (.rt (.lst l) [some (.v (.list (ns.map .int))),some (.v (.int k)),some (.v (.int n)),some (.v (.int (n % D*(if C18<=n then 1 else 0))))]):=λn=>by
  have hb : -18446744073709551616<(if C18<=n then (1:Int) else 0)/\(if C18<=n then (1:Int) else 0)<18446744073709551616/\0<=(if C18<=n then (1:Int) else 0):=by split <;> lia
  refine⟨[.int (n % D*(if C18<=n then 1 else 0)),.int ((n % 2305843009213693951+7919*k+3) % 2305843009213693951),.int 0],⟨_,_,_,rfl,Int.mul_nonneg (LF _ (by lia)) hb.2.2,ML _,by simp⟩,?_⟩
  refine(aB (ρ1:=[some (.v (.list (ns.map .int))),some (.v (.int k)),some (.v (.int n)),some (.v (.int (n % D*(if C18<=n then 1 else 0))))]) (by simp[e1,e2,e3,e4,e5,hD,hb.1,hb.2.1])).trans ?_
  simp[hk',lim]
 by_cases hlt:k<(ns.length:Int)
 ·obtain⟨n,hn,en⟩:=yi (ns:=ns) hk0 hlt
  obtain⟨l,h1,h2⟩:=fin n;refine⟨l,h1,eF (ρ:=[some (.v (.list (ns.map .int))),some (.v (.int k)),some (.v (.int n)),some (.v (.int (n % D*(if C18<=n then 1 else 0))))]) rfl ?_ rfl⟩
  show FF.cR [some (.v (.list (ns.map .int))),some (.v (.int k)),none,none]=_;refine(aB (ρ1:=[some (.v (.list (ns.map .int))),some (.v (.int k)),some (.v (.int 0)),none]) (by simp)).trans ?_
  exact(aB (ρ1:=[some (.v (.list (ns.map .int))),some (.v (.int k)),some (.v (.int n)),none]) (by simp[hlt,en])).trans h2
 ·obtain⟨l,h1,h2⟩:=fin 0
  refine⟨l,h1,eF (ρ:=[some (.v (.list (ns.map .int))),some (.v (.int k)),some (.v (.int 0)),some (.v (.int (0 % D*(if C18<=0 then 1 else 0))))]) rfl ?_ rfl⟩
  show FF.cR [some (.v (.list (ns.map .int))),some (.v (.int k)),none,none]=_;refine(aB (ρ1:=[some (.v (.list (ns.map .int))),some (.v (.int k)),some (.v (.int 0)),none]) (by simp)).trans ?_
  exact(aB (ρ1:=[some (.v (.list (ns.map .int))),some (.v (.int k)),some (.v (.int 0)),none]) (by simp[hlt])).trans h2
noncomputable abbrev yj:FS:=fY (xJ 2 (ah (fj FF.av (ah (aa 0) (af (vB cy (bQ gk (af (aa 2))) (vC (.int 1)))))) (af (aa 3))))
theorem uY{B:Nat}{l ds:List Ap}(X:Option M)(h:Hd B l)(hB:B+ds.length<=1000000):∃l' es x3,es.Perm ds/\Hd (B+ds.length) l'/\forL (aj 3) yj ds [some (.lst l),X,some (.lst []),none]=some (.nx [some (.lst l'),X,some (.lst es),x3]):=by
 obtain⟨ρ',e,done,l',es,x3,h1,h2,h3,rfl⟩:=g9 (fg:=aj 3) (fb:=yj) (P:=λrest ρ=>∃done l' es x3,done++rest=ds/\es.Perm done/\Hd (B+done.length) l'/\ρ=[some (.lst l'),X,some (.lst es),x3]) ds _ ⟨[],l,[],none,rfl,.nil,h,rfl⟩ (λd rest ρ hP=>by
  obtain⟨done,l',es,x3,h1,h2,h3,rfl⟩:=hP;have hlen:done.length+(rest.length+1)=ds.length:=by rw[<-h1,Bz,D1]
  have hes:=h2.length_eq;obtain⟨r,l2,r0,r1,hl2,e⟩:=take (m:=(es.length:Int)+1) h3 (by lia) (by lia) (by lia)
  refine⟨[some (.lst l'),X,some (.lst es),some (.v d)],[some (.lst l2),X,some (.lst (es.take r.toNat++d::es.drop r.toNat)),some (.v d)],by simp,?_,done++[d],l2,_,_,by rw[Bi]; exact h1,?_,?_,rfl⟩
  ·have hc:r<=(es.length:Int):=by lia
   have hlim:es.length<1000000:=by lia
   simp[yj,e,r0,hc,hlim,lim]
  ·refine Kn.trans ?_
   rw[EZ];exact(List.Perm.cons d h2).trans (Gk (l₁:=[d]) (l₂:=done))
  ·rw[Bz,Ft]; exact hl2)
 rw[E3] at h1;subst h1;exact⟨l',es,x3,h2,h3,e⟩
theorem Bb{B:Nat}{l ds:List Ap}(h:Hd B l)(hB:B+ds.length<=1000000):∃l' es,es.Perm ds/\Hd (B+ds.length) l'/\FF.aK [.lst l,.lst ds]=some (.lst es,[.lst l',.v (.list ds)]):=by
 obtain⟨l',es,x3,h1,h2,e⟩:=uY (ds:=ds) (some (.v (.list ds))) h hB;refine⟨l',es,h1,h2,eF (ρ:=[some (.lst l'),some (.v (.list ds)),none,x3]) rfl ?_ rfl⟩;show FF.dW [some (.lst l),some (.lst ds),none,none]=_;refine(aB (ρ1:=[some (.lst l),some (.lst ds),some (.lst []),none]) (by simp[lim])).trans ?_
 refine(aB (ρ1:=[some (.lst l'),some (.v (.list ds)),some (.lst es),x3]) ?_).trans (by simp)
 simp[e]
noncomputable def sr(f s:Int)(n:Nat):List Int:=(FD n).map λ(k:Nat)=>f+s*(k:Int)
theorem uZ{f s:Int}{n:Nat}(hs:0<s):(sr f s n).Pairwise (· < ·):=by
 unfold sr;rw[Gv];refine LO (λ{a b}h=>?_) (Ln (n:=n))
 have h':(a:Int)<(b:Int):=by lia
 have:=Int.mul_lt_mul_of_pos_left h' hs;lia
theorem yk(f s:Int)(n:Nat):(sr f s n).length=n:=by unfold sr; rw[B2,Fj]
theorem places{B:Nat}{l:List Ap}{n:Nat}(h:Hd B l)(hB:B<=100000)(hn:n<=24):∃l' ps,ps.length=n/\ps.Pairwise (· < ·)/\(∀p∈ps,0<=p/\p<=99)/\Hd (B+2) l'/\FF.aU [.lst l,.v (.int (n:Int))]=some (.v (tI ps),[.lst l',.v (.int (n:Int))]):=by
 obtain⟨s,l1,hs,hl1,e1⟩:=tZ (ns:=[1,1,3,4]) h (by lia) (by decide) (by decide)
 have hs':s=1\/s=3\/s=4:=by simpa using hs
 generalize hmx:(if 1<(n:Int) then (n:Int)-1 else 0)=mx
 have hmx':0<=mx/\mx<=23/\((n:Int)<=mx+1):=by rw[<-hmx]; split <;> lia
 obtain⟨f,l2,hf,hl2,e2⟩:=tZ (ns:=[0,0,5,99-s*mx]) hl1 (by lia) (by simp) (by simp)
 have hf':f=0\/f=5\/f=99-s*mx:=by simpa using hf
 have hsm:cu (n:Int)=true:=decide_eq_true (by unfold j9; lia)
 obtain⟨y,ec⟩:=d7 (fe:=vB cy (aa 1) (vB mulM (aa 2) (aa 0))) (cs:=[some (.v (.int f)),some (.v (.int s))]) (f:=λd=>match d with | .int k=>.int (f+s*k) | _=>.none) (aQ 0 (n:Int)) [] none (λd hd=>by
  rw[fL] at hd;obtain⟨k,hk,rfl⟩:=FZ.mp hd;refine⟨.t (.v (.int (f+s*(0+(k:Int))))),?_,rfl⟩;have hss : -18446744073709551616<s/\s<18446744073709551616:=by lia
  simp[hss]) (by rw[fL,B2,Fj,FC]; unfold lim; lia)
 have emap:(aQ 0 (n:Int)).map (λd=>match d with | .int k=>Fe (f+s*k) | _=>.none)=(sr f s n).map .int:=by
  rw[fL,Ee];unfold sr;rw[Ee];refine Fo λk _=>?_
  simp
 rw[emap,Fm] at ec;refine⟨l2,sr f s n,yk _ _ _,uZ (by lia),λp hp=>?_,hl2,?_⟩
 ·obtain⟨k,hk,rfl⟩:=FZ.mp hp
  have hk:=Hj.mp hk;rcases hs' with rfl | rfl | rfl <;> rcases hf' with rfl | rfl | rfl <;> lia
 ·have hss : -18446744073709551616<s/\s<18446744073709551616:=by lia
  have e1:FF.ay [.lst l,.lst [.int 1,.int 1,.int 3,.int 4]]=some (.v (.int s),[.lst l1,.lst [.int 1,.int 1,.int 3,.int 4]]):=e1;have e2:FF.ay [.lst l1,.lst [.int 0,.int 0,.int 5,.int (99-s*mx)]]=some (.v (.int f),[.lst l2,.lst [.int 0,.int 0,.int 5,.int (99-s*mx)]]):=e2;refine eF (ρ:=[some (.lst l2),some (.v (.int (n:Int))),some (.v (.int s)),some (.v (.int f))]) rfl ?_ rfl;show FF.cV [some (.lst l),some (.v (.int (n:Int))),none,none]=_;refine(aB (ρ1:=[some (.lst l1),some (.v (.int (n:Int))),some (.v (.int s)),none]) (by simp[lim,e1])).trans ?_
  refine(aB (ρ1:=[some (.lst l2),some (.v (.int (n:Int))),some (.v (.int s)),some (.v (.int f))]) (by simp[lim,hmx,hss,e2])).trans ?_
  simp[hsm,ec,tI]
theorem pG(a b:Int×Int):FM (pD a) (pD b)=decide (a=b):=by
 obtain⟨x,y⟩:=a;obtain⟨z,t⟩:=b
 by_cases h1:x=z <;> by_cases h2:y=t <;> simp[pD,FM,JO,h1,h2]
theorem jn(ts:List (Int×Int))(p:Int×Int):((ts.map pD).any λd=>FM d (pD p))=decide (p∈ts):=by
 rw[List.any_map]
 induction ts with
 |nil=>simp
 |cons t ts ih=>
  rw[Ha,ih];show (FM (pD t) (pD p) || _)=_
  rw[pG]
  by_cases h:t=p
  ·simp[h]
  ·simp[h,HZ h]
theorem d8:∀ts:List (Int×Int),EQ (ts.map pD)=true
 |[]=>rfl
 |t::ts=>by
  show (Fw (pD t) && EQ (ts.map pD))=true;rw[d8 ts];rfl
theorem lN(neg:Bool)(ts:List (Int×Int))(p:Int×Int):pO neg (.v (pD p)) (.lst (ts.map pD))=some (.v (.bool (if neg then !decide (p∈ts) else decide (p∈ts)))):=by
 show (if okIn (ts.map pD) (pD p)=true then some (M.v (.bool (if neg then !((ts.map pD).any λd=>FM d (pD p)) else (ts.map pD).any λd=>FM d (pD p)))) else none)=_
 rw[jn,if_pos];unfold okIn;rw[d8];rfl
theorem nL{n k x:Nat}(h:(FD n)[k]? = some x):x=k/\k<n:=by
 obtain⟨h1,e⟩:=EY.mp h;rw[MT] at e;rw[Fj] at h1;exact⟨e.symm,h1⟩
structure Row(b:Nat)(tys:List (Int×Int)):Prop where
 nd:tys.Nodup
 bd:∀t∈tys,0<=t.1/\t.1<t.2/\t.2<b
 ln:tys.length<=30*b
noncomputable abbrev su:FT:=uK (cK (vB (pO true) (cz (ah (aa 0) (af (aa 1)))) (aa 2))) (cK (vB (rP false) (fj FF.av (ah (aa 3) (af (aa 4)))) (vC (.int 0))))
noncomputable abbrev ym:FE:=cz (ah (aa 0) (af (aa 1)))
theorem yo{B b:Nat}{l:List Ap}{tys:List (Int×Int)}{sp:Int}(h:Hd B l)(hB:B+b<=1000000)(hb:b<=1000)(hs:0<sp)(hs2:sp<1000):∃ (acc:List (Int×Int)) (l':List Ap) (x0:Option M),Hd (B+b) l'/\acc.Nodup/\(∀t∈acc,t.2=(b:Int)/\0<=t.1/\t.1<(b:Int)/\t∉tys)/\acc.length<=b /\
  bJ (aj 0) su ym (aQ 0 (b:Int)) [none,some (.v (.int (b:Int))),some (.lst (tys.map pD)),some (.lst l),some (.v (.int sp))] []=some (acc.map pD,[x0,some (.v (.int (b:Int))),some (.lst (tys.map pD)),some (.lst l'),some (.v (.int sp))]):=by
 obtain⟨acc,ρ',e,k,acc',l',x0,hk,hkl,h1,h2,h3,h4,h5,rfl⟩:=qw (fg:=aj 0) (ft:=su) (fe:=ym) (P:=λrest acc ρ=>∃ (k:Nat) (acc':List (Int×Int)) (l':List Ap) (x0:Option M),rest=((FD b).drop k).map (λk:Nat=>Fe (0+(k:Int)))/\k<=b/\acc=acc'.map pD/\Hd (B+k) l'/\acc'.Nodup/\(∀t∈acc',t.2=(b:Int)/\0<=t.1/\t.1<(k:Int)/\t∉tys)/\acc'.length<=k/\ρ=[x0,some (.v (.int (b:Int))),some (.lst (tys.map pD)),some (.lst l'),some (.v (.int sp))])
  (aQ 0 (b:Int)) _ [] ⟨0,[],l,none,by rw[fL]; rfl,FV _,rfl,h,G7,λt ht=>by simp at ht,Da _,rfl⟩ (λd rest acc ρ hP=>by
   obtain⟨k,acc',l',x0,hr,hkb,rfl,hl,nd,bd,ln,rfl⟩:=hP;obtain⟨x,hx,rfl,hr'⟩:=iC hr;obtain⟨rfl,hkn⟩:=nL hx;have hin:=lN true tys (0+(x:Int),(b:Int));obtain⟨r,l2,r0,r1,hl2,et⟩:=take (m:=sp) hl (by lia) hs (by lia)
   refine⟨by rw[B2]; unfold lim; lia,[some (.v (.int (0+(x:Int)))),some (.v (.int (b:Int))),some (.lst (tys.map pD)),some (.lst l'),some (.v (.int sp))],?_⟩
   by_cases hm:(0+(x:Int),(b:Int))∈tys
   ·refine⟨false,[some (.v (.int (0+(x:Int)))),some (.v (.int (b:Int))),some (.lst (tys.map pD)),some (.lst l'),some (.v (.int sp))],by simp,?_,.inl ⟨rfl,x+1,acc',l',_,hr',by lia,rfl,hl.mono (by lia),nd,λt ht=>?_,by lia,rfl⟩⟩
    ·have hm':((x:Int),(b:Int))∈tys:=by simpa using hm
     have hin':pO true (.v (.tuple [.int (x:Int),.int (b:Int)])) (.lst (tys.map pD))=some (.v (.bool false)):=by have:=lN true tys ((x:Int),(b:Int)); simpa[hm'] using this
     simp[su,lim,hin']
    ·have:=bd t ht
     exact⟨this.1,this.2.1,by lia,this.2.2.2⟩
   ·have hm':((x:Int),(b:Int))∉tys:=by simpa using hm
    have hin':pO true (.v (.tuple [.int (x:Int),.int (b:Int)])) (.lst (tys.map pD))=some (.v (.bool true)):=by have:=lN true tys ((x:Int),(b:Int)); simpa[hm'] using this
    by_cases h0:r=0
    ·refine⟨true,[some (.v (.int (0+(x:Int)))),some (.v (.int (b:Int))),some (.lst (tys.map pD)),some (.lst l2),some (.v (.int sp))],by simp,?_,.inr ⟨rfl,.t (.v (pD (0+(x:Int),(b:Int)))),[some (.v (.int (0+(x:Int)))),some (.v (.int (b:Int))),some (.lst (tys.map pD)),some (.lst l2),some (.v (.int sp))],pD (0+(x:Int),(b:Int)),_,?_,rfl,x+1,acc'++[(0+(x:Int),(b:Int))],l2,_,hr',by lia,by rw[HS]; rfl,hl2,?_,λt ht=>?_,?_,rfl⟩⟩
     ·simp[su,lim,hin',et,h0]
     ·simp[ym,lim]
     ·rw[E4]
      refine⟨nd,Fb.mpr ⟨by simp,G7⟩,λu hu v hv e=>?_⟩
      rw[Bn] at hv;have:=bd u hu;rw[e,hv] at this;simp at this
     ·rcases lM ht with h | h
      ·have:=bd t h
       exact⟨this.1,this.2.1,by lia,this.2.2.2⟩
      ·rw[Bn] at h
       subst h;exact⟨rfl,by simp,by simp; lia,hm⟩
     ·rw[Bz,Ft]; lia
    ·refine⟨false,[some (.v (.int (0+(x:Int)))),some (.v (.int (b:Int))),some (.lst (tys.map pD)),some (.lst l2),some (.v (.int sp))],by simp,?_,.inl ⟨rfl,x+1,acc',l2,_,hr',by lia,rfl,hl2,nd,λt ht=>?_,by lia,rfl⟩⟩
     ·simp[su,lim,hin',et,h0]
     ·have:=bd t ht
      exact⟨this.1,this.2.1,by lia,this.2.2.2⟩)
 subst h1;have hkb:k=b:=by
  have:=congrArg Iw hk;rw[FC,B2,FP,Fj] at this;lia
 subst hkb;exact⟨acc',l',x0,h2,h3,h4,h5,e⟩
noncomputable abbrev rowS:FS:=aN (jh (w9 (aa 4)) (fY (uP 6 (af (cz (ah (fj FF.av (ah (aa 0) (af (aa 7)))) (af (aa 7))))))) eu)
 (fY (qx 6 (af (kc 1 [7,6,0,3] (bX eB (af (aa 7))) (aj 0) su ym))))
theorem row{mo:Int}{B b:Nat}{l:List Ap}{tys:List (Int×Int)}{sp n:Int}{tree:Bool}{P:Ap}(h:Hd B l)(hB:B+b+1<=1000000)(hb0:0<b)(hb:b<=24)(hs:0<sp)(hs2:sp<1000)(hT:Row b tys):∃l' tys',Hd (B+b+1) l'/\Row (b+1) tys' /\
  rowS [some (.lst l),some (.v (.int n)),some (.v (.int mo)),some (.v (.int sp)),some (.v (.bool tree)),some (.v P),some (.lst (tys.map pD)),some (.v (.int (b:Int)))]=some (.nx [some (.lst l'),some (.v (.int n)),some (.v (.int mo)),some (.v (.int sp)),some (.v (.bool tree)),some (.v P),some (.lst (tys'.map pD)),some (.v (.int (b:Int)))]):=by
 have hsm:cu (b:Int)=true:=decide_eq_true (by unfold j9; lia)
 have fin:∀(B':Nat)(l1:List Ap)(t1:List (Int×Int)),B'<=B+1->Hd B' l1->t1.Nodup->(∀t∈t1,0<=t.1/\t.1<t.2/\t.2<b+1)->t1.length<=30*b+1->∃l' tys',Hd (B+b+1) l'/\Row (b+1) tys' /\
   fY (qx 6 (af (kc 1 [7,6,0,3] (bX eB (af (aa 7))) (aj 0) su ym))) [some (.lst l1),some (.v (.int n)),some (.v (.int mo)),some (.v (.int sp)),some (.v (.bool tree)),some (.v P),some (.lst (t1.map pD)),some (.v (.int (b:Int)))]=some (.nx [some (.lst l'),some (.v (.int n)),some (.v (.int mo)),some (.v (.int sp)),some (.v (.bool tree)),some (.v P),some (.lst (tys'.map pD)),some (.v (.int (b:Int)))]):=λB' l1 t1 hB' h1 nd bd ln=>by
  obtain⟨acc,l',x0,hl',nd',bd',ln',e⟩:=yo (tys:=t1) (sp:=sp) (b:=b) h1 (by lia) (by lia) hs hs2
  refine⟨l',t1++acc,hl'.mono (by lia),⟨?_,λt ht=>?_,?_⟩,?_⟩
  ·rw[E4]
   exact⟨nd,nd',λu hu v hv e=>(bd' v hv).2.2.2 (e▸hu)⟩
  ·rcases lM ht with h | h
   ·have:=bd t h
    exact⟨this.1,this.2.1,by lia⟩
   ·have:=bd' t h
    exact⟨this.2.1,by lia,by lia⟩
  ·rw[Bz]; lia
  ·have hlim:t1.length+acc.length<=1000000:=by lia
   simp[hsm,e,hlim,lim]
 cases tree with
 |false=>
  obtain⟨l',tys',k1,k2,e⟩:=fin B l tys (by lia) h hT.nd (λt ht=>by have:=hT.bd t ht; exact⟨this.1,this.2.1,by lia⟩) (by have:=hT.ln; lia)
  exact⟨l',tys',k1,k2,(aB (ρ1:=[some (.lst l),some (.v (.int n)),some (.v (.int mo)),some (.v (.int sp)),some (.v (.bool false)),some (.v P),some (.lst (tys.map pD)),some (.v (.int (b:Int)))]) (by simp)).trans e⟩
 |true=>
  obtain⟨r,l1,r0,r1,hl1,et⟩:=take (m:=(b:Int)) h (by lia) (by lia) (by lia)
  have hlim:tys.length<1000000:=by have:=hT.ln; lia
  obtain⟨l',tys',k1,k2,e⟩:=fin (B+1) l1 (tys++[(r,(b:Int))]) (by lia) hl1 (by
   rw[E4];refine⟨hT.nd,Fb.mpr ⟨by simp,G7⟩,λu hu v hv e=>?_⟩
   rw[Bn] at hv;have:=hT.bd u hu;rw[e,hv] at this;simp at this) (λt ht=>by
   rcases lM ht with h | h
   ·have:=hT.bd t h
    exact⟨this.1,this.2.1,by lia⟩
   ·rw[Bn] at h
    subst h;exact⟨r0,r1,by simp; lia⟩) (by rw[Bz,Ft]; have:=hT.ln; lia)
  refine⟨l',tys',k1,k2,(aB (ρ1:=[some (.lst l1),some (.v (.int n)),some (.v (.int mo)),some (.v (.int sp)),some (.v (.bool true)),some (.v P),some (.lst ((tys++[(r,(b:Int))]).map pD)),some (.v (.int (b:Int)))]) ?_).trans e⟩;simp[et,lim,hlim]
theorem rows{mo:Int}{B n:Nat}{l:List Ap}{sp:Int}{tree:Bool}{P:Ap}(h:Hd B l)(hB:B<=100000)(hn:n<=24)(hs:0<sp)(hs2:sp<1000):∃l' tys x7,Hd (B+30*n) l'/\Row n tys /\
  forL (aj 7) rowS (aQ 1 (n:Int)) [some (.lst l),some (.v (.int (n:Int))),some (.v (.int mo)),some (.v (.int sp)),some (.v (.bool tree)),some (.v P),some (.lst []),none]=some (.nx [some (.lst l'),some (.v (.int (n:Int))),some (.v (.int mo)),some (.v (.int sp)),some (.v (.bool tree)),some (.v P),some (.lst (tys.map pD)),x7]):=by
 have hr:aQ 1 (n:Int)=(FD (n-1)).map λk:Nat=>Fe (1+(k:Int)):=by
  unfold aQ;rw[show ((n:Int)-1).toNat=n-1 by lia]
 obtain⟨ρ',e,k,l',tys,x7,hk,hkl,h1,h2,rfl⟩:=g9 (fg:=aj 7) (fb:=rowS) (P:=λrest ρ=>∃ (k:Nat) (l':List Ap) (tys:List (Int×Int)) (x7:Option M),rest=((FD (n-1)).drop k).map (λk:Nat=>Fe (1+(k:Int)))/\k<=n-1/\Hd (B+30*k) l'/\Row (k+1) tys/\ρ=[some (.lst l'),some (.v (.int (n:Int))),some (.v (.int mo)),some (.v (.int sp)),some (.v (.bool tree)),some (.v P),some (.lst (tys.map pD)),x7])
  (aQ 1 (n:Int)) _ ⟨0,l,[],none,hr,FV _,h,⟨G7,λt ht=>by simp at ht,FV _⟩,rfl⟩ (λd rest ρ hP=>by
   obtain⟨k,l',tys,x7,hk,hkl,h1,h2,rfl⟩:=hP;obtain⟨x,hx,rfl,hr'⟩:=iC hk;obtain⟨rfl,hkn⟩:=nL hx;obtain⟨l2,tys2,k1,k2,e⟩:=row (b:=x+1) (n:=(n:Int)) (tree:=tree) (P:=P) h1 (by lia) (by lia) (by lia) hs hs2 h2
   refine⟨[some (.lst l'),some (.v (.int (n:Int))),some (.v (.int mo)),some (.v (.int sp)),some (.v (.bool tree)),some (.v P),some (.lst (tys.map pD)),some (.v (.int ((x+1:Nat):Int)))],_,?_,e,x+1,l2,tys2,_,hr',by lia,k1.mono (by lia),k2,rfl⟩
   simp;lia)
 have hkn:k=n-1:=by
  have:=congrArg Iw hk;rw[FC,B2,FP,Fj] at this;lia
 subst hkn;refine⟨l',tys,x7,h1.mono (by lia),?_,e⟩
 by_cases h0:n=0
 ·subst h0
  have:tys=[]:=by
   cases tys with
   |nil=>rfl
   |cons t ts=>have:=h2.bd t lS; lia
  subst this;exact⟨G7,λt ht=>by simp at ht,FV _⟩
 ·rw[show n-1+1=n by lia] at h2
  exact h2
theorem nM(ds:List Ap)(k:Nat):cutD ds none (some (k:Int))=ds.take k:=by
 unfold cutD;rw[HT.p5,HT.sJ,M5,Hl]
 by_cases h:k<=ds.length
 ·rw[LD h]
 ·rw[Nat.min_eq_right (by lia),HB,Gu (by lia)]
noncomputable def yp:Ap->Int×Int
 |.tuple [.int a,.int b]=>(a,b)
 |_=>(0,0)
theorem As(ts:List (Int×Int)):(ts.map pD).map yp=ts:=by
 rw[Ee];exact JS ts
theorem sy{es:List Ap}{ts:List (Int×Int)}(h:es.Perm (ts.map pD)):∃ts':List (Int×Int),es=ts'.map pD/\ts'.Perm ts:=by
 refine⟨es.map yp,?_,?_⟩
 ·rw[Ee]
  refine(JS es).symm.trans (Fo λe he=>?_)
  obtain⟨t,_,rfl⟩:=FZ.mp (h.mem_iff.mp he);rfl
 ·have:=h.map yp
  rw[As] at this;exact this
noncomputable def DP:Ap->Int
 |.int a=>a
 |_=>0
theorem u7{es:List Ap}{ns:List Int}(h:es.Perm (ns.map .int)):∃ns':List Int,es=ns'.map .int/\ns'.Perm ns:=by
 refine⟨es.map DP,?_,?_⟩
 ·rw[Ee]
  refine(JS es).symm.trans (Fo λe he=>?_)
  obtain⟨t,_,rfl⟩:=FZ.mp (h.mem_iff.mp he);rfl
 ·have:=h.map DP
  rw[Ee] at this;exact this.trans (by rw[show ns.map (DP∘Fe)=ns from JS ns])
theorem fM{fe:FE}{cs:Ev}{f:Int×Int->Ap}:∀(ts:List (Int×Int))(acc:List Ap)(x y:Option M),(∀t∈ts,∃o,fe (some (.v (.int t.1))::some (.v (.int t.2))::cs)=some (o,some (.v (.int t.1))::some (.v (.int t.2))::cs)/\cZ o (some (.v (.int t.1))::some (.v (.int t.2))::cs)=some (f t,some (.v (.int t.1))::some (.v (.int t.2))::cs))->acc.length+ts.length<=lim ->
  ∃x' y',bJ (dS 2 (aW (aj 0) (aW (aj 1) ez))) cE fe (ts.map pD) (x::y::cs) acc=some (acc++ts.map f,x'::y'::cs)
 |[],acc,x,y,_,_=>⟨x,y,by rw[J8,J8,E3]; rfl⟩
 |t::ts,acc,x,y,h,hl=>by
  obtain⟨o,e1,e2⟩:=h t lS;rw[D1] at hl;obtain⟨x',y',e3⟩:=fM (fe:=fe) (cs:=cs) (f:=f) ts (acc++[f t]) (some (.v (.int t.1))) (some (.v (.int t.2))) (λd' hd=>h d' (lO _ hd)) (by rw[Bz,Ft]; lia)
  refine⟨x',y',?_⟩;show (dS 2 (aW (aj 0) (aW (aj 1) ez)) (pD t) (x::y::cs)).bind _=_;rw[show dS 2 (aW (aj 0) (aW (aj 1) ez)) (pD t) (x::y::cs)=some (some (.v (.int t.1))::some (.v (.int t.2))::cs) by simp]
  show (fe (some (.v (.int t.1))::some (.v (.int t.2))::cs)).bind _=_;rw[e1];show (cZ o (some (.v (.int t.1))::some (.v (.int t.2))::cs)).bind _=_;rw[e2];show (if acc.length<lim then _ else _)=_
  rw[if_pos (by lia)]
  rw[show bJ (dS 2 (aW (aj 0) (aW (aj 1) ez))) cE fe (ts.map pD) (some (.v (.int t.1))::some (.v (.int t.2))::cs) (acc++[f t])=_ from e3,FN,Bi]
  rfl
noncomputable def fW(ps:List Int)(i:Int):Int:=ps.getD i.toNat 0
theorem fN{ps:List Int}{i:Int}(h0:0<=i)(h1:i<ps.length):mV (ps.map Fe) i=some (.int (fW ps i))/\fW ps i∈ps:=by
 obtain⟨k,rfl⟩:=Hq h0;have hk:k<ps.length:=by lia
 have e:fW ps (k:Int)=ps[k]:=by
  unfold fW;rw[GY,FJ,Do hk];rfl
 refine⟨sN (by rw[Fs,Do hk,e]; rfl),by rw[e]; exact GT hk⟩
theorem pH{ps:List Int}(rise:ps.Pairwise (· < ·)){i j:Int}(h0:0<=i)(h1:i<j)(h2:j<ps.length):fW ps i<fW ps j:=by
 obtain⟨k,rfl⟩:=Hq h0;obtain⟨m,rfl⟩:=Hq (show 0<=j by lia)
 have hk:k<ps.length:=by lia
 have hm:m<ps.length:=by lia
 unfold fW;rw[GY,GY,FJ,FJ,Do hk,Do hm];exact(GQ.mp rise) k m hk hm (by lia)
theorem webM(mo:Nat)(hmo:mo<=60){B n:Nat}{l:List Ap}(h:Hd B l)(hB:B<=900)(hn:n<=24):∃l' ps ts,Hd (B+2000) l'/\Ba ps ts/\ps.length=n/\ts.length<=mo/\FF.aY [.lst l,.v (.int (n:Int)),.v (.int (mo:Int))]=some (.v (wD ps ts),[.lst l',.v (.int (n:Int)),.v (.int (mo:Int))]):=by
 obtain⟨sp,l1,hsp,hl1,e1⟩:=tZ (ns:=[2,3,5,9,1]) h (by lia) (by decide) (by decide)
 have hsp':0<sp/\sp<1000:=by
  simp only[HG,Fg,or_false] at hsp;lia
 obtain⟨tr,l2,tr0,tr1,hl2,e2⟩:=take (m:=2) hl1 (by lia) (by decide) (by decide)
 obtain⟨l3,ps,hlen,rise,rng,hl3,e3⟩:=places (n:=n) hl2 (by lia) hn
 obtain⟨l4,tys,x7,hl4,hT,e4⟩:=rows (n:=n) (sp:=sp) (tree:=decide (tr=0)) (P:=tI ps) hl3 (by lia) hn hsp'.1 hsp'.2
 have hln:(tys.map pD).length<=720:=by rw[B2]; have:=hT.ln; lia
 obtain⟨l5,es,hp,hl5,e5⟩:=Bb (ds:=tys.map pD) hl4 (by lia)
 obtain⟨tys',rfl,hp'⟩:=sy hp;have nd':(tys'.take mo).Nodup:=((hp'.nodup_iff.mpr hT.nd)).sublist (KZ _ _);have e6:=eW (ts:=tys'.take mo) (by rw[FH]; lia)
 generalize hix:cL (tys'.take mo)=ix at e6;have hixp:ix.Perm (tys'.take mo):=hix▸bS _;have hup:ix.Pairwise A9:=hix▸sj nd';have hbd:∀t∈ix,0<=t.1/\t.1<t.2/\t.2<n:=λt ht=>hT.bd t (hp'.mem_iff.mp (Ge (hixp.mem_iff.mp ht)))
 have hl60:ix.length<=60:=by rw[hixp.length_eq,FH]; lia
 obtain⟨z1,z2,e7⟩:=fM (fe:=cz (ah (cH (aa 2) (aa 0)) (af (cH (aa 2) (aa 1))))) (cs:=[some (.v (tI ps))]) (f:=λt=>pD (fW ps t.1,fW ps t.2)) ix [] none none (λt ht=>by
  have hb:=hbd t ht;have g1:=(fN (ps:=ps) (i:=t.1) hb.1 (by lia)).1
  have g2:=(fN (ps:=ps) (i:=t.2) (by lia) (by lia)).1
  refine⟨.t (.v (pD (fW ps t.1,fW ps t.2))),?_,rfl⟩;simp[tI,g1,g2,lim]) (by rw[FC]; unfold lim; lia)
 rw[Fm] at e7;refine⟨l5,ps,ix.map λt=>(fW ps t.1,fW ps t.2),hl5.mono (by lia),⟨rise,rng,by lia,?_,λt ht=>?_,λt ht=>?_,by rw[B2]; exact hl60⟩,hlen,by rw[B2,hixp.length_eq,FH]; lia,?_⟩
 ·rw[Gv]
  refine List.Pairwise.imp_of_mem (λ{a b}ha hb hab=>?_) hup
  have ba:=hbd a ha;have bb:=hbd b hb;rcases hab with h | ⟨h,h'⟩
  ·exact .inl (pH rise ba.1 h (by lia))
  ·exact .inr ⟨by simp only; rw[h],pH rise (by lia) h' (by lia)⟩
 ·obtain⟨u,hu,rfl⟩:=FZ.mp ht
  have b:=hbd u hu;exact pH rise b.1 b.2.1 (by lia)
 ·obtain⟨u,hu,rfl⟩:=FZ.mp ht
  have b:=hbd u hu;exact⟨(fN b.1 (by lia)).2,(fN (by lia) (by lia)).2⟩
 ·have e1:FF.ay [.lst l,.lst [.int 2,.int 3,.int 5,.int 9,.int 1]]=some (.v (.int sp),[.lst l1,.lst [.int 2,.int 3,.int 5,.int 9,.int 1]]):=e1
  have hsm:cu (n:Int)=true:=decide_eq_true (by unfold j9; lia)
  have hsm1:cu 1=true:=rfl;have hcut:cutD (tys'.map pD) none (some (mo:Int))=(tys'.map pD).take mo:=nM _ _;rw[Ip] at e6;refine eF (ρ:=[some (.lst l5),some (.v (.int (n:Int))),some (.v (.int (mo:Int))),some (.v (.int sp)),some (.v (.bool (decide (tr=0)))),some (.v (tI ps)),some (.v (.list (ix.map pD))),x7]) rfl ?_ rfl;show FF.dM [some (.lst l),some (.v (.int (n:Int))),some (.v (.int (mo:Int))),none,none,none,none,none]=_;refine(aB (ρ1:=[some (.lst l2),some (.v (.int (n:Int))),some (.v (.int (mo:Int))),some (.v (.int sp)),some (.v (.bool (decide (tr=0)))),none,none,none]) (by simp[lim,e1,e2])).trans ?_
  refine(aB (ρ1:=[some (.lst l3),some (.v (.int (n:Int))),some (.v (.int (mo:Int))),some (.v (.int sp)),some (.v (.bool (decide (tr=0)))),some (.v (tI ps)),some (.lst []),none]) (by simp[lim,e3])).trans ?_
  refine(aB (ρ1:=[some (.lst l4),some (.v (.int (n:Int))),some (.v (.int (mo:Int))),some (.v (.int sp)),some (.v (.bool (decide (tr=0)))),some (.v (tI ps)),some (.lst (tys.map pD)),x7]) (by simp[hsm,hsm1]; exact e4)).trans ?_
  refine(aB (ρ1:=[some (.lst l5),some (.v (.int (n:Int))),some (.v (.int (mo:Int))),some (.v (.int sp)),some (.v (.bool (decide (tr=0)))),some (.v (tI ps)),some (.lst (ix.map pD)),x7]) (by simp[e5,hcut,e6])).trans ?_
  simp[e7,lim]
theorem yq{kvs:List (Key×Ap)}{k:Key}{d:Ap}(h:k∉kvs.map (·.1)):putD kvs k d=kvs++[(k,d)]:=by
 unfold putD;rw[if_neg];intro z;obtain⟨kv,hm,e⟩:=List.any_eq_true.mp z;exact h (FZ.mpr ⟨kv,hm,of_decide_eq_true e⟩)
theorem t6:∀(ks:List Key)(bs:List Ap)(acc:List (Key×Ap)),ks.Nodup->(∀k∈ks,k∉acc.map (·.1))->(ks.zip bs).foldl (λacc p=>putD acc p.1 p.2) acc=acc++ks.zip bs
 |[],_,acc,_,_=>by rw[IW,E3]; rfl
 |_::_,[],acc,_,_=>by rw[IN,E3]; rfl
 |k::ks,b::bs,acc,nd,h=>by
  obtain⟨n1,n2⟩:=Fb.mp nd;rw[Gc,Ju,yq (h k lS),t6 ks bs _ n2 λj hj hm=>?_,Bi]
  ·rfl
  ·rw[HS] at hm
   rcases lM hm with z | z
   ·exact h j (lO _ hj) z
   ·have:j=k:=by simpa using z
    exact n1 (this▸hj)
theorem CV{ks:List Key}{bs:List Ap}(nd:ks.Nodup):DN ks bs=ks.zip bs:=by
 unfold DN;rw[t6 ks bs [] nd λk _ h=>by simp at h]
 rfl
theorem lP:∀ns:List Int,jk (ns.map .int)=some (ns.map Hi)
 |[]=>rfl
 |n::ns=>by
  show (fR (.int n)).bind _=_;rw[show fR (.int n)=some (.inl n) from rfl]
  show (jk (ns.map .int)).bind _=_;rw[lP ns];rfl
noncomputable def az:List Int->List Int->Int->Int
 |p::ps,n::ns,x=>if p=x then n else az ps ns x
 |_,_,_=>0
theorem jo:∀{ps nm:List Int}{x:Int},nm.length=ps.length->x∈ps->dm ((ps.map Hi).zip (nm.map Fe)) (.inl x)=some (.int (az ps nm x))
 |[],_,_,_,h=>by simp at h
 |_::_,[],_,h,_=>by simp at h
 |p::ps,n::nm,x,hl,h=>by
  unfold dm;rw[FN,FN,Gc,Gm]
  by_cases e:p=x
  ·rw[show decide ((Hi p:Key)=.inl x)=true by simp[e]]
   unfold az;rw[if_pos e];rfl
  ·rw[show decide ((Hi p:Key)=.inl x)=false by simp[e]]
   unfold az;rw[if_neg e];have h':x∈ps:=by
    rcases lK h with z | z
    ·exact absurd z.symm e
    ·exact z
   exact jo (ps:=ps) (nm:=nm) (by simpa using hl) h'
theorem pI{ps nm:List Int}(nd:ps.Nodup):vH [.v (tI ps),.v (tI nm)]=some (.bP ((ps.map Hi).zip (nm.map Fe))):=by
 show (jk (ps.map .int)).bind _=_;rw[lP,Fi];show some (M.bP (DN (ps.map Hi) (nm.map Fe)))=_;rw[CV];unfold KF;rw[Gv];exact LO (λ{a b}h e=>h (N4 e)) nd
theorem eK:∀{ps nm:List Int}{x:Int},nm.length=ps.length->x∈ps->az ps nm x∈nm
 |[],_,_,_,h=>by simp at h
 |_::_,[],_,h,_=>by simp at h
 |p::ps,n::nm,x,hl,h=>by
  unfold az
  split
  ·exact lS
  ·next e=>
   refine lO _ (eK (ps:=ps) (by simpa using hl) ?_)
   rcases lK h with z | z
   ·exact absurd z.symm e
   ·exact z
theorem nN:∀{ps nm:List Int}{x:Int},nm.length=ps.length->nm.Nodup->x∈ps->az nm ps (az ps nm x)=x
 |[],_,_,_,_,h=>by simp at h
 |_::_,[],_,h,_,_=>by simp at h
 |p::ps,n::nm,x,hl,nd,h=>by
  obtain⟨n1,n2⟩:=Fb.mp nd
  by_cases e:p=x
  ·rw[show az (p::ps) (n::nm) x=n by unfold az; rw[if_pos e]]
   unfold az;rw[if_pos rfl,e]
  ·have h':x∈ps:=by
    rcases lK h with z | z
    ·exact absurd z.symm e
    ·exact z
   rw[show az (p::ps) (n::nm) x=az ps nm x by conv=>lhs; unfold az; rw[if_neg e]]
   have hm:=eK (ps:=ps) (nm:=nm) (by simpa using hl) h'
   have hne:¬n=az ps nm x:=λz=>n1 (z▸hm)
   rw[show az (n::nm) (p::ps) (az ps nm x)=az nm ps (az ps nm x) from if_neg hne]
   exact nN (by simpa using hl) n2 h'
theorem jq:∀{xs:List Int}{f:Int->Int}{x:Int},x∈xs->az xs (xs.map f) x=f x
 |[],_,_,h=>by simp at h
 |a::xs,f,x,h=>by
  rw[FN];unfold az
  split
  ·next e=>rw[e]
  ·next e=>
   refine jq ?_;rcases lK h with z | z
   ·exact absurd z.symm e
   ·exact z
theorem fO:∀{ps nm:List Int},nm.length=ps.length->ps.Nodup->ps.map (az ps nm)=nm
 |[],nm,h,_=>by
  have:nm=[]:=HF.mp (by simpa using h)
  rw[this]; rfl
 |_::_,[],h,_=>by simp at h
 |p::ps,n::nm,h,nd=>by
  obtain⟨n1,n2⟩:=Fb.mp nd;rw[FN];have e1:az (p::ps) (n::nm) p=n:=by unfold az; rw[if_pos rfl]
  have e2:ps.map (az (p::ps) (n::nm))=ps.map (az ps nm):=Fo λx hx=>by
   have hne:¬p=x:=λz=>n1 (z▸hx)
   exact if_neg hne
  rw[e1,e2,fO (by simpa using h) n2]
noncomputable def mn(x y:Int):Int:=if y<x then y else x
noncomputable def mx(x y:Int):Int:=if y>x then y else x
theorem u9(x y:Int):qz [.v (.tuple [.int x,.int y])]=some (.v (.int (mn x y))):=rfl
theorem vc(x y:Int):xK [.v (.tuple [.int x,.int y])]=some (.v (.int (mx x y))):=rfl
theorem nO(x y:Int):sortI [x,y]=[mn x y,mx x y]:=by
 refine(iI ?_ ?_).symm
 ·unfold mn mx
  by_cases h:y<x
  ·rw[if_pos h,if_neg (by lia)]; exact List.Perm.swap _ _ _
  ·by_cases h':y>x
   ·rw[if_neg h,if_pos h']
   ·rw[if_neg h,if_neg h',show x=y by lia]
 ·unfold mn mx
  simp only[IP,Bn,Fg,false_implies,implies_true,forall_eq,LN,and_true]
  split <;> split <;> lia
theorem qI{ns ns':List Int}(p:ns'.Perm ns)(s:ns.Pairwise (· < ·)):sortI ns'=ns:=(iI p.symm (s.imp λh=>Int.le_of_lt h)).symm
noncomputable def bH(ps nm:List Int)(t:Int×Int):Int×Int:=(mn (az ps nm t.1) (az ps nm t.2),mx (az ps nm t.1) (az ps nm t.2))
theorem renamed{ps nm:List Int}{ts:List (Int×Int)}(nd:ps.Nodup)(hl:nm.length=ps.length)(h64:ps.length<64)(ends:∀t∈ts,t.1∈ps/\t.2∈ps)(ht:ts.length<64) :
  FF.cF [.v (wD ps ts),.v (tI nm)]=some (.v (wD (sortI nm) (cL (ts.map (bH ps nm)))),[.v (wD ps ts),.v (tI nm)]):=by
 have ed:=pI (nm:=nm) nd;generalize hD:(ps.map Hi).zip (nm.map Fe)=D at ed;have hk:∀x∈ps,dm D (.inl x)=some (.int (az ps nm x)):=λx hx=>hD▸jo hl hx
 obtain⟨z1,z2,e1⟩:=fM (fe:=cz (ah (cH (aa 2) (aa 0)) (af (cH (aa 2) (aa 1))))) (cs:=[some (.bP D)]) (f:=λt=>pD (az ps nm t.1,az ps nm t.2)) ts [] none none (λt htm=>by
  obtain⟨h1,h2⟩:=ends t htm;refine⟨.t (.v (pD (az ps nm t.1,az ps nm t.2))),?_,rfl⟩;simp[hk _ h1,hk _ h2,lim]) (by rw[FC]; unfold lim; lia)
 rw[Fm] at e1;generalize hE:ts.map (λt=>(az ps nm t.1,az ps nm t.2))=E
 have hE':ts.map (λt=>pD (az ps nm t.1,az ps nm t.2))=E.map pD:=by rw[<-hE,Ee]; rfl
 rw[hE'] at e1;obtain⟨y,e2⟩:=d7 (fe:=cz (ah (bQ qz (af (aa 0))) (af (bQ xK (af (aa 0)))))) (cs:=[]) (f:=λd=>pD (mn (yp d).1 (yp d).2,mx (yp d).1 (yp d).2)) (E.map pD) [] none (λd hd=>by
  obtain⟨t,_,rfl⟩:=FZ.mp hd;refine⟨.t (.v (pD (mn t.1 t.2,mx t.1 t.2))),?_,rfl⟩;simp[u9,vc,lim]) (by rw[FC,B2,<-hE,B2]; unfold lim; lia)
 rw[Fm,Ee] at e2;have hF:E.map ((λd=>pD (mn (yp d).1 (yp d).2,mx (yp d).1 (yp d).2))∘pD)=(ts.map (bH ps nm)).map pD:=by
  rw[<-hE,Ee,Ee];rfl
 rw[hF] at e2;have e3:=eW (ts:=ts.map (bH ps nm)) (by rw[B2]; exact ht)
 have e4:bW [.v (tI nm)]=some (.lst ((sortI nm).map .int)):=by
  show (eO (nm.map .int)).bind _=_;rw[fG];show (if nm.length<64 then _ else _)=_
  rw[if_pos (by lia)]
 clear hF
 generalize ts.map (bH ps nm)=C at e2 e3 ⊢;refine eF (ρ:=[some (.v (wD ps ts)),some (.v (tI nm)),some (.v (tI ps)),some (.v (tD ts)),some (.bP D),some (.v (.list (E.map pD)))]) rfl ?_ rfl;show FF.gP [some (.v (wD ps ts)),some (.v (tI nm)),none,none,none,none]=_;refine(aB (ρ1:=[some (.v (wD ps ts)),some (.v (tI nm)),some (.v (tI ps)),some (.v (tD ts)),none,none]) (by simp)).trans ?_
 refine(aB (ρ1:=[some (.v (wD ps ts)),some (.v (tI nm)),some (.v (tI ps)),some (.v (tD ts)),some (.bP D),none]) (by simp[ed])).trans ?_
 refine(aB (ρ1:=[some (.v (wD ps ts)),some (.v (tI nm)),some (.v (tI ps)),some (.v (tD ts)),some (.bP D),some (.lst (E.map pD))]) (by simp[e1])).trans ?_
 simp[e4,e2,e3,lim];rfl
def sm(n:Int):Prop:=0<=n/\n<=99
theorem yr{n:Int}(h:sm n):n.natAbs.log2<7:=by
 unfold sm at h
 by_cases h0:n.natAbs=0
 ·rw[h0]; decide
 ·exact(Nat.log2_lt h0).mpr (by lia)
theorem vd{n:Int}(h:sm n):K2 (.int n)<=7:=by
 unfold K2;have:=yr h
 split <;> lia
theorem ci:∀(ns:List Int),EQ (ns.map .int)=true
 |[]=>rfl
 |n::ns=>by show (Fw (.int n) && EQ (ns.map .int))=true; rw[ci ns]; rfl
theorem D8:∀(ns:List Int),(∀n∈ns,sm n)->Hr (ns.map .int)=true
 |[],_=>rfl
 |n::ns,h=>by
  show (Ki (.int n) && Hr (ns.map .int))=true;rw[D8 ns λm hm=>h m (lO _ hm),Lg]
  have:=yr (h n lS);exact decide_eq_true (by lia)
theorem D9:∀(ns:List Int),GZ (ns.map .int)=0
 |[]=>rfl
 |n::ns=>by show max (GL (.int n)) (GZ (ns.map .int))=0; rw[D9 ns]; rfl
theorem Ea:∀(ns:List Int),(∀n∈ns,sm n)->Hf (ns.map .int)<=8*ns.length
 |[],_=>Da _
 |n::ns,h=>by
  show K2 (.int n)+1+Hf (ns.map .int)<=_;have h1:=vd (h n lS);have h2:=Ea ns λm hm=>h m (lO _ hm)
  rw[D1];lia
theorem ED(ns:List Int)(h:∀n∈ns,sm n):IA 13 (ns.map .int)=true:=PyData.intsShortAll_ints ns λn hn=>by have:=h n hn; unfold sm at this; lia
abbrev CW(t:Int×Int):Prop:=sm t.1/\sm t.2
theorem sA{t:Int×Int}(h:CW t):∀n∈[t.1,t.2],sm n:=λn hn=>by
 simp only[HG,Fg,or_false] at hn;rcases hn with rfl | rfl
 ·exact h.1
 ·exact h.2
theorem EE:∀(ts:List (Int×Int)),(∀t∈ts,CW t)->Hr (ts.map pD)=true
 |[],_=>rfl
 |t::ts,h=>by
  show (Ki (pD t) && Hr (ts.map pD))=true;rw[EE ts λm hm=>h m (lO _ hm),Lg]
  exact D8 [t.1,t.2] (sA (h t lS))
theorem DQ:∀(ts:List (Int×Int)),GZ (ts.map pD)<=1
 |[]=>FV _
 |t::ts=>by
  show max (GL (pD t)) (GZ (ts.map pD))<=1;have h1:=DQ ts;have h2:GL (pD t)=1:=rfl;lia
theorem EF:∀(ts:List (Int×Int)),(∀t∈ts,CW t)->Hf (ts.map pD)<=17*ts.length
 |[],_=>Da _
 |t::ts,h=>by
  show Hf ([t.1,t.2].map .int)+1+Hf (ts.map pD)<=_;have h1:=Ea [t.1,t.2] (sA (h t lS));have h2:=EF ts λm hm=>h m (lO _ hm)
  rw[show [t.1,t.2].length=2 from rfl] at h1
  rw[D1];lia
theorem EG:∀(ts:List (Int×Int)),(∀t∈ts,CW t)->IA 13 (ts.map pD)=true
 |[],_=>rfl
 |t::ts,h=>by
  show (MP 13 (pD t) && IA 13 (ts.map pD))=true;rw[EG ts λm hm=>h m (lO _ hm),Lg]
  exact ED [t.1,t.2] (sA (h t lS))
theorem CY{ps:List Int}{ts:List (Int×Int)}(h1:∀p∈ps,sm p)(h2:∀t∈ts,CW t)(l1:ps.length<=1000)(l2:ts.length<=1000):pA (wD ps ts)=true:=by
 have hc:Fw (wD ps ts)=true:=by
  show (EQ (ps.map .int) && (EQ (ts.map pD) && true))=true;rw[ci,d8]; rfl
 have hs:Ki (wD ps ts)=true:=by
  show (Hr (ps.map .int) && (Hr (ts.map pD) && true))=true;rw[D8 ps h1,EE ts h2]; rfl
 have hd:GL (wD ps ts)<=3:=by
  show max (GZ (ps.map .int)+1) (max (GZ (ts.map pD)+1) 0)+1<=3;have:=D9 ps;have:=DQ ts;lia
 have hw:K2 (wD ps ts)<=2 ^ 20:=by
  show Hf (ps.map .int)+1+(Hf (ts.map pD)+1+0)<=2 ^ 20;have:=Ea ps h1;have:=EF ts h2;have:(2:Nat) ^ 20=1048576:=rfl;lia
 have hi:MP 13 (wD ps ts)=true:=by
  show (IA 13 (ps.map .int) && (IA 13 (ts.map pD) && true))=true;rw[ED ps h1,EG ts h2]; rfl
 have hz:=PyData.shown_fits_of_layable0 (B:=13) (by decide) (by decide) (d:=wD ps ts) (by
  unfold PyData.layable0;rw[hc,decide_eq_true (show GL (wD ps ts)<=64 by lia),decide_eq_true hw]; rfl) hi
 unfold pA;rw[hc,hs,decide_eq_true (show GL (wD ps ts)<=50 by lia),decide_eq_true hz]
 rfl
theorem yt{ps:List Int}{ts:List (Int×Int)}(h1:∀p∈ps,sm p)(h2:∀t∈ts,CW t)(l1:ps.length<=1000)(l2:ts.length<=1000):fJ [.v (wD ps ts)]=some (.v (.str (wD ps ts).shown)):=if_pos (CY h1 h2 l1 l2)
theorem qJ(x:Str):CP true (.v (.str x)) (.v (.str x))=some (.v (.bool false)):=by
 show some (M.v (.bool (x != x)))=_;rw[bne_self_eq_false]
theorem qK{x y:Int}{P:Int->Prop}(hx:P x)(hy:P y):P (mn x y)/\P (mx x y):=by
 unfold mn mx;constructor <;> split <;> assumption
end PQ
end
section
namespace PF
open PySem L2 VL PA PQ
noncomputable def flat:List (Int×Int)->List Int
 |[]=>[]
 |t::ts=>t.1::t.2::flat ts
theorem qL:∀{a b:List (Int×Int)},flat a=flat b->a=b
 |[],[],_=>rfl
 |[],_::_,h=>by cases h
 |_::_,[],h=>by cases h
 |x::a,y::b,h=>by
  injection h with h1 h
  injection h with h2 h
  rw[qL h,NC h1 h2]
noncomputable abbrev kh(a b:List (Int×Int)):Bool:=HT.lexLt (flat a) (flat b)
theorem jr(a:List (Int×Int)):kh a a=false:=by
 cases q:kh a a with
 |false=>rfl
 |true=>have z:=totL.asym _ _ q; rw[show kh a a=HT.lexLt (flat a) (flat a) from rfl,z] at q; cases q
theorem Au{a b:List (Int×Int)}(h1:kh a b=false)(h2:kh b a=false):a=b:=qL (totL.tot _ _ h1 h2)
theorem yu(k:Nat)(x y:Int×Int)(h:x≠y):ltN (k+1) (pD x) (pD y)=some (HT.lexLt [x.1,x.2] [y.1,y.2]):=by
 obtain⟨a,b⟩:=x;obtain⟨c,d⟩:=y;show jO (ltN k) [.int a,.int b] [.int c,.int d]=_;have e:∀i j:Int,FM (.int i) (.int j)=decide (i=j):=λi j=>by
  by_cases h:i=j <;> simp[FM,h]
 have l:∀i j:Int,ltN k (.int i) (.int j)=some (decide (i<j)):=λi j=>by cases k <;> rfl
 by_cases h1:a=c
 ·subst h1
  by_cases h2:b=d
  ·subst h2; exact absurd rfl h
  ·simp[jO,e,l,HT.lexLt,h2]
 ·simp[jO,e,l,HT.lexLt,h1]
theorem jR(k:Nat):∀(a b:List (Int×Int)),jO (ltN (k+1)) (a.map pD) (b.map pD)=some (kh a b)
 |[],[]=>rfl
 |[],_::_=>rfl
 |_::_,[]=>rfl
 |x::a,y::b=>by
  show (if FM (pD x) (pD y)=true then jO (ltN (k+1)) (a.map pD) (b.map pD) else ltN (k+1) (pD x) (pD y))=_
  rw[pG];show _=some (HT.lexLt (x.1::x.2::flat a) (y.1::y.2::flat b));rw[HT.aV,HT.aV]
  by_cases h:x=y
  ·subst h
   rw[if_pos (decide_eq_true rfl),if_pos rfl,if_pos rfl];exact jR k a b
  ·rw[if_neg (by simpa using h),yu k x y h,HT.aV,HT.aV]
   by_cases h1:x.1=y.1
   ·have h2:x.2≠y.2:=λz=>h (NC h1 z)
    rw[if_pos h1,if_pos h1,if_neg h2,if_neg h2]
   ·rw[if_neg h1,if_neg h1]
theorem qM:∀(a b:List (Int×Int)),JO (a.map pD) (b.map pD)=decide (a=b)
 |[],[]=>rfl
 |[],_::_=>rfl
 |_::_,[]=>rfl
 |x::a,y::b=>by
  show (FM (pD x) (pD y) && JO (a.map pD) (b.map pD))=_;rw[pG,qM a b]
  by_cases h1:x=y <;> by_cases h2:a=b <;> simp[h1,h2]
theorem qN:∀(a:List Int),JO (a.map .int) (a.map .int)=true
 |[]=>rfl
 |x::a=>by
  show (FM (.int x) (.int x) && JO (a.map .int) (a.map .int))=true;rw[qN a];simp[FM]
theorem t7(P:List Int)(a b:List (Int×Int)):ltN 5 (wD P a) (wD P b)=some (kh a b):=by
 show jO (ltN 4) [tI P,tD a] [tI P,tD b]=_;show (if FM (tI P) (tI P)=true then (if FM (tD a) (tD b)=true then some false else ltN 4 (tD a) (tD b)) else ltN 4 (tI P) (tI P))=_
 have h1:FM (tI P) (tI P)=true:=by
  show FM (.tuple (P.map .int)) (.tuple (P.map .int))=true;unfold FM;exact qN P
 have h2:FM (tD a) (tD b)=decide (a=b):=by
  show FM (.tuple (a.map pD)) (.tuple (b.map pD))=_;unfold FM;exact qM a b
 rw[if_pos h1,h2]
 by_cases h:a=b
 ·subst h
  rw[if_pos (decide_eq_true rfl),jr]
 ·rw[if_neg (by simpa using h)]
  exact jR 2 a b
theorem qO(a b:List (Int×Int)):ltN 5 (.list (a.map pD)) (.list (b.map pD))=some (kh a b):=jR 3 a b
theorem Av(P:List Int)(a:List (Int×Int)):(wD P a).canLay0=true:=by
 show EQ [tI P,tD a]=true;show (Fw (.tuple (P.map .int)) && (Fw (.tuple (a.map pD)) && EQ []))=true;have h1:Fw (.tuple (P.map .int))=true:=by unfold Fw; exact ci P
 have h2:Fw (.tuple (a.map pD))=true:=by unfold Fw; exact PQ.d8 a
 rw[h1,h2]; rfl
theorem qP(P:List Int):∀(L:List (List (Int×Int))),EQ (L.map (wD P))=true
 |[]=>rfl
 |a::L=>by
  show (Fw (wD P a) && EQ (L.map (wD P)))=true;rw[Av,qP P L]; rfl
theorem ve(P:List Int)(a:List (Int×Int)):(wD P a).depth<=50:=by
 have h1:GL (tI P)<=1:=by
  show GL (.tuple (P.map .int))<=1;unfold GL;rw[D9];lia
 have h2:GL (tD a)<=2:=by
  show GL (.tuple (a.map pD))<=2;unfold GL;have:=DQ a;lia
 show GL (.tuple [tI P,tD a])<=50;unfold GL GZ GZ GZ;lia
theorem Aw{P:List Int}{L:List (List (Int×Int))}(h:L≠[]):jP (L.map (wD P))=true:=by
 unfold jP;rw[qP];have h1:(L.map (wD P)).isEmpty=false:=by cases L with | nil=>exact absurd rfl h | cons _ _=>rfl
 rw[h1];simp only[Bool.not_false,NU];rw[Hm];intro d hd;obtain⟨a,_,rfl⟩:=FZ.mp hd;rw[decide_eq_true (ve P a),NU,Hm];intro e he;obtain⟨b,_,rfl⟩:=FZ.mp he;rw[t7];rfl
theorem CZ(a b:List (Int×Int)):jP [.list (a.map pD),.list (b.map pD)]=true:=by
 have hc:∀a:List (Int×Int),Fw (.list (a.map pD))=true:=λa=>by unfold Fw; exact PQ.d8 a
 have hd:∀a:List (Int×Int),GL (.list (a.map pD))<=50:=λa=>by
  unfold GL;have:=DQ a;lia
 unfold jP;have h2:EQ [.list (a.map pD),.list (b.map pD)]=true:=by
  show (Fw (.list (a.map pD)) && (Fw (.list (b.map pD)) && EQ []))=true;rw[hc,hc]; rfl
 rw[h2];simp[qO,hd]
structure cX(S:List (Int×Int)->Prop)(m:List (Int×Int)):Prop where
 mem:S m
 low:∀a,S a->kh a m=false
theorem cX.uniq{S:List (Int×Int)->Prop}{m m':List (Int×Int)}(h:cX S m)(h':cX S m'):m=m':=Au (h'.low m h.mem) (h.low m' h'.mem)
theorem cX.congr{S S':List (Int×Int)->Prop}{m:List (Int×Int)}(h:cX S m)(e:∀a,S a↔S' a):cX S' m:=⟨(e m).mp h.mem,λa ha=>h.low a ((e a).mpr ha)⟩
theorem yv{L:List (List (Int×Int))}{bt:Nat->Nat->Bool}(hb:∀i j,i<L.length->j<L.length->bt i j=kh (L.getD i []) (L.getD j [])):∀k,k<L.length->Gq bt k<=k/\∀j,j<=k->kh (L.getD j []) (L.getD (Gq bt k) [])=false:=by
 intro k
 induction k with
 |zero=>
  intro h;refine⟨Da _,λj hj=>?_⟩
  have:j=0:=by lia
  subst this;exact jr _
 |succ k ih=>
  intro h;obtain⟨i1,i2⟩:=ih (by lia)
  have e:=hb (k+1) (Gq bt k) h (by lia)
  unfold Gq;cases q:bt (k+1) (Gq bt k) with
  |true=>
   rw[if_pos rfl];rw[q] at e;refine⟨Da _,λj hj=>?_⟩
   by_cases hj':j=k+1
   ·rw[hj']; exact jr _
   ·have h1:=i2 j (by lia)
    cases z:kh (L.getD j []) (L.getD (k+1) []) with
    |false=>rfl
    |true=>have y:=totL.trans _ _ _ z e.symm; rw[show kh (L.getD j []) (L.getD (Gq bt k) [])=HT.lexLt _ _ from rfl,y] at h1; cases h1
  |false=>
   rw[if_neg GI];rw[q] at e;refine⟨by lia,λj hj=>?_⟩
   by_cases hj':j=k+1
   ·rw[hj']; exact e.symm
   ·exact i2 j (by lia)
theorem vf{P:List Int}{L:List (List (Int×Int))}(h:L≠[]):∃m,cX (·∈L) m/\minW [.lst (L.map (wD P))]=some (.v (wD P m)):=by
 have hl:0<L.length:=K7.mpr h;have gd:∀i,i<L.length->(L.map (wD P)).getD i .none=wD P (L.getD i []):=λi hi=>by simp[K5,hi]
 have hb:∀i j,i<L.length->j<L.length->qY (L.map (wD P)) i j=kh (L.getD i []) (L.getD j []):=λi j hi hj=>by
  unfold qY;rw[gd i hi,gd j hj,t7];cases kh (L.getD i []) (L.getD j []) <;> rfl
 obtain⟨h1,h2⟩:=yv hb (L.length-1) (by lia)
 have hbd:gc (L.map (wD P))=Gq (qY (L.map (wD P))) (L.length-1):=by unfold gc; rw[B2]
 refine⟨L.getD (gc (L.map (wD P))) [],⟨?_,λa ha=>?_⟩,?_⟩
 ·rw[hbd]
  have:Gq (qY (L.map (wD P))) (L.length-1)<L.length:=by lia
  show L.getD _ []∈L;rw[FJ,Do this];exact GT this
 ·obtain⟨j,hj,rfl⟩:=IF ha
  have:=h2 j (by lia)
  rw[hbd];rw[show L[j]=L.getD j [] by simp[K5,hj]]
  exact this
 ·show (if jP (L.map (wD P))=true then some (M.v ((L.map (wD P)).getD (gc (L.map (wD P))) .none)) else none)=_
  rw[if_pos (Aw h),gd _ (by rw[hbd]; lia)]
end PF
end
section
open PySem L2 VL
end
section
namespace PQ
open PySem L2 VL PA
section
variable{ρ:Ev}{i:Nat}
theorem yw{n:Nat}{js:List Nat}{fg:FG}{ft:FT}{fe:FE}{ds:List Ap}(h:cJ ρ i=some (.lst ds))(hij:i∉js):jM n js i fg ft fe ρ=(caps ρ js).bind λos=>(cG os ρ).bind λq=>
   (bJ fg ft fe ds (E7 n none++q.1.map some) []).bind λr=>(fin (E7 js.length true) q.1 (r.2.drop n)).bind λms'=>some (.t (.lst r.1),gI os ms' q.2):=by
 unfold jM;rw[h];dsimp only;rw[if_neg hij]
end
theorem vg(neg:Bool)(ts:List (Int×Int))(p:Int×Int):pO neg (.v (pD p)) (.v (tD ts))=some (.v (.bool (if neg then !decide (p∈ts) else decide (p∈ts)))):=by
 show (if okIn (ts.map pD) (pD p)=true then some (M.v (.bool (if neg then !((ts.map pD).any λd=>FM d (pD p)) else (ts.map pD).any λd=>FM d (pD p)))) else none)=_
 rw[jn,if_pos];unfold okIn;rw[d8];rfl
theorem qQ{ft:FT}{fe:FE}{cs:Ev}{p:Int->Bool}{f:Int->Ap}:∀(ns:List Int)(acc:List Ap)(x:Option M),(∀n∈ns,ft (some (.v (.int n))::cs)=some (p n,some (.v (.int n))::cs)/\∃o,fe (some (.v (.int n))::cs)=some (o,some (.v (.int n))::cs)/\cZ o (some (.v (.int n))::cs)=some (f n,some (.v (.int n))::cs))->acc.length+ns.length<=lim ->
  ∃y,bJ (aj 0) ft fe (ns.map .int) (x::cs) acc=some (acc++(ns.filter p).map f,y::cs):=by
 intro ns
 induction ns with
 |nil=>
  intro acc x _ _;exact⟨x,by simp[bJ]⟩
 |cons n ns ih=>
  intro acc x h hl;obtain⟨e0,o,e1,e2⟩:=h n lS;rw[D1] at hl;have hg:aj 0 (.int n) (x::cs)=some (some (.v (.int n))::cs):=by simp
  by_cases hp:p n=true
  ·obtain⟨y,e3⟩:=ih (acc++[f n]) (some (.v (.int n))) (λd hd=>h d (lO _ hd)) (by rw[Bz,Ft]; lia)
   refine⟨y,?_⟩;rw[Jf,if_pos hp,FN];show (aj 0 (.int n) (x::cs)).bind _=_;rw[hg];show (ft (some (.v (.int n))::cs)).bind _=_;rw[e0,hp];show (fe (some (.v (.int n))::cs)).bind _=_;rw[e1];show (cZ o (some (.v (.int n))::cs)).bind _=_;rw[e2];show (if acc.length<lim then _ else _)=_
   rw[if_pos (by lia)]
   rw[show bJ (aj 0) ft fe (ns.map .int) (some (.v (.int n))::cs) (acc++[f n])=_ from e3,FN,Bi]
   rfl
  ·have hp':p n=false:=by simpa using hp
   obtain⟨y,e3⟩:=ih acc (some (.v (.int n))) (λd hd=>h d (lO _ hd)) (by lia)
   refine⟨y,?_⟩;rw[Jf,if_neg hp];show (aj 0 (.int n) (x::cs)).bind _=_;rw[hg];show (ft (some (.v (.int n))::cs)).bind _=_;rw[e0,hp'];exact e3
theorem pJ(ns:List Int)(a:Int):((ns.map Fe).any λd=>FM d (.int a))=decide (a∈ns):=by
 rw[List.any_map]
 induction ns with
 |nil=>simp
 |cons m ns ih=>
  rw[Ha,ih];show ((m == a) || _)=_
  by_cases h:m=a
  ·simp[h]
  ·simp[h,HZ h]
theorem in_tI(neg:Bool)(ns:List Int)(a:Int):pO neg (.v (.int a)) (.v (tI ns))=some (.v (.bool (if neg then !decide (a∈ns) else decide (a∈ns)))):=by
 show (if okIn (ns.map .int) (.int a)=true then some (M.v (.bool (if neg then !((ns.map Fe).any λd=>FM d (.int a)) else (ns.map Fe).any λd=>FM d (.int a)))) else none)=_
 rw[pJ,if_pos];unfold okIn;rw[ci];rfl
end PQ
end
section
namespace PF
open PySem L2 VL PA PQ
structure Pn(n k:Nat)(x:List Int):Prop where
 nd:x.Nodup
 len:x.length=k
 rng:∀y∈x,0<=y/\y<n
theorem sub_len:∀{l m:List Int},l.Nodup->(∀x∈l,x∈m)->l.length<=m.length
 |[],_,_,_=>FV _
 |x::l,m,nd,h=>by
  obtain⟨h1,h2⟩:=Fb.mp nd;have hx:=h x lS;have h3:=sub_len (l:=l) (m:=m.erase x) h2 λy hy=>(List.mem_erase_of_ne (λe:y=x=>h1 (e▸hy))).mpr (h y (lO _ hy))
  rw[List.length_erase_of_mem hx] at h3;have:=List.length_pos_of_mem hx;rw[D1];lia
noncomputable def below(n:Nat):List Int:=(FD n).map λk:Nat=>(k:Int)
theorem bO{n:Nat}{x:Int}:x∈below n↔0<=x/\x<n:=by
 unfold below;rw[FZ];constructor
 ·rintro⟨k,hk,rfl⟩
  have:=Hj.mp hk;lia
 ·rintro⟨h0,h1⟩
  exact⟨x.toNat,Hj.mpr (by lia),by lia⟩
theorem cg(n:Nat):(below n).length=n:=by unfold below; rw[B2,Fj]
theorem jt(n:Nat):(below n).Nodup:=by
 unfold below KF;rw[Gv];exact List.nodup_range.imp λh e=>h (Int.ofNat.inj e)
theorem sD(n:Nat):(below n).Pairwise (· < ·):=by
 unfold below;rw[Gv];exact Ln.imp λh=>Int.ofNat_lt.mpr h
theorem bT(n:Nat):aQ 0 (n:Int)=(below n).map .int:=by
 rw[fL];unfold below;rw[Ee];refine Fo λk _=>?_
 show Fe (0+(k:Int))=.int (k:Int);rw[Int.zero_add]
theorem Pn.all{n:Nat}{x:List Int}(h:Pn n n x){y:Int}(h0:0<=y)(h1:y<n):y∈x:=by
 apply Classical.byContradiction;intro c;have:=sub_len (l:=y::x) (m:=below n) (Fb.mpr ⟨c,h.nd⟩) λz hz=>by
  rcases lK hz with rfl | hz
  ·exact bO.mpr ⟨h0,h1⟩
  ·exact bO.mpr (h.rng z hz)
 rw[D1,h.len,cg] at this;lia
theorem Pn.sort{n:Nat}{x:List Int}(h:Pn n n x):sortI x=below n:=by
 refine qI ?_ (sD n);rw[List.perm_ext_iff_of_nodup h.nd (jt n)];exact λy=>⟨λhy=>bO.mpr (h.rng y hy),λhy=>h.all (bO.mp hy).1 (bO.mp hy).2⟩
noncomputable def gn(n:Nat)(s:List Int):List (List Int):=((below n).filter λx=> !decide (x∈s)).map λx=>s++[x]
noncomputable def bq(n:Nat):Nat->List (List Int)
 |0=>[[]]
 |k+1=>(bq n k).flatMap (gn n)
theorem lQ(n:Nat)(s:List Int):(gn n s).length<=n:=by
 unfold gn;rw[B2];have:=M7 (λx=> !decide (x∈s)) (below n)
 rw[cg] at this;exact this
theorem eL(n:Nat):∀(k:Nat)(x:List Int),x∈bq n k↔Pn n k x
 |0,x=>by
  show x∈[[]]↔_;rw[Bn];exact⟨λh=>h▸⟨G7,rfl,λy hy=>(nomatch hy)⟩,λh=>Ix h.len⟩
 |k+1,x=>by
  show x∈(bq n k).flatMap (gn n)↔_;rw[Mp];constructor
  ·rintro⟨s,hs,hx⟩
   have h:=(eL n k s).mp hs;obtain⟨y,hy,rfl⟩:=FZ.mp hx;obtain⟨hy1,hy2⟩:=J1.mp hy;have hy2:y∉s:=by simpa using hy2
   refine⟨?_,by rw[Bz,h.len]; rfl,λz hz=>?_⟩
   ·rw[E4]
    exact⟨h.nd,Fb.mpr ⟨Fg,G7⟩,λa ha b hb e=>hy2 (by rw[Bn.mp hb] at e; exact e▸ha)⟩
   ·rcases lM hz with hz | hz
    ·exact h.rng z hz
    ·rw[Bn.mp hz]; exact bO.mp hy1
  ·intro h
   have hne:x≠[]:=λz=>by have:=h.len; rw[z] at this; simp at this
   have e:x.dropLast++[x.getLast hne]=x:=List.dropLast_concat_getLast hne;have nd:=h.nd;rw[<-e,E4] at nd;refine⟨x.dropLast,(eL n k _).mpr ⟨nd.1,by rw[List.length_dropLast,h.len]; rfl,λy hy=>h.rng y (List.dropLast_subset _ hy)⟩,?_⟩
   refine FZ.mpr ⟨x.getLast hne,J1.mpr ⟨bO.mpr (h.rng _ (List.getLast_mem hne)),?_⟩,e⟩;have:x.getLast hne∉x.dropLast:=λz=>nd.2.2 _ z _ (Bn.mpr rfl) rfl
   simpa using this
theorem ju{α:Type}{f:α->List (List Int)}{n:Nat}(h:∀a,(f a).length<=n):∀(l:List α),(l.flatMap f).length<=l.length*n
 |[]=>FV _
 |a::l=>by
  rw[Mg,Bz,D1,Nat.add_mul];have:=h a;have:=ju h l;lia
theorem lT{n:Nat}(hn:n<=6):∀k,(bq n k).length<=6 ^ k
 |0=>Da _
 |k+1=>by
  have h1:=lT hn k;have h2:=ju (λs=>GE (lQ n s) hn) (bq n k)
  show ((bq n k).flatMap (gn n)).length<=_;rw[Nat.pow_succ];exact GE h2 (MJ _ h1)
noncomputable abbrev Eb:FT:=cK (vB (pO true) (aa 0) (aa 1))
noncomputable abbrev Ec:FE:=vB cy (aa 1) (cz (af (aa 0)))
noncomputable abbrev Ed:FS:=fY (qx 3 (af (kc 1 [4] (bX eB (af (aa 0))) (aj 0) Eb Ec)))
theorem Ax{n:Nat}(hn:n<=100)(s:List Int)(hs:s.length<=1000):∃x',bJ (aj 0) Eb Ec (aQ 0 (n:Int)) [none,some (.v (tI s))] []=some ((gn n s).map tI,[x',some (.v (tI s))]):=by
 obtain⟨x',e⟩:=qQ (ft:=Eb) (fe:=Ec) (cs:=[some (.v (tI s))]) (p:=λx=> !decide (x∈s)) (f:=λx=>tI (s++[x])) (below n) [] none (λk hk=>by
  have hi:=in_tI true s k;refine⟨by simp[hi],.t (.v (tI (s++[k]))),?_,rfl⟩
  have hl:s.length+1<=1000000:=by lia
  unfold tI;simp[lim,hl]) (by rw[FC,cg]; unfold lim; lia)
 refine⟨x',?_⟩;rw[bT,e];unfold gn;rw[Ee];rfl
theorem Ay{n k:Nat}{w1 w2 x4:Option M}(hn:n<=6):∀(L dn:List (List Int)),(∀s∈L,s.length<=6)->(dn.length+L.length)<=10000->∃x4',forL (aj 4) Ed (L.map tI) [some (.v (.int (n:Int))),w1,w2,some (.lst ((dn.flatMap (gn n)).map tI)),x4] =
  some (.nx [some (.v (.int (n:Int))),w1,w2,some (.lst (((dn++L).flatMap (gn n)).map tI)),x4']):=by
 intro L
 induction L generalizing x4 with
 |nil=>intro dn _ _; exact⟨x4,by rw[E3]; rfl⟩
 |cons s L ih=>
  intro dn hs hl;rw[D1] at hl;obtain⟨x',e⟩:=Ax (n:=n) (by lia) s (by have:=hs s lS; lia)
  obtain⟨x4',e2⟩:=ih (x4:=some (.v (tI s))) (dn++[s]) (λt ht=>hs t (lO _ ht)) (by rw[Bz,Ft]; lia)
  refine⟨x4',?_⟩;have hsm:cu (n:Int)=true:=decide_eq_true (by unfold j9; lia)
  have hle:((dn.flatMap (gn n)).map tI).length+((gn n s).map tI).length<=1000000:=by
   rw[B2,B2];have h1:=ju (lQ n) dn;have h2:=lQ n s;have h3:dn.length*n<=10000*6:=Nat.mul_le_mul (by lia) hn
   lia
  have hb:Ed [some (.v (.int (n:Int))),w1,w2,some (.lst ((dn.flatMap (gn n)).map tI)),some (.v (tI s))]=some (.nx [some (.v (.int (n:Int))),w1,w2,some (.lst (((dn++[s]).flatMap (gn n)).map tI)),some (.v (tI s))]):=by
   generalize hA:(dn.flatMap (gn n)).map tI=A at *;generalize hB:(gn n s).map tI=B at *;have hC:((dn++[s]).flatMap (gn n)).map tI=A++B:=by rw[List.flatMap_append,HS,hA,<-hB]; simp
   rw[hC];generalize tI s=ss at *;simp[hsm,e,lim,hle]
  show (aj 4 (tI s) _).bind _=_;rw[show aj 4 (tI s) [some (.v (.int (n:Int))),w1,w2,some (.lst ((dn.flatMap (gn n)).map tI)),x4]=some [some (.v (.int (n:Int))),w1,w2,some (.lst ((dn.flatMap (gn n)).map tI)),some (.v (tI s))] by simp,Fi,hb,Fi]
  have:dn++s::L=dn++[s]++L:=by simp
  rw[this];exact e2
noncomputable abbrev EX:FS:=aN (bg 3 (eT je)) (aN (ji (bC (aa 1)) (aj 4) Ed) (bg 1 (aa 3)))
theorem orders{n:Nat}(hn:n<=6):FF.aL [.v (.int (n:Int))]=some (.lst ((bq n n).map tI),[.v (.int (n:Int))]):=by
 have hsm:cu (n:Int)=true:=decide_eq_true (by unfold j9; lia)
 obtain⟨ρ',e,k,x2,x3,x4,h1,h2,rfl⟩:=g9 (fg:=aj 2) (fb:=EX) (P:=λrest ρ=>∃ (k:Nat) (x2 x3 x4:Option M),k+rest.length=n/\rest.length<=n/\ρ=[some (.v (.int (n:Int))),some (.lst ((bq n k).map tI)),x2,x3,x4])
  (aQ 0 (n:Int)) [some (.v (.int (n:Int))),some (.lst [.tuple []]),none,none,none] ⟨0,none,none,none,by rw[bT,B2,cg]; lia,by rw[bT,B2,cg]; exact Da _,rfl⟩ (λd rest ρ hP=>by
   obtain⟨k,x2,x3,x4,h1,h2,rfl⟩:=hP;rw[D1] at h1;have hpow:(6:Nat) ^ k<=6 ^ 5:=Iz (by decide) (by lia)
   have hle:=lT hn k;have h5:(6:Nat) ^ 5=7776:=rfl;obtain⟨x4',e⟩:=Ay (n:=n) (k:=k) (w1:=some (.v (.list ((bq n k).map tI)))) (w2:=some (.v d)) (x4:=x4) hn (bq n k) [] (λs hs=>by have:=((eL n k s).mp hs).len; lia) (by rw[FC]; lia)
   refine⟨[some (.v (.int (n:Int))),some (.lst ((bq n k).map tI)),some (.v d),x3,x4],[some (.v (.int (n:Int))),some (.lst ((bq n (k+1)).map tI)),some (.v d),none,x4'],by simp,?_,k+1,some (.v d),none,x4',by lia,by lia,rfl⟩
   refine(aB (ρ1:=[some (.v (.int (n:Int))),some (.lst ((bq n k).map tI)),some (.v d),some (.lst []),x4]) (by simp[lim])).trans ?_
   refine(aB (ρ1:=[some (.v (.int (n:Int))),some (.v (.list ((bq n k).map tI))),some (.v d),some (.lst ((bq n (k+1)).map tI)),x4']) ?_).trans (by simp)
   rw[kB,show bC (aa 1) [some (.v (.int (n:Int))),some (.lst ((bq n k).map tI)),some (.v d),some (.lst []),x4]=some ((bq n k).map tI,[some (.v (.int (n:Int))),some (.v (.list ((bq n k).map tI))),some (.v d),some (.lst []),x4]) by simp]
   exact e)
 have hk:k=n:=by simpa using h1
 subst hk;refine eF (ρ:=[some (.v (.int (k:Int))),none,x2,x3,x4]) rfl ?_ rfl;show FF.cW [some (.v (.int (k:Int))),none,none,none,none]=_;refine(aB (ρ1:=[some (.v (.int (k:Int))),some (.lst [.tuple []]),none,none,none]) (by simp[lim])).trans ?_
 refine(aB (ρ1:=[some (.v (.int (k:Int))),some (.lst ((bq k k).map tI)),x2,x3,x4]) ?_).trans (by simp)
 simp[hsm];exact e
end PF
end
section
open PySem L2 VL
end
section
open PySem L2 VL
end
section
namespace PS
open PySem L2 VL PA PQ
end PS
end
section
namespace PA
open PySem L2 VL
end PA
end
section
namespace PS
open PySem L2 VL PA PQ
section
variable{n md mo:Int}{ρ:Ev}(h0:0<=n)(hn:n<=24)(m0:0<=md)(m1:md<7)
include h0 hn m0 m1
end
end PS
end
section
namespace PN
open PySem L2 VL PA
end PN
end
section
open PySem L2 VL
end
section
namespace PA
open PySem L2 VL
end PA
end
section
namespace PS
open PySem L2 VL PA PQ PN
section
variable{ps:List Int}{ts:List (Int×Int)}
theorem yx(ds:List Ap)(k:Nat)(h:k<=ds.length):cutD ds (some (k:Int)) none=ds.drop k:=by
 unfold cutD;rw[HT.p5,HT.sJ,LD h,Gu];rw[FP]; lia
end
end PS
end
section
namespace PF
open PySem L2 VL PA PQ
noncomputable def qR(k:Nat)(nm:List Int)(a:Nat):List Int:=nm.take a++[(k:Int)]++nm.drop a
noncomputable def pK(k:Nat)(nm:List Int):List (List Int):=(FD (k+1)).map (qR k nm)
noncomputable def nms:Nat->List (List Int)
 |0=>[[]]
 |k+1=>(nms k).flatMap (pK k)
theorem vh(k:Nat)(nm:List Int)(a:Nat):(qR k nm a).Perm ((k:Int)::nm):=by
 unfold qR;rw[Bi];have h:(nm.take a++(k:Int)::nm.drop a).Perm ((k:Int)::(nm.take a++nm.drop a)):=Kn;rw[EZ] at h;exact h
theorem fX:∀(k:Nat)(x:List Int),x∈nms k↔Pn k k x
 |0,x=>by
  show x∈[[]]↔_;rw[Bn];exact⟨λh=>h▸⟨G7,rfl,λy hy=>(nomatch hy)⟩,λh=>Ix h.len⟩
 |k+1,x=>by
  show x∈(nms k).flatMap (pK k)↔_;rw[Mp];constructor
  ·rintro⟨nm,hn,hx⟩
   have h:=(fX k nm).mp hn;obtain⟨a,_,rfl⟩:=FZ.mp hx;have p:=vh k nm a;have hk:(k:Int)∉nm:=λz=>by have:=(h.rng _ z).2; lia
   refine⟨p.nodup_iff.mpr (Fb.mpr ⟨hk,h.nd⟩),by rw[p.length_eq,D1,h.len],λy hy=>?_⟩
   rcases lK (p.mem_iff.mp hy) with rfl | hy
   ·exact⟨by lia,by lia⟩
   ·have:=h.rng y hy
    exact⟨this.1,by lia⟩
  ·intro h
   obtain⟨a,b,rfl⟩:=List.append_of_mem (h.all (y:=(k:Int)) (by lia) (by lia))
   have p:(a++(k:Int)::b).Perm ((k:Int)::(a++b)):=Kn;obtain⟨h1,h2⟩:=Fb.mp (p.nodup_iff.mp h.nd);have hl:(a++b).length=k:=by
    have:=h.len;rw[p.length_eq,D1] at this;lia
   refine⟨a++b,(fX k _).mpr ⟨h2,hl,λy hy=>?_⟩,FZ.mpr ⟨a.length,Hj.mpr (by rw[Bz] at hl; lia),?_⟩⟩
   ·have:=h.rng y (p.mem_iff.mpr (lO _ hy))
    have hne:y≠(k:Int):=λz=>h1 (z▸hy)
    exact⟨this.1,by lia⟩
   ·unfold qR
    rw[List.take_left,List.drop_left];simp
theorem qS(k:Nat)(nm:List Int):(pK k nm).length=k+1:=by unfold pK; rw[B2,Fj]
theorem pL:∀k,k<=6->(nms k).length<=6 ^ k
 |0,_=>Da _
 |k+1,h=>by
  have h1:=pL k (by lia)
  have h2:=ju (f:=pK k) (n:=6) (λs=>by rw[qS]; lia) (nms k)
  show ((nms k).flatMap (pK k)).length<=_;rw[Nat.pow_succ];exact GE h2 (MJ _ h1)
theorem C0(k:Nat):nms k≠[]:=λh=>by
 have:below k∈nms k:=(fX k _).mpr ⟨jt k,cg k,λy hy=>bO.mp hy⟩
 rw[h] at this;cases this
noncomputable abbrev Du:FE:=vB cy (vB cy (AZ (aa 0) gF (gG (aa 1))) (cz (af (aa 2)))) (AZ (aa 0) (gG (aa 1)) gF)
theorem an_in{k:Nat}{nm:List Int}{y:Option M}(hl:nm.length=k)(hk:k<=6)(acc:List Ap)(ha:acc.length<=100000):∃y',bJ (aj 1) cE Du (aQ 0 ((k:Int)+1)) [some (.v (tI nm)),y,some (.v (.int (k:Int)))] acc =
  some (acc++(pK k nm).map tI,[some (.v (tI nm)),y',some (.v (.int (k:Int)))]):=by
 have hr:aQ 0 ((k:Int)+1)=(FD (k+1)).map λa:Nat=>Fe (a:Int):=by
  rw[show (k:Int)+1=((k+1:Nat):Int) by lia,bT]
  unfold below;rw[Ee];rfl
 obtain⟨acc',ρ',e,dn,rs,y',h1,h2,rfl,rfl⟩:=qw (fg:=aj 1) (ft:=cE) (fe:=Du) (P:=λrest acc' ρ=>∃ (dn rs:List Nat) (y:Option M),rest=rs.map (λa:Nat=>Fe (a:Int))/\dn++rs=FD (k+1)/\acc'=acc++(dn.map (qR k nm)).map tI/\ρ=[some (.v (tI nm)),y,some (.v (.int (k:Int)))])
  (aQ 0 ((k:Int)+1)) [some (.v (tI nm)),y,some (.v (.int (k:Int)))] acc ⟨[],FD (k+1),y,hr,rfl,by simp,rfl⟩ (λd rest acc' ρ hP=>by
   obtain⟨dn,rs,y,h1,h2,rfl,rfl⟩:=hP;cases rs with
   |nil=>cases h1
   |cons a rs=>
    obtain⟨rfl,rfl⟩:=MU h1;have ham:a∈FD (k+1):=by rw[<-h2]; simp
    have hak:=Hj.mp ham;have hdl:dn.length<=k+1:=by have:=congrArg Iw h2; rw[Bz,Fj] at this; lia
    have c1:cutD (nm.map Fe) none (some (a:Int))=(nm.take a).map .int:=by rw[PQ.nM,Ip]
    have c2:cutD (nm.map Fe) (some (a:Int)) none=(nm.drop a).map .int:=by rw[PS.yx _ _ (by rw[B2]; lia),Iq]
    refine⟨by rw[Bz,B2,B2]; unfold lim; lia,[some (.v (tI nm)),some (.v (.int (a:Int))),some (.v (.int (k:Int)))],true,[some (.v (tI nm)),some (.v (.int (a:Int))),some (.v (.int (k:Int)))],by simp,rfl,.inr ⟨rfl,.t (.v (tI (qR k nm a))),[some (.v (tI nm)),some (.v (.int (a:Int))),some (.v (.int (k:Int)))],tI (qR k nm a),[some (.v (tI nm)),some (.v (.int (a:Int))),some (.v (.int (k:Int)))],?_,rfl,dn++[a],rs,some (.v (.int (a:Int))),rfl,by rw[Bi]; exact h2,by simp,rfl⟩⟩
    have l1:min a nm.length+1<=1000000:=by lia
    have l2:min a nm.length+1+(nm.length-a)<=1000000:=by lia
    unfold tI qR;simp only[Ip,Iq] at c1 c2;simp[c1,c2,lim,l1,l2])
 have hrs:rs=[]:=by cases rs with | nil=>rfl | cons _ _=>cases h1
 subst hrs;rw[E3] at h2;subst h2;exact⟨y',e⟩
theorem C1{i:Int}{N:M}{y:Option M}(h:cu (i+1)=true):bX eB (af (vB cy (aa 2) (vC (.int 1)))) [some N,y,some (.v (.int i))]=some (aQ 0 (i+1),[some N,y,some (.v (.int i))]):=by
 cases N <;> simp[h]
theorem C2{k B:Nat}(hk:k<=6)(hB:B<=100000):∀(L:List (List Int))(acc:List Ap)(x y:Option M),(∀nm∈L,nm.length=k)->acc.length+L.length*7<=B->∃x' y',fV (aj 0) cE (bX eB (af (vB cy (aa 2) (vC (.int 1))))) (aj 1) cE Du (L.map tI) [x,y,some (.v (.int (k:Int)))] acc =
  some (acc++(L.flatMap (pK k)).map tI,[x',y',some (.v (.int (k:Int)))]):=by
 intro L
 induction L with
 |nil=>intro acc x y _ _; exact⟨x,y,by simp[fV]⟩
 |cons nm L ih=>
  intro acc x y hl hle;rw[D1,Nat.add_mul,Nat.one_mul] at hle;obtain⟨y1,e1⟩:=an_in (nm:=nm) (y:=y) (hl nm lS) hk acc (by lia)
  obtain⟨x2,y2,e2⟩:=ih (acc++(pK k nm).map tI) (some (.v (tI nm))) y1 (λn hn=>hl n (lO _ hn)) (by rw[Bz,B2,qS]; lia)
  refine⟨x2,y2,?_⟩;have hsm:cu ((k:Int)+1)=true:=decide_eq_true (by unfold j9; lia)
  have hi:bX eB (af (vB cy (aa 2) (vC (.int 1)))) [some (.v (tI nm)),y,some (.v (.int (k:Int)))]=some (aQ 0 ((k:Int)+1),[some (.v (tI nm)),y,some (.v (.int (k:Int)))]):=by
   exact C1 hsm
  show (aj 0 (tI nm) [x,y,some (.v (.int (k:Int)))]).bind _=_;rw[show aj 0 (tI nm) [x,y,some (.v (.int (k:Int)))]=some [some (.v (tI nm)),y,some (.v (.int (k:Int)))] by simp]
  rw[Fi,show cE [some (.v (tI nm)),y,some (.v (.int (k:Int)))]=some (true,[some (.v (tI nm)),y,some (.v (.int (k:Int)))]) from rfl,Fi]
  dsimp only;rw[if_pos rfl,hi,Fi];dsimp only;rw[e1,Fi];dsimp only;rw[e2,Mg,HS,Bi]
noncomputable abbrev EH:FS:=bg 1 (xP 2 [2] (bC (aa 1)) (aj 0) cE (bX eB (af (vB cy (aa 2) (vC (.int 1))))) (aj 1) cE Du)
theorem vm{n:Nat}(hn:n<=6):FF.bN [.v (.int (n:Int))]=some (.lst ((nms n).map tI),[.v (.int (n:Int))]):=by
 have hsm:cu (n:Int)=true:=decide_eq_true (by unfold j9; lia)
 obtain⟨ρ',e,dn,rs,x2,h1,h2,rfl⟩:=g9 (fg:=aj 2) (fb:=EH) (P:=λrest ρ=>∃ (dn rs:List Nat) (x2:Option M),rest=rs.map (λa:Nat=>Fe (a:Int))/\dn++rs=FD n/\ρ=[some (.v (.int (n:Int))),some (.lst ((nms dn.length).map tI)),x2])
  (aQ 0 (n:Int)) [some (.v (.int (n:Int))),some (.lst [.tuple []]),none] ⟨[],FD n,none,by rw[bT]; unfold below; rw[Ee]; rfl,rfl,rfl⟩ (λd rest ρ hP=>by
   obtain⟨dn,rs,x2,h1,h2,rfl⟩:=hP;cases rs with
   |nil=>cases h1
   |cons a rs=>
    obtain⟨rfl,rfl⟩:=MU h1;have ha:a=dn.length:=by
     have h3:(FD n)[dn.length]? = some a:=by rw[<-h2]; simp
     rw[J4] at h3
     ·cases h3; rfl
     ·have:=congrArg Iw h2
      rw[Bz,D1,Fj] at this;lia
    have hlt:dn.length<n:=by have:=congrArg Iw h2; rw[Bz,D1,Fj] at this; lia
    subst ha;have hpow:(6:Nat) ^ dn.length<=6 ^ 5:=Iz (by decide) (by lia)
    have hle:=pL dn.length (by lia)
    have h5:(6:Nat) ^ 5=7776:=rfl;obtain⟨x',y',e⟩:=C2 (k:=dn.length) (B:=60000) (by lia) (by decide) (nms dn.length) [] none none (λnm hnm=>((fX _ nm).mp hnm).len) (by rw[FC]; lia)
    refine⟨[some (.v (.int (n:Int))),some (.lst ((nms dn.length).map tI)),some (.v (.int (dn.length:Int)))],[some (.v (.int (n:Int))),some (.lst ((nms (dn.length+1)).map tI)),some (.v (.int (dn.length:Int)))],by simp,?_,dn++[dn.length],rs,some (.v (.int (dn.length:Int))),rfl,by rw[Bi]; exact h2,by rw[Bz,Ft]⟩
    have hc:xP 2 [2] (bC (aa 1)) (aj 0) cE (bX eB (af (vB cy (aa 2) (vC (.int 1))))) (aj 1) cE Du [some (.v (.int (n:Int))),some (.lst ((nms dn.length).map tI)),some (.v (.int (dn.length:Int)))] =
      some (.t (.lst ((nms (dn.length+1)).map tI)),[some (.v (.int (n:Int))),some (.v (.list ((nms dn.length).map tI))),some (.v (.int (dn.length:Int)))]):=by
     show (fV (aj 0) cE (bX eB (af (vB cy (aa 2) (vC (.int 1))))) (aj 1) cE Du ((nms dn.length).map tI) [none,none,some (.v (.int (dn.length:Int)))] []).bind _=_;rw[e];rfl
    rw[EH,tS,hc];simp)
 have hrs:rs=[]:=by cases rs with | nil=>rfl | cons _ _=>cases h1
 subst hrs;rw[E3] at h2;have hdl:dn.length=n:=by rw[h2,Fj]
 rw[hdl] at e;refine eF (ρ:=[some (.v (.int (n:Int))),none,x2]) rfl ?_ rfl;show FF.fK [some (.v (.int (n:Int))),none,none]=_;refine(aB (ρ1:=[some (.v (.int (n:Int))),some (.lst [.tuple []]),none]) (by simp[lim])).trans ?_
 refine(aB (ρ1:=[some (.v (.int (n:Int))),some (.lst ((nms n).map tI)),x2]) ?_).trans (by simp)
 rw[kB,show bX eB (af (aa 0)) [some (.v (.int (n:Int))),some (.lst [.tuple []]),none]=some (aQ 0 (n:Int),[some (.v (.int (n:Int))),some (.lst [.tuple []]),none]) by simp[hsm]]
 exact e
noncomputable abbrev tb(ps:List Int)(ts:List (Int×Int))(nm:List Int):List (Int×Int):=cL (ts.map (bH ps nm))
def Sf(ps:List Int)(ts:List (Int×Int)):List (Int×Int)->Prop:=λa=>∃nm,Pn ps.length ps.length nm/\a=tb ps ts nm
structure Wn(ps:List Int)(ts:List (Int×Int)):Prop where
 nd:ps.Nodup
 few:ps.length<=6
 ends:∀t∈ts,t.1∈ps/\t.2∈ps
 len:ts.length<64
noncomputable def C3(d:Ap):List Int:=(Ez d).getD []
theorem pM(nm:List Int):C3 (tI nm)=nm:=by
 show (eO (nm.map .int)).getD []=nm;rw[fG];rfl
theorem form{ps:List Int}{ts:List (Int×Int)}(w:Wn ps ts):∃m,cX (Sf ps ts) m/\FF.bE [.v (wD ps ts)]=some (.v (wD (below ps.length) m),[.v (wD ps ts)]):=by
 have hpow:(6:Nat) ^ ps.length<=6 ^ 6:=Iz (by decide) w.few
 have hle:=pL ps.length w.few;have h6:(6:Nat) ^ 6=46656:=rfl;obtain⟨x,e⟩:=d7 (fe:=fj FF.cF (ah (aa 1) (af (aa 0)))) (cs:=[some (.v (wD ps ts))]) (f:=λd=>wD (below ps.length) (tb ps ts (C3 d))) ((nms ps.length).map tI) [] none (λd hd=>by
  obtain⟨nm,hnm,rfl⟩:=FZ.mp hd;have p:=(fX _ nm).mp hnm;have r:=renamed (ts:=ts) w.nd p.len (by have:=w.few; lia) w.ends w.len
  rw[p.sort] at r;refine⟨.t (.v (wD (below ps.length) (tb ps ts nm))),?_,by rw[pM]; rfl⟩
  generalize hN:tI nm=N at *;generalize wD ps ts=W at *;simp[r]) (by rw[FC,B2]; unfold lim; lia)
 rw[Fm,Ee] at e;have hL:(nms ps.length).map ((λd=>wD (below ps.length) (tb ps ts (C3 d)))∘tI)=((nms ps.length).map (tb ps ts)).map (wD (below ps.length)):=by
  rw[Ee];refine Fo λnm _=>?_
  show wD (below ps.length) (tb ps ts (C3 (tI nm)))=_;rw[pM];rfl
 rw[hL] at e;obtain⟨m,hm,em⟩:=vf (P:=below ps.length) (L:=(nms ps.length).map (tb ps ts)) (by
  intro z;exact C0 ps.length (List.map_eq_nil_iff.mp z))
 refine⟨m,hm.congr λa=>?_,?_⟩
 ·show a∈(nms ps.length).map (tb ps ts)↔Sf ps ts a
  rw[FZ];constructor
  ·rintro⟨nm,h1,rfl⟩; exact⟨nm,(fX _ nm).mp h1,rfl⟩
  ·rintro⟨nm,h1,rfl⟩; exact⟨nm,(fX _ nm).mpr h1,rfl⟩
 ·refine eF (ρ:=[some (.v (wD ps ts))]) rfl ?_ rfl
  show FF.gQ [some (.v (wD ps ts))]=_;have an:=vm w.few;have hlen:gk [M.v (tI ps)]=some (.v (.int ps.length)):=by unfold tI; rw[tU,B2]
  have hw:cH (aa 0) (vC (.int 0)) [some (.v (wD ps ts))]=some (.t (.v (tI ps)),[some (.v (wD ps ts))]):=rfl;have hi:bC (fj FF.bN (af (bQ gk (af (cH (aa 0) (vC (.int 0))))))) [some (.v (wD ps ts))]=some ((nms ps.length).map tI,[some (.v (wD ps ts))]):=by
   rw[qv,CN,fH,jK,fH,hw];simp[hlen,an]
  rw[FF.gQ,o7,jK,fH,xG,hi];generalize ((nms ps.length).map (tb ps ts)).map (wD (below ps.length))=LL at e em;generalize wD ps ts=W at *;simp[e,em]
noncomputable abbrev zD(ps nm:List Int):List (Key×Ap):=(ps.map Hi).zip (nm.map Fe)
noncomputable def dD(ps nm:List Int):Ap:=.dict ((zD ps nm).map λp=>(kY p.1,p.2))
theorem C4{ps nm:List Int}(hl:nm.length=ps.length){x:Int}(hx:x∈ps):getM (.v (dD ps nm)) (.v (.int x))=some (.v (.int (az ps nm x))):=by
 show (nv ((zD ps nm).map λp=>(kY p.1,p.2))).bind _=_
 rw[ly];show (dm (zD ps nm) (.inl x)).bind _=_;rw[jo hl hx];rfl
section
variable{ps:List Int}{ts:List (Int×Int)}
theorem yy(w:Wn ps ts){x2 x3 x4 x5:Option M}{L:List (List Int)}(hL:∀nm∈L,nm.length=ps.length)(hl:L.length<=100000):jM 1 [0] 1 (aj 0) cE (bQ vH (ah (cH (aa 1) (vC (.int 0))) (af (aa 0)))) [some (.v (wD ps ts)),some (.lst (L.map tI)),x2,x3,x4,x5] =
  some (.t (.lst (L.map (dD ps))),[some (.v (wD ps ts)),some (.lst (L.map tI)),x2,x3,x4,x5]):=by
 obtain⟨x,e⟩:=d7 (fe:=bQ vH (ah (cH (aa 1) (vC (.int 0))) (af (aa 0)))) (cs:=[some (.v (wD ps ts))]) (f:=λd=>dD ps (C3 d)) (L.map tI) [] none (λd hd=>by
  obtain⟨nm,hnm,rfl⟩:=FZ.mp hd;have ed:=pI (nm:=nm) w.nd;refine⟨.t (.bP (zD ps nm)),?_,by rw[pM]; rfl⟩
  have hw:∀N:Ap,cH (aa 1) (vC (.int 0)) [some (.v N),some (.v (wD ps ts))]=some (.t (.v (tI ps)),[some (.v N),some (.v (wD ps ts))]):=λ_=>rfl
  rw[jK,gZ,hw];generalize tI nm=N at *;generalize tI ps=Q at *;generalize wD ps ts=W at *;simp[ed]) (by rw[FC,B2]; unfold lim; lia)
 rw[Fm,Ee] at e;have hM:L.map ((λd=>dD ps (C3 d))∘tI)=L.map (dD ps):=Fo λnm _=>by show dD ps (C3 (tI nm))=_; rw[pM]
 rw[hM] at e;rw[yw (ds:=L.map tI) rfl (by decide)]
 generalize wD ps ts=W at *;simp[e]
noncomputable abbrev Ef:FE:=kc 2 [4] (bC (cH (aa 0) (vC (.int 1)))) (dS 2 (aW (aj 0) (aW (aj 1) ez))) cE (bQ dw (af (bQ bW (af (eT (ah (cH (aa 2) (aa 0)) (af (cH (aa 2) (aa 1)))))))))
theorem Az(w:Wn ps ts){nm:List Int}(hl:nm.length=ps.length){x1 x2 x3 x5:Option M}:bQ bW (af Ef) [some (.v (wD ps ts)),x1,x2,x3,some (.v (dD ps nm)),x5] =
  some (.t (.lst ((tb ps ts nm).map pD)),[some (.v (wD ps ts)),x1,x2,x3,some (.v (dD ps nm)),x5]):=by
 have hg:∀x∈ps,getM (.v (dD ps nm)) (.v (.int x))=some (.v (.int (az ps nm x))):=λx hx=>C4 hl hx
 obtain⟨z1,z2,e5⟩:=fM (fe:=bQ dw (af (bQ bW (af (eT (ah (cH (aa 2) (aa 0)) (af (cH (aa 2) (aa 1))))))))) (cs:=[some (.v (dD ps nm))]) (f:=λt=>pD (bH ps nm t)) ts [] none none (λt htm=>by
  obtain⟨h1,h2⟩:=w.ends t htm;have es:=iP (ns:=[az ps nm t.1,az ps nm t.2]) (by simp)
  rw[nO] at es;have es:bW [.lst [.int (az ps nm t.1),.int (az ps nm t.2)]]=some (.lst [.int (bH ps nm t).1,.int (bH ps nm t).2]):=es;refine⟨.t (.v (pD (bH ps nm t))),?_,rfl⟩;have g1:=hg _ h1;have g2:=hg _ h2;generalize dD ps nm=DD at *;simp[g1,g2,lim,es]) (by rw[FC]; have:=w.len; unfold lim; lia)
 rw[Fm,show ts.map (λt=>pD (bH ps nm t))=(ts.map (bH ps nm)).map pD by rw[Ee]; rfl] at e5
 have e6:=eW (ts:=ts.map (bH ps nm)) (by rw[B2]; exact w.len)
 have hw:cH (aa 0) (vC (.int 1)) [some (.v (wD ps ts)),x1,x2,x3,some (.v (dD ps nm)),x5]=some (.t (.v (tD ts)),[some (.v (wD ps ts)),x1,x2,x3,some (.v (dD ps nm)),x5]):=rfl;have hi:bC (cH (aa 0) (vC (.int 1))) [some (.v (wD ps ts)),x1,x2,x3,some (.v (dD ps nm)),x5]=some (ts.map pD,[some (.v (wD ps ts)),x1,x2,x3,some (.v (dD ps nm)),x5]):=by rw[qv,hw]; rfl
 rw[jK,fH,Ef,xG,hi];generalize dD ps nm=DD at *;generalize wD ps ts=W at *;generalize (ts.map (bH ps nm)).map pD=C at *;simp[e5,e6]
inductive Bs(ps:List Int)(ts:List (Int×Int))(dn:List (List Int)):Option M->Prop
 |none:dn=[]->Bs ps ts dn (some (.v .none))
 |own (m:List (Int×Int)):cX (λa=>∃nm∈dn,a=tb ps ts nm) m->Bs ps ts dn (some (.lst (m.map pD)))
 |frz (m:List (Int×Int)):cX (λa=>∃nm∈dn,a=tb ps ts nm) m->Bs ps ts dn (some (.v (.list (m.map pD))))
theorem lU{dn:List (List Int)}{nm:List Int}{m:List (Int×Int)}(h:cX (λa=>∃n∈dn,a=tb ps ts n) m):cX (λa=>∃n∈dn++[nm],a=tb ps ts n) (if kh (tb ps ts nm) m=true then tb ps ts nm else m):=by
 by_cases c:kh (tb ps ts nm) m=true
 ·rw[if_pos c]
  refine⟨⟨nm,by simp,rfl⟩,λa ha=>?_⟩
  obtain⟨n,hn,rfl⟩:=ha;rcases lM hn with hn | hn
  ·have h1:=h.low _ ⟨n,hn,rfl⟩
   cases z:kh (tb ps ts n) (tb ps ts nm) with
   |false=>rfl
   |true=>
    have y:=totL.trans _ _ _ z c;rw[show kh (tb ps ts n) m=HT.lexLt (flat (tb ps ts n)) (flat m) from rfl,y] at h1
    cases h1
  ·rw[Bn.mp hn]; exact jr _
 ·rw[if_neg c]
  obtain⟨n0,h0,e0⟩:=h.mem;refine⟨⟨n0,lL _ h0,e0⟩,λa ha=>?_⟩
  obtain⟨n,hn,rfl⟩:=ha;rcases lM hn with hn | hn
  ·exact h.low _ ⟨n,hn,rfl⟩
  ·rw[Bn.mp hn]; simpa using c
noncomputable abbrev Eg:FS:=aN (bg 5 (bQ bW (af Ef))) (bg 3 (AS (cK (vB (oS false) (aa 3) (vC .none))) (aa 5) (qF (ah (aa 3) (af (aa 5))))))
theorem AB(w:Wn ps ts){dn:List (List Int)}{nm:List Int}(hl:nm.length=ps.length){x1 x2 x3 x5:Option M}(hb:Bs ps ts dn x3):∃x3' x5',Bs ps ts (dn++[nm]) x3'/\Eg [some (.v (wD ps ts)),x1,x2,x3,some (.v (dD ps nm)),x5]=some (.nx [some (.v (wD ps ts)),x1,x2,x3',some (.v (dD ps nm)),x5']):=by
 have e:=Az w hl (x1:=x1) (x2:=x2) (x3:=x3) (x5:=x5);have first:Eg [some (.v (wD ps ts)),x1,x2,x3,some (.v (dD ps nm)),x5]=bg 3 (AS (cK (vB (oS false) (aa 3) (vC .none))) (aa 5) (qF (ah (aa 3) (af (aa 5))))) [some (.v (wD ps ts)),x1,x2,x3,some (.v (dD ps nm)),some (.lst ((tb ps ts nm).map pD))]:=by
  refine(aB (ρ1:=[some (.v (wD ps ts)),x1,x2,x3,some (.v (dD ps nm)),some (.lst ((tb ps ts nm).map pD))]) ?_);rw[tS,e];simp
 have ok:=λm=>CZ m (tb ps ts nm)
 have lt:=λm=>qO (tb ps ts nm) m
 rw[first];generalize hT:(tb ps ts nm).map pD=T at *;generalize dD ps nm=DD at *;generalize wD ps ts=W at *;cases hb with
 |none h=>
  refine⟨some (.lst T),none,?_,?_⟩
  ·rw[<-hT]
   refine .own _ ⟨⟨nm,by simp,rfl⟩,λa ha=>?_⟩
   obtain⟨n,hn,rfl⟩:=ha;rw[h] at hn;have hn':n=nm:=by simpa using hn
   rw[hn'];exact jr _
  ·have hn:oS false (.v .none) (.v .none)=some (.v (.bool true)):=rfl
   simp[hn]
 |own m h=>
  refine⟨some (.v (.list ((if kh (tb ps ts nm) m=true then tb ps ts nm else m).map pD))),some (.v (.list T)),.frz _ (lU h),?_⟩
  have hn:oS false (.lst (m.map pD)) (.v .none)=some (.v (.bool false)):=rfl;have o:=ok m;have l:=lt m
  by_cases c:kh (tb ps ts nm) m=true
  ·rw[if_pos c]
   rw[c] at l;generalize m.map pD=mm at *;simp[hn,o,l,hT]
  ·rw[if_neg c]
   have c':kh (tb ps ts nm) m=false:=by simpa using c
   rw[c'] at l;generalize m.map pD=mm at *;simp[hn,o,l]
 |frz m h=>
  refine⟨some (.v (.list ((if kh (tb ps ts nm) m=true then tb ps ts nm else m).map pD))),some (.v (.list T)),.frz _ (lU h),?_⟩
  have hn:oS false (.v (.list (m.map pD))) (.v .none)=some (.v (.bool false)):=rfl;have o:=ok m;have l:=lt m
  by_cases c:kh (tb ps ts nm) m=true
  ·rw[if_pos c]
   rw[c] at l;generalize m.map pD=mm at *;simp[hn,o,l,hT]
  ·rw[if_neg c]
   have c':kh (tb ps ts nm) m=false:=by simpa using c
   rw[c'] at l;generalize m.map pD=mm at *;simp[hn,o,l]
theorem AD(w:Wn ps ts){x1 x2:Option M}:∀(L dn:List (List Int))(x3 x4 x5:Option M),(∀nm∈L,nm.length=ps.length)->Bs ps ts dn x3->∃x3' x4' x5',Bs ps ts (dn++L) x3'/\forL (aj 4) Eg (L.map (dD ps)) [some (.v (wD ps ts)),x1,x2,x3,x4,x5]=some (.nx [some (.v (wD ps ts)),x1,x2,x3',x4',x5']):=by
 intro L
 induction L with
 |nil=>intro dn x3 x4 x5 _ hb; exact⟨x3,x4,x5,by rw[E3]; exact hb,rfl⟩
 |cons nm L ih=>
  intro dn x3 x4 x5 hl hb;obtain⟨y3,y5,hb',e1⟩:=AB w (hl nm lS) (x1:=x1) (x2:=x2) (x5:=x5) hb;obtain⟨z3,z4,z5,hb2,e2⟩:=ih (dn++[nm]) y3 (some (.v (dD ps nm))) y5 (λn hn=>hl n (lO _ hn)) hb'
  refine⟨z3,z4,z5,by rw[show dn++nm::L=dn++[nm]++L by simp]; exact hb2,?_⟩
  show (aj 4 (dD ps nm) [some (.v (wD ps ts)),x1,x2,x3,x4,x5]).bind _=_;rw[show aj 4 (dD ps nm) [some (.v (wD ps ts)),x1,x2,x3,x4,x5]=some [some (.v (wD ps ts)),x1,x2,x3,some (.v (dD ps nm)),x5] by simp,Fi,e1,Fi]
  exact e2
theorem sE(n:Nat):N8 (upto n)=tI (below n):=by
 unfold upto below tI;rw[Ee];rfl
theorem lV(w:Wn ps ts):∃m,cX (Sf ps ts) m/\FF.aD [.v (wD ps ts),.lst ((bq ps.length ps.length).map tI)]=some (.v (wD (below ps.length) m),[.v (wD ps ts),.lst ((bq ps.length ps.length).map tI)]):=by
 have hpow:(6:Nat) ^ ps.length<=6 ^ 6:=Iz (by decide) w.few
 have hle:=lT w.few ps.length;have h6:(6:Nat) ^ 6=46656:=rfl;have hL:∀nm∈bq ps.length ps.length,nm.length=ps.length:=λnm hnm=>((eL _ _ nm).mp hnm).len
 have e1:=yy w (x2:=none) (x3:=none) (x4:=none) (x5:=none) hL (by lia)
 obtain⟨x3,x4,x5,hb,e2⟩:=AD w (x1:=some (.lst ((bq ps.length ps.length).map tI))) (x2:=some (.v (.list ((bq ps.length ps.length).map (dD ps))))) (bq ps.length ps.length) [] (some (.v .none)) none none hL (.none rfl);rw[Fm] at hb;have hne:bq ps.length ps.length≠[]:=λh=>by
  have:below ps.length∈bq ps.length ps.length:=(eL _ _ _).mpr ⟨jt _,cg _,λy hy=>bO.mp hy⟩
  rw[h] at this;cases this
 obtain⟨m,hm,ht⟩:∃m,cX (λa=>∃nm∈bq ps.length ps.length,a=tb ps ts nm) m/\(x3=some (.lst (m.map pD))\/x3=some (.v (.list (m.map pD)))):=by
  cases hb with
  |none h=>exact absurd h hne
  |own m h=>exact⟨m,h,.inl rfl⟩
  |frz m h=>exact⟨m,h,.inr rfl⟩
 refine⟨m,hm.congr λa=>?_,?_⟩
 ·constructor
  ·rintro⟨nm,h1,h2⟩; exact⟨nm,(eL _ _ nm).mp h1,h2⟩
  ·rintro⟨nm,h1,h2⟩; exact⟨nm,(eL _ _ nm).mpr h1,h2⟩
 ·have htr:Dt [.v (.int (ps.length:Int))]=some (.v (tI (below ps.length))):=by
   show (if 0<=(ps.length:Int)/\(ps.length:Int)<=1000000 then some (M.v (.tuple (upto (ps.length:Int).toNat))) else none)=_
   rw[if_pos ⟨by lia,by have:=w.few; lia⟩,GY,sE]
  have hlen:gk [M.v (tI ps)]=some (.v (.int ps.length)):=by unfold tI; rw[tU,B2]
  refine eF (ρ:=[some (.v (wD ps ts)),some (.lst ((bq ps.length ps.length).map tI)),some (.v (.list ((bq ps.length ps.length).map (dD ps)))),x3,x4,x5]) rfl ?_ rfl;show FF.dg [some (.v (wD ps ts)),some (.lst ((bq ps.length ps.length).map tI)),none,none,none,none]=_;have hw:∀{x1 x2 x3 x4 x5:Option M},cH (aa 0) (vC (.int 0)) [some (.v (wD ps ts)),x1,x2,x3,x4,x5]=some (.t (.v (tI ps)),[some (.v (wD ps ts)),x1,x2,x3,x4,x5]):=rfl;refine(aB (ρ1:=[some (.v (wD ps ts)),some (.lst ((bq ps.length ps.length).map tI)),some (.lst ((bq ps.length ps.length).map (dD ps))),some (.v .none),none,none]) ?_).trans ?_
  ·rw[Af,gZ,e1]
   simp
  refine(aB (ρ1:=[some (.v (wD ps ts)),some (.lst ((bq ps.length ps.length).map tI)),some (.v (.list ((bq ps.length ps.length).map (dD ps)))),x3,x4,x5]) ?_).trans ?_
  ·rw[kB,show bC (aa 2) [some (.v (wD ps ts)),some (.lst ((bq ps.length ps.length).map tI)),some (.lst ((bq ps.length ps.length).map (dD ps))),some (.v .none),none,none]=some ((bq ps.length ps.length).map (dD ps),[some (.v (wD ps ts)),some (.lst ((bq ps.length ps.length).map tI)),some (.v (.list ((bq ps.length ps.length).map (dD ps)))),some (.v .none),none,none]) by simp]
   exact e2
  ·have hfst:∀{x1 x2 x3 x4 x5:Option M},bQ Dt (af (bQ gk (af (cH (aa 0) (vC (.int 0)))))) [some (.v (wD ps ts)),x1,x2,x3,x4,x5]=some (.t (.v (tI (below ps.length))),[some (.v (wD ps ts)),x1,x2,x3,x4,x5]):=λ{x1 x2 x3 x4 x5}=>by
    rw[jK,fH,jK,fH,hw];simp[hlen,htr]
   have h2:(2:Nat)<=lim:=by unfold lim; lia
   rcases ht with ht | ht
   ·rw[ht,o7,tR,gZ,hfst]
    show _=some (Out.rt (M.v (.tuple [tI (below ps.length),.tuple (m.map pD)])) _);generalize wD ps ts=W at *;generalize tI (below ps.length)=BB at *;generalize m.map pD=mm at *;simp[lim]
   ·rw[ht,o7,tR,gZ,hfst]
    show _=some (Out.rt (M.v (.tuple [tI (below ps.length),.tuple (m.map pD)])) _);generalize wD ps ts=W at *;generalize tI (below ps.length)=BB at *;generalize m.map pD=mm at *;simp[lim]
end
theorem qT{a b:List (Int×Int)}(p:a.Perm b):cL a=cL b:=by
 unfold cL;rw[iJ (ns:=b.map enc) (ns':=iz (a.map enc)) ((cP _ _).trans (p.map enc)) (gH cN cT _)]
theorem Pn.perm{n k:Nat}{x y:List Int}(h:Pn n k x)(p:y.Perm x):Pn n k y:=⟨p.nodup_iff.mpr h.nd,by rw[p.length_eq]; exact h.len,λz hz=>h.rng z (p.mem_iff.mp hz)⟩
theorem AE(a b:Int):mn a b=mn b a:=by
 unfold mn
 by_cases h1:b<a <;> by_cases h2:a<b <;> simp[h1,h2] <;> lia
theorem AF(a b:Int):mx a b=mx b a:=by
 unfold mx
 by_cases h1:b>a <;> by_cases h2:a>b <;> simp[h1,h2] <;> lia
theorem AG(x y:Int):(mn x y=x/\mx x y=y)\/(mn x y=y/\mx x y=x):=by
 unfold mn mx
 by_cases h1:y<x <;> by_cases h2:y>x <;> simp[h1,h2] <;> lia
theorem vn{g:Int->Int}(x y:Int):mn (g (mn x y)) (g (mx x y))=mn (g x) (g y)/\mx (g (mn x y)) (g (mx x y))=mx (g x) (g y):=by
 rcases AG x y with⟨h1,h2⟩ | ⟨h1,h2⟩
 ·rw[h1,h2]; exact⟨rfl,rfl⟩
 ·rw[h1,h2]; exact⟨AE _ _,AF _ _⟩
section
variable{ps qs:List Int}{ts:List (Int×Int)}
theorem t9(w:Wn ps ts)(nq:qs.Nodup)(lq:qs.length=ps.length){nm:List Int}(hn:nm.length=ps.length):tb (sortI qs) (tb ps ts qs) nm=tb ps ts (ps.map λp=>az (sortI qs) nm (az ps qs p)):=by
 refine qT ?_;have h1:((tb ps ts qs).map (bH (sortI qs) nm)).Perm ((ts.map (bH ps qs)).map (bH (sortI qs) nm)):=(bS _).map _;refine h1.trans ?_;rw[Ee];have:ts.map (bH (sortI qs) nm∘bH ps qs)=ts.map (bH ps (ps.map λp=>az (sortI qs) nm (az ps qs p))):=by
  refine Fo λt ht=>?_
  obtain⟨e1,e2⟩:=w.ends t ht;show (mn (az (sortI qs) nm (mn (az ps qs t.1) (az ps qs t.2))) (az (sortI qs) nm (mx (az ps qs t.1) (az ps qs t.2))),mx (az (sortI qs) nm (mn (az ps qs t.1) (az ps qs t.2))) (az (sortI qs) nm (mx (az ps qs t.1) (az ps qs t.2))))=_;obtain⟨c1,c2⟩:=vn (g:=az (sortI qs) nm) (az ps qs t.1) (az ps qs t.2);rw[c1,c2];unfold bH;rw[jq (f:=λp=>az (sortI qs) nm (az ps qs p)) e1,jq (f:=λp=>az (sortI qs) nm (az ps qs p)) e2]
 rw[this]
theorem vo(w:Wn ps ts)(nq:qs.Nodup)(lq:qs.length=ps.length)(a:List (Int×Int)):Sf (sortI qs) (tb ps ts qs) a↔Sf ps ts a:=by
 have pq:=sortI_perm qs;have lo:(sortI qs).length=ps.length:=by rw[pq.length_eq,lq]
 have no:(sortI qs).Nodup:=pq.nodup_iff.mpr nq;constructor
 ·rintro⟨nm,hp,rfl⟩
  rw[lo] at hp;refine⟨ps.map λp=>az (sortI qs) nm (az ps qs p),hp.perm ?_,t9 w nq lq hp.len⟩
  have e1:(ps.map λp=>az (sortI qs) nm (az ps qs p))=qs.map (az (sortI qs) nm):=by
   have h:=congrArg (Iv (az (sortI qs) nm)) (fO lq w.nd);rw[Ee] at h;exact h
  rw[e1];have e2:(sortI qs).map (az (sortI qs) nm)=nm:=fO (by rw[hp.len,lo]) no
  have:=(pq.symm).map (az (sortI qs) nm);rw[e2] at this;exact this
 ·rintro⟨nm',hp,rfl⟩
  have g1:(qs.map λq=>az ps nm' (az qs ps q))=nm':=by
   have h1:qs.map (az qs ps)=ps:=fO lq.symm nq;have h2:ps.map (az ps nm')=nm':=fO hp.len w.nd;have h:=congrArg (Iv (az ps nm')) h1;rw[Ee,h2] at h;exact h
  have pn:((sortI qs).map λq=>az ps nm' (az qs ps q)).Perm nm':=by
   have:=pq.map λq=>az ps nm' (az qs ps q)
   rw[g1] at this;exact this
  have hn:=hp.perm pn;refine⟨(sortI qs).map λq=>az ps nm' (az qs ps q),by rw[lo]; exact hn,?_⟩
  rw[t9 w nq lq hn.len]
  congr 1
  have h2:ps.map (az ps nm')=nm':=fO hp.len w.nd
  conv=>lhs; rw[<-h2]
  refine Fo λp hpm=>?_
  have hq:az ps qs p∈sortI qs:=pq.mem_iff.mpr (eK lq hpm);rw[jq (f:=λq=>az ps nm' (az qs ps q)) hq,nN lq nq hpm]
theorem Wn.called(w:Wn ps ts)(nq:qs.Nodup)(lq:qs.length=ps.length):Wn (sortI qs) (tb ps ts qs):=by
 have pq:=sortI_perm qs;refine⟨pq.nodup_iff.mpr nq,by rw[pq.length_eq,lq]; exact w.few,λt ht=>?_,by rw[(bS _).length_eq,B2]; exact w.len⟩
 obtain⟨u,hu,rfl⟩:=FZ.mp ((bS _).mem_iff.mp ht);obtain⟨e1,e2⟩:=w.ends u hu;have:=qK (P:=λx=>x∈qs) (eK lq e1) (eK lq e2)
 exact⟨pq.mem_iff.mpr this.1,pq.mem_iff.mpr this.2⟩
theorem jZ(w:Wn ps ts){m:List (Int×Int)}(hm:cX (Sf ps ts) m)(nq:qs.Nodup)(lq:qs.length=ps.length):FF.bE [.v (wD (sortI qs) (tb ps ts qs))]=some (.v (wD (below ps.length) m),[.v (wD (sortI qs) (tb ps ts qs))]):=by
 obtain⟨m',h1,e⟩:=form (w.called nq lq);have:m'=m:=(h1.congr (vo w nq lq)).uniq hm;rw[this,show (sortI qs).length=ps.length by rw[(sortI_perm qs).length_eq,lq]] at e
 exact e
theorem qU(w:Wn ps ts){m:List (Int×Int)}(hm:cX (Sf ps ts) m):FF.bE [.v (wD ps ts)]=some (.v (wD (below ps.length) m),[.v (wD ps ts)]):=by
 obtain⟨m',h1,e⟩:=form w;rw[h1.uniq hm] at e;exact e
theorem vp(w:Wn ps ts){m:List (Int×Int)}(hm:cX (Sf ps ts) m):FF.bE [.v (wD (below ps.length) m)]=some (.v (wD (below ps.length) m),[.v (wD (below ps.length) m)]):=by
 obtain⟨nm,hp,rfl⟩:=hm.mem;have:=jZ w hm hp.nd hp.len;rw[hp.sort] at this;exact this
theorem yz(w:Wn ps ts){m:List (Int×Int)}(hm:cX (Sf ps ts) m):(∀t∈m,CW t)/\m.length<64:=by
 obtain⟨nm,hp,rfl⟩:=hm.mem;refine⟨λt ht=>?_,by rw[(bS _).length_eq,B2]; exact w.len⟩
 obtain⟨u,hu,rfl⟩:=FZ.mp ((bS _).mem_iff.mp ht);obtain⟨e1,e2⟩:=w.ends u hu;have hf:=w.few;have:=qK (P:=λx=>sm x) (show sm (az ps nm u.1) by have:=hp.rng _ (eK hp.len e1); unfold sm; lia) (show sm (az ps nm u.2) by have:=hp.rng _ (eK hp.len e2); unfold sm; lia)
 exact this
theorem nP(w:Wn ps ts){m:List (Int×Int)}(hm:cX (Sf ps ts) m):fJ [.v (wD (below ps.length) m)]=some (.v (.str (wD (below ps.length) m).shown)):=by
 obtain⟨h1,h2⟩:=yz w hm;have hf:=w.few;exact yt (λp hp=>by have:=bO.mp hp; unfold sm; lia) h1 (by rw[cg]; lia) (by lia)
end
end PF
end
section
namespace PQ
open PySem L2 VL PA
theorem qV{ts:List (Int×Int)}(h:ts.length<64):nH [.v (tD ts)]=some (.lst ((cL ts).map pD)):=by
 by_cases e:ts=[]
 ·subst e; rfl
 ·have h1:bW [.v (tD ts)]=none:=by
   show (eO (ts.map pD)).bind _=_;rw[lJ e];rfl
  unfold nH;rw[h1];show (if (ts.map pD).length<64 then (rR (ts.map pD)).bind _ else none)=_
  rw[if_pos (by rw[B2]; exact h),lI]
  show (if ((ts.map enc).all λk=> !k.isEmpty)=true then some (M.lst ((iz (ts.map enc)).map tI)) else none)=_
  rw[if_pos (by rw[List.all_map]; simp),jQ,Ee]
  rfl
end PQ
end
section
namespace PF
open PySem L2 VL PA PQ
section
variable{ps qs:List Int}{ts:List (Int×Int)}
theorem AH{nm:List Int}(nd:ps.Nodup):vH [.v (tI ps),.lst (nm.map .int)]=some (.bP (zD ps nm)):=pI (nm:=nm) nd
theorem ua:∀{ps nm:List Int},nm.length=ps.length->(zD ps nm).map (·.2)=nm.map Fe
 |[],[],_=>rfl
 |[],_::_,h=>by cases h
 |_::_,[],h=>by cases h
 |p::ps,n::nm,h=>by
  show Fe n::(zD ps nm).map (·.2)=_;rw[ua (by simpa using h)]
  rfl
noncomputable abbrev EI:FE:=vB oO (vC (.int 99)) (vB mulM (vC (.int 7)) (aa 0))
noncomputable def base(n:Nat):List Int:=(below n).map λj=>99-7*j
theorem AI(n:Nat):(base n).Nodup:=by
 unfold base KF;rw[Gv];exact(jt n).imp λh e=>h (by lia)
theorem vq{n:Nat}(hn:n<=100):∃x,bJ (aj 0) cE EI (aQ 0 (n:Int)) [none] []=some ((base n).map .int,[x]):=by
 obtain⟨x,e⟩:=d7 (fe:=EI) (cs:=[]) (f:=λd=>.int (99-7*DP d)) ((below n).map .int) [] none (λd hd=>by
  obtain⟨j,_,rfl⟩:=FZ.mp hd;exact⟨.t (.v (.int (99-7*j))),by simp,rfl⟩) (by rw[FC,B2,cg]; unfold lim; lia)
 refine⟨x,?_⟩;rw[bT,e,Fm,Ee];unfold base;rw[Ee];rfl
theorem eq_pD(neg:Bool)(t u:Int×Int):rP neg (.v (pD t)) (.v (pD u))=some (.v (.bool (if neg then !decide (t=u) else decide (t=u)))):=by
 show (if okEq (pD t) (pD u)=true then some (M.v (.bool (if neg then !PyData.eqv (pD t) (pD u) else FM (pD t) (pD u)))) else none)=_
 rw[PQ.pG,if_pos];rfl
theorem vt{ft:FT}{cs:Ev}{p:Int×Int->Bool}(hft:∀t,ft (some (.v (pD t))::cs)=some (p t,some (.v (pD t))::cs)):∀(us:List (Int×Int))(acc:List Ap)(x:Option M),acc.length+us.length<=100000->∃y,bJ (aj 0) ft (aa 0) (us.map pD) (x::cs) acc=some (acc++(us.filter p).map pD,y::cs):=by
 intro us
 induction us with
 |nil=>intro acc x _; exact⟨x,by simp[bJ]⟩
 |cons t us ih=>
  intro acc x hl;rw[D1] at hl;have hlim:acc.length<lim:=by unfold lim; lia
  by_cases c:p t=true
  ·obtain⟨y,e⟩:=ih (acc++[pD t]) (some (.v (pD t))) (by rw[Bz,Ft]; lia)
   refine⟨y,?_⟩;show (aj 0 (pD t) (x::cs)).bind _=_;rw[show aj 0 (pD t) (x::cs)=some (some (.v (pD t))::cs) by simp,Fi,hft t,c]
   rw[Jf,if_pos c,FN];generalize pD t=T at *;simp[hlim,e]
  ·obtain⟨y,e⟩:=ih acc (some (.v (pD t))) (by lia)
   refine⟨y,?_⟩;have c':p t=false:=by simpa using c
   show (aj 0 (pD t) (x::cs)).bind _=_;rw[show aj 0 (pD t) (x::cs)=some (some (.v (pD t))::cs) by simp,Fi,hft t,c']
   rw[Jf,if_neg c];generalize pD t=T at *;simp[e]
end
section
variable{ps qs:List Int}{ts:List (Int×Int)}
noncomputable abbrev cmB:FS:=jh (cK (vB (CP true) (bQ fJ (af (fj FF.bE (af (aa 10))))) (bQ fJ (af (aa 9))))) (fm (vC (.bool false))) eu
theorem cm_all{x0 x1 x2 x3 x4 x5 x6 x7 x8 x11 x12 x13 x14:Option M}{F:Ap}{S:Str}(hr:fJ [.v F]=some (.v (.str S))):∀(L:List Ap)(x10:Option M),(∀d∈L,FF.bE [.v d]=some (.v F,[.v d]))->∃x10',forL (aj 10) cmB L [x0,x1,x2,x3,x4,x5,x6,x7,x8,some (.v F),x10,x11,x12,x13,x14] =
  some (.nx [x0,x1,x2,x3,x4,x5,x6,x7,x8,some (.v F),x10',x11,x12,x13,x14]):=by
 intro L
 induction L with
 |nil=>intro x10 _; exact⟨x10,rfl⟩
 |cons d L ih=>
  intro x10 h;have hd:=h d lS;obtain⟨y,e⟩:=ih (some (.v d)) λd' h'=>h d' (lO _ h')
  refine⟨y,?_⟩;have ne:=qJ S;have hb:cmB [x0,x1,x2,x3,x4,x5,x6,x7,x8,some (.v F),some (.v d),x11,x12,x13,x14]=some (.nx [x0,x1,x2,x3,x4,x5,x6,x7,x8,some (.v F),some (.v d),x11,x12,x13,x14]):=by simp[hd,hr,ne]
  show (aj 10 d [x0,x1,x2,x3,x4,x5,x6,x7,x8,some (.v F),x10,x11,x12,x13,x14]).bind _=_;rw[show aj 10 d [x0,x1,x2,x3,x4,x5,x6,x7,x8,some (.v F),x10,x11,x12,x13,x14]=some [x0,x1,x2,x3,x4,x5,x6,x7,x8,some (.v F),some (.v d),x11,x12,x13,x14] by simp,Fi,hb,Fi]
  exact e
noncomputable abbrev chB:FS:=(aN (bg 11 (vB cy (vC (.int 1)) (fj FF.av (ah (aa 2) (af (vB oO (aa 3) (vC (.int 1))))))))
 (aN (bg 12 (cz (ah (cH (cH (aa 4) (vC (.int 0))) (fj FF.av (ah (aa 2) (af (aa 11))))) (af (cH (cH (aa 4) (vC (.int 0))) (aa 11))))))
 (aN (bg 13 (bQ dw (af (kc 1 [12] (bC (cH (aa 4) (vC (.int 1)))) (aj 0) (cK (vB (rP true) (aa 0) (aa 1))) (aa 0)))))
 (aN (bg 14 (cz (ah (cH (aa 4) (vC (.int 0))) (af (AS (cK (vB (pO false) (aa 12) (cH (aa 4) (vC (.int 1))))) (aa 13) (bQ dw (af (bQ nH (af (vB cy (cH (aa 4) (vC (.int 1))) (cz (af (aa 12)))))))))))))
 (jh (cK (vB (CP true) (bQ fJ (af (fj FF.bE (af (aa 14))))) (bQ fJ (af (fj FF.aD (ah (aa 14) (af (aa 5)))))))) (fm (vC (.bool false))) eu)))))
theorem changed{B:Nat}{l:List Ap}(h:Hd B l)(hB:B<=5000)(w:Ba ps ts)(hl:ts.length<=15)(hn:ps.length<=6)(h1:1<ps.length){x0 x1 x6 x7 x8 x9 x10 x11 x12 x13 x14:Option M}:∃l' y11 y12 y13 y14,chB [x0,x1,some (.lst l),some (.v (.int (ps.length:Int))),some (.v (wD ps ts)),some (.lst ((bq ps.length ps.length).map tI)),x6,x7,x8,x9,x10,x11,x12,x13,x14] =
  some (.nx [x0,x1,some (.lst l'),some (.v (.int (ps.length:Int))),some (.v (wD ps ts)),some (.lst ((bq ps.length ps.length).map tI)),x6,x7,x8,x9,x10,y11,y12,y13,y14]):=by
 obtain⟨b,l1,b0,b1,hl1,e1⟩:=take (m:=(ps.length:Int)-1) h (by lia) (by lia) (by lia)
 obtain⟨a,l2,a0,a1,hl2,e2⟩:=take (m:=1+b) hl1 (by lia) (by lia) (by lia)
 obtain⟨ga,ma⟩:=fN (ps:=ps) (i:=a) a0 (by lia)
 obtain⟨gb,mb⟩:=fN (ps:=ps) (i:=1+b) (by lia) (by lia)
 have ndp:ps.Nodup:=by
  unfold KF;exact w.rise.imp λ{a b}h=>by lia
 have hg0:getM (.v (wD ps ts)) (.v (.int 0))=some (.v (tI ps)):=rfl;have hg1:getM (.v (wD ps ts)) (.v (.int 1))=some (.v (tD ts)):=rfl;have hga:getM (.v (tI ps)) (.v (.int a))=some (.v (.int (fW ps a))):=by unfold tI; rw[qu,ga]; rfl
 have hgb:getM (.v (tI ps)) (.v (.int (1+b)))=some (.v (.int (fW ps (1+b)))):=by unfold tI; rw[qu,gb]; rfl
 generalize htie:((fW ps a,fW ps (1+b)):Int×Int)=tie at *;have htD:N8 [.int (fW ps a),.int (fW ps (1+b))]=pD tie:=by rw[<-htie]
 have hends:tie.1∈ps/\tie.2∈ps:=by rw[<-htie]; exact⟨ma,mb⟩
 obtain⟨z,e3⟩:=vt (ft:=cK (vB (rP true) (aa 0) (aa 1))) (cs:=[some (.v (pD tie))]) (p:=λt=> !decide (t=tie)) (λt=>by
  have:=eq_pD true t tie;generalize pD t=T at *;generalize pD tie=U at *;simp[this]) ts [] none (by rw[FC]; lia)
 rw[Fm] at e3;have hin:=vg false ts tie;have sx:=qV (ts:=ts++[tie]) (by rw[Bz,Ft]; lia)
 obtain⟨us,hus,wu⟩:∃us:List (Int×Int),(us=if tie∈ts then ts.filter (λt=> !decide (t=tie)) else cL (ts++[tie]))/\Wn ps us:=by
  refine⟨_,rfl,ndp,hn,λt ht=>?_,?_⟩
  ·split at ht
   ·exact w.ends t (J1.mp ht).1
   ·rcases lM ((bS _).mem_iff.mp ht) with ht | ht
    ·exact w.ends t ht
    ·rw[Bn.mp ht]; exact hends
  ·split
   ·have:=M7 (λt=> !decide (t=tie)) ts
    lia
   ·rw[(bS _).length_eq,Bz,Ft]
    lia
 obtain⟨m,hm,e5⟩:=form wu;obtain⟨m',hm',e6⟩:=lV wu;have hmm:=hm.uniq hm';subst hmm;have e7:=nP wu hm;have ne:=qJ (wD (below ps.length) m).shown;have hcut:1<=(lim:Nat):=by unfold lim; lia
 refine⟨l2,some (.v (.int (1+b))),some (.v (pD tie)),some (.v (tD (ts.filter λt=> !decide (t=tie)))),some (.v (wD ps us)),?_⟩
 have hlen2:ts.length+1<=1000000:=by lia
 have hT:tD ts=.tuple (ts.map pD):=rfl;have hadd:cy (.v (tD ts)) (.v (.tuple [pD tie]))=some (.v (tD (ts++[tie]))):=by
  show (if (ts.map pD).length+1<=lim then some (M.v (.tuple (ts.map pD++[pD tie]))) else none)=_
  rw[if_pos (by rw[B2]; unfold lim; exact hlen2)]
  show _=some (M.v (.tuple ((ts++[tie]).map pD)));rw[HS];rfl
 have hit:Cr (tD ts)=some (ts.map pD):=rfl;generalize hOO:M.lst ((bq ps.length ps.length).map tI)=OO at *;have hOl:∃ds,OO=.lst ds:=⟨_,hOO.symm⟩;obtain⟨ds,rfl⟩:=hOl;refine(aB (ρ1:=[x0,x1,some (.lst l1),some (.v (.int (ps.length:Int))),some (.v (wD ps ts)),some (.lst ds),x6,x7,x8,x9,x10,some (.v (.int (1+b))),x12,x13,x14]) (by
  generalize wD ps ts=W at *;simp[e1])).trans ?_
 refine(aB (ρ1:=[x0,x1,some (.lst l2),some (.v (.int (ps.length:Int))),some (.v (wD ps ts)),some (.lst ds),x6,x7,x8,x9,x10,some (.v (.int (1+b))),some (.v (pD tie)),x13,x14]) (by
  rw[<-htD];generalize wD ps ts=W at *;generalize tI ps=N at *;simp[hg0,e2,hga,hgb,lim])).trans ?_
 refine(aB (ρ1:=[x0,x1,some (.lst l2),some (.v (.int (ps.length:Int))),some (.v (wD ps ts)),some (.lst ds),x6,x7,x8,x9,x10,some (.v (.int (1+b))),some (.v (pD tie)),some (.v (tD (ts.filter λt=> !decide (t=tie)))),x14]) (by
  show _=some (Out.nx [x0,x1,some (.lst l2),some (.v (.int (ps.length:Int))),some (.v (wD ps ts)),some (.lst ds),x6,x7,x8,x9,x10,some (.v (.int (1+b))),some (.v (pD tie)),some (.v (.tuple ((ts.filter λt=> !decide (t=tie)).map pD))),x14])
  generalize (ts.filter λt=> !decide (t=tie)).map pD=FF' at *
  generalize wD ps ts=W at *;generalize tD ts=TT at *;generalize pD tie=U at *;simp[hg1,hit,e3])).trans ?_
 refine(aB (ρ1:=[x0,x1,some (.lst l2),some (.v (.int (ps.length:Int))),some (.v (wD ps ts)),some (.lst ds),x6,x7,x8,x9,x10,some (.v (.int (1+b))),some (.v (pD tie)),some (.v (tD (ts.filter λt=> !decide (t=tie)))),some (.v (wD ps us))]) (by
  by_cases c:tie∈ts
  ·rw[if_pos c] at hus
   rw[hus];rw[decide_eq_true c] at hin;show _=some (Out.nx [x0,x1,some (.lst l2),some (.v (.int (ps.length:Int))),some (.v (wD ps ts)),some (.lst ds),x6,x7,x8,x9,x10,some (.v (.int (1+b))),some (.v (pD tie)),some (.v (tD (ts.filter λt=> !decide (t=tie)))),some (.v (.tuple [tI ps,tD (ts.filter λt=> !decide (t=tie))]))])
   generalize tD (ts.filter λt=> !decide (t=tie))=FF' at *
   generalize wD ps ts=W at *;generalize tD ts=TT at *;generalize tI ps=N at *;generalize pD tie=U at *;simp[hg0,hg1,hin,lim]
  ·rw[if_neg c] at hus
   rw[hus];rw[decide_eq_false c] at hin;have htp:dw [.lst ((cL (ts++[tie])).map pD)]=some (.v (tD (cL (ts++[tie])))):=rfl;show _=some (Out.nx [x0,x1,some (.lst l2),some (.v (.int (ps.length:Int))),some (.v (wD ps ts)),some (.lst ds),x6,x7,x8,x9,x10,some (.v (.int (1+b))),some (.v (pD tie)),some (.v (tD (ts.filter λt=> !decide (t=tie)))),some (.v (.tuple [tI ps,tD (cL (ts++[tie]))]))])
   generalize tD (ts.filter λt=> !decide (t=tie))=FF' at *
   generalize tD (cL (ts++[tie]))=SS at *;generalize (cL (ts++[tie])).map pD=SL at *;generalize tD (ts++[tie])=AA at *;generalize wD ps ts=W at *;generalize tD ts=TT at *;generalize tI ps=N at *;generalize pD tie=U at *;simp[hg0,hg1,hin,hadd,sx,htp,lim])).trans ?_
 generalize wD ps us=W' at *;generalize wD (below ps.length) m=F at *;generalize F.shown=S at *;simp[e5,e6,e7,ne]
noncomputable abbrev turnB:FS:=(aN (bg 2 (fj FF.bx (ah (aa 0) (af (aa 1)))))
 (aN (bg 3 (fj FF.ay (ah (aa 2) (af (eT (oY [6,5,4,3,2,1,0]))))))
 (aN (rV 4 5 (ah (fj FF.aY (ah (aa 2) (ah (aa 3) (af (vC (.int 15)))))) (af (fj FF.aL (af (aa 3))))))
 (aN (bg 6 (bQ vH (ah (cH (aa 4) (vC (.int 0))) (af (fj FF.aK (ah (aa 2) (af (kc 1 [] (bX eB (af (aa 3))) (aj 0) cE (vB oO (vC (.int 99)) (vB mulM (vC (.int 7)) (aa 0)))))))))))
 (aN (bg 7 (bQ bW (af (kc 2 [6] (bC (cH (aa 4) (vC (.int 1)))) (dS 2 (aW (aj 0) (aW (aj 1) ez))) cE (bQ dw (af (bQ bW (af (eT (ah (cH (aa 2) (aa 0)) (af (cH (aa 2) (aa 1)))))))))))))
 (aN (bg 8 (cz (ah (bQ dw (af (bQ bW (af (DC (aa 6)))))) (af (bQ dw (af (aa 7)))))))
 (aN (bg 9 (fj FF.aD (ah (aa 4) (af (aa 5)))))
 (aN (ji (bC (cz (ah (aa 4) (ah (aa 8) (ah (aa 9) (af (aa 4))))))) (aj 10) cmB)
 (jh (cK (vB Cb (aa 3) (vC (.int 1)))) chB eu)))))))))
theorem ya{fe:FE}{ρ:Ev}:DC fe ρ=(fe ρ).bind λp=>(peek p.2 p.1).bind λm=>(DO m).bind λr=>some (.t r,p.2):=rfl
theorem turn(ns:List Int)(hl:ns.length<=63)(k:Int)(hk0:0<=k)(hk:k<=100)(x2 x3 x4 x5 x6 x7 x8 x9 x10 x11 x12 x13 x14:Option M):∃y2 y3 y4 y5 y6 y7 y8 y9 y10 y11 y12 y13 y14,turnB [some (.v (.list (ns.map .int))),some (.v (.int k)),x2,x3,x4,x5,x6,x7,x8,x9,x10,x11,x12,x13,x14] =
  some (.nx [some (.v (.list (ns.map .int))),some (.v (.int k)),y2,y3,y4,y5,y6,y7,y8,y9,y10,y11,y12,y13,y14]):=by
 obtain⟨l,hl0,e1⟩:=hand ns k hl hk0 hk;obtain⟨m,l1,hm,hl1,e2⟩:=tZ (ns:=[6,5,4,3,2,1,0]) hl0 (by decide) (by decide) (by decide)
 have hm':0<=m/\m<=6:=by
  simp only[HG,Fg,or_false] at hm;lia
 obtain⟨n,rfl⟩:=Hq hm'.1;obtain⟨l2,ps,ts,hl2,w,hpl,hts,e3⟩:=webM 15 (by decide) (n:=n) hl1 (by lia) (by lia)
 rw[show ((15:Nat):Int)=15 from rfl] at e3
 subst hpl;have hn6:ps.length<=6:=by lia
 have ndp:ps.Nodup:=by
  unfold KF;exact w.rise.imp λ{a b}h=>by lia
 have wn:Wn ps ts:=⟨ndp,hn6,w.ends,by lia⟩
 have eo:=orders hn6;obtain⟨z0,eb⟩:=vq (n:=ps.length) (by lia)
 have blen:(base ps.length).length=ps.length:=by unfold base; rw[B2,cg]
 obtain⟨l3,es,hp,hl3,e4⟩:=Bb (ds:=(base ps.length).map .int) hl2 (by rw[B2,blen]; lia)
 obtain⟨qs,rfl,hq⟩:=u7 hp;rw[B2,blen] at hl3;have nq:qs.Nodup:=hq.nodup_iff.mpr (AI _);have lq:qs.length=ps.length:=by rw[hq.length_eq,blen]
 have ed:=AH (nm:=qs) ndp;have hkD:∀x∈ps,dm (zD ps qs) (.inl x)=some (.int (az ps qs x)):=λx hx=>jo lq hx
 have hvals:=ua lq;generalize hD:zD ps qs=D at ed hkD hvals;obtain⟨z1,z2,e5⟩:=fM (fe:=bQ dw (af (bQ bW (af (eT (ah (cH (aa 2) (aa 0)) (af (cH (aa 2) (aa 1))))))))) (cs:=[some (.bP D)]) (f:=λt=>pD (bH ps qs t)) ts [] none none (λt htm=>by
  obtain⟨h1,h2⟩:=w.ends t htm;have es:=iP (ns:=[az ps qs t.1,az ps qs t.2]) (by simp)
  rw[nO] at es;have es:bW [.lst [.int (az ps qs t.1),.int (az ps qs t.2)]]=some (.lst [.int (bH ps qs t).1,.int (bH ps qs t).2]):=es;refine⟨.t (.v (pD (bH ps qs t))),?_,rfl⟩;simp[hkD _ h1,hkD _ h2,lim,es]) (by rw[FC]; unfold lim; lia)
 rw[Fm,show ts.map (λt=>pD (bH ps qs t))=(ts.map (bH ps qs)).map pD by rw[Ee]; rfl] at e5
 have e6:=eW (ts:=ts.map (bH ps qs)) (by rw[B2]; lia)
 have e7:=iP (ns:=qs) (by lia)
 obtain⟨mm,hmm,e8⟩:=lV wn;have r8:=nP wn hmm;obtain⟨z10,e9⟩:=cm_all (F:=wD (below ps.length) mm) (x0:=some (.v (.list (ns.map .int)))) (x1:=some (.v (.int k))) (x2:=some (.lst l3)) (x3:=some (.v (.int (ps.length:Int)))) (x4:=some (.v (wD ps ts))) (x5:=some (.lst ((bq ps.length ps.length).map tI))) (x6:=some (.bP D)) (x7:=some (.lst ((tb ps ts qs).map pD))) (x8:=some (.v (wD (sortI qs) (tb ps ts qs)))) (x11:=x11) (x12:=x12) (x13:=x13) (x14:=x14) r8
  [wD ps ts,wD (sortI qs) (tb ps ts qs),wD (below ps.length) mm,wD ps ts] x10 (λd hd=>by
   simp only[HG,Fg,or_false] at hd;rcases hd with rfl | rfl | rfl | rfl
   ·exact qU wn hmm
   ·exact jZ wn hmm nq lq
   ·exact vp wn hmm
   ·exact qU wn hmm)
 have hsm:cu (ps.length:Int)=true:=decide_eq_true (by unfold j9; lia)
 have hg0:getM (.v (wD ps ts)) (.v (.int 0))=some (.v (tI ps)):=rfl;have hg1:getM (.v (wD ps ts)) (.v (.int 1))=some (.v (tD ts)):=rfl;have hit:Cr (tD ts)=some (ts.map pD):=rfl;have e2:FF.ay [.lst l,.lst [.int 6,.int 5,.int 4,.int 3,.int 2,.int 1,.int 0]]=some (.v (.int (ps.length:Int)),[.lst l1,.lst [.int 6,.int 5,.int 4,.int 3,.int 2,.int 1,.int 0]]):=e2;have last:∃l' y11 y12 y13 y14,(jh (cK (vB Cb (aa 3) (vC (.int 1)))) chB eu) [some (.v (.list (ns.map .int))),some (.v (.int k)),some (.lst l3),some (.v (.int (ps.length:Int))),some (.v (wD ps ts)),some (.lst ((bq ps.length ps.length).map tI)),some (.bP D),some (.lst ((tb ps ts qs).map pD)),some (.v (wD (sortI qs) (tb ps ts qs))),some (.v (wD (below ps.length) mm)),z10,x11,x12,x13,x14] =
   some (.nx [some (.v (.list (ns.map .int))),some (.v (.int k)),some (.lst l'),some (.v (.int (ps.length:Int))),some (.v (wD ps ts)),some (.lst ((bq ps.length ps.length).map tI)),some (.bP D),some (.lst ((tb ps ts qs).map pD)),some (.v (wD (sortI qs) (tb ps ts qs))),some (.v (wD (below ps.length) mm)),z10,y11,y12,y13,y14]):=by
  by_cases c:1<ps.length
  ·obtain⟨l',y11,y12,y13,y14,e⟩:=changed (x0:=some (.v (.list (ns.map .int)))) (x1:=some (.v (.int k))) (x6:=some (.bP D)) (x7:=some (.lst ((tb ps ts qs).map pD))) (x8:=some (.v (wD (sortI qs) (tb ps ts qs)))) (x9:=some (.v (wD (below ps.length) mm))) (x10:=z10) (x11:=x11) (x12:=x12) (x13:=x13) (x14:=x14) hl3 (by lia) w hts hn6 c
   refine⟨l',y11,y12,y13,y14,?_⟩;rw[Ae];have hc:(1:Int)<(ps.length:Int):=by lia
   rw[show cK (vB Cb (aa 3) (vC (.int 1))) [some (.v (.list (ns.map .int))),some (.v (.int k)),some (.lst l3),some (.v (.int (ps.length:Int))),some (.v (wD ps ts)),some (.lst ((bq ps.length ps.length).map tI)),some (.bP D),some (.lst ((tb ps ts qs).map pD)),some (.v (wD (sortI qs) (tb ps ts qs))),some (.v (wD (below ps.length) mm)),z10,x11,x12,x13,x14]=some (true,[some (.v (.list (ns.map .int))),some (.v (.int k)),some (.lst l3),some (.v (.int (ps.length:Int))),some (.v (wD ps ts)),some (.lst ((bq ps.length ps.length).map tI)),some (.bP D),some (.lst ((tb ps ts qs).map pD)),some (.v (wD (sortI qs) (tb ps ts qs))),some (.v (wD (below ps.length) mm)),z10,x11,x12,x13,x14]) by
    generalize wD ps ts=W;generalize wD (sortI qs) (tb ps ts qs)=W2;generalize wD (below ps.length) mm=W3;simp[hc],Fi]
   exact e
  ·refine⟨l3,x11,x12,x13,x14,?_⟩
   have hc:¬ (1:Int)<(ps.length:Int):=by lia
   generalize wD ps ts=W;generalize wD (sortI qs) (tb ps ts qs)=W2;generalize wD (below ps.length) mm=W3;simp[hc]
 obtain⟨l',y11,y12,y13,y14,e10⟩:=last;refine⟨some (.lst l'),some (.v (.int (ps.length:Int))),some (.v (wD ps ts)),some (.lst ((bq ps.length ps.length).map tI)),some (.bP D),some (.lst ((tb ps ts qs).map pD)),some (.v (wD (sortI qs) (tb ps ts qs))),some (.v (wD (below ps.length) mm)),z10,y11,y12,y13,y14,?_⟩;generalize hS:(IL (ns.map .int))=sd at e1 e9 e10 ⊢;have hSort:cL (ts.map (bH ps qs))=tb ps ts qs:=rfl;rw[hSort] at e6;have w4:∀{a b c d:Ap},Cr (.tuple [a,b,c,d])=some [a,b,c,d]:=rfl;generalize hOL:(bq ps.length ps.length).map tI=OL at eo e8 e9 e10 ⊢;generalize hTB:(tb ps ts qs).map pD=TB at e6 e9 e10 ⊢;have htup:dw [.lst TB]=some (.v (tD (tb ps ts qs))):=by rw[<-hTB]; rfl
 have htup2:dw [.lst ((sortI qs).map .int)]=some (.v (tI (sortI qs))):=rfl;generalize hW3:wD (below ps.length) mm=W3 at e8 e9 e10 ⊢;have hW2:wD (sortI qs) (tb ps ts qs)=.tuple [tI (sortI qs),tD (tb ps ts qs)]:=rfl;refine(aB (ρ1:=[some (.v sd),some (.v (.int k)),some (.lst l),x3,x4,x5,x6,x7,x8,x9,x10,x11,x12,x13,x14]) (by simp[e1])).trans ?_
 refine(aB (ρ1:=[some (.v sd),some (.v (.int k)),some (.lst l1),some (.v (.int (ps.length:Int))),x4,x5,x6,x7,x8,x9,x10,x11,x12,x13,x14]) (by simp[e2,lim])).trans ?_
 refine(aB (ρ1:=[some (.v sd),some (.v (.int k)),some (.lst l2),some (.v (.int (ps.length:Int))),some (.v (wD ps ts)),some (.lst OL),x6,x7,x8,x9,x10,x11,x12,x13,x14]) (by
  generalize wD ps ts=W at *;simp[e3,eo])).trans ?_
 refine(aB (ρ1:=[some (.v sd),some (.v (.int k)),some (.lst l3),some (.v (.int (ps.length:Int))),some (.v (wD ps ts)),some (.lst OL),some (.bP D),x7,x8,x9,x10,x11,x12,x13,x14]) (by
  generalize (base ps.length).map Fe=BS at *;generalize qs.map Fe=QL at *;generalize wD ps ts=W at *;generalize tI ps=N at *;simp[hg0,hsm,eb,e4,ed])).trans ?_
 refine(aB (ρ1:=[some (.v sd),some (.v (.int k)),some (.lst l3),some (.v (.int (ps.length:Int))),some (.v (wD ps ts)),some (.lst OL),some (.bP D),some (.lst TB),x8,x9,x10,x11,x12,x13,x14]) (by
  generalize (ts.map (bH ps qs)).map pD=C at *;generalize wD ps ts=W at *;generalize tD ts=TT at *;simp[hg1,hit,e5,e6])).trans ?_
 refine(aB (ρ1:=[some (.v sd),some (.v (.int k)),some (.lst l3),some (.v (.int (ps.length:Int))),some (.v (wD ps ts)),some (.lst OL),some (.bP D),some (.lst TB),some (.v (wD (sortI qs) (tb ps ts qs))),x9,x10,x11,x12,x13,x14]) (by
  rw[hW2];have hv:DO (.bP D)=some (.lst (qs.map .int)):=by rw[<-hvals]; rfl
  generalize qs.map Fe=QL at *;generalize (sortI qs).map Fe=SQ at *;generalize tI (sortI qs)=SN at *;generalize tD (tb ps ts qs)=ST at *;generalize wD ps ts=W at *;simp[ya,hv,e7,htup,htup2,lim])).trans ?_
 refine(aB (ρ1:=[some (.v sd),some (.v (.int k)),some (.lst l3),some (.v (.int (ps.length:Int))),some (.v (wD ps ts)),some (.lst OL),some (.bP D),some (.lst TB),some (.v (wD (sortI qs) (tb ps ts qs))),some (.v W3),x10,x11,x12,x13,x14]) (by
  generalize wD (sortI qs) (tb ps ts qs)=W2 at *;generalize wD ps ts=W at *;simp[e8])).trans ?_
 refine(aB (ρ1:=[some (.v sd),some (.v (.int k)),some (.lst l3),some (.v (.int (ps.length:Int))),some (.v (wD ps ts)),some (.lst OL),some (.bP D),some (.lst TB),some (.v (wD (sortI qs) (tb ps ts qs))),some (.v W3),z10,x11,x12,x13,x14]) ?_).trans ?_
 ·rw[kB,show bC (cz (ah (aa 4) (ah (aa 8) (ah (aa 9) (af (aa 4)))))) [some (.v sd),some (.v (.int k)),some (.lst l3),some (.v (.int (ps.length:Int))),some (.v (wD ps ts)),some (.lst OL),some (.bP D),some (.lst TB),some (.v (wD (sortI qs) (tb ps ts qs))),some (.v W3),x10,x11,x12,x13,x14]=some ([wD ps ts,wD (sortI qs) (tb ps ts qs),W3,wD ps ts],[some (.v sd),some (.v (.int k)),some (.lst l3),some (.v (.int (ps.length:Int))),some (.v (wD ps ts)),some (.lst OL),some (.bP D),some (.lst TB),some (.v (wD (sortI qs) (tb ps ts qs))),some (.v W3),x10,x11,x12,x13,x14]) by
   generalize wD (sortI qs) (tb ps ts qs)=W2;generalize wD ps ts=W;simp[lim]]
  exact e9
 ·exact e10
theorem law_k13(ns:List Int)(hl:ns.length<=63):∃ms,FF.qG [.v (.list (ns.map .int))]=some (.v (.bool true),ms):=by
 have hmin:∃n:Nat,n<=3/\(if (if (ns.length:Int)<3 then (ns.length:Int) else 3)>1 then (if (ns.length:Int)<3 then (ns.length:Int) else 3) else 1)=(n:Int):=by
  by_cases h8:(ns.length:Int)<3
  ·simp only[if_pos h8]
   by_cases h1:(ns.length:Int)>1
   ·exact⟨ns.length,by lia,if_pos h1⟩
   ·exact⟨1,by lia,by rw[if_neg h1]; rfl⟩
  ·simp only[if_neg h8]
   exact⟨3,by lia,by decide⟩
 obtain⟨n,hn,en⟩:=hmin;have hsm:cu (n:Int)=true:=decide_eq_true (by unfold j9; lia)
 obtain⟨ρ',e,_,y1,y2,y3,y4,y5,y6,y7,y8,y9,y10,y11,y12,y13,y14,rfl⟩:=g9 (fg:=aj 1) (fb:=turnB) (P:=λds ρ=>(∀d∈ds,∃k:Int,d=.int k/\0<=k/\k<=100)/\∃y1 y2 y3 y4 y5 y6 y7 y8 y9 y10 y11 y12 y13 y14,ρ=[some (.v (.list (ns.map .int))),y1,y2,y3,y4,y5,y6,y7,y8,y9,y10,y11,y12,y13,y14]) (aQ 0 (n:Int)) [some (.v (.list (ns.map .int))),none,none,none,none,none,none,none,none,none,none,none,none,none,none] ⟨λd hd=>by
   rw[bT] at hd;obtain⟨k,hk,rfl⟩:=FZ.mp hd;have:=bO.mp hk;exact⟨_,rfl,by lia,by lia⟩,none,none,none,none,none,none,none,none,none,none,none,none,none,none,rfl⟩ (λd ds ρ hP=>by
  obtain⟨hd,y1,y2,y3,y4,y5,y6,y7,y8,y9,y10,y11,y12,y13,y14,rfl⟩:=hP;obtain⟨k,rfl,h0,h1⟩:=hd d lS;obtain⟨z2,z3,z4,z5,z6,z7,z8,z9,z10,z11,z12,z13,z14,e⟩:=turn ns hl k h0 h1 y2 y3 y4 y5 y6 y7 y8 y9 y10 y11 y12 y13 y14;exact⟨_,_,rfl,e,λd' h'=>hd d' (lO _ h'),_,_,_,_,_,_,_,_,_,_,_,_,_,_,rfl⟩)
 refine⟨_,eF (ρ:=[some (.v (.list (ns.map .int))),y1,y2,y3,y4,y5,y6,y7,y8,y9,y10,y11,y12,y13,y14]) rfl ?_ rfl⟩;show FF.lH [some (.v (.list (ns.map .int))),none,none,none,none,none,none,none,none,none,none,none,none,none,none]=_;refine(aB (ρ1:=[some (.v (.list (ns.map .int))),y1,y2,y3,y4,y5,y6,y7,y8,y9,y10,y11,y12,y13,y14]) ?_).trans ?_
 ·have e':=e
  generalize hS:(IL (ns.map .int))=S at e';have hlS:gk [.v S]=some (.v (.int (ns.length:Int))):=by rw[<-hS,len_list,B2]
  simp[hlS,en,hsm,e']
 ·simp
end
end PF
end
section
namespace Lk13
open PySem L2 VL PyProof.Rows
theorem ln0{P:List Value->Prop}(h:P []):∀us,us.length=0->P us:=λus e=>by cases us with | nil=>exact h | cons _ _=>cases e
theorem lnS{n:Nat}{P:List Value->Prop}(h:∀a us,us.length=n->P (a::us)):∀us,us.length=n+1->P us:=λus e=>by cases us with | nil=>cases e | cons a us=>exact h a us (Nat.succ.inj e)
theorem all_mk{l:JU}{w:World}{K:AT}{h:Heap}{mg:Str->Option Value}{fa f1 f2 f3 f4 f5 f6 f7 f8 f9 f10 f11 f12:Addr}(X:K.In h)(G:h.Ns FQ mg)(hfa:mg "law" = some (.ref fa))
  {od1 an1 od2 an2 od3 an3 od4 an4 od5 an5 od6 an6 od7 an7 od8 an8 od9 an9 od10 an10 od11 an11 od12 an12:Option Addr} {sl1 sl2 sl3 sl4 sl5 sl6 sl7 sl8 sl9 sl10 sl11 sl12:Array (Option Value)} {oc1 kV1 dc1 pm1 cd1 ct1 oc2 kV2 dc2 pm2 cd2 ct2 oc3 kV3 dc3 pm3 cd3 ct3 oc4 kV4 dc4 pm4 cd4 ct4 oc5 kV5 dc5 pm5 cd5 ct5 oc6 kV6 dc6 pm6 cd6 ct6 oc7 kV7 dc7 pm7 cd7 ct7 oc8 kV8 dc8 pm8 cd8 ct8 oc9 kV9 dc9 pm9 cd9 ct9 oc10 kV10 dc10 pm10 cd10 ct10 oc11 kV11 dc11 pm11 cd11 ct11 oc12 kV12 dc12 pm12 cd12 ct12:Value}
  (a1:Fl K FQ "renamed" = some (some (.ref f1))) (l1:K.lookup f1=some ⟨oc1,od1,.func (GA "renamed" "renamed" (bG s_renamed) (bh s_renamed) (aq s_renamed) .none kV1 dc1 pm1 an1 cd1 ct1),sl1⟩) (c1:GM K cd1 "renamed" = true) (k1:G9 K (.ref f1)=true)
  (a2:Fl K FQ "form" = some (some (.ref f2))) (l2:K.lookup f2=some ⟨oc2,od2,.func (GA "form" "form" (bG s_form) (bh s_form) (aq s_form) .none kV2 dc2 pm2 an2 cd2 ct2),sl2⟩) (c2:GM K cd2 "form" = true) (k2:G9 K (.ref f2)=true)
  (a3:Fl K FQ "all_names" = some (some (.ref f3))) (l3:K.lookup f3=some ⟨oc3,od3,.func (GA "all_names" "all_names" (bG s_all_names) (bh s_all_names) (aq s_all_names) .none kV3 dc3 pm3 an3 cd3 ct3),sl3⟩) (c3:GM K cd3 "all_names" = true) (k3:G9 K (.ref f3)=true)
  (a4:Fl K FQ "_law_hand_of" = some (some (.ref f4))) (l4:K.lookup f4=some ⟨oc4,od4,.func (GA "_law_hand_of" "_law_hand_of" (bG s_law_hand_of) (bh s_law_hand_of) (aq s_law_hand_of) .none kV4 dc4 pm4 an4 cd4 ct4),sl4⟩) (c4:GM K cd4 "_law_hand_of" = true) (k4:G9 K (.ref f4)=true)
  (a5:Fl K FQ "_law_take" = some (some (.ref f5))) (l5:K.lookup f5=some ⟨oc5,od5,.func (GA "_law_take" "_law_take" (bG s_law_take) (bh s_law_take) (aq s_law_take) .none kV5 dc5 pm5 an5 cd5 ct5),sl5⟩) (c5:GM K cd5 "_law_take" = true) (k5:G9 K (.ref f5)=true)
  (a6:Fl K FQ "_law_pick" = some (some (.ref f6))) (l6:K.lookup f6=some ⟨oc6,od6,.func (GA "_law_pick" "_law_pick" (bG s_law_pick) (bh s_law_pick) (aq s_law_pick) .none kV6 dc6 pm6 an6 cd6 ct6),sl6⟩) (c6:GM K cd6 "_law_pick" = true) (k6:G9 K (.ref f6)=true)
  (a7:Fl K FQ "_law_shuffled" = some (some (.ref f7))) (l7:K.lookup f7=some ⟨oc7,od7,.func (GA "_law_shuffled" "_law_shuffled" (bG s_law_shuffled) (bh s_law_shuffled) (aq s_law_shuffled) .none kV7 dc7 pm7 an7 cd7 ct7),sl7⟩) (c7:GM K cd7 "_law_shuffled" = true) (k7:G9 K (.ref f7)=true)
  (a8:Fl K FQ "_law_places_drawn" = some (some (.ref f8))) (l8:K.lookup f8=some ⟨oc8,od8,.func (GA "_law_places_drawn" "_law_places_drawn" (bG s_law_places_drawn) (bh s_law_places_drawn) (aq s_law_places_drawn) .none kV8 dc8 pm8 an8 cd8 ct8),sl8⟩) (c8:GM K cd8 "_law_places_drawn" = true) (k8:G9 K (.ref f8)=true)
  (a9:Fl K FQ "_law_web_drawn" = some (some (.ref f9))) (l9:K.lookup f9=some ⟨oc9,od9,.func (GA "_law_web_drawn" "_law_web_drawn" (bG s_law_web_drawn) (bh s_law_web_drawn) (aq s_law_web_drawn) .none kV9 dc9 pm9 an9 cd9 ct9),sl9⟩) (c9:GM K cd9 "_law_web_drawn" = true) (k9:G9 K (.ref f9)=true)
  (a10:Fl K FQ "_law_orders_below" = some (some (.ref f10))) (l10:K.lookup f10=some ⟨oc10,od10,.func (GA "_law_orders_below" "_law_orders_below" (bG s_law_orders_below) (bh s_law_orders_below) (aq s_law_orders_below) .none kV10 dc10 pm10 an10 cd10 ct10),sl10⟩) (c10:GM K cd10 "_law_orders_below" = true) (k10:G9 K (.ref f10)=true)
  (a11:Fl K FQ "_law_least_form" = some (some (.ref f11))) (l11:K.lookup f11=some ⟨oc11,od11,.func (GA "_law_least_form" "_law_least_form" (bG s_law_least_form) (bh s_law_least_form) (aq s_law_least_form) .none kV11 dc11 pm11 an11 cd11 ct11),sl11⟩) (c11:GM K cd11 "_law_least_form" = true) (k11:G9 K (.ref f11)=true)
  (a12:Fl K FQ "law" = some (some (.ref f12))) (l12:K.lookup f12=some ⟨oc12,od12,.func (GA "law" "law" (bG s_law) (bh s_law) (aq s_law) .none kV12 dc12 pm12 an12 cd12 ct12),sl12⟩) (c12:GM K cd12 "law" = true) (k12:G9 K (.ref f12)=true)
  (z_max:Fl K FQ "max" = some none)
  (z_min:Fl K FQ "min" = some none)
  (z_sorted:Fl K FQ "sorted" = some none)
  (z_tuple:Fl K FQ "tuple" = some none)
  (z_dict:Fl K FQ "dict" = some none)
  (z_zip:Fl K FQ "zip" = some none)
  (z_range:Fl K FQ "range" = some none)
  (z_len:Fl K FQ "len" = some none)
  (z_int:Fl K FQ "int" = some none)
  (z_repr:Fl K FQ "repr" = some none)
  (z_list:Fl K FQ "list" = some none)
  : ∃fd:Hh,(∀(s:B1)(v:Value),Lm s fd ⟨[v],[]⟩ [("_law_script",v)])/\∀base:Heap,K.In base->base.Ns FQ mg->cY l.prog w K mg base j6 5 fa fd ["_law_script"] (o6 K):=by
 have e:=hfa.symm.trans (Gj X G a12);cases e;have F1:=dO (st:=s_renamed) l1 c1 k1;have b1:=F1.binds (ps:=["web", "names"]) λ_ _ _ _ _ _=>lnS λ_=>lnS λ_=>ln0 rfl
 have m1:=Gj X G a1;have F2:=dO (st:=s_form) l2 c2 k2;have b2:=F2.binds (ps:=["web"]) λ_ _ _ _ _ _=>lnS λ_=>ln0 rfl
 have m2:=Gj X G a2;have F3:=dO (st:=s_all_names) l3 c3 k3;have b3:=F3.binds (ps:=["many"]) λ_ _ _ _ _ _=>lnS λ_=>ln0 rfl
 have m3:=Gj X G a3;have F4:=dO (st:=s_law_hand_of) l4 c4 k4;have b4:=F4.binds (ps:=["_law_script", "_law_k"]) λ_ _ _ _ _ _=>lnS λ_=>lnS λ_=>ln0 rfl
 have m4:=Gj X G a4;have F5:=dO (st:=s_law_take) l5 c5 k5;have b5:=F5.binds (ps:=["_law_hand", "_law_many"]) λ_ _ _ _ _ _=>lnS λ_=>lnS λ_=>ln0 rfl
 have m5:=Gj X G a5;have F6:=dO (st:=s_law_pick) l6 c6 k6;have b6:=F6.binds (ps:=["_law_hand", "_law_some"]) λ_ _ _ _ _ _=>lnS λ_=>lnS λ_=>ln0 rfl
 have m6:=Gj X G a6;have F7:=dO (st:=s_law_shuffled) l7 c7 k7;have b7:=F7.binds (ps:=["_law_hand", "_law_some"]) λ_ _ _ _ _ _=>lnS λ_=>lnS λ_=>ln0 rfl
 have m7:=Gj X G a7;have F8:=dO (st:=s_law_places_drawn) l8 c8 k8;have b8:=F8.binds (ps:=["_law_hand", "_law_many"]) λ_ _ _ _ _ _=>lnS λ_=>lnS λ_=>ln0 rfl
 have m8:=Gj X G a8;have F9:=dO (st:=s_law_web_drawn) l9 c9 k9;have b9:=F9.binds (ps:=["_law_hand", "_law_many", "_law_most"]) λ_ _ _ _ _ _=>lnS λ_=>lnS λ_=>lnS λ_=>ln0 rfl
 have m9:=Gj X G a9;have F10:=dO (st:=s_law_orders_below) l10 c10 k10;have b10:=F10.binds (ps:=["_law_many"]) λ_ _ _ _ _ _=>lnS λ_=>ln0 rfl
 have m10:=Gj X G a10;have F11:=dO (st:=s_law_least_form) l11 c11 k11;have b11:=F11.binds (ps:=["_law_web", "_law_orders"]) λ_ _ _ _ _ _=>lnS λ_=>lnS λ_=>ln0 rfl
 have m11:=Gj X G a11;have F12:=dO (st:=s_law) l12 c12 k12;have b12:=F12.binds (ps:=["_law_script"]) λ_ _ _ _ _ _=>lnS λ_=>ln0 rfl
 have m12:=Gj X G a12;have T:Txt mg:=⟨GO X G z_max,GO X G z_min,GO X G z_sorted,GO X G z_tuple,GO X G z_dict,GO X G z_zip,GO X G z_range,GO X G z_len,GO X G z_int,GO X G z_repr,GO X G z_list⟩;refine⟨GA "law" "law" (bG s_law) (bh s_law) (aq s_law) .none kV12 dc12 pm12 an12 cd12 ct12,λs v=>.of_eq rfl,λbase _ _=>?_⟩
 have C_renamed:bA l.prog w K mg base "renamed" ["web", "names"] 1 (dZ K FF.cF):=⟨f1,_,ok_renamed F1 T,b1,F1.kp,m1⟩;have C_all_names:bA l.prog w K mg base "all_names" ["many"] 1 (dZ K FF.bN):=⟨f3,_,ok_all_names F3 T,b3,F3.kp,m3⟩;have C_form:bA l.prog w K mg base "form" ["web"] 2 (dZ K FF.bE):=⟨f2,_,ok_form F2 T C_all_names C_renamed,b2,F2.kp,m2⟩;have C_law_hand_of:bA l.prog w K mg base "_law_hand_of" ["_law_script", "_law_k"] 1 (dZ K FF.bx):=⟨f4,_,ok_law_hand_of F4 T,b4,F4.kp,m4⟩;have C_law_take:bA l.prog w K mg base "_law_take" ["_law_hand", "_law_many"] 1 (dZ K FF.av):=⟨f5,_,ok_law_take F5 T,b5,F5.kp,m5⟩;have C_law_pick:bA l.prog w K mg base "_law_pick" ["_law_hand", "_law_some"] 2 (dZ K FF.ay):=⟨f6,_,ok_law_pick F6 T C_law_take,b6,F6.kp,m6⟩;have C_law_shuffled:bA l.prog w K mg base "_law_shuffled" ["_law_hand", "_law_some"] 2 (dZ K FF.aK):=⟨f7,_,ok_law_shuffled F7 T C_law_take,b7,F7.kp,m7⟩;have C_law_places_drawn:bA l.prog w K mg base "_law_places_drawn" ["_law_hand", "_law_many"] 3 (dZ K FF.aU):=⟨f8,_,ok_law_places_drawn F8 T C_law_pick,b8,F8.kp,m8⟩;have C_law_web_drawn:bA l.prog w K mg base "_law_web_drawn" ["_law_hand", "_law_many", "_law_most"] 4 (dZ K FF.aY):=⟨f9,_,ok_law_web_drawn F9 T C_law_shuffled C_law_take C_law_places_drawn C_law_pick,b9,F9.kp,m9⟩;have C_law_orders_below:bA l.prog w K mg base "_law_orders_below" ["_law_many"] 1 (dZ K FF.aL):=⟨f10,_,ok_law_orders_below F10 T,b10,F10.kp,m10⟩;have C_law_least_form:bA l.prog w K mg base "_law_least_form" ["_law_web", "_law_orders"] 1 (dZ K FF.aD):=⟨f11,_,ok_law_least_form F11 T,b11,F11.kp,m11⟩;exact CL (ok_law F12 T C_form C_law_least_form C_law_take C_law_shuffled C_law_orders_below C_law_web_drawn C_law_pick C_law_hand_of) PF.law_k13
theorem walk{l:JU}{q:FB}{loose:List Str}{XP:(Str->Option Value)->Heap->Prop}{YP:World->Heap->Prop}{d:DefRec}{K:Params->AT}(hn:l.most=some 63)(hdf:d.params.defaults=[])
  (hY:∀(w:World)(h:Heap),YP w h->(K w.params).In h)
  (F:∀(w:World)(mg:Str->Option Value)(fa:Addr)(h:Heap),(K w.params).In h->h.Ns FQ mg->mg d.name=some (.ref fa) ->
   ∃fd:Hh,(∀(s:B1)(u:Value),Lm s fd ⟨[u],[]⟩ [("_law_script",u)])/\∀base:Heap,(K w.params).In base->base.Ns FQ mg->cY l.prog w (K w.params) mg base j6 5 fa fd ["_law_script"] (o6 (K w.params))) :
  Mm q loose XP YP l.row.toRowW d [] (λf vs=>MB f vs) :=
 L2.zd (n:=63) (k:=5) (x := "_law_script") (CX:=λ_=>j6) (sp:=λw=>o6 (K w.params)) hn (by decide) hdf ⟨rfl,by decide,by decide,rfl⟩ hY F (λ_ _ a ns hl _ hS=>⟨a,ns,rfl,hS,hl,λ_=>rfl⟩) λ_ _ _ _ _ z=>z
end Lk13
open PySem PySem.W PyProof.Rows
theorem PySem.Challenge.cw_drawnweb_k13_forms_holds : PySem.Challenge.rw_drawnweb_k13_forms.Holds := by
 w_on; o_law; k_head; (case hw=>w_witness2)
 k_fill
 refine Lk13.walk (l:=PySem.Challenge.rw_drawnweb_k13_forms) rfl rfl (λw h Y=>PySem.W.kIn_of Y) ?F
 case F=>
  intro w mg fa h KX G hmg
  refine' Lk13.all_mk KX G hmg ?a1 ?l1 ?c1 ?k1 ?a2 ?l2 ?c2 ?k2 ?a3 ?l3 ?c3 ?k3 ?a4 ?l4 ?c4 ?k4 ?a5 ?l5 ?c5 ?k5 ?a6 ?l6 ?c6 ?k6 ?a7 ?l7 ?c7 ?k7 ?a8 ?l8 ?c8 ?k8 ?a9 ?l9 ?c9 ?k9 ?a10 ?l10 ?c10 ?k10 ?a11 ?l11 ?c11 ?k11 ?a12 ?l12 ?c12 ?k12 ?z_max ?z_min ?z_sorted ?z_tuple ?z_dict ?z_zip ?z_range ?z_len ?z_int ?z_repr ?z_list
  (case a1=>k_is); (case l1=>k_is); (case c1=>k_is); (case k1=>k_is)
  (case a2=>k_is); (case l2=>k_is); (case c2=>k_is); (case k2=>k_is)
  (case a3=>k_is); (case l3=>k_is); (case c3=>k_is); (case k3=>k_is)
  (case a4=>k_is); (case l4=>k_is); (case c4=>k_is); (case k4=>k_is)
  (case a5=>k_is); (case l5=>k_is); (case c5=>k_is); (case k5=>k_is)
  (case a6=>k_is); (case l6=>k_is); (case c6=>k_is); (case k6=>k_is)
  (case a7=>k_is); (case l7=>k_is); (case c7=>k_is); (case k7=>k_is)
  (case a8=>k_is); (case l8=>k_is); (case c8=>k_is); (case k8=>k_is)
  (case a9=>k_is); (case l9=>k_is); (case c9=>k_is); (case k9=>k_is)
  (case a10=>k_is); (case l10=>k_is); (case c10=>k_is); (case k10=>k_is)
  (case a11=>k_is); (case l11=>k_is); (case c11=>k_is); (case k11=>k_is)
  (case a12=>k_is); (case l12=>k_is); (case c12=>k_is); (case k12=>k_is)
  (case z_max=>k_is); (case z_min=>k_is); (case z_sorted=>k_is); (case z_tuple=>k_is); (case z_dict=>k_is); (case z_zip=>k_is); (case z_range=>k_is); (case z_len=>k_is); (case z_int=>k_is); (case z_repr=>k_is); (case z_list=>k_is)
end
