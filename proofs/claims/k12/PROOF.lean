import PyProof.Rows.All
import Wide.All
import OpenK.AllK
import Wide.FinOn
import Lean
import PyProof.EqAt
import PyProof.EqKinds
import PyProof.TupleCall
import KE.KDictOf
import PyProof.AttrMissHeap
import PyProof.ReprRoads
import PySem.Challenge.RW_drawnweb_k12_alike
set_option Elab.async false
set_option linter.all false
set_option maxRecDepth 100000
set_option maxHeartbeats 0
theorem oB{α β:Type _}{x:Option α}{f:α->Option β}{b:β}(h:x.bind f=some b):∃a,x=some a/\f a=some b:=Option.bind_eq_some_iff.mp h
theorem lR{α:Type _}{a:α}(as:List α){bs:List α}(h:a∈bs):a∈as++bs:=List.mem_append_right as h
theorem lL{α:Type _}{a:α}{as:List α}(bs:List α)(h:a∈as):a∈as++bs:=List.mem_append_left bs h
theorem lM{α:Type _}{a:α}{s t:List α}(h:a∈s++t):a∈s\/a∈t:=List.mem_append.mp h
theorem lS{α:Type _}{a:α}{l:List α}:a∈a::l:=List.mem_cons_self
theorem lO{α:Type _}(y:α){a:α}{l:List α}(h:a∈l):a∈y::l:=List.mem_cons_of_mem y h
theorem lK{α:Type _}{a b:α}{l:List α}(h:a∈b::l):a=b\/a∈l:=List.mem_cons.mp h
open And renaming intro->K9
open Array renaming length_toList->EN,getElem?_eq_some_iff->Gp,perm_iff_toList_perm->Hg,getElem_mem->Iv,getElem?_eq_none_iff->Jf,getD->Jg,append_assoc->Kq,toList_inj->LJ,toList->Lz
open Array.Perm renaming refl->Kc
open Bool renaming and_eq_true->EV,false_eq_true->Fc,false_ne_true->Gg,and_eq_true_iff->IX,beq_eq_decide_eq->Kb
open Classical renaming byContradiction->GN,propDecidable->Hs
open False renaming elim->Go
open ForInStep renaming yield->I0
open Int renaming toNat_natCast->Fv,eq_ofNat_of_zero_le->Gd,le_antisymm->Jd,emod_nonneg->Je,zero_add->Ka,le_refl->Ko,toNat_of_nonneg->Kw,emod_lt_of_pos->LI
open List renaming length_map->At,size_toArray->Bz,range->Ch,mem_singleton->Do,append_nil->E1,nodup_append->E2,length_append->E3,getElem?_eq_getElem->E5,length_cons->E7,replicate->E8,getElem?_map->E9,getElem?_eq_some_iff->EA,not_mem_nil->EE,length_singleton->EF,nodup_cons->EG,map_cons->EH,mem_map->EL,map_map->EM,getD_eq_getElem?_getD->ER,append_assoc->EU,nodup_nil->EX,pairwise_map->EZ,lookup_cons->Ez,length_nil->F9,length_range->FB,nil_append->FJ,mem_cons->FL,map_congr_left->FU,find?_cons->Fe,getElem?_eq_none->Fj,any_cons->Fl,length_eq_zero_iff->Fp,getElem?_set_self->Ft,mem_filter->Fx,map_append->Fy,zip_cons_cons->GB,mem_range->GD,findSome?_cons->GI,getElem?_append_left->GR,drop_eq_getElem_cons->GS,getElem?_range->GY,pairwise_singleton->GZ,map_id->Gr,length_take->Gu,getElem?_set->HF,ext_getElem?->HG,length_drop->HJ,all_eq_true->HK,mem_of_getElem?->HR,toArray->Hc,zip_nil_right->Hj,pairwise_cons->Hk,zip_nil_left->Hy,length->Hz,map_snd_zip->IE,getElem_mem->IF,map_nil->IM,length_replicate->IT,getElem?_set_ne->IW,length_pos_iff->Ih,filterMap_cons->Ii,drop_nil->Im,mem_filterMap->Ip,set_set->Iy,any_map->Iz,all_map->J0,nodup_range->J7,filter_cons->J8,drop_length->J9,of_mem_zip->JK,forIn_cons->JL,foldl_cons->JM,getElem?_append_right->Ji,pairwise_iff_getElem->Jo,getD->K0,zipWith->K6,take_of_length_le->K7,drop_eq_nil_of_le->K8,length_filter_le->KW,getElem?_zipWith->KY,eraseIdx_sublist->KZ,filter_eq_self->Kn,getElem_range->Kv,take_sublist->LG,flatMap_cons->LH,take_length->LO,mem_flatMap->LP,isEmpty_iff->LQ,length_zip->LZ,take_zero->Lh,forIn_nil->Li,drop_zero->Lj,take_nil->Ly
open List.Nodup renaming length_le_of_subset->Fw
open List.Pairwise renaming and_mem->Hr,nil->IR,imp₂->JI,imp->Jj
open List.Perm renaming eq_of_pairwise->JH
open List.cons renaming inj->HH
open Nat renaming le_refl->Db,ne_of_lt->ED,lt_of_lt_of_le->EJ,zero_le->EY,le_trans->FH,le_of_lt->FZ,lt_irrefl->GM,lt_succ_of_lt->Gn,ne_of_gt->Gw,le_add_right->HN,le_succ->HU,le_of_not_lt->JG,sub_zero->KU,pos_of_ne_zero->LC,lt_or_eq_of_le->LD,lt_of_le_of_lt->LF,lt_trichotomy->LM,le_of_succ_le->LN,min_le_right->LY,not_lt_zero->Lg
open Ne renaming symm->Gz
open Option renaming bind_some->EB,map_eq_some_iff->Ff,isSome_iff_exists->Gx,map_some->HQ,isSome_map->Io,isSome_some->Kf,getD_none->Ku,none->Lx
open Option.some renaming inj->EQ
open Or renaming inl->EO,inr->G6
open Prod renaming ext->Lf
open Prod.mk renaming inj->HI
open PyProof.Rows renaming callWith_type1->ET,seqObj->FR,slot_tuple_getitem->Fd,IntsAre->Fs,assignInOrder_cons->GF,boot_range->Hx,assignInOrder_nil->IL,envOfC->Ib,AllBare->Ic,zipApart_new->Iu,boot_tuple->J5,listUpdate_at->J6,boot_zip->JE,assign_Tuple_tuple->JF,entry_list_sort->Jz,slot_list_sort->KR,args_list_sort->KS,subscriptTail->Km,lt_int->Kt,subscriptTail_builtinR->L6,plain_sorted->L7,listItems_at->L8,entry_sorted->L9,args_sorted1->LA,seqEpoch_at->LW,kind_sorted->LX,ge_int->Ld,entry_tuple_getitem->Le,size_push'->Lu,args_tuple_getitem->Lv,Subscript_->Lw
open PyProof.Rows.IsTup renaming new->LB
open PySem renaming wpAny_bind->AT,PyData->Ap,Shared->Bi,wpAny_pure->Bn,Spec->DD,sizeLine->E4,starEach->E6,Program->EK,compareOp->EW,mainGlobals->Ee,wpAny_newObj_type->Ex,foldedSetIterable->Ey,Around->FK,behindInMarks->FM,sizeLine_eq->FN,wpAny_loadPart'->FV,wpAny_holding->FX,cellsFrom->FY,assignEach->Fa,wpAny_Call_Name_kw->Fg,binaryOp->Fq,FuncData->G4,codeAny_builtin->G9,NameKind->GC,wpAny_call_entry->GE,wpAny_field->GH,wpAny_callSpecial?_slot->GK,sysModules->GL,wpAny_mono->GT,mem_of_lookup->GU,wpAny_assign_Name->GW,swapsWith->Gh,wpAny_setField_rec->Gj,bootBuiltins->Gk,Paired->Gm,Builtin->Gs,wpAny_seqItems->H9,assign->HD,wpAny_standAt->HE,wpAny_typeOf->HL,wpAny_rule->HW,backTo->HX,swapsWithSole->HY,swappedStores->HZ,plainId_quiet->Ha,codeAny->Hb,sliceBounds->He,wpAny_passesOwn->Hl,IsPair->Hn,holding->Hu,tupleKind_room_in1->I9,wpAny_truthy_bool->IH,getItem->II,wpAny_newList->IN,standAt->IY,letOwnedTupleGo->Ie,unsupported->Iq,rawInt->Ir,IsPart->Is,wpAny_Assign_stores->J2,noFill_tuple_add->J3,wpAny_pyIter_tuple->JA,pyNext->JB,call_meets->JC,builtinsNs->JD,wpAny_pyIter_list->JN,valueAt->JO,relabel->JP,numAt_eq->JQ,intItems->JR,collect->JS,codeAny_mono->JT,callerA->JU,SetTable->JW,ItemsOf->JY,BindsTo->Jc,wpAny_pyIter_zip->Jk,tupleKind->Jl,seq_tuple_add->Jm,subscripted->Jp,intItems_at->Jq,wpAny_execs_nil->Ju,pushCells_keeps->Jv,concat_meets->Jw,newList->K1,IsRange->K4,wpAny_runValue->KA,wpAny_newTuple->KB,wpAny_load->KC,typeLookup->KD,pyIter->KF,isTrue->KG,compTurn->KH,ZipApart->KI,ReadsAll->KM,rangeSize_one->Kg,nums_intItems->Kh,comprehension->Ki,assignInOrder->Kj,seqIndex?->Kr,Arguments->Ks,stored->Kx,spliced->Ky,richCompare_meets_room->Kz,codeAny_compStart_list->L0,wpAny_isTrue_Compare1->LK,builtinLookup_eq_fast->LL,wpAny_updateSeq_pair->LR,seqIndex_of->LS,compPost->LU,bindName->LV,wpAny_dictSet_pairs->La,wpAny_Name->Lk,slot_listiter_next->Ll,getattributeRaised->Lm,checkCount->Ln,Result->Lp
open PySem.Around renaming under_plainId->Fo
open PySem.AutoSeq1 renaming sub_tuple_tuple->JJ
open PySem.Builtin.Dict renaming addKeywords->Ix,updateFrom->J4
open PySem.Builtin.Int renaming intBits->FC
open PySem.Builtin.List renaming listExtendWith->Gc,listTooLong->HV
open PySem.Builtin.Range renaming rangeSize->Gq,small->IB
open PySem.Builtin.Slice renaming slicePlaces->Gi,sliceAdjust->HM,sliceApplied->Il
open PySem.Builtin.SmallTypes renaming ownedTupleIsFree->Fb,nextOf->Fm,ownedTupleHandOut->Hi
open PySem.Builtin.Str renaming occurrences->GA
open PySem.Builtin.Tuple renaming tupleExact->Fu,tupleCompareSizes->IS,tupleItemsOf->Ik
open PySem.Calls renaming spliced_cons->Hf,call_function_entry->Hq,spliced_nil->Ht,Name_function_global->Jb
open PySem.Code renaming compLoop->Ls
open PySem.F renaming plainAttrs_list->FW,slot_list_append->GX,type_list_append->Gv,plain_list_iadd->HP,args_tuple_add_2->Ho,entry_tuple_add->Hw,slot_tuple_add->IA,slot_list_extend->IG,slot_zip_getattribute->IQ,slot_zip_next->IV,type_list_extend->Ja,plain_proto_collect->Js,entry_proto_collect->Jt,slot_tuple_iterator_next->Jy,slot_list_remove->KP,slot_list_insert->KQ,entry_list_iadd->Ke,args_zip_next_1->Lc,entry_zip_next->Lr
open PySem.Heap renaming get?_push_of_some->BM,lt_size->Da,get?_push_size->Dx,size_push->FP,SameBut->Gf,get?_push_ne->Hv,size_update->ID,get?_update_other->IK,get?_update_self->KO,ExtBut->Kd
open PySem.Heap.DictOf renaming new->K5
open PySem.Heap.SameBut renaming update->JZ
open PySem.IsRange renaming new->Jx
open PySem.MeetsSeq renaming plain_remove_loop->IJ
open PySem.NameKind renaming free->Fi,cell->IU
open PySem.Obj renaming mapSeq->Ew,data_mapFields->L5
open PySem.Paired renaming length->GJ,snoc->Lq
open PySem.PassesOwn renaming never->GO
open PySem.PyData renaming int->EC,canLayAll0->EI,eqv->ES,depth->Fk,canLay0->GV,depthAll->Ge,list->HA,bool->HB,tuple->IC,weight->Ia,showableAll->Ig,weightAll->Iw,intsShortAll->KN,showable->L4
open PySem.SeqAt renaming eqv_refl->JX,EqAt->Kl,eqAt_reads->L3
open PySem.Shared renaming TypeIs->Jh,heap->Lo
open PySem.Str renaming ofString->IP
open PySem.Value renaming none->GG,ref->GQ,bool->JV,int->Jr,notImplemented->KJ,type->Kk,str->L1,isStrOf->Lb
open PySem.W renaming Frag->AC,fnOf->HS,keepIn->Hm,codeIn->IZ,methodObj->Ij,cellsFrom_some->Jn,kas_rev->K2,OpenLaw->K3
open Sum renaming inl->GP,inr->J1
open Sum.inl renaming inj->Hh
open True renaming intro->HC
section
namespace L2
open PySem PySem.Spec PyProof.Rows
abbrev Key:=Sum Int Str
noncomputable def jN:Key->Value->Bool
 |.inl k,v=>Value.isInt k v
 |.inr x,v=>Lb x v
noncomputable def keyH(w:World):Key->Int
 |.inl k=>hashInt k
 |.inr x=>hashStr w x
theorem bx:∀{k:Key}{v:Value},jN k v=true->(∃i t,k=GP i/\v=Jr i t)\/(∃x t,k=J1 x/\v=L1 x t)
 |.inl i,v,h=>by
  obtain⟨t,e⟩:=Value.isInt_shape (k:=i) (v:=v) h;exact .inl ⟨i,t,rfl,e⟩
 |.inr x,v,h=>by
  obtain⟨t,e⟩:=Value.isStrOf_shape (x:=x) (v:=v) h;exact .inr ⟨x,t,rfl,e⟩
theorem tK(i:Int)(t:Tok):jN (.inl i) (.int i t)=true:=by simp[jN,Value.isInt]
theorem tL(x:Str)(t:Tok):jN (.inr x) (.str x t)=true:=by simp[jN,Lb]
theorem AZ(a b:Int):decide ((GP a:Key)=GP b)=(a == b):=by
 by_cases e:a=b
 ·subst e; simp
 ·have h:¬ (GP a:Key)=GP b:=λq=>e (Hh q)
  rw[decide_eq_false h];exact(beq_eq_false_iff_ne.mpr e).symm
theorem A0(a b:Str):decide ((J1 a:Key)=J1 b)=decide (a=b):=by
 by_cases e:a=b
 ·subst e; simp
 ·have h:¬ (J1 a:Key)=J1 b:=λq=>e (Sum.inr.inj q)
  rw[decide_eq_false h,decide_eq_false e]
theorem A7(a:Int)(b:Str):decide ((GP a:Key)=J1 b)=false:=decide_eq_false (λq=>nomatch q)
theorem A8(a:Str)(b:Int):decide ((J1 a:Key)=GP b)=false:=decide_eq_false (λq=>nomatch q)
noncomputable def aJ(prog:EK)(w:World):PySem.KeyKind prog w Key where
 is:=jN
 hash:=keyH w
 inj:=λv a b ha hb=>by
  rcases bx ha with⟨i,t,rfl,rfl⟩ | ⟨x,t,rfl,rfl⟩
  ·rcases bx hb with⟨j,u,rfl,e⟩ | ⟨y,u,rfl,e⟩
   ·injection e with e1 _; rw[e1]
   ·exact nomatch e
  ·rcases bx hb with⟨j,u,rfl,e⟩ | ⟨y,u,rfl,e⟩
   ·exact nomatch e
   ·injection e with e1 _; rw[e1]
 byValue:=λk v h=>by
  rcases bx h with⟨i,t,rfl,rfl⟩ | ⟨x,t,rfl,rfl⟩ <;> rfl
 pyHash:=λhv h=>by
  rcases bx hv with⟨i,t,rfl,rfl⟩ | ⟨x,t,rfl,rfl⟩
  ·exact wpAny_pyHash_int h
  ·exact wpAny_pyHash_str h
 eqBool:=λhu hv h=>by
  rcases bx hu with⟨i,t,rfl,rfl⟩ | ⟨x,t,rfl,rfl⟩
  ·rcases bx hv with⟨j,u,rfl,rfl⟩ | ⟨y,u,rfl,rfl⟩
   ·rw[AZ] at h; exact wpAny_eqBool_int h
   ·rw[A7] at h; exact SeqAt.EqAt.int_str i t y u _ _ _ _ h
  ·rcases bx hv with⟨j,u,rfl,rfl⟩ | ⟨y,u,rfl,rfl⟩
   ·rw[A8] at h; exact SeqAt.EqAt.str_int x t j u _ _ _ _ h
   ·rw[A0] at h; exact wpAny_eqBool_str h
 «strs» := λk x t v h=>by
  rcases bx h with⟨i,u,rfl,e⟩ | ⟨y,u,rfl,e⟩
  ·exact nomatch e
  ·injection e with e1 _
   subst e1;cases v <;> rfl
theorem pq(prog:EK)(w:World)(i:Int)(t:Tok):(aJ prog w).is (.inl i) (.int i t)=true:=tK i t
theorem pA(prog:EK)(w:World)(x:Str)(t:Tok):(aJ prog w).is (.inr x) (.str x t)=true:=tL x t
end L2
namespace L2
open PySem PySem.Spec PyProof.Rows
inductive V where
 |non | bl (b:Bool) | int (i:Int) | str (x:Str) | byt (b:Array UInt8) | flt (b:UInt64) | ref (a:Addr) | ty (n:String)
 deriving DecidableEq
def RelV:V->Value->Prop
 |.non,u=>u=GG
 |.bl b,u=>u=JV b
 |.int i,u=>∃t,u=Jr i t
 |.str x,u=>∃t,u=L1 x t
 |.byt b,u=>∃t,u=Value.bytes b t
 |.flt b,u=>∃t,u=Value.float b t
 |.ref a,u=>u=GQ a
 |.ty n,u=>u=Kk n
abbrev Vals:List V->List Value->Prop:=Gm RelV
theorem Vals.length{xs:List V}{us:List Value}(r:Vals xs us):xs.length=us.length:=GJ r
theorem Vals.get:∀{xs:List V}{us:List Value}{i:Nat}{x:V},Vals xs us->xs[i]? = some x->∃u,us[i]? = some u/\RelV x u
 |_,_,_,_,.nil,e=>by simp at e
 |_,_,0,_,.cons r _,e=>by simp at e; subst e; exact⟨_,rfl,r⟩
 |_,_,i+1,x,.cons _ t,e=>by
  obtain⟨u,h1,h2⟩:=Vals.get (i:=i) (x:=x) t (by simpa using e)
  exact⟨u,by simpa using h1,h2⟩
theorem Vals.set{x:V}{u:Value}(r:RelV x u):∀{xs:List V}{us:List Value}(i:Nat),Vals xs us->Vals (xs.set i x) (us.set i u)
 |_,_,_,.nil=>.nil
 |_,_,0,.cons _ t=>.cons r t
 |_,_,i+1,.cons q t=>.cons q (Vals.set r i t)
theorem Vals.append:∀{xs ys:List V}{us ws:List Value},Vals xs us->Vals ys ws->Vals (xs++ys) (us++ws)
 |_,_,_,_,.nil,s=>s
 |_,_,_,_,.cons r t,s=>.cons r (Vals.append t s)
theorem Vals.take:∀{xs:List V}{us:List Value}(n:Nat),Vals xs us->Vals (xs.take n) (us.take n)
 |_,_,0,_=>.nil
 |_,_,_+1,.nil=>.nil
 |_,_,n+1,.cons r t=>.cons r (Vals.take n t)
theorem Vals.drop:∀{xs:List V}{us:List Value}(n:Nat),Vals xs us->Vals (xs.drop n) (us.drop n)
 |_,_,0,r=>r
 |_,_,_+1,.nil=>.nil
 |_,_,n+1,.cons _ t=>Vals.drop n t
def lI:Option V->Option Value->Prop
 |some v,some u=>RelV v u
 |none,none=>True
 |_,_=>False
def KV{κ:Type}:List (κ×V)->List (κ×Value)->Prop:=Gm λ(p:κ×V)(q:κ×Value)=>p.1=q.1/\RelV p.2 q.2
noncomputable def kV:Key->V
 |.inl i=>.int i
 |.inr x=>.str x
inductive HO where
  |lst (xs:List V)
  |tup (xs:List V)
  |dK (kvs:List (Key×V)) | dT (kvs:List (List Key×V))
  |set (S:Int->Bool) (n:Nat)
  |ins (C dx:Addr) (fs:List (Str×V))
  |own (x:Addr)
  |xd (fs:List (Str×V))
  |met (f x:Addr)
  |rng (lo hi:Int)
  |iH (o:Obj) (u:HO)
  |tbl (ps:Array Value)
  |ext (φ:Heap->Prop)
abbrev Hp:=Addr->Option HO
noncomputable def upd(H:Hp)(a:Addr)(o:HO):Hp:=λb=>if b=a then some o else H b
theorem aF{H:Hp}{a:Addr}{o:HO}:upd H a o a=some o:=by unfold upd; rw[if_pos rfl]
theorem aL{H:Hp}{a b:Addr}{o:HO}(h:b≠a):upd H a o b=H b:=by unfold upd; rw[if_neg h]
theorem uO{H:Hp}{a b:Addr}{o u:HO}(h:H a=some o)(h':H b=some u)(d:o≠u):a≠b:=by
 intro e; subst e; rw[h] at h'; exact d (EQ h')
theorem bK{H:Hp}{a b:Addr}{o:HO}(h:H a=some o)(h':H b=none):a≠b:=by
 intro e; subst e; rw[h] at h'; cases h'
def fJ(h:Heap)(a:Addr)(items:Array Value):Prop:=∃o,h.get? a=some o/\o.cls=.type "tuple"/\∃n,o.data=.seq items n/\o.dict=none
theorem fJ.tup{h:Heap}{a items}(x:fJ h a items):PyProof.Rows.IsTup h a items:=let ⟨o,ho,hc,n,hd,_⟩:=x; ⟨o,ho,hc,n,hd⟩
theorem fJ.new(h:Heap)(items:Array Value):fJ (h.push { cls:=.type "tuple",data:=.seq items }) h.objs.size items:=⟨_,Dx _ rfl,rfl,_,rfl,rfl⟩
section
variable(P:EK)(w:World)
def cy(H:Hp)(h:Heap)(a:Addr):HO->Prop
 |.lst xs=>xs.length<=E4/\∃ (its:List Value) (n:Nat),Vals xs its/\h.get? a=some { cls:=.type "list",data:=.seq its.toArray n }
 |.tup xs=>xs.length<=E4/\∃its:List Value,Vals xs its/\fJ h a its.toArray
 |.dK kvs=>kvs.length<=E4/\(a == GL)=false/\∃vs,KV kvs vs/\h.DictOf (aJ P w) a vs
 |.dT kvs=>kvs.length<=E4/\(a == GL)=false/\∃xs:List (List Key×Addr×Value),
  Gm (λ(p:List Key×V)(q:List Key×Addr×Value)=>p.1=q.1/\H q.2.1=some (.tup (p.1.map kV))/\RelV p.2 q.2.2) kvs xs /\
  ∃o es ep,h.get? a=some o/\o.ExactDict/\o.data=.dict es ep/\es.toList=xs.map (entryOfKey (Jl (aJ P w)))/\(xs.map (·.1)).Nodup
 |.set S n=>h.SetOf (intKind P w) a S n
 |.ins C dx fs=>H dx=some (.own a)/\fs.length<=1000/\dx≠a/\h.get? a=some (PySem.W.instObj C dx) /\
  ∃mA,h.Ns1 dx mA/\(∀f,lI (fs.lookup f) (mA f))/\PySem.Within mA (fs.map (·.1))
 |.own _=>∃o,h.get? a=some o
 |.xd fs=>∃mA,h.Ns1 a mA/\∀f,lI (fs.lookup f) (mA f)
 |.rng lo hi=>∃t u v,h.get? a=some { cls:=.type "range",data:=.fields #[.int lo t,.int hi u,.int 1 v] }
 |.iH o u=>h.get? a=some o/\cy H h a u
 |.tbl ps=>h.get? a=some { cls:=.none,data:=.fields ps }
 |.met f x=>h.get? a=some (Ij (.ref f) (.ref x))
 |.ext φ=>φ h/\(∃o,h.get? a=some o)/\∀h1 h2:Heap,φ h1->(∀o,h1.get? a=some o->h2.get? a=some o)->φ h2
def iT(H:Hp)(h:Heap):Prop:=∀a o,H a=some o->cy P w H h a o
end
section
variable{P:EK}{w:World}{H H':Hp}{h h':Heap}{a:Addr}{o:HO}
theorem cy.lt(x:cy P w H h a o):a<h.objs.size:=by
 cases o with
 |lst xs=>obtain⟨_,_,_,_,e⟩:=x; exact Da e
 |tup xs=>obtain⟨_,_,_,p⟩:=x; exact p.tup.lt
 |dK kvs=>obtain⟨_,_,_,_,o,_,_,e,_⟩:=x; exact Da e
 |dT kvs=>obtain⟨_,_,_,_,o,_,_,e,_⟩:=x; exact Da e
 |set S n=>obtain⟨o,_,_,_,e,_⟩:=x; exact Da e
 |ins C dx fs=>obtain⟨_,_,_,e,_⟩:=x; exact Da e
 |own y=>obtain⟨_,e⟩:=x; exact Da e
 |xd fs=>obtain⟨_,⟨_,_,_,e,_⟩,_⟩:=x; exact Da e
 |rng lo hi=>obtain⟨_,_,_,e⟩:=x; exact Da e
 |iH ob u=>obtain⟨e,_⟩:=x; exact Da e
 |tbl ps=>exact Da (show h.get? a=some _ from x)
 |met f y=>exact Da (show h.get? a=some _ from x)
 |ext φ=>obtain⟨_,⟨_,e⟩,_⟩:=x; exact Da e
theorem Gm.mapP{α β:Type}{F G:α->β->Prop}:∀{l₁:List α}{l₂:List β},Gm F l₁ l₂->(∀a b,F a b->G a b)->Gm G l₁ l₂
 |_,_,.nil,_=>.nil
 |_,_,.cons r t,f=>.cons (f _ _ r) (Gm.mapP t f)
theorem cy.stay(x:cy P w H h a o)(k:∀b u,(b=a\/H b=some (.own a))->h.get? b=some u->h'.get? b=some u)
  (ho:∀b,H b=some (.own a)->H' b=some (.own a)) (ht:∀b xs,H b=some (.tup xs)->H' b=some (.tup xs)):cy P w H' h' a o:=by
 induction o with
 |lst xs=>obtain⟨z,its,n,r,e⟩:=x; exact⟨z,its,n,r,k _ _ (.inl rfl) e⟩
 |tup xs=>obtain⟨z,its,r,ob,e,c⟩:=x; exact⟨z,its,r,ob,k _ _ (.inl rfl) e,c⟩
 |dK kvs=>obtain⟨z,y,vs,r,ob,es,ep,e,c⟩:=x; exact⟨z,y,vs,r,ob,es,ep,k _ _ (.inl rfl) e,c⟩
 |dT kvs=>
  obtain⟨z,y,xs,r,ob,es,ep,e,c⟩:=x;exact⟨z,y,xs,Gm.mapP r λp q z=>⟨z.1,ht _ _ z.2.1,z.2.2⟩,ob,es,ep,k _ _ (.inl rfl) e,c⟩
 |set S n=>obtain⟨ob,es,ep,t,e,c⟩:=x; exact⟨ob,es,ep,t,k _ _ (.inl rfl) e,c⟩
 |ins C dx fs=>
  obtain⟨d,z,ne,e,mA,⟨od,es,ep,e2,c⟩,r⟩:=x;exact⟨ho _ d,z,ne,k _ _ (.inl rfl) e,mA,⟨od,es,ep,k _ _ (.inr d) e2,c⟩,r⟩
 |own y=>obtain⟨ob,e⟩:=x; exact⟨ob,k _ _ (.inl rfl) e⟩
 |xd fs=>obtain⟨mA,⟨od,es,ep,e,c⟩,r⟩:=x; exact⟨mA,⟨od,es,ep,k _ _ (.inl rfl) e,c⟩,r⟩
 |rng lo hi=>obtain⟨t,u,v,e⟩:=x; exact⟨t,u,v,k _ _ (.inl rfl) e⟩
 |iH ob u ih=>obtain⟨e,q⟩:=x; exact⟨k _ _ (.inl rfl) e,ih q⟩
 |tbl ps=>
  have e:h.get? a=some { cls:=.none,data:=.fields ps }:=x;show h'.get? a=some { cls:=.none,data:=.fields ps };exact k a _ (.inl rfl) e
 |met f y=>
  have e:h.get? a=some (Ij (.ref f) (.ref y)):=x;show h'.get? a=some (Ij (.ref f) (.ref y));exact k a _ (.inl rfl) e
 |ext φ=>obtain⟨p,⟨o,e⟩,st⟩:=x; exact⟨st _ _ p λo q=>k _ _ (.inl rfl) q,⟨o,k _ _ (.inl rfl) e⟩,st⟩
theorem iT.lt(x:iT P w H h)(e:H a=some o):a<h.objs.size:=(x a o e).lt
theorem iT.fresh(x:iT P w H h)(e:h.objs.size<=a):H a=none:=by
 cases q:H a with
 |none=>rfl
 |some u=>exact absurd (EJ (x.lt q) e) (GM _)
theorem iT.kept(x:iT P w H h)(k:∀b u,h.get? b=some u->h'.get? b=some u):iT P w H h':=λa o e=>
 (x a o e).stay (λb u _ q=>k b u q) (λ_ q=>q) λ_ _ q=>q
theorem iT.laid(x:iT P w H h)(k:∀b u,h.get? b=some u->h'.get? b=some u)(hp:h.objs.size<=a)(new:cy P w (upd H a o) h' a o):iT P w (upd H a o) h':=λb u e=>by
 have hn:=x.fresh hp
 by_cases hb:b=a
 ·subst hb; rw[aF] at e; cases e; exact new
 ·rw[aL hb] at e
  exact(x b u e).stay (λc v _ q=>k c v q) (λc q=>by rw[aL (bK q hn)]; exact q) λc xs q=>by rw[aL (bK q hn)]; exact q
end
def Rd(H:Hp)(a:Addr)(u:HO):Prop:=H a=some u\/∃o,H a=some (.iH o u)
theorem Rd.ok{P:EK}{w:World}{H:Hp}{h:Heap}{a:Addr}{u:HO}(r:Rd H a u)(x:iT P w H h):cy P w H h a u:=by
 rcases r with r | ⟨o,r⟩
 ·exact x a u r
 ·obtain⟨_,q⟩:=x a _ r
  exact q
def Di:Option HO->Prop
 |some (.lst _)=>True
 |some (.dK _)=>True
 |some (.dT _)=>True
 |some (.set _ _)=>True
 |some (.ins _ _ _)=>True
 |some (.ext _)=>True
 |_=>False
section
variable{P:EK}{w:World}{H:Hp}{h h':Heap}{x e:Addr}{o':HO}
theorem iT.write(ok:iT P w H h)(mu:Di (H x))(he:e=x\/H e=some (.own x))(k:∀b u,b≠e->h.get? b=some u->h'.get? b=some u)(heo:∃u,h'.get? e=some u)
  (new:cy P w (upd H x o') h' x o'):iT P w (upd H x o') h':=λb u q=>by
 have nown:∀c y,H c=some (.own y)->c≠x:=λc y r z=>by subst z; rw[r] at mu; exact mu
 have ntup:∀c xs,H c=some (.tup xs)->c≠x:=λc xs r z=>by subst z; rw[r] at mu; exact mu
 by_cases hb:b=x
 ·subst hb; rw[aF] at q; cases q; exact new
 ·rw[aL hb] at q
  by_cases hbe:b=e
  ·have q':H b=some (.own x):=by
    rcases he with z | z
    ·exact absurd (hbe.trans z) hb
    ·rw[hbe]; exact z
   rw[q] at q'; cases q';obtain⟨v,hv⟩:=heo;exact⟨v,by rw[hbe]; exact hv⟩
  ·refine(ok b u q).stay (λc v hc r=>k c v ?_ r) (λc r=>by rw[aL (nown c b r)]; exact r) λc xs r=>by rw[aL (ntup c xs r)]; exact r
   rcases hc with rfl | hc
   ·exact hbe
   ·rintro rfl
    rcases he with z | z
    ·exact nown c b hc z
    ·rw[hc] at z; cases z; exact hb rfl
end
structure Un(fs ex:List Addr)(H H':Hp)(h h':Heap):Prop where
 keep:∀b o,h.get? b=some o->H b=none->b∉fs->b∉ex->h'.get? b=some o
 slot:∀b o,h.get? b=some o->H b=none->b∈fs->b∉ex->∃sl,h'.get? b=some { o with slots:=sl }
 free:∀b o,h.get? b=some o->H b=none->b∉ex->H' b=none
 there:∀b o,h.get? b=some o->b∉ex->∃o',h'.get? b=some o'
 tups:∀b xs,H b=some (.tup xs)->H' b=some (.tup xs)
 ef:∀b o u,H b=some (.iH o u)->H' b=some (.iH o u)
 tbls:∀b ps,H b=some (.tbl ps)->∃more,H' b=some (.tbl (ps++more))
section
variable{fs fs' ex ex':List Addr}{H H1 H2:Hp}{h h1 h2 h':Heap}{a x e:Addr}{o:HO}
theorem Un.any(u:Un fs ex H H1 h h1){b:Addr}{ob:Obj}(q:h.get? b=some ob)(n:H b=none)(hx:b∉ex):∃sl,h1.get? b=some { ob with slots:=sl }:=by
 by_cases hb:b∈fs
 ·exact u.slot b ob q n hb hx
 ·exact⟨ob.slots,u.keep b ob q n hb hx⟩
theorem Un.trans(a:Un fs ex H H1 h h1)(b:Un fs ex H1 H2 h1 h2):Un fs ex H H2 h h2 where
 keep:=λc ob q n hc hx=>b.keep c ob (a.keep c ob q n hc hx) (a.free c ob q n hx) hc hx
 slot:=λc ob q n hc hx=>by
  obtain⟨sl,e1⟩:=a.slot c ob q n hc hx;obtain⟨sl',e2⟩:=b.slot c _ e1 (a.free c ob q n hx) hc hx;exact⟨sl',e2⟩
 free:=λc ob q n hx=>by
  obtain⟨o',e1⟩:=a.there c ob q hx;exact b.free c o' e1 (a.free c ob q n hx) hx
 there:=λc ob q hx=>by
  obtain⟨o',e1⟩:=a.there c ob q hx;exact b.there c o' e1 hx
 tups:=λc xs q=>b.tups c xs (a.tups c xs q)
 ef:=λc ob xs q=>b.ef c ob xs (a.ef c ob xs q)
 tbls:=λc ps q=>by
  obtain⟨m1,e1⟩:=a.tbls c ps q;obtain⟨m2,e2⟩:=b.tbls c _ e1;exact⟨m1++m2,by rw[e2,Kq]⟩
theorem Un.kept(k:∀b u,h.get? b=some u->h'.get? b=some u):Un fs ex H H h h' :=
 ⟨λb ob q _ _ _=>k b ob q,λb ob q _ _ _=>⟨ob.slots,k b ob q⟩,λ_ _ _ n _=>n,λb ob q _=>⟨ob,k b ob q⟩,λ_ _ q=>q,λ_ _ _ q=>q,λ_ ps q=>⟨#[],by rw[q]; simp⟩⟩
theorem Un.refl:Un fs ex H H h h:=Un.kept λ_ _ q=>q
theorem Un.laid(k:∀b u,h.get? b=some u->h'.get? b=some u)(hp:h.objs.size<=a)(hn:H a=none):Un fs ex H (upd H a o) h h' where
 keep:=λb u q _ _ _=>k b u q
 slot:=λb u q _ _ _=>⟨u.slots,k b u q⟩
 free:=λb u q n _=>by rw[aL (ED (EJ (Da q) hp))]; exact n
 there:=λb u q _=>⟨u,k b u q⟩
 tups:=λb xs q=>by rw[aL (bK q hn)]; exact q
 ef:=λb u xs q=>by rw[aL (bK q hn)]; exact q
 tbls:=λb ps q=>⟨#[],by rw[aL (bK q hn),q]; simp⟩
theorem Un.write(mu:Di (H x))(he:e=x\/H e=some (.own x))(k:∀b u,b≠e->h.get? b=some u->h'.get? b=some u)(heo:∃u,h'.get? e=some u):Un fs ex H (upd H x o) h h':=by
 have hx:∀b,H b=none->b≠x:=λb n z=>by subst z; rw[n] at mu; exact mu
 have hb:∀b,H b=none->b≠e:=λb n z=>by
  subst z;rcases he with r | r
  ·exact hx b n r
  ·rw[n] at r; cases r
 have hm:∀b u,H b=some u->¬Di (some u)->b≠x:=λb u q nm z=>by subst z; rw[q] at mu; exact nm mu
 refine⟨λb u q n _ _=>k b u (hb b n) q,λb u q n _ _=>⟨u.slots,k b u (hb b n) q⟩,λb u q n _=>by rw[aL (hx b n)]; exact n,λb u q _=>?_,
  λb xs q=>by rw[aL (hm b _ q λz=>z)]; exact q,λb u xs q=>by rw[aL (hm b _ q λz=>z)]; exact q,λb ps q=>⟨#[],by rw[aL (hm b _ q λz=>z),q]; simp⟩⟩
 by_cases hbe:b=e
 ·subst hbe; exact heo
 ·exact⟨u,k b u hbe q⟩
theorem Un.mono(u:Un fs ex H H1 h h1)(hs:∀b∈fs,b∈fs')(hx:∀b∈ex,b∈ex'):Un fs' ex' H H1 h h1 :=
 ⟨λb ob q n hb he=>u.keep b ob q n (λz=>hb (hs b z)) λz=>he (hx b z),λ_ _ q n _ he=>u.any q n λz=>he (hx _ z),λb ob q n he=>u.free b ob q n λz=>he (hx b z),λb ob q he=>u.there b ob q λz=>he (hx b z),u.tups,u.ef,u.tbls⟩
end
noncomputable def Dy(h:Heap)(H:Hp):List Addr:=(Ch h.objs.size).filter λa=>(H a).isSome
noncomputable def ny(h:Heap)(H:Hp):Heap:=PySem.W.hideAll h (Dy h H)
theorem tM(h:Heap)(H:Hp):(ny h H).objs.size=h.objs.size:=PySem.W.hideAll_size _ _
theorem uP{h:Heap}{H:Hp}{b:Addr}{o:Obj}(e:h.get? b=some o)(n:H b=none):(ny h H).get? b=some o :=
 PySem.W.hideAll_get _ e λhm=>by
  have q:(H b).isSome=true:=(Fx.mp hm).2;rw[n] at q; simp at q
theorem yg{h:Heap}{H:Hp}{b:Addr}{o:Obj}(e:(ny h H).get? b=some o):h.get? b=some o/\H b=none:=by
 have e':h.get? b=some o:=PySem.W.of_hideAll (Dy h H) e;refine⟨e',?_⟩;cases q:H b with
 |none=>rfl
 |some x=>
  have hm:b∈Dy h H:=Fx.mpr ⟨GD.mpr (Da e'),by simp[q]⟩
  have z:(ny h H).get? b=none:=PySem.W.hideAll_none (Dy h H) hm;rw[z] at e; cases e
end L2
namespace L2
open PySem PySem.Spec PyProof.Rows
structure Mod(K:AC)(mg:Str->Option Value)(base:Heap):Prop where
 kin:K.In base
 glob:base.Ns Ee mg
 blt:∃mb,base.Ns JD mb/\∀x:Str,x ≠ "__name__"->mb x=Gk x
 nolimit:base.NoLimit
structure Cx where
 prog:EK
 w:World
 K:AC
 mg:Str->Option Value
 base:Heap
 A:FK
 N:List Str
 s₀:Bi
 H₀:Hp
 env:Env
 outer:List Env
 stack:List Env
 ex:List Addr
 fn:Str->Bool
 calm:Bool
 pn:List (Addr×Obj)
 xe:Value->Bi->Prop
noncomputable def frs(l:List Env):List Addr:=l.filterMap (·.frame)
noncomputable abbrev Cx.fs(X:Cx):List Addr:=frs X.outer
def A9(sc:Scope)(x:Str):Prop:=sc.names.lookup x=some .local\/sc.names.lookup x=some .cell\/sc.names.lookup x=some .free
def Loc(sc:Scope)(x:Str):Prop:=sc.names.lookup x=some .local\/sc.names.lookup x=some .cell
def Look(env:Env)(h:Heap)(m:Str->Option Value)(x:Str)(u:Value):Prop :=
 (env.kindOf x=some .local/\m x=some u)\/((env.kindOf x=some .cell\/env.kindOf x=some .free)/\∃c,env.cells.lookup x=some c/\h.IsCell c (some u))
structure Cx.Ok(X:Cx):Prop where
 mod:Mod X.K X.mg X.base
 kind:X.env.scope.kind=.function
 glob:X.env.globals=Ee
 blt:X.env.builtins=JD
 above:X.s₀.heap.objs.size<=X.env.locals
 inj:∀x y c,X.env.cells.lookup x=some c->X.env.cells.lookup y=some c->x=y
 has:∀x,(X.env.kindOf x=some .cell\/X.env.kindOf x=some .free)->∃c,X.env.cells.lookup x=some c
 cab:∀x c,X.fn x=true->X.env.cells.lookup x=some c->X.s₀.heap.objs.size<=c
 hd:X.calm=true->X.A.handled=none
 frames:X.A.frames=some X.stack
 stk:X.stack=X.outer\/(X.stack=X.env::X.outer/\X.env.frame=some X.env.locals)
 exf:∀b∈X.ex,b≠X.env.locals/\∀x c,X.env.cells.lookup x=some c->c≠b
 bs:∀b o,X.base.get? b=some o->X.s₀.heap.get? b=some o/\X.H₀ b=none
 bsz:X.base.objs.size<=X.s₀.heap.objs.size
 noex:∀b o,X.base.get? b=some o->b∉X.ex
 exfs:∀b∈X.ex,b∉X.fs
 ki:X.s₀.heap.FunFrames X.base X.outer
 frf:∀b∈X.fs,X.H₀ b=none
structure Inv(X:Cx)(pins:List (Addr×Obj))(σ:List (Option V))(H:Hp)(s:Bi):Prop where
 ok:X.Ok
 os:s.os=X.s₀.os
 bare:Ic s.gens
 base:Un X.fs X.ex X.H₀ H X.s₀.heap s.heap
 loc:∃m,s.heap.Ns X.env.locals m/\∀(i:Nat)(x:Str)(v:V),X.N[i]? = some x->σ[i]? = some (some v)->A9 X.env.scope x->∃u,RelV v u/\Look X.env s.heap m x u
 cell:∀x c,X.env.cells.lookup x=some c->∃v,s.heap.IsCell c v
 free:H X.env.locals=none
 freeC:∀x c,X.env.cells.lookup x=some c->H c=none
 pin:∀p∈X.pn++pins,s.heap.get? p.1=some p.2/\H p.1=none/\p.1≠X.env.locals/\p.1∉X.fs/\∀v,p.2.data≠.cell v
 hok:iT X.prog X.w H s.heap
 len:σ.length=X.N.length
section
variable{X:Cx}{pins:List (Addr×Obj)}{σ:List (Option V)}{H H':Hp}{s:Bi}{h':Heap}
theorem Cx.Ok.nofr(ok:X.Ok){b:Addr}{o:Obj}(e:X.base.get? b=some o):b∉X.fs:=λhb=>by
 have:=(ok.ki.mem hb).1;rw[e] at this; cases this
theorem Inv.bs(I:Inv X pins σ H s):∀b o,X.base.get? b=some o->s.heap.get? b=some o/\H b=none:=λb o e=>
 ⟨I.base.keep b o (I.ok.bs b o e).1 (I.ok.bs b o e).2 (I.ok.nofr e) (I.ok.noex b o e),I.base.free b o (I.ok.bs b o e).1 (I.ok.bs b o e).2 (I.ok.noex b o e)⟩
theorem Inv.bk(I:Inv X pins σ H s):∀b o,X.base.get? b=some o->s.heap.get? b=some o:=λb o e=>(I.bs b o e).1
theorem Inv.mod(I:Inv X pins σ H s):Mod X.K X.mg X.base:=I.ok.mod
theorem Inv.Dz(I:Inv X pins σ H s):X.K.In s.heap:=I.ok.mod.kin.keeps I.bk
theorem Inv.lt(I:Inv X pins σ H s):X.env.locals<s.heap.objs.size:=let ⟨_,hn,_⟩:=I.loc; hn.lt
theorem Inv.sz(I:Inv X pins σ H s):X.s₀.heap.objs.size<=s.heap.objs.size:=FH I.ok.above (FZ I.lt)
theorem Inv.nofs(I:Inv X pins σ H s){a:Addr}(h:s.heap.objs.size<=a):a∉X.fs:=λhb=>by
 obtain⟨_,o,ho,_⟩:=I.ok.ki.mem hb;exact absurd (EJ (Da ho) (FH I.sz h)) (GM _)
theorem Inv.tN(I:Inv X pins σ H s):∀x c,X.env.cells.lookup x=some c->c≠X.env.locals:=λx c e z=>by
 obtain⟨v,o,ho,hd⟩:=I.cell x c e;obtain⟨m,⟨o',es,ep,ho',hd',_⟩,_⟩:=I.loc;rw[z,ho'] at ho; cases ho; rw[hd'] at hd; cases hd
theorem Inv.ki(I:Inv X pins σ H s):s.heap.FunFrames X.base X.outer:=by
 have all:∀(l:List Env),(∀b∈frs l,b∈X.fs)->X.s₀.heap.FunFrames X.base l->s.heap.FunFrames X.base l:=by
  intro l
  induction l with
  |nil=>intro _ _; trivial
  |cons env r ih=>
   intro hs hl;obtain⟨hk,⟨L,o,hf,hn,ho,hd⟩,hr⟩:=hl;have hL:L∈X.fs:=hs L (by unfold frs; rw[Ii,hf]; exact lS)
   obtain⟨sl,e⟩:=I.base.slot L o ho (I.ok.frf L hL) hL λz=>I.ok.exfs L z hL
   exact⟨hk,⟨L,_,hf,hn,e,hd⟩,ih (λb hb=>hs b (by unfold frs; rw[Ii,hf]; exact lO _ hb)) hr⟩
 exact all X.outer (λ_ hb=>hb) I.ok.ki
theorem Inv.stack(I:Inv X pins σ H s):s.heap.FunFrames X.base X.stack:=by
 rcases I.ok.stk with e | ⟨e,hf⟩
 ·rw[e]; exact I.ki
 ·rw[e]
  obtain⟨m,hn,_⟩:=I.loc;refine .cons (by rw[I.ok.kind]; decide) hf hn ?_ I.ki
  exact Heap.get?_none_of_le (FH I.ok.bsz I.ok.above)
theorem Inv.nA(I:Inv X pins σ H s):∀b∈frs X.stack,b∈X.env.locals::X.fs:=λb hb=>by
 rcases I.ok.stk with e | ⟨e,hf⟩
 ·rw[e] at hb; exact lO _ hb
 ·rw[e] at hb
  unfold frs at hb;rw[Ii,hf] at hb;exact hb
theorem Inv.r8(I:Inv X pins σ H s):∀b∈frs X.stack,H b=none:=λb hb=>by
 rcases lK (I.nA b hb) with e | hb
 ·rw[e]; exact I.free
 ·obtain⟨_,o,ho,_⟩:=I.ok.ki.mem hb
  exact I.base.free b o ho (I.ok.frf b hb) λz=>I.ok.exfs b z hb
theorem Inv.step{g':Array GenState}{t':Nat}{d':Drawn}{ch:List Addr}(I:Inv X pins σ H s)
  (hch:∀b∈ch,(b∈X.ex\/X.s₀.heap.objs.size<=b)/\b≠X.env.locals/\(∀x c,X.env.cells.lookup x=some c->c≠b)/\∀p∈X.pn++pins,p.1≠b)
  (keep:∀b o,b≠X.env.locals->b∉X.fs->b∉ch->s.heap.get? b=some o->H b=none->h'.get? b=some o)
  (slot:∀b o,b≠X.env.locals->b∈X.fs->b∉ch->s.heap.get? b=some o->H b=none->∃sl,h'.get? b=some { o with slots:=sl }) (free:∀b o,b∉ch->s.heap.get? b=some o->H b=none->H' b=none)
  (there:∀b o,b∉ch->s.heap.get? b=some o->∃o',h'.get? b=some o')
  (tups:∀b xs,H b=some (.tup xs)->H' b=some (.tup xs)) (ef:∀b o u,H b=some (.iH o u)->H' b=some (.iH o u)) (tbls:∀b ps,H b=some (.tbl ps)->∃more,H' b=some (.tbl (ps++more)))
  (ns:∀m,s.heap.Ns X.env.locals m->h'.Ns X.env.locals m) (hok:iT X.prog X.w H' h') (hg:Ic g') :
  Inv X pins σ H' { s with heap:=h',gens:=g',drawn:=d',toks:=t' }:=by
 have neL:∀b o,X.s₀.heap.get? b=some o->b≠X.env.locals:=λb o e=>ED (EJ (Da e) I.ok.above)
 have neC:∀b o,X.s₀.heap.get? b=some o->b∉X.ex->b∉ch:=λb o e hx hb=>by
  rcases (hch b hb).1 with z | z
  ·exact hx z
  ·exact absurd (EJ (Da e) z) (GM _)
 have cellK:∀x c,X.env.cells.lookup x=some c->∀v,s.heap.IsCell c v->h'.IsCell c v:=λx c e v ⟨o,ho,hd⟩=>by
  have nch:c∉ch:=λz=>(hch c z).2.2.1 x c e rfl
  by_cases hc:c∈X.fs
  ·obtain⟨sl,q⟩:=slot c o (I.tN x c e) hc nch ho (I.freeC x c e)
   exact⟨_,q,hd⟩
  ·exact⟨o,keep c o (I.tN x c e) hc nch ho (I.freeC x c e),hd⟩
 refine⟨I.ok,I.os,hg,⟨λb o e n hb hx=>?_,λb o e n hb hx=>?_,λb o e n hx=>?_,λb o e hx=>?_,λb xs e=>tups b xs (I.base.tups b xs e),λb o xs e=>ef b o xs (I.base.ef b o xs e),λb ps e=>?_⟩,?_,λx c e=>?_,?_,λx c e=>?_,λp hp=>?_,hok,I.len⟩
 ·exact keep b o (neL b o e) hb (neC b o e hx) (I.base.keep b o e n hb hx) (I.base.free b o e n hx)
 ·obtain⟨sl,e1⟩:=I.base.slot b o e n hb hx
  obtain⟨sl',e2⟩:=slot b _ (neL b o e) hb (neC b o e hx) e1 (I.base.free b o e n hx);exact⟨sl',e2⟩
 ·obtain⟨o',e1⟩:=I.base.there b o e hx
  exact free b o' (neC b o e hx) e1 (I.base.free b o e n hx)
 ·obtain⟨o',e1⟩:=I.base.there b o e hx
  exact there b o' (neC b o e hx) e1
 ·obtain⟨m1,e1⟩:=I.base.tbls b ps e
  obtain⟨m2,e2⟩:=tbls b _ e1;exact⟨m1++m2,by rw[e2,Kq]⟩
 ·obtain⟨m,hn,hl⟩:=I.loc
  refine⟨m,ns m hn,λi x v e1 e2 e3=>?_⟩
  obtain⟨u,r,l⟩:=hl i x v e1 e2 e3;refine⟨u,r,?_⟩;rcases l with l | ⟨k,c,e,z⟩
  ·exact .inl l
  ·exact .inr ⟨k,c,e,cellK x c e _ z⟩
 ·obtain⟨v,z⟩:=I.cell x c e
  exact⟨v,cellK x c e v z⟩
 ·obtain⟨m,⟨o,_,_,ho,_⟩,_⟩:=I.loc
  exact free _ o (λz=>(hch _ z).2.1 rfl) ho I.free
 ·obtain⟨v,o,ho,hd⟩:=I.cell x c e
  exact free c o (λz=>(hch c z).2.2.1 x c e rfl) ho (I.freeC x c e)
 ·obtain⟨e,n,ne,nf,d⟩:=I.pin p hp
  have nch:p.1∉ch:=λz=>(hch p.1 z).2.2.2 p hp rfl
  exact⟨keep p.1 p.2 ne nf nch e n,free p.1 p.2 nch e n,ne,nf,d⟩
theorem Inv.un{t':Nat}(I:Inv X pins σ H s)(u:Un X.fs [] H H' s.heap h')(hok:iT X.prog X.w H' h'):Inv X pins σ H' { s with heap:=h',toks:=t' }:=by
 obtain⟨m,⟨o,es,ep,ho,r⟩,_⟩:=id I.loc;obtain⟨sl,hL⟩:=u.any ho I.free (by simp)
 exact I.step (g':=s.gens) (d':=s.drawn) (ch:=[]) (λ_ z=>nomatch z) (λb o _ hb _ e n=>u.keep b o e n hb (by simp)) (λb o _ hb _ e n=>u.slot b o e n hb (by simp)) (λb o _ e n=>u.free b o e n (by simp)) (λb o _ e=>u.there b o e (by simp)) u.tups u.ef u.tbls (λm' hm=>by
  obtain⟨o',es',ep',ho',r'⟩:=hm;rw[ho] at ho'; cases ho';exact⟨_,es',ep',hL,r'⟩) hok I.bare
theorem Inv.call{g':Array GenState}{t':Nat}{d':Drawn}{ch:List Addr}(I:Inv X pins σ H s)(u:Un (frs X.stack) ch H H' s.heap h')(hok:iT X.prog X.w H' h')(hg:Ic g')
  (hch:∀b∈ch,(b∈X.ex\/X.s₀.heap.objs.size<=b)/\b≠X.env.locals/\(∀x c,X.env.cells.lookup x=some c->c≠b)/\∀p∈X.pn++pins,p.1≠b) :
  Inv X pins σ H' { s with heap:=h',gens:=g',drawn:=d',toks:=t' }:=by
 obtain⟨m,⟨o,es,ep,ho,r⟩,_⟩:=id I.loc;obtain⟨sl,hL⟩:=u.any ho I.free λz=>(hch _ z).2.1 rfl
 exact I.step (ch:=ch) hch (λb o hL hb hc e n=>u.keep b o e n (λz=>(lK (I.nA b z)).elim hL hb) hc) (λb o _ _ hc e n=>u.any e n hc) (λb o hc e n=>u.free b o e n hc) (λb o hc e=>u.there b o e hc) u.tups u.ef u.tbls (λm' hm=>by
  obtain⟨o',es',ep',ho',r'⟩:=hm;rw[ho] at ho'; cases ho';exact⟨_,es',ep',hL,r'⟩) hok hg
theorem Inv.turned{t':Nat}{it:Addr}(I:Inv X pins σ H s)(k:∀b o,b≠it->s.heap.get? b=some o->h'.get? b=some o)(hn:H it=none)(hL:it≠X.env.locals)
  (h1:it∈X.ex\/X.s₀.heap.objs.size<=it) (h2:∀x c,X.env.cells.lookup x=some c->c≠it) (h3:∀p∈X.pn++pins,p.1≠it):Inv X pins σ H { s with heap:=h',toks:=t' }:=by
 have nit:∀b u,H b=some u->b≠it:=λb u e z=>by rw[z,hn] at e; cases e
 refine I.step (g':=s.gens) (d':=s.drawn) (ch:=[it]) (λb hb=>?_) (λb o _ _ hc e _=>k b o (λz=>hc (by simp[z])) e) (λb o _ _ hc e _=>⟨o.slots,k b o (λz=>hc (by simp[z])) e⟩) (λ_ _ _ _ n=>n)
  (λb o hc e=>⟨o,k b o (λz=>hc (by simp[z])) e⟩) (λ_ _ e=>e) (λ_ _ _ e=>e) (λb ps e=>⟨#[],by rw[e]; simp⟩) (λm hm=>?_) (λb u e=>?_) I.bare
 ·have e:b=it:=by simpa using hb
  subst e;exact⟨h1,hL,h2,h3⟩
 ·obtain⟨o,es,ep,ho,r⟩:=hm
  exact⟨o,es,ep,k _ o (Gz hL) ho,r⟩
 ·refine(I.hok b u e).stay (λc v hc q=>k c v ?_ q) (λ_ q=>q) λ_ _ q=>q
  rcases hc with z | z
  ·rw[z]; exact nit b u e
  ·exact nit c _ z
theorem Inv.tok(I:Inv X pins σ H s)(t:Nat):Inv X pins σ H { s with toks:=t }:=I.un (h':=s.heap) (t':=t) Un.refl I.hok
theorem Inv.kept{t':Nat}(I:Inv X pins σ H s)(k:∀b u,s.heap.get? b=some u->h'.get? b=some u):Inv X pins σ H { s with heap:=h',toks:=t' }:=I.un (Un.kept k) (I.hok.kept k)
theorem Inv.laid{a:Addr}{o:HO}{t':Nat}(I:Inv X pins σ H s)(k:∀b u,s.heap.get? b=some u->h'.get? b=some u)(hp:s.heap.objs.size<=a)(new:cy X.prog X.w (upd H a o) h' a o) :
  Inv X pins σ (upd H a o) { s with heap:=h',toks:=t' }:=I.un (Un.laid k hp (I.hok.fresh hp)) (I.hok.laid k hp new)
theorem Inv.write{x e:Addr}{o:HO}{t':Nat}(I:Inv X pins σ H s)(mu:Di (H x))(he:e=x\/H e=some (.own x))(k:∀b u,b≠e->s.heap.get? b=some u->h'.get? b=some u)(heo:∃u,h'.get? e=some u)
  (new:cy X.prog X.w (upd H x o) h' x o):Inv X pins σ (upd H x o) { s with heap:=h',toks:=t' }:=I.un (Un.write mu he k heo) (I.hok.write mu he k heo new)
theorem Inv.r9{pins':List (Addr×Obj)}(I:Inv X pins σ H s)(h:∀p∈pins',s.heap.get? p.1=some p.2/\H p.1=none/\p.1≠X.env.locals/\p.1∉X.fs/\∀v,p.2.data≠.cell v):Inv X pins' σ H s :=
 ⟨I.ok,I.os,I.bare,I.base,I.loc,I.cell,I.free,I.freeC,λp hp=>(lM hp).elim (λz=>I.pin p (lL _ z)) (h p),I.hok,I.len⟩
theorem pB{N:List Str}(hN:N.Nodup){i j:Nat}{x:Str}(a:N[i]? = some x)(b:N[j]? = some x):i=j:=by
 obtain⟨h1,e1⟩:=EA.mp a;obtain⟨h2,e2⟩:=EA.mp b;exact(List.getElem_inj hN).mp (e1.trans e2.symm)
theorem mh{M:Model}{A:FK}{E:Value->Bi->Prop}{i:Nat}{x:Str}{v:V}{u:Value}{Q:Unit->Bi->Prop}(I:Inv X pins σ H s)(hN:X.N.Nodup)(hi:X.N[i]? = some x)(hx:Loc X.env.scope x)(r:RelV v u)
  (h:∀s',Inv X pins (σ.set i (some v)) H s'->(∃a,Gf a s.heap s'.heap/\(a=X.env.locals\/X.env.cells.lookup x=some a))->Q () s') (hf:X.fn x=true\/X.env.scope.names.lookup x=some .local:=by first | exact .inl rfl | exact .inr rfl | assumption):wpAny M A (storeName X.env x u) Q E s:=by
 obtain⟨m,hn,hl⟩:=id I.loc;have hcls:(X.env.scope.kind == .class || (X.env.scope.kind == .module && X.env.locals != X.env.globals))=false:=by rw[I.ok.kind]; rfl
 have hiσ:i<σ.length:=by rw[I.len]; exact(EA.mp hi).1
 have tN:=I.tN;have tracked:∀{a:Addr}{h':Heap},(∃o,s.heap.get? a=some o/\H a=none)->Gf a s.heap h'->iT X.prog X.w H h':=λ{a h'}ha hs b ob e=>by
  obtain⟨_,_,hfree⟩:=ha;refine(I.hok b ob e).stay (λc w' hc q=>(hs.2 c ?_).trans q) (λ_ q=>q) λ_ _ q=>q
  rintro rfl;rcases hc with rfl | hc
  ·rw[hfree] at e; cases e
  ·rw[hfree] at hc; cases hc
 rcases hx with hk | hk
 ·refine wpAny_storeName_local hk hn (λh' hn' hs=>?_) hcls
  obtain⟨oL,_,_,hoL,_⟩:=id hn;refine h _ ⟨I.ok,I.os,I.bare,⟨λb o e n hb hx=>?_,λb o e n hb hx=>?_,I.base.free,λb o e hx=>?_,I.base.tups,I.base.ef,I.base.tbls⟩,⟨_,hn',λj y v' e1 e2 e3=>?_⟩,λy c e=>?_,I.free,I.freeC,λp hp=>?_,tracked ⟨oL,hoL,I.free⟩ hs,by simpa using I.len⟩ ⟨_,hs,.inl rfl⟩
  ·exact(hs.2 b (ED (EJ (Da e) I.ok.above))).trans (I.base.keep b o e n hb hx)
  ·obtain⟨sl,e1⟩:=I.base.slot b o e n hb hx
   exact⟨sl,(hs.2 b (ED (EJ (Da e) I.ok.above))).trans e1⟩
  ·obtain⟨o',e1⟩:=I.base.there b o e hx
   exact⟨o',(hs.2 b (ED (EJ (Da e) I.ok.above))).trans e1⟩
  ·by_cases hj:j=i
   ·subst hj
    rw[hi] at e1; cases e1;rw[Ft hiσ] at e2;cases e2;exact⟨u,r,.inl ⟨hk,by simp⟩⟩
   ·rw[IW (Gz hj)] at e2
    obtain⟨u',r',q⟩:=hl j y v' e1 e2 e3;refine⟨u',r',?_⟩;rcases q with⟨k,e⟩ | ⟨k,c,e,z⟩
    ·refine .inl ⟨k,?_⟩
     have:y≠x:=λe=>hj (pB hN e1 (e▸hi))
     simp[this,e]
    ·exact .inr ⟨k,c,e,z.sameBut hs (tN y c e)⟩
  ·obtain⟨w',z⟩:=I.cell y c e
   exact⟨w',z.sameBut hs (tN y c e)⟩
  ·obtain⟨e,n,ne,nf,d⟩:=I.pin p hp
   exact⟨(hs.2 p.1 ne).trans e,n,ne,nf,d⟩
 ·have hfn:X.fn x=true:=by
   rcases hf with z | z
   ·exact z
   ·rw[z] at hk; cases hk
  obtain⟨c,hc⟩:=I.ok.has x (.inl hk);obtain⟨w',z⟩:=I.cell x c hc;refine wpAny_storeName_cell I.ok.kind hk hc z (λh' hc' hs=>?_)
  obtain⟨oc,hoc,hocd⟩:=id z;refine h { s with heap:=h' } ⟨I.ok,I.os,I.bare,⟨λb o e n hb hx=>?_,λb o e n hb hx=>?_,I.base.free,λb o e hx=>?_,I.base.tups,I.base.ef,I.base.tbls⟩,⟨m,hn.sameBut hs (Gz (tN x c hc)),λj y v' e1 e2 e3=>?_⟩,λy c' e=>?_,I.free,I.freeC,λp hp=>?_,tracked ⟨oc,hoc,I.freeC x c hc⟩ hs,by simpa using I.len⟩ ⟨c,hs,.inr hc⟩
  ·exact(hs.2 b (ED (EJ (Da e) (I.ok.cab x c hfn hc)))).trans (I.base.keep b o e n hb hx)
  ·obtain⟨sl,e1⟩:=I.base.slot b o e n hb hx
   exact⟨sl,(hs.2 b (ED (EJ (Da e) (I.ok.cab x c hfn hc)))).trans e1⟩
  ·obtain⟨o',e1⟩:=I.base.there b o e hx
   exact⟨o',(hs.2 b (ED (EJ (Da e) (I.ok.cab x c hfn hc)))).trans e1⟩
  ·by_cases hj:j=i
   ·subst hj
    rw[hi] at e1; cases e1;rw[Ft hiσ] at e2;cases e2;exact⟨u,r,.inr ⟨.inl hk,c,hc,hc'⟩⟩
   ·rw[IW (Gz hj)] at e2
    obtain⟨u',r',q⟩:=hl j y v' e1 e2 e3;refine⟨u',r',?_⟩;rcases q with q | ⟨k,c',e,z'⟩
    ·exact .inl q
    ·refine .inr ⟨k,c',e,z'.sameBut hs ?_⟩
     rintro rfl;exact hj (pB hN e1 (I.ok.inj _ _ _ e hc▸hi))
  ·by_cases hcc:c'=c
   ·subst hcc; exact⟨_,hc'⟩
   ·obtain⟨w2,z2⟩:=I.cell y c' e
    exact⟨w2,z2.sameBut hs hcc⟩
  ·obtain⟨e,n,ne,nf,d⟩:=I.pin p hp
   refine⟨(hs.2 p.1 ?_).trans e,n,ne,nf,d⟩;intro q;rw[q,hoc] at e;have q':oc=p.2:=EQ e;exact d w' (by rw[<-q']; exact hocd)
theorem dm{M:Model}{A:FK}{E:Value->Bi->Prop}{i:Nat}{x:Str}{v:V}{u:Value}{Q:Unit->Bi->Prop}(I:Inv X pins σ H s)(hN:X.N.Nodup)(hi:X.N[i]? = some x)(hx:Loc X.env.scope x)(r:RelV v u)
  (h:∀s',Inv X pins (σ.set i (some v)) H s'->Q () s') (hf:X.fn x=true\/X.env.scope.names.lookup x=some .local:=by first | exact .inl rfl | exact .inr rfl | assumption):wpAny M A (storeName X.env x u) Q E s :=
 mh I hN hi hx r (λs' I' _=>h s' I') hf
theorem Inv.call'{s':Bi}{ch:List Addr}(I:Inv X pins σ H s)(ho:s'.os=s.os)(u:Un (frs X.stack) ch H H' s.heap s'.heap)(hok:iT X.prog X.w H' s'.heap)(hg:Ic s'.gens)
  (hch:∀b∈ch,(b∈X.ex\/X.s₀.heap.objs.size<=b)/\b≠X.env.locals/\(∀x c,X.env.cells.lookup x=some c->c≠b)/\∀p∈X.pn++pins,p.1≠b):Inv X pins σ H' s':=by
 obtain⟨h',g',d',t',o'⟩:=s';have e:o'=s.os:=ho;subst e;exact I.call (g':=g') (t':=t') (d':=d') u hok hg hch
end
abbrev XK:=Value->Option Addr->Hp->Prop
abbrev St:=List (Option V)
abbrev VK:=V->Hp->Prop
abbrev TE:=St->Hp->VK->Prop
abbrev TT:=St->Hp->(Bool->Hp->Prop)->Prop
abbrev TA:=St->Hp->(List V->Hp->Prop)->Prop
structure Ends where
 nx:St->Hp->Prop
 rt:VK
 bk:St->Hp->Prop:=λ_ _=>False
 ct:St->Hp->Prop:=λ_ _=>False
abbrev TS:=Ends->St->Hp->Prop
def EP(X:Cx)(pins:List (Addr×Obj))(σ:St)(Q:VK)(u:Value)(s':Bi):Prop:=∃v H',Inv X pins σ H' s'/\RelV v u/\Q v H'
def TP(X:Cx)(pins:List (Addr×Obj))(σ:St)(Q:Bool->Hp->Prop)(b:Bool)(s':Bi):Prop:=∃H',Inv X pins σ H' s'/\Q b H'
def AP(X:Cx)(pins:List (Addr×Obj))(σ:St)(Q:List V->Hp->Prop)(us:List Value)(s':Bi):Prop:=∃vs H',Inv X pins σ H' s'/\Vals vs us/\Q vs H'
def SP(X:Cx)(pins:List (Addr×Obj))(D:Ends)(f:Flow)(s':Bi):Prop :=
 match f with
 |.next=>∃σ' H',Inv X pins σ' H' s'/\D.nx σ' H'
 |.brk=>∃σ' H',Inv X pins σ' H' s'/\D.bk σ' H'
 |.cont=>∃σ' H',Inv X pins σ' H' s'/\D.ct σ' H'
 |.ret u=>∃v σ' H',Inv X pins σ' H' s'/\RelV v u/\D.rt v H'
def PE(X:Cx)(e:Expr)(t:TE):Prop :=
 ∀(pins:List (Addr×Obj))(s:Bi)(σ:St)(H:Hp)(Q:VK),Inv X pins σ H s->t σ H Q->wpAny (model X.prog X.w) X.A (eval e X.env) (EP X pins σ Q) X.xe s
def PT(X:Cx)(e:Expr)(t:TT):Prop :=
 ∀(pins:List (Addr×Obj))(s:Bi)(σ:St)(H:Hp)(Q:Bool->Hp->Prop),Inv X pins σ H s->t σ H Q->wpAny (model X.prog X.w) X.A (KG e X.env (eval e X.env)) (TP X pins σ Q) X.xe s
def PW(X:Cx)(e:Expr)(t:TT):Prop :=
 ∀(whole:Sem Value)(pins:List (Addr×Obj))(s:Bi)(σ:St)(H:Hp)(Q:Bool->Hp->Prop),Inv X pins σ H s->t σ H Q->wpAny (model X.prog X.w) X.A (KG e X.env whole) (TP X pins σ Q) X.xe s
theorem PW.pt{X:Cx}{e:Expr}{t:TT}(h:PW X e t):PT X e t:=h _
def PA(X:Cx)(es:List Expr)(t:TA):Prop :=
 ∀(pos:Pos)(pins:List (Addr×Obj))(s:Bi)(σ:St)(H:Hp)(Q:List V->Hp->Prop),Inv X pins σ H s->t σ H Q->wpAny (model X.prog X.w) X.A (Ky (HX pos (E6 es X.env))) (AP X pins σ Q) X.xe s
def PS(X:Cx)(st:Stmt)(t:TS):Prop :=
 ∀(pins:List (Addr×Obj))(s:Bi)(σ:St)(H:Hp)(D:Ends),Inv X pins σ H s->t D σ H->wpAny (model X.prog X.w) X.A (exec st X.env) (SP X pins D) X.xe s
def qG(X:Cx)(st:List Stmt)(t:TS):Prop :=
 ∀(pins:List (Addr×Obj))(s:Bi)(σ:St)(H:Hp)(D:Ends),Inv X pins σ H s->t D σ H->wpAny (model X.prog X.w) X.A (execs st X.env) (SP X pins D) X.xe s
theorem b7{α:Type}{t:Sem α}{Q Q':α->Bi->Prop}{M:Model}{A:FK}{E:Value->Bi->Prop}{s:Bi}(h:wpAny M A t Q E s)(hQ:∀a s,Q a s->Q' a s):wpAny M A t Q' E s:=GT h hQ λ_ _ x=>x
end L2
namespace L2
open PySem PySem.Spec PyProof.Rows
section
variable{X:Cx}
theorem bin{a b:Expr}{ta tb:TE}(ha:PE X a ta)(hb:PE X b tb){pins:List (Addr×Obj)}{s:Bi}{σ:St}{H:Hp}{R:V->V->Hp->Prop}(I:Inv X pins σ H s)(h:ta σ H λx H1=>tb σ H1 λy H2=>R x y H2)
  {α:Type} {Q:α->Bi->Prop} {f:Value->Value->Sem α}
  (hf:∀v u s2 x y H2,Inv X pins σ H2 s2->RelV x v->RelV y u->R x y H2->wpAny (model X.prog X.w) X.A (f v u) Q X.xe s2) :
  wpAny (model X.prog X.w) X.A (eval a X.env) (λv s₁=>wpAny (model X.prog X.w) X.A (eval b X.env) (λu s₂=>wpAny (model X.prog X.w) X.A (f v u) Q X.xe s₂) X.xe s₁) X.xe s:=by
 refine b7 (ha pins s σ H _ I h) λv s1 ⟨x,H1,I1,r1,q1⟩=>?_
 refine b7 (hb pins s1 σ H1 _ I1 q1) λu s2 ⟨y,H2,I2,r2,q2⟩=>?_
 exact hf v u s2 x y H2 I2 r1 r2 q2
noncomputable def dZ(i:Nat):TE:=λσ H Q=>∃v,σ[i]? = some (some v)/\Q v H
noncomputable def tC(v:V):TE:=λ_ H Q=>Q v H
theorem qH{i:Nat}{x:Str}{pos:Pos}(hN:X.N[i]? = some x)(hv:A9 X.env.scope x)(hd:(x == ("__debug__" : Str))=false:=by decide)(hcd:(x == ("__classdict__" : Str))=false:=by decide):PE X (.Name x pos) (dZ i):=by
 intro pins s σ H Q I h;obtain⟨v,e,h⟩:=h;obtain⟨m,hn,hl⟩:=I.loc;obtain⟨u,r,l⟩:=hl i x v hN e hv;have fin:EP X pins σ Q u s:=⟨v,H,I,r,h⟩;rcases l with⟨hk,hm⟩ | ⟨hk,c,hc,hcell⟩
 ·exact Lk (wpAny_loadName_local I.ok.kind hk hn hm fin) hd
 ·rcases hk with hk | hk
  ·exact Lk (wpAny_loadName_cell I.ok.kind hk hc hcell fin) hd
  ·exact Lk (wpAny_loadName_free I.ok.kind hk hc hcell fin hcd) hd
theorem Ba{i j pos}:PE X (.Constant (.int i) j pos) (tC (.int i)):=λ_ _ _ H _ I h=>wpAny_Constant_int ⟨.int i,H,I.tok _,⟨_,rfl⟩,h⟩
theorem pe_bl{b j pos}:PE X (.Constant (.bool b) j pos) (tC (.bl b)):=λ_ _ _ H _ I h=>Constant_bool ⟨.bl b,H,I,rfl,h⟩
theorem Bb{j pos}:PE X (.Constant .none j pos) (tC .non):=λ_ _ _ H _ I h=>Constant_none ⟨.non,H,I,rfl,h⟩
def Gl(X:Cx)(x:Str):Prop:=X.env.kindOf x=some .globalImplicit
theorem yh{E:Value->Bi->Prop}{pins:List (Addr×Obj)}{s:Bi}{σ:St}{H:Hp}{x:Str}{u:Value}{pos:Pos}{Q:Value->Bi->Prop}(I:Inv X pins σ H s)(hg:Gl X x)(hm:X.mg x=some u)(h:Q u s)
  (hd:(x == ("__debug__" : Str))=false:=by decide):wpAny (model X.prog X.w) X.A (eval (.Name x pos) X.env) Q E s :=
 Jb I.ok.kind hg (Calls.loadGlobal_global (by rw[I.ok.glob]; exact I.mod.glob.keeps I.bk) hm h) hd
theorem eO{E:Value->Bi->Prop}{pins:List (Addr×Obj)}{s:Bi}{σ:St}{H:Hp}{x:Str}{u:Value}{pos:Pos}{Q:Value->Bi->Prop}(I:Inv X pins σ H s)(hg:Gl X x)(hm:X.mg x=none)(hv:Gk x=some u)(h:Q u s)
  (hn:x ≠ "__name__" := by decide) (hd:(x == ("__debug__" : Str))=false:=by decide):wpAny (model X.prog X.w) X.A (eval (.Name x pos) X.env) Q E s:=by
 obtain⟨mb,h1,h2⟩:=I.mod.blt;exact Jb I.ok.kind hg (Calls.loadGlobal_builtin (by rw[I.ok.glob]; exact I.mod.glob.keeps I.bk) hm (by rw[I.ok.blt]; exact h1.keeps I.bk) ((h2 x hn).trans hv) h) hd
variable{a b:Expr}{ta tb:TE}{pos:Pos}
def PC(X:Cx)(op:CmpOp)(a b:Expr)(t:TE):Prop :=
 ∀(pins:List (Addr×Obj))(s:Bi)(σ:St)(H:Hp)(Q:VK),Inv X pins σ H s->t σ H Q ->
  wpAny (model X.prog X.w) X.A (eval a X.env) (λv s₁=>wpAny (model X.prog X.w) X.A (eval b X.env) (λu s₂=>wpAny (model X.prog X.w) X.A (EW op v u) (EP X pins σ Q) X.xe s₂) X.xe s₁) X.xe s
noncomputable def tB(t:TE):TT:=λσ H Q=>t σ H λx H1=>∃c,x=.bl c/\Q c H1
theorem Bc{op:CmpOp}{t:TE}(h:PC X op a b t)(h1:FM op b=false:=by first | exact uQ _ (by decide) (by decide) | rfl):PE X (.Compare a [op] [b] pos) t:=λpins s σ H Q I hw=>wpAny_Compare1 (h pins s σ H Q I hw) h1
theorem uR{op:CmpOp}{t:TE}(h:PC X op a b t)(h1:FM op b=false:=by first | exact uQ _ (by decide) (by decide) | rfl):PT X (.Compare a [op] [b] pos) (tB t):=by
 intro pins s σ H Q I hw;refine LK (b7 (h pins s σ H _ I hw) λv s1 h1=>b7 h1 λu s2 h2=>b7 h2 λc s3 ⟨x,H1,I1,r1,q1⟩=>?_) h1
 obtain⟨d,rfl,q⟩:=q1;cases r1;exact IH ⟨H1,I1,q⟩
variable{tA tB':TT}{rest:List Expr}
noncomputable def tAnd(t u:TT):TT:=λσ H Q=>t σ H λc H1=>if c=true then u σ H1 Q else Q false H1
noncomputable def DV(t u:TT):TT:=λσ H Q=>t σ H λc H1=>if c=true then Q true H1 else u σ H1 Q
theorem yi(ha:PT X a tA):PW X (.BoolOp .And [a] pos) tA:=by
 intro wh pins s σ H Q I h;refine isTrue_and (b7 (ha pins s σ H Q I h) λc s1 e=>?_)
 cases c with
 |true=>exact isTrue_and_nil e
 |false=>exact e
theorem Bd(ha:PT X a tA):PW X (.BoolOp .Or [a] pos) tA:=by
 intro wh pins s σ H Q I h;refine isTrue_or (b7 (ha pins s σ H Q I h) λc s1 e=>?_)
 cases c with
 |false=>exact isTrue_or_nil e
 |true=>exact e
theorem Be(ha:PT X a tA)(hb:PW X (.BoolOp .And (b::rest) pos) tB'):PW X (.BoolOp .And (a::b::rest) pos) (tAnd tA tB'):=by
 intro wh pins s σ H Q I h;refine isTrue_and (b7 (ha pins s σ H _ I h) λc s1 ⟨H1,I1,q1⟩=>?_)
 cases c with
 |true=>exact hb wh pins s1 σ H1 Q I1 q1
 |false=>exact⟨H1,I1,q1⟩
theorem pw_or(ha:PT X a tA)(hb:PW X (.BoolOp .Or (b::rest) pos) tB'):PW X (.BoolOp .Or (a::b::rest) pos) (DV tA tB'):=by
 intro wh pins s σ H Q I h;refine isTrue_or (b7 (ha pins s σ H _ I h) λc s1 ⟨H1,I1,q1⟩=>?_)
 cases c with
 |true=>exact⟨H1,I1,q1⟩
 |false=>exact hb wh pins s1 σ H1 Q I1 q1
noncomputable def Ec(t:TT)(ta tb:TE):TE:=λσ H Q=>t σ H λc H1=>if c=true then ta σ H1 Q else tb σ H1 Q
theorem uS{c:Expr}(hc:PT X c tA)(ha:PE X a ta)(hb:PE X b tb):PE X (.IfExp c a b pos) (Ec tA ta tb):=by
 intro pins s σ H Q I h;refine wpAny_IfExp (b7 (hc pins s σ H _ I h) λd s1 ⟨H1,I1,q1⟩=>?_)
 cases d with
 |true=>exact ha pins s1 σ H1 Q I1 q1
 |false=>exact hb pins s1 σ H1 Q I1 q1
end
end L2
namespace L2
open PySem PySem.Spec PyProof.Rows
def fL(K:AC)(H:Hp)(a:Addr)(xs:List V):Prop :=
 Rd H a (.lst xs) \/
  ∃ (o:Obj) (its:Array Value) (n:Nat),K.lookup a=some o/\o.cls=.type "list"/\o.dict=none/\o.data=.seq its n/\its.size<=E4/\Vals xs its.toList
def dJ(K:AC)(H:Hp)(a:Addr)(xs:List V):Prop :=
 Rd H a (.tup xs) \/
  ∃ (o:Obj) (its:Array Value) (n:Nat),K.lookup a=some o/\o.cls=.type "tuple"/\o.dict=none/\o.data=.seq its n/\its.size<=E4/\Vals xs its.toList
noncomputable def absV:Value->Option V
 |.none=>some .non
 |.bool b=>some (.bl b)
 |.int i _=>some (.int i)
 |.str x _=>some (.str x)
 |.bytes b _=>some (.byt b)
 |.float b _=>some (.flt b)
 |.ref a=>some (.ref a)
 |.type n=>some (.ty n)
 |_=>none
theorem RelV.abs{x:V}{u:Value}(r:RelV x u):absV u=some x:=by
 cases x with
 |non=>cases r; rfl
 |bl _=>cases r; rfl
 |int _=>obtain⟨t,rfl⟩:=r; rfl
 |str _=>obtain⟨t,rfl⟩:=r; rfl
 |byt _=>obtain⟨t,rfl⟩:=r; rfl
 |flt _=>obtain⟨t,rfl⟩:=r; rfl
 |ref _=>cases r; rfl
 |ty _=>cases r; rfl
theorem RelV.inj{x y:V}{u:Value}(r:RelV x u)(q:RelV y u):x=y:=EQ (r.abs.symm.trans q.abs)
theorem Vals.inj:∀{xs ys:List V}{us:List Value},Vals xs us->Vals ys us->xs=ys
 |_,_,_,.nil,.nil=>rfl
 |_,_,_,.cons r t,.cons r' t'=>by rw[r.inj r',Vals.inj t t']
section
variable{X:Cx}{pins:List (Addr×Obj)}{σ:St}{H:Hp}{s:Bi}{a:Addr}{xs ys:List V}
theorem fL.of{K:AC}(h:H a=some (.lst xs)):fL K H a xs:=.inl (.inl h)
theorem dJ.of{K:AC}(h:H a=some (.tup xs)):dJ K H a xs:=.inl (.inl h)
theorem Inv.list(I:Inv X pins σ H s)(h:fL X.K H a xs):∃its:List Value,Vals xs its/\PlainL s.heap a its.toArray/\xs.length<=E4:=by
 rcases h with h | ⟨o,its,n,hk,hc,hd,hs,hz,r⟩
 ·obtain⟨z,its,n,r,e⟩:=h.ok I.hok
  exact⟨its,r,⟨_,n,e,rfl,rfl,rfl⟩,z⟩
 ·refine⟨its.toList,r,⟨o,n,I.Dz a o hk,hc,hd,by simpa using hs⟩,?_⟩
  have e:=r.length;simp only[EN] at e;lia
theorem Inv.uT(I:Inv X pins σ H s)(h:dJ X.K H a xs):∃its:List Value,Vals xs its/\fJ s.heap a its.toArray/\xs.length<=E4:=by
 rcases h with h | ⟨o,its,n,hk,hc,hd,hs,hz,r⟩
 ·obtain⟨z,its,r,p⟩:=h.ok I.hok
  exact⟨its,r,p,z⟩
 ·refine⟨its.toList,r,⟨o,I.Dz a o hk,hc,n,by simpa using hs,hd⟩,?_⟩
  have e:=r.length;simp only[EN] at e;lia
theorem Inv.tuple(I:Inv X pins σ H s)(h:dJ X.K H a xs):∃its:List Value,Vals xs its/\IsTup s.heap a its.toArray/\xs.length<=E4:=let ⟨its,r,p,z⟩:=I.uT h; ⟨its,r,p.tup,z⟩
theorem Inv.pC(I:Inv X pins σ H s)(h:fL X.K H a xs)(h':fL X.K H a ys):xs=ys:=by
 obtain⟨its,r,⟨o,n,e,_,_,d⟩,_⟩:=I.list h;obtain⟨its',r',⟨o',n',e',_,_,d'⟩,_⟩:=I.list h';rw[e] at e'; cases e';rw[d] at d'
 injection d' with d1 _
 have:its=its':=by simpa using congrArg Lz d1
 subst this;exact r.inj r'
theorem Inv.mj(I:Inv X pins σ H s)(h:dJ X.K H a xs)(h':dJ X.K H a ys):xs=ys:=by
 obtain⟨its,r,⟨o,e,_,n,d⟩,_⟩:=I.tuple h;obtain⟨its',r',⟨o',e',_,n',d'⟩,_⟩:=I.tuple h';rw[e] at e'; cases e';rw[d] at d'
 injection d' with d1 _
 have:its=its':=by simpa using congrArg Lz d1
 subst this;exact r.inj r'
end
noncomputable abbrev Cx.lJ(X:Cx)(E:Value->Bi->Prop):Cx:={ X with xe:=E }
noncomputable abbrev Cx.CT(X:Cx):Cx:=X.lJ λ_ _=>False
theorem Cx.Ok.lJ{X:Cx}(ok:X.Ok)(E:Value->Bi->Prop):(X.lJ E).Ok :=
 ⟨ok.mod,ok.kind,ok.glob,ok.blt,ok.above,ok.inj,ok.has,ok.cab,ok.hd,ok.frames,ok.stk,ok.exf,ok.bs,ok.bsz,ok.noex,ok.exfs,ok.ki,ok.frf⟩
theorem Cx.Ok.gK{X:Cx}{E:Value->Bi->Prop}(ok:(X.lJ E).Ok):X.Ok :=
 ⟨ok.mod,ok.kind,ok.glob,ok.blt,ok.above,ok.inj,ok.has,ok.cab,ok.hd,ok.frames,ok.stk,ok.exf,ok.bs,ok.bsz,ok.noex,ok.exfs,ok.ki,ok.frf⟩
section
variable{X:Cx}{pins:List (Addr×Obj)}{σ:St}{H:Hp}{s:Bi}{E:Value->Bi->Prop}
theorem Inv.lJ(I:Inv X pins σ H s)(E:Value->Bi->Prop):Inv (X.lJ E) pins σ H s:=⟨I.ok.lJ E,I.os,I.bare,I.base,I.loc,I.cell,I.free,I.freeC,I.pin,I.hok,I.len⟩
theorem Inv.gK(I:Inv (X.lJ E) pins σ H s):Inv X pins σ H s:=⟨I.ok.gK,I.os,I.bare,I.base,I.loc,I.cell,I.free,I.freeC,I.pin,I.hok,I.len⟩
theorem SP.gK{D:Ends}{f:Flow}{s':Bi}(h:SP (X.lJ E) pins D f s'):SP X pins D f s':=by
 cases f with
 |next=>obtain⟨σ',H',I,q⟩:=h; exact⟨σ',H',I.gK,q⟩
 |brk=>obtain⟨σ',H',I,q⟩:=h; exact⟨σ',H',I.gK,q⟩
 |cont=>obtain⟨σ',H',I,q⟩:=h; exact⟨σ',H',I.gK,q⟩
 |ret u=>obtain⟨v,σ',H',I,r,q⟩:=h; exact⟨v,σ',H',I.gK,r,q⟩
theorem qG.CT{st:List Stmt}{t:TS}(h:qG X.CT st t):qG X st t:=λpins s σ H D I hw=>
 GT (h pins s σ H D (I.lJ _) hw) (λ_ _ q=>q.gK) λ_ _ z=>Go z
end
section
variable{X:Cx}{st:Stmt}{rest:List Stmt}{t u:TS}{e:Expr}{te:TE}{pos:Pos}
noncomputable def Ar:TS:=λD σ H=>D.nx σ H
noncomputable def tSeq(t u:TS):TS:=λD σ H=>t { D with nx:=u D } σ H
theorem yj:qG X [] Ar:=λ_ _ σ H _ I h=>Ju ⟨σ,H,I,h⟩
theorem uU(h1:PS X st t)(h2:qG X rest u):qG X (st::rest) (tSeq t u):=by
 intro pins s σ H D I h;refine wpAny_execs_cons (b7 (h1 pins s σ H { D with nx:=u D } I h) λf s1 q=>?_)
 cases f with
 |next=>
  obtain⟨σ',H',I',q⟩:=q;exact h2 pins s1 σ' H' D I' q
 |ret v=>exact q
 |brk=>exact q
 |cont=>exact q
theorem ym(h1:PS X st t):qG X [st] t:=by
 intro pins s σ H D I h;refine wpAny_execs_cons (b7 (h1 pins s σ H D I h) λf s1 q=>?_)
 cases f with
 |next=>exact Ju q
 |ret v=>exact q
 |brk=>exact q
 |cont=>exact q
theorem Inv.quiet{pins:List (Addr×Obj)}{σ:St}{H:Hp}{s:Bi}(I:Inv X pins σ H s):interactive X.env=false:=by simp[interactive,I.ok.kind]
noncomputable def tDrop(te:TE):TS:=λD σ H=>te σ H λ_ H1=>D.nx σ H1
theorem yo(he:PE X e te)(hs:Gh e none pos.line X.env=pure false:=by rfl):PS X (.Expr e pos) (tDrop te):=by
 intro pins s σ H D I h;exact wpAny_Expr_any (b7 (he pins s σ H _ I h) λv s1 ⟨x,H1,I1,r1,q1⟩=>⟨σ,H1,I1,q1⟩) I.quiet hs
noncomputable def tRet(te:TE):TS:=λD σ H=>te σ H D.rt
theorem Bf(he:PE X e te):PS X (.Return (some e) pos) (tRet te):=by
 intro pins s σ H D I h;exact wpAny_Return_some (b7 (he pins s σ H _ I h) λv s1 ⟨x,H1,I1,r1,q1⟩=>⟨x,σ,H1,I1,r1,q1⟩)
noncomputable def tIfS(c:TT)(t u:TS):TS:=λD σ H=>c σ H λb H1=>if b=true then t D σ H1 else u D σ H1
theorem ps_if{c:Expr}{a b:List Stmt}{tc:TT}(hc:PT X c tc)(ha:qG X a t)(hb:qG X b u):PS X (.If c a b pos) (tIfS tc t u):=by
 intro pins s σ H D I h;refine wpAny_If (b7 (hc pins s σ H _ I h) λd s1 ⟨H1,I1,q1⟩=>?_)
 cases d with
 |true=>exact ha pins s1 σ H1 D I1 q1
 |false=>exact hb pins s1 σ H1 D I1 q1
end
abbrev TG:=V->St->Hp->(St->Hp->Prop)->Prop
abbrev yp:=List V->St->Hp->(St->Hp->Prop)->Prop
def PG(X:Cx)(target:Expr)(t:TG):Prop :=
 ∀(pins:List (Addr×Obj))(s:Bi)(σ:St)(H:Hp)(v:V)(u:Value)(Q:St->Hp->Prop),Inv X pins σ H s->RelV v u->t v σ H Q ->
  wpAny (model X.prog X.w) X.A (HD target X.env u) (λ_ s'=>∃σ' H',Inv X pins σ' H' s'/\Q σ' H') X.xe s
def As(X:Cx)(ts:List Expr)(t:yp):Prop :=
 ∀(pins:List (Addr×Obj))(s:Bi)(σ:St)(H:Hp)(vs:List V)(us:List Value)(Q:St->Hp->Prop),Inv X pins σ H s->Vals vs us->t vs σ H Q ->
  wpAny (model X.prog X.w) X.A (Kj ((Fa ts X.env).map (·.2)) us) (λ_ s'=>∃σ' H',Inv X pins σ' H' s'/\Q σ' H') X.xe s
abbrev TSet:=V->V->V->Hp->(Hp->Prop)->Prop
def PSet(X:Cx)(t:TSet):Prop :=
 ∀(pins:List (Addr×Obj))(s:Bi)(σ:St)(H:Hp)(o i v:V)(ov iv u:Value)(Q:Hp->Prop),Inv X pins σ H s->RelV o ov->RelV i iv->RelV v u->t o i v H Q ->
  wpAny (model X.prog X.w) X.A (setItem ov iv u) (λ_ s'=>∃H',Inv X pins σ H' s'/\Q H') X.xe s
section
variable{X:Cx}{pos:Pos}
noncomputable def uV(i:Nat):TG:=λv σ H Q=>Q (σ.set i (some v)) H
theorem yq{i:Nat}{x:Str}(hN:X.N.Nodup)(hi:X.N[i]? = some x)(hx:Loc X.env.scope x)(hf:X.fn x=true\/X.env.scope.names.lookup x=some .local:=by first | exact .inl rfl | exact .inr rfl | assumption):PG X (.Name x pos) (uV i):=by
 intro pins s σ H v u Q I r h;exact GW (dm I hN hi hx r (λs' I'=>⟨_,H,I',h⟩) hf)
noncomputable def gNil:yp:=λvs σ H Q=>vs=[]/\Q σ H
noncomputable def gCons(t:TG)(u:yp):yp:=λvs σ H Q=>∃v r,vs=v::r/\t v σ H λσ' H'=>u r σ' H' Q
theorem yr:As X [] gNil:=by
 intro pins s σ H vs us Q I r h;obtain⟨e,h⟩:=h;subst e;cases r;exact IL ⟨σ,H,I,h⟩
theorem uW{e:Expr}{es:List Expr}{t:TG}{u:yp}(h1:PG X e t)(h2:As X es u)
  (hs:(Fa (e::es) X.env).map (·.2)=HD e X.env::(Fa es X.env).map (·.2):=by rfl):As X (e::es) (gCons t u):=by
 intro pins s σ H vs us Q I r h;obtain⟨v,vr,e1,h⟩:=h;subst e1;cases r with
 |cons r rr=>
  rw[hs];refine GF (b7 (h1 pins s σ H _ _ _ I r h) λ_ s1 ⟨σ1,H1,I1,q1⟩=>?_)
  exact h2 pins s1 σ1 H1 _ _ Q I1 rr q1
noncomputable def gTup(K:AC)(n:Nat)(t:yp):TG:=λv σ H Q=>∃a xs,v=.ref a/\dJ K H a xs/\xs.length=n/\t xs σ H Q
theorem Bg{es:List Expr}{k:Nat}{t:yp}{n:Nat}(hc:X.calm=true)(h:As X es t)
  (hn:(Fa es X.env).length=n:=by rfl) (hst:(Fa es X.env).findIdx? (·.1)=none:=by rfl):PG X (.Tuple es k pos) (gTup X.K n t):=by
 intro pins s σ H v u Q I r hw;obtain⟨a,xs,e1,hq,hl,hw⟩:=hw;subst e1;cases r;obtain⟨its,rv,ht,hz⟩:=I.tuple hq;refine JF (I.ok.hd hc) ht (by simp[hn,<-hl,rv.length]) hst λh' hx=>?_
 have I1:Inv X pins σ H { s with heap:=h' }:=I.kept (t':=s.toks) λb o e=>hx b o (ED (Da e)) e
 exact h pins _ σ H xs _ Q I1 (by simpa using rv) hw
noncomputable def uX(to ti:TE)(t:TSet):TG:=λv σ H Q=>to σ H λo H1=>ti σ H1 λi H2=>t o i v H2 λH3=>Q σ H3
theorem uY{o i:Expr}{to ti:TE}{t:TSet}(ho:PE X o to)(hi:PE X i ti)(hs:PSet X t)
  (ha:∀v,HD (.Subscript o i pos) X.env v=(do
   let ov <-Hu [v] (eval o X.env)
   let iv <-Hu [v,ov] (eval i X.env)
   IY pos
   Hu [v,ov,iv] (setItem ov iv v)
   release [v,ov,iv] []):=by intro _; rfl):PG X (.Subscript o i pos) (uX to ti t):=by
 intro pins s σ H v u Q I r h;rw[ha];refine AT (FX (b7 (ho pins s σ H _ I h) λov s1 ⟨x,H1,I1,r1,q1⟩=>?_))
 refine AT (FX (b7 (hi pins s1 σ H1 _ I1 q1) λiv s2 ⟨y,H2,I2,r2,q2⟩=>?_))
 refine AT (HE (AT (FX (b7 (hs pins s2 σ H2 x y v ov iv u _ I2 r1 r2 r q2) λ_ s3 ⟨H3,I3,q3⟩=>?_))))
 exact wpAny_release ⟨σ,H3,I3,q3⟩
noncomputable def nB(te:TE)(g:TG):TS:=λD σ H=>te σ H λx H1=>g x σ H1 D.nx
theorem nC{tg e:Expr}{te:TE}{g:TG}(he:PE X e te)(hg:PG X tg g)(hs:HY [tg] e pos.line X.env=pure false:=by rfl)(hw:HZ [tg] e X.env=pure none:=by rfl)
  (h1:(Fa [tg] X.env).map (·.2)=[HD tg X.env]:=by rfl):PS X (.Assign [tg] e pos) (nB te g):=by
 intro pins s σ H D I h;refine J2 (b7 (he pins s σ H _ I h) λv s1 ⟨x,H1,I1,r1,q1⟩=>?_) hs hw
 rw[h1];exact b7 (hg pins s1 σ H1 x v _ I1 r1 q1) λ_ s2 q=>q
theorem Bh{i:Nat}{x:Str}{e:Expr}{te:TE}{pos':Pos}(hN:X.N.Nodup)(hi:X.N[i]? = some x)(hx:Loc X.env.scope x)(he:PE X e te)(hs:Gh e (some (.Name x pos')) pos.line X.env=pure false:=by rfl)(hf:X.fn x=true\/X.env.scope.names.lookup x=some .local:=by first | exact .inl rfl | exact .inr rfl | assumption) :
  PS X (.Assign [.Name x pos'] e pos) (nB te (uV i)):=by
 intro pins s σ H D I h;refine wpAny_Assign_Name (b7 (he pins s σ H _ I h) λv s1 ⟨y,H1,I1,r1,q1⟩=>?_) hs
 exact dm I1 hN hi hx r1 (λs2 I2=>⟨_,H1,I2,q1⟩) hf
noncomputable def tPar(i j:Nat)(ta:TA):TS:=λD σ H=>ta σ H λvs H1=>∃v w,vs=[v,w]/\D.nx ((σ.set i (some v)).set j (some w)) H1
theorem Bj{i j:Nat}{x y:Str}{a b:Expr}{ta:TA}{px py pt:Pos}{kt k2 pt2}(hc:X.calm=true)(hN:X.N.Nodup)(hi:X.N[i]? = some x)(hj:X.N[j]? = some y)(hij:i≠j)
  (hx:X.env.scope.names.lookup x=some .local) (hy:X.env.scope.names.lookup y=some .local) (ha:PA X [a,b] ta)
  (hw:HZ [.Tuple [.Name x px,.Name y py] kt pt] (.Tuple [a,b] k2 pt2) X.env=pure (some [x,y]))
  (hs:HY [.Tuple [.Name x px,.Name y py] kt pt] (.Tuple [a,b] k2 pt2) pos.line X.env=pure false:=by rfl) :
  PS X (.Assign [.Tuple [.Name x px,.Name y py] kt pt] (.Tuple [a,b] k2 pt2) pos) (tPar i j ta):=by
 intro pins s σ H D I h;rw[exec_Assign_arm];refine AT (HE ?_);rw[hs];refine AT (Bn ?_);rw[if_neg (by decide)]
 refine AT (Tuple_ (b7 (ha _ pins s σ H _ I h) λus s1 ⟨vs,H1,I1,r1,q1⟩=>?_))
 obtain⟨v,w,e1,q1⟩:=q1;subst e1;obtain⟨u1,u2,rfl,rv,rw'⟩:∃u1 u2,us=[u1,u2]/\RelV v u1/\RelV w u2:=by
  cases r1 with
  |cons p q=>
   cases q with
   |cons p' q' =>
    cases q';exact⟨_,_,rfl,p,p'⟩
 refine Ex ?_ (by show 2<=E4; decide)
 have I2:Inv X pins σ H1 { s1 with heap:=s1.heap.push { cls:=.type "tuple",data:=.seq [u1,u2].toArray } }:=I1.kept (t':=s1.toks) λb o e=>BM _ e
 rw[hw];refine AT (Bn ?_);show wpAny (model X.prog X.w) X.A (do rule "assign.swapped-stores"; let items <-unpackItems (.ref s1.heap.objs.size) 2 none; Kj [λv=>LV X.env y v,λv=>LV X.env x v] items.reverse; pure Flow.next) _ _ _
 refine AT (HW (AT (unpackItems_tuple (items:=#[u1,u2]) (I.ok.hd hc) (LB s1.heap _) λh' hx' =>?_)))
 have I3:=I2.kept (h':=h') (t':=s1.toks) λb o e=>hx' b o (ED (Da e)) e
 show wpAny _ _ (Kj [λv=>LV X.env y v,λv=>LV X.env x v] [u2,u1] >>= λ_=>pure Flow.next) _ _ _
 refine AT (GF (wpAny_bindName (dm I3 hN hj (.inl hy) rw' (λs2 I4=>?_) (.inr hy))))
 refine GF (wpAny_bindName (dm I4 hN hi (.inl hx) rv (λs3 I5=>IL (Bn ?_)) (.inr hx)))
 rw[List.set_comm _ _ (Gz hij)] at I5;exact⟨_,H1,I5,q1⟩
end
structure It where
 go:Nat->Hp->Prop
 yld:Nat->Hp->V->Hp->Prop
 stop:Nat->Hp->Prop
def jY(X:Cx)(pins:List (Addr×Obj))(H:Hp)(b:Addr):Prop :=
 H b=none/\b≠X.env.locals/\b∉X.fs/\(b∈X.ex\/X.s₀.heap.objs.size<=b)/\(∀x c,X.env.cells.lookup x=some c->c≠b)/\∀p∈X.pn++pins,p.1≠b
theorem Inv.tO{X:Cx}{pins:List (Addr×Obj)}{σ:St}{H H':Hp}{s:Bi}{b:Addr}(I:Inv X pins σ H s)(hb:s.heap.objs.size<=b)(hn:H' b=none):jY X pins H' b:=by
 refine⟨hn,Gw (EJ I.lt hb),I.nofs hb,.inr (FH I.sz hb),λx c e z=>?_,λp hp z=>?_⟩
 ·obtain⟨v,q⟩:=I.cell x c e
  exact absurd (EJ q.lt (by rw[z]; exact hb)) (GM _)
 ·exact absurd (EJ (Da (I.pin p hp).1) (by rw[z]; exact hb)) (GM _)
structure Turn(P:EK)(w:World)(K:AC)(tg:Expr)(J:It)(fp:List Addr)(it:Addr)(tn:Nat->Heap->Prop):Prop where
 mem:it∈fp
 obj:∀i h,tn i h->∀b∈fp,∃o,h.get? b=some o/\∀v,o.data≠.cell v
 keep:∀i h h',tn i h->(∀b∈fp,∀o,h.get? b=some o->h'.get? b=some o)->tn i h'
 item:∀(X:Cx),X.prog=P->X.w=w->X.K=K->X.calm=true->∀(i:Nat)(pins:List (Addr×Obj))(s:Bi)(σ:St)(H:Hp)(E:Value->Bi->Prop),Inv X pins σ H s->(∀b∈fp,jY X pins H b)->tn i s.heap->J.go i H ->
  wpAny (model P w) X.A (JB (.ref it)) (λr s1=>∃u,r=some u /\
   wpAny (model P w) X.A (Ie tg (.ref it) u) (λ_ s2=>∃x H',Inv X pins σ H' s2/\RelV x u/\J.yld i H x H'/\tn (i+1) s2.heap/\∀b∈fp,H' b=none) E s1) E s
 done:∀(X:Cx),X.prog=P->X.w=w->X.K=K->X.calm=true->∀(i:Nat)(pins:List (Addr×Obj))(s:Bi)(σ:St)(H:Hp)(E:Value->Bi->Prop),Inv X pins σ H s->(∀b∈fp,jY X pins H b)->tn i s.heap->J.stop i H ->
  wpAny (model P w) X.A (JB (.ref it)) (λr s1=>r=none/\Inv X pins σ H s1) E s
 self:∀(A:FK)(i:Nat)(s:Bi)(Q:Value->Bi->Prop)(E:Value->Bi->Prop),tn i s.heap->Q (.ref it) s->wpAny (model P w) A (KF (.ref it)) Q E s
abbrev TI:=St->Hp->(It->Hp->Prop)->Prop
def DW(X:Cx)(pins:List (Addr×Obj))(σ:St)(tg:Expr)(R:It->Hp->Prop)(itv:Value)(s2:Bi):Prop :=
 ∃ (it:Addr) (fp:List Addr) (tn:Nat->Heap->Prop) (J:It) (H':Hp),itv=.ref it/\Inv X pins σ H' s2/\Turn X.prog X.w X.K tg J fp it tn/\tn 0 s2.heap/\(∀b∈fp,jY X pins H' b)/\R J H'
def PI(X:Cx)(tg iter:Expr)(wi:TI):Prop :=
 ∀(pins:List (Addr×Obj))(s:Bi)(σ:St)(H:Hp)(R:It->Hp->Prop),Inv X pins σ H s->wi σ H R ->
  wpAny (model X.prog X.w) X.A (eval iter X.env) (λv s1=>wpAny (model X.prog X.w) X.A (KF v) (DW X pins σ tg R) X.xe s1) X.xe s
theorem uZ{M:Model}{A:FK}{E:Value->Bi->Prop}{s:Bi}{tg:Expr}{it:Addr}{u:Value}{o:Obj}{n:String}{vs:Array Value}{Q:Unit->Bi->Prop}(ho:s.heap.get? it=some o)(hc:o.cls=.type n)(hd:o.data=.fields vs)
    (hn:["enumerate", "zip", "dict_itemiterator", "dict_reverseitemiterator", "odict_iterator", "itertools.zip_longest", "itertools.pairwise"].contains n=false) (hQ:Q () s):wpAny M A (Ie tg (.ref it) u) Q E s:=by
  unfold Ie;cases tg <;> first
    |exact Bn hQ
    |(cases u <;> first
        |exact Bn hQ
        |(refine AT (KC ho ?_)
          rw[hc,hd];show wpAny M A (if (["enumerate", "zip", "dict_itemiterator", "dict_reverseitemiterator", "odict_iterator", "itertools.zip_longest", "itertools.pairwise"].contains n && vs[0]? == some (Ir _))=true then _ else _) Q E s
          rw[if_neg (by intro h; rw[hn,Bool.false_and] at h; cases h)]
          exact Bn hQ))
noncomputable def DA(K:AC)(a:Addr):It :=
 ⟨λi H=>∃xs x,fL K H a xs/\xs[i]? = some x,λi H x H'=>H'=H/\∀xs,fL K H a xs->xs[i]? = some x,λi H=>∃xs,fL K H a xs/\xs.length<=i⟩
noncomputable def DK(K:AC)(a:Addr):It :=
 ⟨λi H=>∃xs x,dJ K H a xs/\xs[i]? = some x,λi H x H'=>H'=H/\∀xs,dJ K H a xs->xs[i]? = some x,λi H=>∃xs,dJ K H a xs/\xs.length<=i⟩
noncomputable def Dj(lo:Int)(n:Nat):It:=⟨λi _=>i<n,λi H x H'=>H'=H/\x=.int (lo+i),λi _=>n<=i⟩
theorem tP{P:EK}{w:World}{K:AC}{tg:Expr}(a it:Addr):Turn P w K tg (DA K a) [it] it (λi h=>h.IsListIter it a i) where
 mem:=by simp
 obj:=λi h st b hb=>by
  have e:b=it:=by simpa using hb
  subst e;obtain⟨o,e,c,d⟩:=st;exact⟨o,e,λv z=>by rw[d] at z; cases z⟩
 keep:=λi h h' st k=>st.at λo e=>k it (by simp) o e
 item:=by
  intro X hP hw hK hc i pins s σ H E I hf st hg;subst hP hw hK;obtain⟨xs,x,hq,hx⟩:=hg;obtain⟨its,rv,p,hz⟩:=I.list hq;obtain⟨u,hu,ru⟩:=rv.get hx;obtain⟨f0,f1,f2,f3,f4,f5⟩:=hf it (by simp)
  refine wpAny_pyNext_list_item st p.isList (x:=u) (by simpa using hu) λh' st' sb=>?_
  have I1:Inv X pins σ H { s with heap:=h' }:=I.turned (t':=s.toks) (λb o hb e=>(sb.2 b hb).trans e) f0 f1 f3 f4 f5
  obtain⟨o,e,c,d⟩:=id st';exact⟨u,rfl,uZ (s:={ s with heap:=h' }) e c d (by decide) ⟨x,H,I1,ru,⟨rfl,λys hy=>by rw[I.pC hy hq]; exact hx⟩,st',λb hb=>(hf b hb).1⟩⟩
 done:=by
  intro X hP hw hK hc i pins s σ H E I hf st hg;subst hP hw hK;obtain⟨xs,hq,hx⟩:=hg;obtain⟨its,rv,p,hz⟩:=I.list hq;obtain⟨f0,f1,f2,f3,f4,f5⟩:=hf it (by simp)
  have hl:=rv.length;exact wpAny_pyNext_list_end (I.ok.hd hc) st p.isList (by simp; lia) λh' eb=>⟨rfl,I.turned (t':=s.toks) (λb o hb e=>eb b o hb e) f0 f1 f3 f4 f5⟩
 self:=λ_ _ _ _ _ st h=>wpAny_pyIter_listiter st h
theorem qI{P:EK}{w:World}{K:AC}{tg:Expr}(a it:Addr):Turn P w K tg (DK K a) [it] it (λi h=>h.IsTupleIter it a i) where
 mem:=by simp
 obj:=λi h st b hb=>by
  have e:b=it:=by simpa using hb
  subst e;obtain⟨o,e,c,d⟩:=st;exact⟨o,e,λv z=>by rw[d] at z; cases z⟩
 keep:=λi h h' st k=>st.at λo e=>k it (by simp) o e
 item:=by
  intro X hP hw hK hc i pins s σ H E I hf st hg;subst hP hw hK;obtain⟨xs,x,hq,hx⟩:=hg;obtain⟨its,rv,p,hz⟩:=I.tuple hq;obtain⟨u,hu,ru⟩:=rv.get hx;obtain⟨f0,f1,f2,f3,f4,f5⟩:=hf it (by simp)
  refine wpAny_pyNext_tuple_item st (show s.heap.IsTuple a its.toArray from p) (x:=u) (by simpa using hu) λh' st' sb=>?_
  have I1:Inv X pins σ H { s with heap:=h' }:=I.turned (t':=s.toks) (λb o hb e=>(sb.2 b hb).trans e) f0 f1 f3 f4 f5
  obtain⟨o,e,c,d⟩:=id st';exact⟨u,rfl,uZ (s:={ s with heap:=h' }) e c d (by decide) ⟨x,H,I1,ru,⟨rfl,λys hy=>by rw[I.mj hy hq]; exact hx⟩,st',λb hb=>(hf b hb).1⟩⟩
 done:=by
  intro X hP hw hK hc i pins s σ H E I hf st hg;subst hP hw hK;obtain⟨xs,hq,hx⟩:=hg;obtain⟨its,rv,p,hz⟩:=I.tuple hq;obtain⟨f0,f1,f2,f3,f4,f5⟩:=hf it (by simp)
  have hl:=rv.length;exact wpAny_pyNext_tuple_end (I.ok.hd hc) st (show s.heap.IsTuple a its.toArray from p) (by simp; lia) λh' eb=>⟨rfl,I.turned (t':=s.toks) (λb o hb e=>eb b o hb e) f0 f1 f3 f4 f5⟩
 self:=λ_ _ _ _ _ st h=>wpAny_pyIter_tupleiter st h
theorem qJ{P:EK}{w:World}{K:AC}{tg:Expr}(it:Addr)(lo:Int)(n:Nat):Turn P w K tg (Dj lo n) [it] it (λi h=>IsRangeIter h it (lo+(i:Nat)*1) ((n:Int)-(i:Nat)) 1) where
 mem:=by simp
 obj:=λi h st b hb=>by
  have e:b=it:=by simpa using hb
  subst e;exact⟨_,st,λv z=>by
   have z':Data.fields _=Data.cell v:=z;cases z'⟩
 keep:=λi h h' st k=>k it (by simp) _ st
 item:=by
  intro X hP hw hK hc i pins s σ H E I hf st hg;subst hP hw hK;obtain⟨f0,f1,f2,f3,f4,f5⟩:=hf it (by simp)
  have W:=Walks.range (prog:=X.prog) (w:=X.w) (I.ok.hd hc) it lo 1 n;refine W.item i s _ _ hg st λv h' tk hv st' kk=>?_
  obtain⟨t,rfl⟩:=hv;have I1:Inv X pins σ H { s with heap:=h',toks:=tk }:=I.turned (λb o hb e=>kk b o (by simpa using hb) e) f0 f1 f3 f4 f5
  refine⟨_,rfl,uZ (s:={ s with heap:=h',toks:=tk }) (n := "range_iterator") st' rfl rfl (by decide) ⟨.int (lo+i),H,I1,⟨t,?_⟩,⟨rfl,rfl⟩,st',λb hb=>(hf b hb).1⟩⟩
  rw[Int.mul_one]
 done:=by
  intro X hP hw hK hc i pins s σ H E I hf st hg;subst hP hw hK;obtain⟨f0,f1,f2,f3,f4,f5⟩:=hf it (by simp)
  exact wpAny_pyNext_range_end (I.ok.hd hc) st (by have:n<=i:=hg; lia) λh' eb=>⟨rfl,I.turned (t':=s.toks) (λb o hb e=>eb b o hb e) f0 f1 f3 f4 f5⟩
 self:=λ_ _ _ _ _ st h=>wpAny_pyIter_rangeiter st h
end L2
namespace L2
open PySem PySem.Spec PyProof.Rows
section
variable{X:Cx}{tg:Expr}
noncomputable def u7(K:AC)(tl:TE):TI:=λσ H R=>tl σ H λx H1=>∃a,x=.ref a/\(∃xs,fL K H1 a xs)/\R (DA K a) H1
noncomputable def iTup(K:AC)(tl:TE):TI:=λσ H R=>tl σ H λx H1=>∃a,x=.ref a/\(∃xs,dJ K H1 a xs)/\R (DK K a) H1
theorem se{l:Expr}{tl:TE}(hl:PE X l tl):PI X tg l (u7 X.K tl):=by
 intro pins s σ H R I h;refine b7 (hl pins s σ H _ I h) λv s1 ⟨x,H1,I1,r1,q1⟩=>?_
 obtain⟨a,e,⟨xs,hq⟩,q⟩:=q1;subst e;cases r1;obtain⟨its,rv,p,hz⟩:=I1.list hq;refine JN p.isList ?_;refine⟨s1.heap.objs.size,[s1.heap.objs.size],_,_,H1,rfl,I1.kept (t':=s1.toks) λb o e=>BM _ e,tP a _,⟨_,Dx _ rfl,rfl,rfl⟩,λb hb=>?_,q⟩
 have e:b=s1.heap.objs.size:=by simpa using hb
 subst e;exact I1.tO (Db _) (I1.hok.fresh (Db _))
theorem Bl{l:Expr}{tl:TE}(hl:PE X l tl):PI X tg l (iTup X.K tl):=by
 intro pins s σ H R I h;refine b7 (hl pins s σ H _ I h) λv s1 ⟨x,H1,I1,r1,q1⟩=>?_
 obtain⟨a,e,⟨xs,hq⟩,q⟩:=q1;subst e;cases r1;obtain⟨its,rv,p,hz⟩:=I1.tuple hq;refine JA (show s1.heap.IsTuple a its.toArray from p) ?_
 refine⟨s1.heap.objs.size,[s1.heap.objs.size],_,_,H1,rfl,I1.kept (t':=s1.toks) λb o e=>BM _ e,qI a _,⟨_,Dx _ rfl,rfl,rfl⟩,λb hb=>?_,q⟩
 have e:b=s1.heap.objs.size:=by simpa using hb
 subst e;exact I1.tO (Db _) (I1.hok.fresh (Db _))
theorem pF{pins:List (Addr×Obj)}{σ:St}{H:Hp}{s:Bi}{R:It->Hp->Prop}{E:Value->Bi->Prop}{lo hi:Int}{t u v:Tok}{tk:Nat}(I:Inv X pins σ H s)(h1 : -(2 ^ 62)<=lo)(h2:lo<2 ^ 62)(h3 : -(2 ^ 62)<=hi)(h4:hi<2 ^ 62)
  (q:R (Dj lo (hi-lo).toNat) H):wpAny (model X.prog X.w) X.A (KF (.ref s.heap.objs.size)) (DW X pins σ tg R) E { s with heap:=s.heap.push { cls:=.type "range",data:=.fields #[.int lo t,.int hi u,.int 1 v] },toks:=tk }:=by
 refine wpAny_pyIter_range (Jx ..) (small_one h1 h2 h3 h4) ?_;have I1:Inv X pins σ H { s with heap:=s.heap.push { cls:=.type "range",data:=.fields #[.int lo t,.int hi u,.int 1 v] },toks:=tk }:=I.kept λb o e=>BM _ e
 refine⟨(s.heap.push { cls:=.type "range",data:=.fields #[.int lo t,.int hi u,.int 1 v] }).objs.size,[(s.heap.push { cls:=.type "range",data:=.fields #[.int lo t,.int hi u,.int 1 v] }).objs.size],_,_,H,rfl,
  I1.kept (t':=tk) λb o e=>BM _ e,qJ _ lo (hi-lo).toNat,?_,λb hb=>?_,q⟩
 ·have e1:lo+((0:Nat):Int)*1=lo:=by simp
  have e2:(((hi-lo).toNat:Nat):Int)-((0:Nat):Int)=Gq lo hi 1:=by rw[Kg]; split <;> lia
  show IsRangeIter _ _ (lo+((0:Nat):Int)*1) ((((hi-lo).toNat:Nat):Int)-((0:Nat):Int)) 1;rw[e1,e2];exact Dx _ rfl
 ·have e:b=(s.heap.push { cls:=.type "range",data:=.fields #[.int lo t,.int hi u,.int 1 v] }).objs.size:=by simpa using hb
  subst e;exact I1.tO (Db _) (I1.hok.fresh (Db _))
noncomputable def iRng1(ta:TA):TI:=λσ H R=>ta σ H λvs H1=>∃j:Int,vs=[.int j]/\-(2 ^ 62)<=j/\j<2 ^ 62/\R (Dj 0 j.toNat) H1
noncomputable def iRng2(ta:TA):TI:=λσ H R=>ta σ H λvs H1=>∃i j:Int,vs=[.int i,.int j]/\(-(2 ^ 62)<=i/\i<2 ^ 62/\-(2 ^ 62)<=j/\j<2 ^ 62)/\R (Dj i (j-i).toNat) H1
theorem tQ{a:Expr}{ta:TA}{p pos:Pos}(hg:Gl X "range")(hm:X.mg "range" = none)(ha:PA X [a] ta)(hs:E6 [a] X.env=[(false,eval a X.env)]:=by rfl):PI X tg (.Call (.Name "range" p) [a] [] pos) (iRng1 ta):=by
 intro pins s σ H R I h;refine Call_ (eO I hg hm Hx (ET (b7 (ha pos pins s σ H _ I h) λus s1 ⟨vs,H1,I1,r1,q1⟩=>?_) hs rfl))
 obtain⟨j,e,q1,q2,q⟩:=q1;subst e;cases r1 with
 |cons r rr=>
  cases rr;obtain⟨t,rfl⟩:=r;exact call_range_1 (pF I1 (by lia) (by lia) q1 q2 (by simpa using q))
theorem tR{a b:Expr}{ta:TA}{p pos:Pos}(hg:Gl X "range")(hm:X.mg "range" = none)(ha:PA X [a,b] ta)(hs:E6 [a,b] X.env=[(false,eval a X.env),(false,eval b X.env)]:=by rfl)(hs2:E6 [b] X.env=[(false,eval b X.env)]:=by rfl) :
  PI X tg (.Call (.Name "range" p) [a,b] [] pos) (iRng2 ta):=by
 intro pins s σ H R I h;refine Call_ (eO I hg hm Hx (ET (b7 (ha pos pins s σ H _ I h) λus s1 ⟨vs,H1,I1,r1,q1⟩=>?_) (by rw[hs,hs2]) (by rw[hs2]; rfl)))
 obtain⟨i,j,e,⟨q1,q2,q3,q4⟩,q⟩:=q1;subst e;cases r1 with
 |cons r rr=>
  cases rr with
  |cons r' rr=>
   cases rr;obtain⟨t,rfl⟩:=r;obtain⟨t',rfl⟩:=r';exact call_range_2 (pF I1 q1 q2 q3 q4 q)
noncomputable def tFor(wi:TI)(g:TG)(tb:TS):TS:=λD σ H=>wi σ H λJ H1=>∃W:Nat->Nat->St->Hp->Prop,(∃m,W 0 m σ H1)/\∀i m σ H,W i m σ H ->
 (J.stop i H/\D.nx σ H)\/(J.go i H/\∃N:St->Hp->Prop,(∀σ' H',N σ' H'->∃m',m'<m/\W (i+1) m' σ' H')/\∀x H',J.yld i H x H'->g x σ H' λσ2 H2=>tb { D with nx:=N,ct:=N,bk:=D.nx } σ2 H2)
noncomputable def kj(fp:List Addr)(h:Heap):List (Addr×Obj):=fp.filterMap λb=>(h.get? b).map λo=>(b,o)
theorem gh{fp:List Addr}{h:Heap}{b:Addr}{o:Obj}(hb:b∈fp)(e:h.get? b=some o):(b,o)∈kj fp h:=Ip.mpr ⟨b,hb,by rw[e]; rfl⟩
theorem tS{fp:List Addr}{h:Heap}{p:Addr×Obj}(hp:p∈kj fp h):p.1∈fp/\h.get? p.1=some p.2:=by
 obtain⟨b,hb,e⟩:=Ip.mp hp;cases q:h.get? b with
 |none=>rw[q] at e; cases e
 |some o=>
  rw[q] at e;have e':(b,o)=p:=EQ e;subst e';exact⟨hb,q⟩
theorem Inv.pinned{pins:List (Addr×Obj)}{σ:St}{H:Hp}{s:Bi}{fp:List Addr}(I:Inv X pins σ H s)(hf:∀b∈fp,jY X pins H b)(ho:∀b∈fp,∃o,s.heap.get? b=some o/\∀v,o.data≠.cell v):Inv X (pins++kj fp s.heap) σ H s :=
 I.r9 λp hp=>(lM hp).elim (λz=>I.pin p (lR _ z)) λz=>by
  obtain⟨hb,e⟩:=tS z;obtain⟨f0,f1,f2,_⟩:=hf p.1 hb;obtain⟨o,e',d⟩:=ho p.1 hb;rw[e] at e'; cases e';exact⟨e,f0,f1,f2,d⟩
theorem Inv.jb{pins pl:List (Addr×Obj)}{σ:St}{H:Hp}{s:Bi}(I:Inv X (pins++pl) σ H s):Inv X pins σ H s:=I.r9 λp hp=>I.pin p (lR _ (lL _ hp))
theorem Bm{iter:Expr}{body:List Stmt}{wi:TI}{g:TG}{tb:TS}{pos:Pos}(hp:PassesOwn (model X.prog X.w) X.A X.env X.xe)(hc:X.calm=true)(hi:PI X tg iter wi)(hg:PG X tg g)(hb:qG X body tb)
  (hs:∀x,Ey iter X.env x=pure x:=by intro _; rfl):PS X (.For tg iter body [] pos) (tFor wi g tb):=by
 intro pins s σ H D I h;refine wpAny_For (b7 (hi pins s σ H _ I h) λv s1 h1=>b7 h1 λitv s2 h2=>?_) hs
 obtain⟨it,fp,tn,J,H2,e,I2,T,st2,f2,W,⟨m0,w0⟩,turn⟩:=h2;subst e;have stat:∀{H':Hp},(∀b∈fp,H' b=none)->∀b∈fp,jY X pins H' b:=λhn b hb=>⟨hn b hb,(f2 b hb).2⟩
 refine codeAny_forLoop_any (λn s'=>∃i σ' H',Inv X pins σ' H' s'/\tn i s'.heap/\(∀b∈fp,H' b=none)/\W i n σ' H') ?_ m0 ⟨0,σ,H2,I2,st2,λb hb=>(f2 b hb).1,w0⟩
 rintro n s3 ⟨i,σ3,H3,I3,st3,fr3,w3⟩;rcases turn i n σ3 H3 w3 with⟨stop,qn⟩ | ⟨go,N,hN,step⟩
 ·refine Hl hp (b7 (T.done X rfl rfl rfl hc i pins s3 σ3 H3 X.xe I3 (stat fr3) st3 stop) λr s4 ⟨hr,I4⟩=>?_)
  subst hr;exact Ju ⟨σ3,H3,I4,qn⟩
 ·refine Hl hp (b7 (T.item X rfl rfl rfl hc i pins s3 σ3 H3 X.xe I3 (stat fr3) st3 go) λr s4 ⟨u,hr,h4⟩=>?_)
  subst hr;refine Hl hp (b7 h4 λ_ s5 ⟨x,H5,I5,r5,y5,st5,fr5⟩=>?_)
  have I5':=I5.pinned (stat fr5) (T.obj _ _ st5);refine Hl hp (b7 (hg _ s5 σ3 H5 x u _ I5' r5 (step x H5 y5)) λ_ s6 ⟨σ6,H6,I6,q6⟩=>?_)
  refine Hl hp (b7 (hb _ s6 σ6 H6 _ I6 q6) λf s7 q7=>?_)
  have again:∀{σ7:St}{H7:Hp},Inv X (pins++kj fp s5.heap) σ7 H7 s7->N σ7 H7->∃m,m<n/\∃i σ' H',Inv X pins σ' H' s7/\tn i s7.heap/\(∀b∈fp,H' b=none)/\W i m σ' H':=λ{σ7 H7}I7 n7=>by
   obtain⟨m',hm,w7⟩:=hN σ7 H7 n7;refine⟨m',hm,i+1,σ7,H7,I7.jb,T.keep _ _ _ st5 λb hb o e=>(I7.pin (b,o) (lR _ (lR _ (gh hb e)))).1,λb hb=>?_,w7⟩
   obtain⟨o,e,d⟩:=T.obj _ _ st5 b hb;exact(I7.pin (b,o) (lR _ (lR _ (gh hb e)))).2.1
  cases f with
  |next=>obtain⟨σ7,H7,I7,n7⟩:=q7; exact again I7 n7
  |cont=>obtain⟨σ7,H7,I7,n7⟩:=q7; exact again I7 n7
  |brk=>obtain⟨σ7,H7,I7,q7⟩:=q7; exact⟨σ7,H7,I7.jb,q7⟩
  |ret v=>obtain⟨x7,σ7,H7,I7,r7,q7⟩:=q7; exact⟨x7,σ7,H7,I7.jb,r7,q7⟩
end
end L2
namespace L2
open PySem PySem.Spec PyProof.Rows
abbrev R2:=V->V->Hp->VK->Prop
def dY(X:Cx)(f:Value->Value->Sem Value)(r:R2):Prop :=
 ∀(pins:List (Addr×Obj))(s:Bi)(σ:St)(H:Hp)(x y:V)(v u:Value)(Q:VK),Inv X pins σ H s->RelV x v->RelV y u->r x y H Q ->
  wpAny (model X.prog X.w) X.A (f v u) (EP X pins σ Q) X.xe s
def aZ(X:Cx)(f:Value)(r:List V->Hp->VK->Prop):Prop :=
 ∀(pins:List (Addr×Obj))(s:Bi)(σ:St)(H:Hp)(xs:List V)(us:List Value)(Q:VK),Inv X pins σ H s->Vals xs us->r xs H Q ->
  wpAny (model X.prog X.w) X.A (call f us) (EP X pins σ Q) X.xe s
def TruR(X:Cx)(r:V->Hp->(Bool->Hp->Prop)->Prop):Prop :=
 ∀(pins:List (Addr×Obj))(s:Bi)(σ:St)(H:Hp)(x:V)(v:Value)(Q:Bool->Hp->Prop),Inv X pins σ H s->RelV x v->r x H Q ->
  wpAny (model X.prog X.w) X.A (truthy v) (TP X pins σ Q) X.xe s
noncomputable def Au(r:R2)(ta tb:TE):TE:=λσ H Q=>ta σ H λx H1=>tb σ H1 λy H2=>r x y H2 Q
noncomputable def rI(C:Int->Int->Prop)(g:Int->Int->V):R2:=λx y H Q=>∃i j,x=.int i/\y=.int j/\C i j/\Q (g i j) H
noncomputable def Av(g:Int->Int->V):R2:=λx y H Q=>∃i j,x=.int i/\y=.int j/\Q (g i j) H
section
variable{X:Cx}{a b c:Expr}{ta tb tc:TE}{pos:Pos}
theorem binT(ha:PE X a ta)(hb:PE X b tb){pins:List (Addr×Obj)}{s:Bi}{σ:St}{H:Hp}{R:V->V->Hp->Prop}(I:Inv X pins σ H s)
  (h:ta σ H λx H1=>tb σ H1 λy H2=>R x y H2) {Q:Value->Bi->Prop} {f:Value->Value->Sem Value}
  (hf:∀v u s2 x y H2,Inv X pins σ H2 s2->RelV x v->RelV y u->R x y H2->wpAny (model X.prog X.w) X.A (f v u) Q X.xe s2) :
  wpAny (model X.prog X.w) X.A (eval a X.env) (λv s₁=>wpAny (model X.prog X.w) X.A (eval b X.env) (λu s₂=>wpAny (model X.prog X.w) X.A (f v u) Q X.xe s₂) X.xe s₁) X.xe s:=by
 refine b7 (ha pins s σ H _ I h) λv s1 ⟨x,H1,I1,r1,q1⟩=>?_
 refine b7 (hb pins s1 σ H1 _ I1 q1) λu s2 ⟨y,H2,I2,r2,q2⟩=>?_
 exact hf v u s2 x y H2 I2 r1 r2 q2
theorem pe_op{op:Operator}{r:R2}(ho:dY X (Fq op) r)(ha:PE X a ta)(hb:PE X b tb):PE X (.BinOp a op b pos) (Au r ta tb):=by
 intro pins s σ H Q I h;exact wpAny_BinOp (binT ha hb I h λv u s2 x y H2 I2 rx ry q=>ho pins s2 σ H2 x y v u Q I2 rx ry q)
theorem Dk{f:Value->Value->Sem Value}{C:Int->Int->Prop}{g:Int->Int->Int}
  (rule:∀(i j:Int)(t u:Tok)(s:Bi)(Q:Value->Bi->Prop)(E:Value->Bi->Prop),C i j->Q (.int (g i j) s.toks) { s with toks:=s.toks+1 }->wpAny (model X.prog X.w) X.A (f (.int i t) (.int j u)) Q E s) :
  dY X f (rI C λi j=>.int (g i j)):=by
 intro pins s σ H x y v u Q I rx ry h;obtain⟨i,j,rfl,rfl,hc,q⟩:=h;obtain⟨t,rfl⟩:=rx;obtain⟨t',rfl⟩:=ry;exact rule i j t t' s _ _ hc ⟨.int (g i j),H,I.tok _,⟨_,rfl⟩,q⟩
theorem opI0{f:Value->Value->Sem Value}{g:Int->Int->Int}
  (rule:∀(i j:Int)(t u:Tok)(s:Bi)(Q:Value->Bi->Prop)(E:Value->Bi->Prop),Q (.int (g i j) s.toks) { s with toks:=s.toks+1 }->wpAny (model X.prog X.w) X.A (f (.int i t) (.int j u)) Q E s) :
  dY X f (Av λi j=>.int (g i j)):=by
 intro pins s σ H x y v u Q I rx ry h;obtain⟨i,j,rfl,rfl,q⟩:=h;obtain⟨t,rfl⟩:=rx;obtain⟨t',rfl⟩:=ry;exact rule i j t t' s _ _ ⟨.int (g i j),H,I.tok _,⟨_,rfl⟩,q⟩
theorem opB0{f:Value->Value->Sem Value}{g:Int->Int->Bool}
  (rule:∀(i j:Int)(t u:Tok)(s:Bi)(Q:Value->Bi->Prop)(E:Value->Bi->Prop),Q (.bool (g i j)) s->wpAny (model X.prog X.w) X.A (f (.int i t) (.int j u)) Q E s) :
  dY X f (Av λi j=>.bl (g i j)):=by
 intro pins s σ H x y v u Q I rx ry h;obtain⟨i,j,rfl,rfl,q⟩:=h;obtain⟨t,rfl⟩:=rx;obtain⟨t',rfl⟩:=ry;exact rule i j t t' s _ _ ⟨.bl (g i j),H,I,rfl,q⟩
def CDiv(i j:Int):Prop:=0<j/\j<1073741824
def CMul(i j:Int):Prop:=(-(2 ^ 64)<i/\i<2 ^ 64)\/(-(2 ^ 64)<j/\j<2 ^ 64)
theorem CMul.ok{i j:Int}(h:CMul i j):IntMulOk i j:=by
 rcases h with⟨h1,h2⟩ | ⟨h1,h2⟩
 ·exact .of_left (intBits_le_64 h1 h2)
 ·exact .of_right (intBits_le_64 h1 h2)
theorem Bo:dY X (Fq .Add) (Av λi j=>.int (i+j)):=opI0 λ_ _ _ _ _ _ _ q=>add_int q
theorem Bp:dY X (Fq .Sub) (Av λi j=>.int (i-j)):=opI0 λ_ _ _ _ _ _ _ q=>sub_int q
theorem Bq:dY X (Fq .Mult) (rI CMul λi j=>.int (i*j)):=Dk λ_ _ _ _ _ _ _ hc q=>mul_int q hc.ok
theorem yt:dY X (Fq .FloorDiv) (rI CDiv λi j=>.int (i / j)):=Dk λi j _ _ _ _ _ hc q=>by
 have h1:(0:Int)<j:=hc.1;have h2:j<1073741824:=hc.2;exact floordiv_int (by lia) (by rw[Int.fdiv_eq_ediv_of_nonneg i (by lia)]; exact q) (.inl (PyProof.noPylong_small (by lia)))
theorem Br:dY X (Fq .Mod) (rI (λ_ j=>0<j) λi j=>.int (i % j)):=Dk λi j _ _ _ _ _ hc q=>by
 have h1:(0:Int)<j:=hc;exact mod_int' (by lia) (by rw[Int.fmod_eq_emod_of_nonneg i (by lia)]; exact q)
end
section
variable{X:Cx}{a b c:Expr}{ta tb tc:TE}{pos:Pos}
theorem qK{pins:List (Addr×Obj)}{σ:St}{H:Hp}{s:Bi}{Q:VK}{k k':Bool}(I:Inv X pins σ H s)(q:Q (.bl k) H)(e:k=k'):EP X pins σ Q (.bool k') s:=by
 subst e;exact⟨.bl k,H,I,rfl,q⟩
theorem op_lt:dY X (EW .Lt) (Av λi j=>.bl (decide (i<j))):=opB0 λ_ _ _ _ _ _ _ q=>Kt q
theorem op_gt:dY X (EW .Gt) (Av λi j=>.bl (decide (j<i))):=opB0 λ_ _ _ _ _ _ _ q=>gt_int q
theorem op_ge:dY X (EW .GtE) (Av λi j=>.bl (decide (j<=i))):=opB0 λ_ _ _ _ _ _ _ q=>Ld q
theorem mq:dY X (EW .In) (λx y H Q=>∃i j,x=.str i/\y=.str j/\Q (.bl (!(GA j i 0 j.length 1).isEmpty)) H):=by
 intro pins s σ H x y v u Q I rx ry h;obtain⟨i,j,rfl,rfl,q⟩:=h;obtain⟨t,rfl⟩:=rx;obtain⟨t',rfl⟩:=ry;exact in_str (qK I q rfl)
theorem yu:dY X (EW .IsNot) (λx y H Q=>y=.non/\Q (.bl (!decide (x=.non))) H):=by
 intro pins s σ H x y v u Q I rx ry h;obtain⟨rfl,q⟩:=h;cases ry;refine isnot_none_gen (qK I q ?_);cases x <;> first
  |(cases rx; rfl)
  |(obtain⟨t,rfl⟩:=rx; rfl)
theorem nD:dY X (EW .NotIn) (λx y H Q=>∃i j,x=.str i/\y=.str j/\Q (.bl (!(!(GA j i 0 j.length 1).isEmpty))) H):=by
 intro pins s σ H x y v u Q I rx ry h;obtain⟨i,j,rfl,rfl,q⟩:=h;obtain⟨t,rfl⟩:=rx;obtain⟨t',rfl⟩:=ry;exact notIn_str (qK I q rfl)
theorem bw(b:Expr){op:CmpOp}(h:op≠.In:=by decide)(h2:op≠.NotIn:=by decide):FM op b=false:=by
 have e1:(op == CmpOp.In)=false:=by cases op <;> first | rfl | exact absurd rfl h
 have e2:(op == CmpOp.NotIn)=false:=by cases op <;> first | rfl | exact absurd rfl h2
 cases b <;> simp[FM,e1,e2]
theorem nE{op:CmpOp}{r:R2}(ho:dY X (EW op) r)(ha:PE X a ta)(hb:PE X b tb)(hm:FM op b=false):PE X (.Compare a [op] [b] pos) (Au r ta tb):=by
 intro pins s σ H Q I h;exact wpAny_Compare1 (binT ha hb I h λv u s2 x y H2 I2 rx ry q=>ho pins s2 σ H2 x y v u Q I2 rx ry q) hm
noncomputable def tTest(t:TE):TT:=λσ H Q=>t σ H λx H'=>∃k,x=.bl k/\Q k H'
theorem jc{op:CmpOp}{r:R2}(ho:dY X (EW op) r)(ha:PE X a ta)(hb:PE X b tb)(hm:FM op b=false):PT X (.Compare a [op] [b] pos) (tTest (Au r ta tb)):=by
 intro pins s σ H Q I h;refine LK (b7 (ha pins s σ H _ I h) λv s1 ⟨x,H1,I1,r1,q1⟩=>b7 (hb pins s1 σ H1 _ I1 q1) λu s2 ⟨y,H2,I2,r2,q2⟩=>
  b7 (ho pins s2 σ H2 x y v u _ I2 r1 r2 q2) λc s3 ⟨z,H3,I3,r3,k,e,q3⟩=>?_) hm
 subst e;cases r3;exact IH ⟨H3,I3,q3⟩
def TruV(K:AC)(x:V)(H:Hp)(k:Bool):Prop :=
 match x with
 |.non=>k=false
 |.bl b=>k=b
 |.int i=>k=(i != 0)
 |.str y=>y.length<=E4/\k=((y.length:Int) != 0)
 |.byt y=>y.size<=E4/\k=((y.size:Int) != 0)
 |.ref p=>(∃xs,fL K H p xs/\k = !xs.isEmpty)\/(∃xs,dJ K H p xs/\k = !xs.isEmpty)\/∃kvs,H p=some (.dK kvs)/\k = !kvs.isEmpty
 |_=>False
theorem qL{κ:Type}{kvs:List (κ×V)}{vs:List (κ×Value)}(r:KV kvs vs):(!vs.isEmpty) = !kvs.isEmpty:=by
 cases r <;> rfl
theorem ko{xs:List V}{its:List Value}(r:Vals xs its):(!its.toArray.isEmpty) = !xs.isEmpty:=by
 cases r <;> simp
theorem iU:(E4:Nat)<2 ^ 63:=by rw[FN]; decide
theorem Bs:TruR X (λx H Q=>∃k,TruV X.K x H k/\Q k H):=by
 intro pins s σ H x v Q I rx h;obtain⟨k,e,q⟩:=h;have hl:=iU;have hs:E4=16777216:=FN;cases x with
 |non=>
  cases rx;have e':k=false:=e;subst e';exact truthy_none ⟨H,I,q⟩
 |bl b=>
  cases rx;have e':k=b:=e;subst e';exact IH ⟨H,I,q⟩
 |int i=>
  obtain⟨t,rfl⟩:=rx;have e':k=(i != 0):=e;subst e';exact PySem.P.truthy_int ⟨H,I,q⟩
 |str y=>
  obtain⟨t,rfl⟩:=rx;obtain⟨hy,e'⟩:y.length<=E4/\k=((y.length:Int) != 0):=e;subst e';exact PySem.P.truthy_str (by lia) ⟨H,I.tok _,q⟩
 |byt y=>
  obtain⟨t,rfl⟩:=rx;obtain⟨hy,e'⟩:y.size<=E4/\k=((y.size:Int) != 0):=e;subst e';exact PySem.W.truthy_bytes (by lia) ⟨H,I.tok _,q⟩
 |ref p=>
  cases rx;have e':(∃xs,fL X.K H p xs/\k = !xs.isEmpty)\/(∃xs,dJ X.K H p xs/\k = !xs.isEmpty)\/∃kvs,H p=some (.dK kvs)/\k = !kvs.isEmpty:=e;rcases e' with⟨xs,hx,e'⟩ | ⟨xs,hx,e'⟩ | ⟨kvs,hx,e'⟩
  ·subst e'
   obtain⟨its,r,pl,hz⟩:=I.list hx;have hlen:=r.length;exact wpAny_truthy_list pl.isList (by simp only[Bz]; lia) ⟨H,I.tok _,by rw[ko r]; exact q⟩
  ·subst e'
   obtain⟨its,r,pl,hz⟩:=I.tuple hx;have hlen:=r.length;exact truthy_tuple pl (by simp only[Bz]; lia) ⟨H,I.tok _,by rw[ko r]; exact q⟩
  ·subst e'
   obtain⟨hz,hS,vs,r,m⟩:kvs.length<=E4/\(p == GL)=false/\∃vs,KV kvs vs/\s.heap.DictOf (aJ X.prog X.w) p vs:=I.hok p _ hx;have hlen:kvs.length=vs.length:=GJ r;exact wpAny_truthy_dict hS m (by lia) ⟨H,I.tok _,by rw[qL r]; exact q⟩
 |_=>exact(show False from e).elim
theorem u9(ha:PE X a ta)(he:∀whole,KG a X.env whole=(do let v <-whole; IY a.pos; Hu [v] (truthy v))) :
  PT X a (λσ H Q=>ta σ H λx H'=>∃k,TruV X.K x H' k/\Q k H'):=by
 intro pins s σ H Q I h;exact isTrue_plain (b7 (ha pins s σ H _ I h) λv s1 ⟨x,H1,I1,r1,q1⟩=>Bs pins s1 σ H1 x v Q I1 r1 q1) (he _)
theorem qM:dY X (Fq .Add) (λx y H Q=>∃i j,x=.str i/\y=.str j/\i.length+j.length<=E4/\Q (.str (i++j)) H):=by
 intro pins s σ H x y v u Q I rx ry h;obtain⟨i,j,rfl,rfl,hz,q⟩:=h;obtain⟨t,rfl⟩:=rx;obtain⟨t',rfl⟩:=ry;exact add_str (λt' tk=>⟨.str (i++j),H,I.tok _,⟨_,rfl⟩,q⟩) hz
theorem vals1{x:V}{us:List Value}(r:Vals [x] us):∃u,us=[u]/\RelV x u:=by
 cases r with
 |cons r1 r2=>cases r2; exact⟨_,rfl,r1⟩
theorem vals2{x y:V}{us:List Value}(r:Vals [x,y] us):∃u w',us=[u,w']/\RelV x u/\RelV y w':=by
 cases r with
 |cons r1 r2=>
  cases r2 with
  |cons r3 r4=>cases r4; exact⟨_,_,rfl,r1,r3⟩
theorem tU(hc:X.calm=true):aZ X (.builtin "max") (λxs H Q=>∃i j,xs=[.int i,.int j]/\Q (.int (if j>i then j else i)) H):=by
 intro pins s σ H xs us Q I r h;obtain⟨i,j,rfl,q⟩:=h;obtain⟨u,w',rfl,⟨t,rfl⟩,⟨t',rfl⟩⟩:=vals2 r;refine max_two_ints (I.ok.hd hc) λh' tk k=>⟨_,H,I.kept k,?_,q⟩
 by_cases hj:j>i
 ·rw[if_pos hj,if_pos hj]; exact⟨_,rfl⟩
 ·rw[if_neg hj,if_neg hj]; exact⟨_,rfl⟩
theorem tV(hc:X.calm=true):aZ X (.builtin "min") (λxs H Q=>∃i j,xs=[.int i,.int j]/\Q (.int (if j<i then j else i)) H):=by
 intro pins s σ H xs us Q I r h;obtain⟨i,j,rfl,q⟩:=h;obtain⟨u,w',rfl,⟨t,rfl⟩,⟨t',rfl⟩⟩:=vals2 r;refine min_two_ints (I.ok.hd hc) λh' tk k=>⟨_,H,I.kept k,?_,q⟩
 by_cases hj:j<i
 ·rw[if_pos hj,if_pos hj]; exact⟨_,rfl⟩
 ·rw[if_neg hj,if_neg hj]; exact⟨_,rfl⟩
theorem mw:aZ X (.type "int") (λxs H Q=>(∃i,xs=[.int i]/\Q (.int i) H)\/∃k,xs=[.bl k]/\Q (.int (if k then 1 else 0)) H):=by
 intro pins s σ H xs us Q I r h;rcases h with⟨i,rfl,q⟩ | ⟨k,rfl,q⟩
 ·obtain⟨u,rfl,t,rfl⟩:=vals1 r
  exact call_int_int ⟨.int i,H,I,⟨_,rfl⟩,q⟩
 ·obtain⟨u,rfl,r1⟩:=vals1 r
  cases r1;exact call_int_bool ⟨.int (if k then 1 else 0),H,I.tok _,⟨_,rfl⟩,q⟩
end
end L2
namespace L2
open PySem PySem.Spec PyProof.Rows
theorem lI.some_of{v:V}{o:Option Value}(r:lI (some v) o):∃u,o=some u/\RelV v u:=by
 cases o with
 |none=>exact(show False from r).elim
 |some u=>exact⟨u,rfl,r⟩
end L2
namespace L2
open PySem PySem.Spec PyProof.Rows
structure ff(k:Nat)(A:FK):Prop where
 hd:A.handled=none
 dp:A.depth+3*k+5<recursionLimit
 un:A.units+16*k+200<cLine
 gd:A.guards=some []
theorem ff.mono{j k:Nat}{A:FK}(r:ff k A)(h:j<=k):ff j A:=⟨r.hd,by have:=r.dp; lia,by have:=r.un; lia,r.gd⟩
theorem ff.deeper{k:Nat}{A:FK}(r:ff (k+1) A)(env:Env):ff k (A.deeper env) :=
 ⟨r.hd,by have:=r.dp; show A.depth+1+3*k+5<_; lia,by have:=r.un; show A.units+3+16*k+200<_; lia,r.gd⟩
theorem ff.depth{k:Nat}{A:FK}(r:ff k A):A.depth<recursionLimit:=by have:=r.dp; lia
theorem ff.units{k:Nat}{A:FK}(r:ff k A):A.units+64<cLine:=by have:=r.un; lia
noncomputable def tNil:TA:=λ_ H Q=>Q [] H
noncomputable def Aw(ta:TE)(tr:TA):TA:=λσ H Q=>ta σ H λx H1=>tr σ H1 λxs H2=>Q (x::xs) H2
section
variable{X:Cx}{e:Expr}{es:List Expr}{te:TE}{t:TA}{pos:Pos}
theorem nF:PA X [] tNil:=λ_ _ _ _ H Q I h=>Ht ⟨[],H,I,.nil,h⟩
theorem jd(ha:PE X e te)(hr:PA X es t)(hs:E6 (e::es) X.env=(false,eval e X.env)::E6 es X.env:=by rfl):PA X (e::es) (Aw te t):=by
 intro pos pins s σ H Q I h;rw[hs];show wpAny _ _ (Ky ((false,eval e X.env)::HX pos (E6 es X.env))) _ _ s;refine Hf (b7 (ha pins s σ H _ I h) λu s1 ⟨x,H1,I1,r1,q1⟩=>?_)
 exact b7 (hr pos pins s1 σ H1 _ I1 q1) λus s2 ⟨xs,H2,I2,r2,q2⟩=>⟨x::xs,H2,I2,.cons r1 r2,q2⟩
noncomputable def tTup(t:TA):TE:=λσ H Q=>t σ H λxs H1=>xs.length<=E4/\∀p,H1 p=none->Q (.ref p) (upd H1 p (.tup xs))
noncomputable def tLst(t:TA):TE:=λσ H Q=>t σ H λxs H1=>xs.length<=E4/\∀p,H1 p=none->Q (.ref p) (upd H1 p (.lst xs))
theorem Bt{x1}(h:PA X es t):PE X (.Tuple es x1 pos) (tTup t):=by
 intro pins s σ H Q I hq;refine wpAny_Tuple_spliced (b7 (h pos pins s σ H _ I hq) λus s1 ⟨xs,H1,I1,r,z,q⟩=>⟨by rw[<-r.length]; exact z,?_⟩)
 have hf:H1 s1.heap.objs.size=none:=I1.hok.fresh (Db _);refine⟨.ref s1.heap.objs.size,upd H1 s1.heap.objs.size (.tup xs),I1.laid (t':=s1.toks) (λb u e=>BM _ e) (Db _) ?_,rfl,q _ hf⟩
 exact⟨z,us,r,fJ.new _ _⟩
theorem Bu(h:PA X es t):PE X (.List es pos) (tLst t):=by
 intro pins s σ H Q I hq;refine wpAny_List_spliced (b7 (h pos pins s σ H _ I hq) λus s1 ⟨xs,H1,I1,r,z,q⟩=>⟨by rw[<-r.length]; exact z,?_⟩)
 have hf:H1 s1.heap.objs.size=none:=I1.hok.fresh (Db _);refine⟨.ref s1.heap.objs.size,upd H1 s1.heap.objs.size (.lst xs),I1.laid (t':=s1.toks) (λb u e=>BM _ e) (Db _) ?_,rfl,q _ hf⟩
 exact⟨z,us,0,r,Dx _ rfl⟩
end
abbrev Sp:=List V->Hp->VK->XK->Prop
abbrev vc:=List Env->Hp->Bi->XK->Value->Bi->Prop
structure Env0(P:EK)(w:World)(K:AC)(mg:Str->Option Value)(base:Heap)(A:FK)(outer:List Env)(s:Bi)(H:Hp):Prop where
 frames:A.frames=some outer
 mod:Mod K mg base
 bs:∀b o,base.get? b=some o->s.heap.get? b=some o/\H b=none
 bsz:base.objs.size<=s.heap.objs.size
 ki:s.heap.FunFrames base outer
 frf:∀b∈frs outer,H b=none
 hok:iT P w H s.heap
 bare:Ic s.gens
def CE(outer:List Env)(P:EK)(w:World)(H:Hp)(s:Bi)(Q:VK)(u:Value)(s':Bi):Prop :=
 ∃v H',s'.os=s.os/\Ic s'.gens/\Un (frs outer) [] H H' s.heap s'.heap/\iT P w H' s'.heap/\RelV v u/\Q v H'
def CR(CX:vc)(outer:List Env)(P:EK)(w:World)(H:Hp)(s:Bi)(Q:VK)(E:XK)(r:Lp)(s':Bi):Prop :=
 match r with
 |.ok (.ret u)=>CE outer P w H s Q u s'
 |.ok _=>False
 |.error e=>CX outer H s E e s'
structure cB(P:EK)(w:World)(K:AC)(mg:Str->Option Value)(base:Heap)(CX:vc)(k:Nat)(f:Addr)(fd:G4)(ps:List Str)(sp:Sp):Prop where
 len:∀vs H Q E,sp vs H Q E->vs.length=ps.length
 run:∀(A:FK)(outer:List Env)(s:Bi)(H:Hp)(args:Args)(us:List Value)(vs:List V)(Q:VK)(E:XK),ff k A->Env0 P w K mg base A outer s H->Jc s fd args (ps.zip us)->Vals vs us->sp vs H Q E ->
  Hb (model P w) A (.call (.ref f) args) (CR CX outer P w H s Q E) s
theorem cB.imp{P:EK}{w:World}{K:AC}{mg:Str->Option Value}{base:Heap}{CX:vc}{k:Nat}{f:Addr}{fd:G4}{ps:List Str}{sp sp':Sp}(F:cB P w K mg base CX k f fd ps sp)
  (h:∀vs H Q E,sp' vs H Q E->sp vs H Q E):cB P w K mg base CX k f fd ps sp' :=
 ⟨λvs H Q E q=>F.len vs H Q E (h _ _ _ _ q),λA outer s H args us vs Q E hr he hb hv hs=>F.run A outer s H args us vs Q E hr he hb hv (h _ _ _ _ hs)⟩
section
variable{X:Cx}{pins:List (Addr×Obj)}{σ:St}{H:Hp}{s s':Bi}
theorem Inv.env0(I:Inv X pins σ H s):Env0 X.prog X.w X.K X.mg X.base X.A X.stack s H :=
 ⟨I.ok.frames,I.ok.mod,I.bs,FH I.ok.bsz I.sz,I.stack,I.r8,I.hok,I.bare⟩
theorem Inv.after{Q:VK}{u:Value}(I:Inv X pins σ H s)(h:CE X.stack X.prog X.w H s Q u s'):EP X pins σ Q u s':=by
 obtain⟨v,H',os,bare,un,hok,r,q⟩:=h;obtain⟨hh,g,d,t,os'⟩:=s';obtain rfl:os'=s.os:=os;exact⟨v,H',I.call (h':=hh) (g':=g) (d':=d) (t':=t) (ch:=[]) un hok bare (λb z=>absurd z (by simp)),r,q⟩
end
noncomputable def vd(sp:Sp)(dvs:List V)(E:XK)(t:TA):TE:=λσ H Q=>t σ H λvs H1=>sp (vs++dvs) H1 Q E
def Binds(K:AC)(fd:G4)(ps:List Str)(ds:List Value):Prop :=
 ∀(s:Bi)(us:List Value),K.In s.heap->(us++ds).length=ps.length->Jc s fd ⟨us,[]⟩ (ps.zip (us++ds))
theorem Binds.all{K:AC}{fd:G4}{ps:List Str}(h:∀us:List Value,us.length=ps.length->bindArgs fd ⟨us,[]⟩=pure (ps.zip us)):Binds K fd ps []:=λs us _ hl=>by
 rw[E1] at hl ⊢;exact .of_eq (h us hl)
def Passes(CX:vc)(X:Cx)(E:XK):Prop:=∀(pins:List (Addr×Obj))(σ:St)(H:Hp)(s:Bi)(e:Value)(s':Bi),Inv X pins σ H s->CX X.stack H s E e s'->X.xe e s'
section
variable{X:Cx}{CX:vc}{k:Nat}{f C:Addr}{fd:G4}{ps:List Str}{sp:Sp}{dvs:List V}{ds:List Value}{E:XK}{x m:Str}{p pos apos:Pos}{e o:Expr}{es:List Expr}{ta:TE}{t:TA}
theorem Bv{pins:List (Addr×Obj)}{σ:St}{H:Hp}{s:Bi}{Q:VK}{us:List Value}{vs:List V}(F:cB X.prog X.w X.K X.mg X.base CX k f fd ps sp)(hr:ff k X.A)(hb:Binds X.K fd ps ds)(hd:Vals dvs ds)(hx:Passes CX X E)
  (I:Inv X pins σ H s) (r:Vals vs us) (h:sp (vs++dvs) H Q E):wpAny (model X.prog X.w) X.A (call (.ref f) us) (EP X pins σ Q) X.xe s:=by
 have r2:Vals (vs++dvs) (us++ds):=r.append hd;have hl:(us++ds).length=ps.length:=by rw[<-r2.length]; exact F.len _ _ _ _ h
 refine wpAny_call (JT (F.run X.A X.stack s H ⟨us,[]⟩ (us++ds) (vs++dvs) Q E hr I.env0 (hb s us I.Dz hl) r2 h) λr s' hq=>?_)
 cases r with
 |error e=>exact hx pins σ H s e s' I hq
 |ok fl=>
  cases fl with
  |ret u=>exact I.after hq
  |next=>exact Go hq
  |brk=>exact Go hq
  |cont=>exact Go hq
theorem yv(F:cB X.prog X.w X.K X.mg X.base CX k f fd ps sp)(hr:ff k X.A)(hg:Gl X x)(hm:X.mg x=some (.ref f))(hk:Hm X.K (.ref f)=true)(hb:Binds X.K fd ps ds)(hd:Vals dvs ds)(hx:Passes CX X E)
  (ha:PA X (e::es) t) (hdb:(x == ("__debug__" : Str))=false:=by decide) (he:E6 (e::es) X.env=(false,eval e X.env)::E6 es X.env:=by rfl) (hpl:(HX pos (E6 es X.env)).any (·.1)=false:=by rfl) :
  PE X (.Call (.Name x p) (e::es) [] pos) (vd sp dvs E t):=by
 intro pins s σ H Q I h;refine Fg (yh I hg hm ?_ hdb);refine PySem.W.callWith_K (h₀:=X.base) I.ok.mod.kin hk (b7 (ha pos pins s σ H _ I h) λus s1 ⟨vs,H1,I1,r,q⟩=>⟨I1.Dz,?_⟩) he hpl
 exact Bv F hr hb hd hx I1 r q
end
structure bf(N P:List Str)(sc:Scope):Prop where
 kind:sc.kind=.function
 co:sc.isCoroutine=false
 gen:sc.isGenerator=false
 nd:N.Nodup
 pre:N.take P.length=P
 par:∀x∈P,sc.names.lookup x=some .local\/sc.names.lookup x=some .cell
 nofree:∀y∈sc.names,y.2≠.free
theorem mz{kindOf:Str->Option GC}{x:Str}:∀{binds:List (Str×Value)}{m:Str->Option Value},(∀v,(x,v)∉binds)->bindL kindOf binds m x=m x
 |[],_,_=>rfl
 |(n,v)::r,m,h=>by
  unfold bindL;rw[mz λw hw=>h w (lO _ hw)]
  split
  ·have:x≠n:=by rintro rfl; exact h v lS
   simp[this]
  ·rfl
theorem mC{kindOf:Str->Option GC}{x:Str}:∀{binds:List (Str×Value)}{m:Str->Option Value},(∀v,(x,v)∉binds)->bindC kindOf binds m x=m x
 |[],_,_=>rfl
 |(n,v)::r,m,h=>by
  unfold bindC;rw[mC λw hw=>h w (lO _ hw)]
  split
  ·rfl
  ·have:x≠n:=by rintro rfl; exact h v lS
   simp[this]
theorem mD{kindOf:Str->Option GC}{x:Str}{v:Value}:∀{P:List Str}{vs:List Value}{i:Nat}{m:Str->Option Value},P.Nodup->P[i]? = some x->vs[i]? = some v->kindOf x=some .local ->
  bindL kindOf (P.zip vs) m x=some v
 |[],_,_,_,_,h,_,_=>by simp at h
 |_::_,[],_,_,_,_,h,_=>by simp at h
 |p::P,w::vs,0,m,nd,h1,h2,hk=>by
  simp at h1 h2; subst h1; subst h2;show bindL kindOf ((p,w)::P.zip vs) m p=_;unfold bindL;rw[mz λv hv=>(EG.mp nd).1 (JK hv).1,if_pos hk]
  simp
 |p::P,w::vs,i+1,m,nd,h1,h2,hk=>by
  show bindL kindOf ((p,w)::P.zip vs) m x=_;unfold bindL;exact mD (i:=i) (EG.mp nd).2 (by simpa using h1) (by simpa using h2) hk
theorem mE{kindOf:Str->Option GC}{x:Str}{v:Value}:∀{P:List Str}{vs:List Value}{i:Nat}{m:Str->Option Value},P.Nodup->P[i]? = some x->vs[i]? = some v->kindOf x≠some .local ->
  bindC kindOf (P.zip vs) m x=some v
 |[],_,_,_,_,h,_,_=>by simp at h
 |_::_,[],_,_,_,_,h,_=>by simp at h
 |p::P,w::vs,0,m,nd,h1,h2,hk=>by
  simp at h1 h2; subst h1; subst h2;show bindC kindOf ((p,w)::P.zip vs) m p=_;unfold bindC;rw[mC λv hv=>(EG.mp nd).1 (JK hv).1,if_neg hk]
  simp
 |p::P,w::vs,i+1,m,nd,h1,h2,hk=>by
  show bindC kindOf ((p,w)::P.zip vs) m x=_;unfold bindC;exact mE (i:=i) (EG.mp nd).2 (by simpa using h1) (by simpa using h2) hk
noncomputable def start(N:List Str)(vs:List V):St:=vs.map some++E8 (N.length-vs.length) none
noncomputable def pG(CX:vc)(P:EK)(w:World)(K:AC)(mg:Str->Option Value)(base:Heap)(N:List Str)(qual:Str)(scope:Scope)(f:Addr)(cd:Value)(A:FK)(outer:List Env)(s:Bi)(H:Hp)(E:XK):Cx where
 prog:=P
 w:=w
 K:=K
 mg:=mg
 base:=base
 A:=A.deeper (Ib qual scope s.heap.objs.size f cd)
 N:=N
 s₀:=s
 H₀:=H
 env:=Ib qual scope s.heap.objs.size f cd
 outer:=outer
 stack:=Ib qual scope s.heap.objs.size f cd::outer
 ex:=[]
 calm:=true
 fn:=λ_=>true
 pn:=[]
 xe:=λe s'=>wpAny (model P w) (A.deeper (Ib qual scope s.heap.objs.size f cd)) (leaving (Ib qual scope s.heap.objs.size f cd) e) (λ_ s''=>CX outer H s E e s'') (λe' s''=>CX outer H s E e' s'') s'
theorem pH{sc:Scope}{n:Nat}{x:Str}(h:sc.names.lookup x=some .cell):∃c,(FY n sc.names []).lookup x=some c:=by
 have q:=Jn sc.names n [] (.inl h);exact Gx.mp q
theorem tW{CX:vc}{P:EK}{w:World}{K:AC}{mg:Str->Option Value}{base:Heap}{N ps:List Str}{qual:Str}{scope:Scope}{f:Addr}{cd:Value}{A:FK}{outer:List Env}{s s1:Bi}{H:Hp}{E:XK}{us:List Value}{vs:List V}
  (S:bf N ps scope) (hd:A.handled=none) (e0:Env0 P w K mg base A outer s H) (hl:vs.length=ps.length) (r:Vals vs us)
  (x:InCallC s s.heap.objs.size (bindL (Ib qual scope s.heap.objs.size f cd).kindOf (ps.zip us) λ_=>none) (FY (s.heap.objs.size+1) scope.names []) (bindC (Ib qual scope s.heap.objs.size f cd).kindOf (ps.zip us) λ_=>none) s1) :
  Inv (pG CX P w K mg base N qual scope f cd A outer s H E) [] (start N vs) H s1:=by
 have hpl:ps.length<=N.length:=by have:=congrArg Hz S.pre; rw[Gu] at this; lia
 obtain⟨h1,tk,rfl,hk⟩:=x.done;have noA:∀b:Addr,b∉(pG CX P w K mg base N qual scope f cd A outer s H E).ex:=λb z=>absurd (show b∈([]:List Addr) from z) (by simp)
 refine⟨⟨e0.mod,S.kind,rfl,rfl,Db _,λy z c h1 h2=>?_,λy hy=>?_,λy c _ h=>?_,λ_=>hd,Around.frames_deeper e0.frames,.inr ⟨rfl,rfl⟩,λb z=>absurd z (noA b),e0.bs,e0.bsz,λb _ _=>noA b,λb z=>absurd z (noA b),e0.ki,e0.frf⟩,
  rfl,e0.bare,Un.kept hk,⟨_,x.toInCall.ns,λi y v h1 h2 h3=>?_⟩,λy c h=>⟨_,x.cell y c h⟩,e0.hok.fresh (Db _),λy c h=>?_,λp hp=>absurd (show p∈([]:List (Addr×Obj)) from hp) (by simp),e0.hok.kept hk,?_⟩
 ·exact name_of_addr x.apart (GU h1) (GU h2)
 ·have hy:scope.names.lookup y=some .cell\/scope.names.lookup y=some .free:=hy
  rcases hy with hy | hy
  ·exact pH hy
  ·exact absurd rfl (S.nofree _ (GU hy))
 ·exact FZ (x.above y c (GU h))
 ·have hi:i<vs.length:=by
   unfold start at h2
   by_cases hi:i<vs.length
   ·exact hi
   ·rw[Ji (by simpa using hi)] at h2
    rw[List.getElem?_replicate] at h2
    split at h2 <;> cases h2
  have ha:vs[i]? = some v:=by
   unfold start at h2;rw[GR (by simpa using hi),E9] at h2
   cases e:vs[i]? with
   |none=>rw[e] at h2; cases h2
   |some a=>rw[e] at h2; cases h2; rfl
  obtain⟨u,hu,rv⟩:=r.get ha;have hp:ps[i]? = some y:=by
   rw[<-S.pre,List.getElem?_take_of_lt (by lia)]; exact h1
  have ndP:ps.Nodup:=by rw[<-S.pre]; exact S.nd.sublist (LG _ _)
  refine⟨u,rv,?_⟩;rcases S.par y (HR hp) with k | k
  ·exact .inl ⟨k,mD ndP hp hu k⟩
  ·obtain⟨c,e⟩:=pH (n:=s.heap.objs.size+1) k
   refine .inr ⟨.inl k,c,e,?_⟩;have q:=x.cell y c e;rw[mE ndP hp hu (by show scope.names.lookup y≠_; rw[k]; decide)] at q
   exact q
 ·exact e0.hok.fresh (FZ (x.above y c (GU h)))
 ·unfold start
  show _=N.length;rw[E3,At,IT];lia
theorem fn_of{CX:vc}{P:EK}{w:World}{K:AC}{mg:Str->Option Value}{base:Heap}{k:Nat}{f:Addr}{name qual:Str}{params:Ks}{body:List Stmt}{scope:Scope}{dV kV doc pm cdv ct oc:Value}{an od:Option Addr}
  {osl:Array (Option Value)} {N ps:List Str} {sp:Sp} (lk:K.lookup f=some ⟨oc,od,.func (HS name qual params body scope dV kV doc pm an cdv ct),osl⟩) (hcd:IZ K cdv qual=true) (S:bf N ps scope)
  (len:∀vs H Q E,sp vs H Q E->vs.length=ps.length)
  (hbody:∀(A:FK)(outer:List Env)(s:Bi)(H:Hp)(vs:List V)(Q:VK)(E:XK),ff k (A.deeper (Ib qual scope s.heap.objs.size f cdv))->sp vs H Q E ->
   ∃t,qG (pG CX P w K mg base N qual scope f cdv A outer s H E) body t/\t { nx:=λ_ H'=>Q .non H',rt:=Q } (start N vs) H) :
  cB P w K mg base CX (k+1) f (HS name qual params body scope dV kV doc pm an cdv ct) ps sp:=by
 refine⟨len,λA outer s H args us vs Q E hr e0 hb r hsp=>?_⟩
 have hl:=len _ _ _ _ hsp;have KX:K.In s.heap:=e0.mod.kin.keeps λb o e=>(e0.bs b o e).1
 have lim:s.heap.NoLimit:=e0.mod.nolimit.keeps λb o e=>(e0.bs b o e).1
 have hkind:∀y∈ps.zip us,scope.names.lookup y.1=some .local\/(scope.names.lookup y.1=some .cell/\((FY (s.heap.objs.size+1) scope.names []).lookup y.1).isSome=true):=λ⟨n,v⟩ hy=>by
  rcases S.par n (JK hy).1 with q | q
  ·exact .inl q
  ·exact .inr ⟨q,Jn _ _ _ (.inl q)⟩
 refine codeAny_call_function hr.depth (KX _ _ lk) rfl S.co S.gen rfl (PySem.W.codeRec_of KX hcd) (hb _ _ _ _ ?_);refine wpAny_newFunctionEnv_cells S.kind hkind λenv he s1 x=>?_
 subst he;refine⟨lim.keeps x.toInCall.keep,codeAny_func ?_⟩;obtain⟨t,ht,hq⟩:=hbody A outer s H vs Q E (hr.deeper _) hsp;have I:Inv (pG CX P w K mg base N qual scope f cdv A outer s H E) [] (start N vs) H s1:=tW S hr.hd e0 hl r x;refine GT (ht [] s1 (start N vs) H _ I hq) (λfl s' hs=>?_) λe s' hs=>hs
 have fin:∀{σ':St}{H':Hp}{v:V}{u:Value},Inv (pG CX P w K mg base N qual scope f cdv A outer s H E) [] σ' H' s'->RelV v u->Q v H'->CE outer P w H s Q u s' :=
  λ{σ' H' v u}J rv q=>⟨v,H',J.os,J.bare,J.base,J.hok,rv,q⟩
 cases fl with
 |ret u=>
  obtain⟨v,σ',H',J,rv,q⟩:=hs;exact fin J rv q
 |next=>
  obtain⟨σ',H',J,q⟩:=hs;exact fin (v:=V.non) (u:=GG) J rfl q
 |brk=>
  obtain⟨_,_,_,q⟩:=hs;exact Go q
 |cont=>
  obtain⟨_,_,_,q⟩:=hs;exact Go q
end L2
namespace L2
open PySem PySem.Spec PyProof.Rows
section
variable{X:Cx}{x:Str}{p pos:Pos}{e:Expr}{es:List Expr}{t:TA}{id T:String}{r:List V->Hp->VK->Prop}
noncomputable def DL(r:List V->Hp->VK->Prop)(t:TA):TE:=λσ H Q=>t σ H λvs H1=>r vs H1 Q
theorem ve(hc:aZ X (.builtin id) r)(hg:Gl X x)(hm:X.mg x=none)(hv:Gk x=some (.builtin id))(ha:PA X (e::es) t)(hn:x ≠ "__name__" := by decide)(hdb:(x == ("__debug__" : Str))=false:=by decide)
  (he:E6 (e::es) X.env=(false,eval e X.env)::E6 es X.env:=by rfl) (hpl:(HX pos (E6 es X.env)).any (·.1)=false:=by rfl):PE X (.Call (.Name x p) (e::es) [] pos) (DL r t):=by
 intro pins s σ H Q I h;refine Fg (eO I hg hm hv ?_ hn hdb);exact PyProof.Rows.callWith_builtin1 (b7 (ha pos pins s σ H _ I h) λus s1 ⟨vs,H1,I1,r1,q1⟩=>hc pins s1 σ H1 vs us Q I1 r1 q1) he hpl
theorem tX(hc:aZ X (.type T) r)(hg:Gl X x)(hm:X.mg x=none)(hv:Gk x=some (.type T))(ha:PA X (e::es) t)(hn:x ≠ "__name__" := by decide)(hdb:(x == ("__debug__" : Str))=false:=by decide)
  (he:E6 (e::es) X.env=(false,eval e X.env)::E6 es X.env:=by rfl) (hpl:(HX pos (E6 es X.env)).any (·.1)=false:=by rfl):PE X (.Call (.Name x p) (e::es) [] pos) (DL r t):=by
 intro pins s σ H Q I h;refine Fg (eO I hg hm hv ?_ hn hdb);exact ET (b7 (ha pos pins s σ H _ I h) λus s1 ⟨vs,H1,I1,r1,q1⟩=>hc pins s1 σ H1 vs us Q I1 r1 q1) he hpl
end
end L2
namespace HT
open PySem PyProof.Rows
noncomputable def lexLt:List Int->List Int->Bool
 |[],[]=>false
 |[],_::_=>true
 |_::_,[]=>false
 |x::xs,y::ys=>if x=y then lexLt xs ys else decide (x<y)
theorem cF(x y:Int)(xs ys:List Int):lexLt (x::xs) (y::ys)=if x=y then lexLt xs ys else decide (x<y):=rfl
theorem iK:lexLt [] []=false:=rfl
theorem kq(y:Int)(ys:List Int):lexLt [] (y::ys)=true:=rfl
theorem kr(x:Int)(xs:List Int):lexLt (x::xs) []=false:=rfl
theorem pI(A:FK)(s:Bi)(a:Int)(t:Tok)(c:Int)(u:Tok):∃e,Kl A s (.int a t) (.int c u) e/\(e=true↔a=c) :=
 ⟨(a == c),SeqAt.EqAt.int_int a t c u,by simp⟩
theorem vf(A:FK)(s:Bi)(a:Int)(t:Tok)(c:Int)(u:Tok)(prog:EK)(w:World)(E:Value->Bi->Prop)(Q:Value->Bi->Prop)(h:Q (.bool (decide (a<c))) s) :
  wpAny (model prog w) A (richCompare .Lt (.int a t) (.int c u)) Q E s :=
 (Kt h:wpAny (model prog w) A (EW .Lt (.int a t) (.int c u)) Q E s)
section
open PySem.SeqAt
open PySem.AutoSeq1 (wpAny_loadPart')
open PySem.MeetsSeq PySem.MeetsSeq2 PySem.MeetsSeq3
theorem lN(l b:Addr)(items items2:Array Value)(n n2:Nat)(dd dd2:Option Addr)(sl sl2:Array (Option Value))(ns ms:List Int)(hi:Fs items.toList ns)(hj:Fs items2.toList ms) :
  Meets (Gs.«tuple.__lt__» ⟨[.ref l,.ref b],[]⟩)
   (λ_ R s=>s.heap.get? l=some { cls:=.type "tuple",dict:=dd,data:=.seq items n,slots:=sl }/\s.heap.get? b=some { cls:=.type "tuple",dict:=dd2,data:=.seq items2 n2,slots:=sl2 } /\
    R (.ok (.ret (.bool (lexLt ns ms)))) s) :=
 .of_wp λprog w A R s h=>by
  obtain⟨hp,g,d,tk,os⟩:=s; obtain⟨hl,hb,h⟩:=h;have f2:=JJ;have z1:items.size=ns.length:=by rw[<-hi.length]; simp
  have z2:items2.size=ms.length:=by rw[<-hj.length]; simp
  wp_walk using FV hl,FV hb,wpAny_forIn_list _ (λrest b s'=>b.1=none/\s'=⟨hp,g,d,tk,os⟩/\∃ (vs ws:List Value) (ns' ms':List Int),rest=vs.zip ws /\
   Fs vs ns'/\Fs ws ms'/\ns'.length+items2.size=ms'.length+items.size/\R (.ok (.ret (.bool (lexLt ns' ms')))) ⟨hp,g,d,tk,os⟩) _
  case turn=>
   rintro⟨y,x⟩ rest b s' ⟨hb',rfl,vs,ws,ns',ms',hz,hvi,hwi,hlen,hR⟩;cases hvi with
   |nil=>rw[Hy] at hz; cases hz
   |cons a t hvi' =>
    cases hwi with
    |nil=>rw[Hj] at hz; cases hz
    |cons c u hwi' =>
     rw[GB] at hz
     injection hz with hyx hrest
     injection hyx with hy hx
     subst hy hx;rw[cF] at hR;simp only[E7] at hlen;obtain⟨e,he,hiff⟩:=pI A.in1 ⟨hp,g,d,tk,os⟩ a t c u;refine AT (he prog w _ _ ?_);cases e with
     |true=>
      rw[if_pos (hiff.mp rfl)] at hR
      wp_walk
      exact⟨rfl,rfl,_,_,_,_,hrest,hvi',hwi',by lia,hR⟩
     |false=>
      rw[if_neg (λq=>absurd (hiff.mpr q) Gg)] at hR
      have hri:=vf A.in1 ⟨hp,g,d,tk,os⟩ a t c u prog w
      wp_walk using hri
      exact⟨_,rfl,by simpa using hR⟩
  case fin=>
   rintro⟨b1,b2⟩ s' ⟨hb',rfl,vs,ws,ns',ms',hz,hvi,hwi,hlen,hR⟩;simp only at hb';subst hb';have hv:lexLt ns' ms'=decide (items.size<items2.size):=by
    cases hvi with
    |nil=>
     cases hwi with
     |nil=>
      simp only[F9] at hlen;rw[iK];exact(decide_eq_false (by lia)).symm
     |cons c u hw=>
      simp only[F9,E7] at hlen;rw[kq];exact(decide_eq_true (by lia)).symm
    |cons a t hv=>
     cases hwi with
     |nil=>
      simp only[F9,E7] at hlen;rw[kr];exact(decide_eq_false (by lia)).symm
     |cons c u hw=>
      rw[GB] at hz;cases hz
   rw[hv] at hR
   wp_walk
   exact⟨_,rfl,by simpa[IS] using hR⟩
  case h=>
   exact⟨rfl,rfl,items.toList,items2.toList,ns,ms,rfl,hi,hj,by lia,h⟩
end
section
variable{prog:EK}{w:World}{A:FK}{E:Value->Bi->Prop}{s:Bi}
theorem qN{l b:Addr}{items items2:Array Value}{ns ms:List Int}{Q:Value->Bi->Prop}(hl:IsTup s.heap l items)(hb:IsTup s.heap b items2)(hi:Fs items.toList ns)(hj:Fs items2.toList ms)
  (hu:A.units<cLine) (h:Q (.bool (lexLt ns ms)) s):wpAny (model prog w) A (EW .Lt (.ref l) (.ref b)) Q E s:=by
 obtain⟨⟨cls,dd,data,sl⟩,ho,hc,n,hd⟩:=id hl;obtain⟨⟨cls2,dd2,data2,sl2⟩,ho2,hc2,n2,hd2⟩:=id hb;simp only at hc hd hc2 hd2;subst hc hd hc2 hd2;exact Kz (op:=.Lt) ⟨_,ho,rfl⟩ ⟨_,ho2,rfl⟩ PySem.F.slot_tuple_lt PySem.F.entry_tuple_lt (PySem.F.args_tuple_lt_2 _ _) (lN l b items items2 n n2 dd dd2 sl sl2 ns ms hi hj)
  ⟨ho,ho2,show JV (lexLt ns ms)≠KJ/\Q (.bool (lexLt ns ms)) s from⟨(λx=>nomatch x),h⟩⟩ hu
theorem yw{t b:Addr}{vs ws:List Value}{Q:Value->Bi->Prop}(ht:IsTup s.heap t vs.toArray)(hb:IsTup s.heap b ws.toArray)(hv:vs≠[])
  (h1:ws=[]->Q (.ref t) s) (h2:ws≠[]->Q (.ref s.heap.objs.size) { s with heap:=s.heap.push { cls:=.type "tuple",data:=.seq (vs++ws).toArray } })
  (hsz:vs.length+ws.length<=E4):wpAny (model prog w) A (Fq .Add (.ref t) (.ref b)) Q E s:=by
 obtain⟨⟨cls,dd,data,sl⟩,ho,hc,n,hd⟩:=id ht;obtain⟨⟨cls2,dd2,data2,sl2⟩,ho2,hc2,n2,hd2⟩:=id hb;simp only at hc hd hc2 hd2;subst hc hd hc2 hd2;have e:vs.toArray++ws.toArray=(vs++ws).toArray:=by simp
 by_cases hw:ws=[]
 ·exact Jw ⟨_,ho,rfl⟩ ⟨_,ho2,rfl⟩ J3 Jm IA Hw (Ho _ _)
   (tuple_addW1 t b vs.toArray ws.toArray n n2 dd dd2 sl sl2 (by simpa using hv) (by simp[hw])) ⟨ho,ho2,h1 hw⟩
 ·refine Jw ⟨_,ho,rfl⟩ ⟨_,ho2,rfl⟩ J3 Jm IA Hw (Ho _ _)
   (tuple_addW2 t b vs.toArray ws.toArray n n2 dd dd2 sl sl2 (by simpa using hv) (by simpa using hw) (by rw[Bz,Bz]; exact hsz)) ⟨ho,ho2,?_⟩
  rw[e];exact h2 hw
noncomputable def cP(n d:Nat):Option Int->Nat
 |none=>d
 |some v=>if v<0 then (v+(n:Int)).toNat else min v.toNat n
theorem vg(n d:Nat):cP n d none=d:=rfl
theorem yx(n d k:Nat):cP n d (some (k:Int))=min k n:=by
 show (if (k:Int)<0 then ((k:Int)+(n:Int)).toNat else min (k:Int).toNat n)=min k n
 rw[if_neg (by lia),Fv]
theorem Bw(n d:Nat)(hd:d<=n)(o:Option Int):cP n d o<=n:=by
 cases o with
 |none=>exact hd
 |some v=>
  show (if v<0 then (v+(n:Int)).toNat else min v.toNat n)<=n
  by_cases hv:v<0
  ·rw[if_pos hv]; lia
  ·rw[if_neg hv]; exact LY _ _
theorem sf(v:Int)(n d:Nat):(if v<0 then max (v+(n:Int)) 0 else min v (n:Int))=((cP n d (some v):Nat):Int):=by
 show (if v<0 then max (v+(n:Int)) 0 else min v (n:Int))=(((if v<0 then (v+(n:Int)).toNat else min v.toNat n):Nat):Int)
 by_cases hv:v<0
 ·simp only[if_pos hv]; lia
 ·simp only[if_neg hv]; lia
theorem qO(lo hi:Option Int)(n:Nat):HM lo hi 1 (n:Int)=(((cP n 0 lo:Nat):Int),((cP n n hi:Nat):Int)):=by
 have h1:¬ ((1:Int)<0):=by lia
 unfold HM;simp only[h1,if_false];refine Lf ?_ ?_
 ·cases lo with
  |none=>rfl
  |some v=>exact sf v n 0
 ·cases hi with
  |none=>rfl
  |some v=>exact sf v n n
theorem qP(i j:Nat):Gi (i:Int) (j:Int) 1=j-i:=by
 unfold Gi;have h1:(1:Int)>0:=by lia
 simp only[h1,if_true,Int.ediv_one]
 split <;> lia
theorem ku{v:Value}{o:Option Int}{Q:Option Int->Bi->Prop}(p:Is v o)(h:Q o s):wpAny (model prog w) A (Builtin.Slice.slicePartIndex v) Q E s:=by
 cases p with
 |none=>exact slicePart_none h
 |int i t=>exact slicePart_int h
theorem fN{sl:Addr}{vl vu:Value}{lo hi:Option Int}{n:Nat}{Q:Int×Int×Nat->Bi->Prop}(hs:s.heap.IsSliceOf sl vl vu .none)(pl:Is vl lo)(pu:Is vu hi)
  (h:Q (((cP n 0 lo:Nat):Int),1,cP n n hi-cP n 0 lo) s):wpAny (model prog w) A (Il (.ref sl) (pure (n:Int))) Q E s:=by
 obtain⟨os,hos,hcs,hds⟩:=id hs;unfold Il Builtin.Slice.sliceFields;refine AT (AT (GH hos hds (x:=vl) rfl (AT (GH hos hds (x:=vu) rfl (AT (GH hos hds (x:=.none) rfl (Bn ?_)))))));refine AT (slicePart_none ?_);show wpAny _ _ (if ((1:Int) == 0)=true then _ else _) _ _ s
 rw[if_neg (by decide)]
 refine AT (ku pl (AT (ku pu (AT (Bn ?_)))));show wpAny _ _ (match HM lo hi 1 (n:Int) with | (lo,hi)=>pure (lo,(1:Int),Gi lo hi 1)) _ _ s
 rw[qO lo hi n];show wpAny _ _ (pure (((cP n 0 lo:Nat):Int),(1:Int),Gi ((cP n 0 lo:Nat):Int) ((cP n n hi:Nat):Int) 1)) _ _ s;rw[qP];exact Bn h
theorem vh(xs:Array Value)(i k:Nat):((Ch k).filterMap λ(m:Nat)=>xs[((i:Int)+(m:Int)*1).toNat]?).toArray=((xs.toList.drop i).take k).toArray:=by
 have e:(λ(m:Nat)=>xs[((i:Int)+(m:Int)*1).toNat]?)=λm=>xs[i+m]? := by
  funext m
  have:((i:Int)+(m:Int)*1).toNat=i+m:=by lia
  rw[this]
 rw[e];have:=pick_run xs i k;rw[List.filterMap_map] at this;have e2:((λx=>xs[x]?)∘λx=>i+x)=λm=>xs[i+m]? := rfl
 rw[e2] at this;rw[this]
theorem je{t sl:Addr}{items:Array Value}{vl vu:Value}{lo hi:Option Int}{Q:Value->Bi->Prop}(ht:IsTup s.heap t items)(hs:s.heap.IsSliceOf sl vl vu .none)(pl:Is vl lo)(pu:Is vu hi)
  (hw:¬ (cP items.size 0 lo=0/\cP items.size items.size hi=items.size))
  (h:Q (.ref s.heap.objs.size) { s with heap:=s.heap.push { cls:=.type "tuple",data:=.seq ((items.toList.drop (cP items.size 0 lo)).take (cP items.size items.size hi-cP items.size 0 lo)).toArray } })
  (hsz:items.size<=E4):wpAny (model prog w) A (II (.ref t) (.ref sl)) Q E s:=by
 have htake:sizeOk (.seq ((items.toList.drop (cP items.size 0 lo)).take (cP items.size items.size hi-cP items.size 0 lo)).toArray):=by
  show ((items.toList.drop (cP items.size 0 lo)).take (cP items.size items.size hi-cP items.size 0 lo)).toArray.size<=E4;rw[Bz,Gu,HJ,EN];lia
 have hj:cP items.size items.size hi<=items.size:=Bw _ _ (Db _) hi;obtain⟨os,hos,hcs,hds⟩:=id hs;have hTs:s.TypeIs (.ref sl) "slice" := ⟨os,hos,hcs⟩;unfold II
 try with_reducible refine FX ?_
 first | refine AT (Bn ?_) | skip
 refine AT (wpAny_sequenceKey ht.typeIs (by decide) ?_)
 refine AT (GK (name:=IP "__getitem__") ht.typeIs Fd
  (GE Fd ht.typeIs Le ?_ (Lv _ _)))
 show wpAny _ _ (Ik (.ref t) >>= _) _ _ s;refine AT (tupleItemsOf_ ht ?_);refine AT (HL hTs ?_);rw[if_pos (by decide)]
 refine AT (fN hs pl pu ?_);have hno:¬ ((((cP items.size 0 lo:Nat):Int) == 0 && (1:Int) == 1 && (cP items.size items.size hi-cP items.size 0 lo) == items.size)=true):=by
  intro q;rw[EV,EV] at q;have q1:((cP items.size 0 lo:Nat):Int)=0:=eq_of_beq q.1.1;have q2:cP items.size items.size hi-cP items.size 0 lo=items.size:=eq_of_beq q.2;exact hw ⟨by lia,by lia⟩
 show wpAny _ _ (if (((cP items.size 0 lo:Nat):Int) == 0 && (1:Int) == 1 && (cP items.size items.size hi-cP items.size 0 lo) == items.size)=true then _ else _) _ _ s
 rw[if_neg hno,vh]
 first
  |exact AT (m:=Fu _) (Ex (Bn ⟨_,rfl,Bn h⟩) htake)
  |exact AT (m:=Fu _) (Ex (AT (Bn (Bn ⟨_,rfl,Bn h⟩))) htake)
  |exact AT (AT (m:=Fu _) (Ex (Bn (Bn ⟨_,rfl,Bn h⟩)) htake))
  |exact AT (AT (m:=Fu _) (Ex (Bn ⟨_,rfl,Bn h⟩) htake))
end
end HT
namespace L2
open PySem PySem.Spec PyProof.Rows
abbrev TO:=St->Hp->(Option Int->Hp->Prop)->Prop
def PO(X:Cx)(e:Option Expr)(t:TO):Prop :=
 ∀(pins:List (Addr×Obj))(s:Bi)(σ:St)(H:Hp)(Q:Option Int->Hp->Prop),Inv X pins σ H s->t σ H Q ->
  wpAny (model X.prog X.w) X.A (evalPart e X.env) (λu s'=>∃o H',Inv X pins σ H' s'/\Is u o/\Q o H') X.xe s
noncomputable def yz:TO:=λ_ H Q=>Q none H
noncomputable def tPart(t:TE):TO:=λσ H Q=>t σ H λx H1=>∃i,x=.int i/\Q (some i) H1
theorem intsAre_of{ns:List Int}:∀{us:List Value},Vals (ns.map V.int) us->Fs us ns:=by
 induction ns with
 |nil=>intro us r; rw[IM] at r; cases r; exact .nil
 |cons n ns ih=>
  intro us r;rw[EH] at r;cases r with
  |cons r1 r2=>
   obtain⟨t,e⟩:=r1;subst e;exact .cons n t (ih r2)
section
variable{X:Cx}{e:Expr}{te:TE}{lo hi:Option Expr}{tl th:TO}{pos p2:Pos}
theorem yC:PO X none yz:=by
 intro pins s σ H Q I h;rw[evalPart_none];exact Bn ⟨none,H,I,.none,h⟩
theorem yD(h:PE X e te):PO X (some e) (tPart te):=by
 intro pins s σ H Q I hw;rw[evalPart_some];refine b7 (h pins s σ H _ I hw) λu s1 ⟨x,H1,I1,r1,q1⟩=>?_
 obtain⟨i,rfl,q⟩:=q1;obtain⟨t,rfl⟩:=r1;exact⟨some i,H1,I1,.int i t,q⟩
def yE(X:Cx)(r:V->Option Int->Option Int->Hp->VK->Prop):Prop :=
 ∀(pins:List (Addr×Obj))(s:Bi)(σ:St)(H:Hp)(x:V)(v vl vu:Value)(lo hi:Option Int)(sl:Addr)(Q:VK),Inv X pins σ H s->RelV x v->s.heap.IsSliceOf sl vl vu .none->Is vl lo->Is vu hi->r x lo hi H Q ->
  ∃T id,KD (.type T) "__getitem__" = pure (some (.builtin id))/\s.TypeIs v T/\wpAny (model X.prog X.w) X.A (II v (.ref sl)) (EP X pins σ Q) X.xe s
noncomputable def Ed(r:V->Option Int->Option Int->Hp->VK->Prop)(te:TE)(tl th:TO):TE:=λσ H Q=>te σ H λx H1=>tl σ H1 λl H2=>th σ H2 λu H3=>r x l u H3 Q
theorem vj{r:V->Option Int->Option Int->Hp->VK->Prop}(hr:yE X r)(he:PE X e te)(hl:PO X lo tl)(hu:PO X hi th):PE X (.Subscript e (.Slice lo hi none p2) pos) (Ed r te tl th):=by
 intro pins s σ H Q I h;refine Lw (b7 (he pins s σ H _ I h) λv s1 ⟨x,H1,I1,r1,q1⟩=>?_)
 refine wpAny_Slice (b7 (hl pins s1 σ H1 _ I1 q1) λvl s2 ⟨l,H2,I2,pl,q2⟩=>b7 (hu pins s2 σ H2 _ I2 q2) λvu s3 ⟨u,H3,I3,pu,q3⟩=>?_)
 rw[evalPart_none];refine Bn ?_;have I4:Inv X pins σ H3 { s3 with heap:=s3.heap.push { cls:=.type "slice",data:=.fields #[vl,vu,.none] } }:=I3.kept (t':=s3.toks) λb ob q=>BM _ q
 obtain⟨T,id,hT,ht,hg⟩:=hr pins { s3 with heap:=s3.heap.push { cls:=.type "slice",data:=.fields #[vl,vu,.none] } } σ H3 x v vl vu l u s3.heap.objs.size Q I4 r1 (Heap.IsSliceOf.new ..) pl pu q3
 show wpAny (model X.prog X.w) X.A (Km e (.Slice lo hi none p2) v (.ref s3.heap.objs.size)) (EP X pins σ Q) X.xe { s3 with heap:=s3.heap.push { cls:=.type "slice",data:=.fields #[vl,vu,.none] } }
 exact tail_any (ops:=[.ref s3.heap.objs.size,v]) ht hT hg (by with_unfolding_all rfl)
noncomputable def kB(xs:List V)(lo hi:Option Int):List V:=(xs.drop (HT.cP xs.length 0 lo)).take (HT.cP xs.length xs.length hi-HT.cP xs.length 0 lo)
theorem jO(xs:List V)(lo hi:Option Int):(kB xs lo hi).length<=xs.length:=by
 unfold kB;rw[Gu,HJ];lia
def rSlT(K:AC):V->Option Int->Option Int->Hp->VK->Prop:=λx lo hi H Q=>∃a xs,x=.ref a/\dJ K H a xs /\
 ¬ (HT.cP xs.length 0 lo=0/\HT.cP xs.length xs.length hi=xs.length)/\∀p,H p=none->Q (.ref p) (upd H p (.tup (kB xs lo hi)))
theorem Bx:yE X (rSlT X.K):=by
 intro pins s σ H x v vl vu lo hi sl Q I rx hs pl pu h;obtain⟨a,xs,rfl,hx,hw,q⟩:=h;cases rx;obtain⟨its,r,ht,hz⟩:=I.tuple hx;have hlen:its.toArray.size=xs.length:=by rw[Bz]; exact r.length.symm
 refine⟨"tuple",_,Fd.lookup,ht.typeIs,?_⟩;refine HT.je ht hs pl pu (by rw[hlen]; exact hw) ?_ (by rw[hlen]; exact hz)
 rw[hlen];refine⟨.ref s.heap.objs.size,_,I.laid (t':=s.toks) (o:=.tup (kB xs lo hi)) (λb ob q=>BM _ q) (Db _) ?_,rfl,q _ (I.hok.fresh (Db _))⟩
 exact⟨FH (jO xs lo hi) hz,_,(r.drop (HT.cP xs.length 0 lo)).take (HT.cP xs.length xs.length hi-HT.cP xs.length 0 lo),fJ.new _ _⟩
noncomputable def rLtT(K:AC):R2:=λx y H Q=>∃a b ns ms,x=.ref a/\y=.ref b/\dJ K H a (ns.map V.int)/\dJ K H b (ms.map V.int)/\Q (.bl (HT.lexLt ns ms)) H
theorem By(hu:X.A.units<cLine):dY X (EW .Lt) (rLtT X.K):=by
 intro pins s σ H x y v u Q I rx ry h;obtain⟨a,b,ns,ms,rfl,rfl,ha,hb,q⟩:=h;cases rx;cases ry;obtain⟨its,r1,p1,_⟩:=I.tuple ha;obtain⟨its2,r2,p2,_⟩:=I.tuple hb;have i1:Fs its.toArray.toList ns:=intsAre_of r1;have i2:Fs its2.toArray.toList ms:=intsAre_of r2;exact HT.qN p1 p2 i1 i2 hu ⟨.bl (HT.lexLt ns ms),H,I,rfl,q⟩
noncomputable def rCatT(K:AC):R2:=λx y H Q=>∃a b xs ys,x=.ref a/\y=.ref b/\dJ K H a xs/\dJ K H b ys/\xs≠[]/\xs.length+ys.length<=E4 /\
 (ys=[]->Q (.ref a) H)/\(ys≠[]->∀p,H p=none->Q (.ref p) (upd H p (.tup (xs++ys))))
theorem Vals.nH{xs:List V}{us:List Value}(r:Vals xs us):us=[]↔xs=[]:=by
 cases r with
 |nil=>simp
 |cons _ _=>simp
theorem yF:dY X (Fq .Add) (rCatT X.K):=by
 intro pins s σ H x y v u Q I rx ry h;obtain⟨a,b,xs,ys,rfl,rfl,ha,hb,hx,hz,q1,q2⟩:=h;cases rx;cases ry;obtain⟨its,r1,p1,_⟩:=I.tuple ha;obtain⟨its2,r2,p2,_⟩:=I.tuple hb;refine HT.yw p1 p2 (λz=>hx (r1.nH.mp z)) (λz=>⟨.ref a,H,I,rfl,q1 (r2.nH.mp z)⟩) (λz=>?_) (by rw[<-r1.length,<-r2.length]; exact hz)
 refine⟨.ref s.heap.objs.size,_,I.laid (t':=s.toks) (o:=.tup (xs++ys)) (λb ob q=>BM _ q) (Db _) ?_,rfl,q2 (λw=>z (r2.nH.mpr w)) _ (I.hok.fresh (Db _))⟩
 exact⟨by rw[E3]; exact hz,_,r1.append r2,fJ.new _ _⟩
end
end L2
namespace L2
open PySem PySem.Spec PyProof.Rows
noncomputable def sj(n:Nat)(i:Int):Option Nat:=if 0<=i then (if i<n then some i.toNat else none) else if -(n:Int)<=i then some (i+n).toNat else none
noncomputable def jf{α:Type}(xs:List α)(i:Int):Option α:=(sj xs.length i).bind λj=>xs[j]?
theorem sr{n:Nat}{i:Int}{j:Nat}(h:sj n i=some j):Kr i n=some j/\j<n/\-(n:Int)<=i/\i<n:=by
 unfold sj at h
 by_cases h0:0<=i
 ·rw[if_pos h0] at h
  by_cases h1:i<n
  ·rw[if_pos h1] at h
   have e:i.toNat=j:=EQ h;exact⟨by rw[LS h0 h1,e],by lia,by lia,h1⟩
  ·rw[if_neg h1] at h; cases h
 ·rw[if_neg h0] at h
  by_cases h1 : -(n:Int)<=i
  ·rw[if_pos h1] at h
   have e:(i+n).toNat=j:=EQ h;exact⟨by rw[seqIndex_neg (by lia) h1,e],by lia,h1,by lia⟩
  ·rw[if_neg h1] at h; cases h
theorem iz{α:Type}{xs:List α}{i:Int}{v:α}(h:jf xs i=some v):∃j,Kr i xs.length=some j/\xs[j]? = some v/\j<xs.length/\-(xs.length:Int)<=i/\i<xs.length:=by
 unfold jf at h;cases e:sj xs.length i with
 |none=>rw[e] at h; cases h
 |some j=>
  rw[e] at h;obtain⟨h1,h2,h3,h4⟩:=sr e;exact⟨j,h1,h,h2,h3,h4⟩
theorem ez{α:Type}{xs:List α}{j:Nat}{v:α}(h:xs[j]? = some v):jf xs (j:Int)=some v:=by
 have hj:j<xs.length:=(EA.mp h).1;have e:sj xs.length (j:Int)=some j:=by
  unfold sj;rw[if_pos (by lia),if_pos (by lia)]; simp
 unfold jf; rw[e]; exact h
def nI(b:Expr):Prop:=∀o i,Jp b false o i=operate [o,i] (II o i)
def yG(X:Cx)(r:R2):Prop :=
 ∀(value slice:Expr)(pins:List (Addr×Obj))(s:Bi)(σ:St)(H:Hp)(x y:V)(v u:Value)(Q:VK),Inv X pins σ H s->RelV x v->RelV y u->r x y H Q ->
  Jp slice false v u=operate [v,u] (II v u)->wpAny (model X.prog X.w) X.A (Km value slice v u) (EP X pins σ Q) X.xe s
def Ef(X:Cx)(id:String)(r:V->List V->Hp->VK->Prop):Prop :=
 ∀(pins:List (Addr×Obj))(s:Bi)(σ:St)(H:Hp)(x:V)(xs:List V)(v:Value)(us:List Value)(Q:VK),Inv X pins σ H s->RelV x v->Vals xs us->r x xs H Q ->
  wpAny (model X.prog X.w) X.A (call (.builtin id) (v::us)) (EP X pins σ Q) X.xe s
section
variable{X:Cx}{a b:Expr}{ta tb:TE}{pos:Pos}
theorem yG.or{r r':R2}(h:yG X r)(h':yG X r'):yG X (λx y H Q=>r x y H Q\/r' x y H Q):=by
 intro value slice pins s σ H x y v u Q I rx ry q hs;rcases q with q | q
 ·exact h value slice pins s σ H x y v u Q I rx ry q hs
 ·exact h' value slice pins s σ H x y v u Q I rx ry q hs
theorem pe_ix{r:R2}(hr:yG X r)(ha:PE X a ta)(hb:PE X b tb)(hs:nI b):PE X (.Subscript a b pos) (Au r ta tb):=by
 intro pins s σ H Q I h;exact Lw (binT ha hb I h λv u s2 x y H2 I2 rx ry q=>hr a b pins s2 σ H2 x y v u Q I2 rx ry q (hs _ _))
noncomputable def rIxL(K:AC):R2:=λx y H Q=>∃p xs i v,x=.ref p/\y=.int i/\fL K H p xs/\jf xs i=some v/\Q v H
noncomputable def rIxT(K:AC):R2:=λx y H Q=>∃p xs i v,x=.ref p/\y=.int i/\dJ K H p xs/\jf xs i=some v/\Q v H
noncomputable def rIxS:R2:=λx y H Q=>∃z i c,x=.str z/\y=.int i/\z.length<=E4/\jf z.cps.toList i=some c/\Q (.str ⟨#[c]⟩) H
theorem yH:yG X (rIxL X.K):=by
 intro value slice pins s σ H x y v u Q I rx ry h hs;obtain⟨p,xs,i,z,rfl,rfl,hq,he,q⟩:=h;cases rx;obtain⟨t,rfl⟩:=ry;obtain⟨its,r,pl,hz⟩:=I.list hq;obtain⟨j,h1,h2,h3,h4,h5⟩:=iz he;obtain⟨w,ew,rw'⟩:=r.get h2;have hl:=r.length;have hn:=iU;have fin:EP X pins σ Q w s:=⟨z,H,I,rw',q⟩
 by_cases h0:0<=i
 ·have hj:i.toNat=j:=by
   rw[LS h0 h5] at h1;exact EQ h1
  exact item_listR pl.isList h0 (by lia) (by rw[hj]; simpa using ew) fin hs
 ·have hj:(i+(its.toArray.size:Int)).toNat=j:=by
   rw[seqIndex_neg (by lia) h4] at h1
   rw[Bz,<-hl];exact EQ h1
  exact L6 (x:=w) pl.isList.typeIs slot_list_getitem.lookup
   (wpAny_getItem_list_neg (Q:=λr s'=>r=w/\EP X pins σ Q r s') pl.isList (by lia) (by rw[Bz] <;> lia) (by lia) (by rw[hj]; simpa using ew) ⟨rfl,fin⟩) hs
theorem BA:yG X (rIxT X.K):=by
 intro value slice pins s σ H x y v u Q I rx ry h hs;obtain⟨p,xs,i,z,rfl,rfl,hq,he,q⟩:=h;cases rx;obtain⟨t,rfl⟩:=ry;obtain⟨its,r,pl,hz⟩:=I.tuple hq;obtain⟨j,h1,h2,h3,h4,h5⟩:=iz he;obtain⟨w,ew,rw'⟩:=r.get h2;have hl:=r.length;have hn:=iU;have fin:EP X pins σ Q w s:=⟨z,H,I,rw',q⟩;exact L6 (x:=w) pl.typeIs Fd.lookup
  (getItem_tuple (j:=j) (Q:=λr s'=>r=w/\EP X pins σ Q r s') pl (by lia) (by lia) (by rw[Bz,<-hl]; exact h1) (by simpa using ew) ⟨rfl,fin⟩) hs
theorem BC:yG X rIxS:=by
 intro value slice pins s σ H x y v u Q I rx ry h hs;obtain⟨z,i,c,rfl,rfl,hz,he,q⟩:=h;obtain⟨t,rfl⟩:=rx;obtain⟨t',rfl⟩:=ry;obtain⟨j,h1,h2,h3,h4,h5⟩:=iz he;have hl:z.cps.toList.length=z.length:=by simp[Str.length]
 rw[hl] at h1 h4 h5;have hn:=iU;exact tail_any (typeIs_str s z t) slot_str_getitem.lookup (getItem_str (c:=c) (by
  have e1:decide (i < -(2 ^ 63:Int))=false:=decide_eq_false (by lia)
  have e2:decide (i>=2 ^ 63)=false:=decide_eq_false (by lia)
  rw[e1,e2,Bool.or_false]) (by rw[h1]; simpa using h2) ⟨.str ⟨#[c]⟩,H,I.tok _,⟨_,rfl⟩,q⟩) hs
noncomputable def DX(K:AC):R2:=λx y H Q=>rIxL K x y H Q\/rIxT K x y H Q\/rIxS x y H Q
theorem BD:yG X (DX X.K):=yH.or (BA.or BC)
theorem qQ(its:List Value)(n j:Nat)(u:Value):Ew (·.setIfInBounds j u) { cls:=.type "list",data:=.seq its.toArray n }={ cls:=.type "list",data:=.seq (its.set j u).toArray n }:=by
 simp[Ew]
theorem Inv.lst{pins:List (Addr×Obj)}{σ:St}{H:Hp}{s:Bi}{p:Addr}{xs:List V}(I:Inv X pins σ H s)(h:H p=some (.lst xs)) :
  ∃ (its:List Value) (n:Nat),Vals xs its/\s.heap.get? p=some { cls:=.type "list",data:=.seq its.toArray n }/\xs.length<=E4:=by
 obtain⟨z,its,n,r,e⟩:=I.hok p _ h;exact⟨its,n,r,e,z⟩
theorem Inv.BE{pins:List (Addr×Obj)}{σ:St}{H:Hp}{s:Bi}{p:Addr}{xs ys:List V}{its its':List Value}{n n':Nat}{f:Obj->Obj}(I:Inv X pins σ H s)(h:H p=some (.lst xs))
  (ho:s.heap.get? p=some { cls:=.type "list",data:=.seq its.toArray n }) (hf:f { cls:=.type "list",data:=.seq its.toArray n }={ cls:=.type "list",data:=.seq its'.toArray n' }) (r:Vals ys its') (hz:ys.length<=E4) (t:Nat) :
  Inv X pins σ (upd H p (.lst ys)) { s with heap:=s.heap.update p f,toks:=t }:=by
 have e:(s.heap.update p f).get? p=some { cls:=.type "list",data:=.seq its'.toArray n' }:=by
  rw[KO f ho (by rw[hf] <;> rfl),hf]
 refine I.write (x:=p) (e:=p) (by rw[h]; trivial) (.inl rfl) (λb u hb q=>(IK _ _ (Gz hb)).trans q) ⟨_,e⟩ ?_
 exact⟨hz,its',n',r,e⟩
def pJ:V->V->V->Hp->(Hp->Prop)->Prop:=λo i v H Q=>∃p xs k j,o=.ref p/\i=.int k/\H p=some (.lst xs)/\sj xs.length k=some j/\Q (upd H p (.lst (xs.set j v)))
theorem set_list:PSet X pJ:=by
 intro pins s σ H o i v ov iv u Q I ro ri rv h;obtain⟨p,xs,k,j,rfl,rfl,hp,hj,q⟩:=h;cases ro;obtain⟨t,rfl⟩:=ri;obtain⟨its,n,r,ho,hz⟩:=I.lst hp;obtain⟨h1,h2,h3,h4⟩:=sr hj;have hl:=r.length;have hn:=iU;have I':Inv X pins σ (upd H p (.lst (xs.set j v))) { s with heap:=s.heap.update p (Ew (·.setIfInBounds j u)) } :=
  I.BE hp ho (qQ its n j u) (r.set rv j) (by rw[List.length_set]; exact hz) s.toks
 by_cases h0:0<=k
 ·have hk:k.toNat=j:=by
   rw[LS h0 h4] at h1;exact EQ h1
  exact PySem.W.ki_setAt ho h0 (by lia) (by rw[Bz,<-hl]; exact h4) (by rw[hk]; exact⟨_,I',q⟩)
 ·have hk:(k+(its.toArray.size:Int)).toNat=j:=by
   rw[seqIndex_neg (by lia) h3] at h1
   rw[Bz,<-hl];exact EQ h1
  exact PySem.W.ki_setBack ho (by lia) (by rw[Bz,<-hl]; exact h3) (by lia) (by rw[hk]; exact⟨_,I',q⟩)
theorem nJ(lo hi:Option Int)(n:Nat):(He lo hi none n).1=((HT.cP n 0 lo:Nat):Int)/\(He lo hi none n).2.1=((HT.cP n n hi:Nat):Int)/\(He lo hi none n).2.2=1:=by
 refine⟨?_,?_,rfl⟩
 ·cases lo with
  |none=>simp[He,HT.cP]
  |some i=>
   simp only[He,HT.cP,Ku,show (1:Int)>0 by decide,if_true]
   by_cases h:i<0
   ·simp only[h,if_true] <;> lia
   ·simp only[h,if_false] <;> lia
 ·cases hi with
  |none=>simp[He,HT.cP]
  |some i=>
   simp only[He,HT.cP,Ku,show (1:Int)>0 by decide,if_true]
   by_cases h:i<0
   ·simp only[h,if_true] <;> lia
   ·simp only[h,if_false] <;> lia
theorem lP(its:List Value)(lo hi:Option Int):slicePick its.toArray lo hi none=((its.drop (HT.cP its.length 0 lo)).take (HT.cP its.length its.length hi-HT.cP its.length 0 lo)).toArray:=by
 obtain⟨h1,h2,h3⟩:=nJ lo hi its.toArray.size;unfold slicePick;rw[h1,h2,h3];simp only[sliceRange_one,pick_run,Bz] <;> rfl
def rSlL(K:AC):V->Option Int->Option Int->Hp->VK->Prop:=λx lo hi H Q=>∃a xs,x=.ref a/\fL K H a xs/\∀p,H p=none->Q (.ref p) (upd H p (.lst (kB xs lo hi)))
theorem yI:yE X (rSlL X.K):=by
 intro pins s σ H x v vl vu lo hi sl Q I rx hs pl pu h;obtain⟨a,xs,rfl,hx,q⟩:=h;cases rx;obtain⟨its,r,ht,hz⟩:=I.list hx;have hlen:=r.length;refine⟨"list",_,slot_list_getitem.lookup,ht.isList.typeIs,?_⟩;refine wpAny_getItem_list_slice ht.isList hs pl pu .none (by simp) ?_ (by rw[Bz] <;> lia)
 rw[lP,<-hlen];refine⟨.ref s.heap.objs.size,_,I.laid (t':=s.toks) (o:=.lst (kB xs lo hi)) (λb ob q=>BM _ q) (Db _) ?_,rfl,q _ (I.hok.fresh (Db _))⟩
 exact⟨FH (jO xs lo hi) hz,_,0,(r.drop (HT.cP xs.length 0 lo)).take (HT.cP xs.length xs.length hi-HT.cP xs.length 0 lo),Dx _ rfl⟩
theorem nK:aZ X (.builtin "len") (λxs H Q=>∃p ys,xs=[.ref p]/\(fL X.K H p ys\/dJ X.K H p ys)/\Q (.int ys.length) H):=by
 intro pins s σ H xs us Q I r h;obtain⟨p,ys,rfl,hq,q⟩:=h;obtain⟨u,rfl,rx⟩:=vals1 r;cases rx;have hn:=iU;rcases hq with hq | hq
 ·obtain⟨its,r',pl,hz⟩:=I.list hq
  have hlen:=r'.length;exact Calls.call_len_list pl.isList (by simp only[Bz] <;> lia) ⟨.int ys.length,H,I.tok _,⟨s.toks+1,by rw[Bz,hlen]⟩,q⟩
 ·obtain⟨its,r',pl,hz⟩:=I.tuple hq
  have hlen:=r'.length;exact len_tuple pl (by simp only[Bz] <;> lia) ⟨.int ys.length,H,I.tok _,⟨s.toks+1,by rw[Bz,hlen]⟩,q⟩
theorem nL:aZ X (.builtin "len") (λxs H Q=>∃z,xs=[.str z]/\z.length<=E4/\Q (.int z.length) H):=by
 intro pins s σ H xs us Q I r h;obtain⟨z,rfl,hz,q⟩:=h;obtain⟨u,rfl,t,rfl⟩:=vals1 r;have hn:=iU;exact len_str (by lia) ⟨.int z.length,H,I.tok _,⟨_,rfl⟩,q⟩
theorem nM:aZ X (.type "list") (λxs H Q=>∃p ys,xs=[.ref p]/\(fL X.K H p ys\/dJ X.K H p ys)/\∀l,H l=none->Q (.ref l) (upd H l (.lst ys))):=by
 intro pins s σ H xs us Q I r h;obtain⟨p,ys,rfl,hq,q⟩:=h;obtain⟨u,rfl,rx⟩:=vals1 r;cases rx;have fin:∀(its:List Value),Vals ys its->ys.length<=E4->∀(h':Heap)(c':Nat),(∀b o',s.heap.get? b=some o'->h'.get? b=some o') ->
   h'.get? s.heap.objs.size=some { cls:=.type "list",dict:=none,data:=.seq its.toArray c',slots:=#[] }->EP X pins σ Q (.ref s.heap.objs.size) { s with heap:=h' }:=λits r' hz h' c' kp e=>
  ⟨.ref s.heap.objs.size,_,I.laid (t':=s.toks) kp (Db _) (show cy X.prog X.w _ h' _ (.lst ys) from⟨hz,its,c',r',e⟩),rfl,q _ (I.hok.fresh (Db _))⟩
 rcases hq with hq | hq
 ·obtain⟨its,r',pl,hz⟩:=I.list hq
  have hlen:=r'.length;obtain⟨o,ho,hc,n,hd⟩:=pl.isList;exact call_list_seq p (.inl rfl) ho hc hd (λh' c' kp e=>fin its r' hz h' c' kp e) (by simp only[Bz] <;> lia)
 ·obtain⟨its,r',pl,hz⟩:=I.tuple hq
  have hlen:=r'.length;obtain⟨o,ho,hc,n,hd⟩:=pl;exact call_list_seq p (.inr rfl) ho hc hd (λh' c' kp e=>fin its r' hz h' c' kp e) (by simp only[Bz] <;> lia)
theorem lQ:aZ X (.type "tuple") (λxs H Q=>∃p ys,xs=[.ref p]/\((fL X.K H p ys/\∀l,H l=none->Q (.ref l) (upd H l (.tup ys)))\/(dJ X.K H p ys/\Q (.ref p) H))):=by
 intro pins s σ H xs us Q I r h;obtain⟨p,ys,rfl,h⟩:=h;obtain⟨u,rfl,rx⟩:=vals1 r;cases rx;rcases h with⟨hq,q⟩ | ⟨hq,q⟩
 ·obtain⟨its,r',pl,hz⟩:=I.list hq
  have hlen:=r'.length;refine call_tuple_list pl.isList (λh' kp=>?_) (by simp only[Bz] <;> lia)
  have I1:Inv X pins σ H { s with heap:=h' }:=I.kept (t':=s.toks) kp
  have I2:Inv X pins σ (upd H h'.objs.size (.tup ys)) { s with heap:=h'.push { cls:=.type "tuple",data:=.seq its.toArray } } :=
   I1.laid (t':=s.toks) (λb o e=>BM _ e) (Db _) (show cy X.prog X.w _ _ _ (.tup ys) from⟨hz,its,r',fJ.new _ _⟩)
  exact⟨.ref h'.objs.size,_,I2,rfl,q _ (I1.hok.fresh (Db _))⟩
 ·obtain⟨its,r',pl,hz⟩:=I.tuple hq
  exact call_tuple_same pl ⟨.ref p,H,I,rfl,q⟩
def DY(K:AC)(T:String)(x:V)(H:Hp):Prop:=match x with
 |.str _=>T = "str"
 |.int _=>T = "int"
 |.ref p=>(T = "list"/\∃xs,fL K H p xs)\/(T = "tuple"/\∃xs,dJ K H p xs) \/
  (T = "dict"/\((∃kvs,H p=some (.dK kvs))\/∃kvs,H p=some (.dT kvs)))\/(T = "set"/\∃S n,H p=some (.set S n))
 |_=>False
theorem BF{pins:List (Addr×Obj)}{σ:St}{H:Hp}{s:Bi}{T:String}{x:V}{v:Value}(I:Inv X pins σ H s)(r:RelV x v)(ty:DY X.K T x H) :
  s.TypeIs v T/\∀a,v=.ref a->∃ob,s.heap.get? a=some ob/\ob.dict=none:=by
 cases x with
 |str z=>
  obtain⟨t,rfl⟩:=r;cases (show T = "str" from ty)
  exact⟨typeIs_str s z t,λ_ e=>nomatch e⟩
 |int i=>
  obtain⟨t,rfl⟩:=r;cases (show T = "int" from ty)
  exact⟨typeIs_int s i t,λ_ e=>nomatch e⟩
 |ref p=>
  cases r;rcases ty with⟨rfl,xs,hq⟩ | ⟨rfl,xs,hq⟩ | ⟨rfl,hk⟩ | ⟨rfl,S,n,hk⟩
  ·obtain⟨its,_,pl,_⟩:=I.list hq
   refine⟨pl.isList.typeIs,λa e=>?_⟩
   cases e;obtain⟨o,n,e,c,hd,_⟩:=pl;exact⟨o,e,hd⟩
  ·obtain⟨its,_,⟨o,ho,hc,n,_,hd⟩,_⟩:=I.uT hq
   refine⟨⟨o,ho,hc⟩,λa e=>?_⟩
   cases e;exact⟨o,ho,hd⟩
  ·have z:∃o,s.heap.get? p=some o/\o.ExactDict:=by
    rcases hk with⟨kvs,hk⟩ | ⟨kvs,hk⟩
    ·obtain⟨_,_,_,_,o,_,_,e,ex,_⟩:=I.hok p _ hk
     exact⟨o,e,ex⟩
    ·obtain⟨_,_,_,_,o,_,_,e,ex,_⟩:=I.hok p _ hk
     exact⟨o,e,ex⟩
   obtain⟨o,e,ex⟩:=z;refine⟨⟨o,e,ex.1⟩,λa e2=>?_⟩
   cases e2;exact⟨o,e,ex.2.1⟩
  ·obtain⟨o,_,_,_,e,ex,_⟩:=I.hok p _ hk
   refine⟨⟨o,e,ex.1⟩,λa e2=>?_⟩
   cases e2;exact⟨o,e,ex.2.1⟩
 |_=>exact Go ty
noncomputable def uL(K:AC)(T:String)(r:V->List V->Hp->VK->Prop)(to:TE)(t:TA):TE:=λσ H Q=>to σ H λx H1=>DY K T x H1/\t σ H1 λxs H2=>r x xs H2 Q
variable{o e:Expr}{es:List Expr}{to:TE}{t:TA}{name:Str}{apos cpos:Pos}{T id:String}{r:V->List V->Hp->VK->Prop}
theorem jP(pa:PlainAttrs T)(slot:Slot T name id)(hty:typeOf (.builtin id)=pure (.type "method_descriptor"))(hm:Ef X id r)(ho:PE X o to)(ha:PA X (e::es) t)
  (hbase:attributeBase o name X.env (eval o X.env)=eval o X.env:=by rfl)
  (hfew:((HX cpos (E6 (e::es) X.env)).all (λx=> !x.1) && (backToKw cpos (keywordEach [] X.env)).all (λx=>x.1.isSome)
   && decide ((e::es).length+([]:List Keyword).length+(if ([]:List Keyword).isEmpty then 0 else 1)<30))=true:=by rfl)
  (hline:(apos.endLine == cpos.line)=true:=by rfl) (hs:E6 (e::es) X.env=(false,eval e X.env)::E6 es X.env:=by rfl) (hplain:(HX cpos (E6 es X.env)).any (·.1)=false:=by rfl) :
  PE X (.Call (.Attribute o name apos) (e::es) [] cpos) (uL X.K T r to t):=by
 intro pins s σ H Q I h;refine wpAny_Call_method_late hbase hfew hline rfl (b7 (ho pins s σ H _ I h) λv s1 ⟨x,H1,I1,r1,ty,q1⟩=>?_)
 obtain⟨h1,h2⟩:=BF I1 r1 ty;refine⟨T,id,pa,slot,hty,h1,h2,?_⟩;have hA:=ha cpos pins s1 σ H1 _ I1 q1;rw[hs] at hA ⊢;refine Calls.callWith_builtin (by show (false || (HX cpos (E6 es X.env)).any (·.1))=false; rw[hplain] <;> rfl) (Calls.evalArgs_plain ?_)
 exact b7 hA λus s2 ⟨vs,H2,I2,r2,q2⟩=>hm pins s2 σ H2 x vs v us Q I2 r1 r2 q2
end
end L2
namespace L2
open PySem PySem.Spec PyProof.Rows
def DB(X:Cx)(id:String)(r:V->List V->Hp->VK->Prop):Prop :=
 ∀(pins:List (Addr×Obj))(s:Bi)(σ:St)(H:Hp)(x:V)(xs:List V)(v:Value)(us:List Value)(Q:VK),Inv X pins σ H s->RelV x v->Vals xs us->r x xs H Q ->
  wpAny (model X.prog X.w) X.A (call (.builtin id) (v::us)) (EP X pins σ Q) X.xe s
theorem Vals.one:∀{x:V}{us:List Value},Vals [x] us->∃u,us=[u]/\RelV x u:=by
 intro x us h;cases h with | cons r t=>
 cases t;exact⟨_,rfl,r⟩
theorem Vals.two:∀{x y:V}{us:List Value},Vals [x,y] us->∃u v,us=[u,v]/\RelV x u/\RelV y v:=by
 intro x y us h;cases h with | cons r t=>
 obtain⟨v,rfl,q⟩:=Vals.one t;exact⟨_,_,rfl,r,q⟩
theorem Vals.eraseIdx:∀{xs:List V}{us:List Value}(i:Nat),Vals xs us->Vals (xs.eraseIdx i) (us.eraseIdx i)
 |_,_,_,.nil=>.nil
 |_,_,0,.cons _ t=>t
 |_,_,i+1,.cons r t=>.cons r (Vals.eraseIdx i t)
theorem mF{α:Type}:∀(l:List α)(i:Nat),(l.eraseIdx i).length<=l.length
 |[],_=>Db _
 |_::_,0=>HU _
 |_::r,i+1=>Nat.succ_le_succ (mF r i)
section
variable{X:Cx}{pins:List (Addr×Obj)}{σ:St}{H:Hp}{s:Bi}{l b:Addr}{xs ys zs:List V}
theorem Inv.lset{its its':List Value}{n:Nat}{f:Array Value->Array Value}{t':Nat}(I:Inv X pins σ H s)(hH:H l=some (.lst xs))
  (e:s.heap.get? l=some { cls:=.type "list",data:=.seq its.toArray n }) (hf:f its.toArray=its'.toArray) (hv:Vals ys its') (hz:ys.length<=E4) :
  Inv X pins σ (upd H l (.lst ys)) { s with heap:=s.heap.update l (Ew f),toks:=t' }:=by
 have q:=PySem.IsL.update e f;rw[hf] at q;refine I.write (x:=l) (e:=l) (by rw[hH]; exact trivial) (.inl rfl) (λb' u hb hu=>(IK s.heap (Ew f) (Gz hb)).trans hu) ⟨_,q⟩ ?_
 exact⟨hz,its',_,hv,q⟩
theorem Inv.lnew{its:List Value}{t':Nat}(I:Inv X pins σ H s)(hv:Vals ys its)(hz:ys.length<=E4) :
  Inv X pins σ (upd H s.heap.objs.size (.lst ys)) { s with heap:=s.heap.push { cls:=.type "list",data:=.seq its.toArray },toks:=t' } :=
 I.laid (λ_ _ q=>BM _ q) (Db _) ⟨hz,its,0,hv,Dx _ rfl⟩
theorem Inv.fresh(I:Inv X pins σ H s):H s.heap.objs.size=none:=I.hok.fresh (Db _)
theorem Inv.jg(I:Inv X pins σ H s)(hH:H l=some (.lst xs)):xs.length<=E4/\∃ (its:List Value) (n:Nat),Vals xs its/\xs.length=its.length/\s.heap.get? l=some { cls:=.type "list",data:=.seq its.toArray n }:=by
 obtain⟨z,its,n,r,e⟩:=I.hok l _ hH;exact⟨z,its,n,r,r.length,e⟩
theorem vm{n:Nat}(h:n<=E4):HV n=false:=by
 unfold HV;exact decide_eq_false (by lia)
end
section
variable{X:Cx}
def iA:V->List V->Hp->VK->Prop:=λx vs H Q=>∃l xs y,x=.ref l/\vs=[y]/\H l=some (.lst xs)/\xs.length<E4/\Q .non (upd H l (.lst (xs++[y])))
theorem fO:DB X "list.append" iA:=by
 intro pins s σ H x vs v us Q I rx rv h;obtain⟨l,xs,y,rfl,rfl,hH,hz,q⟩:=h;cases rx;obtain⟨u,rfl,ru⟩:=rv.one;obtain⟨z,its,n,r,hl,e⟩:=I.jg hH;refine JC GX ⟨_,e,rfl⟩ F.entry_list_append (F.args_list_append_2 _ _) (PySem.list_append l its.toArray n u (by rw[Bz]; lia)) ⟨e,?_⟩
 refine⟨.non,_,I.lset (its':=its++[u]) hH e (by simp) (r.append (.cons ru .nil)) ?_,rfl,q⟩
 rw[E3,EF];lia
def nN:V->List V->Hp->VK->Prop:=λx vs H Q=>∃l b xs zs,x=.ref l/\vs=[.ref b]/\H l=some (.lst xs)/\H b=some (.lst zs)/\xs.length+zs.length<=E4/\Q .non (upd H l (.lst (xs++zs)))
theorem mG:DB X "list.extend" nN:=by
 intro pins s σ H x vs v us Q I rx rv h;obtain⟨l,b,xs,zs,rfl,rfl,hH,hB,hz,q⟩:=h;cases rx;obtain⟨u,rfl,ru⟩:=rv.one;cases ru;obtain⟨z,its,n,r,hl,e⟩:=I.jg hH;obtain⟨z2,its2,n2,r2,hl2,e2⟩:=I.jg hB;have hsz:its.toArray.size+its2.toArray.size<=E4:=by rw[Bz,Bz]; lia
 have hlong:¬ (!its.toArray.isEmpty && HV (its.toArray.size+its2.toArray.size))=true:=by
  rw[vm hsz,Bool.and_false];exact Gg
 refine JC IG ⟨_,e,rfl⟩ F.entry_list_extend (F.args_list_extend_2 _ _)
  (AutoSeq1.list_extend_list_list_0 l its.toArray n b its2.toArray n2 hlong (by rw[Bz]; lia) (by lia)) ⟨e,e2,?_⟩
 refine⟨.non,_,I.lset (its':=its++its2) hH e (by simp) (r.append r2) ?_,rfl,q⟩
 rw[E3];lia
noncomputable def rCat:R2:=λx y H Q=>∃l b xs zs,x=.ref l/\y=.ref b/\H l=some (.lst xs)/\H b=some (.lst zs)/\xs.length+zs.length<=E4/\∀p,H p=none->Q (.ref p) (upd H p (.lst (xs++zs)))
theorem BG:dY X (Fq .Add) rCat:=by
 intro pins s σ H x y v u Q I rx ry h;obtain⟨l,b,xs,zs,rfl,rfl,hH,hB,hz,q⟩:=h;cases rx;cases ry;obtain⟨z,its,n,r,hl,e⟩:=I.jg hH;obtain⟨z2,its2,n2,r2,hl2,e2⟩:=I.jg hB;refine PySem.P.add_list e e2 ?_ (by rw[Bz,Bz]; lia)
 have ea:its.toArray++its2.toArray=(its++its2).toArray:=by simp
 rw[ea];exact⟨.ref _,_,I.lnew (t':=s.toks) (r.append r2) (by rw[E3]; lia),rfl,q _ I.fresh⟩
end
end L2
namespace L2
open PySem PySem.Spec PyProof.Rows
section
variable{κ:Type}[DecidableEq κ]
noncomputable def fP(kvs:List (κ×V))(k:κ):Option V:=(kvs.find? λkv=>decide (kv.1=k)).map (·.2)
noncomputable def putK(kvs:List (κ×V))(k:κ)(v:V):List (κ×V) :=
 if (kvs.any λkv=>decide (kv.1=k))=true then kvs.map (λkv=>if kv.1=k then (kv.1,v) else kv) else kvs++[(k,v)]
theorem eS{p:κ×V}{r:List (κ×V)}{k:κ}(e:p.1=k):fP (p::r) k=some p.2:=by simp[fP,Fe,e]
theorem eT{p:κ×V}{r:List (κ×V)}{k:κ}(e:¬p.1=k):fP (p::r) k=fP r k:=by simp[fP,Fe,e]
theorem pK(k:κ):∀kvs:List (κ×V),(kvs.any λkv=>decide (kv.1=k))=(fP kvs k).isSome
 |[]=>rfl
 |p::r=>by
  rw[Fl]
  by_cases e:p.1=k
  ·simp only[eS e,decide_eq_true e,Bool.true_or,Kf]
  ·rw[eT e,decide_eq_false e,Bool.false_or]; exact pK k r
theorem fj(kvs:List (κ×V))(k:κ)(v:V):(putK kvs k v).length<=kvs.length+1:=by
 unfold putK
 split
 ·rw[At]; lia
 ·rw[E3,E7,F9]; lia
theorem lI.fQ{o:Option V}{u:Option Value}(r:lI o u):o.isSome=u.isSome:=by
 cases o with
 |none=>cases u with
  |none=>rfl
  |some _=>exact(show False from r).elim
 |some _=>cases u with
  |none=>exact(show False from r).elim
  |some _=>rfl
theorem KV.val{kvs:List (κ×V)}{vs:List (κ×Value)}(r:KV kvs vs)(k:κ):lI (fP kvs k) (JO vs k):=by
 unfold KV at r
 induction r with
 |nil=>exact HC
 |@cons p q ps qs h t ih=>
  obtain⟨h1,h2⟩:=h
  by_cases e:p.1=k
  ·have e':q.1=k:=h1.symm.trans e
   have b:JO (q::qs) k=some q.2:=by simp[JO,Fe,e']
   rw[eS e,b]; exact h2
  ·have e':¬q.1=k:=λz=>e (h1.trans z)
   have b:JO (q::qs) k=JO qs k:=by simp[JO,Fe,e']
   rw[eT e,b]; exact ih
theorem KV.any{kvs:List (κ×V)}{vs:List (κ×Value)}(r:KV kvs vs)(k:κ):(kvs.any λkv=>decide (kv.1=k))=vs.any λkv=>decide (kv.1=k):=by
 unfold KV at r
 induction r with
 |nil=>rfl
 |cons h t ih=>rw[Fl,Fl,ih,h.1]
theorem KV.repl{kvs:List (κ×V)}{vs:List (κ×Value)}(r:KV kvs vs)(k:κ){y:V}{u:Value}(ry:RelV y u) :
  KV (kvs.map λkv=>if kv.1=k then (kv.1,y) else kv) (vs.map λkv=>if kv.1=k then (kv.1,u) else kv):=by
 unfold KV at r ⊢
 induction r with
 |nil=>exact .nil
 |@cons p q ps qs h t ih=>
  rw[EH,EH];refine .cons ?_ ih;obtain⟨h1,h2⟩:=h
  by_cases e:p.1=k
  ·rw[if_pos e,if_pos (h1.symm.trans e)]; exact⟨h1,ry⟩
  ·rw[if_neg e,if_neg (λz=>e (h1.trans z))]; exact⟨h1,h2⟩
theorem KV.put{kvs:List (κ×V)}{vs:List (κ×Value)}(r:KV kvs vs)(k:κ){y:V}{u:Value}(ry:RelV y u):KV (putK kvs k y) (Kx vs k u):=by
 unfold putK Kx;rw[r.any k]
 by_cases e:(vs.any λkv=>decide (kv.1=k))=true
 ·rw[if_pos e,if_pos e]; exact r.repl k ry
 ·rw[if_neg e,if_neg e]; exact Lq r ⟨rfl,ry⟩
theorem KV.length{kvs:List (κ×V)}{vs:List (κ×Value)}(r:KV kvs vs):kvs.length=vs.length:=GJ r
end
theorem kC{P:EK}{w:World}{k:Key}{u:Value}(r:RelV (kV k) u):(aJ P w).is k u=true:=by
 cases k with
 |inl i=>obtain⟨t,e⟩:=(show ∃t,u=Jr i t from r); subst e; exact pq P w i t
 |inr x=>obtain⟨t,e⟩:=(show ∃t,u=L1 x t from r); subst e; exact pA P w x t
theorem mH{P:EK}{w:World}:∀{ks:List Key}{us:List Value},Vals (ks.map kV) us->ItemsAre (aJ P w) ks us
 |[],_,r=>by rw[IM] at r; cases r; exact .nil
 |k::ks,_,r=>by
  rw[EH] at r;cases r with
  |cons h t=>exact .cons (kC h) (mH t)
abbrev KT(H:Hp):List (List Key×V)->List (List Key×Addr×Value)->Prop:=Gm λp q=>p.1=q.1/\H q.2.1=some (.tup (p.1.map kV))/\RelV p.2 q.2.2
theorem KT.val{H:Hp}{kvs:List (List Key×V)}{xs:List (List Key×Addr×Value)}(r:KT H kvs xs)(k:List Key):lI (fP kvs k) ((atKey xs k).map (·.2)):=by
 induction r with
 |nil=>exact HC
 |@cons p q ps qs h t ih=>
  obtain⟨h1,_,h2⟩:=h
  by_cases e:p.1=k
  ·have e':q.1=k:=h1.symm.trans e
   have b:atKey (q::qs) k=some q.2:=by simp[atKey,Fe,e']
   rw[eS e,b]; exact h2
  ·have e':¬q.1=k:=λz=>e (h1.trans z)
   have b:atKey (q::qs) k=atKey qs k:=by simp[atKey,Fe,e']
   rw[eT e,b]; exact ih
theorem KT.repl{H:Hp}{kvs:List (List Key×V)}{xs:List (List Key×Addr×Value)}(r:KT H kvs xs)(k:List Key){y:V}{u:Value}(ry:RelV y u) :
  KT H (kvs.map λkv=>if kv.1=k then (kv.1,y) else kv) (xs.map (putAt k u)):=by
 induction r with
 |nil=>exact .nil
 |@cons p q ps qs h t ih=>
  rw[EH,EH];refine .cons ?_ ih;obtain⟨h1,h2,h3⟩:=h;unfold putAt
  by_cases e:p.1=k
  ·rw[if_pos e,if_pos (h1.symm.trans e)]; exact⟨h1,h2,ry⟩
  ·rw[if_neg e,if_neg (λz=>e (h1.trans z))]; exact⟨h1,h2,h3⟩
theorem KT.put{H:Hp}{kvs:List (List Key×V)}{xs:List (List Key×Addr×Value)}(r:KT H kvs xs)(k:List Key){b:Addr}{y:V}{u:Value}(hb:H b=some (.tup (k.map kV)))(ry:RelV y u) :
  KT H (putK kvs k y) (storedH xs k b u):=by
 have e:(kvs.any λkv=>decide (kv.1=k))=(atKey xs k).isSome:=by
  rw[pK,(r.val k).fQ,Io]
 unfold putK storedH;rw[e]
 by_cases q:(atKey xs k).isSome=true
 ·rw[if_pos q,if_pos q]; exact r.repl k ry
 ·rw[if_neg q,if_neg q]; exact Lq r ⟨rfl,hb,ry⟩
theorem KT.keeps{H H':Hp}{kvs:List (List Key×V)}{xs:List (List Key×Addr×Value)}(r:KT H kvs xs)(ht:∀b ys,H b=some (.tup ys)->H' b=some (.tup ys)):KT H' kvs xs :=
 Gm.mapP r λ_ _ z=>⟨z.1,ht _ _ z.2.1,z.2.2⟩
section
variable{P:EK}{w:World}{H:Hp}{h:Heap}{a:Addr}
theorem Ax{u:HO}(ok:iT P w H h)(e:Rd H a u):cy P w H h a u:=e.ok ok
theorem kD{kvs:List (Key×V)}(ok:iT P w H h)(e:Rd H a (.dK kvs)):kvs.length<=E4/\(a == GL)=false/\∃vs,KV kvs vs/\h.DictOf (aJ P w) a vs :=
 show cy P w H h a (.dK kvs) from Ax ok e
theorem vn{kvs:List (Key×V)}(ok:iT P w H h)(e:H a=some (.dK kvs)):kvs.length<=E4/\(a == GL)=false/\∃vs,KV kvs vs/\h.DictOf (aJ P w) a vs:=kD ok (.inl e)
theorem kE{ks:List Key}(ok:iT P w H h)(e:H a=some (.tup (ks.map kV))):(Jl (aJ P w)).is h ks a:=by
 obtain⟨_,its,r,o,h1,h2,n,h3,_⟩:=(show cy P w H h a (.tup (ks.map kV)) from ok a _ e)
 exact⟨o,its.toArray,n,h1,h2,h3,by simpa using mH r⟩
theorem pL{kvs:List (List Key×V)}(ok:iT P w H h)(e:Rd H a (.dT kvs)):kvs.length<=E4/\(a == GL)=false /\
  ∃xs,KT H kvs xs/\h.DictOfH (Jl (aJ P w)) a xs:=by
 obtain⟨z,y,xs,r,o,es,ep,h1,h2,h3,h4,h5⟩:=(show cy P w H h a (.dT kvs) from Ax ok e)
 refine⟨z,y,xs,r,o,es,ep,h1,h2,h3,h4,λx hx=>?_,h5⟩
 have all:∀{l:List (List Key×V)}{m:List (List Key×Addr×Value)},KT H l m->∀x∈m,(Jl (aJ P w)).is h x.1 x.2.1:=by
  intro l m q
  induction q with
  |nil=>intro x hx; exact nomatch hx
  |@cons p q ps qs hq t ih=>
   intro x hx;rcases lK hx with e | hx
   ·subst e
    exact kE ok (by rw[<-hq.1]; exact hq.2.1)
   ·exact ih x hx
 exact all r x hx
theorem dt_of{kvs:List (List Key×V)}(ok:iT P w H h)(e:H a=some (.dT kvs)):kvs.length<=E4/\(a == GL)=false /\
  ∃xs,KT H kvs xs/\h.DictOfH (Jl (aJ P w)) a xs:=pL ok (.inl e)
end
def iV(H:Hp)(a:Addr)(y:V)(r:Option V):Prop :=
 (∃kvs k,Rd H a (.dK kvs)/\y=kV k/\r=fP kvs k)\/∃kvs k b,Rd H a (.dT kvs)/\y=.ref b/\H b=some (.tup (k.map kV))/\r=fP kvs k
def vo(H:Hp)(a:Addr)(y v:V)(H':Hp):Prop :=
 (∃kvs k,H a=some (.dK kvs)/\y=kV k/\kvs.length<E4/\H'=upd H a (.dK (putK kvs k v))) \/
 ∃kvs k b,H a=some (.dT kvs)/\y=.ref b/\H b=some (.tup (k.map kV))/\kvs.length<E4/\H'=upd H a (.dT (putK kvs k v))
theorem iV.k{H:Hp}{a:Addr}{kvs:List (Key×V)}{k:Key}(e:H a=some (.dK kvs)):iV H a (kV k) (fP kvs k):=.inl ⟨kvs,k,.inl e,rfl,rfl⟩
theorem vo.k{H:Hp}{a:Addr}{kvs:List (Key×V)}{k:Key}{v:V}(e:H a=some (.dK kvs))(hl:kvs.length<E4):vo H a (kV k) v (upd H a (.dK (putK kvs k v))):=.inl ⟨kvs,k,e,rfl,hl,rfl⟩
section
variable{X:Cx}{pins:List (Addr×Obj)}{σ:St}{H:Hp}{s:Bi}{a:Addr}{y v:V}{u r:Value}{o:Option V}{A:FK}{E:Value->Bi->Prop}
theorem Inv.big(I:Inv X pins σ H s):GL<s.heap.objs.size:=by
 have h:Ee<s.heap.objs.size:=(I.mod.glob.keeps I.bk).lt;exact Nat.lt_trans (by decide) h
theorem tY{Q:Value->Bi->Prop}(hu:A.units+1<cLine)(I:Inv X pins σ H s)(g:iV H a y (some v))(ry:RelV y u)(h:∀w' s',Inv X pins σ H s'->RelV v w'->Q w' s') :
  wpAny (model X.prog X.w) A (II (.ref a) u) Q E s:=by
 rcases g with⟨kvs,k,e,ey,l⟩ | ⟨kvs,k,b,e,ey,eb,l⟩
 ·subst ey
  obtain⟨z,hd,vs,rel,dd⟩:=kD I.hok e;obtain⟨w',hw,rw'⟩:=lI.some_of (v:=v) (o:=JO vs k) (by rw[l]; exact rel.val k)
  exact wpAny_getItem_of (kC ry) dd.mapOf hw (h w' _ (I.tok _) rw')
 ·subst ey
  cases (show u=GQ b from ry)
  obtain⟨z,hd,xs,rel,dd⟩:=pL I.hok e;obtain⟨w',hw,rw'⟩:=lI.some_of (v:=v) (o:=(atKey xs k).map (·.2)) (by rw[l]; exact rel.val k)
  obtain⟨p,hp,hp2⟩:=Ff.mp hw;refine wpAny_getItem_heap (I9 hu) (kE I.hok eb) dd hp ?_;rw[hp2];exact h w' _ (I.tok _) rw'
theorem d_in{Q:Value->Bi->Prop}(hu:A.units+1<cLine)(I:Inv X pins σ H s)(g:iV H a y o)(ry:RelV y u)(h:∀s',Inv X pins σ H s'->Q (.bool o.isSome) s') :
  wpAny (model X.prog X.w) A (EW .In u (.ref a)) Q E s:=by
 rcases g with⟨kvs,k,e,ey,l⟩ | ⟨kvs,k,b,e,ey,eb,l⟩
 ·subst ey
  obtain⟨z,hd,vs,rel,dd⟩:=kD I.hok e;refine wpAny_in_of (kC ry) hd dd.mapOf ?_;rw[<-(rel.val k).fQ,<-l];exact h _ (I.tok _)
 ·subst ey
  cases (show u=GQ b from ry)
  obtain⟨z,hd,xs,rel,dd⟩:=pL I.hok e;refine wpAny_in_heap (I9 hu) (kE I.hok eb) hd dd ?_;have q:=(rel.val k).fQ;rw[Io] at q;rw[<-q,<-l];exact h _ (I.tok _)
theorem yJ{Q:Value->Bi->Prop}(hu:A.units+1<cLine)(I:Inv X pins σ H s)(g:iV H a y o)(ry:RelV y u)(h:∀s',Inv X pins σ H s'->Q (.bool (!o.isSome)) s') :
  wpAny (model X.prog X.w) A (EW .NotIn u (.ref a)) Q E s:=by
 rcases g with⟨kvs,k,e,ey,l⟩ | ⟨kvs,k,b,e,ey,eb,l⟩
 ·subst ey
  obtain⟨z,hd,vs,rel,dd⟩:=kD I.hok e;refine wpAny_notIn_of (kC ry) hd dd.mapOf ?_;rw[<-(rel.val k).fQ,<-l];exact h _ (I.tok _)
 ·subst ey
  cases (show u=GQ b from ry)
  obtain⟨z,hd,xs,rel,dd⟩:=pL I.hok e;refine wpAny_notIn_heap (I9 hu) (kE I.hok eb) hd dd ?_;have q:=(rel.val k).fQ;rw[Io] at q;rw[<-q,<-l];exact h _ (I.tok _)
theorem nO{h':Heap}{t':Nat}{ob:HO}(I:Inv X pins σ H s)(mu:Di (H a))(hs:Gf a s.heap h')(he:∃q,h'.get? a=some q)(new:cy X.prog X.w (upd H a ob) h' a ob) :
  Inv X pins σ (upd H a ob) { s with heap:=h',toks:=t' } :=
 I.write (x:=a) (e:=a) mu (.inl rfl) (λb q hb z=>(hs.2 b hb).trans z) he new
theorem vp{P:EK}{w:World}{H':Hp}{h':Heap}{kvs:List (Key×V)}{vs:List (Key×Value)}(z:kvs.length<=E4)(hd:(a == GL)=false)(rel:KV kvs vs)(dd:h'.DictOf (aJ P w) a vs) :
  cy P w H' h' a (.dK kvs):=⟨z,hd,vs,rel,dd⟩
theorem tZ{H':Hp}{Q:Unit->Bi->Prop}(hu:A.units+1<cLine)(I:Inv X pins σ H s)(g:vo H a y v H')(ry:RelV y u)(rv:RelV v r)(h:∀s',Inv X pins σ H' s'->Q () s') :
  wpAny (model X.prog X.w) A (setItem (.ref a) u r) Q E s:=by
 rcases g with⟨kvs,k,e,ey,l,eH⟩ | ⟨kvs,k,b,e,ey,eb,l,eH⟩
 ·subst ey eH
  obtain⟨z,hd,vs,rel,dd⟩:=vn I.hok e;have hz:vs.length<=E4:=by rw[<-rel.length]; exact z
  have hl:(putK kvs k v).length<=E4:=by have:=fj kvs k v; lia
  refine wpAny_setItem_pairs (hsz:=hz) (kC ry) dd λh' dd' hs=>h _ ?_
  have he:∃q,h'.get? a=some q:=let ⟨q,_,_,hq,_⟩:=dd'; ⟨q,hq⟩;exact nO I (by rw[e]; exact HC) hs he (vp hl hd (rel.put k rv) dd')
 ·subst ey eH
  cases (show u=GQ b from ry)
  obtain⟨z,hd,xs,rel,dd⟩:=dt_of I.hok e;have hz:xs.length<=E4:=by rw[<-GJ rel]; exact z
  have hl:(putK kvs k v).length<=E4:=by have:=fj kvs k v; lia
  refine wpAny_setItem_heap (hsz:=hz) (I9 hu) (kE I.hok eb) dd λh' dd' hs=>h _ ?_
  obtain⟨q,es,ep,hq,h2,h3,h4,_,h5⟩:=dd';refine nO I (by rw[e]; exact HC) hs ⟨q,hq⟩ ⟨hl,hd,_,(rel.put k eb rv).keeps λc ys ec=>?_,q,es,ep,hq,h2,h3,h4,h5⟩
  rw[aL (uO ec e (λz=>nomatch z))]
  exact ec
end
section
variable{X:Cx}{pins:List (Addr×Obj)}{σ:St}{H:Hp}{s:Bi}{a:Addr}{kvs:List (Key×V)}{k:Key}{u:Value}{A:FK}{E:Value->Bi->Prop}
theorem Ay{Q:Value->Bi->Prop}(I:Inv X pins σ H s)(e:Rd H a (.dK kvs))(h:∀t s',Inv X pins σ H s'->Q (.int kvs.length t) s'):wpAny (model X.prog X.w) A (call (.builtin "len") [.ref a]) Q E s:=by
 obtain⟨z,hd,vs,rel,dd⟩:=kD I.hok e;refine call_len_dict hd dd (by rw[<-rel.length]; rw[FN] at z; lia) ?_
 rw[<-rel.length];exact h _ _ (I.tok _)
end
def NoSl(i:Expr):Prop:=∀ov iv,Jp i false ov iv=operate [ov,iv] (II ov iv)
theorem yK{prog:EK}{w:World}{A:FK}{E:Value->Bi->Prop}{s:Bi}{env:Env}{value slice:Expr}{pos:Pos}{T id:String}{Q:Value->Bi->Prop}
  (hl:KD (.type T) "__getitem__" = pure (some (.builtin id))) (hs:NoSl slice)
  (h:wpAny (model prog w) A (eval value env) (λo s₁=>wpAny (model prog w) A (eval slice env) (λi s₂=>s₂.TypeIs o T/\wpAny (model prog w) A (II o i) Q E s₂) E s₁) E s) :
  wpAny (model prog w) A (eval (.Subscript value slice pos) env) Q E s:=by
 refine Lw (GT h (λo s₁ h₁=>GT h₁ (λi s₂ h₂=>?_) λ_ _ x=>x) λ_ _ x=>x)
 obtain⟨hT,h₂⟩:=h₂;unfold Km;refine AT ?_;rw[getitemInPython_of_ne hT.not_modules];refine AT (wpAny_specialOf hT hl ?_);have fin:wpAny (model prog w) A (Jp slice false o i) (λr s₃=>wpAny (model prog w) A (letTemporaryGo value o r >>= λ_=>pure r) Q E s₃) E s₂:=by
  rw[hs o i];exact wpAny_operating (GT h₂ (λr s₃ h₃=>AT (wpAny_letTemporaryGo (Bn h₃))) λ_ _ x=>x)
 first
  |exact Bn (AT fin)
  |exact AT (Bn (AT fin))
  |exact AT fin
theorem pM{X:Cx}{pins:List (Addr×Obj)}{σ:St}{H:Hp}{s:Bi}{a:Addr}{y:V}{o:Option V}(I:Inv X pins σ H s)(g:iV H a y o):s.TypeIs (.ref a) "dict" := by
 rcases g with⟨kvs,k,e,_,_⟩ | ⟨kvs,k,b,e,_,_,_⟩
 ·obtain⟨_,_,vs,_,dd⟩:=kD I.hok e
  exact dd.typeIs
 ·obtain⟨_,_,xs,_,dd⟩:=pL I.hok e
  exact dd.typeIs
noncomputable def vq(td ty:TE):TE:=λσ H Q=>td σ H λx H1=>ty σ H1 λy H2=>∃a v,x=.ref a/\iV H2 a y (some v)/\Q v H2
noncomputable def tDIn(ty td:TE):TE:=λσ H Q=>ty σ H λy H1=>td σ H1 λx H2=>∃a o,x=.ref a/\iV H2 a y o/\Q (.bl o.isSome) H2
noncomputable def yL(ty td:TE):TE:=λσ H Q=>ty σ H λy H1=>td σ H1 λx H2=>∃a o,x=.ref a/\iV H2 a y o/\Q (.bl (!o.isSome)) H2
noncomputable def vt(td ty tv:TE):TS:=λD σ H=>tv σ H λv H1=>td σ H1 λx H2=>ty σ H2 λy H3=>∃a H4,x=.ref a/\vo H3 a y v H4/\D.nx σ H4
section
variable{X:Cx}{o i e value:Expr}{pos pos' tpos:Pos}{td ty tv:TE}
theorem su(hu:X.A.units+1<cLine)(ho:PE X o td)(hi:PE X i ty)(hs:NoSl i):PE X (.Subscript o i pos) (vq td ty):=by
 intro pins s σ H Q I h;refine yK PySem.F.slot_dict_getitem.lookup hs (b7 (ho pins s σ H _ I h) λu s1 ⟨x,H1,I1,rx,q1⟩=>b7 (hi pins s1 σ H1 _ I1 q1) λiv s2 ⟨y,H2,I2,ry,a,v,ex,g,q2⟩=>?_)
 subst ex;obtain rfl:u=GQ a:=rx;exact⟨pM I2 g,tY hu I2 g ry λw' s3 I3 rw'=>⟨v,H2,I3,rw',q2⟩⟩
theorem vz(hu:X.A.units+1<cLine)(hi:PE X i ty)(ho:PE X o td):PC X .In i o (tDIn ty td):=by
 intro pins s σ H Q I h;refine b7 (hi pins s σ H _ I h) λiv s1 ⟨y,H1,I1,ry,q1⟩=>b7 (ho pins s1 σ H1 _ I1 q1) λu s2 ⟨x,H2,I2,rx,a,ov,ex,g,q2⟩=>?_
 subst ex;obtain rfl:u=GQ a:=rx;exact d_in hu I2 g ry λs3 I3=>⟨.bl ov.isSome,H2,I3,rfl,q2⟩
theorem t6(hu:X.A.units+1<cLine)(hi:PE X i ty)(ho:PE X o td):PC X .NotIn i o (yL ty td):=by
 intro pins s σ H Q I h;refine b7 (hi pins s σ H _ I h) λiv s1 ⟨y,H1,I1,ry,q1⟩=>b7 (ho pins s1 σ H1 _ I1 q1) λu s2 ⟨x,H2,I2,rx,a,ov,ex,g,q2⟩=>?_
 subst ex;obtain rfl:u=GQ a:=rx;exact yJ hu I2 g ry λs3 I3=>⟨.bl (!ov.isSome),H2,I3,rfl,q2⟩
theorem yM(hu:X.A.units+1<cLine)(ho:PE X o td)(hi:PE X i ty)(hv:PE X value tv)(hs:Gh value (some (.Subscript o i pos')) pos.line X.env=pure false) :
  PS X (.Assign [.Subscript o i pos'] value pos) (vt td ty tv):=by
 intro pins s σ H D I h;refine wpAny_Assign_Subscript (b7 (hv pins s σ H _ I h) λr s1 ⟨v,H1,I1,rv,q1⟩=>b7 (ho pins s1 σ H1 _ I1 q1) λu s2 ⟨x,H2,I2,rx,q2⟩=>b7 (hi pins s2 σ H2 _ I2 q2) λiv s3 ⟨y,H3,I3,ry,a,H4,ex,g,q3⟩=>?_) hs
 subst ex;obtain rfl:u=GQ a:=rx;exact tZ hu I3 g ry rv λs4 I4=>⟨σ,H4,I4,q3⟩
end
theorem vD{P:EK}{w:World}{H:Hp}(h:Heap)(hb:GL<h.objs.size):cy P w H (h.push { cls:=.type "dict",data:=.dict #[] }) h.objs.size (.dK []) :=
 ⟨EY _,beq_eq_false_iff_ne.mpr (Gz (ED hb)),[],.nil,K5 h⟩
end L2
namespace Att
open PySem PySem.W PySem.Calls PyProof.Rows
theorem jZ{P:Params}{h:Heap}:∀(ns:List Int)(vs:List Value),WellAll P h vs (ns.map WData.int)->Fs vs ns:=by
 intro ns
 induction ns with
 |nil=>
  intro vs w;rw[IM] at w;cases w;exact .nil
 |cons n ns ih=>
  intro vs w;rw[EH] at w;cases w with
  |cons a b=>
   cases a;exact .cons _ _ (ih _ b)
theorem t7{l:K3}{n:Nat}(hn:l.most=some n){P:Params}{h:Heap}{args:List WData}{vals:List Value}
  (hpre:l.row.toRowW.claim.pre args=true) (hwl:WellAll P h vals args) :
  ∃a vs ns,vals=[GQ a]/\args=[WData.list (ns.map WData.int)]/\h.get? a=some { cls:=.type "list",data:=.seq vs.toArray }/\Fs vs ns/\ns.length<=n:=by
 have hsh:WShape.hasAll [] args [.list .int]=true:=(pre_splitW hpre).1;have hc:l.pre.holds [] { args:=args }=true:=(pre_splitW hpre).2;obtain⟨d,r,rfl,h1,h2⟩:=hasAllW_cons hsh;obtain rfl:=hasAllW_nil h2;obtain⟨xs,rfl,h3⟩:=hasW_list h1;obtain⟨ns,rfl⟩:=items_int h3;have hlen:ns.length<=n:=by
  unfold OpenLaw.pre at hc;have h4:(WTm.not (.lt (.lit (.int (n:Int))) (.len (.arg 0)))).holds [] { args:=[.list (ns.map .int)] }=true:=by
   have h4:=(holds_andW hc).1;rw[hn] at h4;exact h4
  have h5:=condW_of h4 (w_not (w_lt w_lit (w_len_list (w_arg rfl))));rw[At] at h5;refine JG λq=>?_
  have q':(n:Int)<((ns.length:Nat):Int):=by lia
  first
   |(rw[decide_eq_true q'] at h5; exact absurd h5 (by decide))
   |(simp at h5; lia)
 cases hwl with
 |cons w1 w2=>
  cases w2;cases w1 with
  |list ho hall=>exact⟨_,_,ns,rfl,rfl,ho,jZ ns _ hall,hlen⟩
theorem t9(l:K3)(args:List WData):l.row.toRowW.claim.post args (.bool true) args=true :=
 postW_of (r:=l.row.toRowW) (X:=(true == true))
  (show WShape.has [] (.bool true) .bool=true by first | rfl | decide | simp[WShape.has,WShape.arms,WShape.armsAll])
  (show (WTm.eq .res (.lit (.bool true))).value [] { args:=args,res:=some (.bool true),after:=args }=some (.bool (true == true)) from w_eq_bool (w_res rfl) w_lit) rfl
theorem pN{l:K3}{n:Nat}{q:EK}{loose:List Str}{XP:(Str->Option Value)->Heap->Prop}{YP:World->Heap->Prop}{d:DefRec}
  (hn:l.most=some n) (hdf:d.params.defaults=[])
  (call:∀(w:World)(s₀ s₁:Bi)(mg mb:Str->Option Value)(fa:Addr)(o:Obj)(pm cd doc:Value)(a:Addr)(vs:List Value)(ns:List Int),
   Ground q loose [] XP w s₀ mg mb s₁.heap->YP w s₁.heap ->
   s₁.heap.get? fa=some o->o.data=.func (docDef d.name d.params d.body d.scope pm cd doc)->s₁.heap.CodeRec cd d.name->mg d.name=some (.ref fa) ->
   s₁.heap.get? a=some { cls:=.type "list",data:=.seq vs.toArray }->Fs vs ns->ns.length<=n->s₁.gens = #[] ->
   Hb (model l.prog w) JU (.call (.ref fa) ⟨[.ref a],[]⟩) (λr s'=>r=.ok (.ret (.bool true))/\OldK s₁.heap s'.heap/\s'.os=s₁.os/\Ic s'.gens) s₁) :
  WalkO q loose XP YP l.row.toRowW d [] (λf vs=>PySem.call f vs):=by
 intro w s₀ s₁ mg mb G Y fa o pm cd doc dV kV ho hd hcd hD hmg hg args vals as hpre hlay hrd hwl hlo;obtain rfl:dV=.none:=Dflts.none hD hdf;obtain rfl:kV=.none:=Dflts.noKw hD;obtain⟨a,vs,ns,rfl,rfl,hobj,hints,hlen⟩:=t7 hn hpre hwl;refine enter_call (JT (call w s₀ s₁ mg mb fa o pm cd doc a vs ns G Y ho (fd_plain hd) hcd hmg hobj hints hlen hg) λr s' hq=>?_)
 obtain⟨rfl,h2,h3,h4⟩:=hq;exact⟨.inl ⟨.bool true,.bool true,[],rfl,λ_=>rfl,.bool true,t9 l _,λ_=>⟨IR,λ_ hm=>(nomatch hm)⟩⟩,h2,h3,h4⟩
end Att
namespace L2
open PySem PySem.Spec PyProof.Rows
theorem mJ:∀{vs:List Value}{ns:List Int},Fs vs ns->Vals (ns.map V.int) vs
 |_,_,.nil=>.nil
 |_,_,.cons n t h=>.cons ⟨t,rfl⟩ (mJ h)
def Only(H:Hp):Prop:=∀b,H b=none\/∃o xs,H b=some (.iH o (.lst xs))
theorem vF{P:EK}{w:World}{K:AC}{mg mb:Str->Option Value}{CX:vc}{k:Nat}{fa a:Addr}{fd:G4}{x:Str}{sp:Sp}{s₁:Bi}{vs:List Value}{ns:List Int}
  (KX:K.In s₁.heap) (hns:s₁.heap.Ns Ee mg) (hb:s₁.heap.Ns JD mb) (hbb:∀x:Str,x ≠ "__name__"->mb x=Gk x) (hlim:s₁.heap.NoLimit) (hg:s₁.gens = #[])
  (ha:s₁.heap.get? a=some { cls:=.type "list",data:=.seq vs.toArray }) (hi:Fs vs ns) (hl:ns.length<=E4) (hr:ff k JU)
  (F:∀base:Heap,K.In base->base.Ns Ee mg->cB P w K mg base CX k fa fd [x] sp) (hbind:∀(s:Bi)(u:Value),Jc s fd ⟨[u],[]⟩ [(x,u)])
  (hsp:∀H:Hp,Only H->fL K H a (ns.map V.int)->sp [.ref a] H (λv _=>v=.bl true) λ_ _ _=>False)
  (hCX:∀H e s',CX [] H s₁ (λ_ _ _=>False) e s'->False) :
  Hb (model P w) JU (.call (.ref fa) ⟨[.ref a],[]⟩) (λr s'=>r=.ok (.ret (.bool true))/\OldK s₁.heap s'.heap/\s'.os=s₁.os/\Ic s'.gens) s₁:=by
 have rv:=mJ hi;have lenV:=hi.length;have core:∀H:Hp,Only H->fL K H a (ns.map V.int)->iT P w H s₁.heap->(∀b,H b≠none->b=a)->(H a≠none->K.lookup a=none) ->
   Hb (model P w) JU (.call (.ref fa) ⟨[.ref a],[]⟩) (λr s'=>r=.ok (.ret (.bool true))/\OldK s₁.heap s'.heap/\s'.os=s₁.os/\Ic s'.gens) s₁:=by
  intro H hO hS hok hA hK;have base_of:∀{b:Addr}{o:Obj},s₁.heap.get? b=some o->H b=none->(ny s₁.heap H).get? b=some o:=λe n=>uP e n
  have noA:∀{b:Addr}{o:Obj}{es:Array DictEntry}{ep:Nat},s₁.heap.get? b=some o->o.data=.dict es ep->H b=none:=λ{b o es ep}e d=>by
   cases q:H b with
   |none=>rfl
   |some u=>
    have e':b=a:=hA b (by rw[q]; simp)
    subst e';rw[ha] at e; cases e;have d':Data.seq vs.toArray _=Data.dict es ep:=d;cases d'
  have nsK:∀{b:Addr}{m:Str->Option Value},s₁.heap.Ns b m->(ny s₁.heap H).Ns b m:=λ{b m} ⟨o,es,ep,e,d,r⟩=>⟨o,es,ep,base_of e (noA e d),d,r⟩
  have hKb:K.In (ny s₁.heap H):=λb o e=>base_of (KX b o e) (by
   cases q:H b with
   |none=>rfl
   |some u=>
    have e':b=a:=hA b (by rw[q]; simp)
    subst e';rw[hK (by rw[q]; simp)] at e; cases e)
  have hM:Mod K mg (ny s₁.heap H):=⟨hKb,nsK hns,⟨mb,nsK hb,hbb⟩,let ⟨mc,h1,h2⟩:=hlim; ⟨mc,nsK h1,h2⟩⟩;have e0:Env0 P w K mg (ny s₁.heap H) JU [] s₁ H:=⟨rfl,hM,λb o e=>yg e,Nat.le_of_eq (tM _ _),trivial,λb hb=>absurd (show b∈([]:List Addr) from hb) (by simp),hok,.of_eq hg⟩
  refine JT ((F _ hKb (nsK hns)).run JU [] s₁ H ⟨[.ref a],[]⟩ [.ref a] [.ref a] _ _ hr e0 (hbind s₁ (.ref a)) (.cons rfl .nil) (hsp H hO hS)) λr s' h=>?_
  cases r with
  |error e=>exact(hCX H e s' h).elim
  |ok fl=>
   cases fl with
   |next=>exact Go h
   |brk=>exact Go h
   |cont=>exact Go h
   |ret u=>
    obtain⟨v,H',os,bare,un,hok',r',q⟩:=h;have q':v=.bl true:=q;subst q';obtain rfl:u=JV true:=r';refine⟨rfl,OldK.of_keep λb o e=>?_,os,bare⟩
    cases q:H b with
    |none=>exact un.keep b o e q (by intro z; exact absurd (show b∈([]:List Addr) from z) (by simp)) (by simp)
    |some u=>
     rcases hO b with z | ⟨ob,xs,z⟩
     ·rw[q] at z; cases z
     ·have z2:=un.ef b ob _ z
      obtain⟨e1,_⟩:=hok b _ z;obtain⟨e2,_⟩:=hok' b _ z2;rw[e] at e1; cases e1;exact e2
 cases hk:K.lookup a with
 |some o=>
  have e:=KX a o hk;rw[ha] at e;cases e;refine core (λ_=>none) (λ_=>.inl rfl) (.inr ⟨_,vs.toArray,_,hk,rfl,rfl,rfl,by rw[Bz,lenV]; exact hl,by simpa using rv⟩) (λb u z=>by have z':(none:Option HO)=some u:=z; cases z') (λb z=>absurd rfl z) λz=>absurd rfl z
 |none=>
  refine core (λb=>if b=a then some (.iH { cls:=.type "list",data:=.seq vs.toArray } (.lst (ns.map V.int))) else none) (λb=>?_) (.inl (.inr ⟨{ cls:=.type "list",data:=.seq vs.toArray },if_pos rfl⟩)) (λb u z=>?_) (λb z=>?_) λ_=>hk
  ·by_cases hb:b=a
   ·exact .inr ⟨_,_,if_pos hb⟩
   ·exact .inl (if_neg hb)
  ·by_cases hb:b=a
   ·have z':=(if_pos hb).symm.trans z
    cases z';subst hb;exact⟨ha,by rw[At]; exact hl,vs,_,rv,ha⟩
   ·have z':=(if_neg hb).symm.trans z
    cases z'
  ·by_cases hb:b=a
   ·exact hb
   ·exact absurd (if_neg hb) z
end L2
namespace L2
open PySem PySem.Spec PyProof.Rows
end L2
namespace L2
open PySem PySem.Spec PyProof.Rows
noncomputable def fm(s:Stmt):Ks:=match s with
 |.FunctionDef _ a _ _ _ _ _ _ _ _=>a
 |_=>{ posonlyargs:=[],args:=[],vararg:=none,kwonlyargs:=[],kw_defaults:=[],kwarg:=none,defaults:=[] }
noncomputable def dw(s:Stmt):List Stmt:=match s with
 |.FunctionDef _ _ b _ _ _ _ _ _ _=>b
 |_=>[]
noncomputable def av(s:Stmt):Scope:=match s with
 |.FunctionDef _ _ _ _ _ _ sc _ _ _=>sc
 |_=>{ kind:=.function,names:=[],isGenerator:=false,isCoroutine:=false }
abbrev iI:vc:=λ_ _ _ _ _ _=>False
abbrev E0:XK:=λ_ _ _=>False
theorem pass0{X:Cx}:Passes iI X E0:=λ_ _ _ _ _ _ _ h=>h.elim
structure jB(K:AC)(x qual:Str)(st:Stmt)(f:Addr)(fd:G4):Prop where
 ex:∃ (oc:Value) (od:Option Addr) (kV doc pm:Value) (an:Option Addr) (cdv ct:Value) (osl:Array (Option Value)),
  fd=HS x qual (fm st) (dw st) (av st) .none kV doc pm an cdv ct/\K.lookup f=some ⟨oc,od,.func fd,osl⟩/\IZ K cdv qual=true
 kp:Hm K (.ref f)=true
section
variable{P:EK}{w:World}{K:AC}{mg:Str->Option Value}{base:Heap}
theorem jB.ok{x qual:Str}{st:Stmt}{f:Addr}{fd:G4}{N ps:List Str}{k:Nat}{sp:Sp}(F:jB K x qual st f fd)(S:bf N ps (av st))(len:∀vs H Q E,sp vs H Q E->vs.length=ps.length)
  (hbody:∀(cdv:Value)(A:FK)(outer:List Env)(s:Bi)(H:Hp)(vs:List V)(Q:VK)(E:XK),ff k (A.deeper (Ib qual (av st) s.heap.objs.size f cdv))->sp vs H Q E ->
   ∃t,qG (pG iI P w K mg base N qual (av st) f cdv A outer s H E).CT (dw st) t/\t { nx:=λ_ H'=>Q .non H',rt:=Q } (start N vs) H):cB P w K mg base iI (k+1) f fd ps sp:=by
 obtain⟨oc,od,kV,doc,pm,an,cdv,ct,osl,rfl,lk,hcd⟩:=F.ex;refine fn_of lk hcd S len λA outer s H vs Q E hr hsp=>?_
 obtain⟨t,h,q⟩:=hbody cdv A outer s H vs Q E hr hsp;exact⟨t,h.CT,q⟩
theorem jB.binds{x qual:Str}{st:Stmt}{f:Addr}{fd:G4}{ps:List Str}(F:jB K x qual st f fd)
  (h:∀(kV doc pm:Value)(an:Option Addr)(cdv ct:Value)(us:List Value),us.length=ps.length->bindArgs (HS x qual (fm st) (dw st) (av st) .none kV doc pm an cdv ct) ⟨us,[]⟩=pure (ps.zip us)):Binds K fd ps []:=by
 obtain⟨oc,od,kV,doc,pm,an,cdv,ct,osl,rfl,lk,hcd⟩:=F.ex;exact .all (h kV doc pm an cdv ct)
theorem vH{x qual:Str}{st:Stmt}{f:Addr}{oc:Value}{od an:Option Addr}{osl:Array (Option Value)}{kV doc pm cdv ct:Value}(l:K.lookup f=some ⟨oc,od,.func (HS x qual (fm st) (dw st) (av st) .none kV doc pm an cdv ct),osl⟩)
  (c:IZ K cdv qual=true) (k:Hm K (.ref f)=true):jB K x qual st f (HS x qual (fm st) (dw st) (av st) .none kV doc pm an cdv ct):=⟨⟨oc,od,kV,doc,pm,an,cdv,ct,osl,rfl,l,c⟩,k⟩
end
section
variable{X:Cx}
theorem pv(i:Nat){x:Str}{pos:Pos}(hN:X.N[i]? = some x:=by rfl)(hv:A9 X.env.scope x:=by first | exact EO rfl | exact G6 (EO rfl) | exact G6 (G6 rfl))(hd:(x == ("__debug__" : Str))=false:=by decide)
  (hcd:(x == ("__classdict__" : Str))=false:=by decide):PE X (.Name x pos) (dZ i):=qH hN hv hd hcd
theorem mK:aZ X (.builtin "len") (λxs H Q=>∃a kvs,xs=[V.ref a]/\H a=some (.dK kvs)/\Q (.int kvs.length) H):=by
 intro pins s σ H xs us Q I r h;obtain⟨a,kvs,rfl,ha,q⟩:=h;obtain⟨u,rfl,ru⟩:=vals1 r;cases ru;exact Ay I (.inl ha) λt s' I'=>⟨.int kvs.length,H,I',⟨t,rfl⟩,q⟩
end
theorem iteF{A B:Prop}(h:B):if false=true then A else B:=by
 rw[if_neg Gg];exact h
theorem iteT{A B:Prop}(h:A):if true=true then A else B:=by
 rw[if_pos rfl];exact h
def eU(H H':Hp):Prop:=∀b o,H b=some o->H' b=some o
theorem eU.refl(H:Hp):eU H H:=λ_ _ h=>h
theorem eU.free{H H':Hp}(e:eU H H'){l:Addr}(h:H' l=Lx):H l=Lx:=by
 cases q:H l with
 |none=>rfl
 |some o=>
  rw[e l o q] at h;cases h
end L2
end
section
namespace L2
open PySem PySem.Spec PyProof.Rows
noncomputable def bQ(cells:List (Str×Addr)):List (Str×GC)->List (Str×Addr)->List (Str×Addr)
 |[],cs=>cs
 |(n,k)::r,cs=>if (k == Fi)=true then (match cells.lookup n with | some a=>bQ cells r ((n,a)::cs) | none=>bQ cells r cs) else bQ cells r cs
theorem nP{env:Env}:∀(names:List (Str×GC))(cs:List (Str×Addr)),(∀x∈names,x.2=.free->∃a,env.cells.lookup x.1=some a) ->
  (forIn names cs λ(x:Str×GC)(r:List (Str×Addr))=>(if (x.2 == Fi)=true then (do let a <-cellOf env x.1; pure (I0 ((x.1,a)::r))) else pure (I0 r):Sem (ForInStep (List (Str×Addr)))))=(pure (bQ env.cells names cs):Sem (List (Str×Addr)))
 |[],cs,_=>rfl
 |(n,k)::r,cs,h=>by
  rw[JL]
  by_cases hk:(k == Fi)=true
  ·obtain⟨a,ha⟩:=h (n,k) lS (by simpa using hk)
   have ha:env.cells.lookup n=some a:=ha;have hcell:cellOf env n=pure a:=by unfold cellOf; rw[ha]
   simp only[hk,if_true];rw[hcell];show (forIn r ((n,a)::cs) _:Sem _)=_;rw[nP r _ λx hx=>h x (lO _ hx)]
   simp only[bQ,hk,if_true,ha]
  ·simp only[hk,if_false]
   show (forIn r cs _:Sem _)=_;rw[nP r _ λx hx=>h x (lO _ hx)]
   simp only[bQ,hk,if_false];rfl
theorem jC{scope:Scope}{env:Env}(h:∀x∈scope.names,x.2=.free->∃a,env.cells.lookup x.1=some a):closureFor scope env=pure (bQ env.cells scope.names []):=by
 have e:=nP (env:=env) scope.names [] h;unfold closureFor;simp only[bind_pure_comp] at e ⊢
 first
  |(rw[<-e]; rfl)
  |(simpa using e)
theorem gM{cells:List (Str×Addr)}{y:Str}{c:Addr}:∀(names:List (Str×GC))(cs:List (Str×Addr)),(∀y c,cs.lookup y=some c->cells.lookup y=some c)->(bQ cells names cs).lookup y=some c->cells.lookup y=some c
 |[],cs,h,e=>h y c e
 |(n,k)::r,cs,h,e=>by
  unfold bQ at e
  by_cases hk:(k == Fi)=true
  ·rw[if_pos hk] at e
   cases ha:cells.lookup n with
   |none=>
    rw[ha] at e;exact gM r cs h e
   |some a=>
    rw[ha] at e;refine gM r _ (λy c q=>?_) e
    rw[Ez] at q
    by_cases hy:(y == n)=true
    ·rw[hy] at q
     cases q;have:y=n:=by simpa using hy
     rw[this]; exact ha
    ·have hy':(y == n)=false:=by simpa using hy
     rw[hy'] at q;exact h y c q
  ·rw[if_neg hk] at e
   exact gM r cs h e
theorem gk{cells:List (Str×Addr)}{y:Str}:∀(names:List (Str×GC))(cs:List (Str×Addr)),(cs.lookup y).isSome=true->((bQ cells names cs).lookup y).isSome=true
 |[],cs,h=>h
 |(n,k)::r,cs,h=>by
  unfold bQ
  by_cases hk:(k == Fi)=true
  ·rw[if_pos hk]
   cases ha:cells.lookup n with
   |none=>exact gk r cs h
   |some a=>
    refine gk r _ ?_;rw[Ez]
    by_cases hy:(y == n)=true
    ·rw[hy]; rfl
    ·have hy':(y == n)=false:=by simpa using hy
     rw[hy']; exact h
  ·rw[if_neg hk]
   exact gk r cs h
theorem gO{cells:List (Str×Addr)}{y:Str}:∀(names:List (Str×GC))(cs:List (Str×Addr)),(y,Fi)∈names->(cells.lookup y).isSome=true->((bQ cells names cs).lookup y).isSome=true
 |[],cs,h,_=>by simp at h
 |(n,k)::r,cs,h,hy=>by
  unfold bQ;rcases lK h with e | h'
  ·cases e
   rw[if_pos (by rfl)]
   cases ha:cells.lookup y with
   |none=>rw[ha] at hy; cases hy
   |some a=>
    refine gk r _ ?_;rw[Ez,show (y == y)=true by simp]
    rfl
  ·by_cases hk:(k == Fi)=true
   ·rw[if_pos hk]
    cases ha:cells.lookup n with
    |none=>exact gO r cs h' hy
    |some a=>exact gO r _ h' hy
   ·rw[if_neg hk]
    exact gO r cs h' hy
theorem nQ{scope:Scope}{env:Env}{x:Str}:scope.names.lookup x=some .free->(JP scope env).names.lookup x=some .cell\/(JP scope env).names.lookup x=some .free:=by
 unfold JP;dsimp only;generalize hn:scope.names=names
 clear hn
 induction names with
 |nil=>intro h; simp at h
 |cons p r ih=>
  obtain⟨n,k0⟩:=p;intro h;rw[Ez] at h;rw[EH,Ez]
  by_cases hx:(x == n)=true
  ·rw[hx] at h
   injection h with h
   subst h
   by_cases hq:(Fi == Fi && env.scope.kind == .function && env.kindOf n == some .cell)=true
   ·rw[if_pos hq]; dsimp only; rw[hx]; exact .inl rfl
   ·rw[if_neg hq]; dsimp only; rw[hx]; exact .inr rfl
  ·have hx':(x == n)=false:=by simpa using hx
   rw[hx'] at h
   by_cases hq:(k0 == Fi && env.scope.kind == .function && env.kindOf n == some .cell)=true
   ·rw[if_pos hq]; dsimp only; rw[hx']; exact ih h
   ·rw[if_neg hq]; dsimp only; rw[hx']; exact ih h
noncomputable def kF(X:Cx)(scope:Scope)(cl:List (Str×Addr))(N:List Str)(C:Addr)(fp:List Addr)(s:Bi)(H:Hp):Cx :=
 { X with N:=N,s₀:=s,H₀:=H,env:=compEnvC scope cl C X.env,outer:=X.stack,ex:=fp,fn:=λx=>scope.names.lookup x == some .cell,pn:=[],xe:=λ_ _=>False }
structure Bk where
 cl:List (Str×Addr)
 C:Addr
 fp:List Addr
 s:Bi
 H:Hp
noncomputable abbrev Bk.cx(z:Bk)(X:Cx)(scope:Scope)(N:List Str):Cx:=kF X scope z.cl N z.C z.fp z.s z.H
noncomputable def kG(fr:List (Option Nat))(σ:St):St:=fr.map λo=>match o with
 |some j=>(match σ[j]? with | some v=>v | none=>none)
 |none=>none
structure aV(X:Cx)(scope:Scope)(N:List Str)(fr:List (Option Nat)):Prop where
 kind:scope.kind=.function
 uniq:∀y∈scope.names,scope.names.lookup y.1=some y.2
 free:∀y∈scope.names,y.2=.free->X.env.kindOf y.1=some .cell\/X.env.kindOf y.1=some .free
 len:fr.length=N.length
 fr:∀(i j:Nat)(x:Str),N[i]? = some x->fr[i]? = some (some j)->X.N[j]? = some x/\scope.names.lookup x=some .free
 nd:N.Nodup
theorem cG{x:Str}{k:GC}:∀{l:List (Str×GC)},l.lookup x=some k->(x,k)∈l:=λh=>GU h
theorem jh:∀(names:List (Str×GC))(h:Heap)(acc:List (Str×Addr)){x:Str}{c:Addr},(FY h.objs.size names acc).lookup x=some c->acc.lookup x=some c\/((x,IU)∈names/\h.objs.size<=c/\(pushCells h names).IsCell c none)
 |[],h,acc,x,c,e=>.inl e
 |(n,k)::r,h,acc,x,c,e=>by
  unfold FY at e;unfold pushCells
  split at e
  ·next hk=>
   rw[if_pos hk];have hk':k=.cell:=by simpa using hk
   have e':(FY (h.push { cls:=.type "cell",data:=.cell none }).objs.size r ((n,h.objs.size)::acc)).lookup x=some c:=by rw[FP]; exact e
   rcases jh r _ _ e' with q | ⟨q1,q2,q3⟩
   ·rw[Ez] at q
    by_cases hx:(x == n)=true
    ·rw[hx] at q
     cases q;have hx':x=n:=by simpa using hx
     refine .inr ⟨by rw[hx',hk']; exact lS,Db _,?_⟩
     exact⟨_,Jv _ _ _ _ (Dx _ rfl),rfl⟩
    ·have hx':(x == n)=false:=by simpa using hx
     rw[hx'] at q;exact .inl q
   ·rw[FP] at q2
    exact .inr ⟨lO _ q1,LN q2,q3⟩
  ·next hk=>
   rw[if_neg hk];rcases jh r h acc e with q | ⟨q1,q2,q3⟩
   ·exact .inl q
   ·exact .inr ⟨lO _ q1,q2,q3⟩
theorem ji:∀(names:List (Str×GC))(lo:Nat)(acc:List (Str×Addr)){x:Str},(acc.lookup x).isSome=true->((FY lo names acc).lookup x).isSome=true
 |[],_,_,_,h=>h
 |(n,k)::r,lo,acc,x,h=>by
  unfold FY
  split
  ·refine ji r _ _ ?_
   rw[Ez]
   by_cases hx:(x == n)=true
   ·rw[hx]; rfl
   ·have hx':(x == n)=false:=by simpa using hx
    rw[hx']; exact h
  ·exact ji r _ _ h
theorem qR:∀(names:List (Str×GC))(lo:Nat)(acc:List (Str×Addr)){x:Str},(x,IU)∈names->((FY lo names acc).lookup x).isSome=true
 |[],_,_,_,h=>by simp at h
 |(n,k)::r,lo,acc,x,h=>by
  unfold FY;rcases lK h with e | h'
  ·cases e
   rw[if_pos (by rfl)]
   refine ji r _ _ ?_;rw[Ez,show (n == n)=true by simp]
   rfl
  ·split
   ·exact qR r _ _ h'
   ·exact qR r _ _ h'
theorem nR:∀(names:List (Str×GC))(lo:Nat)(acc:List (Str×Addr)){x:Str},(x,IU)∉names->(FY lo names acc).lookup x=acc.lookup x
 |[],_,_,_,_=>rfl
 |(n,k)::r,lo,acc,x,h=>by
  unfold FY
  split
  ·next hk=>
   have hk':k=.cell:=by simpa using hk
   rw[nR r _ _ λz=>h (lO _ z),Ez]
   have hx:(x == n)=false:=beq_eq_false_iff_ne.mpr λe=>h (by rw[e,hk']; exact lS)
   rw[hx]
  ·exact nR r _ _ λz=>h (lO _ z)
theorem nS(lo0:Nat):∀(names:List (Str×GC))(lo:Nat)(acc acc':List (Str×Addr)){x:Str}{c:Addr},(∀x(c:Addr),acc.lookup x=some c->lo0<=c->acc'.lookup x=some c)->(FY lo names acc).lookup x=some c->lo0<=c->(FY lo names acc').lookup x=some c
 |[],_,_,_,x,c,h,e,hc=>h x c e hc
 |(n,k)::r,lo,acc,acc',x,c,h,e,hc=>by
  unfold FY at e ⊢
  split at e
  ·next hk=>
   rw[if_pos hk];refine nS lo0 r _ _ _ (λy c' q hq=>?_) e hc
   rw[Ez] at q ⊢
   by_cases hy:(y == n)=true
   ·rw[hy] at q ⊢; exact q
   ·have hy':(y == n)=false:=by simpa using hy
    rw[hy'] at q ⊢;exact h y c' q hq
  ·next hk=>
   rw[if_neg hk];exact nS lo0 r _ _ _ h e hc
theorem BH{names:List (Str×GC)}{h:Heap}{acc:List (Str×Addr)}(lt:∀x(c:Addr),acc.lookup x=some c->c<h.objs.size)(inj:∀x y c,acc.lookup x=some c->acc.lookup y=some c->x=y){x y:Str}{c:Addr}
  (e1:(FY h.objs.size names acc).lookup x=some c) (e2:(FY h.objs.size names acc).lookup y=some c):x=y:=by
 have vac:∀x(c:Addr),acc.lookup x=some c->h.objs.size<=c->([]:List (Str×Addr)).lookup x=some c:=λx c q hq=>absurd (lt x c q) (Nat.not_lt.mpr hq)
 rcases jh names h acc e1 with q1 | ⟨_,q1,_⟩
 ·rcases jh names h acc e2 with q2 | ⟨_,q2,_⟩
  ·exact inj x y c q1 q2
  ·exact absurd (lt x c q1) (Nat.not_lt.mpr q2)
 ·have ok:=cellsFrom_ok names h h.objs.size [] ⟨λ_ _ hm=>(nomatch hm),IR⟩ (Db _)
  have m1:=nS h.objs.size names _ acc [] vac e1 q1;have m2:=nS h.objs.size names _ acc [] vac e2 q1;exact name_of_addr ok.apart (mem_of_lookup m1) (mem_of_lookup m2)
theorem iL{scope:Scope}{env:Env}{x:Str}{k:GC}:(JP scope env).names.lookup x=some k->(k=.cell\/k=.free)->scope.names.lookup x=some .free\/scope.names.lookup x=some .cell:=by
 unfold JP;dsimp only;generalize hn:scope.names=names
 clear hn
 induction names with
 |nil=>intro h; simp at h
 |cons p r ih=>
  obtain⟨n,k0⟩:=p;intro h hk;rw[EH,Ez] at h;rw[Ez]
  by_cases hq:(k0 == Fi && env.scope.kind == .function && env.kindOf n == some .cell)=true
  ·simp only[hq,if_true] at h
   have hf:k0=.free:=by
    rw[EV,EV] at hq;simpa using hq.1.1
   by_cases hx:(x == n)=true
   ·rw[hx]; left; rw[hf]
   ·have hx':(x == n)=false:=by simpa using hx
    rw[hx'] at h ⊢;exact ih h hk
  ·simp only[hq,if_false,Fc] at h
   by_cases hx:(x == n)=true
   ·rw[hx] at h ⊢
    have h:some k0=some k:=h;cases h;rcases hk with e | e
    ·right; rw[e]
    ·left; rw[e]
   ·have hx':(x == n)=false:=by simpa using hx
    rw[hx'] at h ⊢;exact ih h hk
section
variable{X:Cx}{pins:List (Addr×Obj)}{σ:St}{H:Hp}{s:Bi}{scope:Scope}{N:List Str}{fr:List (Option Nat)}{fp:List Addr}
theorem aV.cells(S:aV X scope N fr)(I:Inv X pins σ H s):∀x∈scope.names,x.2=.free->∃a,X.env.cells.lookup x.1=some a:=λx hx e=>I.ok.has x.1 (S.free x hx e)
theorem vJ{h1:Heap}{m:Str->Option Value}{tk:Nat}{cl:List (Str×Addr)}(I:Inv X pins σ H s)(S:aV X scope N fr)(hf:∀b∈fp,jY X pins H b)(hs:∀b∈fp,b<s.heap.objs.size)
  (hns:h1.Ns s.heap.objs.size m) (old:∀b o,s.heap.get? b=some o->h1.get? b=some o)
  (a1:∀x c,cl.lookup x=some c->(bQ X.env.cells scope.names []).lookup x=some c\/(s.heap.objs.size<c/\h1.IsCell c none))
  (a2:∀x y c,cl.lookup x=some c->cl.lookup y=some c->x=y) (a3:∀x,scope.names.lookup x=some .cell\/scope.names.lookup x=some .free->∃c,cl.lookup x=some c) (a4:∀x,scope.names.lookup x=some .free->cl.lookup x=(bQ X.env.cells scope.names []).lookup x) :
  Inv (kF X scope cl N s.heap.objs.size fp s H) [] (kG fr σ) H { s with heap:=h1,toks:=tk }:=by
 have sub:∀y c,(bQ X.env.cells scope.names []).lookup y=some c->X.env.cells.lookup y=some c:=λy c e=>gM scope.names [] (λ_ _ z=>by simp at z) e
 have ok:(kF X scope cl N s.heap.objs.size fp s H).Ok:=by
  refine⟨I.ok.mod,?_,I.ok.glob,I.ok.blt,Db _,λx y c h1 h2=>a2 x y c h1 h2,λx hx=>?_,λx c z e=>?_,I.ok.hd,I.ok.frames,.inl rfl,λb hb=>⟨?_,λx c e=>?_⟩,λb o e=>I.bs b o e,?_,λb o e hb=>?_,λb hb hs' =>?_,I.stack,I.r8⟩
  ·exact S.kind
  ·have hx:(JP scope X.env).names.lookup x=some .cell\/(JP scope X.env).names.lookup x=some .free:=hx
   rcases hx with z | z
   ·exact a3 x ((iL z (.inl rfl)).symm)
   ·exact a3 x ((iL z (.inr rfl)).symm)
  ·have z:(scope.names.lookup x == some .cell)=true:=z
   have z':scope.names.lookup x=some .cell:=by simpa using z
   show s.heap.objs.size<=c;rcases a1 x c e with q | ⟨q,_⟩
   ·exfalso
    obtain⟨v,w⟩:=I.cell x c (sub x c q);have hm:∀(names:List (Str×GC))(cs:List (Str×Addr)){y:Str}{c:Addr},(bQ X.env.cells names cs).lookup y=some c->cs.lookup y=some c\/(y,Fi)∈names:=λnames=>by
     induction names with
     |nil=>intro cs y c h; exact .inl h
     |cons p r ih=>
      obtain⟨n,k⟩:=p;intro cs y c h;unfold bQ at h
      by_cases hk:(k == Fi)=true
      ·rw[if_pos hk] at h
       have hk':k=.free:=by simpa using hk
       cases ha:X.env.cells.lookup n with
       |none=>
        rw[ha] at h;rcases ih cs h with q | q
        ·exact .inl q
        ·exact .inr (lO _ q)
       |some a=>
        rw[ha] at h;rcases ih _ h with q | q
        ·rw[Ez] at q
         by_cases hy:(y == n)=true
         ·have:y=n:=by simpa using hy
          exact .inr (by rw[this,hk']; exact lS)
         ·have hy':(y == n)=false:=by simpa using hy
          rw[hy'] at q;exact .inl q
        ·exact .inr (lO _ q)
      ·rw[if_neg hk] at h
       rcases ih cs h with q | q
       ·exact .inl q
       ·exact .inr (lO _ q)
    rcases hm _ _ q with q' | q'
    ·simp at q'
    ·have:=S.uniq _ q'
     rw[z'] at this;cases this
   ·exact FZ q
  ·exact ED (hs b hb)
  ·rcases a1 x c e with q | ⟨q,_⟩
   ·exact(hf b hb).2.2.2.2.1 x c (sub x c q)
   ·exact Gw (Nat.lt_trans (hs b hb) q)
  ·exact FH I.ok.bsz I.sz
  ·have e:X.base.get? b=some o:=e
   rcases (hf b hb).2.2.2.1 with z | z
   ·exact I.ok.noex b o e z
   ·exact absurd (EJ (Da e) (FH I.ok.bsz z)) (GM _)
  ·rcases lK (I.nA b hs') with z | z
   ·exact(hf b hb).2.1 z
   ·exact(hf b hb).2.2.1 z
 refine⟨ok,rfl,I.bare,Un.kept old,⟨m,hns,λi x v h1' h2 h3=>?_⟩,λx c e=>?_,I.hok.fresh (Db _),λx c e=>?_,λp hp=>absurd (show p∈([]:List (Addr×Obj)) from hp) (by simp),I.hok.kept old,?_⟩
 ·have h1':N[i]? = some x:=h1'
  have h2:(kG fr σ)[i]? = some (some v):=h2;unfold kG at h2;rw[E9] at h2;cases e:fr[i]? with
  |none=>rw[e] at h2; cases h2
  |some o=>
   rw[e] at h2;cases o with
   |none=>cases h2
   |some j=>
    obtain⟨hj,hx⟩:=S.fr i j x h1' e;have h2:some (match σ[j]? with | some v=>v | none=>none)=some (some v):=h2
    injection h2 with h2
    cases ej:σ[j]? with
    |none=>rw[ej] at h2; cases h2
    |some w' =>
     rw[ej] at h2;have h2:w'=some v:=h2;subst h2;have hk:=S.free _ (cG hx) rfl;obtain⟨m0,hn0,hl⟩:=I.loc;have vis:A9 X.env.scope x:=by
      rcases hk with z | z
      ·exact .inr (.inl z)
      ·exact .inr (.inr z)
     obtain⟨u,r,l⟩:=hl j x v hj ej vis;refine⟨u,r,?_⟩;rcases l with⟨k,_⟩ | ⟨_,c,ec,z⟩
     ·exfalso
      rcases hk with q | q
      ·have:=k.symm.trans q; cases this
      ·have:=k.symm.trans q; cases this
     ·have hm:=cG hx
      obtain⟨c',ec'⟩:=Gx.mp (gO (cells:=X.env.cells) scope.names [] hm (by rw[ec]; rfl))
      have:c'=c:=by
       have q:=sub x c' ec';rw[ec] at q;cases q;rfl
      subst this;refine .inr ⟨nQ hx,c',(a4 x hx).trans ec',?_⟩;obtain⟨o,ho,hd⟩:=z;exact⟨o,old _ o ho,hd⟩
 ·rcases a1 x c e with q | ⟨_,q⟩
  ·obtain⟨v,o,ho,hd⟩:=I.cell x c (sub x c q)
   exact⟨v,o,old _ o ho,hd⟩
  ·exact⟨none,q⟩
 ·rcases a1 x c e with q | ⟨q,_⟩
  ·exact I.freeC x c (sub x c q)
  ·exact I.hok.fresh (FZ q)
 ·show (kG fr σ).length=N.length
  unfold kG;rw[At,S.len]
end
theorem yN{prog:EK}{w:World}{A:FK}{E:Value->Bi->Prop}{s:Bi}{scope:Scope}{globals:Addr}{closure:List (Str×Addr)}{qual:Str}{func:Option Addr}{code:Value}{outer:Env}{builtins:Addr}{Q:Env->Bi->Prop}(hk:scope.kind=.function)
  (hQ:∀h',h'.Ns s.heap.objs.size (λ_=>none)->(∀b o,s.heap.get? b=some o->h'.get? b=some o)->(∀x c,(FY (s.heap.objs.size+1) scope.names closure).lookup x=some c->closure.lookup x=some c\/(s.heap.objs.size+1<=c/\h'.IsCell c none)) ->
   Q (newEnv scope s.heap.objs.size globals (FY (s.heap.objs.size+1) scope.names closure) qual func code (some outer) builtins) { s with heap:=h' }) :
  wpAny (model prog w) A (newFunctionEnv scope globals closure [] qual func code (some outer) builtins) Q E s:=by
 simp only[newFunctionEnv,Kf,if_true];refine AT (wpAny_alloc ?_);refine AT (wpAny_layCells _ (λname kind cells=>by cases hkc:kind == IU <;> simp[hkc]) _ _ _ _ ?_)
 have sz:(s.heap.push { cls:=.type "dict",data:=.dict #[] }).objs.size=s.heap.objs.size+1:=FP ..;rw[show ({ s with heap:=s.heap.push { cls:=.type "dict",data:=.dict #[] } }:Bi).heap.objs.size=s.heap.objs.size+1 from sz]
 refine AT (Bn (Bn ?_));refine hQ _ ((Heap.Ns.new s.heap (.type "dict")).keeps (Jv _ _)) (λb o e=>Jv _ _ b o (BM _ e)) λx c e=>?_
 have e':(FY (s.heap.push { cls:=.type "dict",data:=.dict #[] }).objs.size scope.names closure).lookup x=some c:=by rw[sz]; exact e
 rcases jh _ _ _ e' with q | ⟨_,q1,q2⟩
 ·exact .inl q
 ·rw[sz] at q1
  exact .inr ⟨q1,q2⟩
section
variable{X:Cx}
theorem vK{pins:List (Addr×Obj)}{σ τ:St}{H1 H3 H':Hp}{s2 s3 s':Bi}{fp:List Addr}{scope:Scope}{cl:List (Str×Addr)}{N:List Str}{h':Heap}
  (I2:Inv X pins σ H1 s2) (hf:∀b∈fp,jY X pins H1 b) (u23:Un (frs X.stack) [] H1 H3 s2.heap s3.heap) (ho:s3.os=s2.os) (hs:s2.heap.objs.size<=s3.heap.objs.size)
  (J:Inv (kF X scope cl N s3.heap.objs.size fp s3 H3) [] τ H' s') (sb:Gf s3.heap.objs.size s'.heap h'):Inv X pins σ H' { s' with heap:=h' }:=by
 have hC:H' s3.heap.objs.size=none:=J.free;have hbase:Un (frs X.stack) fp H3 H' s3.heap s'.heap:=J.base;have u3:Un (frs X.stack) fp H1 H' s2.heap s'.heap:=(u23.mono (λ_ z=>z) (λ_ z=>nomatch z)).trans hbase
 have ne:∀b o,s2.heap.get? b=some o->b≠s3.heap.objs.size:=λb o e=>ED (EJ (Da e) hs)
 have u:Un (frs X.stack) fp H1 H' s2.heap h':=⟨λb o e n h1 h2=>(sb.2 b (ne b o e)).trans (u3.keep b o e n h1 h2),λb o e n h1 h2=>by
   obtain⟨sl,q⟩:=u3.slot b o e n h1 h2;exact⟨sl,(sb.2 b (ne b o e)).trans q⟩,u3.free,λb o e h2=>by
   obtain⟨o',q⟩:=u3.there b o e h2;exact⟨o',(sb.2 b (ne b o e)).trans q⟩,u3.tups,u3.ef,u3.tbls⟩
 have hok:iT X.prog X.w H' h':=λb ob e=>by
  have q:cy X.prog X.w H' s'.heap b ob:=J.hok b ob e;refine q.stay (λc w' hc q=>(sb.2 c ?_).trans q) (λ_ q=>q) λ_ _ q=>q
  intro z;rw[z] at hc;rcases hc with rfl | hc
  ·rw[hC] at e; cases e
  ·rw[hC] at hc; cases hc
 refine I2.call' (s':={ s' with heap:=h' }) (H':=H') (ch:=fp) (J.os.trans ho) u hok J.bare λb hb=>?_
 obtain⟨_,f1,_,f3,f4,f5⟩:=hf b hb;exact⟨f3,f1,f4,f5⟩
end
def pO(X:Cx)(ifs:List Expr)(t:TT):Prop :=
 ∀(pins:List (Addr×Obj))(s:Bi)(σ:St)(H:Hp)(Q:Bool->Hp->Prop),Inv X pins σ H s->t σ H Q ->
  wpAny (model X.prog X.w) X.A (forIn ifs true λc r=>if r=true then do let ok <-KG c X.env (eval c X.env); pure (I0 ok) else pure (I0 r)) (TP X pins σ Q) X.xe s
noncomputable def tYes:TT:=λ_ H Q=>Q true H
theorem BI{X:Cx}:pO X [] tYes:=λ_ _ _ H _ I h=>wpAny_tests_nil ⟨H,I,h⟩
theorem BJ{X:Cx}{c:Expr}{t:TT}(h:PT X c t):pO X [c] t:=λpins s σ H Q I hq=>wpAny_tests_one (h pins s σ H Q I hq)
abbrev BK:=St->Hp->(St->Hp->Prop)->Prop
def PEm2(X:Cx)(em:Sem Unit)(t:BK):Prop :=
 ∀(pins:List (Addr×Obj))(s:Bi)(σ:St)(H:Hp)(R:St->Hp->Prop),Inv X pins σ H s->t σ H R ->
  wpAny (model X.prog X.w) X.A em (λ_ s'=>∃σ' H',Inv X pins σ' H' s'/\R σ' H') X.xe s
def gm(g:TG)(tt:TT)(tem:BK)(J:It)(τ:St)(H:Hp)(Q:St->Hp->Prop):Prop :=
 ∃W:Nat->Nat->St->Hp->Prop,(∃m,W 0 m τ H)/\∀i m τ H,W i m τ H ->
  (J.stop i H/\Q τ H)\/(J.go i H/\∃N:St->Hp->Prop,(∀τ' H',N τ' H'->∃m',m'<m/\W (i+1) m' τ' H')/\∀x H',J.yld i H x H'->g x τ H' λτ2 H2=>tt τ2 H2 λb H3=>
   if b=true then tem τ2 H3 N else N τ2 H3)
noncomputable def nT(target iter:Expr)(ifs:List Expr)(em:Sem Unit)(it:Value)(env:Env)(nxt:Sem Fin):Sem Fin:=do
 IY iter.pos
 match <-JB it with
 |none=>pure (.done .next)
 |some v=>
  Ie target it v
  HD target env v
  let mut ok:=true
  for c in ifs do
   if ok then ok <-KG c env (eval c env)
  if ok then em
  nxt
section
variable{X:Cx}{e target iter:Expr}{ifs:List Expr}{g:TG}{tt:TT}{tem:BK}{acc:Value}{em:Sem Unit}
theorem qS{d:Nat}{pins:List (Addr×Obj)}{it:Addr}{fp:List Addr}{tn:Nat->Heap->Prop}{J:It}{τ:St}{H:Hp}{s:Bi}{Q:St->Hp->Prop}{R:Lp->Bi->Prop}
  (ht:KH e d (.ref it) acc X.env=nT target iter ifs em (.ref it) X.env (again (.compLoop e d (.ref it) acc X.env)))
  (hd:∀(Q:Fin->Bi->Prop)(E:Value->Bi->Prop)(s:Bi),wpAny (model X.prog X.w) X.A ((KH e d (.ref it) acc X.env).onRaise (λx=>do noteFrame x X.env; theTreesLotGoes x)) Q E s ->
   wpAny (model X.prog X.w) (X.A.under (.compLoop e d (.ref it) acc X.env)) ((model X.prog X.w).den (.compLoop e d (.ref it) acc X.env)) Q E s)
  (hq:(Ls e d (.ref it) acc X.env).quiet=true)
  (hc:X.calm=true) (hx:X.xe=λ_ _=>False) (hg:PG X target g) (hi:pO X ifs tt) (he:PEm2 X em tem) (T:Turn X.prog X.w X.K target J fp it tn)
  (I:Inv X pins τ H s) (st:tn 0 s.heap) (hf:∀b∈fp,jY X pins H b) (h:gm g tt tem J τ H Q) (hR:∀τ' H' s',Inv X pins τ' H' s'->Q τ' H'->R (.ok .next) s') :
  Hb (model X.prog X.w) X.A (.compLoop e d (.ref it) acc X.env) R s:=by
 obtain⟨W,⟨m0,w0⟩,turn⟩:=h;have stat:∀{H':Hp},(∀b∈fp,H' b=none)->∀b∈fp,jY X pins H' b:=λhn b hb=>⟨hn b hb,(hf b hb).2⟩
 have noX:∀{α:Type}{t:Sem α}{Q:α->Bi->Prop}{s':Bi}{E:Value->Bi->Prop},wpAny (model X.prog X.w) X.A t Q X.xe s'->wpAny (model X.prog X.w) X.A t Q E s':=λ{α t Q s' E}h' =>
  GT h' (λ_ _ q=>q) λ_ _ z=>by rw[hx] at z; exact z.elim
 refine codeAny_loop hq (λn s'=>∃i τ' H',Inv X pins τ' H' s'/\tn i s'.heap/\(∀b∈fp,H' b=none)/\W i n τ' H') ?_ m0 ⟨0,τ,H,I,st,λb hb=>(hf b hb).1,w0⟩
 rintro n s3 ⟨i,σ3,H3,I3,st3,fr3,w3⟩;refine hd _ _ _ (wpAny_noted ?_);rw[ht];unfold nT;refine AT (HE (AT ?_));rcases turn i n σ3 H3 w3 with⟨stop,qn⟩ | ⟨go,Nx,hNx,step⟩
 ·refine b7 (T.done X rfl rfl rfl hc i pins s3 σ3 H3 _ I3 (stat fr3) st3 stop) λr s4 ⟨hr,I4⟩=>?_
  subst hr;exact Bn (hR _ _ _ I4 qn)
 ·refine b7 (T.item X rfl rfl rfl hc i pins s3 σ3 H3 _ I3 (stat fr3) st3 go) λr s4 ⟨u,hr,h4⟩=>?_
  subst hr;refine AT (b7 h4 λ_ s5 ⟨x,H5,I5,r5,y5,st5,fr5⟩=>?_)
  have I5':=I5.pinned (stat fr5) (T.obj _ _ st5);refine AT (noX (b7 (hg _ s5 σ3 H5 x u _ I5' r5 (step x H5 y5)) λ_ s6 ⟨σ6,H6,I6,q6⟩=>?_))
  have again':∀{σ7:St}{H7:Hp}{s7:Bi},Inv X (pins++kj fp s5.heap) σ7 H7 s7->(∃m',m'<n/\W (i+1) m' σ7 H7)->∃m,m<n/\∃i σ' H',Inv X pins σ' H' s7/\tn i s7.heap/\(∀b∈fp,H' b=none)/\W i m σ' H':=λ{σ7 H7 s7}I7 n7=>by
   obtain⟨m',hm,w7⟩:=n7;refine⟨m',hm,i+1,σ7,H7,I7.jb,T.keep _ _ _ st5 λb hb o e=>(I7.pin (b,o) (lR _ (lR _ (gh hb e)))).1,λb hb=>?_,w7⟩
   obtain⟨o,e,d⟩:=T.obj _ _ st5 b hb;exact(I7.pin (b,o) (lR _ (lR _ (gh hb e)))).2.1
  refine AT (noX (b7 (hi _ s6 σ6 H6 _ I6 q6) λok s7 ⟨H7,I7,q7⟩=>?_))
  cases ok with
  |false=>exact Bn ⟨rfl,again' I7 (hNx _ _ q7)⟩
  |true=>
   refine AT (noX (b7 (he _ s7 σ6 H7 _ I7 q7) λ_ s8 ⟨σ8,H8,I8,q8⟩=>?_))
   exact Bn ⟨rfl,again' I8 (hNx _ _ q8)⟩
noncomputable def pP(D:Addr)(te:TE):BK:=λσ H R=>te σ H λy H1=>∃xs,H1 D=some (.lst xs)/\xs.length<E4/\R σ (upd H1 D (.lst (xs++[y])))
theorem sy{elt:Expr}{te:TE}{D:Addr}(h:PE X elt te):PEm2 X (do let _ <-call (.builtin "list.append") [.ref D,<-eval elt X.env]) (pP D te):=by
 intro pins s σ H R I hq;refine AT (b7 (h pins s σ H _ I hq) λu s1 ⟨y,H1,I1,r1,xs,hD,hz,q⟩=>?_)
 refine AT (b7 (fO pins s1 σ H1 (.ref D) [y] (.ref D) [u] (λ_ H'=>R σ H') I1 rfl (.cons r1 .nil) ⟨D,xs,y,rfl,rfl,hD,hz,q⟩) λ_ s2 ⟨v,H2,I2,_,q2⟩=>?_)
 exact Bn ⟨σ,H2,I2,q2⟩
end
structure Left(X:Cx)(pins:List (Addr×Obj))(σ:St)(C:Addr)(H':Hp)(s':Bi):Prop where
 ns:∃m,s'.heap.Ns C m
 out:∀h',Gf C s'.heap h'->Inv X pins σ H' { s' with heap:=h' }
 free:H' C=none
 lne:X.env.locals≠C
 sz:X.s₀.heap.objs.size<=C
 tN:∀y c,X.env.cells.lookup y=some c->c≠C
 pne:∀p∈X.pn++pins,p.1≠C
section
variable{X:Cx}
theorem iW{e target iter:Expr}{ifs:List Expr}{gs:List Comprehension}{scope:Scope}{pos:Pos}{N:List Str}{fr:List (Option Nat)}{wi:TI}{g:Bk->TG}{tt:Bk->TT}{tem:Addr->Bk->BK}{em:Addr->Env->Sem Unit}{newAcc:Sem Value}{use:Option (Value->Sem Unit)}{Q:Value->Bi->Prop}{o:HO}{R:Addr->Hp->Prop}
  (hcl:clausesOf e=⟨target,iter,ifs,0⟩::gs) (hc:X.calm=true) (S:aV X scope N fr) (hi:PI X target iter wi) (hs:∀x,Ey iter X.env x=pure x)
  (hnew:∀(pins:List (Addr×Obj))(σ:St)(H:Hp)(s:Bi)(K:Value->Bi->Prop),Inv X pins σ H s->(∀ob s3,Inv X pins σ (upd H s.heap.objs.size o) s3->s3.heap=s.heap.push ob->s3.os=s.os->K (.ref s.heap.objs.size) s3)->wpAny (model X.prog X.w) X.A newAcc K X.xe s)
  (hst:∀{K:Lp->Bi->Prop}{s:Bi}{it acc:Value}{env:Env},Hb (model X.prog X.w) X.A (.compLoop e 0 it acc env) K s->wpAny (model X.prog X.w) X.A (KF it) (λit' s'=>Hb (model X.prog X.w) X.A (.compLoop e 0 it' acc env) K s') (notedBy (model X.prog X.w) X.A env λx s'=>K (.error x) s') s->Hb (model X.prog X.w) X.A (.compStart e 0 it acc env) K s)
  (ht:∀it D env,KH e 0 it (.ref D) env=nT target iter ifs (em D env) it env (again (.compLoop e 0 it (.ref D) env)))
  (hd:∀(it acc:Value)(env:Env)(Q:Fin->Bi->Prop)(E:Value->Bi->Prop)(s:Bi),wpAny (model X.prog X.w) X.A ((KH e 0 it acc env).onRaise (λx=>do noteFrame x env; theTreesLotGoes x)) Q E s->wpAny (model X.prog X.w) (X.A.under (.compLoop e 0 it acc env)) ((model X.prog X.w).den (.compLoop e 0 it acc env)) Q E s)
  (hq:∀it acc env,(Ls e 0 it acc env).quiet=true)
  (hin:∀z:Bk,PG (z.cx X scope N) target (g z)/\pO (z.cx X scope N) ifs (tt z)/\∀D,PEm2 (z.cx X scope N) (em D (z.cx X scope N).env) (tem D z))
  {pins:List (Addr×Obj)} {σ:St} {H:Hp} {s:Bi} (I:Inv X pins σ H s) (h:wi σ H λJ H1=>∀D,H1 D=none->∀z,gm (g z) (tt z) (tem D z) J (kG fr σ) (upd H1 D o) λ_ H'=>R D H')
  (hfin:∀D C H' s',Left X pins σ C H' s'->R D H'->LU (model X.prog X.w) X.A X.xe use Q (.ref D) C (.ok .next) s') :
  wpAny (model X.prog X.w) X.A (Ki e scope X.env pos newAcc false (firstIter (⟨target,iter,ifs,0⟩::gs) X.env) use) Q X.xe s:=by
 refine wpAny_comprehension_free hcl hs (jC (S.cells I)) S.kind (λy hy e=>by rw[S.uniq y hy,e]) ?_
 refine b7 (hi pins s σ H _ I h) λv s1 h1=>b7 h1 λitv s2 h2=>?_
 obtain⟨it,fp,tn,J,H2,e,I2,T,st2,f2,h2⟩:=h2;subst e;refine hnew pins σ H2 s2 _ I2 λob s3 I3 hs3 ho=>?_
 have hD:H2 s2.heap.objs.size=none:=I2.fresh;have lt2:∀b∈fp,b<s2.heap.objs.size:=λb hb=>by
  obtain⟨o,e,_⟩:=T.obj _ _ st2 b hb;exact Da e
 have f3:∀b∈fp,jY X pins (upd H2 s2.heap.objs.size o) b:=λb hb=>⟨by rw[aL (ED (lt2 b hb))]; exact(f2 b hb).1,(f2 b hb).2⟩
 have sz3:s3.heap.objs.size=s2.heap.objs.size+1:=by rw[hs3]; exact FP ..
 have u23:Un (frs X.stack) [] H2 (upd H2 s2.heap.objs.size o) s2.heap s3.heap:=by
  rw[hs3];exact Un.laid (λb o e=>BM _ e) (Db _) hD
 have st3:tn 0 s3.heap:=T.keep _ _ _ st2 λb _ o e=>by rw[hs3]; exact BM _ e
 refine yN S.kind λh4 hns old4 hcl=>?_
 have lt3:∀b∈fp,b<s3.heap.objs.size:=λb hb=>EJ (lt2 b hb) (by rw[sz3]; exact HU _)
 have sub:∀x(c:Addr),(bQ X.env.cells scope.names []).lookup x=some c->X.env.cells.lookup x=some c:=λx c e=>gM scope.names [] (λ_ _ z=>by simp at z) e
 have tN:∀y c,X.env.cells.lookup y=some c->c<s3.heap.objs.size:=λy c e=>by
  obtain⟨v,z⟩:=I3.cell y c e;exact z.lt
 have I4:=vJ (cl:=(FY (s3.heap.objs.size+1) scope.names (bQ X.env.cells scope.names []))) (tk:=s3.toks) I3 S f3 lt3 hns old4 (λx c e=>(hcl x c e).imp id λq=>⟨Nat.lt_of_succ_le q.1,q.2⟩)
  (λx y c e1 e2=>by
   rw[<-FP s3.heap { cls:=.type "dict",data:=.dict #[] }] at e1 e2;exact BH (λx c e=>by rw[FP]; exact Gn (tN x c (sub x c e))) (λx y c h1 h2=>I3.ok.inj x y c (sub x c h1) (sub y c h2)) e1 e2)
  (λx hx=>by
   rcases hx with hx | hx
   ·exact Gx.mp (qR _ _ _ (cG hx))
   ·obtain⟨a,ha⟩:=S.cells I3 _ (cG hx) rfl
    exact Gx.mp (ji _ _ _ (gO scope.names [] (cG hx) (by show (X.env.cells.lookup x).isSome=true; rw[show X.env.cells.lookup x=some a from ha]; rfl))))
  (λx hx=>nR _ _ _ λz=>by have:=S.uniq _ z; rw[hx] at this; cases this)
 have st4:tn 0 h4:=T.keep _ _ _ st3 λb _ o e=>old4 b o e
 generalize hz:(⟨(FY (s3.heap.objs.size+1) scope.names (bQ X.env.cells scope.names [])),s3.heap.objs.size,fp,s3,upd H2 s2.heap.objs.size o⟩:Bk)=z;obtain⟨hg,hif,hem⟩:=hin z;have h2:=h2 _ hD z;subst hz;have loop:=qS (X:=kF X scope (FY (s3.heap.objs.size+1) scope.names (bQ X.env.cells scope.names [])) N s3.heap.objs.size fp s3 (upd H2 s2.heap.objs.size o)) (pins:=[]) (R:=LU (model X.prog X.w) X.A X.xe use Q (.ref s2.heap.objs.size) s3.heap.objs.size)
   (ht ..) (hd _ _ _) (hq _ _ _) hc rfl hg hif (hem _) T I4 st4 (λb hb=>(by
    obtain⟨f0,f1,fs,fe,fc,fp'⟩:=f3 b hb;refine⟨f0,ED (lt3 b hb),λz=>?_,.inl hb,λx c e=>?_,λp hp=>absurd (show p∈([]:List (Addr×Obj)) from hp) (by simp)⟩
    ·rcases lK (I3.nA b z) with z | z
     ·exact f1 z
     ·exact fs z
    ·rcases hcl x c e with q | q
     ·exact fc x c (sub x c q)
     ·exact Gw (EJ (lt3 b hb) (LN q.1)))) h2 (λτ' H' s' J' q=>hfin _ _ H' s' ⟨(by
    obtain⟨m,hn,_⟩:=J'.loc;exact⟨m,hn⟩),λh' sb=>vK I2 f2 u23 ho (by rw[sz3]; exact HU _) J' sb,J'.free,ED I3.lt,I3.sz,λy c e=>ED (tN y c e),λp hp=>ED (Da (I3.pin p hp).1)⟩ q)
 exact hst loop (T.self X.A 0 _ _ _ st4 loop)
variable{pins:List (Addr×Obj)}{σ:St}{C D:Addr}{H':Hp}{s':Bi}
theorem Left.expr{Q:V->Hp->Prop}(L:Left X pins σ C H' s')(q:Q (.ref D) H'):LU (model X.prog X.w) X.A X.xe none (EP X pins σ Q) (.ref D) C (.ok .next) s':=by
 obtain⟨m,hn⟩:=L.ns;exact⟨m,hn,λh' sb=>⟨.ref D,H',L.out h' sb,rfl,q⟩⟩
theorem Inv.BL{h':Heap}(I:Inv X pins σ H' s')(hn:H' C=none)(hL:C≠X.env.locals)(h1:X.s₀.heap.objs.size<=C)(h2:∀x c,X.env.cells.lookup x=some c->c≠C)(h3:∀p∈X.pn++pins,p.1≠C)
  (sb:Gf C s'.heap h'):Inv X pins σ H' { s' with heap:=h' }:=I.turned (t':=s'.toks) (λb o hb e=>(sb.2 b hb).trans e) hn hL (.inr h1) h2 h3
theorem Left.asg{i:Nat}{x:Str}{pos':Pos}{Dn:Ends}(L:Left X pins σ C H' s')(hN:X.N.Nodup)(hi':X.N[i]? = some x)(hx:X.env.scope.names.lookup x=some .local)(q:Dn.nx (σ.set i (some (.ref D))) H') :
  LU (model X.prog X.w) X.A X.xe (some (HD (.Name x pos') X.env)) (λ_ s'=>SP X pins Dn .next s') (.ref D) C (.ok .next) s':=by
 obtain⟨m,hn⟩:=L.ns;show wpAny (model X.prog X.w) X.A (HD (.Name x pos') X.env (.ref D)) _ X.xe s';refine GW (mh (v:=.ref D) (L.out s'.heap (Heap.SameBut.refl ..)) hN hi' (.inl hx) rfl (λs5 I5 sb5=>?_) (.inr hx))
 obtain⟨b,sb,hb⟩:=sb5;have hbne:C≠b:=by
  rcases hb with e | e
  ·rw[e]; exact L.lne.symm
  ·exact(L.tN _ _ e).symm
 exact⟨m,hn.sameBut sb hbne,λh' sb'=>⟨_,H',I5.BL L.free L.lne.symm L.sz L.tN L.pne sb',q⟩⟩
theorem yO{x:Str}{elt:Expr}{gs:List Comprehension}{scope:Scope}{pos pos' spos:Pos}{Dn:Ends}{s:Bi}(hsw:Gh (.ListComp elt gs scope pos) (some (.Name x pos')) spos.line X.env=pure true)
  (h:wpAny (model X.prog X.w) X.A (Ki (.ListComp elt gs scope pos) scope X.env (firstIterPos gs pos) (K1 []) (firstAsync gs) (firstIter gs X.env) (some (HD (.Name x pos') X.env))) (λ_ s'=>SP X pins Dn .next s') X.xe s) :
  wpAny (model X.prog X.w) X.A (exec (.Assign [.Name x pos'] (.ListComp elt gs scope pos) spos) X.env) (SP X pins Dn) X.xe s:=by
 rw[exec_Assign_Name_used _ _ _ _ hsw];refine AT (HE (AT ?_));show wpAny _ X.A (do let _ <-Ki (.ListComp elt gs scope pos) scope X.env (firstIterPos gs pos) (K1 []) (firstAsync gs) (firstIter gs X.env) (some (HD (.Name x pos') X.env))) _ _ s
 exact AT (GT h (λ_ s' hq=>Bn (Bn hq)) λ_ _ e=>e)
theorem pQ(pins:List (Addr×Obj))(σ:St)(H:Hp)(s:Bi)(K:Value->Bi->Prop)(I:Inv X pins σ H s)(h:∀ob s3,Inv X pins σ (upd H s.heap.objs.size (.lst [])) s3->s3.heap=s.heap.push ob->s3.os=s.os->K (.ref s.heap.objs.size) s3):wpAny (model X.prog X.w) X.A (K1 []) K X.xe s :=
 Ex (h _ _ (I.lnew (t':=s.toks) (ys:=[]) (its:=[]) .nil (EY _)) rfl rfl)
noncomputable def CU(fr:List (Option Nat))(wi:TI)(g:Bk->TG)(tt:Bk->TT)(te:Bk->TE):TE:=λσ H Q=>wi σ H λJ H1=>∀D,H1 D=none->∀z,gm (g z) (tt z) (pP D (te z)) J (kG fr σ) (upd H1 D (.lst [])) λ_ H'=>Q (.ref D) H'
theorem vL{elt target iter:Expr}{ifs:List Expr}{scope:Scope}{pos:Pos}{N:List Str}{fr:List (Option Nat)}{wi:TI}{g:Bk->TG}{tt:Bk->TT}{te:Bk->TE}(hc:X.calm=true)(S:aV X scope N fr)(hi:PI X target iter wi)
  (hin:∀z:Bk,PG (z.cx X scope N) target (g z)/\pO (z.cx X scope N) ifs (tt z)/\PE (z.cx X scope N) elt (te z))
  (hs:∀x,Ey iter X.env x=pure x:=by intro _; rfl):PE X (.ListComp elt [⟨target,iter,ifs,0⟩] scope pos) (CU fr wi g tt te):=by
 intro pins s σ H Q I h;rw[eval_ListComp];exact iW (em:=λD env=>(do let _ <-call (.builtin "list.append") [.ref D,<-eval elt env])) rfl hc S hi hs pQ L0 (λ_ _ _=>compTurn_list ..) (λ_ _ _ _ _ _ z=>z) (λ_ _ _=>rfl) (λz=>⟨(hin z).1,(hin z).2.1,λ_=>sy (hin z).2.2⟩) I h λ_ _ _ _ L q=>L.expr q
theorem BN{i:Nat}{x:Str}{elt target iter:Expr}{ifs:List Expr}{scope:Scope}{pos pos' spos:Pos}{N:List Str}{fr:List (Option Nat)}{wi:TI}{g:Bk->TG}{tt:Bk->TT}{te:Bk->TE}(hN:X.N.Nodup)(hi':X.N[i]? = some x)(hx:X.env.scope.names.lookup x=some .local)
  (hc:X.calm=true) (S:aV X scope N fr) (hi:PI X target iter wi)
  (hin:∀z:Bk,PG (z.cx X scope N) target (g z)/\pO (z.cx X scope N) ifs (tt z)/\PE (z.cx X scope N) elt (te z))
  (hs:∀x,Ey iter X.env x=pure x:=by intro _; rfl) (hsw:Gh (.ListComp elt [⟨target,iter,ifs,0⟩] scope pos) (some (.Name x pos')) spos.line X.env=pure true:=by rfl) :
  PS X (.Assign [.Name x pos'] (.ListComp elt [⟨target,iter,ifs,0⟩] scope pos) spos) (nB (CU fr wi g tt te) (uV i)):=by
 intro pins s σ H Dn I h;exact yO hsw (iW (em:=λD env=>(do let _ <-call (.builtin "list.append") [.ref D,<-eval elt env])) rfl hc S hi hs pQ L0 (λ_ _ _=>compTurn_list ..) (λ_ _ _ _ _ _ z=>z) (λ_ _ _=>rfl) (λz=>⟨(hin z).1,(hin z).2.1,λ_=>sy (hin z).2.2⟩) I h λ_ _ _ _ L q=>L.asg hN hi' hx q)
end
theorem compTurn_dict(ek ev target iter:Expr)(ifs:List Expr)(scope:Scope)(pos:Pos)(it:Value)(d:Addr)(env:Env) :
  KH (.DictComp ek ev [⟨target,iter,ifs,0⟩] scope pos) 0 it (.ref d) env=nT target iter ifs (do
    let kv <-eval ek env
    let vv <-Hu [kv] (eval ev env)
    IY { ek.pos with endLine:=ev.pos.endLine,endCol:=ev.pos.endCol }
    Hu [kv,vv] (dictSet d kv vv)) it env (again (.compLoop (.DictComp ek ev [⟨target,iter,ifs,0⟩] scope pos) 0 it (.ref d) env)):=by rfl
theorem codeAny_compStart_dict{prog:EK}{w:World}{A:FK}{R:Lp->Bi->Prop}{s:Bi}{ek ev target iter ifs rest scope pos it acc env}
  (h0:Hb (model prog w) A (.compLoop (.DictComp ek ev (⟨target,iter,ifs,0⟩::rest) scope pos) 0 it acc env) R s)
  (h:wpAny (model prog w) A (KF it) (λit' s'=>Hb (model prog w) A (.compLoop (.DictComp ek ev (⟨target,iter,ifs,0⟩::rest) scope pos) 0 it' acc env) R s')
   (notedBy (model prog w) A env λx s'=>R (.error x) s') s) :
  Hb (model prog w) A (.compStart (.DictComp ek ev (⟨target,iter,ifs,0⟩::rest) scope pos) 0 it acc env) R s:=by
 refine codeAny_of_tree ?_;show wpAny _ _ ((compStart (.DictComp ek ev (⟨target,iter,ifs,0⟩::rest) scope pos) 0 it acc env).onRaise (λx=>do noteFrame x env; IY theWindowsPlace)) _ _ s
 refine wpAny_notedAt ?_;unfold compStart;show wpAny _ _ (ask >>= _) _ _ s;refine AT (wpAny_askSetting (wpAny_ite ?_))
 split
 ·first
   |exact AT (Bn (Bn (K9 rfl h0)))
   |exact Bn (K9 rfl h0)
 ·first
   |exact AT (HW (AT (HE (AT (GT h (λit' s' h'=>Bn (K9 rfl h')) λ_ _ x=>x)))))
   |(refine AT (HW ?_); show wpAny _ _ (IY iter.pos >>= _) _ _ s; exact AT (HE (AT (GT h (λit' s' h'=>Bn (K9 rfl h')) λ_ _ x=>x))))
noncomputable def ePut(D:Addr)(tk tv:TE):BK:=λσ H R=>tk σ H λy H1=>tv σ H1 λv H2=>∃kvs k,y=kV k/\H2 D=some (.dK kvs)/\kvs.length<E4/\R σ (upd H2 D (.dK (putK kvs k v)))
theorem d_set{X:Cx}{pins:List (Addr×Obj)}{σ:St}{H:Hp}{s:Bi}{A:FK}{E:Value->Bi->Prop}{a:Addr}{k:Key}{v:V}{u r:Value}{kvs:List (Key×V)}{Q:Unit->Bi->Prop}(I:Inv X pins σ H s)(e:H a=some (.dK kvs))(l:kvs.length<E4)(ry:RelV (kV k) u)(rv:RelV v r)
  (h:∀s',Inv X pins σ (upd H a (.dK (putK kvs k v))) s'->Q () s'):wpAny (model X.prog X.w) A (dictSet a u r) Q E s:=by
 obtain⟨z,hd,vs,rel,dd⟩:=vn I.hok e;have hz:vs.length<=E4:=by rw[<-rel.length]; exact z
 have hl:(putK kvs k v).length<=E4:=by have:=fj kvs k v; lia
 refine La (hsz:=hz) (kC ry) dd λh' dd' hs=>h _ ?_
 have he:∃q,h'.get? a=some q:=let ⟨q,_,_,hq,_⟩:=dd'; ⟨q,hq⟩;exact nO I (by rw[e]; exact HC) hs he (vp hl hd (rel.put k rv) dd')
theorem BO {X:Cx} {ek ev:Expr} {tk tv:TE} {D:Addr} {p:Pos} (hk:PE X ek tk) (hv:PE X ev tv):PEm2 X (do
        let kv <-eval ek X.env
        let vv <-Hu [kv] (eval ev X.env)
        IY p
        Hu [kv,vv] (dictSet D kv vv)) (ePut D tk tv):=by
  intro pins s σ H R I hq;refine AT (b7 (hk pins s σ H _ I hq) λu s1 ⟨y,H1,I1,r1,q1⟩=>?_)
  refine AT (FX (b7 (hv pins s1 σ H1 _ I1 q1) λr s2 ⟨v,H2,I2,r2,q2⟩=>?_))
  obtain⟨kvs,k,e,hD,hz,q⟩:=q2;subst e;exact AT (HE (FX (d_set I2 hD hz r1 r2 λs3 I3=>⟨σ,_,I3,q⟩)))
noncomputable def DZ(fr:List (Option Nat))(wi:TI)(g:Bk->TG)(tt:Bk->TT)(tk tv:Bk->TE):TE:=λσ H Q=>wi σ H λJ H1=>∀D,H1 D=none->∀z,gm (g z) (tt z) (ePut D (tk z) (tv z)) J (kG fr σ) (upd H1 D (.dK [])) λ_ H'=>Q (.ref D) H'
section
variable{X:Cx}
theorem pe_dc{ek ev target iter:Expr}{ifs:List Expr}{scope:Scope}{pos:Pos}{N:List Str}{fr:List (Option Nat)}{wi:TI}{g:Bk->TG}{tt:Bk->TT}{tk tv:Bk->TE}(hc:X.calm=true)(S:aV X scope N fr)(hi:PI X target iter wi)
  (hin:∀z:Bk,PG (z.cx X scope N) target (g z)/\pO (z.cx X scope N) ifs (tt z)/\PE (z.cx X scope N) ek (tk z)/\PE (z.cx X scope N) ev (tv z))
  (hs:∀x,Ey iter X.env x=pure x:=by intro _; rfl):PE X (.DictComp ek ev [⟨target,iter,ifs,0⟩] scope pos) (DZ fr wi g tt tk tv):=by
 intro pins s σ H Q I h;exact iW (e:=.DictComp ek ev [⟨target,iter,ifs,0⟩] scope pos) (newAcc:=newDict) rfl hc S hi hs (λ_ _ _ s _ I h=>Ex (h _ _ (I.laid (a:=s.heap.objs.size) (o:=.dK []) (t':=s.toks) (λ_ _ q=>BM _ q) (Db _) (vD s.heap I.big)) rfl rfl)) codeAny_compStart_dict (λ_ _ _=>compTurn_dict ..) (λ_ _ _ _ _ _ z=>z) (λ_ _ _=>rfl) (λz=>⟨(hin z).1,(hin z).2.1,λ_=>BO (hin z).2.2.1 (hin z).2.2.2⟩) I h λ_ _ _ _ L q=>L.expr q
end
end L2
end
section
namespace L2
open PySem PySem.W PyProof.Rows
def eV{α:Type}(lt:Nat->Nat->Bool)(N:Nat):KasT α->(α->Prop)->Prop
 |.ret a,R=>R a
 |.ask i j k,R=>i<N/\j<N/\eV lt N (k (lt i j)) R
theorem dN{α β:Type}{lt:Nat->Nat->Bool}{N:Nat}{f:α->KasT β}{R:β->Prop}:∀(t:KasT α),eV lt N t (λa=>eV lt N (f a) R)->eV lt N (t.bind f) R
 |.ret _,h=>h
 |.ask i j k,⟨h1,h2,h3⟩=>⟨h1,h2,dN (k (lt i j)) h3⟩
theorem bL{α:Type}{lt:Nat->Nat->Bool}{N:Nat}{R R':α->Prop}(hr:∀a,R a->R' a):∀(t:KasT α),eV lt N t R->eV lt N t R'
 |.ret _,h=>hr _ h
 |.ask i j k,⟨h1,h2,h3⟩=>⟨h1,h2,bL hr (k (lt i j)) h3⟩
theorem pR{α:Type}{lt:Nat->Nat->Bool}{N:Nat}{P:Bi->Prop}{cmp:Nat->Nat->(Bool->Bi->Prop)->Bi->Prop}{Q:α->Bi->Prop}
  (hc:∀i j C s,i<N->j<N->P s->(∀s',P s'->C (lt i j) s')->cmp i j C s):∀(t:KasT α)(s:Bi),P s->eV lt N t (λa=>∀s',P s'->Q a s')->t.kasWp cmp Q s
 |.ret _,s,hp,h=>h s hp
 |.ask i j k,s,hp,⟨h1,h2,h3⟩=>hc i j _ s h1 h2 hp λs' hp'=>pR hc (k (lt i j)) s' hp' h3
structure Ord(lt:Nat->Nat->Bool):Prop where
 asym:∀a b,lt a b=true->lt b a=false
 trans:∀a b c,lt b a=false->lt c b=false->lt c a=false
section
variable{lt:Nat->Nat->Bool}{N:Nat}
noncomputable abbrev gD(p:Array Nat)(i:Nat):Nat:=p.getD i 0
theorem kH(p:Array Nat)(i:Nat):gD p i=(p[i]?).getD 0:=by
 unfold gD; simp
def pe(lt:Nat->Nat->Bool)(p:Array Nat)(m:Nat):Prop:=∀i j,i<=j->j<m->lt (gD p j) (gD p i)=false
def yP(lt:Nat->Nat->Bool)(p:Array Nat)(m:Nat):Prop:=∀i j,i<=j->j<m->lt (gD p i) (gD p j)=false
def Az(lt:Nat->Nat->Bool)(p:Array Nat)(a b:Nat):Prop:=∀i j,a<=i->i<b->a<=j->j<b->lt (gD p i) (gD p j)=false
def Pm(N:Nat)(p:Array Nat):Prop:=p.Perm (Hc (Ch N))
theorem Pm.size{p:Array Nat}(h:Pm N p):p.size=N:=by
 have:=h.size_eq;simpa using this
theorem Pm.bd{p:Array Nat}(h:Pm N p)(hN:0<N)(i:Nat):gD p i<N:=by
 unfold gD
 by_cases hi:i<p.size
 ·have hm:p[i]∈p:=Iv hi
  have:p[i]∈(Hc (Ch N)):=h.mem_iff.mp hm;have hlt:p[i]<N:=by simpa using this
  simpa[Jg,hi] using hlt
 ·simpa[Jg,hi] using hN
theorem Pm.rev{p:Array Nat}(h:Pm N p)(i j:Nat):Pm N (K2 p i j):=(mirror_perm p i j _).trans h
theorem Pm.Eg{p:Array Nat}(h:Pm N p)(i j:Nat):Pm N (bubble p i j):=(bubble_perm p i j).trans h
theorem dP{p:Array Nat}{i j:Nat}(hj:j<=p.size)(k:Nat):gD (K2 p i j) k=if i<=k/\k<j then gD p (i+j-1-k) else gD p k:=by
 rw[kH,kH,kH];unfold K2;rw[getElem?_mirror_all hj]
 split <;> rfl
theorem kI(O:Ord lt){p:Array Nat}(hp:Pm N p)(hN:0<N):∀(f n:Nat),1<=n->pe lt p n->eV lt N (kas_asc p f n) (λm=>n<=m/\m<=n+f/\pe lt p m/\(m<n+f->lt (gD p m) (gD p (m-1))=true))
 |0,n,h1,hs=>⟨Db _,Db _,hs,λh=>absurd h (GM _)⟩
 |f+1,n,h1,hs=>by
  refine⟨hp.bd hN _,hp.bd hN _,?_⟩;cases e:lt (p.getD n 0) (p.getD (n-1) 0) with
  |true=>
   simp only[if_true];exact⟨Db _,by lia,hs,λ_=>e⟩
  |false=>
   simp only[Fc,if_false];have hs':pe lt p (n+1):=by
    intro i j hij hj
    by_cases hjn:j=n
    ·subst hjn
     by_cases hin:i=j
     ·subst hin
      cases q:lt (gD p i) (gD p i) with
      |false=>rfl
      |true=>rw[O.asym _ _ q] at q; cases q
     ·exact O.trans _ _ _ (hs i (j-1) (by lia) (by lia)) e
    ·exact hs i j hij (by lia)
   exact bL (λm ⟨a,b,c,d⟩=>⟨by lia,by lia,c,λh=>d (by lia)⟩) _ (kI O hp hN f (n+1) (by lia) hs')
theorem AA(O:Ord lt)(a:Nat):lt a a=false:=by
 cases q:lt a a with
 |false=>rfl
 |true=>rw[O.asym _ _ q] at q; cases q
theorem eqs_rev(O:Ord lt){p:Array Nat}{a b:Nat}(hb:b<=p.size)(h:Az lt p a b):Az lt (K2 p a b) a b:=by
 intro i j h1 h2 h3 h4;rw[dP hb,dP hb,if_pos ⟨h1,h2⟩,if_pos ⟨h3,h4⟩];exact h _ _ (by lia) (by lia) (by lia) (by lia)
theorem nU(O:Ord lt){p:Array Nat}{a b:Nat}(hb:b<=p.size)(h:Az lt p a b)(hd:yP lt p b):yP lt (K2 p a b) b:=by
 intro i j hij hj;rw[dP hb,dP hb]
 by_cases hi:a<=i/\i<b
 ·rw[if_pos hi,if_pos ⟨by lia,hj⟩]
  exact h _ _ (by lia) (by lia) (by lia) (by lia)
 ·rw[if_neg hi]
  by_cases hj':a<=j/\j<b
  ·rw[if_pos hj']
   exact hd _ _ (by lia) (by lia)
  ·rw[if_neg hj']
   exact hd _ _ hij hj
theorem gP(O:Ord lt){p:Array Nat}{n:Nat}(h1:1<=n)(hd:yP lt p n)(e:lt (gD p (n-1)) (gD p n)=false):yP lt p (n+1):=by
 intro i j hij hj
 by_cases hjn:j=n
 ·subst hjn
  by_cases hin:i=j
  ·subst hin; exact AA O _
  ·exact O.trans _ _ _ e (hd i (j-1) (by lia) (by lia))
 ·exact hd i j hij (by lia)
theorem iB(O:Ord lt)(hN:0<N):∀(f:Nat)(p:Array Nat)(n q:Nat),Pm N p->q+1<=n->n+f<=N->yP lt p n->Az lt p (n-(q+1)) n ->
  eV lt N (kas_desc f p n q) (λr=>Pm N r.1/\n<=r.2.1/\r.2.1<=n+f/\r.2.2+1<=r.2.1/\yP lt r.1 r.2.1/\Az lt r.1 (r.2.1-(r.2.2+1)) r.2.1)
 |0,p,n,q,hp,hq,hn,hd,he=>⟨hp,Db _,Db _,hq,hd,he⟩
 |f+1,p,n,q,hp,hq,hn,hd,he=>by
  have one:∀(p:Array Nat)(n:Nat),Az lt p (n+1-(0+1)) (n+1):=λp n i j h1 h2 h3 h4=>by
   have e:i=j:=by lia
   subst e; exact AA O _
  refine⟨hp.bd hN _,hp.bd hN _,?_⟩;cases e:lt (p.getD n 0) (p.getD (n-1) 0) with
  |true=>
   simp only[if_true];have e':lt (gD p (n-1)) (gD p n)=false:=O.asym _ _ e
   by_cases hq0:q>0
   ·rw[if_pos hq0]
    have hb:n<=p.size:=by rw[hp.size]; lia
    have hd':=nU O hb he hd;refine bL (λr ⟨a,b,c,d⟩=>⟨a,by lia,by lia,d⟩) _ (iB O hN f _ (n+1) 0 (hp.rev _ _) (by lia) (by lia) (gP O (by lia) hd' ?_) (one _ _))
    rw[dP hb,dP hb,if_pos ⟨by lia,by lia⟩,if_neg (by lia)]
    exact O.trans _ _ _ e' (he _ _ (by lia) (by lia) (by lia) (by lia))
   ·rw[if_neg hq0]
    exact bL (λr ⟨a,b,c,d⟩=>⟨a,by lia,by lia,d⟩) _ (iB O hN f _ (n+1) 0 hp (by lia) (by lia) (gP O (by lia) hd e') (one _ _))
  |false=>
   simp only[Fc,if_false];refine⟨hp.bd hN _,hp.bd hN _,?_⟩;cases e2:lt (p.getD (n-1) 0) (p.getD n 0) with
   |true=>
    simp only[if_true];exact⟨hp,Db _,(show n<=n+(f+1) by lia),hq,hd,he⟩
   |false=>
    simp only[Fc,if_false];refine bL (λr ⟨a,b,c,d⟩=>⟨a,by lia,by lia,d⟩) _ (iB O hN f _ (n+1) (q+1) hp (by lia) (by lia) (gP O (by lia) hd e2) ?_)
    intro i j h1 h2 h3 h4
    by_cases hi:i=n
    ·by_cases hj:j=n
     ·subst hi; subst hj; exact AA O _
     ·rw[hi]
      exact O.trans _ _ _ (he j (n-1) (by lia) (by lia) (by lia) (by lia) |> λz=>he (n-1) j (by lia) (by lia) (by lia) (by lia)) e
    ·by_cases hj:j=n
     ·rw[hj]
      exact O.trans _ _ _ e2 (he i (n-1) (by lia) (by lia) (by lia) (by lia))
     ·exact he i j (by lia) (by lia) (by lia) (by lia)
theorem kJ(O:Ord lt)(hN:0<N){p:Array Nat}{n:Nat}(hp:Pm N p)(h1:1<=n)(hn:n<=N)(hd:yP lt p n):eV lt N (kas_tail3 n N p) (λr=>Pm N r.2/\1<=r.1/\r.1<=N/\pe lt r.2 r.1):=by
 unfold kas_tail3;have hb:n<=p.size:=by rw[hp.size]; exact hn
 have hs:pe lt (K2 p 0 n) n:=by
  intro i j hij hj;rw[dP hb,dP hb,if_pos ⟨by lia,hj⟩,if_pos ⟨by lia,by lia⟩]
  exact hd _ _ (by lia) (by lia)
 refine dN _ (bL (λm ⟨a,b,c,d⟩=>?_) _ (kI O (hp.rev 0 n) hN (N-n) n h1 hs))
 exact⟨hp.rev _ _,by show 1<=m; lia,by show m<=N; lia,c⟩
theorem iM(O:Ord lt)(hN:0<N){p:Array Nat}{n:Nat}(hp:Pm N p)(h1:1<=n)(hn:n+1<=N)(hd:yP lt p (n+1)):eV lt N (kas_descPart n N p) (λr=>Pm N r.2/\1<=r.1/\r.1<=N/\pe lt r.2 r.1):=by
 unfold kas_descPart;have e1:Az lt p (n+1-(0+1)) (n+1):=λi j h1 h2 h3 h4=>by
  have e:i=j:=by lia
  subst e; exact AA O _
 refine dN _ (bL (λr hr=>?_) _ (iB O hN (N-(n+1)) p (n+1) 0 hp (by lia) (by lia) hd e1))
 ·obtain⟨a,b,c,d,e,g⟩:=hr
  have hb:r.2.1<=r.1.size:=by rw[a.size]; lia
  by_cases hq:r.2.2>0
  ·rw[if_pos hq]
   exact kJ O hN (a.rev _ _) (by lia) (by lia) (nU O hb g e)
  ·rw[if_neg hq]
   exact kJ O hN a (by lia) (by lia) e
theorem qT(O:Ord lt)(hN:0<N){p:Array Nat}(hp:Pm N p):eV lt N (kas_count N p) (λr=>Pm N r.2/\1<=r.1/\r.1<=N/\pe lt r.2 r.1):=by
 unfold kas_count;have s1:pe lt p 1:=λi j hij hj=>by
  have e:i=j:=by lia
  subst e; exact AA O _
 refine dN _ (bL (λn ⟨a,b,c,d⟩=>?_) _ (kI O hp hN (N-1) 1 (Db _) s1))
 by_cases hn:(n == N)=true
 ·rw[if_pos hn]
  have:n=N:=by simpa using hn
  exact⟨hp,a,by show n<=N; lia,c⟩
 ·rw[if_neg hn]
  have hne:n≠N:=by simpa using hn
  have dl:=d (by lia)
  by_cases h1:n>1
  ·rw[if_pos h1]
   refine⟨hp.bd hN _,hp.bd hN _,?_⟩;cases e:lt (p.getD 0 0) (p.getD (n-1) 0) with
   |true=>
    simp only[if_true];exact⟨hp,a,by show n<=N; lia,c⟩
   |false=>
    simp only[Fc,if_false];have hb:n<=p.size:=by rw[hp.size]; lia
    have eqs:Az lt p 0 n:=λi j _ h2 _ h4=>by
     refine O.trans _ (gD p (n-1)) _ (c j (n-1) (by lia) (by lia)) ?_
     exact O.trans _ (gD p 0) _ e (c 0 i (by lia) h2)
    have hd:yP lt p n:=λi j hij hj=>eqs i j (by lia) (by lia) (by lia) hj
    refine iM O hN (hp.rev _ _) a (by lia) (gP O a (nU O hb eqs hd) ?_)
    rw[dP hb,dP hb,if_pos ⟨by lia,by lia⟩,if_neg (by lia)]
    exact O.trans _ _ _ (O.asym _ _ dl) (eqs _ _ (by lia) (by lia) (by lia) (by lia))
  ·rw[if_neg h1]
   have e1:n=1:=by lia
   subst e1;refine iM O hN hp (Db _) (by lia) (gP O (Db _) (λi j hij hj=>?_) (O.asym _ _ dl))
   have e:i=j:=by lia
   subst e; exact AA O _
theorem iX(O:Ord lt)(hN:0<N){p:Array Nat}{k:Nat}(hp:Pm N p)(hs:pe lt p k):∀(f l r:Nat),l<=r->r<=k->r-l<=f->(∀i,i<l->lt (gD p k) (gD p i)=false)->(∀i,r<=i->i<k->lt (gD p k) (gD p i)=true) ->
  eV lt N (kas_place p k f l r) (λl'=>l'<=k/\(∀i,i<l'->lt (gD p k) (gD p i)=false)/\∀i,l'<=i->i<k->lt (gD p k) (gD p i)=true)
 |0,l,r,h1,h2,h3,a,b=>⟨by lia,a,λi hi hk=>b i (by lia) hk⟩
 |f+1,l,r,h1,h2,h3,a,b=>by
  unfold kas_place
  by_cases h:l>=r
  ·rw[if_pos h]
   exact⟨by lia,a,λi hi hk=>b i (by lia) hk⟩
  ·rw[if_neg h]
   refine⟨hp.bd hN _,hp.bd hN _,?_⟩;cases e:lt (p.getD k 0) (p.getD ((l+r) / 2) 0) with
   |true=>
    simp only[if_true];refine iX O hN hp hs f l ((l+r) / 2) (by lia) (by lia) (by lia) a λi hi hk=>?_
    cases q:lt (gD p k) (gD p i) with
    |true=>rfl
    |false=>
     have z:=O.trans _ _ _ (hs ((l+r) / 2) i hi hk) q;rw[e] at z; cases z
   |false=>
    simp only[Fc,if_false];refine iX O hN hp hs f ((l+r) / 2+1) r (by lia) (by lia) (by lia) (λi hi=>?_) b
    exact O.trans _ _ _ (hs i ((l+r) / 2) (by lia) (by lia)) e
theorem sA{p:Array Nat}{k l:Nat}(hk:k<p.size)(hl:l<=k)(i:Nat):gD (bubble p k (k-l)) i=if i=l then gD p k else if l<i/\i<=k then gD p (i-1) else gD p i:=by
 rw[kH,kH,kH,kH,getElem?_bubble hk (k-l) (by lia)]
 have e:k-(k-l)=l:=by lia
 rw[e]
 split
 ·rfl
 ·split <;> rfl
theorem pS(O:Ord lt)(hN:0<N):∀(f:Nat)(p:Array Nat)(k:Nat),Pm N p->1<=k->k+f=N->pe lt p k->eV lt N (kas_bin f p k) (λp'=>Pm N p'/\pe lt p' N)
 |0,p,k,hp,h1,hk,hs=>⟨hp,(by lia:k=N)▸hs⟩
 |f+1,p,k,hp,h1,hk,hs=>by
  unfold kas_bin;refine dN _ (bL (λl ⟨hl,a,b⟩=>?_) _ (iX O hN hp hs k 0 k (EY _) (Db _) (by lia) (λi hi=>absurd hi (Lg _)) λi hi hk=>absurd hk (by lia)))
  refine pS O hN f _ (k+1) (hp.Eg _ _) (by lia) (by lia) ?_
  have hks:k<p.size:=by rw[hp.size]; lia
  intro i j hij hj;rw[sA hks hl,sA hks hl]
  by_cases hjl:j=l
  ·rw[if_pos hjl]
   by_cases hil:i=l
   ·rw[if_pos hil]; exact AA O _
   ·rw[if_neg hil,if_neg (by lia)]
    exact a i (by lia)
  ·rw[if_neg hjl]
   by_cases hj2:l<j/\j<=k
   ·rw[if_pos hj2]
    by_cases hil:i=l
    ·rw[if_pos hil]
     exact O.asym _ _ (b (j-1) (by lia) (by lia))
    ·rw[if_neg hil]
     by_cases hi2:l<i/\i<=k
     ·rw[if_pos hi2]
      exact hs _ _ (by lia) (by lia)
     ·rw[if_neg hi2]
      exact hs _ _ (by lia) (by lia)
   ·rw[if_neg hj2,if_neg (by lia),if_neg (by lia)]
    exact hs _ _ (by lia) (by lia)
theorem ua(O:Ord lt)(hN:0<N):eV lt N (kas_sort N) (λp=>Pm N p/\pe lt p N):=by
 unfold kas_sort;refine dN _ (bL (λr ⟨a,b,c,d⟩=>?_) _ (qT O hN (Kc _)))
 by_cases h:r.1<N
 ·rw[if_pos h]
  have e:max r.1 1=r.1:=by lia
  rw[e];exact pS O hN _ _ _ a b (by lia) d
 ·rw[if_neg h]
  have e:r.1=N:=by lia
  exact⟨a,by rw[<-e]; exact d⟩
end
end L2
end
section
namespace L2
open PySem PySem.W PyProof.Rows PySem.Calls
section
variable{prog:EK}{w:World}{A:FK}{E:Value->Bi->Prop}{s:Bi}
noncomputable def jj(vs:List Value)(p:Array Nat):List Value:=p.toList.map λi=>vs.getD i GG
theorem lT{a:Addr}{vs:List Value}{n:Nat}{lt:Nat->Nat->Bool}{P:PySem.Fin->Bi->Prop}(O:Ord lt)(ho:s.heap.get? a=some (FR "list" vs.toArray n))(h64:vs.length<64)
  (hk:2<=vs.length->∀h':Heap,(∀b o,b≠a->s.heap.get? b=some o->h'.get? b=some o)->∃κ,(∀Q:SortKind->Bi->Prop,Q κ { s with heap:=h' }->wpAny (model prog w) A (keyKind' vs.toArray) Q (λ_ _=>False) { s with heap:=h' }) /\
   ∀i j,i<vs.length->j<vs.length->∀C:Bool->Bi->Prop,C (lt i j) { s with heap:=h' }->wpAny (model prog w) A (keyLt' κ (vs.getD i GG) (vs.getD j GG)) C (λ_ _=>False) { s with heap:=h' })
  (h:∀p:Array Nat,Pm vs.length p->pe lt p vs.length->P (.done (.ret .none)) { s with heap:=sortedHeap s.heap a vs (jj vs p).toArray }) :
  wpAny (model prog w) A (Gs.«list.sort» ⟨[.ref a],[]⟩) P E s:=by
 have ha:a<s.heap.objs.size:=Da ho;obtain⟨e1,ho1⟩:∃e1,(s.heap.update a (Ew λ_=>(#[]:Array Value))).get? a=some (FR "list" #[] e1):=⟨_,get?_update_seq ho λ_=> #[]⟩
 rw[list_sort_plain];refine AT (L8 ho rfl ?_);refine AT (J6 ho rfl ?_ (by rw[Bz,FN]; lia) (EY _))
 refine AT (LW ho1 rfl ?_);refine AT (KB ?_ (by show vs.length<=_; rw[FN]; lia))
 refine AT (IN ?_ (EY _));refine FX ?_;have ho6:(((s.heap.update a (Ew λ_=> #[])).push (FR "tuple" vs.toArray 0)).push (FR "list" #[] 0)).get? a=some (FR "list" #[] e1):=by
  rw[Hv _ _ _ (by rw[Lu,ID]; exact ED (Gn ha)),Hv _ _ _ (by rw[ID]; exact ED ha)]
  exact ho1
 show wpAny (model prog w) A _ P E { s with heap:=((s.heap.update a (Ew λ_=>(#[]:Array Value))).push (FR "tuple" vs.toArray 0)).push (FR "list" #[] 0) }
 dsimp only
 by_cases h2:vs.toArray.size<2
 ·rw[if_pos h2,if_pos h2]
  refine AT (Bn ?_);rw[StateT.run_pure];refine AT (Bn ?_);dsimp only;refine AT (LW ho6 rfl ?_);have hsmall:vs.length<2:=by simpa using h2
  refine AT (J6 ho6 rfl ?_ (hsz2:=by rw[Array.size_map]; show (pairsOf vs).size<=_; rw[pairsOf_size,FN]; lia))
  simp only[bne_self_eq_false,Fc,if_false];have hp:Pm vs.length (Hc (Ch vs.length)):=Kc _;have hs:pe lt (Hc (Ch vs.length)) vs.length:=λi j hij hj=>by
   have e:i=j:=by lia
   subst e; exact AA O _
  have z:=h _ hp hs;have eo:((arrOf (SortSt.mk' general' (vs.toArray.zip vs.toArray) #[] 7 none)).map (·.2))=(jj vs (Hc (Ch vs.length))).toArray:=by
   have e1:jj vs (Hc (Ch vs.length))=vs:=by
    unfold jj;apply HG;intro i;rw[E9]
    by_cases hi:i<vs.length
    ·simp[GY hi,hi]
    ·simp[Fj,hi,JG hi]
   rw[e1];show (vs.toArray.zip vs.toArray).map (·.2)=vs.toArray;apply LJ.mp;simp[IE]
  refine Bn ?_;rw[<-eo] at z;exact z
 ·rw[if_neg h2,if_neg h2]
  have h2':2<=vs.length:=by
   have:¬vs.length<2:=by simpa using h2
   lia
  have keep:∀b o,b≠a->s.heap.get? b=some o->(((s.heap.update a (Ew λ_=>(#[]:Array Value))).push (FR "tuple" vs.toArray 0)).push (FR "list" #[] 0)).get? b=some o:=λb o hb e=>
   BM _ (BM _ ((IK s.heap _ (Gz hb)).trans e))
  obtain⟨κ,hkk,hlt⟩:=hk h2' _ keep;refine AT (GT (hkk _ ?_) (λκ s0 hk=>hk) λ_ _ x=>x.elim)
  have tree:(kas_sort vs.length).kasWp (kas_ask prog w A κ vs) (λp s'=>s'={ s with heap:=((s.heap.update a (Ew λ_=>(#[]:Array Value))).push (FR "tuple" vs.toArray 0)).push (FR "list" #[] 0) }/\Pm vs.length p/\pe lt p vs.length)
    { s with heap:=((s.heap.update a (Ew λ_=>(#[]:Array Value))).push (FR "tuple" vs.toArray 0)).push (FR "list" #[] 0) }:=by
   refine pR (N:=vs.length) (lt:=lt) (P:=λs'=>s'={ s with heap:=((s.heap.update a (Ew λ_=>(#[]:Array Value))).push (FR "tuple" vs.toArray 0)).push (FR "list" #[] 0) }) ?_ _ _ rfl (bL (λp hp s' hs'=>⟨hs',hp.1,hp.2⟩) _ (ua O (by lia)))
   intro i j C s' hi hj hs' hC;subst hs';exact hlt i j hi hj C (hC _ rfl)
  refine AT (GT (kat_run (Q:=λst' s'=>∃p:Array Nat,p.size=vs.length/\arrOf st'=p.map (kas_item (vs.toArray.zip vs.toArray))/\failedOf st'=none /\
    (s'={ s with heap:=((s.heap.update a (Ew λ_=>(#[]:Array Value))).push (FR "tuple" vs.toArray 0)).push (FR "list" #[] 0) }/\Pm vs.length p/\pe lt p vs.length))
   rfl h2' h64 (λp' st' s' a1 a2 a3 a4=>⟨p',a1,a2,a3,a4⟩) tree) ?_ λ_ _ e=>e)
  rintro⟨⟨⟩,st'⟩ s' ⟨p,hp,har,hf,hs',hpm,hsr⟩;subst hs';dsimp only;have hout:=kat_snds rfl har;rw[hout];refine AT (LW ho6 rfl ?_);refine AT (J6 ho6 rfl ?_ (hsz2:=by rw[Bz,At,EN,hp,FN]; lia))
  rw[hf];simp only[bne_self_eq_false,Fc,if_false];exact Bn (h p hpm hsr)
theorem pT{l:Addr}{vs:List Value}{Q:List Value->Bi->Prop}(hl:IsTup s.heap l vs.toArray)(hsz:vs.length<=E4)
  (h:Q vs { s with heap:=(s.heap.push (FR "list" #[] 0)).update s.heap.objs.size (Ew (· ++ vs.toArray)) }):wpAny (model prog w) A (JS (.ref l)) Q E s:=by
 obtain⟨o,ho,hc,n,hd⟩:=id hl;unfold JS;refine AT (KA (G9 entry_proto_collect' ?_));show wpAny _ _ (do again (.builtin "list.__iadd__" ⟨[<-K1 [],.ref l],[]⟩)) _ _ s
 refine AT (IN (Bn ⟨Code.quiet_builtin _ (by decide +kernel),G9 entry_list_iadd' ?_⟩))
 show wpAny _ _ (Gc (.ref s.heap.objs.size) (.ref l) (.ref s.heap.objs.size)) _ _ { s with heap:=s.heap.push (FR "list" #[] 0) }
 unfold Gc;have ho':(s.heap.push (FR "list" #[] 0)).get? l=some o:=BM _ ho;refine AT (HL (T := "tuple") ⟨o,ho',hc⟩ ?_);rw[if_pos (by rw[show (Kk "tuple" == Kk "tuple")=true from rfl]; simp)]
 refine AT (L8 ho' hd (AT (L8 (xs:=#[]) (n:=0) (Dx _ rfl) rfl ?_)));rw[if_neg (by simp)]
 refine AT (J6 (xs:=#[]) (n:=0) (Dx _ rfl) rfl ?_ (EY _) (by show (#[]++vs.toArray).size<=E4+1; simp only[Array.size_append,Bz,F9]; lia))
 refine Bn ?_;show wpAny (model prog w) A (do
   let o <-load s.heap.objs.size
   match o.data with
   |.seq xs _=>pure xs.toList
   |_=>Iq "internal:collect") Q E { s with heap:=(s.heap.push (FR "list" #[] 0)).update s.heap.objs.size (Ew (· ++ vs.toArray)) }
 refine AT (KC (get?_update_seq (Dx _ rfl) _) ?_);show wpAny _ _ (pure ((#[]:Array Value)++vs.toArray).toList) Q E _;rw[show ((#[]:Array Value)++vs.toArray).toList=vs by simp]
 exact Bn h
theorem kK{l:Addr}{vs:List Value}{Q:List Value->Bi->Prop}(hl:s.heap.IsList l vs.toArray\/IsTup s.heap l vs.toArray)(hsz:vs.length<=E4)
  (h:Q vs { s with heap:=(s.heap.push (FR "list" #[] 0)).update s.heap.objs.size (Ew (· ++ vs.toArray)) }):wpAny (model prog w) A (JS (.ref l)) Q E s:=hl.elim (λq=>collect_list q h hsz) λq=>pT q hsz h
theorem pU{l:Addr}{vs:List Value}{ns:List Int}{Q:Value->Bi->Prop}(hl:s.heap.IsList l vs.toArray\/IsTup s.heap l vs.toArray)(hI:Fs vs ns)(h64:vs.length<64)
  (h:∀(out:Array Value)(ns':List Int),Fs out.toList ns'->ns'.Perm ns->ns'.Pairwise (·<=·)->Q (.ref (s.heap.objs.size+1)) { s with heap:=sortedAll s.heap vs out }) :
  wpAny (model prog w) A (call (.builtin "sorted") [.ref l]) Q E s:=by
 refine Hq LX L7 L9 (LA _) ?_;unfold Gs.«sorted»;refine AT (m:=Ln "sorted" 1 1 _) (Bn ?_);refine AT (kK hl (by rw[FN]; lia) ?_)
 refine AT (IN ?_ (by rw[FN]; lia))
 have hsz:((s.heap.push (FR "list" #[] 0)).update s.heap.objs.size (Ew (· ++ vs.toArray))).objs.size=s.heap.objs.size+1:=by rw[ID,Lu]
 have hoL:(((s.heap.push (FR "list" #[] 0)).update s.heap.objs.size (Ew (· ++ vs.toArray))).push (FR "list" vs.toArray 0)).get? (s.heap.objs.size+1)=some (FR "list" vs.toArray 0):=by
  rw[<-hsz]; exact Dx _ rfl
 show wpAny _ _ _ _ _ { s with heap:=((s.heap.push (FR "list" #[] 0)).update s.heap.objs.size (Ew (· ++ vs.toArray))).push (FR "list" vs.toArray 0) }
 rw[hsz];refine AT (FX (GE KR ⟨_,hoL,rfl⟩ Jz (list_sort_tree hoL hI h64 λout ns' a1 a2 a3=>⟨_,rfl,?_⟩) (KS _)))
 exact Bn ⟨_,rfl,h out ns' a1 a2 a3⟩
theorem qU{l:Addr}{vs:List Value}{lt:Nat->Nat->Bool}{Q:Value->Bi->Prop}(O:Ord lt)(hl:s.heap.IsList l vs.toArray\/IsTup s.heap l vs.toArray)(h64:vs.length<64)
  (hk:2<=vs.length->∀(A':FK),A'.units<=A.units+2->∀h':Heap,(∀b o,s.heap.get? b=some o->h'.get? b=some o)->∃κ,(∀Q:SortKind->Bi->Prop,Q κ { s with heap:=h' }->wpAny (model prog w) A' (keyKind' vs.toArray) Q (λ_ _=>False) { s with heap:=h' }) /\
   ∀i j,i<vs.length->j<vs.length->∀C:Bool->Bi->Prop,C (lt i j) { s with heap:=h' }->wpAny (model prog w) A' (keyLt' κ (vs.getD i GG) (vs.getD j GG)) C (λ_ _=>False) { s with heap:=h' })
  (h:∀p:Array Nat,Pm vs.length p->pe lt p vs.length->Q (.ref (s.heap.objs.size+1)) { s with heap:=sortedAll s.heap vs (jj vs p).toArray }) :
  wpAny (model prog w) A (call (.builtin "sorted") [.ref l]) Q E s:=by
 refine Hq LX L7 L9 (LA _) ?_;unfold Gs.«sorted»;refine AT (m:=Ln "sorted" 1 1 _) (Bn ?_);refine AT (kK hl (by rw[FN]; lia) ?_)
 refine AT (IN ?_ (by rw[FN]; lia))
 have hsz:((s.heap.push (FR "list" #[] 0)).update s.heap.objs.size (Ew (· ++ vs.toArray))).objs.size=s.heap.objs.size+1:=by
  rw[ID,Lu]
 have hoL:(((s.heap.push (FR "list" #[] 0)).update s.heap.objs.size (Ew (· ++ vs.toArray))).push (FR "list" vs.toArray 0)).get? (s.heap.objs.size+1)=some (FR "list" vs.toArray 0):=by
  rw[<-hsz]; exact Dx _ rfl
 have keep:∀b o,s.heap.get? b=some o->b≠s.heap.objs.size+1/\(((s.heap.push (FR "list" #[] 0)).update s.heap.objs.size (Ew (· ++ vs.toArray))).push (FR "list" vs.toArray 0)).get? b=some o:=λb o q=>by
  have hlt:b<s.heap.objs.size:=Da q;refine⟨ED (Gn hlt),?_⟩;rw[Hv _ _ _ (by rw[hsz]; exact ED (Gn hlt)),Heap.get?_update_ne _ _ _ _ (ED hlt),Hv _ _ _ (ED hlt)]
  exact q
 show wpAny _ _ _ _ _ { s with heap:=((s.heap.push (FR "list" #[] 0)).update s.heap.objs.size (Ew (· ++ vs.toArray))).push (FR "list" vs.toArray 0) }
 rw[hsz];refine AT (FX (GE KR ⟨_,hoL,rfl⟩ Jz ?body (KS _)))
 case body=>
  refine lT O hoL h64 (λh2 h' kp=>hk h2 _ ?_ h' λb o e=>kp b o (keep b o e).1 (keep b o e).2) λp a1 a2=>⟨_,rfl,Bn ⟨_,rfl,h p a1 a2⟩⟩
  show A.units+1+1<=A.units+2;lia
end
theorem gn:∀(a b:List Int),HT.lexLt a b=true->HT.lexLt b a=false
 |[],[],h=>by cases h
 |[],_::_,_=>rfl
 |_::_,[],h=>by cases h
 |x::xs,y::ys,h=>by
  rw[HT.cF] at h ⊢
  by_cases e:x=y
  ·subst e
   rw[if_pos rfl] at h ⊢;exact gn xs ys h
  ·rw[if_neg e] at h
   rw[if_neg (Gz e)];have:x<y:=by simpa using h
   exact decide_eq_false (by lia)
theorem fu:∀(a b c:List Int),HT.lexLt b a=false->HT.lexLt c b=false->HT.lexLt c a=false
 |[],[],[],_,_=>rfl
 |[],[],_::_,_,_=>rfl
 |[],_::_,[],_,h=>by cases h
 |[],_::_,_::_,_,_=>rfl
 |_::_,[],_,h,_=>by cases h
 |_::_,_::_,[],_,h=>by cases h
 |x::xs,y::ys,z::zs,h1,h2=>by
  rw[HT.cF] at h1 h2 ⊢
  by_cases e1:y=x
  ·subst e1
   rw[if_pos rfl] at h1
   by_cases e2:z=y
   ·subst e2
    rw[if_pos rfl] at h2 ⊢;exact fu xs ys zs h1 h2
   ·rw[if_neg e2] at h2 ⊢
    exact h2
  ·rw[if_neg e1] at h1
   have l1:¬y<x:=by simpa using h1
   by_cases e2:z=y
   ·subst e2
    rw[if_neg e1];exact decide_eq_false l1
   ·rw[if_neg e2] at h2
    have l2:¬z<y:=by simpa using h2
    rw[if_neg (by lia)]
    exact decide_eq_false (by lia)
theorem lexOrd(ks:List (List Int)):Ord (λi j=>HT.lexLt (ks.getD i []) (ks.getD j [])):=⟨λa b=>gn _ _,λa b c=>fu _ _ _⟩
def Dl(K:AC)(H:Hp)(ys:List V)(ks:List (List Int)):Prop:=Gm (λ(v:V)(t:List Int)=>∃a,v=.ref a/\dJ K H a (t.map V.int)) ys ks
theorem Gm.getD{α β:Type}{F:α->β->Prop}{d:α}{d':β}:∀{xs:List α}{ys:List β},Gm F xs ys->∀i,i<xs.length->F (xs.getD i d) (ys.getD i d'):=by
 intro xs ys h
 induction h with
 |nil=>exact λi h=>absurd h (Lg _)
 |cons r t ih=>
  intro i h;cases i with
  |zero=>exact r
  |succ i=>
   have:=ih i (by simpa using h)
   simpa using this
theorem pV{prog:EK}{w:World}{A:FK}{b:Bool}{Q:Bool->Bi->Prop}{s:Bi}:∀(xs ys:List Value)(as bs:List Int)(i:Nat),Vals (as.map V.int) xs->Vals (bs.map V.int) ys ->
  Q (HT.lexLt as bs) s->∀fin,(∀(n:Nat),fin=decide (n+xs.length<n+ys.length)->True)->(fin=decide (xs.length<ys.length))->KatLex prog w A b fin Q (xs.zip ys) i s:=by
 intro xs
 induction xs with
 |nil=>
  intro ys as bs i h1 h2 q fin _ hf;have e:as=[]:=by
   have:=h1.length;simpa using this
  subst e;show Q fin s;cases bs with
  |nil=>
   cases h2;rw[hf]; exact q
  |cons y bs=>
   cases h2 with
   |cons _ t=>
    have q:Q true s:=q;rw[hf]; simpa using q
 |cons x xs ih=>
  intro ys as bs i h1 h2 q fin _ hf;cases ys with
  |nil=>
   have e:bs=[]:=by
    have:=h2.length;simpa using this
   subst e;cases as with
   |nil=>cases h1
   |cons a as=>
    show Q fin s;have q:Q false s:=q;rw[hf];simpa using q
  |cons y ys=>
   cases as with
   |nil=>cases h1
   |cons a as=>
    cases bs with
    |nil=>cases h2
    |cons c bs=>
     cases h1 with
     |cons r1 t1=>
      cases h2 with
      |cons r2 t2=>
       obtain⟨t,rfl⟩:=r1;obtain⟨u,rfl⟩:=r2;refine kat_cons (wpAny_eqBool_int ?_);rw[HT.cF] at q
       by_cases e:a=c
       ·subst e
        rw[show (a == a)=true by simp]
        rw[if_pos rfl] at q;exact kat_yes (ih ys as bs (i+1) t1 t2 q fin (λ_ _=>HC) (by rw[hf]; simp))
       ·rw[show (a == c)=false by simpa using e]
        rw[if_neg e] at q;refine kat_no ?_;cases hb:(b && i == 0) with
        |true=>exact oneLt_int q
        |false=>exact kat_one _ _ (Kt q)
section
variable{X:Cx}
theorem mL{pins:List (Addr×Obj)}{σ:St}{H:Hp}{s:Bi}(I:Inv X pins σ H s){p:Addr}{ys:List V}(h:fL X.K H p ys\/dJ X.K H p ys):∃its,Vals ys its/\(s.heap.IsList p its.toArray\/s.heap.IsTuple p its.toArray):=by
 rcases h with h | h
 ·obtain⟨its,rv,pl,_⟩:=I.list h
  exact⟨its,rv,.inl pl.isList⟩
 ·obtain⟨its,rv,pl,_⟩:=I.tuple h
  exact⟨its,rv,.inr pl⟩
theorem fR:aZ X (.builtin "sorted") (λxs H Q=>∃p ns,xs=[.ref p]/\(fL X.K H p (ns.map V.int)\/dJ X.K H p (ns.map V.int))/\ns.length<64/\∀(ns':List Int)l,ns'.Perm ns->ns'.Pairwise (·<=·)->H l=none->Q (.ref l) (upd H l (.lst (ns'.map V.int)))):=by
 intro pins s σ H xs us Q I r h;obtain⟨p,ns,rfl,hq,h64,q⟩:=h;obtain⟨u,rfl,rx⟩:=vals1 r;cases rx;obtain⟨its,rv,pl⟩:=mL I hq;have hI:Fs its ns:=by
  clear pl h64 q hq
  induction ns generalizing its with
  |nil=>cases rv; exact .nil
  |cons n ns ih=>
   cases rv with
   |cons r1 t1=>
    obtain⟨t,rfl⟩:=r1;exact .cons n t (ih _ t1)
 have hl:=rv.length;rw[At] at hl;refine pU pl hI (by lia) λout ns' ho hp hs=>?_
 obtain⟨e,he⟩:=sortedAll_at s.heap its out;have hv:Vals (ns'.map V.int) out.toList:=by
  clear he hp hs
  generalize out.toList=os at ho
  induction ho with
  |nil=>exact .nil
  |cons n t _ ih=>exact .cons ⟨_,rfl⟩ ih
 have hlen:(ns'.map V.int).length<=E4:=by
  rw[At,hp.length_eq,FN]; lia
 refine⟨.ref (s.heap.objs.size+1),_,I.laid (t':=s.toks) (a:=s.heap.objs.size+1) (o:=.lst (ns'.map V.int)) (λb u e=>sortedAll_old e) (HU _) ?_,rfl,q ns' _ hp hs (I.hok.fresh (HU _))⟩
 refine⟨hlen,out.toList,e,hv,?_⟩;rw[he]
 all_goals simp[FR]
theorem pW{pins:List (Addr×Obj)}{σ:St}{H:Hp}{s:Bi}{h':Heap}(I:Inv X pins σ H s)(kp:∀b o,s.heap.get? b=some o->h'.get? b=some o):∀{ys:List V}{ks:List (List Int)}{its:List Value},Dl X.K H ys ks->Vals ys its->(∀t∈ks,t≠[]) ->
  ∃fs,KatTups h' its fs/\fs.length=its.length/\∀v∈fs,∃i t,v=Jr i t:=by
 intro ys ks its h
 induction h generalizing its with
 |nil=>intro v _; cases v; exact⟨[],.nil,rfl,λ_ h=>nomatch h⟩
 |@cons y t _ _ h r ih=>
  intro v hne;obtain⟨a,e,hq⟩:=h;cases v with | cons ru rr=>
  subst e;cases ru;obtain⟨fs,h1,h2,h3⟩:=ih rr λt ht=>hne t (lO _ ht)
  obtain⟨its',rv,⟨o,ho,hc,n,hd⟩,_⟩:=I.tuple hq;cases t with
  |nil=>exact absurd rfl (hne [] lS)
  |cons i t=>
   cases rv with
   |cons r1 t1=>
    obtain⟨tk,rfl⟩:=r1;refine⟨.int i tk::fs,.cons (kp _ _ ho) hc hd rfl h1,by simp[h2],λv hv=>?_⟩
    rcases lK hv with e | hv
    ·exact⟨i,tk,e⟩
    ·exact h3 v hv
theorem lU{α β:Type}{p:Array Nat}{zs:List α}{d:α}(h:Pm zs.length p):(p.toList.map λi=>zs.getD i d).Perm zs:=by
 have h1:p.toList.Perm (Ch zs.length):=Hg.mp h;have h2:(p.toList.map λi=>zs.getD i d).Perm ((Ch zs.length).map λi=>zs.getD i d):=h1.map _
 have h3:((Ch zs.length).map λi=>zs.getD i d)=zs:=by
  apply HG;intro i;rw[E9]
  by_cases hi:i<zs.length
  ·rw[GY hi]
   simp[hi]
  ·rw[Fj (by simpa using hi),Fj (by simpa using hi)]
   rfl
 rw[h3] at h2;exact h2
theorem uc{α:Type}{d:α}{zs:List (V×α)}{its:List Value}(rv:Vals (zs.map (·.1)) its){pm:Array Nat}(hp:Pm zs.length pm):Vals ((pm.toList.map λi=>zs.getD i (V.non,d)).map (·.1)) (jj its pm):=by
 have hl:=rv.length;rw[At] at hl;have hb:∀i∈pm.toList,i<zs.length:=λi hi=>by
  have h1:pm.toList.Perm (Ch zs.length):=Hg.mp hp;simpa using h1.mem_iff.mp hi
 unfold jj;rw[EM];generalize pm.toList=ix at hb
 induction ix with
 |nil=>exact .nil
 |cons i ix ih=>
  refine .cons ?_ (ih λj hj=>hb j (lO _ hj))
  have:=Gm.getD (d:=V.non) (d':=GG) rv i (by rw[At]; exact hb i lS)
  have e:(zs.map (·.1)).getD i V.non=(zs.getD i (V.non,d)).1:=by
   have hi:=hb i lS;simp[K0,hi]
  rw[e] at this;exact this
theorem yQ{α:Type}{d:α}{lt:α->α->Bool}{zs:List (V×α)}{pm:Array Nat}(hp:Pm zs.length pm)(hs:pe (λi j=>lt ((zs.map (·.2)).getD i d) ((zs.map (·.2)).getD j d)) pm zs.length):((pm.toList.map λi=>zs.getD i (V.non,d)).map (·.2)).Pairwise (λa b=>lt b a=false):=by
 have sz:pm.toList.length=zs.length:=by rw[EN]; exact hp.size
 have hb:∀i∈pm.toList,i<zs.length:=λi hi=>by
  have h1:pm.toList.Perm (Ch zs.length):=Hg.mp hp;simpa using h1.mem_iff.mp hi
 rw[EM,EZ,Jo];intro i j hi hj hij;have z:=hs i j (by lia) (by lia)
 have gi:gD pm i=pm.toList[i]:=by unfold gD; simp[Jg,show i<pm.size by simpa using hi]
 have gj:gD pm j=pm.toList[j]:=by unfold gD; simp[Jg,show j<pm.size by simpa using hj]
 rw[gi,gj] at z;dsimp only at z;have bi:=hb _ (IF hi);have bj:=hb _ (IF hj);have e:∀{k:Nat},k<zs.length->(zs.map (·.2)).getD k d=(zs.getD k (V.non,d)).2:=λ{k}hk=>by simp[K0,hk]
 rw[e bi,e bj] at z;exact z
theorem fS:aZ X (.builtin "sorted") (λxs H Q=>∃p ys ks,xs=[.ref p]/\(fL X.K H p ys\/dJ X.K H p ys)/\Dl X.K H ys ks/\(∀t∈ks,t≠[])/\ys.length<64 /\
  ∀(zs:List (V×List Int))l,zs.Perm (ys.zip ks)->(zs.map (·.2)).Pairwise (λa b=>HT.lexLt b a=false)->H l=none->Q (.ref l) (upd H l (.lst (zs.map (·.1))))):=by
 intro pins s σ H xs us Q I r h;obtain⟨p,ys,ks,rfl,hq,ht,hne,h64,q⟩:=h;obtain⟨u,rfl,rx⟩:=vals1 r;cases rx;obtain⟨its,rv,pl⟩:=mL I hq;have hl:=rv.length;have hk:ys.length=ks.length:=GJ ht;refine qU (lexOrd ks) pl (by lia) (λh2 A' _ h' kp=>⟨tuples' true,λQ' hq' =>?_,λi j hi hj C hC=>?_⟩) λpm hpm hsr=>?_
 ·obtain⟨fs,h1,h2',h3⟩:=pW I kp ht rv hne
  refine kat_kind (s:={ s with heap:=h' }) (T:=.type "int") h1 (by lia) (λv hv=>?_) rfl hq'
  obtain⟨i,t,rfl⟩:=h3 v hv;exact Looks.now
 ·have hiy:i<ys.length:=by lia
  have hjy:j<ys.length:=by lia
  obtain⟨a,ea,qa⟩:=Gm.getD (d:=V.non) (d':=[]) ht i hiy;obtain⟨b,eb,qb⟩:=Gm.getD (d:=V.non) (d':=[]) ht j hjy;have ra:=Gm.getD (d:=V.non) (d':=GG) rv i hiy;have rb:=Gm.getD (d:=V.non) (d':=GG) rv j hjy;rw[ea] at ra;rw[eb] at rb;have ra:its.getD i GG=.ref a:=ra;have rb:its.getD j GG=.ref b:=rb;rw[ra,rb];obtain⟨ia,va,⟨oa,ha,_,na,da⟩,_⟩:=I.tuple qa;obtain⟨ib,vb,⟨ob,hb,_,nb,db⟩,_⟩:=I.tuple qb;refine kat_lt (s:={ s with heap:=h' }) (kp _ _ ha) da (kp _ _ hb) db ?_
  refine pV ia ib _ _ 0 va vb hC _ (λ_ _=>HC) ?_
  simp
 ·have hzl:(ys.zip ks).length=its.length:=by rw[LZ]; lia
  obtain⟨e,he⟩:=sortedAll_at s.heap its (jj its pm).toArray;rw[<-hzl] at hpm hsr;have hv:=uc (d:=[]) (zs:=ys.zip ks) (by rw[List.map_fst_zip (by lia)]; exact rv) hpm
  have hpw:=yQ (lt:=HT.lexLt) (d:=[]) (zs:=ys.zip ks) hpm (by rw[IE (by lia)]; exact hsr)
  have hzp:(pm.toList.map λi=>(ys.zip ks).getD i (V.non,[])).Perm (ys.zip ks):=lU (β:=Nat) hpm
  generalize (pm.toList.map λi=>(ys.zip ks).getD i (V.non,[]))=zs at hv hpw hzp
  refine⟨.ref (s.heap.objs.size+1),_,I.laid (t':=s.toks) (a:=s.heap.objs.size+1) (o:=.lst (zs.map (·.1))) (λb u e=>sortedAll_old e) (HU _) ?_,rfl,q zs _ hzp hpw (I.hok.fresh (HU _))⟩
  refine⟨?_,jj its pm,e,hv,he⟩;rw[At,hzp.length_eq,hzl,FN];lia
end
end L2
end
section
namespace L2
open PySem PySem.Spec PyProof.Rows
section
variable{prog:EK}{w:World}{A:FK}{E:Value->Bi->Prop}{s:Bi}
def SQ(t:Bool)(h:Heap)(a:Addr)(its:Array Value):Prop:=∃o,h.get? a=some o/\o.cls=.type (if t=true then "tuple" else "list")/\∃n,o.data=.seq its n
def SI(t:Bool)(h:Heap)(i a:Addr)(k:Nat):Prop:=∃o,h.get? i=some o/\o.cls=.type (if t=true then "tuple_iterator" else "list_iterator")/\o.data=.fields #[.ref a,.int k 0]
theorem SQ.at{t:Bool}{h h':Heap}{a:Addr}{its:Array Value}(x:SQ t h a its)(e:∀o,h.get? a=some o->h'.get? a=some o):SQ t h' a its:=let ⟨o,ho,r⟩:=x; ⟨o,e _ ho,r⟩
theorem SI.at{t:Bool}{h h':Heap}{i a:Addr}{k:Nat}(x:SI t h i a k)(e:∀o,h.get? i=some o->h'.get? i=some o):SI t h' i a k:=let ⟨o,ho,r⟩:=x; ⟨o,e _ ho,r⟩
theorem SQ.extBut{t:Bool}{h h':Heap}{a b:Addr}{its:Array Value}(x:SQ t h a its)(hs:Kd b h h')(hab:a≠b):SQ t h' a its:=x.at λo e=>hs a o hab e
theorem SI.extBut{t:Bool}{h h':Heap}{i a b:Addr}{k:Nat}(x:SI t h i a k)(hs:Kd b h h')(hab:i≠b):SI t h' i a k:=x.at λo e=>hs i o hab e
theorem nV{t:Bool}{j a:Addr}{k:Nat}{its:Array Value}{Q:Value->Bi->Prop}(hh:its[k]? = none->A.handled=none)(hj:SI t s.heap j a k)(ht:SQ t s.heap a its)
  (h1:∀v,its[k]? = some v->∀g,SI t g j a (k+1)->Gf j s.heap g->Q v { s with heap:=g })
  (h2:its[k]? = none->∀g x,Kd j s.heap g->(∃o,g.get? x=some o/\o.cls=.type "StopIteration")->E (.ref x) { s with heap:=g }):wpAny (model prog w) A (Fm (.ref j)) Q E s:=by
 obtain⟨oj,ej,cj,dj⟩:=id hj;obtain⟨ot,et,_,nt,dt⟩:=ht;unfold Fm;cases t
 case' true=>refine AT (GK (name:=IP "__next__") ⟨oj,ej,cj⟩ Jy (GE Jy ⟨oj,ej,cj⟩ F.entry_tuple_iterator_next ?_ (F.args_tuple_iterator_next_1 _)))
 case' false=>refine AT (GK (name:=IP "__next__") ⟨oj,ej,cj⟩ Ll (GE Ll ⟨oj,ej,cj⟩ entry_listiter_next ?_ (args_listiter_next _)))
 all_goals
  show wpAny _ _ (field (.ref j) 0 >>= _) _ _ s;refine AT (GH ej dj (x:=.ref a) rfl ?_);show wpAny _ _ (if (GQ a == GG)=true then _ else _) _ _ s
  rw[if_neg (by intro z; exact Gg z)]
  show wpAny _ _ (field (.ref j) 1 >>= _) _ _ s;refine AT (GH ej dj (x:=.int k 0) rfl ?_);show wpAny _ _ (seqItems? (.ref a) >>= _) _ _ s;refine AT (H9 et dt ?_);simp only[Fv];cases hv:its[k]? with
  |some v=>
   refine AT (wpAny_setField ej dj (by simp) (Bn ⟨v,rfl,Bn (h1 v hv _ ⟨_,KO _ ej (Obj.isFreed_of_fields (L5 dj _)),(Obj.cls_mapFields ..).trans cj,?_⟩ (JZ ..))⟩))
   rw[L5 dj];simp[Ir]
  |none=>
   refine AT (HW (AT (wpAny_setField ej dj (by simp) ?_)))
   show wpAny _ _ (newExc (.type "StopIteration") [] >>= _) _ _ _;refine AT ?_;simp only[newExc,newTuple];refine AT (Ex ?_ (by size_fits))
   refine AT (m:=firstArgMember _ _) (wpAny_of_eq (a:=GG) (by first | rfl | (simp only[firstArgMember]; rfl)) ?_)
   refine Ex ?_ (by size_fits)
   simp only[raiseNew];refine AT (wpAny_handled ?_)
   first | rw[show A.in1.handled=none from hh hv] | rw[hh hv]
   refine AT (Bn (wpAny_throw (h2 hv _ _ (((JZ ..).extBut.push _).push _) ⟨_,Dx _ rfl,rfl⟩)))
variable{t1 t2:Bool}
structure ZS(t1 t2:Bool)(g:Heap)(z p q i j a b:Addr)(k:Nat):Prop where
 zr:IsZip g z p q .none
 ins:Hn g p (.ref i) (.ref j)
 out:∃u v,Hn g q u v
 one:SI t1 g i a k
 two:SI t2 g j b k
theorem ZS.keep{g g':Heap}{z p q i j a b:Addr}{k:Nat}(x:ZS t1 t2 g z p q i j a b k)(h:∀c∈[z,p,q,i,j],∀o,g.get? c=some o->g'.get? c=some o):ZS t1 t2 g' z p q i j a b k :=
 ⟨h z (by simp) _ x.zr,h p (by simp) _ x.ins,let ⟨u,v,e⟩:=x.out; ⟨u,v,h q (by simp) _ e⟩,x.one.at λo e=>h i (by simp) o e,x.two.at λo e=>h j (by simp) o e⟩
theorem nW{z p q i j a b:Addr}{k:Nat}{xs ys:Array Value}{Q:Option Value->Bi->Prop}(hh:xs[k]? = none\/ys[k]? = none->A.handled=none)(D:KI z p q i j a b)(Z:ZS t1 t2 s.heap z p q i j a b k)(ha:SQ t1 s.heap a xs)(hb:SQ t2 s.heap b ys)
  (h:∀x y,xs[k]? = some x->ys[k]? = some y->∀g,IsZip g z p q (Ir s.heap.objs.size)->Hn g p (.ref i) (.ref j)->Hn g q x y->SI t1 g i a (k+1)->SI t2 g j b (k+1)->Hn g s.heap.objs.size x y->(∀c o,c∉[z,q,i,j]->s.heap.get? c=some o->g.get? c=some o)->Q (some (.ref s.heap.objs.size)) { s with heap:=g })
  (h2:xs[k]? = none\/ys[k]? = none->∀g,(∀c o,c∉[z,q,i,j]->s.heap.get? c=some o->g.get? c=some o)->Q none { s with heap:=g }):wpAny (model prog w) A (JB (.ref z)) Q E s:=by
 have apart:∀c,c∉[z,q,i,j]->c≠z/\c≠q/\c≠i/\c≠j:=λc hc=>⟨λt=>hc (by simp[t]),λt=>hc (by simp[t]),λt=>hc (by simp[t]),λt=>hc (by simp[t])⟩
 have hT:s.TypeIs (.ref z) "zip" := ⟨_,Z.zr,rfl⟩;obtain⟨u0,v0,eq⟩:=Z.out;unfold JB;refine AT (wpAny_attempt (GK (name:=IP "__next__") hT IV (GE IV hT Lr ?body (Lc _))))
 case body=>
  have fin:xs[k]? = none\/ys[k]? = none->∀g g' x,(∀c o,c∉[z,q,i,j]->s.heap.get? c=some o->g.get? c=some o)->Gf z g g'->x≠z->(∃o,g.get? x=some o/\o.cls=.type "StopIteration")->wpAny (model prog w) A (isInstance (.ref x) (.type "StopIteration")) (λr s'=>wpAny (model prog w) A (if r=true then pure none else throw (.ref x)) Q E s') E { s with heap:=g' }:=λhe g g' x kp sb xz hx=>by
   obtain⟨o,ho,hc⟩:=hx;exact wpAny_isInstance (T := "StopIteration") (b:=true) ⟨o,sb.extBut _ _ xz ho,hc⟩ isSubtype_stop (Bn (h2 he g' λc o hc e=>sb.extBut _ _ (apart c hc).1 (kp c o hc e)))
  have no:∀g x,IsZip g z p q .ellipsis->(∃o,g.get? x=some o/\o.cls=.type "StopIteration")->x≠z:=λg x zg hx t=>by
   obtain⟨o,e,c⟩:=hx;subst t;rw[zg] at e; cases e; simp at c
  show wpAny _ _ (field (.ref z) 2 >>= _) _ _ _;refine AT (GH Z.zr rfl (x:=.bool false) rfl ?f2);show wpAny _ _ (field (.ref z) 3 >>= _) _ _ _;refine AT (GH Z.zr rfl (x:=.ref p) rfl (AT (H9 Z.ins rfl ?f3)));show wpAny _ _ (Fb (.ref z) >>= _) _ _ _;refine AT ?f4;unfold Fb;refine AT (GH Z.zr rfl (x:=.none) rfl (Bn ?f5));simp only[if_true];refine AT (HW (AT (GH Z.zr rfl (x:=.ref q) rfl (AT (Gj Z.zr (by simp) λg1 z1 s1=>?f6)))))
  have z1:IsZip g1 z p q .ellipsis:=z1;refine AT ?f7;simp only[List.zipIdx_cons,List.zipIdx_nil,JL,Li];refine AT (AT (wpAny_onRaise ?f8));show wpAny _ _ (Fm (.ref i) >>= _) _ _ _;refine AT (nV (λe=>hh (.inl e)) (Z.one.extBut s1.extBut D.i1z) (ha.extBut s1.extBut D.l1z) (λx hx g2 i2 s2=>Bn ?f9) λhx g2 x s2 hx' =>?f10)
  case f10=>
   have z2:IsZip g2 z p q .ellipsis:=s2 _ _ D.i1z.symm z1;exact Gj z2 (by simp) λg3 _ s3=>AT (fin (.inl hx) g2 g3 x (λc o hc e=>s2 _ _ (apart c hc).2.2.1 (s1.extBut _ _ (apart c hc).1 e)) s3 (no _ _ z2 hx') hx')
  have q2:Hn g2 q u0 v0:=s2.extBut _ _ D.TOi1 (s1.extBut _ _ D.TOz eq);refine AT (H9 q2 rfl (AT (LR q2 λg3 q3 s3=>?f11)))
  have q3:Hn g3 q x v0:=q3;refine AT (wpAny_letGo (Bn ?f12));have k3:∀c o,c∉[z,q,i,j]->s.heap.get? c=some o->g3.get? c=some o:=λc o hc e=>s3.extBut _ _ (apart c hc).2.1 (s2.extBut _ _ (apart c hc).2.2.1 (s1.extBut _ _ (apart c hc).1 e))
  have z3:IsZip g3 z p q .ellipsis:=s3.extBut _ _ D.TOz.symm (s2.extBut _ _ D.i1z.symm z1);refine AT (AT (wpAny_onRaise ?f13));show wpAny _ _ (Fm (.ref j) >>= _) _ _ _;refine AT (nV (λe=>hh (.inr e)) (((Z.two.extBut s1.extBut D.i2z).extBut s2.extBut D.i12.symm).extBut s3.extBut D.TOi2.symm) (((hb.extBut s1.extBut D.l2z).extBut s2.extBut D.l2i1).extBut s3.extBut D.l2TO) (λy hy g4 j4 s4=>Bn ?f14) λhy g4 x' s4 hx' =>?f15)
  case f15=>
   have z4:IsZip g4 z p q .ellipsis:=s4 _ _ D.i2z.symm z3;exact Gj z4 (by simp) λg5 _ s5=>AT (fin (.inr hy) g4 g5 x' (λc o hc e=>s4 _ _ (apart c hc).2.2.2 (k3 c o hc e)) s5 (no _ _ z4 hx') hx')
  have q4:Hn g4 q x v0:=s4.extBut _ _ D.TOi2 q3;refine AT (H9 q4 rfl (AT (LR q4 λg5 q5 s5=>?f16)))
  have q5:Hn g5 q x y:=q5;refine AT (wpAny_letGo (Bn (Bn ?f17)));refine AT (H9 q5 rfl (AT (KB ?f18)));have sz:g5.objs.size=s.heap.objs.size:=by rw[s5.1,s4.1,s3.1,s2.1,s1.1]
  have z5:IsZip g5 z p q .ellipsis:=s5.extBut _ _ D.TOz.symm (s4.extBut _ _ D.i2z.symm z3);have k5:∀c o,c∉[z,q,i,j]->s.heap.get? c=some o->g5.get? c=some o:=λc o hc e=>s5.extBut _ _ (apart c hc).2.1 (s4.extBut _ _ (apart c hc).2.2.2 (k3 c o hc e))
  have i5:SI t1 g5 i a (k+1):=((i2.extBut s3.extBut D.TOi1.symm).extBut s4.extBut D.i12).extBut s5.extBut D.TOi1.symm;have j5:SI t2 g5 j b (k+1):=j4.extBut s5.extBut D.TOi2.symm;have zlt:z<g5.objs.size:=Da z5;show wpAny _ _ (Hi (.ref z) (.ref g5.objs.size) >>= _) _ _ _;refine AT ?f20;unfold Hi;have z6:IsZip (g5.push { cls:=.type "tuple",data:=.seq #[x,y] }) z p q .ellipsis:=BM _ z5;refine AT (Gj z6 (by simp) λg7 z7 s7=>?f21)
  have z7:IsZip g7 z p q (Ir g5.objs.size):=z7;refine Gj z7 (by simp) λg8 z8 s8=>?f22
  have z8:IsZip g8 z p q (Ir g5.objs.size):=z8;have up:∀c o,c≠z->g5.get? c=some o->g8.get? c=some o:=λc o c1 e=>s8.extBut _ _ c1 (s7.extBut _ _ c1 (BM _ e))
  have t8:Hn g8 g5.objs.size x y:=s8.extBut _ _ (Gw zlt) (s7.extBut _ _ (Gw zlt) (Dx _ rfl));rw[sz] at z8 t8;have pne:p∉[z,q,i,j]:=by
   intro t;simp only[FL,EE,or_false] at t;rcases t with t | t | t | t
   ·exact D.TIz t
   ·exact D.TITO t
   ·exact D.TIi1 t
   ·exact D.TIi2 t
  have fin':=h x y hx hy g8 z8 (up _ _ D.TIz (k5 p _ pne Z.ins)) (up _ _ D.TOz q5) (i5.at λo e=>up _ o D.i1z e) (j5.at λo e=>up _ o D.i2z e) t8 λc o hc e=>up c o (λt=>hc (by simp[t])) (k5 c o hc e)
  refine Bn ⟨_,rfl,Bn ?_⟩;show Q (some (.ref g5.objs.size)) _;rw[sz];exact fin'
end
section
variable{prog:EK}{w:World}{A:FK}{E:Value->Bi->Prop}{s:Bi}
variable{t1 t2:Bool}
noncomputable def pX(t:Bool)(a:Addr):Obj:={ cls:=.type (if t=true then "tuple_iterator" else "list_iterator"),data:=.fields #[.ref a,.int 0 0] }
theorem sC{t:Bool}{a:Addr}{its:Array Value}{Q:Value->Bi->Prop}(hl:SQ t s.heap a its)(h:Q (.ref s.heap.objs.size) { s with heap:=s.heap.push (pX t a) }):wpAny (model prog w) A (KF (.ref a)) Q E s:=by
 cases t with
 |true=>exact JA hl h
 |false=>exact JN hl h
noncomputable def sD(t1 t2:Bool)(h:Heap)(a b:Addr):Heap :=
 ((((h.push (pX t1 a)).push (pX t2 b)).push { cls:=.type "tuple",data:=.seq #[.ref h.objs.size,.ref (h.push (pX t1 a)).objs.size] }).push { cls:=.type "tuple",data:=.seq #[.none,.none] }).push
  { cls:=.type "zip",data:=.fields #[.none,.bool false,.bool false,.ref ((h.push (pX t1 a)).push (pX t2 b)).objs.size,
   .ref (((h.push (pX t1 a)).push (pX t2 b)).push { cls:=.type "tuple",data:=.seq #[.ref h.objs.size,.ref (h.push (pX t1 a)).objs.size] }).objs.size] }
theorem vM(a b:Addr)(xs ys:Array Value) :
  Meets (Gs.«zip.__new__» ⟨[.type "zip",.ref a,.ref b],[]⟩) (λ_ R s=>SQ t1 s.heap a xs/\SQ t2 s.heap b ys /\
   R (.ok (.ret (.ref (((((s.heap.push (pX t1 a)).push (pX t2 b)).push { cls:=.type "tuple",data:=.seq #[.ref s.heap.objs.size,.ref (s.heap.push (pX t1 a)).objs.size] }).push { cls:=.type "tuple",data:=.seq #[.none,.none] }).objs.size))))
    { s with heap:=sD t1 t2 s.heap a b }) :=
 .of_wp λprog w A R s h=>by
  obtain⟨hp,g,d,tk,os⟩:=s;obtain⟨h1,h2,h⟩:=h;have hsub:=sub_zip;have k1:SQ t1 (Lo ⟨hp,g,d,tk,os⟩) a xs:=h1;have k2:SQ t2 (Lo ⟨hp.push (pX t1 a),g,d,tk,os⟩) b ys:=by
   obtain⟨o,e,r⟩:=h2;exact⟨o,BM _ e,r⟩
  wp_walk using sC k1,sC k2
  exact⟨_,rfl,h⟩
theorem mO{a b:Addr}{xs ys:Array Value}{Q:Value->Bi->Prop}(ha:SQ t1 s.heap a xs)(hb:SQ t2 s.heap b ys)
  (h:∀g,ZS t1 t2 g (s.heap.objs.size+4) (s.heap.objs.size+2) (s.heap.objs.size+3) s.heap.objs.size (s.heap.objs.size+1) a b 0->(∀c o,s.heap.get? c=some o->g.get? c=some o)->Q (.ref (s.heap.objs.size+4)) { s with heap:=g }) :
  wpAny (model prog w) A (call (.type "zip") [.ref a,.ref b]) Q E s:=by
 refine callType_new F.called_zip (by decide) (F.typeCall_zip_2 _ _) (F.newCall_zip_2 _ _) (λobj=>F.args_object_init_3 obj _ _) F.entry_zip_new (vM a b xs ys) ⟨ha,hb,?_⟩
 unfold sD;generalize e1:s.heap.push (pX t1 a)=g1;have z1:g1.objs.size=s.heap.objs.size+1:=by rw[<-e1]; exact FP ..
 have i1:g1.get? s.heap.objs.size=some (pX t1 a):=by rw[<-e1]; exact Dx _ rfl
 have k1:∀c o,s.heap.get? c=some o->g1.get? c=some o:=λc o e=>by rw[<-e1]; exact BM _ e
 generalize e2:g1.push (pX t2 b)=g2;have z2:g2.objs.size=s.heap.objs.size+2:=by rw[<-e2,FP,z1]
 have i2:g2.get? (s.heap.objs.size+1)=some (pX t2 b):=by rw[<-e2,<-z1]; exact Dx _ rfl
 have k2:∀c o,g1.get? c=some o->g2.get? c=some o:=λc o e=>by rw[<-e2]; exact BM _ e
 generalize e3:g2.push { cls:=.type "tuple",data:=.seq #[.ref s.heap.objs.size,.ref g1.objs.size] }=g3;have z3:g3.objs.size=s.heap.objs.size+3:=by rw[<-e3,FP,z2]
 have i3:g3.get? (s.heap.objs.size+2)=some { cls:=.type "tuple",data:=.seq #[.ref s.heap.objs.size,.ref g1.objs.size] }:=by rw[<-e3,<-z2]; exact Dx _ rfl
 have k3:∀c o,g2.get? c=some o->g3.get? c=some o:=λc o e=>by rw[<-e3]; exact BM _ e
 generalize e4:g3.push { cls:=.type "tuple",data:=.seq #[.none,.none] }=g4;have z4:g4.objs.size=s.heap.objs.size+4:=by rw[<-e4,FP,z3]
 have i4:g4.get? (s.heap.objs.size+3)=some { cls:=.type "tuple",data:=.seq #[.none,.none] }:=by rw[<-e4,<-z3]; exact Dx _ rfl
 have k4:∀c o,g3.get? c=some o->g4.get? c=some o:=λc o e=>by rw[<-e4]; exact BM _ e
 generalize e5:g4.push { cls:=.type "zip",data:=.fields #[.none,.bool false,.bool false,.ref g2.objs.size,.ref g3.objs.size] }=g5;have i5:g5.get? (s.heap.objs.size+4)=some { cls:=.type "zip",data:=.fields #[.none,.bool false,.bool false,.ref g2.objs.size,.ref g3.objs.size] }:=by rw[<-e5,<-z4]; exact Dx _ rfl
 have k5:∀c o,g4.get? c=some o->g5.get? c=some o:=λc o e=>by rw[<-e5]; exact BM _ e
 rw[z4];rw[z2,z3] at i5;rw[z1] at i3;exact⟨⟨_,i5,rfl⟩,h _ ⟨i5,k5 _ _ (k4 _ _ i3),⟨_,_,k5 _ _ i4⟩,⟨_,k5 _ _ (k4 _ _ (k3 _ _ (k2 _ _ i1))),rfl,rfl⟩,⟨_,k5 _ _ (k4 _ _ (k3 _ _ i2)),rfl,rfl⟩⟩ λc o e=>k5 _ _ (k4 _ _ (k3 _ _ (k2 _ _ (k1 _ _ e))))⟩
end
def SG(t:Bool)(K:AC)(H:Hp)(a:Addr)(xs:List V):Prop:=match t with
 |true=>dJ K H a xs
 |false=>fL K H a xs
section
variable{t:Bool}{X:Cx}{pins:List (Addr×Obj)}{σ:St}{H:Hp}{s:Bi}{a:Addr}{xs ys:List V}
theorem Inv.sg(I:Inv X pins σ H s)(h:SG t X.K H a xs):∃its:List Value,Vals xs its/\SQ t s.heap a its.toArray:=by
 cases t with
 |true=>obtain⟨its,r,p,_⟩:=I.tuple h; exact⟨its,r,p⟩
 |false=>obtain⟨its,r,p,_⟩:=I.list h; exact⟨its,r,p.isList⟩
theorem Inv.vN(I:Inv X pins σ H s)(h:SG t X.K H a xs)(h':SG t X.K H a ys):xs=ys:=by
 cases t with
 |true=>exact I.mj h h'
 |false=>exact I.pC h h'
end
noncomputable def DM(t1 t2:Bool)(K:AC)(a b:Addr):It :=
  ⟨λi H=>∃xs ys x y,SG t1 K H a xs/\SG t2 K H b ys/\xs[i]? = some x/\ys[i]? = some y,
   λi H v H'=>∃p x y,H p=none/\v=.ref p/\H'=upd H p (.tup [x,y])/\(∀xs,SG t1 K H a xs->xs[i]? = some x)/\∀ys,SG t2 K H b ys->ys[i]? = some y,
   λi H=>∃xs ys,SG t1 K H a xs/\SG t2 K H b ys/\(xs.length<=i\/ys.length<=i)⟩
theorem vQ{t1 t2:Bool}{P:EK}{w:World}{K:AC}{es:List Expr}{k:Nat}{pos:Pos}{z p q i j a b:Addr}(D:KI z p q i j a b):Turn P w K (.Tuple es k pos) (DM t1 t2 K a b) [z,p,q,i,j] z (λn h=>ZS t1 t2 h z p q i j a b n) where
 mem:=by simp
 obj:=λn h st c hc=>by
  simp only[FL,EE,or_false] at hc;rcases hc with rfl | rfl | rfl | rfl | rfl
  ·exact⟨_,st.zr,λv e=>nomatch e⟩
  ·exact⟨_,st.ins,λv e=>nomatch e⟩
  ·obtain⟨u,v,e⟩:=st.out; exact⟨_,e,λv e=>nomatch e⟩
  ·obtain⟨o,e,_,d⟩:=st.one; exact⟨o,e,λv t=>by rw[d] at t; cases t⟩
  ·obtain⟨o,e,_,d⟩:=st.two; exact⟨o,e,λv t=>by rw[d] at t; cases t⟩
 keep:=λn h h' st kp=>st.keep kp
 item:=by
  intro X hP hw hK hc n pins s σ H E I hf st hg;subst hP hw hK;obtain⟨xs,ys,x,y,qa,qb,hx,hy⟩:=hg;obtain⟨ia,ra,ta⟩:=I.sg qa;obtain⟨ib,rb,tb⟩:=I.sg qb;obtain⟨u,hu,ru⟩:=ra.get hx;obtain⟨v,hv,rv⟩:=rb.get hy;have nh:¬ (ia.toArray[n]? = none\/ib.toArray[n]? = none):=by simp[hu,hv]
  refine nW (λh=>(nh h).elim) D st ta tb (λu' v' hu' hv' g gz gp gq gi gj gt kp=>?_) λh=>(nh h).elim
  obtain rfl:u=u':=by simpa[hu] using hu'
  obtain rfl:v=v':=by simpa[hv] using hv'
  refine⟨_,rfl,wpAny_letOwnedTupleGo_zip (s:={ s with heap:=g }) gz λg' gz' sb=>?_⟩
  have ne:∀c o,s.heap.get? c=some o->c≠s.heap.objs.size:=λc o e=>ED (Da e)
  have zne:s.heap.objs.size≠z:=(ne z _ st.zr).symm;have t':Hn g' s.heap.objs.size u v:=(sb.2 _ zne).trans gt;have f:=I.hok.fresh (Db s.heap.objs.size);have free:∀c∈[z,p,q,i,j],H c=none:=λc hc=>(hf c hc).1
  have kp':∀c o,c∉[z,q,i,j]->s.heap.get? c=some o->g'.get? c=some o:=λc o hc e=>(sb.2 c (λt=>hc (by simp[t]))).trans (kp c o hc e)
  have sub:∀c,c∈[z,q,i,j]->c∈[z,p,q,i,j]:=λc hc=>by
   simp only[FL,EE,or_false] at hc ⊢;rcases hc with h | h | h | h <;> simp[h]
  have tracked:∀c o,H c=some o->c∉[z,q,i,j]:=λc o e hc=>by rw[free c (sub c hc)] at e; cases e
  have hok:iT X.prog X.w (upd H s.heap.objs.size (.tup [x,y])) g':=λc o e=>by
   by_cases hc:c=s.heap.objs.size
   ·subst hc
    rw[aF] at e;cases e;exact⟨by rw[FN]; show 2<=_; lia,[u,v],.cons ru (.cons rv .nil),_,t',rfl,0,rfl,rfl⟩
   ·rw[aL hc] at e
    refine(I.hok c o e).stay (λd o' hd e'=>kp' d o' ?_ e') (λd e'=>by rw[aL (bK e' f)]; exact e') λd xs e'=>by rw[aL (bK e' f)]; exact e'
    rcases hd with rfl | hd
    ·exact tracked _ _ e
    ·exact tracked _ _ hd
  have I':Inv X pins σ (upd H s.heap.objs.size (.tup [x,y])) { s with heap:=g' }:=by
   refine I.step (g':=s.gens) (t':=s.toks) (d':=s.drawn) (ch:=[z,q,i,j]) (λc hc=>?_) (λc o _ _ hc e _=>kp' c o hc e) (λc o _ _ hc e _=>⟨o.slots,kp' c o hc e⟩) (λc o hc e n=>by rw[aL (ne c o e)]; exact n)
    (λc o hc e=>⟨o,kp' c o hc e⟩) (λc xs e=>by rw[aL (bK e f)]; exact e) (λc o u e=>by rw[aL (bK e f)]; exact e) (λc ps e=>⟨#[],by rw[aL (bK e f),e]; simp⟩) (λm hm=>?_) hok I.bare
   ·obtain⟨_,f1,_,f3,f4,f5⟩:=hf c (sub c hc)
    exact⟨f3,f1,f4,f5⟩
   ·obtain⟨o,es',ep,ho,r⟩:=hm
    exact⟨o,es',ep,kp' _ o (λhc=>(hf _ (sub _ hc)).2.1 rfl) ho,r⟩
  refine⟨.ref s.heap.objs.size,_,I',rfl,⟨_,x,y,f,rfl,rfl,λzs hz=>by rw[I.vN hz qa]; exact hx,λzs hz=>by rw[I.vN hz qb]; exact hy⟩,?_,λc hc=>?_⟩
  ·exact⟨gz',(sb.2 _ D.TIz).trans gp,⟨_,_,(sb.2 _ D.TOz).trans gq⟩,gi.at λo e=>(sb.2 _ D.i1z).trans e,gj.at λo e=>(sb.2 _ D.i2z).trans e⟩
  ·rw[aL]
   ·exact free c hc
   ·simp only[FL,EE,or_false] at hc
    rcases hc with rfl | rfl | rfl | rfl | rfl
    ·exact ne _ _ st.zr
    ·exact ne _ _ st.ins
    ·obtain⟨_,_,e⟩:=st.out; exact ne _ _ e
    ·obtain⟨_,e,_⟩:=st.one; exact ne _ _ e
    ·obtain⟨_,e,_⟩:=st.two; exact ne _ _ e
 done:=by
  intro X hP hw hK hc n pins s σ H E I hf st hg;subst hP hw hK;obtain⟨xs,ys,qa,qb,hl⟩:=hg;obtain⟨ia,ra,ta⟩:=I.sg qa;obtain⟨ib,rb,tb⟩:=I.sg qb;have la:=ra.length;have lb:=rb.length;have sub:∀c,c∈[z,q,i,j]->c∈[z,p,q,i,j]:=λc hc=>by
   simp only[FL,EE,or_false] at hc ⊢;rcases hc with h | h | h | h <;> simp[h]
  refine nW (λ_=>I.ok.hd hc) D st ta tb (λu v h1 h2=>?_) λ_ g kp=>⟨rfl,?_⟩
  ·have h1:=(Gp.mp h1).1
   have h2:=(Gp.mp h2).1;simp at h1 h2;lia
  ·have tracked:∀c o,H c=some o->c∉[z,q,i,j]:=λc o e hc=>by rw[(hf c (sub c hc)).1] at e; cases e
   refine I.step (g':=s.gens) (t':=s.toks) (d':=s.drawn) (ch:=[z,q,i,j]) (λc hc=>?_) (λc o _ _ hc e _=>kp c o hc e) (λc o _ _ hc e _=>⟨o.slots,kp c o hc e⟩) (λc o hc e n=>n)
    (λc o hc e=>⟨o,kp c o hc e⟩) (λc xs e=>e) (λc o u e=>e) (λc ps e=>⟨#[],by rw[e]; simp⟩) (λm hm=>?_) (λc o e=>?_) I.bare
   ·obtain⟨_,f1,_,f3,f4,f5⟩:=hf c (sub c hc)
    exact⟨f3,f1,f4,f5⟩
   ·obtain⟨o,es',ep,ho,r⟩:=hm
    exact⟨o,es',ep,kp _ o (λhc=>(hf _ (sub _ hc)).2.1 rfl) ho,r⟩
   ·refine(I.hok c o e).stay (λd o' hd e'=>kp d o' ?_ e') (λd e'=>e') λd xs e'=>e'
    rcases hd with rfl | hd
    ·exact tracked _ _ e
    ·exact tracked _ _ hd
 self:=λ_ _ _ _ _ st h=>Jk st.zr h
section
variable{X:Cx}
noncomputable def iZip(K:AC)(ta:TA):TI:=λσ H R=>ta σ H λvs H1=>∃t1 t2 a b,vs=[.ref a,.ref b]/\(∃xs,SG t1 K H1 a xs)/\(∃ys,SG t2 K H1 b ys)/\R (DM t1 t2 K a b) H1
theorem BP{a b:Expr}{ta:TA}{p pos tp:Pos}{es:List Expr}{k:Nat}(hg:Gl X "zip")(hm:X.mg "zip" = none)(ha:PA X [a,b] ta)(hs:E6 [a,b] X.env=[(false,eval a X.env),(false,eval b X.env)]:=by rfl)(hs2:E6 [b] X.env=[(false,eval b X.env)]:=by rfl) :
  PI X (.Tuple es k tp) (.Call (.Name "zip" p) [a,b] [] pos) (iZip X.K ta):=by
 intro pins s σ H R I h;refine Fg (eO I hg hm JE ?_);refine ET (b7 (ha pos pins s σ H _ I h) λus s1 ⟨vs,H1,I1,r1,q1⟩=>?_) (by rw[hs,hs2]) (by rw[hs2]; rfl)
 obtain⟨t1,t2,a',b',e,⟨xs,qa⟩,⟨ys,qb⟩,q⟩:=q1;subst e;obtain⟨u,v,rfl,ru,rv⟩:=vals2 r1;cases ru;cases rv;obtain⟨ia,ra,ta'⟩:=I1.sg qa;obtain⟨ib,rb,tb⟩:=I1.sg qb;refine mO (t1:=t1) (t2:=t2) ta' tb λg Z kp=>?_
 refine Jk (s:={ s1 with heap:=g }) Z.zr ?_
 have la:a'<s1.heap.objs.size:=by obtain⟨_,e,_⟩:=ta'; exact Da e
 have lb:b'<s1.heap.objs.size:=by obtain⟨_,e,_⟩:=tb; exact Da e
 have fr:∀c,s1.heap.objs.size<=c->jY X pins H1 c:=λc hc=>I1.tO hc (I1.hok.fresh hc)
 refine⟨_,_,_,_,H1,rfl,I1.kept (t':=s1.toks) kp,vQ (Iu la lb),Z,λc hc=>?_,q⟩
 simp only[FL,EE,or_false] at hc;rcases hc with h | h | h | h | h
 ·exact h▸fr _ (HN _ _)
 ·exact h▸fr _ (HN _ _)
 ·exact h▸fr _ (HN _ _)
 ·exact h▸fr _ (Db _)
 ·exact h▸fr _ (HN _ _)
end
mutual
inductive Rp(K:AC)(H:Hp):V->Ap->Prop
 |non:Rp K H .non .none
 |bl (b:Bool):Rp K H (.bl b) (.bool b)
 |int (i:Int):Rp K H (.int i) (.int i)
 |str (x:Str):Rp K H (.str x) (.str x)
 |tup {a:Addr} {xs:List V} {ds:List Ap}:dJ K H a xs->BQ K H xs ds->Rp K H (.ref a) (.tuple ds)
inductive BQ(K:AC)(H:Hp):List V->List Ap->Prop
 |nil:BQ K H [] []
 |cons {v:V} {vs:List V} {d:Ap} {ds:List Ap}:Rp K H v d->BQ K H vs ds->BQ K H (v::vs) (d::ds)
end
def d7(H H':Hp):Prop:=∀a u,Rd H a (.tup u)->Rd H' a (.tup u)
theorem d7.refl{H:Hp}:d7 H H:=λ_ _ h=>h
theorem d7.trans{H H1 H2:Hp}(a:d7 H H1)(b:d7 H1 H2):d7 H H2:=λc u h=>b c u (a c u h)
theorem d7.sq{K:AC}{H H':Hp}(t:d7 H H'){a:Addr}{xs:List V}(h:dJ K H a xs):dJ K H' a xs:=by
 rcases h with h | h
 ·exact .inl (t a xs h)
 ·exact .inr h
theorem d7.put{H:Hp}{a:Addr}{o o':HO}(h:H a=some o)(hn:∀u,o≠.tup u)(hf:∀x u,o≠.iH x u):d7 H (upd H a o'):=λc u r=>by
 rcases r with e | ⟨x,e⟩
 ·exact .inl (by rw[aL (uO e h λz=>hn u z.symm)]; exact e)
 ·exact .inr ⟨x,by rw[aL (uO e h λz=>hf x _ z.symm)]; exact e⟩
theorem d7.lst{H:Hp}{a:Addr}{xs:List V}{o':HO}(h:H a=some (.lst xs)):d7 H (upd H a o'):=.put h (λ_ z=>nomatch z) λ_ _ z=>nomatch z
theorem d7.dk{H:Hp}{a:Addr}{xs:List (Key×V)}{o':HO}(h:H a=some (.dK xs)):d7 H (upd H a o'):=.put h (λ_ z=>nomatch z) λ_ _ z=>nomatch z
theorem eU.tups{H H':Hp}(s:eU H H'):d7 H H':=λa u r=>by
 rcases r with e | ⟨o,e⟩
 ·exact .inl (s _ _ e)
 ·exact .inr ⟨o,s _ _ e⟩
section
variable{X:Cx}
theorem mP{h:Heap}:∀{vs:List Value}{ds:List Ap}{as:List Addr},KM h vs ds as->∀v∈vs,∃d bs,d∈ds/\Reads h v d bs
 |_,_,_,.nil,v,hv=>nomatch hv
 |_,_,_,.cons r q,v,hv=>by
  rcases lK hv with e | hv
  ·subst e; exact⟨_,_,lS,r⟩
  ·obtain⟨d,bs,h1,h2⟩:=mP q v hv
   exact⟨d,bs,lO _ h1,h2⟩
theorem vR{ds:List Ap}(h:EI ds=true):∀d∈ds,d.canLay0=true:=by
 induction ds with
 |nil=>intro d hd; exact nomatch hd
 |cons x xs ih=>
  unfold EI at h;rw[EV] at h;intro d hd;rcases lK hd with e | hd
  ·subst e; exact h.1
  ·exact ih h.2 d hd
noncomputable def vV(h:Heap)(e:Ap)(u:Value):Bool:=@decide (∃d as,Reads h u d as/\ES d e=true) (Hs _)
theorem kL{h:Heap}{e d:Ap}{u:Value}{as:List Addr}(r:Reads h u d as)(c:d.canLay0=true):vV h e u=ES d e:=by
 unfold vV;cases q:ES d e with
 |true=>exact@decide_eq_true _ (Hs _) ⟨d,as,r,q⟩
 |false=>
  refine@decide_eq_false _ (Hs _) ?_;rintro⟨d',as',r',q'⟩;rw[<-SeqAt.Reads.unique d d' u as as' c r r'] at q';rw[q] at q';cases q'
theorem nX{h:Heap}{e:Ap}:∀{vs:List Value}{ds:List Ap}{as:List Addr},KM h vs ds as->EI ds=true->vs.any (vV h e)=ds.any λd=>ES d e
 |_,_,_,.nil,_=>rfl
 |_,_,_,.cons r q,c=>by
  unfold EI at c;rw[EV] at c;rw[Fl,Fl,kL r c.1,nX q c.2]
theorem vW{pins:List (Addr×Obj)}{σ:St}{H:Hp}{s:Bi}{its:List Value}{ds:List Ap}{as bs:List Addr}{e:Ap}{v:Value}(hu:X.A.units+64<cLine)(r:KM s.heap its ds as)(re:Reads s.heap v e bs)(c:EI ds=true)(ce:e.canLay0=true)(dp:e.depth<=50) :
  ∀y,y∈its.toArray->Kl X.A.in1 s y v (vV s.heap e y):=λy hy=>by
 obtain⟨d,cs,hd,rd⟩:=mP r y (by simpa using hy)
 rw[kL rd (vR c d hd)];refine L3 d e X.A.in1 s y v cs bs rd re (vR c d hd) ce ?_;show X.A.units+1+_<_;lia
theorem yR:dY X (Fq .Pow) (rI (λi j=>0<=j/\(FC i:Int)*j<=2 ^ 27) λi j=>.int (i ^ j.toNat)):=Dk λ_ _ _ _ _ _ _ hc q=>pow_int hc.1 hc.2 q
noncomputable def Dm(bs:List Bool):List V:=bs.map V.bl
theorem yS{bs:List Bool}{its:List Value}(r:Vals (Dm bs) its)(i:Nat)(u:Value)(e:its[i]? = some u):∃b,bs[i]? = some b/\u=.bool b:=by
 have hl:=r.length;unfold Dm at hl r;rw[At] at hl;have hi:i<its.length:=(EA.mp e).1;have hb:bs[i]? = some bs[i]:=by simp
 obtain⟨u',e',ru⟩:=r.get (i:=i) (x:=.bl bs[i]) (by rw[E9,hb]; rfl)
 rw[e] at e';cases e';exact⟨bs[i],hb,ru⟩
theorem range_all(bs:List Bool):(Ch bs.length).all (λi=>(bs[i]?).getD false)=bs.all id:=by
 have e:(Ch bs.length).map (λi=>(bs[i]?).getD false)=bs:=by
  apply HG;intro i;rw[E9]
  by_cases hi:i<bs.length
  ·simp[GY hi,hi]
  ·simp[Fj,hi,JG hi]
 conv=>rhs; rw[<-e]
 rw[J0];rfl
theorem kM(hc:X.calm=true):aZ X (.builtin "all") (λxs H Q=>∃p bs,xs=[.ref p]/\fL X.K H p (Dm bs)/\Q (.bl (bs.all id)) H):=by
 intro pins s σ H xs us Q I r h;obtain⟨p,bs,rfl,hq,q⟩:=h;obtain⟨u,rfl,rx⟩:=vals1 r;cases rx;obtain⟨its,rv,pl,hz⟩:=I.list hq;have hlt:p<s.heap.objs.size:=by obtain⟨o,n,e,_⟩:=pl; exact Da e
 have hl:its.length=bs.length:=by have:=rv.length; unfold Dm at this; rw[At] at this; lia
 refine call_all_walk (JN pl.isList ?_);refine⟨_,_,_,_,_,_,λi=>(bs[i]?).getD false,rfl,Walks.list (A:=X.A.in1) (I.ok.hd hc) s.heap.objs.size p (ED hlt) its.toArray,⟨⟨_,Dx _ rfl,rfl,rfl⟩,pl.isList.push _⟩,λi v s' Q' E' hv hq' =>?_,λh' tk kp=>?_⟩
 ·obtain⟨b,hb,rfl⟩:=yS rv i v (by simpa using hv)
  have hq':Q' ((bs[i]?).getD false) s':=hq';rw[hb] at hq';exact IH hq'
 ·refine⟨.bl _,H,I.kept (t':=tk) λb o e=>kp b o (λhb=>?_) (BM _ e),rfl,?_⟩
  ·have:b=s.heap.objs.size:=by simpa using hb
   exact absurd (Da e) (by rw[this]; exact GM _)
  ·rw[Bz,hl,range_all]
   exact q
end
section
variable{prog:EK}{w:World}{A:FK}{E:Value->Bi->Prop}{s:Bi}
theorem kN(t b:Addr)(items items2:Array Value)(n n2:Nat)(dd dd2:Option Addr)(sl sl2:Array (Option Value))(h0:items.isEmpty=true) :
  Meets (Gs.«tuple.__add__» ⟨[.ref t,.ref b],[]⟩) (λ_ R s=>s.heap.get? t=some ⟨.type "tuple",dd,.seq items n,sl⟩/\s.heap.get? b=some ⟨.type "tuple",dd2,.seq items2 n2,sl2⟩/\R (.ok (.ret (.ref b))) s) :=
 .of_wp λprog w A R s h=>by
  obtain⟨hp,g,d,tk,os⟩:=s;obtain⟨h1,h2,h⟩:=h;have hsub:=sub_tuple_self
  wp_walk using FV h1,FV h2
  exact⟨_,rfl,h⟩
end
section
variable{X:Cx}
theorem dB{H:Hp}{p:Addr}(h:H p=none)(o:HO):eU H (upd H p o):=λb u q=>by rw[aL (bK q h)]; exact q
noncomputable def rCatA(K:AC):R2:=λx y H Q=>∃a b xs ys,x=.ref a/\y=.ref b/\dJ K H a xs/\dJ K H b ys/\xs.length+ys.length<=E4/\∀r H',eU H H'->dJ K H' r (xs++ys)->Q (.ref r) H'
theorem yT:dY X (Fq .Add) (rCatA X.K):=by
 intro pins s σ H x y v u Q I rx ry h;obtain⟨a,b,xs,ys,rfl,rfl,ha,hb,hz,q⟩:=h
 by_cases hx:xs=[]
 ·subst hx
  cases rx;cases ry;obtain⟨its,r1,⟨⟨cls,dd,data,sl⟩,ho,hc,n,hd⟩,_⟩:=I.tuple ha;obtain⟨its2,r2,⟨⟨cls2,dd2,data2,sl2⟩,ho2,hc2,n2,hd2⟩,_⟩:=I.tuple hb;simp only at hc hd hc2 hd2;subst hc hd hc2 hd2;cases r1;exact Jw ⟨_,ho,rfl⟩ ⟨_,ho2,rfl⟩ J3 Jm IA Hw (Ho _ _)
   (kN a b _ _ n n2 dd dd2 sl sl2 (by simp)) ⟨ho,ho2,⟨.ref b,H,I,rfl,q b H (eU.refl H) (by simpa using hb)⟩⟩
 ·refine yF pins s σ H _ _ v u Q I rx ry ⟨a,b,xs,ys,rfl,rfl,ha,hb,hx,hz,λe=>q a H (eU.refl H) (by rw[e,E1]; exact ha),λ_ p hp=>q p _ (dB hp _) (dJ.of aF)⟩
noncomputable def vX(sc0:Scope)(N0:List Str)(scope:Scope)(N:List Str)(fr:List (Option Nat)):Bool :=
 (scope.kind == .function) && scope.names.all (λy=>scope.names.lookup y.1 == some y.2) &&
 scope.names.all (λy=>y.2 != .free || (sc0.names.lookup y.1 == some .cell || sc0.names.lookup y.1 == some .free)) && (fr.length == N.length) &&
 (N.zip fr).all (λp=>match p.2 with | none=>true | some j=>N0[j]? == some p.1 && scope.names.lookup p.1 == some .free) && decide N.Nodup
theorem aV.of{sc0:Scope}{N0:List Str}{scope:Scope}{N:List Str}{fr:List (Option Nat)}(h1:X.env.scope=sc0)(h2:X.N=N0)(h:vX sc0 N0 scope N fr=true):aV X scope N fr:=by
 unfold vX at h;simp only[EV] at h;obtain⟨⟨⟨⟨⟨k1,k3⟩,k4⟩,k5⟩,k6⟩,k7⟩:=h;rw[HK] at k3 k4 k6;refine⟨by simpa using k1,λy hy=>by simpa using k3 y hy,λy hy e=>?_,by simpa using k5,λi j x hi hj=>?_,of_decide_eq_true k7⟩
 ·have:=k4 y hy
  rw[e] at this;have t:sc0.names.lookup y.1=some .cell\/sc0.names.lookup y.1=some .free:=by simpa using this
  show X.env.scope.names.lookup y.1=_\/X.env.scope.names.lookup y.1=_;rw[h1];exact t
 ·have hm:(x,some j)∈N.zip fr:=by
   have hz:(N.zip fr)[i]? = some (x,some j):=by rw[List.getElem?_zip_eq_some]; exact⟨hi,hj⟩
   exact HR hz
  have:=k6 _ hm;simp only[EV] at this;rw[h2];exact⟨by simpa using this.1,by simpa using this.2⟩
structure bC(P:EK)(w:World)(K:AC)(mg:Str->Option Value)(base:Heap)(x:Str)(ps:List Str)(k:Nat)(sp:Sp):Prop where
 ex:∃f fd,cB P w K mg base iI k f fd ps sp/\Binds K fd ps []/\Hm K (.ref f)=true/\mg x=some (.ref f)
theorem pe_fn{x:Str}{ps:List Str}{k k':Nat}{sp:Sp}{e:Expr}{es:List Expr}{t:TA}{p pos:Pos}(C:bC X.prog X.w X.K X.mg X.base x ps k sp)(hr:ff k' X.A)(hg:Gl X x)(ha:PA X (e::es) t)(hk:k<=k':=by first | decide | exact Db _ | lia)(hdb:(x == ("__debug__" : Str))=false:=by decide)
  (he:E6 (e::es) X.env=(false,eval e X.env)::E6 es X.env:=by rfl) (hpl:(HX pos (E6 es X.env)).any (·.1)=false:=by rfl):PE X (.Call (.Name x p) (e::es) [] pos) (vd sp [] E0 t):=by
 obtain⟨f,fd,F,b,kp,m⟩:=C.ex;exact yv F (hr.mono hk) hg m kp b .nil pass0 ha hdb he hpl
end
section
variable{K:AC}{H:Hp}
theorem BQ.ints:∀(ns:List Int),BQ K H (ns.map V.int) (ns.map .int)
 |[]=>.nil
 |n::ns=>.cons (.int n) (BQ.ints ns)
theorem pY:∀(ns:List Int),EI (ns.map .int)=true
 |[]=>rfl
 |n::ns=>by show (GV (.int n) && EI (ns.map .int))=true; rw[pY ns]; rfl
end
end L2
end
section
end
section
namespace L2
open PySem PySem.Spec PyProof.Rows
section
variable{X:Cx}
theorem lV(hc:X.calm=true):aZ X (.builtin "min") (λxs H Q=>∃p ns,xs=[.ref p]/\fL X.K H p (ns.map V.int)/\ns≠[]/\∀M:Int,M∈ns->(∀a,a∈ns->M<=a)->Q (.int M) H):=by
 intro pins s σ H xs us Q I r h;obtain⟨p,ns,rfl,hq,hne,q⟩:=h;obtain⟨u,rfl,rx⟩:=vals1 r;cases rx;obtain⟨its,rv,pl,hz⟩:=I.list hq;have hi:=intsAre_of rv;have hn:=hi.numsOf;have hl:=hi.length;obtain⟨xs,e⟩:=hi.allInts.items;have hp:=pl.isList;rw[e] at hp;have en:numsOf its=xs.toList.map (·.1):=by
  have:=Kh (xs:=xs);rw[<-e] at this;exact this
 rw[en] at hn;have hsz:0<xs.size:=by
  have h1:ns.length=xs.size:=by rw[<-hn,At,EN]
  have:ns.length≠0:=λz=>hne (Fp.mp z)
  lia
 refine min_intList (I.ok.hd hc) hp hsz λv h' tk hv hk=>?_
 obtain⟨t,rfl⟩:=Jq hv;obtain⟨h1,h2⟩:=argBest_lt (numAt xs) (xs.size-1);refine⟨.int _,H,I.kept (t':=tk) hk,⟨t,rfl⟩,q _ ?_ λa ha=>?_⟩
 ·rw[JQ,<-hn]; exact getD_mem (by rw[At,EN]; lia)
 ·rw[<-hn] at ha
  obtain⟨j,hj,rfl⟩:=mem_getD ha;rw[At,EN] at hj;rw[<-JQ]; exact h2 j (by lia)
end
section
variable{X:Cx}
theorem jk{prog:EK}{w:World}{A:FK}{E:Value->Bi->Prop}{s:Bi}{t sl:Addr}{its:Array Value}{vl vu:Value}{lo hi:Option Int}{Q:Value->Bi->Prop}(ht:IsTup s.heap t its)(hs:s.heap.IsSliceOf sl vl vu .none)(pl:Is vl lo)(pu:Is vu hi)
  (h0:HT.cP its.size 0 lo=0) (h1:HT.cP its.size its.size hi=its.size) (h:Q (.ref t) s):wpAny (model prog w) A (II (.ref t) (.ref sl)) Q E s:=by
 have T:s.TypeIs (.ref sl) "slice" := by obtain⟨o,a,b,_⟩:=id hs; exact⟨o,a,b⟩
 unfold II
 first | with_reducible refine FX ?_ | skip
 first | refine AT (Bn ?_) | skip
 refine AT (wpAny_sequenceKey ht.typeIs (by decide) ?_)
 refine AT (GK (name := "__getitem__") ht.typeIs Fd (GE Fd ht.typeIs Le ?_ (Lv _ _)));show wpAny _ _ (Ik (.ref t) >>= _) _ _ s;refine AT (tupleItemsOf_ ht (AT (HL T ?_)));rw[if_pos (by decide)]
 refine AT (HT.fN hs pl pu ?_);have c:(((HT.cP its.size 0 lo:Nat):Int) == 0 && (1:Int) == 1 && (HT.cP its.size its.size hi-HT.cP its.size 0 lo) == its.size)=true:=by
  rw[h0,h1,KU,beq_self_eq_true its.size]; rfl
 show wpAny _ _ (if (((HT.cP its.size 0 lo:Nat):Int) == 0 && (1:Int) == 1 && (HT.cP its.size its.size hi-HT.cP its.size 0 lo) == its.size)=true then _ else _) _ _ s
 rw[if_pos c];refine AT (AT (HL ht.typeIs (Bn ?_)));rw[if_pos (by decide)]
 first
  |exact AT (Bn (Bn ⟨_,rfl,Bn h⟩))
  |exact AT (HW (Bn ⟨_,rfl,Bn h⟩))
  |exact HW (Bn ⟨_,rfl,Bn h⟩)
  |trace_state
def rSlA(K:AC):V->Option Int->Option Int->Hp->VK->Prop:=λx lo hi H Q=>∃a xs,x=.ref a/\dJ K H a xs/\∀r H',eU H H'->dJ K H' r (kB xs lo hi)->Q (.ref r) H'
theorem yU:yE X (rSlA X.K):=by
 intro pins s σ H x v vl vu lo hi sl Q I rx hs pl pu h;obtain⟨a,xs,rfl,hx,q⟩:=h
 by_cases hw:HT.cP xs.length 0 lo=0/\HT.cP xs.length xs.length hi=xs.length
 ·cases rx
  obtain⟨its,r,ht,hz⟩:=I.tuple hx;have hlen:its.toArray.size=xs.length:=by rw[Bz]; exact r.length.symm
  refine⟨"tuple",_,Fd.lookup,ht.typeIs,?_⟩;refine jk ht hs pl pu (by rw[hlen]; exact hw.1) (by rw[hlen]; exact hw.2) ⟨.ref a,H,I,rfl,q a H (λ_ _ z=>z) ?_⟩
  have e:kB xs lo hi=xs:=by unfold kB; rw[hw.1,hw.2,Lj,KU,LO]
  rw[e]; exact hx
 ·exact Bx pins s σ H _ v vl vu lo hi sl Q I rx hs pl pu ⟨a,xs,rfl,hx,hw,λp hp=>q p _ (dB hp _) (dJ.of aF)⟩
end
end L2
end
section
namespace L2
open PySem PySem.Spec PyProof.Rows PySem.W
section
variable{prog:EK}{w:World}{A:FK}{E:Value->Bi->Prop}{s:Bi}
theorem pZ{T:String}{r d:Addr}{n:Nat}{P:Nat->Value->Prop}{OK:Heap->Prop}{Q:List Value->Bi->Prop}(K:KdlSrc prog w T r d n P OK)(hh:A.handled=none)(hok:OK s.heap)(hn:n<=E4)
  (hQ:∀h' tk acc,(∀b o,s.heap.get? b=some o->h'.get? b=some o)->s.heap.objs.size<h'.objs.size->JY P acc n->Q acc.toList { s with heap:=h',toks:=tk }):wpAny (model prog w) A (JS (.ref r)) Q E s:=by
 unfold JS;refine AT (KA (G9 Jt ?_));rw[Fo Js _];show wpAny _ A.in1 (K1 [] >>= λl=>again (.builtin "list.__iadd__" ⟨[l,.ref r],[]⟩)) _ _ s
 refine AT (Ex ?_);refine Bn ⟨Ha HP _,G9 Ke ?_⟩;rw[Fo HP _];have hlt:=K.there _ hok;have old:∀b o,s.heap.get? b=some o->(s.heap.push { cls:=.type "list",data:=.seq ([]:List Value).toArray }).get? b=some o:=λb o e=>BM _ e
 have hok':OK (s.heap.push { cls:=.type "list",data:=.seq ([]:List Value).toArray }):=K.keep _ _ hok λb _ o e=>old b o e
 show wpAny _ A.in1 (Gc (.ref s.heap.objs.size) (.ref r) (.ref s.heap.objs.size)) _ _ _;refine kdl_extend (R:=λres s'=>match res with
  |.ok (.ret v)=>wpAny (model prog w) A (match v with
   |.ref a=>do
    let o <-load a
    match o.data with
     |.seq xs _=>pure xs.toList
     |_=>Iq "internal:collect"
   |_=>Iq "internal:collect") Q E s'
  |.ok _=>False
  |.error e=>E e s') (s:={ s with heap:=s.heap.push { cls:=.type "list",data:=.seq ([]:List Value).toArray } }) K hh hok' s.heap.objs.size (Gw hlt.1) (Gw hlt.2) (.ref s.heap.objs.size) 0 (Dx _ rfl) (λh' tk acc c hk hS hacc=>?_) hn
 show wpAny _ A (load s.heap.objs.size >>= _) _ _ _;refine AT (KC hS ?_);exact Bn (hQ h' tk acc (λb o e=>hk b o (ED (Da e)) (old b o e)) (Da hS) hacc)
theorem qV{T:String}{r d:Addr}{n:Nat}{P:Nat->Value->Prop}{OK:Heap->Prop}{ns:List Int}{Q:Value->Bi->Prop}(K:KdlSrc prog w T r d n P OK)(hh:A.handled=none)(hok:OK s.heap)(h64:n<64)
  (hP:∀acc,JY P acc n->Fs acc.toList ns)
  (h:∀(l:Addr)(h':Heap)(tk e:Nat)(out:Array Value)(ns':List Int),s.heap.objs.size<=l->(∀b o,s.heap.get? b=some o->h'.get? b=some o)->h'.get? l=some (FR "list" out e)->Fs out.toList ns'->ns'.Perm ns->ns'.Pairwise (·<=·)->Q (.ref l) { s with heap:=h',toks:=tk }) :
  wpAny (model prog w) A (call (.builtin "sorted") [.ref r]) Q E s:=by
 refine Hq LX L7 L9 (LA _) ?_;unfold Gs.«sorted»;refine AT (m:=Ln "sorted" 1 1 _) (Bn ?_);refine AT (pZ K hh hok (by rw[FN]; lia) λh1 tk acc kp lt1 hacc=>?_)
 have hsz:acc.toList.length=n:=by rw[EN]; exact hacc.1
 refine AT (IN ?_ (by rw[FN]; lia))
 have hoL:(h1.push (FR "list" acc.toList.toArray 0)).get? h1.objs.size=some (FR "list" acc.toList.toArray 0):=Dx _ rfl;have le:s.heap.objs.size<=h1.objs.size:=FZ lt1;show wpAny _ _ _ _ _ { s with heap:=h1.push (FR "list" acc.toList.toArray 0),toks:=tk }
 refine AT (FX (GE KR ⟨_,hoL,rfl⟩ Jz (list_sort_tree hoL (hP acc hacc) (by lia) λout ns' a1 a2 a3=>⟨_,rfl,?_⟩) (KS _)))
 obtain⟨e,he⟩:=sortedHeap_at (out:=out) hoL;refine Bn ⟨_,rfl,h h1.objs.size _ tk e out ns' le (λb o q=>?_) he a1 a2 a3⟩
 have q1:=kp b o q;rw[sortedHeap_old (ED (Da q1)) (by rw[FP]; exact Gn (Da q1)),BM _ q1]
end
theorem sE:∀{us:List Value}{ns:List Int},us.length=ns.length->(∀(j:Nat)(v:Value),us[j]? = some v->∃n t,ns[j]? = some n/\v=.int n t)->Fs us ns
 |[],[],_,_=>.nil
 |[],_::_,h,_=>by simp at h
 |_::_,[],h,_=>by simp at h
 |u::us,n::ns,h,q=>by
  obtain⟨m,t,e,rfl⟩:=q 0 u rfl;have e:n=m:=EQ e;subst e;exact .cons n t (sE (by simpa using h) λj v hv=>q (j+1) v hv)
theorem KV.at{κ:Type}{kvs:List (κ×V)}{vs:List (κ×Value)}(r:KV kvs vs):∀{j:Nat}{k:κ}{x:Value},vs[j]? = some (k,x)->∃y,kvs[j]? = some (k,y)/\RelV y x:=by
 induction r with
 |nil=>intro j k x h; simp at h
 |@cons a b as bs r1 t ih=>
  intro j k x h;cases j with
  |zero=>
   have h:b=(k,x):=EQ h;subst h;obtain⟨k',y⟩:=a;obtain⟨e,r2⟩:=r1;have e:k'=k:=e;subst e;exact⟨y,rfl,r2⟩
  |succ j=>exact ih (by simpa using h)
section
variable{X:Cx}
theorem fT(hc:X.calm=true):aZ X (.builtin "sorted") (λxs H Q=>∃a kvs ns,xs=[.ref a]/\H a=some (.dK kvs)/\kvs.map (·.1)=ns.map GP/\ns.length<64/\∀(ns':List Int)l,ns'.Perm ns->ns'.Pairwise (·<=·)->H l=none->Q (.ref l) (upd H l (.lst (ns'.map V.int)))):=by
 intro pins s σ H xs us Q I r h;obtain⟨a,kvs,ns,rfl,hq,ek,h64,q⟩:=h;obtain⟨u,rfl,rx⟩:=vals1 r;cases rx;obtain⟨hz,hS,vs,rv,m⟩:=vn I.hok hq;obtain⟨ep,hm⟩:=m.dictAt;have ln:kvs.length=ns.length:=by
  have:=congrArg Hz ek;rw[At,At] at this;exact this
 have lv:=rv.length;refine qV (ns:=ns) (kdl_dict (knd:=aJ X.prog X.w) (kvs:=vs) (ep:=ep) hS) (I.ok.hd hc) hm (by lia) (λacc hacc=>sE (by rw[EN,hacc.1]; lia) λj v hv=>?_) λl h' tk e out ns' hl kp he hI pm srt=>?_
 ·obtain⟨k,x,hkx,hk⟩:=hacc.2 j v (by rw[<-Array.getElem?_toList]; exact hv)
  obtain⟨y,hy,_⟩:=rv.at hkx;have e1:(kvs.map (·.1))[j]? = some k:=by rw[E9,hy]; rfl
  rw[ek,E9] at e1;obtain⟨n,hn,rfl⟩:=Ff.mp e1;have hk:jN (GP n) v=true:=hk;rcases bx hk with⟨i,t,e2,rfl⟩ | ⟨z,t,e2,_⟩
  ·cases e2
   exact⟨n,t,hn,rfl⟩
  ·cases e2
 ·have hv:Vals (ns'.map V.int) out.toList:=by
   clear he pm srt
   generalize out.toList=os at hI
   induction hI with
   |nil=>exact .nil
   |cons n t _ ih=>exact .cons ⟨_,rfl⟩ ih
  have hlen:(ns'.map V.int).length<=E4:=by
   rw[At,pm.length_eq,FN]; lia
  refine⟨.ref l,_,I.laid (t':=tk) (a:=l) (o:=.lst (ns'.map V.int)) kp hl ?_,rfl,q ns' _ pm srt (I.hok.fresh hl)⟩;refine⟨hlen,out.toList,e,hv,?_⟩;rw[he]
end
end L2
end
section
namespace L2
open PySem PySem.Spec PyProof.Rows
section
variable{X:Cx}
theorem vY:dY X (EW .IsNot) (λx y H Q=>∃a b,x=.bl a/\y=.bl b/\Q (.bl (!(a == b))) H):=by
 intro pins s σ H x y v u Q I rx ry h;obtain⟨a,b,rfl,rfl,q⟩:=h;cases rx;cases ry;refine Bn ⟨.bl (!(a == b)),H,I,?_,q⟩;cases a <;> cases b <;> rfl
end
end L2
end
section
end
section
namespace HT
open PySem PySem.Spec PyProof.Rows
noncomputable def fB:List Int->List Int->Bool
 |[],[]=>true
 |[],_::_=>false
 |_::_,[]=>true
 |x::xs,y::ys=>if x=y then fB xs ys else decide (x>=y)
theorem kO(x y:Int)(xs ys:List Int):fB (x::xs) (y::ys)=if x=y then fB xs ys else decide (x>=y):=rfl
theorem lW:fB [] []=true:=rfl
theorem kP(y:Int)(ys:List Int):fB [] (y::ys)=false:=rfl
theorem kQ(x:Int)(xs:List Int):fB (x::xs) []=true:=rfl
theorem mQ:∀(xs ys:List Int),fB xs ys = !lexLt xs ys
 |[],[]=>rfl
 |[],_::_=>rfl
 |_::_,[]=>rfl
 |x::xs,y::ys=>by
  rw[kO,cF]
  by_cases e:x=y
  ·rw[if_pos e,if_pos e]; exact mQ xs ys
  ·rw[if_neg e,if_neg e]
   by_cases h:x<y
   ·rw[decide_eq_true h,decide_eq_false (by lia)]; rfl
   ·rw[decide_eq_false h,decide_eq_true (by lia)]; rfl
theorem vZ(A:FK)(s:Bi)(a:Int)(t:Tok)(c:Int)(u:Tok)(prog:EK)(w:World)(E:Value->Bi->Prop)(Q:Value->Bi->Prop)(h:Q (.bool (decide (a>=c))) s) :
  wpAny (model prog w) A (richCompare .GtE (.int a t) (.int c u)) Q E s:=(Ld h:wpAny (model prog w) A (EW .GtE (.int a t) (.int c u)) Q E s)
section
open PySem.SeqAt
open PySem.AutoSeq1 (wpAny_loadPart')
open PySem.MeetsSeq PySem.MeetsSeq2 PySem.MeetsSeq3
theorem lX(l b:Addr)(items items2:Array Value)(n n2:Nat)(dd dd2:Option Addr)(sl sl2:Array (Option Value))(ns ms:List Int)(hi:Fs items.toList ns)(hj:Fs items2.toList ms) :
  Meets (Gs.«tuple.__ge__» ⟨[.ref l,.ref b],[]⟩)
   (λ_ R s=>s.heap.get? l=some { cls:=.type "tuple",dict:=dd,data:=.seq items n,slots:=sl }/\s.heap.get? b=some { cls:=.type "tuple",dict:=dd2,data:=.seq items2 n2,slots:=sl2 } /\
    R (.ok (.ret (.bool (fB ns ms)))) s) :=
 .of_wp λprog w A R s h=>by
  obtain⟨hp,g,d,tk,os⟩:=s; obtain⟨hl,hb,h⟩:=h;have f2:=JJ;have z1:items.size=ns.length:=by rw[<-hi.length]; simp
  have z2:items2.size=ms.length:=by rw[<-hj.length]; simp
  wp_walk using FV hl,FV hb,wpAny_forIn_list _ (λrest b s'=>b.1=none/\s'=⟨hp,g,d,tk,os⟩/\∃ (vs ws:List Value) (ns' ms':List Int),rest=vs.zip ws /\
   Fs vs ns'/\Fs ws ms'/\ns'.length+items2.size=ms'.length+items.size/\R (.ok (.ret (.bool (fB ns' ms')))) ⟨hp,g,d,tk,os⟩) _
  case turn=>
   rintro⟨y,x⟩ rest b s' ⟨hb',rfl,vs,ws,ns',ms',hz,hvi,hwi,hlen,hR⟩;cases hvi with
   |nil=>rw[Hy] at hz; cases hz
   |cons a t hvi' =>
    cases hwi with
    |nil=>rw[Hj] at hz; cases hz
    |cons c u hwi' =>
     rw[GB] at hz
     injection hz with hyx hrest
     injection hyx with hy hx
     subst hy hx;rw[kO] at hR;simp only[E7] at hlen;obtain⟨e,he,hiff⟩:=pI A.in1 ⟨hp,g,d,tk,os⟩ a t c u;refine AT (he prog w _ _ ?_);cases e with
     |true=>
      rw[if_pos (hiff.mp rfl)] at hR
      wp_walk
      exact⟨rfl,rfl,_,_,_,_,hrest,hvi',hwi',by lia,hR⟩
     |false=>
      rw[if_neg (λq=>absurd (hiff.mpr q) Gg)] at hR
      have hri:=vZ A.in1 ⟨hp,g,d,tk,os⟩ a t c u prog w
      wp_walk using hri
      exact⟨_,rfl,by simpa using hR⟩
  case fin=>
   rintro⟨b1,b2⟩ s' ⟨hb',rfl,vs,ws,ns',ms',hz,hvi,hwi,hlen,hR⟩;simp only at hb';subst hb';have hv:fB ns' ms'=decide (items.size>=items2.size):=by
    cases hvi with
    |nil=>
     cases hwi with
     |nil=>
      simp only[F9] at hlen;rw[lW];exact(decide_eq_true (by lia)).symm
     |cons c u hw=>
      simp only[F9,E7] at hlen;rw[kP];exact(decide_eq_false (by lia)).symm
    |cons a t hv=>
     cases hwi with
     |nil=>
      simp only[F9,E7] at hlen;rw[kQ];exact(decide_eq_true (by lia)).symm
     |cons c u hw=>
      rw[GB] at hz;cases hz
   rw[hv] at hR
   wp_walk
   exact⟨_,rfl,by simpa[IS] using hR⟩
  case h=>
   exact⟨rfl,rfl,items.toList,items2.toList,ns,ms,rfl,hi,hj,by lia,h⟩
end
section
variable{prog:EK}{w:World}{A:FK}{E:Value->Bi->Prop}{s:Bi}
theorem qW{l b:Addr}{items items2:Array Value}{ns ms:List Int}{Q:Value->Bi->Prop}(hl:IsTup s.heap l items)(hb:IsTup s.heap b items2)(hi:Fs items.toList ns)(hj:Fs items2.toList ms)
  (hu:A.units<cLine) (h:Q (.bool (fB ns ms)) s):wpAny (model prog w) A (EW .GtE (.ref l) (.ref b)) Q E s:=by
 obtain⟨⟨cls,dd,data,sl⟩,ho,hc,n,hd⟩:=id hl;obtain⟨⟨cls2,dd2,data2,sl2⟩,ho2,hc2,n2,hd2⟩:=id hb;simp only at hc hd hc2 hd2;subst hc hd hc2 hd2;exact Kz (op:=.GtE) ⟨_,ho,rfl⟩ ⟨_,ho2,rfl⟩ PySem.F.slot_tuple_ge PySem.F.entry_tuple_ge (PySem.F.args_tuple_ge_2 _ _) (lX l b items items2 n n2 dd dd2 sl sl2 ns ms hi hj)
  ⟨ho,ho2,show JV (fB ns ms)≠KJ/\Q (.bool (fB ns ms)) s from⟨(λx=>nomatch x),h⟩⟩ hu
end
end HT
namespace L2
open PySem PySem.Spec PyProof.Rows
section
variable{X:Cx}
noncomputable def rGeT(K:AC):R2:=λx y H Q=>∃a b ns ms,x=.ref a/\y=.ref b/\dJ K H a (ns.map V.int)/\dJ K H b (ms.map V.int)/\Q (.bl (!HT.lexLt ns ms)) H
theorem BR(hu:X.A.units<cLine):dY X (EW .GtE) (rGeT X.K):=by
 intro pins s σ H x y v u Q I rx ry h;obtain⟨a,b,ns,ms,rfl,rfl,ha,hb,q⟩:=h;cases rx;cases ry;obtain⟨its,r1,p1,_⟩:=I.tuple ha;obtain⟨its2,r2,p2,_⟩:=I.tuple hb;refine HT.qW p1 p2 (intsAre_of r1) (intsAre_of r2) hu ⟨.bl (HT.fB ns ms),H,I,rfl,?_⟩;rw[HT.mQ]; exact q
end
end L2
end
section
namespace VL
open PySem PySem.Spec L2 PyProof.Rows
abbrev Zs:=Addr->Prop
noncomputable def gr:Key->Ap
 |.inl i=>.int i
 |.inr x=>.str x
def KL(K:AC)(a:Addr)(xs:List V):Prop:=∃ (o:Obj) (its:Array Value) (n:Nat),K.lookup a=some o/\o.cls=.type "list"/\o.dict=none/\o.data=.seq its n/\its.size<=E4/\Vals xs its.toList
mutual
inductive Fz(K:AC)(H:Hp)(Z:Zs):V->Ap->Prop
 |non:Fz K H Z .non .none
 |bl (b:Bool):Fz K H Z (.bl b) (.bool b)
 |int (i:Int):Fz K H Z (.int i) (.int i)
 |str (x:Str):Fz K H Z (.str x) (.str x)
 |tup {a:Addr} {xs:List V} {ds:List Ap}:dJ K H a xs->bB K H Z xs ds->Fz K H Z (.ref a) (.tuple ds)
 |lst {a:Addr} {xs:List V} {ds:List Ap}:Rd H a (.lst xs)->Z a->bB K H Z xs ds->Fz K H Z (.ref a) (.list ds)
 |lsK {a:Addr} {xs:List V} {ds:List Ap}:KL K a xs->bB K H Z xs ds->Fz K H Z (.ref a) (.list ds)
 |cz {a:Addr} {kxs:List (Key×V)} {ds:List (Key×Ap)}:Rd H a (.dK kxs)->Z a->fU K H Z kxs ds->Fz K H Z (.ref a) (.dict (ds.map λp=>(gr p.1,p.2)))
 |dtp {a:Addr} {kxs:List (List Key×V)} {ds:List (List Key×Ap)}:H a=some (.dT kxs)->Z a->kxs.map (·.1)=ds.map (·.1)->bB K H Z (kxs.map (·.2)) (ds.map (·.2))->Fz K H Z (.ref a) (.dict (ds.map λp=>(.tuple (p.1.map gr),p.2)))
inductive bB(K:AC)(H:Hp)(Z:Zs):List V->List Ap->Prop
 |nil:bB K H Z [] []
 |cons {x:V} {d:Ap} {xs:List V} {ds:List Ap}:Fz K H Z x d->bB K H Z xs ds->bB K H Z (x::xs) (d::ds)
inductive fU(K:AC)(H:Hp)(Z:Zs):List (Key×V)->List (Key×Ap)->Prop
 |nil:fU K H Z [] []
 |cons {k:Key} {x:V} {d:Ap} {xs:List (Key×V)} {ds:List (Key×Ap)}:Fz K H Z x d->fU K H Z xs ds->fU K H Z ((k,x)::xs) ((k,d)::ds)
end
def Kp(o:HO)(x:Option HO):Prop:=x=some o\/((∃kvs,o=.dK kvs)/\∃ob,x=some (.iH ob o))
theorem Kp.rd{H:Hp}{a:Addr}{kvs:List (Key×V)}(h:Kp (.dK kvs) (H a)):Rd H a (.dK kvs):=h.elim .inl λh=>.inr h.2
theorem Kp.iH{ob:Obj}{u:HO}{x:Option HO}(h:Kp (.iH ob u) x):x=some (.iH ob u):=h.elim id λh=>by obtain⟨⟨_,h⟩,_⟩:=h; cases h
theorem Kp.trans{o:HO}{x y:Option HO}(h:Kp o x)(g:∀u,x=some u->Kp u y):Kp o y:=by
 rcases h with h | ⟨h1,ob,h2⟩
 ·exact g o h
 ·exact .inr ⟨h1,ob,(g _ h2).iH⟩
structure aG(H:Hp)(Z:Zs)(H':Hp)(Z':Zs):Prop where
 tups:d7 H H'
 keep:∀a o,Z a->H a=some o->Kp o (H' a)
 zs:∀a,Z a->Z' a
theorem aG.refl{H:Hp}{Z:Zs}:aG H Z H Z:=⟨d7.refl,λ_ _ _ h=>.inl h,λ_ h=>h⟩
theorem aG.trans{H H1 H2:Hp}{Z Z1 Z2:Zs}(g:aG H Z H1 Z1)(h:aG H1 Z1 H2 Z2):aG H Z H2 Z2:=⟨g.tups.trans h.tups,λa o z e=>(g.keep a o z e).trans λu e=>h.keep a u (g.zs a z) e,λa z=>h.zs a (g.zs a z)⟩
theorem aG.lst{H H':Hp}{Z Z':Zs}(g:aG H Z H' Z'){a:Addr}{xs:List V}(z:Z a)(e:H a=some (.lst xs)):H' a=some (.lst xs):=(g.keep a _ z e).elim id λh=>by obtain⟨⟨_,h⟩,_⟩:=h; cases h
theorem aG.dT{H H':Hp}{Z Z':Zs}(g:aG H Z H' Z'){a:Addr}{kxs:List (List Key×V)}(z:Z a)(e:H a=some (.dT kxs)):H' a=some (.dT kxs):=(g.keep a _ z e).elim id λh=>by obtain⟨⟨_,h⟩,_⟩:=h; cases h
section
variable{K:AC}{H H':Hp}{Z Z':Zs}
mutual
theorem Fz.mono(g:aG H Z H' Z'):∀{x:V}{d:Ap},Fz K H Z x d->Fz K H' Z' x d
 |_,_,.non=>.non
 |_,_,.bl b=>.bl b
 |_,_,.int i=>.int i
 |_,_,.str x=>.str x
 |_,_,.tup h r=>.tup (g.tups.sq h) (bB.mono g r)
 |_,_,.lst (a:=a) h z r=>.lst (by
  rcases h with e | ⟨o,e⟩
  ·exact .inl (g.lst z e)
  ·exact .inr ⟨o,(g.keep a _ z e).iH⟩) (g.zs _ z) (bB.mono g r)
 |_,_,.lsK h r=>.lsK h (bB.mono g r)
 |_,_,.cz (a:=a) h z r=>.cz (by
  rcases h with e | ⟨o,e⟩
  ·exact(g.keep a _ z e).rd
  ·exact .inr ⟨o,(g.keep a _ z e).iH⟩) (g.zs _ z) (fU.mono g r)
 |_,_,.dtp (a:=a) h z e r=>.dtp (g.dT z h) (g.zs _ z) e (bB.mono g r)
theorem bB.mono(g:aG H Z H' Z'):∀{x:List V}{d:List Ap},bB K H Z x d->bB K H' Z' x d
 |_,_,.nil=>.nil
 |_,_,.cons h r=>.cons (Fz.mono g h) (bB.mono g r)
theorem fU.mono(g:aG H Z H' Z'):∀{x:List (Key×V)}{d:List (Key×Ap)},fU K H Z x d->fU K H' Z' x d
 |_,_,.nil=>.nil
 |_,_,.cons h r=>.cons (Fz.mono g h) (fU.mono g r)
end
theorem bB.length:∀{xs:List V}{ds:List Ap},bB K H Z xs ds->xs.length=ds.length:=by
 intro xs
 induction xs with
 |nil=>intro ds h; cases h; rfl
 |cons x xs ih=>intro ds h; cases h with | cons _ r=>rw[E7,E7,ih r]
theorem bB.get':∀{xs:List V}{ds:List Ap}{i:Nat}{d:Ap},bB K H Z xs ds->ds[i]? = some d->∃x,xs[i]? = some x/\Fz K H Z x d:=by
 intro xs
 induction xs with
 |nil=>intro ds i d h e; cases h; simp at e
 |cons x xs ih=>
  intro ds i d h e;cases h with | cons r t=>
  cases i with
  |zero=>simp at e; subst e; exact⟨_,rfl,r⟩
  |succ i=>
   obtain⟨d,h1,h2⟩:=ih (i:=i) t (by simpa using e)
   exact⟨d,by simpa using h1,h2⟩
theorem bB.append:∀{xs ys:List V}{ds es:List Ap},bB K H Z xs ds->bB K H Z ys es->bB K H Z (xs++ys) (ds++es):=by
 intro xs
 induction xs with
 |nil=>intro ys ds es h s; cases h; exact s
 |cons x xs ih=>intro ys ds es h s; cases h with | cons h r=>exact .cons h (ih r s)
theorem bB.take:∀{xs:List V}{ds:List Ap}(n:Nat),bB K H Z xs ds->bB K H Z (xs.take n) (ds.take n)
 |_,_,0,_=>by rw[Lh,Lh]; exact .nil
 |_,_,n+1,.nil=>by rw[Ly,Ly]; exact .nil
 |_,_,n+1,.cons h r=>.cons h (bB.take n r)
theorem bB.drop:∀{xs:List V}{ds:List Ap}(n:Nat),bB K H Z xs ds->bB K H Z (xs.drop n) (ds.drop n)
 |_,_,0,h=>h
 |_,_,n+1,.nil=>by rw[Im,Im]; exact .nil
 |_,_,n+1,.cons h r=>bB.drop n r
theorem bB.set:∀{xs:List V}{ds:List Ap}{x:V}{d:Ap}(i:Nat),bB K H Z xs ds->Fz K H Z x d->bB K H Z (xs.set i x) (ds.set i d):=by
 intro xs
 induction xs with
 |nil=>intro ds x d i h _; cases h; exact .nil
 |cons y xs ih=>
  intro ds x d i h q;cases h with | cons p r=>
  cases i with
  |zero=>exact .cons q r
  |succ i=>exact .cons p (ih i r q)
theorem fU.length:∀{xs:List (Key×V)}{ds:List (Key×Ap)},fU K H Z xs ds->xs.length=ds.length:=by
 intro xs
 induction xs with
 |nil=>intro ds h; cases h; rfl
 |cons x xs ih=>intro ds h; cases h with | cons _ r=>rw[E7,E7,ih r]
theorem fU.keys:∀{xs:List (Key×V)}{ds:List (Key×Ap)},fU K H Z xs ds->xs.map (·.1)=ds.map (·.1)
 |_,_,.nil=>rfl
 |_,_,.cons _ r=>by rw[EH,EH,fU.keys r]
theorem Fz.int_inv{x:V}{i:Int}(h:Fz K H Z x (.int i)):x=.int i:=by cases h; rfl
theorem Fz.qX{x:V}{i:Bool}(h:Fz K H Z x (.bool i)):x=.bl i:=by cases h; rfl
theorem Fz.str_inv{x:V}{i:Str}(h:Fz K H Z x (.str i)):x=.str i:=by cases h; rfl
theorem Fz.sF{x:V}(h:Fz K H Z x .none):x=.non:=by cases h; rfl
theorem Fz.gu{x:V}{ds:List Ap}(h:Fz K H Z x (.tuple ds)):∃a xs,x=.ref a/\dJ K H a xs/\bB K H Z xs ds:=by
 cases h with
 |tup q r=>exact⟨_,_,rfl,q,r⟩
theorem Fz.lst_inv{x:V}{ds:List Ap}(h:Fz K H Z x (.list ds)):∃a xs,x=.ref a/\fL K H a xs/\bB K H Z xs ds:=by
 cases h with
 |lst q z r=>exact⟨_,_,rfl,.inl q,r⟩
 |lsK q r=>exact⟨_,_,rfl,.inr q,r⟩
theorem bB.ints:∀(ns:List Int),bB K H Z (ns.map V.int) (ns.map .int)
 |[]=>.nil
 |n::ns=>.cons (.int n) (bB.ints ns)
theorem bB.cQ:∀{ns:List Int}{xs:List V},bB K H Z xs (ns.map .int)->xs=ns.map V.int:=by
 intro ns
 induction ns with
 |nil=>intro xs h; cases h; rfl
 |cons n ns ih=>
  intro xs h;cases h with | cons q r=>
  cases q;rw[ih r]; rfl
end
section
variable{X:Cx}{pins:List (Addr×Obj)}{σ:L2.St}{H:Hp}{s:Bi}{Z:Zs}
mutual
theorem Fz.reads(I:Inv X pins σ H s):∀{v:V}{d:Ap}{u:Value},Fz X.K H Z v d->d.canLay0=true->RelV v u->∃as,Reads s.heap u d as
 |_,_,_,.non,_,r=>by cases r; exact⟨_,.none⟩
 |_,_,_,.bl b,_,r=>by cases r; exact⟨_,.bool b⟩
 |_,_,_,.int i,_,r=>by obtain⟨t,rfl⟩:=r; exact⟨_,.int i t⟩
 |_,_,_,.str x,_,r=>by obtain⟨t,rfl⟩:=r; exact⟨_,.str x t⟩
 |_,_,_,.tup q rs,c,r=>by
  cases r;obtain⟨its,rv,⟨o,ho,hc,n,hd⟩,_⟩:=I.tuple q;obtain⟨as,h⟩:=bB.reads I rs c rv;exact⟨as,.tuple ho hc hd (by simpa using h)⟩
 |_,_,_,.lst q z rs,c,r=>by
  cases r;obtain⟨its,rv,⟨o,n,ho,hc,hdd,hd⟩,_⟩:=I.list (.inl q);obtain⟨as,h⟩:=bB.reads I rs c rv;exact⟨_,.list ho hc hd (by simpa using h)⟩
 |_,_,_,.lsK q rs,c,r=>by
  cases r;obtain⟨its,rv,⟨o,n,ho,hc,hdd,hd⟩,_⟩:=I.list (.inr q);obtain⟨as,h⟩:=bB.reads I rs c rv;exact⟨_,.list ho hc hd (by simpa using h)⟩
 |_,_,_,.cz _ _ _,c,_=>nomatch c
 |_,_,_,.dtp _ _ _ _,c,_=>nomatch c
theorem bB.reads(I:Inv X pins σ H s):∀{v:List V}{d:List Ap}{u:List Value},bB X.K H Z v d->EI d=true->Vals v u->∃as,KM s.heap u d as
 |_,_,_,.nil,_,.nil=>⟨_,.nil⟩
 |_,_,_,.cons (d:=d) (ds:=ds) r q,c,.cons a b=>by
  have c':d.canLay0=true/\EI ds=true:=by simpa[EI] using c
  obtain⟨x,h1⟩:=Fz.reads I r c'.1 a;obtain⟨y,h2⟩:=bB.reads I q c'.2 b;exact⟨_,.cons h1 h2⟩
end
end
end VL
end
section
namespace VL
open PySem PySem.Spec L2 PyProof.Rows
inductive M where
 |v (d:Ap)
 |lst (ds:List Ap)
 |cz (kvs:List (Key×Ap))
 |cD (kvs:List (Key×List Ap))
 |dtp (kvs:List (List Key×Ap))
 |lls (dss:List (List Ap))
 |dre (k:Key) (ds:List Ap) (kvs:List (Key×Ap))
 |fn (t:Nat) (f:Addr)
abbrev Ev:=List (Option M)
section
variable(K:AC)(H:Hp)(Z:Zs)
inductive iC:List (Key×V)->List (Key×List Ap)->List Addr->Prop
 |nil:iC [] [] []
 |cons {k:Key} {b:Addr} {xs:List V} {ds:List Ap} {kxs:List (Key×V)} {kvs:List (Key×List Ap)} {G:List Addr}:H b=some (.lst xs)->bB K H Z xs ds->iC kxs kvs G->iC ((k,.ref b)::kxs) ((k,ds)::kvs) (b::G)
inductive iY:List V->List (List Ap)->List Addr->Prop
 |nil:iY [] [] []
 |cons {b:Addr} {xs:List V} {ds:List Ap} {vs:List V} {dss:List (List Ap)} {G:List Addr}:H b=some (.lst xs)->bB K H Z xs ds->iY vs dss G->iY (.ref b::vs) (ds::dss) (b::G)
inductive Ow:V->M->List Addr->Prop
 |v {x:V} {d:Ap}:Fz K H Z x d->Ow x (.v d) []
 |lst {a:Addr} {xs:List V} {ds:List Ap}:H a=some (.lst xs)->bB K H Z xs ds->Ow (.ref a) (.lst ds) [a]
 |cz {a:Addr} {kxs:List (Key×V)} {kvs:List (Key×Ap)}:H a=some (.dK kxs)->fU K H Z kxs kvs->Ow (.ref a) (.cz kvs) [a]
 |cD {a:Addr} {kxs:List (Key×V)} {kvs:List (Key×List Ap)} {G:List Addr}:H a=some (.dK kxs)->iC K H Z kxs kvs G->Ow (.ref a) (.cD kvs) (a::G)
 |dtp {a:Addr} {kxs:List (List Key×V)} {kvs:List (List Key×Ap)}:H a=some (.dT kxs)->kxs.map (·.1)=kvs.map (·.1)->bB K H Z (kxs.map (·.2)) (kvs.map (·.2))->Ow (.ref a) (.dtp kvs) [a]
 |lls {a:Addr} {vs:List V} {dss:List (List Ap)} {G:List Addr}:H a=some (.lst vs)->iY K H Z vs dss G->Ow (.ref a) (.lls dss) (a::G)
 |dre {a b:Addr} {k:Key} {xs:List V} {ds:List Ap} {kxs:List (Key×V)} {kvs:List (Key×Ap)}:H a=some (.dK ((k,.ref b)::kxs))->H b=some (.lst xs)->bB K H Z xs ds->fU K H Z kxs kvs->Ow (.ref a) (.dre k ds kvs) [a,b]
 |fn {t:Nat} {f:Addr}:Ow (.ref f) (.fn t f) []
inductive bh:L2.St->Ev->List Addr->Prop
 |nil:bh [] [] []
 |non {x:Option V} {σ:L2.St} {ρ:Ev} {F:List Addr}:bh σ ρ F->bh (x::σ) (none::ρ) F
 |som {x:V} {m:M} {G:List Addr} {σ:L2.St} {ρ:Ev} {F:List Addr}:Ow K H Z x m G->bh σ ρ F->bh (some x::σ) (some m::ρ) (G++F)
end
def Mu(o:HO):Prop:=(∃xs,o=.lst xs)\/(∃kvs,o=.dK kvs)\/∃kvs,o=.dT kvs
structure Wf(H:Hp)(Z:Zs)(F:List Addr):Prop where
 nd:F.Nodup
 dz:∀a∈F,¬Z a
 za:∀a,Z a->H a≠none
structure aN(H:Hp)(Z:Zs)(F:List Addr)(H':Hp)(Z':Zs)(F':List Addr):Prop where
 kept:∀a o,a∉F->H a=some o->H' a=some o\/(Z a/\Kp o (H' a))
 tups:d7 H H'
 zs:∀a,Z a->Z' a
 zn:∀a,Z' a->Z a\/a∈F\/H a=none
 fr:∀a∈F',a∈F\/H a=none
 nd:F'.Nodup
 dz:∀a∈F',¬Z' a
 za:∀a,Z' a->H' a≠none
section
variable{K:AC}{H H' H1 H2:Hp}{Z Z' Z1 Z2:Zs}{F F' F1 F2 G:List Addr}
theorem aN.keep(f:aN H Z F H' Z' F')(a:Addr)(o:HO)(h:a∉F)(z:¬Z a)(e:H a=some o):H' a=some o:=(f.kept a o h e).elim id λq=>absurd q.1 z
theorem aN.kp(f:aN H Z F H' Z' F'){a:Addr}{o:HO}(h:a∉F)(e:H a=some o):Kp o (H' a):=(f.kept a o h e).elim .inl λq=>q.2
theorem aN.AB(f:aN H Z F H' Z' F'){a:Addr}{xs:List V}(h:a∉F)(e:H a=some (.lst xs)):H' a=some (.lst xs):=(f.kp h e).elim id λq=>by obtain⟨⟨_,q⟩,_⟩:=q; cases q
theorem aN.refl(w:Wf H Z F):aN H Z F H Z F:=⟨λ_ _ _ h=>.inl h,d7.refl,λ_ h=>h,λ_ h=>.inl h,λ_ h=>.inl h,w.nd,w.dz,w.za⟩
theorem aN.wf(f:aN H Z F H' Z' F'):Wf H' Z' F':=⟨f.nd,f.dz,f.za⟩
theorem aN.grow(f:aN H Z F H' Z' F')(w:Wf H Z F):aG H Z H' Z':=⟨f.tups,λa o z e=>f.kp (λh=>w.dz a h z) e,f.zs⟩
theorem aN.trans(f:aN H Z F H1 Z1 F1)(g:aN H1 Z1 F1 H2 Z2 F2):aN H Z F H2 Z2 F2:=by
 have old:∀a,H1 a=none->a∈F\/H a=none:=λa e=>by
  by_cases h:a∈F
  ·exact .inl h
  ·cases q:H a with
   |none=>exact .inr rfl
   |some o=>rcases f.kp h q with z | ⟨_,ob,z⟩ <;> rw[z] at e <;> cases e
 refine⟨λa o h e=>?_,f.tups.trans g.tups,λa z=>g.zs a (f.zs a z),λa z=>?_,λa h=>?_,g.nd,g.dz,g.za⟩
 ·have hF:a∉F1:=λz=>by
   rcases f.fr a z with z | z
   ·exact h z
   ·rw[e] at z; cases z
  have hz:Z1 a->Z a:=λz=>by
   rcases f.zn a z with z | z | z
   ·exact z
   ·exact absurd z h
   ·rw[e] at z; cases z
  rcases f.kept a o h e with q | ⟨q1,q2⟩
  ·exact(g.kept a o hF q).imp id λq=>⟨hz q.1,q.2⟩
  ·exact .inr ⟨q1,q2.trans λu e=>g.kp hF e⟩
 ·rcases g.zn a z with z | z | z
  ·exact f.zn a z
  ·exact .inr (f.fr a z)
  ·exact .inr (old a z)
 ·rcases g.fr a h with z | z
  ·exact f.fr a z
  ·exact old a z
theorem aN.frame(f:aN H Z F H' Z' F')(w:Wf H Z (F++G))(al:∀a∈G,H a≠none):aN H Z (F++G) H' Z' (F'++G):=by
 have nd:=E2.mp w.nd;have sep:∀a∈G,a∉F:=λa h z=>nd.2.2 a z a h rfl
 refine⟨λa o h e=>f.kept a o (λz=>h (lL _ z)) e,f.tups,f.zs,λa z=>?_,λa h=>?_,?_,λa h z=>?_,f.za⟩
 ·rcases f.zn a z with z | z | z
  ·exact .inl z
  ·exact .inr (.inl (lL _ z))
  ·exact .inr (.inr z)
 ·rcases lM h with h | h
  ·rcases f.fr a h with z | z
   ·exact .inl (lL _ z)
   ·exact .inr z
  ·exact .inl (lR _ h)
 ·refine E2.mpr ⟨f.nd,nd.2.1,λa h b h' e=>?_⟩
  subst e;rcases f.fr a h with z | z
  ·exact sep a h' z
  ·exact al a h' z
 ·rcases lM h with h | h
  ·exact f.dz a h z
  ·rcases f.zn a z with z | z | z
   ·exact w.dz a (lR _ h) z
   ·exact sep a h z
   ·exact al a h z
theorem aN.sub(f:aN H Z F H' Z' F')(hn:F1.Nodup)(hs:∀a∈F1,a∈F'):aN H Z F H' Z' F1:=⟨f.kept,f.tups,f.zs,f.zn,λa h=>f.fr a (hs a h),hn,λa h=>f.dz a (hs a h),f.za⟩
theorem aN.left(f:aN H Z F H' Z' (F1++G)):aN H Z F H' Z' F1:=f.sub (E2.mp f.nd).1 λ_ h=>lL _ h
theorem aN.nil(f:aN H Z F H' Z' F1):aN H Z F H' Z' (F1++[]):=by rw[E1]; exact f
theorem aN.swap(f:aN H Z F H' Z' (F1++G)):aN H Z F H' Z' (G++F1):=f.sub (by
  have h:=E2.mp f.nd;exact E2.mpr ⟨h.2.1,h.1,λa x b y e=>h.2.2 b y a x e.symm⟩) λa h=>by
  rcases lM h with h | h
  ·exact lR _ h
  ·exact lL _ h
theorem iC.mem:∀{kxs:List (Key×V)}{kvs:List (Key×List Ap)}{G:List Addr},iC K H Z kxs kvs G->∀a∈G,∃o,H a=some o/\Mu o:=by
 intro kxs kvs G r
 induction r with
 |nil=>intro a h; simp at h
 |cons e _ r ih=>
  intro a h;rcases lK h with h | h
  ·subst h; exact⟨_,e,.inl ⟨_,rfl⟩⟩
  ·exact ih a h
theorem iY.mem:∀{vs:List V}{dss:List (List Ap)}{G:List Addr},iY K H Z vs dss G->∀a∈G,∃o,H a=some o/\Mu o:=by
 intro vs dss G r
 induction r with
 |nil=>intro a h; simp at h
 |cons e _ r ih=>
  intro a h;rcases lK h with h | h
  ·subst h; exact⟨_,e,.inl ⟨_,rfl⟩⟩
  ·exact ih a h
theorem Ow.mem{x:V}{m:M}(h:Ow K H Z x m G):∀a∈G,∃o,H a=some o/\Mu o:=λa ha=>by
 cases h with
 |v _=>simp at ha
 |lst e _=>rw[Do] at ha; subst ha; exact⟨_,e,.inl ⟨_,rfl⟩⟩
 |cz e _=>rw[Do] at ha; subst ha; exact⟨_,e,.inr (.inl ⟨_,rfl⟩)⟩
 |dtp e _ _=>rw[Do] at ha; subst ha; exact⟨_,e,.inr (.inr ⟨_,rfl⟩)⟩
 |cD e r=>
  rcases lK ha with ha | ha
  ·subst ha; exact⟨_,e,.inr (.inl ⟨_,rfl⟩)⟩
  ·exact r.mem a ha
 |lls e r=>
  rcases lK ha with ha | ha
  ·subst ha; exact⟨_,e,.inl ⟨_,rfl⟩⟩
  ·exact r.mem a ha
 |dre e eb _ _=>
  rcases lK ha with ha | ha
  ·subst ha; exact⟨_,e,.inr (.inl ⟨_,rfl⟩)⟩
  ·rw[Do] at ha; subst ha; exact⟨_,eb,.inl ⟨_,rfl⟩⟩
 |fn=>simp at ha
theorem Ow.al{x:V}{m:M}(h:Ow K H Z x m G):∀a∈G,H a≠none:=λa ha e=>by obtain⟨o,q,_⟩:=h.mem a ha; rw[q] at e; cases e
theorem bh.mem:∀{σ:L2.St}{ρ:Ev}{F:List Addr},bh K H Z σ ρ F->∀a∈F,∃o,H a=some o/\Mu o:=by
 intro σ ρ F r
 induction r with
 |nil=>intro a h; simp at h
 |non _ ih=>exact ih
 |som q r ih=>
  intro a h;rcases lM h with h | h
  ·exact q.mem a h
  ·exact ih a h
theorem bh.al{σ:L2.St}{ρ:Ev}(h:bh K H Z σ ρ F):∀a∈F,H a≠none:=λa ha e=>by obtain⟨o,q,_⟩:=h.mem a ha; rw[q] at e; cases e
theorem iC.mono(g:aG H Z H' Z'):∀{kxs:List (Key×V)}{kvs:List (Key×List Ap)}{G:List Addr},iC K H Z kxs kvs G->(∀a∈G,∀o,H a=some o->H' a=some o)->iC K H' Z' kxs kvs G:=by
 intro kxs kvs G r
 induction r with
 |nil=>exact λ_=>.nil
 |cons e f r ih=>exact λk=>.cons (k _ lS _ e) (f.mono g) (ih λa h=>k a (lO _ h))
theorem iY.mono(g:aG H Z H' Z'):∀{vs:List V}{dss:List (List Ap)}{G:List Addr},iY K H Z vs dss G->(∀a∈G,∀o,H a=some o->H' a=some o)->iY K H' Z' vs dss G:=by
 intro vs dss G r
 induction r with
 |nil=>exact λ_=>.nil
 |cons e f r ih=>exact λk=>.cons (k _ lS _ e) (f.mono g) (ih λa h=>k a (lO _ h))
theorem Ow.mono{x:V}{m:M}(g:aG H Z H' Z')(h:Ow K H Z x m G)(k:∀a∈G,∀o,H a=some o->H' a=some o):Ow K H' Z' x m G:=by
 cases h with
 |v f=>exact .v (f.mono g)
 |lst e f=>exact .lst (k _ lS _ e) (f.mono g)
 |cz e f=>exact .cz (k _ lS _ e) (f.mono g)
 |dtp e n f=>exact .dtp (k _ lS _ e) n (f.mono g)
 |cD e f=>exact .cD (k _ lS _ e) (f.mono g λa h=>k a (lO _ h))
 |lls e f=>exact .lls (k _ lS _ e) (f.mono g λa h=>k a (lO _ h))
 |dre e eb f r=>exact .dre (k _ lS _ e) (k _ (lO _ lS) _ eb) (f.mono g) (r.mono g)
 |fn=>exact .fn
theorem bh.mono(g:aG H Z H' Z'):∀{σ:L2.St}{ρ:Ev}{F:List Addr},bh K H Z σ ρ F->(∀a∈F,∀o,H a=some o->H' a=some o)->bh K H' Z' σ ρ F:=by
 intro σ ρ F r
 induction r with
 |nil=>exact λ_=>.nil
 |non r ih=>exact λk=>.non (ih k)
 |som q r ih=>exact λk=>.som (q.mono g λa h=>k a (lL _ h)) (ih λa h=>k a (lR _ h))
theorem bh.get:∀{σ:L2.St}{ρ:Ev}{F:List Addr}{i:Nat}{m:M},bh K H Z σ ρ F->ρ[i]? = some (some m)->∃x G,σ[i]? = some (some x)/\Ow K H Z x m G/\∀a∈G,a∈F:=by
 intro σ ρ F i m r
 induction r generalizing i with
 |nil=>intro e; simp at e
 |non r ih=>
  intro e;cases i with
  |zero=>simp at e
  |succ i=>
   obtain⟨x,G,h1,h2,h3⟩:=ih (i:=i) (by simpa using e)
   exact⟨x,G,by simpa using h1,h2,h3⟩
 |som q r ih=>
  intro e;cases i with
  |zero=>simp at e; subst e; exact⟨_,_,rfl,q,λa h=>lL _ h⟩
  |succ i=>
   obtain⟨x,G,h1,h2,h3⟩:=ih (i:=i) (by simpa using e)
   exact⟨x,G,by simpa using h1,h2,λa h=>lR _ (h3 a h)⟩
theorem bh.take:∀{σ:L2.St}{ρ:Ev}{F:List Addr}{i:Nat}{m:M},bh K H Z σ ρ F->F.Nodup->ρ[i]? = some (some m) ->
  ∃x G F1,σ[i]? = some (some x)/\Ow K H Z x m G/\bh K H Z σ (ρ.set i none) F1/\(F1++G).Nodup/\∀a,a∈F1++G->a∈F:=by
 intro σ ρ F i m r
 induction r generalizing i with
 |nil=>intro _ e; simp at e
 |non r ih=>
  intro nd e;cases i with
  |zero=>simp at e
  |succ i=>
   obtain⟨x,G,F1,h1,h2,h3,h4,h5⟩:=ih (i:=i) nd (by simpa using e)
   exact⟨x,G,F1,by simpa using h1,h2,.non h3,h4,h5⟩
 |@som x0 m0 G0 σ ρ F q r ih=>
  intro nd e;have h:=E2.mp nd;cases i with
  |zero=>
   simp at e; subst e;exact⟨_,G0,F,rfl,q,.non r,E2.mpr ⟨h.2.1,h.1,λa x b y e=>h.2.2 b y a x e.symm⟩,λa h=>by
    rcases lM h with h | h
    ·exact lR _ h
    ·exact lL _ h⟩
  |succ i=>
   obtain⟨x,G,F1,h1,h2,h3,h4,h5⟩:=ih (i:=i) h.2.1 (by simpa using e)
   refine⟨x,G,G0++F1,by simpa using h1,h2,.som q h3,?_,λa z=>?_⟩
   ·rw[EU]
    exact E2.mpr ⟨h.1,h4,λa x b y e=>h.2.2 a x b (h5 b y) e⟩
   ·rw[EU] at z
    rcases lM z with z | z
    ·exact lL _ z
    ·exact lR _ (h5 a z)
theorem bh.drop:∀{σ:L2.St}{ρ:Ev}{F:List Addr}(i:Nat),bh K H Z σ ρ F->F.Nodup->∃F1,bh K H Z σ (ρ.set i none) F1/\F1.Nodup/\∀a∈F1,a∈F:=by
 intro σ ρ F i r
 induction r generalizing i with
 |nil=>exact λnd=>⟨_,.nil,nd,λ_ h=>h⟩
 |non r ih=>
  intro nd;cases i with
  |zero=>exact⟨_,.non r,nd,λ_ h=>h⟩
  |succ i=>
   obtain⟨F1,h1,h2,h3⟩:=ih i nd;exact⟨F1,.non h1,h2,h3⟩
 |@som x0 m0 G0 σ ρ F q r ih=>
  intro nd;have h:=E2.mp nd;cases i with
  |zero=>exact⟨_,.non r,h.2.1,λ_ h=>lR _ h⟩
  |succ i=>
   obtain⟨F1,h1,h2,h3⟩:=ih i h.2.1;refine⟨G0++F1,.som q h1,E2.mpr ⟨h.1,h2,λa x b y e=>h.2.2 a x b (h3 b y) e⟩,λa z=>?_⟩
   rcases lM z with z | z
   ·exact lL _ z
   ·exact lR _ (h3 a z)
theorem bh.put:∀{σ:L2.St}{ρ:Ev}{F:List Addr}{i:Nat}{x:V}{m:M}{G:List Addr},bh K H Z σ ρ F->Ow K H Z x m G->(F++G).Nodup->ρ[i]? = some none ->
  ∃F1,bh K H Z (σ.set i (some x)) (ρ.set i (some m)) F1/\F1.Nodup/\∀a∈F1,a∈F++G:=by
 intro σ ρ F i x m G r h
 induction r generalizing i with
 |nil=>intro _ e; simp at e
 |@non _ σ ρ F r ih=>
  intro nd e;cases i with
  |zero=>
   have h':=E2.mp nd;exact⟨G++F,.som h r,E2.mpr ⟨h'.2.1,h'.1,λa x b y e=>h'.2.2 b y a x e.symm⟩,λa h=>by
    rcases lM h with h | h
    ·exact lR _ h
    ·exact lL _ h⟩
  |succ i=>
   obtain⟨F1,h1,h2,h3⟩:=ih (i:=i) nd (by simpa using e)
   exact⟨F1,.non h1,h2,h3⟩
 |@som x0 m0 G0 σ ρ F q r ih=>
  intro nd e;cases i with
  |zero=>simp at e
  |succ i=>
   rw[EU] at nd;have h':=E2.mp nd;obtain⟨F1,h1,h2,h3⟩:=ih (i:=i) h'.2.1 (by simpa using e)
   refine⟨G0++F1,.som q h1,E2.mpr ⟨h'.1,h2,λa x b y e=>h'.2.2 a x b (h3 b y) e⟩,λa z=>?_⟩
   rw[EU];rcases lM z with z | z
   ·exact lL _ z
   ·exact lR _ (h3 a z)
end
inductive cW where
 |t (m:M)
 |p (i:Nat)
 |q (i:Nat) (k:Key)
noncomputable def cN{α:Type}(kvs:List (Key×α))(k:Key):Option α:=(kvs.find? λkv=>decide (kv.1=k)).map (·.2)
noncomputable def cE(ρ:Ev)(i:Nat):Option M:=match ρ[i]? with
 |some (some m)=>some m
 |_=>none
theorem aH{ρ:Ev}{i:Nat}{m:M}:cE ρ i=some m↔ρ[i]? = some (some m):=by
 unfold cE
 split
 ·next h=>rw[h]; simp
 ·next h=>
  exact⟨λe=>(nomatch e),λe=>(h m e).elim⟩
noncomputable def jl(ρ:Ev):cW->Option M
 |.t m=>some m
 |.p i=>cE ρ i
 |.q _ _=>none
noncomputable def peek(ρ:Ev):cW->Option M
 |.t m=>some m
 |.p i=>cE ρ i
 |.q i k=>match cE ρ i with
  |some (.cD kvs)=>(cN kvs k).map .lst
  |_=>none
noncomputable def iN(ρ:Ev):List cW->Option (List M)
 |[]=>some []
 |o::os=>(peek ρ o).bind λm=>(iN ρ os).bind λms=>some (m::ms)
theorem dQ{ρ:Ev}{o:cW}{m:M}(h:jl ρ o=some m):peek ρ o=some m:=by
 cases o with
 |t _=>exact h
 |p _=>exact h
 |q _ _=>cases h
inductive lH(K:AC)(H:Hp)(Z:Zs)(σ:L2.St):V->cW->List Addr->Prop
 |t {x:V} {m:M} {G:List Addr}:Ow K H Z x m G->lH K H Z σ x (.t m) G
 |p {x:V} {i:Nat}:σ[i]? = some (some x)->lH K H Z σ x (.p i) []
 |q {x:V} {i:Nat} {k:Key} {a:Addr} {kxs:List (Key×V)}:σ[i]? = some (some (.ref a))->H a=some (.dK kxs)->fP kxs k=some x->lH K H Z σ x (.q i k) []
inductive jD(K:AC)(H:Hp)(Z:Zs)(σ:L2.St):List V->List cW->List Addr->Prop
 |nil:jD K H Z σ [] [] []
 |cons {x:V} {o:cW} {G:List Addr} {xs:List V} {os:List cW} {G':List Addr}:lH K H Z σ x o G->jD K H Z σ xs os G'->jD K H Z σ (x::xs) (o::os) (G++G')
def Ro(K:AC)(H:Hp)(Z:Zs)(x:V)(m:M):Prop:=∃G,Ow K H Z x m G
def CV(K:AC)(H:Hp)(Z:Zs):List V->List M->Prop:=Gm (Ro K H Z)
section
variable{K:AC}{H H' H1 H2 H3:Hp}{Z Z' Z1 Z2 Z3:Zs}{F F' F1 F2 G:List Addr}{σ:L2.St}{ρ:Ev}
theorem iC.get:∀{kxs:List (Key×V)}{kvs:List (Key×List Ap)}{G:List Addr}{k:Key}{ds:List Ap},iC K H Z kxs kvs G->cN kvs k=some ds->∃b xs,fP kxs k=some (.ref b)/\H b=some (.lst xs)/\bB K H Z xs ds/\b∈G:=by
 intro kxs kvs G k ds h
 induction h with
 |nil=>intro e; cases e
 |@cons k' b xs ds' kxs kvs G h f r ih=>
  intro e;unfold cN at e;rw[Fe] at e;unfold fP;rw[Fe]
  by_cases hk:k'=k
  ·simp only[hk,decide_true,HQ] at e ⊢
   cases e;exact⟨b,_,rfl,h,f,lS⟩
  ·simp only[hk,decide_false] at e ⊢
   obtain⟨b',xs,h1,h2,h3,h4⟩:=ih e;exact⟨b',xs,h1,h2,h3,lO _ h4⟩
theorem lH.peek{x:V}{o:cW}{m:M}(S:bh K H Z σ ρ F)(h:lH K H Z σ x o G)(e:VL.peek ρ o=some m):Ro K H Z x m:=by
 cases h with
 |t q=>cases e; exact⟨_,q⟩
 |p q=>
  obtain⟨x',G',h1,h2,_⟩:=S.get (aH.mp e);rw[q] at h1; cases h1;exact⟨_,h2⟩
 |q h1 h2 h3=>
  rename_i i k a kxs
  have e:(match cE ρ i with
   |some (.cD kvs)=>(cN kvs k).map M.lst
   |_=>none)=some m:=e
  split at e
  ·next kvs hk=>
   obtain⟨x',G',q1,q2,_⟩:=S.get (aH.mp hk);rw[h1] at q1; cases q1;obtain⟨ds,e1,e2⟩:=Ff.mp e;subst e2;cases q2 with
   |cD q3 q4=>
    rw[h2] at q3; cases q3;obtain⟨b,xs,z1,z2,z3,_⟩:=q4.get e1;rw[h3] at z1; cases z1;exact⟨_,.lst z2 z3⟩
  ·cases e
theorem jD.peek:∀{xs:List V}{os:List cW}{ms:List M}{G:List Addr},bh K H Z σ ρ F->jD K H Z σ xs os G->iN ρ os=some ms->CV K H Z xs ms:=by
 intro xs os ms G S h
 induction h generalizing ms with
 |nil=>intro e; cases e; exact .nil
 |cons h r ih=>
  intro e;obtain⟨m,h1,e⟩:=oB e;obtain⟨ms,h2,e⟩:=oB e;cases e;exact .cons (h.peek S h1) (ih h2)
theorem lH.al{x:V}{o:cW}(h:lH K H Z σ x o G):∀a∈G,H a≠none:=by
 cases h with
 |t q=>exact q.al
 |p _=>intro a h; simp at h
 |q _ _ _=>intro a h; simp at h
noncomputable def qY:cW->Bool
 |.q _ _=>false
 |_=>true
theorem dR{o:cW}{m:M}(h:jl ρ o=some m):qY o=true:=by
 cases o with
 |t _=>rfl
 |p _=>rfl
 |q _ _=>cases h
theorem lH.mono{x:V}{o:cW}(h:lH K H Z σ x o G)(hs:qY o=true)(g:aG H Z H' Z')(k:∀a∈G,∀o,H a=some o->H' a=some o):lH K H' Z' σ x o G:=by
 cases h with
 |t q=>exact .t (q.mono g k)
 |p q=>exact .p q
 |q _ _ _=>cases hs
theorem aN.news(n:aN H Z [] H' Z' G)(w:Wf H Z F)(al:∀a∈F,H a≠none):aN H Z F H' Z' (F++G):=by
 have h:=n.frame (F:=[]) (G:=F) (by rw[FJ]; exact w) al
 rw[FJ] at h;exact h.swap
theorem aN.v7(n:aN H Z [] H' Z' G):aG H Z H' Z':=⟨n.tups,λa o _ e=>n.kp EE e,n.zs⟩
theorem bh.news(S:bh K H Z σ ρ F)(n:aN H Z [] H' Z' G)(w:Wf H Z F):bh K H' Z' σ ρ F:=S.mono (n.v7) λa h o e=>n.keep a o (EE) (w.dz a h) e
theorem aN.through{F2:List Addr}(f1:aN H Z F H1 Z1 (F1++G))(f2:aN H1 Z1 F1 H2 Z2 F2)(al:∀a∈G,H1 a≠none):aN H Z F H2 Z2 (F2++G):=f1.trans (f2.frame f1.wf al)
theorem aN.p5{F2:List Addr}(f1:aN H Z F H1 Z1 (F1++G))(f2:aN H1 Z1 F1 H2 Z2 F2):∀a∈G,∀o,H1 a=some o->H2 a=some o:=λa h o e=>
 f2.keep a o (λz=>(E2.mp f1.nd).2.2 a z a h rfl) (f1.dz a (lR _ h)) e
theorem aN.assoc'{A B C:List Addr}(f:aN H Z F H' Z' (A++(B++C))):aN H Z F H' Z' ((A++B)++C):=by rw[EU]; exact f
theorem aN.BS{A B C:List Addr}(f:aN H Z F H' Z' ((A++B)++C)):aN H Z F H' Z' (A++(C++B)):=f.sub (by
  have h:=E2.mp f.nd;have h':=E2.mp h.1;refine E2.mpr ⟨h'.1,E2.mpr ⟨h.2.1,h'.2.1,λa x b y e=>h.2.2 b (lR _ y) a x e.symm⟩,λa x b y e=>?_⟩
  rcases lM y with y | y
  ·exact h.2.2 a (lL _ x) b y e
  ·exact h'.2.2 a x b y e) λa h=>by
  rcases lM h with h | h
  ·exact lL _ (lL _ h)
  rcases lM h with h | h
  ·exact lR _ h
  ·exact lL _ (lR _ h)
end
abbrev FE:=Ev->Option (cW×Ev)
abbrev FA:=Ev->Option (List cW×Ev)
abbrev FT:=Ev->Option (Bool×Ev)
inductive vE(K:AC)(f:FE)(σ:L2.St)(H:Hp)(Q:VK):Prop
 |mk (Z:Zs) (ρ:Ev) (F:List Addr) (o:cW) (ρ':Ev):bh K H Z σ ρ F->Wf H Z F->f ρ=some (o,ρ')->(∀x H' Z' F' G,bh K H' Z' σ ρ' F'->lH K H' Z' σ x o G->aN H Z F H' Z' (F'++G)->Q x H')->vE K f σ H Q
inductive vA(K:AC)(f:FA)(σ:L2.St)(H:Hp)(Q:List V->Hp->Prop):Prop
 |mk (Z:Zs) (ρ:Ev) (F:List Addr) (os:List cW) (ρ':Ev):bh K H Z σ ρ F->Wf H Z F->f ρ=some (os,ρ')->(∀xs H' Z' F' G,bh K H' Z' σ ρ' F'->jD K H' Z' σ xs os G->aN H Z F H' Z' (F'++G)->Q xs H')->vA K f σ H Q
inductive vT(K:AC)(f:FT)(σ:L2.St)(H:Hp)(Q:Bool->Hp->Prop):Prop
 |mk (Z:Zs) (ρ:Ev) (F:List Addr) (b:Bool) (ρ':Ev):bh K H Z σ ρ F->Wf H Z F->f ρ=some (b,ρ')->(∀H' Z' F',bh K H' Z' σ ρ' F'->aN H Z F H' Z' F'->Q b H')->vT K f σ H Q
section
variable{X:Cx}{e:Expr}
theorem bR{t t':TE}(h:PE X e t)(i:∀σ H Q,t' σ H Q->t σ H Q):PE X e t':=λpins s σ H Q I q=>h pins s σ H Q I (i σ H Q q)
theorem nY{t t':TT}(h:PT X e t)(i:∀σ H Q,t' σ H Q->t σ H Q):PT X e t':=λpins s σ H Q I q=>h pins s σ H Q I (i σ H Q q)
theorem v8{t t':TT}(h:PW X e t)(i:∀σ H Q,t' σ H Q->t σ H Q):PW X e t':=λwh pins s σ H Q I q=>h wh pins s σ H Q I (i σ H Q q)
theorem qZ{es:List Expr}{t t':TA}(h:PA X es t)(i:∀σ H Q,t' σ H Q->t σ H Q):PA X es t':=λpos pins s σ H Q I q=>h pos pins s σ H Q I (i σ H Q q)
theorem q9{t u:TE}(h:PE X e t)(h':PE X e u):PE X e (λσ H Q=>t σ H Q\/u σ H Q):=λpins s σ H Q I q=>q.elim (h pins s σ H Q I) (h' pins s σ H Q I)
theorem nZ{t u:TT}(h:PT X e t)(h':PT X e u):PT X e (λσ H Q=>t σ H Q\/u σ H Q):=λpins s σ H Q I q=>q.elim (h pins s σ H Q I) (h' pins s σ H Q I)
abbrev VE(X:Cx)(e:Expr)(f:FE):Prop:=PE X e (vE X.K f)
abbrev VA(X:Cx)(es:List Expr)(f:FA):Prop:=PA X es (vA X.K f)
abbrev VT(X:Cx)(e:Expr)(f:FT):Prop:=PT X e (vT X.K f)
abbrev VW(X:Cx)(e:Expr)(f:FT):Prop:=PW X e (vT X.K f)
noncomputable def aa(i:Nat):FE:=λρ=>match cE ρ i with
 |some (.v d)=>some (.t (.v d),ρ)
 |some _=>some (.p i,ρ)
 |none=>none
theorem yV{i:Nat}(h:PE X e (dZ i)):VE X e (aa i):=bR h λσ H Q hq=>by
 obtain⟨Z,ρ,F,o,ρ',S,w,e,q⟩:=hq;unfold aa at e;cases hm:cE ρ i with
 |none=>rw[hm] at e; cases e
 |some m=>
  obtain⟨x,G,h1,h2,h3⟩:=S.get (aH.mp hm);refine⟨x,h1,?_⟩;cases m with
  |v d=>
   rw[hm] at e; cases e;cases h2 with
   |v f=>exact q x H Z F [] S (.t (.v f)) (aN.refl w).nil
  |_=>rw[hm] at e; cases e; exact q x H Z F [] S (.p h1) (aN.refl w).nil
theorem vv(i:Nat){x:Str}{pos:Pos}(hN:X.N[i]? = some x:=by rfl)(hv:A9 X.env.scope x:=by first | exact EO rfl | exact G6 (EO rfl) | exact G6 (G6 rfl))(hd:(x == ("__debug__" : Str))=false:=by decide)
  (hcd:(x == ("__classdict__" : Str))=false:=by decide):VE X (.Name x pos) (aa i):=yV (qH hN hv hd hcd)
noncomputable def vC(d:Ap):FE:=λρ=>some (.t (.v d),ρ)
theorem ve_c{v:V}{d:Ap}(h:PE X e (tC v))(hd:∀H Z,Fz X.K H Z v d):VE X e (vC d):=bR h λσ H Q hq=>by
 obtain⟨Z,ρ,F,o,ρ',S,w,e,q⟩:=hq;cases e;exact q v H Z F [] S (.t (.v (hd H Z))) (aN.refl w).nil
theorem BU{i j pos}:VE X (.Constant (.int i) j pos) (vC (.int i)):=ve_c Ba λ_ _=>.int i
theorem ve_bl{i j pos}:VE X (.Constant (.bool i) j pos) (vC (.bool i)):=ve_c pe_bl λ_ _=>.bl i
theorem BV{j pos}:VE X (.Constant .none j pos) (vC .none):=ve_c Bb λ_ _=>.non
def Dp(K:AC)(r:R2)(g:M->M->Option M):Prop:=∀H Z x y m1 m2 m Q,(∀a,Z a->H a≠none)->Ro K H Z x m1->Ro K H Z y m2->g m1 m2=some m->(∀z H' Z' G,Ow K H' Z' z m G->aN H Z [] H' Z' G->Q z H')->r x y H Q
noncomputable def vB(g:M->M->Option M)(fa fb:FE):FE:=λρ=>(fa ρ).bind λp=>(fb p.2).bind λq=>(jl q.2 p.1).bind λm1=>(peek q.2 q.1).bind λm2=>(g m1 m2).bind λm=>some (.t m,q.2)
theorem two{fa fb:FE}{g:M->M->Option M}{r:R2}{σ:L2.St}{H:Hp}{Q:VK}(hr:Dp X.K r g)(hq:vE X.K (vB g fa fb) σ H Q):Au r (vE X.K fa) (vE X.K fb) σ H Q:=by
 obtain⟨Z,ρ,F,o,ρ',S,w,e,q⟩:=hq;obtain⟨⟨o1,ρ1⟩,e1,e⟩:=oB e;obtain⟨⟨o2,ρ2⟩,e2,e⟩:=oB e;obtain⟨m1,e3,e⟩:=oB e;obtain⟨m2,e4,e⟩:=oB e;obtain⟨m,e5,e⟩:=oB e;cases e;refine⟨Z,ρ,F,o1,ρ1,S,w,e1,λx H1 Z1 F1 G1 S1 O1 f1=>⟨Z1,ρ1,F1,o2,ρ2,S1,f1.left.wf,e2,λy H2 Z2 F2 G2 S2 O2 f2=>?_⟩⟩
 have O1':=O1.mono (dR e3) (f2.grow f1.left.wf) (f1.p5 f2);refine hr H2 Z2 x y m1 m2 m Q f2.za (O1'.peek S2 (dQ e3)) (O2.peek S2 e4) e5 λz H3 Z3 G h3 n=>?_
 exact q z H3 Z3 F2 G (S2.news n f2.left.wf) (.t h3) ((f1.left.trans f2.left).trans (n.news f2.left.wf S2.al))
theorem ve_op{op:Operator}{a b:Expr}{pos:Pos}{r:R2}{g:M->M->Option M}{fa fb:FE}(hr:Dp X.K r g)(ho:dY X (Fq op) r)(ha:VE X a fa)(hb:VE X b fb):VE X (.BinOp a op b pos) (vB g fa fb):=bR (pe_op ho ha hb) λ_ _ _=>two hr
theorem BW{op:CmpOp}{a b:Expr}{pos:Pos}{r:R2}{g:M->M->Option M}{fa fb:FE}(hr:Dp X.K r g)(ho:dY X (EW op) r)(ha:VE X a fa)(hb:VE X b fb)(hm:FM op b=false):VE X (.Compare a [op] [b] pos) (vB g fa fb):=bR (nE ho ha hb hm) λ_ _ _=>two hr
noncomputable def vU(g:M->Option M)(fa:FE):FE:=λρ=>(fa ρ).bind λp=>(peek p.2 p.1).bind λm1=>(g m1).bind λm=>some (.t m,p.2)
noncomputable def fC:FA:=λρ=>some ([],ρ)
noncomputable def af(fa:FE):FA:=λρ=>(fa ρ).bind λp=>some ([p.1],p.2)
noncomputable def ah(fa:FE)(fr:FA):FA:=λρ=>(fa ρ).bind λp=>(fr p.2).bind λq=>if qY p.1=true then some (p.1::q.1,q.2) else none
theorem BX:VA X [] fC:=qZ nF λσ H Q hq=>by
 obtain⟨Z,ρ,F,o,ρ',S,w,e,q⟩:=hq;cases e;exact q [] H Z F [] S .nil (aN.refl w).nil
theorem BY{a:Expr}{fa:FE}(ha:VE X a fa)(hs:E6 [a] X.env=[(false,eval a X.env)]:=by rfl):VA X [a] (af fa):=qZ (jd ha nF hs) λσ H Q hq=>by
 obtain⟨Z,ρ,F,o,ρ',S,w,e,q⟩:=hq;obtain⟨⟨o1,ρ1⟩,e1,e⟩:=oB e;cases e;refine⟨Z,ρ,F,o1,ρ1,S,w,e1,λx H1 Z1 F1 G1 S1 O1 f1=>?_⟩
 exact q [x] H1 Z1 F1 (G1++[]) S1 (.cons O1 .nil) (by rw[E1]; exact f1)
theorem yW{a:Expr}{as:List Expr}{fa:FE}{fr:FA}(ha:VE X a fa)(hr:VA X as fr)(hs:E6 (a::as) X.env=(false,eval a X.env)::E6 as X.env:=by rfl):VA X (a::as) (ah fa fr):=qZ (jd ha hr hs) λσ H Q hq=>by
 obtain⟨Z,ρ,F,o,ρ',S,w,e,q⟩:=hq;obtain⟨⟨o1,ρ1⟩,e1,e⟩:=oB e;obtain⟨⟨os,ρ2⟩,e2,e⟩:=oB e
 by_cases hs:qY o1=true
 ·rw[if_pos hs] at e
  cases e;refine⟨Z,ρ,F,o1,ρ1,S,w,e1,λx H1 Z1 F1 G1 S1 O1 f1=>⟨Z1,ρ1,F1,os,ρ2,S1,f1.left.wf,e2,λxs H2 Z2 F2 G2 S2 O2 f2=>?_⟩⟩
  exact q (x::xs) H2 Z2 F2 (G1++G2) S2 (.cons (O1.mono hs (f2.grow f1.left.wf) (f1.p5 f2)) O2) (f1.through f2 O1.al).BS
 ·rw[if_neg hs] at e; cases e
def Dq(K:AC)(r:List V->Hp->VK->Prop)(g:List M->Option M):Prop:=∀H Z xs ms m Q,(∀a,Z a->H a≠none)->CV K H Z xs ms->g ms=some m->(∀z H' Z' G,Ow K H' Z' z m G->aN H Z [] H' Z' G->Q z H')->r xs H Q
noncomputable def bF(g:List M->Option M)(fa:FA):FE:=λρ=>(fa ρ).bind λp=>(iN p.2 p.1).bind λms=>(g ms).bind λm=>some (.t m,p.2)
theorem many{fa:FA}{g:List M->Option M}{r:List V->Hp->VK->Prop}{σ:L2.St}{H:Hp}{Q:VK}(hr:Dq X.K r g)(hq:vE X.K (bF g fa) σ H Q):DL r (vA X.K fa) σ H Q:=by
 obtain⟨Z,ρ,F,o,ρ',S,w,e,q⟩:=hq;obtain⟨⟨os,ρ1⟩,e1,e⟩:=oB e;obtain⟨ms,e3,e⟩:=oB e;obtain⟨m,e5,e⟩:=oB e;cases e;refine⟨Z,ρ,F,os,ρ1,S,w,e1,λxs H1 Z1 F1 G1 S1 O1 f1=>?_⟩
 refine hr H1 Z1 xs ms m Q f1.za (O1.peek S1 e3) e5 λz H3 Z3 G h3 n=>?_
 exact q z H3 Z3 F1 G (S1.news n f1.left.wf) (.t h3) (f1.left.trans (n.news f1.left.wf S1.al))
noncomputable def DN:M->Option Bool
 |.v (.bool b)=>some b
 |_=>none
noncomputable def aW(f:FE):FT:=λρ=>(f ρ).bind λp=>(peek p.2 p.1).bind λm=>(DN m).bind λb=>some (b,p.2)
theorem DO{f:FE}{σ:L2.St}{H:Hp}{Q:Bool->Hp->Prop}(hq:vT X.K (aW f) σ H Q):vE X.K f σ H λx H1=>∃c,x=.bl c/\Q c H1:=by
 obtain⟨Z,ρ,F,b,ρ',S,w,e,q⟩:=hq;obtain⟨⟨o1,ρ1⟩,e1,e⟩:=oB e;obtain⟨m,e2,e⟩:=oB e;obtain⟨b',e3,e⟩:=oB e;cases e;refine⟨Z,ρ,F,o1,ρ1,S,w,e1,λx H1 Z1 F1 G1 S1 O1 f1=>?_⟩
 obtain⟨G,h⟩:=O1.peek S1 e2;cases h with
 |v f=>
  cases f with
  |bl c=>cases e3; exact⟨_,rfl,q H1 Z1 F1 S1 f1.left⟩
  |_=>cases e3
 |_=>cases e3
theorem BZ{op:CmpOp}{a b:Expr}{pos:Pos}{r:R2}{g:M->M->Option M}{fa fb:FE}(hr:Dp X.K r g)(ho:dY X (EW op) r)(ha:VE X a fa)(hb:VE X b fb)(hm:FM op b=false):VT X (.Compare a [op] [b] pos) (aW (vB g fa fb)):=by
 refine nY (jc ho ha hb hm) λσ H Q hq=>?_
 exact two hr (DO hq)
noncomputable def gI(f g:FT):FT:=λρ=>(f ρ).bind λp=>if p.1=true then g p.2 else some (false,p.2)
noncomputable def AD(f g:FT):FT:=λρ=>(f ρ).bind λp=>if p.1=true then some (true,p.2) else g p.2
theorem and_imp{f g:FT}{σ:L2.St}{H:Hp}{Q:Bool->Hp->Prop}(hq:vT X.K (gI f g) σ H Q):tAnd (vT X.K f) (vT X.K g) σ H Q:=by
 obtain⟨Z,ρ,F,b,ρ',S,w,e,q⟩:=hq;obtain⟨⟨o1,ρ1⟩,e1,e⟩:=oB e;refine⟨Z,ρ,F,o1,ρ1,S,w,e1,λH1 Z1 F1 S1 f1=>?_⟩
 cases o1 with
 |true=>exact⟨Z1,ρ1,F1,b,ρ',S1,f1.wf,e,λH2 Z2 F2 S2 f2=>q H2 Z2 F2 S2 (f1.trans f2)⟩
 |false=>cases e; exact q H1 Z1 F1 S1 f1
theorem or_imp{f g:FT}{σ:L2.St}{H:Hp}{Q:Bool->Hp->Prop}(hq:vT X.K (AD f g) σ H Q):DV (vT X.K f) (vT X.K g) σ H Q:=by
 obtain⟨Z,ρ,F,b,ρ',S,w,e,q⟩:=hq;obtain⟨⟨o1,ρ1⟩,e1,e⟩:=oB e;refine⟨Z,ρ,F,o1,ρ1,S,w,e1,λH1 Z1 F1 S1 f1=>?_⟩
 cases o1 with
 |false=>exact⟨Z1,ρ1,F1,b,ρ',S1,f1.wf,e,λH2 Z2 F2 S2 f2=>q H2 Z2 F2 S2 (f1.trans f2)⟩
 |true=>cases e; exact q H1 Z1 F1 S1 f1
theorem yX{a:Expr}{pos:Pos}{f:FT}(h:VT X a f):VW X (.BoolOp .And [a] pos) f:=yi h
theorem B0{a:Expr}{pos:Pos}{f:FT}(h:VT X a f):VW X (.BoolOp .Or [a] pos) f:=Bd h
theorem B3{a b:Expr}{rest:List Expr}{pos:Pos}{f g:FT}(h:VT X a f)(h':VW X (.BoolOp .And (b::rest) pos) g):VW X (.BoolOp .And (a::b::rest) pos) (gI f g):=v8 (Be h h') λ_ _ _=>and_imp
theorem vw_or{a b:Expr}{rest:List Expr}{pos:Pos}{f g:FT}(h:VT X a f)(h':VW X (.BoolOp .Or (b::rest) pos) g):VW X (.BoolOp .Or (a::b::rest) pos) (AD f g):=v8 (pw_or h h') λ_ _ _=>or_imp
noncomputable def AE(c:FT)(fa fb:FE):FE:=λρ=>(c ρ).bind λp=>if p.1=true then fa p.2 else fb p.2
theorem ve_if{c a b:Expr}{pos:Pos}{fc:FT}{fa fb:FE}(hc:VT X c fc)(ha:VE X a fa)(hb:VE X b fb):VE X (.IfExp c a b pos) (AE fc fa fb):=bR (uS hc ha hb) λσ H Q hq=>by
 obtain⟨Z,ρ,F,o,ρ',S,w,e,q⟩:=hq;obtain⟨⟨b1,ρ1⟩,e1,e⟩:=oB e;refine⟨Z,ρ,F,b1,ρ1,S,w,e1,λH1 Z1 F1 S1 f1=>?_⟩
 cases b1 with
 |true=>exact iteT ⟨Z1,ρ1,F1,o,ρ',S1,f1.wf,e,λx H2 Z2 F2 G S2 O f2=>q x H2 Z2 F2 G S2 O (f1.trans f2)⟩
 |false=>exact iteF ⟨Z1,ρ1,F1,o,ρ',S1,f1.wf,e,λx H2 Z2 F2 G S2 O f2=>q x H2 Z2 F2 G S2 O (f1.trans f2)⟩
end
noncomputable def lim:Nat:=1000000
theorem gQ{n:Nat}(h:n<=lim):n<=E4:=FH h (by decide)
theorem gR{n:Nat}(h:n<=lim):n<E4:=LF h (by decide)
inductive rM(K:AC)(g:M->M->Option M)(x:V)(y:V)(H:Hp)(Q:VK):Prop
 |mk (Z:Zs) (m1 m2 m:M):(∀a,Z a->H a≠none)->Ro K H Z x m1->Ro K H Z y m2->g m1 m2=some m->(∀z H' Z' G,Ow K H' Z' z m G->aN H Z [] H' Z' G->Q z H')->rM K g x y H Q
theorem rM_v{K:AC}{g:M->M->Option M}:Dp K (rM K g) g:=λH Z x y m1 m2 m Q za h1 h2 e q=>⟨Z,m1,m2,m,za,h1,h2,e,q⟩
inductive lY(K:AC)(g:List M->Option M)(xs:List V)(H:Hp)(Q:VK):Prop
 |mk (Z:Zs) (ms:List M) (m:M):(∀a,Z a->H a≠none)->CV K H Z xs ms->g ms=some m->(∀z H' Z' G,Ow K H' Z' z m G->aN H Z [] H' Z' G->Q z H')->lY K g xs H Q
theorem AF{K:AC}{g:List M->Option M}:Dq K (lY K g) g:=λH Z xs ms m Q za h1 e q=>⟨Z,ms,m,za,h1,e,q⟩
section
variable{K:AC}{H H':Hp}{Z:Zs}{x:V}{Q:VK}
theorem Ro.fz{d:Ap}(h:Ro K H Z x (.v d)):Fz K H Z x d:=by
 obtain⟨G,h⟩:=h;cases h with
 |v f=>exact f
theorem Ro.int{i:Int}(h:Ro K H Z x (.v (.int i))):x=.int i:=h.fz.int_inv
theorem Ro.bl{i:Bool}(h:Ro K H Z x (.v (.bool i))):x=.bl i:=h.fz.qX
theorem Ro.str{i:Str}(h:Ro K H Z x (.v (.str i))):x=.str i:=h.fz.str_inv
theorem Ro.lst{ds:List Ap}(h:Ro K H Z x (.lst ds)):∃a xs,x=.ref a/\H a=some (.lst xs)/\bB K H Z xs ds:=by
 obtain⟨G,h⟩:=h;cases h with
 |lst e f=>exact⟨_,_,rfl,e,f⟩
theorem Ro.cz{ds:List (Key×Ap)}(h:Ro K H Z x (.cz ds)):∃a xs,x=.ref a/\H a=some (.dK xs)/\fU K H Z xs ds:=by
 obtain⟨G,h⟩:=h;cases h with
 |cz e f=>exact⟨_,_,rfl,e,f⟩
theorem Ro.cD{ds:List (Key×List Ap)}(h:Ro K H Z x (.cD ds)):∃a xs G,x=.ref a/\H a=some (.dK xs)/\iC K H Z xs ds G:=by
 obtain⟨G,h⟩:=h;cases h with
 |cD e f=>exact⟨_,_,_,rfl,e,f⟩
theorem Ro.tup{ds:List Ap}(h:Ro K H Z x (.v (.tuple ds))):∃a xs,x=.ref a/\dJ K H a xs/\bB K H Z xs ds:=h.fz.gu
noncomputable def jE:M->Option (List Ap)
 |.lst ds=>some ds
 |.v (.list ds)=>some ds
 |_=>none
noncomputable def v9:M->Option (List Ap)
 |.v (.tuple ds)=>some ds
 |_=>none
noncomputable def seq:M->Option (List Ap)
 |.lst ds=>some ds
 |.v (.list ds)=>some ds
 |.v (.tuple ds)=>some ds
 |_=>none
theorem Ro.jE{m:M}{ds:List Ap}(h:Ro K H Z x m)(e:VL.jE m=some ds):∃a xs,x=.ref a/\fL K H a xs/\bB K H Z xs ds:=by
 unfold VL.jE at e
 split at e
 ·cases e
  obtain⟨a,xs,e1,e2,e3⟩:=h.lst;exact⟨a,xs,e1,.of e2,e3⟩
 ·cases e
  obtain⟨a,xs,e1,e2,e3⟩:=h.fz.lst_inv;exact⟨a,xs,e1,e2,e3⟩
 ·cases e
theorem Ro.v9{m:M}{ds:List Ap}(h:Ro K H Z x m)(e:VL.v9 m=some ds):∃a xs,x=.ref a/\dJ K H a xs/\bB K H Z xs ds:=by
 unfold VL.v9 at e
 split at e
 ·cases e
  exact h.tup
 ·cases e
theorem Ro.seq{m:M}{ds:List Ap}(h:Ro K H Z x m)(e:VL.seq m=some ds):∃a xs,x=.ref a/\(fL K H a xs\/dJ K H a xs)/\bB K H Z xs ds:=by
 unfold VL.seq at e
 split at e
 ·cases e
  obtain⟨a,xs,e1,e2,e3⟩:=h.lst;exact⟨a,xs,e1,.inl (.of e2),e3⟩
 ·cases e
  obtain⟨a,xs,e1,e2,e3⟩:=h.fz.lst_inv;exact⟨a,xs,e1,.inl e2,e3⟩
 ·cases e
  obtain⟨a,xs,e1,e2,e3⟩:=h.tup;exact⟨a,xs,e1,.inr e2,e3⟩
 ·cases e
theorem aN.same(s:eU H H')(za:∀a,Z a->H a≠none):aN H Z [] H' Z []:=⟨λa o _ e=>.inl (s a o e),s.tups,λ_ h=>h,λ_ h=>.inl h,λ_ h=>(nomatch h),EX,λ_ h=>(nomatch h),λa z e=>za a z (s.free e)⟩
theorem aN.ud{p:Addr}{o:HO}(hp:H p=none)(za:∀a,Z a->H a≠none):aN H Z [] (upd H p o) Z [p]:=by
 have s:=dB hp o;exact⟨λa o _ e=>.inl (s a o e),s.tups,λ_ h=>h,λ_ h=>.inl h,λa h=>.inr (by rw[Do] at h; subst h; exact hp),EG.mpr ⟨EE,EX⟩,λa h z=>by rw[Do] at h; subst h; exact za _ z hp,λa z e=>za a z (s.free e)⟩
theorem aG.same(s:eU H H'):aG H Z H' Z:=⟨s.tups,λa o _ e=>.inl (s a o e),λ_ h=>h⟩
theorem cg{z:V}{d:Ap}(q:∀z H' Z' G,Ow K H' Z' z (.v d) G->aN H Z [] H' Z' G->Q z H')(za:∀a,Z a->H a≠none)(h:Fz K H Z z d):Q z H:=q z H Z [] (.v h) (aN.same (eU.refl H) za)
theorem endS{z:V}{d:Ap}(q:∀z H' Z' G,Ow K H' Z' z (.v d) G->aN H Z [] H' Z' G->Q z H')(za:∀a,Z a->H a≠none)(s:eU H H')(h:Fz K H' Z z d):Q z H':=q z H' Z [] (.v h) (aN.same s za)
theorem endT{p:Addr}{xs:List V}{ds:List Ap}(q:∀z H' Z' G,Ow K H' Z' z (.v (.tuple ds)) G->aN H Z [] H' Z' G->Q z H')(za:∀a,Z a->H a≠none)(hp:H p=none)(h:bB K H Z xs ds):Q (.ref p) (upd H p (.tup xs)) :=
 endS q za (dB hp _) (.tup (dJ.of aF) (h.mono (aG.same (dB hp _))))
theorem p6{p:Addr}{xs:List V}{ds:List Ap}(q:∀z H' Z' G,Ow K H' Z' z (.lst ds) G->aN H Z [] H' Z' G->Q z H')(za:∀a,Z a->H a≠none)(hp:H p=none)(h:bB K H Z xs ds):Q (.ref p) (upd H p (.lst xs)) :=
 q (.ref p) (upd H p (.lst xs)) Z [p] (.lst aF (h.mono (aG.same (dB hp _)))) (aN.ud hp za)
theorem endD{p:Addr}{xs:List (Key×V)}{ds:List (Key×Ap)}(q:∀z H' Z' G,Ow K H' Z' z (.cz ds) G->aN H Z [] H' Z' G->Q z H')(za:∀a,Z a->H a≠none)(hp:H p=none)(h:fU K H Z xs ds):Q (.ref p) (upd H p (.dK xs)) :=
 q (.ref p) (upd H p (.dK xs)) Z [p] (.cz aF (h.mono (aG.same (dB hp _)))) (aN.ud hp za)
end
noncomputable def bZ:M->M->Option M
 |.v (.int i),.v (.int j)=>some (.v (.int (i+j)))
 |.v (.tuple a),.v (.tuple b)=>if a.length+b.length<=lim then some (.v (.tuple (a++b))) else none
 |.lst a,.lst b=>if a.length+b.length<=lim then some (.lst (a++b)) else none
 |.v (.str a),.v (.str b)=>if a.length+b.length<=lim then some (.v (.str (a++b))) else none
 |_,_=>none
noncomputable def j0(C:Int->Int->Bool)(g:Int->Int->Ap):M->M->Option M
 |.v (.int i),.v (.int j)=>if C i j=true then some (.v (g i j)) else none
 |_,_=>none
section
variable{X:Cx}
theorem bV:dY X (Fq .Add) (rM X.K bZ):=by
 intro pins s σ H x y v u Q I rx ry h;obtain⟨Z,m1,m2,m,za,h1,h2,e,q⟩:=h;unfold bZ at e
 split at e
 ·cases e
  obtain rfl:=h1.int; obtain rfl:=h2.int;exact Bo pins s σ H _ _ v u Q I rx ry ⟨_,_,rfl,rfl,cg q za (.int _)⟩
 ·split at e
  ·next hl=>
   cases e;obtain⟨a,xs,rfl,e2,e3⟩:=h1.tup;obtain⟨b,ys,rfl,e5,e6⟩:=h2.tup;exact yT pins s σ H _ _ v u Q I rx ry ⟨a,b,xs,ys,rfl,rfl,e2,e5,gQ (by rw[e3.length,e6.length]; exact hl),λr H' s' t=>endS q za s' (.tup t ((e3.append e6).mono (aG.same s')))⟩
  ·cases e
 ·split at e
  ·next hl=>
   cases e;obtain⟨a,xs,rfl,e2,e3⟩:=h1.lst;obtain⟨b,ys,rfl,e5,e6⟩:=h2.lst;exact BG pins s σ H _ _ v u Q I rx ry ⟨a,b,xs,ys,rfl,rfl,e2,e5,gQ (by rw[e3.length,e6.length]; exact hl),λp hp=>p6 q za hp (e3.append e6)⟩
  ·cases e
 ·split at e
  ·next hl=>
   cases e;obtain rfl:=h1.str; obtain rfl:=h2.str;exact qM pins s σ H _ _ v u Q I rx ry ⟨_,_,rfl,rfl,gQ hl,cg q za (.str _)⟩
  ·cases e
 ·cases e
theorem kR{f:Value->Value->Sem Value}{C:Int->Int->Bool}{P:Int->Int->Prop}{g:Int->Int->Ap}{gv:Int->Int->V}(ho:dY X f (rI P gv))(hc:∀i j,C i j=true->P i j)(hg:∀H Z i j,Fz X.K H Z (gv i j) (g i j)):dY X f (rM X.K (j0 C g)):=by
 intro pins s σ H x y v u Q I rx ry h;obtain⟨Z,m1,m2,m,za,h1,h2,e,q⟩:=h;unfold j0 at e
 split at e
 ·split at e
  ·next hl=>
   cases e;obtain rfl:=h1.int; obtain rfl:=h2.int;exact ho pins s σ H _ _ v u Q I rx ry ⟨_,_,rfl,rfl,hc _ _ hl,cg q za (hg H Z _ _)⟩
  ·cases e
 ·cases e
theorem sG{f:Value->Value->Sem Value}{g:Int->Int->Ap}{gv:Int->Int->V}(ho:dY X f (Av gv))(hg:∀H Z i j,Fz X.K H Z (gv i j) (g i j)):dY X f (rM X.K (j0 (λ_ _=>true) g)):=by
 intro pins s σ H x y v u Q I rx ry h;obtain⟨Z,m1,m2,m,za,h1,h2,e,q⟩:=h;unfold j0 at e
 split at e
 ·split at e
  ·next hl=>
   cases e;obtain rfl:=h1.int; obtain rfl:=h2.int;exact ho pins s σ H _ _ v u Q I rx ry ⟨_,_,rfl,rfl,cg q za (hg H Z _ _)⟩
  ·cases e
 ·cases e
noncomputable def p7:=j0 (λ_ _=>true) λi j=>.int (i-j)
noncomputable def mulM:=j0 (λi j=>decide ((-(2 ^ 64)<i/\i<2 ^ 64)\/(-(2 ^ 64)<j/\j<2 ^ 64))) λi j=>.int (i*j)
noncomputable def p8:=j0 (λ_ j=>decide (0<j/\j<1073741824)) λi j=>.int (i / j)
noncomputable def jF:=j0 (λ_ j=>decide (0<j)) λi j=>.int (i % j)
noncomputable def jm:=j0 (λi j=>decide (0<=j/\(FC i:Int)*j<=2 ^ 27)) λi j=>.int (i ^ j.toNat)
theorem kT:dY X (Fq .Sub) (rM X.K p7):=sG Bp λ_ _ _ _=>.int _
theorem gw:dY X (Fq .Mult) (rM X.K mulM):=kR Bq (λi j h=>by have h:=of_decide_eq_true h; exact h) λ_ _ _ _=>.int _
theorem n8:dY X (Fq .FloorDiv) (rM X.K p8):=kR yt (λi j h=>by have h:=of_decide_eq_true h; exact h) λ_ _ _ _=>.int _
theorem gS:dY X (Fq .Mod) (rM X.K jF):=kR Br (λ_ _ h=>of_decide_eq_true h) λ_ _ _ _=>.int _
theorem kU:dY X (Fq .Pow) (rM X.K jm):=kR yR (λ_ _ h=>of_decide_eq_true h) λ_ _ _ _=>.int _
noncomputable def ye:M->Option Ap
 |.v d=>some d
 |.lst ds=>some (.list ds)
 |_=>none
theorem Ro.reads{pins:List (Addr×Obj)}{σ:L2.St}{H:Hp}{s:Bi}{Z:Zs}{x:V}{m:M}{d:Ap}{u:Value}(I:Inv X pins σ H s)(h:Ro X.K H Z x m)(e:ye m=some d)(c:d.canLay0=true)(r:RelV x u):∃as,Reads s.heap u d as:=by
 unfold ye at e
 split at e
 ·cases e; exact h.fz.reads I c r
 ·cases e
  obtain⟨a,xs,rfl,e2,e3⟩:=h.lst;cases r;obtain⟨its,rv,⟨o,n,ho,hc,hdd,hd⟩,_⟩:=I.list (fL.of e2);obtain⟨as,h⟩:=e3.reads I c rv;exact⟨_,.list ho hc hd (by simpa using h)⟩
 ·cases e
noncomputable def p9(d e:Ap):Bool:=d.canLay0 && e.canLay0 && decide (min d.depth e.depth<=60)
noncomputable def fK(neg:Bool)(m1 m2:M):Option M:=(ye m1).bind λd=>(ye m2).bind λe=>if p9 d e=true then some (.v (.bool (if neg then !PyData.eqv d e else ES d e))) else none
theorem jQ(hu:X.A.units+64<cLine):dY X (EW .Eq) (rM X.K (fK false)):=by
 intro pins s σ H x y v u Q I rx ry h;obtain⟨Z,m1,m2,m,za,h1,h2,e,q⟩:=h;obtain⟨d,e1,e⟩:=oB e;obtain⟨d',e2,e⟩:=oB e
 split at e
 ·next ok=>
  cases e;unfold p9 at ok;simp only[EV,decide_eq_true_eq] at ok;obtain⟨as,r1⟩:=h1.reads I e1 ok.1.1 rx;obtain⟨bs,r2⟩:=h2.reads I e2 ok.1.2 ry;exact SeqAt.compareEq_reads r1 r2 ok.1.1 ok.1.2 (by have:=ok.2; lia) ⟨.bl _,H,I,rfl,cg q za (.bl _)⟩
 ·cases e
theorem jR(hu:X.A.units+64<cLine):dY X (EW .NotEq) (rM X.K (fK true)):=by
 intro pins s σ H x y v u Q I rx ry h;obtain⟨Z,m1,m2,m,za,h1,h2,e,q⟩:=h;obtain⟨d,e1,e⟩:=oB e;obtain⟨d',e2,e⟩:=oB e
 split at e
 ·next ok=>
  cases e;unfold p9 at ok;simp only[EV,decide_eq_true_eq] at ok;obtain⟨as,r1⟩:=h1.reads I e1 ok.1.1 rx;obtain⟨bs,r2⟩:=h2.reads I e2 ok.1.2 ry;exact SeqAt.compareNe_reads r1 r2 ok.1.1 ok.1.2 (by have:=ok.2; lia) ⟨.bl _,H,I,rfl,cg q za (.bl _)⟩
 ·cases e
noncomputable def Eh:Ap->Option Int
 |.int i=>some i
 |_=>none
noncomputable def gx:List Ap->Option (List Int)
 |[]=>some []
 |d::ds=>(Eh d).bind λi=>(gx ds).bind λis=>some (i::is)
theorem cR:∀{ds:List Ap}{is:List Int},gx ds=some is->ds=is.map .int:=by
 intro ds
 induction ds with
 |nil=>
  intro _ e;cases e; rfl
 |cons d ds ih=>
  intro _ e;obtain⟨i,e1,e⟩:=oB e;obtain⟨is,e2,e⟩:=oB e;cases e;rw[ih e2];cases d <;> cases e1
  rfl
theorem eL:∀(is:List Int),gx (is.map .int)=some is
 |[]=>rfl
 |i::is=>by show (some i).bind _=_; rw[EB,eL is]; rfl
noncomputable def ue(gi:Int->Int->Bool)(gt:List Int->List Int->Bool):M->M->Option M
 |.v (.int i),.v (.int j)=>some (.v (.bool (gi i j)))
 |.v (.tuple a),.v (.tuple b)=>(gx a).bind λis=>(gx b).bind λjs=>some (.v (.bool (gt is js)))
 |_,_=>none
theorem sH(hu:X.A.units+64<cLine):dY X (EW .Lt) (rM X.K (ue (λi j=>decide (i<j)) HT.lexLt)):=by
 intro pins s σ H x y v u Q I rx ry h;obtain⟨Z,m1,m2,m,za,h1,h2,e,q⟩:=h;unfold ue at e
 split at e
 ·cases e
  obtain rfl:=h1.int; obtain rfl:=h2.int;exact op_lt pins s σ H _ _ v u Q I rx ry ⟨_,_,rfl,rfl,cg q za (.bl _)⟩
 ·obtain⟨is,e1,e⟩:=oB e
  obtain⟨js,e2,e⟩:=oB e;cases e;obtain⟨a,xs,rfl,t1,f1⟩:=h1.tup;obtain⟨b,ys,rfl,t2,f2⟩:=h2.tup;rw[cR e1] at f1;rw[cR e2] at f2;rw[f1.cQ] at t1;rw[f2.cQ] at t2;exact By (by lia) pins s σ H _ _ v u Q I rx ry ⟨a,b,is,js,rfl,rfl,t1,t2,cg q za (.bl _)⟩
 ·cases e
theorem ov_ge(hu:X.A.units+64<cLine):dY X (EW .GtE) (rM X.K (ue (λi j=>decide (j<=i)) λa b=> !HT.lexLt a b)):=by
 intro pins s σ H x y v u Q I rx ry h;obtain⟨Z,m1,m2,m,za,h1,h2,e,q⟩:=h;unfold ue at e
 split at e
 ·cases e
  obtain rfl:=h1.int; obtain rfl:=h2.int;exact op_ge pins s σ H _ _ v u Q I rx ry ⟨_,_,rfl,rfl,cg q za (.bl _)⟩
 ·obtain⟨is,e1,e⟩:=oB e
  obtain⟨js,e2,e⟩:=oB e;cases e;obtain⟨a,xs,rfl,t1,f1⟩:=h1.tup;obtain⟨b,ys,rfl,t2,f2⟩:=h2.tup;rw[cR e1] at f1;rw[cR e2] at f2;rw[f1.cQ] at t1;rw[f2.cQ] at t2;exact BR (by lia) pins s σ H _ _ v u Q I rx ry ⟨a,b,is,js,rfl,rfl,t1,t2,cg q za (.bl _)⟩
 ·cases e
noncomputable def DP:=j0 (λ_ _=>true) λi j=>.bool (decide (j<i))
noncomputable def AH:=ue (λi j=>decide (i<j)) HT.lexLt
noncomputable def DC:=ue (λi j=>decide (j<=i)) λa b=> !HT.lexLt a b
theorem ov_gt:dY X (EW .Gt) (rM X.K DP):=sG op_gt λ_ _ _ _=>.bl _
noncomputable def isNone:M->Bool
 |.v .none=>true
 |_=>false
theorem Ro.isNone{K:AC}{H:Hp}{Z:Zs}{x:V}{m:M}(h:Ro K H Z x m):decide (x=.non)=VL.isNone m:=by
 obtain⟨G,h⟩:=h;cases h with
 |v f=>cases f <;> rfl
 |_=>rfl
noncomputable def iJ(neg:Bool):M->M->Option M
 |m,.v .none=>some (.v (.bool (if neg then !isNone m else isNone m)))
 |.v (.bool a),.v (.bool b)=>if neg then some (.v (.bool (!(a == b)))) else none
 |_,_=>none
theorem n9:dY X (EW .IsNot) (rM X.K (iJ true)):=by
 intro pins s σ H x y v u Q I rx ry h;obtain⟨Z,m1,m2,m,za,h1,h2,e,q⟩:=h;unfold iJ at e
 split at e
 ·cases e
  obtain rfl:=h2.fz.sF;exact yu pins s σ H _ _ v u Q I rx ry ⟨rfl,by rw[h1.isNone]; exact cg q za (.bl _)⟩
 ·cases e
  obtain rfl:=h1.bl; obtain rfl:=h2.bl;exact vY pins s σ H _ _ v u Q I rx ry ⟨_,_,rfl,rfl,cg q za (.bl _)⟩
 ·cases e
noncomputable def okIn(ds:List Ap)(e:Ap):Bool:=EI ds && e.canLay0 && decide (e.depth<=50)
noncomputable def CW(neg:Bool)(m1 m2:M):Option M:=(ye m1).bind λe=>(seq m2).bind λds=>if okIn ds e=true then some (.v (.bool (if neg then !(ds.any λd=>ES d e) else ds.any λd=>ES d e))) else none
theorem mR(neg:Bool)(hu:X.A.units+64<cLine){pins:List (Addr×Obj)}{s:Bi}{σ:L2.St}{H:Hp}{x y:V}{v u:Value}{Q:VK}(I:Inv X pins σ H s)(rx:RelV x v)(ry:RelV y u)(h:rM X.K (CW neg) x y H Q) :
  ∃ (p:Addr) (its:List Value) (g:Value->Bool) (b:Bool),u=.ref p/\(PlainL s.heap p its.toArray\/s.heap.IsTuple p its.toArray)/\(∀y,y∈its.toArray->Kl X.A.in1 s y v (g y))/\its.toArray.any g=b/\EP X pins σ Q (.bool (if neg then !b else b)) s:=by
 obtain⟨Z,m1,m2,m,za,h1,h2,e,q⟩:=h;obtain⟨d,e1,e⟩:=oB e;obtain⟨ds,e2,e⟩:=oB e
 split at e
 ·next ok=>
  cases e;unfold okIn at ok;simp only[EV,decide_eq_true_eq] at ok;obtain⟨bs,re⟩:=h1.reads I e1 ok.1.2 rx;obtain⟨a,xs,rfl,hq,f⟩:=h2.seq e2;cases ry;have fin:EP X pins σ Q (.bool (if neg then !(ds.any λd'=>ES d' d) else ds.any λd'=>ES d' d)) s:=⟨.bl _,H,I,rfl,cg q za (.bl _)⟩
  rcases hq with hq | hq
  ·obtain⟨its,r,pl,hz⟩:=I.list hq
   obtain⟨as,ra⟩:=f.reads I ok.1.1 r;refine⟨a,its,vV s.heap d,_,rfl,.inl pl,vW (pins:=pins) (σ:=σ) (H:=H) hu ra re ok.1.1 ok.1.2 ok.2,rfl,?_⟩;rw[show its.toArray.any (vV s.heap d)=its.any (vV s.heap d) by simp,nX ra ok.1.1]
   exact fin
  ·obtain⟨its,r,pl,hz⟩:=I.tuple hq
   obtain⟨as,ra⟩:=f.reads I ok.1.1 r;refine⟨a,its,vV s.heap d,_,rfl,.inr pl,vW (pins:=pins) (σ:=σ) (H:=H) hu ra re ok.1.1 ok.1.2 ok.2,rfl,?_⟩;rw[show its.toArray.any (vV s.heap d)=its.any (vV s.heap d) by simp,nX ra ok.1.1]
   exact fin
 ·cases e
theorem AI(hu:X.A.units+64<cLine):dY X (EW .In) (rM X.K (CW false)):=by
 intro pins s σ H x y v u Q I rx ry h;obtain⟨p,its,g,b,rfl,hq,hg,e,fin⟩:=mR false hu I rx ry h;subst e;rcases hq with hq | hq
 ·exact SeqAt.in_listAt g hq.isList hg fin
 ·exact SeqAt.in_tupleAt g hq hg fin
theorem wc(hu:X.A.units+64<cLine):dY X (EW .NotIn) (rM X.K (CW true)):=by
 intro pins s σ H x y v u Q I rx ry h;obtain⟨p,its,g,b,rfl,hq,hg,e,fin⟩:=mR true hu I rx ry h;subst e;rcases hq with hq | hq
 ·exact SeqAt.notIn_listAt g hq.isList hg fin
 ·exact SeqAt.notIn_tupleAt g hq hg fin
end
noncomputable def toD:M->Ap
 |.v d=>d
 |.lst ds=>.list ds
 |.cz kvs=>.dict (kvs.map λp=>(gr p.1,p.2))
 |.cD kvs=>.dict ((kvs.map λp=>(p.1,HA p.2)).map λp=>(gr p.1,p.2))
 |.dtp kvs=>.dict (kvs.map λp=>(.tuple (p.1.map gr),p.2))
 |.lls dss=>.list (dss.map .list)
 |.dre k ds kvs=>.dict (((k,HA ds)::kvs).map λp=>(gr p.1,p.2))
 |.fn _ _=>.none
noncomputable def yf:M->Option Ap
 |.fn _ _=>none
 |m=>some (toD m)
theorem sI{m:M}{d:Ap}(h:yf m=some d):d=toD m/\∀t f,m≠.fn t f:=by
 cases m with
 |fn _ _=>cases h
 |_=>cases h; exact⟨rfl,λ_ _ z=>by cases z⟩
noncomputable def cS:cW->Ev->Option (Ap×Ev)
 |.t m,ρ=>(yf m).bind λd=>some (d,ρ)
 |.p i,ρ=>(cE ρ i).bind λm=>(yf m).bind λd=>some (d,ρ.set i (some (.v d)))
 |.q i k,ρ=>match cE ρ i with
  |some (.cD kvs)=>(cN kvs k).bind λds=>some (.list ds,ρ.set i (some (.cz (kvs.map λp=>(p.1,HA p.2)))))
  |_=>none
noncomputable def ef:List cW->Ev->Option (List Ap×Ev)
 |[],ρ=>some ([],ρ)
 |o::os,ρ=>(cS o ρ).bind λp=>(ef os p.2).bind λq=>some (p.1::q.1,q.2)
section
variable{K:AC}{H H0:Hp}{Z Z0:Zs}{F F0 G R:List Addr}{σ:L2.St}{ρ ρ':Ev}{x:V}{o:cW}{d:Ap}
theorem aG.more{G:List Addr}:aG H Z H (λa=>Z a\/a∈G):=⟨d7.refl,λ_ _ _ e=>.inl e,λ_ z=>.inl z⟩
theorem iC.fz{Z':Zs}(g:aG H Z H Z'):∀{kxs:List (Key×V)}{kvs:List (Key×List Ap)}{G:List Addr},iC K H Z kxs kvs G->(∀a∈G,Z' a)->fU K H Z' kxs (kvs.map λp=>(p.1,HA p.2)):=by
 intro kxs kvs G h
 induction h with
 |nil=>exact λ_=>.nil
 |cons e f r ih=>exact λh=>.cons (.lst (.inl e) (h _ lS) (f.mono g)) (ih λa z=>h a (lO _ z))
theorem iY.fz{Z':Zs}(g:aG H Z H Z'):∀{vs:List V}{dss:List (List Ap)}{G:List Addr},iY K H Z vs dss G->(∀a∈G,Z' a)->bB K H Z' vs (dss.map .list):=by
 intro vs dss G h
 induction h with
 |nil=>exact λ_=>.nil
 |cons e f r ih=>exact λh=>.cons (.lst (.inl e) (h _ lS) (f.mono g)) (ih λa z=>h a (lO _ z))
theorem Ow.fz{m:M}{Z':Zs}(g:aG H Z H Z')(h:Ow K H Z x m G)(hz:∀a∈G,Z' a)(hf:∀t f,m≠.fn t f):Fz K H Z' x (toD m):=by
 cases h with
 |fn=>exact absurd rfl (hf _ _)
 |v f=>exact f.mono g
 |lst e f=>exact .lst (.inl e) (hz _ lS) (f.mono g)
 |cz e f=>exact .cz (.inl e) (hz _ lS) (f.mono g)
 |cD e f=>exact .cz (.inl e) (hz _ lS) (f.fz g λa z=>hz a (lO _ z))
 |dtp e n f=>exact .dtp e (hz _ lS) n (f.mono g)
 |lls e f=>exact .lst (.inl e) (hz _ lS) (f.fz g λa z=>hz a (lO _ z))
 |dre e eb f r=>exact .cz (.inl e) (hz _ lS) (.cons (.lst (.inl eb) (hz _ (lO _ lS)) (f.mono g)) (r.mono g))
theorem aN.give{A:List Addr}(f:aN H0 Z0 F0 H Z A)(hF:F.Nodup)(hs:∀a∈F,a∈A)(hG:∀a∈G,a∈A)(hd:∀a∈F,a∉G)(al:∀a∈G,H a≠none):aN H0 Z0 F0 H (λa=>Z a\/a∈G) F:=by
 refine⟨f.kept,f.tups,λa z=>.inl (f.zs a z),λa z=>?_,λa h=>f.fr a (hs a h),hF,λa h z=>?_,λa z=>?_⟩
 ·rcases z with z | z
  ·exact f.zn a z
  ·exact .inr (f.fr a (hG a z))
 ·rcases z with z | z
  ·exact f.dz a (hs a h) z
  ·exact hd a h z
 ·rcases z with z | z
  ·exact f.za a z
  ·exact al a z
theorem Dr{A B C:List Addr}(h:(A++B++C).Nodup):A.Nodup/\B.Nodup/\C.Nodup/\(∀a∈A,a∉B)/\(∀a∈A,a∉C)/\∀a∈B,a∉C:=by
 have h1:=E2.mp h;have h2:=E2.mp h1.1;exact⟨h2.1,h2.2.1,h1.2.1,λa x y=>h2.2.2 a x a y rfl,λa x y=>h1.2.2 a (lL _ x) a y rfl,λa x y=>h1.2.2 a (lR _ x) a y rfl⟩
theorem aS{A B:List Addr}(h1:A.Nodup)(h2:B.Nodup)(h:∀a∈A,a∉B):(A++B).Nodup:=E2.mpr ⟨h1,h2,λa x b y e=>h a x (e▸y)⟩
theorem iD{σ:L2.St}{i:Nat}{x:V}(q:σ[i]? = some (some x)):σ.set i (some x)=σ:=by
  refine HG λj=>?_
  rw[HF]
  split
  · next hj=>subst hj; split
             · exact q.symm
             · next hh=>exact absurd (EA.mp q).1 hh
  · rfl
theorem freeze(S:bh K H Z σ ρ F)(h:lH K H Z σ x o G)(f:aN H0 Z0 F0 H Z (F++G++R))(e:cS o ρ=some (d,ρ')):∃Z' F',bh K H Z' σ ρ' F'/\Fz K H Z' x d/\aN H0 Z0 F0 H Z' (F'++R)/\aG H Z H Z':=by
 obtain⟨n1,n2,n3,s1,s2,s3⟩:=Dr f.nd;cases h with
 |t q=>
  obtain⟨d,e1,e⟩:=oB e;cases e;obtain⟨rfl,hnf⟩:=sI e1;refine⟨λa=>Z a\/a∈G,F,S.mono aG.more λ_ _ _ e=>e,q.fz aG.more (λa h=>.inr h) hnf,f.give (aS n1 n3 s2) (λa h=>?_) (λa h=>?_) (λa h z=>?_) q.al,aG.more⟩
  ·rcases lM h with h | h
   ·exact lL _ (lL _ h)
   ·exact lR _ h
  ·exact lL _ (lR _ h)
  ·rcases lM h with h | h
   ·exact s1 a h z
   ·exact s3 a z h
 |p q=>
  rename_i i
  obtain⟨m,e1,e⟩:=oB e;obtain⟨d,e2,e⟩:=oB e;cases e;obtain⟨rfl,hnf⟩:=sI e2;obtain⟨x',G',F1,h1,h2,h3,h4,h5⟩:=S.take n1 (aH.mp e1);rw[q] at h1; cases h1;have hl:=(EA.mp (aH.mp e1)).1;have k4:=E2.mp h4;have fz:=h2.fz (aG.more (G:=G')) (λa h=>.inr h) hnf
  obtain⟨F2,p1,p2,p3⟩:=(h3.mono (aG.more (G:=G')) λ_ _ _ e=>e).put (i:=i) (Ow.v fz) (by rw[E1]; exact k4.1) (by rw[Ft hl])
  rw[E1] at p3;rw[Iy] at p1;rw[iD q] at p1;refine⟨_,F2,p1,fz,f.give (aS p2 n3 λa h=>s2 a (h5 a (lL _ (p3 a h)))) (λa h=>?_) (λa h=>?_) (λa h z=>?_) h2.al,aG.more⟩
  ·rcases lM h with h | h
   ·exact lL _ (lL _ (h5 a (lL _ (p3 a h))))
   ·exact lR _ h
  ·exact lL _ (lL _ (h5 a (lR _ h)))
  ·rcases lM h with h | h
   ·exact k4.2.2 a (p3 a h) a z rfl
   ·exact s2 a (h5 a (lR _ z)) h
 |q q1 q2 q3=>
  rename_i i k a0 kxs
  have e:(match cE ρ i with
   |some (.cD kvs)=>(cN kvs k).bind λds=>some (HA ds,ρ.set i (some (M.cz (kvs.map λp=>(p.1,HA p.2)))))
   |_=>none)=some (d,ρ'):=e
  split at e
  ·next kvs hk=>
   obtain⟨ds,e1,e⟩:=oB e;cases e;obtain⟨x',G',F1,h1,h2,h3,h4,h5⟩:=S.take n1 (aH.mp hk);rw[q1] at h1; cases h1;have hl:=(EA.mp (aH.mp hk)).1;cases h2 with
   |cD e2 ol=>
    rename_i kxs' Gl
    rw[q2] at e2; cases e2;have k4:=E2.mp h4;have k5:=EG.mp k4.2.1;have ow:Ow K H (λa=>Z a\/a∈Gl) (.ref a0) (.cz (kvs.map λp=>(p.1,HA p.2))) [a0]:=.cz q2 (ol.fz aG.more λa h=>.inr h)
    obtain⟨b,xs,z1,z2,z3,z4⟩:=ol.get e1;rw[q3] at z1; cases z1;obtain⟨F2,p1,p2,p3⟩:=(h3.mono (aG.more (G:=Gl)) λ_ _ _ e=>e).put (i:=i) ow (aS k4.1 (EG.mpr ⟨EE,EX⟩) λa h z=>k4.2.2 a h a0 lS (Do.mp z)) (by rw[Ft hl])
    rw[Iy] at p1;rw[iD q1] at p1;have D0:∀a∈F2,a∈F:=λa h=>by
     rcases lM (p3 a h) with h | h
     ·exact h5 a (lL _ h)
     ·exact h5 a (lR _ (by rw[Do.mp h]; exact lS))
    refine⟨_,F2,p1,.lst (.inl z2) (.inr z4) (z3.mono aG.more),f.give (aS p2 n3 λa h=>s2 a (D0 a h)) (λa h=>?_) (λa h=>?_) (λa h z=>?_) (λa h e=>?_),aG.more⟩
    ·rcases lM h with h | h
     ·exact lL _ (lL _ (D0 a h))
     ·exact lR _ h
    ·exact lL _ (lL _ (h5 a (lR _ (lO _ h))))
    ·rcases lM h with h | h
     ·rcases lM (p3 a h) with h | h
      ·exact k4.2.2 a h a (lO _ z) rfl
      ·rw[Do.mp h] at z; exact k5.1 z
     ·exact s2 a (h5 a (lR _ (lO _ z))) h
    ·obtain⟨_,z',_⟩:=ol.mem a h; rw[z'] at e; cases e
  ·cases e
theorem lH.we{Z':Zs}(g:aG H Z H Z')(h:lH K H Z σ x o G):lH K H Z' σ x o G:=by
 cases h with
 |t q=>exact .t (q.mono g λ_ _ _ e=>e)
 |p q=>exact .p q
 |q a b c=>exact .q a b c
theorem jD.we{Z Z':Zs}(g:aG H Z H Z'):∀{os:List cW}{xs:List V}{G:List Addr},jD K H Z σ xs os G->jD K H Z' σ xs os G:=by
 intro os xs G h
 induction h with
 |nil=>exact .nil
 |cons h r ih=>exact .cons (h.we g) ih
theorem sJ:∀{os:List cW}{xs:List V}{ds:List Ap}{Z:Zs}{ρ ρ':Ev}{F G:List Addr},bh K H Z σ ρ F->jD K H Z σ xs os G->aN H0 Z0 F0 H Z (F++G)->ef os ρ=some (ds,ρ')->∃Z' F',bh K H Z' σ ρ' F'/\bB K H Z' xs ds/\aN H0 Z0 F0 H Z' F'/\aG H Z H Z':=by
 intro os
 induction os with
 |nil=>
  intro xs ds Z ρ ρ' F G S h f e;cases h;cases e; exact⟨_,_,S,.nil,(by rw[E1] at f; exact f),aG.refl⟩
 |cons o os ih=>
  intro xs ds Z ρ ρ' F G S h f e;cases h with | cons h r=>
  obtain⟨⟨d,ρ1⟩,e1,e⟩:=oB e;obtain⟨⟨ds,ρ2⟩,e2,e⟩:=oB e;cases e;obtain⟨Z1,F1,S1,z1,f1,g1⟩:=freeze S h f.assoc' e1;obtain⟨Z2,F2,S2,z2,f2,g2⟩:=ih S1 (r.we g1) f1 e2;exact⟨Z2,F2,S2,.cons (z1.mono g2) z2,f2,g1.trans g2⟩
theorem fD(S:bh K H Z σ ρ F)(h:lH K H Z σ x o G)(f:aN H0 Z0 F0 H Z (F++G))(e:cS o ρ=some (d,ρ')):∃Z' F',bh K H Z' σ ρ' F'/\Fz K H Z' x d/\aN H0 Z0 F0 H Z' F'/\aG H Z H Z':=by
 obtain⟨Z',F',h1,h2,h3,h4⟩:=freeze (R:=[]) S h (by rw[E1]; exact f) e
 rw[E1] at h3;exact⟨Z',F',h1,h2,h3,h4⟩
end
section
variable{X:Cx}{pos:Pos}
noncomputable def bG(fa:FA):FE:=λρ=>(fa ρ).bind λp=>(ef p.1 p.2).bind λq=>if q.1.length<=lim then some (.t (.v (.tuple q.1)),q.2) else none
noncomputable def di(fa:FA):FE:=λρ=>(fa ρ).bind λp=>(ef p.1 p.2).bind λq=>if q.1.length<=lim then some (.t (.lst q.1),q.2) else none
theorem B4{es:List Expr}{k:Nat}{fa:FA}(h:VA X es fa):VE X (.Tuple es k pos) (bG fa):=bR (Bt h) λσ H Q hq=>by
 obtain⟨Z,ρ,F,o,ρ',S,w,e,q⟩:=hq;obtain⟨⟨os,ρ1⟩,e1,e⟩:=oB e;obtain⟨⟨ds,ρ2⟩,e2,e⟩:=oB e
 split at e
 ·next hl=>
  cases e;refine⟨Z,ρ,F,os,ρ1,S,w,e1,λxs H1 Z1 F1 G1 S1 O1 f1=>?_⟩
  obtain⟨Z2,F2,S2,z2,f2,g2⟩:=sJ S1 O1 f1 e2;refine⟨gQ (by rw[z2.length]; exact hl),λp hp=>?_⟩
  have n:=aN.same (dB hp (.tup xs)) f2.za;exact q (.ref p) _ Z2 F2 [] (S2.news n f2.wf) (.t (.v (.tup (dJ.of aF) (z2.mono n.v7)))) (f2.trans (n.news f2.wf S2.al))
 ·cases e
theorem B5{es:List Expr}{fa:FA}(h:VA X es fa):VE X (.List es pos) (di fa):=bR (Bu h) λσ H Q hq=>by
 obtain⟨Z,ρ,F,o,ρ',S,w,e,q⟩:=hq;obtain⟨⟨os,ρ1⟩,e1,e⟩:=oB e;obtain⟨⟨ds,ρ2⟩,e2,e⟩:=oB e
 split at e
 ·next hl=>
  cases e;refine⟨Z,ρ,F,os,ρ1,S,w,e1,λxs H1 Z1 F1 G1 S1 O1 f1=>?_⟩
  obtain⟨Z2,F2,S2,z2,f2,g2⟩:=sJ S1 O1 f1 e2;refine⟨gQ (by rw[z2.length]; exact hl),λp hp=>?_⟩
  have n:=aN.ud (o:=.lst xs) hp f2.za;exact q (.ref p) _ Z2 F2 [p] (S2.news n f2.wf) (.t (.lst aF (z2.mono n.v7))) (f2.trans (n.news f2.wf S2.al))
 ·cases e
noncomputable def eB:Ap->Option Key
 |.int i=>some (.inl i)
 |.str s=>some (.inr s)
 |_=>none
noncomputable def fV:List (Ap×Ap)->Option (List (Key×Ap))
 |[]=>some []
 |p::ps=>(eB p.1).bind λk=>(fV ps).bind λr=>some ((k,p.2)::r)
noncomputable def getM:M->M->Option M
 |.cz kvs,.v k=>(eB k).bind λk=>(cN kvs k).bind λd=>some (.v d)
 |.v (.dict ps),.v k=>(fV ps).bind λkvs=>(eB k).bind λk=>(cN kvs k).bind λd=>some (.v d)
 |.v (.str z),.v (.int i)=>if z.length<=lim then (jf z.cps.toList i).bind λc=>some (.v (.str ⟨#[c]⟩)) else none
 |m,.v (.int i)=>(seq m).bind λds=>(jf ds i).bind λd=>some (.v d)
 |_,_=>none
noncomputable def DE:cW->M->Ev->Option (cW×Ev)
 |.t m1,m2,ρ=>(getM m1 m2).bind λm=>some (.t m,ρ)
 |.p i,m2,ρ=>(cE ρ i).bind λm1=>match m1,m2 with
  |.cD kvs,.v k=>(eB k).bind λk=>(cN kvs k).bind λ_=>some (.q i k,ρ)
  |m1,m2=>(getM m1 m2).bind λm=>some (.t m,ρ)
 |.q _ _,_,_=>none
noncomputable def cZ(fa fb:FE):FE:=λρ=>(fa ρ).bind λp=>(fb p.2).bind λq=>(peek q.2 q.1).bind λm2=>DE p.1 m2 q.2
theorem oh{K:AC}{H:Hp}{Z:Zs}:∀{kxs:List (Key×V)}{kvs:List (Key×Ap)}{k:Key},fU K H Z kxs kvs->(cN kvs k=none->fP kxs k=none)/\∀d,cN kvs k=some d->∃x,fP kxs k=some x/\Fz K H Z x d:=by
 intro kxs
 induction kxs with
 |nil=>intro kvs k h; cases h; exact⟨λ_=>rfl,λ_ e=>(nomatch e)⟩
 |cons p kxs ih0=>
  intro kvs k h;cases h with | @cons k' _ _ _ _ h r=>
  have ih:=ih0 (k:=k) r;unfold cN;rw[Fe]
  by_cases hk:k'=k
  ·subst hk
   simp only[decide_true,HQ];rw[eS rfl];exact⟨λe=>(nomatch e),λd e=>⟨_,rfl,by cases e; exact h⟩⟩
  ·simp only[hk,decide_false]
   rw[eT hk];exact ih
theorem eE{K:AC}{H:Hp}{Z:Zs}{x:V}{d:Ap}{k:Key}(h:Fz K H Z x d)(e:eB d=some k):x=kV k:=by
 cases h <;> cases e <;> rfl
theorem B6:∀(k:Key),eB (gr k)=some k
 |.inl _=>rfl
 |.inr _=>rfl
theorem gT:∀(ds:List (Key×Ap)),fV (ds.map λp=>(gr p.1,p.2))=some ds
 |[]=>rfl
 |p::ds=>by
  show (eB (gr p.1)).bind (λk=>(fV (ds.map λp=>(gr p.1,p.2))).bind λr=>some ((k,p.2)::r))=_
  rw[B6,gT ds];rfl
theorem Fz.wg{K:AC}{H:Hp}{Z:Zs}{x:V}{ps:List (Ap×Ap)}{kvs:List (Key×Ap)}(h:Fz K H Z x (.dict ps))(e:fV ps=some kvs)(ne:kvs≠[]):∃a kxs,x=.ref a/\Rd H a (.dK kxs)/\fU K H Z kxs kvs:=by
 cases h with
 |cz ha _ f=>
  rw[gT] at e;cases e;exact⟨_,_,rfl,ha,f⟩
 |@dtp _ _ ds ha _ en f=>
  cases ds with
  |nil=>cases e; exact absurd rfl ne
  |cons p ds=>cases e
theorem B7{K:AC}{H:Hp}{Z:Zs}{xs:List V}{ds:List Ap}{i:Int}{d:Ap}(r:bB K H Z xs ds)(e:jf ds i=some d):∃x,jf xs i=some x/\Fz K H Z x d:=by
 unfold jf at e ⊢;rw[r.length];obtain⟨j,e1,e2⟩:=oB e;obtain⟨x,h1,h2⟩:=r.get' e2;exact⟨x,by rw[e1,EB]; exact h1,h2⟩
theorem ve_ix{a b:Expr}{fa fb:FE}(hu:X.A.units+64<cLine)(ha:VE X a fa)(hb:VE X b fb)(hs:nI b):VE X (.Subscript a b pos) (cZ fa fb):=by
 refine bR (q9 (pe_ix BD ha hb hs) (su (by lia) ha hb hs)) λσ H Q hq=>?_
 obtain⟨Z,ρ,F,o,ρ',S,w,e,q⟩:=hq;obtain⟨⟨o1,ρ1⟩,e1,e⟩:=oB e;obtain⟨⟨o2,ρ2⟩,e2,e⟩:=oB e;obtain⟨m2,e3,e⟩:=oB e;have gen:∀m1 m,jl ρ2 o1=some m1->getM m1 m2=some m->o=.t m->ρ'=ρ2->Au (DX X.K) (vE X.K fa) (vE X.K fb) σ H Q\/vq (vE X.K fa) (vE X.K fb) σ H Q:=λm1 m e4 e5 eo er=>by
  subst eo; subst er;have two':∀R:V->V->Hp->Prop,(∀H2 Z2 x y,(∀a,Z2 a->H2 a≠none)->Ro X.K H2 Z2 x m1->Ro X.K H2 Z2 y m2->(∀z H3 Z3 G,Ow X.K H3 Z3 z m G->aN H2 Z2 [] H3 Z3 G->Q z H3)->R x y H2) ->
    vE X.K fa σ H λx H1=>vE X.K fb σ H1 λy H2=>R x y H2:=λR hR=>by
   refine⟨Z,ρ,F,o1,ρ1,S,w,e1,λx H1 Z1 F1 G1 S1 O1 f1=>⟨Z1,ρ1,F1,o2,ρ',S1,f1.left.wf,e2,λy H2 Z2 F2 G2 S2 O2 f2=>?_⟩⟩
   have O1':=O1.mono (dR e4) (f2.grow f1.left.wf) (f1.p5 f2);exact hR H2 Z2 x y f2.za (O1'.peek S2 (dQ e4)) (O2.peek S2 e3) λz H3 Z3 G h3 n=>q z H3 Z3 F2 G (S2.news n f2.left.wf) (.t h3) ((f1.left.trans f2.left).trans (n.news f2.left.wf S2.al))
  clear q e e3
  unfold getM at e5
  split at e5
  ·rename_i kvs k
   obtain⟨k',e6,e5⟩:=oB e5;obtain⟨d,e7,e5⟩:=oB e5;cases e5;refine .inr (two' _ λH2 Z2 x y za h1 h2 fin=>?_)
   obtain⟨a',kxs,rfl,he,fk⟩:=h1.cz;obtain⟨v,hv,fv⟩:=(oh fk).2 d e7;obtain rfl:=eE h2.fz e6;exact⟨a',v,rfl,hv▸iV.k he,cg fin za fv⟩
  ·rename_i ps k
   obtain⟨kvs,e8,e5⟩:=oB e5;obtain⟨k',e6,e5⟩:=oB e5;obtain⟨d,e7,e5⟩:=oB e5;cases e5;refine .inr (two' _ λH2 Z2 x y za h1 h2 fin=>?_)
   obtain⟨a',kxs,rfl,he,fk⟩:=h1.fz.wg e8 λz=>by rw[z] at e7; cases e7
   obtain⟨v,hv,fv⟩:=(oh fk).2 d e7;obtain rfl:=eE h2.fz e6;exact⟨a',v,rfl,hv▸.inl ⟨kxs,k',he,rfl,rfl⟩,cg fin za fv⟩
  ·rename_i z i
   split at e5
   ·rename_i hl
    obtain⟨c,e7,e5⟩:=oB e5;cases e5;refine .inl (two' _ λH2 Z2 x y za h1 h2 fin=>?_)
    obtain rfl:=h1.str;obtain rfl:=h2.int;exact .inr (.inr ⟨_,_,c,rfl,rfl,gQ hl,e7,cg fin za (.str _)⟩)
   ·cases e5
  ·obtain⟨ds,e6,e5⟩:=oB e5
   obtain⟨d,e7,e5⟩:=oB e5;cases e5;refine .inl (two' _ λH2 Z2 x y za h1 h2 fin=>?_)
   obtain⟨a',xs,rfl,hq,fs⟩:=h1.seq e6;obtain rfl:=h2.int;obtain⟨v,hv,fv⟩:=B7 fs e7;rcases hq with hq | hq
   ·exact .inl ⟨a',xs,_,v,rfl,rfl,hq,hv,cg fin za fv⟩
   ·exact .inr (.inl ⟨a',xs,_,v,rfl,rfl,hq,hv,cg fin za fv⟩)
  ·cases e5
 cases o1 with
 |t m1=>
  obtain⟨m,e5,e⟩:=oB e
  injection e with e
  injection e with ea eb
  exact gen m1 m rfl e5 ea.symm eb.symm
 |q _ _=>cases e
 |p i=>
  obtain⟨m1,e4,e⟩:=oB e
  split at e
  ·rename_i kvs k
   obtain⟨k',e6,e⟩:=oB e;obtain⟨ds,e7,e⟩:=oB e
   injection e with e
   injection e with ea eb
   subst ea; subst eb;refine .inr ⟨Z,ρ,F,.p i,ρ1,S,w,e1,λx H1 Z1 F1 G1 S1 O1 f1=>⟨Z1,ρ1,F1,o2,_,S1,f1.left.wf,e2,λy H2 Z2 F2 G2 S2 O2 f2=>?_⟩⟩
   cases O1 with
   |p hx=>
    obtain⟨x',G',h1,h2,_⟩:=S2.get (aH.mp e4);rw[hx] at h1; cases h1;cases h2 with
    |cD he ol=>
     obtain⟨b,xs,z1,z2,z3,z4⟩:=ol.get e7;have O2':=O2.peek S2 e3;obtain rfl:=eE O2'.fz e6;exact⟨_,.ref b,rfl,z1▸iV.k he,q (.ref b) H2 Z2 F2 [] S2 (.q hx he z1) (f1.left.trans f2.left).nil⟩
  ·obtain⟨m,e5,e⟩:=oB e
   injection e with e
   injection e with ea eb
   exact gen _ m e4 e5 ea.symm eb.symm
end
section
variable{X:Cx}{pos:Pos}
theorem yY{fa fb:FE}{g:M->M->Option M}{σ:L2.St}{H:Hp}{Q:VK}(hq:vE X.K (vB g fa fb) σ H Q) :
  ∃m1 m2 m,g m1 m2=some m/\∀R:V->V->Hp->Prop,(∀H2 Z2 x y,(∀a,Z2 a->H2 a≠none)->Ro X.K H2 Z2 x m1->Ro X.K H2 Z2 y m2->(∀z H3 Z3 G,Ow X.K H3 Z3 z m G->aN H2 Z2 [] H3 Z3 G->Q z H3)->R x y H2) ->
   vE X.K fa σ H λx H1=>vE X.K fb σ H1 λy H2=>R x y H2:=by
 obtain⟨Z,ρ,F,o,ρ',S,w,e,q⟩:=hq;obtain⟨⟨o1,ρ1⟩,e1,e⟩:=oB e;obtain⟨⟨o2,ρ2⟩,e2,e⟩:=oB e;obtain⟨m1,e3,e⟩:=oB e;obtain⟨m2,e4,e⟩:=oB e;obtain⟨m,e5,e⟩:=oB e;cases e;refine⟨m1,m2,m,e5,λR hR=>⟨Z,ρ,F,o1,ρ1,S,w,e1,λx H1 Z1 F1 G1 S1 O1 f1=>⟨Z1,ρ1,F1,o2,ρ2,S1,f1.left.wf,e2,λy H2 Z2 F2 G2 S2 O2 f2=>?_⟩⟩⟩
 have O1':=O1.mono (dR e3) (f2.grow f1.left.wf) (f1.p5 f2);exact hR H2 Z2 x y f2.za (O1'.peek S2 (dQ e3)) (O2.peek S2 e4) λz H3 Z3 G h3 n=>q z H3 Z3 F2 G (S2.news n f2.left.wf) (.t h3) ((f1.left.trans f2.left).trans (n.news f2.left.wf S2.al))
noncomputable def fM(neg:Bool):M->M->Option M
 |.v k,.cz kvs=>(eB k).bind λk=>some (.v (.bool (if neg then !(cN kvs k).isSome else (cN kvs k).isSome)))
 |.v k,.cD kvs=>(eB k).bind λk=>some (.v (.bool (if neg then !(cN kvs k).isSome else (cN kvs k).isSome)))
 |.v (.str i),.v (.str j)=>some (.v (.bool (if neg then !(!(GA j i 0 j.length 1).isEmpty) else !(GA j i 0 j.length 1).isEmpty)))
 |m1,m2=>CW neg m1 m2
theorem wj{K:AC}{H:Hp}{Z:Zs}:∀{kxs:List (Key×V)}{kvs:List (Key×List Ap)}{G:List Addr}{k:Key},iC K H Z kxs kvs G->(fP kxs k).isSome=(cN kvs k).isSome:=by
 intro kxs kvs G k h
 induction h with
 |nil=>rfl
 |@cons k' _ _ _ _ _ _ h f r ih=>
  unfold cN;rw[Fe]
  by_cases hk:k'=k
  ·subst hk
   simp only[decide_true,HQ];rw[eS rfl];rfl
  ·simp only[hk,decide_false]
   rw[eT hk];exact ih
theorem uf{K:AC}{H:Hp}{Z:Zs}{kxs:List (Key×V)}{kvs:List (Key×Ap)}{k:Key}(h:fU K H Z kxs kvs):(fP kxs k).isSome=(cN kvs k).isSome:=by
 obtain⟨h1,h2⟩:=oh (k:=k) h;cases e:cN kvs k with
 |none=>rw[h1 e]; rfl
 |some d=>obtain⟨x,h3,_⟩:=h2 d e; rw[h3]; rfl
theorem wk{neg:Bool}{fa fb:FE}{σ:L2.St}{H:Hp}{Q:VK}{rs:R2}(hrs:rs=λx y H Q=>∃i j,x=.str i/\y=.str j/\Q (.bl (if neg then !(!(GA j i 0 j.length 1).isEmpty) else !(GA j i 0 j.length 1).isEmpty)) H)(hq:vE X.K (vB (fM neg) fa fb) σ H Q) :
  (Au (rM X.K (CW neg)) (vE X.K fa) (vE X.K fb) σ H Q\/Au rs (vE X.K fa) (vE X.K fb) σ H Q)\/(λσ H Q=>vE X.K fa σ H λy H1=>vE X.K fb σ H1 λx H2=>∃a o,x=.ref a/\iV H2 a y o/\Q (.bl (if neg then !o.isSome else o.isSome)) H2:TE) σ H Q:=by
 obtain⟨m1,m2,m,e,h⟩:=yY hq;unfold fM at e
 split at e
 ·obtain⟨k,e1,e⟩:=oB e
  cases e;refine .inr (h _ λH2 Z2 x y za h1 h2 fin=>?_)
  obtain⟨a,kxs,rfl,he,fk⟩:=h2.cz;obtain rfl:=eE h1.fz e1;refine⟨a,_,rfl,iV.k he,?_⟩;rw[uf fk];exact cg fin za (.bl _)
 ·obtain⟨k,e1,e⟩:=oB e
  cases e;refine .inr (h _ λH2 Z2 x y za h1 h2 fin=>?_)
  obtain⟨a,kxs,G,rfl,he,fk⟩:=h2.cD;obtain rfl:=eE h1.fz e1;refine⟨a,_,rfl,iV.k he,?_⟩;rw[wj fk];exact cg fin za (.bl _)
 ·cases e
  refine .inl (.inr (h _ λH2 Z2 x y za h1 h2 fin=>?_))
  obtain rfl:=h1.str; obtain rfl:=h2.str;rw[hrs];exact⟨_,_,rfl,rfl,cg fin za (.bl _)⟩
 ·exact .inl (.inl (h _ λH2 Z2 x y za h1 h2 fin=>⟨Z2,_,_,_,za,h1,h2,e,fin⟩))
theorem ve_in{a b:Expr}{fa fb:FE}(hu:X.A.units+64<cLine)(ha:VE X a fa)(hb:VE X b fb)(hm:FM .In b=false:=by rfl):VE X (.Compare a [.In] [b] pos) (vB (fM false) fa fb) :=
 bR (q9 (q9 (nE (AI hu) ha hb hm) (nE mq ha hb hm)) (Bc (vz (by lia) ha hb) hm)) λ_ _ _ hq=>wk rfl hq
theorem vt_in{a b:Expr}{fa fb:FE}(hu:X.A.units+64<cLine)(ha:VE X a fa)(hb:VE X b fb)(hm:FM .In b=false:=by rfl):VT X (.Compare a [.In] [b] pos) (aW (vB (fM false) fa fb)) :=
 nY (nZ (nZ (jc (AI hu) ha hb hm) (jc mq ha hb hm)) (uR (vz (by lia) ha hb) hm)) λ_ _ _ hq=>wk rfl (DO hq)
theorem wm{a b:Expr}{fa fb:FE}(hu:X.A.units+64<cLine)(ha:VE X a fa)(hb:VE X b fb)(hm:FM .NotIn b=false:=by rfl):VT X (.Compare a [.NotIn] [b] pos) (aW (vB (fM true) fa fb)) :=
 nY (nZ (nZ (jc (wc hu) ha hb hm) (jc nD ha hb hm)) (uR (t6 (by lia) ha hb) hm)) λ_ _ _ hq=>wk rfl (DO hq)
noncomputable def qc:M->Option Bool
 |.v .none=>some false
 |.v (.bool b)=>some b
 |.v (.int i)=>some (i != 0)
 |.v (.str y)=>if y.length<=lim then some ((y.length:Int) != 0) else none
 |.v (.tuple ds)=>some (!ds.isEmpty)
 |.v (.list ds)=>some (!ds.isEmpty)
 |.lst ds=>some (!ds.isEmpty)
 |.cz kvs=>some (!kvs.isEmpty)
 |.cD kvs=>some (!kvs.isEmpty)
 |_=>none
noncomputable def lZ(f:FE):FT:=λρ=>(f ρ).bind λp=>(peek p.2 p.1).bind λm=>(qc m).bind λb=>some (b,p.2)
theorem DF{α β:Type}{xs:List α}{ys:List β}(h:xs.length=ys.length):(!xs.isEmpty) = !ys.isEmpty:=by
 cases xs <;> cases ys <;> simp_all
theorem Ro.Ei{K:AC}{H:Hp}{Z:Zs}{x:V}{m:M}{b:Bool}(h:Ro K H Z x m)(e:qc m=some b):TruV K x H b:=by
 have seqs:∀{ds:List Ap},VL.seq m=some ds->some (!ds.isEmpty)=some b->TruV K x H b:=λ{ds}e1 e2=>by
  obtain⟨a,xs,rfl,hq,f⟩:=h.seq e1;cases e2;rcases hq with hq | hq
  ·exact .inl ⟨xs,hq,(DF f.length).symm⟩
  ·exact .inr (.inl ⟨xs,hq,(DF f.length).symm⟩)
 cases m with
 |v d=>
  cases d with
  |none=>cases e; obtain rfl:=h.fz.sF; exact rfl
  |bool _=>cases e; obtain rfl:=h.bl; exact rfl
  |int _=>cases e; obtain rfl:=h.int; exact rfl
  |str y=>
   have e:(if y.length<=lim then some ((y.length:Int) != 0) else none)=some b:=e
   split at e
   ·next hl=>cases e; obtain rfl:=h.str; exact⟨gQ hl,rfl⟩
   ·cases e
  |tuple ds=>exact seqs rfl e
  |list ds=>exact seqs rfl e
  |dict _=>cases e
 |lst ds=>exact seqs rfl e
 |cz kvs=>
  cases e;obtain⟨a,kxs,rfl,he,fk⟩:=h.cz;exact .inr (.inr ⟨kxs,he,(DF fk.length).symm⟩)
 |dtp kvs=>cases e
 |lls _=>cases e
 |dre _ _ _=>cases e
 |fn _ _=>cases e
 |cD kvs=>
  cases e;obtain⟨a,kxs,G,rfl,he,fk⟩:=h.cD;refine .inr (.inr ⟨kxs,he,(DF ?_).symm⟩)
  clear he h seqs
  induction fk with
  |nil=>rfl
  |cons _ _ _ ih=>rw[E7,E7,ih]
theorem B8{e:Expr}{f:FE}(h:VE X e f)(he:∀whole,KG e X.env whole=(do let v <-whole; IY e.pos; Hu [v] (truthy v)):=by intro _; rfl):VT X e (lZ f):=nY (u9 h he) λσ H Q hq=>by
 obtain⟨Z,ρ,F,b,ρ',S,w,e,q⟩:=hq;obtain⟨⟨o1,ρ1⟩,e1,e⟩:=oB e;obtain⟨m,e2,e⟩:=oB e;obtain⟨b',e3,e⟩:=oB e;cases e;exact⟨Z,ρ,F,o1,ρ1,S,w,e1,λx H1 Z1 F1 G1 S1 O1 f1=>⟨_,(O1.peek S1 e2).Ei e3,q H1 Z1 F1 S1 f1.left⟩⟩
abbrev FO:=Ev->Option (Option Int×Ev)
inductive vO(K:AC)(f:FO)(σ:L2.St)(H:Hp)(Q:Option Int->Hp->Prop):Prop
 |mk (Z:Zs) (ρ:Ev) (F:List Addr) (o:Option Int) (ρ':Ev):bh K H Z σ ρ F->Wf H Z F->f ρ=some (o,ρ')->(∀H' Z' F',bh K H' Z' σ ρ' F'->aN H Z F H' Z' F'->Q o H')->vO K f σ H Q
noncomputable def oi:FO:=λρ=>some (none,ρ)
noncomputable def om(f:FE):FO:=λρ=>(f ρ).bind λp=>(peek p.2 p.1).bind λm=>match m with
 |.v (.int i)=>some (some i,p.2)
 |_=>none
theorem yZ:PO X none (vO X.K oi):=λpins s σ H Q I hq=>yC pins s σ H Q I (by
 obtain⟨Z,ρ,F,o,ρ',S,w,e,q⟩:=hq;cases e;exact q H Z F S (aN.refl w))
theorem zb{e:Expr}{f:FE}(h:VE X e f):PO X (some e) (vO X.K (om f)):=λpins s σ H Q I hq=>yD h pins s σ H Q I (by
 obtain⟨Z,ρ,F,o,ρ',S,w,e,q⟩:=hq;obtain⟨⟨o1,ρ1⟩,e1,e⟩:=oB e;obtain⟨m1,e3,e⟩:=oB e;refine⟨Z,ρ,F,o1,ρ1,S,w,e1,λx H1 Z1 F1 G1 S1 O1 f1=>?_⟩
 split at e
 ·cases e
  obtain rfl:=(O1.peek S1 e3).int;exact⟨_,rfl,q H1 Z1 F1 S1 f1.left⟩
 ·cases e)
noncomputable def cutD(ds:List Ap)(lo hi:Option Int):List Ap:=(ds.drop (HT.cP ds.length 0 lo)).take (HT.cP ds.length ds.length hi-HT.cP ds.length 0 lo)
theorem rf{K:AC}{H:Hp}{Z:Zs}{xs:List V}{ds:List Ap}(r:bB K H Z xs ds)(lo hi:Option Int):bB K H Z (kB xs lo hi) (cutD ds lo hi):=by
 unfold kB cutD;rw[r.length];exact(r.drop _).take _
noncomputable def CY(lo hi:Option Int):M->Option M
 |.v (.tuple ds)=>some (.v (.tuple (cutD ds lo hi)))
 |.lst ds=>some (.lst (cutD ds lo hi))
 |.v (.list ds)=>some (.lst (cutD ds lo hi))
 |_=>none
noncomputable def DG(fa:FE)(fl fh:FO):FE:=λρ=>(fa ρ).bind λp=>(fl p.2).bind λl=>(fh l.2).bind λh=>(jl h.2 p.1).bind λm=>(CY l.1 h.1 m).bind λm'=>some (.t m',h.2)
theorem yE.or{r r':V->Option Int->Option Int->Hp->VK->Prop}(h:yE X r)(h':yE X r'):yE X (λx lo hi H Q=>r x lo hi H Q\/r' x lo hi H Q):=by
 intro pins s σ H x v vl vu lo hi sl Q I rx hs pl pu q;rcases q with q | q
 ·exact h pins s σ H x v vl vu lo hi sl Q I rx hs pl pu q
 ·exact h' pins s σ H x v vl vu lo hi sl Q I rx hs pl pu q
theorem ve_sl{e:Expr}{lo hi:Option Expr}{p2:Pos}{fa:FE}{fl fh:FO}(ha:VE X e fa)(hl:PO X lo (vO X.K fl))(hh:PO X hi (vO X.K fh)):VE X (.Subscript e (.Slice lo hi none p2) pos) (DG fa fl fh):=bR (vj (yE.or yU yI) ha hl hh) λσ H Q hq=>by
 obtain⟨Z,ρ,F,o,ρ',S,w,e,q⟩:=hq;obtain⟨⟨o1,ρ1⟩,e1,e⟩:=oB e;obtain⟨⟨l,ρ2⟩,e2,e⟩:=oB e;obtain⟨⟨h,ρ3⟩,e3,e⟩:=oB e;obtain⟨m,e4,e⟩:=oB e;obtain⟨m',e5,e⟩:=oB e;cases e;refine⟨Z,ρ,F,o1,ρ1,S,w,e1,λx H1 Z1 F1 G1 S1 O1 f1=>⟨Z1,ρ1,F1,l,ρ2,S1,f1.left.wf,e2,λH2 Z2 F2 S2 f2=>⟨Z2,ρ2,F2,h,ρ3,S2,f2.wf,e3,λH3 Z3 F3 S3 f3=>?_⟩⟩⟩
 have f23:=f2.trans f3;have O1':=O1.mono (dR e4) (f23.grow f1.left.wf) (f1.p5 f23);have r:=O1'.peek S3 (dQ e4);have fin:∀z H4 Z4 G,Ow X.K H4 Z4 z m' G->aN H3 Z3 [] H4 Z4 G->Q z H4:=λz H4 Z4 G h4 n=>q z H4 Z4 F3 G (S3.news n f3.wf) (.t h4) ((f1.left.trans f23).trans (n.news f3.wf S3.al))
 unfold CY at e5
 split at e5
 ·cases e5
  obtain⟨a,xs,rfl,hx,fx⟩:=r.tup;exact .inl ⟨a,xs,rfl,hx,λr H' s' t=>endS fin f3.za s' (.tup t ((rf fx _ _).mono (aG.same s')))⟩
 ·cases e5
  obtain⟨a,xs,rfl,hx,fx⟩:=r.jE rfl;exact .inr ⟨a,xs,rfl,hx,λp hp=>p6 fin f3.za hp (rf fx _ _)⟩
 ·cases e5
  obtain⟨a,xs,rfl,hx,fx⟩:=r.jE rfl;exact .inr ⟨a,xs,rfl,hx,λp hp=>p6 fin f3.za hp (rf fx _ _)⟩
 ·cases e5
end
section
variable{α:Type}
noncomputable def ins(lt:α->α->Bool)(x:α):List α->List α
 |[]=>[x]
 |y::ys=>if lt y x=true then y::ins lt x ys else x::y::ys
noncomputable def mS(lt:α->α->Bool):List α->List α
 |[]=>[]
 |x::xs=>ins lt x (mS lt xs)
theorem kW(lt:α->α->Bool)(x:α):∀ys:List α,(ins lt x ys).Perm (x::ys)
 |[]=>.refl _
 |y::ys=>by
  unfold ins
  split
  ·exact((kW lt x ys).cons y).trans (.swap x y ys)
  ·exact .refl _
theorem cH(lt:α->α->Bool):∀xs:List α,(mS lt xs).Perm xs
 |[]=>.refl _
 |x::xs=>(kW lt x _).trans ((cH lt xs).cons x)
theorem wo{lt:α->α->Bool}(as:∀a b,lt a b=true->lt b a=false)(tr:∀a b c,lt b a=false->lt c b=false->lt c a=false)(x:α):∀{ys:List α},ys.Pairwise (λa b=>lt b a=false)->(ins lt x ys).Pairwise (λa b=>lt b a=false)
 |[],_=>GZ _ _
 |y::ys,h=>by
  obtain⟨h1,h2⟩:=Hk.mp h;unfold ins
  split
  ·next e=>
   refine Hk.mpr ⟨λz hz=>?_,wo as tr x h2⟩
   rcases lK ((kW lt x ys).mem_iff.mp hz) with hz | hz
   ·subst hz; exact as _ _ e
   ·exact h1 z hz
  ·next e=>
   have e:lt y x=false:=by simpa using e
   refine Hk.mpr ⟨λz hz=>?_,h⟩
   rcases lK hz with hz | hz
   ·subst hz; exact e
   ·exact tr _ _ _ e (h1 z hz)
theorem gU{lt:α->α->Bool}(as:∀a b,lt a b=true->lt b a=false)(tr:∀a b c,lt b a=false->lt c b=false->lt c a=false):∀xs:List α,(mS lt xs).Pairwise (λa b=>lt b a=false)
 |[]=>.nil
 |x::xs=>wo as tr x (gU as tr xs)
end
noncomputable def ltI(a b:Int):Bool:=decide (a<b)
noncomputable def sortI(ns:List Int):List Int:=mS ltI ns
noncomputable def jS(ks:List (List Int)):List (List Int):=mS HT.lexLt ks
theorem iO:∀(a b:List Int),HT.lexLt a b=false->HT.lexLt b a=false->a=b
 |[],[],_,_=>rfl
 |[],_::_,h,_=>by cases h
 |_::_,[],_,h=>by cases h
 |x::xs,y::ys,h,h'=>by
  rw[HT.cF] at h h'
  by_cases e:x=y
  ·subst e
   rw[if_pos rfl] at h h';rw[iO xs ys h h']
  ·rw[if_neg e] at h
   rw[if_neg (Gz e)] at h';have h:=of_decide_eq_false h;have h':=of_decide_eq_false h';lia
theorem iZ{ns ns':List Int}(p:ns'.Perm ns)(s:ns'.Pairwise (·<=·)):ns'=sortI ns:=by
 refine JH (le:=λa b=>ltI b a=false) (λa b _ _ h1 h2=>?_) (s.imp λh=>?_) (gU (λa b h=>?_) (λa b c h1 h2=>?_) ns) (p.trans (cH _ ns).symm)
 ·unfold ltI at h1 h2
  have h1:=of_decide_eq_false h1;have h2:=of_decide_eq_false h2;lia
 ·exact decide_eq_false (by lia)
 ·have h:=of_decide_eq_true h
  exact decide_eq_false (by lia)
 ·have h1:=of_decide_eq_false h1
  have h2:=of_decide_eq_false h2;exact decide_eq_false (by lia)
theorem i0{ns ns':List (List Int)}(p:ns'.Perm ns)(s:ns'.Pairwise λa b=>HT.lexLt b a=false):ns'=jS ns :=
 JH (le:=λa b=>HT.lexLt b a=false) (λa b _ _ h1 h2=>iO a b h2 h1) s (gU gn fu ns) (p.trans (cH _ ns).symm)
noncomputable def tI(ns:List Int):Ap:=.tuple (ns.map .int)
noncomputable def Ej:Ap->Option (List Int)
 |.tuple ds=>gx ds
 |_=>none
noncomputable def ug:List Ap->Option (List (List Int))
 |[]=>some []
 |d::ds=>(Ej d).bind λi=>(ug ds).bind λis=>some (i::is)
theorem kX:∀{ds:List Ap}{ks:List (List Int)},ug ds=some ks->ds=ks.map tI:=by
 intro ds
 induction ds with
 |nil=>intro _ e; cases e; rfl
 |cons d ds ih=>
  intro _ e;obtain⟨i,e1,e⟩:=oB e;obtain⟨is,e2,e⟩:=oB e;cases e;rw[ih e2];cases d with
  |tuple xs=>rw[EH]; unfold tI; rw[cR e1]
  |_=>cases e1
theorem sL:∀(ks:List (List Int)),ug (ks.map tI)=some ks
 |[]=>rfl
 |k::ks=>by show (gx (k.map .int)).bind _=_; rw[eL,EB,sL ks]; rfl
theorem bB.D3{K:AC}{H:Hp}{Z:Zs}:∀{ks:List (List Int)}{xs:List V},bB K H Z xs (ks.map tI)->Dl K H xs ks:=by
 intro ks
 induction ks with
 |nil=>intro xs h; cases h; exact .nil
 |cons k ks ih=>
  intro xs h;cases h with | cons h r=>
  exact .cons (by obtain⟨a,xs,e1,e2,e3⟩:=h.gu; rw[e3.cQ] at e2; exact⟨a,e1,e2⟩) (ih r)
theorem bB.rg{K:AC}{H:Hp}{Z:Zs}{xs:List V}{ks:List (List Int)}(r:Dl K H xs ks):∀(zs:List (V×List Int)),(∀z∈zs,z∈xs.zip ks)->bB K H Z (zs.map (·.1)) ((zs.map (·.2)).map tI)
 |[],_=>.nil
 |z::zs,h=>.cons (by
  have hz:=h z lS;have:∀{xs:List V}{ks:List (List Int)},Dl K H xs ks->z∈xs.zip ks->∃a,z.1=.ref a/\dJ K H a (z.2.map V.int):=λ{xs ks}r hz=>by
   induction r with
   |nil=>simp at hz
   |cons q _ ih=>
    rw[GB] at hz;rcases lK hz with hz | hz
    ·subst hz; exact q
    ·exact ih hz
  obtain⟨a,e1,e2⟩:=this r hz;show Fz K H Z z.1 (tI z.2);rw[e1];exact .tup e2 (bB.ints _)) (bB.rg r zs λz' h'=>h z' (lO _ h'))
noncomputable def inlK:Key->Option Int
 |.inl i=>some i
 |.inr _=>none
noncomputable def inls:List Key->Option (List Int)
 |[]=>some []
 |k::ks=>(inlK k).bind λi=>(inls ks).bind λis=>some (i::is)
theorem qd:∀{ks:List Key}{is:List Int},inls ks=some is->ks=is.map GP:=by
 intro ks
 induction ks with
 |nil=>intro _ e; cases e; rfl
 |cons k ks ih=>
  intro _ e;obtain⟨i,e1,e⟩:=oB e;obtain⟨is,e2,e⟩:=oB e;cases e;rw[ih e2];cases k with
  |inl j=>cases e1; rfl
  |inr _=>cases e1
noncomputable def jT(ds:List Ap):Option (List Ap) :=
 if ds.length<64 then
  match gx ds with
  |some ns=>some ((sortI ns).map .int)
  |none=>(ug ds).bind λks=>if ks.all (λk=> !k.isEmpty)=true then some ((jS ks).map tI) else none
 else none
noncomputable def c7:List M->Option M
 |[.cz kvs]=>(inls (kvs.map (·.1))).bind λns=>if ns.length<64 then some (.lst ((sortI ns).map .int)) else none
 |[.cD kvs]=>(inls (kvs.map (·.1))).bind λns=>if ns.length<64 then some (.lst ((sortI ns).map .int)) else none
 |[.v (.tuple ds)]=>(gx ds).bind λns=>if ns.length<64 then some (.lst ((sortI ns).map .int)) else none
 |[m]=>(jE m).bind λds=>(jT ds).bind λes=>some (.lst es)
 |_=>none
theorem iC.keys{K:AC}{H:Hp}{Z:Zs}:∀{xs:List (Key×V)}{ds:List (Key×List Ap)}{G:List Addr},iC K H Z xs ds G->xs.map (·.1)=ds.map (·.1):=by
 intro xs ds G h
 induction h with
 |nil=>rfl
 |cons _ _ r ih=>rw[EH,EH,ih]
section
variable{X:Cx}{pos:Pos}
theorem eW{K:AC}{H:Hp}{Z:Zs}{xs:List V}{m:M}(h:CV K H Z xs [m]):∃x,xs=[x]/\Ro K H Z x m:=by
 cases h with
 |cons h r=>cases r; exact⟨_,rfl,h⟩
theorem wu{K:AC}{H:Hp}{Z:Zs}{xs:List V}{m m':M}(h:CV K H Z xs [m,m']):∃x y,xs=[x,y]/\Ro K H Z x m/\Ro K H Z y m':=by
 cases h with
 |cons h r=>cases r with
  |cons h' r=>cases r; exact⟨_,_,rfl,h,h'⟩
theorem c8(hc:X.calm=true):aZ X (.builtin "sorted") (lY X.K c7):=by
 intro pins s σ H xs us Q I rs h;obtain⟨Z,ms,m,za,hr,e,q⟩:=h;have hInt:∀{ns ns':List Int}{l:Addr},(∀z H' Z' G,Ow X.K H' Z' z (.lst ((sortI ns).map .int)) G->aN H Z [] H' Z' G->Q z H')->ns'.Perm ns->ns'.Pairwise (·<=·)->H l=none->Q (.ref l) (upd H l (.lst (ns'.map V.int))):=λ{ns ns' l}q p w hl=>by
  rw[iZ p w];exact p6 q za hl (bB.ints _)
 unfold c7 at e
 split at e
 ·obtain⟨ns,e1,e⟩:=oB e
  split at e
  ·next h64=>
   cases e;obtain⟨x,rfl,h1⟩:=eW hr;obtain⟨a,kxs,rfl,he,fk⟩:=h1.cz;exact fT hc pins s σ H _ us Q I rs ⟨a,kxs,ns,rfl,he,by rw[fk.keys,qd e1],h64,λns' l p w hl=>hInt q p w hl⟩
  ·cases e
 ·obtain⟨ns,e1,e⟩:=oB e
  split at e
  ·next h64=>
   cases e;obtain⟨x,rfl,h1⟩:=eW hr;obtain⟨a,kxs,G,rfl,he,fk⟩:=h1.cD;exact fT hc pins s σ H _ us Q I rs ⟨a,kxs,ns,rfl,he,by rw[fk.keys,qd e1],h64,λns' l p w hl=>hInt q p w hl⟩
  ·cases e
 ·obtain⟨ns,e1,e⟩:=oB e
  split at e
  ·next h64=>
   cases e;obtain⟨x,rfl,h1⟩:=eW hr;obtain⟨a,xs,rfl,hx,fx⟩:=h1.tup;rw[cR e1] at fx;rw[fx.cQ] at hx;exact fR pins s σ H _ us Q I rs ⟨a,ns,rfl,.inr hx,h64,λns' l p w hl=>hInt q p w hl⟩
  ·cases e
 ·next m0 _ _ _=>
  obtain⟨ds,e1,e⟩:=oB e;obtain⟨es,e2,e⟩:=oB e;cases e;obtain⟨x,rfl,h1⟩:=eW hr;obtain⟨a,xs,rfl,hx,fx⟩:=h1.jE e1;unfold jT at e2
  split at e2
  ·next h64=>
   split at e2
   ·next ns e3=>
    cases e2;rw[cR e3] at fx h64;rw[fx.cQ] at hx;exact fR pins s σ H _ us Q I rs ⟨a,ns,rfl,.inl hx,by simpa using h64,λns' l p w hl=>hInt q p w hl⟩
   ·obtain⟨ks,e3,e2⟩:=oB e2
    split at e2
    ·next hne=>
     cases e2;rw[kX e3] at fx;have hl:xs.length=ks.length:=by rw[fx.length,At]
     have ht:=fx.D3;refine fS pins s σ H _ us Q I rs ⟨a,xs,ks,rfl,.inl hx,ht,λt h z=>?_,?_,λzs l p w hl' =>?_⟩
     ·have:=HK.mp hne t h
      rw[z] at this;cases this
     ·have:ds.length=ks.length:=by rw[kX e3,At]
      lia
     ·have e:zs.map (·.2)=jS ks:=i0 ((p.map (·.2)).trans (by rw[IE (by lia)])) w
      have:=bB.rg (Z:=Z) ht zs λz h=>p.mem_iff.mp h
      rw[e] at this;exact p6 q za hl' this
    ·cases e2
  ·cases e2
 ·cases e
noncomputable def bT:List M->Option M
 |[.cz kvs]=>some (.v (.int kvs.length))
 |[.cD kvs]=>some (.v (.int kvs.length))
 |[.v (.str z)]=>if z.length<=lim then some (.v (.int z.length)) else none
 |[m]=>(seq m).bind λds=>some (.v (.int ds.length))
 |_=>none
theorem iC.length{K:AC}{H:Hp}{Z:Zs}:∀{xs:List (Key×V)}{ds:List (Key×List Ap)}{G:List Addr},iC K H Z xs ds G->xs.length=ds.length
 |_,_,_,.nil=>rfl
 |_,_,_,.cons _ _ r=>by rw[E7,E7,iC.length r]
theorem ck:aZ X (.builtin "len") (lY X.K bT):=by
 intro pins s σ H xs us Q I rs h;obtain⟨Z,ms,m,za,hr,e,q⟩:=h;unfold bT at e
 split at e
 ·cases e
  obtain⟨x,rfl,h1⟩:=eW hr;obtain⟨a,kxs,rfl,he,fk⟩:=h1.cz;exact mK pins s σ H _ us Q I rs ⟨a,kxs,rfl,he,by rw[fk.length]; exact cg q za (.int _)⟩
 ·cases e
  obtain⟨x,rfl,h1⟩:=eW hr;obtain⟨a,kxs,G,rfl,he,fk⟩:=h1.cD;exact mK pins s σ H _ us Q I rs ⟨a,kxs,rfl,he,by rw[fk.length]; exact cg q za (.int _)⟩
 ·split at e
  ·next hl=>
   cases e;obtain⟨x,rfl,h1⟩:=eW hr;obtain rfl:=h1.str;exact nL pins s σ H _ us Q I rs ⟨_,rfl,gQ hl,cg q za (.int _)⟩
  ·cases e
 ·obtain⟨ds,e1,e⟩:=oB e
  cases e;obtain⟨x,rfl,h1⟩:=eW hr;obtain⟨a,ys,rfl,hx,fx⟩:=h1.seq e1;exact nK pins s σ H _ us Q I rs ⟨a,ys,rfl,hx,by rw[fx.length]; exact cg q za (.int _)⟩
 ·cases e
noncomputable def d8:List M->Option M
 |[m]=>(seq m).bind λds=>some (.v (.tuple ds))
 |_=>none
theorem cT:aZ X (.type "tuple") (lY X.K d8):=by
 intro pins s σ H xs us Q I rs h;obtain⟨Z,ms,m,za,hr,e,q⟩:=h;unfold d8 at e
 split at e
 ·obtain⟨ds,e1,e⟩:=oB e
  cases e;obtain⟨x,rfl,h1⟩:=eW hr;obtain⟨a,ys,rfl,hx,fx⟩:=h1.seq e1;refine lQ pins s σ H _ us Q I rs ⟨a,ys,rfl,?_⟩;rcases hx with hx | hx
  ·exact .inl ⟨hx,λl hl=>endT q za hl fx⟩
  ·exact .inr ⟨hx,cg q za (.tup hx fx)⟩
 ·cases e
noncomputable def jg:List M->Option M
 |[m]=>(seq m).bind λds=>some (.lst ds)
 |_=>none
theorem sM:aZ X (.type "list") (lY X.K jg):=by
 intro pins s σ H xs us Q I rs h;obtain⟨Z,ms,m,za,hr,e,q⟩:=h;unfold jg at e
 split at e
 ·obtain⟨ds,e1,e⟩:=oB e
  cases e;obtain⟨x,rfl,h1⟩:=eW hr;obtain⟨a,ys,rfl,hx,fx⟩:=h1.seq e1;exact nM pins s σ H _ us Q I rs ⟨a,ys,rfl,hx,λl hl=>p6 q za hl fx⟩
 ·cases e
noncomputable def absM:List M->Option M
 |[.v (.int i)]=>some (.v (.int (if i<0 then -i else i)))
 |_=>none
noncomputable def mT:List M->Option M
 |[.v (.int i)]=>some (.v (.int i))
 |[.v (.bool k)]=>some (.v (.int (if k then 1 else 0)))
 |_=>none
theorem B9:aZ X (.type "int") (lY X.K mT):=by
 intro pins s σ H xs us Q I rs h;obtain⟨Z,ms,m,za,hr,e,q⟩:=h;unfold mT at e
 split at e
 ·cases e
  obtain⟨x,rfl,h1⟩:=eW hr;obtain rfl:=h1.int;exact mw pins s σ H _ us Q I rs (.inl ⟨_,rfl,cg q za (.int _)⟩)
 ·cases e
  obtain⟨x,rfl,h1⟩:=eW hr;obtain rfl:=h1.bl;exact mw pins s σ H _ us Q I rs (.inr ⟨_,rfl,cg q za (.int _)⟩)
 ·cases e
noncomputable def uh:List Int->Option Int
 |[]=>none
 |n::ns=>match uh ns with
  |none=>some n
  |some k=>some (if k<n then k else n)
theorem mU:∀{ns:List Int}{k:Int},uh ns=some k->k∈ns/\∀a∈ns,k<=a
 |[],_,e=>by cases e
 |n::ns,k,e=>by
  unfold uh at e;cases h:uh ns with
  |none=>
   rw[h] at e; cases e;cases ns with
   |nil=>exact⟨lS,λa ha=>by rw[Do.mp ha]; exact Ko _⟩
   |cons y ys=>unfold uh at h; split at h <;> cases h
  |some j=>
   rw[h] at e;have e:(if j<n then j else n)=k:=EQ e
   obtain⟨h1,h2⟩:=mU h
   by_cases c:j<n
   ·rw[if_pos c] at e; subst e
    exact⟨lO _ h1,λa ha=>by
     rcases lK ha with ha | ha
     ·subst ha; lia
     ·exact h2 a ha⟩
   ·rw[if_neg c] at e; subst e
    exact⟨lS,λa ha=>by
     rcases lK ha with ha | ha
     ·subst ha; lia
     ·have:=h2 a ha; lia⟩
noncomputable def um:List M->Option M
 |[.v (.int i),.v (.int j)]=>some (.v (.int (if j<i then j else i)))
 |[m]=>(jE m).bind λds=>(gx ds).bind λns=>(uh ns).bind λk=>some (.v (.int k))
 |_=>none
theorem wz(hc:X.calm=true):aZ X (.builtin "min") (lY X.K um):=by
 intro pins s σ H xs us Q I rs h;obtain⟨Z,ms,m,za,hr,e,q⟩:=h;unfold um at e
 split at e
 ·cases e
  obtain⟨x,y,rfl,h1,h2⟩:=wu hr;obtain rfl:=h1.int; obtain rfl:=h2.int;exact tV hc pins s σ H _ us Q I rs ⟨_,_,rfl,cg q za (.int _)⟩
 ·obtain⟨ds,e1,e⟩:=oB e
  obtain⟨ns,e2,e⟩:=oB e;obtain⟨k,e3,e⟩:=oB e;cases e;obtain⟨x,rfl,h1⟩:=eW hr;obtain⟨a,ys,rfl,hx,fx⟩:=h1.jE e1;rw[cR e2] at fx;rw[fx.cQ] at hx;obtain⟨k1,k2⟩:=mU e3;refine lV hc pins s σ H _ us Q I rs ⟨a,ns,rfl,hx,λz=>by rw[z] at k1; simp at k1,λM h1 h2=>?_⟩
  have:M=k:=Jd (h2 k k1) (k2 M h1);subst this;exact cg q za (.int _)
 ·cases e
noncomputable def kY:List M->Option M
 |[.v (.int i),.v (.int j)]=>some (.v (.int (if j>i then j else i)))
 |_=>none
theorem oq(hc:X.calm=true):aZ X (.builtin "max") (lY X.K kY):=by
 intro pins s σ H xs us Q I rs h;obtain⟨Z,ms,m,za,hr,e,q⟩:=h;unfold kY at e
 split at e
 ·cases e
  obtain⟨x,y,rfl,h1,h2⟩:=wu hr;obtain rfl:=h1.int; obtain rfl:=h2.int;exact tU hc pins s σ H _ us Q I rs ⟨_,_,rfl,cg q za (.int _)⟩
 ·cases e
noncomputable def Ek:Ap->Option Bool
 |.bool b=>some b
 |_=>none
noncomputable def ou:List Ap->Option (List Bool)
 |[]=>some []
 |d::ds=>(Ek d).bind λi=>(ou ds).bind λis=>some (i::is)
theorem wB:∀{ds:List Ap}{is:List Bool},ou ds=some is->ds=is.map .bool:=by
 intro ds
 induction ds with
 |nil=>intro _ e; cases e; rfl
 |cons d ds ih=>
  intro _ e;obtain⟨i,e1,e⟩:=oB e;obtain⟨is,e2,e⟩:=oB e;cases e;rw[ih e2];cases d <;> cases e1
  rfl
theorem i6:∀(is:List Bool),ou (is.map .bool)=some is
 |[]=>rfl
 |i::is=>by show (some i).bind _=_; rw[EB,i6 is]; rfl
theorem bB.uo{K:AC}{H:Hp}{Z:Zs}:∀{ns:List Bool}{xs:List V},bB K H Z xs (ns.map .bool)->xs=Dm ns:=by
 intro ns
 induction ns with
 |nil=>intro xs h; cases h; rfl
 |cons n ns ih=>
  intro xs h;cases h with | cons q r=>
  cases q;rw[ih r]; rfl
noncomputable def allM(any:Bool):List M->Option M
 |[m]=>(jE m).bind λds=>(ou ds).bind λbs=>some (.v (.bool (if any then bs.any id else bs.all id)))
 |_=>none
theorem wC(hc:X.calm=true):aZ X (.builtin "all") (lY X.K (allM false)):=by
 intro pins s σ H xs us Q I rs h;obtain⟨Z,ms,m,za,hr,e,q⟩:=h;unfold allM at e
 split at e
 ·obtain⟨ds,e1,e⟩:=oB e
  obtain⟨bs,e2,e⟩:=oB e;cases e;obtain⟨x,rfl,h1⟩:=eW hr;obtain⟨a,ys,rfl,hx,fx⟩:=h1.jE e1;rw[wB e2] at fx;rw[fx.uo] at hx;exact kM hc pins s σ H _ us Q I rs ⟨a,bs,rfl,hx,cg q za (.bl _)⟩
 ·cases e
theorem ve_cb{id:String}{x:Str}{p:Pos}{e:Expr}{es:List Expr}{g:List M->Option M}{fa:FA}(hc:aZ X (.builtin id) (lY X.K g))(hg:Gl X x)(hm:X.mg x=none)(hv:Gk x=some (.builtin id))(ha:VA X (e::es) fa)(hn:x ≠ "__name__" := by decide)(hdb:(x == ("__debug__" : Str))=false:=by decide)
  (he:E6 (e::es) X.env=(false,eval e X.env)::E6 es X.env:=by rfl) (hpl:(HX pos (E6 es X.env)).any (·.1)=false:=by rfl):VE X (.Call (.Name x p) (e::es) [] pos) (bF g fa):=bR (ve hc hg hm hv ha hn hdb he hpl) λ_ _ _=>many AF
theorem ve_ct{T:String}{x:Str}{p:Pos}{e:Expr}{es:List Expr}{g:List M->Option M}{fa:FA}(hc:aZ X (.type T) (lY X.K g))(hg:Gl X x)(hm:X.mg x=none)(hv:Gk x=some (.type T))(ha:VA X (e::es) fa)(hn:x ≠ "__name__" := by decide)(hdb:(x == ("__debug__" : Str))=false:=by decide)
  (he:E6 (e::es) X.env=(false,eval e X.env)::E6 es X.env:=by rfl) (hpl:(HX pos (E6 es X.env)).any (·.1)=false:=by rfl):VE X (.Call (.Name x p) (e::es) [] pos) (bF g fa):=bR (tX hc hg hm hv ha hn hdb he hpl) λ_ _ _=>many AF
end
inductive rj(K:AC)(H:Hp)(Z:Zs):List V->List M->List Addr->Prop
 |nil:rj K H Z [] [] []
 |cons {x:V} {m:M} {G:List Addr} {xs:List V} {ms:List M} {G':List Addr}:Ow K H Z x m G->rj K H Z xs ms G'->rj K H Z (x::xs) (m::ms) (G++G')
noncomputable def cO:List cW->Ev->Option (List M×Ev)
 |[],ρ=>some ([],ρ)
 |.t m::os,ρ=>(cO os ρ).bind λq=>some (m::q.1,q.2)
 |.p i::os,ρ=>(cE ρ i).bind λm=>(cO os (ρ.set i none)).bind λq=>some (m::q.1,q.2)
 |.q _ _::_,_=>none
noncomputable def fW:List cW->List M->Ev->Ev
 |.p i::os,m::ms,ρ=>fW os ms (ρ.set i (some m))
 |_::os,_::ms,ρ=>fW os ms ρ
 |_,_,ρ=>ρ
def uM(ρ:Ev):List cW->Prop
 |[]=>True
 |.p i::os=>ρ[i]? = some none/\.p i∉os/\uM ρ os
 |_::os=>uM ρ os
section
variable{K:AC}{H H':Hp}{Z Z':Zs}{σ:L2.St}
theorem rj.length:∀{xs:List V}{ms:List M}{G:List Addr},rj K H Z xs ms G->xs.length=ms.length:=by
 intro xs ms G h
 induction h with
 |nil=>rfl
 |cons _ r ih=>rw[E7,E7,ih]
theorem sN{ρ:Ev}{i j:Nat}{m:M}(h:cE (ρ.set j none) i=some m):i≠j/\cE ρ i=some m:=by
 have h:=aH.mp h;rw[HF] at h
 split at h
 ·next e=>split at h <;> cases h
 ·next e=>exact⟨λz=>e z.symm,aH.mpr h⟩
theorem wF:∀{os:List cW}{ρ:Ev}{r:List M×Ev}{i:Nat},cO os ρ=some r->.p i∈os->∃m,cE ρ i=some m:=by
 intro os
 induction os with
 |nil=>intro ρ r i e h; simp at h
 |cons o os ih=>
  intro ρ r i e h;cases o with
  |t m=>
   obtain⟨q,e1,_⟩:=oB e;exact ih e1 (by simpa using h)
  |p j=>
   obtain⟨m,e1,e⟩:=oB e;obtain⟨q,e2,_⟩:=oB e;rcases lK h with h | h
   ·cases h; exact⟨m,e1⟩
   ·obtain⟨m',h'⟩:=ih e2 h
    exact⟨m',(sN h').2⟩
  |q _ _=>cases e
theorem rm:∀{os:List cW}{ρ:Ev}{ms:List M}{ρ':Ev}{i:Nat},cO os ρ=some (ms,ρ')->ρ[i]? = some none->ρ'[i]? = some none:=by
 intro os
 induction os with
 |nil=>intro ρ ms ρ' i e h; cases e; exact h
 |cons o os ih=>
  intro ρ ms ρ' i e h;cases o with
  |t m=>
   obtain⟨⟨ms,ρ1⟩,e1,e⟩:=oB e;cases e;exact ih e1 h
  |p j=>
   obtain⟨m,e1,e⟩:=oB e;obtain⟨⟨ms,ρ1⟩,e2,e⟩:=oB e;cases e;refine ih e2 ?_;rw[HF]
   split
   ·next z=>subst z; rw[if_pos (EA.mp h).1]
   ·exact h
  |q _ _=>cases e
theorem mV:∀{os:List cW}{ρ:Ev}{ms:List M}{ρ':Ev},cO os ρ=some (ms,ρ')->uM ρ' os:=by
 intro os
 induction os with
 |nil=>exact λ_=>HC
 |cons o os ih=>
  intro ρ ms ρ' e;cases o with
  |t m=>
   obtain⟨⟨ms,ρ1⟩,e1,e⟩:=oB e;cases e;exact show uM ρ1 os from ih e1
  |p j=>
   obtain⟨m,e1,e⟩:=oB e;obtain⟨⟨ms,ρ1⟩,e2,e⟩:=oB e;cases e;have hl:=(EA.mp (aH.mp e1)).1;refine⟨rm e2 (by rw[Ft hl]),λh=>?_,ih e2⟩
   obtain⟨m',h'⟩:=wF e2 h;exact(sN h').1 rfl
  |q _ _=>cases e
theorem bD{A B:List Addr}(h:(A++B).Nodup):A.Nodup/\B.Nodup/\∀a∈A,a∉B:=by
 have h':=E2.mp h;exact⟨h'.1,h'.2.1,λa x y=>h'.2.2 a x a y rfl⟩
theorem qe:∀{os:List cW}{xs:List V}{ρ:Ev}{F G:List Addr}{ms:List M}{ρ':Ev},bh K H Z σ ρ F->jD K H Z σ xs os G->(F++G).Nodup->cO os ρ=some (ms,ρ') ->
  ∃A F',rj K H Z xs ms A/\bh K H Z σ ρ' F'/\(F'++A).Nodup/\∀a∈F'++A,a∈F++G:=by
 intro os
 induction os with
 |nil=>
  intro xs ρ F G ms ρ' S r nd e;cases r;cases e;exact⟨[],F,.nil,S,nd,λ_ h=>h⟩
 |cons o os ih=>
  intro xs ρ F G ms ρ' S r nd e;cases r with | @cons _ _ G1 _ _ G2 q r=>
  cases q with
  |q _ _ _=>cases e
  |t q=>
   obtain⟨⟨ms,ρ1⟩,e1,e⟩:=oB e;cases e;obtain⟨n1,n2,n3⟩:=bD nd;obtain⟨n4,n5,n6⟩:=bD n2;obtain⟨A,F',h1,h2,h3,h4⟩:=ih S r (aS n1 n5 λa h z=>n3 a h (lR _ z)) e1
   obtain⟨k1,k2,k3⟩:=bD h3;have far:∀a∈G1,a∉F++G2:=λa h z=>by
    rcases lM z with z | z
    ·exact n3 a z (lL _ h)
    ·exact n6 a h z
   refine⟨G1++A,F',.cons q h1,h2,aS k1 (aS n4 k2 λa h z=>far a h (h4 a (lR _ z))) λa h z=>?_,λa h=>?_⟩
   ·rcases lM z with z | z
    ·exact far a z (h4 a (lL _ h))
    ·exact k3 a h z
   ·rcases lM h with h | h
    ·rcases lM (h4 a (lL _ h)) with z | z
     ·exact lL _ z
     ·exact lR _ (lR _ z)
    rcases lM h with h | h
    ·exact lR _ (lL _ h)
    ·rcases lM (h4 a (lR _ h)) with z | z
     ·exact lL _ z
     ·exact lR _ (lR _ z)
  |p q=>
   obtain⟨m,e1,e⟩:=oB e;obtain⟨⟨ms,ρ1⟩,e2,e⟩:=oB e;cases e;rw[FJ] at nd ⊢;obtain⟨n1,n2,n3⟩:=bD nd;obtain⟨x',G',F1,t1,t2,t3,t4,t5⟩:=S.take n1 (aH.mp e1);rw[q] at t1; cases t1;obtain⟨u1,u2,u3⟩:=bD t4;obtain⟨A,F',h1,h2,h3,h4⟩:=ih t3 r (aS u1 n2 λa h z=>n3 a (t5 a (lL _ h)) z) e2
   obtain⟨k1,k2,k3⟩:=bD h3;have far:∀a∈G',a∉F1++G2:=λa h z=>by
    rcases lM z with z | z
    ·exact u3 a z h
    ·exact n3 a (t5 a (lR _ h)) z
   have D4:∀a∈F1++G2,a∈F++G2:=λa z=>by
    rcases lM z with z | z
    ·exact lL _ (t5 a (lL _ z))
    ·exact lR _ z
   refine⟨G'++A,F',.cons t2 h1,h2,aS k1 (aS u2 k2 λa h z=>far a h (h4 a (lR _ z))) λa h z=>?_,λa h=>?_⟩
   ·rcases lM z with z | z
    ·exact far a z (h4 a (lL _ h))
    ·exact k3 a h z
   ·rcases lM h with h | h
    ·exact D4 a (h4 a (lL _ h))
    rcases lM h with h | h
    ·exact lL _ (t5 a (lR _ h))
    ·exact D4 a (h4 a (lR _ h))
theorem uM.set{ρ:Ev}{i:Nat}{m:M}:∀{os:List cW},uM ρ os->.p i∉os->uM (ρ.set i (some m)) os
 |[],_,_=>HC
 |.t _::os,h,n=>uM.set (os:=os) h λz=>n (lO _ z)
 |.q _ _::os,h,n=>uM.set (os:=os) h λz=>n (lO _ z)
 |.p j::os,h,n=>by
  obtain⟨h1,h2,h3⟩:=h;refine⟨?_,h2,uM.set h3 λz=>n (lO _ z)⟩
  rw[HF,if_neg λz=>n (by rw[z]; exact lS)]
  exact h1
theorem sO{H0:Hp}{Z0:Zs}:∀{os:List cW}{xs:List V}{ρ:Ev}{F G0 A:List Addr}{ms:List M},bh K H Z σ ρ F->jD K H0 Z0 σ xs os G0->rj K H Z xs ms A->(F++A).Nodup->uM ρ os ->
  ∃F',bh K H Z σ (fW os ms ρ) F'/\F'.Nodup/\∀a∈F',a∈F++A:=by
 intro os
 induction os with
 |nil=>
  intro xs ρ F G0 A ms S r hs nd _;cases r;cases hs;exact⟨F,S,(bD nd).1,λa h=>lL _ h⟩
 |cons o os ih=>
  intro xs ρ F G0 A ms S r hs nd hol;cases r with | cons q r=>
  cases hs with | @cons _ m' G _ ms G' h hs=>
  obtain⟨n1,n2,n3⟩:=bD nd;obtain⟨n4,n5,n6⟩:=bD n2;have fin:uM ρ os->∃F',bh K H Z σ (fW os ms ρ) F'/\F'.Nodup/\∀a∈F',a∈F++(G++G'):=λhol=>by
   obtain⟨F',h1,h2,h3⟩:=ih S r hs (aS n1 n5 λa h z=>n3 a h (lR _ z)) hol
   refine⟨F',h1,h2,λa h=>?_⟩
   rcases lM (h3 a h) with z | z
   ·exact lL _ z
   ·exact lR _ (lR _ z)
  cases q with
  |t _=>exact fin hol
  |q _ _ _=>exact fin hol
  |p q=>
   obtain⟨l1,l2,l3⟩:=hol;obtain⟨F1,p1,p2,p3⟩:=S.put h (aS n1 n4 λa h z=>n3 a h (lL _ z)) l1
   rw[iD q] at p1;obtain⟨F',h1,h2,h3⟩:=ih p1 r hs (aS p2 n5 λa h z=>by
    rcases lM (p3 a h) with y | y
    ·exact n3 a y (lR _ z)
    ·exact n6 a y z) (l3.set l2)
   refine⟨F',h1,h2,λa h=>?_⟩
   rcases lM (h3 a h) with z | z
   ·rcases lM (p3 a z) with z | z
    ·exact lL _ z
    ·exact lR _ (lL _ z)
   ·exact lR _ (lR _ z)
end
abbrev FF:=List M->Option (M×List M)
inductive dM(K:AC)(g:FF)(vs:List V)(H:Hp)(Q:VK)(_u:XK):Prop
 |mk (Z:Zs) (ms:List M) (A:List Addr) (m:M) (ms':List M):rj K H Z vs ms A->Wf H Z A->g ms=some (m,ms')->(∀x H' Z' A' G,rj K H' Z' vs ms' A'->Ow K H' Z' x m G->aN H Z A H' Z' (A'++G)->Q x H')->dM K g vs H Q _u
noncomputable def cC(g:FF)(fa:FA):FE:=λρ=>(fa ρ).bind λp=>(cO p.1 p.2).bind λq=>(g q.1).bind λr=>some (.t r.1,fW p.1 r.2 q.2)
section
variable{X:Cx}{pos:Pos}
theorem called{g:FF}{fa:FA}{σ:L2.St}{H:Hp}{Q:VK}{E:XK}(hq:vE X.K (cC g fa) σ H Q):vd (dM X.K g) [] E (vA X.K fa) σ H Q:=by
 obtain⟨Z,ρ,F,o,ρ',S,w,e,q⟩:=hq;obtain⟨⟨os,ρ1⟩,e1,e⟩:=oB e;obtain⟨⟨ms,ρ2⟩,e2,e⟩:=oB e;obtain⟨⟨m,ms'⟩,e3,e⟩:=oB e;cases e;refine⟨Z,ρ,F,os,ρ1,S,w,e1,λxs H1 Z1 F1 G1 S1 O1 f1=>?_⟩
 show dM X.K g (xs++[]) H1 Q E;rw[E1];obtain⟨A,Fh,h1,h2,h3,h4⟩:=qe S1 O1 f1.nd e2;obtain⟨n1,n2,n3⟩:=bD h3;refine⟨Z1,ms,A,m,ms',h1,⟨n2,λa h=>f1.dz a (h4 a (lR _ h)),f1.za⟩,e3,λx H2 Z2 A' G k1 k2 f2=>?_⟩
 have wA:Wf H1 Z1 A:=⟨n2,λa h=>f1.dz a (h4 a (lR _ h)),f1.za⟩
 have n3':∀a∈A,a∉Fh:=λa h z=>n3 a z h
 have S2:bh X.K H2 Z2 σ ρ2 Fh:=h2.mono (f2.grow wA) λa h o e=>f2.keep a o (n3 a h) (f1.dz a (h4 a (lL _ h))) e
 have f3:=f2.frame (G:=Fh) ⟨aS n2 n1 n3',λa h=>by
  rcases lM h with h | h
  ·exact f1.dz a (h4 a (lR _ h))
  ·exact f1.dz a (h4 a (lL _ h)),f1.za⟩ h2.al
 obtain⟨m1,m2,m3,m4,m5,m6⟩:=Dr f3.nd;obtain⟨F',p1,p2,p3⟩:=sO S2 O1 k1 (aS m3 m1 λa h z=>m5 a z h) (mV e2)
 have f4:aN H Z F H1 Z1 (A++Fh):=f1.sub (aS n2 n1 n3') λa h=>h4 a (by
  rcases lM h with h | h
  ·exact lR _ h
  ·exact lL _ h)
 refine q x H2 Z2 F' G p1 (.t k2) ((f4.trans f3).sub (aS p2 m2 λa h z=>?_) λa h=>?_)
 ·rcases lM (p3 a h) with y | y
  ·exact m6 a z y
  ·exact m4 a y z
 ·rcases lM h with h | h
  ·rcases lM (p3 a h) with y | y
   ·exact lR _ y
   ·exact lL _ (lL _ y)
  ·exact lL _ (lR _ h)
theorem ve_fn{x:Str}{ps:List Str}{k k':Nat}{g:FF}{e:Expr}{es:List Expr}{fa:FA}{p:Pos}(C:bC X.prog X.w X.K X.mg X.base x ps k (dM X.K g))(hr:ff k' X.A)(hg:Gl X x)(ha:VA X (e::es) fa)(hk:k<=k':=by first | decide | exact Db _ | lia)(hdb:(x == ("__debug__" : Str))=false:=by decide)
  (he:E6 (e::es) X.env=(false,eval e X.env)::E6 es X.env:=by rfl) (hpl:(HX pos (E6 es X.env)).any (·.1)=false:=by rfl):VE X (.Call (.Name x p) (e::es) [] pos) (cC g fa):=bR (pe_fn C hr hg ha hk hdb he hpl) λ_ _ _ hq=>called hq
end
inductive Out where
 |nx (ρ:Ev)
 |bk (ρ:Ev)
 |ct (ρ:Ev)
 |rt (m:M) (ρ:Ev)
abbrev FS:=Ev->Option Out
abbrev Pv:=Nat->Option V
def Pin(pv:Pv)(σ:L2.St):Prop:=∀i x,pv i=some x->σ[i]? = some (some x)
def qf(K:AC)(pv:Pv)(D:Ends)(H:Hp)(Z:Zs)(F:List Addr):Out->Prop
 |.nx ρ'=>∀σ' H' Z' F',bh K H' Z' σ' ρ' F'->aN H Z F H' Z' F'->Pin pv σ'->D.nx σ' H'
 |.bk ρ'=>∀σ' H' Z' F',bh K H' Z' σ' ρ' F'->aN H Z F H' Z' F'->Pin pv σ'->D.bk σ' H'
 |.ct ρ'=>∀σ' H' Z' F',bh K H' Z' σ' ρ' F'->aN H Z F H' Z' F'->Pin pv σ'->D.ct σ' H'
 |.rt m ρ'=>∀x σ' H' Z' F' G,bh K H' Z' σ' ρ' F'->Ow K H' Z' x m G->aN H Z F H' Z' (F'++G)->Pin pv σ'->D.rt x H'
inductive vS(K:AC)(pv:Pv)(f:FS)(D:Ends)(σ:L2.St)(H:Hp):Prop
 |mk (Z:Zs) (ρ:Ev) (F:List Addr) (out:Out):bh K H Z σ ρ F->Wf H Z F->Pin pv σ->f ρ=some out->qf K pv D H Z F out->vS K pv f D σ H
theorem qf.trans{K:AC}{pv:Pv}{D:Ends}{H H':Hp}{Z Z':Zs}{F F':List Addr}{o:Out}(h:qf K pv D H Z F o)(f:aN H Z F H' Z' F'):qf K pv D H' Z' F' o:=by
 cases o with
 |nx ρ=>exact λσ1 H1 Z1 F1 s1 f1 p1=>h σ1 H1 Z1 F1 s1 (f.trans f1) p1
 |bk ρ=>exact λσ1 H1 Z1 F1 s1 f1 p1=>h σ1 H1 Z1 F1 s1 (f.trans f1) p1
 |ct ρ=>exact λσ1 H1 Z1 F1 s1 f1 p1=>h σ1 H1 Z1 F1 s1 (f.trans f1) p1
 |rt m ρ=>exact λx σ1 H1 Z1 F1 G s1 o1 f1 p1=>h x σ1 H1 Z1 F1 G s1 o1 (f.trans f1) p1
abbrev AJ(pv:Pv)(pin:List Nat):Prop:=∀j x,pv j=some x->j∈pin
def VS(X:Cx)(pin:List Nat)(st:Stmt)(f:FS):Prop:=∀pv,AJ pv pin->PS X st (vS X.K pv f)
def zc(X:Cx)(pin:List Nat)(st:List Stmt)(f:FS):Prop:=∀pv,AJ pv pin->qG X st (vS X.K pv f)
section
variable{X:Cx}{pos:Pos}{pin:List Nat}
theorem gy{st:Stmt}{t t':TS}(h:PS X st t)(i:∀D σ H,t' D σ H->t D σ H):PS X st t':=λpins s σ H D I q=>h pins s σ H D I (i D σ H q)
theorem sP{st:List Stmt}{t t':TS}(h:qG X st t)(i:∀D σ H,t' D σ H->t D σ H):qG X st t':=λpins s σ H D I q=>h pins s σ H D I (i D σ H q)
noncomputable def bI:FS:=λρ=>some (.nx ρ)
noncomputable def aI(f g:FS):FS:=λρ=>(f ρ).bind λo=>match o with
 |.nx ρ1=>g ρ1
 |o=>some o
theorem wG{pv:Pv}{D:Ends}{σ:L2.St}{H:Hp}(hq:vS X.K pv bI D σ H):Ar D σ H:=by
 obtain⟨Z,ρ,F,o,S,w,P,e,q⟩:=hq;cases e;exact q σ H Z F S (aN.refl w) P
theorem zd:zc X pin [] bI:=λpv hp=>sP yj λ_ _ _ hq=>wG (X:=X) hq
theorem ze{pv:Pv}{f g:FS}{D:Ends}{σ:L2.St}{H:Hp}(hq:vS X.K pv (aI f g) D σ H):tSeq (vS X.K pv f) (vS X.K pv g) D σ H:=by
 obtain⟨Z,ρ,F,o,S,w,P,e,q⟩:=hq;obtain⟨o1,e1,e⟩:=oB e;refine⟨Z,ρ,F,o1,S,w,P,e1,?_⟩;cases o1 with
 |nx ρ1=>exact λσ1 H1 Z1 F1 S1 f1 P1=>⟨Z1,ρ1,F1,o,S1,f1.wf,P1,e,q.trans f1⟩
 |bk ρ1=>cases e; exact q
 |ct ρ1=>cases e; exact q
 |rt m ρ1=>cases e; exact q
theorem wH{st:Stmt}{rest:List Stmt}{f g:FS}(h1:VS X pin st f)(h2:zc X pin rest g):zc X pin (st::rest) (aI f g):=λpv hp=>sP (uU (h1 pv hp) (h2 pv hp)) λ_ _ _ hq=>ze hq
theorem zf{st:Stmt}{f:FS}(h1:VS X pin st f):zc X pin [st] f:=λpv hp=>ym (h1 pv hp)
noncomputable def cI(c:FT)(f g:FS):FS:=λρ=>(c ρ).bind λp=>if p.1=true then f p.2 else g p.2
theorem vs_if{c:Expr}{a b:List Stmt}{fc:FT}{f g:FS}(hc:VT X c fc)(ha:zc X pin a f)(hb:zc X pin b g):VS X pin (.If c a b pos) (cI fc f g):=λpv hp=>gy (ps_if hc (ha pv hp) (hb pv hp)) λD σ H hq=>by
 obtain⟨Z,ρ,F,o,S,w,P,e,q⟩:=hq;obtain⟨⟨b1,ρ1⟩,e1,e⟩:=oB e;refine⟨Z,ρ,F,b1,ρ1,S,w,e1,λH1 Z1 F1 S1 f1=>?_⟩
 cases b1 with
 |true=>exact iteT ⟨Z1,ρ1,F1,o,S1,f1.wf,P,e,q.trans f1⟩
 |false=>exact iteF ⟨Z1,ρ1,F1,o,S1,f1.wf,P,e,q.trans f1⟩
noncomputable def c9(f:FE):FS:=λρ=>(f ρ).bind λp=>some (.nx p.2)
theorem zh{e:Expr}{f:FE}(h:VE X e f)(hs:Gh e none pos.line X.env=pure false:=by rfl):VS X pin (.Expr e pos) (c9 f):=λpv hp=>gy (yo h hs) λD σ H hq=>by
 obtain⟨Z,ρ,F,o,S,w,P,e,q⟩:=hq;obtain⟨⟨o1,ρ1⟩,e1,e⟩:=oB e;cases e;exact⟨Z,ρ,F,o1,ρ1,S,w,e1,λx H1 Z1 F1 G1 S1 O1 f1=>q σ H1 Z1 F1 S1 f1.left P⟩
noncomputable def oz:cW->Ev->Option (M×Ev)
 |.t m,ρ=>some (m,ρ)
 |.p i,ρ=>(cE ρ i).bind λm=>some (m,ρ.set i none)
 |.q i k,ρ=>(cS (.q i k) ρ).bind λp=>some (.v p.1,p.2)
theorem moved{K:AC}{H H0:Hp}{Z Z0:Zs}{F F0 G:List Addr}{σ:L2.St}{ρ ρ':Ev}{x:V}{o:cW}{m:M}(S:bh K H Z σ ρ F)(h:lH K H Z σ x o G)(f:aN H0 Z0 F0 H Z (F++G))(e:oz o ρ=some (m,ρ')) :
  ∃Z' F' G',bh K H Z' σ ρ' F'/\Ow K H Z' x m G'/\aN H0 Z0 F0 H Z' (F'++G'):=by
 cases o with
 |t m1=>
  cases e;cases h with
  |t q=>exact⟨Z,F,G,S,q,f⟩
 |p i=>
  obtain⟨m1,e1,e⟩:=oB e;cases e;cases h with
  |p q=>
   rw[E1] at f;obtain⟨x',G',F1,t1,t2,t3,t4,t5⟩:=S.take f.nd (aH.mp e1);rw[q] at t1; cases t1;exact⟨Z,F1,G',t3,t2,f.sub t4 t5⟩
 |q i k=>
  obtain⟨⟨d,ρ1⟩,e1,e⟩:=oB e;cases e;obtain⟨Z',F',h1,h2,h3,_⟩:=fD S h f e1;exact⟨Z',F',[],h1,.v h2,h3.nil⟩
noncomputable def b8(f:FE):FS:=λρ=>(f ρ).bind λp=>(oz p.1 p.2).bind λq=>some (.rt q.1 q.2)
theorem Ca{e:Expr}{f:FE}(h:VE X e f):VS X pin (.Return (some e) pos) (b8 f):=λpv hp=>gy (Bf h) λD σ H hq=>by
 obtain⟨Z,ρ,F,o,S,w,P,e,q⟩:=hq;obtain⟨⟨o1,ρ1⟩,e1,e⟩:=oB e;obtain⟨⟨m,ρ2⟩,e2,e⟩:=oB e;cases e;refine⟨Z,ρ,F,o1,ρ1,S,w,e1,λx H1 Z1 F1 G1 S1 O1 f1=>?_⟩
 obtain⟨Z2,F2,G2,h1,h2,h3⟩:=moved S1 O1 f1 e2;exact q x σ H1 Z2 F2 G2 h1 h2 h3 P
noncomputable def eX(i:Nat)(m:M)(ρ:Ev):Option Ev:=if i<ρ.length then some (ρ.set i (some m)) else none
theorem Pin.set{pv:Pv}{σ:L2.St}{i:Nat}{x:Option V}(P:Pin pv σ)(hp:AJ pv pin)(hi:i∉pin):Pin pv (σ.set i x):=λj y e=>by
 rw[HF,if_neg λz=>hi (by subst z; exact hp _ _ e)]
 exact P j y e
theorem bh.eX{K:AC}{H:Hp}{Z:Zs}{F G:List Addr}{σ:L2.St}{ρ ρ':Ev}{x:V}{m:M}{i:Nat}(S:bh K H Z σ ρ F)(h:Ow K H Z x m G)(nd:(F++G).Nodup)(e:VL.eX i m ρ=some ρ'):∃F',bh K H Z (σ.set i (some x)) ρ' F'/\F'.Nodup/\∀a∈F',a∈F++G:=by
 unfold VL.eX at e
 split at e
 ·next hl=>
  cases e;obtain⟨n1,n2,n3⟩:=bD nd;obtain⟨F1,h1,h2,h3⟩:=S.drop i n1;obtain⟨F2,p1,p2,p3⟩:=h1.put h (aS h2 n2 λa z=>n3 a (h3 a z)) (by rw[Ft hl])
  rw[Iy] at p1;refine⟨F2,p1,p2,λa z=>?_⟩
  rcases lM (p3 a z) with z | z
  ·exact lL _ (h3 a z)
  ·exact lR _ z
 ·cases e
noncomputable def bz(i:Nat)(f:FE):FS:=λρ=>(f ρ).bind λp=>(oz p.1 p.2).bind λq=>(eX i q.1 q.2).bind λρ'=>some (.nx ρ')
theorem Cb{i:Nat}{x:Str}{e:Expr}{f:FE}{pos':Pos}(hp0:i∉pin)(hN:X.N.Nodup)(hi:X.N[i]? = some x)(hx:Loc X.env.scope x)(he:VE X e f)(hs:Gh e (some (.Name x pos')) pos.line X.env=pure false:=by rfl)(hf:X.fn x=true\/X.env.scope.names.lookup x=some .local:=by first | exact .inl rfl | exact .inr rfl | assumption) :
  VS X pin (.Assign [.Name x pos'] e pos) (bz i f):=λpv hp=>gy (Bh hN hi hx he hs hf) λD σ H hq=>by
 obtain⟨Z,ρ,F,o,S,w,P,e,q⟩:=hq;obtain⟨⟨o1,ρ1⟩,e1,e⟩:=oB e;obtain⟨⟨m,ρ2⟩,e2,e⟩:=oB e;obtain⟨ρ3,e3,e⟩:=oB e;cases e;refine⟨Z,ρ,F,o1,ρ1,S,w,e1,λy H1 Z1 F1 G1 S1 O1 f1=>?_⟩
 obtain⟨Z2,F2,G2,h1,h2,h3⟩:=moved S1 O1 f1 e2;obtain⟨F3,k1,k2,k3⟩:=h1.eX h2 h3.nd e3;exact q _ H1 Z2 F3 k1 (h3.sub k2 k3) (P.set hp hp0)
abbrev FG:=Ap->Ev->Option Ev
abbrev uq:=List Ap->Ev->Option Ev
inductive vG(K:AC)(pv:Pv)(f:FG)(x:V)(σ:L2.St)(H:Hp)(Q:L2.St->Hp->Prop):Prop
 |mk (Z:Zs) (ρ:Ev) (F:List Addr) (d:Ap) (ρ':Ev):bh K H Z σ ρ F->F.Nodup->Pin pv σ->Fz K H Z x d->f d ρ=some ρ'->(∀σ' F',bh K H Z σ' ρ' F'->F'.Nodup->(∀a∈F',a∈F)->Pin pv σ'->Q σ' H)->vG K pv f x σ H Q
inductive D5(K:AC)(pv:Pv)(f:uq)(xs:List V)(σ:L2.St)(H:Hp)(Q:L2.St->Hp->Prop):Prop
 |mk (Z:Zs) (ρ:Ev) (F:List Addr) (ds:List Ap) (ρ':Ev):bh K H Z σ ρ F->F.Nodup->Pin pv σ->bB K H Z xs ds->f ds ρ=some ρ'->(∀σ' F',bh K H Z σ' ρ' F'->F'.Nodup->(∀a∈F',a∈F)->Pin pv σ'->Q σ' H)->D5 K pv f xs σ H Q
def VG(X:Cx)(pin:List Nat)(tg:Expr)(f:FG):Prop:=∀pv,AJ pv pin->PG X tg (vG X.K pv f)
def Ds(X:Cx)(pin:List Nat)(tg:List Expr)(f:uq):Prop:=∀pv,AJ pv pin->As X tg (D5 X.K pv f)
theorem wI{tg:Expr}{t t':TG}(h:PG X tg t)(i:∀x σ H Q,t' x σ H Q->t x σ H Q):PG X tg t':=λpins s σ H x u Q I r q=>h pins s σ H x u Q I r (i x σ H Q q)
theorem sQ{tg:List Expr}{t t':yp}(h:As X tg t)(i:∀x σ H Q,t' x σ H Q->t x σ H Q):As X tg t':=λpins s σ H x u Q I r q=>h pins s σ H x u Q I r (i x σ H Q q)
noncomputable def ao(i:Nat):FG:=λd ρ=>eX i (.v d) ρ
theorem zj{i:Nat}{x:Str}(hp0:i∉pin)(hN:X.N.Nodup)(hi:X.N[i]? = some x)(hx:Loc X.env.scope x)(hf:X.fn x=true\/X.env.scope.names.lookup x=some .local:=by first | exact .inl rfl | exact .inr rfl | assumption):VG X pin (.Name x pos) (ao i):=λpv hp=>wI (yq hN hi hx hf) λx σ H Q hq=>by
 obtain⟨Z,ρ,F,d,ρ',S,w,P,fz,e,q⟩:=hq;obtain⟨F3,k1,k2,k3⟩:=S.eX (.v fz) (by rw[E1]; exact w) e
 rw[E1] at k3;exact q _ F3 k1 k2 k3 (P.set hp hp0)
noncomputable def b9:uq:=λds ρ=>match ds with
 |[]=>some ρ
 |_=>none
noncomputable def aB(f:FG)(g:uq):uq:=λds ρ=>match ds with
 |d::ds=>(f d ρ).bind λρ1=>g ds ρ1
 |[]=>none
theorem zk:Ds X pin [] b9:=λpv hp=>sQ yr λxs σ H Q hq=>by
 obtain⟨Z,ρ,F,ds,ρ',S,w,P,fz,e,q⟩:=hq;cases fz with
 |nil=>cases e; exact⟨rfl,q σ F S w (λ_ h=>h) P⟩
 |cons _ _=>cases e
theorem wJ{e:Expr}{es:List Expr}{f:FG}{g:uq}(h1:VG X pin e f)(h2:Ds X pin es g)(hs:(Fa (e::es) X.env).map (·.2)=HD e X.env::(Fa es X.env).map (·.2):=by rfl):Ds X pin (e::es) (aB f g):=λpv hp=>sQ (uW (h1 pv hp) (h2 pv hp) hs) λxs σ H Q hq=>by
 obtain⟨Z,ρ,F,ds,ρ',S,w,P,fz,e,q⟩:=hq;cases fz with
 |nil=>cases e
 |cons z1 z2=>
  obtain⟨ρ1,e1,e⟩:=oB e;exact⟨_,_,rfl,Z,ρ,F,_,ρ1,S,w,P,z1,e1,λσ1 F1 S1 w1 s1 P1=>⟨Z,ρ1,F1,_,ρ',S1,w1,P1,z2,e,λσ2 F2 S2 w2 s2 P2=>q σ2 F2 S2 w2 (λa h=>s1 a (s2 a h)) P2⟩⟩
noncomputable def b3(n:Nat)(g:uq):FG:=λd ρ=>match d with
 |.tuple ds=>if ds.length=n then g ds ρ else none
 |_=>none
theorem Cc{es:List Expr}{k n:Nat}{g:uq}(hc:X.calm=true)(h:Ds X pin es g)(hpg:∀t:yp,As X es t->PG X (.Tuple es k pos) (gTup X.K n t)):VG X pin (.Tuple es k pos) (b3 n g):=λpv hp=>wI (hpg _ (h pv hp)) λx σ H Q hq=>by
 obtain⟨Z,ρ,F,d,ρ',S,w,P,fz,e,q⟩:=hq;unfold b3 at e
 split at e
 ·split at e
  ·next hl=>
   obtain⟨a,xs,e1,e2,e3⟩:=fz.gu;exact⟨a,xs,e1,e2,by rw[e3.length]; exact hl,Z,ρ,F,_,ρ',S,w,P,e3,e,q⟩
  ·cases e
 ·cases e
noncomputable def oA(f:FE)(g:FG):FS:=λρ=>(f ρ).bind λp=>(cS p.1 p.2).bind λq=>(g q.1 q.2).bind λρ'=>some (.nx ρ')
theorem Cd{tg e:Expr}{f:FE}{g:FG}(he:VE X e f)(hg:VG X pin tg g)(hs:HY [tg] e pos.line X.env=pure false:=by rfl)(hw:HZ [tg] e X.env=pure none:=by rfl)
  (hps:∀(te:TE)(t:TG),PE X e te->PG X tg t->PS X (.Assign [tg] e pos) (nB te t):=by exact λ_ _ h1 h2=>nC h1 h2):VS X pin (.Assign [tg] e pos) (oA f g):=λpv hp=>gy (hps _ _ he (hg pv hp)) λD σ H hq=>by
 obtain⟨Z,ρ,F,o,S,w,P,e,q⟩:=hq;obtain⟨⟨o1,ρ1⟩,e1,e⟩:=oB e;obtain⟨⟨d,ρ2⟩,e2,e⟩:=oB e;obtain⟨ρ3,e3,e⟩:=oB e;cases e;refine⟨Z,ρ,F,o1,ρ1,S,w,e1,λy H1 Z1 F1 G1 S1 O1 f1=>?_⟩
 obtain⟨Z2,F2,h1,h2,h3,_⟩:=fD S1 O1 f1 e2;exact⟨Z2,ρ2,F2,d,ρ3,h1,h3.nd,P,h2,e3,λσ' F' S' w' s' P'=>q σ' H1 Z2 F' S' (h3.sub w' s') P'⟩
noncomputable def parO(i j:Nat):List cW->Ev->Option Out
 |[o1,.t m2],ρ=>(oz o1 ρ).bind λq1=>(eX i q1.1 q1.2).bind λρ1=>(eX j m2 ρ1).bind λρ2=>some (.nx ρ2)
 |_,_=>none
noncomputable def ur(i j:Nat)(fa:FA):FS:=λρ=>(fa ρ).bind λp=>parO i j p.1 p.2
theorem Ce{i j:Nat}{a b:Expr}{fa:FA}{st:Stmt}(hpi:i∉pin)(hpj:j∉pin)(ha:VA X [a,b] fa)(hps:∀t:TA,PA X [a,b] t->PS X st (tPar i j t)):VS X pin st (ur i j fa):=λpv hp=>gy (hps _ ha) λD σ H hq=>by
  obtain⟨Z,ρ,F,o,S,w,P,e,q⟩:=hq;obtain⟨⟨os,ρ1⟩,e1,e⟩:=oB e;refine⟨Z,ρ,F,os,ρ1,S,w,e1,λxs H1 Z1 F1 G1 S1 O1 f1=>?_⟩
  have e:parO i j os ρ1=some o:=e
  clear e1
  rcases os with _ | ⟨o1,_ | ⟨o2,_ | ⟨o3,os⟩⟩⟩
  · cases e
  · cases e
  · cases o2 with
   |p _=>cases e
   |q _ _=>cases e
   |t m2=>
    obtain⟨⟨m1,ρ2⟩,e2,e⟩:=oB e;cases O1 with
    |@cons x1 _ Ga _ _ _ p1 r1=>
     cases r1 with
     |@cons x2 _ Gb _ _ _ p2 r2=>
         cases r2;obtain⟨ρ3,e3,e⟩:=oB e;obtain⟨ρ4,e4,e⟩:=oB e;cases e;rw[E1] at f1;have f1':aN H Z F H1 Z1 (F1++Ga++Gb):=f1.assoc';cases p2 with
         |t w2=>
          have al:=w2.al;have key:∃Z' F' G',bh X.K H1 Z' σ ρ2 F'/\Ow X.K H1 Z' x1 m1 G'/\aN H Z F H1 Z' (F'++G'++Gb)/\aG H1 Z1 H1 Z':=by
            cases o1 with
            |t m=>
             cases e2;cases p1 with
             |t w1=>exact⟨Z1,F1,Ga,S1,w1,f1',aG.refl⟩
            |p k=>
             obtain⟨m,e5,e2⟩:=oB e2;cases e2;cases p1 with
             |p q1=>
              rw[E1] at f1';obtain⟨n1,n2,n3⟩:=bD f1'.nd;obtain⟨x',G',F1',t1,t2,t3,t4,t5⟩:=S1.take n1 (aH.mp e5);rw[q1] at t1; cases t1;refine⟨Z1,F1',G',t3,t2,f1'.sub (aS t4 n2 λa h z=>n3 a (t5 a h) z) (λa h=>?_),aG.refl⟩
              rcases lM h with h | h
              · exact lL _ (t5 a h)
              · exact lR _ h
            |q k1 k2=>
             obtain⟨⟨d,ρ'⟩,e5,e2⟩:=oB e2;cases e2;obtain⟨Z',F',z1,z2,z3,z4⟩:=freeze S1 p1 f1' e5;exact⟨Z',F',[],z1,.v z2,by rw[E1]; exact z3,z4⟩
          obtain⟨Z2,F2,G2,h1,h2,h3,h4⟩:=key;obtain⟨n1,n2,n3,n4,n5,n6⟩:=Dr h3.nd;obtain⟨F3,k1,k2,k3⟩:=h1.eX h2 (aS n1 n2 n4) e3;obtain⟨F4,l1,l2,l3⟩:=k1.eX (w2.mono h4 λ_ _ _ e=>e) (aS k2 n3 λa h z=>by
            rcases lM (k3 a h) with y | y
            · exact n5 a y z
            · exact n6 a y z) e4
          refine⟨x1,x2,rfl,q _ H1 Z2 F4 l1 (h3.sub l2 λa h=>?_) ((P.set hp hpi).set hp hpj)⟩
          rcases lM (l3 a h) with y | y
          · exact lL _ (k3 a y)
          · exact lR _ y
  · cases o2 <;> cases e
end
structure kZ(K:AC)(J:It)(H:Hp)(Z:Zs)(ds:List Ap):Prop where
 go:∀H2 Z2,aG H Z H2 Z2->∀k d,ds[k]? = some d->J.go k H2/\∀x H',J.yld k H2 x H'->eU H2 H'/\Fz K H' Z2 x d
 stop:∀H2 Z2,aG H Z H2 Z2->∀k,ds.length<=k->J.stop k H2
abbrev FI:=Ev->Option (List Ap×Ev)
inductive vI(K:AC)(f:FI)(σ:L2.St)(H:Hp)(R:It->Hp->Prop):Prop
 |mk (Z:Zs) (ρ:Ev) (F:List Addr) (ds:List Ap) (ρ':Ev):bh K H Z σ ρ F->Wf H Z F->f ρ=some (ds,ρ')->(∀J H' Z' F',bh K H' Z' σ ρ' F'->kZ K J H' Z' ds->aN H Z F H' Z' F'->R J H')->vI K f σ H R
abbrev VI(X:Cx)(tg iter:Expr)(f:FI):Prop:=PI X tg iter (vI X.K f)
section
variable{X:Cx}{pos:Pos}{pin:List Nat}{tg:Expr}
theorem k8{it:Expr}{t t':TI}(h:PI X tg it t)(i:∀σ H R,t' σ H R->t σ H R):PI X tg it t':=λpins s σ H R I q=>h pins s σ H R I (i σ H R q)
theorem Cf{it:Expr}{t u:TI}(h:PI X tg it t)(h':PI X tg it u):PI X tg it (λσ H R=>t σ H R\/u σ H R):=λpins s σ H R I q=>q.elim (h pins s σ H R I) (h' pins s σ H R I)
noncomputable def uN:Ap->Option (List Ap)
 |.tuple ds=>some ds
 |.list ds=>some ds
 |_=>none
noncomputable def dc(f:FE):FI:=λρ=>(f ρ).bind λp=>(cS p.1 p.2).bind λq=>(uN q.1).bind λds=>some (ds,q.2)
theorem zl{K:AC}{H:Hp}{Z:Zs}{a:Addr}{ds:List Ap}(h:Fz K H Z (.ref a) (.list ds)):kZ K (DA K a) H Z ds:=by
 refine⟨λH2 Z2 g k d hd=>?_,λH2 Z2 g k hk=>?_⟩
 ·obtain⟨a',xs,e,r,fs⟩:=(h.mono g).lst_inv
  cases e;obtain⟨x,h1,h2⟩:=fs.get' hd;refine⟨⟨xs,x,r,h1⟩,λy H' hy=>?_⟩
  obtain⟨rfl,hy⟩:=hy;have:=hy xs r;rw[h1] at this; cases this;exact⟨eU.refl _,h2⟩
 ·obtain⟨a',xs,e,r,fs⟩:=(h.mono g).lst_inv
  cases e;exact⟨xs,r,by rw[fs.length]; exact hk⟩
theorem zm{K:AC}{H:Hp}{Z:Zs}{a:Addr}{xs:List V}{ds:List Ap}{k:Nat}{d:Ap}{y:V}(r:dJ K H a xs)(fs:bB K H Z xs ds)(hd:ds[k]? = some d)(hy:∀xs,dJ K H a xs->xs[k]? = some y):Fz K H Z y d:=by
 obtain⟨x,h1,h2⟩:=fs.get' hd;have:=hy xs r;rw[h1] at this; cases this;exact h2
theorem Cg{K:AC}{H:Hp}{Z:Zs}{a:Addr}{ds:List Ap}(h:Fz K H Z (.ref a) (.tuple ds)):kZ K (DK K a) H Z ds:=by
 refine⟨λH2 Z2 g k d hd=>?_,λH2 Z2 g k hk=>?_⟩
 ·obtain⟨a',xs,e,r,fs⟩:=(h.mono g).gu
  cases e;obtain⟨x,h1,h2⟩:=fs.get' hd;refine⟨⟨xs,x,r,h1⟩,λy H' hy=>?_⟩
  obtain⟨rfl,hy⟩:=hy;exact⟨eU.refl _,zm r fs hd hy⟩
 ·obtain⟨a',xs,e,r,fs⟩:=(h.mono g).gu
  cases e;exact⟨xs,r,by rw[fs.length]; exact hk⟩
theorem Ci{l:Expr}{f:FE}(h:VE X l f):VI X tg l (dc f):=k8 (Cf (se h) (Bl h)) λσ H R hq=>by
 obtain⟨Z,ρ,F,ds,ρ',S,w,e,q⟩:=hq;obtain⟨⟨o1,ρ1⟩,e1,e⟩:=oB e;obtain⟨⟨d,ρ2⟩,e2,e⟩:=oB e;obtain⟨ds',e3,e⟩:=oB e;cases e;have key:∀x H1 Z1 F1 G1,bh X.K H1 Z1 σ ρ1 F1->lH X.K H1 Z1 σ x o1 G1->aN H Z F H1 Z1 (F1++G1)->∃Z2,Fz X.K H1 Z2 x d/\∀J,kZ X.K J H1 Z2 ds->R J H1:=λx H1 Z1 F1 G1 S1 O1 f1=>by
  obtain⟨Z2,F2,h1,h2,h3,_⟩:=fD S1 O1 f1 e2;exact⟨Z2,h2,λJ hJ=>q J H1 Z2 F2 h1 hJ h3⟩
 cases d with
 |tuple ds0=>
  cases e3;refine .inr ⟨Z,ρ,F,o1,ρ1,S,w,e1,λx H1 Z1 F1 G1 S1 O1 f1=>?_⟩
  obtain⟨Z2,h2,h3⟩:=key x H1 Z1 F1 G1 S1 O1 f1;obtain⟨a,xs,rfl,r,fs⟩:=h2.gu;exact⟨a,rfl,⟨xs,r⟩,h3 _ (Cg h2)⟩
 |list ds0=>
  cases e3;refine .inl ⟨Z,ρ,F,o1,ρ1,S,w,e1,λx H1 Z1 F1 G1 S1 O1 f1=>?_⟩
  obtain⟨Z2,h2,h3⟩:=key x H1 Z1 F1 G1 S1 O1 f1;obtain⟨a,xs,rfl,r,fs⟩:=h2.lst_inv;exact⟨a,rfl,⟨xs,r⟩,h3 _ (zl h2)⟩
 |_=>cases e3
noncomputable def bH(lo hi:Int):List Ap:=(Ch (hi-lo).toNat).map λk:Nat=>EC (lo+k)
noncomputable def oE:Int:=1000000000
noncomputable def dD(i:Int):Bool:=decide (-oE<=i/\i<=oE)
theorem jG{i:Int}(h:dD i=true) : -(2 ^ 62)<=i/\i<2 ^ 62:=by
 have h:=of_decide_eq_true h;unfold oE at h;lia
noncomputable def i7:List M->Option (List Ap)
 |[.v (.int j)]=>if dD j=true then some (bH 0 j) else none
 |_=>none
noncomputable def wK:List M->Option (List Ap)
 |[.v (.int i),.v (.int j)]=>if dD i=true/\dD j=true then some (bH i j) else none
 |_=>none
noncomputable def dS(g:List M->Option (List Ap))(fa:FA):FI:=λρ=>(fa ρ).bind λp=>(iN p.2 p.1).bind λms=>(g ms).bind λds=>some (ds,p.2)
theorem wL{K:AC}{H:Hp}{Z:Zs}(lo hi:Int):kZ K (Dj lo (hi-lo).toNat) H Z (bH lo hi):=by
 refine⟨λH2 Z2 g k d hd=>?_,λH2 Z2 g k hk=>?_⟩
 ·unfold bH at hd
  rw[E9] at hd;obtain⟨j,h1,h2⟩:=Ff.mp hd;obtain⟨h3,h4⟩:=EA.mp h1;rw[FB] at h3;rw[Kv] at h4;subst h4; subst h2;refine⟨h3,λx H' hx=>?_⟩
  obtain⟨rfl,rfl⟩:=hx;exact⟨eU.refl _,.int _⟩
 ·unfold bH at hk
  rw[At,FB] at hk;exact hk
theorem sR{fa:FA}{σ:L2.St}{H:Hp}{R:It->Hp->Prop}{ms:List M}{ds:List Ap}{Z:Zs}{ρ ρ1:Ev}{F:List Addr}{os:List cW}(S:bh X.K H Z σ ρ F)(w:Wf H Z F)(e1:fa ρ=some (os,ρ1))(e2:iN ρ1 os=some ms)
  (q:∀J H' Z' F',bh X.K H' Z' σ ρ1 F'->kZ X.K J H' Z' ds->aN H Z F H' Z' F'->R J H') {T:List V->Hp->Prop} (hT:∀xs H1 Z1,CV X.K H1 Z1 xs ms->(∀J,kZ X.K J H1 Z1 ds->R J H1)->T xs H1):vA X.K fa σ H T :=
 ⟨Z,ρ,F,os,ρ1,S,w,e1,λxs H1 Z1 F1 G1 S1 O1 f1=>hT xs H1 Z1 (O1.peek S1 e2) λJ hJ=>q J H1 Z1 F1 S1 hJ f1.left⟩
theorem zo{a:Expr}{fa:FA}{p:Pos}(hg:Gl X "range")(hm:X.mg "range" = none)(ha:VA X [a] fa)(hs:E6 [a] X.env=[(false,eval a X.env)]:=by rfl):VI X tg (.Call (.Name "range" p) [a] [] pos) (dS i7 fa):=k8 (tQ hg hm ha hs) λσ H R hq=>by
 obtain⟨Z,ρ,F,ds,ρ',S,w,e,q⟩:=hq;obtain⟨⟨os,ρ1⟩,e1,e⟩:=oB e;obtain⟨ms,e2,e⟩:=oB e;obtain⟨ds',e3,e⟩:=oB e;cases e;refine sR S w e1 e2 q λxs H1 Z1 r h=>?_
 unfold i7 at e3
 split at e3
 ·rename_i j
  split at e3
  ·next hl=>
   cases e3;obtain⟨x,rfl,h1⟩:=eW r;obtain rfl:=h1.int;have hj:=jG hl;refine⟨_,rfl,hj.1,hj.2,h _ ?_⟩;have k:=wL (K:=X.K) (H:=H1) (Z:=Z1) 0 j;rw[Int.sub_zero] at k;exact k
  ·cases e3
 ·cases e3
theorem zp{a b:Expr}{fa:FA}{p:Pos}(hg:Gl X "range")(hm:X.mg "range" = none)(ha:VA X [a,b] fa)(hs:E6 [a,b] X.env=[(false,eval a X.env),(false,eval b X.env)]:=by rfl)(hs2:E6 [b] X.env=[(false,eval b X.env)]:=by rfl):VI X tg (.Call (.Name "range" p) [a,b] [] pos) (dS wK fa):=k8 (tR hg hm ha hs hs2) λσ H R hq=>by
 obtain⟨Z,ρ,F,ds,ρ',S,w,e,q⟩:=hq;obtain⟨⟨os,ρ1⟩,e1,e⟩:=oB e;obtain⟨ms,e2,e⟩:=oB e;obtain⟨ds',e3,e⟩:=oB e;cases e;refine sR S w e1 e2 q λxs H1 Z1 r h=>?_
 unfold wK at e3
 split at e3
 ·rename_i i j
  split at e3
  ·next hl=>
   cases e3;obtain⟨x,y,rfl,h1,h2⟩:=wu r;obtain rfl:=h1.int; obtain rfl:=h2.int;have hi:=jG hl.1;have hj:=jG hl.2;exact⟨_,_,rfl,⟨hi.1,hi.2,hj.1,hj.2⟩,h _ (wL i j)⟩
  ·cases e3
 ·cases e3
noncomputable def forL(fg:FG)(fb:FS):List Ap->Ev->Option Out
 |[],ρ=>some (.nx ρ)
 |d::ds,ρ=>(fg d ρ).bind λρ1=>(fb ρ1).bind λo=>match o with
  |.nx ρ2=>forL fg fb ds ρ2
  |.ct ρ2=>forL fg fb ds ρ2
  |.bk ρ2=>some (.nx ρ2)
  |.rt m ρ2=>some (.rt m ρ2)
noncomputable def jH(fi:FI)(fg:FG)(fb:FS):FS:=λρ=>(fi ρ).bind λp=>forL fg fb p.1 p.2
theorem zq{fi:FI}{fg:FG}{fb:FS}{pv:Pv}{D:Ends}{σ:L2.St}{H:Hp}(hq:vS X.K pv (jH fi fg fb) D σ H):tFor (vI X.K fi) (vG X.K pv fg) (vS X.K pv fb) D σ H:=by
 obtain⟨Z,ρ,F,o,S,w,P,e,q⟩:=hq;obtain⟨⟨ds,ρ1⟩,e1,e⟩:=oB e;refine⟨Z,ρ,F,ds,ρ1,S,w,e1,λJ H1 Z1 F1 S1 hJ f1=>?_⟩
 refine⟨λi m σ' H'=>m=ds.length-i/\i<=ds.length/\∃Z' ρ' F',bh X.K H' Z' σ' ρ' F'/\Wf H' Z' F'/\Pin pv σ'/\aG H1 Z1 H' Z'/\∃out,forL fg fb (ds.drop i) ρ'=some out/\qf X.K pv D H' Z' F' out,⟨_,rfl,EY _,Z1,ρ1,F1,S1,f1.wf,P,aG.refl,o,e,q.trans f1⟩,λi m σ2 H2 hW=>?_⟩
 obtain⟨rfl,hi,Z2,ρ2,F2,S2,w2,P2,g2,out,e2,q2⟩:=hW;rcases LD hi with hi | rfl
 ·right
  rw[GS hi] at e2;have hd:ds[i]? = some ds[i]:=E5 hi;obtain⟨go,yl⟩:=hJ.go H2 Z2 g2 i _ hd;obtain⟨ρ3,e3,e2⟩:=oB e2;obtain⟨o3,e4,e2⟩:=oB e2;refine⟨go,λσ' H'=>∃m',m'<ds.length-i/\m'=ds.length-(i+1)/\i+1<=ds.length/\∃Z' ρ' F',bh X.K H' Z' σ' ρ' F'/\Wf H' Z' F'/\Pin pv σ'/\aG H1 Z1 H' Z'/\∃out,forL fg fb (ds.drop (i+1)) ρ'=some out/\qf X.K pv D H' Z' F' out,λσ' H' h=>h,λx H' hx=>?_⟩
  obtain⟨s,fz⟩:=yl x H' hx;have gs:aG H2 Z2 H' Z2:=aG.same s;have S2':=S2.mono gs λa _ o e=>s a o e
  have fs:aN H2 Z2 F2 H' Z2 F2:=by
   have:=(aN.same s w2.za).news w2 S2.al;rw[E1] at this;exact this
  refine⟨Z2,ρ2,F2,_,ρ3,S2',w2.nd,P2,fz,e3,λσ3 F3 S3 n3 s3 P3=>?_⟩
  have f3:aN H2 Z2 F2 H' Z2 F3:=fs.sub n3 s3;refine⟨Z2,ρ3,F3,o3,S3,f3.wf,P3,e4,?_⟩;have again:∀ρ4,forL fg fb (ds.drop (i+1)) ρ4=some out->∀σ' H4 Z4 F4,bh X.K H4 Z4 σ' ρ4 F4->aN H' Z2 F3 H4 Z4 F4->Pin pv σ'->∃m',m'<ds.length-i/\m'=ds.length-(i+1)/\i+1<=ds.length/\∃Z' ρ' F',bh X.K H4 Z' σ' ρ' F'/\Wf H4 Z' F'/\Pin pv σ'/\aG H1 Z1 H4 Z'/\∃out,forL fg fb (ds.drop (i+1)) ρ'=some out/\qf X.K pv D H4 Z' F' out:=λρ4 e5 σ' H4 Z4 F4 S4 f4 P4=>
   ⟨_,by lia,rfl,hi,Z4,ρ4,F4,S4,f4.wf,P4,(g2.trans gs).trans (f4.grow f3.wf),out,e5,q2.trans (f3.trans f4)⟩
  cases o3 with
  |nx ρ4=>exact again ρ4 e2
  |ct ρ4=>exact again ρ4 e2
  |bk ρ4=>cases e2; exact λσ' H4 Z4 F4 S4 f4 P4=>q2 σ' H4 Z4 F4 S4 (f3.trans f4) P4
  |rt m ρ4=>cases e2; exact λx σ' H4 Z4 F4 G S4 O4 f4 P4=>q2 x σ' H4 Z4 F4 G S4 O4 (f3.trans f4) P4
 ·left
  rw[J9] at e2;cases e2;exact⟨hJ.stop H2 Z2 g2 _ (Db _),q2 σ2 H2 Z2 F2 S2 (aN.refl w2) P2⟩
theorem Cj{iter:Expr}{body:List Stmt}{fi:FI}{fg:FG}{fb:FS}(hp0:PassesOwn (model X.prog X.w) X.A X.env X.xe)(hc:X.calm=true)(hi:VI X tg iter fi)(hg:VG X pin tg fg)(hb:zc X pin body fb)
  (hs:∀x,Ey iter X.env x=pure x:=by intro _; rfl):VS X pin (.For tg iter body [] pos) (jH fi fg fb):=λpv hp=>gy (Bm hp0 hc hi (hg pv hp) (hb pv hp) hs) λ_ _ _ hq=>zq hq
end
noncomputable def fin:List Bool->List M->Ev->Option (List M)
 |[],[],_=>some []
 |true::ps,_::ms,some m'::ρ=>(fin ps ms ρ).bind λms'=>some (m'::ms')
 |false::ps,.v d::ms,_::ρ=>(fin ps ms ρ).bind λms'=>some (.v d::ms')
 |_,_,_=>none
section
variable{K:AC}{H:Hp}{Z:Zs}
theorem rq:∀{ps:List Bool}{ms:List M}{ρ:Ev}{ms':List M}{σ:L2.St}{F:List Addr}{vs:List V},bh K H Z σ ρ F->F.Nodup->(∀(i:Nat)x,ps[i]? = some true->vs[i]? = some x->σ[i]? = some (some x)) ->
  (∀(i:Nat)x d,ps[i]? = some false->vs[i]? = some x->ms[i]? = some (.v d)->Fz K H Z x d)->vs.length=ms.length->fin ps ms ρ=some ms'->∃A,rj K H Z vs ms' A/\A.Nodup/\∀a∈A,a∈F:=by
 intro ps
 induction ps with
 |nil=>
  intro ms ρ ms' σ F vs S nd _ _ hl e;cases ms with
  |cons _ _=>cases e
  |nil=>
   have e:some []=some _:=e;cases e;have:vs=[]:=Fp.mp (by simpa using hl)
   subst this;exact⟨[],.nil,EX,λa h=>by simp at h⟩
 |cons p ps ih=>
  intro ms ρ ms' σ F vs S nd h1 h2 hl e;cases ms with
  |nil=>cases p <;> cases e
  |cons m ms=>
  cases vs with
  |nil=>simp at hl
  |cons v vs=>
  have hl':vs.length=ms.length:=by simpa using hl
  have h2':∀(i:Nat)x d,ps[i]? = some false->vs[i]? = some x->ms[i]? = some (.v d)->Fz K H Z x d:=λi x d p q z=>h2 (i+1) x d (by simpa using p) (by simpa using q) (by simpa using z)
  have hσ:∀{x:Option V}{σ':L2.St},σ=x::σ'->(∀(i:Nat)x,ps[i]? = some true->vs[i]? = some x->σ'[i]? = some (some x)):=λ{x σ'}eσ i y p q=>by
   have:=h1 (i+1) y (by simpa using p) (by simpa using q)
   rw[eσ] at this;simpa using this
  cases p with
  |true=>
   cases S with
   |nil=>cases e
   |non r=>cases e
   |@som x m' G σ ρ F q r=>
    obtain⟨ms',e1,e⟩:=oB e;cases e;obtain⟨n1,n2,n3⟩:=bD nd;have hx:=h1 0 v rfl rfl;cases hx;obtain⟨A,a1,a2,a3⟩:=ih r n2 (hσ rfl) h2' hl' e1;refine⟨G++A,.cons q a1,aS n1 a2 λa h z=>n3 a h (a3 a z),λa h=>?_⟩
    rcases lM h with h | h
    ·exact lL _ h
    ·exact lR _ (a3 a h)
  |false=>
   cases m with
   |lst _=>cases ρ <;> cases e
   |cz _=>cases ρ <;> cases e
   |cD _=>cases ρ <;> cases e
   |dtp _=>cases ρ <;> cases e
   |lls _=>cases ρ <;> cases e
   |dre _ _ _=>cases ρ <;> cases e
   |fn _ _=>cases ρ <;> cases e
   |v d=>
   cases ρ with
   |nil=>cases e
   |cons c ρ=>
   obtain⟨ms',e1,e⟩:=oB e;cases e;have key:∀{σ':L2.St}{F':List Addr},bh K H Z σ' ρ F'->F'.Nodup->(∀a∈F',a∈F)->(∀(i:Nat)x,ps[i]? = some true->vs[i]? = some x->σ'[i]? = some (some x))->∃A,rj K H Z (v::vs) (.v d::ms') A/\A.Nodup/\∀a∈A,a∈F:=λS' nd' sub h1'=>by
    obtain⟨A,a1,a2,a3⟩:=ih S' nd' h1' h2' hl' e1;exact⟨[]++A,.cons (.v (h2 0 v d rfl rfl rfl)) a1,by rw[FJ]; exact a2,λa h=>by rw[FJ] at h; exact sub a (a3 a h)⟩
   cases S with
   |non r=>exact key r nd (λ_ h=>h) (hσ rfl)
   |som q r=>exact key r (bD nd).2.1 (λa h=>lR _ h) (hσ rfl)
theorem bh.wM:∀{xs:List V}{ms:List M}{A:List Addr}(n:Nat),rj K H Z xs ms A->bh K H Z (xs.map some++E8 n none) (ms.map some++E8 n none) A:=by
 intro xs ms A n h
 induction h with
 |nil=>
  induction n with
  |zero=>exact .nil
  |succ n ih=>exact .non ih
 |cons h r ih=>exact .som h ih
theorem bh.sS{xs:List V}{ms:List M}{A:List Addr}(h:rj K H Z xs ms A):∀n:Nat,bh K H Z (E8 n none++xs.map some) (E8 n none++ms.map some) A
 |0=>by have:=bh.wM 0 h; simpa using this
 |n+1=>.non (bh.sS h n)
end
noncomputable def eF(ps:List Bool)(n:Nat)(fb:FS):FF:=λms=>if ms.length=ps.length then (fb (ms.map some++E8 (n-ms.length) none)).bind λo=>match o with
 |.rt m ρ=>(fin ps ms ρ).bind λms'=>some (m,ms')
 |.nx ρ=>(fin ps ms ρ).bind λms'=>some (.v .none,ms')
 |_=>none
 else none
noncomputable def pins:List Bool->Nat->List Nat
 |[],_=>[]
 |true::ps,k=>k::pins ps (k+1)
 |false::ps,k=>pins ps (k+1)
theorem k9:∀{ps:List Bool}{k i:Nat},ps[i]? = some true->k+i∈pins ps k
 |[],_,_,h=>by simp at h
 |true::ps,k,0,_=>lS
 |true::ps,k,i+1,h=>lO _ (by have:=k9 (k:=k+1) (i:=i) (ps:=ps) (by simpa using h); rw[show k+(i+1)=k+1+i by lia]; exact this)
 |false::ps,k,0,h=>by simp at h
 |false::ps,k,i+1,h=>by have:=k9 (k:=k+1) (i:=i) (ps:=ps) (by simpa using h); rw[show k+(i+1)=k+1+i by lia]; exact this
theorem rj.get{K:AC}{H:Hp}{Z:Zs}:∀{xs:List V}{ms:List M}{A:List Addr}{i:Nat}{x:V}{m:M},rj K H Z xs ms A->xs[i]? = some x->ms[i]? = some m->∃G,Ow K H Z x m G:=by
 intro xs ms A i x m h
 induction h generalizing i with
 |nil=>intro e; simp at e
 |cons h r ih=>
  intro e e';cases i with
  |zero=>cases e; cases e'; exact⟨_,h⟩
  |succ i=>exact ih (i:=i) (by simpa using e) (by simpa using e')
section
variable{P:EK}{w:World}{K:AC}{mg:Str->Option Value}{base:Heap}
theorem Ck{x qual:Str}{st:Stmt}{f:Addr}{fd:G4}{N prs:List Str}{k:Nat}(ps:List Bool){fb:FS}(Fn:jB K x qual st f fd)(S:bf N prs (av st))(hl:prs.length=ps.length)
  (hb:∀(cdv:Value)(A:FK)(outer:List Env)(s:Bi)(H:Hp)(E:XK),ff k (A.deeper (Ib qual (av st) s.heap.objs.size f cdv))->zc (pG iI P w K mg base N qual (av st) f cdv A outer s H E).CT (pins ps 0) (dw st) fb) :
  cB P w K mg base iI (k+1) f fd prs (dM K (eF ps N.length fb)):=by
 refine Fn.ok S (λvs H Q E h=>?_) λcdv A outer s H vs Q E hr h=>?_
 ·obtain⟨Z,ms,A,m,ms',h1,_,e,_⟩:=h
  unfold eF at e
  split at e
  ·next he=>rw[hl,<-he,h1.length]
  ·cases e
 ·obtain⟨Z,ms,A',m,ms',h1,h2,e,q⟩:=h
  unfold eF at e
  split at e
  ·next he=>
   let pv:Pv:=λi=>if ps[i]? = some true then vs[i]? else none
   have sup:AJ pv (pins ps 0):=λj y e=>by
    have e:(if ps[j]? = some true then vs[j]? else none)=some y:=e
    split at e
    ·next hj=>have:=k9 (k:=0) hj; rwa [Nat.zero_add] at this
    ·cases e
   refine⟨_,hb cdv A outer s H E hr pv sup,?_⟩;obtain⟨o,e1,e⟩:=oB e;have hlen:=h1.length;have pin0:Pin pv (L2.start N vs):=λi y e=>by
    have e:(if ps[i]? = some true then vs[i]? else none)=some y:=e
    split at e
    ·unfold L2.start
     rw[GR (by rw[At]; exact(EA.mp e).1),E9,e]
     rfl
    ·cases e
   have S0:bh K H Z (L2.start N vs) (ms.map some++E8 (N.length-ms.length) none) A':=by
    have:=bh.wM (N.length-ms.length) h1;rw[<-hlen] at this;unfold L2.start;rw[<-hlen];exact this
   have fz0:∀(i:Nat)x d,ps[i]? = some false->vs[i]? = some x->ms[i]? = some (.v d)->Fz K H Z x d:=λi x d _ h h'=>by
    obtain⟨G,z⟩:=h1.get h h';cases z with
    |v f=>exact f
   have pinR:∀{σ':L2.St},Pin pv σ'->∀(i:Nat)x,ps[i]? = some true->vs[i]? = some x->σ'[i]? = some (some x):=λ{σ'}P' i x h h'=>P' i x (by show (if ps[i]? = some true then vs[i]? else none)=some x; rw[if_pos h]; exact h')
   refine⟨Z,_,A',o,S0,h2,pin0,e1,?_⟩;cases o with
   |nx ρ=>
    obtain⟨ms2,e2,e⟩:=oB e;cases e;intro σ' H' Z' F' S' f' P';obtain⟨A2,a1,a2,a3⟩:=rq S' f'.nd (pinR P') (λi x d h h' h''=>(fz0 i x d h h' h'').mono (f'.grow h2)) hlen e2
    exact q .non H' Z' A2 [] a1 (.v .non) (f'.sub a2 a3).nil
   |rt m2 ρ=>
    obtain⟨ms2,e2,e⟩:=oB e;cases e;intro x σ' H' Z' F' G S' O' f' P';obtain⟨n1,n2,n3⟩:=bD f'.nd;obtain⟨A2,a1,a2,a3⟩:=rq S' n1 (pinR P') (λi x d h h' h''=>(fz0 i x d h h' h'').mono (f'.grow h2)) hlen e2
    refine q x H' Z' A2 G a1 O' (f'.sub (aS a2 n2 λa h z=>n3 a (a3 a h) z) λa h=>?_)
    rcases lM h with h | h
    ·exact lL _ (a3 a h)
    ·exact lR _ h
   |bk ρ=>cases e
   |ct ρ=>cases e
  ·cases e
end
end VL
end
section
namespace L2
open PySem PySem.Spec PyProof.Rows
theorem jI:KD (.type "zip") "__getattr__" = pure none:=by rw[typeLookup_type,LL]; kernel_rfl
theorem l6:KD (.type "zip") "keys" = pure none:=by rw[typeLookup_type,LL]; kernel_rfl
theorem gA:entryFor table "zip.__getattribute__" = some Gs.«object.__getattribute__» :=
 entryFor_alias (id' := "object.__getattribute__") (by kernel_rfl) (by decide +kernel) (by decide +kernel) (by kernel_rfl)
theorem wN(a:Addr)(xs:Array Value)(sl:Array (Option Value))(u:Tok) :
  Meets (Gs.«object.__getattribute__» ⟨[.ref a,.str "keys" u],[]⟩) (λA R s=>s.heap.get? a=some { cls:=.type "zip",dict:=none,data:=.fields xs,slots:=sl }/\raisesAttr (.ref a) "keys" A R s) :=
 Meets.of_wp λprog w A R s hs=>by
  obtain⟨hp,g,d,tk,os⟩:=s;obtain⟨hx,hs⟩:=hs;have hmiss:=l6;have hname:(["__module__", "__name__", "__qualname__", "__doc__", "__annotations__"]:List Str).contains "keys" = false:=by decide
  have hT:(⟨hp,g,d,tk,os⟩:Bi).TypeIs (.ref a) "zip" := ⟨_,hx,rfl⟩;unfold Gs.«object.__getattribute__»
  repeat (any_goals (first | assumption | wp_step))
  try simp only[hname,Fc,if_false]
  try repeat (any_goals (first | assumption | wp_step))
  exact wpAny_raiseAttrError hs.1 hs.2 (attrMsg_fits (by decide +kernel) (by decide))
theorem rz{prog:EK}{w:World}{A:FK}{E:Value->Bi->Prop}{s:Bi}{a:Addr}{xs:Array Value}{sl:Array (Option Value)}{Q:Option Value->Bi->Prop}
  (hx:s.heap.get? a=some { cls:=.type "zip",dict:=none,data:=.fields xs,slots:=sl }) (hA:A.handled=none)
  (h:∀h' tk,(∀b o,s.heap.get? b=some o->h'.get? b=some o)->Q none { s with heap:=h',toks:=tk }):wpAny (model prog w) A (getAttr? (.ref a) "keys") Q E s:=by
 obtain⟨hp,g,d,tk,os⟩:=s;have hT:∀tk',(⟨hp,g,d,tk',os⟩:Bi).TypeIs (.ref a) "zip" := λ_=>⟨_,hx,rfl⟩
 have f1:=sub_AttributeError;have f3:=IQ.lookup;have f4:=IQ.bind (.ref a);have f5:=jI;unfold getAttr? getAttrBy? getAttrBy
 repeat (any_goals (first | assumption | exact hT _ | ((with_reducible show wpAny _ _ (call (Value.builtin "zip.__getattribute__") _ _) _ _ _); refine JC IQ (hT _) gA (F.args_zip_getattribute_2 _ _) (wN a xs sl _) ⟨hx,hA,λh' tk' e hx' =>?_⟩) | wp_step))
 obtain⟨t',u',he⟩:=hx'.there;show wpAny _ _ (Lm _ _ _ _ _ _ _) _ _ _;unfold Lm
 repeat (any_goals (first | assumption | wp_step))
 exact h h' tk' hx'.keeps
section
variable{prog:EK}{w:World}{A:FK}{E:Value->Bi->Prop}{s:Bi}{t1 t2:Bool}
theorem jn{a:Addr}{Q:Option Obj->Bi->Prop}(h:Q (s.heap.get? a) s):wpAny (model prog w) A (loadIfAlive a) Q E s:=λ_ _ _=>h
abbrev IsZ2(h:Heap)(z TI TO:Addr)(f0 f1:Value):Prop :=
 h.get? z=some { cls:=.type "zip",dict:=none,data:=.fields #[f0,f1,.bool false,.ref TI,.ref TO],slots:=#[] }
structure ZU(t1 t2:Bool)(g:Heap)(z p q i j a b:Addr)(k:Nat):Prop where
 zr:IsZip g z p q .none\/∃ (T:Nat) (f1:Bool) (o:Obj),IsZ2 g z p q (Ir T) (.bool f1)/\g.get? T=some o/\T∉[z,p,q,i,j]
 ins:Hn g p (.ref i) (.ref j)
 out:∃u v,Hn g q u v
 one:SI t1 g i a k
 two:SI t2 g j b k
theorem ZS.zu{g:Heap}{z p q i j a b:Addr}{k:Nat}(h:ZS t1 t2 g z p q i j a b k):ZU t1 t2 g z p q i j a b k:=⟨.inl h.zr,h.ins,h.out,h.one,h.two⟩
theorem ZU.keep{g g':Heap}{z p q i j a b:Addr}{k:Nat}(x:ZU t1 t2 g z p q i j a b k)(h:∀c o,g.get? c=some o->g'.get? c=some o):ZU t1 t2 g' z p q i j a b k :=
 ⟨by
  rcases x.zr with e | ⟨T,f,o,e1,e2,e3⟩
  ·exact .inl (h _ _ e)
  ·exact .inr ⟨T,f,o,h _ _ e1,h _ _ e2,e3⟩,h _ _ x.ins,let ⟨u,v,e⟩:=x.out; ⟨u,v,h _ _ e⟩,x.one.at λo e=>h _ o e,x.two.at λo e=>h _ o e⟩
theorem ZU.zv{g g':Heap}{z p q i j a b d:Addr}{k:Nat}(x:ZU t1 t2 g z p q i j a b k)(hd:d∉[z,p,q,i,j])(od:∃o,g'.get? d=some o)(h:∀c o,c≠d->g.get? c=some o->g'.get? c=some o):ZU t1 t2 g' z p q i j a b k:=by
 have n:∀c∈[z,p,q,i,j],c≠d:=λc hc e=>hd (e▸hc)
 refine⟨?_,h _ _ (n p (by simp)) x.ins,let ⟨u,v,e⟩:=x.out; ⟨u,v,h _ _ (n q (by simp)) e⟩,x.one.at λo e=>h _ o (n i (by simp)) e,x.two.at λo e=>h _ o (n j (by simp)) e⟩
 rcases x.zr with e | ⟨T,f,o,e1,e2,e3⟩
 ·exact .inl (h _ _ (n z (by simp)) e)
 ·by_cases ht:T=d
  ·subst ht
   obtain⟨o',e'⟩:=od;exact .inr ⟨T,f,o',h _ _ (n z (by simp)) e1,e',e3⟩
  ·exact .inr ⟨T,f,o,h _ _ (n z (by simp)) e1,h _ _ ht e2,e3⟩
theorem free2{z p q:Addr}{T:Nat}{f:Bool}{o:Obj}{P:Bool->Bi->Prop}(zr:IsZ2 s.heap z p q (Ir T) (.bool f))(et:s.heap.get? T=some o)
  (h:∀g1,IsZ2 g1 z p q (Ir T) (.bool true)->Gf z s.heap g1->P false { s with heap:=g1 }):wpAny (model prog w) A (Fb (.ref z)) P E s:=by
 unfold Fb;refine AT (GH zr rfl (x:=Ir T) rfl ?f5);show wpAny _ _ (loadIfAlive (Int.toNat (T:Int)) >>= _) _ _ _;refine AT (jn ?f6);rw[Fv,et];show wpAny _ _ (field (.ref z) 1 >>= _) _ _ _;refine AT (GH zr rfl (x:=.bool f) rfl ?f7);cases f with
 |false=>
  show wpAny _ _ (setField (.ref z) 1 (.bool true) >>= _) _ _ _;exact AT (Gj zr (by simp) λg1 z1 s1=>Bn (h g1 z1 s1))
 |true=>exact Bn (h s.heap zr ⟨rfl,λ_ _=>rfl⟩)
theorem wO{z p q i j a b:Addr}{k:Nat}{xs ys:Array Value}{Q:Option Value->Bi->Prop}(hh:xs[k]? = none\/ys[k]? = none->A.handled=none)(D:KI z p q i j a b)(Z:ZU t1 t2 s.heap z p q i j a b k)(ha:SQ t1 s.heap a xs)(hb:SQ t2 s.heap b ys)
  (h:∀x y,xs[k]? = some x->ys[k]? = some y->∀g,ZU t1 t2 g z p q i j a b (k+1)->Hn g s.heap.objs.size x y->(∀c o,c∉[z,q,i,j]->s.heap.get? c=some o->g.get? c=some o)->Q (some (.ref s.heap.objs.size)) { s with heap:=g })
  (h2:xs[k]? = none\/ys[k]? = none->∀g,(∀c o,c∉[z,q,i,j]->s.heap.get? c=some o->g.get? c=some o)->Q none { s with heap:=g }):wpAny (model prog w) A (JB (.ref z)) Q E s:=by
 have lt:∀c o,s.heap.get? c=some o->c≠s.heap.objs.size:=λc o e=>ED (Da e)
 rcases id Z.zr with e | ⟨T,f,o,zr,et,tn⟩
 ·refine nW hh D ⟨e,Z.ins,Z.out,Z.one,Z.two⟩ ha hb (λx y hx hy g g1 g2 g3 g4 g5 g6 g7=>h x y hx hy g ⟨.inr ⟨s.heap.objs.size,false,_,g1,g6,λhm=>?_⟩,g2,⟨_,_,g3⟩,g4,g5⟩ g6 g7) h2
  obtain⟨u,v,eq⟩:=Z.out;obtain⟨o1,e1,_⟩:=Z.one;obtain⟨o2,e2,_⟩:=Z.two;simp only[FL,EE,or_false] at hm;rcases hm with t | t | t | t | t
  ·exact lt _ _ e t.symm
  ·exact lt _ _ Z.ins t.symm
  ·exact lt _ _ eq t.symm
  ·exact lt _ _ e1 t.symm
  ·exact lt _ _ e2 t.symm
 ·have hT:s.TypeIs (.ref z) "zip" := ⟨_,zr,rfl⟩
  have tz:(T:Nat)≠z:=λt=>tn (by simp[t])
  have ti:(T:Nat)≠i:=λt=>tn (by simp[t])
  have tj:(T:Nat)≠j:=λt=>tn (by simp[t])
  have apart:∀c,c∉[z,q,i,j]->c≠z/\c≠q/\c≠i/\c≠j:=λc hc=>⟨λt=>hc (by simp[t]),λt=>hc (by simp[t]),λt=>hc (by simp[t]),λt=>hc (by simp[t])⟩
  unfold JB;refine AT (wpAny_attempt (GK (name:=IP "__next__") hT IV (GE IV hT Lr ?body (Lc _))))
  case body=>
   have fin:xs[k]? = none\/ys[k]? = none->∀g x,(∀c o,c∉[z,q,i,j]->s.heap.get? c=some o->g.get? c=some o)->(∃o,g.get? x=some o/\o.cls=.type "StopIteration")->wpAny (model prog w) A (isInstance (.ref x) (.type "StopIteration")) (λr s'=>wpAny (model prog w) A (if r=true then pure none else throw (.ref x)) Q E s') E { s with heap:=g }:=λhe g x kp hx=>by
    obtain⟨o,ho,hc⟩:=hx;exact wpAny_isInstance (T := "StopIteration") (b:=true) ⟨o,ho,hc⟩ isSubtype_stop (Bn (h2 he g kp))
   show wpAny _ _ (field (.ref z) 2 >>= _) _ _ _;refine AT (GH zr rfl (x:=.bool false) rfl ?f2);show wpAny _ _ (field (.ref z) 3 >>= _) _ _ _;refine AT (GH zr rfl (x:=.ref p) rfl (AT (H9 Z.ins rfl ?f3)));show wpAny _ _ (Fb (.ref z) >>= _) _ _ _;refine AT (free2 zr et λg1 z1 s1=>?f4)
   simp only[Fc,if_false];refine AT ?f5;rw[<-Array.forIn_toList];simp only[JL,Li];refine AT (AT (FX ?f6));show wpAny _ _ (Fm (.ref i) >>= _) _ _ _;refine AT (nV (s:={ s with heap:=g1 }) (λe=>hh (.inl e)) (Z.one.extBut s1.extBut D.i1z) (ha.extBut s1.extBut D.l1z) (λx hx g2 i2 s2=>Bn ?f7) λhx g2 x s2 hx' =>?f8)
   case f8=>exact AT (fin (.inl hx) g2 x (λc o hc e=>s2 _ _ (apart c hc).2.2.1 (s1.extBut _ _ (apart c hc).1 e)) hx')
   refine Bn ?f9;refine AT (AT (FX ?f10));show wpAny _ _ (Fm (.ref j) >>= _) _ _ _;have k2:∀c o,c∉[z,q,i,j]->s.heap.get? c=some o->g2.get? c=some o:=λc o hc e=>s2.extBut _ _ (apart c hc).2.2.1 (s1.extBut _ _ (apart c hc).1 e)
   refine AT (nV (s:={ s with heap:=g2 }) (λe=>hh (.inr e)) ((Z.two.extBut s1.extBut D.i2z).extBut s2.extBut D.i12.symm) ((hb.extBut s1.extBut D.l2z).extBut s2.extBut D.l2i1) (λy hy g4 j4 s4=>Bn ?g0) λhy g4 x' s4 hx' =>?g3)
   case g3=>exact AT (fin (.inr hy) g4 x' (λc o hc e=>s4 _ _ (apart c hc).2.2.2 (k2 c o hc e)) hx')
   refine Bn (Bn ?g1);have sz:g4.objs.size=s.heap.objs.size:=by rw[s4.1,s2.1,s1.1]
   have ZZ:ZU t1 t2 g4 z p q i j a b (k+1):=by
    refine⟨.inr ⟨T,true,o,?_,?_,tn⟩,?_,?_,?_,j4⟩
    ·exact s4.extBut _ _ D.i2z.symm (s2.extBut _ _ D.i1z.symm z1)
    ·exact s4.extBut _ _ tj (s2.extBut _ _ ti (s1.extBut _ _ tz et))
    ·exact s4.extBut _ _ D.TIi2 (s2.extBut _ _ D.TIi1 (s1.extBut _ _ D.TIz Z.ins))
    ·obtain⟨u,v,eq⟩:=Z.out
     exact⟨u,v,s4.extBut _ _ D.TOi2 (s2.extBut _ _ D.TOi1 (s1.extBut _ _ D.TOz eq))⟩
    ·exact i2.extBut s4.extBut D.i12
   refine AT (KB ?g2 (by show (2:Nat)<=_; rw[FN]; lia))
   refine Bn ⟨_,rfl,Bn ?_⟩;show Q (some (.ref g4.objs.size)) _;rw[sz];refine h x y hx hy _ (ZZ.keep λc o e=>BM _ e) ?_ λc o hc e=>BM _ (s4.extBut _ _ (apart c hc).2.2.2 (k2 c o hc e))
   rw[<-sz];exact Dx _ rfl
end
theorem ee:entryFor table "dict.update.loop" = some Gs.«dict.update.loop» := entryFor_of_tree (by kernel_rfl)
theorem bX:plainId "dict.update.loop" = true:=by decide +kernel
section
variable{prog:EK}{w:World}{A:FK}{E:Value->Bi->Prop}{R:Lp->Bi->Prop}{s:Bi}{t1 t2:Bool}
theorem zw{z p q i j a b d:Addr}{xs ys:Array Value}(hh:A.handled=none)(D:KI z p q i j a b)(hd:d∉[z,p,q,i,j])(had:a≠d)(hbd:b≠d)(han:a∉[z,q,i,j])(hbn:b∉[z,q,i,j])(ks:List Key)(hk:ks.length=xs.size)(hks:∀(n:Nat)(x:Value)(k:Key),xs[n]? = some x->ks[n]? = some k->(aJ prog w).is k x=true)(hz:ks.length<=E4) :
  ∀(m k:Nat)(c:Int)(t:Tok)(s:Bi)(acc:List (Key×Value)),ks.length-k=m->k<=ks.length->k<=ys.size->acc.length<=k->ZU t1 t2 s.heap z p q i j a b k->SQ t1 s.heap a xs->SQ t2 s.heap b ys->s.heap.DictOf (aJ prog w) d acc ->
   (∀h' tk,(∀c o,c∉[d,z,q,i,j]->s.heap.get? c=some o->h'.get? c=some o)->h'.DictOf (aJ prog w) d (((ks.drop k).zip (ys.toList.drop k)).foldl (λa p=>Kx a p.1 p.2) acc)->R (.ok (.ret .none)) { s with heap:=h',toks:=tk }) ->
   Hb (model prog w) A (.builtin "dict.update.loop" ⟨[.ref d,.ref z,.int c t,.none],[]⟩) R s:=by
 have sub4:∀{c:Addr},c∈[z,q,i,j]->c∈[z,p,q,i,j]:=λ{c}hc=>by
  simp only[FL,EE,or_false] at hc ⊢;rcases hc with h | h | h | h <;> simp[h]
 intro m
 induction m with
 |zero=>
  intro k c t s acc hm hle hley hacc Z ta tb hD hR;have hkk:k=ks.length:=by lia
  refine G9 ee ?_;rw[Fo bX _];show wpAny _ A.in1 (JB (.ref z) >>= _) _ _ s;have hxn:xs[k]? = none:=by rw[Array.getElem?_eq_none]; lia
  refine AT (wO (λ_=>by simpa using hh) D Z ta tb (λx y hx=>by rw[hxn] at hx; cases hx) λ_ g kp=>?_)
  show wpAny _ A.in1 (Ix d [] >>= _) _ _ _;refine AT (Bn (Bn ?_));refine hR g s.toks (λc o hc e=>kp c o (λh=>hc (lO _ h)) e) ?_
  rw[hkk,J9,Hy];obtain⟨o,es,ep,ho,r⟩:=hD;exact⟨o,es,ep,kp _ _ (λh=>hd (sub4 h)) ho,r⟩
 |succ m ih=>
  intro k c t s acc hm hle hley hacc Z ta tb hD hR;refine G9 ee ?_;rw[Fo bX _];show wpAny _ A.in1 (JB (.ref z) >>= _) _ _ s;have hlt:k<ks.length:=by lia
  have keepD:∀g:Heap,(∀c o,c∉[z,q,i,j]->s.heap.get? c=some o->g.get? c=some o)->g.DictOf (aJ prog w) d acc:=λg kp=>by
   obtain⟨o,es,ep,ho,r⟩:=hD;exact⟨o,es,ep,kp _ _ (λh=>hd (sub4 h)) ho,r⟩
  refine AT (wO (λ_=>by simpa using hh) D Z ta tb (λx y hx hy g Z' gt kp=>?_) λhe g kp=>?_)
  rotate_left
  ·show wpAny _ A.in1 (Ix d [] >>= _) _ _ _
   refine AT (Bn (Bn ?_));refine hR g s.toks (λc o hc e=>kp c o (λh=>hc (lO _ h)) e) ?_
   have hys:ys.toList.drop k=[]:=K8 (by
    rw[EN];rcases he with he | he
    ·have:=Jf.mp he
     lia
    ·exact Jf.mp he)
   rw[hys,Hj];exact keepD g kp
  ·have hkey:=hks k x ks[k] hx (E5 hlt)
   have hD':=keepD g kp;have tT:Jh { s with heap:=g } (.ref s.heap.objs.size) "tuple" := ⟨_,gt,rfl⟩
   refine AT (FX ?_);refine AT (wpAny_tryCatch ?_);unfold Builtin.Dict.pairItems;refine AT (HL tT ?_);show wpAny _ _ (seqItems? _ >>= _) _ _ _;refine AT (H9 gt rfl (Bn ?_));show wpAny _ _ (Hu [x,y] (dictSet d x y)) _ _ _;refine FX ?_;refine La (s:={ s with heap:=g }) hkey hD' (hsz:=by lia) λh' hd' hs=>?_
   refine Bn ⟨Ha bX _,?_⟩;have kp':∀c o,c∉[d,z,q,i,j]->s.heap.get? c=some o->h'.get? c=some o:=λc o hc e=>hs.extBut _ _ (λt=>hc (by simp[t])) (kp c o (λh=>hc (lO _ h)) e)
   have ta':SQ t1 h' a xs:=by
    obtain⟨o,e,r⟩:=ta;exact⟨o,hs.extBut _ _ had (kp _ _ han e),r⟩
   have tb':SQ t2 h' b ys:=by
    obtain⟨o,e,r⟩:=tb;exact⟨o,hs.extBut _ _ hbd (kp _ _ hbn e),r⟩
   have od:∃o,h'.get? d=some o:=let ⟨o,_,_,ho,_⟩:=hd'; ⟨o,ho⟩;have hle':(Kx acc ks[k] y).length<=k+1:=FH (stored_length_le _ _ _) (by lia)
   refine ih (k+1) _ _ _ _ (by lia) hlt (Gp.mp hy).1 hle' (Z'.zv hd od λc o hc e=>hs.extBut _ _ hc e) ta' tb' hd' λh'' tk k2 hd2=>?_
   refine hR h'' tk (λc o hc e=>k2 c o hc (kp' c o hc e)) ?_
   have e1:ks.drop k=ks[k]::ks.drop (k+1):=GS hlt;have e2:ys.toList.drop k=y::ys.toList.drop (k+1):=by
    obtain⟨hl,e⟩:=Gp.mp hy;rw[GS (by simpa using hl)]
    simp[e]
   rw[e1,e2,GB,JM];exact hd2
end
section
variable{prog:EK}{w:World}{A:FK}{E:Value->Bi->Prop}{s:Bi}{t1 t2:Bool}
theorem zz{z p q i j a b:Addr}{xs ys:Array Value}{Q:Value->Bi->Prop}(hh:A.handled=none)(D:KI z p q i j a b)(Z:ZS t1 t2 s.heap z p q i j a b 0)(ta:SQ t1 s.heap a xs)(tb:SQ t2 s.heap b ys)(han:a∉[z,q,i,j])(hbn:b∉[z,q,i,j])
  (ks:List Key) (hk:ks.length=xs.size) (hks:∀(n:Nat)(x:Value)(k:Key),xs[n]? = some x->ks[n]? = some k->(aJ prog w).is k x=true) (hz:ks.length<=E4)
  (h:∀h' tk,(∀c o,c∉[z,q,i,j]->s.heap.get? c=some o->h'.get? c=some o)->h'.DictOf (aJ prog w) s.heap.objs.size ((ks.zip ys.toList).foldl (λa p=>Kx a p.1 p.2) [])->Q (.ref s.heap.objs.size) { s with heap:=h',toks:=tk }) :
  wpAny (model prog w) A (call (.type "dict") [.ref z]) Q E s:=by
 refine callType_codes (Q₁:=λobj s₁=>obj=.ref s.heap.objs.size/\s₁={ s with heap:=s.heap.push { cls:=.type "dict",data:=.dict #[] } }) F.kt_called_dict (F.kt_typeCall_dict_1 _) F.entry_dict_init (kt_code_dict_new _ ⟨rfl,rfl⟩) ?_
 rintro obj s₁ ⟨rfl,rfl⟩;have hnew:(s.heap.push { cls:=.type "dict",data:=.dict #[] }).DictOf (aJ prog w) s.heap.objs.size []:=K5 s.heap;have Z1:ZS t1 t2 (s.heap.push { cls:=.type "dict",data:=.dict #[] }) z p q i j a b 0:=Z.keep λc _ o e=>BM _ e
 have lt:∀c o,s.heap.get? c=some o->c≠s.heap.objs.size:=λc o e=>ED (Da e)
 refine⟨hnew.typeIs,F.args_dict_init_2 _ _,?_⟩;unfold Gs.«dict.__init__»;refine AT ?_;unfold Builtin.Dict.selfAndRest;refine AT (wpAny_notOrdered_dict hnew.typeIs ?_);show wpAny _ _ (pure (s.heap.objs.size,[GQ z])) _ _ _;refine Bn ?_;show wpAny _ _ (J4 "dict.__init__" s.heap.objs.size (.ref z) [] .none) _ _ _;unfold J4;have tz:Jh { s with heap:=s.heap.push { cls:=.type "dict",data:=.dict #[] } } (.ref z) "zip" := ⟨_,Z1.zr,rfl⟩
 refine AT (HL tz ?_);rw[if_pos (by decide)]
 refine AT (rz (s:={ s with heap:=s.heap.push { cls:=.type "dict",data:=.dict #[] } }) Z1.zr (by simpa using hh) λh1 tk1 k1=>?_)
 simp only[Option.isNone_none,if_true];refine AT (HW ?_);have Z2:ZS t1 t2 h1 z p q i j a b 0:=Z1.keep λc _ o e=>k1 _ _ e
 refine AT (Jk (s:={ s with heap:=h1,toks:=tk1 }) Z2.zr ?_)
 have ta':SQ t1 h1 a xs:=by
  obtain⟨o,e,r⟩:=ta;exact⟨o,k1 _ _ (BM _ e),r⟩
 have tb':SQ t2 h1 b ys:=by
  obtain⟨o,e,r⟩:=tb;exact⟨o,k1 _ _ (BM _ e),r⟩
 have hD1:h1.DictOf (aJ prog w) s.heap.objs.size []:=by
  obtain⟨o,es,ep,ho,r⟩:=hnew;exact⟨o,es,ep,k1 _ _ ho,r⟩
 have hd:s.heap.objs.size∉[z,p,q,i,j]:=λhm=>by
  obtain⟨u,v,eq⟩:=Z.out;obtain⟨o1,e1,_⟩:=Z.one;obtain⟨o2,e2,_⟩:=Z.two;simp only[FL,EE,or_false] at hm;rcases hm with t | t | t | t | t
  ·exact lt _ _ Z.zr t.symm
  ·exact lt _ _ Z.ins t.symm
  ·exact lt _ _ eq t.symm
  ·exact lt _ _ e1 t.symm
  ·exact lt _ _ e2 t.symm
 have hh':A.in1.handled=none:=by simpa using hh
 refine Bn ⟨Ha bX _,zw (s:={ s with heap:=h1,toks:=tk1 }) hh' D hd ?_ ?_ han hbn ks hk hks hz ks.length 0 _ _ [] rfl (EY _) (EY _) (Db _) Z2.zu ta' tb' hD1 λh' tk kp hd'=>⟨rfl,h h' tk (λc o hc e=>kp c o (λhm=>?_) (k1 _ _ (BM _ e))) ?_⟩⟩
 ·obtain⟨o,e,_⟩:=ta
  exact lt _ _ e
 ·obtain⟨o,e,_⟩:=tb
  exact lt _ _ e
 ·rcases lK hm with t | t
  ·exact lt _ _ e t
  ·exact hc t
 ·simpa using hd'
end
section
variable{X:Cx}
theorem KV.lg:∀{ks:List Key}{ys:List V}{us:List Value}{acc:List (Key×V)}{acc':List (Key×Value)},Vals ys us->KV acc acc'->KV ((ks.zip ys).foldl (λa p=>putK a p.1 p.2) acc) ((ks.zip us).foldl (λa p=>Kx a p.1 p.2) acc')
 |[],_,_,_,_,_,h=>h
 |_::_,[],_,_,_,r,h=>by cases r; exact h
 |k::ks,y::ys,_,_,_,.cons r rs,h=>KV.lg (ks:=ks) rs (h.put k r)
theorem jU:∀(l:List (Key×V))(acc:List (Key×V)),(l.foldl (λa p=>putK a p.1 p.2) acc).length<=acc.length+l.length
 |[],_=>Db _
 |p::l,acc=>by
  have h1:=jU l (putK acc p.1 p.2);have h2:=fj acc p.1 p.2;rw[JM,E7];lia
noncomputable def El(K:AC)(ta:TA):TE:=λσ H Q=>ta σ H λvs H1=>∃ (a b:Addr) (ys:List V) (ks:List Key),vs=[.ref a,.ref b]/\dJ K H1 a (ks.map kV)/\(fL K H1 b ys\/dJ K H1 b ys)/\∀l,H1 l=none->Q (.ref l) (upd H1 l (.dK ((ks.zip ys).foldl (λacc p=>putK acc p.1 p.2) [])))
theorem zA{a b:Expr}{ta:TA}{p1 p2 pos pos2:Pos}(hc:X.calm=true)(hg:Gl X "dict")(hm:X.mg "dict" = none)(hg2:Gl X "zip")(hm2:X.mg "zip" = none)(ha:PA X [a,b] ta)(hs:E6 [a,b] X.env=[(false,eval a X.env),(false,eval b X.env)]:=by rfl)(hs2:E6 [b] X.env=[(false,eval b X.env)]:=by rfl)
  (hs3:E6 [.Call (.Name "zip" p2) [a,b] [] pos2] X.env=[(false,eval (.Call (.Name "zip" p2) [a,b] [] pos2) X.env)]:=by rfl) :
  PE X (.Call (.Name "dict" p1) [.Call (.Name "zip" p2) [a,b] [] pos2] [] pos) (El X.K ta):=by
 intro pins s σ H Q I h;refine Fg (eO I hg hm PyProof.Rows.boot_dict ?_);refine ET ?_ (by rw[hs3]; rfl) rfl
 rw[hs3];show wpAny _ _ (Ky ((false,eval (.Call (.Name "zip" p2) [a,b] [] pos2) X.env)::[])) _ _ s;refine Hf ?_;refine Fg (eO I hg2 hm2 JE ?_);refine ET (b7 (ha pos2 pins s σ H _ I h) λus s1 ⟨vs,H1,I1,r1,q1⟩=>?_) (by rw[hs,hs2]) (by rw[hs2]; rfl)
 obtain⟨a',b',ys,ks,e,qa,qb,q⟩:=q1;subst e;obtain⟨u,v,rfl,ru,rv⟩:=vals2 r1;cases ru;cases rv;obtain⟨ia,ra,ta',la'⟩:=I1.tuple qa;obtain⟨t2,ib,rb,tb⟩:∃ (t2:Bool) (ib:List Value),Vals ys ib/\SQ t2 s1.heap b' ib.toArray:=by
  rcases qb with qb | qb
  ·obtain⟨ib,rb,pl,_⟩:=I1.list qb
   exact⟨false,ib,rb,pl.isList⟩
  ·obtain⟨ib,rb,tb,_⟩:=I1.tuple qb
   exact⟨true,ib,rb,tb⟩
 have la:a'<s1.heap.objs.size:=by obtain⟨_,e,_⟩:=ta'; exact Da e
 have lb:b'<s1.heap.objs.size:=by obtain⟨_,e,_⟩:=tb; exact Da e
 refine mO (t1:=true) ta' tb λg Z kp=>Ht ?_
 have tg:SQ true g a' ia.toArray:=by obtain⟨o,e,r⟩:=ta'; exact⟨o,kp _ _ e,r⟩
 have tg2:SQ t2 g b' ib.toArray:=by obtain⟨o,e,r⟩:=tb; exact⟨o,kp _ _ e,r⟩
 have nn:∀c,c<s1.heap.objs.size->c∉[s1.heap.objs.size+4,s1.heap.objs.size+3,s1.heap.objs.size,s1.heap.objs.size+1]:=λc hc hm=>by
  simp only[FL,EE,or_false] at hm;have hc':(c:Nat)<s1.heap.objs.size:=hc;rcases hm with t | t | t | t
  ·have t':(c:Nat)=s1.heap.objs.size+4:=t; lia
  ·have t':(c:Nat)=s1.heap.objs.size+3:=t; lia
  ·have t':(c:Nat)=s1.heap.objs.size:=t; lia
  ·have t':(c:Nat)=s1.heap.objs.size+1:=t; lia
 have gsz:s1.heap.objs.size<=g.objs.size:=FZ (LF (HN _ _) (Da Z.zr));have hkl:ks.length=ia.toArray.size:=by rw[Bz,<-ra.length,At]
 refine zz (s:={ s1 with heap:=g }) (I1.ok.hd hc) (Iu la lb) Z tg tg2 (nn _ la) (nn _ lb) ks hkl (λn x k hx hk=>?_) (by rw[At] at la'; exact la') λh' tk k2 hD=>?_
 ·have hx':ia[n]? = some x:=by simpa using hx
  have hv:(ks.map kV)[n]? = some (kV k):=by rw[E9,hk]; rfl
  obtain⟨x',hx2,r⟩:=ra.get hv;rw[hx'] at hx2;cases hx2;exact kC r
 ·have fr:H1 g.objs.size=none:=I1.hok.fresh gsz
  have keep:∀c o,s1.heap.get? c=some o->h'.get? c=some o:=λc o e=>k2 c o (nn c (Da e)) (kp c o e)
  refine⟨.ref g.objs.size,_,I1.laid (a:=g.objs.size) (o:=.dK ((ks.zip ys).foldl (λacc p=>putK acc p.1 p.2) [])) (t':=tk) keep gsz ?_,rfl,q _ fr⟩
  have hbig:(g.objs.size == GL)=false:=by
   have:=I1.big;exact beq_eq_false_iff_ne.mpr λe=>absurd (EJ this gsz) (by rw[e]; exact GM _)
  refine⟨?_,hbig,_,KV.lg rb .nil,by simpa using hD⟩
  have h1:=jU (ks.zip ys) [];have h2:(ks.zip ys).length<=ks.length:=by rw[LZ]; lia
  rw[At] at la';simp only[F9] at h1;lia
end
theorem gB{α β:Type}{R:α->β->Prop}:∀{xs:List α}{ys:List β},xs.length=ys.length->(∀(n:Nat)x y,xs[n]? = some x->ys[n]? = some y->R x y)->Gm R xs ys
 |[],[],_,_=>.nil
 |[],_::_,h,_=>by simp at h
 |_::_,[],h,_=>by simp at h
 |x::xs,y::ys,h,r=>.cons (r 0 x y rfl rfl) (gB (by simpa using h) λn a b h1 h2=>r (n+1) a b (by simpa using h1) (by simpa using h2))
section
variable{X:Cx}{pos:Pos}
theorem zB{i j:Nat}{x y:Str}{a b:Expr}{ta:TA}{px py pt:Pos}{kt k2 pt2}(hc:X.calm=true)(hN:X.N.Nodup)(hi:X.N[i]? = some x)(hj:X.N[j]? = some y)
  (hx:Loc X.env.scope x) (hy:Loc X.env.scope y) (ha:PA X [a,b] ta)
  (hw:HZ [.Tuple [.Name x px,.Name y py] kt pt] (.Tuple [a,b] k2 pt2) X.env=pure none)
  (hs:HY [.Tuple [.Name x px,.Name y py] kt pt] (.Tuple [a,b] k2 pt2) pos.line X.env=pure false:=by rfl)
  (hfx:X.fn x=true\/X.env.scope.names.lookup x=some .local:=by first | exact .inl rfl | exact .inr rfl | assumption) (hfy:X.fn y=true\/X.env.scope.names.lookup y=some .local:=by first | exact .inl rfl | exact .inr rfl | assumption)
  (h1:(Fa [.Tuple [.Name x px,.Name y py] kt pt] X.env).map (·.2)=[HD (.Tuple [.Name x px,.Name y py] kt pt) X.env]:=by rfl)
  (h2:(Fa [.Name x px,.Name y py] X.env).map (·.2)=[HD (.Name x px) X.env,HD (.Name y py) X.env]:=by rfl)
  (hn:(Fa [.Name x px,.Name y py] X.env).length=2:=by rfl) (hst:(Fa [.Name x px,.Name y py] X.env).findIdx? (·.1)=none:=by rfl) :
  PS X (.Assign [.Tuple [.Name x px,.Name y py] kt pt] (.Tuple [a,b] k2 pt2) pos) (tPar i j ta):=by
 intro pins s σ H D I h;refine J2 (Tuple_ (b7 (ha _ pins s σ H _ I h) λus s1 ⟨vs,H1,I1,r1,q1⟩=>?_)) hs hw
 obtain⟨v,w,e1,q1⟩:=q1;subst e1;obtain⟨u1,u2,rfl,rv,rw'⟩:∃u1 u2,us=[u1,u2]/\RelV v u1/\RelV w u2:=by
  cases r1 with
  |cons p q=>
   cases q with
   |cons p' q' =>
    cases q';exact⟨_,_,rfl,p,p'⟩
 refine Ex ?_ (by show 2<=E4; decide)
 have I2:Inv X pins σ H1 { s1 with heap:=s1.heap.push { cls:=.type "tuple",data:=.seq [u1,u2].toArray } }:=I1.kept (t':=s1.toks) λb o e=>BM _ e
 rw[h1];refine JF (I.ok.hd hc) (LB s1.heap _) (by simp[hn]) hst λh' hx' =>?_
 have I3:=I2.kept (h':=h') (t':=s1.toks) λb o e=>hx' b o (ED (Da e)) e
 rw[h2];refine GF (GW (dm I3 hN hi hx rv (λs2 I4=>?_) hfx))
 refine GF (GW (dm I4 hN hj hy rw' (λs3 I5=>IL ?_) hfy))
 exact⟨_,H1,I5,q1⟩
end
end L2
end
section
namespace VL
open PySem PySem.Spec L2 PyProof.Rows
noncomputable def dI:FT:=λρ=>some (true,ρ)
abbrev VF(X:Cx)(ifs:List Expr)(f:FT):Prop:=pO X ifs (vT X.K f)
section
variable{X:Cx}{pos:Pos}
theorem Cm:VF X [] dI:=λpins s σ H Q I hq=>BI pins s σ H Q I (by
 obtain⟨Z,ρ,F,b,ρ',S,w,e,q⟩:=hq;cases e;exact q H Z F S (aN.refl w))
theorem Cn{c:Expr}{f:FT}(h:VT X c f):VF X [c] f:=BJ h
end
noncomputable def cap(ρ:Ev)(j:Nat):Option cW:=match cE ρ j with
 |some (.v d)=>some (.t (.v d))
 |some _=>some (.p j)
 |none=>none
noncomputable def caps(ρ:Ev):List Nat->Option (List cW)
 |[]=>some []
 |j::js=>(cap ρ j).bind λo=>(caps ρ js).bind λos=>some (o::os)
noncomputable def cU(fg:FG)(ft:FT)(fe:FE):List Ap->Ev->List Ap->Option (List Ap×Ev)
 |[],ρ,acc=>some (acc,ρ)
 |d::ds,ρ,acc=>(fg d ρ).bind λρ1=>(ft ρ1).bind λt=>if t.1=true then
  (fe t.2).bind λp=>(cS p.1 p.2).bind λq=>if acc.length<lim then cU fg ft fe ds q.2 (acc++[q.1]) else none
  else cU fg ft fe ds t.2 acc
noncomputable def lq(n:Nat)(js:List Nat)(fi:FI)(fg:FG)(ft:FT)(fe:FE):FE:=λρ=>(fi ρ).bind λp=>(caps p.2 js).bind λos=>(cO os p.2).bind λq=>
 (cU fg ft fe p.1 (E8 n none++q.1.map some) []).bind λr=>(fin (E8 js.length true) q.1 (r.2.drop n)).bind λms'=>some (.t (.lst r.1),fW os ms' q.2)
noncomputable def slot(σ:L2.St)(j:Nat):Option V:=match σ[j]? with
 |some v=>v
 |none=>none
noncomputable def gV(n:Nat)(js:List Nat)(σ:L2.St):Pv:=λk=>if k<n then none else match js[k-n]? with
 |some j=>slot σ j
 |none=>none
section
variable{K:AC}{H:Hp}{Z:Zs}{σ:L2.St}{ρ:Ev}{F:List Addr}
theorem zC(S:bh K H Z σ ρ F):∀{js:List Nat}{os:List cW},caps ρ js=some os->∃xs,jD K H Z σ xs os []/\xs.map some=js.map (slot σ)/\xs.length=js.length:=by
 intro js
 induction js with
 |nil=>
  intro _ e;cases e; exact⟨[],.nil,rfl,rfl⟩
 |cons j js ih=>
  intro _ e;obtain⟨o,e1,e⟩:=oB e;obtain⟨os,e2,e⟩:=oB e;cases e;obtain⟨xs,h1,h2,h3⟩:=ih e2;unfold cap at e1;cases hm:cE ρ j with
  |none=>rw[hm] at e1; cases e1
  |some m=>
   obtain⟨x,G,k1,k2,k3⟩:=S.get (aH.mp hm);have ho:lH K H Z σ x o []:=by
    rw[hm] at e1;cases m with
    |v d=>cases e1; cases k2 with
     |v f=>exact .t (.v f)
    |_=>cases e1; exact .p k1
   refine⟨x::xs,.cons (G:=[]) ho h1,?_,by rw[E7,E7,h3]⟩
   rw[EH,EH,h2];unfold slot;rw[k1]
theorem zD(n:Nat)(js:List Nat)(σ:L2.St):kG (E8 n none++js.map some) σ=E8 n none++js.map (slot σ):=by
 unfold kG;rw[Fy,List.map_replicate,EM];rfl
theorem Co(n:Nat)(js:List Nat)(σ:L2.St):Pin (gV n js σ) (E8 n none++js.map (slot σ)):=λk x e=>by
 unfold gV at e
 split at e
 ·cases e
 ·next hk=>
  rw[Ji (by rw[IT]; lia),IT,E9]
  cases hj:js[k-n]? with
  |none=>rw[hj] at e; cases e
  |some j=>rw[hj] at e; rw[HQ]; exact congrArg some e
theorem lu(n:Nat)(js:List Nat)(σ:L2.St){pin:List Nat}(hp:pin=(Ch js.length).map (n + ·)):AJ (gV n js σ) pin:=λk x e=>by
 unfold gV at e
 split at e
 ·cases e
 ·next hk=>
  cases hj:js[k-n]? with
  |none=>rw[hj] at e; cases e
  |some j=>
   subst hp;have:=(EA.mp hj).1;exact EL.mpr ⟨k-n,GD.mpr this,by lia⟩
end
section
variable{X:Cx}{pos:Pos}
theorem bh.dropN{K:AC}{H:Hp}{Z:Zs}:∀{σ:L2.St}{ρ:Ev}{F:List Addr}(n:Nat),bh K H Z σ ρ F->F.Nodup->∃F',bh K H Z (σ.drop n) (ρ.drop n) F'/\F'.Nodup/\∀a∈F',a∈F:=by
 intro σ ρ F n h
 induction h generalizing n with
 |nil=>exact λnd=>⟨[],by rw[Im,Im]; exact .nil,nd,λ_ h=>h⟩
 |non r ih=>
  cases n with
  |zero=>exact λnd=>⟨_,.non r,nd,λ_ h=>h⟩
  |succ n=>exact ih n
 |som q r ih=>
  intro nd;cases n with
  |zero=>exact⟨_,.som q r,nd,λ_ h=>h⟩
  |succ n=>
   obtain⟨F',h1,h2,h3⟩:=ih n (bD nd).2.1;exact⟨F',h1,h2,λa h=>lR _ (h3 a h)⟩
theorem aN.put{H0 H:Hp}{Z0 Z:Zs}{F0 F:List Addr}{D:Addr}{o o':HO}(f:aN H0 Z0 F0 H Z (F++[D]))(e:H D=some o)(hn:∀u,o≠.tup u)(hf:∀x u,o≠.iH x u):aN H0 Z0 F0 (upd H D o') Z (F++[D])/\aG H Z (upd H D o') Z:=by
 have hD:D∈F++[D]:=lR _ lS;have nz:¬Z D:=f.dz D hD;have keep:∀a o2,a≠D->H a=some o2->upd H D o' a=some o2:=λa o2 n h=>by rw[aL n]; exact h
 have za:∀a,Z a->upd H D o' a≠none:=λa z=>by
  have hne:a≠D:=λh=>nz (h▸z)
  rw[aL hne];exact f.za a z
 have g:aG H Z (upd H D o') Z:=⟨d7.put e hn hf,λa o2 z h=>.inl (keep a o2 (λw=>nz (w▸z)) h),λ_ z=>z⟩
 refine⟨f.trans ⟨λa o2 n h=>.inl (keep a o2 (λw=>n (w▸hD)) h),g.tups,λ_ z=>z,λa z=>.inl z,λa h=>.inl h,f.nd,f.dz,za⟩,g⟩
inductive DQ{α:Type}(K:AC)(pv:Pv)(AP:Hp->Zs->α->List Addr->Prop)(C:List Ap->Ev->α->Prop)(H1:Hp)(Z1:Zs)(B:List Addr)(ds:List Ap)(i m:Nat)(τ:L2.St)(H:Hp):Prop
 |mk (Z:Zs) (ρ:Ev) (F G:List Addr) (acc:α):m=ds.length-i->i<=ds.length->bh K H Z τ ρ F->Pin pv τ->AP H Z acc G->aN H1 Z1 B H Z (F++G)->C (ds.drop i) ρ acc->DQ K pv AP C H1 Z1 B ds i m τ H
theorem qg{α:Type}{pv:Pv}{fg:FG}{ft:FT}{tem:BK}{J:It}{ds:List Ap}{τ:L2.St}{H0 H1:Hp}{Z0 Z1:Zs}{F0 G0 B:List Addr}{ρ0:Ev}{acc0:α}{Q:L2.St->Hp->Prop}
  (AP:Hp->Zs->α->List Addr->Prop) (C E:List Ap->Ev->α->Prop)
  (apm:∀{H Z H' Z' acc G},AP H Z acc G->aG H Z H' Z'->(∀a∈G,∀o,H a=some o->H' a=some o)->AP H' Z' acc G) (apa:∀{H Z acc G},AP H Z acc G->∀a∈G,H a≠none)
  (hC:∀d ds ρ acc,C (d::ds) ρ acc->∃ρ1 b ρ2,fg d ρ=some ρ1/\ft ρ1=some (b,ρ2)/\(b=true->E ds ρ2 acc)/\(b=false->C ds ρ2 acc))
  (S:bh X.K H0 Z0 τ ρ0 F0) (P:Pin pv τ) (a0:AP H0 Z0 acc0 G0) (f0:aN H1 Z1 B H0 Z0 (F0++G0)) (e:C ds ρ0 acc0)
  (hgo:∀H2 Z2 F2,aN H1 Z1 B H2 Z2 F2->∀k d,ds[k]? = some d->J.go k H2/\∀x H',J.yld k H2 x H'->eU H2 H'/\Fz X.K H' Z2 x d) (hst:∀H2 Z2 F2,aN H1 Z1 B H2 Z2 F2->∀k,ds.length<=k->J.stop k H2)
  (hE:∀ds' τ H Z ρ F G acc,E ds' ρ acc->bh X.K H Z τ ρ F->Pin pv τ->AP H Z acc G->aN H1 Z1 B H Z (F++G)->∀N:L2.St->Hp->Prop,(∀τ' H' Z' ρ' F' G' acc',bh X.K H' Z' τ' ρ' F'->Pin pv τ'->AP H' Z' acc' G'->aN H1 Z1 B H' Z' (F'++G')->C ds' ρ' acc'->N τ' H')->tem τ H N)
  (q:∀τ' H' Z' ρ' F' G' acc',bh X.K H' Z' τ' ρ' F'->Pin pv τ'->AP H' Z' acc' G'->aN H1 Z1 B H' Z' (F'++G')->C [] ρ' acc'->Q τ' H') :
  gm (vG X.K pv fg) (vT X.K ft) tem J τ H0 Q:=by
 refine⟨DQ X.K pv AP C H1 Z1 B ds,⟨_,Z0,ρ0,F0,G0,acc0,rfl,EY _,S,P,a0,f0,e⟩,λi m τ2 H2 hW=>?_⟩
 obtain⟨Z2,ρ2,F2,G2,acc,rfl,hi,S2,P2,a2,f2,e2⟩:=hW;rcases LD hi with hi | rfl
 ·right
  rw[GS hi] at e2;obtain⟨go,yl⟩:=hgo H2 Z2 _ f2 i _ (E5 hi);obtain⟨ρ3,b,ρ4,e3,e4,e5,e6⟩:=hC _ _ _ _ e2;refine⟨go,λτ' H'=>∃m',m'<ds.length-i/\DQ X.K pv AP C H1 Z1 B ds (i+1) m' τ' H',λτ' H' h=>h,λx H' hx=>?_⟩
  obtain⟨s,fz⟩:=yl x H' hx;have gs:aG H2 Z2 H' Z2:=aG.same s;have a2':=apm a2 gs λa _ o e=>s a o e
  obtain⟨m1,m2,m3⟩:=bD f2.nd;have fs:aN H2 Z2 (F2++G2) H' Z2 (F2++G2):=by
   have:=(aN.same s f2.za).news f2.wf λa h=>(lM h).elim (S2.al a) (apa a2 a)
   rw[E1] at this;exact this
  refine⟨Z2,ρ2,F2,_,ρ3,S2.mono gs λa _ o e=>s a o e,m1,P2,fz,e3,λτ3 F3 S3 n3 s3 P3=>?_⟩
  have f3:aN H1 Z1 B H' Z2 (F3++G2):=(f2.trans fs).sub (aS n3 m2 λa h z=>m3 a (s3 a h) z) λa h=>by
   rcases lM h with h | h
   ·exact lL _ (s3 a h)
   ·exact lR _ h
  refine⟨Z2,ρ3,F3,b,ρ4,S3,f3.left.wf,e4,λH4 Z4 F4 S4 g4=>?_⟩
  have f4:aN H1 Z1 B H4 Z4 (F4++G2):=f3.trans (g4.frame f3.wf (apa a2'));have a4:=apm a2' (g4.grow f3.left.wf) λa h o e=>g4.keep a o (λz=>(bD f3.nd).2.2 a z h) (f3.dz a (lR _ h)) e
  cases b with
  |false=>exact iteF ⟨_,by lia,Z4,ρ4,F4,G2,acc,rfl,hi,S4,P3,a4,f4,e6 rfl⟩
  |true=>exact iteT (hE _ _ _ _ _ _ _ _ (e5 rfl) S4 P3 a4 f4 _ λτ' H' Z' ρ' F' G' acc' s p a f c=>⟨_,by lia,Z',ρ',F',G',acc',rfl,hi,s,p,a,f,c⟩)
 ·left
  rw[J9] at e2;exact⟨hst H2 Z2 _ f2 _ (Db _),q τ2 H2 Z2 _ F2 G2 _ S2 P2 a2 f2 e2⟩
inductive l7(K:AC)(D:Addr)(H:Hp)(Z:Zs)(acc:List Ap)(G:List Addr):Prop
 |mk (xs:List V):G=[D]->H D=some (.lst xs)->bB K H Z xs acc->l7 K D H Z acc G
theorem l7.mono{K:AC}{D:Addr}{H H':Hp}{Z Z':Zs}{acc:List Ap}{G:List Addr}(h:l7 K D H Z acc G)(g:aG H Z H' Z')(k:∀a∈G,∀o,H a=some o->H' a=some o):l7 K D H' Z' acc G:=by
 obtain⟨xs,rfl,e,z⟩:=h;exact⟨xs,rfl,k D lS _ e,z.mono g⟩
theorem l7.al{K:AC}{D:Addr}{H:Hp}{Z:Zs}{acc:List Ap}{G:List Addr}(h:l7 K D H Z acc G):∀a∈G,H a≠none:=by
 obtain⟨xs,rfl,e,z⟩:=h;exact λa h q=>by rw[Do.mp h,e] at q; cases q
theorem wQ{pv:Pv}{fg:FG}{ft:FT}{fe:FE}{J:It}{ds:List Ap}{D:Addr}{τ:L2.St}{H0 H1:Hp}{Z0 Z1:Zs}{F0 B:List Addr}{ρ0:Ev}{r:List Ap×Ev}{xs0:List V}{acc0:List Ap}{Q:L2.St->Hp->Prop}(S:bh X.K H0 Z0 τ ρ0 F0)(P:Pin pv τ)(d0:H0 D=some (.lst xs0))(z0:bB X.K H0 Z0 xs0 acc0)(f0:aN H1 Z1 B H0 Z0 (F0++[D]))
  (hgo:∀H2 Z2 F2,aN H1 Z1 B H2 Z2 F2->∀k d,ds[k]? = some d->J.go k H2/\∀x H',J.yld k H2 x H'->eU H2 H'/\Fz X.K H' Z2 x d) (hst:∀H2 Z2 F2,aN H1 Z1 B H2 Z2 F2->∀k,ds.length<=k->J.stop k H2) (e:cU fg ft fe ds ρ0 acc0=some r)
  (q:∀τ' H' Z' F' xs,bh X.K H' Z' τ' r.2 F'->Pin pv τ'->H' D=some (.lst xs)->bB X.K H' Z' xs r.1->aN H1 Z1 B H' Z' (F'++[D])->Q τ' H'):gm (vG X.K pv fg) (vT X.K ft) (pP D (vE X.K fe)) J τ H0 Q:=by
 refine qg (l7 X.K D) (λds ρ acc=>cU fg ft fe ds ρ acc=some r) (λds ρ acc=>((fe ρ).bind λp=>(cS p.1 p.2).bind λq=>if acc.length<lim then cU fg ft fe ds q.2 (acc++[q.1]) else none)=some r) l7.mono l7.al (λd ds ρ acc e=>?_) S P ⟨xs0,rfl,d0,z0⟩ f0 e hgo hst (λds' τ H Z ρ F G acc e S P a f N hN=>?_) λτ' H' Z' ρ' F' G' acc' S P a f e=>?_
 ·obtain⟨ρ3,e3,e⟩:=oB e
  obtain⟨⟨b,ρ4⟩,e4,e⟩:=oB e;exact⟨ρ3,b,ρ4,e3,e4,λh=>by subst h; exact e,λh=>by subst h; exact e⟩
 ·obtain⟨xs,rfl,d4,z4⟩:=a
  obtain⟨⟨o5,ρ5⟩,e5,e⟩:=oB e;obtain⟨⟨d,ρ6⟩,e6,e⟩:=oB e
  split at e
  ·next hl=>
   refine⟨Z,ρ,F,o5,ρ5,S,f.left.wf,e5,λy H5 Z5 F5 G5 S5 O5 g5=>?_⟩
   have d5:H5 D=some (.lst xs):=g5.keep D _ (λz=>(bD f.nd).2.2 D z lS) (f.dz D (lR _ lS)) d4
   obtain⟨Z6,F6,S6,y6,f6,g6⟩:=freeze S5 O5 (f.trans (g5.frame f.wf (l7.al ⟨xs,rfl,d4,z4⟩))) e6;have z6:=(z4.mono (g5.grow f.left.wf)).mono g6;obtain⟨f7,g7⟩:=f6.put (o':=.lst (xs++[y])) d5 (λ_ z=>nomatch z) (λ_ _ z=>nomatch z)
   refine⟨xs,d5,gR (FZ (by rw[z6.length]; exact hl)),hN _ _ Z6 ρ6 F6 _ _ (S6.mono g7 λa h o e=>?_) P ⟨xs++[y],rfl,aF,(z6.mono g7).append (.cons (y6.mono g7) .nil)⟩ f7 e⟩
   rw[aL λz=>(bD f6.nd).2.2 a h (by rw[z]; exact lS)]
   exact e
  ·cases e
 ·cases e
  obtain⟨xs,rfl,d,z⟩:=a;exact q τ' H' Z' F' xs S P d z f
theorem zE{n:Nat}{pv:Pv}{fg:FG}{ft:FT}{fe:FE}{J:It}{ds:List Ap}{D:Addr}{τ:L2.St}{H1:Hp}{Z1:Zs}{A:List Addr}{ρ0:Ev}{r:List Ap×Ev}{Q:Hp->Prop}(hD:H1 D=none)(S:bh X.K H1 Z1 τ ρ0 A)(w:Wf H1 Z1 A)(P:Pin pv τ)(hJ:kZ X.K J H1 Z1 ds)(e:cU fg ft fe ds ρ0 []=some r)
  (q:∀τ' H' Z' F' xs,bh X.K H' Z' τ' r.2 F'->Pin pv τ'->H' D=some (.lst xs)->bB X.K H' Z' xs r.1->aN H1 Z1 A H' Z' (F'++[D])->Q H'):gm (vG X.K pv fg) (vT X.K ft) (pP D (vE X.K fe)) J τ (upd H1 D (.lst [])) λ_=>Q:=by
 have n0:=aN.ud (o:=.lst []) hD w.za;exact wQ (Q:=λ_=>Q) (S.news n0 w) P aF .nil (n0.news w S.al) (λH2 Z2 _ f=>hJ.go H2 Z2 (f.grow w)) (λH2 Z2 _ f=>hJ.stop H2 Z2 (f.grow w)) e q
inductive AK(K:AC)(H:Hp)(Z:Zs)(F:List Addr)(H1:Hp)(Z1:Zs)(σ:L2.St)(n:Nat)(js:List Nat)(os:List cW)(ms:List M)(ρh:Ev):Prop
 |mk (τ:L2.St) (A Fh:List Addr):kG (E8 n none++js.map some) σ=τ->bh K H1 Z1 τ (E8 n none++ms.map some) A->Wf H1 Z1 A->Pin (gV n js σ) τ->bh K H1 Z1 σ ρh Fh->(∀a∈Fh,a∉A) ->
  (∀τ' H2 Z2 ρi F2 G ms',bh K H2 Z2 τ' ρi F2->Pin (gV n js σ) τ'->aN H1 Z1 A H2 Z2 (F2++G)->fin (E8 js.length true) ms (ρi.drop n)=some ms'->∃F4,bh K H2 Z2 σ (fW os ms' ρh) F4/\aN H Z F H2 Z2 (F4++G))->AK K H Z F H1 Z1 σ n js os ms ρh
theorem i8{H:Hp}{Z:Zs}{F:List Addr}{H1:Hp}{Z1:Zs}{F1:List Addr}{σ:L2.St}{ρ1:Ev}{n:Nat}{js:List Nat}{os:List cW}{ms:List M}{ρh:Ev}(S1:bh X.K H1 Z1 σ ρ1 F1)(f1:aN H Z F H1 Z1 F1)(e2:caps ρ1 js=some os)(e3:cO os ρ1=some (ms,ρh)):AK X.K H Z F H1 Z1 σ n js os ms ρh:=by
 obtain⟨xs,O1,hxs,hxl⟩:=zC S1 e2;obtain⟨A,Fh,h1,h2,h3,h4⟩:=qe S1 O1 (by rw[E1]; exact f1.nd) e3
 rw[E1] at h4;obtain⟨n1,n2,n3⟩:=bD h3;have wA:Wf H1 Z1 A:=⟨n2,λa h=>f1.dz a (h4 a (lR _ h)),f1.za⟩
 have P0:=Co n js σ;rw[<-hxs] at P0;refine⟨_,A,Fh,by rw[zD,<-hxs],bh.sS h1 n,wA,P0,h2,n3,λτ' H2 Z2 ρi F2 G ms' S2 P2 f2 e5=>?_⟩
 obtain⟨m1,m2,m3⟩:=bD f2.nd;obtain⟨F3,k1,k2,k3⟩:=S2.dropN n m1;obtain⟨A',a1,a2,a3⟩:=rq (vs:=xs) k1 k2 (λi x _ hx=>by
  rw[List.getElem?_drop];refine P2 (n+i) x ?_;unfold gV;rw[if_neg (by lia),show n+i-n=i by lia]
  have hmap:(js.map (slot σ))[i]? = some (some x):=by rw[<-hxs,E9,hx]; rfl
  rw[E9] at hmap;obtain⟨j,hj,hj'⟩:=Ff.mp hmap;rw[hj];exact hj') (λi x d h=>by
   have:=HR h;rw[List.mem_replicate] at this;cases this.2) h1.length e5
 have n3':∀a∈A,a∉Fh:=λa h z=>n3 a z h
 have Sh:bh X.K H2 Z2 σ ρh Fh:=h2.mono (f2.grow wA) λa h o e=>f2.keep a o (n3 a h) (f1.dz a (h4 a (lL _ h))) e
 have fF:=f2.frame (G:=Fh) ⟨aS n2 n1 n3',λa h=>by
  rcases lM h with h | h
  ·exact f1.dz a (h4 a (lR _ h))
  ·exact f1.dz a (h4 a (lL _ h)),f1.za⟩ h2.al
 obtain⟨u1,u2,u3,u4,u5,u6⟩:=Dr fF.nd;obtain⟨F4,p1,p2,p3⟩:=sO Sh O1 a1 (aS u3 a2 λa h z=>u5 a (k3 a (a3 a z)) h) (mV e3)
 have f4:aN H Z F H1 Z1 (A++Fh):=f1.sub (aS n2 n1 n3') λa h=>h4 a (by
  rcases lM h with h | h
  ·exact lR _ h
  ·exact lL _ h)
 refine⟨F4,p1,(f4.trans fF).sub (aS p2 u2 λa h z=>?_) λa h=>?_⟩
 ·rcases lM (p3 a h) with y | y
  ·exact u6 a z y
  ·exact u4 a (k3 a (a3 a y)) z
 ·rcases lM h with h | h
  ·rcases lM (p3 a h) with y | y
   ·exact lR _ y
   ·exact lL _ (lL _ (k3 a (a3 a y)))
  ·exact lL _ (lR _ h)
theorem oF{n:Nat}{js:List Nat}{fi:FI}{fg:FG}{ft:FT}{fe:FE}{σ:L2.St}{H:Hp}{Q:VK}{fr:List (Option Nat)}(hfr:fr=E8 n none++js.map some)(hq:vE X.K (lq n js fi fg ft fe) σ H Q) :
  CU fr (vI X.K fi) (λ_=>vG X.K (gV n js σ) fg) (λ_=>vT X.K ft) (λ_=>vE X.K fe) σ H Q:=by
 subst hfr;obtain⟨Z,ρ,F,o,ρ',S,w,e,q⟩:=hq;obtain⟨⟨ds,ρ1⟩,e1,e⟩:=oB e;obtain⟨os,e2,e⟩:=oB e;obtain⟨⟨ms,ρh⟩,e3,e⟩:=oB e;obtain⟨⟨acc,ρi⟩,e4,e⟩:=oB e;obtain⟨ms',e5,e⟩:=oB e;cases e;refine⟨Z,ρ,F,ds,ρ1,S,w,e1,λJ H1 Z1 F1 S1 hJ f1 D hD z=>?_⟩
 obtain⟨τ,A,Fh,eτ,S0,wA,P0,h2,n3,back⟩:=i8 (n:=n) S1 f1 e2 e3;rw[eτ];refine zE (n:=n) hD S0 wA P0 hJ e4 λτ' H2 Z2 F2 ys S2 P2 d2 z2 f2=>?_
 obtain⟨F4,p1,f4⟩:=back _ _ _ _ _ _ _ S2 P2 f2 e5;exact q (.ref D) H2 Z2 F4 [D] p1 (.t (.lst d2 z2)) f4
theorem ve_lc(n:Nat)(js:List Nat){elt target iter:Expr}{ifs:List Expr}{scope:Scope}{N:List Str}{fr:List (Option Nat)}{pin:List Nat}{fi:FI}{fg:FG}{ft:FT}{fe:FE}(hfr:fr=E8 n none++js.map some)(hpin:pin=(Ch js.length).map (n + ·))(hc:X.calm=true)(S:aV X scope N fr)(hi:VI X target iter fi)
  (hin:∀z:Bk,VG (z.cx X scope N) pin target fg/\VF (z.cx X scope N) ifs ft/\VE (z.cx X scope N) elt fe)
  (hs:∀x,Ey iter X.env x=pure x:=by intro _; rfl):VE X (.ListComp elt [⟨target,iter,ifs,0⟩] scope pos) (lq n js fi fg ft fe):=λpins s σ H Q I hq=>
 vL (g:=λ_=>vG X.K (gV n js σ) fg) (tt:=λ_=>vT X.K ft) (te:=λ_=>vE X.K fe) hc S hi (λz=>⟨(hin z).1 _ (lu n js σ hpin),(hin z).2.1,(hin z).2.2⟩) hs pins s σ H Q I (oF hfr hq)
end
section
variable{K:AC}{H H0:Hp}{Z Z0:Zs}{F F0:List Addr}{σ:L2.St}{ρ:Ev}
theorem uu{i:Nat}{m:M}(S:bh K H Z σ ρ F)(f:aN H0 Z0 F0 H Z F)(e:cE ρ i=some m):∃x G,σ[i]? = some (some x)/\Ow K H Z x m G/\∀a o',a∈G->aG H Z (upd H a o') Z/\(∀b∈G,b≠a->∀o,H b=some o->upd H a o' b=some o) /\
  ∀m' G',(∀b∈G',b∈G)->G'.Nodup->Ow K (upd H a o') Z x m' G'->∃F',bh K (upd H a o') Z σ (ρ.set i (some m')) F'/\aN H0 Z0 F0 (upd H a o') Z F':=by
 obtain⟨x,G,F1,t1,t2,t3,t4,t5⟩:=S.take f.nd (aH.mp e);have hl:=(EA.mp (aH.mp e)).1;obtain⟨n1,n2,n3⟩:=bD t4;refine⟨x,G,t1,t2,λa o' ha=>?_⟩
 obtain⟨o,ho,hmu⟩:=t2.mem a ha;have haF:a∈F:=t5 a (lR _ ha);have nz:¬Z a:=f.dz a haF;have ne:∀b,b≠a->upd H a o' b=H b:=λb h=>aL h
 have g:aG H Z (upd H a o') Z:=⟨by
  rcases hmu with⟨xs,rfl⟩ | ⟨kvs,rfl⟩ | ⟨kvs,rfl⟩
  ·exact d7.lst ho
  ·exact d7.dk ho
  ·exact .put ho (λ_ z=>nomatch z) (λ_ _ z=>nomatch z),λb o2 z h=>by rw[ne b λw=>nz (w▸z)]; exact .inl h,λ_ z=>z⟩
 refine⟨g,λb _ h o2 e2=>by rw[ne b h]; exact e2,λm' G' hs nd' h' =>?_⟩
 have S1:bh K (upd H a o') Z σ (ρ.set i none) F1:=t3.mono g λb hb o2 e2=>by
  rw[ne b λw=>n3 b hb (w▸ha)]
  exact e2
 obtain⟨F2,p1,p2,p3⟩:=S1.put h' (aS n1 nd' λb hb z=>n3 b hb (hs b z)) (by rw[Ft hl])
 rw[Iy,iD t1] at p1;have za:∀b,Z b->upd H a o' b≠none:=λb z=>by
  rw[ne b λw=>nz (w▸z)]
  exact f.za b z
 have f1:aN H Z F (upd H a o') Z F:=⟨λb o2 n h=>by rw[ne b λw=>n (w▸haF)]; exact .inl h,g.tups,λ_ z=>z,λb z=>.inl z,λb h=>.inl h,f.nd,f.dz,za⟩
 refine⟨F2,p1,(f.trans f1).sub p2 λb hb=>?_⟩
 rcases lM (p3 b hb) with y | y
 ·exact t5 b (lL _ y)
 ·exact t5 b (lR _ (hs b y))
end
section
variable{X:Cx}{pos:Pos}{pin:List Nat}
noncomputable def qh(i:Nat)(fa:FA):FE:=λρ=>(cE ρ i).bind λm0=>match m0 with
 |.lst _=>(fa ρ).bind λp=>match p.1 with
  |[o]=>(cS o p.2).bind λq=>(cE q.2 i).bind λm=>match m with
   |.lst ds=>if ds.length<lim then some (.t (.v .none),q.2.set i (some (.lst (ds++[q.1])))) else none
   |_=>none
  |_=>none
 |_=>none
theorem zF{i:Nat}{fa:FA}{σ:L2.St}{H:Hp}{Q:VK}(hq:vE X.K (qh i fa) σ H Q):uL X.K "list" iA (dZ i) (vA X.K fa) σ H Q:=by
 obtain⟨Z,ρ,F,o,ρ',S,w,e,q⟩:=hq;obtain⟨m0,e0,e⟩:=oB e
 split at e
 ·rename_i ds0
  obtain⟨x,G,h1,h2,_⟩:=S.get (aH.mp e0);obtain⟨a,xs0,rfl,ha,_⟩:=(show Ro X.K H Z x (.lst ds0) from⟨G,h2⟩).lst
  refine⟨.ref a,h1,.inl ⟨rfl,_,fL.of ha⟩,?_⟩;obtain⟨⟨os,ρ1⟩,e1,e⟩:=oB e;refine⟨Z,ρ,F,os,ρ1,S,w,e1,λxs H1 Z1 F1 G1 S1 O1 f1=>?_⟩
  rcases os with _ | ⟨o1,_ | ⟨o2,os⟩⟩
  ·cases e
  ·obtain⟨⟨d,ρ2⟩,e2,e⟩:=oB e
   obtain⟨m,e3,e⟩:=oB e
   split at e
   ·rename_i ds
    split at e
    ·rename_i hl
     cases e;cases O1 with
     |cons p1 r1=>
      cases r1;rw[E1] at f1;obtain⟨Z2,F2,S2,z2,f2,_⟩:=fD S1 p1 f1 e2;obtain⟨x',G',k1,k2,k3⟩:=uu S2 f2 e3;rw[h1] at k1; cases k1;cases k2 with
      |lst hb fb=>
       obtain⟨g,_,k4⟩:=k3 a (.lst (_++[_])) lS;obtain⟨F3,S3,f3⟩:=k4 (.lst (ds++[d])) [a] (λ_ h=>h) (EG.mpr ⟨EE,EX⟩) (.lst aF ((fb.append (.cons z2 .nil)).mono g))
       exact⟨a,_,_,rfl,rfl,hb,gR (FZ (by rw[fb.length]; exact hl)),q .non _ Z2 F3 [] S3 (.t (.v .non)) f3.nil⟩
    ·cases e
   ·cases e
  ·cases e
 ·cases e
theorem Cp(i:Nat){e:Expr}{es:List Expr}{fa:FA}{x:Str}{p1 p2:Pos}(ha:VA X (e::es) fa)(hpe:∀(to:TE)(t:TA),PE X (.Name x p1) to->PA X (e::es) t->PE X (.Call (.Attribute (.Name x p1) "append" p2) (e::es) [] pos) (uL X.K "list" iA to t))(hv:PE X (.Name x p1) (dZ i)):VE X (.Call (.Attribute (.Name x p1) "append" p2) (e::es) [] pos) (qh i fa):=bR (hpe _ _ hv ha) λ_ _ _ hq=>zF hq
inductive vP(K:AC)(f:Ev->Option Ap)(σ:L2.St)(H:Hp)(Q:VK):Prop
 |mk (Z:Zs) (ρ:Ev) (F:List Addr) (d:Ap):bh K H Z σ ρ F->f ρ=some d->(∀x,Fz K H Z x d->Q x H)->vP K f σ H Q
abbrev VP(X:Cx)(e:Expr)(f:Ev->Option Ap):Prop:=PE X e (vP X.K f)
noncomputable def fE(i:Nat):Ev->Option Ap:=λρ=>(cE ρ i).bind λm=>match m with
 |.v d=>some d
 |_=>none
theorem Cq(i:Nat){x:Str}{p:Pos}(h:PE X (.Name x p) (dZ i)):VP X (.Name x p) (fE i):=bR h λσ H Q hq=>by
 obtain⟨Z,ρ,F,d,S,e,q⟩:=hq;obtain⟨m,e1,e⟩:=oB e;obtain⟨x,G,h1,h2,_⟩:=S.get (aH.mp e1)
 split at e
 ·cases e
  cases h2 with
  |v f=>exact⟨x,h1,q x f⟩
 ·cases e
noncomputable def putL(kvs:List (Key×List Ap))(k:Key)(d:Ap):List (Key×List Ap):=kvs.map λp=>if p.1=k then (p.1,p.2++[d]) else p
noncomputable def ly(i:Nat)(fk fd:Ev->Option Ap):FE:=λρ=>(cE ρ i).bind λm=>match m with
 |.cD kvs=>(fk ρ).bind λkd=>(eB kd).bind λk=>(cN kvs k).bind λds=>(fd ρ).bind λd=>if ds.length<lim/\(kvs.map (·.1)).Nodup then some (.t (.v .none),ρ.set i (some (.cD (putL kvs k d)))) else none
 |_=>none
theorem iC.app{K:AC}{H H':Hp}{Z:Zs}{k:Key}{b:Addr}{y:V}{d:Ap}(g:aG H Z H' Z):∀{kxs:List (Key×V)}{kvs:List (Key×List Ap)}{G:List Addr},iC K H Z kxs kvs G->(kvs.map (·.1)).Nodup->G.Nodup->fP kxs k=some (.ref b)->(∀c∈G,c≠b->∀o,H c=some o->H' c=some o) ->
  (∀xs,H b=some (.lst xs)->H' b=some (.lst (xs++[y])))->Fz K H' Z y d->iC K H' Z kxs (putL kvs k d) G:=by
 intro kxs kvs G r
 induction r with
 |nil=>intro _ _ e; cases e
 |@cons k' b' xs ds kxs kvs G h f r ih=>
  intro nk nG e keep put fy;have nk':=EG.mp (show (k'::kvs.map (·.1)).Nodup from nk)
  have nG':=EG.mp nG;show iC K H' Z _ ((if k'=k then (k',_++[d]) else (k',_))::putL kvs k d) _
  by_cases hk:k'=k
  ·subst hk
   rw[eS rfl] at e;cases e;rw[if_pos rfl];have same:putL kvs k' d=kvs:=by
    unfold putL;rw[FU (g:=id),Gr];intro p hp;rw[if_neg λz=>nk'.1 (EL.mpr ⟨p,hp,z⟩)]
    rfl
   rw[same];exact .cons (put _ h) ((f.mono g).append (.cons fy .nil)) (r.mono g λc hc o ho=>keep c (lO _ hc) (λz=>nG'.1 (z▸hc)) o ho)
  ·rw[if_neg hk]
   rw[eT hk] at e;have hb:b∈G:=by
    clear keep put
    have:∀{kxs:List (Key×V)}{kvs:List (Key×List Ap)}{G:List Addr},iC K H Z kxs kvs G->fP kxs k=some (.ref b)->b∈G:=λ{kxs kvs G}r e=>by
     induction r with
     |nil=>cases e
     |cons h f r ih=>
      rename_i k0 b0 _ _ _ _ _
      by_cases h0:k0=k
      ·rw[eS h0] at e; cases e; exact lS
      ·rw[eT h0] at e; exact lO _ (ih e)
    exact this r e
   refine .cons (keep b' lS (λz=>nG'.1 (z▸hb)) _ h) (f.mono g) (ih nk'.2 nG'.2 e (λc hc=>keep c (lO _ hc)) put fy)
theorem iC.uniq{K:AC}{H:Hp}{Z:Zs}{kxs:List (Key×V)}{kvs:List (Key×List Ap)}{G G':List Addr}(r:iC K H Z kxs kvs G)(r':iC K H Z kxs kvs G'):G=G':=by
 induction r generalizing G' with
 |nil=>cases r'; rfl
 |cons _ _ _ ih=>cases r' with
  |cons _ _ r2=>rw[ih r2]
theorem iY.uniq{K:AC}{H:Hp}{Z:Zs}{vs:List V}{dss:List (List Ap)}{G G':List Addr}(r:iY K H Z vs dss G)(r':iY K H Z vs dss G'):G=G':=by
 induction r generalizing G' with
 |nil=>cases r'; rfl
 |cons _ _ _ ih=>cases r' with
  |cons _ _ r2=>rw[ih r2]
theorem wR{i:Nat}{fk fd:Ev->Option Ap}{σ:L2.St}{H:Hp}{Q:VK}(hq:vE X.K (ly i fk fd) σ H Q):uL X.K "list" iA (vq (dZ i) (vP X.K fk)) (Aw (vP X.K fd) tNil) σ H Q:=by
 obtain⟨Z,ρ,F,o,ρ',S,w,e,q⟩:=hq;obtain⟨m,e0,e⟩:=oB e
 split at e
 ·rename_i kvs
  obtain⟨kd,e1,e⟩:=oB e;obtain⟨k,e2,e⟩:=oB e;obtain⟨ds,e3,e⟩:=oB e;obtain⟨d,e4,e⟩:=oB e
  split at e
  ·rename_i hl
   cases e;obtain⟨x,G,h1,h2,h3⟩:=uu S (aN.refl w) e0;cases h2 with
   |cD ha ol=>
    rename_i a kxs Gl
    refine⟨.ref a,h1,Z,ρ,F,kd,S,e1,λy fy=>?_⟩
    obtain rfl:=eE fy e2;obtain⟨b,xs,z1,z2,z3,z4⟩:=ol.get e3;refine⟨a,.ref b,rfl,z1▸iV.k ha,.inl ⟨rfl,_,fL.of z2⟩,Z,ρ,F,d,S,e4,λv fv=>?_⟩
    obtain⟨g,kp,k4⟩:=h3 b (.lst (xs++[v])) (lO _ z4);have ndG:(a::Gl).Nodup:=by
     obtain⟨x',G',F1,t1,t2,t3,t4,t5⟩:=S.take w.nd (aH.mp e0);rw[h1] at t1; cases t1;cases t2 with
     |cD ha' ol' =>
      rw[ha] at ha'; cases ha';rw[iC.uniq ol ol'];exact(bD t4).2.1
    have nG:=EG.mp ndG;have hab:a≠b:=λz=>nG.1 (z▸z4)
    have ol2:=ol.app (H':=upd H b (.lst (xs++[v]))) (y:=v) g hl.2 nG.2 z1 (λc hc n o ho=>kp c (lO _ hc) n o ho) (λxs' h'=>by rw[z2] at h'; cases h'; exact aF) (fv.mono g)
    obtain⟨F3,S3,f3⟩:=k4 (.cD (putL kvs k d)) (a::Gl) (λ_ h=>h) ndG (.cD (by rw[aL hab]; exact ha) ol2)
    exact⟨b,xs,v,rfl,rfl,z2,gR (FZ (by rw[z3.length]; exact hl.1)),q .non _ Z F3 [] S3 (.t (.v .non)) f3.nil⟩
  ·cases e
 ·cases e
noncomputable def putD(kvs:List (Key×Ap))(k:Key)(d:Ap):List (Key×Ap):=if (kvs.any λkv=>decide (kv.1=k))=true then kvs.map (λkv=>if kv.1=k then (kv.1,d) else kv) else kvs++[(k,d)]
noncomputable def uv(i:Nat)(fk fe:FE):FS:=λρ=>(fe ρ).bind λp=>(cS p.1 p.2).bind λq=>(cE q.2 i).bind λm0=>match m0 with
 |.v _=>none
 |_=>(fk q.2).bind λr=>(peek r.2 r.1).bind λmk=>(cE r.2 i).bind λm=>match m,mk with
  |.cz kvs,.v kd=>(eB kd).bind λk=>if kvs.length<lim then some (.nx (r.2.set i (some (.cz (putD kvs k q.1))))) else none
  |.lst ds,.v (.int k)=>(sj ds.length k).bind λj=>some (.nx (r.2.set i (some (.lst (ds.set j q.1)))))
  |_,_=>none
theorem zG{K:AC}{H:Hp}{Z:Zs}(k:Key):∀{kxs:List (Key×V)}{kvs:List (Key×Ap)},fU K H Z kxs kvs->(kxs.any λkv=>decide (kv.1=k))=(kvs.any λkv=>decide (kv.1=k)):=by
 intro kxs
 induction kxs with
 |nil=>intro kvs h; cases h; rfl
 |cons p kxs ih=>intro kvs h; cases h with | cons _ r=>rw[Fl,Fl,ih r]
theorem oG{K:AC}{H:Hp}{Z:Zs}{y:V}{d:Ap}{k:Key}(fy:Fz K H Z y d):∀{kxs:List (Key×V)}{kvs:List (Key×Ap)},fU K H Z kxs kvs->fU K H Z (kxs.map λkv=>if kv.1=k then (kv.1,y) else kv) (kvs.map λkv=>if kv.1=k then (kv.1,d) else kv)
 |_,_,.nil=>.nil
 |_,_,.cons (k:=k') h r=>by
  rw[EH,EH]
  by_cases hk:k'=k
  ·simp only[hk,if_true]; exact .cons fy (oG fy r)
  ·simp only[hk,if_false]; exact .cons h (oG fy r)
theorem qi{K:AC}{H:Hp}{Z:Zs}{y:V}{d:Ap}{k:Key}(fy:Fz K H Z y d):∀{kxs:List (Key×V)}{kvs:List (Key×Ap)},fU K H Z kxs kvs->fU K H Z (kxs++[(k,y)]) (kvs++[(k,d)])
 |_,_,.nil=>.cons fy .nil
 |_,_,.cons h r=>.cons h (qi fy r)
theorem fU.put{K:AC}{H:Hp}{Z:Zs}{y:V}{d:Ap}{k:Key}(fy:Fz K H Z y d){kxs:List (Key×V)}{kvs:List (Key×Ap)}(r:fU K H Z kxs kvs):fU K H Z (putK kxs k y) (putD kvs k d):=by
 unfold putK putD;rw[zG k r]
 split
 ·exact oG fy r
 ·exact qi fy r
theorem Cr{st:Stmt}{t u:TS}(h:PS X st t)(h':PS X st u):PS X st (λD σ H=>t D σ H\/u D σ H):=λpins s σ H D I q=>q.elim (h pins s σ H D I) (h' pins s σ H D I)
theorem Ow.uniq{K:AC}{H:Hp}{Z:Zs}{x:V}{m:M}{A B:List Addr}(r:Ow K H Z x m A)(r':Ow K H Z x m B):A=B:=by
 cases r with
 |v _=>cases r'; rfl
 |fn=>cases r'; rfl
 |lst _ _=>cases r'; rfl
 |cz _ _=>cases r'; rfl
 |dtp _ _ _=>cases r'; rfl
 |dre e _ _ _=>cases r' with
  |dre e' _ _ _=>rw[e] at e'; cases e'; rfl
 |lls e r=>
  cases r' with
  |lls e' r' =>
   rw[e] at e'; cases e';rw[iY.uniq r r']
 |cD e r=>
  cases r' with
  |cD e' r' =>
   rw[e] at e'; cases e';rw[iC.uniq r r']
theorem sU{i:Nat}{fk fe:FE}{pv:Pv}{D:Ends}{σ:L2.St}{H:Hp}{Z:Zs}{ρ:Ev}{F:List Addr}{o1 o2:cW}{d:Ap}{ρ1 ρ2 ρ3:Ev}{mk m m':M}(S:bh X.K H Z σ ρ F)(w:Wf H Z F)(P:Pin pv σ)(e1:fe ρ=some (o1,ρ1))(e2:cS o1 ρ1=some (d,ρ2))(e4:fk ρ2=some (o2,ρ3))(e5:peek ρ3 o2=some mk)(e6:cE ρ3 i=some m)
  (q:qf X.K pv D H Z F (.nx (ρ3.set i (some m')))) {a:Addr} {m0:M} (e3:cE ρ2 i=some m0) (hm0:∀d,m0≠.v d)
  (R:V->V->V->Hp->Prop) (hR:∀H3 Z3 x v k,Ro X.K H3 Z3 x m->Fz X.K H3 Z3 v d->Ro X.K H3 Z3 k mk->(∀G,Ow X.K H3 Z3 x m G->∀a o',a∈G->(aG H3 Z3 (upd H3 a o') Z3->Ow X.K (upd H3 a o') Z3 x m' G)->D.nx σ (upd H3 a o'))->R x v k H3) :
  vE X.K fe σ H λv H1=>dZ i σ H1 λx H2=>vE X.K fk σ H2 λk H3=>R x v k H3:=by
 refine⟨Z,ρ,F,o1,ρ1,S,w,e1,λv H1 Z1 F1 G1 S1 O1 f1=>?_⟩
 obtain⟨Z2,F2,S2,z2,f2,_⟩:=fD S1 O1 f1 e2;obtain⟨x,G,h1,h2,_⟩:=S2.get (aH.mp e3);refine⟨x,h1,Z2,ρ2,F2,o2,ρ3,S2,f2.wf,e4,λk H3 Z3 F3 G3 S3 O3 f3=>?_⟩
 have f4:=f2.trans f3.left;obtain⟨x',G',k1,k2,k3⟩:=uu S3 f4 e6;rw[h1] at k1; cases k1;refine hR H3 Z3 x v k ⟨G',k2⟩ (z2.mono (f3.grow f2.wf)) (O3.peek S3 e5) λG2 hG a o' ha hk=>?_
 have eG:G2=G':=by
  exact Ow.uniq hG k2
 subst eG;obtain⟨g,_,k4⟩:=k3 a o' ha;have ndG:G2.Nodup:=by
  obtain⟨x2,G3',F1',t1,t2,t3,t4,t5⟩:=S3.take f4.nd (aH.mp e6);rw[h1] at t1; cases t1;rw[Ow.uniq k2 t2];exact(bD t4).2.1
 obtain⟨F5,S5,f5⟩:=k4 m' G2 (λ_ h=>h) ndG (hk g)
 exact q σ _ Z3 F5 S5 f5 P
theorem zH{i:Nat}{fk fe:FE}{pv:Pv}{D:Ends}{σ:L2.St}{H:Hp}(hq:vS X.K pv (uv i fk fe) D σ H):vt (dZ i) (vE X.K fk) (vE X.K fe) D σ H\/nB (vE X.K fe) (uX (dZ i) (vE X.K fk) pJ) D σ H:=by
 obtain⟨Z,ρ,F,o,S,w,P,e,q⟩:=hq;obtain⟨⟨o1,ρ1⟩,e1,e⟩:=oB e;obtain⟨⟨d,ρ2⟩,e2,e⟩:=oB e;obtain⟨m0,e3,e⟩:=oB e;have main:(∀d,m0≠.v d)->((fk ρ2).bind λr=>(peek r.2 r.1).bind λmk=>(cE r.2 i).bind λm=>match m,mk with
  |.cz kvs,.v kd=>(eB kd).bind λk=>if kvs.length<lim then some (Out.nx (r.2.set i (some (.cz (putD kvs k d))))) else none
  |.lst ds,.v (.int k)=>(sj ds.length k).bind λj=>some (.nx (r.2.set i (some (.lst (ds.set j d)))))
  |_,_=>none)=some o->vt (dZ i) (vE X.K fk) (vE X.K fe) D σ H\/nB (vE X.K fe) (uX (dZ i) (vE X.K fk) pJ) D σ H:=λhm0 e=>by
  obtain⟨⟨o2,ρ3⟩,e4,e⟩:=oB e;obtain⟨mk,e5,e⟩:=oB e;obtain⟨m,e6,e⟩:=oB e
  split at e
  ·rename_i kvs kd
   obtain⟨k,e7,e⟩:=oB e
   split at e
   ·rename_i hl
    injection e with e
    subst e;refine .inl (sU (a:=0) S w P e1 e2 e4 e5 e6 q e3 hm0 _ λH3 Z3 x v y hx hv hy fin=>?_)
    obtain⟨G,hG⟩:=hx;cases hG with
    |cz ha fk' =>
     obtain rfl:=eE hy.fz e7;exact⟨_,_,rfl,vo.k ha (gR (FZ (by rw[fk'.length]; exact hl))),fin _ (.cz ha fk') _ _ lS λg=>.cz aF (fU.put (hv.mono g) (fk'.mono g))⟩
   ·cases e
  ·rename_i ds k
   obtain⟨j,e7,e⟩:=oB e
   injection e with e
   subst e;refine .inr (sU (a:=0) S w P e1 e2 e4 e5 e6 q e3 hm0 _ λH3 Z3 x v y hx hv hy fin=>?_)
   obtain⟨G,hG⟩:=hx;cases hG with
   |lst ha fs=>
    obtain rfl:=hy.int;exact⟨_,_,_,j,rfl,rfl,ha,by rw[fs.length]; exact e7,fin _ (.lst ha fs) _ _ lS λg=>.lst aF ((fs.mono g).set j (hv.mono g))⟩
  ·cases e
 cases m0 with
 |v d=>cases e
 |_=>exact main (λ_ z=>nomatch z) e
theorem Cs(i:Nat){o k e:Expr}{fk fe:FE}{pos':Pos}(hu:X.A.units+64<cLine)(ho:PE X o (dZ i))(hk:VE X k fk)(he:VE X e fe)(hs:Gh e (some (.Subscript o k pos')) pos.line X.env=pure false)
  (hps:∀(te:TE)(t:TG),PE X e te->PG X (.Subscript o k pos') t->PS X (.Assign [.Subscript o k pos'] e pos) (nB te t)) (hpg:∀to ti:TE,PE X o to->PE X k ti->PG X (.Subscript o k pos') (uX to ti pJ)):VS X pin (.Assign [.Subscript o k pos'] e pos) (uv i fk fe):=λpv hp=>
 gy (Cr (yM (by lia) ho hk he hs) (hps _ _ he (hpg _ _ ho hk))) λ_ _ _ hq=>zH hq
end
section
variable{X:Cx}{pos:Pos}{pin:List Nat}
theorem zI{i:Nat}{f:FE}{pv:Pv}{D:Ends}{σ:L2.St}{H:Hp}(hp:AJ pv pin)(hp0:i∉pin)(hq:vS X.K pv (bz i f) D σ H):vE X.K f σ H λx H1=>D.nx (σ.set i (some x)) H1:=by
 obtain⟨Z,ρ,F,o,S,w,P,e,q⟩:=hq;obtain⟨⟨o1,ρ1⟩,e1,e⟩:=oB e;obtain⟨⟨m,ρ2⟩,e2,e⟩:=oB e;obtain⟨ρ3,e3,e⟩:=oB e;cases e;refine⟨Z,ρ,F,o1,ρ1,S,w,e1,λy H1 Z1 F1 G1 S1 O1 f1=>?_⟩
 obtain⟨Z2,F2,G2,h1,h2,h3⟩:=moved S1 O1 f1 e2;obtain⟨F3,k1,k2,k3⟩:=h1.eX h2 h3.nd e3;exact q _ H1 Z2 F3 k1 (h3.sub k2 k3) (P.set hp hp0)
theorem Ct{i:Nat}{x:Str}(n:Nat)(js:List Nat){elt target iter:Expr}{ifs:List Expr}{scope:Scope}{N:List Str}{fr:List (Option Nat)}{pinI:List Nat}{fi:FI}{fg:FG}{ft:FT}{fe:FE}{pos' spos:Pos}(hp0:i∉pin)(hN:X.N.Nodup)(hi':X.N[i]? = some x)(hx:X.env.scope.names.lookup x=some .local)
  (hfr:fr=E8 n none++js.map some) (hpin:pinI=(Ch js.length).map (n + ·)) (hc:X.calm=true) (S:aV X scope N fr) (hi:VI X target iter fi)
  (hin:∀z:Bk,VG (z.cx X scope N) pinI target fg/\VF (z.cx X scope N) ifs ft/\VE (z.cx X scope N) elt fe)
  (hs:∀x,Ey iter X.env x=pure x:=by intro _; rfl) (hsw:Gh (.ListComp elt [⟨target,iter,ifs,0⟩] scope pos) (some (.Name x pos')) spos.line X.env=pure true:=by rfl) :
  VS X pin (.Assign [.Name x pos'] (.ListComp elt [⟨target,iter,ifs,0⟩] scope pos) spos) (bz i (lq n js fi fg ft fe)):=λpv hp pins s σ H D I hq=>
 BN (g:=λ_=>vG X.K (gV n js σ) fg) (tt:=λ_=>vT X.K ft) (te:=λ_=>vE X.K fe) hN hi' hx hc S hi (λz=>⟨(hin z).1 _ (lu n js σ hpin),(hin z).2.1,(hin z).2.2⟩) hs hsw pins s σ H D I (oF hfr (zI hp hp0 hq))
theorem aN.fW{H0 H:Hp}{Z0 Z:Zs}{F0 A:List Addr}{D:Addr}{o o':HO}(f:aN H0 Z0 F0 H Z A)(hD:D∈A)(e:H D=some o)(hn:∀u,o≠.tup u)(hf:∀x u,o≠.iH x u):aN H0 Z0 F0 (upd H D o') Z A/\aG H Z (upd H D o') Z:=by
 have nz:¬Z D:=f.dz D hD;have keep:∀a o2,a≠D->H a=some o2->upd H D o' a=some o2:=λa o2 n h=>by rw[aL n]; exact h
 have za:∀a,Z a->upd H D o' a≠none:=λa z=>by
  have hne:a≠D:=λh=>nz (h▸z)
  rw[aL hne];exact f.za a z
 have g:aG H Z (upd H D o') Z:=⟨d7.put e hn hf,λa o2 z h=>.inl (keep a o2 (λw=>nz (w▸z)) h),λ_ z=>z⟩
 exact⟨f.trans ⟨λa o2 n h=>.inl (keep a o2 (λw=>n (w▸hD)) h),g.tups,λ_ z=>z,λa z=>.inl z,λa h=>.inl h,f.nd,f.dz,za⟩,g⟩
def Acc(K:AC)(H:Hp)(Z:Zs)(D:Addr):M->List Addr->Prop
 |.cz kvs,G=>G=[D]/\∃kxs,H D=some (.dK kxs)/\fU K H Z kxs kvs
 |.cD kvs,G=>∃Gl kxs,G=D::Gl/\H D=some (.dK kxs)/\iC K H Z kxs kvs Gl
 |_,_=>False
noncomputable def wU(k:Key):M->cW->Ev->Option (M×Ev)
 |.cD kvs,.t (.lst ds),ρ=>if (kvs.any λp=>decide (p.1=k))=false/\kvs.length<lim then some (.cD (kvs++[(k,ds)]),ρ) else none
 |.cz kvs,o,ρ=>if kvs.length<lim then (cS o ρ).bind λq=>some (.cz (putD kvs k q.1),q.2) else none
 |_,_,_=>none
noncomputable def jV(fg:FG)(ft:FT)(fk fv:FE):List Ap->Ev->M->Option (M×Ev)
 |[],ρ,acc=>some (acc,ρ)
 |d::ds,ρ,acc=>(fg d ρ).bind λρ1=>(ft ρ1).bind λt=>if t.1=true then
  (fk t.2).bind λp=>match p.1 with
   |.t (.v kd)=>(eB kd).bind λk=>(fv p.2).bind λr=>(wU k acc r.1 r.2).bind λa=>jV fg ft fk fv ds a.2 a.1
   |_=>none
  else jV fg ft fk fv ds t.2 acc
noncomputable def CZ(lists:Bool)(n:Nat)(js:List Nat)(fi:FI)(fg:FG)(ft:FT)(fk fv:FE):FE:=λρ=>(fi ρ).bind λp=>(caps p.2 js).bind λos=>(cO os p.2).bind λq=>
 (jV fg ft fk fv p.1 (E8 n none++q.1.map some) (if lists then .cD [] else .cz [])).bind λr=>(fin (E8 js.length true) q.1 (r.2.drop n)).bind λms'=>some (.t r.1,fW os ms' q.2)
theorem wV{K:AC}{H:Hp}{Z:Zs}{k:Key}{b:Addr}{xs:List V}{ds:List Ap}(h:H b=some (.lst xs))(f:bB K H Z xs ds):∀{kxs:List (Key×V)}{kvs:List (Key×List Ap)}{G:List Addr},iC K H Z kxs kvs G->iC K H Z (kxs++[(k,.ref b)]) (kvs++[(k,ds)]) (G++[b]):=by
 intro kxs kvs G r
 induction r with
 |nil=>exact .cons h f .nil
 |cons h' f' r ih=>exact .cons h' f' ih
theorem sV{K:AC}{H:Hp}{Z:Zs}(k:Key):∀{kxs:List (Key×V)}{kvs:List (Key×List Ap)}{G:List Addr},iC K H Z kxs kvs G->(kxs.any λkv=>decide (kv.1=k))=(kvs.any λkv=>decide (kv.1=k))
 |_,_,_,.nil=>rfl
 |_,_,_,.cons _ _ r=>by rw[Fl,Fl,sV k r]
theorem Acc.mem{K:AC}{H:Hp}{Z:Zs}{D:Addr}{m:M}{G:List Addr}(h:Acc K H Z D m G):D∈G/\(∃kxs,H D=some (.dK kxs))/\∀a∈G,H a≠none:=by
 cases m with
 |cz kvs=>
  obtain⟨rfl,kxs,e,_⟩:=h;exact⟨lS,⟨kxs,e⟩,λa ha z=>by rw[Do.mp ha,e] at z; cases z⟩
 |cD kvs=>
  obtain⟨Gl,kxs,rfl,e,r⟩:=h;refine⟨lS,⟨kxs,e⟩,λa ha z=>?_⟩
  rcases lK ha with ha | ha
  ·rw[ha,e] at z; cases z
  ·obtain⟨o,q,_⟩:=r.mem a ha; rw[q] at z; cases z
 |_=>exact h.elim
theorem Acc.mono{K:AC}{H H':Hp}{Z Z':Zs}{D:Addr}{m:M}{G:List Addr}(g:aG H Z H' Z')(h:Acc K H Z D m G)(k:∀a∈G,∀o,H a=some o->H' a=some o):Acc K H' Z' D m G:=by
 cases m with
 |cz kvs=>
  obtain⟨rfl,kxs,e,r⟩:=h;exact⟨rfl,kxs,k D lS _ e,r.mono g⟩
 |cD kvs=>
  obtain⟨Gl,kxs,rfl,e,r⟩:=h;exact⟨Gl,kxs,rfl,k D lS _ e,r.mono g λa ha=>k a (lO _ ha)⟩
 |_=>exact h.elim
theorem Acc.ow{K:AC}{H:Hp}{Z:Zs}{D:Addr}{m:M}{G:List Addr}(h:Acc K H Z D m G):Ow K H Z (.ref D) m G:=by
 cases m with
 |cz kvs=>obtain⟨rfl,kxs,e,r⟩:=h; exact .cz e r
 |cD kvs=>obtain⟨Gl,kxs,rfl,e,r⟩:=h; exact .cD e r
 |_=>exact h.elim
theorem Acc.add{K:AC}{H H0:Hp}{Z Z0:Zs}{D:Addr}{m m':M}{G Gy F F0:List Addr}{k:Key}{o:cW}{ρ ρ':Ev}{σ:L2.St}{y:V}(S:bh K H Z σ ρ F)(O:lH K H Z σ y o Gy)(h:Acc K H Z D m G)(f:aN H0 Z0 F0 H Z (F++Gy++G))(e:wU k m o ρ=some (m',ρ')) :
  ∃kxs,H D=some (.dK kxs)/\kxs.length<E4/\∃Z' F' G',bh K (upd H D (.dK (putK kxs k y))) Z' σ ρ' F'/\Acc K (upd H D (.dK (putK kxs k y))) Z' D m' G'/\aN H0 Z0 F0 (upd H D (.dK (putK kxs k y))) Z' (F'++G'):=by
 obtain⟨n1,n2,n3,s1,s2,s3⟩:=Dr f.nd;cases m with
 |cz kvs=>
  obtain⟨rfl,kxs,eD,r⟩:=h;have e:(if kvs.length<lim then (cS o ρ).bind λq=>some (M.cz (putD kvs k q.1),q.2) else none)=some (m',ρ'):=by
   cases o <;> exact e
  split at e
  ·rename_i hl
   obtain⟨⟨d,ρ2⟩,e2,e⟩:=oB e;cases e;obtain⟨Z2,F2,S2,y2,f2,g2⟩:=freeze S O f e2;have hDm:D∈F2++[D]:=lR _ lS;obtain⟨f3,g3⟩:=f2.fW (o':=.dK (putK kxs k y)) hDm eD (λ_ z=>nomatch z) (λ_ _ z=>nomatch z)
   refine⟨kxs,eD,gR (FZ (by rw[r.length]; exact hl)),Z2,F2,[D],S2.mono g3 λa ha o2 e3=>?_,⟨rfl,_,aF,fU.put (y2.mono g3) ((r.mono g2).mono g3)⟩,f3⟩
   have hne:a≠D:=λz=>(bD f2.nd).2.2 a ha (by rw[z]; exact lS)
   rw[aL hne]; exact e3
  ·cases e
 |cD kvs=>
  obtain⟨Gl,kxs,rfl,eD,r⟩:=h;cases o with
  |t m0=>
   cases m0 with
   |lst ds=>
    have e:(if (kvs.any λp=>decide (p.1=k))=false/\kvs.length<lim then some (M.cD (kvs++[(k,ds)]),ρ) else none)=some (m',ρ'):=e
    split at e
    ·rename_i hl
     cases e;cases O with
     |t ow=>
      cases ow with
      |lst hb fb=>
       rename_i b xs
       have hDm:D∈F++[b]++(D::Gl):=lR _ lS;obtain⟨f3,g3⟩:=f.fW (o':=.dK (putK kxs k (.ref b))) hDm eD (λ_ z=>nomatch z) (λ_ _ z=>nomatch z)
       have hbD:b≠D:=λz=>s3 b lS (by rw[z]; exact lS)
       have nG:=EG.mp n3;have hput:putK kxs k (.ref b)=kxs++[(k,.ref b)]:=by
        unfold putK;rw[sV k r,hl.1];rfl
       refine⟨kxs,eD,gR (FZ (by rw[r.length]; exact hl.2)),Z,F,D::(Gl++[b]),S.mono g3 λa ha o2 e3=>?_,⟨Gl++[b],_,rfl,aF,?_⟩,f3.sub (aS n1 (EG.mpr ⟨λz=>?_,aS nG.2 n2 λa ha z=>s3 a z (lO _ ha)⟩) λa ha z=>?_) λa ha=>?_⟩
       ·have hne:a≠D:=λz=>s2 a ha (by rw[z]; exact lS)
        rw[aL hne]; exact e3
       ·rw[hput]
        refine wV (by rw[aL hbD]; exact hb) (fb.mono (hput▸g3)) (r.mono (hput▸g3) λa ha o2 e3=>?_)
        have hne:a≠D:=λz=>nG.1 (z▸ha)
        rw[aL hne]; exact e3
       ·rcases lM z with z | z
        ·exact nG.1 z
        ·exact hbD (Do.mp z).symm
       ·rcases lK z with z | z
        ·exact s2 a ha (by rw[z]; exact lS)
        rcases lM z with z | z
        ·exact s2 a ha (lO _ z)
        ·exact s1 a ha z
       ·rcases lM ha with ha | ha
        ·exact lL _ (lL _ ha)
        rcases lK ha with ha | ha
        ·exact lR _ (by rw[ha]; exact lS)
        rcases lM ha with ha | ha
        ·exact lR _ (lO _ ha)
        ·exact lL _ (lR _ ha)
    ·cases e
   |_=>cases e
  |_=>cases e
 |_=>exact h.elim
theorem zJ{pv:Pv}{fg:FG}{ft:FT}{fk fv:FE}{J:It}{ds:List Ap}{D:Addr}{τ:L2.St}{H1:Hp}{Z1:Zs}{A:List Addr}{ρ0:Ev}{m0:M}{r:M×Ev}{Q:Hp->Prop}(hD:H1 D=none)(S:bh X.K H1 Z1 τ ρ0 A)(w:Wf H1 Z1 A)(P:Pin pv τ)(hJ:kZ X.K J H1 Z1 ds)(hm0:Acc X.K (upd H1 D (.dK [])) Z1 D m0 [D])(e:jV fg ft fk fv ds ρ0 m0=some r)
  (q:∀τ' H' Z' F' G',bh X.K H' Z' τ' r.2 F'->Pin pv τ'->Acc X.K H' Z' D r.1 G'->aN H1 Z1 A H' Z' (F'++G')->Q H'):gm (vG X.K pv fg) (vT X.K ft) (ePut D (vE X.K fk) (vE X.K fv)) J τ (upd H1 D (.dK [])) λ_=>Q:=by
 have n0:=aN.ud (o:=.dK []) hD w.za;refine qg (Q:=λ_=>Q) (λH Z m G=>Acc X.K H Z D m G) (λds ρ acc=>jV fg ft fk fv ds ρ acc=some r) (λds ρ acc=>((fk ρ).bind λp=>match p.1 with
    |.t (.v kd)=>(eB kd).bind λk=>(fv p.2).bind λr=>(wU k acc r.1 r.2).bind λa=>jV fg ft fk fv ds a.2 a.1
    |_=>none)=some r) (λa g k=>Acc.mono g a k) (λa=>a.mem.2.2) (λd ds ρ acc e=>?_) (S.news n0 w) P hm0 (n0.news w S.al) e (λH2 Z2 _ f=>hJ.go H2 Z2 (f.grow w)) (λH2 Z2 _ f=>hJ.stop H2 Z2 (f.grow w)) (λds' τ H Z ρ F G acc e S P a f N hN=>?_) λτ' H' Z' ρ' F' G' acc' S P a f e=>?_
 ·obtain⟨ρ3,e3,e⟩:=oB e
  obtain⟨⟨b,ρ4⟩,e4,e⟩:=oB e;exact⟨ρ3,b,ρ4,e3,e4,λh=>by subst h; exact e,λh=>by subst h; exact e⟩
 ·obtain⟨⟨o5,ρ5⟩,e5,e2⟩:=oB e
  split at e2
  ·rename_i kd hko
   have hko:o5=.t (.v kd):=hko;subst hko;obtain⟨k,e6,e2⟩:=oB e2;obtain⟨⟨o7,ρ7⟩,e7,e2⟩:=oB e2;obtain⟨⟨acc',ρ8⟩,e8,e2⟩:=oB e2;refine⟨Z,ρ,F,_,ρ5,S,f.left.wf,e5,λy H5 Z5 F5 G5 S5 O5 g5=>?_⟩
   have yk:y=kV k:=by
    cases O5 with
    |t ow=>cases ow with
     |v fy=>exact eE fy e6
   have f5:=f.trans (g5.left.frame f.wf a.mem.2.2);have a5:=Acc.mono (g5.grow f.left.wf) a λa h o e=>g5.keep a o (λz=>(bD f.nd).2.2 a z h) (f.dz a (lR _ h)) e
   refine⟨Z5,ρ5,F5,o7,ρ7,S5,f5.left.wf,e7,λv H7 Z7 F7 G7 S7 O7 g7=>?_⟩
   have a7:=Acc.mono (g7.grow f5.left.wf) a5 λa h o e=>g7.keep a o (λz=>(bD f5.nd).2.2 a z h) (f5.dz a (lR _ h)) e
   obtain⟨kxs,eD,hsz,Z8,F8,G8,S8,a8,f8⟩:=a7.add S7 O7 (f5.trans (g7.frame f5.wf a5.mem.2.2)) e8;exact⟨kxs,k,yk,eD,hsz,hN τ _ Z8 ρ8 F8 G8 acc' S8 P a8 f8 e2⟩
  ·cases e2
 ·cases e
  exact q τ' H' Z' F' G' S P a f
end
section
variable{X:Cx}{pos:Pos}{pin:List Nat}
theorem Cu{b:Bool}{n:Nat}{js:List Nat}{fi:FI}{fg:FG}{ft:FT}{fk fv:FE}{σ:L2.St}{H:Hp}{Q:VK}{fr:List (Option Nat)}(hfr:fr=E8 n none++js.map some)(hq:vE X.K (CZ b n js fi fg ft fk fv) σ H Q) :
  DZ fr (vI X.K fi) (λ_=>vG X.K (gV n js σ) fg) (λ_=>vT X.K ft) (λ_=>vE X.K fk) (λ_=>vE X.K fv) σ H Q:=by
 subst hfr;obtain⟨Z,ρ,F,o,ρ',S,w,e,q⟩:=hq;obtain⟨⟨ds,ρ1⟩,e1,e⟩:=oB e;obtain⟨os,e2,e⟩:=oB e;obtain⟨⟨ms,ρh⟩,e3,e⟩:=oB e;obtain⟨⟨acc,ρi⟩,e4,e⟩:=oB e;obtain⟨ms',e5,e⟩:=oB e;cases e;refine⟨Z,ρ,F,ds,ρ1,S,w,e1,λJ H1 Z1 F1 S1 hJ f1 D hD z=>?_⟩
 obtain⟨τ,A,Fh,eτ,S0,wA,P0,h2,n3,back⟩:=i8 (n:=n) S1 f1 e2 e3;rw[eτ];have hm0:Acc X.K (upd H1 D (.dK [])) Z1 D (if b=true then .cD [] else .cz []) [D]:=by
  cases b with
  |true=>exact⟨[],[],rfl,aF,.nil⟩
  |false=>exact⟨rfl,[],aF,.nil⟩
 refine zJ hD S0 wA P0 hJ hm0 e4 λτ' H2 Z2 F2 G2 S2 P2 d2 f2=>?_
 obtain⟨F4,p1,f4⟩:=back _ _ _ _ _ _ _ S2 P2 f2 e5;exact q (.ref D) H2 Z2 F4 G2 p1 (.t d2.ow) f4
theorem ve_dc(b:Bool)(n:Nat)(js:List Nat){ek ev target iter:Expr}{ifs:List Expr}{scope:Scope}{N:List Str}{fr:List (Option Nat)}{pin:List Nat}{fi:FI}{fg:FG}{ft:FT}{fk fv:FE}(hfr:fr=E8 n none++js.map some)(hpin:pin=(Ch js.length).map (n + ·))(hc:X.calm=true)(S:aV X scope N fr)(hi:VI X target iter fi)
  (hin:∀z:Bk,VG (z.cx X scope N) pin target fg/\VF (z.cx X scope N) ifs ft/\VE (z.cx X scope N) ek fk/\VE (z.cx X scope N) ev fv)
  (hs:∀x,Ey iter X.env x=pure x:=by intro _; rfl):VE X (.DictComp ek ev [⟨target,iter,ifs,0⟩] scope pos) (CZ b n js fi fg ft fk fv):=λpins s σ H Q I hq=>
 pe_dc (g:=λ_=>vG X.K (gV n js σ) fg) (tt:=λ_=>vT X.K ft) (tk:=λ_=>vE X.K fk) (tv:=λ_=>vE X.K fv) hc S hi (λz=>⟨(hin z).1 _ (lu n js σ hpin),(hin z).2.1,(hin z).2.2.1,(hin z).2.2.2⟩) hs pins s σ H Q I (Cu hfr hq)
end
structure WE(X:Cx)(e:Expr)(f:FE):Prop where
 h:VE X e f
structure WA(X:Cx)(e:List Expr)(f:FA):Prop where
 h:VA X e f
structure WT(X:Cx)(e:Expr)(f:FT):Prop where
 h:VT X e f
structure WW(X:Cx)(e:Expr)(f:FT):Prop where
 h:VW X e f
structure WO(X:Cx)(e:Option Expr)(f:FO):Prop where
 h:PO X e (vO X.K f)
structure WI(X:Cx)(tg e:Expr)(f:FI):Prop where
 h:VI X tg e f
structure WG(X:Cx)(pin:List Nat)(tg:Expr)(f:FG):Prop where
 h:VG X pin tg f
structure DH(X:Cx)(pin:List Nat)(tg:List Expr)(f:uq):Prop where
 h:Ds X pin tg f
structure WF(X:Cx)(e:List Expr)(f:FT):Prop where
 h:VF X e f
structure WP(X:Cx)(e:Expr)(f:Ev->Option Ap):Prop where
 h:VP X e f
structure WS(X:Cx)(pin:List Nat)(st:Stmt)(f:FS):Prop where
 h:VS X pin st f
structure AL(X:Cx)(pin:List Nat)(st:List Stmt)(f:FS):Prop where
 h:zc X pin st f
section
variable{X:Cx}{pos:Pos}{pin:List Nat}
theorem wv(i:Nat){x:Str}{pos:Pos}(hN:X.N[i]? = some x:=by rfl)(hv:A9 X.env.scope x:=by first | exact EO rfl | exact G6 (EO rfl) | exact G6 (G6 rfl))(hd:(x == ("__debug__" : Str))=false:=by decide)
  (hcd:(x == ("__classdict__" : Str))=false:=by decide):WE X (.Name x pos) (aa i):=⟨vv i hN hv hd hcd⟩
theorem DI(i:Nat){x:Str}{pos:Pos}(hN:X.N[i]? = some x:=by rfl)(hv:A9 X.env.scope x:=by first | exact EO rfl | exact G6 (EO rfl) | exact G6 (G6 rfl))(hd:(x == ("__debug__" : Str))=false:=by decide)
  (hcd:(x == ("__classdict__" : Str))=false:=by decide):WP X (.Name x pos) (fE i):=⟨Cq i (qH hN hv hd hcd)⟩
theorem ak{i j pos}:WE X (.Constant (.int i) j pos) (vC (.int i)):=⟨BU⟩
theorem sW{i j pos}:WE X (.Constant (.bool i) j pos) (vC (.bool i)):=⟨ve_bl⟩
theorem gW{j pos}:WE X (.Constant .none j pos) (vC .none):=⟨BV⟩
theorem aK{op:Operator}{a b:Expr}{g:M->M->Option M}{fa fb:FE}(ho:dY X (Fq op) (rM X.K g))(ha:WE X a fa)(hb:WE X b fb):WE X (.BinOp a op b pos) (vB g fa fb):=⟨ve_op rM_v ho ha.h hb.h⟩
theorem oH{op:CmpOp}{a b:Expr}{g:M->M->Option M}{fa fb:FE}(ho:dY X (EW op) (rM X.K g))(ha:WE X a fa)(hb:WE X b fb)(hm:FM op b=false):WE X (.Compare a [op] [b] pos) (vB g fa fb):=⟨BW rM_v ho ha.h hb.h hm⟩
theorem bM{op:CmpOp}{a b:Expr}{g:M->M->Option M}{fa fb:FE}(ho:dY X (EW op) (rM X.K g))(ha:WE X a fa)(hb:WE X b fb)(hm:FM op b=false):WT X (.Compare a [op] [b] pos) (aW (vB g fa fb)):=⟨BZ rM_v ho ha.h hb.h hm⟩
theorem wW{a b:Expr}{fa fb:FE}(hu:X.A.units+64<cLine)(ha:WE X a fa)(hb:WE X b fb)(hm:FM .In b=false:=by rfl):WE X (.Compare a [.In] [b] pos) (vB (fM false) fa fb):=⟨ve_in hu ha.h hb.h hm⟩
theorem AM{a b:Expr}{fa fb:FE}(hu:X.A.units+64<cLine)(ha:WE X a fa)(hb:WE X b fb)(hm:FM .In b=false:=by rfl):WT X (.Compare a [.In] [b] pos) (aW (vB (fM false) fa fb)):=⟨vt_in hu ha.h hb.h hm⟩
theorem gX{a b:Expr}{fa fb:FE}(hu:X.A.units+64<cLine)(ha:WE X a fa)(hb:WE X b fb)(hm:FM .NotIn b=false:=by rfl):WT X (.Compare a [.NotIn] [b] pos) (aW (vB (fM true) fa fb)):=⟨wm hu ha.h hb.h hm⟩
theorem rA{e:Expr}{f:FE}(h:WE X e f)(he:∀whole,KG e X.env whole=(do let v <-whole; IY e.pos; Hu [v] (truthy v)):=by intro _; rfl):WT X e (lZ f):=⟨B8 h.h he⟩
theorem iP{e:Expr}{f:FT}(h:WW X e f):WT X e f:=⟨PW.pt h.h⟩
theorem gC{a:Expr}{f:FT}(h:WT X a f):WW X (.BoolOp .And [a] pos) f:=⟨yX h.h⟩
theorem rB{a:Expr}{f:FT}(h:WT X a f):WW X (.BoolOp .Or [a] pos) f:=⟨B0 h.h⟩
theorem i9{a b:Expr}{rest:List Expr}{f g:FT}(h:WT X a f)(h':WW X (.BoolOp .And (b::rest) pos) g):WW X (.BoolOp .And (a::b::rest) pos) (gI f g):=⟨B3 h.h h'.h⟩
theorem wX{a b:Expr}{rest:List Expr}{f g:FT}(h:WT X a f)(h':WW X (.BoolOp .Or (b::rest) pos) g):WW X (.BoolOp .Or (a::b::rest) pos) (AD f g):=⟨vw_or h.h h'.h⟩
theorem AN{c a b:Expr}{fc:FT}{fa fb:FE}(hc:WT X c fc)(ha:WE X a fa)(hb:WE X b fb):WE X (.IfExp c a b pos) (AE fc fa fb):=⟨ve_if hc.h ha.h hb.h⟩
theorem gY:WA X [] fC:=⟨BX⟩
theorem ai{a:Expr}{fa:FE}(ha:WE X a fa)(hs:E6 [a] X.env=[(false,eval a X.env)]:=by rfl):WA X [a] (af fa):=⟨BY ha.h hs⟩
theorem aj{a:Expr}{as:List Expr}{fa:FE}{fr:FA}(ha:WE X a fa)(hr:WA X as fr)(hs:E6 (a::as) X.env=(false,eval a X.env)::E6 as X.env:=by rfl):WA X (a::as) (ah fa fr):=⟨yW ha.h hr.h hs⟩
theorem bq{es:List Expr}{k:Nat}{fa:FA}(h:WA X es fa):WE X (.Tuple es k pos) (bG fa):=⟨B4 h.h⟩
theorem cJ{es:List Expr}{fa:FA}(h:WA X es fa):WE X (.List es pos) (di fa):=⟨B5 h.h⟩
theorem aT{a b:Expr}{fa fb:FE}(hu:X.A.units+64<cLine)(ha:WE X a fa)(hb:WE X b fb)(hs:nI b):WE X (.Subscript a b pos) (cZ fa fb):=⟨ve_ix hu ha.h hb.h hs⟩
theorem zK:WO X none oi:=⟨yZ⟩
theorem zL{e:Expr}{f:FE}(h:WE X e f):WO X (some e) (om f):=⟨zb h.h⟩
theorem we_sl{e:Expr}{lo hi:Option Expr}{p2:Pos}{fa:FE}{fl fh:FO}(ha:WE X e fa)(hl:WO X lo fl)(hh:WO X hi fh):WE X (.Subscript e (.Slice lo hi none p2) pos) (DG fa fl fh):=⟨ve_sl ha.h hl.h hh.h⟩
theorem aU{id:String}{x:Str}{p:Pos}{e:Expr}{es:List Expr}{g:List M->Option M}{fa:FA}(hc:aZ X (.builtin id) (lY X.K g))(hg:Gl X x)(hm:X.mg x=none)(hv:Gk x=some (.builtin id))(ha:WA X (e::es) fa)(hn:x ≠ "__name__" := by decide)(hdb:(x == ("__debug__" : Str))=false:=by decide)
  (he:E6 (e::es) X.env=(false,eval e X.env)::E6 es X.env:=by rfl) (hpl:(HX pos (E6 es X.env)).any (·.1)=false:=by rfl):WE X (.Call (.Name x p) (e::es) [] pos) (bF g fa):=⟨ve_cb hc hg hm hv ha.h hn hdb he hpl⟩
theorem fX{T:String}{x:Str}{p:Pos}{e:Expr}{es:List Expr}{g:List M->Option M}{fa:FA}(hc:aZ X (.type T) (lY X.K g))(hg:Gl X x)(hm:X.mg x=none)(hv:Gk x=some (.type T))(ha:WA X (e::es) fa)(hn:x ≠ "__name__" := by decide)(hdb:(x == ("__debug__" : Str))=false:=by decide)
  (he:E6 (e::es) X.env=(false,eval e X.env)::E6 es X.env:=by rfl) (hpl:(HX pos (E6 es X.env)).any (·.1)=false:=by rfl):WE X (.Call (.Name x p) (e::es) [] pos) (bF g fa):=⟨ve_ct hc hg hm hv ha.h hn hdb he hpl⟩
theorem aX{x:Str}{ps:List Str}{k k':Nat}{g:FF}{e:Expr}{es:List Expr}{fa:FA}{p:Pos}(C:bC X.prog X.w X.K X.mg X.base x ps k (dM X.K g))(hr:ff k' X.A)(hg:Gl X x)(ha:WA X (e::es) fa)(hk:k<=k':=by first | decide | exact Db _ | lia)(hdb:(x == ("__debug__" : Str))=false:=by decide)
  (he:E6 (e::es) X.env=(false,eval e X.env)::E6 es X.env:=by rfl) (hpl:(HX pos (E6 es X.env)).any (·.1)=false:=by rfl):WE X (.Call (.Name x p) (e::es) [] pos) (cC g fa):=⟨ve_fn C hr hg ha.h hk hdb he hpl⟩
theorem wY(i:Nat){e:Expr}{es:List Expr}{fa:FA}{x:Str}{p1 p2:Pos}(ha:WA X (e::es) fa)(hpe:∀(to:TE)(t:TA),PE X (.Name x p1) to->PA X (e::es) t->PE X (.Call (.Attribute (.Name x p1) "append" p2) (e::es) [] pos) (uL X.K "list" iA to t))(hv:PE X (.Name x p1) (dZ i)):WE X (.Call (.Attribute (.Name x p1) "append" p2) (e::es) [] pos) (qh i fa):=⟨Cp i ha.h hpe hv⟩
theorem sX(i:Nat){o k d:Expr}{p1 p2 p3:Pos}{fk fd:Ev->Option Ap}(hk:WP X k fk)(hd:WP X d fd)(hu:X.A.units+64<cLine)(ho:PE X o (dZ i))(hs:NoSl k)
  (hpe:∀(to:TE)(t:TA),PE X (.Subscript o k p1) to->PA X [d] t->PE X (.Call (.Attribute (.Subscript o k p1) "append" p2) [d] [] p3) (uL X.K "list" iA to t)) (hse:E6 [d] X.env=[(false,eval d X.env)]:=by rfl):WE X (.Call (.Attribute (.Subscript o k p1) "append" p2) [d] [] p3) (ly i fk fd) :=
 ⟨bR (hpe _ _ (su (by lia) ho hk.h hs) (jd hd.h nF hse)) λ_ _ _ hq=>wR hq⟩
theorem jW(n:Nat)(js:List Nat){elt target iter:Expr}{ifs:List Expr}{scope:Scope}{N:List Str}{fr:List (Option Nat)}{pin:List Nat}{fi:FI}{fg:FG}{ft:FT}{fe:FE}(hfr:fr=E8 n none++js.map some)(hpin:pin=(Ch js.length).map (n + ·))(hc:X.calm=true)(S:aV X scope N fr)(hi:WI X target iter fi)
  (hin:∀z:Bk,WG (z.cx X scope N) pin target fg/\WF (z.cx X scope N) ifs ft/\WE (z.cx X scope N) elt fe)
  (hs:∀x,Ey iter X.env x=pure x:=by intro _; rfl):WE X (.ListComp elt [⟨target,iter,ifs,0⟩] scope pos) (lq n js fi fg ft fe):=⟨ve_lc n js hfr hpin hc S hi.h (λz=>⟨(hin z).1.h,(hin z).2.1.h,(hin z).2.2.h⟩) hs⟩
theorem AO(b:Bool)(n:Nat)(js:List Nat){ek ev target iter:Expr}{ifs:List Expr}{scope:Scope}{N:List Str}{fr:List (Option Nat)}{pin:List Nat}{fi:FI}{fg:FG}{ft:FT}{fk fv:FE}(hfr:fr=E8 n none++js.map some)(hpin:pin=(Ch js.length).map (n + ·))(hc:X.calm=true)(S:aV X scope N fr)(hi:WI X target iter fi)
  (hin:∀z:Bk,WG (z.cx X scope N) pin target fg/\WF (z.cx X scope N) ifs ft/\WE (z.cx X scope N) ek fk/\WE (z.cx X scope N) ev fv)
  (hs:∀x,Ey iter X.env x=pure x:=by intro _; rfl):WE X (.DictComp ek ev [⟨target,iter,ifs,0⟩] scope pos) (CZ b n js fi fg ft fk fv):=⟨ve_dc b n js hfr hpin hc S hi.h (λz=>⟨(hin z).1.h,(hin z).2.1.h,(hin z).2.2.1.h,(hin z).2.2.2.h⟩) hs⟩
theorem eY:WF X [] dI:=⟨Cm⟩
theorem oJ{c:Expr}{f:FT}(h:WT X c f):WF X [c] f:=⟨Cn h.h⟩
theorem dF{tg l:Expr}{f:FE}(h:WE X l f):WI X tg l (dc f):=⟨Ci h.h⟩
theorem iE{tg a:Expr}{fa:FA}{p:Pos}(hg:Gl X "range")(hm:X.mg "range" = none)(ha:WA X [a] fa)(hs:E6 [a] X.env=[(false,eval a X.env)]:=by rfl):WI X tg (.Call (.Name "range" p) [a] [] pos) (dS i7 fa):=⟨zo hg hm ha.h hs⟩
theorem zM{tg a b:Expr}{fa:FA}{p:Pos}(hg:Gl X "range")(hm:X.mg "range" = none)(ha:WA X [a,b] fa)(hs:E6 [a,b] X.env=[(false,eval a X.env),(false,eval b X.env)]:=by rfl)(hs2:E6 [b] X.env=[(false,eval b X.env)]:=by rfl):WI X tg (.Call (.Name "range" p) [a,b] [] pos) (dS wK fa):=⟨zp hg hm ha.h hs hs2⟩
theorem aC{i:Nat}{x:Str}(hp0:i∉pin)(hN:X.N.Nodup)(hi:X.N[i]? = some x)(hx:Loc X.env.scope x)(hf:X.fn x=true\/X.env.scope.names.lookup x=some .local:=by first | exact .inl rfl | exact .inr rfl | assumption):WG X pin (.Name x pos) (ao i):=⟨zj hp0 hN hi hx hf⟩
theorem dG:DH X pin [] b9:=⟨zk⟩
theorem aR{e:Expr}{es:List Expr}{f:FG}{g:uq}(h1:WG X pin e f)(h2:DH X pin es g)(hs:(Fa (e::es) X.env).map (·.2)=HD e X.env::(Fa es X.env).map (·.2):=by rfl):DH X pin (e::es) (aB f g):=⟨wJ h1.h h2.h hs⟩
theorem eZ{es:List Expr}{k:Nat}(n:Nat){g:uq}(hc:X.calm=true)(h:DH X pin es g)(hn:(Fa es X.env).length=n:=by rfl)(hst:(Fa es X.env).findIdx? (·.1)=none:=by rfl):WG X pin (.Tuple es k pos) (b3 n g):=⟨Cc hc h.h λ_ h=>Bg hc h hn hst⟩
theorem bU:AL X pin [] bI:=⟨zd⟩
theorem aA{st:Stmt}{f:FS}(h:WS X pin st f):AL X pin [st] f:=⟨zf h.h⟩
theorem aq{st:Stmt}{rest:List Stmt}{f g:FS}(h1:WS X pin st f)(h2:AL X pin rest g):AL X pin (st::rest) (aI f g):=⟨wH h1.h h2.h⟩
theorem dU{c:Expr}{a b:List Stmt}{fc:FT}{f g:FS}(hc:WT X c fc)(ha:AL X pin a f)(hb:AL X pin b g):WS X pin (.If c a b pos) (cI fc f g):=⟨vs_if hc.h ha.h hb.h⟩
theorem fG{e:Expr}{f:FE}(h:WE X e f)(hs:Gh e none pos.line X.env=pure false:=by rfl):WS X pin (.Expr e pos) (c9 f):=⟨zh h.h hs⟩
theorem bg{e:Expr}{f:FE}(h:WE X e f):WS X pin (.Return (some e) pos) (b8 f):=⟨Ca h.h⟩
theorem br{i:Nat}{x:Str}{e:Expr}{f:FE}{pos':Pos}(hp0:i∉pin)(hN:X.N.Nodup)(hi:X.N[i]? = some x)(hx:Loc X.env.scope x)(he:WE X e f)(hs:Gh e (some (.Name x pos')) pos.line X.env=pure false:=by rfl)(hf:X.fn x=true\/X.env.scope.names.lookup x=some .local:=by first | exact .inl rfl | exact .inr rfl | assumption) :
  WS X pin (.Assign [.Name x pos'] e pos) (bz i f):=⟨Cb hp0 hN hi hx he.h hs hf⟩
theorem Cv{i:Nat}{x:Str}(n:Nat)(js:List Nat){elt target iter:Expr}{ifs:List Expr}{scope:Scope}{N:List Str}{fr:List (Option Nat)}{pinI:List Nat}{fi:FI}{fg:FG}{ft:FT}{fe:FE}{pos' spos:Pos}(hp0:i∉pin)(hN:X.N.Nodup)(hi':X.N[i]? = some x)(hx:X.env.scope.names.lookup x=some .local)
  (hfr:fr=E8 n none++js.map some) (hpin:pinI=(Ch js.length).map (n + ·)) (hc:X.calm=true) (S:aV X scope N fr) (hi:WI X target iter fi)
  (hin:∀z:Bk,WG (z.cx X scope N) pinI target fg/\WF (z.cx X scope N) ifs ft/\WE (z.cx X scope N) elt fe)
  (hs:∀x,Ey iter X.env x=pure x:=by intro _; rfl) (hsw:Gh (.ListComp elt [⟨target,iter,ifs,0⟩] scope pos) (some (.Name x pos')) spos.line X.env=pure true:=by rfl) :
  WS X pin (.Assign [.Name x pos'] (.ListComp elt [⟨target,iter,ifs,0⟩] scope pos) spos) (bz i (lq n js fi fg ft fe)):=⟨Ct n js hp0 hN hi' hx hfr hpin hc S hi.h (λz=>⟨(hin z).1.h,(hin z).2.1.h,(hin z).2.2.h⟩) hs hsw⟩
theorem lz{tg e:Expr}{f:FE}{g:FG}(he:WE X e f)(hg:WG X pin tg g)(hs:HY [tg] e pos.line X.env=pure false:=by rfl)(hw:HZ [tg] e X.env=pure none:=by rfl)
  (hps:∀(te:TE)(t:TG),PE X e te->PG X tg t->PS X (.Assign [tg] e pos) (nB te t):=by exact λ_ _ h1 h2=>nC h1 h2):WS X pin (.Assign [tg] e pos) (oA f g):=⟨Cd he.h hg.h hs hw hps⟩
theorem wZ{i j:Nat}{a b:Expr}{fa:FA}{x y:Str}{px py pt:Pos}{kt k2 pt2}(hpi:i∉pin)(hpj:j∉pin)(ha:WA X [a,b] fa)(hps:∀t:TA,PA X [a,b] t->PS X (.Assign [.Tuple [.Name x px,.Name y py] kt pt] (.Tuple [a,b] k2 pt2) pos) (tPar i j t)):WS X pin (.Assign [.Tuple [.Name x px,.Name y py] kt pt] (.Tuple [a,b] k2 pt2) pos) (ur i j fa):=⟨Ce hpi hpj ha.h hps⟩
theorem w9(i:Nat){o k e:Expr}{fk fe:FE}{pos':Pos}(hu:X.A.units+64<cLine)(ho:PE X o (dZ i))(hk:WE X k fk)(he:WE X e fe)(hs:Gh e (some (.Subscript o k pos')) pos.line X.env=pure false)
  (hps:∀(te:TE)(t:TG),PE X e te->PG X (.Subscript o k pos') t->PS X (.Assign [.Subscript o k pos'] e pos) (nB te t)) (hpg:∀to ti:TE,PE X o to->PE X k ti->PG X (.Subscript o k pos') (uX to ti pJ)):WS X pin (.Assign [.Subscript o k pos'] e pos) (uv i fk fe):=⟨Cs i hu ho hk.h he.h hs hps hpg⟩
theorem gZ{tg iter:Expr}{body:List Stmt}{fi:FI}{fg:FG}{fb:FS}(hp0:PassesOwn (model X.prog X.w) X.A X.env X.xe)(hc:X.calm=true)(hi:WI X tg iter fi)(hg:WG X pin tg fg)(hb:AL X pin body fb)
  (hs:∀x,Ey iter X.env x=pure x:=by intro _; rfl):WS X pin (.For tg iter body [] pos) (jH fi fg fb):=⟨Cj hp0 hc hi.h hg.h hb.h hs⟩
end
section
variable{P:EK}{w:World}{K:AC}{mg:Str->Option Value}{base:Heap}
theorem bO{x qual:Str}{st:Stmt}{f:Addr}{fd:G4}{N prs:List Str}{k:Nat}(ps:List Bool){fb:FS}(Fn:jB K x qual st f fd)(S:bf N prs (av st))(hl:prs.length=ps.length)
  (hb:∀(cdv:Value)(A:FK)(outer:List Env)(s:Bi)(H:Hp)(E:XK),ff k (A.deeper (Ib qual (av st) s.heap.objs.size f cdv))->AL (pG iI P w K mg base N qual (av st) f cdv A outer s H E).CT (pins ps 0) (dw st) fb) :
  cB P w K mg base iI (k+1) f fd prs (dM K (eF ps N.length fb)):=Ck ps Fn S hl λcdv A outer s H E hr=>(hb cdv A outer s H E hr).h
noncomputable def rC(K:AC):Sp:=λvs H Q _=>∃ (a:Addr) (ns:List Int),vs=[.ref a]/\fL K H a (ns.map V.int)/\ns.length<=63/\∀H',Q (.bl true) H'
theorem Cw{k:Nat}{f:Addr}{fd:G4}{x:Str}{g:FF}(F:cB P w K mg base iI k f fd [x] (dM K g))(h:∀ns:List Int,ns.length<=63->∃ms,g [.v (.list (ns.map .int))]=some (.v (.bool true),ms)):cB P w K mg base iI k f fd [x] (rC K):=by
 refine F.imp λvs H Q E hs=>?_
 obtain⟨a,ns,rfl,hq,hl,q⟩:=hs;obtain⟨ms,e⟩:=h ns hl;rcases hq with hq | hq
 ·have hz:∀b,(λb=>b=a) b->H b≠none:=λb hb e=>by
   have hb:b=a:=hb;subst hb;rcases hq with hq | ⟨o,hq⟩ <;> rw[hq] at e <;> cases e
  refine⟨λb=>b=a,_,[],_,ms,.cons (G:=[]) (.v (.lst hq rfl (bB.ints ns))) .nil,⟨EX,λ_ h=>(nomatch h),hz⟩,e,λx H' Z' A' G _ h _=>?_⟩
  cases h with
  |v f=>obtain rfl:=f.qX; exact q H'
 ·refine⟨λ_=>False,_,[],_,ms,.cons (G:=[]) (.v (.lsK hq (bB.ints ns))) .nil,⟨EX,λ_ h=>(nomatch h),λ_ h=>h.elim⟩,e,λx H' Z' A' G _ h _=>?_⟩
  cases h with
  |v f=>obtain rfl:=f.qX; exact q H'
end
theorem sY{P:EK}{w:World}{K:AC}{mg:Str->Option Value}{base:Heap}{CX:vc}{k:Nat}{f:Addr}{fd:G4}{ps:List Str}:cB P w K mg base CX k f fd ps (dM K λ_=>none) :=
 ⟨λvs H Q E h=>(by obtain⟨_,_,_,_,_,_,_,e,_⟩:=h; cases e),λA outer s H args us vs Q E _ _ _ _ h=>(by obtain⟨_,_,_,_,_,_,_,e,_⟩:=h; cases e)⟩
end VL
end
section
namespace VL
open PySem L2
section
variable{ρ:Ev}{m:M}{x:Option M}{i j:Nat}
@[simp] theorem at?_0:cE (some m::ρ) 0=some m:=rfl
@[simp] theorem at?_n:cE (none::ρ) 0=none:=rfl
@[simp] theorem at?_s:cE (x::ρ) (i+1)=cE ρ i:=rfl
@[simp] theorem peek_t:peek ρ (.t m)=some m:=rfl
@[simp] theorem peek_p:peek ρ (.p i)=cE ρ i:=rfl
@[simp] theorem peekS_t:jl ρ (.t m)=some m:=rfl
@[simp] theorem peekS_p:jl ρ (.p i)=cE ρ i:=rfl
@[simp] theorem C0:iN ρ []=some []:=rfl
@[simp] theorem Cy{o:cW}{os:List cW}:iN ρ (o::os)=(peek ρ o).bind λm=>(iN ρ os).bind λms=>some (m::ms):=rfl
@[simp] theorem zN:aa i ρ=match cE ρ i with
 |some (.v d)=>some (.t (.v d),ρ)
 |some _=>some (.p i,ρ)
 |none=>none:=rfl
@[simp] theorem vC_eq{d:Ap}:vC d ρ=some (.t (.v d),ρ):=rfl
@[simp] theorem vB_eq{g:M->M->Option M}{fa fb:FE}:vB g fa fb ρ=(fa ρ).bind λp=>(fb p.2).bind λq=>(jl q.2 p.1).bind λm1=>(peek q.2 q.1).bind λm2=>(g m1 m2).bind λm=>some (.t m,q.2):=rfl
@[simp] theorem vU_eq{g:M->Option M}{fa:FE}:vU g fa ρ=(fa ρ).bind λp=>(peek p.2 p.1).bind λm1=>(g m1).bind λm=>some (.t m,p.2):=rfl
@[simp] theorem vaNil_eq:fC ρ=some ([],ρ):=rfl
@[simp] theorem vaOne_eq{fa:FE}:af fa ρ=(fa ρ).bind λp=>some ([p.1],p.2):=rfl
@[simp] theorem stab_t:qY (.t m)=true:=rfl
@[simp] theorem stab_p:qY (.p i)=true:=rfl
@[simp] theorem C1{fa:FE}{fr:FA}:ah fa fr ρ=(fa ρ).bind λp=>(fr p.2).bind λq=>if qY p.1=true then some (p.1::q.1,q.2) else none:=rfl
@[simp] theorem vCB_eq{g:List M->Option M}{fa:FA}:bF g fa ρ=(fa ρ).bind λp=>(iN p.2 p.1).bind λms=>(g ms).bind λm=>some (.t m,p.2):=rfl
@[simp] theorem tr_bool{b:Bool}:DN (.v (.bool b))=some b:=rfl
@[simp] theorem vTst_eq{f:FE}:aW f ρ=(f ρ).bind λp=>(peek p.2 p.1).bind λm=>(DN m).bind λb=>some (b,p.2):=rfl
@[simp] theorem vTru_eq{f:FE}:lZ f ρ=(f ρ).bind λp=>(peek p.2 p.1).bind λm=>(qc m).bind λb=>some (b,p.2):=rfl
@[simp] theorem tru_bool{b:Bool}:qc (.v (.bool b))=some b:=rfl
@[simp] theorem tru_tup{ds:List Ap}:qc (.v (.tuple ds))=some (!ds.isEmpty):=rfl
@[simp] theorem tru_list{ds:List Ap}:qc (.v (.list ds))=some (!ds.isEmpty):=rfl
@[simp] theorem tru_lst{ds:List Ap}:qc (.lst ds)=some (!ds.isEmpty):=rfl
@[simp] theorem tru_dic{ds:List (Key×Ap)}:qc (.cz ds)=some (!ds.isEmpty):=rfl
@[simp] theorem vAnd_eq{f g:FT}:gI f g ρ=(f ρ).bind λp=>if p.1=true then g p.2 else some (false,p.2):=rfl
@[simp] theorem vOr_eq{f g:FT}:AD f g ρ=(f ρ).bind λp=>if p.1=true then some (true,p.2) else g p.2:=rfl
@[simp] theorem vYes_eq:dI ρ=some (true,ρ):=rfl
@[simp] theorem vIf_eq{c:FT}{fa fb:FE}:AE c fa fb ρ=(c ρ).bind λp=>if p.1=true then fa p.2 else fb p.2:=rfl
@[simp] theorem toD_v{d:Ap}:yf (.v d)=some d:=rfl
@[simp] theorem toD_lst{d:List Ap}:yf (.lst d)=some (.list d):=rfl
@[simp] theorem frz1_t:cS (.t m) ρ=(yf m).bind λd=>some (d,ρ):=rfl
@[simp] theorem frz1_p:cS (.p i) ρ=(cE ρ i).bind λm=>(yf m).bind λd=>some (d,ρ.set i (some (.v d))):=rfl
@[simp] theorem frzs_nil:ef [] ρ=some ([],ρ):=rfl
@[simp] theorem C2{o:cW}{os:List cW}:ef (o::os) ρ=(cS o ρ).bind λp=>(ef os p.2).bind λq=>some (p.1::q.1,q.2):=rfl
@[simp] theorem vTup_eq{fa:FA}:bG fa ρ=(fa ρ).bind λp=>(ef p.1 p.2).bind λq=>if q.1.length<=lim then some (.t (.v (.tuple q.1)),q.2) else none:=rfl
@[simp] theorem vLst_eq{fa:FA}:di fa ρ=(fa ρ).bind λp=>(ef p.1 p.2).bind λq=>if q.1.length<=lim then some (.t (.lst q.1),q.2) else none:=rfl
@[simp] theorem ixO_t{m1 m2:M}:DE (.t m1) m2 ρ=(getM m1 m2).bind λm=>some (.t m,ρ):=rfl
@[simp] theorem vIx_eq{fa fb:FE}:cZ fa fb ρ=(fa ρ).bind λp=>(fb p.2).bind λq=>(peek q.2 q.1).bind λm2=>DE p.1 m2 q.2:=rfl
@[simp] theorem ixO_p{m2:M}:DE (.p i) m2 ρ=(cE ρ i).bind λm1=>match m1,m2 with
  |.cD kvs,.v k=>(eB k).bind λk=>(cN kvs k).bind λ_=>some (.q i k,ρ)
  |m1,m2=>(getM m1 m2).bind λm=>some (.t m,ρ):=rfl
@[simp] theorem getM_tup{ds:List Ap}{k:Int}:getM (.v (.tuple ds)) (.v (.int k))=(jf ds k).bind λd=>some (.v d):=rfl
@[simp] theorem C3{ds:List Ap}{k:Int}:getM (.v (.list ds)) (.v (.int k))=(jf ds k).bind λd=>some (.v d):=rfl
@[simp] theorem getM_lst{ds:List Ap}{k:Int}:getM (.lst ds) (.v (.int k))=(jf ds k).bind λd=>some (.v d):=rfl
@[simp] theorem getM_dic{kvs:List (Key×Ap)}{k:Ap}:getM (.cz kvs) (.v k)=(eB k).bind λk=>(cN kvs k).bind λd=>some (.v d):=rfl
@[simp] theorem keyD_int{k:Int}:eB (.int k)=some (.inl k):=rfl
@[simp] theorem keyD_str{k:Str}:eB (.str k)=some (.inr k):=rfl
@[simp] theorem C4:oi ρ=some (none,ρ):=rfl
@[simp] theorem C5{f:FE}:om f ρ=(f ρ).bind λp=>(peek p.2 p.1).bind λm=>match m with
 |.v (.int i)=>some (some i,p.2)
 |_=>none:=rfl
@[simp] theorem vSl_eq{fa:FE}{fl fh:FO}:DG fa fl fh ρ=(fa ρ).bind λp=>(fl p.2).bind λl=>(fh l.2).bind λh=>(jl h.2 p.1).bind λm=>(CY l.1 h.1 m).bind λm'=>some (.t m',h.2):=rfl
@[simp] theorem slM_tup{lo hi:Option Int}{ds:List Ap}:CY lo hi (.v (.tuple ds))=some (.v (.tuple (cutD ds lo hi))):=rfl
@[simp] theorem slM_lst{lo hi:Option Int}{ds:List Ap}:CY lo hi (.lst ds)=some (.lst (cutD ds lo hi)):=rfl
@[simp] theorem slM_list{lo hi:Option Int}{ds:List Ap}:CY lo hi (.v (.list ds))=some (.lst (cutD ds lo hi)):=rfl
@[simp] theorem C6:cO [] ρ=some ([],ρ):=rfl
@[simp] theorem takeA_t{os:List cW}:cO (.t m::os) ρ=(cO os ρ).bind λq=>some (m::q.1,q.2):=rfl
@[simp] theorem takeA_p{os:List cW}:cO (.p i::os) ρ=(cE ρ i).bind λm=>(cO os (ρ.set i none)).bind λq=>some (m::q.1,q.2):=rfl
@[simp] theorem putA_nil{ms:List M}:fW [] ms ρ=ρ:=by cases ms <;> rfl
@[simp] theorem putA_t{os:List cW}{m':M}{ms:List M}:fW (.t m::os) (m'::ms) ρ=fW os ms ρ:=rfl
@[simp] theorem putA_p{os:List cW}{m':M}{ms:List M}:fW (.p i::os) (m'::ms) ρ=fW os ms (ρ.set i (some m')):=rfl
@[simp] theorem vFn_eq{g:FF}{fa:FA}:cC g fa ρ=(fa ρ).bind λp=>(cO p.1 p.2).bind λq=>(g q.1).bind λr=>some (.t r.1,fW p.1 r.2 q.2):=rfl
@[simp] theorem vNext_eq:bI ρ=some (.nx ρ):=rfl
@[simp] theorem sZ{f g:FS}:aI f g ρ=(f ρ).bind λo=>match o with
 |.nx ρ1=>g ρ1
 |o=>some o:=rfl
@[simp] theorem vIfS_eq{c:FT}{f g:FS}:cI c f g ρ=(c ρ).bind λp=>if p.1=true then f p.2 else g p.2:=rfl
@[simp] theorem qj{f:FE}:c9 f ρ=(f ρ).bind λp=>some (.nx p.2):=rfl
@[simp] theorem movO_t:oz (.t m) ρ=some (m,ρ):=rfl
@[simp] theorem movO_p:oz (.p i) ρ=(cE ρ i).bind λm=>some (m,ρ.set i none):=rfl
@[simp] theorem vRet_eq{f:FE}:b8 f ρ=(f ρ).bind λp=>(oz p.1 p.2).bind λq=>some (.rt q.1 q.2):=rfl
@[simp] theorem setN_eq:eX i m ρ=if i<ρ.length then some (ρ.set i (some m)) else none:=rfl
@[simp] theorem vSet_eq{f:FE}:bz i f ρ=(f ρ).bind λp=>(oz p.1 p.2).bind λq=>(eX i q.1 q.2).bind λρ'=>some (.nx ρ'):=rfl
@[simp] theorem C7{d:Ap}:ao i d ρ=eX i (.v d) ρ:=rfl
@[simp] theorem vgNil_eq:b9 [] ρ=some ρ:=rfl
@[simp] theorem C8{f:FG}{g:uq}{d:Ap}{ds:List Ap}:aB f g (d::ds) ρ=(f d ρ).bind λρ1=>g ds ρ1:=rfl
@[simp] theorem vgTup_eq{n:Nat}{g:uq}{ds:List Ap}:b3 n g (.tuple ds) ρ=if ds.length=n then g ds ρ else none:=rfl
@[simp] theorem vAsg_eq{f:FE}{g:FG}:oA f g ρ=(f ρ).bind λp=>(cS p.1 p.2).bind λq=>(g q.1 q.2).bind λρ'=>some (.nx ρ'):=rfl
@[simp] theorem parO_eq{o1:cW}{m2:M}:parO i j [o1,.t m2] ρ=(oz o1 ρ).bind λq1=>(eX i q1.1 q1.2).bind λρ1=>(eX j m2 ρ1).bind λρ2=>some (.nx ρ2):=rfl
@[simp] theorem vPar_eq{fa:FA}:ur i j fa ρ=(fa ρ).bind λp=>parO i j p.1 p.2:=rfl
@[simp] theorem itD_tup{ds:List Ap}:uN (.tuple ds)=some ds:=rfl
@[simp] theorem itD_list{ds:List Ap}:uN (.list ds)=some ds:=rfl
@[simp] theorem viSeq_eq{f:FE}:dc f ρ=(f ρ).bind λp=>(cS p.1 p.2).bind λq=>(uN q.1).bind λds=>some (ds,q.2):=rfl
@[simp] theorem viArg_eq{g:List M->Option (List Ap)}{fa:FA}:dS g fa ρ=(fa ρ).bind λp=>(iN p.2 p.1).bind λms=>(g ms).bind λds=>some (ds,p.2):=rfl
@[simp] theorem rng1_eq{k:Int}:i7 [.v (.int k)]=if dD k=true then some (bH 0 k) else none:=rfl
@[simp] theorem rng2_eq{a k:Int}:wK [.v (.int a),.v (.int k)]=if dD a=true/\dD k=true then some (bH a k) else none:=rfl
@[simp] theorem j6{fi:FI}{fg:FG}{fb:FS}:jH fi fg fb ρ=(fi ρ).bind λp=>forL fg fb p.1 p.2:=rfl
@[simp] theorem forL_nil{fg:FG}{fb:FS}:forL fg fb [] ρ=some (.nx ρ):=rfl
@[simp] theorem cap_eq:cap ρ j=match cE ρ j with
 |some (.v d)=>some (.t (.v d))
 |some _=>some (.p j)
 |none=>none:=rfl
@[simp] theorem caps_nil:caps ρ []=some []:=rfl
@[simp] theorem C9{js:List Nat}:caps ρ (j::js)=(cap ρ j).bind λo=>(caps ρ js).bind λos=>some (o::os):=rfl
@[simp] theorem vLC_eq{n:Nat}{js:List Nat}{fi:FI}{fg:FG}{ft:FT}{fe:FE}:lq n js fi fg ft fe ρ=(fi ρ).bind λp=>(caps p.2 js).bind λos=>(cO os p.2).bind λq=>
 (cU fg ft fe p.1 (E8 n none++q.1.map some) []).bind λr=>(fin (E8 js.length true) q.1 (r.2.drop n)).bind λms'=>some (.t (.lst r.1),fW os ms' q.2):=rfl
@[simp] theorem fin_nil:fin [] [] ρ=some []:=by cases ρ <;> rfl
@[simp] theorem fin_t{ps:List Bool}{ms:List M}{m':M}:fin (true::ps) (m::ms) (some m'::ρ)=(fin ps ms ρ).bind λms'=>some (m'::ms'):=rfl
@[simp] theorem fin_f{ps:List Bool}{ms:List M}{d:Ap}:fin (false::ps) (.v d::ms) (x::ρ)=(fin ps ms ρ).bind λms'=>some (.v d::ms'):=rfl
@[simp] theorem vDC_eq{b:Bool}{n:Nat}{js:List Nat}{fi:FI}{fg:FG}{ft:FT}{fk fv:FE}:CZ b n js fi fg ft fk fv ρ=(fi ρ).bind λp=>(caps p.2 js).bind λos=>(cO os p.2).bind λq=>
 (jV fg ft fk fv p.1 (E8 n none++q.1.map some) (if b then .cD [] else .cz [])).bind λr=>(fin (E8 js.length true) q.1 (r.2.drop n)).bind λms'=>some (.t r.1,fW os ms' q.2):=rfl
@[simp] theorem vApp_eq{fa:FA}:qh i fa ρ=(cE ρ i).bind λm0=>match m0 with
 |.lst _=>(fa ρ).bind λp=>match p.1 with
  |[o]=>(cS o p.2).bind λq=>(cE q.2 i).bind λm=>match m with
   |.lst ds=>if ds.length<lim then some (.t (.v .none),q.2.set i (some (.lst (ds++[q.1])))) else none
   |_=>none
  |_=>none
 |_=>none:=rfl
@[simp] theorem vPut_eq{fk fe:FE}:uv i fk fe ρ=(fe ρ).bind λp=>(cS p.1 p.2).bind λq=>(cE q.2 i).bind λm0=>match m0 with
 |.v _=>none
 |_=>(fk q.2).bind λr=>(peek r.2 r.1).bind λmk=>(cE r.2 i).bind λm=>match m,mk with
  |.cz kvs,.v kd=>(eB kd).bind λk=>if kvs.length<lim then some (.nx (r.2.set i (some (.cz (putD kvs k q.1))))) else none
  |.lst ds,.v (.int k)=>(sj ds.length k).bind λj=>some (.nx (r.2.set i (some (.lst (ds.set j q.1)))))
  |_,_=>none:=rfl
theorem j7{ps:List Bool}{n:Nat}{fb:FS}{ms:List M}:eF ps n fb ms=if ms.length=ps.length then (fb (ms.map some++E8 (n-ms.length) none)).bind λo=>match o with
 |.rt m ρ=>(fin ps ms ρ).bind λms'=>some (m,ms')
 |.nx ρ=>(fin ps ms ρ).bind λms'=>some (.v .none,ms')
 |_=>none
 else none:=rfl
@[simp] theorem int_eq{C:Int->Int->Bool}{g:Int->Int->Ap}{a b:Int}:j0 C g (.v (.int a)) (.v (.int b))=if C a b=true then some (.v (g a b)) else none:=rfl
@[simp] theorem sub_eq{a b:Int}:p7 (.v (.int a)) (.v (.int b))=some (.v (.int (a-b))):=rfl
@[simp] theorem add_int{a b:Int}:bZ (.v (.int a)) (.v (.int b))=some (.v (.int (a+b))):=rfl
@[simp] theorem add_tup{a b:List Ap}:bZ (.v (.tuple a)) (.v (.tuple b))=if a.length+b.length<=lim then some (.v (.tuple (a++b))) else none:=rfl
@[simp] theorem add_lst{a b:List Ap}:bZ (.lst a) (.lst b)=if a.length+b.length<=lim then some (.lst (a++b)) else none:=rfl
@[simp] theorem mul_eq{a b:Int}:mulM (.v (.int a)) (.v (.int b))=if decide ((-(2 ^ 64)<a/\a<2 ^ 64)\/(-(2 ^ 64)<b/\b<2 ^ 64))=true then some (.v (.int (a*b))) else none:=rfl
@[simp] theorem mod_eq{a b:Int}:jF (.v (.int a)) (.v (.int b))=if decide (0<b)=true then some (.v (.int (a % b))) else none:=rfl
@[simp] theorem fdiv_eq{a b:Int}:p8 (.v (.int a)) (.v (.int b))=if decide (0<b/\b<1073741824)=true then some (.v (.int (a / b))) else none:=rfl
@[simp] theorem gt_eq{a b:Int}:DP (.v (.int a)) (.v (.int b))=some (.v (.bool (decide (b<a)))):=rfl
@[simp] theorem lt_eq{a b:Int}:AH (.v (.int a)) (.v (.int b))=some (.v (.bool (decide (a<b)))):=rfl
@[simp] theorem ge_eq{a b:Int}:DC (.v (.int a)) (.v (.int b))=some (.v (.bool (decide (b<=a)))):=rfl
@[simp] theorem lt_tup{a b:List Ap}:AH (.v (.tuple a)) (.v (.tuple b))=(gx a).bind λis=>(gx b).bind λjs=>some (.v (.bool (HT.lexLt is js))):=rfl
@[simp] theorem ge_tup{a b:List Ap}:DC (.v (.tuple a)) (.v (.tuple b))=(gx a).bind λis=>(gx b).bind λjs=>some (.v (.bool (!HT.lexLt is js))):=rfl
@[simp] theorem asD_v{d:Ap}:ye (.v d)=some d:=rfl
@[simp] theorem zO{d:List Ap}:ye (.lst d)=some (.list d):=rfl
theorem xg{neg:Bool}{m1 m2:M}:fK neg m1 m2=(ye m1).bind λd=>(ye m2).bind λe=>if p9 d e=true then some (.v (.bool (if neg then !PyData.eqv d e else ES d e))) else none:=rfl
@[simp] theorem eq_int{a b:Int}:fK false (.v (.int a)) (.v (.int b))=some (.v (.bool (decide (a=b)))):=by
 have h:fK false (.v (.int a)) (.v (.int b))=some (.v (.bool (a == b))):=rfl;rw[h,Kb]
@[simp] theorem ne_int{a b:Int}:fK true (.v (.int a)) (.v (.int b))=some (.v (.bool (!decide (a=b)))):=by
 have h:fK true (.v (.int a)) (.v (.int b))=some (.v (.bool (!(a == b)))):=rfl;rw[h,Kb]
@[simp] theorem eq_bool{a b:Bool}:fK false (.v (.bool a)) (.v (.bool b))=some (.v (.bool (a == b))):=rfl
@[simp] theorem ne_bool{a b:Bool}:fK true (.v (.bool a)) (.v (.bool b))=some (.v (.bool (!(a == b)))):=rfl
@[simp] theorem isn_bool{a b:Bool}:iJ true (.v (.bool a)) (.v (.bool b))=some (.v (.bool (!(a == b)))):=rfl
@[simp] theorem dH{ds:List Ap}:bT [.v (.tuple ds)]=some (.v (.int ds.length)):=rfl
@[simp] theorem len_list{ds:List Ap}:bT [.v (.list ds)]=some (.v (.int ds.length)):=rfl
@[simp] theorem len_lst{ds:List Ap}:bT [.lst ds]=some (.v (.int ds.length)):=rfl
@[simp] theorem len_dic{ds:List (Key×Ap)}:bT [.cz ds]=some (.v (.int ds.length)):=rfl
@[simp] theorem jo{ds:List Ap}:d8 [.lst ds]=some (.v (.tuple ds)):=rfl
@[simp] theorem Dc{ds:List Ap}:d8 [.v (.list ds)]=some (.v (.tuple ds)):=rfl
@[simp] theorem tupM_tup{ds:List Ap}:d8 [.v (.tuple ds)]=some (.v (.tuple ds)):=rfl
@[simp] theorem xh{ds:List Ap}:jg [.v (.tuple ds)]=some (.lst ds):=rfl
@[simp] theorem abs_eq{a:Int}:absM [.v (.int a)]=some (.v (.int (if a<0 then -a else a))):=rfl
@[simp] theorem int1_int{a:Int}:mT [.v (.int a)]=some (.v (.int a)):=rfl
@[simp] theorem Dd{a:Bool}:mT [.v (.bool a)]=some (.v (.int (if a then 1 else 0))):=rfl
@[simp] theorem zP{a b:Int}:um [.v (.int a),.v (.int b)]=some (.v (.int (if b<a then b else a))):=rfl
@[simp] theorem zQ{a b:Int}:kY [.v (.int a),.v (.int b)]=some (.v (.int (if b>a then b else a))):=rfl
@[simp] theorem oK{any:Bool}{ds:List Ap}:allM any [.lst ds]=(ou ds).bind λbs=>some (.v (.bool (if any then bs.any id else bs.all id))):=rfl
end
theorem ay{f g:FS}{ρ ρ1:Ev}(h:f ρ=some (.nx ρ1)):aI f g ρ=g ρ1:=by rw[sZ,h]; rfl
theorem g9{f g:FS}{ρ ρ1:Ev}{m:M}(h:f ρ=some (.rt m ρ1)):aI f g ρ=some (.rt m ρ1):=by rw[sZ,h]; rfl
theorem bS{ps:List Bool}{n:Nat}{fb:FS}{ms:List M}{m:M}{ρ:Ev}{ms':List M}(hl:ms.length=ps.length)(h:fb (ms.map some++E8 (n-ms.length) none)=some (.rt m ρ))(hf:fin ps ms ρ=some ms'):eF ps n fb ms=some (m,ms'):=by
 rw[j7,if_pos hl,h];show (fin ps ms ρ).bind _=_;rw[hf]; rfl
theorem gE{fg:FG}{fb:FS}{P:List Ap->Ev->Prop}:∀(ds:List Ap)(ρ:Ev),P ds ρ->(∀d ds ρ,P (d::ds) ρ->∃ρ1 ρ2,fg d ρ=some ρ1/\fb ρ1=some (.nx ρ2)/\P ds ρ2)->∃ρ',forL fg fb ds ρ=some (.nx ρ')/\P [] ρ'
 |[],ρ,h,_=>⟨ρ,rfl,h⟩
 |d::ds,ρ,h,step=>by
  obtain⟨ρ1,ρ2,e1,e2,h2⟩:=step d ds ρ h;obtain⟨ρ',e3,h3⟩:=gE ds ρ2 h2 step;refine⟨ρ',?_,h3⟩;show (fg d ρ).bind _=_;rw[e1];show (fb ρ1).bind _=_;rw[e2];exact e3
theorem lA{fg:FG}{fb:FS}{P:List Ap->Ev->Prop}{Q:M->Ev->Prop}:∀(ds:List Ap)(ρ:Ev),P ds ρ->(∀d ds ρ,P (d::ds) ρ->∃ρ1,fg d ρ=some ρ1/\((∃ρ2,fb ρ1=some (.nx ρ2)/\P ds ρ2)\/∃m ρ2,fb ρ1=some (.rt m ρ2)/\Q m ρ2)) ->
  (∃ρ',forL fg fb ds ρ=some (.nx ρ')/\P [] ρ')\/∃m ρ',forL fg fb ds ρ=some (.rt m ρ')/\Q m ρ'
 |[],ρ,h,_=>.inl ⟨ρ,rfl,h⟩
 |d::ds,ρ,h,step=>by
  obtain⟨ρ1,e1,h1⟩:=step d ds ρ h;rcases h1 with⟨ρ2,e2,h2⟩ | ⟨m,ρ2,e2,h2⟩
  ·have key:forL fg fb (d::ds) ρ=forL fg fb ds ρ2:=by
    show (fg d ρ).bind _=_;rw[e1];show (fb ρ1).bind _=_;rw[e2]; rfl
   rw[key];exact lA ds ρ2 h2 step
  ·refine .inr ⟨m,ρ2,?_,h2⟩
   show (fg d ρ).bind _=_;rw[e1];show (fb ρ1).bind _=_;rw[e2]; rfl
theorem xj{fg:FG}{ft:FT}{fe:FE}{P:List Ap->List Ap->Ev->Prop}:∀(ds:List Ap)(ρ:Ev)(acc:List Ap),P ds acc ρ ->
  (∀d ds acc ρ,P (d::ds) acc ρ->acc.length<lim/\∃ρ1 b ρ2,fg d ρ=some ρ1/\ft ρ1=some (b,ρ2)/\((b=false/\P ds acc ρ2)\/(b=true/\∃o ρ3 e ρ4,fe ρ2=some (o,ρ3)/\cS o ρ3=some (e,ρ4)/\P ds (acc++[e]) ρ4)))->∃acc' ρ',cU fg ft fe ds ρ acc=some (acc',ρ')/\P [] acc' ρ':=by
 intro ds
 induction ds with
 |nil=>
  intro ρ acc h _;exact⟨acc,ρ,rfl,h⟩
 |cons d ds ih=>
  intro ρ acc h step;obtain⟨hl,ρ1,b,ρ2,e1,e2,h2⟩:=step d ds acc ρ h;rcases h2 with⟨rfl,h2⟩ | ⟨rfl,o,ρ3,e,ρ4,e3,e4,h2⟩
  ·obtain⟨acc',ρ',e5,h5⟩:=ih ρ2 acc h2 step
   refine⟨acc',ρ',?_,h5⟩;show (fg d ρ).bind _=_;rw[e1];show (ft ρ1).bind _=_;rw[e2];exact e5
  ·obtain⟨acc',ρ',e5,h5⟩:=ih ρ4 (acc++[e]) h2 step
   refine⟨acc',ρ',?_,h5⟩;show (fg d ρ).bind _=_;rw[e1];show (ft ρ1).bind _=_;rw[e2];show (fe ρ2).bind _=_;rw[e3];show (cS o ρ3).bind _=_;rw[e4];show (if acc.length<lim then _ else _)=_
   rw[if_pos hl];exact e5
end VL
end
section
namespace VL
open PySem PySem.Spec L2 PyProof.Rows
section
variable{X:Cx}{pos:Pos}{pin:List Nat}
noncomputable def qk(i:Nat)(fa:FA):FE:=λρ=>(cE ρ i).bind λm0=>match m0 with
 |.lst _=>(fa ρ).bind λp=>match p.1 with
  |[.t (.lst es)]=>(cE p.2 i).bind λm=>match m with
   |.lst ds=>if ds.length+es.length<=lim then some (.t (.v .none),p.2.set i (some (.lst (ds++es)))) else none
   |_=>none
  |_=>none
 |_=>none
theorem zR{i:Nat}{fa:FA}{σ:L2.St}{H:Hp}{Q:VK}(hq:vE X.K (qk i fa) σ H Q):uL X.K "list" nN (dZ i) (vA X.K fa) σ H Q:=by
 obtain⟨Z,ρ,F,o,ρ',S,w,e,q⟩:=hq;obtain⟨m0,e0,e⟩:=oB e
 split at e
 ·rename_i ds0
  obtain⟨x,G,h1,h2,_⟩:=S.get (aH.mp e0);obtain⟨a,xs0,rfl,ha,_⟩:=(show Ro X.K H Z x (.lst ds0) from⟨G,h2⟩).lst
  refine⟨.ref a,h1,.inl ⟨rfl,_,fL.of ha⟩,?_⟩;obtain⟨⟨os,ρ1⟩,e1,e⟩:=oB e;refine⟨Z,ρ,F,os,ρ1,S,w,e1,λxs H1 Z1 F1 G1 S1 O1 f1=>?_⟩
  dsimp only at e
  split at e
  ·rename_i es
   obtain⟨m,e3,e⟩:=oB e
   split at e
   ·rename_i ds
    split at e
    ·rename_i hl
     cases e;cases O1 with
     |cons p1 r1=>
      cases r1;rw[E1] at f1;cases p1 with
      |t p2=>
       cases p2 with
       |lst hz fz=>
        have f2:=f1.sub (bD f1.nd).1 λb hb=>lL _ hb
        obtain⟨x',G',k1,k2,k3⟩:=uu S1 f2 e3;rw[h1] at k1; cases k1;cases k2 with
        |lst hb fb=>
         obtain⟨g,_,k4⟩:=k3 a (.lst (_++_)) lS;obtain⟨F3,S3,f3⟩:=k4 (.lst (ds++es)) [a] (λ_ h=>h) (EG.mpr ⟨EE,EX⟩) (.lst aF ((fb.append fz).mono g))
         exact⟨a,_,_,_,rfl,rfl,hb,hz,FZ (gR (by rw[fb.length,fz.length]; exact hl)),q .non _ Z1 F3 [] S3 (.t (.v .non)) f3.nil⟩
    ·cases e
   ·cases e
  ·cases e
 ·cases e
theorem xm(i:Nat){e:Expr}{es:List Expr}{fa:FA}{x:Str}{p1 p2:Pos}(ha:WA X (e::es) fa)(hpe:∀(to:TE)(t:TA),PE X (.Name x p1) to->PA X (e::es) t->PE X (.Call (.Attribute (.Name x p1) "extend" p2) (e::es) [] pos) (uL X.K "list" nN to t))(hv:PE X (.Name x p1) (dZ i)):WE X (.Call (.Attribute (.Name x p1) "extend" p2) (e::es) [] pos) (qk i fa):=⟨bR (hpe _ _ hv ha.h) λ_ _ _ hq=>zR hq⟩
end
section
variable{K:AC}{H:Hp}{Z:Zs}
theorem bB.erase:∀{xs:List V}{ds:List Ap}(i:Nat),bB K H Z xs ds->bB K H Z (xs.eraseIdx i) (ds.eraseIdx i)
 |_,_,_,.nil=>.nil
 |_,_,0,.cons _ r=>r
 |_,_,i+1,.cons h r=>.cons h (bB.erase i r)
end
section
variable{X:Cx}{pos:Pos}{pin:List Nat}
noncomputable def vPopA(i:Nat)(fa:FA):FE:=λρ=>(cE ρ i).bind λm0=>match m0 with
 |.lst _=>(fa ρ).bind λp=>match p.1 with
  |[o]=>(peek p.2 o).bind λmk=>match mk with
   |.v (.int k)=>(cE p.2 i).bind λm=>match m with
    |.lst ds=>if k < -(2 ^ 63)\/2 ^ 63<=k then none else (Kr k ds.length).bind λn=>(ds[n]?).bind λd=>some (.t (.v d),p.2.set i (some (.lst (ds.eraseIdx n))))
    |_=>none
   |_=>none
  |_=>none
 |_=>none
def oM:V->List V->Hp->VK->Prop:=λx vs H Q=>∃l xs i k y,x=.ref l/\vs=[.int i,y]/\H l=some (.lst xs)/\i=((k:Nat):Int)/\k<=xs.length/\xs.length<2 ^ 62/\xs.length<E4/\Q .non (upd H l (.lst (xs.take k++y::xs.drop k)))
theorem uw:DB X "list.insert" oM:=by
 intro pins s σ H x vs v us Q I rx rv h;obtain⟨l,xs,i,k,y,rfl,rfl,hH,hi,h1,h2,hz,q⟩:=h;cases rx;obtain⟨ui,u,rfl,ri,ru⟩:=Vals.two rv;obtain⟨t,rfl⟩:=ri;obtain⟨z,its,n,r,hl,e⟩:=I.jg hH;have hf:Builtin.List.listFitsIndex i=true:=fitsIndex_both (by lia) (by lia)
 have hg:¬ (!Builtin.List.listFitsIndex i)=true:=by rw[hf]; exact Gg
 have hs:its.toArray.size<=E4:=by rw[Bz]; lia
 refine JC KQ ⟨_,e,rfl⟩ F.entry_list_insert (F.args_list_insert_3 _ _ _) (AutoSeq1.list_insert_list_int_val_1 l its.toArray n i t u hg hs) ⟨e,?_⟩;refine⟨.non,_,I.lset (its':=its.take k++u::its.drop k) hH e ?_ ((r.take k).append (.cons ru (r.drop k))) ?_,rfl,q⟩
 ·have hm:(if i<0 then (i+(its.toArray.size:Int)).toNat else min i.toNat its.toArray.size)=k:=by
   rw[if_neg (by lia),Bz]
   lia
  show (its.toArray.extract 0 (if i<0 then (i+(its.toArray.size:Int)).toNat else min i.toNat its.toArray.size)).push u++its.toArray.extract (if i<0 then (i+(its.toArray.size:Int)).toNat else min i.toNat its.toArray.size)=_
  rw[hm];apply LJ.mp;simp;exact K7 (by rw[HJ]; exact Db _)
 ·simp
  lia
noncomputable def xo(i:Nat)(fa:FA):FE:=λρ=>(cE ρ i).bind λm0=>match m0 with
 |.lst _=>(fa ρ).bind λp=>match p.1 with
  |[o,o2]=>(peek p.2 o).bind λmk=>match mk with
   |.v (.int k)=>(cS o2 p.2).bind λq=>(cE q.2 i).bind λm=>match m with
    |.lst ds=>if 0<=k/\k.toNat<=ds.length/\ds.length<lim then some (.t (.v .none),q.2.set i (some (.lst (ds.take k.toNat++q.1::ds.drop k.toNat)))) else none
    |_=>none
   |_=>none
  |_=>none
 |_=>none
theorem zS{i:Nat}{fa:FA}{σ:L2.St}{H:Hp}{Q:VK}(hq:vE X.K (xo i fa) σ H Q):uL X.K "list" oM (dZ i) (vA X.K fa) σ H Q:=by
 obtain⟨Z,ρ,F,o,ρ',S,w,e,q⟩:=hq;obtain⟨m0,e0,e⟩:=oB e
 split at e
 ·rename_i ds0
  obtain⟨x,G,h1,h2,_⟩:=S.get (aH.mp e0);obtain⟨a,xs0,rfl,ha,_⟩:=(show Ro X.K H Z x (.lst ds0) from⟨G,h2⟩).lst
  refine⟨.ref a,h1,.inl ⟨rfl,_,fL.of ha⟩,?_⟩;obtain⟨⟨os,ρ1⟩,e1,e⟩:=oB e;refine⟨Z,ρ,F,os,ρ1,S,w,e1,λxs H1 Z1 F1 G1 S1 O1 f1=>?_⟩
  dsimp only at e
  split at e
  ·rename_i o1 o2
   obtain⟨mk,e2,e⟩:=oB e
   split at e
   ·rename_i k
    obtain⟨⟨d,ρ2⟩,e4,e⟩:=oB e;obtain⟨m,e3,e⟩:=oB e
    split at e
    ·rename_i ds
     split at e
     ·rename_i hk
      cases e;cases O1 with
      |cons p1 r1=>
       cases r1 with
       |cons p3 r2=>
        cases r2;rw[E1] at f1;obtain⟨G2,p2⟩:=p1.peek S1 e2;cases p2 with
        |v fz=>
         cases fz;have f2:=f1.sub (F':=F1++_) (by
          obtain⟨n1,n2,n3⟩:=bD f1.nd;exact aS n1 (bD n2).2.1 λb hb h=>n3 b hb (lR _ h)) λb hb=>by
           rcases lM hb with h | h
           ·exact lL _ h
           ·exact lR _ (lR _ h)
         obtain⟨Z2,F2,S2,z2,f3,_⟩:=fD S1 p3 f2 e4;obtain⟨x',G',k1,k2,k3⟩:=uu S2 f3 e3;rw[h1] at k1; cases k1;cases k2 with
         |lst hb fb=>
          obtain⟨g,_,k4⟩:=k3 a (.lst (_)) lS;obtain⟨F3,S3,f3⟩:=k4 (.lst (ds.take k.toNat++d::ds.drop k.toNat)) [a] (λ_ h=>h) (EG.mpr ⟨EE,EX⟩) (.lst aF (((fb.take k.toNat).append (.cons z2 (fb.drop k.toNat))).mono g))
          have hl:=fb.length;have h5:lim<2 ^ 62:=by decide
          exact⟨a,_,k,k.toNat,_,rfl,rfl,hb,by lia,by lia,by lia,gR (by lia),q .non _ Z2 F3 [] S3 (.t (.v .non)) f3.nil⟩
     ·cases e
    ·cases e
   ·cases e
  ·cases e
 ·cases e
theorem Cz(i:Nat){e:Expr}{es:List Expr}{fa:FA}{x:Str}{p1 p2:Pos}(ha:WA X (e::es) fa)(hpe:∀(to:TE)(t:TA),PE X (.Name x p1) to->PA X (e::es) t->PE X (.Call (.Attribute (.Name x p1) "insert" p2) (e::es) [] pos) (uL X.K "list" oM to t))(hv:PE X (.Name x p1) (dZ i)):WE X (.Call (.Attribute (.Name x p1) "insert" p2) (e::es) [] pos) (xo i fa):=⟨bR (hpe _ _ hv ha.h) λ_ _ _ hq=>zS hq⟩
end
noncomputable def rE:List Int->Option Int
 |[]=>none
 |n::ns=>match rE ns with
  |none=>some n
  |some j=>some (if j>n then j else n)
theorem jJ:∀{ns:List Int}{k:Int},rE ns=some k->k∈ns/\∀a∈ns,a<=k
 |[],_,e=>by cases e
 |n::ns,k,e=>by
  unfold rE at e;cases h:rE ns with
  |none=>
   rw[h] at e; cases e;cases ns with
   |nil=>exact⟨lS,λa ha=>by rw[Do.mp ha]; exact Ko _⟩
   |cons y ys=>unfold rE at h; split at h <;> cases h
  |some j=>
   rw[h] at e;have e:(if j>n then j else n)=k:=EQ e
   obtain⟨h1,h2⟩:=jJ h
   by_cases c:j>n
   ·rw[if_pos c] at e; subst e
    exact⟨lO _ h1,λa ha=>by
     rcases lK ha with ha | ha
     ·subst ha; lia
     ·exact h2 a ha⟩
   ·rw[if_neg c] at e; subst e
    exact⟨lS,λa ha=>by
     rcases lK ha with ha | ha
     ·subst ha; lia
     ·have:=h2 a ha; lia⟩
section
variable{X:Cx}
theorem xq{prog:EK}{w:World}{A:FK}{E:Value->Bi->Prop}{s:Bi}{l:Addr}{its:Array Value}{Q:Value->Bi->Prop}(hl:s.heap.IsTuple l its)
  (h:∀s₂:Bi,(∀b o,b∉[s.heap.objs.size]->s.heap.get? b=some o->s₂.heap.get? b=some o)->s₂={ s with heap:=s₂.heap }->s₂.heap.IsTupleIter s.heap.objs.size l 0->s₂.heap.IsTuple l its->(∀b∈[s.heap.objs.size,l],b<s₂.heap.objs.size)->l≠s.heap.objs.size->Q (.ref s.heap.objs.size) s₂):wpAny (model prog w) A (KF (.ref l)) Q E s:=by
 have hlt:l<s.heap.objs.size:=by obtain⟨_,e,_⟩:=hl; exact Da e
 refine JA hl (h _ (λb o _ e=>BM _ e) rfl ⟨_,Dx _ rfl,rfl,rfl⟩ (hl.push _) ?_ (ED hlt))
 intro b hb;rw[FP];rcases lK hb with e | hb
 ·rw[e]; exact Nat.lt_succ_self _
 ·rw[Do.mp hb]; exact Gn hlt
theorem l8(hc:X.calm=true):aZ X (.builtin "max") (λxs H Q=>∃p ns,xs=[.ref p]/\fL X.K H p (ns.map V.int)/\ns≠[]/\∀M:Int,M∈ns->(∀a,a∈ns->a<=M)->Q (.int M) H):=by
 intro pins s σ H xs us Q I r ⟨p,ns,exs,hq,hne,q⟩;subst exs;obtain⟨u,rfl,rx⟩:=vals1 r;cases rx;obtain⟨its,rv,pl,hz⟩:=I.list hq;have hi:=intsAre_of rv;obtain⟨xs,e⟩:=hi.allInts.items;have hp:=pl.isList;have hn:xs.toList.map (·.1)=ns:=by
  rw[<-hi.numsOf,<-Kh (xs:=xs),<-e]
 rw[e] at hp;have hlen:ns.length=xs.size:=by rw[<-hn,At,EN]
 have hsz:0<xs.size:=LC λz=>hne (Fp.mp (hlen.trans z))
 refine max_intList (I.ok.hd hc) hp hsz λv h' tk hv hk=>?_
 obtain⟨t,rfl⟩:=Jq hv;obtain⟨h1,h2⟩:=argBest_gt (numAt xs) (xs.size-1);refine⟨.int _,H,I.kept (t':=tk) hk,⟨t,rfl⟩,q _ ?_ λa ha=>?_⟩
 ·rw[JQ,hn]; exact getD_mem (by lia)
 ·obtain⟨j,hj,rfl⟩:=mem_getD ha
  rw[<-hn,<-JQ];exact h2 j (by lia)
theorem oN(hc:X.calm=true):aZ X (.builtin "max") (λxs H Q=>∃p ns,xs=[.ref p]/\dJ X.K H p (ns.map V.int)/\ns≠[]/\∀M:Int,M∈ns->(∀a,a∈ns->a<=M)->Q (.int M) H):=by
 intro pins s σ H xs us Q I r ⟨p,ns,exs,hq,hne,q⟩;subst exs;obtain⟨u,rfl,rx⟩:=vals1 r;cases rx;obtain⟨its,rv,pl,hz⟩:=I.tuple hq;have hi:=intsAre_of rv;obtain⟨xs,e⟩:=hi.allInts.items;have hp:s.heap.IsTuple p its.toArray:=pl;have hn:xs.toList.map (·.1)=ns:=by
  rw[<-hi.numsOf,<-Kh (xs:=xs),<-e]
 rw[e] at hp;have hlen:ns.length=xs.size:=by rw[<-hn,At,EN]
 have hsz:0<xs.size:=LC λz=>hne (Fp.mp (hlen.trans z))
 refine call_max_walk (xq hp λs₂ k2 e2 st1 st2 hfp hnp=>?_)
 refine⟨_,_,_,(JR xs).size,λi v=>(JR xs)[i]? = some v,_,λi j=>decide (numAt xs i>numAt xs j),rfl,Walks.tuple (A:=X.A.in1) (show X.A.in1.handled=none from I.ok.hd hc) _ p hnp (JR xs),(show _/\_ from⟨st1,st2⟩),hfp,by simpa[JR] using hsz,CmpOf.ints_gt (numAt xs) (λ_ _=>Jq),λv h' tk hv hk=>?_⟩
 have hv:(JR xs)[argBest (λi j=>decide (numAt xs i>numAt xs j)) (xs.size-1)]? = some v:=by simpa[JR] using hv
 obtain⟨t,rfl⟩:=Jq hv;obtain⟨h1,h2⟩:=argBest_gt (numAt xs) (xs.size-1);rw[e2];have hk2:∀b o,s.heap.get? b=some o->h'.get? b=some o:=λb o eb=>by
  have hb:b∉[s.heap.objs.size]:=λhm=>absurd (Do.mp hm▸Da eb) (GM _)
  exact hk b o hb (k2 b o hb eb)
 refine⟨.int _,H,I.kept (t':=tk) hk2,⟨t,rfl⟩,q _ ?_ λa ha=>?_⟩
 ·rw[JQ,hn]; exact getD_mem (by lia)
 ·obtain⟨j,hj,rfl⟩:=mem_getD ha
  rw[<-hn,<-JQ];exact h2 j (by lia)
noncomputable def maxM:List M->Option M
 |[m]=>match jE m with
  |some ds=>(gx ds).bind λns=>(rE ns).bind λk=>some (.v (.int k))
  |none=>(v9 m).bind λds=>(gx ds).bind λns=>(rE ns).bind λk=>some (.v (.int k))
 |_=>none
theorem zT(hc:X.calm=true):aZ X (.builtin "max") (lY X.K maxM):=by
 intro pins s σ H xs us Q I rs h;obtain⟨Z,ms,m,za,hr,e,q⟩:=h;unfold maxM at e
 split at e
 ·split at e
  ·next ds e1=>
   obtain⟨ns,e2,e⟩:=oB e;obtain⟨k,e3,e⟩:=oB e;cases e;obtain⟨x,rfl,h1⟩:=eW hr;obtain⟨a,ys,rfl,hx,fx⟩:=h1.jE e1;rw[cR e2] at fx;rw[fx.cQ] at hx;obtain⟨k1,k2⟩:=jJ e3;refine l8 hc pins s σ H _ us Q I rs ⟨a,ns,rfl,hx,λz=>by rw[z] at k1; simp at k1,λM h1 h2=>?_⟩
   have:M=k:=Jd (k2 M h1) (h2 k k1);subst this;exact cg q za (.int _)
  ·obtain⟨ds,e1,e⟩:=oB e
   obtain⟨ns,e2,e⟩:=oB e;obtain⟨k,e3,e⟩:=oB e;cases e;obtain⟨x,rfl,h1⟩:=eW hr;obtain⟨a,ys,rfl,hx,fx⟩:=h1.v9 e1;rw[cR e2] at fx;rw[fx.cQ] at hx;obtain⟨k1,k2⟩:=jJ e3;refine oN hc pins s σ H _ us Q I rs ⟨a,ns,rfl,hx,λz=>by rw[z] at k1; simp at k1,λM h1 h2=>?_⟩
   have:M=k:=Jd (k2 M h1) (h2 k k1);subst this;exact cg q za (.int _)
 ·cases e
end
section
variable{X:Cx}{pos:Pos}
noncomputable def jq:List Ap->Option (List Key)
 |[]=>some []
 |d::ds=>(eB d).bind λk=>(jq ds).bind λks=>some (k::ks)
theorem bB.jq{K:AC}{H:Hp}{Z:Zs}:∀{ds:List Ap}{xs:List V}{ks:List Key},bB K H Z xs ds->VL.jq ds=some ks->xs=ks.map kV
 |[],_,_,.nil,e=>by cases e; rfl
 |d::ds,_,_,.cons h r,e=>by
  obtain⟨k,e1,e⟩:=oB e;obtain⟨ks,e2,e⟩:=oB e;cases e;rw[eE h e1,bB.jq r e2];rfl
theorem fU.lg{K:AC}{H:Hp}{Z:Zs}:∀{ks:List Key}{ys:List V}{ds:List Ap}{acc:List (Key×V)}{acc':List (Key×Ap)},bB K H Z ys ds->fU K H Z acc acc'->fU K H Z ((ks.zip ys).foldl (λa p=>putK a p.1 p.2) acc) ((ks.zip ds).foldl (λa p=>putD a p.1 p.2) acc')
 |[],_,_,_,_,_,h=>h
 |_::_,_,_,_,_,.nil,h=>h
 |k::ks,_,_,_,_,.cons h r,a=>fU.lg (ks:=ks) r (a.put h)
noncomputable def DJ(ks:List Key)(bs:List Ap):List (Key×Ap):=(ks.zip bs).foldl (λacc p=>putD acc p.1 p.2) []
noncomputable def De:List M->Option M
 |[.v (.tuple as),m]=>(jq as).bind λks=>(seq m).bind λbs=>some (.cz (DJ ks bs))
 |_=>none
def Em(K:AC):List V->Hp->VK->Prop:=λvs H1 Q=>∃ (a b:Addr) (ys:List V) (ks:List Key),vs=[.ref a,.ref b]/\dJ K H1 a (ks.map kV)/\(fL K H1 b ys\/dJ K H1 b ys)/\∀l,H1 l=none->Q (.ref l) (upd H1 l (.dK ((ks.zip ys).foldl (λacc p=>putK acc p.1 p.2) [])))
theorem rDZ_v{K:AC}:Dq K (Em K) De:=λH Z xs ms m Q za hr e q=>by
 unfold De at e
 split at e
 ·obtain⟨ks,e1,e⟩:=oB e
  obtain⟨bs,e2,e⟩:=oB e;cases e;obtain⟨x,y,rfl,h1,h2⟩:=wu hr;obtain⟨a,xs,rfl,t1,g1⟩:=h1.tup;obtain⟨b,ys,rfl,t2,g2⟩:=h2.seq e2;rw[g1.jq e1] at t1;exact⟨a,b,ys,ks,rfl,t1,t2,λl hl=>endD q za hl (fU.lg g2 .nil)⟩
 ·cases e
theorem zU{a b:Expr}{fa:FA}{p1 p2 pos2:Pos}(hc:X.calm=true)(hg:Gl X "dict")(hm:X.mg "dict" = none)(hg2:Gl X "zip")(hm2:X.mg "zip" = none)(ha:VA X [a,b] fa)(hs:E6 [a,b] X.env=[(false,eval a X.env),(false,eval b X.env)]:=by rfl)(hs2:E6 [b] X.env=[(false,eval b X.env)]:=by rfl)
  (hs3:E6 [.Call (.Name "zip" p2) [a,b] [] pos2] X.env=[(false,eval (.Call (.Name "zip" p2) [a,b] [] pos2) X.env)]:=by rfl) :
  VE X (.Call (.Name "dict" p1) [.Call (.Name "zip" p2) [a,b] [] pos2] [] pos) (bF De fa):=bR (zA hc hg hm hg2 hm2 ha hs hs2 hs3) λ_ _ _ hq=>many rDZ_v hq
theorem zV{a b:Expr}{fa:FA}{p1 p2 pos2:Pos}(hc:X.calm=true)(hg:Gl X "dict")(hm:X.mg "dict" = none)(hg2:Gl X "zip")(hm2:X.mg "zip" = none)(ha:WA X [a,b] fa)(hs:E6 [a,b] X.env=[(false,eval a X.env),(false,eval b X.env)]:=by rfl)(hs2:E6 [b] X.env=[(false,eval b X.env)]:=by rfl)
  (hs3:E6 [.Call (.Name "zip" p2) [a,b] [] pos2] X.env=[(false,eval (.Call (.Name "zip" p2) [a,b] [] pos2) X.env)]:=by rfl) :
  WE X (.Call (.Name "dict" p1) [.Call (.Name "zip" p2) [a,b] [] pos2] [] pos) (bF De fa):=⟨zU hc hg hm hg2 hm2 ha.h hs hs2 hs3⟩
noncomputable def upto(n:Nat):List Ap:=(Ch n).map λ(k:Nat)=>EC (k:Int)
theorem xr{K:AC}{H:Hp}{Z:Zs}(n:Nat):bB K H Z ((Ch n).map λ(k:Nat)=>V.int (k:Int)) (upto n):=by
 have h:=bB.ints (K:=K) (H:=H) (Z:=Z) ((Ch n).map λ(k:Nat)=>(k:Int))
 rw[EM,EM] at h;exact h
noncomputable def isSq:Ap->Bool
 |.tuple _=>true
 |.list _=>true
 |_=>false
noncomputable def oO(d:Ap):Bool:=isSq d && d.canLay0 && d.showable && decide (d.depth<=50) && decide (d.shown.length<=E4)
noncomputable def xu:List M->Option M
 |[m]=>(ye m).bind λd=>if oO d=true then some (.v (.str d.shown)) else none
 |_=>none
theorem zW(hu:X.A.units+64<cLine)(hg:X.A.guards=some []):aZ X (.builtin "repr") (lY X.K xu):=by
 intro pins s σ H xs us Q I rs h;obtain⟨Z,ms,m,za,hr,e,q⟩:=h;unfold xu at e
 split at e
 ·obtain⟨d,e1,e⟩:=oB e
  split at e
  ·next ok=>
   cases e;unfold oO at ok;simp only[EV,decide_eq_true_eq] at ok;obtain⟨x,rfl,h1⟩:=eW hr;cases rs with
   |cons rx rr=>
    cases rr;obtain⟨as,rd⟩:=h1.reads I e1 ok.1.1.1.2 rx;have hsm:d.hasDict=true->GL∉as:=PyData.noDict_hsm (PyData.hasDict_of_canLay d ok.1.1.1.2);have key:∀{a:Addr},Reads s.heap (.ref a) d as->wpAny (model X.prog X.w) X.A (call (.builtin "repr") [.ref a]) (EP X pins σ Q) X.xe s:=λ{a}rd=>by
     refine repr_of_reads' rd ok.1.1.2 hsm hg (by have:=ok.1.2; lia) (λ_ _ e=>e) (λh' u tk k=>⟨.str _,H,I.kept (t':=tk) k,⟨u,rfl⟩,cg q za (.str _)⟩) ok.2
    cases d with
    |tuple ds=>cases rd with
     |tuple a b c d=>exact key (.tuple a b c d)
    |list ds=>cases rd with
     |list a b c d=>exact key (.list a b c d)
    |_=>exact absurd ok.1.1.1.1 (by simp[isSq])
  ·cases e
 ·cases e
noncomputable def CA(neg:Bool):M->M->Option M
 |.v (.str x),.v (.str y)=>some (.v (.bool (if neg then x != y else x == y)))
 |_,_=>none
theorem xw:dY X (EW .NotEq) (rM X.K (CA true)):=by
 intro pins s σ H x y v u Q I rx ry h;obtain⟨Z,m1,m2,m,za,h1,h2,e,q⟩:=h;unfold CA at e
 split at e
 ·cases e
  obtain rfl:=h1.str;obtain rfl:=h2.str;obtain⟨t,rfl⟩:=rx;obtain⟨t',rfl⟩:=ry;exact ne_str ⟨.bl _,H,I,rfl,cg q za (.bl _)⟩
 ·cases e
noncomputable def lB:=j0 (λi j=>decide ((FC i:Int)+FC j<=2 ^ 20)) λi j=>.int (i*j)
theorem zX:dY X (Fq .Mult) (rI (λi j=>(FC i:Int)+FC j<=2 ^ 20) λi j=>.int (i*j)):=Dk λi j _ _ _ _ _ hc q=>mul_int q (by
 unfold IntMulOk Builtin.Int.intTooBig;have h:¬ ((FC i:Int)+FC j>bitsLine):=by
  have:(2:Int) ^ 20<=(bitsLine:Int):=by decide
  lia
 simp;intro _ _;lia)
theorem oQ:dY X (Fq .Mult) (rM X.K lB):=kR zX (λi j h=>of_decide_eq_true h) λ_ _ _ _=>.int _
end
end VL
end
section
end
section
end
section
namespace VL
open PySem PySem.Spec L2 PyProof.Rows
section
variable{X:Cx}{pos:Pos}{pin:List Nat}
noncomputable def xx:List M->Option M
 |[.v (.tuple ds)]=>if ds.length<64 then (ug ds).bind λks=>if ks.all (λk=> !k.isEmpty)=true then some (.lst ((jS ks).map tI)) else none else none
 |_=>none
theorem xy:aZ X (.builtin "sorted") (lY X.K xx):=by
 intro pins s σ H xs us Q I rs h;obtain⟨Z,ms,m,za,hr,e,q⟩:=h;unfold xx at e
 split at e
 ·split at e
  ·next h64=>
   obtain⟨ks,e3,e⟩:=oB e
   split at e
   ·next hne=>
    cases e;obtain⟨x,rfl,h1⟩:=eW hr;obtain⟨a,xs,rfl,hx,fx⟩:=h1.tup;rw[kX e3] at fx h64;have hl:xs.length=ks.length:=by rw[fx.length,At]
    have ht:=fx.D3;refine fS pins s σ H _ us Q I rs ⟨a,xs,ks,rfl,.inr hx,ht,λt h z=>?_,?_,λzs l p w hl' =>?_⟩
    ·have:=HK.mp hne t h
     rw[z] at this;cases this
    ·rw[At] at h64
     lia
    ·have e:zs.map (·.2)=jS ks:=i0 ((p.map (·.2)).trans (by rw[IE (by lia)])) w
     have:=bB.rg (Z:=Z) ht zs λz h=>p.mem_iff.mp h
     rw[e] at this;exact p6 q za hl' this
   ·cases e
  ·cases e
 ·cases e
noncomputable def mW(ms:List M):Option M:=match c7 ms with
 |some m=>some m
 |none=>xx ms
theorem xA(hc:X.calm=true):aZ X (.builtin "sorted") (lY X.K mW):=by
 intro pins s σ H xs us Q I rs h;obtain⟨Z,ms,m,za,hr,e,q⟩:=h;unfold mW at e
 split at e
 ·next m' em=>cases e; exact c8 hc pins s σ H xs us Q I rs ⟨Z,ms,m,za,hr,em,q⟩
 ·exact xy pins s σ H xs us Q I rs ⟨Z,ms,m,za,hr,e,q⟩
noncomputable def gJ(n:Nat)(js:List Nat)(i:Nat)(fg:FG)(ft:FT)(fe:FE):FE:=λρ=>match cE ρ i with
 |some (.lst ds)=>if i∈js then none else (caps ρ js).bind λos=>(cO os ρ).bind λq=>
  (cU fg ft fe ds (E8 n none++q.1.map some) []).bind λr=>(fin (E8 js.length true) q.1 (r.2.drop n)).bind λms'=>some (.t (.lst r.1),fW os ms' q.2)
 |_=>lq n js (dc (aa i)) fg ft fe ρ
structure ItAt(K:AC)(J:It)(H:Hp)(Z:Zs)(a:Addr)(xs:List V)(ds:List Ap):Prop where
 go:∀H2 Z2,aG H Z H2 Z2->H2 a=some (.lst xs)->∀k d,ds[k]? = some d->J.go k H2/\∀x H',J.yld k H2 x H'->eU H2 H'/\Fz K H' Z2 x d
 stop:∀H2 Z2,aG H Z H2 Z2->H2 a=some (.lst xs)->∀k,ds.length<=k->J.stop k H2
theorem it_at{K:AC}{H:Hp}{Z:Zs}{a:Addr}{xs:List V}{ds:List Ap}(r:bB K H Z xs ds):ItAt K (DA K a) H Z a xs ds:=by
 refine⟨λH2 Z2 g e k d hd=>?_,λH2 Z2 g e k hk=>⟨xs,fL.of e,by rw[r.length]; exact hk⟩⟩
 obtain⟨x,hx,fx⟩:=(r.mono g).get' hd;exact⟨⟨xs,x,fL.of e,hx⟩,λy H' ⟨hH,hy⟩=>by
  subst hH;have:=hy xs (fL.of e);rw[hx] at this;cases this;exact⟨eU.refl _,fx⟩⟩
theorem ql{ρ:Ev}:∀{js:List Nat}{os:List cW},caps ρ js=some os->∀j,cW.p j∈os->j∈js
 |[],_,e,j,h=>by cases e; cases h
 |k::js,_,e,j,h=>by
  obtain⟨o,e1,e⟩:=oB e;obtain⟨os,e2,e⟩:=oB e;cases e;rcases lK h with z | z
  ·subst z
   unfold cap at e1
   split at e1
   ·cases e1
   ·cases e1; exact lS
   ·cases e1
  ·exact lO _ (ql e2 j z)
theorem qm{ρ:Ev}:∀{js:List Nat}{os:List cW},caps ρ js=some os->∀j k,cW.q j k∉os
 |[],_,e,j,k,h=>by cases e; cases h
 |k'::js,_,e,j,k,h=>by
  obtain⟨o,e1,e⟩:=oB e;obtain⟨os,e2,e⟩:=oB e;cases e;rcases lK h with z | z
  ·subst z
   unfold cap at e1
   split at e1 <;> cases e1
  ·exact qm e2 j k z
theorem xB{ρ:Ev}{i j:Nat}(h:i≠j):cE (ρ.set j none) i=cE ρ i:=by
 unfold cE;rw[IW (Gz h)]
theorem rF{i:Nat}:∀{os:List cW}{ρ ρ':Ev}{ms:List M},(∀j,cW.p j∈os->i≠j)->(∀j k,cW.q j k∉os)->cO os ρ=some (ms,ρ')->cE ρ' i=cE ρ i:=by
 intro os
 induction os with
 |nil=>intro ρ ρ' ms _ _ e; cases e; rfl
 |cons o os ih=>
  intro ρ ρ' ms h hq e;have h':=λj hj=>h j (lO _ hj)
  have hq':=λj k hj=>hq j k (lO _ hj)
  cases o with
  |t m=>
   have e:(cO os ρ).bind _=_:=e;obtain⟨⟨ms,ρ1⟩,e1,e⟩:=oB e;cases e;exact ih h' hq' e1
  |p k=>
   obtain⟨m,e0,e⟩:=oB e;obtain⟨⟨ms,ρ1⟩,e1,e⟩:=oB e;cases e;rw[ih h' hq' e1,xB (h k lS)]
  |q j k=>exact absurd lS (hq j k)
theorem qo{i:Nat}{js:List Nat}{os:List cW}{ρ ρ':Ev}{ms:List M}(hi:i∉js)(h1:caps ρ js=some os)(h2:cO os ρ=some (ms,ρ')):cE ρ' i=cE ρ i :=
 rF (λj hj e=>hi (e▸ql h1 j hj)) (qm h1) h2
theorem xC{a0:Addr}{xs0:List V}{n:Nat}{pv:Pv}{fg:FG}{ft:FT}{fe:FE}{J:It}{ds:List Ap}{D:Addr}{τ:L2.St}{H1:Hp}{Z1:Zs}{A:List Addr}{ρ0:Ev}{r:List Ap×Ev}{Q:Hp->Prop}(hD:H1 D=none)(S:bh X.K H1 Z1 τ ρ0 A)(w:Wf H1 Z1 A)(P:Pin pv τ)(hJ:ItAt X.K J H1 Z1 a0 xs0 ds)(ha0:H1 a0=some (.lst xs0))(haA:a0∉A)(e:cU fg ft fe ds ρ0 []=some r)
  (q:∀τ' H' Z' F' xs,bh X.K H' Z' τ' r.2 F'->Pin pv τ'->H' D=some (.lst xs)->bB X.K H' Z' xs r.1->aN H1 Z1 A H' Z' (F'++[D])->Q H'):gm (vG X.K pv fg) (vT X.K ft) (pP D (vE X.K fe)) J τ (upd H1 D (.lst [])) λ_=>Q:=by
 have n0:=aN.ud (o:=.lst []) hD w.za;exact wQ (Q:=λ_=>Q) (S.news n0 w) P aF .nil (n0.news w S.al) (λH2 Z2 _ f=>hJ.go H2 Z2 (f.grow w) (f.AB haA ha0)) (λH2 Z2 _ f=>hJ.stop H2 Z2 (f.grow w) (f.AB haA ha0)) e q
theorem zY{n:Nat}{js:List Nat}{i:Nat}{fg:FG}{ft:FT}{fe:FE}{σ:L2.St}{H:Hp}{Q:VK}{fr:List (Option Nat)}{Z:Zs}{ρ:Ev}{F:List Addr}{o:cW}{ρ':Ev}{ds:List Ap}(hfr:fr=E8 n none++js.map some)(S:bh X.K H Z σ ρ F)(w:Wf H Z F)(e0:cE ρ i=some (.lst ds))(e:gJ n js i fg ft fe ρ=some (o,ρ'))
  (q:∀x H' Z' F' G,bh X.K H' Z' σ ρ' F'->lH X.K H' Z' σ x o G->aN H Z F H' Z' (F'++G)->Q x H') :
  CU fr (u7 X.K (dZ i)) (λ_=>vG X.K (gV n js σ) fg) (λ_=>vT X.K ft) (λ_=>vE X.K fe) σ H Q:=by
 subst hfr;unfold gJ at e;rw[e0] at e;dsimp only at e
 split at e
 ·cases e
 next hij=>
 obtain⟨os,e2,e⟩:=oB e;obtain⟨⟨ms,ρh⟩,e3,e⟩:=oB e;obtain⟨⟨acc,ρi⟩,e4,e⟩:=oB e;obtain⟨ms',e5,e⟩:=oB e;cases e;obtain⟨x,G,hx,hG,_⟩:=S.get (aH.mp e0);obtain⟨a,xsa,rfl,hxa,fzx⟩:=(show Ro X.K H Z x (.lst ds) from⟨G,hG⟩).lst
 refine⟨.ref a,hx,a,rfl,⟨xsa,fL.of hxa⟩,λD hD z=>?_⟩
 obtain⟨τ,A,Fh,eτ,S0,wA,P0,h2,n3,back⟩:=i8 (n:=n) S (aN.refl w) e2 e3;rw[eτ];obtain⟨x',G',g1,g2,g3⟩:=h2.get (aH.mp ((qo hij e2 e3).trans e0));rw[hx] at g1;cases g1;have haA:a∉A:=λz=>by
  cases g2 with
  |lst _ _=>exact n3 a (g3 a lS) z
 refine xC (n:=n) hD S0 wA P0 (it_at fzx) hxa haA e4 λτ' H2 Z2 F2 ys S2 P2 d2 z2 f2=>?_
 obtain⟨F4,p1,f4⟩:=back _ _ _ _ _ _ _ S2 P2 f2 e5;exact q (.ref D) H2 Z2 F4 [D] p1 (.t (.lst d2 z2)) f4
theorem CB{n:Nat}{js:List Nat}{i:Nat}{fg:FG}{ft:FT}{fe:FE}{σ:L2.St}{H:Hp}{Q:VK}{fr:List (Option Nat)}(hfr:fr=E8 n none++js.map some)(hq:vE X.K (gJ n js i fg ft fe) σ H Q) :
  CU fr (u7 X.K (dZ i)) (λ_=>vG X.K (gV n js σ) fg) (λ_=>vT X.K ft) (λ_=>vE X.K fe) σ H Q\/CU fr (vI X.K (dc (aa i))) (λ_=>vG X.K (gV n js σ) fg) (λ_=>vT X.K ft) (λ_=>vE X.K fe) σ H Q:=by
 obtain⟨Z,ρ,F,o,ρ',S,w,e,q⟩:=hq;cases e0:cE ρ i with
 |none=>
  right;refine oF hfr ⟨Z,ρ,F,o,ρ',S,w,?_,q⟩;unfold gJ at e;rw[e0] at e;exact e
 |some m=>
  cases m with
  |lst ds=>exact .inl (zY hfr S w e0 e q)
  |_=>
   right;refine oF hfr ⟨Z,ρ,F,o,ρ',S,w,?_,q⟩;unfold gJ at e;rw[e0] at e;exact e
theorem oR(i:Nat)(n:Nat)(js:List Nat){elt target:Expr}{ifs:List Expr}{scope:Scope}{N:List Str}{fr:List (Option Nat)}{pinI:List Nat}{fg:FG}{ft:FT}{fe:FE}{x:Str}{px:Pos}(hv:PE X (.Name x px) (dZ i))(hfr:fr=E8 n none++js.map some)(hpin:pinI=(Ch js.length).map (n + ·))(hc:X.calm=true)(S:aV X scope N fr)(hi:WI X target (.Name x px) (dc (aa i)))
  (hin:∀z:Bk,WG (z.cx X scope N) pinI target fg/\WF (z.cx X scope N) ifs ft/\WE (z.cx X scope N) elt fe)
  (hs:∀y,Ey (.Name x px) X.env y=pure y:=by intro _; rfl):WE X (.ListComp elt [⟨target,.Name x px,ifs,0⟩] scope pos) (gJ n js i fg ft fe):=⟨λpins s σ H Q I hq=>by
 rcases CB hfr hq with h | h
 ·exact vL (g:=λ_=>vG X.K (gV n js σ) fg) (tt:=λ_=>vT X.K ft) (te:=λ_=>vE X.K fe) hc S (se hv) (λz=>⟨(hin z).1.h _ (lu n js σ hpin),(hin z).2.1.h,(hin z).2.2.h⟩) hs pins s σ H Q I h
 ·exact vL (g:=λ_=>vG X.K (gV n js σ) fg) (tt:=λ_=>vT X.K ft) (te:=λ_=>vE X.K fe) hc S hi.h (λz=>⟨(hin z).1.h _ (lu n js σ hpin),(hin z).2.1.h,(hin z).2.2.h⟩) hs pins s σ H Q I h⟩
end
end VL
end
section
namespace L2
open PySem PySem.Spec PyProof.Rows
end L2
end
section
namespace VL
open PySem PySem.Spec L2 PyProof.Rows
end VL
end
section
namespace L2
open PySem PySem.W PyProof.Rows PySem.Calls
end L2
end
section
namespace L2
open PySem PySem.Spec PySem.W PyProof.Rows
end L2
end
section
namespace VL
open PySem PySem.Spec L2 PyProof.Rows
end VL
end
section
namespace L2
open PySem PySem.Spec PyProof.Rows AutoSeq1
section
variable{prog:EK}{w:World}{A:FK}{E:Value->Bi->Prop}{s:Bi}
theorem l9{Q:List Value->Bi->Prop}{r:Addr}{a b c:Int}{t u v:Tok}{n:Nat}(hh:A.handled=none)(hr:K4 s.heap r a b c t u v)(hsmall:IB a b c=true)(hn:Gq a b c=n)(hlen:n<=2 ^ 24)
  (hQ:∀h' tk acc,(∀b o,s.heap.get? b=some o->h'.get? b=some o)->JY (λi v=>∃t,v=.int (a+i*c) t) acc n->Q acc.toList { s with heap:=h',toks:=tk }) :
  wpAny (model prog w) A (JS (.ref r)) Q E s:=by
 unfold JS;refine AT (KA (G9 Jt ?_)); rw[Fo Js _];show wpAny _ A.in1 (K1 [] >>= λl=>again (.builtin "list.__iadd__" ⟨[l,.ref r],[]⟩)) _ _ s; refine AT (Ex ?_)
 refine Bn ⟨Ha HP _,G9 Ke ?_⟩; rw[Fo HP _];show wpAny _ A.in1 (Gc (.ref s.heap.objs.size) (.ref r) (.ref s.heap.objs.size)) _ _ _;have hS:(s.heap.push { cls:=.type "list",data:=.seq ([]:List Value).toArray }).get? s.heap.objs.size=some { cls:=.type "list",data:=.seq #[] 0 }:=Dx _ rfl;have hr1:K4 (s.heap.push { cls:=.type "list",data:=.seq ([]:List Value).toArray }) r a b c t u v:=BM _ hr;refine GT (wpAny_extend_range (A:=A) (s:={ s with heap:=s.heap.push { cls:=.type "list",data:=.seq ([]:List Value).toArray } }) (R:=λr' s'=>∃h' tk acc c',r'=.ok (.ret (.ref s.heap.objs.size))/\s'={ s with heap:=h',toks:=tk }/\(∀b o,s.heap.get? b=some o->h'.get? b=some o)/\h'.get? s.heap.objs.size=some { cls:=.type "list",dict:=none,data:=.seq acc c',slots:=#[] }/\JY (λi v=>∃t,v=.int (a+i*c) t) acc n)
  hh hr1 hsmall hn hlen s.heap.objs.size (.ref s.heap.objs.size) 0 hS λh' tk acc c' hk hS' hacc=>⟨h',tk,acc,c',rfl,rfl,λb o e=>hk b o (ED (Da e)) (BM _ e),hS',hacc⟩) (λfin s' h=>?_) (λe s' h=>?_)
 ·have fin':∀h' tk acc c',(∀b o,s.heap.get? b=some o->h'.get? b=some o)->h'.get? s.heap.objs.size=some { cls:=.type "list",dict:=none,data:=.seq acc c',slots:=#[] }->JY (λi v=>∃t,v=.int (a+i*c) t) acc n->wpAny (model prog w) A (match GQ s.heap.objs.size with
    |GQ a=>do
     match (<-load a).data with
      |Data.seq xs _=>pure xs.toList
      |_=>Iq "internal:collect"
    |_=>Iq "internal:collect") Q E { s with heap:=h',toks:=tk }:=λh' tk acc c' hk hS' hacc=>by
   show wpAny _ A (load s.heap.objs.size >>= _) _ _ _;exact AT (KC hS' (Bn (hQ h' tk acc hk hacc)))
  cases fin with
  |done f=>
   obtain⟨h',tk,acc,c',e,rfl,h1,h2,h3⟩:=h;cases e;exact fin' h' tk acc c' h1 h2 h3
  |again c'=>exact⟨h.1,JT h.2 λr s'' hr=>by obtain⟨h',tk,acc,c',rfl,rfl,h1,h2,h3⟩:=hr; exact fin' h' tk acc c' h1 h2 h3⟩
 ·obtain⟨_,_,_,_,e,_⟩:=h
  cases e
theorem j3(r:Addr)(a b c:Int)(t u v:Tok)(n:Nat)(hsmall:IB a b c=true)(hn:Gq a b c=n)(hlen:n<=1000000) :
  Meets (Gs.«tuple.__new__» ⟨[.type "tuple",.ref r],[]⟩) (λA R s=>A.handled=none/\K4 s.heap r a b c t u v/\∀(h':Heap)tk acc,(∀b o,s.heap.get? b=some o->h'.get? b=some o)->JY (λi v=>∃t,v=.int (a+i*c) t) acc n->R (.ok (.ret (.ref h'.objs.size))) { s with heap:=h'.push { cls:=.type "tuple",data:=.seq acc },toks:=tk }) :=
 .of_wp λprog w A R s h=>by
  obtain⟨hp,g,d,tk,os⟩:=s; obtain⟨hh,ht,h⟩:=h;have hsub:=sub_tuple_self; have hinit:=init_tuple_lookup; have hmh:=madeHere_tuple;have hT:Jh ⟨hp,g,d,tk,os⟩ (.ref r) "range" := ⟨_,ht,rfl⟩
  wp_walk using HL hT,l9 (by simpa using hh) ht hsmall hn (FH hlen (by decide))
  intro h' tk' acc hk hacc;show wpAny _ _ (Fu acc.toList.toArray >>= λv=>ret v) _ _ _; unfold Fu
  refine AT (Ex ?_ (by show acc.toList.toArray.size<=E4; rw[show acc.toList.toArray=acc by simp,hacc.1,FN]; lia)); refine Bn ⟨_,rfl,?_⟩
  rw[show acc.toList.toArray=acc by simp]; exact h h' tk' acc hk hacc
theorem fY{Q:Value->Bi->Prop}{r:Addr}{a b c:Int}{t u v:Tok}{n:Nat}(hh:A.handled=none)(hr:K4 s.heap r a b c t u v)(hsmall:IB a b c=true)(hn:Gq a b c=n)(hlen:n<=1000000)
  (hQ:∀(h':Heap)tk acc,(∀b o,s.heap.get? b=some o->h'.get? b=some o)->JY (λi v=>∃t,v=.int (a+i*c) t) acc n->Q (.ref h'.objs.size) { s with heap:=h'.push { cls:=.type "tuple",data:=.seq acc },toks:=tk }) :
  wpAny (model prog w) A (call (.type "tuple") [.ref r]) Q E s :=
 callType_new F.called_tuple (by decide) (F.typeCall_tuple_1 _) (F.newCall_tuple_1 _) (λobj=>F.args_object_init_2 obj _) F.entry_tuple_new (j3 r a b c t u v n hsmall hn hlen)
  ⟨by simpa using hh,hr,λh' tk acc hk hacc=>⟨⟨_,Dx _ rfl,rfl⟩,hQ h' tk acc hk hacc⟩⟩
end
section
variable{X:Cx}
noncomputable def En(ta:TA):TE:=λσ H Q=>ta σ H λvs H1=>∃j:Nat,vs=[.int j]/\j<=1000000/\∀l,H1 l=none->Q (.ref l) (upd H1 l (.tup ((Ch j).map λ(n:Nat)=>V.int (n:Int))))
theorem ux{a:Expr}{ta:TA}{p1 p2 pos pos2:Pos}(hc:X.calm=true)(hg:Gl X "tuple")(hm:X.mg "tuple" = none)(hg2:Gl X "range")(hm2:X.mg "range" = none)(ha:PA X [a] ta)(hs:E6 [a] X.env=[(false,eval a X.env)]:=by rfl)
  (hs3:E6 [.Call (.Name "range" p2) [a] [] pos2] X.env=[(false,eval (.Call (.Name "range" p2) [a] [] pos2) X.env)]:=by rfl) :
  PE X (.Call (.Name "tuple" p1) [.Call (.Name "range" p2) [a] [] pos2] [] pos) (En ta):=by
 intro pins s σ H Q I h;refine Fg (eO I hg hm J5 ?_);refine ET ?_ (by rw[hs3]; rfl) rfl
 rw[hs3];show wpAny _ _ (Ky ((false,eval (.Call (.Name "range" p2) [a] [] pos2) X.env)::[])) _ _ s;refine Hf ?_;refine Fg (eO I hg2 hm2 Hx ?_);refine ET (b7 (ha pos2 pins s σ H _ I h) λus s1 ⟨vs,H1,I1,r1,q1⟩=>?_) (by rw[hs]; rfl) rfl
 obtain⟨j,e,hj,q⟩:=q1;subst e;cases r1 with
 |cons r rr=>
  cases rr;obtain⟨t,rfl⟩:=r;refine call_range_1 (Ht ?_);have k1:∀b o,s1.heap.get? b=some o->(s1.heap.push { cls:=.type "range",data:=.fields #[.int 0 s1.toks,.int j t,.int 1 (s1.toks+1)] }).get? b=some o:=λb o e=>BM _ e
  generalize eg:s1.heap.push { cls:=.type "range",data:=.fields #[.int 0 s1.toks,.int j t,.int 1 (s1.toks+1)] }=g at k1;have gsz:g.objs.size=s1.heap.objs.size+1:=by rw[<-eg]; exact FP ..
  have hr:K4 g s1.heap.objs.size 0 j 1 s1.toks t (s1.toks+1):=by rw[<-eg]; exact Jx ..
  refine fY (s:={ s1 with heap:=g,toks:=s1.toks+1+1 }) (n:=j) (I1.ok.hd hc) hr (small_one (by lia) (by lia) (by lia) (by lia)) (by rw[Kg]; split <;> lia) hj λh' tk acc hk hacc=>?_
  have hle:s1.heap.objs.size<=h'.objs.size:=FZ (Da (hk _ _ hr));refine⟨.ref h'.objs.size,_,I1.laid (a:=h'.objs.size) (o:=.tup ((Ch j).map λ(n:Nat)=>V.int (n:Int))) (t':=tk) (λb o e=>BM _ (hk b o (k1 b o e))) hle ?_,rfl,q _ (I1.hok.fresh hle)⟩
  have hv:Vals ((Ch j).map λ(n:Nat)=>V.int (n:Int)) acc.toList:=by
   have hl:acc.toList.length=j:=by rw[EN]; exact hacc.1
   refine gB (by rw[At,FB,hl]) λn x y hx hy=>?_
   rw[E9] at hx;have hn:n<j:=by
    by_cases hn:n<j
    ·exact hn
    ·rw[Fj (by simpa using hn)] at hx; cases hx
   rw[GY hn] at hx;cases hx;obtain⟨t',e⟩:=hacc.2 n y (by simpa using hy)
   exact⟨t',by rw[e]; simp⟩
  exact⟨by rw[At,FB]; exact FH hj (by decide),acc.toList,hv,⟨_,Dx _ rfl,rfl,0,by simp⟩⟩
end
end L2
end
section
namespace VL
open PySem PySem.Spec L2 PyProof.Rows
section
variable{X:Cx}{pos:Pos}
noncomputable def AQ:List M->Option M
 |[.v (.int j)]=>if 0<=j/\j<=1000000 then some (.v (.tuple (upto j.toNat))) else none
 |_=>none
def Eo:List V->Hp->VK->Prop:=λvs H1 Q=>∃j:Nat,vs=[.int j]/\j<=1000000/\∀l,H1 l=none->Q (.ref l) (upd H1 l (.tup ((Ch j).map λ(n:Nat)=>V.int (n:Int))))
theorem rTR_v{K:AC}:Dq K Eo AQ:=λH Z xs ms m Q za hr e q=>by
 unfold AQ at e
 split at e
 ·rename_i j
  split at e
  ·next hj=>
   cases e;obtain⟨x,rfl,h1⟩:=eW hr;obtain rfl:=h1.int;exact⟨j.toNat,by rw[Kw hj.1],by lia,λl hl=>endT q za hl (xr _)⟩
  ·cases e
 ·cases e
theorem mX{a:Expr}{fa:FA}{p1 p2 pos2:Pos}(hc:X.calm=true)(hg:Gl X "tuple")(hm:X.mg "tuple" = none)(hg2:Gl X "range")(hm2:X.mg "range" = none)(ha:WA X [a] fa)(hs:E6 [a] X.env=[(false,eval a X.env)]:=by rfl)
  (hs3:E6 [.Call (.Name "range" p2) [a] [] pos2] X.env=[(false,eval (.Call (.Name "range" p2) [a] [] pos2) X.env)]:=by rfl) :
  WE X (.Call (.Name "tuple" p1) [.Call (.Name "range" p2) [a] [] pos2] [] pos) (bF AQ fa):=⟨bR (ux hc hg hm hg2 hm2 ha.h hs hs3) λ_ _ _ hq=>many rTR_v hq⟩
end
end VL
end
section
namespace ST
open PySem PySem.SetTable
end ST
end
section
namespace ST
open PySem PySem.SetTable PySem.Spec PySem.W
namespace F
end F
end ST
end
section
namespace ST
open PySem PySem.SetTable PySem.Spec
end ST
end
section
namespace L2
open PySem PySem.W PyProof.Rows PySem.Calls
end L2
end
section
namespace L2
open PySem PySem.Spec PyProof.Rows PySem.W
end L2
end
section
namespace TS
open PySem PySem.W PyProof.Rows L2
end TS
end
section
namespace L2
open PySem PySem.W PyProof.Rows PySem.Calls TS
end L2
end
section
namespace VL
open PySem PySem.Spec L2 PyProof.Rows
end VL
end
section
namespace L2
open PySem PySem.Spec PyProof.Rows
noncomputable def Df(a:Addr)(o:Obj)(kvs:List (Key×V)):It :=
 ⟨λi H=>H a=some (.iH o (.dK kvs))/\i<kvs.length,λi H x H'=>H'=H/\∃p,kvs[i]? = some p/\x=kV p.1,λi H=>H a=some (.iH o (.dK kvs))/\kvs.length<=i⟩
theorem xD{k:Key}{v:Value}(h:jN k v=true):RelV (kV k) v:=by
 rcases bx h with⟨i,t,rfl,rfl⟩ | ⟨x,t,rfl,rfl⟩
 ·exact⟨t,rfl⟩
 ·exact⟨t,rfl⟩
theorem AR{α β:Type}{R:α->β->Prop}:∀{xs:List α}{ys:List β},Gm R xs ys->∀{i:Nat}{x:α},xs[i]? = some x->∃y,ys[i]? = some y/\R x y:=by
 intro xs ys h
 induction h with
 |nil=>intro i x h; simp at h
 |cons r rr ih=>
  intro i x h;cases i with
  |zero=>simp at h; subst h; exact⟨_,rfl,r⟩
  |succ i=>
   simp only[List.getElem?_cons_succ] at h ⊢;exact ih h
theorem s9{X:Cx}{H:Hp}{h:Heap}{a:Addr}{o:Obj}{kvs:List (Key×V)}{es:Array DictEntry}{ep:Nat}(ho:o.data=.dict es ep)(q:cy X.prog X.w H h a (.iH o (.dK kvs))) :
  ∃vs,KV kvs vs/\h.DictAt (aJ X.prog X.w) a vs ep:=by
 obtain⟨e,_,_,vs,kv,d⟩:=q;refine⟨vs,kv,?_⟩;obtain⟨o',es',ep',h1,h2,h3,h4⟩:=d;rw[e] at h1;cases h1;rw[ho] at h3;cases h3;exact⟨_,_,e,h2,ho,h4⟩
theorem mY{P:EK}{w:World}{K:AC}{tg:Expr}(a it:Addr)(o:Obj)(kvs:List (Key×V)){es:Array DictEntry}{ep:Nat}(ho:o.data=.dict es ep):Turn P w K tg (Df a o kvs) [it] it (λi h=>h.IsKeyIter it a i kvs.length ep) where
 mem:=by simp
 obj:=λi h st b hb=>by
  have e:b=it:=by simpa using hb
  subst e;obtain⟨o,e,c,d⟩:=st;exact⟨o,e,λv z=>by rw[d] at z; cases z⟩
 keep:=λi h h' st k=>st.at λo e=>k it (by simp) o e
 item:=by
  intro X hP hw hK hc i pins s σ H E I hf st hg;subst hP hw hK;obtain⟨hH,hi⟩:=hg;obtain⟨vs,kv,da⟩:=s9 ho (I.hok a _ hH);obtain⟨⟨k,v⟩,hv,e1,_⟩:=AR kv (E5 hi);have hl:kvs.length=vs.length:=GJ kv;obtain⟨f0,f1,f2,f3,f4,f5⟩:=hf it (by simp)
  refine wpAny_pyNext_dict_item (knd:=aJ X.prog X.w) (hl▸st) da hv λkey h' hk st' sb=>?_
  have I1:Inv X pins σ H { s with heap:=h' }:=I.turned (t':=s.toks) (λb o hb e=>(sb.2 b hb).trans e) f0 f1 f3 f4 f5
  exact⟨key,rfl,letGo_keyiter (s':={ s with heap:=h' }) st' ⟨kV k,H,I1,xD hk,⟨rfl,_,E5 hi,by rw[e1]⟩,hl.symm▸st',λb hb=>(hf b hb).1⟩⟩
 done:=by
  intro X hP hw hK hc i pins s σ H E I hf st hg;subst hP hw hK;obtain⟨hH,hi⟩:=hg;obtain⟨vs,kv,da⟩:=s9 ho (I.hok a _ hH);have hl:kvs.length=vs.length:=GJ kv;obtain⟨f0,f1,f2,f3,f4,f5⟩:=hf it (by simp)
  exact wpAny_pyNext_dict_end (knd:=aJ X.prog X.w) (I.ok.hd hc) (hl▸st) da (by simp; lia) λh' eb=>⟨rfl,I.turned (t':=s.toks) (λb o hb e=>eb b o hb e) f0 f1 f3 f4 f5⟩
 self:=λ_ _ _ _ _ st h=>wpAny_pyIter_keyiter st h
end L2
end
section
namespace VL
open PySem PySem.Spec L2 PyProof.Rows
section
variable{X:Cx}{pos:Pos}{pin:List Nat}{tg:Expr}
theorem xE{K:AC}{H:Hp}{Z:Zs}:∀k:Key,Fz K H Z (kV k) (gr k)
 |.inl i=>.int i
 |.inr x=>.str x
end
end VL
end
section
namespace L2
open PySem PySem.Spec PyProof.Rows
end L2
end
section
namespace VL
open PySem PySem.Spec L2 PyProof.Rows
end VL
end
section
namespace L2
open PySem PySem.Spec PyProof.Rows PySem.W
end L2
end
section
namespace VL
open PySem PySem.Spec L2 PyProof.Rows
end VL
end
section
namespace L2
open PySem PySem.Spec PyProof.Rows
section
open PySem.SeqAt
open PySem.AutoSeq1 (wpAny_loadPart')
open PySem.MeetsSeq PySem.MeetsSeq2 PySem.MeetsSeq3
end
end L2
end
section
namespace L2
open PySem PySem.Spec PyProof.Rows VL
end L2
end
section
namespace VL
open PySem PySem.Spec L2 PyProof.Rows
end VL
namespace VL
open PySem PySem.Spec L2 PyProof.Rows
end VL
end
section
namespace L2
open PySem PySem.Spec PyProof.Rows
end L2
namespace VL
open PySem PySem.Spec L2 PyProof.Rows
end VL
end
section
namespace L2
open PySem PySem.Spec PyProof.Rows
section
variable{X:Cx}{pos:Pos}
noncomputable def AS(i j k:Nat)(ta:TA):TS:=λD σ H=>ta σ H λvs H1=>∃v w u,vs=[v,w,u]/\D.nx (((σ.set i (some v)).set j (some w)).set k (some u)) H1
end
end L2
namespace VL
open PySem PySem.Spec L2 PyProof.Rows
end VL
end
section
namespace VL
open PySem PySem.Spec L2 PyProof.Rows
noncomputable def ic:List M->Option M
 |[.v .none]=>some (.v (.str "None"))
 |ms=>xu ms
section
variable{X:Cx}
theorem jr(hu:X.A.units+64<cLine)(hg:X.A.guards=some []):aZ X (.builtin "repr") (lY X.K ic):=by
 intro pins s σ H xs us Q I rs h;obtain⟨Z,ms,m,za,hr,e,q⟩:=h;unfold ic at e
 split at e
 ·cases e
  obtain⟨x,rfl,h1⟩:=eW hr;obtain⟨G,h1⟩:=h1;cases h1 with
  |v f=>
   cases f;cases rs with
   |cons rx rr=>
    cases rr;cases rx;exact PySem.P.repr_of_none ⟨.str _,H,I.kept (t':=s.toks+1) (λ_ _ e=>e),⟨_,rfl⟩,cg q za (.str _)⟩
 ·exact zW hu hg pins s σ H xs us Q I rs ⟨Z,ms,m,za,hr,e,q⟩
end
end VL
end
section
namespace L2
open PySem PySem.Spec PyProof.Rows
end L2
namespace VL
open PySem PySem.Spec L2 PyProof.Rows
end VL
end
section
namespace VL
open PySem PySem.Spec L2 PyProof.Rows
namespace Mn
end Mn
end VL
end
section
namespace L2
open PySem PySem.Spec PyProof.Rows
end L2
namespace VL
open PySem PySem.Spec L2 PyProof.Rows
end VL
end
section
namespace L2
open PySem PySem.Spec PyProof.Rows
end L2
end
section
namespace L2
open PySem PySem.Spec PyProof.Rows
end L2
namespace VL
open PySem PySem.Spec L2 PyProof.Rows
section
variable{X:Cx}{pos:Pos}
theorem AU{K:AC}{H:Hp}{Z:Zs}{x:V}{d:Ap}{A:List Ap}(h:Fz K H Z x d)(e:uN d=some A):∃t a,x=.ref a/\∀H2 Z2,aG H Z H2 Z2->∃xs,SG t K H2 a xs/\bB K H2 Z2 xs A:=by
 cases d with
 |tuple ds=>
  cases e;obtain⟨a,xs,rfl,r,fs⟩:=h.gu;exact⟨true,a,rfl,λH2 Z2 g=>⟨xs,g.tups.sq r,fs.mono g⟩⟩
 |list ds=>
  cases e;obtain⟨a,xs,rfl,r,fs⟩:=h.lst_inv;refine⟨false,a,rfl,λH2 Z2 g=>?_⟩
  obtain⟨a',xs',e,r',fs'⟩:=(h.mono g).lst_inv;cases e;exact⟨xs',r',fs'⟩
 |_=>cases e
theorem CC{t1 t2:Bool}{K:AC}{H:Hp}{Z:Zs}{a b:Addr}{A B:List Ap}(h1:∀H2 Z2,aG H Z H2 Z2->∃xs,SG t1 K H2 a xs/\bB K H2 Z2 xs A)(h2:∀H2 Z2,aG H Z H2 Z2->∃xs,SG t2 K H2 b xs/\bB K H2 Z2 xs B) :
  kZ K (DM t1 t2 K a b) H Z (K6 (λx y=>IC [x,y]) A B):=by
 refine⟨λH2 Z2 g k d hd=>?_,λH2 Z2 g k hk=>?_⟩
 ·rw[KY] at hd
  obtain⟨xs,u1,v1⟩:=h1 H2 Z2 g;obtain⟨ys,u2,v2⟩:=h2 H2 Z2 g;cases ea:A[k]? with
  |none=>rw[ea] at hd; cases hd
  |some da=>
   cases eb:B[k]? with
   |none=>rw[ea,eb] at hd; cases hd
   |some db=>
    rw[ea,eb] at hd;cases hd;obtain⟨x,x1,x2⟩:=v1.get' ea;obtain⟨y,y1,y2⟩:=v2.get' eb;refine⟨⟨xs,ys,x,y,u1,u2,x1,y1⟩,λz H' hz=>?_⟩
    obtain⟨p,x',y',hp,rfl,rfl,zx,zy⟩:=hz;have e:=zx xs u1;rw[x1] at e; cases e;have e:=zy ys u2;rw[y1] at e; cases e;have s:=dB hp (.tup [x,y]);exact⟨s,.tup (dJ.of aF) (.cons (x2.mono (aG.same s)) (.cons (y2.mono (aG.same s)) .nil))⟩
 ·rw[List.length_zipWith] at hk
  obtain⟨xs,u1,v1⟩:=h1 H2 Z2 g;obtain⟨ys,u2,v2⟩:=h2 H2 Z2 g;refine⟨xs,ys,u1,u2,?_⟩;rw[v1.length,v2.length];lia
noncomputable def oS(f g:FE):FI:=λρ=>(f ρ).bind λp=>(cS p.1 p.2).bind λq=>(g q.2).bind λr=>(cS r.1 r.2).bind λs=>(uN q.1).bind λa=>(uN s.1).bind λb=>some (K6 (λx y=>IC [x,y]) a b,s.2)
theorem zZ{a b:Expr}{f g:FE}{p tp:Pos}{es:List Expr}{k:Nat}(hg:Gl X "zip")(hm:X.mg "zip" = none)(ha:WE X a f)(hb:WE X b g)(hs:E6 [a,b] X.env=[(false,eval a X.env),(false,eval b X.env)]:=by rfl)(hs2:E6 [b] X.env=[(false,eval b X.env)]:=by rfl):WI X (.Tuple es k tp) (.Call (.Name "zip" p) [a,b] [] pos) (oS f g) :=
 ⟨k8 (BP hg hm (jd ha.h (jd hb.h nF hs2) (by rw[hs,hs2])) hs hs2) λσ H R hq=>by
 obtain⟨Z,ρ,F,ds,ρ',S,w,e,q⟩:=hq;obtain⟨⟨o1,ρ1⟩,e1,e⟩:=oB e;obtain⟨⟨d1,ρ2⟩,e2,e⟩:=oB e;obtain⟨⟨o2,ρ3⟩,e3,e⟩:=oB e;obtain⟨⟨d2,ρ4⟩,e4,e⟩:=oB e;obtain⟨A,e5,e⟩:=oB e;obtain⟨B,e6,e⟩:=oB e;cases e;refine⟨Z,ρ,F,o1,ρ1,S,w,e1,λx H1 Z1 F1 G1 S1 O1 f1=>?_⟩
 obtain⟨Z2,F2,h1,h2,h3,_⟩:=fD S1 O1 f1 e2;refine⟨Z2,ρ2,F2,o2,ρ3,h1,h3.wf,e3,λy H3 Z3 F3 G3 S3 O3 f3=>?_⟩
 obtain⟨Z4,F4,k1,k2,k3,_⟩:=fD S3 O3 f3 e4;obtain⟨t1,a',rfl,w1⟩:=AU (h2.mono (k3.grow h3.wf)) e5;obtain⟨t2,b',rfl,w2⟩:=AU k2 e6;obtain⟨xs,s1,_⟩:=w1 H3 Z4 aG.refl;obtain⟨ys,s2,_⟩:=w2 H3 Z4 aG.refl;exact⟨t1,t2,a',b',rfl,⟨xs,s1⟩,⟨ys,s2⟩,q _ H3 Z4 F4 k1 (CC w1 w2) (h3.trans k3)⟩⟩
end
end VL
end
section
namespace VL
open PySem PySem.Spec L2 PyProof.Rows
end VL
end
section
namespace L2
open PySem PySem.Spec PyProof.Rows
noncomputable def CD(te:TE):TI:=λσ H R=>te σ H λy H1=>∃a kvs,y=.ref a/\((H1 a=some (.dK kvs)/\∀o,R (Df a o kvs) (upd H1 a (.iH o (.dK kvs))))\/∃o,H1 a=some (.iH o (.dK kvs))/\R (Df a o kvs) H1)
theorem xF{X:Cx}{tg l:Expr}{te:TE}(h:PE X l te):PI X tg l (CD te):=by
 intro pins s σ H R I hq;refine b7 (h pins s σ H _ I hq) λu s1 ⟨y,H1,I1,r1,a,kvs,ey,hc⟩=>?_
 subst ey;have eu:u=.ref a:=r1;subst eu;rcases hc with⟨hH,hR⟩ | ⟨o,hH,hR⟩
 ·obtain⟨hz,hS,vs,kv,d⟩:kvs.length<=E4/\(a == GL)=false/\∃vs,KV kvs vs/\s1.heap.DictOf (aJ X.prog X.w) a vs:=I1.hok a _ hH
  obtain⟨o,es,ep,h1,h2,h3,h4⟩:=id d;have hl:kvs.length=vs.length:=GJ kv;have hlt:a<s1.heap.objs.size:=Da h1;refine wpAny_pyIter_dict (knd:=aJ X.prog X.w) (ep:=ep) hS ⟨o,es,h1,h2,h3,h4⟩ ?_;have I2:Inv X pins σ (upd H1 a (.iH o (.dK kvs))) { s1 with heap:=s1.heap.push { cls:=.type "dict_keyiterator",data:=.fields #[.ref a,.int 0 0,.int vs.length 0,.int ep 0] } }:=by
   refine I1.write (t':=s1.toks) (by rw[hH]; trivial) (.inl rfl) (λb u _ e=>BM _ e) ⟨o,BM _ h1⟩ ⟨BM _ h1,hz,hS,vs,kv,o,es,ep,BM _ h1,h2,h3,h4⟩
  have nn:upd H1 a (.iH o (.dK kvs)) s1.heap.objs.size=none:=by rw[aL (Gw hlt)]; exact I1.fresh
  refine⟨s1.heap.objs.size,[s1.heap.objs.size],_,Df a o kvs,_,rfl,I2,mY a _ o kvs h3,?_,λb hb=>?_,hR o⟩
  ·rw[hl]
   exact⟨_,Dx _ rfl,rfl,rfl⟩
  ·have e:b=s1.heap.objs.size:=by simpa using hb
   subst e;exact I1.tO (Db _) nn
 ·obtain⟨h1,hz,hS,vs,kv,d⟩:s1.heap.get? a=some o/\kvs.length<=E4/\(a == GL)=false/\∃vs,KV kvs vs/\s1.heap.DictOf (aJ X.prog X.w) a vs:=I1.hok a _ hH
  obtain⟨o',es,ep,h1',h2,h3,h4⟩:=id d;rw[h1] at h1';cases h1';have hl:kvs.length=vs.length:=GJ kv;have hlt:a<s1.heap.objs.size:=Da h1;refine wpAny_pyIter_dict (knd:=aJ X.prog X.w) (ep:=ep) hS ⟨o,es,h1,h2,h3,h4⟩ ?_;have I2:Inv X pins σ H1 { s1 with heap:=s1.heap.push { cls:=.type "dict_keyiterator",data:=.fields #[.ref a,.int 0 0,.int vs.length 0,.int ep 0] } }:=I1.kept (t':=s1.toks) λb u e=>BM _ e
  refine⟨s1.heap.objs.size,[s1.heap.objs.size],_,Df a o kvs,_,rfl,I2,mY a _ o kvs h3,?_,λb hb=>?_,hR⟩
  ·rw[hl]
   exact⟨_,Dx _ rfl,rfl,rfl⟩
  ·have e:b=s1.heap.objs.size:=by simpa using hb
   subst e;exact I1.tO (Db _) I1.fresh
end L2
end
section
namespace VL
open PySem PySem.Spec L2 PyProof.Rows
noncomputable def xG(f:FE):FI:=λρ=>(f ρ).bind λp=>match p.1 with
 |.t (.v (.dict ps))=>(fV ps).bind λkvs=>if kvs.isEmpty=true then none else some (kvs.map λq=>gr q.1,p.2)
 |_=>none
section
variable{X:Cx}{pos:Pos}{tg:Expr}
theorem Fz.mZ{K:AC}{H:Hp}{Z:Zs}{x:V}{ps:List (Ap×Ap)}{kvs:List (Key×Ap)}(h:Fz K H Z x (.dict ps))(e:fV ps=some kvs)(ne:kvs≠[]):∃a kxs,x=.ref a/\Rd H a (.dK kxs)/\Z a/\fU K H Z kxs kvs:=by
 cases h with
 |cz ha hz f=>
  rw[gT] at e;cases e;exact⟨_,_,rfl,ha,hz,f⟩
 |@dtp _ _ ds ha _ en f=>
  cases ds with
  |nil=>cases e; exact absurd rfl ne
  |cons p ds=>cases e
theorem tu{K:AC}{H:Hp}{Z:Zs}{a:Addr}{o:Obj}{kxs:List (Key×V)}{kvs:List (Key×Ap)}(e:H a=some (.iH o (.dK kxs)))(z:Z a)(fz:fU K H Z kxs kvs):kZ K (Df a o kxs) H Z (kvs.map λq=>gr q.1):=by
 have at':∀H2 Z2,aG H Z H2 Z2->H2 a=some (.iH o (.dK kxs)):=λH2 Z2 g=>(g.keep a _ z e).iH
 refine⟨λH2 Z2 g k d hd=>?_,λH2 Z2 g k hk=>⟨at' H2 Z2 g,?_⟩⟩
 ·have hl:k<kxs.length:=by
   rw[fz.length];rcases EA.mp hd with⟨h,_⟩
   simpa using h
  refine⟨⟨at' H2 Z2 g,hl⟩,λx H' hx=>?_⟩
  obtain⟨rfl,p,hp,rfl⟩:=hx;refine⟨λ_ _ e=>e,?_⟩
  have hk:(kxs.map (·.1))[k]? = (kvs.map (·.1))[k]? := by rw[fz.keys]
  rw[E9,E9,hp] at hk;rw[E9] at hd;cases hv:kvs[k]? with
  |none=>rw[hv] at hk; simp at hk
  |some v=>
   rw[hv] at hk hd;simp at hk hd;subst hd;rw[hk];exact xE _
 ·rw[At] at hk
  rw[fz.length];exact hk
theorem vi_dk{l:Expr}{f:FE}(h:VE X l f):VI X tg l (xG f):=k8 (xF h) λσ H R hq=>by
 obtain⟨Z,ρ,F,ds,ρ',S,w,e,q⟩:=hq;obtain⟨⟨o1,ρ1⟩,e1,e⟩:=oB e;dsimp only at e
 split at e
 ·next ps=>
  obtain⟨kvs,e2,e⟩:=oB e
  split at e
  ·cases e
  ·next hne=>
   cases e;have hne:kvs≠[]:=λz=>hne (by rw[z]; rfl)
   refine⟨Z,ρ,F,_,_,S,w,e1,λx H1 Z1 F1 G1 S1 O1 f1=>?_⟩
   cases O1 with
   |t ow=>
    cases ow with
    |v fz=>
     obtain⟨a,kxs,rfl,rd,za,fk⟩:=fz.mZ e2 hne;rw[E1] at f1;have na:a∉F1:=λh=>f1.dz a h za
     refine⟨a,kxs,rfl,?_⟩;rcases rd with ha | ⟨o,ha⟩
     ·refine .inl ⟨ha,λo=>?_⟩
      have ne:∀b,b≠a->upd H1 a (.iH o (.dK kxs)) b=H1 b:=λb h=>aL h
      have kp:∀b o2,H1 b=some o2->Kp o2 (upd H1 a (.iH o (.dK kxs)) b):=λb o2 h=>by
       by_cases hb:b=a
       ·subst hb
        rw[ha] at h;cases h;exact .inr ⟨⟨_,rfl⟩,o,aF⟩
       ·rw[ne b hb]; exact .inl h
      have g:aG H1 Z1 (upd H1 a (.iH o (.dK kxs))) Z1:=⟨d7.dk ha,λb o2 _ h=>kp b o2 h,λ_ z=>z⟩
      refine q _ _ Z1 F1 (S1.mono g λb hb o2 e2=>by rw[ne b λw=>na (w▸hb)]; exact e2) (tu aF za (fk.mono g)) (f1.trans ⟨λb o2 n h=>?_,g.tups,g.zs,λb z=>.inl z,λb hb=>.inl hb,f1.nd,f1.dz,λb z=>?_⟩)
      ·by_cases hb:b=a
       ·subst hb; exact .inr ⟨za,kp b o2 h⟩
       ·rw[ne b hb]; exact .inl h
      ·by_cases hb:b=a
       ·subst hb; rw[aF]; exact λz=>nomatch z
       ·rw[ne b hb]; exact f1.za b z
     ·exact .inr ⟨o,ha,q _ H1 Z1 F1 S1 (tu ha za fk) f1⟩
 ·cases e
theorem wi_dk{l:Expr}{f:FE}(h:WE X l f):WI X tg l (xG f):=⟨vi_dk h.h⟩
end
end VL
end
section
namespace L2
open PySem PySem.Spec PyProof.Rows AutoSeq1
section
variable{X:Cx}
def rTR2:List V->Hp->VK->Prop:=λvs H1 Q=>∃ (a:Int) (j:Nat),vs=[.int a,.int (a+j)]/\-1000000<=a/\a<=1000000/\j<=1000000/\∀l,H1 l=none->Q (.ref l) (upd H1 l (.tup ((Ch j).map λ(n:Nat)=>V.int (a+(n:Int)))))
noncomputable def tTR2(ta:TA):TE:=λσ H Q=>ta σ H λvs H1=>rTR2 vs H1 Q
theorem rG{a b:Expr}{ta:TA}{p1 p2 pos pos2:Pos}(hc:X.calm=true)(hg:Gl X "tuple")(hm:X.mg "tuple" = none)(hg2:Gl X "range")(hm2:X.mg "range" = none)(ha:PA X [a,b] ta)(hs:E6 [a,b] X.env=[(false,eval a X.env),(false,eval b X.env)]:=by rfl)(hs2:E6 [b] X.env=[(false,eval b X.env)]:=by rfl)
  (hs3:E6 [.Call (.Name "range" p2) [a,b] [] pos2] X.env=[(false,eval (.Call (.Name "range" p2) [a,b] [] pos2) X.env)]:=by rfl) :
  PE X (.Call (.Name "tuple" p1) [.Call (.Name "range" p2) [a,b] [] pos2] [] pos) (tTR2 ta):=by
 intro pins s σ H Q I h;refine Fg (eO I hg hm J5 ?_);refine ET ?_ (by rw[hs3]; rfl) rfl
 rw[hs3];show wpAny _ _ (Ky ((false,eval (.Call (.Name "range" p2) [a,b] [] pos2) X.env)::[])) _ _ s;refine Hf ?_;refine Fg (eO I hg2 hm2 Hx ?_);refine ET (b7 (ha pos2 pins s σ H _ I h) λus s1 ⟨vs,H1,I1,r1,q1⟩=>?_) (by rw[hs,hs2]) (by rw[hs2]; rfl)
 obtain⟨i,j,e,hi,hi',hj,q⟩:=q1;subst e;cases r1 with
 |cons r rr=>
  cases rr with
  |cons r' rr=>
  cases rr;obtain⟨t,rfl⟩:=r;obtain⟨t',rfl⟩:=r';refine call_range_2 (Ht ?_);have k1:∀b o,s1.heap.get? b=some o->(s1.heap.push { cls:=.type "range",data:=.fields #[.int i t,.int (i+j) t',.int 1 s1.toks] }).get? b=some o:=λb o e=>BM _ e
  generalize eg:s1.heap.push { cls:=.type "range",data:=.fields #[.int i t,.int (i+j) t',.int 1 s1.toks] }=g at k1;have gsz:g.objs.size=s1.heap.objs.size+1:=by rw[<-eg]; exact FP ..
  have hr:K4 g s1.heap.objs.size i (i+j) 1 t t' s1.toks:=by rw[<-eg]; exact Jx ..
  refine fY (s:={ s1 with heap:=g,toks:=s1.toks+1 }) (n:=j) (I1.ok.hd hc) hr (small_one (by lia) (by lia) (by lia) (by lia)) (by rw[Kg]; split <;> lia) hj λh' tk acc hk hacc=>?_
  have hle:s1.heap.objs.size<=h'.objs.size:=FZ (Da (hk _ _ hr));refine⟨.ref h'.objs.size,_,I1.laid (a:=h'.objs.size) (o:=.tup ((Ch j).map λ(n:Nat)=>V.int (i+(n:Int)))) (t':=tk) (λb o e=>BM _ (hk b o (k1 b o e))) hle ?_,rfl,q _ (I1.hok.fresh hle)⟩
  have hv:Vals ((Ch j).map λ(n:Nat)=>V.int (i+(n:Int))) acc.toList:=by
   have hl:acc.toList.length=j:=by rw[EN]; exact hacc.1
   refine gB (by rw[At,FB,hl]) λn x y hx hy=>?_
   rw[E9] at hx;have hn:n<j:=by
    by_cases hn:n<j
    ·exact hn
    ·rw[Fj (by simpa using hn)] at hx; cases hx
   rw[GY hn] at hx;cases hx;obtain⟨t',e⟩:=hacc.2 n y (by simpa using hy)
   exact⟨t',by rw[e]; simp⟩
  exact⟨by rw[At,FB]; exact FH hj (by decide),acc.toList,hv,⟨_,Dx _ rfl,rfl,0,by simp⟩⟩
end
end L2
end
section
namespace VL
open PySem PySem.Spec L2 PyProof.Rows
section
variable{X:Cx}{pos:Pos}
noncomputable def uy:List M->Option M
 |[.v (.int a),.v (.int b)]=>if -1000000<=a/\a<=1000000/\a<=b/\b<=1000000+a then some (.v (.tuple ((Ch (b-a).toNat).map λ(n:Nat)=>.int (a+(n:Int))))) else none
 |_=>none
theorem qp{K:AC}{H:Hp}{Z:Zs}(a:Int):∀(ns:List Nat),bB K H Z (ns.map λ(k:Nat)=>V.int (a+(k:Int))) (ns.map λ(k:Nat)=>EC (a+(k:Int)))
 |[]=>.nil
 |n::ns=>.cons (.int _) (qp a ns)
theorem CF{K:AC}:Dq K rTR2 uy:=λH Z xs ms m Q za hr e q=>by
 unfold uy at e
 split at e
 ·rename_i a b
  split at e
  ·next hj=>
   cases e;obtain⟨x,y,rfl,h1,h2⟩:=wu hr;obtain rfl:=h1.int;obtain rfl:=h2.int;exact⟨a,(b-a).toNat,by rw[Kw (by lia),show a+(b-a)=b by lia],by lia,by lia,by lia,λl hl=>endT q za hl (qp a _)⟩
  ·cases e
 ·cases e
theorem rH{a b:Expr}{fa:FA}{p1 p2 pos2:Pos}(hc:X.calm=true)(hg:Gl X "tuple")(hm:X.mg "tuple" = none)(hg2:Gl X "range")(hm2:X.mg "range" = none)(ha:WA X [a,b] fa)(hs:E6 [a,b] X.env=[(false,eval a X.env),(false,eval b X.env)]:=by rfl)(hs2:E6 [b] X.env=[(false,eval b X.env)]:=by rfl)
  (hs3:E6 [.Call (.Name "range" p2) [a,b] [] pos2] X.env=[(false,eval (.Call (.Name "range" p2) [a,b] [] pos2) X.env)]:=by rfl) :
  WE X (.Call (.Name "tuple" p1) [.Call (.Name "range" p2) [a,b] [] pos2] [] pos) (bF uy fa):=⟨bR (rG hc hg hm hg2 hm2 ha.h hs hs2 hs3) λ_ _ _ hq=>many CF hq⟩
end
end VL
end
section
namespace L2
open PySem PySem.Spec PyProof.Rows PySem.W
section
variable{X:Cx}
theorem uz:aZ X (.builtin "len") (λxs H Q=>∃a kvs,xs=[V.ref a]/\Rd H a (.dK kvs)/\Q (.int kvs.length) H):=by
 intro pins s σ H xs us Q I r h;obtain⟨a,kvs,rfl,ha,q⟩:=h;obtain⟨u,rfl,ru⟩:=vals1 r;cases ru;exact Ay I ha λt s' I'=>⟨.int kvs.length,H,I',⟨t,rfl⟩,q⟩
theorem rJ:aZ X (.builtin "len") (λxs H Q=>∃a,xs=[V.ref a]/\H a=some (.dT [])/\Q (.int 0) H):=by
 intro pins s σ H xs us Q I r h;obtain⟨a,rfl,ha,q⟩:=h;obtain⟨u,rfl,ru⟩:=vals1 r;cases ru;obtain⟨_,hS,xs,pr,o,es,ep,h1,h2,h3,h4,_⟩:=(show cy X.prog X.w H s.heap a (.dT []) from I.hok a _ ha)
 cases pr;have he:es = #[]:=by
  have:es.toList=[]:=h4;simpa using this
 subst he;refine call_len_dict (knd:=aJ X.prog X.w) (kvs:=[]) hS ⟨o,#[],ep,h1,h2,h3,?_,.nil,EX⟩ (by decide) ?_
 ·intro e he
  simp at he
 ·exact⟨.int 0,H,I.tok _,⟨_,rfl⟩,q⟩
theorem rK(hc:X.calm=true):aZ X (.type "list") (λxs H Q=>∃a kvs,xs=[V.ref a]/\Rd H a (.dK kvs)/\∀l,H l=none->Q (.ref l) (upd H l (.lst (kvs.map λp=>kV p.1)))):=by
 intro pins s σ H xs us Q I r h;obtain⟨a,kvs,rfl,ha,q⟩:=h;obtain⟨u,rfl,ru⟩:=vals1 r;cases ru;obtain⟨hz,hS,vs,kv,d⟩:=kD I.hok ha;obtain⟨o,es,ep,h1,h2,h3,h4⟩:=id d;have hl:kvs.length=vs.length:=GJ kv;refine kdl_call (kdl_dict (knd:=aJ X.prog X.w) (kvs:=vs) (ep:=ep) hS) (I.ok.hd hc) ⟨o,es,h1,h2,h3,h4⟩ (by lia) λh' tk acc c' hk hS' hacc=>?_
 refine⟨.ref s.heap.objs.size,_,I.laid (t':=tk) hk (Db _) (show cy X.prog X.w _ h' _ (.lst (kvs.map λp=>kV p.1)) from⟨by rw[At]; exact hz,acc.toList,c',?_,by rw[show acc.toList.toArray=acc by simp]; exact hS'⟩),rfl,q _ (I.hok.fresh (Db _))⟩
 have hal:acc.toList.length=kvs.length:=by rw[EN,hl]; exact hacc.1
 refine gB (by rw[At,hal]) λn x y hx hy=>?_
 rw[E9] at hx;cases hv:kvs[n]? with
 |none=>rw[hv] at hx; cases hx
 |some p=>
  rw[hv] at hx;cases hx;obtain⟨k,z,e1,e2⟩:=hacc.2 n y (by simpa using hy)
  obtain⟨⟨k',z'⟩,e3,e4,_⟩:=AR kv hv;rw[e1] at e3;cases e3;have:p.1=k:=e4;show RelV (kV p.1) y;rw[this];exact xD e2
end
end L2
end
section
namespace VL
open PySem PySem.Spec L2 PyProof.Rows
section
variable{X:Cx}{pos:Pos}
noncomputable def lC:List M->Option M
 |[.v (.dict ps)]=>(fV ps).bind λkvs=>some (.v (.int kvs.length))
 |ms=>bT ms
theorem jt:aZ X (.builtin "len") (lY X.K lC):=by
 intro pins s σ H xs us Q I rs h;obtain⟨Z,ms,m,za,hr,e,q⟩:=h;unfold lC at e
 split at e
 ·rename_i ps
  obtain⟨kvs,e2,e⟩:=oB e;cases e;obtain⟨x,rfl,h1⟩:=eW hr;have fz:=h1.fz;cases fz with
  |cz ha _ f=>
   rw[gT] at e2;cases e2;exact uz pins s σ H _ us Q I rs ⟨_,_,rfl,ha,by rw[f.length]; exact cg q za (.int _)⟩
  |@dtp _ kxs ds ha _ en f=>
   cases ds with
   |nil=>
    cases e2;have:kxs=[]:=by simpa using en
    subst this;exact rJ pins s σ H _ us Q I rs ⟨_,rfl,ha,cg q za (.int _)⟩
   |cons p ds=>cases e2
 ·exact ck pins s σ H xs us Q I rs ⟨Z,ms,m,za,hr,e,q⟩
noncomputable def lstD:List M->Option M
 |[.v (.dict ps)]=>(fV ps).bind λkvs=>if kvs.isEmpty=true then none else some (.lst (kvs.map λq=>gr q.1))
 |ms=>jg ms
theorem qq{K:AC}{H:Hp}{Z:Zs}:∀{kxs:List (Key×V)}{kvs:List (Key×Ap)},fU K H Z kxs kvs->bB K H Z (kxs.map λp=>kV p.1) (kvs.map λp=>gr p.1)
 |_,_,.nil=>.nil
 |_,_,.cons _ r=>.cons (xE _) (qq r)
theorem xH(hc:X.calm=true):aZ X (.type "list") (lY X.K lstD):=by
 intro pins s σ H xs us Q I rs h;obtain⟨Z,ms,m,za,hr,e,q⟩:=h;unfold lstD at e
 split at e
 ·rename_i ps
  obtain⟨kvs,e2,e⟩:=oB e
  split at e
  ·cases e
  ·next hne=>
   cases e;obtain⟨x,rfl,h1⟩:=eW hr;obtain⟨a,kxs,rfl,rd,_,fk⟩:=h1.fz.mZ e2 λz=>hne (by rw[z]; rfl)
   exact rK hc pins s σ H _ us Q I rs ⟨a,kxs,rfl,rd,λl hl=>p6 q za hl (qq fk)⟩
 ·exact sM pins s σ H xs us Q I rs ⟨Z,ms,m,za,hr,e,q⟩
end
end VL
end
section
namespace L2
open PySem PySem.Spec PyProof.Rows PySem.MeetsSeq PySem.SeqAt
theorem oU(l:Addr)(items:Array Value)(n:Nat)(x:Value)(e:Value->Bool)(j:Nat)(hj:j<items.size)(hit:e items[j]=true)(k:Nat)(hs1:items.size<=E4) :
  ∀i:Nat,j-i=k->i<=j->(∀m(hm:m<items.size),i<=m->m<j->e items[m]=false)->Meets (Gs.«list.remove.loop» ⟨[.ref l,x,Ir i],[]⟩)
   (λA R s=>(∀y,y∈items->EqAt A.in1 s y x (e y))/\s.heap.get? l=some { cls:=.type "list",dict:=none,data:=.seq items n,slots:=#[] }/\R (.ok (.ret .none)) { s with heap:=s.heap.update l (Ew λxs=>xs.eraseIdxIfInBounds j) }):=by
 induction k with
 |zero=>
  intro i hk hij hno prog w A R s h;obtain⟨hp,g,d,tk,os⟩:=s; obtain⟨he,hl,h⟩:=h;have hij':i=j:=by lia
  subst hij'
  wp_walk using FV hl
  have hi:items[((i:Nat):Int).toNat]? = some items[i]:=by simp[hj]
  rw[hi];refine AT (he _ (Iv hj) prog w _ _ ?_);rw[hit];have hz':(items.eraseIdxIfInBounds i).size<=E4+1:=FH (size_erased items _) (Nat.le_succ_of_le hs1)
  wp_walk using (wpAny_updateSeq hl rfl (hz:=hs1) (_hz':=hz')),FV hl
  simpa using h
 |succ k ih=>
  intro i hk hij hno prog w A R s h;obtain⟨hp,g,d,tk,os⟩:=s; obtain⟨he,hl,h⟩:=h;have hlt:i<items.size:=by lia
  wp_walk using FV hl
  have hi:items[((i:Nat):Int).toNat]? = some items[i]:=by simp[hlt]
  have hc:((i:Int)+1)=((i+1:Nat):Int):=by push_cast; rfl
  rw[hi];refine AT (he _ (Iv hlt) prog w _ _ ?_);rw[hno i hlt (Db _) (by lia)]
  wp_walk
  rw[hc];exact⟨Ha IJ _,G9 entry_remove_loop (by
   rw[Fo IJ _];exact ih (i+1) (by lia) (by lia) (λm hm h1 h2=>hno m hm (by lia) h2) prog w A R _ ⟨he,hl,h⟩)⟩
theorem oV(l:Addr)(items:Array Value)(n:Nat)(x:Value)(e:Value->Bool)(j:Nat)(hj:j<items.size)
  (hit:e items[j]=true) (hno:∀m(hm:m<items.size),m<j->e items[m]=false) (hs1:items.size<=E4) :
  Meets (Gs.«list.remove» ⟨[.ref l,x],[]⟩)
   (λA R s=>(∀y,y∈items->EqAt A.in1 s y x (e y))/\s.heap.get? l=some { cls:=.type "list",dict:=none,data:=.seq items n,slots:=#[] }/\R (.ok (.ret .none)) { s with heap:=s.heap.update l (Ew λxs=>xs.eraseIdxIfInBounds j) }):=by
 intro prog w A R s h;obtain⟨hp,g,d,tk,os⟩:=s; obtain⟨he,hl,h⟩:=h
 wp_walk using FV hl
 exact⟨Ha IJ _,G9 entry_remove_loop (by
  rw[Fo IJ _];exact oU l items n x e j hj hit _ hs1 0 rfl (EY _) (λm hm _ h2=>hno m hm h2) prog w A R _ ⟨he,hl,h⟩)⟩
end L2
end
section
namespace L2
open PySem PySem.Spec PyProof.Rows
section
variable{X:Cx}{pos:Pos}
theorem xJ{i j k:Nat}{x y z:Str}{a b c:Expr}{ta:TA}{px py pz pt:Pos}{kt k2 pt2}(hc:X.calm=true)(hN:X.N.Nodup)(hi:X.N[i]? = some x)(hj:X.N[j]? = some y)(hk:X.N[k]? = some z)
  (hx:Loc X.env.scope x) (hy:Loc X.env.scope y) (hz:Loc X.env.scope z) (ha:PA X [a,b,c] ta)
  (hw:HZ [.Tuple [.Name x px,.Name y py,.Name z pz] kt pt] (.Tuple [a,b,c] k2 pt2) X.env=pure none)
  (hs:HY [.Tuple [.Name x px,.Name y py,.Name z pz] kt pt] (.Tuple [a,b,c] k2 pt2) pos.line X.env=pure false:=by rfl)
  (hfx:X.fn x=true\/X.env.scope.names.lookup x=some .local:=by first | exact .inl rfl | exact .inr rfl | assumption) (hfy:X.fn y=true\/X.env.scope.names.lookup y=some .local:=by first | exact .inl rfl | exact .inr rfl | assumption) (hfz:X.fn z=true\/X.env.scope.names.lookup z=some .local:=by first | exact .inl rfl | exact .inr rfl | assumption)
  (h1:(Fa [.Tuple [.Name x px,.Name y py,.Name z pz] kt pt] X.env).map (·.2)=[HD (.Tuple [.Name x px,.Name y py,.Name z pz] kt pt) X.env]:=by rfl)
  (h2:(Fa [.Name x px,.Name y py,.Name z pz] X.env).map (·.2)=[HD (.Name x px) X.env,HD (.Name y py) X.env,HD (.Name z pz) X.env]:=by rfl)
  (hn:(Fa [.Name x px,.Name y py,.Name z pz] X.env).length=3:=by rfl) (hst:(Fa [.Name x px,.Name y py,.Name z pz] X.env).findIdx? (·.1)=none:=by rfl) :
  PS X (.Assign [.Tuple [.Name x px,.Name y py,.Name z pz] kt pt] (.Tuple [a,b,c] k2 pt2) pos) (AS i j k ta):=by
 intro pins s σ H D I h;refine J2 (Tuple_ (b7 (ha _ pins s σ H _ I h) λus s1 ⟨vs,H1,I1,r1,q1⟩=>?_)) hs hw
 obtain⟨v,w,u,e1,q1⟩:=q1;subst e1;obtain⟨u1,u2,u3,rfl,rv,rw',ru⟩:∃u1 u2 u3,us=[u1,u2,u3]/\RelV v u1/\RelV w u2/\RelV u u3:=by
  cases r1 with
  |cons p q=>
   cases q with
   |cons p' q' =>
    cases q' with
    |cons p2 q2=>
     cases q2;exact⟨_,_,_,rfl,p,p',p2⟩
 refine Ex ?_ (by show 3<=E4; decide)
 have I2:Inv X pins σ H1 { s1 with heap:=s1.heap.push { cls:=.type "tuple",data:=.seq [u1,u2,u3].toArray } }:=I1.kept (t':=s1.toks) λb o e=>BM _ e
 rw[h1];refine JF (I.ok.hd hc) (LB s1.heap _) (by simp[hn]) hst λh' hx' =>?_
 have I3:=I2.kept (h':=h') (t':=s1.toks) λb o e=>hx' b o (ED (Da e)) e
 rw[h2];refine GF (GW (dm I3 hN hi hx rv (λs2 I4=>?_) hfx))
 refine GF (GW (dm I4 hN hj hy rw' (λs3 I5=>?_) hfy))
 refine GF (GW (dm I5 hN hk hz ru (λs4 I6=>IL ?_) hfz))
 exact⟨_,H1,I6,q1⟩
end
end L2
namespace VL
open PySem PySem.Spec L2 PyProof.Rows
noncomputable def rL:List Ap->Ap->Option Nat
 |[],_=>none
 |d::ds,e=>if ES d e=true then some 0 else (rL ds e).map (· + 1)
theorem m7:∀{ds:List Ap}{e:Ap}{j:Nat},rL ds e=some j->(∃d,ds[j]? = some d/\ES d e=true)/\∀(i:Nat)(d:Ap),i<j->ds[i]? = some d->ES d e=false
 |[],_,_,q=>by cases q
 |d::ds,e,j,q=>by
  unfold rL at q
  split at q
  ·next h=>cases q; exact⟨⟨d,rfl,h⟩,λi _ hi=>by lia⟩
  ·next h=>
   obtain⟨k,hk,rfl⟩:=Ff.mp q;obtain⟨h1,h2⟩:=m7 hk;refine⟨by simpa using h1,λi d' hi hd=>?_⟩
   cases i with
   |zero=>simp at hd; rw[<-hd]; simpa using h
   |succ i=>exact h2 i d' (by lia) (by simpa using hd)
theorem iF:∀{h:Heap}{vs:List Value}{ds:List Ap}{as:List Addr}{i:Nat}{d:Ap},KM h vs ds as->ds[i]? = some d->∃v bs,vs[i]? = some v/\Reads h v d bs
 |_,_,_,_,i,d,.nil,e=>by simp at e
 |_,_,_,_,0,d,.cons r q,e=>by
  cases e;exact⟨_,_,rfl,r⟩
 |_,_,_,_,i+1,d,.cons r q,e=>by
  obtain⟨v,bs,h1,h2⟩:=iF (i:=i) q (by simpa using e)
  exact⟨v,bs,by simpa using h1,h2⟩
theorem ju:∀{ds:List Ap}{i:Nat}{d:Ap},EI ds=true->ds[i]? = some d->d.canLay0=true
 |[],i,d,_,e=>by simp at e
 |x::ds,i,d,c,e=>by
  have c:x.canLay0=true/\EI ds=true:=by simpa[EI] using c
  cases i with
  |zero=>simp at e; rw[<-e]; exact c.1
  |succ i=>exact ju c.2 (by simpa using e)
section
variable{X:Cx}{pos:Pos}{pin:List Nat}
def xK(K:AC):V->List V->Hp->VK->Prop:=λx vs H Q=>∃Z l xs y ds e j,x=.ref l/\vs=[y]/\H l=some (.lst xs)/\bB K H Z xs ds/\Fz K H Z y e/\okIn ds e=true/\rL ds e=some j/\Q .non (upd H l (.lst (xs.eraseIdx j)))
theorem rN(hu:X.A.units+64<cLine):DB X "list.remove" (xK X.K):=by
 intro pins s σ H x vs v us Q I rx rv h;obtain⟨Z,l,xs,y,ds,e,j,rfl,rfl,hH,fs,fy,ok,hj,q⟩:=h;cases rx;obtain⟨u,rfl,ru⟩:=rv.one;unfold okIn at ok;simp only[EV,decide_eq_true_eq] at ok;obtain⟨z,its,nn,r,hl,eo⟩:=I.jg hH;obtain⟨as,ra⟩:=fs.reads I ok.1.1 r;obtain⟨bs,re⟩:=fy.reads I ok.1.2 ru;obtain⟨⟨d0,h1,h1'⟩,h2⟩:=m7 hj;obtain⟨v0,_,g1,g2⟩:=iF ra h1;have hjl:j<its.length:=(EA.mp g1).1;have hdl:ds.length=its.length:=by rw[<-fs.length,hl]
 refine JC KP ⟨_,eo,rfl⟩ F.entry_list_remove (F.args_list_remove_2 _ _)
  (oV l its.toArray nn u (vV s.heap e) j (by rw[Bz]; exact hjl) ?_ (λm hm hmj=>?_) (by rw[Bz]; lia)) ⟨λw hw=>?_,eo,?_⟩
 ·have:its.toArray[j]'(by rw[Bz]; exact hjl)=v0:=by
   have:=E5 hjl;rw[g1] at this;simpa using (EQ this).symm
  rw[this,kL g2 (ju ok.1.1 h1)];exact h1'
 ·have hm':m<its.length:=by rw[Bz] at hm; exact hm
  have hmd:m<ds.length:=by lia
  obtain⟨v1,_,k1,k2⟩:=iF ra (E5 hmd);have:its.toArray[m]'hm=v1:=by
   have:=E5 hm';rw[k1] at this;simpa using (EQ this).symm
  rw[this,kL k2 (ju ok.1.1 (E5 hmd))];exact h2 m _ hmj (E5 hmd)
 ·obtain⟨i,hi,e'⟩:=Array.getElem_of_mem hw
  have hi':i<its.length:=by rw[Bz] at hi; exact hi
  have hid:i<ds.length:=by lia
  obtain⟨v1,cs,k1,k2⟩:=iF ra (E5 hid);have hwv:w=v1:=by
   have:=E5 hi';rw[k1] at this;rw[<-e'];simpa using (EQ this).symm
  rw[hwv,kL k2 (ju ok.1.1 (E5 hid))];refine L3 _ e _ s v1 u cs bs k2 re (ju ok.1.1 (E5 hid)) ok.1.2 ?_;show X.A.units+1+_<_;have:=ok.2;lia
 ·refine⟨.non,_,I.lset (its':=its.eraseIdx j) hH eo ?_ (r.eraseIdx j) ?_,rfl,q⟩
  ·show its.toArray.eraseIdxIfInBounds j=(its.eraseIdx j).toArray
   rw[List.eraseIdxIfInBounds_toArray]
  ·have:=mF xs j
   lia
noncomputable def m8(i:Nat)(fa:FA):FE:=λρ=>(cE ρ i).bind λm0=>match m0 with
 |.lst _=>(fa ρ).bind λp=>match p.1 with
  |[.t (.v e)]=>(cE p.2 i).bind λm=>match m with
   |.lst ds=>if okIn ds e=true then (rL ds e).bind λn=>some (.t (.v .none),p.2.set i (some (.lst (ds.eraseIdx n)))) else none
   |_=>none
  |_=>none
 |_=>none
theorem xM{i:Nat}{fa:FA}{σ:L2.St}{H:Hp}{Q:VK}(hq:vE X.K (m8 i fa) σ H Q):uL X.K "list" (xK X.K) (dZ i) (vA X.K fa) σ H Q:=by
 obtain⟨Z,ρ,F,o,ρ',S,w,e,q⟩:=hq;obtain⟨m0,e0,e⟩:=oB e
 split at e
 ·rename_i ds0
  obtain⟨x,G,h1,h2,_⟩:=S.get (aH.mp e0);obtain⟨a,xs0,rfl,ha,_⟩:=(show Ro X.K H Z x (.lst ds0) from⟨G,h2⟩).lst
  refine⟨.ref a,h1,.inl ⟨rfl,_,fL.of ha⟩,?_⟩;obtain⟨⟨os,ρ1⟩,e1,e⟩:=oB e;refine⟨Z,ρ,F,os,ρ1,S,w,e1,λxs H1 Z1 F1 G1 S1 O1 f1=>?_⟩
  dsimp only at e
  split at e
  ·rename_i de
   obtain⟨m,e3,e⟩:=oB e
   split at e
   ·rename_i ds
    split at e
    ·next hok=>
     obtain⟨n,e5,e⟩:=oB e;cases e;cases O1 with
     |cons p1 r1=>
      cases r1;rw[E1] at f1;cases p1 with
      |t ow=>
      cases ow with
      |v fz=>
       have f2:=f1.sub (bD f1.nd).1 λb hb=>lL _ hb
       obtain⟨x',G',k1,k2,k3⟩:=uu S1 f2 e3;rw[h1] at k1; cases k1;cases k2 with
       |lst hb fb=>
        obtain⟨g,_,k4⟩:=k3 a (.lst (_)) lS;obtain⟨F3,S3,f3⟩:=k4 (.lst (ds.eraseIdx n)) [a] (λ_ h=>h) (EG.mpr ⟨EE,EX⟩) (.lst aF ((fb.erase n).mono g))
        exact⟨Z1,a,_,_,ds,de,n,rfl,rfl,hb,fb,fz,hok,e5,q .non _ Z1 F3 [] S3 (.t (.v .non)) f3.nil⟩
    ·cases e
   ·cases e
  ·cases e
 ·cases e
theorem Aa(i:Nat){e:Expr}{es:List Expr}{fa:FA}{x:Str}{p1 p2:Pos}(ha:WA X (e::es) fa)(hpe:∀(to:TE)(t:TA),PE X (.Name x p1) to->PA X (e::es) t->PE X (.Call (.Attribute (.Name x p1) "remove" p2) (e::es) [] pos) (uL X.K "list" (xK X.K) to t))(hv:PE X (.Name x p1) (dZ i)):WE X (.Call (.Attribute (.Name x p1) "remove" p2) (e::es) [] pos) (m8 i fa):=⟨bR (hpe _ _ hv ha.h) λ_ _ _ hq=>xM hq⟩
noncomputable def rO(i j k:Nat)(fa:FA):FS:=λρ=>(fa ρ).bind λp=>match p.1 with
 |[.t (.v a),.t (.v b),.t c]=>(eX i (.v a) p.2).bind λρ1=>(eX j (.v b) ρ1).bind λρ2=>(eX k c ρ2).bind λρ3=>some (.nx ρ3)
 |_=>none
theorem xN{i j k:Nat}{a b c:Expr}{fa:FA}{x y z:Str}{px py pz pt:Pos}{kt k2 pt2}(hpi:i∉pin)(hpj:j∉pin)(hpk:k∉pin)(ha:WA X [a,b,c] fa)(hps:∀t:TA,PA X [a,b,c] t->PS X (.Assign [.Tuple [.Name x px,.Name y py,.Name z pz] kt pt] (.Tuple [a,b,c] k2 pt2) pos) (AS i j k t)):WS X pin (.Assign [.Tuple [.Name x px,.Name y py,.Name z pz] kt pt] (.Tuple [a,b,c] k2 pt2) pos) (rO i j k fa):=⟨λpv hp=>gy (hps _ ha.h) λD σ H hq=>by
 obtain⟨Z,ρ,F,o,S,w,P,e,q⟩:=hq;obtain⟨⟨os,ρ1⟩,e1,e⟩:=oB e;dsimp only at e
 split at e
 ·rename_i d1 d2 d3
  obtain⟨ρ2,e2,e⟩:=oB e;obtain⟨ρ3,e3,e⟩:=oB e;obtain⟨ρ4,e4,e⟩:=oB e;cases e;refine⟨Z,ρ,F,_,ρ1,S,w,e1,λxs H1 Z1 F1 G1 S1 O1 f1=>?_⟩
  cases O1 with
  |cons p1 r1=>
  cases p1 with
  |t o1=>
  cases o1 with
  |v z1=>
  cases r1 with
  |cons p2 r2=>
  cases p2 with
  |t o2=>
  cases o2 with
  |v z2=>
  cases r2 with
  |cons p3 r3=>
  cases p3 with
  |t o3=>
  cases r3
  rename_i G3
  have f1:aN H Z F H1 Z1 (F1++G3):=by simpa using f1
  have f2:=f1.left;obtain⟨n1,n2,n3⟩:=bD f1.nd;obtain⟨F2,k1,k2,k3⟩:=S1.eX (.v z1) f2.nil.nd e2;obtain⟨F3,l1,l2,l3⟩:=k1.eX (.v z2) (by rw[E1]; exact k2) e3
  have hs:∀c∈F3,c∈F1:=λc hc=>by simpa using k3 c (by simpa using l3 c hc)
  obtain⟨F4,m1,m2,m3⟩:=l1.eX o3 (aS l2 n2 λc hc=>n3 c (hs c hc)) e4
  exact⟨_,_,_,rfl,q _ H1 Z1 F4 m1 (f1.sub m2 λc hc=>(lM (m3 c hc)).elim (λh=>lL _ (hs c h)) λh=>lR _ h) (((P.set hp hpi).set hp hpj).set hp hpk)⟩
 ·cases e⟩
end
end VL
end
section
open PySem L2 VL
end
section
open PySem L2 VL
noncomputable def FF.gF:FS:=(aI (oA (aa 0) (b3 2 (aB (ao 1) (aB (ao 2) b9))))
 (aI (bz 3 (CZ true 1 [] (dc (aa 1)) (ao 0) dI (aa 0) (di fC)))
 (aI (jH (dc (aa 2)) (b3 2 (aB (ao 4) (aB (ao 5) b9))) (aI (c9 (ly 3 (fE 4) (fE 5)))
 (c9 (ly 3 (fE 5) (fE 4)))))
 (b8 (CZ false 1 [3] (dc (aa 1)) (ao 0) dI (aa 0) (bF d8 (af (bF c7 (af (cZ (aa 1) (aa 0)))))))))))
noncomputable def FF.e9:FF:=eF [true] 6 FF.gF
end
section
open PySem L2 VL
noncomputable def FF.cu:FS:=(aI (bz 2 (vC (.int 0)))
 (aI (cI (aW (vB AH (aa 1) (bF bT (af (aa 0))))) (bz 2 (cZ (aa 0) (aa 1))) bI)
 (aI (bz 3 (vB mulM (vB jF (aa 2) (vB lB (vB lB (vB lB (vB jm (vC (.int 10)) (vC (.int 60))) (vB jm (vC (.int 10)) (vC (.int 60)))) (vB jm (vC (.int 10)) (vC (.int 60)))) (vB jm (vC (.int 10)) (vC (.int 60))))) (bF mT (af (vB DC (aa 2) (vB jm (vC (.int 10)) (vC (.int 18))))))))
 (b8 (di (ah (aa 3) (ah (vB jF (vB bZ (vB bZ (vB jF (aa 2) (vC (.int 2305843009213693951))) (vB mulM (vC (.int 7919)) (aa 1))) (vC (.int 3))) (vC (.int 2305843009213693951))) (af (vC (.int 0))))))))))
noncomputable def FF.b4:FF:=eF [true,true] 4 FF.cu
noncomputable def FF.cX:FS:=(aI (cI (aW (vB DP (cZ (aa 0) (vC (.int 0))) (vC (.int 0)))) (aI (bz 2 (vB jF (cZ (aa 0) (vC (.int 0))) (aa 1)))
 (aI (uv 0 (vC (.int 0)) (vB p8 (cZ (aa 0) (vC (.int 0))) (aa 1)))
 (b8 (aa 2)))) bI)
 (aI (uv 0 (vC (.int 2)) (vB bZ (cZ (aa 0) (vC (.int 2))) (vC (.int 1))))
 (aI (bz 3 (vB jF (vB mulM (vB bZ (vB bZ (cZ (aa 0) (vC (.int 1))) (vB mulM (vB mulM (vC (.int 65537)) (cZ (aa 0) (vC (.int 2)))) (cZ (aa 0) (vC (.int 2))))) (vC (.int 11))) (vC (.int 48271))) (vC (.int 2305843009213693921))))
 (aI (bz 3 (vB jF (vB mulM (aa 3) (vB bZ (vB jF (aa 3) (vC (.int 1000003))) (vB mulM (vC (.int 99991)) (cZ (aa 0) (vC (.int 2)))))) (vC (.int 2305843009213693907))))
 (b8 (vB jF (vB bZ (vB p8 (aa 3) (vC (.int 97))) (vB p8 (aa 3) (vC (.int 1000033)))) (aa 1)))))))
noncomputable def FF.az:FF:=eF [true,true] 4 FF.cX
noncomputable def FF.d9:FS:=(b8 (cZ (aa 1) (cC FF.az (ah (aa 0) (af (bF bT (af (aa 1))))))))
noncomputable def FF.au:FF:=eF [true,true] 2 FF.d9
noncomputable def FF.bY:FS:=(aI (bz 2 (di fC))
 (aI (jH (dc (aa 1)) (ao 3) (c9 (xo 2 (ah (cC FF.az (ah (aa 0) (af (vB bZ (bF bT (af (aa 2))) (vC (.int 1)))))) (af (aa 3))))))
 (b8 (aa 2))))
noncomputable def FF.aO:FF:=eF [true,true] 4 FF.bY
noncomputable def FF.b5:FS:=(aI (bz 2 (cC FF.au (ah (aa 0) (af (di (ah (vC (.int 1)) (ah (vC (.int 1)) (ah (vC (.int 3)) (af (vC (.int 4)))))))))))
 (aI (bz 3 (cC FF.au (ah (aa 0) (af (di (ah (vC (.int 0)) (ah (vC (.int 0)) (ah (vC (.int 5)) (af (vB p7 (vC (.int 99)) (vB mulM (aa 2) (bF kY (ah (vC (.int 0)) (af (vB p7 (aa 1) (vC (.int 1)))))))))))))))))
 (b8 (bF d8 (af (lq 1 [3,2] (dS i7 (af (aa 1))) (ao 0) dI (vB bZ (aa 1) (vB mulM (aa 2) (aa 0)))))))))
noncomputable def FF.bP:FF:=eF [true,true] 4 FF.b5
noncomputable def FF.cK:FS:=(aI (oA (bG (ah (cC FF.au (ah (aa 0) (af (di (ah (vC (.int 2)) (ah (vC (.int 3)) (ah (vC (.int 5)) (ah (vC (.int 9)) (af (vC (.int 1))))))))))) (af (vB (fK false) (cC FF.az (ah (aa 0) (af (vC (.int 2))))) (vC (.int 0)))))) (b3 2 (aB (ao 3) (aB (ao 4) b9))))
 (aI (ur 5 6 (ah (cC FF.bP (ah (aa 0) (af (aa 1)))) (af (di fC))))
 (aI (jH (dS wK (ah (vC (.int 1)) (af (aa 1)))) (ao 7) (aI (cI (lZ (aa 4)) (c9 (qh 6 (af (bG (ah (cC FF.az (ah (aa 0) (af (aa 7)))) (af (aa 7))))))) bI)
 (c9 (qk 6 (af (lq 1 [7,6,0,3] (dS i7 (af (aa 7))) (ao 0) (gI (aW (vB (fM true) (bG (ah (aa 0) (af (aa 1)))) (aa 2))) (aW (vB (fK false) (cC FF.az (ah (aa 3) (af (aa 4)))) (vC (.int 0))))) (bG (ah (aa 0) (af (aa 1))))))))))
 (aI (bz 6 (bF c7 (af (DG (cC FF.aO (ah (aa 0) (af (aa 6)))) oi (om (aa 2))))))
 (b8 (bG (ah (aa 5) (af (bF d8 (af (lq 2 [5] (dc (aa 6)) (b3 2 (aB (ao 0) (aB (ao 1) b9))) dI (bG (ah (cZ (aa 2) (aa 0)) (af (cZ (aa 2) (aa 1))))))))))))))))
noncomputable def FF.aM:FF:=eF [true,true,true] 8 FF.cK
end
section
open PySem L2 VL
noncomputable def FF.cY:FS:=(b8 (vB (fM false) (bG (ah (bF um (ah (aa 1) (af (aa 2)))) (af (bF kY (ah (aa 1) (af (aa 2))))))) (cZ (aa 0) (vC (.int 1)))))
noncomputable def FF.bJ:FF:=eF [true,true,true] 3 FF.cY
end
section
open PySem L2 VL
noncomputable def FF.ie:FS:=(aI (oA (aa 0) (b3 2 (aB (ao 3) (aB (ao 4) b9))))
 (aI (bz 5 (bF lstD (af (aa 3))))
 (aI (oA (bG (ah (cZ (aa 3) (cZ (aa 5) (bF lC (af (aa 1))))) (af (cZ (aa 4) (aa 2))))) (b3 2 (aB (ao 6) (aB (ao 7) b9))))
 (aI (cI (aW (vB (fK true) (bF lC (af (aa 6))) (bF lC (af (aa 7))))) (b8 (vC (.bool false))) bI)
 (b8 (bF (allM false) (af (lq 2 [6,7] (oS (aa 5) (aa 1)) (b3 2 (aB (ao 0) (aB (ao 1) b9))) dI (vB (fK false) (vB (fM false) (aa 0) (aa 2)) (vB (fM false) (aa 1) (aa 3)))))))))))
noncomputable def FF.fZ:FF:=eF [true,true,true] 8 FF.ie
noncomputable def FF.aY:Nat->FF
 |0=>λ_=>none
 |n+1=>eF [true,true] 6 (aI (oA (aa 0) (b3 2 (aB (ao 2) (aB (ao 3) b9))))
 (aI (cI (aW (vB (fK false) (bF lC (af (aa 1))) (bF lC (af (aa 2))))) (b8 (aa 1)) bI)
 (aI (jH (xG (aa 3)) (ao 4) (cI (gI (aW (vB (fM true) (aa 4) (aa 1))) (lZ (cC FF.fZ (ah (aa 0) (ah (aa 1) (af (aa 4))))))) (aI (bz 5 (cC (FF.aY n) (ah (aa 0) (af (vB bZ (aa 1) (bG (af (aa 4))))))))
 (cI (aW (vB (iJ true) (aa 5) (vC .none))) (b8 (aa 5)) bI)) bI))
 (b8 (vC .none)))))
noncomputable def FF.gG:FS:=(aI (cI (AD (aW (vB (fK true) (bF bT (af (cZ (aa 0) (vC (.int 0))))) (bF bT (af (cZ (aa 1) (vC (.int 0))))))) (aW (vB (fK true) (bF bT (af (cZ (aa 0) (vC (.int 1))))) (bF bT (af (cZ (aa 1) (vC (.int 1)))))))) (b8 (vC .none)) bI)
 (b8 (cC (FF.aY 9) (ah (bG (ah (cC FF.e9 (af (aa 0))) (af (cC FF.e9 (af (aa 1)))))) (af (bG fC))))))
noncomputable def FF.c5:FF:=eF [true,true] 2 FF.gG
noncomputable def FF.dW:FS:=(b8 (vB bZ (lq 1 [0] (dS i7 (af (vB p7 (aa 1) (vC (.int 1))))) (ao 0) dI (bG (ah (vB bZ (aa 1) (aa 0)) (af (vB bZ (vB bZ (aa 1) (aa 0)) (vC (.int 1))))))) (di (af (bG (ah (aa 0) (af (vB p7 (vB bZ (aa 0) (aa 1)) (vC (.int 1))))))))))
noncomputable def FF.aE:FF:=eF [true,true] 2 FF.dW
noncomputable def FF.fH:FS:=(aI (ur 2 3 (ah (cC FF.az (ah (aa 0) (af (vC (.int 6))))) (af (cC FF.au (ah (aa 0) (af (di (ah (aa 1) (ah (vC (.int 6)) (ah (vC (.int 5)) (ah (vC (.int 4)) (ah (vC (.int 3)) (ah (vC (.int 2)) (ah (vC (.int 1)) (af (vC (.int 0)))))))))))))))))
 (aI (cI (aW (vB AH (aa 2) (vC (.int 2)))) (b8 (cC FF.aM (ah (aa 0) (ah (aa 3) (af (vC (.int 21))))))) bI)
 (aI (bz 4 (vB bZ (cC FF.aE (ah (vC (.int 0)) (af (vC (.int 3))))) (cC FF.aE (ah (vC (.int 3)) (af (vC (.int 3)))))))
 (aI (bz 5 (di (ah (di (ah (bG (ah (vC (.int 0)) (af (vC (.int 1))))) (ah (bG (ah (vC (.int 1)) (af (vC (.int 2))))) (af (bG (ah (vC (.int 2)) (af (vC (.int 3))))))))) (ah (cC FF.aE (ah (vC (.int 0)) (af (vC (.int 6))))) (ah (aa 4) (af (cC FF.aE (ah (vC (.int 0)) (af (vC (.int 7)))))))))))
 (aI (bz 6 (cZ (aa 5) (vB p7 (aa 2) (vC (.int 2)))))
 (aI (bz 7 (bF AQ (af (vB bZ (vC (.int 1)) (bF maxM (af (gJ 2 [] 6 (b3 2 (aB (ao 0) (aB (ao 1) b9))) dI (aa 1))))))))
 (b8 (bG (ah (aa 7) (af (bF d8 (af (bF c7 (af (aa 6)))))))))))))))
noncomputable def FF.cA:FF:=eF [true,true] 8 FF.fH
noncomputable def FF.cL:FS:=(aI (bz 2 (bF De (ah (cZ (aa 0) (vC (.int 0))) (af (aa 1)))))
 (b8 (bG (ah (bF d8 (af (bF c7 (af (aa 1))))) (af (bF d8 (af (bF c7 (af (lq 2 [2] (dc (cZ (aa 0) (vC (.int 1)))) (b3 2 (aB (ao 0) (aB (ao 1) b9))) dI (bF d8 (af (bF c7 (af (di (ah (cZ (aa 2) (aa 0)) (af (cZ (aa 2) (aa 1)))))))))))))))))))
noncomputable def FF.aQ:FF:=eF [true,true] 3 FF.cL
noncomputable def FF.c6:FS:=(aI (rO 2 3 4 (ah (cC FF.az (ah (aa 0) (af (vC (.int 5))))) (ah (cZ (aa 1) (vC (.int 0))) (af (bF jg (af (cZ (aa 1) (vC (.int 1)))))))))
 (aI (bz 5 (di fC))
 (aI (jH (dc (aa 3)) (ao 6) (c9 (qk 5 (af (gJ 1 [6,4] 3 (ao 0) (gI (aW (vB AH (aa 0) (aa 1))) (aW (vB (fM true) (bG (ah (aa 0) (af (aa 1)))) (aa 2)))) (bG (ah (aa 0) (af (aa 1)))))))))
 (aI (cI (gI (aW (vB (fM false) (aa 2) (bG (ah (vC (.int 0)) (af (vC (.int 1))))))) (aW (vB (fK true) (aa 4) (di fC)))) (c9 (m8 4 (af (cC FF.au (ah (aa 0) (af (aa 4))))))) bI)
 (aI (cI (gI (aW (vB (fM false) (aa 2) (bG (ah (vC (.int 0)) (af (vC (.int 2))))))) (aW (vB (fK true) (aa 5) (di fC)))) (c9 (qh 4 (af (cC FF.au (ah (aa 0) (af (aa 5))))))) bI)
 (aI (cI (gI (aW (vB (fK false) (aa 2) (vC (.int 3)))) (aW (vB AH (bF bT (af (aa 3))) (vC (.int 7))))) (bz 3 (bF d8 (af (bF mW (af (vB bZ (aa 3) (bG (af (cC FF.au (ah (aa 0) (af (lq 1 [3] (dS i7 (af (vC (.int 100)))) (ao 0) (aW (vB (fM true) (aa 0) (aa 1))) (aa 0))))))))))))) bI)
 (b8 (bG (ah (aa 3) (af (bF d8 (af (bF c7 (af (aa 4)))))))))))))))
noncomputable def FF.b6:FF:=eF [true,true] 7 FF.c6
noncomputable def FF.aD:Nat->FF
 |0=>λ_=>none
 |n+1=>eF [true,true,true] 7 (aI (bz 3 (bF bT (af (aa 2))))
 (aI (cI (aW (vB (fK false) (aa 3) (bF bT (af (cZ (aa 0) (vC (.int 0))))))) (b8 (aa 2)) bI)
 (aI (jH (dc (lq 1 [2] (dc (cZ (aa 1) (vC (.int 0)))) (ao 0) (aW (vB (fM true) (aa 0) (aa 1))) (aa 0))) (ao 4) (aI (bz 5 (lq 1 [0,1,4,3,2] (dS i7 (af (aa 3))) (ao 0) dI (vB (fK false) (cC FF.bJ (ah (aa 1) (ah (cZ (cZ (aa 1) (vC (.int 0))) (aa 0)) (af (cZ (cZ (aa 1) (vC (.int 0))) (aa 4)))))) (cC FF.bJ (ah (aa 2) (ah (cZ (aa 5) (aa 0)) (af (aa 3))))))))
 (aI (bz 6 (AE (lZ (bF (allM false) (af (aa 5)))) (cC (FF.aD n) (ah (aa 0) (ah (aa 1) (af (vB bZ (aa 2) (bG (af (aa 4)))))))) (vC .none)))
 (cI (aW (vB (iJ true) (aa 6) (vC .none))) (b8 (aa 6)) bI))))
 (b8 (vC .none)))))
noncomputable def FF.cM:FS:=(aI (cI (AD (aW (vB (fK true) (bF bT (af (cZ (aa 0) (vC (.int 0))))) (bF bT (af (cZ (aa 1) (vC (.int 0))))))) (aW (vB (fK true) (bF bT (af (cZ (aa 0) (vC (.int 1))))) (bF bT (af (cZ (aa 1) (vC (.int 1)))))))) (b8 (vC .none)) bI)
 (b8 (cC (FF.aD 9) (ah (aa 0) (ah (aa 1) (af (bG fC)))))))
noncomputable def FF.bN:FF:=eF [true,true] 2 FF.cM
noncomputable def FF.ja:FS:=(aI (jH (dS i7 (af (bF kY (ah (vC (.int 1)) (af (bF um (ah (vC (.int 6)) (af (bF bT (af (aa 0))))))))))) (ao 1) (aI (bz 2 (cC FF.b4 (ah (aa 0) (af (aa 1)))))
 (aI (bz 3 (cC FF.cA (ah (aa 2) (af (AE (aW (vB (fK false) (aa 1) (vC (.int 0)))) (vC (.int 7)) (vC (.int 6)))))))
 (aI (bz 4 (cC FF.au (ah (aa 2) (af (di (ah (cZ (aa 3) (vC (.int 0))) (ah (bF uy (ah (vC (.int 40)) (af (vB bZ (vC (.int 40)) (bF bT (af (cZ (aa 3) (vC (.int 0))))))))) (af (bF AQ (af (bF bT (af (cZ (aa 3) (vC (.int 0)))))))))))))))
 (aI (bz 5 (cC FF.aQ (ah (aa 3) (af (bF d8 (af (cC FF.aO (ah (aa 2) (af (aa 4))))))))))
 (aI (bz 6 (di (ah (aa 5) (ah (cC FF.b6 (ah (aa 2) (af (aa 5)))) (ah (cC FF.aM (ah (aa 2) (ah (bF bT (af (cZ (aa 3) (vC (.int 0))))) (af (vC (.int 21)))))) (af (aa 3)))))))
 (jH (dc (vB bZ (gJ 1 [3] 6 (ao 0) dI (bG (ah (aa 1) (af (aa 0))))) (gJ 1 [3] 6 (ao 0) dI (bG (ah (aa 0) (af (aa 1))))))) (b3 2 (aB (ao 7) (aB (ao 8) b9))) (aI (bz 9 (cC FF.c5 (ah (aa 7) (af (aa 8)))))
 (aI (cI (AD (aW (vB (CA true) (bF ic (af (aa 9))) (bF ic (af (cC FF.bN (ah (aa 7) (af (aa 8)))))))) (aW (vB (CA true) (bF ic (af (cC FF.c5 (ah (aa 7) (af (aa 8)))))) (bF ic (af (aa 9)))))) (b8 (vC (.bool false))) bI)
 (cI (gI (aW (vB (iJ true) (aa 9) (vC .none))) (aW (vB (fK true) (cC FF.aQ (ah (aa 7) (af (aa 9)))) (aa 8)))) (b8 (vC (.bool false))) bI))))))))))
 (b8 (vC (.bool true))))
noncomputable def FF.qt:FF:=eF [true] 10 FF.ja
end
section
namespace Lk12
open PySem L2 VL PyProof.Rows
noncomputable def top(i:Nat):Stmt:=PySem.Challenge.pw_drawnweb_k12_alike.main.body.getD i (.Pass ⟨0,0,0,0⟩)
structure Txt(mg:Str->Option Value):Prop where
 z_sorted:mg "sorted" = none
 z_tuple:mg "tuple" = none
 z_zip:mg "zip" = none
 z_all:mg "all" = none
 z_len:mg "len" = none
 z_list:mg "list" = none
 z_int:mg "int" = none
 z_range:mg "range" = none
 z_max:mg "max" = none
 z_dict:mg "dict" = none
 z_min:mg "min" = none
 z_repr:mg "repr" = none
section
variable{P:EK}{w:World}{K:AC}{mg:Str->Option Value}{base:Heap}{f:Addr}{fd:G4}
noncomputable abbrev s_nears:Stmt:=top 1
theorem sc_nears:bf ["web", "places", "ties", "beside", "a", "b"] ["web"] (av s_nears):=⟨rfl,rfl,rfl,by decide +kernel,rfl,by decide +kernel,by decide +kernel⟩
theorem ok_nears(Fn:jB K "nears" "nears" s_nears f fd)(T:Txt mg):cB P w K mg base iI 1 f fd ["web"] (dM K FF.e9) :=
 bO (N:=["web", "places", "ties", "beside", "a", "b"]) (k:=0) (st:=s_nears) (fb:=FF.gF) [true] Fn sc_nears rfl λcdv A outer s H E hr=>(by
  have hU:=hr.units;have hG:=hr.gd;exact(aq (lz (wv 0) (eZ 2 rfl (aR (aC (i:=1) (by decide) sc_nears.nd rfl (EO rfl)) (aR (aC (i:=2) (by decide) sc_nears.nd rfl (EO rfl)) dG))))
  (aq (br (i:=3) (by decide) sc_nears.nd rfl (G6 rfl) (AO true 1 [] rfl rfl rfl (aV.of (sc0:=av s_nears) (N0:=["web", "places", "ties", "beside", "a", "b"]) (N:=["place"]) (fr:=[none]) rfl rfl (by decide +kernel)) (dF (wv 1)) (λ_=>⟨(aC (i:=0) (by decide) (show (["place"]:List Str).Nodup by decide +kernel) rfl (EO rfl)),eY,(wv 0),(cJ gY)⟩)))
  (aq (gZ GO rfl (dF (wv 2)) (eZ 2 rfl (aR (aC (i:=4) (by decide) sc_nears.nd rfl (EO rfl)) (aR (aC (i:=5) (by decide) sc_nears.nd rfl (EO rfl)) dG))) (aq (fG (sX 3 (DI 4) (DI 5) hU (pv 3) (λ_ _=>rfl) (λ_ _ h1 h2=>jP FW GX Gv fO h1 h2)))
  (aA (fG (sX 3 (DI 5) (DI 4) hU (pv 3) (λ_ _=>rfl) (λ_ _ h1 h2=>jP FW GX Gv fO h1 h2))))))
  (aA (bg (AO false 1 [3] rfl rfl rfl (aV.of (sc0:=av s_nears) (N0:=["web", "places", "ties", "beside", "a", "b"]) (N:=["place", "beside"]) (fr:=[none,some 3]) rfl rfl (by decide +kernel)) (dF (wv 1)) (λ_=>⟨(aC (i:=0) (by decide) (show (["place", "beside"]:List Str).Nodup by decide +kernel) rfl (EO rfl)),eY,(wv 0),(fX cT rfl T.z_tuple (by decide +kernel) (ai (aU (c8 rfl) rfl T.z_sorted (by decide +kernel) (ai (aT hU (wv 1) (wv 0) (λ_ _=>rfl))))))⟩))))))))
noncomputable abbrev s_fits:Stmt:=top 5
theorem sc_fits:bf ["both_nears", "names", "name", "near_one", "near_other", "places", "ties", "others"] ["both_nears", "names", "name"] (av s_fits):=⟨rfl,rfl,rfl,by decide +kernel,rfl,by decide +kernel,by decide +kernel⟩
theorem ok_fits(Fn:jB K "fits" "fits" s_fits f fd)(T:Txt mg):cB P w K mg base iI 1 f fd ["both_nears", "names", "name"] (dM K FF.fZ) :=
 bO (N:=["both_nears", "names", "name", "near_one", "near_other", "places", "ties", "others"]) (k:=0) (st:=s_fits) (fb:=FF.ie) [true,true,true] Fn sc_fits rfl λcdv A outer s H E hr=>(by
  have hU:=hr.units;have hG:=hr.gd;exact(aq (lz (wv 0) (eZ 2 rfl (aR (aC (i:=3) (by decide) sc_fits.nd rfl (EO rfl)) (aR (aC (i:=4) (by decide) sc_fits.nd rfl (EO rfl)) dG))))
  (aq (br (i:=5) (by decide) sc_fits.nd rfl (EO rfl) (fX (xH rfl) rfl T.z_list (by decide +kernel) (ai (wv 3))))
  (aq (lz (bq (aj (aT hU (wv 3) (aT hU (wv 5) (aU jt rfl T.z_len (by decide +kernel) (ai (wv 1))) (λ_ _=>rfl)) (λ_ _=>rfl)) (ai (aT hU (wv 4) (wv 2) (λ_ _=>rfl))))) (eZ 2 rfl (aR (aC (i:=6) (by decide) sc_fits.nd rfl (G6 rfl)) (aR (aC (i:=7) (by decide) sc_fits.nd rfl (G6 rfl)) dG))))
  (aq (dU (bM (jR hU) (aU jt rfl T.z_len (by decide +kernel) (ai (wv 6))) (aU jt rfl T.z_len (by decide +kernel) (ai (wv 7))) (bw _)) (aA (bg sW)) bU)
  (aA (bg (aU (wC rfl) rfl T.z_all (by decide +kernel) (ai (jW 2 [6,7] rfl rfl rfl (aV.of (sc0:=av s_fits) (N0:=["both_nears", "names", "name", "near_one", "near_other", "places", "ties", "others"]) (N:=["place", "given", "ties", "others"]) (fr:=[none,none,some 6,some 7]) rfl rfl (by decide +kernel)) (zZ rfl T.z_zip (wv 5) (wv 1)) (λ_=>⟨(eZ 2 rfl (aR (aC (i:=0) (by decide) (show (["place", "given", "ties", "others"]:List Str).Nodup by decide +kernel) rfl (EO rfl)) (aR (aC (i:=1) (by decide) (show (["place", "given", "ties", "others"]:List Str).Nodup by decide +kernel) rfl (EO rfl)) dG))),eY,(oH (jQ hU) (wW hU (wv 0) (wv 2)) (wW hU (wv 1) (wv 3)) (bw _))⟩)))))))))))
noncomputable abbrev s_names_on:Stmt:=top 4
theorem sc_names_on:bf ["both_nears", "names", "near_one", "near_other", "name", "found"] ["both_nears", "names"] (av s_names_on):=⟨rfl,rfl,rfl,by decide +kernel,rfl,by decide +kernel,by decide +kernel⟩
theorem ok_names_on(Fn:jB K "names_on" "names_on" s_names_on f fd)(T:Txt mg)(bd:Binds K fd ["both_nears", "names"] [])(hm:mg "names_on" = some (.ref f))(C_fits:bC P w K mg base "fits" ["both_nears", "names", "name"] 1 (dM K FF.fZ)):∀n,cB P w K mg base iI (n+2) f fd ["both_nears", "names"] (dM K (FF.aY n))
 |0=>sY
 |n+1=>by
  have C_names_on:bC P w K mg base "names_on" ["both_nears", "names"] (n+2) (dM K (FF.aY n)):=⟨f,fd,ok_names_on Fn T bd hm C_fits n,bd,Fn.kp,hm⟩;exact bO [true,true] Fn sc_names_on rfl λcdv A outer s H E hr=>(by
  have hU:=hr.units;have hG:=hr.gd;exact(aq (lz (wv 0) (eZ 2 rfl (aR (aC (i:=2) (by decide) sc_names_on.nd rfl (EO rfl)) (aR (aC (i:=3) (by decide) sc_names_on.nd rfl (EO rfl)) dG))))
  (aq (dU (bM (jQ hU) (aU jt rfl T.z_len (by decide +kernel) (ai (wv 1))) (aU jt rfl T.z_len (by decide +kernel) (ai (wv 2))) (bw _)) (aA (bg (wv 1))) bU)
  (aq (gZ GO rfl (wi_dk (wv 3)) (aC (i:=4) (by decide) sc_names_on.nd rfl (EO rfl)) (aA (dU (iP (i9 (gX hU (wv 4) (wv 1)) (gC (rA (aX C_fits hr rfl (aj (wv 0) (aj (wv 1) (ai (wv 4))))))))) (aq (br (i:=5) (by decide) sc_names_on.nd rfl (EO rfl) (aX C_names_on hr rfl (aj (wv 0) (ai (aK bV (wv 1) (bq (ai (wv 4))))))))
  (aA (dU (bM n9 (wv 5) gW (bw _)) (aA (bg (wv 5))) bU))) bU)))
  (aA (bg gW))))))
noncomputable abbrev s_alike:Stmt:=top 3
theorem sc_alike:bf ["one", "other"] ["one", "other"] (av s_alike):=⟨rfl,rfl,rfl,by decide +kernel,rfl,by decide +kernel,by decide +kernel⟩
theorem ok_alike(Fn:jB K "alike" "alike" s_alike f fd)(T:Txt mg)(C_names_on:bC P w K mg base "names_on" ["both_nears", "names"] 11 (dM K (FF.aY 9)))(C_nears:bC P w K mg base "nears" ["web"] 1 (dM K FF.e9)):cB P w K mg base iI 12 f fd ["one", "other"] (dM K FF.c5) :=
 bO (N:=["one", "other"]) (k:=11) (st:=s_alike) (fb:=FF.gG) [true,true] Fn sc_alike rfl λcdv A outer s H E hr=>(by
  have hU:=hr.units;have hG:=hr.gd;exact(aq (dU (iP (wX (bM (jR hU) (aU ck rfl T.z_len (by decide +kernel) (ai (aT hU (wv 0) ak (λ_ _=>rfl)))) (aU ck rfl T.z_len (by decide +kernel) (ai (aT hU (wv 1) ak (λ_ _=>rfl)))) (bw _)) (rB (bM (jR hU) (aU ck rfl T.z_len (by decide +kernel) (ai (aT hU (wv 0) ak (λ_ _=>rfl)))) (aU ck rfl T.z_len (by decide +kernel) (ai (aT hU (wv 1) ak (λ_ _=>rfl)))) (bw _))))) (aA (bg gW)) bU)
  (aA (bg (aX C_names_on hr rfl (aj (bq (aj (aX C_nears hr rfl (ai (wv 0))) (ai (aX C_nears hr rfl (ai (wv 1)))))) (ai (bq gY))))))))
noncomputable abbrev s_law_hand_of:Stmt:=top 7
theorem sc_law_hand_of:bf ["_law_script", "_law_k", "_law_cell", "_law_great"] ["_law_script", "_law_k"] (av s_law_hand_of):=⟨rfl,rfl,rfl,by decide +kernel,rfl,by decide +kernel,by decide +kernel⟩
theorem ok_law_hand_of(Fn:jB K "_law_hand_of" "_law_hand_of" s_law_hand_of f fd)(T:Txt mg):cB P w K mg base iI 1 f fd ["_law_script", "_law_k"] (dM K FF.b4) :=
 bO (N:=["_law_script", "_law_k", "_law_cell", "_law_great"]) (k:=0) (st:=s_law_hand_of) (fb:=FF.cu) [true,true] Fn sc_law_hand_of rfl λcdv A outer s H E hr=>(by
  have hU:=hr.units;have hG:=hr.gd;exact(aq (br (i:=2) (by decide) sc_law_hand_of.nd rfl (EO rfl) ak)
  (aq (dU (bM (sH hU) (wv 1) (aU ck rfl T.z_len (by decide +kernel) (ai (wv 0))) (bw _)) (aA (br (i:=2) (by decide) sc_law_hand_of.nd rfl (EO rfl) (aT hU (wv 0) (wv 1) (λ_ _=>rfl)))) bU)
  (aq (br (i:=3) (by decide) sc_law_hand_of.nd rfl (EO rfl) (aK gw (aK gS (wv 2) (aK oQ (aK oQ (aK oQ (aK kU ak ak) (aK kU ak ak)) (aK kU ak ak)) (aK kU ak ak))) (fX B9 rfl T.z_int (by decide +kernel) (ai (oH (ov_ge hU) (wv 2) (aK kU ak ak) (bw _))))))
  (aA (bg (cJ (aj (wv 3) (aj (aK gS (aK bV (aK bV (aK gS (wv 2) ak) (aK gw ak (wv 1))) ak) ak) (ai ak))))))))))
noncomputable abbrev s_law_take:Stmt:=top 8
theorem sc_law_take:bf ["_law_hand", "_law_many", "_law_digit", "_law_mixed"] ["_law_hand", "_law_many"] (av s_law_take):=⟨rfl,rfl,rfl,by decide +kernel,rfl,by decide +kernel,by decide +kernel⟩
theorem ok_law_take(Fn:jB K "_law_take" "_law_take" s_law_take f fd)(T:Txt mg):cB P w K mg base iI 1 f fd ["_law_hand", "_law_many"] (dM K FF.az) :=
 bO (N:=["_law_hand", "_law_many", "_law_digit", "_law_mixed"]) (k:=0) (st:=s_law_take) (fb:=FF.cX) [true,true] Fn sc_law_take rfl λcdv A outer s H E hr=>(by
  have hU:=hr.units;have hG:=hr.gd;exact(aq (dU (bM ov_gt (aT hU (wv 0) ak (λ_ _=>rfl)) ak (bw _)) (aq (br (i:=2) (by decide) sc_law_take.nd rfl (EO rfl) (aK gS (aT hU (wv 0) ak (λ_ _=>rfl)) (wv 1)))
  (aq (w9 0 hU (pv 0) ak (aK n8 (aT hU (wv 0) ak (λ_ _=>rfl)) (wv 1)) rfl (λ_ _ h1 h2=>nC h1 h2) (λ_ _ h1 h2=>uY h1 h2 set_list))
  (aA (bg (wv 2))))) bU)
  (aq (w9 0 hU (pv 0) ak (aK bV (aT hU (wv 0) ak (λ_ _=>rfl)) ak) rfl (λ_ _ h1 h2=>nC h1 h2) (λ_ _ h1 h2=>uY h1 h2 set_list))
  (aq (br (i:=3) (by decide) sc_law_take.nd rfl (EO rfl) (aK gS (aK gw (aK bV (aK bV (aT hU (wv 0) ak (λ_ _=>rfl)) (aK gw (aK gw ak (aT hU (wv 0) ak (λ_ _=>rfl))) (aT hU (wv 0) ak (λ_ _=>rfl)))) ak) ak) ak))
  (aq (br (i:=3) (by decide) sc_law_take.nd rfl (EO rfl) (aK gS (aK gw (wv 3) (aK bV (aK gS (wv 3) ak) (aK gw ak (aT hU (wv 0) ak (λ_ _=>rfl))))) ak))
  (aA (bg (aK gS (aK bV (aK n8 (wv 3) ak) (aK n8 (wv 3) ak)) (wv 1)))))))))
noncomputable abbrev s_law_pick:Stmt:=top 9
theorem sc_law_pick:bf ["_law_hand", "_law_some"] ["_law_hand", "_law_some"] (av s_law_pick):=⟨rfl,rfl,rfl,by decide +kernel,rfl,by decide +kernel,by decide +kernel⟩
theorem ok_law_pick(Fn:jB K "_law_pick" "_law_pick" s_law_pick f fd)(T:Txt mg)(C_law_take:bC P w K mg base "_law_take" ["_law_hand", "_law_many"] 1 (dM K FF.az)):cB P w K mg base iI 2 f fd ["_law_hand", "_law_some"] (dM K FF.au) :=
 bO (N:=["_law_hand", "_law_some"]) (k:=1) (st:=s_law_pick) (fb:=FF.d9) [true,true] Fn sc_law_pick rfl λcdv A outer s H E hr=>(by
  have hU:=hr.units;have hG:=hr.gd;exact(aA (bg (aT hU (wv 1) (aX C_law_take hr rfl (aj (wv 0) (ai (aU ck rfl T.z_len (by decide +kernel) (ai (wv 1)))))) (λ_ _=>rfl)))))
noncomputable abbrev s_law_shuffled:Stmt:=top 10
theorem sc_law_shuffled:bf ["_law_hand", "_law_some", "_law_found", "_law_one"] ["_law_hand", "_law_some"] (av s_law_shuffled):=⟨rfl,rfl,rfl,by decide +kernel,rfl,by decide +kernel,by decide +kernel⟩
theorem ok_law_shuffled(Fn:jB K "_law_shuffled" "_law_shuffled" s_law_shuffled f fd)(T:Txt mg)(C_law_take:bC P w K mg base "_law_take" ["_law_hand", "_law_many"] 1 (dM K FF.az)):cB P w K mg base iI 2 f fd ["_law_hand", "_law_some"] (dM K FF.aO) :=
 bO (N:=["_law_hand", "_law_some", "_law_found", "_law_one"]) (k:=1) (st:=s_law_shuffled) (fb:=FF.bY) [true,true] Fn sc_law_shuffled rfl λcdv A outer s H E hr=>(by
  have hU:=hr.units;have hG:=hr.gd;exact(aq (br (i:=2) (by decide) sc_law_shuffled.nd rfl (EO rfl) (cJ gY))
  (aq (gZ GO rfl (dF (wv 1)) (aC (i:=3) (by decide) sc_law_shuffled.nd rfl (EO rfl)) (aA (fG (Cz 2 (aj (aX C_law_take hr rfl (aj (wv 0) (ai (aK bV (aU ck rfl T.z_len (by decide +kernel) (ai (wv 2))) ak)))) (ai (wv 3))) (λ_ _ h1 h2=>jP FW KQ PySem.F.type_list_insert uw h1 h2) (pv 2)))))
  (aA (bg (wv 2))))))
noncomputable abbrev s_law_places_drawn:Stmt:=top 11
theorem sc_law_places_drawn:bf ["_law_hand", "_law_many", "_law_stride", "_law_first"] ["_law_hand", "_law_many"] (av s_law_places_drawn):=⟨rfl,rfl,rfl,by decide +kernel,rfl,by decide +kernel,by decide +kernel⟩
theorem ok_law_places_drawn(Fn:jB K "_law_places_drawn" "_law_places_drawn" s_law_places_drawn f fd)(T:Txt mg)(C_law_pick:bC P w K mg base "_law_pick" ["_law_hand", "_law_some"] 2 (dM K FF.au)):cB P w K mg base iI 3 f fd ["_law_hand", "_law_many"] (dM K FF.bP) :=
 bO (N:=["_law_hand", "_law_many", "_law_stride", "_law_first"]) (k:=2) (st:=s_law_places_drawn) (fb:=FF.b5) [true,true] Fn sc_law_places_drawn rfl λcdv A outer s H E hr=>(by
  have hU:=hr.units;have hG:=hr.gd;exact(aq (br (i:=2) (by decide) sc_law_places_drawn.nd rfl (G6 rfl) (aX C_law_pick hr rfl (aj (wv 0) (ai (cJ (aj ak (aj ak (aj ak (ai ak)))))))))
  (aq (br (i:=3) (by decide) sc_law_places_drawn.nd rfl (G6 rfl) (aX C_law_pick hr rfl (aj (wv 0) (ai (cJ (aj ak (aj ak (aj ak (ai (aK kT ak (aK gw (wv 2) (aU (oq rfl) rfl T.z_max (by decide +kernel) (aj ak (ai (aK kT (wv 1) ak)))))))))))))))
  (aA (bg (fX cT rfl T.z_tuple (by decide +kernel) (ai (jW 1 [3,2] rfl rfl rfl (aV.of (sc0:=av s_law_places_drawn) (N0:=["_law_hand", "_law_many", "_law_stride", "_law_first"]) (N:=["_law_k", "_law_first", "_law_stride"]) (fr:=[none,some 3,some 2]) rfl rfl (by decide +kernel)) (iE rfl T.z_range (ai (wv 1))) (λ_=>⟨(aC (i:=0) (by decide) (show (["_law_k", "_law_first", "_law_stride"]:List Str).Nodup by decide +kernel) rfl (EO rfl)),eY,(aK bV (wv 1) (aK gw (wv 2) (wv 0)))⟩)))))))))
noncomputable abbrev s_law_web_drawn:Stmt:=top 12
theorem sc_law_web_drawn:bf ["_law_hand", "_law_many", "_law_most", "_law_sparse", "_law_tree", "_law_places", "_law_ties", "_law_b"] ["_law_hand", "_law_many", "_law_most"] (av s_law_web_drawn):=⟨rfl,rfl,rfl,by decide +kernel,rfl,by decide +kernel,by decide +kernel⟩
theorem ok_law_web_drawn(Fn:jB K "_law_web_drawn" "_law_web_drawn" s_law_web_drawn f fd)(T:Txt mg)(C_law_shuffled:bC P w K mg base "_law_shuffled" ["_law_hand", "_law_some"] 2 (dM K FF.aO))(C_law_take:bC P w K mg base "_law_take" ["_law_hand", "_law_many"] 1 (dM K FF.az))(C_law_places_drawn:bC P w K mg base "_law_places_drawn" ["_law_hand", "_law_many"] 3 (dM K FF.bP))(C_law_pick:bC P w K mg base "_law_pick" ["_law_hand", "_law_some"] 2 (dM K FF.au)):cB P w K mg base iI 4 f fd ["_law_hand", "_law_many", "_law_most"] (dM K FF.aM) :=
 bO (N:=["_law_hand", "_law_many", "_law_most", "_law_sparse", "_law_tree", "_law_places", "_law_ties", "_law_b"]) (k:=3) (st:=s_law_web_drawn) (fb:=FF.cK) [true,true,true] Fn sc_law_web_drawn rfl λcdv A outer s H E hr=>(by
  have hU:=hr.units;have hG:=hr.gd;exact(aq (lz (bq (aj (aX C_law_pick hr rfl (aj (wv 0) (ai (cJ (aj ak (aj ak (aj ak (aj ak (ai ak))))))))) (ai (oH (jQ hU) (aX C_law_take hr rfl (aj (wv 0) (ai ak))) ak (bw _))))) (eZ 2 rfl (aR (aC (i:=3) (by decide) sc_law_web_drawn.nd rfl (G6 rfl)) (aR (aC (i:=4) (by decide) sc_law_web_drawn.nd rfl (EO rfl)) dG))))
  (aq (wZ (i:=5) (j:=6) (by decide) (by decide) (aj (aX C_law_places_drawn hr rfl (aj (wv 0) (ai (wv 1)))) (ai (cJ gY))) (λ_ h=>zB (i:=5) (j:=6) rfl sc_law_web_drawn.nd rfl rfl (G6 rfl) (G6 rfl) h rfl))
  (aq (gZ GO rfl (zM rfl T.z_range (aj ak (ai (wv 1)))) (aC (i:=7) (by decide) sc_law_web_drawn.nd rfl (G6 rfl)) (aq (dU (rA (wv 4)) (aA (fG (wY 6 (ai (bq (aj (aX C_law_take hr rfl (aj (wv 0) (ai (wv 7)))) (ai (wv 7))))) (λ_ _ h1 h2=>jP FW GX Gv fO h1 h2) (pv 6)))) bU)
  (aA (fG (xm 6 (ai (jW 1 [7,6,0,3] rfl rfl rfl (aV.of (sc0:=av s_law_web_drawn) (N0:=["_law_hand", "_law_many", "_law_most", "_law_sparse", "_law_tree", "_law_places", "_law_ties", "_law_b"]) (N:=["_law_a", "_law_b", "_law_ties", "_law_hand", "_law_sparse"]) (fr:=[none,some 7,some 6,some 0,some 3]) rfl rfl (by decide +kernel)) (iE rfl T.z_range (ai (wv 7))) (λ_=>⟨(aC (i:=0) (by decide) (show (["_law_a", "_law_b", "_law_ties", "_law_hand", "_law_sparse"]:List Str).Nodup by decide +kernel) rfl (EO rfl)),(oJ (iP (i9 (gX hU (bq (aj (wv 0) (ai (wv 1)))) (wv 2)) (gC (bM (jQ hU) (aX C_law_take hr rfl (aj (wv 3) (ai (wv 4)))) ak (bw _)))))),(bq (aj (wv 0) (ai (wv 1))))⟩))) (λ_ _ h1 h2=>jP FW IG Ja mG h1 h2) (pv 6))))))
  (aq (br (i:=6) (by decide) sc_law_web_drawn.nd rfl (G6 rfl) (aU (c8 rfl) rfl T.z_sorted (by decide +kernel) (ai (we_sl (aX C_law_shuffled hr rfl (aj (wv 0) (ai (wv 6)))) zK (zL (wv 2))))))
  (aA (bg (bq (aj (wv 5) (ai (fX cT rfl T.z_tuple (by decide +kernel) (ai (jW 2 [5] rfl rfl rfl (aV.of (sc0:=av s_law_web_drawn) (N0:=["_law_hand", "_law_many", "_law_most", "_law_sparse", "_law_tree", "_law_places", "_law_ties", "_law_b"]) (N:=["_law_a", "_law_b", "_law_places"]) (fr:=[none,none,some 5]) rfl rfl (by decide +kernel)) (dF (wv 6)) (λ_=>⟨(eZ 2 rfl (aR (aC (i:=0) (by decide) (show (["_law_a", "_law_b", "_law_places"]:List Str).Nodup by decide +kernel) rfl (EO rfl)) (aR (aC (i:=1) (by decide) (show (["_law_a", "_law_b", "_law_places"]:List Str).Nodup by decide +kernel) rfl (EO rfl)) dG))),eY,(bq (aj (aT hU (wv 2) (wv 0) (λ_ _=>rfl)) (ai (aT hU (wv 2) (wv 1) (λ_ _=>rfl)))))⟩))))))))))))))
noncomputable abbrev s_law_ring_ties:Stmt:=top 13
theorem sc_law_ring_ties:bf ["_law_first", "_law_many"] ["_law_first", "_law_many"] (av s_law_ring_ties):=⟨rfl,rfl,rfl,by decide +kernel,rfl,by decide +kernel,by decide +kernel⟩
theorem ok_law_ring_ties(Fn:jB K "_law_ring_ties" "_law_ring_ties" s_law_ring_ties f fd)(T:Txt mg):cB P w K mg base iI 1 f fd ["_law_first", "_law_many"] (dM K FF.aE) :=
 bO (N:=["_law_first", "_law_many"]) (k:=0) (st:=s_law_ring_ties) (fb:=FF.dW) [true,true] Fn sc_law_ring_ties rfl λcdv A outer s H E hr=>(by
  have hU:=hr.units;have hG:=hr.gd;exact(aA (bg (aK bV (jW 1 [0] rfl rfl rfl (aV.of (sc0:=av s_law_ring_ties) (N0:=["_law_first", "_law_many"]) (N:=["_law_k", "_law_first"]) (fr:=[none,some 0]) rfl rfl (by decide +kernel)) (iE rfl T.z_range (ai (aK kT (wv 1) ak))) (λ_=>⟨(aC (i:=0) (by decide) (show (["_law_k", "_law_first"]:List Str).Nodup by decide +kernel) rfl (EO rfl)),eY,(bq (aj (aK bV (wv 1) (wv 0)) (ai (aK bV (aK bV (wv 1) (wv 0)) ak))))⟩)) (cJ (ai (bq (aj (wv 0) (ai (aK kT (aK bV (wv 0) (wv 1)) ak))))))))))
noncomputable abbrev s_law_web_of:Stmt:=top 14
theorem sc_law_web_of:bf ["_law_hand", "_law_most", "_law_turn", "_law_many", "_law_two_rings", "_law_made", "_law_ties", "_law_places"] ["_law_hand", "_law_most"] (av s_law_web_of):=⟨rfl,rfl,rfl,by decide +kernel,rfl,by decide +kernel,by decide +kernel⟩
theorem ok_law_web_of(Fn:jB K "_law_web_of" "_law_web_of" s_law_web_of f fd)(T:Txt mg)(C_law_ring_ties:bC P w K mg base "_law_ring_ties" ["_law_first", "_law_many"] 1 (dM K FF.aE))(C_law_web_drawn:bC P w K mg base "_law_web_drawn" ["_law_hand", "_law_many", "_law_most"] 4 (dM K FF.aM))(C_law_pick:bC P w K mg base "_law_pick" ["_law_hand", "_law_some"] 2 (dM K FF.au))(C_law_take:bC P w K mg base "_law_take" ["_law_hand", "_law_many"] 1 (dM K FF.az)):cB P w K mg base iI 5 f fd ["_law_hand", "_law_most"] (dM K FF.cA) :=
 bO (N:=["_law_hand", "_law_most", "_law_turn", "_law_many", "_law_two_rings", "_law_made", "_law_ties", "_law_places"]) (k:=4) (st:=s_law_web_of) (fb:=FF.fH) [true,true] Fn sc_law_web_of rfl λcdv A outer s H E hr=>(by
  have hU:=hr.units;have hG:=hr.gd;exact(aq (wZ (i:=2) (j:=3) (by decide) (by decide) (aj (aX C_law_take hr rfl (aj (wv 0) (ai ak))) (ai (aX C_law_pick hr rfl (aj (wv 0) (ai (cJ (aj (wv 1) (aj ak (aj ak (aj ak (aj ak (aj ak (aj ak (ai ak)))))))))))))) (λ_ h=>Bj (i:=2) (j:=3) rfl sc_law_web_of.nd rfl rfl (by decide) rfl rfl h rfl))
  (aq (dU (bM (sH hU) (wv 2) ak (bw _)) (aA (bg (aX C_law_web_drawn hr rfl (aj (wv 0) (aj (wv 3) (ai ak)))))) bU)
  (aq (br (i:=4) (by decide) sc_law_web_of.nd rfl (EO rfl) (aK bV (aX C_law_ring_ties hr rfl (aj ak (ai ak))) (aX C_law_ring_ties hr rfl (aj ak (ai ak)))))
  (aq (br (i:=5) (by decide) sc_law_web_of.nd rfl (EO rfl) (cJ (aj (cJ (aj (bq (aj ak (ai ak))) (aj (bq (aj ak (ai ak))) (ai (bq (aj ak (ai ak))))))) (aj (aX C_law_ring_ties hr rfl (aj ak (ai ak))) (aj (wv 4) (ai (aX C_law_ring_ties hr rfl (aj ak (ai ak)))))))))
  (aq (br (i:=6) (by decide) sc_law_web_of.nd rfl (EO rfl) (aT hU (wv 5) (aK kT (wv 2) ak) (λ_ _=>rfl)))
  (aq (br (i:=7) (by decide) sc_law_web_of.nd rfl (EO rfl) (mX rfl rfl T.z_tuple rfl T.z_range (ai (aK bV ak (aU (zT rfl) rfl T.z_max (by decide +kernel) (ai (oR 6 2 [] (pv 6) rfl rfl rfl (aV.of (sc0:=av s_law_web_of) (N0:=["_law_hand", "_law_most", "_law_turn", "_law_many", "_law_two_rings", "_law_made", "_law_ties", "_law_places"]) (N:=["_law_a", "_law_b"]) (fr:=[none,none]) rfl rfl (by decide +kernel)) (dF (wv 6)) (λ_=>⟨(eZ 2 rfl (aR (aC (i:=0) (by decide) (show (["_law_a", "_law_b"]:List Str).Nodup by decide +kernel) rfl (EO rfl)) (aR (aC (i:=1) (by decide) (show (["_law_a", "_law_b"]:List Str).Nodup by decide +kernel) rfl (EO rfl)) dG))),eY,(wv 1)⟩))))))))
  (aA (bg (bq (aj (wv 7) (ai (fX cT rfl T.z_tuple (by decide +kernel) (ai (aU (c8 rfl) rfl T.z_sorted (by decide +kernel) (ai (wv 6)))))))))))))))))
noncomputable abbrev s_law_called_by:Stmt:=top 15
theorem sc_law_called_by:bf ["_law_web", "_law_names", "_law_called"] ["_law_web", "_law_names"] (av s_law_called_by):=⟨rfl,rfl,rfl,by decide +kernel,rfl,by decide +kernel,by decide +kernel⟩
theorem ok_law_called_by(Fn:jB K "_law_called_by" "_law_called_by" s_law_called_by f fd)(T:Txt mg):cB P w K mg base iI 1 f fd ["_law_web", "_law_names"] (dM K FF.aQ) :=
 bO (N:=["_law_web", "_law_names", "_law_called"]) (k:=0) (st:=s_law_called_by) (fb:=FF.cL) [true,true] Fn sc_law_called_by rfl λcdv A outer s H E hr=>(by
  have hU:=hr.units;have hG:=hr.gd;exact(aq (br (i:=2) (by decide) sc_law_called_by.nd rfl (G6 rfl) (zV rfl rfl T.z_dict rfl T.z_zip (aj (aT hU (wv 0) ak (λ_ _=>rfl)) (ai (wv 1)))))
  (aA (bg (bq (aj (fX cT rfl T.z_tuple (by decide +kernel) (ai (aU (c8 rfl) rfl T.z_sorted (by decide +kernel) (ai (wv 1))))) (ai (fX cT rfl T.z_tuple (by decide +kernel) (ai (aU (c8 rfl) rfl T.z_sorted (by decide +kernel) (ai (jW 2 [2] rfl rfl rfl (aV.of (sc0:=av s_law_called_by) (N0:=["_law_web", "_law_names", "_law_called"]) (N:=["_law_a", "_law_b", "_law_called"]) (fr:=[none,none,some 2]) rfl rfl (by decide +kernel)) (dF (aT hU (wv 0) ak (λ_ _=>rfl))) (λ_=>⟨(eZ 2 rfl (aR (aC (i:=0) (by decide) (show (["_law_a", "_law_b", "_law_called"]:List Str).Nodup by decide +kernel) rfl (EO rfl)) (aR (aC (i:=1) (by decide) (show (["_law_a", "_law_b", "_law_called"]:List Str).Nodup by decide +kernel) rfl (EO rfl)) dG))),eY,(fX cT rfl T.z_tuple (by decide +kernel) (ai (aU (c8 rfl) rfl T.z_sorted (by decide +kernel) (ai (cJ (aj (aT hU (wv 2) (wv 0) (λ_ _=>rfl)) (ai (aT hU (wv 2) (wv 1) (λ_ _=>rfl)))))))))⟩)))))))))))))
noncomputable abbrev s_law_changed:Stmt:=top 16
theorem sc_law_changed:bf ["_law_hand", "_law_web", "_law_turn", "_law_places", "_law_ties", "_law_pairs", "_law_b"] ["_law_hand", "_law_web"] (av s_law_changed):=⟨rfl,rfl,rfl,by decide +kernel,rfl,by decide +kernel,by decide +kernel⟩
theorem ok_law_changed(Fn:jB K "_law_changed" "_law_changed" s_law_changed f fd)(T:Txt mg)(C_law_pick:bC P w K mg base "_law_pick" ["_law_hand", "_law_some"] 2 (dM K FF.au))(C_law_take:bC P w K mg base "_law_take" ["_law_hand", "_law_many"] 1 (dM K FF.az)):cB P w K mg base iI 3 f fd ["_law_hand", "_law_web"] (dM K FF.b6) :=
 bO (N:=["_law_hand", "_law_web", "_law_turn", "_law_places", "_law_ties", "_law_pairs", "_law_b"]) (k:=2) (st:=s_law_changed) (fb:=FF.c6) [true,true] Fn sc_law_changed rfl λcdv A outer s H E hr=>(by
  have hU:=hr.units;have hG:=hr.gd;exact(aq (xN (i:=2) (j:=3) (k:=4) (by decide) (by decide) (by decide) (aj (aX C_law_take hr rfl (aj (wv 0) (ai ak))) (aj (aT hU (wv 1) ak (λ_ _=>rfl)) (ai (fX sM rfl T.z_list (by decide +kernel) (ai (aT hU (wv 1) ak (λ_ _=>rfl))))))) (λ_ h=>xJ (i:=2) (j:=3) (k:=4) rfl sc_law_changed.nd rfl rfl rfl (EO rfl) (G6 rfl) (G6 rfl) h rfl))
  (aq (br (i:=5) (by decide) sc_law_changed.nd rfl (EO rfl) (cJ gY))
  (aq (gZ GO rfl (dF (wv 3)) (aC (i:=6) (by decide) sc_law_changed.nd rfl (G6 rfl)) (aA (fG (xm 5 (ai (oR 3 1 [6,4] (pv 3) rfl rfl rfl (aV.of (sc0:=av s_law_changed) (N0:=["_law_hand", "_law_web", "_law_turn", "_law_places", "_law_ties", "_law_pairs", "_law_b"]) (N:=["_law_a", "_law_b", "_law_ties"]) (fr:=[none,some 6,some 4]) rfl rfl (by decide +kernel)) (dF (wv 3)) (λ_=>⟨(aC (i:=0) (by decide) (show (["_law_a", "_law_b", "_law_ties"]:List Str).Nodup by decide +kernel) rfl (EO rfl)),(oJ (iP (i9 (bM (sH hU) (wv 0) (wv 1) (bw _)) (gC (gX hU (bq (aj (wv 0) (ai (wv 1)))) (wv 2)))))),(bq (aj (wv 0) (ai (wv 1))))⟩))) (λ_ _ h1 h2=>jP FW IG Ja mG h1 h2) (pv 5)))))
  (aq (dU (iP (i9 (AM hU (wv 2) (bq (aj ak (ai ak)))) (gC (bM (jR hU) (wv 4) (cJ gY) (bw _))))) (aA (fG (Aa 4 (ai (aX C_law_pick hr rfl (aj (wv 0) (ai (wv 4))))) (λ_ _ h1 h2=>jP FW KP PySem.F.type_list_remove (rN hU) h1 h2) (pv 4)))) bU)
  (aq (dU (iP (i9 (AM hU (wv 2) (bq (aj ak (ai ak)))) (gC (bM (jR hU) (wv 5) (cJ gY) (bw _))))) (aA (fG (wY 4 (ai (aX C_law_pick hr rfl (aj (wv 0) (ai (wv 5))))) (λ_ _ h1 h2=>jP FW GX Gv fO h1 h2) (pv 4)))) bU)
  (aq (dU (iP (i9 (bM (jQ hU) (wv 2) ak (bw _)) (gC (bM (sH hU) (aU ck rfl T.z_len (by decide +kernel) (ai (wv 3))) ak (bw _))))) (aA (br (i:=3) (by decide) sc_law_changed.nd rfl (G6 rfl) (fX cT rfl T.z_tuple (by decide +kernel) (ai (aU (xA rfl) rfl T.z_sorted (by decide +kernel) (ai (aK bV (wv 3) (bq (ai (aX C_law_pick hr rfl (aj (wv 0) (ai (jW 1 [3] rfl rfl rfl (aV.of (sc0:=av s_law_changed) (N0:=["_law_hand", "_law_web", "_law_turn", "_law_places", "_law_ties", "_law_pairs", "_law_b"]) (N:=["_law_place", "_law_places"]) (fr:=[none,some 3]) rfl rfl (by decide +kernel)) (iE rfl T.z_range (ai ak)) (λ_=>⟨(aC (i:=0) (by decide) (show (["_law_place", "_law_places"]:List Str).Nodup by decide +kernel) rfl (EO rfl)),(oJ (gX hU (wv 0) (wv 1))),(wv 0)⟩)))))))))))))) bU)
  (aA (bg (bq (aj (wv 3) (ai (fX cT rfl T.z_tuple (by decide +kernel) (ai (aU (c8 rfl) rfl T.z_sorted (by decide +kernel) (ai (wv 4)))))))))))))))))
noncomputable abbrev s_law_tied:Stmt:=top 17
theorem sc_law_tied:bf ["_law_web", "_law_a", "_law_b"] ["_law_web", "_law_a", "_law_b"] (av s_law_tied):=⟨rfl,rfl,rfl,by decide +kernel,rfl,by decide +kernel,by decide +kernel⟩
theorem ok_law_tied(Fn:jB K "_law_tied" "_law_tied" s_law_tied f fd)(T:Txt mg):cB P w K mg base iI 1 f fd ["_law_web", "_law_a", "_law_b"] (dM K FF.bJ) :=
 bO (N:=["_law_web", "_law_a", "_law_b"]) (k:=0) (st:=s_law_tied) (fb:=FF.cY) [true,true,true] Fn sc_law_tied rfl λcdv A outer s H E hr=>(by
  have hU:=hr.units;have hG:=hr.gd;exact(aA (bg (wW hU (bq (aj (aU (wz rfl) rfl T.z_min (by decide +kernel) (aj (wv 1) (ai (wv 2)))) (ai (aU (oq rfl) rfl T.z_max (by decide +kernel) (aj (wv 1) (ai (wv 2))))))) (aT hU (wv 0) ak (λ_ _=>rfl))))))
noncomputable abbrev s_law_least_names:Stmt:=top 18
theorem sc_law_least_names:bf ["_law_one", "_law_other", "_law_names", "_law_at", "_law_name", "_law_agrees", "_law_found"] ["_law_one", "_law_other", "_law_names"] (av s_law_least_names):=⟨rfl,rfl,rfl,by decide +kernel,rfl,by decide +kernel,by decide +kernel⟩
theorem ok_law_least_names(Fn:jB K "_law_least_names" "_law_least_names" s_law_least_names f fd)(T:Txt mg)(bd:Binds K fd ["_law_one", "_law_other", "_law_names"] [])(hm:mg "_law_least_names" = some (.ref f))(C_law_tied:bC P w K mg base "_law_tied" ["_law_web", "_law_a", "_law_b"] 1 (dM K FF.bJ)):∀n,cB P w K mg base iI (n+2) f fd ["_law_one", "_law_other", "_law_names"] (dM K (FF.aD n))
 |0=>sY
 |n+1=>by
  have C_law_least_names:bC P w K mg base "_law_least_names" ["_law_one", "_law_other", "_law_names"] (n+2) (dM K (FF.aD n)):=⟨f,fd,ok_law_least_names Fn T bd hm C_law_tied n,bd,Fn.kp,hm⟩;exact bO [true,true,true] Fn sc_law_least_names rfl λcdv A outer s H E hr=>(by
  have hU:=hr.units;have hG:=hr.gd;exact(aq (br (i:=3) (by decide) sc_law_least_names.nd rfl (G6 rfl) (aU ck rfl T.z_len (by decide +kernel) (ai (wv 2))))
  (aq (dU (bM (jQ hU) (wv 3) (aU ck rfl T.z_len (by decide +kernel) (ai (aT hU (wv 0) ak (λ_ _=>rfl)))) (bw _)) (aA (bg (wv 2))) bU)
  (aq (gZ GO rfl (dF (jW 1 [2] rfl rfl rfl (aV.of (sc0:=av s_law_least_names) (N0:=["_law_one", "_law_other", "_law_names", "_law_at", "_law_name", "_law_agrees", "_law_found"]) (N:=["_law_name", "_law_names"]) (fr:=[none,some 2]) rfl rfl (by decide +kernel)) (dF (aT hU (wv 1) ak (λ_ _=>rfl))) (λ_=>⟨(aC (i:=0) (by decide) (show (["_law_name", "_law_names"]:List Str).Nodup by decide +kernel) rfl (EO rfl)),(oJ (gX hU (wv 0) (wv 1))),(wv 0)⟩))) (aC (i:=4) (by decide) sc_law_least_names.nd rfl (G6 rfl)) (aq (Cv (i:=5) 1 [0,1,4,3,2] (by decide) sc_law_least_names.nd rfl rfl rfl rfl rfl (aV.of (sc0:=av s_law_least_names) (N0:=["_law_one", "_law_other", "_law_names", "_law_at", "_law_name", "_law_agrees", "_law_found"]) (N:=["_law_k", "_law_one", "_law_other", "_law_name", "_law_at", "_law_names"]) (fr:=[none,some 0,some 1,some 4,some 3,some 2]) rfl rfl (by decide +kernel)) (iE rfl T.z_range (ai (wv 3))) (λ_=>⟨(aC (i:=0) (by decide) (show (["_law_k", "_law_one", "_law_other", "_law_name", "_law_at", "_law_names"]:List Str).Nodup by decide +kernel) rfl (EO rfl)),eY,(oH (jQ hU) (aX C_law_tied hr rfl (aj (wv 1) (aj (aT hU (aT hU (wv 1) ak (λ_ _=>rfl)) (wv 0) (λ_ _=>rfl)) (ai (aT hU (aT hU (wv 1) ak (λ_ _=>rfl)) (wv 4) (λ_ _=>rfl)))))) (aX C_law_tied hr rfl (aj (wv 2) (aj (aT hU (wv 5) (wv 0) (λ_ _=>rfl)) (ai (wv 3))))) (bw _))⟩))
  (aq (br (i:=6) (by decide) sc_law_least_names.nd rfl (EO rfl) (AN (rA (aU (wC rfl) rfl T.z_all (by decide +kernel) (ai (wv 5)))) (aX C_law_least_names hr rfl (aj (wv 0) (aj (wv 1) (ai (aK bV (wv 2) (bq (ai (wv 4)))))))) gW))
  (aA (dU (bM n9 (wv 6) gW (bw _)) (aA (bg (wv 6))) bU)))))
  (aA (bg gW))))))
noncomputable abbrev s_law_due_names:Stmt:=top 19
theorem sc_law_due_names:bf ["_law_one", "_law_other"] ["_law_one", "_law_other"] (av s_law_due_names):=⟨rfl,rfl,rfl,by decide +kernel,rfl,by decide +kernel,by decide +kernel⟩
theorem ok_law_due_names(Fn:jB K "_law_due_names" "_law_due_names" s_law_due_names f fd)(T:Txt mg)(C_law_least_names:bC P w K mg base "_law_least_names" ["_law_one", "_law_other", "_law_names"] 11 (dM K (FF.aD 9))):cB P w K mg base iI 12 f fd ["_law_one", "_law_other"] (dM K FF.bN) :=
 bO (N:=["_law_one", "_law_other"]) (k:=11) (st:=s_law_due_names) (fb:=FF.cM) [true,true] Fn sc_law_due_names rfl λcdv A outer s H E hr=>(by
  have hU:=hr.units;have hG:=hr.gd;exact(aq (dU (iP (wX (bM (jR hU) (aU ck rfl T.z_len (by decide +kernel) (ai (aT hU (wv 0) ak (λ_ _=>rfl)))) (aU ck rfl T.z_len (by decide +kernel) (ai (aT hU (wv 1) ak (λ_ _=>rfl)))) (bw _)) (rB (bM (jR hU) (aU ck rfl T.z_len (by decide +kernel) (ai (aT hU (wv 0) ak (λ_ _=>rfl)))) (aU ck rfl T.z_len (by decide +kernel) (ai (aT hU (wv 1) ak (λ_ _=>rfl)))) (bw _))))) (aA (bg gW)) bU)
  (aA (bg (aX C_law_least_names hr rfl (aj (wv 0) (aj (wv 1) (ai (bq gY)))))))))
noncomputable abbrev s_law:Stmt:=top 20
theorem sc_law:bf ["_law_script", "_law_k", "_law_hand", "_law_web", "_law_names", "_law_other", "_law_some", "_law_one", "_law_more", "_law_found"] ["_law_script"] (av s_law):=⟨rfl,rfl,rfl,by decide +kernel,rfl,by decide +kernel,by decide +kernel⟩
theorem ok_law(Fn:jB K "law" "law" s_law f fd)(T:Txt mg)(C_law_called_by:bC P w K mg base "_law_called_by" ["_law_web", "_law_names"] 1 (dM K FF.aQ))(C_alike:bC P w K mg base "alike" ["one", "other"] 12 (dM K FF.c5))(C_law_due_names:bC P w K mg base "_law_due_names" ["_law_one", "_law_other"] 12 (dM K FF.bN))(C_law_web_drawn:bC P w K mg base "_law_web_drawn" ["_law_hand", "_law_many", "_law_most"] 4 (dM K FF.aM))(C_law_changed:bC P w K mg base "_law_changed" ["_law_hand", "_law_web"] 3 (dM K FF.b6))(C_law_shuffled:bC P w K mg base "_law_shuffled" ["_law_hand", "_law_some"] 2 (dM K FF.aO))(C_law_pick:bC P w K mg base "_law_pick" ["_law_hand", "_law_some"] 2 (dM K FF.au))(C_law_web_of:bC P w K mg base "_law_web_of" ["_law_hand", "_law_most"] 5 (dM K FF.cA))(C_law_hand_of:bC P w K mg base "_law_hand_of" ["_law_script", "_law_k"] 1 (dM K FF.b4)):cB P w K mg base iI 13 f fd ["_law_script"] (dM K FF.qt) :=
 bO (N:=["_law_script", "_law_k", "_law_hand", "_law_web", "_law_names", "_law_other", "_law_some", "_law_one", "_law_more", "_law_found"]) (k:=12) (st:=s_law) (fb:=FF.ja) [true] Fn sc_law rfl λcdv A outer s H E hr=>(by
  have hU:=hr.units;have hG:=hr.gd;exact(aq (gZ GO rfl (iE rfl T.z_range (ai (aU (oq rfl) rfl T.z_max (by decide +kernel) (aj ak (ai (aU (wz rfl) rfl T.z_min (by decide +kernel) (aj ak (ai (aU ck rfl T.z_len (by decide +kernel) (ai (wv 0))))))))))) (aC (i:=1) (by decide) sc_law.nd rfl (EO rfl)) (aq (br (i:=2) (by decide) sc_law.nd rfl (EO rfl) (aX C_law_hand_of hr rfl (aj (wv 0) (ai (wv 1)))))
  (aq (br (i:=3) (by decide) sc_law.nd rfl (G6 rfl) (aX C_law_web_of hr rfl (aj (wv 2) (ai (AN (bM (jQ hU) (wv 1) ak (bw _)) ak ak)))))
  (aq (br (i:=4) (by decide) sc_law.nd rfl (EO rfl) (aX C_law_pick hr rfl (aj (wv 2) (ai (cJ (aj (aT hU (wv 3) ak (λ_ _=>rfl)) (aj (rH rfl rfl T.z_tuple rfl T.z_range (aj ak (ai (aK bV ak (aU ck rfl T.z_len (by decide +kernel) (ai (aT hU (wv 3) ak (λ_ _=>rfl)))))))) (ai (mX rfl rfl T.z_tuple rfl T.z_range (ai (aU ck rfl T.z_len (by decide +kernel) (ai (aT hU (wv 3) ak (λ_ _=>rfl))))))))))))))
  (aq (br (i:=5) (by decide) sc_law.nd rfl (EO rfl) (aX C_law_called_by hr rfl (aj (wv 3) (ai (fX cT rfl T.z_tuple (by decide +kernel) (ai (aX C_law_shuffled hr rfl (aj (wv 2) (ai (wv 4))))))))))
  (aq (br (i:=6) (by decide) sc_law.nd rfl (EO rfl) (cJ (aj (wv 5) (aj (aX C_law_changed hr rfl (aj (wv 2) (ai (wv 5)))) (aj (aX C_law_web_drawn hr rfl (aj (wv 2) (aj (aU ck rfl T.z_len (by decide +kernel) (ai (aT hU (wv 3) ak (λ_ _=>rfl)))) (ai ak)))) (ai (wv 3)))))))
  (aA (gZ GO rfl (dF (aK bV (oR 6 1 [3] (pv 6) rfl rfl rfl (aV.of (sc0:=av s_law) (N0:=["_law_script", "_law_k", "_law_hand", "_law_web", "_law_names", "_law_other", "_law_some", "_law_one", "_law_more", "_law_found"]) (N:=["_law_thing", "_law_web"]) (fr:=[none,some 3]) rfl rfl (by decide +kernel)) (dF (wv 6)) (λ_=>⟨(aC (i:=0) (by decide) (show (["_law_thing", "_law_web"]:List Str).Nodup by decide +kernel) rfl (EO rfl)),eY,(bq (aj (wv 1) (ai (wv 0))))⟩)) (oR 6 1 [3] (pv 6) rfl rfl rfl (aV.of (sc0:=av s_law) (N0:=["_law_script", "_law_k", "_law_hand", "_law_web", "_law_names", "_law_other", "_law_some", "_law_one", "_law_more", "_law_found"]) (N:=["_law_thing", "_law_web"]) (fr:=[none,some 3]) rfl rfl (by decide +kernel)) (dF (wv 6)) (λ_=>⟨(aC (i:=0) (by decide) (show (["_law_thing", "_law_web"]:List Str).Nodup by decide +kernel) rfl (EO rfl)),eY,(bq (aj (wv 0) (ai (wv 1))))⟩)))) (eZ 2 rfl (aR (aC (i:=7) (by decide) sc_law.nd rfl (EO rfl)) (aR (aC (i:=8) (by decide) sc_law.nd rfl (EO rfl)) dG))) (aq (br (i:=9) (by decide) sc_law.nd rfl (EO rfl) (aX C_alike hr rfl (aj (wv 7) (ai (wv 8)))))
  (aq (dU (iP (wX (bM xw (aU (jr hU hG) rfl T.z_repr (by decide +kernel) (ai (wv 9))) (aU (jr hU hG) rfl T.z_repr (by decide +kernel) (ai (aX C_law_due_names hr rfl (aj (wv 7) (ai (wv 8)))))) (bw _)) (rB (bM xw (aU (jr hU hG) rfl T.z_repr (by decide +kernel) (ai (aX C_alike hr rfl (aj (wv 7) (ai (wv 8)))))) (aU (jr hU hG) rfl T.z_repr (by decide +kernel) (ai (wv 9))) (bw _))))) (aA (bg sW)) bU)
  (aA (dU (iP (i9 (bM n9 (wv 9) gW (bw _)) (gC (bM (jR hU) (aX C_law_called_by hr rfl (aj (wv 7) (ai (wv 9)))) (wv 8) (bw _))))) (aA (bg sW)) bU))))))))))))
  (aA (bg sW))))
end
end Lk12
end
section
namespace PL
theorem j8{α:Type}[BEq α][LawfulBEq α]{l l':List α}(h1:l.Nodup)(h2:l'.Nodup)(h:∀x,x∈l↔x∈l'):l.Perm l':=(List.perm_ext_iff_of_nodup h1 h2).mpr h
end PL
end
section
open PySem L2 VL
end
section
open PySem L2 VL
end
section
open PySem L2 VL
end
section
open PySem L2 VL
end
section
namespace PA
open PySem L2 VL
theorem iz{α:Type}{xs:List α}{i:Int}(h0:0<=i)(h1:i<(xs.length:Int)):∃x,x∈xs/\jf xs i=some x:=by
 obtain⟨k,rfl⟩:=Gd h0;have hk:k<xs.length:=by lia
 exact⟨xs[k],IF hk,ez (E5 hk)⟩
theorem xO{ns:List Int}{i:Int}(h0:0<=i)(h1:i<(ns.length:Int)):∃n,n∈ns/\jf (ns.map EC) i=some (.int n):=by
 obtain⟨d,h,e⟩:=iz (xs:=ns.map EC) h0 (by rw[At]; exact h1)
 obtain⟨n,hn,rfl⟩:=EL.mp h;exact⟨n,hn,e⟩
theorem tw{a b:Int}(h:0<=b/\(FC a:Int)*b<=2 ^ 27):jm (.v (.int a)) (.v (.int b))=some (.v (.int (a ^ b.toNat))):=if_pos (decide_eq_true h)
noncomputable abbrev pD(p:Int×Int):Ap:=.tuple [.int p.1,.int p.2]
noncomputable abbrev tD(ts:List (Int×Int)):Ap:=.tuple (ts.map pD)
noncomputable abbrev wD(ps:List Int)(ts:List (Int×Int)):Ap:=.tuple [tI ps,tD ts]
noncomputable abbrev enc(t:Int×Int):List Int:=[t.1,t.2]
noncomputable def dec(k:List Int):Int×Int:=(k.getD 0 0,k.getD 1 0)
noncomputable def bW(ts:List (Int×Int)):List (Int×Int):=(jS (ts.map enc)).map dec
theorem ig(ts:List (Int×Int)):(ts.map enc).map dec=ts:=by rw[EM]; exact Gr ts
theorem jK(ts:List (Int×Int)):jS (ts.map enc)=(bW ts).map enc:=by
 unfold bW;rw[EM];refine(Gr _).symm.trans (FU λk hk=>?_)
 have hk:=(cH HT.lexLt (ts.map enc)).mem_iff.mp hk;obtain⟨t,_,rfl⟩:=EL.mp hk;rfl
theorem dO(ts:List (Int×Int)):(bW ts).Perm ts:=by
 have h:=(cH HT.lexLt (ts.map enc)).map dec;rw[ig] at h;exact h
def uA(a b:Int×Int):Prop:=a.1<b.1\/(a.1=b.1/\a.2<b.2)
instance (a b:Int×Int):Decidable (uA a b):=by unfold uA; infer_instance
theorem m9(a b:Int×Int):HT.lexLt (enc a) (enc b)=decide (uA a b):=by
 obtain⟨x,y⟩:=a;obtain⟨z,t⟩:=b;unfold enc uA;rw[HT.cF,HT.cF,HT.iK]
 by_cases h1:x=z <;> by_cases h2:y=t <;> by_cases h3:x<z <;> by_cases h4:y<t <;> simp[h1,h2,h3,h4] <;> lia
theorem lD{ts:List (Int×Int)}(nd:ts.Nodup):(bW ts).Pairwise uA:=by
 have h:=gU (lt:=HT.lexLt) gn fu (ts.map enc);rw[show mS HT.lexLt (ts.map enc)=(bW ts).map enc from jK ts,EZ] at h
 have nd':(bW ts).Nodup:=(dO ts).nodup_iff.mpr nd;refine JI (λa b h1 h2=>?_) h nd'
 rw[m9] at h1;have h1:=of_decide_eq_false h1;unfold uA at h1 ⊢;obtain⟨x,y⟩:=a;obtain⟨z,t⟩:=b
 by_cases e:x=z
 ·by_cases e2:y=t
  ·exact absurd (by rw[e,e2]) h2
  ·simp only at h1 ⊢; lia
 ·simp only at h1 ⊢; lia
theorem rP(ts:List (Int×Int)):ug (ts.map pD)=some (ts.map enc):=by
 have h:=sL (ts.map enc);rw[EM] at h;exact h
theorem rQ:∀{ts:List (Int×Int)},ts≠[]->gx (ts.map pD)=none
 |[],h=>absurd rfl h
 |t::ts,_=>rfl
theorem ir{ts:List (Int×Int)}(h:ts.length<64):c7 [.lst (ts.map pD)]=some (.lst ((bW ts).map pD)):=by
 show (jT (ts.map pD)).bind _=_;unfold jT;rw[if_pos (by rw[At]; exact h)]
 by_cases e:ts=[]
 ·subst e; rfl
 ·rw[rQ e,rP]
  show (if ((ts.map enc).all λk=> !k.isEmpty)=true then some ((jS (ts.map enc)).map tI) else none).bind _=_
  rw[if_pos (by rw[J0]; simp),jK,EM]
  rfl
theorem rR{ns:List Int}(h:ns.length<64):c7 [.lst (ns.map .int)]=some (.lst ((sortI ns).map .int)):=by
 show (jT (ns.map .int)).bind _=_;unfold jT;rw[if_pos (by rw[At]; exact h),eL]
 rfl
theorem sortI_perm(ns:List Int):(sortI ns).Perm ns:=cH _ _
theorem xP(ns:List Int):(sortI ns).Pairwise (·<=·):=by
 refine(gU (lt:=ltI) (λa b h=>?_) (λa b c h1 h2=>?_) ns).imp λh=>?_
 ·have h:=of_decide_eq_true h; exact decide_eq_false (by lia)
 ·have h1:=of_decide_eq_false h1
  have h2:=of_decide_eq_false h2;exact decide_eq_false (by lia)
 ·have h:=of_decide_eq_false h; lia
theorem lE{ns:List Int}(nd:ns.Nodup):(sortI ns).Pairwise (· < ·):=by
 refine JI (λa b h1 h2=>?_) (xP ns) ((sortI_perm ns).nodup_iff.mpr nd)
 lia
structure bE(ps:List Int)(ts:List (Int×Int)):Prop where
 rise:ps.Pairwise (· < ·)
 rng:∀p∈ps,0<=p/\p<=99
 few:ps.length<=24
 up:ts.Pairwise uA
 lt:∀t∈ts,t.1<t.2
 ends:∀t∈ts,t.1∈ps/\t.2∈ps
 len:ts.length<=60
theorem Ab(a:Int×Int):¬uA a a:=by unfold uA; lia
theorem dg(n:Nat):bH 0 (n:Int)=(Ch n).map λk:Nat=>EC (0+(k:Int)):=by
 unfold bH;rw[Int.sub_zero,Fv]
theorem iu{α:Type}{u:α->Ap}{fg:FG}{ft:FT}{fe:FE}{p:α->Bool}{f:α->Ap}{E:Ev->Prop}{en:α->Ev}(hE:∀t,E (en t))(hg:∀t e,E e->fg (u t) e=some (en t)):∀(ts:List α)(acc:List Ap)(e:Ev),E e->(∀t∈ts,ft (en t)=some (p t,en t)/\∃o,fe (en t)=some (o,en t)/\cS o (en t)=some (f t,en t))->acc.length+ts.length<=lim ->
  ∃e',E e'/\cU fg ft fe (ts.map u) e acc=some (acc++(ts.filter p).map f,e')
 |[],acc,e,he,_,_=>⟨e,he,by simp[cU]⟩
 |t::ts,acc,e,he,h,hl=>by
  obtain⟨e0,o,e1,e2⟩:=h t lS;rw[E7] at hl;have hlim:acc.length<lim:=by lia
  rw[EH,J8];cases c:p t with
  |true=>
   rw[c] at e0;obtain⟨y,hy,ey⟩:=iu hE hg ts (acc++[f t]) (en t) (hE t) (λt' h'=>h t' (lO _ h')) (by rw[E3,EF]; lia)
   refine⟨y,hy,?_⟩;rw[if_pos rfl,EH,show acc++f t::(ts.filter p).map f=acc++[f t]++(ts.filter p).map f by rw[EU]; rfl,<-ey]
   show (fg (u t) e).bind _=_;rw[hg t e he,EB,e0,EB,if_pos rfl,e1,EB,e2,EB,if_pos hlim]
  |false=>
   rw[c] at e0;obtain⟨y,hy,ey⟩:=iu hE hg ts acc (en t) (hE t) (λt' h'=>h t' (lO _ h')) (by lia)
   refine⟨y,hy,?_⟩;rw[if_neg (by simp),<-ey]
   show (fg (u t) e).bind _=_;rw[hg t e he,EB,e0,EB,if_neg (by simp)]
theorem nc{fe:FE}{cs:Ev}{f:Ap->Ap}:∀(ds acc:List Ap)(x:Option M),(∀d∈ds,∃o,fe (some (.v d)::cs)=some (o,some (.v d)::cs)/\cS o (some (.v d)::cs)=some (f d,some (.v d)::cs))->acc.length+ds.length<=lim ->
  ∃y,cU (ao 0) dI fe ds (x::cs) acc=some (acc++ds.map f,y::cs):=λds acc x h hl=>by
 obtain⟨e,⟨y,rfl⟩,q⟩:=iu (u:=id) (fg:=ao 0) (ft:=dI) (fe:=fe) (p:=λ_=>true) (f:=f) (E:=λe=>∃y,e=y::cs) (en:=λd=>some (.v d)::cs) (λ_=>⟨_,rfl⟩) (λd e ⟨y,hy⟩=>by rw[hy]; simp) ds acc (x::cs) ⟨x,rfl⟩ (λd hd=>⟨rfl,h d hd⟩) hl
 rw[Gr,Kn.mpr λ_ _=>rfl] at q
 exact⟨y,q⟩
theorem iQ{α β:Type}{f:α->β}{xs:List α}{i:Nat}{d:β}{ds:List β}(h:d::ds=(xs.drop i).map f):∃x,xs[i]? = some x/\d=f x/\ds=(xs.drop (i+1)).map f:=by
 have hi:i<xs.length:=by
  rcases Nat.lt_or_ge i xs.length with h1 | h1
  ·exact h1
  ·rw[K8 h1] at h; cases h
 rw[GS hi,EH] at h
 injection h with h1 h2
 exact⟨xs[i],E5 hi,h1,h2⟩
end PA
end
section
namespace PQ
open PySem L2 VL PA
section
variable{ρ:Ev}{i:Nat}
@[simp] theorem vExt_eq{fa:FA}:qk i fa ρ=(cE ρ i).bind λm0=>match m0 with
 |.lst _=>(fa ρ).bind λp=>match p.1 with
  |[.t (.lst es)]=>(cE p.2 i).bind λm=>match m with
   |.lst ds=>if ds.length+es.length<=lim then some (.t (.v .none),p.2.set i (some (.lst (ds++es)))) else none
   |_=>none
  |_=>none
 |_=>none:=rfl
@[simp] theorem vPopA_eq{fa:FA}:vPopA i fa ρ=(cE ρ i).bind λm0=>match m0 with
 |.lst _=>(fa ρ).bind λp=>match p.1 with
  |[o]=>(peek p.2 o).bind λmk=>match mk with
   |.v (.int k)=>(cE p.2 i).bind λm=>match m with
    |.lst ds=>if k < -(2 ^ 63)\/2 ^ 63<=k then none else (Kr k ds.length).bind λn=>(ds[n]?).bind λd=>some (.t (.v d),p.2.set i (some (.lst (ds.eraseIdx n))))
    |_=>none
   |_=>none
  |_=>none
 |_=>none:=rfl
@[simp] theorem vIns_eq{fa:FA}:xo i fa ρ=(cE ρ i).bind λm0=>match m0 with
 |.lst _=>(fa ρ).bind λp=>match p.1 with
  |[o,o2]=>(peek p.2 o).bind λmk=>match mk with
   |.v (.int k)=>(cS o2 p.2).bind λq=>(cE q.2 i).bind λm=>match m with
    |.lst ds=>if 0<=k/\k.toNat<=ds.length/\ds.length<lim then some (.t (.v .none),q.2.set i (some (.lst (ds.take k.toNat++q.1::ds.drop k.toNat)))) else none
    |_=>none
   |_=>none
  |_=>none
 |_=>none:=rfl
end
def Hd(B:Nat)(l:List Ap):Prop:=∃g q t:Int,l=[.int g,.int q,.int t]/\0<=g/\0<=t/\t<=B
theorem Hd.mono{B B':Nat}{l:List Ap}(h:Hd B l)(hb:B<=B'):Hd B' l:=by
 obtain⟨g,q,t,e,h1,h2,h3⟩:=h;exact⟨g,q,t,e,h1,h2,by lia⟩
theorem take{B:Nat}{l:List Ap}{m:Int}(h:Hd B l)(hB:B<=1000000)(hm:0<m)(hm2:m<1073741824):∃ (r:Int) (l':List Ap),0<=r/\r<m/\Hd (B+1) l'/\FF.az [.lst l,.v (.int m)]=some (.v (.int r),[.lst l',.v (.int m)]):=by
 obtain⟨g,q,t,rfl,hg,ht,hb⟩:=h
 by_cases h0:0<g
 ·refine⟨g % m,[.int (g / m),.int q,.int t],Je _ (by lia),LI _ hm,⟨_,_,_,rfl,Int.ediv_nonneg hg (Int.le_of_lt hm),ht,by lia⟩,?_⟩
  simp[FF.az,FF.cX,j7,jf,sj,h0,hm,hm2]
 ·have hb' : -18446744073709551616<t+1/\t+1<18446744073709551616:=by lia
  generalize hx:(q+65537*(t+1)*(t+1)+11)*48271 % 2305843009213693921=x;have hx' : -18446744073709551616<x/\x<18446744073709551616:=by lia
  generalize hy:x*(x % 1000003+99991*(t+1)) % 2305843009213693907=y;refine⟨(y / 97+y / 1000033) % m,[.int g,.int q,.int (t+1)],Je _ (by lia),LI _ hm,⟨_,_,_,rfl,hg,by lia,by lia⟩,?_⟩
  simp[FF.az,FF.cX,j7,jf,sj,h0,hm,hm2,hx,hx',hb',hy]
theorem pick{B:Nat}{l ds:List Ap}(h:Hd B l)(hB:B<=1000000)(h0:0<ds.length)(h1:ds.length<1000000):∃d l',d∈ds/\Hd (B+1) l'/\FF.au [.lst l,.lst ds]=some (.v d,[.lst l',.lst ds]):=by
 obtain⟨r,l',r0,r1,hl,e⟩:=take (m:=ds.length) h hB (by lia) (by lia)
 obtain⟨d,hd,ed⟩:=iz (xs:=ds) r0 r1;refine⟨d,l',hd,hl,?_⟩;simp[FF.au,FF.d9,j7,e,ed]
theorem qu{B:Nat}{l:List Ap}{ns:List Int}(h:Hd B l)(hB:B<=1000000)(h0:0<ns.length)(h1:ns.length<1000000):∃n l',n∈ns/\Hd (B+1) l'/\FF.au [.lst l,.lst (ns.map .int)]=some (.v (.int n),[.lst l',.lst (ns.map .int)]):=by
 obtain⟨d,l',hd,hl,e⟩:=pick (ds:=ns.map .int) h hB (by simpa using h0) (by simpa using h1)
 obtain⟨n,hn,rfl⟩:=EL.mp hd;exact⟨n,l',hn,hl,e⟩
theorem oW{a b:Int}(h:(FC a:Int)+FC b<=2 ^ 20):lB (.v (.int a)) (.v (.int b))=some (.v (.int (a*b))):=if_pos (decide_eq_true h)
theorem CG:∃A B C D C18:Int,0<D/\jm (.v (.int 10)) (.v (.int 60))=some (.v (.int A))/\lB (.v (.int A)) (.v (.int A))=some (.v (.int B))/\lB (.v (.int B)) (.v (.int A))=some (.v (.int C))/\lB (.v (.int C)) (.v (.int A))=some (.v (.int D))/\jm (.v (.int 10)) (.v (.int 18))=some (.v (.int C18)) :=
 ⟨_,_,_,_,_,by decide +kernel,tw ⟨by decide,by decide +kernel⟩,oW (by decide +kernel),oW (by decide +kernel),oW (by decide +kernel),tw ⟨by decide,by decide +kernel⟩⟩
theorem hand(ns:List Int)(k:Int)(hl:ns.length<=63)(hk0:0<=k)(hk:k<=100):∃l,Hd 0 l/\FF.b4 [.v (.list (ns.map .int)),.v (.int k)]=some (.lst l,[.v (.list (ns.map .int)),.v (.int k)]):=by
 obtain⟨A,B,C,D,C18,hD,e1,e2,e3,e4,e5⟩:=CG;have hk' : -18446744073709551616<k/\k<18446744073709551616:=by lia
 have fin:∀n:Int,∃l,Hd 0 l/\aI (bz 3 (vB mulM (vB jF (aa 2) (vB lB (vB lB (vB lB (vB jm (vC (.int 10)) (vC (.int 60))) (vB jm (vC (.int 10)) (vC (.int 60)))) (vB jm (vC (.int 10)) (vC (.int 60)))) (vB jm (vC (.int 10)) (vC (.int 60))))) (bF mT (af (vB DC (aa 2) (vB jm (vC (.int 10)) (vC (.int 18))))))))
   (b8 (di (ah (aa 3) (ah (vB jF (vB bZ (vB bZ (vB jF (aa 2) (vC (.int 2305843009213693951))) (vB mulM (vC (.int 7919)) (aa 1))) (vC (.int 3))) (vC (.int 2305843009213693951))) (af (vC (.int 0))))))) [some (.v (.list (ns.map .int))),some (.v (.int k)),some (.v (.int n)),none]=some (.rt (.lst l) [some (.v (.list (ns.map .int))),some (.v (.int k)),some (.v (.int n)),some (.v (.int (n % D*(if C18<=n then 1 else 0))))]):=λn=>by
  have hb : -18446744073709551616<(if C18<=n then (1:Int) else 0)/\(if C18<=n then (1:Int) else 0)<18446744073709551616/\0<=(if C18<=n then (1:Int) else 0):=by split <;> lia
  refine⟨[.int (n % D*(if C18<=n then 1 else 0)),.int ((n % 2305843009213693951+7919*k+3) % 2305843009213693951),.int 0],⟨_,_,_,rfl,Int.mul_nonneg (Je _ (by lia)) hb.2.2,Ko _,by simp⟩,?_⟩
  refine(ay (ρ1:=[some (.v (.list (ns.map .int))),some (.v (.int k)),some (.v (.int n)),some (.v (.int (n % D*(if C18<=n then 1 else 0))))]) (by simp[e1,e2,e3,e4,e5,hD,hb.1,hb.2.1])).trans ?_
  simp[hk',lim]
 by_cases hlt:k<(ns.length:Int)
 ·obtain⟨n,hn,en⟩:=xO (ns:=ns) hk0 hlt
  obtain⟨l,h1,h2⟩:=fin n;refine⟨l,h1,bS (ρ:=[some (.v (.list (ns.map .int))),some (.v (.int k)),some (.v (.int n)),some (.v (.int (n % D*(if C18<=n then 1 else 0))))]) rfl ?_ rfl⟩
  show FF.cu [some (.v (.list (ns.map .int))),some (.v (.int k)),none,none]=_;refine(ay (ρ1:=[some (.v (.list (ns.map .int))),some (.v (.int k)),some (.v (.int 0)),none]) (by simp)).trans ?_
  exact(ay (ρ1:=[some (.v (.list (ns.map .int))),some (.v (.int k)),some (.v (.int n)),none]) (by simp[hlt,en])).trans h2
 ·obtain⟨l,h1,h2⟩:=fin 0
  refine⟨l,h1,bS (ρ:=[some (.v (.list (ns.map .int))),some (.v (.int k)),some (.v (.int 0)),some (.v (.int (0 % D*(if C18<=0 then 1 else 0))))]) rfl ?_ rfl⟩
  show FF.cu [some (.v (.list (ns.map .int))),some (.v (.int k)),none,none]=_;refine(ay (ρ1:=[some (.v (.list (ns.map .int))),some (.v (.int k)),some (.v (.int 0)),none]) (by simp)).trans ?_
  exact(ay (ρ1:=[some (.v (.list (ns.map .int))),some (.v (.int k)),some (.v (.int 0)),none]) (by simp[hlt])).trans h2
noncomputable abbrev xQ:FS:=c9 (xo 2 (ah (cC FF.az (ah (aa 0) (af (vB bZ (bF bT (af (aa 2))) (vC (.int 1)))))) (af (aa 3))))
theorem ng{B:Nat}{l ds:List Ap}(X:Option M)(h:Hd B l)(hB:B+ds.length<=1000000):∃l' es x3,es.Perm ds/\Hd (B+ds.length) l'/\forL (ao 3) xQ ds [some (.lst l),X,some (.lst []),none]=some (.nx [some (.lst l'),X,some (.lst es),x3]):=by
 obtain⟨ρ',e,done,l',es,x3,h1,h2,h3,rfl⟩:=gE (fg:=ao 3) (fb:=xQ) (P:=λrest ρ=>∃done l' es x3,done++rest=ds/\es.Perm done/\Hd (B+done.length) l'/\ρ=[some (.lst l'),X,some (.lst es),x3]) ds _ ⟨[],l,[],none,rfl,.nil,h,rfl⟩ (λd rest ρ hP=>by
  obtain⟨done,l',es,x3,h1,h2,h3,rfl⟩:=hP;have hlen:done.length+(rest.length+1)=ds.length:=by rw[<-h1,E3,E7]
  have hes:=h2.length_eq;obtain⟨r,l2,r0,r1,hl2,e⟩:=take (m:=(es.length:Int)+1) h3 (by lia) (by lia) (by lia)
  refine⟨[some (.lst l'),X,some (.lst es),some (.v d)],[some (.lst l2),X,some (.lst (es.take r.toNat++d::es.drop r.toNat)),some (.v d)],by simp,?_,done++[d],l2,_,_,by rw[EU]; exact h1,?_,?_,rfl⟩
  ·have hc:r<=(es.length:Int):=by lia
   have hlim:es.length<1000000:=by lia
   simp[xQ,e,r0,hc,hlim,lim]
  ·refine List.perm_middle.trans ?_
   rw[List.take_append_drop];exact(List.Perm.cons d h2).trans (List.perm_append_comm (l₁:=[d]) (l₂:=done))
  ·rw[E3,EF]; exact hl2)
 rw[E1] at h1;subst h1;exact⟨l',es,x3,h2,h3,e⟩
theorem shufL{B:Nat}{l ds:List Ap}(h:Hd B l)(hB:B+ds.length<=1000000):∃l' es,es.Perm ds/\Hd (B+ds.length) l'/\FF.aO [.lst l,.lst ds]=some (.lst es,[.lst l',.v (.list ds)]):=by
 obtain⟨l',es,x3,h1,h2,e⟩:=ng (ds:=ds) (some (.v (.list ds))) h hB;refine⟨l',es,h1,h2,bS (ρ:=[some (.lst l'),some (.v (.list ds)),none,x3]) rfl ?_ rfl⟩;show FF.bY [some (.lst l),some (.lst ds),none,none]=_;refine(ay (ρ1:=[some (.lst l),some (.lst ds),some (.lst []),none]) (by simp[lim])).trans ?_
 refine(ay (ρ1:=[some (.lst l'),some (.v (.list ds)),some (.lst es),x3]) ?_).trans (by simp)
 simp[e]
theorem shufT{B:Nat}{l ds:List Ap}(h:Hd B l)(hB:B+ds.length<=1000000):∃l' es,es.Perm ds/\Hd (B+ds.length) l'/\FF.aO [.lst l,.v (.tuple ds)]=some (.lst es,[.lst l',.v (.tuple ds)]):=by
 obtain⟨l',es,x3,h1,h2,e⟩:=ng (ds:=ds) (some (.v (.tuple ds))) h hB;refine⟨l',es,h1,h2,bS (ρ:=[some (.lst l'),some (.v (.tuple ds)),none,x3]) rfl ?_ rfl⟩;show FF.bY [some (.lst l),some (.v (.tuple ds)),none,none]=_;refine(ay (ρ1:=[some (.lst l),some (.v (.tuple ds)),some (.lst []),none]) (by simp[lim])).trans ?_
 refine(ay (ρ1:=[some (.lst l'),some (.v (.tuple ds)),some (.lst es),x3]) ?_).trans (by simp)
 simp[e]
noncomputable def rS(f s:Int)(n:Nat):List Int:=(Ch n).map λ(k:Nat)=>f+s*(k:Int)
theorem uB{f s:Int}{n:Nat}(hs:0<s):(rS f s n).Pairwise (· < ·):=by
 unfold rS;rw[EZ];refine Jj (λ{a b}h=>?_) (List.pairwise_lt_range (n:=n))
 have h':(a:Int)<(b:Int):=by lia
 have:=Int.mul_lt_mul_of_pos_left h' hs;lia
theorem xR(f s:Int)(n:Nat):(rS f s n).length=n:=by unfold rS; rw[At,FB]
theorem places{B:Nat}{l:List Ap}{n:Nat}(h:Hd B l)(hB:B<=100000)(hn:n<=24):∃l' ps,ps.length=n/\ps.Pairwise (· < ·)/\(∀p∈ps,0<=p/\p<=99)/\Hd (B+2) l'/\FF.bP [.lst l,.v (.int (n:Int))]=some (.v (tI ps),[.lst l',.v (.int (n:Int))]):=by
 obtain⟨s,l1,hs,hl1,e1⟩:=qu (ns:=[1,1,3,4]) h (by lia) (by decide) (by decide)
 have hs':s=1\/s=3\/s=4:=by simpa using hs
 generalize hmx:(if 1<(n:Int) then (n:Int)-1 else 0)=mx
 have hmx':0<=mx/\mx<=23/\((n:Int)<=mx+1):=by rw[<-hmx]; split <;> lia
 obtain⟨f,l2,hf,hl2,e2⟩:=qu (ns:=[0,0,5,99-s*mx]) hl1 (by lia) (by simp) (by simp)
 have hf':f=0\/f=5\/f=99-s*mx:=by simpa using hf
 have hsm:dD (n:Int)=true:=decide_eq_true (by unfold oE; lia)
 obtain⟨y,ec⟩:=nc (fe:=vB bZ (aa 1) (vB mulM (aa 2) (aa 0))) (cs:=[some (.v (.int f)),some (.v (.int s))]) (f:=λd=>match d with | .int k=>.int (f+s*k) | _=>.none) (bH 0 (n:Int)) [] none (λd hd=>by
  rw[dg] at hd;obtain⟨k,hk,rfl⟩:=EL.mp hd;refine⟨.t (.v (.int (f+s*(0+(k:Int))))),?_,rfl⟩;have hss : -18446744073709551616<s/\s<18446744073709551616:=by lia
  simp[hss]) (by rw[dg,At,FB,F9]; unfold lim; lia)
 have emap:(bH 0 (n:Int)).map (λd=>match d with | .int k=>EC (f+s*k) | _=>.none)=(rS f s n).map .int:=by
  rw[dg,EM];unfold rS;rw[EM];refine FU λk _=>?_
  simp
 rw[emap,FJ] at ec;refine⟨l2,rS f s n,xR _ _ _,uB (by lia),λp hp=>?_,hl2,?_⟩
 ·obtain⟨k,hk,rfl⟩:=EL.mp hp
  have hk:=GD.mp hk;rcases hs' with rfl | rfl | rfl <;> rcases hf' with rfl | rfl | rfl <;> lia
 ·have hss : -18446744073709551616<s/\s<18446744073709551616:=by lia
  have e1:FF.au [.lst l,.lst [.int 1,.int 1,.int 3,.int 4]]=some (.v (.int s),[.lst l1,.lst [.int 1,.int 1,.int 3,.int 4]]):=e1;have e2:FF.au [.lst l1,.lst [.int 0,.int 0,.int 5,.int (99-s*mx)]]=some (.v (.int f),[.lst l2,.lst [.int 0,.int 0,.int 5,.int (99-s*mx)]]):=e2;refine bS (ρ:=[some (.lst l2),some (.v (.int (n:Int))),some (.v (.int s)),some (.v (.int f))]) rfl ?_ rfl;show FF.b5 [some (.lst l),some (.v (.int (n:Int))),none,none]=_;refine(ay (ρ1:=[some (.lst l1),some (.v (.int (n:Int))),some (.v (.int s)),none]) (by simp[lim,e1])).trans ?_
  refine(ay (ρ1:=[some (.lst l2),some (.v (.int (n:Int))),some (.v (.int s)),some (.v (.int f))]) (by simp[lim,hmx,hss,e2])).trans ?_
  simp[hsm,ec,tI]
theorem CH(a b:Int×Int):ES (pD a) (pD b)=decide (a=b):=by
 obtain⟨x,y⟩:=a;obtain⟨z,t⟩:=b
 by_cases h1:x=z <;> by_cases h2:y=t <;> simp[pD,ES,PyData.eqvAll,h1,h2]
theorem jv(ts:List (Int×Int))(p:Int×Int):((ts.map pD).any λd=>ES d (pD p))=decide (p∈ts):=by
 rw[Iz]
 induction ts with
 |nil=>simp
 |cons t ts ih=>
  rw[Fl,ih];show (ES (pD t) (pD p) || _)=_
  rw[CH]
  by_cases h:t=p
  ·simp[h]
  ·simp[h,Gz h]
theorem eN:∀ts:List (Int×Int),EI (ts.map pD)=true
 |[]=>rfl
 |t::ts=>by
  show (GV (pD t) && EI (ts.map pD))=true;rw[eN ts];rfl
theorem jw(neg:Bool)(ts:List (Int×Int))(p:Int×Int):fM neg (.v (pD p)) (.lst (ts.map pD))=some (.v (.bool (if neg then !decide (p∈ts) else decide (p∈ts)))):=by
 show (if okIn (ts.map pD) (pD p)=true then some (M.v (.bool (if neg then !((ts.map pD).any λd=>ES d (pD p)) else (ts.map pD).any λd=>ES d (pD p)))) else none)=_
 rw[jv,if_pos];unfold okIn;rw[eN];rfl
theorem ni{n k x:Nat}(h:(Ch n)[k]? = some x):x=k/\k<n:=by
 obtain⟨h1,e⟩:=EA.mp h;rw[Kv] at e;rw[FB] at h1;exact⟨e.symm,h1⟩
structure Row(b:Nat)(tys:List (Int×Int)):Prop where
 nd:tys.Nodup
 bd:∀t∈tys,0<=t.1/\t.1<t.2/\t.2<b
 ln:tys.length<=30*b
noncomputable abbrev rT:FT:=gI (aW (vB (fM true) (bG (ah (aa 0) (af (aa 1)))) (aa 2))) (aW (vB (fK false) (cC FF.az (ah (aa 3) (af (aa 4)))) (vC (.int 0))))
noncomputable abbrev xS:FE:=bG (ah (aa 0) (af (aa 1)))
theorem xT{B b:Nat}{l:List Ap}{tys:List (Int×Int)}{sp:Int}(h:Hd B l)(hB:B+b<=1000000)(hb:b<=1000)(hs:0<sp)(hs2:sp<1000):∃ (acc:List (Int×Int)) (l':List Ap) (x0:Option M),Hd (B+b) l'/\acc.Nodup/\(∀t∈acc,t.2=(b:Int)/\0<=t.1/\t.1<(b:Int)/\t∉tys)/\acc.length<=b /\
  cU (ao 0) rT xS (bH 0 (b:Int)) [none,some (.v (.int (b:Int))),some (.lst (tys.map pD)),some (.lst l),some (.v (.int sp))] []=some (acc.map pD,[x0,some (.v (.int (b:Int))),some (.lst (tys.map pD)),some (.lst l'),some (.v (.int sp))]):=by
 obtain⟨acc,ρ',e,k,acc',l',x0,hk,hkl,h1,h2,h3,h4,h5,rfl⟩:=xj (fg:=ao 0) (ft:=rT) (fe:=xS) (P:=λrest acc ρ=>∃ (k:Nat) (acc':List (Int×Int)) (l':List Ap) (x0:Option M),rest=((Ch b).drop k).map (λk:Nat=>EC (0+(k:Int)))/\k<=b/\acc=acc'.map pD/\Hd (B+k) l'/\acc'.Nodup/\(∀t∈acc',t.2=(b:Int)/\0<=t.1/\t.1<(k:Int)/\t∉tys)/\acc'.length<=k/\ρ=[x0,some (.v (.int (b:Int))),some (.lst (tys.map pD)),some (.lst l'),some (.v (.int sp))])
  (bH 0 (b:Int)) _ [] ⟨0,[],l,none,by rw[dg]; rfl,EY _,rfl,h,EX,λt ht=>by simp at ht,Db _,rfl⟩ (λd rest acc ρ hP=>by
   obtain⟨k,acc',l',x0,hr,hkb,rfl,hl,nd,bd,ln,rfl⟩:=hP;obtain⟨x,hx,rfl,hr'⟩:=iQ hr;obtain⟨rfl,hkn⟩:=ni hx;have hin:=jw true tys (0+(x:Int),(b:Int));obtain⟨r,l2,r0,r1,hl2,et⟩:=take (m:=sp) hl (by lia) hs (by lia)
   refine⟨by rw[At]; unfold lim; lia,[some (.v (.int (0+(x:Int)))),some (.v (.int (b:Int))),some (.lst (tys.map pD)),some (.lst l'),some (.v (.int sp))],?_⟩
   by_cases hm:(0+(x:Int),(b:Int))∈tys
   ·refine⟨false,[some (.v (.int (0+(x:Int)))),some (.v (.int (b:Int))),some (.lst (tys.map pD)),some (.lst l'),some (.v (.int sp))],by simp,?_,.inl ⟨rfl,x+1,acc',l',_,hr',by lia,rfl,hl.mono (by lia),nd,λt ht=>?_,by lia,rfl⟩⟩
    ·have hm':((x:Int),(b:Int))∈tys:=by simpa using hm
     have hin':fM true (.v (.tuple [.int (x:Int),.int (b:Int)])) (.lst (tys.map pD))=some (.v (.bool false)):=by have:=jw true tys ((x:Int),(b:Int)); simpa[hm'] using this
     simp[rT,lim,hin']
    ·have:=bd t ht
     exact⟨this.1,this.2.1,by lia,this.2.2.2⟩
   ·have hm':((x:Int),(b:Int))∉tys:=by simpa using hm
    have hin':fM true (.v (.tuple [.int (x:Int),.int (b:Int)])) (.lst (tys.map pD))=some (.v (.bool true)):=by have:=jw true tys ((x:Int),(b:Int)); simpa[hm'] using this
    by_cases h0:r=0
    ·refine⟨true,[some (.v (.int (0+(x:Int)))),some (.v (.int (b:Int))),some (.lst (tys.map pD)),some (.lst l2),some (.v (.int sp))],by simp,?_,.inr ⟨rfl,.t (.v (pD (0+(x:Int),(b:Int)))),[some (.v (.int (0+(x:Int)))),some (.v (.int (b:Int))),some (.lst (tys.map pD)),some (.lst l2),some (.v (.int sp))],pD (0+(x:Int),(b:Int)),_,?_,rfl,x+1,acc'++[(0+(x:Int),(b:Int))],l2,_,hr',by lia,by rw[Fy]; rfl,hl2,?_,λt ht=>?_,?_,rfl⟩⟩
     ·simp[rT,lim,hin',et,h0]
     ·simp[xS,lim]
     ·rw[E2]
      refine⟨nd,EG.mpr ⟨by simp,EX⟩,λu hu v hv e=>?_⟩
      rw[Do] at hv;have:=bd u hu;rw[e,hv] at this;simp at this
     ·rcases lM ht with h | h
      ·have:=bd t h
       exact⟨this.1,this.2.1,by lia,this.2.2.2⟩
      ·rw[Do] at h
       subst h;exact⟨rfl,by simp,by simp; lia,hm⟩
     ·rw[E3,EF]; lia
    ·refine⟨false,[some (.v (.int (0+(x:Int)))),some (.v (.int (b:Int))),some (.lst (tys.map pD)),some (.lst l2),some (.v (.int sp))],by simp,?_,.inl ⟨rfl,x+1,acc',l2,_,hr',by lia,rfl,hl2,nd,λt ht=>?_,by lia,rfl⟩⟩
     ·simp[rT,lim,hin',et,h0]
     ·have:=bd t ht
      exact⟨this.1,this.2.1,by lia,this.2.2.2⟩)
 subst h1;have hkb:k=b:=by
  have:=congrArg Hz hk;rw[F9,At,HJ,FB] at this;lia
 subst hkb;exact⟨acc',l',x0,h2,h3,h4,h5,e⟩
noncomputable abbrev rowS:FS:=aI (cI (lZ (aa 4)) (c9 (qh 6 (af (bG (ah (cC FF.az (ah (aa 0) (af (aa 7)))) (af (aa 7))))))) bI)
 (c9 (qk 6 (af (lq 1 [7,6,0,3] (dS i7 (af (aa 7))) (ao 0) rT xS))))
theorem row{mo:Int}{B b:Nat}{l:List Ap}{tys:List (Int×Int)}{sp n:Int}{tree:Bool}{P:Ap}(h:Hd B l)(hB:B+b+1<=1000000)(hb0:0<b)(hb:b<=24)(hs:0<sp)(hs2:sp<1000)(hT:Row b tys):∃l' tys',Hd (B+b+1) l'/\Row (b+1) tys' /\
  rowS [some (.lst l),some (.v (.int n)),some (.v (.int mo)),some (.v (.int sp)),some (.v (.bool tree)),some (.v P),some (.lst (tys.map pD)),some (.v (.int (b:Int)))]=some (.nx [some (.lst l'),some (.v (.int n)),some (.v (.int mo)),some (.v (.int sp)),some (.v (.bool tree)),some (.v P),some (.lst (tys'.map pD)),some (.v (.int (b:Int)))]):=by
 have hsm:dD (b:Int)=true:=decide_eq_true (by unfold oE; lia)
 have fin:∀(B':Nat)(l1:List Ap)(t1:List (Int×Int)),B'<=B+1->Hd B' l1->t1.Nodup->(∀t∈t1,0<=t.1/\t.1<t.2/\t.2<b+1)->t1.length<=30*b+1->∃l' tys',Hd (B+b+1) l'/\Row (b+1) tys' /\
   c9 (qk 6 (af (lq 1 [7,6,0,3] (dS i7 (af (aa 7))) (ao 0) rT xS))) [some (.lst l1),some (.v (.int n)),some (.v (.int mo)),some (.v (.int sp)),some (.v (.bool tree)),some (.v P),some (.lst (t1.map pD)),some (.v (.int (b:Int)))]=some (.nx [some (.lst l'),some (.v (.int n)),some (.v (.int mo)),some (.v (.int sp)),some (.v (.bool tree)),some (.v P),some (.lst (tys'.map pD)),some (.v (.int (b:Int)))]):=λB' l1 t1 hB' h1 nd bd ln=>by
  obtain⟨acc,l',x0,hl',nd',bd',ln',e⟩:=xT (tys:=t1) (sp:=sp) (b:=b) h1 (by lia) (by lia) hs hs2
  refine⟨l',t1++acc,hl'.mono (by lia),⟨?_,λt ht=>?_,?_⟩,?_⟩
  ·rw[E2]
   exact⟨nd,nd',λu hu v hv e=>(bd' v hv).2.2.2 (e▸hu)⟩
  ·rcases lM ht with h | h
   ·have:=bd t h
    exact⟨this.1,this.2.1,by lia⟩
   ·have:=bd' t h
    exact⟨this.2.1,by lia,by lia⟩
  ·rw[E3]; lia
  ·have hlim:t1.length+acc.length<=1000000:=by lia
   simp[hsm,e,hlim,lim]
 cases tree with
 |false=>
  obtain⟨l',tys',k1,k2,e⟩:=fin B l tys (by lia) h hT.nd (λt ht=>by have:=hT.bd t ht; exact⟨this.1,this.2.1,by lia⟩) (by have:=hT.ln; lia)
  exact⟨l',tys',k1,k2,(ay (ρ1:=[some (.lst l),some (.v (.int n)),some (.v (.int mo)),some (.v (.int sp)),some (.v (.bool false)),some (.v P),some (.lst (tys.map pD)),some (.v (.int (b:Int)))]) (by simp)).trans e⟩
 |true=>
  obtain⟨r,l1,r0,r1,hl1,et⟩:=take (m:=(b:Int)) h (by lia) (by lia) (by lia)
  have hlim:tys.length<1000000:=by have:=hT.ln; lia
  obtain⟨l',tys',k1,k2,e⟩:=fin (B+1) l1 (tys++[(r,(b:Int))]) (by lia) hl1 (by
   rw[E2];refine⟨hT.nd,EG.mpr ⟨by simp,EX⟩,λu hu v hv e=>?_⟩
   rw[Do] at hv;have:=hT.bd u hu;rw[e,hv] at this;simp at this) (λt ht=>by
   rcases lM ht with h | h
   ·have:=hT.bd t h
    exact⟨this.1,this.2.1,by lia⟩
   ·rw[Do] at h
    subst h;exact⟨r0,r1,by simp; lia⟩) (by rw[E3,EF]; have:=hT.ln; lia)
  refine⟨l',tys',k1,k2,(ay (ρ1:=[some (.lst l1),some (.v (.int n)),some (.v (.int mo)),some (.v (.int sp)),some (.v (.bool true)),some (.v P),some (.lst ((tys++[(r,(b:Int))]).map pD)),some (.v (.int (b:Int)))]) ?_).trans e⟩;simp[et,lim,hlim]
theorem rows{mo:Int}{B n:Nat}{l:List Ap}{sp:Int}{tree:Bool}{P:Ap}(h:Hd B l)(hB:B<=100000)(hn:n<=24)(hs:0<sp)(hs2:sp<1000):∃l' tys x7,Hd (B+30*n) l'/\Row n tys /\
  forL (ao 7) rowS (bH 1 (n:Int)) [some (.lst l),some (.v (.int (n:Int))),some (.v (.int mo)),some (.v (.int sp)),some (.v (.bool tree)),some (.v P),some (.lst []),none]=some (.nx [some (.lst l'),some (.v (.int (n:Int))),some (.v (.int mo)),some (.v (.int sp)),some (.v (.bool tree)),some (.v P),some (.lst (tys.map pD)),x7]):=by
 have hr:bH 1 (n:Int)=(Ch (n-1)).map λk:Nat=>EC (1+(k:Int)):=by
  unfold bH;rw[show ((n:Int)-1).toNat=n-1 by lia]
 obtain⟨ρ',e,k,l',tys,x7,hk,hkl,h1,h2,rfl⟩:=gE (fg:=ao 7) (fb:=rowS) (P:=λrest ρ=>∃ (k:Nat) (l':List Ap) (tys:List (Int×Int)) (x7:Option M),rest=((Ch (n-1)).drop k).map (λk:Nat=>EC (1+(k:Int)))/\k<=n-1/\Hd (B+30*k) l'/\Row (k+1) tys/\ρ=[some (.lst l'),some (.v (.int (n:Int))),some (.v (.int mo)),some (.v (.int sp)),some (.v (.bool tree)),some (.v P),some (.lst (tys.map pD)),x7])
  (bH 1 (n:Int)) _ ⟨0,l,[],none,hr,EY _,h,⟨EX,λt ht=>by simp at ht,EY _⟩,rfl⟩ (λd rest ρ hP=>by
   obtain⟨k,l',tys,x7,hk,hkl,h1,h2,rfl⟩:=hP;obtain⟨x,hx,rfl,hr'⟩:=iQ hk;obtain⟨rfl,hkn⟩:=ni hx;obtain⟨l2,tys2,k1,k2,e⟩:=row (b:=x+1) (n:=(n:Int)) (tree:=tree) (P:=P) h1 (by lia) (by lia) (by lia) hs hs2 h2
   refine⟨[some (.lst l'),some (.v (.int (n:Int))),some (.v (.int mo)),some (.v (.int sp)),some (.v (.bool tree)),some (.v P),some (.lst (tys.map pD)),some (.v (.int ((x+1:Nat):Int)))],_,?_,e,x+1,l2,tys2,_,hr',by lia,k1.mono (by lia),k2,rfl⟩
   simp;lia)
 have hkn:k=n-1:=by
  have:=congrArg Hz hk;rw[F9,At,HJ,FB] at this;lia
 subst hkn;refine⟨l',tys,x7,h1.mono (by lia),?_,e⟩
 by_cases h0:n=0
 ·subst h0
  have:tys=[]:=by
   cases tys with
   |nil=>rfl
   |cons t ts=>have:=h2.bd t lS; lia
  subst this;exact⟨EX,λt ht=>by simp at ht,EY _⟩
 ·rw[show n-1+1=n by lia] at h2
  exact h2
theorem uC(ds:List Ap)(k:Nat):cutD ds none (some (k:Int))=ds.take k:=by
 unfold cutD;rw[HT.vg,HT.yx,KU,Lj]
 by_cases h:k<=ds.length
 ·rw[Nat.min_eq_left h]
 ·rw[Nat.min_eq_right (by lia),LO,K7 (by lia)]
noncomputable def DR:Ap->Int×Int
 |.tuple [.int a,.int b]=>(a,b)
 |_=>(0,0)
theorem Ac(ts:List (Int×Int)):(ts.map pD).map DR=ts:=by
 rw[EM];exact Gr ts
theorem rU{es:List Ap}{ts:List (Int×Int)}(h:es.Perm (ts.map pD)):∃ts':List (Int×Int),es=ts'.map pD/\ts'.Perm ts:=by
 refine⟨es.map DR,?_,?_⟩
 ·rw[EM]
  refine(Gr es).symm.trans (FU λe he=>?_)
  obtain⟨t,_,rfl⟩:=EL.mp (h.mem_iff.mp he);rfl
 ·have:=h.map DR
  rw[Ac] at this;exact this
noncomputable def DS:Ap->Int
 |.int a=>a
 |_=>0
theorem jL{fe:FE}{cs:Ev}{f:Int×Int->Ap}:∀(ts:List (Int×Int))(acc:List Ap)(x y:Option M),(∀t∈ts,∃o,fe (some (.v (.int t.1))::some (.v (.int t.2))::cs)=some (o,some (.v (.int t.1))::some (.v (.int t.2))::cs)/\cS o (some (.v (.int t.1))::some (.v (.int t.2))::cs)=some (f t,some (.v (.int t.1))::some (.v (.int t.2))::cs))->acc.length+ts.length<=lim ->
  ∃x' y',cU (b3 2 (aB (ao 0) (aB (ao 1) b9))) dI fe (ts.map pD) (x::y::cs) acc=some (acc++ts.map f,x'::y'::cs)
 |[],acc,x,y,_,_=>⟨x,y,by rw[IM,IM,E1]; rfl⟩
 |t::ts,acc,x,y,h,hl=>by
  obtain⟨o,e1,e2⟩:=h t lS;rw[E7] at hl;obtain⟨x',y',e3⟩:=jL (fe:=fe) (cs:=cs) (f:=f) ts (acc++[f t]) (some (.v (.int t.1))) (some (.v (.int t.2))) (λd' hd=>h d' (lO _ hd)) (by rw[E3,EF]; lia)
  refine⟨x',y',?_⟩;show (b3 2 (aB (ao 0) (aB (ao 1) b9)) (pD t) (x::y::cs)).bind _=_;rw[show b3 2 (aB (ao 0) (aB (ao 1) b9)) (pD t) (x::y::cs)=some (some (.v (.int t.1))::some (.v (.int t.2))::cs) by simp]
  show (fe (some (.v (.int t.1))::some (.v (.int t.2))::cs)).bind _=_;rw[e1];show (cS o (some (.v (.int t.1))::some (.v (.int t.2))::cs)).bind _=_;rw[e2];show (if acc.length<lim then _ else _)=_
  rw[if_pos (by lia)]
  rw[show cU (b3 2 (aB (ao 0) (aB (ao 1) b9))) dI fe (ts.map pD) (some (.v (.int t.1))::some (.v (.int t.2))::cs) (acc++[f t])=_ from e3,EH,EU]
  rfl
noncomputable def jM(ps:List Int)(i:Int):Int:=ps.getD i.toNat 0
theorem jx{ps:List Int}{i:Int}(h0:0<=i)(h1:i<ps.length):jf (ps.map EC) i=some (.int (jM ps i))/\jM ps i∈ps:=by
 obtain⟨k,rfl⟩:=Gd h0;have hk:k<ps.length:=by lia
 have e:jM ps (k:Int)=ps[k]:=by
  unfold jM;rw[Fv,ER,E5 hk];rfl
 refine⟨ez (by rw[E9,E5 hk,e]; rfl),by rw[e]; exact IF hk⟩
theorem oX{ps:List Int}(rise:ps.Pairwise (· < ·)){i j:Int}(h0:0<=i)(h1:i<j)(h2:j<ps.length):jM ps i<jM ps j:=by
 obtain⟨k,rfl⟩:=Gd h0;obtain⟨m,rfl⟩:=Gd (show 0<=j by lia)
 have hk:k<ps.length:=by lia
 have hm:m<ps.length:=by lia
 unfold jM;rw[Fv,Fv,ER,ER,E5 hk,E5 hm];exact(Jo.mp rise) k m hk hm (by lia)
theorem webM(mo:Nat)(hmo:mo<=60){B n:Nat}{l:List Ap}(h:Hd B l)(hB:B<=9000)(hn:n<=24):∃l' ps ts,Hd (B+2000) l'/\bE ps ts/\ps.length=n/\ts.length<=mo/\FF.aM [.lst l,.v (.int (n:Int)),.v (.int (mo:Int))]=some (.v (wD ps ts),[.lst l',.v (.int (n:Int)),.v (.int (mo:Int))]):=by
 obtain⟨sp,l1,hsp,hl1,e1⟩:=qu (ns:=[2,3,5,9,1]) h (by lia) (by decide) (by decide)
 have hsp':0<sp/\sp<1000:=by
  simp only[FL,EE,or_false] at hsp;lia
 obtain⟨tr,l2,tr0,tr1,hl2,e2⟩:=take (m:=2) hl1 (by lia) (by decide) (by decide)
 obtain⟨l3,ps,hlen,rise,rng,hl3,e3⟩:=places (n:=n) hl2 (by lia) hn
 obtain⟨l4,tys,x7,hl4,hT,e4⟩:=rows (n:=n) (sp:=sp) (tree:=decide (tr=0)) (P:=tI ps) hl3 (by lia) hn hsp'.1 hsp'.2
 have hln:(tys.map pD).length<=720:=by rw[At]; have:=hT.ln; lia
 obtain⟨l5,es,hp,hl5,e5⟩:=shufL (ds:=tys.map pD) hl4 (by lia)
 obtain⟨tys',rfl,hp'⟩:=rU hp;have nd':(tys'.take mo).Nodup:=((hp'.nodup_iff.mpr hT.nd)).sublist (LG _ _);have e6:=ir (ts:=tys'.take mo) (by rw[Gu]; lia)
 generalize hix:bW (tys'.take mo)=ix at e6;have hixp:ix.Perm (tys'.take mo):=hix▸dO _;have hup:ix.Pairwise uA:=hix▸lD nd';have hbd:∀t∈ix,0<=t.1/\t.1<t.2/\t.2<n:=λt ht=>hT.bd t (hp'.mem_iff.mp (List.mem_of_mem_take (hixp.mem_iff.mp ht)))
 have hl60:ix.length<=60:=by rw[hixp.length_eq,Gu]; lia
 obtain⟨z1,z2,e7⟩:=jL (fe:=bG (ah (cZ (aa 2) (aa 0)) (af (cZ (aa 2) (aa 1))))) (cs:=[some (.v (tI ps))]) (f:=λt=>pD (jM ps t.1,jM ps t.2)) ix [] none none (λt ht=>by
  have hb:=hbd t ht;have g1:=(jx (ps:=ps) (i:=t.1) hb.1 (by lia)).1
  have g2:=(jx (ps:=ps) (i:=t.2) (by lia) (by lia)).1
  refine⟨.t (.v (pD (jM ps t.1,jM ps t.2))),?_,rfl⟩;simp[tI,g1,g2,lim]) (by rw[F9]; unfold lim; lia)
 rw[FJ] at e7;refine⟨l5,ps,ix.map λt=>(jM ps t.1,jM ps t.2),hl5.mono (by lia),⟨rise,rng,by lia,?_,λt ht=>?_,λt ht=>?_,by rw[At]; exact hl60⟩,hlen,by rw[At,hixp.length_eq,Gu]; lia,?_⟩
 ·rw[EZ]
  refine List.Pairwise.imp_of_mem (λ{a b}ha hb hab=>?_) hup
  have ba:=hbd a ha;have bb:=hbd b hb;rcases hab with h | ⟨h,h'⟩
  ·exact .inl (oX rise ba.1 h (by lia))
  ·exact .inr ⟨by simp only; rw[h],oX rise (by lia) h' (by lia)⟩
 ·obtain⟨u,hu,rfl⟩:=EL.mp ht
  have b:=hbd u hu;exact oX rise b.1 b.2.1 (by lia)
 ·obtain⟨u,hu,rfl⟩:=EL.mp ht
  have b:=hbd u hu;exact⟨(jx b.1 (by lia)).2,(jx (by lia) (by lia)).2⟩
 ·have e1:FF.au [.lst l,.lst [.int 2,.int 3,.int 5,.int 9,.int 1]]=some (.v (.int sp),[.lst l1,.lst [.int 2,.int 3,.int 5,.int 9,.int 1]]):=e1
  have hsm:dD (n:Int)=true:=decide_eq_true (by unfold oE; lia)
  have hsm1:dD 1=true:=rfl;have hcut:cutD (tys'.map pD) none (some (mo:Int))=(tys'.map pD).take mo:=uC _ _;rw[List.map_take] at e6;refine bS (ρ:=[some (.lst l5),some (.v (.int (n:Int))),some (.v (.int (mo:Int))),some (.v (.int sp)),some (.v (.bool (decide (tr=0)))),some (.v (tI ps)),some (.v (.list (ix.map pD))),x7]) rfl ?_ rfl;show FF.cK [some (.lst l),some (.v (.int (n:Int))),some (.v (.int (mo:Int))),none,none,none,none,none]=_;refine(ay (ρ1:=[some (.lst l2),some (.v (.int (n:Int))),some (.v (.int (mo:Int))),some (.v (.int sp)),some (.v (.bool (decide (tr=0)))),none,none,none]) (by simp[lim,e1,e2])).trans ?_
  refine(ay (ρ1:=[some (.lst l3),some (.v (.int (n:Int))),some (.v (.int (mo:Int))),some (.v (.int sp)),some (.v (.bool (decide (tr=0)))),some (.v (tI ps)),some (.lst []),none]) (by simp[lim,e3])).trans ?_
  refine(ay (ρ1:=[some (.lst l4),some (.v (.int (n:Int))),some (.v (.int (mo:Int))),some (.v (.int sp)),some (.v (.bool (decide (tr=0)))),some (.v (tI ps)),some (.lst (tys.map pD)),x7]) (by simp[hsm,hsm1]; exact e4)).trans ?_
  refine(ay (ρ1:=[some (.lst l5),some (.v (.int (n:Int))),some (.v (.int (mo:Int))),some (.v (.int sp)),some (.v (.bool (decide (tr=0)))),some (.v (tI ps)),some (.lst (ix.map pD)),x7]) (by simp[e5,hcut,e6])).trans ?_
  simp[e7,lim]
end PQ
end
section
namespace PS
open PySem L2 VL PA PQ
theorem rV(a b:Int):(bH a b).length=(b-a).toNat:=by unfold bH; rw[At,FB]
theorem small{k:Int}(h : -1000<=k/\k<=1000):dD k=true:=decide_eq_true (by unfold oE; lia)
end PS
end
section
namespace PA
open PySem L2 VL
theorem qv(ns:List Int)(a:Int):((ns.map EC).any λd=>ES d (.int a))=decide (a∈ns):=by
 rw[Iz]
 induction ns with
 |nil=>simp
 |cons m ns ih=>
  rw[Fl,ih];show ((m == a) || _)=_
  by_cases h:m=a
  ·simp[h]
  ·simp[h,Gz h]
theorem tE(neg:Bool)(ns:List Int)(a:Int):fM neg (.v (.int a)) (.v (.tuple (ns.map .int)))=some (.v (.bool (if neg then !decide (a∈ns) else decide (a∈ns)))):=by
 show CW neg (.v (.int a)) (.v (.tuple (ns.map .int)))=_;show (if okIn (ns.map .int) (.int a)=true then some (M.v (.bool (if neg then !((ns.map EC).any λd=>ES d (.int a)) else (ns.map EC).any λd=>ES d (.int a)))) else none)=_
 rw[qv,if_pos];unfold okIn;rw[pY];rfl
end PA
end
section
namespace PS
open PySem L2 VL PA PQ
section
variable{n md mo:Int}{ρ:Ev}(h0:0<=n)(hn:n<=24)(m0:0<=md)(m1:md<7)
include h0 hn m0 m1
end
end PS
end
section
namespace PQ
open PySem L2 VL PA
theorem jy{α β:Type}(f:α->β):∀(xs:List α)(k:Nat),(xs.map f).eraseIdx k=(xs.eraseIdx k).map f
 |[],_=>rfl
 |_::_,0=>rfl
 |x::xs,k+1=>by simp[jy f xs k]
theorem xU{kvs:List (Key×Ap)}{k:Key}{d:Ap}(h:k∉kvs.map (·.1)):putD kvs k d=kvs++[(k,d)]:=by
 unfold putD;rw[if_neg];intro z;obtain⟨kv,hm,e⟩:=List.any_eq_true.mp z;exact h (EL.mpr ⟨kv,hm,of_decide_eq_true e⟩)
theorem tF:∀(ks:List Key)(bs:List Ap)(acc:List (Key×Ap)),ks.Nodup->(∀k∈ks,k∉acc.map (·.1))->(ks.zip bs).foldl (λacc p=>putD acc p.1 p.2) acc=acc++ks.zip bs
 |[],_,acc,_,_=>by rw[Hy,E1]; rfl
 |_::_,[],acc,_,_=>by rw[Hj,E1]; rfl
 |k::ks,b::bs,acc,nd,h=>by
  obtain⟨n1,n2⟩:=EG.mp nd;rw[GB,JM,xU (h k lS),tF ks bs _ n2 λj hj hm=>?_,EU]
  ·rfl
  ·rw[Fy] at hm
   rcases lM hm with z | z
   ·exact h j (lO _ hj) z
   ·have:j=k:=by simpa using z
    exact n1 (this▸hj)
theorem CI{ks:List Key}{bs:List Ap}(nd:ks.Nodup):DJ ks bs=ks.zip bs:=by
 unfold DJ;rw[tF ks bs [] nd λk _ h=>by simp at h]
 rfl
theorem lF:∀ns:List Int,jq (ns.map .int)=some (ns.map GP)
 |[]=>rfl
 |n::ns=>by
  show (eB (.int n)).bind _=_;rw[show eB (.int n)=some (.inl n) from rfl]
  show (jq (ns.map .int)).bind _=_;rw[lF ns];rfl
noncomputable def aP:List Int->List Int->Int->Int
 |p::ps,n::ns,x=>if p=x then n else aP ps ns x
 |_,_,_=>0
theorem qw:∀{ps nm:List Int}{x:Int},nm.length=ps.length->x∈ps->cN ((ps.map GP).zip (nm.map EC)) (.inl x)=some (.int (aP ps nm x))
 |[],_,_,_,h=>by simp at h
 |_::_,[],_,h,_=>by simp at h
 |p::ps,n::nm,x,hl,h=>by
  unfold cN;rw[EH,EH,GB,Fe]
  by_cases e:p=x
  ·rw[show decide ((GP p:Key)=.inl x)=true by simp[e]]
   unfold aP;rw[if_pos e];rfl
  ·rw[show decide ((GP p:Key)=.inl x)=false by simp[e]]
   unfold aP;rw[if_neg e];have h':x∈ps:=by
    rcases lK h with z | z
    ·exact absurd z.symm e
    ·exact z
   exact qw (ps:=ps) (nm:=nm) (by simpa using hl) h'
theorem Ad{ps nm:List Int}(nd:ps.Nodup):De [.v (tI ps),.v (tI nm)]=some (.cz ((ps.map GP).zip (nm.map EC))):=by
 show (jq (ps.map .int)).bind _=_;rw[lF,EB];show some (M.cz (DJ (ps.map GP) (nm.map EC)))=_;rw[CI];unfold List.Nodup;rw[EZ];exact Jj (λ{a b}h e=>h (Hh e)) nd
theorem gf:∀{ps nm:List Int}{x:Int},nm.length=ps.length->x∈ps->aP ps nm x∈nm
 |[],_,_,_,h=>by simp at h
 |_::_,[],_,h,_=>by simp at h
 |p::ps,n::nm,x,hl,h=>by
  unfold aP
  split
  ·exact lS
  ·next e=>
   refine lO _ (gf (ps:=ps) (by simpa using hl) ?_)
   rcases lK h with z | z
   ·exact absurd z.symm e
   ·exact z
theorem gg:∀{ps nm:List Int}{x:Int},nm.length=ps.length->nm.Nodup->x∈ps->aP nm ps (aP ps nm x)=x
 |[],_,_,_,_,h=>by simp at h
 |_::_,[],_,h,_,_=>by simp at h
 |p::ps,n::nm,x,hl,nd,h=>by
  obtain⟨n1,n2⟩:=EG.mp nd
  by_cases e:p=x
  ·rw[show aP (p::ps) (n::nm) x=n by unfold aP; rw[if_pos e]]
   unfold aP;rw[if_pos rfl,e]
  ·have h':x∈ps:=by
    rcases lK h with z | z
    ·exact absurd z.symm e
    ·exact z
   rw[show aP (p::ps) (n::nm) x=aP ps nm x by conv=>lhs; unfold aP; rw[if_neg e]]
   have hm:=gf (ps:=ps) (nm:=nm) (by simpa using hl) h'
   have hne:¬n=aP ps nm x:=λz=>n1 (z▸hm)
   rw[show aP (n::nm) (p::ps) (aP ps nm x)=aP nm ps (aP ps nm x) from if_neg hne]
   exact gg (by simpa using hl) n2 h'
theorem qx:∀{xs:List Int}{f:Int->Int}{x:Int},x∈xs->aP xs (xs.map f) x=f x
 |[],_,_,h=>by simp at h
 |a::xs,f,x,h=>by
  rw[EH];unfold aP
  split
  ·next e=>rw[e]
  ·next e=>
   refine qx ?_;rcases lK h with z | z
   ·exact absurd z.symm e
   ·exact z
theorem qy:∀{ps nm:List Int},nm.length=ps.length->ps.Nodup->ps.map (aP ps nm)=nm
 |[],nm,h,_=>by
  have:nm=[]:=Fp.mp (by simpa using h)
  rw[this]; rfl
 |_::_,[],h,_=>by simp at h
 |p::ps,n::nm,h,nd=>by
  obtain⟨n1,n2⟩:=EG.mp nd;rw[EH];have e1:aP (p::ps) (n::nm) p=n:=by unfold aP; rw[if_pos rfl]
  have e2:ps.map (aP (p::ps) (n::nm))=ps.map (aP ps nm):=FU λx hx=>by
   have hne:¬p=x:=λz=>n1 (z▸hx)
   exact if_neg hne
  rw[e1,e2,qy (by simpa using h) n2]
noncomputable def mn(x y:Int):Int:=if y<x then y else x
noncomputable def mx(x y:Int):Int:=if y>x then y else x
theorem uD(x y:Int):sortI [x,y]=[mn x y,mx x y]:=by
 refine(iZ ?_ ?_).symm
 ·unfold mn mx
  by_cases h:y<x
  ·rw[if_pos h,if_neg (by lia)]; exact List.Perm.swap _ _ _
  ·by_cases h':y>x
   ·rw[if_neg h,if_pos h']
   ·rw[if_neg h,if_neg h',show x=y by lia]
 ·unfold mn mx
  simp only[Hk,Do,EE,false_implies,implies_true,forall_eq,IR,and_true]
  split <;> split <;> lia
theorem lG{ts ts':List (Int×Int)}(p:ts'.Perm ts)(s:ts.Pairwise uA):bW ts'=ts:=by
 have h:=i0 (ns:=ts'.map enc) (ns':=ts.map enc) (p.symm.map enc) (by
  rw[EZ];refine s.imp λ{a b}h=>?_
  rw[m9];refine decide_eq_false λz=>?_
  unfold uA at h z;lia)
 rw[jK] at h;have:=congrArg (List.map dec) h;rw[ig,ig] at this;exact this.symm
theorem jX{ns ns':List Int}(p:ns'.Perm ns)(s:ns.Pairwise (· < ·)):sortI ns'=ns:=(iZ p.symm (s.imp λh=>Int.le_of_lt h)).symm
noncomputable def bA(ps nm:List Int)(t:Int×Int):Int×Int:=(mn (aP ps nm t.1) (aP ps nm t.2),mx (aP ps nm t.1) (aP ps nm t.2))
def sm(n:Int):Prop:=0<=n/\n<=99
theorem xV{n:Int}(h:sm n):n.natAbs.log2<7:=by
 unfold sm at h
 by_cases h0:n.natAbs=0
 ·rw[h0]; decide
 ·exact(Nat.log2_lt h0).mpr (by lia)
theorem uE{n:Int}(h:sm n):Ia (.int n)<=7:=by
 unfold Ia;have:=xV h
 split <;> lia
theorem ci:∀(ns:List Int),EI (ns.map .int)=true
 |[]=>rfl
 |n::ns=>by show (GV (.int n) && EI (ns.map .int))=true; rw[ci ns]; rfl
theorem D6:∀(ns:List Int),(∀n∈ns,sm n)->Ig (ns.map .int)=true
 |[],_=>rfl
 |n::ns,h=>by
  show (L4 (.int n) && Ig (ns.map .int))=true;rw[D6 ns λm hm=>h m (lO _ hm),Bool.and_true]
  have:=xV (h n lS);exact decide_eq_true (by lia)
theorem DT:∀(ns:List Int),Ge (ns.map .int)=0
 |[]=>rfl
 |n::ns=>by show max (Fk (.int n)) (Ge (ns.map .int))=0; rw[DT ns]; rfl
theorem D7:∀(ns:List Int),(∀n∈ns,sm n)->Iw (ns.map .int)<=8*ns.length
 |[],_=>Db _
 |n::ns,h=>by
  show Ia (.int n)+1+Iw (ns.map .int)<=_;have h1:=uE (h n lS);have h2:=D7 ns λm hm=>h m (lO _ hm)
  rw[E7];lia
theorem Ep(ns:List Int)(h:∀n∈ns,sm n):KN 13 (ns.map .int)=true:=PyData.intsShortAll_ints ns λn hn=>by have:=h n hn; unfold sm at this; lia
theorem D8:∀(ts:List (Int×Int)),Ge (ts.map pD)<=1
 |[]=>EY _
 |t::ts=>by
  show max (Fk (pD t)) (Ge (ts.map pD))<=1;have h1:=D8 ts;have h2:Fk (pD t)=1:=rfl;lia
theorem xW(x:Str):CA true (.v (.str x)) (.v (.str x))=some (.v (.bool false)):=by
 show some (M.v (.bool (x != x)))=_;rw[bne_self_eq_false]
theorem xX{x y:Int}{P:Int->Prop}(hx:P x)(hy:P y):P (mn x y)/\P (mx x y):=by
 unfold mn mx;constructor <;> split <;> assumption
theorem xY{ps nm:List Int}(hl:nm.length=ps.length)(nd:nm.Nodup){t:Int×Int}(h1:t.1∈ps)(h2:t.2∈ps)(hlt:t.1<t.2){f:Int->Int}(hf:∀n∈nm,f n=aP nm ps n) :
  (mn (f (bA ps nm t).1) (f (bA ps nm t).2),mx (f (bA ps nm t).1) (f (bA ps nm t).2))=t:=by
 have m1:=gf hl h1;have m2:=gf hl h2;have b1:f (aP ps nm t.1)=t.1:=by rw[hf _ m1,gg hl nd h1]
 have b2:f (aP ps nm t.2)=t.2:=by rw[hf _ m2,gg hl nd h2]
 obtain⟨a,b⟩:=t;simp only at b1 b2 hlt;unfold bA;generalize aP ps nm a=x at *;generalize aP ps nm b=y at *;show (mn (f (mn x y)) (f (mx x y)),mx (f (mn x y)) (f (mx x y)))=(a,b);have hxy:x≠y:=λe=>by rw[e,b2] at b1; lia
 by_cases h:y<x
 ·rw[show mn x y=y from if_pos h,show mx x y=x from if_neg (by lia),b1,b2]
  rw[show mn b a=a from if_pos hlt,show mx b a=b from if_neg (by lia)]
 ·rw[show mn x y=x from if_neg h,show mx x y=y from if_pos (by lia),b1,b2]
  rw[show mn a b=a from if_neg (by lia),show mx a b=b from if_pos hlt]
theorem qz{ps nm:List Int}{ts:List (Int×Int)}(w:bE ps ts)(hl:nm.length=ps.length)(nd:nm.Nodup) :
  sortI ((sortI nm).map (aP nm ps))=ps/\bW ((bW (ts.map (bA ps nm))).map (bA (sortI nm) ((sortI nm).map (aP nm ps))))=ts:=by
 have pm:=sortI_perm nm;constructor
 ·refine jX ?_ w.rise
  have h:=pm.map (aP nm ps);rw[qy (ps:=nm) (nm:=ps) hl.symm nd] at h;exact h
 ·refine lG ?_ w.up
  have h:=(dO (ts.map (bA ps nm))).map (bA (sortI nm) ((sortI nm).map (aP nm ps)));rw[EM] at h;have e:ts.map (bA (sortI nm) ((sortI nm).map (aP nm ps))∘bA ps nm)=ts:=by
   refine(FU λt ht=>?_).trans (Gr ts)
   exact xY hl nd (w.ends t ht).1 (w.ends t ht).2 (w.lt t ht) λn hn=>qx (pm.mem_iff.mpr hn)
  rw[e] at h;exact h
theorem uF(neg:Bool)(ts:List (Int×Int))(p:Int×Int):fM neg (.v (pD p)) (.v (tD ts))=some (.v (.bool (if neg then !decide (p∈ts) else decide (p∈ts)))):=by
 show (if okIn (ts.map pD) (pD p)=true then some (M.v (.bool (if neg then !((ts.map pD).any λd=>ES d (pD p)) else (ts.map pD).any λd=>ES d (pD p)))) else none)=_
 rw[jv,if_pos];unfold okIn;rw[eN];rfl
noncomputable def nj(ts:List (Int×Int))(a b:Int):Bool:=decide ((mn a b,mx a b)∈ts)
theorem tied(ps:List Int)(ts:List (Int×Int))(a b:Int):FF.bJ [.v (wD ps ts),.v (.int a),.v (.int b)]=some (.v (.bool (nj ts a b)),[.v (wD ps ts),.v (.int a),.v (.int b)]):=by
 have h:=uF false ts (mn a b,mx a b);have e1:um [.v (.int a),.v (.int b)]=some (.v (.int (mn a b))):=rfl;have e2:kY [.v (.int a),.v (.int b)]=some (.v (.int (mx a b))):=rfl;have h:fM false (.v (.tuple [.int (mn a b),.int (mx a b)])) (.v (tD ts))=some (.v (.bool (nj ts a b))):=h;show FF.bJ [.v (.tuple [tI ps,tD ts]),.v (.int a),.v (.int b)]=some (.v (.bool (nj ts a b)),[.v (.tuple [tI ps,tD ts]),.v (.int a),.v (.int b)]);generalize mn a b=x at *;generalize mx a b=y at *;generalize nj ts a b=z at *;generalize tD ts=W at *;refine bS (ρ:=[some (.v (.tuple [tI ps,W])),some (.v (.int a)),some (.v (.int b))]) rfl ?_ rfl;show FF.cY [some (.v (.tuple [tI ps,W])),some (.v (.int a)),some (.v (.int b))]=_;simp[FF.cY,e1,e2,lim,jf,sj,h,-zP,-zQ]
theorem iw{ft:FT}{fe:FE}{cs:Ev}{p:Int->Bool}{f:Int->Ap}:∀(ns:List Int)(acc:List Ap)(x:Option M),(∀n∈ns,ft (some (.v (.int n))::cs)=some (p n,some (.v (.int n))::cs)/\∃o,fe (some (.v (.int n))::cs)=some (o,some (.v (.int n))::cs)/\cS o (some (.v (.int n))::cs)=some (f n,some (.v (.int n))::cs))->acc.length+ns.length<=lim ->
  ∃y,cU (ao 0) ft fe (ns.map .int) (x::cs) acc=some (acc++(ns.filter p).map f,y::cs):=λns acc x h hl=>by
 obtain⟨e,⟨y,rfl⟩,q⟩:=iu (u:=.int) (fg:=ao 0) (E:=λe=>∃y,e=y::cs) (en:=λn=>some (.v (.int n))::cs) (λ_=>⟨_,rfl⟩) (λd e ⟨y,hy⟩=>by rw[hy]; simp) ns acc (x::cs) ⟨x,rfl⟩ h hl
 exact⟨y,q⟩
theorem oY(ns:List Int)(a:Int):((ns.map EC).any λd=>ES d (.int a))=decide (a∈ns):=by
 rw[Iz]
 induction ns with
 |nil=>simp
 |cons m ns ih=>
  rw[Fl,ih];show ((m == a) || _)=_
  by_cases h:m=a
  ·simp[h]
  ·simp[h,Gz h]
theorem qA(neg:Bool)(ns:List Int)(a:Int):fM neg (.v (.int a)) (.v (tI ns))=some (.v (.bool (if neg then !decide (a∈ns) else decide (a∈ns)))):=by
 show (if okIn (ns.map .int) (.int a)=true then some (M.v (.bool (if neg then !((ns.map EC).any λd=>ES d (.int a)) else (ns.map EC).any λd=>ES d (.int a)))) else none)=_
 rw[oY,if_pos];unfold okIn;rw[ci];rfl
theorem tG(neg:Bool)(ts:List (Int×Int)):fK neg (.lst (ts.map pD)) (.lst [])=some (.v (.bool (if neg then !ts.isEmpty else ts.isEmpty))):=by
 rw[xg];have ok:p9 (.list (ts.map pD)) (.list [])=true:=by
  unfold p9;rw[show GV (.list (ts.map pD))=true from eN ts,show GV (.list [])=true from rfl,decide_eq_true (show min (Fk (.list (ts.map pD))) (Fk (.list []))<=60 from FH (LY _ _) (by decide))]
  rfl
 simp only[zO,EB,ok,if_true];cases ts with
 |nil=>rfl
 |cons n ns=>rfl
end PQ
end
section
namespace PS
open PySem L2 VL PA PQ
end PS
end
section
namespace PN
open PySem L2 VL PA
theorem nq{fg:FG}{ft:FT}{fk fv:FE}{P:List Ap->M->Ev->Prop}:∀(ds:List Ap)(ρ:Ev)(acc:M),P ds acc ρ ->
  (∀d ds acc ρ,P (d::ds) acc ρ->∃ρ1 ρ2 kd k ρ3 o ρ4 acc' ρ5,fg d ρ=some ρ1/\ft ρ1=some (true,ρ2)/\fk ρ2=some (.t (.v kd),ρ3)/\eB kd=some k/\fv ρ3=some (o,ρ4)/\wU k acc o ρ4=some (acc',ρ5)/\P ds acc' ρ5)->∃acc' ρ',jV fg ft fk fv ds ρ acc=some (acc',ρ')/\P [] acc' ρ':=by
 intro ds
 induction ds with
 |nil=>
  intro ρ acc h _;exact⟨acc,ρ,rfl,h⟩
 |cons d ds ih=>
  intro ρ acc h step;obtain⟨ρ1,ρ2,kd,k,ρ3,o,ρ4,acc1,ρ5,e1,e2,e3,e4,e5,e6,h2⟩:=step d ds acc ρ h;obtain⟨acc',ρ',e7,h7⟩:=ih ρ5 acc1 h2 step;refine⟨acc',ρ',?_,h7⟩;show (fg d ρ).bind _=_;rw[e1];show (ft ρ1).bind _=_;rw[e2];show (fk ρ2).bind _=_;rw[e3];show (eB kd).bind _=_;rw[e4];show (fv ρ3).bind _=_;rw[e5];show (wU k acc o ρ4).bind _=_;rw[e6];exact e7
noncomputable def dl(ps:List Int)(φ:Int->List Int):List (Key×List Ap):=ps.map λp=>(.inl p,(φ p).map .int)
noncomputable def dd(ps:List Int)(φ:Int->List Int):List (Key×Ap):=ps.map λp=>(.inl p,tI (φ p))
theorem jz{α:Type}(f:Int->α):∀{ps:List Int}{p:Int},p∈ps->cN (ps.map λp=>((.inl p:Key),f p)) (.inl p)=some (f p)
 |[],p,h=>by cases h
 |q::ps,p,h=>by
  unfold cN;rw[EH,Fe]
  by_cases e:q=p
  ·subst e; simp
  ·have hm:p∈ps:=by
    rcases lK h with h | h
    ·exact absurd h.symm e
    ·exact h
   have:decide ((GP q:Key)=.inl p)=false:=decide_eq_false λz=>e (Hh z)
   simp only[this];exact jz f hm
theorem Ae(ps:List Int)(φ:Int->List Int)(a b:Int):putL (dl ps φ) (.inl a) (.int b)=dl ps (λp=>if p=a then φ p++[b] else φ p):=by
 unfold putL dl;rw[EM];refine FU λp _=>?_
 by_cases e:p=a
 ·subst e; simp
 ·have:¬ (GP p:Key)=.inl a:=λz=>e (Hh z)
  simp[e,this]
theorem tH{α:Type}(f:Int->α)(ps:List Int)(p:Int):((ps.map λp=>((.inl p:Key),f p)).any λkv=>decide (kv.1=.inl p))=decide (p∈ps):=by
 rw[Iz]
 induction ps with
 |nil=>simp
 |cons q ps ih=>
  rw[Fl,ih]
  by_cases e:q=p
  ·subst e; simp
  ·have:¬ (GP q:Key)=.inl p:=λz=>e (Hh z)
   have e':¬p=q:=λz=>e z.symm
   simp[this,e']
theorem Af{α:Type}(f:Int->α){ps:List Int}(h:ps.Nodup):((ps.map λp=>((.inl p:Key),f p)).map (·.1)).Nodup:=by
 rw[EM];refine EZ.mpr (h.imp λ{a b}hab z=>hab (Hh z))
noncomputable def nb(ts:List (Int×Int))(p:Int):List Int:=ts.flatMap λt=>(if p=t.1 then [t.2] else [])++(if p=t.2 then [t.1] else [])
theorem Ag(ts:List (Int×Int))(t:Int×Int)(p:Int):nb (ts++[t]) p=nb ts p++((if p=t.1 then [t.2] else [])++(if p=t.2 then [t.1] else [])):=by
 unfold nb;rw[List.flatMap_append];simp
theorem xZ{ts:List (Int×Int)}(h:∀t∈ts,t.1<t.2)(p:Int):(nb ts p).length<=ts.length:=by
 induction ts with
 |nil=>exact Db _
 |cons t ts ih=>
  have h1:=ih λu hu=>h u (lO _ hu)
  have h2:=h t lS;have e:nb (t::ts) p=((if p=t.1 then [t.2] else [])++(if p=t.2 then [t.1] else []))++nb ts p:=by
   unfold nb; rw[LH]
  rw[e,E3,E7];have:((if p=t.1 then [t.2] else [])++(if p=t.2 then [t.1] else [])).length<=1:=by
   by_cases a:p=t.1
   ·rw[if_pos a,if_neg (by lia)]; simp
   ·rw[if_neg a]; split <;> simp
  lia
theorem CJ{ts:List (Int×Int)}{p q:Int}:q∈nb ts p↔(p,q)∈ts\/(q,p)∈ts:=by
 unfold nb;rw[LP];constructor
 ·rintro⟨t,ht,hq⟩
  rcases lM hq with hq | hq
  ·split at hq
   ·next e=>rw[Do] at hq; rw[e,hq]; exact .inl ht
   ·cases hq
  ·split at hq
   ·next e=>rw[Do] at hq; rw[e,hq]; exact .inr ht
   ·cases hq
 ·rintro (h | h)
  ·exact⟨_,h,lL _ (by simp)⟩
  ·exact⟨_,h,lR _ (by simp)⟩
noncomputable abbrev Er:FS:=aI (c9 (ly 3 (fE 4) (fE 5))) (c9 (ly 3 (fE 5) (fE 4)))
theorem appQ{ρ:Ev}{i:Nat}{ps:List Int}{φ:Int->List Int}{a b:Int}{fk fd:Ev->Option Ap}(h3:cE ρ i=some (.cD (dl ps φ)))(ha:fk ρ=some (.int a))(hb:fd ρ=some (.int b))(hm:a∈ps)(hl:(φ a).length<1000)(nd:ps.Nodup):ly i fk fd ρ=some (.t (.v .none),ρ.set i (some (.cD (dl ps λp=>if p=a then φ p++[b] else φ p)))):=by
 show (cE ρ i).bind _=_;rw[h3];show (fk ρ).bind _=_;rw[ha];show (cN (dl ps φ) (.inl a)).bind _=_;rw[show cN (dl ps φ) (.inl a)=some ((φ a).map .int) from jz _ hm]
 show (fd ρ).bind _=_;rw[hb];show (if _/\_ then _ else _)=_
 rw[if_pos ⟨by rw[At]; unfold lim; lia,Af _ nd⟩,Ae]
theorem AV{ps:List Int}{ts:List (Int×Int)}(nd:ps.Nodup)(he:∀t∈ts,t.1∈ps/\t.2∈ps/\t.1<t.2)(hp:ps.length<=1000)(ht:ts.length<=63):FF.e9 [.v (wD ps ts)]=some (.cz (dd ps λp=>sortI (nb ts p)),[.v (wD ps ts)]):=by
 obtain⟨acc1,ρ1,c1,dn1,rs1,x1,a1,a2,a3,rfl⟩:=nq (fg:=ao 0) (ft:=dI) (fk:=aa 0) (fv:=di fC) (P:=λrest acc ρ=>∃ (dn rs:List Int) (x:Option M),rest=rs.map .int/\dn++rs=ps/\acc=.cD (dl dn λ_=>[])/\ρ=[x]) (ps.map .int) [none] (.cD []) ⟨[],ps,none,rfl,rfl,rfl,rfl⟩ (λd rest acc ρ hP=>by
  obtain⟨dn,rs,x,h1,h2,rfl,rfl⟩:=hP;cases rs with
  |nil=>cases h1
  |cons r rs=>
   obtain⟨rfl,rfl⟩:=HH h1;have hr:r∉dn:=λz=>by
    rw[<-h2,E2] at nd;exact nd.2.2 r z r lS rfl
   have hlen:dn.length+(rs.length+1)=ps.length:=by rw[<-h2,E3,E7]
   refine⟨[some (.v (.int r))],[some (.v (.int r))],.int r,.inl r,[some (.v (.int r))],.t (.lst []),[some (.v (.int r))],.cD (dl (dn++[r]) λ_=>[]),[some (.v (.int r))],by simp,rfl,by simp,rfl,by simp[lim],?_,dn++[r],rs,_,rfl,by rw[EU]; exact h2,rfl,rfl⟩
   show (if _/\_ then _ else _)=_
   rw[if_pos ⟨by rw[show dl dn (λ_=>[])=dn.map λp=>((.inl p:Key),(([]:List Int).map EC)) from rfl,tH]; exact decide_eq_false hr,by unfold dl; rw[At]; unfold lim; lia⟩]
   unfold dl;rw[Fy];rfl)
 have:rs1=[]:=by cases rs1 with | nil=>rfl | cons _ _=>cases a1
 subst this;rw[E1] at a2;subst a2;subst a3;obtain⟨ρ2,c2,dn,rs,x4,x5,b1,b2,rfl⟩:=gE (fg:=b3 2 (aB (ao 4) (aB (ao 5) b9))) (fb:=Er) (P:=λrest ρ=>∃ (dn rs:List (Int×Int)) (x4 x5:Option M),rest=rs.map pD/\dn++rs=ts/\ρ=[some (.v (wD dn1 ts)),some (.v (tI dn1)),some (.v (tD ts)),some (.cD (dl dn1 (nb dn))),x4,x5])
  (ts.map pD) [some (.v (wD dn1 ts)),some (.v (tI dn1)),some (.v (tD ts)),some (.cD (dl dn1 λ_=>[])),none,none] ⟨[],ts,none,none,rfl,rfl,rfl⟩ (λd rest ρ hP=>by
   obtain⟨dn,rs,x4,x5,h1,h2,rfl⟩:=hP;cases rs with
   |nil=>cases h1
   |cons t rs=>
    obtain⟨rfl,rfl⟩:=HH h1;have hlen:dn.length+(rs.length+1)=ts.length:=by rw[<-h2,E3,E7]
    have hte:=he t (by rw[<-h2]; simp)
    have hdn:∀u∈dn,u.1<u.2:=λu hu=>(he u (by rw[<-h2]; exact lL _ hu)).2.2
    have n1:=xZ hdn;refine⟨[some (.v (wD dn1 ts)),some (.v (tI dn1)),some (.v (tD ts)),some (.cD (dl dn1 (nb dn))),some (.v (.int t.1)),some (.v (.int t.2))],[some (.v (wD dn1 ts)),some (.v (tI dn1)),some (.v (tD ts)),some (.cD (dl dn1 (nb (dn++[t])))),some (.v (.int t.1)),some (.v (.int t.2))],by simp,?_,dn++[t],rs,_,_,rfl,by rw[EU]; exact h2,rfl⟩
    have q1:=appQ (ρ:=[some (.v (wD dn1 ts)),some (.v (tI dn1)),some (.v (tD ts)),some (.cD (dl dn1 (nb dn))),some (.v (.int t.1)),some (.v (.int t.2))]) (i:=3) (fk:=fE 4) (fd:=fE 5) rfl rfl rfl hte.1 (by have:=n1 t.1; lia) nd
    have q2:=appQ (ρ:=[some (.v (wD dn1 ts)),some (.v (tI dn1)),some (.v (tD ts)),some (.cD (dl dn1 λp=>if p=t.1 then nb dn p++[t.2] else nb dn p)),some (.v (.int t.1)),some (.v (.int t.2))]) (i:=3) (fk:=fE 5) (fd:=fE 4) rfl rfl rfl hte.2.1 (by
     have:=n1 t.2;rw[if_neg (by lia)]
     lia) nd
    have hφ:(λp=>if p=t.2 then (if p=t.1 then nb dn p++[t.2] else nb dn p)++[t.1] else (if p=t.1 then nb dn p++[t.2] else nb dn p))=nb (dn++[t]):=by
     funext p
     rw[Ag];have hlt:=hte.2.2
     by_cases e1:p=t.1
     ·have e2:¬p=t.2:=by lia
      rw[if_neg e2,if_pos e1,if_pos e1,if_neg e2,E1]
     ·by_cases e2:p=t.2
      ·rw[if_pos e2,if_neg e1,if_neg e1,if_pos e2,FJ]
      ·rw[if_neg e2,if_neg e1,if_neg e1,if_neg e2,E1,E1]
    rw[hφ] at q2;show aI _ _ _=_;refine(ay (ρ1:=[some (.v (wD dn1 ts)),some (.v (tI dn1)),some (.v (tD ts)),some (.cD (dl dn1 λp=>if p=t.1 then nb dn p++[t.2] else nb dn p)),some (.v (.int t.1)),some (.v (.int t.2))]) ?_).trans ?_
    ·rw[qj,q1]; rfl
    ·rw[qj,q2]; rfl)
 have:rs=[]:=by cases rs with | nil=>rfl | cons _ _=>cases b1
 subst this;rw[E1] at b2;subst b2;obtain⟨acc3,ρ3,c3,dn3,rs3,x3,d1,d2,d3,rfl⟩:=nq (fg:=ao 0) (ft:=dI) (fk:=aa 0) (fv:=bF d8 (af (bF c7 (af (cZ (aa 1) (aa 0)))))) (P:=λrest acc ρ=>∃ (dn3 rs:List Int) (x:Option M),rest=rs.map .int/\dn3++rs=dn1/\acc=.cz (dd dn3 λp=>sortI (nb dn p))/\ρ=[x,some (.cD (dl dn1 (nb dn)))]) (dn1.map .int) [none,some (.cD (dl dn1 (nb dn)))] (.cz []) ⟨[],dn1,none,rfl,rfl,rfl,rfl⟩ (λd rest acc ρ hP=>by
  obtain⟨dn3,rs,x,h1,h2,rfl,rfl⟩:=hP;cases rs with
  |nil=>cases h1
  |cons r rs=>
   obtain⟨rfl,rfl⟩:=HH h1;have hr:r∉dn3:=λz=>by
    rw[<-h2,E2] at nd;exact nd.2.2 r z r lS rfl
   have hrm:r∈dn1:=by rw[<-h2]; simp
   have hlen:dn3.length+(rs.length+1)=dn1.length:=by rw[<-h2,E3,E7]
   have hn:=xZ (λu hu=>(he u hu).2.2) r
   have hk:cN (dl dn1 (nb dn)) (.inl r)=some ((nb dn r).map .int):=jz _ hrm;have hsort:c7 [.lst ((nb dn r).map .int)]=some (.lst ((sortI (nb dn r)).map .int)):=by
    show (jT ((nb dn r).map .int)).bind _=_;unfold jT;rw[if_pos (by rw[At]; lia),eL]
    rfl
   refine⟨[some (.v (.int r)),some (.cD (dl dn1 (nb dn)))],[some (.v (.int r)),some (.cD (dl dn1 (nb dn)))],.int r,.inl r,[some (.v (.int r)),some (.cD (dl dn1 (nb dn)))],.t (.v (tI (sortI (nb dn r)))),[some (.v (.int r)),some (.cD (dl dn1 (nb dn)))],.cz (dd (dn3++[r]) λp=>sortI (nb dn p)),[some (.v (.int r)),some (.cD (dl dn1 (nb dn)))],by simp,rfl,by simp,rfl,?_,?_,dn3++[r],rs,_,rfl,by rw[EU]; exact h2,rfl,rfl⟩
   ·have hpk:peek [some (.v (.int r)),some (.cD (dl dn1 (nb dn)))] (.q 1 (.inl r))=some (.lst ((nb dn r).map .int)):=by
     show (cN (dl dn1 (nb dn)) (.inl r)).map M.lst=_;rw[hk]; rfl
    simp[hk,hpk,hsort,tI]
   ·show (if _ then _ else _)=_
    rw[if_pos (by unfold dd; rw[At]; unfold lim; lia)]
    show some (M.cz (putD (dd dn3 λp=>sortI (nb dn p)) (.inl r) (tI (sortI (nb dn r)))),_)=_
    unfold putD;rw[if_neg (by rw[show dd dn3 (λp=>sortI (nb dn p))=dn3.map λp=>((.inl p:Key),tI (sortI (nb dn p))) from rfl,tH]; simpa using hr)]
    unfold dd;rw[Fy];rfl)
 have:rs3=[]:=by cases rs3 with | nil=>rfl | cons _ _=>cases d1
 subst this;rw[E1] at d2;subst d2;subst d3;refine bS (ρ:=[some (.v (wD dn3 dn)),some (.v (tI dn3)),some (.v (tD dn)),some (.cD (dl dn3 (nb dn))),x4,x5]) rfl ?_ rfl;show FF.gF [some (.v (wD dn3 dn)),none,none,none,none,none]=_;refine(ay (ρ1:=[some (.v (wD dn3 dn)),some (.v (tI dn3)),some (.v (tD dn)),none,none,none]) (by simp)).trans ?_
 refine(ay (ρ1:=[some (.v (wD dn3 dn)),some (.v (tI dn3)),some (.v (tD dn)),some (.cD (dl dn3 λ_=>[])),none,none]) (by simp[tI,c1])).trans ?_
 refine(ay (ρ1:=[some (.v (wD dn3 dn)),some (.v (tI dn3)),some (.v (tD dn)),some (.cD (dl dn3 (nb dn))),x4,x5]) (by simp[tI]; simpa[tI] using c2)).trans ?_
 simp[tI,c3]
end PN
end
section
open PySem L2 VL
end
section
namespace PA
open PySem L2 VL
theorem eq_self{d:Ap}(h:GV d=true)(hd:Fk d<=60)(neg:Bool):fK neg (.v d) (.v d)=some (.v (.bool (!neg))):=by
 rw[xg];simp only[asD_v,EB];rw[if_pos (show p9 d d=true by unfold p9; rw[h,decide_eq_true (show min (Fk d) (Fk d)<=60 by lia)]; rfl),JX d h]
 cases neg <;> rfl
end PA
end
section
namespace PS
open PySem L2 VL PA PQ PN
section
variable{ps:List Int}{φ:Int->List Int}
theorem rW{fe:FE}{cs:Ev}{f:Nat->Ap}(n:Nat)(hn:n<=1000)(h:∀k:Nat,k<n->∃o,fe (some (.v (.int (k:Int)))::cs)=some (o,some (.v (.int (k:Int)))::cs)/\cS o (some (.v (.int (k:Int)))::cs)=some (f k,some (.v (.int (k:Int)))::cs)):∃y,cU (ao 0) dI fe (bH 0 (n:Int)) (none::cs) []=some ((Ch n).map f,y::cs):=by
 obtain⟨y,e⟩:=nc (fe:=fe) (cs:=cs) (f:=λd=>match d with | .int k=>f k.toNat | _=>.none) (bH 0 (n:Int)) [] none (λd hd=>by
  rw[dg] at hd;obtain⟨k,hk,rfl⟩:=EL.mp hd;obtain⟨o,e1,e2⟩:=h k (GD.mp hk);refine⟨o,by rw[Ka]; exact e1,by rw[Ka]; simpa using e2⟩) (by rw[rV]; unfold lim; simp; lia)
 refine⟨y,?_⟩;rw[e,FJ,dg,EM]
 congr 2
 refine FU λk _=>?_
 simp
noncomputable def nl(ts:List (Int×Int))(p:Int):List Int:=(ts.filter λt=>decide (p∈[t.1,t.2])).map λt=>t.1+t.2-p
theorem oZ{ts:List (Int×Int)}{p q:Int}:q∈nl ts p↔(p,q)∈ts\/(q,p)∈ts:=by
 unfold nl;rw[EL];constructor
 ·rintro⟨t,ht,rfl⟩
  obtain⟨h1,h2⟩:=Fx.mp ht;have h2:p=t.1\/p=t.2:=by simpa using h2
  rcases h2 with h2 | h2
  ·left; rw[show t.1+t.2-p=t.2 by lia,h2]; exact h1
  ·right; rw[show t.1+t.2-p=t.1 by lia,h2]; exact h1
 ·rintro (h | h)
  ·exact⟨(p,q),Fx.mpr ⟨h,by simp⟩,by show p+q-p=q; lia⟩
  ·exact⟨(q,p),Fx.mpr ⟨h,by simp⟩,by show q+p-p=q; lia⟩
end
end PS
end
section
namespace PL
open PySem L2 VL PA PQ PN PS
section
variable{ps:List Int}{ts:List (Int×Int)}
noncomputable def pl(ps:List Int)(i:Nat):Int:=ps.getD i 0
theorem CK{i:Nat}{p:Int}(h:ps[i]? = some p):pl ps i=p:=by unfold pl; rw[ER,h]; rfl
theorem eK{i:Nat}(h:i<ps.length):ps[i]? = some (pl ps i):=by unfold pl; rw[ER,E5 h]; rfl
theorem rX{i:Nat}(h:i<ps.length):pl ps i∈ps:=HR (eK h)
theorem rY(nd:ps.Nodup){i j:Nat}(hi:i<ps.length)(hj:j<ps.length)(h:pl ps i=pl ps j):i=j:=(List.getElem?_inj hi nd).mp (by rw[eK hi,eK hj,h])
end
theorem ez{α:Type}(xs:List α)(k:Nat)(x:α)(h:xs[k]? = some x):jf xs (k:Int)=some x:=by
 have hk:=(EA.mp h).1;unfold jf sj;rw[if_pos (by lia),if_pos (by lia),EB,Fv,h]
theorem CL{n:Nat}{js:List Nat}{i:Nat}{fg:FG}{ft:FT}{fe:FE}{ρ:Ev}{d:Ap}(h:cE ρ i=some (.v d)):gJ n js i fg ft fe ρ=lq n js (dc (aa i)) fg ft fe ρ:=by
 unfold gJ;rw[h]
section
variable{ps:List Int}{ts:List (Int×Int)}
noncomputable abbrev nr(ts:List (Int×Int))(p:Int):List Int:=sortI (nb ts p)
end
section
variable{ps:List Int}{ts:List (Int×Int)}
theorem qB(he:∀t∈ts,t.1<t.2)(nd:ts.Nodup)(p:Int):(nl ts p).Nodup:=by
 unfold nl;have Es:(ts.filter λt=>decide (p∈[t.1,t.2])).Nodup:=nd.filter _
 refine EZ.mpr ((Hr.mp Es).imp λ{a b}q e=>?_)
 obtain⟨qa,qb,q⟩:=q;obtain⟨a1,a2⟩:=Fx.mp qa;obtain⟨b1,b2⟩:=Fx.mp qb;have a2:p=a.1\/p=a.2:=by simpa using a2
 have b2:p=b.1\/p=b.2:=by simpa using b2
 have:=he a a1;have:=he b b1;exact q (Lf (by lia) (by lia))
theorem iR{p:Int}(h:p∈ps):ps.idxOf p<ps.length:=List.idxOf_lt_length_iff.mpr h
theorem iS{p:Int}(h:p∈ps):pl ps (ps.idxOf p)=p:=CK (by rw[E5 (iR h),List.getElem_idxOf])
end
end PL
end
section
namespace PO
open PySem L2 VL PA PQ PN PS PL
noncomputable def tb(ts:List (Int×Int))(p q:Int):Bool:=decide ((p,q)∈ts\/(q,p)∈ts)
theorem j9(ts:List (Int×Int))(p q:Int):tb ts p q=tb ts q p:=decide_eq_decide.mpr ⟨λh=>h.symm,λh=>h.symm⟩
theorem kc{ts:List (Int×Int)}(h:∀t∈ts,t.1<t.2)(p:Int):tb ts p p=false:=decide_eq_false λz=>by
 rcases z with z | z
 ·have:=h _ z; simp at this
 ·have:=h _ z; simp at this
noncomputable def kg(ps:List Int)(ts us:List (Int×Int))(ns:List Int)(q:Int):Bool:=(Ch ns.length).all λk=>tb ts (pl ps k) (pl ps ns.length) == tb us (pl ns k) q
noncomputable def pg(ps:List Int)(ts us:List (Int×Int))(ns:List Int)(q:Int):Bool:=decide ((nl ts (pl ps ns.length)).length=(nl us q).length) && kg ps ts us ns q
noncomputable def dX(ok:List Int->Int->Bool)(qs:List Int)(n:Nat):Nat->List Int->Option (List Int)
 |0,_=>none
 |f+1,ns=>if ns.length=n then some ns else qs.findSome? λq=>if q∉ns/\ok ns q=true then dX ok qs n f (ns++[q]) else none
structure Row(ps:List Int)(ts us:List (Int×Int))(qs ns r:List Int):Prop where
 len:r.length=ps.length
 pre:ns <+: r
 nd:r.Nodup
 sub:∀x∈r,x∈qs
 ag:∀i j,i<j->j<ps.length->ns.length<=j->tb ts (pl ps i) (pl ps j)=tb us (pl r i) (pl r j)
theorem qC{ps qs:List Int}{ts us:List (Int×Int)}:∀{f:Nat}{ns r:List Int},dX (kg ps ts us) qs ps.length f ns=some r->ns.Nodup->(∀x∈ns,x∈qs)->Row ps ts us qs ns r:=by
 intro f
 induction f with
 |zero=>intro ns r h; cases h
 |succ f ih=>
  intro ns r h nd sub;unfold dX at h
  split at h
  ·next hl=>
   cases h;exact⟨hl,List.prefix_refl _,nd,sub,λi j h1 h2 h3=>by lia⟩
  ·obtain⟨q,hq,hs⟩:=List.exists_of_findSome?_eq_some h
   split at hs
   ·next hok=>
    obtain⟨h1,h2⟩:=hok;have R:=ih hs (by
     rw[E2];exact⟨nd,GZ _ _,λa ha b hb e=>h1 (by rw[<-Do.mp hb,<-e]; exact ha)⟩) (λx hx=>by
     rcases lM hx with hx | hx
     ·exact sub x hx
     ·rw[Do.mp hx]; exact hq)
    obtain⟨t,ht⟩:=R.pre;refine⟨R.len,⟨q::t,by rw[<-ht]; simp⟩,R.nd,R.sub,λi j a b c=>?_⟩
    by_cases e:j=ns.length
    ·subst e
     have h3:=HK.mp h2 i (GD.mpr a);have h3:tb ts (pl ps i) (pl ps ns.length)=tb us (pl ns i) q:=by simpa using h3
     have p1:pl r i=pl ns i:=by
      rw[<-ht];unfold pl;rw[ER,ER,EU,GR a]
     have p2:pl r ns.length=q:=by
      rw[<-ht];unfold pl;simp[K0]
     rw[p1,p2,h3]
    ·exact R.ag i j a b (by rw[E3,EF]; lia)
   ·cases hs
theorem Ah{ps qs:List Int}{ts us:List (Int×Int)}(w:bE ps ts)(w':bE qs us)(ndt:ts.Nodup)(ndu:us.Nodup)(hl:ps.length=qs.length){r:List Int}(R:Row ps ts us qs [] r){k:Nat}(hk:k<ps.length):(nl ts (pl ps k)).length=(nl us (pl r k)).length:=by
 have ndp:ps.Nodup:=w.rise.imp λh=>by lia
 have hrq:r.Perm qs:=by
  refine j8 R.nd (w'.rise.imp λh=>by lia) λx=>⟨R.sub x,λhx=>?_⟩
  refine GN λz=>?_
  have h1:(x::r).Nodup:=EG.mpr ⟨z,R.nd⟩;have:=Fw (l₂:=qs) h1 λy hy=>by
   rcases lK hy with rfl | hy
   ·exact hx
   ·exact R.sub y hy
  rw[E7,R.len] at this;lia
 have ag:∀i j,i<ps.length->j<ps.length->tb ts (pl ps i) (pl ps j)=tb us (pl r i) (pl r j):=λi j hi hj=>by
  rcases LM i j with h | h | h
  ·exact R.ag i j h hj (EY _)
  ·subst h
   rw[kc w.lt,kc w'.lt]
  ·rw[j9,j9 us]; exact R.ag j i h hi (EY _)
 have key:∀i,i<ps.length->(pl ps i∈nl ts (pl ps k)↔pl r i∈nl us (pl r k)):=λi hi=>by
  have:=ag k i hk hi;unfold tb at this;rw[decide_eq_decide] at this;rw[oZ,oZ];exact this
 have inp:∀x,x∈nl ts (pl ps k)->x∈ps:=λx hx=>by
  rcases oZ.mp hx with h | h
  ·exact(w.ends _ h).2
  ·exact(w.ends _ h).1
 have inr:∀x,x∈nl us (pl r k)->x∈r:=λx hx=>hrq.mem_iff.mpr (by
  rcases oZ.mp hx with h | h
  ·exact(w'.ends _ h).2
  ·exact(w'.ends _ h).1)
 have h1:=qB w.lt ndt (pl ps k);have h2:=qB w'.lt ndu (pl r k);have hp:((nl ts (pl ps k)).map λx=>pl r (ps.idxOf x)).Perm (nl us (pl r k)):=by
  refine j8 ?_ h2 λy=>?_
  ·refine EZ.mpr ((Hr.mp h1).imp λ{a b}z e=>?_)
   have ha:=inp a z.1;have hb:=inp b z.2.1;have:=rY (ps:=r) R.nd (by rw[R.len]; exact iR ha) (by rw[R.len]; exact iR hb) e
   exact z.2.2 (by rw[<-iS ha,<-iS hb,this])
  ·rw[EL]
   constructor
   ·rintro⟨x,hx,rfl⟩
    have hxp:=inp x hx;exact(key _ (iR hxp)).mp (by rw[iS hxp]; exact hx)
   ·intro hy
    have hyr:=inr y hy;have hj:=iR hyr;rw[R.len] at hj;refine⟨pl ps (r.idxOf y),(key _ hj).mpr (by rw[iS hyr]; exact hy),?_⟩
    rw[rY ndp (iR (rX hj)) hj (iS (rX hj)),iS hyr]
 rw[<-hp.length_eq,At]
theorem iy{α β:Type}{f g:α->Option β}:∀{l:List α},(∀x∈l,f x=g x)->l.findSome? f=l.findSome? g
 |[],_=>rfl
 |x::l,h=>by rw[GI,GI,h x lS,iy λy hy=>h y (lO _ hy)]
theorem uG{ps qs:List Int}{ts us:List (Int×Int)}(w:bE ps ts)(w':bE qs us)(ndt:ts.Nodup)(ndu:us.Nodup)(hl:ps.length=qs.length):∀(f:Nat)(ns:List Int),ns.Nodup->(∀x∈ns,x∈qs)->ns.length<=ps.length->(∀i j,i<j->j<ns.length->tb ts (pl ps i) (pl ps j)=tb us (pl ns i) (pl ns j))->dX (pg ps ts us) qs ps.length f ns=dX (kg ps ts us) qs ps.length f ns:=by
 intro f
 induction f with
 |zero=>intros; rfl
 |succ f ih=>
  intro ns nd sub hn hag;unfold dX
  by_cases c:ns.length=ps.length
  ·rw[if_pos c,if_pos c]
  rw[if_neg c,if_neg c];have hk:ns.length<ps.length:=by lia
  have:∀q∈qs,(if q∉ns/\pg ps ts us ns q=true then dX (pg ps ts us) qs ps.length f (ns++[q]) else none)=(if q∉ns/\kg ps ts us ns q=true then dX (kg ps ts us) qs ps.length f (ns++[q]) else none):=λq hq=>by
   by_cases h1:q∉ns/\kg ps ts us ns q=true
   ·rw[if_pos h1]
    have nd':(ns++[q]).Nodup:=by
     rw[E2];exact⟨nd,GZ _ _,λa ha b hb e=>h1.1 (by rw[<-Do.mp hb,<-e]; exact ha)⟩
    have sub':∀x∈ns++[q],x∈qs:=λx hx=>by
     rcases lM hx with hx | hx
     ·exact sub x hx
     ·rw[Do.mp hx]; exact hq
    have plL:∀i,i<ns.length->pl (ns++[q]) i=pl ns i:=λi hi=>by unfold pl; rw[ER,ER,GR hi]
    have plR:pl (ns++[q]) ns.length=q:=by unfold pl; simp[K0]
    have hag':∀i j,i<j->j<(ns++[q]).length->tb ts (pl ps i) (pl ps j)=tb us (pl (ns++[q]) i) (pl (ns++[q]) j):=λi j a b=>by
     rw[E3,EF] at b
     by_cases e:j=ns.length
     ·subst e
      rw[plL i a,plR];have h3:=HK.mp h1.2 i (GD.mpr a);simpa using h3
     ·rw[plL i (by lia),plL j (by lia)]
      exact hag i j a (by lia)
    by_cases h2:(nl ts (pl ps ns.length)).length=(nl us q).length
    ·rw[if_pos ⟨h1.1,by unfold pg; rw[decide_eq_true h2,h1.2]; rfl⟩]
     exact ih (ns++[q]) nd' sub' (by rw[E3,EF]; lia) hag'
    ·rw[if_neg (λz=>h2 (by
      have:=z.2;unfold pg at this;rw[EV,decide_eq_true_iff] at this;exact this.1))]
     cases hr:dX (kg ps ts us) qs ps.length f (ns++[q]) with
     |none=>rfl
     |some r=>
      refine absurd ?_ h2;have R:=qC hr nd' sub';obtain⟨t,ht⟩:=R.pre;have pr:∀i,i<ns.length+1->pl r i=pl (ns++[q]) i:=λi hi=>by
       rw[<-ht];unfold pl;rw[ER,ER,GR (by simpa using hi)]
      have R0:Row ps ts us qs [] r:=⟨R.len,List.nil_prefix,R.nd,R.sub,λi j a b _=>by
       by_cases e:(ns++[q]).length<=j
       ·exact R.ag i j a b e
       ·rw[E3,EF] at e
        rw[pr i (by lia),pr j (by lia)]
        exact hag' i j a (by rw[E3,EF]; lia)⟩
      have:=Ah w w' ndt ndu hl R0 hk;rw[pr _ (by lia),plR] at this
      exact this
   ·rw[if_neg h1,if_neg (λz=>h1 ⟨z.1,by
     have:=z.2;unfold pg at this;rw[EV] at this;exact this.2⟩)]
  exact iy this
section
variable{ps qs:List Int}{ts us:List (Int×Int)}
noncomputable def dh(ps:List Int)(ts:List (Int×Int)):Ap:=.dict ((dd ps (nr ts)).map λp=>(gr p.1,p.2))
theorem kh(ps:List Int)(ts:List (Int×Int)):fV ((dd ps (nr ts)).map λp=>(gr p.1,p.2))=some (dd ps (nr ts)):=gT _
theorem o4:(dd ps (nr ts)).length=ps.length:=by unfold dd; simp
theorem ya{p:Int}(h:p∈ps):getM (.v (dh ps ts)) (.v (.int p))=some (.v (tI (nr ts p))):=by
 show (fV _).bind _=_;rw[kh,EB];show (cN (dd ps (nr ts)) (.inl p)).bind _=_;rw[show cN (dd ps (nr ts)) (.inl p)=some (tI (nr ts p)) from jz _ h]
 rfl
theorem Ai:lC [.v (dh ps ts)]=some (.v (.int (ps.length:Int))):=by
 show (fV _).bind _=_;rw[kh,EB,o4]
theorem AW:(dd ps (nr ts)).map (λq=>gr q.1)=ps.map .int:=by unfold dd; rw[EM]; rfl
theorem CM(h:ps≠[]):lstD [.v (dh ps ts)]=some (.lst (ps.map .int)):=by
 show (fV _).bind _=_;rw[kh,EB,if_neg,AW];rw[LQ];intro z;have:=congrArg Hz z;rw[o4] at this;exact h (Fp.mp this)
theorem o6(ns:List Int):lC [.v (tI ns)]=some (.v (.int (ns.length:Int))):=by
 show bT [.v (.tuple (ns.map .int))]=_;rw[dH,At]
theorem CN{ns:List Int}(h:ns.length<=ps.length):K6 (λx y=>IC [x,y]) (ps.map .int) (ns.map .int)=(Ch ns.length).map λk=>pD (pl ps k,pl ns k):=by
 refine HG λi=>?_
 rw[KY,E9,E9,E9]
 by_cases q:i<ns.length
 ·rw[GY q,eK q,eK (by lia:i<ps.length)]
  rfl
 ·rw[Fj (l:=ns) (by lia),Fj (l:=Ch ns.length) (by simpa using q)]
  cases ps[i]? <;> rfl
theorem tb_nr(ts:List (Int×Int))(x p:Int):decide (x∈nr ts p)=tb ts x p:=by
 unfold tb;refine decide_eq_decide.mpr ?_;have:x∈nr ts p↔(p,x)∈ts\/(x,p)∈ts:=(cH ltI (nb ts p)).mem_iff.trans CJ;rw[this];exact or_comm
theorem AX:∀{ts:List (Int×Int)},(∀t∈ts,t.1<t.2)->∀p,(nb ts p).length=(nl ts p).length
 |[],_,p=>rfl
 |t::ts,h,p=>by
  have ih:=AX (λu hu=>h u (lO _ hu)) p
  have ht:=h t lS;unfold nl at ih ⊢;unfold nb at ih ⊢;rw[LH,E3,ih,J8]
  by_cases h1:p=t.1
  ·have h2:p≠t.2:=by lia
   have:decide (p∈[t.1,t.2])=true:=decide_eq_true (by simp[h1])
   rw[if_pos this,if_pos h1,if_neg h2];simp;lia
  ·by_cases h2:p=t.2
   ·have:decide (p∈[t.1,t.2])=true:=decide_eq_true (by simp[h2])
    rw[if_pos this,if_neg h1,if_pos h2];simp;lia
   ·have:decide (p∈[t.1,t.2])=false:=decide_eq_false (by simp[h1,h2])
    rw[this,if_neg h1,if_neg h2];simp
theorem AY(h:∀t∈ts,t.1<t.2)(p:Int):(nr ts p).length=(nl ts p).length:=by
 rw[<-AX h p];exact(cH ltI (nb ts p)).length_eq
noncomputable abbrev bu(ps qs:List Int)(ts us:List (Int×Int)):Ap:=.tuple [dh ps ts,dh qs us]
noncomputable abbrev D9:FE:=vB (fK false) (vB (fM false) (aa 0) (aa 2)) (vB (fM false) (aa 1) (aa 3))
theorem fits(w:bE ps ts)(w':bE qs us){ns:List Int}{q:Int}(hn:ns.length<ps.length)(hq:q∈qs):FF.fZ [.v (bu ps qs ts us),.v (tI ns),.v (.int q)]=some (.v (.bool (pg ps ts us ns q)),[.v (bu ps qs ts us),.v (tI ns),.v (.int q)]):=by
 have hf:=w.few;have hp:pl ps ns.length∈ps:=rX hn;have g1:=ya (ts:=ts) hp;have g2:=ya (ts:=us) hq;have l0:=CM (ps:=ps) (ts:=ts) (λz=>by rw[z] at hn; simp at hn)
 have l1:=o6 ns;have l2:=o6 (nr ts (pl ps ns.length));have l3:=o6 (nr us q);have hat:jf (ps.map EC) (ns.length:Int)=some (.int (pl ps ns.length)):=ez _ _ _ (by rw[E9,eK hn]; rfl)
 have hz:=CN (ps:=ps) (ns:=ns) (by lia)
 obtain⟨e,⟨x,y,rfl⟩,ec⟩:=iu (u:=λk=>pD (pl ps k,pl ns k)) (fg:=b3 2 (aB (ao 0) (aB (ao 1) b9))) (ft:=dI) (fe:=D9) (p:=λ_=>true) (f:=λk=>.bool (tb ts (pl ps k) (pl ps ns.length) == tb us (pl ns k) q)) (E:=λe=>∃x y,e=[x,y,some (.v (tI (nr ts (pl ps ns.length)))),some (.v (tI (nr us q)))]) (en:=λk=>[some (.v (.int (pl ps k))),some (.v (.int (pl ns k))),some (.v (tI (nr ts (pl ps ns.length)))),some (.v (tI (nr us q)))]) (λ_=>⟨_,_,rfl⟩) (λd e ⟨y,z,hy⟩=>by rw[hy]; simp) (Ch ns.length) [] _ ⟨none,none,rfl⟩ (λk hk=>by
  refine⟨rfl,.t (.v (.bool (tb ts (pl ps k) (pl ps ns.length) == tb us (pl ns k) q))),?_,rfl⟩;have i1:=qA false (nr ts (pl ps ns.length)) (pl ps k);have i2:=qA false (nr us q) (pl ns k);rw[tb_nr] at i1 i2;simp at i1 i2;generalize tI (nr ts (pl ps ns.length))=A at *;generalize tI (nr us q)=B at *;simp[D9,i1,i2]) (by simp; unfold lim; lia)
 rw[Kn.mpr λ_ _=>rfl,FJ] at ec
 have hall:allM false [.lst ((Ch ns.length).map λk=>HB (tb ts (pl ps k) (pl ps ns.length) == tb us (pl ns k) q))]=some (.v (.bool (kg ps ts us ns q))):=by
  have h:=VL.i6 ((Ch ns.length).map λk=>tb ts (pl ps k) (pl ps ns.length) == tb us (pl ns k) q)
  rw[EM] at h;show (ou _).bind _=_;rw[show ou ((Ch ns.length).map λk=>HB (tb ts (pl ps k) (pl ps ns.length) == tb us (pl ns k) q))=_ from h,EB]
  congr 3
  show ((Ch ns.length).map _).all id=_;rw[J0];rfl
 have d1:=AY w.lt (pl ps ns.length);have d2:=AY w'.lt q;have it1:uN (tI ns)=some (ns.map .int):=rfl;generalize (Ch ns.length).map (λk=>pD (pl ps k,pl ns k))=ZZ at *
 generalize (Ch ns.length).map (λk=>HB (tb ts (pl ps k) (pl ps ns.length) == tb us (pl ns k) q))=BB at *
 have hok:pg ps ts us ns q=(decide ((nr ts (pl ps ns.length)).length=(nr us q).length) && kg ps ts us ns q):=by unfold pg; rw[d1,d2]
 have hzi:oS (aa 5) (aa 1) [some (.v (bu ps qs ts us)),some (.v (tI ns)),some (.v (.int q)),some (.v (dh ps ts)),some (.v (dh qs us)),some (.lst (ps.map .int)),some (.v (tI (nr ts (pl ps ns.length)))),some (.v (tI (nr us q)))]=some (ZZ,[some (.v (bu ps qs ts us)),some (.v (tI ns)),some (.v (.int q)),some (.v (dh ps ts)),some (.v (dh qs us)),some (.v (.list (ps.map .int))),some (.v (tI (nr ts (pl ps ns.length)))),some (.v (tI (nr us q)))]):=by
  unfold oS;simp[it1,hz]
 refine bS (ρ:=[some (.v (bu ps qs ts us)),some (.v (tI ns)),some (.v (.int q)),some (.v (dh ps ts)),some (.v (dh qs us)),if (nr ts (pl ps ns.length)).length=(nr us q).length then some (.v (.list (ps.map .int))) else some (.lst (ps.map .int)),some (.v (tI (nr ts (pl ps ns.length)))),some (.v (tI (nr us q)))]) rfl ?_ rfl
 show FF.ie [some (.v (bu ps qs ts us)),some (.v (tI ns)),some (.v (.int q)),none,none,none,none,none]=_;refine(ay (ρ1:=[some (.v (bu ps qs ts us)),some (.v (tI ns)),some (.v (.int q)),some (.v (dh ps ts)),some (.v (dh qs us)),none,none,none]) (by simp)).trans ?_
 rw[hok];generalize kg ps ts us ns q=OL at *;generalize (nr ts (pl ps ns.length)).length=N1 at *;generalize (nr us q).length=N2 at *;generalize tI (nr ts (pl ps ns.length))=A at *;generalize tI (nr us q)=B at *;generalize ps.map EC=PD at *;generalize tI ns=NS at *;generalize hW:bu ps qs ts us=W at *;generalize dh ps ts=D1 at *;generalize dh qs us=D2 at *;refine(ay (ρ1:=[some (.v W),some (.v NS),some (.v (.int q)),some (.v D1),some (.v D2),some (.lst PD),none,none]) (by simp[l0])).trans ?_
 refine(ay (ρ1:=[some (.v W),some (.v NS),some (.v (.int q)),some (.v D1),some (.v D2),some (.lst PD),some (.v A),some (.v B)]) (by simp[l1,hat,g1,g2,lim])).trans ?_
 by_cases c:N1=N2
 ·refine(ay (ρ1:=[some (.v W),some (.v NS),some (.v (.int q)),some (.v D1),some (.v D2),some (.lst PD),some (.v A),some (.v B)]) (by simp[l2,l3,c])).trans ?_
  rw[if_pos c,decide_eq_true c];simp[hzi,ec,hall,-oK]
 ·rw[if_neg c,decide_eq_false c]
  refine g9 ?_;have c':¬ (N1:Int)=(N2:Int):=λz=>c (by lia)
  simp[l2,l3,c']
end
noncomputable def rD:Option (List Int)->Ap
 |some r=>tI r
 |none=>.none
theorem rZ(r:Option (List Int)):iJ true (.v (rD r)) (.v .none)=some (.v (.bool r.isSome)):=by cases r <;> rfl
theorem iG{α β:Type}{f:α->Option β}{l l':List α}(h:∀x∈l,f x=none):(l++l').findSome? f=l'.findSome? f:=by
 induction l with
 |nil=>rfl
 |cons x l ih=>rw[List.cons_append,GI,h x lS]; exact ih λy hy=>h y (lO _ hy)
section
variable{ps qs:List Int}{ts us:List (Int×Int)}
noncomputable abbrev Dt(f:Nat):FS:=cI (gI (aW (vB (fM true) (aa 4) (aa 1))) (lZ (cC FF.fZ (ah (aa 0) (ah (aa 1) (af (aa 4))))))) (aI (bz 5 (cC (FF.aY f) (ah (aa 0) (af (vB bZ (aa 1) (bG (af (aa 4))))))))
 (cI (aW (vB (iJ true) (aa 5) (vC .none))) (b8 (aa 5)) bI)) bI
theorem yb(w:bE ps ts)(w':bE qs us)(hl:ps.length=qs.length):∀(f:Nat)(ns:List Int),ns.length<=ps.length->ps.length<ns.length+f->FF.aY f [.v (bu ps qs ts us),.v (tI ns)]=some (.v (rD (dX (pg ps ts us) qs ps.length f ns)),[.v (bu ps qs ts us),.v (tI ns)]):=by
 intro f
 induction f with
 |zero=>intro ns h1 h2; lia
 |succ f ih=>
  intro ns h1 h2;have l1:=o6 ns;have l2:=Ai (ps:=ps) (ts:=ts);have hf:=w.few;have a1:oA (aa 0) (b3 2 (aB (ao 2) (aB (ao 3) b9))) [some (.v (bu ps qs ts us)),some (.v (tI ns)),none,none,none,none]=some (.nx [some (.v (bu ps qs ts us)),some (.v (tI ns)),some (.v (dh ps ts)),some (.v (dh qs us)),none,none]):=by simp
  by_cases c:ns.length=ps.length
  ·have hs:dX (pg ps ts us) qs ps.length (f+1) ns=some ns:=by unfold dX; rw[if_pos c]
   rw[hs];refine bS (ρ:=[some (.v (bu ps qs ts us)),some (.v (tI ns)),some (.v (dh ps ts)),some (.v (dh qs us)),none,none]) rfl ?_ rfl;refine(ay a1).trans ?_;refine g9 ?_;show _=some (Out.rt (.v (tI ns)) _);generalize tI ns=NS at *;generalize bu ps qs ts us=W at *;generalize dh ps ts=D1 at *;simp[l1,l2,c]
  ·have hn:ns.length<ps.length:=by lia
   have hqs:qs≠[]:=λz=>by rw[z,F9] at hl; lia
   let g:Int->Option (List Int):=λq=>if q∉ns/\pg ps ts us ns q=true then dX (pg ps ts us) qs ps.length f (ns++[q]) else none
   have hs:dX (pg ps ts us) qs ps.length (f+1) ns=qs.findSome? g:=by conv=>lhs; unfold dX; rw[if_neg c]
   have hdk:xG (aa 3) [some (.v (bu ps qs ts us)),some (.v (tI ns)),some (.v (dh ps ts)),some (.v (dh qs us)),none,none]=some (qs.map .int,[some (.v (bu ps qs ts us)),some (.v (tI ns)),some (.v (dh ps ts)),some (.v (dh qs us)),none,none]):=by
    unfold xG dh;simp only[zN,at?_s,at?_0,EB];rw[kh,EB,if_neg,AW];rw[LQ];intro z;have:=congrArg Hz z;rw[o4] at this;exact hqs (Fp.mp this)
   have key:=lA (fg:=ao 4) (fb:=Dt f) (P:=λrest ρ=>∃ (dn rs:List Int) (x4 x5:Option M),rest=rs.map .int/\dn++rs=qs/\(∀q∈dn,g q=none)/\ρ=[some (.v (bu ps qs ts us)),some (.v (tI ns)),some (.v (dh ps ts)),some (.v (dh qs us)),x4,x5])
    (Q:=λm ρ=>∃ (r:List Int) (x4 x5:Option M),qs.findSome? g=some r/\m=.v (tI r)/\ρ=[some (.v (bu ps qs ts us)),some (.v (tI ns)),some (.v (dh ps ts)),some (.v (dh qs us)),x4,x5])
    (qs.map .int) [some (.v (bu ps qs ts us)),some (.v (tI ns)),some (.v (dh ps ts)),some (.v (dh qs us)),none,none] ⟨[],qs,none,none,rfl,rfl,λq hq=>(nomatch hq),rfl⟩ (λd rest ρ hP=>by
     obtain⟨dn,rs,x4,x5,r1,r2,r3,rfl⟩:=hP;cases rs with
     |nil=>cases r1
     |cons q rs=>
      obtain⟨rfl,rfl⟩:=HH r1;have hq:q∈qs:=by rw[<-r2]; simp
      have hfi:=fits w w' hn hq;have hin:=qA true ns q;have hadd:bZ (.v (tI ns)) (.v (.tuple [.int q]))=some (.v (tI (ns++[q]))):=by
       show (if (ns.map EC).length+1<=lim then some (M.v (.tuple (ns.map .int++[.int q]))) else none)=_
       rw[if_pos (by rw[At]; unfold lim; lia)]
       unfold tI;rw[Fy];rfl
      refine⟨[some (.v (bu ps qs ts us)),some (.v (tI ns)),some (.v (dh ps ts)),some (.v (dh qs us)),some (.v (.int q)),x5],by simp,?_⟩
      have nxt:g q=none->∀q'∈dn++[q],g q'=none:=λh q' hq'=>by
       rcases lM hq' with h' | h'
       ·exact r3 q' h'
       ·rw[Do.mp h']; exact h
      by_cases cc:q∉ns/\pg ps ts us ns q=true
      ·have hrec:=ih (ns++[q]) (by rw[E3,EF]; lia) (by rw[E3,EF]; lia)
       have hg:g q=dX (pg ps ts us) qs ps.length f (ns++[q]):=if_pos cc;rw[<-hg] at hrec;have hisn:=rZ (g q);have hin:fM true (.v (.int q)) (.v (tI ns))=some (.v (.bool true)):=by rw[hin]; simp[cc.1]
       rw[cc.2] at hfi;cases hgq:g q with
       |none=>
        refine .inl ⟨[some (.v (bu ps qs ts us)),some (.v (tI ns)),some (.v (dh ps ts)),some (.v (dh qs us)),some (.v (.int q)),some (.v .none)],?_,dn++[q],rs,_,_,rfl,by rw[EU]; exact r2,nxt hgq,rfl⟩
        rw[hgq] at hrec hisn;have hrec:FF.aY f [.v (bu ps qs ts us),.v (tI (ns++[q]))]=some (.v .none,[.v (bu ps qs ts us),.v (tI (ns++[q]))]):=hrec;have hisn:iJ true (.v .none) (.v .none)=some (.v (.bool false)):=hisn;generalize tI (ns++[q])=NQ at *;generalize tI ns=NS at *;generalize bu ps qs ts us=W at *;generalize dh ps ts=D1 at *;generalize dh qs us=D2 at *;simp[Dt,hin,hfi,lim,hadd,hrec,hisn]
       |some r=>
        refine .inr ⟨.v (tI r),[some (.v (bu ps qs ts us)),some (.v (tI ns)),some (.v (dh ps ts)),some (.v (dh qs us)),some (.v (.int q)),some (.v (tI r))],?_,r,_,_,?_,rfl,rfl⟩
        ·rw[hgq] at hrec hisn
         have hrec:FF.aY f [.v (bu ps qs ts us),.v (tI (ns++[q]))]=some (.v (tI r),[.v (bu ps qs ts us),.v (tI (ns++[q]))]):=hrec;have hisn:iJ true (.v (tI r)) (.v .none)=some (.v (.bool true)):=hisn;generalize tI (ns++[q])=NQ at *;generalize tI r=RR at *;generalize tI ns=NS at *;generalize bu ps qs ts us=W at *;generalize dh ps ts=D1 at *;generalize dh qs us=D2 at *;simp[Dt,hin,hfi,lim,hadd,hrec,hisn]
        ·rw[<-r2,iG r3,GI,hgq]
      ·have hg:g q=none:=if_neg cc
       refine .inl ⟨[some (.v (bu ps qs ts us)),some (.v (tI ns)),some (.v (dh ps ts)),some (.v (dh qs us)),some (.v (.int q)),x5],?_,dn++[q],rs,_,_,rfl,by rw[EU]; exact r2,nxt hg,rfl⟩
       by_cases c1:q∈ns
       ·have hin:fM true (.v (.int q)) (.v (tI ns))=some (.v (.bool false)):=by rw[hin]; simp[c1]
        generalize tI ns=NS at *;generalize bu ps qs ts us=W at *;simp[Dt,hin]
       ·have hin:fM true (.v (.int q)) (.v (tI ns))=some (.v (.bool true)):=by rw[hin]; simp[c1]
        have hok:pg ps ts us ns q=false:=by
         cases z:pg ps ts us ns q
         ·rfl
         ·exact absurd ⟨c1,z⟩ cc
        rw[hok] at hfi;generalize tI ns=NS at *;generalize bu ps qs ts us=W at *;simp[Dt,hin,hfi])
   have s1:cI (aW (vB (fK false) (bF lC (af (aa 1))) (bF lC (af (aa 2))))) (b8 (aa 1)) bI [some (.v (bu ps qs ts us)),some (.v (tI ns)),some (.v (dh ps ts)),some (.v (dh qs us)),none,none]=some (.nx [some (.v (bu ps qs ts us)),some (.v (tI ns)),some (.v (dh ps ts)),some (.v (dh qs us)),none,none]):=by
    have c':¬ (ns.length:Int)=(ps.length:Int):=λz=>c (by lia)
    generalize tI ns=NS at *;generalize bu ps qs ts us=W at *;generalize dh ps ts=D1 at *;simp[l1,l2,c']
   rcases key with⟨ρ',e,dn,rs,x4,x5,r1,r2,r3,rfl⟩ | ⟨m,ρ',e,r,x4,x5,r1,rfl,rfl⟩
   ·have:rs=[]:=by cases rs with | nil=>rfl | cons _ _=>cases r1
    subst this;rw[E1] at r2;subst r2;have hnone:dn.findSome? g=none:=by
     have:=iG (l':=[]) r3
     rwa [E1] at this
    rw[hs,hnone];refine bS (ρ:=[some (.v (bu ps dn ts us)),some (.v (tI ns)),some (.v (dh ps ts)),some (.v (dh dn us)),x4,x5]) rfl ?_ rfl;refine(ay a1).trans ?_;refine(ay s1).trans ?_;refine(ay (ρ1:=[some (.v (bu ps dn ts us)),some (.v (tI ns)),some (.v (dh ps ts)),some (.v (dh dn us)),x4,x5]) ?_).trans rfl;refine j6.trans ?_;rw[hdk,EB];exact e
   ·rw[hs,r1]
    refine bS (ρ:=[some (.v (bu ps qs ts us)),some (.v (tI ns)),some (.v (dh ps ts)),some (.v (dh qs us)),x4,x5]) rfl ?_ rfl;refine(ay a1).trans ?_;refine(ay s1).trans ?_;refine g9 ?_;refine j6.trans ?_;rw[hdk,EB];exact e
end
theorem gH{α β:Type}{p:α->Bool}{h:α->Option β}:∀(l:List α),(l.filter p).findSome? h=l.findSome? λx=>if p x=true then h x else none
 |[]=>rfl
 |x::l=>by
  rw[J8,GI];cases c:p x with
  |true=>rw[if_pos rfl,if_pos rfl,GI,gH l]
  |false=>rw[if_neg (by simp),if_neg (by simp),gH l]
theorem o8{ts:List (Int×Int)}(h:∀t∈ts,t.1<t.2)(a b:Int):nj ts a b=tb ts a b:=by
 unfold nj tb;refine decide_eq_decide.mpr ?_;unfold PQ.mn PQ.mx;constructor
 ·intro z
  by_cases c:b<a
  ·rw[if_pos c,if_neg (by lia)] at z; exact .inr z
  ·rw[if_neg c] at z
   by_cases c2:b>a
   ·rw[if_pos c2] at z; exact .inl z
   ·rw[if_neg c2] at z
    have:=h _ z;simp at this
 ·rintro (z | z)
  ·have:=h _ z
   have:a<b:=this;rw[if_neg (by lia),if_pos (by lia)]; exact z
  ·have:=h _ z
   have:b<a:=this;rw[if_pos (by lia),if_neg (by lia)]; exact z
section
variable{ps qs:List Int}{ts us:List (Int×Int)}
noncomputable def qF(ps qs:List Int)(ts us:List (Int×Int)):Option (List Int):=if ps.length=qs.length/\ts.length=us.length then dX (kg ps ts us) qs ps.length 9 [] else none
theorem nu{ps:List Int}{ts:List (Int×Int)}(w:bE ps ts):ts.Nodup:=w.up.imp λ{a b}h e=>by subst e; exact Ab a h
theorem alike(w:bE ps ts)(w':bE qs us)(hn:ps.length<=7):FF.c5 [.v (wD ps ts),.v (wD qs us)]=some (.v (rD (qF ps qs ts us)),[.v (wD ps ts),.v (wD qs us)]):=by
 have ndp:ps.Nodup:=w.rise.imp λh=>by lia
 have ndq:qs.Nodup:=w'.rise.imp λh=>by lia
 have n1:=AV ndp (λt h=>⟨(w.ends t h).1,(w.ends t h).2,w.lt t h⟩) (by lia) (by have:=w.len; lia)
 have n2:=AV ndq (λt h=>⟨(w'.ends t h).1,(w'.ends t h).2,w'.lt t h⟩) (by have:=w'.few; lia) (by have:=w'.len; lia)
 refine bS (ρ:=[some (.v (wD ps ts)),some (.v (wD qs us))]) rfl ?_ rfl;show FF.gG [some (.v (wD ps ts)),some (.v (wD qs us))]=_;have g0:∀(ps:List Int)(ts:List (Int×Int)),getM (.v (wD ps ts)) (.v (.int 0))=some (.v (tI ps)):=λ_ _=>rfl
 have g1:∀(ps:List Int)(ts:List (Int×Int)),getM (.v (wD ps ts)) (.v (.int 1))=some (.v (tD ts)):=λ_ _=>rfl
 have l0:∀ps:List Int,bT [.v (tI ps)]=some (.v (.int (ps.length:Int))):=λps=>by unfold tI; rw[dH,At]
 have l1:∀ts:List (Int×Int),bT [.v (tD ts)]=some (.v (.int (ts.length:Int))):=λts=>by rw[dH,At]
 have ga:=g0 ps ts;have gb:=g0 qs us;have gc:=g1 ps ts;have gd':=g1 qs us;have la:=l0 ps;have lb:=l0 qs;have lc:=l1 ts;have ld:=l1 us
 clear g0 g1 l0 l1
 by_cases c:ps.length=qs.length/\ts.length=us.length
 ·have hno:=yb w w' c.1 9 [] (EY _) (by simp; lia)
  rw[uG w w' (nu w) (nu w') c.1 9 [] EX (λx hx=>(nomatch hx)) (EY _) (λi j a b=>by simp at b)] at hno
  have hal:qF ps qs ts us=dX (kg ps ts us) qs ps.length 9 []:=if_pos c;rw[<-hal] at hno;have hno:FF.aY 9 [.v (.tuple [dh ps ts,dh qs us]),.v (.tuple [])]=some (.v (rD (qF ps qs ts us)),[.v (.tuple [dh ps ts,dh qs us]),.v (.tuple [])]):=hno;have t1:yf (.cz (dd ps λp=>sortI (nb ts p)))=some (dh ps ts):=rfl
  have t2:yf (.cz (dd qs λp=>sortI (nb us p)))=some (dh qs us):=rfl
  generalize (dd ps λp=>sortI (nb ts p))=X1 at *
  generalize (dd qs λp=>sortI (nb us p))=X2 at *
  generalize dh ps ts=D1 at *;generalize dh qs us=D2 at *;generalize rD (qF ps qs ts us)=RR at *;generalize wD ps ts=W1 at *;generalize wD qs us=W2 at *;generalize tI ps=A1 at *;generalize tI qs=A2 at *;generalize tD ts=A3 at *;generalize tD us=A4 at *;refine(ay (ρ1:=[some (.v W1),some (.v W2)]) (by simp[ga,gb,gc,gd',la,lb,lc,ld,c.1,c.2])).trans ?_
  simp[n1,n2,t1,t2,lim,hno]
 ·have hal:qF ps qs ts us=none:=if_neg c
  rw[hal];refine g9 ?_;show _=some (Out.rt (.v .none) _);generalize wD ps ts=W1 at *;generalize wD qs us=W2 at *;generalize tI ps=A1 at *;generalize tI qs=A2 at *;generalize tD ts=A3 at *;generalize tD us=A4 at *
  by_cases c1:ps.length=qs.length
  ·have c2:¬ (ts.length:Int)=(us.length:Int):=λz=>c ⟨c1,by lia⟩
   simp[ga,gb,gc,gd',la,lb,lc,ld,c1,c2]
  ·have c1:¬ (ps.length:Int)=(qs.length:Int):=λz=>c1 (by lia)
   simp[ga,gb,gc,gd',la,lb,lc,ld,c1]
end
section
variable{ps qs:List Int}{ts us:List (Int×Int)}
noncomputable abbrev Du:FE:=vB (fK false) (cC FF.bJ (ah (aa 1) (ah (cZ (cZ (aa 1) (vC (.int 0))) (aa 0)) (af (cZ (cZ (aa 1) (vC (.int 0))) (aa 4)))))) (cC FF.bJ (ah (aa 2) (ah (cZ (aa 5) (aa 0)) (af (aa 3)))))
theorem Aj(w:bE ps ts)(w':bE qs us){ns:List Int}{q:Int}(hn:ns.length<ps.length):∃y,cU (ao 0) dI Du (bH 0 (ns.length:Int)) [none,some (.v (wD ps ts)),some (.v (wD qs us)),some (.v (.int q)),some (.v (.int (ns.length:Int))),some (.v (tI ns))] []=some ((Ch ns.length).map (λk=>HB (tb ts (pl ps k) (pl ps ns.length) == tb us (pl ns k) q)),[y,some (.v (wD ps ts)),some (.v (wD qs us)),some (.v (.int q)),some (.v (.int (ns.length:Int))),some (.v (tI ns))]):=by
 have hf:=w.few;exact rW (fe:=Du) (cs:=[some (.v (wD ps ts)),some (.v (wD qs us)),some (.v (.int q)),some (.v (.int (ns.length:Int))),some (.v (tI ns))]) (f:=λk=>HB (tb ts (pl ps k) (pl ps ns.length) == tb us (pl ns k) q)) ns.length (by lia) (λk hk=>by
  refine⟨.t (.v (.bool (tb ts (pl ps k) (pl ps ns.length) == tb us (pl ns k) q))),?_,rfl⟩;have t1:=tied ps ts (pl ps k) (pl ps ns.length);have t2:=tied qs us (pl ns k) q;rw[o8 w.lt] at t1;rw[o8 w'.lt] at t2;have g0:getM (.v (wD ps ts)) (.v (.int 0))=some (.v (tI ps)):=rfl;have a1:getM (.v (tI ps)) (.v (.int (k:Int)))=some (.v (.int (pl ps k))):=by
   show (jf (ps.map EC) (k:Int)).bind _=_;rw[PL.ez _ _ (EC (pl ps k)) (by rw[E9,eK (by lia)]; rfl)]
   rfl
  have a2:getM (.v (tI ps)) (.v (.int (ns.length:Int)))=some (.v (.int (pl ps ns.length))):=by
   show (jf (ps.map EC) (ns.length:Int)).bind _=_;rw[PL.ez _ _ (EC (pl ps ns.length)) (by rw[E9,eK hn]; rfl)]
   rfl
  have a3:getM (.v (tI ns)) (.v (.int (k:Int)))=some (.v (.int (pl ns k))):=by
   show (jf (ns.map EC) (k:Int)).bind _=_;rw[PL.ez _ _ (EC (pl ns k)) (by rw[E9,eK hk]; rfl)]
   rfl
  generalize tb ts (pl ps k) (pl ps ns.length)=B1 at *;generalize tb us (pl ns k) q=B2 at *;generalize wD ps ts=W1 at *;generalize wD qs us=W2 at *;generalize tI ps=A1 at *;generalize tI ns=A2 at *;simp[Du,g0,a1,a2,a3,t1,t2])
theorem Ak(ns:List Int)(q:Int):allM false [.lst ((Ch ns.length).map λk=>HB (tb ts (pl ps k) (pl ps ns.length) == tb us (pl ns k) q))]=some (.v (.bool (kg ps ts us ns q))):=by
 have h:=VL.i6 ((Ch ns.length).map λk=>tb ts (pl ps k) (pl ps ns.length) == tb us (pl ns k) q)
 rw[EM] at h;show (ou _).bind _=_;rw[show ou ((Ch ns.length).map λk=>HB (tb ts (pl ps k) (pl ps ns.length) == tb us (pl ns k) q))=_ from h,EB]
 congr 3
 show ((Ch ns.length).map _).all id=_;rw[J0];rfl
noncomputable abbrev Ea:FE:=lq 1 [2] (dc (cZ (aa 1) (vC (.int 0)))) (ao 0) (aW (vB (fM true) (aa 0) (aa 1))) (aa 0)
noncomputable abbrev Et(f:Nat):FS:=aI (bz 5 (lq 1 [0,1,4,3,2] (dS i7 (af (aa 3))) (ao 0) dI Du))
 (aI (bz 6 (AE (lZ (bF (allM false) (af (aa 5)))) (cC (FF.aD f) (ah (aa 0) (ah (aa 1) (af (vB bZ (aa 2) (bG (af (aa 4)))))))) (vC .none)))
 (cI (aW (vB (iJ true) (aa 6) (vC .none))) (b8 (aa 6)) bI))
theorem qD(w:bE ps ts)(w':bE qs us)(hl:ps.length=qs.length):∀(f:Nat)(ns:List Int),ns.length<=ps.length->ps.length<ns.length+f->FF.aD f [.v (wD ps ts),.v (wD qs us),.v (tI ns)]=some (.v (rD (dX (kg ps ts us) qs ps.length f ns)),[.v (wD ps ts),.v (wD qs us),.v (tI ns)]):=by
 intro f
 induction f with
 |zero=>intro ns h1 h2; lia
 |succ f ih=>
  intro ns h1 h2;have hf:=w.few;have ln:bT [.v (tI ns)]=some (.v (.int (ns.length:Int))):=by unfold tI; rw[dH,At]
  have lp:bT [.v (tI ps)]=some (.v (.int (ps.length:Int))):=by unfold tI; rw[dH,At]
  have g0:getM (.v (wD ps ts)) (.v (.int 0))=some (.v (tI ps)):=rfl;have g1:getM (.v (wD qs us)) (.v (.int 0))=some (.v (tI qs)):=rfl;have a1:bz 3 (bF bT (af (aa 2))) [some (.v (wD ps ts)),some (.v (wD qs us)),some (.v (tI ns)),none,none,none,none]=some (.nx [some (.v (wD ps ts)),some (.v (wD qs us)),some (.v (tI ns)),some (.v (.int (ns.length:Int))),none,none,none]):=by
   generalize tI ns=NS at *;simp[ln]
  by_cases c:ns.length=ps.length
  ·have hs:dX (kg ps ts us) qs ps.length (f+1) ns=some ns:=by unfold dX; rw[if_pos c]
   rw[hs];refine bS (ρ:=[some (.v (wD ps ts)),some (.v (wD qs us)),some (.v (tI ns)),some (.v (.int (ns.length:Int))),none,none,none]) rfl ?_ rfl;refine(ay a1).trans ?_;refine g9 ?_;show _=some (Out.rt (.v (tI ns)) _);generalize tI ns=NS at *;generalize wD ps ts=W1 at *;generalize wD qs us=W2 at *;generalize tI ps=A1 at *;simp[g0,lp,c]
  ·have hn:ns.length<ps.length:=by lia
   let h:Int->Option (List Int):=λq=>if kg ps ts us ns q=true then dX (kg ps ts us) qs ps.length f (ns++[q]) else none
   have hs:dX (kg ps ts us) qs ps.length (f+1) ns=(qs.filter λq=> !decide (q∈ns)).findSome? h:=by
    rw[gH]
    conv=>lhs; unfold dX; rw[if_neg c]
    refine iy λq _=>?_
    show _=if (!decide (q∈ns))=true then h q else none
    by_cases c1:q∈ns
    ·rw[if_neg (λz=>z.1 c1),if_neg (by simp[c1])]
    ·rw[if_pos (show (!decide (q∈ns))=true by simp[c1])]
     show _=if kg ps ts us ns q=true then _ else none
     by_cases c2:kg ps ts us ns q=true
     ·rw[if_pos ⟨c1,c2⟩,if_pos c2]
     ·rw[if_neg (λz=>c2 z.2),if_neg c2]
   obtain⟨y,ec⟩:=iw (ft:=aW (vB (fM true) (aa 0) (aa 1))) (fe:=aa 0) (cs:=[some (.v (tI ns))]) (p:=λq=> !decide (q∈ns)) (f:=.int) qs [] none (λq _=>by
    have:=qA true ns q;refine⟨?_,.t (.v (.int q)),by simp,rfl⟩
    generalize tI ns=NS at *;simp[this]) (by simp; unfold lim; lia)
   rw[FJ] at ec;have hit:uN (tI qs)=some (qs.map .int):=rfl;have hi:dc Ea [some (.v (wD ps ts)),some (.v (wD qs us)),some (.v (tI ns)),some (.v (.int (ns.length:Int))),none,none,none]=some ((qs.filter λq=> !decide (q∈ns)).map .int,[some (.v (wD ps ts)),some (.v (wD qs us)),some (.v (tI ns)),some (.v (.int (ns.length:Int))),none,none,none]):=by
    generalize (qs.filter λq=> !decide (q∈ns)).map EC=FQ at *
    generalize qs.map EC=QD at *;generalize tI ns=NS at *;generalize tI qs=TQ at *;generalize wD qs us=W2 at *;simp[Ea,g1,hit,ec]
   have hsm:=small (k:=(ns.length:Int)) (by lia)
   generalize hFQ:(qs.filter λq=> !decide (q∈ns))=fq at *
   have key:=lA (fg:=ao 4) (fb:=Et f) (P:=λrest ρ=>∃ (dn rs:List Int) (x4 x5 x6:Option M),rest=rs.map .int/\dn++rs=fq/\(∀q∈dn,h q=none)/\ρ=[some (.v (wD ps ts)),some (.v (wD qs us)),some (.v (tI ns)),some (.v (.int (ns.length:Int))),x4,x5,x6])
    (Q:=λm ρ=>∃ (r:List Int) (x4 x5 x6:Option M),fq.findSome? h=some r/\m=.v (tI r)/\ρ=[some (.v (wD ps ts)),some (.v (wD qs us)),some (.v (tI ns)),some (.v (.int (ns.length:Int))),x4,x5,x6])
    (fq.map .int) [some (.v (wD ps ts)),some (.v (wD qs us)),some (.v (tI ns)),some (.v (.int (ns.length:Int))),none,none,none] ⟨[],fq,none,none,none,rfl,rfl,λq hq=>(nomatch hq),rfl⟩ (λd rest ρ hP=>by
     obtain⟨dn,rs,x4,x5,x6,r1,r2,r3,rfl⟩:=hP;cases rs with
     |nil=>cases r1
     |cons q rs=>
      obtain⟨rfl,rfl⟩:=HH r1;obtain⟨yy,eg⟩:=Aj (q:=q) w w' hn;have hall:=Ak (ps:=ps) (ts:=ts) (us:=us) ns q;have hadd:bZ (.v (tI ns)) (.v (.tuple [.int q]))=some (.v (tI (ns++[q]))):=by
       show (if (ns.map EC).length+1<=lim then some (M.v (.tuple (ns.map .int++[.int q]))) else none)=_
       rw[if_pos (by rw[At]; unfold lim; lia)]
       unfold tI;rw[Fy];rfl
      refine⟨[some (.v (wD ps ts)),some (.v (wD qs us)),some (.v (tI ns)),some (.v (.int (ns.length:Int))),some (.v (.int q)),x5,x6],by simp,?_⟩
      generalize (Ch ns.length).map (λk=>HB (tb ts (pl ps k) (pl ps ns.length) == tb us (pl ns k) q))=AG at *
      have nxt:h q=none->∀q'∈dn++[q],h q'=none:=λz q' hq'=>by
       rcases lM hq' with h' | h'
       ·exact r3 q' h'
       ·rw[Do.mp h']; exact z
      have s5:bz 5 (lq 1 [0,1,4,3,2] (dS i7 (af (aa 3))) (ao 0) dI Du) [some (.v (wD ps ts)),some (.v (wD qs us)),some (.v (tI ns)),some (.v (.int (ns.length:Int))),some (.v (.int q)),x5,x6]=some (.nx [some (.v (wD ps ts)),some (.v (wD qs us)),some (.v (tI ns)),some (.v (.int (ns.length:Int))),some (.v (.int q)),some (.lst AG),x6]):=by
       generalize wD ps ts=W1 at *;generalize wD qs us=W2 at *;generalize tI ns=NS at *;simp[hsm,eg]
      have s6:bz 6 (AE (lZ (bF (allM false) (af (aa 5)))) (cC (FF.aD f) (ah (aa 0) (ah (aa 1) (af (vB bZ (aa 2) (bG (af (aa 4)))))))) (vC .none)) [some (.v (wD ps ts)),some (.v (wD qs us)),some (.v (tI ns)),some (.v (.int (ns.length:Int))),some (.v (.int q)),some (.lst AG),x6]=some (.nx [some (.v (wD ps ts)),some (.v (wD qs us)),some (.v (tI ns)),some (.v (.int (ns.length:Int))),some (.v (.int q)),some (.lst AG),some (.v (rD (h q)))]):=by
       by_cases cc:kg ps ts us ns q=true
       ·have hrec:=ih (ns++[q]) (by rw[E3,EF]; lia) (by rw[E3,EF]; lia)
        have hg:h q=dX (kg ps ts us) qs ps.length f (ns++[q]):=if_pos cc;rw[<-hg] at hrec;rw[cc] at hall;generalize rD (h q)=RR at *;generalize tI (ns++[q])=NQ at *;generalize tI ns=NS at *;generalize wD ps ts=W1 at *;generalize wD qs us=W2 at *;simp[hall,lim,hadd,hrec,-oK]
       ·have hg:h q=none:=if_neg cc
        have cc:kg ps ts us ns q=false:=by simpa using cc
        rw[cc] at hall;rw[hg];show _=some (Out.nx [_,_,_,_,_,_,some (.v .none)]);generalize tI ns=NS at *;generalize wD ps ts=W1 at *;generalize wD qs us=W2 at *;simp[hall,-oK]
      have hisn:=rZ (h q);cases hgq:h q with
      |none=>
       refine .inl ⟨[some (.v (wD ps ts)),some (.v (wD qs us)),some (.v (tI ns)),some (.v (.int (ns.length:Int))),some (.v (.int q)),some (.lst AG),some (.v .none)],?_,dn++[q],rs,_,_,_,rfl,by rw[EU]; exact r2,nxt hgq,rfl⟩
       refine(ay s5).trans ?_;refine(ay s6).trans ?_;rw[hgq] at hisn ⊢;have hisn:iJ true (.v .none) (.v .none)=some (.v (.bool false)):=hisn;show cI _ _ _ [_,_,_,_,_,_,some (.v .none)]=_;simp[hisn]
      |some r=>
       refine .inr ⟨.v (tI r),[some (.v (wD ps ts)),some (.v (wD qs us)),some (.v (tI ns)),some (.v (.int (ns.length:Int))),some (.v (.int q)),some (.lst AG),some (.v (tI r))],?_,r,_,_,_,?_,rfl,rfl⟩
       ·refine(ay s5).trans ?_
        refine(ay s6).trans ?_;rw[hgq] at hisn ⊢;have hisn:iJ true (.v (tI r)) (.v .none)=some (.v (.bool true)):=hisn;show cI _ _ _ [_,_,_,_,_,_,some (.v (tI r))]=_;generalize tI r=RR at *;simp[hisn]
       ·rw[<-r2,iG r3,GI,hgq])
   have s1:cI (aW (vB (fK false) (aa 3) (bF bT (af (cZ (aa 0) (vC (.int 0))))))) (b8 (aa 2)) bI [some (.v (wD ps ts)),some (.v (wD qs us)),some (.v (tI ns)),some (.v (.int (ns.length:Int))),none,none,none]=some (.nx [some (.v (wD ps ts)),some (.v (wD qs us)),some (.v (tI ns)),some (.v (.int (ns.length:Int))),none,none,none]):=by
    have c':¬ (ns.length:Int)=(ps.length:Int):=λz=>c (by lia)
    generalize tI ns=NS at *;generalize wD ps ts=W1 at *;generalize wD qs us=W2 at *;generalize tI ps=A1 at *;simp[g0,lp,c']
   rcases key with⟨ρ',e,dn,rs,x4,x5,x6,r1,r2,r3,rfl⟩ | ⟨m,ρ',e,r,x4,x5,x6,r1,rfl,rfl⟩
   ·have:rs=[]:=by cases rs with | nil=>rfl | cons _ _=>cases r1
    subst this;rw[E1] at r2;have hnone:fq.findSome? h=none:=by
     have:=iG (l':=[]) r3;rw[E1,r2] at this;exact this
    rw[hs,hnone];refine bS (ρ:=[some (.v (wD ps ts)),some (.v (wD qs us)),some (.v (tI ns)),some (.v (.int (ns.length:Int))),x4,x5,x6]) rfl ?_ rfl;refine(ay a1).trans ?_;refine(ay s1).trans ?_;refine(ay (ρ1:=[some (.v (wD ps ts)),some (.v (wD qs us)),some (.v (tI ns)),some (.v (.int (ns.length:Int))),x4,x5,x6]) ?_).trans rfl;refine j6.trans ?_;rw[hi,EB];exact e
   ·rw[hs,r1]
    refine bS (ρ:=[some (.v (wD ps ts)),some (.v (wD qs us)),some (.v (tI ns)),some (.v (.int (ns.length:Int))),x4,x5,x6]) rfl ?_ rfl;refine(ay a1).trans ?_;refine(ay s1).trans ?_;refine g9 ?_;refine j6.trans ?_;rw[hi,EB];exact e
end
section
variable{ps qs nm:List Int}{ts us:List (Int×Int)}
theorem uH(w:bE ps ts)(w':bE qs us)(hn:ps.length<=7):FF.bN [.v (wD ps ts),.v (wD qs us)]=some (.v (rD (qF ps qs ts us)),[.v (wD ps ts),.v (wD qs us)]):=by
 refine bS (ρ:=[some (.v (wD ps ts)),some (.v (wD qs us))]) rfl ?_ rfl;show FF.cM [some (.v (wD ps ts)),some (.v (wD qs us))]=_;have ga:getM (.v (wD ps ts)) (.v (.int 0))=some (.v (tI ps)):=rfl;have gb:getM (.v (wD qs us)) (.v (.int 0))=some (.v (tI qs)):=rfl;have gc:getM (.v (wD ps ts)) (.v (.int 1))=some (.v (tD ts)):=rfl;have gd':getM (.v (wD qs us)) (.v (.int 1))=some (.v (tD us)):=rfl;have la:bT [.v (tI ps)]=some (.v (.int (ps.length:Int))):=by unfold tI; rw[dH,At]
 have lb:bT [.v (tI qs)]=some (.v (.int (qs.length:Int))):=by unfold tI; rw[dH,At]
 have lc:bT [.v (tD ts)]=some (.v (.int (ts.length:Int))):=by rw[dH,At]
 have ld:bT [.v (tD us)]=some (.v (.int (us.length:Int))):=by rw[dH,At]
 by_cases c:ps.length=qs.length/\ts.length=us.length
 ·have hno:=qD w w' c.1 9 [] (EY _) (by simp; lia)
  have hal:qF ps qs ts us=dX (kg ps ts us) qs ps.length 9 []:=if_pos c;rw[<-hal] at hno;have hno:FF.aD 9 [.v (wD ps ts),.v (wD qs us),.v (.tuple [])]=some (.v (rD (qF ps qs ts us)),[.v (wD ps ts),.v (wD qs us),.v (.tuple [])]):=hno;generalize rD (qF ps qs ts us)=RR at *;generalize wD ps ts=W1 at *;generalize wD qs us=W2 at *;generalize tI ps=A1 at *;generalize tI qs=A2 at *;generalize tD ts=A3 at *;generalize tD us=A4 at *;refine(ay (ρ1:=[some (.v W1),some (.v W2)]) (by simp[ga,gb,gc,gd',la,lb,lc,ld,c.1,c.2])).trans ?_
  simp[lim,hno]
 ·have hal:qF ps qs ts us=none:=if_neg c
  rw[hal];refine g9 ?_;show _=some (Out.rt (.v .none) _);generalize wD ps ts=W1 at *;generalize wD qs us=W2 at *;generalize tI ps=A1 at *;generalize tI qs=A2 at *;generalize tD ts=A3 at *;generalize tD us=A4 at *
  by_cases c1:ps.length=qs.length
  ·have c2:¬ (ts.length:Int)=(us.length:Int):=λz=>c ⟨c1,by lia⟩
   simp[ga,gb,gc,gd',la,lb,lc,ld,c1,c2]
  ·have c1:¬ (ps.length:Int)=(qs.length:Int):=λz=>c1 (by lia)
   simp[ga,gb,gc,gd',la,lb,lc,ld,c1]
theorem nv(w:bE ps ts)(hl:nm.length=ps.length):FF.aQ [.v (wD ps ts),.v (tI nm)]=some (.v (wD (sortI nm) (bW (ts.map (bA ps nm)))),[.v (wD ps ts),.v (tI nm)]):=by
 have ndp:ps.Nodup:=w.rise.imp λ{a b}h=>by lia
 have ed:=Ad (nm:=nm) ndp;generalize hD:(ps.map GP).zip (nm.map EC)=D at ed;have hkD:∀x∈ps,cN D (.inl x)=some (.int (aP ps nm x)):=λx hx=>hD▸qw hl hx
 obtain⟨z1,z2,e5⟩:=jL (fe:=bF d8 (af (bF c7 (af (di (ah (cZ (aa 2) (aa 0)) (af (cZ (aa 2) (aa 1))))))))) (cs:=[some (.cz D)]) (f:=λt=>pD (bA ps nm t)) ts [] none none (λt htm=>by
  obtain⟨h1,h2⟩:=w.ends t htm;have es:=rR (ns:=[aP ps nm t.1,aP ps nm t.2]) (by simp)
  rw[uD] at es;have es:c7 [.lst [.int (aP ps nm t.1),.int (aP ps nm t.2)]]=some (.lst [.int (bA ps nm t).1,.int (bA ps nm t).2]):=es;refine⟨.t (.v (pD (bA ps nm t))),?_,rfl⟩;simp[hkD _ h1,hkD _ h2,lim,es]) (by rw[F9]; have:=w.len; unfold lim; lia)
 rw[FJ,show ts.map (λt=>pD (bA ps nm t))=(ts.map (bA ps nm)).map pD by rw[EM]; rfl] at e5
 have e6:=ir (ts:=ts.map (bA ps nm)) (by rw[At]; have:=w.len; lia)
 have e7:c7 [.v (tI nm)]=some (.lst ((sortI nm).map .int)):=by
  show (gx (nm.map .int)).bind _=_;rw[eL];show (if nm.length<64 then _ else _)=_
  rw[if_pos (by have:=w.few; lia)]
 have g0:getM (.v (wD ps ts)) (.v (.int 0))=some (.v (tI ps)):=rfl;have g1:getM (.v (wD ps ts)) (.v (.int 1))=some (.v (tD ts)):=rfl;have hit:uN (tD ts)=some (ts.map pD):=rfl;have u1:d8 [.lst ((sortI nm).map .int)]=some (.v (tI (sortI nm))):=rfl;have u2:d8 [.lst ((bW (ts.map (bA ps nm))).map pD)]=some (.v (tD (bW (ts.map (bA ps nm))))):=rfl;refine bS (ρ:=[some (.v (wD ps ts)),some (.v (tI nm)),some (.cz D)]) rfl ?_ rfl;show FF.cL [some (.v (wD ps ts)),some (.v (tI nm)),none]=some (Out.rt (.v (.tuple [tI (sortI nm),tD (bW (ts.map (bA ps nm)))])) _);generalize tI (sortI nm)=S1 at *;generalize tD (bW (ts.map (bA ps nm)))=S2 at *;generalize (sortI nm).map EC=S3 at *;generalize (bW (ts.map (bA ps nm))).map pD=S4 at *;generalize (ts.map (bA ps nm)).map pD=S5 at *;generalize ts.map pD=S6 at *;generalize wD ps ts=W at *;generalize tI ps=A1 at *;generalize tI nm=A2 at *;generalize tD ts=A3 at *;refine(ay (ρ1:=[some (.v W),some (.v A2),some (.cz D)]) (by simp[g0,ed])).trans ?_
 simp[e7,u1,g1,hit,e5,e6,u2,lim,-jo]
theorem jA:∀{ps nm:List Int}{x:Int},nm.length=ps.length->x∈ps->aP ps nm x=pl nm (ps.idxOf x)
 |[],_,_,_,h=>by cases h
 |p::ps,[],_,h,_=>by cases h
 |p::ps,n::nm,x,hl,h=>by
  unfold aP
  by_cases c:p=x
  ·rw[if_pos c,c,List.idxOf_cons_self]
   rfl
  ·have hi:(p::ps).idxOf x=ps.idxOf x+1:=by rw[List.idxOf_cons,show (p == x)=false by simpa using c]; rfl
   rw[if_neg c,hi];have hx:x∈ps:=(lK h).resolve_left λz=>c z.symm
   rw[jA (by simpa using hl) hx]
   rfl
theorem uI(w:bE ps ts)(w':bE qs us)(hl:ps.length=qs.length)(hc:ts.length=us.length){r:List Int}(R:Row ps ts us qs [] r):sortI r=qs/\bW (ts.map (bA ps r))=us:=by
 have ndp:ps.Nodup:=w.rise.imp λh=>by lia
 have hrq:r.Perm qs:=by
  refine j8 R.nd (w'.rise.imp λh=>by lia) λx=>⟨R.sub x,λhx=>?_⟩
  refine GN λz=>?_
  have h1:(x::r).Nodup:=EG.mpr ⟨z,R.nd⟩;have:=Fw (l₂:=qs) h1 λy hy=>by
   rcases lK hy with rfl | hy
   ·exact hx
   ·exact R.sub y hy
  rw[E7,R.len] at this;lia
 refine⟨jX hrq w'.rise,lG ?_ w'.up⟩;have ag:∀i j,i<ps.length->j<ps.length->tb ts (pl ps i) (pl ps j)=tb us (pl r i) (pl r j):=λi j hi hj=>by
  rcases LM i j with h | h | h
  ·exact R.ag i j h hj (EY _)
  ·subst h
   rw[kc w.lt,kc w'.lt]
  ·rw[j9,j9 us]; exact R.ag j i h hi (EY _)
 have img:∀t∈ts,bA ps r t∈us:=λt ht=>by
  obtain⟨h1,h2⟩:=w.ends t ht;have ht':tb ts (pl ps (ps.idxOf t.1)) (pl ps (ps.idxOf t.2))=true:=by rw[iS h1,iS h2]; exact decide_eq_true (.inl ht)
  rw[ag _ _ (iR h1) (iR h2),<-jA R.len h1,<-jA R.len h2,<-o8 w'.lt] at ht';exact of_decide_eq_true ht'
 have nd1:(ts.map (bA ps r)).Nodup:=by
  refine EZ.mpr ((Hr.mp (nu w)).imp λ{a b}z e=>?_)
  obtain⟨a1,a2⟩:=w.ends a z.1;obtain⟨b1,b2⟩:=w.ends b z.2.1;have la:=w.lt a z.1;have lb:=w.lt b z.2.1;have inj:∀{x y},x∈ps->y∈ps->aP ps r x=aP ps r y->x=y:=λ{x y}hx hy e=>by
   rw[jA R.len hx,jA R.len hy] at e;have:=rY R.nd (by rw[R.len]; exact iR hx) (by rw[R.len]; exact iR hy) e
   rw[<-iS hx,<-iS hy,this]
  have e1:PQ.mn (aP ps r a.1) (aP ps r a.2)=PQ.mn (aP ps r b.1) (aP ps r b.2):=congrArg Prod.fst e;have e2:PQ.mx (aP ps r a.1) (aP ps r a.2)=PQ.mx (aP ps r b.1) (aP ps r b.2):=congrArg Prod.snd e;unfold PQ.mn at e1;unfold PQ.mx at e2;have key:(aP ps r a.1=aP ps r b.1/\aP ps r a.2=aP ps r b.2)\/(aP ps r a.1=aP ps r b.2/\aP ps r a.2=aP ps r b.1):=by
   generalize aP ps r a.1=A1 at *;generalize aP ps r a.2=A2 at *;generalize aP ps r b.1=B1 at *;generalize aP ps r b.2=B2 at *
   split at e1 <;> split at e1 <;> split at e2 <;> split at e2 <;> lia
  rcases key with⟨k1,k2⟩ | ⟨k1,k2⟩
  ·exact z.2.2 (Lf (inj a1 b1 k1) (inj a2 b2 k2))
  ·have:=inj a1 b2 k1
   have:=inj a2 b1 k2;lia
 have hsub:∀u∈ts.map (bA ps r),u∈us:=λu hu=>by
  obtain⟨t,ht,rfl⟩:=EL.mp hu;exact img t ht
 refine j8 nd1 (nu w') λu=>⟨hsub u,λhu=>?_⟩
 refine GN λz=>?_
 have:=Fw (l₂:=us) (EG.mpr ⟨z,nd1⟩) λy hy=>by
  rcases lK hy with rfl | hy
  ·exact hu
  ·exact hsub y hy
 rw[E7,At] at this;lia
theorem o9{r:List Int}(h:qF ps qs ts us=some r):ps.length=qs.length/\ts.length=us.length/\Row ps ts us qs [] r:=by
 unfold qF at h
 split at h
 ·next c=>exact⟨c.1,c.2,qC h EX (λx hx=>(nomatch hx))⟩
 ·cases h
theorem Al{r:Option (List Int)}(h:∀l,r=some l->∀x∈l,sm x)(hl:∀l,r=some l->l.length<=1000):∃S:Str,ic [.v (rD r)]=some (.v (.str S)):=by
 cases r with
 |none=>exact⟨_,rfl⟩
 |some l=>
  have h1:=h l rfl;have h2:=hl l rfl;refine⟨(tI l).shown,?_⟩;show (if oO (tI l)=true then some (M.v (.str (tI l).shown)) else none)=_
  rw[if_pos];have hc:GV (tI l)=true:=by unfold tI GV; exact ci l
  have hs:L4 (tI l)=true:=by unfold tI; show Ig (l.map .int)=true; exact D6 l h1
  have hd:Fk (tI l)<=1:=by unfold tI Fk; rw[DT]; lia
  have hw:Ia (tI l)<=2 ^ 20:=by
   unfold tI;show Iw (l.map .int)<=2 ^ 20;have:=D7 l h1;have:(2:Nat) ^ 20=1048576:=rfl;lia
  have hi:PyData.intsShort 13 (tI l)=true:=by unfold tI; show KN 13 (l.map .int)=true; exact Ep l h1
  have hz:=PyData.shown_fits_of_layable0 (B:=13) (by decide) (by decide) (d:=tI l) (by
   unfold PyData.layable0;rw[hc,decide_eq_true (show Fk (tI l)<=64 by lia),decide_eq_true hw]; rfl) hi
  unfold oO;rw[hc,hs,decide_eq_true (show Fk (tI l)<=50 by lia),decide_eq_true hz]
  rfl
theorem yc(ps:List Int)(ts:List (Int×Int))(neg:Bool):fK neg (.v (wD ps ts)) (.v (wD ps ts))=some (.v (.bool (!neg))):=eq_self (by
  show (EI (ps.map .int) && (EI (ts.map pD) && true))=true;rw[ci,PQ.eN]; rfl) (by
  show max (Ge (ps.map .int)+1) (max (Ge (ts.map pD)+1) 0)+1<=60;have:=DT ps;have:=D8 ts;lia) neg
end
structure Tw(ps:List Int)(ts:List (Int×Int)):Prop where
 nd:ts.Nodup
 lt:∀t∈ts,t.1<t.2
 ends:∀t∈ts,t.1∈ps/\t.2∈ps
section
variable{ps:List Int}{ts:List (Int×Int)}
theorem Tw.few(h:Tw ps ts)(hn:ps.length<=7):ts.length<=49:=by
 have h1:=Fw (l₂:=ps.flatMap λa=>ps.map λb=>(a,b)) h.nd λt ht=>by
  rw[LP];exact⟨t.1,(h.ends t ht).1,EL.mpr ⟨t.2,(h.ends t ht).2,rfl⟩⟩
 have h2:(ps.flatMap λa=>ps.map λb=>(a,b)).length=ps.length*ps.length:=by
  rw[List.length_flatMap];have:∀l:List Int,(l.map λa=>(ps.map λb=>(a,b)).length).sum=l.length*ps.length:=λl=>by
   induction l with
   |nil=>simp
   |cons a l ih=>rw[EH,List.sum_cons,ih,At,E7,Nat.succ_mul]; lia
  exact this ps
 have h3:ps.length*ps.length<=7*7:=Nat.mul_le_mul hn hn;lia
theorem Tw.Eb(h:Tw ps ts)(hr:ps.Pairwise (· < ·))(hg:∀p∈ps,0<=p/\p<=99)(hn:ps.length<=7):bE ps (bW ts):=by
 have hp:=dO ts;have:=h.few hn;exact⟨hr,hg,by lia,lD h.nd,λt ht=>h.lt t (hp.mem_iff.mp ht),λt ht=>h.ends t (hp.mem_iff.mp ht),by rw[hp.length_eq]; lia⟩
noncomputable abbrev Dg:FT:=gI (aW (vB AH (aa 0) (aa 1))) (aW (vB (fM true) (bG (ah (aa 0) (af (aa 1)))) (aa 2)))
noncomputable abbrev Dv:FE:=bG (ah (aa 0) (af (aa 1)))
theorem Am{b:Int}(ns:List Int)(hn:ns.length<=1000):∃y,cU (ao 0) Dg Dv (ns.map .int) [none,some (.v (.int b)),some (.lst (ts.map pD))] []=some ((ns.filter λa=>decide (a<b) && !decide ((a,b)∈ts)).map (λa=>pD (a,b)),[y,some (.v (.int b)),some (.lst (ts.map pD))]):=by
 obtain⟨y,e⟩:=iw (ft:=Dg) (fe:=Dv) (cs:=[some (.v (.int b)),some (.lst (ts.map pD))]) (p:=λa=>decide (a<b) && !decide ((a,b)∈ts)) (f:=λa=>pD (a,b)) ns [] none (λa _=>by
  have hin:=jw true ts (a,b);have hin:fM true (.v (.tuple [.int a,.int b])) (.lst (ts.map pD))=some (.v (.bool (!decide ((a,b)∈ts)))):=hin;refine⟨?_,.t (.v (pD (a,b))),by simp[Dv,lim],rfl⟩
  generalize ts.map pD=TD at *
  by_cases c:a<b
  ·simp[Dg,c,lim,hin]
  ·simp[Dg,c]) (by simp; unfold lim; lia)
 rw[FJ] at e;exact⟨y,e⟩
noncomputable abbrev DU:FS:=c9 (qk 5 (af (gJ 1 [6,4] 3 (ao 0) Dg Dv)))
theorem yd{l:List Ap}{W:Ap}{t:Int}(hn:ps.length<=7):∃ (pr:List (Int×Int)) (x6:Option M),pr.length<=49/\(∀u∈pr,u.1<u.2/\u.1∈ps/\u.2∈ps/\u∉ts) /\
  forL (ao 6) DU (ps.map .int) [some (.lst l),some (.v W),some (.v (.int t)),some (.v (tI ps)),some (.lst (ts.map pD)),some (.lst []),none]=some (.nx [some (.lst l),some (.v W),some (.v (.int t)),some (.v (tI ps)),some (.lst (ts.map pD)),some (.lst (pr.map pD)),x6]):=by
 obtain⟨ρ',e,rs,pr,x6,h1,h2,h3,h4,rfl⟩:=gE (fg:=ao 6) (fb:=DU) (P:=λrest ρ=>∃ (rs:List Int) (pr:List (Int×Int)) (x6:Option M),rest=rs.map .int/\(∀r∈rs,r∈ps)/\pr.length+7*rs.length<=49/\(∀u∈pr,u.1<u.2/\u.1∈ps/\u.2∈ps/\u∉ts)/\ρ=[some (.lst l),some (.v W),some (.v (.int t)),some (.v (tI ps)),some (.lst (ts.map pD)),some (.lst (pr.map pD)),x6])
  (ps.map .int) [some (.lst l),some (.v W),some (.v (.int t)),some (.v (tI ps)),some (.lst (ts.map pD)),some (.lst []),none] ⟨ps,[],none,rfl,λr h=>h,by simp; lia,λu hu=>(nomatch hu),rfl⟩ (λd rest ρ hP=>by
   obtain⟨rs,pr,x6,h1,h2,h3,h4,rfl⟩:=hP;cases rs with
   |nil=>cases h1
   |cons b rs=>
    obtain⟨rfl,rfl⟩:=HH h1;rw[E7] at h3;obtain⟨y,ec⟩:=Am (ts:=ts) (b:=b) ps (by lia)
    have hfl:(ps.filter λa=>decide (a<b) && !decide ((a,b)∈ts)).length<=7:=FH (KW _ _) hn
    generalize hfs:(ps.filter λa=>decide (a<b) && !decide ((a,b)∈ts))=fs at *
    have hm:fs.map (λa=>pD (a,b))=(fs.map λa=>(a,b)).map pD:=by rw[EM]; rfl
    rw[hm] at ec;refine⟨[some (.lst l),some (.v W),some (.v (.int t)),some (.v (tI ps)),some (.lst (ts.map pD)),some (.lst (pr.map pD)),some (.v (.int b))],[some (.lst l),some (.v W),some (.v (.int t)),some (.v (tI ps)),some (.lst (ts.map pD)),some (.lst ((pr++fs.map λa=>(a,b)).map pD)),some (.v (.int b))],by simp,?_,rs,pr++fs.map λa=>(a,b),_,rfl,λr hr=>h2 r (lO _ hr),by rw[E3,At]; lia,λu hu=>?_,rfl⟩
    ·have hit:uN (tI ps)=some (ps.map .int):=rfl
     have hl1:(pr.map pD).length+((fs.map λa=>(a,b)).map pD).length<=1000000:=by simp; lia
     rw[Fy];generalize (fs.map λa=>(a,b)).map pD=FD at *
     generalize pr.map pD=PR at *;generalize ts.map pD=TD at *;generalize ps.map EC=PS' at *;generalize tI ps=TP at *;have eo:gJ 1 [6,4] 3 (ao 0) Dg Dv [some (.lst l),some (.v W),some (.v (.int t)),some (.v TP),some (.lst TD),some (.lst PR),some (.v (.int b))]=some (.t (.lst FD),[some (.lst l),some (.v W),some (.v (.int t)),some (.v TP),some (.lst TD),some (.lst PR),some (.v (.int b))]):=by
      refine(CL rfl).trans ?_;simp[hit,ec]
     simp[DU,eo,lim,hl1]
    ·rcases lM hu with hu | hu
     ·exact h4 u hu
     ·obtain⟨a,ha,rfl⟩:=EL.mp hu
      rw[<-hfs] at ha;obtain⟨k1,k2⟩:=Fx.mp ha;rw[EV,decide_eq_true_iff,Bool.not_eq_true',decide_eq_false_iff_not] at k2;exact⟨k2.1,k1,h2 b lS,k2.2⟩)
 have:rs=[]:=by cases rs with | nil=>rfl | cons _ _=>cases h1
 subst this;exact⟨pr,x6,by simpa using h3,h4,e⟩
end
theorem qE{e:Ap}(he:ES e e=true):∀{ds:List Ap},e∈ds->∃j,rL ds e=some j
 |[],h=>by cases h
 |d::ds,h=>by
  unfold rL
  by_cases c:ES d e=true
  ·exact⟨0,if_pos c⟩
  ·rcases lK h with h | h
   ·subst h; exact absurd he c
   ·obtain⟨j,hj⟩:=qE he h
    exact⟨j+1,by rw[if_neg c,hj]; rfl⟩
theorem An(t:Int×Int):ES (pD t) (pD t)=true:=JX _ rfl
section
variable{ps:List Int}{ts:List (Int×Int)}
noncomputable abbrev cV(l:List Ap)(W:Ap)(t:Int)(ps:List Int)(ts pr:List (Int×Int))(x6:Option M):Ev:=[some (.lst l),some (.v W),some (.v (.int t)),some (.v (tI ps)),some (.lst (ts.map pD)),some (.lst (pr.map pD)),x6]
theorem CO{B:Nat}{l:List Ap}{W:Ap}{t:Int}{pr:List (Int×Int)}{x6:Option M}(h:Hd B l)(hB:B<=100000)(hT:Tw ps ts)(hl:ts.length<=1000):∃l' ts',Hd (B+1) l'/\Tw ps ts'/\(∀u∈ts',u∈ts)/\cI (gI (aW (vB (fM false) (aa 2) (bG (ah (vC (.int 0)) (af (vC (.int 1))))))) (aW (vB (fK true) (aa 4) (di fC)))) (c9 (m8 4 (af (cC FF.au (ah (aa 0) (af (aa 4))))))) bI (cV l W t ps ts pr x6)=some (.nx (cV l' W t ps ts' pr x6)):=by
 have hin:=tE false [0,1] t;have hin:fM false (.v (.int t)) (.v (.tuple [.int 0,.int 1]))=some (.v (.bool (decide (t∈[0,1])))):=hin;have heq:=tG true ts
 by_cases c1:t∈[(0:Int),1]
 ·by_cases c2:ts=[]
  ·refine⟨l,ts,h.mono (by lia),hT,λu hu=>hu,?_⟩
   rw[decide_eq_true c1] at hin;have heq:fK true (.lst (ts.map pD)) (.lst [])=some (.v (.bool false)):=by rw[heq,c2]; rfl
   simp[cV,hin,heq,lim]
  ·have hpos:0<(ts.map pD).length:=by rw[At]; exact Ih.mpr c2
   obtain⟨d,l',hd,hl',e⟩:=pick (ds:=ts.map pD) h (by lia) hpos (by rw[At]; lia)
   obtain⟨u,hu,rfl⟩:=EL.mp hd;obtain⟨j,hj⟩:=qE (An u) hd;have hok:okIn (ts.map pD) (pD u)=true:=by
    unfold okIn;rw[PQ.eN,decide_eq_true (show (pD u).depth<=50 from by show Fk (.tuple [.int u.1,.int u.2])<=50; simp[Fk,Ge])]
    rfl
   have her:(ts.map pD).eraseIdx j=(ts.eraseIdx j).map pD:=jy _ _ _;have hsub:∀v∈ts.eraseIdx j,v∈ts:=λv hv=>(KZ ts j).subset hv
   refine⟨l',ts.eraseIdx j,hl',⟨hT.nd.sublist (KZ _ _),λv hv=>hT.lt v (hsub v hv),λv hv=>hT.ends v (hsub v hv)⟩,hsub,?_⟩
   rw[decide_eq_true c1] at hin;have heq:fK true (.lst (ts.map pD)) (.lst [])=some (.v (.bool true)):=by
    rw[heq];cases ts with
    |nil=>exact absurd rfl c2
    |cons _ _=>rfl
   show cI _ _ _ [some (.lst l),some (.v W),some (.v (.int t)),some (.v (tI ps)),some (.lst (ts.map pD)),some (.lst (pr.map pD)),x6]=some (.nx [some (.lst l'),some (.v W),some (.v (.int t)),some (.v (tI ps)),some (.lst ((ts.eraseIdx j).map pD)),some (.lst (pr.map pD)),x6]);rw[<-her];generalize ts.map pD=TD at *;generalize pD u=U at *;have hr:m8 4 (af (cC FF.au (ah (aa 0) (af (aa 4))))) [some (.lst l),some (.v W),some (.v (.int t)),some (.v (tI ps)),some (.lst TD),some (.lst (pr.map pD)),x6]=some (.t (.v .none),[some (.lst l'),some (.v W),some (.v (.int t)),some (.v (tI ps)),some (.lst (TD.eraseIdx j)),some (.lst (pr.map pD)),x6]):=by
    unfold m8;simp[e,hok,hj]
   simp[hin,heq,lim,hr]
 ·refine⟨l,ts,h.mono (by lia),hT,λu hu=>hu,?_⟩
  rw[decide_eq_false c1] at hin;simp[cV,hin,lim]
theorem CP{B:Nat}{l:List Ap}{W:Ap}{t:Int}{ts0 pr:List (Int×Int)}{x6:Option M}(h:Hd B l)(hB:B<=100000)(hT:Tw ps ts)(hs:∀u∈ts,u∈ts0)(hl:ts.length<=1000)(hp:pr.length<=49)(hpr:∀u∈pr,u.1<u.2/\u.1∈ps/\u.2∈ps/\u∉ts0):∃l' ts',Hd (B+1) l'/\Tw ps ts'/\cI (gI (aW (vB (fM false) (aa 2) (bG (ah (vC (.int 0)) (af (vC (.int 2))))))) (aW (vB (fK true) (aa 5) (di fC)))) (c9 (qh 4 (af (cC FF.au (ah (aa 0) (af (aa 5))))))) bI (cV l W t ps ts pr x6)=some (.nx (cV l' W t ps ts' pr x6)):=by
 have hin:=tE false [0,2] t;have hin:fM false (.v (.int t)) (.v (.tuple [.int 0,.int 2]))=some (.v (.bool (decide (t∈[0,2])))):=hin;have heq:=tG true pr
 by_cases c1:t∈[(0:Int),2]
 ·by_cases c2:pr=[]
  ·refine⟨l,ts,h.mono (by lia),hT,?_⟩
   rw[decide_eq_true c1] at hin;have heq:fK true (.lst (pr.map pD)) (.lst [])=some (.v (.bool false)):=by rw[heq,c2]; rfl
   simp[cV,hin,heq,lim]
  ·have hpos:0<(pr.map pD).length:=by rw[At]; exact Ih.mpr c2
   obtain⟨d,l',hd,hl',e⟩:=pick (ds:=pr.map pD) h (by lia) hpos (by rw[At]; lia)
   obtain⟨u,hu,rfl⟩:=EL.mp hd;obtain⟨u1,u2,u3,u4⟩:=hpr u hu;refine⟨l',ts++[u],hl',⟨?_,λv hv=>?_,λv hv=>?_⟩,?_⟩
   ·rw[E2]
    exact⟨hT.nd,GZ _ _,λa ha b hb e=>u4 (by rw[<-Do.mp hb,<-e]; exact hs a ha)⟩
   ·rcases lM hv with hv | hv
    ·exact hT.lt v hv
    ·rw[Do.mp hv]; exact u1
   ·rcases lM hv with hv | hv
    ·exact hT.ends v hv
    ·rw[Do.mp hv]; exact⟨u2,u3⟩
   ·rw[decide_eq_true c1] at hin
    have heq:fK true (.lst (pr.map pD)) (.lst [])=some (.v (.bool true)):=by
     rw[heq];cases pr with
     |nil=>exact absurd rfl c2
     |cons _ _=>rfl
    have hlt:(ts.map pD).length<1000000:=by rw[At]; lia
    show cI _ _ _ [some (.lst l),some (.v W),some (.v (.int t)),some (.v (tI ps)),some (.lst (ts.map pD)),some (.lst (pr.map pD)),x6]=some (.nx [some (.lst l'),some (.v W),some (.v (.int t)),some (.v (tI ps)),some (.lst ((ts++[u]).map pD)),some (.lst (pr.map pD)),x6]);rw[Fy,List.map_singleton];generalize ts.map pD=TD at *;generalize pr.map pD=PR at *;generalize pD u=U at *;simp[hin,heq,lim,e,hlt]
 ·refine⟨l,ts,h.mono (by lia),hT,?_⟩
  rw[decide_eq_false c1] at hin;simp[cV,hin,lim]
end
end PO
end
section
namespace PA
open PySem L2 VL
@[simp] theorem atI_c0{α:Type}{x:α}{xs:List α}:jf (x::xs) 0=some x:=by
 have:=ez (xs:=x::xs) (j:=0) (v:=x) rfl;exact this
@[simp] theorem atI_c1{α:Type}{x y:α}{xs:List α}:jf (x::y::xs) 1=some y:=by
 have:=ez (xs:=x::y::xs) (j:=1) (v:=y) rfl;exact this
@[simp] theorem toD_dic{kvs:List (Key×Ap)}:yf (.cz kvs)=some (.dict (kvs.map λp=>(gr p.1,p.2))):=rfl
theorem uJ{ns:List Int}(h:ns.length<64):c7 [.v (.tuple (ns.map .int))]=some (.lst ((sortI ns).map .int)):=by
 show ((gx (ns.map .int)).bind λns=>if ns.length<64 then some (M.lst ((sortI ns).map .int)) else none)=_
 rw[eL];show (if ns.length<64 then _ else _)=_
 rw[if_pos h]
end PA
end
section
namespace PO
open PySem L2 VL PA PQ PN PS PL
section
variable{ps:List Int}{ts:List (Int×Int)}
noncomputable abbrev Dh:FS:=cI (gI (aW (vB (fK false) (aa 2) (vC (.int 3)))) (aW (vB AH (bF bT (af (aa 3))) (vC (.int 7))))) (bz 3 (bF d8 (af (bF mW (af (vB bZ (aa 3) (bG (af (cC FF.au (ah (aa 0) (af (lq 1 [3] (dS i7 (af (vC (.int 100)))) (ao 0) (aW (vB (fM true) (aa 0) (aa 1))) (aa 0))))))))))))) bI
theorem ch_pl{B:Nat}{l:List Ap}{W:Ap}{t:Int}{pr:List (Int×Int)}{x6:Option M}(h:Hd B l)(hB:B<=100000)(hr:ps.Pairwise (· < ·))(hg:∀p∈ps,0<=p/\p<=99)(hn:ps.length<=7):∃l' ps',Hd (B+1) l'/\ps'.Pairwise (· < ·)/\(∀p∈ps',0<=p/\p<=99)/\ps'.length<=7/\(∀p∈ps,p∈ps')/\Dh (cV l W t ps ts pr x6)=some (.nx (cV l' W t ps' ts pr x6)):=by
 have hlen:bT [.v (tI ps)]=some (.v (.int (ps.length:Int))):=by unfold tI; rw[dH,At]
 by_cases c:t=3/\ps.length<7
 ·obtain⟨y,ec⟩:=iw (ft:=aW (vB (fM true) (aa 0) (aa 1))) (fe:=aa 0) (cs:=[some (.v (tI ps))]) (p:=λq=> !decide (q∈ps)) (f:=.int) ((Ch 100).map λk:Nat=>(k:Int)) [] none (λq _=>by
   have:=qA true ps q;refine⟨?_,.t (.v (.int q)),by simp,rfl⟩
   generalize tI ps=NS at *;simp[this]) (by simp; unfold lim; lia)
  rw[FJ] at ec;have hrg:bH 0 100=((Ch 100).map λk:Nat=>(k:Int)).map .int:=by
   rw[show (100:Int)=((100:Nat):Int) from rfl,dg,EM]
   exact FU λk _=>by rw[Ka]; rfl
  rw[<-hrg] at ec;have hex:∃q,q∈((Ch 100).map λk:Nat=>(k:Int)).filter λq=> !decide (q∈ps):=by
   refine GN λz=>?_
   have h1:=Fw (l₂:=ps) (l₁:=(Ch 100).map λk:Nat=>(k:Int)) (EZ.mpr (J7.imp λ{a b}q e=>q (Int.ofNat.inj e))) λx hx=>by
    refine GN λu=>z ⟨x,Fx.mpr ⟨hx,by simp[u]⟩⟩
   rw[At,FB] at h1;lia
  have hfl:(((Ch 100).map λk:Nat=>(k:Int)).filter λq=> !decide (q∈ps)).length<=100:=by
   have:=KW (λq=> !decide (q∈ps)) ((Ch 100).map λk:Nat=>(k:Int))
   simpa using this
  have hmem:∀q∈((Ch 100).map λk:Nat=>(k:Int)).filter (λq=> !decide (q∈ps)),(0<=q/\q<=99)/\q∉ps:=λq hq=>by
   obtain⟨h1,h2⟩:=Fx.mp hq;obtain⟨k,hk,rfl⟩:=EL.mp h1;have:=GD.mp hk;exact⟨by lia,by simpa using h2⟩
  generalize ((Ch 100).map λk:Nat=>(k:Int)).filter (λq=> !decide (q∈ps))=fq at *
  obtain⟨q0,hq0⟩:=hex;obtain⟨q,l',hq,hl',e⟩:=qu (ns:=fq) h (by lia) (Ih.mpr λz=>by rw[z] at hq0; cases hq0) (by lia)
  obtain⟨hqr,hqn⟩:=hmem q hq;have ndp:(ps++[q]).Nodup:=by
   rw[E2];exact⟨hr.imp λh=>by lia,GZ _ _,λa ha b hb e=>hqn (by rw[<-Do.mp hb,<-e]; exact ha)⟩
  have hp:=sortI_perm (ps++[q]);have hso:mW [.v (tI (ps++[q]))]=some (.lst ((sortI (ps++[q])).map .int)):=by
   unfold mW;rw[show c7 [.v (tI (ps++[q]))]=some (.lst ((sortI (ps++[q])).map .int)) from uJ (by rw[E3,EF]; lia)]
  have hadd:bZ (.v (tI ps)) (.v (.tuple [.int q]))=some (.v (tI (ps++[q]))):=by
   show (if (ps.map EC).length+1<=lim then some (M.v (.tuple (ps.map .int++[.int q]))) else none)=_
   rw[if_pos (by rw[At]; unfold lim; lia)]
   unfold tI;rw[Fy];rfl
  have htu:d8 [.lst ((sortI (ps++[q])).map .int)]=some (.v (tI (sortI (ps++[q])))):=rfl;refine⟨l',sortI (ps++[q]),hl',lE ndp,λp h=>?_,by rw[hp.length_eq,E3,EF]; lia,λp h=>hp.mem_iff.mpr (lL _ h),?_⟩
  ·rcases lM (hp.mem_iff.mp h) with h | h
   ·exact hg p h
   ·rw[Do.mp h]; exact hqr
  ·have hsm:=small (k:=100) (by lia)
   have hc2:(ps.length:Int)<7:=by lia
   show Dh [some (.lst l),some (.v W),some (.v (.int t)),some (.v (tI ps)),some (.lst (ts.map pD)),some (.lst (pr.map pD)),x6]=some (.nx [some (.lst l'),some (.v W),some (.v (.int t)),some (.v (tI (sortI (ps++[q])))),some (.lst (ts.map pD)),some (.lst (pr.map pD)),x6]);generalize (sortI (ps++[q])).map EC=S1 at *;generalize tI (sortI (ps++[q]))=S2 at *;generalize tI (ps++[q])=S3 at *;generalize tI ps=S4 at *;generalize fq.map EC=S5 at *;simp[Dh,c.1,hlen,hc2,hsm,ec,e,lim,hadd,hso,htu,-jo]
 ·refine⟨l,ps,h.mono (by lia),hr,hg,hn,λp h=>h,?_⟩
  show Dh [some (.lst l),some (.v W),some (.v (.int t)),some (.v (tI ps)),some (.lst (ts.map pD)),some (.lst (pr.map pD)),x6]=some (.nx [some (.lst l),some (.v W),some (.v (.int t)),some (.v (tI ps)),some (.lst (ts.map pD)),some (.lst (pr.map pD)),x6]);generalize tI ps=S4 at *
  by_cases c1:t=3
  ·have hc2:¬ (ps.length:Int)<7:=λz=>c ⟨c1,by lia⟩
   simp[Dh,c1,hlen,hc2]
  ·simp[Dh,c1]
theorem changed{B:Nat}{l:List Ap}(h:Hd B l)(hB:B<=9000)(w:bE ps ts)(hn:ps.length<=7):∃l' ps' ts',Hd (B+10) l'/\bE ps' ts'/\ps'.length<=7/\FF.b6 [.lst l,.v (wD ps ts)]=some (.v (wD ps' ts'),[.lst l',.v (wD ps ts)]):=by
 obtain⟨t,l1,t0,t1,hl1,e1⟩:=take (m:=5) h (by lia) (by decide) (by decide)
 obtain⟨pr,x6,p1,p2,e2⟩:=yd (ps:=ps) (ts:=ts) (l:=l1) (W:=wD ps ts) (t:=t) hn;have T0:Tw ps ts:=⟨nu w,w.lt,w.ends⟩;obtain⟨l2,ts1,hl2,T1,s1,e3⟩:=CO (ps:=ps) (W:=wD ps ts) (t:=t) (pr:=pr) (x6:=x6) hl1 (by lia) T0 (by have:=w.len; lia)
 obtain⟨l3,ts2,hl3,T2,e4⟩:=CP (ps:=ps) (W:=wD ps ts) (t:=t) (pr:=pr) (x6:=x6) (ts0:=ts) hl2 (by lia) T1 s1 (by have:=T1.few hn; lia) p1 p2
 obtain⟨l4,ps',hl4,r1,r2,r3,r4,e5⟩:=ch_pl (ts:=ts2) (W:=wD ps ts) (t:=t) (pr:=pr) (x6:=x6) hl3 (by lia) w.rise w.rng hn
 have T3:Tw ps' ts2:=⟨T2.nd,T2.lt,λu hu=>⟨r4 _ (T2.ends u hu).1,r4 _ (T2.ends u hu).2⟩⟩
 have hf:=T3.few r3;have hso:=ir (ts:=ts2) (by lia)
 have htu:d8 [.lst ((bW ts2).map pD)]=some (.v (tD (bW ts2))):=rfl;refine⟨l4,ps',bW ts2,hl4.mono (by lia),T3.Eb r1 r2 r3,r3,bS (ρ:=cV l4 (wD ps ts) t ps' ts2 pr x6) rfl ?_ rfl⟩
 show FF.c6 [some (.lst l),some (.v (wD ps ts)),none,none,none,none,none]=_;have g0:getM (.v (wD ps ts)) (.v (.int 0))=some (.v (tI ps)):=rfl;have g1:getM (.v (wD ps ts)) (.v (.int 1))=some (.v (tD ts)):=rfl;have hls:jg [.v (tD ts)]=some (.lst (ts.map pD)):=rfl;refine(ay (ρ1:=[some (.lst l1),some (.v (wD ps ts)),some (.v (.int t)),some (.v (tI ps)),some (.lst (ts.map pD)),none,none]) ?_).trans ?_
 ·unfold rO
  generalize wD ps ts=W at *;generalize tI ps=A1 at *;generalize tD ts=A2 at *;generalize ts.map pD=A3 at *;simp[e1,g0,g1,hls,-xh]
 refine(ay (ρ1:=[some (.lst l1),some (.v (wD ps ts)),some (.v (.int t)),some (.v (tI ps)),some (.lst (ts.map pD)),some (.lst []),none]) (by simp[lim])).trans ?_
 refine(ay (ρ1:=cV l1 (wD ps ts) t ps ts pr x6) ?_).trans ?_
 ·have hit:uN (tI ps)=some (ps.map .int):=rfl
  show _=some (Out.nx [some (.lst l1),some (.v (wD ps ts)),some (.v (.int t)),some (.v (tI ps)),some (.lst (ts.map pD)),some (.lst (pr.map pD)),x6])
  clear e1 e3 e4 e5
  generalize wD ps ts=W at *;generalize tI ps=A1 at *;simp[hit];exact e2
 refine(ay e3).trans ?_;refine(ay e4).trans ?_;refine(ay e5).trans ?_;show _=some (Out.rt (.v (.tuple [tI ps',tD (bW ts2)])) [some (.lst l4),some (.v (wD ps ts)),some (.v (.int t)),some (.v (tI ps')),some (.lst (ts2.map pD)),some (.lst (pr.map pD)),x6])
 clear e1 e2 e3 e4 e5
 unfold cV;generalize tD (bW ts2)=S1 at *;generalize (bW ts2).map pD=S2 at *;generalize tI ps'=S3 at *;simp[cV,hso,htu,lim,-jo]
end
section
variable{ps qs nm:List Int}{ts us:List (Int×Int)}
theorem r6(w:bE ps ts)(hn:ps.length<=7)(hl:nm.length=ps.length)(nd:nm.Nodup)(hg:∀p∈nm,0<=p/\p<=99):bE (sortI nm) (bW (ts.map (bA ps nm))):=by
 have pmN:=sortI_perm nm;have pmC:=dO (ts.map (bA ps nm));have T:Tw (sortI nm) (ts.map (bA ps nm)):=by
  refine⟨?_,λt ht=>?_,λt ht=>?_⟩
  ·have h:=(qz w hl nd).2
   have h2:=dO ((bW (ts.map (bA ps nm))).map (bA (sortI nm) ((sortI nm).map (aP nm ps))));rw[h] at h2;have h3:=EZ.mp (h2.nodup_iff.mp (nu w));exact pmC.nodup_iff.mp (h3.imp λ{a b}q e=>q (congrArg _ e))
  ·obtain⟨u,hu,rfl⟩:=EL.mp ht
   have hne:aP ps nm u.1≠aP ps nm u.2:=λz=>by
    have h1:=gg hl nd (w.ends u hu).1;have h2:=gg hl nd (w.ends u hu).2;rw[z,h2] at h1;have:=w.lt u hu;lia
   show PQ.mn _ _<PQ.mx _ _;unfold PQ.mn PQ.mx;generalize aP ps nm u.1=a at *;generalize aP ps nm u.2=b at *
   split <;> split <;> lia
  ·obtain⟨u,hu,rfl⟩:=EL.mp ht
   have:=xX (P:=λx=>x∈nm) (gf hl (w.ends u hu).1) (gf hl (w.ends u hu).2)
   exact⟨pmN.mem_iff.mpr this.1,pmN.mem_iff.mpr this.2⟩
 exact T.Eb (lE nd) (λp hp=>hg p (pmN.mem_iff.mp hp)) (by rw[pmN.length_eq,hl]; exact hn)
noncomputable abbrev Dw:FS:=aI (bz 9 (cC FF.c5 (ah (aa 7) (af (aa 8)))))
 (aI (cI (AD (aW (vB (CA true) (bF ic (af (aa 9))) (bF ic (af (cC FF.bN (ah (aa 7) (af (aa 8)))))))) (aW (vB (CA true) (bF ic (af (cC FF.c5 (ah (aa 7) (af (aa 8)))))) (bF ic (af (aa 9)))))) (b8 (vC (.bool false))) bI)
 (cI (gI (aW (vB (iJ true) (aa 9) (vC .none))) (aW (vB (fK true) (cC FF.aQ (ah (aa 7) (af (aa 9)))) (aa 8)))) (b8 (vC (.bool false))) bI))
theorem Ao(w:bE ps ts)(w':bE qs us)(hn:ps.length<=7)(x0 x1 x2 x3 x4 x5 x6 x9:Option M):Dw [x0,x1,x2,x3,x4,x5,x6,some (.v (wD ps ts)),some (.v (wD qs us)),x9]=some (.nx [x0,x1,x2,x3,x4,x5,x6,some (.v (wD ps ts)),some (.v (wD qs us)),some (.v (rD (qF ps qs ts us)))]):=by
 have e1:=alike w w' hn;have e2:=uH w w' hn;have e3:=rZ (qF ps qs ts us);obtain⟨S,e4⟩:=Al (r:=qF ps qs ts us) (λl h x hx=>by
  obtain⟨_,_,R⟩:=o9 h;exact w'.rng x (R.sub x hx)) (λl h=>by
  obtain⟨_,_,R⟩:=o9 h;rw[R.len]; lia)
 have e5:=xW S;cases hA:qF ps qs ts us with
 |none=>
  rw[hA] at e1 e2 e3 e4;generalize rD none=RR at *;generalize wD ps ts=W1 at *;generalize wD qs us=W2 at *;have e3:iJ true (.v RR) (.v .none)=some (.v (.bool false)):=e3;refine(ay (ρ1:=[x0,x1,x2,x3,x4,x5,x6,some (.v W1),some (.v W2),some (.v RR)]) (by simp[e1])).trans ?_
  refine(ay (ρ1:=[x0,x1,x2,x3,x4,x5,x6,some (.v W1),some (.v W2),some (.v RR)]) (by simp[e1,e2,e4,e5])).trans ?_
  simp[e3]
 |some r=>
  obtain⟨h1,h2,R⟩:=o9 hA;obtain⟨m1,m2⟩:=uI w w' h1 h2 R;have e6:=nv w R.len;rw[m1,m2] at e6;have e7:=yc qs us true;rw[hA] at e1 e2 e3 e4;have e6:FF.aQ [.v (wD ps ts),.v (rD (some r))]=some (.v (wD qs us),[.v (wD ps ts),.v (rD (some r))]):=e6;generalize rD (some r)=RR at *;generalize wD ps ts=W1 at *;generalize wD qs us=W2 at *;have e3:iJ true (.v RR) (.v .none)=some (.v (.bool true)):=e3;have e7:fK true (.v W2) (.v W2)=some (.v (.bool false)):=e7;refine(ay (ρ1:=[x0,x1,x2,x3,x4,x5,x6,some (.v W1),some (.v W2),some (.v RR)]) (by simp[e1])).trans ?_
  refine(ay (ρ1:=[x0,x1,x2,x3,x4,x5,x6,some (.v W1),some (.v W2),some (.v RR)]) (by simp[e1,e2,e4,e5])).trans ?_
  simp[e3,e6,e7]
end
noncomputable abbrev Eu:FS:=(aI (bz 4 (vB bZ (cC FF.aE (ah (vC (.int 0)) (af (vC (.int 3))))) (cC FF.aE (ah (vC (.int 3)) (af (vC (.int 3)))))))
 (aI (bz 5 (di (ah (di (ah (bG (ah (vC (.int 0)) (af (vC (.int 1))))) (ah (bG (ah (vC (.int 1)) (af (vC (.int 2))))) (af (bG (ah (vC (.int 2)) (af (vC (.int 3))))))))) (ah (cC FF.aE (ah (vC (.int 0)) (af (vC (.int 6))))) (ah (aa 4) (af (cC FF.aE (ah (vC (.int 0)) (af (vC (.int 7)))))))))))
 (aI (bz 6 (cZ (aa 5) (vB p7 (aa 2) (vC (.int 2)))))
 (aI (bz 7 (bF AQ (af (vB bZ (vC (.int 1)) (bF maxM (af (gJ 2 [] 6 (b3 2 (aB (ao 0) (aB (ao 1) b9))) dI (aa 1))))))))
 (b8 (bG (ah (aa 7) (af (bF d8 (af (bF c7 (af (aa 6)))))))))))))
noncomputable def fixW:List (List Int×List (Int×Int)):=[([0,1,2,3],[(0,1),(1,2),(2,3)]),([0,1,2,3,4,5],[(0,1),(0,5),(1,2),(2,3),(3,4),(4,5)]),([0,1,2,3,4,5],[(0,1),(0,2),(1,2),(3,4),(3,5),(4,5)]),([0,1,2,3,4,5,6],[(0,1),(0,6),(1,2),(2,3),(3,4),(4,5),(5,6)])]
theorem CQ:∀p∈fixW,bE p.1 p.2/\p.1.length<=7:=by
 intro p hp;simp only[fixW,FL,EE,or_false] at hp;rcases hp with rfl | rfl | rfl | rfl <;> exact⟨⟨by decide,by decide,by decide,by unfold uA; decide,by decide,by decide,by decide⟩,by decide⟩
theorem Aq(A B C D:Option M)(t:Int)(ht:t=2\/t=3\/t=4\/t=5):∃p∈fixW,∃x4 x5 x6 x7,Eu [A,B,some (.v (.int t)),D,none,none,none,none]=some (.rt (.v (wD p.1 p.2)) [A,B,some (.v (.int t)),D,x4,x5,x6,x7]):=by
 rcases ht with rfl | rfl | rfl | rfl
 ·exact⟨_,lS,_,_,_,_,rfl⟩
 ·exact⟨_,lO _ lS,_,_,_,_,rfl⟩
 ·exact⟨_,lO _ (lO _ lS),_,_,_,_,rfl⟩
 ·exact⟨_,lO _ (lO _ (lO _ lS)),_,_,_,_,rfl⟩
theorem CS{B:Nat}{l:List Ap}{m:Int}(h:Hd B l)(hB:B<=8000)(hm:0<=m/\m<=7):∃l' ps ts,Hd (B+2100) l'/\bE ps ts/\ps.length<=7/\FF.cA [.lst l,.v (.int m)]=some (.v (wD ps ts),[.lst l',.v (.int m)]):=by
 obtain⟨t,l1,t0,t1,hl1,e1⟩:=take (m:=6) h (by lia) (by decide) (by decide)
 obtain⟨n,l2,hn,hl2,e2⟩:=qu (ns:=[m,6,5,4,3,2,1,0]) hl1 (by lia) (by simp) (by simp)
 have hn':0<=n/\n<=7:=by
  simp only[FL,EE,or_false] at hn;lia
 obtain⟨n,rfl⟩:=Gd hn'.1;have e2:FF.au [.lst l1,.lst [.int m,.int 6,.int 5,.int 4,.int 3,.int 2,.int 1,.int 0]]=some (.v (.int (n:Int)),[.lst l2,.lst [.int m,.int 6,.int 5,.int 4,.int 3,.int 2,.int 1,.int 0]]):=e2;have s0:ur 2 3 (ah (cC FF.az (ah (aa 0) (af (vC (.int 6))))) (af (cC FF.au (ah (aa 0) (af (di (ah (aa 1) (ah (vC (.int 6)) (ah (vC (.int 5)) (ah (vC (.int 4)) (ah (vC (.int 3)) (ah (vC (.int 2)) (ah (vC (.int 1)) (af (vC (.int 0)))))))))))))))) [some (.lst l),some (.v (.int m)),none,none,none,none,none,none]=some (.nx [some (.lst l2),some (.v (.int m)),some (.v (.int t)),some (.v (.int (n:Int))),none,none,none,none]):=by
  simp[e1,e2,lim]
 by_cases c:t<2
 ·obtain⟨l3,ps,ts,hl3,w,hp,_,e3⟩:=webM 21 (by decide) (n:=n) hl2 (by lia) (by lia)
  refine⟨l3,ps,ts,hl3.mono (by lia),w,by lia,bS (ρ:=[some (.lst l3),some (.v (.int m)),some (.v (.int t)),some (.v (.int (n:Int))),none,none,none,none]) rfl ?_ rfl⟩
  refine(ay s0).trans ?_;refine g9 ?_;have e3:FF.aM [.lst l2,.v (.int (n:Int)),.v (.int 21)]=some (.v (wD ps ts),[.lst l3,.v (.int (n:Int)),.v (.int 21)]):=e3;generalize wD ps ts=W at *;simp[c,e3]
 ·obtain⟨p,hp,x4,x5,x6,x7,e3⟩:=Aq (some (.lst l2)) (some (.v (.int m))) none (some (.v (.int (n:Int)))) t (by lia)
  obtain⟨w,h7⟩:=CQ p hp;refine⟨l2,p.1,p.2,hl2.mono (by lia),w,h7,bS (ρ:=[some (.lst l2),some (.v (.int m)),some (.v (.int t)),some (.v (.int (n:Int))),x4,x5,x6,x7]) rfl ?_ rfl⟩
  refine(ay s0).trans ?_;refine(ay (ρ1:=[some (.lst l2),some (.v (.int m)),some (.v (.int t)),some (.v (.int (n:Int))),none,none,none,none]) (by simp[c])).trans ?_
  exact e3
noncomputable abbrev lawTurn:FS:=(aI (bz 2 (cC FF.b4 (ah (aa 0) (af (aa 1)))))
 (aI (bz 3 (cC FF.cA (ah (aa 2) (af (AE (aW (vB (fK false) (aa 1) (vC (.int 0)))) (vC (.int 7)) (vC (.int 6)))))))
 (aI (bz 4 (cC FF.au (ah (aa 2) (af (di (ah (cZ (aa 3) (vC (.int 0))) (ah (bF uy (ah (vC (.int 40)) (af (vB bZ (vC (.int 40)) (bF bT (af (cZ (aa 3) (vC (.int 0))))))))) (af (bF AQ (af (bF bT (af (cZ (aa 3) (vC (.int 0)))))))))))))))
 (aI (bz 5 (cC FF.aQ (ah (aa 3) (af (bF d8 (af (cC FF.aO (ah (aa 2) (af (aa 4))))))))))
 (aI (bz 6 (di (ah (aa 5) (ah (cC FF.b6 (ah (aa 2) (af (aa 5)))) (ah (cC FF.aM (ah (aa 2) (ah (bF bT (af (cZ (aa 3) (vC (.int 0))))) (af (vC (.int 21)))))) (af (aa 3)))))))
 (jH (dc (vB bZ (gJ 1 [3] 6 (ao 0) dI (bG (ah (aa 1) (af (aa 0))))) (gJ 1 [3] 6 (ao 0) dI (bG (ah (aa 0) (af (aa 1))))))) (b3 2 (aB (ao 7) (aB (ao 8) b9))) Dw))))))
theorem uK{es:List Ap}{ns:List Int}(h:es.Perm (ns.map .int)):∃nm:List Int,es=nm.map .int/\nm.Perm ns:=by
 refine⟨es.map PQ.DS,?_,?_⟩
 ·rw[EM]
  refine(Eq.trans (FU (g:=id) λd hd=>?_) (Gr _)).symm
  obtain⟨x,_,rfl⟩:=EL.mp (h.mem_iff.mp hd);rfl
 ·have:=h.map PQ.DS
  rw[EM,show PQ.DS∘EC=id from rfl,Gr] at this
  exact this
theorem names_ok{ps:List Int}{ts:List (Int×Int)}(w:bE ps ts)(hn:ps.length<=7){d:Ap}(h:d∈[tI ps,.tuple ((Ch ps.length).map λ(n:Nat)=>.int (40+(n:Int))),.tuple (upto ps.length)]):∃nm:List Int,d=tI nm/\nm.length=ps.length/\nm.Nodup/\∀p∈nm,0<=p/\p<=99:=by
 simp only[FL,EE,or_false] at h;rcases h with rfl | rfl | rfl
 ·exact⟨ps,rfl,rfl,w.rise.imp λh=>by lia,w.rng⟩
 ·refine⟨(Ch ps.length).map λ(n:Nat)=>40+(n:Int),by unfold tI; rw[EM]; rfl,by simp,EZ.mpr (J7.imp λ{a b}q e=>q (by lia)),λp hp=>?_⟩
  obtain⟨k,hk,rfl⟩:=EL.mp hp;have:=GD.mp hk;lia
 ·refine⟨(Ch ps.length).map λ(n:Nat)=>(n:Int),by unfold tI upto; rw[EM]; rfl,by simp,EZ.mpr (J7.imp λ{a b}q e=>q (by lia)),λp hp=>?_⟩
  obtain⟨k,hk,rfl⟩:=EL.mp hp;have:=GD.mp hk;lia
def Wv(d:Ap):Prop:=∃ps ts,d=wD ps ts/\bE ps ts/\ps.length<=7
def Pw(d:Ap):Prop:=∃a b,d=.tuple [a,b]/\Wv a/\Wv b
theorem pairs_loop{ds:List Ap}(h:∀d∈ds,Pw d)(x0 x1 x2 x3 x4 x5 x6 x7 x8 x9:Option M):∃y7 y8 y9,forL (b3 2 (aB (ao 7) (aB (ao 8) b9))) Dw ds [x0,x1,x2,x3,x4,x5,x6,x7,x8,x9]=some (.nx [x0,x1,x2,x3,x4,x5,x6,y7,y8,y9]):=by
 obtain⟨ρ',e,_,y7,y8,y9,rfl⟩:=gE (fg:=b3 2 (aB (ao 7) (aB (ao 8) b9))) (fb:=Dw) (P:=λds ρ=>(∀d∈ds,Pw d)/\∃y7 y8 y9,ρ=[x0,x1,x2,x3,x4,x5,x6,y7,y8,y9]) ds [x0,x1,x2,x3,x4,x5,x6,x7,x8,x9] ⟨h,x7,x8,x9,rfl⟩ (λd ds ρ hP=>by
  obtain⟨hd,y7,y8,y9,rfl⟩:=hP;obtain⟨a,b,rfl,⟨ps,ts,rfl,w,hn⟩,⟨qs,us,rfl,w',hn'⟩⟩:=hd d lS;exact⟨_,_,rfl,Ao w w' hn x0 x1 x2 x3 x4 x5 x6 y9,λd' h'=>hd d' (lO _ h'),_,_,_,rfl⟩)
 exact⟨y7,y8,y9,e⟩
theorem turn(ns:List Int)(hl:ns.length<=63)(k:Int)(hk0:0<=k)(hk:k<=100)(x2 x3 x4 x5 x6 x7 x8 x9:Option M):∃y2 y3 y4 y5 y6 y7 y8 y9,lawTurn [some (.v (.list (ns.map .int))),some (.v (.int k)),x2,x3,x4,x5,x6,x7,x8,x9]=some (.nx [some (.v (.list (ns.map .int))),some (.v (.int k)),y2,y3,y4,y5,y6,y7,y8,y9]):=by
 obtain⟨l,hl0,e1⟩:=hand ns k hl hk0 hk;obtain⟨l1,ps,ts,hl1,w,hn,e2⟩:=CS (m:=if k=0 then 7 else 6) hl0 (by lia) (by split <;> lia)
 obtain⟨d,l2,hd,hl2,e3⟩:=pick (ds:=[tI ps,.tuple ((Ch ps.length).map λ(n:Nat)=>.int (40+(n:Int))),.tuple (upto ps.length)]) hl1 (by lia) (by simp) (by simp)
 obtain⟨nm0,rfl,hn0,nd0,rg0⟩:=names_ok w hn hd;obtain⟨l3,es,hp,hl3,e4⟩:=shufT (ds:=nm0.map .int) hl2 (by rw[At]; lia)
 obtain⟨nm,rfl,hpm⟩:=uK hp;have hnm:nm.length=ps.length:=by rw[hpm.length_eq,hn0]
 have w5:=r6 w hn hnm (hpm.nodup_iff.mpr nd0) (λp hp=>rg0 p (hpm.mem_iff.mp hp))
 have e5:=nv (nm:=nm) w hnm;have hn5:(sortI nm).length<=7:=by rw[(sortI_perm nm).length_eq]; lia
 generalize sortI nm=qs at *;generalize bW (ts.map (bA ps nm))=us at *;rw[At] at hl3;obtain⟨l4,ps4,ts4,hl4,w4,hn4,e6⟩:=changed hl3 (by lia) w5 hn5
 obtain⟨l5,ps6,ts6,hl5,w6,hn6,_,e7⟩:=webM 21 (by decide) (n:=ps.length) hl4 (by lia) (by lia)
 have v3:Wv (wD ps ts):=⟨_,_,rfl,w,hn⟩;have v5:Wv (wD qs us):=⟨_,_,rfl,w5,hn5⟩;have v4:Wv (wD ps4 ts4):=⟨_,_,rfl,w4,hn4⟩;have v6:Wv (wD ps6 ts6):=⟨_,_,rfl,w6,by lia⟩
 have g0:getM (.v (wD ps ts)) (.v (.int 0))=some (.v (tI ps)):=rfl;have hlen:bT [.v (tI ps)]=some (.v (.int (ps.length:Int))):=by unfold tI; rw[dH,At]
 have t1:AQ [.v (.int (ps.length:Int))]=some (.v (.tuple (upto ps.length))):=by
  show (if (0:Int)<=ps.length/\(ps.length:Int)<=1000000 then some (M.v (.tuple (upto (ps.length:Int).toNat))) else none)=_
  rw[if_pos (by lia),Fv]
 have t2:uy [.v (.int 40),.v (.int (40+(ps.length:Int)))]=some (.v (.tuple ((Ch ps.length).map λ(n:Nat)=>.int (40+(n:Int))))):=by
  show (if (-1000000:Int)<=40/\(40:Int)<=1000000/\(40:Int)<=40+(ps.length:Int)/\40+(ps.length:Int)<=1000000+40 then some (M.v (.tuple ((Ch (40+(ps.length:Int)-40).toNat).map λ(n:Nat)=>.int (40+(n:Int))))) else none)=_
  rw[if_pos (by lia),show (40+(ps.length:Int)-40).toNat=ps.length by lia]
 have u1:d8 [.lst (nm.map .int)]=some (.v (tI nm)):=rfl;have e4:FF.aO [.lst l2,.v (tI nm0)]=some (.lst (nm.map .int),[.lst l3,.v (tI nm0)]):=e4;have hsum:dD (40+(ps.length:Int))=true:=decide_eq_true (by unfold oE; lia)
 have e7:FF.aM [.lst l4,.v (.int (ps.length:Int)),.v (.int 21)]=some (.v (wD ps6 ts6),[.lst l5,.v (.int (ps.length:Int)),.v (.int 21)]):=e7;generalize hS:(M.v (.list (ns.map .int)))=S at e1;obtain⟨sd,rfl⟩:∃d,S=.v d:=⟨_,hS.symm⟩;generalize wD ps ts=W3 at *;generalize wD qs us=W5 at *;generalize wD ps4 ts4=W4 at *;generalize wD ps6 ts6=W6 at *;generalize tI ps=A1 at *;generalize tI nm0=A2 at *;generalize tI nm=A3 at *;generalize nm.map EC=A4 at *;generalize upto ps.length=A5 at *;generalize (Ch ps.length).map (λ(n:Nat)=>EC (40+(n:Int)))=A6 at *
 have hp8:∀d∈[W5,W4,W6,W3].map (λx=>IC [W3,x])++[W5,W4,W6,W3].map (λx=>IC [x,W3]),Pw d:=λd hd=>by
  have hv:∀x∈[W5,W4,W6,W3],Wv x:=λx hx=>by
   simp only[FL,EE,or_false] at hx;rcases hx with rfl | rfl | rfl | rfl <;> assumption
  rcases lM hd with hd | hd
  ·obtain⟨x,hx,rfl⟩:=EL.mp hd
   exact⟨_,_,rfl,v3,hv x hx⟩
  ·obtain⟨x,hx,rfl⟩:=EL.mp hd
   exact⟨_,_,rfl,hv x hx,v3⟩
 obtain⟨y7,y8,y9,e8⟩:=pairs_loop hp8 (some (.v sd)) (some (.v (.int k))) (some (.lst l5)) (some (.v W3)) (some (.v A2)) (some (.v W5)) (some (.lst [W5,W4,W6,W3])) x7 x8 x9;refine⟨some (.lst l5),some (.v W3),some (.v A2),some (.v W5),some (.lst [W5,W4,W6,W3]),y7,y8,y9,?_⟩
 clear hl0 hl1 hl2 hl3 hl4 hl5 w w4 w5 w6 v3 v4 v5 v6
 refine(ay (ρ1:=[some (.v sd),some (.v (.int k)),some (.lst l),x3,x4,x5,x6,x7,x8,x9]) (by simp[e1])).trans ?_
 refine(ay (ρ1:=[some (.v sd),some (.v (.int k)),some (.lst l1),some (.v W3),x4,x5,x6,x7,x8,x9]) (by
  by_cases c:k=0
  ·rw[if_pos c] at e2
   simp[c,e2]
  ·rw[if_neg c] at e2
   simp[c,e2])).trans ?_
 refine(ay (ρ1:=[some (.v sd),some (.v (.int k)),some (.lst l2),some (.v W3),some (.v A2),x5,x6,x7,x8,x9]) (by simp[g0,hlen,t1,t2,e3,lim,hsum])).trans ?_
 refine(ay (ρ1:=[some (.v sd),some (.v (.int k)),some (.lst l3),some (.v W3),some (.v A2),some (.v W5),x6,x7,x8,x9]) (by simp[e4,u1,e5,-jo])).trans ?_
 refine(ay (ρ1:=[some (.v sd),some (.v (.int k)),some (.lst l5),some (.v W3),some (.v A2),some (.v W5),some (.lst [W5,W4,W6,W3]),x7,x8,x9]) (by simp[e6,g0,hlen,e7,lim])).trans ?_
 have e8:forL (b3 2 (aB (ao 7) (aB (ao 8) b9))) Dw [.tuple [W3,W5],.tuple [W3,W4],.tuple [W3,W6],.tuple [W3,W3],.tuple [W5,W3],.tuple [W4,W3],.tuple [W6,W3],.tuple [W3,W3]] _=_:=e8;simp[lim,gJ];exact e8
theorem k12(ns:List Int)(hl:ns.length<=63):∃ms,FF.qt [.v (.list (ns.map .int))]=some (.v (.bool true),ms):=by
 have hmin:∃n:Nat,n<=6/\(if (if (ns.length:Int)<6 then (ns.length:Int) else 6)>1 then (if (ns.length:Int)<6 then (ns.length:Int) else 6) else 1)=(n:Int):=by
  by_cases h8:(ns.length:Int)<6
  ·simp only[if_pos h8]
   by_cases h1:(ns.length:Int)>1
   ·exact⟨ns.length,by lia,if_pos h1⟩
   ·exact⟨1,by lia,by rw[if_neg h1]; rfl⟩
  ·simp only[if_neg h8]
   exact⟨6,by lia,by decide⟩
 obtain⟨n,hn,en⟩:=hmin;have hsm:dD (n:Int)=true:=decide_eq_true (by unfold oE; lia)
 obtain⟨ρ',e,_,y1,y2,y3,y4,y5,y6,y7,y8,y9,rfl⟩:=gE (fg:=ao 1) (fb:=lawTurn) (P:=λds ρ=>(∀d∈ds,∃k:Int,d=.int k/\0<=k/\k<=100)/\∃y1 y2 y3 y4 y5 y6 y7 y8 y9,ρ=[some (.v (.list (ns.map .int))),y1,y2,y3,y4,y5,y6,y7,y8,y9]) (bH 0 (n:Int)) [some (.v (.list (ns.map .int))),none,none,none,none,none,none,none,none,none] ⟨λd hd=>by
   rw[dg] at hd;obtain⟨k,hk,rfl⟩:=EL.mp hd;have:=GD.mp hk;exact⟨_,rfl,by lia,by lia⟩,none,none,none,none,none,none,none,none,none,rfl⟩ (λd ds ρ hP=>by
  obtain⟨hd,y1,y2,y3,y4,y5,y6,y7,y8,y9,rfl⟩:=hP;obtain⟨k,rfl,h0,h1⟩:=hd d lS;obtain⟨z2,z3,z4,z5,z6,z7,z8,z9,e⟩:=turn ns hl k h0 h1 y2 y3 y4 y5 y6 y7 y8 y9;exact⟨_,_,rfl,e,λd' h'=>hd d' (lO _ h'),_,_,_,_,_,_,_,_,_,rfl⟩)
 refine⟨_,bS (ρ:=[some (.v (.list (ns.map .int))),y1,y2,y3,y4,y5,y6,y7,y8,y9]) rfl ?_ rfl⟩;show FF.ja [some (.v (.list (ns.map .int))),none,none,none,none,none,none,none,none,none]=_;refine(ay (ρ1:=[some (.v (.list (ns.map .int))),y1,y2,y3,y4,y5,y6,y7,y8,y9]) ?_).trans ?_
 ·have e':=e
  generalize hS:(HA (ns.map .int))=S at e';have hlS:bT [.v S]=some (.v (.int (ns.length:Int))):=by rw[<-hS,len_list,At]
  simp[hlS,en,hsm,e']
 ·simp
end PO
end
section
namespace ZT
open PySem PySem.W L2 VL PyProof.Rows
theorem ln0{P:List Value->Prop}(h:P []):∀us,us.length=0->P us:=λus e=>by cases us with | nil=>exact h | cons _ _=>cases e
theorem lnS{n:Nat}{P:List Value->Prop}(h:∀a us,us.length=n->P (a::us)):∀us,us.length=n+1->P us:=λus e=>by cases us with | nil=>cases e | cons a us=>exact h a us (Nat.succ.inj e)
inductive FnP(K:Frag)(nm:Str)(st:Stmt):Prop
 |mk {f:Addr} {oc:Value} {od an:Option Addr} {osl:Array (Option Value)} {kV doc pm cdv ct:Value}:nsIn K Ee nm=some (some (.ref f))->K.lookup f=some ⟨oc,od,.func (fnOf nm nm (fm st) (dw st) (av st) .none kV doc pm an cdv ct),osl⟩->IZ K cdv nm=true->Hm K (.ref f)=true->FnP K nm st
abbrev Pr(a:Str)(b:Stmt):Str×Stmt:=(a,b)
noncomputable def fr(h:Heap):Frag:=(Ch h.objs.size).filterMap λa=>(h.get? a).map λo=>(a,o)
theorem lookup_mem{a:Addr}{o:Obj}:∀{K:Frag},K.lookup a=some o->(a,o)∈K
 |(b,p)::K,e=>by
  rw[Ez] at e
  by_cases q:(a == b)=true
  ·rw[q] at e
   cases e;cases eq_of_beq q;exact .head _
  ·simp only[q] at e
   exact .tail _ (lookup_mem e)
theorem fr_in(h:Heap):(fr h).In h:=by
 intro a o e;obtain⟨b,_,e⟩:=Ip.mp (lookup_mem e);obtain⟨p,e,q⟩:=Ff.mp e;cases q;exact e
abbrev Part:=(Str×Str×Ks×FuncBody)×Scope×Addr×List (Str×Addr)×Value×Addr
noncomputable def part(fd:G4):Part:=((fd.name,fd.qualname,fd.params,fd.body),fd.scope,fd.globals,fd.closure,fd.defaults,fd.builtins)
theorem part_eq{fd:G4}{nm:Str}{a:Ks}{b:List Stmt}{c:Scope}(e:part fd=((nm,nm,a,.stmts b),c,Ee,[],.none,JD)):fd=fnOf nm nm a b c .none fd.kwdefaults fd.doc fd.pyModule fd.annotations fd.code fd.closureTuple:=by
 cases fd;cases e;rfl
noncomputable def fdAt(K:Frag)(nm:Str):Option (Part×Bool):=match nsIn K Ee nm with
 |some (some (.ref f))=>match K.lookup f with
  |some ⟨_,_,.func fd,_⟩=>some (part fd,IZ K fd.code nm && Hm K (.ref f))
  |_=>none
 |_=>none
noncomputable def want(nm:Str)(st:Stmt):Option (Part×Bool):=some (((nm,nm,fm st,.stmts (dw st)),av st,Ee,[],.none,JD),true)
theorem FnP.of{K:Frag}{nm:Str}{st:Stmt}(e:fdAt K nm=want nm st):FnP K nm st:=by
 unfold fdAt want at e
 split at e
 ·next f h1=>
  split at e
  ·next oc od fd osl h2=>
   have e2:=EQ e;have e3:=(HI e2).1;have e4:=IX.mp (HI e2).2;have q:=part_eq e3;exact .mk h1 (h2.trans (congrArg (λz=>some (⟨oc,od,.func z,osl⟩:Obj)) q)) e4.1 e4.2
  ·cases e
 ·cases e
noncomputable def gAt(K:Frag)(nm:Str):Option Int:=match nsIn K Ee nm with
 |some (some (.int n _))=>some n
 |_=>none
theorem g_of{K:Frag}{nm:Str}{n:Int}(e:gAt K nm=some n):∃t,nsIn K Ee nm=some (some (.int n t)):=by
 unfold gAt at e
 split at e
 ·next m t h=>cases e; exact⟨_,h⟩
 ·cases e
noncomputable def obs(fs:List (Str×Stmt))(zs:List Str)(gs:List (Str×Int))(h:Heap):List (Option (Part×Bool))×List (Option (Option Value))×List (Option Int) :=
 (fs.map (λp=>fdAt (fr h) p.1),zs.map (nsIn (fr h) Ee),gs.map λp=>gAt (fr h) p.1)
noncomputable def val(fs:List (Str×Stmt))(zs:List Str)(gs:List (Str×Int)):List (Option (Part×Bool))×List (Option (Option Value))×List (Option Int) :=
 (fs.map (λp=>want p.1 p.2),zs.map (λ_=>some none),gs.map λp=>some p.2)
structure Facts(fs:List (Str×Stmt))(zs:List Str)(gs:List (Str×Int))(K:Frag):Prop where
 f:∀(i:Nat){nm:Str}{st:Stmt},fs[i]? = some (nm,st)->FnP K nm st
 z:∀(i:Nat){nm:Str},zs[i]? = some nm->nsIn K Ee nm=some none
 g:∀(i:Nat){nm:Str}{n:Int},gs[i]? = some (nm,n)->∃t,nsIn K Ee nm=some (some (.int n t))
theorem map_at{α β:Type}{f g:α->β}{l:List α}(e:l.map f=l.map g){i:Nat}{x:α}(h:l[i]? = some x):f x=g x:=by
 have:=congrArg (·[i]?) e;simp only[E9,h,HQ] at this;exact EQ this
theorem facts_of{fs:List (Str×Stmt)}{zs:List Str}{gs:List (Str×Int)}{h:Heap}(e:obs fs zs gs h=val fs zs gs):Facts fs zs gs (fr h) :=
 ⟨λi nm st q=>.of (map_at (HI e).1 q),λi nm q=>map_at (HI (HI e).2).1 q,λi nm n q=>g_of (map_at (HI (HI e).2).2 q)⟩
section
variable{fs:List (Str×Stmt)}{zs:List Str}{gs:List (Str×Int)}{K:Frag}{h:Heap}{mg:Str->Option Value}
theorem Facts.call(F:Facts fs zs gs K)(X:K.In h)(G:h.Ns Ee mg){P:EK}{w:World}{base:Heap}(i:Nat){nm:Str}{st:Stmt}{k:Nat}{sp:Sp}(ps:List Str)
  (hb:∀(kV doc pm:Value)(an:Option Addr)(cdv ct:Value)(us:List Value),us.length=ps.length->bindArgs (fnOf nm nm (fm st) (dw st) (av st) .none kV doc pm an cdv ct) ⟨us,[]⟩=pure (ps.zip us))
  (ok:∀{f:Addr}{fd:G4},jB K nm nm st f fd->Binds K fd ps []->mg nm=some (.ref f)->cB P w K mg base iI k f fd ps sp) (e:fs[i]? = some (nm,st):=by rfl):bC P w K mg base nm ps k sp:=by
 cases F.f i e with
 |mk a l c k=>
  have F:=vH (st:=st) l c k;exact⟨_,_,ok F (F.binds hb) (mg_of X G a),F.binds hb,F.kp,mg_of X G a⟩
theorem Facts.no(F:Facts fs zs gs K)(X:K.In h)(G:h.Ns Ee mg)(i:Nat){nm:Str}(e:zs[i]? = some nm:=by rfl):mg nm=none:=mg_none_of X G (F.z i e)
theorem Facts.num(F:Facts fs zs gs K)(X:K.In h)(G:h.Ns Ee mg)(i:Nat){nm:Str}{n:Int}(e:gs[i]? = some (nm,n):=by rfl):∃t,mg nm=some (.int n t):=(F.g i e).imp λ_ q=>mg_of X G q
theorem Facts.law(F:Facts fs zs gs K)(X:K.In h)(G:h.Ns Ee mg)(i:Nat){nm:Str}{st:Stmt}{k:Nat}{sp:Sp}{x:Str}{fa:Addr}{P:EK}{w:World}(hfa:mg nm=some (.ref fa))
  (hb:∀(kV doc pm:Value)(an:Option Addr)(cdv ct:Value)(s:Bi)(v:Value),Jc s (fnOf nm nm (fm st) (dw st) (av st) .none kV doc pm an cdv ct) ⟨[v],[]⟩ [(x,v)])
  (ok:∀{fd:G4},jB K nm nm st fa fd->∀base:Heap,cB P w K mg base iI k fa fd [x] sp) (e:fs[i]? = some (nm,st):=by rfl) :
  ∃fd:G4,(∀(s:Bi)(v:Value),Jc s fd ⟨[v],[]⟩ [(x,v)])/\∀base:Heap,K.In base->base.Ns Ee mg->cB P w K mg base iI k fa fd [x] sp:=by
 cases F.f i e with
 |@mk f oc od an osl kV doc pm cdv ct a l c k=>
  have F:=vH (st:=st) l c k;cases hfa.symm.trans (mg_of X G a);exact⟨_,hb kV doc pm an cdv ct,λbase _ _=>ok F base⟩
end
noncomputable def seenOf(p:EK):EK:={ p with main:={ p.main with body:=p.main.body.filter λst=> !(bindsAtTop st).isEmpty } }
abbrev Left(l:K3)(fs:List (Str×Stmt))(zs:List Str)(gs:List (Str×Int))(N:Nat):Prop:=LeftO l.row.prog (seenOf l.row.prog) [] (λs=>xlAt (seenOf l.row.prog) [] s && recOk l.row.toRowW.records s) (λs=>obs fs zs gs s.heap) (λ_=>val fs zs gs) N
theorem close{l:K3}{fs:List (Str×Stmt)}{zs:List Str}{gs:List (Str×Int)}{N k:Nat}{nm x:Str}(ws:l.wellSaid=true)
  (left:Left l fs zs gs N)
  (hdef:(defOf (seenOf l.row.prog) l.row.name).map (λy=>(y.1.name,y.1.params.defaults,kwWritten? y.1.params.kwonlyargs y.1.params.kw_defaults,y.2))=some (nm,[],some [],[]))
  (hp:l.row.prog.theDef l.row.name=(defOf (seenOf l.row.prog) l.row.name).map λy=>(y.1.params,y.1.body,y.1.scope)) (hwr:(!l.row.writes || l.row.records.isEmpty)=true)
  (ok:(chainsOk (seenOf l.row.prog) && opensWell l.row.prog && (frees l.row.toRowW && l.row.within.isEmpty))=true) (hb:l.row.prog.bare) (hw:l.row.toRowW.promised)
  (hn:l.most=some 63) (hr:ff k JU)
  (F:∀(w:World)(K:Frag)(mg:Str->Option Value)(fa:Addr)(h:Heap),Facts fs zs gs K->K.In h->h.Ns Ee mg->mg nm=some (.ref fa) ->
   ∃fd:G4,(∀(s:Bi)(u:Value),Jc s fd ⟨[u],[]⟩ [(x,u)])/\∀base:Heap,K.In base->base.Ns Ee mg->cB l.prog w K mg base iI k fa fd [x] (rC K)):l.Holds:=by
 refine holds_law ws λsaid=>?_
 obtain⟨⟨d,kwd⟩,e,q⟩:=Ff.mp hdef;rw[e] at hp;obtain⟨rfl,hdf,hk,rfl⟩:d.name=nm/\d.params.defaults=[]/\kwWritten? d.params.kwonlyargs d.params.kw_defaults=some []/\kwd=[]:=by simpa using q
 refine holds_open (q:=seenOf l.row.prog) (loose:=[]) (XP:=XL (seenOf l.row.prog) []) (YP:=λ_ h=>∃K:Frag,K.In h/\Facts fs zs gs K) left (λw s e=>⟨_,fr_in _,facts_of e⟩) (λw h h' ⟨K,a,b⟩ q=>⟨K,a.keeps q,b⟩)
  (λs e=>xl_of s (IX.mp e).1) XL.keeps e hp hk (λs e=>recFacts_of (IX.mp e).2) hwr said ok hb hw ?_
 refine Att.pN hn hdf λw s₀ s₁ mg mb fa o pm cd doc a vs ns G Y ho hd hcd hmg hobj hints hlen hg=>?_
 obtain⟨K,KX,Y⟩:=Y;obtain⟨fd,hb,hF⟩:=F w K mg fa _ Y KX G.T.g hmg;exact vF KX G.T.g G.T.b G.T.builtins G.T.nolimit hg hobj hints (FH hlen (by decide)) hr hF hb (λH hO hS=>⟨a,ns,rfl,hS,hlen,λ_=>rfl⟩) λH e s' z=>z
end ZT
end
section
namespace Lk12
open PySem PySem.W L2 VL PyProof.Rows ZT
noncomputable abbrev fs:List (Str×Stmt):=[Pr "nears" s_nears,Pr "alike" s_alike,Pr "names_on" s_names_on,Pr "fits" s_fits,Pr "_law_hand_of" s_law_hand_of,Pr "_law_take" s_law_take,Pr "_law_pick" s_law_pick,Pr "_law_shuffled" s_law_shuffled,Pr "_law_places_drawn" s_law_places_drawn,Pr "_law_web_drawn" s_law_web_drawn,Pr "_law_ring_ties" s_law_ring_ties,Pr "_law_web_of" s_law_web_of,Pr "_law_called_by" s_law_called_by,Pr "_law_changed" s_law_changed,Pr "_law_tied" s_law_tied,Pr "_law_least_names" s_law_least_names,Pr "_law_due_names" s_law_due_names,Pr "law" s_law]
noncomputable abbrev zs:List Str:=["sorted", "tuple", "zip", "all", "len", "list", "int", "range", "max", "dict", "min", "repr"]
noncomputable abbrev gs:List (Str×Int):=[]
theorem all{l:K3}(w:World)(K:Frag)(mg:Str->Option Value)(fa:Addr)(h:Heap)(H:Facts fs zs gs K)(X:K.In h)(G:h.Ns Ee mg)(hfa:mg "law" = some (.ref fa)):∃fd:G4,(∀(s:Bi)(v:Value),Jc s fd ⟨[v],[]⟩ [("_law_script",v)])/\∀base:Heap,K.In base->base.Ns Ee mg->cB l.prog w K mg base iI 13 fa fd ["_law_script"] (rC K):=by
 have T:Txt mg:=⟨H.no X G 0,H.no X G 1,H.no X G 2,H.no X G 3,H.no X G 4,H.no X G 5,H.no X G 6,H.no X G 7,H.no X G 8,H.no X G 9,H.no X G 10,H.no X G 11⟩;refine H.law X G 17 (st:=s_law) hfa (λ_ _ _ _ _ _ _ _=>.of_eq rfl) λF base=>?_
 have C_nears:=H.call (P:=l.prog) (w:=w) (base:=base) X G 0 ["web"] (λ_ _ _ _ _ _=>lnS λ_=>ln0 rfl) λF _ _=>ok_nears F T
 have C_fits:=H.call (P:=l.prog) (w:=w) (base:=base) X G 3 ["both_nears", "names", "name"] (λ_ _ _ _ _ _=>lnS λ_=>lnS λ_=>lnS λ_=>ln0 rfl) λF _ _=>ok_fits F T
 have C_names_on:=H.call (P:=l.prog) (w:=w) (base:=base) X G 2 ["both_nears", "names"] (λ_ _ _ _ _ _=>lnS λ_=>lnS λ_=>ln0 rfl) λF b m=>ok_names_on F T b m C_fits 9
 have C_alike:=H.call (P:=l.prog) (w:=w) (base:=base) X G 1 ["one", "other"] (λ_ _ _ _ _ _=>lnS λ_=>lnS λ_=>ln0 rfl) λF _ _=>ok_alike F T C_names_on C_nears
 have C_law_hand_of:=H.call (P:=l.prog) (w:=w) (base:=base) X G 4 ["_law_script", "_law_k"] (λ_ _ _ _ _ _=>lnS λ_=>lnS λ_=>ln0 rfl) λF _ _=>ok_law_hand_of F T
 have C_law_take:=H.call (P:=l.prog) (w:=w) (base:=base) X G 5 ["_law_hand", "_law_many"] (λ_ _ _ _ _ _=>lnS λ_=>lnS λ_=>ln0 rfl) λF _ _=>ok_law_take F T
 have C_law_pick:=H.call (P:=l.prog) (w:=w) (base:=base) X G 6 ["_law_hand", "_law_some"] (λ_ _ _ _ _ _=>lnS λ_=>lnS λ_=>ln0 rfl) λF _ _=>ok_law_pick F T C_law_take
 have C_law_shuffled:=H.call (P:=l.prog) (w:=w) (base:=base) X G 7 ["_law_hand", "_law_some"] (λ_ _ _ _ _ _=>lnS λ_=>lnS λ_=>ln0 rfl) λF _ _=>ok_law_shuffled F T C_law_take
 have C_law_places_drawn:=H.call (P:=l.prog) (w:=w) (base:=base) X G 8 ["_law_hand", "_law_many"] (λ_ _ _ _ _ _=>lnS λ_=>lnS λ_=>ln0 rfl) λF _ _=>ok_law_places_drawn F T C_law_pick
 have C_law_web_drawn:=H.call (P:=l.prog) (w:=w) (base:=base) X G 9 ["_law_hand", "_law_many", "_law_most"] (λ_ _ _ _ _ _=>lnS λ_=>lnS λ_=>lnS λ_=>ln0 rfl) λF _ _=>ok_law_web_drawn F T C_law_shuffled C_law_take C_law_places_drawn C_law_pick
 have C_law_ring_ties:=H.call (P:=l.prog) (w:=w) (base:=base) X G 10 ["_law_first", "_law_many"] (λ_ _ _ _ _ _=>lnS λ_=>lnS λ_=>ln0 rfl) λF _ _=>ok_law_ring_ties F T
 have C_law_web_of:=H.call (P:=l.prog) (w:=w) (base:=base) X G 11 ["_law_hand", "_law_most"] (λ_ _ _ _ _ _=>lnS λ_=>lnS λ_=>ln0 rfl) λF _ _=>ok_law_web_of F T C_law_ring_ties C_law_web_drawn C_law_pick C_law_take
 have C_law_called_by:=H.call (P:=l.prog) (w:=w) (base:=base) X G 12 ["_law_web", "_law_names"] (λ_ _ _ _ _ _=>lnS λ_=>lnS λ_=>ln0 rfl) λF _ _=>ok_law_called_by F T
 have C_law_changed:=H.call (P:=l.prog) (w:=w) (base:=base) X G 13 ["_law_hand", "_law_web"] (λ_ _ _ _ _ _=>lnS λ_=>lnS λ_=>ln0 rfl) λF _ _=>ok_law_changed F T C_law_pick C_law_take
 have C_law_tied:=H.call (P:=l.prog) (w:=w) (base:=base) X G 14 ["_law_web", "_law_a", "_law_b"] (λ_ _ _ _ _ _=>lnS λ_=>lnS λ_=>lnS λ_=>ln0 rfl) λF _ _=>ok_law_tied F T
 have C_law_least_names:=H.call (P:=l.prog) (w:=w) (base:=base) X G 15 ["_law_one", "_law_other", "_law_names"] (λ_ _ _ _ _ _=>lnS λ_=>lnS λ_=>lnS λ_=>ln0 rfl) λF b m=>ok_law_least_names F T b m C_law_tied 9
 have C_law_due_names:=H.call (P:=l.prog) (w:=w) (base:=base) X G 16 ["_law_one", "_law_other"] (λ_ _ _ _ _ _=>lnS λ_=>lnS λ_=>ln0 rfl) λF _ _=>ok_law_due_names F T C_law_least_names
 exact Cw (ok_law F T C_law_called_by C_alike C_law_due_names C_law_web_drawn C_law_changed C_law_shuffled C_law_pick C_law_web_of C_law_hand_of) PO.k12
theorem ws:PySem.Challenge.rw_drawnweb_k12_alike.wellSaid=true:=by kernel_rfl
theorem lf:Left PySem.Challenge.rw_drawnweb_k12_alike fs zs gs 20000:=λw=>by kernel_rfl
end Lk12
open PySem PySem.W PyProof.Rows
theorem PySem.Challenge.cw_drawnweb_k12_alike_holds : PySem.Challenge.rw_drawnweb_k12_alike.Holds := by
 refine ZT.close (k:=13) (x := "_law_script") (nm := "law") Lk12.ws Lk12.lf (by kernel_rfl) (by kernel_rfl) (by rfl) (by decide +kernel) ⟨rfl,rfl,rfl,rfl,rfl,by decide +kernel⟩ (by w_witness2) rfl ⟨rfl,by decide,by decide,rfl⟩ ?_
 exact Lk12.all
end
