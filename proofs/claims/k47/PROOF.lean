import PyProof.Rows.All
import Wide.All
import OpenK.AllK
import Wide.FinOn
import Lean
import PyProof.EqAt
import PyProof.EqKinds
import PyProof.TupleCall
import KE.KDictOf
import PyProof.AttrMissHeap
import PyProof.ReprRoads
import PySem.Challenge.RW_drawnweb_k47_holding_on
set_option Elab.async false
set_option linter.all false
set_option maxRecDepth 100000
set_option maxHeartbeats 0
theorem oB{α β:Type _}{x:Option α}{f:α->Option β}{b:β}(h:x.bind f=some b):∃a,x=some a/\f a=some b:=Option.bind_eq_some_iff.mp h
theorem lR{α:Type _}{a:α}(as:List α){bs:List α}(h:a∈bs):a∈as++bs:=List.mem_append_right as h
theorem lL{α:Type _}{a:α}{as:List α}(bs:List α)(h:a∈as):a∈as++bs:=List.mem_append_left bs h
theorem lM{α:Type _}{a:α}{s t:List α}(h:a∈s++t):a∈s\/a∈t:=List.mem_append.mp h
theorem lS{α:Type _}{a:α}{l:List α}:a∈a::l:=List.mem_cons_self
theorem lO{α:Type _}(y:α){a:α}{l:List α}(h:a∈l):a∈y::l:=List.mem_cons_of_mem y h
theorem lK{α:Type _}{a b:α}{l:List α}(h:a∈b::l):a=b\/a∈l:=List.mem_cons.mp h
open And renaming intro->HB
open Array renaming length_toList->CT,perm_iff_toList_perm->GU,getD->GV,getElem?_toList->HA,append_assoc->Hc,toList->Iz
open Array.Perm renaming refl->HL
open Bool renaming and_eq_true->DA,false_ne_true->DJ,false_eq_true->DV,and_eq_true_iff->FN,beq_eq_decide_eq->HK,false_or->Iy
open Classical renaming byContradiction->Db,propDecidable->EZ
open False renaming elim->Dy
open ForInStep renaming yield->Ef
open Int renaming toNat_natCast->DF,le_of_lt->ET,ne_of_lt->Ey,le_antisymm->GS,emod_nonneg->GT,fdiv_eq_ediv_of_nonneg->Gi,eq_ofNat_of_zero_le->H9,le_refl->Hb,natCast_nonneg->I0,emod_lt_of_pos->I9
open List renaming mem_singleton->B1,length_cons->BM,size_toArray->Bi,append_nil->Bn,length_map->C0,nodup_append->C2,length_append->C4,replicate->C5,append_assoc->C8,getElem?_eq_some_iff->CB,map_cons->CC,range->CG,nodup_cons->CJ,mem_filter->CM,lookup_cons->CV,not_mem_nil->CZ,getElem?_map->Cu,find?_cons->D0,any_cons->DG,nil_append->DH,getElem?_set_self->DO,length_nil->DQ,getElem?_eq_getElem->Dg,nodup_nil->Dj,length_eq_zero_iff->Dk,mem_cons->Dr,length_range->Dv,getElem?_append_left->E3,map_congr_left->E5,map_append->E6,zip_cons_cons->E7,mem_range->E9,map_map->EA,getElem?_set->EB,length_singleton->EI,toArray->EO,mem_map->EQ,map_nil->ER,pairwise_cons->EU,pairwise_map->Ee,filter_cons->El,take_of_length_le->Er,length_replicate->FD,getElem?_eq_none->FH,pairwise_append->FK,mem_of_getElem?->FL,getElem?_set_ne->FM,getElem?_range->FZ,filterMap_cons->Fa,drop_nil->Ff,mem_filterMap->Fi,set_set->Fs,ext_getElem?->Ft,length_take->Fy,length_drop->G4,of_mem_zip->GG,tail_cons->GX,getElem?_append_right->GY,drop_eq_getElem_cons->Gh,length_erase_of_mem->Gp,pairwise_singleton->Gu,any_map->Gz,mem_of_mem_erase->HJ,mem_erase_of_ne->HQ,map->HR,filter_sublist->HZ,filter_eq_self->Ha,zip_nil_right->Hj,zip_nil_left->Hz,take_length->ID,map_snd_zip->IE,getElem_mem->IF,drop_length->IG,cons_ne_nil->IH,cons_append->II,all_eq_true->IJ,take_zero->Ig,drop_zero->Ih,take_nil->Ix
open List.Pairwise renaming nil->Ex
open List.Perm renaming eq_of_pairwise->GE
open List.cons renaming inj->CW
open Nat renaming le_refl->C1,lt_of_lt_of_le->CD,ne_of_lt->CF,le_trans->DB,le_of_lt->DP,zero_le->DR,lt_succ_of_lt->Df,le_succ->Dp,lt_irrefl->Ds,ne_of_gt->Ew,not_lt_zero->FC,lt_succ_self->GD,sub_zero->HI,pos_of_ne_zero->Hx,lt_or_eq_of_le->Hy,le_of_succ_le->IC,min_le_right->IT,le_of_not_lt->IU,min_eq_left->Ie
open Ne renaming symm->Dx
open Option renaming map_eq_some_iff->D9,bind_some->DI,isSome_iff_exists->E4,map_some->EL,isSome_map->Fg,isSome_some->HP,getD_none->Hi,none->Iw
open Option.some renaming inj->CP
open Or renaming inl->CK,inr->E1
open Prod.mk renaming inj->EH
open PyProof.Rows renaming seqObj->D3,slot_tuple_getitem->D8,IntsAre->DN,callWith_type1->EG,envOfC->FU,AllBare->FV,listUpdate_at->Fx,assignInOrder_cons->GC,entry_list_sort->Gs,slot_list_sort->HG,args_list_sort->HH,subscriptTail->HX,sortedAll_old->HY,lt_int->Hh,subscriptTail_builtinR->Hr,sortedAll_at->Hs,plain_sorted->Ht,listItems_at->Hu,entry_sorted->Hv,args_sorted1->Hw,seqEpoch_at->IR,kind_sorted->IS,ge_int->Ib,entry_tuple_getitem->Ic,size_push'->Ir,args_tuple_getitem->Iu,Subscript_->Iv
open PyProof.Rows.IsTup renaming new->Go
open PySem renaming PyData->AT,wpAny_bind->Ap,Shared->At,wpAny_pure->B2,Spec->C3,sizeLine->C7,starEach->C9,Program->CH,compareOp->CN,mainGlobals->CQ,foldedSetIterable->CS,wpAny_newObj_type->Cv,Around->Cw,sizeLine_eq->Cy,binaryOp->Cz,wpAny_loadPart'->D1,cellsFrom->D6,behindInMarks->D7,wpAny_call_entry->DL,wpAny_callSpecial?_slot->DM,FuncData->DS,NameKind->DW,wpAny_holding->DX,bootBuiltins->DY,wpAny_field->Dd,swapsWith->Dh,mem_of_lookup->Di,wpAny_mono->Dl,assignEach->Dm,sysModules->Dt,wpAny_passesOwn->Dw,Paired->Dz,wpAny_standAt->E8,backTo->ED,sliceBounds->ES,codeAny->Eb,wpAny_rule->Eg,tupleKind_room_in1->Eh,slot_listiter_next->Ei,wpAny_truthy_bool->Em,holding->En,getItem->Eo,wpAny_newList->Et,standAt->FP,assign->FQ,wpAny_execs_nil->FW,letOwnedTupleGo->FX,codeAny_builtin->FY,wpAny_setField->Fj,wpAny_seqItems->Fk,firstArgMember->Fl,Operator->Fm,IsPart->Fo,PassesOwn->Fp,Builtin->Fq,noFill_tuple_add->Fu,swapsWithSole->Fv,swappedStores->Fw,wpAny_pyIter_tuple->G6,wpAny_Call_Name_kw->G9,builtinsNs->GA,wpAny_typeOf->GH,valueAt->GI,relabel->GJ,numAt_eq->GK,intItems->GL,callerA->GM,SetTable->GP,BindsTo->GR,tupleKind->GZ,seq_tuple_add->Gc,seqIndex?->Ge,subscripted->Gj,intItems_at->Gk,pushCells_keeps->Gq,concat_meets->Gr,pyIter->HC,isTrue->HD,compTurn->HE,nums_intItems->HS,comprehension->HU,assignInOrder->HV,seqItems?->Hd,Arguments->Hg,richCompare_meets_room->Hk,rawInt->Hl,newList->Hm,codeAny_mono->Hn,codeAny_compStart_list->Ho,wpAny_isTrue_Compare1->IA,wpAny_loadName_local->IK,unsupported->IL,seqIndex_of->IM,compPost->IN,bindName->IP,ReadsAll->IQ,wpAny_loadName_cell->IW,entry_listiter_next->IX,wpAny_load->Ii,wpAny_Name->Ij,pyNext->Ik,checkCount->Il,call_meets->Im,args_listiter_next->Io
open PySem.Around renaming under_plainId->Gx
open PySem.AutoSeq1 renaming sub_tuple_tuple->GF
open PySem.Builtin renaming bitAnd->Eu
open PySem.Builtin.Int renaming intBits->CY
open PySem.Builtin.List renaming listExtendWith->EF,listTooLong->EN
open PySem.Builtin.Slice renaming slicePlaces->Dq,sliceAdjust->EK,sliceApplied->Fe
open PySem.Builtin.SmallTypes renaming nextOf->CI
open PySem.Builtin.Str renaming occurrences->DU
open PySem.Builtin.Tuple renaming tupleExact->Du,tupleCompareSizes->FB,tupleItemsOf->Fc
open PySem.Calls renaming call_function_entry->EY,Name_function_global->GQ
open PySem.Code renaming compLoop->Iq
open PySem.F renaming slot_list_append->D2,plainAttrs_list->D4,type_list_append->DE,slot_tuple_iterator_next->E2,args_tuple_add_2->EX,entry_tuple_add->Ed,slot_tuple_add->Ej,plain_list_iadd->GW,args_tuple_iterator_next_1->Gg,entry_tuple_iterator_next->Gn,slot_list_pop->He,slot_enumerate_next->Hf
open PySem.Heap renaming get?_push_of_some->Bz,lt_size->C6,get?_push_size->CA,size_push->Dc,SameBut->Do,get?_push_ne->Ec,size_update->Ek,get?_update_other->Ep,get?_update_self->F9,ExtBut->GB
open PySem.Heap.SameBut renaming update->EE
open PySem.NameKind renaming free->DD,cell->FJ
open PySem.Obj renaming mapSeq->Ch,data_mapFields->EW,isFreed_of_fields->HN,cls_mapFields->IB
open PySem.Paired renaming length->Ea,snoc->Ip
open PySem.PassesOwn renaming never->CL
open PySem.PyData renaming int->CO,canLayAll0->CU,eqv->DK,list->EJ,canLay0->Ez,tuple->IZ,depth->Ia
open PySem.SeqAt renaming EqAt->HW
open PySem.Str renaming ofString->Da
open PySem.Value renaming none->DC,ref->DZ,type->GN,bool->GO,int->Gm,notImplemented->HF,str->Hq,isStrOf->IY
open PySem.W renaming Frag->AC,kia_one->De,fnOf->EM,keepIn->EV,codeIn->FR,methodObj->Fb,cellsFrom_some->Gf,kas_rev->Gv,OpenLaw->Gw,kitx_dict->HM
open Sum renaming inr->D5,inl->EC
open Sum.inl renaming inj->Es
open Sum.inr renaming inj->IV
open True renaming intro->DT
section
namespace L2
open PySem PySem.Spec PyProof.Rows
abbrev Key:=Sum Int Str
noncomputable def i6:Key->Value->Bool
 |.inl k,v=>Value.isInt k v
 |.inr x,v=>IY x v
noncomputable def keyH(w:World):Key->Int
 |.inl k=>hashInt k
 |.inr x=>hashStr w x
theorem aS:∀{k:Key}{v:Value},i6 k v=true->(∃i t,k=EC i/\v=Gm i t)\/(∃x t,k=D5 x/\v=Hq x t)
 |.inl i,v,h=>by
  obtain⟨t,e⟩:=Value.isInt_shape (k:=i) (v:=v) h;exact .inl ⟨i,t,rfl,e⟩
 |.inr x,v,h=>by
  obtain⟨t,e⟩:=Value.isStrOf_shape (x:=x) (v:=v) h;exact .inr ⟨x,t,rfl,e⟩
theorem qE(i:Int)(t:Tok):i6 (.inl i) (.int i t)=true:=by simp[i6,Value.isInt]
theorem qF(x:Str)(t:Tok):i6 (.inr x) (.str x t)=true:=by simp[i6,IY]
theorem yv(a b:Int):decide ((EC a:Key)=EC b)=(a == b):=by
 by_cases e:a=b
 ·subst e; simp
 ·have h:¬ (EC a:Key)=EC b:=λq=>e (Es q)
  rw[decide_eq_false h];exact(beq_eq_false_iff_ne.mpr e).symm
theorem yw(a b:Str):decide ((D5 a:Key)=D5 b)=decide (a=b):=by
 by_cases e:a=b
 ·subst e; simp
 ·have h:¬ (D5 a:Key)=D5 b:=λq=>e (IV q)
  rw[decide_eq_false h,decide_eq_false e]
theorem yx(a:Int)(b:Str):decide ((EC a:Key)=D5 b)=false:=decide_eq_false (λq=>nomatch q)
theorem yy(a:Str)(b:Int):decide ((D5 a:Key)=EC b)=false:=decide_eq_false (λq=>nomatch q)
noncomputable def bh(prog:CH)(w:World):PySem.KeyKind prog w Key where
 is:=i6
 hash:=keyH w
 inj:=λv a b ha hb=>by
  rcases aS ha with⟨i,t,rfl,rfl⟩ | ⟨x,t,rfl,rfl⟩
  ·rcases aS hb with⟨j,u,rfl,e⟩ | ⟨y,u,rfl,e⟩
   ·injection e with e1 _; rw[e1]
   ·exact nomatch e
  ·rcases aS hb with⟨j,u,rfl,e⟩ | ⟨y,u,rfl,e⟩
   ·exact nomatch e
   ·injection e with e1 _; rw[e1]
 byValue:=λk v h=>by
  rcases aS h with⟨i,t,rfl,rfl⟩ | ⟨x,t,rfl,rfl⟩ <;> rfl
 pyHash:=λhv h=>by
  rcases aS hv with⟨i,t,rfl,rfl⟩ | ⟨x,t,rfl,rfl⟩
  ·exact wpAny_pyHash_int h
  ·exact wpAny_pyHash_str h
 eqBool:=λhu hv h=>by
  rcases aS hu with⟨i,t,rfl,rfl⟩ | ⟨x,t,rfl,rfl⟩
  ·rcases aS hv with⟨j,u,rfl,rfl⟩ | ⟨y,u,rfl,rfl⟩
   ·rw[yv] at h; exact wpAny_eqBool_int h
   ·rw[yx] at h; exact SeqAt.EqAt.int_str i t y u _ _ _ _ h
  ·rcases aS hv with⟨j,u,rfl,rfl⟩ | ⟨y,u,rfl,rfl⟩
   ·rw[yy] at h; exact SeqAt.EqAt.str_int x t j u _ _ _ _ h
   ·rw[yw] at h; exact wpAny_eqBool_str h
 «strs» := λk x t v h=>by
  rcases aS h with⟨i,u,rfl,e⟩ | ⟨y,u,rfl,e⟩
  ·exact nomatch e
  ·injection e with e1 _
   subst e1;cases v <;> rfl
theorem mh(prog:CH)(w:World)(i:Int)(t:Tok):(bh prog w).is (.inl i) (.int i t)=true:=qE i t
theorem mj(prog:CH)(w:World)(x:Str)(t:Tok):(bh prog w).is (.inr x) (.str x t)=true:=qF x t
end L2
namespace L2
open PySem PySem.Spec PyProof.Rows
inductive V where
 |non | bl (b:Bool) | int (i:Int) | str (x:Str) | byt (b:Array UInt8) | flt (b:UInt64) | ref (a:Addr) | ty (n:String)
 deriving DecidableEq
def RelV:V->Value->Prop
 |.non,u=>u=DC
 |.bl b,u=>u=GO b
 |.int i,u=>∃t,u=Gm i t
 |.str x,u=>∃t,u=Hq x t
 |.byt b,u=>∃t,u=Value.bytes b t
 |.flt b,u=>∃t,u=Value.float b t
 |.ref a,u=>u=DZ a
 |.ty n,u=>u=GN n
abbrev Vals:List V->List Value->Prop:=Dz RelV
theorem Vals.length{xs:List V}{us:List Value}(r:Vals xs us):xs.length=us.length:=Ea r
theorem Vals.get:∀{xs:List V}{us:List Value}{i:Nat}{x:V},Vals xs us->xs[i]? = some x->∃u,us[i]? = some u/\RelV x u
 |_,_,_,_,.nil,e=>by simp at e
 |_,_,0,_,.cons r _,e=>by simp at e; subst e; exact⟨_,rfl,r⟩
 |_,_,i+1,x,.cons _ t,e=>by
  obtain⟨u,h1,h2⟩:=Vals.get (i:=i) (x:=x) t (by simpa using e)
  exact⟨u,by simpa using h1,h2⟩
theorem Vals.set{x:V}{u:Value}(r:RelV x u):∀{xs:List V}{us:List Value}(i:Nat),Vals xs us->Vals (xs.set i x) (us.set i u)
 |_,_,_,.nil=>.nil
 |_,_,0,.cons _ t=>.cons r t
 |_,_,i+1,.cons q t=>.cons q (Vals.set r i t)
theorem Vals.append:∀{xs ys:List V}{us ws:List Value},Vals xs us->Vals ys ws->Vals (xs++ys) (us++ws)
 |_,_,_,_,.nil,s=>s
 |_,_,_,_,.cons r t,s=>.cons r (Vals.append t s)
theorem Vals.take:∀{xs:List V}{us:List Value}(n:Nat),Vals xs us->Vals (xs.take n) (us.take n)
 |_,_,0,_=>.nil
 |_,_,_+1,.nil=>.nil
 |_,_,n+1,.cons r t=>.cons r (Vals.take n t)
theorem Vals.drop:∀{xs:List V}{us:List Value}(n:Nat),Vals xs us->Vals (xs.drop n) (us.drop n)
 |_,_,0,r=>r
 |_,_,_+1,.nil=>.nil
 |_,_,n+1,.cons _ t=>Vals.drop n t
def jR:Option V->Option Value->Prop
 |some v,some u=>RelV v u
 |none,none=>True
 |_,_=>False
def KV{κ:Type}:List (κ×V)->List (κ×Value)->Prop:=Dz λ(p:κ×V)(q:κ×Value)=>p.1=q.1/\RelV p.2 q.2
noncomputable def kV:Key->V
 |.inl i=>.int i
 |.inr x=>.str x
inductive HO where
  |lst (xs:List V)
  |tup (xs:List V)
  |dK (kvs:List (Key×V)) | dT (kvs:List (List Key×V))
  |set (S:Int->Bool) (n:Nat)
  |ins (C dx:Addr) (fs:List (Str×V))
  |own (x:Addr)
  |xd (fs:List (Str×V))
  |met (f x:Addr)
  |rng (lo hi:Int)
  |frz (o:Obj) (u:HO)
  |tbl (ps:Array Value)
  |ext (φ:Heap->Prop)
abbrev Hp:=Addr->Option HO
noncomputable def upd(H:Hp)(a:Addr)(o:HO):Hp:=λb=>if b=a then some o else H b
theorem ay{H:Hp}{a:Addr}{o:HO}:upd H a o a=some o:=by unfold upd; rw[if_pos rfl]
theorem az{H:Hp}{a b:Addr}{o:HO}(h:b≠a):upd H a o b=H b:=by unfold upd; rw[if_neg h]
theorem rX{H:Hp}{a b:Addr}{o u:HO}(h:H a=some o)(h':H b=some u)(d:o≠u):a≠b:=by
 intro e; subst e; rw[h] at h'; exact d (CP h')
theorem aN{H:Hp}{a b:Addr}{o:HO}(h:H a=some o)(h':H b=none):a≠b:=by
 intro e; subst e; rw[h] at h'; cases h'
section
variable(P:CH)(w:World)
def bO(H:Hp)(h:Heap)(a:Addr):HO->Prop
 |.lst xs=>xs.length<=C7/\∃ (its:List Value) (n:Nat),Vals xs its/\h.get? a=some { cls:=.type "list",data:=.seq its.toArray n }
 |.tup xs=>xs.length<=C7/\∃its:List Value,Vals xs its/\IsTup h a its.toArray
 |.dK kvs=>kvs.length<=C7/\(a == Dt)=false/\∃vs,KV kvs vs/\h.DictOf (bh P w) a vs
 |.dT kvs=>kvs.length<=C7/\(a == Dt)=false/\∃xs:List (List Key×Addr×Value),
  Dz (λ(p:List Key×V)(q:List Key×Addr×Value)=>p.1=q.1/\H q.2.1=some (.tup (p.1.map kV))/\RelV p.2 q.2.2) kvs xs /\
  ∃o es ep,h.get? a=some o/\o.ExactDict/\o.data=.dict es ep/\es.toList=xs.map (entryOfKey (GZ (bh P w)))/\(xs.map (·.1)).Nodup
 |.set S n=>h.SetOf (intKind P w) a S n
 |.ins C dx fs=>H dx=some (.own a)/\fs.length<=1000/\dx≠a/\h.get? a=some (PySem.W.instObj C dx) /\
  ∃mA,h.Ns1 dx mA/\(∀f,jR (fs.lookup f) (mA f))/\PySem.Within mA (fs.map (·.1))
 |.own _=>∃o,h.get? a=some o
 |.xd fs=>∃mA,h.Ns1 a mA/\∀f,jR (fs.lookup f) (mA f)
 |.rng lo hi=>∃t u v,h.get? a=some { cls:=.type "range",data:=.fields #[.int lo t,.int hi u,.int 1 v] }
 |.frz o u=>h.get? a=some o/\bO H h a u
 |.tbl ps=>h.get? a=some { cls:=.none,data:=.fields ps }
 |.met f x=>h.get? a=some (Fb (.ref f) (.ref x))
 |.ext φ=>φ h/\(∃o,h.get? a=some o)/\∀h1 h2:Heap,φ h1->(∀o,h1.get? a=some o->h2.get? a=some o)->φ h2
def gr(H:Hp)(h:Heap):Prop:=∀a o,H a=some o->bO P w H h a o
end
section
variable{P:CH}{w:World}{H H':Hp}{h h':Heap}{a:Addr}{o:HO}
theorem bO.lt(x:bO P w H h a o):a<h.objs.size:=by
 cases o with
 |lst xs=>obtain⟨_,_,_,_,e⟩:=x; exact C6 e
 |tup xs=>obtain⟨_,_,_,p⟩:=x; exact p.lt
 |dK kvs=>obtain⟨_,_,_,_,o,_,_,e,_⟩:=x; exact C6 e
 |dT kvs=>obtain⟨_,_,_,_,o,_,_,e,_⟩:=x; exact C6 e
 |set S n=>obtain⟨o,_,_,_,e,_⟩:=x; exact C6 e
 |ins C dx fs=>obtain⟨_,_,_,e,_⟩:=x; exact C6 e
 |own y=>obtain⟨_,e⟩:=x; exact C6 e
 |xd fs=>obtain⟨_,⟨_,_,_,e,_⟩,_⟩:=x; exact C6 e
 |rng lo hi=>obtain⟨_,_,_,e⟩:=x; exact C6 e
 |frz ob u=>obtain⟨e,_⟩:=x; exact C6 e
 |tbl ps=>exact C6 (show h.get? a=some _ from x)
 |met f y=>exact C6 (show h.get? a=some _ from x)
 |ext φ=>obtain⟨_,⟨_,e⟩,_⟩:=x; exact C6 e
theorem Dz.mapP{α β:Type}{F G:α->β->Prop}:∀{l₁:List α}{l₂:List β},Dz F l₁ l₂->(∀a b,F a b->G a b)->Dz G l₁ l₂
 |_,_,.nil,_=>.nil
 |_,_,.cons r t,f=>.cons (f _ _ r) (Dz.mapP t f)
theorem bO.stay(x:bO P w H h a o)(k:∀b u,(b=a\/H b=some (.own a))->h.get? b=some u->h'.get? b=some u)
  (ho:∀b,H b=some (.own a)->H' b=some (.own a)) (ht:∀b xs,H b=some (.tup xs)->H' b=some (.tup xs)):bO P w H' h' a o:=by
 induction o with
 |lst xs=>obtain⟨z,its,n,r,e⟩:=x; exact⟨z,its,n,r,k _ _ (.inl rfl) e⟩
 |tup xs=>obtain⟨z,its,r,ob,e,c⟩:=x; exact⟨z,its,r,ob,k _ _ (.inl rfl) e,c⟩
 |dK kvs=>obtain⟨z,y,vs,r,ob,es,ep,e,c⟩:=x; exact⟨z,y,vs,r,ob,es,ep,k _ _ (.inl rfl) e,c⟩
 |dT kvs=>
  obtain⟨z,y,xs,r,ob,es,ep,e,c⟩:=x;exact⟨z,y,xs,Dz.mapP r λp q z=>⟨z.1,ht _ _ z.2.1,z.2.2⟩,ob,es,ep,k _ _ (.inl rfl) e,c⟩
 |set S n=>obtain⟨ob,es,ep,t,e,c⟩:=x; exact⟨ob,es,ep,t,k _ _ (.inl rfl) e,c⟩
 |ins C dx fs=>
  obtain⟨d,z,ne,e,mA,⟨od,es,ep,e2,c⟩,r⟩:=x;exact⟨ho _ d,z,ne,k _ _ (.inl rfl) e,mA,⟨od,es,ep,k _ _ (.inr d) e2,c⟩,r⟩
 |own y=>obtain⟨ob,e⟩:=x; exact⟨ob,k _ _ (.inl rfl) e⟩
 |xd fs=>obtain⟨mA,⟨od,es,ep,e,c⟩,r⟩:=x; exact⟨mA,⟨od,es,ep,k _ _ (.inl rfl) e,c⟩,r⟩
 |rng lo hi=>obtain⟨t,u,v,e⟩:=x; exact⟨t,u,v,k _ _ (.inl rfl) e⟩
 |frz ob u ih=>obtain⟨e,q⟩:=x; exact⟨k _ _ (.inl rfl) e,ih q⟩
 |tbl ps=>
  have e:h.get? a=some { cls:=.none,data:=.fields ps }:=x;show h'.get? a=some { cls:=.none,data:=.fields ps };exact k a _ (.inl rfl) e
 |met f y=>
  have e:h.get? a=some (Fb (.ref f) (.ref y)):=x;show h'.get? a=some (Fb (.ref f) (.ref y));exact k a _ (.inl rfl) e
 |ext φ=>obtain⟨p,⟨o,e⟩,st⟩:=x; exact⟨st _ _ p λo q=>k _ _ (.inl rfl) q,⟨o,k _ _ (.inl rfl) e⟩,st⟩
theorem gr.lt(x:gr P w H h)(e:H a=some o):a<h.objs.size:=(x a o e).lt
theorem gr.fresh(x:gr P w H h)(e:h.objs.size<=a):H a=none:=by
 cases q:H a with
 |none=>rfl
 |some u=>exact absurd (CD (x.lt q) e) (Ds _)
theorem gr.kept(x:gr P w H h)(k:∀b u,h.get? b=some u->h'.get? b=some u):gr P w H h':=λa o e=>
 (x a o e).stay (λb u _ q=>k b u q) (λ_ q=>q) λ_ _ q=>q
theorem gr.laid(x:gr P w H h)(k:∀b u,h.get? b=some u->h'.get? b=some u)(hp:h.objs.size<=a)(new:bO P w (upd H a o) h' a o):gr P w (upd H a o) h':=λb u e=>by
 have hn:=x.fresh hp
 by_cases hb:b=a
 ·subst hb; rw[ay] at e; cases e; exact new
 ·rw[az hb] at e
  exact(x b u e).stay (λc v _ q=>k c v q) (λc q=>by rw[az (aN q hn)]; exact q) λc xs q=>by rw[az (aN q hn)]; exact q
end
def Rd(H:Hp)(a:Addr)(u:HO):Prop:=H a=some u\/∃o,H a=some (.frz o u)
theorem Rd.ok{P:CH}{w:World}{H:Hp}{h:Heap}{a:Addr}{u:HO}(r:Rd H a u)(x:gr P w H h):bO P w H h a u:=by
 rcases r with r | ⟨o,r⟩
 ·exact x a u r
 ·obtain⟨_,q⟩:=x a _ r
  exact q
def Bj:Option HO->Prop
 |some (.lst _)=>True
 |some (.dK _)=>True
 |some (.dT _)=>True
 |some (.set _ _)=>True
 |some (.ins _ _ _)=>True
 |some (.ext _)=>True
 |_=>False
section
variable{P:CH}{w:World}{H:Hp}{h h':Heap}{x e:Addr}{o':HO}
theorem gr.write(ok:gr P w H h)(mu:Bj (H x))(he:e=x\/H e=some (.own x))(k:∀b u,b≠e->h.get? b=some u->h'.get? b=some u)(heo:∃u,h'.get? e=some u)
  (new:bO P w (upd H x o') h' x o'):gr P w (upd H x o') h':=λb u q=>by
 have nown:∀c y,H c=some (.own y)->c≠x:=λc y r z=>by subst z; rw[r] at mu; exact mu
 have ntup:∀c xs,H c=some (.tup xs)->c≠x:=λc xs r z=>by subst z; rw[r] at mu; exact mu
 by_cases hb:b=x
 ·subst hb; rw[ay] at q; cases q; exact new
 ·rw[az hb] at q
  by_cases hbe:b=e
  ·have q':H b=some (.own x):=by
    rcases he with z | z
    ·exact absurd (hbe.trans z) hb
    ·rw[hbe]; exact z
   rw[q] at q'; cases q';obtain⟨v,hv⟩:=heo;exact⟨v,by rw[hbe]; exact hv⟩
  ·refine(ok b u q).stay (λc v hc r=>k c v ?_ r) (λc r=>by rw[az (nown c b r)]; exact r) λc xs r=>by rw[az (ntup c xs r)]; exact r
   rcases hc with rfl | hc
   ·exact hbe
   ·rintro rfl
    rcases he with z | z
    ·exact nown c b hc z
    ·rw[hc] at z; cases z; exact hb rfl
end
structure Un(fs ex:List Addr)(H H':Hp)(h h':Heap):Prop where
 keep:∀b o,h.get? b=some o->H b=none->b∉fs->b∉ex->h'.get? b=some o
 slot:∀b o,h.get? b=some o->H b=none->b∈fs->b∉ex->∃sl,h'.get? b=some { o with slots:=sl }
 free:∀b o,h.get? b=some o->H b=none->b∉ex->H' b=none
 there:∀b o,h.get? b=some o->b∉ex->∃o',h'.get? b=some o'
 tups:∀b xs,H b=some (.tup xs)->H' b=some (.tup xs)
 dc:∀b o u,H b=some (.frz o u)->H' b=some (.frz o u)
 tbls:∀b ps,H b=some (.tbl ps)->∃more,H' b=some (.tbl (ps++more))
section
variable{fs fs' ex ex':List Addr}{H H1 H2:Hp}{h h1 h2 h':Heap}{a x e:Addr}{o:HO}
theorem Un.any(u:Un fs ex H H1 h h1){b:Addr}{ob:Obj}(q:h.get? b=some ob)(n:H b=none)(hx:b∉ex):∃sl,h1.get? b=some { ob with slots:=sl }:=by
 by_cases hb:b∈fs
 ·exact u.slot b ob q n hb hx
 ·exact⟨ob.slots,u.keep b ob q n hb hx⟩
theorem Un.trans(a:Un fs ex H H1 h h1)(b:Un fs ex H1 H2 h1 h2):Un fs ex H H2 h h2 where
 keep:=λc ob q n hc hx=>b.keep c ob (a.keep c ob q n hc hx) (a.free c ob q n hx) hc hx
 slot:=λc ob q n hc hx=>by
  obtain⟨sl,e1⟩:=a.slot c ob q n hc hx;obtain⟨sl',e2⟩:=b.slot c _ e1 (a.free c ob q n hx) hc hx;exact⟨sl',e2⟩
 free:=λc ob q n hx=>by
  obtain⟨o',e1⟩:=a.there c ob q hx;exact b.free c o' e1 (a.free c ob q n hx) hx
 there:=λc ob q hx=>by
  obtain⟨o',e1⟩:=a.there c ob q hx;exact b.there c o' e1 hx
 tups:=λc xs q=>b.tups c xs (a.tups c xs q)
 dc:=λc ob xs q=>b.dc c ob xs (a.dc c ob xs q)
 tbls:=λc ps q=>by
  obtain⟨m1,e1⟩:=a.tbls c ps q;obtain⟨m2,e2⟩:=b.tbls c _ e1;exact⟨m1++m2,by rw[e2,Hc]⟩
theorem Un.kept(k:∀b u,h.get? b=some u->h'.get? b=some u):Un fs ex H H h h' :=
 ⟨λb ob q _ _ _=>k b ob q,λb ob q _ _ _=>⟨ob.slots,k b ob q⟩,λ_ _ _ n _=>n,λb ob q _=>⟨ob,k b ob q⟩,λ_ _ q=>q,λ_ _ _ q=>q,λ_ ps q=>⟨#[],by rw[q]; simp⟩⟩
theorem Un.refl:Un fs ex H H h h:=Un.kept λ_ _ q=>q
theorem Un.laid(k:∀b u,h.get? b=some u->h'.get? b=some u)(hp:h.objs.size<=a)(hn:H a=none):Un fs ex H (upd H a o) h h' where
 keep:=λb u q _ _ _=>k b u q
 slot:=λb u q _ _ _=>⟨u.slots,k b u q⟩
 free:=λb u q n _=>by rw[az (CF (CD (C6 q) hp))]; exact n
 there:=λb u q _=>⟨u,k b u q⟩
 tups:=λb xs q=>by rw[az (aN q hn)]; exact q
 dc:=λb u xs q=>by rw[az (aN q hn)]; exact q
 tbls:=λb ps q=>⟨#[],by rw[az (aN q hn),q]; simp⟩
theorem Un.write(mu:Bj (H x))(he:e=x\/H e=some (.own x))(k:∀b u,b≠e->h.get? b=some u->h'.get? b=some u)(heo:∃u,h'.get? e=some u):Un fs ex H (upd H x o) h h':=by
 have hx:∀b,H b=none->b≠x:=λb n z=>by subst z; rw[n] at mu; exact mu
 have hb:∀b,H b=none->b≠e:=λb n z=>by
  subst z;rcases he with r | r
  ·exact hx b n r
  ·rw[n] at r; cases r
 have hm:∀b u,H b=some u->¬Bj (some u)->b≠x:=λb u q nm z=>by subst z; rw[q] at mu; exact nm mu
 refine⟨λb u q n _ _=>k b u (hb b n) q,λb u q n _ _=>⟨u.slots,k b u (hb b n) q⟩,λb u q n _=>by rw[az (hx b n)]; exact n,λb u q _=>?_,
  λb xs q=>by rw[az (hm b _ q λz=>z)]; exact q,λb u xs q=>by rw[az (hm b _ q λz=>z)]; exact q,λb ps q=>⟨#[],by rw[az (hm b _ q λz=>z),q]; simp⟩⟩
 by_cases hbe:b=e
 ·subst hbe; exact heo
 ·exact⟨u,k b u hbe q⟩
theorem Un.mono(u:Un fs ex H H1 h h1)(hs:∀b∈fs,b∈fs')(hx:∀b∈ex,b∈ex'):Un fs' ex' H H1 h h1 :=
 ⟨λb ob q n hb he=>u.keep b ob q n (λz=>hb (hs b z)) λz=>he (hx b z),λ_ _ q n _ he=>u.any q n λz=>he (hx _ z),λb ob q n he=>u.free b ob q n λz=>he (hx b z),λb ob q he=>u.there b ob q λz=>he (hx b z),u.tups,u.dc,u.tbls⟩
end
noncomputable def Bw(h:Heap)(H:Hp):List Addr:=(CG h.objs.size).filter λa=>(H a).isSome
noncomputable def kW(h:Heap)(H:Hp):Heap:=PySem.W.hideAll h (Bw h H)
theorem qG(h:Heap)(H:Hp):(kW h H).objs.size=h.objs.size:=PySem.W.hideAll_size _ _
theorem rY{h:Heap}{H:Hp}{b:Addr}{o:Obj}(e:h.get? b=some o)(n:H b=none):(kW h H).get? b=some o :=
 PySem.W.hideAll_get _ e λhm=>by
  have q:(H b).isSome=true:=(CM.mp hm).2;rw[n] at q; simp at q
theorem vj{h:Heap}{H:Hp}{b:Addr}{o:Obj}(e:(kW h H).get? b=some o):h.get? b=some o/\H b=none:=by
 have e':h.get? b=some o:=PySem.W.of_hideAll (Bw h H) e;refine⟨e',?_⟩;cases q:H b with
 |none=>rfl
 |some x=>
  have hm:b∈Bw h H:=CM.mpr ⟨E9.mpr (C6 e'),by simp[q]⟩
  have z:(kW h H).get? b=none:=PySem.W.hideAll_none (Bw h H) hm;rw[z] at e; cases e
end L2
namespace L2
open PySem PySem.Spec PyProof.Rows
structure Mod(K:AC)(mg:Str->Option Value)(base:Heap):Prop where
 kin:K.In base
 glob:base.Ns CQ mg
 blt:∃mb,base.Ns GA mb/\∀x:Str,x ≠ "__name__"->mb x=DY x
 nolimit:base.NoLimit
structure Cx where
 prog:CH
 w:World
 K:AC
 mg:Str->Option Value
 base:Heap
 A:Cw
 N:List Str
 s₀:At
 H₀:Hp
 env:Env
 outer:List Env
 stack:List Env
 ex:List Addr
 fn:Str->Bool
 calm:Bool
 pn:List (Addr×Obj)
 xe:Value->At->Prop
noncomputable def frs(l:List Env):List Addr:=l.filterMap (·.frame)
noncomputable abbrev Cx.fs(X:Cx):List Addr:=frs X.outer
def xX(sc:Scope)(x:Str):Prop:=sc.names.lookup x=some .local\/sc.names.lookup x=some .cell\/sc.names.lookup x=some .free
def Loc(sc:Scope)(x:Str):Prop:=sc.names.lookup x=some .local\/sc.names.lookup x=some .cell
def Look(env:Env)(h:Heap)(m:Str->Option Value)(x:Str)(u:Value):Prop :=
 (env.kindOf x=some .local/\m x=some u)\/((env.kindOf x=some .cell\/env.kindOf x=some .free)/\∃c,env.cells.lookup x=some c/\h.IsCell c (some u))
structure Cx.Ok(X:Cx):Prop where
 mod:Mod X.K X.mg X.base
 kind:X.env.scope.kind=.function
 glob:X.env.globals=CQ
 blt:X.env.builtins=GA
 above:X.s₀.heap.objs.size<=X.env.locals
 inj:∀x y c,X.env.cells.lookup x=some c->X.env.cells.lookup y=some c->x=y
 has:∀x,(X.env.kindOf x=some .cell\/X.env.kindOf x=some .free)->∃c,X.env.cells.lookup x=some c
 cab:∀x c,X.fn x=true->X.env.cells.lookup x=some c->X.s₀.heap.objs.size<=c
 hd:X.calm=true->X.A.handled=none
 frames:X.A.frames=some X.stack
 stk:X.stack=X.outer\/(X.stack=X.env::X.outer/\X.env.frame=some X.env.locals)
 exf:∀b∈X.ex,b≠X.env.locals/\∀x c,X.env.cells.lookup x=some c->c≠b
 bs:∀b o,X.base.get? b=some o->X.s₀.heap.get? b=some o/\X.H₀ b=none
 bsz:X.base.objs.size<=X.s₀.heap.objs.size
 noex:∀b o,X.base.get? b=some o->b∉X.ex
 exfs:∀b∈X.ex,b∉X.fs
 i7:X.s₀.heap.FunFrames X.base X.outer
 frf:∀b∈X.fs,X.H₀ b=none
structure Inv(X:Cx)(pins:List (Addr×Obj))(σ:List (Option V))(H:Hp)(s:At):Prop where
 ok:X.Ok
 os:s.os=X.s₀.os
 bare:FV s.gens
 base:Un X.fs X.ex X.H₀ H X.s₀.heap s.heap
 loc:∃m,s.heap.Ns X.env.locals m/\∀(i:Nat)(x:Str)(v:V),X.N[i]? = some x->σ[i]? = some (some v)->xX X.env.scope x->∃u,RelV v u/\Look X.env s.heap m x u
 cell:∀x c,X.env.cells.lookup x=some c->∃v,s.heap.IsCell c v
 free:H X.env.locals=none
 freeC:∀x c,X.env.cells.lookup x=some c->H c=none
 pin:∀p∈X.pn++pins,s.heap.get? p.1=some p.2/\H p.1=none/\p.1≠X.env.locals/\p.1∉X.fs/\∀v,p.2.data≠.cell v
 hok:gr X.prog X.w H s.heap
 len:σ.length=X.N.length
section
variable{X:Cx}{pins:List (Addr×Obj)}{σ:List (Option V)}{H H':Hp}{s:At}{h':Heap}
theorem Cx.Ok.nofr(ok:X.Ok){b:Addr}{o:Obj}(e:X.base.get? b=some o):b∉X.fs:=λhb=>by
 have:=(ok.i7.mem hb).1;rw[e] at this; cases this
theorem Inv.bs(I:Inv X pins σ H s):∀b o,X.base.get? b=some o->s.heap.get? b=some o/\H b=none:=λb o e=>
 ⟨I.base.keep b o (I.ok.bs b o e).1 (I.ok.bs b o e).2 (I.ok.nofr e) (I.ok.noex b o e),I.base.free b o (I.ok.bs b o e).1 (I.ok.bs b o e).2 (I.ok.noex b o e)⟩
theorem Inv.bk(I:Inv X pins σ H s):∀b o,X.base.get? b=some o->s.heap.get? b=some o:=λb o e=>(I.bs b o e).1
theorem Inv.mod(I:Inv X pins σ H s):Mod X.K X.mg X.base:=I.ok.mod
theorem Inv.pM(I:Inv X pins σ H s):X.K.In s.heap:=I.ok.mod.kin.keeps I.bk
theorem Inv.lt(I:Inv X pins σ H s):X.env.locals<s.heap.objs.size:=let ⟨_,hn,_⟩:=I.loc; hn.lt
theorem Inv.sz(I:Inv X pins σ H s):X.s₀.heap.objs.size<=s.heap.objs.size:=DB I.ok.above (DP I.lt)
theorem Inv.nofs(I:Inv X pins σ H s){a:Addr}(h:s.heap.objs.size<=a):a∉X.fs:=λhb=>by
 obtain⟨_,o,ho,_⟩:=I.ok.i7.mem hb;exact absurd (CD (C6 ho) (DB I.sz h)) (Ds _)
theorem Inv.qH(I:Inv X pins σ H s):∀x c,X.env.cells.lookup x=some c->c≠X.env.locals:=λx c e z=>by
 obtain⟨v,o,ho,hd⟩:=I.cell x c e;obtain⟨m,⟨o',es,ep,ho',hd',_⟩,_⟩:=I.loc;rw[z,ho'] at ho; cases ho; rw[hd'] at hd; cases hd
theorem Inv.i7(I:Inv X pins σ H s):s.heap.FunFrames X.base X.outer:=by
 have all:∀(l:List Env),(∀b∈frs l,b∈X.fs)->X.s₀.heap.FunFrames X.base l->s.heap.FunFrames X.base l:=by
  intro l
  induction l with
  |nil=>intro _ _; trivial
  |cons env r ih=>
   intro hs hl;obtain⟨hk,⟨L,o,hf,hn,ho,hd⟩,hr⟩:=hl;have hL:L∈X.fs:=hs L (by unfold frs; rw[Fa,hf]; exact lS)
   obtain⟨sl,e⟩:=I.base.slot L o ho (I.ok.frf L hL) hL λz=>I.ok.exfs L z hL
   exact⟨hk,⟨L,_,hf,hn,e,hd⟩,ih (λb hb=>hs b (by unfold frs; rw[Fa,hf]; exact lO _ hb)) hr⟩
 exact all X.outer (λ_ hb=>hb) I.ok.i7
theorem Inv.stack(I:Inv X pins σ H s):s.heap.FunFrames X.base X.stack:=by
 rcases I.ok.stk with e | ⟨e,hf⟩
 ·rw[e]; exact I.i7
 ·rw[e]
  obtain⟨m,hn,_⟩:=I.loc;refine .cons (by rw[I.ok.kind]; decide) hf hn ?_ I.i7
  exact Heap.get?_none_of_le (DB I.ok.bsz I.ok.above)
theorem Inv.kX(I:Inv X pins σ H s):∀b∈frs X.stack,b∈X.env.locals::X.fs:=λb hb=>by
 rcases I.ok.stk with e | ⟨e,hf⟩
 ·rw[e] at hb; exact lO _ hb
 ·rw[e] at hb
  unfold frs at hb;rw[Fa,hf] at hb;exact hb
theorem Inv.pN(I:Inv X pins σ H s):∀b∈frs X.stack,H b=none:=λb hb=>by
 rcases lK (I.kX b hb) with e | hb
 ·rw[e]; exact I.free
 ·obtain⟨_,o,ho,_⟩:=I.ok.i7.mem hb
  exact I.base.free b o ho (I.ok.frf b hb) λz=>I.ok.exfs b z hb
theorem Inv.step{g':Array GenState}{t':Nat}{d':Drawn}{ch:List Addr}(I:Inv X pins σ H s)
  (hch:∀b∈ch,(b∈X.ex\/X.s₀.heap.objs.size<=b)/\b≠X.env.locals/\(∀x c,X.env.cells.lookup x=some c->c≠b)/\∀p∈X.pn++pins,p.1≠b)
  (keep:∀b o,b≠X.env.locals->b∉X.fs->b∉ch->s.heap.get? b=some o->H b=none->h'.get? b=some o)
  (slot:∀b o,b≠X.env.locals->b∈X.fs->b∉ch->s.heap.get? b=some o->H b=none->∃sl,h'.get? b=some { o with slots:=sl }) (free:∀b o,b∉ch->s.heap.get? b=some o->H b=none->H' b=none)
  (there:∀b o,b∉ch->s.heap.get? b=some o->∃o',h'.get? b=some o')
  (tups:∀b xs,H b=some (.tup xs)->H' b=some (.tup xs)) (dc:∀b o u,H b=some (.frz o u)->H' b=some (.frz o u)) (tbls:∀b ps,H b=some (.tbl ps)->∃more,H' b=some (.tbl (ps++more)))
  (ns:∀m,s.heap.Ns X.env.locals m->h'.Ns X.env.locals m) (hok:gr X.prog X.w H' h') (hg:FV g') :
  Inv X pins σ H' { s with heap:=h',gens:=g',drawn:=d',toks:=t' }:=by
 have neL:∀b o,X.s₀.heap.get? b=some o->b≠X.env.locals:=λb o e=>CF (CD (C6 e) I.ok.above)
 have neC:∀b o,X.s₀.heap.get? b=some o->b∉X.ex->b∉ch:=λb o e hx hb=>by
  rcases (hch b hb).1 with z | z
  ·exact hx z
  ·exact absurd (CD (C6 e) z) (Ds _)
 have cellK:∀x c,X.env.cells.lookup x=some c->∀v,s.heap.IsCell c v->h'.IsCell c v:=λx c e v ⟨o,ho,hd⟩=>by
  have nch:c∉ch:=λz=>(hch c z).2.2.1 x c e rfl
  by_cases hc:c∈X.fs
  ·obtain⟨sl,q⟩:=slot c o (I.qH x c e) hc nch ho (I.freeC x c e)
   exact⟨_,q,hd⟩
  ·exact⟨o,keep c o (I.qH x c e) hc nch ho (I.freeC x c e),hd⟩
 refine⟨I.ok,I.os,hg,⟨λb o e n hb hx=>?_,λb o e n hb hx=>?_,λb o e n hx=>?_,λb o e hx=>?_,λb xs e=>tups b xs (I.base.tups b xs e),λb o xs e=>dc b o xs (I.base.dc b o xs e),λb ps e=>?_⟩,?_,λx c e=>?_,?_,λx c e=>?_,λp hp=>?_,hok,I.len⟩
 ·exact keep b o (neL b o e) hb (neC b o e hx) (I.base.keep b o e n hb hx) (I.base.free b o e n hx)
 ·obtain⟨sl,e1⟩:=I.base.slot b o e n hb hx
  obtain⟨sl',e2⟩:=slot b _ (neL b o e) hb (neC b o e hx) e1 (I.base.free b o e n hx);exact⟨sl',e2⟩
 ·obtain⟨o',e1⟩:=I.base.there b o e hx
  exact free b o' (neC b o e hx) e1 (I.base.free b o e n hx)
 ·obtain⟨o',e1⟩:=I.base.there b o e hx
  exact there b o' (neC b o e hx) e1
 ·obtain⟨m1,e1⟩:=I.base.tbls b ps e
  obtain⟨m2,e2⟩:=tbls b _ e1;exact⟨m1++m2,by rw[e2,Hc]⟩
 ·obtain⟨m,hn,hl⟩:=I.loc
  refine⟨m,ns m hn,λi x v e1 e2 e3=>?_⟩
  obtain⟨u,r,l⟩:=hl i x v e1 e2 e3;refine⟨u,r,?_⟩;rcases l with l | ⟨k,c,e,z⟩
  ·exact .inl l
  ·exact .inr ⟨k,c,e,cellK x c e _ z⟩
 ·obtain⟨v,z⟩:=I.cell x c e
  exact⟨v,cellK x c e v z⟩
 ·obtain⟨m,⟨o,_,_,ho,_⟩,_⟩:=I.loc
  exact free _ o (λz=>(hch _ z).2.1 rfl) ho I.free
 ·obtain⟨v,o,ho,hd⟩:=I.cell x c e
  exact free c o (λz=>(hch c z).2.2.1 x c e rfl) ho (I.freeC x c e)
 ·obtain⟨e,n,ne,nf,d⟩:=I.pin p hp
  have nch:p.1∉ch:=λz=>(hch p.1 z).2.2.2 p hp rfl
  exact⟨keep p.1 p.2 ne nf nch e n,free p.1 p.2 nch e n,ne,nf,d⟩
theorem Inv.un{t':Nat}(I:Inv X pins σ H s)(u:Un X.fs [] H H' s.heap h')(hok:gr X.prog X.w H' h'):Inv X pins σ H' { s with heap:=h',toks:=t' }:=by
 obtain⟨m,⟨o,es,ep,ho,r⟩,_⟩:=id I.loc;obtain⟨sl,hL⟩:=u.any ho I.free (by simp)
 exact I.step (g':=s.gens) (d':=s.drawn) (ch:=[]) (λ_ z=>nomatch z) (λb o _ hb _ e n=>u.keep b o e n hb (by simp)) (λb o _ hb _ e n=>u.slot b o e n hb (by simp)) (λb o _ e n=>u.free b o e n (by simp)) (λb o _ e=>u.there b o e (by simp)) u.tups u.dc u.tbls (λm' hm=>by
  obtain⟨o',es',ep',ho',r'⟩:=hm;rw[ho] at ho'; cases ho';exact⟨_,es',ep',hL,r'⟩) hok I.bare
theorem Inv.call{g':Array GenState}{t':Nat}{d':Drawn}{ch:List Addr}(I:Inv X pins σ H s)(u:Un (frs X.stack) ch H H' s.heap h')(hok:gr X.prog X.w H' h')(hg:FV g')
  (hch:∀b∈ch,(b∈X.ex\/X.s₀.heap.objs.size<=b)/\b≠X.env.locals/\(∀x c,X.env.cells.lookup x=some c->c≠b)/\∀p∈X.pn++pins,p.1≠b) :
  Inv X pins σ H' { s with heap:=h',gens:=g',drawn:=d',toks:=t' }:=by
 obtain⟨m,⟨o,es,ep,ho,r⟩,_⟩:=id I.loc;obtain⟨sl,hL⟩:=u.any ho I.free λz=>(hch _ z).2.1 rfl
 exact I.step (ch:=ch) hch (λb o hL hb hc e n=>u.keep b o e n (λz=>(lK (I.kX b z)).elim hL hb) hc) (λb o _ _ hc e n=>u.any e n hc) (λb o hc e n=>u.free b o e n hc) (λb o hc e=>u.there b o e hc) u.tups u.dc u.tbls (λm' hm=>by
  obtain⟨o',es',ep',ho',r'⟩:=hm;rw[ho] at ho'; cases ho';exact⟨_,es',ep',hL,r'⟩) hok hg
theorem Inv.turned{t':Nat}{it:Addr}(I:Inv X pins σ H s)(k:∀b o,b≠it->s.heap.get? b=some o->h'.get? b=some o)(hn:H it=none)(hL:it≠X.env.locals)
  (h1:it∈X.ex\/X.s₀.heap.objs.size<=it) (h2:∀x c,X.env.cells.lookup x=some c->c≠it) (h3:∀p∈X.pn++pins,p.1≠it):Inv X pins σ H { s with heap:=h',toks:=t' }:=by
 have nit:∀b u,H b=some u->b≠it:=λb u e z=>by rw[z,hn] at e; cases e
 refine I.step (g':=s.gens) (d':=s.drawn) (ch:=[it]) (λb hb=>?_) (λb o _ _ hc e _=>k b o (λz=>hc (by simp[z])) e) (λb o _ _ hc e _=>⟨o.slots,k b o (λz=>hc (by simp[z])) e⟩) (λ_ _ _ _ n=>n)
  (λb o hc e=>⟨o,k b o (λz=>hc (by simp[z])) e⟩) (λ_ _ e=>e) (λ_ _ _ e=>e) (λb ps e=>⟨#[],by rw[e]; simp⟩) (λm hm=>?_) (λb u e=>?_) I.bare
 ·have e:b=it:=by simpa using hb
  subst e;exact⟨h1,hL,h2,h3⟩
 ·obtain⟨o,es,ep,ho,r⟩:=hm
  exact⟨o,es,ep,k _ o (Dx hL) ho,r⟩
 ·refine(I.hok b u e).stay (λc v hc q=>k c v ?_ q) (λ_ q=>q) λ_ _ q=>q
  rcases hc with z | z
  ·rw[z]; exact nit b u e
  ·exact nit c _ z
theorem Inv.tok(I:Inv X pins σ H s)(t:Nat):Inv X pins σ H { s with toks:=t }:=I.un (h':=s.heap) (t':=t) Un.refl I.hok
theorem Inv.kept{t':Nat}(I:Inv X pins σ H s)(k:∀b u,s.heap.get? b=some u->h'.get? b=some u):Inv X pins σ H { s with heap:=h',toks:=t' }:=I.un (Un.kept k) (I.hok.kept k)
theorem Inv.laid{a:Addr}{o:HO}{t':Nat}(I:Inv X pins σ H s)(k:∀b u,s.heap.get? b=some u->h'.get? b=some u)(hp:s.heap.objs.size<=a)(new:bO X.prog X.w (upd H a o) h' a o) :
  Inv X pins σ (upd H a o) { s with heap:=h',toks:=t' }:=I.un (Un.laid k hp (I.hok.fresh hp)) (I.hok.laid k hp new)
theorem Inv.write{x e:Addr}{o:HO}{t':Nat}(I:Inv X pins σ H s)(mu:Bj (H x))(he:e=x\/H e=some (.own x))(k:∀b u,b≠e->s.heap.get? b=some u->h'.get? b=some u)(heo:∃u,h'.get? e=some u)
  (new:bO X.prog X.w (upd H x o) h' x o):Inv X pins σ (upd H x o) { s with heap:=h',toks:=t' }:=I.un (Un.write mu he k heo) (I.hok.write mu he k heo new)
theorem Inv.pO{pins':List (Addr×Obj)}(I:Inv X pins σ H s)(h:∀p∈pins',s.heap.get? p.1=some p.2/\H p.1=none/\p.1≠X.env.locals/\p.1∉X.fs/\∀v,p.2.data≠.cell v):Inv X pins' σ H s :=
 ⟨I.ok,I.os,I.bare,I.base,I.loc,I.cell,I.free,I.freeC,λp hp=>(lM hp).elim (λz=>I.pin p (lL _ z)) (h p),I.hok,I.len⟩
theorem mq{N:List Str}(hN:N.Nodup){i j:Nat}{x:Str}(a:N[i]? = some x)(b:N[j]? = some x):i=j:=by
 obtain⟨h1,e1⟩:=CB.mp a;obtain⟨h2,e2⟩:=CB.mp b;exact(List.getElem_inj hN).mp (e1.trans e2.symm)
theorem kc{M:Model}{A:Cw}{E:Value->At->Prop}{i:Nat}{x:Str}{v:V}{u:Value}{Q:Unit->At->Prop}(I:Inv X pins σ H s)(hN:X.N.Nodup)(hi:X.N[i]? = some x)(hx:Loc X.env.scope x)(r:RelV v u)
  (h:∀s',Inv X pins (σ.set i (some v)) H s'->(∃a,Do a s.heap s'.heap/\(a=X.env.locals\/X.env.cells.lookup x=some a))->Q () s') (hf:X.fn x=true\/X.env.scope.names.lookup x=some .local:=by first | exact .inl rfl | exact .inr rfl | assumption):wpAny M A (storeName X.env x u) Q E s:=by
 obtain⟨m,hn,hl⟩:=id I.loc;have hcls:(X.env.scope.kind == .class || (X.env.scope.kind == .module && X.env.locals != X.env.globals))=false:=by rw[I.ok.kind]; rfl
 have hiσ:i<σ.length:=by rw[I.len]; exact(CB.mp hi).1
 have qH:=I.qH;have tracked:∀{a:Addr}{h':Heap},(∃o,s.heap.get? a=some o/\H a=none)->Do a s.heap h'->gr X.prog X.w H h':=λ{a h'}ha hs b ob e=>by
  obtain⟨_,_,hfree⟩:=ha;refine(I.hok b ob e).stay (λc w' hc q=>(hs.2 c ?_).trans q) (λ_ q=>q) λ_ _ q=>q
  rintro rfl;rcases hc with rfl | hc
  ·rw[hfree] at e; cases e
  ·rw[hfree] at hc; cases hc
 rcases hx with hk | hk
 ·refine wpAny_storeName_local hk hn (λh' hn' hs=>?_) hcls
  obtain⟨oL,_,_,hoL,_⟩:=id hn;refine h _ ⟨I.ok,I.os,I.bare,⟨λb o e n hb hx=>?_,λb o e n hb hx=>?_,I.base.free,λb o e hx=>?_,I.base.tups,I.base.dc,I.base.tbls⟩,⟨_,hn',λj y v' e1 e2 e3=>?_⟩,λy c e=>?_,I.free,I.freeC,λp hp=>?_,tracked ⟨oL,hoL,I.free⟩ hs,by simpa using I.len⟩ ⟨_,hs,.inl rfl⟩
  ·exact(hs.2 b (CF (CD (C6 e) I.ok.above))).trans (I.base.keep b o e n hb hx)
  ·obtain⟨sl,e1⟩:=I.base.slot b o e n hb hx
   exact⟨sl,(hs.2 b (CF (CD (C6 e) I.ok.above))).trans e1⟩
  ·obtain⟨o',e1⟩:=I.base.there b o e hx
   exact⟨o',(hs.2 b (CF (CD (C6 e) I.ok.above))).trans e1⟩
  ·by_cases hj:j=i
   ·subst hj
    rw[hi] at e1; cases e1;rw[DO hiσ] at e2;cases e2;exact⟨u,r,.inl ⟨hk,by simp⟩⟩
   ·rw[FM (Dx hj)] at e2
    obtain⟨u',r',q⟩:=hl j y v' e1 e2 e3;refine⟨u',r',?_⟩;rcases q with⟨k,e⟩ | ⟨k,c,e,z⟩
    ·refine .inl ⟨k,?_⟩
     have:y≠x:=λe=>hj (mq hN e1 (e▸hi))
     simp[this,e]
    ·exact .inr ⟨k,c,e,z.sameBut hs (qH y c e)⟩
  ·obtain⟨w',z⟩:=I.cell y c e
   exact⟨w',z.sameBut hs (qH y c e)⟩
  ·obtain⟨e,n,ne,nf,d⟩:=I.pin p hp
   exact⟨(hs.2 p.1 ne).trans e,n,ne,nf,d⟩
 ·have hfn:X.fn x=true:=by
   rcases hf with z | z
   ·exact z
   ·rw[z] at hk; cases hk
  obtain⟨c,hc⟩:=I.ok.has x (.inl hk);obtain⟨w',z⟩:=I.cell x c hc;refine wpAny_storeName_cell I.ok.kind hk hc z (λh' hc' hs=>?_)
  obtain⟨oc,hoc,hocd⟩:=id z;refine h { s with heap:=h' } ⟨I.ok,I.os,I.bare,⟨λb o e n hb hx=>?_,λb o e n hb hx=>?_,I.base.free,λb o e hx=>?_,I.base.tups,I.base.dc,I.base.tbls⟩,⟨m,hn.sameBut hs (Dx (qH x c hc)),λj y v' e1 e2 e3=>?_⟩,λy c' e=>?_,I.free,I.freeC,λp hp=>?_,tracked ⟨oc,hoc,I.freeC x c hc⟩ hs,by simpa using I.len⟩ ⟨c,hs,.inr hc⟩
  ·exact(hs.2 b (CF (CD (C6 e) (I.ok.cab x c hfn hc)))).trans (I.base.keep b o e n hb hx)
  ·obtain⟨sl,e1⟩:=I.base.slot b o e n hb hx
   exact⟨sl,(hs.2 b (CF (CD (C6 e) (I.ok.cab x c hfn hc)))).trans e1⟩
  ·obtain⟨o',e1⟩:=I.base.there b o e hx
   exact⟨o',(hs.2 b (CF (CD (C6 e) (I.ok.cab x c hfn hc)))).trans e1⟩
  ·by_cases hj:j=i
   ·subst hj
    rw[hi] at e1; cases e1;rw[DO hiσ] at e2;cases e2;exact⟨u,r,.inr ⟨.inl hk,c,hc,hc'⟩⟩
   ·rw[FM (Dx hj)] at e2
    obtain⟨u',r',q⟩:=hl j y v' e1 e2 e3;refine⟨u',r',?_⟩;rcases q with q | ⟨k,c',e,z'⟩
    ·exact .inl q
    ·refine .inr ⟨k,c',e,z'.sameBut hs ?_⟩
     rintro rfl;exact hj (mq hN e1 (I.ok.inj _ _ _ e hc▸hi))
  ·by_cases hcc:c'=c
   ·subst hcc; exact⟨_,hc'⟩
   ·obtain⟨w2,z2⟩:=I.cell y c' e
    exact⟨w2,z2.sameBut hs hcc⟩
  ·obtain⟨e,n,ne,nf,d⟩:=I.pin p hp
   refine⟨(hs.2 p.1 ?_).trans e,n,ne,nf,d⟩;intro q;rw[q,hoc] at e;have q':oc=p.2:=CP e;exact d w' (by rw[<-q']; exact hocd)
theorem fq{M:Model}{A:Cw}{E:Value->At->Prop}{i:Nat}{x:Str}{v:V}{u:Value}{Q:Unit->At->Prop}(I:Inv X pins σ H s)(hN:X.N.Nodup)(hi:X.N[i]? = some x)(hx:Loc X.env.scope x)(r:RelV v u)
  (h:∀s',Inv X pins (σ.set i (some v)) H s'->Q () s') (hf:X.fn x=true\/X.env.scope.names.lookup x=some .local:=by first | exact .inl rfl | exact .inr rfl | assumption):wpAny M A (storeName X.env x u) Q E s :=
 kc I hN hi hx r (λs' I' _=>h s' I') hf
theorem Inv.call'{s':At}{ch:List Addr}(I:Inv X pins σ H s)(ho:s'.os=s.os)(u:Un (frs X.stack) ch H H' s.heap s'.heap)(hok:gr X.prog X.w H' s'.heap)(hg:FV s'.gens)
  (hch:∀b∈ch,(b∈X.ex\/X.s₀.heap.objs.size<=b)/\b≠X.env.locals/\(∀x c,X.env.cells.lookup x=some c->c≠b)/\∀p∈X.pn++pins,p.1≠b):Inv X pins σ H' s':=by
 obtain⟨h',g',d',t',o'⟩:=s';have e:o'=s.os:=ho;subst e;exact I.call (g':=g') (t':=t') (d':=d') u hok hg hch
end
abbrev XK:=Value->Option Addr->Hp->Prop
abbrev St:=List (Option V)
abbrev VK:=V->Hp->Prop
abbrev TE:=St->Hp->VK->Prop
abbrev TT:=St->Hp->(Bool->Hp->Prop)->Prop
abbrev TA:=St->Hp->(List V->Hp->Prop)->Prop
structure Ends where
 nx:St->Hp->Prop
 rt:VK
 bk:St->Hp->Prop:=λ_ _=>False
 ct:St->Hp->Prop:=λ_ _=>False
abbrev TS:=Ends->St->Hp->Prop
def EP(X:Cx)(pins:List (Addr×Obj))(σ:St)(Q:VK)(u:Value)(s':At):Prop:=∃v H',Inv X pins σ H' s'/\RelV v u/\Q v H'
def TP(X:Cx)(pins:List (Addr×Obj))(σ:St)(Q:Bool->Hp->Prop)(b:Bool)(s':At):Prop:=∃H',Inv X pins σ H' s'/\Q b H'
def AP(X:Cx)(pins:List (Addr×Obj))(σ:St)(Q:List V->Hp->Prop)(us:List Value)(s':At):Prop:=∃vs H',Inv X pins σ H' s'/\Vals vs us/\Q vs H'
def SP(X:Cx)(pins:List (Addr×Obj))(D:Ends)(f:Flow)(s':At):Prop :=
 match f with
 |.next=>∃σ' H',Inv X pins σ' H' s'/\D.nx σ' H'
 |.brk=>∃σ' H',Inv X pins σ' H' s'/\D.bk σ' H'
 |.cont=>∃σ' H',Inv X pins σ' H' s'/\D.ct σ' H'
 |.ret u=>∃v σ' H',Inv X pins σ' H' s'/\RelV v u/\D.rt v H'
def PE(X:Cx)(e:Expr)(t:TE):Prop :=
 ∀(pins:List (Addr×Obj))(s:At)(σ:St)(H:Hp)(Q:VK),Inv X pins σ H s->t σ H Q->wpAny (model X.prog X.w) X.A (eval e X.env) (EP X pins σ Q) X.xe s
def PT(X:Cx)(e:Expr)(t:TT):Prop :=
 ∀(pins:List (Addr×Obj))(s:At)(σ:St)(H:Hp)(Q:Bool->Hp->Prop),Inv X pins σ H s->t σ H Q->wpAny (model X.prog X.w) X.A (HD e X.env (eval e X.env)) (TP X pins σ Q) X.xe s
def PW(X:Cx)(e:Expr)(t:TT):Prop :=
 ∀(whole:Sem Value)(pins:List (Addr×Obj))(s:At)(σ:St)(H:Hp)(Q:Bool->Hp->Prop),Inv X pins σ H s->t σ H Q->wpAny (model X.prog X.w) X.A (HD e X.env whole) (TP X pins σ Q) X.xe s
theorem PW.pt{X:Cx}{e:Expr}{t:TT}(h:PW X e t):PT X e t:=h _
def PA(X:Cx)(es:List Expr)(t:TA):Prop :=
 ∀(pos:Pos)(pins:List (Addr×Obj))(s:At)(σ:St)(H:Hp)(Q:List V->Hp->Prop),Inv X pins σ H s->t σ H Q->wpAny (model X.prog X.w) X.A (spliced (ED pos (C9 es X.env))) (AP X pins σ Q) X.xe s
def PS(X:Cx)(st:Stmt)(t:TS):Prop :=
 ∀(pins:List (Addr×Obj))(s:At)(σ:St)(H:Hp)(D:Ends),Inv X pins σ H s->t D σ H->wpAny (model X.prog X.w) X.A (exec st X.env) (SP X pins D) X.xe s
def nR(X:Cx)(st:List Stmt)(t:TS):Prop :=
 ∀(pins:List (Addr×Obj))(s:At)(σ:St)(H:Hp)(D:Ends),Inv X pins σ H s->t D σ H->wpAny (model X.prog X.w) X.A (execs st X.env) (SP X pins D) X.xe s
theorem bx{α:Type}{t:Sem α}{Q Q':α->At->Prop}{M:Model}{A:Cw}{E:Value->At->Prop}{s:At}(h:wpAny M A t Q E s)(hQ:∀a s,Q a s->Q' a s):wpAny M A t Q' E s:=Dl h hQ λ_ _ x=>x
end L2
namespace L2
open PySem PySem.Spec PyProof.Rows
section
variable{X:Cx}
theorem bin{a b:Expr}{ta tb:TE}(ha:PE X a ta)(hb:PE X b tb){pins:List (Addr×Obj)}{s:At}{σ:St}{H:Hp}{R:V->V->Hp->Prop}(I:Inv X pins σ H s)(h:ta σ H λx H1=>tb σ H1 λy H2=>R x y H2)
  {α:Type} {Q:α->At->Prop} {f:Value->Value->Sem α}
  (hf:∀v u s2 x y H2,Inv X pins σ H2 s2->RelV x v->RelV y u->R x y H2->wpAny (model X.prog X.w) X.A (f v u) Q X.xe s2) :
  wpAny (model X.prog X.w) X.A (eval a X.env) (λv s₁=>wpAny (model X.prog X.w) X.A (eval b X.env) (λu s₂=>wpAny (model X.prog X.w) X.A (f v u) Q X.xe s₂) X.xe s₁) X.xe s:=by
 refine bx (ha pins s σ H _ I h) λv s1 ⟨x,H1,I1,r1,q1⟩=>?_
 refine bx (hb pins s1 σ H1 _ I1 q1) λu s2 ⟨y,H2,I2,r2,q2⟩=>?_
 exact hf v u s2 x y H2 I2 r1 r2 q2
noncomputable def cI(i:Nat):TE:=λσ H Q=>∃v,σ[i]? = some (some v)/\Q v H
noncomputable def tC(v:V):TE:=λ_ H Q=>Q v H
theorem nS{i:Nat}{x:Str}{pos:Pos}(hN:X.N[i]? = some x)(hv:xX X.env.scope x)(hd:(x == ("__debug__" : Str))=false:=by decide)(hcd:(x == ("__classdict__" : Str))=false:=by decide):PE X (.Name x pos) (cI i):=by
 intro pins s σ H Q I h;obtain⟨v,e,h⟩:=h;obtain⟨m,hn,hl⟩:=I.loc;obtain⟨u,r,l⟩:=hl i x v hN e hv;have fin:EP X pins σ Q u s:=⟨v,H,I,r,h⟩;rcases l with⟨hk,hm⟩ | ⟨hk,c,hc,hcell⟩
 ·exact Ij (IK I.ok.kind hk hn hm fin) hd
 ·rcases hk with hk | hk
  ·exact Ij (IW I.ok.kind hk hc hcell fin) hd
  ·exact Ij (wpAny_loadName_free I.ok.kind hk hc hcell fin hcd) hd
theorem ig{i j pos}:PE X (.Constant (.int i) j pos) (tC (.int i)):=λ_ _ _ H _ I h=>wpAny_Constant_int ⟨.int i,H,I.tok _,⟨_,rfl⟩,h⟩
theorem pe_bl{b j pos}:PE X (.Constant (.bool b) j pos) (tC (.bl b)):=λ_ _ _ H _ I h=>Constant_bool ⟨.bl b,H,I,rfl,h⟩
theorem yz{j pos}:PE X (.Constant .none j pos) (tC .non):=λ_ _ _ H _ I h=>Constant_none ⟨.non,H,I,rfl,h⟩
theorem i8{x j pos}:PE X (.Constant (.str x) j pos) (tC (.str x)):=λ_ _ _ H _ I h=>Calls.Constant_str ⟨.str x,H,I.tok _,⟨_,rfl⟩,h⟩
def Gl(X:Cx)(x:Str):Prop:=X.env.kindOf x=some .globalImplicit
theorem vm{E:Value->At->Prop}{pins:List (Addr×Obj)}{s:At}{σ:St}{H:Hp}{x:Str}{u:Value}{pos:Pos}{Q:Value->At->Prop}(I:Inv X pins σ H s)(hg:Gl X x)(hm:X.mg x=some u)(h:Q u s)
  (hd:(x == ("__debug__" : Str))=false:=by decide):wpAny (model X.prog X.w) X.A (eval (.Name x pos) X.env) Q E s :=
 GQ I.ok.kind hg (Calls.loadGlobal_global (by rw[I.ok.glob]; exact I.mod.glob.keeps I.bk) hm h) hd
theorem i9{E:Value->At->Prop}{pins:List (Addr×Obj)}{s:At}{σ:St}{H:Hp}{x:Str}{u:Value}{pos:Pos}{Q:Value->At->Prop}(I:Inv X pins σ H s)(hg:Gl X x)(hm:X.mg x=none)(hv:DY x=some u)(h:Q u s)
  (hn:x ≠ "__name__" := by decide) (hd:(x == ("__debug__" : Str))=false:=by decide):wpAny (model X.prog X.w) X.A (eval (.Name x pos) X.env) Q E s:=by
 obtain⟨mb,h1,h2⟩:=I.mod.blt;exact GQ I.ok.kind hg (Calls.loadGlobal_builtin (by rw[I.ok.glob]; exact I.mod.glob.keeps I.bk) hm (by rw[I.ok.blt]; exact h1.keeps I.bk) ((h2 x hn).trans hv) h) hd
theorem vn{x:Str}{v:V}{u:Value}{pos:Pos}(hg:Gl X x)(hm:X.mg x=none)(hv:DY x=some u)(r:RelV v u)(hn:x ≠ "__name__" := by decide)(hd:(x == ("__debug__" : Str))=false:=by decide):PE X (.Name x pos) (tC v) :=
 λ_ _ _ H _ I h=>i9 I hg hm hv ⟨v,H,I,r,h⟩ hn hd
variable{a b:Expr}{ta tb:TE}{pos:Pos}
def PC(X:Cx)(op:CmpOp)(a b:Expr)(t:TE):Prop :=
 ∀(pins:List (Addr×Obj))(s:At)(σ:St)(H:Hp)(Q:VK),Inv X pins σ H s->t σ H Q ->
  wpAny (model X.prog X.w) X.A (eval a X.env) (λv s₁=>wpAny (model X.prog X.w) X.A (eval b X.env) (λu s₂=>wpAny (model X.prog X.w) X.A (CN op v u) (EP X pins σ Q) X.xe s₂) X.xe s₁) X.xe s
noncomputable def tB(t:TE):TT:=λσ H Q=>t σ H λx H1=>∃c,x=.bl c/\Q c H1
theorem yC{op:CmpOp}{t:TE}(h:PC X op a b t)(h1:D7 op b=false:=by first | exact rZ _ (by decide) (by decide) | rfl):PE X (.Compare a [op] [b] pos) t:=λpins s σ H Q I hw=>wpAny_Compare1 (h pins s σ H Q I hw) h1
theorem r6{op:CmpOp}{t:TE}(h:PC X op a b t)(h1:D7 op b=false:=by first | exact rZ _ (by decide) (by decide) | rfl):PT X (.Compare a [op] [b] pos) (tB t):=by
 intro pins s σ H Q I hw;refine IA (bx (h pins s σ H _ I hw) λv s1 h1=>bx h1 λu s2 h2=>bx h2 λc s3 ⟨x,H1,I1,r1,q1⟩=>?_) h1
 obtain⟨d,rfl,q⟩:=q1;cases r1;exact Em ⟨H1,I1,q⟩
variable{tA tB':TT}{rest:List Expr}
noncomputable def tAnd(t u:TT):TT:=λσ H Q=>t σ H λc H1=>if c=true then u σ H1 Q else Q false H1
noncomputable def B3(t u:TT):TT:=λσ H Q=>t σ H λc H1=>if c=true then Q true H1 else u σ H1 Q
noncomputable def tNot(t:TT):TT:=λσ H Q=>t σ H λc H1=>Q (!c) H1
theorem vo(ha:PT X a tA):PW X (.BoolOp .And [a] pos) tA:=by
 intro wh pins s σ H Q I h;refine isTrue_and (bx (ha pins s σ H Q I h) λc s1 e=>?_)
 cases c with
 |true=>exact isTrue_and_nil e
 |false=>exact e
theorem yD(ha:PT X a tA):PW X (.BoolOp .Or [a] pos) tA:=by
 intro wh pins s σ H Q I h;refine isTrue_or (bx (ha pins s σ H Q I h) λc s1 e=>?_)
 cases c with
 |false=>exact isTrue_or_nil e
 |true=>exact e
theorem yE(ha:PT X a tA)(hb:PW X (.BoolOp .And (b::rest) pos) tB'):PW X (.BoolOp .And (a::b::rest) pos) (tAnd tA tB'):=by
 intro wh pins s σ H Q I h;refine isTrue_and (bx (ha pins s σ H _ I h) λc s1 ⟨H1,I1,q1⟩=>?_)
 cases c with
 |true=>exact hb wh pins s1 σ H1 Q I1 q1
 |false=>exact⟨H1,I1,q1⟩
theorem pw_or(ha:PT X a tA)(hb:PW X (.BoolOp .Or (b::rest) pos) tB'):PW X (.BoolOp .Or (a::b::rest) pos) (B3 tA tB'):=by
 intro wh pins s σ H Q I h;refine isTrue_or (bx (ha pins s σ H _ I h) λc s1 ⟨H1,I1,q1⟩=>?_)
 cases c with
 |true=>exact⟨H1,I1,q1⟩
 |false=>exact hb wh pins s1 σ H1 Q I1 q1
theorem yF(ha:PT X a tA):PT X (.UnaryOp .Not a pos) (tNot tA):=by
 intro pins s σ H Q I h;exact isTrue_not (ha pins s σ H (λc H1=>Q (!c) H1) I h)
noncomputable def tAndV(ta tb:TE):TE:=λσ H Q=>ta σ H λx H1=>∃c,x=.bl c/\if c=true then tb σ H1 Q else Q (.bl false) H1
theorem yG{op}{t:TE}(h:PE X a t):PE X (.BoolOp op [a] pos) t:=λpins s σ H Q I hw=>BoolOp_one (h pins s σ H Q I hw)
theorem yH(ha:PE X a ta)(hb:PE X (.BoolOp .And (b::rest) pos) tb):PE X (.BoolOp .And (a::b::rest) pos) (tAndV ta tb):=by
 intro pins s σ H Q I h;refine BoolOp_and (bx (ha pins s σ H _ I h) λv s1 ⟨x,H1,I1,r1,q1⟩=>?_)
 obtain⟨c,rfl,q1⟩:=q1;cases r1;refine Em ?_;cases c with
 |true=>exact hb pins s1 σ H1 Q I1 q1
 |false=>exact⟨.bl false,H1,I1,rfl,q1⟩
end
end L2
namespace L2
open PySem PySem.Spec PyProof.Rows
def eF(K:AC)(H:Hp)(a:Addr)(xs:List V):Prop :=
 Rd H a (.lst xs) \/
  ∃ (o:Obj) (its:Array Value) (n:Nat),K.lookup a=some o/\o.cls=.type "list"/\o.dict=none/\o.data=.seq its n/\its.size<=C7/\Vals xs its.toList
def dg(K:AC)(H:Hp)(a:Addr)(xs:List V):Prop :=
 Rd H a (.tup xs) \/
  ∃ (o:Obj) (its:Array Value) (n:Nat),K.lookup a=some o/\o.cls=.type "tuple"/\o.data=.seq its n/\its.size<=C7/\Vals xs its.toList
noncomputable def absV:Value->Option V
 |.none=>some .non
 |.bool b=>some (.bl b)
 |.int i _=>some (.int i)
 |.str x _=>some (.str x)
 |.bytes b _=>some (.byt b)
 |.float b _=>some (.flt b)
 |.ref a=>some (.ref a)
 |.type n=>some (.ty n)
 |_=>none
theorem RelV.abs{x:V}{u:Value}(r:RelV x u):absV u=some x:=by
 cases x with
 |non=>cases r; rfl
 |bl _=>cases r; rfl
 |int _=>obtain⟨t,rfl⟩:=r; rfl
 |str _=>obtain⟨t,rfl⟩:=r; rfl
 |byt _=>obtain⟨t,rfl⟩:=r; rfl
 |flt _=>obtain⟨t,rfl⟩:=r; rfl
 |ref _=>cases r; rfl
 |ty _=>cases r; rfl
theorem RelV.inj{x y:V}{u:Value}(r:RelV x u)(q:RelV y u):x=y:=CP (r.abs.symm.trans q.abs)
theorem Vals.inj:∀{xs ys:List V}{us:List Value},Vals xs us->Vals ys us->xs=ys
 |_,_,_,.nil,.nil=>rfl
 |_,_,_,.cons r t,.cons r' t'=>by rw[r.inj r',Vals.inj t t']
section
variable{X:Cx}{pins:List (Addr×Obj)}{σ:St}{H:Hp}{s:At}{a:Addr}{xs ys:List V}
theorem eF.of{K:AC}(h:H a=some (.lst xs)):eF K H a xs:=.inl (.inl h)
theorem dg.of{K:AC}(h:H a=some (.tup xs)):dg K H a xs:=.inl (.inl h)
theorem Inv.list(I:Inv X pins σ H s)(h:eF X.K H a xs):∃its:List Value,Vals xs its/\PlainL s.heap a its.toArray/\xs.length<=C7:=by
 rcases h with h | ⟨o,its,n,hk,hc,hd,hs,hz,r⟩
 ·obtain⟨z,its,n,r,e⟩:=h.ok I.hok
  exact⟨its,r,⟨_,n,e,rfl,rfl,rfl⟩,z⟩
 ·refine⟨its.toList,r,⟨o,n,I.pM a o hk,hc,hd,by simpa using hs⟩,?_⟩
  have e:=r.length;simp only[CT] at e;lia
theorem Inv.tuple(I:Inv X pins σ H s)(h:dg X.K H a xs):∃its:List Value,Vals xs its/\IsTup s.heap a its.toArray/\xs.length<=C7:=by
 rcases h with h | ⟨o,its,n,hk,hc,hs,hz,r⟩
 ·obtain⟨z,its,r,p⟩:=h.ok I.hok
  exact⟨its,r,p,z⟩
 ·refine⟨its.toList,r,⟨o,I.pM a o hk,hc,n,by simpa using hs⟩,?_⟩
  have e:=r.length;simp only[CT] at e;lia
theorem Inv.mw(I:Inv X pins σ H s)(h:eF X.K H a xs)(h':eF X.K H a ys):xs=ys:=by
 obtain⟨its,r,⟨o,n,e,_,_,d⟩,_⟩:=I.list h;obtain⟨its',r',⟨o',n',e',_,_,d'⟩,_⟩:=I.list h';rw[e] at e'; cases e';rw[d] at d'
 injection d' with d1 _
 have:its=its':=by simpa using congrArg Iz d1
 subst this;exact r.inj r'
theorem Inv.kg(I:Inv X pins σ H s)(h:dg X.K H a xs)(h':dg X.K H a ys):xs=ys:=by
 obtain⟨its,r,⟨o,e,_,n,d⟩,_⟩:=I.tuple h;obtain⟨its',r',⟨o',e',_,n',d'⟩,_⟩:=I.tuple h';rw[e] at e'; cases e';rw[d] at d'
 injection d' with d1 _
 have:its=its':=by simpa using congrArg Iz d1
 subst this;exact r.inj r'
end
noncomputable abbrev Cx.jS(X:Cx)(E:Value->At->Prop):Cx:={ X with xe:=E }
noncomputable abbrev Cx.AR(X:Cx):Cx:=X.jS λ_ _=>False
theorem Cx.Ok.jS{X:Cx}(ok:X.Ok)(E:Value->At->Prop):(X.jS E).Ok :=
 ⟨ok.mod,ok.kind,ok.glob,ok.blt,ok.above,ok.inj,ok.has,ok.cab,ok.hd,ok.frames,ok.stk,ok.exf,ok.bs,ok.bsz,ok.noex,ok.exfs,ok.i7,ok.frf⟩
theorem Cx.Ok.fu{X:Cx}{E:Value->At->Prop}(ok:(X.jS E).Ok):X.Ok :=
 ⟨ok.mod,ok.kind,ok.glob,ok.blt,ok.above,ok.inj,ok.has,ok.cab,ok.hd,ok.frames,ok.stk,ok.exf,ok.bs,ok.bsz,ok.noex,ok.exfs,ok.i7,ok.frf⟩
section
variable{X:Cx}{pins:List (Addr×Obj)}{σ:St}{H:Hp}{s:At}{E:Value->At->Prop}
theorem Inv.jS(I:Inv X pins σ H s)(E:Value->At->Prop):Inv (X.jS E) pins σ H s:=⟨I.ok.jS E,I.os,I.bare,I.base,I.loc,I.cell,I.free,I.freeC,I.pin,I.hok,I.len⟩
theorem Inv.fu(I:Inv (X.jS E) pins σ H s):Inv X pins σ H s:=⟨I.ok.fu,I.os,I.bare,I.base,I.loc,I.cell,I.free,I.freeC,I.pin,I.hok,I.len⟩
theorem SP.fu{D:Ends}{f:Flow}{s':At}(h:SP (X.jS E) pins D f s'):SP X pins D f s':=by
 cases f with
 |next=>obtain⟨σ',H',I,q⟩:=h; exact⟨σ',H',I.fu,q⟩
 |brk=>obtain⟨σ',H',I,q⟩:=h; exact⟨σ',H',I.fu,q⟩
 |cont=>obtain⟨σ',H',I,q⟩:=h; exact⟨σ',H',I.fu,q⟩
 |ret u=>obtain⟨v,σ',H',I,r,q⟩:=h; exact⟨v,σ',H',I.fu,r,q⟩
theorem nR.AR{st:List Stmt}{t:TS}(h:nR X.AR st t):nR X st t:=λpins s σ H D I hw=>
 Dl (h pins s σ H D (I.jS _) hw) (λ_ _ q=>q.fu) λ_ _ z=>Dy z
end
section
variable{X:Cx}{st:Stmt}{rest:List Stmt}{t u:TS}{e:Expr}{te:TE}{pos:Pos}
noncomputable def xY:TS:=λD σ H=>D.nx σ H
noncomputable def tSeq(t u:TS):TS:=λD σ H=>t { D with nx:=u D } σ H
theorem vp:nR X [] xY:=λ_ _ σ H _ I h=>FW ⟨σ,H,I,h⟩
theorem r8(h1:PS X st t)(h2:nR X rest u):nR X (st::rest) (tSeq t u):=by
 intro pins s σ H D I h;refine wpAny_execs_cons (bx (h1 pins s σ H { D with nx:=u D } I h) λf s1 q=>?_)
 cases f with
 |next=>
  obtain⟨σ',H',I',q⟩:=q;exact h2 pins s1 σ' H' D I' q
 |ret v=>exact q
 |brk=>exact q
 |cont=>exact q
theorem vq(h1:PS X st t):nR X [st] t:=by
 intro pins s σ H D I h;refine wpAny_execs_cons (bx (h1 pins s σ H D I h) λf s1 q=>?_)
 cases f with
 |next=>exact FW q
 |ret v=>exact q
 |brk=>exact q
 |cont=>exact q
theorem Inv.quiet{pins:List (Addr×Obj)}{σ:St}{H:Hp}{s:At}(I:Inv X pins σ H s):interactive X.env=false:=by simp[interactive,I.ok.kind]
noncomputable def tDrop(te:TE):TS:=λD σ H=>te σ H λ_ H1=>D.nx σ H1
theorem vt(he:PE X e te)(hs:Dh e none pos.line X.env=pure false:=by rfl):PS X (.Expr e pos) (tDrop te):=by
 intro pins s σ H D I h;exact wpAny_Expr_any (bx (he pins s σ H _ I h) λv s1 ⟨x,H1,I1,r1,q1⟩=>⟨σ,H1,I1,q1⟩) I.quiet hs
noncomputable def tRet(te:TE):TS:=λD σ H=>te σ H D.rt
theorem yI(he:PE X e te):PS X (.Return (some e) pos) (tRet te):=by
 intro pins s σ H D I h;exact wpAny_Return_some (bx (he pins s σ H _ I h) λv s1 ⟨x,H1,I1,r1,q1⟩=>⟨x,σ,H1,I1,r1,q1⟩)
noncomputable def tIfS(c:TT)(t u:TS):TS:=λD σ H=>c σ H λb H1=>if b=true then t D σ H1 else u D σ H1
theorem ps_if{c:Expr}{a b:List Stmt}{tc:TT}(hc:PT X c tc)(ha:nR X a t)(hb:nR X b u):PS X (.If c a b pos) (tIfS tc t u):=by
 intro pins s σ H D I h;refine wpAny_If (bx (hc pins s σ H _ I h) λd s1 ⟨H1,I1,q1⟩=>?_)
 cases d with
 |true=>exact ha pins s1 σ H1 D I1 q1
 |false=>exact hb pins s1 σ H1 D I1 q1
end
abbrev TG:=V->St->Hp->(St->Hp->Prop)->Prop
abbrev vz:=List V->St->Hp->(St->Hp->Prop)->Prop
def PG(X:Cx)(target:Expr)(t:TG):Prop :=
 ∀(pins:List (Addr×Obj))(s:At)(σ:St)(H:Hp)(v:V)(u:Value)(Q:St->Hp->Prop),Inv X pins σ H s->RelV v u->t v σ H Q ->
  wpAny (model X.prog X.w) X.A (FQ target X.env u) (λ_ s'=>∃σ' H',Inv X pins σ' H' s'/\Q σ' H') X.xe s
def xZ(X:Cx)(ts:List Expr)(t:vz):Prop :=
 ∀(pins:List (Addr×Obj))(s:At)(σ:St)(H:Hp)(vs:List V)(us:List Value)(Q:St->Hp->Prop),Inv X pins σ H s->Vals vs us->t vs σ H Q ->
  wpAny (model X.prog X.w) X.A (HV ((Dm ts X.env).map (·.2)) us) (λ_ s'=>∃σ' H',Inv X pins σ' H' s'/\Q σ' H') X.xe s
abbrev TSet:=V->V->V->Hp->(Hp->Prop)->Prop
def PSet(X:Cx)(t:TSet):Prop :=
 ∀(pins:List (Addr×Obj))(s:At)(σ:St)(H:Hp)(o i v:V)(ov iv u:Value)(Q:Hp->Prop),Inv X pins σ H s->RelV o ov->RelV i iv->RelV v u->t o i v H Q ->
  wpAny (model X.prog X.w) X.A (setItem ov iv u) (λ_ s'=>∃H',Inv X pins σ H' s'/\Q H') X.xe s
abbrev AS:=V->V->Hp->VK->Prop
def Bx(X:Cx)(op:Fm)(t:AS):Prop :=
 ∀(pins:List (Addr×Obj))(s:At)(σ:St)(H:Hp)(x y:V)(v u:Value)(Q:VK),Inv X pins σ H s->RelV x v->RelV y u->t x y H Q ->
  wpAny (model X.prog X.w) X.A (inplaceOp op v u) (EP X pins σ Q) X.xe s
section
variable{X:Cx}{pos:Pos}
noncomputable def r9(i:Nat):TG:=λv σ H Q=>Q (σ.set i (some v)) H
theorem vD{i:Nat}{x:Str}(hN:X.N.Nodup)(hi:X.N[i]? = some x)(hx:Loc X.env.scope x)(hf:X.fn x=true\/X.env.scope.names.lookup x=some .local:=by first | exact .inl rfl | exact .inr rfl | assumption):PG X (.Name x pos) (r9 i):=by
 intro pins s σ H v u Q I r h;exact wpAny_assign_Name (fq I hN hi hx r (λs' I'=>⟨_,H,I',h⟩) hf)
noncomputable def gNil:vz:=λvs σ H Q=>vs=[]/\Q σ H
noncomputable def gCons(t:TG)(u:vz):vz:=λvs σ H Q=>∃v r,vs=v::r/\t v σ H λσ' H'=>u r σ' H' Q
theorem vF:xZ X [] gNil:=by
 intro pins s σ H vs us Q I r h;obtain⟨e,h⟩:=h;subst e;cases r;exact assignInOrder_nil ⟨σ,H,I,h⟩
theorem se{e:Expr}{es:List Expr}{t:TG}{u:vz}(h1:PG X e t)(h2:xZ X es u)
  (hs:(Dm (e::es) X.env).map (·.2)=FQ e X.env::(Dm es X.env).map (·.2):=by rfl):xZ X (e::es) (gCons t u):=by
 intro pins s σ H vs us Q I r h;obtain⟨v,vr,e1,h⟩:=h;subst e1;cases r with
 |cons r rr=>
  rw[hs];refine GC (bx (h1 pins s σ H _ _ _ I r h) λ_ s1 ⟨σ1,H1,I1,q1⟩=>?_)
  exact h2 pins s1 σ1 H1 _ _ Q I1 rr q1
noncomputable def gTup(K:AC)(n:Nat)(t:vz):TG:=λv σ H Q=>∃a xs,v=.ref a/\dg K H a xs/\xs.length=n/\t xs σ H Q
theorem yJ{es:List Expr}{k:Nat}{t:vz}{n:Nat}(hc:X.calm=true)(h:xZ X es t)
  (hn:(Dm es X.env).length=n:=by rfl) (hst:(Dm es X.env).findIdx? (·.1)=none:=by rfl):PG X (.Tuple es k pos) (gTup X.K n t):=by
 intro pins s σ H v u Q I r hw;obtain⟨a,xs,e1,hq,hl,hw⟩:=hw;subst e1;cases r;obtain⟨its,rv,ht,hz⟩:=I.tuple hq;refine assign_Tuple_tuple (I.ok.hd hc) ht (by simp[hn,<-hl,rv.length]) hst λh' hx=>?_
 have I1:Inv X pins σ H { s with heap:=h' }:=I.kept (t':=s.toks) λb o e=>hx b o (CF (C6 e)) e
 exact h pins _ σ H xs _ Q I1 (by simpa using rv) hw
noncomputable def qI(to ti:TE)(t:TSet):TG:=λv σ H Q=>to σ H λo H1=>ti σ H1 λi H2=>t o i v H2 λH3=>Q σ H3
theorem sf{o i:Expr}{to ti:TE}{t:TSet}(ho:PE X o to)(hi:PE X i ti)(hs:PSet X t)
  (ha:∀v,FQ (.Subscript o i pos) X.env v=(do
   let ov <-En [v] (eval o X.env)
   let iv <-En [v,ov] (eval i X.env)
   FP pos
   En [v,ov,iv] (setItem ov iv v)
   release [v,ov,iv] []):=by intro _; rfl):PG X (.Subscript o i pos) (qI to ti t):=by
 intro pins s σ H v u Q I r h;rw[ha];refine Ap (DX (bx (ho pins s σ H _ I h) λov s1 ⟨x,H1,I1,r1,q1⟩=>?_))
 refine Ap (DX (bx (hi pins s1 σ H1 _ I1 q1) λiv s2 ⟨y,H2,I2,r2,q2⟩=>?_))
 refine Ap (E8 (Ap (DX (bx (hs pins s2 σ H2 x y v ov iv u _ I2 r1 r2 r q2) λ_ s3 ⟨H3,I3,q3⟩=>?_))))
 exact wpAny_release ⟨σ,H3,I3,q3⟩
noncomputable def jT(te:TE)(g:TG):TS:=λD σ H=>te σ H λx H1=>g x σ H1 D.nx
theorem kY{tg e:Expr}{te:TE}{g:TG}(he:PE X e te)(hg:PG X tg g)(hs:Fv [tg] e pos.line X.env=pure false:=by rfl)(hw:Fw [tg] e X.env=pure none:=by rfl)
  (h1:(Dm [tg] X.env).map (·.2)=[FQ tg X.env]:=by rfl):PS X (.Assign [tg] e pos) (jT te g):=by
 intro pins s σ H D I h;refine wpAny_Assign_stores (bx (he pins s σ H _ I h) λv s1 ⟨x,H1,I1,r1,q1⟩=>?_) hs hw
 rw[h1];exact bx (hg pins s1 σ H1 x v _ I1 r1 q1) λ_ s2 q=>q
theorem yK{i:Nat}{x:Str}{e:Expr}{te:TE}{pos':Pos}(hN:X.N.Nodup)(hi:X.N[i]? = some x)(hx:Loc X.env.scope x)(he:PE X e te)(hs:Dh e (some (.Name x pos')) pos.line X.env=pure false:=by rfl)(hf:X.fn x=true\/X.env.scope.names.lookup x=some .local:=by first | exact .inl rfl | exact .inr rfl | assumption) :
  PS X (.Assign [.Name x pos'] e pos) (jT te (r9 i)):=by
 intro pins s σ H D I h;refine wpAny_Assign_Name (bx (he pins s σ H _ I h) λv s1 ⟨y,H1,I1,r1,q1⟩=>?_) hs
 exact fq I1 hN hi hx r1 (λs2 I2=>⟨_,H1,I2,q1⟩) hf
noncomputable def tPar(i j:Nat)(ta:TA):TS:=λD σ H=>ta σ H λvs H1=>∃v w,vs=[v,w]/\D.nx ((σ.set i (some v)).set j (some w)) H1
theorem sj{i j:Nat}{x y:Str}{a b:Expr}{ta:TA}{px py pt:Pos}{kt k2 pt2}(hc:X.calm=true)(hN:X.N.Nodup)(hi:X.N[i]? = some x)(hj:X.N[j]? = some y)(hij:i≠j)
  (hx:X.env.scope.names.lookup x=some .local) (hy:X.env.scope.names.lookup y=some .local) (ha:PA X [a,b] ta)
  (hw:Fw [.Tuple [.Name x px,.Name y py] kt pt] (.Tuple [a,b] k2 pt2) X.env=pure (some [x,y]))
  (hs:Fv [.Tuple [.Name x px,.Name y py] kt pt] (.Tuple [a,b] k2 pt2) pos.line X.env=pure false:=by rfl) :
  PS X (.Assign [.Tuple [.Name x px,.Name y py] kt pt] (.Tuple [a,b] k2 pt2) pos) (tPar i j ta):=by
 intro pins s σ H D I h;rw[exec_Assign_arm];refine Ap (E8 ?_);rw[hs];refine Ap (B2 ?_);rw[if_neg (by decide)]
 refine Ap (Tuple_ (bx (ha _ pins s σ H _ I h) λus s1 ⟨vs,H1,I1,r1,q1⟩=>?_))
 obtain⟨v,w,e1,q1⟩:=q1;subst e1;obtain⟨u1,u2,rfl,rv,rw'⟩:∃u1 u2,us=[u1,u2]/\RelV v u1/\RelV w u2:=by
  cases r1 with
  |cons p q=>
   cases q with
   |cons p' q' =>
    cases q';exact⟨_,_,rfl,p,p'⟩
 refine Cv ?_ (by show 2<=C7; decide)
 have I2:Inv X pins σ H1 { s1 with heap:=s1.heap.push { cls:=.type "tuple",data:=.seq [u1,u2].toArray } }:=I1.kept (t':=s1.toks) λb o e=>Bz _ e
 rw[hw];refine Ap (B2 ?_);show wpAny (model X.prog X.w) X.A (do rule "assign.swapped-stores"; let items <-unpackItems (.ref s1.heap.objs.size) 2 none; HV [λv=>IP X.env y v,λv=>IP X.env x v] items.reverse; pure Flow.next) _ _ _
 refine Ap (Eg (Ap (unpackItems_tuple (items:=#[u1,u2]) (I.ok.hd hc) (Go s1.heap _) λh' hx' =>?_)))
 have I3:=I2.kept (h':=h') (t':=s1.toks) λb o e=>hx' b o (CF (C6 e)) e
 show wpAny _ _ (HV [λv=>IP X.env y v,λv=>IP X.env x v] [u2,u1] >>= λ_=>pure Flow.next) _ _ _
 refine Ap (GC (wpAny_bindName (fq I3 hN hj (.inl hy) rw' (λs2 I4=>?_) (.inr hy))))
 refine GC (wpAny_bindName (fq I4 hN hi (.inl hx) rv (λs3 I5=>assignInOrder_nil (B2 ?_)) (.inr hx)))
 rw[List.set_comm _ _ (Dx hij)] at I5;exact⟨_,H1,I5,q1⟩
noncomputable def tAug(i:Nat)(te:TE)(ti:AS):TS:=λD σ H=>∃x,σ[i]? = some (some x)/\te σ H λy H1=>ti x y H1 λz H2=>D.nx (σ.set i (some z)) H2
theorem yL{i:Nat}{x:Str}{e:Expr}{te:TE}{op:Fm}{ti:AS}{pos':Pos}(hN:X.N.Nodup)(hi:X.N[i]? = some x)(hx:Loc X.env.scope x)(he:PE X e te)(ho:Bx X op ti)(hf:X.fn x=true\/X.env.scope.names.lookup x=some .local:=by first | exact .inl rfl | exact .inr rfl | assumption) :
  PS X (.AugAssign (.Name x pos') op e pos) (tAug i te ti):=by
 intro pins s σ H D I h;obtain⟨v,e1,h⟩:=h;obtain⟨m,hn,hl⟩:=I.loc;have vis:xX X.env.scope x:=by rcases hx with k | k; exact .inl k; exact .inr (.inl k)
 obtain⟨u,r,l⟩:=hl i x v hi e1 vis;refine wpAny_AugAssign_Name ?_;have go:wpAny (model X.prog X.w) X.A (eval e X.env) (λw s₂=>wpAny (model X.prog X.w) X.A (inplaceOp op u w) (λr s₃=>wpAny (model X.prog X.w) X.A (storeName X.env x r) (λ_=>SP X pins D .next) X.xe s₃) X.xe s₂) X.xe s:=by
  refine bx (he pins s σ H _ I h) λw s1 ⟨y,H1,I1,r1,q1⟩=>?_
  refine bx (ho pins s1 σ H1 v y u w _ I1 r r1 q1) λz s2 ⟨zv,H2,I2,r2,q2⟩=>?_
  exact fq I2 hN hi hx r2 (λs3 I3=>⟨_,H2,I3,q2⟩) hf
 rcases l with⟨hk,hm⟩ | ⟨hk,c,hc,hcell⟩
 ·exact IK I.ok.kind hk hn hm go
 ·rcases hk with hk | hk
  ·exact IW I.ok.kind hk hc hcell go
  ·rcases hx with k | k
   ·have:X.env.scope.names.lookup x=some .free:=hk
    rw[k] at this; cases this
   ·have:X.env.scope.names.lookup x=some .free:=hk
    rw[k] at this; cases this
noncomputable def B4(f:Int->Int->Int):AS:=λx y H Q=>∃i j,x=.int i/\y=.int j/\Q (.int (f i j)) H
theorem yM:Bx X .Add (B4 λi j=>i+j):=by
 intro pins s σ H x y v u Q I r1 r2 h;obtain⟨i,j,e1,e2,q⟩:=h;subst e1; subst e2;obtain⟨t,rfl⟩:=r1;obtain⟨t',rfl⟩:=r2;exact iadd_int ⟨.int _,H,I.tok _,⟨_,rfl⟩,q⟩
end
section
variable{X:Cx}{pos:Pos}
noncomputable def sr(c:TT)(tb:TS):TS:=λD σ H=>∃W:Nat->St->Hp->Prop,(∃m,W m σ H)/\∀m σ H,W m σ H ->
 c σ H λb H1=>if b=true then ∃N:St->Hp->Prop,(∀σ' H',N σ' H'->∃m',m'<m/\W m' σ' H')/\tb { D with nx:=N,ct:=N,bk:=D.nx } σ H1 else D.nx σ H1
theorem su{c:Expr}{body:List Stmt}{tc:TT}{tb:TS}(hp:Fp (model X.prog X.w) X.A X.env X.xe)(hc:PT X c tc)(hb:nR X body tb):PS X (.While c body [] pos) (sr tc tb):=by
 intro pins s σ H D I h;obtain⟨W,⟨m0,w0⟩,turn⟩:=h;refine wpAny_While (codeAny_whileLoop (λn s'=>∃σ' H',Inv X pins σ' H' s'/\W n σ' H') ?_ m0 ⟨σ,H,I,w0⟩)
 rintro n s1 ⟨σ1,H1,I1,w1⟩;refine Dw hp (bx (hc pins s1 σ1 H1 _ I1 (turn n σ1 H1 w1)) λb s2 ⟨H2,I2,q2⟩=>?_)
 cases b with
 |true=>
  obtain⟨N,hN,q2⟩:=q2;rw[if_pos rfl];refine Dw hp (bx (hb pins s2 σ1 H2 _ I2 q2) λf s3 q3=>?_)
  cases f with
  |next=>
   obtain⟨σ3,H3,I3,n3⟩:=q3;obtain⟨m',hm,w3⟩:=hN σ3 H3 n3;exact⟨m',hm,σ3,H3,I3,w3⟩
  |cont=>
   obtain⟨σ3,H3,I3,n3⟩:=q3;obtain⟨m',hm,w3⟩:=hN σ3 H3 n3;exact⟨m',hm,σ3,H3,I3,w3⟩
  |brk=>exact q3
  |ret v=>exact q3
 |false=>
  rw[if_neg DJ];exact FW ⟨σ1,H2,I2,q2⟩
end
structure It where
 go:Nat->Hp->Prop
 yld:Nat->Hp->V->Hp->Prop
 stop:Nat->Hp->Prop
def iL(X:Cx)(pins:List (Addr×Obj))(H:Hp)(b:Addr):Prop :=
 H b=none/\b≠X.env.locals/\b∉X.fs/\(b∈X.ex\/X.s₀.heap.objs.size<=b)/\(∀x c,X.env.cells.lookup x=some c->c≠b)/\∀p∈X.pn++pins,p.1≠b
theorem Inv.fpOk{X:Cx}{pins:List (Addr×Obj)}{σ:St}{H H':Hp}{s:At}{b:Addr}(I:Inv X pins σ H s)(hb:s.heap.objs.size<=b)(hn:H' b=none):iL X pins H' b:=by
 refine⟨hn,Ew (CD I.lt hb),I.nofs hb,.inr (DB I.sz hb),λx c e z=>?_,λp hp z=>?_⟩
 ·obtain⟨v,q⟩:=I.cell x c e
  exact absurd (CD q.lt (by rw[z]; exact hb)) (Ds _)
 ·exact absurd (CD (C6 (I.pin p hp).1) (by rw[z]; exact hb)) (Ds _)
structure Turn(P:CH)(w:World)(K:AC)(tg:Expr)(J:It)(fp:List Addr)(it:Addr)(tn:Nat->Heap->Prop):Prop where
 mem:it∈fp
 obj:∀i h,tn i h->∀b∈fp,∃o,h.get? b=some o/\∀v,o.data≠.cell v
 keep:∀i h h',tn i h->(∀b∈fp,∀o,h.get? b=some o->h'.get? b=some o)->tn i h'
 item:∀(X:Cx),X.prog=P->X.w=w->X.K=K->X.calm=true->∀(i:Nat)(pins:List (Addr×Obj))(s:At)(σ:St)(H:Hp)(E:Value->At->Prop),Inv X pins σ H s->(∀b∈fp,iL X pins H b)->tn i s.heap->J.go i H ->
  wpAny (model P w) X.A (Ik (.ref it)) (λr s1=>∃u,r=some u /\
   wpAny (model P w) X.A (FX tg (.ref it) u) (λ_ s2=>∃x H',Inv X pins σ H' s2/\RelV x u/\J.yld i H x H'/\tn (i+1) s2.heap/\∀b∈fp,H' b=none) E s1) E s
 done:∀(X:Cx),X.prog=P->X.w=w->X.K=K->X.calm=true->∀(i:Nat)(pins:List (Addr×Obj))(s:At)(σ:St)(H:Hp)(E:Value->At->Prop),Inv X pins σ H s->(∀b∈fp,iL X pins H b)->tn i s.heap->J.stop i H ->
  wpAny (model P w) X.A (Ik (.ref it)) (λr s1=>r=none/\Inv X pins σ H s1) E s
 self:∀(A:Cw)(i:Nat)(s:At)(Q:Value->At->Prop)(E:Value->At->Prop),tn i s.heap->Q (.ref it) s->wpAny (model P w) A (HC (.ref it)) Q E s
abbrev TI:=St->Hp->(It->Hp->Prop)->Prop
def B5(X:Cx)(pins:List (Addr×Obj))(σ:St)(tg:Expr)(R:It->Hp->Prop)(itv:Value)(s2:At):Prop :=
 ∃ (it:Addr) (fp:List Addr) (tn:Nat->Heap->Prop) (J:It) (H':Hp),itv=.ref it/\Inv X pins σ H' s2/\Turn X.prog X.w X.K tg J fp it tn/\tn 0 s2.heap/\(∀b∈fp,iL X pins H' b)/\R J H'
def PI(X:Cx)(tg iter:Expr)(wi:TI):Prop :=
 ∀(pins:List (Addr×Obj))(s:At)(σ:St)(H:Hp)(R:It->Hp->Prop),Inv X pins σ H s->wi σ H R ->
  wpAny (model X.prog X.w) X.A (eval iter X.env) (λv s1=>wpAny (model X.prog X.w) X.A (HC v) (B5 X pins σ tg R) X.xe s1) X.xe s
theorem sy{M:Model}{A:Cw}{E:Value->At->Prop}{s:At}{tg:Expr}{it:Addr}{u:Value}{o:Obj}{n:String}{vs:Array Value}{Q:Unit->At->Prop}(ho:s.heap.get? it=some o)(hc:o.cls=.type n)(hd:o.data=.fields vs)
    (hn:["enumerate", "zip", "dict_itemiterator", "dict_reverseitemiterator", "odict_iterator", "itertools.zip_longest", "itertools.pairwise"].contains n=false) (hQ:Q () s):wpAny M A (FX tg (.ref it) u) Q E s:=by
  unfold FX;cases tg <;> first
    |exact B2 hQ
    |(cases u <;> first
        |exact B2 hQ
        |(refine Ap (Ii ho ?_)
          rw[hc,hd];show wpAny M A (if (["enumerate", "zip", "dict_itemiterator", "dict_reverseitemiterator", "odict_iterator", "itertools.zip_longest", "itertools.pairwise"].contains n && vs[0]? == some (Hl _))=true then _ else _) Q E s
          rw[if_neg (by intro h; rw[hn,Bool.false_and] at h; cases h)]
          exact B2 hQ))
noncomputable def By(K:AC)(a:Addr):It :=
 ⟨λi H=>∃xs x,eF K H a xs/\xs[i]? = some x,λi H x H'=>H'=H/\∀xs,eF K H a xs->xs[i]? = some x,λi H=>∃xs,eF K H a xs/\xs.length<=i⟩
noncomputable def BO(K:AC)(a:Addr):It :=
 ⟨λi H=>∃xs x,dg K H a xs/\xs[i]? = some x,λi H x H'=>H'=H/\∀xs,dg K H a xs->xs[i]? = some x,λi H=>∃xs,dg K H a xs/\xs.length<=i⟩
noncomputable def BA(lo:Int)(n:Nat):It:=⟨λi _=>i<n,λi H x H'=>H'=H/\x=.int (lo+i),λi _=>n<=i⟩
theorem qJ{P:CH}{w:World}{K:AC}{tg:Expr}(a it:Addr):Turn P w K tg (By K a) [it] it (λi h=>h.IsListIter it a i) where
 mem:=by simp
 obj:=λi h st b hb=>by
  have e:b=it:=by simpa using hb
  subst e;obtain⟨o,e,c,d⟩:=st;exact⟨o,e,λv z=>by rw[d] at z; cases z⟩
 keep:=λi h h' st k=>st.at λo e=>k it (by simp) o e
 item:=by
  intro X hP hw hK hc i pins s σ H E I hf st hg;subst hP hw hK;obtain⟨xs,x,hq,hx⟩:=hg;obtain⟨its,rv,p,hz⟩:=I.list hq;obtain⟨u,hu,ru⟩:=rv.get hx;obtain⟨f0,f1,f2,f3,f4,f5⟩:=hf it (by simp)
  refine wpAny_pyNext_list_item st p.isList (x:=u) (by simpa using hu) λh' st' sb=>?_
  have I1:Inv X pins σ H { s with heap:=h' }:=I.turned (t':=s.toks) (λb o hb e=>(sb.2 b hb).trans e) f0 f1 f3 f4 f5
  obtain⟨o,e,c,d⟩:=id st';exact⟨u,rfl,sy (s:={ s with heap:=h' }) e c d (by decide) ⟨x,H,I1,ru,⟨rfl,λys hy=>by rw[I.mw hy hq]; exact hx⟩,st',λb hb=>(hf b hb).1⟩⟩
 done:=by
  intro X hP hw hK hc i pins s σ H E I hf st hg;subst hP hw hK;obtain⟨xs,hq,hx⟩:=hg;obtain⟨its,rv,p,hz⟩:=I.list hq;obtain⟨f0,f1,f2,f3,f4,f5⟩:=hf it (by simp)
  have hl:=rv.length;exact wpAny_pyNext_list_end (I.ok.hd hc) st p.isList (by simp; lia) λh' eb=>⟨rfl,I.turned (t':=s.toks) (λb o hb e=>eb b o hb e) f0 f1 f3 f4 f5⟩
 self:=λ_ _ _ _ _ st h=>wpAny_pyIter_listiter st h
theorem nT{P:CH}{w:World}{K:AC}{tg:Expr}(a it:Addr):Turn P w K tg (BO K a) [it] it (λi h=>h.IsTupleIter it a i) where
 mem:=by simp
 obj:=λi h st b hb=>by
  have e:b=it:=by simpa using hb
  subst e;obtain⟨o,e,c,d⟩:=st;exact⟨o,e,λv z=>by rw[d] at z; cases z⟩
 keep:=λi h h' st k=>st.at λo e=>k it (by simp) o e
 item:=by
  intro X hP hw hK hc i pins s σ H E I hf st hg;subst hP hw hK;obtain⟨xs,x,hq,hx⟩:=hg;obtain⟨its,rv,p,hz⟩:=I.tuple hq;obtain⟨u,hu,ru⟩:=rv.get hx;obtain⟨f0,f1,f2,f3,f4,f5⟩:=hf it (by simp)
  refine wpAny_pyNext_tuple_item st (show s.heap.IsTuple a its.toArray from p) (x:=u) (by simpa using hu) λh' st' sb=>?_
  have I1:Inv X pins σ H { s with heap:=h' }:=I.turned (t':=s.toks) (λb o hb e=>(sb.2 b hb).trans e) f0 f1 f3 f4 f5
  obtain⟨o,e,c,d⟩:=id st';exact⟨u,rfl,sy (s:={ s with heap:=h' }) e c d (by decide) ⟨x,H,I1,ru,⟨rfl,λys hy=>by rw[I.kg hy hq]; exact hx⟩,st',λb hb=>(hf b hb).1⟩⟩
 done:=by
  intro X hP hw hK hc i pins s σ H E I hf st hg;subst hP hw hK;obtain⟨xs,hq,hx⟩:=hg;obtain⟨its,rv,p,hz⟩:=I.tuple hq;obtain⟨f0,f1,f2,f3,f4,f5⟩:=hf it (by simp)
  have hl:=rv.length;exact wpAny_pyNext_tuple_end (I.ok.hd hc) st (show s.heap.IsTuple a its.toArray from p) (by simp; lia) λh' eb=>⟨rfl,I.turned (t':=s.toks) (λb o hb e=>eb b o hb e) f0 f1 f3 f4 f5⟩
 self:=λ_ _ _ _ _ st h=>wpAny_pyIter_tupleiter st h
theorem nU{P:CH}{w:World}{K:AC}{tg:Expr}(it:Addr)(lo:Int)(n:Nat):Turn P w K tg (BA lo n) [it] it (λi h=>IsRangeIter h it (lo+(i:Nat)*1) ((n:Int)-(i:Nat)) 1) where
 mem:=by simp
 obj:=λi h st b hb=>by
  have e:b=it:=by simpa using hb
  subst e;exact⟨_,st,λv z=>by
   have z':Data.fields _=Data.cell v:=z;cases z'⟩
 keep:=λi h h' st k=>k it (by simp) _ st
 item:=by
  intro X hP hw hK hc i pins s σ H E I hf st hg;subst hP hw hK;obtain⟨f0,f1,f2,f3,f4,f5⟩:=hf it (by simp)
  have W:=Walks.range (prog:=X.prog) (w:=X.w) (I.ok.hd hc) it lo 1 n;refine W.item i s _ _ hg st λv h' tk hv st' kk=>?_
  obtain⟨t,rfl⟩:=hv;have I1:Inv X pins σ H { s with heap:=h',toks:=tk }:=I.turned (λb o hb e=>kk b o (by simpa using hb) e) f0 f1 f3 f4 f5
  refine⟨_,rfl,sy (s:={ s with heap:=h',toks:=tk }) (n := "range_iterator") st' rfl rfl (by decide) ⟨.int (lo+i),H,I1,⟨t,?_⟩,⟨rfl,rfl⟩,st',λb hb=>(hf b hb).1⟩⟩
  rw[Int.mul_one]
 done:=by
  intro X hP hw hK hc i pins s σ H E I hf st hg;subst hP hw hK;obtain⟨f0,f1,f2,f3,f4,f5⟩:=hf it (by simp)
  exact wpAny_pyNext_range_end (I.ok.hd hc) st (by have:n<=i:=hg; lia) λh' eb=>⟨rfl,I.turned (t':=s.toks) (λb o hb e=>eb b o hb e) f0 f1 f3 f4 f5⟩
 self:=λ_ _ _ _ _ st h=>wpAny_pyIter_rangeiter st h
end L2
namespace L2
open PySem PySem.Spec PyProof.Rows
section
variable{X:Cx}{tg:Expr}
noncomputable def sD(K:AC)(tl:TE):TI:=λσ H R=>tl σ H λx H1=>∃a,x=.ref a/\(∃xs,eF K H1 a xs)/\R (By K a) H1
noncomputable def iTup(K:AC)(tl:TE):TI:=λσ H R=>tl σ H λx H1=>∃a,x=.ref a/\(∃xs,dg K H1 a xs)/\R (BO K a) H1
theorem pP{l:Expr}{tl:TE}(hl:PE X l tl):PI X tg l (sD X.K tl):=by
 intro pins s σ H R I h;refine bx (hl pins s σ H _ I h) λv s1 ⟨x,H1,I1,r1,q1⟩=>?_
 obtain⟨a,e,⟨xs,hq⟩,q⟩:=q1;subst e;cases r1;obtain⟨its,rv,p,hz⟩:=I1.list hq;refine wpAny_pyIter_list p.isList ?_;refine⟨s1.heap.objs.size,[s1.heap.objs.size],_,_,H1,rfl,I1.kept (t':=s1.toks) λb o e=>Bz _ e,qJ a _,⟨_,CA _ rfl,rfl,rfl⟩,λb hb=>?_,q⟩
 have e:b=s1.heap.objs.size:=by simpa using hb
 subst e;exact I1.fpOk (C1 _) (I1.hok.fresh (C1 _))
theorem yN{l:Expr}{tl:TE}(hl:PE X l tl):PI X tg l (iTup X.K tl):=by
 intro pins s σ H R I h;refine bx (hl pins s σ H _ I h) λv s1 ⟨x,H1,I1,r1,q1⟩=>?_
 obtain⟨a,e,⟨xs,hq⟩,q⟩:=q1;subst e;cases r1;obtain⟨its,rv,p,hz⟩:=I1.tuple hq;refine G6 (show s1.heap.IsTuple a its.toArray from p) ?_
 refine⟨s1.heap.objs.size,[s1.heap.objs.size],_,_,H1,rfl,I1.kept (t':=s1.toks) λb o e=>Bz _ e,nT a _,⟨_,CA _ rfl,rfl,rfl⟩,λb hb=>?_,q⟩
 have e:b=s1.heap.objs.size:=by simpa using hb
 subst e;exact I1.fpOk (C1 _) (I1.hok.fresh (C1 _))
theorem sE{pins:List (Addr×Obj)}{σ:St}{H:Hp}{s:At}{R:It->Hp->Prop}{E:Value->At->Prop}{lo hi:Int}{t u v:Tok}{tk:Nat}(I:Inv X pins σ H s)(h1 : -(2 ^ 62)<=lo)(h2:lo<2 ^ 62)(h3 : -(2 ^ 62)<=hi)(h4:hi<2 ^ 62)
  (q:R (BA lo (hi-lo).toNat) H):wpAny (model X.prog X.w) X.A (HC (.ref s.heap.objs.size)) (B5 X pins σ tg R) E { s with heap:=s.heap.push { cls:=.type "range",data:=.fields #[.int lo t,.int hi u,.int 1 v] },toks:=tk }:=by
 refine wpAny_pyIter_range (IsRange.new ..) (small_one h1 h2 h3 h4) ?_;have I1:Inv X pins σ H { s with heap:=s.heap.push { cls:=.type "range",data:=.fields #[.int lo t,.int hi u,.int 1 v] },toks:=tk }:=I.kept λb o e=>Bz _ e
 refine⟨(s.heap.push { cls:=.type "range",data:=.fields #[.int lo t,.int hi u,.int 1 v] }).objs.size,[(s.heap.push { cls:=.type "range",data:=.fields #[.int lo t,.int hi u,.int 1 v] }).objs.size],_,_,H,rfl,
  I1.kept (t':=tk) λb o e=>Bz _ e,nU _ lo (hi-lo).toNat,?_,λb hb=>?_,q⟩
 ·have e1:lo+((0:Nat):Int)*1=lo:=by simp
  have e2:(((hi-lo).toNat:Nat):Int)-((0:Nat):Int)=Builtin.Range.rangeSize lo hi 1:=by rw[rangeSize_one]; split <;> lia
  show IsRangeIter _ _ (lo+((0:Nat):Int)*1) ((((hi-lo).toNat:Nat):Int)-((0:Nat):Int)) 1;rw[e1,e2];exact CA _ rfl
 ·have e:b=(s.heap.push { cls:=.type "range",data:=.fields #[.int lo t,.int hi u,.int 1 v] }).objs.size:=by simpa using hb
  subst e;exact I1.fpOk (C1 _) (I1.hok.fresh (C1 _))
noncomputable def iRng1(ta:TA):TI:=λσ H R=>ta σ H λvs H1=>∃j:Int,vs=[.int j]/\-(2 ^ 62)<=j/\j<2 ^ 62/\R (BA 0 j.toNat) H1
theorem qK{a:Expr}{ta:TA}{p pos:Pos}(hg:Gl X "range")(hm:X.mg "range" = none)(ha:PA X [a] ta)(hs:C9 [a] X.env=[(false,eval a X.env)]:=by rfl):PI X tg (.Call (.Name "range" p) [a] [] pos) (iRng1 ta):=by
 intro pins s σ H R I h;refine Call_ (i9 I hg hm boot_range (EG (bx (ha pos pins s σ H _ I h) λus s1 ⟨vs,H1,I1,r1,q1⟩=>?_) hs rfl))
 obtain⟨j,e,q1,q2,q⟩:=q1;subst e;cases r1 with
 |cons r rr=>
  cases rr;obtain⟨t,rfl⟩:=r;exact call_range_1 (sE I1 (by lia) (by lia) q1 q2 (by simpa using q))
noncomputable def tFor(wi:TI)(g:TG)(tb:TS):TS:=λD σ H=>wi σ H λJ H1=>∃W:Nat->Nat->St->Hp->Prop,(∃m,W 0 m σ H1)/\∀i m σ H,W i m σ H ->
 (J.stop i H/\D.nx σ H)\/(J.go i H/\∃N:St->Hp->Prop,(∀σ' H',N σ' H'->∃m',m'<m/\W (i+1) m' σ' H')/\∀x H',J.yld i H x H'->g x σ H' λσ2 H2=>tb { D with nx:=N,ct:=N,bk:=D.nx } σ2 H2)
noncomputable def ja(fp:List Addr)(h:Heap):List (Addr×Obj):=fp.filterMap λb=>(h.get? b).map λo=>(b,o)
theorem eL{fp:List Addr}{h:Heap}{b:Addr}{o:Obj}(hb:b∈fp)(e:h.get? b=some o):(b,o)∈ja fp h:=Fi.mpr ⟨b,hb,by rw[e]; rfl⟩
theorem qL{fp:List Addr}{h:Heap}{p:Addr×Obj}(hp:p∈ja fp h):p.1∈fp/\h.get? p.1=some p.2:=by
 obtain⟨b,hb,e⟩:=Fi.mp hp;cases q:h.get? b with
 |none=>rw[q] at e; cases e
 |some o=>
  rw[q] at e;have e':(b,o)=p:=CP e;subst e';exact⟨hb,q⟩
theorem Inv.pinned{pins:List (Addr×Obj)}{σ:St}{H:Hp}{s:At}{fp:List Addr}(I:Inv X pins σ H s)(hf:∀b∈fp,iL X pins H b)(ho:∀b∈fp,∃o,s.heap.get? b=some o/\∀v,o.data≠.cell v):Inv X (pins++ja fp s.heap) σ H s :=
 I.pO λp hp=>(lM hp).elim (λz=>I.pin p (lR _ z)) λz=>by
  obtain⟨hb,e⟩:=qL z;obtain⟨f0,f1,f2,_⟩:=hf p.1 hb;obtain⟨o,e',d⟩:=ho p.1 hb;rw[e] at e'; cases e';exact⟨e,f0,f1,f2,d⟩
theorem Inv.gM{pins pl:List (Addr×Obj)}{σ:St}{H:Hp}{s:At}(I:Inv X (pins++pl) σ H s):Inv X pins σ H s:=I.pO λp hp=>I.pin p (lR _ (lL _ hp))
theorem yO{iter:Expr}{body:List Stmt}{wi:TI}{g:TG}{tb:TS}{pos:Pos}(hp:Fp (model X.prog X.w) X.A X.env X.xe)(hc:X.calm=true)(hi:PI X tg iter wi)(hg:PG X tg g)(hb:nR X body tb)
  (hs:∀x,CS iter X.env x=pure x:=by intro _; rfl):PS X (.For tg iter body [] pos) (tFor wi g tb):=by
 intro pins s σ H D I h;refine wpAny_For (bx (hi pins s σ H _ I h) λv s1 h1=>bx h1 λitv s2 h2=>?_) hs
 obtain⟨it,fp,tn,J,H2,e,I2,T,st2,f2,W,⟨m0,w0⟩,turn⟩:=h2;subst e;have stat:∀{H':Hp},(∀b∈fp,H' b=none)->∀b∈fp,iL X pins H' b:=λhn b hb=>⟨hn b hb,(f2 b hb).2⟩
 refine codeAny_forLoop_any (λn s'=>∃i σ' H',Inv X pins σ' H' s'/\tn i s'.heap/\(∀b∈fp,H' b=none)/\W i n σ' H') ?_ m0 ⟨0,σ,H2,I2,st2,λb hb=>(f2 b hb).1,w0⟩
 rintro n s3 ⟨i,σ3,H3,I3,st3,fr3,w3⟩;rcases turn i n σ3 H3 w3 with⟨stop,qn⟩ | ⟨go,N,hN,step⟩
 ·refine Dw hp (bx (T.done X rfl rfl rfl hc i pins s3 σ3 H3 X.xe I3 (stat fr3) st3 stop) λr s4 ⟨hr,I4⟩=>?_)
  subst hr;exact FW ⟨σ3,H3,I4,qn⟩
 ·refine Dw hp (bx (T.item X rfl rfl rfl hc i pins s3 σ3 H3 X.xe I3 (stat fr3) st3 go) λr s4 ⟨u,hr,h4⟩=>?_)
  subst hr;refine Dw hp (bx h4 λ_ s5 ⟨x,H5,I5,r5,y5,st5,fr5⟩=>?_)
  have I5':=I5.pinned (stat fr5) (T.obj _ _ st5);refine Dw hp (bx (hg _ s5 σ3 H5 x u _ I5' r5 (step x H5 y5)) λ_ s6 ⟨σ6,H6,I6,q6⟩=>?_)
  refine Dw hp (bx (hb _ s6 σ6 H6 _ I6 q6) λf s7 q7=>?_)
  have again:∀{σ7:St}{H7:Hp},Inv X (pins++ja fp s5.heap) σ7 H7 s7->N σ7 H7->∃m,m<n/\∃i σ' H',Inv X pins σ' H' s7/\tn i s7.heap/\(∀b∈fp,H' b=none)/\W i m σ' H':=λ{σ7 H7}I7 n7=>by
   obtain⟨m',hm,w7⟩:=hN σ7 H7 n7;refine⟨m',hm,i+1,σ7,H7,I7.gM,T.keep _ _ _ st5 λb hb o e=>(I7.pin (b,o) (lR _ (lR _ (eL hb e)))).1,λb hb=>?_,w7⟩
   obtain⟨o,e,d⟩:=T.obj _ _ st5 b hb;exact(I7.pin (b,o) (lR _ (lR _ (eL hb e)))).2.1
  cases f with
  |next=>obtain⟨σ7,H7,I7,n7⟩:=q7; exact again I7 n7
  |cont=>obtain⟨σ7,H7,I7,n7⟩:=q7; exact again I7 n7
  |brk=>obtain⟨σ7,H7,I7,q7⟩:=q7; exact⟨σ7,H7,I7.gM,q7⟩
  |ret v=>obtain⟨x7,σ7,H7,I7,r7,q7⟩:=q7; exact⟨x7,σ7,H7,I7.gM,r7,q7⟩
end
end L2
namespace L2
open PySem PySem.Spec PyProof.Rows
abbrev R2:=V->V->Hp->VK->Prop
def cH(X:Cx)(f:Value->Value->Sem Value)(r:R2):Prop :=
 ∀(pins:List (Addr×Obj))(s:At)(σ:St)(H:Hp)(x y:V)(v u:Value)(Q:VK),Inv X pins σ H s->RelV x v->RelV y u->r x y H Q ->
  wpAny (model X.prog X.w) X.A (f v u) (EP X pins σ Q) X.xe s
def BP(X:Cx)(f:Value->Sem Value)(r:V->Hp->VK->Prop):Prop :=
 ∀(pins:List (Addr×Obj))(s:At)(σ:St)(H:Hp)(x:V)(v:Value)(Q:VK),Inv X pins σ H s->RelV x v->r x H Q ->
  wpAny (model X.prog X.w) X.A (f v) (EP X pins σ Q) X.xe s
def bw(X:Cx)(f:Value)(r:List V->Hp->VK->Prop):Prop :=
 ∀(pins:List (Addr×Obj))(s:At)(σ:St)(H:Hp)(xs:List V)(us:List Value)(Q:VK),Inv X pins σ H s->Vals xs us->r xs H Q ->
  wpAny (model X.prog X.w) X.A (call f us) (EP X pins σ Q) X.xe s
def TruR(X:Cx)(r:V->Hp->(Bool->Hp->Prop)->Prop):Prop :=
 ∀(pins:List (Addr×Obj))(s:At)(σ:St)(H:Hp)(x:V)(v:Value)(Q:Bool->Hp->Prop),Inv X pins σ H s->RelV x v->r x H Q ->
  wpAny (model X.prog X.w) X.A (truthy v) (TP X pins σ Q) X.xe s
noncomputable def vH(r:R2)(ta tb:TE):TE:=λσ H Q=>ta σ H λx H1=>tb σ H1 λy H2=>r x y H2 Q
noncomputable def Cd(r:V->Hp->VK->Prop)(ta:TE):TE:=λσ H Q=>ta σ H λx H1=>r x H1 Q
noncomputable def rI(C:Int->Int->Prop)(g:Int->Int->V):R2:=λx y H Q=>∃i j,x=.int i/\y=.int j/\C i j/\Q (g i j) H
noncomputable def vd(g:Int->Int->V):R2:=λx y H Q=>∃i j,x=.int i/\y=.int j/\Q (g i j) H
def rU(g:Int->V):V->Hp->VK->Prop:=λx H Q=>∃i,x=.int i/\Q (g i) H
section
variable{X:Cx}{a b c:Expr}{ta tb tc:TE}{pos:Pos}
theorem binT(ha:PE X a ta)(hb:PE X b tb){pins:List (Addr×Obj)}{s:At}{σ:St}{H:Hp}{R:V->V->Hp->Prop}(I:Inv X pins σ H s)
  (h:ta σ H λx H1=>tb σ H1 λy H2=>R x y H2) {Q:Value->At->Prop} {f:Value->Value->Sem Value}
  (hf:∀v u s2 x y H2,Inv X pins σ H2 s2->RelV x v->RelV y u->R x y H2->wpAny (model X.prog X.w) X.A (f v u) Q X.xe s2) :
  wpAny (model X.prog X.w) X.A (eval a X.env) (λv s₁=>wpAny (model X.prog X.w) X.A (eval b X.env) (λu s₂=>wpAny (model X.prog X.w) X.A (f v u) Q X.xe s₂) X.xe s₁) X.xe s:=by
 refine bx (ha pins s σ H _ I h) λv s1 ⟨x,H1,I1,r1,q1⟩=>?_
 refine bx (hb pins s1 σ H1 _ I1 q1) λu s2 ⟨y,H2,I2,r2,q2⟩=>?_
 exact hf v u s2 x y H2 I2 r1 r2 q2
theorem pe_op{op:Fm}{r:R2}(ho:cH X (Cz op) r)(ha:PE X a ta)(hb:PE X b tb):PE X (.BinOp a op b pos) (vH r ta tb):=by
 intro pins s σ H Q I h;exact wpAny_BinOp (binT ha hb I h λv u s2 x y H2 I2 rx ry q=>ho pins s2 σ H2 x y v u Q I2 rx ry q)
theorem pe_un{op:UnaryOp}{r:V->Hp->VK->Prop}(ho:BP X (unaryOp op) r)(ha:PE X a ta):PE X (.UnaryOp op a pos) (Cd r ta):=by
 intro pins s σ H Q I h;exact UnaryOp_ (bx (ha pins s σ H _ I h) λv s1 ⟨x,H1,I1,r1,q1⟩=>ho pins s1 σ H1 x v Q I1 r1 q1)
theorem yP{f:Value->Value->Sem Value}{C:Int->Int->Prop}{g:Int->Int->Int}
  (rule:∀(i j:Int)(t u:Tok)(s:At)(Q:Value->At->Prop)(E:Value->At->Prop),C i j->Q (.int (g i j) s.toks) { s with toks:=s.toks+1 }->wpAny (model X.prog X.w) X.A (f (.int i t) (.int j u)) Q E s) :
  cH X f (rI C λi j=>.int (g i j)):=by
 intro pins s σ H x y v u Q I rx ry h;obtain⟨i,j,rfl,rfl,hc,q⟩:=h;obtain⟨t,rfl⟩:=rx;obtain⟨t',rfl⟩:=ry;exact rule i j t t' s _ _ hc ⟨.int (g i j),H,I.tok _,⟨_,rfl⟩,q⟩
theorem opI0{f:Value->Value->Sem Value}{g:Int->Int->Int}
  (rule:∀(i j:Int)(t u:Tok)(s:At)(Q:Value->At->Prop)(E:Value->At->Prop),Q (.int (g i j) s.toks) { s with toks:=s.toks+1 }->wpAny (model X.prog X.w) X.A (f (.int i t) (.int j u)) Q E s) :
  cH X f (vd λi j=>.int (g i j)):=by
 intro pins s σ H x y v u Q I rx ry h;obtain⟨i,j,rfl,rfl,q⟩:=h;obtain⟨t,rfl⟩:=rx;obtain⟨t',rfl⟩:=ry;exact rule i j t t' s _ _ ⟨.int (g i j),H,I.tok _,⟨_,rfl⟩,q⟩
theorem opB0{f:Value->Value->Sem Value}{g:Int->Int->Bool}
  (rule:∀(i j:Int)(t u:Tok)(s:At)(Q:Value->At->Prop)(E:Value->At->Prop),Q (.bool (g i j)) s->wpAny (model X.prog X.w) X.A (f (.int i t) (.int j u)) Q E s) :
  cH X f (vd λi j=>.bl (g i j)):=by
 intro pins s σ H x y v u Q I rx ry h;obtain⟨i,j,rfl,rfl,q⟩:=h;obtain⟨t,rfl⟩:=rx;obtain⟨t',rfl⟩:=ry;exact rule i j t t' s _ _ ⟨.bl (g i j),H,I,rfl,q⟩
def CDiv(i j:Int):Prop:=0<j/\j<1073741824
def CPow(i j:Int):Prop:=0<=j/\j<=1000000/\i.natAbs<2 ^ 64
def CMul(i j:Int):Prop:=(-(2 ^ 64)<i/\i<2 ^ 64)\/(-(2 ^ 64)<j/\j<2 ^ 64)
theorem CMul.ok{i j:Int}(h:CMul i j):IntMulOk i j:=by
 rcases h with⟨h1,h2⟩ | ⟨h1,h2⟩
 ·exact .of_left (intBits_le_64 h1 h2)
 ·exact .of_right (intBits_le_64 h1 h2)
theorem nV(k:Nat):(0:Int)<=2 ^ k:=by
 rw[two_pow_cast];exact I0 _
theorem yQ:cH X (Cz .Add) (vd λi j=>.int (i+j)):=opI0 λ_ _ _ _ _ _ _ q=>add_int q
theorem yR:cH X (Cz .Sub) (vd λi j=>.int (i-j)):=opI0 λ_ _ _ _ _ _ _ q=>sub_int q
theorem yS:cH X (Cz .Mult) (rI CMul λi j=>.int (i*j)):=yP λ_ _ _ _ _ _ _ hc q=>mul_int q hc.ok
theorem vJ:cH X (Cz .FloorDiv) (rI CDiv λi j=>.int (i / j)):=yP λi j _ _ _ _ _ hc q=>by
 have h1:(0:Int)<j:=hc.1;have h2:j<1073741824:=hc.2;exact floordiv_int (by lia) (by rw[Gi i (by lia)]; exact q) (.inl (PyProof.noPylong_small (by lia)))
theorem yT:cH X (Cz .Mod) (rI (λ_ j=>0<j) λi j=>.int (i % j)):=yP λi j _ _ _ _ _ hc q=>by
 have h1:(0:Int)<j:=hc;exact mod_int' (by lia) (by rw[Int.fmod_eq_emod_of_nonneg i (by lia)]; exact q)
theorem yU:cH X (Cz .LShift) (rI CPow λi j=>.int (i*2 ^ j.toNat)):=yP λ_ _ _ _ _ _ _ hc q=>lshift_int_small hc.1 hc.2.1 hc.2.2 q
theorem yV:cH X (Cz .RShift) (rI (λ_ j=>0<=j) λi j=>.int (i / 2 ^ j.toNat)):=yP λi j _ _ _ _ _ hc q=>
 rshift_int hc (by rw[Gi i (nV _)]; exact q)
theorem yW:cH X (Cz .BitAnd) (vd λi j=>.int (Eu i j)):=opI0 λ_ _ _ _ _ _ _ q=>and_int q
theorem Ce{f:Value->Sem Value}{g:Int->Int}
  (rule:∀(i:Int)(t:Tok)(s:At)(Q:Value->At->Prop)(E:Value->At->Prop),Q (.int (g i) s.toks) { s with toks:=s.toks+1 }->wpAny (model X.prog X.w) X.A (f (.int i t)) Q E s) :
  BP X f (rU λi=>.int (g i)):=by
 intro pins s σ H x v Q I rx h;obtain⟨i,rfl,q⟩:=h;obtain⟨t,rfl⟩:=rx;exact rule i t s _ _ ⟨.int (g i),H,I.tok _,⟨_,rfl⟩,q⟩
theorem yX:BP X (unaryOp .USub) (rU λi=>.int (-i)):=Ce λ_ _ _ _ _ q=>neg_int q
end
section
variable{X:Cx}{a b c:Expr}{ta tb tc:TE}{pos:Pos}
theorem nW{pins:List (Addr×Obj)}{σ:St}{H:Hp}{s:At}{Q:VK}{k k':Bool}(I:Inv X pins σ H s)(q:Q (.bl k) H)(e:k=k'):EP X pins σ Q (.bool k') s:=by
 subst e;exact⟨.bl k,H,I,rfl,q⟩
theorem op_lt:cH X (CN .Lt) (vd λi j=>.bl (decide (i<j))):=opB0 λ_ _ _ _ _ _ _ q=>Hh q
theorem op_le:cH X (CN .LtE) (vd λi j=>.bl (decide (i<=j))):=opB0 λ_ _ _ _ _ _ _ q=>le_int q
theorem op_gt:cH X (CN .Gt) (vd λi j=>.bl (decide (j<i))):=opB0 λ_ _ _ _ _ _ _ q=>gt_int q
theorem op_ge:cH X (CN .GtE) (vd λi j=>.bl (decide (j<=i))):=opB0 λ_ _ _ _ _ _ _ q=>Ib q
theorem kh:cH X (CN .In) (λx y H Q=>∃i j,x=.str i/\y=.str j/\Q (.bl (!(DU j i 0 j.length 1).isEmpty)) H):=by
 intro pins s σ H x y v u Q I rx ry h;obtain⟨i,j,rfl,rfl,q⟩:=h;obtain⟨t,rfl⟩:=rx;obtain⟨t',rfl⟩:=ry;exact in_str (nW I q rfl)
theorem yY:cH X (CN .Is) (λx y H Q=>y=.non/\Q (.bl (decide (x=.non))) H):=by
 intro pins s σ H x y v u Q I rx ry h;obtain⟨rfl,q⟩:=h;cases ry;refine is_none_gen (nW I q ?_);cases x <;> first
  |(cases rx; rfl)
  |(obtain⟨t,rfl⟩:=rx; rfl)
theorem kZ:cH X (CN .NotIn) (λx y H Q=>∃i j,x=.str i/\y=.str j/\Q (.bl (!(!(DU j i 0 j.length 1).isEmpty))) H):=by
 intro pins s σ H x y v u Q I rx ry h;obtain⟨i,j,rfl,rfl,q⟩:=h;obtain⟨t,rfl⟩:=rx;obtain⟨t',rfl⟩:=ry;exact notIn_str (nW I q rfl)
theorem bH(b:Expr){op:CmpOp}(h:op≠.In:=by decide)(h2:op≠.NotIn:=by decide):D7 op b=false:=by
 have e1:(op == CmpOp.In)=false:=by cases op <;> first | rfl | exact absurd rfl h
 have e2:(op == CmpOp.NotIn)=false:=by cases op <;> first | rfl | exact absurd rfl h2
 cases b <;> simp[D7,e1,e2]
theorem k8{op:CmpOp}{r:R2}(ho:cH X (CN op) r)(ha:PE X a ta)(hb:PE X b tb)(hm:D7 op b=false):PE X (.Compare a [op] [b] pos) (vH r ta tb):=by
 intro pins s σ H Q I h;exact wpAny_Compare1 (binT ha hb I h λv u s2 x y H2 I2 rx ry q=>ho pins s2 σ H2 x y v u Q I2 rx ry q) hm
noncomputable def tTest(t:TE):TT:=λσ H Q=>t σ H λx H'=>∃k,x=.bl k/\Q k H'
theorem fT{op:CmpOp}{r:R2}(ho:cH X (CN op) r)(ha:PE X a ta)(hb:PE X b tb)(hm:D7 op b=false):PT X (.Compare a [op] [b] pos) (tTest (vH r ta tb)):=by
 intro pins s σ H Q I h;refine IA (bx (ha pins s σ H _ I h) λv s1 ⟨x,H1,I1,r1,q1⟩=>bx (hb pins s1 σ H1 _ I1 q1) λu s2 ⟨y,H2,I2,r2,q2⟩=>
  bx (ho pins s2 σ H2 x y v u _ I2 r1 r2 q2) λc s3 ⟨z,H3,I3,r3,k,e,q3⟩=>?_) hm
 subst e;cases r3;exact Em ⟨H3,I3,q3⟩
def TruV(K:AC)(x:V)(H:Hp)(k:Bool):Prop :=
 match x with
 |.non=>k=false
 |.bl b=>k=b
 |.int i=>k=(i != 0)
 |.str y=>y.length<=C7/\k=((y.length:Int) != 0)
 |.byt y=>y.size<=C7/\k=((y.size:Int) != 0)
 |.ref p=>(∃xs,eF K H p xs/\k = !xs.isEmpty)\/(∃xs,dg K H p xs/\k = !xs.isEmpty)\/∃kvs,H p=some (.dK kvs)/\k = !kvs.isEmpty
 |_=>False
theorem nX{κ:Type}{kvs:List (κ×V)}{vs:List (κ×Value)}(r:KV kvs vs):(!vs.isEmpty) = !kvs.isEmpty:=by
 cases r <;> rfl
theorem jb{xs:List V}{its:List Value}(r:Vals xs its):(!its.toArray.isEmpty) = !xs.isEmpty:=by
 cases r <;> simp
theorem gu:(C7:Nat)<2 ^ 63:=by rw[Cy]; decide
theorem yZ:TruR X (λx H Q=>∃k,TruV X.K x H k/\Q k H):=by
 intro pins s σ H x v Q I rx h;obtain⟨k,e,q⟩:=h;have hl:=gu;have hs:C7=16777216:=Cy;cases x with
 |non=>
  cases rx;have e':k=false:=e;subst e';exact truthy_none ⟨H,I,q⟩
 |bl b=>
  cases rx;have e':k=b:=e;subst e';exact Em ⟨H,I,q⟩
 |int i=>
  obtain⟨t,rfl⟩:=rx;have e':k=(i != 0):=e;subst e';exact PySem.P.truthy_int ⟨H,I,q⟩
 |str y=>
  obtain⟨t,rfl⟩:=rx;obtain⟨hy,e'⟩:y.length<=C7/\k=((y.length:Int) != 0):=e;subst e';exact PySem.P.truthy_str (by lia) ⟨H,I.tok _,q⟩
 |byt y=>
  obtain⟨t,rfl⟩:=rx;obtain⟨hy,e'⟩:y.size<=C7/\k=((y.size:Int) != 0):=e;subst e';exact PySem.W.truthy_bytes (by lia) ⟨H,I.tok _,q⟩
 |ref p=>
  cases rx;have e':(∃xs,eF X.K H p xs/\k = !xs.isEmpty)\/(∃xs,dg X.K H p xs/\k = !xs.isEmpty)\/∃kvs,H p=some (.dK kvs)/\k = !kvs.isEmpty:=e;rcases e' with⟨xs,hx,e'⟩ | ⟨xs,hx,e'⟩ | ⟨kvs,hx,e'⟩
  ·subst e'
   obtain⟨its,r,pl,hz⟩:=I.list hx;have hlen:=r.length;exact wpAny_truthy_list pl.isList (by simp only[Bi]; lia) ⟨H,I.tok _,by rw[jb r]; exact q⟩
  ·subst e'
   obtain⟨its,r,pl,hz⟩:=I.tuple hx;have hlen:=r.length;exact truthy_tuple pl (by simp only[Bi]; lia) ⟨H,I.tok _,by rw[jb r]; exact q⟩
  ·subst e'
   obtain⟨hz,hS,vs,r,m⟩:kvs.length<=C7/\(p == Dt)=false/\∃vs,KV kvs vs/\s.heap.DictOf (bh X.prog X.w) p vs:=I.hok p _ hx;have hlen:kvs.length=vs.length:=Ea r;exact wpAny_truthy_dict hS m (by lia) ⟨H,I.tok _,by rw[nX r]; exact q⟩
 |_=>exact(show False from e).elim
theorem sF(ha:PE X a ta)(he:∀whole,HD a X.env whole=(do let v <-whole; FP a.pos; En [v] (truthy v))) :
  PT X a (λσ H Q=>ta σ H λx H'=>∃k,TruV X.K x H' k/\Q k H'):=by
 intro pins s σ H Q I h;exact isTrue_plain (bx (ha pins s σ H _ I h) λv s1 ⟨x,H1,I1,r1,q1⟩=>yZ pins s1 σ H1 x v Q I1 r1 q1) (he _)
theorem nY:cH X (Cz .Add) (λx y H Q=>∃i j,x=.str i/\y=.str j/\i.length+j.length<=C7/\Q (.str (i++j)) H):=by
 intro pins s σ H x y v u Q I rx ry h;obtain⟨i,j,rfl,rfl,hz,q⟩:=h;obtain⟨t,rfl⟩:=rx;obtain⟨t',rfl⟩:=ry;exact add_str (λt' tk=>⟨.str (i++j),H,I.tok _,⟨_,rfl⟩,q⟩) hz
theorem vals1{x:V}{us:List Value}(r:Vals [x] us):∃u,us=[u]/\RelV x u:=by
 cases r with
 |cons r1 r2=>cases r2; exact⟨_,rfl,r1⟩
theorem vals2{x y:V}{us:List Value}(r:Vals [x,y] us):∃u w',us=[u,w']/\RelV x u/\RelV y w':=by
 cases r with
 |cons r1 r2=>
  cases r2 with
  |cons r3 r4=>cases r4; exact⟨_,_,rfl,r1,r3⟩
theorem sG:bw X (.builtin "abs") (λxs H Q=>∃i,xs=[.int i]/\Q (.int (if i<0 then -i else i)) H):=by
 intro pins s σ H xs us Q I r h;obtain⟨i,rfl,q⟩:=h;obtain⟨u,rfl,t,rfl⟩:=vals1 r;exact call_abs_int λu tk=>⟨.int (if i<0 then -i else i),H,I.tok _,⟨_,rfl⟩,q⟩
theorem qM(hc:X.calm=true):bw X (.builtin "min") (λxs H Q=>∃i j,xs=[.int i,.int j]/\Q (.int (if j<i then j else i)) H):=by
 intro pins s σ H xs us Q I r h;obtain⟨i,j,rfl,q⟩:=h;obtain⟨u,w',rfl,⟨t,rfl⟩,⟨t',rfl⟩⟩:=vals2 r;refine min_two_ints (I.ok.hd hc) λh' tk k=>⟨_,H,I.kept k,?_,q⟩
 by_cases hj:j<i
 ·rw[if_pos hj,if_pos hj]; exact⟨_,rfl⟩
 ·rw[if_neg hj,if_neg hj]; exact⟨_,rfl⟩
end
end L2
namespace L2
open PySem PySem.Spec PyProof.Rows
theorem jR.some_of{v:V}{o:Option Value}(r:jR (some v) o):∃u,o=some u/\RelV v u:=by
 cases o with
 |none=>exact(show False from r).elim
 |some u=>exact⟨u,rfl,r⟩
end L2
namespace L2
open PySem PySem.Spec PyProof.Rows
structure dG(k:Nat)(A:Cw):Prop where
 hd:A.handled=none
 dp:A.depth+3*k+5<recursionLimit
 un:A.units+16*k+200<cLine
 gd:A.guards=some []
theorem dG.mono{j k:Nat}{A:Cw}(r:dG k A)(h:j<=k):dG j A:=⟨r.hd,by have:=r.dp; lia,by have:=r.un; lia,r.gd⟩
theorem dG.deeper{k:Nat}{A:Cw}(r:dG (k+1) A)(env:Env):dG k (A.deeper env) :=
 ⟨r.hd,by have:=r.dp; show A.depth+1+3*k+5<_; lia,by have:=r.un; show A.units+3+16*k+200<_; lia,r.gd⟩
theorem dG.depth{k:Nat}{A:Cw}(r:dG k A):A.depth<recursionLimit:=by have:=r.dp; lia
theorem dG.units{k:Nat}{A:Cw}(r:dG k A):A.units+64<cLine:=by have:=r.un; lia
noncomputable def tNil:TA:=λ_ H Q=>Q [] H
noncomputable def sH(ta:TE)(tr:TA):TA:=λσ H Q=>ta σ H λx H1=>tr σ H1 λxs H2=>Q (x::xs) H2
section
variable{X:Cx}{e:Expr}{es:List Expr}{te:TE}{t:TA}{pos:Pos}
theorem fB:PA X [] tNil:=λ_ _ _ _ H Q I h=>Calls.spliced_nil ⟨[],H,I,.nil,h⟩
theorem dH(ha:PE X e te)(hr:PA X es t)(hs:C9 (e::es) X.env=(false,eval e X.env)::C9 es X.env:=by rfl):PA X (e::es) (sH te t):=by
 intro pos pins s σ H Q I h;rw[hs];show wpAny _ _ (spliced ((false,eval e X.env)::ED pos (C9 es X.env))) _ _ s;refine Calls.spliced_cons (bx (ha pins s σ H _ I h) λu s1 ⟨x,H1,I1,r1,q1⟩=>?_)
 exact bx (hr pos pins s1 σ H1 _ I1 q1) λus s2 ⟨xs,H2,I2,r2,q2⟩=>⟨x::xs,H2,I2,.cons r1 r2,q2⟩
noncomputable def tTup(t:TA):TE:=λσ H Q=>t σ H λxs H1=>xs.length<=C7/\∀p,H1 p=none->Q (.ref p) (upd H1 p (.tup xs))
noncomputable def tLst(t:TA):TE:=λσ H Q=>t σ H λxs H1=>xs.length<=C7/\∀p,H1 p=none->Q (.ref p) (upd H1 p (.lst xs))
theorem zb{x1}(h:PA X es t):PE X (.Tuple es x1 pos) (tTup t):=by
 intro pins s σ H Q I hq;refine wpAny_Tuple_spliced (bx (h pos pins s σ H _ I hq) λus s1 ⟨xs,H1,I1,r,z,q⟩=>⟨by rw[<-r.length]; exact z,?_⟩)
 have hf:H1 s1.heap.objs.size=none:=I1.hok.fresh (C1 _);refine⟨.ref s1.heap.objs.size,upd H1 s1.heap.objs.size (.tup xs),I1.laid (t':=s1.toks) (λb u e=>Bz _ e) (C1 _) ?_,rfl,q _ hf⟩
 exact⟨z,us,r,⟨_,CA _ rfl,rfl,_,rfl⟩⟩
theorem sI(h:PA X es t):PE X (.List es pos) (tLst t):=by
 intro pins s σ H Q I hq;refine wpAny_List_spliced (bx (h pos pins s σ H _ I hq) λus s1 ⟨xs,H1,I1,r,z,q⟩=>⟨by rw[<-r.length]; exact z,?_⟩)
 have hf:H1 s1.heap.objs.size=none:=I1.hok.fresh (C1 _);refine⟨.ref s1.heap.objs.size,upd H1 s1.heap.objs.size (.lst xs),I1.laid (t':=s1.toks) (λb u e=>Bz _ e) (C1 _) ?_,rfl,q _ hf⟩
 exact⟨z,us,0,r,CA _ rfl⟩
end
abbrev Sp:=List V->Hp->VK->XK->Prop
abbrev sJ:=List Env->Hp->At->XK->Value->At->Prop
structure Env0(P:CH)(w:World)(K:AC)(mg:Str->Option Value)(base:Heap)(A:Cw)(outer:List Env)(s:At)(H:Hp):Prop where
 frames:A.frames=some outer
 mod:Mod K mg base
 bs:∀b o,base.get? b=some o->s.heap.get? b=some o/\H b=none
 bsz:base.objs.size<=s.heap.objs.size
 i7:s.heap.FunFrames base outer
 frf:∀b∈frs outer,H b=none
 hok:gr P w H s.heap
 bare:FV s.gens
def CE(outer:List Env)(P:CH)(w:World)(H:Hp)(s:At)(Q:VK)(u:Value)(s':At):Prop :=
 ∃v H',s'.os=s.os/\FV s'.gens/\Un (frs outer) [] H H' s.heap s'.heap/\gr P w H' s'.heap/\RelV v u/\Q v H'
def CR(CX:sJ)(outer:List Env)(P:CH)(w:World)(H:Hp)(s:At)(Q:VK)(E:XK)(r:Result)(s':At):Prop :=
 match r with
 |.ok (.ret u)=>CE outer P w H s Q u s'
 |.ok _=>False
 |.error e=>CX outer H s E e s'
structure b9(P:CH)(w:World)(K:AC)(mg:Str->Option Value)(base:Heap)(CX:sJ)(k:Nat)(f:Addr)(fd:DS)(ps:List Str)(sp:Sp):Prop where
 len:∀vs H Q E,sp vs H Q E->vs.length=ps.length
 run:∀(A:Cw)(outer:List Env)(s:At)(H:Hp)(args:Args)(us:List Value)(vs:List V)(Q:VK)(E:XK),dG k A->Env0 P w K mg base A outer s H->GR s fd args (ps.zip us)->Vals vs us->sp vs H Q E ->
  Eb (model P w) A (.call (.ref f) args) (CR CX outer P w H s Q E) s
theorem b9.imp{P:CH}{w:World}{K:AC}{mg:Str->Option Value}{base:Heap}{CX:sJ}{k:Nat}{f:Addr}{fd:DS}{ps:List Str}{sp sp':Sp}(F:b9 P w K mg base CX k f fd ps sp)
  (h:∀vs H Q E,sp' vs H Q E->sp vs H Q E):b9 P w K mg base CX k f fd ps sp' :=
 ⟨λvs H Q E q=>F.len vs H Q E (h _ _ _ _ q),λA outer s H args us vs Q E hr he hb hv hs=>F.run A outer s H args us vs Q E hr he hb hv (h _ _ _ _ hs)⟩
section
variable{X:Cx}{pins:List (Addr×Obj)}{σ:St}{H:Hp}{s s':At}
theorem Inv.env0(I:Inv X pins σ H s):Env0 X.prog X.w X.K X.mg X.base X.A X.stack s H :=
 ⟨I.ok.frames,I.ok.mod,I.bs,DB I.ok.bsz I.sz,I.stack,I.pN,I.hok,I.bare⟩
theorem Inv.after{Q:VK}{u:Value}(I:Inv X pins σ H s)(h:CE X.stack X.prog X.w H s Q u s'):EP X pins σ Q u s':=by
 obtain⟨v,H',os,bare,un,hok,r,q⟩:=h;obtain⟨hh,g,d,t,os'⟩:=s';obtain rfl:os'=s.os:=os;exact⟨v,H',I.call (h':=hh) (g':=g) (d':=d) (t':=t) (ch:=[]) un hok bare (λb z=>absurd z (by simp)),r,q⟩
end
noncomputable def sL(sp:Sp)(dvs:List V)(E:XK)(t:TA):TE:=λσ H Q=>t σ H λvs H1=>sp (vs++dvs) H1 Q E
def Binds(K:AC)(fd:DS)(ps:List Str)(ds:List Value):Prop :=
 ∀(s:At)(us:List Value),K.In s.heap->(us++ds).length=ps.length->GR s fd ⟨us,[]⟩ (ps.zip (us++ds))
theorem Binds.all{K:AC}{fd:DS}{ps:List Str}(h:∀us:List Value,us.length=ps.length->bindArgs fd ⟨us,[]⟩=pure (ps.zip us)):Binds K fd ps []:=λs us _ hl=>by
 rw[Bn] at hl ⊢;exact .of_eq (h us hl)
def Passes(CX:sJ)(X:Cx)(E:XK):Prop:=∀(pins:List (Addr×Obj))(σ:St)(H:Hp)(s:At)(e:Value)(s':At),Inv X pins σ H s->CX X.stack H s E e s'->X.xe e s'
section
variable{X:Cx}{CX:sJ}{k:Nat}{f C:Addr}{fd:DS}{ps:List Str}{sp:Sp}{dvs:List V}{ds:List Value}{E:XK}{x m:Str}{p pos apos:Pos}{e o:Expr}{es:List Expr}{ta:TE}{t:TA}
theorem zc{pins:List (Addr×Obj)}{σ:St}{H:Hp}{s:At}{Q:VK}{us:List Value}{vs:List V}(F:b9 X.prog X.w X.K X.mg X.base CX k f fd ps sp)(hr:dG k X.A)(hb:Binds X.K fd ps ds)(hd:Vals dvs ds)(hx:Passes CX X E)
  (I:Inv X pins σ H s) (r:Vals vs us) (h:sp (vs++dvs) H Q E):wpAny (model X.prog X.w) X.A (call (.ref f) us) (EP X pins σ Q) X.xe s:=by
 have r2:Vals (vs++dvs) (us++ds):=r.append hd;have hl:(us++ds).length=ps.length:=by rw[<-r2.length]; exact F.len _ _ _ _ h
 refine wpAny_call (Hn (F.run X.A X.stack s H ⟨us,[]⟩ (us++ds) (vs++dvs) Q E hr I.env0 (hb s us I.pM hl) r2 h) λr s' hq=>?_)
 cases r with
 |error e=>exact hx pins σ H s e s' I hq
 |ok fl=>
  cases fl with
  |ret u=>exact I.after hq
  |next=>exact Dy hq
  |brk=>exact Dy hq
  |cont=>exact Dy hq
theorem vK(F:b9 X.prog X.w X.K X.mg X.base CX k f fd ps sp)(hr:dG k X.A)(hg:Gl X x)(hm:X.mg x=some (.ref f))(hk:EV X.K (.ref f)=true)(hb:Binds X.K fd ps ds)(hd:Vals dvs ds)(hx:Passes CX X E)
  (ha:PA X (e::es) t) (hdb:(x == ("__debug__" : Str))=false:=by decide) (he:C9 (e::es) X.env=(false,eval e X.env)::C9 es X.env:=by rfl) (hpl:(ED pos (C9 es X.env)).any (·.1)=false:=by rfl) :
  PE X (.Call (.Name x p) (e::es) [] pos) (sL sp dvs E t):=by
 intro pins s σ H Q I h;refine G9 (vm I hg hm ?_ hdb);refine PySem.W.callWith_K (h₀:=X.base) I.ok.mod.kin hk (bx (ha pos pins s σ H _ I h) λus s1 ⟨vs,H1,I1,r,q⟩=>⟨I1.pM,?_⟩) he hpl
 exact zc F hr hb hd hx I1 r q
end
structure bq(N P:List Str)(sc:Scope):Prop where
 kind:sc.kind=.function
 co:sc.isCoroutine=false
 gen:sc.isGenerator=false
 nd:N.Nodup
 pre:N.take P.length=P
 par:∀x∈P,sc.names.lookup x=some .local\/sc.names.lookup x=some .cell
 nofree:∀y∈sc.names,y.2≠.free
theorem ki{kindOf:Str->Option DW}{x:Str}:∀{binds:List (Str×Value)}{m:Str->Option Value},(∀v,(x,v)∉binds)->bindL kindOf binds m x=m x
 |[],_,_=>rfl
 |(n,v)::r,m,h=>by
  unfold bindL;rw[ki λw hw=>h w (lO _ hw)]
  split
  ·have:x≠n:=by rintro rfl; exact h v lS
   simp[this]
  ·rfl
theorem kj{kindOf:Str->Option DW}{x:Str}:∀{binds:List (Str×Value)}{m:Str->Option Value},(∀v,(x,v)∉binds)->bindC kindOf binds m x=m x
 |[],_,_=>rfl
 |(n,v)::r,m,h=>by
  unfold bindC;rw[kj λw hw=>h w (lO _ hw)]
  split
  ·rfl
  ·have:x≠n:=by rintro rfl; exact h v lS
   simp[this]
theorem ko{kindOf:Str->Option DW}{x:Str}{v:Value}:∀{P:List Str}{vs:List Value}{i:Nat}{m:Str->Option Value},P.Nodup->P[i]? = some x->vs[i]? = some v->kindOf x=some .local ->
  bindL kindOf (P.zip vs) m x=some v
 |[],_,_,_,_,h,_,_=>by simp at h
 |_::_,[],_,_,_,_,h,_=>by simp at h
 |p::P,w::vs,0,m,nd,h1,h2,hk=>by
  simp at h1 h2; subst h1; subst h2;show bindL kindOf ((p,w)::P.zip vs) m p=_;unfold bindL;rw[ki λv hv=>(CJ.mp nd).1 (GG hv).1,if_pos hk]
  simp
 |p::P,w::vs,i+1,m,nd,h1,h2,hk=>by
  show bindL kindOf ((p,w)::P.zip vs) m x=_;unfold bindL;exact ko (i:=i) (CJ.mp nd).2 (by simpa using h1) (by simpa using h2) hk
theorem kq{kindOf:Str->Option DW}{x:Str}{v:Value}:∀{P:List Str}{vs:List Value}{i:Nat}{m:Str->Option Value},P.Nodup->P[i]? = some x->vs[i]? = some v->kindOf x≠some .local ->
  bindC kindOf (P.zip vs) m x=some v
 |[],_,_,_,_,h,_,_=>by simp at h
 |_::_,[],_,_,_,_,h,_=>by simp at h
 |p::P,w::vs,0,m,nd,h1,h2,hk=>by
  simp at h1 h2; subst h1; subst h2;show bindC kindOf ((p,w)::P.zip vs) m p=_;unfold bindC;rw[kj λv hv=>(CJ.mp nd).1 (GG hv).1,if_neg hk]
  simp
 |p::P,w::vs,i+1,m,nd,h1,h2,hk=>by
  show bindC kindOf ((p,w)::P.zip vs) m x=_;unfold bindC;exact kq (i:=i) (CJ.mp nd).2 (by simpa using h1) (by simpa using h2) hk
noncomputable def start(N:List Str)(vs:List V):St:=vs.map some++C5 (N.length-vs.length) none
noncomputable def mz(CX:sJ)(P:CH)(w:World)(K:AC)(mg:Str->Option Value)(base:Heap)(N:List Str)(qual:Str)(scope:Scope)(f:Addr)(cd:Value)(A:Cw)(outer:List Env)(s:At)(H:Hp)(E:XK):Cx where
 prog:=P
 w:=w
 K:=K
 mg:=mg
 base:=base
 A:=A.deeper (FU qual scope s.heap.objs.size f cd)
 N:=N
 s₀:=s
 H₀:=H
 env:=FU qual scope s.heap.objs.size f cd
 outer:=outer
 stack:=FU qual scope s.heap.objs.size f cd::outer
 ex:=[]
 calm:=true
 fn:=λ_=>true
 pn:=[]
 xe:=λe s'=>wpAny (model P w) (A.deeper (FU qual scope s.heap.objs.size f cd)) (leaving (FU qual scope s.heap.objs.size f cd) e) (λ_ s''=>CX outer H s E e s'') (λe' s''=>CX outer H s E e' s'') s'
theorem mC{sc:Scope}{n:Nat}{x:Str}(h:sc.names.lookup x=some .cell):∃c,(D6 n sc.names []).lookup x=some c:=by
 have q:=Gf sc.names n [] (.inl h);exact E4.mp q
theorem qN{CX:sJ}{P:CH}{w:World}{K:AC}{mg:Str->Option Value}{base:Heap}{N ps:List Str}{qual:Str}{scope:Scope}{f:Addr}{cd:Value}{A:Cw}{outer:List Env}{s s1:At}{H:Hp}{E:XK}{us:List Value}{vs:List V}
  (S:bq N ps scope) (hd:A.handled=none) (e0:Env0 P w K mg base A outer s H) (hl:vs.length=ps.length) (r:Vals vs us)
  (x:InCallC s s.heap.objs.size (bindL (FU qual scope s.heap.objs.size f cd).kindOf (ps.zip us) λ_=>none) (D6 (s.heap.objs.size+1) scope.names []) (bindC (FU qual scope s.heap.objs.size f cd).kindOf (ps.zip us) λ_=>none) s1) :
  Inv (mz CX P w K mg base N qual scope f cd A outer s H E) [] (start N vs) H s1:=by
 have hpl:ps.length<=N.length:=by have:=congrArg List.length S.pre; rw[Fy] at this; lia
 obtain⟨h1,tk,rfl,hk⟩:=x.done;have noA:∀b:Addr,b∉(mz CX P w K mg base N qual scope f cd A outer s H E).ex:=λb z=>absurd (show b∈([]:List Addr) from z) (by simp)
 refine⟨⟨e0.mod,S.kind,rfl,rfl,C1 _,λy z c h1 h2=>?_,λy hy=>?_,λy c _ h=>?_,λ_=>hd,Around.frames_deeper e0.frames,.inr ⟨rfl,rfl⟩,λb z=>absurd z (noA b),e0.bs,e0.bsz,λb _ _=>noA b,λb z=>absurd z (noA b),e0.i7,e0.frf⟩,
  rfl,e0.bare,Un.kept hk,⟨_,x.toInCall.ns,λi y v h1 h2 h3=>?_⟩,λy c h=>⟨_,x.cell y c h⟩,e0.hok.fresh (C1 _),λy c h=>?_,λp hp=>absurd (show p∈([]:List (Addr×Obj)) from hp) (by simp),e0.hok.kept hk,?_⟩
 ·exact name_of_addr x.apart (Di h1) (Di h2)
 ·have hy:scope.names.lookup y=some .cell\/scope.names.lookup y=some .free:=hy
  rcases hy with hy | hy
  ·exact mC hy
  ·exact absurd rfl (S.nofree _ (Di hy))
 ·exact DP (x.above y c (Di h))
 ·have hi:i<vs.length:=by
   unfold start at h2
   by_cases hi:i<vs.length
   ·exact hi
   ·rw[GY (by simpa using hi)] at h2
    rw[List.getElem?_replicate] at h2
    split at h2 <;> cases h2
  have ha:vs[i]? = some v:=by
   unfold start at h2;rw[E3 (by simpa using hi),Cu] at h2
   cases e:vs[i]? with
   |none=>rw[e] at h2; cases h2
   |some a=>rw[e] at h2; cases h2; rfl
  obtain⟨u,hu,rv⟩:=r.get ha;have hp:ps[i]? = some y:=by
   rw[<-S.pre,List.getElem?_take_of_lt (by lia)]; exact h1
  have ndP:ps.Nodup:=by rw[<-S.pre]; exact S.nd.sublist (List.take_sublist _ _)
  refine⟨u,rv,?_⟩;rcases S.par y (FL hp) with k | k
  ·exact .inl ⟨k,ko ndP hp hu k⟩
  ·obtain⟨c,e⟩:=mC (n:=s.heap.objs.size+1) k
   refine .inr ⟨.inl k,c,e,?_⟩;have q:=x.cell y c e;rw[kq ndP hp hu (by show scope.names.lookup y≠_; rw[k]; decide)] at q
   exact q
 ·exact e0.hok.fresh (DP (x.above y c (Di h)))
 ·unfold start
  show _=N.length;rw[C4,C0,FD];lia
theorem fn_of{CX:sJ}{P:CH}{w:World}{K:AC}{mg:Str->Option Value}{base:Heap}{k:Nat}{f:Addr}{name qual:Str}{params:Hg}{body:List Stmt}{scope:Scope}{dV kV doc pm cdv ct oc:Value}{an od:Option Addr}
  {osl:Array (Option Value)} {N ps:List Str} {sp:Sp} (lk:K.lookup f=some ⟨oc,od,.func (EM name qual params body scope dV kV doc pm an cdv ct),osl⟩) (hcd:FR K cdv qual=true) (S:bq N ps scope)
  (len:∀vs H Q E,sp vs H Q E->vs.length=ps.length)
  (hbody:∀(A:Cw)(outer:List Env)(s:At)(H:Hp)(vs:List V)(Q:VK)(E:XK),dG k (A.deeper (FU qual scope s.heap.objs.size f cdv))->sp vs H Q E ->
   ∃t,nR (mz CX P w K mg base N qual scope f cdv A outer s H E) body t/\t { nx:=λ_ H'=>Q .non H',rt:=Q } (start N vs) H) :
  b9 P w K mg base CX (k+1) f (EM name qual params body scope dV kV doc pm an cdv ct) ps sp:=by
 refine⟨len,λA outer s H args us vs Q E hr e0 hb r hsp=>?_⟩
 have hl:=len _ _ _ _ hsp;have KX:K.In s.heap:=e0.mod.kin.keeps λb o e=>(e0.bs b o e).1
 have lim:s.heap.NoLimit:=e0.mod.nolimit.keeps λb o e=>(e0.bs b o e).1
 have hkind:∀y∈ps.zip us,scope.names.lookup y.1=some .local\/(scope.names.lookup y.1=some .cell/\((D6 (s.heap.objs.size+1) scope.names []).lookup y.1).isSome=true):=λ⟨n,v⟩ hy=>by
  rcases S.par n (GG hy).1 with q | q
  ·exact .inl q
  ·exact .inr ⟨q,Gf _ _ _ (.inl q)⟩
 refine codeAny_call_function hr.depth (KX _ _ lk) rfl S.co S.gen rfl (PySem.W.codeRec_of KX hcd) (hb _ _ _ _ ?_);refine wpAny_newFunctionEnv_cells S.kind hkind λenv he s1 x=>?_
 subst he;refine⟨lim.keeps x.toInCall.keep,codeAny_func ?_⟩;obtain⟨t,ht,hq⟩:=hbody A outer s H vs Q E (hr.deeper _) hsp;have I:Inv (mz CX P w K mg base N qual scope f cdv A outer s H E) [] (start N vs) H s1:=qN S hr.hd e0 hl r x;refine Dl (ht [] s1 (start N vs) H _ I hq) (λfl s' hs=>?_) λe s' hs=>hs
 have fin:∀{σ':St}{H':Hp}{v:V}{u:Value},Inv (mz CX P w K mg base N qual scope f cdv A outer s H E) [] σ' H' s'->RelV v u->Q v H'->CE outer P w H s Q u s' :=
  λ{σ' H' v u}J rv q=>⟨v,H',J.os,J.bare,J.base,J.hok,rv,q⟩
 cases fl with
 |ret u=>
  obtain⟨v,σ',H',J,rv,q⟩:=hs;exact fin J rv q
 |next=>
  obtain⟨σ',H',J,q⟩:=hs;exact fin (v:=V.non) (u:=DC) J rfl q
 |brk=>
  obtain⟨_,_,_,q⟩:=hs;exact Dy q
 |cont=>
  obtain⟨_,_,_,q⟩:=hs;exact Dy q
end L2
namespace L2
open PySem PySem.Spec PyProof.Rows
section
variable{X:Cx}{x:Str}{p pos:Pos}{e:Expr}{es:List Expr}{t:TA}{id T:String}{r:List V->Hp->VK->Prop}
noncomputable def BQ(r:List V->Hp->VK->Prop)(t:TA):TE:=λσ H Q=>t σ H λvs H1=>r vs H1 Q
theorem mD(hc:bw X (.builtin id) r)(hg:Gl X x)(hm:X.mg x=none)(hv:DY x=some (.builtin id))(ha:PA X (e::es) t)(hn:x ≠ "__name__" := by decide)(hdb:(x == ("__debug__" : Str))=false:=by decide)
  (he:C9 (e::es) X.env=(false,eval e X.env)::C9 es X.env:=by rfl) (hpl:(ED pos (C9 es X.env)).any (·.1)=false:=by rfl):PE X (.Call (.Name x p) (e::es) [] pos) (BQ r t):=by
 intro pins s σ H Q I h;refine G9 (i9 I hg hm hv ?_ hn hdb);exact PyProof.Rows.callWith_builtin1 (bx (ha pos pins s σ H _ I h) λus s1 ⟨vs,H1,I1,r1,q1⟩=>hc pins s1 σ H1 vs us Q I1 r1 q1) he hpl
theorem qO(hc:bw X (.type T) r)(hg:Gl X x)(hm:X.mg x=none)(hv:DY x=some (.type T))(ha:PA X (e::es) t)(hn:x ≠ "__name__" := by decide)(hdb:(x == ("__debug__" : Str))=false:=by decide)
  (he:C9 (e::es) X.env=(false,eval e X.env)::C9 es X.env:=by rfl) (hpl:(ED pos (C9 es X.env)).any (·.1)=false:=by rfl):PE X (.Call (.Name x p) (e::es) [] pos) (BQ r t):=by
 intro pins s σ H Q I h;refine G9 (i9 I hg hm hv ?_ hn hdb);exact EG (bx (ha pos pins s σ H _ I h) λus s1 ⟨vs,H1,I1,r1,q1⟩=>hc pins s1 σ H1 vs us Q I1 r1 q1) he hpl
end
end L2
namespace HT
open PySem PyProof.Rows
noncomputable def lexLt:List Int->List Int->Bool
 |[],[]=>false
 |[],_::_=>true
 |_::_,[]=>false
 |x::xs,y::ys=>if x=y then lexLt xs ys else decide (x<y)
theorem cM(x y:Int)(xs ys:List Int):lexLt (x::xs) (y::ys)=if x=y then lexLt xs ys else decide (x<y):=rfl
theorem jU:lexLt [] []=false:=rfl
theorem jc(y:Int)(ys:List Int):lexLt [] (y::ys)=true:=rfl
theorem jd(x:Int)(xs:List Int):lexLt (x::xs) []=false:=rfl
theorem mE(A:Cw)(s:At)(a:Int)(t:Tok)(c:Int)(u:Tok):∃e,HW A s (.int a t) (.int c u) e/\(e=true↔a=c) :=
 ⟨(a == c),SeqAt.EqAt.int_int a t c u,by simp⟩
theorem sM(A:Cw)(s:At)(a:Int)(t:Tok)(c:Int)(u:Tok)(prog:CH)(w:World)(E:Value->At->Prop)(Q:Value->At->Prop)(h:Q (.bool (decide (a<c))) s) :
  wpAny (model prog w) A (richCompare .Lt (.int a t) (.int c u)) Q E s :=
 (Hh h:wpAny (model prog w) A (CN .Lt (.int a t) (.int c u)) Q E s)
section
open PySem.SeqAt
open PySem.AutoSeq1 (wpAny_loadPart')
open PySem.MeetsSeq PySem.MeetsSeq2 PySem.MeetsSeq3
theorem jV(l b:Addr)(items items2:Array Value)(n n2:Nat)(dd dd2:Option Addr)(sl sl2:Array (Option Value))(ns ms:List Int)(hi:DN items.toList ns)(hj:DN items2.toList ms) :
  Meets (Fq.«tuple.__lt__» ⟨[.ref l,.ref b],[]⟩)
   (λ_ R s=>s.heap.get? l=some { cls:=.type "tuple",dict:=dd,data:=.seq items n,slots:=sl }/\s.heap.get? b=some { cls:=.type "tuple",dict:=dd2,data:=.seq items2 n2,slots:=sl2 } /\
    R (.ok (.ret (.bool (lexLt ns ms)))) s) :=
 .of_wp λprog w A R s h=>by
  obtain⟨hp,g,d,tk,os⟩:=s; obtain⟨hl,hb,h⟩:=h;have f2:=GF;have z1:items.size=ns.length:=by rw[<-hi.length]; simp
  have z2:items2.size=ms.length:=by rw[<-hj.length]; simp
  wp_walk using D1 hl,D1 hb,wpAny_forIn_list _ (λrest b s'=>b.1=none/\s'=⟨hp,g,d,tk,os⟩/\∃ (vs ws:List Value) (ns' ms':List Int),rest=vs.zip ws /\
   DN vs ns'/\DN ws ms'/\ns'.length+items2.size=ms'.length+items.size/\R (.ok (.ret (.bool (lexLt ns' ms')))) ⟨hp,g,d,tk,os⟩) _
  case turn=>
   rintro⟨y,x⟩ rest b s' ⟨hb',rfl,vs,ws,ns',ms',hz,hvi,hwi,hlen,hR⟩;cases hvi with
   |nil=>rw[Hz] at hz; cases hz
   |cons a t hvi' =>
    cases hwi with
    |nil=>rw[Hj] at hz; cases hz
    |cons c u hwi' =>
     rw[E7] at hz
     injection hz with hyx hrest
     injection hyx with hy hx
     subst hy hx;rw[cM] at hR;simp only[BM] at hlen;obtain⟨e,he,hiff⟩:=mE A.in1 ⟨hp,g,d,tk,os⟩ a t c u;refine Ap (he prog w _ _ ?_);cases e with
     |true=>
      rw[if_pos (hiff.mp rfl)] at hR
      wp_walk
      exact⟨rfl,rfl,_,_,_,_,hrest,hvi',hwi',by lia,hR⟩
     |false=>
      rw[if_neg (λq=>absurd (hiff.mpr q) DJ)] at hR
      have hri:=sM A.in1 ⟨hp,g,d,tk,os⟩ a t c u prog w
      wp_walk using hri
      exact⟨_,rfl,by simpa using hR⟩
  case fin=>
   rintro⟨b1,b2⟩ s' ⟨hb',rfl,vs,ws,ns',ms',hz,hvi,hwi,hlen,hR⟩;simp only at hb';subst hb';have hv:lexLt ns' ms'=decide (items.size<items2.size):=by
    cases hvi with
    |nil=>
     cases hwi with
     |nil=>
      simp only[DQ] at hlen;rw[jU];exact(decide_eq_false (by lia)).symm
     |cons c u hw=>
      simp only[DQ,BM] at hlen;rw[jc];exact(decide_eq_true (by lia)).symm
    |cons a t hv=>
     cases hwi with
     |nil=>
      simp only[DQ,BM] at hlen;rw[jd];exact(decide_eq_false (by lia)).symm
     |cons c u hw=>
      rw[E7] at hz;cases hz
   rw[hv] at hR
   wp_walk
   exact⟨_,rfl,by simpa[FB] using hR⟩
  case h=>
   exact⟨rfl,rfl,items.toList,items2.toList,ns,ms,rfl,hi,hj,by lia,h⟩
end
section
variable{prog:CH}{w:World}{A:Cw}{E:Value->At->Prop}{s:At}
theorem nZ{l b:Addr}{items items2:Array Value}{ns ms:List Int}{Q:Value->At->Prop}(hl:IsTup s.heap l items)(hb:IsTup s.heap b items2)(hi:DN items.toList ns)(hj:DN items2.toList ms)
  (hu:A.units<cLine) (h:Q (.bool (lexLt ns ms)) s):wpAny (model prog w) A (CN .Lt (.ref l) (.ref b)) Q E s:=by
 obtain⟨⟨cls,dd,data,sl⟩,ho,hc,n,hd⟩:=id hl;obtain⟨⟨cls2,dd2,data2,sl2⟩,ho2,hc2,n2,hd2⟩:=id hb;simp only at hc hd hc2 hd2;subst hc hd hc2 hd2;exact Hk (op:=.Lt) ⟨_,ho,rfl⟩ ⟨_,ho2,rfl⟩ PySem.F.slot_tuple_lt PySem.F.entry_tuple_lt (PySem.F.args_tuple_lt_2 _ _) (jV l b items items2 n n2 dd dd2 sl sl2 ns ms hi hj)
  ⟨ho,ho2,show GO (lexLt ns ms)≠HF/\Q (.bool (lexLt ns ms)) s from⟨(λx=>nomatch x),h⟩⟩ hu
theorem vL{t b:Addr}{vs ws:List Value}{Q:Value->At->Prop}(ht:IsTup s.heap t vs.toArray)(hb:IsTup s.heap b ws.toArray)(hv:vs≠[])
  (h1:ws=[]->Q (.ref t) s) (h2:ws≠[]->Q (.ref s.heap.objs.size) { s with heap:=s.heap.push { cls:=.type "tuple",data:=.seq (vs++ws).toArray } })
  (hsz:vs.length+ws.length<=C7):wpAny (model prog w) A (Cz .Add (.ref t) (.ref b)) Q E s:=by
 obtain⟨⟨cls,dd,data,sl⟩,ho,hc,n,hd⟩:=id ht;obtain⟨⟨cls2,dd2,data2,sl2⟩,ho2,hc2,n2,hd2⟩:=id hb;simp only at hc hd hc2 hd2;subst hc hd hc2 hd2;have e:vs.toArray++ws.toArray=(vs++ws).toArray:=by simp
 by_cases hw:ws=[]
 ·exact Gr ⟨_,ho,rfl⟩ ⟨_,ho2,rfl⟩ Fu Gc Ej Ed (EX _ _)
   (tuple_addW1 t b vs.toArray ws.toArray n n2 dd dd2 sl sl2 (by simpa using hv) (by simp[hw])) ⟨ho,ho2,h1 hw⟩
 ·refine Gr ⟨_,ho,rfl⟩ ⟨_,ho2,rfl⟩ Fu Gc Ej Ed (EX _ _)
   (tuple_addW2 t b vs.toArray ws.toArray n n2 dd dd2 sl sl2 (by simpa using hv) (by simpa using hw) (by rw[Bi,Bi]; exact hsz)) ⟨ho,ho2,?_⟩
  rw[e];exact h2 hw
noncomputable def bM(n d:Nat):Option Int->Nat
 |none=>d
 |some v=>if v<0 then (v+(n:Int)).toNat else min v.toNat n
theorem mF(n d:Nat):bM n d none=d:=rfl
theorem k9(n d k:Nat):bM n d (some (k:Int))=min k n:=by
 show (if (k:Int)<0 then ((k:Int)+(n:Int)).toNat else min (k:Int).toNat n)=min k n
 rw[if_neg (by lia),DF]
theorem zd(n d:Nat)(hd:d<=n)(o:Option Int):bM n d o<=n:=by
 cases o with
 |none=>exact hd
 |some v=>
  show (if v<0 then (v+(n:Int)).toNat else min v.toNat n)<=n
  by_cases hv:v<0
  ·rw[if_pos hv]; lia
  ·rw[if_neg hv]; exact IT _ _
theorem pQ(v:Int)(n d:Nat):(if v<0 then max (v+(n:Int)) 0 else min v (n:Int))=((bM n d (some v):Nat):Int):=by
 show (if v<0 then max (v+(n:Int)) 0 else min v (n:Int))=(((if v<0 then (v+(n:Int)).toNat else min v.toNat n):Nat):Int)
 by_cases hv:v<0
 ·simp only[if_pos hv]; lia
 ·simp only[if_neg hv]; lia
theorem n8(lo hi:Option Int)(n:Nat):EK lo hi 1 (n:Int)=(((bM n 0 lo:Nat):Int),((bM n n hi:Nat):Int)):=by
 have h1:¬ ((1:Int)<0):=by lia
 unfold EK;simp only[h1,if_false];refine Prod.ext ?_ ?_
 ·cases lo with
  |none=>rfl
  |some v=>exact pQ v n 0
 ·cases hi with
  |none=>rfl
  |some v=>exact pQ v n n
theorem n9(i j:Nat):Dq (i:Int) (j:Int) 1=j-i:=by
 unfold Dq;have h1:(1:Int)>0:=by lia
 simp only[h1,if_true,Int.ediv_one]
 split <;> lia
theorem je{v:Value}{o:Option Int}{Q:Option Int->At->Prop}(p:Fo v o)(h:Q o s):wpAny (model prog w) A (Builtin.Slice.slicePartIndex v) Q E s:=by
 cases p with
 |none=>exact slicePart_none h
 |int i t=>exact slicePart_int h
theorem d7{sl:Addr}{vl vu:Value}{lo hi:Option Int}{n:Nat}{Q:Int×Int×Nat->At->Prop}(hs:s.heap.IsSliceOf sl vl vu .none)(pl:Fo vl lo)(pu:Fo vu hi)
  (h:Q (((bM n 0 lo:Nat):Int),1,bM n n hi-bM n 0 lo) s):wpAny (model prog w) A (Fe (.ref sl) (pure (n:Int))) Q E s:=by
 obtain⟨os,hos,hcs,hds⟩:=id hs;unfold Fe Builtin.Slice.sliceFields;refine Ap (Ap (Dd hos hds (x:=vl) rfl (Ap (Dd hos hds (x:=vu) rfl (Ap (Dd hos hds (x:=.none) rfl (B2 ?_)))))));refine Ap (slicePart_none ?_);show wpAny _ _ (if ((1:Int) == 0)=true then _ else _) _ _ s
 rw[if_neg (by decide)]
 refine Ap (je pl (Ap (je pu (Ap (B2 ?_)))));show wpAny _ _ (match EK lo hi 1 (n:Int) with | (lo,hi)=>pure (lo,(1:Int),Dq lo hi 1)) _ _ s
 rw[n8 lo hi n];show wpAny _ _ (pure (((bM n 0 lo:Nat):Int),(1:Int),Dq ((bM n 0 lo:Nat):Int) ((bM n n hi:Nat):Int) 1)) _ _ s;rw[n9];exact B2 h
theorem sN(xs:Array Value)(i k:Nat):((CG k).filterMap λ(m:Nat)=>xs[((i:Int)+(m:Int)*1).toNat]?).toArray=((xs.toList.drop i).take k).toArray:=by
 have e:(λ(m:Nat)=>xs[((i:Int)+(m:Int)*1).toNat]?)=λm=>xs[i+m]? := by
  funext m
  have:((i:Int)+(m:Int)*1).toNat=i+m:=by lia
  rw[this]
 rw[e];have:=pick_run xs i k;rw[List.filterMap_map] at this;have e2:((λx=>xs[x]?)∘λx=>i+x)=λm=>xs[i+m]? := rfl
 rw[e2] at this;rw[this]
theorem gO{t sl:Addr}{items:Array Value}{vl vu:Value}{lo hi:Option Int}{Q:Value->At->Prop}(ht:IsTup s.heap t items)(hs:s.heap.IsSliceOf sl vl vu .none)(pl:Fo vl lo)(pu:Fo vu hi)
  (hw:¬ (bM items.size 0 lo=0/\bM items.size items.size hi=items.size))
  (h:Q (.ref s.heap.objs.size) { s with heap:=s.heap.push { cls:=.type "tuple",data:=.seq ((items.toList.drop (bM items.size 0 lo)).take (bM items.size items.size hi-bM items.size 0 lo)).toArray } })
  (hsz:items.size<=C7):wpAny (model prog w) A (Eo (.ref t) (.ref sl)) Q E s:=by
 have htake:sizeOk (.seq ((items.toList.drop (bM items.size 0 lo)).take (bM items.size items.size hi-bM items.size 0 lo)).toArray):=by
  show ((items.toList.drop (bM items.size 0 lo)).take (bM items.size items.size hi-bM items.size 0 lo)).toArray.size<=C7;rw[Bi,Fy,G4,CT];lia
 have hj:bM items.size items.size hi<=items.size:=zd _ _ (C1 _) hi;obtain⟨os,hos,hcs,hds⟩:=id hs;have hTs:s.TypeIs (.ref sl) "slice" := ⟨os,hos,hcs⟩;unfold Eo
 try with_reducible refine DX ?_
 first | refine Ap (B2 ?_) | skip
 refine Ap (wpAny_sequenceKey ht.typeIs (by decide) ?_)
 refine Ap (DM (name:=Da "__getitem__") ht.typeIs D8
  (DL D8 ht.typeIs Ic ?_ (Iu _ _)))
 show wpAny _ _ (Fc (.ref t) >>= _) _ _ s;refine Ap (tupleItemsOf_ ht ?_);refine Ap (GH hTs ?_);rw[if_pos (by decide)]
 refine Ap (d7 hs pl pu ?_);have hno:¬ ((((bM items.size 0 lo:Nat):Int) == 0 && (1:Int) == 1 && (bM items.size items.size hi-bM items.size 0 lo) == items.size)=true):=by
  intro q;rw[DA,DA] at q;have q1:((bM items.size 0 lo:Nat):Int)=0:=eq_of_beq q.1.1;have q2:bM items.size items.size hi-bM items.size 0 lo=items.size:=eq_of_beq q.2;exact hw ⟨by lia,by lia⟩
 show wpAny _ _ (if (((bM items.size 0 lo:Nat):Int) == 0 && (1:Int) == 1 && (bM items.size items.size hi-bM items.size 0 lo) == items.size)=true then _ else _) _ _ s
 rw[if_neg hno,sN]
 first
  |exact Ap (m:=Du _) (Cv (B2 ⟨_,rfl,B2 h⟩) htake)
  |exact Ap (m:=Du _) (Cv (Ap (B2 (B2 ⟨_,rfl,B2 h⟩))) htake)
  |exact Ap (Ap (m:=Du _) (Cv (B2 (B2 ⟨_,rfl,B2 h⟩)) htake))
  |exact Ap (Ap (m:=Du _) (Cv (B2 ⟨_,rfl,B2 h⟩) htake))
end
end HT
namespace L2
open PySem PySem.Spec PyProof.Rows
abbrev TO:=St->Hp->(Option Int->Hp->Prop)->Prop
def PO(X:Cx)(e:Option Expr)(t:TO):Prop :=
 ∀(pins:List (Addr×Obj))(s:At)(σ:St)(H:Hp)(Q:Option Int->Hp->Prop),Inv X pins σ H s->t σ H Q ->
  wpAny (model X.prog X.w) X.A (evalPart e X.env) (λu s'=>∃o H',Inv X pins σ H' s'/\Fo u o/\Q o H') X.xe s
noncomputable def vM:TO:=λ_ H Q=>Q none H
noncomputable def tPart(t:TE):TO:=λσ H Q=>t σ H λx H1=>∃i,x=.int i/\Q (some i) H1
theorem intsAre_of{ns:List Int}:∀{us:List Value},Vals (ns.map V.int) us->DN us ns:=by
 induction ns with
 |nil=>intro us r; rw[ER] at r; cases r; exact .nil
 |cons n ns ih=>
  intro us r;rw[CC] at r;cases r with
  |cons r1 r2=>
   obtain⟨t,e⟩:=r1;subst e;exact .cons n t (ih r2)
section
variable{X:Cx}{e:Expr}{te:TE}{lo hi:Option Expr}{tl th:TO}{pos p2:Pos}
theorem vN:PO X none vM:=by
 intro pins s σ H Q I h;rw[evalPart_none];exact B2 ⟨none,H,I,.none,h⟩
theorem vQ(h:PE X e te):PO X (some e) (tPart te):=by
 intro pins s σ H Q I hw;rw[evalPart_some];refine bx (h pins s σ H _ I hw) λu s1 ⟨x,H1,I1,r1,q1⟩=>?_
 obtain⟨i,rfl,q⟩:=q1;obtain⟨t,rfl⟩:=r1;exact⟨some i,H1,I1,.int i t,q⟩
def vR(X:Cx)(r:V->Option Int->Option Int->Hp->VK->Prop):Prop :=
 ∀(pins:List (Addr×Obj))(s:At)(σ:St)(H:Hp)(x:V)(v vl vu:Value)(lo hi:Option Int)(sl:Addr)(Q:VK),Inv X pins σ H s->RelV x v->s.heap.IsSliceOf sl vl vu .none->Fo vl lo->Fo vu hi->r x lo hi H Q ->
  ∃T id,typeLookup (.type T) "__getitem__" = pure (some (.builtin id))/\s.TypeIs v T/\wpAny (model X.prog X.w) X.A (Eo v (.ref sl)) (EP X pins σ Q) X.xe s
noncomputable def Cf(r:V->Option Int->Option Int->Hp->VK->Prop)(te:TE)(tl th:TO):TE:=λσ H Q=>te σ H λx H1=>tl σ H1 λl H2=>th σ H2 λu H3=>r x l u H3 Q
theorem sO{r:V->Option Int->Option Int->Hp->VK->Prop}(hr:vR X r)(he:PE X e te)(hl:PO X lo tl)(hu:PO X hi th):PE X (.Subscript e (.Slice lo hi none p2) pos) (Cf r te tl th):=by
 intro pins s σ H Q I h;refine Iv (bx (he pins s σ H _ I h) λv s1 ⟨x,H1,I1,r1,q1⟩=>?_)
 refine wpAny_Slice (bx (hl pins s1 σ H1 _ I1 q1) λvl s2 ⟨l,H2,I2,pl,q2⟩=>bx (hu pins s2 σ H2 _ I2 q2) λvu s3 ⟨u,H3,I3,pu,q3⟩=>?_)
 rw[evalPart_none];refine B2 ?_;have I4:Inv X pins σ H3 { s3 with heap:=s3.heap.push { cls:=.type "slice",data:=.fields #[vl,vu,.none] } }:=I3.kept (t':=s3.toks) λb ob q=>Bz _ q
 obtain⟨T,id,hT,ht,hg⟩:=hr pins { s3 with heap:=s3.heap.push { cls:=.type "slice",data:=.fields #[vl,vu,.none] } } σ H3 x v vl vu l u s3.heap.objs.size Q I4 r1 (Heap.IsSliceOf.new ..) pl pu q3
 show wpAny (model X.prog X.w) X.A (HX e (.Slice lo hi none p2) v (.ref s3.heap.objs.size)) (EP X pins σ Q) X.xe { s3 with heap:=s3.heap.push { cls:=.type "slice",data:=.fields #[vl,vu,.none] } }
 exact tail_any (ops:=[.ref s3.heap.objs.size,v]) ht hT hg (by with_unfolding_all rfl)
noncomputable def jf(xs:List V)(lo hi:Option Int):List V:=(xs.drop (HT.bM xs.length 0 lo)).take (HT.bM xs.length xs.length hi-HT.bM xs.length 0 lo)
theorem iG(xs:List V)(lo hi:Option Int):(jf xs lo hi).length<=xs.length:=by
 unfold jf;rw[Fy,G4];lia
def rSlT(K:AC):V->Option Int->Option Int->Hp->VK->Prop:=λx lo hi H Q=>∃a xs,x=.ref a/\dg K H a xs /\
 ¬ (HT.bM xs.length 0 lo=0/\HT.bM xs.length xs.length hi=xs.length)/\∀p,H p=none->Q (.ref p) (upd H p (.tup (jf xs lo hi)))
theorem ze:vR X (rSlT X.K):=by
 intro pins s σ H x v vl vu lo hi sl Q I rx hs pl pu h;obtain⟨a,xs,rfl,hx,hw,q⟩:=h;cases rx;obtain⟨its,r,ht,hz⟩:=I.tuple hx;have hlen:its.toArray.size=xs.length:=by rw[Bi]; exact r.length.symm
 refine⟨"tuple",_,D8.lookup,ht.typeIs,?_⟩;refine HT.gO ht hs pl pu (by rw[hlen]; exact hw) ?_ (by rw[hlen]; exact hz)
 rw[hlen];refine⟨.ref s.heap.objs.size,_,I.laid (t':=s.toks) (o:=.tup (jf xs lo hi)) (λb ob q=>Bz _ q) (C1 _) ?_,rfl,q _ (I.hok.fresh (C1 _))⟩
 exact⟨DB (iG xs lo hi) hz,_,(r.drop (HT.bM xs.length 0 lo)).take (HT.bM xs.length xs.length hi-HT.bM xs.length 0 lo),Go _ _⟩
noncomputable def rLtT(K:AC):R2:=λx y H Q=>∃a b ns ms,x=.ref a/\y=.ref b/\dg K H a (ns.map V.int)/\dg K H b (ms.map V.int)/\Q (.bl (HT.lexLt ns ms)) H
theorem zf(hu:X.A.units<cLine):cH X (CN .Lt) (rLtT X.K):=by
 intro pins s σ H x y v u Q I rx ry h;obtain⟨a,b,ns,ms,rfl,rfl,ha,hb,q⟩:=h;cases rx;cases ry;obtain⟨its,r1,p1,_⟩:=I.tuple ha;obtain⟨its2,r2,p2,_⟩:=I.tuple hb;have i1:DN its.toArray.toList ns:=intsAre_of r1;have i2:DN its2.toArray.toList ms:=intsAre_of r2;exact HT.nZ p1 p2 i1 i2 hu ⟨.bl (HT.lexLt ns ms),H,I,rfl,q⟩
noncomputable def rCatT(K:AC):R2:=λx y H Q=>∃a b xs ys,x=.ref a/\y=.ref b/\dg K H a xs/\dg K H b ys/\xs≠[]/\xs.length+ys.length<=C7 /\
 (ys=[]->Q (.ref a) H)/\(ys≠[]->∀p,H p=none->Q (.ref p) (upd H p (.tup (xs++ys))))
theorem Vals.lg{xs:List V}{us:List Value}(r:Vals xs us):us=[]↔xs=[]:=by
 cases r with
 |nil=>simp
 |cons _ _=>simp
theorem vV:cH X (Cz .Add) (rCatT X.K):=by
 intro pins s σ H x y v u Q I rx ry h;obtain⟨a,b,xs,ys,rfl,rfl,ha,hb,hx,hz,q1,q2⟩:=h;cases rx;cases ry;obtain⟨its,r1,p1,_⟩:=I.tuple ha;obtain⟨its2,r2,p2,_⟩:=I.tuple hb;refine HT.vL p1 p2 (λz=>hx (r1.lg.mp z)) (λz=>⟨.ref a,H,I,rfl,q1 (r2.lg.mp z)⟩) (λz=>?_) (by rw[<-r1.length,<-r2.length]; exact hz)
 refine⟨.ref s.heap.objs.size,_,I.laid (t':=s.toks) (o:=.tup (xs++ys)) (λb ob q=>Bz _ q) (C1 _) ?_,rfl,q2 (λw=>z (r2.lg.mpr w)) _ (I.hok.fresh (C1 _))⟩
 exact⟨by rw[C4]; exact hz,_,r1.append r2,Go _ _⟩
end
end L2
namespace L2
open PySem PySem.Spec PyProof.Rows
noncomputable def oh(n:Nat)(i:Int):Option Nat:=if 0<=i then (if i<n then some i.toNat else none) else if -(n:Int)<=i then some (i+n).toNat else none
noncomputable def iS{α:Type}(xs:List α)(i:Int):Option α:=(oh xs.length i).bind λj=>xs[j]?
theorem pR{n:Nat}{i:Int}{j:Nat}(h:oh n i=some j):Ge i n=some j/\j<n/\-(n:Int)<=i/\i<n:=by
 unfold oh at h
 by_cases h0:0<=i
 ·rw[if_pos h0] at h
  by_cases h1:i<n
  ·rw[if_pos h1] at h
   have e:i.toNat=j:=CP h;exact⟨by rw[IM h0 h1,e],by lia,by lia,h1⟩
  ·rw[if_neg h1] at h; cases h
 ·rw[if_neg h0] at h
  by_cases h1 : -(n:Int)<=i
  ·rw[if_pos h1] at h
   have e:(i+n).toNat=j:=CP h;exact⟨by rw[seqIndex_neg (by lia) h1,e],by lia,h1,by lia⟩
  ·rw[if_neg h1] at h; cases h
theorem lq{α:Type}{xs:List α}{i:Int}{v:α}(h:iS xs i=some v):∃j,Ge i xs.length=some j/\xs[j]? = some v/\j<xs.length/\-(xs.length:Int)<=i/\i<xs.length:=by
 unfold iS at h;cases e:oh xs.length i with
 |none=>rw[e] at h; cases h
 |some j=>
  rw[e] at h;obtain⟨h1,h2,h3,h4⟩:=pR e;exact⟨j,h1,h,h2,h3,h4⟩
def iT(b:Expr):Prop:=∀o i,Gj b false o i=operate [o,i] (Eo o i)
def vW(X:Cx)(r:R2):Prop :=
 ∀(value slice:Expr)(pins:List (Addr×Obj))(s:At)(σ:St)(H:Hp)(x y:V)(v u:Value)(Q:VK),Inv X pins σ H s->RelV x v->RelV y u->r x y H Q ->
  Gj slice false v u=operate [v,u] (Eo v u)->wpAny (model X.prog X.w) X.A (HX value slice v u) (EP X pins σ Q) X.xe s
def Cg(X:Cx)(id:String)(r:V->List V->Hp->VK->Prop):Prop :=
 ∀(pins:List (Addr×Obj))(s:At)(σ:St)(H:Hp)(x:V)(xs:List V)(v:Value)(us:List Value)(Q:VK),Inv X pins σ H s->RelV x v->Vals xs us->r x xs H Q ->
  wpAny (model X.prog X.w) X.A (call (.builtin id) (v::us)) (EP X pins σ Q) X.xe s
section
variable{X:Cx}{a b:Expr}{ta tb:TE}{pos:Pos}
theorem vW.or{r r':R2}(h:vW X r)(h':vW X r'):vW X (λx y H Q=>r x y H Q\/r' x y H Q):=by
 intro value slice pins s σ H x y v u Q I rx ry q hs;rcases q with q | q
 ·exact h value slice pins s σ H x y v u Q I rx ry q hs
 ·exact h' value slice pins s σ H x y v u Q I rx ry q hs
theorem ya{r:R2}(hr:vW X r)(ha:PE X a ta)(hb:PE X b tb)(hs:iT b):PE X (.Subscript a b pos) (vH r ta tb):=by
 intro pins s σ H Q I h;exact Iv (binT ha hb I h λv u s2 x y H2 I2 rx ry q=>hr a b pins s2 σ H2 x y v u Q I2 rx ry q (hs _ _))
noncomputable def rIxL(K:AC):R2:=λx y H Q=>∃p xs i v,x=.ref p/\y=.int i/\eF K H p xs/\iS xs i=some v/\Q v H
noncomputable def rIxT(K:AC):R2:=λx y H Q=>∃p xs i v,x=.ref p/\y=.int i/\dg K H p xs/\iS xs i=some v/\Q v H
noncomputable def rIxS:R2:=λx y H Q=>∃z i c,x=.str z/\y=.int i/\z.length<=C7/\iS z.cps.toList i=some c/\Q (.str ⟨#[c]⟩) H
theorem vX:vW X (rIxL X.K):=by
 intro value slice pins s σ H x y v u Q I rx ry h hs;obtain⟨p,xs,i,z,rfl,rfl,hq,he,q⟩:=h;cases rx;obtain⟨t,rfl⟩:=ry;obtain⟨its,r,pl,hz⟩:=I.list hq;obtain⟨j,h1,h2,h3,h4,h5⟩:=lq he;obtain⟨w,ew,rw'⟩:=r.get h2;have hl:=r.length;have hn:=gu;have fin:EP X pins σ Q w s:=⟨z,H,I,rw',q⟩
 by_cases h0:0<=i
 ·have hj:i.toNat=j:=by
   rw[IM h0 h5] at h1;exact CP h1
  exact item_listR pl.isList h0 (by lia) (by rw[hj]; simpa using ew) fin hs
 ·have hj:(i+(its.toArray.size:Int)).toNat=j:=by
   rw[seqIndex_neg (by lia) h4] at h1
   rw[Bi,<-hl];exact CP h1
  exact Hr (x:=w) pl.isList.typeIs slot_list_getitem.lookup
   (wpAny_getItem_list_neg (Q:=λr s'=>r=w/\EP X pins σ Q r s') pl.isList (by lia) (by rw[Bi] <;> lia) (by lia) (by rw[hj]; simpa using ew) ⟨rfl,fin⟩) hs
theorem zg:vW X (rIxT X.K):=by
 intro value slice pins s σ H x y v u Q I rx ry h hs;obtain⟨p,xs,i,z,rfl,rfl,hq,he,q⟩:=h;cases rx;obtain⟨t,rfl⟩:=ry;obtain⟨its,r,pl,hz⟩:=I.tuple hq;obtain⟨j,h1,h2,h3,h4,h5⟩:=lq he;obtain⟨w,ew,rw'⟩:=r.get h2;have hl:=r.length;have hn:=gu;have fin:EP X pins σ Q w s:=⟨z,H,I,rw',q⟩;exact Hr (x:=w) pl.typeIs D8.lookup
  (getItem_tuple (j:=j) (Q:=λr s'=>r=w/\EP X pins σ Q r s') pl (by lia) (by lia) (by rw[Bi,<-hl]; exact h1) (by simpa using ew) ⟨rfl,fin⟩) hs
theorem zh:vW X rIxS:=by
 intro value slice pins s σ H x y v u Q I rx ry h hs;obtain⟨z,i,c,rfl,rfl,hz,he,q⟩:=h;obtain⟨t,rfl⟩:=rx;obtain⟨t',rfl⟩:=ry;obtain⟨j,h1,h2,h3,h4,h5⟩:=lq he;have hl:z.cps.toList.length=z.length:=by simp[Str.length]
 rw[hl] at h1 h4 h5;have hn:=gu;exact tail_any (typeIs_str s z t) slot_str_getitem.lookup (getItem_str (c:=c) (by
  have e1:decide (i < -(2 ^ 63:Int))=false:=decide_eq_false (by lia)
  have e2:decide (i>=2 ^ 63)=false:=decide_eq_false (by lia)
  rw[e1,e2,Bool.or_false]) (by rw[h1]; simpa using h2) ⟨.str ⟨#[c]⟩,H,I.tok _,⟨_,rfl⟩,q⟩) hs
noncomputable def B6(K:AC):R2:=λx y H Q=>rIxL K x y H Q\/rIxT K x y H Q\/rIxS x y H Q
theorem sP:vW X (B6 X.K):=vX.or (zg.or zh)
theorem oi(its:List Value)(n j:Nat)(u:Value):Ch (·.setIfInBounds j u) { cls:=.type "list",data:=.seq its.toArray n }={ cls:=.type "list",data:=.seq (its.set j u).toArray n }:=by
 simp[Ch]
theorem Inv.lst{pins:List (Addr×Obj)}{σ:St}{H:Hp}{s:At}{p:Addr}{xs:List V}(I:Inv X pins σ H s)(h:H p=some (.lst xs)) :
  ∃ (its:List Value) (n:Nat),Vals xs its/\s.heap.get? p=some { cls:=.type "list",data:=.seq its.toArray n }/\xs.length<=C7:=by
 obtain⟨z,its,n,r,e⟩:=I.hok p _ h;exact⟨its,n,r,e,z⟩
theorem Inv.zj{pins:List (Addr×Obj)}{σ:St}{H:Hp}{s:At}{p:Addr}{xs ys:List V}{its its':List Value}{n n':Nat}{f:Obj->Obj}(I:Inv X pins σ H s)(h:H p=some (.lst xs))
  (ho:s.heap.get? p=some { cls:=.type "list",data:=.seq its.toArray n }) (hf:f { cls:=.type "list",data:=.seq its.toArray n }={ cls:=.type "list",data:=.seq its'.toArray n' }) (r:Vals ys its') (hz:ys.length<=C7) (t:Nat) :
  Inv X pins σ (upd H p (.lst ys)) { s with heap:=s.heap.update p f,toks:=t }:=by
 have e:(s.heap.update p f).get? p=some { cls:=.type "list",data:=.seq its'.toArray n' }:=by
  rw[F9 f ho (by rw[hf] <;> rfl),hf]
 refine I.write (x:=p) (e:=p) (by rw[h]; trivial) (.inl rfl) (λb u hb q=>(Ep _ _ (Dx hb)).trans q) ⟨_,e⟩ ?_
 exact⟨hz,its',n',r,e⟩
def kr:V->V->V->Hp->(Hp->Prop)->Prop:=λo i v H Q=>∃p xs k j,o=.ref p/\i=.int k/\H p=some (.lst xs)/\oh xs.length k=some j/\Q (upd H p (.lst (xs.set j v)))
theorem set_list:PSet X kr:=by
 intro pins s σ H o i v ov iv u Q I ro ri rv h;obtain⟨p,xs,k,j,rfl,rfl,hp,hj,q⟩:=h;cases ro;obtain⟨t,rfl⟩:=ri;obtain⟨its,n,r,ho,hz⟩:=I.lst hp;obtain⟨h1,h2,h3,h4⟩:=pR hj;have hl:=r.length;have hn:=gu;have I':Inv X pins σ (upd H p (.lst (xs.set j v))) { s with heap:=s.heap.update p (Ch (·.setIfInBounds j u)) } :=
  I.zj hp ho (oi its n j u) (r.set rv j) (by rw[List.length_set]; exact hz) s.toks
 by_cases h0:0<=k
 ·have hk:k.toNat=j:=by
   rw[IM h0 h4] at h1;exact CP h1
  exact PySem.W.ki_setAt ho h0 (by lia) (by rw[Bi,<-hl]; exact h4) (by rw[hk]; exact⟨_,I',q⟩)
 ·have hk:(k+(its.toArray.size:Int)).toNat=j:=by
   rw[seqIndex_neg (by lia) h3] at h1
   rw[Bi,<-hl];exact CP h1
  exact PySem.W.ki_setBack ho (by lia) (by rw[Bi,<-hl]; exact h3) (by lia) (by rw[hk]; exact⟨_,I',q⟩)
theorem lu(lo hi:Option Int)(n:Nat):(ES lo hi none n).1=((HT.bM n 0 lo:Nat):Int)/\(ES lo hi none n).2.1=((HT.bM n n hi:Nat):Int)/\(ES lo hi none n).2.2=1:=by
 refine⟨?_,?_,rfl⟩
 ·cases lo with
  |none=>simp[ES,HT.bM]
  |some i=>
   simp only[ES,HT.bM,Hi,show (1:Int)>0 by decide,if_true]
   by_cases h:i<0
   ·simp only[h,if_true] <;> lia
   ·simp only[h,if_false] <;> lia
 ·cases hi with
  |none=>simp[ES,HT.bM]
  |some i=>
   simp only[ES,HT.bM,Hi,show (1:Int)>0 by decide,if_true]
   by_cases h:i<0
   ·simp only[h,if_true] <;> lia
   ·simp only[h,if_false] <;> lia
theorem jW(its:List Value)(lo hi:Option Int):slicePick its.toArray lo hi none=((its.drop (HT.bM its.length 0 lo)).take (HT.bM its.length its.length hi-HT.bM its.length 0 lo)).toArray:=by
 obtain⟨h1,h2,h3⟩:=lu lo hi its.toArray.size;unfold slicePick;rw[h1,h2,h3];simp only[sliceRange_one,pick_run,Bi] <;> rfl
def rSlL(K:AC):V->Option Int->Option Int->Hp->VK->Prop:=λx lo hi H Q=>∃a xs,x=.ref a/\eF K H a xs/\∀p,H p=none->Q (.ref p) (upd H p (.lst (jf xs lo hi)))
theorem vY:vR X (rSlL X.K):=by
 intro pins s σ H x v vl vu lo hi sl Q I rx hs pl pu h;obtain⟨a,xs,rfl,hx,q⟩:=h;cases rx;obtain⟨its,r,ht,hz⟩:=I.list hx;have hlen:=r.length;refine⟨"list",_,slot_list_getitem.lookup,ht.isList.typeIs,?_⟩;refine wpAny_getItem_list_slice ht.isList hs pl pu .none (by simp) ?_ (by rw[Bi] <;> lia)
 rw[jW,<-hlen];refine⟨.ref s.heap.objs.size,_,I.laid (t':=s.toks) (o:=.lst (jf xs lo hi)) (λb ob q=>Bz _ q) (C1 _) ?_,rfl,q _ (I.hok.fresh (C1 _))⟩
 exact⟨DB (iG xs lo hi) hz,_,0,(r.drop (HT.bM xs.length 0 lo)).take (HT.bM xs.length xs.length hi-HT.bM xs.length 0 lo),CA _ rfl⟩
theorem ly:bw X (.builtin "len") (λxs H Q=>∃p ys,xs=[.ref p]/\(eF X.K H p ys\/dg X.K H p ys)/\Q (.int ys.length) H):=by
 intro pins s σ H xs us Q I r h;obtain⟨p,ys,rfl,hq,q⟩:=h;obtain⟨u,rfl,rx⟩:=vals1 r;cases rx;have hn:=gu;rcases hq with hq | hq
 ·obtain⟨its,r',pl,hz⟩:=I.list hq
  have hlen:=r'.length;exact Calls.call_len_list pl.isList (by simp only[Bi] <;> lia) ⟨.int ys.length,H,I.tok _,⟨s.toks+1,by rw[Bi,hlen]⟩,q⟩
 ·obtain⟨its,r',pl,hz⟩:=I.tuple hq
  have hlen:=r'.length;exact len_tuple pl (by simp only[Bi] <;> lia) ⟨.int ys.length,H,I.tok _,⟨s.toks+1,by rw[Bi,hlen]⟩,q⟩
theorem lz:bw X (.builtin "len") (λxs H Q=>∃z,xs=[.str z]/\z.length<=C7/\Q (.int z.length) H):=by
 intro pins s σ H xs us Q I r h;obtain⟨z,rfl,hz,q⟩:=h;obtain⟨u,rfl,t,rfl⟩:=vals1 r;have hn:=gu;exact len_str (by lia) ⟨.int z.length,H,I.tok _,⟨_,rfl⟩,q⟩
theorem lA:bw X (.type "list") (λxs H Q=>∃p ys,xs=[.ref p]/\(eF X.K H p ys\/dg X.K H p ys)/\∀l,H l=none->Q (.ref l) (upd H l (.lst ys))):=by
 intro pins s σ H xs us Q I r h;obtain⟨p,ys,rfl,hq,q⟩:=h;obtain⟨u,rfl,rx⟩:=vals1 r;cases rx;have fin:∀(its:List Value),Vals ys its->ys.length<=C7->∀(h':Heap)(c':Nat),(∀b o',s.heap.get? b=some o'->h'.get? b=some o') ->
   h'.get? s.heap.objs.size=some { cls:=.type "list",dict:=none,data:=.seq its.toArray c',slots:=#[] }->EP X pins σ Q (.ref s.heap.objs.size) { s with heap:=h' }:=λits r' hz h' c' kp e=>
  ⟨.ref s.heap.objs.size,_,I.laid (t':=s.toks) kp (C1 _) (show bO X.prog X.w _ h' _ (.lst ys) from⟨hz,its,c',r',e⟩),rfl,q _ (I.hok.fresh (C1 _))⟩
 rcases hq with hq | hq
 ·obtain⟨its,r',pl,hz⟩:=I.list hq
  have hlen:=r'.length;obtain⟨o,ho,hc,n,hd⟩:=pl.isList;exact call_list_seq p (.inl rfl) ho hc hd (λh' c' kp e=>fin its r' hz h' c' kp e) (by simp only[Bi] <;> lia)
 ·obtain⟨its,r',pl,hz⟩:=I.tuple hq
  have hlen:=r'.length;obtain⟨o,ho,hc,n,hd⟩:=pl;exact call_list_seq p (.inr rfl) ho hc hd (λh' c' kp e=>fin its r' hz h' c' kp e) (by simp only[Bi] <;> lia)
theorem jX:bw X (.type "tuple") (λxs H Q=>∃p ys,xs=[.ref p]/\((eF X.K H p ys/\∀l,H l=none->Q (.ref l) (upd H l (.tup ys)))\/(dg X.K H p ys/\Q (.ref p) H))):=by
 intro pins s σ H xs us Q I r h;obtain⟨p,ys,rfl,h⟩:=h;obtain⟨u,rfl,rx⟩:=vals1 r;cases rx;rcases h with⟨hq,q⟩ | ⟨hq,q⟩
 ·obtain⟨its,r',pl,hz⟩:=I.list hq
  have hlen:=r'.length;refine call_tuple_list pl.isList (λh' kp=>?_) (by simp only[Bi] <;> lia)
  have I1:Inv X pins σ H { s with heap:=h' }:=I.kept (t':=s.toks) kp
  have I2:Inv X pins σ (upd H h'.objs.size (.tup ys)) { s with heap:=h'.push { cls:=.type "tuple",data:=.seq its.toArray } } :=
   I1.laid (t':=s.toks) (λb o e=>Bz _ e) (C1 _) (show bO X.prog X.w _ _ _ (.tup ys) from⟨hz,its,r',Go _ _⟩)
  exact⟨.ref h'.objs.size,_,I2,rfl,q _ (I1.hok.fresh (C1 _))⟩
 ·obtain⟨its,r',pl,hz⟩:=I.tuple hq
  exact call_tuple_same pl ⟨.ref p,H,I,rfl,q⟩
def B7(K:AC)(T:String)(x:V)(H:Hp):Prop:=match x with
 |.str _=>T = "str"
 |.int _=>T = "int"
 |.ref p=>(T = "list"/\∃xs,eF K H p xs)\/(T = "tuple"/\∃o,K.lookup p=some o/\o.cls=.type "tuple"/\o.dict=none) \/
  (T = "dict"/\((∃kvs,H p=some (.dK kvs))\/∃kvs,H p=some (.dT kvs)))\/(T = "set"/\∃S n,H p=some (.set S n))
 |_=>False
theorem zk{pins:List (Addr×Obj)}{σ:St}{H:Hp}{s:At}{T:String}{x:V}{v:Value}(I:Inv X pins σ H s)(r:RelV x v)(ty:B7 X.K T x H) :
  s.TypeIs v T/\∀a,v=.ref a->∃ob,s.heap.get? a=some ob/\ob.dict=none:=by
 cases x with
 |str z=>
  obtain⟨t,rfl⟩:=r;cases (show T = "str" from ty)
  exact⟨typeIs_str s z t,λ_ e=>nomatch e⟩
 |int i=>
  obtain⟨t,rfl⟩:=r;cases (show T = "int" from ty)
  exact⟨typeIs_int s i t,λ_ e=>nomatch e⟩
 |ref p=>
  cases r;rcases ty with⟨rfl,xs,hq⟩ | ⟨rfl,o,hk,hc,hd⟩ | ⟨rfl,hk⟩ | ⟨rfl,S,n,hk⟩
  ·obtain⟨its,_,pl,_⟩:=I.list hq
   refine⟨pl.isList.typeIs,λa e=>?_⟩
   cases e;obtain⟨o,n,e,c,hd,_⟩:=pl;exact⟨o,e,hd⟩
  ·refine⟨⟨o,I.pM p o hk,hc⟩,λa e=>?_⟩
   cases e;exact⟨o,I.pM _ o hk,hd⟩
  ·have z:∃o,s.heap.get? p=some o/\o.ExactDict:=by
    rcases hk with⟨kvs,hk⟩ | ⟨kvs,hk⟩
    ·obtain⟨_,_,_,_,o,_,_,e,ex,_⟩:=I.hok p _ hk
     exact⟨o,e,ex⟩
    ·obtain⟨_,_,_,_,o,_,_,e,ex,_⟩:=I.hok p _ hk
     exact⟨o,e,ex⟩
   obtain⟨o,e,ex⟩:=z;refine⟨⟨o,e,ex.1⟩,λa e2=>?_⟩
   cases e2;exact⟨o,e,ex.2.1⟩
  ·obtain⟨o,_,_,_,e,ex,_⟩:=I.hok p _ hk
   refine⟨⟨o,e,ex.1⟩,λa e2=>?_⟩
   cases e2;exact⟨o,e,ex.2.1⟩
 |_=>exact Dy ty
noncomputable def yb(K:AC)(T:String)(r:V->List V->Hp->VK->Prop)(to:TE)(t:TA):TE:=λσ H Q=>to σ H λx H1=>B7 K T x H1/\t σ H1 λxs H2=>r x xs H2 Q
variable{o e:Expr}{es:List Expr}{to:TE}{t:TA}{name:Str}{apos cpos:Pos}{T id:String}{r:V->List V->Hp->VK->Prop}
theorem iH(pa:PlainAttrs T)(slot:Slot T name id)(hty:typeOf (.builtin id)=pure (.type "method_descriptor"))(hm:Cg X id r)(ho:PE X o to)(ha:PA X (e::es) t)
  (hbase:attributeBase o name X.env (eval o X.env)=eval o X.env:=by rfl)
  (hfew:((ED cpos (C9 (e::es) X.env)).all (λx=> !x.1) && (backToKw cpos (keywordEach [] X.env)).all (λx=>x.1.isSome)
   && decide ((e::es).length+([]:List Keyword).length+(if ([]:List Keyword).isEmpty then 0 else 1)<30))=true:=by rfl)
  (hline:(apos.endLine == cpos.line)=true:=by rfl) (hs:C9 (e::es) X.env=(false,eval e X.env)::C9 es X.env:=by rfl) (hplain:(ED cpos (C9 es X.env)).any (·.1)=false:=by rfl) :
  PE X (.Call (.Attribute o name apos) (e::es) [] cpos) (yb X.K T r to t):=by
 intro pins s σ H Q I h;refine wpAny_Call_method_late hbase hfew hline rfl (bx (ho pins s σ H _ I h) λv s1 ⟨x,H1,I1,r1,ty,q1⟩=>?_)
 obtain⟨h1,h2⟩:=zk I1 r1 ty;refine⟨T,id,pa,slot,hty,h1,h2,?_⟩;have hA:=ha cpos pins s1 σ H1 _ I1 q1;rw[hs] at hA ⊢;refine Calls.callWith_builtin (by show (false || (ED cpos (C9 es X.env)).any (·.1))=false; rw[hplain] <;> rfl) (Calls.evalArgs_plain ?_)
 exact bx hA λus s2 ⟨vs,H2,I2,r2,q2⟩=>hm pins s2 σ H2 x vs v us Q I2 r1 r2 q2
end
end L2
namespace L2
open PySem PySem.Spec PyProof.Rows
def BR(X:Cx)(id:String)(r:V->List V->Hp->VK->Prop):Prop :=
 ∀(pins:List (Addr×Obj))(s:At)(σ:St)(H:Hp)(x:V)(xs:List V)(v:Value)(us:List Value)(Q:VK),Inv X pins σ H s->RelV x v->Vals xs us->r x xs H Q ->
  wpAny (model X.prog X.w) X.A (call (.builtin id) (v::us)) (EP X pins σ Q) X.xe s
theorem Vals.one:∀{x:V}{us:List Value},Vals [x] us->∃u,us=[u]/\RelV x u:=by
 intro x us h;cases h with | cons r t=>
 cases t;exact⟨_,rfl,r⟩
theorem Vals.eraseIdx:∀{xs:List V}{us:List Value}(i:Nat),Vals xs us->Vals (xs.eraseIdx i) (us.eraseIdx i)
 |_,_,_,.nil=>.nil
 |_,_,0,.cons _ t=>t
 |_,_,i+1,.cons r t=>.cons r (Vals.eraseIdx i t)
theorem ku{α:Type}:∀(l:List α)(i:Nat),(l.eraseIdx i).length<=l.length
 |[],_=>C1 _
 |_::_,0=>Dp _
 |_::r,i+1=>Nat.succ_le_succ (ku r i)
section
variable{X:Cx}{pins:List (Addr×Obj)}{σ:St}{H:Hp}{s:At}{l b:Addr}{xs ys zs:List V}
theorem Inv.lset{its its':List Value}{n:Nat}{f:Array Value->Array Value}{t':Nat}(I:Inv X pins σ H s)(hH:H l=some (.lst xs))
  (e:s.heap.get? l=some { cls:=.type "list",data:=.seq its.toArray n }) (hf:f its.toArray=its'.toArray) (hv:Vals ys its') (hz:ys.length<=C7) :
  Inv X pins σ (upd H l (.lst ys)) { s with heap:=s.heap.update l (Ch f),toks:=t' }:=by
 have q:=PySem.IsL.update e f;rw[hf] at q;refine I.write (x:=l) (e:=l) (by rw[hH]; exact trivial) (.inl rfl) (λb' u hb hu=>(Ep s.heap (Ch f) (Dx hb)).trans hu) ⟨_,q⟩ ?_
 exact⟨hz,its',_,hv,q⟩
theorem Inv.lnew{its:List Value}{t':Nat}(I:Inv X pins σ H s)(hv:Vals ys its)(hz:ys.length<=C7) :
  Inv X pins σ (upd H s.heap.objs.size (.lst ys)) { s with heap:=s.heap.push { cls:=.type "list",data:=.seq its.toArray },toks:=t' } :=
 I.laid (λ_ _ q=>Bz _ q) (C1 _) ⟨hz,its,0,hv,CA _ rfl⟩
theorem Inv.fresh(I:Inv X pins σ H s):H s.heap.objs.size=none:=I.hok.fresh (C1 _)
theorem Inv.iM(I:Inv X pins σ H s)(hH:H l=some (.lst xs)):xs.length<=C7/\∃ (its:List Value) (n:Nat),Vals xs its/\xs.length=its.length/\s.heap.get? l=some { cls:=.type "list",data:=.seq its.toArray n }:=by
 obtain⟨z,its,n,r,e⟩:=I.hok l _ hH;exact⟨z,its,n,r,r.length,e⟩
theorem sQ{n:Nat}(h:n<=C7):EN n=false:=by
 unfold EN;exact decide_eq_false (by lia)
end
section
variable{X:Cx}
def fU:V->List V->Hp->VK->Prop:=λx vs H Q=>∃l xs y,x=.ref l/\vs=[y]/\H l=some (.lst xs)/\xs.length<C7/\Q .non (upd H l (.lst (xs++[y])))
theorem ck:BR X "list.append" fU:=by
 intro pins s σ H x vs v us Q I rx rv h;obtain⟨l,xs,y,rfl,rfl,hH,hz,q⟩:=h;cases rx;obtain⟨u,rfl,ru⟩:=rv.one;obtain⟨z,its,n,r,hl,e⟩:=I.iM hH;refine Im D2 ⟨_,e,rfl⟩ F.entry_list_append (F.args_list_append_2 _ _) (PySem.list_append l its.toArray n u (by rw[Bi]; lia)) ⟨e,?_⟩
 refine⟨.non,_,I.lset (its':=its++[u]) hH e (by simp) (r.append (.cons ru .nil)) ?_,rfl,q⟩
 rw[C4,EI];lia
def vZ:V->List V->Hp->VK->Prop:=λx vs H Q=>∃l b xs zs,x=.ref l/\vs=[.ref b]/\H l=some (.lst xs)/\H b=some (.lst zs)/\xs.length+zs.length<=C7/\Q .non (upd H l (.lst (xs++zs)))
theorem AU:BR X "list.extend" vZ:=by
 intro pins s σ H x vs v us Q I rx rv h;obtain⟨l,b,xs,zs,rfl,rfl,hH,hB,hz,q⟩:=h;cases rx;obtain⟨u,rfl,ru⟩:=rv.one;cases ru;obtain⟨z,its,n,r,hl,e⟩:=I.iM hH;obtain⟨z2,its2,n2,r2,hl2,e2⟩:=I.iM hB;have hsz:its.toArray.size+its2.toArray.size<=C7:=by rw[Bi,Bi]; lia
 have hlong:¬ (!its.toArray.isEmpty && EN (its.toArray.size+its2.toArray.size))=true:=by
  rw[sQ hsz,Bool.and_false];exact DJ
 refine Im F.slot_list_extend ⟨_,e,rfl⟩ F.entry_list_extend (F.args_list_extend_2 _ _)
  (AutoSeq1.list_extend_list_list_0 l its.toArray n b its2.toArray n2 hlong (by rw[Bi]; lia) (by lia)) ⟨e,e2,?_⟩
 refine⟨.non,_,I.lset (its':=its++its2) hH e (by simp) (r.append r2) ?_,rfl,q⟩
 rw[C4];lia
def om:V->List V->Hp->VK->Prop:=λx vs H Q=>∃l xs i k y,x=.ref l/\vs=[.int i]/\H l=some (.lst xs)/\-(2 ^ 63)<=i/\i<2 ^ 63/\Ge i xs.length=some k/\xs[k]? = some y/\Q y (upd H l (.lst (xs.eraseIdx k)))
theorem sR:BR X "list.pop" om:=by
 intro pins s σ H x vs v us Q I rx rv h;obtain⟨l,xs,i,k,y,rfl,rfl,hH,h1,h2,hk,hy,q⟩:=h;cases rx;obtain⟨u,rfl,ru⟩:=rv.one;obtain⟨t,rfl⟩:=ru;obtain⟨z,its,n,r,hl,e⟩:=I.iM hH;obtain⟨w,hw,rw'⟩:=r.get hy;refine Im He ⟨_,e,rfl⟩ F.entry_list_pop (F.args_list_pop_2 _ _)
  (MeetsSeq.list_pop_at l its.toArray n i t k w (fitsIndex_both h1 h2) (by rw[Bi,<-hl]; exact hk) (by rw[<-HA]; exact hw) (by rw[Bi]; lia)) ⟨e,?_⟩
 refine⟨y,_,I.lset (its':=its.eraseIdx k) hH e ?_ (r.eraseIdx k) ?_,rw',q⟩
 ·show its.toArray.eraseIdxIfInBounds k=(its.eraseIdx k).toArray
  rw[List.eraseIdxIfInBounds_toArray]
 ·have:=ku xs k
  lia
noncomputable def rCat:R2:=λx y H Q=>∃l b xs zs,x=.ref l/\y=.ref b/\H l=some (.lst xs)/\H b=some (.lst zs)/\xs.length+zs.length<=C7/\∀p,H p=none->Q (.ref p) (upd H p (.lst (xs++zs)))
theorem zl:cH X (Cz .Add) rCat:=by
 intro pins s σ H x y v u Q I rx ry h;obtain⟨l,b,xs,zs,rfl,rfl,hH,hB,hz,q⟩:=h;cases rx;cases ry;obtain⟨z,its,n,r,hl,e⟩:=I.iM hH;obtain⟨z2,its2,n2,r2,hl2,e2⟩:=I.iM hB;refine PySem.P.add_list e e2 ?_ (by rw[Bi,Bi]; lia)
 have ea:its.toArray++its2.toArray=(its++its2).toArray:=by simp
 rw[ea];exact⟨.ref _,_,I.lnew (t':=s.toks) (r.append r2) (by rw[C4]; lia),rfl,q _ I.fresh⟩
end
end L2
namespace L2
open PySem PySem.Spec PyProof.Rows
section
variable{κ:Type}[DecidableEq κ]
noncomputable def dS(kvs:List (κ×V))(k:κ):Option V:=(kvs.find? λkv=>decide (kv.1=k)).map (·.2)
noncomputable def putK(kvs:List (κ×V))(k:κ)(v:V):List (κ×V) :=
 if (kvs.any λkv=>decide (kv.1=k))=true then kvs.map (λkv=>if kv.1=k then (kv.1,v) else kv) else kvs++[(k,v)]
theorem bT{p:κ×V}{r:List (κ×V)}{k:κ}(e:p.1=k):dS (p::r) k=some p.2:=by simp[dS,D0,e]
theorem cV{p:κ×V}{r:List (κ×V)}{k:κ}(e:¬p.1=k):dS (p::r) k=dS r k:=by simp[dS,D0,e]
theorem mG(k:κ):∀kvs:List (κ×V),(kvs.any λkv=>decide (kv.1=k))=(dS kvs k).isSome
 |[]=>rfl
 |p::r=>by
  rw[DG]
  by_cases e:p.1=k
  ·simp only[bT e,decide_eq_true e,Bool.true_or,HP]
  ·rw[cV e,decide_eq_false e,Iy]; exact mG k r
theorem dI(kvs:List (κ×V))(k:κ)(v:V):(putK kvs k v).length<=kvs.length+1:=by
 unfold putK
 split
 ·rw[C0]; lia
 ·rw[C4,BM,DQ]; lia
theorem jR.d8{o:Option V}{u:Option Value}(r:jR o u):o.isSome=u.isSome:=by
 cases o with
 |none=>cases u with
  |none=>rfl
  |some _=>exact(show False from r).elim
 |some _=>cases u with
  |none=>exact(show False from r).elim
  |some _=>rfl
theorem KV.val{kvs:List (κ×V)}{vs:List (κ×Value)}(r:KV kvs vs)(k:κ):jR (dS kvs k) (GI vs k):=by
 unfold KV at r
 induction r with
 |nil=>exact DT
 |@cons p q ps qs h t ih=>
  obtain⟨h1,h2⟩:=h
  by_cases e:p.1=k
  ·have e':q.1=k:=h1.symm.trans e
   have b:GI (q::qs) k=some q.2:=by simp[GI,D0,e']
   rw[bT e,b]; exact h2
  ·have e':¬q.1=k:=λz=>e (h1.trans z)
   have b:GI (q::qs) k=GI qs k:=by simp[GI,D0,e']
   rw[cV e,b]; exact ih
theorem KV.any{kvs:List (κ×V)}{vs:List (κ×Value)}(r:KV kvs vs)(k:κ):(kvs.any λkv=>decide (kv.1=k))=vs.any λkv=>decide (kv.1=k):=by
 unfold KV at r
 induction r with
 |nil=>rfl
 |cons h t ih=>rw[DG,DG,ih,h.1]
theorem KV.repl{kvs:List (κ×V)}{vs:List (κ×Value)}(r:KV kvs vs)(k:κ){y:V}{u:Value}(ry:RelV y u) :
  KV (kvs.map λkv=>if kv.1=k then (kv.1,y) else kv) (vs.map λkv=>if kv.1=k then (kv.1,u) else kv):=by
 unfold KV at r ⊢
 induction r with
 |nil=>exact .nil
 |@cons p q ps qs h t ih=>
  rw[CC,CC];refine .cons ?_ ih;obtain⟨h1,h2⟩:=h
  by_cases e:p.1=k
  ·rw[if_pos e,if_pos (h1.symm.trans e)]; exact⟨h1,ry⟩
  ·rw[if_neg e,if_neg (λz=>e (h1.trans z))]; exact⟨h1,h2⟩
theorem KV.put{kvs:List (κ×V)}{vs:List (κ×Value)}(r:KV kvs vs)(k:κ){y:V}{u:Value}(ry:RelV y u):KV (putK kvs k y) (stored vs k u):=by
 unfold putK stored;rw[r.any k]
 by_cases e:(vs.any λkv=>decide (kv.1=k))=true
 ·rw[if_pos e,if_pos e]; exact r.repl k ry
 ·rw[if_neg e,if_neg e]; exact Ip r ⟨rfl,ry⟩
theorem KV.length{kvs:List (κ×V)}{vs:List (κ×Value)}(r:KV kvs vs):kvs.length=vs.length:=Ea r
end
theorem jg{P:CH}{w:World}{k:Key}{u:Value}(r:RelV (kV k) u):(bh P w).is k u=true:=by
 cases k with
 |inl i=>obtain⟨t,e⟩:=(show ∃t,u=Gm i t from r); subst e; exact mh P w i t
 |inr x=>obtain⟨t,e⟩:=(show ∃t,u=Hq x t from r); subst e; exact mj P w x t
theorem kB{P:CH}{w:World}:∀{ks:List Key}{us:List Value},Vals (ks.map kV) us->ItemsAre (bh P w) ks us
 |[],_,r=>by rw[ER] at r; cases r; exact .nil
 |k::ks,_,r=>by
  rw[CC] at r;cases r with
  |cons h t=>exact .cons (jg h) (kB t)
abbrev KT(H:Hp):List (List Key×V)->List (List Key×Addr×Value)->Prop:=Dz λp q=>p.1=q.1/\H q.2.1=some (.tup (p.1.map kV))/\RelV p.2 q.2.2
theorem KT.val{H:Hp}{kvs:List (List Key×V)}{xs:List (List Key×Addr×Value)}(r:KT H kvs xs)(k:List Key):jR (dS kvs k) ((atKey xs k).map (·.2)):=by
 induction r with
 |nil=>exact DT
 |@cons p q ps qs h t ih=>
  obtain⟨h1,_,h2⟩:=h
  by_cases e:p.1=k
  ·have e':q.1=k:=h1.symm.trans e
   have b:atKey (q::qs) k=some q.2:=by simp[atKey,D0,e']
   rw[bT e,b]; exact h2
  ·have e':¬q.1=k:=λz=>e (h1.trans z)
   have b:atKey (q::qs) k=atKey qs k:=by simp[atKey,D0,e']
   rw[cV e,b]; exact ih
theorem KT.repl{H:Hp}{kvs:List (List Key×V)}{xs:List (List Key×Addr×Value)}(r:KT H kvs xs)(k:List Key){y:V}{u:Value}(ry:RelV y u) :
  KT H (kvs.map λkv=>if kv.1=k then (kv.1,y) else kv) (xs.map (putAt k u)):=by
 induction r with
 |nil=>exact .nil
 |@cons p q ps qs h t ih=>
  rw[CC,CC];refine .cons ?_ ih;obtain⟨h1,h2,h3⟩:=h;unfold putAt
  by_cases e:p.1=k
  ·rw[if_pos e,if_pos (h1.symm.trans e)]; exact⟨h1,h2,ry⟩
  ·rw[if_neg e,if_neg (λz=>e (h1.trans z))]; exact⟨h1,h2,h3⟩
theorem KT.put{H:Hp}{kvs:List (List Key×V)}{xs:List (List Key×Addr×Value)}(r:KT H kvs xs)(k:List Key){b:Addr}{y:V}{u:Value}(hb:H b=some (.tup (k.map kV)))(ry:RelV y u) :
  KT H (putK kvs k y) (storedH xs k b u):=by
 have e:(kvs.any λkv=>decide (kv.1=k))=(atKey xs k).isSome:=by
  rw[mG,(r.val k).d8,Fg]
 unfold putK storedH;rw[e]
 by_cases q:(atKey xs k).isSome=true
 ·rw[if_pos q,if_pos q]; exact r.repl k ry
 ·rw[if_neg q,if_neg q]; exact Ip r ⟨rfl,hb,ry⟩
theorem KT.keeps{H H':Hp}{kvs:List (List Key×V)}{xs:List (List Key×Addr×Value)}(r:KT H kvs xs)(ht:∀b ys,H b=some (.tup ys)->H' b=some (.tup ys)):KT H' kvs xs :=
 Dz.mapP r λ_ _ z=>⟨z.1,ht _ _ z.2.1,z.2.2⟩
section
variable{P:CH}{w:World}{H:Hp}{h:Heap}{a:Addr}
theorem yc{u:HO}(ok:gr P w H h)(e:Rd H a u):bO P w H h a u:=e.ok ok
theorem jh{kvs:List (Key×V)}(ok:gr P w H h)(e:Rd H a (.dK kvs)):kvs.length<=C7/\(a == Dt)=false/\∃vs,KV kvs vs/\h.DictOf (bh P w) a vs :=
 show bO P w H h a (.dK kvs) from yc ok e
theorem pS{kvs:List (Key×V)}(ok:gr P w H h)(e:H a=some (.dK kvs)):kvs.length<=C7/\(a == Dt)=false/\∃vs,KV kvs vs/\h.DictOf (bh P w) a vs:=jh ok (.inl e)
theorem ji{ks:List Key}(ok:gr P w H h)(e:H a=some (.tup (ks.map kV))):(GZ (bh P w)).is h ks a:=by
 obtain⟨_,its,r,o,h1,h2,n,h3⟩:=(show bO P w H h a (.tup (ks.map kV)) from ok a _ e)
 exact⟨o,its.toArray,n,h1,h2,h3,by simpa using kB r⟩
theorem kC{kvs:List (List Key×V)}(ok:gr P w H h)(e:Rd H a (.dT kvs)):kvs.length<=C7/\(a == Dt)=false /\
  ∃xs,KT H kvs xs/\h.DictOfH (GZ (bh P w)) a xs:=by
 obtain⟨z,y,xs,r,o,es,ep,h1,h2,h3,h4,h5⟩:=(show bO P w H h a (.dT kvs) from yc ok e)
 refine⟨z,y,xs,r,o,es,ep,h1,h2,h3,h4,λx hx=>?_,h5⟩
 have all:∀{l:List (List Key×V)}{m:List (List Key×Addr×Value)},KT H l m->∀x∈m,(GZ (bh P w)).is h x.1 x.2.1:=by
  intro l m q
  induction q with
  |nil=>intro x hx; exact nomatch hx
  |@cons p q ps qs hq t ih=>
   intro x hx;rcases lK hx with e | hx
   ·subst e
    exact ji ok (by rw[<-hq.1]; exact hq.2.1)
   ·exact ih x hx
 exact all r x hx
theorem dt_of{kvs:List (List Key×V)}(ok:gr P w H h)(e:H a=some (.dT kvs)):kvs.length<=C7/\(a == Dt)=false /\
  ∃xs,KT H kvs xs/\h.DictOfH (GZ (bh P w)) a xs:=kC ok (.inl e)
end
def d9(H:Hp)(a:Addr)(y:V)(r:Option V):Prop :=
 (∃kvs k,Rd H a (.dK kvs)/\y=kV k/\r=dS kvs k)\/∃kvs k b,Rd H a (.dT kvs)/\y=.ref b/\H b=some (.tup (k.map kV))/\r=dS kvs k
def qP(H:Hp)(a:Addr)(y v:V)(H':Hp):Prop :=
 (∃kvs k,H a=some (.dK kvs)/\y=kV k/\kvs.length<C7/\H'=upd H a (.dK (putK kvs k v))) \/
 ∃kvs k b,H a=some (.dT kvs)/\y=.ref b/\H b=some (.tup (k.map kV))/\kvs.length<C7/\H'=upd H a (.dT (putK kvs k v))
theorem d9.k{H:Hp}{a:Addr}{kvs:List (Key×V)}{k:Key}(e:H a=some (.dK kvs)):d9 H a (kV k) (dS kvs k):=.inl ⟨kvs,k,.inl e,rfl,rfl⟩
theorem qP.k{H:Hp}{a:Addr}{kvs:List (Key×V)}{k:Key}{v:V}(e:H a=some (.dK kvs))(hl:kvs.length<C7):qP H a (kV k) v (upd H a (.dK (putK kvs k v))):=.inl ⟨kvs,k,e,rfl,hl,rfl⟩
section
variable{X:Cx}{pins:List (Addr×Obj)}{σ:St}{H:Hp}{s:At}{a:Addr}{y v:V}{u r:Value}{o:Option V}{A:Cw}{E:Value->At->Prop}
theorem Inv.big(I:Inv X pins σ H s):Dt<s.heap.objs.size:=by
 have h:CQ<s.heap.objs.size:=(I.mod.glob.keeps I.bk).lt;exact Nat.lt_trans (by decide) h
theorem qQ{Q:Value->At->Prop}(hu:A.units+1<cLine)(I:Inv X pins σ H s)(g:d9 H a y (some v))(ry:RelV y u)(h:∀w' s',Inv X pins σ H s'->RelV v w'->Q w' s') :
  wpAny (model X.prog X.w) A (Eo (.ref a) u) Q E s:=by
 rcases g with⟨kvs,k,e,ey,l⟩ | ⟨kvs,k,b,e,ey,eb,l⟩
 ·subst ey
  obtain⟨z,hd,vs,rel,dd⟩:=jh I.hok e;obtain⟨w',hw,rw'⟩:=jR.some_of (v:=v) (o:=GI vs k) (by rw[l]; exact rel.val k)
  exact wpAny_getItem_of (jg ry) dd.mapOf hw (h w' _ (I.tok _) rw')
 ·subst ey
  cases (show u=DZ b from ry)
  obtain⟨z,hd,xs,rel,dd⟩:=kC I.hok e;obtain⟨w',hw,rw'⟩:=jR.some_of (v:=v) (o:=(atKey xs k).map (·.2)) (by rw[l]; exact rel.val k)
  obtain⟨p,hp,hp2⟩:=D9.mp hw;refine wpAny_getItem_heap (Eh hu) (ji I.hok eb) dd hp ?_;rw[hp2];exact h w' _ (I.tok _) rw'
theorem d_in{Q:Value->At->Prop}(hu:A.units+1<cLine)(I:Inv X pins σ H s)(g:d9 H a y o)(ry:RelV y u)(h:∀s',Inv X pins σ H s'->Q (.bool o.isSome) s') :
  wpAny (model X.prog X.w) A (CN .In u (.ref a)) Q E s:=by
 rcases g with⟨kvs,k,e,ey,l⟩ | ⟨kvs,k,b,e,ey,eb,l⟩
 ·subst ey
  obtain⟨z,hd,vs,rel,dd⟩:=jh I.hok e;refine wpAny_in_of (jg ry) hd dd.mapOf ?_;rw[<-(rel.val k).d8,<-l];exact h _ (I.tok _)
 ·subst ey
  cases (show u=DZ b from ry)
  obtain⟨z,hd,xs,rel,dd⟩:=kC I.hok e;refine wpAny_in_heap (Eh hu) (ji I.hok eb) hd dd ?_;have q:=(rel.val k).d8;rw[Fg] at q;rw[<-q,<-l];exact h _ (I.tok _)
theorem v5{Q:Value->At->Prop}(hu:A.units+1<cLine)(I:Inv X pins σ H s)(g:d9 H a y o)(ry:RelV y u)(h:∀s',Inv X pins σ H s'->Q (.bool (!o.isSome)) s') :
  wpAny (model X.prog X.w) A (CN .NotIn u (.ref a)) Q E s:=by
 rcases g with⟨kvs,k,e,ey,l⟩ | ⟨kvs,k,b,e,ey,eb,l⟩
 ·subst ey
  obtain⟨z,hd,vs,rel,dd⟩:=jh I.hok e;refine wpAny_notIn_of (jg ry) hd dd.mapOf ?_;rw[<-(rel.val k).d8,<-l];exact h _ (I.tok _)
 ·subst ey
  cases (show u=DZ b from ry)
  obtain⟨z,hd,xs,rel,dd⟩:=kC I.hok e;refine wpAny_notIn_heap (Eh hu) (ji I.hok eb) hd dd ?_;have q:=(rel.val k).d8;rw[Fg] at q;rw[<-q,<-l];exact h _ (I.tok _)
theorem iU{h':Heap}{t':Nat}{ob:HO}(I:Inv X pins σ H s)(mu:Bj (H a))(hs:Do a s.heap h')(he:∃q,h'.get? a=some q)(new:bO X.prog X.w (upd H a ob) h' a ob) :
  Inv X pins σ (upd H a ob) { s with heap:=h',toks:=t' } :=
 I.write (x:=a) (e:=a) mu (.inl rfl) (λb q hb z=>(hs.2 b hb).trans z) he new
theorem oq{P:CH}{w:World}{H':Hp}{h':Heap}{kvs:List (Key×V)}{vs:List (Key×Value)}(z:kvs.length<=C7)(hd:(a == Dt)=false)(rel:KV kvs vs)(dd:h'.DictOf (bh P w) a vs) :
  bO P w H' h' a (.dK kvs):=⟨z,hd,vs,rel,dd⟩
theorem qR{H':Hp}{Q:Unit->At->Prop}(hu:A.units+1<cLine)(I:Inv X pins σ H s)(g:qP H a y v H')(ry:RelV y u)(rv:RelV v r)(h:∀s',Inv X pins σ H' s'->Q () s') :
  wpAny (model X.prog X.w) A (setItem (.ref a) u r) Q E s:=by
 rcases g with⟨kvs,k,e,ey,l,eH⟩ | ⟨kvs,k,b,e,ey,eb,l,eH⟩
 ·subst ey eH
  obtain⟨z,hd,vs,rel,dd⟩:=pS I.hok e;have hz:vs.length<=C7:=by rw[<-rel.length]; exact z
  have hl:(putK kvs k v).length<=C7:=by have:=dI kvs k v; lia
  refine wpAny_setItem_pairs (hsz:=hz) (jg ry) dd λh' dd' hs=>h _ ?_
  have he:∃q,h'.get? a=some q:=let ⟨q,_,_,hq,_⟩:=dd'; ⟨q,hq⟩;exact iU I (by rw[e]; exact DT) hs he (oq hl hd (rel.put k rv) dd')
 ·subst ey eH
  cases (show u=DZ b from ry)
  obtain⟨z,hd,xs,rel,dd⟩:=dt_of I.hok e;have hz:xs.length<=C7:=by rw[<-Ea rel]; exact z
  have hl:(putK kvs k v).length<=C7:=by have:=dI kvs k v; lia
  refine wpAny_setItem_heap (hsz:=hz) (Eh hu) (ji I.hok eb) dd λh' dd' hs=>h _ ?_
  obtain⟨q,es,ep,hq,h2,h3,h4,_,h5⟩:=dd';refine iU I (by rw[e]; exact DT) hs ⟨q,hq⟩ ⟨hl,hd,_,(rel.put k eb rv).keeps λc ys ec=>?_,q,es,ep,hq,h2,h3,h4,h5⟩
  rw[az (rX ec e (λz=>nomatch z))]
  exact ec
end
section
variable{X:Cx}{pins:List (Addr×Obj)}{σ:St}{H:Hp}{s:At}{a:Addr}{kvs:List (Key×V)}{k:Key}{u:Value}{A:Cw}{E:Value->At->Prop}
theorem d_len{Q:Value->At->Prop}(I:Inv X pins σ H s)(e:Rd H a (.dK kvs))(h:∀t s',Inv X pins σ H s'->Q (.int kvs.length t) s'):wpAny (model X.prog X.w) A (call (.builtin "len") [.ref a]) Q E s:=by
 obtain⟨z,hd,vs,rel,dd⟩:=jh I.hok e;refine call_len_dict hd dd (by rw[<-rel.length]; rw[Cy] at z; lia) ?_
 rw[<-rel.length];exact h _ _ (I.tok _)
end
def lB(i:Expr):Prop:=∀ov iv,Gj i false ov iv=operate [ov,iv] (Eo ov iv)
theorem v7{prog:CH}{w:World}{A:Cw}{E:Value->At->Prop}{s:At}{env:Env}{value slice:Expr}{pos:Pos}{T id:String}{Q:Value->At->Prop}
  (hl:typeLookup (.type T) "__getitem__" = pure (some (.builtin id))) (hs:lB slice)
  (h:wpAny (model prog w) A (eval value env) (λo s₁=>wpAny (model prog w) A (eval slice env) (λi s₂=>s₂.TypeIs o T/\wpAny (model prog w) A (Eo o i) Q E s₂) E s₁) E s) :
  wpAny (model prog w) A (eval (.Subscript value slice pos) env) Q E s:=by
 refine Iv (Dl h (λo s₁ h₁=>Dl h₁ (λi s₂ h₂=>?_) λ_ _ x=>x) λ_ _ x=>x)
 obtain⟨hT,h₂⟩:=h₂;unfold HX;refine Ap ?_;rw[getitemInPython_of_ne hT.not_modules];refine Ap (wpAny_specialOf hT hl ?_);have fin:wpAny (model prog w) A (Gj slice false o i) (λr s₃=>wpAny (model prog w) A (letTemporaryGo value o r >>= λ_=>pure r) Q E s₃) E s₂:=by
  rw[hs o i];exact wpAny_operating (Dl h₂ (λr s₃ h₃=>Ap (wpAny_letTemporaryGo (B2 h₃))) λ_ _ x=>x)
 first
  |exact B2 (Ap fin)
  |exact Ap (B2 (Ap fin))
  |exact Ap fin
theorem mH{X:Cx}{pins:List (Addr×Obj)}{σ:St}{H:Hp}{s:At}{a:Addr}{y:V}{o:Option V}(I:Inv X pins σ H s)(g:d9 H a y o):s.TypeIs (.ref a) "dict" := by
 rcases g with⟨kvs,k,e,_,_⟩ | ⟨kvs,k,b,e,_,_,_⟩
 ·obtain⟨_,_,vs,_,dd⟩:=jh I.hok e
  exact dd.typeIs
 ·obtain⟨_,_,xs,_,dd⟩:=kC I.hok e
  exact dd.typeIs
noncomputable def pT(td ty:TE):TE:=λσ H Q=>td σ H λx H1=>ty σ H1 λy H2=>∃a v,x=.ref a/\d9 H2 a y (some v)/\Q v H2
noncomputable def tDIn(ty td:TE):TE:=λσ H Q=>ty σ H λy H1=>td σ H1 λx H2=>∃a o,x=.ref a/\d9 H2 a y o/\Q (.bl o.isSome) H2
noncomputable def v8(ty td:TE):TE:=λσ H Q=>ty σ H λy H1=>td σ H1 λx H2=>∃a o,x=.ref a/\d9 H2 a y o/\Q (.bl (!o.isSome)) H2
noncomputable def sS(td ty tv:TE):TS:=λD σ H=>tv σ H λv H1=>td σ H1 λx H2=>ty σ H2 λy H3=>∃a H4,x=.ref a/\qP H3 a y v H4/\D.nx σ H4
section
variable{X:Cx}{o i e value:Expr}{pos pos' tpos:Pos}{td ty tv:TE}
theorem lC(hu:X.A.units+1<cLine)(ho:PE X o td)(hi:PE X i ty)(hs:lB i):PE X (.Subscript o i pos) (pT td ty):=by
 intro pins s σ H Q I h;refine v7 PySem.F.slot_dict_getitem.lookup hs (bx (ho pins s σ H _ I h) λu s1 ⟨x,H1,I1,rx,q1⟩=>bx (hi pins s1 σ H1 _ I1 q1) λiv s2 ⟨y,H2,I2,ry,a,v,ex,g,q2⟩=>?_)
 subst ex;obtain rfl:u=DZ a:=rx;exact⟨mH I2 g,qQ hu I2 g ry λw' s3 I3 rw'=>⟨v,H2,I3,rw',q2⟩⟩
theorem sU(hu:X.A.units+1<cLine)(hi:PE X i ty)(ho:PE X o td):PC X .In i o (tDIn ty td):=by
 intro pins s σ H Q I h;refine bx (hi pins s σ H _ I h) λiv s1 ⟨y,H1,I1,ry,q1⟩=>bx (ho pins s1 σ H1 _ I1 q1) λu s2 ⟨x,H2,I2,rx,a,ov,ex,g,q2⟩=>?_
 subst ex;obtain rfl:u=DZ a:=rx;exact d_in hu I2 g ry λs3 I3=>⟨.bl ov.isSome,H2,I3,rfl,q2⟩
theorem qS(hu:X.A.units+1<cLine)(hi:PE X i ty)(ho:PE X o td):PC X .NotIn i o (v8 ty td):=by
 intro pins s σ H Q I h;refine bx (hi pins s σ H _ I h) λiv s1 ⟨y,H1,I1,ry,q1⟩=>bx (ho pins s1 σ H1 _ I1 q1) λu s2 ⟨x,H2,I2,rx,a,ov,ex,g,q2⟩=>?_
 subst ex;obtain rfl:u=DZ a:=rx;exact v5 hu I2 g ry λs3 I3=>⟨.bl (!ov.isSome),H2,I3,rfl,q2⟩
theorem pU(hu:X.A.units+1<cLine)(ho:PE X o td)(hi:PE X i ty)(hv:PE X value tv)(hs:Dh value (some (.Subscript o i pos')) pos.line X.env=pure false) :
  PS X (.Assign [.Subscript o i pos'] value pos) (sS td ty tv):=by
 intro pins s σ H D I h;refine wpAny_Assign_Subscript (bx (hv pins s σ H _ I h) λr s1 ⟨v,H1,I1,rv,q1⟩=>bx (ho pins s1 σ H1 _ I1 q1) λu s2 ⟨x,H2,I2,rx,q2⟩=>bx (hi pins s2 σ H2 _ I2 q2) λiv s3 ⟨y,H3,I3,ry,a,H4,ex,g,q3⟩=>?_) hs
 subst ex;obtain rfl:u=DZ a:=rx;exact qR hu I3 g ry rv λs4 I4=>⟨σ,H4,I4,q3⟩
end
theorem mJ{P:CH}{w:World}{H:Hp}(h:Heap)(hb:Dt<h.objs.size):bO P w H (h.push { cls:=.type "dict",data:=.dict #[] }) h.objs.size (.dK []) :=
 ⟨DR _,beq_eq_false_iff_ne.mpr (Dx (CF hb)),[],.nil,Heap.DictOf.new h⟩
def jj:List (TE×TE)->St->Hp->(List (V×V)->Hp->Prop)->Prop
 |[],_,H,Q=>Q [] H
 |(tk,tv)::r,σ,H,Q=>tk σ H λx H1=>tv σ H1 λy H2=>jj r σ H2 λps H3=>Q ((x,y)::ps) H3
abbrev VV:List (V×V)->List (Value×Value)->Prop:=Dz λp q=>RelV p.1 q.1/\RelV p.2 q.2
def AV(X:Cx)(pos:Pos)(keys:List (Option Expr))(values:List Expr)(trs:List (TE×TE)):Prop :=
 ∀(pins:List (Addr×Obj))(s:At)(σ:St)(H:Hp)(Q:List (V×V)->Hp->Prop),Inv X pins σ H s->jj trs σ H Q ->
  wpAny (model X.prog X.w) X.A (evalPairs (pairTrees keys values X.env pos)) (λvs s'=>∃ps H',Inv X pins σ H' s'/\VV ps vs/\Q ps H') X.xe s
theorem pV{X:Cx}{pos:Pos}:AV X pos [] [] []:=λpins s σ H Q I h=>pairTrees_nil_walk ⟨[],H,I,.nil,h⟩
theorem gP{X:Cx}{pos:Pos}{k v:Expr}{ks:List (Option Expr)}{vs:List Expr}{tk tv:TE}{trs:List (TE×TE)}(hk:PE X k tk)(hv:PE X v tv)(hr:AV X pos ks vs trs) :
  AV X pos (some k::ks) (v::vs) ((tk,tv)::trs):=λpins s σ H Q I h=>
 pairTrees_cons_walk (bx (hk pins s σ H _ I h) λu s1 ⟨x,H1,I1,rx,q1⟩=>bx (hv pins s1 σ H1 _ I1 q1) λw2 s2 ⟨y,H2,I2,ry,q2⟩=>
  bx (hr pins s2 σ H2 _ I2 q2) λws s3 ⟨ps,H3,I3,rel,q3⟩=>⟨(x,y)::ps,H3,I3,.cons ⟨rx,ry⟩ rel,q3⟩)
noncomputable def dU(kvs more:List (Key×V)):List (Key×V):=more.foldl (λacc kv=>putK acc kv.1 kv.2) kvs
theorem KV.merge:∀{more:List (Key×V)}{rs:List (Key×Value)}{kvs:List (Key×V)}{vs:List (Key×Value)},KV more rs->KV kvs vs->KV (dU kvs more) (merged vs rs):=by
 intro more rs kvs vs r;unfold KV at r
 induction r generalizing kvs vs with
 |nil=>intro q; exact q
 |@cons p q ps qs h t ih=>
  intro r0;have e:KV (putK kvs p.1 p.2) (stored vs q.1 q.2):=by
   have:=r0.put p.1 h.2;rw[<-h.1]; exact this
  exact ih e
theorem gg:∀(more kvs:List (Key×V)),(dU kvs more).length<=kvs.length+more.length
 |[],kvs=>by show kvs.length<=kvs.length+0; lia
 |p::r,kvs=>by
  have h1:=gg r (putK kvs p.1 p.2);have h2:=dI kvs p.1 p.2;show (dU (putK kvs p.1 p.2) r).length<=_;rw[BM]; lia
theorem jk{P:CH}{w:World}:∀{kvs:List (Key×V)}{ws:List (Value×Value)},VV (kvs.map λkv=>(kV kv.1,kv.2)) ws->∃rs,Carries (bh P w) ws rs/\KV kvs rs
 |[],_,r=>by rw[ER] at r; cases r; exact⟨[],DT,.nil⟩
 |p::kvs,_,r=>by
  rw[CC] at r;cases r with
  |@cons a b as bs h t=>
   obtain⟨rs,c,q⟩:=jk (P:=P) (w:=w) t;obtain⟨b1,b2⟩:=b;exact⟨(p.1,b2)::rs,⟨jg h.1,rfl,c⟩,.cons ⟨rfl,h.2⟩ q⟩
noncomputable def tDisp(trs:List (TE×TE)):TE:=λσ H Q=>∀p,H p=none->jj trs σ (upd H p (.dK [])) λps H2=>H2 p=some (.dK [])/\∃kvs:List (Key×V),ps=kvs.map (λkv=>(kV kv.1,kv.2))/\kvs.length<=15/\Q (.ref p) (upd H2 p (.dK (dU [] kvs)))
theorem pW{X:Cx}{pos:Pos}{keys:List (Option Expr)}{values:List Expr}{trs:List (TE×TE)}(h:AV X pos keys values trs)(hall:keys.all (·.isSome)=true)(hl:keys.length=values.length)(h0:keys≠[])
  (h15:keys.length<=15):PE X (.Dict keys values pos) (tDisp trs):=by
 intro pins s σ H Q I q;have hn:=I.hok.fresh (C1 s.heap.objs.size);have I1:=I.laid (a:=s.heap.objs.size) (o:=.dK []) (h':=s.heap.push { cls:=.type "dict",data:=.dict #[] }) (t':=s.toks) (λ_ _ q=>Bz _ q) (C1 _) (mJ s.heap I.big)
 refine wpAny_Dict_walk (knd:=bh X.prog X.w) hall hl h0 h15 (bx (h pins _ σ _ _ I1 (q _ hn)) λws s2 ⟨ps,H2,I2,rel,e,kvs,ep,lk,q2⟩=>?_)
 subst ep;obtain⟨rs,c,rk⟩:=jk (P:=X.prog) (w:=X.w) rel;obtain⟨z,hd,vs0,r0,dd⟩:=pS I2.hok e;cases r0;refine⟨rs,c,dd,λh' dd' hs=>⟨.ref s.heap.objs.size,_,?_,rfl,q2⟩⟩
 have hz:(dU [] kvs).length<=C7:=by
  have h1:=gg kvs [];rw[DQ] at h1;rw[Cy]; lia
 have he:∃q,h'.get? s.heap.objs.size=some q:=let ⟨q,_,_,hq,_⟩:=dd'; ⟨q,hq⟩;exact iU I2 (by rw[e]; exact DT) hs he (oq hz hd (rk.merge .nil) dd')
def Ci(H:Hp)(a:Addr):Prop:=(∃kvs,Rd H a (.dK kvs))\/∃kvs,Rd H a (.dT kvs)
theorem zm{X:Cx}{pins:List (Addr×Obj)}{σ:St}{H:Hp}{s:At}{a:Addr}(I:Inv X pins σ H s)(d:Ci H a) :
  s.TypeIs (.ref a) "dict"/\(∀b,DZ a=.ref b->∃ob,s.heap.get? b=some ob/\ob.dict=none)/\(a == Dt)=false:=by
 rcases d with⟨kvs,e⟩ | ⟨kvs,e⟩
 ·obtain⟨_,hd,vs,_,dd⟩:=jh I.hok e
  refine⟨dd.typeIs,λb q=>?_,hd⟩
  cases q;obtain⟨ob,_,_,h1,h2,_⟩:=dd;exact⟨ob,h1,h2.2.1⟩
 ·obtain⟨_,hd,xs,_,dd⟩:=kC I.hok e
  refine⟨dd.typeIs,λb q=>?_,hd⟩
  cases q;obtain⟨ob,_,_,h1,h2,_⟩:=dd;exact⟨ob,h1,h2.2.1⟩
end L2
namespace Att
open PySem PySem.W PySem.Calls PyProof.Rows
theorem iN{P:Params}{h:Heap}:∀(ns:List Int)(vs:List Value),WellAll P h vs (ns.map WData.int)->DN vs ns:=by
 intro ns
 induction ns with
 |nil=>
  intro vs w;rw[ER] at w;cases w;exact .nil
 |cons n ns ih=>
  intro vs w;rw[CC] at w;cases w with
  |cons a b=>
   cases a;exact .cons _ _ (ih _ b)
theorem qT{l:Gw}{n:Nat}(hn:l.most=some n){P:Params}{h:Heap}{args:List WData}{vals:List Value}
  (hpre:l.row.toRowW.claim.pre args=true) (hwl:WellAll P h vals args) :
  ∃a vs ns,vals=[DZ a]/\args=[WData.list (ns.map WData.int)]/\h.get? a=some { cls:=.type "list",data:=.seq vs.toArray }/\DN vs ns/\ns.length<=n:=by
 have hsh:WShape.hasAll [] args [.list .int]=true:=(pre_splitW hpre).1;have hc:l.pre.holds [] { args:=args }=true:=(pre_splitW hpre).2;obtain⟨d,r,rfl,h1,h2⟩:=hasAllW_cons hsh;obtain rfl:=hasAllW_nil h2;obtain⟨xs,rfl,h3⟩:=hasW_list h1;obtain⟨ns,rfl⟩:=items_int h3;have hlen:ns.length<=n:=by
  unfold OpenLaw.pre at hc;have h4:(WTm.not (.lt (.lit (.int (n:Int))) (.len (.arg 0)))).holds [] { args:=[.list (ns.map .int)] }=true:=by
   have h4:=(holds_andW hc).1;rw[hn] at h4;exact h4
  have h5:=condW_of h4 (w_not (w_lt w_lit (w_len_list (w_arg rfl))));rw[C0] at h5;refine IU λq=>?_
  have q':(n:Int)<((ns.length:Nat):Int):=by lia
  first
   |(rw[decide_eq_true q'] at h5; exact absurd h5 (by decide))
   |(simp at h5; lia)
 cases hwl with
 |cons w1 w2=>
  cases w2;cases w1 with
  |list ho hall=>exact⟨_,_,ns,rfl,rfl,ho,iN ns _ hall,hlen⟩
theorem qU(l:Gw)(args:List WData):l.row.toRowW.claim.post args (.bool true) args=true :=
 postW_of (r:=l.row.toRowW) (X:=(true == true))
  (show WShape.has [] (.bool true) .bool=true by first | rfl | decide | simp[WShape.has,WShape.arms,WShape.armsAll])
  (show (WTm.eq .res (.lit (.bool true))).value [] { args:=args,res:=some (.bool true),after:=args }=some (.bool (true == true)) from w_eq_bool (w_res rfl) w_lit) rfl
theorem mK{l:Gw}{n:Nat}{q:CH}{loose:List Str}{XP:(Str->Option Value)->Heap->Prop}{YP:World->Heap->Prop}{d:DefRec}
  (hn:l.most=some n) (hdf:d.params.defaults=[])
  (call:∀(w:World)(s₀ s₁:At)(mg mb:Str->Option Value)(fa:Addr)(o:Obj)(pm cd doc:Value)(a:Addr)(vs:List Value)(ns:List Int),
   Ground q loose [] XP w s₀ mg mb s₁.heap->YP w s₁.heap ->
   s₁.heap.get? fa=some o->o.data=.func (docDef d.name d.params d.body d.scope pm cd doc)->s₁.heap.CodeRec cd d.name->mg d.name=some (.ref fa) ->
   s₁.heap.get? a=some { cls:=.type "list",data:=.seq vs.toArray }->DN vs ns->ns.length<=n->s₁.gens = #[] ->
   Eb (model l.prog w) GM (.call (.ref fa) ⟨[.ref a],[]⟩) (λr s'=>r=.ok (.ret (.bool true))/\OldK s₁.heap s'.heap/\s'.os=s₁.os/\FV s'.gens) s₁) :
  WalkO q loose XP YP l.row.toRowW d [] (λf vs=>PySem.call f vs):=by
 intro w s₀ s₁ mg mb G Y fa o pm cd doc dV kV ho hd hcd hD hmg hg args vals as hpre hlay hrd hwl hlo;obtain rfl:dV=.none:=Dflts.none hD hdf;obtain rfl:kV=.none:=Dflts.noKw hD;obtain⟨a,vs,ns,rfl,rfl,hobj,hints,hlen⟩:=qT hn hpre hwl;refine enter_call (Hn (call w s₀ s₁ mg mb fa o pm cd doc a vs ns G Y ho (fd_plain hd) hcd hmg hobj hints hlen hg) λr s' hq=>?_)
 obtain⟨rfl,h2,h3,h4⟩:=hq;exact⟨.inl ⟨.bool true,.bool true,[],rfl,λ_=>rfl,.bool true,qU l _,λ_=>⟨Ex,λ_ hm=>(nomatch hm)⟩⟩,h2,h3,h4⟩
end Att
namespace L2
open PySem PySem.Spec PyProof.Rows
theorem kD:∀{vs:List Value}{ns:List Int},DN vs ns->Vals (ns.map V.int) vs
 |_,_,.nil=>.nil
 |_,_,.cons n t h=>.cons ⟨t,rfl⟩ (kD h)
def Only(H:Hp):Prop:=∀b,H b=none\/∃o xs,H b=some (.frz o (.lst xs))
theorem sV{P:CH}{w:World}{K:AC}{mg mb:Str->Option Value}{CX:sJ}{k:Nat}{fa a:Addr}{fd:DS}{x:Str}{sp:Sp}{s₁:At}{vs:List Value}{ns:List Int}
  (KX:K.In s₁.heap) (hns:s₁.heap.Ns CQ mg) (hb:s₁.heap.Ns GA mb) (hbb:∀x:Str,x ≠ "__name__"->mb x=DY x) (hlim:s₁.heap.NoLimit) (hg:s₁.gens = #[])
  (ha:s₁.heap.get? a=some { cls:=.type "list",data:=.seq vs.toArray }) (hi:DN vs ns) (hl:ns.length<=C7) (hr:dG k GM)
  (F:∀base:Heap,K.In base->base.Ns CQ mg->b9 P w K mg base CX k fa fd [x] sp) (hbind:∀(s:At)(u:Value),GR s fd ⟨[u],[]⟩ [(x,u)])
  (hsp:∀H:Hp,Only H->eF K H a (ns.map V.int)->sp [.ref a] H (λv _=>v=.bl true) λ_ _ _=>False)
  (hCX:∀H e s',CX [] H s₁ (λ_ _ _=>False) e s'->False) :
  Eb (model P w) GM (.call (.ref fa) ⟨[.ref a],[]⟩) (λr s'=>r=.ok (.ret (.bool true))/\OldK s₁.heap s'.heap/\s'.os=s₁.os/\FV s'.gens) s₁:=by
 have rv:=kD hi;have lenV:=hi.length;have core:∀H:Hp,Only H->eF K H a (ns.map V.int)->gr P w H s₁.heap->(∀b,H b≠none->b=a)->(H a≠none->K.lookup a=none) ->
   Eb (model P w) GM (.call (.ref fa) ⟨[.ref a],[]⟩) (λr s'=>r=.ok (.ret (.bool true))/\OldK s₁.heap s'.heap/\s'.os=s₁.os/\FV s'.gens) s₁:=by
  intro H hO hS hok hA hK;have base_of:∀{b:Addr}{o:Obj},s₁.heap.get? b=some o->H b=none->(kW s₁.heap H).get? b=some o:=λe n=>rY e n
  have noA:∀{b:Addr}{o:Obj}{es:Array DictEntry}{ep:Nat},s₁.heap.get? b=some o->o.data=.dict es ep->H b=none:=λ{b o es ep}e d=>by
   cases q:H b with
   |none=>rfl
   |some u=>
    have e':b=a:=hA b (by rw[q]; simp)
    subst e';rw[ha] at e; cases e;have d':Data.seq vs.toArray _=Data.dict es ep:=d;cases d'
  have nsK:∀{b:Addr}{m:Str->Option Value},s₁.heap.Ns b m->(kW s₁.heap H).Ns b m:=λ{b m} ⟨o,es,ep,e,d,r⟩=>⟨o,es,ep,base_of e (noA e d),d,r⟩
  have hKb:K.In (kW s₁.heap H):=λb o e=>base_of (KX b o e) (by
   cases q:H b with
   |none=>rfl
   |some u=>
    have e':b=a:=hA b (by rw[q]; simp)
    subst e';rw[hK (by rw[q]; simp)] at e; cases e)
  have hM:Mod K mg (kW s₁.heap H):=⟨hKb,nsK hns,⟨mb,nsK hb,hbb⟩,let ⟨mc,h1,h2⟩:=hlim; ⟨mc,nsK h1,h2⟩⟩;have e0:Env0 P w K mg (kW s₁.heap H) GM [] s₁ H:=⟨rfl,hM,λb o e=>vj e,Nat.le_of_eq (qG _ _),trivial,λb hb=>absurd (show b∈([]:List Addr) from hb) (by simp),hok,.of_eq hg⟩
  refine Hn ((F _ hKb (nsK hns)).run GM [] s₁ H ⟨[.ref a],[]⟩ [.ref a] [.ref a] _ _ hr e0 (hbind s₁ (.ref a)) (.cons rfl .nil) (hsp H hO hS)) λr s' h=>?_
  cases r with
  |error e=>exact(hCX H e s' h).elim
  |ok fl=>
   cases fl with
   |next=>exact Dy h
   |brk=>exact Dy h
   |cont=>exact Dy h
   |ret u=>
    obtain⟨v,H',os,bare,un,hok',r',q⟩:=h;have q':v=.bl true:=q;subst q';obtain rfl:u=GO true:=r';refine⟨rfl,OldK.of_keep λb o e=>?_,os,bare⟩
    cases q:H b with
    |none=>exact un.keep b o e q (by intro z; exact absurd (show b∈([]:List Addr) from z) (by simp)) (by simp)
    |some u=>
     rcases hO b with z | ⟨ob,xs,z⟩
     ·rw[q] at z; cases z
     ·have z2:=un.dc b ob _ z
      obtain⟨e1,_⟩:=hok b _ z;obtain⟨e2,_⟩:=hok' b _ z2;rw[e] at e1; cases e1;exact e2
 cases hk:K.lookup a with
 |some o=>
  have e:=KX a o hk;rw[ha] at e;cases e;refine core (λ_=>none) (λ_=>.inl rfl) (.inr ⟨_,vs.toArray,_,hk,rfl,rfl,rfl,by rw[Bi,lenV]; exact hl,by simpa using rv⟩) (λb u z=>by have z':(none:Option HO)=some u:=z; cases z') (λb z=>absurd rfl z) λz=>absurd rfl z
 |none=>
  refine core (λb=>if b=a then some (.frz { cls:=.type "list",data:=.seq vs.toArray } (.lst (ns.map V.int))) else none) (λb=>?_) (.inl (.inr ⟨{ cls:=.type "list",data:=.seq vs.toArray },if_pos rfl⟩)) (λb u z=>?_) (λb z=>?_) λ_=>hk
  ·by_cases hb:b=a
   ·exact .inr ⟨_,_,if_pos hb⟩
   ·exact .inl (if_neg hb)
  ·by_cases hb:b=a
   ·have z':=(if_pos hb).symm.trans z
    cases z';subst hb;exact⟨ha,by rw[C0]; exact hl,vs,_,rv,ha⟩
   ·have z':=(if_neg hb).symm.trans z
    cases z'
  ·by_cases hb:b=a
   ·exact hb
   ·exact absurd (if_neg hb) z
end L2
namespace L2
open PySem PySem.Spec PyProof.Rows
end L2
namespace L2
open PySem PySem.Spec PyProof.Rows
noncomputable def dJ(s:Stmt):Hg:=match s with
 |.FunctionDef _ a _ _ _ _ _ _ _ _=>a
 |_=>{ posonlyargs:=[],args:=[],vararg:=none,kwonlyargs:=[],kw_defaults:=[],kwarg:=none,defaults:=[] }
noncomputable def cy(s:Stmt):List Stmt:=match s with
 |.FunctionDef _ _ b _ _ _ _ _ _ _=>b
 |_=>[]
noncomputable def av(s:Stmt):Scope:=match s with
 |.FunctionDef _ _ _ _ _ _ sc _ _ _=>sc
 |_=>{ kind:=.function,names:=[],isGenerator:=false,isCoroutine:=false }
abbrev ir:sJ:=λ_ _ _ _ _ _=>False
abbrev E0:XK:=λ_ _ _=>False
theorem pass0{X:Cx}:Passes ir X E0:=λ_ _ _ _ _ _ _ h=>h.elim
structure jY(K:AC)(x qual:Str)(st:Stmt)(f:Addr)(fd:DS):Prop where
 ex:∃ (oc:Value) (od:Option Addr) (kV doc pm:Value) (an:Option Addr) (cdv ct:Value) (osl:Array (Option Value)),
  fd=EM x qual (dJ st) (cy st) (av st) .none kV doc pm an cdv ct/\K.lookup f=some ⟨oc,od,.func fd,osl⟩/\FR K cdv qual=true
 kp:EV K (.ref f)=true
section
variable{P:CH}{w:World}{K:AC}{mg:Str->Option Value}{base:Heap}
theorem jY.ok{x qual:Str}{st:Stmt}{f:Addr}{fd:DS}{N ps:List Str}{k:Nat}{sp:Sp}(F:jY K x qual st f fd)(S:bq N ps (av st))(len:∀vs H Q E,sp vs H Q E->vs.length=ps.length)
  (hbody:∀(cdv:Value)(A:Cw)(outer:List Env)(s:At)(H:Hp)(vs:List V)(Q:VK)(E:XK),dG k (A.deeper (FU qual (av st) s.heap.objs.size f cdv))->sp vs H Q E ->
   ∃t,nR (mz ir P w K mg base N qual (av st) f cdv A outer s H E).AR (cy st) t/\t { nx:=λ_ H'=>Q .non H',rt:=Q } (start N vs) H):b9 P w K mg base ir (k+1) f fd ps sp:=by
 obtain⟨oc,od,kV,doc,pm,an,cdv,ct,osl,rfl,lk,hcd⟩:=F.ex;refine fn_of lk hcd S len λA outer s H vs Q E hr hsp=>?_
 obtain⟨t,h,q⟩:=hbody cdv A outer s H vs Q E hr hsp;exact⟨t,h.AR,q⟩
theorem jY.binds{x qual:Str}{st:Stmt}{f:Addr}{fd:DS}{ps:List Str}(F:jY K x qual st f fd)
  (h:∀(kV doc pm:Value)(an:Option Addr)(cdv ct:Value)(us:List Value),us.length=ps.length->bindArgs (EM x qual (dJ st) (cy st) (av st) .none kV doc pm an cdv ct) ⟨us,[]⟩=pure (ps.zip us)):Binds K fd ps []:=by
 obtain⟨oc,od,kV,doc,pm,an,cdv,ct,osl,rfl,lk,hcd⟩:=F.ex;exact .all (h kV doc pm an cdv ct)
theorem sW{x qual:Str}{st:Stmt}{f:Addr}{oc:Value}{od an:Option Addr}{osl:Array (Option Value)}{kV doc pm cdv ct:Value}(l:K.lookup f=some ⟨oc,od,.func (EM x qual (dJ st) (cy st) (av st) .none kV doc pm an cdv ct),osl⟩)
  (c:FR K cdv qual=true) (k:EV K (.ref f)=true):jY K x qual st f (EM x qual (dJ st) (cy st) (av st) .none kV doc pm an cdv ct):=⟨⟨oc,od,kV,doc,pm,an,cdv,ct,osl,rfl,l,c⟩,k⟩
end
section
variable{X:Cx}
theorem pv(i:Nat){x:Str}{pos:Pos}(hN:X.N[i]? = some x:=by rfl)(hv:xX X.env.scope x:=by first | exact CK rfl | exact E1 (CK rfl) | exact E1 (E1 rfl))(hd:(x == ("__debug__" : Str))=false:=by decide)
  (hcd:(x == ("__classdict__" : Str))=false:=by decide):PE X (.Name x pos) (cI i):=nS hN hv hd hcd
theorem kE:bw X (.builtin "len") (λxs H Q=>∃a kvs,xs=[V.ref a]/\H a=some (.dK kvs)/\Q (.int kvs.length) H):=by
 intro pins s σ H xs us Q I r h;obtain⟨a,kvs,rfl,ha,q⟩:=h;obtain⟨u,rfl,ru⟩:=vals1 r;cases ru;exact d_len I (.inl ha) λt s' I'=>⟨.int kvs.length,H,I',⟨t,rfl⟩,q⟩
end
theorem iteF{A B:Prop}(h:B):if false=true then A else B:=by
 rw[if_neg DJ];exact h
theorem iteT{A B:Prop}(h:A):if true=true then A else B:=by
 rw[if_pos rfl];exact h
def dw(H H':Hp):Prop:=∀b o,H b=some o->H' b=some o
theorem dw.refl(H:Hp):dw H H:=λ_ _ h=>h
theorem dw.free{H H':Hp}(e:dw H H'){l:Addr}(h:H' l=Iw):H l=Iw:=by
 cases q:H l with
 |none=>rfl
 |some o=>
  rw[e l o q] at h;cases h
end L2
end
section
namespace L2
open PySem PySem.Spec PyProof.Rows
noncomputable def aX(cells:List (Str×Addr)):List (Str×DW)->List (Str×Addr)->List (Str×Addr)
 |[],cs=>cs
 |(n,k)::r,cs=>if (k == DD)=true then (match cells.lookup n with | some a=>aX cells r ((n,a)::cs) | none=>aX cells r cs) else aX cells r cs
theorem lD{env:Env}:∀(names:List (Str×DW))(cs:List (Str×Addr)),(∀x∈names,x.2=.free->∃a,env.cells.lookup x.1=some a) ->
  (forIn names cs λ(x:Str×DW)(r:List (Str×Addr))=>(if (x.2 == DD)=true then (do let a <-cellOf env x.1; pure (Ef ((x.1,a)::r))) else pure (Ef r):Sem (ForInStep (List (Str×Addr)))))=(pure (aX env.cells names cs):Sem (List (Str×Addr)))
 |[],cs,_=>rfl
 |(n,k)::r,cs,h=>by
  rw[List.forIn_cons]
  by_cases hk:(k == DD)=true
  ·obtain⟨a,ha⟩:=h (n,k) lS (by simpa using hk)
   have ha:env.cells.lookup n=some a:=ha;have hcell:cellOf env n=pure a:=by unfold cellOf; rw[ha]
   simp only[hk,if_true];rw[hcell];show (forIn r ((n,a)::cs) _:Sem _)=_;rw[lD r _ λx hx=>h x (lO _ hx)]
   simp only[aX,hk,if_true,ha]
  ·simp only[hk,if_false]
   show (forIn r cs _:Sem _)=_;rw[lD r _ λx hx=>h x (lO _ hx)]
   simp only[aX,hk,if_false];rfl
theorem iu{scope:Scope}{env:Env}(h:∀x∈scope.names,x.2=.free->∃a,env.cells.lookup x.1=some a):closureFor scope env=pure (aX env.cells scope.names []):=by
 have e:=lD (env:=env) scope.names [] h;unfold closureFor;simp only[bind_pure_comp] at e ⊢
 first
  |(rw[<-e]; rfl)
  |(simpa using e)
theorem fC{cells:List (Str×Addr)}{y:Str}{c:Addr}:∀(names:List (Str×DW))(cs:List (Str×Addr)),(∀y c,cs.lookup y=some c->cells.lookup y=some c)->(aX cells names cs).lookup y=some c->cells.lookup y=some c
 |[],cs,h,e=>h y c e
 |(n,k)::r,cs,h,e=>by
  unfold aX at e
  by_cases hk:(k == DD)=true
  ·rw[if_pos hk] at e
   cases ha:cells.lookup n with
   |none=>
    rw[ha] at e;exact fC r cs h e
   |some a=>
    rw[ha] at e;refine fC r _ (λy c q=>?_) e
    rw[CV] at q
    by_cases hy:(y == n)=true
    ·rw[hy] at q
     cases q;have:y=n:=by simpa using hy
     rw[this]; exact ha
    ·have hy':(y == n)=false:=by simpa using hy
     rw[hy'] at q;exact h y c q
  ·rw[if_neg hk] at e
   exact fC r cs h e
theorem eN{cells:List (Str×Addr)}{y:Str}:∀(names:List (Str×DW))(cs:List (Str×Addr)),(cs.lookup y).isSome=true->((aX cells names cs).lookup y).isSome=true
 |[],cs,h=>h
 |(n,k)::r,cs,h=>by
  unfold aX
  by_cases hk:(k == DD)=true
  ·rw[if_pos hk]
   cases ha:cells.lookup n with
   |none=>exact eN r cs h
   |some a=>
    refine eN r _ ?_;rw[CV]
    by_cases hy:(y == n)=true
    ·rw[hy]; rfl
    ·have hy':(y == n)=false:=by simpa using hy
     rw[hy']; exact h
  ·rw[if_neg hk]
   exact eN r cs h
theorem fD{cells:List (Str×Addr)}{y:Str}:∀(names:List (Str×DW))(cs:List (Str×Addr)),(y,DD)∈names->(cells.lookup y).isSome=true->((aX cells names cs).lookup y).isSome=true
 |[],cs,h,_=>by simp at h
 |(n,k)::r,cs,h,hy=>by
  unfold aX;rcases lK h with e | h'
  ·cases e
   rw[if_pos (by rfl)]
   cases ha:cells.lookup y with
   |none=>rw[ha] at hy; cases hy
   |some a=>
    refine eN r _ ?_;rw[CV,show (y == y)=true by simp]
    rfl
  ·by_cases hk:(k == DD)=true
   ·rw[if_pos hk]
    cases ha:cells.lookup n with
    |none=>exact fD r cs h' hy
    |some a=>exact fD r _ h' hy
   ·rw[if_neg hk]
    exact fD r cs h' hy
theorem lE{scope:Scope}{env:Env}{x:Str}:scope.names.lookup x=some .free->(GJ scope env).names.lookup x=some .cell\/(GJ scope env).names.lookup x=some .free:=by
 unfold GJ;dsimp only;generalize hn:scope.names=names
 clear hn
 induction names with
 |nil=>intro h; simp at h
 |cons p r ih=>
  obtain⟨n,k0⟩:=p;intro h;rw[CV] at h;rw[CC,CV]
  by_cases hx:(x == n)=true
  ·rw[hx] at h
   injection h with h
   subst h
   by_cases hq:(DD == DD && env.scope.kind == .function && env.kindOf n == some .cell)=true
   ·rw[if_pos hq]; dsimp only; rw[hx]; exact .inl rfl
   ·rw[if_neg hq]; dsimp only; rw[hx]; exact .inr rfl
  ·have hx':(x == n)=false:=by simpa using hx
   rw[hx'] at h
   by_cases hq:(k0 == DD && env.scope.kind == .function && env.kindOf n == some .cell)=true
   ·rw[if_pos hq]; dsimp only; rw[hx']; exact ih h
   ·rw[if_neg hq]; dsimp only; rw[hx']; exact ih h
noncomputable def jl(X:Cx)(scope:Scope)(cl:List (Str×Addr))(N:List Str)(C:Addr)(fp:List Addr)(s:At)(H:Hp):Cx :=
 { X with N:=N,s₀:=s,H₀:=H,env:=compEnvC scope cl C X.env,outer:=X.stack,ex:=fp,fn:=λx=>scope.names.lookup x == some .cell,pn:=[],xe:=λ_ _=>False }
structure Bk where
 cl:List (Str×Addr)
 C:Addr
 fp:List Addr
 s:At
 H:Hp
noncomputable abbrev Bk.cx(z:Bk)(X:Cx)(scope:Scope)(N:List Str):Cx:=jl X scope z.cl N z.C z.fp z.s z.H
noncomputable def jm(fr:List (Option Nat))(σ:St):St:=fr.map λo=>match o with
 |some j=>(match σ[j]? with | some v=>v | none=>none)
 |none=>none
structure aY(X:Cx)(scope:Scope)(N:List Str)(fr:List (Option Nat)):Prop where
 kind:scope.kind=.function
 uniq:∀y∈scope.names,scope.names.lookup y.1=some y.2
 free:∀y∈scope.names,y.2=.free->X.env.kindOf y.1=some .cell\/X.env.kindOf y.1=some .free
 len:fr.length=N.length
 fr:∀(i j:Nat)(x:Str),N[i]? = some x->fr[i]? = some (some j)->X.N[j]? = some x/\scope.names.lookup x=some .free
 nd:N.Nodup
theorem bI{x:Str}{k:DW}:∀{l:List (Str×DW)},l.lookup x=some k->(x,k)∈l:=λh=>Di h
theorem gQ:∀(names:List (Str×DW))(h:Heap)(acc:List (Str×Addr)){x:Str}{c:Addr},(D6 h.objs.size names acc).lookup x=some c->acc.lookup x=some c\/((x,FJ)∈names/\h.objs.size<=c/\(pushCells h names).IsCell c none)
 |[],h,acc,x,c,e=>.inl e
 |(n,k)::r,h,acc,x,c,e=>by
  unfold D6 at e;unfold pushCells
  split at e
  ·next hk=>
   rw[if_pos hk];have hk':k=.cell:=by simpa using hk
   have e':(D6 (h.push { cls:=.type "cell",data:=.cell none }).objs.size r ((n,h.objs.size)::acc)).lookup x=some c:=by rw[Dc]; exact e
   rcases gQ r _ _ e' with q | ⟨q1,q2,q3⟩
   ·rw[CV] at q
    by_cases hx:(x == n)=true
    ·rw[hx] at q
     cases q;have hx':x=n:=by simpa using hx
     refine .inr ⟨by rw[hx',hk']; exact lS,C1 _,?_⟩
     exact⟨_,Gq _ _ _ _ (CA _ rfl),rfl⟩
    ·have hx':(x == n)=false:=by simpa using hx
     rw[hx'] at q;exact .inl q
   ·rw[Dc] at q2
    exact .inr ⟨lO _ q1,IC q2,q3⟩
  ·next hk=>
   rw[if_neg hk];rcases gQ r h acc e with q | ⟨q1,q2,q3⟩
   ·exact .inl q
   ·exact .inr ⟨lO _ q1,q2,q3⟩
theorem gR:∀(names:List (Str×DW))(lo:Nat)(acc:List (Str×Addr)){x:Str},(acc.lookup x).isSome=true->((D6 lo names acc).lookup x).isSome=true
 |[],_,_,_,h=>h
 |(n,k)::r,lo,acc,x,h=>by
  unfold D6
  split
  ·refine gR r _ _ ?_
   rw[CV]
   by_cases hx:(x == n)=true
   ·rw[hx]; rfl
   ·have hx':(x == n)=false:=by simpa using hx
    rw[hx']; exact h
  ·exact gR r _ _ h
theorem ou:∀(names:List (Str×DW))(lo:Nat)(acc:List (Str×Addr)){x:Str},(x,FJ)∈names->((D6 lo names acc).lookup x).isSome=true
 |[],_,_,_,h=>by simp at h
 |(n,k)::r,lo,acc,x,h=>by
  unfold D6;rcases lK h with e | h'
  ·cases e
   rw[if_pos (by rfl)]
   refine gR r _ _ ?_;rw[CV,show (n == n)=true by simp]
   rfl
  ·split
   ·exact ou r _ _ h'
   ·exact ou r _ _ h'
theorem lF:∀(names:List (Str×DW))(lo:Nat)(acc:List (Str×Addr)){x:Str},(x,FJ)∉names->(D6 lo names acc).lookup x=acc.lookup x
 |[],_,_,_,_=>rfl
 |(n,k)::r,lo,acc,x,h=>by
  unfold D6
  split
  ·next hk=>
   have hk':k=.cell:=by simpa using hk
   rw[lF r _ _ λz=>h (lO _ z),CV]
   have hx:(x == n)=false:=beq_eq_false_iff_ne.mpr λe=>h (by rw[e,hk']; exact lS)
   rw[hx]
  ·exact lF r _ _ λz=>h (lO _ z)
theorem lG(lo0:Nat):∀(names:List (Str×DW))(lo:Nat)(acc acc':List (Str×Addr)){x:Str}{c:Addr},(∀x(c:Addr),acc.lookup x=some c->lo0<=c->acc'.lookup x=some c)->(D6 lo names acc).lookup x=some c->lo0<=c->(D6 lo names acc').lookup x=some c
 |[],_,_,_,x,c,h,e,hc=>h x c e hc
 |(n,k)::r,lo,acc,acc',x,c,h,e,hc=>by
  unfold D6 at e ⊢
  split at e
  ·next hk=>
   rw[if_pos hk];refine lG lo0 r _ _ _ (λy c' q hq=>?_) e hc
   rw[CV] at q ⊢
   by_cases hy:(y == n)=true
   ·rw[hy] at q ⊢; exact q
   ·have hy':(y == n)=false:=by simpa using hy
    rw[hy'] at q ⊢;exact h y c' q hq
  ·next hk=>
   rw[if_neg hk];exact lG lo0 r _ _ _ h e hc
theorem zo{names:List (Str×DW)}{h:Heap}{acc:List (Str×Addr)}(lt:∀x(c:Addr),acc.lookup x=some c->c<h.objs.size)(inj:∀x y c,acc.lookup x=some c->acc.lookup y=some c->x=y){x y:Str}{c:Addr}
  (e1:(D6 h.objs.size names acc).lookup x=some c) (e2:(D6 h.objs.size names acc).lookup y=some c):x=y:=by
 have vac:∀x(c:Addr),acc.lookup x=some c->h.objs.size<=c->([]:List (Str×Addr)).lookup x=some c:=λx c q hq=>absurd (lt x c q) (Nat.not_lt.mpr hq)
 rcases gQ names h acc e1 with q1 | ⟨_,q1,_⟩
 ·rcases gQ names h acc e2 with q2 | ⟨_,q2,_⟩
  ·exact inj x y c q1 q2
  ·exact absurd (lt x c q1) (Nat.not_lt.mpr q2)
 ·have ok:=cellsFrom_ok names h h.objs.size [] ⟨λ_ _ hm=>(nomatch hm),Ex⟩ (C1 _)
  have m1:=lG h.objs.size names _ acc [] vac e1 q1;have m2:=lG h.objs.size names _ acc [] vac e2 q1;exact name_of_addr ok.apart (mem_of_lookup m1) (mem_of_lookup m2)
theorem gh{scope:Scope}{env:Env}{x:Str}{k:DW}:(GJ scope env).names.lookup x=some k->(k=.cell\/k=.free)->scope.names.lookup x=some .free\/scope.names.lookup x=some .cell:=by
 unfold GJ;dsimp only;generalize hn:scope.names=names
 clear hn
 induction names with
 |nil=>intro h; simp at h
 |cons p r ih=>
  obtain⟨n,k0⟩:=p;intro h hk;rw[CC,CV] at h;rw[CV]
  by_cases hq:(k0 == DD && env.scope.kind == .function && env.kindOf n == some .cell)=true
  ·simp only[hq,if_true] at h
   have hf:k0=.free:=by
    rw[DA,DA] at hq;simpa using hq.1.1
   by_cases hx:(x == n)=true
   ·rw[hx]; left; rw[hf]
   ·have hx':(x == n)=false:=by simpa using hx
    rw[hx'] at h ⊢;exact ih h hk
  ·simp only[hq,if_false,DV] at h
   by_cases hx:(x == n)=true
   ·rw[hx] at h ⊢
    have h:some k0=some k:=h;cases h;rcases hk with e | e
    ·right; rw[e]
    ·left; rw[e]
   ·have hx':(x == n)=false:=by simpa using hx
    rw[hx'] at h ⊢;exact ih h hk
section
variable{X:Cx}{pins:List (Addr×Obj)}{σ:St}{H:Hp}{s:At}{scope:Scope}{N:List Str}{fr:List (Option Nat)}{fp:List Addr}
theorem aY.cells(S:aY X scope N fr)(I:Inv X pins σ H s):∀x∈scope.names,x.2=.free->∃a,X.env.cells.lookup x.1=some a:=λx hx e=>I.ok.has x.1 (S.free x hx e)
theorem sX{h1:Heap}{m:Str->Option Value}{tk:Nat}{cl:List (Str×Addr)}(I:Inv X pins σ H s)(S:aY X scope N fr)(hf:∀b∈fp,iL X pins H b)(hs:∀b∈fp,b<s.heap.objs.size)
  (hns:h1.Ns s.heap.objs.size m) (old:∀b o,s.heap.get? b=some o->h1.get? b=some o)
  (a1:∀x c,cl.lookup x=some c->(aX X.env.cells scope.names []).lookup x=some c\/(s.heap.objs.size<c/\h1.IsCell c none))
  (a2:∀x y c,cl.lookup x=some c->cl.lookup y=some c->x=y) (a3:∀x,scope.names.lookup x=some .cell\/scope.names.lookup x=some .free->∃c,cl.lookup x=some c) (a4:∀x,scope.names.lookup x=some .free->cl.lookup x=(aX X.env.cells scope.names []).lookup x) :
  Inv (jl X scope cl N s.heap.objs.size fp s H) [] (jm fr σ) H { s with heap:=h1,toks:=tk }:=by
 have sub:∀y c,(aX X.env.cells scope.names []).lookup y=some c->X.env.cells.lookup y=some c:=λy c e=>fC scope.names [] (λ_ _ z=>by simp at z) e
 have ok:(jl X scope cl N s.heap.objs.size fp s H).Ok:=by
  refine⟨I.ok.mod,?_,I.ok.glob,I.ok.blt,C1 _,λx y c h1 h2=>a2 x y c h1 h2,λx hx=>?_,λx c z e=>?_,I.ok.hd,I.ok.frames,.inl rfl,λb hb=>⟨?_,λx c e=>?_⟩,λb o e=>I.bs b o e,?_,λb o e hb=>?_,λb hb hs' =>?_,I.stack,I.pN⟩
  ·exact S.kind
  ·have hx:(GJ scope X.env).names.lookup x=some .cell\/(GJ scope X.env).names.lookup x=some .free:=hx
   rcases hx with z | z
   ·exact a3 x ((gh z (.inl rfl)).symm)
   ·exact a3 x ((gh z (.inr rfl)).symm)
  ·have z:(scope.names.lookup x == some .cell)=true:=z
   have z':scope.names.lookup x=some .cell:=by simpa using z
   show s.heap.objs.size<=c;rcases a1 x c e with q | ⟨q,_⟩
   ·exfalso
    obtain⟨v,w⟩:=I.cell x c (sub x c q);have hm:∀(names:List (Str×DW))(cs:List (Str×Addr)){y:Str}{c:Addr},(aX X.env.cells names cs).lookup y=some c->cs.lookup y=some c\/(y,DD)∈names:=λnames=>by
     induction names with
     |nil=>intro cs y c h; exact .inl h
     |cons p r ih=>
      obtain⟨n,k⟩:=p;intro cs y c h;unfold aX at h
      by_cases hk:(k == DD)=true
      ·rw[if_pos hk] at h
       have hk':k=.free:=by simpa using hk
       cases ha:X.env.cells.lookup n with
       |none=>
        rw[ha] at h;rcases ih cs h with q | q
        ·exact .inl q
        ·exact .inr (lO _ q)
       |some a=>
        rw[ha] at h;rcases ih _ h with q | q
        ·rw[CV] at q
         by_cases hy:(y == n)=true
         ·have:y=n:=by simpa using hy
          exact .inr (by rw[this,hk']; exact lS)
         ·have hy':(y == n)=false:=by simpa using hy
          rw[hy'] at q;exact .inl q
        ·exact .inr (lO _ q)
      ·rw[if_neg hk] at h
       rcases ih cs h with q | q
       ·exact .inl q
       ·exact .inr (lO _ q)
    rcases hm _ _ q with q' | q'
    ·simp at q'
    ·have:=S.uniq _ q'
     rw[z'] at this;cases this
   ·exact DP q
  ·exact CF (hs b hb)
  ·rcases a1 x c e with q | ⟨q,_⟩
   ·exact(hf b hb).2.2.2.2.1 x c (sub x c q)
   ·exact Ew (Nat.lt_trans (hs b hb) q)
  ·exact DB I.ok.bsz I.sz
  ·have e:X.base.get? b=some o:=e
   rcases (hf b hb).2.2.2.1 with z | z
   ·exact I.ok.noex b o e z
   ·exact absurd (CD (C6 e) (DB I.ok.bsz z)) (Ds _)
  ·rcases lK (I.kX b hs') with z | z
   ·exact(hf b hb).2.1 z
   ·exact(hf b hb).2.2.1 z
 refine⟨ok,rfl,I.bare,Un.kept old,⟨m,hns,λi x v h1' h2 h3=>?_⟩,λx c e=>?_,I.hok.fresh (C1 _),λx c e=>?_,λp hp=>absurd (show p∈([]:List (Addr×Obj)) from hp) (by simp),I.hok.kept old,?_⟩
 ·have h1':N[i]? = some x:=h1'
  have h2:(jm fr σ)[i]? = some (some v):=h2;unfold jm at h2;rw[Cu] at h2;cases e:fr[i]? with
  |none=>rw[e] at h2; cases h2
  |some o=>
   rw[e] at h2;cases o with
   |none=>cases h2
   |some j=>
    obtain⟨hj,hx⟩:=S.fr i j x h1' e;have h2:some (match σ[j]? with | some v=>v | none=>none)=some (some v):=h2
    injection h2 with h2
    cases ej:σ[j]? with
    |none=>rw[ej] at h2; cases h2
    |some w' =>
     rw[ej] at h2;have h2:w'=some v:=h2;subst h2;have hk:=S.free _ (bI hx) rfl;obtain⟨m0,hn0,hl⟩:=I.loc;have vis:xX X.env.scope x:=by
      rcases hk with z | z
      ·exact .inr (.inl z)
      ·exact .inr (.inr z)
     obtain⟨u,r,l⟩:=hl j x v hj ej vis;refine⟨u,r,?_⟩;rcases l with⟨k,_⟩ | ⟨_,c,ec,z⟩
     ·exfalso
      rcases hk with q | q
      ·have:=k.symm.trans q; cases this
      ·have:=k.symm.trans q; cases this
     ·have hm:=bI hx
      obtain⟨c',ec'⟩:=E4.mp (fD (cells:=X.env.cells) scope.names [] hm (by rw[ec]; rfl))
      have:c'=c:=by
       have q:=sub x c' ec';rw[ec] at q;cases q;rfl
      subst this;refine .inr ⟨lE hx,c',(a4 x hx).trans ec',?_⟩;obtain⟨o,ho,hd⟩:=z;exact⟨o,old _ o ho,hd⟩
 ·rcases a1 x c e with q | ⟨_,q⟩
  ·obtain⟨v,o,ho,hd⟩:=I.cell x c (sub x c q)
   exact⟨v,o,old _ o ho,hd⟩
  ·exact⟨none,q⟩
 ·rcases a1 x c e with q | ⟨q,_⟩
  ·exact I.freeC x c (sub x c q)
  ·exact I.hok.fresh (DP q)
 ·show (jm fr σ).length=N.length
  unfold jm;rw[C0,S.len]
end
theorem v9{prog:CH}{w:World}{A:Cw}{E:Value->At->Prop}{s:At}{scope:Scope}{globals:Addr}{closure:List (Str×Addr)}{qual:Str}{func:Option Addr}{code:Value}{outer:Env}{builtins:Addr}{Q:Env->At->Prop}(hk:scope.kind=.function)
  (hQ:∀h',h'.Ns s.heap.objs.size (λ_=>none)->(∀b o,s.heap.get? b=some o->h'.get? b=some o)->(∀x c,(D6 (s.heap.objs.size+1) scope.names closure).lookup x=some c->closure.lookup x=some c\/(s.heap.objs.size+1<=c/\h'.IsCell c none)) ->
   Q (newEnv scope s.heap.objs.size globals (D6 (s.heap.objs.size+1) scope.names closure) qual func code (some outer) builtins) { s with heap:=h' }) :
  wpAny (model prog w) A (newFunctionEnv scope globals closure [] qual func code (some outer) builtins) Q E s:=by
 simp only[newFunctionEnv,HP,if_true];refine Ap (wpAny_alloc ?_);refine Ap (wpAny_layCells _ (λname kind cells=>by cases hkc:kind == FJ <;> simp[hkc]) _ _ _ _ ?_)
 have sz:(s.heap.push { cls:=.type "dict",data:=.dict #[] }).objs.size=s.heap.objs.size+1:=Dc ..;rw[show ({ s with heap:=s.heap.push { cls:=.type "dict",data:=.dict #[] } }:At).heap.objs.size=s.heap.objs.size+1 from sz]
 refine Ap (B2 (B2 ?_));refine hQ _ ((Heap.Ns.new s.heap (.type "dict")).keeps (Gq _ _)) (λb o e=>Gq _ _ b o (Bz _ e)) λx c e=>?_
 have e':(D6 (s.heap.push { cls:=.type "dict",data:=.dict #[] }).objs.size scope.names closure).lookup x=some c:=by rw[sz]; exact e
 rcases gQ _ _ _ e' with q | ⟨_,q1,q2⟩
 ·exact .inl q
 ·rw[sz] at q1
  exact .inr ⟨q1,q2⟩
section
variable{X:Cx}
theorem sY{pins:List (Addr×Obj)}{σ τ:St}{H1 H3 H':Hp}{s2 s3 s':At}{fp:List Addr}{scope:Scope}{cl:List (Str×Addr)}{N:List Str}{h':Heap}
  (I2:Inv X pins σ H1 s2) (hf:∀b∈fp,iL X pins H1 b) (u23:Un (frs X.stack) [] H1 H3 s2.heap s3.heap) (ho:s3.os=s2.os) (hs:s2.heap.objs.size<=s3.heap.objs.size)
  (J:Inv (jl X scope cl N s3.heap.objs.size fp s3 H3) [] τ H' s') (sb:Do s3.heap.objs.size s'.heap h'):Inv X pins σ H' { s' with heap:=h' }:=by
 have hC:H' s3.heap.objs.size=none:=J.free;have hbase:Un (frs X.stack) fp H3 H' s3.heap s'.heap:=J.base;have u3:Un (frs X.stack) fp H1 H' s2.heap s'.heap:=(u23.mono (λ_ z=>z) (λ_ z=>nomatch z)).trans hbase
 have ne:∀b o,s2.heap.get? b=some o->b≠s3.heap.objs.size:=λb o e=>CF (CD (C6 e) hs)
 have u:Un (frs X.stack) fp H1 H' s2.heap h':=⟨λb o e n h1 h2=>(sb.2 b (ne b o e)).trans (u3.keep b o e n h1 h2),λb o e n h1 h2=>by
   obtain⟨sl,q⟩:=u3.slot b o e n h1 h2;exact⟨sl,(sb.2 b (ne b o e)).trans q⟩,u3.free,λb o e h2=>by
   obtain⟨o',q⟩:=u3.there b o e h2;exact⟨o',(sb.2 b (ne b o e)).trans q⟩,u3.tups,u3.dc,u3.tbls⟩
 have hok:gr X.prog X.w H' h':=λb ob e=>by
  have q:bO X.prog X.w H' s'.heap b ob:=J.hok b ob e;refine q.stay (λc w' hc q=>(sb.2 c ?_).trans q) (λ_ q=>q) λ_ _ q=>q
  intro z;rw[z] at hc;rcases hc with rfl | hc
  ·rw[hC] at e; cases e
  ·rw[hC] at hc; cases hc
 refine I2.call' (s':={ s' with heap:=h' }) (H':=H') (ch:=fp) (J.os.trans ho) u hok J.bare λb hb=>?_
 obtain⟨_,f1,_,f3,f4,f5⟩:=hf b hb;exact⟨f3,f1,f4,f5⟩
end
def mL(X:Cx)(ifs:List Expr)(t:TT):Prop :=
 ∀(pins:List (Addr×Obj))(s:At)(σ:St)(H:Hp)(Q:Bool->Hp->Prop),Inv X pins σ H s->t σ H Q ->
  wpAny (model X.prog X.w) X.A (forIn ifs true λc r=>if r=true then do let ok <-HD c X.env (eval c X.env); pure (Ef ok) else pure (Ef r)) (TP X pins σ Q) X.xe s
noncomputable def tYes:TT:=λ_ H Q=>Q true H
theorem zp{X:Cx}:mL X [] tYes:=λ_ _ _ H _ I h=>wpAny_tests_nil ⟨H,I,h⟩
theorem zq{X:Cx}{c:Expr}{t:TT}(h:PT X c t):mL X [c] t:=λpins s σ H Q I hq=>wpAny_tests_one (h pins s σ H Q I hq)
abbrev zu:=St->Hp->(St->Hp->Prop)->Prop
def PEm2(X:Cx)(em:Sem Unit)(t:zu):Prop :=
 ∀(pins:List (Addr×Obj))(s:At)(σ:St)(H:Hp)(R:St->Hp->Prop),Inv X pins σ H s->t σ H R ->
  wpAny (model X.prog X.w) X.A em (λ_ s'=>∃σ' H',Inv X pins σ' H' s'/\R σ' H') X.xe s
def eO(g:TG)(tt:TT)(tem:zu)(J:It)(τ:St)(H:Hp)(Q:St->Hp->Prop):Prop :=
 ∃W:Nat->Nat->St->Hp->Prop,(∃m,W 0 m τ H)/\∀i m τ H,W i m τ H ->
  (J.stop i H/\Q τ H)\/(J.go i H/\∃N:St->Hp->Prop,(∀τ' H',N τ' H'->∃m',m'<m/\W (i+1) m' τ' H')/\∀x H',J.yld i H x H'->g x τ H' λτ2 H2=>tt τ2 H2 λb H3=>
   if b=true then tem τ2 H3 N else N τ2 H3)
noncomputable def lH(target iter:Expr)(ifs:List Expr)(em:Sem Unit)(it:Value)(env:Env)(nxt:Sem Fin):Sem Fin:=do
 FP iter.pos
 match <-Ik it with
 |none=>pure (.done .next)
 |some v=>
  FX target it v
  FQ target env v
  let mut ok:=true
  for c in ifs do
   if ok then ok <-HD c env (eval c env)
  if ok then em
  nxt
section
variable{X:Cx}{e target iter:Expr}{ifs:List Expr}{g:TG}{tt:TT}{tem:zu}{acc:Value}{em:Sem Unit}
theorem oz{d:Nat}{pins:List (Addr×Obj)}{it:Addr}{fp:List Addr}{tn:Nat->Heap->Prop}{J:It}{τ:St}{H:Hp}{s:At}{Q:St->Hp->Prop}{R:Result->At->Prop}
  (ht:HE e d (.ref it) acc X.env=lH target iter ifs em (.ref it) X.env (again (.compLoop e d (.ref it) acc X.env)))
  (hd:∀(Q:Fin->At->Prop)(E:Value->At->Prop)(s:At),wpAny (model X.prog X.w) X.A ((HE e d (.ref it) acc X.env).onRaise (λx=>do noteFrame x X.env; theTreesLotGoes x)) Q E s ->
   wpAny (model X.prog X.w) (X.A.under (.compLoop e d (.ref it) acc X.env)) ((model X.prog X.w).den (.compLoop e d (.ref it) acc X.env)) Q E s)
  (hq:(Iq e d (.ref it) acc X.env).quiet=true)
  (hc:X.calm=true) (hx:X.xe=λ_ _=>False) (hg:PG X target g) (hi:mL X ifs tt) (he:PEm2 X em tem) (T:Turn X.prog X.w X.K target J fp it tn)
  (I:Inv X pins τ H s) (st:tn 0 s.heap) (hf:∀b∈fp,iL X pins H b) (h:eO g tt tem J τ H Q) (hR:∀τ' H' s',Inv X pins τ' H' s'->Q τ' H'->R (.ok .next) s') :
  Eb (model X.prog X.w) X.A (.compLoop e d (.ref it) acc X.env) R s:=by
 obtain⟨W,⟨m0,w0⟩,turn⟩:=h;have stat:∀{H':Hp},(∀b∈fp,H' b=none)->∀b∈fp,iL X pins H' b:=λhn b hb=>⟨hn b hb,(hf b hb).2⟩
 have noX:∀{α:Type}{t:Sem α}{Q:α->At->Prop}{s':At}{E:Value->At->Prop},wpAny (model X.prog X.w) X.A t Q X.xe s'->wpAny (model X.prog X.w) X.A t Q E s':=λ{α t Q s' E}h' =>
  Dl h' (λ_ _ q=>q) λ_ _ z=>by rw[hx] at z; exact z.elim
 refine codeAny_loop hq (λn s'=>∃i τ' H',Inv X pins τ' H' s'/\tn i s'.heap/\(∀b∈fp,H' b=none)/\W i n τ' H') ?_ m0 ⟨0,τ,H,I,st,λb hb=>(hf b hb).1,w0⟩
 rintro n s3 ⟨i,σ3,H3,I3,st3,fr3,w3⟩;refine hd _ _ _ (wpAny_noted ?_);rw[ht];unfold lH;refine Ap (E8 (Ap ?_));rcases turn i n σ3 H3 w3 with⟨stop,qn⟩ | ⟨go,Nx,hNx,step⟩
 ·refine bx (T.done X rfl rfl rfl hc i pins s3 σ3 H3 _ I3 (stat fr3) st3 stop) λr s4 ⟨hr,I4⟩=>?_
  subst hr;exact B2 (hR _ _ _ I4 qn)
 ·refine bx (T.item X rfl rfl rfl hc i pins s3 σ3 H3 _ I3 (stat fr3) st3 go) λr s4 ⟨u,hr,h4⟩=>?_
  subst hr;refine Ap (bx h4 λ_ s5 ⟨x,H5,I5,r5,y5,st5,fr5⟩=>?_)
  have I5':=I5.pinned (stat fr5) (T.obj _ _ st5);refine Ap (noX (bx (hg _ s5 σ3 H5 x u _ I5' r5 (step x H5 y5)) λ_ s6 ⟨σ6,H6,I6,q6⟩=>?_))
  have again':∀{σ7:St}{H7:Hp}{s7:At},Inv X (pins++ja fp s5.heap) σ7 H7 s7->(∃m',m'<n/\W (i+1) m' σ7 H7)->∃m,m<n/\∃i σ' H',Inv X pins σ' H' s7/\tn i s7.heap/\(∀b∈fp,H' b=none)/\W i m σ' H':=λ{σ7 H7 s7}I7 n7=>by
   obtain⟨m',hm,w7⟩:=n7;refine⟨m',hm,i+1,σ7,H7,I7.gM,T.keep _ _ _ st5 λb hb o e=>(I7.pin (b,o) (lR _ (lR _ (eL hb e)))).1,λb hb=>?_,w7⟩
   obtain⟨o,e,d⟩:=T.obj _ _ st5 b hb;exact(I7.pin (b,o) (lR _ (lR _ (eL hb e)))).2.1
  refine Ap (noX (bx (hi _ s6 σ6 H6 _ I6 q6) λok s7 ⟨H7,I7,q7⟩=>?_))
  cases ok with
  |false=>exact B2 ⟨rfl,again' I7 (hNx _ _ q7)⟩
  |true=>
   refine Ap (noX (bx (he _ s7 σ6 H7 _ I7 q7) λ_ s8 ⟨σ8,H8,I8,q8⟩=>?_))
   exact B2 ⟨rfl,again' I8 (hNx _ _ q8)⟩
noncomputable def mO(D:Addr)(te:TE):zu:=λσ H R=>te σ H λy H1=>∃xs,H1 D=some (.lst xs)/\xs.length<C7/\R σ (upd H1 D (.lst (xs++[y])))
theorem pX{elt:Expr}{te:TE}{D:Addr}(h:PE X elt te):PEm2 X (do let _ <-call (.builtin "list.append") [.ref D,<-eval elt X.env]) (mO D te):=by
 intro pins s σ H R I hq;refine Ap (bx (h pins s σ H _ I hq) λu s1 ⟨y,H1,I1,r1,xs,hD,hz,q⟩=>?_)
 refine Ap (bx (ck pins s1 σ H1 (.ref D) [y] (.ref D) [u] (λ_ H'=>R σ H') I1 rfl (.cons r1 .nil) ⟨D,xs,y,rfl,rfl,hD,hz,q⟩) λ_ s2 ⟨v,H2,I2,_,q2⟩=>?_)
 exact B2 ⟨σ,H2,I2,q2⟩
end
structure Left(X:Cx)(pins:List (Addr×Obj))(σ:St)(C:Addr)(H':Hp)(s':At):Prop where
 ns:∃m,s'.heap.Ns C m
 out:∀h',Do C s'.heap h'->Inv X pins σ H' { s' with heap:=h' }
 free:H' C=none
 lne:X.env.locals≠C
 sz:X.s₀.heap.objs.size<=C
 qH:∀y c,X.env.cells.lookup y=some c->c≠C
 pne:∀p∈X.pn++pins,p.1≠C
section
variable{X:Cx}
theorem gw{e target iter:Expr}{ifs:List Expr}{gs:List Comprehension}{scope:Scope}{pos:Pos}{N:List Str}{fr:List (Option Nat)}{wi:TI}{g:Bk->TG}{tt:Bk->TT}{tem:Addr->Bk->zu}{em:Addr->Env->Sem Unit}{newAcc:Sem Value}{use:Option (Value->Sem Unit)}{Q:Value->At->Prop}{o:HO}{R:Addr->Hp->Prop}
  (hcl:clausesOf e=⟨target,iter,ifs,0⟩::gs) (hc:X.calm=true) (S:aY X scope N fr) (hi:PI X target iter wi) (hs:∀x,CS iter X.env x=pure x)
  (hnew:∀(pins:List (Addr×Obj))(σ:St)(H:Hp)(s:At)(K:Value->At->Prop),Inv X pins σ H s->(∀ob s3,Inv X pins σ (upd H s.heap.objs.size o) s3->s3.heap=s.heap.push ob->s3.os=s.os->K (.ref s.heap.objs.size) s3)->wpAny (model X.prog X.w) X.A newAcc K X.xe s)
  (hst:∀{K:Result->At->Prop}{s:At}{it acc:Value}{env:Env},Eb (model X.prog X.w) X.A (.compLoop e 0 it acc env) K s->wpAny (model X.prog X.w) X.A (HC it) (λit' s'=>Eb (model X.prog X.w) X.A (.compLoop e 0 it' acc env) K s') (notedBy (model X.prog X.w) X.A env λx s'=>K (.error x) s') s->Eb (model X.prog X.w) X.A (.compStart e 0 it acc env) K s)
  (ht:∀it D env,HE e 0 it (.ref D) env=lH target iter ifs (em D env) it env (again (.compLoop e 0 it (.ref D) env)))
  (hd:∀(it acc:Value)(env:Env)(Q:Fin->At->Prop)(E:Value->At->Prop)(s:At),wpAny (model X.prog X.w) X.A ((HE e 0 it acc env).onRaise (λx=>do noteFrame x env; theTreesLotGoes x)) Q E s->wpAny (model X.prog X.w) (X.A.under (.compLoop e 0 it acc env)) ((model X.prog X.w).den (.compLoop e 0 it acc env)) Q E s)
  (hq:∀it acc env,(Iq e 0 it acc env).quiet=true)
  (hin:∀z:Bk,PG (z.cx X scope N) target (g z)/\mL (z.cx X scope N) ifs (tt z)/\∀D,PEm2 (z.cx X scope N) (em D (z.cx X scope N).env) (tem D z))
  {pins:List (Addr×Obj)} {σ:St} {H:Hp} {s:At} (I:Inv X pins σ H s) (h:wi σ H λJ H1=>∀D,H1 D=none->∀z,eO (g z) (tt z) (tem D z) J (jm fr σ) (upd H1 D o) λ_ H'=>R D H')
  (hfin:∀D C H' s',Left X pins σ C H' s'->R D H'->IN (model X.prog X.w) X.A X.xe use Q (.ref D) C (.ok .next) s') :
  wpAny (model X.prog X.w) X.A (HU e scope X.env pos newAcc false (firstIter (⟨target,iter,ifs,0⟩::gs) X.env) use) Q X.xe s:=by
 refine wpAny_comprehension_free hcl hs (iu (S.cells I)) S.kind (λy hy e=>by rw[S.uniq y hy,e]) ?_
 refine bx (hi pins s σ H _ I h) λv s1 h1=>bx h1 λitv s2 h2=>?_
 obtain⟨it,fp,tn,J,H2,e,I2,T,st2,f2,h2⟩:=h2;subst e;refine hnew pins σ H2 s2 _ I2 λob s3 I3 hs3 ho=>?_
 have hD:H2 s2.heap.objs.size=none:=I2.fresh;have lt2:∀b∈fp,b<s2.heap.objs.size:=λb hb=>by
  obtain⟨o,e,_⟩:=T.obj _ _ st2 b hb;exact C6 e
 have f3:∀b∈fp,iL X pins (upd H2 s2.heap.objs.size o) b:=λb hb=>⟨by rw[az (CF (lt2 b hb))]; exact(f2 b hb).1,(f2 b hb).2⟩
 have sz3:s3.heap.objs.size=s2.heap.objs.size+1:=by rw[hs3]; exact Dc ..
 have u23:Un (frs X.stack) [] H2 (upd H2 s2.heap.objs.size o) s2.heap s3.heap:=by
  rw[hs3];exact Un.laid (λb o e=>Bz _ e) (C1 _) hD
 have st3:tn 0 s3.heap:=T.keep _ _ _ st2 λb _ o e=>by rw[hs3]; exact Bz _ e
 refine v9 S.kind λh4 hns old4 hcl=>?_
 have lt3:∀b∈fp,b<s3.heap.objs.size:=λb hb=>CD (lt2 b hb) (by rw[sz3]; exact Dp _)
 have sub:∀x(c:Addr),(aX X.env.cells scope.names []).lookup x=some c->X.env.cells.lookup x=some c:=λx c e=>fC scope.names [] (λ_ _ z=>by simp at z) e
 have qH:∀y c,X.env.cells.lookup y=some c->c<s3.heap.objs.size:=λy c e=>by
  obtain⟨v,z⟩:=I3.cell y c e;exact z.lt
 have I4:=sX (cl:=(D6 (s3.heap.objs.size+1) scope.names (aX X.env.cells scope.names []))) (tk:=s3.toks) I3 S f3 lt3 hns old4 (λx c e=>(hcl x c e).imp id λq=>⟨Nat.lt_of_succ_le q.1,q.2⟩)
  (λx y c e1 e2=>by
   rw[<-Dc s3.heap { cls:=.type "dict",data:=.dict #[] }] at e1 e2;exact zo (λx c e=>by rw[Dc]; exact Df (qH x c (sub x c e))) (λx y c h1 h2=>I3.ok.inj x y c (sub x c h1) (sub y c h2)) e1 e2)
  (λx hx=>by
   rcases hx with hx | hx
   ·exact E4.mp (ou _ _ _ (bI hx))
   ·obtain⟨a,ha⟩:=S.cells I3 _ (bI hx) rfl
    exact E4.mp (gR _ _ _ (fD scope.names [] (bI hx) (by show (X.env.cells.lookup x).isSome=true; rw[show X.env.cells.lookup x=some a from ha]; rfl))))
  (λx hx=>lF _ _ _ λz=>by have:=S.uniq _ z; rw[hx] at this; cases this)
 have st4:tn 0 h4:=T.keep _ _ _ st3 λb _ o e=>old4 b o e
 generalize hz:(⟨(D6 (s3.heap.objs.size+1) scope.names (aX X.env.cells scope.names [])),s3.heap.objs.size,fp,s3,upd H2 s2.heap.objs.size o⟩:Bk)=z;obtain⟨hg,hif,hem⟩:=hin z;have h2:=h2 _ hD z;subst hz;have loop:=oz (X:=jl X scope (D6 (s3.heap.objs.size+1) scope.names (aX X.env.cells scope.names [])) N s3.heap.objs.size fp s3 (upd H2 s2.heap.objs.size o)) (pins:=[]) (R:=IN (model X.prog X.w) X.A X.xe use Q (.ref s2.heap.objs.size) s3.heap.objs.size)
   (ht ..) (hd _ _ _) (hq _ _ _) hc rfl hg hif (hem _) T I4 st4 (λb hb=>(by
    obtain⟨f0,f1,fs,fe,fc,fp'⟩:=f3 b hb;refine⟨f0,CF (lt3 b hb),λz=>?_,.inl hb,λx c e=>?_,λp hp=>absurd (show p∈([]:List (Addr×Obj)) from hp) (by simp)⟩
    ·rcases lK (I3.kX b z) with z | z
     ·exact f1 z
     ·exact fs z
    ·rcases hcl x c e with q | q
     ·exact fc x c (sub x c q)
     ·exact Ew (CD (lt3 b hb) (IC q.1)))) h2 (λτ' H' s' J' q=>hfin _ _ H' s' ⟨(by
    obtain⟨m,hn,_⟩:=J'.loc;exact⟨m,hn⟩),λh' sb=>sY I2 f2 u23 ho (by rw[sz3]; exact Dp _) J' sb,J'.free,CF I3.lt,I3.sz,λy c e=>CF (qH y c e),λp hp=>CF (C6 (I3.pin p hp).1)⟩ q)
 exact hst loop (T.self X.A 0 _ _ _ st4 loop)
variable{pins:List (Addr×Obj)}{σ:St}{C D:Addr}{H':Hp}{s':At}
theorem Left.expr{Q:V->Hp->Prop}(L:Left X pins σ C H' s')(q:Q (.ref D) H'):IN (model X.prog X.w) X.A X.xe none (EP X pins σ Q) (.ref D) C (.ok .next) s':=by
 obtain⟨m,hn⟩:=L.ns;exact⟨m,hn,λh' sb=>⟨.ref D,H',L.out h' sb,rfl,q⟩⟩
theorem Inv.zw{h':Heap}(I:Inv X pins σ H' s')(hn:H' C=none)(hL:C≠X.env.locals)(h1:X.s₀.heap.objs.size<=C)(h2:∀x c,X.env.cells.lookup x=some c->c≠C)(h3:∀p∈X.pn++pins,p.1≠C)
  (sb:Do C s'.heap h'):Inv X pins σ H' { s' with heap:=h' }:=I.turned (t':=s'.toks) (λb o hb e=>(sb.2 b hb).trans e) hn hL (.inr h1) h2 h3
theorem Left.asg{i:Nat}{x:Str}{pos':Pos}{Dn:Ends}(L:Left X pins σ C H' s')(hN:X.N.Nodup)(hi':X.N[i]? = some x)(hx:X.env.scope.names.lookup x=some .local)(q:Dn.nx (σ.set i (some (.ref D))) H') :
  IN (model X.prog X.w) X.A X.xe (some (FQ (.Name x pos') X.env)) (λ_ s'=>SP X pins Dn .next s') (.ref D) C (.ok .next) s':=by
 obtain⟨m,hn⟩:=L.ns;show wpAny (model X.prog X.w) X.A (FQ (.Name x pos') X.env (.ref D)) _ X.xe s';refine wpAny_assign_Name (kc (v:=.ref D) (L.out s'.heap (Heap.SameBut.refl ..)) hN hi' (.inl hx) rfl (λs5 I5 sb5=>?_) (.inr hx))
 obtain⟨b,sb,hb⟩:=sb5;have hbne:C≠b:=by
  rcases hb with e | e
  ·rw[e]; exact L.lne.symm
  ·exact(L.qH _ _ e).symm
 exact⟨m,hn.sameBut sb hbne,λh' sb'=>⟨_,H',I5.zw L.free L.lne.symm L.sz L.qH L.pne sb',q⟩⟩
theorem wc{x:Str}{elt:Expr}{gs:List Comprehension}{scope:Scope}{pos pos' spos:Pos}{Dn:Ends}{s:At}(hsw:Dh (.ListComp elt gs scope pos) (some (.Name x pos')) spos.line X.env=pure true)
  (h:wpAny (model X.prog X.w) X.A (HU (.ListComp elt gs scope pos) scope X.env (firstIterPos gs pos) (Hm []) (firstAsync gs) (firstIter gs X.env) (some (FQ (.Name x pos') X.env))) (λ_ s'=>SP X pins Dn .next s') X.xe s) :
  wpAny (model X.prog X.w) X.A (exec (.Assign [.Name x pos'] (.ListComp elt gs scope pos) spos) X.env) (SP X pins Dn) X.xe s:=by
 rw[exec_Assign_Name_used _ _ _ _ hsw];refine Ap (E8 (Ap ?_));show wpAny _ X.A (do let _ <-HU (.ListComp elt gs scope pos) scope X.env (firstIterPos gs pos) (Hm []) (firstAsync gs) (firstIter gs X.env) (some (FQ (.Name x pos') X.env))) _ _ s
 exact Ap (Dl h (λ_ s' hq=>B2 (B2 hq)) λ_ _ e=>e)
theorem mP(pins:List (Addr×Obj))(σ:St)(H:Hp)(s:At)(K:Value->At->Prop)(I:Inv X pins σ H s)(h:∀ob s3,Inv X pins σ (upd H s.heap.objs.size (.lst [])) s3->s3.heap=s.heap.push ob->s3.os=s.os->K (.ref s.heap.objs.size) s3):wpAny (model X.prog X.w) X.A (Hm []) K X.xe s :=
 Cv (h _ _ (I.lnew (t':=s.toks) (ys:=[]) (its:=[]) .nil (DR _)) rfl rfl)
noncomputable def AW(fr:List (Option Nat))(wi:TI)(g:Bk->TG)(tt:Bk->TT)(te:Bk->TE):TE:=λσ H Q=>wi σ H λJ H1=>∀D,H1 D=none->∀z,eO (g z) (tt z) (mO D (te z)) J (jm fr σ) (upd H1 D (.lst [])) λ_ H'=>Q (.ref D) H'
theorem sZ{elt target iter:Expr}{ifs:List Expr}{scope:Scope}{pos:Pos}{N:List Str}{fr:List (Option Nat)}{wi:TI}{g:Bk->TG}{tt:Bk->TT}{te:Bk->TE}(hc:X.calm=true)(S:aY X scope N fr)(hi:PI X target iter wi)
  (hin:∀z:Bk,PG (z.cx X scope N) target (g z)/\mL (z.cx X scope N) ifs (tt z)/\PE (z.cx X scope N) elt (te z))
  (hs:∀x,CS iter X.env x=pure x:=by intro _; rfl):PE X (.ListComp elt [⟨target,iter,ifs,0⟩] scope pos) (AW fr wi g tt te):=by
 intro pins s σ H Q I h;rw[eval_ListComp];exact gw (em:=λD env=>(do let _ <-call (.builtin "list.append") [.ref D,<-eval elt env])) rfl hc S hi hs mP Ho (λ_ _ _=>compTurn_list ..) (λ_ _ _ _ _ _ z=>z) (λ_ _ _=>rfl) (λz=>⟨(hin z).1,(hin z).2.1,λ_=>pX (hin z).2.2⟩) I h λ_ _ _ _ L q=>L.expr q
theorem zy{i:Nat}{x:Str}{elt target iter:Expr}{ifs:List Expr}{scope:Scope}{pos pos' spos:Pos}{N:List Str}{fr:List (Option Nat)}{wi:TI}{g:Bk->TG}{tt:Bk->TT}{te:Bk->TE}(hN:X.N.Nodup)(hi':X.N[i]? = some x)(hx:X.env.scope.names.lookup x=some .local)
  (hc:X.calm=true) (S:aY X scope N fr) (hi:PI X target iter wi)
  (hin:∀z:Bk,PG (z.cx X scope N) target (g z)/\mL (z.cx X scope N) ifs (tt z)/\PE (z.cx X scope N) elt (te z))
  (hs:∀x,CS iter X.env x=pure x:=by intro _; rfl) (hsw:Dh (.ListComp elt [⟨target,iter,ifs,0⟩] scope pos) (some (.Name x pos')) spos.line X.env=pure true:=by rfl) :
  PS X (.Assign [.Name x pos'] (.ListComp elt [⟨target,iter,ifs,0⟩] scope pos) spos) (jT (AW fr wi g tt te) (r9 i)):=by
 intro pins s σ H Dn I h;exact wc hsw (gw (em:=λD env=>(do let _ <-call (.builtin "list.append") [.ref D,<-eval elt env])) rfl hc S hi hs mP Ho (λ_ _ _=>compTurn_list ..) (λ_ _ _ _ _ _ z=>z) (λ_ _ _=>rfl) (λz=>⟨(hin z).1,(hin z).2.1,λ_=>pX (hin z).2.2⟩) I h λ_ _ _ _ L q=>L.asg hN hi' hx q)
end
theorem compTurn_dict(ek ev target iter:Expr)(ifs:List Expr)(scope:Scope)(pos:Pos)(it:Value)(d:Addr)(env:Env) :
  HE (.DictComp ek ev [⟨target,iter,ifs,0⟩] scope pos) 0 it (.ref d) env=lH target iter ifs (do
    let kv <-eval ek env
    let vv <-En [kv] (eval ev env)
    FP { ek.pos with endLine:=ev.pos.endLine,endCol:=ev.pos.endCol }
    En [kv,vv] (dictSet d kv vv)) it env (again (.compLoop (.DictComp ek ev [⟨target,iter,ifs,0⟩] scope pos) 0 it (.ref d) env)):=by rfl
theorem codeAny_compStart_dict{prog:CH}{w:World}{A:Cw}{R:Result->At->Prop}{s:At}{ek ev target iter ifs rest scope pos it acc env}
  (h0:Eb (model prog w) A (.compLoop (.DictComp ek ev (⟨target,iter,ifs,0⟩::rest) scope pos) 0 it acc env) R s)
  (h:wpAny (model prog w) A (HC it) (λit' s'=>Eb (model prog w) A (.compLoop (.DictComp ek ev (⟨target,iter,ifs,0⟩::rest) scope pos) 0 it' acc env) R s')
   (notedBy (model prog w) A env λx s'=>R (.error x) s') s) :
  Eb (model prog w) A (.compStart (.DictComp ek ev (⟨target,iter,ifs,0⟩::rest) scope pos) 0 it acc env) R s:=by
 refine codeAny_of_tree ?_;show wpAny _ _ ((compStart (.DictComp ek ev (⟨target,iter,ifs,0⟩::rest) scope pos) 0 it acc env).onRaise (λx=>do noteFrame x env; FP theWindowsPlace)) _ _ s
 refine wpAny_notedAt ?_;unfold compStart;show wpAny _ _ (ask >>= _) _ _ s;refine Ap (wpAny_askSetting (wpAny_ite ?_))
 split
 ·first
   |exact Ap (B2 (B2 (HB rfl h0)))
   |exact B2 (HB rfl h0)
 ·first
   |exact Ap (Eg (Ap (E8 (Ap (Dl h (λit' s' h'=>B2 (HB rfl h')) λ_ _ x=>x)))))
   |(refine Ap (Eg ?_); show wpAny _ _ (FP iter.pos >>= _) _ _ s; exact Ap (E8 (Ap (Dl h (λit' s' h'=>B2 (HB rfl h')) λ_ _ x=>x))))
noncomputable def ePut(D:Addr)(tk tv:TE):zu:=λσ H R=>tk σ H λy H1=>tv σ H1 λv H2=>∃kvs k,y=kV k/\H2 D=some (.dK kvs)/\kvs.length<C7/\R σ (upd H2 D (.dK (putK kvs k v)))
theorem d_set{X:Cx}{pins:List (Addr×Obj)}{σ:St}{H:Hp}{s:At}{A:Cw}{E:Value->At->Prop}{a:Addr}{k:Key}{v:V}{u r:Value}{kvs:List (Key×V)}{Q:Unit->At->Prop}(I:Inv X pins σ H s)(e:H a=some (.dK kvs))(l:kvs.length<C7)(ry:RelV (kV k) u)(rv:RelV v r)
  (h:∀s',Inv X pins σ (upd H a (.dK (putK kvs k v))) s'->Q () s'):wpAny (model X.prog X.w) A (dictSet a u r) Q E s:=by
 obtain⟨z,hd,vs,rel,dd⟩:=pS I.hok e;have hz:vs.length<=C7:=by rw[<-rel.length]; exact z
 have hl:(putK kvs k v).length<=C7:=by have:=dI kvs k v; lia
 refine wpAny_dictSet_pairs (hsz:=hz) (jg ry) dd λh' dd' hs=>h _ ?_
 have he:∃q,h'.get? a=some q:=let ⟨q,_,_,hq,_⟩:=dd'; ⟨q,hq⟩;exact iU I (by rw[e]; exact DT) hs he (oq hl hd (rel.put k rv) dd')
theorem zz {X:Cx} {ek ev:Expr} {tk tv:TE} {D:Addr} {p:Pos} (hk:PE X ek tk) (hv:PE X ev tv):PEm2 X (do
        let kv <-eval ek X.env
        let vv <-En [kv] (eval ev X.env)
        FP p
        En [kv,vv] (dictSet D kv vv)) (ePut D tk tv):=by
  intro pins s σ H R I hq;refine Ap (bx (hk pins s σ H _ I hq) λu s1 ⟨y,H1,I1,r1,q1⟩=>?_)
  refine Ap (DX (bx (hv pins s1 σ H1 _ I1 q1) λr s2 ⟨v,H2,I2,r2,q2⟩=>?_))
  obtain⟨kvs,k,e,hD,hz,q⟩:=q2;subst e;exact Ap (E8 (DX (d_set I2 hD hz r1 r2 λs3 I3=>⟨σ,_,I3,q⟩)))
noncomputable def B8(fr:List (Option Nat))(wi:TI)(g:Bk->TG)(tt:Bk->TT)(tk tv:Bk->TE):TE:=λσ H Q=>wi σ H λJ H1=>∀D,H1 D=none->∀z,eO (g z) (tt z) (ePut D (tk z) (tv z)) J (jm fr σ) (upd H1 D (.dK [])) λ_ H'=>Q (.ref D) H'
section
variable{X:Cx}
theorem pe_dc{ek ev target iter:Expr}{ifs:List Expr}{scope:Scope}{pos:Pos}{N:List Str}{fr:List (Option Nat)}{wi:TI}{g:Bk->TG}{tt:Bk->TT}{tk tv:Bk->TE}(hc:X.calm=true)(S:aY X scope N fr)(hi:PI X target iter wi)
  (hin:∀z:Bk,PG (z.cx X scope N) target (g z)/\mL (z.cx X scope N) ifs (tt z)/\PE (z.cx X scope N) ek (tk z)/\PE (z.cx X scope N) ev (tv z))
  (hs:∀x,CS iter X.env x=pure x:=by intro _; rfl):PE X (.DictComp ek ev [⟨target,iter,ifs,0⟩] scope pos) (B8 fr wi g tt tk tv):=by
 intro pins s σ H Q I h;exact gw (e:=.DictComp ek ev [⟨target,iter,ifs,0⟩] scope pos) (newAcc:=newDict) rfl hc S hi hs (λ_ _ _ s _ I h=>Cv (h _ _ (I.laid (a:=s.heap.objs.size) (o:=.dK []) (t':=s.toks) (λ_ _ q=>Bz _ q) (C1 _) (mJ s.heap I.big)) rfl rfl)) codeAny_compStart_dict (λ_ _ _=>compTurn_dict ..) (λ_ _ _ _ _ _ z=>z) (λ_ _ _=>rfl) (λz=>⟨(hin z).1,(hin z).2.1,λ_=>zz (hin z).2.2.1 (hin z).2.2.2⟩) I h λ_ _ _ _ L q=>L.expr q
end
end L2
end
section
namespace L2
open PySem PySem.W PyProof.Rows
def dB{α:Type}(lt:Nat->Nat->Bool)(N:Nat):KasT α->(α->Prop)->Prop
 |.ret a,R=>R a
 |.ask i j k,R=>i<N/\j<N/\dB lt N (k (lt i j)) R
theorem cN{α β:Type}{lt:Nat->Nat->Bool}{N:Nat}{f:α->KasT β}{R:β->Prop}:∀(t:KasT α),dB lt N t (λa=>dB lt N (f a) R)->dB lt N (t.bind f) R
 |.ret _,h=>h
 |.ask i j k,⟨h1,h2,h3⟩=>⟨h1,h2,cN (k (lt i j)) h3⟩
theorem aU{α:Type}{lt:Nat->Nat->Bool}{N:Nat}{R R':α->Prop}(hr:∀a,R a->R' a):∀(t:KasT α),dB lt N t R->dB lt N t R'
 |.ret _,h=>hr _ h
 |.ask i j k,⟨h1,h2,h3⟩=>⟨h1,h2,aU hr (k (lt i j)) h3⟩
theorem mQ{α:Type}{lt:Nat->Nat->Bool}{N:Nat}{P:At->Prop}{cmp:Nat->Nat->(Bool->At->Prop)->At->Prop}{Q:α->At->Prop}
  (hc:∀i j C s,i<N->j<N->P s->(∀s',P s'->C (lt i j) s')->cmp i j C s):∀(t:KasT α)(s:At),P s->dB lt N t (λa=>∀s',P s'->Q a s')->t.kasWp cmp Q s
 |.ret _,s,hp,h=>h s hp
 |.ask i j k,s,hp,⟨h1,h2,h3⟩=>hc i j _ s h1 h2 hp λs' hp'=>mQ hc (k (lt i j)) s' hp' h3
structure Ord(lt:Nat->Nat->Bool):Prop where
 asym:∀a b,lt a b=true->lt b a=false
 trans:∀a b c,lt b a=false->lt c b=false->lt c a=false
section
variable{lt:Nat->Nat->Bool}{N:Nat}
noncomputable abbrev gD(p:Array Nat)(i:Nat):Nat:=p.getD i 0
theorem jn(p:Array Nat)(i:Nat):gD p i=(p[i]?).getD 0:=by
 unfold gD; simp
def mR(lt:Nat->Nat->Bool)(p:Array Nat)(m:Nat):Prop:=∀i j,i<=j->j<m->lt (gD p j) (gD p i)=false
def we(lt:Nat->Nat->Bool)(p:Array Nat)(m:Nat):Prop:=∀i j,i<=j->j<m->lt (gD p i) (gD p j)=false
def yd(lt:Nat->Nat->Bool)(p:Array Nat)(a b:Nat):Prop:=∀i j,a<=i->i<b->a<=j->j<b->lt (gD p i) (gD p j)=false
def Pm(N:Nat)(p:Array Nat):Prop:=p.Perm (EO (CG N))
theorem Pm.size{p:Array Nat}(h:Pm N p):p.size=N:=by
 have:=h.size_eq;simpa using this
theorem Pm.bd{p:Array Nat}(h:Pm N p)(hN:0<N)(i:Nat):gD p i<N:=by
 unfold gD
 by_cases hi:i<p.size
 ·have hm:p[i]∈p:=Array.getElem_mem hi
  have:p[i]∈(EO (CG N)):=h.mem_iff.mp hm;have hlt:p[i]<N:=by simpa using this
  simpa[GV,hi] using hlt
 ·simpa[GV,hi] using hN
theorem Pm.rev{p:Array Nat}(h:Pm N p)(i j:Nat):Pm N (Gv p i j):=(mirror_perm p i j _).trans h
theorem Pm.Cj{p:Array Nat}(h:Pm N p)(i j:Nat):Pm N (bubble p i j):=(bubble_perm p i j).trans h
theorem cR{p:Array Nat}{i j:Nat}(hj:j<=p.size)(k:Nat):gD (Gv p i j) k=if i<=k/\k<j then gD p (i+j-1-k) else gD p k:=by
 rw[jn,jn,jn];unfold Gv;rw[getElem?_mirror_all hj]
 split <;> rfl
theorem jo(O:Ord lt){p:Array Nat}(hp:Pm N p)(hN:0<N):∀(f n:Nat),1<=n->mR lt p n->dB lt N (kas_asc p f n) (λm=>n<=m/\m<=n+f/\mR lt p m/\(m<n+f->lt (gD p m) (gD p (m-1))=true))
 |0,n,h1,hs=>⟨C1 _,C1 _,hs,λh=>absurd h (Ds _)⟩
 |f+1,n,h1,hs=>by
  refine⟨hp.bd hN _,hp.bd hN _,?_⟩;cases e:lt (p.getD n 0) (p.getD (n-1) 0) with
  |true=>
   simp only[if_true];exact⟨C1 _,by lia,hs,λ_=>e⟩
  |false=>
   simp only[DV,if_false];have hs':mR lt p (n+1):=by
    intro i j hij hj
    by_cases hjn:j=n
    ·subst hjn
     by_cases hin:i=j
     ·subst hin
      cases q:lt (gD p i) (gD p i) with
      |false=>rfl
      |true=>rw[O.asym _ _ q] at q; cases q
     ·exact O.trans _ _ _ (hs i (j-1) (by lia) (by lia)) e
    ·exact hs i j hij (by lia)
   exact aU (λm ⟨a,b,c,d⟩=>⟨by lia,by lia,c,λh=>d (by lia)⟩) _ (jo O hp hN f (n+1) (by lia) hs')
theorem ye(O:Ord lt)(a:Nat):lt a a=false:=by
 cases q:lt a a with
 |false=>rfl
 |true=>rw[O.asym _ _ q] at q; cases q
theorem eqs_rev(O:Ord lt){p:Array Nat}{a b:Nat}(hb:b<=p.size)(h:yd lt p a b):yd lt (Gv p a b) a b:=by
 intro i j h1 h2 h3 h4;rw[cR hb,cR hb,if_pos ⟨h1,h2⟩,if_pos ⟨h3,h4⟩];exact h _ _ (by lia) (by lia) (by lia) (by lia)
theorem lI(O:Ord lt){p:Array Nat}{a b:Nat}(hb:b<=p.size)(h:yd lt p a b)(hd:we lt p b):we lt (Gv p a b) b:=by
 intro i j hij hj;rw[cR hb,cR hb]
 by_cases hi:a<=i/\i<b
 ·rw[if_pos hi,if_pos ⟨by lia,hj⟩]
  exact h _ _ (by lia) (by lia) (by lia) (by lia)
 ·rw[if_neg hi]
  by_cases hj':a<=j/\j<b
  ·rw[if_pos hj']
   exact hd _ _ (by lia) (by lia)
  ·rw[if_neg hj']
   exact hd _ _ hij hj
theorem fE(O:Ord lt){p:Array Nat}{n:Nat}(h1:1<=n)(hd:we lt p n)(e:lt (gD p (n-1)) (gD p n)=false):we lt p (n+1):=by
 intro i j hij hj
 by_cases hjn:j=n
 ·subst hjn
  by_cases hin:i=j
  ·subst hin; exact ye O _
  ·exact O.trans _ _ _ e (hd i (j-1) (by lia) (by lia))
 ·exact hd i j hij (by lia)
theorem fV(O:Ord lt)(hN:0<N):∀(f:Nat)(p:Array Nat)(n q:Nat),Pm N p->q+1<=n->n+f<=N->we lt p n->yd lt p (n-(q+1)) n ->
  dB lt N (kas_desc f p n q) (λr=>Pm N r.1/\n<=r.2.1/\r.2.1<=n+f/\r.2.2+1<=r.2.1/\we lt r.1 r.2.1/\yd lt r.1 (r.2.1-(r.2.2+1)) r.2.1)
 |0,p,n,q,hp,hq,hn,hd,he=>⟨hp,C1 _,C1 _,hq,hd,he⟩
 |f+1,p,n,q,hp,hq,hn,hd,he=>by
  have one:∀(p:Array Nat)(n:Nat),yd lt p (n+1-(0+1)) (n+1):=λp n i j h1 h2 h3 h4=>by
   have e:i=j:=by lia
   subst e; exact ye O _
  refine⟨hp.bd hN _,hp.bd hN _,?_⟩;cases e:lt (p.getD n 0) (p.getD (n-1) 0) with
  |true=>
   simp only[if_true];have e':lt (gD p (n-1)) (gD p n)=false:=O.asym _ _ e
   by_cases hq0:q>0
   ·rw[if_pos hq0]
    have hb:n<=p.size:=by rw[hp.size]; lia
    have hd':=lI O hb he hd;refine aU (λr ⟨a,b,c,d⟩=>⟨a,by lia,by lia,d⟩) _ (fV O hN f _ (n+1) 0 (hp.rev _ _) (by lia) (by lia) (fE O (by lia) hd' ?_) (one _ _))
    rw[cR hb,cR hb,if_pos ⟨by lia,by lia⟩,if_neg (by lia)]
    exact O.trans _ _ _ e' (he _ _ (by lia) (by lia) (by lia) (by lia))
   ·rw[if_neg hq0]
    exact aU (λr ⟨a,b,c,d⟩=>⟨a,by lia,by lia,d⟩) _ (fV O hN f _ (n+1) 0 hp (by lia) (by lia) (fE O (by lia) hd e') (one _ _))
  |false=>
   simp only[DV,if_false];refine⟨hp.bd hN _,hp.bd hN _,?_⟩;cases e2:lt (p.getD (n-1) 0) (p.getD n 0) with
   |true=>
    simp only[if_true];exact⟨hp,C1 _,(show n<=n+(f+1) by lia),hq,hd,he⟩
   |false=>
    simp only[DV,if_false];refine aU (λr ⟨a,b,c,d⟩=>⟨a,by lia,by lia,d⟩) _ (fV O hN f _ (n+1) (q+1) hp (by lia) (by lia) (fE O (by lia) hd e2) ?_)
    intro i j h1 h2 h3 h4
    by_cases hi:i=n
    ·by_cases hj:j=n
     ·subst hi; subst hj; exact ye O _
     ·rw[hi]
      exact O.trans _ _ _ (he j (n-1) (by lia) (by lia) (by lia) (by lia) |> λz=>he (n-1) j (by lia) (by lia) (by lia) (by lia)) e
    ·by_cases hj:j=n
     ·rw[hj]
      exact O.trans _ _ _ e2 (he i (n-1) (by lia) (by lia) (by lia) (by lia))
     ·exact he i j (by lia) (by lia) (by lia) (by lia)
theorem jq(O:Ord lt)(hN:0<N){p:Array Nat}{n:Nat}(hp:Pm N p)(h1:1<=n)(hn:n<=N)(hd:we lt p n):dB lt N (kas_tail3 n N p) (λr=>Pm N r.2/\1<=r.1/\r.1<=N/\mR lt r.2 r.1):=by
 unfold kas_tail3;have hb:n<=p.size:=by rw[hp.size]; exact hn
 have hs:mR lt (Gv p 0 n) n:=by
  intro i j hij hj;rw[cR hb,cR hb,if_pos ⟨by lia,hj⟩,if_pos ⟨by lia,by lia⟩]
  exact hd _ _ (by lia) (by lia)
 refine cN _ (aU (λm ⟨a,b,c,d⟩=>?_) _ (jo O (hp.rev 0 n) hN (N-n) n h1 hs))
 exact⟨hp.rev _ _,by show 1<=m; lia,by show m<=N; lia,c⟩
theorem gk(O:Ord lt)(hN:0<N){p:Array Nat}{n:Nat}(hp:Pm N p)(h1:1<=n)(hn:n+1<=N)(hd:we lt p (n+1)):dB lt N (kas_descPart n N p) (λr=>Pm N r.2/\1<=r.1/\r.1<=N/\mR lt r.2 r.1):=by
 unfold kas_descPart;have e1:yd lt p (n+1-(0+1)) (n+1):=λi j h1 h2 h3 h4=>by
  have e:i=j:=by lia
  subst e; exact ye O _
 refine cN _ (aU (λr hr=>?_) _ (fV O hN (N-(n+1)) p (n+1) 0 hp (by lia) (by lia) hd e1))
 ·obtain⟨a,b,c,d,e,g⟩:=hr
  have hb:r.2.1<=r.1.size:=by rw[a.size]; lia
  by_cases hq:r.2.2>0
  ·rw[if_pos hq]
   exact jq O hN (a.rev _ _) (by lia) (by lia) (lI O hb g e)
  ·rw[if_neg hq]
   exact jq O hN a (by lia) (by lia) e
theorem oA(O:Ord lt)(hN:0<N){p:Array Nat}(hp:Pm N p):dB lt N (kas_count N p) (λr=>Pm N r.2/\1<=r.1/\r.1<=N/\mR lt r.2 r.1):=by
 unfold kas_count;have s1:mR lt p 1:=λi j hij hj=>by
  have e:i=j:=by lia
  subst e; exact ye O _
 refine cN _ (aU (λn ⟨a,b,c,d⟩=>?_) _ (jo O hp hN (N-1) 1 (C1 _) s1))
 by_cases hn:(n == N)=true
 ·rw[if_pos hn]
  have:n=N:=by simpa using hn
  exact⟨hp,a,by show n<=N; lia,c⟩
 ·rw[if_neg hn]
  have hne:n≠N:=by simpa using hn
  have dl:=d (by lia)
  by_cases h1:n>1
  ·rw[if_pos h1]
   refine⟨hp.bd hN _,hp.bd hN _,?_⟩;cases e:lt (p.getD 0 0) (p.getD (n-1) 0) with
   |true=>
    simp only[if_true];exact⟨hp,a,by show n<=N; lia,c⟩
   |false=>
    simp only[DV,if_false];have hb:n<=p.size:=by rw[hp.size]; lia
    have eqs:yd lt p 0 n:=λi j _ h2 _ h4=>by
     refine O.trans _ (gD p (n-1)) _ (c j (n-1) (by lia) (by lia)) ?_
     exact O.trans _ (gD p 0) _ e (c 0 i (by lia) h2)
    have hd:we lt p n:=λi j hij hj=>eqs i j (by lia) (by lia) (by lia) hj
    refine gk O hN (hp.rev _ _) a (by lia) (fE O a (lI O hb eqs hd) ?_)
    rw[cR hb,cR hb,if_pos ⟨by lia,by lia⟩,if_neg (by lia)]
    exact O.trans _ _ _ (O.asym _ _ dl) (eqs _ _ (by lia) (by lia) (by lia) (by lia))
  ·rw[if_neg h1]
   have e1:n=1:=by lia
   subst e1;refine gk O hN hp (C1 _) (by lia) (fE O (C1 _) (λi j hij hj=>?_) (O.asym _ _ dl))
   have e:i=j:=by lia
   subst e; exact ye O _
theorem gx(O:Ord lt)(hN:0<N){p:Array Nat}{k:Nat}(hp:Pm N p)(hs:mR lt p k):∀(f l r:Nat),l<=r->r<=k->r-l<=f->(∀i,i<l->lt (gD p k) (gD p i)=false)->(∀i,r<=i->i<k->lt (gD p k) (gD p i)=true) ->
  dB lt N (kas_place p k f l r) (λl'=>l'<=k/\(∀i,i<l'->lt (gD p k) (gD p i)=false)/\∀i,l'<=i->i<k->lt (gD p k) (gD p i)=true)
 |0,l,r,h1,h2,h3,a,b=>⟨by lia,a,λi hi hk=>b i (by lia) hk⟩
 |f+1,l,r,h1,h2,h3,a,b=>by
  unfold kas_place
  by_cases h:l>=r
  ·rw[if_pos h]
   exact⟨by lia,a,λi hi hk=>b i (by lia) hk⟩
  ·rw[if_neg h]
   refine⟨hp.bd hN _,hp.bd hN _,?_⟩;cases e:lt (p.getD k 0) (p.getD ((l+r) / 2) 0) with
   |true=>
    simp only[if_true];refine gx O hN hp hs f l ((l+r) / 2) (by lia) (by lia) (by lia) a λi hi hk=>?_
    cases q:lt (gD p k) (gD p i) with
    |true=>rfl
    |false=>
     have z:=O.trans _ _ _ (hs ((l+r) / 2) i hi hk) q;rw[e] at z; cases z
   |false=>
    simp only[DV,if_false];refine gx O hN hp hs f ((l+r) / 2+1) r (by lia) (by lia) (by lia) (λi hi=>?_) b
    exact O.trans _ _ _ (hs i ((l+r) / 2) (by lia) (by lia)) e
theorem pY{p:Array Nat}{k l:Nat}(hk:k<p.size)(hl:l<=k)(i:Nat):gD (bubble p k (k-l)) i=if i=l then gD p k else if l<i/\i<=k then gD p (i-1) else gD p i:=by
 rw[jn,jn,jn,jn,getElem?_bubble hk (k-l) (by lia)]
 have e:k-(k-l)=l:=by lia
 rw[e]
 split
 ·rfl
 ·split <;> rfl
theorem mS(O:Ord lt)(hN:0<N):∀(f:Nat)(p:Array Nat)(k:Nat),Pm N p->1<=k->k+f=N->mR lt p k->dB lt N (kas_bin f p k) (λp'=>Pm N p'/\mR lt p' N)
 |0,p,k,hp,h1,hk,hs=>⟨hp,(by lia:k=N)▸hs⟩
 |f+1,p,k,hp,h1,hk,hs=>by
  unfold kas_bin;refine cN _ (aU (λl ⟨hl,a,b⟩=>?_) _ (gx O hN hp hs k 0 k (DR _) (C1 _) (by lia) (λi hi=>absurd hi (FC _)) λi hi hk=>absurd hk (by lia)))
  refine mS O hN f _ (k+1) (hp.Cj _ _) (by lia) (by lia) ?_
  have hks:k<p.size:=by rw[hp.size]; lia
  intro i j hij hj;rw[pY hks hl,pY hks hl]
  by_cases hjl:j=l
  ·rw[if_pos hjl]
   by_cases hil:i=l
   ·rw[if_pos hil]; exact ye O _
   ·rw[if_neg hil,if_neg (by lia)]
    exact a i (by lia)
  ·rw[if_neg hjl]
   by_cases hj2:l<j/\j<=k
   ·rw[if_pos hj2]
    by_cases hil:i=l
    ·rw[if_pos hil]
     exact O.asym _ _ (b (j-1) (by lia) (by lia))
    ·rw[if_neg hil]
     by_cases hi2:l<i/\i<=k
     ·rw[if_pos hi2]
      exact hs _ _ (by lia) (by lia)
     ·rw[if_neg hi2]
      exact hs _ _ (by lia) (by lia)
   ·rw[if_neg hj2,if_neg (by lia),if_neg (by lia)]
    exact hs _ _ (by lia) (by lia)
theorem qV(O:Ord lt)(hN:0<N):dB lt N (kas_sort N) (λp=>Pm N p/\mR lt p N):=by
 unfold kas_sort;refine cN _ (aU (λr ⟨a,b,c,d⟩=>?_) _ (oA O hN (HL _)))
 by_cases h:r.1<N
 ·rw[if_pos h]
  have e:max r.1 1=r.1:=by lia
  rw[e];exact mS O hN _ _ _ a b (by lia) d
 ·rw[if_neg h]
  have e:r.1=N:=by lia
  exact⟨a,by rw[<-e]; exact d⟩
end
end L2
end
section
namespace L2
open PySem PySem.W PyProof.Rows PySem.Calls
section
variable{prog:CH}{w:World}{A:Cw}{E:Value->At->Prop}{s:At}
noncomputable def gS(vs:List Value)(p:Array Nat):List Value:=p.toList.map λi=>vs.getD i DC
theorem jZ{a:Addr}{vs:List Value}{n:Nat}{lt:Nat->Nat->Bool}{P:PySem.Fin->At->Prop}(O:Ord lt)(ho:s.heap.get? a=some (D3 "list" vs.toArray n))(h64:vs.length<64)
  (hk:2<=vs.length->∀h':Heap,(∀b o,b≠a->s.heap.get? b=some o->h'.get? b=some o)->∃κ,(∀Q:SortKind->At->Prop,Q κ { s with heap:=h' }->wpAny (model prog w) A (keyKind' vs.toArray) Q (λ_ _=>False) { s with heap:=h' }) /\
   ∀i j,i<vs.length->j<vs.length->∀C:Bool->At->Prop,C (lt i j) { s with heap:=h' }->wpAny (model prog w) A (keyLt' κ (vs.getD i DC) (vs.getD j DC)) C (λ_ _=>False) { s with heap:=h' })
  (h:∀p:Array Nat,Pm vs.length p->mR lt p vs.length->P (.done (.ret .none)) { s with heap:=sortedHeap s.heap a vs (gS vs p).toArray }) :
  wpAny (model prog w) A (Fq.«list.sort» ⟨[.ref a],[]⟩) P E s:=by
 have ha:a<s.heap.objs.size:=C6 ho;obtain⟨e1,ho1⟩:∃e1,(s.heap.update a (Ch λ_=>(#[]:Array Value))).get? a=some (D3 "list" #[] e1):=⟨_,get?_update_seq ho λ_=> #[]⟩
 rw[list_sort_plain];refine Ap (Hu ho rfl ?_);refine Ap (Fx ho rfl ?_ (by rw[Bi,Cy]; lia) (DR _))
 refine Ap (IR ho1 rfl ?_);refine Ap (wpAny_newTuple ?_ (by show vs.length<=_; rw[Cy]; lia))
 refine Ap (Et ?_ (DR _));refine DX ?_;have ho6:(((s.heap.update a (Ch λ_=> #[])).push (D3 "tuple" vs.toArray 0)).push (D3 "list" #[] 0)).get? a=some (D3 "list" #[] e1):=by
  rw[Ec _ _ _ (by rw[Ir,Ek]; exact CF (Df ha)),Ec _ _ _ (by rw[Ek]; exact CF ha)]
  exact ho1
 show wpAny (model prog w) A _ P E { s with heap:=((s.heap.update a (Ch λ_=>(#[]:Array Value))).push (D3 "tuple" vs.toArray 0)).push (D3 "list" #[] 0) }
 dsimp only
 by_cases h2:vs.toArray.size<2
 ·rw[if_pos h2,if_pos h2]
  refine Ap (B2 ?_);rw[StateT.run_pure];refine Ap (B2 ?_);dsimp only;refine Ap (IR ho6 rfl ?_);have hsmall:vs.length<2:=by simpa using h2
  refine Ap (Fx ho6 rfl ?_ (hsz2:=by rw[Array.size_map]; show (pairsOf vs).size<=_; rw[pairsOf_size,Cy]; lia))
  simp only[bne_self_eq_false,DV,if_false];have hp:Pm vs.length (EO (CG vs.length)):=HL _;have hs:mR lt (EO (CG vs.length)) vs.length:=λi j hij hj=>by
   have e:i=j:=by lia
   subst e; exact ye O _
  have z:=h _ hp hs;have eo:((arrOf (SortSt.mk' general' (vs.toArray.zip vs.toArray) #[] 7 none)).map (·.2))=(gS vs (EO (CG vs.length))).toArray:=by
   have e1:gS vs (EO (CG vs.length))=vs:=by
    unfold gS;apply Ft;intro i;rw[Cu]
    by_cases hi:i<vs.length
    ·simp[FZ hi,hi]
    ·simp[FH,hi,IU hi]
   rw[e1];show (vs.toArray.zip vs.toArray).map (·.2)=vs.toArray;apply Array.toList_inj.mp;simp[IE]
  refine B2 ?_;rw[<-eo] at z;exact z
 ·rw[if_neg h2,if_neg h2]
  have h2':2<=vs.length:=by
   have:¬vs.length<2:=by simpa using h2
   lia
  have keep:∀b o,b≠a->s.heap.get? b=some o->(((s.heap.update a (Ch λ_=>(#[]:Array Value))).push (D3 "tuple" vs.toArray 0)).push (D3 "list" #[] 0)).get? b=some o:=λb o hb e=>
   Bz _ (Bz _ ((Ep s.heap _ (Dx hb)).trans e))
  obtain⟨κ,hkk,hlt⟩:=hk h2' _ keep;refine Ap (Dl (hkk _ ?_) (λκ s0 hk=>hk) λ_ _ x=>x.elim)
  have tree:(kas_sort vs.length).kasWp (kas_ask prog w A κ vs) (λp s'=>s'={ s with heap:=((s.heap.update a (Ch λ_=>(#[]:Array Value))).push (D3 "tuple" vs.toArray 0)).push (D3 "list" #[] 0) }/\Pm vs.length p/\mR lt p vs.length)
    { s with heap:=((s.heap.update a (Ch λ_=>(#[]:Array Value))).push (D3 "tuple" vs.toArray 0)).push (D3 "list" #[] 0) }:=by
   refine mQ (N:=vs.length) (lt:=lt) (P:=λs'=>s'={ s with heap:=((s.heap.update a (Ch λ_=>(#[]:Array Value))).push (D3 "tuple" vs.toArray 0)).push (D3 "list" #[] 0) }) ?_ _ _ rfl (aU (λp hp s' hs'=>⟨hs',hp.1,hp.2⟩) _ (qV O (by lia)))
   intro i j C s' hi hj hs' hC;subst hs';exact hlt i j hi hj C (hC _ rfl)
  refine Ap (Dl (kat_run (Q:=λst' s'=>∃p:Array Nat,p.size=vs.length/\arrOf st'=p.map (kas_item (vs.toArray.zip vs.toArray))/\failedOf st'=none /\
    (s'={ s with heap:=((s.heap.update a (Ch λ_=>(#[]:Array Value))).push (D3 "tuple" vs.toArray 0)).push (D3 "list" #[] 0) }/\Pm vs.length p/\mR lt p vs.length))
   rfl h2' h64 (λp' st' s' a1 a2 a3 a4=>⟨p',a1,a2,a3,a4⟩) tree) ?_ λ_ _ e=>e)
  rintro⟨⟨⟩,st'⟩ s' ⟨p,hp,har,hf,hs',hpm,hsr⟩;subst hs';dsimp only;have hout:=kat_snds rfl har;rw[hout];refine Ap (IR ho6 rfl ?_);refine Ap (Fx ho6 rfl ?_ (hsz2:=by rw[Bi,C0,CT,hp,Cy]; lia))
  rw[hf];simp only[bne_self_eq_false,DV,if_false];exact B2 (h p hpm hsr)
theorem oE{l:Addr}{vs:List Value}{lt:Nat->Nat->Bool}{Q:Value->At->Prop}(O:Ord lt)(hl:s.heap.IsList l vs.toArray)(h64:vs.length<64)
  (hk:2<=vs.length->∀(A':Cw),A'.units<=A.units+2->∀h':Heap,(∀b o,s.heap.get? b=some o->h'.get? b=some o)->∃κ,(∀Q:SortKind->At->Prop,Q κ { s with heap:=h' }->wpAny (model prog w) A' (keyKind' vs.toArray) Q (λ_ _=>False) { s with heap:=h' }) /\
   ∀i j,i<vs.length->j<vs.length->∀C:Bool->At->Prop,C (lt i j) { s with heap:=h' }->wpAny (model prog w) A' (keyLt' κ (vs.getD i DC) (vs.getD j DC)) C (λ_ _=>False) { s with heap:=h' })
  (h:∀p:Array Nat,Pm vs.length p->mR lt p vs.length->Q (.ref (s.heap.objs.size+1)) { s with heap:=sortedAll s.heap vs (gS vs p).toArray }) :
  wpAny (model prog w) A (call (.builtin "sorted") [.ref l]) Q E s:=by
 refine EY IS Ht Hv (Hw _) ?_;unfold Fq.«sorted»;refine Ap (m:=Il "sorted" 1 1 _) (B2 ?_);refine Ap (collect_list hl ?_ (by rw[Cy]; lia))
 refine Ap (Et ?_ (by rw[Cy]; lia))
 have hsz:((s.heap.push (D3 "list" #[] 0)).update s.heap.objs.size (Ch (· ++ vs.toArray))).objs.size=s.heap.objs.size+1:=by
  rw[Ek,Ir]
 have hoL:(((s.heap.push (D3 "list" #[] 0)).update s.heap.objs.size (Ch (· ++ vs.toArray))).push (D3 "list" vs.toArray 0)).get? (s.heap.objs.size+1)=some (D3 "list" vs.toArray 0):=by
  rw[<-hsz]; exact CA _ rfl
 have keep:∀b o,s.heap.get? b=some o->b≠s.heap.objs.size+1/\(((s.heap.push (D3 "list" #[] 0)).update s.heap.objs.size (Ch (· ++ vs.toArray))).push (D3 "list" vs.toArray 0)).get? b=some o:=λb o q=>by
  have hlt:b<s.heap.objs.size:=C6 q;refine⟨CF (Df hlt),?_⟩;rw[Ec _ _ _ (by rw[hsz]; exact CF (Df hlt)),Heap.get?_update_ne _ _ _ _ (CF hlt),Ec _ _ _ (CF hlt)]
  exact q
 show wpAny _ _ _ _ _ { s with heap:=((s.heap.push (D3 "list" #[] 0)).update s.heap.objs.size (Ch (· ++ vs.toArray))).push (D3 "list" vs.toArray 0) }
 rw[hsz];refine Ap (DX (DL HG ⟨_,hoL,rfl⟩ Gs ?body (HH _)))
 case body=>
  refine jZ O hoL h64 (λh2 h' kp=>hk h2 _ ?_ h' λb o e=>kp b o (keep b o e).1 (keep b o e).2) λp a1 a2=>⟨_,rfl,B2 ⟨_,rfl,h p a1 a2⟩⟩
  show A.units+1+1<=A.units+2;lia
end
theorem gy:∀(a b:List Int),HT.lexLt a b=true->HT.lexLt b a=false
 |[],[],h=>by cases h
 |[],_::_,_=>rfl
 |_::_,[],h=>by cases h
 |x::xs,y::ys,h=>by
  rw[HT.cM] at h ⊢
  by_cases e:x=y
  ·subst e
   rw[if_pos rfl] at h ⊢;exact gy xs ys h
  ·rw[if_neg e] at h
   rw[if_neg (Dx e)];have:x<y:=by simpa using h
   exact decide_eq_false (by lia)
theorem fG:∀(a b c:List Int),HT.lexLt b a=false->HT.lexLt c b=false->HT.lexLt c a=false
 |[],[],[],_,_=>rfl
 |[],[],_::_,_,_=>rfl
 |[],_::_,[],_,h=>by cases h
 |[],_::_,_::_,_,_=>rfl
 |_::_,[],_,h,_=>by cases h
 |_::_,_::_,[],_,h=>by cases h
 |x::xs,y::ys,z::zs,h1,h2=>by
  rw[HT.cM] at h1 h2 ⊢
  by_cases e1:y=x
  ·subst e1
   rw[if_pos rfl] at h1
   by_cases e2:z=y
   ·subst e2
    rw[if_pos rfl] at h2 ⊢;exact fG xs ys zs h1 h2
   ·rw[if_neg e2] at h2 ⊢
    exact h2
  ·rw[if_neg e1] at h1
   have l1:¬y<x:=by simpa using h1
   by_cases e2:z=y
   ·subst e2
    rw[if_neg e1];exact decide_eq_false l1
   ·rw[if_neg e2] at h2
    have l2:¬z<y:=by simpa using h2
    rw[if_neg (by lia)]
    exact decide_eq_false (by lia)
theorem lexOrd(ks:List (List Int)):Ord (λi j=>HT.lexLt (ks.getD i []) (ks.getD j [])):=⟨λa b=>gy _ _,λa b c=>fG _ _ _⟩
def Bl(K:AC)(H:Hp)(ys:List V)(ks:List (List Int)):Prop:=Dz (λ(v:V)(t:List Int)=>∃a,v=.ref a/\dg K H a (t.map V.int)) ys ks
theorem Dz.getD{α β:Type}{F:α->β->Prop}{d:α}{d':β}:∀{xs:List α}{ys:List β},Dz F xs ys->∀i,i<xs.length->F (xs.getD i d) (ys.getD i d'):=by
 intro xs ys h
 induction h with
 |nil=>exact λi h=>absurd h (FC _)
 |cons r t ih=>
  intro i h;cases i with
  |zero=>exact r
  |succ i=>
   have:=ih i (by simpa using h)
   simpa using this
theorem mT{prog:CH}{w:World}{A:Cw}{b:Bool}{Q:Bool->At->Prop}{s:At}:∀(xs ys:List Value)(as bs:List Int)(i:Nat),Vals (as.map V.int) xs->Vals (bs.map V.int) ys ->
  Q (HT.lexLt as bs) s->∀fin,(∀(n:Nat),fin=decide (n+xs.length<n+ys.length)->True)->(fin=decide (xs.length<ys.length))->KatLex prog w A b fin Q (xs.zip ys) i s:=by
 intro xs
 induction xs with
 |nil=>
  intro ys as bs i h1 h2 q fin _ hf;have e:as=[]:=by
   have:=h1.length;simpa using this
  subst e;show Q fin s;cases bs with
  |nil=>
   cases h2;rw[hf]; exact q
  |cons y bs=>
   cases h2 with
   |cons _ t=>
    have q:Q true s:=q;rw[hf]; simpa using q
 |cons x xs ih=>
  intro ys as bs i h1 h2 q fin _ hf;cases ys with
  |nil=>
   have e:bs=[]:=by
    have:=h2.length;simpa using this
   subst e;cases as with
   |nil=>cases h1
   |cons a as=>
    show Q fin s;have q:Q false s:=q;rw[hf];simpa using q
  |cons y ys=>
   cases as with
   |nil=>cases h1
   |cons a as=>
    cases bs with
    |nil=>cases h2
    |cons c bs=>
     cases h1 with
     |cons r1 t1=>
      cases h2 with
      |cons r2 t2=>
       obtain⟨t,rfl⟩:=r1;obtain⟨u,rfl⟩:=r2;refine kat_cons (wpAny_eqBool_int ?_);rw[HT.cM] at q
       by_cases e:a=c
       ·subst e
        rw[show (a == a)=true by simp]
        rw[if_pos rfl] at q;exact kat_yes (ih ys as bs (i+1) t1 t2 q fin (λ_ _=>DT) (by rw[hf]; simp))
       ·rw[show (a == c)=false by simpa using e]
        rw[if_neg e] at q;refine kat_no ?_;cases hb:(b && i == 0) with
        |true=>exact oneLt_int q
        |false=>exact kat_one _ _ (Hh q)
section
variable{X:Cx}
theorem iw:bw X (.builtin "sorted") (λxs H Q=>∃p ns,xs=[.ref p]/\eF X.K H p (ns.map V.int)/\ns.length<64/\∀(ns':List Int)l,ns'.Perm ns->ns'.Pairwise (·<=·)->H l=none->Q (.ref l) (upd H l (.lst (ns'.map V.int)))):=by
 intro pins s σ H xs us Q I r h;obtain⟨p,ns,rfl,hq,h64,q⟩:=h;obtain⟨u,rfl,rx⟩:=vals1 r;cases rx;obtain⟨its,rv,pl,hz⟩:=I.list hq;have hI:DN its ns:=by
  clear pl hz h64 q hq
  induction ns generalizing its with
  |nil=>cases rv; exact .nil
  |cons n ns ih=>
   cases rv with
   |cons r1 t1=>
    obtain⟨t,rfl⟩:=r1;exact .cons n t (ih _ t1)
 have hl:=rv.length;rw[C0] at hl;refine sorted_ints pl.isList hI (by lia) λout ns' ho hp hs=>?_
 obtain⟨e,he⟩:=Hs s.heap its out;have hv:Vals (ns'.map V.int) out.toList:=by
  clear he hp hs
  generalize out.toList=os at ho
  induction ho with
  |nil=>exact .nil
  |cons n t _ ih=>exact .cons ⟨_,rfl⟩ ih
 have hlen:(ns'.map V.int).length<=C7:=by
  rw[C0,hp.length_eq,Cy]; lia
 refine⟨.ref (s.heap.objs.size+1),_,I.laid (t':=s.toks) (a:=s.heap.objs.size+1) (o:=.lst (ns'.map V.int)) (λb u e=>HY e) (Dp _) ?_,rfl,q ns' _ hp hs (I.hok.fresh (Dp _))⟩
 refine⟨hlen,out.toList,e,hv,?_⟩;rw[he]
 all_goals simp[D3]
theorem mU{pins:List (Addr×Obj)}{σ:St}{H:Hp}{s:At}{h':Heap}(I:Inv X pins σ H s)(kp:∀b o,s.heap.get? b=some o->h'.get? b=some o):∀{ys:List V}{ks:List (List Int)}{its:List Value},Bl X.K H ys ks->Vals ys its->(∀t∈ks,t≠[]) ->
  ∃fs,KatTups h' its fs/\fs.length=its.length/\∀v∈fs,∃i t,v=Gm i t:=by
 intro ys ks its h
 induction h generalizing its with
 |nil=>intro v _; cases v; exact⟨[],.nil,rfl,λ_ h=>nomatch h⟩
 |@cons y t _ _ h r ih=>
  intro v hne;obtain⟨a,e,hq⟩:=h;cases v with | cons ru rr=>
  subst e;cases ru;obtain⟨fs,h1,h2,h3⟩:=ih rr λt ht=>hne t (lO _ ht)
  obtain⟨its',rv,⟨o,ho,hc,n,hd⟩,_⟩:=I.tuple hq;cases t with
  |nil=>exact absurd rfl (hne [] lS)
  |cons i t=>
   cases rv with
   |cons r1 t1=>
    obtain⟨tk,rfl⟩:=r1;refine⟨.int i tk::fs,.cons (kp _ _ ho) hc hd rfl h1,by simp[h2],λv hv=>?_⟩
    rcases lK hv with e | hv
    ·exact⟨i,tk,e⟩
    ·exact h3 v hv
theorem j0{α β:Type}{p:Array Nat}{zs:List α}{d:α}(h:Pm zs.length p):(p.toList.map λi=>zs.getD i d).Perm zs:=by
 have h1:p.toList.Perm (CG zs.length):=GU.mp h;have h2:(p.toList.map λi=>zs.getD i d).Perm ((CG zs.length).map λi=>zs.getD i d):=h1.map _
 have h3:((CG zs.length).map λi=>zs.getD i d)=zs:=by
  apply Ft;intro i;rw[Cu]
  by_cases hi:i<zs.length
  ·rw[FZ hi]
   simp[hi]
  ·rw[FH (by simpa using hi),FH (by simpa using hi)]
   rfl
 rw[h3] at h2;exact h2
theorem mV{α β:Type}{d:α}{d':β}:∀{xs:List α}{ys:List β}(i:Nat),xs.length=ys.length->(xs.zip ys).getD i (d,d')=(xs.getD i d,ys.getD i d'):=by
 intro xs
 induction xs with
 |nil=>intro ys i h; cases ys with
  |nil=>simp
  |cons _ _=>simp at h
 |cons x xs ih=>
  intro ys i h;cases ys with
  |nil=>simp at h
  |cons y ys=>
   cases i with
   |zero=>rfl
   |succ i=>
    have:=ih (ys:=ys) i (by simpa using h)
    simpa using this
theorem iy:bw X (.builtin "sorted") (λxs H Q=>∃p ys ks,xs=[.ref p]/\eF X.K H p ys/\Bl X.K H ys ks/\(∀t∈ks,t≠[])/\ys.length<64 /\
  ∀(zs:List (V×List Int))l,zs.Perm (ys.zip ks)->(zs.map (·.2)).Pairwise (λa b=>HT.lexLt b a=false)->H l=none->Q (.ref l) (upd H l (.lst (zs.map (·.1))))):=by
 intro pins s σ H xs us Q I r h;obtain⟨p,ys,ks,rfl,hq,ht,hne,h64,q⟩:=h;obtain⟨u,rfl,rx⟩:=vals1 r;cases rx;obtain⟨its,rv,pl,hz⟩:=I.list hq;have hl:=rv.length;have hk:ys.length=ks.length:=Ea ht;refine oE (lexOrd ks) pl.isList (by lia) (λh2 A' _ h' kp=>⟨tuples' true,λQ' hq' =>?_,λi j hi hj C hC=>?_⟩) λpm hpm hsr=>?_
 ·obtain⟨fs,h1,h2',h3⟩:=mU I kp ht rv hne
  refine kat_kind (s:={ s with heap:=h' }) (T:=.type "int") h1 (by lia) (λv hv=>?_) rfl hq'
  obtain⟨i,t,rfl⟩:=h3 v hv;exact Looks.now
 ·have hiy:i<ys.length:=by lia
  have hjy:j<ys.length:=by lia
  obtain⟨a,ea,qa⟩:=Dz.getD (d:=V.non) (d':=[]) ht i hiy;obtain⟨b,eb,qb⟩:=Dz.getD (d:=V.non) (d':=[]) ht j hjy;have ra:=Dz.getD (d:=V.non) (d':=DC) rv i hiy;have rb:=Dz.getD (d:=V.non) (d':=DC) rv j hjy;rw[ea] at ra;rw[eb] at rb;have ra:its.getD i DC=.ref a:=ra;have rb:its.getD j DC=.ref b:=rb;rw[ra,rb];obtain⟨ia,va,⟨oa,ha,_,na,da⟩,_⟩:=I.tuple qa;obtain⟨ib,vb,⟨ob,hb,_,nb,db⟩,_⟩:=I.tuple qb;refine kat_lt (s:={ s with heap:=h' }) (kp _ _ ha) da (kp _ _ hb) db ?_
  refine mT ia ib _ _ 0 va vb hC _ (λ_ _=>DT) ?_
  simp
 ·have hlen:its.length=ys.length:=hl.symm
  have hzl:(ys.zip ks).length=its.length:=by rw[List.length_zip]; lia
  let zs:List (V×List Int):=pm.toList.map λi=>(ys.zip ks).getD i (V.non,[])
  have hzp:zs.Perm (ys.zip ks):=j0 (β:=Nat) (by rw[hzl]; exact hpm)
  have e1:zs.map (·.1)=pm.toList.map λi=>ys.getD i V.non:=by
   show HR _ (HR _ _)=_;rw[EA];exact E5 λi _=>by show ((ys.zip ks).getD i (V.non,[])).1=_; rw[mV i hk]
  have e2:zs.map (·.2)=pm.toList.map λi=>ks.getD i []:=by
   show HR _ (HR _ _)=_;rw[EA];exact E5 λi _=>by show ((ys.zip ks).getD i (V.non,[])).2=_; rw[mV i hk]
  have hpw:(zs.map (·.2)).Pairwise (λa b=>HT.lexLt b a=false):=by
   rw[e2,Ee,List.pairwise_iff_getElem];intro i j hi hj hij;have sz:pm.toList.length=its.length:=by rw[CT]; exact hpm.size
   have z:=hsr i j (by lia) (by lia)
   have gi:gD pm i=pm.toList[i]:=by unfold gD; simp[GV,show i<pm.size by simpa using hi]
   have gj:gD pm j=pm.toList[j]:=by unfold gD; simp[GV,show j<pm.size by simpa using hj]
   rw[gi,gj] at z;exact z
  obtain⟨e,he⟩:=Hs s.heap its (gS its pm).toArray;have hv:Vals (zs.map (·.1)) (gS its pm):=by
   rw[e1];unfold gS;have hb:∀i∈pm.toList,i<ys.length:=λi hi=>by
    have h1:pm.toList.Perm (CG its.length):=GU.mp hpm;have:=h1.mem_iff.mp hi;have:i<its.length:=by simpa using this
    lia
   clear he hpw e1 e2 hzp hsr hpm
   generalize pm.toList=ix at hb
   clear zs
   induction ix with
   |nil=>exact .nil
   |cons i ix ih=>exact .cons (Dz.getD (d:=V.non) (d':=DC) rv i (hb i lS)) (ih λj hj=>hb j (lO _ hj))
  refine⟨.ref (s.heap.objs.size+1),_,I.laid (t':=s.toks) (a:=s.heap.objs.size+1) (o:=.lst (zs.map (·.1))) (λb u e=>HY e) (Dp _) ?_,rfl,q zs _ hzp hpw (I.hok.fresh (Dp _))⟩
  refine⟨?_,gS its pm,e,hv,he⟩;rw[C0,hzp.length_eq,hzl,Cy];lia
end
end L2
end
section
namespace L2
open PySem PySem.Spec PyProof.Rows
section
variable{prog:CH}{w:World}{A:Cw}{E:Value->At->Prop}{s:At}
theorem s9{j t:Addr}{k:Nat}{its:Array Value}{v:Value}{Q:Value->At->Prop}(hj:s.heap.IsTupleIter j t k)(ht:s.heap.IsTuple t its)(hv:its[k]? = some v)
  (h:∀g,g.IsTupleIter j t (k+1)->Do j s.heap g->Q v { s with heap:=g }):wpAny (model prog w) A (CI (.ref j)) Q E s:=by
 obtain⟨oj,ej,cj,dj⟩:=id hj;obtain⟨ot,et,_,nt,dt⟩:=ht;unfold CI;refine Ap (DM (name:=Da "__next__") hj.typeIs E2 (DL E2 hj.typeIs Gn ?body (Gg _)))
 case body=>
  show wpAny _ _ (field (.ref j) 0 >>= _) _ _ s;refine Ap (Dd ej dj (x:=.ref t) rfl ?a)
  case a=>
   show wpAny _ _ (if (DZ t == DC)=true then _ else _) _ _ s
   rw[if_neg (by intro z; exact DJ z)]
   show wpAny _ _ (field (.ref j) 1 >>= _) _ _ s;refine Ap (Dd ej dj (x:=.int k 0) rfl ?b)
   case b=>
    show wpAny _ _ (Hd (.ref t) >>= _) _ _ s;refine Ap (Fk et dt ?c)
    case c=>
     simp only[DF,hv];refine Ap (Fj ej dj (by simp) (B2 ⟨v,rfl,B2 (h _ ⟨_,F9 _ ej (HN (EW dj _)),(IB ..).trans cj,?d⟩ (EE ..))⟩))
     rw[EW dj];simp[Hl]
theorem wg{j t:Addr}{k:Nat}{its:Array Value}{Q:Value->At->Prop}(hh:A.handled=none)(hj:s.heap.IsTupleIter j t k)(ht:s.heap.IsTuple t its)(hv:its[k]? = none)
  (h:∀g x,GB j s.heap g->(∃o,g.get? x=some o/\o.cls=.type "StopIteration")->E (.ref x) { s with heap:=g }):wpAny (model prog w) A (CI (.ref j)) Q E s:=by
 obtain⟨oj,ej,cj,dj⟩:=id hj;obtain⟨ot,et,_,nt,dt⟩:=ht;unfold CI;refine Ap (DM (name:=Da "__next__") hj.typeIs E2 (DL E2 hj.typeIs Gn ?body (Gg _)))
 case body=>
  show wpAny _ _ (field (.ref j) 0 >>= _) _ _ s;refine Ap (Dd ej dj (x:=.ref t) rfl ?a)
  case a=>
   show wpAny _ _ (if (DZ t == DC)=true then _ else _) _ _ s
   rw[if_neg (by intro z; exact DJ z)]
   show wpAny _ _ (field (.ref j) 1 >>= _) _ _ s;refine Ap (Dd ej dj (x:=.int k 0) rfl ?b)
   case b=>
    show wpAny _ _ (Hd (.ref t) >>= _) _ _ s;refine Ap (Fk et dt ?c)
    case c=>
     simp only[DF,hv];refine Ap (Eg (Ap (Fj ej dj (by simp) ?d)))
     case d=>
      show wpAny _ _ (newExc (.type "StopIteration") [] >>= _) _ _ _;refine Ap ?f;simp only[newExc,newTuple];refine Ap (Cv ?g (by size_fits))
      case g=>
       refine Ap (m:=Fl _ _) (wpAny_of_eq (a:=DC) (by first | rfl | (simp only[Fl]; rfl)) ?k)
       case k=>
        refine Cv ?l (by size_fits)
        simp only[raiseNew];refine Ap (wpAny_handled ?m)
        first | rw[show A.in1.handled=none from hh] | rw[hh]
        refine Ap (B2 (wpAny_throw (h _ _ (((EE ..).extBut.push _).push _) ⟨_,CA _ rfl,rfl⟩)))
theorem tu{j t:Addr}{k:Nat}{its:Array Value}{v:Value}{Q:Value->At->Prop}(hj:s.heap.IsListIter j t k)(ht:s.heap.IsList t its)(hv:its[k]? = some v)
  (h:∀g,g.IsListIter j t (k+1)->Do j s.heap g->Q v { s with heap:=g }):wpAny (model prog w) A (CI (.ref j)) Q E s:=by
 obtain⟨oj,ej,cj,dj⟩:=id hj;obtain⟨ot,et,_,nt,dt⟩:=ht;unfold CI;refine Ap (DM (name:=Da "__next__") hj.typeIs Ei (DL Ei hj.typeIs IX ?body (Io _)))
 case body=>
  show wpAny _ _ (field (.ref j) 0 >>= _) _ _ s;refine Ap (Dd ej dj (x:=.ref t) rfl ?a)
  case a=>
   show wpAny _ _ (if (DZ t == DC)=true then _ else _) _ _ s
   rw[if_neg (by intro z; exact DJ z)]
   show wpAny _ _ (field (.ref j) 1 >>= _) _ _ s;refine Ap (Dd ej dj (x:=.int k 0) rfl ?b)
   case b=>
    show wpAny _ _ (Hd (.ref t) >>= _) _ _ s;refine Ap (Fk et dt ?c)
    case c=>
     simp only[DF,hv];refine Ap (Fj ej dj (by simp) (B2 ⟨v,rfl,B2 (h _ ⟨_,F9 _ ej (HN (EW dj _)),(IB ..).trans cj,?d⟩ (EE ..))⟩))
     rw[EW dj];simp[Hl]
theorem wj{j t:Addr}{k:Nat}{its:Array Value}{Q:Value->At->Prop}(hh:A.handled=none)(hj:s.heap.IsListIter j t k)(ht:s.heap.IsList t its)(hv:its[k]? = none)
  (h:∀g x,GB j s.heap g->(∃o,g.get? x=some o/\o.cls=.type "StopIteration")->E (.ref x) { s with heap:=g }):wpAny (model prog w) A (CI (.ref j)) Q E s:=by
 obtain⟨oj,ej,cj,dj⟩:=id hj;obtain⟨ot,et,_,nt,dt⟩:=ht;unfold CI;refine Ap (DM (name:=Da "__next__") hj.typeIs Ei (DL Ei hj.typeIs IX ?body (Io _)))
 case body=>
  show wpAny _ _ (field (.ref j) 0 >>= _) _ _ s;refine Ap (Dd ej dj (x:=.ref t) rfl ?a)
  case a=>
   show wpAny _ _ (if (DZ t == DC)=true then _ else _) _ _ s
   rw[if_neg (by intro z; exact DJ z)]
   show wpAny _ _ (field (.ref j) 1 >>= _) _ _ s;refine Ap (Dd ej dj (x:=.int k 0) rfl ?b)
   case b=>
    show wpAny _ _ (Hd (.ref t) >>= _) _ _ s;refine Ap (Fk et dt ?c)
    case c=>
     simp only[DF,hv];refine Ap (Eg (Ap (Fj ej dj (by simp) ?d)))
     case d=>
      show wpAny _ _ (newExc (.type "StopIteration") [] >>= _) _ _ _;refine Ap ?f;simp only[newExc,newTuple];refine Ap (Cv ?g (by size_fits))
      case g=>
       refine Ap (m:=Fl _ _) (wpAny_of_eq (a:=DC) (by first | rfl | (simp only[Fl]; rfl)) ?k)
       case k=>
        refine Cv ?l (by size_fits)
        simp only[raiseNew];refine Ap (wpAny_handled ?m)
        first | rw[show A.in1.handled=none from hh] | rw[hh]
        refine Ap (B2 (wpAny_throw (h _ _ (((EE ..).extBut.push _).push _) ⟨_,CA _ rfl,rfl⟩)))
def SQ(t:Bool)(h:Heap)(a:Addr)(its:Array Value):Prop:=∃o,h.get? a=some o/\o.cls=.type (if t=true then "tuple" else "list")/\∃n,o.data=.seq its n
def SI(t:Bool)(h:Heap)(i a:Addr)(k:Nat):Prop:=∃o,h.get? i=some o/\o.cls=.type (if t=true then "tuple_iterator" else "list_iterator")/\o.data=.fields #[.ref a,.int k 0]
theorem SI.at{t:Bool}{h h':Heap}{i a:Addr}{k:Nat}(x:SI t h i a k)(e:∀o,h.get? i=some o->h'.get? i=some o):SI t h' i a k:=let ⟨o,ho,r⟩:=x; ⟨o,e _ ho,r⟩
theorem wk{t:Bool}{j a:Addr}{k:Nat}{its:Array Value}{v:Value}{Q:Value->At->Prop}(hj:SI t s.heap j a k)(ht:SQ t s.heap a its)(hv:its[k]? = some v)
  (h:∀g,SI t g j a (k+1)->Do j s.heap g->Q v { s with heap:=g }):wpAny (model prog w) A (CI (.ref j)) Q E s:=by
 cases t with
 |true=>exact s9 hj ht hv h
 |false=>exact tu hj ht hv h
theorem tw{t:Bool}{j a:Addr}{k:Nat}{its:Array Value}{Q:Value->At->Prop}(hh:A.handled=none)(hj:SI t s.heap j a k)(ht:SQ t s.heap a its)(hv:its[k]? = none)
  (h:∀g x,GB j s.heap g->(∃o,g.get? x=some o/\o.cls=.type "StopIteration")->E (.ref x) { s with heap:=g }):wpAny (model prog w) A (CI (.ref j)) Q E s:=by
 cases t with
 |true=>exact wg hh hj ht hv h
 |false=>exact wj hh hj ht hv h
variable{t1 t2:Bool}
end
section
variable{prog:CH}{w:World}{A:Cw}{E:Value->At->Prop}{s:At}
variable{t1 t2:Bool}
noncomputable def Bm(t:Bool)(a:Addr):Obj:={ cls:=.type (if t=true then "tuple_iterator" else "list_iterator"),data:=.fields #[.ref a,.int 0 0] }
theorem lJ{t:Bool}{a:Addr}{its:Array Value}{Q:Value->At->Prop}(hl:SQ t s.heap a its)(h:Q (.ref s.heap.objs.size) { s with heap:=s.heap.push (Bm t a) }):wpAny (model prog w) A (HC (.ref a)) Q E s:=by
 cases t with
 |true=>exact G6 hl h
 |false=>exact wpAny_pyIter_list hl h
end
mutual
inductive Rp(K:AC)(H:Hp):V->AT->Prop
 |non:Rp K H .non .none
 |bl (b:Bool):Rp K H (.bl b) (.bool b)
 |int (i:Int):Rp K H (.int i) (.int i)
 |str (x:Str):Rp K H (.str x) (.str x)
 |tup {a:Addr} {xs:List V} {ds:List AT}:dg K H a xs->zA K H xs ds->Rp K H (.ref a) (.tuple ds)
inductive zA(K:AC)(H:Hp):List V->List AT->Prop
 |nil:zA K H [] []
 |cons {v:V} {vs:List V} {d:AT} {ds:List AT}:Rp K H v d->zA K H vs ds->zA K H (v::vs) (d::ds)
end
def dh(H H':Hp):Prop:=∀a u,Rd H a (.tup u)->Rd H' a (.tup u)
theorem dh.refl{H:Hp}:dh H H:=λ_ _ h=>h
theorem dh.trans{H H1 H2:Hp}(a:dh H H1)(b:dh H1 H2):dh H H2:=λc u h=>b c u (a c u h)
theorem dh.sq{K:AC}{H H':Hp}(t:dh H H'){a:Addr}{xs:List V}(h:dg K H a xs):dg K H' a xs:=by
 rcases h with h | h
 ·exact .inl (t a xs h)
 ·exact .inr h
theorem dh.put{H:Hp}{a:Addr}{o o':HO}(h:H a=some o)(hn:∀u,o≠.tup u)(hf:∀x u,o≠.frz x u):dh H (upd H a o'):=λc u r=>by
 rcases r with e | ⟨x,e⟩
 ·exact .inl (by rw[az (rX e h λz=>hn u z.symm)]; exact e)
 ·exact .inr ⟨x,by rw[az (rX e h λz=>hf x _ z.symm)]; exact e⟩
theorem dh.lst{H:Hp}{a:Addr}{xs:List V}{o':HO}(h:H a=some (.lst xs)):dh H (upd H a o'):=.put h (λ_ z=>nomatch z) λ_ _ z=>nomatch z
theorem dh.dk{H:Hp}{a:Addr}{xs:List (Key×V)}{o':HO}(h:H a=some (.dK xs)):dh H (upd H a o'):=.put h (λ_ z=>nomatch z) λ_ _ z=>nomatch z
theorem dw.tups{H H':Hp}(s:dw H H'):dh H H':=λa u r=>by
 rcases r with e | ⟨o,e⟩
 ·exact .inl (s _ _ e)
 ·exact .inr ⟨o,s _ _ e⟩
section
variable{X:Cx}
theorem kF{h:Heap}:∀{vs:List Value}{ds:List AT}{as:List Addr},IQ h vs ds as->∀v∈vs,∃d bs,d∈ds/\Reads h v d bs
 |_,_,_,.nil,v,hv=>nomatch hv
 |_,_,_,.cons r q,v,hv=>by
  rcases lK hv with e | hv
  ·subst e; exact⟨_,_,lS,r⟩
  ·obtain⟨d,bs,h1,h2⟩:=kF q v hv
   exact⟨d,bs,lO _ h1,h2⟩
theorem tE{ds:List AT}(h:CU ds=true):∀d∈ds,d.canLay0=true:=by
 induction ds with
 |nil=>intro d hd; exact nomatch hd
 |cons x xs ih=>
  unfold CU at h;rw[DA] at h;intro d hd;rcases lK hd with e | hd
  ·subst e; exact h.1
  ·exact ih h.2 d hd
noncomputable def ve(h:Heap)(e:AT)(u:Value):Bool:=@decide (∃d as,Reads h u d as/\DK d e=true) (EZ _)
theorem tF{h:Heap}{e d:AT}{u:Value}{as:List Addr}(r:Reads h u d as)(c:d.canLay0=true):ve h e u=DK d e:=by
 unfold ve;cases q:DK d e with
 |true=>exact@decide_eq_true _ (EZ _) ⟨d,as,r,q⟩
 |false=>
  refine@decide_eq_false _ (EZ _) ?_;rintro⟨d',as',r',q'⟩;rw[<-SeqAt.Reads.unique d d' u as as' c r r'] at q';rw[q] at q';cases q'
theorem lN{h:Heap}{e:AT}:∀{vs:List Value}{ds:List AT}{as:List Addr},IQ h vs ds as->CU ds=true->vs.any (ve h e)=ds.any λd=>DK d e
 |_,_,_,.nil,_=>rfl
 |_,_,_,.cons r q,c=>by
  unfold CU at c;rw[DA] at c;rw[DG,DG,tF r c.1,lN q c.2]
theorem tG{pins:List (Addr×Obj)}{σ:St}{H:Hp}{s:At}{its:List Value}{ds:List AT}{as bs:List Addr}{e:AT}{v:Value}(hu:X.A.units+64<cLine)(r:IQ s.heap its ds as)(re:Reads s.heap v e bs)(c:CU ds=true)(ce:e.canLay0=true)(dp:e.depth<=50) :
  ∀y,y∈its.toArray->HW X.A.in1 s y v (ve s.heap e y):=λy hy=>by
 obtain⟨d,cs,hd,rd⟩:=kF r y (by simpa using hy)
 rw[tF rd (tE c d hd)];refine SeqAt.eqAt_reads d e X.A.in1 s y v cs bs rd re (tE c d hd) ce ?_;show X.A.units+1+_<_;lia
theorem wm:cH X (Cz .Pow) (rI (λi j=>0<=j/\(CY i:Int)*j<=2 ^ 27) λi j=>.int (i ^ j.toNat)):=yP λ_ _ _ _ _ _ _ hc q=>pow_int hc.1 hc.2 q
inductive ee(K:AC)(H:Hp):V->String->Prop where
 |non:ee K H .non "NoneType"
 |bl (x:Bool):ee K H (.bl x) "bool"
 |int (i:Int):ee K H (.int i) "int"
 |str (x:Str):ee K H (.str x) "str"
 |lst {a:Addr} {xs:List V} (e:eF K H a xs):ee K H (.ref a) "list"
 |tup {a:Addr} {xs:List V} (e:dg K H a xs):ee K H (.ref a) "tuple"
 |dK {a:Addr} {kvs:List (Key×V)} (e:H a=some (.dK kvs)):ee K H (.ref a) "dict"
 |dT {a:Addr} {kvs:List (List Key×V)} (e:H a=some (.dT kvs)):ee K H (.ref a) "dict"
noncomputable def subB(t c:String):Bool:=t == c || (t == "bool" && c == "int")
noncomputable def cz:List String:=["NoneType", "bool", "int", "str", "list", "tuple", "dict"]
theorem wo(K:AC):∀t∈cz,∀c∈cz,c ≠ "NoneType"->PySem.W.kitOne K (.type t) (.type c)=some (subB t c):=by
 intro t ht c hc hn;simp only[cz,Dr,CZ,or_false] at ht hc;rcases hc with rfl | rfl | rfl | rfl | rfl | rfl | rfl
 ·exact absurd rfl hn
 all_goals (rcases ht with rfl | rfl | rfl | rfl | rfl | rfl | rfl <;> first | rfl | decide +kernel)
theorem ee.mem{K:AC}{H:Hp}{x:V}{t:String}(h:ee K H x t):t∈cz:=by
 cases h <;> simp[cz]
theorem mW:bw X (.builtin "isinstance") (λxs H Q=>∃x t c,xs=[x,.ty c]/\ee X.K H x t/\c∈cz/\c ≠ "NoneType"/\Q (.bl (subB t c)) H):=by
 intro pins s σ H xs us Q I r h;obtain⟨x,t,c,rfl,ty,hc,hn,q⟩:=h;obtain⟨u,w',rfl,rx,rw'⟩:=vals2 r;cases rw';have e:=wo X.K t ty.mem c hc hn;have fin:∀tk,EP X pins σ Q (.bool (subB t c)) { s with toks:=tk }:=λtk=>⟨.bl _,H,I.tok tk,rfl,q⟩
 cases ty with
 |non=>cases rx; exact De PySem.W.kitx_none I.pM DT e (λz=>nomatch z) fin
 |bl y=>cases rx; exact De PySem.W.kitx_bool I.pM DT e (λz=>nomatch z) fin
 |int i=>obtain⟨t,rfl⟩:=rx; exact De PySem.W.kitx_int I.pM DT e (λz=>nomatch z) fin
 |str y=>obtain⟨t,rfl⟩:=rx; exact De PySem.W.kitx_str I.pM DT e (λz=>nomatch z) fin
 |lst hq=>
  cases rx;obtain⟨its,_,⟨o,n,h1,h2,_⟩,_⟩:=I.list hq;exact De PySem.W.kitx_list I.pM ⟨o,h1,h2⟩ e (λz=>nomatch z) fin
 |tup hq=>
  cases rx;obtain⟨its,_,⟨o,h1,h2,_⟩,_⟩:=I.tuple hq;exact De PySem.W.kitx_tuple I.pM ⟨o,h1,h2⟩ e (λz=>nomatch z) fin
 |dK ea=>
  cases rx;obtain⟨_,_,vs,_,o,es,ep,h1,h2,_⟩:=I.hok _ _ ea;exact De HM I.pM ⟨o,h1,h2.1⟩ e (λz=>nomatch z) fin
 |dT ea=>
  cases rx;obtain⟨o,h1,h2⟩:=(zm I (.inr ⟨_,.inl ea⟩)).1;exact De HM I.pM ⟨o,h1,h2⟩ e (λz=>nomatch z) fin
end
section
variable{prog:CH}{w:World}{A:Cw}{E:Value->At->Prop}{s:At}
theorem jr(t b:Addr)(items items2:Array Value)(n n2:Nat)(dd dd2:Option Addr)(sl sl2:Array (Option Value))(h0:items.isEmpty=true) :
  Meets (Fq.«tuple.__add__» ⟨[.ref t,.ref b],[]⟩) (λ_ R s=>s.heap.get? t=some ⟨.type "tuple",dd,.seq items n,sl⟩/\s.heap.get? b=some ⟨.type "tuple",dd2,.seq items2 n2,sl2⟩/\R (.ok (.ret (.ref b))) s) :=
 .of_wp λprog w A R s h=>by
  obtain⟨hp,g,d,tk,os⟩:=s;obtain⟨h1,h2,h⟩:=h;have hsub:=sub_tuple_self
  wp_walk using D1 h1,D1 h2
  exact⟨_,rfl,h⟩
end
section
variable{X:Cx}
theorem cW{H:Hp}{p:Addr}(h:H p=none)(o:HO):dw H (upd H p o):=λb u q=>by rw[az (aN q h)]; exact q
noncomputable def rCatA(K:AC):R2:=λx y H Q=>∃a b xs ys,x=.ref a/\y=.ref b/\dg K H a xs/\dg K H b ys/\xs.length+ys.length<=C7/\∀r H',dw H H'->dg K H' r (xs++ys)->Q (.ref r) H'
theorem wu:cH X (Cz .Add) (rCatA X.K):=by
 intro pins s σ H x y v u Q I rx ry h;obtain⟨a,b,xs,ys,rfl,rfl,ha,hb,hz,q⟩:=h
 by_cases hx:xs=[]
 ·subst hx
  cases rx;cases ry;obtain⟨its,r1,⟨⟨cls,dd,data,sl⟩,ho,hc,n,hd⟩,_⟩:=I.tuple ha;obtain⟨its2,r2,⟨⟨cls2,dd2,data2,sl2⟩,ho2,hc2,n2,hd2⟩,_⟩:=I.tuple hb;simp only at hc hd hc2 hd2;subst hc hd hc2 hd2;cases r1;exact Gr ⟨_,ho,rfl⟩ ⟨_,ho2,rfl⟩ Fu Gc Ej Ed (EX _ _)
   (jr a b _ _ n n2 dd dd2 sl sl2 (by simp)) ⟨ho,ho2,⟨.ref b,H,I,rfl,q b H (dw.refl H) (by simpa using hb)⟩⟩
 ·refine vV pins s σ H _ _ v u Q I rx ry ⟨a,b,xs,ys,rfl,rfl,ha,hb,hx,hz,λe=>q a H (dw.refl H) (by rw[e,Bn]; exact ha),λ_ p hp=>q p _ (cW hp _) (dg.of ay)⟩
noncomputable def tH(sc0:Scope)(N0:List Str)(scope:Scope)(N:List Str)(fr:List (Option Nat)):Bool :=
 (scope.kind == .function) && scope.names.all (λy=>scope.names.lookup y.1 == some y.2) &&
 scope.names.all (λy=>y.2 != .free || (sc0.names.lookup y.1 == some .cell || sc0.names.lookup y.1 == some .free)) && (fr.length == N.length) &&
 (N.zip fr).all (λp=>match p.2 with | none=>true | some j=>N0[j]? == some p.1 && scope.names.lookup p.1 == some .free) && decide N.Nodup
theorem aY.of{sc0:Scope}{N0:List Str}{scope:Scope}{N:List Str}{fr:List (Option Nat)}(h1:X.env.scope=sc0)(h2:X.N=N0)(h:tH sc0 N0 scope N fr=true):aY X scope N fr:=by
 unfold tH at h;simp only[DA] at h;obtain⟨⟨⟨⟨⟨k1,k3⟩,k4⟩,k5⟩,k6⟩,k7⟩:=h;rw[IJ] at k3 k4 k6;refine⟨by simpa using k1,λy hy=>by simpa using k3 y hy,λy hy e=>?_,by simpa using k5,λi j x hi hj=>?_,of_decide_eq_true k7⟩
 ·have:=k4 y hy
  rw[e] at this;have t:sc0.names.lookup y.1=some .cell\/sc0.names.lookup y.1=some .free:=by simpa using this
  show X.env.scope.names.lookup y.1=_\/X.env.scope.names.lookup y.1=_;rw[h1];exact t
 ·have hm:(x,some j)∈N.zip fr:=by
   have hz:(N.zip fr)[i]? = some (x,some j):=by rw[List.getElem?_zip_eq_some]; exact⟨hi,hj⟩
   exact FL hz
  have:=k6 _ hm;simp only[DA] at this;rw[h2];exact⟨by simpa using this.1,by simpa using this.2⟩
structure cX(P:CH)(w:World)(K:AC)(mg:Str->Option Value)(base:Heap)(x:Str)(ps:List Str)(k:Nat)(sp:Sp):Prop where
 ex:∃f fd,b9 P w K mg base ir k f fd ps sp/\Binds K fd ps []/\EV K (.ref f)=true/\mg x=some (.ref f)
theorem pe_fn{x:Str}{ps:List Str}{k k':Nat}{sp:Sp}{e:Expr}{es:List Expr}{t:TA}{p pos:Pos}(C:cX X.prog X.w X.K X.mg X.base x ps k sp)(hr:dG k' X.A)(hg:Gl X x)(ha:PA X (e::es) t)(hk:k<=k':=by first | decide | exact C1 _ | lia)(hdb:(x == ("__debug__" : Str))=false:=by decide)
  (he:C9 (e::es) X.env=(false,eval e X.env)::C9 es X.env:=by rfl) (hpl:(ED pos (C9 es X.env)).any (·.1)=false:=by rfl):PE X (.Call (.Name x p) (e::es) [] pos) (sL sp [] E0 t):=by
 obtain⟨f,fd,F,b,kp,m⟩:=C.ex;exact vK F (hr.mono hk) hg m kp b .nil pass0 ha hdb he hpl
end
section
variable{K:AC}{H:Hp}
theorem zA.ints:∀(ns:List Int),zA K H (ns.map V.int) (ns.map .int)
 |[]=>.nil
 |n::ns=>.cons (.int n) (zA.ints ns)
theorem mX:∀(ns:List Int),CU (ns.map .int)=true
 |[]=>rfl
 |n::ns=>by show (Ez (.int n) && CU (ns.map .int))=true; rw[mX ns]; rfl
end
end L2
end
section
end
section
namespace L2
open PySem PySem.Spec PyProof.Rows
section
variable{X:Cx}
noncomputable def iV:List Expr->Option (List Int)
 |[]=>some []
 |.Constant (.int i) _ _::es=>(iV es).map (i :: ·)
 |_=>none
noncomputable def tInts(ns:List Int):TA:=λ_ H Q=>Q (ns.map V.int) H
theorem mY:∀(es:List Expr)(ns:List Int),iV es=some ns->PA X es (tInts ns)
 |[],ns,h=>by cases h; exact fB
 |e::es,ns,h=>by
  unfold iV at h
  split at h
  ·rename_i e1; cases e1
  ·rename_i i j p es' e1
   cases e1;obtain⟨ms,h1,rfl⟩:=D9.mp h;exact dH ig (mY es ms h1)
  ·cases h
end
section
variable{X:Cx}
theorem gm(hc:X.calm=true):bw X (.builtin "min") (λxs H Q=>∃p ns,xs=[.ref p]/\eF X.K H p (ns.map V.int)/\ns≠[]/\∀M:Int,M∈ns->(∀a,a∈ns->M<=a)->Q (.int M) H):=by
 intro pins s σ H xs us Q I r h;obtain⟨p,ns,rfl,hq,hne,q⟩:=h;obtain⟨u,rfl,rx⟩:=vals1 r;cases rx;obtain⟨its,rv,pl,hz⟩:=I.list hq;have hi:=intsAre_of rv;have hn:=hi.numsOf;have hl:=hi.length;obtain⟨xs,e⟩:=hi.allInts.items;have hp:=pl.isList;rw[e] at hp;have en:numsOf its=xs.toList.map (·.1):=by
  have:=HS (xs:=xs);rw[<-e] at this;exact this
 rw[en] at hn;have hsz:0<xs.size:=by
  have h1:ns.length=xs.size:=by rw[<-hn,C0,CT]
  have:ns.length≠0:=λz=>hne (Dk.mp z)
  lia
 refine min_intList (I.ok.hd hc) hp hsz λv h' tk hv hk=>?_
 obtain⟨t,rfl⟩:=Gk hv;obtain⟨h1,h2⟩:=argBest_lt (numAt xs) (xs.size-1);refine⟨.int _,H,I.kept (t':=tk) hk,⟨t,rfl⟩,q _ ?_ λa ha=>?_⟩
 ·rw[GK,<-hn]; exact getD_mem (by rw[C0,CT]; lia)
 ·rw[<-hn] at ha
  obtain⟨j,hj,rfl⟩:=mem_getD ha;rw[C0,CT] at hj;rw[<-GK]; exact h2 j (by lia)
end
section
variable{X:Cx}
theorem gT{prog:CH}{w:World}{A:Cw}{E:Value->At->Prop}{s:At}{t sl:Addr}{its:Array Value}{vl vu:Value}{lo hi:Option Int}{Q:Value->At->Prop}(ht:IsTup s.heap t its)(hs:s.heap.IsSliceOf sl vl vu .none)(pl:Fo vl lo)(pu:Fo vu hi)
  (h0:HT.bM its.size 0 lo=0) (h1:HT.bM its.size its.size hi=its.size) (h:Q (.ref t) s):wpAny (model prog w) A (Eo (.ref t) (.ref sl)) Q E s:=by
 have T:s.TypeIs (.ref sl) "slice" := by obtain⟨o,a,b,_⟩:=id hs; exact⟨o,a,b⟩
 unfold Eo
 first | with_reducible refine DX ?_ | skip
 first | refine Ap (B2 ?_) | skip
 refine Ap (wpAny_sequenceKey ht.typeIs (by decide) ?_)
 refine Ap (DM (name := "__getitem__") ht.typeIs D8 (DL D8 ht.typeIs Ic ?_ (Iu _ _)));show wpAny _ _ (Fc (.ref t) >>= _) _ _ s;refine Ap (tupleItemsOf_ ht (Ap (GH T ?_)));rw[if_pos (by decide)]
 refine Ap (HT.d7 hs pl pu ?_);have c:(((HT.bM its.size 0 lo:Nat):Int) == 0 && (1:Int) == 1 && (HT.bM its.size its.size hi-HT.bM its.size 0 lo) == its.size)=true:=by
  rw[h0,h1,HI,beq_self_eq_true its.size]; rfl
 show wpAny _ _ (if (((HT.bM its.size 0 lo:Nat):Int) == 0 && (1:Int) == 1 && (HT.bM its.size its.size hi-HT.bM its.size 0 lo) == its.size)=true then _ else _) _ _ s
 rw[if_pos c];refine Ap (Ap (GH ht.typeIs (B2 ?_)));rw[if_pos (by decide)]
 first
  |exact Ap (B2 (B2 ⟨_,rfl,B2 h⟩))
  |exact Ap (Eg (B2 ⟨_,rfl,B2 h⟩))
  |exact Eg (B2 ⟨_,rfl,B2 h⟩)
  |trace_state
def rSlA(K:AC):V->Option Int->Option Int->Hp->VK->Prop:=λx lo hi H Q=>∃a xs,x=.ref a/\dg K H a xs/\∀r H',dw H H'->dg K H' r (jf xs lo hi)->Q (.ref r) H'
theorem wz:vR X (rSlA X.K):=by
 intro pins s σ H x v vl vu lo hi sl Q I rx hs pl pu h;obtain⟨a,xs,rfl,hx,q⟩:=h
 by_cases hw:HT.bM xs.length 0 lo=0/\HT.bM xs.length xs.length hi=xs.length
 ·cases rx
  obtain⟨its,r,ht,hz⟩:=I.tuple hx;have hlen:its.toArray.size=xs.length:=by rw[Bi]; exact r.length.symm
  refine⟨"tuple",_,D8.lookup,ht.typeIs,?_⟩;refine gT ht hs pl pu (by rw[hlen]; exact hw.1) (by rw[hlen]; exact hw.2) ⟨.ref a,H,I,rfl,q a H (λ_ _ z=>z) ?_⟩
  have e:jf xs lo hi=xs:=by unfold jf; rw[hw.1,hw.2,Ih,HI,ID]
  rw[e]; exact hx
 ·exact ze pins s σ H _ v vl vu lo hi sl Q I rx hs pl pu ⟨a,xs,rfl,hx,hw,λp hp=>q p _ (cW hp _) (dg.of ay)⟩
end
end L2
end
section
namespace L2
open PySem PySem.Spec PyProof.Rows PySem.W
section
variable{prog:CH}{w:World}{A:Cw}{E:Value->At->Prop}{s:At}
theorem mZ{T:String}{r d:Addr}{n:Nat}{P:Nat->Value->Prop}{OK:Heap->Prop}{Q:List Value->At->Prop}(K:KdlSrc prog w T r d n P OK)(hh:A.handled=none)(hok:OK s.heap)(hn:n<=C7)
  (hQ:∀h' tk acc,(∀b o,s.heap.get? b=some o->h'.get? b=some o)->s.heap.objs.size<h'.objs.size->ItemsOf P acc n->Q acc.toList { s with heap:=h',toks:=tk }):wpAny (model prog w) A (collect (.ref r)) Q E s:=by
 unfold collect;refine Ap (wpAny_runValue (FY PySem.F.entry_proto_collect ?_));rw[Gx PySem.F.plain_proto_collect _];show wpAny _ A.in1 (Hm [] >>= λl=>again (.builtin "list.__iadd__" ⟨[l,.ref r],[]⟩)) _ _ s
 refine Ap (Cv ?_);refine B2 ⟨plainId_quiet GW _,FY PySem.F.entry_list_iadd ?_⟩;rw[Gx GW _];have hlt:=K.there _ hok;have old:∀b o,s.heap.get? b=some o->(s.heap.push { cls:=.type "list",data:=.seq ([]:List Value).toArray }).get? b=some o:=λb o e=>Bz _ e
 have hok':OK (s.heap.push { cls:=.type "list",data:=.seq ([]:List Value).toArray }):=K.keep _ _ hok λb _ o e=>old b o e
 show wpAny _ A.in1 (EF (.ref s.heap.objs.size) (.ref r) (.ref s.heap.objs.size)) _ _ _;refine kdl_extend (R:=λres s'=>match res with
  |.ok (.ret v)=>wpAny (model prog w) A (match v with
   |.ref a=>do
    let o <-load a
    match o.data with
     |.seq xs _=>pure xs.toList
     |_=>IL "internal:collect"
   |_=>IL "internal:collect") Q E s'
  |.ok _=>False
  |.error e=>E e s') (s:={ s with heap:=s.heap.push { cls:=.type "list",data:=.seq ([]:List Value).toArray } }) K hh hok' s.heap.objs.size (Ew hlt.1) (Ew hlt.2) (.ref s.heap.objs.size) 0 (CA _ rfl) (λh' tk acc c hk hS hacc=>?_) hn
 show wpAny _ A (load s.heap.objs.size >>= _) _ _ _;refine Ap (Ii hS ?_);exact B2 (hQ h' tk acc (λb o e=>hk b o (CF (C6 e)) (old b o e)) (C6 hS) hacc)
theorem oF{T:String}{r d:Addr}{n:Nat}{P:Nat->Value->Prop}{OK:Heap->Prop}{ns:List Int}{Q:Value->At->Prop}(K:KdlSrc prog w T r d n P OK)(hh:A.handled=none)(hok:OK s.heap)(h64:n<64)
  (hP:∀acc,ItemsOf P acc n->DN acc.toList ns)
  (h:∀(l:Addr)(h':Heap)(tk e:Nat)(out:Array Value)(ns':List Int),s.heap.objs.size<=l->(∀b o,s.heap.get? b=some o->h'.get? b=some o)->h'.get? l=some (D3 "list" out e)->DN out.toList ns'->ns'.Perm ns->ns'.Pairwise (·<=·)->Q (.ref l) { s with heap:=h',toks:=tk }) :
  wpAny (model prog w) A (call (.builtin "sorted") [.ref r]) Q E s:=by
 refine EY IS Ht Hv (Hw _) ?_;unfold Fq.«sorted»;refine Ap (m:=Il "sorted" 1 1 _) (B2 ?_);refine Ap (mZ K hh hok (by rw[Cy]; lia) λh1 tk acc kp lt1 hacc=>?_)
 have hsz:acc.toList.length=n:=by rw[CT]; exact hacc.1
 refine Ap (Et ?_ (by rw[Cy]; lia))
 have hoL:(h1.push (D3 "list" acc.toList.toArray 0)).get? h1.objs.size=some (D3 "list" acc.toList.toArray 0):=CA _ rfl;have le:s.heap.objs.size<=h1.objs.size:=DP lt1;show wpAny _ _ _ _ _ { s with heap:=h1.push (D3 "list" acc.toList.toArray 0),toks:=tk }
 refine Ap (DX (DL HG ⟨_,hoL,rfl⟩ Gs (list_sort_tree hoL (hP acc hacc) (by lia) λout ns' a1 a2 a3=>⟨_,rfl,?_⟩) (HH _)))
 obtain⟨e,he⟩:=sortedHeap_at (out:=out) hoL;refine B2 ⟨_,rfl,h h1.objs.size _ tk e out ns' le (λb o q=>?_) he a1 a2 a3⟩
 have q1:=kp b o q;rw[sortedHeap_old (CF (C6 q1)) (by rw[Dc]; exact Df (C6 q1)),Bz _ q1]
end
theorem pZ:∀{us:List Value}{ns:List Int},us.length=ns.length->(∀(j:Nat)(v:Value),us[j]? = some v->∃n t,ns[j]? = some n/\v=.int n t)->DN us ns
 |[],[],_,_=>.nil
 |[],_::_,h,_=>by simp at h
 |_::_,[],h,_=>by simp at h
 |u::us,n::ns,h,q=>by
  obtain⟨m,t,e,rfl⟩:=q 0 u rfl;have e:n=m:=CP e;subst e;exact .cons n t (pZ (by simpa using h) λj v hv=>q (j+1) v hv)
theorem KV.at{κ:Type}{kvs:List (κ×V)}{vs:List (κ×Value)}(r:KV kvs vs):∀{j:Nat}{k:κ}{x:Value},vs[j]? = some (k,x)->∃y,kvs[j]? = some (k,y)/\RelV y x:=by
 induction r with
 |nil=>intro j k x h; simp at h
 |@cons a b as bs r1 t ih=>
  intro j k x h;cases j with
  |zero=>
   have h:b=(k,x):=CP h;subst h;obtain⟨k',y⟩:=a;obtain⟨e,r2⟩:=r1;have e:k'=k:=e;subst e;exact⟨y,rfl,r2⟩
  |succ j=>exact ih (by simpa using h)
section
variable{X:Cx}
theorem ef(hc:X.calm=true):bw X (.builtin "sorted") (λxs H Q=>∃a kvs ns,xs=[.ref a]/\H a=some (.dK kvs)/\kvs.map (·.1)=ns.map EC/\ns.length<64/\∀(ns':List Int)l,ns'.Perm ns->ns'.Pairwise (·<=·)->H l=none->Q (.ref l) (upd H l (.lst (ns'.map V.int)))):=by
 intro pins s σ H xs us Q I r h;obtain⟨a,kvs,ns,rfl,hq,ek,h64,q⟩:=h;obtain⟨u,rfl,rx⟩:=vals1 r;cases rx;obtain⟨hz,hS,vs,rv,m⟩:=pS I.hok hq;obtain⟨ep,hm⟩:=m.dictAt;have ln:kvs.length=ns.length:=by
  have:=congrArg List.length ek;rw[C0,C0] at this;exact this
 have lv:=rv.length;refine oF (ns:=ns) (kdl_dict (knd:=bh X.prog X.w) (kvs:=vs) (ep:=ep) hS) (I.ok.hd hc) hm (by lia) (λacc hacc=>pZ (by rw[CT,hacc.1]; lia) λj v hv=>?_) λl h' tk e out ns' hl kp he hI pm srt=>?_
 ·obtain⟨k,x,hkx,hk⟩:=hacc.2 j v (by rw[<-HA]; exact hv)
  obtain⟨y,hy,_⟩:=rv.at hkx;have e1:(kvs.map (·.1))[j]? = some k:=by rw[Cu,hy]; rfl
  rw[ek,Cu] at e1;obtain⟨n,hn,rfl⟩:=D9.mp e1;have hk:i6 (EC n) v=true:=hk;rcases aS hk with⟨i,t,e2,rfl⟩ | ⟨z,t,e2,_⟩
  ·cases e2
   exact⟨n,t,hn,rfl⟩
  ·cases e2
 ·have hv:Vals (ns'.map V.int) out.toList:=by
   clear he pm srt
   generalize out.toList=os at hI
   induction hI with
   |nil=>exact .nil
   |cons n t _ ih=>exact .cons ⟨_,rfl⟩ ih
  have hlen:(ns'.map V.int).length<=C7:=by
   rw[C0,pm.length_eq,Cy]; lia
  refine⟨.ref l,_,I.laid (t':=tk) (a:=l) (o:=.lst (ns'.map V.int)) kp hl ?_,rfl,q ns' _ pm srt (I.hok.fresh hl)⟩;refine⟨hlen,out.toList,e,hv,?_⟩;rw[he]
end
end L2
end
section
namespace L2
open PySem PySem.Spec PyProof.Rows
def SG(t:Bool)(K:AC)(H:Hp)(a:Addr)(xs:List V):Prop:=match t with
 |true=>dg K H a xs
 |false=>eF K H a xs
section
variable{t:Bool}{X:Cx}{pins:List (Addr×Obj)}{σ:St}{H:Hp}{s:At}{a:Addr}{xs ys:List V}
theorem Inv.sg(I:Inv X pins σ H s)(h:SG t X.K H a xs):∃its:List Value,Vals xs its/\SQ t s.heap a its.toArray:=by
 cases t with
 |true=>obtain⟨its,r,p,_⟩:=I.tuple h; exact⟨its,r,p⟩
 |false=>obtain⟨its,r,p,_⟩:=I.list h; exact⟨its,r,p.isList⟩
theorem Inv.zB(I:Inv X pins σ H s)(h:SG t X.K H a xs)(h':SG t X.K H a ys):xs=ys:=by
 cases t with
 |true=>exact I.kg h h'
 |false=>exact I.mw h h'
end
theorem qW{t:Bool}{prog:CH}{w:World}{A:Cw}(hh:A.handled=none)(it l:Addr)(hne:l≠it)(its:Array Value) :
  Draws prog w A it [it,l] its.size (λi v=>its[i]? = some v) (λi h=>SI t h it l i/\SQ t h l its) where
 live:=λ_ _ st=>let ⟨o,ho,_⟩:=st.1; ⟨o,ho⟩
 frame:=λ_ _ _ st hk=>⟨st.1.at λo e=>hk it (by simp) o e,by obtain⟨o,e,r⟩:=st.2; exact⟨o,hk l (by simp) o e,r⟩⟩
 item:=λi s Q E hi st hQ=>by
  refine wk st.1 st.2 (v:=its[i]) (by simp[hi]) λg hit hs=>?_
  refine hQ _ g s.toks (by simp[hi]) ⟨hit,?_⟩ hs
  obtain⟨o,e,r⟩:=st.2;exact⟨o,(hs.2 l hne).trans e,r⟩
 done:=λs Q E st hE=>tw hh st.1 st.2 (by simp) hE
section
variable{prog:CH}{w:World}{A:Cw}{E:Value->At->Prop}{s:At}
theorem qX{t:Bool}{e it l:Addr}{k:Nat}{its:Array Value}{old:Value}{Q:Option Value->At->Prop}(hh:A.handled=none)(he:IsEnum s.heap e it k old)(hit:SI t s.heap it l k)(hl:SQ t s.heap l its)(hv:its[k]? = none)
  (hQ:∀h',GB it s.heap h'->Q none { s with heap:=h' }):wpAny (model prog w) A (Ik (.ref e)) Q E s:=by
 have hT:s.TypeIs (.ref e) "enumerate" := ⟨_,he,rfl⟩;unfold Ik;refine Ap (wpAny_attempt (DM (name := "__next__") hT Hf (DL Hf hT F.entry_enumerate_next ?_ (F.args_enumerate_next_1 _))));show wpAny _ _ (field (.ref e) 2 >>= _) _ _ _;refine Ap (Dd he rfl (x:=.ref it) rfl ?_);refine Ap (tw hh hit hl hv λh' x he' hx' =>?_)
 obtain⟨o,ho,hc⟩:=hx';refine Ap (wpAny_isInstance (T := "StopIteration") (b:=true) ⟨o,ho,hc⟩ isSubtype_stop ?_);exact B2 (hQ _ he')
noncomputable def m7(t:Bool)(h:Heap)(l:Addr):Heap:=(h.push (Bm t l)).push { cls:=.type "enumerate",data:=.fields #[.none,.bool false,.ref h.objs.size,Hl 0,.none,.none] }
theorem qY{t:Bool}(l:Addr)(its:Array Value):Meets (Fq.«enumerate.__new__» ⟨[.type "enumerate",.ref l],[]⟩) (λ_ R s=>SQ t s.heap l its/\R (.ok (.ret (.ref (s.heap.push (Bm t l)).objs.size))) { s with heap:=m7 t s.heap l }) :=
 .of_wp λprog w A R s h=>by
  obtain⟨hp,g,d,tk,os⟩:=s;obtain⟨h1,h⟩:=h;have hsub:=sub_enumerate;have k1:SQ t (Shared.heap ⟨hp,g,d,tk,os⟩) l its:=h1;obtain⟨ob,hl,_,n,hd⟩:=id h1
  wp_walk using D1 hl
  refine wpAny_stack_any λst=>B2 ?_
  split
  ·rename_i c _ _ _ _ _
   cases (c == GN "enumerate")
   ·wp_walk using D1 hl,lJ k1
    exact⟨_,rfl,h⟩
   ·wp_walk using D1 hl,lJ k1
    exact⟨_,rfl,h⟩
  ·wp_walk using D1 hl,lJ k1
   exact⟨_,rfl,h⟩
theorem oG{t:Bool}{l:Addr}{its:Array Value}{Q:Value->At->Prop}(hl:SQ t s.heap l its)
  (h:∀g,IsEnum g (s.heap.objs.size+1) s.heap.objs.size 0 .none->SI t g s.heap.objs.size l 0->(∀b o,s.heap.get? b=some o->g.get? b=some o)->Q (.ref (s.heap.objs.size+1)) { s with heap:=g }) :
  wpAny (model prog w) A (call (.type "enumerate") [.ref l]) Q E s:=by
 refine callType_new F.called_enumerate (by decide) (F.typeCall_enumerate_1 _) (F.newCall_enumerate_1 _) (λobj=>F.args_object_init_2 obj _) F.entry_enumerate_new (qY l its) ⟨hl,?_⟩
 unfold m7;generalize e1:s.heap.push (Bm t l)=g1;have z1:g1.objs.size=s.heap.objs.size+1:=by rw[<-e1]; exact Dc ..
 have i1:g1.get? s.heap.objs.size=some (Bm t l):=by rw[<-e1]; exact CA _ rfl
 have k1:∀c o,s.heap.get? c=some o->g1.get? c=some o:=λc o e=>by rw[<-e1]; exact Bz _ e
 generalize e2:g1.push { cls:=.type "enumerate",data:=.fields #[.none,.bool false,.ref s.heap.objs.size,Hl 0,.none,.none] }=g2;have i2:g2.get? (s.heap.objs.size+1)=some { cls:=.type "enumerate",data:=.fields #[.none,.bool false,.ref s.heap.objs.size,Hl 0,.none,.none] }:=by rw[<-e2,<-z1]; exact CA _ rfl
 have k2:∀c o,g1.get? c=some o->g2.get? c=some o:=λc o e=>by rw[<-e2]; exact Bz _ e
 rw[z1];exact⟨⟨_,i2,rfl⟩,h _ i2 ⟨_,k2 _ _ i1,rfl,rfl⟩ λc o e=>k2 _ _ (k1 _ _ e)⟩
end
noncomputable def BS(t:Bool)(K:AC)(a:Addr):It :=
  ⟨λi H=>∃xs x,SG t K H a xs/\xs[i]? = some x,
   λi H v H'=>∃p x,H p=none/\v=.ref p/\H'=upd H p (.tup [.int i,x])/\∀xs,SG t K H a xs->xs[i]? = some x,
   λi H=>∃xs,SG t K H a xs/\xs.length<=i⟩
theorem qZ{t:Bool}{P:CH}{w:World}{K:AC}{es:List Expr}{k:Nat}{pos:Pos}{e it a:Addr}(hei:e≠it)(hai:a≠it)(hae:a≠e):Turn P w K (.Tuple es k pos) (BS t K a) [e,it] e (λn h=>(∃old,IsEnum h e it n old)/\SI t h it a n) where
 mem:=by simp
 obj:=λn h st c hc=>by
  simp only[Dr,CZ,or_false] at hc;rcases hc with rfl | rfl
  ·obtain⟨old,he⟩:=st.1; exact⟨_,he,λv e=>nomatch e⟩
  ·obtain⟨o,e,_,d⟩:=st.2; exact⟨o,e,λv t=>by rw[d] at t; cases t⟩
 keep:=λn h h' st kp=>⟨by obtain⟨old,he⟩:=st.1; exact⟨old,kp e (by simp) _ he⟩,st.2.at λo x=>kp it (by simp) o x⟩
 item:=by
  intro X hP hw hK hc n pins s σ H E I hf st hg;subst hP hw hK;obtain⟨xs,x,qa,hx⟩:=hg;obtain⟨ia,ra,ta⟩:=I.sg qa;obtain⟨u,hu,ru⟩:=ra.get hx;obtain⟨⟨old,he⟩,hit⟩:=st;have hn:n<ia.toArray.size:=by
   rw[Bi];exact(CB.mp hu).1
  refine wpAny_pyNext_enum_itemD (qW (A:=X.A.in1) (I.ok.hd hc) it a hai ia.toArray) he ⟨hit,ta⟩ hn hei (by simp only[Dr,CZ,or_false,not_or]; exact⟨hei,hae.symm⟩) λv g tk hPv ho st' gt hsz kp=>?_
  have hv:v=u:=by
   have h1:ia.toArray[n]? = some v:=hPv;have h2:ia.toArray[n]? = some u:=by simpa using hu
   rw[h1] at h2; exact CP h2
  subst hv;refine⟨_,rfl,wpAny_letOwnedTupleGo_enum (s:={ s with heap:=g,toks:=tk+1 }) ho λg' he' sb=>?_⟩
  have ne:∀c o,s.heap.get? c=some o->c≠s.heap.objs.size:=λc o e=>CF (C6 e)
  have t':g'.get? s.heap.objs.size=some { cls:=.type "tuple",data:=.seq #[.int n tk,v] }:=(sb.2 _ (ne e _ he).symm).trans gt;have f:=I.hok.fresh (C1 s.heap.objs.size);have free:∀c∈[e,it],H c=none:=λc hc=>(hf c hc).1
  have kp':∀c o,c∉[e,it]->s.heap.get? c=some o->g'.get? c=some o:=λc o hc x=>(sb.2 c (λt=>hc (by simp[t]))).trans (kp c o (λt=>hc (by simp[t])) (λt=>hc (by simp[t])) x)
  have tracked:∀c o,H c=some o->c∉[e,it]:=λc o x hc=>by rw[free c hc] at x; cases x
  have hok:gr X.prog X.w (upd H s.heap.objs.size (.tup [.int n,x])) g':=λc o q=>by
   by_cases hc:c=s.heap.objs.size
   ·subst hc
    rw[ay] at q;cases q;exact⟨by rw[Cy]; show 2<=_; lia,[.int n tk,v],.cons ⟨_,rfl⟩ (.cons ru .nil),_,t',rfl,0,rfl⟩
   ·rw[az hc] at q
    refine(I.hok c o q).stay (λd o' hd e'=>kp' d o' ?_ e') (λd e'=>by rw[az (aN e' f)]; exact e') λd xs e'=>by rw[az (aN e' f)]; exact e'
    rcases hd with rfl | hd
    ·exact tracked _ _ q
    ·exact tracked _ _ hd
  have I':Inv X pins σ (upd H s.heap.objs.size (.tup [.int n,x])) { s with heap:=g',toks:=tk+1 }:=by
   refine I.step (g':=s.gens) (t':=tk+1) (d':=s.drawn) (ch:=[e,it]) (λc hc=>?_) (λc o _ _ hc x _=>kp' c o hc x) (λc o _ _ hc x _=>⟨o.slots,kp' c o hc x⟩) (λc o hc x n=>by rw[az (ne c o x)]; exact n)
    (λc o hc x=>⟨o,kp' c o hc x⟩) (λc xs x=>by rw[az (aN x f)]; exact x) (λc o u x=>by rw[az (aN x f)]; exact x) (λc ps x=>⟨#[],by rw[az (aN x f),x]; simp⟩) (λm hm=>?_) hok I.bare
   ·obtain⟨_,f1,_,f3,f4,f5⟩:=hf c hc
    exact⟨f3,f1,f4,f5⟩
   ·obtain⟨o,es',ep,ho,r⟩:=hm
    exact⟨o,es',ep,kp' _ o (λhc=>(hf _ hc).2.1 rfl) ho,r⟩
  refine⟨.ref s.heap.objs.size,_,I',rfl,⟨_,x,f,rfl,rfl,λzs hz=>by rw[I.zB hz qa]; exact hx⟩,⟨⟨v,?_⟩,st'.1.at λo x=>(sb.2 _ hei.symm).trans x⟩,λc hc=>?_⟩
  ·have:=he'
   rw[show ((n:Int)+1)=((n+1:Nat):Int) by lia] at this
   exact this
  ·rw[az]
   ·exact free c hc
   ·simp only[Dr,CZ,or_false] at hc
    rcases hc with rfl | rfl
    ·exact ne _ _ he
    ·obtain⟨_,x,_⟩:=hit; exact ne _ _ x
 done:=by
  intro X hP hw hK hc n pins s σ H E I hf st hg;subst hP hw hK;obtain⟨xs,qa,hl⟩:=hg;obtain⟨ia,ra,ta⟩:=I.sg qa;have la:=ra.length;obtain⟨⟨old,he⟩,hit⟩:=st;refine qX (I.ok.hd hc) he hit ta (by simp; lia) λg kx=>⟨rfl,?_⟩
  have kp:∀c o,c∉[e,it]->s.heap.get? c=some o->g.get? c=some o:=λc o hc x=>kx c o (λt=>hc (by simp[t])) x
  have tracked:∀c o,H c=some o->c∉[e,it]:=λc o x hc=>by rw[(hf c hc).1] at x; cases x
  refine I.step (g':=s.gens) (t':=s.toks) (d':=s.drawn) (ch:=[e,it]) (λc hc=>?_) (λc o _ _ hc x _=>kp c o hc x) (λc o _ _ hc x _=>⟨o.slots,kp c o hc x⟩) (λc o hc x n=>n)
   (λc o hc x=>⟨o,kp c o hc x⟩) (λc xs x=>x) (λc o u x=>x) (λc ps x=>⟨#[],by rw[x]; simp⟩) (λm hm=>?_) (λc o q=>?_) I.bare
  ·obtain⟨_,f1,_,f3,f4,f5⟩:=hf c hc
   exact⟨f3,f1,f4,f5⟩
  ·obtain⟨o,es',ep,ho,r⟩:=hm
   exact⟨o,es',ep,kp _ o (λhc=>(hf _ hc).2.1 rfl) ho,r⟩
  ·refine(I.hok c o q).stay (λd o' hd e'=>kp d o' ?_ e') (λd e'=>e') λd xs e'=>e'
   rcases hd with rfl | hd
   ·exact tracked _ _ q
   ·exact tracked _ _ hd
 self:=λ_ _ _ _ _ st h=>by obtain⟨⟨old,he⟩,_⟩:=st; exact wpAny_pyIter_enum he h
section
variable{X:Cx}
noncomputable def iEnum(K:AC)(ta:TA):TI:=λσ H R=>ta σ H λvs H1=>∃t a,vs=[.ref a]/\(∃xs,SG t K H1 a xs)/\R (BS t K a) H1
theorem wB{a:Expr}{ta:TA}{p pos tp:Pos}{es:List Expr}{k:Nat}(hg:Gl X "enumerate")(hm:X.mg "enumerate" = none)(ha:PA X [a] ta)(hs:C9 [a] X.env=[(false,eval a X.env)]:=by rfl) :
  PI X (.Tuple es k tp) (.Call (.Name "enumerate" p) [a] [] pos) (iEnum X.K ta):=by
 intro pins s σ H R I h;refine Call_ (i9 I hg hm boot_enumerate (EG (bx (ha pos pins s σ H _ I h) λus s1 ⟨vs,H1,I1,r1,q1⟩=>?_) hs rfl))
 obtain⟨t,a',e,⟨xs,qa⟩,q⟩:=q1;subst e;obtain⟨u,rfl,ru⟩:=vals1 r1;cases ru;obtain⟨ia,ra,ta'⟩:=I1.sg qa;refine oG ta' λg ge gi kp=>?_
 refine wpAny_pyIter_enum (s:={ s1 with heap:=g }) ge ?_
 have la:a'<s1.heap.objs.size:=by obtain⟨_,e,_⟩:=ta'; exact C6 e
 have fr:∀c,s1.heap.objs.size<=c->iL X pins H1 c:=λc hc=>I1.fpOk hc (I1.hok.fresh hc)
 refine⟨_,_,_,_,H1,rfl,I1.kept (t':=s1.toks) kp,qZ (Nat.succ_ne_self _) (CF la) (CF (Df la)),⟨⟨_,ge⟩,gi⟩,λc hc=>?_,q⟩
 simp only[Dr,CZ,or_false] at hc;rcases hc with h | h
 ·exact h▸fr _ (Dp _)
 ·exact h▸fr _ (C1 _)
end
section
variable{prog:CH}{w:World}{A:Cw}{E:Value->At->Prop}{s:At}
theorem m8{l:Addr}{vs:List Value}{Q:List Value->At->Prop}(hl:IsTup s.heap l vs.toArray)(hsz:vs.length<=C7)
  (h:Q vs { s with heap:=(s.heap.push (D3 "list" #[] 0)).update s.heap.objs.size (Ch (· ++ vs.toArray)) }):wpAny (model prog w) A (collect (.ref l)) Q E s:=by
 obtain⟨o,ho,hc,n,hd⟩:=id hl;unfold collect;refine Ap (wpAny_runValue (FY entry_proto_collect' ?_));show wpAny _ _ (do again (.builtin "list.__iadd__" ⟨[<-Hm [],.ref l],[]⟩)) _ _ s
 refine Ap (Et (B2 ⟨Code.quiet_builtin _ (by decide +kernel),FY entry_list_iadd' ?_⟩))
 show wpAny _ _ (EF (.ref s.heap.objs.size) (.ref l) (.ref s.heap.objs.size)) _ _ { s with heap:=s.heap.push (D3 "list" #[] 0) }
 unfold EF;have ho':(s.heap.push (D3 "list" #[] 0)).get? l=some o:=Bz _ ho;refine Ap (GH (T := "tuple") ⟨o,ho',hc⟩ ?_);rw[if_pos (by rw[show (GN "tuple" == GN "tuple")=true from rfl]; simp)]
 refine Ap (Hu ho' hd (Ap (Hu (xs:=#[]) (n:=0) (CA _ rfl) rfl ?_)));rw[if_neg (by simp)]
 refine Ap (Fx (xs:=#[]) (n:=0) (CA _ rfl) rfl ?_ (DR _) (by show (#[]++vs.toArray).size<=C7+1; simp only[Array.size_append,Bi,DQ]; lia))
 refine B2 ?_;show wpAny (model prog w) A (do
   let o <-load s.heap.objs.size
   match o.data with
   |.seq xs _=>pure xs.toList
   |_=>IL "internal:collect") Q E { s with heap:=(s.heap.push (D3 "list" #[] 0)).update s.heap.objs.size (Ch (· ++ vs.toArray)) }
 refine Ap (Ii (get?_update_seq (CA _ rfl) _) ?_);show wpAny _ _ (pure ((#[]:Array Value)++vs.toArray).toList) Q E _;rw[show ((#[]:Array Value)++vs.toArray).toList=vs by simp]
 exact B2 h
theorem oH{l:Addr}{vs:List Value}{ns:List Int}{Q:Value->At->Prop}(hl:IsTup s.heap l vs.toArray)(hI:DN vs ns)(h64:vs.length<64)
  (h:∀(out:Array Value)(ns':List Int),DN out.toList ns'->ns'.Perm ns->ns'.Pairwise (·<=·)->Q (.ref (s.heap.objs.size+1)) { s with heap:=sortedAll s.heap vs out }) :
  wpAny (model prog w) A (call (.builtin "sorted") [.ref l]) Q E s:=by
 refine EY IS Ht Hv (Hw _) ?_;unfold Fq.«sorted»;refine Ap (m:=Il "sorted" 1 1 _) (B2 ?_);refine Ap (m8 hl (by rw[Cy]; lia) ?_)
 refine Ap (Et ?_ (by rw[Cy]; lia))
 have hsz:((s.heap.push (D3 "list" #[] 0)).update s.heap.objs.size (Ch (· ++ vs.toArray))).objs.size=s.heap.objs.size+1:=by rw[Ek,Ir]
 have hoL:(((s.heap.push (D3 "list" #[] 0)).update s.heap.objs.size (Ch (· ++ vs.toArray))).push (D3 "list" vs.toArray 0)).get? (s.heap.objs.size+1)=some (D3 "list" vs.toArray 0):=by
  rw[<-hsz]; exact CA _ rfl
 show wpAny _ _ _ _ _ { s with heap:=((s.heap.push (D3 "list" #[] 0)).update s.heap.objs.size (Ch (· ++ vs.toArray))).push (D3 "list" vs.toArray 0) }
 rw[hsz];refine Ap (DX (DL HG ⟨_,hoL,rfl⟩ Gs (list_sort_tree hoL hI h64 λout ns' a1 a2 a3=>⟨_,rfl,?_⟩) (HH _)))
 exact B2 ⟨_,rfl,h out ns' a1 a2 a3⟩
end
section
variable{X:Cx}
theorem iz:bw X (.builtin "sorted") (λxs H Q=>∃p ns,xs=[.ref p]/\dg X.K H p (ns.map V.int)/\ns.length<64/\∀(ns':List Int)l,ns'.Perm ns->ns'.Pairwise (·<=·)->H l=none->Q (.ref l) (upd H l (.lst (ns'.map V.int)))):=by
 intro pins s σ H xs us Q I r h;obtain⟨p,ns,rfl,hq,h64,q⟩:=h;obtain⟨u,rfl,rx⟩:=vals1 r;cases rx;obtain⟨its,rv,pl,hz⟩:=I.tuple hq;have hI:=intsAre_of rv;have hl:=rv.length;rw[C0] at hl;refine oH pl hI (by lia) λout ns' ho hp hs=>?_
 obtain⟨e,he⟩:=Hs s.heap its out;have hv:Vals (ns'.map V.int) out.toList:=by
  clear he hp hs
  generalize out.toList=os at ho
  induction ho with
  |nil=>exact .nil
  |cons n t _ ih=>exact .cons ⟨_,rfl⟩ ih
 have hlen:(ns'.map V.int).length<=C7:=by rw[C0,hp.length_eq,Cy]; lia
 refine⟨.ref (s.heap.objs.size+1),_,I.laid (t':=s.toks) (a:=s.heap.objs.size+1) (o:=.lst (ns'.map V.int)) (λb u e=>HY e) (Dp _) ?_,rfl,q ns' _ hp hs (I.hok.fresh (Dp _))⟩
 refine⟨hlen,out.toList,e,hv,?_⟩;rw[he]
end
end L2
end
section
namespace HT
open PySem PySem.Spec PyProof.Rows
noncomputable def dM:List Int->List Int->Bool
 |[],[]=>true
 |[],_::_=>false
 |_::_,[]=>true
 |x::xs,y::ys=>if x=y then dM xs ys else decide (x>=y)
theorem jt(x y:Int)(xs ys:List Int):dM (x::xs) (y::ys)=if x=y then dM xs ys else decide (x>=y):=rfl
theorem j3:dM [] []=true:=rfl
theorem ju(y:Int)(ys:List Int):dM [] (y::ys)=false:=rfl
theorem jv(x:Int)(xs:List Int):dM (x::xs) []=true:=rfl
theorem kG:∀(xs ys:List Int),dM xs ys = !lexLt xs ys
 |[],[]=>rfl
 |[],_::_=>rfl
 |_::_,[]=>rfl
 |x::xs,y::ys=>by
  rw[jt,cM]
  by_cases e:x=y
  ·rw[if_pos e,if_pos e]; exact kG xs ys
  ·rw[if_neg e,if_neg e]
   by_cases h:x<y
   ·rw[decide_eq_true h,decide_eq_false (by lia)]; rfl
   ·rw[decide_eq_false h,decide_eq_true (by lia)]; rfl
theorem tK(A:Cw)(s:At)(a:Int)(t:Tok)(c:Int)(u:Tok)(prog:CH)(w:World)(E:Value->At->Prop)(Q:Value->At->Prop)(h:Q (.bool (decide (a>=c))) s) :
  wpAny (model prog w) A (richCompare .GtE (.int a t) (.int c u)) Q E s:=(Ib h:wpAny (model prog w) A (CN .GtE (.int a t) (.int c u)) Q E s)
section
open PySem.SeqAt
open PySem.AutoSeq1 (wpAny_loadPart')
open PySem.MeetsSeq PySem.MeetsSeq2 PySem.MeetsSeq3
theorem j4(l b:Addr)(items items2:Array Value)(n n2:Nat)(dd dd2:Option Addr)(sl sl2:Array (Option Value))(ns ms:List Int)(hi:DN items.toList ns)(hj:DN items2.toList ms) :
  Meets (Fq.«tuple.__ge__» ⟨[.ref l,.ref b],[]⟩)
   (λ_ R s=>s.heap.get? l=some { cls:=.type "tuple",dict:=dd,data:=.seq items n,slots:=sl }/\s.heap.get? b=some { cls:=.type "tuple",dict:=dd2,data:=.seq items2 n2,slots:=sl2 } /\
    R (.ok (.ret (.bool (dM ns ms)))) s) :=
 .of_wp λprog w A R s h=>by
  obtain⟨hp,g,d,tk,os⟩:=s; obtain⟨hl,hb,h⟩:=h;have f2:=GF;have z1:items.size=ns.length:=by rw[<-hi.length]; simp
  have z2:items2.size=ms.length:=by rw[<-hj.length]; simp
  wp_walk using D1 hl,D1 hb,wpAny_forIn_list _ (λrest b s'=>b.1=none/\s'=⟨hp,g,d,tk,os⟩/\∃ (vs ws:List Value) (ns' ms':List Int),rest=vs.zip ws /\
   DN vs ns'/\DN ws ms'/\ns'.length+items2.size=ms'.length+items.size/\R (.ok (.ret (.bool (dM ns' ms')))) ⟨hp,g,d,tk,os⟩) _
  case turn=>
   rintro⟨y,x⟩ rest b s' ⟨hb',rfl,vs,ws,ns',ms',hz,hvi,hwi,hlen,hR⟩;cases hvi with
   |nil=>rw[Hz] at hz; cases hz
   |cons a t hvi' =>
    cases hwi with
    |nil=>rw[Hj] at hz; cases hz
    |cons c u hwi' =>
     rw[E7] at hz
     injection hz with hyx hrest
     injection hyx with hy hx
     subst hy hx;rw[jt] at hR;simp only[BM] at hlen;obtain⟨e,he,hiff⟩:=mE A.in1 ⟨hp,g,d,tk,os⟩ a t c u;refine Ap (he prog w _ _ ?_);cases e with
     |true=>
      rw[if_pos (hiff.mp rfl)] at hR
      wp_walk
      exact⟨rfl,rfl,_,_,_,_,hrest,hvi',hwi',by lia,hR⟩
     |false=>
      rw[if_neg (λq=>absurd (hiff.mpr q) DJ)] at hR
      have hri:=tK A.in1 ⟨hp,g,d,tk,os⟩ a t c u prog w
      wp_walk using hri
      exact⟨_,rfl,by simpa using hR⟩
  case fin=>
   rintro⟨b1,b2⟩ s' ⟨hb',rfl,vs,ws,ns',ms',hz,hvi,hwi,hlen,hR⟩;simp only at hb';subst hb';have hv:dM ns' ms'=decide (items.size>=items2.size):=by
    cases hvi with
    |nil=>
     cases hwi with
     |nil=>
      simp only[DQ] at hlen;rw[j3];exact(decide_eq_true (by lia)).symm
     |cons c u hw=>
      simp only[DQ,BM] at hlen;rw[ju];exact(decide_eq_false (by lia)).symm
    |cons a t hv=>
     cases hwi with
     |nil=>
      simp only[DQ,BM] at hlen;rw[jv];exact(decide_eq_true (by lia)).symm
     |cons c u hw=>
      rw[E7] at hz;cases hz
   rw[hv] at hR
   wp_walk
   exact⟨_,rfl,by simpa[FB] using hR⟩
  case h=>
   exact⟨rfl,rfl,items.toList,items2.toList,ns,ms,rfl,hi,hj,by lia,h⟩
end
section
variable{prog:CH}{w:World}{A:Cw}{E:Value->At->Prop}{s:At}
theorem oJ{l b:Addr}{items items2:Array Value}{ns ms:List Int}{Q:Value->At->Prop}(hl:IsTup s.heap l items)(hb:IsTup s.heap b items2)(hi:DN items.toList ns)(hj:DN items2.toList ms)
  (hu:A.units<cLine) (h:Q (.bool (dM ns ms)) s):wpAny (model prog w) A (CN .GtE (.ref l) (.ref b)) Q E s:=by
 obtain⟨⟨cls,dd,data,sl⟩,ho,hc,n,hd⟩:=id hl;obtain⟨⟨cls2,dd2,data2,sl2⟩,ho2,hc2,n2,hd2⟩:=id hb;simp only at hc hd hc2 hd2;subst hc hd hc2 hd2;exact Hk (op:=.GtE) ⟨_,ho,rfl⟩ ⟨_,ho2,rfl⟩ PySem.F.slot_tuple_ge PySem.F.entry_tuple_ge (PySem.F.args_tuple_ge_2 _ _) (j4 l b items items2 n n2 dd dd2 sl sl2 ns ms hi hj)
  ⟨ho,ho2,show GO (dM ns ms)≠HF/\Q (.bool (dM ns ms)) s from⟨(λx=>nomatch x),h⟩⟩ hu
end
end HT
namespace L2
open PySem PySem.Spec PyProof.Rows
section
variable{X:Cx}
noncomputable def rGeT(K:AC):R2:=λx y H Q=>∃a b ns ms,x=.ref a/\y=.ref b/\dg K H a (ns.map V.int)/\dg K H b (ms.map V.int)/\Q (.bl (!HT.lexLt ns ms)) H
theorem zC(hu:X.A.units<cLine):cH X (CN .GtE) (rGeT X.K):=by
 intro pins s σ H x y v u Q I rx ry h;obtain⟨a,b,ns,ms,rfl,rfl,ha,hb,q⟩:=h;cases rx;cases ry;obtain⟨its,r1,p1,_⟩:=I.tuple ha;obtain⟨its2,r2,p2,_⟩:=I.tuple hb;refine HT.oJ p1 p2 (intsAre_of r1) (intsAre_of r2) hu ⟨.bl (HT.dM ns ms),H,I,rfl,?_⟩;rw[HT.kG]; exact q
end
end L2
end
section
namespace VL
open PySem PySem.Spec L2 PyProof.Rows
abbrev Zs:=Addr->Prop
noncomputable def j5:Key->AT
 |.inl i=>.int i
 |.inr x=>.str x
def KL(K:AC)(a:Addr)(xs:List V):Prop:=∃ (o:Obj) (its:Array Value) (n:Nat),K.lookup a=some o/\o.cls=.type "list"/\o.dict=none/\o.data=.seq its n/\its.size<=C7/\Vals xs its.toList
mutual
inductive Fz(K:AC)(H:Hp)(Z:Zs):V->AT->Prop
 |non:Fz K H Z .non .none
 |bl (b:Bool):Fz K H Z (.bl b) (.bool b)
 |int (i:Int):Fz K H Z (.int i) (.int i)
 |str (x:Str):Fz K H Z (.str x) (.str x)
 |tup {a:Addr} {xs:List V} {ds:List AT}:dg K H a xs->aZ K H Z xs ds->Fz K H Z (.ref a) (.tuple ds)
 |lst {a:Addr} {xs:List V} {ds:List AT}:Rd H a (.lst xs)->Z a->aZ K H Z xs ds->Fz K H Z (.ref a) (.list ds)
 |lsK {a:Addr} {xs:List V} {ds:List AT}:KL K a xs->aZ K H Z xs ds->Fz K H Z (.ref a) (.list ds)
 |aI {a:Addr} {kxs:List (Key×V)} {ds:List (Key×AT)}:H a=some (.dK kxs)->Z a->eK K H Z kxs ds->Fz K H Z (.ref a) (.dict (ds.map λp=>(j5 p.1,p.2)))
 |dtp {a:Addr} {kxs:List (List Key×V)} {ds:List (List Key×AT)}:H a=some (.dT kxs)->Z a->kxs.map (·.1)=ds.map (·.1)->aZ K H Z (kxs.map (·.2)) (ds.map (·.2))->Fz K H Z (.ref a) (.dict (ds.map λp=>(.tuple (p.1.map j5),p.2)))
inductive aZ(K:AC)(H:Hp)(Z:Zs):List V->List AT->Prop
 |nil:aZ K H Z [] []
 |cons {x:V} {d:AT} {xs:List V} {ds:List AT}:Fz K H Z x d->aZ K H Z xs ds->aZ K H Z (x::xs) (d::ds)
inductive eK(K:AC)(H:Hp)(Z:Zs):List (Key×V)->List (Key×AT)->Prop
 |nil:eK K H Z [] []
 |cons {k:Key} {x:V} {d:AT} {xs:List (Key×V)} {ds:List (Key×AT)}:Fz K H Z x d->eK K H Z xs ds->eK K H Z ((k,x)::xs) ((k,d)::ds)
end
structure aG(H:Hp)(Z:Zs)(H':Hp)(Z':Zs):Prop where
 tups:dh H H'
 keep:∀a o,Z a->H a=some o->H' a=some o
 zs:∀a,Z a->Z' a
theorem aG.refl{H:Hp}{Z:Zs}:aG H Z H Z:=⟨dh.refl,λ_ _ _ h=>h,λ_ h=>h⟩
theorem aG.trans{H H1 H2:Hp}{Z Z1 Z2:Zs}(g:aG H Z H1 Z1)(h:aG H1 Z1 H2 Z2):aG H Z H2 Z2:=⟨g.tups.trans h.tups,λa o z e=>h.keep a o (g.zs a z) (g.keep a o z e),λa z=>h.zs a (g.zs a z)⟩
section
variable{K:AC}{H H':Hp}{Z Z':Zs}
mutual
theorem Fz.mono(g:aG H Z H' Z'):∀{x:V}{d:AT},Fz K H Z x d->Fz K H' Z' x d
 |_,_,.non=>.non
 |_,_,.bl b=>.bl b
 |_,_,.int i=>.int i
 |_,_,.str x=>.str x
 |_,_,.tup h r=>.tup (g.tups.sq h) (aZ.mono g r)
 |_,_,.lst (a:=a) h z r=>.lst (by
  rcases h with e | ⟨o,e⟩
  ·exact .inl (g.keep a _ z e)
  ·exact .inr ⟨o,g.keep a _ z e⟩) (g.zs _ z) (aZ.mono g r)
 |_,_,.lsK h r=>.lsK h (aZ.mono g r)
 |_,_,.aI (a:=a) h z r=>.aI (g.keep a _ z h) (g.zs _ z) (eK.mono g r)
 |_,_,.dtp (a:=a) h z e r=>.dtp (g.keep a _ z h) (g.zs _ z) e (aZ.mono g r)
theorem aZ.mono(g:aG H Z H' Z'):∀{x:List V}{d:List AT},aZ K H Z x d->aZ K H' Z' x d
 |_,_,.nil=>.nil
 |_,_,.cons h r=>.cons (Fz.mono g h) (aZ.mono g r)
theorem eK.mono(g:aG H Z H' Z'):∀{x:List (Key×V)}{d:List (Key×AT)},eK K H Z x d->eK K H' Z' x d
 |_,_,.nil=>.nil
 |_,_,.cons h r=>.cons (Fz.mono g h) (eK.mono g r)
end
theorem aZ.length:∀{xs:List V}{ds:List AT},aZ K H Z xs ds->xs.length=ds.length:=by
 intro xs
 induction xs with
 |nil=>intro ds h; cases h; rfl
 |cons x xs ih=>intro ds h; cases h with | cons _ r=>rw[BM,BM,ih r]
theorem aZ.get':∀{xs:List V}{ds:List AT}{i:Nat}{d:AT},aZ K H Z xs ds->ds[i]? = some d->∃x,xs[i]? = some x/\Fz K H Z x d:=by
 intro xs
 induction xs with
 |nil=>intro ds i d h e; cases h; simp at e
 |cons x xs ih=>
  intro ds i d h e;cases h with | cons r t=>
  cases i with
  |zero=>simp at e; subst e; exact⟨_,rfl,r⟩
  |succ i=>
   obtain⟨d,h1,h2⟩:=ih (i:=i) t (by simpa using e)
   exact⟨d,by simpa using h1,h2⟩
theorem aZ.append:∀{xs ys:List V}{ds es:List AT},aZ K H Z xs ds->aZ K H Z ys es->aZ K H Z (xs++ys) (ds++es):=by
 intro xs
 induction xs with
 |nil=>intro ys ds es h s; cases h; exact s
 |cons x xs ih=>intro ys ds es h s; cases h with | cons h r=>exact .cons h (ih r s)
theorem aZ.take:∀{xs:List V}{ds:List AT}(n:Nat),aZ K H Z xs ds->aZ K H Z (xs.take n) (ds.take n)
 |_,_,0,_=>by rw[Ig,Ig]; exact .nil
 |_,_,n+1,.nil=>by rw[Ix,Ix]; exact .nil
 |_,_,n+1,.cons h r=>.cons h (aZ.take n r)
theorem aZ.drop:∀{xs:List V}{ds:List AT}(n:Nat),aZ K H Z xs ds->aZ K H Z (xs.drop n) (ds.drop n)
 |_,_,0,h=>h
 |_,_,n+1,.nil=>by rw[Ff,Ff]; exact .nil
 |_,_,n+1,.cons h r=>aZ.drop n r
theorem aZ.set:∀{xs:List V}{ds:List AT}{x:V}{d:AT}(i:Nat),aZ K H Z xs ds->Fz K H Z x d->aZ K H Z (xs.set i x) (ds.set i d):=by
 intro xs
 induction xs with
 |nil=>intro ds x d i h _; cases h; exact .nil
 |cons y xs ih=>
  intro ds x d i h q;cases h with | cons p r=>
  cases i with
  |zero=>exact .cons q r
  |succ i=>exact .cons p (ih i r q)
theorem eK.length:∀{xs:List (Key×V)}{ds:List (Key×AT)},eK K H Z xs ds->xs.length=ds.length:=by
 intro xs
 induction xs with
 |nil=>intro ds h; cases h; rfl
 |cons x xs ih=>intro ds h; cases h with | cons _ r=>rw[BM,BM,ih r]
theorem eK.keys:∀{xs:List (Key×V)}{ds:List (Key×AT)},eK K H Z xs ds->xs.map (·.1)=ds.map (·.1)
 |_,_,.nil=>rfl
 |_,_,.cons _ r=>by rw[CC,CC,eK.keys r]
theorem Fz.int_inv{x:V}{i:Int}(h:Fz K H Z x (.int i)):x=.int i:=by cases h; rfl
theorem Fz.oK{x:V}{i:Bool}(h:Fz K H Z x (.bool i)):x=.bl i:=by cases h; rfl
theorem Fz.str_inv{x:V}{i:Str}(h:Fz K H Z x (.str i)):x=.str i:=by cases h; rfl
theorem Fz.p6{x:V}(h:Fz K H Z x .none):x=.non:=by cases h; rfl
theorem Fz.eS{x:V}{ds:List AT}(h:Fz K H Z x (.tuple ds)):∃a xs,x=.ref a/\dg K H a xs/\aZ K H Z xs ds:=by
 cases h with
 |tup q r=>exact⟨_,_,rfl,q,r⟩
theorem Fz.lst_inv{x:V}{ds:List AT}(h:Fz K H Z x (.list ds)):∃a xs,x=.ref a/\eF K H a xs/\aZ K H Z xs ds:=by
 cases h with
 |lst q z r=>exact⟨_,_,rfl,.inl q,r⟩
 |lsK q r=>exact⟨_,_,rfl,.inr q,r⟩
theorem aZ.ints:∀(ns:List Int),aZ K H Z (ns.map V.int) (ns.map .int)
 |[]=>.nil
 |n::ns=>.cons (.int n) (aZ.ints ns)
theorem aZ.bU:∀{ns:List Int}{xs:List V},aZ K H Z xs (ns.map .int)->xs=ns.map V.int:=by
 intro ns
 induction ns with
 |nil=>intro xs h; cases h; rfl
 |cons n ns ih=>
  intro xs h;cases h with | cons q r=>
  cases q;rw[ih r]; rfl
end
section
variable{X:Cx}{pins:List (Addr×Obj)}{σ:L2.St}{H:Hp}{s:At}{Z:Zs}
mutual
theorem Fz.reads(I:Inv X pins σ H s):∀{v:V}{d:AT}{u:Value},Fz X.K H Z v d->d.canLay0=true->RelV v u->∃as,Reads s.heap u d as
 |_,_,_,.non,_,r=>by cases r; exact⟨_,.none⟩
 |_,_,_,.bl b,_,r=>by cases r; exact⟨_,.bool b⟩
 |_,_,_,.int i,_,r=>by obtain⟨t,rfl⟩:=r; exact⟨_,.int i t⟩
 |_,_,_,.str x,_,r=>by obtain⟨t,rfl⟩:=r; exact⟨_,.str x t⟩
 |_,_,_,.tup q rs,c,r=>by
  cases r;obtain⟨its,rv,⟨o,ho,hc,n,hd⟩,_⟩:=I.tuple q;obtain⟨as,h⟩:=aZ.reads I rs c rv;exact⟨as,.tuple ho hc hd (by simpa using h)⟩
 |_,_,_,.lst q z rs,c,r=>by
  cases r;obtain⟨its,rv,⟨o,n,ho,hc,hdd,hd⟩,_⟩:=I.list (.inl q);obtain⟨as,h⟩:=aZ.reads I rs c rv;exact⟨_,.list ho hc hd (by simpa using h)⟩
 |_,_,_,.lsK q rs,c,r=>by
  cases r;obtain⟨its,rv,⟨o,n,ho,hc,hdd,hd⟩,_⟩:=I.list (.inr q);obtain⟨as,h⟩:=aZ.reads I rs c rv;exact⟨_,.list ho hc hd (by simpa using h)⟩
 |_,_,_,.aI _ _ _,c,_=>nomatch c
 |_,_,_,.dtp _ _ _ _,c,_=>nomatch c
theorem aZ.reads(I:Inv X pins σ H s):∀{v:List V}{d:List AT}{u:List Value},aZ X.K H Z v d->CU d=true->Vals v u->∃as,IQ s.heap u d as
 |_,_,_,.nil,_,.nil=>⟨_,.nil⟩
 |_,_,_,.cons (d:=d) (ds:=ds) r q,c,.cons a b=>by
  have c':d.canLay0=true/\CU ds=true:=by simpa[CU] using c
  obtain⟨x,h1⟩:=Fz.reads I r c'.1 a;obtain⟨y,h2⟩:=aZ.reads I q c'.2 b;exact⟨_,.cons h1 h2⟩
end
end
end VL
end
section
namespace VL
open PySem PySem.Spec L2 PyProof.Rows
inductive M where
 |v (d:AT)
 |lst (ds:List AT)
 |aI (kvs:List (Key×AT))
 |bz (kvs:List (Key×List AT))
 |dtp (kvs:List (List Key×AT))
 |lls (dss:List (List AT))
 |dre (k:Key) (ds:List AT) (kvs:List (Key×AT))
abbrev Ev:=List (Option M)
section
variable(K:AC)(H:Hp)(Z:Zs)
inductive fW:List (Key×V)->List (Key×List AT)->List Addr->Prop
 |nil:fW [] [] []
 |cons {k:Key} {b:Addr} {xs:List V} {ds:List AT} {kxs:List (Key×V)} {kvs:List (Key×List AT)} {G:List Addr}:H b=some (.lst xs)->aZ K H Z xs ds->fW kxs kvs G->fW ((k,.ref b)::kxs) ((k,ds)::kvs) (b::G)
inductive gz:List V->List (List AT)->List Addr->Prop
 |nil:gz [] [] []
 |cons {b:Addr} {xs:List V} {ds:List AT} {vs:List V} {dss:List (List AT)} {G:List Addr}:H b=some (.lst xs)->aZ K H Z xs ds->gz vs dss G->gz (.ref b::vs) (ds::dss) (b::G)
inductive Ow:V->M->List Addr->Prop
 |v {x:V} {d:AT}:Fz K H Z x d->Ow x (.v d) []
 |lst {a:Addr} {xs:List V} {ds:List AT}:H a=some (.lst xs)->aZ K H Z xs ds->Ow (.ref a) (.lst ds) [a]
 |aI {a:Addr} {kxs:List (Key×V)} {kvs:List (Key×AT)}:H a=some (.dK kxs)->eK K H Z kxs kvs->Ow (.ref a) (.aI kvs) [a]
 |bz {a:Addr} {kxs:List (Key×V)} {kvs:List (Key×List AT)} {G:List Addr}:H a=some (.dK kxs)->fW K H Z kxs kvs G->Ow (.ref a) (.bz kvs) (a::G)
 |dtp {a:Addr} {kxs:List (List Key×V)} {kvs:List (List Key×AT)}:H a=some (.dT kxs)->kxs.map (·.1)=kvs.map (·.1)->aZ K H Z (kxs.map (·.2)) (kvs.map (·.2))->Ow (.ref a) (.dtp kvs) [a]
 |lls {a:Addr} {vs:List V} {dss:List (List AT)} {G:List Addr}:H a=some (.lst vs)->gz K H Z vs dss G->Ow (.ref a) (.lls dss) (a::G)
 |dre {a b:Addr} {k:Key} {xs:List V} {ds:List AT} {kxs:List (Key×V)} {kvs:List (Key×AT)}:H a=some (.dK ((k,.ref b)::kxs))->H b=some (.lst xs)->aZ K H Z xs ds->eK K H Z kxs kvs->Ow (.ref a) (.dre k ds kvs) [a,b]
inductive aK:L2.St->Ev->List Addr->Prop
 |nil:aK [] [] []
 |non {x:Option V} {σ:L2.St} {ρ:Ev} {F:List Addr}:aK σ ρ F->aK (x::σ) (none::ρ) F
 |som {x:V} {m:M} {G:List Addr} {σ:L2.St} {ρ:Ev} {F:List Addr}:Ow K H Z x m G->aK σ ρ F->aK (some x::σ) (some m::ρ) (G++F)
end
def Mu(o:HO):Prop:=(∃xs,o=.lst xs)\/(∃kvs,o=.dK kvs)\/∃kvs,o=.dT kvs
structure Wf(H:Hp)(Z:Zs)(F:List Addr):Prop where
 nd:F.Nodup
 dz:∀a∈F,¬Z a
 za:∀a,Z a->H a≠none
structure aD(H:Hp)(Z:Zs)(F:List Addr)(H':Hp)(Z':Zs)(F':List Addr):Prop where
 keep:∀a o,a∉F->H a=some o->H' a=some o
 tups:dh H H'
 zs:∀a,Z a->Z' a
 zn:∀a,Z' a->Z a\/a∈F\/H a=none
 fr:∀a∈F',a∈F\/H a=none
 nd:F'.Nodup
 dz:∀a∈F',¬Z' a
 za:∀a,Z' a->H' a≠none
section
variable{K:AC}{H H' H1 H2:Hp}{Z Z' Z1 Z2:Zs}{F F' F1 F2 G:List Addr}
theorem aD.refl(w:Wf H Z F):aD H Z F H Z F:=⟨λ_ _ _ h=>h,dh.refl,λ_ h=>h,λ_ h=>.inl h,λ_ h=>.inl h,w.nd,w.dz,w.za⟩
theorem aD.wf(f:aD H Z F H' Z' F'):Wf H' Z' F':=⟨f.nd,f.dz,f.za⟩
theorem aD.grow(f:aD H Z F H' Z' F')(w:Wf H Z F):aG H Z H' Z':=⟨f.tups,λa o z e=>f.keep a o (λh=>w.dz a h z) e,f.zs⟩
theorem aD.trans(f:aD H Z F H1 Z1 F1)(g:aD H1 Z1 F1 H2 Z2 F2):aD H Z F H2 Z2 F2:=by
 have old:∀a,H1 a=none->a∈F\/H a=none:=λa e=>by
  by_cases h:a∈F
  ·exact .inl h
  ·cases q:H a with
   |none=>exact .inr rfl
   |some o=>rw[f.keep a o h q] at e; cases e
 refine⟨λa o h e=>g.keep a o (λz=>?_) (f.keep a o h e),f.tups.trans g.tups,λa z=>g.zs a (f.zs a z),λa z=>?_,λa h=>?_,g.nd,g.dz,g.za⟩
 ·rcases f.fr a z with z | z
  ·exact h z
  ·rw[e] at z; cases z
 ·rcases g.zn a z with z | z | z
  ·exact f.zn a z
  ·exact .inr (f.fr a z)
  ·exact .inr (old a z)
 ·rcases g.fr a h with z | z
  ·exact f.fr a z
  ·exact old a z
theorem aD.frame(f:aD H Z F H' Z' F')(w:Wf H Z (F++G))(al:∀a∈G,H a≠none):aD H Z (F++G) H' Z' (F'++G):=by
 have nd:=C2.mp w.nd;have sep:∀a∈G,a∉F:=λa h z=>nd.2.2 a z a h rfl
 refine⟨λa o h e=>f.keep a o (λz=>h (lL _ z)) e,f.tups,f.zs,λa z=>?_,λa h=>?_,?_,λa h z=>?_,f.za⟩
 ·rcases f.zn a z with z | z | z
  ·exact .inl z
  ·exact .inr (.inl (lL _ z))
  ·exact .inr (.inr z)
 ·rcases lM h with h | h
  ·rcases f.fr a h with z | z
   ·exact .inl (lL _ z)
   ·exact .inr z
  ·exact .inl (lR _ h)
 ·refine C2.mpr ⟨f.nd,nd.2.1,λa h b h' e=>?_⟩
  subst e;rcases f.fr a h with z | z
  ·exact sep a h' z
  ·exact al a h' z
 ·rcases lM h with h | h
  ·exact f.dz a h z
  ·rcases f.zn a z with z | z | z
   ·exact w.dz a (lR _ h) z
   ·exact sep a h z
   ·exact al a h z
theorem aD.sub(f:aD H Z F H' Z' F')(hn:F1.Nodup)(hs:∀a∈F1,a∈F'):aD H Z F H' Z' F1:=⟨f.keep,f.tups,f.zs,f.zn,λa h=>f.fr a (hs a h),hn,λa h=>f.dz a (hs a h),f.za⟩
theorem aD.left(f:aD H Z F H' Z' (F1++G)):aD H Z F H' Z' F1:=f.sub (C2.mp f.nd).1 λ_ h=>lL _ h
theorem aD.nil(f:aD H Z F H' Z' F1):aD H Z F H' Z' (F1++[]):=by rw[Bn]; exact f
theorem aD.swap(f:aD H Z F H' Z' (F1++G)):aD H Z F H' Z' (G++F1):=f.sub (by
  have h:=C2.mp f.nd;exact C2.mpr ⟨h.2.1,h.1,λa x b y e=>h.2.2 b y a x e.symm⟩) λa h=>by
  rcases lM h with h | h
  ·exact lR _ h
  ·exact lL _ h
theorem fW.mem:∀{kxs:List (Key×V)}{kvs:List (Key×List AT)}{G:List Addr},fW K H Z kxs kvs G->∀a∈G,∃o,H a=some o/\Mu o:=by
 intro kxs kvs G r
 induction r with
 |nil=>intro a h; simp at h
 |cons e _ r ih=>
  intro a h;rcases lK h with h | h
  ·subst h; exact⟨_,e,.inl ⟨_,rfl⟩⟩
  ·exact ih a h
theorem gz.mem:∀{vs:List V}{dss:List (List AT)}{G:List Addr},gz K H Z vs dss G->∀a∈G,∃o,H a=some o/\Mu o:=by
 intro vs dss G r
 induction r with
 |nil=>intro a h; simp at h
 |cons e _ r ih=>
  intro a h;rcases lK h with h | h
  ·subst h; exact⟨_,e,.inl ⟨_,rfl⟩⟩
  ·exact ih a h
theorem Ow.mem{x:V}{m:M}(h:Ow K H Z x m G):∀a∈G,∃o,H a=some o/\Mu o:=λa ha=>by
 cases h with
 |v _=>simp at ha
 |lst e _=>rw[B1] at ha; subst ha; exact⟨_,e,.inl ⟨_,rfl⟩⟩
 |aI e _=>rw[B1] at ha; subst ha; exact⟨_,e,.inr (.inl ⟨_,rfl⟩)⟩
 |dtp e _ _=>rw[B1] at ha; subst ha; exact⟨_,e,.inr (.inr ⟨_,rfl⟩)⟩
 |bz e r=>
  rcases lK ha with ha | ha
  ·subst ha; exact⟨_,e,.inr (.inl ⟨_,rfl⟩)⟩
  ·exact r.mem a ha
 |lls e r=>
  rcases lK ha with ha | ha
  ·subst ha; exact⟨_,e,.inl ⟨_,rfl⟩⟩
  ·exact r.mem a ha
 |dre e eb _ _=>
  rcases lK ha with ha | ha
  ·subst ha; exact⟨_,e,.inr (.inl ⟨_,rfl⟩)⟩
  ·rw[B1] at ha; subst ha; exact⟨_,eb,.inl ⟨_,rfl⟩⟩
theorem Ow.al{x:V}{m:M}(h:Ow K H Z x m G):∀a∈G,H a≠none:=λa ha e=>by obtain⟨o,q,_⟩:=h.mem a ha; rw[q] at e; cases e
theorem aK.mem:∀{σ:L2.St}{ρ:Ev}{F:List Addr},aK K H Z σ ρ F->∀a∈F,∃o,H a=some o/\Mu o:=by
 intro σ ρ F r
 induction r with
 |nil=>intro a h; simp at h
 |non _ ih=>exact ih
 |som q r ih=>
  intro a h;rcases lM h with h | h
  ·exact q.mem a h
  ·exact ih a h
theorem aK.al{σ:L2.St}{ρ:Ev}(h:aK K H Z σ ρ F):∀a∈F,H a≠none:=λa ha e=>by obtain⟨o,q,_⟩:=h.mem a ha; rw[q] at e; cases e
theorem fW.mono(g:aG H Z H' Z'):∀{kxs:List (Key×V)}{kvs:List (Key×List AT)}{G:List Addr},fW K H Z kxs kvs G->(∀a∈G,∀o,H a=some o->H' a=some o)->fW K H' Z' kxs kvs G:=by
 intro kxs kvs G r
 induction r with
 |nil=>exact λ_=>.nil
 |cons e f r ih=>exact λk=>.cons (k _ lS _ e) (f.mono g) (ih λa h=>k a (lO _ h))
theorem gz.mono(g:aG H Z H' Z'):∀{vs:List V}{dss:List (List AT)}{G:List Addr},gz K H Z vs dss G->(∀a∈G,∀o,H a=some o->H' a=some o)->gz K H' Z' vs dss G:=by
 intro vs dss G r
 induction r with
 |nil=>exact λ_=>.nil
 |cons e f r ih=>exact λk=>.cons (k _ lS _ e) (f.mono g) (ih λa h=>k a (lO _ h))
theorem Ow.mono{x:V}{m:M}(g:aG H Z H' Z')(h:Ow K H Z x m G)(k:∀a∈G,∀o,H a=some o->H' a=some o):Ow K H' Z' x m G:=by
 cases h with
 |v f=>exact .v (f.mono g)
 |lst e f=>exact .lst (k _ lS _ e) (f.mono g)
 |aI e f=>exact .aI (k _ lS _ e) (f.mono g)
 |dtp e n f=>exact .dtp (k _ lS _ e) n (f.mono g)
 |bz e f=>exact .bz (k _ lS _ e) (f.mono g λa h=>k a (lO _ h))
 |lls e f=>exact .lls (k _ lS _ e) (f.mono g λa h=>k a (lO _ h))
 |dre e eb f r=>exact .dre (k _ lS _ e) (k _ (lO _ lS) _ eb) (f.mono g) (r.mono g)
theorem aK.mono(g:aG H Z H' Z'):∀{σ:L2.St}{ρ:Ev}{F:List Addr},aK K H Z σ ρ F->(∀a∈F,∀o,H a=some o->H' a=some o)->aK K H' Z' σ ρ F:=by
 intro σ ρ F r
 induction r with
 |nil=>exact λ_=>.nil
 |non r ih=>exact λk=>.non (ih k)
 |som q r ih=>exact λk=>.som (q.mono g λa h=>k a (lL _ h)) (ih λa h=>k a (lR _ h))
theorem aK.get:∀{σ:L2.St}{ρ:Ev}{F:List Addr}{i:Nat}{m:M},aK K H Z σ ρ F->ρ[i]? = some (some m)->∃x G,σ[i]? = some (some x)/\Ow K H Z x m G/\∀a∈G,a∈F:=by
 intro σ ρ F i m r
 induction r generalizing i with
 |nil=>intro e; simp at e
 |non r ih=>
  intro e;cases i with
  |zero=>simp at e
  |succ i=>
   obtain⟨x,G,h1,h2,h3⟩:=ih (i:=i) (by simpa using e)
   exact⟨x,G,by simpa using h1,h2,h3⟩
 |som q r ih=>
  intro e;cases i with
  |zero=>simp at e; subst e; exact⟨_,_,rfl,q,λa h=>lL _ h⟩
  |succ i=>
   obtain⟨x,G,h1,h2,h3⟩:=ih (i:=i) (by simpa using e)
   exact⟨x,G,by simpa using h1,h2,λa h=>lR _ (h3 a h)⟩
theorem aK.take:∀{σ:L2.St}{ρ:Ev}{F:List Addr}{i:Nat}{m:M},aK K H Z σ ρ F->F.Nodup->ρ[i]? = some (some m) ->
  ∃x G F1,σ[i]? = some (some x)/\Ow K H Z x m G/\aK K H Z σ (ρ.set i none) F1/\(F1++G).Nodup/\∀a,a∈F1++G->a∈F:=by
 intro σ ρ F i m r
 induction r generalizing i with
 |nil=>intro _ e; simp at e
 |non r ih=>
  intro nd e;cases i with
  |zero=>simp at e
  |succ i=>
   obtain⟨x,G,F1,h1,h2,h3,h4,h5⟩:=ih (i:=i) nd (by simpa using e)
   exact⟨x,G,F1,by simpa using h1,h2,.non h3,h4,h5⟩
 |@som x0 m0 G0 σ ρ F q r ih=>
  intro nd e;have h:=C2.mp nd;cases i with
  |zero=>
   simp at e; subst e;exact⟨_,G0,F,rfl,q,.non r,C2.mpr ⟨h.2.1,h.1,λa x b y e=>h.2.2 b y a x e.symm⟩,λa h=>by
    rcases lM h with h | h
    ·exact lR _ h
    ·exact lL _ h⟩
  |succ i=>
   obtain⟨x,G,F1,h1,h2,h3,h4,h5⟩:=ih (i:=i) h.2.1 (by simpa using e)
   refine⟨x,G,G0++F1,by simpa using h1,h2,.som q h3,?_,λa z=>?_⟩
   ·rw[C8]
    exact C2.mpr ⟨h.1,h4,λa x b y e=>h.2.2 a x b (h5 b y) e⟩
   ·rw[C8] at z
    rcases lM z with z | z
    ·exact lL _ z
    ·exact lR _ (h5 a z)
theorem aK.drop:∀{σ:L2.St}{ρ:Ev}{F:List Addr}(i:Nat),aK K H Z σ ρ F->F.Nodup->∃F1,aK K H Z σ (ρ.set i none) F1/\F1.Nodup/\∀a∈F1,a∈F:=by
 intro σ ρ F i r
 induction r generalizing i with
 |nil=>exact λnd=>⟨_,.nil,nd,λ_ h=>h⟩
 |non r ih=>
  intro nd;cases i with
  |zero=>exact⟨_,.non r,nd,λ_ h=>h⟩
  |succ i=>
   obtain⟨F1,h1,h2,h3⟩:=ih i nd;exact⟨F1,.non h1,h2,h3⟩
 |@som x0 m0 G0 σ ρ F q r ih=>
  intro nd;have h:=C2.mp nd;cases i with
  |zero=>exact⟨_,.non r,h.2.1,λ_ h=>lR _ h⟩
  |succ i=>
   obtain⟨F1,h1,h2,h3⟩:=ih i h.2.1;refine⟨G0++F1,.som q h1,C2.mpr ⟨h.1,h2,λa x b y e=>h.2.2 a x b (h3 b y) e⟩,λa z=>?_⟩
   rcases lM z with z | z
   ·exact lL _ z
   ·exact lR _ (h3 a z)
theorem aK.put:∀{σ:L2.St}{ρ:Ev}{F:List Addr}{i:Nat}{x:V}{m:M}{G:List Addr},aK K H Z σ ρ F->Ow K H Z x m G->(F++G).Nodup->ρ[i]? = some none ->
  ∃F1,aK K H Z (σ.set i (some x)) (ρ.set i (some m)) F1/\F1.Nodup/\∀a∈F1,a∈F++G:=by
 intro σ ρ F i x m G r h
 induction r generalizing i with
 |nil=>intro _ e; simp at e
 |@non _ σ ρ F r ih=>
  intro nd e;cases i with
  |zero=>
   have h':=C2.mp nd;exact⟨G++F,.som h r,C2.mpr ⟨h'.2.1,h'.1,λa x b y e=>h'.2.2 b y a x e.symm⟩,λa h=>by
    rcases lM h with h | h
    ·exact lR _ h
    ·exact lL _ h⟩
  |succ i=>
   obtain⟨F1,h1,h2,h3⟩:=ih (i:=i) nd (by simpa using e)
   exact⟨F1,.non h1,h2,h3⟩
 |@som x0 m0 G0 σ ρ F q r ih=>
  intro nd e;cases i with
  |zero=>simp at e
  |succ i=>
   rw[C8] at nd;have h':=C2.mp nd;obtain⟨F1,h1,h2,h3⟩:=ih (i:=i) h'.2.1 (by simpa using e)
   refine⟨G0++F1,.som q h1,C2.mpr ⟨h'.1,h2,λa x b y e=>h'.2.2 a x b (h3 b y) e⟩,λa z=>?_⟩
   rw[C8];rcases lM z with z | z
   ·exact lL _ z
   ·exact lR _ (h3 a z)
end
inductive bY where
 |t (m:M)
 |p (i:Nat)
 |q (i:Nat) (k:Key)
noncomputable def bu{α:Type}(kvs:List (Key×α))(k:Key):Option α:=(kvs.find? λkv=>decide (kv.1=k)).map (·.2)
noncomputable def bG(ρ:Ev)(i:Nat):Option M:=match ρ[i]? with
 |some (some m)=>some m
 |_=>none
theorem aC{ρ:Ev}{i:Nat}{m:M}:bG ρ i=some m↔ρ[i]? = some (some m):=by
 unfold bG
 split
 ·next h=>rw[h]; simp
 ·next h=>
  exact⟨λe=>(nomatch e),λe=>(h m e).elim⟩
noncomputable def gU(ρ:Ev):bY->Option M
 |.t m=>some m
 |.p i=>bG ρ i
 |.q _ _=>none
noncomputable def peek(ρ:Ev):bY->Option M
 |.t m=>some m
 |.p i=>bG ρ i
 |.q i k=>match bG ρ i with
  |some (.bz kvs)=>(bu kvs k).map .lst
  |_=>none
noncomputable def gn(ρ:Ev):List bY->Option (List M)
 |[]=>some []
 |o::os=>(peek ρ o).bind λm=>(gn ρ os).bind λms=>some (m::ms)
theorem cS{ρ:Ev}{o:bY}{m:M}(h:gU ρ o=some m):peek ρ o=some m:=by
 cases o with
 |t _=>exact h
 |p _=>exact h
 |q _ _=>cases h
inductive jQ(K:AC)(H:Hp)(Z:Zs)(σ:L2.St):V->bY->List Addr->Prop
 |t {x:V} {m:M} {G:List Addr}:Ow K H Z x m G->jQ K H Z σ x (.t m) G
 |p {x:V} {i:Nat}:σ[i]? = some (some x)->jQ K H Z σ x (.p i) []
 |q {x:V} {i:Nat} {k:Key} {a:Addr} {kxs:List (Key×V)}:σ[i]? = some (some (.ref a))->H a=some (.dK kxs)->dS kxs k=some x->jQ K H Z σ x (.q i k) []
inductive gV(K:AC)(H:Hp)(Z:Zs)(σ:L2.St):List V->List bY->List Addr->Prop
 |nil:gV K H Z σ [] [] []
 |cons {x:V} {o:bY} {G:List Addr} {xs:List V} {os:List bY} {G':List Addr}:jQ K H Z σ x o G->gV K H Z σ xs os G'->gV K H Z σ (x::xs) (o::os) (G++G')
def Ro(K:AC)(H:Hp)(Z:Zs)(x:V)(m:M):Prop:=∃G,Ow K H Z x m G
def AX(K:AC)(H:Hp)(Z:Zs):List V->List M->Prop:=Dz (Ro K H Z)
section
variable{K:AC}{H H' H1 H2 H3:Hp}{Z Z' Z1 Z2 Z3:Zs}{F F' F1 F2 G:List Addr}{σ:L2.St}{ρ:Ev}
theorem fW.get:∀{kxs:List (Key×V)}{kvs:List (Key×List AT)}{G:List Addr}{k:Key}{ds:List AT},fW K H Z kxs kvs G->bu kvs k=some ds->∃b xs,dS kxs k=some (.ref b)/\H b=some (.lst xs)/\aZ K H Z xs ds/\b∈G:=by
 intro kxs kvs G k ds h
 induction h with
 |nil=>intro e; cases e
 |@cons k' b xs ds' kxs kvs G h f r ih=>
  intro e;unfold bu at e;rw[D0] at e;unfold dS;rw[D0]
  by_cases hk:k'=k
  ·simp only[hk,decide_true,EL] at e ⊢
   cases e;exact⟨b,_,rfl,h,f,lS⟩
  ·simp only[hk,decide_false] at e ⊢
   obtain⟨b',xs,h1,h2,h3,h4⟩:=ih e;exact⟨b',xs,h1,h2,h3,lO _ h4⟩
theorem jQ.peek{x:V}{o:bY}{m:M}(S:aK K H Z σ ρ F)(h:jQ K H Z σ x o G)(e:VL.peek ρ o=some m):Ro K H Z x m:=by
 cases h with
 |t q=>cases e; exact⟨_,q⟩
 |p q=>
  obtain⟨x',G',h1,h2,_⟩:=S.get (aC.mp e);rw[q] at h1; cases h1;exact⟨_,h2⟩
 |q h1 h2 h3=>
  rename_i i k a kxs
  have e:(match bG ρ i with
   |some (.bz kvs)=>(bu kvs k).map M.lst
   |_=>none)=some m:=e
  split at e
  ·next kvs hk=>
   obtain⟨x',G',q1,q2,_⟩:=S.get (aC.mp hk);rw[h1] at q1; cases q1;obtain⟨ds,e1,e2⟩:=D9.mp e;subst e2;cases q2 with
   |bz q3 q4=>
    rw[h2] at q3; cases q3;obtain⟨b,xs,z1,z2,z3,_⟩:=q4.get e1;rw[h3] at z1; cases z1;exact⟨_,.lst z2 z3⟩
  ·cases e
theorem gV.peek:∀{xs:List V}{os:List bY}{ms:List M}{G:List Addr},aK K H Z σ ρ F->gV K H Z σ xs os G->gn ρ os=some ms->AX K H Z xs ms:=by
 intro xs os ms G S h
 induction h generalizing ms with
 |nil=>intro e; cases e; exact .nil
 |cons h r ih=>
  intro e;obtain⟨m,h1,e⟩:=oB e;obtain⟨ms,h2,e⟩:=oB e;cases e;exact .cons (h.peek S h1) (ih h2)
theorem jQ.al{x:V}{o:bY}(h:jQ K H Z σ x o G):∀a∈G,H a≠none:=by
 cases h with
 |t q=>exact q.al
 |p _=>intro a h; simp at h
 |q _ _ _=>intro a h; simp at h
noncomputable def oM:bY->Bool
 |.q _ _=>false
 |_=>true
theorem cT{o:bY}{m:M}(h:gU ρ o=some m):oM o=true:=by
 cases o with
 |t _=>rfl
 |p _=>rfl
 |q _ _=>cases h
theorem jQ.mono{x:V}{o:bY}(h:jQ K H Z σ x o G)(hs:oM o=true)(g:aG H Z H' Z')(k:∀a∈G,∀o,H a=some o->H' a=some o):jQ K H' Z' σ x o G:=by
 cases h with
 |t q=>exact .t (q.mono g k)
 |p q=>exact .p q
 |q _ _ _=>cases hs
theorem aD.news(n:aD H Z [] H' Z' G)(w:Wf H Z F)(al:∀a∈F,H a≠none):aD H Z F H' Z' (F++G):=by
 have h:=n.frame (F:=[]) (G:=F) (by rw[DH]; exact w) al
 rw[DH] at h;exact h.swap
theorem aD.kH(n:aD H Z [] H' Z' G):aG H Z H' Z':=⟨n.tups,λa o _ e=>n.keep a o CZ e,n.zs⟩
theorem aK.news(S:aK K H Z σ ρ F)(n:aD H Z [] H' Z' G):aK K H' Z' σ ρ F:=S.mono (n.kH) λa _ o e=>n.keep a o (CZ) e
theorem aD.through{F2:List Addr}(f1:aD H Z F H1 Z1 (F1++G))(f2:aD H1 Z1 F1 H2 Z2 F2)(al:∀a∈G,H1 a≠none):aD H Z F H2 Z2 (F2++G):=f1.trans (f2.frame f1.wf al)
theorem aD.m9{F2:List Addr}(f1:aD H Z F H1 Z1 (F1++G))(f2:aD H1 Z1 F1 H2 Z2 F2):∀a∈G,∀o,H1 a=some o->H2 a=some o:=λa h o e=>
 f2.keep a o (λz=>(C2.mp f1.nd).2.2 a z a h rfl) e
theorem aD.assoc'{A B C:List Addr}(f:aD H Z F H' Z' (A++(B++C))):aD H Z F H' Z' ((A++B)++C):=by rw[C8]; exact f
theorem aD.zD{A B C:List Addr}(f:aD H Z F H' Z' ((A++B)++C)):aD H Z F H' Z' (A++(C++B)):=f.sub (by
  have h:=C2.mp f.nd;have h':=C2.mp h.1;refine C2.mpr ⟨h'.1,C2.mpr ⟨h.2.1,h'.2.1,λa x b y e=>h.2.2 b (lR _ y) a x e.symm⟩,λa x b y e=>?_⟩
  rcases lM y with y | y
  ·exact h.2.2 a (lL _ x) b y e
  ·exact h'.2.2 a x b y e) λa h=>by
  rcases lM h with h | h
  ·exact lL _ (lL _ h)
  rcases lM h with h | h
  ·exact lR _ h
  ·exact lL _ (lR _ h)
end
abbrev FE:=Ev->Option (bY×Ev)
abbrev FA:=Ev->Option (List bY×Ev)
abbrev FT:=Ev->Option (Bool×Ev)
inductive vE(K:AC)(f:FE)(σ:L2.St)(H:Hp)(Q:VK):Prop
 |mk (Z:Zs) (ρ:Ev) (F:List Addr) (o:bY) (ρ':Ev):aK K H Z σ ρ F->Wf H Z F->f ρ=some (o,ρ')->(∀x H' Z' F' G,aK K H' Z' σ ρ' F'->jQ K H' Z' σ x o G->aD H Z F H' Z' (F'++G)->Q x H')->vE K f σ H Q
inductive vA(K:AC)(f:FA)(σ:L2.St)(H:Hp)(Q:List V->Hp->Prop):Prop
 |mk (Z:Zs) (ρ:Ev) (F:List Addr) (os:List bY) (ρ':Ev):aK K H Z σ ρ F->Wf H Z F->f ρ=some (os,ρ')->(∀xs H' Z' F' G,aK K H' Z' σ ρ' F'->gV K H' Z' σ xs os G->aD H Z F H' Z' (F'++G)->Q xs H')->vA K f σ H Q
inductive vT(K:AC)(f:FT)(σ:L2.St)(H:Hp)(Q:Bool->Hp->Prop):Prop
 |mk (Z:Zs) (ρ:Ev) (F:List Addr) (b:Bool) (ρ':Ev):aK K H Z σ ρ F->Wf H Z F->f ρ=some (b,ρ')->(∀H' Z' F',aK K H' Z' σ ρ' F'->aD H Z F H' Z' F'->Q b H')->vT K f σ H Q
section
variable{X:Cx}{e:Expr}
theorem aR{t t':TE}(h:PE X e t)(i:∀σ H Q,t' σ H Q->t σ H Q):PE X e t':=λpins s σ H Q I q=>h pins s σ H Q I (i σ H Q q)
theorem iA{t t':TT}(h:PT X e t)(i:∀σ H Q,t' σ H Q->t σ H Q):PT X e t':=λpins s σ H Q I q=>h pins s σ H Q I (i σ H Q q)
theorem tL{t t':TT}(h:PW X e t)(i:∀σ H Q,t' σ H Q->t σ H Q):PW X e t':=λwh pins s σ H Q I q=>h wh pins s σ H Q I (i σ H Q q)
theorem lP{es:List Expr}{t t':TA}(h:PA X es t)(i:∀σ H Q,t' σ H Q->t σ H Q):PA X es t':=λpos pins s σ H Q I q=>h pos pins s σ H Q I (i σ H Q q)
theorem oN{t u:TE}(h:PE X e t)(h':PE X e u):PE X e (λσ H Q=>t σ H Q\/u σ H Q):=λpins s σ H Q I q=>q.elim (h pins s σ H Q I) (h' pins s σ H Q I)
theorem lQ{t u:TT}(h:PT X e t)(h':PT X e u):PT X e (λσ H Q=>t σ H Q\/u σ H Q):=λpins s σ H Q I q=>q.elim (h pins s σ H Q I) (h' pins s σ H Q I)
abbrev VE(X:Cx)(e:Expr)(f:FE):Prop:=PE X e (vE X.K f)
abbrev VA(X:Cx)(es:List Expr)(f:FA):Prop:=PA X es (vA X.K f)
abbrev VT(X:Cx)(e:Expr)(f:FT):Prop:=PT X e (vT X.K f)
abbrev VW(X:Cx)(e:Expr)(f:FT):Prop:=PW X e (vT X.K f)
noncomputable def aa(i:Nat):FE:=λρ=>match bG ρ i with
 |some (.v d)=>some (.t (.v d),ρ)
 |some _=>some (.p i,ρ)
 |none=>none
theorem wC{i:Nat}(h:PE X e (cI i)):VE X e (aa i):=aR h λσ H Q hq=>by
 obtain⟨Z,ρ,F,o,ρ',S,w,e,q⟩:=hq;unfold aa at e;cases hm:bG ρ i with
 |none=>rw[hm] at e; cases e
 |some m=>
  obtain⟨x,G,h1,h2,h3⟩:=S.get (aC.mp hm);refine⟨x,h1,?_⟩;cases m with
  |v d=>
   rw[hm] at e; cases e;cases h2 with
   |v f=>exact q x H Z F [] S (.t (.v f)) (aD.refl w).nil
  |lst _=>rw[hm] at e; cases e; exact q x H Z F [] S (.p h1) (aD.refl w).nil
  |aI _=>rw[hm] at e; cases e; exact q x H Z F [] S (.p h1) (aD.refl w).nil
  |bz _=>rw[hm] at e; cases e; exact q x H Z F [] S (.p h1) (aD.refl w).nil
  |dtp _=>rw[hm] at e; cases e; exact q x H Z F [] S (.p h1) (aD.refl w).nil
  |lls _=>rw[hm] at e; cases e; exact q x H Z F [] S (.p h1) (aD.refl w).nil
  |dre _ _ _=>rw[hm] at e; cases e; exact q x H Z F [] S (.p h1) (aD.refl w).nil
theorem vv(i:Nat){x:Str}{pos:Pos}(hN:X.N[i]? = some x:=by rfl)(hv:xX X.env.scope x:=by first | exact CK rfl | exact E1 (CK rfl) | exact E1 (E1 rfl))(hd:(x == ("__debug__" : Str))=false:=by decide)
  (hcd:(x == ("__classdict__" : Str))=false:=by decide):VE X (.Name x pos) (aa i):=wC (nS hN hv hd hcd)
noncomputable def vC(d:AT):FE:=λρ=>some (.t (.v d),ρ)
theorem ve_c{v:V}{d:AT}(h:PE X e (tC v))(hd:∀H Z,Fz X.K H Z v d):VE X e (vC d):=aR h λσ H Q hq=>by
 obtain⟨Z,ρ,F,o,ρ',S,w,e,q⟩:=hq;cases e;exact q v H Z F [] S (.t (.v (hd H Z))) (aD.refl w).nil
theorem zE{i j pos}:VE X (.Constant (.int i) j pos) (vC (.int i)):=ve_c ig λ_ _=>.int i
theorem ve_bl{i j pos}:VE X (.Constant (.bool i) j pos) (vC (.bool i)):=ve_c pe_bl λ_ _=>.bl i
theorem zF{j pos}:VE X (.Constant .none j pos) (vC .none):=ve_c yz λ_ _=>.non
def yf(K:AC)(r:R2)(g:M->M->Option M):Prop:=∀H Z x y m1 m2 m Q,(∀a,Z a->H a≠none)->Ro K H Z x m1->Ro K H Z y m2->g m1 m2=some m->(∀z H' Z' G,Ow K H' Z' z m G->aD H Z [] H' Z' G->Q z H')->r x y H Q
noncomputable def vB(g:M->M->Option M)(fa fb:FE):FE:=λρ=>(fa ρ).bind λp=>(fb p.2).bind λq=>(gU q.2 p.1).bind λm1=>(peek q.2 q.1).bind λm2=>(g m1 m2).bind λm=>some (.t m,q.2)
theorem two{fa fb:FE}{g:M->M->Option M}{r:R2}{σ:L2.St}{H:Hp}{Q:VK}(hr:yf X.K r g)(hq:vE X.K (vB g fa fb) σ H Q):vH r (vE X.K fa) (vE X.K fb) σ H Q:=by
 obtain⟨Z,ρ,F,o,ρ',S,w,e,q⟩:=hq;obtain⟨⟨o1,ρ1⟩,e1,e⟩:=oB e;obtain⟨⟨o2,ρ2⟩,e2,e⟩:=oB e;obtain⟨m1,e3,e⟩:=oB e;obtain⟨m2,e4,e⟩:=oB e;obtain⟨m,e5,e⟩:=oB e;cases e;refine⟨Z,ρ,F,o1,ρ1,S,w,e1,λx H1 Z1 F1 G1 S1 O1 f1=>⟨Z1,ρ1,F1,o2,ρ2,S1,f1.left.wf,e2,λy H2 Z2 F2 G2 S2 O2 f2=>?_⟩⟩
 have O1':=O1.mono (cT e3) (f2.grow f1.left.wf) (f1.m9 f2);refine hr H2 Z2 x y m1 m2 m Q f2.za (O1'.peek S2 (cS e3)) (O2.peek S2 e4) e5 λz H3 Z3 G h3 n=>?_
 exact q z H3 Z3 F2 G (S2.news n) (.t h3) ((f1.left.trans f2.left).trans (n.news f2.left.wf S2.al))
theorem ve_op{op:Fm}{a b:Expr}{pos:Pos}{r:R2}{g:M->M->Option M}{fa fb:FE}(hr:yf X.K r g)(ho:cH X (Cz op) r)(ha:VE X a fa)(hb:VE X b fb):VE X (.BinOp a op b pos) (vB g fa fb):=aR (pe_op ho ha hb) λ_ _ _=>two hr
theorem zG{op:CmpOp}{a b:Expr}{pos:Pos}{r:R2}{g:M->M->Option M}{fa fb:FE}(hr:yf X.K r g)(ho:cH X (CN op) r)(ha:VE X a fa)(hb:VE X b fb)(hm:D7 op b=false):VE X (.Compare a [op] [b] pos) (vB g fa fb):=aR (k8 ho ha hb hm) λ_ _ _=>two hr
def Ck(K:AC)(r:V->Hp->VK->Prop)(g:M->Option M):Prop:=∀H Z x m1 m Q,(∀a,Z a->H a≠none)->Ro K H Z x m1->g m1=some m->(∀z H' Z' G,Ow K H' Z' z m G->aD H Z [] H' Z' G->Q z H')->r x H Q
noncomputable def vU(g:M->Option M)(fa:FE):FE:=λρ=>(fa ρ).bind λp=>(peek p.2 p.1).bind λm1=>(g m1).bind λm=>some (.t m,p.2)
theorem one{fa:FE}{g:M->Option M}{r:V->Hp->VK->Prop}{σ:L2.St}{H:Hp}{Q:VK}(hr:Ck X.K r g)(hq:vE X.K (vU g fa) σ H Q):vE X.K fa σ H λx H1=>r x H1 Q:=by
 obtain⟨Z,ρ,F,o,ρ',S,w,e,q⟩:=hq;obtain⟨⟨o1,ρ1⟩,e1,e⟩:=oB e;obtain⟨m1,e3,e⟩:=oB e;obtain⟨m,e5,e⟩:=oB e;cases e;refine⟨Z,ρ,F,o1,ρ1,S,w,e1,λx H1 Z1 F1 G1 S1 O1 f1=>?_⟩
 refine hr H1 Z1 x m1 m Q f1.za (O1.peek S1 e3) e5 λz H3 Z3 G h3 n=>?_
 exact q z H3 Z3 F1 G (S1.news n) (.t h3) (f1.left.trans (n.news f1.left.wf S1.al))
noncomputable def iI:FA:=λρ=>some ([],ρ)
noncomputable def ai(fa:FE):FA:=λρ=>(fa ρ).bind λp=>some ([p.1],p.2)
noncomputable def ak(fa:FE)(fr:FA):FA:=λρ=>(fa ρ).bind λp=>(fr p.2).bind λq=>if oM p.1=true then some (p.1::q.1,q.2) else none
theorem zH:VA X [] iI:=lP fB λσ H Q hq=>by
 obtain⟨Z,ρ,F,o,ρ',S,w,e,q⟩:=hq;cases e;exact q [] H Z F [] S .nil (aD.refl w).nil
theorem zI{a:Expr}{fa:FE}(ha:VE X a fa)(hs:C9 [a] X.env=[(false,eval a X.env)]:=by rfl):VA X [a] (ai fa):=lP (dH ha fB hs) λσ H Q hq=>by
 obtain⟨Z,ρ,F,o,ρ',S,w,e,q⟩:=hq;obtain⟨⟨o1,ρ1⟩,e1,e⟩:=oB e;cases e;refine⟨Z,ρ,F,o1,ρ1,S,w,e1,λx H1 Z1 F1 G1 S1 O1 f1=>?_⟩
 exact q [x] H1 Z1 F1 (G1++[]) S1 (.cons O1 .nil) (by rw[Bn]; exact f1)
theorem wF{a:Expr}{as:List Expr}{fa:FE}{fr:FA}(ha:VE X a fa)(hr:VA X as fr)(hs:C9 (a::as) X.env=(false,eval a X.env)::C9 as X.env:=by rfl):VA X (a::as) (ak fa fr):=lP (dH ha hr hs) λσ H Q hq=>by
 obtain⟨Z,ρ,F,o,ρ',S,w,e,q⟩:=hq;obtain⟨⟨o1,ρ1⟩,e1,e⟩:=oB e;obtain⟨⟨os,ρ2⟩,e2,e⟩:=oB e
 by_cases hs:oM o1=true
 ·rw[if_pos hs] at e
  cases e;refine⟨Z,ρ,F,o1,ρ1,S,w,e1,λx H1 Z1 F1 G1 S1 O1 f1=>⟨Z1,ρ1,F1,os,ρ2,S1,f1.left.wf,e2,λxs H2 Z2 F2 G2 S2 O2 f2=>?_⟩⟩
  exact q (x::xs) H2 Z2 F2 (G1++G2) S2 (.cons (O1.mono hs (f2.grow f1.left.wf) (f1.m9 f2)) O2) (f1.through f2 O1.al).zD
 ·rw[if_neg hs] at e; cases e
def B9(K:AC)(r:List V->Hp->VK->Prop)(g:List M->Option M):Prop:=∀H Z xs ms m Q,(∀a,Z a->H a≠none)->AX K H Z xs ms->g ms=some m->(∀z H' Z' G,Ow K H' Z' z m G->aD H Z [] H' Z' G->Q z H')->r xs H Q
noncomputable def dY(g:List M->Option M)(fa:FA):FE:=λρ=>(fa ρ).bind λp=>(gn p.2 p.1).bind λms=>(g ms).bind λm=>some (.t m,p.2)
theorem many{fa:FA}{g:List M->Option M}{r:List V->Hp->VK->Prop}{σ:L2.St}{H:Hp}{Q:VK}(hr:B9 X.K r g)(hq:vE X.K (dY g fa) σ H Q):BQ r (vA X.K fa) σ H Q:=by
 obtain⟨Z,ρ,F,o,ρ',S,w,e,q⟩:=hq;obtain⟨⟨os,ρ1⟩,e1,e⟩:=oB e;obtain⟨ms,e3,e⟩:=oB e;obtain⟨m,e5,e⟩:=oB e;cases e;refine⟨Z,ρ,F,os,ρ1,S,w,e1,λxs H1 Z1 F1 G1 S1 O1 f1=>?_⟩
 refine hr H1 Z1 xs ms m Q f1.za (O1.peek S1 e3) e5 λz H3 Z3 G h3 n=>?_
 exact q z H3 Z3 F1 G (S1.news n) (.t h3) (f1.left.trans (n.news f1.left.wf S1.al))
noncomputable def BU:M->Option Bool
 |.v (.bool b)=>some b
 |_=>none
noncomputable def aL(f:FE):FT:=λρ=>(f ρ).bind λp=>(peek p.2 p.1).bind λm=>(BU m).bind λb=>some (b,p.2)
theorem Bo{f:FE}{σ:L2.St}{H:Hp}{Q:Bool->Hp->Prop}(hq:vT X.K (aL f) σ H Q):vE X.K f σ H λx H1=>∃c,x=.bl c/\Q c H1:=by
 obtain⟨Z,ρ,F,b,ρ',S,w,e,q⟩:=hq;obtain⟨⟨o1,ρ1⟩,e1,e⟩:=oB e;obtain⟨m,e2,e⟩:=oB e;obtain⟨b',e3,e⟩:=oB e;cases e;refine⟨Z,ρ,F,o1,ρ1,S,w,e1,λx H1 Z1 F1 G1 S1 O1 f1=>?_⟩
 obtain⟨G,h⟩:=O1.peek S1 e2;cases h with
 |v f=>
  cases f with
  |bl c=>cases e3; exact⟨_,rfl,q H1 Z1 F1 S1 f1.left⟩
  |_=>cases e3
 |_=>cases e3
theorem zJ{op:CmpOp}{a b:Expr}{pos:Pos}{r:R2}{g:M->M->Option M}{fa fb:FE}(hr:yf X.K r g)(ho:cH X (CN op) r)(ha:VE X a fa)(hb:VE X b fb)(hm:D7 op b=false):VT X (.Compare a [op] [b] pos) (aL (vB g fa fb)):=by
 refine iA (fT ho ha hb hm) λσ H Q hq=>?_
 exact two hr (Bo hq)
noncomputable def nc(f:FT):FT:=λρ=>(f ρ).bind λp=>some (!p.1,p.2)
noncomputable def ff(f g:FT):FT:=λρ=>(f ρ).bind λp=>if p.1=true then g p.2 else some (false,p.2)
noncomputable def AY(f g:FT):FT:=λρ=>(f ρ).bind λp=>if p.1=true then some (true,p.2) else g p.2
theorem not_imp{f:FT}{σ:L2.St}{H:Hp}{Q:Bool->Hp->Prop}(hq:vT X.K (nc f) σ H Q):tNot (vT X.K f) σ H Q:=by
 obtain⟨Z,ρ,F,b,ρ',S,w,e,q⟩:=hq;obtain⟨⟨o1,ρ1⟩,e1,e⟩:=oB e;cases e;exact⟨Z,ρ,F,o1,ρ1,S,w,e1,q⟩
theorem and_imp{f g:FT}{σ:L2.St}{H:Hp}{Q:Bool->Hp->Prop}(hq:vT X.K (ff f g) σ H Q):tAnd (vT X.K f) (vT X.K g) σ H Q:=by
 obtain⟨Z,ρ,F,b,ρ',S,w,e,q⟩:=hq;obtain⟨⟨o1,ρ1⟩,e1,e⟩:=oB e;refine⟨Z,ρ,F,o1,ρ1,S,w,e1,λH1 Z1 F1 S1 f1=>?_⟩
 cases o1 with
 |true=>exact⟨Z1,ρ1,F1,b,ρ',S1,f1.wf,e,λH2 Z2 F2 S2 f2=>q H2 Z2 F2 S2 (f1.trans f2)⟩
 |false=>cases e; exact q H1 Z1 F1 S1 f1
theorem or_imp{f g:FT}{σ:L2.St}{H:Hp}{Q:Bool->Hp->Prop}(hq:vT X.K (AY f g) σ H Q):B3 (vT X.K f) (vT X.K g) σ H Q:=by
 obtain⟨Z,ρ,F,b,ρ',S,w,e,q⟩:=hq;obtain⟨⟨o1,ρ1⟩,e1,e⟩:=oB e;refine⟨Z,ρ,F,o1,ρ1,S,w,e1,λH1 Z1 F1 S1 f1=>?_⟩
 cases o1 with
 |false=>exact⟨Z1,ρ1,F1,b,ρ',S1,f1.wf,e,λH2 Z2 F2 S2 f2=>q H2 Z2 F2 S2 (f1.trans f2)⟩
 |true=>cases e; exact q H1 Z1 F1 S1 f1
theorem zK{a:Expr}{pos:Pos}{f:FT}(h:VT X a f):VT X (.UnaryOp .Not a pos) (nc f):=iA (yF h) λ_ _ _=>not_imp
theorem wG{a:Expr}{pos:Pos}{f:FT}(h:VT X a f):VW X (.BoolOp .And [a] pos) f:=vo h
theorem zL{a:Expr}{pos:Pos}{f:FT}(h:VT X a f):VW X (.BoolOp .Or [a] pos) f:=yD h
theorem zM{a b:Expr}{rest:List Expr}{pos:Pos}{f g:FT}(h:VT X a f)(h':VW X (.BoolOp .And (b::rest) pos) g):VW X (.BoolOp .And (a::b::rest) pos) (ff f g):=tL (yE h h') λ_ _ _=>and_imp
theorem vw_or{a b:Expr}{rest:List Expr}{pos:Pos}{f g:FT}(h:VT X a f)(h':VW X (.BoolOp .Or (b::rest) pos) g):VW X (.BoolOp .Or (a::b::rest) pos) (AY f g):=tL (pw_or h h') λ_ _ _=>or_imp
noncomputable def p7(fa fb:FE):FE:=λρ=>(aL fa ρ).bind λp=>if p.1=true then fb p.2 else some (.t (.v (.bool false)),p.2)
theorem zN{a b:Expr}{rest:List Expr}{pos:Pos}{fa fb:FE}(ha:VE X a fa)(hb:VE X (.BoolOp .And (b::rest) pos) fb):VE X (.BoolOp .And (a::b::rest) pos) (p7 fa fb):=aR (yH ha hb) λσ H Q hq=>by
 obtain⟨Z,ρ,F,o,ρ',S,w,e,q⟩:=hq;obtain⟨⟨b1,ρ1⟩,e1,e⟩:=oB e;refine Bo ⟨Z,ρ,F,b1,ρ1,S,w,e1,λH1 Z1 F1 S1 f1=>?_⟩
 cases b1 with
 |true=>exact iteT ⟨Z1,ρ1,F1,o,ρ',S1,f1.wf,e,λx H2 Z2 F2 G S2 O f2=>q x H2 Z2 F2 G S2 O (f1.trans f2)⟩
 |false=>cases e; exact iteF (q (.bl false) H1 Z1 F1 [] S1 (.t (.v (.bl false))) f1.nil)
theorem zO{op a}{pos:Pos}{f:FE}(h:VE X a f):VE X (.BoolOp op [a] pos) f:=yG h
end
noncomputable def lim:Nat:=1000000
theorem fH{n:Nat}(h:n<=lim):n<=C7:=DB h (by decide)
theorem gA{n:Nat}(h:n<=lim):n<C7:=Nat.lt_of_le_of_lt h (by decide)
inductive rM(K:AC)(g:M->M->Option M)(x:V)(y:V)(H:Hp)(Q:VK):Prop
 |mk (Z:Zs) (m1 m2 m:M):(∀a,Z a->H a≠none)->Ro K H Z x m1->Ro K H Z y m2->g m1 m2=some m->(∀z H' Z' G,Ow K H' Z' z m G->aD H Z [] H' Z' G->Q z H')->rM K g x y H Q
theorem rM_v{K:AC}{g:M->M->Option M}:yf K (rM K g) g:=λH Z x y m1 m2 m Q za h1 h2 e q=>⟨Z,m1,m2,m,za,h1,h2,e,q⟩
inductive q9(K:AC)(g:List M->Option M)(xs:List V)(H:Hp)(Q:VK):Prop
 |mk (Z:Zs) (ms:List M) (m:M):(∀a,Z a->H a≠none)->AX K H Z xs ms->g ms=some m->(∀z H' Z' G,Ow K H' Z' z m G->aD H Z [] H' Z' G->Q z H')->q9 K g xs H Q
theorem yg{K:AC}{g:List M->Option M}:B9 K (q9 K g) g:=λH Z xs ms m Q za h1 e q=>⟨Z,ms,m,za,h1,e,q⟩
section
variable{K:AC}{H H':Hp}{Z:Zs}{x:V}{Q:VK}
theorem Ro.fz{d:AT}(h:Ro K H Z x (.v d)):Fz K H Z x d:=by
 obtain⟨G,h⟩:=h;cases h with
 |v f=>exact f
theorem Ro.int{i:Int}(h:Ro K H Z x (.v (.int i))):x=.int i:=h.fz.int_inv
theorem Ro.bl{i:Bool}(h:Ro K H Z x (.v (.bool i))):x=.bl i:=h.fz.oK
theorem Ro.str{i:Str}(h:Ro K H Z x (.v (.str i))):x=.str i:=h.fz.str_inv
theorem Ro.lst{ds:List AT}(h:Ro K H Z x (.lst ds)):∃a xs,x=.ref a/\H a=some (.lst xs)/\aZ K H Z xs ds:=by
 obtain⟨G,h⟩:=h;cases h with
 |lst e f=>exact⟨_,_,rfl,e,f⟩
theorem Ro.aI{ds:List (Key×AT)}(h:Ro K H Z x (.aI ds)):∃a xs,x=.ref a/\H a=some (.dK xs)/\eK K H Z xs ds:=by
 obtain⟨G,h⟩:=h;cases h with
 |aI e f=>exact⟨_,_,rfl,e,f⟩
theorem Ro.bz{ds:List (Key×List AT)}(h:Ro K H Z x (.bz ds)):∃a xs G,x=.ref a/\H a=some (.dK xs)/\fW K H Z xs ds G:=by
 obtain⟨G,h⟩:=h;cases h with
 |bz e f=>exact⟨_,_,_,rfl,e,f⟩
theorem Ro.tup{ds:List AT}(h:Ro K H Z x (.v (.tuple ds))):∃a xs,x=.ref a/\dg K H a xs/\aZ K H Z xs ds:=h.fz.eS
noncomputable def iO:M->Option (List AT)
 |.lst ds=>some ds
 |.v (.list ds)=>some ds
 |_=>none
noncomputable def rf:M->Option (List AT)
 |.v (.tuple ds)=>some ds
 |_=>none
noncomputable def seq:M->Option (List AT)
 |.lst ds=>some ds
 |.v (.list ds)=>some ds
 |.v (.tuple ds)=>some ds
 |_=>none
theorem Ro.iO{m:M}{ds:List AT}(h:Ro K H Z x m)(e:VL.iO m=some ds):∃a xs,x=.ref a/\eF K H a xs/\aZ K H Z xs ds:=by
 unfold VL.iO at e
 split at e
 ·cases e
  obtain⟨a,xs,e1,e2,e3⟩:=h.lst;exact⟨a,xs,e1,.of e2,e3⟩
 ·cases e
  obtain⟨a,xs,e1,e2,e3⟩:=h.fz.lst_inv;exact⟨a,xs,e1,e2,e3⟩
 ·cases e
theorem Ro.rf{m:M}{ds:List AT}(h:Ro K H Z x m)(e:VL.rf m=some ds):∃a xs,x=.ref a/\dg K H a xs/\aZ K H Z xs ds:=by
 unfold VL.rf at e
 split at e
 ·cases e
  exact h.tup
 ·cases e
theorem Ro.seq{m:M}{ds:List AT}(h:Ro K H Z x m)(e:VL.seq m=some ds):∃a xs,x=.ref a/\(eF K H a xs\/dg K H a xs)/\aZ K H Z xs ds:=by
 unfold VL.seq at e
 split at e
 ·cases e
  obtain⟨a,xs,e1,e2,e3⟩:=h.lst;exact⟨a,xs,e1,.inl (.of e2),e3⟩
 ·cases e
  obtain⟨a,xs,e1,e2,e3⟩:=h.fz.lst_inv;exact⟨a,xs,e1,.inl e2,e3⟩
 ·cases e
  obtain⟨a,xs,e1,e2,e3⟩:=h.tup;exact⟨a,xs,e1,.inr e2,e3⟩
 ·cases e
theorem aD.same(s:dw H H')(za:∀a,Z a->H a≠none):aD H Z [] H' Z []:=⟨λa o _ e=>s a o e,s.tups,λ_ h=>h,λ_ h=>.inl h,λ_ h=>(nomatch h),Dj,λ_ h=>(nomatch h),λa z e=>za a z (s.free e)⟩
theorem aD.ng{p:Addr}{o:HO}(hp:H p=none)(za:∀a,Z a->H a≠none):aD H Z [] (upd H p o) Z [p]:=by
 have s:=cW hp o;exact⟨λa o _ e=>s a o e,s.tups,λ_ h=>h,λ_ h=>.inl h,λa h=>.inr (by rw[B1] at h; subst h; exact hp),CJ.mpr ⟨CZ,Dj⟩,λa h z=>by rw[B1] at h; subst h; exact za _ z hp,λa z e=>za a z (s.free e)⟩
theorem aG.same(s:dw H H'):aG H Z H' Z:=⟨s.tups,λa o _ e=>s a o e,λ_ h=>h⟩
theorem bQ{z:V}{d:AT}(q:∀z H' Z' G,Ow K H' Z' z (.v d) G->aD H Z [] H' Z' G->Q z H')(za:∀a,Z a->H a≠none)(h:Fz K H Z z d):Q z H:=q z H Z [] (.v h) (aD.same (dw.refl H) za)
theorem endS{z:V}{d:AT}(q:∀z H' Z' G,Ow K H' Z' z (.v d) G->aD H Z [] H' Z' G->Q z H')(za:∀a,Z a->H a≠none)(s:dw H H')(h:Fz K H' Z z d):Q z H':=q z H' Z [] (.v h) (aD.same s za)
theorem endT{p:Addr}{xs:List V}{ds:List AT}(q:∀z H' Z' G,Ow K H' Z' z (.v (.tuple ds)) G->aD H Z [] H' Z' G->Q z H')(za:∀a,Z a->H a≠none)(hp:H p=none)(h:aZ K H Z xs ds):Q (.ref p) (upd H p (.tup xs)) :=
 endS q za (cW hp _) (.tup (dg.of ay) (h.mono (aG.same (cW hp _))))
theorem rg{p:Addr}{xs:List V}{ds:List AT}(q:∀z H' Z' G,Ow K H' Z' z (.lst ds) G->aD H Z [] H' Z' G->Q z H')(za:∀a,Z a->H a≠none)(hp:H p=none)(h:aZ K H Z xs ds):Q (.ref p) (upd H p (.lst xs)) :=
 q (.ref p) (upd H p (.lst xs)) Z [p] (.lst ay (h.mono (aG.same (cW hp _)))) (aD.ng hp za)
end
noncomputable def cY:M->M->Option M
 |.v (.int i),.v (.int j)=>some (.v (.int (i+j)))
 |.v (.tuple a),.v (.tuple b)=>if a.length+b.length<=lim then some (.v (.tuple (a++b))) else none
 |.lst a,.lst b=>if a.length+b.length<=lim then some (.lst (a++b)) else none
 |.v (.str a),.v (.str b)=>if a.length+b.length<=lim then some (.v (.str (a++b))) else none
 |_,_=>none
noncomputable def eg(C:Int->Int->Bool)(g:Int->Int->AT):M->M->Option M
 |.v (.int i),.v (.int j)=>if C i j=true then some (.v (g i j)) else none
 |_,_=>none
section
variable{X:Cx}
theorem cO:cH X (Cz .Add) (rM X.K cY):=by
 intro pins s σ H x y v u Q I rx ry h;obtain⟨Z,m1,m2,m,za,h1,h2,e,q⟩:=h;unfold cY at e
 split at e
 ·cases e
  obtain rfl:=h1.int; obtain rfl:=h2.int;exact yQ pins s σ H _ _ v u Q I rx ry ⟨_,_,rfl,rfl,bQ q za (.int _)⟩
 ·split at e
  ·next hl=>
   cases e;obtain⟨a,xs,rfl,e2,e3⟩:=h1.tup;obtain⟨b,ys,rfl,e5,e6⟩:=h2.tup;exact wu pins s σ H _ _ v u Q I rx ry ⟨a,b,xs,ys,rfl,rfl,e2,e5,fH (by rw[e3.length,e6.length]; exact hl),λr H' s' t=>endS q za s' (.tup t ((e3.append e6).mono (aG.same s')))⟩
  ·cases e
 ·split at e
  ·next hl=>
   cases e;obtain⟨a,xs,rfl,e2,e3⟩:=h1.lst;obtain⟨b,ys,rfl,e5,e6⟩:=h2.lst;exact zl pins s σ H _ _ v u Q I rx ry ⟨a,b,xs,ys,rfl,rfl,e2,e5,fH (by rw[e3.length,e6.length]; exact hl),λp hp=>rg q za hp (e3.append e6)⟩
  ·cases e
 ·split at e
  ·next hl=>
   cases e;obtain rfl:=h1.str; obtain rfl:=h2.str;exact nY pins s σ H _ _ v u Q I rx ry ⟨_,_,rfl,rfl,fH hl,bQ q za (.str _)⟩
  ·cases e
 ·cases e
theorem gB{f:Value->Value->Sem Value}{C:Int->Int->Bool}{P:Int->Int->Prop}{g:Int->Int->AT}{gv:Int->Int->V}(ho:cH X f (rI P gv))(hc:∀i j,C i j=true->P i j)(hg:∀H Z i j,Fz X.K H Z (gv i j) (g i j)):cH X f (rM X.K (eg C g)):=by
 intro pins s σ H x y v u Q I rx ry h;obtain⟨Z,m1,m2,m,za,h1,h2,e,q⟩:=h;unfold eg at e
 split at e
 ·split at e
  ·next hl=>
   cases e;obtain rfl:=h1.int; obtain rfl:=h2.int;exact ho pins s σ H _ _ v u Q I rx ry ⟨_,_,rfl,rfl,hc _ _ hl,bQ q za (hg H Z _ _)⟩
  ·cases e
 ·cases e
theorem iW{f:Value->Value->Sem Value}{g:Int->Int->AT}{gv:Int->Int->V}(ho:cH X f (vd gv))(hg:∀H Z i j,Fz X.K H Z (gv i j) (g i j)):cH X f (rM X.K (eg (λ_ _=>true) g)):=by
 intro pins s σ H x y v u Q I rx ry h;obtain⟨Z,m1,m2,m,za,h1,h2,e,q⟩:=h;unfold eg at e
 split at e
 ·split at e
  ·next hl=>
   cases e;obtain rfl:=h1.int; obtain rfl:=h2.int;exact ho pins s σ H _ _ v u Q I rx ry ⟨_,_,rfl,rfl,bQ q za (hg H Z _ _)⟩
  ·cases e
 ·cases e
noncomputable def nh:=eg (λ_ _=>true) λi j=>.int (i-j)
noncomputable def mulM:=eg (λi j=>decide ((-(2 ^ 64)<i/\i<2 ^ 64)\/(-(2 ^ 64)<j/\j<2 ^ 64))) λi j=>.int (i*j)
noncomputable def ni:=eg (λ_ j=>decide (0<j/\j<1073741824)) λi j=>.int (i / j)
noncomputable def gc:=eg (λ_ j=>decide (0<j)) λi j=>.int (i % j)
noncomputable def jw:=eg (λi j=>decide (0<=j/\(CY i:Int)*j<=2 ^ 27)) λi j=>.int (i ^ j.toNat)
noncomputable def shlM:=eg (λi j=>decide (0<=j/\j<=1000000/\i.natAbs<2 ^ 64)) λi j=>.int (i*2 ^ j.toNat)
noncomputable def shrM:=eg (λ_ j=>decide (0<=j)) λi j=>.int (i / 2 ^ j.toNat)
noncomputable def p8:=eg (λ_ _=>true) λi j=>.int (Eu i j)
theorem oO:cH X (Cz .Sub) (rM X.K nh):=iW yR λ_ _ _ _=>.int _
theorem eT:cH X (Cz .Mult) (rM X.K mulM):=gB yS (λi j h=>by have h:=of_decide_eq_true h; exact h) λ_ _ _ _=>.int _
theorem lT:cH X (Cz .FloorDiv) (rM X.K ni):=gB vJ (λi j h=>by have h:=of_decide_eq_true h; exact h) λ_ _ _ _=>.int _
theorem eU:cH X (Cz .Mod) (rM X.K gc):=gB yT (λ_ _ h=>of_decide_eq_true h) λ_ _ _ _=>.int _
theorem iB:cH X (Cz .Pow) (rM X.K jw):=gB wm (λ_ _ h=>of_decide_eq_true h) λ_ _ _ _=>.int _
theorem zP:cH X (Cz .LShift) (rM X.K shlM):=gB yU (λi j h=>by have h:=of_decide_eq_true h; exact h) λ_ _ _ _=>.int _
theorem zQ:cH X (Cz .RShift) (rM X.K shrM):=gB yV (λ_ _ h=>of_decide_eq_true h) λ_ _ _ _=>.int _
theorem wH:cH X (Cz .BitAnd) (rM X.K p8):=iW yW λ_ _ _ _=>.int _
noncomputable def wI:M->Option AT
 |.v d=>some d
 |.lst ds=>some (.list ds)
 |_=>none
theorem Ro.reads{pins:List (Addr×Obj)}{σ:L2.St}{H:Hp}{s:At}{Z:Zs}{x:V}{m:M}{d:AT}{u:Value}(I:Inv X pins σ H s)(h:Ro X.K H Z x m)(e:wI m=some d)(c:d.canLay0=true)(r:RelV x u):∃as,Reads s.heap u d as:=by
 unfold wI at e
 split at e
 ·cases e; exact h.fz.reads I c r
 ·cases e
  obtain⟨a,xs,rfl,e2,e3⟩:=h.lst;cases r;obtain⟨its,rv,⟨o,n,ho,hc,hdd,hd⟩,_⟩:=I.list (eF.of e2);obtain⟨as,h⟩:=e3.reads I c rv;exact⟨_,.list ho hc hd (by simpa using h)⟩
 ·cases e
noncomputable def rj(d e:AT):Bool:=d.canLay0 && e.canLay0 && decide (min d.depth e.depth<=60)
noncomputable def gK(neg:Bool)(m1 m2:M):Option M:=(wI m1).bind λd=>(wI m2).bind λe=>if rj d e=true then some (.v (.bool (if neg then !PyData.eqv d e else DK d e))) else none
theorem p9(hu:X.A.units+64<cLine):cH X (CN .Eq) (rM X.K (gK false)):=by
 intro pins s σ H x y v u Q I rx ry h;obtain⟨Z,m1,m2,m,za,h1,h2,e,q⟩:=h;obtain⟨d,e1,e⟩:=oB e;obtain⟨d',e2,e⟩:=oB e
 split at e
 ·next ok=>
  cases e;unfold rj at ok;simp only[DA,decide_eq_true_eq] at ok;obtain⟨as,r1⟩:=h1.reads I e1 ok.1.1 rx;obtain⟨bs,r2⟩:=h2.reads I e2 ok.1.2 ry;exact SeqAt.compareEq_reads r1 r2 ok.1.1 ok.1.2 (by have:=ok.2; lia) ⟨.bl _,H,I,rfl,bQ q za (.bl _)⟩
 ·cases e
theorem nj(hu:X.A.units+64<cLine):cH X (CN .NotEq) (rM X.K (gK true)):=by
 intro pins s σ H x y v u Q I rx ry h;obtain⟨Z,m1,m2,m,za,h1,h2,e,q⟩:=h;obtain⟨d,e1,e⟩:=oB e;obtain⟨d',e2,e⟩:=oB e
 split at e
 ·next ok=>
  cases e;unfold rj at ok;simp only[DA,decide_eq_true_eq] at ok;obtain⟨as,r1⟩:=h1.reads I e1 ok.1.1 rx;obtain⟨bs,r2⟩:=h2.reads I e2 ok.1.2 ry;exact SeqAt.compareNe_reads r1 r2 ok.1.1 ok.1.2 (by have:=ok.2; lia) ⟨.bl _,H,I,rfl,bQ q za (.bl _)⟩
 ·cases e
noncomputable def Cm:AT->Option Int
 |.int i=>some i
 |_=>none
noncomputable def fj:List AT->Option (List Int)
 |[]=>some []
 |d::ds=>(Cm d).bind λi=>(fj ds).bind λis=>some (i::is)
theorem bV:∀{ds:List AT}{is:List Int},fj ds=some is->ds=is.map .int:=by
 intro ds
 induction ds with
 |nil=>
  intro _ e;cases e; rfl
 |cons d ds ih=>
  intro _ e;obtain⟨i,e1,e⟩:=oB e;obtain⟨is,e2,e⟩:=oB e;cases e;rw[ih e2];cases d <;> cases e1
  rfl
theorem fX:∀(is:List Int),fj (is.map .int)=some is
 |[]=>rfl
 |i::is=>by show (some i).bind _=_; rw[DI,fX is]; rfl
noncomputable def rm(gi:Int->Int->Bool)(gt:List Int->List Int->Bool):M->M->Option M
 |.v (.int i),.v (.int j)=>some (.v (.bool (gi i j)))
 |.v (.tuple a),.v (.tuple b)=>(fj a).bind λis=>(fj b).bind λjs=>some (.v (.bool (gt is js)))
 |_,_=>none
theorem yh(hu:X.A.units+64<cLine):cH X (CN .Lt) (rM X.K (rm (λi j=>decide (i<j)) HT.lexLt)):=by
 intro pins s σ H x y v u Q I rx ry h;obtain⟨Z,m1,m2,m,za,h1,h2,e,q⟩:=h;unfold rm at e
 split at e
 ·cases e
  obtain rfl:=h1.int; obtain rfl:=h2.int;exact op_lt pins s σ H _ _ v u Q I rx ry ⟨_,_,rfl,rfl,bQ q za (.bl _)⟩
 ·obtain⟨is,e1,e⟩:=oB e
  obtain⟨js,e2,e⟩:=oB e;cases e;obtain⟨a,xs,rfl,t1,f1⟩:=h1.tup;obtain⟨b,ys,rfl,t2,f2⟩:=h2.tup;rw[bV e1] at f1;rw[bV e2] at f2;rw[f1.bU] at t1;rw[f2.bU] at t2;exact zf (by lia) pins s σ H _ _ v u Q I rx ry ⟨a,b,is,js,rfl,rfl,t1,t2,bQ q za (.bl _)⟩
 ·cases e
theorem ov_ge(hu:X.A.units+64<cLine):cH X (CN .GtE) (rM X.K (rm (λi j=>decide (j<=i)) λa b=> !HT.lexLt a b)):=by
 intro pins s σ H x y v u Q I rx ry h;obtain⟨Z,m1,m2,m,za,h1,h2,e,q⟩:=h;unfold rm at e
 split at e
 ·cases e
  obtain rfl:=h1.int; obtain rfl:=h2.int;exact op_ge pins s σ H _ _ v u Q I rx ry ⟨_,_,rfl,rfl,bQ q za (.bl _)⟩
 ·obtain⟨is,e1,e⟩:=oB e
  obtain⟨js,e2,e⟩:=oB e;cases e;obtain⟨a,xs,rfl,t1,f1⟩:=h1.tup;obtain⟨b,ys,rfl,t2,f2⟩:=h2.tup;rw[bV e1] at f1;rw[bV e2] at f2;rw[f1.bU] at t1;rw[f2.bU] at t2;exact zC (by lia) pins s σ H _ _ v u Q I rx ry ⟨a,b,is,js,rfl,rfl,t1,t2,bQ q za (.bl _)⟩
 ·cases e
noncomputable def vf:=eg (λ_ _=>true) λi j=>.bool (decide (i<=j))
noncomputable def BB:=eg (λ_ _=>true) λi j=>.bool (decide (j<i))
noncomputable def AZ:=rm (λi j=>decide (i<j)) HT.lexLt
noncomputable def BC:=rm (λi j=>decide (j<=i)) λa b=> !HT.lexLt a b
theorem qc:cH X (CN .LtE) (rM X.K vf):=iW op_le λ_ _ _ _=>.bl _
theorem ov_gt:cH X (CN .Gt) (rM X.K BB):=iW op_gt λ_ _ _ _=>.bl _
noncomputable def isNone:M->Bool
 |.v .none=>true
 |_=>false
theorem Ro.isNone{K:AC}{H:Hp}{Z:Zs}{x:V}{m:M}(h:Ro K H Z x m):decide (x=.non)=VL.isNone m:=by
 obtain⟨G,h⟩:=h;cases h with
 |v f=>cases f <;> rfl
 |lst _ _=>rfl
 |aI _ _=>rfl
 |bz _ _=>rfl
 |dtp _ _ _=>rfl
 |lls _ _=>rfl
 |dre _ _ _ _=>rfl
noncomputable def oQ(neg:Bool):M->M->Option M
 |m,.v .none=>some (.v (.bool (if neg then !isNone m else isNone m)))
 |.v (.bool a),.v (.bool b)=>if neg then some (.v (.bool (!(a == b)))) else none
 |_,_=>none
theorem ov_is:cH X (CN .Is) (rM X.K (oQ false)):=by
 intro pins s σ H x y v u Q I rx ry h;obtain⟨Z,m1,m2,m,za,h1,h2,e,q⟩:=h;unfold oQ at e
 split at e
 ·cases e
  obtain rfl:=h2.fz.p6;exact yY pins s σ H _ _ v u Q I rx ry ⟨rfl,by rw[h1.isNone]; exact bQ q za (.bl _)⟩
 ·cases e
 ·cases e
noncomputable def okIn(ds:List AT)(e:AT):Bool:=CU ds && e.canLay0 && decide (e.depth<=50)
noncomputable def A0(neg:Bool)(m1 m2:M):Option M:=(wI m1).bind λe=>(seq m2).bind λds=>if okIn ds e=true then some (.v (.bool (if neg then !(ds.any λd=>DK d e) else ds.any λd=>DK d e))) else none
theorem kI(neg:Bool)(hu:X.A.units+64<cLine){pins:List (Addr×Obj)}{s:At}{σ:L2.St}{H:Hp}{x y:V}{v u:Value}{Q:VK}(I:Inv X pins σ H s)(rx:RelV x v)(ry:RelV y u)(h:rM X.K (A0 neg) x y H Q) :
  ∃ (p:Addr) (its:List Value) (g:Value->Bool) (b:Bool),u=.ref p/\(PlainL s.heap p its.toArray\/s.heap.IsTuple p its.toArray)/\(∀y,y∈its.toArray->HW X.A.in1 s y v (g y))/\its.toArray.any g=b/\EP X pins σ Q (.bool (if neg then !b else b)) s:=by
 obtain⟨Z,m1,m2,m,za,h1,h2,e,q⟩:=h;obtain⟨d,e1,e⟩:=oB e;obtain⟨ds,e2,e⟩:=oB e
 split at e
 ·next ok=>
  cases e;unfold okIn at ok;simp only[DA,decide_eq_true_eq] at ok;obtain⟨bs,re⟩:=h1.reads I e1 ok.1.2 rx;obtain⟨a,xs,rfl,hq,f⟩:=h2.seq e2;cases ry;have fin:EP X pins σ Q (.bool (if neg then !(ds.any λd'=>DK d' d) else ds.any λd'=>DK d' d)) s:=⟨.bl _,H,I,rfl,bQ q za (.bl _)⟩
  rcases hq with hq | hq
  ·obtain⟨its,r,pl,hz⟩:=I.list hq
   obtain⟨as,ra⟩:=f.reads I ok.1.1 r;refine⟨a,its,ve s.heap d,_,rfl,.inl pl,tG (pins:=pins) (σ:=σ) (H:=H) hu ra re ok.1.1 ok.1.2 ok.2,rfl,?_⟩;rw[show its.toArray.any (ve s.heap d)=its.any (ve s.heap d) by simp,lN ra ok.1.1]
   exact fin
  ·obtain⟨its,r,pl,hz⟩:=I.tuple hq
   obtain⟨as,ra⟩:=f.reads I ok.1.1 r;refine⟨a,its,ve s.heap d,_,rfl,.inr pl,tG (pins:=pins) (σ:=σ) (H:=H) hu ra re ok.1.1 ok.1.2 ok.2,rfl,?_⟩;rw[show its.toArray.any (ve s.heap d)=its.any (ve s.heap d) by simp,lN ra ok.1.1]
   exact fin
 ·cases e
theorem yi(hu:X.A.units+64<cLine):cH X (CN .In) (rM X.K (A0 false)):=by
 intro pins s σ H x y v u Q I rx ry h;obtain⟨p,its,g,b,rfl,hq,hg,e,fin⟩:=kI false hu I rx ry h;subst e;rcases hq with hq | hq
 ·exact SeqAt.in_listAt g hq.isList hg fin
 ·exact SeqAt.in_tupleAt g hq hg fin
theorem tM(hu:X.A.units+64<cLine):cH X (CN .NotIn) (rM X.K (A0 true)):=by
 intro pins s σ H x y v u Q I rx ry h;obtain⟨p,its,g,b,rfl,hq,hg,e,fin⟩:=kI true hu I rx ry h;subst e;rcases hq with hq | hq
 ·exact SeqAt.notIn_listAt g hq.isList hg fin
 ·exact SeqAt.notIn_tupleAt g hq hg fin
end
noncomputable def toD:M->AT
 |.v d=>d
 |.lst ds=>.list ds
 |.aI kvs=>.dict (kvs.map λp=>(j5 p.1,p.2))
 |.bz kvs=>.dict ((kvs.map λp=>(p.1,EJ p.2)).map λp=>(j5 p.1,p.2))
 |.dtp kvs=>.dict (kvs.map λp=>(.tuple (p.1.map j5),p.2))
 |.lls dss=>.list (dss.map .list)
 |.dre k ds kvs=>.dict (((k,EJ ds)::kvs).map λp=>(j5 p.1,p.2))
noncomputable def cu:bY->Ev->Option (AT×Ev)
 |.t m,ρ=>some (toD m,ρ)
 |.p i,ρ=>(bG ρ i).bind λm=>some (toD m,ρ.set i (some (.v (toD m))))
 |.q i k,ρ=>match bG ρ i with
  |some (.bz kvs)=>(bu kvs k).bind λds=>some (.list ds,ρ.set i (some (.aI (kvs.map λp=>(p.1,EJ p.2)))))
  |_=>none
noncomputable def dc:List bY->Ev->Option (List AT×Ev)
 |[],ρ=>some ([],ρ)
 |o::os,ρ=>(cu o ρ).bind λp=>(dc os p.2).bind λq=>some (p.1::q.1,q.2)
section
variable{K:AC}{H H0:Hp}{Z Z0:Zs}{F F0 G R:List Addr}{σ:L2.St}{ρ ρ':Ev}{x:V}{o:bY}{d:AT}
theorem aG.more{G:List Addr}:aG H Z H (λa=>Z a\/a∈G):=⟨dh.refl,λ_ _ _ e=>e,λ_ z=>.inl z⟩
theorem fW.fz{Z':Zs}(g:aG H Z H Z'):∀{kxs:List (Key×V)}{kvs:List (Key×List AT)}{G:List Addr},fW K H Z kxs kvs G->(∀a∈G,Z' a)->eK K H Z' kxs (kvs.map λp=>(p.1,EJ p.2)):=by
 intro kxs kvs G h
 induction h with
 |nil=>exact λ_=>.nil
 |cons e f r ih=>exact λh=>.cons (.lst (.inl e) (h _ lS) (f.mono g)) (ih λa z=>h a (lO _ z))
theorem gz.fz{Z':Zs}(g:aG H Z H Z'):∀{vs:List V}{dss:List (List AT)}{G:List Addr},gz K H Z vs dss G->(∀a∈G,Z' a)->aZ K H Z' vs (dss.map .list):=by
 intro vs dss G h
 induction h with
 |nil=>exact λ_=>.nil
 |cons e f r ih=>exact λh=>.cons (.lst (.inl e) (h _ lS) (f.mono g)) (ih λa z=>h a (lO _ z))
theorem Ow.fz{m:M}{Z':Zs}(g:aG H Z H Z')(h:Ow K H Z x m G)(hz:∀a∈G,Z' a):Fz K H Z' x (toD m):=by
 cases h with
 |v f=>exact f.mono g
 |lst e f=>exact .lst (.inl e) (hz _ lS) (f.mono g)
 |aI e f=>exact .aI e (hz _ lS) (f.mono g)
 |bz e f=>exact .aI e (hz _ lS) (f.fz g λa z=>hz a (lO _ z))
 |dtp e n f=>exact .dtp e (hz _ lS) n (f.mono g)
 |lls e f=>exact .lst (.inl e) (hz _ lS) (f.fz g λa z=>hz a (lO _ z))
 |dre e eb f r=>exact .aI e (hz _ lS) (.cons (.lst (.inl eb) (hz _ (lO _ lS)) (f.mono g)) (r.mono g))
theorem aD.give{A:List Addr}(f:aD H0 Z0 F0 H Z A)(hF:F.Nodup)(hs:∀a∈F,a∈A)(hG:∀a∈G,a∈A)(hd:∀a∈F,a∉G)(al:∀a∈G,H a≠none):aD H0 Z0 F0 H (λa=>Z a\/a∈G) F:=by
 refine⟨f.keep,f.tups,λa z=>.inl (f.zs a z),λa z=>?_,λa h=>f.fr a (hs a h),hF,λa h z=>?_,λa z=>?_⟩
 ·rcases z with z | z
  ·exact f.zn a z
  ·exact .inr (f.fr a (hG a z))
 ·rcases z with z | z
  ·exact f.dz a (hs a h) z
  ·exact hd a h z
 ·rcases z with z | z
  ·exact f.za a z
  ·exact al a z
theorem Bp{A B C:List Addr}(h:(A++B++C).Nodup):A.Nodup/\B.Nodup/\C.Nodup/\(∀a∈A,a∉B)/\(∀a∈A,a∉C)/\∀a∈B,a∉C:=by
 have h1:=C2.mp h;have h2:=C2.mp h1.1;exact⟨h2.1,h2.2.1,h1.2.1,λa x y=>h2.2.2 a x a y rfl,λa x y=>h1.2.2 a (lL _ x) a y rfl,λa x y=>h1.2.2 a (lR _ x) a y rfl⟩
theorem aJ{A B:List Addr}(h1:A.Nodup)(h2:B.Nodup)(h:∀a∈A,a∉B):(A++B).Nodup:=C2.mpr ⟨h1,h2,λa x b y e=>h a x (e▸y)⟩
theorem fY{σ:L2.St}{i:Nat}{x:V}(q:σ[i]? = some (some x)):σ.set i (some x)=σ:=by
  refine Ft λj=>?_
  rw[EB]
  split
  · next hj=>subst hj; split
             · exact q.symm
             · next hh=>exact absurd (CB.mp q).1 hh
  · rfl
theorem freeze(S:aK K H Z σ ρ F)(h:jQ K H Z σ x o G)(f:aD H0 Z0 F0 H Z (F++G++R))(e:cu o ρ=some (d,ρ')):∃Z' F',aK K H Z' σ ρ' F'/\Fz K H Z' x d/\aD H0 Z0 F0 H Z' (F'++R)/\aG H Z H Z':=by
 obtain⟨n1,n2,n3,s1,s2,s3⟩:=Bp f.nd;cases h with
 |t q=>
  cases e;refine⟨λa=>Z a\/a∈G,F,S.mono aG.more λ_ _ _ e=>e,q.fz aG.more λa h=>.inr h,f.give (aJ n1 n3 s2) (λa h=>?_) (λa h=>?_) (λa h z=>?_) q.al,aG.more⟩
  ·rcases lM h with h | h
   ·exact lL _ (lL _ h)
   ·exact lR _ h
  ·exact lL _ (lR _ h)
  ·rcases lM h with h | h
   ·exact s1 a h z
   ·exact s3 a z h
 |p q=>
  rename_i i
  obtain⟨m,e1,e⟩:=oB e;cases e;obtain⟨x',G',F1,h1,h2,h3,h4,h5⟩:=S.take n1 (aC.mp e1);rw[q] at h1; cases h1;have hl:=(CB.mp (aC.mp e1)).1;have k4:=C2.mp h4;have fz:=h2.fz (aG.more (G:=G')) λa h=>.inr h
  obtain⟨F2,p1,p2,p3⟩:=(h3.mono (aG.more (G:=G')) λ_ _ _ e=>e).put (i:=i) (Ow.v fz) (by rw[Bn]; exact k4.1) (by rw[DO hl])
  rw[Bn] at p3;rw[Fs] at p1;rw[fY q] at p1;refine⟨_,F2,p1,fz,f.give (aJ p2 n3 λa h=>s2 a (h5 a (lL _ (p3 a h)))) (λa h=>?_) (λa h=>?_) (λa h z=>?_) h2.al,aG.more⟩
  ·rcases lM h with h | h
   ·exact lL _ (lL _ (h5 a (lL _ (p3 a h))))
   ·exact lR _ h
  ·exact lL _ (lL _ (h5 a (lR _ h)))
  ·rcases lM h with h | h
   ·exact k4.2.2 a (p3 a h) a z rfl
   ·exact s2 a (h5 a (lR _ z)) h
 |q q1 q2 q3=>
  rename_i i k a0 kxs
  have e:(match bG ρ i with
   |some (.bz kvs)=>(bu kvs k).bind λds=>some (EJ ds,ρ.set i (some (M.aI (kvs.map λp=>(p.1,EJ p.2)))))
   |_=>none)=some (d,ρ'):=e
  split at e
  ·next kvs hk=>
   obtain⟨ds,e1,e⟩:=oB e;cases e;obtain⟨x',G',F1,h1,h2,h3,h4,h5⟩:=S.take n1 (aC.mp hk);rw[q1] at h1; cases h1;have hl:=(CB.mp (aC.mp hk)).1;cases h2 with
   |bz e2 ol=>
    rename_i kxs' Gl
    rw[q2] at e2; cases e2;have k4:=C2.mp h4;have k5:=CJ.mp k4.2.1;have ow:Ow K H (λa=>Z a\/a∈Gl) (.ref a0) (.aI (kvs.map λp=>(p.1,EJ p.2))) [a0]:=.aI q2 (ol.fz aG.more λa h=>.inr h)
    obtain⟨b,xs,z1,z2,z3,z4⟩:=ol.get e1;rw[q3] at z1; cases z1;obtain⟨F2,p1,p2,p3⟩:=(h3.mono (aG.more (G:=Gl)) λ_ _ _ e=>e).put (i:=i) ow (aJ k4.1 (CJ.mpr ⟨CZ,Dj⟩) λa h z=>k4.2.2 a h a0 lS (B1.mp z)) (by rw[DO hl])
    rw[Fs] at p1;rw[fY q1] at p1;have inF:∀a∈F2,a∈F:=λa h=>by
     rcases lM (p3 a h) with h | h
     ·exact h5 a (lL _ h)
     ·exact h5 a (lR _ (by rw[B1.mp h]; exact lS))
    refine⟨_,F2,p1,.lst (.inl z2) (.inr z4) (z3.mono aG.more),f.give (aJ p2 n3 λa h=>s2 a (inF a h)) (λa h=>?_) (λa h=>?_) (λa h z=>?_) (λa h e=>?_),aG.more⟩
    ·rcases lM h with h | h
     ·exact lL _ (lL _ (inF a h))
     ·exact lR _ h
    ·exact lL _ (lL _ (h5 a (lR _ (lO _ h))))
    ·rcases lM h with h | h
     ·rcases lM (p3 a h) with h | h
      ·exact k4.2.2 a h a (lO _ z) rfl
      ·rw[B1.mp h] at z; exact k5.1 z
     ·exact s2 a (h5 a (lR _ (lO _ z))) h
    ·obtain⟨_,z',_⟩:=ol.mem a h; rw[z'] at e; cases e
  ·cases e
theorem jQ.tN{Z':Zs}(g:aG H Z H Z')(h:jQ K H Z σ x o G):jQ K H Z' σ x o G:=by
 cases h with
 |t q=>exact .t (q.mono g λ_ _ _ e=>e)
 |p q=>exact .p q
 |q a b c=>exact .q a b c
theorem gV.tN{Z Z':Zs}(g:aG H Z H Z'):∀{os:List bY}{xs:List V}{G:List Addr},gV K H Z σ xs os G->gV K H Z' σ xs os G:=by
 intro os xs G h
 induction h with
 |nil=>exact .nil
 |cons h r ih=>exact .cons (h.tN g) ih
theorem qd:∀{os:List bY}{xs:List V}{ds:List AT}{Z:Zs}{ρ ρ':Ev}{F G:List Addr},aK K H Z σ ρ F->gV K H Z σ xs os G->aD H0 Z0 F0 H Z (F++G)->dc os ρ=some (ds,ρ')->∃Z' F',aK K H Z' σ ρ' F'/\aZ K H Z' xs ds/\aD H0 Z0 F0 H Z' F'/\aG H Z H Z':=by
 intro os
 induction os with
 |nil=>
  intro xs ds Z ρ ρ' F G S h f e;cases h;cases e; exact⟨_,_,S,.nil,(by rw[Bn] at f; exact f),aG.refl⟩
 |cons o os ih=>
  intro xs ds Z ρ ρ' F G S h f e;cases h with | cons h r=>
  obtain⟨⟨d,ρ1⟩,e1,e⟩:=oB e;obtain⟨⟨ds,ρ2⟩,e2,e⟩:=oB e;cases e;obtain⟨Z1,F1,S1,z1,f1,g1⟩:=freeze S h f.assoc' e1;obtain⟨Z2,F2,S2,z2,f2,g2⟩:=ih S1 (r.tN g1) f1 e2;exact⟨Z2,F2,S2,.cons (z1.mono g2) z2,f2,g1.trans g2⟩
theorem dN(S:aK K H Z σ ρ F)(h:jQ K H Z σ x o G)(f:aD H0 Z0 F0 H Z (F++G))(e:cu o ρ=some (d,ρ')):∃Z' F',aK K H Z' σ ρ' F'/\Fz K H Z' x d/\aD H0 Z0 F0 H Z' F'/\aG H Z H Z':=by
 obtain⟨Z',F',h1,h2,h3,h4⟩:=freeze (R:=[]) S h (by rw[Bn]; exact f) e
 rw[Bn] at h3;exact⟨Z',F',h1,h2,h3,h4⟩
end
section
variable{X:Cx}{pos:Pos}
noncomputable def gf(fa:FA):FE:=λρ=>(fa ρ).bind λp=>(dc p.1 p.2).bind λq=>if q.1.length<=lim then some (.t (.v (.tuple q.1)),q.2) else none
noncomputable def iC(fa:FA):FE:=λρ=>(fa ρ).bind λp=>(dc p.1 p.2).bind λq=>if q.1.length<=lim then some (.t (.lst q.1),q.2) else none
theorem zR{es:List Expr}{k:Nat}{fa:FA}(h:VA X es fa):VE X (.Tuple es k pos) (gf fa):=aR (zb h) λσ H Q hq=>by
 obtain⟨Z,ρ,F,o,ρ',S,w,e,q⟩:=hq;obtain⟨⟨os,ρ1⟩,e1,e⟩:=oB e;obtain⟨⟨ds,ρ2⟩,e2,e⟩:=oB e
 split at e
 ·next hl=>
  cases e;refine⟨Z,ρ,F,os,ρ1,S,w,e1,λxs H1 Z1 F1 G1 S1 O1 f1=>?_⟩
  obtain⟨Z2,F2,S2,z2,f2,g2⟩:=qd S1 O1 f1 e2;refine⟨fH (by rw[z2.length]; exact hl),λp hp=>?_⟩
  have n:=aD.same (cW hp (.tup xs)) f2.za;exact q (.ref p) _ Z2 F2 [] (S2.news n) (.t (.v (.tup (dg.of ay) (z2.mono n.kH)))) (f2.trans (n.news f2.wf S2.al))
 ·cases e
theorem zS{es:List Expr}{fa:FA}(h:VA X es fa):VE X (.List es pos) (iC fa):=aR (sI h) λσ H Q hq=>by
 obtain⟨Z,ρ,F,o,ρ',S,w,e,q⟩:=hq;obtain⟨⟨os,ρ1⟩,e1,e⟩:=oB e;obtain⟨⟨ds,ρ2⟩,e2,e⟩:=oB e
 split at e
 ·next hl=>
  cases e;refine⟨Z,ρ,F,os,ρ1,S,w,e1,λxs H1 Z1 F1 G1 S1 O1 f1=>?_⟩
  obtain⟨Z2,F2,S2,z2,f2,g2⟩:=qd S1 O1 f1 e2;refine⟨fH (by rw[z2.length]; exact hl),λp hp=>?_⟩
  have n:=aD.ng (o:=.lst xs) hp f2.za;exact q (.ref p) _ Z2 F2 [p] (S2.news n) (.t (.lst ay (z2.mono n.kH))) (f2.trans (n.news f2.wf S2.al))
 ·cases e
noncomputable def c5:AT->Option Key
 |.int i=>some (.inl i)
 |.str s=>some (.inr s)
 |_=>none
noncomputable def nq:List (AT×AT)->Option (List (Key×AT))
 |[]=>some []
 |p::ps=>(c5 p.1).bind λk=>(nq ps).bind λr=>some ((k,p.2)::r)
noncomputable def getM:M->M->Option M
 |.aI kvs,.v k=>(c5 k).bind λk=>(bu kvs k).bind λd=>some (.v d)
 |.v (.dict ps),.v k=>(nq ps).bind λkvs=>(c5 k).bind λk=>(bu kvs k).bind λd=>some (.v d)
 |.v (.str z),.v (.int i)=>if z.length<=lim then (iS z.cps.toList i).bind λc=>some (.v (.str ⟨#[c]⟩)) else none
 |m,.v (.int i)=>(seq m).bind λds=>(iS ds i).bind λd=>some (.v d)
 |_,_=>none
noncomputable def BD:bY->M->Ev->Option (bY×Ev)
 |.t m1,m2,ρ=>(getM m1 m2).bind λm=>some (.t m,ρ)
 |.p i,m2,ρ=>(bG ρ i).bind λm1=>match m1,m2 with
  |.bz kvs,.v k=>(c5 k).bind λk=>(bu kvs k).bind λ_=>some (.q i k,ρ)
  |m1,m2=>(getM m1 m2).bind λm=>some (.t m,ρ)
 |.q _ _,_,_=>none
noncomputable def dZ(fa fb:FE):FE:=λρ=>(fa ρ).bind λp=>(fb p.2).bind λq=>(peek q.2 q.1).bind λm2=>BD p.1 m2 q.2
theorem iX{K:AC}{H:Hp}{Z:Zs}:∀{kxs:List (Key×V)}{kvs:List (Key×AT)}{k:Key},eK K H Z kxs kvs->(bu kvs k=none->dS kxs k=none)/\∀d,bu kvs k=some d->∃x,dS kxs k=some x/\Fz K H Z x d:=by
 intro kxs
 induction kxs with
 |nil=>intro kvs k h; cases h; exact⟨λ_=>rfl,λ_ e=>(nomatch e)⟩
 |cons p kxs ih0=>
  intro kvs k h;cases h with | @cons k' _ _ _ _ h r=>
  have ih:=ih0 (k:=k) r;unfold bu;rw[D0]
  by_cases hk:k'=k
  ·subst hk
   simp only[decide_true,EL];rw[bT rfl];exact⟨λe=>(nomatch e),λd e=>⟨_,rfl,by cases e; exact h⟩⟩
  ·simp only[hk,decide_false]
   rw[cV hk];exact ih
theorem di{K:AC}{H:Hp}{Z:Zs}{x:V}{d:AT}{k:Key}(h:Fz K H Z x d)(e:c5 d=some k):x=kV k:=by
 cases h <;> cases e <;> rfl
theorem zT:∀(k:Key),c5 (j5 k)=some k
 |.inl _=>rfl
 |.inr _=>rfl
theorem nu:∀(ds:List (Key×AT)),nq (ds.map λp=>(j5 p.1,p.2))=some ds
 |[]=>rfl
 |p::ds=>by
  show (c5 (j5 p.1)).bind (λk=>(nq (ds.map λp=>(j5 p.1,p.2))).bind λr=>some ((k,p.2)::r))=_
  rw[zT,nu ds];rfl
theorem Fz.tO{K:AC}{H:Hp}{Z:Zs}{x:V}{ps:List (AT×AT)}{kvs:List (Key×AT)}(h:Fz K H Z x (.dict ps))(e:nq ps=some kvs)(ne:kvs≠[]):∃a kxs,x=.ref a/\H a=some (.dK kxs)/\eK K H Z kxs kvs:=by
 cases h with
 |aI ha _ f=>
  rw[nu] at e;cases e;exact⟨_,_,rfl,ha,f⟩
 |@dtp _ _ ds ha _ en f=>
  cases ds with
  |nil=>cases e; exact absurd rfl ne
  |cons p ds=>cases e
theorem tP{K:AC}{H:Hp}{Z:Zs}{xs:List V}{ds:List AT}{i:Int}{d:AT}(r:aZ K H Z xs ds)(e:iS ds i=some d):∃x,iS xs i=some x/\Fz K H Z x d:=by
 unfold iS at e ⊢;rw[r.length];obtain⟨j,e1,e2⟩:=oB e;obtain⟨x,h1,h2⟩:=r.get' e2;exact⟨x,by rw[e1,DI]; exact h1,h2⟩
theorem ve_ix{a b:Expr}{fa fb:FE}(hu:X.A.units+64<cLine)(ha:VE X a fa)(hb:VE X b fb)(hs:iT b):VE X (.Subscript a b pos) (dZ fa fb):=by
 refine aR (oN (ya sP ha hb hs) (lC (by lia) ha hb hs)) λσ H Q hq=>?_
 obtain⟨Z,ρ,F,o,ρ',S,w,e,q⟩:=hq;obtain⟨⟨o1,ρ1⟩,e1,e⟩:=oB e;obtain⟨⟨o2,ρ2⟩,e2,e⟩:=oB e;obtain⟨m2,e3,e⟩:=oB e;have gen:∀m1 m,gU ρ2 o1=some m1->getM m1 m2=some m->o=.t m->ρ'=ρ2->vH (B6 X.K) (vE X.K fa) (vE X.K fb) σ H Q\/pT (vE X.K fa) (vE X.K fb) σ H Q:=λm1 m e4 e5 eo er=>by
  subst eo; subst er;have two':∀R:V->V->Hp->Prop,(∀H2 Z2 x y,(∀a,Z2 a->H2 a≠none)->Ro X.K H2 Z2 x m1->Ro X.K H2 Z2 y m2->(∀z H3 Z3 G,Ow X.K H3 Z3 z m G->aD H2 Z2 [] H3 Z3 G->Q z H3)->R x y H2) ->
    vE X.K fa σ H λx H1=>vE X.K fb σ H1 λy H2=>R x y H2:=λR hR=>by
   refine⟨Z,ρ,F,o1,ρ1,S,w,e1,λx H1 Z1 F1 G1 S1 O1 f1=>⟨Z1,ρ1,F1,o2,ρ',S1,f1.left.wf,e2,λy H2 Z2 F2 G2 S2 O2 f2=>?_⟩⟩
   have O1':=O1.mono (cT e4) (f2.grow f1.left.wf) (f1.m9 f2);exact hR H2 Z2 x y f2.za (O1'.peek S2 (cS e4)) (O2.peek S2 e3) λz H3 Z3 G h3 n=>q z H3 Z3 F2 G (S2.news n) (.t h3) ((f1.left.trans f2.left).trans (n.news f2.left.wf S2.al))
  clear q e e3
  unfold getM at e5
  split at e5
  ·rename_i kvs k
   obtain⟨k',e6,e5⟩:=oB e5;obtain⟨d,e7,e5⟩:=oB e5;cases e5;refine .inr (two' _ λH2 Z2 x y za h1 h2 fin=>?_)
   obtain⟨a',kxs,rfl,he,fk⟩:=h1.aI;obtain⟨v,hv,fv⟩:=(iX fk).2 d e7;obtain rfl:=di h2.fz e6;exact⟨a',v,rfl,hv▸d9.k he,bQ fin za fv⟩
  ·rename_i ps k
   obtain⟨kvs,e8,e5⟩:=oB e5;obtain⟨k',e6,e5⟩:=oB e5;obtain⟨d,e7,e5⟩:=oB e5;cases e5;refine .inr (two' _ λH2 Z2 x y za h1 h2 fin=>?_)
   obtain⟨a',kxs,rfl,he,fk⟩:=h1.fz.tO e8 λz=>by rw[z] at e7; cases e7
   obtain⟨v,hv,fv⟩:=(iX fk).2 d e7;obtain rfl:=di h2.fz e6;exact⟨a',v,rfl,hv▸d9.k he,bQ fin za fv⟩
  ·rename_i z i
   split at e5
   ·rename_i hl
    obtain⟨c,e7,e5⟩:=oB e5;cases e5;refine .inl (two' _ λH2 Z2 x y za h1 h2 fin=>?_)
    obtain rfl:=h1.str;obtain rfl:=h2.int;exact .inr (.inr ⟨_,_,c,rfl,rfl,fH hl,e7,bQ fin za (.str _)⟩)
   ·cases e5
  ·obtain⟨ds,e6,e5⟩:=oB e5
   obtain⟨d,e7,e5⟩:=oB e5;cases e5;refine .inl (two' _ λH2 Z2 x y za h1 h2 fin=>?_)
   obtain⟨a',xs,rfl,hq,fs⟩:=h1.seq e6;obtain rfl:=h2.int;obtain⟨v,hv,fv⟩:=tP fs e7;rcases hq with hq | hq
   ·exact .inl ⟨a',xs,_,v,rfl,rfl,hq,hv,bQ fin za fv⟩
   ·exact .inr (.inl ⟨a',xs,_,v,rfl,rfl,hq,hv,bQ fin za fv⟩)
  ·cases e5
 cases o1 with
 |t m1=>
  obtain⟨m,e5,e⟩:=oB e
  injection e with e
  injection e with ea eb
  exact gen m1 m rfl e5 ea.symm eb.symm
 |q _ _=>cases e
 |p i=>
  obtain⟨m1,e4,e⟩:=oB e
  split at e
  ·rename_i kvs k
   obtain⟨k',e6,e⟩:=oB e;obtain⟨ds,e7,e⟩:=oB e
   injection e with e
   injection e with ea eb
   subst ea; subst eb;refine .inr ⟨Z,ρ,F,.p i,ρ1,S,w,e1,λx H1 Z1 F1 G1 S1 O1 f1=>⟨Z1,ρ1,F1,o2,_,S1,f1.left.wf,e2,λy H2 Z2 F2 G2 S2 O2 f2=>?_⟩⟩
   cases O1 with
   |p hx=>
    obtain⟨x',G',h1,h2,_⟩:=S2.get (aC.mp e4);rw[hx] at h1; cases h1;cases h2 with
    |bz he ol=>
     obtain⟨b,xs,z1,z2,z3,z4⟩:=ol.get e7;have O2':=O2.peek S2 e3;obtain rfl:=di O2'.fz e6;exact⟨_,.ref b,rfl,z1▸d9.k he,q (.ref b) H2 Z2 F2 [] S2 (.q hx he z1) (f1.left.trans f2.left).nil⟩
  ·obtain⟨m,e5,e⟩:=oB e
   injection e with e
   injection e with ea eb
   exact gen _ m e4 e5 ea.symm eb.symm
end
section
variable{X:Cx}{pos:Pos}
theorem wJ{fa fb:FE}{g:M->M->Option M}{σ:L2.St}{H:Hp}{Q:VK}(hq:vE X.K (vB g fa fb) σ H Q) :
  ∃m1 m2 m,g m1 m2=some m/\∀R:V->V->Hp->Prop,(∀H2 Z2 x y,(∀a,Z2 a->H2 a≠none)->Ro X.K H2 Z2 x m1->Ro X.K H2 Z2 y m2->(∀z H3 Z3 G,Ow X.K H3 Z3 z m G->aD H2 Z2 [] H3 Z3 G->Q z H3)->R x y H2) ->
   vE X.K fa σ H λx H1=>vE X.K fb σ H1 λy H2=>R x y H2:=by
 obtain⟨Z,ρ,F,o,ρ',S,w,e,q⟩:=hq;obtain⟨⟨o1,ρ1⟩,e1,e⟩:=oB e;obtain⟨⟨o2,ρ2⟩,e2,e⟩:=oB e;obtain⟨m1,e3,e⟩:=oB e;obtain⟨m2,e4,e⟩:=oB e;obtain⟨m,e5,e⟩:=oB e;cases e;refine⟨m1,m2,m,e5,λR hR=>⟨Z,ρ,F,o1,ρ1,S,w,e1,λx H1 Z1 F1 G1 S1 O1 f1=>⟨Z1,ρ1,F1,o2,ρ2,S1,f1.left.wf,e2,λy H2 Z2 F2 G2 S2 O2 f2=>?_⟩⟩⟩
 have O1':=O1.mono (cT e3) (f2.grow f1.left.wf) (f1.m9 f2);exact hR H2 Z2 x y f2.za (O1'.peek S2 (cS e3)) (O2.peek S2 e4) λz H3 Z3 G h3 n=>q z H3 Z3 F2 G (S2.news n) (.t h3) ((f1.left.trans f2.left).trans (n.news f2.left.wf S2.al))
noncomputable def ic(neg:Bool):M->M->Option M
 |.v k,.aI kvs=>(c5 k).bind λk=>some (.v (.bool (if neg then !(bu kvs k).isSome else (bu kvs k).isSome)))
 |.v k,.bz kvs=>(c5 k).bind λk=>some (.v (.bool (if neg then !(bu kvs k).isSome else (bu kvs k).isSome)))
 |.v (.str i),.v (.str j)=>some (.v (.bool (if neg then !(!(DU j i 0 j.length 1).isEmpty) else !(DU j i 0 j.length 1).isEmpty)))
 |m1,m2=>A0 neg m1 m2
theorem tR{K:AC}{H:Hp}{Z:Zs}:∀{kxs:List (Key×V)}{kvs:List (Key×List AT)}{G:List Addr}{k:Key},fW K H Z kxs kvs G->(dS kxs k).isSome=(bu kvs k).isSome:=by
 intro kxs kvs G k h
 induction h with
 |nil=>rfl
 |@cons k' _ _ _ _ _ _ h f r ih=>
  unfold bu;rw[D0]
  by_cases hk:k'=k
  ·subst hk
   simp only[decide_true,EL];rw[bT rfl];rfl
  ·simp only[hk,decide_false]
   rw[cV hk];exact ih
theorem rq{K:AC}{H:Hp}{Z:Zs}{kxs:List (Key×V)}{kvs:List (Key×AT)}{k:Key}(h:eK K H Z kxs kvs):(dS kxs k).isSome=(bu kvs k).isSome:=by
 obtain⟨h1,h2⟩:=iX (k:=k) h;cases e:bu kvs k with
 |none=>rw[h1 e]; rfl
 |some d=>obtain⟨x,h3,_⟩:=h2 d e; rw[h3]; rfl
theorem tS{neg:Bool}{fa fb:FE}{σ:L2.St}{H:Hp}{Q:VK}{rs:R2}(hrs:rs=λx y H Q=>∃i j,x=.str i/\y=.str j/\Q (.bl (if neg then !(!(DU j i 0 j.length 1).isEmpty) else !(DU j i 0 j.length 1).isEmpty)) H)(hq:vE X.K (vB (ic neg) fa fb) σ H Q) :
  (vH (rM X.K (A0 neg)) (vE X.K fa) (vE X.K fb) σ H Q\/vH rs (vE X.K fa) (vE X.K fb) σ H Q)\/(λσ H Q=>vE X.K fa σ H λy H1=>vE X.K fb σ H1 λx H2=>∃a o,x=.ref a/\d9 H2 a y o/\Q (.bl (if neg then !o.isSome else o.isSome)) H2:TE) σ H Q:=by
 obtain⟨m1,m2,m,e,h⟩:=wJ hq;unfold ic at e
 split at e
 ·obtain⟨k,e1,e⟩:=oB e
  cases e;refine .inr (h _ λH2 Z2 x y za h1 h2 fin=>?_)
  obtain⟨a,kxs,rfl,he,fk⟩:=h2.aI;obtain rfl:=di h1.fz e1;refine⟨a,_,rfl,d9.k he,?_⟩;rw[rq fk];exact bQ fin za (.bl _)
 ·obtain⟨k,e1,e⟩:=oB e
  cases e;refine .inr (h _ λH2 Z2 x y za h1 h2 fin=>?_)
  obtain⟨a,kxs,G,rfl,he,fk⟩:=h2.bz;obtain rfl:=di h1.fz e1;refine⟨a,_,rfl,d9.k he,?_⟩;rw[tR fk];exact bQ fin za (.bl _)
 ·cases e
  refine .inl (.inr (h _ λH2 Z2 x y za h1 h2 fin=>?_))
  obtain rfl:=h1.str; obtain rfl:=h2.str;rw[hrs];exact⟨_,_,rfl,rfl,bQ fin za (.bl _)⟩
 ·exact .inl (.inl (h _ λH2 Z2 x y za h1 h2 fin=>⟨Z2,_,_,_,za,h1,h2,e,fin⟩))
theorem ve_in{a b:Expr}{fa fb:FE}(hu:X.A.units+64<cLine)(ha:VE X a fa)(hb:VE X b fb)(hm:D7 .In b=false:=by rfl):VE X (.Compare a [.In] [b] pos) (vB (ic false) fa fb) :=
 aR (oN (oN (k8 (yi hu) ha hb hm) (k8 kh ha hb hm)) (yC (sU (by lia) ha hb) hm)) λ_ _ _ hq=>tS rfl hq
theorem vt_in{a b:Expr}{fa fb:FE}(hu:X.A.units+64<cLine)(ha:VE X a fa)(hb:VE X b fb)(hm:D7 .In b=false:=by rfl):VT X (.Compare a [.In] [b] pos) (aL (vB (ic false) fa fb)) :=
 iA (lQ (lQ (fT (yi hu) ha hb hm) (fT kh ha hb hm)) (r6 (sU (by lia) ha hb) hm)) λ_ _ _ hq=>tS rfl (Bo hq)
theorem tT{a b:Expr}{fa fb:FE}(hu:X.A.units+64<cLine)(ha:VE X a fa)(hb:VE X b fb)(hm:D7 .NotIn b=false:=by rfl):VT X (.Compare a [.NotIn] [b] pos) (aL (vB (ic true) fa fb)) :=
 iA (lQ (lQ (fT (tM hu) ha hb hm) (fT kZ ha hb hm)) (r6 (qS (by lia) ha hb) hm)) λ_ _ _ hq=>tS rfl (Bo hq)
noncomputable def nv:M->Option Bool
 |.v .none=>some false
 |.v (.bool b)=>some b
 |.v (.int i)=>some (i != 0)
 |.v (.str y)=>if y.length<=lim then some ((y.length:Int) != 0) else none
 |.v (.tuple ds)=>some (!ds.isEmpty)
 |.v (.list ds)=>some (!ds.isEmpty)
 |.lst ds=>some (!ds.isEmpty)
 |.aI kvs=>some (!kvs.isEmpty)
 |.bz kvs=>some (!kvs.isEmpty)
 |_=>none
noncomputable def jx(f:FE):FT:=λρ=>(f ρ).bind λp=>(peek p.2 p.1).bind λm=>(nv m).bind λb=>some (b,p.2)
theorem BE{α β:Type}{xs:List α}{ys:List β}(h:xs.length=ys.length):(!xs.isEmpty) = !ys.isEmpty:=by
 cases xs <;> cases ys <;> simp_all
theorem Ro.Cn{K:AC}{H:Hp}{Z:Zs}{x:V}{m:M}{b:Bool}(h:Ro K H Z x m)(e:nv m=some b):TruV K x H b:=by
 have seqs:∀{ds:List AT},VL.seq m=some ds->some (!ds.isEmpty)=some b->TruV K x H b:=λ{ds}e1 e2=>by
  obtain⟨a,xs,rfl,hq,f⟩:=h.seq e1;cases e2;rcases hq with hq | hq
  ·exact .inl ⟨xs,hq,(BE f.length).symm⟩
  ·exact .inr (.inl ⟨xs,hq,(BE f.length).symm⟩)
 cases m with
 |v d=>
  cases d with
  |none=>cases e; obtain rfl:=h.fz.p6; exact rfl
  |bool _=>cases e; obtain rfl:=h.bl; exact rfl
  |int _=>cases e; obtain rfl:=h.int; exact rfl
  |str y=>
   have e:(if y.length<=lim then some ((y.length:Int) != 0) else none)=some b:=e
   split at e
   ·next hl=>cases e; obtain rfl:=h.str; exact⟨fH hl,rfl⟩
   ·cases e
  |tuple ds=>exact seqs rfl e
  |list ds=>exact seqs rfl e
  |dict _=>cases e
 |lst ds=>exact seqs rfl e
 |aI kvs=>
  cases e;obtain⟨a,kxs,rfl,he,fk⟩:=h.aI;exact .inr (.inr ⟨kxs,he,(BE fk.length).symm⟩)
 |dtp kvs=>cases e
 |lls _=>cases e
 |dre _ _ _=>cases e
 |bz kvs=>
  cases e;obtain⟨a,kxs,G,rfl,he,fk⟩:=h.bz;refine .inr (.inr ⟨kxs,he,(BE ?_).symm⟩)
  clear he h seqs
  induction fk with
  |nil=>rfl
  |cons _ _ _ ih=>rw[BM,BM,ih]
theorem zU{e:Expr}{f:FE}(h:VE X e f)(he:∀whole,HD e X.env whole=(do let v <-whole; FP e.pos; En [v] (truthy v)):=by intro _; rfl):VT X e (jx f):=iA (sF h he) λσ H Q hq=>by
 obtain⟨Z,ρ,F,b,ρ',S,w,e,q⟩:=hq;obtain⟨⟨o1,ρ1⟩,e1,e⟩:=oB e;obtain⟨m,e2,e⟩:=oB e;obtain⟨b',e3,e⟩:=oB e;cases e;exact⟨Z,ρ,F,o1,ρ1,S,w,e1,λx H1 Z1 F1 G1 S1 O1 f1=>⟨_,(O1.peek S1 e2).Cn e3,q H1 Z1 F1 S1 f1.left⟩⟩
abbrev FO:=Ev->Option (Option Int×Ev)
inductive vO(K:AC)(f:FO)(σ:L2.St)(H:Hp)(Q:Option Int->Hp->Prop):Prop
 |mk (Z:Zs) (ρ:Ev) (F:List Addr) (o:Option Int) (ρ':Ev):aK K H Z σ ρ F->Wf H Z F->f ρ=some (o,ρ')->(∀H' Z' F',aK K H' Z' σ ρ' F'->aD H Z F H' Z' F'->Q o H')->vO K f σ H Q
noncomputable def fJ:FO:=λρ=>some (none,ρ)
noncomputable def bR(f:FE):FO:=λρ=>(f ρ).bind λp=>(peek p.2 p.1).bind λm=>match m with
 |.v (.int i)=>some (some i,p.2)
 |_=>none
theorem wK:PO X none (vO X.K fJ):=λpins s σ H Q I hq=>vN pins s σ H Q I (by
 obtain⟨Z,ρ,F,o,ρ',S,w,e,q⟩:=hq;cases e;exact q H Z F S (aD.refl w))
theorem wL{e:Expr}{f:FE}(h:VE X e f):PO X (some e) (vO X.K (bR f)):=λpins s σ H Q I hq=>vQ h pins s σ H Q I (by
 obtain⟨Z,ρ,F,o,ρ',S,w,e,q⟩:=hq;obtain⟨⟨o1,ρ1⟩,e1,e⟩:=oB e;obtain⟨m1,e3,e⟩:=oB e;refine⟨Z,ρ,F,o1,ρ1,S,w,e1,λx H1 Z1 F1 G1 S1 O1 f1=>?_⟩
 split at e
 ·cases e
  obtain rfl:=(O1.peek S1 e3).int;exact⟨_,rfl,q H1 Z1 F1 S1 f1.left⟩
 ·cases e)
noncomputable def cutD(ds:List AT)(lo hi:Option Int):List AT:=(ds.drop (HT.bM ds.length 0 lo)).take (HT.bM ds.length ds.length hi-HT.bM ds.length 0 lo)
theorem oR{K:AC}{H:Hp}{Z:Zs}{xs:List V}{ds:List AT}(r:aZ K H Z xs ds)(lo hi:Option Int):aZ K H Z (jf xs lo hi) (cutD ds lo hi):=by
 unfold jf cutD;rw[r.length];exact(r.drop _).take _
noncomputable def A1(lo hi:Option Int):M->Option M
 |.v (.tuple ds)=>some (.v (.tuple (cutD ds lo hi)))
 |.lst ds=>some (.lst (cutD ds lo hi))
 |.v (.list ds)=>some (.lst (cutD ds lo hi))
 |_=>none
noncomputable def rT(fa:FE)(fl fh:FO):FE:=λρ=>(fa ρ).bind λp=>(fl p.2).bind λl=>(fh l.2).bind λh=>(gU h.2 p.1).bind λm=>(A1 l.1 h.1 m).bind λm'=>some (.t m',h.2)
theorem vR.or{r r':V->Option Int->Option Int->Hp->VK->Prop}(h:vR X r)(h':vR X r'):vR X (λx lo hi H Q=>r x lo hi H Q\/r' x lo hi H Q):=by
 intro pins s σ H x v vl vu lo hi sl Q I rx hs pl pu q;rcases q with q | q
 ·exact h pins s σ H x v vl vu lo hi sl Q I rx hs pl pu q
 ·exact h' pins s σ H x v vl vu lo hi sl Q I rx hs pl pu q
theorem ve_sl{e:Expr}{lo hi:Option Expr}{p2:Pos}{fa:FE}{fl fh:FO}(ha:VE X e fa)(hl:PO X lo (vO X.K fl))(hh:PO X hi (vO X.K fh)):VE X (.Subscript e (.Slice lo hi none p2) pos) (rT fa fl fh):=aR (sO (vR.or wz vY) ha hl hh) λσ H Q hq=>by
 obtain⟨Z,ρ,F,o,ρ',S,w,e,q⟩:=hq;obtain⟨⟨o1,ρ1⟩,e1,e⟩:=oB e;obtain⟨⟨l,ρ2⟩,e2,e⟩:=oB e;obtain⟨⟨h,ρ3⟩,e3,e⟩:=oB e;obtain⟨m,e4,e⟩:=oB e;obtain⟨m',e5,e⟩:=oB e;cases e;refine⟨Z,ρ,F,o1,ρ1,S,w,e1,λx H1 Z1 F1 G1 S1 O1 f1=>⟨Z1,ρ1,F1,l,ρ2,S1,f1.left.wf,e2,λH2 Z2 F2 S2 f2=>⟨Z2,ρ2,F2,h,ρ3,S2,f2.wf,e3,λH3 Z3 F3 S3 f3=>?_⟩⟩⟩
 have f23:=f2.trans f3;have O1':=O1.mono (cT e4) (f23.grow f1.left.wf) (f1.m9 f23);have r:=O1'.peek S3 (cS e4);have fin:∀z H4 Z4 G,Ow X.K H4 Z4 z m' G->aD H3 Z3 [] H4 Z4 G->Q z H4:=λz H4 Z4 G h4 n=>q z H4 Z4 F3 G (S3.news n) (.t h4) ((f1.left.trans f23).trans (n.news f3.wf S3.al))
 unfold A1 at e5
 split at e5
 ·cases e5
  obtain⟨a,xs,rfl,hx,fx⟩:=r.tup;exact .inl ⟨a,xs,rfl,hx,λr H' s' t=>endS fin f3.za s' (.tup t ((oR fx _ _).mono (aG.same s')))⟩
 ·cases e5
  obtain⟨a,xs,rfl,hx,fx⟩:=r.iO rfl;exact .inr ⟨a,xs,rfl,hx,λp hp=>rg fin f3.za hp (oR fx _ _)⟩
 ·cases e5
  obtain⟨a,xs,rfl,hx,fx⟩:=r.iO rfl;exact .inr ⟨a,xs,rfl,hx,λp hp=>rg fin f3.za hp (oR fx _ _)⟩
 ·cases e5
noncomputable def gW:M->Option M
 |.v (.int i)=>some (.v (.int (-i)))
 |_=>none
theorem zV{a:Expr}{fa:FE}(ha:VE X a fa):VE X (.UnaryOp .USub a pos) (vU gW fa):=aR (pe_un yX ha) λσ H Q hq=>one (r:=rU λi=>.int (-i)) (λH Z x m1 m Q za h1 e q=>by
 unfold gW at e
 split at e
 ·cases e
  obtain rfl:=h1.int;exact⟨_,rfl,bQ q za (.int _)⟩
 ·cases e) hq
end
section
variable{α:Type}
noncomputable def ins(lt:α->α->Bool)(x:α):List α->List α
 |[]=>[x]
 |y::ys=>if lt y x=true then y::ins lt x ys else x::y::ys
noncomputable def ny(lt:α->α->Bool):List α->List α
 |[]=>[]
 |x::xs=>ins lt x (ny lt xs)
theorem jy(lt:α->α->Bool)(x:α):∀ys:List α,(ins lt x ys).Perm (x::ys)
 |[]=>.refl _
 |y::ys=>by
  unfold ins
  split
  ·exact((jy lt x ys).cons y).trans (.swap x y ys)
  ·exact .refl _
theorem eV(lt:α->α->Bool):∀xs:List α,(ny lt xs).Perm xs
 |[]=>.refl _
 |x::xs=>(jy lt x _).trans ((eV lt xs).cons x)
theorem tU{lt:α->α->Bool}(as:∀a b,lt a b=true->lt b a=false)(tr:∀a b c,lt b a=false->lt c b=false->lt c a=false)(x:α):∀{ys:List α},ys.Pairwise (λa b=>lt b a=false)->(ins lt x ys).Pairwise (λa b=>lt b a=false)
 |[],_=>Gu _ _
 |y::ys,h=>by
  obtain⟨h1,h2⟩:=EU.mp h;unfold ins
  split
  ·next e=>
   refine EU.mpr ⟨λz hz=>?_,tU as tr x h2⟩
   rcases lK ((jy lt x ys).mem_iff.mp hz) with hz | hz
   ·subst hz; exact as _ _ e
   ·exact h1 z hz
  ·next e=>
   have e:lt y x=false:=by simpa using e
   refine EU.mpr ⟨λz hz=>?_,h⟩
   rcases lK hz with hz | hz
   ·subst hz; exact e
   ·exact tr _ _ _ e (h1 z hz)
theorem gX{lt:α->α->Bool}(as:∀a b,lt a b=true->lt b a=false)(tr:∀a b c,lt b a=false->lt c b=false->lt c a=false):∀xs:List α,(ny lt xs).Pairwise (λa b=>lt b a=false)
 |[]=>.nil
 |x::xs=>tU as tr x (gX as tr xs)
end
noncomputable def ltI(a b:Int):Bool:=decide (a<b)
noncomputable def sortI(ns:List Int):List Int:=ny ltI ns
noncomputable def tV(ks:List (List Int)):List (List Int):=ny HT.lexLt ks
theorem gp:∀(a b:List Int),HT.lexLt a b=false->HT.lexLt b a=false->a=b
 |[],[],_,_=>rfl
 |[],_::_,h,_=>by cases h
 |_::_,[],_,h=>by cases h
 |x::xs,y::ys,h,h'=>by
  rw[HT.cM] at h h'
  by_cases e:x=y
  ·subst e
   rw[if_pos rfl] at h h';rw[gp xs ys h h']
  ·rw[if_neg e] at h
   rw[if_neg (Dx e)] at h';have h:=of_decide_eq_false h;have h':=of_decide_eq_false h';lia
theorem oS{ns ns':List Int}(p:ns'.Perm ns)(s:ns'.Pairwise (·<=·)):ns'=sortI ns:=by
 refine GE (le:=λa b=>ltI b a=false) (λa b _ _ h1 h2=>?_) (s.imp λh=>?_) (gX (λa b h=>?_) (λa b c h1 h2=>?_) ns) (p.trans (eV _ ns).symm)
 ·unfold ltI at h1 h2
  have h1:=of_decide_eq_false h1;have h2:=of_decide_eq_false h2;lia
 ·exact decide_eq_false (by lia)
 ·have h:=of_decide_eq_true h
  exact decide_eq_false (by lia)
 ·have h1:=of_decide_eq_false h1
  have h2:=of_decide_eq_false h2;exact decide_eq_false (by lia)
theorem oU{ns ns':List (List Int)}(p:ns'.Perm ns)(s:ns'.Pairwise λa b=>HT.lexLt b a=false):ns'=tV ns :=
 GE (le:=λa b=>HT.lexLt b a=false) (λa b _ _ h1 h2=>gp a b h2 h1) s (gX gy fG ns) (p.trans (eV _ ns).symm)
noncomputable def tI(ns:List Int):AT:=.tuple (ns.map .int)
noncomputable def Co:AT->Option (List Int)
 |.tuple ds=>fj ds
 |_=>none
noncomputable def asTs:List AT->Option (List (List Int))
 |[]=>some []
 |d::ds=>(Co d).bind λi=>(asTs ds).bind λis=>some (i::is)
theorem nA:∀{ds:List AT}{ks:List (List Int)},asTs ds=some ks->ds=ks.map tI:=by
 intro ds
 induction ds with
 |nil=>intro _ e; cases e; rfl
 |cons d ds ih=>
  intro _ e;obtain⟨i,e1,e⟩:=oB e;obtain⟨is,e2,e⟩:=oB e;cases e;rw[ih e2];cases d with
  |tuple xs=>rw[CC]; unfold tI; rw[bV e1]
  |_=>cases e1
theorem aZ.Cp{K:AC}{H:Hp}{Z:Zs}:∀{ks:List (List Int)}{xs:List V},aZ K H Z xs (ks.map tI)->Bl K H xs ks:=by
 intro ks
 induction ks with
 |nil=>intro xs h; cases h; exact .nil
 |cons k ks ih=>
  intro xs h;cases h with | cons h r=>
  exact .cons (by obtain⟨a,xs,e1,e2,e3⟩:=h.eS; rw[e3.bU] at e2; exact⟨a,e1,e2⟩) (ih r)
theorem aZ.tW{K:AC}{H:Hp}{Z:Zs}{xs:List V}{ks:List (List Int)}(r:Bl K H xs ks):∀(zs:List (V×List Int)),(∀z∈zs,z∈xs.zip ks)->aZ K H Z (zs.map (·.1)) ((zs.map (·.2)).map tI)
 |[],_=>.nil
 |z::zs,h=>.cons (by
  have hz:=h z lS;have:∀{xs:List V}{ks:List (List Int)},Bl K H xs ks->z∈xs.zip ks->∃a,z.1=.ref a/\dg K H a (z.2.map V.int):=λ{xs ks}r hz=>by
   induction r with
   |nil=>simp at hz
   |cons q _ ih=>
    rw[E7] at hz;rcases lK hz with hz | hz
    ·subst hz; exact q
    ·exact ih hz
  obtain⟨a,e1,e2⟩:=this r hz;show Fz K H Z z.1 (tI z.2);rw[e1];exact .tup e2 (aZ.ints _)) (aZ.tW r zs λz' h'=>h z' (lO _ h'))
noncomputable def inlK:Key->Option Int
 |.inl i=>some i
 |.inr _=>none
noncomputable def inls:List Key->Option (List Int)
 |[]=>some []
 |k::ks=>(inlK k).bind λi=>(inls ks).bind λis=>some (i::is)
theorem nB:∀{ks:List Key}{is:List Int},inls ks=some is->ks=is.map EC:=by
 intro ks
 induction ks with
 |nil=>intro _ e; cases e; rfl
 |cons k ks ih=>
  intro _ e;obtain⟨i,e1,e⟩:=oB e;obtain⟨is,e2,e⟩:=oB e;cases e;rw[ih e2];cases k with
  |inl j=>cases e1; rfl
  |inr _=>cases e1
noncomputable def kJ(ds:List AT):Option (List AT) :=
 if ds.length<64 then
  match fj ds with
  |some ns=>some ((sortI ns).map .int)
  |none=>(asTs ds).bind λks=>if ks.all (λk=> !k.isEmpty)=true then some ((tV ks).map tI) else none
 else none
noncomputable def jz:List M->Option M
 |[.aI kvs]=>(inls (kvs.map (·.1))).bind λns=>if ns.length<64 then some (.lst ((sortI ns).map .int)) else none
 |[.bz kvs]=>(inls (kvs.map (·.1))).bind λns=>if ns.length<64 then some (.lst ((sortI ns).map .int)) else none
 |[.v (.tuple ds)]=>(fj ds).bind λns=>if ns.length<64 then some (.lst ((sortI ns).map .int)) else none
 |[m]=>(iO m).bind λds=>(kJ ds).bind λes=>some (.lst es)
 |_=>none
theorem fW.keys{K:AC}{H:Hp}{Z:Zs}:∀{xs:List (Key×V)}{ds:List (Key×List AT)}{G:List Addr},fW K H Z xs ds G->xs.map (·.1)=ds.map (·.1):=by
 intro xs ds G h
 induction h with
 |nil=>rfl
 |cons _ _ r ih=>rw[CC,CC,ih]
section
variable{X:Cx}{pos:Pos}
theorem gC{K:AC}{H:Hp}{Z:Zs}{xs:List V}{m:M}(h:AX K H Z xs [m]):∃x,xs=[x]/\Ro K H Z x m:=by
 cases h with
 |cons h r=>cases r; exact⟨_,rfl,h⟩
theorem ros2{K:AC}{H:Hp}{Z:Zs}{xs:List V}{m m':M}(h:AX K H Z xs [m,m']):∃x y,xs=[x,y]/\Ro K H Z x m/\Ro K H Z y m':=by
 cases h with
 |cons h r=>cases r with
  |cons h' r=>cases r; exact⟨_,_,rfl,h,h'⟩
theorem kK(hc:X.calm=true):bw X (.builtin "sorted") (q9 X.K jz):=by
 intro pins s σ H xs us Q I rs h;obtain⟨Z,ms,m,za,hr,e,q⟩:=h;have hInt:∀{ns ns':List Int}{l:Addr},(∀z H' Z' G,Ow X.K H' Z' z (.lst ((sortI ns).map .int)) G->aD H Z [] H' Z' G->Q z H')->ns'.Perm ns->ns'.Pairwise (·<=·)->H l=none->Q (.ref l) (upd H l (.lst (ns'.map V.int))):=λ{ns ns' l}q p w hl=>by
  rw[oS p w];exact rg q za hl (aZ.ints _)
 unfold jz at e
 split at e
 ·obtain⟨ns,e1,e⟩:=oB e
  split at e
  ·next h64=>
   cases e;obtain⟨x,rfl,h1⟩:=gC hr;obtain⟨a,kxs,rfl,he,fk⟩:=h1.aI;exact ef hc pins s σ H _ us Q I rs ⟨a,kxs,ns,rfl,he,by rw[fk.keys,nB e1],h64,λns' l p w hl=>hInt q p w hl⟩
  ·cases e
 ·obtain⟨ns,e1,e⟩:=oB e
  split at e
  ·next h64=>
   cases e;obtain⟨x,rfl,h1⟩:=gC hr;obtain⟨a,kxs,G,rfl,he,fk⟩:=h1.bz;exact ef hc pins s σ H _ us Q I rs ⟨a,kxs,ns,rfl,he,by rw[fk.keys,nB e1],h64,λns' l p w hl=>hInt q p w hl⟩
  ·cases e
 ·obtain⟨ns,e1,e⟩:=oB e
  split at e
  ·next h64=>
   cases e;obtain⟨x,rfl,h1⟩:=gC hr;obtain⟨a,xs,rfl,hx,fx⟩:=h1.tup;rw[bV e1] at fx;rw[fx.bU] at hx;exact iz pins s σ H _ us Q I rs ⟨a,ns,rfl,hx,h64,λns' l p w hl=>hInt q p w hl⟩
  ·cases e
 ·next m0 _ _ _=>
  obtain⟨ds,e1,e⟩:=oB e;obtain⟨es,e2,e⟩:=oB e;cases e;obtain⟨x,rfl,h1⟩:=gC hr;obtain⟨a,xs,rfl,hx,fx⟩:=h1.iO e1;unfold kJ at e2
  split at e2
  ·next h64=>
   split at e2
   ·next ns e3=>
    cases e2;rw[bV e3] at fx h64;rw[fx.bU] at hx;exact iw pins s σ H _ us Q I rs ⟨a,ns,rfl,hx,by simpa using h64,λns' l p w hl=>hInt q p w hl⟩
   ·obtain⟨ks,e3,e2⟩:=oB e2
    split at e2
    ·next hne=>
     cases e2;rw[nA e3] at fx;have hl:xs.length=ks.length:=by rw[fx.length,C0]
     have ht:=fx.Cp;refine iy pins s σ H _ us Q I rs ⟨a,xs,ks,rfl,hx,ht,λt h z=>?_,?_,λzs l p w hl' =>?_⟩
     ·have:=IJ.mp hne t h
      rw[z] at this;cases this
     ·have:ds.length=ks.length:=by rw[nA e3,C0]
      lia
     ·have e:zs.map (·.2)=tV ks:=oU ((p.map (·.2)).trans (by rw[IE (by lia)])) w
      have:=aZ.tW (Z:=Z) ht zs λz h=>p.mem_iff.mp h
      rw[e] at this;exact rg q za hl' this
    ·cases e2
  ·cases e2
 ·cases e
noncomputable def dD:List M->Option M
 |[.aI kvs]=>some (.v (.int kvs.length))
 |[.bz kvs]=>some (.v (.int kvs.length))
 |[.v (.str z)]=>if z.length<=lim then some (.v (.int z.length)) else none
 |[m]=>(seq m).bind λds=>some (.v (.int ds.length))
 |_=>none
theorem fW.length{K:AC}{H:Hp}{Z:Zs}:∀{xs:List (Key×V)}{ds:List (Key×List AT)}{G:List Addr},fW K H Z xs ds G->xs.length=ds.length
 |_,_,_,.nil=>rfl
 |_,_,_,.cons _ _ r=>by rw[BM,BM,fW.length r]
theorem dW:bw X (.builtin "len") (q9 X.K dD):=by
 intro pins s σ H xs us Q I rs h;obtain⟨Z,ms,m,za,hr,e,q⟩:=h;unfold dD at e
 split at e
 ·cases e
  obtain⟨x,rfl,h1⟩:=gC hr;obtain⟨a,kxs,rfl,he,fk⟩:=h1.aI;exact kE pins s σ H _ us Q I rs ⟨a,kxs,rfl,he,by rw[fk.length]; exact bQ q za (.int _)⟩
 ·cases e
  obtain⟨x,rfl,h1⟩:=gC hr;obtain⟨a,kxs,G,rfl,he,fk⟩:=h1.bz;exact kE pins s σ H _ us Q I rs ⟨a,kxs,rfl,he,by rw[fk.length]; exact bQ q za (.int _)⟩
 ·split at e
  ·next hl=>
   cases e;obtain⟨x,rfl,h1⟩:=gC hr;obtain rfl:=h1.str;exact lz pins s σ H _ us Q I rs ⟨_,rfl,fH hl,bQ q za (.int _)⟩
  ·cases e
 ·obtain⟨ds,e1,e⟩:=oB e
  cases e;obtain⟨x,rfl,h1⟩:=gC hr;obtain⟨a,ys,rfl,hx,fx⟩:=h1.seq e1;exact ly pins s σ H _ us Q I rs ⟨a,ys,rfl,hx,by rw[fx.length]; exact bQ q za (.int _)⟩
 ·cases e
noncomputable def iP:List M->Option M
 |[m]=>(seq m).bind λds=>some (.v (.tuple ds))
 |_=>none
theorem fK:bw X (.type "tuple") (q9 X.K iP):=by
 intro pins s σ H xs us Q I rs h;obtain⟨Z,ms,m,za,hr,e,q⟩:=h;unfold iP at e
 split at e
 ·obtain⟨ds,e1,e⟩:=oB e
  cases e;obtain⟨x,rfl,h1⟩:=gC hr;obtain⟨a,ys,rfl,hx,fx⟩:=h1.seq e1;refine jX pins s σ H _ us Q I rs ⟨a,ys,rfl,?_⟩;rcases hx with hx | hx
  ·exact .inl ⟨hx,λl hl=>endT q za hl fx⟩
  ·exact .inr ⟨hx,bQ q za (.tup hx fx)⟩
 ·cases e
noncomputable def iM:List M->Option M
 |[m]=>(seq m).bind λds=>some (.lst ds)
 |_=>none
theorem wM:bw X (.type "list") (q9 X.K iM):=by
 intro pins s σ H xs us Q I rs h;obtain⟨Z,ms,m,za,hr,e,q⟩:=h;unfold iM at e
 split at e
 ·obtain⟨ds,e1,e⟩:=oB e
  cases e;obtain⟨x,rfl,h1⟩:=gC hr;obtain⟨a,ys,rfl,hx,fx⟩:=h1.seq e1;exact lA pins s σ H _ us Q I rs ⟨a,ys,rfl,hx,λl hl=>rg q za hl fx⟩
 ·cases e
noncomputable def oV:List M->Option M
 |[.v (.int i)]=>some (.v (.int (if i<0 then -i else i)))
 |_=>none
theorem tX:bw X (.builtin "abs") (q9 X.K oV):=by
 intro pins s σ H xs us Q I rs h;obtain⟨Z,ms,m,za,hr,e,q⟩:=h;unfold oV at e
 split at e
 ·cases e
  obtain⟨x,rfl,h1⟩:=gC hr;obtain rfl:=h1.int;exact sG pins s σ H _ us Q I rs ⟨_,rfl,bQ q za (.int _)⟩
 ·cases e
noncomputable def iQ:List Int->Option Int
 |[]=>none
 |n::ns=>match iQ ns with
  |none=>some n
  |some k=>some (if k<n then k else n)
theorem eu:∀{ns:List Int}{k:Int},iQ ns=some k->k∈ns/\∀a∈ns,k<=a
 |[],_,e=>by cases e
 |n::ns,k,e=>by
  unfold iQ at e;cases h:iQ ns with
  |none=>
   rw[h] at e; cases e;cases ns with
   |nil=>exact⟨lS,λa ha=>by rw[B1.mp ha]; exact Hb _⟩
   |cons y ys=>unfold iQ at h; split at h <;> cases h
  |some j=>
   rw[h] at e;have e:(if j<n then j else n)=k:=CP e
   obtain⟨h1,h2⟩:=eu h
   by_cases c:j<n
   ·rw[if_pos c] at e; subst e
    exact⟨lO _ h1,λa ha=>by
     rcases lK ha with ha | ha
     ·subst ha; lia
     ·exact h2 a ha⟩
   ·rw[if_neg c] at e; subst e
    exact⟨lS,λa ha=>by
     rcases lK ha with ha | ha
     ·subst ha; lia
     ·have:=h2 a ha; lia⟩
noncomputable def tY:List M->Option M
 |[.v (.int i),.v (.int j)]=>some (.v (.int (if j<i then j else i)))
 |[m]=>(iO m).bind λds=>(fj ds).bind λns=>(iQ ns).bind λk=>some (.v (.int k))
 |_=>none
theorem zW(hc:X.calm=true):bw X (.builtin "min") (q9 X.K tY):=by
 intro pins s σ H xs us Q I rs h;obtain⟨Z,ms,m,za,hr,e,q⟩:=h;unfold tY at e
 split at e
 ·cases e
  obtain⟨x,y,rfl,h1,h2⟩:=ros2 hr;obtain rfl:=h1.int; obtain rfl:=h2.int;exact qM hc pins s σ H _ us Q I rs ⟨_,_,rfl,bQ q za (.int _)⟩
 ·obtain⟨ds,e1,e⟩:=oB e
  obtain⟨ns,e2,e⟩:=oB e;obtain⟨k,e3,e⟩:=oB e;cases e;obtain⟨x,rfl,h1⟩:=gC hr;obtain⟨a,ys,rfl,hx,fx⟩:=h1.iO e1;rw[bV e2] at fx;rw[fx.bU] at hx;obtain⟨k1,k2⟩:=eu e3;refine gm hc pins s σ H _ us Q I rs ⟨a,ns,rfl,hx,λz=>by rw[z] at k1; simp at k1,λM h1 h2=>?_⟩
  have:M=k:=GS (h2 k k1) (k2 M h1);subst this;exact bQ q za (.int _)
 ·cases e
theorem ve_cb{id:String}{x:Str}{p:Pos}{e:Expr}{es:List Expr}{g:List M->Option M}{fa:FA}(hc:bw X (.builtin id) (q9 X.K g))(hg:Gl X x)(hm:X.mg x=none)(hv:DY x=some (.builtin id))(ha:VA X (e::es) fa)(hn:x ≠ "__name__" := by decide)(hdb:(x == ("__debug__" : Str))=false:=by decide)
  (he:C9 (e::es) X.env=(false,eval e X.env)::C9 es X.env:=by rfl) (hpl:(ED pos (C9 es X.env)).any (·.1)=false:=by rfl):VE X (.Call (.Name x p) (e::es) [] pos) (dY g fa):=aR (mD hc hg hm hv ha hn hdb he hpl) λ_ _ _=>many yg
theorem ve_ct{T:String}{x:Str}{p:Pos}{e:Expr}{es:List Expr}{g:List M->Option M}{fa:FA}(hc:bw X (.type T) (q9 X.K g))(hg:Gl X x)(hm:X.mg x=none)(hv:DY x=some (.type T))(ha:VA X (e::es) fa)(hn:x ≠ "__name__" := by decide)(hdb:(x == ("__debug__" : Str))=false:=by decide)
  (he:C9 (e::es) X.env=(false,eval e X.env)::C9 es X.env:=by rfl) (hpl:(ED pos (C9 es X.env)).any (·.1)=false:=by rfl):VE X (.Call (.Name x p) (e::es) [] pos) (dY g fa):=aR (qO hc hg hm hv ha hn hdb he hpl) λ_ _ _=>many yg
noncomputable def clsD:AT->String
 |.none=> "NoneType"
 |.bool _=> "bool"
 |.int _=> "int"
 |.str _=> "str"
 |.tuple _=> "tuple"
 |.list _=> "list"
 |.dict _=> "dict"
noncomputable def jA:M->String
 |.v d=>clsD d
 |.lst _=> "list"
 |.aI _=> "dict"
 |.bz _=> "dict"
 |.dtp _=> "dict"
 |.lls _=> "list"
 |.dre _ _ _=> "dict"
theorem Ro.cls{K:AC}{H:Hp}{Z:Zs}{x:V}{m:M}(h:Ro K H Z x m):ee K H x (jA m):=by
 obtain⟨G,h⟩:=h;cases h with
 |v f=>
  cases f with
  |non=>exact .non
  |bl b=>exact .bl b
  |int i=>exact .int i
  |str x=>exact .str x
  |tup q _=>exact .tup q
  |lst q _ _=>exact .lst (.inl q)
  |lsK q _=>exact .lst (.inr q)
  |aI q _ _=>exact .dK q
  |dtp q _ _ _=>exact .dT q
 |lst e _=>exact .lst (eF.of e)
 |aI e _=>exact .dK e
 |bz e _=>exact .dK e
 |dtp e _ _=>exact .dT e
 |lls e _=>exact .lst (eF.of e)
 |dre e _ _ _=>exact .dK e
noncomputable def tZ(c:String)(m:M):Option M:=some (.v (.bool (subB (jA m) c)))
theorem zX{p p2:Pos}{e:Expr}{c:String}{y:Str}{fa:FE}(hc:c∈cz)(hn:c ≠ "NoneType")(hg:Gl X "isinstance")(hm:X.mg "isinstance" = none)(hv:DY "isinstance" = some (.builtin "isinstance"))(ha:VE X e fa)(hy:PE X (.Name y p2) (tC (.ty c)))
  (he:C9 [e,.Name y p2] X.env=[(false,eval e X.env),(false,eval (.Name y p2) X.env)]:=by rfl) (he2:C9 [.Name y p2] X.env=[(false,eval (.Name y p2) X.env)]:=by rfl) (hpl:(ED pos (C9 [.Name y p2] X.env)).any (·.1)=false:=by rfl):VE X (.Call (.Name "isinstance" p) [e,.Name y p2] [] pos) (vU (tZ c) fa) :=
 aR (mD mW hg hm hv (dH ha (dH hy fB he2) he) (by decide) (by decide) he hpl) λσ H Q hq=>one (r:=λx H1 Q=>∃x' t c',[x,V.ty c]=[x',.ty c']/\ee X.K H1 x' t/\c'∈cz/\c' ≠ "NoneType"/\Q (.bl (subB t c')) H1) (λH Z x m1 m Q za h1 e q=>by
  cases e;exact⟨x,jA m1,c,rfl,h1.cls,hc,hn,bQ q za (.bl _)⟩) hq
end
inductive oW(K:AC)(H:Hp)(Z:Zs):List V->List M->List Addr->Prop
 |nil:oW K H Z [] [] []
 |cons {x:V} {m:M} {G:List Addr} {xs:List V} {ms:List M} {G':List Addr}:Ow K H Z x m G->oW K H Z xs ms G'->oW K H Z (x::xs) (m::ms) (G++G')
noncomputable def bP:List bY->Ev->Option (List M×Ev)
 |[],ρ=>some ([],ρ)
 |.t m::os,ρ=>(bP os ρ).bind λq=>some (m::q.1,q.2)
 |.p i::os,ρ=>(bG ρ i).bind λm=>(bP os (ρ.set i none)).bind λq=>some (m::q.1,q.2)
 |.q _ _::_,_=>none
noncomputable def ez:List bY->List M->Ev->Ev
 |.p i::os,m::ms,ρ=>ez os ms (ρ.set i (some m))
 |_::os,_::ms,ρ=>ez os ms ρ
 |_,_,ρ=>ρ
def rV(ρ:Ev):List bY->Prop
 |[]=>True
 |.p i::os=>ρ[i]? = some none/\.p i∉os/\rV ρ os
 |_::os=>rV ρ os
section
variable{K:AC}{H H':Hp}{Z Z':Zs}{σ:L2.St}
theorem oW.length:∀{xs:List V}{ms:List M}{G:List Addr},oW K H Z xs ms G->xs.length=ms.length:=by
 intro xs ms G h
 induction h with
 |nil=>rfl
 |cons _ r ih=>rw[BM,BM,ih]
theorem qe{ρ:Ev}{i j:Nat}{m:M}(h:bG (ρ.set j none) i=some m):i≠j/\bG ρ i=some m:=by
 have h:=aC.mp h;rw[EB] at h
 split at h
 ·next e=>split at h <;> cases h
 ·next e=>exact⟨λz=>e z.symm,aC.mpr h⟩
theorem t6:∀{os:List bY}{ρ:Ev}{r:List M×Ev}{i:Nat},bP os ρ=some r->.p i∈os->∃m,bG ρ i=some m:=by
 intro os
 induction os with
 |nil=>intro ρ r i e h; simp at h
 |cons o os ih=>
  intro ρ r i e h;cases o with
  |t m=>
   obtain⟨q,e1,_⟩:=oB e;exact ih e1 (by simpa using h)
  |p j=>
   obtain⟨m,e1,e⟩:=oB e;obtain⟨q,e2,_⟩:=oB e;rcases lK h with h | h
   ·cases h; exact⟨m,e1⟩
   ·obtain⟨m',h'⟩:=ih e2 h
    exact⟨m',(qe h').2⟩
  |q _ _=>cases e
theorem oX:∀{os:List bY}{ρ:Ev}{ms:List M}{ρ':Ev}{i:Nat},bP os ρ=some (ms,ρ')->ρ[i]? = some none->ρ'[i]? = some none:=by
 intro os
 induction os with
 |nil=>intro ρ ms ρ' i e h; cases e; exact h
 |cons o os ih=>
  intro ρ ms ρ' i e h;cases o with
  |t m=>
   obtain⟨⟨ms,ρ1⟩,e1,e⟩:=oB e;cases e;exact ih e1 h
  |p j=>
   obtain⟨m,e1,e⟩:=oB e;obtain⟨⟨ms,ρ1⟩,e2,e⟩:=oB e;cases e;refine ih e2 ?_;rw[EB]
   split
   ·next z=>subst z; rw[if_pos (CB.mp h).1]
   ·exact h
  |q _ _=>cases e
theorem kL:∀{os:List bY}{ρ:Ev}{ms:List M}{ρ':Ev},bP os ρ=some (ms,ρ')->rV ρ' os:=by
 intro os
 induction os with
 |nil=>exact λ_=>DT
 |cons o os ih=>
  intro ρ ms ρ' e;cases o with
  |t m=>
   obtain⟨⟨ms,ρ1⟩,e1,e⟩:=oB e;cases e;exact show rV ρ1 os from ih e1
  |p j=>
   obtain⟨m,e1,e⟩:=oB e;obtain⟨⟨ms,ρ1⟩,e2,e⟩:=oB e;cases e;have hl:=(CB.mp (aC.mp e1)).1;refine⟨oX e2 (by rw[DO hl]),λh=>?_,ih e2⟩
   obtain⟨m',h'⟩:=t6 e2 h;exact(qe h').1 rfl
  |q _ _=>cases e
theorem aT{A B:List Addr}(h:(A++B).Nodup):A.Nodup/\B.Nodup/\∀a∈A,a∉B:=by
 have h':=C2.mp h;exact⟨h'.1,h'.2.1,λa x y=>h'.2.2 a x a y rfl⟩
theorem nC:∀{os:List bY}{xs:List V}{ρ:Ev}{F G:List Addr}{ms:List M}{ρ':Ev},aK K H Z σ ρ F->gV K H Z σ xs os G->(F++G).Nodup->bP os ρ=some (ms,ρ') ->
  ∃A F',oW K H Z xs ms A/\aK K H Z σ ρ' F'/\(F'++A).Nodup/\∀a∈F'++A,a∈F++G:=by
 intro os
 induction os with
 |nil=>
  intro xs ρ F G ms ρ' S r nd e;cases r;cases e;exact⟨[],F,.nil,S,nd,λ_ h=>h⟩
 |cons o os ih=>
  intro xs ρ F G ms ρ' S r nd e;cases r with | @cons _ _ G1 _ _ G2 q r=>
  cases q with
  |q _ _ _=>cases e
  |t q=>
   obtain⟨⟨ms,ρ1⟩,e1,e⟩:=oB e;cases e;obtain⟨n1,n2,n3⟩:=aT nd;obtain⟨n4,n5,n6⟩:=aT n2;obtain⟨A,F',h1,h2,h3,h4⟩:=ih S r (aJ n1 n5 λa h z=>n3 a h (lR _ z)) e1
   obtain⟨k1,k2,k3⟩:=aT h3;have far:∀a∈G1,a∉F++G2:=λa h z=>by
    rcases lM z with z | z
    ·exact n3 a z (lL _ h)
    ·exact n6 a h z
   refine⟨G1++A,F',.cons q h1,h2,aJ k1 (aJ n4 k2 λa h z=>far a h (h4 a (lR _ z))) λa h z=>?_,λa h=>?_⟩
   ·rcases lM z with z | z
    ·exact far a z (h4 a (lL _ h))
    ·exact k3 a h z
   ·rcases lM h with h | h
    ·rcases lM (h4 a (lL _ h)) with z | z
     ·exact lL _ z
     ·exact lR _ (lR _ z)
    rcases lM h with h | h
    ·exact lR _ (lL _ h)
    ·rcases lM (h4 a (lR _ h)) with z | z
     ·exact lL _ z
     ·exact lR _ (lR _ z)
  |p q=>
   obtain⟨m,e1,e⟩:=oB e;obtain⟨⟨ms,ρ1⟩,e2,e⟩:=oB e;cases e;rw[DH] at nd ⊢;obtain⟨n1,n2,n3⟩:=aT nd;obtain⟨x',G',F1,t1,t2,t3,t4,t5⟩:=S.take n1 (aC.mp e1);rw[q] at t1; cases t1;obtain⟨u1,u2,u3⟩:=aT t4;obtain⟨A,F',h1,h2,h3,h4⟩:=ih t3 r (aJ u1 n2 λa h z=>n3 a (t5 a (lL _ h)) z) e2
   obtain⟨k1,k2,k3⟩:=aT h3;have far:∀a∈G',a∉F1++G2:=λa h z=>by
    rcases lM z with z | z
    ·exact u3 a z h
    ·exact n3 a (t5 a (lR _ h)) z
   have Ca:∀a∈F1++G2,a∈F++G2:=λa z=>by
    rcases lM z with z | z
    ·exact lL _ (t5 a (lL _ z))
    ·exact lR _ z
   refine⟨G'++A,F',.cons t2 h1,h2,aJ k1 (aJ u2 k2 λa h z=>far a h (h4 a (lR _ z))) λa h z=>?_,λa h=>?_⟩
   ·rcases lM z with z | z
    ·exact far a z (h4 a (lL _ h))
    ·exact k3 a h z
   ·rcases lM h with h | h
    ·exact Ca a (h4 a (lL _ h))
    rcases lM h with h | h
    ·exact lL _ (t5 a (lR _ h))
    ·exact Ca a (h4 a (lR _ h))
theorem rV.set{ρ:Ev}{i:Nat}{m:M}:∀{os:List bY},rV ρ os->.p i∉os->rV (ρ.set i (some m)) os
 |[],_,_=>DT
 |.t _::os,h,n=>rV.set (os:=os) h λz=>n (lO _ z)
 |.q _ _::os,h,n=>rV.set (os:=os) h λz=>n (lO _ z)
 |.p j::os,h,n=>by
  obtain⟨h1,h2,h3⟩:=h;refine⟨?_,h2,rV.set h3 λz=>n (lO _ z)⟩
  rw[EB,if_neg λz=>n (by rw[z]; exact lS)]
  exact h1
theorem qf{H0:Hp}{Z0:Zs}:∀{os:List bY}{xs:List V}{ρ:Ev}{F G0 A:List Addr}{ms:List M},aK K H Z σ ρ F->gV K H0 Z0 σ xs os G0->oW K H Z xs ms A->(F++A).Nodup->rV ρ os ->
  ∃F',aK K H Z σ (ez os ms ρ) F'/\F'.Nodup/\∀a∈F',a∈F++A:=by
 intro os
 induction os with
 |nil=>
  intro xs ρ F G0 A ms S r hs nd _;cases r;cases hs;exact⟨F,S,(aT nd).1,λa h=>lL _ h⟩
 |cons o os ih=>
  intro xs ρ F G0 A ms S r hs nd hol;cases r with | cons q r=>
  cases hs with | @cons _ m' G _ ms G' h hs=>
  obtain⟨n1,n2,n3⟩:=aT nd;obtain⟨n4,n5,n6⟩:=aT n2;have fin:rV ρ os->∃F',aK K H Z σ (ez os ms ρ) F'/\F'.Nodup/\∀a∈F',a∈F++(G++G'):=λhol=>by
   obtain⟨F',h1,h2,h3⟩:=ih S r hs (aJ n1 n5 λa h z=>n3 a h (lR _ z)) hol
   refine⟨F',h1,h2,λa h=>?_⟩
   rcases lM (h3 a h) with z | z
   ·exact lL _ z
   ·exact lR _ (lR _ z)
  cases q with
  |t _=>exact fin hol
  |q _ _ _=>exact fin hol
  |p q=>
   obtain⟨l1,l2,l3⟩:=hol;obtain⟨F1,p1,p2,p3⟩:=S.put h (aJ n1 n4 λa h z=>n3 a h (lL _ z)) l1
   rw[fY q] at p1;obtain⟨F',h1,h2,h3⟩:=ih p1 r hs (aJ p2 n5 λa h z=>by
    rcases lM (p3 a h) with y | y
    ·exact n3 a y (lR _ z)
    ·exact n6 a y z) (l3.set l2)
   refine⟨F',h1,h2,λa h=>?_⟩
   rcases lM (h3 a h) with z | z
   ·rcases lM (p3 a z) with z | z
    ·exact lL _ z
    ·exact lR _ (lL _ z)
   ·exact lR _ (lR _ z)
end
abbrev FF:=List M->Option (M×List M)
inductive fZ(K:AC)(g:FF)(vs:List V)(H:Hp)(Q:VK)(_u:XK):Prop
 |mk (Z:Zs) (ms:List M) (A:List Addr) (m:M) (ms':List M):oW K H Z vs ms A->Wf H Z A->g ms=some (m,ms')->(∀x H' Z' A' G,oW K H' Z' vs ms' A'->Ow K H' Z' x m G->aD H Z A H' Z' (A'++G)->Q x H')->fZ K g vs H Q _u
noncomputable def ie(g:FF)(fa:FA):FE:=λρ=>(fa ρ).bind λp=>(bP p.1 p.2).bind λq=>(g q.1).bind λr=>some (.t r.1,ez p.1 r.2 q.2)
section
variable{X:Cx}{pos:Pos}
theorem called{g:FF}{fa:FA}{σ:L2.St}{H:Hp}{Q:VK}{E:XK}(hq:vE X.K (ie g fa) σ H Q):sL (fZ X.K g) [] E (vA X.K fa) σ H Q:=by
 obtain⟨Z,ρ,F,o,ρ',S,w,e,q⟩:=hq;obtain⟨⟨os,ρ1⟩,e1,e⟩:=oB e;obtain⟨⟨ms,ρ2⟩,e2,e⟩:=oB e;obtain⟨⟨m,ms'⟩,e3,e⟩:=oB e;cases e;refine⟨Z,ρ,F,os,ρ1,S,w,e1,λxs H1 Z1 F1 G1 S1 O1 f1=>?_⟩
 show fZ X.K g (xs++[]) H1 Q E;rw[Bn];obtain⟨A,Fh,h1,h2,h3,h4⟩:=nC S1 O1 f1.nd e2;obtain⟨n1,n2,n3⟩:=aT h3;refine⟨Z1,ms,A,m,ms',h1,⟨n2,λa h=>f1.dz a (h4 a (lR _ h)),f1.za⟩,e3,λx H2 Z2 A' G k1 k2 f2=>?_⟩
 have wA:Wf H1 Z1 A:=⟨n2,λa h=>f1.dz a (h4 a (lR _ h)),f1.za⟩
 have n3':∀a∈A,a∉Fh:=λa h z=>n3 a z h
 have S2:aK X.K H2 Z2 σ ρ2 Fh:=h2.mono (f2.grow wA) λa h o e=>f2.keep a o (n3 a h) e
 have f3:=f2.frame (G:=Fh) ⟨aJ n2 n1 n3',λa h=>by
  rcases lM h with h | h
  ·exact f1.dz a (h4 a (lR _ h))
  ·exact f1.dz a (h4 a (lL _ h)),f1.za⟩ h2.al
 obtain⟨m1,m2,m3,m4,m5,m6⟩:=Bp f3.nd;obtain⟨F',p1,p2,p3⟩:=qf S2 O1 k1 (aJ m3 m1 λa h z=>m5 a z h) (kL e2)
 have f4:aD H Z F H1 Z1 (A++Fh):=f1.sub (aJ n2 n1 n3') λa h=>h4 a (by
  rcases lM h with h | h
  ·exact lR _ h
  ·exact lL _ h)
 refine q x H2 Z2 F' G p1 (.t k2) ((f4.trans f3).sub (aJ p2 m2 λa h z=>?_) λa h=>?_)
 ·rcases lM (p3 a h) with y | y
  ·exact m6 a z y
  ·exact m4 a y z
 ·rcases lM h with h | h
  ·rcases lM (p3 a h) with y | y
   ·exact lR _ y
   ·exact lL _ (lL _ y)
  ·exact lL _ (lR _ h)
theorem ve_fn{x:Str}{ps:List Str}{k k':Nat}{g:FF}{e:Expr}{es:List Expr}{fa:FA}{p:Pos}(C:cX X.prog X.w X.K X.mg X.base x ps k (fZ X.K g))(hr:dG k' X.A)(hg:Gl X x)(ha:VA X (e::es) fa)(hk:k<=k':=by first | decide | exact C1 _ | lia)(hdb:(x == ("__debug__" : Str))=false:=by decide)
  (he:C9 (e::es) X.env=(false,eval e X.env)::C9 es X.env:=by rfl) (hpl:(ED pos (C9 es X.env)).any (·.1)=false:=by rfl):VE X (.Call (.Name x p) (e::es) [] pos) (ie g fa):=aR (pe_fn C hr hg ha hk hdb he hpl) λ_ _ _ hq=>called hq
end
inductive Out where
 |nx (ρ:Ev)
 |bk (ρ:Ev)
 |ct (ρ:Ev)
 |rt (m:M) (ρ:Ev)
abbrev FS:=Ev->Option Out
abbrev Pv:=Nat->Option V
def Pin(pv:Pv)(σ:L2.St):Prop:=∀i x,pv i=some x->σ[i]? = some (some x)
def j6(K:AC)(pv:Pv)(D:Ends)(H:Hp)(Z:Zs)(F:List Addr):Out->Prop
 |.nx ρ'=>∀σ' H' Z' F',aK K H' Z' σ' ρ' F'->aD H Z F H' Z' F'->Pin pv σ'->D.nx σ' H'
 |.bk ρ'=>∀σ' H' Z' F',aK K H' Z' σ' ρ' F'->aD H Z F H' Z' F'->Pin pv σ'->D.bk σ' H'
 |.ct ρ'=>∀σ' H' Z' F',aK K H' Z' σ' ρ' F'->aD H Z F H' Z' F'->Pin pv σ'->D.ct σ' H'
 |.rt m ρ'=>∀x σ' H' Z' F' G,aK K H' Z' σ' ρ' F'->Ow K H' Z' x m G->aD H Z F H' Z' (F'++G)->Pin pv σ'->D.rt x H'
inductive vS(K:AC)(pv:Pv)(f:FS)(D:Ends)(σ:L2.St)(H:Hp):Prop
 |mk (Z:Zs) (ρ:Ev) (F:List Addr) (out:Out):aK K H Z σ ρ F->Wf H Z F->Pin pv σ->f ρ=some out->j6 K pv D H Z F out->vS K pv f D σ H
theorem j6.trans{K:AC}{pv:Pv}{D:Ends}{H H':Hp}{Z Z':Zs}{F F':List Addr}{o:Out}(h:j6 K pv D H Z F o)(f:aD H Z F H' Z' F'):j6 K pv D H' Z' F' o:=by
 cases o with
 |nx ρ=>exact λσ1 H1 Z1 F1 s1 f1 p1=>h σ1 H1 Z1 F1 s1 (f.trans f1) p1
 |bk ρ=>exact λσ1 H1 Z1 F1 s1 f1 p1=>h σ1 H1 Z1 F1 s1 (f.trans f1) p1
 |ct ρ=>exact λσ1 H1 Z1 F1 s1 f1 p1=>h σ1 H1 Z1 F1 s1 (f.trans f1) p1
 |rt m ρ=>exact λx σ1 H1 Z1 F1 G s1 o1 f1 p1=>h x σ1 H1 Z1 F1 G s1 o1 (f.trans f1) p1
abbrev yj(pv:Pv)(pin:List Nat):Prop:=∀j x,pv j=some x->j∈pin
def VS(X:Cx)(pin:List Nat)(st:Stmt)(f:FS):Prop:=∀pv,yj pv pin->PS X st (vS X.K pv f)
def vg(X:Cx)(pin:List Nat)(st:List Stmt)(f:FS):Prop:=∀pv,yj pv pin->nR X st (vS X.K pv f)
section
variable{X:Cx}{pos:Pos}{pin:List Nat}
theorem c6{st:Stmt}{t t':TS}(h:PS X st t)(i:∀D σ H,t' D σ H->t D σ H):PS X st t':=λpins s σ H D I q=>h pins s σ H D I (i D σ H q)
theorem qg{st:List Stmt}{t t':TS}(h:nR X st t)(i:∀D σ H,t' D σ H->t D σ H):nR X st t':=λpins s σ H D I q=>h pins s σ H D I (i D σ H q)
noncomputable def aW:FS:=λρ=>some (.nx ρ)
noncomputable def aH(f g:FS):FS:=λρ=>(f ρ).bind λo=>match o with
 |.nx ρ1=>g ρ1
 |o=>some o
theorem t7{pv:Pv}{D:Ends}{σ:L2.St}{H:Hp}(hq:vS X.K pv aW D σ H):xY D σ H:=by
 obtain⟨Z,ρ,F,o,S,w,P,e,q⟩:=hq;cases e;exact q σ H Z F S (aD.refl w) P
theorem wN:vg X pin [] aW:=λpv hp=>qg vp λ_ _ _ hq=>t7 (X:=X) hq
theorem wO{pv:Pv}{f g:FS}{D:Ends}{σ:L2.St}{H:Hp}(hq:vS X.K pv (aH f g) D σ H):tSeq (vS X.K pv f) (vS X.K pv g) D σ H:=by
 obtain⟨Z,ρ,F,o,S,w,P,e,q⟩:=hq;obtain⟨o1,e1,e⟩:=oB e;refine⟨Z,ρ,F,o1,S,w,P,e1,?_⟩;cases o1 with
 |nx ρ1=>exact λσ1 H1 Z1 F1 S1 f1 P1=>⟨Z1,ρ1,F1,o,S1,f1.wf,P1,e,q.trans f1⟩
 |bk ρ1=>cases e; exact q
 |ct ρ1=>cases e; exact q
 |rt m ρ1=>cases e; exact q
theorem t8{st:Stmt}{rest:List Stmt}{f g:FS}(h1:VS X pin st f)(h2:vg X pin rest g):vg X pin (st::rest) (aH f g):=λpv hp=>qg (r8 (h1 pv hp) (h2 pv hp)) λ_ _ _ hq=>wO hq
theorem wQ{st:Stmt}{f:FS}(h1:VS X pin st f):vg X pin [st] f:=λpv hp=>vq (h1 pv hp)
noncomputable def cA(c:FT)(f g:FS):FS:=λρ=>(c ρ).bind λp=>if p.1=true then f p.2 else g p.2
theorem vs_if{c:Expr}{a b:List Stmt}{fc:FT}{f g:FS}(hc:VT X c fc)(ha:vg X pin a f)(hb:vg X pin b g):VS X pin (.If c a b pos) (cA fc f g):=λpv hp=>c6 (ps_if hc (ha pv hp) (hb pv hp)) λD σ H hq=>by
 obtain⟨Z,ρ,F,o,S,w,P,e,q⟩:=hq;obtain⟨⟨b1,ρ1⟩,e1,e⟩:=oB e;refine⟨Z,ρ,F,b1,ρ1,S,w,e1,λH1 Z1 F1 S1 f1=>?_⟩
 cases b1 with
 |true=>exact iteT ⟨Z1,ρ1,F1,o,S1,f1.wf,P,e,q.trans f1⟩
 |false=>exact iteF ⟨Z1,ρ1,F1,o,S1,f1.wf,P,e,q.trans f1⟩
noncomputable def cB(f:FE):FS:=λρ=>(f ρ).bind λp=>some (.nx p.2)
theorem wR{e:Expr}{f:FE}(h:VE X e f)(hs:Dh e none pos.line X.env=pure false:=by rfl):VS X pin (.Expr e pos) (cB f):=λpv hp=>c6 (vt h hs) λD σ H hq=>by
 obtain⟨Z,ρ,F,o,S,w,P,e,q⟩:=hq;obtain⟨⟨o1,ρ1⟩,e1,e⟩:=oB e;cases e;exact⟨Z,ρ,F,o1,ρ1,S,w,e1,λx H1 Z1 F1 G1 S1 O1 f1=>q σ H1 Z1 F1 S1 f1.left P⟩
noncomputable def lU:bY->Ev->Option (M×Ev)
 |.t m,ρ=>some (m,ρ)
 |.p i,ρ=>(bG ρ i).bind λm=>some (m,ρ.set i none)
 |.q i k,ρ=>(cu (.q i k) ρ).bind λp=>some (.v p.1,p.2)
theorem moved{K:AC}{H H0:Hp}{Z Z0:Zs}{F F0 G:List Addr}{σ:L2.St}{ρ ρ':Ev}{x:V}{o:bY}{m:M}(S:aK K H Z σ ρ F)(h:jQ K H Z σ x o G)(f:aD H0 Z0 F0 H Z (F++G))(e:lU o ρ=some (m,ρ')) :
  ∃Z' F' G',aK K H Z' σ ρ' F'/\Ow K H Z' x m G'/\aD H0 Z0 F0 H Z' (F'++G'):=by
 cases o with
 |t m1=>
  cases e;cases h with
  |t q=>exact⟨Z,F,G,S,q,f⟩
 |p i=>
  obtain⟨m1,e1,e⟩:=oB e;cases e;cases h with
  |p q=>
   rw[Bn] at f;obtain⟨x',G',F1,t1,t2,t3,t4,t5⟩:=S.take f.nd (aC.mp e1);rw[q] at t1; cases t1;exact⟨Z,F1,G',t3,t2,f.sub t4 t5⟩
 |q i k=>
  obtain⟨⟨d,ρ1⟩,e1,e⟩:=oB e;cases e;obtain⟨Z',F',h1,h2,h3,_⟩:=dN S h f e1;exact⟨Z',F',[],h1,.v h2,h3.nil⟩
noncomputable def bJ(f:FE):FS:=λρ=>(f ρ).bind λp=>(lU p.1 p.2).bind λq=>some (.rt q.1 q.2)
theorem zY{e:Expr}{f:FE}(h:VE X e f):VS X pin (.Return (some e) pos) (bJ f):=λpv hp=>c6 (yI h) λD σ H hq=>by
 obtain⟨Z,ρ,F,o,S,w,P,e,q⟩:=hq;obtain⟨⟨o1,ρ1⟩,e1,e⟩:=oB e;obtain⟨⟨m,ρ2⟩,e2,e⟩:=oB e;cases e;refine⟨Z,ρ,F,o1,ρ1,S,w,e1,λx H1 Z1 F1 G1 S1 O1 f1=>?_⟩
 obtain⟨Z2,F2,G2,h1,h2,h3⟩:=moved S1 O1 f1 e2;exact q x σ H1 Z2 F2 G2 h1 h2 h3 P
noncomputable def eB(i:Nat)(m:M)(ρ:Ev):Option Ev:=if i<ρ.length then some (ρ.set i (some m)) else none
theorem Pin.set{pv:Pv}{σ:L2.St}{i:Nat}{x:Option V}(P:Pin pv σ)(hp:yj pv pin)(hi:i∉pin):Pin pv (σ.set i x):=λj y e=>by
 rw[EB,if_neg λz=>hi (by subst z; exact hp _ _ e)]
 exact P j y e
theorem aK.eB{K:AC}{H:Hp}{Z:Zs}{F G:List Addr}{σ:L2.St}{ρ ρ':Ev}{x:V}{m:M}{i:Nat}(S:aK K H Z σ ρ F)(h:Ow K H Z x m G)(nd:(F++G).Nodup)(e:VL.eB i m ρ=some ρ'):∃F',aK K H Z (σ.set i (some x)) ρ' F'/\F'.Nodup/\∀a∈F',a∈F++G:=by
 unfold VL.eB at e
 split at e
 ·next hl=>
  cases e;obtain⟨n1,n2,n3⟩:=aT nd;obtain⟨F1,h1,h2,h3⟩:=S.drop i n1;obtain⟨F2,p1,p2,p3⟩:=h1.put h (aJ h2 n2 λa z=>n3 a (h3 a z)) (by rw[DO hl])
  rw[Fs] at p1;refine⟨F2,p1,p2,λa z=>?_⟩
  rcases lM (p3 a z) with z | z
  ·exact lL _ (h3 a z)
  ·exact lR _ z
 ·cases e
noncomputable def bA(i:Nat)(f:FE):FS:=λρ=>(f ρ).bind λp=>(lU p.1 p.2).bind λq=>(eB i q.1 q.2).bind λρ'=>some (.nx ρ')
theorem zZ{i:Nat}{x:Str}{e:Expr}{f:FE}{pos':Pos}(hp0:i∉pin)(hN:X.N.Nodup)(hi:X.N[i]? = some x)(hx:Loc X.env.scope x)(he:VE X e f)(hs:Dh e (some (.Name x pos')) pos.line X.env=pure false:=by rfl)(hf:X.fn x=true\/X.env.scope.names.lookup x=some .local:=by first | exact .inl rfl | exact .inr rfl | assumption) :
  VS X pin (.Assign [.Name x pos'] e pos) (bA i f):=λpv hp=>c6 (yK hN hi hx he hs hf) λD σ H hq=>by
 obtain⟨Z,ρ,F,o,S,w,P,e,q⟩:=hq;obtain⟨⟨o1,ρ1⟩,e1,e⟩:=oB e;obtain⟨⟨m,ρ2⟩,e2,e⟩:=oB e;obtain⟨ρ3,e3,e⟩:=oB e;cases e;refine⟨Z,ρ,F,o1,ρ1,S,w,e1,λy H1 Z1 F1 G1 S1 O1 f1=>?_⟩
 obtain⟨Z2,F2,G2,h1,h2,h3⟩:=moved S1 O1 f1 e2;obtain⟨F3,k1,k2,k3⟩:=h1.eB h2 h3.nd e3;exact q _ H1 Z2 F3 k1 (h3.sub k2 k3) (P.set hp hp0)
noncomputable def t9(i:Nat)(g:M->M->Option M)(f:FE):FS:=λρ=>(bG ρ i).bind λm1=>(f ρ).bind λp=>(peek p.2 p.1).bind λm2=>match m1 with
 |.v _=>(g m1 m2).bind λm=>(eB i m p.2).bind λρ'=>some (.nx ρ')
 |_=>none
theorem z8{i:Nat}{x:Str}{e:Expr}{f:FE}{op:Fm}{ti:AS}{pos':Pos}{g:M->M->Option M}(hg:yf X.K ti g)(hp0:i∉pin)(hN:X.N.Nodup)(hi:X.N[i]? = some x)(hx:Loc X.env.scope x)(he:VE X e f)(ho:Bx X op ti)(hf:X.fn x=true\/X.env.scope.names.lookup x=some .local:=by first | exact .inl rfl | exact .inr rfl | assumption) :
  VS X pin (.AugAssign (.Name x pos') op e pos) (t9 i g f):=λpv hp=>c6 (yL hN hi hx he ho hf) λD σ H hq=>by
 obtain⟨Z,ρ,F,o,S,w,P,e,q⟩:=hq;obtain⟨m1,e0,e⟩:=oB e;obtain⟨⟨o1,ρ1⟩,e1,e⟩:=oB e;obtain⟨m2,e2,e⟩:=oB e;cases m1 with
 |v d=>
  obtain⟨m,e3,e⟩:=oB e;obtain⟨ρ2,e4,e⟩:=oB e;cases e;obtain⟨y,G,h1,h2,h3⟩:=S.get (aC.mp e0);cases h2 with
  |v fz=>
   refine⟨y,h1,Z,ρ,F,o1,ρ1,S,w,e1,λz H1 Z1 F1 G1 S1 O1 f1=>?_⟩
   refine hg H1 Z1 y z _ _ m _ f1.za ⟨[],.v (fz.mono (f1.grow w))⟩ (O1.peek S1 e2) e3 λz' H2 Z2 G2 h n=>?_
   have f2:=f1.left.trans (n.news f1.left.wf S1.al);obtain⟨F3,k1,k2,k3⟩:=(S1.news n).eB h f2.nd e4;exact q _ H2 Z2 F3 k1 (f2.sub k2 k3) (P.set hp hp0)
 |lst _=>cases e
 |aI _=>cases e
 |bz _=>cases e
 |dtp _=>cases e
 |lls _=>cases e
 |dre _ _ _=>cases e
theorem wU:yf X.K (B4 λi j=>i+j) (eg (λ_ _=>true) λi j=>.int (i+j)):=λH Z x y m1 m2 m Q za h1 h2 e q=>by
 unfold eg at e
 split at e
 ·split at e
  ·cases e
   obtain rfl:=h1.int; obtain rfl:=h2.int;exact⟨_,_,rfl,rfl,bQ q za (.int _)⟩
  ·cases e
 ·cases e
abbrev FG:=AT->Ev->Option Ev
abbrev rz:=List AT->Ev->Option Ev
inductive vG(K:AC)(pv:Pv)(f:FG)(x:V)(σ:L2.St)(H:Hp)(Q:L2.St->Hp->Prop):Prop
 |mk (Z:Zs) (ρ:Ev) (F:List Addr) (d:AT) (ρ':Ev):aK K H Z σ ρ F->F.Nodup->Pin pv σ->Fz K H Z x d->f d ρ=some ρ'->(∀σ' F',aK K H Z σ' ρ' F'->F'.Nodup->(∀a∈F',a∈F)->Pin pv σ'->Q σ' H)->vG K pv f x σ H Q
inductive Cb(K:AC)(pv:Pv)(f:rz)(xs:List V)(σ:L2.St)(H:Hp)(Q:L2.St->Hp->Prop):Prop
 |mk (Z:Zs) (ρ:Ev) (F:List Addr) (ds:List AT) (ρ':Ev):aK K H Z σ ρ F->F.Nodup->Pin pv σ->aZ K H Z xs ds->f ds ρ=some ρ'->(∀σ' F',aK K H Z σ' ρ' F'->F'.Nodup->(∀a∈F',a∈F)->Pin pv σ'->Q σ' H)->Cb K pv f xs σ H Q
def VG(X:Cx)(pin:List Nat)(tg:Expr)(f:FG):Prop:=∀pv,yj pv pin->PG X tg (vG X.K pv f)
def Bq(X:Cx)(pin:List Nat)(tg:List Expr)(f:rz):Prop:=∀pv,yj pv pin->xZ X tg (Cb X.K pv f)
theorem ua{tg:Expr}{t t':TG}(h:PG X tg t)(i:∀x σ H Q,t' x σ H Q->t x σ H Q):PG X tg t':=λpins s σ H x u Q I r q=>h pins s σ H x u Q I r (i x σ H Q q)
theorem qh{tg:List Expr}{t t':vz}(h:xZ X tg t)(i:∀x σ H Q,t' x σ H Q->t x σ H Q):xZ X tg t':=λpins s σ H x u Q I r q=>h pins s σ H x u Q I r (i x σ H Q q)
noncomputable def af(i:Nat):FG:=λd ρ=>eB i (.v d) ρ
theorem wV{i:Nat}{x:Str}(hp0:i∉pin)(hN:X.N.Nodup)(hi:X.N[i]? = some x)(hx:Loc X.env.scope x)(hf:X.fn x=true\/X.env.scope.names.lookup x=some .local:=by first | exact .inl rfl | exact .inr rfl | assumption):VG X pin (.Name x pos) (af i):=λpv hp=>ua (vD hN hi hx hf) λx σ H Q hq=>by
 obtain⟨Z,ρ,F,d,ρ',S,w,P,fz,e,q⟩:=hq;obtain⟨F3,k1,k2,k3⟩:=S.eB (.v fz) (by rw[Bn]; exact w) e
 rw[Bn] at k3;exact q _ F3 k1 k2 k3 (P.set hp hp0)
noncomputable def bE:rz:=λds ρ=>match ds with
 |[]=>some ρ
 |_=>none
noncomputable def aA(f:FG)(g:rz):rz:=λds ρ=>match ds with
 |d::ds=>(f d ρ).bind λρ1=>g ds ρ1
 |[]=>none
theorem wW:Bq X pin [] bE:=λpv hp=>qh vF λxs σ H Q hq=>by
 obtain⟨Z,ρ,F,ds,ρ',S,w,P,fz,e,q⟩:=hq;cases fz with
 |nil=>cases e; exact⟨rfl,q σ F S w (λ_ h=>h) P⟩
 |cons _ _=>cases e
theorem uc{e:Expr}{es:List Expr}{f:FG}{g:rz}(h1:VG X pin e f)(h2:Bq X pin es g)(hs:(Dm (e::es) X.env).map (·.2)=FQ e X.env::(Dm es X.env).map (·.2):=by rfl):Bq X pin (e::es) (aA f g):=λpv hp=>qh (se (h1 pv hp) (h2 pv hp) hs) λxs σ H Q hq=>by
 obtain⟨Z,ρ,F,ds,ρ',S,w,P,fz,e,q⟩:=hq;cases fz with
 |nil=>cases e
 |cons z1 z2=>
  obtain⟨ρ1,e1,e⟩:=oB e;exact⟨_,_,rfl,Z,ρ,F,_,ρ1,S,w,P,z1,e1,λσ1 F1 S1 w1 s1 P1=>⟨Z,ρ1,F1,_,ρ',S1,w1,P1,z2,e,λσ2 F2 S2 w2 s2 P2=>q σ2 F2 S2 w2 (λa h=>s1 a (s2 a h)) P2⟩⟩
noncomputable def bC(n:Nat)(g:rz):FG:=λd ρ=>match d with
 |.tuple ds=>if ds.length=n then g ds ρ else none
 |_=>none
theorem z9{es:List Expr}{k n:Nat}{g:rz}(hc:X.calm=true)(h:Bq X pin es g)(hpg:∀t:vz,xZ X es t->PG X (.Tuple es k pos) (gTup X.K n t)):VG X pin (.Tuple es k pos) (bC n g):=λpv hp=>ua (hpg _ (h pv hp)) λx σ H Q hq=>by
 obtain⟨Z,ρ,F,d,ρ',S,w,P,fz,e,q⟩:=hq;unfold bC at e
 split at e
 ·split at e
  ·next hl=>
   obtain⟨a,xs,e1,e2,e3⟩:=fz.eS;exact⟨a,xs,e1,e2,by rw[e3.length]; exact hl,Z,ρ,F,_,ρ',S,w,P,e3,e,q⟩
  ·cases e
 ·cases e
noncomputable def ud(f:FE)(g:FG):FS:=λρ=>(f ρ).bind λp=>(cu p.1 p.2).bind λq=>(g q.1 q.2).bind λρ'=>some (.nx ρ')
theorem Aa{tg e:Expr}{f:FE}{g:FG}(he:VE X e f)(hg:VG X pin tg g)(hs:Fv [tg] e pos.line X.env=pure false:=by rfl)(hw:Fw [tg] e X.env=pure none:=by rfl)
  (hps:∀(te:TE)(t:TG),PE X e te->PG X tg t->PS X (.Assign [tg] e pos) (jT te t):=by exact λ_ _ h1 h2=>kY h1 h2):VS X pin (.Assign [tg] e pos) (ud f g):=λpv hp=>c6 (hps _ _ he (hg pv hp)) λD σ H hq=>by
 obtain⟨Z,ρ,F,o,S,w,P,e,q⟩:=hq;obtain⟨⟨o1,ρ1⟩,e1,e⟩:=oB e;obtain⟨⟨d,ρ2⟩,e2,e⟩:=oB e;obtain⟨ρ3,e3,e⟩:=oB e;cases e;refine⟨Z,ρ,F,o1,ρ1,S,w,e1,λy H1 Z1 F1 G1 S1 O1 f1=>?_⟩
 obtain⟨Z2,F2,h1,h2,h3,_⟩:=dN S1 O1 f1 e2;exact⟨Z2,ρ2,F2,d,ρ3,h1,h3.nd,P,h2,e3,λσ' F' S' w' s' P'=>q σ' H1 Z2 F' S' (h3.sub w' s') P'⟩
noncomputable def parO(i j:Nat):List bY->Ev->Option Out
 |[o1,.t m2],ρ=>(lU o1 ρ).bind λq1=>(eB i q1.1 q1.2).bind λρ1=>(eB j m2 ρ1).bind λρ2=>some (.nx ρ2)
 |_,_=>none
noncomputable def ue(i j:Nat)(fa:FA):FS:=λρ=>(fa ρ).bind λp=>parO i j p.1 p.2
theorem Ab{i j:Nat}{a b:Expr}{fa:FA}{st:Stmt}(hpi:i∉pin)(hpj:j∉pin)(ha:VA X [a,b] fa)(hps:∀t:TA,PA X [a,b] t->PS X st (tPar i j t)):VS X pin st (ue i j fa):=λpv hp=>c6 (hps _ ha) λD σ H hq=>by
  obtain⟨Z,ρ,F,o,S,w,P,e,q⟩:=hq;obtain⟨⟨os,ρ1⟩,e1,e⟩:=oB e;refine⟨Z,ρ,F,os,ρ1,S,w,e1,λxs H1 Z1 F1 G1 S1 O1 f1=>?_⟩
  have e:parO i j os ρ1=some o:=e
  clear e1
  rcases os with _ | ⟨o1,_ | ⟨o2,_ | ⟨o3,os⟩⟩⟩
  · cases e
  · cases e
  · cases o2 with
   |p _=>cases e
   |q _ _=>cases e
   |t m2=>
    obtain⟨⟨m1,ρ2⟩,e2,e⟩:=oB e;cases O1 with
    |@cons x1 _ Ga _ _ _ p1 r1=>
     cases r1 with
     |@cons x2 _ Gb _ _ _ p2 r2=>
         cases r2;obtain⟨ρ3,e3,e⟩:=oB e;obtain⟨ρ4,e4,e⟩:=oB e;cases e;rw[Bn] at f1;have f1':aD H Z F H1 Z1 (F1++Ga++Gb):=f1.assoc';cases p2 with
         |t w2=>
          have al:=w2.al;have key:∃Z' F' G',aK X.K H1 Z' σ ρ2 F'/\Ow X.K H1 Z' x1 m1 G'/\aD H Z F H1 Z' (F'++G'++Gb)/\aG H1 Z1 H1 Z':=by
            cases o1 with
            |t m=>
             cases e2;cases p1 with
             |t w1=>exact⟨Z1,F1,Ga,S1,w1,f1',aG.refl⟩
            |p k=>
             obtain⟨m,e5,e2⟩:=oB e2;cases e2;cases p1 with
             |p q1=>
              rw[Bn] at f1';obtain⟨n1,n2,n3⟩:=aT f1'.nd;obtain⟨x',G',F1',t1,t2,t3,t4,t5⟩:=S1.take n1 (aC.mp e5);rw[q1] at t1; cases t1;refine⟨Z1,F1',G',t3,t2,f1'.sub (aJ t4 n2 λa h z=>n3 a (t5 a h) z) (λa h=>?_),aG.refl⟩
              rcases lM h with h | h
              · exact lL _ (t5 a h)
              · exact lR _ h
            |q k1 k2=>
             obtain⟨⟨d,ρ'⟩,e5,e2⟩:=oB e2;cases e2;obtain⟨Z',F',z1,z2,z3,z4⟩:=freeze S1 p1 f1' e5;exact⟨Z',F',[],z1,.v z2,by rw[Bn]; exact z3,z4⟩
          obtain⟨Z2,F2,G2,h1,h2,h3,h4⟩:=key;obtain⟨n1,n2,n3,n4,n5,n6⟩:=Bp h3.nd;obtain⟨F3,k1,k2,k3⟩:=h1.eB h2 (aJ n1 n2 n4) e3;obtain⟨F4,l1,l2,l3⟩:=k1.eB (w2.mono h4 λ_ _ _ e=>e) (aJ k2 n3 λa h z=>by
            rcases lM (k3 a h) with y | y
            · exact n5 a y z
            · exact n6 a y z) e4
          refine⟨x1,x2,rfl,q _ H1 Z2 F4 l1 (h3.sub l2 λa h=>?_) ((P.set hp hpi).set hp hpj)⟩
          rcases lM (l3 a h) with y | y
          · exact lL _ (k3 a y)
          · exact lR _ y
  · cases o2 <;> cases e
end
structure j7(K:AC)(J:It)(H:Hp)(Z:Zs)(ds:List AT):Prop where
 go:∀H2 Z2,aG H Z H2 Z2->∀k d,ds[k]? = some d->J.go k H2/\∀x H',J.yld k H2 x H'->dw H2 H'/\Fz K H' Z2 x d
 stop:∀H2 Z2,aG H Z H2 Z2->∀k,ds.length<=k->J.stop k H2
abbrev FI:=Ev->Option (List AT×Ev)
inductive vI(K:AC)(f:FI)(σ:L2.St)(H:Hp)(R:It->Hp->Prop):Prop
 |mk (Z:Zs) (ρ:Ev) (F:List Addr) (ds:List AT) (ρ':Ev):aK K H Z σ ρ F->Wf H Z F->f ρ=some (ds,ρ')->(∀J H' Z' F',aK K H' Z' σ ρ' F'->j7 K J H' Z' ds->aD H Z F H' Z' F'->R J H')->vI K f σ H R
abbrev VI(X:Cx)(tg iter:Expr)(f:FI):Prop:=PI X tg iter (vI X.K f)
section
variable{X:Cx}{pos:Pos}{pin:List Nat}{tg:Expr}
theorem oY{it:Expr}{t t':TI}(h:PI X tg it t)(i:∀σ H R,t' σ H R->t σ H R):PI X tg it t':=λpins s σ H R I q=>h pins s σ H R I (i σ H R q)
theorem Ac{it:Expr}{t u:TI}(h:PI X tg it t)(h':PI X tg it u):PI X tg it (λσ H R=>t σ H R\/u σ H R):=λpins s σ H R I q=>q.elim (h pins s σ H R I) (h' pins s σ H R I)
noncomputable def BF:AT->Option (List AT)
 |.tuple ds=>some ds
 |.list ds=>some ds
 |_=>none
noncomputable def aP(f:FE):FI:=λρ=>(f ρ).bind λp=>(cu p.1 p.2).bind λq=>(BF q.1).bind λds=>some (ds,q.2)
theorem wX{K:AC}{H:Hp}{Z:Zs}{a:Addr}{ds:List AT}(h:Fz K H Z (.ref a) (.list ds)):j7 K (By K a) H Z ds:=by
 refine⟨λH2 Z2 g k d hd=>?_,λH2 Z2 g k hk=>?_⟩
 ·obtain⟨a',xs,e,r,fs⟩:=(h.mono g).lst_inv
  cases e;obtain⟨x,h1,h2⟩:=fs.get' hd;refine⟨⟨xs,x,r,h1⟩,λy H' hy=>?_⟩
  obtain⟨rfl,hy⟩:=hy;have:=hy xs r;rw[h1] at this; cases this;exact⟨dw.refl _,h2⟩
 ·obtain⟨a',xs,e,r,fs⟩:=(h.mono g).lst_inv
  cases e;exact⟨xs,r,by rw[fs.length]; exact hk⟩
theorem wY{K:AC}{H:Hp}{Z:Zs}{a:Addr}{xs:List V}{ds:List AT}{k:Nat}{d:AT}{y:V}(r:dg K H a xs)(fs:aZ K H Z xs ds)(hd:ds[k]? = some d)(hy:∀xs,dg K H a xs->xs[k]? = some y):Fz K H Z y d:=by
 obtain⟨x,h1,h2⟩:=fs.get' hd;have:=hy xs r;rw[h1] at this; cases this;exact h2
theorem Ad{K:AC}{H:Hp}{Z:Zs}{a:Addr}{ds:List AT}(h:Fz K H Z (.ref a) (.tuple ds)):j7 K (BO K a) H Z ds:=by
 refine⟨λH2 Z2 g k d hd=>?_,λH2 Z2 g k hk=>?_⟩
 ·obtain⟨a',xs,e,r,fs⟩:=(h.mono g).eS
  cases e;obtain⟨x,h1,h2⟩:=fs.get' hd;refine⟨⟨xs,x,r,h1⟩,λy H' hy=>?_⟩
  obtain⟨rfl,hy⟩:=hy;exact⟨dw.refl _,wY r fs hd hy⟩
 ·obtain⟨a',xs,e,r,fs⟩:=(h.mono g).eS
  cases e;exact⟨xs,r,by rw[fs.length]; exact hk⟩
theorem Ae{l:Expr}{f:FE}(h:VE X l f):VI X tg l (aP f):=oY (Ac (pP h) (yN h)) λσ H R hq=>by
 obtain⟨Z,ρ,F,ds,ρ',S,w,e,q⟩:=hq;obtain⟨⟨o1,ρ1⟩,e1,e⟩:=oB e;obtain⟨⟨d,ρ2⟩,e2,e⟩:=oB e;obtain⟨ds',e3,e⟩:=oB e;cases e;have key:∀x H1 Z1 F1 G1,aK X.K H1 Z1 σ ρ1 F1->jQ X.K H1 Z1 σ x o1 G1->aD H Z F H1 Z1 (F1++G1)->∃Z2,Fz X.K H1 Z2 x d/\∀J,j7 X.K J H1 Z2 ds->R J H1:=λx H1 Z1 F1 G1 S1 O1 f1=>by
  obtain⟨Z2,F2,h1,h2,h3,_⟩:=dN S1 O1 f1 e2;exact⟨Z2,h2,λJ hJ=>q J H1 Z2 F2 h1 hJ h3⟩
 cases d with
 |tuple ds0=>
  cases e3;refine .inr ⟨Z,ρ,F,o1,ρ1,S,w,e1,λx H1 Z1 F1 G1 S1 O1 f1=>?_⟩
  obtain⟨Z2,h2,h3⟩:=key x H1 Z1 F1 G1 S1 O1 f1;obtain⟨a,xs,rfl,r,fs⟩:=h2.eS;exact⟨a,rfl,⟨xs,r⟩,h3 _ (Ad h2)⟩
 |list ds0=>
  cases e3;refine .inl ⟨Z,ρ,F,o1,ρ1,S,w,e1,λx H1 Z1 F1 G1 S1 O1 f1=>?_⟩
  obtain⟨Z2,h2,h3⟩:=key x H1 Z1 F1 G1 S1 O1 f1;obtain⟨a,xs,rfl,r,fs⟩:=h2.lst_inv;exact⟨a,rfl,⟨xs,r⟩,h3 _ (wX h2)⟩
 |_=>cases e3
noncomputable def cC(lo hi:Int):List AT:=(CG (hi-lo).toNat).map λk:Nat=>CO (lo+k)
noncomputable def rA:Int:=1000000000
noncomputable def iD(i:Int):Bool:=decide (-rA<=i/\i<=rA)
theorem rB{i:Int}(h:iD i=true) : -(2 ^ 62)<=i/\i<2 ^ 62:=by
 have h:=of_decide_eq_true h;unfold rA at h;lia
noncomputable def iR:List M->Option (List AT)
 |[.v (.int j)]=>if iD j=true then some (cC 0 j) else none
 |_=>none
noncomputable def fL(g:List M->Option (List AT))(fa:FA):FI:=λρ=>(fa ρ).bind λp=>(gn p.2 p.1).bind λms=>(g ms).bind λds=>some (ds,p.2)
theorem Af{K:AC}{H:Hp}{Z:Zs}(lo hi:Int):j7 K (BA lo (hi-lo).toNat) H Z (cC lo hi):=by
 refine⟨λH2 Z2 g k d hd=>?_,λH2 Z2 g k hk=>?_⟩
 ·unfold cC at hd
  rw[Cu] at hd;obtain⟨j,h1,h2⟩:=D9.mp hd;obtain⟨h3,h4⟩:=CB.mp h1;rw[Dv] at h3;rw[List.getElem_range] at h4;subst h4; subst h2;refine⟨h3,λx H' hx=>?_⟩
  obtain⟨rfl,rfl⟩:=hx;exact⟨dw.refl _,.int _⟩
 ·unfold cC at hk
  rw[C0,Dv] at hk;exact hk
theorem wZ{fa:FA}{σ:L2.St}{H:Hp}{R:It->Hp->Prop}{ms:List M}{ds:List AT}{Z:Zs}{ρ ρ1:Ev}{F:List Addr}{os:List bY}(S:aK X.K H Z σ ρ F)(w:Wf H Z F)(e1:fa ρ=some (os,ρ1))(e2:gn ρ1 os=some ms)
  (q:∀J H' Z' F',aK X.K H' Z' σ ρ1 F'->j7 X.K J H' Z' ds->aD H Z F H' Z' F'->R J H') {T:List V->Hp->Prop} (hT:∀xs H1 Z1,AX X.K H1 Z1 xs ms->(∀J,j7 X.K J H1 Z1 ds->R J H1)->T xs H1):vA X.K fa σ H T :=
 ⟨Z,ρ,F,os,ρ1,S,w,e1,λxs H1 Z1 F1 G1 S1 O1 f1=>hT xs H1 Z1 (O1.peek S1 e2) λJ hJ=>q J H1 Z1 F1 S1 hJ f1.left⟩
theorem w4{a:Expr}{fa:FA}{p:Pos}(hg:Gl X "range")(hm:X.mg "range" = none)(ha:VA X [a] fa)(hs:C9 [a] X.env=[(false,eval a X.env)]:=by rfl):VI X tg (.Call (.Name "range" p) [a] [] pos) (fL iR fa):=oY (qK hg hm ha hs) λσ H R hq=>by
 obtain⟨Z,ρ,F,ds,ρ',S,w,e,q⟩:=hq;obtain⟨⟨os,ρ1⟩,e1,e⟩:=oB e;obtain⟨ms,e2,e⟩:=oB e;obtain⟨ds',e3,e⟩:=oB e;cases e;refine wZ S w e1 e2 q λxs H1 Z1 r h=>?_
 unfold iR at e3
 split at e3
 ·rename_i j
  split at e3
  ·next hl=>
   cases e3;obtain⟨x,rfl,h1⟩:=gC r;obtain rfl:=h1.int;have hj:=rB hl;refine⟨_,rfl,hj.1,hj.2,h _ ?_⟩;have k:=Af (K:=X.K) (H:=H1) (Z:=Z1) 0 j;rw[Int.sub_zero] at k;exact k
  ·cases e3
 ·cases e3
noncomputable def jB(a:List AT):List AT:=List.zipWith (λ(k:Nat)y=>IZ [.int (k:Int),y]) (CG a.length) a
theorem qi{t:Bool}{K:AC}{H:Hp}{Z:Zs}{a:Addr}{A:List AT}(h:∀H2 Z2,aG H Z H2 Z2->∃xs,SG t K H2 a xs/\aZ K H2 Z2 xs A):j7 K (BS t K a) H Z (jB A):=by
 refine⟨λH2 Z2 g k d hd=>?_,λH2 Z2 g k hk=>?_⟩
 ·unfold jB at hd
  rw[List.getElem?_zipWith] at hd;obtain⟨xs,u1,v1⟩:=h H2 Z2 g;cases ea:A[k]? with
  |none=>rw[ea] at hd; split at hd <;> simp_all
  |some da=>
   have hk:=(CB.mp ea).1;rw[ea,FZ hk] at hd;cases hd;obtain⟨x,x1,x2⟩:=v1.get' ea;refine⟨⟨xs,x,u1,x1⟩,λz H' hz=>?_⟩
   obtain⟨p,x',hp,rfl,rfl,zx⟩:=hz;have e:=zx xs u1;rw[x1] at e; cases e;have s:=cW hp (.tup [.int k,x]);exact⟨s,.tup (dg.of ay) (.cons (.int _) (.cons (x2.mono (aG.same s)) .nil))⟩
 ·unfold jB at hk
  rw[List.length_zipWith,Dv] at hk;obtain⟨xs,u1,v1⟩:=h H2 Z2 g;refine⟨xs,u1,?_⟩;rw[v1.length];lia
noncomputable def bN(f:FE):FI:=λρ=>(f ρ).bind λp=>(cu p.1 p.2).bind λq=>match q.1 with
 |.list a=>some (jB a,q.2)
 |.tuple a=>some (jB a,q.2)
 |_=>none
theorem uf{a:Expr}{f:FE}{p tp:Pos}{es:List Expr}{k:Nat}(hg:Gl X "enumerate")(hm:X.mg "enumerate" = none)(ha:VE X a f)(hs:C9 [a] X.env=[(false,eval a X.env)]:=by rfl):VI X (.Tuple es k tp) (.Call (.Name "enumerate" p) [a] [] pos) (bN f):=oY (wB hg hm (dH ha fB hs) hs) λσ H R hq=>by
 obtain⟨Z,ρ,F,ds,ρ',S,w,e,q⟩:=hq;obtain⟨⟨o1,ρ1⟩,e1,e⟩:=oB e;obtain⟨⟨d,ρ2⟩,e2,e⟩:=oB e;refine⟨Z,ρ,F,o1,ρ1,S,w,e1,λx H1 Z1 F1 G1 S1 O1 f1=>?_⟩
 obtain⟨Z2,F2,h1,h2,h3,_⟩:=dN S1 O1 f1 e2;dsimp only at e
 split at e
 ·cases e
  obtain⟨a,xs,rfl,r,fs⟩:=h2.lst_inv;refine⟨false,a,rfl,⟨xs,r⟩,q _ H1 Z2 F2 h1 (qi λH3 Z3 g=>?_) h3⟩
  obtain⟨a',xs',e,r',fs'⟩:=(h2.mono g).lst_inv;cases e;exact⟨xs',r',fs'⟩
 ·cases e
  obtain⟨a,xs,rfl,r,fs⟩:=h2.eS;exact⟨true,a,rfl,⟨xs,r⟩,q _ H1 Z2 F2 h1 (qi λH3 Z3 g=>⟨xs,g.tups.sq r,fs.mono g⟩) h3⟩
 ·cases e
noncomputable def forL(fg:FG)(fb:FS):List AT->Ev->Option Out
 |[],ρ=>some (.nx ρ)
 |d::ds,ρ=>(fg d ρ).bind λρ1=>(fb ρ1).bind λo=>match o with
  |.nx ρ2=>forL fg fb ds ρ2
  |.ct ρ2=>forL fg fb ds ρ2
  |.bk ρ2=>some (.nx ρ2)
  |.rt m ρ2=>some (.rt m ρ2)
noncomputable def cJ(fi:FI)(fg:FG)(fb:FS):FS:=λρ=>(fi ρ).bind λp=>forL fg fb p.1 p.2
theorem w5{fi:FI}{fg:FG}{fb:FS}{pv:Pv}{D:Ends}{σ:L2.St}{H:Hp}(hq:vS X.K pv (cJ fi fg fb) D σ H):tFor (vI X.K fi) (vG X.K pv fg) (vS X.K pv fb) D σ H:=by
 obtain⟨Z,ρ,F,o,S,w,P,e,q⟩:=hq;obtain⟨⟨ds,ρ1⟩,e1,e⟩:=oB e;refine⟨Z,ρ,F,ds,ρ1,S,w,e1,λJ H1 Z1 F1 S1 hJ f1=>?_⟩
 refine⟨λi m σ' H'=>m=ds.length-i/\i<=ds.length/\∃Z' ρ' F',aK X.K H' Z' σ' ρ' F'/\Wf H' Z' F'/\Pin pv σ'/\aG H1 Z1 H' Z'/\∃out,forL fg fb (ds.drop i) ρ'=some out/\j6 X.K pv D H' Z' F' out,⟨_,rfl,DR _,Z1,ρ1,F1,S1,f1.wf,P,aG.refl,o,e,q.trans f1⟩,λi m σ2 H2 hW=>?_⟩
 obtain⟨rfl,hi,Z2,ρ2,F2,S2,w2,P2,g2,out,e2,q2⟩:=hW;rcases Hy hi with hi | rfl
 ·right
  rw[Gh hi] at e2;have hd:ds[i]? = some ds[i]:=Dg hi;obtain⟨go,yl⟩:=hJ.go H2 Z2 g2 i _ hd;obtain⟨ρ3,e3,e2⟩:=oB e2;obtain⟨o3,e4,e2⟩:=oB e2;refine⟨go,λσ' H'=>∃m',m'<ds.length-i/\m'=ds.length-(i+1)/\i+1<=ds.length/\∃Z' ρ' F',aK X.K H' Z' σ' ρ' F'/\Wf H' Z' F'/\Pin pv σ'/\aG H1 Z1 H' Z'/\∃out,forL fg fb (ds.drop (i+1)) ρ'=some out/\j6 X.K pv D H' Z' F' out,λσ' H' h=>h,λx H' hx=>?_⟩
  obtain⟨s,fz⟩:=yl x H' hx;have gs:aG H2 Z2 H' Z2:=aG.same s;have S2':=S2.mono gs λa _ o e=>s a o e
  have fs:aD H2 Z2 F2 H' Z2 F2:=by
   have:=(aD.same s w2.za).news w2 S2.al;rw[Bn] at this;exact this
  refine⟨Z2,ρ2,F2,_,ρ3,S2',w2.nd,P2,fz,e3,λσ3 F3 S3 n3 s3 P3=>?_⟩
  have f3:aD H2 Z2 F2 H' Z2 F3:=fs.sub n3 s3;refine⟨Z2,ρ3,F3,o3,S3,f3.wf,P3,e4,?_⟩;have again:∀ρ4,forL fg fb (ds.drop (i+1)) ρ4=some out->∀σ' H4 Z4 F4,aK X.K H4 Z4 σ' ρ4 F4->aD H' Z2 F3 H4 Z4 F4->Pin pv σ'->∃m',m'<ds.length-i/\m'=ds.length-(i+1)/\i+1<=ds.length/\∃Z' ρ' F',aK X.K H4 Z' σ' ρ' F'/\Wf H4 Z' F'/\Pin pv σ'/\aG H1 Z1 H4 Z'/\∃out,forL fg fb (ds.drop (i+1)) ρ'=some out/\j6 X.K pv D H4 Z' F' out:=λρ4 e5 σ' H4 Z4 F4 S4 f4 P4=>
   ⟨_,by lia,rfl,hi,Z4,ρ4,F4,S4,f4.wf,P4,(g2.trans gs).trans (f4.grow f3.wf),out,e5,q2.trans (f3.trans f4)⟩
  cases o3 with
  |nx ρ4=>exact again ρ4 e2
  |ct ρ4=>exact again ρ4 e2
  |bk ρ4=>cases e2; exact λσ' H4 Z4 F4 S4 f4 P4=>q2 σ' H4 Z4 F4 S4 (f3.trans f4) P4
  |rt m ρ4=>cases e2; exact λx σ' H4 Z4 F4 G S4 O4 f4 P4=>q2 x σ' H4 Z4 F4 G S4 O4 (f3.trans f4) P4
 ·left
  rw[IG] at e2;cases e2;exact⟨hJ.stop H2 Z2 g2 _ (C1 _),q2 σ2 H2 Z2 F2 S2 (aD.refl w2) P2⟩
theorem Ag{iter:Expr}{body:List Stmt}{fi:FI}{fg:FG}{fb:FS}(hp0:Fp (model X.prog X.w) X.A X.env X.xe)(hc:X.calm=true)(hi:VI X tg iter fi)(hg:VG X pin tg fg)(hb:vg X pin body fb)
  (hs:∀x,CS iter X.env x=pure x:=by intro _; rfl):VS X pin (.For tg iter body [] pos) (cJ fi fg fb):=λpv hp=>c6 (yO hp0 hc hi (hg pv hp) (hb pv hp) hs) λ_ _ _ hq=>w5 hq
noncomputable def gE(fc:FT)(fb:FS):Nat->Ev->Option Out
 |0,_=>none
 |n+1,ρ=>(fc ρ).bind λp=>if p.1=true then (fb p.2).bind λo=>match o with
  |.nx ρ2=>gE fc fb n ρ2
  |.ct ρ2=>gE fc fb n ρ2
  |.bk ρ2=>some (.nx ρ2)
  |.rt m ρ2=>some (.rt m ρ2)
  else some (.nx p.2)
noncomputable def fM(n:Nat)(fc:FT)(fb:FS):FS:=λρ=>gE fc fb n ρ
theorem rC{n:Nat}{fc:FT}{fb:FS}{pv:Pv}{D:Ends}{σ:L2.St}{H:Hp}(hq:vS X.K pv (fM n fc fb) D σ H):sr (vT X.K fc) (vS X.K pv fb) D σ H:=by
 obtain⟨Z,ρ,F,o,S,w,P,e,q⟩:=hq;refine⟨λm σ' H'=>∃Z' ρ' F',aK X.K H' Z' σ' ρ' F'/\Wf H' Z' F'/\Pin pv σ'/\∃out,gE fc fb m ρ'=some out/\j6 X.K pv D H' Z' F' out,⟨n,Z,ρ,F,S,w,P,o,e,q⟩,λm σ2 H2 hW=>?_⟩
 obtain⟨Z2,ρ2,F2,S2,w2,P2,out,e2,q2⟩:=hW;cases m with
 |zero=>cases e2
 |succ m=>
  obtain⟨⟨b,ρ3⟩,e3,e2⟩:=oB e2;refine⟨Z2,ρ2,F2,b,ρ3,S2,w2,e3,λH3 Z3 F3 S3 f3=>?_⟩
  cases b with
  |false=>cases e2; exact iteF (q2 σ2 H3 Z3 F3 S3 f3 P2)
  |true=>
   obtain⟨o3,e4,e2⟩:=oB e2;refine iteT ⟨λσ' H'=>∃m',m'<m+1/\∃Z' ρ' F',aK X.K H' Z' σ' ρ' F'/\Wf H' Z' F'/\Pin pv σ'/\∃out,gE fc fb m' ρ'=some out/\j6 X.K pv D H' Z' F' out,λσ' H' h=>h,Z3,ρ3,F3,o3,S3,f3.wf,P2,e4,?_⟩
   cases o3 with
   |nx ρ4=>exact λσ' H4 Z4 F4 S4 f4 P4=>⟨m,GD m,Z4,ρ4,F4,S4,f4.wf,P4,out,e2,q2.trans (f3.trans f4)⟩
   |ct ρ4=>exact λσ' H4 Z4 F4 S4 f4 P4=>⟨m,GD m,Z4,ρ4,F4,S4,f4.wf,P4,out,e2,q2.trans (f3.trans f4)⟩
   |bk ρ4=>cases e2; exact λσ' H4 Z4 F4 S4 f4 P4=>q2 σ' H4 Z4 F4 S4 (f3.trans f4) P4
   |rt m ρ4=>cases e2; exact λx σ' H4 Z4 F4 G S4 O4 f4 P4=>q2 x σ' H4 Z4 F4 G S4 O4 (f3.trans f4) P4
theorem ug(n:Nat){c:Expr}{body:List Stmt}{fc:FT}{fb:FS}(hp0:Fp (model X.prog X.w) X.A X.env X.xe)(hc:VT X c fc)(hb:vg X pin body fb):VS X pin (.While c body [] pos) (fM n fc fb):=λpv hp=>c6 (su hp0 hc (hb pv hp)) λ_ _ _ hq=>rC hq
end
noncomputable def fin:List Bool->List M->Ev->Option (List M)
 |[],[],_=>some []
 |true::ps,_::ms,some m'::ρ=>(fin ps ms ρ).bind λms'=>some (m'::ms')
 |false::ps,.v d::ms,_::ρ=>(fin ps ms ρ).bind λms'=>some (.v d::ms')
 |_,_,_=>none
section
variable{K:AC}{H:Hp}{Z:Zs}
theorem oZ:∀{ps:List Bool}{ms:List M}{ρ:Ev}{ms':List M}{σ:L2.St}{F:List Addr}{vs:List V},aK K H Z σ ρ F->F.Nodup->(∀(i:Nat)x,ps[i]? = some true->vs[i]? = some x->σ[i]? = some (some x)) ->
  (∀(i:Nat)x d,ps[i]? = some false->vs[i]? = some x->ms[i]? = some (.v d)->Fz K H Z x d)->vs.length=ms.length->fin ps ms ρ=some ms'->∃A,oW K H Z vs ms' A/\A.Nodup/\∀a∈A,a∈F:=by
 intro ps
 induction ps with
 |nil=>
  intro ms ρ ms' σ F vs S nd _ _ hl e;cases ms with
  |cons _ _=>cases e
  |nil=>
   have e:some []=some _:=e;cases e;have:vs=[]:=Dk.mp (by simpa using hl)
   subst this;exact⟨[],.nil,Dj,λa h=>by simp at h⟩
 |cons p ps ih=>
  intro ms ρ ms' σ F vs S nd h1 h2 hl e;cases ms with
  |nil=>cases p <;> cases e
  |cons m ms=>
  cases vs with
  |nil=>simp at hl
  |cons v vs=>
  have hl':vs.length=ms.length:=by simpa using hl
  have h2':∀(i:Nat)x d,ps[i]? = some false->vs[i]? = some x->ms[i]? = some (.v d)->Fz K H Z x d:=λi x d p q z=>h2 (i+1) x d (by simpa using p) (by simpa using q) (by simpa using z)
  have hσ:∀{x:Option V}{σ':L2.St},σ=x::σ'->(∀(i:Nat)x,ps[i]? = some true->vs[i]? = some x->σ'[i]? = some (some x)):=λ{x σ'}eσ i y p q=>by
   have:=h1 (i+1) y (by simpa using p) (by simpa using q)
   rw[eσ] at this;simpa using this
  cases p with
  |true=>
   cases S with
   |nil=>cases e
   |non r=>cases e
   |@som x m' G σ ρ F q r=>
    obtain⟨ms',e1,e⟩:=oB e;cases e;obtain⟨n1,n2,n3⟩:=aT nd;have hx:=h1 0 v rfl rfl;cases hx;obtain⟨A,a1,a2,a3⟩:=ih r n2 (hσ rfl) h2' hl' e1;refine⟨G++A,.cons q a1,aJ n1 a2 λa h z=>n3 a h (a3 a z),λa h=>?_⟩
    rcases lM h with h | h
    ·exact lL _ h
    ·exact lR _ (a3 a h)
  |false=>
   cases m with
   |lst _=>cases ρ <;> cases e
   |aI _=>cases ρ <;> cases e
   |bz _=>cases ρ <;> cases e
   |dtp _=>cases ρ <;> cases e
   |lls _=>cases ρ <;> cases e
   |dre _ _ _=>cases ρ <;> cases e
   |v d=>
   cases ρ with
   |nil=>cases e
   |cons c ρ=>
   obtain⟨ms',e1,e⟩:=oB e;cases e;have key:∀{σ':L2.St}{F':List Addr},aK K H Z σ' ρ F'->F'.Nodup->(∀a∈F',a∈F)->(∀(i:Nat)x,ps[i]? = some true->vs[i]? = some x->σ'[i]? = some (some x))->∃A,oW K H Z (v::vs) (.v d::ms') A/\A.Nodup/\∀a∈A,a∈F:=λS' nd' sub h1'=>by
    obtain⟨A,a1,a2,a3⟩:=ih S' nd' h1' h2' hl' e1;exact⟨[]++A,.cons (.v (h2 0 v d rfl rfl rfl)) a1,by rw[DH]; exact a2,λa h=>by rw[DH] at h; exact sub a (a3 a h)⟩
   cases S with
   |non r=>exact key r nd (λ_ h=>h) (hσ rfl)
   |som q r=>exact key r (aT nd).2.1 (λa h=>lR _ h) (hσ rfl)
theorem aK.uh:∀{xs:List V}{ms:List M}{A:List Addr}(n:Nat),oW K H Z xs ms A->aK K H Z (xs.map some++C5 n none) (ms.map some++C5 n none) A:=by
 intro xs ms A n h
 induction h with
 |nil=>
  induction n with
  |zero=>exact .nil
  |succ n ih=>exact .non ih
 |cons h r ih=>exact .som h ih
theorem aK.qj{xs:List V}{ms:List M}{A:List Addr}(h:oW K H Z xs ms A):∀n:Nat,aK K H Z (C5 n none++xs.map some) (C5 n none++ms.map some) A
 |0=>by have:=aK.uh 0 h; simpa using this
 |n+1=>.non (aK.qj h n)
end
noncomputable def fm(ps:List Bool)(n:Nat)(fb:FS):FF:=λms=>if ms.length=ps.length then (fb (ms.map some++C5 (n-ms.length) none)).bind λo=>match o with
 |.rt m ρ=>(fin ps ms ρ).bind λms'=>some (m,ms')
 |.nx ρ=>(fin ps ms ρ).bind λms'=>some (.v .none,ms')
 |_=>none
 else none
noncomputable def pins:List Bool->Nat->List Nat
 |[],_=>[]
 |true::ps,k=>k::pins ps (k+1)
 |false::ps,k=>pins ps (k+1)
theorem jC:∀{ps:List Bool}{k i:Nat},ps[i]? = some true->k+i∈pins ps k
 |[],_,_,h=>by simp at h
 |true::ps,k,0,_=>lS
 |true::ps,k,i+1,h=>lO _ (by have:=jC (k:=k+1) (i:=i) (ps:=ps) (by simpa using h); rw[show k+(i+1)=k+1+i by lia]; exact this)
 |false::ps,k,0,h=>by simp at h
 |false::ps,k,i+1,h=>by have:=jC (k:=k+1) (i:=i) (ps:=ps) (by simpa using h); rw[show k+(i+1)=k+1+i by lia]; exact this
theorem oW.get{K:AC}{H:Hp}{Z:Zs}:∀{xs:List V}{ms:List M}{A:List Addr}{i:Nat}{x:V}{m:M},oW K H Z xs ms A->xs[i]? = some x->ms[i]? = some m->∃G,Ow K H Z x m G:=by
 intro xs ms A i x m h
 induction h generalizing i with
 |nil=>intro e; simp at e
 |cons h r ih=>
  intro e e';cases i with
  |zero=>cases e; cases e'; exact⟨_,h⟩
  |succ i=>exact ih (i:=i) (by simpa using e) (by simpa using e')
section
variable{P:CH}{w:World}{K:AC}{mg:Str->Option Value}{base:Heap}
theorem Ah{x qual:Str}{st:Stmt}{f:Addr}{fd:DS}{N prs:List Str}{k:Nat}(ps:List Bool){fb:FS}(Fn:jY K x qual st f fd)(S:bq N prs (av st))(hl:prs.length=ps.length)
  (hb:∀(cdv:Value)(A:Cw)(outer:List Env)(s:At)(H:Hp)(E:XK),dG k (A.deeper (FU qual (av st) s.heap.objs.size f cdv))->vg (mz ir P w K mg base N qual (av st) f cdv A outer s H E).AR (pins ps 0) (cy st) fb) :
  b9 P w K mg base ir (k+1) f fd prs (fZ K (fm ps N.length fb)):=by
 refine Fn.ok S (λvs H Q E h=>?_) λcdv A outer s H vs Q E hr h=>?_
 ·obtain⟨Z,ms,A,m,ms',h1,_,e,_⟩:=h
  unfold fm at e
  split at e
  ·next he=>rw[hl,<-he,h1.length]
  ·cases e
 ·obtain⟨Z,ms,A',m,ms',h1,h2,e,q⟩:=h
  unfold fm at e
  split at e
  ·next he=>
   let pv:Pv:=λi=>if ps[i]? = some true then vs[i]? else none
   have sup:yj pv (pins ps 0):=λj y e=>by
    have e:(if ps[j]? = some true then vs[j]? else none)=some y:=e
    split at e
    ·next hj=>have:=jC (k:=0) hj; rwa [Nat.zero_add] at this
    ·cases e
   refine⟨_,hb cdv A outer s H E hr pv sup,?_⟩;obtain⟨o,e1,e⟩:=oB e;have hlen:=h1.length;have pin0:Pin pv (L2.start N vs):=λi y e=>by
    have e:(if ps[i]? = some true then vs[i]? else none)=some y:=e
    split at e
    ·unfold L2.start
     rw[E3 (by rw[C0]; exact(CB.mp e).1),Cu,e]
     rfl
    ·cases e
   have S0:aK K H Z (L2.start N vs) (ms.map some++C5 (N.length-ms.length) none) A':=by
    have:=aK.uh (N.length-ms.length) h1;rw[<-hlen] at this;unfold L2.start;rw[<-hlen];exact this
   have fz0:∀(i:Nat)x d,ps[i]? = some false->vs[i]? = some x->ms[i]? = some (.v d)->Fz K H Z x d:=λi x d _ h h'=>by
    obtain⟨G,z⟩:=h1.get h h';cases z with
    |v f=>exact f
   have pinR:∀{σ':L2.St},Pin pv σ'->∀(i:Nat)x,ps[i]? = some true->vs[i]? = some x->σ'[i]? = some (some x):=λ{σ'}P' i x h h'=>P' i x (by show (if ps[i]? = some true then vs[i]? else none)=some x; rw[if_pos h]; exact h')
   refine⟨Z,_,A',o,S0,h2,pin0,e1,?_⟩;cases o with
   |nx ρ=>
    obtain⟨ms2,e2,e⟩:=oB e;cases e;intro σ' H' Z' F' S' f' P';obtain⟨A2,a1,a2,a3⟩:=oZ S' f'.nd (pinR P') (λi x d h h' h''=>(fz0 i x d h h' h'').mono (f'.grow h2)) hlen e2
    exact q .non H' Z' A2 [] a1 (.v .non) (f'.sub a2 a3).nil
   |rt m2 ρ=>
    obtain⟨ms2,e2,e⟩:=oB e;cases e;intro x σ' H' Z' F' G S' O' f' P';obtain⟨n1,n2,n3⟩:=aT f'.nd;obtain⟨A2,a1,a2,a3⟩:=oZ S' n1 (pinR P') (λi x d h h' h''=>(fz0 i x d h h' h'').mono (f'.grow h2)) hlen e2
    refine q x H' Z' A2 G a1 O' (f'.sub (aJ a2 n2 λa h z=>n3 a (a3 a h) z) λa h=>?_)
    rcases lM h with h | h
    ·exact lL _ (a3 a h)
    ·exact lR _ h
   |bk ρ=>cases e
   |ct ρ=>cases e
  ·cases e
end
end VL
end
section
namespace L2
open PySem PySem.Spec PyProof.Rows
end L2
end
section
namespace VL
open PySem PySem.Spec L2 PyProof.Rows
noncomputable def jD:FT:=λρ=>some (true,ρ)
abbrev VF(X:Cx)(ifs:List Expr)(f:FT):Prop:=mL X ifs (vT X.K f)
section
variable{X:Cx}{pos:Pos}
theorem Ai:VF X [] jD:=λpins s σ H Q I hq=>zp pins s σ H Q I (by
 obtain⟨Z,ρ,F,b,ρ',S,w,e,q⟩:=hq;cases e;exact q H Z F S (aD.refl w))
theorem Aj{c:Expr}{f:FT}(h:VT X c f):VF X [c] f:=zq h
end
noncomputable def cap(ρ:Ev)(j:Nat):Option bY:=match bG ρ j with
 |some (.v d)=>some (.t (.v d))
 |some _=>some (.p j)
 |none=>none
noncomputable def caps(ρ:Ev):List Nat->Option (List bY)
 |[]=>some []
 |j::js=>(cap ρ j).bind λo=>(caps ρ js).bind λos=>some (o::os)
noncomputable def cK(fg:FG)(ft:FT)(fe:FE):List AT->Ev->List AT->Option (List AT×Ev)
 |[],ρ,acc=>some (acc,ρ)
 |d::ds,ρ,acc=>(fg d ρ).bind λρ1=>(ft ρ1).bind λt=>if t.1=true then
  (fe t.2).bind λp=>(cu p.1 p.2).bind λq=>if acc.length<lim then cK fg ft fe ds q.2 (acc++[q.1]) else none
  else cK fg ft fe ds t.2 acc
noncomputable def qk(n:Nat)(js:List Nat)(fi:FI)(fg:FG)(ft:FT)(fe:FE):FE:=λρ=>(fi ρ).bind λp=>(caps p.2 js).bind λos=>(bP os p.2).bind λq=>
 (cK fg ft fe p.1 (C5 n none++q.1.map some) []).bind λr=>(fin (C5 js.length true) q.1 (r.2.drop n)).bind λms'=>some (.t (.lst r.1),ez os ms' q.2)
noncomputable def slot(σ:L2.St)(j:Nat):Option V:=match σ[j]? with
 |some v=>v
 |none=>none
noncomputable def fN(n:Nat)(js:List Nat)(σ:L2.St):Pv:=λk=>if k<n then none else match js[k-n]? with
 |some j=>slot σ j
 |none=>none
section
variable{K:AC}{H:Hp}{Z:Zs}{σ:L2.St}{ρ:Ev}{F:List Addr}
theorem w6(S:aK K H Z σ ρ F):∀{js:List Nat}{os:List bY},caps ρ js=some os->∃xs,gV K H Z σ xs os []/\xs.map some=js.map (slot σ)/\xs.length=js.length:=by
 intro js
 induction js with
 |nil=>
  intro _ e;cases e; exact⟨[],.nil,rfl,rfl⟩
 |cons j js ih=>
  intro _ e;obtain⟨o,e1,e⟩:=oB e;obtain⟨os,e2,e⟩:=oB e;cases e;obtain⟨xs,h1,h2,h3⟩:=ih e2;unfold cap at e1;cases hm:bG ρ j with
  |none=>rw[hm] at e1; cases e1
  |some m=>
   obtain⟨x,G,k1,k2,k3⟩:=S.get (aC.mp hm);have ho:jQ K H Z σ x o []:=by
    rw[hm] at e1;cases m with
    |v d=>cases e1; cases k2 with
     |v f=>exact .t (.v f)
    |lst _=>cases e1; exact .p k1
    |aI _=>cases e1; exact .p k1
    |bz _=>cases e1; exact .p k1
    |dtp _=>cases e1; exact .p k1
    |lls _=>cases e1; exact .p k1
    |dre _ _ _=>cases e1; exact .p k1
   refine⟨x::xs,.cons (G:=[]) ho h1,?_,by rw[BM,BM,h3]⟩
   rw[CC,CC,h2];unfold slot;rw[k1]
theorem w9(n:Nat)(js:List Nat)(σ:L2.St):jm (C5 n none++js.map some) σ=C5 n none++js.map (slot σ):=by
 unfold jm;rw[E6,List.map_replicate,EA];rfl
theorem Ak(n:Nat)(js:List Nat)(σ:L2.St):Pin (fN n js σ) (C5 n none++js.map (slot σ)):=λk x e=>by
 unfold fN at e
 split at e
 ·cases e
 ·next hk=>
  rw[GY (by rw[FD]; lia),FD,Cu]
  cases hj:js[k-n]? with
  |none=>rw[hj] at e; cases e
  |some j=>rw[hj] at e; rw[EL]; exact congrArg some e
theorem jE(n:Nat)(js:List Nat)(σ:L2.St){pin:List Nat}(hp:pin=(CG js.length).map (n + ·)):yj (fN n js σ) pin:=λk x e=>by
 unfold fN at e
 split at e
 ·cases e
 ·next hk=>
  cases hj:js[k-n]? with
  |none=>rw[hj] at e; cases e
  |some j=>
   subst hp;have:=(CB.mp hj).1;exact EQ.mpr ⟨k-n,E9.mpr this,by lia⟩
end
section
variable{X:Cx}{pos:Pos}
theorem aK.dropN{K:AC}{H:Hp}{Z:Zs}:∀{σ:L2.St}{ρ:Ev}{F:List Addr}(n:Nat),aK K H Z σ ρ F->F.Nodup->∃F',aK K H Z (σ.drop n) (ρ.drop n) F'/\F'.Nodup/\∀a∈F',a∈F:=by
 intro σ ρ F n h
 induction h generalizing n with
 |nil=>exact λnd=>⟨[],by rw[Ff,Ff]; exact .nil,nd,λ_ h=>h⟩
 |non r ih=>
  cases n with
  |zero=>exact λnd=>⟨_,.non r,nd,λ_ h=>h⟩
  |succ n=>exact ih n
 |som q r ih=>
  intro nd;cases n with
  |zero=>exact⟨_,.som q r,nd,λ_ h=>h⟩
  |succ n=>
   obtain⟨F',h1,h2,h3⟩:=ih n (aT nd).2.1;exact⟨F',h1,h2,λa h=>lR _ (h3 a h)⟩
theorem aD.put{H0 H:Hp}{Z0 Z:Zs}{F0 F:List Addr}{D:Addr}{o o':HO}(f:aD H0 Z0 F0 H Z (F++[D]))(e:H D=some o)(hn:∀u,o≠.tup u)(hf:∀x u,o≠.frz x u):aD H0 Z0 F0 (upd H D o') Z (F++[D])/\aG H Z (upd H D o') Z:=by
 have hD:D∈F++[D]:=lR _ lS;have nz:¬Z D:=f.dz D hD;have keep:∀a o2,a≠D->H a=some o2->upd H D o' a=some o2:=λa o2 n h=>by rw[az n]; exact h
 have za:∀a,Z a->upd H D o' a≠none:=λa z=>by
  have hne:a≠D:=λh=>nz (h▸z)
  rw[az hne];exact f.za a z
 have g:aG H Z (upd H D o') Z:=⟨dh.put e hn hf,λa o2 z h=>keep a o2 (λw=>nz (w▸z)) h,λ_ z=>z⟩
 refine⟨f.trans ⟨λa o2 n h=>keep a o2 (λw=>n (w▸hD)) h,g.tups,λ_ z=>z,λa z=>.inl z,λa h=>.inl h,f.nd,f.dz,za⟩,g⟩
inductive BV{α:Type}(K:AC)(pv:Pv)(AP:Hp->Zs->α->List Addr->Prop)(C:List AT->Ev->α->Prop)(H1:Hp)(Z1:Zs)(B:List Addr)(ds:List AT)(i m:Nat)(τ:L2.St)(H:Hp):Prop
 |mk (Z:Zs) (ρ:Ev) (F G:List Addr) (acc:α):m=ds.length-i->i<=ds.length->aK K H Z τ ρ F->Pin pv τ->AP H Z acc G->aD H1 Z1 B H Z (F++G)->C (ds.drop i) ρ acc->BV K pv AP C H1 Z1 B ds i m τ H
theorem nD{α:Type}{pv:Pv}{fg:FG}{ft:FT}{tem:zu}{J:It}{ds:List AT}{τ:L2.St}{H0 H1:Hp}{Z0 Z1:Zs}{F0 G0 B:List Addr}{ρ0:Ev}{acc0:α}{Q:L2.St->Hp->Prop}
  (AP:Hp->Zs->α->List Addr->Prop) (C E:List AT->Ev->α->Prop)
  (apm:∀{H Z H' Z' acc G},AP H Z acc G->aG H Z H' Z'->(∀a∈G,∀o,H a=some o->H' a=some o)->AP H' Z' acc G) (apa:∀{H Z acc G},AP H Z acc G->∀a∈G,H a≠none)
  (hC:∀d ds ρ acc,C (d::ds) ρ acc->∃ρ1 b ρ2,fg d ρ=some ρ1/\ft ρ1=some (b,ρ2)/\(b=true->E ds ρ2 acc)/\(b=false->C ds ρ2 acc))
  (S:aK X.K H0 Z0 τ ρ0 F0) (P:Pin pv τ) (a0:AP H0 Z0 acc0 G0) (f0:aD H1 Z1 B H0 Z0 (F0++G0)) (e:C ds ρ0 acc0)
  (hgo:∀H2 Z2 F2,aD H1 Z1 B H2 Z2 F2->∀k d,ds[k]? = some d->J.go k H2/\∀x H',J.yld k H2 x H'->dw H2 H'/\Fz X.K H' Z2 x d) (hst:∀H2 Z2 F2,aD H1 Z1 B H2 Z2 F2->∀k,ds.length<=k->J.stop k H2)
  (hE:∀ds' τ H Z ρ F G acc,E ds' ρ acc->aK X.K H Z τ ρ F->Pin pv τ->AP H Z acc G->aD H1 Z1 B H Z (F++G)->∀N:L2.St->Hp->Prop,(∀τ' H' Z' ρ' F' G' acc',aK X.K H' Z' τ' ρ' F'->Pin pv τ'->AP H' Z' acc' G'->aD H1 Z1 B H' Z' (F'++G')->C ds' ρ' acc'->N τ' H')->tem τ H N)
  (q:∀τ' H' Z' ρ' F' G' acc',aK X.K H' Z' τ' ρ' F'->Pin pv τ'->AP H' Z' acc' G'->aD H1 Z1 B H' Z' (F'++G')->C [] ρ' acc'->Q τ' H') :
  eO (vG X.K pv fg) (vT X.K ft) tem J τ H0 Q:=by
 refine⟨BV X.K pv AP C H1 Z1 B ds,⟨_,Z0,ρ0,F0,G0,acc0,rfl,DR _,S,P,a0,f0,e⟩,λi m τ2 H2 hW=>?_⟩
 obtain⟨Z2,ρ2,F2,G2,acc,rfl,hi,S2,P2,a2,f2,e2⟩:=hW;rcases Hy hi with hi | rfl
 ·right
  rw[Gh hi] at e2;obtain⟨go,yl⟩:=hgo H2 Z2 _ f2 i _ (Dg hi);obtain⟨ρ3,b,ρ4,e3,e4,e5,e6⟩:=hC _ _ _ _ e2;refine⟨go,λτ' H'=>∃m',m'<ds.length-i/\BV X.K pv AP C H1 Z1 B ds (i+1) m' τ' H',λτ' H' h=>h,λx H' hx=>?_⟩
  obtain⟨s,fz⟩:=yl x H' hx;have gs:aG H2 Z2 H' Z2:=aG.same s;have a2':=apm a2 gs λa _ o e=>s a o e
  obtain⟨m1,m2,m3⟩:=aT f2.nd;have fs:aD H2 Z2 (F2++G2) H' Z2 (F2++G2):=by
   have:=(aD.same s f2.za).news f2.wf λa h=>(lM h).elim (S2.al a) (apa a2 a)
   rw[Bn] at this;exact this
  refine⟨Z2,ρ2,F2,_,ρ3,S2.mono gs λa _ o e=>s a o e,m1,P2,fz,e3,λτ3 F3 S3 n3 s3 P3=>?_⟩
  have f3:aD H1 Z1 B H' Z2 (F3++G2):=(f2.trans fs).sub (aJ n3 m2 λa h z=>m3 a (s3 a h) z) λa h=>by
   rcases lM h with h | h
   ·exact lL _ (s3 a h)
   ·exact lR _ h
  refine⟨Z2,ρ3,F3,b,ρ4,S3,f3.left.wf,e4,λH4 Z4 F4 S4 g4=>?_⟩
  have f4:aD H1 Z1 B H4 Z4 (F4++G2):=f3.trans (g4.frame f3.wf (apa a2'));have a4:=apm a2' (g4.grow f3.left.wf) λa h o e=>g4.keep a o (λz=>(aT f3.nd).2.2 a z h) e
  cases b with
  |false=>exact iteF ⟨_,by lia,Z4,ρ4,F4,G2,acc,rfl,hi,S4,P3,a4,f4,e6 rfl⟩
  |true=>exact iteT (hE _ _ _ _ _ _ _ _ (e5 rfl) S4 P3 a4 f4 _ λτ' H' Z' ρ' F' G' acc' s p a f c=>⟨_,by lia,Z',ρ',F',G',acc',rfl,hi,s,p,a,f,c⟩)
 ·left
  rw[IG] at e2;exact⟨hst H2 Z2 _ f2 _ (C1 _),q τ2 H2 Z2 _ F2 G2 _ S2 P2 a2 f2 e2⟩
inductive j8(K:AC)(D:Addr)(H:Hp)(Z:Zs)(acc:List AT)(G:List Addr):Prop
 |mk (xs:List V):G=[D]->H D=some (.lst xs)->aZ K H Z xs acc->j8 K D H Z acc G
theorem j8.mono{K:AC}{D:Addr}{H H':Hp}{Z Z':Zs}{acc:List AT}{G:List Addr}(h:j8 K D H Z acc G)(g:aG H Z H' Z')(k:∀a∈G,∀o,H a=some o->H' a=some o):j8 K D H' Z' acc G:=by
 obtain⟨xs,rfl,e,z⟩:=h;exact⟨xs,rfl,k D lS _ e,z.mono g⟩
theorem j8.al{K:AC}{D:Addr}{H:Hp}{Z:Zs}{acc:List AT}{G:List Addr}(h:j8 K D H Z acc G):∀a∈G,H a≠none:=by
 obtain⟨xs,rfl,e,z⟩:=h;exact λa h q=>by rw[B1.mp h,e] at q; cases q
theorem um{pv:Pv}{fg:FG}{ft:FT}{fe:FE}{J:It}{ds:List AT}{D:Addr}{τ:L2.St}{H0 H1:Hp}{Z0 Z1:Zs}{F0 B:List Addr}{ρ0:Ev}{r:List AT×Ev}{xs0:List V}{acc0:List AT}{Q:L2.St->Hp->Prop}(S:aK X.K H0 Z0 τ ρ0 F0)(P:Pin pv τ)(d0:H0 D=some (.lst xs0))(z0:aZ X.K H0 Z0 xs0 acc0)(f0:aD H1 Z1 B H0 Z0 (F0++[D]))
  (hgo:∀H2 Z2 F2,aD H1 Z1 B H2 Z2 F2->∀k d,ds[k]? = some d->J.go k H2/\∀x H',J.yld k H2 x H'->dw H2 H'/\Fz X.K H' Z2 x d) (hst:∀H2 Z2 F2,aD H1 Z1 B H2 Z2 F2->∀k,ds.length<=k->J.stop k H2) (e:cK fg ft fe ds ρ0 acc0=some r)
  (q:∀τ' H' Z' F' xs,aK X.K H' Z' τ' r.2 F'->Pin pv τ'->H' D=some (.lst xs)->aZ X.K H' Z' xs r.1->aD H1 Z1 B H' Z' (F'++[D])->Q τ' H'):eO (vG X.K pv fg) (vT X.K ft) (mO D (vE X.K fe)) J τ H0 Q:=by
 refine nD (j8 X.K D) (λds ρ acc=>cK fg ft fe ds ρ acc=some r) (λds ρ acc=>((fe ρ).bind λp=>(cu p.1 p.2).bind λq=>if acc.length<lim then cK fg ft fe ds q.2 (acc++[q.1]) else none)=some r) j8.mono j8.al (λd ds ρ acc e=>?_) S P ⟨xs0,rfl,d0,z0⟩ f0 e hgo hst (λds' τ H Z ρ F G acc e S P a f N hN=>?_) λτ' H' Z' ρ' F' G' acc' S P a f e=>?_
 ·obtain⟨ρ3,e3,e⟩:=oB e
  obtain⟨⟨b,ρ4⟩,e4,e⟩:=oB e;exact⟨ρ3,b,ρ4,e3,e4,λh=>by subst h; exact e,λh=>by subst h; exact e⟩
 ·obtain⟨xs,rfl,d4,z4⟩:=a
  obtain⟨⟨o5,ρ5⟩,e5,e⟩:=oB e;obtain⟨⟨d,ρ6⟩,e6,e⟩:=oB e
  split at e
  ·next hl=>
   refine⟨Z,ρ,F,o5,ρ5,S,f.left.wf,e5,λy H5 Z5 F5 G5 S5 O5 g5=>?_⟩
   have d5:H5 D=some (.lst xs):=g5.keep D _ (λz=>(aT f.nd).2.2 D z lS) d4
   obtain⟨Z6,F6,S6,y6,f6,g6⟩:=freeze S5 O5 (f.trans (g5.frame f.wf (j8.al ⟨xs,rfl,d4,z4⟩))) e6;have z6:=(z4.mono (g5.grow f.left.wf)).mono g6;obtain⟨f7,g7⟩:=f6.put (o':=.lst (xs++[y])) d5 (λ_ z=>nomatch z) (λ_ _ z=>nomatch z)
   refine⟨xs,d5,gA (DP (by rw[z6.length]; exact hl)),hN _ _ Z6 ρ6 F6 _ _ (S6.mono g7 λa h o e=>?_) P ⟨xs++[y],rfl,ay,(z6.mono g7).append (.cons (y6.mono g7) .nil)⟩ f7 e⟩
   rw[az λz=>(aT f6.nd).2.2 a h (by rw[z]; exact lS)]
   exact e
  ·cases e
 ·cases e
  obtain⟨xs,rfl,d,z⟩:=a;exact q τ' H' Z' F' xs S P d z f
theorem xg{n:Nat}{pv:Pv}{fg:FG}{ft:FT}{fe:FE}{J:It}{ds:List AT}{D:Addr}{τ:L2.St}{H1:Hp}{Z1:Zs}{A:List Addr}{ρ0:Ev}{r:List AT×Ev}{Q:Hp->Prop}(hD:H1 D=none)(S:aK X.K H1 Z1 τ ρ0 A)(w:Wf H1 Z1 A)(P:Pin pv τ)(hJ:j7 X.K J H1 Z1 ds)(e:cK fg ft fe ds ρ0 []=some r)
  (q:∀τ' H' Z' F' xs,aK X.K H' Z' τ' r.2 F'->Pin pv τ'->H' D=some (.lst xs)->aZ X.K H' Z' xs r.1->aD H1 Z1 A H' Z' (F'++[D])->Q H'):eO (vG X.K pv fg) (vT X.K ft) (mO D (vE X.K fe)) J τ (upd H1 D (.lst [])) λ_=>Q:=by
 have n0:=aD.ng (o:=.lst []) hD w.za;exact um (Q:=λ_=>Q) (S.news n0) P ay .nil (n0.news w S.al) (λH2 Z2 _ f=>hJ.go H2 Z2 (f.grow w)) (λH2 Z2 _ f=>hJ.stop H2 Z2 (f.grow w)) e q
inductive ym(K:AC)(H:Hp)(Z:Zs)(F:List Addr)(H1:Hp)(Z1:Zs)(σ:L2.St)(n:Nat)(js:List Nat)(os:List bY)(ms:List M)(ρh:Ev):Prop
 |mk (τ:L2.St) (A Fh:List Addr):jm (C5 n none++js.map some) σ=τ->aK K H1 Z1 τ (C5 n none++ms.map some) A->Wf H1 Z1 A->Pin (fN n js σ) τ->aK K H1 Z1 σ ρh Fh->(∀a∈Fh,a∉A) ->
  (∀τ' H2 Z2 ρi F2 G ms',aK K H2 Z2 τ' ρi F2->Pin (fN n js σ) τ'->aD H1 Z1 A H2 Z2 (F2++G)->fin (C5 js.length true) ms (ρi.drop n)=some ms'->∃F4,aK K H2 Z2 σ (ez os ms' ρh) F4/\aD H Z F H2 Z2 (F4++G))->ym K H Z F H1 Z1 σ n js os ms ρh
theorem gF{H:Hp}{Z:Zs}{F:List Addr}{H1:Hp}{Z1:Zs}{F1:List Addr}{σ:L2.St}{ρ1:Ev}{n:Nat}{js:List Nat}{os:List bY}{ms:List M}{ρh:Ev}(S1:aK X.K H1 Z1 σ ρ1 F1)(f1:aD H Z F H1 Z1 F1)(e2:caps ρ1 js=some os)(e3:bP os ρ1=some (ms,ρh)):ym X.K H Z F H1 Z1 σ n js os ms ρh:=by
 obtain⟨xs,O1,hxs,hxl⟩:=w6 S1 e2;obtain⟨A,Fh,h1,h2,h3,h4⟩:=nC S1 O1 (by rw[Bn]; exact f1.nd) e3
 rw[Bn] at h4;obtain⟨n1,n2,n3⟩:=aT h3;have wA:Wf H1 Z1 A:=⟨n2,λa h=>f1.dz a (h4 a (lR _ h)),f1.za⟩
 have P0:=Ak n js σ;rw[<-hxs] at P0;refine⟨_,A,Fh,by rw[w9,<-hxs],aK.qj h1 n,wA,P0,h2,n3,λτ' H2 Z2 ρi F2 G ms' S2 P2 f2 e5=>?_⟩
 obtain⟨m1,m2,m3⟩:=aT f2.nd;obtain⟨F3,k1,k2,k3⟩:=S2.dropN n m1;obtain⟨A',a1,a2,a3⟩:=oZ (vs:=xs) k1 k2 (λi x _ hx=>by
  rw[List.getElem?_drop];refine P2 (n+i) x ?_;unfold fN;rw[if_neg (by lia),show n+i-n=i by lia]
  have hmap:(js.map (slot σ))[i]? = some (some x):=by rw[<-hxs,Cu,hx]; rfl
  rw[Cu] at hmap;obtain⟨j,hj,hj'⟩:=D9.mp hmap;rw[hj];exact hj') (λi x d h=>by
   have:=FL h;rw[List.mem_replicate] at this;cases this.2) h1.length e5
 have n3':∀a∈A,a∉Fh:=λa h z=>n3 a z h
 have Sh:aK X.K H2 Z2 σ ρh Fh:=h2.mono (f2.grow wA) λa h o e=>f2.keep a o (n3 a h) e
 have fF:=f2.frame (G:=Fh) ⟨aJ n2 n1 n3',λa h=>by
  rcases lM h with h | h
  ·exact f1.dz a (h4 a (lR _ h))
  ·exact f1.dz a (h4 a (lL _ h)),f1.za⟩ h2.al
 obtain⟨u1,u2,u3,u4,u5,u6⟩:=Bp fF.nd;obtain⟨F4,p1,p2,p3⟩:=qf Sh O1 a1 (aJ u3 a2 λa h z=>u5 a (k3 a (a3 a z)) h) (kL e3)
 have f4:aD H Z F H1 Z1 (A++Fh):=f1.sub (aJ n2 n1 n3') λa h=>h4 a (by
  rcases lM h with h | h
  ·exact lR _ h
  ·exact lL _ h)
 refine⟨F4,p1,(f4.trans fF).sub (aJ p2 u2 λa h z=>?_) λa h=>?_⟩
 ·rcases lM (p3 a h) with y | y
  ·exact u6 a z y
  ·exact u4 a (k3 a (a3 a y)) z
 ·rcases lM h with h | h
  ·rcases lM (p3 a h) with y | y
   ·exact lR _ y
   ·exact lL _ (lL _ (k3 a (a3 a y)))
  ·exact lL _ (lR _ h)
theorem eW{n:Nat}{js:List Nat}{fi:FI}{fg:FG}{ft:FT}{fe:FE}{σ:L2.St}{H:Hp}{Q:VK}{fr:List (Option Nat)}(hfr:fr=C5 n none++js.map some)(hq:vE X.K (qk n js fi fg ft fe) σ H Q) :
  AW fr (vI X.K fi) (λ_=>vG X.K (fN n js σ) fg) (λ_=>vT X.K ft) (λ_=>vE X.K fe) σ H Q:=by
 subst hfr;obtain⟨Z,ρ,F,o,ρ',S,w,e,q⟩:=hq;obtain⟨⟨ds,ρ1⟩,e1,e⟩:=oB e;obtain⟨os,e2,e⟩:=oB e;obtain⟨⟨ms,ρh⟩,e3,e⟩:=oB e;obtain⟨⟨acc,ρi⟩,e4,e⟩:=oB e;obtain⟨ms',e5,e⟩:=oB e;cases e;refine⟨Z,ρ,F,ds,ρ1,S,w,e1,λJ H1 Z1 F1 S1 hJ f1 D hD z=>?_⟩
 obtain⟨τ,A,Fh,eτ,S0,wA,P0,h2,n3,back⟩:=gF (n:=n) S1 f1 e2 e3;rw[eτ];refine xg (n:=n) hD S0 wA P0 hJ e4 λτ' H2 Z2 F2 ys S2 P2 d2 z2 f2=>?_
 obtain⟨F4,p1,f4⟩:=back _ _ _ _ _ _ _ S2 P2 f2 e5;exact q (.ref D) H2 Z2 F4 [D] p1 (.t (.lst d2 z2)) f4
theorem ve_lc(n:Nat)(js:List Nat){elt target iter:Expr}{ifs:List Expr}{scope:Scope}{N:List Str}{fr:List (Option Nat)}{pin:List Nat}{fi:FI}{fg:FG}{ft:FT}{fe:FE}(hfr:fr=C5 n none++js.map some)(hpin:pin=(CG js.length).map (n + ·))(hc:X.calm=true)(S:aY X scope N fr)(hi:VI X target iter fi)
  (hin:∀z:Bk,VG (z.cx X scope N) pin target fg/\VF (z.cx X scope N) ifs ft/\VE (z.cx X scope N) elt fe)
  (hs:∀x,CS iter X.env x=pure x:=by intro _; rfl):VE X (.ListComp elt [⟨target,iter,ifs,0⟩] scope pos) (qk n js fi fg ft fe):=λpins s σ H Q I hq=>
 sZ (g:=λ_=>vG X.K (fN n js σ) fg) (tt:=λ_=>vT X.K ft) (te:=λ_=>vE X.K fe) hc S hi (λz=>⟨(hin z).1 _ (jE n js σ hpin),(hin z).2.1,(hin z).2.2⟩) hs pins s σ H Q I (eW hfr hq)
end
section
variable{K:AC}{H H0:Hp}{Z Z0:Zs}{F F0:List Addr}{σ:L2.St}{ρ:Ev}
theorem rE{i:Nat}{m:M}(S:aK K H Z σ ρ F)(f:aD H0 Z0 F0 H Z F)(e:bG ρ i=some m):∃x G,σ[i]? = some (some x)/\Ow K H Z x m G/\∀a o',a∈G->aG H Z (upd H a o') Z/\(∀b∈G,b≠a->∀o,H b=some o->upd H a o' b=some o) /\
  ∀m' G',(∀b∈G',b∈G)->G'.Nodup->Ow K (upd H a o') Z x m' G'->∃F',aK K (upd H a o') Z σ (ρ.set i (some m')) F'/\aD H0 Z0 F0 (upd H a o') Z F':=by
 obtain⟨x,G,F1,t1,t2,t3,t4,t5⟩:=S.take f.nd (aC.mp e);have hl:=(CB.mp (aC.mp e)).1;obtain⟨n1,n2,n3⟩:=aT t4;refine⟨x,G,t1,t2,λa o' ha=>?_⟩
 obtain⟨o,ho,hmu⟩:=t2.mem a ha;have haF:a∈F:=t5 a (lR _ ha);have nz:¬Z a:=f.dz a haF;have ne:∀b,b≠a->upd H a o' b=H b:=λb h=>az h
 have g:aG H Z (upd H a o') Z:=⟨by
  rcases hmu with⟨xs,rfl⟩ | ⟨kvs,rfl⟩ | ⟨kvs,rfl⟩
  ·exact dh.lst ho
  ·exact dh.dk ho
  ·exact .put ho (λ_ z=>nomatch z) (λ_ _ z=>nomatch z),λb o2 z h=>by rw[ne b λw=>nz (w▸z)]; exact h,λ_ z=>z⟩
 refine⟨g,λb _ h o2 e2=>by rw[ne b h]; exact e2,λm' G' hs nd' h' =>?_⟩
 have S1:aK K (upd H a o') Z σ (ρ.set i none) F1:=t3.mono g λb hb o2 e2=>by
  rw[ne b λw=>n3 b hb (w▸ha)]
  exact e2
 obtain⟨F2,p1,p2,p3⟩:=S1.put h' (aJ n1 nd' λb hb z=>n3 b hb (hs b z)) (by rw[DO hl])
 rw[Fs,fY t1] at p1;have za:∀b,Z b->upd H a o' b≠none:=λb z=>by
  rw[ne b λw=>nz (w▸z)]
  exact f.za b z
 have f1:aD H Z F (upd H a o') Z F:=⟨λb o2 n h=>by rw[ne b λw=>n (w▸haF)]; exact h,g.tups,λ_ z=>z,λb z=>.inl z,λb h=>.inl h,f.nd,f.dz,za⟩
 refine⟨F2,p1,(f.trans f1).sub p2 λb hb=>?_⟩
 rcases lM (p3 b hb) with y | y
 ·exact t5 b (lL _ y)
 ·exact t5 b (lR _ (hs b y))
end
section
variable{X:Cx}{pos:Pos}{pin:List Nat}
noncomputable def gY(i:Nat)(fa:FA):FE:=λρ=>(bG ρ i).bind λm0=>match m0 with
 |.lst _=>(fa ρ).bind λp=>match p.1 with
  |[o]=>(cu o p.2).bind λq=>(bG q.2 i).bind λm=>match m with
   |.lst ds=>if ds.length<lim then some (.t (.v .none),q.2.set i (some (.lst (ds++[q.1])))) else none
   |_=>none
  |_=>none
 |_=>none
theorem xh{i:Nat}{fa:FA}{σ:L2.St}{H:Hp}{Q:VK}(hq:vE X.K (gY i fa) σ H Q):yb X.K "list" fU (cI i) (vA X.K fa) σ H Q:=by
 obtain⟨Z,ρ,F,o,ρ',S,w,e,q⟩:=hq;obtain⟨m0,e0,e⟩:=oB e
 split at e
 ·rename_i ds0
  obtain⟨x,G,h1,h2,_⟩:=S.get (aC.mp e0);obtain⟨a,xs0,rfl,ha,_⟩:=(show Ro X.K H Z x (.lst ds0) from⟨G,h2⟩).lst
  refine⟨.ref a,h1,.inl ⟨rfl,_,eF.of ha⟩,?_⟩;obtain⟨⟨os,ρ1⟩,e1,e⟩:=oB e;refine⟨Z,ρ,F,os,ρ1,S,w,e1,λxs H1 Z1 F1 G1 S1 O1 f1=>?_⟩
  rcases os with _ | ⟨o1,_ | ⟨o2,os⟩⟩
  ·cases e
  ·obtain⟨⟨d,ρ2⟩,e2,e⟩:=oB e
   obtain⟨m,e3,e⟩:=oB e
   split at e
   ·rename_i ds
    split at e
    ·rename_i hl
     cases e;cases O1 with
     |cons p1 r1=>
      cases r1;rw[Bn] at f1;obtain⟨Z2,F2,S2,z2,f2,_⟩:=dN S1 p1 f1 e2;obtain⟨x',G',k1,k2,k3⟩:=rE S2 f2 e3;rw[h1] at k1; cases k1;cases k2 with
      |lst hb fb=>
       obtain⟨g,_,k4⟩:=k3 a (.lst (_++[_])) lS;obtain⟨F3,S3,f3⟩:=k4 (.lst (ds++[d])) [a] (λ_ h=>h) (CJ.mpr ⟨CZ,Dj⟩) (.lst ay ((fb.append (.cons z2 .nil)).mono g))
       exact⟨a,_,_,rfl,rfl,hb,gA (DP (by rw[fb.length]; exact hl)),q .non _ Z2 F3 [] S3 (.t (.v .non)) f3.nil⟩
    ·cases e
   ·cases e
  ·cases e
 ·cases e
theorem Al(i:Nat){e:Expr}{es:List Expr}{fa:FA}{x:Str}{p1 p2:Pos}(ha:VA X (e::es) fa)(hpe:∀(to:TE)(t:TA),PE X (.Name x p1) to->PA X (e::es) t->PE X (.Call (.Attribute (.Name x p1) "append" p2) (e::es) [] pos) (yb X.K "list" fU to t))(hv:PE X (.Name x p1) (cI i)):VE X (.Call (.Attribute (.Name x p1) "append" p2) (e::es) [] pos) (gY i fa):=aR (hpe _ _ hv ha) λ_ _ _ hq=>xh hq
inductive vP(K:AC)(f:Ev->Option AT)(σ:L2.St)(H:Hp)(Q:VK):Prop
 |mk (Z:Zs) (ρ:Ev) (F:List Addr) (d:AT):aK K H Z σ ρ F->f ρ=some d->(∀x,Fz K H Z x d->Q x H)->vP K f σ H Q
abbrev VP(X:Cx)(e:Expr)(f:Ev->Option AT):Prop:=PE X e (vP X.K f)
noncomputable def cZ(i:Nat):Ev->Option AT:=λρ=>(bG ρ i).bind λm=>match m with
 |.v d=>some d
 |_=>none
theorem Am(i:Nat){x:Str}{p:Pos}(h:PE X (.Name x p) (cI i)):VP X (.Name x p) (cZ i):=aR h λσ H Q hq=>by
 obtain⟨Z,ρ,F,d,S,e,q⟩:=hq;obtain⟨m,e1,e⟩:=oB e;obtain⟨x,G,h1,h2,_⟩:=S.get (aC.mp e1)
 split at e
 ·cases e
  cases h2 with
  |v f=>exact⟨x,h1,q x f⟩
 ·cases e
theorem An{i j pos}:VP X (.Constant (.int i) j pos) (λ_=>some (.int i)):=aR ig λσ H Q hq=>by
 obtain⟨Z,ρ,F,d,S,e,q⟩:=hq;cases e;exact q _ (.int i)
noncomputable def putL(kvs:List (Key×List AT))(k:Key)(d:AT):List (Key×List AT):=kvs.map λp=>if p.1=k then (p.1,p.2++[d]) else p
noncomputable def jF(i:Nat)(fk fd:Ev->Option AT):FE:=λρ=>(bG ρ i).bind λm=>match m with
 |.bz kvs=>(fk ρ).bind λkd=>(c5 kd).bind λk=>(bu kvs k).bind λds=>(fd ρ).bind λd=>if ds.length<lim/\(kvs.map (·.1)).Nodup then some (.t (.v .none),ρ.set i (some (.bz (putL kvs k d)))) else none
 |_=>none
theorem fW.app{K:AC}{H H':Hp}{Z:Zs}{k:Key}{b:Addr}{y:V}{d:AT}(g:aG H Z H' Z):∀{kxs:List (Key×V)}{kvs:List (Key×List AT)}{G:List Addr},fW K H Z kxs kvs G->(kvs.map (·.1)).Nodup->G.Nodup->dS kxs k=some (.ref b)->(∀c∈G,c≠b->∀o,H c=some o->H' c=some o) ->
  (∀xs,H b=some (.lst xs)->H' b=some (.lst (xs++[y])))->Fz K H' Z y d->fW K H' Z kxs (putL kvs k d) G:=by
 intro kxs kvs G r
 induction r with
 |nil=>intro _ _ e; cases e
 |@cons k' b' xs ds kxs kvs G h f r ih=>
  intro nk nG e keep put fy;have nk':=CJ.mp (show (k'::kvs.map (·.1)).Nodup from nk)
  have nG':=CJ.mp nG;show fW K H' Z _ ((if k'=k then (k',_++[d]) else (k',_))::putL kvs k d) _
  by_cases hk:k'=k
  ·subst hk
   rw[bT rfl] at e;cases e;rw[if_pos rfl];have same:putL kvs k' d=kvs:=by
    unfold putL;rw[E5 (g:=id),List.map_id];intro p hp;rw[if_neg λz=>nk'.1 (EQ.mpr ⟨p,hp,z⟩)]
    rfl
   rw[same];exact .cons (put _ h) ((f.mono g).append (.cons fy .nil)) (r.mono g λc hc o ho=>keep c (lO _ hc) (λz=>nG'.1 (z▸hc)) o ho)
  ·rw[if_neg hk]
   rw[cV hk] at e;have hb:b∈G:=by
    clear keep put
    have:∀{kxs:List (Key×V)}{kvs:List (Key×List AT)}{G:List Addr},fW K H Z kxs kvs G->dS kxs k=some (.ref b)->b∈G:=λ{kxs kvs G}r e=>by
     induction r with
     |nil=>cases e
     |cons h f r ih=>
      rename_i k0 b0 _ _ _ _ _
      by_cases h0:k0=k
      ·rw[bT h0] at e; cases e; exact lS
      ·rw[cV h0] at e; exact lO _ (ih e)
    exact this r e
   refine .cons (keep b' lS (λz=>nG'.1 (z▸hb)) _ h) (f.mono g) (ih nk'.2 nG'.2 e (λc hc=>keep c (lO _ hc)) put fy)
theorem fW.uniq{K:AC}{H:Hp}{Z:Zs}{kxs:List (Key×V)}{kvs:List (Key×List AT)}{G G':List Addr}(r:fW K H Z kxs kvs G)(r':fW K H Z kxs kvs G'):G=G':=by
 induction r generalizing G' with
 |nil=>cases r'; rfl
 |cons _ _ _ ih=>cases r' with
  |cons _ _ r2=>rw[ih r2]
theorem gz.uniq{K:AC}{H:Hp}{Z:Zs}{vs:List V}{dss:List (List AT)}{G G':List Addr}(r:gz K H Z vs dss G)(r':gz K H Z vs dss G'):G=G':=by
 induction r generalizing G' with
 |nil=>cases r'; rfl
 |cons _ _ _ ih=>cases r' with
  |cons _ _ r2=>rw[ih r2]
theorem uo{i:Nat}{fk fd:Ev->Option AT}{σ:L2.St}{H:Hp}{Q:VK}(hq:vE X.K (jF i fk fd) σ H Q):yb X.K "list" fU (pT (cI i) (vP X.K fk)) (sH (vP X.K fd) tNil) σ H Q:=by
 obtain⟨Z,ρ,F,o,ρ',S,w,e,q⟩:=hq;obtain⟨m,e0,e⟩:=oB e
 split at e
 ·rename_i kvs
  obtain⟨kd,e1,e⟩:=oB e;obtain⟨k,e2,e⟩:=oB e;obtain⟨ds,e3,e⟩:=oB e;obtain⟨d,e4,e⟩:=oB e
  split at e
  ·rename_i hl
   cases e;obtain⟨x,G,h1,h2,h3⟩:=rE S (aD.refl w) e0;cases h2 with
   |bz ha ol=>
    rename_i a kxs Gl
    refine⟨.ref a,h1,Z,ρ,F,kd,S,e1,λy fy=>?_⟩
    obtain rfl:=di fy e2;obtain⟨b,xs,z1,z2,z3,z4⟩:=ol.get e3;refine⟨a,.ref b,rfl,z1▸d9.k ha,.inl ⟨rfl,_,eF.of z2⟩,Z,ρ,F,d,S,e4,λv fv=>?_⟩
    obtain⟨g,kp,k4⟩:=h3 b (.lst (xs++[v])) (lO _ z4);have ndG:(a::Gl).Nodup:=by
     obtain⟨x',G',F1,t1,t2,t3,t4,t5⟩:=S.take w.nd (aC.mp e0);rw[h1] at t1; cases t1;cases t2 with
     |bz ha' ol' =>
      rw[ha] at ha'; cases ha';rw[fW.uniq ol ol'];exact(aT t4).2.1
    have nG:=CJ.mp ndG;have hab:a≠b:=λz=>nG.1 (z▸z4)
    have ol2:=ol.app (H':=upd H b (.lst (xs++[v]))) (y:=v) g hl.2 nG.2 z1 (λc hc n o ho=>kp c (lO _ hc) n o ho) (λxs' h'=>by rw[z2] at h'; cases h'; exact ay) (fv.mono g)
    obtain⟨F3,S3,f3⟩:=k4 (.bz (putL kvs k d)) (a::Gl) (λ_ h=>h) ndG (.bz (by rw[az hab]; exact ha) ol2)
    exact⟨b,xs,v,rfl,rfl,z2,gA (DP (by rw[z3.length]; exact hl.1)),q .non _ Z F3 [] S3 (.t (.v .non)) f3.nil⟩
  ·cases e
 ·cases e
noncomputable def putD(kvs:List (Key×AT))(k:Key)(d:AT):List (Key×AT):=if (kvs.any λkv=>decide (kv.1=k))=true then kvs.map (λkv=>if kv.1=k then (kv.1,d) else kv) else kvs++[(k,d)]
noncomputable def rF(i:Nat)(fk fe:FE):FS:=λρ=>(fe ρ).bind λp=>(cu p.1 p.2).bind λq=>(bG q.2 i).bind λm0=>match m0 with
 |.v _=>none
 |_=>(fk q.2).bind λr=>(peek r.2 r.1).bind λmk=>(bG r.2 i).bind λm=>match m,mk with
  |.aI kvs,.v kd=>(c5 kd).bind λk=>if kvs.length<lim then some (.nx (r.2.set i (some (.aI (putD kvs k q.1))))) else none
  |.lst ds,.v (.int k)=>(oh ds.length k).bind λj=>some (.nx (r.2.set i (some (.lst (ds.set j q.1)))))
  |_,_=>none
theorem xj{K:AC}{H:Hp}{Z:Zs}(k:Key):∀{kxs:List (Key×V)}{kvs:List (Key×AT)},eK K H Z kxs kvs->(kxs.any λkv=>decide (kv.1=k))=(kvs.any λkv=>decide (kv.1=k)):=by
 intro kxs
 induction kxs with
 |nil=>intro kvs h; cases h; rfl
 |cons p kxs ih=>intro kvs h; cases h with | cons _ r=>rw[DG,DG,ih r]
theorem lV{K:AC}{H:Hp}{Z:Zs}{y:V}{d:AT}{k:Key}(fy:Fz K H Z y d):∀{kxs:List (Key×V)}{kvs:List (Key×AT)},eK K H Z kxs kvs->eK K H Z (kxs.map λkv=>if kv.1=k then (kv.1,y) else kv) (kvs.map λkv=>if kv.1=k then (kv.1,d) else kv)
 |_,_,.nil=>.nil
 |_,_,.cons (k:=k') h r=>by
  rw[CC,CC]
  by_cases hk:k'=k
  ·simp only[hk,if_true]; exact .cons fy (lV fy r)
  ·simp only[hk,if_false]; exact .cons h (lV fy r)
theorem nE{K:AC}{H:Hp}{Z:Zs}{y:V}{d:AT}{k:Key}(fy:Fz K H Z y d):∀{kxs:List (Key×V)}{kvs:List (Key×AT)},eK K H Z kxs kvs->eK K H Z (kxs++[(k,y)]) (kvs++[(k,d)])
 |_,_,.nil=>.cons fy .nil
 |_,_,.cons h r=>.cons h (nE fy r)
theorem eK.put{K:AC}{H:Hp}{Z:Zs}{y:V}{d:AT}{k:Key}(fy:Fz K H Z y d){kxs:List (Key×V)}{kvs:List (Key×AT)}(r:eK K H Z kxs kvs):eK K H Z (putK kxs k y) (putD kvs k d):=by
 unfold putK putD;rw[xj k r]
 split
 ·exact lV fy r
 ·exact nE fy r
theorem Ao{st:Stmt}{t u:TS}(h:PS X st t)(h':PS X st u):PS X st (λD σ H=>t D σ H\/u D σ H):=λpins s σ H D I q=>q.elim (h pins s σ H D I) (h' pins s σ H D I)
theorem Ow.uniq{K:AC}{H:Hp}{Z:Zs}{x:V}{m:M}{A B:List Addr}(r:Ow K H Z x m A)(r':Ow K H Z x m B):A=B:=by
 cases r with
 |v _=>cases r'; rfl
 |lst _ _=>cases r'; rfl
 |aI _ _=>cases r'; rfl
 |dtp _ _ _=>cases r'; rfl
 |dre e _ _ _=>cases r' with
  |dre e' _ _ _=>rw[e] at e'; cases e'; rfl
 |lls e r=>
  cases r' with
  |lls e' r' =>
   rw[e] at e'; cases e';rw[gz.uniq r r']
 |bz e r=>
  cases r' with
  |bz e' r' =>
   rw[e] at e'; cases e';rw[fW.uniq r r']
theorem ql{i:Nat}{fk fe:FE}{pv:Pv}{D:Ends}{σ:L2.St}{H:Hp}{Z:Zs}{ρ:Ev}{F:List Addr}{o1 o2:bY}{d:AT}{ρ1 ρ2 ρ3:Ev}{mk m m':M}(S:aK X.K H Z σ ρ F)(w:Wf H Z F)(P:Pin pv σ)(e1:fe ρ=some (o1,ρ1))(e2:cu o1 ρ1=some (d,ρ2))(e4:fk ρ2=some (o2,ρ3))(e5:peek ρ3 o2=some mk)(e6:bG ρ3 i=some m)
  (q:j6 X.K pv D H Z F (.nx (ρ3.set i (some m')))) {a:Addr} {m0:M} (e3:bG ρ2 i=some m0) (hm0:∀d,m0≠.v d)
  (R:V->V->V->Hp->Prop) (hR:∀H3 Z3 x v k,Ro X.K H3 Z3 x m->Fz X.K H3 Z3 v d->Ro X.K H3 Z3 k mk->(∀G,Ow X.K H3 Z3 x m G->∀a o',a∈G->(aG H3 Z3 (upd H3 a o') Z3->Ow X.K (upd H3 a o') Z3 x m' G)->D.nx σ (upd H3 a o'))->R x v k H3) :
  vE X.K fe σ H λv H1=>cI i σ H1 λx H2=>vE X.K fk σ H2 λk H3=>R x v k H3:=by
 refine⟨Z,ρ,F,o1,ρ1,S,w,e1,λv H1 Z1 F1 G1 S1 O1 f1=>?_⟩
 obtain⟨Z2,F2,S2,z2,f2,_⟩:=dN S1 O1 f1 e2;obtain⟨x,G,h1,h2,_⟩:=S2.get (aC.mp e3);refine⟨x,h1,Z2,ρ2,F2,o2,ρ3,S2,f2.wf,e4,λk H3 Z3 F3 G3 S3 O3 f3=>?_⟩
 have f4:=f2.trans f3.left;obtain⟨x',G',k1,k2,k3⟩:=rE S3 f4 e6;rw[h1] at k1; cases k1;refine hR H3 Z3 x v k ⟨G',k2⟩ (z2.mono (f3.grow f2.wf)) (O3.peek S3 e5) λG2 hG a o' ha hk=>?_
 have eG:G2=G':=by
  exact Ow.uniq hG k2
 subst eG;obtain⟨g,_,k4⟩:=k3 a o' ha;have ndG:G2.Nodup:=by
  obtain⟨x2,G3',F1',t1,t2,t3,t4,t5⟩:=S3.take f4.nd (aC.mp e6);rw[h1] at t1; cases t1;rw[Ow.uniq k2 t2];exact(aT t4).2.1
 obtain⟨F5,S5,f5⟩:=k4 m' G2 (λ_ h=>h) ndG (hk g)
 exact q σ _ Z3 F5 S5 f5 P
theorem xm{i:Nat}{fk fe:FE}{pv:Pv}{D:Ends}{σ:L2.St}{H:Hp}(hq:vS X.K pv (rF i fk fe) D σ H):sS (cI i) (vE X.K fk) (vE X.K fe) D σ H\/jT (vE X.K fe) (qI (cI i) (vE X.K fk) kr) D σ H:=by
 obtain⟨Z,ρ,F,o,S,w,P,e,q⟩:=hq;obtain⟨⟨o1,ρ1⟩,e1,e⟩:=oB e;obtain⟨⟨d,ρ2⟩,e2,e⟩:=oB e;obtain⟨m0,e3,e⟩:=oB e;have main:(∀d,m0≠.v d)->((fk ρ2).bind λr=>(peek r.2 r.1).bind λmk=>(bG r.2 i).bind λm=>match m,mk with
  |.aI kvs,.v kd=>(c5 kd).bind λk=>if kvs.length<lim then some (Out.nx (r.2.set i (some (.aI (putD kvs k d))))) else none
  |.lst ds,.v (.int k)=>(oh ds.length k).bind λj=>some (.nx (r.2.set i (some (.lst (ds.set j d)))))
  |_,_=>none)=some o->sS (cI i) (vE X.K fk) (vE X.K fe) D σ H\/jT (vE X.K fe) (qI (cI i) (vE X.K fk) kr) D σ H:=λhm0 e=>by
  obtain⟨⟨o2,ρ3⟩,e4,e⟩:=oB e;obtain⟨mk,e5,e⟩:=oB e;obtain⟨m,e6,e⟩:=oB e
  split at e
  ·rename_i kvs kd
   obtain⟨k,e7,e⟩:=oB e
   split at e
   ·rename_i hl
    injection e with e
    subst e;refine .inl (ql (a:=0) S w P e1 e2 e4 e5 e6 q e3 hm0 _ λH3 Z3 x v y hx hv hy fin=>?_)
    obtain⟨G,hG⟩:=hx;cases hG with
    |aI ha fk' =>
     obtain rfl:=di hy.fz e7;exact⟨_,_,rfl,qP.k ha (gA (DP (by rw[fk'.length]; exact hl))),fin _ (.aI ha fk') _ _ lS λg=>.aI ay (eK.put (hv.mono g) (fk'.mono g))⟩
   ·cases e
  ·rename_i ds k
   obtain⟨j,e7,e⟩:=oB e
   injection e with e
   subst e;refine .inr (ql (a:=0) S w P e1 e2 e4 e5 e6 q e3 hm0 _ λH3 Z3 x v y hx hv hy fin=>?_)
   obtain⟨G,hG⟩:=hx;cases hG with
   |lst ha fs=>
    obtain rfl:=hy.int;exact⟨_,_,_,j,rfl,rfl,ha,by rw[fs.length]; exact e7,fin _ (.lst ha fs) _ _ lS λg=>.lst ay ((fs.mono g).set j (hv.mono g))⟩
  ·cases e
 cases m0 with
 |v d=>cases e
 |lst _=>exact main (λ_ z=>nomatch z) e
 |aI _=>exact main (λ_ z=>nomatch z) e
 |bz _=>exact main (λ_ z=>nomatch z) e
 |dtp _=>exact main (λ_ z=>nomatch z) e
 |lls _=>exact main (λ_ z=>nomatch z) e
 |dre _ _ _=>exact main (λ_ z=>nomatch z) e
theorem Aq(i:Nat){o k e:Expr}{fk fe:FE}{pos':Pos}(hu:X.A.units+64<cLine)(ho:PE X o (cI i))(hk:VE X k fk)(he:VE X e fe)(hs:Dh e (some (.Subscript o k pos')) pos.line X.env=pure false)
  (hps:∀(te:TE)(t:TG),PE X e te->PG X (.Subscript o k pos') t->PS X (.Assign [.Subscript o k pos'] e pos) (jT te t)) (hpg:∀to ti:TE,PE X o to->PE X k ti->PG X (.Subscript o k pos') (qI to ti kr)):VS X pin (.Assign [.Subscript o k pos'] e pos) (rF i fk fe):=λpv hp=>
 c6 (Ao (pU (by lia) ho hk he hs) (hps _ _ he (hpg _ _ ho hk))) λ_ _ _ hq=>xm hq
end
section
variable{X:Cx}{pos:Pos}{pin:List Nat}
theorem xo{i:Nat}{f:FE}{pv:Pv}{D:Ends}{σ:L2.St}{H:Hp}(hp:yj pv pin)(hp0:i∉pin)(hq:vS X.K pv (bA i f) D σ H):vE X.K f σ H λx H1=>D.nx (σ.set i (some x)) H1:=by
 obtain⟨Z,ρ,F,o,S,w,P,e,q⟩:=hq;obtain⟨⟨o1,ρ1⟩,e1,e⟩:=oB e;obtain⟨⟨m,ρ2⟩,e2,e⟩:=oB e;obtain⟨ρ3,e3,e⟩:=oB e;cases e;refine⟨Z,ρ,F,o1,ρ1,S,w,e1,λy H1 Z1 F1 G1 S1 O1 f1=>?_⟩
 obtain⟨Z2,F2,G2,h1,h2,h3⟩:=moved S1 O1 f1 e2;obtain⟨F3,k1,k2,k3⟩:=h1.eB h2 h3.nd e3;exact q _ H1 Z2 F3 k1 (h3.sub k2 k3) (P.set hp hp0)
theorem Ar{i:Nat}{x:Str}(n:Nat)(js:List Nat){elt target iter:Expr}{ifs:List Expr}{scope:Scope}{N:List Str}{fr:List (Option Nat)}{pinI:List Nat}{fi:FI}{fg:FG}{ft:FT}{fe:FE}{pos' spos:Pos}(hp0:i∉pin)(hN:X.N.Nodup)(hi':X.N[i]? = some x)(hx:X.env.scope.names.lookup x=some .local)
  (hfr:fr=C5 n none++js.map some) (hpin:pinI=(CG js.length).map (n + ·)) (hc:X.calm=true) (S:aY X scope N fr) (hi:VI X target iter fi)
  (hin:∀z:Bk,VG (z.cx X scope N) pinI target fg/\VF (z.cx X scope N) ifs ft/\VE (z.cx X scope N) elt fe)
  (hs:∀x,CS iter X.env x=pure x:=by intro _; rfl) (hsw:Dh (.ListComp elt [⟨target,iter,ifs,0⟩] scope pos) (some (.Name x pos')) spos.line X.env=pure true:=by rfl) :
  VS X pin (.Assign [.Name x pos'] (.ListComp elt [⟨target,iter,ifs,0⟩] scope pos) spos) (bA i (qk n js fi fg ft fe)):=λpv hp pins s σ H D I hq=>
 zy (g:=λ_=>vG X.K (fN n js σ) fg) (tt:=λ_=>vT X.K ft) (te:=λ_=>vE X.K fe) hN hi' hx hc S hi (λz=>⟨(hin z).1 _ (jE n js σ hpin),(hin z).2.1,(hin z).2.2⟩) hs hsw pins s σ H D I (eW hfr (xo hp hp0 hq))
theorem aD.ez{H0 H:Hp}{Z0 Z:Zs}{F0 A:List Addr}{D:Addr}{o o':HO}(f:aD H0 Z0 F0 H Z A)(hD:D∈A)(e:H D=some o)(hn:∀u,o≠.tup u)(hf:∀x u,o≠.frz x u):aD H0 Z0 F0 (upd H D o') Z A/\aG H Z (upd H D o') Z:=by
 have nz:¬Z D:=f.dz D hD;have keep:∀a o2,a≠D->H a=some o2->upd H D o' a=some o2:=λa o2 n h=>by rw[az n]; exact h
 have za:∀a,Z a->upd H D o' a≠none:=λa z=>by
  have hne:a≠D:=λh=>nz (h▸z)
  rw[az hne];exact f.za a z
 have g:aG H Z (upd H D o') Z:=⟨dh.put e hn hf,λa o2 z h=>keep a o2 (λw=>nz (w▸z)) h,λ_ z=>z⟩
 exact⟨f.trans ⟨λa o2 n h=>keep a o2 (λw=>n (w▸hD)) h,g.tups,λ_ z=>z,λa z=>.inl z,λa h=>.inl h,f.nd,f.dz,za⟩,g⟩
def Acc(K:AC)(H:Hp)(Z:Zs)(D:Addr):M->List Addr->Prop
 |.aI kvs,G=>G=[D]/\∃kxs,H D=some (.dK kxs)/\eK K H Z kxs kvs
 |.bz kvs,G=>∃Gl kxs,G=D::Gl/\H D=some (.dK kxs)/\fW K H Z kxs kvs Gl
 |_,_=>False
noncomputable def uq(k:Key):M->bY->Ev->Option (M×Ev)
 |.bz kvs,.t (.lst ds),ρ=>if (kvs.any λp=>decide (p.1=k))=false/\kvs.length<lim then some (.bz (kvs++[(k,ds)]),ρ) else none
 |.aI kvs,o,ρ=>if kvs.length<lim then (cu o ρ).bind λq=>some (.aI (putD kvs k q.1),q.2) else none
 |_,_,_=>none
noncomputable def iJ(fg:FG)(ft:FT)(fk fv:FE):List AT->Ev->M->Option (M×Ev)
 |[],ρ,acc=>some (acc,ρ)
 |d::ds,ρ,acc=>(fg d ρ).bind λρ1=>(ft ρ1).bind λt=>if t.1=true then
  (fk t.2).bind λp=>match p.1 with
   |.t (.v kd)=>(c5 kd).bind λk=>(fv p.2).bind λr=>(uq k acc r.1 r.2).bind λa=>iJ fg ft fk fv ds a.2 a.1
   |_=>none
  else iJ fg ft fk fv ds t.2 acc
noncomputable def A3(lists:Bool)(n:Nat)(js:List Nat)(fi:FI)(fg:FG)(ft:FT)(fk fv:FE):FE:=λρ=>(fi ρ).bind λp=>(caps p.2 js).bind λos=>(bP os p.2).bind λq=>
 (iJ fg ft fk fv p.1 (C5 n none++q.1.map some) (if lists then .bz [] else .aI [])).bind λr=>(fin (C5 js.length true) q.1 (r.2.drop n)).bind λms'=>some (.t r.1,ez os ms' q.2)
theorem ur{K:AC}{H:Hp}{Z:Zs}{k:Key}{b:Addr}{xs:List V}{ds:List AT}(h:H b=some (.lst xs))(f:aZ K H Z xs ds):∀{kxs:List (Key×V)}{kvs:List (Key×List AT)}{G:List Addr},fW K H Z kxs kvs G->fW K H Z (kxs++[(k,.ref b)]) (kvs++[(k,ds)]) (G++[b]):=by
 intro kxs kvs G r
 induction r with
 |nil=>exact .cons h f .nil
 |cons h' f' r ih=>exact .cons h' f' ih
theorem qm{K:AC}{H:Hp}{Z:Zs}(k:Key):∀{kxs:List (Key×V)}{kvs:List (Key×List AT)}{G:List Addr},fW K H Z kxs kvs G->(kxs.any λkv=>decide (kv.1=k))=(kvs.any λkv=>decide (kv.1=k))
 |_,_,_,.nil=>rfl
 |_,_,_,.cons _ _ r=>by rw[DG,DG,qm k r]
theorem Acc.mem{K:AC}{H:Hp}{Z:Zs}{D:Addr}{m:M}{G:List Addr}(h:Acc K H Z D m G):D∈G/\(∃kxs,H D=some (.dK kxs))/\∀a∈G,H a≠none:=by
 cases m with
 |aI kvs=>
  obtain⟨rfl,kxs,e,_⟩:=h;exact⟨lS,⟨kxs,e⟩,λa ha z=>by rw[B1.mp ha,e] at z; cases z⟩
 |bz kvs=>
  obtain⟨Gl,kxs,rfl,e,r⟩:=h;refine⟨lS,⟨kxs,e⟩,λa ha z=>?_⟩
  rcases lK ha with ha | ha
  ·rw[ha,e] at z; cases z
  ·obtain⟨o,q,_⟩:=r.mem a ha; rw[q] at z; cases z
 |v _=>exact h.elim
 |lst _=>exact h.elim
 |dtp _=>exact h.elim
 |lls _=>exact h.elim
 |dre _ _ _=>exact h.elim
theorem Acc.mono{K:AC}{H H':Hp}{Z Z':Zs}{D:Addr}{m:M}{G:List Addr}(g:aG H Z H' Z')(h:Acc K H Z D m G)(k:∀a∈G,∀o,H a=some o->H' a=some o):Acc K H' Z' D m G:=by
 cases m with
 |aI kvs=>
  obtain⟨rfl,kxs,e,r⟩:=h;exact⟨rfl,kxs,k D lS _ e,r.mono g⟩
 |bz kvs=>
  obtain⟨Gl,kxs,rfl,e,r⟩:=h;exact⟨Gl,kxs,rfl,k D lS _ e,r.mono g λa ha=>k a (lO _ ha)⟩
 |v _=>exact h.elim
 |lst _=>exact h.elim
 |dtp _=>exact h.elim
 |lls _=>exact h.elim
 |dre _ _ _=>exact h.elim
theorem Acc.ow{K:AC}{H:Hp}{Z:Zs}{D:Addr}{m:M}{G:List Addr}(h:Acc K H Z D m G):Ow K H Z (.ref D) m G:=by
 cases m with
 |aI kvs=>obtain⟨rfl,kxs,e,r⟩:=h; exact .aI e r
 |bz kvs=>obtain⟨Gl,kxs,rfl,e,r⟩:=h; exact .bz e r
 |v _=>exact h.elim
 |lst _=>exact h.elim
 |dtp _=>exact h.elim
 |lls _=>exact h.elim
 |dre _ _ _=>exact h.elim
theorem Acc.add{K:AC}{H H0:Hp}{Z Z0:Zs}{D:Addr}{m m':M}{G Gy F F0:List Addr}{k:Key}{o:bY}{ρ ρ':Ev}{σ:L2.St}{y:V}(S:aK K H Z σ ρ F)(O:jQ K H Z σ y o Gy)(h:Acc K H Z D m G)(f:aD H0 Z0 F0 H Z (F++Gy++G))(e:uq k m o ρ=some (m',ρ')) :
  ∃kxs,H D=some (.dK kxs)/\kxs.length<C7/\∃Z' F' G',aK K (upd H D (.dK (putK kxs k y))) Z' σ ρ' F'/\Acc K (upd H D (.dK (putK kxs k y))) Z' D m' G'/\aD H0 Z0 F0 (upd H D (.dK (putK kxs k y))) Z' (F'++G'):=by
 obtain⟨n1,n2,n3,s1,s2,s3⟩:=Bp f.nd;cases m with
 |aI kvs=>
  obtain⟨rfl,kxs,eD,r⟩:=h;have e:(if kvs.length<lim then (cu o ρ).bind λq=>some (M.aI (putD kvs k q.1),q.2) else none)=some (m',ρ'):=by
   cases o <;> exact e
  split at e
  ·rename_i hl
   obtain⟨⟨d,ρ2⟩,e2,e⟩:=oB e;cases e;obtain⟨Z2,F2,S2,y2,f2,g2⟩:=freeze S O f e2;have hDm:D∈F2++[D]:=lR _ lS;obtain⟨f3,g3⟩:=f2.ez (o':=.dK (putK kxs k y)) hDm eD (λ_ z=>nomatch z) (λ_ _ z=>nomatch z)
   refine⟨kxs,eD,gA (DP (by rw[r.length]; exact hl)),Z2,F2,[D],S2.mono g3 λa ha o2 e3=>?_,⟨rfl,_,ay,eK.put (y2.mono g3) ((r.mono g2).mono g3)⟩,f3⟩
   have hne:a≠D:=λz=>(aT f2.nd).2.2 a ha (by rw[z]; exact lS)
   rw[az hne]; exact e3
  ·cases e
 |bz kvs=>
  obtain⟨Gl,kxs,rfl,eD,r⟩:=h;cases o with
  |t m0=>
   cases m0 with
   |lst ds=>
    have e:(if (kvs.any λp=>decide (p.1=k))=false/\kvs.length<lim then some (M.bz (kvs++[(k,ds)]),ρ) else none)=some (m',ρ'):=e
    split at e
    ·rename_i hl
     cases e;cases O with
     |t ow=>
      cases ow with
      |lst hb fb=>
       rename_i b xs
       have hDm:D∈F++[b]++(D::Gl):=lR _ lS;obtain⟨f3,g3⟩:=f.ez (o':=.dK (putK kxs k (.ref b))) hDm eD (λ_ z=>nomatch z) (λ_ _ z=>nomatch z)
       have hbD:b≠D:=λz=>s3 b lS (by rw[z]; exact lS)
       have nG:=CJ.mp n3;have hput:putK kxs k (.ref b)=kxs++[(k,.ref b)]:=by
        unfold putK;rw[qm k r,hl.1];rfl
       refine⟨kxs,eD,gA (DP (by rw[r.length]; exact hl.2)),Z,F,D::(Gl++[b]),S.mono g3 λa ha o2 e3=>?_,⟨Gl++[b],_,rfl,ay,?_⟩,f3.sub (aJ n1 (CJ.mpr ⟨λz=>?_,aJ nG.2 n2 λa ha z=>s3 a z (lO _ ha)⟩) λa ha z=>?_) λa ha=>?_⟩
       ·have hne:a≠D:=λz=>s2 a ha (by rw[z]; exact lS)
        rw[az hne]; exact e3
       ·rw[hput]
        refine ur (by rw[az hbD]; exact hb) (fb.mono (hput▸g3)) (r.mono (hput▸g3) λa ha o2 e3=>?_)
        have hne:a≠D:=λz=>nG.1 (z▸ha)
        rw[az hne]; exact e3
       ·rcases lM z with z | z
        ·exact nG.1 z
        ·exact hbD (B1.mp z).symm
       ·rcases lK z with z | z
        ·exact s2 a ha (by rw[z]; exact lS)
        rcases lM z with z | z
        ·exact s2 a ha (lO _ z)
        ·exact s1 a ha z
       ·rcases lM ha with ha | ha
        ·exact lL _ (lL _ ha)
        rcases lK ha with ha | ha
        ·exact lR _ (by rw[ha]; exact lS)
        rcases lM ha with ha | ha
        ·exact lR _ (lO _ ha)
        ·exact lL _ (lR _ ha)
    ·cases e
   |_=>cases e
  |_=>cases e
 |v _=>exact h.elim
 |lst _=>exact h.elim
 |dtp _=>exact h.elim
 |lls _=>exact h.elim
 |dre _ _ _=>exact h.elim
theorem xq{pv:Pv}{fg:FG}{ft:FT}{fk fv:FE}{J:It}{ds:List AT}{D:Addr}{τ:L2.St}{H1:Hp}{Z1:Zs}{A:List Addr}{ρ0:Ev}{m0:M}{r:M×Ev}{Q:Hp->Prop}(hD:H1 D=none)(S:aK X.K H1 Z1 τ ρ0 A)(w:Wf H1 Z1 A)(P:Pin pv τ)(hJ:j7 X.K J H1 Z1 ds)(hm0:Acc X.K (upd H1 D (.dK [])) Z1 D m0 [D])(e:iJ fg ft fk fv ds ρ0 m0=some r)
  (q:∀τ' H' Z' F' G',aK X.K H' Z' τ' r.2 F'->Pin pv τ'->Acc X.K H' Z' D r.1 G'->aD H1 Z1 A H' Z' (F'++G')->Q H'):eO (vG X.K pv fg) (vT X.K ft) (ePut D (vE X.K fk) (vE X.K fv)) J τ (upd H1 D (.dK [])) λ_=>Q:=by
 have n0:=aD.ng (o:=.dK []) hD w.za;refine nD (Q:=λ_=>Q) (λH Z m G=>Acc X.K H Z D m G) (λds ρ acc=>iJ fg ft fk fv ds ρ acc=some r) (λds ρ acc=>((fk ρ).bind λp=>match p.1 with
    |.t (.v kd)=>(c5 kd).bind λk=>(fv p.2).bind λr=>(uq k acc r.1 r.2).bind λa=>iJ fg ft fk fv ds a.2 a.1
    |_=>none)=some r) (λa g k=>Acc.mono g a k) (λa=>a.mem.2.2) (λd ds ρ acc e=>?_) (S.news n0) P hm0 (n0.news w S.al) e (λH2 Z2 _ f=>hJ.go H2 Z2 (f.grow w)) (λH2 Z2 _ f=>hJ.stop H2 Z2 (f.grow w)) (λds' τ H Z ρ F G acc e S P a f N hN=>?_) λτ' H' Z' ρ' F' G' acc' S P a f e=>?_
 ·obtain⟨ρ3,e3,e⟩:=oB e
  obtain⟨⟨b,ρ4⟩,e4,e⟩:=oB e;exact⟨ρ3,b,ρ4,e3,e4,λh=>by subst h; exact e,λh=>by subst h; exact e⟩
 ·obtain⟨⟨o5,ρ5⟩,e5,e2⟩:=oB e
  split at e2
  ·rename_i kd hko
   have hko:o5=.t (.v kd):=hko;subst hko;obtain⟨k,e6,e2⟩:=oB e2;obtain⟨⟨o7,ρ7⟩,e7,e2⟩:=oB e2;obtain⟨⟨acc',ρ8⟩,e8,e2⟩:=oB e2;refine⟨Z,ρ,F,_,ρ5,S,f.left.wf,e5,λy H5 Z5 F5 G5 S5 O5 g5=>?_⟩
   have yk:y=kV k:=by
    cases O5 with
    |t ow=>cases ow with
     |v fy=>exact di fy e6
   have f5:=f.trans (g5.left.frame f.wf a.mem.2.2);have a5:=Acc.mono (g5.grow f.left.wf) a λa h o e=>g5.keep a o (λz=>(aT f.nd).2.2 a z h) e
   refine⟨Z5,ρ5,F5,o7,ρ7,S5,f5.left.wf,e7,λv H7 Z7 F7 G7 S7 O7 g7=>?_⟩
   have a7:=Acc.mono (g7.grow f5.left.wf) a5 λa h o e=>g7.keep a o (λz=>(aT f5.nd).2.2 a z h) e
   obtain⟨kxs,eD,hsz,Z8,F8,G8,S8,a8,f8⟩:=a7.add S7 O7 (f5.trans (g7.frame f5.wf a5.mem.2.2)) e8;exact⟨kxs,k,yk,eD,hsz,hN τ _ Z8 ρ8 F8 G8 acc' S8 P a8 f8 e2⟩
  ·cases e2
 ·cases e
  exact q τ' H' Z' F' G' S P a f
end
section
variable{X:Cx}{pos:Pos}{pin:List Nat}
theorem As{b:Bool}{n:Nat}{js:List Nat}{fi:FI}{fg:FG}{ft:FT}{fk fv:FE}{σ:L2.St}{H:Hp}{Q:VK}{fr:List (Option Nat)}(hfr:fr=C5 n none++js.map some)(hq:vE X.K (A3 b n js fi fg ft fk fv) σ H Q) :
  B8 fr (vI X.K fi) (λ_=>vG X.K (fN n js σ) fg) (λ_=>vT X.K ft) (λ_=>vE X.K fk) (λ_=>vE X.K fv) σ H Q:=by
 subst hfr;obtain⟨Z,ρ,F,o,ρ',S,w,e,q⟩:=hq;obtain⟨⟨ds,ρ1⟩,e1,e⟩:=oB e;obtain⟨os,e2,e⟩:=oB e;obtain⟨⟨ms,ρh⟩,e3,e⟩:=oB e;obtain⟨⟨acc,ρi⟩,e4,e⟩:=oB e;obtain⟨ms',e5,e⟩:=oB e;cases e;refine⟨Z,ρ,F,ds,ρ1,S,w,e1,λJ H1 Z1 F1 S1 hJ f1 D hD z=>?_⟩
 obtain⟨τ,A,Fh,eτ,S0,wA,P0,h2,n3,back⟩:=gF (n:=n) S1 f1 e2 e3;rw[eτ];have hm0:Acc X.K (upd H1 D (.dK [])) Z1 D (if b=true then .bz [] else .aI []) [D]:=by
  cases b with
  |true=>exact⟨[],[],rfl,ay,.nil⟩
  |false=>exact⟨rfl,[],ay,.nil⟩
 refine xq hD S0 wA P0 hJ hm0 e4 λτ' H2 Z2 F2 G2 S2 P2 d2 f2=>?_
 obtain⟨F4,p1,f4⟩:=back _ _ _ _ _ _ _ S2 P2 f2 e5;exact q (.ref D) H2 Z2 F4 G2 p1 (.t d2.ow) f4
theorem ve_dc(b:Bool)(n:Nat)(js:List Nat){ek ev target iter:Expr}{ifs:List Expr}{scope:Scope}{N:List Str}{fr:List (Option Nat)}{pin:List Nat}{fi:FI}{fg:FG}{ft:FT}{fk fv:FE}(hfr:fr=C5 n none++js.map some)(hpin:pin=(CG js.length).map (n + ·))(hc:X.calm=true)(S:aY X scope N fr)(hi:VI X target iter fi)
  (hin:∀z:Bk,VG (z.cx X scope N) pin target fg/\VF (z.cx X scope N) ifs ft/\VE (z.cx X scope N) ek fk/\VE (z.cx X scope N) ev fv)
  (hs:∀x,CS iter X.env x=pure x:=by intro _; rfl):VE X (.DictComp ek ev [⟨target,iter,ifs,0⟩] scope pos) (A3 b n js fi fg ft fk fv):=λpins s σ H Q I hq=>
 pe_dc (g:=λ_=>vG X.K (fN n js σ) fg) (tt:=λ_=>vT X.K ft) (tk:=λ_=>vE X.K fk) (tv:=λ_=>vE X.K fv) hc S hi (λz=>⟨(hin z).1 _ (jE n js σ hpin),(hin z).2.1,(hin z).2.2.1,(hin z).2.2.2⟩) hs pins s σ H Q I (As hfr hq)
end
structure WE(X:Cx)(e:Expr)(f:FE):Prop where
 h:VE X e f
structure WA(X:Cx)(e:List Expr)(f:FA):Prop where
 h:VA X e f
structure WT(X:Cx)(e:Expr)(f:FT):Prop where
 h:VT X e f
structure WW(X:Cx)(e:Expr)(f:FT):Prop where
 h:VW X e f
structure WO(X:Cx)(e:Option Expr)(f:FO):Prop where
 h:PO X e (vO X.K f)
structure WI(X:Cx)(tg e:Expr)(f:FI):Prop where
 h:VI X tg e f
structure WG(X:Cx)(pin:List Nat)(tg:Expr)(f:FG):Prop where
 h:VG X pin tg f
structure BG(X:Cx)(pin:List Nat)(tg:List Expr)(f:rz):Prop where
 h:Bq X pin tg f
structure WF(X:Cx)(e:List Expr)(f:FT):Prop where
 h:VF X e f
structure WP(X:Cx)(e:Expr)(f:Ev->Option AT):Prop where
 h:VP X e f
structure WS(X:Cx)(pin:List Nat)(st:Stmt)(f:FS):Prop where
 h:VS X pin st f
structure xr(X:Cx)(pin:List Nat)(st:List Stmt)(f:FS):Prop where
 h:vg X pin st f
section
variable{X:Cx}{pos:Pos}{pin:List Nat}
theorem wv(i:Nat){x:Str}{pos:Pos}(hN:X.N[i]? = some x:=by rfl)(hv:xX X.env.scope x:=by first | exact CK rfl | exact E1 (CK rfl) | exact E1 (E1 rfl))(hd:(x == ("__debug__" : Str))=false:=by decide)
  (hcd:(x == ("__classdict__" : Str))=false:=by decide):WE X (.Name x pos) (aa i):=⟨vv i hN hv hd hcd⟩
theorem Br(i:Nat){x:Str}{pos:Pos}(hN:X.N[i]? = some x:=by rfl)(hv:xX X.env.scope x:=by first | exact CK rfl | exact E1 (CK rfl) | exact E1 (E1 rfl))(hd:(x == ("__debug__" : Str))=false:=by decide)
  (hcd:(x == ("__classdict__" : Str))=false:=by decide):WP X (.Name x pos) (cZ i):=⟨Am i (nS hN hv hd hcd)⟩
theorem Au{i j pos}:WP X (.Constant (.int i) j pos) (λ_=>some (.int i)):=⟨An⟩
theorem aj{i j pos}:WE X (.Constant (.int i) j pos) (vC (.int i)):=⟨zE⟩
theorem e9{i j pos}:WE X (.Constant (.bool i) j pos) (vC (.bool i)):=⟨ve_bl⟩
theorem uu{j pos}:WE X (.Constant .none j pos) (vC .none):=⟨zF⟩
theorem aF{op:Fm}{a b:Expr}{g:M->M->Option M}{fa fb:FE}(ho:cH X (Cz op) (rM X.K g))(ha:WE X a fa)(hb:WE X b fb):WE X (.BinOp a op b pos) (vB g fa fb):=⟨ve_op rM_v ho ha.h hb.h⟩
theorem uv{op:CmpOp}{a b:Expr}{g:M->M->Option M}{fa fb:FE}(ho:cH X (CN op) (rM X.K g))(ha:WE X a fa)(hb:WE X b fb)(hm:D7 op b=false):WE X (.Compare a [op] [b] pos) (vB g fa fb):=⟨zG rM_v ho ha.h hb.h hm⟩
theorem cg{op:CmpOp}{a b:Expr}{g:M->M->Option M}{fa fb:FE}(ho:cH X (CN op) (rM X.K g))(ha:WE X a fa)(hb:WE X b fb)(hm:D7 op b=false):WT X (.Compare a [op] [b] pos) (aL (vB g fa fb)):=⟨zJ rM_v ho ha.h hb.h hm⟩
theorem qo{a b:Expr}{fa fb:FE}(hu:X.A.units+64<cLine)(ha:WE X a fa)(hb:WE X b fb)(hm:D7 .In b=false:=by rfl):WT X (.Compare a [.In] [b] pos) (aL (vB (ic false) fa fb)):=⟨vt_in hu ha.h hb.h hm⟩
theorem jG{a b:Expr}{fa fb:FE}(hu:X.A.units+64<cLine)(ha:WE X a fa)(hb:WE X b fb)(hm:D7 .NotIn b=false:=by rfl):WT X (.Compare a [.NotIn] [b] pos) (aL (vB (ic true) fa fb)):=⟨tT hu ha.h hb.h hm⟩
theorem lW{e:Expr}{f:FE}(h:WE X e f)(he:∀whole,HD e X.env whole=(do let v <-whole; FP e.pos; En [v] (truthy v)):=by intro _; rfl):WT X e (jx f):=⟨zU h.h he⟩
theorem uw{a:Expr}{f:FT}(h:WT X a f):WT X (.UnaryOp .Not a pos) (nc f):=⟨zK h.h⟩
theorem jH{e:Expr}{f:FT}(h:WW X e f):WT X e f:=⟨PW.pt h.h⟩
theorem f9{a:Expr}{f:FT}(h:WT X a f):WW X (.BoolOp .And [a] pos) f:=⟨wG h.h⟩
theorem Av{a:Expr}{f:FT}(h:WT X a f):WW X (.BoolOp .Or [a] pos) f:=⟨zL h.h⟩
theorem gG{a b:Expr}{rest:List Expr}{f g:FT}(h:WT X a f)(h':WW X (.BoolOp .And (b::rest) pos) g):WW X (.BoolOp .And (a::b::rest) pos) (ff f g):=⟨zM h.h h'.h⟩
theorem ww_or{a b:Expr}{rest:List Expr}{f g:FT}(h:WT X a f)(h':WW X (.BoolOp .Or (b::rest) pos) g):WW X (.BoolOp .Or (a::b::rest) pos) (AY f g):=⟨vw_or h.h h'.h⟩
theorem Aw{a b:Expr}{rest:List Expr}{fa fb:FE}(ha:WE X a fa)(hb:WE X (.BoolOp .And (b::rest) pos) fb):WE X (.BoolOp .And (a::b::rest) pos) (p7 fa fb):=⟨zN ha.h hb.h⟩
theorem Ax{op a}{f:FE}(h:WE X a f):WE X (.BoolOp op [a] pos) f:=⟨zO h.h⟩
theorem lX{a:Expr}{fa:FE}(ha:WE X a fa):WE X (.UnaryOp .USub a pos) (vU gW fa):=⟨zV ha.h⟩
theorem lY:WA X [] iI:=⟨zH⟩
theorem aq{a:Expr}{fa:FE}(ha:WE X a fa)(hs:C9 [a] X.env=[(false,eval a X.env)]:=by rfl):WA X [a] (ai fa):=⟨zI ha.h hs⟩
theorem aB{a:Expr}{as:List Expr}{fa:FE}{fr:FA}(ha:WE X a fa)(hr:WA X as fr)(hs:C9 (a::as) X.env=(false,eval a X.env)::C9 as X.env:=by rfl):WA X (a::as) (ak fa fr):=⟨wF ha.h hr.h hs⟩
noncomputable def o4(ns:List Int):FA:=λρ=>some (ns.map λn=>.t (.v (.int n)),ρ)
theorem kM{K:AC}{H:Hp}{Z:Zs}{σ:L2.St}:∀ns:List Int,gV K H Z σ (ns.map V.int) (ns.map λn=>.t (.v (.int n))) []
 |[]=>.nil
 |n::ns=>.cons (G:=[]) (.t (.v (.int n))) (kM ns)
theorem xu{es:List Expr}{ns:List Int}(h:iV es=some ns):WA X es (o4 ns):=⟨lP (mY es ns h) λσ H Q hq=>by
 obtain⟨Z,ρ,F,o,ρ',S,w,e,q⟩:=hq;cases e;exact q _ H Z F [] S (kM ns) (aD.refl w).nil⟩
theorem iE{es:List Expr}{k:Nat}{fa:FA}(h:WA X es fa):WE X (.Tuple es k pos) (gf fa):=⟨zR h.h⟩
theorem fO{es:List Expr}{fa:FA}(h:WA X es fa):WE X (.List es pos) (iC fa):=⟨zS h.h⟩
theorem cL{a b:Expr}{fa fb:FE}(hu:X.A.units+64<cLine)(ha:WE X a fa)(hb:WE X b fb)(hs:iT b):WE X (.Subscript a b pos) (dZ fa fb):=⟨ve_ix hu ha.h hb.h hs⟩
theorem lZ:WO X none fJ:=⟨wK⟩
theorem gZ{e:Expr}{f:FE}(h:WE X e f):WO X (some e) (bR f):=⟨wL h.h⟩
theorem qp{e:Expr}{lo hi:Option Expr}{p2:Pos}{fa:FE}{fl fh:FO}(ha:WE X e fa)(hl:WO X lo fl)(hh:WO X hi fh):WE X (.Subscript e (.Slice lo hi none p2) pos) (rT fa fl fh):=⟨ve_sl ha.h hl.h hh.h⟩
theorem c7{id:String}{x:Str}{p:Pos}{e:Expr}{es:List Expr}{g:List M->Option M}{fa:FA}(hc:bw X (.builtin id) (q9 X.K g))(hg:Gl X x)(hm:X.mg x=none)(hv:DY x=some (.builtin id))(ha:WA X (e::es) fa)(hn:x ≠ "__name__" := by decide)(hdb:(x == ("__debug__" : Str))=false:=by decide)
  (he:C9 (e::es) X.env=(false,eval e X.env)::C9 es X.env:=by rfl) (hpl:(ED pos (C9 es X.env)).any (·.1)=false:=by rfl):WE X (.Call (.Name x p) (e::es) [] pos) (dY g fa):=⟨ve_cb hc hg hm hv ha.h hn hdb he hpl⟩
theorem kN{T:String}{x:Str}{p:Pos}{e:Expr}{es:List Expr}{g:List M->Option M}{fa:FA}(hc:bw X (.type T) (q9 X.K g))(hg:Gl X x)(hm:X.mg x=none)(hv:DY x=some (.type T))(ha:WA X (e::es) fa)(hn:x ≠ "__name__" := by decide)(hdb:(x == ("__debug__" : Str))=false:=by decide)
  (he:C9 (e::es) X.env=(false,eval e X.env)::C9 es X.env:=by rfl) (hpl:(ED pos (C9 es X.env)).any (·.1)=false:=by rfl):WE X (.Call (.Name x p) (e::es) [] pos) (dY g fa):=⟨ve_ct hc hg hm hv ha.h hn hdb he hpl⟩
theorem Ay{p p2:Pos}{e:Expr}(c:String){y:Str}{fa:FE}(hc:c∈cz)(hn:c ≠ "NoneType")(hg:Gl X "isinstance")(hm:X.mg "isinstance" = none)(hv:DY "isinstance" = some (.builtin "isinstance"))(ha:WE X e fa)(hy:PE X (.Name y p2) (tC (.ty c)))
  (he:C9 [e,.Name y p2] X.env=[(false,eval e X.env),(false,eval (.Name y p2) X.env)]:=by rfl) (he2:C9 [.Name y p2] X.env=[(false,eval (.Name y p2) X.env)]:=by rfl) (hpl:(ED pos (C9 [.Name y p2] X.env)).any (·.1)=false:=by rfl):WE X (.Call (.Name "isinstance" p) [e,.Name y p2] [] pos) (vU (tZ c) fa):=⟨zX hc hn hg hm hv ha.h hy he he2 hpl⟩
theorem c8{x:Str}{ps:List Str}{k k':Nat}{g:FF}{e:Expr}{es:List Expr}{fa:FA}{p:Pos}(C:cX X.prog X.w X.K X.mg X.base x ps k (fZ X.K g))(hr:dG k' X.A)(hg:Gl X x)(ha:WA X (e::es) fa)(hk:k<=k':=by first | decide | exact C1 _ | lia)(hdb:(x == ("__debug__" : Str))=false:=by decide)
  (he:C9 (e::es) X.env=(false,eval e X.env)::C9 es X.env:=by rfl) (hpl:(ED pos (C9 es X.env)).any (·.1)=false:=by rfl):WE X (.Call (.Name x p) (e::es) [] pos) (ie g fa):=⟨ve_fn C hr hg ha.h hk hdb he hpl⟩
theorem jI(i:Nat){e:Expr}{es:List Expr}{fa:FA}{x:Str}{p1 p2:Pos}(ha:WA X (e::es) fa)(hpe:∀(to:TE)(t:TA),PE X (.Name x p1) to->PA X (e::es) t->PE X (.Call (.Attribute (.Name x p1) "append" p2) (e::es) [] pos) (yb X.K "list" fU to t))(hv:PE X (.Name x p1) (cI i)):WE X (.Call (.Attribute (.Name x p1) "append" p2) (e::es) [] pos) (gY i fa):=⟨Al i ha.h hpe hv⟩
theorem qq(i:Nat){o k d:Expr}{p1 p2 p3:Pos}{fk fd:Ev->Option AT}(hk:WP X k fk)(hd:WP X d fd)(hu:X.A.units+64<cLine)(ho:PE X o (cI i))(hs:lB k)
  (hpe:∀(to:TE)(t:TA),PE X (.Subscript o k p1) to->PA X [d] t->PE X (.Call (.Attribute (.Subscript o k p1) "append" p2) [d] [] p3) (yb X.K "list" fU to t)) (hse:C9 [d] X.env=[(false,eval d X.env)]:=by rfl):WE X (.Call (.Attribute (.Subscript o k p1) "append" p2) [d] [] p3) (jF i fk fd) :=
 ⟨aR (hpe _ _ (lC (by lia) ho hk.h hs) (dH hd.h fB hse)) λ_ _ _ hq=>uo hq⟩
theorem yo(n:Nat)(js:List Nat){elt target iter:Expr}{ifs:List Expr}{scope:Scope}{N:List Str}{fr:List (Option Nat)}{pin:List Nat}{fi:FI}{fg:FG}{ft:FT}{fe:FE}(hfr:fr=C5 n none++js.map some)(hpin:pin=(CG js.length).map (n + ·))(hc:X.calm=true)(S:aY X scope N fr)(hi:WI X target iter fi)
  (hin:∀z:Bk,WG (z.cx X scope N) pin target fg/\WF (z.cx X scope N) ifs ft/\WE (z.cx X scope N) elt fe)
  (hs:∀x,CS iter X.env x=pure x:=by intro _; rfl):WE X (.ListComp elt [⟨target,iter,ifs,0⟩] scope pos) (qk n js fi fg ft fe):=⟨ve_lc n js hfr hpin hc S hi.h (λz=>⟨(hin z).1.h,(hin z).2.1.h,(hin z).2.2.h⟩) hs⟩
theorem yp(b:Bool)(n:Nat)(js:List Nat){ek ev target iter:Expr}{ifs:List Expr}{scope:Scope}{N:List Str}{fr:List (Option Nat)}{pin:List Nat}{fi:FI}{fg:FG}{ft:FT}{fk fv:FE}(hfr:fr=C5 n none++js.map some)(hpin:pin=(CG js.length).map (n + ·))(hc:X.calm=true)(S:aY X scope N fr)(hi:WI X target iter fi)
  (hin:∀z:Bk,WG (z.cx X scope N) pin target fg/\WF (z.cx X scope N) ifs ft/\WE (z.cx X scope N) ek fk/\WE (z.cx X scope N) ev fv)
  (hs:∀x,CS iter X.env x=pure x:=by intro _; rfl):WE X (.DictComp ek ev [⟨target,iter,ifs,0⟩] scope pos) (A3 b n js fi fg ft fk fv):=⟨ve_dc b n js hfr hpin hc S hi.h (λz=>⟨(hin z).1.h,(hin z).2.1.h,(hin z).2.2.1.h,(hin z).2.2.2.h⟩) hs⟩
theorem o6:WF X [] jD:=⟨Ai⟩
theorem o8{c:Expr}{f:FT}(h:WT X c f):WF X [c] f:=⟨Aj h.h⟩
theorem cP{tg l:Expr}{f:FE}(h:WE X l f):WI X tg l (aP f):=⟨Ae h.h⟩
theorem iY{tg a:Expr}{fa:FA}{p:Pos}(hg:Gl X "range")(hm:X.mg "range" = none)(ha:WA X [a] fa)(hs:C9 [a] X.env=[(false,eval a X.env)]:=by rfl):WI X tg (.Call (.Name "range" p) [a] [] pos) (fL iR fa):=⟨w4 hg hm ha.h hs⟩
theorem jJ{a:Expr}{f:FE}{p tp:Pos}{es:List Expr}{k:Nat}(hg:Gl X "enumerate")(hm:X.mg "enumerate" = none)(ha:WE X a f)(hs:C9 [a] X.env=[(false,eval a X.env)]:=by rfl):WI X (.Tuple es k tp) (.Call (.Name "enumerate" p) [a] [] pos) (bN f):=⟨uf hg hm ha.h hs⟩
theorem aE{i:Nat}{x:Str}(hp0:i∉pin)(hN:X.N.Nodup)(hi:X.N[i]? = some x)(hx:Loc X.env.scope x)(hf:X.fn x=true\/X.env.scope.names.lookup x=some .local:=by first | exact .inl rfl | exact .inr rfl | assumption):WG X pin (.Name x pos) (af i):=⟨wV hp0 hN hi hx hf⟩
theorem dO:BG X pin [] bE:=⟨wW⟩
theorem aQ{e:Expr}{es:List Expr}{f:FG}{g:rz}(h1:WG X pin e f)(h2:BG X pin es g)(hs:(Dm (e::es) X.env).map (·.2)=FQ e X.env::(Dm es X.env).map (·.2):=by rfl):BG X pin (e::es) (aA f g):=⟨uc h1.h h2.h hs⟩
theorem fP{es:List Expr}{k:Nat}(n:Nat){g:rz}(hc:X.calm=true)(h:BG X pin es g)(hn:(Dm es X.env).length=n:=by rfl)(hst:(Dm es X.env).findIdx? (·.1)=none:=by rfl):WG X pin (.Tuple es k pos) (bC n g):=⟨z9 hc h.h λ_ h=>yJ hc h hn hst⟩
theorem bF:xr X pin [] aW:=⟨wN⟩
theorem au{st:Stmt}{f:FS}(h:WS X pin st f):xr X pin [st] f:=⟨wQ h.h⟩
theorem ah{st:Stmt}{rest:List Stmt}{f g:FS}(h1:WS X pin st f)(h2:xr X pin rest g):xr X pin (st::rest) (aH f g):=⟨t8 h1.h h2.h⟩
theorem dP{c:Expr}{a b:List Stmt}{fc:FT}{f g:FS}(hc:WT X c fc)(ha:xr X pin a f)(hb:xr X pin b g):WS X pin (.If c a b pos) (cA fc f g):=⟨vs_if hc.h ha.h hb.h⟩
theorem dQ{e:Expr}{f:FE}(h:WE X e f)(hs:Dh e none pos.line X.env=pure false:=by rfl):WS X pin (.Expr e pos) (cB f):=⟨wR h.h hs⟩
theorem bf{e:Expr}{f:FE}(h:WE X e f):WS X pin (.Return (some e) pos) (bJ f):=⟨zY h.h⟩
theorem aV{i:Nat}{x:Str}{e:Expr}{f:FE}{pos':Pos}(hp0:i∉pin)(hN:X.N.Nodup)(hi:X.N[i]? = some x)(hx:Loc X.env.scope x)(he:WE X e f)(hs:Dh e (some (.Name x pos')) pos.line X.env=pure false:=by rfl)(hf:X.fn x=true\/X.env.scope.names.lookup x=some .local:=by first | exact .inl rfl | exact .inr rfl | assumption) :
  WS X pin (.Assign [.Name x pos'] e pos) (bA i f):=⟨zZ hp0 hN hi hx he.h hs hf⟩
theorem Az{i:Nat}{x:Str}(n:Nat)(js:List Nat){elt target iter:Expr}{ifs:List Expr}{scope:Scope}{N:List Str}{fr:List (Option Nat)}{pinI:List Nat}{fi:FI}{fg:FG}{ft:FT}{fe:FE}{pos' spos:Pos}(hp0:i∉pin)(hN:X.N.Nodup)(hi':X.N[i]? = some x)(hx:X.env.scope.names.lookup x=some .local)
  (hfr:fr=C5 n none++js.map some) (hpin:pinI=(CG js.length).map (n + ·)) (hc:X.calm=true) (S:aY X scope N fr) (hi:WI X target iter fi)
  (hin:∀z:Bk,WG (z.cx X scope N) pinI target fg/\WF (z.cx X scope N) ifs ft/\WE (z.cx X scope N) elt fe)
  (hs:∀x,CS iter X.env x=pure x:=by intro _; rfl) (hsw:Dh (.ListComp elt [⟨target,iter,ifs,0⟩] scope pos) (some (.Name x pos')) spos.line X.env=pure true:=by rfl) :
  WS X pin (.Assign [.Name x pos'] (.ListComp elt [⟨target,iter,ifs,0⟩] scope pos) spos) (bA i (qk n js fi fg ft fe)):=⟨Ar n js hp0 hN hi' hx hfr hpin hc S hi.h (λz=>⟨(hin z).1.h,(hin z).2.1.h,(hin z).2.2.h⟩) hs hsw⟩
theorem AA{i:Nat}{x:Str}{e:Expr}{f:FE}{op:Fm}{ti:AS}{pos':Pos}{g:M->M->Option M}(hg:yf X.K ti g)(hp0:i∉pin)(hN:X.N.Nodup)(hi:X.N[i]? = some x)(hx:Loc X.env.scope x)(he:WE X e f)(ho:Bx X op ti)(hf:X.fn x=true\/X.env.scope.names.lookup x=some .local:=by first | exact .inl rfl | exact .inr rfl | assumption) :
  WS X pin (.AugAssign (.Name x pos') op e pos) (t9 i g f):=⟨z8 hg hp0 hN hi hx he.h ho hf⟩
theorem ux{tg e:Expr}{f:FE}{g:FG}(he:WE X e f)(hg:WG X pin tg g)(hs:Fv [tg] e pos.line X.env=pure false:=by rfl)(hw:Fw [tg] e X.env=pure none:=by rfl)
  (hps:∀(te:TE)(t:TG),PE X e te->PG X tg t->PS X (.Assign [tg] e pos) (jT te t):=by exact λ_ _ h1 h2=>kY h1 h2):WS X pin (.Assign [tg] e pos) (ud f g):=⟨Aa he.h hg.h hs hw hps⟩
theorem uy{i j:Nat}{a b:Expr}{fa:FA}{x y:Str}{px py pt:Pos}{kt k2 pt2}(hpi:i∉pin)(hpj:j∉pin)(ha:WA X [a,b] fa)(hps:∀t:TA,PA X [a,b] t->PS X (.Assign [.Tuple [.Name x px,.Name y py] kt pt] (.Tuple [a,b] k2 pt2) pos) (tPar i j t)):WS X pin (.Assign [.Tuple [.Name x px,.Name y py] kt pt] (.Tuple [a,b] k2 pt2) pos) (ue i j fa):=⟨Ab hpi hpj ha.h hps⟩
theorem AB(i:Nat){o k e:Expr}{fk fe:FE}{pos':Pos}(hu:X.A.units+64<cLine)(ho:PE X o (cI i))(hk:WE X k fk)(he:WE X e fe)(hs:Dh e (some (.Subscript o k pos')) pos.line X.env=pure false)
  (hps:∀(te:TE)(t:TG),PE X e te->PG X (.Subscript o k pos') t->PS X (.Assign [.Subscript o k pos'] e pos) (jT te t)) (hpg:∀to ti:TE,PE X o to->PE X k ti->PG X (.Subscript o k pos') (qI to ti kr)):WS X pin (.Assign [.Subscript o k pos'] e pos) (rF i fk fe):=⟨Aq i hu ho hk.h he.h hs hps hpg⟩
theorem cD{tg iter:Expr}{body:List Stmt}{fi:FI}{fg:FG}{fb:FS}(hp0:Fp (model X.prog X.w) X.A X.env X.xe)(hc:X.calm=true)(hi:WI X tg iter fi)(hg:WG X pin tg fg)(hb:xr X pin body fb)
  (hs:∀x,CS iter X.env x=pure x:=by intro _; rfl):WS X pin (.For tg iter body [] pos) (cJ fi fg fb):=⟨Ag hp0 hc hi.h hg.h hb.h hs⟩
theorem jK(n:Nat){c:Expr}{body:List Stmt}{fc:FT}{fb:FS}(hp0:Fp (model X.prog X.w) X.A X.env X.xe)(hc:WT X c fc)(hb:xr X pin body fb):WS X pin (.While c body [] pos) (fM n fc fb):=⟨ug n hp0 hc.h hb.h⟩
end
section
variable{P:CH}{w:World}{K:AC}{mg:Str->Option Value}{base:Heap}
theorem bZ{x qual:Str}{st:Stmt}{f:Addr}{fd:DS}{N prs:List Str}{k:Nat}(ps:List Bool){fb:FS}(Fn:jY K x qual st f fd)(S:bq N prs (av st))(hl:prs.length=ps.length)
  (hb:∀(cdv:Value)(A:Cw)(outer:List Env)(s:At)(H:Hp)(E:XK),dG k (A.deeper (FU qual (av st) s.heap.objs.size f cdv))->xr (mz ir P w K mg base N qual (av st) f cdv A outer s H E).AR (pins ps 0) (cy st) fb) :
  b9 P w K mg base ir (k+1) f fd prs (fZ K (fm ps N.length fb)):=Ah ps Fn S hl λcdv A outer s H E hr=>(hb cdv A outer s H E hr).h
noncomputable def o9(K:AC):Sp:=λvs H Q _=>∃ (a:Addr) (ns:List Int),vs=[.ref a]/\eF K H a (ns.map V.int)/\ns.length<=63/\∀H',Q (.bl true) H'
theorem AD{k:Nat}{f:Addr}{fd:DS}{x:Str}{g:FF}(F:b9 P w K mg base ir k f fd [x] (fZ K g))(h:∀ns:List Int,ns.length<=63->∃ms,g [.v (.list (ns.map .int))]=some (.v (.bool true),ms)):b9 P w K mg base ir k f fd [x] (o9 K):=by
 refine F.imp λvs H Q E hs=>?_
 obtain⟨a,ns,rfl,hq,hl,q⟩:=hs;obtain⟨ms,e⟩:=h ns hl;rcases hq with hq | hq
 ·have hz:∀b,(λb=>b=a) b->H b≠none:=λb hb e=>by
   have hb:b=a:=hb;subst hb;rcases hq with hq | ⟨o,hq⟩ <;> rw[hq] at e <;> cases e
  refine⟨λb=>b=a,_,[],_,ms,.cons (G:=[]) (.v (.lst hq rfl (aZ.ints ns))) .nil,⟨Dj,λ_ h=>(nomatch h),hz⟩,e,λx H' Z' A' G _ h _=>?_⟩
  cases h with
  |v f=>obtain rfl:=f.oK; exact q H'
 ·refine⟨λ_=>False,_,[],_,ms,.cons (G:=[]) (.v (.lsK hq (aZ.ints ns))) .nil,⟨Dj,λ_ h=>(nomatch h),λ_ h=>h.elim⟩,e,λx H' Z' A' G _ h _=>?_⟩
  cases h with
  |v f=>obtain rfl:=f.oK; exact q H'
end
section
variable{X:Cx}{pos:Pos}{pin:List Nat}
noncomputable def revM:M->M->Option M
 |.v (.tuple ds),.v (.int i)=>if i = -1 then some (.v (.tuple ds.reverse)) else none
 |_,_=>none
noncomputable def pe:List (FE×FE)->Ev->Option (List (Key×AT)×Ev)
 |[],ρ=>some ([],ρ)
 |(fk,fv)::r,ρ=>(fk ρ).bind λp=>match p.1 with
  |.t (.v kd)=>(c5 kd).bind λk=>(fv p.2).bind λq=>(cu q.1 q.2).bind λd=>(pe r d.2).bind λz=>some ((k,d.1)::z.1,z.2)
  |_=>none
noncomputable def yq(trs:List (FE×FE)):FE:=λρ=>(pe trs ρ).bind λz=>if z.1.length<=15 then some (.t (.aI (z.1.foldl (λacc kv=>putD acc kv.1 kv.2) [])),z.2) else none
theorem rG{H0:Hp}{Z0:Zs}{F0 R:List Addr}{σ:L2.St}:∀{trs:List (FE×FE)}{H:Hp}{Z:Zs}{ρ ρ':Ev}{F:List Addr}{kvs:List (Key×AT)}{Q:List (V×V)->Hp->Prop},aK X.K H Z σ ρ F->aD H0 Z0 F0 H Z (F++R)->(∀a∈R,H a≠none)->pe trs ρ=some (kvs,ρ') ->
  (∀kxs H' Z' F',aK X.K H' Z' σ ρ' F'->eK X.K H' Z' kxs kvs->aD H0 Z0 F0 H' Z' (F'++R)->(∀a∈R,∀o,H a=some o->H' a=some o)->aG H Z H' Z'->Q (kxs.map λkv=>(kV kv.1,kv.2)) H')->jj (trs.map λp=>(vE X.K p.1,vE X.K p.2)) σ H Q:=by
 intro trs
 induction trs with
 |nil=>
  intro H Z ρ ρ' F kvs Q S f al e q;cases e; exact q [] H Z F S .nil f (λ_ _ _ h=>h) aG.refl
 |cons p r ih=>
  intro H Z ρ ρ' F kvs Q S f al e q;obtain⟨fk,fv⟩:=p;obtain⟨⟨o1,ρ1⟩,e1,e⟩:=oB e;cases o1 with
  |p _=>cases e
  |q _ _=>cases e
  |t m=>
   cases m with
   |lst _=>cases e
   |aI _=>cases e
   |bz _=>cases e
   |dtp _=>cases e
   |lls _=>cases e
   |dre _ _ _=>cases e
   |v kd=>
    obtain⟨k,e2,e⟩:=oB e;obtain⟨⟨o3,ρ3⟩,e3,e⟩:=oB e;obtain⟨⟨d,ρ4⟩,e4,e⟩:=oB e;obtain⟨⟨kvs',ρ5⟩,e5,e⟩:=oB e;cases e;refine⟨Z,ρ,F,_,ρ1,S,f.left.wf,e1,λx H1 Z1 F1 G1 S1 O1 f1=>?_⟩
    have xk:x=kV k:=by
     cases O1 with
     |t ow=>cases ow with
      |v fx=>exact di fx e2
    have g1:=f1.left.frame f.wf al;have k1:∀a∈R,∀o,H a=some o->H1 a=some o:=λa h o e=>f1.keep a o (λz=>(aT f.nd).2.2 a z h) e
    have al1:∀a∈R,H1 a≠none:=λa h e=>by
     cases q:H a with
     |none=>exact al a h q
     |some o=>rw[k1 a h o q] at e; cases e
    have F1':=f.trans g1;refine⟨Z1,ρ1,F1,o3,ρ3,S1,F1'.left.wf,e3,λy H2 Z2 F2 G2 S2 O2 f2=>?_⟩
    have g2:aD H0 Z0 F0 H2 Z2 (F2++G2++R):=F1'.trans (f2.frame F1'.wf al1);have k2:∀a∈R,∀o,H1 a=some o->H2 a=some o:=λa h o e=>f2.keep a o (λz=>(aT F1'.nd).2.2 a z h) e
    have al2:∀a∈R,H2 a≠none:=λa h e=>by
     cases q:H1 a with
     |none=>exact al1 a h q
     |some o=>rw[k2 a h o q] at e; cases e
    obtain⟨Z3,F3,S3,y3,f3,g3⟩:=freeze S2 O2 g2 e4;refine ih S3 f3 al2 e5 λkxs H' Z' F' S' fk' f' k' g' =>?_
    rw[xk];exact q ((k,y)::kxs) H' Z' F' S' (.cons (y3.mono g') fk') f' (λa h o e=>k' a h o (k2 a h o (k1 a h o e))) (((f1.grow f.left.wf).trans (f2.grow F1'.left.wf)).trans (g3.trans g'))
theorem nF{K:AC}{H:Hp}{Z:Zs}:∀{kxs:List (Key×V)}{kvs:List (Key×AT)}{axs:List (Key×V)}{avs:List (Key×AT)},eK K H Z kxs kvs->eK K H Z axs avs->eK K H Z (dU axs kxs) (kvs.foldl (λacc kv=>putD acc kv.1 kv.2) avs)
 |_,_,_,_,.nil,a=>a
 |_,_,axs,avs,.cons (k:=k) (x:=x) (d:=d) (xs:=xs) (ds:=ds) h r,a=>by
  have:=nF r (eK.put (k:=k) h a);exact this
structure BH(X:Cx)(pos:Pos)(ks:List (Option Expr))(vs:List Expr)(trs:List (FE×FE)):Prop where
 h:AV X pos ks vs (trs.map λp=>(vE X.K p.1,vE X.K p.2))
theorem xw:BH X pos [] [] []:=⟨pV⟩
theorem uz{k v:Expr}{ks:List (Option Expr)}{vs:List Expr}{fk fv:FE}{trs:List (FE×FE)}(hk:WE X k fk)(hv:WE X v fv)(hr:BH X pos ks vs trs):BH X pos (some k::ks) (v::vs) ((fk,fv)::trs):=⟨gP hk.h hv.h hr.h⟩
theorem xx{keys:List (Option Expr)}{values:List Expr}{trs:List (FE×FE)}(h:BH X pos keys values trs)(hall:keys.all (·.isSome)=true)(hl:keys.length=values.length)(h0:keys≠[])(h15:keys.length<=15):WE X (.Dict keys values pos) (yq trs):=⟨aR (pW h.h hall hl h0 h15) λσ H Q hq p hp=>by
 obtain⟨Z,ρ,F,o,ρ',S,w,e,q⟩:=hq;obtain⟨⟨kvs,ρ1⟩,e1,e⟩:=oB e
 split at e
 ·next hl=>
  cases e;have n0:=aD.ng (o:=.dK []) hp w.za;have f0:aD H Z F (upd H p (.dK [])) Z (F++[p]):=n0.news w S.al;refine rG (S.news n0) f0 (λa h e=>by rw[B1.mp h,ay] at e; cases e) e1 λkxs H' Z' F' S' fk f' k' g' =>?_
  have ep:=k' p lS _ ay;obtain⟨f3,g3⟩:=f'.put (o':=.dK (dU [] kxs)) ep (λ_ z=>nomatch z) (λ_ _ z=>nomatch z)
  refine⟨ep,kxs,rfl,by rw[fk.length]; exact hl,q (.ref p) _ Z' F' [p] (S'.mono g3 λa h o e=>?_) (.t (.aI ay (nF (fk.mono g3) .nil))) f3⟩
  have hne:a≠p:=λz=>(aT f'.nd).2.2 a h (by rw[z]; exact lS)
  rw[az hne]; exact e
 ·cases e⟩
end
theorem xy{P:CH}{w:World}{K:AC}{mg:Str->Option Value}{base:Heap}{CX:sJ}{k:Nat}{f:Addr}{fd:DS}{ps:List Str}:b9 P w K mg base CX k f fd ps (fZ K λ_=>none) :=
 ⟨λvs H Q E h=>(by obtain⟨_,_,_,_,_,_,_,e,_⟩:=h; cases e),λA outer s H args us vs Q E _ _ _ _ h=>(by obtain⟨_,_,_,_,_,_,_,e,_⟩:=h; cases e)⟩
end VL
end
section
namespace VL
open PySem L2
section
variable{ρ:Ev}{m:M}{x:Option M}{i j:Nat}
@[simp] theorem yr:bG (some m::ρ) 0=some m:=rfl
@[simp] theorem at?_n:bG (none::ρ) 0=none:=rfl
@[simp] theorem at?_s:bG (x::ρ) (i+1)=bG ρ i:=rfl
@[simp] theorem uA:peek ρ (.t m)=some m:=rfl
@[simp] theorem peek_p:peek ρ (.p i)=bG ρ i:=rfl
@[simp] theorem qt:gU ρ (.t m)=some m:=rfl
@[simp] theorem peekS_p:gU ρ (.p i)=bG ρ i:=rfl
@[simp] theorem rH:gn ρ []=some []:=rfl
@[simp] theorem pg{o:bY}{os:List bY}:gn ρ (o::os)=(peek ρ o).bind λm=>(gn ρ os).bind λms=>some (m::ms):=rfl
@[simp] theorem qu:aa i ρ=match bG ρ i with
 |some (.v d)=>some (.t (.v d),ρ)
 |some _=>some (.p i,ρ)
 |none=>none:=rfl
@[simp] theorem yt{d:AT}:vC d ρ=some (.t (.v d),ρ):=rfl
@[simp] theorem yu{g:M->M->Option M}{fa fb:FE}:vB g fa fb ρ=(fa ρ).bind λp=>(fb p.2).bind λq=>(gU q.2 p.1).bind λm1=>(peek q.2 q.1).bind λm2=>(g m1 m2).bind λm=>some (.t m,q.2):=rfl
@[simp] theorem vU_eq{g:M->Option M}{fa:FE}:vU g fa ρ=(fa ρ).bind λp=>(peek p.2 p.1).bind λm1=>(g m1).bind λm=>some (.t m,p.2):=rfl
@[simp] theorem vaNil_eq:iI ρ=some ([],ρ):=rfl
@[simp] theorem uB{fa:FE}:ai fa ρ=(fa ρ).bind λp=>some ([p.1],p.2):=rfl
@[simp] theorem stab_t:oM (.t m)=true:=rfl
@[simp] theorem stab_p:oM (.p i)=true:=rfl
@[simp] theorem A4{fa:FE}{fr:FA}:ak fa fr ρ=(fa ρ).bind λp=>(fr p.2).bind λq=>if oM p.1=true then some (p.1::q.1,q.2) else none:=rfl
@[simp] theorem A5{ns:List Int}:o4 ns ρ=some (ns.map λn=>.t (.v (.int n)),ρ):=rfl
@[simp] theorem AE{g:List M->Option M}{fa:FA}:dY g fa ρ=(fa ρ).bind λp=>(gn p.2 p.1).bind λms=>(g ms).bind λm=>some (.t m,p.2):=rfl
@[simp] theorem xA{b:Bool}:BU (.v (.bool b))=some b:=rfl
@[simp] theorem xB{f:FE}:aL f ρ=(f ρ).bind λp=>(peek p.2 p.1).bind λm=>(BU m).bind λb=>some (b,p.2):=rfl
@[simp] theorem vTru_eq{f:FE}:jx f ρ=(f ρ).bind λp=>(peek p.2 p.1).bind λm=>(nv m).bind λb=>some (b,p.2):=rfl
@[simp] theorem tru_bool{b:Bool}:nv (.v (.bool b))=some b:=rfl
@[simp] theorem tru_tup{ds:List AT}:nv (.v (.tuple ds))=some (!ds.isEmpty):=rfl
@[simp] theorem tru_list{ds:List AT}:nv (.v (.list ds))=some (!ds.isEmpty):=rfl
@[simp] theorem tru_lst{ds:List AT}:nv (.lst ds)=some (!ds.isEmpty):=rfl
@[simp] theorem tru_dic{ds:List (Key×AT)}:nv (.aI ds)=some (!ds.isEmpty):=rfl
@[simp] theorem vNot_eq{f:FT}:nc f ρ=(f ρ).bind λp=>some (!p.1,p.2):=rfl
@[simp] theorem vAnd_eq{f g:FT}:ff f g ρ=(f ρ).bind λp=>if p.1=true then g p.2 else some (false,p.2):=rfl
@[simp] theorem vOr_eq{f g:FT}:AY f g ρ=(f ρ).bind λp=>if p.1=true then some (true,p.2) else g p.2:=rfl
@[simp] theorem vYes_eq:jD ρ=some (true,ρ):=rfl
@[simp] theorem vAndV_eq{fa fb:FE}:p7 fa fb ρ=(aL fa ρ).bind λp=>if p.1=true then fb p.2 else some (.t (.v (.bool false)),p.2):=rfl
@[simp] theorem toD_v{d:AT}:toD (.v d)=d:=rfl
@[simp] theorem toD_lst{d:List AT}:toD (.lst d)=.list d:=rfl
@[simp] theorem frz1_t:cu (.t m) ρ=some (toD m,ρ):=rfl
@[simp] theorem frz1_p:cu (.p i) ρ=(bG ρ i).bind λm=>some (toD m,ρ.set i (some (.v (toD m)))):=rfl
@[simp] theorem frzs_nil:dc [] ρ=some ([],ρ):=rfl
@[simp] theorem A6{o:bY}{os:List bY}:dc (o::os) ρ=(cu o ρ).bind λp=>(dc os p.2).bind λq=>some (p.1::q.1,q.2):=rfl
@[simp] theorem vTup_eq{fa:FA}:gf fa ρ=(fa ρ).bind λp=>(dc p.1 p.2).bind λq=>if q.1.length<=lim then some (.t (.v (.tuple q.1)),q.2) else none:=rfl
@[simp] theorem vLst_eq{fa:FA}:iC fa ρ=(fa ρ).bind λp=>(dc p.1 p.2).bind λq=>if q.1.length<=lim then some (.t (.lst q.1),q.2) else none:=rfl
@[simp] theorem ixO_t{m1 m2:M}:BD (.t m1) m2 ρ=(getM m1 m2).bind λm=>some (.t m,ρ):=rfl
@[simp] theorem AF{fa fb:FE}:dZ fa fb ρ=(fa ρ).bind λp=>(fb p.2).bind λq=>(peek q.2 q.1).bind λm2=>BD p.1 m2 q.2:=rfl
@[simp] theorem ixO_p{m2:M}:BD (.p i) m2 ρ=(bG ρ i).bind λm1=>match m1,m2 with
  |.bz kvs,.v k=>(c5 k).bind λk=>(bu kvs k).bind λ_=>some (.q i k,ρ)
  |m1,m2=>(getM m1 m2).bind λm=>some (.t m,ρ):=rfl
@[simp] theorem uC{ds:List AT}{k:Int}:getM (.v (.tuple ds)) (.v (.int k))=(iS ds k).bind λd=>some (.v d):=rfl
@[simp] theorem A7{ds:List AT}{k:Int}:getM (.v (.list ds)) (.v (.int k))=(iS ds k).bind λd=>some (.v d):=rfl
@[simp] theorem getM_lst{ds:List AT}{k:Int}:getM (.lst ds) (.v (.int k))=(iS ds k).bind λd=>some (.v d):=rfl
@[simp] theorem getM_dic{kvs:List (Key×AT)}{k:AT}:getM (.aI kvs) (.v k)=(c5 k).bind λk=>(bu kvs k).bind λd=>some (.v d):=rfl
@[simp] theorem keyD_int{k:Int}:c5 (.int k)=some (.inl k):=rfl
@[simp] theorem keyD_str{k:Str}:c5 (.str k)=some (.inr k):=rfl
@[simp] theorem A8:fJ ρ=some (none,ρ):=rfl
@[simp] theorem A9{f:FE}:bR f ρ=(f ρ).bind λp=>(peek p.2 p.1).bind λm=>match m with
 |.v (.int i)=>some (some i,p.2)
 |_=>none:=rfl
@[simp] theorem vSl_eq{fa:FE}{fl fh:FO}:rT fa fl fh ρ=(fa ρ).bind λp=>(fl p.2).bind λl=>(fh l.2).bind λh=>(gU h.2 p.1).bind λm=>(A1 l.1 h.1 m).bind λm'=>some (.t m',h.2):=rfl
@[simp] theorem slM_tup{lo hi:Option Int}{ds:List AT}:A1 lo hi (.v (.tuple ds))=some (.v (.tuple (cutD ds lo hi))):=rfl
@[simp] theorem slM_lst{lo hi:Option Int}{ds:List AT}:A1 lo hi (.lst ds)=some (.lst (cutD ds lo hi)):=rfl
@[simp] theorem slM_list{lo hi:Option Int}{ds:List AT}:A1 lo hi (.v (.list ds))=some (.lst (cutD ds lo hi)):=rfl
@[simp] theorem Ba:bP [] ρ=some ([],ρ):=rfl
@[simp] theorem takeA_t{os:List bY}:bP (.t m::os) ρ=(bP os ρ).bind λq=>some (m::q.1,q.2):=rfl
@[simp] theorem takeA_p{os:List bY}:bP (.p i::os) ρ=(bG ρ i).bind λm=>(bP os (ρ.set i none)).bind λq=>some (m::q.1,q.2):=rfl
@[simp] theorem putA_nil{ms:List M}:ez [] ms ρ=ρ:=by cases ms <;> rfl
@[simp] theorem putA_t{os:List bY}{m':M}{ms:List M}:ez (.t m::os) (m'::ms) ρ=ez os ms ρ:=rfl
@[simp] theorem putA_p{os:List bY}{m':M}{ms:List M}:ez (.p i::os) (m'::ms) ρ=ez os ms (ρ.set i (some m')):=rfl
@[simp] theorem vFn_eq{g:FF}{fa:FA}:ie g fa ρ=(fa ρ).bind λp=>(bP p.1 p.2).bind λq=>(g q.1).bind λr=>some (.t r.1,ez p.1 r.2 q.2):=rfl
@[simp] theorem vNext_eq:aW ρ=some (.nx ρ):=rfl
@[simp] theorem qv{f g:FS}:aH f g ρ=(f ρ).bind λo=>match o with
 |.nx ρ1=>g ρ1
 |o=>some o:=rfl
@[simp] theorem vIfS_eq{c:FT}{f g:FS}:cA c f g ρ=(c ρ).bind λp=>if p.1=true then f p.2 else g p.2:=rfl
@[simp] theorem nH{f:FE}:cB f ρ=(f ρ).bind λp=>some (.nx p.2):=rfl
@[simp] theorem movO_t:lU (.t m) ρ=some (m,ρ):=rfl
@[simp] theorem movO_p:lU (.p i) ρ=(bG ρ i).bind λm=>some (m,ρ.set i none):=rfl
@[simp] theorem vRet_eq{f:FE}:bJ f ρ=(f ρ).bind λp=>(lU p.1 p.2).bind λq=>some (.rt q.1 q.2):=rfl
@[simp] theorem setN_eq:eB i m ρ=if i<ρ.length then some (ρ.set i (some m)) else none:=rfl
@[simp] theorem xC{f:FE}:bA i f ρ=(f ρ).bind λp=>(lU p.1 p.2).bind λq=>(eB i q.1 q.2).bind λρ'=>some (.nx ρ'):=rfl
@[simp] theorem vAug_eq{g:M->M->Option M}{f:FE}:t9 i g f ρ=(bG ρ i).bind λm1=>(f ρ).bind λp=>(peek p.2 p.1).bind λm2=>match m1 with
 |.v _=>(g m1 m2).bind λm=>(eB i m p.2).bind λρ'=>some (.nx ρ')
 |_=>none:=rfl
@[simp] theorem Bb{d:AT}:af i d ρ=eB i (.v d) ρ:=rfl
@[simp] theorem vgNil_eq:bE [] ρ=some ρ:=rfl
@[simp] theorem Bc{f:FG}{g:rz}{d:AT}{ds:List AT}:aA f g (d::ds) ρ=(f d ρ).bind λρ1=>g ds ρ1:=rfl
@[simp] theorem vgTup_eq{n:Nat}{g:rz}{ds:List AT}:bC n g (.tuple ds) ρ=if ds.length=n then g ds ρ else none:=rfl
@[simp] theorem vAsg_eq{f:FE}{g:FG}:ud f g ρ=(f ρ).bind λp=>(cu p.1 p.2).bind λq=>(g q.1 q.2).bind λρ'=>some (.nx ρ'):=rfl
@[simp] theorem parO_eq{o1:bY}{m2:M}:parO i j [o1,.t m2] ρ=(lU o1 ρ).bind λq1=>(eB i q1.1 q1.2).bind λρ1=>(eB j m2 ρ1).bind λρ2=>some (.nx ρ2):=rfl
@[simp] theorem vPar_eq{fa:FA}:ue i j fa ρ=(fa ρ).bind λp=>parO i j p.1 p.2:=rfl
@[simp] theorem itD_tup{ds:List AT}:BF (.tuple ds)=some ds:=rfl
@[simp] theorem itD_list{ds:List AT}:BF (.list ds)=some ds:=rfl
@[simp] theorem viSeq_eq{f:FE}:aP f ρ=(f ρ).bind λp=>(cu p.1 p.2).bind λq=>(BF q.1).bind λds=>some (ds,q.2):=rfl
@[simp] theorem uD{g:List M->Option (List AT)}{fa:FA}:fL g fa ρ=(fa ρ).bind λp=>(gn p.2 p.1).bind λms=>(g ms).bind λds=>some (ds,p.2):=rfl
@[simp] theorem xD{k:Int}:iR [.v (.int k)]=if iD k=true then some (cC 0 k) else none:=rfl
@[simp] theorem bB{fi:FI}{fg:FG}{fb:FS}:cJ fi fg fb ρ=(fi ρ).bind λp=>forL fg fb p.1 p.2:=rfl
@[simp] theorem forL_nil{fg:FG}{fb:FS}:forL fg fb [] ρ=some (.nx ρ):=rfl
@[simp] theorem Bd{n:Nat}{fc:FT}{fb:FS}:fM n fc fb ρ=gE fc fb n ρ:=rfl
@[simp] theorem cap_eq:cap ρ j=match bG ρ j with
 |some (.v d)=>some (.t (.v d))
 |some _=>some (.p j)
 |none=>none:=rfl
@[simp] theorem caps_nil:caps ρ []=some []:=rfl
@[simp] theorem Be{js:List Nat}:caps ρ (j::js)=(cap ρ j).bind λo=>(caps ρ js).bind λos=>some (o::os):=rfl
@[simp] theorem AG{n:Nat}{js:List Nat}{fi:FI}{fg:FG}{ft:FT}{fe:FE}:qk n js fi fg ft fe ρ=(fi ρ).bind λp=>(caps p.2 js).bind λos=>(bP os p.2).bind λq=>
 (cK fg ft fe p.1 (C5 n none++q.1.map some) []).bind λr=>(fin (C5 js.length true) q.1 (r.2.drop n)).bind λms'=>some (.t (.lst r.1),ez os ms' q.2):=rfl
@[simp] theorem fin_nil:fin [] [] ρ=some []:=by cases ρ <;> rfl
@[simp] theorem fin_t{ps:List Bool}{ms:List M}{m':M}:fin (true::ps) (m::ms) (some m'::ρ)=(fin ps ms ρ).bind λms'=>some (m'::ms'):=rfl
@[simp] theorem fin_f{ps:List Bool}{ms:List M}{d:AT}:fin (false::ps) (.v d::ms) (x::ρ)=(fin ps ms ρ).bind λms'=>some (.v d::ms'):=rfl
@[simp] theorem vDC_eq{b:Bool}{n:Nat}{js:List Nat}{fi:FI}{fg:FG}{ft:FT}{fk fv:FE}:A3 b n js fi fg ft fk fv ρ=(fi ρ).bind λp=>(caps p.2 js).bind λos=>(bP os p.2).bind λq=>
 (iJ fg ft fk fv p.1 (C5 n none++q.1.map some) (if b then .bz [] else .aI [])).bind λr=>(fin (C5 js.length true) q.1 (r.2.drop n)).bind λms'=>some (.t r.1,ez os ms' q.2):=rfl
@[simp] theorem vApp_eq{fa:FA}:gY i fa ρ=(bG ρ i).bind λm0=>match m0 with
 |.lst _=>(fa ρ).bind λp=>match p.1 with
  |[o]=>(cu o p.2).bind λq=>(bG q.2 i).bind λm=>match m with
   |.lst ds=>if ds.length<lim then some (.t (.v .none),q.2.set i (some (.lst (ds++[q.1])))) else none
   |_=>none
  |_=>none
 |_=>none:=rfl
@[simp] theorem vPut_eq{fk fe:FE}:rF i fk fe ρ=(fe ρ).bind λp=>(cu p.1 p.2).bind λq=>(bG q.2 i).bind λm0=>match m0 with
 |.v _=>none
 |_=>(fk q.2).bind λr=>(peek r.2 r.1).bind λmk=>(bG r.2 i).bind λm=>match m,mk with
  |.aI kvs,.v kd=>(c5 kd).bind λk=>if kvs.length<lim then some (.nx (r.2.set i (some (.aI (putD kvs k q.1))))) else none
  |.lst ds,.v (.int k)=>(oh ds.length k).bind λj=>some (.nx (r.2.set i (some (.lst (ds.set j q.1)))))
  |_,_=>none:=rfl
theorem xE{ps:List Bool}{n:Nat}{fb:FS}{ms:List M}:fm ps n fb ms=if ms.length=ps.length then (fb (ms.map some++C5 (n-ms.length) none)).bind λo=>match o with
 |.rt m ρ=>(fin ps ms ρ).bind λms'=>some (m,ms')
 |.nx ρ=>(fin ps ms ρ).bind λms'=>some (.v .none,ms')
 |_=>none
 else none:=rfl
@[simp] theorem int_eq{C:Int->Int->Bool}{g:Int->Int->AT}{a b:Int}:eg C g (.v (.int a)) (.v (.int b))=if C a b=true then some (.v (g a b)) else none:=rfl
@[simp] theorem sub_eq{a b:Int}:nh (.v (.int a)) (.v (.int b))=some (.v (.int (a-b))):=rfl
@[simp] theorem add_int{a b:Int}:cY (.v (.int a)) (.v (.int b))=some (.v (.int (a+b))):=rfl
@[simp] theorem add_tup{a b:List AT}:cY (.v (.tuple a)) (.v (.tuple b))=if a.length+b.length<=lim then some (.v (.tuple (a++b))) else none:=rfl
@[simp] theorem add_lst{a b:List AT}:cY (.lst a) (.lst b)=if a.length+b.length<=lim then some (.lst (a++b)) else none:=rfl
@[simp] theorem mul_eq{a b:Int}:mulM (.v (.int a)) (.v (.int b))=if decide ((-(2 ^ 64)<a/\a<2 ^ 64)\/(-(2 ^ 64)<b/\b<2 ^ 64))=true then some (.v (.int (a*b))) else none:=rfl
@[simp] theorem mod_eq{a b:Int}:gc (.v (.int a)) (.v (.int b))=if decide (0<b)=true then some (.v (.int (a % b))) else none:=rfl
@[simp] theorem fdiv_eq{a b:Int}:ni (.v (.int a)) (.v (.int b))=if decide (0<b/\b<1073741824)=true then some (.v (.int (a / b))) else none:=rfl
@[simp] theorem gt_eq{a b:Int}:BB (.v (.int a)) (.v (.int b))=some (.v (.bool (decide (b<a)))):=rfl
@[simp] theorem le_eq{a b:Int}:vf (.v (.int a)) (.v (.int b))=some (.v (.bool (decide (a<=b)))):=rfl
@[simp] theorem lt_eq{a b:Int}:AZ (.v (.int a)) (.v (.int b))=some (.v (.bool (decide (a<b)))):=rfl
@[simp] theorem ge_eq{a b:Int}:BC (.v (.int a)) (.v (.int b))=some (.v (.bool (decide (b<=a)))):=rfl
@[simp] theorem lt_tup{a b:List AT}:AZ (.v (.tuple a)) (.v (.tuple b))=(fj a).bind λis=>(fj b).bind λjs=>some (.v (.bool (HT.lexLt is js))):=rfl
@[simp] theorem ge_tup{a b:List AT}:BC (.v (.tuple a)) (.v (.tuple b))=(fj a).bind λis=>(fj b).bind λjs=>some (.v (.bool (!HT.lexLt is js))):=rfl
@[simp] theorem asD_v{d:AT}:wI (.v d)=some d:=rfl
@[simp] theorem xF{d:List AT}:wI (.lst d)=some (.list d):=rfl
theorem AH{neg:Bool}{m1 m2:M}:gK neg m1 m2=(wI m1).bind λd=>(wI m2).bind λe=>if rj d e=true then some (.v (.bool (if neg then !PyData.eqv d e else DK d e))) else none:=rfl
@[simp] theorem eq_int{a b:Int}:gK false (.v (.int a)) (.v (.int b))=some (.v (.bool (decide (a=b)))):=by
 have h:gK false (.v (.int a)) (.v (.int b))=some (.v (.bool (a == b))):=rfl;rw[h,HK]
@[simp] theorem ne_int{a b:Int}:gK true (.v (.int a)) (.v (.int b))=some (.v (.bool (!decide (a=b)))):=by
 have h:gK true (.v (.int a)) (.v (.int b))=some (.v (.bool (!(a == b)))):=rfl;rw[h,HK]
@[simp] theorem eq_bool{a b:Bool}:gK false (.v (.bool a)) (.v (.bool b))=some (.v (.bool (a == b))):=rfl
@[simp] theorem ne_bool{a b:Bool}:gK true (.v (.bool a)) (.v (.bool b))=some (.v (.bool (!(a == b)))):=rfl
@[simp] theorem isn_bool{a b:Bool}:oQ true (.v (.bool a)) (.v (.bool b))=some (.v (.bool (!(a == b)))):=rfl
@[simp] theorem xG{ds:List AT}:dD [.v (.tuple ds)]=some (.v (.int ds.length)):=rfl
@[simp] theorem len_list{ds:List AT}:dD [.v (.list ds)]=some (.v (.int ds.length)):=rfl
@[simp] theorem len_lst{ds:List AT}:dD [.lst ds]=some (.v (.int ds.length)):=rfl
@[simp] theorem len_dic{ds:List (Key×AT)}:dD [.aI ds]=some (.v (.int ds.length)):=rfl
@[simp] theorem tupM_lst{ds:List AT}:iP [.lst ds]=some (.v (.tuple ds)):=rfl
@[simp] theorem Bf{ds:List AT}:iP [.v (.list ds)]=some (.v (.tuple ds)):=rfl
@[simp] theorem tupM_tup{ds:List AT}:iP [.v (.tuple ds)]=some (.v (.tuple ds)):=rfl
@[simp] theorem lstM_tup{ds:List AT}:iM [.v (.tuple ds)]=some (.lst ds):=rfl
@[simp] theorem isi_eq{c:String}:tZ c m=some (.v (.bool (subB (jA m) c))):=rfl
@[simp] theorem abs_eq{a:Int}:oV [.v (.int a)]=some (.v (.int (if a<0 then -a else a))):=rfl
@[simp] theorem min2_eq{a b:Int}:tY [.v (.int a),.v (.int b)]=some (.v (.int (if b<a then b else a))):=rfl
end
theorem ao{f g:FS}{ρ ρ1:Ev}(h:f ρ=some (.nx ρ1)):aH f g ρ=g ρ1:=by rw[qv,h]; rfl
theorem dX{f g:FS}{ρ ρ1:Ev}{m:M}(h:f ρ=some (.rt m ρ1)):aH f g ρ=some (.rt m ρ1):=by rw[qv,h]; rfl
theorem bg{ps:List Bool}{n:Nat}{fb:FS}{ms:List M}{m:M}{ρ:Ev}{ms':List M}(hl:ms.length=ps.length)(h:fb (ms.map some++C5 (n-ms.length) none)=some (.rt m ρ))(hf:fin ps ms ρ=some ms'):fm ps n fb ms=some (m,ms'):=by
 rw[xE,if_pos hl,h];show (fin ps ms ρ).bind _=_;rw[hf]; rfl
theorem cU{fg:FG}{fb:FS}{P:List AT->Ev->Prop}:∀(ds:List AT)(ρ:Ev),P ds ρ->(∀d ds ρ,P (d::ds) ρ->∃ρ1 ρ2,fg d ρ=some ρ1/\fb ρ1=some (.nx ρ2)/\P ds ρ2)->∃ρ',forL fg fb ds ρ=some (.nx ρ')/\P [] ρ'
 |[],ρ,h,_=>⟨ρ,rfl,h⟩
 |d::ds,ρ,h,step=>by
  obtain⟨ρ1,ρ2,e1,e2,h2⟩:=step d ds ρ h;obtain⟨ρ',e3,h3⟩:=cU ds ρ2 h2 step;refine⟨ρ',?_,h3⟩;show (fg d ρ).bind _=_;rw[e1];show (fb ρ1).bind _=_;rw[e2];exact e3
theorem fQ{fg:FG}{fb:FS}{P:List AT->Ev->Prop}{Q:M->Ev->Prop}:∀(ds:List AT)(ρ:Ev),P ds ρ->(∀d ds ρ,P (d::ds) ρ->∃ρ1,fg d ρ=some ρ1/\((∃ρ2,fb ρ1=some (.nx ρ2)/\P ds ρ2)\/∃m ρ2,fb ρ1=some (.rt m ρ2)/\Q m ρ2)) ->
  (∃ρ',forL fg fb ds ρ=some (.nx ρ')/\P [] ρ')\/∃m ρ',forL fg fb ds ρ=some (.rt m ρ')/\Q m ρ'
 |[],ρ,h,_=>.inl ⟨ρ,rfl,h⟩
 |d::ds,ρ,h,step=>by
  obtain⟨ρ1,e1,h1⟩:=step d ds ρ h;rcases h1 with⟨ρ2,e2,h2⟩ | ⟨m,ρ2,e2,h2⟩
  ·have key:forL fg fb (d::ds) ρ=forL fg fb ds ρ2:=by
    show (fg d ρ).bind _=_;rw[e1];show (fb ρ1).bind _=_;rw[e2]; rfl
   rw[key];exact fQ ds ρ2 h2 step
  ·refine .inr ⟨m,ρ2,?_,h2⟩
   show (fg d ρ).bind _=_;rw[e1];show (fb ρ1).bind _=_;rw[e2]; rfl
theorem uE{fg:FG}{ft:FT}{fe:FE}{P:List AT->List AT->Ev->Prop}:∀(ds:List AT)(ρ:Ev)(acc:List AT),P ds acc ρ ->
  (∀d ds acc ρ,P (d::ds) acc ρ->acc.length<lim/\∃ρ1 b ρ2,fg d ρ=some ρ1/\ft ρ1=some (b,ρ2)/\((b=false/\P ds acc ρ2)\/(b=true/\∃o ρ3 e ρ4,fe ρ2=some (o,ρ3)/\cu o ρ3=some (e,ρ4)/\P ds (acc++[e]) ρ4)))->∃acc' ρ',cK fg ft fe ds ρ acc=some (acc',ρ')/\P [] acc' ρ':=by
 intro ds
 induction ds with
 |nil=>
  intro ρ acc h _;exact⟨acc,ρ,rfl,h⟩
 |cons d ds ih=>
  intro ρ acc h step;obtain⟨hl,ρ1,b,ρ2,e1,e2,h2⟩:=step d ds acc ρ h;rcases h2 with⟨rfl,h2⟩ | ⟨rfl,o,ρ3,e,ρ4,e3,e4,h2⟩
  ·obtain⟨acc',ρ',e5,h5⟩:=ih ρ2 acc h2 step
   refine⟨acc',ρ',?_,h5⟩;show (fg d ρ).bind _=_;rw[e1];show (ft ρ1).bind _=_;rw[e2];exact e5
  ·obtain⟨acc',ρ',e5,h5⟩:=ih ρ4 (acc++[e]) h2 step
   refine⟨acc',ρ',?_,h5⟩;show (fg d ρ).bind _=_;rw[e1];show (ft ρ1).bind _=_;rw[e2];show (fe ρ2).bind _=_;rw[e3];show (cu o ρ3).bind _=_;rw[e4];show (if acc.length<lim then _ else _)=_
   rw[if_pos hl];exact e5
end VL
end
section
namespace VL
open PySem PySem.Spec L2 PyProof.Rows
section
variable{K:AC}{H:Hp}{Z:Zs}
theorem aZ.erase:∀{xs:List V}{ds:List AT}(i:Nat),aZ K H Z xs ds->aZ K H Z (xs.eraseIdx i) (ds.eraseIdx i)
 |_,_,_,.nil=>.nil
 |_,_,0,.cons _ r=>r
 |_,_,i+1,.cons h r=>.cons h (aZ.erase i r)
end
noncomputable def maxL:List Int->Option Int
 |[]=>none
 |n::ns=>match maxL ns with
  |none=>some n
  |some j=>some (if j>n then j else n)
section
variable{X:Cx}
theorem uF{prog:CH}{w:World}{A:Cw}{E:Value->At->Prop}{s:At}{l:Addr}{its:Array Value}{Q:Value->At->Prop}(hl:s.heap.IsTuple l its)
  (h:∀s₂:At,(∀b o,b∉[s.heap.objs.size]->s.heap.get? b=some o->s₂.heap.get? b=some o)->s₂={ s with heap:=s₂.heap }->s₂.heap.IsTupleIter s.heap.objs.size l 0->s₂.heap.IsTuple l its->(∀b∈[s.heap.objs.size,l],b<s₂.heap.objs.size)->l≠s.heap.objs.size->Q (.ref s.heap.objs.size) s₂):wpAny (model prog w) A (HC (.ref l)) Q E s:=by
 have hlt:l<s.heap.objs.size:=by obtain⟨_,e,_⟩:=hl; exact C6 e
 refine G6 hl (h _ (λb o _ e=>Bz _ e) rfl ⟨_,CA _ rfl,rfl,rfl⟩ (hl.push _) ?_ (CF hlt))
 intro b hb;rw[Dc];rcases lK hb with e | hb
 ·rw[e]; exact GD _
 ·rw[B1.mp hb]; exact Df hlt
theorem vh(hc:X.calm=true):bw X (.builtin "max") (λxs H Q=>∃p ns,xs=[.ref p]/\eF X.K H p (ns.map V.int)/\ns≠[]/\∀M:Int,M∈ns->(∀a,a∈ns->a<=M)->Q (.int M) H):=by
 intro pins s σ H xs us Q I r ⟨p,ns,exs,hq,hne,q⟩;subst exs;obtain⟨u,rfl,rx⟩:=vals1 r;cases rx;obtain⟨its,rv,pl,hz⟩:=I.list hq;have hi:=intsAre_of rv;obtain⟨xs,e⟩:=hi.allInts.items;have hp:=pl.isList;have hn:xs.toList.map (·.1)=ns:=by
  rw[<-hi.numsOf,<-HS (xs:=xs),<-e]
 rw[e] at hp;have hlen:ns.length=xs.size:=by rw[<-hn,C0,CT]
 have hsz:0<xs.size:=Hx λz=>hne (Dk.mp (hlen.trans z))
 refine max_intList (I.ok.hd hc) hp hsz λv h' tk hv hk=>?_
 obtain⟨t,rfl⟩:=Gk hv;obtain⟨h1,h2⟩:=argBest_gt (numAt xs) (xs.size-1);refine⟨.int _,H,I.kept (t':=tk) hk,⟨t,rfl⟩,q _ ?_ λa ha=>?_⟩
 ·rw[GK,hn]; exact getD_mem (by lia)
 ·obtain⟨j,hj,rfl⟩:=mem_getD ha
  rw[<-hn,<-GK];exact h2 j (by lia)
theorem l5(hc:X.calm=true):bw X (.builtin "min") (λxs H Q=>∃p ns,xs=[.ref p]/\dg X.K H p (ns.map V.int)/\ns≠[]/\∀M:Int,M∈ns->(∀a,a∈ns->M<=a)->Q (.int M) H):=by
 intro pins s σ H xs us Q I r ⟨p,ns,exs,hq,hne,q⟩;subst exs;obtain⟨u,rfl,rx⟩:=vals1 r;cases rx;obtain⟨its,rv,pl,hz⟩:=I.tuple hq;have hi:=intsAre_of rv;obtain⟨xs,e⟩:=hi.allInts.items;have hp:s.heap.IsTuple p its.toArray:=pl;have hn:xs.toList.map (·.1)=ns:=by
  rw[<-hi.numsOf,<-HS (xs:=xs),<-e]
 rw[e] at hp;have hlen:ns.length=xs.size:=by rw[<-hn,C0,CT]
 have hsz:0<xs.size:=Hx λz=>hne (Dk.mp (hlen.trans z))
 refine call_min_walk (uF hp λs₂ k2 e2 st1 st2 hfp hnp=>?_)
 refine⟨_,_,_,(GL xs).size,λi v=>(GL xs)[i]? = some v,_,λi j=>decide (numAt xs i<numAt xs j),rfl,Walks.tuple (A:=X.A.in1) (show X.A.in1.handled=none from I.ok.hd hc) _ p hnp (GL xs),(show _/\_ from⟨st1,st2⟩),hfp,by simpa[GL] using hsz,CmpOf.ints_lt (numAt xs) (λ_ _=>Gk),λv h' tk hv hk=>?_⟩
 have hv:(GL xs)[argBest (λi j=>decide (numAt xs i<numAt xs j)) (xs.size-1)]? = some v:=by simpa[GL] using hv
 obtain⟨t,rfl⟩:=Gk hv;obtain⟨h1,h2⟩:=argBest_lt (numAt xs) (xs.size-1);rw[e2];have hk2:∀b o,s.heap.get? b=some o->h'.get? b=some o:=λb o eb=>by
  have hb:b∉[s.heap.objs.size]:=λhm=>absurd (B1.mp hm▸C6 eb) (Ds _)
  exact hk b o hb (k2 b o hb eb)
 refine⟨.int _,H,I.kept (t':=tk) hk2,⟨t,rfl⟩,q _ ?_ λa ha=>?_⟩
 ·rw[GK,hn]; exact getD_mem (by lia)
 ·obtain⟨j,hj,rfl⟩:=mem_getD ha
  rw[<-hn,<-GK];exact h2 j (by lia)
noncomputable def maxM:List M->Option M
 |[m]=>match iO m with
  |some ds=>(fj ds).bind λns=>(maxL ns).bind λk=>some (.v (.int k))
  |none=>(rf m).bind λds=>(fj ds).bind λns=>(maxL ns).bind λk=>some (.v (.int k))
 |_=>none
noncomputable def nI:List M->Option M
 |[m]=>match iO m with
  |some ds=>(fj ds).bind λns=>(iQ ns).bind λk=>some (.v (.int k))
  |none=>(rf m).bind λds=>(fj ds).bind λns=>(iQ ns).bind λk=>some (.v (.int k))
 |_=>none
theorem xH(hc:X.calm=true):bw X (.builtin "min") (q9 X.K nI):=by
 intro pins s σ H xs us Q I rs h;obtain⟨Z,ms,m,za,hr,e,q⟩:=h;unfold nI at e
 split at e
 ·split at e
  ·next ds e1=>
   obtain⟨ns,e2,e⟩:=oB e;obtain⟨k,e3,e⟩:=oB e;cases e;obtain⟨x,rfl,h1⟩:=gC hr;obtain⟨a,ys,rfl,hx,fx⟩:=h1.iO e1;rw[bV e2] at fx;rw[fx.bU] at hx;obtain⟨k1,k2⟩:=eu e3;refine gm hc pins s σ H _ us Q I rs ⟨a,ns,rfl,hx,λz=>by rw[z] at k1; simp at k1,λM h1 h2=>?_⟩
   have:M=k:=GS (h2 k k1) (k2 M h1);subst this;exact bQ q za (.int _)
  ·obtain⟨ds,e1,e⟩:=oB e
   obtain⟨ns,e2,e⟩:=oB e;obtain⟨k,e3,e⟩:=oB e;cases e;obtain⟨x,rfl,h1⟩:=gC hr;obtain⟨a,ys,rfl,hx,fx⟩:=h1.rf e1;rw[bV e2] at fx;rw[fx.bU] at hx;obtain⟨k1,k2⟩:=eu e3;refine l5 hc pins s σ H _ us Q I rs ⟨a,ns,rfl,hx,λz=>by rw[z] at k1; simp at k1,λM h1 h2=>?_⟩
   have:M=k:=GS (h2 k k1) (k2 M h1);subst this;exact bQ q za (.int _)
 ·cases e
end
section
variable{X:Cx}{pos:Pos}
noncomputable def pq:=eg (λi j=>decide ((CY i:Int)+CY j<=2 ^ 20)) λi j=>.int (i*j)
theorem xJ:cH X (Cz .Mult) (rI (λi j=>(CY i:Int)+CY j<=2 ^ 20) λi j=>.int (i*j)):=yP λi j _ _ _ _ _ hc q=>mul_int q (by
 unfold IntMulOk Builtin.Int.intTooBig;have h:¬ ((CY i:Int)+CY j>bitsLine):=by
  have:(2:Int) ^ 20<=(bitsLine:Int):=by decide
  lia
 simp;intro _ _;lia)
theorem iZ:cH X (Cz .Mult) (rM X.K pq):=gB xJ (λi j h=>of_decide_eq_true h) λ_ _ _ _=>.int _
end
end VL
end
section
end
section
namespace L2
open PySem PySem.W PyProof.Rows PySem.Calls
end L2
end
section
namespace VL
open PySem PySem.Spec L2 PyProof.Rows
section
variable{X:Cx}{pos:Pos}{pin:List Nat}
noncomputable def g8(n:Nat)(js:List Nat)(i:Nat)(fg:FG)(ft:FT)(fe:FE):FE:=λρ=>match bG ρ i with
 |some (.lst ds)=>if i∈js then none else (caps ρ js).bind λos=>(bP os ρ).bind λq=>
  (cK fg ft fe ds (C5 n none++q.1.map some) []).bind λr=>(fin (C5 js.length true) q.1 (r.2.drop n)).bind λms'=>some (.t (.lst r.1),ez os ms' q.2)
 |_=>qk n js (aP (aa i)) fg ft fe ρ
structure ItAt(K:AC)(J:It)(H:Hp)(Z:Zs)(a:Addr)(xs:List V)(ds:List AT):Prop where
 go:∀H2 Z2,aG H Z H2 Z2->H2 a=some (.lst xs)->∀k d,ds[k]? = some d->J.go k H2/\∀x H',J.yld k H2 x H'->dw H2 H'/\Fz K H' Z2 x d
 stop:∀H2 Z2,aG H Z H2 Z2->H2 a=some (.lst xs)->∀k,ds.length<=k->J.stop k H2
theorem it_at{K:AC}{H:Hp}{Z:Zs}{a:Addr}{xs:List V}{ds:List AT}(r:aZ K H Z xs ds):ItAt K (By K a) H Z a xs ds:=by
 refine⟨λH2 Z2 g e k d hd=>?_,λH2 Z2 g e k hk=>⟨xs,eF.of e,by rw[r.length]; exact hk⟩⟩
 obtain⟨x,hx,fx⟩:=(r.mono g).get' hd;exact⟨⟨xs,x,eF.of e,hx⟩,λy H' ⟨hH,hy⟩=>by
  subst hH;have:=hy xs (eF.of e);rw[hx] at this;cases this;exact⟨dw.refl _,fx⟩⟩
theorem nJ{ρ:Ev}:∀{js:List Nat}{os:List bY},caps ρ js=some os->∀j,bY.p j∈os->j∈js
 |[],_,e,j,h=>by cases e; cases h
 |k::js,_,e,j,h=>by
  obtain⟨o,e1,e⟩:=oB e;obtain⟨os,e2,e⟩:=oB e;cases e;rcases lK h with z | z
  ·subst z
   unfold cap at e1
   split at e1
   ·cases e1
   ·cases e1; exact lS
   ·cases e1
  ·exact lO _ (nJ e2 j z)
theorem nK{ρ:Ev}:∀{js:List Nat}{os:List bY},caps ρ js=some os->∀j k,bY.q j k∉os
 |[],_,e,j,k,h=>by cases e; cases h
 |k'::js,_,e,j,k,h=>by
  obtain⟨o,e1,e⟩:=oB e;obtain⟨os,e2,e⟩:=oB e;cases e;rcases lK h with z | z
  ·subst z
   unfold cap at e1
   split at e1 <;> cases e1
  ·exact nK e2 j k z
theorem uG{ρ:Ev}{i j:Nat}(h:i≠j):bG (ρ.set j none) i=bG ρ i:=by
 unfold bG;rw[FM (Dx h)]
theorem pA{i:Nat}:∀{os:List bY}{ρ ρ':Ev}{ms:List M},(∀j,bY.p j∈os->i≠j)->(∀j k,bY.q j k∉os)->bP os ρ=some (ms,ρ')->bG ρ' i=bG ρ i:=by
 intro os
 induction os with
 |nil=>intro ρ ρ' ms _ _ e; cases e; rfl
 |cons o os ih=>
  intro ρ ρ' ms h hq e;have h':=λj hj=>h j (lO _ hj)
  have hq':=λj k hj=>hq j k (lO _ hj)
  cases o with
  |t m=>
   have e:(bP os ρ).bind _=_:=e;obtain⟨⟨ms,ρ1⟩,e1,e⟩:=oB e;cases e;exact ih h' hq' e1
  |p k=>
   obtain⟨m,e0,e⟩:=oB e;obtain⟨⟨ms,ρ1⟩,e1,e⟩:=oB e;cases e;rw[ih h' hq' e1,uG (h k lS)]
  |q j k=>exact absurd lS (hq j k)
theorem nL{i:Nat}{js:List Nat}{os:List bY}{ρ ρ':Ev}{ms:List M}(hi:i∉js)(h1:caps ρ js=some os)(h2:bP os ρ=some (ms,ρ')):bG ρ' i=bG ρ i :=
 pA (λj hj e=>hi (e▸nJ h1 j hj)) (nK h1) h2
theorem uH{a0:Addr}{xs0:List V}{n:Nat}{pv:Pv}{fg:FG}{ft:FT}{fe:FE}{J:It}{ds:List AT}{D:Addr}{τ:L2.St}{H1:Hp}{Z1:Zs}{A:List Addr}{ρ0:Ev}{r:List AT×Ev}{Q:Hp->Prop}(hD:H1 D=none)(S:aK X.K H1 Z1 τ ρ0 A)(w:Wf H1 Z1 A)(P:Pin pv τ)(hJ:ItAt X.K J H1 Z1 a0 xs0 ds)(ha0:H1 a0=some (.lst xs0))(haA:a0∉A)(e:cK fg ft fe ds ρ0 []=some r)
  (q:∀τ' H' Z' F' xs,aK X.K H' Z' τ' r.2 F'->Pin pv τ'->H' D=some (.lst xs)->aZ X.K H' Z' xs r.1->aD H1 Z1 A H' Z' (F'++[D])->Q H'):eO (vG X.K pv fg) (vT X.K ft) (mO D (vE X.K fe)) J τ (upd H1 D (.lst [])) λ_=>Q:=by
 have n0:=aD.ng (o:=.lst []) hD w.za;exact um (Q:=λ_=>Q) (S.news n0) P ay .nil (n0.news w S.al) (λH2 Z2 _ f=>hJ.go H2 Z2 (f.grow w) (f.keep a0 _ haA ha0)) (λH2 Z2 _ f=>hJ.stop H2 Z2 (f.grow w) (f.keep a0 _ haA ha0)) e q
theorem xK{n:Nat}{js:List Nat}{i:Nat}{fg:FG}{ft:FT}{fe:FE}{σ:L2.St}{H:Hp}{Q:VK}{fr:List (Option Nat)}{Z:Zs}{ρ:Ev}{F:List Addr}{o:bY}{ρ':Ev}{ds:List AT}(hfr:fr=C5 n none++js.map some)(S:aK X.K H Z σ ρ F)(w:Wf H Z F)(e0:bG ρ i=some (.lst ds))(e:g8 n js i fg ft fe ρ=some (o,ρ'))
  (q:∀x H' Z' F' G,aK X.K H' Z' σ ρ' F'->jQ X.K H' Z' σ x o G->aD H Z F H' Z' (F'++G)->Q x H') :
  AW fr (sD X.K (cI i)) (λ_=>vG X.K (fN n js σ) fg) (λ_=>vT X.K ft) (λ_=>vE X.K fe) σ H Q:=by
 subst hfr;unfold g8 at e;rw[e0] at e;dsimp only at e
 split at e
 ·cases e
 next hij=>
 obtain⟨os,e2,e⟩:=oB e;obtain⟨⟨ms,ρh⟩,e3,e⟩:=oB e;obtain⟨⟨acc,ρi⟩,e4,e⟩:=oB e;obtain⟨ms',e5,e⟩:=oB e;cases e;obtain⟨x,G,hx,hG,_⟩:=S.get (aC.mp e0);obtain⟨a,xsa,rfl,hxa,fzx⟩:=(show Ro X.K H Z x (.lst ds) from⟨G,hG⟩).lst
 refine⟨.ref a,hx,a,rfl,⟨xsa,eF.of hxa⟩,λD hD z=>?_⟩
 obtain⟨τ,A,Fh,eτ,S0,wA,P0,h2,n3,back⟩:=gF (n:=n) S (aD.refl w) e2 e3;rw[eτ];obtain⟨x',G',g1,g2,g3⟩:=h2.get (aC.mp ((nL hij e2 e3).trans e0));rw[hx] at g1;cases g1;have haA:a∉A:=λz=>by
  cases g2 with
  |lst _ _=>exact n3 a (g3 a lS) z
 refine uH (n:=n) hD S0 wA P0 (it_at fzx) hxa haA e4 λτ' H2 Z2 F2 ys S2 P2 d2 z2 f2=>?_
 obtain⟨F4,p1,f4⟩:=back _ _ _ _ _ _ _ S2 P2 f2 e5;exact q (.ref D) H2 Z2 F4 [D] p1 (.t (.lst d2 z2)) f4
theorem AI{n:Nat}{js:List Nat}{i:Nat}{fg:FG}{ft:FT}{fe:FE}{σ:L2.St}{H:Hp}{Q:VK}{fr:List (Option Nat)}(hfr:fr=C5 n none++js.map some)(hq:vE X.K (g8 n js i fg ft fe) σ H Q) :
  AW fr (sD X.K (cI i)) (λ_=>vG X.K (fN n js σ) fg) (λ_=>vT X.K ft) (λ_=>vE X.K fe) σ H Q\/AW fr (vI X.K (aP (aa i))) (λ_=>vG X.K (fN n js σ) fg) (λ_=>vT X.K ft) (λ_=>vE X.K fe) σ H Q:=by
 obtain⟨Z,ρ,F,o,ρ',S,w,e,q⟩:=hq;cases e0:bG ρ i with
 |none=>
  right;refine eW hfr ⟨Z,ρ,F,o,ρ',S,w,?_,q⟩;unfold g8 at e;rw[e0] at e;exact e
 |some m=>
  cases m with
  |lst ds=>exact .inl (xK hfr S w e0 e q)
  |v d=>
   right;refine eW hfr ⟨Z,ρ,F,o,ρ',S,w,?_,q⟩;unfold g8 at e;rw[e0] at e;exact e
  |aI d=>
   right;refine eW hfr ⟨Z,ρ,F,o,ρ',S,w,?_,q⟩;unfold g8 at e;rw[e0] at e;exact e
  |dtp d=>
   right;refine eW hfr ⟨Z,ρ,F,o,ρ',S,w,?_,q⟩;unfold g8 at e;rw[e0] at e;exact e
  |lls d=>
   right;refine eW hfr ⟨Z,ρ,F,o,ρ',S,w,?_,q⟩;unfold g8 at e;rw[e0] at e;exact e
  |dre _ _ _=>
   right;refine eW hfr ⟨Z,ρ,F,o,ρ',S,w,?_,q⟩;unfold g8 at e;rw[e0] at e;exact e
  |bz d=>
   right;refine eW hfr ⟨Z,ρ,F,o,ρ',S,w,?_,q⟩;unfold g8 at e;rw[e0] at e;exact e
theorem AJ(i:Nat)(n:Nat)(js:List Nat){elt target:Expr}{ifs:List Expr}{scope:Scope}{N:List Str}{fr:List (Option Nat)}{pinI:List Nat}{fg:FG}{ft:FT}{fe:FE}{x:Str}{px:Pos}(hv:PE X (.Name x px) (cI i))(hfr:fr=C5 n none++js.map some)(hpin:pinI=(CG js.length).map (n + ·))(hc:X.calm=true)(S:aY X scope N fr)(hi:WI X target (.Name x px) (aP (aa i)))
  (hin:∀z:Bk,WG (z.cx X scope N) pinI target fg/\WF (z.cx X scope N) ifs ft/\WE (z.cx X scope N) elt fe)
  (hs:∀y,CS (.Name x px) X.env y=pure y:=by intro _; rfl):WE X (.ListComp elt [⟨target,.Name x px,ifs,0⟩] scope pos) (g8 n js i fg ft fe):=⟨λpins s σ H Q I hq=>by
 rcases AI hfr hq with h | h
 ·exact sZ (g:=λ_=>vG X.K (fN n js σ) fg) (tt:=λ_=>vT X.K ft) (te:=λ_=>vE X.K fe) hc S (pP hv) (λz=>⟨(hin z).1.h _ (jE n js σ hpin),(hin z).2.1.h,(hin z).2.2.h⟩) hs pins s σ H Q I h
 ·exact sZ (g:=λ_=>vG X.K (fN n js σ) fg) (tt:=λ_=>vT X.K ft) (te:=λ_=>vE X.K fe) hc S hi.h (λz=>⟨(hin z).1.h _ (jE n js σ hpin),(hin z).2.1.h,(hin z).2.2.h⟩) hs pins s σ H Q I h⟩
end
end VL
end
section
namespace L2
open PySem PySem.Spec PyProof.Rows
end L2
end
section
namespace VL
open PySem PySem.Spec L2 PyProof.Rows
end VL
end
section
namespace L2
open PySem PySem.W PyProof.Rows PySem.Calls
end L2
end
section
namespace L2
open PySem PySem.Spec PySem.W PyProof.Rows
end L2
end
section
namespace VL
open PySem PySem.Spec L2 PyProof.Rows
end VL
end
section
namespace L2
open PySem PySem.Spec PyProof.Rows AutoSeq1
end L2
end
section
namespace VL
open PySem PySem.Spec L2 PyProof.Rows
end VL
end
section
namespace ST
open PySem PySem.SetTable
end ST
end
section
namespace ST
open PySem PySem.SetTable PySem.Spec PySem.W
namespace F
end F
end ST
end
section
namespace ST
open PySem PySem.SetTable PySem.Spec
end ST
end
section
namespace L2
open PySem PySem.W PyProof.Rows PySem.Calls
end L2
end
section
namespace L2
open PySem PySem.Spec PyProof.Rows PySem.W
end L2
end
section
namespace TS
open PySem PySem.W PyProof.Rows L2
end TS
end
section
namespace L2
open PySem PySem.W PyProof.Rows PySem.Calls TS
end L2
end
section
namespace VL
open PySem PySem.Spec L2 PyProof.Rows
end VL
end
section
namespace L2
open PySem PySem.Spec PyProof.Rows
end L2
end
section
namespace VL
open PySem PySem.Spec L2 PyProof.Rows
end VL
end
section
namespace L2
open PySem PySem.Spec PyProof.Rows
end L2
end
section
namespace VL
open PySem PySem.Spec L2 PyProof.Rows
end VL
end
section
namespace L2
open PySem PySem.Spec PyProof.Rows PySem.W
end L2
end
section
namespace VL
open PySem PySem.Spec L2 PyProof.Rows
end VL
end
section
namespace L2
open PySem PySem.Spec PyProof.Rows
section
open PySem.SeqAt
open PySem.AutoSeq1 (wpAny_loadPart')
open PySem.MeetsSeq PySem.MeetsSeq2 PySem.MeetsSeq3
end
end L2
end
section
namespace L2
open PySem PySem.Spec PyProof.Rows VL
end L2
end
section
namespace VL
open PySem PySem.Spec L2 PyProof.Rows
end VL
namespace VL
open PySem PySem.Spec L2 PyProof.Rows
end VL
end
section
namespace L2
open PySem PySem.Spec PyProof.Rows
end L2
namespace VL
open PySem PySem.Spec L2 PyProof.Rows
end VL
end
section
namespace L2
open PySem PySem.Spec PyProof.Rows
end L2
namespace VL
open PySem PySem.Spec L2 PyProof.Rows
end VL
end
section
namespace VL
open PySem PySem.Spec L2 PyProof.Rows
end VL
end
section
namespace L2
open PySem PySem.Spec PyProof.Rows
end L2
namespace VL
open PySem PySem.Spec L2 PyProof.Rows
end VL
end
section
namespace VL
open PySem PySem.Spec L2 PyProof.Rows
section
variable{K:AC}{H:Hp}{Z:Zs}{σ:L2.St}{ρ:Ev}{F:List Addr}
inductive RecAt(K:AC)(H:Hp)(Z:Zs)(σ:L2.St)(i:Nat)(k:Key)(ds:List AT)(kvs:List (Key×AT)):Prop
 |mk (a b:Addr) (xs:List V) (kxs:List (Key×V)):σ[i]? = some (some (.ref a))->H a=some (.dK ((k,.ref b)::kxs))->H b=some (.lst xs)->aZ K H Z xs ds->eK K H Z kxs kvs->RecAt K H Z σ i k ds kvs
theorem aK.recd{i:Nat}{k:Key}{ds:List AT}{kvs:List (Key×AT)}(S:aK K H Z σ ρ F)(e:bG ρ i=some (.dre k ds kvs)):RecAt K H Z σ i k ds kvs:=by
 obtain⟨x,G,h1,h2,_⟩:=S.get (aC.mp e);cases h2 with
 |dre e1 e2 f r=>exact⟨_,_,_,_,h1,e1,e2,f,r⟩
end
noncomputable def rJ(ρ:Ev)(i:Nat)(k:Key):Option (List AT):=match bG ρ i with
 |some (.dre k' ds _)=>if k'=k then some ds else none
 |_=>none
theorem kO{ρ:Ev}{i:Nat}{k:Key}{ds:List AT}(e:rJ ρ i k=some ds):∃kvs,bG ρ i=some (.dre k ds kvs):=by
 unfold rJ at e
 split at e
 ·rename_i k' ds' kvs h
  split at e
  ·rename_i hk; cases e; subst hk; exact⟨kvs,h⟩
  ·cases e
 ·cases e
noncomputable def pB(i:Nat)(k:Str):FE:=λρ=>(rJ ρ i (.inr k)).bind λds=>(gK true (.lst ds) (.lst [])).bind λm=>some (.t m,ρ)
noncomputable def pC(i:Nat)(k:Str)(n:Int):FE:=λρ=>(rJ ρ i (.inr k)).bind λds=>(iS ds n).bind λd=>some (.t (.v d),ρ)
noncomputable def nM(i:Nat)(k:Str):FE:=λρ=>match bG ρ i with
 |some (.dre k' _ kvs)=>if k'=.inr k then none else (bu kvs (.inr k)).bind λd=>some (.t (.v d),ρ)
 |_=>none
noncomputable def jL(i:Nat)(k:Str)(n:Int):FE:=λρ=>match bG ρ i with
 |some (.dre k' ds kvs)=>if k'=.inr k/\-(2 ^ 63)<=n/\n<2 ^ 63 then (Ge n ds.length).bind λj=>(ds[j]?).bind λd=>some (.t (.v d),ρ.set i (some (.dre k' (ds.eraseIdx j) kvs))) else none
 |_=>none
section
variable{X:Cx}{pos p1 p2 p3 p4 p5:Pos}{x:Str}{k:Str}{i:Nat}{n:Int}{c1 c2:Nat}
abbrev tQ(i:Nat)(k:Str):TE:=pT (cI i) (tC (.str k))
theorem RecAt.q{H:Hp}{Z:Zs}{σ:L2.St}{ds:List AT}{kvs:List (Key×AT)}{Q:VK}(r:RecAt X.K H Z σ i (.inr k) ds kvs)(h:∀b xs,H b=some (.lst xs)->aZ X.K H Z xs ds->Q (.ref b) H):tQ i k σ H Q:=by
 obtain⟨a,b,xs,kxs,h1,h2,h3,h4,h5⟩:=r;exact⟨.ref a,h1,a,.ref b,rfl,(bT (p:=((D5 k:Key),V.ref b)) rfl)▸d9.k (k:=D5 k) h2,h b xs h3 h4⟩
theorem uI(hu:X.A.units+64<cLine)(hv:PE X (.Name x p1) (cI i))(hs:lB (.Constant (.str k) c1 p2):=by exact λ_ _=>rfl):PE X (.Subscript (.Name x p1) (.Constant (.str k) c1 p2) p3) (tQ i k):=lC (by lia) hv i8 hs
theorem xM{σ:L2.St}{H:Hp}{Q:VK}(hq:vE X.K (pB i k) σ H Q):vH (rM X.K (gK true)) (tQ i k) (tLst tNil) σ H Q:=by
 obtain⟨Z,ρ,F,o,ρ',S,w,e,q⟩:=hq;obtain⟨ds,e1,e⟩:=oB e;obtain⟨m,e2,e⟩:=oB e;cases e;obtain⟨kvs,e1⟩:=kO e1;refine(S.recd e1).q λb xs hb fb=>⟨DR _,λp hp=>?_⟩
 have n:=aD.ng (o:=.lst []) hp w.za;have hbp:b≠p:=aN hb hp;refine⟨Z,.lst ds,.lst [],m,n.za,⟨[b],.lst (by rw[az hbp]; exact hb) (fb.mono n.kH)⟩,⟨[p],.lst ay .nil⟩,e2,λz H' Z' G ow f=>?_⟩
 have f1:=(n.news w S.al).left;have S1:=S.news n;exact q z H' Z' F G (S1.news f) (.t ow) (f1.trans (f.news f1.wf S1.al))
theorem uJ(hu:X.A.units+64<cLine)(hv:PE X (.Name x p1) (cI i))(hs:lB (.Constant (.str k) c1 p2):=by exact λ_ _=>rfl):WT X (.Compare (.Subscript (.Name x p1) (.Constant (.str k) c1 p2) p3) [.NotEq] [.List [] p4] pos) (aL (pB i k)):=⟨iA (fT (nj hu) (uI hu hv hs) (sI fB) rfl) λ_ _ _ hq=>xM (Bo hq)⟩
theorem pF(hu:X.A.units+64<cLine)(hv:PE X (.Name x p1) (cI i))(hp:iT (.Constant (.int n) c2 p4):=by exact λ_ _=>rfl)(hs:lB (.Constant (.str k) c1 p2):=by exact λ_ _=>rfl):WE X (.Subscript (.Subscript (.Name x p1) (.Constant (.str k) c1 p2) p3) (.Constant (.int n) c2 p4) pos) (pC i k n):=⟨aR (ya sP (uI hu hv hs) ig hp) λσ H Q hq=>by
 obtain⟨Z,ρ,F,o,ρ',S,w,e,q⟩:=hq;obtain⟨ds,e1,e⟩:=oB e;obtain⟨d,e2,e⟩:=oB e;cases e;obtain⟨kvs,e1⟩:=kO e1;refine(S.recd e1).q λb xs hb fb=>?_
 obtain⟨v,hv,fv⟩:=tP fb e2;exact .inl ⟨b,xs,n,v,rfl,rfl,eF.of hb,hv,q v H Z F [] S (.t (.v fv)) (aD.refl w).nil⟩⟩
theorem uK(hu:X.A.units+64<cLine)(hv:PE X (.Name x p1) (cI i))(hs:lB (.Constant (.str k) c1 p2):=by exact λ_ _=>rfl):WE X (.Subscript (.Name x p1) (.Constant (.str k) c1 p2) pos) (nM i k):=⟨aR (uI hu hv hs) λσ H Q hq=>by
 obtain⟨Z,ρ,F,o,ρ',S,w,e,q⟩:=hq;unfold nM at e
 split at e
 ·rename_i k' ds kvs h
  split at e
  ·cases e
  ·rename_i hk
   obtain⟨d,e2,e⟩:=oB e;cases e;obtain⟨a,b,xs,kxs,h1,h2,h3,h4,h5⟩:=S.recd h;obtain⟨v,hv,fv⟩:=(iX h5).2 d e2;exact⟨.ref a,h1,a,v,rfl,(show dS ((k',V.ref b)::kxs) (D5 k)=some v by rw[cV hk]; exact hv)▸d9.k (k:=D5 k) h2,q v H Z F [] S (.t (.v fv)) (aD.refl w).nil⟩
 ·cases e⟩
theorem BI{a b:Addr}(h:a≠b):[a,b].Nodup:=CJ.mpr ⟨λz=>h (B1.mp z),CJ.mpr ⟨CZ,Dj⟩⟩
theorem uL{σ:L2.St}{H:Hp}{Q:VK}(hq:vE X.K (jL i k n) σ H Q):yb X.K "list" om (tQ i k) (sH (tC (.int n)) tNil) σ H Q:=by
 obtain⟨Z,ρ,F,o,ρ',S,w,e,q⟩:=hq;unfold jL at e
 split at e
 ·rename_i k' ds kvs h
  split at e
  ·rename_i hk
   obtain⟨rfl,hn1,hn2⟩:=hk;obtain⟨j,e2,e⟩:=oB e;obtain⟨d,e3,e⟩:=oB e;cases e;obtain⟨x,G,h1,h2,h3⟩:=rE S (aD.refl w) h;cases h2 with
   |@dre a b _ xs _ kxs _ ha hb fb fk=>
    have hab:a≠b:=λz=>by rw[z,hb] at ha; cases ha
    obtain⟨y,hy,fy⟩:=fb.get' e3;obtain⟨g,_,k4⟩:=h3 b (.lst (xs.eraseIdx j)) (lO _ lS);obtain⟨F3,S3,f3⟩:=k4 (.dre (.inr k) (ds.eraseIdx j) kvs) [a,b] (λ_ h=>h) (BI hab) (.dre (by rw[az hab]; exact ha) ay ((fb.erase j).mono g) (fk.mono g))
    exact⟨.ref a,h1,a,.ref b,rfl,(bT (p:=((D5 k:Key),V.ref b)) rfl)▸d9.k (k:=D5 k) ha,.inl ⟨rfl,_,eF.of hb⟩,b,xs,n,j,y,rfl,rfl,hb,hn1,hn2,by rw[fb.length]; exact e2,hy,q y _ Z F3 [] S3 (.t (.v (fy.mono g))) f3.nil⟩
  ·cases e
 ·cases e
theorem xN(hu:X.A.units+64<cLine)(hv:PE X (.Name x p1) (cI i))(hpe:∀(to:TE)(t:TA),PE X (.Subscript (.Name x p1) (.Constant (.str k) c1 p2) p3) to->PA X [.Constant (.int n) c2 p4] t->PE X (.Call (.Attribute (.Subscript (.Name x p1) (.Constant (.str k) c1 p2) p3) "pop" p5) [.Constant (.int n) c2 p4] [] pos) (yb X.K "list" om to t))(hs:lB (.Constant (.str k) c1 p2):=by exact λ_ _=>rfl) :
  WE X (.Call (.Attribute (.Subscript (.Name x p1) (.Constant (.str k) c1 p2) p3) "pop" p5) [.Constant (.int n) c2 p4] [] pos) (jL i k n):=⟨aR (hpe _ _ (uI hu hv hs) (dH ig fB)) λ_ _ _ hq=>uL hq⟩
noncomputable def uM(i:Nat)(k:Str)(n:Int)(fe:FE):FS:=λρ=>(fe ρ).bind λp=>(cu p.1 p.2).bind λq=>match bG q.2 i with
 |some (.dre k' ds kvs)=>if k'=.inr k then (oh ds.length n).bind λj=>some (.nx (q.2.set i (some (.dre k' (ds.set j q.1) kvs)))) else none
 |_=>none
noncomputable def uN(i:Nat)(k:Str)(fe:FE):FS:=λρ=>(fe ρ).bind λp=>(cu p.1 p.2).bind λq=>match bG q.2 i with
 |some (.dre k' ds kvs)=>if k'=.inr k\/lim<=kvs.length+1 then none else some (.nx (q.2.set i (some (.dre k' ds (putD kvs (.inr k) q.1)))))
 |_=>none
theorem xO{fe:FE}{e:Expr}{pin:List Nat}(hu:X.A.units+64<cLine)(hv:PE X (.Name x p1) (cI i))(he:WE X e fe)(hps:∀(te:TE)(t:TG),PE X e te->PG X (.Subscript (.Subscript (.Name x p1) (.Constant (.str k) c1 p2) p3) (.Constant (.int n) c2 p4) p5) t->PS X (.Assign [.Subscript (.Subscript (.Name x p1) (.Constant (.str k) c1 p2) p3) (.Constant (.int n) c2 p4) p5] e pos) (jT te t))
  (hpg:∀to ti:TE,PE X (.Subscript (.Name x p1) (.Constant (.str k) c1 p2) p3) to->PE X (.Constant (.int n) c2 p4) ti->PG X (.Subscript (.Subscript (.Name x p1) (.Constant (.str k) c1 p2) p3) (.Constant (.int n) c2 p4) p5) (qI to ti kr)) (hs:lB (.Constant (.str k) c1 p2):=by exact λ_ _=>rfl) :
  WS X pin (.Assign [.Subscript (.Subscript (.Name x p1) (.Constant (.str k) c1 p2) p3) (.Constant (.int n) c2 p4) p5] e pos) (uM i k n fe):=⟨λpv hp=>c6 (hps _ _ he.h (hpg _ _ (uI hu hv hs) ig)) λD σ H hq=>by
 obtain⟨Z,ρ,F,o,S,w,P,e,q⟩:=hq;obtain⟨⟨o1,ρ1⟩,e1,e⟩:=oB e;obtain⟨⟨d,ρ2⟩,e2,e⟩:=oB e;dsimp only at e
 split at e
 ·rename_i k' ds kvs h
  split at e
  ·rename_i hk
   subst hk;obtain⟨j,e3,e⟩:=oB e;cases e;refine⟨Z,ρ,F,o1,ρ1,S,w,e1,λv H1 Z1 F1 G1 S1 O1 f1=>?_⟩
   obtain⟨Z2,F2,S2,z2,f2,_⟩:=dN S1 O1 f1 e2;obtain⟨x,G,h1,h2,h3⟩:=rE S2 f2 h;cases h2 with
   |@dre a b _ xs _ kxs _ ha hb fb fk=>
    have hab:a≠b:=λz=>by rw[z,hb] at ha; cases ha
    obtain⟨g,_,k4⟩:=h3 b (.lst (xs.set j v)) (lO _ lS);obtain⟨F3,S3,f3⟩:=k4 (.dre (.inr k) (ds.set j d) kvs) [a,b] (λ_ h=>h) (BI hab) (.dre (by rw[az hab]; exact ha) ay ((fb.mono g).set j (z2.mono g)) (fk.mono g))
    exact⟨.ref a,h1,a,.ref b,rfl,(bT (p:=((D5 k:Key),V.ref b)) rfl)▸d9.k (k:=D5 k) ha,b,xs,n,j,rfl,rfl,hb,by rw[fb.length]; exact e3,q σ _ Z2 F3 S3 f3 P⟩
  ·cases e
 ·cases e⟩
theorem xP{fe:FE}{e:Expr}{pin:List Nat}(hu:X.A.units+64<cLine)(hv:PE X (.Name x p1) (cI i))(he:WE X e fe)(hs:Dh e (some (.Subscript (.Name x p1) (.Constant (.str k) c1 p2) p3)) pos.line X.env=pure false:=by rfl) :
  WS X pin (.Assign [.Subscript (.Name x p1) (.Constant (.str k) c1 p2) p3] e pos) (uN i k fe):=⟨λpv hp=>c6 (pU (by lia) hv i8 he.h hs) λD σ H hq=>by
 obtain⟨Z,ρ,F,o,S,w,P,e,q⟩:=hq;obtain⟨⟨o1,ρ1⟩,e1,e⟩:=oB e;obtain⟨⟨d,ρ2⟩,e2,e⟩:=oB e;dsimp only at e
 split at e
 ·rename_i k' ds kvs h
  split at e
  ·cases e
  ·rename_i hk
   cases e;refine⟨Z,ρ,F,o1,ρ1,S,w,e1,λv H1 Z1 F1 G1 S1 O1 f1=>?_⟩
   obtain⟨Z2,F2,S2,z2,f2,_⟩:=dN S1 O1 f1 e2;obtain⟨x,G,h1,h2,h3⟩:=rE S2 f2 h;cases h2 with
   |@dre a b _ xs _ kxs _ ha hb fb fk=>
    have hab:a≠b:=λz=>by rw[z,hb] at ha; cases ha
    have hne:¬k'=D5 k:=λz=>hk (.inl z)
    have hput:putK ((k',V.ref b)::kxs) (D5 k) v=(k',V.ref b)::putK kxs (D5 k) v:=by
     unfold putK;rw[DG,decide_eq_false hne,Iy]
     split
     ·rw[CC,if_neg hne]
     ·rfl
    obtain⟨g,_,k4⟩:=h3 a (.dK (putK ((k',V.ref b)::kxs) (D5 k) v)) lS;obtain⟨F3,S3,f3⟩:=k4 (.dre k' ds (putD kvs (.inr k) d)) [a,b] (λ_ h=>h) (BI hab) (.dre (kxs:=putK kxs (D5 k) v) (by rw[ay,hput]) (by rw[az (Dx hab)]; exact hb) (fb.mono g) (eK.put (z2.mono g) (fk.mono g)))
    exact⟨.ref a,h1,a,_,rfl,qP.k (k:=D5 k) ha (gA (by rw[BM,fk.length]; lia)),q σ _ Z2 F3 S3 f3 P⟩
 ·cases e⟩
noncomputable def purs:List (Str×(Ev->Option AT))->Ev->Option (List (Key×AT))
 |[],_=>some []
 |p::r,ρ=>(p.2 ρ).bind λd=>(purs r ρ).bind λkvs=>some ((.inr p.1,d)::kvs)
noncomputable def vRec(j:Nat)(k:Str)(rest:List (Str×(Ev->Option AT))):FE:=λρ=>match bG ρ j with
 |some (.lst ds)=>(purs rest ρ).bind λkvs=>if (k::rest.map (·.1)).Nodup/\rest.length<=14 then some (.t (.dre (.inr k) ds kvs),ρ.set j none) else none
 |_=>none
theorem uO{σ:L2.St}{H:Hp}{Z:Zs}{ρ:Ev}{F:List Addr}(S:aK X.K H Z σ ρ F):∀{rest:List (Str×(Ev->Option AT))}{kvs:List (Key×AT)}{Q:List (V×V)->Hp->Prop},purs rest ρ=some kvs->(∀kxs:List (Key×V),eK X.K H Z kxs kvs->kxs.map (·.1)=rest.map (D5 ·.1)->Q (kxs.map λkv=>(kV kv.1,kv.2)) H)->jj (rest.map λp=>(tC (.str p.1),vP X.K p.2)) σ H Q:=by
 intro rest
 induction rest with
 |nil=>intro kvs Q e h; cases e; exact h [] .nil rfl
 |cons p rest ih=>
  intro kvs Q e h;obtain⟨d,e1,e⟩:=oB e;obtain⟨kvs',e2,e⟩:=oB e;cases e;exact⟨Z,ρ,F,d,S,e1,λy fy=>ih e2 λkxs fk ek=>h ((D5 p.1,y)::kxs) (.cons fy fk) (by rw[CC,CC,ek])⟩
theorem nN:∀{more acc:List (Key×V)},((acc++more).map (·.1)).Nodup->dU acc more=acc++more
 |[],acc,_=>by rw[Bn]; rfl
 |p::more,acc,h=>by
  have e:putK acc p.1 p.2=acc++[p]:=by
   unfold putK;have hn:(acc.any λkv=>decide (kv.1=p.1))=false:=by
    rw[List.any_eq_false];intro q hq hz;rw[E6,CC] at h;exact(C2.mp h).2.2 q.1 (EQ.mpr ⟨q,hq,rfl⟩) p.1 lS (of_decide_eq_true hz)
   rw[hn];rfl
  show dU (putK acc p.1 p.2) more=_;rw[e,nN (by rw[C8]; exact h),C8]
  rfl
theorem AK{keys:List (Option Expr)}{values:List Expr}{rest:List (Str×(Ev->Option AT))}(j:Nat)(k:Str)(h:AV X pos keys values ((tC (.str k),cI j)::rest.map λp=>(tC (.str p.1),vP X.K p.2)))(hall:keys.all (·.isSome)=true)(hl:keys.length=values.length)(h0:keys≠[])(h15:keys.length<=15):WE X (.Dict keys values pos) (vRec j k rest):=⟨aR (pW h hall hl h0 h15) λσ H Q hq p hp=>by
 obtain⟨Z,ρ,F,o,ρ',S,w,e,q⟩:=hq;unfold vRec at e
 split at e
 ·rename_i ds hj
  obtain⟨kvs,e1,e⟩:=oB e
  split at e
  ·rename_i hn
   cases e;have n0:=aD.ng (o:=.dK []) hp w.za;have S0:=S.news n0;obtain⟨y,Gy,F1,t1,t2,t3,t4,t5⟩:=S.take w.nd (aC.mp hj);cases t2 with
   |@lst b xs _ hb fb=>
    refine⟨.ref b,t1,uO S0 e1 λkxs fk ek=>⟨ay,(D5 k,.ref b)::kxs,rfl,?_,?_⟩⟩
    ·rw[BM,<-C0 (f:=(·.1)) (as:=kxs),ek,C0]; lia
    ·have hbp:b≠p:=aN hb hp
     have hpF:p∉F1:=λz=>S.al p (t5 p (lL _ z)) hp
     have em:dU [] ((D5 k,.ref b)::kxs)=(D5 k,.ref b)::kxs:=nN (acc:=[]) (by
      rw[DH,CC,ek];have:=hn.1;have e2:(D5 k:Key)::rest.map (D5 ·.1)=(k::rest.map (·.1)).map D5:=by simp
      rw[e2];exact Ee.mpr (hn.1.imp λh z=>h (IV z)))
     rw[em];obtain⟨m1,m2,m3⟩:=aT t4;obtain⟨f1,g2⟩:=(n0.news w S.al).put (o':=.dK ((D5 k,.ref b)::kxs)) ay (λ_ z=>nomatch z) (λ_ _ z=>nomatch z)
     have kp:∀c,c≠p->∀o,H c=some o->upd (upd H p (.dK [])) p (.dK ((D5 k,.ref b)::kxs)) c=some o:=λc hc o e=>by rw[az hc,az hc]; exact e
     refine q (.ref p) _ Z F1 [p,b] (t3.mono (n0.kH.trans g2) λc hc=>kp c λz=>hpF (z▸hc)) (.t (.dre ay (kp b hbp _ hb) (fb.mono (n0.kH.trans g2)) (fk.mono g2))) (f1.sub (aJ m1 (BI (Dx hbp)) λc hc z=>?_) λc hc=>?_)
     ·rcases lK z with z | z
      ·exact hpF (z▸hc)
      ·exact m3 c hc z
     ·rcases lM hc with z | z
      ·exact lL _ (t5 c (lL _ z))
      ·rcases lK z with z | z
       ·exact lR _ (by rw[z]; exact lS)
       ·exact lL _ (t5 c (lR _ z))
  ·cases e
 ·cases e⟩
end
end VL
end
section
open PySem L2 VL
end
section
open PySem L2 VL
noncomputable def FF.eX:FS:=(aH (ud (aa 0) (bC 2 (aA (af 1) (aA (af 2) bE))))
 (aH (bA 3 (A3 true 1 [] (aP (aa 1)) (af 0) jD (aa 0) (iC iI)))
 (aH (cJ (aP (aa 2)) (bC 2 (aA (af 4) (aA (af 5) bE))) (aH (cB (jF 3 (cZ 4) (cZ 5)))
 (cB (jF 3 (cZ 5) (cZ 4)))))
 (bJ (A3 false 1 [3] (aP (aa 1)) (af 0) jD (aa 0) (dY iP (ai (dY jz (ai (dZ (aa 1) (aa 0)))))))))))
noncomputable def FF.eY:FF:=fm [true] 6 FF.eX
end
section
open PySem L2 VL
end
section
open PySem L2 VL
noncomputable def FF.cE:FS:=(aH (bA 3 (yq [((aa 2),(vC (.int 0)))]))
 (aH (bA 4 (iC (ai (aa 2))))
 (aH (bA 5 (vC (.int 0)))
 (aH (fM 1000000 (aL (vB AZ (aa 5) (dY dD (ai (aa 4))))) (aH (bA 6 (dZ (aa 4) (aa 5)))
 (aH (t9 5 (eg (λ_ _=>true) λi j=>.int (i+j)) (vC (.int 1)))
 (cJ (aP (dZ (aa 0) (aa 6))) (af 7) (cA (ff (aL (vB (ic false) (aa 7) (aa 1))) (aL (vB (ic true) (aa 7) (aa 3)))) (aH (rF 3 (aa 7) (vB cY (dZ (aa 3) (aa 6)) (vC (.int 1))))
 (cB (gY 4 (ai (aa 7))))) aW)))))
 (bJ (aa 3))))))
noncomputable def FF.b6:FF:=fm [true,true,true] 8 FF.cE
end
section
open PySem L2 VL
noncomputable def FF.eZ:FS:=(aH (bA 4 (ie FF.eY (ai (aa 0))))
 (aH (bA 5 (ie FF.b6 (ak (aa 4) (ak (aa 1) (ai (aa 3))))))
 (aH (cA (aL (vB (ic true) (aa 2) (aa 5))) (bJ (vC .none)) aW)
 (aH (bA 6 (iC (ai (aa 2))))
 (aH (fM 1000000 (aL (vB (gK true) (dZ (aa 6) (vU gW (vC (.int 1)))) (aa 3))) (aH (bA 7 (vB nh (dZ (aa 5) (dZ (aa 6) (vU gW (vC (.int 1))))) (vC (.int 1))))
 (cB (gY 6 (ai (dY nI (ai (qk 1 [5,7] (aP (dZ (aa 4) (dZ (aa 6) (vU gW (vC (.int 1)))))) (af 0) (ff (aL (vB (ic false) (aa 0) (aa 1))) (aL (vB (gK false) (dZ (aa 1) (aa 0)) (aa 2)))) (aa 0)))))))))
 (bJ (dY iP (ai (aa 6)))))))))
noncomputable def FF.eE:FF:=fm [true,true,true,true] 8 FF.eZ
noncomputable def FF.aO:Nat->FF
 |0=>λ_=>none
 |n+1=>fm [true,true,true,true,true] 7 (aH (bA 5 (ie FF.eE (ak (aa 0) (ak (aa 1) (ak (aa 2) (ai (aa 3)))))))
 (aH (cA (aL (vB (oQ false) (aa 5) (vC .none))) (bJ (vC (.bool true))) aW)
 (aH (cA (aL (vB vf (aa 4) (vC (.int 0)))) (bJ (vC (.bool false))) aW)
 (aH (cJ (aP (rT (aa 5) (bR (vC (.int 1))) (bR (vU gW (vC (.int 1)))))) (af 6) (cA (jx (ie (FF.aO n) (ak (aa 0) (ak (dY iP (ai (g8 1 [6] 1 (af 0) (aL (vB (gK true) (aa 0) (aa 1))) (aa 0)))) (ak (aa 2) (ak (aa 3) (ai (vB nh (aa 4) (vC (.int 1)))))))))) (bJ (vC (.bool true))) aW))
 (bJ (vC (.bool false)))))))
noncomputable def FF.bD:FS:=(aH (bA 2 (dZ (aa 0) (vC (.int 0))))
 (aH (cA (aL (vB vf (dY dD (ai (aa 2))) (aa 1))) (bJ (vC (.bool false))) aW)
 (aH (cJ (aP (aa 2)) (af 3) (cJ (aP (aa 2)) (af 4) (cA (ff (aL (vB AZ (aa 3) (aa 4))) (jx (ie (FF.aO 8) (ak (aa 0) (ak (aa 2) (ak (aa 3) (ak (aa 4) (ai (aa 1))))))))) (bJ (vC (.bool false))) aW)))
 (bJ (vC (.bool true))))))
noncomputable def FF.bW:FF:=fm [true,true] 5 FF.bD
noncomputable def FF.dF:FS:=(aH (bA 1 (vB pq (vB pq (vB pq (vB pq (vB jw (vC (.int 10)) (vC (.int 60))) (vB jw (vC (.int 10)) (vC (.int 60)))) (vB jw (vC (.int 10)) (vC (.int 60)))) (vB jw (vC (.int 10)) (vC (.int 60)))) (vB jw (vC (.int 10)) (vC (.int 60)))))
 (aH (ue 2 3 (ak (vC (.int 23)) (ai (iC iI))))
 (aH (cJ (bN (rT (aa 0) fJ (bR (vC (.int 63))))) (bC 2 (aA (af 4) (aA (af 5) bE))) (aH (bA 2 (vB gc (vB cY (vB cY (vB cY (vB mulM (aa 2) (vC (.int 48271))) (vB gc (aa 5) (vC (.int 2305843009213693951)))) (vB mulM (vC (.int 7919)) (aa 4))) (vC (.int 5))) (vC (.int 2305843009213693951))))
 (cA (aL (vB BC (dY oV (ai (aa 5))) (vB jw (vC (.int 10)) (vC (.int 18))))) (cB (gY 3 (ai (vB gc (dY oV (ai (aa 5))) (aa 1))))) aW)))
 (bJ (vRec 3 "own" [("seed",(cZ 2)),("turn",(λ_=>some (.int 0)))])))))
noncomputable def FF.dm:FF:=fm [true] 6 FF.dF
noncomputable def FF.b7:FS:=(aH (fM 1000000 (ff (aL (pB 0 "own")) (aL (vB (gK false) (pC 0 "own" 0) (vC (.int 0))))) (cB (jL 0 "own" 0)))
 (aH (cA (aL (pB 0 "own")) (aH (bA 2 (vB gc (pC 0 "own" 0) (aa 1)))
 (aH (uM 0 "own" 0 (vB ni (pC 0 "own" 0) (aa 1)))
 (bJ (aa 2)))) aW)
 (aH (bA 3 (vB cY (nM 0 "turn") (vC (.int 1))))
 (aH (uN 0 "turn" (aa 3))
 (aH (bA 4 (vB gc (vB mulM (vB cY (vB cY (nM 0 "seed") (vB mulM (vB mulM (vC (.int 65537)) (aa 3)) (aa 3))) (vC (.int 11))) (vC (.int 48271))) (vC (.int 2305843009213693921))))
 (aH (bA 4 (vB gc (vB mulM (aa 4) (vB cY (vB gc (aa 4) (vC (.int 1000003))) (vB mulM (vC (.int 99991)) (aa 3)))) (vC (.int 2305843009213693907))))
 (bJ (vB gc (vB cY (vB ni (aa 4) (vC (.int 97))) (vB ni (aa 4) (vC (.int 1000033)))) (aa 1)))))))))
noncomputable def FF.aM:FF:=fm [true,true] 5 FF.b7
noncomputable def FF.b8:FS:=(bJ (dZ (aa 1) (ie FF.aM (ak (aa 0) (ai (dY dD (ai (aa 1))))))))
noncomputable def FF.bX:FF:=fm [true,true] 2 FF.b8
noncomputable def FF.bS:FS:=(aH (ue 1 2 (ak (ie FF.aM (ak (aa 0) (ai (vC (.int 4))))) (ai (vB cY (vC (.int 1)) (ie FF.aM (ak (aa 0) (ai (vC (.int 5)))))))))
 (aH (ud (gf (ak (ie FF.aM (ak (aa 0) (ai (vC (.int 100))))) (ai (ie FF.bX (ak (aa 0) (ai (iC (o4 [1,3,7,9,11,33,77,99])))))))) (bC 2 (aA (af 3) (aA (af 4) bE))))
 (aH (bA 5 (dY jz (ai (qk 1 [3,4] (fL iR (ai (aa 2))) (af 0) jD (vB gc (vB cY (aa 1) (vB mulM (aa 2) (aa 0))) (vC (.int 100)))))))
 (aH (bA 6 (iC iI))
 (aH (cJ (bN (aa 5)) (bC 2 (aA (af 7) (aA (af 8) bE))) (cJ (aP (rT (aa 5) (bR (vB cY (aa 7) (vC (.int 1)))) fJ)) (af 9) (cA (aL (vB BB (ie FF.aM (ak (aa 0) (ai (dZ (iC (ak (vC (.int 2)) (ak (vC (.int 5)) (ak (vC (.int 9)) (ai (vC (.int 3))))))) (aa 1))))) (vC (.int 0)))) (cB (gY 6 (ai (gf (ak (aa 8) (ai (aa 9))))))) aW)))
 (bJ (gf (ak (dY iP (ai (aa 5))) (ai (dY iP (ai (aa 6))))))))))))
noncomputable def FF.br:FF:=fm [true] 10 FF.bS
noncomputable def FF.cQ:FS:=(aH (bA 2 (dY iM (ai (rT (aa 1) fJ (bR (vC (.int 1)))))))
 (aH (cJ (aP (aa 1)) (af 3) (cJ (aP (dZ (aa 0) (vC (.int 1)))) (bC 2 (aA (af 4) (aA (af 5) bE))) (cJ (aP (gf (ak (gf (ak (aa 4) (ai (aa 5)))) (ai (gf (ak (aa 5) (ai (aa 4)))))))) (bC 2 (aA (af 6) (aA (af 7) bE))) (cA (ff (aL (vB (ic false) (aa 6) (aa 2))) (ff (aL (vB (ic false) (aa 7) (aa 1))) (aL (vB (ic true) (aa 7) (aa 2))))) (cB (gY 2 (ai (aa 7)))) aW))))
 (bJ (p7 (vB (gK true) (aa 1) (iC iI)) (vB (gK false) (dY dD (ai (aa 2))) (dY dD (ai (aa 1))))))))
noncomputable def FF.bK:FF:=fm [true,true] 8 FF.cQ
noncomputable def FF.bL:FS:=(aH (cA (aL (vB vf (dY dD (ai (dZ (aa 0) (vC (.int 0))))) (aa 1))) (bJ (vC (.bool false))) aW)
 (aH (cJ (fL iR (ai (vB shlM (vC (.int 1)) (dY dD (ai (dZ (aa 0) (vC (.int 0)))))))) (af 2) (aH (bA 3 (qk 2 [2] (bN (dZ (aa 0) (vC (.int 0)))) (bC 2 (aA (af 0) (aA (af 1) bE))) (aL (vB (gK false) (vB p8 (vB shrM (aa 2) (aa 0)) (vC (.int 1))) (vC (.int 0)))) (aa 1)))
 (cA (ff (aL (vB vf (vB nh (dY dD (ai (dZ (aa 0) (vC (.int 0))))) (dY dD (ai (aa 3)))) (aa 1))) (nc (jx (ie FF.bK (ak (aa 0) (ai (aa 3))))))) (bJ (vC (.bool false))) aW)))
 (bJ (vC (.bool true)))))
noncomputable def FF.cF:FF:=fm [true,true] 4 FF.bL
noncomputable def FF.gH:FS:=(aH (bA 1 (ie FF.dm (ai (aa 0))))
 (aH (cJ (fL iR (ai (vB mulM (vC (.int 3)) (vB cY (vC (.int 1)) (dY tY (ak (vC (.int 8)) (ai (dY dD (ai (aa 0)))))))))) (af 2) (aH (bA 3 (ie FF.br (ai (aa 1))))
 (cJ (fL iR (ai (vC (.int 7)))) (af 4) (aH (bA 5 (ie FF.bW (ak (aa 3) (ai (aa 4)))))
 (cA (AY (nc (jx (vU (tZ "bool") (aa 5)))) (aL (vB (gK true) (aa 5) (ie FF.cF (ak (aa 3) (ai (aa 4))))))) (bJ (vC (.bool false))) aW)))))
 (bJ (vC (.bool true)))))
noncomputable def FF.nO:FF:=fm [true] 6 FF.gH
end
section
namespace Lk47
open PySem L2 VL PyProof.Rows
noncomputable def top(i:Nat):Stmt:=PySem.Challenge.pw_drawnweb_k47_holding_on.main.body.getD i (.Pass ⟨0,0,0,0⟩)
structure Txt(mg:Str->Option Value):Prop where
 z_sorted:mg "sorted" = none
 z_tuple:mg "tuple" = none
 z_len:mg "len" = none
 z_min:mg "min" = none
 z_enumerate:mg "enumerate" = none
 z_abs:mg "abs" = none
 z_range:mg "range" = none
 z_list:mg "list" = none
 z_isinstance:mg "isinstance" = none
 z_bool:mg "bool" = none
section
variable{P:CH}{w:World}{K:AC}{mg:Str->Option Value}{base:Heap}{f:Addr}{fd:DS}
noncomputable abbrev s_nears:Stmt:=top 1
theorem sc_nears:bq ["web", "places", "ties", "beside", "a", "b"] ["web"] (av s_nears):=⟨rfl,rfl,rfl,by decide +kernel,rfl,by decide +kernel,by decide +kernel⟩
theorem ok_nears(Fn:jY K "nears" "nears" s_nears f fd)(T:Txt mg):b9 P w K mg base ir 1 f fd ["web"] (fZ K FF.eY) :=
 bZ (N:=["web", "places", "ties", "beside", "a", "b"]) (k:=0) (st:=s_nears) (fb:=FF.eX) [true] Fn sc_nears rfl λcdv A outer s H E hr=>(by
  have hU:=hr.units;have hG:=hr.gd;exact(ah (ux (wv 0) (fP 2 rfl (aQ (aE (i:=1) (by decide) sc_nears.nd rfl (CK rfl)) (aQ (aE (i:=2) (by decide) sc_nears.nd rfl (CK rfl)) dO))))
  (ah (aV (i:=3) (by decide) sc_nears.nd rfl (E1 rfl) (yp true 1 [] rfl rfl rfl (aY.of (sc0:=av s_nears) (N0:=["web", "places", "ties", "beside", "a", "b"]) (N:=["place"]) (fr:=[none]) rfl rfl (by decide +kernel)) (cP (wv 1)) (λ_=>⟨(aE (i:=0) (by decide) (show (["place"]:List Str).Nodup by decide +kernel) rfl (CK rfl)),o6,(wv 0),(fO lY)⟩)))
  (ah (cD CL rfl (cP (wv 2)) (fP 2 rfl (aQ (aE (i:=4) (by decide) sc_nears.nd rfl (CK rfl)) (aQ (aE (i:=5) (by decide) sc_nears.nd rfl (CK rfl)) dO))) (ah (dQ (qq 3 (Br 4) (Br 5) hU (pv 3) (λ_ _=>rfl) (λ_ _ h1 h2=>iH D4 D2 DE ck h1 h2)))
  (au (dQ (qq 3 (Br 5) (Br 4) hU (pv 3) (λ_ _=>rfl) (λ_ _ h1 h2=>iH D4 D2 DE ck h1 h2))))))
  (au (bf (yp false 1 [3] rfl rfl rfl (aY.of (sc0:=av s_nears) (N0:=["web", "places", "ties", "beside", "a", "b"]) (N:=["place", "beside"]) (fr:=[none,some 3]) rfl rfl (by decide +kernel)) (cP (wv 1)) (λ_=>⟨(aE (i:=0) (by decide) (show (["place", "beside"]:List Str).Nodup by decide +kernel) rfl (CK rfl)),o6,(wv 0),(kN fK rfl T.z_tuple (by decide +kernel) (aq (c7 (kK rfl) rfl T.z_sorted (by decide +kernel) (aq (cL hU (wv 1) (wv 0) (λ_ _=>rfl))))))⟩))))))))
noncomputable abbrev s_steps_from:Stmt:=top 2
theorem sc_steps_from:bq ["beside", "some", "start", "steps", "waiting", "at", "place", "other"] ["beside", "some", "start"] (av s_steps_from):=⟨rfl,rfl,rfl,by decide +kernel,rfl,by decide +kernel,by decide +kernel⟩
theorem ok_steps_from(Fn:jY K "steps_from" "steps_from" s_steps_from f fd)(T:Txt mg):b9 P w K mg base ir 1 f fd ["beside", "some", "start"] (fZ K FF.b6) :=
 bZ (N:=["beside", "some", "start", "steps", "waiting", "at", "place", "other"]) (k:=0) (st:=s_steps_from) (fb:=FF.cE) [true,true,true] Fn sc_steps_from rfl λcdv A outer s H E hr=>(by
  have hU:=hr.units;have hG:=hr.gd;exact(ah (aV (i:=3) (by decide) sc_steps_from.nd rfl (CK rfl) (xx (uz (wv 2) aj xw) rfl rfl (IH _ _) (by show 1<=15; decide)))
  (ah (aV (i:=4) (by decide) sc_steps_from.nd rfl (CK rfl) (fO (aq (wv 2))))
  (ah (aV (i:=5) (by decide) sc_steps_from.nd rfl (CK rfl) aj)
  (ah (jK 1000000 CL (cg (yh hU) (wv 5) (c7 dW rfl T.z_len (by decide +kernel) (aq (wv 4))) (bH _)) (ah (aV (i:=6) (by decide) sc_steps_from.nd rfl (CK rfl) (cL hU (wv 4) (wv 5) (λ_ _=>rfl)))
  (ah (AA (i:=5) wU (by decide) sc_steps_from.nd rfl (CK rfl) aj yM)
  (au (cD CL rfl (cP (cL hU (wv 0) (wv 6) (λ_ _=>rfl))) (aE (i:=7) (by decide) sc_steps_from.nd rfl (CK rfl)) (au (dP (jH (gG (qo hU (wv 7) (wv 1)) (f9 (jG hU (wv 7) (wv 3))))) (ah (AB 3 hU (pv 3) (wv 7) (aF cO (cL hU (wv 3) (wv 6) (λ_ _=>rfl)) aj) rfl (λ_ _ h1 h2=>kY h1 h2) (λ_ _ h1 h2=>sf h1 h2 set_list))
  (au (dQ (jI 4 (aq (wv 7)) (λ_ _ h1 h2=>iH D4 D2 DE ck h1 h2) (pv 4))))) bF)))))))
  (au (bf (wv 3))))))))
noncomputable abbrev s_way:Stmt:=top 3
theorem sc_way:bq ["web", "some", "one", "other", "beside", "steps", "told", "left"] ["web", "some", "one", "other"] (av s_way):=⟨rfl,rfl,rfl,by decide +kernel,rfl,by decide +kernel,by decide +kernel⟩
theorem ok_way(Fn:jY K "way" "way" s_way f fd)(T:Txt mg)(C_steps_from:cX P w K mg base "steps_from" ["beside", "some", "start"] 1 (fZ K FF.b6))(C_nears:cX P w K mg base "nears" ["web"] 1 (fZ K FF.eY)):b9 P w K mg base ir 2 f fd ["web", "some", "one", "other"] (fZ K FF.eE) :=
 bZ (N:=["web", "some", "one", "other", "beside", "steps", "told", "left"]) (k:=1) (st:=s_way) (fb:=FF.eZ) [true,true,true,true] Fn sc_way rfl λcdv A outer s H E hr=>(by
  have hU:=hr.units;have hG:=hr.gd;exact(ah (aV (i:=4) (by decide) sc_way.nd rfl (CK rfl) (c8 C_nears hr rfl (aq (wv 0))))
  (ah (aV (i:=5) (by decide) sc_way.nd rfl (E1 rfl) (c8 C_steps_from hr rfl (aB (wv 4) (aB (wv 1) (aq (wv 3))))))
  (ah (dP (jG hU (wv 2) (wv 5)) (au (bf uu)) bF)
  (ah (aV (i:=6) (by decide) sc_way.nd rfl (CK rfl) (fO (aq (wv 2))))
  (ah (jK 1000000 CL (cg (nj hU) (cL hU (wv 6) (lX aj) (λ_ _=>rfl)) (wv 3) (bH _)) (ah (aV (i:=7) (by decide) sc_way.nd rfl (E1 rfl) (aF oO (cL hU (wv 5) (cL hU (wv 6) (lX aj) (λ_ _=>rfl)) (λ_ _=>rfl)) aj))
  (au (dQ (jI 6 (aq (c7 (xH rfl) rfl T.z_min (by decide +kernel) (aq (yo 1 [5,7] rfl rfl rfl (aY.of (sc0:=av s_way) (N0:=["web", "some", "one", "other", "beside", "steps", "told", "left"]) (N:=["place", "steps", "left"]) (fr:=[none,some 5,some 7]) rfl rfl (by decide +kernel)) (cP (cL hU (wv 4) (cL hU (wv 6) (lX aj) (λ_ _=>rfl)) (λ_ _=>rfl))) (λ_=>⟨(aE (i:=0) (by decide) (show (["place", "steps", "left"]:List Str).Nodup by decide +kernel) rfl (CK rfl)),(o8 (jH (gG (qo hU (wv 0) (wv 1)) (f9 (cg (p9 hU) (cL hU (wv 1) (wv 0) (λ_ _=>rfl)) (wv 2) (bH _)))))),(wv 0)⟩))))) (λ_ _ h1 h2=>iH D4 D2 DE ck h1 h2) (pv 6))))))
  (au (bf (kN fK rfl T.z_tuple (by decide +kernel) (aq (wv 6)))))))))))
noncomputable abbrev s_is_parted:Stmt:=top 6
theorem sc_is_parted:bq ["web", "some", "a", "b", "many", "path", "gone"] ["web", "some", "a", "b", "many"] (av s_is_parted):=⟨rfl,rfl,rfl,by decide +kernel,rfl,by decide +kernel,by decide +kernel⟩
theorem ok_is_parted(Fn:jY K "is_parted" "is_parted" s_is_parted f fd)(T:Txt mg)(bd:Binds K fd ["web", "some", "a", "b", "many"] [])(hm:mg "is_parted" = some (.ref f))(C_way:cX P w K mg base "way" ["web", "some", "one", "other"] 2 (fZ K FF.eE)):∀n,b9 P w K mg base ir (n+3) f fd ["web", "some", "a", "b", "many"] (fZ K (FF.aO n))
 |0=>xy
 |n+1=>by
  have C_is_parted:cX P w K mg base "is_parted" ["web", "some", "a", "b", "many"] (n+3) (fZ K (FF.aO n)):=⟨f,fd,ok_is_parted Fn T bd hm C_way n,bd,Fn.kp,hm⟩;exact bZ [true,true,true,true,true] Fn sc_is_parted rfl λcdv A outer s H E hr=>(by
  have hU:=hr.units;have hG:=hr.gd;exact(ah (aV (i:=5) (by decide) sc_is_parted.nd rfl (CK rfl) (c8 C_way hr rfl (aB (wv 0) (aB (wv 1) (aB (wv 2) (aq (wv 3)))))))
  (ah (dP (cg ov_is (wv 5) uu (bH _)) (au (bf e9)) bF)
  (ah (dP (cg qc (wv 4) aj (bH _)) (au (bf e9)) bF)
  (ah (cD CL rfl (cP (qp (wv 5) (gZ aj) (gZ (lX aj)))) (aE (i:=6) (by decide) sc_is_parted.nd rfl (E1 rfl)) (au (dP (lW (c8 C_is_parted hr rfl (aB (wv 0) (aB (kN fK rfl T.z_tuple (by decide +kernel) (aq (AJ 1 1 [6] (pv 1) rfl rfl rfl (aY.of (sc0:=av s_is_parted) (N0:=["web", "some", "a", "b", "many", "path", "gone"]) (N:=["place", "gone"]) (fr:=[none,some 6]) rfl rfl (by decide +kernel)) (cP (wv 1)) (λ_=>⟨(aE (i:=0) (by decide) (show (["place", "gone"]:List Str).Nodup by decide +kernel) rfl (CK rfl)),(o8 (cg (nj hU) (wv 0) (wv 1) (bH _))),(wv 0)⟩)))) (aB (wv 2) (aB (wv 3) (aq (aF oO (wv 4) aj)))))))) (au (bf e9)) bF)))
  (au (bf e9)))))))
noncomputable abbrev s_holds_on:Stmt:=top 5
theorem sc_holds_on:bq ["told", "many", "places", "a", "b"] ["told", "many"] (av s_holds_on):=⟨rfl,rfl,rfl,by decide +kernel,rfl,by decide +kernel,by decide +kernel⟩
theorem ok_holds_on(Fn:jY K "holds_on" "holds_on" s_holds_on f fd)(T:Txt mg)(C_is_parted:cX P w K mg base "is_parted" ["web", "some", "a", "b", "many"] 11 (fZ K (FF.aO 8))):b9 P w K mg base ir 12 f fd ["told", "many"] (fZ K FF.bW) :=
 bZ (N:=["told", "many", "places", "a", "b"]) (k:=11) (st:=s_holds_on) (fb:=FF.bD) [true,true] Fn sc_holds_on rfl λcdv A outer s H E hr=>(by
  have hU:=hr.units;have hG:=hr.gd;exact(ah (aV (i:=2) (by decide) sc_holds_on.nd rfl (CK rfl) (cL hU (wv 0) aj (λ_ _=>rfl)))
  (ah (dP (cg qc (c7 dW rfl T.z_len (by decide +kernel) (aq (wv 2))) (wv 1) (bH _)) (au (bf e9)) bF)
  (ah (cD CL rfl (cP (wv 2)) (aE (i:=3) (by decide) sc_holds_on.nd rfl (CK rfl)) (au (cD CL rfl (cP (wv 2)) (aE (i:=4) (by decide) sc_holds_on.nd rfl (CK rfl)) (au (dP (jH (gG (cg (yh hU) (wv 3) (wv 4) (bH _)) (f9 (lW (c8 C_is_parted hr rfl (aB (wv 0) (aB (wv 2) (aB (wv 3) (aB (wv 4) (aq (wv 1))))))))))) (au (bf e9)) bF)))))
  (au (bf e9))))))
noncomputable abbrev s_law_pot:Stmt:=top 8
theorem sc_law_pot:bq ["_law_script", "_law_far", "_law_seed", "_law_own", "_law_k", "_law_cell"] ["_law_script"] (av s_law_pot):=⟨rfl,rfl,rfl,by decide +kernel,rfl,by decide +kernel,by decide +kernel⟩
theorem ok_law_pot(Fn:jY K "_law_pot" "_law_pot" s_law_pot f fd)(T:Txt mg):b9 P w K mg base ir 1 f fd ["_law_script"] (fZ K FF.dm) :=
 bZ (N:=["_law_script", "_law_far", "_law_seed", "_law_own", "_law_k", "_law_cell"]) (k:=0) (st:=s_law_pot) (fb:=FF.dF) [true] Fn sc_law_pot rfl λcdv A outer s H E hr=>(by
  have hU:=hr.units;have hG:=hr.gd;exact(ah (aV (i:=1) (by decide) sc_law_pot.nd rfl (CK rfl) (aF iZ (aF iZ (aF iZ (aF iZ (aF iB aj aj) (aF iB aj aj)) (aF iB aj aj)) (aF iB aj aj)) (aF iB aj aj)))
  (ah (uy (i:=2) (j:=3) (by decide) (by decide) (aB aj (aq (fO lY))) (λ_ h=>sj (i:=2) (j:=3) rfl sc_law_pot.nd rfl rfl (by decide) rfl rfl h rfl))
  (ah (cD CL rfl (jJ rfl T.z_enumerate (qp (wv 0) lZ (gZ aj))) (fP 2 rfl (aQ (aE (i:=4) (by decide) sc_law_pot.nd rfl (CK rfl)) (aQ (aE (i:=5) (by decide) sc_law_pot.nd rfl (CK rfl)) dO))) (ah (aV (i:=2) (by decide) sc_law_pot.nd rfl (CK rfl) (aF eU (aF cO (aF cO (aF cO (aF eT (wv 2) aj) (aF eU (wv 5) aj)) (aF eT aj (wv 4))) aj) aj))
  (au (dP (cg (ov_ge hU) (c7 tX rfl T.z_abs (by decide +kernel) (aq (wv 5))) (aF iB aj aj) (bH _)) (au (dQ (jI 3 (aq (aF eU (c7 tX rfl T.z_abs (by decide +kernel) (aq (wv 5))) (wv 1))) (λ_ _ h1 h2=>iH D4 D2 DE ck h1 h2) (pv 3)))) bF))))
  (au (bf (AK (rest:=[("seed",(cZ 2)),("turn",(λ_=>some (.int 0)))]) 3 "own" (gP i8 (pv 3) (gP i8 (Br 2).h (gP i8 Au.h pV))) rfl rfl (IH _ _) (by show 3<=15; decide))))))))
noncomputable abbrev s_law_take:Stmt:=top 9
theorem sc_law_take:bq ["_law_pot_here", "_law_many", "_law_digit", "_law_turn", "_law_mixed"] ["_law_pot_here", "_law_many"] (av s_law_take):=⟨rfl,rfl,rfl,by decide +kernel,rfl,by decide +kernel,by decide +kernel⟩
theorem ok_law_take(Fn:jY K "_law_take" "_law_take" s_law_take f fd)(T:Txt mg):b9 P w K mg base ir 1 f fd ["_law_pot_here", "_law_many"] (fZ K FF.aM) :=
 bZ (N:=["_law_pot_here", "_law_many", "_law_digit", "_law_turn", "_law_mixed"]) (k:=0) (st:=s_law_take) (fb:=FF.b7) [true,true] Fn sc_law_take rfl λcdv A outer s H E hr=>(by
  have hU:=hr.units;have hG:=hr.gd;exact(ah (jK 1000000 CL (jH (gG (uJ hU (pv 0)) (f9 (cg (p9 hU) (pF hU (pv 0)) aj (bH _))))) (au (dQ (xN hU (pv 0) (λ_ _ h1 h2=>iH D4 He PySem.F.type_list_pop sR h1 h2)))))
  (ah (dP (uJ hU (pv 0)) (ah (aV (i:=2) (by decide) sc_law_take.nd rfl (CK rfl) (aF eU (pF hU (pv 0)) (wv 1)))
  (ah (xO hU (pv 0) (aF lT (pF hU (pv 0)) (wv 1)) (λ_ _ h1 h2=>kY h1 h2) (λ_ _ h1 h2=>sf h1 h2 set_list))
  (au (bf (wv 2))))) bF)
  (ah (aV (i:=3) (by decide) sc_law_take.nd rfl (CK rfl) (aF cO (uK hU (pv 0)) aj))
  (ah (xP hU (pv 0) (wv 3))
  (ah (aV (i:=4) (by decide) sc_law_take.nd rfl (CK rfl) (aF eU (aF eT (aF cO (aF cO (uK hU (pv 0)) (aF eT (aF eT aj (wv 3)) (wv 3))) aj) aj) aj))
  (ah (aV (i:=4) (by decide) sc_law_take.nd rfl (CK rfl) (aF eU (aF eT (wv 4) (aF cO (aF eU (wv 4) aj) (aF eT aj (wv 3)))) aj))
  (au (bf (aF eU (aF cO (aF lT (wv 4) aj) (aF lT (wv 4) aj)) (wv 1)))))))))))
noncomputable abbrev s_law_pick:Stmt:=top 10
theorem sc_law_pick:bq ["_law_pot_here", "_law_some"] ["_law_pot_here", "_law_some"] (av s_law_pick):=⟨rfl,rfl,rfl,by decide +kernel,rfl,by decide +kernel,by decide +kernel⟩
theorem ok_law_pick(Fn:jY K "_law_pick" "_law_pick" s_law_pick f fd)(T:Txt mg)(C_law_take:cX P w K mg base "_law_take" ["_law_pot_here", "_law_many"] 1 (fZ K FF.aM)):b9 P w K mg base ir 2 f fd ["_law_pot_here", "_law_some"] (fZ K FF.bX) :=
 bZ (N:=["_law_pot_here", "_law_some"]) (k:=1) (st:=s_law_pick) (fb:=FF.b8) [true,true] Fn sc_law_pick rfl λcdv A outer s H E hr=>(by
  have hU:=hr.units;have hG:=hr.gd;exact(au (bf (cL hU (wv 1) (c8 C_law_take hr rfl (aB (wv 0) (aq (c7 dW rfl T.z_len (by decide +kernel) (aq (wv 1)))))) (λ_ _=>rfl)))))
noncomputable abbrev s_law_told_web:Stmt:=top 11
theorem sc_law_told_web:bq ["_law_pot_here", "_law_mode", "_law_many", "_law_first", "_law_stride", "_law_names", "_law_ties", "_law_k", "_law_one", "_law_other"] ["_law_pot_here"] (av s_law_told_web):=⟨rfl,rfl,rfl,by decide +kernel,rfl,by decide +kernel,by decide +kernel⟩
theorem ok_law_told_web(Fn:jY K "_law_told_web" "_law_told_web" s_law_told_web f fd)(T:Txt mg)(C_law_take:cX P w K mg base "_law_take" ["_law_pot_here", "_law_many"] 1 (fZ K FF.aM))(C_law_pick:cX P w K mg base "_law_pick" ["_law_pot_here", "_law_some"] 2 (fZ K FF.bX)):b9 P w K mg base ir 3 f fd ["_law_pot_here"] (fZ K FF.br) :=
 bZ (N:=["_law_pot_here", "_law_mode", "_law_many", "_law_first", "_law_stride", "_law_names", "_law_ties", "_law_k", "_law_one", "_law_other"]) (k:=2) (st:=s_law_told_web) (fb:=FF.bS) [true] Fn sc_law_told_web rfl λcdv A outer s H E hr=>(by
  have hU:=hr.units;have hG:=hr.gd;exact(ah (uy (i:=1) (j:=2) (by decide) (by decide) (aB (c8 C_law_take hr rfl (aB (wv 0) (aq aj))) (aq (aF cO aj (c8 C_law_take hr rfl (aB (wv 0) (aq aj)))))) (λ_ h=>sj (i:=1) (j:=2) rfl sc_law_told_web.nd rfl rfl (by decide) rfl rfl h rfl))
  (ah (ux (iE (aB (c8 C_law_take hr rfl (aB (wv 0) (aq aj))) (aq (c8 C_law_pick hr rfl (aB (wv 0) (aq (fO (xu (ns:=[1,3,7,9,11,33,77,99]) (by decide +kernel))))))))) (fP 2 rfl (aQ (aE (i:=3) (by decide) sc_law_told_web.nd rfl (E1 rfl)) (aQ (aE (i:=4) (by decide) sc_law_told_web.nd rfl (E1 rfl)) dO))))
  (ah (aV (i:=5) (by decide) sc_law_told_web.nd rfl (CK rfl) (c7 (kK rfl) rfl T.z_sorted (by decide +kernel) (aq (yo 1 [3,4] rfl rfl rfl (aY.of (sc0:=av s_law_told_web) (N0:=["_law_pot_here", "_law_mode", "_law_many", "_law_first", "_law_stride", "_law_names", "_law_ties", "_law_k", "_law_one", "_law_other"]) (N:=["_law_k", "_law_first", "_law_stride"]) (fr:=[none,some 3,some 4]) rfl rfl (by decide +kernel)) (iY rfl T.z_range (aq (wv 2))) (λ_=>⟨(aE (i:=0) (by decide) (show (["_law_k", "_law_first", "_law_stride"]:List Str).Nodup by decide +kernel) rfl (CK rfl)),o6,(aF eU (aF cO (wv 1) (aF eT (wv 2) (wv 0))) aj)⟩)))))
  (ah (aV (i:=6) (by decide) sc_law_told_web.nd rfl (CK rfl) (fO lY))
  (ah (cD CL rfl (jJ rfl T.z_enumerate (wv 5)) (fP 2 rfl (aQ (aE (i:=7) (by decide) sc_law_told_web.nd rfl (CK rfl)) (aQ (aE (i:=8) (by decide) sc_law_told_web.nd rfl (CK rfl)) dO))) (au (cD CL rfl (cP (qp (wv 5) (gZ (aF cO (wv 7) aj)) lZ)) (aE (i:=9) (by decide) sc_law_told_web.nd rfl (CK rfl)) (au (dP (cg ov_gt (c8 C_law_take hr rfl (aB (wv 0) (aq (cL hU (fO (aB aj (aB aj (aB aj (aq aj))))) (wv 1) (λ_ _=>rfl))))) aj (bH _)) (au (dQ (jI 6 (aq (iE (aB (wv 8) (aq (wv 9))))) (λ_ _ h1 h2=>iH D4 D2 DE ck h1 h2) (pv 6)))) bF)))))
  (au (bf (iE (aB (kN fK rfl T.z_tuple (by decide +kernel) (aq (wv 5))) (aq (kN fK rfl T.z_tuple (by decide +kernel) (aq (wv 6))))))))))))))
noncomputable abbrev s_law_hangs:Stmt:=top 12
theorem sc_law_hangs:bq ["_law_web", "_law_some", "_law_found", "_law_turn", "_law_one", "_law_other", "_law_nigh", "_law_far"] ["_law_web", "_law_some"] (av s_law_hangs):=⟨rfl,rfl,rfl,by decide +kernel,rfl,by decide +kernel,by decide +kernel⟩
theorem ok_law_hangs(Fn:jY K "_law_hangs" "_law_hangs" s_law_hangs f fd)(T:Txt mg):b9 P w K mg base ir 1 f fd ["_law_web", "_law_some"] (fZ K FF.bK) :=
 bZ (N:=["_law_web", "_law_some", "_law_found", "_law_turn", "_law_one", "_law_other", "_law_nigh", "_law_far"]) (k:=0) (st:=s_law_hangs) (fb:=FF.cQ) [true,true] Fn sc_law_hangs rfl λcdv A outer s H E hr=>(by
  have hU:=hr.units;have hG:=hr.gd;exact(ah (aV (i:=2) (by decide) sc_law_hangs.nd rfl (CK rfl) (kN wM rfl T.z_list (by decide +kernel) (aq (qp (wv 1) lZ (gZ aj)))))
  (ah (cD CL rfl (cP (wv 1)) (aE (i:=3) (by decide) sc_law_hangs.nd rfl (CK rfl)) (au (cD CL rfl (cP (cL hU (wv 0) aj (λ_ _=>rfl))) (fP 2 rfl (aQ (aE (i:=4) (by decide) sc_law_hangs.nd rfl (CK rfl)) (aQ (aE (i:=5) (by decide) sc_law_hangs.nd rfl (CK rfl)) dO))) (au (cD CL rfl (cP (iE (aB (iE (aB (wv 4) (aq (wv 5)))) (aq (iE (aB (wv 5) (aq (wv 4)))))))) (fP 2 rfl (aQ (aE (i:=6) (by decide) sc_law_hangs.nd rfl (CK rfl)) (aQ (aE (i:=7) (by decide) sc_law_hangs.nd rfl (CK rfl)) dO))) (au (dP (jH (gG (qo hU (wv 6) (wv 2)) (gG (qo hU (wv 7) (wv 1)) (f9 (jG hU (wv 7) (wv 2)))))) (au (dQ (jI 2 (aq (wv 7)) (λ_ _ h1 h2=>iH D4 D2 DE ck h1 h2) (pv 2)))) bF)))))))
  (au (bf (Aw (uv (nj hU) (wv 1) (fO lY) (bH _)) (Ax (uv (p9 hU) (c7 dW rfl T.z_len (by decide +kernel) (aq (wv 2))) (c7 dW rfl T.z_len (by decide +kernel) (aq (wv 1))) (bH _)))))))))
noncomputable abbrev s_law_due:Stmt:=top 13
theorem sc_law_due:bq ["_law_web", "_law_many", "_law_gone", "_law_some"] ["_law_web", "_law_many"] (av s_law_due):=⟨rfl,rfl,rfl,by decide +kernel,rfl,by decide +kernel,by decide +kernel⟩
theorem ok_law_due(Fn:jY K "_law_due" "_law_due" s_law_due f fd)(T:Txt mg)(C_law_hangs:cX P w K mg base "_law_hangs" ["_law_web", "_law_some"] 1 (fZ K FF.bK)):b9 P w K mg base ir 2 f fd ["_law_web", "_law_many"] (fZ K FF.cF) :=
 bZ (N:=["_law_web", "_law_many", "_law_gone", "_law_some"]) (k:=1) (st:=s_law_due) (fb:=FF.bL) [true,true] Fn sc_law_due rfl λcdv A outer s H E hr=>(by
  have hU:=hr.units;have hG:=hr.gd;exact(ah (dP (cg qc (c7 dW rfl T.z_len (by decide +kernel) (aq (cL hU (wv 0) aj (λ_ _=>rfl)))) (wv 1) (bH _)) (au (bf e9)) bF)
  (ah (cD CL rfl (iY rfl T.z_range (aq (aF zP aj (c7 dW rfl T.z_len (by decide +kernel) (aq (cL hU (wv 0) aj (λ_ _=>rfl))))))) (aE (i:=2) (by decide) sc_law_due.nd rfl (E1 rfl)) (ah (Az (i:=3) 2 [2] (by decide) sc_law_due.nd rfl rfl rfl rfl rfl (aY.of (sc0:=av s_law_due) (N0:=["_law_web", "_law_many", "_law_gone", "_law_some"]) (N:=["_law_k", "_law_place", "_law_gone"]) (fr:=[none,none,some 2]) rfl rfl (by decide +kernel)) (jJ rfl T.z_enumerate (cL hU (wv 0) aj (λ_ _=>rfl))) (λ_=>⟨(fP 2 rfl (aQ (aE (i:=0) (by decide) (show (["_law_k", "_law_place", "_law_gone"]:List Str).Nodup by decide +kernel) rfl (CK rfl)) (aQ (aE (i:=1) (by decide) (show (["_law_k", "_law_place", "_law_gone"]:List Str).Nodup by decide +kernel) rfl (CK rfl)) dO))),(o8 (cg (p9 hU) (aF wH (aF zQ (wv 2) (wv 0)) aj) aj (bH _))),(wv 1)⟩))
  (au (dP (jH (gG (cg qc (aF oO (c7 dW rfl T.z_len (by decide +kernel) (aq (cL hU (wv 0) aj (λ_ _=>rfl)))) (c7 dW rfl T.z_len (by decide +kernel) (aq (wv 3)))) (wv 1) (bH _)) (f9 (uw (lW (c8 C_law_hangs hr rfl (aB (wv 0) (aq (wv 3))))))))) (au (bf e9)) bF))))
  (au (bf e9)))))
noncomputable abbrev s_law:Stmt:=top 14
theorem sc_law:bq ["_law_script", "_law_pot_here", "_law_turn", "_law_web", "_law_many", "_law_found"] ["_law_script"] (av s_law):=⟨rfl,rfl,rfl,by decide +kernel,rfl,by decide +kernel,by decide +kernel⟩
theorem ok_law(Fn:jY K "law" "law" s_law f fd)(T:Txt mg)(C_law_due:cX P w K mg base "_law_due" ["_law_web", "_law_many"] 2 (fZ K FF.cF))(C_holds_on:cX P w K mg base "holds_on" ["told", "many"] 12 (fZ K FF.bW))(C_law_told_web:cX P w K mg base "_law_told_web" ["_law_pot_here"] 3 (fZ K FF.br))(C_law_pot:cX P w K mg base "_law_pot" ["_law_script"] 1 (fZ K FF.dm)):b9 P w K mg base ir 13 f fd ["_law_script"] (fZ K FF.nO) :=
 bZ (N:=["_law_script", "_law_pot_here", "_law_turn", "_law_web", "_law_many", "_law_found"]) (k:=12) (st:=s_law) (fb:=FF.gH) [true] Fn sc_law rfl λcdv A outer s H E hr=>(by
  have hU:=hr.units;have hG:=hr.gd;exact(ah (aV (i:=1) (by decide) sc_law.nd rfl (CK rfl) (c8 C_law_pot hr rfl (aq (wv 0))))
  (ah (cD CL rfl (iY rfl T.z_range (aq (aF eT aj (aF cO aj (c7 (zW rfl) rfl T.z_min (by decide +kernel) (aB aj (aq (c7 dW rfl T.z_len (by decide +kernel) (aq (wv 0)))))))))) (aE (i:=2) (by decide) sc_law.nd rfl (CK rfl)) (ah (aV (i:=3) (by decide) sc_law.nd rfl (CK rfl) (c8 C_law_told_web hr rfl (aq (wv 1))))
  (au (cD CL rfl (iY rfl T.z_range (aq aj)) (aE (i:=4) (by decide) sc_law.nd rfl (CK rfl)) (ah (aV (i:=5) (by decide) sc_law.nd rfl (CK rfl) (c8 C_holds_on hr rfl (aB (wv 3) (aq (wv 4)))))
  (au (dP (jH (ww_or (uw (lW (Ay "bool" (by decide) (by decide) rfl T.z_isinstance (by decide +kernel) (wv 5) (vn (v:=.ty "bool") rfl T.z_bool (by decide +kernel) rfl)))) (Av (cg (nj hU) (wv 5) (c8 C_law_due hr rfl (aB (wv 3) (aq (wv 4)))) (bH _))))) (au (bf e9)) bF)))))))
  (au (bf e9)))))
end
end Lk47
end
section
namespace PA
open PySem L2 VL
theorem qw{a b:Int}(h:0<=b/\(CY a:Int)*b<=2 ^ 27):jw (.v (.int a)) (.v (.int b))=some (.v (.int (a ^ b.toNat))):=if_pos (decide_eq_true h)
noncomputable abbrev pD(p:Int×Int):AT:=.tuple [.int p.1,.int p.2]
noncomputable abbrev tD(ts:List (Int×Int)):AT:=.tuple (ts.map pD)
noncomputable abbrev wD(ps:List Int)(ts:List (Int×Int)):AT:=.tuple [tI ps,tD ts]
def Bs(a b:Int×Int):Prop:=a.1<b.1\/(a.1=b.1/\a.2<b.2)
instance (a b:Int×Int):Decidable (Bs a b):=by unfold Bs; infer_instance
theorem pG{ns:List Int}(h:ns.length<64):jz [.lst (ns.map .int)]=some (.lst ((sortI ns).map .int)):=by
 show (kJ (ns.map .int)).bind _=_;unfold kJ;rw[if_pos (by rw[C0]; exact h),fX]
 rfl
theorem sortI_perm(ns:List Int):(sortI ns).Perm ns:=eV _ _
theorem uP(ns:List Int):(sortI ns).Pairwise (·<=·):=by
 refine(gX (lt:=ltI) (λa b h=>?_) (λa b c h1 h2=>?_) ns).imp λh=>?_
 ·have h:=of_decide_eq_true h; exact decide_eq_false (by lia)
 ·have h1:=of_decide_eq_false h1
  have h2:=of_decide_eq_false h2;exact decide_eq_false (by lia)
 ·have h:=of_decide_eq_false h; lia
theorem pH{ns:List Int}(nd:ns.Nodup):(sortI ns).Pairwise (· < ·):=by
 refine List.Pairwise.imp₂ (λa b h1 h2=>?_) (uP ns) ((sortI_perm ns).nodup_iff.mpr nd)
 lia
structure g9(ps:List Int)(ts:List (Int×Int)):Prop where
 rise:ps.Pairwise (· < ·)
 rng:∀p∈ps,0<=p/\p<=99
 few:ps.length<=24
 up:ts.Pairwise Bs
 lt:∀t∈ts,t.1<t.2
 ends:∀t∈ts,t.1∈ps/\t.2∈ps
 len:ts.length<=60
noncomputable def rW(f s:Int)(n:Nat):List Int:=(CG n).map λk:Nat=>(f+s*(0+(k:Int))) % 100
theorem qx(f s:Int)(n:Nat):(rW f s n).length=n:=by unfold rW; rw[C0,Dv]
theorem xQ{f s:Int}{n:Nat}:∀p∈rW f s n,0<=p/\p<=99:=by
 intro p hp;unfold rW at hp;obtain⟨k,_,rfl⟩:=EQ.mp hp;lia
theorem iF(n:Nat):cC 0 (n:Int)=(CG n).map λk:Nat=>CO (0+(k:Int)):=by
 unfold cC;rw[Int.sub_zero,DF]
theorem kP{fe:FE}{cs:Ev}{f:AT->AT}:∀(ds acc:List AT)(x:Option M),(∀d∈ds,∃o,fe (some (.v d)::cs)=some (o,some (.v d)::cs)/\cu o (some (.v d)::cs)=some (f d,some (.v d)::cs))->acc.length+ds.length<=lim ->
  ∃y,cK (af 0) jD fe ds (x::cs) acc=some (acc++ds.map f,y::cs)
 |[],acc,x,_,_=>⟨x,by rw[ER,Bn]; rfl⟩
 |d::ds,acc,x,h,hl=>by
  obtain⟨o,e1,e2⟩:=h d lS;rw[BM] at hl;obtain⟨y,e3⟩:=kP (fe:=fe) (cs:=cs) (f:=f) ds (acc++[f d]) (some (.v d)) (λd' hd=>h d' (lO _ hd)) (by rw[C4,EI]; lia)
  refine⟨y,?_⟩;show (af 0 d (x::cs)).bind _=_;rw[show af 0 d (x::cs)=some (some (.v d)::cs) by simp]
  show (fe (some (.v d)::cs)).bind _=_;rw[e1];show (cu o (some (.v d)::cs)).bind _=_;rw[e2];show (if acc.length<lim then _ else _)=_
  rw[if_pos (by lia)]
  rw[show cK (af 0) jD fe ds (some (.v d)::cs) (acc++[f d])=_ from e3,CC,C8]
  rfl
end PA
end
section
open PySem L2 VL
end
section
namespace PQ
open PySem L2 VL PA
theorem kQ(ds:List AT)(k:Nat):cutD ds none (some (k:Int))=ds.take k:=by
 unfold cutD;rw[HT.mF,HT.k9,HI,Ih]
 by_cases h:k<=ds.length
 ·rw[Ie h]
 ·rw[Nat.min_eq_right (by lia),ID,Er (by lia)]
end PQ
end
section
namespace PS
open PySem L2 VL PA PQ
theorem bits_le{x:Int}{n:Nat}(h0:0<=x)(h:x<2 ^ n):CY x<=n:=by
 unfold CY
 split
 ·lia
 ·next hx=>
  have hx:x≠0:=by simpa using hx
  have h1:x.natAbs≠0:=by lia
  have h2:x.natAbs<2 ^ n:=by
   have:(x.natAbs:Int)<((2 ^ n:Nat):Int):=by
    rw[Int.natAbs_of_nonneg h0];simpa using h
   exact Int.ofNat_lt.mp this
  have:=(Nat.log2_lt h1).mpr h2;lia
theorem xR{a b:Int}{m n:Nat}(ha:0<=a)(hb:0<=b)(h1:a<2 ^ m)(h2:b<2 ^ n)(hmn:m+n<=1000000):pq (.v (.int a)) (.v (.int b))=some (.v (.int (a*b))):=if_pos (decide_eq_true (by
 have x1:=bits_le ha h1;have x2:=bits_le hb h2;have:(2:Int) ^ 20=1048576:=by decide
 lia))
theorem pows:∃A B:Int,A=10 ^ 60/\jw (.v (.int 10)) (.v (.int 60))=some (.v (.int A))/\jw (.v (.int 10)) (.v (.int 18))=some (.v (.int B)):=⟨_,_,rfl,qw ⟨by decide,by decide +kernel⟩,qw ⟨by decide,by decide +kernel⟩⟩
end PS
end
section
namespace PA
open PySem L2 VL
@[simp] theorem cls_none:jA (.v .none) = "NoneType" := rfl
@[simp] theorem cls_bool{b:Bool}:jA (.v (.bool b)) = "bool" := rfl
@[simp] theorem cls_int{b:Int}:jA (.v (.int b)) = "int" := rfl
@[simp] theorem cls_str{b:Str}:jA (.v (.str b)) = "str" := rfl
@[simp] theorem cls_tup{b:List AT}:jA (.v (.tuple b)) = "tuple" := rfl
@[simp] theorem cls_list{b:List AT}:jA (.v (.list b)) = "list" := rfl
@[simp] theorem cls_dict{b:List (AT×AT)}:jA (.v (.dict b)) = "dict" := rfl
theorem nP(ns:List Int)(a:Int):((ns.map CO).any λd=>DK d (.int a))=decide (a∈ns):=by
 rw[Gz]
 induction ns with
 |nil=>simp
 |cons m ns ih=>
  rw[DG,ih];show ((m == a) || _)=_
  by_cases h:m=a
  ·simp[h]
  ·simp[h,Dx h]
theorem qy(neg:Bool)(ns:List Int)(a:Int):ic neg (.v (.int a)) (.v (.tuple (ns.map .int)))=some (.v (.bool (if neg then !decide (a∈ns) else decide (a∈ns)))):=by
 show A0 neg (.v (.int a)) (.v (.tuple (ns.map .int)))=_;show (if okIn (ns.map .int) (.int a)=true then some (M.v (.bool (if neg then !((ns.map CO).any λd=>DK d (.int a)) else (ns.map CO).any λd=>DK d (.int a)))) else none)=_
 rw[nP,if_pos];unfold okIn;rw[mX];rfl
end PA
end
section
namespace PS
open PySem L2 VL PA PQ
section
variable{n md mo:Int}{ρ:Ev}(h0:0<=n)(hn:n<=24)(m0:0<=md)(m1:md<7)
include h0 hn m0 m1
end
end PS
end
section
open PySem L2 VL
end
section
namespace PQ
open PySem L2 VL PA
theorem ci:∀(ns:List Int),CU (ns.map .int)=true
 |[]=>rfl
 |n::ns=>by show (Ez (.int n) && CU (ns.map .int))=true; rw[ci ns]; rfl
theorem iK{ft:FT}{fe:FE}{cs:Ev}{p:Int->Bool}{f:Int->AT}:∀(ns:List Int)(acc:List AT)(x:Option M),(∀n∈ns,ft (some (.v (.int n))::cs)=some (p n,some (.v (.int n))::cs)/\∃o,fe (some (.v (.int n))::cs)=some (o,some (.v (.int n))::cs)/\cu o (some (.v (.int n))::cs)=some (f n,some (.v (.int n))::cs))->acc.length+ns.length<=lim ->
  ∃y,cK (af 0) ft fe (ns.map .int) (x::cs) acc=some (acc++(ns.filter p).map f,y::cs):=by
 intro ns
 induction ns with
 |nil=>
  intro acc x _ _;exact⟨x,by simp[cK]⟩
 |cons n ns ih=>
  intro acc x h hl;obtain⟨e0,o,e1,e2⟩:=h n lS;rw[BM] at hl;have hg:af 0 (.int n) (x::cs)=some (some (.v (.int n))::cs):=by simp
  by_cases hp:p n=true
  ·obtain⟨y,e3⟩:=ih (acc++[f n]) (some (.v (.int n))) (λd hd=>h d (lO _ hd)) (by rw[C4,EI]; lia)
   refine⟨y,?_⟩;rw[El,if_pos hp,CC];show (af 0 (.int n) (x::cs)).bind _=_;rw[hg];show (ft (some (.v (.int n))::cs)).bind _=_;rw[e0,hp];show (fe (some (.v (.int n))::cs)).bind _=_;rw[e1];show (cu o (some (.v (.int n))::cs)).bind _=_;rw[e2];show (if acc.length<lim then _ else _)=_
   rw[if_pos (by lia)]
   rw[show cK (af 0) ft fe (ns.map .int) (some (.v (.int n))::cs) (acc++[f n])=_ from e3,CC,C8]
   rfl
  ·have hp':p n=false:=by simpa using hp
   obtain⟨y,e3⟩:=ih acc (some (.v (.int n))) (λd hd=>h d (lO _ hd)) (by lia)
   refine⟨y,?_⟩;rw[El,if_neg hp];show (af 0 (.int n) (x::cs)).bind _=_;rw[hg];show (ft (some (.v (.int n))::cs)).bind _=_;rw[e0,hp'];exact e3
theorem eq_nil(neg:Bool)(ns:List Int):gK neg (.lst (ns.map .int)) (.lst [])=some (.v (.bool (if neg then !ns.isEmpty else ns.isEmpty))):=by
 rw[AH];have ok:rj (.list (ns.map .int)) (.list [])=true:=by
  unfold rj;rw[show Ez (.list (ns.map .int))=true from ci ns,show Ez (.list [])=true from rfl,decide_eq_true (show min (Ia (.list (ns.map .int))) (Ia (.list []))<=60 from DB (IT _ _) (by decide))]
  rfl
 simp only[xF,DI,ok,if_true];cases ns with
 |nil=>rfl
 |cons n ns=>rfl
theorem l6(ns:List Int)(a:Int):((ns.map CO).any λd=>DK d (.int a))=decide (a∈ns):=by
 rw[Gz]
 induction ns with
 |nil=>simp
 |cons m ns ih=>
  rw[DG,ih];show ((m == a) || _)=_
  by_cases h:m=a
  ·simp[h]
  ·simp[h,Dx h]
theorem in_tI(neg:Bool)(ns:List Int)(a:Int):ic neg (.v (.int a)) (.v (tI ns))=some (.v (.bool (if neg then !decide (a∈ns) else decide (a∈ns)))):=by
 show (if okIn (ns.map .int) (.int a)=true then some (M.v (.bool (if neg then !((ns.map CO).any λd=>DK d (.int a)) else (ns.map CO).any λd=>DK d (.int a)))) else none)=_
 rw[l6,if_pos];unfold okIn;rw[ci];rfl
end PQ
end
section
namespace PS
open PySem L2 VL PA PQ
end PS
end
section
namespace PN
open PySem L2 VL PA
theorem kR{fg:FG}{ft:FT}{fk fv:FE}{P:List AT->M->Ev->Prop}:∀(ds:List AT)(ρ:Ev)(acc:M),P ds acc ρ ->
  (∀d ds acc ρ,P (d::ds) acc ρ->∃ρ1 ρ2 kd k ρ3 o ρ4 acc' ρ5,fg d ρ=some ρ1/\ft ρ1=some (true,ρ2)/\fk ρ2=some (.t (.v kd),ρ3)/\c5 kd=some k/\fv ρ3=some (o,ρ4)/\uq k acc o ρ4=some (acc',ρ5)/\P ds acc' ρ5)->∃acc' ρ',iJ fg ft fk fv ds ρ acc=some (acc',ρ')/\P [] acc' ρ':=by
 intro ds
 induction ds with
 |nil=>
  intro ρ acc h _;exact⟨acc,ρ,rfl,h⟩
 |cons d ds ih=>
  intro ρ acc h step;obtain⟨ρ1,ρ2,kd,k,ρ3,o,ρ4,acc1,ρ5,e1,e2,e3,e4,e5,e6,h2⟩:=step d ds acc ρ h;obtain⟨acc',ρ',e7,h7⟩:=ih ρ5 acc1 h2 step;refine⟨acc',ρ',?_,h7⟩;show (fg d ρ).bind _=_;rw[e1];show (ft ρ1).bind _=_;rw[e2];show (fk ρ2).bind _=_;rw[e3];show (c5 kd).bind _=_;rw[e4];show (fv ρ3).bind _=_;rw[e5];show (uq k acc o ρ4).bind _=_;rw[e6];exact e7
noncomputable def dl(ps:List Int)(φ:Int->List Int):List (Key×List AT):=ps.map λp=>(.inl p,(φ p).map .int)
noncomputable def dd(ps:List Int)(φ:Int->List Int):List (Key×AT):=ps.map λp=>(.inl p,tI (φ p))
theorem cG{α:Type}(f:Int->α):∀{ps:List Int}{p:Int},p∈ps->bu (ps.map λp=>((.inl p:Key),f p)) (.inl p)=some (f p)
 |[],p,h=>by cases h
 |q::ps,p,h=>by
  unfold bu;rw[CC,D0]
  by_cases e:q=p
  ·subst e; simp
  ·have hm:p∈ps:=by
    rcases lK h with h | h
    ·exact absurd h.symm e
    ·exact h
   have:decide ((EC q:Key)=.inl p)=false:=decide_eq_false λz=>e (Es z)
   simp only[this];exact cG f hm
theorem xS(ps:List Int)(φ:Int->List Int)(a b:Int):putL (dl ps φ) (.inl a) (.int b)=dl ps (λp=>if p=a then φ p++[b] else φ p):=by
 unfold putL dl;rw[EA];refine E5 λp _=>?_
 by_cases e:p=a
 ·subst e; simp
 ·have:¬ (EC p:Key)=.inl a:=λz=>e (Es z)
  simp[e,this]
theorem l7{α:Type}(f:Int->α)(ps:List Int)(p:Int):((ps.map λp=>((.inl p:Key),f p)).any λkv=>decide (kv.1=.inl p))=decide (p∈ps):=by
 rw[Gz]
 induction ps with
 |nil=>simp
 |cons q ps ih=>
  rw[DG,ih]
  by_cases e:q=p
  ·subst e; simp
  ·have:¬ (EC q:Key)=.inl p:=λz=>e (Es z)
   have e':¬p=q:=λz=>e z.symm
   simp[this,e']
theorem xT{α:Type}(f:Int->α){ps:List Int}(h:ps.Nodup):((ps.map λp=>((.inl p:Key),f p)).map (·.1)).Nodup:=by
 rw[EA];refine Ee.mpr (h.imp λ{a b}hab z=>hab (Es z))
noncomputable def nb(ts:List (Int×Int))(p:Int):List Int:=ts.flatMap λt=>(if p=t.1 then [t.2] else [])++(if p=t.2 then [t.1] else [])
theorem xU(ts:List (Int×Int))(t:Int×Int)(p:Int):nb (ts++[t]) p=nb ts p++((if p=t.1 then [t.2] else [])++(if p=t.2 then [t.1] else [])):=by
 unfold nb;rw[List.flatMap_append];simp
theorem pI{ts:List (Int×Int)}(h:∀t∈ts,t.1<t.2)(p:Int):(nb ts p).length<=ts.length:=by
 induction ts with
 |nil=>exact C1 _
 |cons t ts ih=>
  have h1:=ih λu hu=>h u (lO _ hu)
  have h2:=h t lS;have e:nb (t::ts) p=((if p=t.1 then [t.2] else [])++(if p=t.2 then [t.1] else []))++nb ts p:=by
   unfold nb; rw[List.flatMap_cons]
  rw[e,C4,BM];have:((if p=t.1 then [t.2] else [])++(if p=t.2 then [t.1] else [])).length<=1:=by
   by_cases a:p=t.1
   ·rw[if_pos a,if_neg (by lia)]; simp
   ·rw[if_neg a]; split <;> simp
  lia
theorem AL{ts:List (Int×Int)}{p q:Int}:q∈nb ts p↔(p,q)∈ts\/(q,p)∈ts:=by
 unfold nb;rw[List.mem_flatMap];constructor
 ·rintro⟨t,ht,hq⟩
  rcases lM hq with hq | hq
  ·split at hq
   ·next e=>rw[B1] at hq; rw[e,hq]; exact .inl ht
   ·cases hq
  ·split at hq
   ·next e=>rw[B1] at hq; rw[e,hq]; exact .inr ht
   ·cases hq
 ·rintro (h | h)
  ·exact⟨_,h,lL _ (by simp)⟩
  ·exact⟨_,h,lR _ (by simp)⟩
noncomputable abbrev Cq:FS:=aH (cB (jF 3 (cZ 4) (cZ 5))) (cB (jF 3 (cZ 5) (cZ 4)))
theorem appQ{ρ:Ev}{i:Nat}{ps:List Int}{φ:Int->List Int}{a b:Int}{fk fd:Ev->Option AT}(h3:bG ρ i=some (.bz (dl ps φ)))(ha:fk ρ=some (.int a))(hb:fd ρ=some (.int b))(hm:a∈ps)(hl:(φ a).length<1000)(nd:ps.Nodup):jF i fk fd ρ=some (.t (.v .none),ρ.set i (some (.bz (dl ps λp=>if p=a then φ p++[b] else φ p)))):=by
 show (bG ρ i).bind _=_;rw[h3];show (fk ρ).bind _=_;rw[ha];show (bu (dl ps φ) (.inl a)).bind _=_;rw[show bu (dl ps φ) (.inl a)=some ((φ a).map .int) from cG _ hm]
 show (fd ρ).bind _=_;rw[hb];show (if _/\_ then _ else _)=_
 rw[if_pos ⟨by rw[C0]; unfold lim; lia,xT _ nd⟩,xS]
theorem nears{ps:List Int}{ts:List (Int×Int)}(nd:ps.Nodup)(he:∀t∈ts,t.1∈ps/\t.2∈ps/\t.1<t.2)(hp:ps.length<=1000)(ht:ts.length<=63):FF.eY [.v (wD ps ts)]=some (.aI (dd ps λp=>sortI (nb ts p)),[.v (wD ps ts)]):=by
 obtain⟨acc1,ρ1,c1,dn1,rs1,x1,a1,a2,a3,rfl⟩:=kR (fg:=af 0) (ft:=jD) (fk:=aa 0) (fv:=iC iI) (P:=λrest acc ρ=>∃ (dn rs:List Int) (x:Option M),rest=rs.map .int/\dn++rs=ps/\acc=.bz (dl dn λ_=>[])/\ρ=[x]) (ps.map .int) [none] (.bz []) ⟨[],ps,none,rfl,rfl,rfl,rfl⟩ (λd rest acc ρ hP=>by
  obtain⟨dn,rs,x,h1,h2,rfl,rfl⟩:=hP;cases rs with
  |nil=>cases h1
  |cons r rs=>
   obtain⟨rfl,rfl⟩:=CW h1;have hr:r∉dn:=λz=>by
    rw[<-h2,C2] at nd;exact nd.2.2 r z r lS rfl
   have hlen:dn.length+(rs.length+1)=ps.length:=by rw[<-h2,C4,BM]
   refine⟨[some (.v (.int r))],[some (.v (.int r))],.int r,.inl r,[some (.v (.int r))],.t (.lst []),[some (.v (.int r))],.bz (dl (dn++[r]) λ_=>[]),[some (.v (.int r))],by simp,rfl,by simp,rfl,by simp[lim],?_,dn++[r],rs,_,rfl,by rw[C8]; exact h2,rfl,rfl⟩
   show (if _/\_ then _ else _)=_
   rw[if_pos ⟨by rw[show dl dn (λ_=>[])=dn.map λp=>((.inl p:Key),(([]:List Int).map CO)) from rfl,l7]; exact decide_eq_false hr,by unfold dl; rw[C0]; unfold lim; lia⟩]
   unfold dl;rw[E6];rfl)
 have:rs1=[]:=by cases rs1 with | nil=>rfl | cons _ _=>cases a1
 subst this;rw[Bn] at a2;subst a2;subst a3;obtain⟨ρ2,c2,dn,rs,x4,x5,b1,b2,rfl⟩:=cU (fg:=bC 2 (aA (af 4) (aA (af 5) bE))) (fb:=Cq) (P:=λrest ρ=>∃ (dn rs:List (Int×Int)) (x4 x5:Option M),rest=rs.map pD/\dn++rs=ts/\ρ=[some (.v (wD dn1 ts)),some (.v (tI dn1)),some (.v (tD ts)),some (.bz (dl dn1 (nb dn))),x4,x5])
  (ts.map pD) [some (.v (wD dn1 ts)),some (.v (tI dn1)),some (.v (tD ts)),some (.bz (dl dn1 λ_=>[])),none,none] ⟨[],ts,none,none,rfl,rfl,rfl⟩ (λd rest ρ hP=>by
   obtain⟨dn,rs,x4,x5,h1,h2,rfl⟩:=hP;cases rs with
   |nil=>cases h1
   |cons t rs=>
    obtain⟨rfl,rfl⟩:=CW h1;have hlen:dn.length+(rs.length+1)=ts.length:=by rw[<-h2,C4,BM]
    have hte:=he t (by rw[<-h2]; simp)
    have hdn:∀u∈dn,u.1<u.2:=λu hu=>(he u (by rw[<-h2]; exact lL _ hu)).2.2
    have n1:=pI hdn;refine⟨[some (.v (wD dn1 ts)),some (.v (tI dn1)),some (.v (tD ts)),some (.bz (dl dn1 (nb dn))),some (.v (.int t.1)),some (.v (.int t.2))],[some (.v (wD dn1 ts)),some (.v (tI dn1)),some (.v (tD ts)),some (.bz (dl dn1 (nb (dn++[t])))),some (.v (.int t.1)),some (.v (.int t.2))],by simp,?_,dn++[t],rs,_,_,rfl,by rw[C8]; exact h2,rfl⟩
    have q1:=appQ (ρ:=[some (.v (wD dn1 ts)),some (.v (tI dn1)),some (.v (tD ts)),some (.bz (dl dn1 (nb dn))),some (.v (.int t.1)),some (.v (.int t.2))]) (i:=3) (fk:=cZ 4) (fd:=cZ 5) rfl rfl rfl hte.1 (by have:=n1 t.1; lia) nd
    have q2:=appQ (ρ:=[some (.v (wD dn1 ts)),some (.v (tI dn1)),some (.v (tD ts)),some (.bz (dl dn1 λp=>if p=t.1 then nb dn p++[t.2] else nb dn p)),some (.v (.int t.1)),some (.v (.int t.2))]) (i:=3) (fk:=cZ 5) (fd:=cZ 4) rfl rfl rfl hte.2.1 (by
     have:=n1 t.2;rw[if_neg (by lia)]
     lia) nd
    have hφ:(λp=>if p=t.2 then (if p=t.1 then nb dn p++[t.2] else nb dn p)++[t.1] else (if p=t.1 then nb dn p++[t.2] else nb dn p))=nb (dn++[t]):=by
     funext p
     rw[xU];have hlt:=hte.2.2
     by_cases e1:p=t.1
     ·have e2:¬p=t.2:=by lia
      rw[if_neg e2,if_pos e1,if_pos e1,if_neg e2,Bn]
     ·by_cases e2:p=t.2
      ·rw[if_pos e2,if_neg e1,if_neg e1,if_pos e2,DH]
      ·rw[if_neg e2,if_neg e1,if_neg e1,if_neg e2,Bn,Bn]
    rw[hφ] at q2;show aH _ _ _=_;refine(ao (ρ1:=[some (.v (wD dn1 ts)),some (.v (tI dn1)),some (.v (tD ts)),some (.bz (dl dn1 λp=>if p=t.1 then nb dn p++[t.2] else nb dn p)),some (.v (.int t.1)),some (.v (.int t.2))]) ?_).trans ?_
    ·rw[nH,q1]; rfl
    ·rw[nH,q2]; rfl)
 have:rs=[]:=by cases rs with | nil=>rfl | cons _ _=>cases b1
 subst this;rw[Bn] at b2;subst b2;obtain⟨acc3,ρ3,c3,dn3,rs3,x3,d1,d2,d3,rfl⟩:=kR (fg:=af 0) (ft:=jD) (fk:=aa 0) (fv:=dY iP (ai (dY jz (ai (dZ (aa 1) (aa 0)))))) (P:=λrest acc ρ=>∃ (dn3 rs:List Int) (x:Option M),rest=rs.map .int/\dn3++rs=dn1/\acc=.aI (dd dn3 λp=>sortI (nb dn p))/\ρ=[x,some (.bz (dl dn1 (nb dn)))]) (dn1.map .int) [none,some (.bz (dl dn1 (nb dn)))] (.aI []) ⟨[],dn1,none,rfl,rfl,rfl,rfl⟩ (λd rest acc ρ hP=>by
  obtain⟨dn3,rs,x,h1,h2,rfl,rfl⟩:=hP;cases rs with
  |nil=>cases h1
  |cons r rs=>
   obtain⟨rfl,rfl⟩:=CW h1;have hr:r∉dn3:=λz=>by
    rw[<-h2,C2] at nd;exact nd.2.2 r z r lS rfl
   have hrm:r∈dn1:=by rw[<-h2]; simp
   have hlen:dn3.length+(rs.length+1)=dn1.length:=by rw[<-h2,C4,BM]
   have hn:=pI (λu hu=>(he u hu).2.2) r
   have hk:bu (dl dn1 (nb dn)) (.inl r)=some ((nb dn r).map .int):=cG _ hrm;have hsort:jz [.lst ((nb dn r).map .int)]=some (.lst ((sortI (nb dn r)).map .int)):=by
    show (kJ ((nb dn r).map .int)).bind _=_;unfold kJ;rw[if_pos (by rw[C0]; lia),fX]
    rfl
   refine⟨[some (.v (.int r)),some (.bz (dl dn1 (nb dn)))],[some (.v (.int r)),some (.bz (dl dn1 (nb dn)))],.int r,.inl r,[some (.v (.int r)),some (.bz (dl dn1 (nb dn)))],.t (.v (tI (sortI (nb dn r)))),[some (.v (.int r)),some (.bz (dl dn1 (nb dn)))],.aI (dd (dn3++[r]) λp=>sortI (nb dn p)),[some (.v (.int r)),some (.bz (dl dn1 (nb dn)))],by simp,rfl,by simp,rfl,?_,?_,dn3++[r],rs,_,rfl,by rw[C8]; exact h2,rfl,rfl⟩
   ·have hpk:peek [some (.v (.int r)),some (.bz (dl dn1 (nb dn)))] (.q 1 (.inl r))=some (.lst ((nb dn r).map .int)):=by
     show (bu (dl dn1 (nb dn)) (.inl r)).map M.lst=_;rw[hk]; rfl
    simp[hk,hpk,hsort,tI]
   ·show (if _ then _ else _)=_
    rw[if_pos (by unfold dd; rw[C0]; unfold lim; lia)]
    show some (M.aI (putD (dd dn3 λp=>sortI (nb dn p)) (.inl r) (tI (sortI (nb dn r)))),_)=_
    unfold putD;rw[if_neg (by rw[show dd dn3 (λp=>sortI (nb dn p))=dn3.map λp=>((.inl p:Key),tI (sortI (nb dn p))) from rfl,l7]; simpa using hr)]
    unfold dd;rw[E6];rfl)
 have:rs3=[]:=by cases rs3 with | nil=>rfl | cons _ _=>cases d1
 subst this;rw[Bn] at d2;subst d2;subst d3;refine bg (ρ:=[some (.v (wD dn3 dn)),some (.v (tI dn3)),some (.v (tD dn)),some (.bz (dl dn3 (nb dn))),x4,x5]) rfl ?_ rfl;show FF.eX [some (.v (wD dn3 dn)),none,none,none,none,none]=_;refine(ao (ρ1:=[some (.v (wD dn3 dn)),some (.v (tI dn3)),some (.v (tD dn)),none,none,none]) (by simp)).trans ?_
 refine(ao (ρ1:=[some (.v (wD dn3 dn)),some (.v (tI dn3)),some (.v (tD dn)),some (.bz (dl dn3 λ_=>[])),none,none]) (by simp[tI,c1])).trans ?_
 refine(ao (ρ1:=[some (.v (wD dn3 dn)),some (.v (tI dn3)),some (.v (tD dn)),some (.bz (dl dn3 (nb dn))),x4,x5]) (by simp[tI]; simpa[tI] using c2)).trans ?_
 simp[tI,c3]
end PN
end
section
open PySem L2 VL
end
section
namespace PA
open PySem L2 VL
end PA
end
section
namespace PS
open PySem L2 VL PA PQ PN
theorem rK{fc:FT}{fb:FS}{P:Nat->Ev->Prop}{Q:Ev->Prop}(step:∀m ρ,P m ρ->(∃ρ1,fc ρ=some (false,ρ1)/\Q ρ1)\/∃ρ1 ρ2 m',fc ρ=some (true,ρ1)/\fb ρ1=some (.nx ρ2)/\m'<m/\P m' ρ2) :
  ∀(N n:Nat)(ρ:Ev),P n ρ->n<N->∃ρ',gE fc fb N ρ=some (.nx ρ')/\Q ρ':=by
 intro N
 induction N with
 |zero=>
  intro n ρ _ h;exact absurd h (FC _)
 |succ N ih=>
  intro n ρ hP h;rcases step n ρ hP with⟨ρ1,e1,q⟩ | ⟨ρ1,ρ2,m',e1,e2,hm,h2⟩
  ·refine⟨ρ1,?_,q⟩
   show (fc ρ).bind _=_;rw[e1];rfl
  ·obtain⟨ρ',e3,q⟩:=ih m' ρ2 h2 (by lia)
   refine⟨ρ',?_,q⟩;show (fc ρ).bind _=_;rw[e1,DI];show (if true=true then _ else _)=_
   rw[if_pos rfl,e2];exact e3
theorem gI{fc:FT}{fb:FS}{P:Nat->Ev->Prop}{Q:Ev->Prop}(step:∀m ρ,P m ρ->(∃ρ1,fc ρ=some (false,ρ1)/\Q ρ1)\/∃ρ1 ρ2 m',fc ρ=some (true,ρ1)/\fb ρ1=some (.nx ρ2)/\m'<m/\P m' ρ2)
  (N n:Nat) (ρ:Ev) (h:P n ρ) (hn:n<N):∃ρ',fM N fc fb ρ=some (.nx ρ')/\Q ρ':=rK step N n ρ h hn
def rL(ts:List (Int×Int))(p q:Int):Prop:=(p,q)∈ts\/(q,p)∈ts
inductive fR(ts:List (Int×Int))(fs:List Int)(p:Int):Int->Prop
 |base:fR ts fs p p
 |step {q r:Int}:fR ts fs p q->rL ts q r->r∈fs->fR ts fs p r
theorem fR.or{ts:List (Int×Int)}{fs:List Int}{p q:Int}(h:fR ts fs p q):q=p\/q∈fs:=by
 cases h with
 |base=>exact .inl rfl
 |step _ _ h=>exact .inr h
noncomputable def gd(g:Int->Int)(W:List Int):List (Key×AT):=W.map λx=>(.inl x,.int (g x))
theorem xV(g:Int->Int)(W:List Int){r:Int}(v:Int)(h:r∉W):putD (gd g W) (.inl r) (.int v)=gd (λx=>if x=r then v else g x) (W++[r]):=by
 unfold putD gd;rw[if_neg (by rw[l7]; simpa using h),E6]
 congr 1
 ·refine E5 λx hx=>?_
  have:x≠r:=λe=>h (e▸hx)
  simp[this]
 ·simp
theorem qz(g:Int->Int)(W:List Int)(r:Int):(bu (gd g W) (.inl r)).isSome=decide (r∈W):=by
 by_cases h:r∈W
 ·rw[show bu (gd g W) (.inl r)=some (.int (g r)) from cG _ h]
  simp[h]
 ·have:bu (gd g W) (.inl r)=none:=by
   unfold bu gd;rw[Option.map_eq_none_iff,List.find?_eq_none];intro x hx;obtain⟨y,hy,rfl⟩:=EQ.mp hx;have:y≠r:=λe=>h (e▸hy)
   simpa using this
  rw[this];simp[h]
theorem len_sub:∀{l m:List Int},l.Nodup->(∀x∈l,x∈m)->l.length<=m.length
 |[],m,_,_=>DR _
 |a::l,m,h,s=>by
  have h':=CJ.mp h;have ha:=s a lS;have:=len_sub (l:=l) (m:=m.erase a) h'.2 λx hx=>(HQ (λe:x=a=>h'.1 (e▸hx))).mpr (s x (lO _ hx))
  rw[Gp ha] at this;have:=List.length_pos_of_mem ha;rw[BM];lia
section
variable{ps fs:List Int}{ts:List (Int×Int)}{p:Int}{φ:Int->List Int}
noncomputable abbrev Bg:FS:=cA (ff (aL (vB (ic false) (aa 7) (aa 1))) (aL (vB (ic true) (aa 7) (aa 3)))) (aH (rF 3 (aa 7) (vB cY (dZ (aa 3) (aa 6)) (vC (.int 1)))) (cB (gY 4 (ai (aa 7))))) aW
noncomputable abbrev Cr:FS:=aH (bA 6 (dZ (aa 4) (aa 5)))
 (aH (t9 5 (eg (λ_ _=>true) λi j=>.int (i+j)) (vC (.int 1)))
 (cJ (aP (dZ (aa 0) (aa 6))) (af 7) Bg))
theorem uQ(g:Int->Int)(W:List Int)(r:Int):ic true (.v (.int r)) (.aI (gd g W))=some (.v (.bool (!decide (r∈W)))):=by
 have h:ic true (.v (.int r)) (.aI (gd g W))=some (.v (.bool (!(bu (gd g W) (.inl r)).isSome))):=rfl;rw[h,qz]
structure Gd(ts:List (Int×Int))(fs:List Int)(p:Int)(g:Int->Int)(W:List Int):Prop where
 nd:W.Nodup
 rc:∀x∈W,fR ts fs p x
 st:p∈W
 ds:∀x∈W,x=p\/(1<=g x/\∃y∈W,rL ts y x/\g y=g x-1)
 g0:∀x∈W,0<=g x/\g x<W.length
theorem Gd.len{g:Int->Int}{W:List Int}(h:Gd ts fs p g W)(hp:p∈fs):W.length<=fs.length:=len_sub h.nd λx hx=>(h.rc x hx).or.elim (λe=>e▸hp) id
theorem sf_in{W0:List Int}{g0:Int->Int}{a1 c:Int}{B:M}{x7:Option M}(hφ:∀q r,r∈φ q↔rL ts q r)(hp:p∈fs)(hf:fs.length<=1000)(h0:Gd ts fs p g0 W0)(hc:c∈W0):∃ (W:List Int) (g:Int->Int) (x7':Option M),
  Gd ts fs p g W/\(∃m,W=W0++m)/\(∀d,rL ts c d->d∈fs->d∈W)/\forL (af 7) Bg ((φ c).map .int) [some B,some (.v (tI fs)),some (.v (.int p)),some (.aI (gd g0 W0)),some (.lst (W0.map .int)),some (.v (.int a1)),some (.v (.int c)),x7]=some (.nx [some B,some (.v (tI fs)),some (.v (.int p)),some (.aI (gd g W)),some (.lst (W.map .int)),some (.v (.int a1)),some (.v (.int c)),x7']):=by
 obtain⟨ρ',e,dn,rs,g,W,y7,h1,h2,h3,h4,h5,rfl⟩:=cU (fg:=af 7) (fb:=Bg) (P:=λrest ρ=>∃ (dn rs:List Int) (g:Int->Int) (W:List Int) (y7:Option M),rest=rs.map .int/\dn++rs=φ c/\Gd ts fs p g W/\(∃m,W=W0++m)/\(∀d∈dn,d∈fs->d∈W)/\ρ=[some B,some (.v (tI fs)),some (.v (.int p)),some (.aI (gd g W)),some (.lst (W.map .int)),some (.v (.int a1)),some (.v (.int c)),y7])
  ((φ c).map .int) [some B,some (.v (tI fs)),some (.v (.int p)),some (.aI (gd g0 W0)),some (.lst (W0.map .int)),some (.v (.int a1)),some (.v (.int c)),x7] ⟨[],φ c,g0,W0,x7,rfl,rfl,h0,⟨[],(Bn _).symm⟩,λd hd=>(nomatch hd),rfl⟩ (λd rest ρ hP=>by
   obtain⟨dn,rs,g,W,y7,h1,h2,h3,⟨m,h4⟩,h5,rfl⟩:=hP;cases rs with
   |nil=>cases h1
   |cons r rs=>
    obtain⟨rfl,rfl⟩:=CW h1;have i1:=in_tI false fs r;have i2:=uQ g W r;have hcW:c∈W:=by rw[h4]; exact lL _ hc
    have hk:bu (gd g W) (.inl c)=some (.int (g c)):=cG _ hcW;have hl:=h3.len hp
    by_cases c1:r∈fs/\r∉W
    ·refine⟨[some B,some (.v (tI fs)),some (.v (.int p)),some (.aI (gd g W)),some (.lst (W.map .int)),some (.v (.int a1)),some (.v (.int c)),some (.v (.int r))],[some B,some (.v (tI fs)),some (.v (.int p)),some (.aI (gd (λx=>if x=r then g c+1 else g x) (W++[r]))),some (.lst ((W++[r]).map .int)),some (.v (.int a1)),some (.v (.int c)),some (.v (.int r))],by simp,?_,dn++[r],rs,_,W++[r],_,rfl,by rw[C8]; exact h2,⟨?_,?_,lL _ h3.st,?_,?_⟩,⟨m++[r],by rw[h4,C8]⟩,?_,rfl⟩
     ·have q:=xV g W (g c+1) c1.2
      have hgl:(gd g W).length<1000000:=by unfold gd; rw[C0]; lia
      have hwl:W.length<1000000:=by lia
      simp at i1 i2;have hkd:c5 (.int r)=some (.inl r):=rfl;have hkc:c5 (.int c)=some (.inl c):=rfl;simp[Bg,i1,i2,c1.1,c1.2,hk,hkd,hkc,q,hgl,hwl,lim]
     ·exact C2.mpr ⟨h3.nd,by simp,λa ha b hb e=>c1.2 (by simp at hb; rw[<-hb,<-e]; exact ha)⟩
     ·intro x hx
      rcases lM hx with hx | hx
      ·exact h3.rc x hx
      ·rw[B1] at hx
       subst hx;exact .step (h3.rc c hcW) ((hφ c x).mp (by rw[<-h2]; simp)) c1.1
     ·intro x hx
      have hcr:c≠r:=λe=>c1.2 (e▸hcW)
      rcases lM hx with hx | hx
      ·have hxr:x≠r:=λe=>c1.2 (e▸hx)
       refine(h3.ds x hx).imp id λ⟨z1,y,z2,z3,z4⟩=>⟨by rw[if_neg hxr]; exact z1,y,lL _ z2,z3,?_⟩
       have hyr:y≠r:=λe=>c1.2 (e▸z2)
       rw[if_neg hxr,if_neg hyr]; exact z4
      ·rw[B1] at hx
       subst hx;have:=(h3.g0 c hcW).1;exact .inr ⟨by rw[if_pos rfl]; lia,c,lL _ hcW,(hφ c x).mp (by rw[<-h2]; simp),by rw[if_pos rfl,if_neg hcr]; lia⟩
     ·intro x hx
      have hc0:=h3.g0 c hcW;rw[C4];rcases lM hx with hx | hx
      ·have hxr:x≠r:=λe=>c1.2 (e▸hx)
       have:=h3.g0 x hx;simp[hxr]; lia
      ·rw[B1] at hx
       subst hx;simp; lia
     ·intro d hd hdf
      rcases lM hd with hd | hd
      ·exact lL _ (h5 d hd hdf)
      ·exact lR _ hd
    ·refine⟨[some B,some (.v (tI fs)),some (.v (.int p)),some (.aI (gd g W)),some (.lst (W.map .int)),some (.v (.int a1)),some (.v (.int c)),some (.v (.int r))],[some B,some (.v (tI fs)),some (.v (.int p)),some (.aI (gd g W)),some (.lst (W.map .int)),some (.v (.int a1)),some (.v (.int c)),some (.v (.int r))],by simp,?_,dn++[r],rs,g,W,_,rfl,by rw[C8]; exact h2,h3,⟨m,h4⟩,?_,rfl⟩
     ·simp at i1 i2
      by_cases c2:r∈fs
      ·have c3:r∈W:=Db λz=>c1 ⟨c2,z⟩
       simp[Bg,i1,i2,c2,c3]
      ·simp[Bg,i1,c2]
     ·intro d hd hdf
      rcases lM hd with hd | hd
      ·exact h5 d hd hdf
      ·rw[B1] at hd
       subst hd;exact Db λz=>c1 ⟨hdf,z⟩)
 have:rs=[]:=by cases rs with | nil=>rfl | cons _ _=>cases h1
 subst this;rw[Bn] at h2;subst h2;exact⟨W,g,y7,h3,h4,λd hd hf'=>h5 d ((hφ c d).mpr hd) hf',e⟩
end
theorem qA{W:List Int}{k:Nat}{c:Int}(h:W[k]? = some c):iS (W.map CO) (k:Int)=some (.int c):=by
 obtain⟨hk,e⟩:=CB.mp h;unfold iS oh;rw[C0];simp only[DF];rw[if_pos (by lia)]
 simp[hk,e]
section
variable{ps fs:List Int}{ts:List (Int×Int)}{p:Int}{φ:Int->List Int}
theorem nQ(hφ:∀q r,r∈φ q↔rL ts q r)(hp:p∈fs)(hs:∀x∈fs,x∈ps)(hf:fs.length<=1000):∃ (W:List Int) (g:Int->Int),Gd ts fs p g W/\(∀x,x∈W↔fR ts fs p x)/\FF.b6 [.aI (dd ps φ),.v (tI fs),.v (.int p)]=some (.aI (gd g W),[.aI (dd ps φ),.v (tI fs),.v (.int p)]):=by
 obtain⟨ρ',e,g,W,x5,x6,x7,h1,h2,rfl⟩:=gI (fc:=aL (vB AZ (aa 5) (dY dD (ai (aa 4))))) (fb:=Cr)
  (P:=λm ρ=>∃ (k:Nat) (g:Int->Int) (W:List Int) (x6 x7:Option M),m=fs.length-k/\k<=W.length/\Gd ts fs p g W/\(∀i x,i<k->W[i]? = some x->∀d,rL ts x d->d∈fs->d∈W)/\ρ=[some (.aI (dd ps φ)),some (.v (tI fs)),some (.v (.int p)),some (.aI (gd g W)),some (.lst (W.map .int)),some (.v (.int (k:Int))),x6,x7])
  (Q:=λρ=>∃ (g:Int->Int) (W:List Int) (x5 x6 x7:Option M),Gd ts fs p g W/\(∀x∈W,∀d,rL ts x d->d∈fs->d∈W)/\ρ=[some (.aI (dd ps φ)),some (.v (tI fs)),some (.v (.int p)),some (.aI (gd g W)),some (.lst (W.map .int)),x5,x6,x7])
  (λm ρ hP=>by
   obtain⟨k,g,W,x6,x7,rfl,hk,hG,hcl,rfl⟩:=hP
   by_cases c:k<W.length
   ·right
    have hl:=hG.len hp;have hx:W[k]? = some W[k]:=Dg c;have hxm:W[k]∈W:=IF c;generalize W[k]=x at hx hxm;obtain⟨W',g',x7',a1,⟨m,a2⟩,a3,a4⟩:=sf_in (B:=.aI (dd ps φ)) (g0:=g) (a1:=(k:Int)+1) (x7:=x7) hφ hp hf hG hxm;have hxp:x∈ps:=hs x ((hG.rc x hxm).or.elim (λe=>e▸hp) id)
    have hkx:bu (dd ps φ) (.inl x)=some (tI (φ x)):=cG _ hxp;have hat:=qA hx;refine⟨[some (.aI (dd ps φ)),some (.v (tI fs)),some (.v (.int p)),some (.aI (gd g W)),some (.lst (W.map .int)),some (.v (.int (k:Int))),x6,x7],[some (.aI (dd ps φ)),some (.v (tI fs)),some (.v (.int p)),some (.aI (gd g' W')),some (.lst (W'.map .int)),some (.v (.int ((k:Int)+1))),some (.v (.int x)),x7'],fs.length-(k+1),by simp; lia,?_,by lia,k+1,g',W',some (.v (.int x)),x7',rfl,by rw[a2,C4]; lia,a1,λi y hi hy d hd hdf=>?_,by simp⟩
    ·refine(ao (ρ1:=[some (.aI (dd ps φ)),some (.v (tI fs)),some (.v (.int p)),some (.aI (gd g W)),some (.lst (W.map .int)),some (.v (.int (k:Int))),some (.v (.int x)),x7]) (by simp[hat])).trans ?_
     refine(ao (ρ1:=[some (.aI (dd ps φ)),some (.v (tI fs)),some (.v (.int p)),some (.aI (gd g W)),some (.lst (W.map .int)),some (.v (.int ((k:Int)+1))),some (.v (.int x)),x7]) (by simp)).trans ?_
     have hkd:c5 (.int x)=some (.inl x):=rfl;unfold tI at a4 hkx ⊢;simp[hkd,hkx];simpa using a4
    ·rcases Nat.lt_or_ge i k with hik | hik
     ·have hy0:W[i]? = some y:=by
       rw[a2,E3 (by lia)] at hy
       exact hy
      have:=hcl i y hik hy0 d hd hdf;rw[a2];exact lL _ this
     ·have:i=k:=by lia
      subst this;rw[a2,E3 c,hx] at hy;cases hy;exact a3 d hd hdf
   ·left
    refine⟨[some (.aI (dd ps φ)),some (.v (tI fs)),some (.v (.int p)),some (.aI (gd g W)),some (.lst (W.map .int)),some (.v (.int (k:Int))),x6,x7],by simp; lia,g,W,some (.v (.int (k:Int))),x6,x7,hG,λx hx d hd hdf=>?_,rfl⟩
    obtain⟨i,hi,e⟩:=List.getElem_of_mem hx;exact hcl i x (by lia) (by rw[Dg hi,e]) d hd hdf)
  1000000 fs.length [some (.aI (dd ps φ)),some (.v (tI fs)),some (.v (.int p)),some (.aI (gd (λ_=>0) [p])),some (.lst ([p].map .int)),some (.v (.int 0)),none,none] ⟨0,_,[p],none,none,rfl,DR _,⟨by simp,λx hx=>by rw[B1] at hx; subst hx; exact .base,lS,λx hx=>.inl (B1.mp hx),λx hx=>by simp⟩,λi x hi=>absurd hi (FC _),rfl⟩ (by lia)
 refine⟨W,g,h1,λx=>⟨h1.rc x,λhx=>?_⟩,bg (ρ:=[some (.aI (dd ps φ)),some (.v (tI fs)),some (.v (.int p)),none,some (.lst (W.map .int)),x5,x6,x7]) rfl ?_ rfl⟩
 ·induction hx with
  |base=>exact h1.st
  |step _ ha hr ih=>exact h2 _ ih _ ha hr
 ·show FF.cE [some (.aI (dd ps φ)),some (.v (tI fs)),some (.v (.int p)),none,none,none,none,none]=_
  refine(ao (ρ1:=[some (.aI (dd ps φ)),some (.v (tI fs)),some (.v (.int p)),some (.aI (gd (λ_=>0) [p])),none,none,none,none]) ?_).trans ?_
  ·simp[gd]
   rfl
  refine(ao (ρ1:=[some (.aI (dd ps φ)),some (.v (tI fs)),some (.v (.int p)),some (.aI (gd (λ_=>0) [p])),some (.lst ([p].map .int)),none,none,none]) (by simp[lim])).trans ?_
  refine(ao (ρ1:=[some (.aI (dd ps φ)),some (.v (tI fs)),some (.v (.int p)),some (.aI (gd (λ_=>0) [p])),some (.lst ([p].map .int)),some (.v (.int 0)),none,none]) (by simp)).trans ?_
  refine(ao (ρ1:=[some (.aI (dd ps φ)),some (.v (tI fs)),some (.v (.int p)),some (.aI (gd g W)),some (.lst (W.map .int)),x5,x6,x7]) e).trans (by simp)
end
end PS
end
section
namespace PY
open PySem L2 VL PA PQ PN PS
noncomputable abbrev rD(ds:List Int)(sd tn:Int):M:=.dre (.inr "own") (ds.map .int) [(.inr "seed",.int sd),(.inr "turn",.int tn)]
def Rp(B:Nat)(m:M):Prop:=∃ (ds:List Int) (sd tn:Int),m=rD ds sd tn/\ds.length<=63/\(∀d∈ds,0<=d)/\0<=tn/\tn<=B
theorem sA:¬ (Da "own" = Da "turn"):=by decide
theorem sB:¬ (Da "seed" = Da "turn"):=by decide
section
variable{ds:List Int}{sd tn:Int}{ρ:Ev}{i:Nat}
theorem Cc(h:bG ρ i=some (rD ds sd tn)):pB i "own" ρ=some (.t (.v (.bool (!ds.isEmpty))),ρ):=by
 unfold pB rJ;rw[h];have:=eq_nil true ds;simp[rD,this]
theorem BW{d:Int}(h:bG ρ i=some (rD (d::ds) sd tn)):pC i "own" 0 ρ=some (.t (.v (.int d)),ρ):=by
 unfold pC rJ;rw[h];simp[rD,iS,oh]
theorem qpop{d:Int}(h:bG ρ i=some (rD (d::ds) sd tn)):jL i "own" 0 ρ=some (.t (.v (.int d)),ρ.set i (some (rD ds sd tn))):=by
 unfold jL;rw[h];simp[rD,Ge]
theorem sC:¬ (Da "own" = Da "seed"):=by decide
theorem rix1(h:bG ρ i=some (rD ds sd tn)):nM i "seed" ρ=some (.t (.v (.int sd)),ρ):=by
 unfold nM;rw[h];simp[rD,bu,sA,sB,sC,D0]
theorem rix2(h:bG ρ i=some (rD ds sd tn)):nM i "turn" ρ=some (.t (.v (.int tn)),ρ):=by
 unfold nM;rw[h];simp[rD,bu,sA,sB,sC,D0]
end
theorem take{B:Nat}{m:M}{n:Int}(h:Rp B m)(hB:B<=1000000)(hn:0<n)(hn2:n<1073741824):∃ (r:Int) (m':M),0<=r/\r<n/\Rp (B+1) m'/\FF.aM [m,.v (.int n)]=some (.v (.int r),[m',.v (.int n)]):=by
 obtain⟨ds,sd,tn,rfl,hl,h0,ht0,ht⟩:=h;obtain⟨ρ',e,ds',hl',h0',hd,rfl⟩:=gI (fc:=ff (aL (pB 0 "own")) (aL (vB (gK false) (pC 0 "own" 0) (vC (.int 0))))) (fb:=cB (jL 0 "own" 0))
  (P:=λk ρ=>∃ds':List Int,ds'.length=k/\ds'.length<=63/\(∀d∈ds',0<=d)/\ρ=[some (rD ds' sd tn),some (.v (.int n)),none,none,none])
  (Q:=λρ=>∃ds':List Int,ds'.length<=63/\(∀d∈ds',0<=d)/\(ds'=[]\/∃d r,ds'=d::r/\d≠0)/\ρ=[some (rD ds' sd tn),some (.v (.int n)),none,none,none])
  (λk ρ hP=>by
   obtain⟨ds',hk,hl',h0',rfl⟩:=hP;have q:=Cc (ρ:=[some (rD ds' sd tn),some (.v (.int n)),none,none,none]) (i:=0) rfl;cases ds' with
   |nil=>exact .inl ⟨_,by simp[q],[],hl',h0',.inl rfl,rfl⟩
   |cons d r=>
    have q2:=BW (ρ:=[some (rD (d::r) sd tn),some (.v (.int n)),none,none,none]) (i:=0) rfl
    by_cases hd:d=0
    ·subst hd
     have q3:=qpop (ρ:=[some (rD (0::r) sd tn),some (.v (.int n)),none,none,none]) (i:=0) rfl;exact .inr ⟨[some (rD (0::r) sd tn),some (.v (.int n)),none,none,none],[some (rD r sd tn),some (.v (.int n)),none,none,none],r.length,by simp[q,q2],by simp[q3],by rw[<-hk]; simp,r,rfl,by simp at hl'; lia,λd hd=>h0' d (lO _ hd),rfl⟩
    ·exact .inl ⟨_,by simp[q,q2,hd],d::r,hl',h0',.inr ⟨d,r,rfl,hd⟩,rfl⟩)
  1000000 ds.length [some (rD ds sd tn),some (.v (.int n)),none,none,none] ⟨ds,rfl,hl,h0,rfl⟩ (by lia)
 have q:=Cc (ρ:=[some (rD ds' sd tn),some (.v (.int n)),none,none,none]) (i:=0) rfl;rcases hd with rfl | ⟨d,r,rfl,hd⟩
 ·generalize hx:(sd+65537*(tn+1)*(tn+1)+11)*48271 % 2305843009213693921=x
  have hx':0<=x/\x<2305843009213693921:=by rw[<-hx]; constructor <;> lia
  generalize hy:x*(x % 1000003+99991*(tn+1)) % 2305843009213693907=y;have q1:=rix1 (ρ:=[some (rD [] sd (tn+1)),some (.v (.int n)),none,some (.v (.int (tn+1))),none]) (i:=0) rfl;have q2:=rix2 (ρ:=[some (rD [] sd tn),some (.v (.int n)),none,none,none]) (i:=0) rfl;refine⟨(y / 97+y / 1000033) % n,rD [] sd (tn+1),GT _ (by lia),I9 _ hn,⟨[],sd,tn+1,rfl,DR _,(λ_ h=>(nomatch h)),by lia,by lia⟩,bg (ρ:=[some (rD [] sd (tn+1)),some (.v (.int n)),none,some (.v (.int (tn+1))),some (.v (.int y))]) rfl ?_ rfl⟩
  show FF.b7 [some (rD ds sd tn),some (.v (.int n)),none,none,none]=_;refine(ao e).trans ?_;refine(ao (ρ1:=[some (rD [] sd tn),some (.v (.int n)),none,none,none]) (by simp[q])).trans ?_
  refine(ao (ρ1:=[some (rD [] sd tn),some (.v (.int n)),none,some (.v (.int (tn+1))),none]) (by simp[q2])).trans ?_
  refine(ao (ρ1:=[some (rD [] sd (tn+1)),some (.v (.int n)),none,some (.v (.int (tn+1))),none]) (by simp[uN,rD,putD,lim,sA,sB])).trans ?_
  have b1 : -18446744073709551616<tn+1/\tn+1<18446744073709551616:=by lia
  have b2 : -18446744073709551616<x/\x<18446744073709551616:=by lia
  refine(ao (ρ1:=[some (rD [] sd (tn+1)),some (.v (.int n)),none,some (.v (.int (tn+1))),some (.v (.int x))]) (by simp[q1,b1,hx])).trans ?_
  refine(ao (ρ1:=[some (rD [] sd (tn+1)),some (.v (.int n)),none,some (.v (.int (tn+1))),some (.v (.int y))]) (by simp[b1,b2,hy])).trans ?_
  simp[hn]
 ·have q2:=BW (ρ:=[some (rD (d::r) sd tn),some (.v (.int n)),none,none,none]) (i:=0) rfl
  have q3:=BW (ρ:=[some (rD (d::r) sd tn),some (.v (.int n)),some (.v (.int (d % n))),none,none]) (i:=0) rfl;refine⟨d % n,rD (d / n::r) sd tn,GT _ (by lia),I9 _ hn,⟨d / n::r,sd,tn,rfl,hl',λx hx=>?_,ht0,by lia⟩,bg (ρ:=[some (rD (d / n::r) sd tn),some (.v (.int n)),some (.v (.int (d % n))),none,none]) rfl ?_ rfl⟩
  ·rcases lK hx with hx | hx
   ·rw[hx]; exact Int.ediv_nonneg (h0' d lS) (ET hn)
   ·exact h0' x (lO _ hx)
  ·show FF.b7 [some (rD ds sd tn),some (.v (.int n)),none,none,none]=_
   refine(ao e).trans ?_;refine dX ?_;simp[q,q2,q3,hn,hn2,uM];simp[rD,oh]
noncomputable def c9:Nat->List Int->List AT
 |_,[]=>[]
 |k,p::ps=>.tuple [.int k,.int p]::c9 (k+1) ps
theorem jM:∀(ps:List Int)(k:Nat),List.zipWith (λ(k:Nat)y=>IZ [.int (k:Int),y]) (List.range' k ps.length) (ps.map .int)=c9 k ps
 |[],k=>rfl
 |p::ps,k=>by
  rw[BM,List.range'_succ,CC,List.zipWith_cons_cons,jM ps (k+1)];rfl
theorem gJ(ps:List Int):jB (ps.map .int)=c9 0 ps:=by
 unfold jB;rw[C0,List.range_eq_range'];exact jM ps 0
theorem kT:∀(ps:List Int)(k:Nat),(c9 k ps).length=ps.length
 |[],_=>rfl
 |p::ps,k=>by rw[c9,BM,BM,kT]
noncomputable abbrev potB:FS:=(aH (bA 2 (vB gc (vB cY (vB cY (vB cY (vB mulM (aa 2) (vC (.int 48271))) (vB gc (aa 5) (vC (.int 2305843009213693951)))) (vB mulM (vC (.int 7919)) (aa 4))) (vC (.int 5))) (vC (.int 2305843009213693951))))
 (cA (aL (vB BC (dY oV (ai (aa 5))) (vB jw (vC (.int 10)) (vC (.int 18))))) (cB (gY 3 (ai (vB gc (dY oV (ai (aa 5))) (aa 1))))) aW))
theorem Cs(ns:List Int)(hl:ns.length<=63):∃m,Rp 0 m/\FF.dm [.v (.list (ns.map .int))]=some (m,[.v (.list (ns.map .int))]):=by
 obtain⟨A,B,hA,e1,e2⟩:=PS.pows;have hA0:0<A/\A<2 ^ 200:=by rw[hA]; decide +kernel
 have pm:∀{x:Int}{n:Nat},0<x->x<2 ^ n->n<=1000->pq (.v (.int x)) (.v (.int A))=some (.v (.int (x*A)))/\0<x*A/\x*A<2 ^ (n+200):=λ{x n}h1 h2 h3=>by
  refine⟨xR (ET h1) (ET hA0.1) h2 hA0.2 (by lia),Int.mul_pos h1 hA0.1,?_⟩
  have t1:x*A<=x*2 ^ 200:=Int.mul_le_mul_of_nonneg_left (ET hA0.2) (ET h1);have t2:x*2 ^ 200<2 ^ n*2 ^ 200:=Int.mul_lt_mul_of_pos_right h2 (by decide)
  rw[Int.pow_add];lia
 obtain⟨m1,p1,b1⟩:=pm hA0.1 hA0.2 (by lia)
 obtain⟨m2,p2,b2⟩:=pm p1 b1 (by lia)
 obtain⟨m3,p3,b3⟩:=pm p2 b2 (by lia)
 obtain⟨m4,p4,b4⟩:=pm p3 b3 (by lia)
 generalize hF:A*A*A*A*A=W at m4 p4;obtain⟨ρ',e,own,sd,x4,x5,h1,h2,rfl⟩:=cU (fg:=bC 2 (aA (af 4) (aA (af 5) bE))) (fb:=potB) (P:=λrest ρ=>∃ (own:List Int) (sd:Int) (x4 x5:Option M),(own.length+rest.length<=63/\∃k rs,rest=c9 k rs)/\(∀d∈own,0<=d)/\ρ=[some (.v (.list (ns.map .int))),some (.v (.int W)),some (.v (.int sd)),some (.lst (own.map .int)),x4,x5]) (c9 0 ns) [some (.v (.list (ns.map .int))),some (.v (.int W)),some (.v (.int 23)),some (.lst []),none,none] ⟨[],23,none,none,⟨by rw[kT]; simpa using hl,0,ns,rfl⟩,(λ_ h=>(nomatch h)),rfl⟩ (λd rest ρ hP=>by
  obtain⟨own,sd,x4,x5,⟨hn,k,rs,hr⟩,h0,rfl⟩:=hP;cases rs with
  |nil=>cases hr
  |cons c rs=>
   obtain⟨rfl,rfl⟩:=CW hr;rw[BM] at hn;generalize hy:(sd*48271+c % 2305843009213693951+7919*(k:Int)+5) % 2305843009213693951=y;generalize ha:(if c<0 then -c else c)=a
   by_cases hb:B<=a
   ·refine⟨[some (.v (.list (ns.map .int))),some (.v (.int W)),some (.v (.int sd)),some (.lst (own.map .int)),some (.v (.int (k:Int))),some (.v (.int c))],[some (.v (.list (ns.map .int))),some (.v (.int W)),some (.v (.int y)),some (.lst ((own++[a % W]).map .int)),some (.v (.int (k:Int))),some (.v (.int c))],by simp,?_,own++[a % W],y,_,_,⟨by simp; lia,k+1,rs,rfl⟩,λd hd=>?_,rfl⟩
    ·have hol:own.length<1000000:=by lia
     simp[potB,hy,ha,e2,hb,p4,lim,hol]
    ·rcases lM hd with hd | hd
     ·exact h0 d hd
     ·rw[B1.mp hd]; exact GT _ (by lia)
   ·refine⟨[some (.v (.list (ns.map .int))),some (.v (.int W)),some (.v (.int sd)),some (.lst (own.map .int)),some (.v (.int (k:Int))),some (.v (.int c))],[some (.v (.list (ns.map .int))),some (.v (.int W)),some (.v (.int y)),some (.lst (own.map .int)),some (.v (.int (k:Int))),some (.v (.int c))],by simp,?_,own,y,_,_,⟨by lia,k+1,rs,rfl⟩,h0,rfl⟩
    simp[potB,hy,ha,e2,hb])
 refine⟨rD own sd 0,⟨own,sd,0,rfl,by simpa using h1.1,h2,by lia,by lia⟩,bg (ρ:=[some (.v (.list (ns.map .int))),some (.v (.int W)),some (.v (.int sd)),none,x4,x5]) rfl ?_ rfl⟩
 show FF.dF [some (.v (.list (ns.map .int))),none,none,none,none,none]=_;refine(ao (ρ1:=[some (.v (.list (ns.map .int))),some (.v (.int W)),none,none,none,none]) (by simp[e1,m1,m2,m3,m4,hF])).trans ?_
 refine(ao (ρ1:=[some (.v (.list (ns.map .int))),some (.v (.int W)),some (.v (.int 23)),some (.lst []),none,none]) (by simp[lim])).trans ?_
 refine(ao (ρ1:=[some (.v (.list (ns.map .int))),some (.v (.int W)),some (.v (.int sd)),some (.lst (own.map .int)),x4,x5]) ?_).trans ?_
 ·have hc:cutD (ns.map CO) none (some 63)=ns.map .int:=by
   rw[show (63:Int)=((63:Nat):Int) from rfl,kQ,Er (by rw[C0]; exact hl)]
  have hi:bN (rT (aa 0) fJ (bR (vC (.int 63)))) [some (.v (.list (ns.map .int))),some (.v (.int W)),some (.v (.int 23)),some (.lst []),none,none]=some (c9 0 ns,[some (.v (.list (ns.map .int))),some (.v (.int W)),some (.v (.int 23)),some (.lst []),none,none]):=by
   unfold bN;simp[hc,gJ]
  rw[bB,hi];exact e
 ·simp[vRec,purs,cZ,rD,sA,sB,sC]
theorem Rp.mono{B C:Nat}{m:M}(h:Rp B m)(hc:B<=C):Rp C m:=by
 obtain⟨ds,sd,tn,h1,h2,h3,h4,h5⟩:=h;exact⟨ds,sd,tn,h1,h2,h3,h4,by lia⟩
theorem pick{B:Nat}{m:M}{l:List Int}(h:Rp B m)(hB:B<=1000000)(hl:0<l.length)(hl2:l.length<=1000):∃ (x:Int) (m':M),x∈l/\Rp (B+1) m'/\FF.bX [m,.lst (l.map .int)]=some (.v (.int x),[m',.lst (l.map .int)]):=by
 obtain⟨r,m',h1,h2,h3,e⟩:=take (n:=(l.length:Int)) h hB (by lia) (by lia)
 have hr:r.toNat<l.length:=by lia
 have hx:l[r.toNat]? = some l[r.toNat]:=Dg hr;have ha:=qA hx;rw[Int.toNat_of_nonneg h1] at ha;refine⟨l[r.toNat],m',IF hr,h3,bg (ρ:=[some m',some (.lst (l.map .int))]) rfl ?_ rfl⟩;obtain⟨od,sd,tn,rfl,_⟩:=h;show FF.b8 [some (rD od sd tn),some (.lst (l.map .int))]=_;simp[FF.b8,e,ha]
noncomputable abbrev strides:List Int:=[1,3,7,9,11,33,77,99]
theorem AM{s:Int}(hs:s∈strides){f i j:Int}(h0:0<=i)(h1:i<j)(h2:j<10):(f+s*(0+i)) % 100≠(f+s*(0+j)) % 100:=by
 simp only[strides,Dr,CZ,or_false] at hs;rcases hs with rfl | rfl | rfl | rfl | rfl | rfl | rfl | rfl <;> lia
theorem rN{f s:Int}{n:Nat}(hs:s∈strides)(hn:n<=10):(rW f s n).Nodup:=by
 unfold rW List.Nodup;rw[Ee];refine List.Pairwise.imp_of_mem ?_ List.pairwise_lt_range;intro a b ha hb hab;rw[E9] at ha hb;exact AM hs (by lia) (by lia) (by lia)
theorem uR{f s:Int}{n:Nat}(hs : -18446744073709551616<s/\s<18446744073709551616)(hn:n<=24):∃x,cK (af 0) jD (vB gc (vB cY (aa 1) (vB mulM (aa 2) (aa 0))) (vC (.int 100))) (cC 0 (n:Int)) [none,some (.v (.int f)),some (.v (.int s))] []=some ((rW f s n).map .int,[x,some (.v (.int f)),some (.v (.int s))]):=by
 obtain⟨y,ec⟩:=kP (fe:=vB gc (vB cY (aa 1) (vB mulM (aa 2) (aa 0))) (vC (.int 100))) (cs:=[some (.v (.int f)),some (.v (.int s))]) (f:=λd=>match d with | .int k=>.int ((f+s*k) % 100) | _=>.none) (cC 0 (n:Int)) [] none (λd hd=>by
  rw[iF] at hd;obtain⟨k,hk,rfl⟩:=EQ.mp hd;refine⟨.t (.v (.int ((f+s*(0+(k:Int))) % 100))),?_,rfl⟩;simp[hs]) (by rw[iF,C0,Dv,DQ]; unfold lim; lia)
 have emap:(cC 0 (n:Int)).map (λd=>match d with | .int k=>CO ((f+s*k) % 100) | _=>.none)=(rW f s n).map .int:=by
  rw[iF,EA];unfold rW;rw[EA];rfl
 rw[emap,DH] at ec;exact⟨y,ec⟩
structure Up(ps:List Int)(ts:List (Int×Int)):Prop where
 up:ts.Pairwise Bs
 lt:∀t∈ts,t.1<t.2
 ends:∀t∈ts,t.1∈ps/\t.2∈ps
theorem Up.snoc{ps:List Int}{ts:List (Int×Int)}(u:Up ps ts){a b:Int}(h:∀t∈ts,Bs t (a,b))(h1:a<b)(h2:a∈ps)(h3:b∈ps):Up ps (ts++[(a,b)]):=by
 refine⟨FK.mpr ⟨u.up,Gu _ _,λx hx y hy=>by rw[B1.mp hy]; exact h x hx⟩,λt ht=>?_,λt ht=>?_⟩
 ·rcases lM ht with ht | ht
  ·exact u.lt t ht
  ·rw[B1.mp ht]; exact h1
 ·rcases lM ht with ht | ht
  ·exact u.ends t ht
  ·rw[B1.mp ht]; exact⟨h2,h3⟩
noncomputable abbrev j9(m:M)(md n f s:Int)(ps:List Int)(ts:List (Int×Int))(x7 x8 x9:Option M):Ev:=[some m,some (.v (.int md)),some (.v (.int n)),some (.v (.int f)),some (.v (.int s)),some (.v (.list (ps.map .int))),some (.lst (ts.map pD)),x7,x8,x9]
noncomputable abbrev Bt:FS:=(cA (aL (vB BB (ie FF.aM (ak (aa 0) (ai (dZ (iC (ak (vC (.int 2)) (ak (vC (.int 5)) (ak (vC (.int 9)) (ai (vC (.int 3))))))) (aa 1))))) (vC (.int 0)))) (cB (gY 6 (ai (gf (ak (aa 8) (ai (aa 9))))))) aW)
theorem tw_in{B:Nat}{m:M}{md n f s k one:Int}{ps os:List Int}{ts:List (Int×Int)}{x9:Option M}(h:Rp B m)(hB:B+os.length<=1000000)(hmd:0<=md/\md<4)(h1:one∈ps)(ho:∀x∈os,x∈ps/\one<x)(hr:os.Pairwise (· < ·))(u:Up ps ts)(hu:∀t∈ts,t.1<one)(hl:ts.length+os.length<=60):∃m' ts' x9',Rp (B+os.length) m'/\Up ps ts'/\(∀t∈ts',t.1<=one)/\ts'.length<=ts.length+os.length /\
  forL (af 9) Bt (os.map .int) (j9 m md n f s ps ts (some (.v (.int k))) (some (.v (.int one))) x9)=some (.nx (j9 m' md n f s ps ts' (some (.v (.int k))) (some (.v (.int one))) x9')):=by
 obtain⟨ρ',e,m',ts',y,dn,rs,h1,h2,h3,h4,h5,h6,rfl⟩:=cU (fg:=af 9) (fb:=Bt) (P:=λrest ρ=>∃ (m':M) (ts':List (Int×Int)) (y:Option M) (dn rs:List Int),rest=rs.map .int/\dn++rs=os/\Rp (B+dn.length) m'/\Up ps ts'/\(∀t∈ts',t.1<one\/t.1=one/\t.2∈dn)/\ts'.length<=ts.length+dn.length/\ρ=j9 m' md n f s ps ts' (some (.v (.int k))) (some (.v (.int one))) y)
  (os.map .int) (j9 m md n f s ps ts (some (.v (.int k))) (some (.v (.int one))) x9) ⟨m,ts,x9,[],os,rfl,rfl,h,u,λt ht=>.inl (hu t ht),by simp,rfl⟩ (λd rest ρ hP=>by
   obtain⟨m',ts',y,dn,rs,e1,e2,e3,e4,e5,e6,rfl⟩:=hP;cases rs with
   |nil=>cases e1
   |cons r rs=>
    obtain⟨rfl,rfl⟩:=CW e1;have hlen:dn.length+(rs.length+1)=os.length:=by rw[<-e2,C4,BM]
    obtain⟨q,hq,ha⟩:∃q:Int,(0<q/\q<1073741824)/\iS [CO 2,.int 5,.int 9,.int 3] md=some (.int q):=by
     have:md=0\/md=1\/md=2\/md=3:=by lia
     rcases this with rfl | rfl | rfl | rfl
     ·exact⟨2,by lia,rfl⟩
     ·exact⟨5,by lia,rfl⟩
     ·exact⟨9,by lia,rfl⟩
     ·exact⟨3,by lia,rfl⟩
    obtain⟨v,m2,v1,v2,v3,v4⟩:=take e3 (by lia) hq.1 hq.2
    obtain⟨od,sd,tn,rfl,_⟩:=e3;have hor:=ho r (by rw[<-e2]; simp)
    have hlim:ts'.length<1000000:=by lia
    by_cases c:0<v
    ·refine⟨j9 (rD od sd tn) md n f s ps ts' (some (.v (.int k))) (some (.v (.int one))) (some (.v (.int r))),j9 m2 md n f s ps (ts'++[(one,r)]) (some (.v (.int k))) (some (.v (.int one))) (some (.v (.int r))),by simp,?_,m2,ts'++[(one,r)],_,dn++[r],rs,rfl,by rw[C8]; exact e2,by rw[C4]; exact v3,e4.snoc (λt ht=>?_) hor.2 h1 hor.1,λt ht=>?_,by rw[C4,C4]; simp; lia,rfl⟩
     ·simp[Bt,ha,v4,c,hlim,lim,j9]
     ·rcases e5 t ht with z | ⟨z1,z2⟩
      ·exact .inl z
      ·refine .inr ⟨z1,?_⟩
       rw[<-e2,FK] at hr;exact hr.2.2 _ z2 r lS
     ·rcases lM ht with ht | ht
      ·exact(e5 t ht).imp id λz=>⟨z.1,lL _ z.2⟩
      ·rw[B1.mp ht]; exact .inr ⟨rfl,lR _ lS⟩
    ·refine⟨j9 (rD od sd tn) md n f s ps ts' (some (.v (.int k))) (some (.v (.int one))) (some (.v (.int r))),j9 m2 md n f s ps ts' (some (.v (.int k))) (some (.v (.int one))) (some (.v (.int r))),by simp,?_,m2,ts',_,dn++[r],rs,rfl,by rw[C8]; exact e2,by rw[C4]; exact v3,e4,λt ht=>(e5 t ht).imp id λz=>⟨z.1,lL _ z.2⟩,by rw[C4]; simp; lia,rfl⟩
     simp[Bt,ha,v4,c,j9,lim])
 have:rs=[]:=by cases rs with | nil=>rfl | cons _ _=>cases h1
 subst this;rw[Bn] at h2;subst h2;exact⟨m',ts',y,h3,h4,λt ht=>(h5 t ht).elim ET λz=>Int.le_of_eq z.1,h6,e⟩
theorem rO(ds:List AT)(k:Nat)(hk:k<=ds.length):cutD ds (some (k:Int)) none=ds.drop k:=by
 unfold cutD;rw[HT.mF,HT.k9,Ie hk,Er (by rw[G4]; exact C1 _)]
noncomputable abbrev BX:FS:=cJ (aP (rT (aa 5) (bR (vB cY (aa 7) (vC (.int 1)))) fJ)) (af 9) Bt
theorem AN{B:Nat}{m:M}{md n f s:Int}{ps:List Int}(h:Rp B m)(hB:B<=900000)(hmd:0<=md/\md<4)(hr:ps.Pairwise (· < ·))(hl:ps.length<=7):∃m' ts x7 x8 x9,Rp (B+49) m'/\Up ps ts/\ts.length<=49 /\
  forL (bC 2 (aA (af 7) (aA (af 8) bE))) BX (c9 0 ps) (j9 m md n f s ps [] none none none)=some (.nx (j9 m' md n f s ps ts x7 x8 x9)):=by
 obtain⟨ρ',e,m',ts,x7,x8,x9,dn,rs,h1,h2,h3,h4,h5,h6,rfl⟩:=cU (fg:=bC 2 (aA (af 7) (aA (af 8) bE))) (fb:=BX) (P:=λrest ρ=>∃ (m':M) (ts:List (Int×Int)) (x7 x8 x9:Option M) (dn rs:List Int),rest=c9 dn.length rs/\dn++rs=ps/\Rp (B+7*dn.length) m'/\Up ps ts/\(∀t∈ts,t.1∈dn)/\ts.length<=7*dn.length/\ρ=j9 m' md n f s ps ts x7 x8 x9)
  (c9 0 ps) (j9 m md n f s ps [] none none none) ⟨m,[],none,none,none,[],ps,rfl,rfl,h,⟨Ex,(λ_ h=>(nomatch h)),(λ_ h=>(nomatch h))⟩,(λ_ h=>(nomatch h)),DR _,rfl⟩ (λd rest ρ hP=>by
   obtain⟨m',ts,x7,x8,x9,dn,rs,e1,e2,e3,e4,e5,e6,rfl⟩:=hP;cases rs with
   |nil=>cases e1
   |cons r rs=>
    obtain⟨rfl,rfl⟩:=CW e1;have hlen:dn.length+(rs.length+1)=ps.length:=by rw[<-e2,C4,BM]
    have hr2:=hr;rw[<-e2,FK,EU] at hr2;obtain⟨a1,⟨a2,a3⟩,a4⟩:=hr2;obtain⟨m2,ts2,y9,b1,b2,b3,b4,b5⟩:=tw_in (n:=n) (f:=f) (s:=s) (k:=(dn.length:Int)) (one:=r) (os:=rs) (x9:=x9) e3 (by lia) hmd (by rw[<-e2]; simp) (λx hx=>⟨by rw[<-e2]; simp[hx],a2 x hx⟩) a3 e4 (λt ht=>a4 _ (e5 t ht) r lS) (by lia)
    have hc:cutD (ps.map CO) (some ((dn.length:Int)+1)) none=rs.map .int:=by
     rw[show ((dn.length:Int)+1)=((dn.length+1:Nat):Int) by lia,rO _ _ (by rw[C0]; lia),<-List.map_drop,<-e2,show dn++r::rs=(dn++[r])++rs by simp,List.drop_left' (by simp)]
    refine⟨j9 m' md n f s ps ts (some (.v (.int (dn.length:Int)))) (some (.v (.int r))) x9,j9 m2 md n f s ps ts2 (some (.v (.int (dn.length:Int)))) (some (.v (.int r))) y9,by simp,?_,m2,ts2,_,_,y9,dn++[r],rs,by rw[C4]; rfl,by rw[C8]; exact e2,b1.mono (by rw[C4]; simp; lia),b2,λt ht=>?_,by rw[C4]; simp; lia,rfl⟩
    ·simp[BX,hc]
     exact b5
    ·have hle:=b3 t ht
     have hm:=(b2.ends t ht).1;rw[<-e2] at hm;rcases lM hm with z | z
     ·exact lL _ z
     ·rcases lK z with z | z
      ·exact lR _ (by rw[z]; exact lS)
      ·have:=a2 _ z; lia)
 have:rs=[]:=by cases rs with | nil=>rfl | cons _ _=>cases h1
 subst this;rw[Bn] at h2;subst h2;exact⟨m',ts,x7,x8,x9,h3.mono (by lia),h4,by lia,e⟩
theorem uS{B:Nat}{m:M}(h:Rp B m)(hB:B<=800000):∃m' ps ts,Rp (B+60) m'/\g9 ps ts/\1<=ps.length/\ps.length<=5/\FF.br [m]=some (.v (wD ps ts),[m']):=by
 obtain⟨md,m1,a1,a2,h1,e1⟩:=take (n:=4) h (by lia) (by lia) (by lia)
 obtain⟨k,m2,b1,b2,h2,e2⟩:=take (n:=5) h1 (by lia) (by lia) (by lia)
 obtain⟨f,m3,c1,c2,h3,e3⟩:=take (n:=100) h2 (by lia) (by lia) (by lia)
 obtain⟨s,m4,hs,h4,e4⟩:=pick (l:=strides) h3 (by lia) (by decide) (by decide)
 obtain⟨n,hn⟩:=H9 (show 0<=1+k by lia)
 have hn5:1<=n/\n<=5:=by lia
 have hs' : -18446744073709551616<s/\s<18446744073709551616:=by
  simp only[strides,Dr,CZ,or_false] at hs;lia
 obtain⟨x,ec⟩:=uR (f:=f) (s:=s) (n:=n) hs' (by lia)
 have nd:=rN (f:=f) hs (show n<=10 by lia)
 have es:=pG (ns:=rW f s n) (by rw[qx]; lia)
 generalize hps:sortI (rW f s n)=ps at es;have pm:ps.Perm (rW f s n):=hps▸sortI_perm _;have rise:ps.Pairwise (· < ·):=hps▸pH nd;have hlen:ps.length=n:=by rw[pm.length_eq,qx]
 obtain⟨m5,ts,x7,x8,x9,d1,d2,d3,d4⟩:=AN (n:=(n:Int)) (f:=f) (s:=s) h4 (by lia) ⟨a1,a2⟩ rise (by lia)
 refine⟨m5,ps,ts,d1.mono (by lia),⟨rise,λp hp=>xQ p (pm.mem_iff.mp hp),by lia,d2.up,d2.lt,d2.ends,by lia⟩,by lia,by lia,bg (ρ:=j9 m5 md n f s ps ts x7 x8 x9) rfl ?_ ?_⟩
 ·obtain⟨od,sd,tn,rfl,_⟩:=h
  obtain⟨od1,sd1,tn1,rfl,_⟩:=h1;obtain⟨od2,sd2,tn2,rfl,_⟩:=h2;obtain⟨od3,sd3,tn3,rfl,_⟩:=h3;obtain⟨od4,sd4,tn4,rfl,_⟩:=h4;have hsm:iD (n:Int)=true:=decide_eq_true (by unfold rA; lia)
  show FF.bS [some (rD od sd tn),none,none,none,none,none,none,none,none,none]=_;refine(ao (ρ1:=[some (rD od2 sd2 tn2),some (.v (.int md)),some (.v (.int (n:Int))),none,none,none,none,none,none,none]) (by simp[e1,e2,hn])).trans ?_
  refine(ao (ρ1:=[some (rD od4 sd4 tn4),some (.v (.int md)),some (.v (.int (n:Int))),some (.v (.int f)),some (.v (.int s)),none,none,none,none,none]) ?_).trans ?_
  ·have e4':FF.bX [rD od3 sd3 tn3,.lst [.int 1,.int 3,.int 7,.int 9,.int 11,.int 33,.int 77,.int 99]]=some (.v (.int s),[rD od4 sd4 tn4,.lst [.int 1,.int 3,.int 7,.int 9,.int 11,.int 33,.int 77,.int 99]]):=e4
   simp[e3,e4',lim]
  refine(ao (ρ1:=[some (rD od4 sd4 tn4),some (.v (.int md)),some (.v (.int (n:Int))),some (.v (.int f)),some (.v (.int s)),some (.lst (ps.map .int)),none,none,none,none]) (by simp[hsm,ec,es])).trans ?_
  refine(ao (ρ1:=[some (rD od4 sd4 tn4),some (.v (.int md)),some (.v (.int (n:Int))),some (.v (.int f)),some (.v (.int s)),some (.lst (ps.map .int)),some (.lst []),none,none,none]) (by simp[lim])).trans ?_
  refine(ao (ρ1:=j9 m5 md n f s ps ts x7 x8 x9) ?_).trans ?_
  ·have hi:bN (aa 5) [some (rD od4 sd4 tn4),some (.v (.int md)),some (.v (.int (n:Int))),some (.v (.int f)),some (.v (.int s)),some (.lst (ps.map .int)),some (.lst []),none,none,none]=some (c9 0 ps,j9 (rD od4 sd4 tn4) md n f s ps [] none none none):=by
    unfold bN;simp[gJ,j9]
   rw[bB,hi];exact d4
  ·obtain⟨od5,sd5,tn5,rfl,_⟩:=d1
   have hl1:ts.length<=1000000:=by lia
   simp[j9,tI,lim]
 ·obtain⟨od5,sd5,tn5,rfl,_⟩:=d1
  rfl
inductive Wk(ts:List (Int×Int))(fs:List Int)(a:Int):List Int->Int->Prop
 |one:Wk ts fs a [a] a
 |snoc {l:List Int} {x y:Int}:Wk ts fs a l x->rL ts x y->y∈fs->Wk ts fs a (l++[y]) y
theorem Wk.last{ts:List (Int×Int)}{fs l:List Int}{a x:Int}(h:Wk ts fs a l x):∃l0,l=l0++[x]:=by
 cases h with
 |one=>exact⟨[],rfl⟩
 |snoc h _ _=>exact⟨_,rfl⟩
theorem uT(ds:List AT)(d:AT):iS (ds++[d]) (-1)=some d:=by
 unfold iS oh;rw[C4,EI];have h:(-1+((ds.length:Int)+1)).toNat=ds.length:=by lia
 have h2:(1:Int)<=ds.length+1:=by lia
 simp[h,h2]
theorem uU:∀{ns:List Int},ns≠[]->∃k∈ns,iQ ns=some k:=by
 intro ns h;cases e:iQ ns with
 |some k=>exact⟨k,(eu e).1,rfl⟩
 |none=>
  cases ns with
  |nil=>exact absurd rfl h
  |cons n ns=>
   unfold iQ at e
   split at e <;> cases e
theorem uV:gW (.v (.int 1))=some (.v (.int (-1))):=rfl
theorem uW{ns:List Int}(h:ns≠[]):∃k∈ns,nI [.lst (ns.map .int)]=some (.v (.int k)):=by
 obtain⟨k,hk,e⟩:=uU h;refine⟨k,hk,?_⟩;show (fj (ns.map .int)).bind _=_;rw[fX];show (iQ ns).bind _=_;rw[e];rfl
theorem jN{ts:List (Int×Int)}{a b:Int}(h:rL ts a b):rL ts b a:=h.elim .inr .inl
section
variable{ps fs:List Int}{ts:List (Int×Int)}{a b:Int}
noncomputable abbrev qB(ps fs:List Int)(ts:List (Int×Int))(a b:Int)(g:Int->Int)(W L:List Int)(x:Option M):Ev:=[some (.v (wD ps ts)),some (.v (tI fs)),some (.v (.int a)),some (.v (.int b)),some (.aI (dd ps λp=>sortI (nb ts p))),some (.aI (gd g W)),some (.lst (L.map .int)),x]
noncomputable abbrev BY:FT:=aL (vB (gK true) (dZ (aa 6) (vU gW (vC (.int 1)))) (aa 3))
noncomputable abbrev BJ:FT:=ff (aL (vB (ic false) (aa 0) (aa 1))) (aL (vB (gK false) (dZ (aa 1) (aa 0)) (aa 2)))
noncomputable abbrev Ct:FS:=aH (bA 7 (vB nh (dZ (aa 5) (dZ (aa 6) (vU gW (vC (.int 1))))) (vC (.int 1))))
 (cB (gY 6 (ai (dY nI (ai (qk 1 [5,7] (aP (dZ (aa 4) (dZ (aa 6) (vU gW (vC (.int 1)))))) (af 0) BJ (aa 0)))))))
theorem AO(g:Int->Int)(W:List Int)(r:Int):ic false (.v (.int r)) (.aI (gd g W))=some (.v (.bool (decide (r∈W)))):=by
 have h:ic false (.v (.int r)) (.aI (gd g W))=some (.v (.bool ((bu (gd g W) (.inl r)).isSome))):=rfl;rw[h,qz]
theorem l8{q r:Int}:r∈sortI (nb ts q)↔rL ts q r:=(sortI_perm _).mem_iff.trans AL
theorem way(w:g9 ps ts)(hs:∀x∈fs,x∈ps)(ndf:fs.Nodup)(ha:a∈fs)(hb:b∈fs):(¬fR ts fs b a/\FF.eE [.v (wD ps ts),.v (tI fs),.v (.int a),.v (.int b)]=some (.v .none,[.v (wD ps ts),.v (tI fs),.v (.int a),.v (.int b)])) \/
  ∃L,Wk ts fs a L b/\L.Nodup/\L.length<=25/\FF.eE [.v (wD ps ts),.v (tI fs),.v (.int a),.v (.int b)]=some (.v (tI L),[.v (wD ps ts),.v (tI fs),.v (.int a),.v (.int b)]):=by
 have nd:ps.Nodup:=w.rise.imp λh=>Ey h
 have hfl:fs.length<=24:=DB (len_sub ndf hs) w.few;have en:=nears nd (λt ht=>⟨(w.ends t ht).1,(w.ends t ht).2,w.lt t ht⟩) (by have:=w.few; lia) (by have:=w.len; lia)
 obtain⟨W,g,hG,hW,es⟩:=nQ (ps:=ps) (φ:=λp=>sortI (nb ts p)) (λq r=>l8) hb hs (by lia)
 have hWl:=hG.len hb
 by_cases hr:fR ts fs b a
 ·right
  have haW:=(hW a).mpr hr;obtain⟨ρ',e,L,x,h1,h0,h2,rfl⟩:=gI (fc:=BY) (fb:=Ct)
   (P:=λn ρ=>∃ (L:List Int) (c:Int) (x:Option M),Wk ts fs a L c/\(L.Nodup/\∀y∈L,g c<=g y)/\c∈W/\(g c).toNat=n/\L.length+n<=25/\ρ=qB ps fs ts a b g W L x)
   (Q:=λρ=>∃ (L:List Int) (x:Option M),Wk ts fs a L b/\L.Nodup/\L.length<=25/\ρ=qB ps fs ts a b g W L x)
   (λn ρ hP=>by
    obtain⟨L,c,x,hw,⟨hnd,hge⟩,hc,hn,hl,rfl⟩:=hP;obtain⟨L0,hL0⟩:=hw.last;have hat:iS (L.map CO) (-1)=some (.int c):=by rw[hL0,E6]; exact uT _ _
    by_cases hcb:c=b
    ·subst hcb
     exact .inl ⟨_,by simp[BY,qB,hat,uV],L,x,hw,hnd,by lia,rfl⟩
    ·right
     rcases hG.ds c hc with z | ⟨z1,y,z2,z3,z4⟩
     ·exact absurd z hcb
     have hkc:bu (gd g W) (.inl c)=some (.int (g c)):=cG _ hc;have hcp:c∈ps:=by
      rcases (hG.rc c hc).or with z | z
      ·exact hs c (z▸hb)
      ·exact hs c z
     have hkd:bu (dd ps λp=>sortI (nb ts p)) (.inl c)=some (tI (sortI (nb ts c))):=cG _ hcp
     obtain⟨y0,ec⟩:=iK (ft:=BJ) (fe:=aa 0) (cs:=[some (.aI (gd g W)),some (.v (.int (g c-1)))]) (p:=λr=>decide (r∈W/\g r=g c-1)) (f:=.int) (sortI (nb ts c)) [] none (λr hr=>⟨by
      have i1:=AO g W r
      by_cases c1:r∈W
      ·have hk:bu (gd g W) (.inl r)=some (.int (g r)):=cG _ c1
       simp[BJ,i1,c1,hk]
      ·simp[BJ,i1,c1],.t (.v (.int r)),by simp,rfl⟩) (by
       rw[(sortI_perm _).length_eq];have:=pI w.lt c;have:=w.len;unfold lim;simp;lia)
     rw[DH] at ec;obtain⟨k,hk,em⟩:=uW (ns:=(sortI (nb ts c)).filter λr=>decide (r∈W/\g r=g c-1)) (λz=>by
      have:y∈(sortI (nb ts c)).filter λr=>decide (r∈W/\g r=g c-1):=CM.mpr ⟨l8.mpr (jN z3),by simp[z2,z4]⟩
      rw[z] at this;cases this)
     obtain⟨k1,k2⟩:=CM.mp hk;have k2:k∈W/\g k=g c-1:=by simpa using k2
     have hkfs:k∈fs:=(hG.rc k k2.1).or.elim (λz=>z▸hb) id
     have hLl:L.length<1000000:=by lia
     generalize (sortI (nb ts c)).filter (λr=>decide (r∈W/\g r=g c-1))=N at ec em
     refine⟨qB ps fs ts a b g W L x,qB ps fs ts a b g W (L++[k]) (some (.v (.int (g c-1)))),(g k).toNat,by simp[BY,qB,hat,hcb,uV],?_,by lia,L++[k],k,_,.snoc hw (l8.mp k1) hkfs,⟨C2.mpr ⟨hnd,by simp,λu hu v hv e=>by rw[B1] at hv; subst hv; subst e; have:=hge u hu; lia⟩,λy hy=>by rcases lM hy with z | z; (have:=hge y z; lia); (rw[B1.mp z]; exact Hb _)⟩,k2.1,rfl,by rw[C4]; simp; lia,rfl⟩
     refine(ao (ρ1:=qB ps fs ts a b g W L (some (.v (.int (g c-1))))) (by simp[qB,hat,hkc,uV])).trans ?_
     unfold tI at hkd;simp[qB,hat,hkd,tI,ec,em,hLl,lim,uV])
   1000000 (g a).toNat (qB ps fs ts a b g W [a] none) ⟨[a],a,none,.one,⟨by simp,λy hy=>by rw[B1.mp hy]; exact Hb _⟩,haW,rfl,by have:=hG.g0 a haW; simp; lia,rfl⟩ (by have:=hG.g0 a haW; lia)
  refine⟨L,h1,h0,h2,bg (ρ:=qB ps fs ts a b g W L x) rfl ?_ rfl⟩;show FF.eZ [some (.v (wD ps ts)),some (.v (tI fs)),some (.v (.int a)),some (.v (.int b)),none,none,none,none]=_;refine(ao (ρ1:=[some (.v (wD ps ts)),some (.v (tI fs)),some (.v (.int a)),some (.v (.int b)),some (.aI (dd ps λp=>sortI (nb ts p))),none,none,none]) (by simp[en])).trans ?_
  refine(ao (ρ1:=[some (.v (wD ps ts)),some (.v (tI fs)),some (.v (.int a)),some (.v (.int b)),some (.aI (dd ps λp=>sortI (nb ts p))),some (.aI (gd g W)),none,none]) (by simp[es])).trans ?_
  have i2:=uQ g W a;refine(ao (ρ1:=[some (.v (wD ps ts)),some (.v (tI fs)),some (.v (.int a)),some (.v (.int b)),some (.aI (dd ps λp=>sortI (nb ts p))),some (.aI (gd g W)),none,none]) (by simp[i2,haW])).trans ?_
  refine(ao (ρ1:=qB ps fs ts a b g W [a] none) (by simp[qB,lim])).trans ?_
  refine(ao e).trans ?_;simp[qB,tI]
 ·left
  have haW:a∉W:=λz=>hr ((hW a).mp z)
  refine⟨hr,bg (ρ:=[some (.v (wD ps ts)),some (.v (tI fs)),some (.v (.int a)),some (.v (.int b)),some (.aI (dd ps λp=>sortI (nb ts p))),some (.aI (gd g W)),none,none]) rfl ?_ rfl⟩
  show FF.eZ [some (.v (wD ps ts)),some (.v (tI fs)),some (.v (.int a)),some (.v (.int b)),none,none,none,none]=_;refine(ao (ρ1:=[some (.v (wD ps ts)),some (.v (tI fs)),some (.v (.int a)),some (.v (.int b)),some (.aI (dd ps λp=>sortI (nb ts p))),none,none,none]) (by simp[en])).trans ?_
  refine(ao (ρ1:=[some (.v (wD ps ts)),some (.v (tI fs)),some (.v (.int a)),some (.v (.int b)),some (.aI (dd ps λp=>sortI (nb ts p))),some (.aI (gd g W)),none,none]) (by simp[es])).trans ?_
  have i2:=uQ g W a;exact dX (by simp[i2,haW])
end
section
variable{ps fs:List Int}{ts:List (Int×Int)}{a b:Int}
theorem fR.mono{gs:List Int}{x:Int}(h:fR ts fs a x)(hs:∀y∈fs,y∈gs):fR ts gs a x:=by
 induction h with
 |base=>exact .base
 |step _ h1 h2 ih=>exact .step ih h1 (hs _ h2)
theorem fR.trans{x y:Int}(h:fR ts fs a x)(h2:fR ts fs x y):fR ts fs a y:=by
 induction h2 with
 |base=>exact h
 |step _ h1 h2 ih=>exact .step ih h1 h2
theorem fR.symm{x:Int}(h:fR ts fs a x)(ha:a∈fs):fR ts fs x a:=by
 induction h with
 |base=>exact .base
 |step h1 h2 h3 ih=>
  rcases h1.or with z | z
  ·exact fR.trans (.step .base (jN h2) (z▸ha)) ih
  ·exact fR.trans (.step .base (jN h2) z) ih
theorem Wk.out{L:List Int}{x:Int}(h:Wk ts fs a L x){q:Int->Bool}(ha:q a=true):(∀y∈L.tail.dropLast,q y=true)->q x=true->fR ts (fs.filter q) a x:=by
 induction h with
 |one=>exact λ_ _=>.base
 |@snoc l x y h h1 h2 ih=>
  intro hi hy;have hx:q x=true:=by
   cases h with
   |one=>exact ha
   |@snoc l0 x0 _ h0 _ _=>
    refine hi x ?_;obtain⟨l00,rfl⟩:=h0.last;cases l00 with
    |nil=>simp
    |cons z l00=>simp
  refine .step (ih (λz hz=>hi z ?_) hx) h1 (CM.mpr ⟨h2,hy⟩)
  cases l with
  |nil=>cases hz
  |cons u l=>
   rw[II,GX];rw[GX] at hz;have hl:l≠[]:=λe=>by rw[e] at hz; cases hz
   rw[List.dropLast_append_of_ne_nil (by simp)]
   have:=(List.dropLast_sublist _).subset hz;simp[this]
theorem Wk.mem{L:List Int}{x:Int}(h:Wk ts fs a L x)(ha:a∈fs):∀y∈L,y∈fs:=by
 induction h with
 |one=>intro y hy; rw[B1.mp hy]; exact ha
 |snoc h h1 h2 ih=>
  intro y hy;rcases lM hy with z | z
  ·exact ih y z
  ·rw[B1.mp z]; exact h2
def Parts(ts:List (Int×Int))(fs:List Int)(a b:Int)(n:Nat):Prop:=∃X:List Int,X.length<=n/\a∉X/\b∉X/\¬fR ts (fs.filter λy=> !X.contains y) a b
theorem kU{X:List Int}{g:Int}:(fs.filter λy=> !decide (y=g)).filter (λy=> !X.contains y)=fs.filter λy=> !(g::X).contains y:=by
 rw[List.filter_filter]
 congr 1
 funext y
 by_cases h:y=g
 ·subst h; simp
 ·by_cases h2:y∈X <;> simp[h,h2]
theorem pJ{L:List Int}{n:Nat}(h:Wk ts fs a L b)(hp:Parts ts fs a b (n+1)):∃g∈L.tail.dropLast,g≠a/\g≠b/\Parts ts (fs.filter λy=> !decide (y=g)) a b n:=by
 obtain⟨X,h1,h2,h3,h4⟩:=hp
 by_cases c:∀y∈L.tail.dropLast,(!X.contains y)=true
 ·exact absurd (h.out (q:=λy=> !X.contains y) (by simpa using h2) c (by simpa using h3)) h4
 ·obtain⟨g,hg⟩:=Classical.not_forall.mp c
  obtain⟨hg1,hg2⟩:=Classical.not_imp.mp hg;have hgX:g∈X:=by simpa using hg2
  refine⟨g,hg1,λe=>h2 (e▸hgX),λe=>h3 (e▸hgX),X.erase g,?_,λz=>h2 (HJ z),λz=>h3 (HJ z),λz=>h4 (fR.mono z λy hy=>?_)⟩
  ·rw[Gp hgX]; lia
  ·rw[kU,CM] at hy
   refine CM.mpr ⟨hy.1,?_⟩;have hy2:y≠g/\y∉X.erase g:=by simpa using hy.2
   have:y∉X:=λz=>hy2.2 ((HQ hy2.1).mpr z)
   simpa using this
theorem pK{n:Nat}{g:Int}(ha:a≠g)(hb:b≠g)(hp:Parts ts (fs.filter λy=> !decide (y=g)) a b n):Parts ts fs a b (n+1):=by
 obtain⟨X,h1,h2,h3,h4⟩:=hp;refine⟨g::X,by rw[BM]; lia,by simp[ha,h2],by simp[hb,h3],λz=>h4 ?_⟩
 rw[kU];exact z
end
theorem rP(ds:List AT)(h:2<=ds.length):cutD ds (some 1) (some (-1))=ds.tail.dropLast:=by
 unfold cutD;have e1:HT.bM ds.length 0 (some 1)=1:=by rw[show (1:Int)=((1:Nat):Int) from rfl,HT.k9]; lia
 have e2:HT.bM ds.length ds.length (some (-1))=ds.length-1:=by
  unfold HT.bM;simp;lia
 rw[e1,e2,List.drop_one,List.dropLast_eq_take,List.length_tail]
section
variable{ps fs:List Int}{ts:List (Int×Int)}{a b:Int}
theorem uX{L:List Int}(h:Wk ts fs a L b)(nd:L.Nodup)(hab:a≠b):2<=L.length/\∀y∈L.tail.dropLast,y≠a/\y≠b:=by
 have hd:∃t,L=a::t:=by
  clear nd hab
  induction h with
  |one=>exact⟨[],rfl⟩
  |snoc _ _ _ ih=>obtain⟨t,rfl⟩:=ih; exact⟨t++[_],rfl⟩
 obtain⟨t,rfl⟩:=hd;obtain⟨l0,hl⟩:=h.last;cases l0 with
 |nil=>rw[DH] at hl; cases hl; exact absurd rfl hab
 |cons z l0=>
  rw[II] at hl;obtain⟨rfl,rfl⟩:=CW hl;refine⟨by simp,λy hy=>?_⟩
  rw[GX,List.dropLast_concat] at hy;have n1:=CJ.mp nd;have n2:=C2.mp n1.2;exact⟨λe=>n1.1 (by rw[<-e]; exact lL _ hy),λe=>n2.2.2 y hy b lS e⟩
noncomputable abbrev BK(ps fs:List Int)(ts:List (Int×Int))(a b:Int)(n:Nat):List M:=[.v (wD ps ts),.v (tI fs),.v (.int a),.v (.int b),.v (.int (n:Int))]
noncomputable abbrev dR(ps fs:List Int)(ts:List (Int×Int))(a b:Int)(n:Nat)(x y:Option M):Ev:=[some (.v (wD ps ts)),some (.v (tI fs)),some (.v (.int a)),some (.v (.int b)),some (.v (.int (n:Int))),x,y]
noncomputable abbrev Bu(f:Nat):FS:=(cA (jx (ie (FF.aO f) (ak (aa 0) (ak (dY iP (ai (g8 1 [6] 1 (af 0) (aL (vB (gK true) (aa 0) (aa 1))) (aa 0)))) (ak (aa 2) (ak (aa 3) (ai (vB nh (aa 4) (vC (.int 1)))))))))) (bJ (vC (.bool true))) aW)
noncomputable abbrev BL(f:Nat):FS:=(aH (bA 5 (ie FF.eE (ak (aa 0) (ak (aa 1) (ak (aa 2) (ai (aa 3)))))))
 (aH (cA (aL (vB (oQ false) (aa 5) (vC .none))) (bJ (vC (.bool true))) aW)
 (aH (cA (aL (vB vf (aa 4) (vC (.int 0)))) (bJ (vC (.bool false))) aW)
 (aH (cJ (aP (rT (aa 5) (bR (vC (.int 1))) (bR (vU gW (vC (.int 1)))))) (af 6) (Bu f))
 (bJ (vC (.bool false)))))))
theorem jO:fs.filter (λy=> !([]:List Int).contains y)=fs:=Ha.mpr (by simp)
theorem uY:Parts ts fs a b 0↔¬fR ts fs a b:=by
 constructor
 ·rintro⟨X,h1,_,_,h4⟩
  have:X=[]:=Dk.mp (by lia)
  subst this;rw[jO] at h4;exact h4
 ·intro h
  exact⟨[],C1 _,by simp,by simp,by rw[jO]; exact h⟩
theorem qC:oQ false (.v .none) (.v .none)=some (.v (.bool true)):=rfl
theorem qD(ds:List AT):oQ false (.v (.tuple ds)) (.v .none)=some (.v (.bool false)):=rfl
theorem parted(w:g9 ps ts)(hab:a≠b):∀(n f:Nat)(fs:List Int),n<f->(∀x∈fs,x∈ps)->fs.Nodup->a∈fs->b∈fs->∃r:Bool,FF.aO f (BK ps fs ts a b n)=some (.v (.bool r),BK ps fs ts a b n)/\(r=true↔Parts ts fs a b n):=by
 intro n
 induction n with
 |zero=>
  intro f fs hf hs nd ha hb;obtain⟨f,rfl⟩:∃f',f=f'+1:=⟨f-1,by lia⟩
  rcases way w hs nd ha hb with⟨h1,e⟩ | ⟨L,h1,h2,h3,e⟩
  ·refine⟨true,bg (ρ:=dR ps fs ts a b 0 (some (.v .none)) none) rfl ?_ rfl,by rw[uY]; exact⟨λ_ z=>h1 (fR.symm z ha),λ_=>rfl⟩⟩
   show BL f (dR ps fs ts a b 0 none none)=_;refine(ao (ρ1:=dR ps fs ts a b 0 (some (.v .none)) none) (by simp[dR,e])).trans (dX (by simp[dR,qC]))
  ·refine⟨false,bg (ρ:=dR ps fs ts a b 0 (some (.v (tI L))) none) rfl ?_ rfl,by rw[uY]; exact⟨λz=>(nomatch z),λz=>absurd (by have:=h1.out (q:=λ_=>true) rfl (λ_ _=>rfl) rfl; rw[Ha.mpr (λ_ _=>rfl)] at this; exact this) z⟩⟩
   show BL f (dR ps fs ts a b 0 none none)=_;refine(ao (ρ1:=dR ps fs ts a b 0 (some (.v (tI L))) none) (by simp[dR,e])).trans ?_
   refine(ao (ρ1:=dR ps fs ts a b 0 (some (.v (tI L))) none) (by simp[dR,tI,qD])).trans ?_
   exact dX (by simp[dR])
 |succ n ih=>
  intro f fs hf hs nd ha hb;obtain⟨f,rfl⟩:∃f',f=f'+1:=⟨f-1,by lia⟩
  rcases way w hs nd ha hb with⟨h1,e⟩ | ⟨L,h1,h2,h3,e⟩
  ·refine⟨true,bg (ρ:=dR ps fs ts a b (n+1) (some (.v .none)) none) rfl ?_ rfl,⟨λ_=>⟨[],DR _,by simp,by simp,by rw[jO]; exact λz=>h1 (fR.symm z ha)⟩,λ_=>rfl⟩⟩
   show BL f (dR ps fs ts a b (n+1) none none)=_;refine(ao (ρ1:=dR ps fs ts a b (n+1) (some (.v .none)) none) (by simp[dR,e])).trans (dX (by simp[dR,qC]))
  ·obtain⟨hL2,hin⟩:=uX h1 h2 hab
   have hLm:=h1.mem ha;have pre:∀o,aH (cJ (aP (rT (aa 5) (bR (vC (.int 1))) (bR (vU gW (vC (.int 1)))))) (af 6) (Bu f)) (bJ (vC (.bool false))) (dR ps fs ts a b (n+1) (some (.v (tI L))) none)=o->BL f (dR ps fs ts a b (n+1) none none)=o:=λo ho=>by
    refine(ao (ρ1:=dR ps fs ts a b (n+1) (some (.v (tI L))) none) (by simp[dR,e])).trans ?_
    refine(ao (ρ1:=dR ps fs ts a b (n+1) (some (.v (tI L))) none) (by simp[dR,tI,qD])).trans ?_
    have h0:¬ ((n:Int)+1<=0):=by lia
    refine(ao (ρ1:=dR ps fs ts a b (n+1) (some (.v (tI L))) none) (by simp[dR,h0])).trans ho
   have hi:aP (rT (aa 5) (bR (vC (.int 1))) (bR (vU gW (vC (.int 1))))) (dR ps fs ts a b (n+1) (some (.v (tI L))) none)=some ((L.tail.dropLast).map .int,dR ps fs ts a b (n+1) (some (.v (tI L))) none):=by
    have hc:=rP (L.map .int) (by rw[C0]; exact hL2)
    simp[dR,tI,uV,hc]
   have step:∀g x,g∈L.tail.dropLast->∃r:Bool,(r=true↔Parts ts (fs.filter λy=> !decide (y=g)) a b n)/\Bu f (dR ps fs ts a b (n+1) x (some (.v (.int g))))=if r=true then some (.rt (.v (.bool true)) (dR ps fs ts a b (n+1) x (some (.v (.int g))))) else some (.nx (dR ps fs ts a b (n+1) x (some (.v (.int g))))):=λg x hg=>by
    obtain⟨r,e1,e2⟩:=ih f (fs.filter λy=> !decide (y=g)) (by lia) (λx hx=>hs x (CM.mp hx).1) (nd.sublist HZ) (CM.mpr ⟨ha,by have:=(hin g hg).1; simp; exact λz=>this z.symm⟩) (CM.mpr ⟨hb,by have:=(hin g hg).2; simp; exact λz=>this z.symm⟩)
    refine⟨r,e2,?_⟩;obtain⟨y,ec⟩:=iK (ft:=aL (vB (gK true) (aa 0) (aa 1))) (fe:=aa 0) (cs:=[some (.v (.int g))]) (p:=λy=> !decide (y=g)) (f:=.int) fs [] none (λr hr=>⟨by simp,.t (.v (.int r)),by simp,rfl⟩) (by
     have:=DB (len_sub nd hs) w.few;unfold lim; simp; lia)
    rw[DH] at ec;have eo:g8 1 [6] 1 (af 0) (aL (vB (gK true) (aa 0) (aa 1))) (aa 0) (dR ps fs ts a b (n+1) x (some (.v (.int g))))=some (.t (.lst ((fs.filter λy=> !decide (y=g)).map .int)),dR ps fs ts a b (n+1) x (some (.v (.int g)))):=by
     show qk 1 [6] (aP (aa 1)) (af 0) (aL (vB (gK true) (aa 0) (aa 1))) (aa 0) _=_;generalize fs.filter (λy=> !decide (y=g))=N at ec
     simp[dR,tI,ec]
    generalize fs.filter (λy=> !decide (y=g))=N at eo e1
    have hn1:((n+1:Nat):Int)-1=(n:Int):=by lia
    unfold BK tI at e1;simp[dR,tI] at eo;cases r <;> simp[Bu,dR,eo,e1,tI]
   rcases fQ (fg:=af 6) (fb:=Bu f) (P:=λrest ρ=>∃ (y:Option M) (dn rs:List Int),rest=rs.map .int/\dn++rs=L.tail.dropLast/\(∀g∈dn,¬Parts ts (fs.filter λy=> !decide (y=g)) a b n)/\ρ=dR ps fs ts a b (n+1) (some (.v (tI L))) y)
    (Q:=λm ρ=>m=.v (.bool true)/\(∃g∈L.tail.dropLast,Parts ts (fs.filter λy=> !decide (y=g)) a b n)/\∃y,ρ=dR ps fs ts a b (n+1) (some (.v (tI L))) y)
    ((L.tail.dropLast).map .int) (dR ps fs ts a b (n+1) (some (.v (tI L))) none) ⟨none,[],_,rfl,rfl,λg hg=>(nomatch hg),rfl⟩ (λd rest ρ hP=>by
     obtain⟨y,dn,rs,q1,q2,q3,rfl⟩:=hP;cases rs with
     |nil=>cases q1
     |cons g rs=>
      obtain⟨rfl,rfl⟩:=CW q1;have hg:g∈L.tail.dropLast:=by rw[<-q2]; simp
      obtain⟨r,r1,r2⟩:=step g (some (.v (tI L))) hg;refine⟨dR ps fs ts a b (n+1) (some (.v (tI L))) (some (.v (.int g))),by simp[dR],?_⟩
      cases r with
      |true=>exact .inr ⟨_,_,r2,rfl,⟨g,hg,r1.mp rfl⟩,_,rfl⟩
      |false=>
       refine .inl ⟨_,r2,_,dn++[g],rs,rfl,by rw[C8]; exact q2,λu hu=>?_,rfl⟩
       rcases lM hu with z | z
       ·exact q3 u z
       ·rw[B1.mp z]; exact λz=>nomatch r1.mpr z) with⟨ρ',e3,y,dn,rs,q1,q2,q3,rfl⟩ | ⟨m,ρ',e3,rfl,⟨g,hg,hp⟩,y,rfl⟩
   ·have:rs=[]:=by cases rs with | nil=>rfl | cons _ _=>cases q1
    subst this;rw[Bn] at q2;subst q2;refine⟨false,bg (ρ:=dR ps fs ts a b (n+1) (some (.v (tI L))) y) rfl (pre _ ?_) rfl,⟨λz=>(nomatch z),λz=>?_⟩⟩
    ·refine(ao (ρ1:=dR ps fs ts a b (n+1) (some (.v (tI L))) y) ?_).trans (by simp)
     rw[bB,hi];exact e3
    ·obtain⟨g,hg,_,_,hp⟩:=pJ h1 z
     exact absurd hp (q3 g hg)
   ·refine⟨true,bg (ρ:=dR ps fs ts a b (n+1) (some (.v (tI L))) y) rfl (pre _ (dX ?_)) rfl,⟨λ_=>pK (λz=>(hin g hg).1 z.symm) (λz=>(hin g hg).2 z.symm) hp,λ_=>rfl⟩⟩
    rw[bB,hi];exact e3
end
section
variable{ps:List Int}{ts:List (Int×Int)}
def Holds(ps:List Int)(ts:List (Int×Int))(n:Nat):Prop:=n<ps.length/\∀a∈ps,∀b∈ps,a<b->¬Parts ts ps a b n
noncomputable abbrev gb(ps:List Int)(ts:List (Int×Int))(n:Nat)(x y:Option M):Ev:=[some (.v (wD ps ts)),some (.v (.int (n:Int))),some (.v (tI ps)),x,y]
noncomputable abbrev AQ:FS:=(cA (ff (aL (vB AZ (aa 3) (aa 4))) (jx (ie (FF.aO 8) (ak (aa 0) (ak (aa 2) (ak (aa 3) (ak (aa 4) (ai (aa 1))))))))) (bJ (vC (.bool false))) aW)
theorem ho_in(w:g9 ps ts){n:Nat}(hn:n<8){a:Int}(ha:a∈ps)(y:Option M):(∃y',forL (af 4) AQ (ps.map .int) (gb ps ts n (some (.v (.int a))) y)=some (.nx (gb ps ts n (some (.v (.int a))) y'))/\∀b∈ps,a<b->¬Parts ts ps a b n) \/
  ∃y',forL (af 4) AQ (ps.map .int) (gb ps ts n (some (.v (.int a))) y)=some (.rt (.v (.bool false)) (gb ps ts n (some (.v (.int a))) y'))/\∃b∈ps,a<b/\Parts ts ps a b n:=by
 have nd:ps.Nodup:=w.rise.imp λh=>Ey h
 rcases fQ (fg:=af 4) (fb:=AQ) (P:=λrest ρ=>∃ (y:Option M) (dn rs:List Int),rest=rs.map .int/\dn++rs=ps/\(∀b∈dn,a<b->¬Parts ts ps a b n)/\ρ=gb ps ts n (some (.v (.int a))) y)
  (Q:=λm ρ=>m=.v (.bool false)/\(∃b∈ps,a<b/\Parts ts ps a b n)/\∃y,ρ=gb ps ts n (some (.v (.int a))) y) (ps.map .int) (gb ps ts n (some (.v (.int a))) y) ⟨y,[],ps,rfl,rfl,λb hb=>(nomatch hb),rfl⟩ (λd rest ρ hP=>by
   obtain⟨y,dn,rs,q1,q2,q3,rfl⟩:=hP;cases rs with
   |nil=>cases q1
   |cons b rs=>
    obtain⟨rfl,rfl⟩:=CW q1;have hb:b∈ps:=by rw[<-q2]; simp
    refine⟨gb ps ts n (some (.v (.int a))) (some (.v (.int b))),by simp[gb],?_⟩
    by_cases c:a<b
    ·obtain⟨r,e1,e2⟩:=parted w (Ey c) n 8 ps hn (λ_ h=>h) nd ha hb
     unfold BK at e1;cases r with
     |true=>exact .inr ⟨.v (.bool false),gb ps ts n (some (.v (.int a))) (some (.v (.int b))),by simp[AQ,gb,c,e1],rfl,⟨b,hb,c,e2.mp rfl⟩,_,rfl⟩
     |false=>
      refine .inl ⟨gb ps ts n (some (.v (.int a))) (some (.v (.int b))),by simp[AQ,gb,c,e1],_,dn++[b],rs,rfl,by rw[C8]; exact q2,λu hu hau=>?_,rfl⟩
      rcases lM hu with z | z
      ·exact q3 u z hau
      ·rw[B1.mp z]; exact λz=>nomatch e2.mpr z
    ·refine .inl ⟨gb ps ts n (some (.v (.int a))) (some (.v (.int b))),by simp[AQ,gb,c],_,dn++[b],rs,rfl,by rw[C8]; exact q2,λu hu hau=>?_,rfl⟩
     rcases lM hu with z | z
     ·exact q3 u z hau
     ·exact absurd (by rw[B1.mp z] at hau; exact hau) c) with⟨ρ',e,y',dn,rs,q1,q2,q3,rfl⟩ | ⟨m,ρ',e,rfl,hp,y',rfl⟩
 ·have:rs=[]:=by cases rs with | nil=>rfl | cons _ _=>cases q1
  subst this;rw[Bn] at q2;subst q2;exact .inl ⟨y',e,q3⟩
 ·exact .inr ⟨y',e,hp⟩
theorem uZ(w:g9 ps ts){n:Nat}(hn:n<8):∃r:Bool,FF.bW [.v (wD ps ts),.v (.int (n:Int))]=some (.v (.bool r),[.v (wD ps ts),.v (.int (n:Int))])/\(r=true↔Holds ps ts n):=by
 have s1:bA 2 (dZ (aa 0) (vC (.int 0))) [some (.v (wD ps ts)),some (.v (.int (n:Int))),none,none,none]=some (.nx (gb ps ts n none none)):=by
  simp[gb,iS,oh]
 by_cases hl:n<ps.length
 ·have hl':¬ ((ps.length:Int)<=n):=by lia
  have s2:cA (aL (vB vf (dY dD (ai (aa 2))) (aa 1))) (bJ (vC (.bool false))) aW (gb ps ts n none none)=some (.nx (gb ps ts n none none)):=by
   simp[gb,tI,hl']
  have hi:∀x y,aP (aa 2) (gb ps ts n x y)=some (ps.map .int,gb ps ts n x y):=λx y=>by simp[gb,tI]
  rcases fQ (fg:=af 3) (fb:=cJ (aP (aa 2)) (af 4) AQ) (P:=λrest ρ=>∃ (x y:Option M) (dn rs:List Int),rest=rs.map .int/\dn++rs=ps/\(∀a∈dn,∀b∈ps,a<b->¬Parts ts ps a b n)/\ρ=gb ps ts n x y)
   (Q:=λm ρ=>m=.v (.bool false)/\(∃a∈ps,∃b∈ps,a<b/\Parts ts ps a b n)/\∃x y,ρ=gb ps ts n x y) (ps.map .int) (gb ps ts n none none) ⟨none,none,[],ps,rfl,rfl,λb hb=>(nomatch hb),rfl⟩ (λd rest ρ hP=>by
    obtain⟨x,y,dn,rs,q1,q2,q3,rfl⟩:=hP;cases rs with
    |nil=>cases q1
    |cons a rs=>
     obtain⟨rfl,rfl⟩:=CW q1;have ha:a∈ps:=by rw[<-q2]; simp
     refine⟨gb ps ts n (some (.v (.int a))) y,by simp[gb],?_⟩
     rcases ho_in w hn ha y with⟨y',e,h⟩ | ⟨y',e,b,hb,h1,h2⟩
     ·refine .inl ⟨gb ps ts n (some (.v (.int a))) y',by rw[bB,hi]; exact e,_,y',dn++[a],rs,rfl,by rw[C8]; exact q2,λu hu=>?_,rfl⟩
      rcases lM hu with z | z
      ·exact q3 u z
      ·rw[B1.mp z]; exact h
     ·exact .inr ⟨_,_,by rw[bB,hi]; exact e,rfl,⟨a,ha,b,hb,h1,h2⟩,_,_,rfl⟩) with⟨ρ',e,x,y,dn,rs,q1,q2,q3,rfl⟩ | ⟨m,ρ',e,rfl,⟨a,ha,b,hb,h1,h2⟩,x,y,rfl⟩
  ·have:rs=[]:=by cases rs with | nil=>rfl | cons _ _=>cases q1
   subst this;rw[Bn] at q2;subst q2;refine⟨true,bg (ρ:=gb dn ts n x y) rfl ?_ rfl,⟨λ_=>⟨hl,q3⟩,λ_=>rfl⟩⟩
   show FF.bD [some (.v (wD dn ts)),some (.v (.int (n:Int))),none,none,none]=_;refine(ao s1).trans ((ao s2).trans ((ao (ρ1:=gb dn ts n x y) ?_).trans (by simp)))
   rw[bB,hi];exact e
  ·refine⟨false,bg (ρ:=gb ps ts n x y) rfl ?_ rfl,⟨λz=>(nomatch z),λz=>absurd h2 (z.2 a ha b hb h1)⟩⟩
   show FF.bD [some (.v (wD ps ts)),some (.v (.int (n:Int))),none,none,none]=_;refine(ao s1).trans ((ao s2).trans (dX ?_));rw[bB,hi];exact e
 ·have hl':(ps.length:Int)<=n:=by lia
  refine⟨false,bg (ρ:=gb ps ts n none none) rfl ?_ rfl,⟨λz=>(nomatch z),λz=>absurd z.1 hl⟩⟩
  show FF.bD [some (.v (wD ps ts)),some (.v (.int (n:Int))),none,none,none]=_;refine(ao s1).trans (dX ?_);simp[gb,tI,hl']
end
theorem u0(neg:Bool)(ns:List Int)(a:Int):ic neg (.v (.int a)) (.lst (ns.map .int))=some (.v (.bool (if neg then !decide (a∈ns) else decide (a∈ns)))):=qy neg ns a
theorem in_list(neg:Bool)(ns:List Int)(a:Int):ic neg (.v (.int a)) (.v (.list (ns.map .int)))=some (.v (.bool (if neg then !decide (a∈ns) else decide (a∈ns)))):=qy neg ns a
section
variable{ps S:List Int}{ts:List (Int×Int)}{h:Int}
structure Fd(ts:List (Int×Int))(S:List Int)(h:Int)(F:List Int):Prop where
 nd:F.Nodup
 rc:∀x∈F,fR ts S h x
 st:h∈F
theorem Fd.len{F:List Int}(f:Fd ts S h F)(hh:h∈S):F.length<=S.length:=len_sub f.nd λx hx=>(f.rc x hx).or.elim (λe=>e▸hh) id
noncomputable abbrev gq(ps S:List Int)(ts:List (Int×Int))(F:List Int)(x3 x4 x5 x6 x7:Option M):Ev:=[some (.v (wD ps ts)),some (.v (.list (S.map .int))),some (.lst (F.map .int)),x3,x4,x5,x6,x7]
noncomputable abbrev Bh:FS:=(cA (ff (aL (vB (ic false) (aa 6) (aa 2))) (ff (aL (vB (ic false) (aa 7) (aa 1))) (aL (vB (ic true) (aa 7) (aa 2))))) (cB (gY 2 (ai (aa 7)))) aW)
noncomputable def rQ(S F:List Int)(u v:Int):List Int:=if u∈F/\v∈S/\v∉F then F++[v] else F
theorem hg_i{F:List Int}{u v:Int}{x3 x4 x5:Option M}(hF:F.length<1000000):Bh (gq ps S ts F x3 x4 x5 (some (.v (.int u))) (some (.v (.int v))))=some (.nx (gq ps S ts (rQ S F u v) x3 x4 x5 (some (.v (.int u))) (some (.v (.int v))))):=by
 have i1:=u0 false F u;have i2:=in_list false S v;have i3:=u0 true F v;unfold rQ
 by_cases c1:u∈F
 ·by_cases c2:v∈S
  ·by_cases c3:v∈F
   ·simp[Bh,gq,i1,i2,i3,c1,c2,c3]
   ·simp[Bh,gq,i1,i2,i3,c1,c2,c3,hF,lim]
  ·simp[Bh,gq,i1,i2,c1,c2]
 ·simp[Bh,gq,i1,c1]
theorem Fd.go{F:List Int}(f:Fd ts S h F){u v:Int}(ha:rL ts u v):Fd ts S h (rQ S F u v):=by
 unfold rQ
 split
 ·rename_i c
  refine⟨C2.mpr ⟨f.nd,by simp,λa ha b hb e=>c.2.2 (by simp at hb; rw[<-hb,<-e]; exact ha)⟩,λx hx=>?_,lL _ f.st⟩
  rcases lM hx with z | z
  ·exact f.rc x z
  ·rw[B1.mp z]; exact .step (f.rc u c.1) ha c.2.1
 ·exact f
theorem l9{F:List Int}{u v:Int}:(rQ S F u v=F/\(u∈F->v∈S->v∈F))\/F.length<(rQ S F u v).length:=by
 unfold rQ
 split
 ·right; simp
 ·rename_i c
  exact .inl ⟨rfl,λh1 h2=>Db λh3=>c ⟨h1,h2,h3⟩⟩
theorem pL{F:List Int}{u v:Int}:F.length<=(rQ S F u v).length:=by
 rcases l9 (S:=S) (F:=F) (u:=u) (v:=v) with z | z
 ·rw[z.1]; exact C1 _
 ·exact DP z
noncomputable abbrev BN:FS:=(cJ (aP (gf (ak (gf (ak (aa 4) (ai (aa 5)))) (ai (gf (ak (aa 5) (ai (aa 4)))))))) (bC 2 (aA (af 6) (aA (af 7) bE))) Bh)
theorem hg_t{F:List Int}{t:Int×Int}{x3 x6 x7:Option M}(hF:F.length<999999):BN (gq ps S ts F x3 (some (.v (.int t.1))) (some (.v (.int t.2))) x6 x7)=some (.nx (gq ps S ts (rQ S (rQ S F t.1 t.2) t.2 t.1) x3 (some (.v (.int t.1))) (some (.v (.int t.2))) (some (.v (.int t.2))) (some (.v (.int t.1))))):=by
 have e1:=hg_i (ps:=ps) (S:=S) (ts:=ts) (F:=F) (u:=t.1) (v:=t.2) (x3:=x3) (x4:=some (.v (.int t.1))) (x5:=some (.v (.int t.2))) (by lia)
 have hl:(rQ S F t.1 t.2).length<=F.length+1:=by unfold rQ; split <;> simp
 have e2:=hg_i (ps:=ps) (S:=S) (ts:=ts) (F:=rQ S F t.1 t.2) (u:=t.2) (v:=t.1) (x3:=x3) (x4:=some (.v (.int t.1))) (x5:=some (.v (.int t.2))) (by lia)
 have hi:aP (gf (ak (gf (ak (aa 4) (ai (aa 5)))) (ai (gf (ak (aa 5) (ai (aa 4))))))) (gq ps S ts F x3 (some (.v (.int t.1))) (some (.v (.int t.2))) x6 x7)=some ([pD t,pD (t.2,t.1)],gq ps S ts F x3 (some (.v (.int t.1))) (some (.v (.int t.2))) x6 x7):=by
  simp[gq,lim]
 show cJ _ _ _ _=_;rw[bB,hi,DI];unfold forL;have g1:∀(G:List Int)(u:Int×Int)(y6 y7:Option M),bC 2 (aA (af 6) (aA (af 7) bE)) (pD u) (gq ps S ts G x3 (some (.v (.int t.1))) (some (.v (.int t.2))) y6 y7)=some (gq ps S ts G x3 (some (.v (.int t.1))) (some (.v (.int t.2))) (some (.v (.int u.1))) (some (.v (.int u.2)))):=λG u y6 y7=>by simp[gq]
 rw[g1,DI,e1,DI];dsimp only;unfold forL;rw[g1,DI,e2];rfl
def u7(ts:List (Int×Int))(S F:List Int):Prop:=∀x∈F,∀y,rL ts x y->y∈S->y∈F
theorem u7.all{F:List Int}(s:u7 ts S F)(hF:h∈F){x:Int}(r:fR ts S h x):x∈F:=by
 induction r with
 |base=>exact hF
 |step _ h1 h2 ih=>exact s _ ih _ h1 h2
theorem hg_r{F:List Int}{x3 x4 x5 x6 x7:Option M}(hh:h∈S)(hS:S.length<=1000)(f:Fd ts S h F):∃F' y4 y5 y6 y7,Fd ts S h F'/\((F'=F/\u7 ts S F)\/F.length<F'.length) /\
  cJ (aP (dZ (aa 0) (vC (.int 1)))) (bC 2 (aA (af 4) (aA (af 5) bE))) BN (gq ps S ts F x3 x4 x5 x6 x7)=some (.nx (gq ps S ts F' x3 y4 y5 y6 y7)):=by
 obtain⟨ρ',e,F',y4,y5,y6,y7,dn,rs,q1,q2,q3,q4,rfl⟩:=cU (fg:=bC 2 (aA (af 4) (aA (af 5) bE))) (fb:=BN) (P:=λrest ρ=>∃ (F':List Int) (y4 y5 y6 y7:Option M) (dn rs:List (Int×Int)),rest=rs.map pD/\dn++rs=ts/\Fd ts S h F'/\((F'=F/\∀t∈dn,(t.1∈F->t.2∈S->t.2∈F)/\(t.2∈F->t.1∈S->t.1∈F))\/F.length<F'.length)/\ρ=gq ps S ts F' x3 y4 y5 y6 y7)
  (ts.map pD) (gq ps S ts F x3 x4 x5 x6 x7) ⟨F,x4,x5,x6,x7,[],ts,rfl,rfl,f,.inl ⟨rfl,λt ht=>(nomatch ht)⟩,rfl⟩ (λd rest ρ hP=>by
   obtain⟨F',y4,y5,y6,y7,dn,rs,q1,q2,q3,q4,rfl⟩:=hP;cases rs with
   |nil=>cases q1
   |cons t rs=>
    obtain⟨rfl,rfl⟩:=CW q1;have ht:t∈ts:=by rw[<-q2]; simp
    have hl:=q3.len hh;refine⟨gq ps S ts F' x3 (some (.v (.int t.1))) (some (.v (.int t.2))) y6 y7,_,by simp[gq],hg_t (by lia),_,_,_,_,_,dn++[t],rs,rfl,by rw[C8]; exact q2,(q3.go (.inl ht)).go (.inr ht),?_,rfl⟩
    rcases q4 with⟨rfl,q4⟩ | q4
    ·rcases l9 (S:=S) (F:=F') (u:=t.1) (v:=t.2) with⟨z1,z2⟩ | z
     ·rw[z1]
      rcases l9 (S:=S) (F:=F') (u:=t.2) (v:=t.1) with⟨z3,z4⟩ | z
      ·rw[z3]
       refine .inl ⟨rfl,λu hu=>?_⟩
       rcases lM hu with y | y
       ·exact q4 u y
       ·rw[B1.mp y]; exact⟨z2,z4⟩
      ·exact .inr z
     ·exact .inr (CD z pL)
    ·exact .inr (CD q4 (DB pL pL)))
 have:rs=[]:=by cases rs with | nil=>rfl | cons _ _=>cases q1
 subst this;rw[Bn] at q2;subst q2;refine⟨F',y4,y5,y6,y7,q3,q4.imp (λz=>⟨z.1,λx hx y ha hy=>?_⟩) id,?_⟩
 ·rcases ha with ha | ha
  ·exact(z.2 _ ha).1 hx hy
  ·exact(z.2 _ ha).2 hx hy
 ·have hi:aP (dZ (aa 0) (vC (.int 1))) (gq ps S dn F x3 x4 x5 x6 x7)=some (dn.map pD,gq ps S dn F x3 x4 x5 x6 x7):=by
   simp[gq,iS,oh]
  rw[bB,hi];exact e
def rR(ts:List (Int×Int))(S:List Int):Prop:=∀a∈S,∀b∈S,fR ts S a b
theorem hangs(hne:S≠[])(ndS:S.Nodup)(hS:S.length<=1000):∃r:Bool,FF.bK [.v (wD ps ts),.lst (S.map .int)]=some (.v (.bool r),[.v (wD ps ts),.v (.list (S.map .int))])/\(r=true↔rR ts S):=by
 obtain⟨h,T,rfl⟩:∃h T,S=h::T:=by
  cases S with
  |nil=>exact absurd rfl hne
  |cons h T=>exact⟨h,T,rfl⟩
 generalize hSe:h::T=S at *;have hh:h∈S:=by rw[<-hSe]; exact lS
 obtain⟨ρ',e,F,y3,y4,y5,y6,y7,dn,rs,q1,q2,q3,q4,rfl⟩:=cU (fg:=af 3) (fb:=cJ (aP (dZ (aa 0) (vC (.int 1)))) (bC 2 (aA (af 4) (aA (af 5) bE))) BN) (P:=λrest ρ=>∃ (F:List Int) (y3 y4 y5 y6 y7:Option M) (dn rs:List Int),rest=rs.map .int/\dn++rs=S/\Fd ts S h F/\(u7 ts S F\/dn.length<F.length)/\ρ=gq ps S ts F y3 y4 y5 y6 y7)
  (S.map .int) (gq ps S ts [h] none none none none none) ⟨[h],none,none,none,none,none,[],S,rfl,rfl,⟨by simp,λx hx=>by rw[B1.mp hx]; exact .base,lS⟩,.inr (by simp),rfl⟩ (λd rest ρ hP=>by
   obtain⟨F,y3,y4,y5,y6,y7,dn,rs,q1,q2,q3,q4,rfl⟩:=hP;cases rs with
   |nil=>cases q1
   |cons t rs=>
    obtain⟨rfl,rfl⟩:=CW q1;obtain⟨F',z4,z5,z6,z7,a1,a2,a3⟩:=hg_r (ps:=ps) (x3:=some (.v (.int t))) (x4:=y4) (x5:=y5) (x6:=y6) (x7:=y7) hh hS q3;refine⟨gq ps S ts F (some (.v (.int t))) y4 y5 y6 y7,_,by simp[gq],a3,F',_,z4,z5,z6,z7,dn++[t],rs,rfl,by rw[C8]; exact q2,a1,?_,rfl⟩
    rw[C4];rcases a2 with⟨rfl,z⟩ | z
    ·exact .inl z
    ·rcases q4 with y | y
     ·have:=len_sub a1.nd λx hx=>y.all q3.st (a1.rc x hx)
      lia
     ·right; simp; lia)
 have:rs=[]:=by cases rs with | nil=>rfl | cons _ _=>cases q1
 subst this;rw[Bn] at q2;subst q2;have hl:=q3.len hh;have hsh:u7 ts dn F:=q4.elim id λz=>absurd z (by lia)
 refine⟨decide (F.length=dn.length),bg (ρ:=gq ps dn ts F y3 y4 y5 y6 y7) rfl ?_ rfl,?_⟩
 ·show FF.cQ [some (.v (wD ps ts)),some (.lst (dn.map .int)),none,none,none,none,none,none]=_
  have hc:cutD (dn.map CO) none (some 1)=[.int h]:=by
   rw[show (1:Int)=((1:Nat):Int) from rfl,kQ,<-hSe]
   rfl
  have hls:iM [.lst [.int h]]=some (.lst [.int h]):=rfl;refine(ao (ρ1:=[some (.v (wD ps ts)),some (.lst (dn.map .int)),some (.lst [.int h]),none,none,none,none,none]) (by simp[hc,hls])).trans ?_
  refine(ao (ρ1:=gq ps dn ts F y3 y4 y5 y6 y7) ?_).trans ?_
  ·have hi:aP (aa 1) [some (.v (wD ps ts)),some (.lst (dn.map .int)),some (.lst [.int h]),none,none,none,none,none]=some (dn.map .int,gq ps dn ts [h] none none none none none):=by
    simp[gq]
   rw[bB,hi];exact e
  ·have en:gK true (.v (.list (dn.map .int))) (.lst [])=some (.v (.bool true)):=by
    have:=eq_nil true dn;rw[<-hSe] at this ⊢;exact this
   have hd:decide ((F.length:Int)=dn.length)=decide (F.length=dn.length):=by
    by_cases c:F.length=dn.length
    ·simp[c]
    ·have:¬ ((F.length:Int)=dn.length):=by lia
     simp[c,this]
   simp[gq,en,lim,hd]
 ·rw[decide_eq_true_iff]
  constructor
  ·intro hlen a ha b hb
   have hsub:∀x∈dn,x∈F:=by
    intro x hx;refine Db λhx' =>?_
    have:=len_sub (l:=x::F) (m:=dn) (CJ.mpr ⟨hx',q3.nd⟩) λy hy=>by
     rcases lK hy with z | z
     ·exact z▸hx
     ·exact(q3.rc y z).or.elim (λe=>e▸hh) id
    rw[BM] at this;lia
   exact fR.trans (fR.symm (q3.rc a (hsub a ha)) hh) (q3.rc b (hsub b hb))
  ·intro hc
   refine Nat.le_antisymm hl (len_sub ndS λx hx=>hsh.all q3.st (hc h hh x hx))
end
noncomputable def sel:Nat->List Int->List Int
 |_,[]=>[]
 |m,p::ps=>if m % 2=0 then p::sel (m / 2) ps else sel (m / 2) ps
theorem i0:∀(m:Nat)(ps:List Int),(sel m ps).Sublist ps
 |_,[]=>.slnil
 |m,p::ps=>by
  unfold sel
  split
  ·exact(i0 (m / 2) ps).cons₂ p
  ·exact(i0 (m / 2) ps).cons p
theorem u9(q:Int->Bool):∀ps:List Int,∃m,m<2 ^ ps.length/\sel m ps=ps.filter q
 |[]=>⟨0,by simp,rfl⟩
 |p::ps=>by
  obtain⟨m,h1,h2⟩:=u9 q ps;have h3:2 ^ (p::ps).length=2*2 ^ ps.length:=by rw[BM,Nat.pow_succ,Nat.mul_comm]
  by_cases c:q p=true
  ·refine⟨2*m,by lia,?_⟩
   unfold sel;rw[if_pos (by lia),show 2*m / 2=m by lia,h2,El,if_pos c]
  ·refine⟨2*m+1,by lia,?_⟩
   unfold sel;rw[if_neg (by lia),show (2*m+1) / 2=m by lia,h2,El,if_neg c]
theorem bit0(m k:Nat):p8 (.v (.int ((m:Int) / 2 ^ k))) (.v (.int 1))=some (.v (.int ((m / 2 ^ k % 2:Nat):Int))):=by
 have e:(m:Int) / 2 ^ k=((m / 2 ^ k:Nat):Int):=by simp
 rw[e];show some (M.v (.int (Eu ((m / 2 ^ k:Nat):Int) 1)))=_;unfold Eu;have h0:(0:Int)<=((m / 2 ^ k:Nat):Int):=I0 _;simp only[h0,decide_true,show (0:Int)<=1 by decide]
 rw[DF,show (1:Int).toNat=1 from rfl,Nat.and_one_is_mod]
noncomputable abbrev Bv:FT:=aL (vB (gK false) (vB p8 (vB shrM (aa 2) (aa 0)) (vC (.int 1))) (vC (.int 0)))
theorem vc{m:Nat}{ps:List Int}(hl:ps.length<=24):∃x y,cK (bC 2 (aA (af 0) (aA (af 1) bE))) Bv (aa 1) (c9 0 ps) [none,none,some (.v (.int (m:Int)))] []=some ((sel m ps).map .int,[x,y,some (.v (.int (m:Int)))]):=by
 obtain⟨acc,ρ,e,k,rs,x,y,h1,h2,h3,rfl⟩:=uE (fg:=bC 2 (aA (af 0) (aA (af 1) bE))) (ft:=Bv) (fe:=aa 1) (P:=λrest acc ρ=>∃ (k:Nat) (rs:List Int) (x y:Option M),rest=c9 k rs/\acc++(sel (m / 2 ^ k) rs).map .int=(sel m ps).map .int/\acc.length+rs.length<=24/\ρ=[x,y,some (.v (.int (m:Int)))])
  (c9 0 ps) [none,none,some (.v (.int (m:Int)))] [] ⟨0,ps,none,none,rfl,by simp,by simpa using hl,rfl⟩ (λd rest acc ρ hP=>by
   obtain⟨k,rs,x,y,q1,q2,q3,rfl⟩:=hP;cases rs with
   |nil=>cases q1
   |cons p rs=>
    obtain⟨rfl,rfl⟩:=CW q1;have hb:=bit0 m k;have hs:shrM (.v (.int (m:Int))) (.v (.int (k:Int)))=some (.v (.int ((m:Int) / 2 ^ k))):=by
     show (if decide (0<=(k:Int))=true then some (M.v (.int ((m:Int) / 2 ^ (k:Int).toNat))) else none)=_
     rw[if_pos (by simp),DF]
    rw[BM] at q3;rw[show sel (m / 2 ^ k) (p::rs)=if m / 2 ^ k % 2=0 then p::sel (m / 2 ^ k / 2) rs else sel (m / 2 ^ k / 2) rs from rfl] at q2
    have hd:m / 2 ^ k / 2=m / 2 ^ (k+1):=by rw[Nat.div_div_eq_div_mul,Nat.pow_succ]
    rw[hd] at q2;refine⟨by unfold lim; lia,[some (.v (.int (k:Int))),some (.v (.int p)),some (.v (.int (m:Int)))],decide (m / 2 ^ k % 2=0),[some (.v (.int (k:Int))),some (.v (.int p)),some (.v (.int (m:Int)))],by simp,?_,?_⟩
    ·have:decide (((m / 2 ^ k % 2:Nat):Int)=0)=decide (m / 2 ^ k % 2=0):=by
      by_cases c:m / 2 ^ k % 2=0
      ·simp[c]
      ·have:¬ (((m / 2 ^ k % 2:Nat):Int)=0):=by lia
       rw[decide_eq_false c,decide_eq_false this]
     generalize m / 2 ^ k % 2=z at hb this;simp only[Bv,xB,yu,qu,at?_s,yr,DI,qt,uA,hs,yt,hb,eq_int,xA,this]
    ·by_cases c:m / 2 ^ k % 2=0
     ·rw[if_pos c] at q2
      exact .inr ⟨decide_eq_true c,.t (.v (.int p)),_,.int p,_,by simp; exact⟨rfl,rfl⟩,rfl,k+1,rs,_,_,rfl,by rw[<-q2,CC,C8]; rfl,by rw[C4]; simp; lia,rfl⟩
     ·rw[if_neg c] at q2
      exact .inl ⟨decide_eq_false c,k+1,rs,_,_,rfl,q2,by lia,rfl⟩)
 have:rs=[]:=by cases rs with | nil=>rfl | cons _ _=>cases h1
 subst this;rw[show sel (m / 2 ^ k) []=[] from rfl,ER,Bn] at h2
 subst h2;exact⟨x,y,e⟩
theorem jP(q:Int->Bool):∀l:List Int,l.length=(l.filter q).length+(l.filter λy=> !q y).length
 |[]=>rfl
 |a::l=>by
  have:=jP q l;cases h:q a <;> simp[h] <;> lia
section
variable{ps:List Int}{ts:List (Int×Int)}
def Due(ps:List Int)(ts:List (Int×Int))(n:Nat):Prop:=n<ps.length/\∀m,m<2 ^ ps.length->ps.length<=n+(sel m ps).length->rR ts (sel m ps)
theorem rS(w:g9 ps ts){n:Nat}:Due ps ts n↔Holds ps ts n:=by
 have nd:ps.Nodup:=w.rise.imp λh=>Ey h
 constructor
 ·rintro⟨hl,h⟩
  refine⟨hl,λa ha b hb _ hp=>?_⟩
  obtain⟨X,h1,h2,h3,h4⟩:=hp;obtain⟨m,hm,e⟩:=u9 (λy=> !X.contains y) ps
  refine h4 ?_;have hc:=h m hm (by
   rw[e];have h5:=jP (λy=>X.contains y) ps
   have h6:=len_sub (l:=ps.filter λy=>X.contains y) (m:=X) (nd.sublist HZ) λx hx=>by
    have:=(CM.mp hx).2;simpa using this
   lia)
  rw[e] at hc;exact hc a (CM.mpr ⟨ha,by simpa using h2⟩) b (CM.mpr ⟨hb,by simpa using h3⟩)
 ·rintro⟨hl,h⟩
  refine⟨hl,λm hm hle=>?_⟩
  have hsub:=i0 m ps;generalize sel m ps=S at hle hsub;have key:∀a∈S,∀b∈S,a<b->fR ts S a b:=λa ha b hb hab=>Db λhn=>by
   refine h a (hsub.subset ha) b (hsub.subset hb) hab ⟨ps.filter λy=> !S.contains y,?_,λz=>?_,λz=>?_,λz=>hn (fR.mono z λy hy=>?_)⟩
   ·have h5:=jP (λy=>S.contains y) ps
    have h6:=len_sub (l:=S) (m:=ps.filter λy=>S.contains y) (nd.sublist hsub) λx hx=>CM.mpr ⟨hsub.subset hx,by simpa using hx⟩
    lia
   ·have:=(CM.mp z).2
    simp at this;exact this ha
   ·have:=(CM.mp z).2
    simp at this;exact this hb
   ·obtain⟨y1,y2⟩:=CM.mp hy
    simp at y2;exact y2.elim (λq=>absurd y1 q) id
  intro a ha b hb;rcases Int.lt_trichotomy a b with c | c | c
  ·exact key a ha b hb c
  ·subst c; exact .base
  ·exact fR.symm (key b hb a ha c) hb
end
section
variable{ps:List Int}{ts:List (Int×Int)}
noncomputable abbrev fS(ps:List Int)(ts:List (Int×Int))(n:Nat)(x y:Option M):Ev:=[some (.v (wD ps ts)),some (.v (.int (n:Int))),x,y]
noncomputable abbrev BZ:FS:=(aH (bA 3 (qk 2 [2] (bN (dZ (aa 0) (vC (.int 0)))) (bC 2 (aA (af 0) (aA (af 1) bE))) Bv (aa 1)))
 (cA (ff (aL (vB vf (vB nh (dY dD (ai (dZ (aa 0) (vC (.int 0))))) (dY dD (ai (aa 3)))) (aa 1))) (nc (jx (ie FF.bK (ak (aa 0) (ai (aa 3))))))) (bJ (vC (.bool false))) aW))
theorem B0(ps:List Int)(ts:List (Int×Int)):iS [tI ps,tD ts] 0=some (tI ps):=rfl
theorem xW(w:g9 ps ts){n:Nat}(hn:n<ps.length)(m:Nat)(y:Option M):∃y',(BZ (fS ps ts n (some (.v (.int (m:Int)))) y)=some (.nx (fS ps ts n (some (.v (.int (m:Int)))) y'))/\(ps.length<=n+(sel m ps).length->rR ts (sel m ps))) \/
  (BZ (fS ps ts n (some (.v (.int (m:Int)))) y)=some (.rt (.v (.bool false)) (fS ps ts n (some (.v (.int (m:Int)))) y'))/\ps.length<=n+(sel m ps).length/\¬rR ts (sel m ps)):=by
 have nd:ps.Nodup:=w.rise.imp λh=>Ey h
 obtain⟨x0,x1,ec⟩:=vc (m:=m) (ps:=ps) w.few;have hsub:=i0 m ps;have hle:=hsub.length_le;generalize hS:sel m ps=S at ec hsub hle;have hi:bN (dZ (aa 0) (vC (.int 0))) (fS ps ts n (some (.v (.int (m:Int)))) y)=some (c9 0 ps,fS ps ts n (some (.v (.int (m:Int)))) y):=by
  have:=B0 ps ts;unfold bN;simp[fS,this];simp[tI,gJ]
 have s1:bA 3 (qk 2 [2] (bN (dZ (aa 0) (vC (.int 0)))) (bC 2 (aA (af 0) (aA (af 1) bE))) Bv (aa 1)) (fS ps ts n (some (.v (.int (m:Int)))) y)=some (.nx (fS ps ts n (some (.v (.int (m:Int)))) (some (.lst (S.map .int))))):=by
  rw[xC,AG,hi];simp[fS,ec]
 have h0:=B0 ps ts;have hw:=w.few
 by_cases c:ps.length<=n+S.length
 ·have hne:S≠[]:=λe=>by rw[e] at c; simp at c; lia
  obtain⟨r,e1,e2⟩:=hangs (ps:=ps) (ts:=ts) hne (nd.sublist hsub) (by lia)
  have c':(ps.length:Int)-S.length<=n:=by lia
  cases r with
  |true=>
   refine⟨_,.inl ⟨(ao s1).trans (?_:_=some (Out.nx (fS ps ts n (some (.v (.int (m:Int)))) (some (.v (.list (S.map .int))))))),λ_=>e2.mp rfl⟩⟩
   unfold tI at h0;simp[fS,tI,h0,c',e1]
  |false=>
   refine⟨_,.inr ⟨(ao s1).trans (?_:_=some (Out.rt (.v (.bool false)) (fS ps ts n (some (.v (.int (m:Int)))) (some (.v (.list (S.map .int))))))),c,λz=>nomatch e2.mpr z⟩⟩
   unfold tI at h0;simp[fS,tI,h0,c',e1]
 ·have c':¬ ((ps.length:Int)-S.length<=n):=by lia
  refine⟨_,.inl ⟨(ao s1).trans (?_:_=some (Out.nx (fS ps ts n (some (.v (.int (m:Int)))) (some (.lst (S.map .int)))))),λz=>absurd z c⟩⟩
  unfold tI at h0;simp[fS,tI,h0,c']
theorem due(w:g9 ps ts){n:Nat}:∃r:Bool,FF.cF [.v (wD ps ts),.v (.int (n:Int))]=some (.v (.bool r),[.v (wD ps ts),.v (.int (n:Int))])/\(r=true↔Holds ps ts n):=by
 rw[<-rS w];have h0:=B0 ps ts;have hw:=w.few
 by_cases hl:n<ps.length
 ·have hl':¬ ((ps.length:Int)<=n):=by lia
  have s1:cA (aL (vB vf (dY dD (ai (dZ (aa 0) (vC (.int 0))))) (aa 1))) (bJ (vC (.bool false))) aW (fS ps ts n none none)=some (.nx (fS ps ts n none none)):=by
   unfold tI at h0;simp[fS,tI,h0,hl']
  have hp:2 ^ ps.length<=2 ^ 24:=Nat.pow_le_pow_right (by lia) hw
  have hp2:(2:Nat) ^ 24=16777216:=by decide
  have hi:fL iR (ai (vB shlM (vC (.int 1)) (dY dD (ai (dZ (aa 0) (vC (.int 0))))))) (fS ps ts n none none)=some ((CG (2 ^ ps.length)).map λk:Nat=>CO (0+(k:Int)),fS ps ts n none none):=by
   have hsh:shlM (.v (.int 1)) (.v (.int (ps.length:Int)))=some (.v (.int ((2 ^ ps.length:Nat):Int))):=by
    show (if decide (0<=(ps.length:Int)/\(ps.length:Int)<=1000000/\(1:Int).natAbs<2 ^ 64)=true then some (M.v (.int (1*2 ^ (ps.length:Int).toNat))) else none)=_
    rw[if_pos (decide_eq_true ⟨by lia,by lia,by decide⟩),DF,Int.one_mul]
    simp
   have hsm:iD ((2 ^ ps.length:Nat):Int)=true:=decide_eq_true (by unfold rA; generalize 2 ^ ps.length=z at hp ⊢; lia)
   have hr:cC 0 ((2 ^ ps.length:Nat):Int)=(CG (2 ^ ps.length)).map λk:Nat=>CO (0+(k:Int)):=by
    unfold cC
    congr 2
   unfold tI at h0;generalize 2 ^ ps.length=z at hsh hsm hr;simp only[uD,uB,yu,yt,AE,AF,qu,fS,yr,DI,uA,qt,ixO_t,uC,tI,h0,pg,rH,xG,C0,hsh,xD,hsm,if_true,hr]
  rcases fQ (fg:=af 2) (fb:=BZ) (P:=λrest ρ=>∃ (x y:Option M) (dn rs:List Nat),rest=rs.map (λk:Nat=>CO (0+(k:Int)))/\dn++rs=CG (2 ^ ps.length)/\(∀m∈dn,ps.length<=n+(sel m ps).length->rR ts (sel m ps))/\ρ=fS ps ts n x y)
   (Q:=λm ρ=>m=.v (.bool false)/\(∃m,m<2 ^ ps.length/\ps.length<=n+(sel m ps).length/\¬rR ts (sel m ps))/\∃x y,ρ=fS ps ts n x y) _ (fS ps ts n none none) ⟨none,none,[],CG (2 ^ ps.length),rfl,rfl,λm hm=>(nomatch hm),rfl⟩ (λd rest ρ hP=>by
    obtain⟨x,y,dn,rs,q1,q2,q3,rfl⟩:=hP;cases rs with
    |nil=>cases q1
    |cons m rs=>
     obtain⟨rfl,rfl⟩:=CW q1;have hm:m<2 ^ ps.length:=E9.mp (by rw[<-q2]; simp)
     refine⟨fS ps ts n (some (.v (.int (m:Int)))) y,by simp[fS],?_⟩
     obtain⟨y',h | h⟩:=xW w hl m y
     ·refine .inl ⟨_,h.1,_,y',dn++[m],rs,rfl,by rw[C8]; exact q2,λu hu=>?_,rfl⟩
      rcases lM hu with z | z
      ·exact q3 u z
      ·rw[B1.mp z]; exact h.2
     ·exact .inr ⟨_,_,h.1,rfl,⟨m,hm,h.2⟩,_,_,rfl⟩) with⟨ρ',e,x,y,dn,rs,q1,q2,q3,rfl⟩ | ⟨m,ρ',e,rfl,⟨m,hm,h1,h2⟩,x,y,rfl⟩
  ·have:rs=[]:=by cases rs with | nil=>rfl | cons _ _=>cases q1
   subst this;rw[Bn] at q2;subst q2;refine⟨true,bg (ρ:=fS ps ts n x y) rfl ?_ rfl,⟨λ_=>⟨hl,λm hm=>q3 m (E9.mpr hm)⟩,λ_=>rfl⟩⟩
   show FF.bL (fS ps ts n none none)=_;refine(ao s1).trans ((ao (ρ1:=fS ps ts n x y) ?_).trans (by simp))
   rw[bB,hi];exact e
  ·refine⟨false,bg (ρ:=fS ps ts n x y) rfl ?_ rfl,⟨λz=>(nomatch z),λz=>absurd (z.2 m hm h1) h2⟩⟩
   show FF.bL (fS ps ts n none none)=_;refine(ao s1).trans (dX ?_);rw[bB,hi];exact e
 ·have hl':(ps.length:Int)<=n:=by lia
  refine⟨false,bg (ρ:=fS ps ts n none none) rfl ?_ rfl,⟨λz=>(nomatch z),λz=>absurd z.1 hl⟩⟩
  show FF.bL (fS ps ts n none none)=_;refine dX ?_;unfold tI at h0;simp[fS,tI,h0,hl']
end
end PY
end
section
namespace PD
open PySem L2 VL PA PQ PN PS PY
noncomputable abbrev l47I:FS:=(aH (bA 5 (ie FF.bW (ak (aa 3) (ai (aa 4)))))
 (cA (AY (nc (jx (vU (tZ "bool") (aa 5)))) (aL (vB (gK true) (aa 5) (ie FF.cF (ak (aa 3) (ai (aa 4))))))) (bJ (vC (.bool false))) aW))
noncomputable abbrev l47B:FS:=(aH (bA 3 (ie FF.br (ai (aa 1))))
 (cJ (fL iR (ai (vC (.int 7)))) (af 4) l47I))
theorem l47_in{s:M}{m:M}{x2 x4 x5:Option M}{ps:List Int}{ts:List (Int×Int)}(w:g9 ps ts):∃y4 y5,forL (af 4) l47I ((CG 7).map λk:Nat=>CO (0+(k:Int))) [some s,some m,x2,some (.v (wD ps ts)),x4,x5]=some (.nx [some s,some m,x2,some (.v (wD ps ts)),y4,y5]):=by
 obtain⟨ρ',e,y4,y5,rs,q1,q2,rfl⟩:=cU (fg:=af 4) (fb:=l47I) (P:=λrest ρ=>∃ (y4 y5:Option M) (rs:List Nat),rest=rs.map (λk:Nat=>CO (0+(k:Int)))/\(∀k∈rs,k<8)/\ρ=[some s,some m,x2,some (.v (wD ps ts)),y4,y5]) _ [some s,some m,x2,some (.v (wD ps ts)),x4,x5] ⟨x4,x5,CG 7,rfl,λk hk=>by have:=E9.mp hk; lia,rfl⟩ (λd rest ρ hP=>by
  obtain⟨y4,y5,rs,q1,q2,rfl⟩:=hP;cases rs with
  |nil=>cases q1
  |cons k rs=>
   obtain⟨rfl,rfl⟩:=CW q1;obtain⟨r,e1,e2⟩:=uZ w (q2 k lS);obtain⟨r',e3,e4⟩:=due w (n:=k);have hr:r=r':=by
    cases r <;> cases r' <;> simp_all
   subst hr;have hb:subB "bool" "bool" = true:=rfl;refine⟨[some s,some m,x2,some (.v (wD ps ts)),some (.v (.int (k:Int))),y5],[some s,some m,x2,some (.v (wD ps ts)),some (.v (.int (k:Int))),some (.v (.bool r))],by simp,?_,_,_,rs,rfl,λj hj=>q2 j (lO _ hj),rfl⟩
   refine(ao (ρ1:=[some s,some m,x2,some (.v (wD ps ts)),some (.v (.int (k:Int))),some (.v (.bool r))]) (by simp[e1])).trans ?_
   simp[hb,e3])
 exact⟨y4,y5,e⟩
theorem law_k47(ns:List Int)(hl:ns.length<=63):∃ms,FF.nO [.v (.list (ns.map .int))]=some (.v (.bool true),ms):=by
 obtain⟨m0,h0,e0⟩:=PY.Cs ns hl;generalize hN:(3*(1+(if (ns.length:Int)<8 then (ns.length:Int) else 8)))=N
 have hN':0<=N/\N<=27:=by rw[<-hN]; split <;> lia
 obtain⟨n,rfl⟩:=H9 hN'.1;obtain⟨ρ',e,B,m,y2,y3,y4,y5,rs,q1,q2,q3,rfl⟩:=cU (fg:=af 2) (fb:=l47B) (P:=λrest ρ=>∃ (B:Nat) (m:M) (y2 y3 y4 y5:Option M) (rs:List Nat),rest=rs.map (λk:Nat=>CO (0+(k:Int)))/\Rp B m/\B+60*rs.length<=1800/\ρ=[some (.v (.list (ns.map .int))),some m,y2,y3,y4,y5]) ((CG n).map λk:Nat=>CO (0+(k:Int))) [some (.v (.list (ns.map .int))),some m0,none,none,none,none] ⟨0,m0,none,none,none,none,CG n,rfl,h0,by rw[Dv]; lia,rfl⟩ (λd rest ρ hP=>by
  obtain⟨B,m,y2,y3,y4,y5,rs,q1,q2,q3,rfl⟩:=hP;cases rs with
  |nil=>cases q1
  |cons k rs=>
   obtain⟨rfl,rfl⟩:=CW q1;rw[BM] at q3;obtain⟨m',ps,ts,a1,a2,_,_,a3⟩:=uS q2 (by lia)
   obtain⟨z4,z5,e1⟩:=l47_in (s:=.v (.list (ns.map .int))) (m:=m') (x2:=some (.v (.int (0+(k:Int))))) (x4:=y4) (x5:=y5) a2;obtain⟨od,sd,tn,rfl,_⟩:=q2;refine⟨[some (.v (.list (ns.map .int))),some (rD od sd tn),some (.v (.int (0+(k:Int)))),y3,y4,y5],[some (.v (.list (ns.map .int))),some m',some (.v (.int (0+(k:Int)))),some (.v (wD ps ts)),z4,z5],by simp,(ao (ρ1:=[some (.v (.list (ns.map .int))),some m',some (.v (.int (0+(k:Int)))),some (.v (wD ps ts)),y4,y5]) (by simp[a3])).trans ?_,B+60,m',_,_,z4,z5,rs,rfl,a1,by lia,rfl⟩
   have hr:fL iR (ai (vC (.int 7))) [some (.v (.list (ns.map .int))),some m',some (.v (.int (0+(k:Int)))),some (.v (wD ps ts)),y4,y5]=some ((CG 7).map λk:Nat=>CO (0+(k:Int)),[some (.v (.list (ns.map .int))),some m',some (.v (.int (0+(k:Int)))),some (.v (wD ps ts)),y4,y5]):=rfl
   rw[bB,hr];exact e1)
 refine⟨_,bg (ρ:=[some (.v (.list (ns.map .int))),some m,y2,y3,y4,y5]) rfl ?_ rfl⟩;show FF.gH [some (.v (.list (ns.map .int))),none,none,none,none,none]=_;obtain⟨od,sd,tn,rfl,_⟩:=h0;refine(ao (ρ1:=[some (.v (.list (ns.map .int))),some (rD od sd tn),none,none,none,none]) (by simp[e0])).trans ?_
 refine(ao (ρ1:=[some (.v (.list (ns.map .int))),some m,y2,y3,y4,y5]) ?_).trans (by simp)
 have hsm:iD (n:Int)=true:=decide_eq_true (by unfold rA; lia)
 have hr:cC 0 (n:Int)=(CG n).map λk:Nat=>CO (0+(k:Int)):=by
  unfold cC
  congr 2
 have hi:fL iR (ai (vB mulM (vC (.int 3)) (vB cY (vC (.int 1)) (dY tY (ak (vC (.int 8)) (ai (dY dD (ai (aa 0))))))))) [some (.v (.list (ns.map .int))),some (rD od sd tn),none,none,none,none]=some ((CG n).map λk:Nat=>CO (0+(k:Int)),[some (.v (.list (ns.map .int))),some (rD od sd tn),none,none,none,none]):=by
  simp[hN,hsm,hr]
 rw[bB,hi];exact e
end PD
end
section
namespace ZT
open PySem PySem.W L2 VL PyProof.Rows
theorem ln0{P:List Value->Prop}(h:P []):∀us,us.length=0->P us:=λus e=>by cases us with | nil=>exact h | cons _ _=>cases e
theorem lnS{n:Nat}{P:List Value->Prop}(h:∀a us,us.length=n->P (a::us)):∀us,us.length=n+1->P us:=λus e=>by cases us with | nil=>cases e | cons a us=>exact h a us (Nat.succ.inj e)
inductive FnP(K:Frag)(nm:Str)(st:Stmt):Prop
 |mk {f:Addr} {oc:Value} {od an:Option Addr} {osl:Array (Option Value)} {kV doc pm cdv ct:Value}:nsIn K CQ nm=some (some (.ref f))->K.lookup f=some ⟨oc,od,.func (fnOf nm nm (dJ st) (cy st) (av st) .none kV doc pm an cdv ct),osl⟩->FR K cdv nm=true->EV K (.ref f)=true->FnP K nm st
abbrev Pr(a:Str)(b:Stmt):Str×Stmt:=(a,b)
noncomputable def fr(h:Heap):Frag:=(CG h.objs.size).filterMap λa=>(h.get? a).map λo=>(a,o)
theorem lookup_mem{a:Addr}{o:Obj}:∀{K:Frag},K.lookup a=some o->(a,o)∈K
 |(b,p)::K,e=>by
  rw[CV] at e
  by_cases q:(a == b)=true
  ·rw[q] at e
   cases e;cases eq_of_beq q;exact .head _
  ·simp only[q] at e
   exact .tail _ (lookup_mem e)
theorem fr_in(h:Heap):(fr h).In h:=by
 intro a o e;obtain⟨b,_,e⟩:=Fi.mp (lookup_mem e);obtain⟨p,e,q⟩:=D9.mp e;cases q;exact e
abbrev Part:=(Str×Str×Hg×FuncBody)×Scope×Addr×List (Str×Addr)×Value×Addr
noncomputable def part(fd:DS):Part:=((fd.name,fd.qualname,fd.params,fd.body),fd.scope,fd.globals,fd.closure,fd.defaults,fd.builtins)
theorem part_eq{fd:DS}{nm:Str}{a:Hg}{b:List Stmt}{c:Scope}(e:part fd=((nm,nm,a,.stmts b),c,CQ,[],.none,GA)):fd=fnOf nm nm a b c .none fd.kwdefaults fd.doc fd.pyModule fd.annotations fd.code fd.closureTuple:=by
 cases fd;cases e;rfl
noncomputable def fdAt(K:Frag)(nm:Str):Option (Part×Bool):=match nsIn K CQ nm with
 |some (some (.ref f))=>match K.lookup f with
  |some ⟨_,_,.func fd,_⟩=>some (part fd,FR K fd.code nm && EV K (.ref f))
  |_=>none
 |_=>none
noncomputable def want(nm:Str)(st:Stmt):Option (Part×Bool):=some (((nm,nm,dJ st,.stmts (cy st)),av st,CQ,[],.none,GA),true)
theorem FnP.of{K:Frag}{nm:Str}{st:Stmt}(e:fdAt K nm=want nm st):FnP K nm st:=by
 unfold fdAt want at e
 split at e
 ·next f h1=>
  split at e
  ·next oc od fd osl h2=>
   have e2:=CP e;have e3:=(EH e2).1;have e4:=FN.mp (EH e2).2;have q:=part_eq e3;exact .mk h1 (h2.trans (congrArg (λz=>some (⟨oc,od,.func z,osl⟩:Obj)) q)) e4.1 e4.2
  ·cases e
 ·cases e
noncomputable def gAt(K:Frag)(nm:Str):Option Int:=match nsIn K CQ nm with
 |some (some (.int n _))=>some n
 |_=>none
theorem g_of{K:Frag}{nm:Str}{n:Int}(e:gAt K nm=some n):∃t,nsIn K CQ nm=some (some (.int n t)):=by
 unfold gAt at e
 split at e
 ·next m t h=>cases e; exact⟨_,h⟩
 ·cases e
noncomputable def obs(fs:List (Str×Stmt))(zs:List Str)(gs:List (Str×Int))(h:Heap):List (Option (Part×Bool))×List (Option (Option Value))×List (Option Int) :=
 (fs.map (λp=>fdAt (fr h) p.1),zs.map (nsIn (fr h) CQ),gs.map λp=>gAt (fr h) p.1)
noncomputable def val(fs:List (Str×Stmt))(zs:List Str)(gs:List (Str×Int)):List (Option (Part×Bool))×List (Option (Option Value))×List (Option Int) :=
 (fs.map (λp=>want p.1 p.2),zs.map (λ_=>some none),gs.map λp=>some p.2)
structure Facts(fs:List (Str×Stmt))(zs:List Str)(gs:List (Str×Int))(K:Frag):Prop where
 f:∀(i:Nat){nm:Str}{st:Stmt},fs[i]? = some (nm,st)->FnP K nm st
 z:∀(i:Nat){nm:Str},zs[i]? = some nm->nsIn K CQ nm=some none
 g:∀(i:Nat){nm:Str}{n:Int},gs[i]? = some (nm,n)->∃t,nsIn K CQ nm=some (some (.int n t))
theorem map_at{α β:Type}{f g:α->β}{l:List α}(e:l.map f=l.map g){i:Nat}{x:α}(h:l[i]? = some x):f x=g x:=by
 have:=congrArg (·[i]?) e;simp only[Cu,h,EL] at this;exact CP this
theorem facts_of{fs:List (Str×Stmt)}{zs:List Str}{gs:List (Str×Int)}{h:Heap}(e:obs fs zs gs h=val fs zs gs):Facts fs zs gs (fr h) :=
 ⟨λi nm st q=>.of (map_at (EH e).1 q),λi nm q=>map_at (EH (EH e).2).1 q,λi nm n q=>g_of (map_at (EH (EH e).2).2 q)⟩
section
variable{fs:List (Str×Stmt)}{zs:List Str}{gs:List (Str×Int)}{K:Frag}{h:Heap}{mg:Str->Option Value}
theorem Facts.call(F:Facts fs zs gs K)(X:K.In h)(G:h.Ns CQ mg){P:CH}{w:World}{base:Heap}(i:Nat){nm:Str}{st:Stmt}{k:Nat}{sp:Sp}(ps:List Str)
  (hb:∀(kV doc pm:Value)(an:Option Addr)(cdv ct:Value)(us:List Value),us.length=ps.length->bindArgs (fnOf nm nm (dJ st) (cy st) (av st) .none kV doc pm an cdv ct) ⟨us,[]⟩=pure (ps.zip us))
  (ok:∀{f:Addr}{fd:DS},jY K nm nm st f fd->Binds K fd ps []->mg nm=some (.ref f)->b9 P w K mg base ir k f fd ps sp) (e:fs[i]? = some (nm,st):=by rfl):cX P w K mg base nm ps k sp:=by
 cases F.f i e with
 |mk a l c k=>
  have F:=sW (st:=st) l c k;exact⟨_,_,ok F (F.binds hb) (mg_of X G a),F.binds hb,F.kp,mg_of X G a⟩
theorem Facts.no(F:Facts fs zs gs K)(X:K.In h)(G:h.Ns CQ mg)(i:Nat){nm:Str}(e:zs[i]? = some nm:=by rfl):mg nm=none:=mg_none_of X G (F.z i e)
theorem Facts.num(F:Facts fs zs gs K)(X:K.In h)(G:h.Ns CQ mg)(i:Nat){nm:Str}{n:Int}(e:gs[i]? = some (nm,n):=by rfl):∃t,mg nm=some (.int n t):=(F.g i e).imp λ_ q=>mg_of X G q
theorem Facts.law(F:Facts fs zs gs K)(X:K.In h)(G:h.Ns CQ mg)(i:Nat){nm:Str}{st:Stmt}{k:Nat}{sp:Sp}{x:Str}{fa:Addr}{P:CH}{w:World}(hfa:mg nm=some (.ref fa))
  (hb:∀(kV doc pm:Value)(an:Option Addr)(cdv ct:Value)(s:At)(v:Value),GR s (fnOf nm nm (dJ st) (cy st) (av st) .none kV doc pm an cdv ct) ⟨[v],[]⟩ [(x,v)])
  (ok:∀{fd:DS},jY K nm nm st fa fd->∀base:Heap,b9 P w K mg base ir k fa fd [x] sp) (e:fs[i]? = some (nm,st):=by rfl) :
  ∃fd:DS,(∀(s:At)(v:Value),GR s fd ⟨[v],[]⟩ [(x,v)])/\∀base:Heap,K.In base->base.Ns CQ mg->b9 P w K mg base ir k fa fd [x] sp:=by
 cases F.f i e with
 |@mk f oc od an osl kV doc pm cdv ct a l c k=>
  have F:=sW (st:=st) l c k;cases hfa.symm.trans (mg_of X G a);exact⟨_,hb kV doc pm an cdv ct,λbase _ _=>ok F base⟩
end
noncomputable def seenOf(p:CH):CH:={ p with main:={ p.main with body:=p.main.body.filter λst=> !(bindsAtTop st).isEmpty } }
abbrev Left(l:Gw)(fs:List (Str×Stmt))(zs:List Str)(gs:List (Str×Int))(N:Nat):Prop:=LeftO l.row.prog (seenOf l.row.prog) [] (λs=>xlAt (seenOf l.row.prog) [] s && recOk l.row.toRowW.records s) (λs=>obs fs zs gs s.heap) (λ_=>val fs zs gs) N
theorem close{l:Gw}{fs:List (Str×Stmt)}{zs:List Str}{gs:List (Str×Int)}{N k:Nat}{nm x:Str}(ws:l.wellSaid=true)
  (left:Left l fs zs gs N)
  (hdef:(defOf (seenOf l.row.prog) l.row.name).map (λy=>(y.1.name,y.1.params.defaults,kwWritten? y.1.params.kwonlyargs y.1.params.kw_defaults,y.2))=some (nm,[],some [],[]))
  (hp:l.row.prog.theDef l.row.name=(defOf (seenOf l.row.prog) l.row.name).map λy=>(y.1.params,y.1.body,y.1.scope)) (hwr:(!l.row.writes || l.row.records.isEmpty)=true)
  (ok:(chainsOk (seenOf l.row.prog) && opensWell l.row.prog && (frees l.row.toRowW && l.row.within.isEmpty))=true) (hb:l.row.prog.bare) (hw:l.row.toRowW.promised)
  (hn:l.most=some 63) (hr:dG k GM)
  (F:∀(w:World)(K:Frag)(mg:Str->Option Value)(fa:Addr)(h:Heap),Facts fs zs gs K->K.In h->h.Ns CQ mg->mg nm=some (.ref fa) ->
   ∃fd:DS,(∀(s:At)(u:Value),GR s fd ⟨[u],[]⟩ [(x,u)])/\∀base:Heap,K.In base->base.Ns CQ mg->b9 l.prog w K mg base ir k fa fd [x] (o9 K)):l.Holds:=by
 refine holds_law ws λsaid=>?_
 obtain⟨⟨d,kwd⟩,e,q⟩:=D9.mp hdef;rw[e] at hp;obtain⟨rfl,hdf,hk,rfl⟩:d.name=nm/\d.params.defaults=[]/\kwWritten? d.params.kwonlyargs d.params.kw_defaults=some []/\kwd=[]:=by simpa using q
 refine holds_open (q:=seenOf l.row.prog) (loose:=[]) (XP:=XL (seenOf l.row.prog) []) (YP:=λ_ h=>∃K:Frag,K.In h/\Facts fs zs gs K) left (λw s e=>⟨_,fr_in _,facts_of e⟩) (λw h h' ⟨K,a,b⟩ q=>⟨K,a.keeps q,b⟩)
  (λs e=>xl_of s (FN.mp e).1) XL.keeps e hp hk (λs e=>recFacts_of (FN.mp e).2) hwr said ok hb hw ?_
 refine Att.mK hn hdf λw s₀ s₁ mg mb fa o pm cd doc a vs ns G Y ho hd hcd hmg hobj hints hlen hg=>?_
 obtain⟨K,KX,Y⟩:=Y;obtain⟨fd,hb,hF⟩:=F w K mg fa _ Y KX G.T.g hmg;exact sV KX G.T.g G.T.b G.T.builtins G.T.nolimit hg hobj hints (DB hlen (by decide)) hr hF hb (λH hO hS=>⟨a,ns,rfl,hS,hlen,λ_=>rfl⟩) λH e s' z=>z
end ZT
end
section
namespace Lk47
open PySem PySem.W L2 VL PyProof.Rows ZT
noncomputable abbrev fs:List (Str×Stmt):=[Pr "nears" s_nears,Pr "steps_from" s_steps_from,Pr "way" s_way,Pr "holds_on" s_holds_on,Pr "is_parted" s_is_parted,Pr "_law_pot" s_law_pot,Pr "_law_take" s_law_take,Pr "_law_pick" s_law_pick,Pr "_law_told_web" s_law_told_web,Pr "_law_hangs" s_law_hangs,Pr "_law_due" s_law_due,Pr "law" s_law]
noncomputable abbrev zs:List Str:=["sorted", "tuple", "len", "min", "enumerate", "abs", "range", "list", "isinstance", "bool"]
noncomputable abbrev gs:List (Str×Int):=[]
theorem all{l:Gw}(w:World)(K:Frag)(mg:Str->Option Value)(fa:Addr)(h:Heap)(H:Facts fs zs gs K)(X:K.In h)(G:h.Ns CQ mg)(hfa:mg "law" = some (.ref fa)):∃fd:DS,(∀(s:At)(v:Value),GR s fd ⟨[v],[]⟩ [("_law_script",v)])/\∀base:Heap,K.In base->base.Ns CQ mg->b9 l.prog w K mg base ir 13 fa fd ["_law_script"] (o9 K):=by
 have T:Txt mg:=⟨H.no X G 0,H.no X G 1,H.no X G 2,H.no X G 3,H.no X G 4,H.no X G 5,H.no X G 6,H.no X G 7,H.no X G 8,H.no X G 9⟩;refine H.law X G 11 (st:=s_law) hfa (λ_ _ _ _ _ _ _ _=>.of_eq rfl) λF base=>?_
 have C_nears:=H.call (P:=l.prog) (w:=w) (base:=base) X G 0 ["web"] (λ_ _ _ _ _ _=>lnS λ_=>ln0 rfl) λF _ _=>ok_nears F T
 have C_steps_from:=H.call (P:=l.prog) (w:=w) (base:=base) X G 1 ["beside", "some", "start"] (λ_ _ _ _ _ _=>lnS λ_=>lnS λ_=>lnS λ_=>ln0 rfl) λF _ _=>ok_steps_from F T
 have C_way:=H.call (P:=l.prog) (w:=w) (base:=base) X G 2 ["web", "some", "one", "other"] (λ_ _ _ _ _ _=>lnS λ_=>lnS λ_=>lnS λ_=>lnS λ_=>ln0 rfl) λF _ _=>ok_way F T C_steps_from C_nears
 have C_is_parted:=H.call (P:=l.prog) (w:=w) (base:=base) X G 4 ["web", "some", "a", "b", "many"] (λ_ _ _ _ _ _=>lnS λ_=>lnS λ_=>lnS λ_=>lnS λ_=>lnS λ_=>ln0 rfl) λF b m=>ok_is_parted F T b m C_way 8
 have C_holds_on:=H.call (P:=l.prog) (w:=w) (base:=base) X G 3 ["told", "many"] (λ_ _ _ _ _ _=>lnS λ_=>lnS λ_=>ln0 rfl) λF _ _=>ok_holds_on F T C_is_parted
 have C_law_pot:=H.call (P:=l.prog) (w:=w) (base:=base) X G 5 ["_law_script"] (λ_ _ _ _ _ _=>lnS λ_=>ln0 rfl) λF _ _=>ok_law_pot F T
 have C_law_take:=H.call (P:=l.prog) (w:=w) (base:=base) X G 6 ["_law_pot_here", "_law_many"] (λ_ _ _ _ _ _=>lnS λ_=>lnS λ_=>ln0 rfl) λF _ _=>ok_law_take F T
 have C_law_pick:=H.call (P:=l.prog) (w:=w) (base:=base) X G 7 ["_law_pot_here", "_law_some"] (λ_ _ _ _ _ _=>lnS λ_=>lnS λ_=>ln0 rfl) λF _ _=>ok_law_pick F T C_law_take
 have C_law_told_web:=H.call (P:=l.prog) (w:=w) (base:=base) X G 8 ["_law_pot_here"] (λ_ _ _ _ _ _=>lnS λ_=>ln0 rfl) λF _ _=>ok_law_told_web F T C_law_take C_law_pick
 have C_law_hangs:=H.call (P:=l.prog) (w:=w) (base:=base) X G 9 ["_law_web", "_law_some"] (λ_ _ _ _ _ _=>lnS λ_=>lnS λ_=>ln0 rfl) λF _ _=>ok_law_hangs F T
 have C_law_due:=H.call (P:=l.prog) (w:=w) (base:=base) X G 10 ["_law_web", "_law_many"] (λ_ _ _ _ _ _=>lnS λ_=>lnS λ_=>ln0 rfl) λF _ _=>ok_law_due F T C_law_hangs
 exact AD (ok_law F T C_law_due C_holds_on C_law_told_web C_law_pot) PD.law_k47
theorem ws:PySem.Challenge.rw_drawnweb_k47_holding_on.wellSaid=true:=by kernel_rfl
theorem lf:Left PySem.Challenge.rw_drawnweb_k47_holding_on fs zs gs 20000:=λw=>by kernel_rfl
end Lk47
open PySem PySem.W PyProof.Rows
theorem PySem.Challenge.cw_drawnweb_k47_holding_on_holds : PySem.Challenge.rw_drawnweb_k47_holding_on.Holds := by
 refine ZT.close (k:=13) (x := "_law_script") (nm := "law") Lk47.ws Lk47.lf (by kernel_rfl) (by kernel_rfl) (by rfl) (by decide +kernel) ⟨rfl,rfl,rfl,rfl,rfl,by decide +kernel⟩ (by w_witness2) rfl ⟨rfl,by decide,by decide,rfl⟩ ?_
 exact Lk47.all
end
