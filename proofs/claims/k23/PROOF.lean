import PyProof.Rows.All
import Wide.All
import OpenK.AllK
import Wide.FinOn
import Lean
import PyProof.EqAt
import PyProof.EqKinds
import PyProof.TupleCall
import KE.KDictOf
import PyProof.AttrMissHeap
import PyProof.ReprRoads
import PySem.Challenge.RW_drawnweb_k23_spreads_of_orders
set_option Elab.async false
set_option linter.all false
set_option maxRecDepth 100000
set_option maxHeartbeats 0
theorem oB {α β:Type _} {x:Option α} {f:α->Option β} {b:β} (h:x.bind f=some b):∃a,x=some a/\f a=some b:=Option.bind_eq_some_iff.mp h
theorem lR {α:Type _} {a:α} (as:List α) {bs:List α} (h:a∈bs):a∈as++bs:=List.mem_append_right as h
theorem lL {α:Type _} {a:α} {as:List α} (bs:List α) (h:a∈as):a∈as++bs:=List.mem_append_left bs h
theorem lM {α:Type _} {a:α} {s t:List α} (h:a∈s++t):a∈s\/a∈t:=List.mem_append.mp h
theorem lS {α:Type _} {a:α} {l:List α}:a∈a::l:=List.mem_cons_self
theorem lO {α:Type _} (y:α) {a:α} {l:List α} (h:a∈l):a∈y::l:=List.mem_cons_of_mem y h
theorem lK {α:Type _} {a b:α} {l:List α} (h:a∈b::l):a=b\/a∈l:=List.mem_cons.mp h
section
namespace L2
open PySem PySem.Spec PyProof.Rows
abbrev Key:=Sum Int Str
noncomputable def j9:Key->Value->Bool
 | .inl k,v=>Value.isInt k v
 | .inr x,v=>Value.isStrOf x v
noncomputable def keyH (w:World):Key->Int
 | .inl k=>hashInt k
 | .inr x=>hashStr w x
theorem aZ:∀ {k:Key} {v:Value},j9 k v=true->(∃i t,k=Sum.inl i/\v=Value.int i t)\/(∃x t,k=Sum.inr x/\v=Value.str x t)
 | .inl i,v,h=>by
  obtain⟨t,e⟩:=Value.isInt_shape (k:=i) (v:=v) h;exact .inl ⟨i,t,rfl,e⟩
 | .inr x,v,h=>by
  obtain⟨t,e⟩:=Value.isStrOf_shape (x:=x) (v:=v) h;exact .inr ⟨x,t,rfl,e⟩
theorem uy (i:Int) (t:Tok):j9 (.inl i) (.int i t)=true:=by simp[j9,Value.isInt]
theorem uz (x:Str) (t:Tok):j9 (.inr x) (.str x t)=true:=by simp[j9,Value.isStrOf]
theorem Ay (a b:Int):decide ((Sum.inl a:Key)=Sum.inl b)=(a == b):=by
 by_cases e:a=b
 ·subst e; simp
 ·have h:¬ (Sum.inl a:Key)=Sum.inl b:=fun q=>e (Sum.inl.inj q)
  rw[decide_eq_false h];exact (beq_eq_false_iff_ne.mpr e).symm
theorem Az (a b:Str):decide ((Sum.inr a:Key)=Sum.inr b)=decide (a=b):=by
 by_cases e:a=b
 ·subst e; simp
 ·have h:¬ (Sum.inr a:Key)=Sum.inr b:=fun q=>e (Sum.inr.inj q)
  rw[decide_eq_false h,decide_eq_false e]
theorem AA (a:Int) (b:Str):decide ((Sum.inl a:Key)=Sum.inr b)=false:=decide_eq_false (fun q=>nomatch q)
theorem AB (a:Str) (b:Int):decide ((Sum.inr a:Key)=Sum.inl b)=false:=decide_eq_false (fun q=>nomatch q)
noncomputable def bK (prog:Program) (w:World):PySem.KeyKind prog w Key where
 is:=j9
 hash:=keyH w
 inj:=fun v a b ha hb=>by
  rcases aZ ha with⟨i,t,rfl,rfl⟩ | ⟨x,t,rfl,rfl⟩
  ·rcases aZ hb with⟨j,u,rfl,e⟩ | ⟨y,u,rfl,e⟩
   ·injection e with e1 _; rw[e1]
   ·exact nomatch e
  ·rcases aZ hb with⟨j,u,rfl,e⟩ | ⟨y,u,rfl,e⟩
   ·exact nomatch e
   ·injection e with e1 _; rw[e1]
 byValue:=fun k v h=>by
  rcases aZ h with⟨i,t,rfl,rfl⟩ | ⟨x,t,rfl,rfl⟩ <;> rfl
 pyHash:=fun hv h=>by
  rcases aZ hv with⟨i,t,rfl,rfl⟩ | ⟨x,t,rfl,rfl⟩
  ·exact wpAny_pyHash_int h
  ·exact wpAny_pyHash_str h
 eqBool:=fun hu hv h=>by
  rcases aZ hu with⟨i,t,rfl,rfl⟩ | ⟨x,t,rfl,rfl⟩
  ·rcases aZ hv with⟨j,u,rfl,rfl⟩ | ⟨y,u,rfl,rfl⟩
   ·rw[Ay] at h; exact wpAny_eqBool_int h
   ·rw[AA] at h; exact SeqAt.EqAt.int_str i t y u _ _ _ _ h
  ·rcases aZ hv with⟨j,u,rfl,rfl⟩ | ⟨y,u,rfl,rfl⟩
   ·rw[AB] at h; exact SeqAt.EqAt.str_int x t j u _ _ _ _ h
   ·rw[Az] at h; exact wpAny_eqBool_str h
 «strs» := fun k x t v h=>by
  rcases aZ h with⟨i,u,rfl,e⟩ | ⟨y,u,rfl,e⟩
  ·exact nomatch e
  ·injection e with e1 _
   subst e1;cases v <;> rfl
theorem pU (prog:Program) (w:World) (i:Int) (t:Tok):(bK prog w).is (.inl i) (.int i t)=true:=uy i t
theorem pW (prog:Program) (w:World) (x:Str) (t:Tok):(bK prog w).is (.inr x) (.str x t)=true:=uz x t
end L2
namespace L2
open PySem PySem.Spec PyProof.Rows
inductive V where
 | non | bl (b:Bool) | int (i:Int) | str (x:Str) | byt (b:Array UInt8) | flt (b:UInt64) | ref (a:Addr) | ty (n:String)
 deriving DecidableEq
def RelV:V->Value->Prop
 | .non,u=>u=Value.none
 | .bl b,u=>u=Value.bool b
 | .int i,u=>∃t,u=Value.int i t
 | .str x,u=>∃t,u=Value.str x t
 | .byt b,u=>∃t,u=Value.bytes b t
 | .flt b,u=>∃t,u=Value.float b t
 | .ref a,u=>u=Value.ref a
 | .ty n,u=>u=Value.type n
abbrev Vals:List V->List Value->Prop:=Paired RelV
theorem Vals.length {xs:List V} {us:List Value} (r:Vals xs us):xs.length=us.length:=Paired.length r
theorem Vals.get:∀ {xs:List V} {us:List Value} {i:Nat} {x:V},Vals xs us->xs[i]? = some x->∃u,us[i]? = some u/\RelV x u
 | _,_,_,_,.nil,e=>by simp at e
 | _,_,0,_,.cons r _,e=>by simp at e; subst e; exact⟨_,rfl,r⟩
 | _,_,i+1,x,.cons _ t,e=>by
  obtain⟨u,h1,h2⟩:=Vals.get (i:=i) (x:=x) t (by simpa using e)
  exact⟨u,by simpa using h1,h2⟩
theorem Vals.set {x:V} {u:Value} (r:RelV x u):∀ {xs:List V} {us:List Value} (i:Nat),Vals xs us->Vals (xs.set i x) (us.set i u)
 | _,_,_,.nil=>.nil
 | _,_,0,.cons _ t=>.cons r t
 | _,_,i+1,.cons q t=>.cons q (Vals.set r i t)
theorem Vals.append:∀ {xs ys:List V} {us ws:List Value},Vals xs us->Vals ys ws->Vals (xs++ys) (us++ws)
 | _,_,_,_,.nil,s=>s
 | _,_,_,_,.cons r t,s=>.cons r (Vals.append t s)
theorem Vals.take:∀ {xs:List V} {us:List Value} (n:Nat),Vals xs us->Vals (xs.take n) (us.take n)
 | _,_,0,_=>.nil
 | _,_,_+1,.nil=>.nil
 | _,_,n+1,.cons r t=>.cons r (Vals.take n t)
theorem Vals.drop:∀ {xs:List V} {us:List Value} (n:Nat),Vals xs us->Vals (xs.drop n) (us.drop n)
 | _,_,0,r=>r
 | _,_,_+1,.nil=>.nil
 | _,_,n+1,.cons _ t=>Vals.drop n t
def mF:Option V->Option Value->Prop
 | some v,some u=>RelV v u
 | none,none=>True
 | _,_=>False
def KV {κ:Type}:List (κ×V)->List (κ×Value)->Prop:=Paired fun (p:κ×V) (q:κ×Value)=>p.1=q.1/\RelV p.2 q.2
noncomputable def kV:Key->V
 | .inl i=>.int i
 | .inr x=>.str x
inductive HO where
  | lst (xs:List V)
  | tup (xs:List V)
  | dK (kvs:List (Key×V)) | dT (kvs:List (List Key×V))
  | set (S:Int->Bool) (n:Nat)
  | ins (C dx:Addr) (fs:List (Str×V))
  | own (x:Addr)
  | xd (fs:List (Str×V))
  | met (f x:Addr)
  | rng (lo hi:Int)
  | frz (o:Obj) (u:HO)
  | tbl (ps:Array Value)
  | ext (φ:Heap->Prop)
abbrev Hp:=Addr->Option HO
noncomputable def upd (H:Hp) (a:Addr) (o:HO):Hp:=fun b=>if b=a then some o else H b
theorem aK {H:Hp} {a:Addr} {o:HO}:upd H a o a=some o:=by unfold upd; rw[if_pos rfl]
theorem aB {H:Hp} {a b:Addr} {o:HO} (h:b≠a):upd H a o b=H b:=by unfold upd; rw[if_neg h]
theorem nh {H:Hp} {a b:Addr} {o u:HO} (h:H a=some o) (h':H b=some u) (d:o≠u):a≠b:=by
 intro e; subst e; rw[h] at h'; exact d (Option.some.inj h')
theorem bf {H:Hp} {a b:Addr} {o:HO} (h:H a=some o) (h':H b=none):a≠b:=by
 intro e; subst e; rw[h] at h'; cases h'
section
variable (P:Program) (w:World)
def ck (H:Hp) (h:Heap) (a:Addr):HO->Prop
 | .lst xs=>xs.length<=sizeLine/\∃ (its:List Value) (n:Nat),Vals xs its/\h.get? a=some { cls:=.type "list",data:=.seq its.toArray n }
 | .tup xs=>xs.length<=sizeLine/\∃its:List Value,Vals xs its/\IsTup h a its.toArray
 | .dK kvs=>kvs.length<=sizeLine/\(a == sysModules)=false/\∃vs,KV kvs vs/\h.DictOf (bK P w) a vs
 | .dT kvs=>kvs.length<=sizeLine/\(a == sysModules)=false/\∃xs:List (List Key×Addr×Value),
   Paired (fun (p:List Key×V) (q:List Key×Addr×Value)=>p.1=q.1/\H q.2.1=some (.tup (p.1.map kV))/\RelV p.2 q.2.2) kvs xs /\
   ∃o es ep,h.get? a=some o/\o.ExactDict/\o.data=.dict es ep/\es.toList=xs.map (entryOfKey (tupleKind (bK P w)))/\(xs.map (·.1)).Nodup
 | .set S n=>h.SetOf (intKind P w) a S n
 | .ins C dx fs=>H dx=some (.own a)/\fs.length<=1000/\dx≠a/\h.get? a=some (PySem.W.instObj C dx) /\
   ∃mA,h.Ns1 dx mA/\(∀f,mF (fs.lookup f) (mA f))/\PySem.Within mA (fs.map (·.1))
 | .own _=>∃o,h.get? a=some o
 | .xd fs=>∃mA,h.Ns1 a mA/\∀f,mF (fs.lookup f) (mA f)
 | .rng lo hi=>∃t u v,h.get? a=some { cls:=.type "range",data:=.fields #[.int lo t,.int hi u,.int 1 v] }
 | .frz o u=>h.get? a=some o/\ck H h a u
 | .tbl ps=>h.get? a=some { cls:=.none,data:=.fields ps }
 | .met f x=>h.get? a=some (PySem.W.methodObj (.ref f) (.ref x))
 | .ext φ=>φ h/\(∃o,h.get? a=some o)/\∀h1 h2:Heap,φ h1->(∀o,h1.get? a=some o->h2.get? a=some o)->φ h2
def iA (H:Hp) (h:Heap):Prop:=∀a o,H a=some o->ck P w H h a o
end
section
variable {P:Program} {w:World} {H H':Hp} {h h':Heap} {a:Addr} {o:HO}
theorem ck.lt (x:ck P w H h a o):a<h.objs.size:=by
 cases o with
 | lst xs=>obtain⟨_,_,_,_,e⟩:=x; exact Heap.lt_size e
 | tup xs=>obtain⟨_,_,_,p⟩:=x; exact p.lt
 | dK kvs=>obtain⟨_,_,_,_,o,_,_,e,_⟩:=x; exact Heap.lt_size e
 | dT kvs=>obtain⟨_,_,_,_,o,_,_,e,_⟩:=x; exact Heap.lt_size e
 | set S n=>obtain⟨o,_,_,_,e,_⟩:=x; exact Heap.lt_size e
 | ins C dx fs=>obtain⟨_,_,_,e,_⟩:=x; exact Heap.lt_size e
 | own y=>obtain⟨_,e⟩:=x; exact Heap.lt_size e
 | xd fs=>obtain⟨_,⟨_,_,_,e,_⟩,_⟩:=x; exact Heap.lt_size e
 | rng lo hi=>obtain⟨_,_,_,e⟩:=x; exact Heap.lt_size e
 | frz ob u=>obtain⟨e,_⟩:=x; exact Heap.lt_size e
 | tbl ps=>exact Heap.lt_size (show h.get? a=some _ from x)
 | met f y=>exact Heap.lt_size (show h.get? a=some _ from x)
 | ext φ=>obtain⟨_,⟨_,e⟩,_⟩:=x; exact Heap.lt_size e
theorem Paired.mapP {α β:Type} {F G:α->β->Prop}:∀ {l₁:List α} {l₂:List β},Paired F l₁ l₂->(∀a b,F a b->G a b)->Paired G l₁ l₂
 | _,_,.nil,_=>.nil
 | _,_,.cons r t,f=>.cons (f _ _ r) (Paired.mapP t f)
theorem ck.stay (x:ck P w H h a o) (k:∀b u,(b=a\/H b=some (.own a))->h.get? b=some u->h'.get? b=some u)
  (ho:∀b,H b=some (.own a)->H' b=some (.own a)) (ht:∀b xs,H b=some (.tup xs)->H' b=some (.tup xs)):ck P w H' h' a o:=by
 induction o with
 | lst xs=>obtain⟨z,its,n,r,e⟩:=x; exact⟨z,its,n,r,k _ _ (.inl rfl) e⟩
 | tup xs=>obtain⟨z,its,r,ob,e,c⟩:=x; exact⟨z,its,r,ob,k _ _ (.inl rfl) e,c⟩
 | dK kvs=>obtain⟨z,y,vs,r,ob,es,ep,e,c⟩:=x; exact⟨z,y,vs,r,ob,es,ep,k _ _ (.inl rfl) e,c⟩
 | dT kvs =>
  obtain⟨z,y,xs,r,ob,es,ep,e,c⟩:=x;exact⟨z,y,xs,Paired.mapP r fun p q z=>⟨z.1,ht _ _ z.2.1,z.2.2⟩,ob,es,ep,k _ _ (.inl rfl) e,c⟩
 | set S n=>obtain⟨ob,es,ep,t,e,c⟩:=x; exact⟨ob,es,ep,t,k _ _ (.inl rfl) e,c⟩
 | ins C dx fs =>
  obtain⟨d,z,ne,e,mA,⟨od,es,ep,e2,c⟩,r⟩:=x;exact⟨ho _ d,z,ne,k _ _ (.inl rfl) e,mA,⟨od,es,ep,k _ _ (.inr d) e2,c⟩,r⟩
 | own y=>obtain⟨ob,e⟩:=x; exact⟨ob,k _ _ (.inl rfl) e⟩
 | xd fs=>obtain⟨mA,⟨od,es,ep,e,c⟩,r⟩:=x; exact⟨mA,⟨od,es,ep,k _ _ (.inl rfl) e,c⟩,r⟩
 | rng lo hi=>obtain⟨t,u,v,e⟩:=x; exact⟨t,u,v,k _ _ (.inl rfl) e⟩
 | frz ob u ih=>obtain⟨e,q⟩:=x; exact⟨k _ _ (.inl rfl) e,ih q⟩
 | tbl ps =>
  have e:h.get? a=some { cls:=.none,data:=.fields ps }:=x;show h'.get? a=some { cls:=.none,data:=.fields ps };exact k a _ (.inl rfl) e
 | met f y =>
  have e:h.get? a=some (PySem.W.methodObj (.ref f) (.ref y)):=x;show h'.get? a=some (PySem.W.methodObj (.ref f) (.ref y));exact k a _ (.inl rfl) e
 | ext φ=>obtain⟨p,⟨o,e⟩,st⟩:=x; exact⟨st _ _ p fun o q=>k _ _ (.inl rfl) q,⟨o,k _ _ (.inl rfl) e⟩,st⟩
theorem iA.lt (x:iA P w H h) (e:H a=some o):a<h.objs.size:=(x a o e).lt
theorem iA.fresh (x:iA P w H h) (e:h.objs.size<=a):H a=none:=by
 cases q:H a with
 | none=>rfl
 | some u=>exact absurd (Nat.lt_of_lt_of_le (x.lt q) e) (Nat.lt_irrefl _)
theorem iA.kept (x:iA P w H h) (k:∀b u,h.get? b=some u->h'.get? b=some u):iA P w H h':=fun a o e =>
 (x a o e).stay (fun b u _ q=>k b u q) (fun _ q=>q) fun _ _ q=>q
theorem iA.laid (x:iA P w H h) (k:∀b u,h.get? b=some u->h'.get? b=some u) (hp:h.objs.size<=a) (new:ck P w (upd H a o) h' a o):iA P w (upd H a o) h':=fun b u e=>by
 have hn:=x.fresh hp
 by_cases hb:b=a
 ·subst hb; rw[aK] at e; cases e; exact new
 ·rw[aB hb] at e
  exact (x b u e).stay (fun c v _ q=>k c v q) (fun c q=>by rw[aB (bf q hn)]; exact q) fun c xs q=>by rw[aB (bf q hn)]; exact q
end
def Rd (H:Hp) (a:Addr) (u:HO):Prop:=H a=some u\/∃o,H a=some (.frz o u)
theorem Rd.ok {P:Program} {w:World} {H:Hp} {h:Heap} {a:Addr} {u:HO} (r:Rd H a u) (x:iA P w H h):ck P w H h a u:=by
 rcases r with r | ⟨o,r⟩
 ·exact x a u r
 ·obtain⟨_,q⟩:=x a _ r
  exact q
def CO:Option HO->Prop
 | some (.lst _)=>True
 | some (.dK _)=>True
 | some (.dT _)=>True
 | some (.set _ _)=>True
 | some (.ins _ _ _)=>True
 | some (.ext _)=>True
 | _=>False
section
variable {P:Program} {w:World} {H:Hp} {h h':Heap} {x e:Addr} {o':HO}
theorem iA.write (ok:iA P w H h) (mu:CO (H x)) (he:e=x\/H e=some (.own x)) (k:∀b u,b≠e->h.get? b=some u->h'.get? b=some u) (heo:∃u,h'.get? e=some u)
  (new:ck P w (upd H x o') h' x o'):iA P w (upd H x o') h':=fun b u q=>by
 have nown:∀c y,H c=some (.own y)->c≠x:=fun c y r z=>by subst z; rw[r] at mu; exact mu
 have ntup:∀c xs,H c=some (.tup xs)->c≠x:=fun c xs r z=>by subst z; rw[r] at mu; exact mu
 by_cases hb:b=x
 ·subst hb; rw[aK] at q; cases q; exact new
 ·rw[aB hb] at q
  by_cases hbe:b=e
  ·have q':H b=some (.own x):=by
    rcases he with z | z
    ·exact absurd (hbe.trans z) hb
    ·rw[hbe]; exact z
   rw[q] at q'; cases q';obtain⟨v,hv⟩:=heo;exact⟨v,by rw[hbe]; exact hv⟩
  ·refine (ok b u q).stay (fun c v hc r=>k c v ?_ r) (fun c r=>by rw[aB (nown c b r)]; exact r) fun c xs r=>by rw[aB (ntup c xs r)]; exact r
   rcases hc with rfl | hc
   ·exact hbe
   ·rintro rfl
    rcases he with z | z
    ·exact nown c b hc z
    ·rw[hc] at z; cases z; exact hb rfl
end
structure Un (fs ex:List Addr) (H H':Hp) (h h':Heap):Prop where
 keep:∀b o,h.get? b=some o->H b=none->b∉fs->b∉ex->h'.get? b=some o
 slot:∀b o,h.get? b=some o->H b=none->b∈fs->b∉ex->∃sl,h'.get? b=some { o with slots:=sl }
 free:∀b o,h.get? b=some o->H b=none->b∉ex->H' b=none
 there:∀b o,h.get? b=some o->b∉ex->∃o',h'.get? b=some o'
 tups:∀b xs,H b=some (.tup xs)->H' b=some (.tup xs)
 dH:∀b o u,H b=some (.frz o u)->H' b=some (.frz o u)
 tbls:∀b ps,H b=some (.tbl ps)->∃more,H' b=some (.tbl (ps++more))
section
variable {fs fs' ex ex':List Addr} {H H1 H2:Hp} {h h1 h2 h':Heap} {a x e:Addr} {o:HO}
theorem Un.any (u:Un fs ex H H1 h h1) {b:Addr} {ob:Obj} (q:h.get? b=some ob) (n:H b=none) (hx:b∉ex):∃sl,h1.get? b=some { ob with slots:=sl }:=by
 by_cases hb:b∈fs
 ·exact u.slot b ob q n hb hx
 ·exact⟨ob.slots,u.keep b ob q n hb hx⟩
theorem Un.trans (a:Un fs ex H H1 h h1) (b:Un fs ex H1 H2 h1 h2):Un fs ex H H2 h h2 where
 keep:=fun c ob q n hc hx=>b.keep c ob (a.keep c ob q n hc hx) (a.free c ob q n hx) hc hx
 slot:=fun c ob q n hc hx=>by
  obtain⟨sl,e1⟩:=a.slot c ob q n hc hx;obtain⟨sl',e2⟩:=b.slot c _ e1 (a.free c ob q n hx) hc hx;exact⟨sl',e2⟩
 free:=fun c ob q n hx=>by
  obtain⟨o',e1⟩:=a.there c ob q hx;exact b.free c o' e1 (a.free c ob q n hx) hx
 there:=fun c ob q hx=>by
  obtain⟨o',e1⟩:=a.there c ob q hx;exact b.there c o' e1 hx
 tups:=fun c xs q=>b.tups c xs (a.tups c xs q)
 dH:=fun c ob xs q=>b.dH c ob xs (a.dH c ob xs q)
 tbls:=fun c ps q=>by
  obtain⟨m1,e1⟩:=a.tbls c ps q;obtain⟨m2,e2⟩:=b.tbls c _ e1;exact⟨m1++m2,by rw[e2,Array.append_assoc]⟩
theorem Un.kept (k:∀b u,h.get? b=some u->h'.get? b=some u):Un fs ex H H h h' :=
 ⟨fun b ob q _ _ _=>k b ob q,fun b ob q _ _ _=>⟨ob.slots,k b ob q⟩,fun _ _ _ n _=>n,fun b ob q _=>⟨ob,k b ob q⟩,fun _ _ q=>q,fun _ _ _ q=>q,fun _ ps q=>⟨#[],by rw[q]; simp⟩⟩
theorem Un.refl:Un fs ex H H h h:=Un.kept fun _ _ q=>q
theorem Un.laid (k:∀b u,h.get? b=some u->h'.get? b=some u) (hp:h.objs.size<=a) (hn:H a=none):Un fs ex H (upd H a o) h h' where
 keep:=fun b u q _ _ _=>k b u q
 slot:=fun b u q _ _ _=>⟨u.slots,k b u q⟩
 free:=fun b u q n _=>by rw[aB (Nat.ne_of_lt (Nat.lt_of_lt_of_le (Heap.lt_size q) hp))]; exact n
 there:=fun b u q _=>⟨u,k b u q⟩
 tups:=fun b xs q=>by rw[aB (bf q hn)]; exact q
 dH:=fun b u xs q=>by rw[aB (bf q hn)]; exact q
 tbls:=fun b ps q=>⟨#[],by rw[aB (bf q hn),q]; simp⟩
theorem Un.write (mu:CO (H x)) (he:e=x\/H e=some (.own x)) (k:∀b u,b≠e->h.get? b=some u->h'.get? b=some u) (heo:∃u,h'.get? e=some u):Un fs ex H (upd H x o) h h':=by
 have hx:∀b,H b=none->b≠x:=fun b n z=>by subst z; rw[n] at mu; exact mu
 have hb:∀b,H b=none->b≠e:=fun b n z=>by
  subst z;rcases he with r | r
  ·exact hx b n r
  ·rw[n] at r; cases r
 have hm:∀b u,H b=some u->¬CO (some u)->b≠x:=fun b u q nm z=>by subst z; rw[q] at mu; exact nm mu
 refine⟨fun b u q n _ _=>k b u (hb b n) q,fun b u q n _ _=>⟨u.slots,k b u (hb b n) q⟩,fun b u q n _=>by rw[aB (hx b n)]; exact n,fun b u q _ => ?_,
  fun b xs q=>by rw[aB (hm b _ q fun z=>z)]; exact q,fun b u xs q=>by rw[aB (hm b _ q fun z=>z)]; exact q,fun b ps q=>⟨#[],by rw[aB (hm b _ q fun z=>z),q]; simp⟩⟩
 by_cases hbe:b=e
 ·subst hbe; exact heo
 ·exact⟨u,k b u hbe q⟩
theorem Un.mono (u:Un fs ex H H1 h h1) (hs:∀b∈fs,b∈fs') (hx:∀b∈ex,b∈ex'):Un fs' ex' H H1 h h1 :=
 ⟨fun b ob q n hb he=>u.keep b ob q n (fun z=>hb (hs b z)) fun z=>he (hx b z),fun _ _ q n _ he=>u.any q n fun z=>he (hx _ z),fun b ob q n he=>u.free b ob q n fun z=>he (hx b z),fun b ob q he=>u.there b ob q fun z=>he (hx b z),u.tups,u.dH,u.tbls⟩
end
noncomputable def C0 (h:Heap) (H:Hp):List Addr:=(List.range h.objs.size).filter fun a=>(H a).isSome
noncomputable def oh (h:Heap) (H:Hp):Heap:=PySem.W.hideAll h (C0 h H)
theorem uA (h:Heap) (H:Hp):(oh h H).objs.size=h.objs.size:=PySem.W.hideAll_size _ _
theorem vJ {h:Heap} {H:Hp} {b:Addr} {o:Obj} (e:h.get? b=some o) (n:H b=none):(oh h H).get? b=some o :=
 PySem.W.hideAll_get _ e fun hm=>by
  have q:(H b).isSome=true:=(List.mem_filter.mp hm).2;rw[n] at q; simp at q
theorem yt {h:Heap} {H:Hp} {b:Addr} {o:Obj} (e:(oh h H).get? b=some o):h.get? b=some o/\H b=none:=by
 have e':h.get? b=some o:=PySem.W.of_hideAll (C0 h H) e;refine⟨e',?_⟩;cases q:H b with
 | none=>rfl
 | some x =>
  have hm:b∈C0 h H:=List.mem_filter.mpr ⟨List.mem_range.mpr (Heap.lt_size e'),by simp[q]⟩
  have z:(oh h H).get? b=none:=PySem.W.hideAll_none (C0 h H) hm;rw[z] at e; cases e
end L2
namespace L2
open PySem PySem.Spec PyProof.Rows
structure Mod (K:PySem.W.Frag) (mg:Str->Option Value) (base:Heap):Prop where
 kin:K.In base
 glob:base.Ns mainGlobals mg
 blt:∃mb,base.Ns builtinsNs mb/\∀x:Str,x ≠ "__name__"->mb x=bootBuiltins x
 nolimit:base.NoLimit
structure Cx where
 prog:Program
 w:World
 K:PySem.W.Frag
 mg:Str->Option Value
 base:Heap
 A:Around
 N:List Str
 s₀:Shared
 H₀:Hp
 env:Env
 outer:List Env
 stack:List Env
 ex:List Addr
 fn:Str->Bool
 calm:Bool
 pn:List (Addr×Obj)
 xe:Value->Shared->Prop
noncomputable def frs (l:List Env):List Addr:=l.filterMap (·.frame)
noncomputable abbrev Cx.fs (X:Cx):List Addr:=frs X.outer
def AD (sc:Scope) (x:Str):Prop:=sc.names.lookup x=some .local\/sc.names.lookup x=some .cell\/sc.names.lookup x=some .free
def Loc (sc:Scope) (x:Str):Prop:=sc.names.lookup x=some .local\/sc.names.lookup x=some .cell
def Look (env:Env) (h:Heap) (m:Str->Option Value) (x:Str) (u:Value):Prop :=
 (env.kindOf x=some .local/\m x=some u)\/((env.kindOf x=some .cell\/env.kindOf x=some .free)/\∃c,env.cells.lookup x=some c/\h.IsCell c (some u))
structure Cx.Ok (X:Cx):Prop where
 mod:Mod X.K X.mg X.base
 kind:X.env.scope.kind=.function
 glob:X.env.globals=mainGlobals
 blt:X.env.builtins=builtinsNs
 above:X.s₀.heap.objs.size<=X.env.locals
 inj:∀x y c,X.env.cells.lookup x=some c->X.env.cells.lookup y=some c->x=y
 has:∀x,(X.env.kindOf x=some .cell\/X.env.kindOf x=some .free)->∃c,X.env.cells.lookup x=some c
 cab:∀x c,X.fn x=true->X.env.cells.lookup x=some c->X.s₀.heap.objs.size<=c
 hd:X.calm=true->X.A.handled=none
 frames:X.A.frames=some X.stack
 stk:X.stack=X.outer\/(X.stack=X.env::X.outer/\X.env.frame=some X.env.locals)
 exf:∀b∈X.ex,b≠X.env.locals/\∀x c,X.env.cells.lookup x=some c->c≠b
 bs:∀b o,X.base.get? b=some o->X.s₀.heap.get? b=some o/\X.H₀ b=none
 bsz:X.base.objs.size<=X.s₀.heap.objs.size
 noex:∀b o,X.base.get? b=some o->b∉X.ex
 exfs:∀b∈X.ex,b∉X.fs
 kc:X.s₀.heap.FunFrames X.base X.outer
 frf:∀b∈X.fs,X.H₀ b=none
structure Inv (X:Cx) (pins:List (Addr×Obj)) (σ:List (Option V)) (H:Hp) (s:Shared):Prop where
 ok:X.Ok
 os:s.os=X.s₀.os
 bare:AllBare s.gens
 base:Un X.fs X.ex X.H₀ H X.s₀.heap s.heap
 loc:∃m,s.heap.Ns X.env.locals m/\∀ (i:Nat) (x:Str) (v:V),X.N[i]? = some x->σ[i]? = some (some v)->AD X.env.scope x->∃u,RelV v u/\Look X.env s.heap m x u
 cell:∀x c,X.env.cells.lookup x=some c->∃v,s.heap.IsCell c v
 free:H X.env.locals=none
 freeC:∀x c,X.env.cells.lookup x=some c->H c=none
 pin:∀p∈X.pn++pins,s.heap.get? p.1=some p.2/\H p.1=none/\p.1≠X.env.locals/\p.1∉X.fs/\∀v,p.2.data≠.cell v
 hok:iA X.prog X.w H s.heap
 len:σ.length=X.N.length
section
variable {X:Cx} {pins:List (Addr×Obj)} {σ:List (Option V)} {H H':Hp} {s:Shared} {h':Heap}
theorem Cx.Ok.nofr (ok:X.Ok) {b:Addr} {o:Obj} (e:X.base.get? b=some o):b∉X.fs:=fun hb=>by
 have:=(ok.kc.mem hb).1;rw[e] at this; cases this
theorem Inv.bs (I:Inv X pins σ H s):∀b o,X.base.get? b=some o->s.heap.get? b=some o/\H b=none:=fun b o e =>
 ⟨I.base.keep b o (I.ok.bs b o e).1 (I.ok.bs b o e).2 (I.ok.nofr e) (I.ok.noex b o e),I.base.free b o (I.ok.bs b o e).1 (I.ok.bs b o e).2 (I.ok.noex b o e)⟩
theorem Inv.bk (I:Inv X pins σ H s):∀b o,X.base.get? b=some o->s.heap.get? b=some o:=fun b o e=>(I.bs b o e).1
theorem Inv.mod (I:Inv X pins σ H s):Mod X.K X.mg X.base:=I.ok.mod
theorem Inv.uB (I:Inv X pins σ H s):X.K.In s.heap:=I.ok.mod.kin.keeps I.bk
theorem Inv.lt (I:Inv X pins σ H s):X.env.locals<s.heap.objs.size:=let ⟨_,hn,_⟩:=I.loc; hn.lt
theorem Inv.sz (I:Inv X pins σ H s):X.s₀.heap.objs.size<=s.heap.objs.size:=Nat.le_trans I.ok.above (Nat.le_of_lt I.lt)
theorem Inv.nofs (I:Inv X pins σ H s) {a:Addr} (h:s.heap.objs.size<=a):a∉X.fs:=fun hb=>by
 obtain⟨_,o,ho,_⟩:=I.ok.kc.mem hb;exact absurd (Nat.lt_of_lt_of_le (Heap.lt_size ho) (Nat.le_trans I.sz h)) (Nat.lt_irrefl _)
theorem Inv.ym (I:Inv X pins σ H s):∀x c,X.env.cells.lookup x=some c->c≠X.env.locals:=fun x c e z=>by
 obtain⟨v,o,ho,hd⟩:=I.cell x c e;obtain⟨m,⟨o',es,ep,ho',hd',_⟩,_⟩:=I.loc;rw[z,ho'] at ho; cases ho; rw[hd'] at hd; cases hd
theorem Inv.kc (I:Inv X pins σ H s):s.heap.FunFrames X.base X.outer:=by
 have all:∀ (l:List Env),(∀b∈frs l,b∈X.fs)->X.s₀.heap.FunFrames X.base l->s.heap.FunFrames X.base l:=by
  intro l
  induction l with
  | nil=>intro _ _; trivial
  | cons env r ih =>
   intro hs hl;obtain⟨hk,⟨L,o,hf,hn,ho,hd⟩,hr⟩:=hl;have hL:L∈X.fs:=hs L (by unfold frs; rw[List.filterMap_cons,hf]; exact lS)
   obtain⟨sl,e⟩:=I.base.slot L o ho (I.ok.frf L hL) hL fun z=>I.ok.exfs L z hL
   exact⟨hk,⟨L,_,hf,hn,e,hd⟩,ih (fun b hb=>hs b (by unfold frs; rw[List.filterMap_cons,hf]; exact lO _ hb)) hr⟩
 exact all X.outer (fun _ hb=>hb) I.ok.kc
theorem Inv.stack (I:Inv X pins σ H s):s.heap.FunFrames X.base X.stack:=by
 rcases I.ok.stk with e | ⟨e,hf⟩
 ·rw[e]; exact I.kc
 ·rw[e]
  obtain⟨m,hn,_⟩:=I.loc;refine .cons (by rw[I.ok.kind]; decide) hf hn ?_ I.kc
  exact Heap.get?_none_of_le (Nat.le_trans I.ok.bsz I.ok.above)
theorem Inv.jy (I:Inv X pins σ H s):∀b∈frs X.stack,b∈X.env.locals::X.fs:=fun b hb=>by
 rcases I.ok.stk with e | ⟨e,hf⟩
 ·rw[e] at hb; exact lO _ hb
 ·rw[e] at hb
  unfold frs at hb;rw[List.filterMap_cons,hf] at hb;exact hb
theorem Inv.sU (I:Inv X pins σ H s):∀b∈frs X.stack,H b=none:=fun b hb=>by
 rcases lK (I.jy b hb) with e | hb
 ·rw[e]; exact I.free
 ·obtain⟨_,o,ho,_⟩:=I.ok.kc.mem hb
  exact I.base.free b o ho (I.ok.frf b hb) fun z=>I.ok.exfs b z hb
theorem Inv.step {g':Array GenState} {t':Nat} {d':Drawn} {ch:List Addr} (I:Inv X pins σ H s)
  (hch:∀b∈ch,(b∈X.ex\/X.s₀.heap.objs.size<=b)/\b≠X.env.locals/\(∀x c,X.env.cells.lookup x=some c->c≠b)/\∀p∈X.pn++pins,p.1≠b)
  (keep:∀b o,b≠X.env.locals->b∉X.fs->b∉ch->s.heap.get? b=some o->H b=none->h'.get? b=some o)
  (slot:∀b o,b≠X.env.locals->b∈X.fs->b∉ch->s.heap.get? b=some o->H b=none->∃sl,h'.get? b=some { o with slots:=sl }) (free:∀b o,b∉ch->s.heap.get? b=some o->H b=none->H' b=none)
  (there:∀b o,b∉ch->s.heap.get? b=some o->∃o',h'.get? b=some o')
  (tups:∀b xs,H b=some (.tup xs)->H' b=some (.tup xs)) (dH:∀b o u,H b=some (.frz o u)->H' b=some (.frz o u)) (tbls:∀b ps,H b=some (.tbl ps)->∃more,H' b=some (.tbl (ps++more)))
  (ns:∀m,s.heap.Ns X.env.locals m->h'.Ns X.env.locals m) (hok:iA X.prog X.w H' h') (hg:AllBare g') :
  Inv X pins σ H' { s with heap:=h',gens:=g',drawn:=d',toks:=t' }:=by
 have neL:∀b o,X.s₀.heap.get? b=some o->b≠X.env.locals:=fun b o e=>Nat.ne_of_lt (Nat.lt_of_lt_of_le (Heap.lt_size e) I.ok.above)
 have neC:∀b o,X.s₀.heap.get? b=some o->b∉X.ex->b∉ch:=fun b o e hx hb=>by
  rcases (hch b hb).1 with z | z
  ·exact hx z
  ·exact absurd (Nat.lt_of_lt_of_le (Heap.lt_size e) z) (Nat.lt_irrefl _)
 have cellK:∀x c,X.env.cells.lookup x=some c->∀v,s.heap.IsCell c v->h'.IsCell c v:=fun x c e v ⟨o,ho,hd⟩=>by
  have nch:c∉ch:=fun z=>(hch c z).2.2.1 x c e rfl
  by_cases hc:c∈X.fs
  ·obtain⟨sl,q⟩:=slot c o (I.ym x c e) hc nch ho (I.freeC x c e)
   exact⟨_,q,hd⟩
  ·exact⟨o,keep c o (I.ym x c e) hc nch ho (I.freeC x c e),hd⟩
 refine⟨I.ok,I.os,hg,⟨fun b o e n hb hx => ?_,fun b o e n hb hx => ?_,fun b o e n hx => ?_,fun b o e hx => ?_,fun b xs e=>tups b xs (I.base.tups b xs e),fun b o xs e=>dH b o xs (I.base.dH b o xs e),fun b ps e => ?_⟩,?_,fun x c e => ?_,?_,fun x c e => ?_,fun p hp => ?_,hok,I.len⟩
 ·exact keep b o (neL b o e) hb (neC b o e hx) (I.base.keep b o e n hb hx) (I.base.free b o e n hx)
 ·obtain⟨sl,e1⟩:=I.base.slot b o e n hb hx
  obtain⟨sl',e2⟩:=slot b _ (neL b o e) hb (neC b o e hx) e1 (I.base.free b o e n hx);exact⟨sl',e2⟩
 ·obtain⟨o',e1⟩:=I.base.there b o e hx
  exact free b o' (neC b o e hx) e1 (I.base.free b o e n hx)
 ·obtain⟨o',e1⟩:=I.base.there b o e hx
  exact there b o' (neC b o e hx) e1
 ·obtain⟨m1,e1⟩:=I.base.tbls b ps e
  obtain⟨m2,e2⟩:=tbls b _ e1;exact⟨m1++m2,by rw[e2,Array.append_assoc]⟩
 ·obtain⟨m,hn,hl⟩:=I.loc
  refine⟨m,ns m hn,fun i x v e1 e2 e3 => ?_⟩
  obtain⟨u,r,l⟩:=hl i x v e1 e2 e3;refine⟨u,r,?_⟩;rcases l with l | ⟨k,c,e,z⟩
  ·exact .inl l
  ·exact .inr ⟨k,c,e,cellK x c e _ z⟩
 ·obtain⟨v,z⟩:=I.cell x c e
  exact⟨v,cellK x c e v z⟩
 ·obtain⟨m,⟨o,_,_,ho,_⟩,_⟩:=I.loc
  exact free _ o (fun z=>(hch _ z).2.1 rfl) ho I.free
 ·obtain⟨v,o,ho,hd⟩:=I.cell x c e
  exact free c o (fun z=>(hch c z).2.2.1 x c e rfl) ho (I.freeC x c e)
 ·obtain⟨e,n,ne,nf,d⟩:=I.pin p hp
  have nch:p.1∉ch:=fun z=>(hch p.1 z).2.2.2 p hp rfl
  exact⟨keep p.1 p.2 ne nf nch e n,free p.1 p.2 nch e n,ne,nf,d⟩
theorem Inv.un {t':Nat} (I:Inv X pins σ H s) (u:Un X.fs [] H H' s.heap h') (hok:iA X.prog X.w H' h'):Inv X pins σ H' { s with heap:=h',toks:=t' }:=by
 obtain⟨m,⟨o,es,ep,ho,r⟩,_⟩:=id I.loc;obtain⟨sl,hL⟩:=u.any ho I.free (by simp)
 exact I.step (g':=s.gens) (d':=s.drawn) (ch:=[]) (fun _ z=>nomatch z) (fun b o _ hb _ e n=>u.keep b o e n hb (by simp)) (fun b o _ hb _ e n=>u.slot b o e n hb (by simp)) (fun b o _ e n=>u.free b o e n (by simp)) (fun b o _ e=>u.there b o e (by simp)) u.tups u.dH u.tbls (fun m' hm=>by
  obtain⟨o',es',ep',ho',r'⟩:=hm;rw[ho] at ho'; cases ho';exact⟨_,es',ep',hL,r'⟩) hok I.bare
theorem Inv.call {g':Array GenState} {t':Nat} {d':Drawn} {ch:List Addr} (I:Inv X pins σ H s) (u:Un (frs X.stack) ch H H' s.heap h') (hok:iA X.prog X.w H' h') (hg:AllBare g')
  (hch:∀b∈ch,(b∈X.ex\/X.s₀.heap.objs.size<=b)/\b≠X.env.locals/\(∀x c,X.env.cells.lookup x=some c->c≠b)/\∀p∈X.pn++pins,p.1≠b) :
  Inv X pins σ H' { s with heap:=h',gens:=g',drawn:=d',toks:=t' }:=by
 obtain⟨m,⟨o,es,ep,ho,r⟩,_⟩:=id I.loc;obtain⟨sl,hL⟩:=u.any ho I.free fun z=>(hch _ z).2.1 rfl
 exact I.step (ch:=ch) hch (fun b o hL hb hc e n=>u.keep b o e n (fun z=>(lK (I.jy b z)).elim hL hb) hc) (fun b o _ _ hc e n=>u.any e n hc) (fun b o hc e n=>u.free b o e n hc) (fun b o hc e=>u.there b o e hc) u.tups u.dH u.tbls (fun m' hm=>by
  obtain⟨o',es',ep',ho',r'⟩:=hm;rw[ho] at ho'; cases ho';exact⟨_,es',ep',hL,r'⟩) hok hg
theorem Inv.turned {t':Nat} {it:Addr} (I:Inv X pins σ H s) (k:∀b o,b≠it->s.heap.get? b=some o->h'.get? b=some o) (hn:H it=none) (hL:it≠X.env.locals)
  (h1:it∈X.ex\/X.s₀.heap.objs.size<=it) (h2:∀x c,X.env.cells.lookup x=some c->c≠it) (h3:∀p∈X.pn++pins,p.1≠it):Inv X pins σ H { s with heap:=h',toks:=t' }:=by
 have nit:∀b u,H b=some u->b≠it:=fun b u e z=>by rw[z,hn] at e; cases e
 refine I.step (g':=s.gens) (d':=s.drawn) (ch:=[it]) (fun b hb => ?_) (fun b o _ _ hc e _=>k b o (fun z=>hc (by simp[z])) e) (fun b o _ _ hc e _=>⟨o.slots,k b o (fun z=>hc (by simp[z])) e⟩) (fun _ _ _ _ n=>n)
  (fun b o hc e=>⟨o,k b o (fun z=>hc (by simp[z])) e⟩) (fun _ _ e=>e) (fun _ _ _ e=>e) (fun b ps e=>⟨#[],by rw[e]; simp⟩) (fun m hm => ?_) (fun b u e => ?_) I.bare
 ·have e:b=it:=by simpa using hb
  subst e;exact⟨h1,hL,h2,h3⟩
 ·obtain⟨o,es,ep,ho,r⟩:=hm
  exact⟨o,es,ep,k _ o (Ne.symm hL) ho,r⟩
 ·refine (I.hok b u e).stay (fun c v hc q=>k c v ?_ q) (fun _ q=>q) fun _ _ q=>q
  rcases hc with z | z
  ·rw[z]; exact nit b u e
  ·exact nit c _ z
theorem Inv.tok (I:Inv X pins σ H s) (t:Nat):Inv X pins σ H { s with toks:=t }:=I.un (h':=s.heap) (t':=t) Un.refl I.hok
theorem Inv.kept {t':Nat} (I:Inv X pins σ H s) (k:∀b u,s.heap.get? b=some u->h'.get? b=some u):Inv X pins σ H { s with heap:=h',toks:=t' }:=I.un (Un.kept k) (I.hok.kept k)
theorem Inv.laid {a:Addr} {o:HO} {t':Nat} (I:Inv X pins σ H s) (k:∀b u,s.heap.get? b=some u->h'.get? b=some u) (hp:s.heap.objs.size<=a) (new:ck X.prog X.w (upd H a o) h' a o) :
  Inv X pins σ (upd H a o) { s with heap:=h',toks:=t' }:=I.un (Un.laid k hp (I.hok.fresh hp)) (I.hok.laid k hp new)
theorem Inv.write {x e:Addr} {o:HO} {t':Nat} (I:Inv X pins σ H s) (mu:CO (H x)) (he:e=x\/H e=some (.own x)) (k:∀b u,b≠e->s.heap.get? b=some u->h'.get? b=some u) (heo:∃u,h'.get? e=some u)
  (new:ck X.prog X.w (upd H x o) h' x o):Inv X pins σ (upd H x o) { s with heap:=h',toks:=t' }:=I.un (Un.write mu he k heo) (I.hok.write mu he k heo new)
theorem Inv.sV {pins':List (Addr×Obj)} (I:Inv X pins σ H s) (h:∀p∈pins',s.heap.get? p.1=some p.2/\H p.1=none/\p.1≠X.env.locals/\p.1∉X.fs/\∀v,p.2.data≠.cell v):Inv X pins' σ H s :=
 ⟨I.ok,I.os,I.bare,I.base,I.loc,I.cell,I.free,I.freeC,fun p hp=>(lM hp).elim (fun z=>I.pin p (lL _ z)) (h p),I.hok,I.len⟩
theorem pZ {N:List Str} (hN:N.Nodup) {i j:Nat} {x:Str} (a:N[i]? = some x) (b:N[j]? = some x):i=j:=by
 obtain⟨h1,e1⟩:=List.getElem?_eq_some_iff.mp a;obtain⟨h2,e2⟩:=List.getElem?_eq_some_iff.mp b;exact (List.getElem_inj hN).mp (e1.trans e2.symm)
theorem ni {M:Model} {A:Around} {E:Value->Shared->Prop} {i:Nat} {x:Str} {v:V} {u:Value} {Q:Unit->Shared->Prop} (I:Inv X pins σ H s) (hN:X.N.Nodup) (hi:X.N[i]? = some x) (hx:Loc X.env.scope x) (r:RelV v u)
  (h:∀s',Inv X pins (σ.set i (some v)) H s'->(∃a,Heap.SameBut a s.heap s'.heap/\(a=X.env.locals\/X.env.cells.lookup x=some a))->Q () s') (hf:X.fn x=true\/X.env.scope.names.lookup x=some .local:=by first | exact .inl rfl | exact .inr rfl | assumption):wpAny M A (storeName X.env x u) Q E s:=by
 obtain⟨m,hn,hl⟩:=id I.loc;have hcls:(X.env.scope.kind == .class || (X.env.scope.kind == .module && X.env.locals != X.env.globals))=false:=by rw[I.ok.kind]; rfl
 have hiσ:i<σ.length:=by rw[I.len]; exact (List.getElem?_eq_some_iff.mp hi).1
 have ym:=I.ym;have tracked:∀ {a:Addr} {h':Heap},(∃o,s.heap.get? a=some o/\H a=none)->Heap.SameBut a s.heap h'->iA X.prog X.w H h':=fun {a h'} ha hs b ob e=>by
  obtain⟨_,_,hfree⟩:=ha;refine (I.hok b ob e).stay (fun c w' hc q=>(hs.2 c ?_).trans q) (fun _ q=>q) fun _ _ q=>q
  rintro rfl;rcases hc with rfl | hc
  ·rw[hfree] at e; cases e
  ·rw[hfree] at hc; cases hc
 rcases hx with hk | hk
 ·refine wpAny_storeName_local hk hn (fun h' hn' hs => ?_) hcls
  obtain⟨oL,_,_,hoL,_⟩:=id hn;refine h _ ⟨I.ok,I.os,I.bare,⟨fun b o e n hb hx => ?_,fun b o e n hb hx => ?_,I.base.free,fun b o e hx => ?_,I.base.tups,I.base.dH,I.base.tbls⟩,⟨_,hn',fun j y v' e1 e2 e3 => ?_⟩,fun y c e => ?_,I.free,I.freeC,fun p hp => ?_,tracked ⟨oL,hoL,I.free⟩ hs,by simpa using I.len⟩ ⟨_,hs,.inl rfl⟩
  ·exact (hs.2 b (Nat.ne_of_lt (Nat.lt_of_lt_of_le (Heap.lt_size e) I.ok.above))).trans (I.base.keep b o e n hb hx)
  ·obtain⟨sl,e1⟩:=I.base.slot b o e n hb hx
   exact⟨sl,(hs.2 b (Nat.ne_of_lt (Nat.lt_of_lt_of_le (Heap.lt_size e) I.ok.above))).trans e1⟩
  ·obtain⟨o',e1⟩:=I.base.there b o e hx
   exact⟨o',(hs.2 b (Nat.ne_of_lt (Nat.lt_of_lt_of_le (Heap.lt_size e) I.ok.above))).trans e1⟩
  ·by_cases hj:j=i
   ·subst hj
    rw[hi] at e1; cases e1;rw[List.getElem?_set_self hiσ] at e2;cases e2;exact⟨u,r,.inl ⟨hk,by simp⟩⟩
   ·rw[List.getElem?_set_ne (Ne.symm hj)] at e2
    obtain⟨u',r',q⟩:=hl j y v' e1 e2 e3;refine⟨u',r',?_⟩;rcases q with⟨k,e⟩ | ⟨k,c,e,z⟩
    ·refine .inl ⟨k,?_⟩
     have:y≠x:=fun e=>hj (pZ hN e1 (e▸hi))
     simp[this,e]
    ·exact .inr ⟨k,c,e,z.sameBut hs (ym y c e)⟩
  ·obtain⟨w',z⟩:=I.cell y c e
   exact⟨w',z.sameBut hs (ym y c e)⟩
  ·obtain⟨e,n,ne,nf,d⟩:=I.pin p hp
   exact⟨(hs.2 p.1 ne).trans e,n,ne,nf,d⟩
 ·have hfn:X.fn x=true:=by
   rcases hf with z | z
   ·exact z
   ·rw[z] at hk; cases hk
  obtain⟨c,hc⟩:=I.ok.has x (.inl hk);obtain⟨w',z⟩:=I.cell x c hc;refine wpAny_storeName_cell I.ok.kind hk hc z (fun h' hc' hs => ?_)
  obtain⟨oc,hoc,hocd⟩:=id z;refine h { s with heap:=h' } ⟨I.ok,I.os,I.bare,⟨fun b o e n hb hx => ?_,fun b o e n hb hx => ?_,I.base.free,fun b o e hx => ?_,I.base.tups,I.base.dH,I.base.tbls⟩,⟨m,hn.sameBut hs (Ne.symm (ym x c hc)),fun j y v' e1 e2 e3 => ?_⟩,fun y c' e => ?_,I.free,I.freeC,fun p hp => ?_,tracked ⟨oc,hoc,I.freeC x c hc⟩ hs,by simpa using I.len⟩ ⟨c,hs,.inr hc⟩
  ·exact (hs.2 b (Nat.ne_of_lt (Nat.lt_of_lt_of_le (Heap.lt_size e) (I.ok.cab x c hfn hc)))).trans (I.base.keep b o e n hb hx)
  ·obtain⟨sl,e1⟩:=I.base.slot b o e n hb hx
   exact⟨sl,(hs.2 b (Nat.ne_of_lt (Nat.lt_of_lt_of_le (Heap.lt_size e) (I.ok.cab x c hfn hc)))).trans e1⟩
  ·obtain⟨o',e1⟩:=I.base.there b o e hx
   exact⟨o',(hs.2 b (Nat.ne_of_lt (Nat.lt_of_lt_of_le (Heap.lt_size e) (I.ok.cab x c hfn hc)))).trans e1⟩
  ·by_cases hj:j=i
   ·subst hj
    rw[hi] at e1; cases e1;rw[List.getElem?_set_self hiσ] at e2;cases e2;exact⟨u,r,.inr ⟨.inl hk,c,hc,hc'⟩⟩
   ·rw[List.getElem?_set_ne (Ne.symm hj)] at e2
    obtain⟨u',r',q⟩:=hl j y v' e1 e2 e3;refine⟨u',r',?_⟩;rcases q with q | ⟨k,c',e,z'⟩
    ·exact .inl q
    ·refine .inr ⟨k,c',e,z'.sameBut hs ?_⟩
     rintro rfl;exact hj (pZ hN e1 (I.ok.inj _ _ _ e hc▸hi))
  ·by_cases hcc:c'=c
   ·subst hcc; exact⟨_,hc'⟩
   ·obtain⟨w2,z2⟩:=I.cell y c' e
    exact⟨w2,z2.sameBut hs hcc⟩
  ·obtain⟨e,n,ne,nf,d⟩:=I.pin p hp
   refine⟨(hs.2 p.1 ?_).trans e,n,ne,nf,d⟩;intro q;rw[q,hoc] at e;have q':oc=p.2:=Option.some.inj e;exact d w' (by rw[<-q']; exact hocd)
theorem p5 {M:Model} {A:Around} {E:Value->Shared->Prop} {i:Nat} {x:Str} {v:V} {u:Value} {Q:Unit->Shared->Prop} (I:Inv X pins σ H s) (hN:X.N.Nodup) (hi:X.N[i]? = some x) (hx:Loc X.env.scope x) (r:RelV v u)
  (h:∀s',Inv X pins (σ.set i (some v)) H s'->Q () s') (hf:X.fn x=true\/X.env.scope.names.lookup x=some .local:=by first | exact .inl rfl | exact .inr rfl | assumption):wpAny M A (storeName X.env x u) Q E s :=
 ni I hN hi hx r (fun s' I' _=>h s' I') hf
theorem Inv.call' {s':Shared} {ch:List Addr} (I:Inv X pins σ H s) (ho:s'.os=s.os) (u:Un (frs X.stack) ch H H' s.heap s'.heap) (hok:iA X.prog X.w H' s'.heap) (hg:AllBare s'.gens)
  (hch:∀b∈ch,(b∈X.ex\/X.s₀.heap.objs.size<=b)/\b≠X.env.locals/\(∀x c,X.env.cells.lookup x=some c->c≠b)/\∀p∈X.pn++pins,p.1≠b):Inv X pins σ H' s':=by
 obtain⟨h',g',d',t',o'⟩:=s';have e:o'=s.os:=ho;subst e;exact I.call (g':=g') (t':=t') (d':=d') u hok hg hch
end
abbrev XK:=Value->Option Addr->Hp->Prop
abbrev St:=List (Option V)
abbrev VK:=V->Hp->Prop
abbrev TE:=St->Hp->VK->Prop
abbrev TT:=St->Hp->(Bool->Hp->Prop)->Prop
abbrev TA:=St->Hp->(List V->Hp->Prop)->Prop
structure Ends where
 nx:St->Hp->Prop
 rt:VK
 bk:St->Hp->Prop:=fun _ _=>False
 ct:St->Hp->Prop:=fun _ _=>False
abbrev TS:=Ends->St->Hp->Prop
def EP (X:Cx) (pins:List (Addr×Obj)) (σ:St) (Q:VK) (u:Value) (s':Shared):Prop:=∃v H',Inv X pins σ H' s'/\RelV v u/\Q v H'
def TP (X:Cx) (pins:List (Addr×Obj)) (σ:St) (Q:Bool->Hp->Prop) (b:Bool) (s':Shared):Prop:=∃H',Inv X pins σ H' s'/\Q b H'
def AP (X:Cx) (pins:List (Addr×Obj)) (σ:St) (Q:List V->Hp->Prop) (us:List Value) (s':Shared):Prop:=∃vs H',Inv X pins σ H' s'/\Vals vs us/\Q vs H'
def SP (X:Cx) (pins:List (Addr×Obj)) (D:Ends) (f:Flow) (s':Shared):Prop :=
 match f with
 | .next=>∃σ' H',Inv X pins σ' H' s'/\D.nx σ' H'
 | .brk=>∃σ' H',Inv X pins σ' H' s'/\D.bk σ' H'
 | .cont=>∃σ' H',Inv X pins σ' H' s'/\D.ct σ' H'
 | .ret u=>∃v σ' H',Inv X pins σ' H' s'/\RelV v u/\D.rt v H'
def PE (X:Cx) (e:Expr) (t:TE):Prop :=
 ∀ (pins:List (Addr×Obj)) (s:Shared) (σ:St) (H:Hp) (Q:VK),Inv X pins σ H s->t σ H Q->wpAny (model X.prog X.w) X.A (eval e X.env) (EP X pins σ Q) X.xe s
def PT (X:Cx) (e:Expr) (t:TT):Prop :=
 ∀ (pins:List (Addr×Obj)) (s:Shared) (σ:St) (H:Hp) (Q:Bool->Hp->Prop),Inv X pins σ H s->t σ H Q->wpAny (model X.prog X.w) X.A (isTrue e X.env (eval e X.env)) (TP X pins σ Q) X.xe s
def PW (X:Cx) (e:Expr) (t:TT):Prop :=
 ∀ (whole:Sem Value) (pins:List (Addr×Obj)) (s:Shared) (σ:St) (H:Hp) (Q:Bool->Hp->Prop),Inv X pins σ H s->t σ H Q->wpAny (model X.prog X.w) X.A (isTrue e X.env whole) (TP X pins σ Q) X.xe s
theorem PW.pt {X:Cx} {e:Expr} {t:TT} (h:PW X e t):PT X e t:=h _
def PA (X:Cx) (es:List Expr) (t:TA):Prop :=
 ∀ (pos:Pos) (pins:List (Addr×Obj)) (s:Shared) (σ:St) (H:Hp) (Q:List V->Hp->Prop),Inv X pins σ H s->t σ H Q->wpAny (model X.prog X.w) X.A (spliced (backTo pos (starEach es X.env))) (AP X pins σ Q) X.xe s
def PS (X:Cx) (st:Stmt) (t:TS):Prop :=
 ∀ (pins:List (Addr×Obj)) (s:Shared) (σ:St) (H:Hp) (D:Ends),Inv X pins σ H s->t D σ H->wpAny (model X.prog X.w) X.A (exec st X.env) (SP X pins D) X.xe s
def q9 (X:Cx) (st:List Stmt) (t:TS):Prop :=
 ∀ (pins:List (Addr×Obj)) (s:Shared) (σ:St) (H:Hp) (D:Ends),Inv X pins σ H s->t D σ H->wpAny (model X.prog X.w) X.A (execs st X.env) (SP X pins D) X.xe s
theorem bA {α:Type} {t:Sem α} {Q Q':α->Shared->Prop} {M:Model} {A:Around} {E:Value->Shared->Prop} {s:Shared} (h:wpAny M A t Q E s) (hQ:∀a s,Q a s->Q' a s):wpAny M A t Q' E s:=wpAny_mono h hQ fun _ _ x=>x
end L2
namespace L2
open PySem PySem.Spec PyProof.Rows
section
variable {X:Cx}
theorem bin {a b:Expr} {ta tb:TE} (ha:PE X a ta) (hb:PE X b tb) {pins:List (Addr×Obj)} {s:Shared} {σ:St} {H:Hp} {R:V->V->Hp->Prop} (I:Inv X pins σ H s) (h:ta σ H fun x H1=>tb σ H1 fun y H2=>R x y H2)
  {α:Type} {Q:α->Shared->Prop} {f:Value->Value->Sem α}
  (hf:∀v u s2 x y H2,Inv X pins σ H2 s2->RelV x v->RelV y u->R x y H2->wpAny (model X.prog X.w) X.A (f v u) Q X.xe s2) :
  wpAny (model X.prog X.w) X.A (eval a X.env) (fun v s₁=>wpAny (model X.prog X.w) X.A (eval b X.env) (fun u s₂=>wpAny (model X.prog X.w) X.A (f v u) Q X.xe s₂) X.xe s₁) X.xe s:=by
 refine bA (ha pins s σ H _ I h) fun v s1 ⟨x,H1,I1,r1,q1⟩ => ?_
 refine bA (hb pins s1 σ H1 _ I1 q1) fun u s2 ⟨y,H2,I2,r2,q2⟩ => ?_
 exact hf v u s2 x y H2 I2 r1 r2 q2
noncomputable def fC (i:Nat):TE:=fun σ H Q=>∃v,σ[i]? = some (some v)/\Q v H
noncomputable def tC (v:V):TE:=fun _ H Q=>Q v H
theorem rf {i:Nat} {x:Str} {pos:Pos} (hN:X.N[i]? = some x) (hv:AD X.env.scope x) (hd:(x == ("__debug__" : Str))=false:=by decide) (hcd:(x == ("__classdict__" : Str))=false:=by decide):PE X (.Name x pos) (fC i):=by
 intro pins s σ H Q I h;obtain⟨v,e,h⟩:=h;obtain⟨m,hn,hl⟩:=I.loc;obtain⟨u,r,l⟩:=hl i x v hN e hv;have fin:EP X pins σ Q u s:=⟨v,H,I,r,h⟩;rcases l with⟨hk,hm⟩ | ⟨hk,c,hc,hcell⟩
 ·exact wpAny_Name (wpAny_loadName_local I.ok.kind hk hn hm fin) hd
 ·rcases hk with hk | hk
  ·exact wpAny_Name (wpAny_loadName_cell I.ok.kind hk hc hcell fin) hd
  ·exact wpAny_Name (wpAny_loadName_free I.ok.kind hk hc hcell fin hcd) hd
theorem AE {i j pos}:PE X (.Constant (.int i) j pos) (tC (.int i)):=fun _ _ _ H _ I h=>wpAny_Constant_int ⟨.int i,H,I.tok _,⟨_,rfl⟩,h⟩
theorem pe_bl {b j pos}:PE X (.Constant (.bool b) j pos) (tC (.bl b)):=fun _ _ _ H _ I h=>Constant_bool ⟨.bl b,H,I,rfl,h⟩
theorem AF {j pos}:PE X (.Constant .none j pos) (tC .non):=fun _ _ _ H _ I h=>Constant_none ⟨.non,H,I,rfl,h⟩
def Gl (X:Cx) (x:Str):Prop:=X.env.kindOf x=some .globalImplicit
theorem yu {E:Value->Shared->Prop} {pins:List (Addr×Obj)} {s:Shared} {σ:St} {H:Hp} {x:Str} {u:Value} {pos:Pos} {Q:Value->Shared->Prop} (I:Inv X pins σ H s) (hg:Gl X x) (hm:X.mg x=some u) (h:Q u s)
  (hd:(x == ("__debug__" : Str))=false:=by decide):wpAny (model X.prog X.w) X.A (eval (.Name x pos) X.env) Q E s :=
 Calls.Name_function_global I.ok.kind hg (Calls.loadGlobal_global (by rw[I.ok.glob]; exact I.mod.glob.keeps I.bk) hm h) hd
theorem fW {E:Value->Shared->Prop} {pins:List (Addr×Obj)} {s:Shared} {σ:St} {H:Hp} {x:Str} {u:Value} {pos:Pos} {Q:Value->Shared->Prop} (I:Inv X pins σ H s) (hg:Gl X x) (hm:X.mg x=none) (hv:bootBuiltins x=some u) (h:Q u s)
  (hn:x ≠ "__name__" := by decide) (hd:(x == ("__debug__" : Str))=false:=by decide):wpAny (model X.prog X.w) X.A (eval (.Name x pos) X.env) Q E s:=by
 obtain⟨mb,h1,h2⟩:=I.mod.blt;exact Calls.Name_function_global I.ok.kind hg (Calls.loadGlobal_builtin (by rw[I.ok.glob]; exact I.mod.glob.keeps I.bk) hm (by rw[I.ok.blt]; exact h1.keeps I.bk) ((h2 x hn).trans hv) h) hd
theorem eT {x:Str} {v:V} {u:Value} {pos:Pos} (hg:Gl X x) (hm:X.mg x=none) (hv:bootBuiltins x=some u) (r:RelV v u) (hn:x ≠ "__name__" := by decide) (hd:(x == ("__debug__" : Str))=false:=by decide):PE X (.Name x pos) (tC v) :=
 fun _ _ _ H _ I h=>fW I hg hm hv ⟨v,H,I,r,h⟩ hn hd
variable {a b:Expr} {ta tb:TE} {pos:Pos}
def PC (X:Cx) (op:CmpOp) (a b:Expr) (t:TE):Prop :=
 ∀ (pins:List (Addr×Obj)) (s:Shared) (σ:St) (H:Hp) (Q:VK),Inv X pins σ H s->t σ H Q ->
  wpAny (model X.prog X.w) X.A (eval a X.env) (fun v s₁=>wpAny (model X.prog X.w) X.A (eval b X.env) (fun u s₂=>wpAny (model X.prog X.w) X.A (compareOp op v u) (EP X pins σ Q) X.xe s₂) X.xe s₁) X.xe s
noncomputable def tB (t:TE):TT:=fun σ H Q=>t σ H fun x H1=>∃c,x=.bl c/\Q c H1
theorem vK {op:CmpOp} {t:TE} (h:PC X op a b t) (h1:behindInMarks op b=false:=by first | exact vL _ (by decide) (by decide) | rfl):PE X (.Compare a [op] [b] pos) t:=fun pins s σ H Q I hw=>wpAny_Compare1 (h pins s σ H Q I hw) h1
theorem AG {op:CmpOp} {t:TE} (h:PC X op a b t) (h1:behindInMarks op b=false:=by first | exact vL _ (by decide) (by decide) | rfl):PT X (.Compare a [op] [b] pos) (tB t):=by
 intro pins s σ H Q I hw;refine wpAny_isTrue_Compare1 (bA (h pins s σ H _ I hw) fun v s1 h1=>bA h1 fun u s2 h2=>bA h2 fun c s3 ⟨x,H1,I1,r1,q1⟩ => ?_) h1
 obtain⟨d,rfl,q⟩:=q1;cases r1;exact wpAny_truthy_bool ⟨H1,I1,q⟩
variable {tA tB':TT} {rest:List Expr}
noncomputable def tAnd (t u:TT):TT:=fun σ H Q=>t σ H fun c H1=>if c=true then u σ H1 Q else Q false H1
noncomputable def Dv (t u:TT):TT:=fun σ H Q=>t σ H fun c H1=>if c=true then Q true H1 else u σ H1 Q
noncomputable def tNot (t:TT):TT:=fun σ H Q=>t σ H fun c H1=>Q (!c) H1
theorem yw (ha:PT X a tA):PW X (.BoolOp .And [a] pos) tA:=by
 intro wh pins s σ H Q I h;refine isTrue_and (bA (ha pins s σ H Q I h) fun c s1 e => ?_)
 cases c with
 | true=>exact isTrue_and_nil e
 | false=>exact e
theorem AH (ha:PT X a tA):PW X (.BoolOp .Or [a] pos) tA:=by
 intro wh pins s σ H Q I h;refine isTrue_or (bA (ha pins s σ H Q I h) fun c s1 e => ?_)
 cases c with
 | false=>exact isTrue_or_nil e
 | true=>exact e
theorem AI (ha:PT X a tA) (hb:PW X (.BoolOp .And (b::rest) pos) tB'):PW X (.BoolOp .And (a::b::rest) pos) (tAnd tA tB'):=by
 intro wh pins s σ H Q I h;refine isTrue_and (bA (ha pins s σ H _ I h) fun c s1 ⟨H1,I1,q1⟩ => ?_)
 cases c with
 | true=>exact hb wh pins s1 σ H1 Q I1 q1
 | false=>exact⟨H1,I1,q1⟩
theorem pw_or (ha:PT X a tA) (hb:PW X (.BoolOp .Or (b::rest) pos) tB'):PW X (.BoolOp .Or (a::b::rest) pos) (Dv tA tB'):=by
 intro wh pins s σ H Q I h;refine isTrue_or (bA (ha pins s σ H _ I h) fun c s1 ⟨H1,I1,q1⟩ => ?_)
 cases c with
 | true=>exact⟨H1,I1,q1⟩
 | false=>exact hb wh pins s1 σ H1 Q I1 q1
theorem AJ (ha:PT X a tA):PT X (.UnaryOp .Not a pos) (tNot tA):=by
 intro pins s σ H Q I h;exact isTrue_not (ha pins s σ H (fun c H1=>Q (!c) H1) I h)
noncomputable def tAndV (ta tb:TE):TE:=fun σ H Q=>ta σ H fun x H1=>∃c,x=.bl c/\if c=true then tb σ H1 Q else Q (.bl false) H1
noncomputable def tNotV (ta:TE):TE:=fun σ H Q=>ta σ H fun x H1=>∃c,x=.bl c/\Q (.bl (!c)) H1
theorem AK {op} {t:TE} (h:PE X a t):PE X (.BoolOp op [a] pos) t:=fun pins s σ H Q I hw=>BoolOp_one (h pins s σ H Q I hw)
theorem AL (ha:PE X a ta) (hb:PE X (.BoolOp .And (b::rest) pos) tb):PE X (.BoolOp .And (a::b::rest) pos) (tAndV ta tb):=by
 intro pins s σ H Q I h;refine BoolOp_and (bA (ha pins s σ H _ I h) fun v s1 ⟨x,H1,I1,r1,q1⟩ => ?_)
 obtain⟨c,rfl,q1⟩:=q1;cases r1;refine wpAny_truthy_bool ?_;cases c with
 | true=>exact hb pins s1 σ H1 Q I1 q1
 | false=>exact⟨.bl false,H1,I1,rfl,q1⟩
theorem AM (ha:PE X a ta):PE X (.UnaryOp .Not a pos) (tNotV ta):=by
 intro pins s σ H Q I h;refine UnaryOp_ (bA (ha pins s σ H _ I h) fun v s1 ⟨x,H1,I1,r1,q1⟩ => ?_)
 obtain⟨c,rfl,q1⟩:=q1;cases r1;exact not_of (wpAny_truthy_bool ⟨.bl (!c),H1,I1,rfl,q1⟩)
end
end L2
namespace L2
open PySem PySem.Spec PyProof.Rows
def fV (K:PySem.W.Frag) (H:Hp) (a:Addr) (xs:List V):Prop :=
 Rd H a (.lst xs) \/
  ∃ (o:Obj) (its:Array Value) (n:Nat),K.lookup a=some o/\o.cls=.type "list"/\o.dict=none/\o.data=.seq its n/\its.size<=sizeLine/\Vals xs its.toList
def cK (K:PySem.W.Frag) (H:Hp) (a:Addr) (xs:List V):Prop :=
 Rd H a (.tup xs) \/
  ∃ (o:Obj) (its:Array Value) (n:Nat),K.lookup a=some o/\o.cls=.type "tuple"/\o.data=.seq its n/\its.size<=sizeLine/\Vals xs its.toList
noncomputable def absV:Value->Option V
 | .none=>some .non
 | .bool b=>some (.bl b)
 | .int i _=>some (.int i)
 | .str x _=>some (.str x)
 | .bytes b _=>some (.byt b)
 | .float b _=>some (.flt b)
 | .ref a=>some (.ref a)
 | .type n=>some (.ty n)
 | _=>none
theorem RelV.abs {x:V} {u:Value} (r:RelV x u):absV u=some x:=by
 cases x with
 | non=>cases r; rfl
 | bl _=>cases r; rfl
 | int _=>obtain⟨t,rfl⟩:=r; rfl
 | str _=>obtain⟨t,rfl⟩:=r; rfl
 | byt _=>obtain⟨t,rfl⟩:=r; rfl
 | flt _=>obtain⟨t,rfl⟩:=r; rfl
 | ref _=>cases r; rfl
 | ty _=>cases r; rfl
theorem RelV.inj {x y:V} {u:Value} (r:RelV x u) (q:RelV y u):x=y:=Option.some.inj (r.abs.symm.trans q.abs)
theorem Vals.inj:∀ {xs ys:List V} {us:List Value},Vals xs us->Vals ys us->xs=ys
 | _,_,_,.nil,.nil=>rfl
 | _,_,_,.cons r t,.cons r' t'=>by rw[r.inj r',Vals.inj t t']
section
variable {X:Cx} {pins:List (Addr×Obj)} {σ:St} {H:Hp} {s:Shared} {a:Addr} {xs ys:List V}
theorem fV.of {K:PySem.W.Frag} (h:H a=some (.lst xs)):fV K H a xs:=.inl (.inl h)
theorem cK.of {K:PySem.W.Frag} (h:H a=some (.tup xs)):cK K H a xs:=.inl (.inl h)
theorem Inv.list (I:Inv X pins σ H s) (h:fV X.K H a xs):∃its:List Value,Vals xs its/\PlainL s.heap a its.toArray/\xs.length<=sizeLine:=by
 rcases h with h | ⟨o,its,n,hk,hc,hd,hs,hz,r⟩
 ·obtain⟨z,its,n,r,e⟩:=h.ok I.hok
  exact⟨its,r,⟨_,n,e,rfl,rfl,rfl⟩,z⟩
 ·refine⟨its.toList,r,⟨o,n,I.uB a o hk,hc,hd,by simpa using hs⟩,?_⟩
  have e:=r.length;simp only[Array.length_toList] at e;lia
theorem Inv.tuple (I:Inv X pins σ H s) (h:cK X.K H a xs):∃its:List Value,Vals xs its/\IsTup s.heap a its.toArray/\xs.length<=sizeLine:=by
 rcases h with h | ⟨o,its,n,hk,hc,hs,hz,r⟩
 ·obtain⟨z,its,r,p⟩:=h.ok I.hok
  exact⟨its,r,p,z⟩
 ·refine⟨its.toList,r,⟨o,I.uB a o hk,hc,n,by simpa using hs⟩,?_⟩
  have e:=r.length;simp only[Array.length_toList] at e;lia
theorem Inv.vM (I:Inv X pins σ H s) (h:fV X.K H a xs) (h':fV X.K H a ys):xs=ys:=by
 obtain⟨its,r,⟨o,n,e,_,_,d⟩,_⟩:=I.list h;obtain⟨its',r',⟨o',n',e',_,_,d'⟩,_⟩:=I.list h';rw[e] at e'; cases e';rw[d] at d'
 injection d' with d1 _
 have:its=its':=by simpa using congrArg Array.toList d1
 subst this;exact r.inj r'
theorem Inv.jz (I:Inv X pins σ H s) (h:cK X.K H a xs) (h':cK X.K H a ys):xs=ys:=by
 obtain⟨its,r,⟨o,e,_,n,d⟩,_⟩:=I.tuple h;obtain⟨its',r',⟨o',e',_,n',d'⟩,_⟩:=I.tuple h';rw[e] at e'; cases e';rw[d] at d'
 injection d' with d1 _
 have:its=its':=by simpa using congrArg Array.toList d1
 subst this;exact r.inj r'
end
abbrev Cx.mG (X:Cx) (E:Value->Shared->Prop):Cx:={ X with xe:=E }
abbrev Cx.Cy (X:Cx):Cx:=X.mG fun _ _=>False
theorem Cx.Ok.mG {X:Cx} (ok:X.Ok) (E:Value->Shared->Prop):(X.mG E).Ok :=
 ⟨ok.mod,ok.kind,ok.glob,ok.blt,ok.above,ok.inj,ok.has,ok.cab,ok.hd,ok.frames,ok.stk,ok.exf,ok.bs,ok.bsz,ok.noex,ok.exfs,ok.kc,ok.frf⟩
theorem Cx.Ok.gw {X:Cx} {E:Value->Shared->Prop} (ok:(X.mG E).Ok):X.Ok :=
 ⟨ok.mod,ok.kind,ok.glob,ok.blt,ok.above,ok.inj,ok.has,ok.cab,ok.hd,ok.frames,ok.stk,ok.exf,ok.bs,ok.bsz,ok.noex,ok.exfs,ok.kc,ok.frf⟩
section
variable {X:Cx} {pins:List (Addr×Obj)} {σ:St} {H:Hp} {s:Shared} {E:Value->Shared->Prop}
theorem Inv.mG (I:Inv X pins σ H s) (E:Value->Shared->Prop):Inv (X.mG E) pins σ H s:=⟨I.ok.mG E,I.os,I.bare,I.base,I.loc,I.cell,I.free,I.freeC,I.pin,I.hok,I.len⟩
theorem Inv.gw (I:Inv (X.mG E) pins σ H s):Inv X pins σ H s:=⟨I.ok.gw,I.os,I.bare,I.base,I.loc,I.cell,I.free,I.freeC,I.pin,I.hok,I.len⟩
theorem SP.gw {D:Ends} {f:Flow} {s':Shared} (h:SP (X.mG E) pins D f s'):SP X pins D f s':=by
 cases f with
 | next=>obtain⟨σ',H',I,q⟩:=h; exact⟨σ',H',I.gw,q⟩
 | brk=>obtain⟨σ',H',I,q⟩:=h; exact⟨σ',H',I.gw,q⟩
 | cont=>obtain⟨σ',H',I,q⟩:=h; exact⟨σ',H',I.gw,q⟩
 | ret u=>obtain⟨v,σ',H',I,r,q⟩:=h; exact⟨v,σ',H',I.gw,r,q⟩
theorem q9.Cy {st:List Stmt} {t:TS} (h:q9 X.Cy st t):q9 X st t:=fun pins s σ H D I hw =>
 wpAny_mono (h pins s σ H D (I.mG _) hw) (fun _ _ q=>q.gw) fun _ _ z=>False.elim z
end
section
variable {X:Cx} {st:Stmt} {rest:List Stmt} {t u:TS} {e:Expr} {te:TE} {pos:Pos}
noncomputable def Ae:TS:=fun D σ H=>D.nx σ H
noncomputable def tSeq (t u:TS):TS:=fun D σ H=>t { D with nx:=u D } σ H
theorem yx:q9 X [] Ae:=fun _ _ σ H _ I h=>wpAny_execs_nil ⟨σ,H,I,h⟩
theorem vN (h1:PS X st t) (h2:q9 X rest u):q9 X (st::rest) (tSeq t u):=by
 intro pins s σ H D I h;refine wpAny_execs_cons (bA (h1 pins s σ H { D with nx:=u D } I h) fun f s1 q => ?_)
 cases f with
 | next =>
  obtain⟨σ',H',I',q⟩:=q;exact h2 pins s1 σ' H' D I' q
 | ret v=>exact q
 | brk=>exact q
 | cont=>exact q
theorem yy (h1:PS X st t):q9 X [st] t:=by
 intro pins s σ H D I h;refine wpAny_execs_cons (bA (h1 pins s σ H D I h) fun f s1 q => ?_)
 cases f with
 | next=>exact wpAny_execs_nil q
 | ret v=>exact q
 | brk=>exact q
 | cont=>exact q
theorem Inv.quiet {pins:List (Addr×Obj)} {σ:St} {H:Hp} {s:Shared} (I:Inv X pins σ H s):interactive X.env=false:=by simp[interactive,I.ok.kind]
noncomputable def tDrop (te:TE):TS:=fun D σ H=>te σ H fun _ H1=>D.nx σ H1
theorem yz (he:PE X e te) (hs:swapsWith e none pos.line X.env=pure false:=by rfl):PS X (.Expr e pos) (tDrop te):=by
 intro pins s σ H D I h;exact wpAny_Expr_any (bA (he pins s σ H _ I h) fun v s1 ⟨x,H1,I1,r1,q1⟩=>⟨σ,H1,I1,q1⟩) I.quiet hs
noncomputable def tRet (te:TE):TS:=fun D σ H=>te σ H D.rt
theorem AN (he:PE X e te):PS X (.Return (some e) pos) (tRet te):=by
 intro pins s σ H D I h;exact wpAny_Return_some (bA (he pins s σ H _ I h) fun v s1 ⟨x,H1,I1,r1,q1⟩=>⟨x,σ,H1,I1,r1,q1⟩)
noncomputable def tIfS (c:TT) (t u:TS):TS:=fun D σ H=>c σ H fun b H1=>if b=true then t D σ H1 else u D σ H1
theorem ps_if {c:Expr} {a b:List Stmt} {tc:TT} (hc:PT X c tc) (ha:q9 X a t) (hb:q9 X b u):PS X (.If c a b pos) (tIfS tc t u):=by
 intro pins s σ H D I h;refine wpAny_If (bA (hc pins s σ H _ I h) fun d s1 ⟨H1,I1,q1⟩ => ?_)
 cases d with
 | true=>exact ha pins s1 σ H1 D I1 q1
 | false=>exact hb pins s1 σ H1 D I1 q1
end
abbrev TG:=V->St->Hp->(St->Hp->Prop)->Prop
abbrev yo:=List V->St->Hp->(St->Hp->Prop)->Prop
def PG (X:Cx) (target:Expr) (t:TG):Prop :=
 ∀ (pins:List (Addr×Obj)) (s:Shared) (σ:St) (H:Hp) (v:V) (u:Value) (Q:St->Hp->Prop),Inv X pins σ H s->RelV v u->t v σ H Q ->
  wpAny (model X.prog X.w) X.A (assign target X.env u) (fun _ s'=>∃σ' H',Inv X pins σ' H' s'/\Q σ' H') X.xe s
def Af (X:Cx) (ts:List Expr) (t:yo):Prop :=
 ∀ (pins:List (Addr×Obj)) (s:Shared) (σ:St) (H:Hp) (vs:List V) (us:List Value) (Q:St->Hp->Prop),Inv X pins σ H s->Vals vs us->t vs σ H Q ->
  wpAny (model X.prog X.w) X.A (assignInOrder ((assignEach ts X.env).map (·.2)) us) (fun _ s'=>∃σ' H',Inv X pins σ' H' s'/\Q σ' H') X.xe s
abbrev TSet:=V->V->V->Hp->(Hp->Prop)->Prop
def PSet (X:Cx) (t:TSet):Prop :=
 ∀ (pins:List (Addr×Obj)) (s:Shared) (σ:St) (H:Hp) (o i v:V) (ov iv u:Value) (Q:Hp->Prop),Inv X pins σ H s->RelV o ov->RelV i iv->RelV v u->t o i v H Q ->
  wpAny (model X.prog X.w) X.A (setItem ov iv u) (fun _ s'=>∃H',Inv X pins σ H' s'/\Q H') X.xe s
section
variable {X:Cx} {pos:Pos}
noncomputable def vQ (i:Nat):TG:=fun v σ H Q=>Q (σ.set i (some v)) H
theorem yC {i:Nat} {x:Str} (hN:X.N.Nodup) (hi:X.N[i]? = some x) (hx:Loc X.env.scope x) (hf:X.fn x=true\/X.env.scope.names.lookup x=some .local:=by first | exact .inl rfl | exact .inr rfl | assumption):PG X (.Name x pos) (vQ i):=by
 intro pins s σ H v u Q I r h;exact wpAny_assign_Name (p5 I hN hi hx r (fun s' I'=>⟨_,H,I',h⟩) hf)
noncomputable def gNil:yo:=fun vs σ H Q=>vs=[]/\Q σ H
noncomputable def gCons (t:TG) (u:yo):yo:=fun vs σ H Q=>∃v r,vs=v::r/\t v σ H fun σ' H'=>u r σ' H' Q
theorem yD:Af X [] gNil:=by
 intro pins s σ H vs us Q I r h;obtain⟨e,h⟩:=h;subst e;cases r;exact assignInOrder_nil ⟨σ,H,I,h⟩
theorem vR {e:Expr} {es:List Expr} {t:TG} {u:yo} (h1:PG X e t) (h2:Af X es u)
  (hs:(assignEach (e::es) X.env).map (·.2)=assign e X.env::(assignEach es X.env).map (·.2):=by rfl):Af X (e::es) (gCons t u):=by
 intro pins s σ H vs us Q I r h;obtain⟨v,vr,e1,h⟩:=h;subst e1;cases r with
 | cons r rr =>
  rw[hs];refine assignInOrder_cons (bA (h1 pins s σ H _ _ _ I r h) fun _ s1 ⟨σ1,H1,I1,q1⟩ => ?_)
  exact h2 pins s1 σ1 H1 _ _ Q I1 rr q1
noncomputable def gTup (K:PySem.W.Frag) (n:Nat) (t:yo):TG:=fun v σ H Q=>∃a xs,v=.ref a/\cK K H a xs/\xs.length=n/\t xs σ H Q
theorem AO {es:List Expr} {k:Nat} {t:yo} {n:Nat} (hc:X.calm=true) (h:Af X es t)
  (hn:(assignEach es X.env).length=n:=by rfl) (hst:(assignEach es X.env).findIdx? (·.1)=none:=by rfl):PG X (.Tuple es k pos) (gTup X.K n t):=by
 intro pins s σ H v u Q I r hw;obtain⟨a,xs,e1,hq,hl,hw⟩:=hw;subst e1;cases r;obtain⟨its,rv,ht,hz⟩:=I.tuple hq;refine assign_Tuple_tuple (I.ok.hd hc) ht (by simp[hn,<-hl,rv.length]) hst fun h' hx => ?_
 have I1:Inv X pins σ H { s with heap:=h' }:=I.kept (t':=s.toks) fun b o e=>hx b o (Nat.ne_of_lt (Heap.lt_size e)) e
 exact h pins _ σ H xs _ Q I1 (by simpa using rv) hw
noncomputable def vV (to ti:TE) (t:TSet):TG:=fun v σ H Q=>to σ H fun o H1=>ti σ H1 fun i H2=>t o i v H2 fun H3=>Q σ H3
theorem rj {o i:Expr} {to ti:TE} {t:TSet} (ho:PE X o to) (hi:PE X i ti) (hs:PSet X t)
  (ha:∀v,assign (.Subscript o i pos) X.env v=(do
   let ov <-holding [v] (eval o X.env)
   let iv <-holding [v,ov] (eval i X.env)
   standAt pos
   holding [v,ov,iv] (setItem ov iv v)
   release [v,ov,iv] []):=by intro _; rfl):PG X (.Subscript o i pos) (vV to ti t):=by
 intro pins s σ H v u Q I r h;rw[ha];refine wpAny_bind (wpAny_holding (bA (ho pins s σ H _ I h) fun ov s1 ⟨x,H1,I1,r1,q1⟩ => ?_))
 refine wpAny_bind (wpAny_holding (bA (hi pins s1 σ H1 _ I1 q1) fun iv s2 ⟨y,H2,I2,r2,q2⟩ => ?_))
 refine wpAny_bind (wpAny_standAt (wpAny_bind (wpAny_holding (bA (hs pins s2 σ H2 x y v ov iv u _ I2 r1 r2 r q2) fun _ s3 ⟨H3,I3,q3⟩ => ?_))))
 exact wpAny_release ⟨σ,H3,I3,q3⟩
noncomputable def oi (te:TE) (g:TG):TS:=fun D σ H=>te σ H fun x H1=>g x σ H1 D.nx
theorem kg {tg e:Expr} {te:TE} {g:TG} (he:PE X e te) (hg:PG X tg g) (hs:swapsWithSole [tg] e pos.line X.env=pure false:=by rfl) (hw:swappedStores [tg] e X.env=pure none:=by rfl)
  (h1:(assignEach [tg] X.env).map (·.2)=[assign tg X.env]:=by rfl):PS X (.Assign [tg] e pos) (oi te g):=by
 intro pins s σ H D I h;refine wpAny_Assign_stores (bA (he pins s σ H _ I h) fun v s1 ⟨x,H1,I1,r1,q1⟩ => ?_) hs hw
 rw[h1];exact bA (hg pins s1 σ H1 x v _ I1 r1 q1) fun _ s2 q=>q
theorem AQ {i:Nat} {x:Str} {e:Expr} {te:TE} {pos':Pos} (hN:X.N.Nodup) (hi:X.N[i]? = some x) (hx:Loc X.env.scope x) (he:PE X e te) (hs:swapsWith e (some (.Name x pos')) pos.line X.env=pure false:=by rfl) (hf:X.fn x=true\/X.env.scope.names.lookup x=some .local:=by first | exact .inl rfl | exact .inr rfl | assumption) :
  PS X (.Assign [.Name x pos'] e pos) (oi te (vQ i)):=by
 intro pins s σ H D I h;refine wpAny_Assign_Name (bA (he pins s σ H _ I h) fun v s1 ⟨y,H1,I1,r1,q1⟩ => ?_) hs
 exact p5 I1 hN hi hx r1 (fun s2 I2=>⟨_,H1,I2,q1⟩) hf
end
structure It where
 go:Nat->Hp->Prop
 yld:Nat->Hp->V->Hp->Prop
 stop:Nat->Hp->Prop
def iS (X:Cx) (pins:List (Addr×Obj)) (H:Hp) (b:Addr):Prop :=
 H b=none/\b≠X.env.locals/\b∉X.fs/\(b∈X.ex\/X.s₀.heap.objs.size<=b)/\(∀x c,X.env.cells.lookup x=some c->c≠b)/\∀p∈X.pn++pins,p.1≠b
theorem Inv.fpOk {X:Cx} {pins:List (Addr×Obj)} {σ:St} {H H':Hp} {s:Shared} {b:Addr} (I:Inv X pins σ H s) (hb:s.heap.objs.size<=b) (hn:H' b=none):iS X pins H' b:=by
 refine⟨hn,Nat.ne_of_gt (Nat.lt_of_lt_of_le I.lt hb),I.nofs hb,.inr (Nat.le_trans I.sz hb),fun x c e z => ?_,fun p hp z => ?_⟩
 ·obtain⟨v,q⟩:=I.cell x c e
  exact absurd (Nat.lt_of_lt_of_le q.lt (by rw[z]; exact hb)) (Nat.lt_irrefl _)
 ·exact absurd (Nat.lt_of_lt_of_le (Heap.lt_size (I.pin p hp).1) (by rw[z]; exact hb)) (Nat.lt_irrefl _)
structure Turn (P:Program) (w:World) (K:PySem.W.Frag) (tg:Expr) (J:It) (fp:List Addr) (it:Addr) (tn:Nat->Heap->Prop):Prop where
 mem:it∈fp
 obj:∀i h,tn i h->∀b∈fp,∃o,h.get? b=some o/\∀v,o.data≠.cell v
 keep:∀i h h',tn i h->(∀b∈fp,∀o,h.get? b=some o->h'.get? b=some o)->tn i h'
 item:∀ (X:Cx),X.prog=P->X.w=w->X.K=K->X.calm=true->∀ (i:Nat) (pins:List (Addr×Obj)) (s:Shared) (σ:St) (H:Hp) (E:Value->Shared->Prop),Inv X pins σ H s->(∀b∈fp,iS X pins H b)->tn i s.heap->J.go i H ->
  wpAny (model P w) X.A (pyNext (.ref it)) (fun r s1=>∃u,r=some u /\
   wpAny (model P w) X.A (letOwnedTupleGo tg (.ref it) u) (fun _ s2=>∃x H',Inv X pins σ H' s2/\RelV x u/\J.yld i H x H'/\tn (i+1) s2.heap/\∀b∈fp,H' b=none) E s1) E s
 done:∀ (X:Cx),X.prog=P->X.w=w->X.K=K->X.calm=true->∀ (i:Nat) (pins:List (Addr×Obj)) (s:Shared) (σ:St) (H:Hp) (E:Value->Shared->Prop),Inv X pins σ H s->(∀b∈fp,iS X pins H b)->tn i s.heap->J.stop i H ->
  wpAny (model P w) X.A (pyNext (.ref it)) (fun r s1=>r=none/\Inv X pins σ H s1) E s
 self:∀ (A:Around) (i:Nat) (s:Shared) (Q:Value->Shared->Prop) (E:Value->Shared->Prop),tn i s.heap->Q (.ref it) s->wpAny (model P w) A (pyIter (.ref it)) Q E s
abbrev TI:=St->Hp->(It->Hp->Prop)->Prop
def Dw (X:Cx) (pins:List (Addr×Obj)) (σ:St) (tg:Expr) (R:It->Hp->Prop) (itv:Value) (s2:Shared):Prop :=
 ∃ (it:Addr) (fp:List Addr) (tn:Nat->Heap->Prop) (J:It) (H':Hp),itv=.ref it/\Inv X pins σ H' s2/\Turn X.prog X.w X.K tg J fp it tn/\tn 0 s2.heap/\(∀b∈fp,iS X pins H' b)/\R J H'
def PI (X:Cx) (tg iter:Expr) (wi:TI):Prop :=
 ∀ (pins:List (Addr×Obj)) (s:Shared) (σ:St) (H:Hp) (R:It->Hp->Prop),Inv X pins σ H s->wi σ H R ->
  wpAny (model X.prog X.w) X.A (eval iter X.env) (fun v s1=>wpAny (model X.prog X.w) X.A (pyIter v) (Dw X pins σ tg R) X.xe s1) X.xe s
theorem vW {M:Model} {A:Around} {E:Value->Shared->Prop} {s:Shared} {tg:Expr} {it:Addr} {u:Value} {o:Obj} {n:String} {vs:Array Value} {Q:Unit->Shared->Prop} (ho:s.heap.get? it=some o) (hc:o.cls=.type n) (hd:o.data=.fields vs)
    (hn:["enumerate", "zip", "dict_itemiterator", "dict_reverseitemiterator", "odict_iterator", "itertools.zip_longest", "itertools.pairwise"].contains n=false) (hQ:Q () s):wpAny M A (letOwnedTupleGo tg (.ref it) u) Q E s:=by
  unfold letOwnedTupleGo;cases tg <;> first
    | exact wpAny_pure hQ
    | (cases u <;> first
        | exact wpAny_pure hQ
        | (refine wpAny_bind (wpAny_load ho ?_)
           rw[hc,hd];show wpAny M A (if (["enumerate", "zip", "dict_itemiterator", "dict_reverseitemiterator", "odict_iterator", "itertools.zip_longest", "itertools.pairwise"].contains n && vs[0]? == some (rawInt _))=true then _ else _) Q E s
           rw[if_neg (by intro h; rw[hn,Bool.false_and] at h; cases h)]
           exact wpAny_pure hQ))
noncomputable def Dg (K:PySem.W.Frag) (a:Addr):It :=
 ⟨fun i H=>∃xs x,fV K H a xs/\xs[i]? = some x,fun i H x H'=>H'=H/\∀xs,fV K H a xs->xs[i]? = some x,fun i H=>∃xs,fV K H a xs/\xs.length<=i⟩
noncomputable def Dh (K:PySem.W.Frag) (a:Addr):It :=
 ⟨fun i H=>∃xs x,cK K H a xs/\xs[i]? = some x,fun i H x H'=>H'=H/\∀xs,cK K H a xs->xs[i]? = some x,fun i H=>∃xs,cK K H a xs/\xs.length<=i⟩
noncomputable def CP (lo:Int) (n:Nat):It:=⟨fun i _=>i<n,fun i H x H'=>H'=H/\x=.int (lo+i),fun i _=>n<=i⟩
theorem uC {P:Program} {w:World} {K:PySem.W.Frag} {tg:Expr} (a it:Addr):Turn P w K tg (Dg K a) [it] it (fun i h=>h.IsListIter it a i) where
 mem:=by simp
 obj:=fun i h st b hb=>by
  have e:b=it:=by simpa using hb
  subst e;obtain⟨o,e,c,d⟩:=st;exact⟨o,e,fun v z=>by rw[d] at z; cases z⟩
 keep:=fun i h h' st k=>st.at fun o e=>k it (by simp) o e
 item:=by
  intro X hP hw hK hc i pins s σ H E I hf st hg;subst hP hw hK;obtain⟨xs,x,hq,hx⟩:=hg;obtain⟨its,rv,p,hz⟩:=I.list hq;obtain⟨u,hu,ru⟩:=rv.get hx;obtain⟨f0,f1,f2,f3,f4,f5⟩:=hf it (by simp)
  refine wpAny_pyNext_list_item st p.isList (x:=u) (by simpa using hu) fun h' st' sb => ?_
  have I1:Inv X pins σ H { s with heap:=h' }:=I.turned (t':=s.toks) (fun b o hb e=>(sb.2 b hb).trans e) f0 f1 f3 f4 f5
  obtain⟨o,e,c,d⟩:=id st';exact⟨u,rfl,vW (s:={ s with heap:=h' }) e c d (by decide) ⟨x,H,I1,ru,⟨rfl,fun ys hy=>by rw[I.vM hy hq]; exact hx⟩,st',fun b hb=>(hf b hb).1⟩⟩
 done:=by
  intro X hP hw hK hc i pins s σ H E I hf st hg;subst hP hw hK;obtain⟨xs,hq,hx⟩:=hg;obtain⟨its,rv,p,hz⟩:=I.list hq;obtain⟨f0,f1,f2,f3,f4,f5⟩:=hf it (by simp)
  have hl:=rv.length;exact wpAny_pyNext_list_end (I.ok.hd hc) st p.isList (by simp; lia) fun h' eb=>⟨rfl,I.turned (t':=s.toks) (fun b o hb e=>eb b o hb e) f0 f1 f3 f4 f5⟩
 self:=fun _ _ _ _ _ st h=>wpAny_pyIter_listiter st h
theorem rm {P:Program} {w:World} {K:PySem.W.Frag} {tg:Expr} (a it:Addr):Turn P w K tg (Dh K a) [it] it (fun i h=>h.IsTupleIter it a i) where
 mem:=by simp
 obj:=fun i h st b hb=>by
  have e:b=it:=by simpa using hb
  subst e;obtain⟨o,e,c,d⟩:=st;exact⟨o,e,fun v z=>by rw[d] at z; cases z⟩
 keep:=fun i h h' st k=>st.at fun o e=>k it (by simp) o e
 item:=by
  intro X hP hw hK hc i pins s σ H E I hf st hg;subst hP hw hK;obtain⟨xs,x,hq,hx⟩:=hg;obtain⟨its,rv,p,hz⟩:=I.tuple hq;obtain⟨u,hu,ru⟩:=rv.get hx;obtain⟨f0,f1,f2,f3,f4,f5⟩:=hf it (by simp)
  refine wpAny_pyNext_tuple_item st (show s.heap.IsTuple a its.toArray from p) (x:=u) (by simpa using hu) fun h' st' sb => ?_
  have I1:Inv X pins σ H { s with heap:=h' }:=I.turned (t':=s.toks) (fun b o hb e=>(sb.2 b hb).trans e) f0 f1 f3 f4 f5
  obtain⟨o,e,c,d⟩:=id st';exact⟨u,rfl,vW (s:={ s with heap:=h' }) e c d (by decide) ⟨x,H,I1,ru,⟨rfl,fun ys hy=>by rw[I.jz hy hq]; exact hx⟩,st',fun b hb=>(hf b hb).1⟩⟩
 done:=by
  intro X hP hw hK hc i pins s σ H E I hf st hg;subst hP hw hK;obtain⟨xs,hq,hx⟩:=hg;obtain⟨its,rv,p,hz⟩:=I.tuple hq;obtain⟨f0,f1,f2,f3,f4,f5⟩:=hf it (by simp)
  have hl:=rv.length;exact wpAny_pyNext_tuple_end (I.ok.hd hc) st (show s.heap.IsTuple a its.toArray from p) (by simp; lia) fun h' eb=>⟨rfl,I.turned (t':=s.toks) (fun b o hb e=>eb b o hb e) f0 f1 f3 f4 f5⟩
 self:=fun _ _ _ _ _ st h=>wpAny_pyIter_tupleiter st h
theorem rq {P:Program} {w:World} {K:PySem.W.Frag} {tg:Expr} (it:Addr) (lo:Int) (n:Nat):Turn P w K tg (CP lo n) [it] it (fun i h=>IsRangeIter h it (lo+(i:Nat)*1) ((n:Int)-(i:Nat)) 1) where
 mem:=by simp
 obj:=fun i h st b hb=>by
  have e:b=it:=by simpa using hb
  subst e;exact⟨_,st,fun v z=>by
   have z':Data.fields _=Data.cell v:=z;cases z'⟩
 keep:=fun i h h' st k=>k it (by simp) _ st
 item:=by
  intro X hP hw hK hc i pins s σ H E I hf st hg;subst hP hw hK;obtain⟨f0,f1,f2,f3,f4,f5⟩:=hf it (by simp)
  have W:=Walks.range (prog:=X.prog) (w:=X.w) (I.ok.hd hc) it lo 1 n;refine W.item i s _ _ hg st fun v h' tk hv st' kk => ?_
  obtain⟨t,rfl⟩:=hv;have I1:Inv X pins σ H { s with heap:=h',toks:=tk }:=I.turned (fun b o hb e=>kk b o (by simpa using hb) e) f0 f1 f3 f4 f5
  refine⟨_,rfl,vW (s:={ s with heap:=h',toks:=tk }) (n := "range_iterator") st' rfl rfl (by decide) ⟨.int (lo+i),H,I1,⟨t,?_⟩,⟨rfl,rfl⟩,st',fun b hb=>(hf b hb).1⟩⟩
  rw[Int.mul_one]
 done:=by
  intro X hP hw hK hc i pins s σ H E I hf st hg;subst hP hw hK;obtain⟨f0,f1,f2,f3,f4,f5⟩:=hf it (by simp)
  exact wpAny_pyNext_range_end (I.ok.hd hc) st (by have:n<=i:=hg; lia) fun h' eb=>⟨rfl,I.turned (t':=s.toks) (fun b o hb e=>eb b o hb e) f0 f1 f3 f4 f5⟩
 self:=fun _ _ _ _ _ st h=>wpAny_pyIter_rangeiter st h
end L2
namespace L2
open PySem PySem.Spec PyProof.Rows
section
variable {X:Cx} {tg:Expr}
noncomputable def iList (K:PySem.W.Frag) (tl:TE):TI:=fun σ H R=>tl σ H fun x H1=>∃a,x=.ref a/\(∃xs,fV K H1 a xs)/\R (Dg K a) H1
noncomputable def iTup (K:PySem.W.Frag) (tl:TE):TI:=fun σ H R=>tl σ H fun x H1=>∃a,x=.ref a/\(∃xs,cK K H1 a xs)/\R (Dh K a) H1
theorem yE {l:Expr} {tl:TE} (hl:PE X l tl):PI X tg l (iList X.K tl):=by
 intro pins s σ H R I h;refine bA (hl pins s σ H _ I h) fun v s1 ⟨x,H1,I1,r1,q1⟩ => ?_
 obtain⟨a,e,⟨xs,hq⟩,q⟩:=q1;subst e;cases r1;obtain⟨its,rv,p,hz⟩:=I1.list hq;refine wpAny_pyIter_list p.isList ?_;refine⟨s1.heap.objs.size,[s1.heap.objs.size],_,_,H1,rfl,I1.kept (t':=s1.toks) fun b o e=>Heap.get?_push_of_some _ e,uC a _,⟨_,Heap.get?_push_size _ rfl,rfl,rfl⟩,fun b hb => ?_,q⟩
 have e:b=s1.heap.objs.size:=by simpa using hb
 subst e;exact I1.fpOk (Nat.le_refl _) (I1.hok.fresh (Nat.le_refl _))
theorem AR {l:Expr} {tl:TE} (hl:PE X l tl):PI X tg l (iTup X.K tl):=by
 intro pins s σ H R I h;refine bA (hl pins s σ H _ I h) fun v s1 ⟨x,H1,I1,r1,q1⟩ => ?_
 obtain⟨a,e,⟨xs,hq⟩,q⟩:=q1;subst e;cases r1;obtain⟨its,rv,p,hz⟩:=I1.tuple hq;refine wpAny_pyIter_tuple (show s1.heap.IsTuple a its.toArray from p) ?_
 refine⟨s1.heap.objs.size,[s1.heap.objs.size],_,_,H1,rfl,I1.kept (t':=s1.toks) fun b o e=>Heap.get?_push_of_some _ e,rm a _,⟨_,Heap.get?_push_size _ rfl,rfl,rfl⟩,fun b hb => ?_,q⟩
 have e:b=s1.heap.objs.size:=by simpa using hb
 subst e;exact I1.fpOk (Nat.le_refl _) (I1.hok.fresh (Nat.le_refl _))
theorem p6 {pins:List (Addr×Obj)} {σ:St} {H:Hp} {s:Shared} {R:It->Hp->Prop} {E:Value->Shared->Prop} {lo hi:Int} {t u v:Tok} {tk:Nat} (I:Inv X pins σ H s) (h1 : -(2 ^ 62)<=lo) (h2:lo<2 ^ 62) (h3 : -(2 ^ 62)<=hi) (h4:hi<2 ^ 62)
  (q:R (CP lo (hi-lo).toNat) H):wpAny (model X.prog X.w) X.A (pyIter (.ref s.heap.objs.size)) (Dw X pins σ tg R) E { s with heap:=s.heap.push { cls:=.type "range",data:=.fields #[.int lo t,.int hi u,.int 1 v] },toks:=tk }:=by
 refine wpAny_pyIter_range (IsRange.new ..) (small_one h1 h2 h3 h4) ?_;have I1:Inv X pins σ H { s with heap:=s.heap.push { cls:=.type "range",data:=.fields #[.int lo t,.int hi u,.int 1 v] },toks:=tk }:=I.kept fun b o e=>Heap.get?_push_of_some _ e
 refine⟨(s.heap.push { cls:=.type "range",data:=.fields #[.int lo t,.int hi u,.int 1 v] }).objs.size,[(s.heap.push { cls:=.type "range",data:=.fields #[.int lo t,.int hi u,.int 1 v] }).objs.size],_,_,H,rfl,
  I1.kept (t':=tk) fun b o e=>Heap.get?_push_of_some _ e,rq _ lo (hi-lo).toNat,?_,fun b hb => ?_,q⟩
 ·have e1:lo+((0:Nat):Int)*1=lo:=by simp
  have e2:(((hi-lo).toNat:Nat):Int)-((0:Nat):Int)=Builtin.Range.rangeSize lo hi 1:=by rw[rangeSize_one]; split <;> lia
  show IsRangeIter _ _ (lo+((0:Nat):Int)*1) ((((hi-lo).toNat:Nat):Int)-((0:Nat):Int)) 1;rw[e1,e2];exact Heap.get?_push_size _ rfl
 ·have e:b=(s.heap.push { cls:=.type "range",data:=.fields #[.int lo t,.int hi u,.int 1 v] }).objs.size:=by simpa using hb
  subst e;exact I1.fpOk (Nat.le_refl _) (I1.hok.fresh (Nat.le_refl _))
noncomputable def iRng1 (ta:TA):TI:=fun σ H R=>ta σ H fun vs H1=>∃j:Int,vs=[.int j]/\-(2 ^ 62)<=j/\j<2 ^ 62/\R (CP 0 j.toNat) H1
noncomputable def iRng2 (ta:TA):TI:=fun σ H R=>ta σ H fun vs H1=>∃i j:Int,vs=[.int i,.int j]/\(-(2 ^ 62)<=i/\i<2 ^ 62/\-(2 ^ 62)<=j/\j<2 ^ 62)/\R (CP i (j-i).toNat) H1
theorem uD {a:Expr} {ta:TA} {p pos:Pos} (hg:Gl X "range") (hm:X.mg "range" = none) (ha:PA X [a] ta) (hs:starEach [a] X.env=[(false,eval a X.env)]:=by rfl):PI X tg (.Call (.Name "range" p) [a] [] pos) (iRng1 ta):=by
 intro pins s σ H R I h;refine Call_ (fW I hg hm boot_range (PyProof.Rows.callWith_type1 (bA (ha pos pins s σ H _ I h) fun us s1 ⟨vs,H1,I1,r1,q1⟩ => ?_) hs rfl))
 obtain⟨j,e,q1,q2,q⟩:=q1;subst e;cases r1 with
 | cons r rr =>
  cases rr;obtain⟨t,rfl⟩:=r;exact call_range_1 (p6 I1 (by lia) (by lia) q1 q2 (by simpa using q))
theorem uE {a b:Expr} {ta:TA} {p pos:Pos} (hg:Gl X "range") (hm:X.mg "range" = none) (ha:PA X [a,b] ta) (hs:starEach [a,b] X.env=[(false,eval a X.env),(false,eval b X.env)]:=by rfl) (hs2:starEach [b] X.env=[(false,eval b X.env)]:=by rfl) :
  PI X tg (.Call (.Name "range" p) [a,b] [] pos) (iRng2 ta):=by
 intro pins s σ H R I h;refine Call_ (fW I hg hm boot_range (PyProof.Rows.callWith_type1 (bA (ha pos pins s σ H _ I h) fun us s1 ⟨vs,H1,I1,r1,q1⟩ => ?_) (by rw[hs,hs2]) (by rw[hs2]; rfl)))
 obtain⟨i,j,e,⟨q1,q2,q3,q4⟩,q⟩:=q1;subst e;cases r1 with
 | cons r rr =>
  cases rr with
  | cons r' rr =>
   cases rr;obtain⟨t,rfl⟩:=r;obtain⟨t',rfl⟩:=r';exact call_range_2 (p6 I1 q1 q2 q3 q4 q)
noncomputable def tFor (wi:TI) (g:TG) (tb:TS):TS:=fun D σ H=>wi σ H fun J H1=>∃W:Nat->Nat->St->Hp->Prop,(∃m,W 0 m σ H1)/\∀i m σ H,W i m σ H ->
 (J.stop i H/\D.nx σ H)\/(J.go i H/\∃N:St->Hp->Prop,(∀σ' H',N σ' H'->∃m',m'<m/\W (i+1) m' σ' H')/\∀x H',J.yld i H x H'->g x σ H' fun σ2 H2=>tb { D with nx:=N,ct:=N,bk:=D.nx } σ2 H2)
noncomputable def kh (fp:List Addr) (h:Heap):List (Addr×Obj):=fp.filterMap fun b=>(h.get? b).map fun o=>(b,o)
theorem fX {fp:List Addr} {h:Heap} {b:Addr} {o:Obj} (hb:b∈fp) (e:h.get? b=some o):(b,o)∈kh fp h:=List.mem_filterMap.mpr ⟨b,hb,by rw[e]; rfl⟩
theorem uF {fp:List Addr} {h:Heap} {p:Addr×Obj} (hp:p∈kh fp h):p.1∈fp/\h.get? p.1=some p.2:=by
 obtain⟨b,hb,e⟩:=List.mem_filterMap.mp hp;cases q:h.get? b with
 | none=>rw[q] at e; cases e
 | some o =>
  rw[q] at e;have e':(b,o)=p:=Option.some.inj e;subst e';exact⟨hb,q⟩
theorem Inv.pinned {pins:List (Addr×Obj)} {σ:St} {H:Hp} {s:Shared} {fp:List Addr} (I:Inv X pins σ H s) (hf:∀b∈fp,iS X pins H b) (ho:∀b∈fp,∃o,s.heap.get? b=some o/\∀v,o.data≠.cell v):Inv X (pins++kh fp s.heap) σ H s :=
 I.sV fun p hp=>(lM hp).elim (fun z=>I.pin p (lR _ z)) fun z=>by
  obtain⟨hb,e⟩:=uF z;obtain⟨f0,f1,f2,_⟩:=hf p.1 hb;obtain⟨o,e',d⟩:=ho p.1 hb;rw[e] at e'; cases e';exact⟨e,f0,f1,f2,d⟩
theorem Inv.iT {pins pl:List (Addr×Obj)} {σ:St} {H:Hp} {s:Shared} (I:Inv X (pins++pl) σ H s):Inv X pins σ H s:=I.sV fun p hp=>I.pin p (lR _ (lL _ hp))
theorem AS {iter:Expr} {body:List Stmt} {wi:TI} {g:TG} {tb:TS} {pos:Pos} (hp:PassesOwn (model X.prog X.w) X.A X.env X.xe) (hc:X.calm=true) (hi:PI X tg iter wi) (hg:PG X tg g) (hb:q9 X body tb)
  (hs:∀x,foldedSetIterable iter X.env x=pure x:=by intro _; rfl):PS X (.For tg iter body [] pos) (tFor wi g tb):=by
 intro pins s σ H D I h;refine wpAny_For (bA (hi pins s σ H _ I h) fun v s1 h1=>bA h1 fun itv s2 h2 => ?_) hs
 obtain⟨it,fp,tn,J,H2,e,I2,T,st2,f2,W,⟨m0,w0⟩,turn⟩:=h2;subst e;have stat:∀ {H':Hp},(∀b∈fp,H' b=none)->∀b∈fp,iS X pins H' b:=fun hn b hb=>⟨hn b hb,(f2 b hb).2⟩
 refine codeAny_forLoop_any (fun n s'=>∃i σ' H',Inv X pins σ' H' s'/\tn i s'.heap/\(∀b∈fp,H' b=none)/\W i n σ' H') ?_ m0 ⟨0,σ,H2,I2,st2,fun b hb=>(f2 b hb).1,w0⟩
 rintro n s3 ⟨i,σ3,H3,I3,st3,fr3,w3⟩;rcases turn i n σ3 H3 w3 with⟨stop,qn⟩ | ⟨go,N,hN,step⟩
 ·refine wpAny_passesOwn hp (bA (T.done X rfl rfl rfl hc i pins s3 σ3 H3 X.xe I3 (stat fr3) st3 stop) fun r s4 ⟨hr,I4⟩ => ?_)
  subst hr;exact wpAny_execs_nil ⟨σ3,H3,I4,qn⟩
 ·refine wpAny_passesOwn hp (bA (T.item X rfl rfl rfl hc i pins s3 σ3 H3 X.xe I3 (stat fr3) st3 go) fun r s4 ⟨u,hr,h4⟩ => ?_)
  subst hr;refine wpAny_passesOwn hp (bA h4 fun _ s5 ⟨x,H5,I5,r5,y5,st5,fr5⟩ => ?_)
  have I5':=I5.pinned (stat fr5) (T.obj _ _ st5);refine wpAny_passesOwn hp (bA (hg _ s5 σ3 H5 x u _ I5' r5 (step x H5 y5)) fun _ s6 ⟨σ6,H6,I6,q6⟩ => ?_)
  refine wpAny_passesOwn hp (bA (hb _ s6 σ6 H6 _ I6 q6) fun f s7 q7 => ?_)
  have again:∀ {σ7:St} {H7:Hp},Inv X (pins++kh fp s5.heap) σ7 H7 s7->N σ7 H7->∃m,m<n/\∃i σ' H',Inv X pins σ' H' s7/\tn i s7.heap/\(∀b∈fp,H' b=none)/\W i m σ' H':=fun {σ7 H7} I7 n7=>by
   obtain⟨m',hm,w7⟩:=hN σ7 H7 n7;refine⟨m',hm,i+1,σ7,H7,I7.iT,T.keep _ _ _ st5 fun b hb o e=>(I7.pin (b,o) (lR _ (lR _ (fX hb e)))).1,fun b hb => ?_,w7⟩
   obtain⟨o,e,d⟩:=T.obj _ _ st5 b hb;exact (I7.pin (b,o) (lR _ (lR _ (fX hb e)))).2.1
  cases f with
  | next=>obtain⟨σ7,H7,I7,n7⟩:=q7; exact again I7 n7
  | cont=>obtain⟨σ7,H7,I7,n7⟩:=q7; exact again I7 n7
  | brk=>obtain⟨σ7,H7,I7,q7⟩:=q7; exact⟨σ7,H7,I7.iT,q7⟩
  | ret v=>obtain⟨x7,σ7,H7,I7,r7,q7⟩:=q7; exact⟨x7,σ7,H7,I7.iT,r7,q7⟩
end
end L2
namespace L2
open PySem PySem.Spec PyProof.Rows
abbrev R2:=V->V->Hp->VK->Prop
def di (X:Cx) (f:Value->Value->Sem Value) (r:R2):Prop :=
 ∀ (pins:List (Addr×Obj)) (s:Shared) (σ:St) (H:Hp) (x y:V) (v u:Value) (Q:VK),Inv X pins σ H s->RelV x v->RelV y u->r x y H Q ->
  wpAny (model X.prog X.w) X.A (f v u) (EP X pins σ Q) X.xe s
def Di (X:Cx) (f:Value->Sem Value) (r:V->Hp->VK->Prop):Prop :=
 ∀ (pins:List (Addr×Obj)) (s:Shared) (σ:St) (H:Hp) (x:V) (v:Value) (Q:VK),Inv X pins σ H s->RelV x v->r x H Q ->
  wpAny (model X.prog X.w) X.A (f v) (EP X pins σ Q) X.xe s
def bI (X:Cx) (f:Value) (r:List V->Hp->VK->Prop):Prop :=
 ∀ (pins:List (Addr×Obj)) (s:Shared) (σ:St) (H:Hp) (xs:List V) (us:List Value) (Q:VK),Inv X pins σ H s->Vals xs us->r xs H Q ->
  wpAny (model X.prog X.w) X.A (call f us) (EP X pins σ Q) X.xe s
def TruR (X:Cx) (r:V->Hp->(Bool->Hp->Prop)->Prop):Prop :=
 ∀ (pins:List (Addr×Obj)) (s:Shared) (σ:St) (H:Hp) (x:V) (v:Value) (Q:Bool->Hp->Prop),Inv X pins σ H s->RelV x v->r x H Q ->
  wpAny (model X.prog X.w) X.A (truthy v) (TP X pins σ Q) X.xe s
noncomputable def Ag (r:R2) (ta tb:TE):TE:=fun σ H Q=>ta σ H fun x H1=>tb σ H1 fun y H2=>r x y H2 Q
noncomputable def DK (r:V->Hp->VK->Prop) (ta:TE):TE:=fun σ H Q=>ta σ H fun x H1=>r x H1 Q
noncomputable def rI (C:Int->Int->Prop) (g:Int->Int->V):R2:=fun x y H Q=>∃i j,x=.int i/\y=.int j/\C i j/\Q (g i j) H
noncomputable def Ah (g:Int->Int->V):R2:=fun x y H Q=>∃i j,x=.int i/\y=.int j/\Q (g i j) H
def rU (g:Int->V):V->Hp->VK->Prop:=fun x H Q=>∃i,x=.int i/\Q (g i) H
section
variable {X:Cx} {a b c:Expr} {ta tb tc:TE} {pos:Pos}
theorem binT (ha:PE X a ta) (hb:PE X b tb) {pins:List (Addr×Obj)} {s:Shared} {σ:St} {H:Hp} {R:V->V->Hp->Prop} (I:Inv X pins σ H s)
  (h:ta σ H fun x H1=>tb σ H1 fun y H2=>R x y H2) {Q:Value->Shared->Prop} {f:Value->Value->Sem Value}
  (hf:∀v u s2 x y H2,Inv X pins σ H2 s2->RelV x v->RelV y u->R x y H2->wpAny (model X.prog X.w) X.A (f v u) Q X.xe s2) :
  wpAny (model X.prog X.w) X.A (eval a X.env) (fun v s₁=>wpAny (model X.prog X.w) X.A (eval b X.env) (fun u s₂=>wpAny (model X.prog X.w) X.A (f v u) Q X.xe s₂) X.xe s₁) X.xe s:=by
 refine bA (ha pins s σ H _ I h) fun v s1 ⟨x,H1,I1,r1,q1⟩ => ?_
 refine bA (hb pins s1 σ H1 _ I1 q1) fun u s2 ⟨y,H2,I2,r2,q2⟩ => ?_
 exact hf v u s2 x y H2 I2 r1 r2 q2
theorem pe_op {op:Operator} {r:R2} (ho:di X (binaryOp op) r) (ha:PE X a ta) (hb:PE X b tb):PE X (.BinOp a op b pos) (Ag r ta tb):=by
 intro pins s σ H Q I h;exact wpAny_BinOp (binT ha hb I h fun v u s2 x y H2 I2 rx ry q=>ho pins s2 σ H2 x y v u Q I2 rx ry q)
theorem pe_un {op:UnaryOp} {r:V->Hp->VK->Prop} (ho:Di X (unaryOp op) r) (ha:PE X a ta):PE X (.UnaryOp op a pos) (DK r ta):=by
 intro pins s σ H Q I h;exact UnaryOp_ (bA (ha pins s σ H _ I h) fun v s1 ⟨x,H1,I1,r1,q1⟩=>ho pins s1 σ H1 x v Q I1 r1 q1)
theorem CQ {f:Value->Value->Sem Value} {C:Int->Int->Prop} {g:Int->Int->Int}
  (rule:∀ (i j:Int) (t u:Tok) (s:Shared) (Q:Value->Shared->Prop) (E:Value->Shared->Prop),C i j->Q (.int (g i j) s.toks) { s with toks:=s.toks+1 }->wpAny (model X.prog X.w) X.A (f (.int i t) (.int j u)) Q E s) :
  di X f (rI C fun i j=>.int (g i j)):=by
 intro pins s σ H x y v u Q I rx ry h;obtain⟨i,j,rfl,rfl,hc,q⟩:=h;obtain⟨t,rfl⟩:=rx;obtain⟨t',rfl⟩:=ry;exact rule i j t t' s _ _ hc ⟨.int (g i j),H,I.tok _,⟨_,rfl⟩,q⟩
theorem opI0 {f:Value->Value->Sem Value} {g:Int->Int->Int}
  (rule:∀ (i j:Int) (t u:Tok) (s:Shared) (Q:Value->Shared->Prop) (E:Value->Shared->Prop),Q (.int (g i j) s.toks) { s with toks:=s.toks+1 }->wpAny (model X.prog X.w) X.A (f (.int i t) (.int j u)) Q E s) :
  di X f (Ah fun i j=>.int (g i j)):=by
 intro pins s σ H x y v u Q I rx ry h;obtain⟨i,j,rfl,rfl,q⟩:=h;obtain⟨t,rfl⟩:=rx;obtain⟨t',rfl⟩:=ry;exact rule i j t t' s _ _ ⟨.int (g i j),H,I.tok _,⟨_,rfl⟩,q⟩
theorem opB0 {f:Value->Value->Sem Value} {g:Int->Int->Bool}
  (rule:∀ (i j:Int) (t u:Tok) (s:Shared) (Q:Value->Shared->Prop) (E:Value->Shared->Prop),Q (.bool (g i j)) s->wpAny (model X.prog X.w) X.A (f (.int i t) (.int j u)) Q E s) :
  di X f (Ah fun i j=>.bl (g i j)):=by
 intro pins s σ H x y v u Q I rx ry h;obtain⟨i,j,rfl,rfl,q⟩:=h;obtain⟨t,rfl⟩:=rx;obtain⟨t',rfl⟩:=ry;exact rule i j t t' s _ _ ⟨.bl (g i j),H,I,rfl,q⟩
def CDiv (i j:Int):Prop:=0<j/\j<1073741824
def CMul (i j:Int):Prop:=(-(2 ^ 64)<i/\i<2 ^ 64)\/(-(2 ^ 64)<j/\j<2 ^ 64)
theorem CMul.ok {i j:Int} (h:CMul i j):IntMulOk i j:=by
 rcases h with⟨h1,h2⟩ | ⟨h1,h2⟩
 ·exact .of_left (intBits_le_64 h1 h2)
 ·exact .of_right (intBits_le_64 h1 h2)
theorem AU:di X (binaryOp .Add) (Ah fun i j=>.int (i+j)):=opI0 fun _ _ _ _ _ _ _ q=>add_int q
theorem AV:di X (binaryOp .Sub) (Ah fun i j=>.int (i-j)):=opI0 fun _ _ _ _ _ _ _ q=>sub_int q
theorem AW:di X (binaryOp .Mult) (rI CMul fun i j=>.int (i*j)):=CQ fun _ _ _ _ _ _ _ hc q=>mul_int q hc.ok
theorem yF:di X (binaryOp .FloorDiv) (rI CDiv fun i j=>.int (i / j)):=CQ fun i j _ _ _ _ _ hc q=>by
 have h1:(0:Int)<j:=hc.1;have h2:j<1073741824:=hc.2;exact floordiv_int (by lia) (by rw[Int.fdiv_eq_ediv_of_nonneg i (by lia)]; exact q) (.inl (PyProof.noPylong_small (by lia)))
theorem AX:di X (binaryOp .Mod) (rI (fun _ j=>0<j) fun i j=>.int (i % j)):=CQ fun i j _ _ _ _ _ hc q=>by
 have h1:(0:Int)<j:=hc;exact mod_int' (by lia) (by rw[Int.fmod_eq_emod_of_nonneg i (by lia)]; exact q)
theorem DL {f:Value->Sem Value} {g:Int->Int}
  (rule:∀ (i:Int) (t:Tok) (s:Shared) (Q:Value->Shared->Prop) (E:Value->Shared->Prop),Q (.int (g i) s.toks) { s with toks:=s.toks+1 }->wpAny (model X.prog X.w) X.A (f (.int i t)) Q E s) :
  Di X f (rU fun i=>.int (g i)):=by
 intro pins s σ H x v Q I rx h;obtain⟨i,rfl,q⟩:=h;obtain⟨t,rfl⟩:=rx;exact rule i t s _ _ ⟨.int (g i),H,I.tok _,⟨_,rfl⟩,q⟩
theorem AY:Di X (unaryOp .USub) (rU fun i=>.int (-i)):=DL fun _ _ _ _ _ q=>neg_int q
end
section
variable {X:Cx} {a b c:Expr} {ta tb tc:TE} {pos:Pos}
theorem rz {pins:List (Addr×Obj)} {σ:St} {H:Hp} {s:Shared} {Q:VK} {k k':Bool} (I:Inv X pins σ H s) (q:Q (.bl k) H) (e:k=k'):EP X pins σ Q (.bool k') s:=by
 subst e;exact⟨.bl k,H,I,rfl,q⟩
theorem op_lt:di X (compareOp .Lt) (Ah fun i j=>.bl (decide (i<j))):=opB0 fun _ _ _ _ _ _ _ q=>lt_int q
theorem op_gt:di X (compareOp .Gt) (Ah fun i j=>.bl (decide (j<i))):=opB0 fun _ _ _ _ _ _ _ q=>gt_int q
theorem op_ge:di X (compareOp .GtE) (Ah fun i j=>.bl (decide (j<=i))):=opB0 fun _ _ _ _ _ _ _ q=>ge_int q
theorem nj:di X (compareOp .In) (fun x y H Q=>∃i j,x=.str i/\y=.str j/\Q (.bl (!(Builtin.Str.occurrences j i 0 j.length 1).isEmpty)) H):=by
 intro pins s σ H x y v u Q I rx ry h;obtain⟨i,j,rfl,rfl,q⟩:=h;obtain⟨t,rfl⟩:=rx;obtain⟨t',rfl⟩:=ry;exact in_str (rz I q rfl)
theorem AZ:di X (compareOp .Is) (fun x y H Q=>y=.non/\Q (.bl (decide (x=.non))) H):=by
 intro pins s σ H x y v u Q I rx ry h;obtain⟨rfl,q⟩:=h;cases ry;refine is_none_gen (rz I q ?_);cases x <;> first
  | (cases rx; rfl)
  | (obtain⟨t,rfl⟩:=rx; rfl)
theorem om:di X (compareOp .NotIn) (fun x y H Q=>∃i j,x=.str i/\y=.str j/\Q (.bl (!(!(Builtin.Str.occurrences j i 0 j.length 1).isEmpty))) H):=by
 intro pins s σ H x y v u Q I rx ry h;obtain⟨i,j,rfl,rfl,q⟩:=h;obtain⟨t,rfl⟩:=rx;obtain⟨t',rfl⟩:=ry;exact notIn_str (rz I q rfl)
theorem bT (b:Expr) {op:CmpOp} (h:op≠.In:=by decide) (h2:op≠.NotIn:=by decide):behindInMarks op b=false:=by
 have e1:(op == CmpOp.In)=false:=by cases op <;> first | rfl | exact absurd rfl h
 have e2:(op == CmpOp.NotIn)=false:=by cases op <;> first | rfl | exact absurd rfl h2
 cases b <;> simp[behindInMarks,e1,e2]
theorem iU {op:CmpOp} {r:R2} (ho:di X (compareOp op) r) (ha:PE X a ta) (hb:PE X b tb) (hm:behindInMarks op b=false):PE X (.Compare a [op] [b] pos) (Ag r ta tb):=by
 intro pins s σ H Q I h;exact wpAny_Compare1 (binT ha hb I h fun v u s2 x y H2 I2 rx ry q=>ho pins s2 σ H2 x y v u Q I2 rx ry q) hm
noncomputable def tTest (t:TE):TT:=fun σ H Q=>t σ H fun x H'=>∃k,x=.bl k/\Q k H'
theorem oq {op:CmpOp} {r:R2} (ho:di X (compareOp op) r) (ha:PE X a ta) (hb:PE X b tb) (hm:behindInMarks op b=false):PT X (.Compare a [op] [b] pos) (tTest (Ag r ta tb)):=by
 intro pins s σ H Q I h;refine wpAny_isTrue_Compare1 (bA (ha pins s σ H _ I h) fun v s1 ⟨x,H1,I1,r1,q1⟩=>bA (hb pins s1 σ H1 _ I1 q1) fun u s2 ⟨y,H2,I2,r2,q2⟩ =>
  bA (ho pins s2 σ H2 x y v u _ I2 r1 r2 q2) fun c s3 ⟨z,H3,I3,r3,k,e,q3⟩ => ?_) hm
 subst e;cases r3;exact wpAny_truthy_bool ⟨H3,I3,q3⟩
def TruV (K:PySem.W.Frag) (x:V) (H:Hp) (k:Bool):Prop :=
 match x with
 | .non=>k=false
 | .bl b=>k=b
 | .int i=>k=(i != 0)
 | .str y=>y.length<=sizeLine/\k=((y.length:Int) != 0)
 | .byt y=>y.size<=sizeLine/\k=((y.size:Int) != 0)
 | .ref p=>(∃xs,fV K H p xs/\k = !xs.isEmpty)\/(∃xs,cK K H p xs/\k = !xs.isEmpty)\/∃kvs,H p=some (.dK kvs)/\k = !kvs.isEmpty
 | _=>False
theorem rA {κ:Type} {kvs:List (κ×V)} {vs:List (κ×Value)} (r:KV kvs vs):(!vs.isEmpty) = !kvs.isEmpty:=by
 cases r <;> rfl
theorem kq {xs:List V} {its:List Value} (r:Vals xs its):(!its.toArray.isEmpty) = !xs.isEmpty:=by
 cases r <;> simp
theorem iB:(sizeLine:Nat)<2 ^ 63:=by rw[sizeLine_eq]; decide
theorem A0:TruR X (fun x H Q=>∃k,TruV X.K x H k/\Q k H):=by
 intro pins s σ H x v Q I rx h;obtain⟨k,e,q⟩:=h;have hl:=iB;have hs:sizeLine=16777216:=sizeLine_eq;cases x with
 | non =>
  cases rx;have e':k=false:=e;subst e';exact truthy_none ⟨H,I,q⟩
 | bl b =>
  cases rx;have e':k=b:=e;subst e';exact wpAny_truthy_bool ⟨H,I,q⟩
 | int i =>
  obtain⟨t,rfl⟩:=rx;have e':k=(i != 0):=e;subst e';exact PySem.P.truthy_int ⟨H,I,q⟩
 | str y =>
  obtain⟨t,rfl⟩:=rx;obtain⟨hy,e'⟩:y.length<=sizeLine/\k=((y.length:Int) != 0):=e;subst e';exact PySem.P.truthy_str (by lia) ⟨H,I.tok _,q⟩
 | byt y =>
  obtain⟨t,rfl⟩:=rx;obtain⟨hy,e'⟩:y.size<=sizeLine/\k=((y.size:Int) != 0):=e;subst e';exact PySem.W.truthy_bytes (by lia) ⟨H,I.tok _,q⟩
 | ref p =>
  cases rx;have e':(∃xs,fV X.K H p xs/\k = !xs.isEmpty)\/(∃xs,cK X.K H p xs/\k = !xs.isEmpty)\/∃kvs,H p=some (.dK kvs)/\k = !kvs.isEmpty:=e;rcases e' with⟨xs,hx,e'⟩ | ⟨xs,hx,e'⟩ | ⟨kvs,hx,e'⟩
  ·subst e'
   obtain⟨its,r,pl,hz⟩:=I.list hx;have hlen:=r.length;exact wpAny_truthy_list pl.isList (by simp only[List.size_toArray]; lia) ⟨H,I.tok _,by rw[kq r]; exact q⟩
  ·subst e'
   obtain⟨its,r,pl,hz⟩:=I.tuple hx;have hlen:=r.length;exact truthy_tuple pl (by simp only[List.size_toArray]; lia) ⟨H,I.tok _,by rw[kq r]; exact q⟩
  ·subst e'
   obtain⟨hz,hS,vs,r,m⟩:kvs.length<=sizeLine/\(p == sysModules)=false/\∃vs,KV kvs vs/\s.heap.DictOf (bK X.prog X.w) p vs:=I.hok p _ hx;have hlen:kvs.length=vs.length:=Paired.length r;exact wpAny_truthy_dict hS m (by lia) ⟨H,I.tok _,by rw[rA r]; exact q⟩
 | _=>exact (show False from e).elim
theorem vX (ha:PE X a ta) (he:∀whole,isTrue a X.env whole=(do let v <-whole; standAt a.pos; holding [v] (truthy v))) :
  PT X a (fun σ H Q=>ta σ H fun x H'=>∃k,TruV X.K x H' k/\Q k H'):=by
 intro pins s σ H Q I h;exact isTrue_plain (bA (ha pins s σ H _ I h) fun v s1 ⟨x,H1,I1,r1,q1⟩=>A0 pins s1 σ H1 x v Q I1 r1 q1) (he _)
theorem rB:di X (binaryOp .Add) (fun x y H Q=>∃i j,x=.str i/\y=.str j/\i.length+j.length<=sizeLine/\Q (.str (i++j)) H):=by
 intro pins s σ H x y v u Q I rx ry h;obtain⟨i,j,rfl,rfl,hz,q⟩:=h;obtain⟨t,rfl⟩:=rx;obtain⟨t',rfl⟩:=ry;exact add_str (fun t' tk=>⟨.str (i++j),H,I.tok _,⟨_,rfl⟩,q⟩) hz
theorem vals1 {x:V} {us:List Value} (r:Vals [x] us):∃u,us=[u]/\RelV x u:=by
 cases r with
 | cons r1 r2=>cases r2; exact⟨_,rfl,r1⟩
theorem vals2 {x y:V} {us:List Value} (r:Vals [x,y] us):∃u w',us=[u,w']/\RelV x u/\RelV y w':=by
 cases r with
 | cons r1 r2 =>
  cases r2 with
  | cons r3 r4=>cases r4; exact⟨_,_,rfl,r1,r3⟩
theorem vY:bI X (.builtin "abs") (fun xs H Q=>∃i,xs=[.int i]/\Q (.int (if i<0 then -i else i)) H):=by
 intro pins s σ H xs us Q I r h;obtain⟨i,rfl,q⟩:=h;obtain⟨u,rfl,t,rfl⟩:=vals1 r;exact call_abs_int fun u tk=>⟨.int (if i<0 then -i else i),H,I.tok _,⟨_,rfl⟩,q⟩
theorem nq:bI X (.type "int") (fun xs H Q=>(∃i,xs=[.int i]/\Q (.int i) H)\/∃k,xs=[.bl k]/\Q (.int (if k then 1 else 0)) H):=by
 intro pins s σ H xs us Q I r h;rcases h with⟨i,rfl,q⟩ | ⟨k,rfl,q⟩
 ·obtain⟨u,rfl,t,rfl⟩:=vals1 r
  exact call_int_int ⟨.int i,H,I,⟨_,rfl⟩,q⟩
 ·obtain⟨u,rfl,r1⟩:=vals1 r
  cases r1;exact call_int_bool ⟨.int (if k then 1 else 0),H,I.tok _,⟨_,rfl⟩,q⟩
end
end L2
namespace L2
open PySem PySem.Spec PyProof.Rows
theorem mF.some_of {v:V} {o:Option Value} (r:mF (some v) o):∃u,o=some u/\RelV v u:=by
 cases o with
 | none=>exact (show False from r).elim
 | some u=>exact⟨u,rfl,r⟩
end L2
namespace L2
open PySem PySem.Spec PyProof.Rows
structure eN (k:Nat) (A:Around):Prop where
 hd:A.handled=none
 dp:A.depth+3*k+5<recursionLimit
 un:A.units+16*k+200<cLine
 gd:A.guards=some []
theorem eN.mono {j k:Nat} {A:Around} (r:eN k A) (h:j<=k):eN j A:=⟨r.hd,by have:=r.dp; lia,by have:=r.un; lia,r.gd⟩
theorem eN.deeper {k:Nat} {A:Around} (r:eN (k+1) A) (env:Env):eN k (A.deeper env) :=
 ⟨r.hd,by have:=r.dp; show A.depth+1+3*k+5<_; lia,by have:=r.un; show A.units+3+16*k+200<_; lia,r.gd⟩
theorem eN.depth {k:Nat} {A:Around} (r:eN k A):A.depth<recursionLimit:=by have:=r.dp; lia
theorem eN.units {k:Nat} {A:Around} (r:eN k A):A.units+64<cLine:=by have:=r.un; lia
noncomputable def tNil:TA:=fun _ H Q=>Q [] H
noncomputable def Ai (ta:TE) (tr:TA):TA:=fun σ H Q=>ta σ H fun x H1=>tr σ H1 fun xs H2=>Q (x::xs) H2
section
variable {X:Cx} {e:Expr} {es:List Expr} {te:TE} {t:TA} {pos:Pos}
theorem ou:PA X [] tNil:=fun _ _ _ _ H Q I h=>Calls.spliced_nil ⟨[],H,I,.nil,h⟩
theorem iV (ha:PE X e te) (hr:PA X es t) (hs:starEach (e::es) X.env=(false,eval e X.env)::starEach es X.env:=by rfl):PA X (e::es) (Ai te t):=by
 intro pos pins s σ H Q I h;rw[hs];show wpAny _ _ (spliced ((false,eval e X.env)::backTo pos (starEach es X.env))) _ _ s;refine Calls.spliced_cons (bA (ha pins s σ H _ I h) fun u s1 ⟨x,H1,I1,r1,q1⟩ => ?_)
 exact bA (hr pos pins s1 σ H1 _ I1 q1) fun us s2 ⟨xs,H2,I2,r2,q2⟩=>⟨x::xs,H2,I2,.cons r1 r2,q2⟩
noncomputable def tTup (t:TA):TE:=fun σ H Q=>t σ H fun xs H1=>xs.length<=sizeLine/\∀p,H1 p=none->Q (.ref p) (upd H1 p (.tup xs))
noncomputable def tLst (t:TA):TE:=fun σ H Q=>t σ H fun xs H1=>xs.length<=sizeLine/\∀p,H1 p=none->Q (.ref p) (upd H1 p (.lst xs))
theorem A1 {x1} (h:PA X es t):PE X (.Tuple es x1 pos) (tTup t):=by
 intro pins s σ H Q I hq;refine wpAny_Tuple_spliced (bA (h pos pins s σ H _ I hq) fun us s1 ⟨xs,H1,I1,r,z,q⟩=>⟨by rw[<-r.length]; exact z,?_⟩)
 have hf:H1 s1.heap.objs.size=none:=I1.hok.fresh (Nat.le_refl _);refine⟨.ref s1.heap.objs.size,upd H1 s1.heap.objs.size (.tup xs),I1.laid (t':=s1.toks) (fun b u e=>Heap.get?_push_of_some _ e) (Nat.le_refl _) ?_,rfl,q _ hf⟩
 exact⟨z,us,r,⟨_,Heap.get?_push_size _ rfl,rfl,_,rfl⟩⟩
theorem A3 (h:PA X es t):PE X (.List es pos) (tLst t):=by
 intro pins s σ H Q I hq;refine wpAny_List_spliced (bA (h pos pins s σ H _ I hq) fun us s1 ⟨xs,H1,I1,r,z,q⟩=>⟨by rw[<-r.length]; exact z,?_⟩)
 have hf:H1 s1.heap.objs.size=none:=I1.hok.fresh (Nat.le_refl _);refine⟨.ref s1.heap.objs.size,upd H1 s1.heap.objs.size (.lst xs),I1.laid (t':=s1.toks) (fun b u e=>Heap.get?_push_of_some _ e) (Nat.le_refl _) ?_,rfl,q _ hf⟩
 exact⟨z,us,0,r,Heap.get?_push_size _ rfl⟩
end
abbrev Sp:=List V->Hp->VK->XK->Prop
abbrev vD:=List Env->Hp->Shared->XK->Value->Shared->Prop
structure Env0 (P:Program) (w:World) (K:PySem.W.Frag) (mg:Str->Option Value) (base:Heap) (A:Around) (outer:List Env) (s:Shared) (H:Hp):Prop where
 frames:A.frames=some outer
 mod:Mod K mg base
 bs:∀b o,base.get? b=some o->s.heap.get? b=some o/\H b=none
 bsz:base.objs.size<=s.heap.objs.size
 kc:s.heap.FunFrames base outer
 frf:∀b∈frs outer,H b=none
 hok:iA P w H s.heap
 bare:AllBare s.gens
def CE (outer:List Env) (P:Program) (w:World) (H:Hp) (s:Shared) (Q:VK) (u:Value) (s':Shared):Prop :=
 ∃v H',s'.os=s.os/\AllBare s'.gens/\Un (frs outer) [] H H' s.heap s'.heap/\iA P w H' s'.heap/\RelV v u/\Q v H'
def CR (CX:vD) (outer:List Env) (P:Program) (w:World) (H:Hp) (s:Shared) (Q:VK) (E:XK) (r:Result) (s':Shared):Prop :=
 match r with
 | .ok (.ret u)=>CE outer P w H s Q u s'
 | .ok _=>False
 | .error e=>CX outer H s E e s'
structure cu (P:Program) (w:World) (K:PySem.W.Frag) (mg:Str->Option Value) (base:Heap) (CX:vD) (k:Nat) (f:Addr) (fd:FuncData) (ps:List Str) (sp:Sp):Prop where
 len:∀vs H Q E,sp vs H Q E->vs.length=ps.length
 run:∀ (A:Around) (outer:List Env) (s:Shared) (H:Hp) (args:Args) (us:List Value) (vs:List V) (Q:VK) (E:XK),eN k A->Env0 P w K mg base A outer s H->BindsTo s fd args (ps.zip us)->Vals vs us->sp vs H Q E ->
  codeAny (model P w) A (.call (.ref f) args) (CR CX outer P w H s Q E) s
theorem cu.imp {P:Program} {w:World} {K:PySem.W.Frag} {mg:Str->Option Value} {base:Heap} {CX:vD} {k:Nat} {f:Addr} {fd:FuncData} {ps:List Str} {sp sp':Sp} (F:cu P w K mg base CX k f fd ps sp)
  (h:∀vs H Q E,sp' vs H Q E->sp vs H Q E):cu P w K mg base CX k f fd ps sp' :=
 ⟨fun vs H Q E q=>F.len vs H Q E (h _ _ _ _ q),fun A outer s H args us vs Q E hr he hb hv hs=>F.run A outer s H args us vs Q E hr he hb hv (h _ _ _ _ hs)⟩
section
variable {X:Cx} {pins:List (Addr×Obj)} {σ:St} {H:Hp} {s s':Shared}
theorem Inv.env0 (I:Inv X pins σ H s):Env0 X.prog X.w X.K X.mg X.base X.A X.stack s H :=
 ⟨I.ok.frames,I.ok.mod,I.bs,Nat.le_trans I.ok.bsz I.sz,I.stack,I.sU,I.hok,I.bare⟩
theorem Inv.after {Q:VK} {u:Value} (I:Inv X pins σ H s) (h:CE X.stack X.prog X.w H s Q u s'):EP X pins σ Q u s':=by
 obtain⟨v,H',os,bare,un,hok,r,q⟩:=h;obtain⟨hh,g,d,t,os'⟩:=s';obtain rfl:os'=s.os:=os;exact⟨v,H',I.call (h':=hh) (g':=g) (d':=d) (t':=t) (ch:=[]) un hok bare (fun b z=>absurd z (by simp)),r,q⟩
end
noncomputable def vZ (sp:Sp) (dvs:List V) (E:XK) (t:TA):TE:=fun σ H Q=>t σ H fun vs H1=>sp (vs++dvs) H1 Q E
def Binds (K:PySem.W.Frag) (fd:FuncData) (ps:List Str) (ds:List Value):Prop :=
 ∀ (s:Shared) (us:List Value),K.In s.heap->(us++ds).length=ps.length->BindsTo s fd ⟨us,[]⟩ (ps.zip (us++ds))
theorem Binds.all {K:PySem.W.Frag} {fd:FuncData} {ps:List Str} (h:∀us:List Value,us.length=ps.length->bindArgs fd ⟨us,[]⟩=pure (ps.zip us)):Binds K fd ps []:=fun s us _ hl=>by
 rw[List.append_nil] at hl ⊢;exact .of_eq (h us hl)
def Passes (CX:vD) (X:Cx) (E:XK):Prop:=∀ (pins:List (Addr×Obj)) (σ:St) (H:Hp) (s:Shared) (e:Value) (s':Shared),Inv X pins σ H s->CX X.stack H s E e s'->X.xe e s'
section
variable {X:Cx} {CX:vD} {k:Nat} {f C:Addr} {fd:FuncData} {ps:List Str} {sp:Sp} {dvs:List V} {ds:List Value} {E:XK} {x m:Str} {p pos apos:Pos} {e o:Expr} {es:List Expr} {ta:TE} {t:TA}
theorem A4 {pins:List (Addr×Obj)} {σ:St} {H:Hp} {s:Shared} {Q:VK} {us:List Value} {vs:List V} (F:cu X.prog X.w X.K X.mg X.base CX k f fd ps sp) (hr:eN k X.A) (hb:Binds X.K fd ps ds) (hd:Vals dvs ds) (hx:Passes CX X E)
  (I:Inv X pins σ H s) (r:Vals vs us) (h:sp (vs++dvs) H Q E):wpAny (model X.prog X.w) X.A (call (.ref f) us) (EP X pins σ Q) X.xe s:=by
 have r2:Vals (vs++dvs) (us++ds):=r.append hd;have hl:(us++ds).length=ps.length:=by rw[<-r2.length]; exact F.len _ _ _ _ h
 refine wpAny_call (codeAny_mono (F.run X.A X.stack s H ⟨us,[]⟩ (us++ds) (vs++dvs) Q E hr I.env0 (hb s us I.uB hl) r2 h) fun r s' hq => ?_)
 cases r with
 | error e=>exact hx pins σ H s e s' I hq
 | ok fl =>
  cases fl with
  | ret u=>exact I.after hq
  | next=>exact False.elim hq
  | brk=>exact False.elim hq
  | cont=>exact False.elim hq
theorem yG (F:cu X.prog X.w X.K X.mg X.base CX k f fd ps sp) (hr:eN k X.A) (hg:Gl X x) (hm:X.mg x=some (.ref f)) (hk:PySem.W.keepIn X.K (.ref f)=true) (hb:Binds X.K fd ps ds) (hd:Vals dvs ds) (hx:Passes CX X E)
  (ha:PA X (e::es) t) (hdb:(x == ("__debug__" : Str))=false:=by decide) (he:starEach (e::es) X.env=(false,eval e X.env)::starEach es X.env:=by rfl) (hpl:(backTo pos (starEach es X.env)).any (·.1)=false:=by rfl) :
  PE X (.Call (.Name x p) (e::es) [] pos) (vZ sp dvs E t):=by
 intro pins s σ H Q I h;refine wpAny_Call_Name_kw (yu I hg hm ?_ hdb);refine PySem.W.callWith_K (h₀:=X.base) I.ok.mod.kin hk (bA (ha pos pins s σ H _ I h) fun us s1 ⟨vs,H1,I1,r,q⟩=>⟨I1.uB,?_⟩) he hpl
 exact A4 F hr hb hd hx I1 r q
end
structure aT (N P:List Str) (sc:Scope):Prop where
 kind:sc.kind=.function
 co:sc.isCoroutine=false
 gen:sc.isGenerator=false
 nd:N.Nodup
 pre:N.take P.length=P
 par:∀x∈P,sc.names.lookup x=some .local\/sc.names.lookup x=some .cell
 nofree:∀y∈sc.names,y.2≠.free
theorem nu {kindOf:Str->Option NameKind} {x:Str}:∀ {binds:List (Str×Value)} {m:Str->Option Value},(∀v,(x,v)∉binds)->bindL kindOf binds m x=m x
 | [],_,_=>rfl
 | (n,v)::r,m,h=>by
  unfold bindL;rw[nu fun w hw=>h w (lO _ hw)]
  split
  ·have:x≠n:=by rintro rfl; exact h v lS
   simp[this]
  ·rfl
theorem nv {kindOf:Str->Option NameKind} {x:Str}:∀ {binds:List (Str×Value)} {m:Str->Option Value},(∀v,(x,v)∉binds)->bindC kindOf binds m x=m x
 | [],_,_=>rfl
 | (n,v)::r,m,h=>by
  unfold bindC;rw[nv fun w hw=>h w (lO _ hw)]
  split
  ·rfl
  ·have:x≠n:=by rintro rfl; exact h v lS
   simp[this]
theorem nA {kindOf:Str->Option NameKind} {x:Str} {v:Value}:∀ {P:List Str} {vs:List Value} {i:Nat} {m:Str->Option Value},P.Nodup->P[i]? = some x->vs[i]? = some v->kindOf x=some .local ->
  bindL kindOf (P.zip vs) m x=some v
 | [],_,_,_,_,h,_,_=>by simp at h
 | _::_,[],_,_,_,_,h,_=>by simp at h
 | p::P,w::vs,0,m,nd,h1,h2,hk=>by
  simp at h1 h2; subst h1; subst h2;show bindL kindOf ((p,w)::P.zip vs) m p=_;unfold bindL;rw[nu fun v hv=>(List.nodup_cons.mp nd).1 (List.of_mem_zip hv).1,if_pos hk]
  simp
 | p::P,w::vs,i+1,m,nd,h1,h2,hk=>by
  show bindL kindOf ((p,w)::P.zip vs) m x=_;unfold bindL;exact nA (i:=i) (List.nodup_cons.mp nd).2 (by simpa using h1) (by simpa using h2) hk
theorem nB {kindOf:Str->Option NameKind} {x:Str} {v:Value}:∀ {P:List Str} {vs:List Value} {i:Nat} {m:Str->Option Value},P.Nodup->P[i]? = some x->vs[i]? = some v->kindOf x≠some .local ->
  bindC kindOf (P.zip vs) m x=some v
 | [],_,_,_,_,h,_,_=>by simp at h
 | _::_,[],_,_,_,_,h,_=>by simp at h
 | p::P,w::vs,0,m,nd,h1,h2,hk=>by
  simp at h1 h2; subst h1; subst h2;show bindC kindOf ((p,w)::P.zip vs) m p=_;unfold bindC;rw[nv fun v hv=>(List.nodup_cons.mp nd).1 (List.of_mem_zip hv).1,if_neg hk]
  simp
 | p::P,w::vs,i+1,m,nd,h1,h2,hk=>by
  show bindC kindOf ((p,w)::P.zip vs) m x=_;unfold bindC;exact nB (i:=i) (List.nodup_cons.mp nd).2 (by simpa using h1) (by simpa using h2) hk
noncomputable def start (N:List Str) (vs:List V):St:=vs.map some++List.replicate (N.length-vs.length) none
noncomputable def p7 (CX:vD) (P:Program) (w:World) (K:PySem.W.Frag) (mg:Str->Option Value) (base:Heap) (N:List Str) (qual:Str) (scope:Scope) (f:Addr) (cd:Value) (A:Around) (outer:List Env) (s:Shared) (H:Hp) (E:XK):Cx where
 prog:=P
 w:=w
 K:=K
 mg:=mg
 base:=base
 A:=A.deeper (envOfC qual scope s.heap.objs.size f cd)
 N:=N
 s₀:=s
 H₀:=H
 env:=envOfC qual scope s.heap.objs.size f cd
 outer:=outer
 stack:=envOfC qual scope s.heap.objs.size f cd::outer
 ex:=[]
 calm:=true
 fn:=fun _=>true
 pn:=[]
 xe:=fun e s'=>wpAny (model P w) (A.deeper (envOfC qual scope s.heap.objs.size f cd)) (leaving (envOfC qual scope s.heap.objs.size f cd) e) (fun _ s''=>CX outer H s E e s'') (fun e' s''=>CX outer H s E e' s'') s'
theorem p8 {sc:Scope} {n:Nat} {x:Str} (h:sc.names.lookup x=some .cell):∃c,(cellsFrom n sc.names []).lookup x=some c:=by
 have q:=PySem.W.cellsFrom_some sc.names n [] (.inl h);exact Option.isSome_iff_exists.mp q
theorem uG {CX:vD} {P:Program} {w:World} {K:PySem.W.Frag} {mg:Str->Option Value} {base:Heap} {N ps:List Str} {qual:Str} {scope:Scope} {f:Addr} {cd:Value} {A:Around} {outer:List Env} {s s1:Shared} {H:Hp} {E:XK} {us:List Value} {vs:List V}
  (S:aT N ps scope) (hd:A.handled=none) (e0:Env0 P w K mg base A outer s H) (hl:vs.length=ps.length) (r:Vals vs us)
  (x:InCallC s s.heap.objs.size (bindL (envOfC qual scope s.heap.objs.size f cd).kindOf (ps.zip us) fun _=>none) (cellsFrom (s.heap.objs.size+1) scope.names []) (bindC (envOfC qual scope s.heap.objs.size f cd).kindOf (ps.zip us) fun _=>none) s1) :
  Inv (p7 CX P w K mg base N qual scope f cd A outer s H E) [] (start N vs) H s1:=by
 have hpl:ps.length<=N.length:=by have:=congrArg List.length S.pre; rw[List.length_take] at this; lia
 obtain⟨h1,tk,rfl,hk⟩:=x.done;have noA:∀b:Addr,b∉(p7 CX P w K mg base N qual scope f cd A outer s H E).ex:=fun b z=>absurd (show b∈([]:List Addr) from z) (by simp)
 refine⟨⟨e0.mod,S.kind,rfl,rfl,Nat.le_refl _,fun y z c h1 h2 => ?_,fun y hy => ?_,fun y c _ h => ?_,fun _=>hd,Around.frames_deeper e0.frames,.inr ⟨rfl,rfl⟩,fun b z=>absurd z (noA b),e0.bs,e0.bsz,fun b _ _=>noA b,fun b z=>absurd z (noA b),e0.kc,e0.frf⟩,
  rfl,e0.bare,Un.kept hk,⟨_,x.toInCall.ns,fun i y v h1 h2 h3 => ?_⟩,fun y c h=>⟨_,x.cell y c h⟩,e0.hok.fresh (Nat.le_refl _),fun y c h => ?_,fun p hp=>absurd (show p∈([]:List (Addr×Obj)) from hp) (by simp),e0.hok.kept hk,?_⟩
 ·exact name_of_addr x.apart (PySem.mem_of_lookup h1) (PySem.mem_of_lookup h2)
 ·have hy:scope.names.lookup y=some .cell\/scope.names.lookup y=some .free:=hy
  rcases hy with hy | hy
  ·exact p8 hy
  ·exact absurd rfl (S.nofree _ (PySem.mem_of_lookup hy))
 ·exact Nat.le_of_lt (x.above y c (PySem.mem_of_lookup h))
 ·have hi:i<vs.length:=by
   unfold start at h2
   by_cases hi:i<vs.length
   ·exact hi
   ·rw[List.getElem?_append_right (by simpa using hi)] at h2
    rw[List.getElem?_replicate] at h2
    split at h2 <;> cases h2
  have ha:vs[i]? = some v:=by
   unfold start at h2;rw[List.getElem?_append_left (by simpa using hi),List.getElem?_map] at h2
   cases e:vs[i]? with
   | none=>rw[e] at h2; cases h2
   | some a=>rw[e] at h2; cases h2; rfl
  obtain⟨u,hu,rv⟩:=r.get ha;have hp:ps[i]? = some y:=by
   rw[<-S.pre,List.getElem?_take_of_lt (by lia)]; exact h1
  have ndP:ps.Nodup:=by rw[<-S.pre]; exact S.nd.sublist (List.take_sublist _ _)
  refine⟨u,rv,?_⟩;rcases S.par y (List.mem_of_getElem? hp) with k | k
  ·exact .inl ⟨k,nA ndP hp hu k⟩
  ·obtain⟨c,e⟩:=p8 (n:=s.heap.objs.size+1) k
   refine .inr ⟨.inl k,c,e,?_⟩;have q:=x.cell y c e;rw[nB ndP hp hu (by show scope.names.lookup y≠_; rw[k]; decide)] at q
   exact q
 ·exact e0.hok.fresh (Nat.le_of_lt (x.above y c (PySem.mem_of_lookup h)))
 ·unfold start
  show _=N.length;rw[List.length_append,List.length_map,List.length_replicate];lia
theorem fn_of {CX:vD} {P:Program} {w:World} {K:PySem.W.Frag} {mg:Str->Option Value} {base:Heap} {k:Nat} {f:Addr} {name qual:Str} {params:Arguments} {body:List Stmt} {scope:Scope} {dV kV doc pm cdv ct oc:Value} {an od:Option Addr}
  {osl:Array (Option Value)} {N ps:List Str} {sp:Sp} (lk:K.lookup f=some ⟨oc,od,.func (PySem.W.fnOf name qual params body scope dV kV doc pm an cdv ct),osl⟩) (hcd:PySem.W.codeIn K cdv qual=true) (S:aT N ps scope)
  (len:∀vs H Q E,sp vs H Q E->vs.length=ps.length)
  (hbody:∀ (A:Around) (outer:List Env) (s:Shared) (H:Hp) (vs:List V) (Q:VK) (E:XK),eN k (A.deeper (envOfC qual scope s.heap.objs.size f cdv))->sp vs H Q E ->
   ∃t,q9 (p7 CX P w K mg base N qual scope f cdv A outer s H E) body t/\t { nx:=fun _ H'=>Q .non H',rt:=Q } (start N vs) H) :
  cu P w K mg base CX (k+1) f (PySem.W.fnOf name qual params body scope dV kV doc pm an cdv ct) ps sp:=by
 refine⟨len,fun A outer s H args us vs Q E hr e0 hb r hsp => ?_⟩
 have hl:=len _ _ _ _ hsp;have KX:K.In s.heap:=e0.mod.kin.keeps fun b o e=>(e0.bs b o e).1
 have lim:s.heap.NoLimit:=e0.mod.nolimit.keeps fun b o e=>(e0.bs b o e).1
 have hkind:∀y∈ps.zip us,scope.names.lookup y.1=some .local\/(scope.names.lookup y.1=some .cell/\((cellsFrom (s.heap.objs.size+1) scope.names []).lookup y.1).isSome=true):=fun ⟨n,v⟩ hy=>by
  rcases S.par n (List.of_mem_zip hy).1 with q | q
  ·exact .inl q
  ·exact .inr ⟨q,PySem.W.cellsFrom_some _ _ _ (.inl q)⟩
 refine codeAny_call_function hr.depth (KX _ _ lk) rfl S.co S.gen rfl (PySem.W.codeRec_of KX hcd) (hb _ _ _ _ ?_);refine wpAny_newFunctionEnv_cells S.kind hkind fun env he s1 x => ?_
 subst he;refine⟨lim.keeps x.toInCall.keep,codeAny_func ?_⟩;obtain⟨t,ht,hq⟩:=hbody A outer s H vs Q E (hr.deeper _) hsp;have I:Inv (p7 CX P w K mg base N qual scope f cdv A outer s H E) [] (start N vs) H s1:=uG S hr.hd e0 hl r x;refine wpAny_mono (ht [] s1 (start N vs) H _ I hq) (fun fl s' hs => ?_) fun e s' hs=>hs
 have fin:∀ {σ':St} {H':Hp} {v:V} {u:Value},Inv (p7 CX P w K mg base N qual scope f cdv A outer s H E) [] σ' H' s'->RelV v u->Q v H'->CE outer P w H s Q u s' :=
  fun {σ' H' v u} J rv q=>⟨v,H',J.os,J.bare,J.base,J.hok,rv,q⟩
 cases fl with
 | ret u =>
  obtain⟨v,σ',H',J,rv,q⟩:=hs;exact fin J rv q
 | next =>
  obtain⟨σ',H',J,q⟩:=hs;exact fin (v:=V.non) (u:=Value.none) J rfl q
 | brk =>
  obtain⟨_,_,_,q⟩:=hs;exact False.elim q
 | cont =>
  obtain⟨_,_,_,q⟩:=hs;exact False.elim q
end L2
namespace L2
open PySem PySem.Spec PyProof.Rows
section
variable {X:Cx} {x:Str} {p pos:Pos} {e:Expr} {es:List Expr} {t:TA} {id T:String} {r:List V->Hp->VK->Prop}
noncomputable def C1 (r:List V->Hp->VK->Prop) (t:TA):TE:=fun σ H Q=>t σ H fun vs H1=>r vs H1 Q
theorem p9 (hc:bI X (.builtin id) r) (hg:Gl X x) (hm:X.mg x=none) (hv:bootBuiltins x=some (.builtin id)) (ha:PA X (e::es) t) (hn:x ≠ "__name__" := by decide) (hdb:(x == ("__debug__" : Str))=false:=by decide)
  (he:starEach (e::es) X.env=(false,eval e X.env)::starEach es X.env:=by rfl) (hpl:(backTo pos (starEach es X.env)).any (·.1)=false:=by rfl):PE X (.Call (.Name x p) (e::es) [] pos) (C1 r t):=by
 intro pins s σ H Q I h;refine wpAny_Call_Name_kw (fW I hg hm hv ?_ hn hdb);exact PyProof.Rows.callWith_builtin1 (bA (ha pos pins s σ H _ I h) fun us s1 ⟨vs,H1,I1,r1,q1⟩=>hc pins s1 σ H1 vs us Q I1 r1 q1) he hpl
theorem uH (hc:bI X (.type T) r) (hg:Gl X x) (hm:X.mg x=none) (hv:bootBuiltins x=some (.type T)) (ha:PA X (e::es) t) (hn:x ≠ "__name__" := by decide) (hdb:(x == ("__debug__" : Str))=false:=by decide)
  (he:starEach (e::es) X.env=(false,eval e X.env)::starEach es X.env:=by rfl) (hpl:(backTo pos (starEach es X.env)).any (·.1)=false:=by rfl):PE X (.Call (.Name x p) (e::es) [] pos) (C1 r t):=by
 intro pins s σ H Q I h;refine wpAny_Call_Name_kw (fW I hg hm hv ?_ hn hdb);exact PyProof.Rows.callWith_type1 (bA (ha pos pins s σ H _ I h) fun us s1 ⟨vs,H1,I1,r1,q1⟩=>hc pins s1 σ H1 vs us Q I1 r1 q1) he hpl
end
end L2
namespace HT
open PySem PyProof.Rows
noncomputable def lexLt:List Int->List Int->Bool
 | [],[]=>false
 | [],_::_=>true
 | _::_,[]=>false
 | x::xs,y::ys=>if x=y then lexLt xs ys else decide (x<y)
theorem cE (x y:Int) (xs ys:List Int):lexLt (x::xs) (y::ys)=if x=y then lexLt xs ys else decide (x<y):=rfl
theorem mH:lexLt [] []=false:=rfl
theorem kr (y:Int) (ys:List Int):lexLt [] (y::ys)=true:=rfl
theorem ku (x:Int) (xs:List Int):lexLt (x::xs) []=false:=rfl
theorem qc (A:Around) (s:Shared) (a:Int) (t:Tok) (c:Int) (u:Tok):∃e,SeqAt.EqAt A s (.int a t) (.int c u) e/\(e=true↔a=c) :=
 ⟨(a == c),SeqAt.EqAt.int_int a t c u,by simp⟩
theorem v5 (A:Around) (s:Shared) (a:Int) (t:Tok) (c:Int) (u:Tok) (prog:Program) (w:World) (E:Value->Shared->Prop) (Q:Value->Shared->Prop) (h:Q (.bool (decide (a<c))) s) :
  wpAny (model prog w) A (richCompare .Lt (.int a t) (.int c u)) Q E s :=
 (PyProof.Rows.lt_int h:wpAny (model prog w) A (compareOp .Lt (.int a t) (.int c u)) Q E s)
section
open PySem.SeqAt
open PySem.AutoSeq1 (wpAny_loadPart')
open PySem.MeetsSeq PySem.MeetsSeq2 PySem.MeetsSeq3
theorem mJ (l b:Addr) (items items2:Array Value) (n n2:Nat) (dd dd2:Option Addr) (sl sl2:Array (Option Value)) (ns ms:List Int) (hi:IntsAre items.toList ns) (hj:IntsAre items2.toList ms) :
  Meets (Builtin.«tuple.__lt__» ⟨[.ref l,.ref b],[]⟩)
   (fun _ R s=>s.heap.get? l=some { cls:=.type "tuple",dict:=dd,data:=.seq items n,slots:=sl }/\s.heap.get? b=some { cls:=.type "tuple",dict:=dd2,data:=.seq items2 n2,slots:=sl2 } /\
    R (.ok (.ret (.bool (lexLt ns ms)))) s) :=
 .of_wp fun prog w A R s h=>by
  obtain⟨hp,g,d,tk,os⟩:=s; obtain⟨hl,hb,h⟩:=h;have f2:=AutoSeq1.sub_tuple_tuple;have z1:items.size=ns.length:=by rw[<-hi.length]; simp
  have z2:items2.size=ms.length:=by rw[<-hj.length]; simp
  wp_walk using wpAny_loadPart' hl,wpAny_loadPart' hb,wpAny_forIn_list _ (fun rest b s'=>b.1=none/\s'=⟨hp,g,d,tk,os⟩/\∃ (vs ws:List Value) (ns' ms':List Int),rest=vs.zip ws /\
   IntsAre vs ns'/\IntsAre ws ms'/\ns'.length+items2.size=ms'.length+items.size/\R (.ok (.ret (.bool (lexLt ns' ms')))) ⟨hp,g,d,tk,os⟩) _
  case turn =>
   rintro⟨y,x⟩ rest b s' ⟨hb',rfl,vs,ws,ns',ms',hz,hvi,hwi,hlen,hR⟩;cases hvi with
   | nil=>rw[List.zip_nil_left] at hz; cases hz
   | cons a t hvi' =>
    cases hwi with
    | nil=>rw[List.zip_nil_right] at hz; cases hz
    | cons c u hwi' =>
     rw[List.zip_cons_cons] at hz
     injection hz with hyx hrest
     injection hyx with hy hx
     subst hy hx;rw[cE] at hR;simp only[List.length_cons] at hlen;obtain⟨e,he,hiff⟩:=qc A.in1 ⟨hp,g,d,tk,os⟩ a t c u;refine wpAny_bind (he prog w _ _ ?_);cases e with
     | true =>
      rw[if_pos (hiff.mp rfl)] at hR
      wp_walk
      exact⟨rfl,rfl,_,_,_,_,hrest,hvi',hwi',by lia,hR⟩
     | false =>
      rw[if_neg (fun q=>absurd (hiff.mpr q) Bool.false_ne_true)] at hR
      have hri:=v5 A.in1 ⟨hp,g,d,tk,os⟩ a t c u prog w
      wp_walk using hri
      exact⟨_,rfl,by simpa using hR⟩
  case fin =>
   rintro⟨b1,b2⟩ s' ⟨hb',rfl,vs,ws,ns',ms',hz,hvi,hwi,hlen,hR⟩;simp only at hb';subst hb';have hv:lexLt ns' ms'=decide (items.size<items2.size):=by
    cases hvi with
    | nil =>
     cases hwi with
     | nil =>
      simp only[List.length_nil] at hlen;rw[mH];exact (decide_eq_false (by lia)).symm
     | cons c u hw =>
      simp only[List.length_nil,List.length_cons] at hlen;rw[kr];exact (decide_eq_true (by lia)).symm
    | cons a t hv =>
     cases hwi with
     | nil =>
      simp only[List.length_nil,List.length_cons] at hlen;rw[ku];exact (decide_eq_false (by lia)).symm
     | cons c u hw =>
      rw[List.zip_cons_cons] at hz;cases hz
   rw[hv] at hR
   wp_walk
   exact⟨_,rfl,by simpa[Builtin.Tuple.tupleCompareSizes] using hR⟩
  case h =>
   exact⟨rfl,rfl,items.toList,items2.toList,ns,ms,rfl,hi,hj,by lia,h⟩
end
section
variable {prog:Program} {w:World} {A:Around} {E:Value->Shared->Prop} {s:Shared}
theorem rC {l b:Addr} {items items2:Array Value} {ns ms:List Int} {Q:Value->Shared->Prop} (hl:IsTup s.heap l items) (hb:IsTup s.heap b items2) (hi:IntsAre items.toList ns) (hj:IntsAre items2.toList ms)
  (hu:A.units<cLine) (h:Q (.bool (lexLt ns ms)) s):wpAny (model prog w) A (compareOp .Lt (.ref l) (.ref b)) Q E s:=by
 obtain⟨⟨cls,dd,data,sl⟩,ho,hc,n,hd⟩:=id hl;obtain⟨⟨cls2,dd2,data2,sl2⟩,ho2,hc2,n2,hd2⟩:=id hb;simp only at hc hd hc2 hd2;subst hc hd hc2 hd2;exact richCompare_meets_room (op:=.Lt) ⟨_,ho,rfl⟩ ⟨_,ho2,rfl⟩ PySem.F.slot_tuple_lt PySem.F.entry_tuple_lt (PySem.F.args_tuple_lt_2 _ _) (mJ l b items items2 n n2 dd dd2 sl sl2 ns ms hi hj)
  ⟨ho,ho2,show Value.bool (lexLt ns ms)≠Value.notImplemented/\Q (.bool (lexLt ns ms)) s from⟨(fun x=>nomatch x),h⟩⟩ hu
theorem yH {t b:Addr} {vs ws:List Value} {Q:Value->Shared->Prop} (ht:IsTup s.heap t vs.toArray) (hb:IsTup s.heap b ws.toArray) (hv:vs≠[])
  (h1:ws=[]->Q (.ref t) s) (h2:ws≠[]->Q (.ref s.heap.objs.size) { s with heap:=s.heap.push { cls:=.type "tuple",data:=.seq (vs++ws).toArray } })
  (hsz:vs.length+ws.length<=sizeLine):wpAny (model prog w) A (binaryOp .Add (.ref t) (.ref b)) Q E s:=by
 obtain⟨⟨cls,dd,data,sl⟩,ho,hc,n,hd⟩:=id ht;obtain⟨⟨cls2,dd2,data2,sl2⟩,ho2,hc2,n2,hd2⟩:=id hb;simp only at hc hd hc2 hd2;subst hc hd hc2 hd2;have e:vs.toArray++ws.toArray=(vs++ws).toArray:=by simp
 by_cases hw:ws=[]
 ·exact concat_meets ⟨_,ho,rfl⟩ ⟨_,ho2,rfl⟩ noFill_tuple_add seq_tuple_add PySem.F.slot_tuple_add PySem.F.entry_tuple_add (PySem.F.args_tuple_add_2 _ _)
   (tuple_addW1 t b vs.toArray ws.toArray n n2 dd dd2 sl sl2 (by simpa using hv) (by simp[hw])) ⟨ho,ho2,h1 hw⟩
 ·refine concat_meets ⟨_,ho,rfl⟩ ⟨_,ho2,rfl⟩ noFill_tuple_add seq_tuple_add PySem.F.slot_tuple_add PySem.F.entry_tuple_add (PySem.F.args_tuple_add_2 _ _)
   (tuple_addW2 t b vs.toArray ws.toArray n n2 dd dd2 sl sl2 (by simpa using hv) (by simpa using hw) (by rw[List.size_toArray,List.size_toArray]; exact hsz)) ⟨ho,ho2,?_⟩
  rw[e];exact h2 hw
noncomputable def cg (n d:Nat):Option Int->Nat
 | none=>d
 | some v=>if v<0 then (v+(n:Int)).toNat else min v.toNat n
theorem qd (n d:Nat):cg n d none=d:=rfl
theorem sW (n d k:Nat):cg n d (some (k:Int))=min k n:=by
 show (if (k:Int)<0 then ((k:Int)+(n:Int)).toNat else min (k:Int).toNat n)=min k n
 rw[if_neg (by lia),Int.toNat_natCast]
theorem A5 (n d:Nat) (hd:d<=n) (o:Option Int):cg n d o<=n:=by
 cases o with
 | none=>exact hd
 | some v =>
  show (if v<0 then (v+(n:Int)).toNat else min v.toNat n)<=n
  by_cases hv:v<0
  ·rw[if_pos hv]; lia
  ·rw[if_neg hv]; exact Nat.min_le_right _ _
theorem sX (v:Int) (n d:Nat):(if v<0 then max (v+(n:Int)) 0 else min v (n:Int))=((cg n d (some v):Nat):Int):=by
 show (if v<0 then max (v+(n:Int)) 0 else min v (n:Int))=(((if v<0 then (v+(n:Int)).toNat else min v.toNat n):Nat):Int)
 by_cases hv:v<0
 ·simp only[if_pos hv]; lia
 ·simp only[if_neg hv]; lia
theorem rD (lo hi:Option Int) (n:Nat):Builtin.Slice.sliceAdjust lo hi 1 (n:Int)=(((cg n 0 lo:Nat):Int),((cg n n hi:Nat):Int)):=by
 have h1:¬ ((1:Int)<0):=by lia
 unfold Builtin.Slice.sliceAdjust;simp only[h1,if_false];refine Prod.ext ?_ ?_
 ·cases lo with
  | none=>rfl
  | some v=>exact sX v n 0
 ·cases hi with
  | none=>rfl
  | some v=>exact sX v n n
theorem rE (i j:Nat):Builtin.Slice.slicePlaces (i:Int) (j:Int) 1=j-i:=by
 unfold Builtin.Slice.slicePlaces;have h1:(1:Int)>0:=by lia
 simp only[h1,if_true,Int.ediv_one]
 split <;> lia
theorem kB {v:Value} {o:Option Int} {Q:Option Int->Shared->Prop} (p:IsPart v o) (h:Q o s):wpAny (model prog w) A (Builtin.Slice.slicePartIndex v) Q E s:=by
 cases p with
 | none=>exact slicePart_none h
 | int i t=>exact slicePart_int h
theorem fD {sl:Addr} {vl vu:Value} {lo hi:Option Int} {n:Nat} {Q:Int×Int×Nat->Shared->Prop} (hs:s.heap.IsSliceOf sl vl vu .none) (pl:IsPart vl lo) (pu:IsPart vu hi)
  (h:Q (((cg n 0 lo:Nat):Int),1,cg n n hi-cg n 0 lo) s):wpAny (model prog w) A (Builtin.Slice.sliceApplied (.ref sl) (pure (n:Int))) Q E s:=by
 obtain⟨os,hos,hcs,hds⟩:=id hs;unfold Builtin.Slice.sliceApplied Builtin.Slice.sliceFields;refine wpAny_bind (wpAny_bind (wpAny_field hos hds (x:=vl) rfl (wpAny_bind (wpAny_field hos hds (x:=vu) rfl (wpAny_bind (wpAny_field hos hds (x:=.none) rfl (wpAny_pure ?_)))))));refine wpAny_bind (slicePart_none ?_);show wpAny _ _ (if ((1:Int) == 0)=true then _ else _) _ _ s
 rw[if_neg (by decide)]
 refine wpAny_bind (kB pl (wpAny_bind (kB pu (wpAny_bind (wpAny_pure ?_)))));show wpAny _ _ (match Builtin.Slice.sliceAdjust lo hi 1 (n:Int) with | (lo,hi)=>pure (lo,(1:Int),Builtin.Slice.slicePlaces lo hi 1)) _ _ s
 rw[rD lo hi n];show wpAny _ _ (pure (((cg n 0 lo:Nat):Int),(1:Int),Builtin.Slice.slicePlaces ((cg n 0 lo:Nat):Int) ((cg n n hi:Nat):Int) 1)) _ _ s;rw[rE];exact wpAny_pure h
theorem v7 (xs:Array Value) (i k:Nat):((List.range k).filterMap fun (m:Nat)=>xs[((i:Int)+(m:Int)*1).toNat]?).toArray=((xs.toList.drop i).take k).toArray:=by
 have e:(fun (m:Nat)=>xs[((i:Int)+(m:Int)*1).toNat]?)=fun m=>xs[i+m]? := by
  funext m
  have:((i:Int)+(m:Int)*1).toNat=i+m:=by lia
  rw[this]
 rw[e];have:=pick_run xs i k;rw[List.filterMap_map] at this;have e2:((fun x=>xs[x]?)∘fun x=>i+x)=fun m=>xs[i+m]? := rfl
 rw[e2] at this;rw[this]
theorem iW {t sl:Addr} {items:Array Value} {vl vu:Value} {lo hi:Option Int} {Q:Value->Shared->Prop} (ht:IsTup s.heap t items) (hs:s.heap.IsSliceOf sl vl vu .none) (pl:IsPart vl lo) (pu:IsPart vu hi)
  (hw:¬ (cg items.size 0 lo=0/\cg items.size items.size hi=items.size))
  (h:Q (.ref s.heap.objs.size) { s with heap:=s.heap.push { cls:=.type "tuple",data:=.seq ((items.toList.drop (cg items.size 0 lo)).take (cg items.size items.size hi-cg items.size 0 lo)).toArray } })
  (hsz:items.size<=sizeLine):wpAny (model prog w) A (getItem (.ref t) (.ref sl)) Q E s:=by
 have htake:sizeOk (.seq ((items.toList.drop (cg items.size 0 lo)).take (cg items.size items.size hi-cg items.size 0 lo)).toArray):=by
  show ((items.toList.drop (cg items.size 0 lo)).take (cg items.size items.size hi-cg items.size 0 lo)).toArray.size<=sizeLine;rw[List.size_toArray,List.length_take,List.length_drop,Array.length_toList];lia
 have hj:cg items.size items.size hi<=items.size:=A5 _ _ (Nat.le_refl _) hi;obtain⟨os,hos,hcs,hds⟩:=id hs;have hTs:s.TypeIs (.ref sl) "slice" := ⟨os,hos,hcs⟩;unfold getItem
 try with_reducible refine wpAny_holding ?_
 first | refine wpAny_bind (wpAny_pure ?_) | skip
 refine wpAny_bind (wpAny_sequenceKey ht.typeIs (by decide) ?_)
 refine wpAny_bind (wpAny_callSpecial?_slot (name:=Str.ofString "__getitem__") ht.typeIs PyProof.Rows.slot_tuple_getitem
  (wpAny_call_entry PyProof.Rows.slot_tuple_getitem ht.typeIs entry_tuple_getitem ?_ (args_tuple_getitem _ _)))
 show wpAny _ _ (Builtin.Tuple.tupleItemsOf (.ref t) >>= _) _ _ s;refine wpAny_bind (tupleItemsOf_ ht ?_);refine wpAny_bind (wpAny_typeOf hTs ?_);rw[if_pos (by decide)]
 refine wpAny_bind (fD hs pl pu ?_);have hno:¬ ((((cg items.size 0 lo:Nat):Int) == 0 && (1:Int) == 1 && (cg items.size items.size hi-cg items.size 0 lo) == items.size)=true):=by
  intro q;rw[Bool.and_eq_true,Bool.and_eq_true] at q;have q1:((cg items.size 0 lo:Nat):Int)=0:=eq_of_beq q.1.1;have q2:cg items.size items.size hi-cg items.size 0 lo=items.size:=eq_of_beq q.2;exact hw ⟨by lia,by lia⟩
 show wpAny _ _ (if (((cg items.size 0 lo:Nat):Int) == 0 && (1:Int) == 1 && (cg items.size items.size hi-cg items.size 0 lo) == items.size)=true then _ else _) _ _ s
 rw[if_neg hno,v7]
 first
  | exact wpAny_bind (m:=Builtin.Tuple.tupleExact _) (wpAny_newObj_type (wpAny_pure ⟨_,rfl,wpAny_pure h⟩) htake)
  | exact wpAny_bind (m:=Builtin.Tuple.tupleExact _) (wpAny_newObj_type (wpAny_bind (wpAny_pure (wpAny_pure ⟨_,rfl,wpAny_pure h⟩))) htake)
  | exact wpAny_bind (wpAny_bind (m:=Builtin.Tuple.tupleExact _) (wpAny_newObj_type (wpAny_pure (wpAny_pure ⟨_,rfl,wpAny_pure h⟩)) htake))
  | exact wpAny_bind (wpAny_bind (m:=Builtin.Tuple.tupleExact _) (wpAny_newObj_type (wpAny_pure ⟨_,rfl,wpAny_pure h⟩) htake))
end
end HT
namespace L2
open PySem PySem.Spec PyProof.Rows
abbrev TO:=St->Hp->(Option Int->Hp->Prop)->Prop
def PO (X:Cx) (e:Option Expr) (t:TO):Prop :=
 ∀ (pins:List (Addr×Obj)) (s:Shared) (σ:St) (H:Hp) (Q:Option Int->Hp->Prop),Inv X pins σ H s->t σ H Q ->
  wpAny (model X.prog X.w) X.A (evalPart e X.env) (fun u s'=>∃o H',Inv X pins σ H' s'/\IsPart u o/\Q o H') X.xe s
noncomputable def yI:TO:=fun _ H Q=>Q none H
noncomputable def tPart (t:TE):TO:=fun σ H Q=>t σ H fun x H1=>∃i,x=.int i/\Q (some i) H1
theorem intsAre_of {ns:List Int}:∀ {us:List Value},Vals (ns.map V.int) us->IntsAre us ns:=by
 induction ns with
 | nil=>intro us r; rw[List.map_nil] at r; cases r; exact .nil
 | cons n ns ih =>
  intro us r;rw[List.map_cons] at r;cases r with
  | cons r1 r2 =>
   obtain⟨t,e⟩:=r1;subst e;exact .cons n t (ih r2)
section
variable {X:Cx} {e:Expr} {te:TE} {lo hi:Option Expr} {tl th:TO} {pos p2:Pos}
theorem yJ:PO X none yI:=by
 intro pins s σ H Q I h;rw[evalPart_none];exact wpAny_pure ⟨none,H,I,.none,h⟩
theorem yK (h:PE X e te):PO X (some e) (tPart te):=by
 intro pins s σ H Q I hw;rw[evalPart_some];refine bA (h pins s σ H _ I hw) fun u s1 ⟨x,H1,I1,r1,q1⟩ => ?_
 obtain⟨i,rfl,q⟩:=q1;obtain⟨t,rfl⟩:=r1;exact⟨some i,H1,I1,.int i t,q⟩
def yL (X:Cx) (r:V->Option Int->Option Int->Hp->VK->Prop):Prop :=
 ∀ (pins:List (Addr×Obj)) (s:Shared) (σ:St) (H:Hp) (x:V) (v vl vu:Value) (lo hi:Option Int) (sl:Addr) (Q:VK),Inv X pins σ H s->RelV x v->s.heap.IsSliceOf sl vl vu .none->IsPart vl lo->IsPart vu hi->r x lo hi H Q ->
  ∃T id,typeLookup (.type T) "__getitem__" = pure (some (.builtin id))/\s.TypeIs v T/\wpAny (model X.prog X.w) X.A (getItem v (.ref sl)) (EP X pins σ Q) X.xe s
noncomputable def DM (r:V->Option Int->Option Int->Hp->VK->Prop) (te:TE) (tl th:TO):TE:=fun σ H Q=>te σ H fun x H1=>tl σ H1 fun l H2=>th σ H2 fun u H3=>r x l u H3 Q
theorem v8 {r:V->Option Int->Option Int->Hp->VK->Prop} (hr:yL X r) (he:PE X e te) (hl:PO X lo tl) (hu:PO X hi th):PE X (.Subscript e (.Slice lo hi none p2) pos) (DM r te tl th):=by
 intro pins s σ H Q I h;refine Subscript_ (bA (he pins s σ H _ I h) fun v s1 ⟨x,H1,I1,r1,q1⟩ => ?_)
 refine wpAny_Slice (bA (hl pins s1 σ H1 _ I1 q1) fun vl s2 ⟨l,H2,I2,pl,q2⟩=>bA (hu pins s2 σ H2 _ I2 q2) fun vu s3 ⟨u,H3,I3,pu,q3⟩ => ?_)
 rw[evalPart_none];refine wpAny_pure ?_;have I4:Inv X pins σ H3 { s3 with heap:=s3.heap.push { cls:=.type "slice",data:=.fields #[vl,vu,.none] } }:=I3.kept (t':=s3.toks) fun b ob q=>Heap.get?_push_of_some _ q
 obtain⟨T,id,hT,ht,hg⟩:=hr pins { s3 with heap:=s3.heap.push { cls:=.type "slice",data:=.fields #[vl,vu,.none] } } σ H3 x v vl vu l u s3.heap.objs.size Q I4 r1 (Heap.IsSliceOf.new ..) pl pu q3
 show wpAny (model X.prog X.w) X.A (subscriptTail e (.Slice lo hi none p2) v (.ref s3.heap.objs.size)) (EP X pins σ Q) X.xe { s3 with heap:=s3.heap.push { cls:=.type "slice",data:=.fields #[vl,vu,.none] } }
 exact tail_any (ops:=[.ref s3.heap.objs.size,v]) ht hT hg (by with_unfolding_all rfl)
noncomputable def kC (xs:List V) (lo hi:Option Int):List V:=(xs.drop (HT.cg xs.length 0 lo)).take (HT.cg xs.length xs.length hi-HT.cg xs.length 0 lo)
theorem jP (xs:List V) (lo hi:Option Int):(kC xs lo hi).length<=xs.length:=by
 unfold kC;rw[List.length_take,List.length_drop];lia
def rSlT (K:PySem.W.Frag):V->Option Int->Option Int->Hp->VK->Prop:=fun x lo hi H Q=>∃a xs,x=.ref a/\cK K H a xs /\
 ¬ (HT.cg xs.length 0 lo=0/\HT.cg xs.length xs.length hi=xs.length)/\∀p,H p=none->Q (.ref p) (upd H p (.tup (kC xs lo hi)))
theorem A6:yL X (rSlT X.K):=by
 intro pins s σ H x v vl vu lo hi sl Q I rx hs pl pu h;obtain⟨a,xs,rfl,hx,hw,q⟩:=h;cases rx;obtain⟨its,r,ht,hz⟩:=I.tuple hx;have hlen:its.toArray.size=xs.length:=by rw[List.size_toArray]; exact r.length.symm
 refine⟨"tuple",_,PyProof.Rows.slot_tuple_getitem.lookup,ht.typeIs,?_⟩;refine HT.iW ht hs pl pu (by rw[hlen]; exact hw) ?_ (by rw[hlen]; exact hz)
 rw[hlen];refine⟨.ref s.heap.objs.size,_,I.laid (t':=s.toks) (o:=.tup (kC xs lo hi)) (fun b ob q=>Heap.get?_push_of_some _ q) (Nat.le_refl _) ?_,rfl,q _ (I.hok.fresh (Nat.le_refl _))⟩
 exact⟨Nat.le_trans (jP xs lo hi) hz,_,(r.drop (HT.cg xs.length 0 lo)).take (HT.cg xs.length xs.length hi-HT.cg xs.length 0 lo),IsTup.new _ _⟩
noncomputable def rLtT (K:PySem.W.Frag):R2:=fun x y H Q=>∃a b ns ms,x=.ref a/\y=.ref b/\cK K H a (ns.map V.int)/\cK K H b (ms.map V.int)/\Q (.bl (HT.lexLt ns ms)) H
theorem A7 (hu:X.A.units<cLine):di X (compareOp .Lt) (rLtT X.K):=by
 intro pins s σ H x y v u Q I rx ry h;obtain⟨a,b,ns,ms,rfl,rfl,ha,hb,q⟩:=h;cases rx;cases ry;obtain⟨its,r1,p1,_⟩:=I.tuple ha;obtain⟨its2,r2,p2,_⟩:=I.tuple hb;have i1:IntsAre its.toArray.toList ns:=intsAre_of r1;have i2:IntsAre its2.toArray.toList ms:=intsAre_of r2;exact HT.rC p1 p2 i1 i2 hu ⟨.bl (HT.lexLt ns ms),H,I,rfl,q⟩
noncomputable def rCatT (K:PySem.W.Frag):R2:=fun x y H Q=>∃a b xs ys,x=.ref a/\y=.ref b/\cK K H a xs/\cK K H b ys/\xs≠[]/\xs.length+ys.length<=sizeLine /\
 (ys=[]->Q (.ref a) H)/\(ys≠[]->∀p,H p=none->Q (.ref p) (upd H p (.tup (xs++ys))))
theorem Vals.oz {xs:List V} {us:List Value} (r:Vals xs us):us=[]↔xs=[]:=by
 cases r with
 | nil=>simp
 | cons _ _=>simp
theorem yM:di X (binaryOp .Add) (rCatT X.K):=by
 intro pins s σ H x y v u Q I rx ry h;obtain⟨a,b,xs,ys,rfl,rfl,ha,hb,hx,hz,q1,q2⟩:=h;cases rx;cases ry;obtain⟨its,r1,p1,_⟩:=I.tuple ha;obtain⟨its2,r2,p2,_⟩:=I.tuple hb;refine HT.yH p1 p2 (fun z=>hx (r1.oz.mp z)) (fun z=>⟨.ref a,H,I,rfl,q1 (r2.oz.mp z)⟩) (fun z => ?_) (by rw[<-r1.length,<-r2.length]; exact hz)
 refine⟨.ref s.heap.objs.size,_,I.laid (t':=s.toks) (o:=.tup (xs++ys)) (fun b ob q=>Heap.get?_push_of_some _ q) (Nat.le_refl _) ?_,rfl,q2 (fun w=>z (r2.oz.mpr w)) _ (I.hok.fresh (Nat.le_refl _))⟩
 exact⟨by rw[List.length_append]; exact hz,_,r1.append r2,IsTup.new _ _⟩
end
end L2
namespace L2
open PySem PySem.Spec PyProof.Rows
noncomputable def uI (n:Nat) (i:Int):Option Nat:=if 0<=i then (if i<n then some i.toNat else none) else if -(n:Int)<=i then some (i+n).toNat else none
noncomputable def kD {α:Type} (xs:List α) (i:Int):Option α:=(uI xs.length i).bind fun j=>xs[j]?
theorem sY {n:Nat} {i:Int} {j:Nat} (h:uI n i=some j):seqIndex? i n=some j/\j<n/\-(n:Int)<=i/\i<n:=by
 unfold uI at h
 by_cases h0:0<=i
 ·rw[if_pos h0] at h
  by_cases h1:i<n
  ·rw[if_pos h1] at h
   have e:i.toNat=j:=Option.some.inj h;exact⟨by rw[seqIndex_of h0 h1,e],by lia,by lia,h1⟩
  ·rw[if_neg h1] at h; cases h
 ·rw[if_neg h0] at h
  by_cases h1 : -(n:Int)<=i
  ·rw[if_pos h1] at h
   have e:(i+n).toNat=j:=Option.some.inj h;exact⟨by rw[seqIndex_neg (by lia) h1,e],by lia,h1,by lia⟩
  ·rw[if_neg h1] at h; cases h
theorem oA {α:Type} {xs:List α} {i:Int} {v:α} (h:kD xs i=some v):∃j,seqIndex? i xs.length=some j/\xs[j]? = some v/\j<xs.length/\-(xs.length:Int)<=i/\i<xs.length:=by
 unfold kD at h;cases e:uI xs.length i with
 | none=>rw[e] at h; cases h
 | some j =>
  rw[e] at h;obtain⟨h1,h2,h3,h4⟩:=sY e;exact⟨j,h1,h,h2,h3,h4⟩
theorem yN {α:Type} {xs:List α} {j:Nat} {v:α} (h:xs[j]? = some v):kD xs (j:Int)=some v:=by
 have hj:j<xs.length:=(List.getElem?_eq_some_iff.mp h).1;have e:uI xs.length (j:Int)=some j:=by
  unfold uI;rw[if_pos (by lia),if_pos (by lia)]; simp
 unfold kD; rw[e]; exact h
def oE (b:Expr):Prop:=∀o i,subscripted b false o i=operate [o,i] (getItem o i)
def yO (X:Cx) (r:R2):Prop :=
 ∀ (value slice:Expr) (pins:List (Addr×Obj)) (s:Shared) (σ:St) (H:Hp) (x y:V) (v u:Value) (Q:VK),Inv X pins σ H s->RelV x v->RelV y u->r x y H Q ->
  subscripted slice false v u=operate [v,u] (getItem v u)->wpAny (model X.prog X.w) X.A (subscriptTail value slice v u) (EP X pins σ Q) X.xe s
def DN (X:Cx) (id:String) (r:V->List V->Hp->VK->Prop):Prop :=
 ∀ (pins:List (Addr×Obj)) (s:Shared) (σ:St) (H:Hp) (x:V) (xs:List V) (v:Value) (us:List Value) (Q:VK),Inv X pins σ H s->RelV x v->Vals xs us->r x xs H Q ->
  wpAny (model X.prog X.w) X.A (call (.builtin id) (v::us)) (EP X pins σ Q) X.xe s
section
variable {X:Cx} {a b:Expr} {ta tb:TE} {pos:Pos}
theorem yO.or {r r':R2} (h:yO X r) (h':yO X r'):yO X (fun x y H Q=>r x y H Q\/r' x y H Q):=by
 intro value slice pins s σ H x y v u Q I rx ry q hs;rcases q with q | q
 ·exact h value slice pins s σ H x y v u Q I rx ry q hs
 ·exact h' value slice pins s σ H x y v u Q I rx ry q hs
theorem pe_ix {r:R2} (hr:yO X r) (ha:PE X a ta) (hb:PE X b tb) (hs:oE b):PE X (.Subscript a b pos) (Ag r ta tb):=by
 intro pins s σ H Q I h;exact Subscript_ (binT ha hb I h fun v u s2 x y H2 I2 rx ry q=>hr a b pins s2 σ H2 x y v u Q I2 rx ry q (hs _ _))
noncomputable def rIxL (K:PySem.W.Frag):R2:=fun x y H Q=>∃p xs i v,x=.ref p/\y=.int i/\fV K H p xs/\kD xs i=some v/\Q v H
noncomputable def rIxT (K:PySem.W.Frag):R2:=fun x y H Q=>∃p xs i v,x=.ref p/\y=.int i/\cK K H p xs/\kD xs i=some v/\Q v H
noncomputable def rIxS:R2:=fun x y H Q=>∃z i c,x=.str z/\y=.int i/\z.length<=sizeLine/\kD z.cps.toList i=some c/\Q (.str ⟨#[c]⟩) H
theorem yP:yO X (rIxL X.K):=by
 intro value slice pins s σ H x y v u Q I rx ry h hs;obtain⟨p,xs,i,z,rfl,rfl,hq,he,q⟩:=h;cases rx;obtain⟨t,rfl⟩:=ry;obtain⟨its,r,pl,hz⟩:=I.list hq;obtain⟨j,h1,h2,h3,h4,h5⟩:=oA he;obtain⟨w,ew,rw'⟩:=r.get h2;have hl:=r.length;have hn:=iB;have fin:EP X pins σ Q w s:=⟨z,H,I,rw',q⟩
 by_cases h0:0<=i
 ·have hj:i.toNat=j:=by
   rw[seqIndex_of h0 h5] at h1;exact Option.some.inj h1
  exact item_listR pl.isList h0 (by lia) (by rw[hj]; simpa using ew) fin hs
 ·have hj:(i+(its.toArray.size:Int)).toNat=j:=by
   rw[seqIndex_neg (by lia) h4] at h1
   rw[List.size_toArray,<-hl];exact Option.some.inj h1
  exact subscriptTail_builtinR (x:=w) pl.isList.typeIs slot_list_getitem.lookup
   (wpAny_getItem_list_neg (Q:=fun r s'=>r=w/\EP X pins σ Q r s') pl.isList (by lia) (by rw[List.size_toArray] <;> lia) (by lia) (by rw[hj]; simpa using ew) ⟨rfl,fin⟩) hs
theorem A8:yO X (rIxT X.K):=by
 intro value slice pins s σ H x y v u Q I rx ry h hs;obtain⟨p,xs,i,z,rfl,rfl,hq,he,q⟩:=h;cases rx;obtain⟨t,rfl⟩:=ry;obtain⟨its,r,pl,hz⟩:=I.tuple hq;obtain⟨j,h1,h2,h3,h4,h5⟩:=oA he;obtain⟨w,ew,rw'⟩:=r.get h2;have hl:=r.length;have hn:=iB;have fin:EP X pins σ Q w s:=⟨z,H,I,rw',q⟩;exact subscriptTail_builtinR (x:=w) pl.typeIs slot_tuple_getitem.lookup
  (getItem_tuple (j:=j) (Q:=fun r s'=>r=w/\EP X pins σ Q r s') pl (by lia) (by lia) (by rw[List.size_toArray,<-hl]; exact h1) (by simpa using ew) ⟨rfl,fin⟩) hs
theorem A9:yO X rIxS:=by
 intro value slice pins s σ H x y v u Q I rx ry h hs;obtain⟨z,i,c,rfl,rfl,hz,he,q⟩:=h;obtain⟨t,rfl⟩:=rx;obtain⟨t',rfl⟩:=ry;obtain⟨j,h1,h2,h3,h4,h5⟩:=oA he;have hl:z.cps.toList.length=z.length:=by simp[Str.length]
 rw[hl] at h1 h4 h5;have hn:=iB;exact tail_any (typeIs_str s z t) slot_str_getitem.lookup (getItem_str (c:=c) (by
  have e1:decide (i < -(2 ^ 63:Int))=false:=decide_eq_false (by lia)
  have e2:decide (i>=2 ^ 63)=false:=decide_eq_false (by lia)
  rw[e1,e2,Bool.or_false]) (by rw[h1]; simpa using h2) ⟨.str ⟨#[c]⟩,H,I.tok _,⟨_,rfl⟩,q⟩) hs
noncomputable def Dy (K:PySem.W.Frag):R2:=fun x y H Q=>rIxL K x y H Q\/rIxT K x y H Q\/rIxS x y H Q
theorem Ba:yO X (Dy X.K):=yP.or (A8.or A9)
theorem rF (its:List Value) (n j:Nat) (u:Value):Obj.mapSeq (·.setIfInBounds j u) { cls:=.type "list",data:=.seq its.toArray n }={ cls:=.type "list",data:=.seq (its.set j u).toArray n }:=by
 simp[Obj.mapSeq]
theorem Inv.lst {pins:List (Addr×Obj)} {σ:St} {H:Hp} {s:Shared} {p:Addr} {xs:List V} (I:Inv X pins σ H s) (h:H p=some (.lst xs)) :
  ∃ (its:List Value) (n:Nat),Vals xs its/\s.heap.get? p=some { cls:=.type "list",data:=.seq its.toArray n }/\xs.length<=sizeLine:=by
 obtain⟨z,its,n,r,e⟩:=I.hok p _ h;exact⟨its,n,r,e,z⟩
theorem Inv.Bb {pins:List (Addr×Obj)} {σ:St} {H:Hp} {s:Shared} {p:Addr} {xs ys:List V} {its its':List Value} {n n':Nat} {f:Obj->Obj} (I:Inv X pins σ H s) (h:H p=some (.lst xs))
  (ho:s.heap.get? p=some { cls:=.type "list",data:=.seq its.toArray n }) (hf:f { cls:=.type "list",data:=.seq its.toArray n }={ cls:=.type "list",data:=.seq its'.toArray n' }) (r:Vals ys its') (hz:ys.length<=sizeLine) (t:Nat) :
  Inv X pins σ (upd H p (.lst ys)) { s with heap:=s.heap.update p f,toks:=t }:=by
 have e:(s.heap.update p f).get? p=some { cls:=.type "list",data:=.seq its'.toArray n' }:=by
  rw[Heap.get?_update_self f ho (by rw[hf] <;> rfl),hf]
 refine I.write (x:=p) (e:=p) (by rw[h]; trivial) (.inl rfl) (fun b u hb q=>(Heap.get?_update_other _ _ (Ne.symm hb)).trans q) ⟨_,e⟩ ?_
 exact⟨hz,its',n',r,e⟩
def qe:V->V->V->Hp->(Hp->Prop)->Prop:=fun o i v H Q=>∃p xs k j,o=.ref p/\i=.int k/\H p=some (.lst xs)/\uI xs.length k=some j/\Q (upd H p (.lst (xs.set j v)))
theorem set_list:PSet X qe:=by
 intro pins s σ H o i v ov iv u Q I ro ri rv h;obtain⟨p,xs,k,j,rfl,rfl,hp,hj,q⟩:=h;cases ro;obtain⟨t,rfl⟩:=ri;obtain⟨its,n,r,ho,hz⟩:=I.lst hp;obtain⟨h1,h2,h3,h4⟩:=sY hj;have hl:=r.length;have hn:=iB;have I':Inv X pins σ (upd H p (.lst (xs.set j v))) { s with heap:=s.heap.update p (Obj.mapSeq (·.setIfInBounds j u)) } :=
  I.Bb hp ho (rF its n j u) (r.set rv j) (by rw[List.length_set]; exact hz) s.toks
 by_cases h0:0<=k
 ·have hk:k.toNat=j:=by
   rw[seqIndex_of h0 h4] at h1;exact Option.some.inj h1
  exact PySem.W.ki_setAt ho h0 (by lia) (by rw[List.size_toArray,<-hl]; exact h4) (by rw[hk]; exact⟨_,I',q⟩)
 ·have hk:(k+(its.toArray.size:Int)).toNat=j:=by
   rw[seqIndex_neg (by lia) h3] at h1
   rw[List.size_toArray,<-hl];exact Option.some.inj h1
  exact PySem.W.ki_setBack ho (by lia) (by rw[List.size_toArray,<-hl]; exact h3) (by lia) (by rw[hk]; exact⟨_,I',q⟩)
theorem oF (lo hi:Option Int) (n:Nat):(sliceBounds lo hi none n).1=((HT.cg n 0 lo:Nat):Int)/\(sliceBounds lo hi none n).2.1=((HT.cg n n hi:Nat):Int)/\(sliceBounds lo hi none n).2.2=1:=by
 refine⟨?_,?_,rfl⟩
 ·cases lo with
  | none=>simp[sliceBounds,HT.cg]
  | some i =>
   simp only[sliceBounds,HT.cg,Option.getD_none,show (1:Int)>0 by decide,if_true]
   by_cases h:i<0
   ·simp only[h,if_true] <;> lia
   ·simp only[h,if_false] <;> lia
 ·cases hi with
  | none=>simp[sliceBounds,HT.cg]
  | some i =>
   simp only[sliceBounds,HT.cg,Option.getD_none,show (1:Int)>0 by decide,if_true]
   by_cases h:i<0
   ·simp only[h,if_true] <;> lia
   ·simp only[h,if_false] <;> lia
theorem mK (its:List Value) (lo hi:Option Int):slicePick its.toArray lo hi none=((its.drop (HT.cg its.length 0 lo)).take (HT.cg its.length its.length hi-HT.cg its.length 0 lo)).toArray:=by
 obtain⟨h1,h2,h3⟩:=oF lo hi its.toArray.size;unfold slicePick;rw[h1,h2,h3];simp only[sliceRange_one,pick_run,List.size_toArray] <;> rfl
def rSlL (K:PySem.W.Frag):V->Option Int->Option Int->Hp->VK->Prop:=fun x lo hi H Q=>∃a xs,x=.ref a/\fV K H a xs/\∀p,H p=none->Q (.ref p) (upd H p (.lst (kC xs lo hi)))
theorem yQ:yL X (rSlL X.K):=by
 intro pins s σ H x v vl vu lo hi sl Q I rx hs pl pu h;obtain⟨a,xs,rfl,hx,q⟩:=h;cases rx;obtain⟨its,r,ht,hz⟩:=I.list hx;have hlen:=r.length;refine⟨"list",_,slot_list_getitem.lookup,ht.isList.typeIs,?_⟩;refine wpAny_getItem_list_slice ht.isList hs pl pu .none (by simp) ?_ (by rw[List.size_toArray] <;> lia)
 rw[mK,<-hlen];refine⟨.ref s.heap.objs.size,_,I.laid (t':=s.toks) (o:=.lst (kC xs lo hi)) (fun b ob q=>Heap.get?_push_of_some _ q) (Nat.le_refl _) ?_,rfl,q _ (I.hok.fresh (Nat.le_refl _))⟩
 exact⟨Nat.le_trans (jP xs lo hi) hz,_,0,(r.drop (HT.cg xs.length 0 lo)).take (HT.cg xs.length xs.length hi-HT.cg xs.length 0 lo),Heap.get?_push_size _ rfl⟩
theorem oG:bI X (.builtin "len") (fun xs H Q=>∃p ys,xs=[.ref p]/\(fV X.K H p ys\/cK X.K H p ys)/\Q (.int ys.length) H):=by
 intro pins s σ H xs us Q I r h;obtain⟨p,ys,rfl,hq,q⟩:=h;obtain⟨u,rfl,rx⟩:=vals1 r;cases rx;have hn:=iB;rcases hq with hq | hq
 ·obtain⟨its,r',pl,hz⟩:=I.list hq
  have hlen:=r'.length;exact Calls.call_len_list pl.isList (by simp only[List.size_toArray] <;> lia) ⟨.int ys.length,H,I.tok _,⟨s.toks+1,by rw[List.size_toArray,hlen]⟩,q⟩
 ·obtain⟨its,r',pl,hz⟩:=I.tuple hq
  have hlen:=r'.length;exact len_tuple pl (by simp only[List.size_toArray] <;> lia) ⟨.int ys.length,H,I.tok _,⟨s.toks+1,by rw[List.size_toArray,hlen]⟩,q⟩
theorem oH:bI X (.builtin "len") (fun xs H Q=>∃z,xs=[.str z]/\z.length<=sizeLine/\Q (.int z.length) H):=by
 intro pins s σ H xs us Q I r h;obtain⟨z,rfl,hz,q⟩:=h;obtain⟨u,rfl,t,rfl⟩:=vals1 r;have hn:=iB;exact len_str (by lia) ⟨.int z.length,H,I.tok _,⟨_,rfl⟩,q⟩
theorem mL:bI X (.type "tuple") (fun xs H Q=>∃p ys,xs=[.ref p]/\((fV X.K H p ys/\∀l,H l=none->Q (.ref l) (upd H l (.tup ys)))\/(cK X.K H p ys/\Q (.ref p) H))):=by
 intro pins s σ H xs us Q I r h;obtain⟨p,ys,rfl,h⟩:=h;obtain⟨u,rfl,rx⟩:=vals1 r;cases rx;rcases h with⟨hq,q⟩ | ⟨hq,q⟩
 ·obtain⟨its,r',pl,hz⟩:=I.list hq
  have hlen:=r'.length;refine call_tuple_list pl.isList (fun h' kp => ?_) (by simp only[List.size_toArray] <;> lia)
  have I1:Inv X pins σ H { s with heap:=h' }:=I.kept (t':=s.toks) kp
  have I2:Inv X pins σ (upd H h'.objs.size (.tup ys)) { s with heap:=h'.push { cls:=.type "tuple",data:=.seq its.toArray } } :=
   I1.laid (t':=s.toks) (fun b o e=>Heap.get?_push_of_some _ e) (Nat.le_refl _) (show ck X.prog X.w _ _ _ (.tup ys) from⟨hz,its,r',IsTup.new _ _⟩)
  exact⟨.ref h'.objs.size,_,I2,rfl,q _ (I1.hok.fresh (Nat.le_refl _))⟩
 ·obtain⟨its,r',pl,hz⟩:=I.tuple hq
  exact call_tuple_same pl ⟨.ref p,H,I,rfl,q⟩
def Dz (K:PySem.W.Frag) (T:String) (x:V) (H:Hp):Prop:=match x with
 | .str _=>T = "str"
 | .int _=>T = "int"
 | .ref p=>(T = "list"/\∃xs,fV K H p xs)\/(T = "tuple"/\∃o,K.lookup p=some o/\o.cls=.type "tuple"/\o.dict=none) \/
   (T = "dict"/\((∃kvs,H p=some (.dK kvs))\/∃kvs,H p=some (.dT kvs)))\/(T = "set"/\∃S n,H p=some (.set S n))
 | _=>False
theorem Bc {pins:List (Addr×Obj)} {σ:St} {H:Hp} {s:Shared} {T:String} {x:V} {v:Value} (I:Inv X pins σ H s) (r:RelV x v) (ty:Dz X.K T x H) :
  s.TypeIs v T/\∀a,v=.ref a->∃ob,s.heap.get? a=some ob/\ob.dict=none:=by
 cases x with
 | str z =>
  obtain⟨t,rfl⟩:=r;cases (show T = "str" from ty)
  exact⟨typeIs_str s z t,fun _ e=>nomatch e⟩
 | int i =>
  obtain⟨t,rfl⟩:=r;cases (show T = "int" from ty)
  exact⟨typeIs_int s i t,fun _ e=>nomatch e⟩
 | ref p =>
  cases r;rcases ty with⟨rfl,xs,hq⟩ | ⟨rfl,o,hk,hc,hd⟩ | ⟨rfl,hk⟩ | ⟨rfl,S,n,hk⟩
  ·obtain⟨its,_,pl,_⟩:=I.list hq
   refine⟨pl.isList.typeIs,fun a e => ?_⟩
   cases e;obtain⟨o,n,e,c,hd,_⟩:=pl;exact⟨o,e,hd⟩
  ·refine⟨⟨o,I.uB p o hk,hc⟩,fun a e => ?_⟩
   cases e;exact⟨o,I.uB _ o hk,hd⟩
  ·have z:∃o,s.heap.get? p=some o/\o.ExactDict:=by
    rcases hk with⟨kvs,hk⟩ | ⟨kvs,hk⟩
    ·obtain⟨_,_,_,_,o,_,_,e,ex,_⟩:=I.hok p _ hk
     exact⟨o,e,ex⟩
    ·obtain⟨_,_,_,_,o,_,_,e,ex,_⟩:=I.hok p _ hk
     exact⟨o,e,ex⟩
   obtain⟨o,e,ex⟩:=z;refine⟨⟨o,e,ex.1⟩,fun a e2 => ?_⟩
   cases e2;exact⟨o,e,ex.2.1⟩
  ·obtain⟨o,_,_,_,e,ex,_⟩:=I.hok p _ hk
   refine⟨⟨o,e,ex.1⟩,fun a e2 => ?_⟩
   cases e2;exact⟨o,e,ex.2.1⟩
 | _=>exact False.elim ty
noncomputable def yp (K:PySem.W.Frag) (T:String) (r:V->List V->Hp->VK->Prop) (to:TE) (t:TA):TE:=fun σ H Q=>to σ H fun x H1=>Dz K T x H1/\t σ H1 fun xs H2=>r x xs H2 Q
variable {o e:Expr} {es:List Expr} {to:TE} {t:TA} {name:Str} {apos cpos:Pos} {T id:String} {r:V->List V->Hp->VK->Prop}
theorem iX (pa:PlainAttrs T) (slot:Slot T name id) (hty:typeOf (.builtin id)=pure (.type "method_descriptor")) (hm:DN X id r) (ho:PE X o to) (ha:PA X (e::es) t)
  (hbase:attributeBase o name X.env (eval o X.env)=eval o X.env:=by rfl)
  (hfew:((backTo cpos (starEach (e::es) X.env)).all (fun x => !x.1) && (backToKw cpos (keywordEach [] X.env)).all (fun x=>x.1.isSome)
   && decide ((e::es).length+([]:List Keyword).length+(if ([]:List Keyword).isEmpty then 0 else 1)<30))=true:=by rfl)
  (hline:(apos.endLine == cpos.line)=true:=by rfl) (hs:starEach (e::es) X.env=(false,eval e X.env)::starEach es X.env:=by rfl) (hplain:(backTo cpos (starEach es X.env)).any (·.1)=false:=by rfl) :
  PE X (.Call (.Attribute o name apos) (e::es) [] cpos) (yp X.K T r to t):=by
 intro pins s σ H Q I h;refine wpAny_Call_method_late hbase hfew hline rfl (bA (ho pins s σ H _ I h) fun v s1 ⟨x,H1,I1,r1,ty,q1⟩ => ?_)
 obtain⟨h1,h2⟩:=Bc I1 r1 ty;refine⟨T,id,pa,slot,hty,h1,h2,?_⟩;have hA:=ha cpos pins s1 σ H1 _ I1 q1;rw[hs] at hA ⊢;refine Calls.callWith_builtin (by show (false || (backTo cpos (starEach es X.env)).any (·.1))=false; rw[hplain] <;> rfl) (Calls.evalArgs_plain ?_)
 exact bA hA fun us s2 ⟨vs,H2,I2,r2,q2⟩=>hm pins s2 σ H2 x vs v us Q I2 r1 r2 q2
end
end L2
namespace L2
open PySem PySem.Spec PyProof.Rows
def Dj (X:Cx) (id:String) (r:V->List V->Hp->VK->Prop):Prop :=
 ∀ (pins:List (Addr×Obj)) (s:Shared) (σ:St) (H:Hp) (x:V) (xs:List V) (v:Value) (us:List Value) (Q:VK),Inv X pins σ H s->RelV x v->Vals xs us->r x xs H Q ->
  wpAny (model X.prog X.w) X.A (call (.builtin id) (v::us)) (EP X pins σ Q) X.xe s
theorem Vals.one:∀ {x:V} {us:List Value},Vals [x] us->∃u,us=[u]/\RelV x u:=by
 intro x us h;cases h with | cons r t =>
 cases t;exact⟨_,rfl,r⟩
theorem Vals.two:∀ {x y:V} {us:List Value},Vals [x,y] us->∃u v,us=[u,v]/\RelV x u/\RelV y v:=by
 intro x y us h;cases h with | cons r t =>
 obtain⟨v,rfl,q⟩:=Vals.one t;exact⟨_,_,rfl,r,q⟩
theorem Vals.rep {xs:List V} {us:List Value} (h:Vals xs us):∀k:Nat,Vals (List.replicate k xs).flatten (List.replicate k us).flatten
 | 0=>.nil
 | k+1=>by
  rw[List.replicate_succ,List.replicate_succ,List.flatten_cons,List.flatten_cons];exact Vals.append h (Vals.rep h k)
theorem foldl_rep (its:List Value):∀ (k:Nat) (acc:List Value),
  List.foldl (fun x1 x2=>x1++x2) acc.toArray (List.replicate k its.toArray)=(acc++(List.replicate k its).flatten).toArray
 | 0,acc=>by simp
 | k+1,acc=>by
  have e:acc.toArray++its.toArray=(acc++its).toArray:=by simp
  have e2:(acc++its)++(List.replicate k its).flatten=acc++(List.replicate (k+1) its).flatten:=by
   rw[List.replicate_succ,List.flatten_cons,List.append_assoc]
  rw[<-e2,<-foldl_rep its k (acc++its),<-e,List.replicate_succ,List.foldl_cons]
section
variable {X:Cx} {pins:List (Addr×Obj)} {σ:St} {H:Hp} {s:Shared} {l b:Addr} {xs ys zs:List V}
theorem Inv.lset {its its':List Value} {n:Nat} {f:Array Value->Array Value} {t':Nat} (I:Inv X pins σ H s) (hH:H l=some (.lst xs))
  (e:s.heap.get? l=some { cls:=.type "list",data:=.seq its.toArray n }) (hf:f its.toArray=its'.toArray) (hv:Vals ys its') (hz:ys.length<=sizeLine) :
  Inv X pins σ (upd H l (.lst ys)) { s with heap:=s.heap.update l (Obj.mapSeq f),toks:=t' }:=by
 have q:=PySem.IsL.update e f;rw[hf] at q;refine I.write (x:=l) (e:=l) (by rw[hH]; exact trivial) (.inl rfl) (fun b' u hb hu=>(Heap.get?_update_other s.heap (Obj.mapSeq f) (Ne.symm hb)).trans hu) ⟨_,q⟩ ?_
 exact⟨hz,its',_,hv,q⟩
theorem Inv.lnew {its:List Value} {t':Nat} (I:Inv X pins σ H s) (hv:Vals ys its) (hz:ys.length<=sizeLine) :
  Inv X pins σ (upd H s.heap.objs.size (.lst ys)) { s with heap:=s.heap.push { cls:=.type "list",data:=.seq its.toArray },toks:=t' } :=
 I.laid (fun _ _ q=>Heap.get?_push_of_some _ q) (Nat.le_refl _) ⟨hz,its,0,hv,Heap.get?_push_size _ rfl⟩
theorem Inv.fresh (I:Inv X pins σ H s):H s.heap.objs.size=none:=I.hok.fresh (Nat.le_refl _)
theorem Inv.rG (I:Inv X pins σ H s) (hH:H l=some (.lst xs)):xs.length<=sizeLine/\∃ (its:List Value) (n:Nat),Vals xs its/\xs.length=its.length/\s.heap.get? l=some { cls:=.type "list",data:=.seq its.toArray n }:=by
 obtain⟨z,its,n,r,e⟩:=I.hok l _ hH;exact⟨z,its,n,r,r.length,e⟩
theorem qf {n:Nat} (h:n<=sizeLine):Builtin.List.listTooLong n=false:=by
 unfold Builtin.List.listTooLong;exact decide_eq_false (by lia)
end
section
variable {X:Cx}
def gT:V->List V->Hp->VK->Prop:=fun x vs H Q=>∃l xs y,x=.ref l/\vs=[y]/\H l=some (.lst xs)/\xs.length<sizeLine/\Q .non (upd H l (.lst (xs++[y])))
theorem dO:Dj X "list.append" gT:=by
 intro pins s σ H x vs v us Q I rx rv h;obtain⟨l,xs,y,rfl,rfl,hH,hz,q⟩:=h;cases rx;obtain⟨u,rfl,ru⟩:=rv.one;obtain⟨z,its,n,r,hl,e⟩:=I.rG hH;refine call_meets F.slot_list_append ⟨_,e,rfl⟩ F.entry_list_append (F.args_list_append_2 _ _) (PySem.list_append l its.toArray n u (by rw[List.size_toArray]; lia)) ⟨e,?_⟩
 refine⟨.non,_,I.lset (its':=its++[u]) hH e (by simp) (r.append (.cons ru .nil)) ?_,rfl,q⟩
 rw[List.length_append,List.length_singleton];lia
def oJ:V->List V->Hp->VK->Prop:=fun x vs H Q=>∃l b xs zs,x=.ref l/\vs=[.ref b]/\H l=some (.lst xs)/\H b=some (.lst zs)/\xs.length+zs.length<=sizeLine/\Q .non (upd H l (.lst (xs++zs)))
theorem jA:Dj X "list.extend" oJ:=by
 intro pins s σ H x vs v us Q I rx rv h;obtain⟨l,b,xs,zs,rfl,rfl,hH,hB,hz,q⟩:=h;cases rx;obtain⟨u,rfl,ru⟩:=rv.one;cases ru;obtain⟨z,its,n,r,hl,e⟩:=I.rG hH;obtain⟨z2,its2,n2,r2,hl2,e2⟩:=I.rG hB;have hsz:its.toArray.size+its2.toArray.size<=sizeLine:=by rw[List.size_toArray,List.size_toArray]; lia
 have hlong:¬ (!its.toArray.isEmpty && Builtin.List.listTooLong (its.toArray.size+its2.toArray.size))=true:=by
  rw[qf hsz,Bool.and_false];exact Bool.false_ne_true
 refine call_meets F.slot_list_extend ⟨_,e,rfl⟩ F.entry_list_extend (F.args_list_extend_2 _ _)
  (AutoSeq1.list_extend_list_list_0 l its.toArray n b its2.toArray n2 hlong (by rw[List.size_toArray]; lia) (by lia)) ⟨e,e2,?_⟩
 refine⟨.non,_,I.lset (its':=its++its2) hH e (by simp) (r.append r2) ?_,rfl,q⟩
 rw[List.length_append];lia
noncomputable def rCat:R2:=fun x y H Q=>∃l b xs zs,x=.ref l/\y=.ref b/\H l=some (.lst xs)/\H b=some (.lst zs)/\xs.length+zs.length<=sizeLine/\∀p,H p=none->Q (.ref p) (upd H p (.lst (xs++zs)))
theorem Bd:di X (binaryOp .Add) rCat:=by
 intro pins s σ H x y v u Q I rx ry h;obtain⟨l,b,xs,zs,rfl,rfl,hH,hB,hz,q⟩:=h;cases rx;cases ry;obtain⟨z,its,n,r,hl,e⟩:=I.rG hH;obtain⟨z2,its2,n2,r2,hl2,e2⟩:=I.rG hB;refine PySem.P.add_list e e2 ?_ (by rw[List.size_toArray,List.size_toArray]; lia)
 have ea:its.toArray++its2.toArray=(its++its2).toArray:=by simp
 rw[ea];exact⟨.ref _,_,I.lnew (t':=s.toks) (r.append r2) (by rw[List.length_append]; lia),rfl,q _ I.fresh⟩
noncomputable def rRep:R2:=fun x y H Q=>∃l k xs,x=.ref l/\y=.int k/\H l=some (.lst xs)/\-(2 ^ 63)<=k/\k<2 ^ 63/\xs.length*k.toNat<=sizeLine /\
 ∀p,H p=none->Q (.ref p) (upd H p (.lst (List.replicate k.toNat xs).flatten))
theorem len_rep {α:Type} (xs:List α) (k:Nat):(List.replicate k xs).flatten.length=k*xs.length:=by
 induction k with
 | zero=>simp
 | succ k ih=>rw[List.replicate_succ,List.flatten_cons,List.length_append,ih,Nat.succ_mul,Nat.add_comm]
theorem Be:di X (binaryOp .Mult) rRep:=by
 intro pins s σ H x y v u Q I rx ry h;obtain⟨l,k,xs,rfl,rfl,hH,h1,h2,hz,q⟩:=h;cases rx;obtain⟨t,rfl⟩:=ry;obtain⟨z,its,n,r,hl,e⟩:=I.rG hH;have hlen:its.toArray.size*k.toNat<=sizeLine:=by rw[List.size_toArray,<-hl]; exact hz
 have hcap:¬its.toArray.size*k.toNat>(2 ^ 63-1) / 8:=by
  have:(sizeLine:Nat)<=(2 ^ 63-1) / 8:=by decide
  lia
 have hfit:¬ (!Builtin.List.listFitsIndex k)=true:=by
  rw[fitsIndex_both h1 h2];exact Bool.false_ne_true
 have hlong:¬Builtin.List.listTooLong (its.toArray.size*k.toNat)=true:=by
  rw[qf hlen];exact Bool.false_ne_true
 have hnew:List.foldl (fun x1 x2=>x1++x2) #[] (List.replicate (if its.toArray.isEmpty=true then 0 else k.toNat) its.toArray)=(List.replicate k.toNat its).flatten.toArray:=by
  have f0:∀m:Nat,List.foldl (fun x1 x2=>x1++x2) #[] (List.replicate m its.toArray)=(List.replicate m its).flatten.toArray:=fun m=>by
   have:=foldl_rep its m [];rw[List.nil_append] at this;exact this
  rw[f0];cases its with
  | nil=>simp
  | cons a r'=>rw[if_neg (by simp)]
 refine wpAny_binaryOp_repeat_ref (T := "list") (U := "int") (by decide) ⟨_,e,rfl⟩ (fun s'=>typeIs_int s' k t) noFill_list_mul F.fills_int_mul F.slot_int_rmul repeat_list F.slot_int_index.lookup
  (call_meets F.slot_int_rmul (typeIs_int s k t) F.entry_int_rmul (F.args_int_rmul_2 _ _) (int___rmul___int_list k t l its.toArray n)
   ⟨e,rfl,⟨_,e,rfl⟩,call_meets F.slot_list_mul ⟨_,e,rfl⟩ F.entry_list_mul (F.args_list_mul_2 _ _) (AutoListH.list___mul___list_int_3 l its.toArray n k t hfit hcap hlong) ⟨e,?_⟩⟩)
 rw[hnew];exact⟨.ref _,_,I.lnew (t':=s.toks) (r.rep k.toNat) (by rw[len_rep,Nat.mul_comm]; exact hz),rfl,q _ I.fresh⟩
end
end L2
namespace L2
open PySem PySem.Spec PyProof.Rows
section
variable {κ:Type} [DecidableEq κ]
noncomputable def fE (kvs:List (κ×V)) (k:κ):Option V:=(kvs.find? fun kv=>decide (kv.1=k)).map (·.2)
noncomputable def putK (kvs:List (κ×V)) (k:κ) (v:V):List (κ×V) :=
 if (kvs.any fun kv=>decide (kv.1=k))=true then kvs.map (fun kv=>if kv.1=k then (kv.1,v) else kv) else kvs++[(k,v)]
theorem dP {p:κ×V} {r:List (κ×V)} {k:κ} (e:p.1=k):fE (p::r) k=some p.2:=by simp[fE,List.find?_cons,e]
theorem dQ {p:κ×V} {r:List (κ×V)} {k:κ} (e:¬p.1=k):fE (p::r) k=fE r k:=by simp[fE,List.find?_cons,e]
theorem qg (k:κ):∀kvs:List (κ×V),(kvs.any fun kv=>decide (kv.1=k))=(fE kvs k).isSome
 | []=>rfl
 | p::r=>by
  rw[List.any_cons]
  by_cases e:p.1=k
  ·simp only[dP e,decide_eq_true e,Bool.true_or,Option.isSome_some]
  ·rw[dQ e,decide_eq_false e,Bool.false_or]; exact qg k r
theorem gx (kvs:List (κ×V)) (k:κ) (v:V):(putK kvs k v).length<=kvs.length+1:=by
 unfold putK
 split
 ·rw[List.length_map]; lia
 ·rw[List.length_append,List.length_cons,List.length_nil]; lia
theorem mF.fG {o:Option V} {u:Option Value} (r:mF o u):o.isSome=u.isSome:=by
 cases o with
 | none=>cases u with
  | none=>rfl
  | some _=>exact (show False from r).elim
 | some _=>cases u with
  | none=>exact (show False from r).elim
  | some _=>rfl
theorem KV.val {kvs:List (κ×V)} {vs:List (κ×Value)} (r:KV kvs vs) (k:κ):mF (fE kvs k) (valueAt vs k):=by
 unfold KV at r
 induction r with
 | nil=>exact True.intro
 | @cons p q ps qs h t ih =>
  obtain⟨h1,h2⟩:=h
  by_cases e:p.1=k
  ·have e':q.1=k:=h1.symm.trans e
   have b:valueAt (q::qs) k=some q.2:=by simp[valueAt,List.find?_cons,e']
   rw[dP e,b]; exact h2
  ·have e':¬q.1=k:=fun z=>e (h1.trans z)
   have b:valueAt (q::qs) k=valueAt qs k:=by simp[valueAt,List.find?_cons,e']
   rw[dQ e,b]; exact ih
theorem KV.any {kvs:List (κ×V)} {vs:List (κ×Value)} (r:KV kvs vs) (k:κ):(kvs.any fun kv=>decide (kv.1=k))=vs.any fun kv=>decide (kv.1=k):=by
 unfold KV at r
 induction r with
 | nil=>rfl
 | cons h t ih=>rw[List.any_cons,List.any_cons,ih,h.1]
theorem KV.repl {kvs:List (κ×V)} {vs:List (κ×Value)} (r:KV kvs vs) (k:κ) {y:V} {u:Value} (ry:RelV y u) :
  KV (kvs.map fun kv=>if kv.1=k then (kv.1,y) else kv) (vs.map fun kv=>if kv.1=k then (kv.1,u) else kv):=by
 unfold KV at r ⊢
 induction r with
 | nil=>exact .nil
 | @cons p q ps qs h t ih =>
  rw[List.map_cons,List.map_cons];refine .cons ?_ ih;obtain⟨h1,h2⟩:=h
  by_cases e:p.1=k
  ·rw[if_pos e,if_pos (h1.symm.trans e)]; exact⟨h1,ry⟩
  ·rw[if_neg e,if_neg (fun z=>e (h1.trans z))]; exact⟨h1,h2⟩
theorem KV.put {kvs:List (κ×V)} {vs:List (κ×Value)} (r:KV kvs vs) (k:κ) {y:V} {u:Value} (ry:RelV y u):KV (putK kvs k y) (stored vs k u):=by
 unfold putK stored;rw[r.any k]
 by_cases e:(vs.any fun kv=>decide (kv.1=k))=true
 ·rw[if_pos e,if_pos e]; exact r.repl k ry
 ·rw[if_neg e,if_neg e]; exact Paired.snoc r ⟨rfl,ry⟩
theorem KV.length {kvs:List (κ×V)} {vs:List (κ×Value)} (r:KV kvs vs):kvs.length=vs.length:=Paired.length r
end
theorem nC {P:Program} {w:World} {k:Key} {u:Value} (r:RelV (kV k) u):(bK P w).is k u=true:=by
 cases k with
 | inl i=>obtain⟨t,e⟩:=(show ∃t,u=Value.int i t from r); subst e; exact pU P w i t
 | inr x=>obtain⟨t,e⟩:=(show ∃t,u=Value.str x t from r); subst e; exact pW P w x t
theorem nD {P:Program} {w:World}:∀ {ks:List Key} {us:List Value},Vals (ks.map kV) us->ItemsAre (bK P w) ks us
 | [],_,r=>by rw[List.map_nil] at r; cases r; exact .nil
 | k::ks,_,r=>by
  rw[List.map_cons] at r;cases r with
  | cons h t=>exact .cons (nC h) (nD t)
abbrev KT (H:Hp):List (List Key×V)->List (List Key×Addr×Value)->Prop:=Paired fun p q=>p.1=q.1/\H q.2.1=some (.tup (p.1.map kV))/\RelV p.2 q.2.2
theorem KT.val {H:Hp} {kvs:List (List Key×V)} {xs:List (List Key×Addr×Value)} (r:KT H kvs xs) (k:List Key):mF (fE kvs k) ((atKey xs k).map (·.2)):=by
 induction r with
 | nil=>exact True.intro
 | @cons p q ps qs h t ih =>
  obtain⟨h1,_,h2⟩:=h
  by_cases e:p.1=k
  ·have e':q.1=k:=h1.symm.trans e
   have b:atKey (q::qs) k=some q.2:=by simp[atKey,List.find?_cons,e']
   rw[dP e,b]; exact h2
  ·have e':¬q.1=k:=fun z=>e (h1.trans z)
   have b:atKey (q::qs) k=atKey qs k:=by simp[atKey,List.find?_cons,e']
   rw[dQ e,b]; exact ih
theorem KT.repl {H:Hp} {kvs:List (List Key×V)} {xs:List (List Key×Addr×Value)} (r:KT H kvs xs) (k:List Key) {y:V} {u:Value} (ry:RelV y u) :
  KT H (kvs.map fun kv=>if kv.1=k then (kv.1,y) else kv) (xs.map (putAt k u)):=by
 induction r with
 | nil=>exact .nil
 | @cons p q ps qs h t ih =>
  rw[List.map_cons,List.map_cons];refine .cons ?_ ih;obtain⟨h1,h2,h3⟩:=h;unfold putAt
  by_cases e:p.1=k
  ·rw[if_pos e,if_pos (h1.symm.trans e)]; exact⟨h1,h2,ry⟩
  ·rw[if_neg e,if_neg (fun z=>e (h1.trans z))]; exact⟨h1,h2,h3⟩
theorem KT.put {H:Hp} {kvs:List (List Key×V)} {xs:List (List Key×Addr×Value)} (r:KT H kvs xs) (k:List Key) {b:Addr} {y:V} {u:Value} (hb:H b=some (.tup (k.map kV))) (ry:RelV y u) :
  KT H (putK kvs k y) (storedH xs k b u):=by
 have e:(kvs.any fun kv=>decide (kv.1=k))=(atKey xs k).isSome:=by
  rw[qg,(r.val k).fG,Option.isSome_map]
 unfold putK storedH;rw[e]
 by_cases q:(atKey xs k).isSome=true
 ·rw[if_pos q,if_pos q]; exact r.repl k ry
 ·rw[if_neg q,if_neg q]; exact Paired.snoc r ⟨rfl,hb,ry⟩
theorem KT.keeps {H H':Hp} {kvs:List (List Key×V)} {xs:List (List Key×Addr×Value)} (r:KT H kvs xs) (ht:∀b ys,H b=some (.tup ys)->H' b=some (.tup ys)):KT H' kvs xs :=
 Paired.mapP r fun _ _ z=>⟨z.1,ht _ _ z.2.1,z.2.2⟩
section
variable {P:Program} {w:World} {H:Hp} {h:Heap} {a:Addr}
theorem Aj {u:HO} (ok:iA P w H h) (e:Rd H a u):ck P w H h a u:=e.ok ok
theorem nE {kvs:List (Key×V)} (ok:iA P w H h) (e:Rd H a (.dK kvs)):kvs.length<=sizeLine/\(a == sysModules)=false/\∃vs,KV kvs vs/\h.DictOf (bK P w) a vs :=
 show ck P w H h a (.dK kvs) from Aj ok e
theorem v9 {kvs:List (Key×V)} (ok:iA P w H h) (e:H a=some (.dK kvs)):kvs.length<=sizeLine/\(a == sysModules)=false/\∃vs,KV kvs vs/\h.DictOf (bK P w) a vs:=nE ok (.inl e)
theorem kE {ks:List Key} (ok:iA P w H h) (e:H a=some (.tup (ks.map kV))):(tupleKind (bK P w)).is h ks a:=by
 obtain⟨_,its,r,o,h1,h2,n,h3⟩:=(show ck P w H h a (.tup (ks.map kV)) from ok a _ e)
 exact⟨o,its.toArray,n,h1,h2,h3,by simpa using nD r⟩
theorem qh {kvs:List (List Key×V)} (ok:iA P w H h) (e:Rd H a (.dT kvs)):kvs.length<=sizeLine/\(a == sysModules)=false /\
  ∃xs,KT H kvs xs/\h.DictOfH (tupleKind (bK P w)) a xs:=by
 obtain⟨z,y,xs,r,o,es,ep,h1,h2,h3,h4,h5⟩:=(show ck P w H h a (.dT kvs) from Aj ok e)
 refine⟨z,y,xs,r,o,es,ep,h1,h2,h3,h4,fun x hx => ?_,h5⟩
 have all:∀ {l:List (List Key×V)} {m:List (List Key×Addr×Value)},KT H l m->∀x∈m,(tupleKind (bK P w)).is h x.1 x.2.1:=by
  intro l m q
  induction q with
  | nil=>intro x hx; exact nomatch hx
  | @cons p q ps qs hq t ih =>
   intro x hx;rcases lK hx with e | hx
   ·subst e
    exact kE ok (by rw[<-hq.1]; exact hq.2.1)
   ·exact ih x hx
 exact all r x hx
theorem dt_of {kvs:List (List Key×V)} (ok:iA P w H h) (e:H a=some (.dT kvs)):kvs.length<=sizeLine/\(a == sysModules)=false /\
  ∃xs,KT H kvs xs/\h.DictOfH (tupleKind (bK P w)) a xs:=qh ok (.inl e)
end
def iC (H:Hp) (a:Addr) (y:V) (r:Option V):Prop :=
 (∃kvs k,Rd H a (.dK kvs)/\y=kV k/\r=fE kvs k)\/∃kvs k b,Rd H a (.dT kvs)/\y=.ref b/\H b=some (.tup (k.map kV))/\r=fE kvs k
def wc (H:Hp) (a:Addr) (y v:V) (H':Hp):Prop :=
 (∃kvs k,H a=some (.dK kvs)/\y=kV k/\kvs.length<sizeLine/\H'=upd H a (.dK (putK kvs k v))) \/
 ∃kvs k b,H a=some (.dT kvs)/\y=.ref b/\H b=some (.tup (k.map kV))/\kvs.length<sizeLine/\H'=upd H a (.dT (putK kvs k v))
theorem iC.k {H:Hp} {a:Addr} {kvs:List (Key×V)} {k:Key} (e:H a=some (.dK kvs)):iC H a (kV k) (fE kvs k):=.inl ⟨kvs,k,.inl e,rfl,rfl⟩
theorem wc.k {H:Hp} {a:Addr} {kvs:List (Key×V)} {k:Key} {v:V} (e:H a=some (.dK kvs)) (hl:kvs.length<sizeLine):wc H a (kV k) v (upd H a (.dK (putK kvs k v))):=.inl ⟨kvs,k,e,rfl,hl,rfl⟩
section
variable {X:Cx} {pins:List (Addr×Obj)} {σ:St} {H:Hp} {s:Shared} {a:Addr} {y v:V} {u r:Value} {o:Option V} {A:Around} {E:Value->Shared->Prop}
theorem Inv.big (I:Inv X pins σ H s):sysModules<s.heap.objs.size:=by
 have h:mainGlobals<s.heap.objs.size:=(I.mod.glob.keeps I.bk).lt;exact Nat.lt_trans (by decide) h
theorem uJ {Q:Value->Shared->Prop} (hu:A.units+1<cLine) (I:Inv X pins σ H s) (g:iC H a y (some v)) (ry:RelV y u) (h:∀w' s',Inv X pins σ H s'->RelV v w'->Q w' s') :
  wpAny (model X.prog X.w) A (getItem (.ref a) u) Q E s:=by
 rcases g with⟨kvs,k,e,ey,l⟩ | ⟨kvs,k,b,e,ey,eb,l⟩
 ·subst ey
  obtain⟨z,hd,vs,rel,dd⟩:=nE I.hok e;obtain⟨w',hw,rw'⟩:=mF.some_of (v:=v) (o:=valueAt vs k) (by rw[l]; exact rel.val k)
  exact wpAny_getItem_of (nC ry) dd.mapOf hw (h w' _ (I.tok _) rw')
 ·subst ey
  cases (show u=Value.ref b from ry)
  obtain⟨z,hd,xs,rel,dd⟩:=qh I.hok e;obtain⟨w',hw,rw'⟩:=mF.some_of (v:=v) (o:=(atKey xs k).map (·.2)) (by rw[l]; exact rel.val k)
  obtain⟨p,hp,hp2⟩:=Option.map_eq_some_iff.mp hw;refine wpAny_getItem_heap (tupleKind_room_in1 hu) (kE I.hok eb) dd hp ?_;rw[hp2];exact h w' _ (I.tok _) rw'
theorem d_in {Q:Value->Shared->Prop} (hu:A.units+1<cLine) (I:Inv X pins σ H s) (g:iC H a y o) (ry:RelV y u) (h:∀s',Inv X pins σ H s'->Q (.bool o.isSome) s') :
  wpAny (model X.prog X.w) A (compareOp .In u (.ref a)) Q E s:=by
 rcases g with⟨kvs,k,e,ey,l⟩ | ⟨kvs,k,b,e,ey,eb,l⟩
 ·subst ey
  obtain⟨z,hd,vs,rel,dd⟩:=nE I.hok e;refine wpAny_in_of (nC ry) hd dd.mapOf ?_;rw[<-(rel.val k).fG,<-l];exact h _ (I.tok _)
 ·subst ey
  cases (show u=Value.ref b from ry)
  obtain⟨z,hd,xs,rel,dd⟩:=qh I.hok e;refine wpAny_in_heap (tupleKind_room_in1 hu) (kE I.hok eb) hd dd ?_;have q:=(rel.val k).fG;rw[Option.isSome_map] at q;rw[<-q,<-l];exact h _ (I.tok _)
theorem yR {Q:Value->Shared->Prop} (hu:A.units+1<cLine) (I:Inv X pins σ H s) (g:iC H a y o) (ry:RelV y u) (h:∀s',Inv X pins σ H s'->Q (.bool (!o.isSome)) s') :
  wpAny (model X.prog X.w) A (compareOp .NotIn u (.ref a)) Q E s:=by
 rcases g with⟨kvs,k,e,ey,l⟩ | ⟨kvs,k,b,e,ey,eb,l⟩
 ·subst ey
  obtain⟨z,hd,vs,rel,dd⟩:=nE I.hok e;refine wpAny_notIn_of (nC ry) hd dd.mapOf ?_;rw[<-(rel.val k).fG,<-l];exact h _ (I.tok _)
 ·subst ey
  cases (show u=Value.ref b from ry)
  obtain⟨z,hd,xs,rel,dd⟩:=qh I.hok e;refine wpAny_notIn_heap (tupleKind_room_in1 hu) (kE I.hok eb) hd dd ?_;have q:=(rel.val k).fG;rw[Option.isSome_map] at q;rw[<-q,<-l];exact h _ (I.tok _)
theorem oK {h':Heap} {t':Nat} {ob:HO} (I:Inv X pins σ H s) (mu:CO (H a)) (hs:Heap.SameBut a s.heap h') (he:∃q,h'.get? a=some q) (new:ck X.prog X.w (upd H a ob) h' a ob) :
  Inv X pins σ (upd H a ob) { s with heap:=h',toks:=t' } :=
 I.write (x:=a) (e:=a) mu (.inl rfl) (fun b q hb z=>(hs.2 b hb).trans z) he new
theorem we {P:Program} {w:World} {H':Hp} {h':Heap} {kvs:List (Key×V)} {vs:List (Key×Value)} (z:kvs.length<=sizeLine) (hd:(a == sysModules)=false) (rel:KV kvs vs) (dd:h'.DictOf (bK P w) a vs) :
  ck P w H' h' a (.dK kvs):=⟨z,hd,vs,rel,dd⟩
theorem uK {H':Hp} {Q:Unit->Shared->Prop} (hu:A.units+1<cLine) (I:Inv X pins σ H s) (g:wc H a y v H') (ry:RelV y u) (rv:RelV v r) (h:∀s',Inv X pins σ H' s'->Q () s') :
  wpAny (model X.prog X.w) A (setItem (.ref a) u r) Q E s:=by
 rcases g with⟨kvs,k,e,ey,l,eH⟩ | ⟨kvs,k,b,e,ey,eb,l,eH⟩
 ·subst ey eH
  obtain⟨z,hd,vs,rel,dd⟩:=v9 I.hok e;have hz:vs.length<=sizeLine:=by rw[<-rel.length]; exact z
  have hl:(putK kvs k v).length<=sizeLine:=by have:=gx kvs k v; lia
  refine wpAny_setItem_pairs (hsz:=hz) (nC ry) dd fun h' dd' hs=>h _ ?_
  have he:∃q,h'.get? a=some q:=let ⟨q,_,_,hq,_⟩:=dd'; ⟨q,hq⟩;exact oK I (by rw[e]; exact True.intro) hs he (we hl hd (rel.put k rv) dd')
 ·subst ey eH
  cases (show u=Value.ref b from ry)
  obtain⟨z,hd,xs,rel,dd⟩:=dt_of I.hok e;have hz:xs.length<=sizeLine:=by rw[<-Paired.length rel]; exact z
  have hl:(putK kvs k v).length<=sizeLine:=by have:=gx kvs k v; lia
  refine wpAny_setItem_heap (hsz:=hz) (tupleKind_room_in1 hu) (kE I.hok eb) dd fun h' dd' hs=>h _ ?_
  obtain⟨q,es,ep,hq,h2,h3,h4,_,h5⟩:=dd';refine oK I (by rw[e]; exact True.intro) hs ⟨q,hq⟩ ⟨hl,hd,_,(rel.put k eb rv).keeps fun c ys ec => ?_,q,es,ep,hq,h2,h3,h4,h5⟩
  rw[aB (nh ec e (fun z=>nomatch z))]
  exact ec
end
section
variable {X:Cx} {pins:List (Addr×Obj)} {σ:St} {H:Hp} {s:Shared} {a:Addr} {kvs:List (Key×V)} {k:Key} {u:Value} {A:Around} {E:Value->Shared->Prop}
theorem d_len {Q:Value->Shared->Prop} (I:Inv X pins σ H s) (e:Rd H a (.dK kvs)) (h:∀t s',Inv X pins σ H s'->Q (.int kvs.length t) s'):wpAny (model X.prog X.w) A (call (.builtin "len") [.ref a]) Q E s:=by
 obtain⟨z,hd,vs,rel,dd⟩:=nE I.hok e;refine call_len_dict hd dd (by rw[<-rel.length]; rw[sizeLine_eq] at z; lia) ?_
 rw[<-rel.length];exact h _ _ (I.tok _)
end
def NoSl (i:Expr):Prop:=∀ov iv,subscripted i false ov iv=operate [ov,iv] (getItem ov iv)
theorem yS {prog:Program} {w:World} {A:Around} {E:Value->Shared->Prop} {s:Shared} {env:Env} {value slice:Expr} {pos:Pos} {T id:String} {Q:Value->Shared->Prop}
  (hl:typeLookup (.type T) "__getitem__" = pure (some (.builtin id))) (hs:NoSl slice)
  (h:wpAny (model prog w) A (eval value env) (fun o s₁=>wpAny (model prog w) A (eval slice env) (fun i s₂=>s₂.TypeIs o T/\wpAny (model prog w) A (getItem o i) Q E s₂) E s₁) E s) :
  wpAny (model prog w) A (eval (.Subscript value slice pos) env) Q E s:=by
 refine Subscript_ (wpAny_mono h (fun o s₁ h₁=>wpAny_mono h₁ (fun i s₂ h₂ => ?_) fun _ _ x=>x) fun _ _ x=>x)
 obtain⟨hT,h₂⟩:=h₂;unfold subscriptTail;refine wpAny_bind ?_;rw[getitemInPython_of_ne hT.not_modules];refine wpAny_bind (wpAny_specialOf hT hl ?_);have fin:wpAny (model prog w) A (subscripted slice false o i) (fun r s₃=>wpAny (model prog w) A (letTemporaryGo value o r >>= fun _=>pure r) Q E s₃) E s₂:=by
  rw[hs o i];exact wpAny_operating (wpAny_mono h₂ (fun r s₃ h₃=>wpAny_bind (wpAny_letTemporaryGo (wpAny_pure h₃))) fun _ _ x=>x)
 first
  | exact wpAny_pure (wpAny_bind fin)
  | exact wpAny_bind (wpAny_pure (wpAny_bind fin))
  | exact wpAny_bind fin
theorem qi {X:Cx} {pins:List (Addr×Obj)} {σ:St} {H:Hp} {s:Shared} {a:Addr} {y:V} {o:Option V} (I:Inv X pins σ H s) (g:iC H a y o):s.TypeIs (.ref a) "dict" := by
 rcases g with⟨kvs,k,e,_,_⟩ | ⟨kvs,k,b,e,_,_,_⟩
 ·obtain⟨_,_,vs,_,dd⟩:=nE I.hok e
  exact dd.typeIs
 ·obtain⟨_,_,xs,_,dd⟩:=qh I.hok e
  exact dd.typeIs
noncomputable def wg (td ty:TE):TE:=fun σ H Q=>td σ H fun x H1=>ty σ H1 fun y H2=>∃a v,x=.ref a/\iC H2 a y (some v)/\Q v H2
noncomputable def tDIn (ty td:TE):TE:=fun σ H Q=>ty σ H fun y H1=>td σ H1 fun x H2=>∃a o,x=.ref a/\iC H2 a y o/\Q (.bl o.isSome) H2
noncomputable def yT (ty td:TE):TE:=fun σ H Q=>ty σ H fun y H1=>td σ H1 fun x H2=>∃a o,x=.ref a/\iC H2 a y o/\Q (.bl (!o.isSome)) H2
noncomputable def wj (td ty tv:TE):TS:=fun D σ H=>tv σ H fun v H1=>td σ H1 fun x H2=>ty σ H2 fun y H3=>∃a H4,x=.ref a/\wc H3 a y v H4/\D.nx σ H4
section
variable {X:Cx} {o i e value:Expr} {pos pos' tpos:Pos} {td ty tv:TE}
theorem sZ (hu:X.A.units+1<cLine) (ho:PE X o td) (hi:PE X i ty) (hs:NoSl i):PE X (.Subscript o i pos) (wg td ty):=by
 intro pins s σ H Q I h;refine yS PySem.F.slot_dict_getitem.lookup hs (bA (ho pins s σ H _ I h) fun u s1 ⟨x,H1,I1,rx,q1⟩=>bA (hi pins s1 σ H1 _ I1 q1) fun iv s2 ⟨y,H2,I2,ry,a,v,ex,g,q2⟩ => ?_)
 subst ex;obtain rfl:u=Value.ref a:=rx;exact⟨qi I2 g,uJ hu I2 g ry fun w' s3 I3 rw'=>⟨v,H2,I3,rw',q2⟩⟩
theorem wk (hu:X.A.units+1<cLine) (hi:PE X i ty) (ho:PE X o td):PC X .In i o (tDIn ty td):=by
 intro pins s σ H Q I h;refine bA (hi pins s σ H _ I h) fun iv s1 ⟨y,H1,I1,ry,q1⟩=>bA (ho pins s1 σ H1 _ I1 q1) fun u s2 ⟨x,H2,I2,rx,a,ov,ex,g,q2⟩ => ?_
 subst ex;obtain rfl:u=Value.ref a:=rx;exact d_in hu I2 g ry fun s3 I3=>⟨.bl ov.isSome,H2,I3,rfl,q2⟩
theorem uL (hu:X.A.units+1<cLine) (hi:PE X i ty) (ho:PE X o td):PC X .NotIn i o (yT ty td):=by
 intro pins s σ H Q I h;refine bA (hi pins s σ H _ I h) fun iv s1 ⟨y,H1,I1,ry,q1⟩=>bA (ho pins s1 σ H1 _ I1 q1) fun u s2 ⟨x,H2,I2,rx,a,ov,ex,g,q2⟩ => ?_
 subst ex;obtain rfl:u=Value.ref a:=rx;exact yR hu I2 g ry fun s3 I3=>⟨.bl (!ov.isSome),H2,I3,rfl,q2⟩
theorem yU (hu:X.A.units+1<cLine) (ho:PE X o td) (hi:PE X i ty) (hv:PE X value tv) (hs:swapsWith value (some (.Subscript o i pos')) pos.line X.env=pure false) :
  PS X (.Assign [.Subscript o i pos'] value pos) (wj td ty tv):=by
 intro pins s σ H D I h;refine wpAny_Assign_Subscript (bA (hv pins s σ H _ I h) fun r s1 ⟨v,H1,I1,rv,q1⟩=>bA (ho pins s1 σ H1 _ I1 q1) fun u s2 ⟨x,H2,I2,rx,q2⟩=>bA (hi pins s2 σ H2 _ I2 q2) fun iv s3 ⟨y,H3,I3,ry,a,H4,ex,g,q3⟩ => ?_) hs
 subst ex;obtain rfl:u=Value.ref a:=rx;exact uK hu I3 g ry rv fun s4 I4=>⟨σ,H4,I4,q3⟩
end
theorem wm {P:Program} {w:World} {H:Hp} (h:Heap) (hb:sysModules<h.objs.size):ck P w H (h.push { cls:=.type "dict",data:=.dict #[] }) h.objs.size (.dK []) :=
 ⟨Nat.zero_le _,beq_eq_false_iff_ne.mpr (Ne.symm (Nat.ne_of_lt hb)),[],.nil,Heap.DictOf.new h⟩
end L2
namespace Att
open PySem PySem.W PySem.Calls PyProof.Rows
theorem jU {P:Params} {h:Heap}:∀ (ns:List Int) (vs:List Value),WellAll P h vs (ns.map WData.int)->IntsAre vs ns:=by
 intro ns
 induction ns with
 | nil =>
  intro vs w;rw[List.map_nil] at w;cases w;exact .nil
 | cons n ns ih =>
  intro vs w;rw[List.map_cons] at w;cases w with
  | cons a b =>
   cases a;exact .cons _ _ (ih _ b)
theorem uM {l:OpenLaw} {n:Nat} (hn:l.most=some n) {P:Params} {h:Heap} {args:List WData} {vals:List Value}
  (hpre:l.row.toRowW.claim.pre args=true) (hwl:WellAll P h vals args) :
  ∃a vs ns,vals=[Value.ref a]/\args=[WData.list (ns.map WData.int)]/\h.get? a=some { cls:=.type "list",data:=.seq vs.toArray }/\IntsAre vs ns/\ns.length<=n:=by
 have hsh:WShape.hasAll [] args [.list .int]=true:=(pre_splitW hpre).1;have hc:l.pre.holds [] { args:=args }=true:=(pre_splitW hpre).2;obtain⟨d,r,rfl,h1,h2⟩:=hasAllW_cons hsh;obtain rfl:=hasAllW_nil h2;obtain⟨xs,rfl,h3⟩:=hasW_list h1;obtain⟨ns,rfl⟩:=items_int h3;have hlen:ns.length<=n:=by
  unfold OpenLaw.pre at hc;have h4:(WTm.not (.lt (.lit (.int (n:Int))) (.len (.arg 0)))).holds [] { args:=[.list (ns.map .int)] }=true:=by
   have h4:=(holds_andW hc).1;rw[hn] at h4;exact h4
  have h5:=condW_of h4 (w_not (w_lt w_lit (w_len_list (w_arg rfl))));rw[List.length_map] at h5;refine Nat.le_of_not_lt fun q => ?_
  have q':(n:Int)<((ns.length:Nat):Int):=by lia
  first
   | (rw[decide_eq_true q'] at h5; exact absurd h5 (by decide))
   | (simp at h5; lia)
 cases hwl with
 | cons w1 w2 =>
  cases w2;cases w1 with
  | list ho hall=>exact⟨_,_,ns,rfl,rfl,ho,jU ns _ hall,hlen⟩
theorem uN (l:OpenLaw) (args:List WData):l.row.toRowW.claim.post args (.bool true) args=true :=
 postW_of (r:=l.row.toRowW) (X:=(true == true))
  (show WShape.has [] (.bool true) .bool=true by first | rfl | decide | simp[WShape.has,WShape.arms,WShape.armsAll])
  (show (WTm.eq .res (.lit (.bool true))).value [] { args:=args,res:=some (.bool true),after:=args }=some (.bool (true == true)) from w_eq_bool (w_res rfl) w_lit) rfl
theorem qj {l:OpenLaw} {n:Nat} {q:Program} {loose:List Str} {XP:(Str->Option Value)->Heap->Prop} {YP:World->Heap->Prop} {d:DefRec}
  (hn:l.most=some n) (hdf:d.params.defaults=[])
  (call:∀ (w:World) (s₀ s₁:Shared) (mg mb:Str->Option Value) (fa:Addr) (o:Obj) (pm cd doc:Value) (a:Addr) (vs:List Value) (ns:List Int),
   Ground q loose [] XP w s₀ mg mb s₁.heap->YP w s₁.heap ->
   s₁.heap.get? fa=some o->o.data=.func (docDef d.name d.params d.body d.scope pm cd doc)->s₁.heap.CodeRec cd d.name->mg d.name=some (.ref fa) ->
   s₁.heap.get? a=some { cls:=.type "list",data:=.seq vs.toArray }->IntsAre vs ns->ns.length<=n->s₁.gens = #[] ->
   codeAny (model l.prog w) callerA (.call (.ref fa) ⟨[.ref a],[]⟩) (fun r s'=>r=.ok (.ret (.bool true))/\OldK s₁.heap s'.heap/\s'.os=s₁.os/\AllBare s'.gens) s₁) :
  WalkO q loose XP YP l.row.toRowW d [] (fun f vs=>PySem.call f vs):=by
 intro w s₀ s₁ mg mb G Y fa o pm cd doc dV kV ho hd hcd hD hmg hg args vals as hpre hlay hrd hwl hlo;obtain rfl:dV=.none:=Dflts.none hD hdf;obtain rfl:kV=.none:=Dflts.noKw hD;obtain⟨a,vs,ns,rfl,rfl,hobj,hints,hlen⟩:=uM hn hpre hwl;refine enter_call (codeAny_mono (call w s₀ s₁ mg mb fa o pm cd doc a vs ns G Y ho (fd_plain hd) hcd hmg hobj hints hlen hg) fun r s' hq => ?_)
 obtain⟨rfl,h2,h3,h4⟩:=hq;exact⟨.inl ⟨.bool true,.bool true,[],rfl,fun _=>rfl,.bool true,uN l _,fun _=>⟨List.Pairwise.nil,fun _ hm=>(nomatch hm)⟩⟩,h2,h3,h4⟩
end Att
namespace L2
open PySem PySem.Spec PyProof.Rows
theorem nF:∀ {vs:List Value} {ns:List Int},IntsAre vs ns->Vals (ns.map V.int) vs
 | _,_,.nil=>.nil
 | _,_,.cons n t h=>.cons ⟨t,rfl⟩ (nF h)
def Only (H:Hp):Prop:=∀b,H b=none\/∃o xs,H b=some (.frz o (.lst xs))
theorem wo {P:Program} {w:World} {K:PySem.W.Frag} {mg mb:Str->Option Value} {CX:vD} {k:Nat} {fa a:Addr} {fd:FuncData} {x:Str} {sp:Sp} {s₁:Shared} {vs:List Value} {ns:List Int}
  (KX:K.In s₁.heap) (hns:s₁.heap.Ns mainGlobals mg) (hb:s₁.heap.Ns builtinsNs mb) (hbb:∀x:Str,x ≠ "__name__"->mb x=bootBuiltins x) (hlim:s₁.heap.NoLimit) (hg:s₁.gens = #[])
  (ha:s₁.heap.get? a=some { cls:=.type "list",data:=.seq vs.toArray }) (hi:IntsAre vs ns) (hl:ns.length<=sizeLine) (hr:eN k callerA)
  (F:∀base:Heap,K.In base->base.Ns mainGlobals mg->cu P w K mg base CX k fa fd [x] sp) (hbind:∀ (s:Shared) (u:Value),BindsTo s fd ⟨[u],[]⟩ [(x,u)])
  (hsp:∀H:Hp,Only H->fV K H a (ns.map V.int)->sp [.ref a] H (fun v _=>v=.bl true) fun _ _ _=>False)
  (hCX:∀H e s',CX [] H s₁ (fun _ _ _=>False) e s'->False) :
  codeAny (model P w) callerA (.call (.ref fa) ⟨[.ref a],[]⟩) (fun r s'=>r=.ok (.ret (.bool true))/\OldK s₁.heap s'.heap/\s'.os=s₁.os/\AllBare s'.gens) s₁:=by
 have rv:=nF hi;have lenV:=hi.length;have core:∀H:Hp,Only H->fV K H a (ns.map V.int)->iA P w H s₁.heap->(∀b,H b≠none->b=a)->(H a≠none->K.lookup a=none) ->
   codeAny (model P w) callerA (.call (.ref fa) ⟨[.ref a],[]⟩) (fun r s'=>r=.ok (.ret (.bool true))/\OldK s₁.heap s'.heap/\s'.os=s₁.os/\AllBare s'.gens) s₁:=by
  intro H hO hS hok hA hK;have base_of:∀ {b:Addr} {o:Obj},s₁.heap.get? b=some o->H b=none->(oh s₁.heap H).get? b=some o:=fun e n=>vJ e n
  have noA:∀ {b:Addr} {o:Obj} {es:Array DictEntry} {ep:Nat},s₁.heap.get? b=some o->o.data=.dict es ep->H b=none:=fun {b o es ep} e d=>by
   cases q:H b with
   | none=>rfl
   | some u =>
    have e':b=a:=hA b (by rw[q]; simp)
    subst e';rw[ha] at e; cases e;have d':Data.seq vs.toArray _=Data.dict es ep:=d;cases d'
  have nsK:∀ {b:Addr} {m:Str->Option Value},s₁.heap.Ns b m->(oh s₁.heap H).Ns b m:=fun {b m} ⟨o,es,ep,e,d,r⟩=>⟨o,es,ep,base_of e (noA e d),d,r⟩
  have hKb:K.In (oh s₁.heap H):=fun b o e=>base_of (KX b o e) (by
   cases q:H b with
   | none=>rfl
   | some u =>
    have e':b=a:=hA b (by rw[q]; simp)
    subst e';rw[hK (by rw[q]; simp)] at e; cases e)
  have hM:Mod K mg (oh s₁.heap H):=⟨hKb,nsK hns,⟨mb,nsK hb,hbb⟩,let ⟨mc,h1,h2⟩:=hlim; ⟨mc,nsK h1,h2⟩⟩;have e0:Env0 P w K mg (oh s₁.heap H) callerA [] s₁ H:=⟨rfl,hM,fun b o e=>yt e,Nat.le_of_eq (uA _ _),trivial,fun b hb=>absurd (show b∈([]:List Addr) from hb) (by simp),hok,.of_eq hg⟩
  refine codeAny_mono ((F _ hKb (nsK hns)).run callerA [] s₁ H ⟨[.ref a],[]⟩ [.ref a] [.ref a] _ _ hr e0 (hbind s₁ (.ref a)) (.cons rfl .nil) (hsp H hO hS)) fun r s' h => ?_
  cases r with
  | error e=>exact (hCX H e s' h).elim
  | ok fl =>
   cases fl with
   | next=>exact False.elim h
   | brk=>exact False.elim h
   | cont=>exact False.elim h
   | ret u =>
    obtain⟨v,H',os,bare,un,hok',r',q⟩:=h;have q':v=.bl true:=q;subst q';obtain rfl:u=Value.bool true:=r';refine⟨rfl,OldK.of_keep fun b o e => ?_,os,bare⟩
    cases q:H b with
    | none=>exact un.keep b o e q (by intro z; exact absurd (show b∈([]:List Addr) from z) (by simp)) (by simp)
    | some u =>
     rcases hO b with z | ⟨ob,xs,z⟩
     ·rw[q] at z; cases z
     ·have z2:=un.dH b ob _ z
      obtain⟨e1,_⟩:=hok b _ z;obtain⟨e2,_⟩:=hok' b _ z2;rw[e] at e1; cases e1;exact e2
 cases hk:K.lookup a with
 | some o =>
  have e:=KX a o hk;rw[ha] at e;cases e;refine core (fun _=>none) (fun _=>.inl rfl) (.inr ⟨_,vs.toArray,_,hk,rfl,rfl,rfl,by rw[List.size_toArray,lenV]; exact hl,by simpa using rv⟩) (fun b u z=>by have z':(none:Option HO)=some u:=z; cases z') (fun b z=>absurd rfl z) fun z=>absurd rfl z
 | none =>
  refine core (fun b=>if b=a then some (.frz { cls:=.type "list",data:=.seq vs.toArray } (.lst (ns.map V.int))) else none) (fun b => ?_) (.inl (.inr ⟨{ cls:=.type "list",data:=.seq vs.toArray },if_pos rfl⟩)) (fun b u z => ?_) (fun b z => ?_) fun _=>hk
  ·by_cases hb:b=a
   ·exact .inr ⟨_,_,if_pos hb⟩
   ·exact .inl (if_neg hb)
  ·by_cases hb:b=a
   ·have z':=(if_pos hb).symm.trans z
    cases z';subst hb;exact⟨ha,by rw[List.length_map]; exact hl,vs,_,rv,ha⟩
   ·have z':=(if_neg hb).symm.trans z
    cases z'
  ·by_cases hb:b=a
   ·exact hb
   ·exact absurd (if_neg hb) z
end L2
namespace L2
open PySem PySem.Spec PyProof.Rows
theorem yV {l:PySem.W.OpenLaw} {n k:Nat} {q:Program} {loose:List Str} {XP:(Str->Option Value)->Heap->Prop} {YP:World->Heap->Prop} {d:DefRec} {K:Params->PySem.W.Frag} {CX:World->vD} {sp:World->Sp} {x:Str}
  (hn:l.most=some n) (hn2:n<=sizeLine) (hdf:d.params.defaults=[]) (hr:eN k callerA)
  (hY:∀ (w:World) (h:Heap),YP w h->(K w.params).In h)
  (F:∀ (w:World) (mg:Str->Option Value) (fa:Addr) (h:Heap),(K w.params).In h->h.Ns mainGlobals mg->mg d.name=some (.ref fa) ->
   ∃fd:FuncData,(∀ (s:Shared) (u:Value),BindsTo s fd ⟨[u],[]⟩ [(x,u)]) /\
    ∀base:Heap,(K w.params).In base->base.Ns mainGlobals mg->cu l.prog w (K w.params) mg base (CX w) k fa fd [x] (sp w))
  (hsp:∀ (w:World) (H:Hp) (a:Addr) (ns:List Int),ns.length<=n->Only H->fV (K w.params) H a (ns.map V.int)->sp w [.ref a] H (fun v _=>v=.bl true) fun _ _ _=>False)
  (hCX:∀ (w:World) (H:Hp) (s:Shared) (e:Value) (s':Shared),CX w [] H s (fun _ _ _=>False) e s'->False) :
  PySem.W.WalkO q loose XP YP l.row.toRowW d [] (fun f vs=>PySem.call f vs):=by
 refine Att.qj hn hdf fun w s₀ s₁ mg mb fa o pm cd doc a vs ns G Y ho hd hcd hmg hobj hints hlen hg => ?_
 have KX:=hY w _ Y;obtain⟨fd,hb,hF⟩:=F w mg fa _ KX G.T.g hmg;exact wo KX G.T.g G.T.b G.T.builtins G.T.nolimit hg hobj hints (Nat.le_trans hlen hn2) hr hF hb (fun H hO hS=>hsp w H a ns hlen hO hS) fun H e s'=>hCX w H s₁ e s'
end L2
namespace L2
open PySem PySem.Spec PyProof.Rows
noncomputable def aU (s:Stmt):Arguments:=match s with
 | .FunctionDef _ a _ _ _ _ _ _ _ _=>a
 | _=>{ posonlyargs:=[],args:=[],vararg:=none,kwonlyargs:=[],kw_defaults:=[],kwarg:=none,defaults:=[] }
noncomputable def aQ (s:Stmt):List Stmt:=match s with
 | .FunctionDef _ _ b _ _ _ _ _ _ _=>b
 | _=>[]
noncomputable def aq (s:Stmt):Scope:=match s with
 | .FunctionDef _ _ _ _ _ _ sc _ _ _=>sc
 | _=>{ kind:=.function,names:=[],isGenerator:=false,isCoroutine:=false }
abbrev jx:vD:=fun _ _ _ _ _ _=>False
abbrev E0:XK:=fun _ _ _=>False
theorem pass0 {X:Cx}:Passes jx X E0:=fun _ _ _ _ _ _ _ h=>h.elim
structure mE (K:PySem.W.Frag) (x qual:Str) (st:Stmt) (f:Addr) (fd:FuncData):Prop where
 ex:∃ (oc:Value) (od:Option Addr) (kV doc pm:Value) (an:Option Addr) (cdv ct:Value) (osl:Array (Option Value)),
  fd=PySem.W.fnOf x qual (aU st) (aQ st) (aq st) .none kV doc pm an cdv ct/\K.lookup f=some ⟨oc,od,.func fd,osl⟩/\PySem.W.codeIn K cdv qual=true
 kp:PySem.W.keepIn K (.ref f)=true
section
variable {P:Program} {w:World} {K:PySem.W.Frag} {mg:Str->Option Value} {base:Heap}
theorem mE.ok {x qual:Str} {st:Stmt} {f:Addr} {fd:FuncData} {N ps:List Str} {k:Nat} {sp:Sp} (F:mE K x qual st f fd) (S:aT N ps (aq st)) (len:∀vs H Q E,sp vs H Q E->vs.length=ps.length)
  (hbody:∀ (cdv:Value) (A:Around) (outer:List Env) (s:Shared) (H:Hp) (vs:List V) (Q:VK) (E:XK),eN k (A.deeper (envOfC qual (aq st) s.heap.objs.size f cdv))->sp vs H Q E ->
   ∃t,q9 (p7 jx P w K mg base N qual (aq st) f cdv A outer s H E).Cy (aQ st) t/\t { nx:=fun _ H'=>Q .non H',rt:=Q } (start N vs) H):cu P w K mg base jx (k+1) f fd ps sp:=by
 obtain⟨oc,od,kV,doc,pm,an,cdv,ct,osl,rfl,lk,hcd⟩:=F.ex;refine fn_of lk hcd S len fun A outer s H vs Q E hr hsp => ?_
 obtain⟨t,h,q⟩:=hbody cdv A outer s H vs Q E hr hsp;exact⟨t,h.Cy,q⟩
theorem mE.binds {x qual:Str} {st:Stmt} {f:Addr} {fd:FuncData} {ps:List Str} (F:mE K x qual st f fd)
  (h:∀ (kV doc pm:Value) (an:Option Addr) (cdv ct:Value) (us:List Value),us.length=ps.length->bindArgs (PySem.W.fnOf x qual (aU st) (aQ st) (aq st) .none kV doc pm an cdv ct) ⟨us,[]⟩=pure (ps.zip us)):Binds K fd ps []:=by
 obtain⟨oc,od,kV,doc,pm,an,cdv,ct,osl,rfl,lk,hcd⟩:=F.ex;exact .all (h kV doc pm an cdv ct)
theorem cF {x qual:Str} {st:Stmt} {f:Addr} {oc:Value} {od an:Option Addr} {osl:Array (Option Value)} {kV doc pm cdv ct:Value} (l:K.lookup f=some ⟨oc,od,.func (PySem.W.fnOf x qual (aU st) (aQ st) (aq st) .none kV doc pm an cdv ct),osl⟩)
  (c:PySem.W.codeIn K cdv qual=true) (k:PySem.W.keepIn K (.ref f)=true):mE K x qual st f (PySem.W.fnOf x qual (aU st) (aQ st) (aq st) .none kV doc pm an cdv ct):=⟨⟨oc,od,kV,doc,pm,an,cdv,ct,osl,rfl,l,c⟩,k⟩
end
section
variable {X:Cx}
theorem pv (i:Nat) {x:Str} {pos:Pos} (hN:X.N[i]? = some x:=by rfl) (hv:AD X.env.scope x:=by first | exact Or.inl rfl | exact Or.inr (Or.inl rfl) | exact Or.inr (Or.inr rfl)) (hd:(x == ("__debug__" : Str))=false:=by decide)
  (hcd:(x == ("__classdict__" : Str))=false:=by decide):PE X (.Name x pos) (fC i):=rf hN hv hd hcd
theorem nH:bI X (.builtin "len") (fun xs H Q=>∃a kvs,xs=[V.ref a]/\H a=some (.dK kvs)/\Q (.int kvs.length) H):=by
 intro pins s σ H xs us Q I r h;obtain⟨a,kvs,rfl,ha,q⟩:=h;obtain⟨u,rfl,ru⟩:=vals1 r;cases ru;exact d_len I (.inl ha) fun t s' I'=>⟨.int kvs.length,H,I',⟨t,rfl⟩,q⟩
end
theorem iteF {A B:Prop} (h:B):if false=true then A else B:=by
 rw[if_neg Bool.false_ne_true];exact h
theorem iteT {A B:Prop} (h:A):if true=true then A else B:=by
 rw[if_pos rfl];exact h
def bz (H H':Hp):Prop:=∀b o,H b=some o->H' b=some o
theorem bz.refl (H:Hp):bz H H:=fun _ _ h=>h
theorem bz.free {H H':Hp} (e:bz H H') {l:Addr} (h:H' l=Option.none):H l=Option.none:=by
 cases q:H l with
 | none=>rfl
 | some o =>
  rw[e l o q] at h;cases h
end L2
end
section
namespace L2
open PySem PySem.Spec PyProof.Rows
noncomputable def aM (cells:List (Str×Addr)):List (Str×NameKind)->List (Str×Addr)->List (Str×Addr)
 | [],cs=>cs
 | (n,k)::r,cs=>if (k == NameKind.free)=true then (match cells.lookup n with | some a=>aM cells r ((n,a)::cs) | none=>aM cells r cs) else aM cells r cs
theorem oM {env:Env}:∀ (names:List (Str×NameKind)) (cs:List (Str×Addr)),(∀x∈names,x.2=.free->∃a,env.cells.lookup x.1=some a) ->
  (forIn names cs fun (x:Str×NameKind) (r:List (Str×Addr))=>(if (x.2 == NameKind.free)=true then (do let a <-cellOf env x.1; pure (ForInStep.yield ((x.1,a)::r))) else pure (ForInStep.yield r):Sem (ForInStep (List (Str×Addr)))))=(pure (aM env.cells names cs):Sem (List (Str×Addr)))
 | [],cs,_=>rfl
 | (n,k)::r,cs,h=>by
  rw[List.forIn_cons]
  by_cases hk:(k == NameKind.free)=true
  ·obtain⟨a,ha⟩:=h (n,k) lS (by simpa using hk)
   have ha:env.cells.lookup n=some a:=ha;have hcell:cellOf env n=pure a:=by unfold cellOf; rw[ha]
   simp only[hk,if_true];rw[hcell];show (forIn r ((n,a)::cs) _:Sem _)=_;rw[oM r _ fun x hx=>h x (lO _ hx)]
   simp only[aM,hk,if_true,ha]
  ·simp only[hk,if_false]
   show (forIn r cs _:Sem _)=_;rw[oM r _ fun x hx=>h x (lO _ hx)]
   simp only[aM,hk,if_false];rfl
theorem cV {scope:Scope} {env:Env} (h:∀x∈scope.names,x.2=.free->∃a,env.cells.lookup x.1=some a):closureFor scope env=pure (aM env.cells scope.names []):=by
 have e:=oM (env:=env) scope.names [] h;unfold closureFor;simp only[bind_pure_comp] at e ⊢
 first
  | (rw[<-e]; rfl)
  | (simpa using e)
theorem dR {cells:List (Str×Addr)} {y:Str} {c:Addr}:∀ (names:List (Str×NameKind)) (cs:List (Str×Addr)),(∀y c,cs.lookup y=some c->cells.lookup y=some c)->(aM cells names cs).lookup y=some c->cells.lookup y=some c
 | [],cs,h,e=>h y c e
 | (n,k)::r,cs,h,e=>by
  unfold aM at e
  by_cases hk:(k == NameKind.free)=true
  ·rw[if_pos hk] at e
   cases ha:cells.lookup n with
   | none =>
    rw[ha] at e;exact dR r cs h e
   | some a =>
    rw[ha] at e;refine dR r _ (fun y c q => ?_) e
    rw[List.lookup_cons] at q
    by_cases hy:(y == n)=true
    ·rw[hy] at q
     cases q;have:y=n:=by simpa using hy
     rw[this]; exact ha
    ·have hy':(y == n)=false:=by simpa using hy
     rw[hy'] at q;exact h y c q
  ·rw[if_neg hk] at e
   exact dR r cs h e
theorem fY {cells:List (Str×Addr)} {y:Str}:∀ (names:List (Str×NameKind)) (cs:List (Str×Addr)),(cs.lookup y).isSome=true->((aM cells names cs).lookup y).isSome=true
 | [],cs,h=>h
 | (n,k)::r,cs,h=>by
  unfold aM
  by_cases hk:(k == NameKind.free)=true
  ·rw[if_pos hk]
   cases ha:cells.lookup n with
   | none=>exact fY r cs h
   | some a =>
    refine fY r _ ?_;rw[List.lookup_cons]
    by_cases hy:(y == n)=true
    ·rw[hy]; rfl
    ·have hy':(y == n)=false:=by simpa using hy
     rw[hy']; exact h
  ·rw[if_neg hk]
   exact fY r cs h
theorem gy {cells:List (Str×Addr)} {y:Str}:∀ (names:List (Str×NameKind)) (cs:List (Str×Addr)),(y,NameKind.free)∈names->(cells.lookup y).isSome=true->((aM cells names cs).lookup y).isSome=true
 | [],cs,h,_=>by simp at h
 | (n,k)::r,cs,h,hy=>by
  unfold aM;rcases lK h with e | h'
  ·cases e
   rw[if_pos (by rfl)]
   cases ha:cells.lookup y with
   | none=>rw[ha] at hy; cases hy
   | some a =>
    refine fY r _ ?_;rw[List.lookup_cons,show (y == y)=true by simp]
    rfl
  ·by_cases hk:(k == NameKind.free)=true
   ·rw[if_pos hk]
    cases ha:cells.lookup n with
    | none=>exact gy r cs h' hy
    | some a=>exact gy r _ h' hy
   ·rw[if_neg hk]
    exact gy r cs h' hy
theorem iY {scope:Scope} {env:Env} {x:Str} {k:NameKind} (hc:∀y∈scope.names,y.2≠.cell):(relabel scope env).names.lookup x=some k->(k=.cell\/k=.free)->scope.names.lookup x=some .free:=by
 unfold relabel;dsimp only;generalize hn:scope.names=names at hc ⊢
 clear hn
 induction names with
 | nil=>intro h; simp at h
 | cons p r ih =>
  obtain⟨n,k0⟩:=p;intro h hk;rw[List.map_cons,List.lookup_cons] at h;rw[List.lookup_cons];have hc':∀y∈r,y.2≠.cell:=fun y hy=>hc y (lO _ hy)
  by_cases hx:(x == n)=true
  ·rw[hx]
   have hk0:=hc (n,k0) lS;have hk0:k0≠.cell:=hk0
   by_cases hq:(k0 == NameKind.free && env.scope.kind == .function && env.kindOf n == some .cell)=true
   ·have:(k0 == NameKind.free)=true:=by
     rw[Bool.and_eq_true,Bool.and_eq_true] at hq;exact hq.1.1
    have:k0=.free:=by simpa using this
    rw[this]
   ·rw[if_neg hq] at h
    dsimp only at h;rw[hx] at h
    injection h with h
    subst h;rcases hk with z | z
    ·exact absurd z hk0
    ·rw[z]
  ·have hx':(x == n)=false:=by simpa using hx
   rw[hx'];refine ih hc' ?_ hk
   by_cases hq:(k0 == NameKind.free && env.scope.kind == .function && env.kindOf n == some .cell)=true
   ·rw[if_pos hq] at h
    dsimp only at h;rw[hx'] at h;exact h
   ·rw[if_neg hq] at h
    dsimp only at h;rw[hx'] at h;exact h
theorem oN {scope:Scope} {env:Env} {x:Str}:scope.names.lookup x=some .free->(relabel scope env).names.lookup x=some .cell\/(relabel scope env).names.lookup x=some .free:=by
 unfold relabel;dsimp only;generalize hn:scope.names=names
 clear hn
 induction names with
 | nil=>intro h; simp at h
 | cons p r ih =>
  obtain⟨n,k0⟩:=p;intro h;rw[List.lookup_cons] at h;rw[List.map_cons,List.lookup_cons]
  by_cases hx:(x == n)=true
  ·rw[hx] at h
   injection h with h
   subst h
   by_cases hq:(NameKind.free == NameKind.free && env.scope.kind == .function && env.kindOf n == some .cell)=true
   ·rw[if_pos hq]; dsimp only; rw[hx]; exact .inl rfl
   ·rw[if_neg hq]; dsimp only; rw[hx]; exact .inr rfl
  ·have hx':(x == n)=false:=by simpa using hx
   rw[hx'] at h
   by_cases hq:(k0 == NameKind.free && env.scope.kind == .function && env.kindOf n == some .cell)=true
   ·rw[if_pos hq]; dsimp only; rw[hx']; exact ih h
   ·rw[if_neg hq]; dsimp only; rw[hx']; exact ih h
noncomputable def aD (X:Cx) (scope:Scope) (cl:List (Str×Addr)) (N:List Str) (C:Addr) (fp:List Addr) (s:Shared) (H:Hp):Cx :=
 { X with N:=N,s₀:=s,H₀:=H,env:=compEnvC scope cl C X.env,outer:=X.stack,ex:=fp,fn:=fun _=>false,pn:=[],xe:=fun _ _=>False }
structure Bk where
 cl:List (Str×Addr)
 C:Addr
 fp:List Addr
 s:Shared
 H:Hp
noncomputable def oO (fr:List (Option Nat)) (σ:St):St:=fr.map fun o=>match o with
 | some j=>(match σ[j]? with | some v=>v | none=>none)
 | none=>none
structure aR (X:Cx) (scope:Scope) (N:List Str) (fr:List (Option Nat)):Prop where
 kind:scope.kind=.function
 nocell:∀y∈scope.names,y.2≠.cell
 locs:∀y∈scope.names,y.2=.local->scope.names.lookup y.1=some .local
 free:∀y∈scope.names,y.2=.free->X.env.kindOf y.1=some .cell\/X.env.kindOf y.1=some .free
 len:fr.length=N.length
 fr:∀ (i j:Nat) (x:Str),N[i]? = some x->fr[i]? = some (some j)->X.N[j]? = some x/\scope.names.lookup x=some .free
 nd:N.Nodup
theorem dS {x:Str} {k:NameKind}:∀ {l:List (Str×NameKind)},l.lookup x=some k->(x,k)∈l:=fun h=>PySem.mem_of_lookup h
section
variable {X:Cx} {pins:List (Addr×Obj)} {σ:St} {H:Hp} {s:Shared} {scope:Scope} {N:List Str} {fr:List (Option Nat)} {fp:List Addr}
theorem aR.cells (S:aR X scope N fr) (I:Inv X pins σ H s):∀x∈scope.names,x.2=.free->∃a,X.env.cells.lookup x.1=some a:=fun x hx e=>I.ok.has x.1 (S.free x hx e)
theorem kF {h1:Heap} {m:Str->Option Value} {ob:Obj} {tk:Nat} (I:Inv X pins σ H s) (S:aR X scope N fr) (hf:∀b∈fp,iS X pins H b) (hs:∀b∈fp,b<s.heap.objs.size)
  (hns:h1.Ns s.heap.objs.size m) (hsb:Heap.SameBut s.heap.objs.size (s.heap.push ob) h1) :
  Inv (aD X scope (aM X.env.cells scope.names []) N s.heap.objs.size fp s H) [] (oO fr σ) H { s with heap:=h1,toks:=tk }:=by
 have sub:∀y c,(aM X.env.cells scope.names []).lookup y=some c->X.env.cells.lookup y=some c:=fun y c e=>dR scope.names [] (fun _ _ z=>by simp at z) e
 have old:∀b o,s.heap.get? b=some o->h1.get? b=some o:=fun b o e=>(hsb.2 b (Nat.ne_of_lt (Heap.lt_size e))).trans (Heap.get?_push_of_some _ e)
 have cle:∀x c,X.env.cells.lookup x=some c->c<s.heap.objs.size:=fun x c e=>by
  obtain⟨v,z⟩:=I.cell x c e;exact z.lt
 have bne:∀b∈fp,b∉X.ex->X.s₀.heap.objs.size<=b:=fun b hb hx=>by
  rcases (hf b hb).2.2.2.1 with z | z
  ·exact absurd z hx
  ·exact z
 have ok:(aD X scope (aM X.env.cells scope.names []) N s.heap.objs.size fp s H).Ok:=by
  refine⟨I.ok.mod,?_,I.ok.glob,I.ok.blt,Nat.le_refl _,fun x y c h1 h2=>I.ok.inj x y c (sub x c h1) (sub y c h2),fun x hx => ?_,fun x c z=>(by cases z),I.ok.hd,I.ok.frames,.inl rfl,fun b hb=>⟨?_,fun x c e => ?_⟩,fun b o e=>I.bs b o e,?_,fun b o e hb => ?_,fun b hb hs' => ?_,I.stack,I.sU⟩
  ·exact S.kind
  ·have hx:(relabel scope X.env).names.lookup x=some .cell\/(relabel scope X.env).names.lookup x=some .free:=hx
   have hfr:scope.names.lookup x=some .free:=by
    rcases hx with z | z
    ·exact iY S.nocell z (.inl rfl)
    ·exact iY S.nocell z (.inr rfl)
   have hm:=dS hfr;obtain⟨a,ha⟩:=S.cells I _ hm rfl;exact Option.isSome_iff_exists.mp (gy scope.names [] hm (by show (X.env.cells.lookup x).isSome=true; rw[show X.env.cells.lookup x=some a from ha]; rfl))
  ·exact Nat.ne_of_lt (hs b hb)
  ·exact (hf b hb).2.2.2.2.1 x c (sub x c e)
  ·exact Nat.le_trans I.ok.bsz I.sz
  ·have e:X.base.get? b=some o:=e
   rcases (hf b hb).2.2.2.1 with z | z
   ·exact I.ok.noex b o e z
   ·exact absurd (Nat.lt_of_lt_of_le (Heap.lt_size e) (Nat.le_trans I.ok.bsz z)) (Nat.lt_irrefl _)
  ·rcases lK (I.jy b hs') with z | z
   ·exact (hf b hb).2.1 z
   ·exact (hf b hb).2.2.1 z
 refine⟨ok,rfl,I.bare,Un.kept old,⟨m,hns,fun i x v h1' h2 h3 => ?_⟩,fun x c e => ?_,I.hok.fresh (Nat.le_refl _),fun x c e=>I.freeC x c (sub x c e),fun p hp=>absurd (show p∈([]:List (Addr×Obj)) from hp) (by simp),I.hok.kept old,?_⟩
 ·have h1':N[i]? = some x:=h1'
  have h2:(oO fr σ)[i]? = some (some v):=h2;unfold oO at h2;rw[List.getElem?_map] at h2;cases e:fr[i]? with
  | none=>rw[e] at h2; cases h2
  | some o =>
   rw[e] at h2;cases o with
   | none=>cases h2
   | some j =>
    obtain⟨hj,hx⟩:=S.fr i j x h1' e;have h2:some (match σ[j]? with | some v=>v | none=>none)=some (some v):=h2
    injection h2 with h2
    cases ej:σ[j]? with
    | none=>rw[ej] at h2; cases h2
    | some w' =>
     rw[ej] at h2;have h2:w'=some v:=h2;subst h2;have hk:=S.free _ (dS hx) rfl;obtain⟨m0,hn0,hl⟩:=I.loc;have vis:AD X.env.scope x:=by
      rcases hk with z | z
      ·exact .inr (.inl z)
      ·exact .inr (.inr z)
     obtain⟨u,r,l⟩:=hl j x v hj ej vis;refine⟨u,r,?_⟩;rcases l with⟨k,_⟩ | ⟨_,c,ec,z⟩
     ·exfalso
      rcases hk with q | q
      ·have:=k.symm.trans q; cases this
      ·have:=k.symm.trans q; cases this
     ·have hm:=dS hx
      obtain⟨c',ec'⟩:=Option.isSome_iff_exists.mp (gy (cells:=X.env.cells) scope.names [] hm (by rw[ec]; rfl))
      have:c'=c:=by
       have q:=sub x c' ec';rw[ec] at q;cases q;rfl
      subst this;refine .inr ⟨oN hx,c',ec',?_⟩;obtain⟨o,ho,hd⟩:=z;exact⟨o,old _ o ho,hd⟩
 ·obtain⟨v,o,ho,hd⟩:=I.cell x c (sub x c e)
  exact⟨v,o,old _ o ho,hd⟩
 ·show (oO fr σ).length=N.length
  unfold oO;rw[List.length_map,S.len]
end
def rH (X:Cx) (ifs:List Expr) (t:TT):Prop :=
 ∀ (pins:List (Addr×Obj)) (s:Shared) (σ:St) (H:Hp) (Q:Bool->Hp->Prop),Inv X pins σ H s->t σ H Q ->
  wpAny (model X.prog X.w) X.A (forIn ifs true fun c r=>if r=true then do let ok <-isTrue c X.env (eval c X.env); pure (ForInStep.yield ok) else pure (ForInStep.yield r)) (TP X pins σ Q) X.xe s
noncomputable def tYes:TT:=fun _ H Q=>Q true H
theorem Bf {X:Cx}:rH X [] tYes:=fun _ _ _ H _ I h=>wpAny_tests_nil ⟨H,I,h⟩
theorem Bg {X:Cx} {c:Expr} {t:TT} (h:PT X c t):rH X [c] t:=fun pins s σ H Q I hq=>wpAny_tests_one (h pins s σ H Q I hq)
abbrev TM:=St->Hp->(Hp->Prop)->Prop
def Dk (X:Cx) (em:Sem Unit) (t:TM):Prop :=
 ∀ (pins:List (Addr×Obj)) (s:Shared) (σ:St) (H:Hp) (R:Hp->Prop),Inv X pins σ H s->t σ H R ->
  wpAny (model X.prog X.w) X.A em (fun _ s'=>∃H',Inv X pins σ H' s'/\R H') X.xe s
def qk (g:TG) (tt:TT) (tem:TM) (J:It) (τ:St) (H:Hp) (Q:Hp->Prop):Prop :=
 ∃W:Nat->Nat->St->Hp->Prop,(∃m,W 0 m τ H)/\∀i m τ H,W i m τ H ->
  (J.stop i H/\Q H)\/(J.go i H/\∃N:St->Hp->Prop,(∀τ' H',N τ' H'->∃m',m'<m/\W (i+1) m' τ' H')/\∀x H',J.yld i H x H'->g x τ H' fun τ2 H2=>tt τ2 H2 fun b H3 =>
   if b=true then tem τ2 H3 (N τ2) else N τ2 H3)
noncomputable def rJ (target iter:Expr) (ifs:List Expr) (em:Sem Unit) (it:Value) (env:Env) (nxt:Sem Fin):Sem Fin:=do
 standAt iter.pos
 match <-pyNext it with
 | none=>pure (.done .next)
 | some v =>
  letOwnedTupleGo target it v
  assign target env v
  let mut ok:=true
  for c in ifs do
   if ok then ok <-isTrue c env (eval c env)
  if ok then em
  nxt
section
variable {X:Cx} {e target iter:Expr} {ifs:List Expr} {g:TG} {tt:TT} {tem:TM} {acc:Value} {em:Sem Unit}
theorem jB {it:Addr} {fp:List Addr} {tn:Nat->Heap->Prop} {J:It} {τ:St} {H:Hp} {s:Shared} {Q:Hp->Prop} {R:Result->Shared->Prop}
  (ht:compTurn e 0 (.ref it) acc X.env=rJ target iter ifs em (.ref it) X.env (again (.compLoop e 0 (.ref it) acc X.env)))
  (hd:∀ (Q:Fin->Shared->Prop) (E:Value->Shared->Prop) (s:Shared),wpAny (model X.prog X.w) X.A ((compTurn e 0 (.ref it) acc X.env).onRaise (fun x=>do noteFrame x X.env; theTreesLotGoes x)) Q E s ->
   wpAny (model X.prog X.w) (X.A.under (.compLoop e 0 (.ref it) acc X.env)) ((model X.prog X.w).den (.compLoop e 0 (.ref it) acc X.env)) Q E s)
  (hq:(Code.compLoop e 0 (.ref it) acc X.env).quiet=true)
  (hc:X.calm=true) (hx:X.xe=fun _ _=>False) (hg:PG X target g) (hi:rH X ifs tt) (he:Dk X em tem) (T:Turn X.prog X.w X.K target J fp it tn)
  (I:Inv X [] τ H s) (st:tn 0 s.heap) (hf:∀b∈fp,iS X [] H b) (h:qk g tt tem J τ H Q) (hR:∀τ' H' s',Inv X [] τ' H' s'->Q H'->R (.ok .next) s') :
  codeAny (model X.prog X.w) X.A (.compLoop e 0 (.ref it) acc X.env) R s:=by
 obtain⟨W,⟨m0,w0⟩,turn⟩:=h;have stat:∀ {H':Hp},(∀b∈fp,H' b=none)->∀b∈fp,iS X [] H' b:=fun hn b hb=>⟨hn b hb,(hf b hb).2⟩
 have noX:∀ {α:Type} {t:Sem α} {Q:α->Shared->Prop} {s':Shared} {E:Value->Shared->Prop},wpAny (model X.prog X.w) X.A t Q X.xe s'->wpAny (model X.prog X.w) X.A t Q E s':=fun {α t Q s' E} h' =>
  wpAny_mono h' (fun _ _ q=>q) fun _ _ z=>by rw[hx] at z; exact z.elim
 refine codeAny_loop hq (fun n s'=>∃i τ' H',Inv X [] τ' H' s'/\tn i s'.heap/\(∀b∈fp,H' b=none)/\W i n τ' H') ?_ m0 ⟨0,τ,H,I,st,fun b hb=>(hf b hb).1,w0⟩
 rintro n s3 ⟨i,σ3,H3,I3,st3,fr3,w3⟩;refine hd _ _ _ (wpAny_noted ?_);rw[ht];unfold rJ;refine wpAny_bind (wpAny_standAt (wpAny_bind ?_));rcases turn i n σ3 H3 w3 with⟨stop,qn⟩ | ⟨go,Nx,hNx,step⟩
 ·refine bA (T.done X rfl rfl rfl hc i [] s3 σ3 H3 _ I3 (stat fr3) st3 stop) fun r s4 ⟨hr,I4⟩ => ?_
  subst hr;exact wpAny_pure (hR _ _ _ I4 qn)
 ·refine bA (T.item X rfl rfl rfl hc i [] s3 σ3 H3 _ I3 (stat fr3) st3 go) fun r s4 ⟨u,hr,h4⟩ => ?_
  subst hr;refine wpAny_bind (bA h4 fun _ s5 ⟨x,H5,I5,r5,y5,st5,fr5⟩ => ?_)
  have I5':=I5.pinned (stat fr5) (T.obj _ _ st5);refine wpAny_bind (noX (bA (hg _ s5 σ3 H5 x u _ I5' r5 (step x H5 y5)) fun _ s6 ⟨σ6,H6,I6,q6⟩ => ?_))
  have again':∀ {σ7:St} {H7:Hp} {s7:Shared},Inv X ([]++kh fp s5.heap) σ7 H7 s7->(∃m',m'<n/\W (i+1) m' σ7 H7)->∃m,m<n/\∃i σ' H',Inv X [] σ' H' s7/\tn i s7.heap/\(∀b∈fp,H' b=none)/\W i m σ' H':=fun {σ7 H7 s7} I7 n7=>by
   obtain⟨m',hm,w7⟩:=n7;refine⟨m',hm,i+1,σ7,H7,I7.iT,T.keep _ _ _ st5 fun b hb o e=>(I7.pin (b,o) (lR _ (lR _ (fX hb e)))).1,fun b hb => ?_,w7⟩
   obtain⟨o,e,d⟩:=T.obj _ _ st5 b hb;exact (I7.pin (b,o) (lR _ (lR _ (fX hb e)))).2.1
  refine wpAny_bind (noX (bA (hi _ s6 σ6 H6 _ I6 q6) fun ok s7 ⟨H7,I7,q7⟩ => ?_))
  cases ok with
  | false=>exact wpAny_pure ⟨rfl,again' I7 (hNx _ _ q7)⟩
  | true =>
   refine wpAny_bind (noX (bA (he _ s7 σ6 H7 _ I7 q7) fun _ s8 ⟨H8,I8,q8⟩ => ?_))
   exact wpAny_pure ⟨rfl,again' I8 (hNx _ _ q8)⟩
end
noncomputable def eApp (D:Addr) (te:TE):TM:=fun σ H R=>te σ H fun y H1=>∃xs,H1 D=some (.lst xs)/\xs.length<sizeLine/\R (upd H1 D (.lst (xs++[y])))
theorem wu {X:Cx} {elt:Expr} {te:TE} {D:Addr} (h:PE X elt te):Dk X (do let _ <-call (.builtin "list.append") [.ref D,<-eval elt X.env]) (eApp D te):=by
 intro pins s σ H R I hq;refine wpAny_bind (bA (h pins s σ H _ I hq) fun u s1 ⟨y,H1,I1,r1,xs,hD,hz,q⟩ => ?_)
 refine wpAny_bind (bA (dO pins s1 σ H1 (.ref D) [y] (.ref D) [u] (fun _ H'=>R H') I1 rfl (.cons r1 .nil) ⟨D,xs,y,rfl,rfl,hD,hz,q⟩) fun _ s2 ⟨v,H2,I2,_,q2⟩ => ?_)
 exact wpAny_pure ⟨H2,I2,q2⟩
noncomputable def Dl (fr:List (Option Nat)) (wi:TI) (g:Bk->TG) (tt:Bk->TT) (te:Bk->TE):TE:=fun σ H Q=>wi σ H fun J H1=>∀D,H1 D=none->∀z,qk (g z) (tt z) (eApp D (te z)) J (oO fr σ) (upd H1 D (.lst [])) fun H'=>Q (.ref D) H'
section
variable {X:Cx}
theorem kG {pins:List (Addr×Obj)} {σ τ:St} {H1 H3 H':Hp} {s2 s3 s':Shared} {fp:List Addr} {scope:Scope} {cl:List (Str×Addr)} {N:List Str} {h':Heap}
  (I2:Inv X pins σ H1 s2) (hf:∀b∈fp,iS X pins H1 b) (u23:Un (frs X.stack) [] H1 H3 s2.heap s3.heap) (ho:s3.os=s2.os) (hs:s2.heap.objs.size<=s3.heap.objs.size)
  (J:Inv (aD X scope cl N s3.heap.objs.size fp s3 H3) [] τ H' s') (sb:Heap.SameBut s3.heap.objs.size s'.heap h'):Inv X pins σ H' { s' with heap:=h' }:=by
 have hC:H' s3.heap.objs.size=none:=J.free;have hbase:Un (frs X.stack) fp H3 H' s3.heap s'.heap:=J.base;have u3:Un (frs X.stack) fp H1 H' s2.heap s'.heap:=(u23.mono (fun _ z=>z) (fun _ z=>nomatch z)).trans hbase
 have ne:∀b o,s2.heap.get? b=some o->b≠s3.heap.objs.size:=fun b o e=>Nat.ne_of_lt (Nat.lt_of_lt_of_le (Heap.lt_size e) hs)
 have u:Un (frs X.stack) fp H1 H' s2.heap h':=⟨fun b o e n h1 h2=>(sb.2 b (ne b o e)).trans (u3.keep b o e n h1 h2),fun b o e n h1 h2=>by
   obtain⟨sl,q⟩:=u3.slot b o e n h1 h2;exact⟨sl,(sb.2 b (ne b o e)).trans q⟩,u3.free,fun b o e h2=>by
   obtain⟨o',q⟩:=u3.there b o e h2;exact⟨o',(sb.2 b (ne b o e)).trans q⟩,u3.tups,u3.dH,u3.tbls⟩
 have hok:iA X.prog X.w H' h':=fun b ob e=>by
  have q:ck X.prog X.w H' s'.heap b ob:=J.hok b ob e;refine q.stay (fun c w' hc q=>(sb.2 c ?_).trans q) (fun _ q=>q) fun _ _ q=>q
  intro z;rw[z] at hc;rcases hc with rfl | hc
  ·rw[hC] at e; cases e
  ·rw[hC] at hc; cases hc
 refine I2.call' (s':={ s' with heap:=h' }) (H':=H') (ch:=fp) (J.os.trans ho) u hok J.bare fun b hb => ?_
 obtain⟨_,f1,_,f3,f4,f5⟩:=hf b hb;exact⟨f3,f1,f4,f5⟩
theorem pe_lc {elt target iter:Expr} {ifs:List Expr} {scope:Scope} {pos:Pos} {N:List Str} {fr:List (Option Nat)} {wi:TI} {g:Bk->TG} {tt:Bk->TT} {te:Bk->TE} (hc:X.calm=true) (S:aR X scope N fr) (hi:PI X target iter wi)
  (hin:∀z:Bk,PG (aD X scope z.cl N z.C z.fp z.s z.H) target (g z)/\rH (aD X scope z.cl N z.C z.fp z.s z.H) ifs (tt z)/\PE (aD X scope z.cl N z.C z.fp z.s z.H) elt (te z))
  (hs:∀x,foldedSetIterable iter X.env x=pure x:=by intro _; rfl):PE X (.ListComp elt [⟨target,iter,ifs,0⟩] scope pos) (Dl fr wi g tt te):=by
 intro pins s σ H Q I h;rw[eval_ListComp];refine wpAny_comprehension_free (g:=⟨target,iter,ifs,0⟩) (gs:=[]) (use:=none) rfl hs (cV (S.cells I)) S.kind S.locs ?_;refine bA (hi pins s σ H _ I h) fun v s1 h1=>bA h1 fun itv s2 h2 => ?_
 obtain⟨it,fp,tn,J,H2,e,I2,T,st2,f2,h2⟩:=h2;subst e;refine wpAny_newObj_type ?_;have hD:H2 s2.heap.objs.size=none:=I2.fresh;have I3:=I2.lnew (t':=s2.toks) (ys:=[]) (its:=[]) .nil (Nat.zero_le _);have lt2:∀b∈fp,b<s2.heap.objs.size:=fun b hb=>by
  obtain⟨o,e,_⟩:=T.obj _ _ st2 b hb;exact Heap.lt_size e
 have f3:∀b∈fp,iS X pins (upd H2 s2.heap.objs.size (.lst [])) b:=fun b hb=>⟨by rw[aB (Nat.ne_of_lt (lt2 b hb))]; exact (f2 b hb).1,(f2 b hb).2⟩
 generalize hs3:({ s2 with heap:=s2.heap.push { cls:=.type "list",data:=.seq ([]:List Value).toArray } }:Shared)=s3
 have I3:Inv X pins σ (upd H2 s2.heap.objs.size (.lst [])) s3:=by rw[<-hs3]; exact I3
 have sz3:s3.heap.objs.size=s2.heap.objs.size+1:=by rw[<-hs3]; exact Heap.size_push ..
 have u23:Un (frs X.stack) [] H2 (upd H2 s2.heap.objs.size (.lst [])) s2.heap s3.heap:=by
  rw[<-hs3];exact Un.laid (fun b o e=>Heap.get?_push_of_some _ e) (Nat.le_refl _) hD
 have ho:s3.os=s2.os:=by rw[<-hs3]
 have st3:tn 0 s3.heap:=T.keep _ _ _ st2 fun b _ o e=>by rw[<-hs3]; exact Heap.get?_push_of_some _ e
 refine wpAny_newFunctionEnv S.nocell (by intro y hy; simp at hy) (fun h4 hns hsb => ?_) S.kind
 have lt3:∀b∈fp,b<s3.heap.objs.size:=fun b hb=>Nat.lt_of_lt_of_le (lt2 b hb) (by rw[sz3]; exact Nat.le_succ _)
 have I4:=kF (tk:=s3.toks+([]:List (Str×Value)).length) I3 S f3 lt3 hns hsb;have old4:∀b o,s3.heap.get? b=some o->h4.get? b=some o:=fun b o e=>(hsb.2 b (Nat.ne_of_lt (Heap.lt_size e))).trans (Heap.get?_push_of_some _ e)
 have st4:tn 0 h4:=T.keep _ _ _ st3 fun b _ o e=>old4 b o e
 have h2:=h2 _ hD ⟨aM X.env.cells scope.names [],s3.heap.objs.size,fp,s3,upd H2 s2.heap.objs.size (.lst [])⟩;obtain⟨hg,hif,hel⟩:=hin ⟨aM X.env.cells scope.names [],s3.heap.objs.size,fp,s3,upd H2 s2.heap.objs.size (.lst [])⟩;have loop:codeAny (model X.prog X.w) X.A (.compLoop (.ListComp elt [⟨target,iter,ifs,0⟩] scope pos) 0 (.ref it) (.ref s2.heap.objs.size) (compEnvC scope (aM X.env.cells scope.names []) s3.heap.objs.size X.env))
   (compPost (model X.prog X.w) X.A X.xe none (EP X pins σ Q) (.ref s2.heap.objs.size) s3.heap.objs.size) { s3 with heap:=h4,toks:=s3.toks+([]:List (Str×Value)).length }:=by
  refine jB (X:=aD X scope (aM X.env.cells scope.names []) N s3.heap.objs.size fp s3 (upd H2 s2.heap.objs.size (.lst []))) (em:=(do let _ <-call (.builtin "list.append") [.ref s2.heap.objs.size,<-eval elt (compEnvC scope (aM X.env.cells scope.names []) s3.heap.objs.size X.env)]))
   (compTurn_list ..) (fun _ _ _ z=>z) rfl hc rfl hg hif (wu hel) T I4 st4 (fun b hb => ?_) h2 (fun τ' H' s' J' q => ?_)
  ·obtain⟨f0,f1,fs,fe,fc,fp'⟩:=f3 b hb
   refine⟨f0,Nat.ne_of_lt (lt3 b hb),fun z => ?_,.inl hb,fun x c e=>fc x c (dR scope.names [] (fun _ _ z=>by simp at z) e),fun p hp=>absurd (show p∈([]:List (Addr×Obj)) from hp) (by simp)⟩
   rcases lK (I3.jy b z) with z | z
   ·exact f1 z
   ·exact fs z
  ·obtain⟨m,hn,_⟩:=J'.loc
   exact⟨m,hn,fun h' sb=>⟨.ref s2.heap.objs.size,H',kG I2 f2 u23 ho (by rw[sz3]; exact Nat.le_succ _) J' sb,rfl,q⟩⟩
 exact codeAny_compStart_list loop (T.self X.A 0 _ _ _ st4 loop)
end
theorem compTurn_dict (ek ev target iter:Expr) (ifs:List Expr) (scope:Scope) (pos:Pos) (it:Value) (d:Addr) (env:Env) :
  compTurn (.DictComp ek ev [⟨target,iter,ifs,0⟩] scope pos) 0 it (.ref d) env=rJ target iter ifs (do
    let kv <-eval ek env
    let vv <-holding [kv] (eval ev env)
    standAt { ek.pos with endLine:=ev.pos.endLine,endCol:=ev.pos.endCol }
    holding [kv,vv] (dictSet d kv vv)) it env (again (.compLoop (.DictComp ek ev [⟨target,iter,ifs,0⟩] scope pos) 0 it (.ref d) env)):=by rfl
theorem codeAny_compStart_dict {prog:Program} {w:World} {A:Around} {R:Result->Shared->Prop} {s:Shared} {ek ev target iter ifs rest scope pos it acc env}
  (h0:codeAny (model prog w) A (.compLoop (.DictComp ek ev (⟨target,iter,ifs,0⟩::rest) scope pos) 0 it acc env) R s)
  (h:wpAny (model prog w) A (pyIter it) (fun it' s'=>codeAny (model prog w) A (.compLoop (.DictComp ek ev (⟨target,iter,ifs,0⟩::rest) scope pos) 0 it' acc env) R s')
   (notedBy (model prog w) A env fun x s'=>R (.error x) s') s) :
  codeAny (model prog w) A (.compStart (.DictComp ek ev (⟨target,iter,ifs,0⟩::rest) scope pos) 0 it acc env) R s:=by
 refine codeAny_of_tree ?_;show wpAny _ _ ((compStart (.DictComp ek ev (⟨target,iter,ifs,0⟩::rest) scope pos) 0 it acc env).onRaise (fun x=>do noteFrame x env; standAt theWindowsPlace)) _ _ s
 refine wpAny_notedAt ?_;unfold compStart;show wpAny _ _ (ask >>= _) _ _ s;refine wpAny_bind (wpAny_askSetting (wpAny_ite ?_))
 split
 ·first
   | exact wpAny_bind (wpAny_pure (wpAny_pure (And.intro rfl h0)))
   | exact wpAny_pure (And.intro rfl h0)
 ·first
   | exact wpAny_bind (wpAny_rule (wpAny_bind (wpAny_standAt (wpAny_bind (wpAny_mono h (fun it' s' h'=>wpAny_pure (And.intro rfl h')) fun _ _ x=>x)))))
   | (refine wpAny_bind (wpAny_rule ?_); show wpAny _ _ (standAt iter.pos >>= _) _ _ s; exact wpAny_bind (wpAny_standAt (wpAny_bind (wpAny_mono h (fun it' s' h'=>wpAny_pure (And.intro rfl h')) fun _ _ x=>x))))
noncomputable def ePut (D:Addr) (tk tv:TE):TM:=fun σ H R=>tk σ H fun y H1=>tv σ H1 fun v H2=>∃kvs k,y=kV k/\H2 D=some (.dK kvs)/\kvs.length<sizeLine/\R (upd H2 D (.dK (putK kvs k v)))
theorem d_set {X:Cx} {pins:List (Addr×Obj)} {σ:St} {H:Hp} {s:Shared} {A:Around} {E:Value->Shared->Prop} {a:Addr} {k:Key} {v:V} {u r:Value} {kvs:List (Key×V)} {Q:Unit->Shared->Prop} (I:Inv X pins σ H s) (e:H a=some (.dK kvs)) (l:kvs.length<sizeLine) (ry:RelV (kV k) u) (rv:RelV v r)
  (h:∀s',Inv X pins σ (upd H a (.dK (putK kvs k v))) s'->Q () s'):wpAny (model X.prog X.w) A (dictSet a u r) Q E s:=by
 obtain⟨z,hd,vs,rel,dd⟩:=v9 I.hok e;have hz:vs.length<=sizeLine:=by rw[<-rel.length]; exact z
 have hl:(putK kvs k v).length<=sizeLine:=by have:=gx kvs k v; lia
 refine wpAny_dictSet_pairs (hsz:=hz) (nC ry) dd fun h' dd' hs=>h _ ?_
 have he:∃q,h'.get? a=some q:=let ⟨q,_,_,hq,_⟩:=dd'; ⟨q,hq⟩;exact oK I (by rw[e]; exact True.intro) hs he (we hl hd (rel.put k rv) dd')
theorem Bh {X:Cx} {ek ev:Expr} {tk tv:TE} {D:Addr} {p:Pos} (hk:PE X ek tk) (hv:PE X ev tv):Dk X (do
        let kv <-eval ek X.env
        let vv <-holding [kv] (eval ev X.env)
        standAt p
        holding [kv,vv] (dictSet D kv vv)) (ePut D tk tv):=by
  intro pins s σ H R I hq;refine wpAny_bind (bA (hk pins s σ H _ I hq) fun u s1 ⟨y,H1,I1,r1,q1⟩ => ?_)
  refine wpAny_bind (wpAny_holding (bA (hv pins s1 σ H1 _ I1 q1) fun r s2 ⟨v,H2,I2,r2,q2⟩ => ?_))
  obtain⟨kvs,k,e,hD,hz,q⟩:=q2;subst e;exact wpAny_bind (wpAny_standAt (wpAny_holding (d_set I2 hD hz r1 r2 fun s3 I3=>⟨_,I3,q⟩)))
noncomputable def DA (fr:List (Option Nat)) (wi:TI) (g:Bk->TG) (tt:Bk->TT) (tk tv:Bk->TE):TE:=fun σ H Q=>wi σ H fun J H1=>∀D,H1 D=none->∀z,qk (g z) (tt z) (ePut D (tk z) (tv z)) J (oO fr σ) (upd H1 D (.dK [])) fun H'=>Q (.ref D) H'
section
variable {X:Cx}
theorem pe_dc {ek ev target iter:Expr} {ifs:List Expr} {scope:Scope} {pos:Pos} {N:List Str} {fr:List (Option Nat)} {wi:TI} {g:Bk->TG} {tt:Bk->TT} {tk tv:Bk->TE} (hc:X.calm=true) (S:aR X scope N fr) (hi:PI X target iter wi)
  (hin:∀z:Bk,PG (aD X scope z.cl N z.C z.fp z.s z.H) target (g z)/\rH (aD X scope z.cl N z.C z.fp z.s z.H) ifs (tt z)/\PE (aD X scope z.cl N z.C z.fp z.s z.H) ek (tk z)/\PE (aD X scope z.cl N z.C z.fp z.s z.H) ev (tv z))
  (hs:∀x,foldedSetIterable iter X.env x=pure x:=by intro _; rfl):PE X (.DictComp ek ev [⟨target,iter,ifs,0⟩] scope pos) (DA fr wi g tt tk tv):=by
 intro pins s σ H Q I h;show wpAny _ _ (comprehension (.DictComp ek ev [⟨target,iter,ifs,0⟩] scope pos) scope X.env (firstIterPos [⟨target,iter,ifs,0⟩] pos) newDict (firstAsync [⟨target,iter,ifs,0⟩]) (firstIter [⟨target,iter,ifs,0⟩] X.env)) _ _ s;refine wpAny_comprehension_free (g:=⟨target,iter,ifs,0⟩) (gs:=[]) (use:=none) rfl hs (cV (S.cells I)) S.kind S.locs ?_;refine bA (hi pins s σ H _ I h) fun v s1 h1=>bA h1 fun itv s2 h2 => ?_
 obtain⟨it,fp,tn,J,H2,e,I2,T,st2,f2,h2⟩:=h2;subst e;refine wpAny_newObj_type ?_;have hD:H2 s2.heap.objs.size=none:=I2.fresh;have I3:=I2.laid (a:=s2.heap.objs.size) (o:=.dK []) (t':=s2.toks) (fun _ _ q=>Heap.get?_push_of_some _ q) (Nat.le_refl _) (wm s2.heap I2.big)
 have lt2:∀b∈fp,b<s2.heap.objs.size:=fun b hb=>by
  obtain⟨o,e,_⟩:=T.obj _ _ st2 b hb;exact Heap.lt_size e
 have f3:∀b∈fp,iS X pins (upd H2 s2.heap.objs.size (.dK [])) b:=fun b hb=>⟨by rw[aB (Nat.ne_of_lt (lt2 b hb))]; exact (f2 b hb).1,(f2 b hb).2⟩
 generalize hs3:({ s2 with heap:=s2.heap.push { cls:=.type "dict",data:=.dict #[] } }:Shared)=s3
 have I3:Inv X pins σ (upd H2 s2.heap.objs.size (.dK [])) s3:=by rw[<-hs3]; exact I3
 have sz3:s3.heap.objs.size=s2.heap.objs.size+1:=by rw[<-hs3]; exact Heap.size_push ..
 have u23:Un (frs X.stack) [] H2 (upd H2 s2.heap.objs.size (.dK [])) s2.heap s3.heap:=by
  rw[<-hs3];exact Un.laid (fun b o e=>Heap.get?_push_of_some _ e) (Nat.le_refl _) hD
 have ho:s3.os=s2.os:=by rw[<-hs3]
 have st3:tn 0 s3.heap:=T.keep _ _ _ st2 fun b _ o e=>by rw[<-hs3]; exact Heap.get?_push_of_some _ e
 refine wpAny_newFunctionEnv S.nocell (by intro y hy; simp at hy) (fun h4 hns hsb => ?_) S.kind
 have lt3:∀b∈fp,b<s3.heap.objs.size:=fun b hb=>Nat.lt_of_lt_of_le (lt2 b hb) (by rw[sz3]; exact Nat.le_succ _)
 have I4:=kF (tk:=s3.toks+([]:List (Str×Value)).length) I3 S f3 lt3 hns hsb;have old4:∀b o,s3.heap.get? b=some o->h4.get? b=some o:=fun b o e=>(hsb.2 b (Nat.ne_of_lt (Heap.lt_size e))).trans (Heap.get?_push_of_some _ e)
 have st4:tn 0 h4:=T.keep _ _ _ st3 fun b _ o e=>old4 b o e
 have h2:=h2 _ hD ⟨aM X.env.cells scope.names [],s3.heap.objs.size,fp,s3,upd H2 s2.heap.objs.size (.dK [])⟩;obtain⟨hg,hif,hek,hev⟩:=hin ⟨aM X.env.cells scope.names [],s3.heap.objs.size,fp,s3,upd H2 s2.heap.objs.size (.dK [])⟩;have loop:codeAny (model X.prog X.w) X.A (.compLoop (.DictComp ek ev [⟨target,iter,ifs,0⟩] scope pos) 0 (.ref it) (.ref s2.heap.objs.size) (compEnvC scope (aM X.env.cells scope.names []) s3.heap.objs.size X.env))
   (compPost (model X.prog X.w) X.A X.xe none (EP X pins σ Q) (.ref s2.heap.objs.size) s3.heap.objs.size) { s3 with heap:=h4,toks:=s3.toks+([]:List (Str×Value)).length }:=by
  refine jB (X:=aD X scope (aM X.env.cells scope.names []) N s3.heap.objs.size fp s3 (upd H2 s2.heap.objs.size (.dK [])))
   (compTurn_dict ..) (fun _ _ _ z=>z) rfl hc rfl hg hif (Bh hek hev) T I4 st4 (fun b hb => ?_) h2 (fun τ' H' s' J' q => ?_)
  ·obtain⟨f0,f1,fs,fe,fc,fp'⟩:=f3 b hb
   refine⟨f0,Nat.ne_of_lt (lt3 b hb),fun z => ?_,.inl hb,fun x c e=>fc x c (dR scope.names [] (fun _ _ z=>by simp at z) e),fun p hp=>absurd (show p∈([]:List (Addr×Obj)) from hp) (by simp)⟩
   rcases lK (I3.jy b z) with z | z
   ·exact f1 z
   ·exact fs z
  ·obtain⟨m,hn,_⟩:=J'.loc
   exact⟨m,hn,fun h' sb=>⟨.ref s2.heap.objs.size,H',kG I2 f2 u23 ho (by rw[sz3]; exact Nat.le_succ _) J' sb,rfl,q⟩⟩
 exact codeAny_compStart_dict loop (T.self X.A 0 _ _ _ st4 loop)
end
end L2
end
section
namespace L2
open PySem PySem.W PyProof.Rows
structure Ord (lt:Nat->Nat->Bool):Prop where
 asym:∀a b,lt a b=true->lt b a=false
 trans:∀a b c,lt b a=false->lt c b=false->lt c a=false
section
variable {lt:Nat->Nat->Bool} {N:Nat}
noncomputable abbrev gD (p:Array Nat) (i:Nat):Nat:=p.getD i 0
def Bj (lt:Nat->Nat->Bool) (p:Array Nat) (m:Nat):Prop:=∀i j,i<=j->j<m->lt (gD p j) (gD p i)=false
def Pm (N:Nat) (p:Array Nat):Prop:=p.Perm (List.toArray (List.range N))
theorem Pm.size {p:Array Nat} (h:Pm N p):p.size=N:=by
 have:=h.size_eq;simpa using this
theorem ql (O:Ord lt) (a:Nat):lt a a=false:=by
 cases q:lt a a with
 | false=>rfl
 | true=>rw[O.asym _ _ q] at q; cases q
end
end L2
end
section
namespace TS
open PySem PySem.W PyProof.Rows L2
noncomputable def oQ:Bool->Keyed->Array Keyed->Nat->Nat->Nat->StateT SortSt Sem (Option Nat):=sortPriv% PySem.Builtin.gallop
noncomputable def wz:Array Keyed->Array Keyed->StateT SortSt Sem (Array Keyed):=sortPriv% PySem.Builtin.mergeLo
noncomputable def wB:Array Keyed->Array Keyed->StateT SortSt Sem (Array Keyed):=sortPriv% PySem.Builtin.mergeHi
noncomputable def yW:Nat->StateT SortSt Sem Unit:=sortPriv% PySem.Builtin.setMinGallop
section
variable {prog:Program} {w:World} {A:Around} {S:Shared} {κ:SortKind} {it:Array Keyed} {lt:Nat->Nat->Bool} {N:Nat}
def vF (prog:Program) (w:World) (A:Around) (S:Shared) (κ:SortKind) (it:Array Keyed) (lt:Nat->Nat->Bool) (N:Nat):Prop :=
 ∀i j,i<N->j<N->∀C:Bool->Shared->Prop,C (lt i j) S->wpAny (model prog w) A (keyLt' κ (kas_item it i).1 (kas_item it j).1) C (fun _ _=>False) S
abbrev W (prog:Program) (w:World) (A:Around) (S:Shared) {α:Type} (m:StateT SortSt Sem α) (Q:α->SortSt->Prop) (st:SortSt):Prop:=wpS (model prog w) A (fun _ _=>False) S m Q st
theorem w_lt (c:vF prog w A S κ it lt N) {i j:Nat} (hi:i<N) (hj:j<N) {st:SortSt} (hk:kindOf st=κ) {Q:Option Bool->SortSt->Prop} (h:Q (some (lt i j)) st):W prog w A S (lt' (kas_item it i) (kas_item it j)) Q st:=by
 show wpS _ _ _ _ _ _ _;rw[lt'_eq];refine wpS_bind (wpS_get ?_);rw[hk];refine wpS_bind (wpS_lift (wpAny_attempt (wpAny_mono (c i j hi hj (fun b s'=>s'=S/\b=lt i j) ⟨rfl,rfl⟩) (fun b s' e => ?_) fun _ _ z=>z.elim)))
 obtain⟨rfl,rfl⟩:=e;exact⟨rfl,wpS_pure h⟩
theorem bg {xs:List Nat} {i:Nat} (hi:i<xs.length) {st:SortSt} {Q:Keyed->SortSt->Prop} (h:Q (kas_item it xs[i]) st):W prog w A S (elem' ((xs.map (kas_item it)).toArray) i) Q st:=by
 show wpS _ _ _ _ _ _ _;rw[elem'_eq];have e:((xs.map (kas_item it)).toArray)[i]? = some (kas_item it xs[i]):=by simp[hi]
 rw[e];exact wpS_pure h
structure Cut (B:Nat->Bool) (n k:Nat):Prop where
 le:k<=n
 lo:∀i,i<k->B i=true
 hi:∀i,k<=i->i<n->B i=false
theorem kH {B:Nat->Bool} {n hint:Nat} (mono:∀i j,i<=j->j<n->B j=true->B i=true) (hh:hint<n) {left:Bool} {key:Keyed} {xs:Array Keyed} {base:Nat} {P:SortSt->Prop}
  (hb:∀i,i<n->∀st,P st->∀ (Q:Option Bool->SortSt->Prop),Q (some (B i)) st->W prog w A S (do
   let x <-elem' xs (base+i)
   if left=true then lt' x key else return (<-lt' key x).map (!·)) Q st)
  {st:SortSt} (hP:P st) {Q:Option Nat->SortSt->Prop} (h:∀k,Cut B n k->Q (some k) st):W prog w A S (oQ left key xs base n hint) Q st:=by
 refine wpS_bind (hb hint hh st hP _ ?_);cases e0:B hint with
 | true =>
  show wpS _ _ _ _ _ _ _;dsimp only;rw[if_pos rfl];refine wpS_bind (wpS_mono (wpS_forRange (I:=fun x c st'=>st'=st/\∃l o,c=(none,l,o)/\B (hint+l)=true/\hint+l<n/\l<o/\x<o) (Q:=fun c st'=>st'=st/\∃l o,c=(none,l,o)/\B (hint+l)=true/\hint+l<n/\l<o/\(o>=n-hint\/(o<n-hint/\B (hint+o)=false))) ?_ ?_ ⟨rfl,0,1,rfl,e0,hh,by lia,by lia⟩) ?_)
  ·rintro x c st' _ hx ⟨rfl,l,o,rfl,k1,k2,k3,k4⟩
   dsimp only
   by_cases hge:o>=n-hint
   ·rw[if_pos hge]; exact wpS_pure ⟨rfl,l,o,rfl,k1,k2,k3,.inl hge⟩
   ·rw[if_neg hge]
    refine wpS_bind (hb _ (by lia) st' hP _ ?_)
    cases e:B (hint+o) with
    | true=>exact wpS_pure ⟨rfl,_,_,rfl,e,by lia,by lia,by lia⟩
    | false=>exact wpS_pure ⟨rfl,l,o,rfl,k1,k2,k3,.inr ⟨by lia,e⟩⟩
  ·rintro c st' ⟨rfl,l,o,rfl,k1,k2,k3,k4⟩
   exact⟨rfl,l,o,rfl,k1,k2,k3,.inl (by lia)⟩
  ·rintro c st' ⟨rfl,l,o,rfl,k1,k2,k3,k4⟩
   obtain⟨lo,elo⟩:∃lo,lo=hint+l+1:=⟨_,rfl⟩;obtain⟨hi,ehi⟩:∃hi,hi=hint+min o (n-hint):=⟨_,rfl⟩;have l1:lo<=hi:=by lia
   have l2:hi<=n:=by lia
   have l3:∀i,i<lo->B i=true:=fun i hi=>by
    exact mono i _ (by lia) k2 k1
   have l4:∀i,hi<=i->i<n->B i=false:=fun i h1 h2=>by
    rcases k4 with k4 | ⟨k4,k5⟩
    ·lia
    ·cases q:B i with
     | false=>rfl
     | true=>rw[mono _ i (by lia) h2 q] at k5; cases k5
   dsimp only;rw[<-elo,<-ehi]
   clear elo ehi
   refine wpS_bind (wpS_mono (wpS_forRange (I:=fun x c st''=>st''=st'/\∃lo hi,c=(none,lo,hi)/\lo<=hi/\hi<=n/\(∀i,i<lo->B i=true)/\(∀i,hi<=i->i<n->B i=false)/\hi-lo<=n-x) (Q:=fun c st''=>st''=st'/\∃hi,c=(none,hi,hi)/\Cut B n hi) ?_ ?_ ⟨rfl,lo,hi,rfl,l1,l2,l3,l4,by lia⟩) ?_)
   ·rintro x c st'' _ hx ⟨rfl,lo,hi,rfl,l1,l2,l3,l4,l5⟩
    dsimp only
    by_cases hge:lo>=hi
    ·rw[if_pos hge]
     have:lo=hi:=by lia
     subst this;exact wpS_pure ⟨rfl,lo,rfl,l2,l3,l4⟩
    ·rw[if_neg hge]
     refine wpS_bind (hb _ (by lia) st'' hP _ ?_)
     cases e:B (lo+(hi-lo) / 2) with
     | true=>exact wpS_pure ⟨rfl,_,_,rfl,by lia,l2,fun i hi'=>mono i _ (by lia) (by lia) e,l4,by lia⟩
     | false =>
      refine wpS_pure ⟨rfl,_,_,rfl,by lia,by lia,l3,fun i h1 h2 => ?_,by lia⟩
      cases q:B i with
      | false=>rfl
      | true=>rw[mono _ i h1 h2 q] at e; cases e
   ·rintro c st'' ⟨rfl,lo,hi,rfl,l1,l2,l3,l4,l5⟩
    have:lo=hi:=by lia
    subst this;exact⟨rfl,lo,rfl,l2,l3,l4⟩
   ·rintro c st'' ⟨rfl,hi,rfl,hc⟩
    exact wpS_pure (h hi hc)
 | false =>
  show wpS _ _ _ _ _ _ _;dsimp only;rw[if_neg (by simp)]
  refine wpS_bind (wpS_mono (wpS_forRange (I:=fun x c st'=>st'=st/\∃l o,c=(none,l,o)/\B (hint-l)=false/\l<=hint/\l<o/\x<o) (Q:=fun c st'=>st'=st/\∃l o,c=(none,l,o)/\B (hint-l)=false/\l<=hint/\l<o/\(o>=hint+1\/(o<hint+1/\B (hint-o)=true))) ?_ ?_ ⟨rfl,0,1,rfl,e0,by lia,by lia,by lia⟩) ?_)
  ·rintro x c st' _ hx ⟨rfl,l,o,rfl,k1,k2,k3,k4⟩
   dsimp only
   by_cases hge:o>=hint+1
   ·rw[if_pos hge]; exact wpS_pure ⟨rfl,l,o,rfl,k1,k2,k3,.inl hge⟩
   ·rw[if_neg hge]
    refine wpS_bind (hb _ (by lia) st' hP _ ?_)
    cases e:B (hint-o) with
    | false=>exact wpS_pure ⟨rfl,_,_,rfl,e,by lia,by lia,by lia⟩
    | true=>exact wpS_pure ⟨rfl,l,o,rfl,k1,k2,k3,.inr ⟨by lia,e⟩⟩
  ·rintro c st' ⟨rfl,l,o,rfl,k1,k2,k3,k4⟩
   exact⟨rfl,l,o,rfl,k1,k2,k3,.inl (by lia)⟩
  ·rintro c st' ⟨rfl,l,o,rfl,k1,k2,k3,k4⟩
   obtain⟨lo,elo⟩:∃lo,lo=hint+1-min o (hint+1):=⟨_,rfl⟩;obtain⟨hi,ehi⟩:∃hi,hi=hint-l:=⟨_,rfl⟩;have l1:lo<=hi:=by lia
   have l2:hi<=n:=by lia
   have l3:∀i,i<lo->B i=true:=fun i hi=>by
    rcases k4 with k4 | ⟨k4,k5⟩
    ·lia
    ·exact mono i _ (by lia) (by lia) k5
   have l4:∀i,hi<=i->i<n->B i=false:=fun i h1 h2=>by
    cases q:B i with
    | false=>rfl
    | true=>rw[mono _ i (by lia) h2 q] at k1; cases k1
   dsimp only;rw[<-elo,<-ehi]
   clear elo ehi
   refine wpS_bind (wpS_mono (wpS_forRange (I:=fun x c st''=>st''=st'/\∃lo hi,c=(none,lo,hi)/\lo<=hi/\hi<=n/\(∀i,i<lo->B i=true)/\(∀i,hi<=i->i<n->B i=false)/\hi-lo<=n-x) (Q:=fun c st''=>st''=st'/\∃hi,c=(none,hi,hi)/\Cut B n hi) ?_ ?_ ⟨rfl,lo,hi,rfl,l1,l2,l3,l4,by lia⟩) ?_)
   ·rintro x c st'' _ hx ⟨rfl,lo,hi,rfl,l1,l2,l3,l4,l5⟩
    dsimp only
    by_cases hge:lo>=hi
    ·rw[if_pos hge]
     have:lo=hi:=by lia
     subst this;exact wpS_pure ⟨rfl,lo,rfl,l2,l3,l4⟩
    ·rw[if_neg hge]
     refine wpS_bind (hb _ (by lia) st'' hP _ ?_)
     cases e:B (lo+(hi-lo) / 2) with
     | true=>exact wpS_pure ⟨rfl,_,_,rfl,by lia,l2,fun i hi'=>mono i _ (by lia) (by lia) e,l4,by lia⟩
     | false =>
      refine wpS_pure ⟨rfl,_,_,rfl,by lia,by lia,l3,fun i h1 h2 => ?_,by lia⟩
      cases q:B i with
      | false=>rfl
      | true=>rw[mono _ i h1 h2 q] at e; cases e
   ·rintro c st'' ⟨rfl,lo,hi,rfl,l1,l2,l3,l4,l5⟩
    have:lo=hi:=by lia
    subst this;exact⟨rfl,lo,rfl,l2,l3,l4⟩
   ·rintro c st'' ⟨rfl,hi,rfl,hc⟩
    exact wpS_pure (h hi hc)
end
def Sd (lt:Nat->Nat->Bool) (l:List Nat):Prop:=l.Pairwise fun x y=>lt y x=false
structure MI (lt:Nat->Nat->Bool) (a b out:List Nat) (ia ib:Nat):Prop where
 perm:out.Perm (a.take ia++b.take ib)
 srt:Sd lt out
 lea:∀o∈out,∀r∈a.drop ia,lt r o=false
 leb:∀o∈out,∀r∈b.drop ib,lt r o=false
section
variable {lt:Nat->Nat->Bool} {a b out:List Nat} {ia ib:Nat}
theorem MI.sym (m:MI lt a b out ia ib):MI lt b a out ib ia:=⟨m.perm.trans List.perm_append_comm,m.srt,m.leb,m.lea⟩
theorem uO (l:List Nat) (i k:Nat):l.take (i+k)=l.take i++(l.drop i).take k:=by rw[List.take_add]
theorem mO {l:List Nat} {i k:Nat} {x:Nat} (h:x∈(l.drop i).take k):x∈l.drop i:=List.mem_of_mem_take h
theorem oR {l:List Nat} {i k:Nat} {x:Nat} (h:x∈l.drop (i+k)):x∈l.drop i:=by rw[<-List.drop_drop] at h; exact List.mem_of_mem_drop h
theorem Sd.drop (h:Sd lt a) (i:Nat):Sd lt (a.drop i):=List.Pairwise.sublist (List.drop_sublist i a) h
theorem Sd.take (h:Sd lt a) (i:Nat):Sd lt (a.take i):=List.Pairwise.sublist (List.take_sublist i a) h
theorem MI.ie (m:MI lt a b out ia ib) (ha:Sd lt a) (k:Nat) (h:∀x∈(a.drop ia).take k,∀r∈b.drop ib,lt r x=false):MI lt a b (out++(a.drop ia).take k) (ia+k) ib:=by
 have hs:=ha.drop ia;refine⟨?_,?_,fun o ho r hr => ?_,fun o ho r hr => ?_⟩
 ·rw[uO]
  have h1:(out++(a.drop ia).take k).Perm ((a.take ia++b.take ib)++(a.drop ia).take k):=m.perm.append_right _;refine h1.trans ?_;rw[List.append_assoc,List.append_assoc];exact List.Perm.append_left _ List.perm_append_comm
 ·exact List.pairwise_append.mpr ⟨m.srt,Sd.take hs k,fun o ho r hr=>m.lea o ho r (mO hr)⟩
 ·rcases lM ho with ho | ho
  ·exact m.lea o ho r (oR hr)
  ·have h2:=hs
   unfold Sd at h2;rw[<-List.take_append_drop k (a.drop ia)] at h2;rw[<-List.drop_drop] at hr;exact (List.pairwise_append.mp h2).2.2 o ho r hr
 ·rcases lM ho with ho | ho
  ·exact m.leb o ho r hr
  ·exact h o ho r hr
theorem MI.jQ (m:MI lt a b out ia ib) (hb:Sd lt b) (k:Nat) (h:∀x∈(b.drop ib).take k,∀r∈a.drop ia,lt r x=false):MI lt a b (out++(b.drop ib).take k) ia (ib+k):=(m.sym.ie hb k h).sym
theorem take_one {l:List Nat} {i:Nat} (h:i<l.length):(l.drop i).take 1=[l[i]]:=by
 rw[List.drop_eq_getElem_cons h,List.take_succ_cons,List.take_zero]
def Res (lt:Nat->Nat->Bool) (a b res:List Nat):Prop:=Sd lt res/\res.Perm (a++b)
theorem MI.done (m:MI lt a b out ia ib) (ha:Sd lt a) (hb:Sd lt b) (h:ib=b.length\/ia=a.length):Res lt a b (out++a.drop ia++b.drop ib):=by
 refine⟨?_,?_⟩
 ·refine List.pairwise_append.mpr ⟨List.pairwise_append.mpr ⟨m.srt,ha.drop ia,fun o ho r hr=>m.lea o ho r hr⟩,hb.drop ib,fun o ho r hr => ?_⟩
  rcases lM ho with ho | ho
  ·exact m.leb o ho r hr
  ·rcases h with h | h
   ·rw[h,List.drop_length] at hr; cases hr
   ·rw[h,List.drop_length] at ho; cases ho
 ·have:(out++a.drop ia++b.drop ib).Perm ((a.take ia++b.take ib)++a.drop ia++b.drop ib):=(m.perm.append_right _).append_right _
  refine this.trans ?_;have e:a++b=(a.take ia++a.drop ia)++(b.take ib++b.drop ib):=by rw[List.take_append_drop,List.take_append_drop]
  rw[e,List.append_assoc (a.take ia),List.append_assoc (a.take ia),List.append_assoc (a.take ia)];refine List.Perm.append_left _ ?_;rw[<-List.append_assoc (a.drop ia)];exact List.perm_append_comm.append_right _
theorem MI.s9 (m:MI lt a b out ia ib) (ha:Sd lt a) (hb:Sd lt b) (h:∀y∈b,∀x∈a.drop ia,lt x y=false):Res lt a b (out++b.drop ib++a.drop ia):=by
 refine⟨?_,?_⟩
 ·refine List.pairwise_append.mpr ⟨List.pairwise_append.mpr ⟨m.srt,hb.drop ib,fun o ho r hr=>m.leb o ho r hr⟩,ha.drop ia,fun o ho r hr => ?_⟩
  rcases lM ho with ho | ho
  ·exact m.lea o ho r hr
  ·exact h o (List.mem_of_mem_drop ho) r hr
 ·have:(out++b.drop ib++a.drop ia).Perm ((a.take ia++b.take ib)++b.drop ib++a.drop ia):=(m.perm.append_right _).append_right _
  refine this.trans ?_;have e:a++b=(a.take ia++a.drop ia)++(b.take ib++b.drop ib):=by rw[List.take_append_drop,List.take_append_drop]
  rw[e,List.append_assoc (a.take ia),List.append_assoc (a.take ia),List.append_assoc (a.take ia),List.take_append_drop];exact List.Perm.append_left _ List.perm_append_comm
end
section
variable {prog:Program} {w:World} {A:Around} {S:Shared} {κ:SortKind} {it:Array Keyed} {lt:Nat->Nat->Bool} {N:Nat}
theorem nI (c:vF prog w A S κ it lt N) {key:Nat} (hk:key<N) {xs:List Nat} (hx:∀x∈xs,x<N) {base n:Nat} (hn:base+n<=xs.length) (left:Bool) (i:Nat) (hi:i<n) (st:SortSt) (hst:kindOf st=κ) (Q:Option Bool->SortSt->Prop)
  (h:Q (some (if left=true then lt (xs.getD (base+i) 0) key else !lt key (xs.getD (base+i) 0))) st):W prog w A S (do
   let x <-elem' ((xs.map (kas_item it)).toArray) (base+i)
   if left=true then lt' x (kas_item it key) else return (<-lt' (kas_item it key) x).map (!·)) Q st:=by
 have hb:base+i<xs.length:=by lia
 have e:xs.getD (base+i) 0=xs[base+i]:=by simp[List.getD,hb]
 have hxi:xs[base+i]<N:=hx _ (List.getElem_mem hb);rw[e] at h;refine wpS_bind (bg hb ?_);cases left with
 | true =>
  rw[if_pos rfl];rw[if_pos rfl] at h;exact w_lt c hxi hk hst h
 | false =>
  rw[if_neg (by simp)]
  rw[if_neg (by simp)] at h
  exact wpS_bind (w_lt c hk hxi hst (wpS_pure h))
theorem kI (O:Ord lt) (c:vF prog w A S κ it lt N) {key:Nat} (hk:key<N) {xs:List Nat} (hx:∀x∈xs,x<N) {base n hint:Nat} (hn:base+n<=xs.length) (hs:Sd lt ((xs.drop base).take n)) (hh:hint<n) {st:SortSt} (hst:kindOf st=κ) {Q:Option Nat->SortSt->Prop}
  (h:∀k,k<=n->(∀x∈(xs.drop base).take k,lt key x=false)->(∀x∈((xs.drop base).take n).drop k,lt key x=true)->Q (some k) st):W prog w A S (oQ false (kas_item it key) ((xs.map (kas_item it)).toArray) base n hint) Q st:=by
 have at_:∀i,i<n->((xs.drop base).take n)[i]? = some (xs.getD (base+i) 0):=fun i hi=>by
  rw[List.getElem?_take_of_lt hi,List.getElem?_drop,List.getElem?_eq_getElem (by lia)]
  simp[List.getD,show base+i<xs.length by lia]
 have le:∀i j,i<=j->j<n->lt (xs.getD (base+j) 0) (xs.getD (base+i) 0)=false:=fun i j hij hj=>by
  by_cases e:i=j
  ·subst e; exact ql O _
  ·obtain⟨h1,e1⟩:=List.getElem?_eq_some_iff.mp (at_ i (by lia))
   obtain⟨h2,e2⟩:=List.getElem?_eq_some_iff.mp (at_ j hj);have:=List.pairwise_iff_getElem.mp hs i j h1 h2 (by lia)
   rw[e1,e2] at this;exact this
 refine kH (B:=fun i => !lt key (xs.getD (base+i) 0)) (n:=n) (P:=fun st=>kindOf st=κ) (fun i j hij hj q => ?_) hh (fun i hi st hst Q q=>nI c hk hx hn false i hi st hst Q (by simpa using q)) hst fun k cut=>h k cut.le (fun x hx' => ?_) fun x hx' => ?_
 ·have q:lt key (xs.getD (base+j) 0)=false:=by simpa using q
  have:=O.trans _ _ _ (le i j hij hj) q;simpa using this
 ·obtain⟨i,hi,e⟩:=List.getElem_of_mem hx'
  have hl:=hi;rw[List.length_take] at hl;have ek:=cut.lo i (by lia)
  have e2:=at_ i (by have:=cut.le; lia)
  have hik:i<k:=by lia
  have hin:i<n:=by have:=cut.le; lia
  have e3:((xs.drop base).take k)[i]? = some x:=by rw[List.getElem?_eq_getElem hi,e]
  rw[List.getElem?_take_of_lt hik] at e3;rw[List.getElem?_take_of_lt hin,e3] at e2;rw[<-Option.some.inj e2] at ek;simpa using ek
 ·obtain⟨i,hi,e⟩:=List.getElem_of_mem hx'
  rw[List.length_drop,List.length_take,List.length_drop] at hi;rw[List.getElem_drop] at e;have e2:=at_ (k+i) (by lia)
  rw[List.getElem?_eq_getElem (by rw[List.length_take,List.length_drop]; lia),e] at e2
  have ek:=cut.hi (k+i) (by lia) (by lia)
  rw[<-Option.some.inj e2] at ek;simpa using ek
theorem kJ (O:Ord lt) (c:vF prog w A S κ it lt N) {key:Nat} (hk:key<N) {xs:List Nat} (hx:∀x∈xs,x<N) {base n hint:Nat} (hn:base+n<=xs.length) (hs:Sd lt ((xs.drop base).take n)) (hh:hint<n) {st:SortSt} (hst:kindOf st=κ) {Q:Option Nat->SortSt->Prop}
  (h:∀k,k<=n->(∀x∈(xs.drop base).take k,lt x key=true)->(∀x∈((xs.drop base).take n).drop k,lt x key=false)->Q (some k) st):W prog w A S (oQ true (kas_item it key) ((xs.map (kas_item it)).toArray) base n hint) Q st:=by
 have at_:∀i,i<n->((xs.drop base).take n)[i]? = some (xs.getD (base+i) 0):=fun i hi=>by
  rw[List.getElem?_take_of_lt hi,List.getElem?_drop,List.getElem?_eq_getElem (by lia)]
  simp[List.getD,show base+i<xs.length by lia]
 have le:∀i j,i<=j->j<n->lt (xs.getD (base+j) 0) (xs.getD (base+i) 0)=false:=fun i j hij hj=>by
  by_cases e:i=j
  ·subst e; exact ql O _
  ·obtain⟨h1,e1⟩:=List.getElem?_eq_some_iff.mp (at_ i (by lia))
   obtain⟨h2,e2⟩:=List.getElem?_eq_some_iff.mp (at_ j hj);have:=List.pairwise_iff_getElem.mp hs i j h1 h2 (by lia)
   rw[e1,e2] at this;exact this
 refine kH (B:=fun i=>lt (xs.getD (base+i) 0) key) (n:=n) (P:=fun st=>kindOf st=κ) (fun i j hij hj q => ?_) hh (fun i hi st hst Q q=>nI c hk hx hn true i hi st hst Q (by simpa using q)) hst fun k cut=>h k cut.le (fun x hx' => ?_) fun x hx' => ?_
 ·cases z:lt (xs.getD (base+i) 0) key with
  | true=>rfl
  | false=>rw[O.trans _ _ _ z (le i j hij hj)] at q; cases q
 ·obtain⟨i,hi,e⟩:=List.getElem_of_mem hx'
  have hl:=hi;rw[List.length_take] at hl;have ek:=cut.lo i (by lia)
  have e2:=at_ i (by have:=cut.le; lia)
  have hik:i<k:=by lia
  have hin:i<n:=by have:=cut.le; lia
  have e3:((xs.drop base).take k)[i]? = some x:=by rw[List.getElem?_eq_getElem hi,e]
  rw[List.getElem?_take_of_lt hik] at e3;rw[List.getElem?_take_of_lt hin,e3] at e2;rw[<-Option.some.inj e2] at ek;simpa using ek
 ·obtain⟨i,hi,e⟩:=List.getElem_of_mem hx'
  rw[List.length_drop,List.length_take,List.length_drop] at hi;rw[List.getElem_drop] at e;have e2:=at_ (k+i) (by lia)
  rw[List.getElem?_eq_getElem (by rw[List.length_take,List.length_drop]; lia),e] at e2
  have ek:=cut.hi (k+i) (by lia) (by lia)
  rw[<-Option.some.inj e2] at ek;simpa using ek
end
structure bz (st st':SortSt):Prop where
 kind:kindOf st'=kindOf st
 arr:arrOf st'=arrOf st
 pend:pendingOf st'=pendingOf st
 fail:failedOf st'=failedOf st
theorem bz.refl (st:SortSt):bz st st:=⟨rfl,rfl,rfl,rfl⟩
section
variable {prog:Program} {w:World} {A:Around} {S:Shared} {κ:SortKind} {it:Array Keyed} {lt:Nat->Nat->Bool} {N:Nat}
abbrev ar (it:Array Keyed) (l:List Nat):Array Keyed:=(l.map (kas_item it)).toArray
theorem iZ (l:List Nat):(ar it l).size=l.length:=by simp[ar]
theorem i6 (l:List Nat) (x:Nat):(ar it l).push (kas_item it x)=ar it (l++[x]):=by simp[ar]
theorem aN (l m:List Nat):ar it l++ar it m=ar it (l++m):=by simp[ar]
theorem rK (l:List Nat) (i k:Nat):(ar it l).extract i (i+k)=ar it ((l.drop i).take k):=by
 simp[ar,List.extract_eq_take_drop,List.map_drop,List.map_take]
theorem j6 (l:List Nat) (i:Nat):(ar it l).extract i l.length=ar it (l.drop i):=by
 simp[ar,List.extract_eq_take_drop,List.map_drop,List.take_of_length_le]
theorem tu (l:List Nat) (i j:Nat):(ar it l).extract i j=ar it ((l.drop i).take (j-i)):=by
 simp[ar,List.extract_eq_take_drop,List.map_drop,List.map_take]
theorem ff (l:List Nat):(ar it l).reverse=ar it l.reverse:=by simp[ar]
theorem Bl (x:Nat):(#[kas_item it x]:Array Keyed)=ar it [x]:=rfl
theorem i7 {g:Nat} {st:SortSt} {Q:Unit->SortSt->Prop} (h:∀st',bz st st'->Q () st'):W prog w A S (yW g) Q st :=
 show wpS _ _ _ _ (modify fun s=>SortSt.mk' (kindOf s) (arrOf s) (pendingOf s) g (failedOf s)) _ _ from wpS_modify (h _ ⟨rfl,rfl,rfl,rfl⟩)
theorem i8 {lt:Nat->Nat->Bool} {l:List Nat} (O:Ord lt) (hs:Sd lt l) {i:Nat} (h:i<l.length):∀r∈l.drop i,lt r l[i]=false:=fun r hr=>by
 rw[List.drop_eq_getElem_cons h] at hr;rcases lK hr with rfl | hr
 ·exact ql O _
 ·have h2:=hs.drop i
  unfold Sd at h2;rw[List.drop_eq_getElem_cons h] at h2;exact (List.pairwise_cons.mp h2).1 r hr
theorem cutN {G P:Nat->Prop} (k:∀m,(∀g,G g)->P m) (g:∀g,G g):∀m,P m:=fun m=>k m g
theorem cutG {H G:Nat->List Nat->Prop} {P:List Nat->Nat->Prop} {o0:List Nat} {n0:Nat} (k:∀o,o0=o->∀n,n0=n->(∀n o,H n o->G n o)->P o n) (g:∀n o,H n o->G n o):∀o,o0=o->∀n,n0=n->P o n:=fun o e n f=>k o e n f g
theorem oS (O:Ord lt) (c:vF prog w A S κ it lt N) {a b:List Nat} (ha:Sd lt a) (hb:Sd lt b) (hxa:∀x∈a,x<N) (hxb:∀x∈b,x<N) (na:0<a.length) (nb:0<b.length)
  (h0:∀r∈a,lt r b[0]=false) (hl:∀y∈b,∀x∈a.drop (a.length-1),lt x y=false) {st:SortSt} (hst:kindOf st=κ) {Q:Array Keyed->SortSt->Prop} (h:∀res st',bz st st'->Res lt a b res->Q (ar it res) st') :
  W prog w A S (wz (ar it a) (ar it b)) Q st:=by
 show wpS _ _ _ _ _ _ _;refine wpS_bind (wpS_lift (wpAny_rule ⟨rfl,?_⟩));refine wpS_bind (bg nb ?_);rw[Bl];have m0:MI lt a b [b[0]] 0 1:=by
  have z:MI lt a b [] 0 0:=⟨.refl _,.nil,fun o ho=>(nomatch ho),fun o ho=>(nomatch ho)⟩
  have:=z.jQ hb 1 fun x hx r hr=>by
   rw[take_one nb] at hx;rw[List.mem_singleton] at hx;subst hx;exact h0 r (by simpa using hr)
  rw[take_one nb] at this;simpa using this
 simp -zeta only[iZ]
 by_cases e1:1=b.length
 ·rw[if_pos (by simpa using e1)]
  simp only[j6,aN];exact wpS_pure (h _ st (bz.refl st) (m0.done ha hb (.inl e1)))
 rw[if_neg (by simpa using e1)]
 by_cases e2:0+1=a.length
 ·rw[if_pos (by simpa using e2)]
  simp only[j6,aN];exact wpS_pure (h _ st (bz.refl st) (m0.s9 ha hb fun y hy x hx=>hl y hy x (by rw[<-e2]; exact hx)))
 rw[if_neg (by simpa using e2)]
 refine wpS_bind (wpS_get ?_);have at1:∀ {ia:Nat} (hia:ia<a.length),a[ia]<N:=fun hia=>hxa _ (List.getElem_mem hia)
 have bt1:∀ {ib:Nat} (hib:ib<b.length),b[ib]<N:=fun hib=>hxb _ (List.getElem_mem hib)
 have last:∀ {ia:Nat},ia+1=a.length->∀y∈b,∀x∈a.drop ia,lt x y=false:=fun {ia} e y hy x hx=>hl y hy x (by rw[<-e]; exact hx)
 refine wpS_bind (wpS_mono (wpS_forRange
  (I:=fun x d st'=>bz st st'/\∃out ia ib mg,d=(none,ar it out,ia,ib,mg)/\MI lt a b out ia ib/\ib<b.length/\ia+1<a.length/\x<ia+ib)
  (Q:=fun d st'=>bz st st'/\∃res r,d=(some (ar it res),r)/\Res lt a b res) ?_ ?_ ⟨bz.refl st,[b[0]],0,1,_,rfl,m0,by lia,by lia,by lia⟩) ?_)
 rotate_left
 ·rintro d st' ⟨sm,out,ia,ib,mg,rfl,m,k1,k2,k3⟩
  lia
 ·rintro d st' ⟨sm,res,r,rfl,hr⟩
  exact wpS_pure (h res st' sm hr)
 rintro x d st' _ hx ⟨sm,out,ia,ib,mg,rfl,m,k1,k2,k3⟩;dsimp -zeta only;refine wpS_bind (wpS_mono (wpS_forRange
  (I:=fun y d st''=>st''=st'/\∃out ia ib ac bc,d=(none,ar it out,ia,ib,ac,bc)/\MI lt a b out ia ib/\ib<b.length/\ia+1<a.length/\x+y<ia+ib)
  (Q:=fun d st''=>st''=st'/\((∃res r,d=(some (ar it res),r)/\Res lt a b res)\/∃out ia ib ac bc,d=(none,ar it out,ia,ib,ac,bc)/\MI lt a b out ia ib/\ib<b.length/\ia+1<a.length/\x+1<ia+ib)) ?_ ?_ ⟨rfl,out,ia,ib,0,0,rfl,m,k1,k2,k3⟩) ?_)
 rotate_left
 ·rintro d st'' ⟨rfl,out,ia,ib,ac,bc,rfl,m,k1,k2,k3⟩
  exact⟨rfl,.inr ⟨out,ia,ib,ac,bc,rfl,m,k1,k2,by lia⟩⟩
 rotate_left
 ·rintro y d st'' _ hy ⟨rfl,out,ia,ib,ac,bc,rfl,m,k1,k2,k3⟩
  have k2':ia<a.length:=by lia
  simp only[j6];refine wpS_bind (bg k1 (wpS_bind (bg k2' (wpS_bind (w_lt c (bt1 k1) (at1 k2') (sm.kind.trans hst) ?_)))));cases e:lt b[ib] a[ia] with
  | true =>
   have m2:=m.jQ hb 1 fun x hx r hr=>by
    rw[take_one k1,List.mem_singleton] at hx;subst hx;exact O.trans _ _ _ (O.asym _ _ e) (i8 O ha k2' r hr)
   rw[take_one k1] at m2;dsimp only;rw[if_pos rfl];refine wpS_bind (bg k1 ?_);rw[i6,aN,aN]
   by_cases e3:ib+1=b.length
   ·rw[if_pos (by simpa using e3)]
    exact wpS_pure ⟨rfl,.inl ⟨_,_,rfl,m2.done ha hb (.inl e3)⟩⟩
   ·rw[if_neg (by simpa using e3)]
    split
    ·exact wpS_pure ⟨rfl,.inr ⟨_,_,_,_,_,rfl,m2,by lia,k2,by lia⟩⟩
    ·exact wpS_pure ⟨rfl,_,_,_,_,_,rfl,m2,by lia,k2,by lia⟩
  | false =>
   have m2:=m.ie ha 1 fun x hx r hr=>by
    rw[take_one k2',List.mem_singleton] at hx;subst hx;exact O.trans _ _ _ e (i8 O hb k1 r hr)
   rw[take_one k2'] at m2;dsimp only;rw[if_neg (by simp)]
   refine wpS_bind (bg k2' ?_);rw[i6,aN,aN]
   by_cases e3:ia+1+1=a.length
   ·rw[if_pos (by simpa using e3)]
    exact wpS_pure ⟨rfl,.inl ⟨_,_,rfl,m2.s9 ha hb (last e3)⟩⟩
   ·rw[if_neg (by simpa using e3)]
    split
    ·exact wpS_pure ⟨rfl,.inr ⟨_,_,_,_,_,rfl,m2,k1,by lia,by lia⟩⟩
    ·exact wpS_pure ⟨rfl,_,_,_,_,_,rfl,m2,k1,by lia,by lia⟩
 rintro d st'' ⟨rfl,⟨res,r,rfl,hr⟩ | ⟨out,ia,ib,ac,bc,rfl,m,k1,k2,k3⟩⟩
 ·exact wpS_pure ⟨sm,res,_,rfl,hr⟩
 dsimp -zeta only;refine wpS_bind (wpS_lift (wpAny_rule ⟨rfl,?_⟩));refine wpS_bind (wpS_mono (wpS_forRange
  (I:=fun y d st2=>bz st st2/\∃out ia ib mg ac bc,d=(none,ar it out,ia,ib,mg,ac,bc)/\MI lt a b out ia ib/\ib<b.length/\ia+1<a.length/\x+1<ia+ib)
  (Q:=fun d st2=>bz st st2/\((∃res r,d=(some (ar it res),r)/\Res lt a b res)\/∃out ia ib mg ac bc,d=(none,ar it out,ia,ib,mg,ac,bc)/\MI lt a b out ia ib/\ib<b.length/\ia+1<a.length/\x+1<ia+ib)) ?_ ?_ ⟨sm,out,ia,ib,_,ac,bc,rfl,m,k1,k2,k3⟩) ?_)
 rotate_left
 ·rintro d st2 ⟨sm,out,ia,ib,mg,ac,bc,rfl,m,k1,k2,k3⟩
  exact⟨sm,.inr ⟨out,ia,ib,mg,ac,bc,rfl,m,k1,k2,k3⟩⟩
 ·rintro d st2 ⟨sm,⟨res,r,rfl,hr⟩ | ⟨out,ia,ib,mg,ac,bc,rfl,m,k1,k2,k3⟩⟩
  ·exact wpS_pure ⟨sm,res,_,rfl,hr⟩
  ·dsimp only
   refine wpS_bind (i7 fun st3 sm3 => ?_)
   exact wpS_pure ⟨⟨sm3.kind.trans sm.kind,sm3.arr.trans sm.arr,sm3.pend.trans sm.pend,sm3.fail.trans sm.fail⟩,out,ia,ib,_,rfl,m,k1,k2,k3⟩
 rintro y d st2 _ hy ⟨sm2,out,ia,ib,mg,ac,bc,rfl,m,k1,k2,k3⟩
 clear sm hy
 have k2':ia<a.length:=by lia
 have all:∀ {l:List Nat} {i:Nat},(l.drop i).take (l.length-i)=l.drop i:=fun {l i}=>List.take_of_length_le (by rw[List.length_drop]; exact Nat.le_refl _)
 have sa:Sd lt ((a.drop ia).take (a.length-ia)):=by rw[all]; exact ha.drop ia
 simp only[j6]
 revert mg
 refine cutN (fun mg key=>by
  rcases Nat.lt_or_ge 1 mg with hmg | hmg
  rotate_left
  ·rw[if_neg (Nat.not_lt.mpr hmg)]; exact key mg
  ·rw[if_pos hmg]; exact key (mg-1)) fun g => ?_
 refine wpS_bind (i7 fun st3 sm3 => ?_)
 have sm:bz st st3:=⟨sm3.kind.trans sm2.kind,sm3.arr.trans sm2.arr,sm3.pend.trans sm2.pend,sm3.fail.trans sm2.fail⟩;refine wpS_bind (bg k1 ?_);refine wpS_bind (kI O c (bt1 k1) hxa (by lia) sa (by lia) (sm.kind.trans hst) fun k hk hlo hhi => ?_)
 rw[all] at hhi;have mA:=m.ie ha k fun x hx r hr=>O.trans _ _ _ (hlo x hx) (i8 O hb k1 r hr)
 dsimp only;generalize eo:out=ox;generalize en:ia=nx
 revert ox nx
 refine cutG (H:=fun n o=>n=ia+k/\MI lt a b o (ia+k) ib/\ia+k+1<a.length) (fun ox eo nx en key=>by
  rcases Nat.eq_zero_or_pos k with hk0 | hk0
  ·rw[if_neg (by lia)]
   exact key nx ox ⟨by lia,by rw[hk0,<-eo]; exact m,by lia⟩
  ·subst eo en
   rw[if_pos hk0,rK,aN,aN,aN]
   by_cases e3:ia+k+1=a.length
   ·rw[if_pos (by simpa using e3)]
    exact wpS_pure ⟨sm,.inl ⟨_,_,rfl,mA.s9 ha hb (last e3)⟩⟩
   rw[if_neg (by simpa using e3),aN,aN]
   by_cases e4:ia+k=a.length
   ·rw[if_pos (by simpa using e4)]
    exact wpS_pure ⟨sm,.inl ⟨_,_,rfl,mA.done ha hb (.inr e4)⟩⟩
   rw[if_neg (by simpa using e4)]
   exact key _ _ ⟨rfl,mA,by lia⟩) ?_
 clear mA m
 rintro n out ⟨rfl,mA,k4⟩;have mB:=mA.jQ hb 1 fun x hx r hr=>by
  rw[take_one k1,List.mem_singleton] at hx;subst hx;rw[<-List.drop_drop] at hr;exact O.asym _ _ (hhi r hr)
 rw[take_one k1] at mB;have k5:ia+k<a.length:=by lia
 refine wpS_bind (bg k1 ?_);rw[i6,aN,aN]
 by_cases e5:ib+1=b.length
 ·rw[if_pos (by simpa using e5)]
  exact wpS_pure ⟨sm,.inl ⟨_,_,rfl,mB.done ha hb (.inl e5)⟩⟩
 rw[if_neg (by simpa using e5)]
 refine wpS_bind (bg k5 ?_);refine wpS_bind (kJ O c (at1 k5) hxb (by lia) (by rw[all]; exact hb.drop (ib+1)) (by lia) (sm.kind.trans hst) fun j hj jlo jhi => ?_)
 rw[all] at jhi;have mC:=mB.jQ hb j fun x hx r hr=>O.trans _ _ _ (O.asym _ _ (jlo x hx)) (i8 O ha k5 r hr)
 dsimp only;generalize eo:out++[b[ib]]=ox;generalize en:ib+1=nx
 revert ox nx
 refine cutG (H:=fun n o=>n=ib+1+j/\MI lt a b o (ia+k) (ib+1+j)/\ib+1+j<b.length) (fun ox eo nx en key=>by
  rcases Nat.eq_zero_or_pos j with hj0 | hj0
  ·rw[if_neg (by lia)]
   exact key nx ox ⟨by lia,by rw[hj0,<-eo]; exact mB,by lia⟩
  ·subst eo en
   rw[if_pos hj0,rK,aN,aN,aN]
   by_cases e6:ib+1+j=b.length
   ·rw[if_pos (by simpa using e6)]
    exact wpS_pure ⟨sm,.inl ⟨_,_,rfl,mC.done ha hb (.inl e6)⟩⟩
   rw[if_neg (by simpa using e6)]
   exact key _ _ ⟨rfl,mC,by lia⟩) ?_
 clear mC mB
 rintro n out ⟨rfl,mC,j4⟩;have mD:=mC.ie ha 1 fun x hx r hr=>by
  rw[take_one k5,List.mem_singleton] at hx;subst hx;rw[<-List.drop_drop] at hr;exact jhi r hr
 rw[take_one k5] at mD;refine wpS_bind (bg k5 ?_);rw[i6,aN,aN]
 by_cases e7:ia+k+1+1=a.length
 ·rw[if_pos (by simpa using e7)]
  exact wpS_pure ⟨sm,.inl ⟨_,_,rfl,mD.s9 ha hb (last e7)⟩⟩
 rw[if_neg (by simpa using e7)]
 split
 ·exact wpS_pure ⟨sm,.inr ⟨_,_,_,_,_,_,rfl,mD,by lia,by lia,by lia⟩⟩
 ·exact wpS_pure ⟨sm,_,_,_,_,_,_,rfl,mD,by lia,by lia,by lia⟩
end
structure MH (lt:Nat->Nat->Bool) (a b o:List Nat) (na nb:Nat):Prop where
 perm:o.Perm (a.drop na++b.drop nb)
 srt:Sd lt o
 lea:∀x∈o,∀r∈a.take na,lt x r=false
 leb:∀x∈o,∀r∈b.take nb,lt x r=false
section
variable {lt:Nat->Nat->Bool} {a b o:List Nat} {na nb:Nat}
theorem MH.sym (m:MH lt a b o na nb):MH lt b a o nb na:=⟨m.perm.trans List.perm_append_comm,m.srt,m.leb,m.lea⟩
theorem kK (l:List Nat) {i n:Nat} (h:i<=n):l.drop i=(l.take n).drop i++l.drop n:=by
 have e:l.drop n=(l.drop i).drop (n-i):=by rw[List.drop_drop,Nat.add_sub_cancel' h]
 have e2:(l.take n).drop i=(l.drop i).take (n-i):=by rw[List.drop_take]
 rw[e,e2,List.take_append_drop]
theorem MH.ie (m:MH lt a b o na nb) (ha:Sd lt a) {i:Nat} (hi:i<=na) (hn:na<=a.length) (h:∀x∈(a.take na).drop i,∀r∈b.take nb,lt x r=false):MH lt a b ((a.take na).drop i++o) i nb:=by
 have hs:=ha.take na;have es:(a.take na).take i=a.take i:=by rw[List.take_take,Nat.min_eq_left hi]
 refine⟨?_,?_,fun x hx r hr => ?_,fun x hx r hr => ?_⟩
 ·rw[kK a hi,List.append_assoc]
  exact List.Perm.append_left _ m.perm
 ·exact List.pairwise_append.mpr ⟨Sd.drop hs i,m.srt,fun x hx y hy=>m.lea y hy x (List.mem_of_mem_drop hx)⟩
 ·rcases lM hx with hx | hx
  ·have h2:=hs
   unfold Sd at h2;rw[<-List.take_append_drop i (a.take na),es] at h2;exact (List.pairwise_append.mp h2).2.2 r hr x hx
  ·refine m.lea x hx r ?_
   rw[<-es] at hr;exact List.mem_of_mem_take hr
 ·rcases lM hx with hx | hx
  ·exact h x hx r hr
  ·exact m.leb x hx r hr
theorem MH.jQ (m:MH lt a b o na nb) (hb:Sd lt b) {i:Nat} (hi:i<=nb) (hn:nb<=b.length) (h:∀x∈(b.take nb).drop i,∀r∈a.take na,lt x r=false):MH lt a b ((b.take nb).drop i++o) na i:=(m.sym.ie hb hi hn h).sym
theorem drop_one {l:List Nat} {n:Nat} (h:n<l.length):(l.take (n+1)).drop n=[l[n]]:=by
 rw[List.take_succ,List.drop_append_of_le_length (by rw[List.length_take]; lia),List.drop_of_length_le (by rw[List.length_take]; lia),List.getElem?_eq_getElem h]; rfl
theorem MH.done (m:MH lt a b o na nb) (ha:Sd lt a) (hb:Sd lt b) (h:na=0\/nb=0):Res lt a b (a.take na++b.take nb++o):=by
 refine⟨?_,?_⟩
 ·refine List.pairwise_append.mpr ⟨List.pairwise_append.mpr ⟨ha.take na,hb.take nb,fun x hx y hy => ?_⟩,m.srt,fun x hx y hy => ?_⟩
  ·rcases h with h | h
   ·rw[h] at hx; simp at hx
   ·rw[h] at hy; simp at hy
  ·rcases lM hx with hx | hx
   ·exact m.lea y hy x hx
   ·exact m.leb y hy x hx
 ·have:(a.take na++b.take nb++o).Perm (a.take na++b.take nb++(a.drop na++b.drop nb)):=List.Perm.append_left _ m.perm
  refine this.trans ?_;have e:a++b=(a.take na++a.drop na)++(b.take nb++b.drop nb):=by rw[List.take_append_drop,List.take_append_drop]
  rw[e,List.append_assoc,List.append_assoc];refine List.Perm.append_left _ ?_;rw[<-List.append_assoc,<-List.append_assoc];exact List.perm_append_comm.append_right _
theorem MH.oU (m:MH lt a b o na nb) (ha:Sd lt a) (hb:Sd lt b) (h:∀x∈b.take nb,∀r∈a,lt r x=false):Res lt a b (b.take nb++a.take na++o):=by
 refine⟨?_,?_⟩
 ·refine List.pairwise_append.mpr ⟨List.pairwise_append.mpr ⟨hb.take nb,ha.take na,fun x hx y hy=>h x hx y (List.mem_of_mem_take hy)⟩,m.srt,fun x hx y hy => ?_⟩
  rcases lM hx with hx | hx
  ·exact m.leb y hy x hx
  ·exact m.lea y hy x hx
 ·have:(b.take nb++a.take na++o).Perm (b.take nb++a.take na++(a.drop na++b.drop nb)):=List.Perm.append_left _ m.perm
  refine this.trans ?_;rw[List.append_assoc,<-List.append_assoc (a.take na),List.take_append_drop];have e:a++b=a++(b.take nb++b.drop nb):=by rw[List.take_append_drop]
  rw[e,<-List.append_assoc,<-List.append_assoc];exact List.perm_append_comm.append_right _
end
theorem bB {l:List Nat} {n:Nat} (h0:0<n) (h:n<=l.length):(l.take n).drop (n-1)=[l[n-1]'(by lia)]:=by
 obtain⟨m,rfl⟩:∃m,n=m+1:=⟨n-1,by lia⟩
 exact drop_one (by lia)
theorem i9 {lt:Nat->Nat->Bool} {l:List Nat} (O:Ord lt) (hs:Sd lt l) {n:Nat} (h0:0<n) (h:n<=l.length):∀r∈l.take n,lt (l[n-1]'(by lia)) r=false:=fun r hr=>by
 have h2:=hs.take n;unfold Sd at h2;rw[<-List.take_append_drop (n-1) (l.take n),bB h0 h] at h2 hr;rcases lM hr with hr | hr
 ·exact (List.pairwise_append.mp h2).2.2 r hr _ lS
 ·rw[List.mem_singleton] at hr; subst hr; exact ql O _
section
variable {prog:Program} {w:World} {A:Around} {S:Shared} {κ:SortKind} {it:Array Keyed} {lt:Nat->Nat->Bool} {N:Nat}
theorem oV (l:List Nat) (i n:Nat):(ar it l).extract i n=ar it ((l.take n).drop i):=by rw[tu,List.drop_take]
theorem ja (o:List Nat) (x:Nat):(ar it o.reverse).push (kas_item it x)=ar it ([x]++o).reverse:=by rw[i6]; simp
theorem tw (o g:List Nat):ar it o.reverse++ar it g.reverse=ar it (g++o).reverse:=by rw[aN,List.reverse_append]
theorem ar_dd (l m:List Nat):ar it (l.drop 0)++ar it (m.drop 0)=ar it (l.drop 0++m.drop 0):=aN _ _
theorem oW (O:Ord lt) (c:vF prog w A S κ it lt N) {a b:List Nat} (ha:Sd lt a) (hb:Sd lt b) (hxa:∀x∈a,x<N) (hxb:∀x∈b,x<N) (na0:0<a.length) (nb0:0<b.length)
  (h0:∀r∈a,lt r b[0]=false) (hl:∀y∈b,∀x∈a.drop (a.length-1),lt x y=false) {st:SortSt} (hst:kindOf st=κ) {Q:Array Keyed->SortSt->Prop} (h:∀res st',bz st st'->Res lt a b res->Q (ar it res) st') :
  W prog w A S (wB (ar it a) (ar it b)) Q st:=by
 show wpS _ _ _ _ _ _ _;refine wpS_bind (wpS_lift (wpAny_rule ⟨rfl,?_⟩));simp -zeta only[iZ];have la:a.length-1<a.length:=by lia
 refine wpS_bind (bg la ?_);have m0:MH lt a b [a[a.length-1]] (a.length-1) b.length:=by
  have z:MH lt a b [] a.length b.length:=⟨by simp,.nil,fun o ho=>(nomatch ho),fun o ho=>(nomatch ho)⟩
  have:=z.ie ha (i:=a.length-1) (by lia) (Nat.le_refl _) fun x hx r hr=>by
   rw[List.take_length] at hx;exact hl r (List.mem_of_mem_take hr) x hx
  rw[bB na0 (Nat.le_refl _)] at this;exact this
 have e0:(#[kas_item it a[a.length-1]]:Array Keyed)=ar it [a[a.length-1]].reverse:=rfl;rw[e0];have first:∀ {nb:Nat},nb=1->∀x∈b.take nb,∀r∈a,lt r x=false:=fun {nb} e x hx r hr=>by
  subst e;have:x=b[0]:=by
   obtain⟨y,ys,rfl⟩:∃y ys,b=y::ys:=by cases b with | nil=>simp at nb0 | cons y ys=>exact⟨_,_,rfl⟩
   simpa using hx
  subst this;exact h0 r hr
 by_cases e1:a.length-1=0
 ·rw[if_pos (by simpa using e1)]
  simp only[oV,ff,aN,List.reverse_reverse];exact wpS_pure (h _ st (bz.refl st) (m0.done ha hb (.inl e1)))
 rw[if_neg (by simpa using e1)]
 by_cases e2:b.length=1
 ·rw[if_pos (by simpa using e2)]
  simp only[oV,ff,aN,List.reverse_reverse];exact wpS_pure (h _ st (bz.refl st) (m0.oU ha hb (first e2)))
 rw[if_neg (by simpa using e2)]
 refine wpS_bind (wpS_get ?_);have at1:∀ {i:Nat} (hi:i<a.length),a[i]<N:=fun hi=>hxa _ (List.getElem_mem hi)
 have bt1:∀ {i:Nat} (hi:i<b.length),b[i]<N:=fun hi=>hxb _ (List.getElem_mem hi)
 refine wpS_bind (wpS_mono (wpS_forRange
  (I:=fun x d st'=>bz st st'/\∃na nb o mg,d=(none,na,nb,ar it o.reverse,mg)/\MH lt a b o na nb/\0<na/\na<=a.length/\1<nb/\nb<=b.length/\x+na+nb<a.length+b.length)
  (Q:=fun d st'=>bz st st'/\∃res r,d=(some (ar it res),r)/\Res lt a b res) ?_ ?_ ⟨bz.refl st,_,_,[a[a.length-1]],_,rfl,m0,by lia,by lia,by lia,by lia,by lia⟩) ?_)
 rotate_left
 ·rintro d st' ⟨sm,na,nb,o,mg,rfl,m,k1,k1',k2,k2',k3⟩
  lia
 ·rintro d st' ⟨sm,res,r,rfl,hr⟩
  exact wpS_pure (h res st' sm hr)
 rintro x d st' _ hx ⟨sm,na,nb,o,mg,rfl,m,k1,k1',k2,k2',k3⟩;dsimp -zeta only;refine wpS_bind (wpS_mono (wpS_forRange
  (I:=fun y d st''=>st''=st'/\∃na nb o ac bc,d=(none,na,nb,ar it o.reverse,ac,bc)/\MH lt a b o na nb/\0<na/\na<=a.length/\1<nb/\nb<=b.length/\x+y+na+nb<a.length+b.length)
  (Q:=fun d st''=>st''=st'/\((∃res r,d=(some (ar it res),r)/\Res lt a b res)\/∃na nb o ac bc,d=(none,na,nb,ar it o.reverse,ac,bc)/\MH lt a b o na nb/\0<na/\na<=a.length/\1<nb/\nb<=b.length/\x+1+na+nb<a.length+b.length)) ?_ ?_ ⟨rfl,na,nb,o,0,0,rfl,m,k1,k1',k2,k2',k3⟩) ?_)
 rotate_left
 ·rintro d st'' ⟨rfl,na,nb,o,ac,bc,rfl,m,k1,k1',k2,k2',k3⟩
  exact⟨rfl,.inr ⟨na,nb,o,ac,bc,rfl,m,k1,k1',k2,k2',by lia⟩⟩
 rotate_left
 ·rintro y d st'' _ hy ⟨rfl,na,nb,o,ac,bc,rfl,m,k1,k1',k2,k2',k3⟩
  have pa:na-1<a.length:=by lia
  have pb:nb-1<b.length:=by lia
  simp only[oV,ff,aN,List.reverse_reverse];refine wpS_bind (bg pb (wpS_bind (bg pa (wpS_bind (w_lt c (bt1 pb) (at1 pa) (sm.kind.trans hst) ?_)))));cases e:lt b[nb-1] a[na-1] with
  | true =>
   have m2:=m.ie ha (i:=na-1) (by lia) k1' fun x hx r hr=>by
    rw[bB k1 k1',List.mem_singleton] at hx;subst hx;exact O.trans _ _ _ (i9 O hb (by lia) k2' r hr) (O.asym _ _ e)
   rw[bB k1 k1'] at m2;dsimp only;rw[if_pos rfl];refine wpS_bind (bg pa ?_);rw[ja,ff,List.reverse_reverse,aN]
   by_cases e3:na-1=0
   ·rw[if_pos (by simpa using e3)]
    exact wpS_pure ⟨rfl,.inl ⟨_,_,rfl,m2.done ha hb (.inl e3)⟩⟩
   ·rw[if_neg (by simpa using e3)]
    split
    ·exact wpS_pure ⟨rfl,.inr ⟨_,_,_,_,_,rfl,m2,by lia,by lia,k2,k2',by lia⟩⟩
    ·exact wpS_pure ⟨rfl,_,_,_,_,_,rfl,m2,by lia,by lia,k2,k2',by lia⟩
  | false =>
   have m2:=m.jQ hb (i:=nb-1) (by lia) k2' fun x hx r hr=>by
    rw[bB (by lia) k2',List.mem_singleton] at hx
    subst hx;exact O.trans _ _ _ (i9 O ha k1 k1' r hr) e
   rw[bB (by lia) k2'] at m2
   dsimp only;rw[if_neg (by simp)]
   refine wpS_bind (bg pb ?_);rw[ja,ff,List.reverse_reverse,aN]
   by_cases e3:nb-1=1
   ·rw[if_pos (by simpa using e3)]
    exact wpS_pure ⟨rfl,.inl ⟨_,_,rfl,m2.oU ha hb (first e3)⟩⟩
   ·rw[if_neg (by simpa using e3)]
    split
    ·exact wpS_pure ⟨rfl,.inr ⟨_,_,_,_,_,rfl,m2,k1,k1',by lia,by lia,by lia⟩⟩
    ·exact wpS_pure ⟨rfl,_,_,_,_,_,rfl,m2,k1,k1',by lia,by lia,by lia⟩
 rintro d st'' ⟨rfl,⟨res,r,rfl,hr⟩ | ⟨na,nb,o,ac,bc,rfl,m,k1,k1',k2,k2',k3⟩⟩
 ·exact wpS_pure ⟨sm,res,_,rfl,hr⟩
 dsimp -zeta only;refine wpS_bind (wpS_lift (wpAny_rule ⟨rfl,?_⟩));refine wpS_bind (wpS_mono (wpS_forRange
  (I:=fun y d st2=>bz st st2/\∃na nb o mg ac bc,d=(none,na,nb,ar it o.reverse,mg,ac,bc)/\MH lt a b o na nb/\0<na/\na<=a.length/\1<nb/\nb<=b.length/\x+1+na+nb<a.length+b.length)
  (Q:=fun d st2=>bz st st2/\((∃res r,d=(some (ar it res),r)/\Res lt a b res)\/∃na nb o mg ac bc,d=(none,na,nb,ar it o.reverse,mg,ac,bc)/\MH lt a b o na nb/\0<na/\na<=a.length/\1<nb/\nb<=b.length/\x+1+na+nb<a.length+b.length)) ?_ ?_ ⟨sm,na,nb,o,_,ac,bc,rfl,m,k1,k1',k2,k2',k3⟩) ?_)
 rotate_left
 ·rintro d st2 ⟨sm,na,nb,o,mg,ac,bc,rfl,q⟩
  exact⟨sm,.inr ⟨na,nb,o,mg,ac,bc,rfl,q⟩⟩
 ·rintro d st2 ⟨sm,⟨res,r,rfl,hr⟩ | ⟨na,nb,o,mg,ac,bc,rfl,q⟩⟩
  ·exact wpS_pure ⟨sm,res,_,rfl,hr⟩
  ·dsimp only
   refine wpS_bind (i7 fun st3 sm3 => ?_)
   exact wpS_pure ⟨⟨sm3.kind.trans sm.kind,sm3.arr.trans sm.arr,sm3.pend.trans sm.pend,sm3.fail.trans sm.fail⟩,na,nb,o,_,rfl,q⟩
 rintro y d st2 _ hy ⟨sm2,na,nb,o,mg,ac,bc,rfl,m,k1,k1',k2,k2',k3⟩
 clear sm hy
 have pa:na-1<a.length:=by lia
 have pb:nb-1<b.length:=by lia
 simp only[oV,ff,ar_dd]
 revert mg
 refine cutN (fun mg key=>by
  rcases Nat.lt_or_ge 1 mg with hmg | hmg
  rotate_left
  ·rw[if_neg (Nat.not_lt.mpr hmg)]; exact key mg
  ·rw[if_pos hmg]; exact key (mg-1)) fun g => ?_
 refine wpS_bind (i7 fun st3 sm3 => ?_)
 have sm:bz st st3:=⟨sm3.kind.trans sm2.kind,sm3.arr.trans sm2.arr,sm3.pend.trans sm2.pend,sm3.fail.trans sm2.fail⟩;refine wpS_bind (bg pb ?_);refine wpS_bind (kI O c (bt1 pb) hxa (by lia) (by rw[List.drop_zero]; exact ha.take na) (by lia) (sm.kind.trans hst) fun i hi hlo hhi => ?_)
 rw[List.drop_zero] at hlo hhi;have mA:=m.ie ha hi k1' fun x hx r hr=>O.trans _ _ _ (i9 O hb (by lia) k2' r hr) (O.asym _ _ (hhi x hx))
 dsimp only;generalize hk:na-i=k;generalize eo:o=ox;generalize en:na=nx
 revert ox nx
 refine cutG (H:=fun n o'=>n=i/\MH lt a b o' i nb/\0<i) (fun ox eo nx en key=>by
  rcases Nat.eq_zero_or_pos k with hk0 | hk0
  ·rw[if_neg (by lia)]
   have e:na=i:=by lia
   exact key nx ox ⟨en.symm.trans e,eo▸e▸m,e▸k1⟩
  ·subst eo en
   rw[if_pos hk0,tw,ff,List.reverse_reverse,aN]
   by_cases e3:i=0
   ·rw[if_pos (by simpa using e3)]
    exact wpS_pure ⟨sm,.inl ⟨_,_,rfl,mA.done ha hb (.inl e3)⟩⟩
   rw[if_neg (by simpa using e3)]
   exact key i _ ⟨rfl,mA,by lia⟩) ?_
 clear mA m
 rintro n o ⟨rfl,mA,i0⟩;have mB:=mA.jQ hb (i:=nb-1) (by lia) k2' fun x hx r hr=>by
  rw[bB (by lia) k2',List.mem_singleton] at hx
  subst hx;exact hlo r hr
 rw[bB (by lia) k2'] at mB
 refine wpS_bind (bg pb ?_);rw[ja,ff,List.reverse_reverse,aN]
 by_cases e5:nb-1=1
 ·rw[if_pos (by simpa using e5)]
  exact wpS_pure ⟨sm,.inl ⟨_,_,rfl,mB.oU ha hb (first e5)⟩⟩
 rw[if_neg (by simpa using e5)]
 have pi:n-1<a.length:=by lia
 refine wpS_bind (bg pi ?_);refine wpS_bind (kJ O c (at1 pi) hxb (by lia) (by rw[List.drop_zero]; exact hb.take (nb-1)) (by lia) (sm.kind.trans hst) fun j hj jlo jhi => ?_)
 rw[List.drop_zero] at jlo jhi;have mC:=mB.jQ hb hj (by lia) fun x hx r hr=>O.trans _ _ _ (i9 O ha (by lia) (by lia) r hr) (jhi x hx)
 dsimp only;generalize hkj:nb-1-j=kj;generalize eo:[b[nb-1]]++o=ox;generalize en:nb-1=nx
 revert ox nx
 refine cutG (H:=fun m o'=>m=j/\MH lt a b o' n j/\1<j) (fun ox eo nx en key=>by
  rcases Nat.eq_zero_or_pos kj with hj0 | hj0
  ·rw[if_neg (by lia)]
   have e:nb-1=j:=by lia
   exact key nx ox ⟨en.symm.trans e,eo▸e▸mB,by lia⟩
  ·subst eo en
   rw[if_pos hj0,tw,ff,List.reverse_reverse,aN]
   by_cases e6:j=1
   ·rw[if_pos (by simpa using e6)]
    exact wpS_pure ⟨sm,.inl ⟨_,_,rfl,mC.oU ha hb (first e6)⟩⟩
   rw[if_neg (by simpa using e6),aN]
   by_cases e7:j=0
   ·rw[if_pos (by simpa using e7)]
    exact wpS_pure ⟨sm,.inl ⟨_,_,rfl,mC.done ha hb (.inr e7)⟩⟩
   rw[if_neg (by simpa using e7)]
   exact key j _ ⟨rfl,mC,by lia⟩) ?_
 clear mC mB
 rintro n2 o ⟨rfl,mC,j1⟩;have mD:=mC.ie ha (i:=n-1) (by lia) (by lia) fun x hx r hr=>by
  rw[bB (by lia) (by lia),List.mem_singleton] at hx
  subst hx;exact O.asym _ _ (jlo r hr)
 rw[bB (by lia) (by lia)] at mD
 refine wpS_bind (bg pi ?_);rw[ja,ff,List.reverse_reverse,aN]
 by_cases e8:n-1=0
 ·rw[if_pos (by simpa using e8)]
  exact wpS_pure ⟨sm,.inl ⟨_,_,rfl,mD.done ha hb (.inl e8)⟩⟩
 rw[if_neg (by simpa using e8)]
 split
 ·exact wpS_pure ⟨sm,.inr ⟨_,_,_,_,_,_,rfl,mD,by lia,by lia,by lia,by lia,by lia⟩⟩
 ·exact wpS_pure ⟨sm,_,_,_,_,_,_,rfl,mD,by lia,by lia,by lia,by lia,by lia⟩
end
section
variable {prog:Program} {w:World} {A:Around} {S:Shared} {κ:SortKind} {it:Array Keyed} {lt:Nat->Nat->Bool} {N:Nat}
structure St (κ:SortKind) (it:Array Keyed) (p:List Nat) (pend:Array (Nat×Nat×Nat)) (st:SortSt):Prop where
 kind:kindOf st=κ
 arr:arrOf st=ar it p
 pend:pendingOf st=pend
 fail:failedOf st=none
noncomputable abbrev g (V:List Nat) (i:Nat):Nat:=V.getD i 0
theorem uP {V:List Nat} {i:Nat} (h:i<V.length):g V i=V[i]:=by simp[g,List.getD,h]
theorem jC (c:vF prog w A S κ it lt N) {U V:List Nat} (hN:∀x∈V,x<N) {pend:Array (Nat×Nat×Nat)} {st:SortSt} (s:St κ it (U++V) pend st) {lo x y i j:Nat} (hU:U.length=lo) (ex:x=lo+i) (ey:y=lo+j) (hi:i<V.length) (hj:j<V.length) {Q:Option Bool->SortSt->Prop}
  (h:Q (some (lt (g V i) (g V j))) st):W prog w A S (ltAt' x y) Q st:=by
 subst ex; subst ey; subst hU;show wpS _ _ _ _ _ _ _;rw[ltAt'_eq];refine wpS_bind (wpS_get ?_);rw[s.arr];have e1:(U++V)[U.length+i]'(by simp; lia)=V[i]:=by simp
 have e2:(U++V)[U.length+j]'(by simp; lia)=V[j]:=by simp
 rw[uP hi,uP hj] at h;refine wpS_bind (bg (by simp; lia) (wpS_bind (bg (by simp; lia) ?_)))
 rw[e1,e2];exact w_lt c (hN _ (List.getElem_mem hi)) (hN _ (List.getElem_mem hj)) s.kind h
noncomputable def iD (V:List Nat) (i j:Nat):List Nat:=V.take i++((V.take j).drop i).reverse++V.drop j
theorem fH (V:List Nat) {i j:Nat} (h:i<=j):(iD V i j).Perm V:=by
 have e:V=V.take i++(V.take j).drop i++V.drop j:=by
  have:=kK V h;rw[List.append_assoc,<-this,List.take_append_drop]
 unfold iD
 conv=>rhs; rw[e]
 exact (List.Perm.append_left _ (List.reverse_perm _)).append_right _
theorem wC (V:List Nat) {i j:Nat} (h:i<=j):(iD V i j).length=V.length:=(fH V h).length_eq
theorem gA {V:List Nat} {i j k:Nat} (hij:i<=j) (hj:j<=V.length):g (iD V i j) k=if i<=k/\k<j then g V (i+j-1-k) else g V k:=by
 unfold g iD;rw[List.getD_eq_getElem?_getD,List.getD_eq_getElem?_getD,List.getD_eq_getElem?_getD];have l1:(V.take i).length=i:=by rw[List.length_take]; lia
 have l2:((V.take j).drop i).reverse.length=j-i:=by rw[List.length_reverse,List.length_drop,List.length_take]; lia
 by_cases h1:k<i
 ·rw[if_neg (by lia),List.append_assoc,List.getElem?_append_left (by lia),List.getElem?_take_of_lt h1]
 ·by_cases h2:k<j
  ·rw[if_pos ⟨by lia,h2⟩,List.append_assoc,List.getElem?_append_right (by lia),List.getElem?_append_left (by lia),l1,List.getElem?_reverse (by rw[List.length_drop,List.length_take]; lia)]
   rw[List.getElem?_drop,List.length_drop,List.length_take,List.getElem?_take_of_lt (by lia)]
   congr 2
   lia
  ·rw[if_neg (by lia),List.getElem?_append_right (by rw[List.length_append]; lia),List.length_append,l1,l2,List.getElem?_drop]
   congr 2
   lia
theorem uQ (U V:List Nat) {i j:Nat} (hij:i<=j) (hj:j<=V.length):mirror (ar it (U++V)) (U.length+i) (U.length+j) ((U.length+j-(U.length+i)) / 2)=ar it (U++iD V i j):=by
 apply Array.ext_getElem?;intro k;rw[getElem?_mirror_all (by rw[iZ,List.length_append]; lia)]
 have get:∀ (l:List Nat) (k:Nat),(ar it l)[k]? = (l[k]?).map (kas_item it):=fun l k=>by simp[ar]
 rw[get,get,get]
 by_cases hk:k<U.length
 ·rw[if_neg (by lia),List.getElem?_append_left hk,List.getElem?_append_left hk]
 ·obtain⟨m,rfl⟩:∃m,k=U.length+m:=⟨k-U.length,by lia⟩
  have gr:=gA (k:=m) hij hj;unfold g at gr;rw[List.getD_eq_getElem?_getD,List.getD_eq_getElem?_getD,List.getD_eq_getElem?_getD] at gr;have hl:=wC V hij;have hR:(U++iD V i j)[U.length+m]? = (iD V i j)[m]? := by rw[List.getElem?_append_right (by lia),Nat.add_sub_cancel_left]
  rw[hR]
  by_cases hm:i<=m/\m<j
  ·rw[if_pos hm] at gr
   have hL:(U++V)[U.length+i+(U.length+j)-1-(U.length+m)]? = V[i+j-1-m]? := by
    rw[List.getElem?_append_right (by lia),show U.length+i+(U.length+j)-1-(U.length+m)-U.length=i+j-1-m by lia]
   rw[if_pos (by lia),hL]
   have a1:i+j-1-m<V.length:=by lia
   have a2:m<(iD V i j).length:=by lia
   rw[List.getElem?_eq_getElem a1,List.getElem?_eq_getElem a2] at gr ⊢;simp at gr;rw[gr]
  ·rw[if_neg hm] at gr
   have hL:(U++V)[U.length+m]? = V[m]? := by rw[List.getElem?_append_right (by lia),Nat.add_sub_cancel_left]
   rw[if_neg (by lia),hL]
   by_cases a1:m<V.length
   ·have a2:m<(iD V i j).length:=by lia
    rw[List.getElem?_eq_getElem a1,List.getElem?_eq_getElem a2] at gr ⊢;simp at gr;rw[gr]
   ·rw[List.getElem?_eq_none (by lia),List.getElem?_eq_none (by lia)]
theorem w_rev {U V:List Nat} {pend:Array (Nat×Nat×Nat)} {st:SortSt} (s:St κ it (U++V) pend st) {lo x y i j:Nat} (hU:U.length=lo) (ex:x=lo+i) (ey:y=lo+j) (hij:i<=j) (hj:j<=V.length) {Q:Unit->SortSt->Prop}
  (h:∀st',St κ it (U++iD V i j) pend st'->Q () st'):W prog w A S (reverseSlice' x y) Q st:=by
 subst ex; subst ey; subst hU;show wpS _ _ _ _ _ _ _;rw[reverseSlice'_eq];refine wpS_modify (h _ ⟨s.kind,?_,s.pend,s.fail⟩);show mirror (arrOf st) _ _ _=_;rw[s.arr];exact uQ U V hij hj
def qY (lt:Nat->Nat->Bool) (V:List Nat) (m:Nat):Prop:=∀i j,i<=j->j<m->lt (g V j) (g V i)=false
def qZ (lt:Nat->Nat->Bool) (V:List Nat) (m:Nat):Prop:=∀i j,i<=j->j<m->lt (g V i) (g V j)=false
def C2 (lt:Nat->Nat->Bool) (V:List Nat) (a b:Nat):Prop:=∀i j,a<=i->i<b->a<=j->j<b->lt (g V i) (g V j)=false
theorem qY.sd {V:List Nat} {m:Nat} (h:qY lt V m) (hm:m<=V.length):Sd lt (V.take m):=by
 refine List.pairwise_iff_getElem.mpr fun i j hi hj hij => ?_
 rw[List.length_take] at hi hj;have:=h i j (by lia) (by lia)
 rw[uP (by lia),uP (by lia)] at this
 rw[List.getElem_take,List.getElem_take];exact this
theorem Sd.DO (O:Ord lt) {V:List Nat} {m:Nat} (h:Sd lt (V.take m)) (hm:m<=V.length):qY lt V m:=fun i j hij hj=>by
 by_cases e:i=j
 ·subst e; exact ql O _
 ·have:=List.pairwise_iff_getElem.mp h i j (by rw[List.length_take]; lia) (by rw[List.length_take]; lia) (by lia)
  rw[List.getElem_take,List.getElem_take] at this;rw[uP (by lia),uP (by lia)]
  exact this
theorem qY.step (O:Ord lt) {V:List Nat} {n:Nat} (h1:1<=n) (h:qY lt V n) (e:lt (g V n) (g V (n-1))=false):qY lt V (n+1):=fun i j hij hj=>by
 by_cases hjn:j=n
 ·subst hjn
  by_cases hin:i=j
  ·subst hin; exact ql O _
  ·exact O.trans _ _ _ (h i (j-1) (by lia) (by lia)) e
 ·exact h i j hij (by lia)
theorem qZ.step (O:Ord lt) {V:List Nat} {n:Nat} (h1:1<=n) (h:qZ lt V n) (e:lt (g V (n-1)) (g V n)=false):qZ lt V (n+1):=fun i j hij hj=>by
 by_cases hjn:j=n
 ·subst hjn
  by_cases hin:i=j
  ·subst hin; exact ql O _
  ·exact O.trans _ _ _ e (h i (j-1) (by lia) (by lia))
 ·exact h i j hij (by lia)
theorem qZ.rev {V:List Nat} {a b:Nat} (hab:a<=b) (hb:b<=V.length) (he:C2 lt V a b) (h:qZ lt V b):qZ lt (iD V a b) b:=fun i j hij hj=>by
 rw[gA hab hb,gA hab hb]
 by_cases hi:a<=i/\i<b
 ·rw[if_pos hi,if_pos ⟨by lia,hj⟩]
  exact he _ _ (by lia) (by lia) (by lia) (by lia)
 ·rw[if_neg hi]
  by_cases hj':a<=j/\j<b
  ·rw[if_pos hj']; exact h _ _ (by lia) (by lia)
  ·rw[if_neg hj']; exact h _ _ hij hj
theorem qZ.asc {V:List Nat} {n:Nat} (hn:n<=V.length) (h:qZ lt V n):qY lt (iD V 0 n) n:=fun i j hij hj=>by
 rw[gA (Nat.zero_le _) hn,gA (Nat.zero_le _) hn,if_pos ⟨by lia,hj⟩,if_pos ⟨by lia,by lia⟩]
 exact h _ _ (by lia) (by lia)
theorem yX (O:Ord lt) (V:List Nat):qY lt V 1:=fun i j hij hj=>by
 obtain rfl:i=j:=by lia
 exact ql O _
theorem yY (O:Ord lt) (V:List Nat):qZ lt V 1:=fun i j hij hj=>by
 obtain rfl:i=j:=by lia
 exact ql O _
theorem cutS {H:List Nat->SortSt->Prop} {G:SortSt->Prop} {P:Prop} (k:(∀V s,H V s->G s)->P) (g:∀V s,H V s->G s):P:=k g
theorem mP (O:Ord lt) (c:vF prog w A S κ it lt N) {U V:List Nat} (hN:∀x∈V,x<N) {pend:Array (Nat×Nat×Nat)} {st:SortSt} (s:St κ it (U++V) pend st) {lo nrem:Nat} (hU:U.length=lo) (hV:V.length=nrem) (h1:1<=nrem) {Q:Option Nat->SortSt->Prop}
  (h:∀m V' st',1<=m->m<=nrem->V'.Perm V->Sd lt (V'.take m)->St κ it (U++V') pend st'->Q (some m) st'):W prog w A S (countRun' lo nrem) Q st:=by
 show wpS _ _ _ _ _ _ _;refine wpS_bind (wpS_mono (wpS_forRange (I:=fun x d st'=>st'=st/\d=(none,x)/\1<=x/\qY lt V x)
  (Q:=fun d st'=>st'=st/\∃n,d=(none,n)/\1<=n/\n<=nrem/\qY lt V n/\(n<nrem->lt (g V n) (g V (n-1))=true)) ?_ ?_ ⟨rfl,rfl,Nat.le_refl _,yX O V⟩) ?_)
 ·rintro x d st' hx1 hx2 ⟨rfl,rfl,k1,k2⟩
  dsimp only;refine wpS_bind (jC c hN s hU (i:=x) (j:=x-1) rfl (by lia) (by lia) (by lia) ?_)
  cases e:lt (g V x) (g V (x-1)) with
  | true=>exact wpS_pure ⟨rfl,x,rfl,k1,by lia,k2,fun _=>e⟩
  | false=>exact wpS_pure ⟨rfl,rfl,by lia,k2.step O k1 e⟩
 ·rintro d st' ⟨rfl,rfl,k1,k2⟩
  exact⟨rfl,_,rfl,k1,by lia,by rw[Nat.max_eq_right h1] at *; exact k2,fun z=>by lia⟩
 rintro d st' ⟨rfl,n,rfl,k1,k2,k3,k4⟩;dsimp only
 by_cases e1:n=nrem
 ·rw[if_pos (by simpa using e1)]
  exact wpS_pure (h n V st' k1 k2 (.refl _) (k3.sd (by lia)) s)
 rw[if_neg (by simpa using e1)]
 have k4:=k4 (by lia)
 have one:∀ (V1:List Nat) (m:Nat),C2 lt V1 (m+1-(0+1)) (m+1):=fun V1 m i j a1 a2 a3 a4=>by
  obtain rfl:i=j:=by lia
  exact ql O _
 refine cutS (H:=fun V1 s1=>V1.Perm V/\qZ lt V1 (n+1)/\St κ it (U++V1) pend s1) (fun key=>by
  by_cases e2:n>1
  ·rw[if_pos e2]
   refine wpS_bind (jC c hN s hU (i:=0) (j:=n-1) (by lia) (by lia) (by lia) (by lia) ?_)
   cases e3:lt (g V 0) (g V (n-1)) with
   | true=>exact wpS_pure (h n V st' k1 k2 (.refl _) (k3.sd (by lia)) s)
   | false =>
    dsimp only;rw[if_neg (by simp)]
    refine wpS_bind (w_rev s hU (i:=0) (j:=n) (by lia) rfl (Nat.zero_le _) (by lia) fun st1 s1 => ?_)
    have p1:=fH V (Nat.zero_le n);have d1:qZ lt (iD V 0 n) (n+1):=by
     have hall:∀i j,i<n->j<n->lt (g V i) (g V j)=false:=fun i j hi hj=>by
      have a1:=k3 j (n-1) (by lia) (by lia)
      have a2:=k3 0 i (by lia) hi
      exact O.trans _ _ _ a1 (O.trans _ _ _ e3 a2)
     refine qZ.step O k1 (fun i j hij hj => ?_) ?_
     ·rw[gA (Nat.zero_le _) (by lia),gA (Nat.zero_le _) (by lia),if_pos ⟨by lia,by lia⟩,if_pos ⟨by lia,by lia⟩]
      exact hall _ _ (by lia) (by lia)
     ·rw[gA (Nat.zero_le _) (by lia),gA (Nat.zero_le _) (by lia),if_pos ⟨by lia,by lia⟩,if_neg (by lia)]
      exact O.trans _ _ _ (O.asym _ _ k4) (hall _ _ (by lia) (by lia))
    exact key _ st1 ⟨p1,d1,s1⟩
  ·rw[if_neg e2]
   have en:n=1:=by lia
   exact key V st' ⟨.refl _,by rw[en] at k4 ⊢; exact qZ.step O (Nat.le_refl _) (yY O V) (O.asym _ _ k4),s⟩) ?_
 rintro V1 st1 ⟨p1,d1,s1⟩;refine wpS_bind (wpS_lift (wpAny_rule ⟨rfl,?_⟩));refine wpS_bind (wpS_mono (wpS_forRange (I:=fun x d st2=>∃V2 q,d=(none,x,q)/\V2.Perm V/\St κ it (U++V2) pend st2/\1<=x/\q+1<=x/\qZ lt V2 x/\C2 lt V2 (x-(q+1)) x)
  (Q:=fun d st2=>∃V2 m q,d=(none,m,q)/\V2.Perm V/\St κ it (U++V2) pend st2/\1<=m/\m<=nrem/\q+1<=m/\qZ lt V2 m/\C2 lt V2 (m-(q+1)) m) ?_ ?_ ⟨V1,0,rfl,p1,s1,by lia,by lia,d1,one _ _⟩) ?_)
 ·rintro x d st2 hx1 hx2 ⟨V2,q,rfl,pV,s2,b0,b1,b2,b3⟩
  have l2:V2.length=nrem:=by rw[pV.length_eq,hV]
  have hN2:∀y∈V2,y<N:=fun y hy=>hN y (pV.mem_iff.mp hy)
  dsimp only;refine wpS_bind (jC c hN2 s2 hU (i:=x) (j:=x-1) rfl (by lia) (by lia) (by lia) ?_)
  cases e4:lt (g V2 x) (g V2 (x-1)) with
  | true =>
   dsimp only;rw[if_pos rfl];have e5:=O.asym _ _ e4
   by_cases hq:q>0
   ·rw[if_pos hq]
    refine wpS_bind (w_rev s2 hU (i:=x-(q+1)) (j:=x) (by lia) rfl (by lia) (by lia) fun st3 s3 => ?_)
    refine wpS_pure ⟨_,0,rfl,(fH V2 (by lia)).trans pV,s3,by lia,by lia,(b2.rev (by lia) (by lia) b3).step O b0 ?_,one _ _⟩
    rw[gA (by lia) (by lia),gA (by lia) (by lia),if_pos ⟨by lia,by lia⟩,if_neg (by lia)]
    exact O.trans _ _ _ e5 (b3 _ _ (by lia) (by lia) (by lia) (by lia))
   ·rw[if_neg hq]
    exact wpS_pure ⟨V2,0,rfl,pV,s2,by lia,by lia,b2.step O b0 e5,one _ _⟩
  | false =>
   dsimp only;rw[if_neg (by simp)]
   refine wpS_bind (jC c hN2 s2 hU (i:=x-1) (j:=x) (by lia) rfl (by lia) (by lia) ?_)
   cases e5:lt (g V2 (x-1)) (g V2 x) with
   | true=>exact wpS_pure ⟨V2,x,q,rfl,pV,s2,b0,by lia,b1,b2,b3⟩
   | false =>
    refine wpS_pure ⟨V2,q+1,rfl,pV,s2,by lia,by lia,b2.step O b0 e5,fun i j a1 a2 a3 a4 => ?_⟩
    by_cases hi:i=x
    ·by_cases hj:j=x
     ·subst hi; subst hj; exact ql O _
     ·rw[hi]; exact O.trans _ _ _ (b3 (x-1) j (by lia) (by lia) (by lia) (by lia)) e4
    ·by_cases hj:j=x
     ·rw[hj]; exact O.trans _ _ _ e5 (b3 i (x-1) (by lia) (by lia) (by lia) (by lia))
     ·exact b3 i j (by lia) (by lia) (by lia) (by lia)
 ·rintro d st2 ⟨V2,q,rfl,pV,s2,b0,b1,b2,b3⟩
  exact⟨V2,_,q,rfl,pV,s2,b0,by lia,b1,b2,b3⟩
 rintro d st2 ⟨V2,m,q,rfl,pV,s2,b0,b0',b1,b2,b3⟩;have l2:V2.length=nrem:=by rw[pV.length_eq,hV]
 dsimp only;refine cutS (H:=fun V3 s3=>V3.Perm V/\qZ lt V3 m/\St κ it (U++V3) pend s3) (fun key=>by
  by_cases hq:q>0
  ·rw[if_pos hq]
   refine wpS_bind (w_rev s2 hU (i:=m-(q+1)) (j:=m) (by lia) rfl (by lia) (by lia) fun st3 s3 => ?_)
   exact key _ st3 ⟨(fH V2 (i:=m-(q+1)) (j:=m) (by lia)).trans pV,b2.rev (by lia) (by lia) b3,s3⟩
  ·rw[if_neg hq]
   exact key V2 st2 ⟨pV,b2,s2⟩) ?_
 rintro V3 st3 ⟨pV3,d3,s3⟩;have l3:=pV3.length_eq;rw[hV] at l3;refine wpS_bind (w_rev s3 hU (i:=0) (j:=m) (by lia) rfl (Nat.zero_le _) (by lia) fun st4 s4 => ?_)
 have p4:=(fH _ (Nat.zero_le m)).trans pV3;have d4:=d3.asc (by lia)
 have l4:=p4.length_eq;rw[hV] at l4;generalize iD _ 0 m=V5 at s4 p4 d4 l4;have hN4:∀y∈V5,y<N:=fun y hy=>hN y (p4.mem_iff.mp hy)
 refine wpS_bind (wpS_mono (wpS_forRange (I:=fun x d st5=>st5=st4/\d=(none,x)/\1<=x/\qY lt V5 x) (Q:=fun d st5=>st5=st4/\∃k,d=(none,k)/\1<=k/\k<=nrem/\qY lt V5 k) ?_ ?_ ⟨rfl,rfl,b0,d4⟩) ?_)
 ·rintro x d st5 hx1 hx2 ⟨rfl,rfl,f1,f2⟩
  dsimp only;refine wpS_bind (jC c hN4 s4 hU (i:=x) (j:=x-1) rfl (by lia) (by lia) (by lia) ?_)
  cases e6:lt (g V5 x) (g V5 (x-1)) with
  | true=>exact wpS_pure ⟨rfl,x,rfl,f1,by lia,f2⟩
  | false=>exact wpS_pure ⟨rfl,rfl,by lia,f2.step O f1 e6⟩
 ·rintro d st5 ⟨rfl,rfl,f1,f2⟩
  exact⟨rfl,_,rfl,f1,by lia,f2⟩
 ·rintro d st5 ⟨rfl,k,rfl,f1,f2,f3⟩
  exact wpS_pure (h k _ st5 f1 f2 p4 (f3.sd (by lia)) s4)
end
noncomputable def mv (V:List Nat) (k l:Nat):List Nat:=(bubble V.toArray k (k-l)).toList
theorem yZ (V:List Nat) (k l:Nat):(mv V k l).Perm V:=by
 unfold mv;have:=Array.perm_iff_toList_perm.mp (bubble_perm V.toArray k (k-l));simpa using this
theorem wF {V:List Nat} {k l:Nat} (hk:k<V.length) (hl:l<=k) (i:Nat):(mv V k l)[i]? = if i=l then V[k]? else if l<i/\i<=k then V[i-1]? else V[i]? := by
 unfold mv;rw[Array.getElem?_toList,getElem?_bubble (by simpa using hk) (k-l) (by lia),show k-(k-l)=l by lia]
 simp only[List.getElem?_toArray]
theorem g_mv {V:List Nat} {k l:Nat} (hk:k<V.length) (hl:l<=k) (i:Nat):g (mv V k l) i=if i=l then g V k else if l<i/\i<=k then g V (i-1) else g V i:=by
 unfold g;rw[List.getD_eq_getElem?_getD,wF hk hl,List.getD_eq_getElem?_getD,List.getD_eq_getElem?_getD,List.getD_eq_getElem?_getD]
 split
 ·rfl
 ·split <;> rfl
section
variable {prog:Program} {w:World} {A:Around} {S:Shared} {κ:SortKind} {it:Array Keyed} {lt:Nat->Nat->Bool} {N:Nat}
theorem uR (U V:List Nat) {k l:Nat} (hk:k<V.length) (hl:l<=k):bubble (ar it (U++V)) (U.length+k) (U.length+k-(U.length+l))=ar it (U++mv V k l):=by
 apply Array.ext_getElem?;intro i;have get:∀ (l:List Nat) (k:Nat),(ar it l)[k]? = (l[k]?).map (kas_item it):=fun l k=>by simp[ar]
 rw[getElem?_bubble (by rw[iZ,List.length_append]; lia) _ (by lia),get,get,get,get]
 by_cases hi:i<U.length
 ·rw[if_neg (by lia),if_neg (by lia),List.getElem?_append_left hi,List.getElem?_append_left hi]
 ·obtain⟨m,rfl⟩:∃m,i=U.length+m:=⟨i-U.length,by lia⟩
  have R:∀ (X:List Nat) (m:Nat),(U++X)[U.length+m]? = X[m]? := fun X m=>by rw[List.getElem?_append_right (by lia),Nat.add_sub_cancel_left]
  rw[R,R,R,wF hk hl]
  by_cases h1:m=l
  ·rw[if_pos h1,if_pos (by lia)]
  ·rw[if_neg h1,if_neg (by lia)]
   by_cases h2:l<m/\m<=k
   ·rw[if_pos h2,if_pos (by lia),show U.length+m-1=U.length+(m-1) by lia,R]
   ·rw[if_neg h2,if_neg (by lia)]
theorem Bm {U V:List Nat} {pend:Array (Nat×Nat×Nat)} {st:SortSt} (s:St κ it (U++V) pend st) {lo k l:Nat} (hU:U.length=lo) (hk:k<V.length) (hl:l<=k) {Q:Unit->SortSt->Prop}
  (h:∀st',St κ it (U++mv V k l) pend st'->Q () st'):W prog w A S (moveDown' (lo+k) (lo+l)) Q st:=by
 subst hU;show wpS _ _ _ _ _ _ _;rw[moveDown'_eq];refine wpS_modify (h _ ⟨s.kind,?_,s.pend,s.fail⟩);show bubble (arrOf st) _ _=_;rw[s.arr];exact uR U V hk hl
theorem y9 (O:Ord lt) {V:List Nat} {k l:Nat} (hk:k<V.length) (hl:l<=k) (hs:qY lt V k) (a:∀i,i<l->lt (g V k) (g V i)=false) (b:∀i,l<=i->i<k->lt (g V k) (g V i)=true):qY lt (mv V k l) (k+1):=by
 intro i j hij hj;rw[g_mv hk hl,g_mv hk hl]
 by_cases hjl:j=l
 ·rw[if_pos hjl]
  by_cases hil:i=l
  ·rw[if_pos hil]; exact ql O _
  ·rw[if_neg hil,if_neg (by lia)]
   exact a i (by lia)
 ·rw[if_neg hjl]
  by_cases hj2:l<j/\j<=k
  ·rw[if_pos hj2]
   by_cases hil:i=l
   ·rw[if_pos hil]
    exact O.asym _ _ (b (j-1) (by lia) (by lia))
   ·rw[if_neg hil]
    by_cases hi2:l<i/\i<=k
    ·rw[if_pos hi2]
     exact hs _ _ (by lia) (by lia)
    ·rw[if_neg hi2]
     exact hs _ _ (by lia) (by lia)
  ·rw[if_neg hj2,if_neg (by lia),if_neg (by lia)]
   exact hs _ _ (by lia) (by lia)
theorem qm (O:Ord lt) (c:vF prog w A S κ it lt N) {U V:List Nat} (hN:∀x∈V,x<N) {pend:Array (Nat×Nat×Nat)} {st:SortSt} (s:St κ it (U++V) pend st) {lo n ok:Nat} (hU:U.length=lo) (hn:n<=V.length) (h1:1<=ok) (hok:ok<=n) (hs:Sd lt (V.take ok)) {Q:Bool->SortSt->Prop}
  (h:∀V' st',V'.Perm V->Sd lt (V'.take n)->St κ it (U++V') pend st'->Q true st'):W prog w A S (binarySort' lo n ok) Q st:=by
 show wpS _ _ _ _ _ _ _;refine wpS_bind (wpS_mono (wpS_forRange (I:=fun x d st'=>d=(none,())/\∃V',V'.Perm V/\St κ it (U++V') pend st'/\qY lt V' x) (Q:=fun d st'=>d=(none,())/\∃V',V'.Perm V/\St κ it (U++V') pend st'/\qY lt V' n) ?_ ?_ ⟨rfl,V,.refl _,s,by rw[Nat.max_eq_left h1]; exact Sd.DO O hs (by lia)⟩) ?_)
 ·rintro k d st' hk1 hk2 ⟨rfl,V1,p1,s1,d1⟩
  have l1:=p1.length_eq;have hN1:∀y∈V1,y<N:=fun y hy=>hN y (p1.mem_iff.mp hy)
  dsimp only;refine wpS_bind (wpS_mono (wpS_forRange (I:=fun x d st2=>st2=st'/\∃l r,d=(none,l,r)/\l<=r/\r<=k/\r-l<=k-x/\(∀i,i<l->lt (g V1 k) (g V1 i)=false)/\(∀i,r<=i->i<k->lt (g V1 k) (g V1 i)=true))
   (Q:=fun d st2=>st2=st'/\∃l,d=(none,l,l)/\l<=k/\(∀i,i<l->lt (g V1 k) (g V1 i)=false)/\(∀i,l<=i->i<k->lt (g V1 k) (g V1 i)=true)) ?_ ?_ ⟨rfl,0,k,rfl,Nat.zero_le _,Nat.le_refl _,by lia,fun i hi=>by lia,fun i a b=>by lia⟩) ?_)
  ·rintro x d st2 _ hx ⟨rfl,l,r,rfl,b1,b2,b3,b4,b5⟩
   dsimp only
   by_cases hge:l>=r
   ·rw[if_pos hge]
    obtain rfl:l=r:=by lia
    exact wpS_pure ⟨rfl,l,rfl,b2,b4,b5⟩
   ·rw[if_neg hge]
    refine wpS_bind (jC c hN1 s1 hU (i:=k) (j:=(l+r) / 2) rfl rfl (by lia) (by lia) ?_)
    cases e:lt (g V1 k) (g V1 ((l+r) / 2)) with
    | true =>
     refine wpS_pure ⟨rfl,_,_,rfl,by lia,by lia,by lia,b4,fun i hi hik => ?_⟩
     cases q:lt (g V1 k) (g V1 i) with
     | true=>rfl
     | false =>
      have z:=O.trans _ _ _ (d1 ((l+r) / 2) i hi hik) q;rw[e] at z; cases z
    | false=>exact wpS_pure ⟨rfl,_,_,rfl,by lia,b2,by lia,fun i hi=>O.trans _ _ _ (d1 i ((l+r) / 2) (by lia) (by lia)) e,b5⟩
  ·rintro d st2 ⟨rfl,l,r,rfl,b1,b2,b3,b4,b5⟩
   obtain rfl:l=r:=by lia
   exact⟨rfl,l,rfl,b2,b4,b5⟩
  ·rintro d st2 ⟨rfl,l,rfl,b1,b2,b3⟩
   dsimp only;refine wpS_bind (Bm s1 hU (by lia) b1 fun st3 s3 => ?_)
   exact wpS_pure ⟨rfl,_,(yZ V1 k l).trans p1,s3,y9 O (by lia) b1 d1 b2 b3⟩
 ·rintro d st' ⟨rfl,V1,p1,s1,d1⟩
  rw[Nat.max_eq_right (by lia)] at d1
  exact⟨rfl,V1,p1,s1,d1⟩
 ·rintro d st' ⟨rfl,V1,p1,s1,d1⟩
  exact wpS_pure (h V1 st' p1 (d1.sd (by rw[p1.length_eq]; exact hn)) s1)
theorem nJ:∀ (l:List Keyed) (X:List Keyed) (sa k:Nat),sa+k+l.length<=X.length->(l.zipIdx k).foldl (fun (a:Array Keyed) (q:Keyed×Nat)=>a.setIfInBounds (sa+q.2) q.1) X.toArray=(X.take (sa+k)++l++X.drop (sa+k+l.length)).toArray
 | [],X,sa,k,_=>by simp
 | x::l,X,sa,k,h=>by
  rw[List.length_cons] at h;rw[List.zipIdx_cons,List.foldl_cons];have e:X.toArray.setIfInBounds (sa+k) x=(X.set (sa+k) x).toArray:=by simp
  dsimp only;rw[e,nJ l (X.set (sa+k) x) sa (k+1) (by rw[List.length_set]; lia)]
  congr 1
  have e1:(X.set (sa+k) x).take (sa+(k+1))=X.take (sa+k)++[x]:=by
   rw[<-Nat.add_assoc,List.take_succ,List.take_set_of_le (Nat.le_refl _),List.getElem?_set_self (by lia)]
   rfl
  have e2:(X.set (sa+k) x).drop (sa+(k+1)+l.length)=X.drop (sa+k+(x::l).length):=by
   rw[List.drop_set_of_lt (by lia),List.length_cons,show sa+(k+1)+l.length=sa+k+(l.length+1) by lia]
  rw[e1,e2,List.append_assoc,List.append_assoc,List.append_assoc];rfl
end
inductive Mt (lt:Nat->Nat->Bool):Nat->List (List Nat)->List (Nat×Nat×Nat)->Prop
 | nil (s:Nat):Mt lt s [] []
 | cons {s:Nat} {r:List Nat} {rs:List (List Nat)} {pw:Nat} {ps:List (Nat×Nat×Nat)}:0<r.length->Sd lt r->Mt lt (s+r.length) rs ps->Mt lt s (r::rs) ((s,r.length,pw)::ps)
theorem Mt.split {lt:Nat->Nat->Bool}:∀ {ps:List (Nat×Nat×Nat)} {rs:List (List Nat)} {s i:Nat},Mt lt s rs ps->i+1<ps.length->∃R0 A B R1 q0 q1 pa pb,rs=R0++A::B::R1/\q0.length=i/\0<A.length/\0<B.length/\Sd lt A/\Sd lt B /\
   ps=q0++(s+R0.flatten.length,A.length,pa)::(s+R0.flatten.length+A.length,B.length,pb)::q1/\∀C:List Nat,C.length=A.length+B.length->Sd lt C->Mt lt s (R0++C::R1) (q0++(s+R0.flatten.length,A.length+B.length,pa)::q1)
 | _,_,s,i,.nil _,h=>by simp at h
 | _,_,s,0,.cons (r:=r) (pw:=pw) h1 h2 m,h=>by
  cases m with
  | nil=>simp at h
  | @cons _ r2 rs pw2 ps g1 g2 m =>
   refine⟨[],r,r2,rs,[],ps,pw,pw2,rfl,rfl,h1,g1,h2,g2,by simp,fun C hC sC => ?_⟩
   rw[List.nil_append,List.nil_append,<-hC];refine .cons (by lia) sC ?_
   rw[hC,<-Nat.add_assoc];exact m
 | _,_,s,i+1,.cons (r:=r) (pw:=pw) h1 h2 m,h=>by
  obtain⟨R0,A,B,R1,q0,q1,pa,pb,e1,e2,e3,e4,e5,e6,e7,e8⟩:=Mt.split (i:=i) m (by simpa using h)
  refine⟨r::R0,A,B,R1,(s,r.length,pw)::q0,q1,pa,pb,by rw[e1]; rfl,by rw[List.length_cons,e2],e3,e4,e5,e6,?_,fun C hC sC => ?_⟩
  ·rw[e7,List.flatten_cons,List.length_append,<-Nat.add_assoc]; rfl
  ·have:=e8 C hC sC
   rw[List.flatten_cons,List.length_append,<-Nat.add_assoc];exact .cons h1 h2 this
theorem Mt.snoc {lt:Nat->Nat->Bool} {s:Nat} {rs:List (List Nat)} {ps:List (Nat×Nat×Nat)} (m:Mt lt s rs ps) {r:List Nat} (h1:0<r.length) (h2:Sd lt r) (pw:Nat):Mt lt s (rs++[r]) (ps++[(s+rs.flatten.length,r.length,pw)]):=by
 induction m with
 | nil s=>exact .cons h1 h2 (.nil _)
 | @cons s r' rs pw' ps g1 g2 m ih =>
  rw[List.flatten_cons,List.length_append,<-Nat.add_assoc];exact .cons g1 g2 ih
theorem Mt.len {lt:Nat->Nat->Bool} {s:Nat} {rs:List (List Nat)} {ps:List (Nat×Nat×Nat)} (m:Mt lt s rs ps):rs.length=ps.length/\ps.length<=rs.flatten.length:=by
 induction m with
 | nil s=>exact⟨rfl,Nat.le_refl _⟩
 | cons g1 g2 m ih=>rw[List.length_cons,List.length_cons,List.flatten_cons,List.length_append]; lia
theorem Mt.last {lt:Nat->Nat->Bool} {s:Nat} {rs:List (List Nat)} {ps:List (Nat×Nat×Nat)} (m:Mt lt s rs ps) (pw:Nat):Mt lt s rs (ps.modify (ps.length-1) fun q=>(q.1,q.2.1,pw)):=by
 induction m with
 | nil s=>exact .nil s
 | @cons s r rs pw' ps g1 g2 m ih =>
  cases ps with
  | nil=>exact .cons g1 g2 m
  | cons q ps=>exact .cons g1 g2 ih
section
variable {prog:Program} {w:World} {A:Around} {S:Shared} {κ:SortKind} {it:Array Keyed} {lt:Nat->Nat->Bool} {N:Nat}
theorem jb (O:Ord lt) (c:vF prog w A S κ it lt N) {p:List Nat} (hN:∀x∈p,x<N) {rs:List (List Nat)} {V:List Nat} (ep:p=rs.flatten++V) {ps:List (Nat×Nat×Nat)} (m:Mt lt 0 rs ps) {st:SortSt} (s:St κ it p ps.toArray st) {i:Nat} (hi:i+1<ps.length) {Q:Bool->SortSt->Prop}
  (h:∀rs' ps' st',rs'.flatten.Perm rs.flatten->Mt lt 0 rs' ps'->ps'.length+1=ps.length->St κ it (rs'.flatten++V) ps'.toArray st'->Q true st'):W prog w A S (mergeAt' i) Q st:=by
 obtain⟨R0,X,Y,R1,q0,q1,pa,pb,e1,e2,e3,e4,e5,e6,e7,e8⟩:=m.split hi;rw[Nat.zero_add] at e7 e8;show wpS _ _ _ _ _ _ _;refine wpS_bind (wpS_get ?_);have g1:(pendingOf st)[i]? = some (R0.flatten.length,X.length,pa):=by rw[s.pend,e7,<-e2]; simp
 have g2:(pendingOf st)[i+1]? = some (R0.flatten.length+X.length,Y.length,pb):=by rw[s.pend,e7,<-e2]; simp
 rw[g1,g2];dsimp only;have e7':((pendingOf st).setIfInBounds i (R0.flatten.length,X.length+Y.length,pa)).eraseIdxIfInBounds (i+1)=(q0++(R0.flatten.length,X.length+Y.length,pa)::q1).toArray:=by
  rw[s.pend,e7,<-e2];simp[List.eraseIdx_append_of_length_le]
 rw[e7'];refine wpS_bind (show wpS _ _ _ _ (set (SortSt.mk' (kindOf st) (arrOf st) (q0++(R0.flatten.length,X.length+Y.length,pa)::q1).toArray (gallopOf st) (failedOf st))) _ _ from ?_)
 refine (show ∀ {st':SortSt} {Q':PUnit->SortSt->Prop},Q' ⟨⟩ st'->wpS (model prog w) A (fun _ _=>False) S (set st':StateT SortSt Sem PUnit) Q' st from fun {st' Q'} q=>by unfold wpS; rw[StateT.run_set]; exact wpAny_pure ⟨rfl,q⟩) ?_
 have s1:St κ it p (q0++(R0.flatten.length,X.length+Y.length,pa)::q1).toArray (SortSt.mk' (kindOf st) (arrOf st) (q0++(R0.flatten.length,X.length+Y.length,pa)::q1).toArray (gallopOf st) (failedOf st)):=⟨s.kind,s.arr,rfl,s.fail⟩;have harr:(sortPriv% PySem.Builtin.SortState.a) st=ar it p:=s.arr;generalize SortSt.mk' (kindOf st) (arrOf st) (q0++(R0.flatten.length,X.length+Y.length,pa)::q1).toArray (gallopOf st) (failedOf st)=st1 at s1 ⊢;rw[harr];have ps':(q0++(R0.flatten.length,X.length+Y.length,pa)::q1).length+1=ps.length:=by rw[e7]; simp; lia
 generalize hU:R0.flatten=U at e7 e8 s1 ps' g1 g2;generalize hW1:R1.flatten++V=W1;have pp:p=U++(X++(Y++W1)):=by rw[ep,e1,<-hU,<-hW1]; simp
 have back:∀C:List Nat,(R0++C::R1).flatten++V=U++(C++W1):=fun C=>by rw[<-hU,<-hW1]; simp
 have fin:∀ (C:List Nat) (st':SortSt),C.Perm (X++Y)->Sd lt C->St κ it (U++(C++W1)) (q0++(U.length,X.length+Y.length,pa)::q1).toArray st'->Q true st':=fun C st' pC sC sS=>by
  refine h (R0++C::R1) _ st' ?_ (e8 C (by rw[pC.length_eq,List.length_append]) sC) ps' (by rw[back]; exact sS)
  rw[e1,List.flatten_append,List.flatten_append,List.flatten_cons,List.flatten_cons,List.flatten_cons,<-List.append_assoc X];exact List.Perm.append_left _ (pC.append_right _)
 have lp:p.length=U.length+(X.length+(Y.length+W1.length)):=by rw[pp]; simp
 have dX:p.drop U.length=X++(Y++W1):=by rw[pp]; simp
 have dY:p.drop (U.length+X.length)=Y++W1:=by rw[<-List.drop_drop,dX]; simp
 have i1:U.length+X.length<p.length:=by lia
 have pY:p[U.length+X.length]=Y[0]:=by
  have:p[U.length+X.length]? = Y[0]? := by
   rw[pp,List.getElem?_append_right (by lia),Nat.add_sub_cancel_left,List.getElem?_append_right (Nat.le_refl _),Nat.sub_self,List.getElem?_append_left e4]
  rw[List.getElem?_eq_getElem i1,List.getElem?_eq_getElem e4] at this;exact Option.some.inj this
 have hXN:∀x∈X,x<N:=fun x hx=>hN x (by rw[pp]; simp[hx])
 have hYN:∀x∈Y,x<N:=fun x hx=>hN x (by rw[pp]; simp[hx])
 have tX:∀ {k:Nat},k<=X.length->(p.drop U.length).take k=X.take k:=fun {k} hk=>by rw[dX,List.take_append_of_le_length hk]
 have tY:∀ {k:Nat},k<=Y.length->(p.drop (U.length+X.length)).take k=Y.take k:=fun {k} hk=>by rw[dY,List.take_append_of_le_length hk]
 refine wpS_bind (bg i1 ?_);rw[pY];refine wpS_bind (kI O c (hYN _ (List.getElem_mem e4)) hN (by lia) (by rw[tX (Nat.le_refl _),List.take_length]; exact e5) e3 s1.kind fun k hk hlo hhi => ?_)
 rw[tX hk] at hlo;rw[tX (Nat.le_refl _),List.take_length] at hhi;have Y0:=i8 O e6 e4;rw[List.drop_zero] at Y0;dsimp only
 by_cases k0:X.length-k=0
 ·rw[if_pos (by simpa using k0)]
  refine wpS_pure (fin (X++Y) st1 (.refl _) (List.pairwise_append.mpr ⟨e5,e6,fun x hx y hy => ?_⟩) (by rw[List.append_assoc,<-pp]; exact s1))
  rw[List.take_of_length_le (by lia)] at hlo
  exact O.trans _ _ _ (hlo x hx) (Y0 y hy)
 rw[if_neg (by simpa using k0)]
 have i2:U.length+k+(X.length-k)-1<p.length:=by lia
 have i3:X.length-1<X.length:=by lia
 have pX:p[U.length+k+(X.length-k)-1]=X[X.length-1]:=by
  have:p[U.length+k+(X.length-k)-1]? = X[X.length-1]? := by
   rw[pp,List.getElem?_append_right (by lia),List.getElem?_append_left (by lia)]
   congr 1; lia
  rw[List.getElem?_eq_getElem i2,List.getElem?_eq_getElem i3] at this;exact Option.some.inj this
 refine wpS_bind (bg i2 ?_);rw[pX];refine wpS_bind (kJ O c (hXN _ (List.getElem_mem i3)) hN (by lia) (by rw[tY (Nat.le_refl _),List.take_length]; exact e6) (by lia) s1.kind fun j hj jlo jhi => ?_)
 rw[tY hj] at jlo;rw[tY (Nat.le_refl _),List.take_length] at jhi;have Xl:∀x∈X,lt X[X.length-1] x=false:=by
  have:=i9 O e5 e3 (Nat.le_refl _);rw[List.take_length] at this;exact this
 dsimp only
 by_cases j0:j=0
 ·rw[if_pos (by simpa using j0)]
  refine wpS_pure (fin (X++Y) st1 (.refl _) (List.pairwise_append.mpr ⟨e5,e6,fun x hx y hy => ?_⟩) (by rw[List.append_assoc,<-pp]; exact s1))
  rw[j0,List.drop_zero] at jhi;exact O.trans _ _ _ (Xl x hx) (jhi y hy)
 rw[if_neg (by simpa using j0)]
 have ex:(ar it p).extract (U.length+k) (U.length+X.length)=ar it (X.drop k):=by
  rw[tu,<-List.drop_drop,dX,List.drop_append_of_le_length hk,List.take_append_of_le_length (by rw[List.length_drop]; lia),List.take_of_length_le (by rw[List.length_drop]; lia)]
 have ey:(ar it p).extract (U.length+X.length) (U.length+X.length+j)=ar it (Y.take j):=by
  rw[rK,tY hj]
 rw[ex,ey];have sC:∀res:List Nat,Res lt (X.drop k) (Y.take j) res->Sd lt (X.take k++res++Y.drop j)/\(X.take k++res++Y.drop j).Perm (X++Y):=fun res ⟨r1,r2⟩=>by
  refine⟨List.pairwise_append.mpr ⟨List.pairwise_append.mpr ⟨e5.take k,r1,fun x hx y hy => ?_⟩,e6.drop j,fun x hx y hy => ?_⟩,?_⟩
  ·rcases lM (r2.mem_iff.mp hy) with hy | hy
   ·have h2:=e5
    unfold Sd at h2;rw[<-List.take_append_drop k X] at h2;exact (List.pairwise_append.mp h2).2.2 x hx y hy
   ·exact O.trans _ _ _ (hlo x hx) (Y0 y (List.mem_of_mem_take hy))
  ·rcases lM hx with hx | hx
   ·exact O.trans _ _ _ (Xl x (List.mem_of_mem_take hx)) (jhi y hy)
   ·rcases lM (r2.mem_iff.mp hx) with hx | hx
    ·exact O.trans _ _ _ (Xl x (List.mem_of_mem_drop hx)) (jhi y hy)
    ·have h2:=e6
     unfold Sd at h2;rw[<-List.take_append_drop j Y] at h2;exact (List.pairwise_append.mp h2).2.2 x hx y hy
  ·have:(X.take k++res++Y.drop j).Perm (X.take k++(X.drop k++Y.take j)++Y.drop j):=(List.Perm.append_left _ r2).append_right _
   refine this.trans (.of_eq ?_);rw[<-List.append_assoc,List.take_append_drop,List.append_assoc,List.take_append_drop]
 have tail:∀ (res:List Nat) (st2:SortSt),bz st1 st2->Res lt (X.drop k) (Y.take j) res->wpS (model prog w) A (fun _ _=>False) S (do
   modify fun s=>SortSt.mk' (kindOf s) (List.foldl (fun a x=>match x with | (p,j)=>a.setIfInBounds (U.length+k+j) p) (arrOf s) (ar it res).toList.zipIdx) (pendingOf s) (gallopOf s) (failedOf s)
   let r <-get
   pure (failedOf r).isNone) Q st2:=fun res st2 sm hr=>by
  refine wpS_bind (wpS_modify (wpS_bind (wpS_get (wpS_pure ?_))));obtain⟨c1,c2⟩:=sC res hr;have lr:res.length=X.length-k+j:=by rw[hr.2.length_eq,List.length_append,List.length_drop,List.length_take]; lia
  have hf:failedOf st2=none:=sm.fail.trans s1.fail;show Q ((failedOf st2).isNone) _;rw[hf];refine fin _ _ c2 c1 ⟨sm.kind.trans s1.kind,?_,sm.pend.trans s1.pend,rfl⟩;show List.foldl _ (arrOf st2) _=_;rw[sm.arr,s1.arr];have wa:=nJ (res.map (kas_item it)) (p.map (kas_item it)) (U.length+k) 0 (by rw[List.length_map,List.length_map]; lia)
  refine wa.trans ?_;rw[Nat.add_zero,List.length_map,<-List.map_take,<-List.map_drop,<-List.map_append,<-List.map_append];show ar it _=ar it _
  congr 1
  have t1:p.take (U.length+k)=U++X.take k:=by rw[pp,List.take_length_add_append,List.take_append_of_le_length hk]
  have t2:p.drop (U.length+k+res.length)=Y.drop j++W1:=by
   rw[lr,show U.length+k+(X.length-k+j)=U.length+X.length+j by lia,<-List.drop_drop,dY,List.drop_append_of_le_length hj]
  rw[t1,t2];simp
 have y0:(Y.take j)[0]'(by rw[List.length_take]; lia)=Y[0]:=by rw[List.getElem_take]
 have nx:0<(X.drop k).length:=by rw[List.length_drop]; lia
 have ny:0<(Y.take j).length:=by rw[List.length_take]; lia
 have c1:∀r∈X.drop k,lt r ((Y.take j)[0]'ny)=false:=fun r hr=>by rw[y0]; exact O.asym _ _ (hhi r hr)
 have c2:∀y∈Y.take j,∀x∈(X.drop k).drop ((X.drop k).length-1),lt x y=false:=fun y hy x hx=>by
  rw[List.drop_drop,List.length_drop,show k+(X.length-k-1)=X.length-1 by lia] at hx
  have:X.drop (X.length-1)=[X[X.length-1]]:=by
   have:=bB e3 (Nat.le_refl _);rw[List.take_length] at this;exact this
  rw[this,List.mem_singleton] at hx;subst hx;exact O.asym _ _ (jlo y hy)
 by_cases hle:X.length-k<=j
 ·rw[if_pos hle]
  refine wpS_bind (oS O c (e5.drop k) (e6.take j) (fun x hx=>hXN x (List.mem_of_mem_drop hx)) (fun x hx=>hYN x (List.mem_of_mem_take hx)) nx ny c1 c2 s1.kind fun res st2 sm hr => ?_)
  exact tail res st2 sm hr
 ·rw[if_neg hle]
  refine wpS_bind (oW O c (e5.drop k) (e6.take j) (fun x hx=>hXN x (List.mem_of_mem_drop hx)) (fun x hx=>hYN x (List.mem_of_mem_take hx)) nx ny c1 c2 s1.kind fun res st2 sm hr => ?_)
  exact tail res st2 sm hr
end
section
variable {prog:Program} {w:World} {A:Around} {S:Shared} {κ:SortKind} {it:Array Keyed} {lt:Nat->Nat->Bool} {N:Nat}
theorem ite_le {c:Prop} [Decidable c] (a:Nat):(if c then a-1 else a)<=a:=by split <;> lia
def Wt (κ:SortKind) (it:Array Keyed) (lt:Nat->Nat->Bool) (p0:List Nat) (lo:Nat) (st:SortSt):Prop:=∃rs ps V,Mt lt 0 rs ps/\rs.flatten.length=lo/\St κ it (rs.flatten++V) ps.toArray st/\(rs.flatten++V).Perm p0
theorem mQ (O:Ord lt) (c:vF prog w A S κ it lt N) {p0:List Nat} (hN:∀x∈p0,x<N) {st:SortSt} (s:St κ it p0 #[] st) (h0:2<=p0.length) {Q:Unit->SortSt->Prop}
  (h:∀p st',p.Perm p0->Sd lt p->arrOf st'=ar it p->failedOf st'=none->Q () st'):W prog w A S sortRuns' Q st:=by
 show wpS _ _ _ _ _ _ _;rw[sortRuns'_eq];refine wpS_bind (wpS_get ?_);have hsz:(arrOf st).size=p0.length:=by rw[s.arr,iZ]
 dsimp only;rw[hsz];generalize minRun' p0.length p0.length 0=mr;refine wpS_bind (wpS_mono (wpS_forRange (I:=fun x d st'=>∃lo,d=(none,lo)/\(x<=lo\/lo=p0.length)/\lo<=p0.length/\Wt κ it lt p0 lo st') (Q:=fun d st'=>d=(none,p0.length)/\Wt κ it lt p0 p0.length st') ?_ ?_ ⟨0,rfl,.inl (Nat.le_refl _),Nat.zero_le _,[],[],p0,.nil 0,rfl,s,.refl _⟩) ?_)
 rotate_left
 ·rintro d st' ⟨lo,rfl,a1,a2,a3⟩
  have:lo=p0.length:=by lia
  subst this;exact⟨rfl,a3⟩
 ·rintro d st' ⟨rfl,rs,ps,V,m,hl,sS,pm⟩
  have hV:V=[]:=by
   have:=pm.length_eq;rw[List.length_append,hl] at this;exact List.eq_nil_of_length_eq_zero (by lia)
  subst hV;rw[List.append_nil] at sS pm;dsimp only;have lm:=m.len;refine wpS_bind (wpS_mono (wpS_forRange (I:=fun x d st2=>d=(none,())/\∃rs ps,Mt lt 0 rs ps/\St κ it rs.flatten ps.toArray st2/\rs.flatten.Perm p0/\(ps.length+x<=p0.length\/ps.length<=1)) (Q:=fun d st2=>d=(none,())/\∃rs ps,Mt lt 0 rs ps/\St κ it rs.flatten ps.toArray st2/\rs.flatten.Perm p0/\ps.length<=1) ?_ ?_ ⟨rfl,rs,ps,m,sS,pm,.inl (by lia)⟩) ?_)
  ·rintro x d st2 _ hx ⟨rfl,rs,ps,m,sS,pm,hle⟩
   refine wpS_bind (wpS_get ?_);rw[sS.pend]
   by_cases h1:ps.toArray.size<=1
   ·rw[if_pos h1]
    exact wpS_pure ⟨rfl,rs,ps,m,sS,pm,by simpa using h1⟩
   rw[if_neg h1];have h1':1<ps.length:=by simpa using h1
   refine wpS_bind (jb O c (p:=rs.flatten) (fun x hx=>hN x (pm.mem_iff.mp hx)) (List.append_nil _).symm m sS ?_ fun rs' ps' st3 q1 q2 q3 q4 => ?_)
   ·have:ps.toArray.size=ps.length:=by simp
    exact Nat.lt_of_le_of_lt (Nat.succ_le_succ (ite_le _)) (show ps.toArray.size-2+1<ps.length by lia)
   ·rw[List.append_nil] at q4
    exact wpS_pure ⟨rfl,rs',ps',q2,q4,q1.trans pm,by lia⟩
  ·rintro d st2 ⟨rfl,rs,ps,m,sS,pm,hle⟩
   refine⟨rfl,rs,ps,m,sS,pm,?_⟩;have:=m.len;have:p0.length>=2:=h0;lia
  ·rintro d st2 ⟨rfl,rs,ps,m,sS,pm,hle⟩
   refine wpS_pure (h rs.flatten st2 pm ?_ sS.arr sS.fail);cases m with
   | nil _=>exact .nil
   | cons g1 g2 m =>
    cases m with
    | nil _=>simpa using g2
    | cons _ _ _=>simp at hle
 rintro x d st' _ hx ⟨lo,rfl,a1,a2,rs,ps,V,m,hl,sS,pm⟩;dsimp only
 by_cases hge:lo>=p0.length
 ·rw[if_pos hge]
  have:lo=p0.length:=by lia
  subst this;exact wpS_pure ⟨rfl,rs,ps,V,m,hl,sS,pm⟩
 rw[if_neg hge];have hV:V.length=p0.length-lo:=by
  have:=pm.length_eq;rw[List.length_append,hl] at this;lia
 have hVN:∀ {V':List Nat},V'.Perm V->∀y∈V',y<N:=fun pV y hy=>hN y (pm.mem_iff.mp (lR _ (pV.mem_iff.mp hy)))
 refine wpS_bind (mP O c (hVN (.refl _)) sS hl hV (by lia) fun k V1 st1 k1 k2 pV1 sd1 s1 => ?_)
 have l1:=pV1.length_eq;dsimp only;have push:∀ (rs:List (List Nat)) (ps:List (Nat×Nat×Nat)) (n:Nat) (V2:List Nat) (st2:SortSt),Mt lt 0 rs ps->rs.flatten.length=lo->St κ it (rs.flatten++V2) ps.toArray st2->(rs.flatten++V2).Perm p0->Sd lt (V2.take n)->1<=n->n<=p0.length-lo->V2.length=p0.length-lo ->
   Wt κ it lt p0 (lo+n) (setPending st2 ((pendingOf st2).push (lo,n,0))):=fun rs ps n V2 st2 m hl sS pm sd n1 n2 lv=>by
  have ln:(V2.take n).length=n:=by rw[List.length_take]; lia
  have e:(rs++[V2.take n]).flatten=rs.flatten++V2.take n:=by simp
  have e2:(rs++[V2.take n]).flatten++V2.drop n=rs.flatten++V2:=by rw[e,List.append_assoc,List.take_append_drop]
  refine⟨rs++[V2.take n],ps++[(lo,n,0)],V2.drop n,?_,by rw[e,List.length_append,hl,ln],⟨sS.kind,by rw[e2]; exact sS.arr,?_,sS.fail⟩,by rw[e2]; exact pm⟩
  ·have:=m.snoc (r:=V2.take n) (by lia) sd 0
   rw[Nat.zero_add,hl,ln] at this;exact this
  ·show (pendingOf st2).push _=_
   rw[sS.pend];simp
 by_cases hmr:k<mr
 rw[if_pos hmr];refine wpS_bind (wpS_lift (wpAny_rule ⟨rfl,?_⟩));have f1:min (p0.length-lo) mr<=p0.length-lo:=Nat.min_le_left _ _;have f2:k<=min (p0.length-lo) mr:=by lia
 generalize min (p0.length-lo) mr=n at f1 f2 ⊢;refine wpS_bind (qm O c (hVN pV1) s1 hl (by lia) k1 f2 sd1 fun V2 st2 pV2 sd2 s2 => ?_)
 have pV2:=pV2.trans pV1;have n1:1<=n:=by lia
 rw[if_neg (by simp)]
 rotate_left
 rw[if_neg hmr];obtain⟨n,rfl⟩:∃n,n=k:=⟨k,rfl⟩;obtain⟨V2,rfl⟩:∃V2,V2=V1:=⟨_,rfl⟩;obtain⟨st2,rfl⟩:∃st2,st2=st1:=⟨_,rfl⟩;have pV2:=pV1;have sd2:=sd1;have s2:=s1;have n1:=k1;have f1:=k2
 all_goals
  have l2:V2.length=p0.length-lo:=by rw[pV2.length_eq,hV]
  have pm2:(rs.flatten++V2).Perm p0:=(List.Perm.append_left _ pV2).trans pm;refine wpS_bind (wpS_get ?_);rw[s2.pend];cases hb:ps.toArray.back? with
  | none =>
   dsimp only;refine wpS_bind (wpS_modify (wpS_pure ⟨lo+n,rfl,by lia,by lia,?_⟩))
   exact push rs ps n V2 st2 m hl s2 pm2 sd2 n1 f1 l2
  | some q =>
   obtain⟨b1,b2,b3⟩:=q;dsimp only;generalize power' p0.length (2*b1+b2) (2*b1+b2+b2+n) p0.length=pw;refine wpS_bind (wpS_mono (wpS_forRange (I:=fun x d st3=>d=(none,())/\∃rs ps,Mt lt 0 rs ps/\rs.flatten.length=lo/\St κ it (rs.flatten++V2) ps.toArray st3/\(rs.flatten++V2).Perm p0) (Q:=fun d st3=>d=(none,())/\∃rs ps,Mt lt 0 rs ps/\rs.flatten.length=lo/\St κ it (rs.flatten++V2) ps.toArray st3/\(rs.flatten++V2).Perm p0) ?_ (fun _ _ z=>z) ⟨rfl,rs,ps,m,hl,s2,pm2⟩) ?_)
   ·rintro y d st3 _ _ ⟨rfl,rs,ps,m,hl,s3,pm3⟩
    refine wpS_bind (wpS_get ?_);rw[s3.pend]
    by_cases h1:ps.toArray.size>1
    ·rw[if_pos h1]
     have h1':ps.length>1:=by simpa using h1
     have e1:ps.toArray[ps.toArray.size-2]? = some (ps[ps.length-2]'(by lia)):=by simp
     rw[e1];generalize ps[ps.length-2]'(by lia)=q
     obtain⟨c1,c2,c3⟩:=q;dsimp only
     by_cases h2:c3<=pw
     ·rw[if_pos h2]
      exact wpS_pure ⟨rfl,rs,ps,m,hl,s3,pm3⟩
     ·rw[if_neg h2]
      refine wpS_bind (jb O c (p:=rs.flatten++V2) (fun x hx=>hN x (pm3.mem_iff.mp hx)) rfl m s3 (by simp; lia) fun rs' ps' st4 q1 q2 q3 q4 => ?_)
      exact wpS_pure ⟨rfl,rs',ps',q2,q1.length_eq.trans hl,q4,(q1.append_right _).trans pm3⟩
    ·rw[if_neg h1]
     exact wpS_pure ⟨rfl,rs,ps,m,hl,s3,pm3⟩
   ·rintro d st3 ⟨rfl,rs,ps,m,hl,s3,pm3⟩
    dsimp only;refine wpS_bind (wpS_modify (wpS_bind (wpS_modify (wpS_pure ⟨lo+n,rfl,by lia,by lia,?_⟩))))
    refine push rs (ps.modify (ps.length-1) fun q=>(q.1,q.2.1,pw)) n V2 _ (m.last pw) hl ⟨s3.kind,s3.arr,?_,s3.fail⟩ pm3 sd2 n1 f1 l2
    refine Eq.trans (b:=(pendingOf st3).modify ((pendingOf st3).size-1) fun q=>(q.1,q.2.1,pw)) rfl ?_
    rw[s3.pend];simp
end
end TS
end
section
namespace L2
open PySem PySem.W PyProof.Rows PySem.Calls TS
section
variable {prog:Program} {w:World} {A:Around} {E:Value->Shared->Prop} {s:Shared}
noncomputable def dU (vs:List Value) (p:Array Nat):List Value:=p.toList.map fun i=>vs.getD i Value.none
theorem uS (vs:List Value):dU vs (List.toArray (List.range vs.length))=vs:=by
 unfold dU;apply List.ext_getElem?;intro i;rw[List.getElem?_map]
 by_cases hi:i<vs.length
 ·simp[List.getElem?_range hi,hi]
 ·simp[List.getElem?_eq_none,hi,Nat.le_of_not_lt hi]
theorem jc {n:Nat} (h:n<=1000000):n<=sizeLine:=by rw[sizeLine_eq]; lia
theorem Bo {lt:Nat->Nat->Bool} (O:Ord lt) {p:List Nat} (h:Sd lt p):Bj lt p.toArray p.length:=fun i j hij hj=>by
 by_cases e:i=j
 ·subst e; exact ql O _
 ·have:=List.pairwise_iff_getElem.mp h i j (by lia) hj (by lia)
  have gi:gD p.toArray i=p[i]'(by lia):=by unfold gD; simp[Array.getD,show i<p.length by lia]
  have gj:gD p.toArray j=p[j]:=by unfold gD; simp[Array.getD,hj]
  rw[gi,gj];exact this
theorem ig {a:Addr} {vs:List Value} {n:Nat} {lt:Nat->Nat->Bool} {P:PySem.Fin->Shared->Prop} (O:Ord lt) (ho:s.heap.get? a=some (seqObj "list" vs.toArray n)) (hbig:vs.length<=1000000)
  (hk:2<=vs.length->∀h':Heap,(∀b o,b≠a->s.heap.get? b=some o->h'.get? b=some o)->∃κ,(∀Q:SortKind->Shared->Prop,Q κ { s with heap:=h' }->wpAny (model prog w) A (keyKind' vs.toArray) Q (fun _ _=>False) { s with heap:=h' }) /\
   ∀i j,i<vs.length->j<vs.length->∀C:Bool->Shared->Prop,C (lt i j) { s with heap:=h' }->wpAny (model prog w) A (keyLt' κ (vs.getD i Value.none) (vs.getD j Value.none)) C (fun _ _=>False) { s with heap:=h' })
  (h:∀p:Array Nat,Pm vs.length p->Bj lt p vs.length->P (.done (.ret .none)) { s with heap:=sortedHeap s.heap a vs (dU vs p).toArray }) :
  wpAny (model prog w) A (Builtin.«list.sort» ⟨[.ref a],[]⟩) P E s:=by
 have ha:a<s.heap.objs.size:=Heap.lt_size ho;obtain⟨e1,ho1⟩:∃e1,(s.heap.update a (Obj.mapSeq fun _=>(#[]:Array Value))).get? a=some (seqObj "list" #[] e1):=⟨_,get?_update_seq ho fun _ => #[]⟩
 rw[list_sort_plain];refine wpAny_bind (listItems_at ho rfl ?_);refine wpAny_bind (listUpdate_at ho rfl ?_ (by rw[List.size_toArray]; exact jc hbig) (Nat.zero_le _))
 refine wpAny_bind (seqEpoch_at ho1 rfl ?_);refine wpAny_bind (wpAny_newTuple ?_ (by show vs.length<=_; exact jc hbig))
 refine wpAny_bind (wpAny_newList ?_ (Nat.zero_le _));refine wpAny_holding ?_;have ho6:(((s.heap.update a (Obj.mapSeq fun _ => #[])).push (seqObj "tuple" vs.toArray 0)).push (seqObj "list" #[] 0)).get? a=some (seqObj "list" #[] e1):=by
  rw[Heap.get?_push_ne _ _ _ (by rw[size_push',Heap.size_update]; exact Nat.ne_of_lt (Nat.lt_succ_of_lt ha)),Heap.get?_push_ne _ _ _ (by rw[Heap.size_update]; exact Nat.ne_of_lt ha)]
  exact ho1
 show wpAny (model prog w) A _ P E { s with heap:=((s.heap.update a (Obj.mapSeq fun _=>(#[]:Array Value))).push (seqObj "tuple" vs.toArray 0)).push (seqObj "list" #[] 0) }
 dsimp only
 by_cases h2:vs.toArray.size<2
 ·rw[if_pos h2,if_pos h2]
  refine wpAny_bind (wpAny_pure ?_);rw[StateT.run_pure];refine wpAny_bind (wpAny_pure ?_);dsimp only;refine wpAny_bind (seqEpoch_at ho6 rfl ?_);have hsmall:vs.length<2:=by simpa using h2
  refine wpAny_bind (listUpdate_at ho6 rfl ?_ (hsz2:=by rw[Array.size_map]; show (pairsOf vs).size<=_; rw[pairsOf_size]; exact Nat.le_succ_of_le (jc hbig)))
  simp only[bne_self_eq_false,Bool.false_eq_true,if_false];have hs:Bj lt (List.toArray (List.range vs.length)) vs.length:=fun i j hij hj=>by
   have e:i=j:=by lia
   subst e; exact ql O _
  have z:=h _ (Array.Perm.refl _) hs;have eo:((arrOf (SortSt.mk' general' (vs.toArray.zip vs.toArray) #[] 7 none)).map (·.2))=(dU vs (List.toArray (List.range vs.length))).toArray:=by
   rw[uS];show (vs.toArray.zip vs.toArray).map (·.2)=vs.toArray;apply Array.toList_inj.mp;simp[List.map_snd_zip]
  refine wpAny_pure ?_;rw[<-eo] at z;exact z
 ·rw[if_neg h2,if_neg h2]
  have h2':2<=vs.length:=by
   have:¬vs.length<2:=by simpa using h2
   lia
  have keep:∀b o,b≠a->s.heap.get? b=some o->(((s.heap.update a (Obj.mapSeq fun _=>(#[]:Array Value))).push (seqObj "tuple" vs.toArray 0)).push (seqObj "list" #[] 0)).get? b=some o:=fun b o hb e =>
   Heap.get?_push_of_some _ (Heap.get?_push_of_some _ ((Heap.get?_update_other s.heap _ (Ne.symm hb)).trans e))
  obtain⟨κ,hkk,hlt⟩:=hk h2' _ keep;refine wpAny_bind (wpAny_mono (hkk _ ?_) (fun κ s0 hk=>hk) fun _ _ x=>x.elim)
  generalize eS:({ s with heap:=((s.heap.update a (Obj.mapSeq fun _=>(#[]:Array Value))).push (seqObj "tuple" vs.toArray 0)).push (seqObj "list" #[] 0) }:Shared)=S at hlt ⊢
  have item:∀i,i<vs.length->(kas_item (vs.toArray.zip vs.toArray) i).1=vs.getD i Value.none:=fun i hi=>by
   unfold kas_item;simp[Array.getD,hi]
  have cm:vF prog w A S κ (vs.toArray.zip vs.toArray) lt vs.length:=fun i j hi hj C hC=>by
   rw[item i hi,item j hj];exact hlt i j hi hj C hC
  have er:=kas_range (vs.toArray.zip vs.toArray);rw[show (vs.toArray.zip vs.toArray).size=vs.length by simp] at er
  have sS:TS.St κ (vs.toArray.zip vs.toArray) (List.range vs.length) #[] (SortSt.mk' κ (vs.toArray.zip vs.toArray) #[] 7 none):=⟨rfl,by
   rw[List.map_toArray] at er;exact er.symm,rfl,rfl⟩
  have run:=mQ (Q:=fun _ st'=>∃p:List Nat,p.Perm (List.range vs.length)/\Sd lt p/\arrOf st'=p.toArray.map (kas_item (vs.toArray.zip vs.toArray))/\failedOf st'=none) O cm (fun x hx=>List.mem_range.mp hx) sS (by simpa using h2') (fun p st' q1 q2 q3 q4=>⟨p,q1,q2,by rw[q3]; simp[ar],q4⟩)
  refine wpAny_bind (wpAny_mono run ?_ fun _ _ e=>e.elim)
  rintro⟨⟨⟩,st'⟩ s' ⟨hs',p,hp,hsd,har,hf⟩;subst hs';subst eS;dsimp only;have hpl:p.length=vs.length:=by rw[hp.length_eq,List.length_range]
  have hout:=kat_snds (p:=p.toArray) rfl har;rw[hout];refine wpAny_bind (seqEpoch_at ho6 rfl ?_);refine wpAny_bind (listUpdate_at ho6 rfl ?_ (hsz2:=by rw[List.size_toArray,List.length_map]; simp only[hpl]; exact Nat.le_succ_of_le (jc hbig)))
  rw[hf];simp only[bne_self_eq_false,Bool.false_eq_true,if_false];refine wpAny_pure (h p.toArray ?_ ?_)
  ·exact Array.perm_iff_toList_perm.mpr (by simpa using hp)
  ·have:=Bo O hsd
   rw[hpl] at this;exact this
theorem mR {a:Addr} {vs:List Value} {n:Nat} {lt:Nat->Nat->Bool} {P:PySem.Fin->Shared->Prop} (O:Ord lt) (ho:s.heap.get? a=some (seqObj "list" vs.toArray n)) (h64:vs.length<64)
  (hk:2<=vs.length->∀h':Heap,(∀b o,b≠a->s.heap.get? b=some o->h'.get? b=some o)->∃κ,(∀Q:SortKind->Shared->Prop,Q κ { s with heap:=h' }->wpAny (model prog w) A (keyKind' vs.toArray) Q (fun _ _=>False) { s with heap:=h' }) /\
   ∀i j,i<vs.length->j<vs.length->∀C:Bool->Shared->Prop,C (lt i j) { s with heap:=h' }->wpAny (model prog w) A (keyLt' κ (vs.getD i Value.none) (vs.getD j Value.none)) C (fun _ _=>False) { s with heap:=h' })
  (h:∀p:Array Nat,Pm vs.length p->Bj lt p vs.length->P (.done (.ret .none)) { s with heap:=sortedHeap s.heap a vs (dU vs p).toArray }) :
  wpAny (model prog w) A (Builtin.«list.sort» ⟨[.ref a],[]⟩) P E s:=ig O ho (by lia) hk h
theorem rL {l:Addr} {vs:List Value} {lt:Nat->Nat->Bool} {Q:Value->Shared->Prop} (O:Ord lt) (hl:s.heap.IsList l vs.toArray) (h64:vs.length<64)
  (hk:2<=vs.length->∀ (A':Around),A'.units<=A.units+2->∀h':Heap,(∀b o,s.heap.get? b=some o->h'.get? b=some o)->∃κ,(∀Q:SortKind->Shared->Prop,Q κ { s with heap:=h' }->wpAny (model prog w) A' (keyKind' vs.toArray) Q (fun _ _=>False) { s with heap:=h' }) /\
   ∀i j,i<vs.length->j<vs.length->∀C:Bool->Shared->Prop,C (lt i j) { s with heap:=h' }->wpAny (model prog w) A' (keyLt' κ (vs.getD i Value.none) (vs.getD j Value.none)) C (fun _ _=>False) { s with heap:=h' })
  (h:∀p:Array Nat,Pm vs.length p->Bj lt p vs.length->Q (.ref (s.heap.objs.size+1)) { s with heap:=sortedAll s.heap vs (dU vs p).toArray }) :
  wpAny (model prog w) A (call (.builtin "sorted") [.ref l]) Q E s:=by
 refine Calls.call_function_entry kind_sorted plain_sorted entry_sorted (args_sorted1 _) ?_;unfold Builtin.«sorted»;refine wpAny_bind (m:=checkCount "sorted" 1 1 _) (wpAny_pure ?_);refine wpAny_bind (collect_list hl ?_ (by rw[sizeLine_eq]; lia))
 refine wpAny_bind (wpAny_newList ?_ (by rw[sizeLine_eq]; lia))
 have hsz:((s.heap.push (seqObj "list" #[] 0)).update s.heap.objs.size (Obj.mapSeq (· ++ vs.toArray))).objs.size=s.heap.objs.size+1:=by
  rw[Heap.size_update,size_push']
 have hoL:(((s.heap.push (seqObj "list" #[] 0)).update s.heap.objs.size (Obj.mapSeq (· ++ vs.toArray))).push (seqObj "list" vs.toArray 0)).get? (s.heap.objs.size+1)=some (seqObj "list" vs.toArray 0):=by
  rw[<-hsz]; exact Heap.get?_push_size _ rfl
 have keep:∀b o,s.heap.get? b=some o->b≠s.heap.objs.size+1/\(((s.heap.push (seqObj "list" #[] 0)).update s.heap.objs.size (Obj.mapSeq (· ++ vs.toArray))).push (seqObj "list" vs.toArray 0)).get? b=some o:=fun b o q=>by
  have hlt:b<s.heap.objs.size:=Heap.lt_size q;refine⟨Nat.ne_of_lt (Nat.lt_succ_of_lt hlt),?_⟩;rw[Heap.get?_push_ne _ _ _ (by rw[hsz]; exact Nat.ne_of_lt (Nat.lt_succ_of_lt hlt)),Heap.get?_update_ne _ _ _ _ (Nat.ne_of_lt hlt),Heap.get?_push_ne _ _ _ (Nat.ne_of_lt hlt)]
  exact q
 show wpAny _ _ _ _ _ { s with heap:=((s.heap.push (seqObj "list" #[] 0)).update s.heap.objs.size (Obj.mapSeq (· ++ vs.toArray))).push (seqObj "list" vs.toArray 0) }
 rw[hsz];refine wpAny_bind (wpAny_holding (wpAny_call_entry slot_list_sort ⟨_,hoL,rfl⟩ entry_list_sort ?body (args_list_sort _)))
 case body =>
  refine mR O hoL h64 (fun h2 h' kp=>hk h2 _ ?_ h' fun b o e=>kp b o (keep b o e).1 (keep b o e).2) fun p a1 a2=>⟨_,rfl,wpAny_pure ⟨_,rfl,h p a1 a2⟩⟩
  show A.units+1+1<=A.units+2;lia
end
end L2
end
section
namespace L2
open PySem PySem.W PyProof.Rows PySem.Calls
theorem dW:∀ (a b:List Int),HT.lexLt a b=true->HT.lexLt b a=false
 | [],[],h=>by cases h
 | [],_::_,_=>rfl
 | _::_,[],h=>by cases h
 | x::xs,y::ys,h=>by
  rw[HT.cE] at h ⊢
  by_cases e:x=y
  ·subst e
   rw[if_pos rfl] at h ⊢;exact dW xs ys h
  ·rw[if_neg e] at h
   rw[if_neg (Ne.symm e)];have:x<y:=by simpa using h
   exact decide_eq_false (by lia)
theorem eU:∀ (a b c:List Int),HT.lexLt b a=false->HT.lexLt c b=false->HT.lexLt c a=false
 | [],[],[],_,_=>rfl
 | [],[],_::_,_,_=>rfl
 | [],_::_,[],_,h=>by cases h
 | [],_::_,_::_,_,_=>rfl
 | _::_,[],_,h,_=>by cases h
 | _::_,_::_,[],_,h=>by cases h
 | x::xs,y::ys,z::zs,h1,h2=>by
  rw[HT.cE] at h1 h2 ⊢
  by_cases e1:y=x
  ·subst e1
   rw[if_pos rfl] at h1
   by_cases e2:z=y
   ·subst e2
    rw[if_pos rfl] at h2 ⊢;exact eU xs ys zs h1 h2
   ·rw[if_neg e2] at h2 ⊢
    exact h2
  ·rw[if_neg e1] at h1
   have l1:¬y<x:=by simpa using h1
   by_cases e2:z=y
   ·subst e2
    rw[if_neg e1];exact decide_eq_false l1
   ·rw[if_neg e2] at h2
    have l2:¬z<y:=by simpa using h2
    rw[if_neg (by lia)]
    exact decide_eq_false (by lia)
theorem lexOrd (ks:List (List Int)):Ord (fun i j=>HT.lexLt (ks.getD i []) (ks.getD j [])):=⟨fun a b=>dW _ _,fun a b c=>eU _ _ _⟩
def yq (K:PySem.W.Frag) (H:Hp) (ys:List V) (ks:List (List Int)):Prop:=Paired (fun (v:V) (t:List Int)=>∃a,v=.ref a/\cK K H a (t.map V.int)) ys ks
theorem Paired.getD {α β:Type} {F:α->β->Prop} {d:α} {d':β}:∀ {xs:List α} {ys:List β},Paired F xs ys->∀i,i<xs.length->F (xs.getD i d) (ys.getD i d')
 | _,_,.nil,i,h=>absurd h (Nat.not_lt_zero _)
 | _,_,.cons r _,0,_=>r
 | _,_,.cons _ t,i+1,h=>by
  have:=Paired.getD (d:=d) (d':=d') t i (by simpa using h)
  simpa using this
theorem gB {prog:Program} {w:World} {A:Around} {b:Bool} {Q:Bool->Shared->Prop} {s:Shared}:∀ (xs ys:List Value) (as bs:List Int) (i:Nat),Vals (as.map V.int) xs->Vals (bs.map V.int) ys ->
  Q (HT.lexLt as bs) s->∀fin,(∀ (n:Nat),fin=decide (n+xs.length<n+ys.length)->True)->(fin=decide (xs.length<ys.length))->KatLex prog w A b fin Q (xs.zip ys) i s
 | [],ys,as,bs,i,h1,h2,q,fin,_,hf=>by
  have e:as=[]:=by
   have:=h1.length;simpa using this
  subst e;show Q fin s;cases bs with
  | nil =>
   cases h2;rw[hf]; exact q
  | cons y bs =>
   cases h2 with
   | cons _ t =>
    have q:Q true s:=q;rw[hf]; simpa using q
 | x::xs,[],as,bs,i,h1,h2,q,fin,_,hf=>by
  have e:bs=[]:=by
   have:=h2.length;simpa using this
  subst e;cases as with
  | nil=>cases h1
  | cons a as =>
   show Q fin s;have q:Q false s:=q;rw[hf];simpa using q
 | x::xs,y::ys,as,bs,i,h1,h2,q,fin,_,hf=>by
  cases as with
  | nil=>cases h1
  | cons a as =>
   cases bs with
   | nil=>cases h2
   | cons c bs =>
    cases h1 with
    | cons r1 t1 =>
     cases h2 with
     | cons r2 t2 =>
      obtain⟨t,rfl⟩:=r1;obtain⟨u,rfl⟩:=r2;refine kat_cons (wpAny_eqBool_int ?_);rw[HT.cE] at q
      by_cases e:a=c
      ·subst e
       rw[show (a == a)=true by simp]
       rw[if_pos rfl] at q;exact kat_yes (gB xs ys as bs (i+1) t1 t2 q fin (fun _ _=>True.intro) (by rw[hf]; simp))
      ·rw[show (a == c)=false by simpa using e]
       rw[if_neg e] at q;refine kat_no ?_;cases hb:(b && i == 0) with
       | true=>exact oneLt_int q
       | false=>exact kat_one _ _ (lt_int q)
section
variable {X:Cx}
theorem jD:bI X (.builtin "sorted") (fun xs H Q=>∃p ns,xs=[.ref p]/\fV X.K H p (ns.map V.int)/\ns.length<64/\∀ (ns':List Int) l,ns'.Perm ns->ns'.Pairwise (·<=·)->H l=none->Q (.ref l) (upd H l (.lst (ns'.map V.int)))):=by
 intro pins s σ H xs us Q I r h;obtain⟨p,ns,rfl,hq,h64,q⟩:=h;obtain⟨u,rfl,rx⟩:=vals1 r;cases rx;obtain⟨its,rv,pl,hz⟩:=I.list hq;have hI:IntsAre its ns:=by
  clear pl hz h64 q hq
  induction ns generalizing its with
  | nil=>cases rv; exact .nil
  | cons n ns ih =>
   cases rv with
   | cons r1 t1 =>
    obtain⟨t,rfl⟩:=r1;exact .cons n t (ih _ t1)
 have hl:=rv.length;rw[List.length_map] at hl;refine sorted_ints pl.isList hI (by lia) fun out ns' ho hp hs => ?_
 obtain⟨e,he⟩:=sortedAll_at s.heap its out;have hv:Vals (ns'.map V.int) out.toList:=by
  clear he hp hs
  generalize out.toList=os at ho
  induction ho with
  | nil=>exact .nil
  | cons n t _ ih=>exact .cons ⟨_,rfl⟩ ih
 have hlen:(ns'.map V.int).length<=sizeLine:=by
  rw[List.length_map,hp.length_eq,sizeLine_eq]; lia
 refine⟨.ref (s.heap.objs.size+1),_,I.laid (t':=s.toks) (a:=s.heap.objs.size+1) (o:=.lst (ns'.map V.int)) (fun b u e=>sortedAll_old e) (Nat.le_succ _) ?_,rfl,q ns' _ hp hs (I.hok.fresh (Nat.le_succ _))⟩
 refine⟨hlen,out.toList,e,hv,?_⟩;rw[he]
 all_goals simp[seqObj]
theorem gC {pins:List (Addr×Obj)} {σ:St} {H:Hp} {s:Shared} {h':Heap} (I:Inv X pins σ H s) (kp:∀b o,s.heap.get? b=some o->h'.get? b=some o):∀ {ys:List V} {ks:List (List Int)} {its:List Value},yq X.K H ys ks->Vals ys its->(∀t∈ks,t≠[]) ->
  ∃fs,KatTups h' its fs/\fs.length=its.length/\∀v∈fs,∃i t,v=Value.int i t
 | _,_,_,.nil,.nil,_=>⟨[],.nil,rfl,fun _ h=>nomatch h⟩
 | _,_,_,.cons (b:=t) ⟨a,e,hq⟩ r,.cons (b:=u) ru rr,hne=>by
  subst e;cases ru;obtain⟨fs,h1,h2,h3⟩:=gC I kp r rr fun t ht=>hne t (lO _ ht)
  obtain⟨its',rv,⟨o,ho,hc,n,hd⟩,_⟩:=I.tuple hq;cases t with
  | nil=>exact absurd rfl (hne [] lS)
  | cons i t =>
   cases rv with
   | cons r1 t1 =>
    obtain⟨tk,rfl⟩:=r1;refine⟨.int i tk::fs,.cons (kp _ _ ho) hc hd rfl h1,by simp[h2],fun v hv => ?_⟩
    rcases lK hv with e | hv
    ·exact⟨i,tk,e⟩
    ·exact h3 v hv
theorem ir {α β:Type} {p:Array Nat} {zs:List α} {d:α} (h:Pm zs.length p):(p.toList.map fun i=>zs.getD i d).Perm zs:=by
 have h1:p.toList.Perm (List.range zs.length):=Array.perm_iff_toList_perm.mp h;have h2:(p.toList.map fun i=>zs.getD i d).Perm ((List.range zs.length).map fun i=>zs.getD i d):=h1.map _
 have h3:((List.range zs.length).map fun i=>zs.getD i d)=zs:=by
  apply List.ext_getElem?;intro i;rw[List.getElem?_map]
  by_cases hi:i<zs.length
  ·rw[List.getElem?_range hi]
   simp[hi]
  ·rw[List.getElem?_eq_none (by simpa using hi),List.getElem?_eq_none (by simpa using hi)]
   rfl
 rw[h3] at h2;exact h2
theorem kL {α β:Type} {d:α} {d':β}:∀ {xs:List α} {ys:List β} (i:Nat),xs.length=ys.length->(xs.zip ys).getD i (d,d')=(xs.getD i d,ys.getD i d')
 | [],[],i,_=>by simp
 | x::xs,y::ys,0,_=>rfl
 | x::xs,y::ys,i+1,h=>by
  have:=kL (d:=d) (d':=d') (xs:=xs) (ys:=ys) i (by simpa using h)
  simpa using this
 | [],_::_,_,h=>by simp at h
 | _::_,[],_,h=>by simp at h
theorem jE:bI X (.builtin "sorted") (fun xs H Q=>∃p ys ks,xs=[.ref p]/\fV X.K H p ys/\yq X.K H ys ks/\(∀t∈ks,t≠[])/\ys.length<64 /\
  ∀ (zs:List (V×List Int)) l,zs.Perm (ys.zip ks)->(zs.map (·.2)).Pairwise (fun a b=>HT.lexLt b a=false)->H l=none->Q (.ref l) (upd H l (.lst (zs.map (·.1))))):=by
 intro pins s σ H xs us Q I r h;obtain⟨p,ys,ks,rfl,hq,ht,hne,h64,q⟩:=h;obtain⟨u,rfl,rx⟩:=vals1 r;cases rx;obtain⟨its,rv,pl,hz⟩:=I.list hq;have hl:=rv.length;have hk:ys.length=ks.length:=Paired.length ht;refine rL (lexOrd ks) pl.isList (by lia) (fun h2 A' _ h' kp=>⟨tuples' true,fun Q' hq' => ?_,fun i j hi hj C hC => ?_⟩) fun pm hpm hsr => ?_
 ·obtain⟨fs,h1,h2',h3⟩:=gC I kp ht rv hne
  refine kat_kind (s:={ s with heap:=h' }) (T:=.type "int") h1 (by lia) (fun v hv => ?_) rfl hq'
  obtain⟨i,t,rfl⟩:=h3 v hv;exact Looks.now
 ·have hiy:i<ys.length:=by lia
  have hjy:j<ys.length:=by lia
  obtain⟨a,ea,qa⟩:=Paired.getD (d:=V.non) (d':=[]) ht i hiy;obtain⟨b,eb,qb⟩:=Paired.getD (d:=V.non) (d':=[]) ht j hjy;have ra:=Paired.getD (d:=V.non) (d':=Value.none) rv i hiy;have rb:=Paired.getD (d:=V.non) (d':=Value.none) rv j hjy;rw[ea] at ra;rw[eb] at rb;have ra:its.getD i Value.none=.ref a:=ra;have rb:its.getD j Value.none=.ref b:=rb;rw[ra,rb];obtain⟨ia,va,⟨oa,ha,_,na,da⟩,_⟩:=I.tuple qa;obtain⟨ib,vb,⟨ob,hb,_,nb,db⟩,_⟩:=I.tuple qb;refine kat_lt (s:={ s with heap:=h' }) (kp _ _ ha) da (kp _ _ hb) db ?_
  refine gB ia ib _ _ 0 va vb hC _ (fun _ _=>True.intro) ?_
  simp
 ·have hlen:its.length=ys.length:=hl.symm
  have hzl:(ys.zip ks).length=its.length:=by rw[List.length_zip]; lia
  let zs:List (V×List Int):=pm.toList.map fun i=>(ys.zip ks).getD i (V.non,[])
  have hzp:zs.Perm (ys.zip ks):=ir (β:=Nat) (by rw[hzl]; exact hpm)
  have e1:zs.map (·.1)=pm.toList.map fun i=>ys.getD i V.non:=by
   show List.map _ (List.map _ _)=_;rw[List.map_map];exact List.map_congr_left fun i _=>by show ((ys.zip ks).getD i (V.non,[])).1=_; rw[kL i hk]
  have e2:zs.map (·.2)=pm.toList.map fun i=>ks.getD i []:=by
   show List.map _ (List.map _ _)=_;rw[List.map_map];exact List.map_congr_left fun i _=>by show ((ys.zip ks).getD i (V.non,[])).2=_; rw[kL i hk]
  have hpw:(zs.map (·.2)).Pairwise (fun a b=>HT.lexLt b a=false):=by
   rw[e2,List.pairwise_map,List.pairwise_iff_getElem];intro i j hi hj hij;have sz:pm.toList.length=its.length:=by rw[Array.length_toList]; exact hpm.size
   have z:=hsr i j (by lia) (by lia)
   have gi:gD pm i=pm.toList[i]:=by unfold gD; simp[Array.getD,show i<pm.size by simpa using hi]
   have gj:gD pm j=pm.toList[j]:=by unfold gD; simp[Array.getD,show j<pm.size by simpa using hj]
   rw[gi,gj] at z;exact z
  obtain⟨e,he⟩:=sortedAll_at s.heap its (dU its pm).toArray;have hv:Vals (zs.map (·.1)) (dU its pm):=by
   rw[e1];unfold dU;have hb:∀i∈pm.toList,i<ys.length:=fun i hi=>by
    have h1:pm.toList.Perm (List.range its.length):=Array.perm_iff_toList_perm.mp hpm;have:=h1.mem_iff.mp hi;have:i<its.length:=by simpa using this
    lia
   clear he hpw e1 e2 hzp hsr hpm
   generalize pm.toList=ix at hb
   clear zs
   induction ix with
   | nil=>exact .nil
   | cons i ix ih=>exact .cons (Paired.getD (d:=V.non) (d':=Value.none) rv i (hb i lS)) (ih fun j hj=>hb j (lO _ hj))
  refine⟨.ref (s.heap.objs.size+1),_,I.laid (t':=s.toks) (a:=s.heap.objs.size+1) (o:=.lst (zs.map (·.1))) (fun b u e=>sortedAll_old e) (Nat.le_succ _) ?_,rfl,q zs _ hzp hpw (I.hok.fresh (Nat.le_succ _))⟩
  refine⟨?_,dU its pm,e,hv,he⟩;rw[List.length_map,hzp.length_eq,hzl,sizeLine_eq];lia
end
end L2
end
section
namespace L2
open PySem PySem.Spec PyProof.Rows
section
variable {prog:Program} {w:World} {A:Around} {E:Value->Shared->Prop} {s:Shared}
theorem oX {j t:Addr} {k:Nat} {its:Array Value} {v:Value} {Q:Value->Shared->Prop} (hj:s.heap.IsTupleIter j t k) (ht:s.heap.IsTuple t its) (hv:its[k]? = some v)
  (h:∀g,g.IsTupleIter j t (k+1)->Heap.SameBut j s.heap g->Q v { s with heap:=g }):wpAny (model prog w) A (Builtin.SmallTypes.nextOf (.ref j)) Q E s:=by
 obtain⟨oj,ej,cj,dj⟩:=id hj;obtain⟨ot,et,_,nt,dt⟩:=ht;unfold Builtin.SmallTypes.nextOf;refine wpAny_bind (wpAny_callSpecial?_slot (name:=Str.ofString "__next__") hj.typeIs F.slot_tuple_iterator_next (wpAny_call_entry F.slot_tuple_iterator_next hj.typeIs F.entry_tuple_iterator_next ?body (F.args_tuple_iterator_next_1 _)))
 case body =>
  show wpAny _ _ (field (.ref j) 0 >>= _) _ _ s;refine wpAny_bind (wpAny_field ej dj (x:=.ref t) rfl ?a)
  case a =>
   show wpAny _ _ (if (Value.ref t == Value.none)=true then _ else _) _ _ s
   rw[if_neg (by intro z; exact Bool.false_ne_true z)]
   show wpAny _ _ (field (.ref j) 1 >>= _) _ _ s;refine wpAny_bind (wpAny_field ej dj (x:=.int k 0) rfl ?b)
   case b =>
    show wpAny _ _ (seqItems? (.ref t) >>= _) _ _ s;refine wpAny_bind (wpAny_seqItems et dt ?c)
    case c =>
     simp only[Int.toNat_natCast,hv];refine wpAny_bind (wpAny_setField ej dj (by simp) (wpAny_pure ⟨v,rfl,wpAny_pure (h _ ⟨_,Heap.get?_update_self _ ej (Obj.isFreed_of_fields (Obj.data_mapFields dj _)),(Obj.cls_mapFields ..).trans cj,?d⟩ (Heap.SameBut.update ..))⟩))
     rw[Obj.data_mapFields dj];simp[rawInt]
theorem wG {j t:Addr} {k:Nat} {its:Array Value} {Q:Value->Shared->Prop} (hh:A.handled=none) (hj:s.heap.IsTupleIter j t k) (ht:s.heap.IsTuple t its) (hv:its[k]? = none)
  (h:∀g x,Heap.ExtBut j s.heap g->(∃o,g.get? x=some o/\o.cls=.type "StopIteration")->E (.ref x) { s with heap:=g }):wpAny (model prog w) A (Builtin.SmallTypes.nextOf (.ref j)) Q E s:=by
 obtain⟨oj,ej,cj,dj⟩:=id hj;obtain⟨ot,et,_,nt,dt⟩:=ht;unfold Builtin.SmallTypes.nextOf;refine wpAny_bind (wpAny_callSpecial?_slot (name:=Str.ofString "__next__") hj.typeIs F.slot_tuple_iterator_next (wpAny_call_entry F.slot_tuple_iterator_next hj.typeIs F.entry_tuple_iterator_next ?body (F.args_tuple_iterator_next_1 _)))
 case body =>
  show wpAny _ _ (field (.ref j) 0 >>= _) _ _ s;refine wpAny_bind (wpAny_field ej dj (x:=.ref t) rfl ?a)
  case a =>
   show wpAny _ _ (if (Value.ref t == Value.none)=true then _ else _) _ _ s
   rw[if_neg (by intro z; exact Bool.false_ne_true z)]
   show wpAny _ _ (field (.ref j) 1 >>= _) _ _ s;refine wpAny_bind (wpAny_field ej dj (x:=.int k 0) rfl ?b)
   case b =>
    show wpAny _ _ (seqItems? (.ref t) >>= _) _ _ s;refine wpAny_bind (wpAny_seqItems et dt ?c)
    case c =>
     simp only[Int.toNat_natCast,hv];refine wpAny_bind (wpAny_rule (wpAny_bind (wpAny_setField ej dj (by simp) ?d)))
     case d =>
      show wpAny _ _ (newExc (.type "StopIteration") [] >>= _) _ _ _;refine wpAny_bind ?f;simp only[newExc,newTuple];refine wpAny_bind (wpAny_newObj_type ?g (by size_fits))
      case g =>
       refine wpAny_bind (m:=firstArgMember _ _) (wpAny_of_eq (a:=Value.none) (by first | rfl | (simp only[firstArgMember]; rfl)) ?k)
       case k =>
        refine wpAny_newObj_type ?l (by size_fits)
        simp only[raiseNew];refine wpAny_bind (wpAny_handled ?m)
        first | rw[show A.in1.handled=none from hh] | rw[hh]
        refine wpAny_bind (wpAny_pure (wpAny_throw (h _ _ (((Heap.SameBut.update ..).extBut.push _).push _) ⟨_,Heap.get?_push_size _ rfl,rfl⟩)))
structure ZS (g:Heap) (z p q i j a b:Addr) (k:Nat):Prop where
 zr:IsZip g z p q .none
 ins:IsPair g p (.ref i) (.ref j)
 out:∃u v,IsPair g q u v
 one:g.IsTupleIter i a k
 two:g.IsTupleIter j b k
theorem ZS.keep {g g':Heap} {z p q i j a b:Addr} {k:Nat} (x:ZS g z p q i j a b k) (h:∀c∈[z,p,q,i,j],∀o,g.get? c=some o->g'.get? c=some o):ZS g' z p q i j a b k :=
 ⟨h z (by simp) _ x.zr,h p (by simp) _ x.ins,let ⟨u,v,e⟩:=x.out; ⟨u,v,h q (by simp) _ e⟩,x.one.at fun o e=>h i (by simp) o e,x.two.at fun o e=>h j (by simp) o e⟩
theorem Bp {z p q i j a b:Addr} {k:Nat} {xs ys:Array Value} {x y:Value} {Q:Option Value->Shared->Prop} (D:ZipApart z p q i j a b) (Z:ZS s.heap z p q i j a b k) (ha:s.heap.IsTuple a xs) (hb:s.heap.IsTuple b ys) (hx:xs[k]? = some x) (hy:ys[k]? = some y)
  (h:∀g,IsZip g z p q (rawInt s.heap.objs.size)->IsPair g p (.ref i) (.ref j)->IsPair g q x y->g.IsTupleIter i a (k+1)->g.IsTupleIter j b (k+1)->IsPair g s.heap.objs.size x y->(∀c o,c∉[z,q,i,j]->s.heap.get? c=some o->g.get? c=some o)->Q (some (.ref s.heap.objs.size)) { s with heap:=g }) :
  wpAny (model prog w) A (pyNext (.ref z)) Q E s:=by
 have hT:s.TypeIs (.ref z) "zip" := ⟨_,Z.zr,rfl⟩;obtain⟨u0,v0,eq⟩:=Z.out;unfold pyNext;refine wpAny_bind (wpAny_attempt (wpAny_callSpecial?_slot (name:=Str.ofString "__next__") hT F.slot_zip_next (wpAny_call_entry F.slot_zip_next hT F.entry_zip_next ?body (F.args_zip_next_1 _))))
 case body =>
  show wpAny _ _ (field (.ref z) 2 >>= _) _ _ _;refine wpAny_bind (wpAny_field Z.zr rfl (x:=.bool false) rfl ?f2);show wpAny _ _ (field (.ref z) 3 >>= _) _ _ _;refine wpAny_bind (wpAny_field Z.zr rfl (x:=.ref p) rfl (wpAny_bind (wpAny_seqItems Z.ins rfl ?f3)));show wpAny _ _ (Builtin.SmallTypes.ownedTupleIsFree (.ref z) >>= _) _ _ _;refine wpAny_bind ?f4;unfold Builtin.SmallTypes.ownedTupleIsFree;refine wpAny_bind (wpAny_field Z.zr rfl (x:=.none) rfl (wpAny_pure ?f5));simp only[if_true];refine wpAny_bind (wpAny_rule (wpAny_bind (wpAny_field Z.zr rfl (x:=.ref q) rfl (wpAny_bind (wpAny_setField_rec Z.zr (by simp) fun g1 z1 s1 => ?f6)))))
  have z1:IsZip g1 z p q .ellipsis:=z1;refine wpAny_bind ?f7;simp only[List.zipIdx_cons,List.zipIdx_nil,List.forIn_cons,List.forIn_nil];refine wpAny_bind (wpAny_bind (wpAny_onRaise ?f8));show wpAny _ _ (Builtin.SmallTypes.nextOf (.ref i) >>= _) _ _ _;refine wpAny_bind (oX (Z.one.extBut s1.extBut D.i1z) (ha.extBut s1.extBut D.l1z) hx fun g2 i2 s2=>wpAny_pure ?f9)
  have q2:IsPair g2 q u0 v0:=s2.extBut _ _ D.TOi1 (s1.extBut _ _ D.TOz eq);refine wpAny_bind (wpAny_seqItems q2 rfl (wpAny_bind (wpAny_updateSeq_pair q2 fun g3 q3 s3 => ?f10)))
  have q3:IsPair g3 q x v0:=q3;refine wpAny_bind (wpAny_letGo (wpAny_pure ?f11));refine wpAny_bind (wpAny_bind (wpAny_onRaise ?f12));show wpAny _ _ (Builtin.SmallTypes.nextOf (.ref j) >>= _) _ _ _;refine wpAny_bind (oX (((Z.two.extBut s1.extBut D.i2z).extBut s2.extBut D.i12.symm).extBut s3.extBut D.TOi2.symm) (((hb.extBut s1.extBut D.l2z).extBut s2.extBut D.l2i1).extBut s3.extBut D.l2TO) hy fun g4 j4 s4=>wpAny_pure ?f13)
  have q4:IsPair g4 q x v0:=s4.extBut _ _ D.TOi2 q3;refine wpAny_bind (wpAny_seqItems q4 rfl (wpAny_bind (wpAny_updateSeq_pair q4 fun g5 q5 s5 => ?f14)))
  have q5:IsPair g5 q x y:=q5;refine wpAny_bind (wpAny_letGo (wpAny_pure (wpAny_pure ?f15)));refine wpAny_bind (wpAny_seqItems q5 rfl (wpAny_bind (wpAny_newTuple ?f16)));have sz:g5.objs.size=s.heap.objs.size:=by rw[s5.1,s4.1,s3.1,s2.1,s1.1]
  have z5:IsZip g5 z p q .ellipsis:=s5.extBut _ _ D.TOz.symm (s4.extBut _ _ D.i2z.symm (s3.extBut _ _ D.TOz.symm (s2.extBut _ _ D.i1z.symm z1)));have k5:∀c o,c∉[z,q,i,j]->s.heap.get? c=some o->g5.get? c=some o:=fun c o hc e=>by
   have c1:c≠z:=fun t=>hc (by simp[t])
   have c2:c≠q:=fun t=>hc (by simp[t])
   have c3:c≠i:=fun t=>hc (by simp[t])
   have c4:c≠j:=fun t=>hc (by simp[t])
   exact s5.extBut _ _ c2 (s4.extBut _ _ c4 (s3.extBut _ _ c2 (s2.extBut _ _ c3 (s1.extBut _ _ c1 e))))
  have i5:g5.IsTupleIter i a (k+1):=((i2.extBut s3.extBut D.TOi1.symm).extBut s4.extBut D.i12).extBut s5.extBut D.TOi1.symm;have j5:g5.IsTupleIter j b (k+1):=j4.extBut s5.extBut D.TOi2.symm;have zlt:z<g5.objs.size:=Heap.lt_size z5;show wpAny _ _ (Builtin.SmallTypes.ownedTupleHandOut (.ref z) (.ref g5.objs.size) >>= _) _ _ _;refine wpAny_bind ?f17;unfold Builtin.SmallTypes.ownedTupleHandOut;have z6:IsZip (g5.push { cls:=.type "tuple",data:=.seq #[x,y] }) z p q .ellipsis:=Heap.get?_push_of_some _ z5;refine wpAny_bind (wpAny_setField_rec z6 (by simp) fun g7 z7 s7 => ?f18)
  have z7:IsZip g7 z p q (rawInt g5.objs.size):=z7;refine wpAny_setField_rec z7 (by simp) fun g8 z8 s8 => ?f19
  have z8:IsZip g8 z p q (rawInt g5.objs.size):=z8;have up:∀c o,c≠z->g5.get? c=some o->g8.get? c=some o:=fun c o c1 e=>s8.extBut _ _ c1 (s7.extBut _ _ c1 (Heap.get?_push_of_some _ e))
  have t8:IsPair g8 g5.objs.size x y:=s8.extBut _ _ (Nat.ne_of_gt zlt) (s7.extBut _ _ (Nat.ne_of_gt zlt) (Heap.get?_push_size _ rfl));rw[sz] at z8 t8;have pne:p∉[z,q,i,j]:=by
   intro t;simp only[List.mem_cons,List.not_mem_nil,or_false] at t;rcases t with t | t | t | t
   ·exact D.TIz t
   ·exact D.TITO t
   ·exact D.TIi1 t
   ·exact D.TIi2 t
  have fin:=h g8 z8 (up _ _ D.TIz (k5 p _ pne Z.ins)) (up _ _ D.TOz q5) (i5.at fun o e=>up _ o D.i1z e) (j5.at fun o e=>up _ o D.i2z e) t8 fun c o hc e=>up c o (fun t=>hc (by simp[t])) (k5 c o hc e)
  refine wpAny_pure ⟨_,rfl,wpAny_pure ?_⟩;show Q (some (.ref g5.objs.size)) _;rw[sz];exact fin
theorem wH {z p q i j a b:Addr} {k:Nat} {xs ys:Array Value} {Q:Option Value->Shared->Prop} (hh:A.handled=none) (D:ZipApart z p q i j a b) (Z:ZS s.heap z p q i j a b k) (ha:s.heap.IsTuple a xs) (hb:s.heap.IsTuple b ys) (he:xs[k]? = none\/ys[k]? = none)
  (h:∀g,(∀c o,c∉[z,q,i,j]->s.heap.get? c=some o->g.get? c=some o)->Q none { s with heap:=g }):wpAny (model prog w) A (pyNext (.ref z)) Q E s:=by
 have hT:s.TypeIs (.ref z) "zip" := ⟨_,Z.zr,rfl⟩;obtain⟨u0,v0,eq⟩:=Z.out;have apart:∀c,c∉[z,q,i,j]->c≠z/\c≠q/\c≠i/\c≠j:=fun c hc=>⟨fun t=>hc (by simp[t]),fun t=>hc (by simp[t]),fun t=>hc (by simp[t]),fun t=>hc (by simp[t])⟩
 unfold pyNext;refine wpAny_bind (wpAny_attempt (wpAny_callSpecial?_slot (name:=Str.ofString "__next__") hT F.slot_zip_next (wpAny_call_entry F.slot_zip_next hT F.entry_zip_next ?body (F.args_zip_next_1 _))))
 case body =>
  have fin:∀g x,(∀c o,c∉[z,q,i,j]->s.heap.get? c=some o->g.get? c=some o)->(∃o,g.get? x=some o/\o.cls=.type "StopIteration")->wpAny (model prog w) A (isInstance (.ref x) (.type "StopIteration")) (fun r s'=>wpAny (model prog w) A (if r=true then pure none else throw (.ref x)) Q E s') E { s with heap:=g }:=fun g x kp hx=>by
   obtain⟨o,ho,hc⟩:=hx;exact wpAny_isInstance (T := "StopIteration") (b:=true) ⟨o,ho,hc⟩ isSubtype_stop (wpAny_pure (h g kp))
  show wpAny _ _ (field (.ref z) 2 >>= _) _ _ _;refine wpAny_bind (wpAny_field Z.zr rfl (x:=.bool false) rfl ?f2);show wpAny _ _ (field (.ref z) 3 >>= _) _ _ _;refine wpAny_bind (wpAny_field Z.zr rfl (x:=.ref p) rfl (wpAny_bind (wpAny_seqItems Z.ins rfl ?f3)));show wpAny _ _ (Builtin.SmallTypes.ownedTupleIsFree (.ref z) >>= _) _ _ _;refine wpAny_bind ?f4;unfold Builtin.SmallTypes.ownedTupleIsFree;refine wpAny_bind (wpAny_field Z.zr rfl (x:=.none) rfl (wpAny_pure ?f5));simp only[if_true];refine wpAny_bind (wpAny_rule (wpAny_bind (wpAny_field Z.zr rfl (x:=.ref q) rfl (wpAny_bind (wpAny_setField_rec Z.zr (by simp) fun g1 z1 s1 => ?f6)))))
  have z1:IsZip g1 z p q .ellipsis:=z1;refine wpAny_bind ?f7;simp only[List.zipIdx_cons,List.zipIdx_nil,List.forIn_cons,List.forIn_nil];refine wpAny_bind (wpAny_bind (wpAny_onRaise ?f8));show wpAny _ _ (Builtin.SmallTypes.nextOf (.ref i) >>= _) _ _ _;cases hx:xs[k]? with
  | none =>
   refine wpAny_bind (wG hh (Z.one.extBut s1.extBut D.i1z) (ha.extBut s1.extBut D.l1z) hx fun g2 x s2 hx' => ?g1)
   obtain⟨ox,eox,cox⟩:=hx';have z2:IsZip g2 z p q .ellipsis:=s2 _ _ D.i1z.symm z1;have xz:x≠z:=fun t=>by subst t; rw[z2] at eox; cases eox; simp at cox
   refine wpAny_setField_rec z2 (by simp) fun g3 _ s3=>wpAny_bind (fin g3 x (fun c o hc e => ?g2) ⟨ox,s3.extBut _ _ xz eox,cox⟩)
   obtain⟨c1,_,c3,_⟩:=apart c hc;exact s3.extBut _ _ c1 (s2 _ _ c3 (s1.extBut _ _ c1 e))
  | some x0 =>
   have hy:ys[k]? = none:=by
    rcases he with t | t
    ·rw[hx] at t; cases t
    ·exact t
   refine wpAny_bind (oX (Z.one.extBut s1.extBut D.i1z) (ha.extBut s1.extBut D.l1z) hx fun g2 i2 s2=>wpAny_pure ?g3)
   have q2:IsPair g2 q u0 v0:=s2.extBut _ _ D.TOi1 (s1.extBut _ _ D.TOz eq);refine wpAny_bind (wpAny_seqItems q2 rfl (wpAny_bind (wpAny_updateSeq_pair q2 fun g3 q3 s3 => ?g4)))
   refine wpAny_bind (wpAny_letGo (wpAny_pure ?g5));refine wpAny_bind (wpAny_bind (wpAny_onRaise ?g6));show wpAny _ _ (Builtin.SmallTypes.nextOf (.ref j) >>= _) _ _ _;refine wpAny_bind (wG hh (((Z.two.extBut s1.extBut D.i2z).extBut s2.extBut D.i12.symm).extBut s3.extBut D.TOi2.symm) (((hb.extBut s1.extBut D.l2z).extBut s2.extBut D.l2i1).extBut s3.extBut D.l2TO) hy fun g4 x s4 hx' => ?g7)
   obtain⟨ox,eox,cox⟩:=hx';have z4:IsZip g4 z p q .ellipsis:=s4 _ _ D.i2z.symm (s3.extBut _ _ D.TOz.symm (s2.extBut _ _ D.i1z.symm z1));have xz:x≠z:=fun t=>by subst t; rw[z4] at eox; cases eox; simp at cox
   refine wpAny_setField_rec z4 (by simp) fun g5 _ s5=>wpAny_bind (fin g5 x (fun c o hc e => ?g8) ⟨ox,s5.extBut _ _ xz eox,cox⟩)
   obtain⟨c1,c2,c3,c4⟩:=apart c hc;exact s5.extBut _ _ c1 (s4 _ _ c4 (s3.extBut _ _ c2 (s2.extBut _ _ c3 (s1.extBut _ _ c1 e))))
end
section
variable {prog:Program} {w:World} {A:Around} {E:Value->Shared->Prop} {s:Shared}
noncomputable def tE (h:Heap) (a b:Addr):Heap :=
 ((((h.push { cls:=.type "tuple_iterator",data:=.fields #[.ref a,.int 0 0] }).push { cls:=.type "tuple_iterator",data:=.fields #[.ref b,.int 0 0] }).push { cls:=.type "tuple",data:=.seq #[.ref h.objs.size,.ref (h.push { cls:=.type "tuple_iterator",data:=.fields #[.ref a,.int 0 0] }).objs.size] }).push { cls:=.type "tuple",data:=.seq #[.none,.none] }).push
  { cls:=.type "zip",data:=.fields #[.none,.bool false,.bool false,.ref ((h.push { cls:=.type "tuple_iterator",data:=.fields #[.ref a,.int 0 0] }).push { cls:=.type "tuple_iterator",data:=.fields #[.ref b,.int 0 0] }).objs.size,
   .ref (((h.push { cls:=.type "tuple_iterator",data:=.fields #[.ref a,.int 0 0] }).push { cls:=.type "tuple_iterator",data:=.fields #[.ref b,.int 0 0] }).push { cls:=.type "tuple",data:=.seq #[.ref h.objs.size,.ref (h.push { cls:=.type "tuple_iterator",data:=.fields #[.ref a,.int 0 0] }).objs.size] }).objs.size] }
theorem wI (a b:Addr) (xs ys:Array Value) :
  Meets (Builtin.«zip.__new__» ⟨[.type "zip",.ref a,.ref b],[]⟩) (fun _ R s=>s.heap.IsTuple a xs/\s.heap.IsTuple b ys /\
   R (.ok (.ret (.ref (((((s.heap.push { cls:=.type "tuple_iterator",data:=.fields #[.ref a,.int 0 0] }).push { cls:=.type "tuple_iterator",data:=.fields #[.ref b,.int 0 0] }).push { cls:=.type "tuple",data:=.seq #[.ref s.heap.objs.size,.ref (s.heap.push { cls:=.type "tuple_iterator",data:=.fields #[.ref a,.int 0 0] }).objs.size] }).push { cls:=.type "tuple",data:=.seq #[.none,.none] }).objs.size))))
    { s with heap:=tE s.heap a b }) :=
 .of_wp fun prog w A R s h=>by
  obtain⟨hp,g,d,tk,os⟩:=s;obtain⟨h1,h2,h⟩:=h;have hsub:=sub_zip;have k1:Heap.IsTuple (Shared.heap ⟨hp,g,d,tk,os⟩) a xs:=h1;have k2:Heap.IsTuple (Shared.heap ⟨hp.push { cls:=.type "tuple_iterator",data:=.fields #[.ref a,.int 0 0] },g,d,tk,os⟩) b ys:=by
   obtain⟨o,e,r⟩:=h2;exact⟨o,Heap.get?_push_of_some _ e,r⟩
  wp_walk using wpAny_pyIter_tuple k1,wpAny_pyIter_tuple k2
  exact⟨_,rfl,h⟩
theorem uT {a b:Addr} {xs ys:Array Value} {Q:Value->Shared->Prop} (ha:s.heap.IsTuple a xs) (hb:s.heap.IsTuple b ys)
  (h:∀g,ZS g (s.heap.objs.size+4) (s.heap.objs.size+2) (s.heap.objs.size+3) s.heap.objs.size (s.heap.objs.size+1) a b 0->(∀c o,s.heap.get? c=some o->g.get? c=some o)->Q (.ref (s.heap.objs.size+4)) { s with heap:=g }) :
  wpAny (model prog w) A (call (.type "zip") [.ref a,.ref b]) Q E s:=by
 refine callType_new F.called_zip (by decide) (F.typeCall_zip_2 _ _) (F.newCall_zip_2 _ _) (fun obj=>F.args_object_init_3 obj _ _) F.entry_zip_new (wI a b xs ys) ⟨ha,hb,?_⟩
 unfold tE;generalize e1:s.heap.push { cls:=.type "tuple_iterator",data:=.fields #[.ref a,.int 0 0] }=g1;have z1:g1.objs.size=s.heap.objs.size+1:=by rw[<-e1]; exact Heap.size_push ..
 have i1:g1.get? s.heap.objs.size=some { cls:=.type "tuple_iterator",data:=.fields #[.ref a,.int 0 0] }:=by rw[<-e1]; exact Heap.get?_push_size _ rfl
 have k1:∀c o,s.heap.get? c=some o->g1.get? c=some o:=fun c o e=>by rw[<-e1]; exact Heap.get?_push_of_some _ e
 generalize e2:g1.push { cls:=.type "tuple_iterator",data:=.fields #[.ref b,.int 0 0] }=g2;have z2:g2.objs.size=s.heap.objs.size+2:=by rw[<-e2,Heap.size_push,z1]
 have i2:g2.get? (s.heap.objs.size+1)=some { cls:=.type "tuple_iterator",data:=.fields #[.ref b,.int 0 0] }:=by rw[<-e2,<-z1]; exact Heap.get?_push_size _ rfl
 have k2:∀c o,g1.get? c=some o->g2.get? c=some o:=fun c o e=>by rw[<-e2]; exact Heap.get?_push_of_some _ e
 generalize e3:g2.push { cls:=.type "tuple",data:=.seq #[.ref s.heap.objs.size,.ref g1.objs.size] }=g3;have z3:g3.objs.size=s.heap.objs.size+3:=by rw[<-e3,Heap.size_push,z2]
 have i3:g3.get? (s.heap.objs.size+2)=some { cls:=.type "tuple",data:=.seq #[.ref s.heap.objs.size,.ref g1.objs.size] }:=by rw[<-e3,<-z2]; exact Heap.get?_push_size _ rfl
 have k3:∀c o,g2.get? c=some o->g3.get? c=some o:=fun c o e=>by rw[<-e3]; exact Heap.get?_push_of_some _ e
 generalize e4:g3.push { cls:=.type "tuple",data:=.seq #[.none,.none] }=g4;have z4:g4.objs.size=s.heap.objs.size+4:=by rw[<-e4,Heap.size_push,z3]
 have i4:g4.get? (s.heap.objs.size+3)=some { cls:=.type "tuple",data:=.seq #[.none,.none] }:=by rw[<-e4,<-z3]; exact Heap.get?_push_size _ rfl
 have k4:∀c o,g3.get? c=some o->g4.get? c=some o:=fun c o e=>by rw[<-e4]; exact Heap.get?_push_of_some _ e
 generalize e5:g4.push { cls:=.type "zip",data:=.fields #[.none,.bool false,.bool false,.ref g2.objs.size,.ref g3.objs.size] }=g5;have i5:g5.get? (s.heap.objs.size+4)=some { cls:=.type "zip",data:=.fields #[.none,.bool false,.bool false,.ref g2.objs.size,.ref g3.objs.size] }:=by rw[<-e5,<-z4]; exact Heap.get?_push_size _ rfl
 have k5:∀c o,g4.get? c=some o->g5.get? c=some o:=fun c o e=>by rw[<-e5]; exact Heap.get?_push_of_some _ e
 rw[z4];rw[z2,z3] at i5;rw[z1] at i3;exact⟨⟨_,i5,rfl⟩,h _ ⟨i5,k5 _ _ (k4 _ _ i3),⟨_,_,k5 _ _ i4⟩,⟨_,k5 _ _ (k4 _ _ (k3 _ _ (k2 _ _ i1))),rfl,rfl⟩,⟨_,k5 _ _ (k4 _ _ (k3 _ _ i2)),rfl,rfl⟩⟩ fun c o e=>k5 _ _ (k4 _ _ (k3 _ _ (k2 _ _ (k1 _ _ e))))⟩
end
noncomputable def DB (K:PySem.W.Frag) (a b:Addr):It :=
  ⟨fun i H=>∃xs ys x y,cK K H a xs/\cK K H b ys/\xs[i]? = some x/\ys[i]? = some y,
   fun i H v H'=>∃p x y,H p=none/\v=.ref p/\H'=upd H p (.tup [x,y])/\(∀xs,cK K H a xs->xs[i]? = some x)/\∀ys,cK K H b ys->ys[i]? = some y,
   fun i H=>∃xs ys,cK K H a xs/\cK K H b ys/\(xs.length<=i\/ys.length<=i)⟩
theorem wJ {P:Program} {w:World} {K:PySem.W.Frag} {es:List Expr} {k:Nat} {pos:Pos} {z p q i j a b:Addr} (D:ZipApart z p q i j a b):Turn P w K (.Tuple es k pos) (DB K a b) [z,p,q,i,j] z (fun n h=>ZS h z p q i j a b n) where
 mem:=by simp
 obj:=fun n h st c hc=>by
  simp only[List.mem_cons,List.not_mem_nil,or_false] at hc;rcases hc with rfl | rfl | rfl | rfl | rfl
  ·exact⟨_,st.zr,fun v e=>nomatch e⟩
  ·exact⟨_,st.ins,fun v e=>nomatch e⟩
  ·obtain⟨u,v,e⟩:=st.out; exact⟨_,e,fun v e=>nomatch e⟩
  ·obtain⟨o,e,_,d⟩:=st.one; exact⟨o,e,fun v t=>by rw[d] at t; cases t⟩
  ·obtain⟨o,e,_,d⟩:=st.two; exact⟨o,e,fun v t=>by rw[d] at t; cases t⟩
 keep:=fun n h h' st kp=>st.keep kp
 item:=by
  intro X hP hw hK hc n pins s σ H E I hf st hg;subst hP hw hK;obtain⟨xs,ys,x,y,qa,qb,hx,hy⟩:=hg;obtain⟨ia,ra,ta,_⟩:=I.tuple qa;obtain⟨ib,rb,tb,_⟩:=I.tuple qb;obtain⟨u,hu,ru⟩:=ra.get hx;obtain⟨v,hv,rv⟩:=rb.get hy;refine Bp D st ta tb (x:=u) (y:=v) (by simpa using hu) (by simpa using hv) fun g gz gp gq gi gj gt kp => ?_
  refine⟨_,rfl,wpAny_letOwnedTupleGo_zip (s:={ s with heap:=g }) gz fun g' gz' sb => ?_⟩
  have ne:∀c o,s.heap.get? c=some o->c≠s.heap.objs.size:=fun c o e=>Nat.ne_of_lt (Heap.lt_size e)
  have zne:s.heap.objs.size≠z:=(ne z _ st.zr).symm;have t':IsPair g' s.heap.objs.size u v:=(sb.2 _ zne).trans gt;have f:=I.hok.fresh (Nat.le_refl s.heap.objs.size);have free:∀c∈[z,p,q,i,j],H c=none:=fun c hc=>(hf c hc).1
  have kp':∀c o,c∉[z,q,i,j]->s.heap.get? c=some o->g'.get? c=some o:=fun c o hc e=>(sb.2 c (fun t=>hc (by simp[t]))).trans (kp c o hc e)
  have sub:∀c,c∈[z,q,i,j]->c∈[z,p,q,i,j]:=fun c hc=>by
   simp only[List.mem_cons,List.not_mem_nil,or_false] at hc ⊢;rcases hc with h | h | h | h <;> simp[h]
  have tracked:∀c o,H c=some o->c∉[z,q,i,j]:=fun c o e hc=>by rw[free c (sub c hc)] at e; cases e
  have hok:iA X.prog X.w (upd H s.heap.objs.size (.tup [x,y])) g':=fun c o e=>by
   by_cases hc:c=s.heap.objs.size
   ·subst hc
    rw[aK] at e;cases e;exact⟨by rw[sizeLine_eq]; show 2<=_; lia,[u,v],.cons ru (.cons rv .nil),_,t',rfl,0,rfl⟩
   ·rw[aB hc] at e
    refine (I.hok c o e).stay (fun d o' hd e'=>kp' d o' ?_ e') (fun d e'=>by rw[aB (bf e' f)]; exact e') fun d xs e'=>by rw[aB (bf e' f)]; exact e'
    rcases hd with rfl | hd
    ·exact tracked _ _ e
    ·exact tracked _ _ hd
  have I':Inv X pins σ (upd H s.heap.objs.size (.tup [x,y])) { s with heap:=g' }:=by
   refine I.step (g':=s.gens) (t':=s.toks) (d':=s.drawn) (ch:=[z,q,i,j]) (fun c hc => ?_) (fun c o _ _ hc e _=>kp' c o hc e) (fun c o _ _ hc e _=>⟨o.slots,kp' c o hc e⟩) (fun c o hc e n=>by rw[aB (ne c o e)]; exact n)
    (fun c o hc e=>⟨o,kp' c o hc e⟩) (fun c xs e=>by rw[aB (bf e f)]; exact e) (fun c o u e=>by rw[aB (bf e f)]; exact e) (fun c ps e=>⟨#[],by rw[aB (bf e f),e]; simp⟩) (fun m hm => ?_) hok I.bare
   ·obtain⟨_,f1,_,f3,f4,f5⟩:=hf c (sub c hc)
    exact⟨f3,f1,f4,f5⟩
   ·obtain⟨o,es',ep,ho,r⟩:=hm
    exact⟨o,es',ep,kp' _ o (fun hc=>(hf _ (sub _ hc)).2.1 rfl) ho,r⟩
  refine⟨.ref s.heap.objs.size,_,I',rfl,⟨_,x,y,f,rfl,rfl,fun zs hz=>by rw[I.jz hz qa]; exact hx,fun zs hz=>by rw[I.jz hz qb]; exact hy⟩,?_,fun c hc => ?_⟩
  ·exact⟨gz',(sb.2 _ D.TIz).trans gp,⟨_,_,(sb.2 _ D.TOz).trans gq⟩,gi.at fun o e=>(sb.2 _ D.i1z).trans e,gj.at fun o e=>(sb.2 _ D.i2z).trans e⟩
  ·rw[aB]
   ·exact free c hc
   ·simp only[List.mem_cons,List.not_mem_nil,or_false] at hc
    rcases hc with rfl | rfl | rfl | rfl | rfl
    ·exact ne _ _ st.zr
    ·exact ne _ _ st.ins
    ·obtain⟨_,_,e⟩:=st.out; exact ne _ _ e
    ·obtain⟨_,e,_⟩:=st.one; exact ne _ _ e
    ·obtain⟨_,e,_⟩:=st.two; exact ne _ _ e
 done:=by
  intro X hP hw hK hc n pins s σ H E I hf st hg;subst hP hw hK;obtain⟨xs,ys,qa,qb,hl⟩:=hg;obtain⟨ia,ra,ta,_⟩:=I.tuple qa;obtain⟨ib,rb,tb,_⟩:=I.tuple qb;have la:=ra.length;have lb:=rb.length;have sub:∀c,c∈[z,q,i,j]->c∈[z,p,q,i,j]:=fun c hc=>by
   simp only[List.mem_cons,List.not_mem_nil,or_false] at hc ⊢;rcases hc with h | h | h | h <;> simp[h]
  refine wH (I.ok.hd hc) D st ta tb ?_ fun g kp=>⟨rfl,?_⟩
  ·rcases hl with h | h
   ·exact .inl (by simp; lia)
   ·exact .inr (by simp; lia)
  ·have tracked:∀c o,H c=some o->c∉[z,q,i,j]:=fun c o e hc=>by rw[(hf c (sub c hc)).1] at e; cases e
   refine I.step (g':=s.gens) (t':=s.toks) (d':=s.drawn) (ch:=[z,q,i,j]) (fun c hc => ?_) (fun c o _ _ hc e _=>kp c o hc e) (fun c o _ _ hc e _=>⟨o.slots,kp c o hc e⟩) (fun c o hc e n=>n)
    (fun c o hc e=>⟨o,kp c o hc e⟩) (fun c xs e=>e) (fun c o u e=>e) (fun c ps e=>⟨#[],by rw[e]; simp⟩) (fun m hm => ?_) (fun c o e => ?_) I.bare
   ·obtain⟨_,f1,_,f3,f4,f5⟩:=hf c (sub c hc)
    exact⟨f3,f1,f4,f5⟩
   ·obtain⟨o,es',ep,ho,r⟩:=hm
    exact⟨o,es',ep,kp _ o (fun hc=>(hf _ (sub _ hc)).2.1 rfl) ho,r⟩
   ·refine (I.hok c o e).stay (fun d o' hd e'=>kp d o' ?_ e') (fun d e'=>e') fun d xs e'=>e'
    rcases hd with rfl | hd
    ·exact tracked _ _ e
    ·exact tracked _ _ hd
 self:=fun _ _ _ _ _ st h=>wpAny_pyIter_zip st.zr h
section
variable {X:Cx}
noncomputable def iZip (K:PySem.W.Frag) (ta:TA):TI:=fun σ H R=>ta σ H fun vs H1=>∃a b,vs=[.ref a,.ref b]/\(∃xs,cK K H1 a xs)/\(∃ys,cK K H1 b ys)/\R (DB K a b) H1
theorem Bq {a b:Expr} {ta:TA} {p pos tp:Pos} {es:List Expr} {k:Nat} (hg:Gl X "zip") (hm:X.mg "zip" = none) (ha:PA X [a,b] ta) (hs:starEach [a,b] X.env=[(false,eval a X.env),(false,eval b X.env)]:=by rfl) (hs2:starEach [b] X.env=[(false,eval b X.env)]:=by rfl) :
  PI X (.Tuple es k tp) (.Call (.Name "zip" p) [a,b] [] pos) (iZip X.K ta):=by
 intro pins s σ H R I h;refine wpAny_Call_Name_kw (fW I hg hm PyProof.Rows.boot_zip ?_);refine PyProof.Rows.callWith_type1 (bA (ha pos pins s σ H _ I h) fun us s1 ⟨vs,H1,I1,r1,q1⟩ => ?_) (by rw[hs,hs2]) (by rw[hs2]; rfl)
 obtain⟨a',b',e,⟨xs,qa⟩,⟨ys,qb⟩,q⟩:=q1;subst e;obtain⟨u,v,rfl,ru,rv⟩:=vals2 r1;cases ru;cases rv;obtain⟨ia,ra,ta',_⟩:=I1.tuple qa;obtain⟨ib,rb,tb,_⟩:=I1.tuple qb;refine uT ta' tb fun g Z kp => ?_
 refine wpAny_pyIter_zip (s:={ s1 with heap:=g }) Z.zr ?_
 have la:a'<s1.heap.objs.size:=by obtain⟨_,e,_⟩:=ta'; exact Heap.lt_size e
 have lb:b'<s1.heap.objs.size:=by obtain⟨_,e,_⟩:=tb; exact Heap.lt_size e
 have fr:∀c,s1.heap.objs.size<=c->iS X pins H1 c:=fun c hc=>I1.fpOk hc (I1.hok.fresh hc)
 refine⟨_,_,_,_,H1,rfl,I1.kept (t':=s1.toks) kp,wJ (PyProof.Rows.zipApart_new la lb),Z,fun c hc => ?_,q⟩
 simp only[List.mem_cons,List.not_mem_nil,or_false] at hc;rcases hc with h | h | h | h | h
 ·exact h▸fr _ (Nat.le_add_right _ _)
 ·exact h▸fr _ (Nat.le_add_right _ _)
 ·exact h▸fr _ (Nat.le_add_right _ _)
 ·exact h▸fr _ (Nat.le_refl _)
 ·exact h▸fr _ (Nat.le_add_right _ _)
end
mutual
inductive Rp (K:PySem.W.Frag) (H:Hp):V->PyData->Prop
 | non:Rp K H .non .none
 | bl (b:Bool):Rp K H (.bl b) (.bool b)
 | int (i:Int):Rp K H (.int i) (.int i)
 | str (x:Str):Rp K H (.str x) (.str x)
 | tup {a:Addr} {xs:List V} {ds:List PyData}:cK K H a xs->Br K H xs ds->Rp K H (.ref a) (.tuple ds)
inductive Br (K:PySem.W.Frag) (H:Hp):List V->List PyData->Prop
 | nil:Br K H [] []
 | cons {v:V} {vs:List V} {d:PyData} {ds:List PyData}:Rp K H v d->Br K H vs ds->Br K H (v::vs) (d::ds)
end
def dI (H H':Hp):Prop:=∀a u,Rd H a (.tup u)->Rd H' a (.tup u)
theorem dI.refl {H:Hp}:dI H H:=fun _ _ h=>h
theorem dI.trans {H H1 H2:Hp} (a:dI H H1) (b:dI H1 H2):dI H H2:=fun c u h=>b c u (a c u h)
theorem dI.sq {K:PySem.W.Frag} {H H':Hp} (t:dI H H') {a:Addr} {xs:List V} (h:cK K H a xs):cK K H' a xs:=by
 rcases h with h | h
 ·exact .inl (t a xs h)
 ·exact .inr h
theorem dI.put {H:Hp} {a:Addr} {o o':HO} (h:H a=some o) (hn:∀u,o≠.tup u) (hf:∀x u,o≠.frz x u):dI H (upd H a o'):=fun c u r=>by
 rcases r with e | ⟨x,e⟩
 ·exact .inl (by rw[aB (nh e h fun z=>hn u z.symm)]; exact e)
 ·exact .inr ⟨x,by rw[aB (nh e h fun z=>hf x _ z.symm)]; exact e⟩
theorem dI.lst {H:Hp} {a:Addr} {xs:List V} {o':HO} (h:H a=some (.lst xs)):dI H (upd H a o'):=.put h (fun _ z=>nomatch z) fun _ _ z=>nomatch z
theorem dI.dk {H:Hp} {a:Addr} {xs:List (Key×V)} {o':HO} (h:H a=some (.dK xs)):dI H (upd H a o'):=.put h (fun _ z=>nomatch z) fun _ _ z=>nomatch z
theorem bz.tups {H H':Hp} (s:bz H H'):dI H H':=fun a u r=>by
 rcases r with e | ⟨o,e⟩
 ·exact .inl (s _ _ e)
 ·exact .inr ⟨o,s _ _ e⟩
section
variable {X:Cx}
theorem nK {h:Heap}:∀ {vs:List Value} {ds:List PyData} {as:List Addr},ReadsAll h vs ds as->∀v∈vs,∃d bs,d∈ds/\Reads h v d bs
 | _,_,_,.nil,v,hv=>nomatch hv
 | _,_,_,.cons r q,v,hv=>by
  rcases lK hv with e | hv
  ·subst e; exact⟨_,_,lS,r⟩
  ·obtain⟨d,bs,h1,h2⟩:=nK q v hv
   exact⟨d,bs,lO _ h1,h2⟩
theorem wK {ds:List PyData} (h:PyData.canLayAll0 ds=true):∀d∈ds,d.canLay0=true:=by
 induction ds with
 | nil=>intro d hd; exact nomatch hd
 | cons x xs ih =>
  unfold PyData.canLayAll0 at h;rw[Bool.and_eq_true] at h;intro d hd;rcases lK hd with e | hd
  ·subst e; exact h.1
  ·exact ih h.2 d hd
noncomputable def yr (h:Heap) (e:PyData) (u:Value):Bool:=@decide (∃d as,Reads h u d as/\PyData.eqv d e=true) (Classical.propDecidable _)
theorem wL {h:Heap} {e d:PyData} {u:Value} {as:List Addr} (r:Reads h u d as) (c:d.canLay0=true):yr h e u=PyData.eqv d e:=by
 unfold yr;cases q:PyData.eqv d e with
 | true=>exact @decide_eq_true _ (Classical.propDecidable _) ⟨d,as,r,q⟩
 | false =>
  refine @decide_eq_false _ (Classical.propDecidable _) ?_;rintro⟨d',as',r',q'⟩;rw[<-SeqAt.Reads.unique d d' u as as' c r r'] at q';rw[q] at q';cases q'
theorem oY {h:Heap} {e:PyData}:∀ {vs:List Value} {ds:List PyData} {as:List Addr},ReadsAll h vs ds as->PyData.canLayAll0 ds=true->vs.any (yr h e)=ds.any fun d=>PyData.eqv d e
 | _,_,_,.nil,_=>rfl
 | _,_,_,.cons r q,c=>by
  unfold PyData.canLayAll0 at c;rw[Bool.and_eq_true] at c;rw[List.any_cons,List.any_cons,wL r c.1,oY q c.2]
theorem wM {pins:List (Addr×Obj)} {σ:St} {H:Hp} {s:Shared} {its:List Value} {ds:List PyData} {as bs:List Addr} {e:PyData} {v:Value} (hu:X.A.units+64<cLine) (r:ReadsAll s.heap its ds as) (re:Reads s.heap v e bs) (c:PyData.canLayAll0 ds=true) (ce:e.canLay0=true) (dp:e.depth<=50) :
  ∀y,y∈its.toArray->SeqAt.EqAt X.A.in1 s y v (yr s.heap e y):=fun y hy=>by
 obtain⟨d,cs,hd,rd⟩:=nK r y (by simpa using hy)
 rw[wL rd (wK c d hd)];refine SeqAt.eqAt_reads d e X.A.in1 s y v cs bs rd re (wK c d hd) ce ?_;show X.A.units+1+_<_;lia
theorem zb:di X (binaryOp .Pow) (rI (fun i j=>0<=j/\(Builtin.Int.intBits i:Int)*j<=2 ^ 27) fun i j=>.int (i ^ j.toNat)):=CQ fun _ _ _ _ _ _ _ hc q=>pow_int hc.1 hc.2 q
inductive gm (K:PySem.W.Frag) (H:Hp):V->String->Prop where
 | non:gm K H .non "NoneType"
 | bl (x:Bool):gm K H (.bl x) "bool"
 | int (i:Int):gm K H (.int i) "int"
 | str (x:Str):gm K H (.str x) "str"
 | lst {a:Addr} {xs:List V} (e:fV K H a xs):gm K H (.ref a) "list"
 | tup {a:Addr} {xs:List V} (e:cK K H a xs):gm K H (.ref a) "tuple"
 | dK {a:Addr} {kvs:List (Key×V)} (e:H a=some (.dK kvs)):gm K H (.ref a) "dict"
noncomputable def subB (t c:String):Bool:=t == c || (t == "bool" && c == "int")
noncomputable def cM:List String:=["NoneType", "bool", "int", "str", "list", "tuple", "dict"]
theorem zc (K:PySem.W.Frag):∀t∈cM,∀c∈cM,c ≠ "NoneType"->PySem.W.kitOne K (.type t) (.type c)=some (subB t c):=by
 intro t ht c hc hn;simp only[cM,List.mem_cons,List.not_mem_nil,or_false] at ht hc;rcases hc with rfl | rfl | rfl | rfl | rfl | rfl | rfl
 ·exact absurd rfl hn
 all_goals (rcases ht with rfl | rfl | rfl | rfl | rfl | rfl | rfl <;> first | rfl | decide +kernel)
theorem gm.mem {K:PySem.W.Frag} {H:Hp} {x:V} {t:String} (h:gm K H x t):t∈cM:=by
 cases h <;> simp[cM]
theorem qo:bI X (.builtin "isinstance") (fun xs H Q=>∃x t c,xs=[x,.ty c]/\gm X.K H x t/\c∈cM/\c ≠ "NoneType"/\Q (.bl (subB t c)) H):=by
 intro pins s σ H xs us Q I r h;obtain⟨x,t,c,rfl,ty,hc,hn,q⟩:=h;obtain⟨u,w',rfl,rx,rw'⟩:=vals2 r;cases rw';have e:=zc X.K t ty.mem c hc hn;have fin:∀tk,EP X pins σ Q (.bool (subB t c)) { s with toks:=tk }:=fun tk=>⟨.bl _,H,I.tok tk,rfl,q⟩
 cases ty with
 | non=>cases rx; exact PySem.W.kia_one PySem.W.kitx_none I.uB True.intro e (fun z=>nomatch z) fin
 | bl y=>cases rx; exact PySem.W.kia_one PySem.W.kitx_bool I.uB True.intro e (fun z=>nomatch z) fin
 | int i=>obtain⟨t,rfl⟩:=rx; exact PySem.W.kia_one PySem.W.kitx_int I.uB True.intro e (fun z=>nomatch z) fin
 | str y=>obtain⟨t,rfl⟩:=rx; exact PySem.W.kia_one PySem.W.kitx_str I.uB True.intro e (fun z=>nomatch z) fin
 | lst hq =>
  cases rx;obtain⟨its,_,⟨o,n,h1,h2,_⟩,_⟩:=I.list hq;exact PySem.W.kia_one PySem.W.kitx_list I.uB ⟨o,h1,h2⟩ e (fun z=>nomatch z) fin
 | tup hq =>
  cases rx;obtain⟨its,_,⟨o,h1,h2,_⟩,_⟩:=I.tuple hq;exact PySem.W.kia_one PySem.W.kitx_tuple I.uB ⟨o,h1,h2⟩ e (fun z=>nomatch z) fin
 | dK ea =>
  cases rx;obtain⟨_,_,vs,_,o,es,ep,h1,h2,_⟩:=I.hok _ _ ea;exact PySem.W.kia_one PySem.W.kitx_dict I.uB ⟨o,h1,h2.1⟩ e (fun z=>nomatch z) fin
noncomputable def Bs (bs:List Bool):List V:=bs.map V.bl
theorem tF {bs:List Bool} {its:List Value} (r:Vals (Bs bs) its) (i:Nat) (u:Value) (e:its[i]? = some u):∃b,bs[i]? = some b/\u=.bool b:=by
 have hl:=r.length;unfold Bs at hl r;rw[List.length_map] at hl;have hi:i<its.length:=(List.getElem?_eq_some_iff.mp e).1;have hb:bs[i]? = some bs[i]:=by simp
 obtain⟨u',e',ru⟩:=r.get (i:=i) (x:=.bl bs[i]) (by rw[List.getElem?_map,hb]; rfl)
 rw[e] at e';cases e';exact⟨bs[i],hb,ru⟩
theorem range_all (bs:List Bool):(List.range bs.length).all (fun i=>(bs[i]?).getD false)=bs.all id:=by
 have e:(List.range bs.length).map (fun i=>(bs[i]?).getD false)=bs:=by
  apply List.ext_getElem?;intro i;rw[List.getElem?_map]
  by_cases hi:i<bs.length
  ·simp[List.getElem?_range hi,hi]
  ·simp[List.getElem?_eq_none,hi,Nat.le_of_not_lt hi]
 conv=>rhs; rw[<-e]
 rw[List.all_map];rfl
theorem range_any (bs:List Bool):(List.range bs.length).any (fun i=>(bs[i]?).getD false)=bs.any id:=by
 have e:(List.range bs.length).map (fun i=>(bs[i]?).getD false)=bs:=by
  apply List.ext_getElem?;intro i;rw[List.getElem?_map]
  by_cases hi:i<bs.length
  ·simp[List.getElem?_range hi,hi]
  ·simp[List.getElem?_eq_none,hi,Nat.le_of_not_lt hi]
 conv=>rhs; rw[<-e]
 rw[List.any_map];rfl
theorem kM (hc:X.calm=true):bI X (.builtin "all") (fun xs H Q=>∃p bs,xs=[.ref p]/\fV X.K H p (Bs bs)/\Q (.bl (bs.all id)) H):=by
 intro pins s σ H xs us Q I r h;obtain⟨p,bs,rfl,hq,q⟩:=h;obtain⟨u,rfl,rx⟩:=vals1 r;cases rx;obtain⟨its,rv,pl,hz⟩:=I.list hq;have hlt:p<s.heap.objs.size:=by obtain⟨o,n,e,_⟩:=pl; exact Heap.lt_size e
 have hl:its.length=bs.length:=by have:=rv.length; unfold Bs at this; rw[List.length_map] at this; lia
 refine call_all_walk (wpAny_pyIter_list pl.isList ?_);refine⟨_,_,_,_,_,_,fun i=>(bs[i]?).getD false,rfl,Walks.list (A:=X.A.in1) (I.ok.hd hc) s.heap.objs.size p (Nat.ne_of_lt hlt) its.toArray,⟨⟨_,Heap.get?_push_size _ rfl,rfl,rfl⟩,pl.isList.push _⟩,fun i v s' Q' E' hv hq' => ?_,fun h' tk kp => ?_⟩
 ·obtain⟨b,hb,rfl⟩:=tF rv i v (by simpa using hv)
  have hq':Q' ((bs[i]?).getD false) s':=hq';rw[hb] at hq';exact wpAny_truthy_bool hq'
 ·refine⟨.bl _,H,I.kept (t':=tk) fun b o e=>kp b o (fun hb => ?_) (Heap.get?_push_of_some _ e),rfl,?_⟩
  ·have:b=s.heap.objs.size:=by simpa using hb
   exact absurd (Heap.lt_size e) (by rw[this]; exact Nat.lt_irrefl _)
  ·rw[List.size_toArray,hl,range_all]
   exact q
theorem kN (hc:X.calm=true):bI X (.builtin "any") (fun xs H Q=>∃p bs,xs=[.ref p]/\fV X.K H p (Bs bs)/\Q (.bl (bs.any id)) H):=by
 intro pins s σ H xs us Q I r h;obtain⟨p,bs,rfl,hq,q⟩:=h;obtain⟨u,rfl,rx⟩:=vals1 r;cases rx;obtain⟨its,rv,pl,hz⟩:=I.list hq;have hlt:p<s.heap.objs.size:=by obtain⟨o,n,e,_⟩:=pl; exact Heap.lt_size e
 have hl:its.length=bs.length:=by have:=rv.length; unfold Bs at this; rw[List.length_map] at this; lia
 refine call_any_walk (wpAny_pyIter_list pl.isList ?_);refine⟨_,_,_,_,_,_,fun i=>(bs[i]?).getD false,rfl,Walks.list (A:=X.A.in1) (I.ok.hd hc) s.heap.objs.size p (Nat.ne_of_lt hlt) its.toArray,⟨⟨_,Heap.get?_push_size _ rfl,rfl,rfl⟩,pl.isList.push _⟩,fun i v s' Q' E' hv hq' => ?_,fun h' tk kp => ?_⟩
 ·obtain⟨b,hb,rfl⟩:=tF rv i v (by simpa using hv)
  have hq':Q' ((bs[i]?).getD false) s':=hq';rw[hb] at hq';exact wpAny_truthy_bool hq'
 ·refine⟨.bl _,H,I.kept (t':=tk) fun b o e=>kp b o (fun hb => ?_) (Heap.get?_push_of_some _ e),rfl,?_⟩
  ·have:b=s.heap.objs.size:=by simpa using hb
   exact absurd (Heap.lt_size e) (by rw[this]; exact Nat.lt_irrefl _)
  ·rw[List.size_toArray,hl,range_any]
   exact q
end
section
variable {prog:Program} {w:World} {A:Around} {E:Value->Shared->Prop} {s:Shared}
theorem kO (t b:Addr) (items items2:Array Value) (n n2:Nat) (dd dd2:Option Addr) (sl sl2:Array (Option Value)) (h0:items.isEmpty=true) :
  Meets (Builtin.«tuple.__add__» ⟨[.ref t,.ref b],[]⟩) (fun _ R s=>s.heap.get? t=some ⟨.type "tuple",dd,.seq items n,sl⟩/\s.heap.get? b=some ⟨.type "tuple",dd2,.seq items2 n2,sl2⟩/\R (.ok (.ret (.ref b))) s) :=
 .of_wp fun prog w A R s h=>by
  obtain⟨hp,g,d,tk,os⟩:=s;obtain⟨h1,h2,h⟩:=h;have hsub:=sub_tuple_self
  wp_walk using wpAny_loadPart' h1,wpAny_loadPart' h2
  exact⟨_,rfl,h⟩
end
section
variable {X:Cx}
theorem dc {H:Hp} {p:Addr} (h:H p=none) (o:HO):bz H (upd H p o):=fun b u q=>by rw[aB (bf q h)]; exact q
noncomputable def rCatA (K:PySem.W.Frag):R2:=fun x y H Q=>∃a b xs ys,x=.ref a/\y=.ref b/\cK K H a xs/\cK K H b ys/\xs.length+ys.length<=sizeLine/\∀r H',bz H H'->cK K H' r (xs++ys)->Q (.ref r) H'
theorem zd:di X (binaryOp .Add) (rCatA X.K):=by
 intro pins s σ H x y v u Q I rx ry h;obtain⟨a,b,xs,ys,rfl,rfl,ha,hb,hz,q⟩:=h
 by_cases hx:xs=[]
 ·subst hx
  cases rx;cases ry;obtain⟨its,r1,⟨⟨cls,dd,data,sl⟩,ho,hc,n,hd⟩,_⟩:=I.tuple ha;obtain⟨its2,r2,⟨⟨cls2,dd2,data2,sl2⟩,ho2,hc2,n2,hd2⟩,_⟩:=I.tuple hb;simp only at hc hd hc2 hd2;subst hc hd hc2 hd2;cases r1;exact PySem.concat_meets ⟨_,ho,rfl⟩ ⟨_,ho2,rfl⟩ PySem.noFill_tuple_add PySem.seq_tuple_add PySem.F.slot_tuple_add PySem.F.entry_tuple_add (PySem.F.args_tuple_add_2 _ _)
   (kO a b _ _ n n2 dd dd2 sl sl2 (by simp)) ⟨ho,ho2,⟨.ref b,H,I,rfl,q b H (bz.refl H) (by simpa using hb)⟩⟩
 ·refine yM pins s σ H _ _ v u Q I rx ry ⟨a,b,xs,ys,rfl,rfl,ha,hb,hx,hz,fun e=>q a H (bz.refl H) (by rw[e,List.append_nil]; exact ha),fun _ p hp=>q p _ (dc hp _) (cK.of aK)⟩
noncomputable def wN (sc0:Scope) (N0:List Str) (scope:Scope) (N:List Str) (fr:List (Option Nat)):Bool :=
 (scope.kind == .function) && scope.names.all (fun y=>y.2 != .cell) && scope.names.all (fun y=>y.2 != .local || scope.names.lookup y.1 == some .local) &&
 scope.names.all (fun y=>y.2 != .free || (sc0.names.lookup y.1 == some .cell || sc0.names.lookup y.1 == some .free)) && (fr.length == N.length) &&
 (N.zip fr).all (fun p=>match p.2 with | none=>true | some j=>N0[j]? == some p.1 && scope.names.lookup p.1 == some .free) && decide N.Nodup
theorem aR.of {sc0:Scope} {N0:List Str} {scope:Scope} {N:List Str} {fr:List (Option Nat)} (h1:X.env.scope=sc0) (h2:X.N=N0) (h:wN sc0 N0 scope N fr=true):aR X scope N fr:=by
 unfold wN at h;simp only[Bool.and_eq_true] at h;obtain⟨⟨⟨⟨⟨⟨k1,k2⟩,k3⟩,k4⟩,k5⟩,k6⟩,k7⟩:=h;rw[List.all_eq_true] at k2 k3 k4 k6;refine⟨by simpa using k1,fun y hy=>by simpa using k2 y hy,fun y hy e => ?_,fun y hy e => ?_,by simpa using k5,fun i j x hi hj => ?_,of_decide_eq_true k7⟩
 ·have:=k3 y hy
  rw[e] at this;simpa using this
 ·have:=k4 y hy
  rw[e] at this;have t:sc0.names.lookup y.1=some .cell\/sc0.names.lookup y.1=some .free:=by simpa using this
  show X.env.scope.names.lookup y.1=_\/X.env.scope.names.lookup y.1=_;rw[h1];exact t
 ·have hm:(x,some j)∈N.zip fr:=by
   have hz:(N.zip fr)[i]? = some (x,some j):=by rw[List.getElem?_zip_eq_some]; exact⟨hi,hj⟩
   exact List.mem_of_getElem? hz
  have:=k6 _ hm;simp only[Bool.and_eq_true] at this;rw[h2];exact⟨by simpa using this.1,by simpa using this.2⟩
structure aS (P:Program) (w:World) (K:PySem.W.Frag) (mg:Str->Option Value) (base:Heap) (x:Str) (ps:List Str) (k:Nat) (sp:Sp):Prop where
 ex:∃f fd,cu P w K mg base jx k f fd ps sp/\Binds K fd ps []/\PySem.W.keepIn K (.ref f)=true/\mg x=some (.ref f)
theorem pe_fn {x:Str} {ps:List Str} {k k':Nat} {sp:Sp} {e:Expr} {es:List Expr} {t:TA} {p pos:Pos} (C:aS X.prog X.w X.K X.mg X.base x ps k sp) (hr:eN k' X.A) (hg:Gl X x) (ha:PA X (e::es) t) (hk:k<=k':=by first | decide | exact Nat.le_refl _ | lia) (hdb:(x == ("__debug__" : Str))=false:=by decide)
  (he:starEach (e::es) X.env=(false,eval e X.env)::starEach es X.env:=by rfl) (hpl:(backTo pos (starEach es X.env)).any (·.1)=false:=by rfl):PE X (.Call (.Name x p) (e::es) [] pos) (vZ sp [] E0 t):=by
 obtain⟨f,fd,F,b,kp,m⟩:=C.ex;exact yG F (hr.mono hk) hg m kp b .nil pass0 ha hdb he hpl
end
section
variable {K:PySem.W.Frag} {H:Hp}
theorem Br.ints:∀ (ns:List Int),Br K H (ns.map V.int) (ns.map .int)
 | []=>.nil
 | n::ns=>.cons (.int n) (Br.ints ns)
theorem qp:∀ (ns:List Int),PyData.canLayAll0 (ns.map .int)=true
 | []=>rfl
 | n::ns=>by show (PyData.canLay0 (.int n) && PyData.canLayAll0 (ns.map .int))=true; rw[qp ns]; rfl
end
section
variable {X:Cx}
theorem Inv.Bt {pins:List (Addr×Obj)} {σ:St} {H:Hp} {s:Shared} {C:Addr} {h':Heap} (I:Inv X pins σ H s) (hn:H C=none) (hL:C≠X.env.locals) (h1:X.s₀.heap.objs.size<=C) (h2:∀x c,X.env.cells.lookup x=some c->c≠C) (h3:∀p∈X.pn++pins,p.1≠C)
  (sb:Heap.SameBut C s.heap h'):Inv X pins σ H { s with heap:=h' }:=I.turned (t':=s.toks) (fun b o hb e=>(sb.2 b hb).trans e) hn hL (.inr h1) h2 h3
theorem Bu {i:Nat} {x:Str} {elt target iter:Expr} {ifs:List Expr} {scope:Scope} {pos pos' spos:Pos} {N:List Str} {fr:List (Option Nat)} {wi:TI} {g:Bk->TG} {tt:Bk->TT} {te:Bk->TE} (hN:X.N.Nodup) (hi':X.N[i]? = some x) (hx:X.env.scope.names.lookup x=some .local)
  (hc:X.calm=true) (S:aR X scope N fr) (hi:PI X target iter wi)
  (hin:∀z:Bk,PG (aD X scope z.cl N z.C z.fp z.s z.H) target (g z)/\rH (aD X scope z.cl N z.C z.fp z.s z.H) ifs (tt z)/\PE (aD X scope z.cl N z.C z.fp z.s z.H) elt (te z))
  (hs:∀x,foldedSetIterable iter X.env x=pure x:=by intro _; rfl) (hsw:swapsWith (.ListComp elt [⟨target,iter,ifs,0⟩] scope pos) (some (.Name x pos')) spos.line X.env=pure true:=by rfl) :
  PS X (.Assign [.Name x pos'] (.ListComp elt [⟨target,iter,ifs,0⟩] scope pos) spos) (oi (Dl fr wi g tt te) (vQ i)):=by
 intro pins s σ H Dn I h;rw[exec_Assign_Name_used _ _ _ _ hsw];refine wpAny_bind (wpAny_standAt (wpAny_bind ?_));show wpAny _ X.A (do let _ <-comprehension (.ListComp elt [⟨target,iter,ifs,0⟩] scope pos) scope X.env (firstIterPos [⟨target,iter,ifs,0⟩] pos) (newList []) (firstAsync [⟨target,iter,ifs,0⟩]) (firstIter [⟨target,iter,ifs,0⟩] X.env) (some (assign (.Name x pos') X.env))) _ _ s
 refine wpAny_bind (wpAny_mono (wpAny_comprehension_free (g:=⟨target,iter,ifs,0⟩) (gs:=[]) (use:=some (assign (.Name x pos') X.env)) (Q:=fun _ s'=>SP X pins Dn .next s') (E:=X.xe) rfl hs (cV (S.cells I)) S.kind S.locs ?_) (fun _ s' hq=>wpAny_pure (wpAny_pure hq)) fun _ _ e=>e)
 refine bA (hi pins s σ H _ I h) fun v s1 h1=>bA h1 fun itv s2 h2 => ?_
 obtain⟨it,fp,tn,J,H2,e,I2,T,st2,f2,h2⟩:=h2;subst e;refine wpAny_newObj_type ?_;have hD:H2 s2.heap.objs.size=none:=I2.fresh;have I3:=I2.lnew (t':=s2.toks) (ys:=[]) (its:=[]) .nil (Nat.zero_le _);have lt2:∀b∈fp,b<s2.heap.objs.size:=fun b hb=>by
  obtain⟨o,e,_⟩:=T.obj _ _ st2 b hb;exact Heap.lt_size e
 have f3:∀b∈fp,iS X pins (upd H2 s2.heap.objs.size (.lst [])) b:=fun b hb=>⟨by rw[aB (Nat.ne_of_lt (lt2 b hb))]; exact (f2 b hb).1,(f2 b hb).2⟩
 generalize hs3:({ s2 with heap:=s2.heap.push { cls:=.type "list",data:=.seq ([]:List Value).toArray } }:Shared)=s3
 have I3:Inv X pins σ (upd H2 s2.heap.objs.size (.lst [])) s3:=by rw[<-hs3]; exact I3
 have sz3:s3.heap.objs.size=s2.heap.objs.size+1:=by rw[<-hs3]; exact Heap.size_push ..
 have u23:Un (frs X.stack) [] H2 (upd H2 s2.heap.objs.size (.lst [])) s2.heap s3.heap:=by
  rw[<-hs3];exact Un.laid (fun b o e=>Heap.get?_push_of_some _ e) (Nat.le_refl _) hD
 have ho:s3.os=s2.os:=by rw[<-hs3]
 have st3:tn 0 s3.heap:=T.keep _ _ _ st2 fun b _ o e=>by rw[<-hs3]; exact Heap.get?_push_of_some _ e
 refine wpAny_newFunctionEnv S.nocell (by intro y hy; simp at hy) (fun h4 hns hsb => ?_) S.kind
 have lt3:∀b∈fp,b<s3.heap.objs.size:=fun b hb=>Nat.lt_of_lt_of_le (lt2 b hb) (by rw[sz3]; exact Nat.le_succ _)
 have I4:=kF (tk:=s3.toks+([]:List (Str×Value)).length) I3 S f3 lt3 hns hsb;have old4:∀b o,s3.heap.get? b=some o->h4.get? b=some o:=fun b o e=>(hsb.2 b (Nat.ne_of_lt (Heap.lt_size e))).trans (Heap.get?_push_of_some _ e)
 have st4:tn 0 h4:=T.keep _ _ _ st3 fun b _ o e=>old4 b o e
 have h2:=h2 _ hD ⟨aM X.env.cells scope.names [],s3.heap.objs.size,fp,s3,upd H2 s2.heap.objs.size (.lst [])⟩;obtain⟨hg,hif,hel⟩:=hin ⟨aM X.env.cells scope.names [],s3.heap.objs.size,fp,s3,upd H2 s2.heap.objs.size (.lst [])⟩;have loop:codeAny (model X.prog X.w) X.A (.compLoop (.ListComp elt [⟨target,iter,ifs,0⟩] scope pos) 0 (.ref it) (.ref s2.heap.objs.size) (compEnvC scope (aM X.env.cells scope.names []) s3.heap.objs.size X.env))
   (compPost (model X.prog X.w) X.A X.xe (some (assign (.Name x pos') X.env)) (fun _ s'=>SP X pins Dn .next s') (.ref s2.heap.objs.size) s3.heap.objs.size) { s3 with heap:=h4,toks:=s3.toks+([]:List (Str×Value)).length }:=by
  refine jB (X:=aD X scope (aM X.env.cells scope.names []) N s3.heap.objs.size fp s3 (upd H2 s2.heap.objs.size (.lst []))) (em:=(do let _ <-call (.builtin "list.append") [.ref s2.heap.objs.size,<-eval elt (compEnvC scope (aM X.env.cells scope.names []) s3.heap.objs.size X.env)]))
   (compTurn_list ..) (fun _ _ _ z=>z) rfl hc rfl hg hif (wu hel) T I4 st4 (fun b hb => ?_) h2 (fun τ' H' s' J' q => ?_)
  ·obtain⟨f0,f1,fs,fe,fc,fp'⟩:=f3 b hb
   refine⟨f0,Nat.ne_of_lt (lt3 b hb),fun z => ?_,.inl hb,fun x c e=>fc x c (dR scope.names [] (fun _ _ z=>by simp at z) e),fun p hp=>absurd (show p∈([]:List (Addr×Obj)) from hp) (by simp)⟩
   rcases lK (I3.jy b z) with z | z
   ·exact f1 z
   ·exact fs z
  ·obtain⟨m,hn,_⟩:=J'.loc
   have Io:Inv X pins σ H' s':=kG (h':=s'.heap) I2 f2 u23 ho (by rw[sz3]; exact Nat.le_succ _) J' (Heap.SameBut.refl ..)
   have Lne:X.env.locals≠s3.heap.objs.size:=Nat.ne_of_lt I3.lt;have ym:∀y c,X.env.cells.lookup y=some c->c≠s3.heap.objs.size:=fun y c e=>by
    obtain⟨v,z⟩:=I3.cell y c e;exact Nat.ne_of_lt z.lt
   show wpAny (model X.prog X.w) X.A (assign (.Name x pos') X.env (.ref s2.heap.objs.size)) _ X.xe s';refine wpAny_assign_Name (ni (v:=.ref s2.heap.objs.size) Io hN hi' (.inl hx) rfl (fun s5 I5 sb5 => ?_) (.inr hx))
   obtain⟨b,sb,hb⟩:=sb5;have hbne:s3.heap.objs.size≠b:=by
    rcases hb with e | e
    ·rw[e]; exact Lne.symm
    ·exact (ym _ _ e).symm
   refine⟨m,hn.sameBut sb hbne,fun h' sb'=>⟨_,H',?_,q⟩⟩
   refine I5.Bt (C:=s3.heap.objs.size) J'.free Lne.symm I3.sz ym (fun p hp => ?_) sb'
   exact Nat.ne_of_lt (Heap.lt_size (I3.pin p hp).1)
 exact codeAny_compStart_list loop (T.self X.A 0 _ _ _ st4 loop)
end
section
variable {X:Cx}
theorem jd {prog:Program} {w:World} {A:Around} {E:Value->Shared->Prop} {s:Shared} {t sl:Addr} {its:Array Value} {vl vu:Value} {lo hi:Option Int} {Q:Value->Shared->Prop} (ht:IsTup s.heap t its) (hs:s.heap.IsSliceOf sl vl vu .none) (pl:IsPart vl lo) (pu:IsPart vu hi)
  (h0:HT.cg its.size 0 lo=0) (h1:HT.cg its.size its.size hi=its.size) (h:Q (.ref t) s):wpAny (model prog w) A (getItem (.ref t) (.ref sl)) Q E s:=by
 have T:s.TypeIs (.ref sl) "slice" := by obtain⟨o,a,b,_⟩:=id hs; exact⟨o,a,b⟩
 unfold getItem
 first | with_reducible refine wpAny_holding ?_ | skip
 first | refine wpAny_bind (wpAny_pure ?_) | skip
 refine wpAny_bind (wpAny_sequenceKey ht.typeIs (by decide) ?_)
 refine wpAny_bind (wpAny_callSpecial?_slot (name := "__getitem__") ht.typeIs slot_tuple_getitem (wpAny_call_entry slot_tuple_getitem ht.typeIs entry_tuple_getitem ?_ (args_tuple_getitem _ _)));show wpAny _ _ (Builtin.Tuple.tupleItemsOf (.ref t) >>= _) _ _ s;refine wpAny_bind (tupleItemsOf_ ht (wpAny_bind (wpAny_typeOf T ?_)));rw[if_pos (by decide)]
 refine wpAny_bind (HT.fD hs pl pu ?_);have c:(((HT.cg its.size 0 lo:Nat):Int) == 0 && (1:Int) == 1 && (HT.cg its.size its.size hi-HT.cg its.size 0 lo) == its.size)=true:=by
  rw[h0,h1,Nat.sub_zero,beq_self_eq_true its.size]; rfl
 show wpAny _ _ (if (((HT.cg its.size 0 lo:Nat):Int) == 0 && (1:Int) == 1 && (HT.cg its.size its.size hi-HT.cg its.size 0 lo) == its.size)=true then _ else _) _ _ s
 rw[if_pos c];refine wpAny_bind (wpAny_bind (wpAny_typeOf ht.typeIs (wpAny_pure ?_)));rw[if_pos (by decide)]
 first
  | exact wpAny_bind (wpAny_pure (wpAny_pure ⟨_,rfl,wpAny_pure h⟩))
  | exact wpAny_bind (wpAny_rule (wpAny_pure ⟨_,rfl,wpAny_pure h⟩))
  | exact wpAny_rule (wpAny_pure ⟨_,rfl,wpAny_pure h⟩)
  | trace_state
def rSlA (K:PySem.W.Frag):V->Option Int->Option Int->Hp->VK->Prop:=fun x lo hi H Q=>∃a xs,x=.ref a/\cK K H a xs/\∀r H',bz H H'->cK K H' r (kC xs lo hi)->Q (.ref r) H'
theorem ze:yL X (rSlA X.K):=by
 intro pins s σ H x v vl vu lo hi sl Q I rx hs pl pu h;obtain⟨a,xs,rfl,hx,q⟩:=h
 by_cases hw:HT.cg xs.length 0 lo=0/\HT.cg xs.length xs.length hi=xs.length
 ·cases rx
  obtain⟨its,r,ht,hz⟩:=I.tuple hx;have hlen:its.toArray.size=xs.length:=by rw[List.size_toArray]; exact r.length.symm
  refine⟨"tuple",_,PyProof.Rows.slot_tuple_getitem.lookup,ht.typeIs,?_⟩;refine jd ht hs pl pu (by rw[hlen]; exact hw.1) (by rw[hlen]; exact hw.2) ⟨.ref a,H,I,rfl,q a H (fun _ _ z=>z) ?_⟩
  have e:kC xs lo hi=xs:=by unfold kC; rw[hw.1,hw.2,List.drop_zero,Nat.sub_zero,List.take_length]
  rw[e]; exact hx
 ·exact A6 pins s σ H _ v vl vu lo hi sl Q I rx hs pl pu ⟨a,xs,rfl,hx,hw,fun p hp=>q p _ (dc hp _) (cK.of aK)⟩
end
end L2
end
section
namespace L2
open PySem PySem.Spec PyProof.Rows PySem.W
section
variable {prog:Program} {w:World} {A:Around} {E:Value->Shared->Prop} {s:Shared}
theorem jR {T:String} {r d:Addr} {n:Nat} {P:Nat->Value->Prop} {OK:Heap->Prop} {Q:List Value->Shared->Prop} (K:KdlSrc prog w T r d n P OK) (hh:A.handled=none) (hok:OK s.heap) (hn:n<=sizeLine)
  (hQ:∀h' tk acc,(∀b o,s.heap.get? b=some o->h'.get? b=some o)->s.heap.objs.size<h'.objs.size->ItemsOf P acc n->Q acc.toList { s with heap:=h',toks:=tk }):wpAny (model prog w) A (collect (.ref r)) Q E s:=by
 unfold collect;refine wpAny_bind (wpAny_runValue (codeAny_builtin PySem.F.entry_proto_collect ?_));rw[Around.under_plainId PySem.F.plain_proto_collect _];show wpAny _ A.in1 (newList [] >>= fun l=>again (.builtin "list.__iadd__" ⟨[l,.ref r],[]⟩)) _ _ s
 refine wpAny_bind (wpAny_newObj_type ?_);refine wpAny_pure ⟨plainId_quiet PySem.F.plain_list_iadd _,codeAny_builtin PySem.F.entry_list_iadd ?_⟩;rw[Around.under_plainId PySem.F.plain_list_iadd _];have hlt:=K.there _ hok;have old:∀b o,s.heap.get? b=some o->(s.heap.push { cls:=.type "list",data:=.seq ([]:List Value).toArray }).get? b=some o:=fun b o e=>Heap.get?_push_of_some _ e
 have hok':OK (s.heap.push { cls:=.type "list",data:=.seq ([]:List Value).toArray }):=K.keep _ _ hok fun b _ o e=>old b o e
 show wpAny _ A.in1 (Builtin.List.listExtendWith (.ref s.heap.objs.size) (.ref r) (.ref s.heap.objs.size)) _ _ _;refine kdl_extend (R:=fun res s'=>match res with
  | .ok (.ret v)=>wpAny (model prog w) A (match v with
   | .ref a=>do
    let o <-load a
    match o.data with
     | .seq xs _=>pure xs.toList
     | _=>unsupported "internal:collect"
   | _=>unsupported "internal:collect") Q E s'
  | .ok _=>False
  | .error e=>E e s') (s:={ s with heap:=s.heap.push { cls:=.type "list",data:=.seq ([]:List Value).toArray } }) K hh hok' s.heap.objs.size (Nat.ne_of_gt hlt.1) (Nat.ne_of_gt hlt.2) (.ref s.heap.objs.size) 0 (Heap.get?_push_size _ rfl) (fun h' tk acc c hk hS hacc => ?_) hn
 show wpAny _ A (load s.heap.objs.size >>= _) _ _ _;refine wpAny_bind (wpAny_load hS ?_);exact wpAny_pure (hQ h' tk acc (fun b o e=>hk b o (Nat.ne_of_lt (Heap.lt_size e)) (old b o e)) (Heap.lt_size hS) hacc)
theorem rN {T:String} {r d:Addr} {n:Nat} {P:Nat->Value->Prop} {OK:Heap->Prop} {ns:List Int} {Q:Value->Shared->Prop} (K:KdlSrc prog w T r d n P OK) (hh:A.handled=none) (hok:OK s.heap) (h64:n<64)
  (hP:∀acc,ItemsOf P acc n->IntsAre acc.toList ns)
  (h:∀ (l:Addr) (h':Heap) (tk e:Nat) (out:Array Value) (ns':List Int),s.heap.objs.size<=l->(∀b o,s.heap.get? b=some o->h'.get? b=some o)->h'.get? l=some (seqObj "list" out e)->IntsAre out.toList ns'->ns'.Perm ns->ns'.Pairwise (·<=·)->Q (.ref l) { s with heap:=h',toks:=tk }) :
  wpAny (model prog w) A (call (.builtin "sorted") [.ref r]) Q E s:=by
 refine Calls.call_function_entry kind_sorted plain_sorted entry_sorted (args_sorted1 _) ?_;unfold Builtin.«sorted»;refine wpAny_bind (m:=checkCount "sorted" 1 1 _) (wpAny_pure ?_);refine wpAny_bind (jR K hh hok (by rw[sizeLine_eq]; lia) fun h1 tk acc kp lt1 hacc => ?_)
 have hsz:acc.toList.length=n:=by rw[Array.length_toList]; exact hacc.1
 refine wpAny_bind (wpAny_newList ?_ (by rw[sizeLine_eq]; lia))
 have hoL:(h1.push (seqObj "list" acc.toList.toArray 0)).get? h1.objs.size=some (seqObj "list" acc.toList.toArray 0):=Heap.get?_push_size _ rfl;have le:s.heap.objs.size<=h1.objs.size:=Nat.le_of_lt lt1;show wpAny _ _ _ _ _ { s with heap:=h1.push (seqObj "list" acc.toList.toArray 0),toks:=tk }
 refine wpAny_bind (wpAny_holding (wpAny_call_entry slot_list_sort ⟨_,hoL,rfl⟩ entry_list_sort (list_sort_tree hoL (hP acc hacc) (by lia) fun out ns' a1 a2 a3=>⟨_,rfl,?_⟩) (args_list_sort _)))
 obtain⟨e,he⟩:=sortedHeap_at (out:=out) hoL;refine wpAny_pure ⟨_,rfl,h h1.objs.size _ tk e out ns' le (fun b o q => ?_) he a1 a2 a3⟩
 have q1:=kp b o q;rw[sortedHeap_old (Nat.ne_of_lt (Heap.lt_size q1)) (by rw[Heap.size_push]; exact Nat.lt_succ_of_lt (Heap.lt_size q1)),Heap.get?_push_of_some _ q1]
end
theorem tG:∀ {us:List Value} {ns:List Int},us.length=ns.length->(∀ (j:Nat) (v:Value),us[j]? = some v->∃n t,ns[j]? = some n/\v=.int n t)->IntsAre us ns
 | [],[],_,_=>.nil
 | [],_::_,h,_=>by simp at h
 | _::_,[],h,_=>by simp at h
 | u::us,n::ns,h,q=>by
  obtain⟨m,t,e,rfl⟩:=q 0 u rfl;have e:n=m:=Option.some.inj e;subst e;exact .cons n t (tG (by simpa using h) fun j v hv=>q (j+1) v hv)
theorem KV.at {κ:Type} {kvs:List (κ×V)} {vs:List (κ×Value)} (r:KV kvs vs):∀ {j:Nat} {k:κ} {x:Value},vs[j]? = some (k,x)->∃y,kvs[j]? = some (k,y)/\RelV y x:=by
 induction r with
 | nil=>intro j k x h; simp at h
 | @cons a b as bs r1 t ih =>
  intro j k x h;cases j with
  | zero =>
   have h:b=(k,x):=Option.some.inj h;subst h;obtain⟨k',y⟩:=a;obtain⟨e,r2⟩:=r1;have e:k'=k:=e;subst e;exact⟨y,rfl,r2⟩
  | succ j=>exact ih (by simpa using h)
section
variable {X:Cx}
theorem fJ (hc:X.calm=true):bI X (.builtin "sorted") (fun xs H Q=>∃a kvs ns,xs=[.ref a]/\H a=some (.dK kvs)/\kvs.map (·.1)=ns.map Sum.inl/\ns.length<64/\∀ (ns':List Int) l,ns'.Perm ns->ns'.Pairwise (·<=·)->H l=none->Q (.ref l) (upd H l (.lst (ns'.map V.int)))):=by
 intro pins s σ H xs us Q I r h;obtain⟨a,kvs,ns,rfl,hq,ek,h64,q⟩:=h;obtain⟨u,rfl,rx⟩:=vals1 r;cases rx;obtain⟨hz,hS,vs,rv,m⟩:=v9 I.hok hq;obtain⟨ep,hm⟩:=m.dictAt;have ln:kvs.length=ns.length:=by
  have:=congrArg List.length ek;rw[List.length_map,List.length_map] at this;exact this
 have lv:=rv.length;refine rN (ns:=ns) (kdl_dict (knd:=bK X.prog X.w) (kvs:=vs) (ep:=ep) hS) (I.ok.hd hc) hm (by lia) (fun acc hacc=>tG (by rw[Array.length_toList,hacc.1]; lia) fun j v hv => ?_) fun l h' tk e out ns' hl kp he hI pm srt => ?_
 ·obtain⟨k,x,hkx,hk⟩:=hacc.2 j v (by rw[<-Array.getElem?_toList]; exact hv)
  obtain⟨y,hy,_⟩:=rv.at hkx;have e1:(kvs.map (·.1))[j]? = some k:=by rw[List.getElem?_map,hy]; rfl
  rw[ek,List.getElem?_map] at e1;obtain⟨n,hn,rfl⟩:=Option.map_eq_some_iff.mp e1;have hk:j9 (Sum.inl n) v=true:=hk;rcases aZ hk with⟨i,t,e2,rfl⟩ | ⟨z,t,e2,_⟩
  ·cases e2
   exact⟨n,t,hn,rfl⟩
  ·cases e2
 ·have hv:Vals (ns'.map V.int) out.toList:=by
   clear he pm srt
   generalize out.toList=os at hI
   induction hI with
   | nil=>exact .nil
   | cons n t _ ih=>exact .cons ⟨_,rfl⟩ ih
  have hlen:(ns'.map V.int).length<=sizeLine:=by
   rw[List.length_map,pm.length_eq,sizeLine_eq]; lia
  refine⟨.ref l,_,I.laid (t':=tk) (a:=l) (o:=.lst (ns'.map V.int)) kp hl ?_,rfl,q ns' _ pm srt (I.hok.fresh hl)⟩;refine⟨hlen,out.toList,e,hv,?_⟩;rw[he]
end
end L2
end
section
namespace L2
open PySem PySem.Spec PyProof.Rows
theorem wO {α β:Type} {f:α->Option β} {g:α->β}:∀ {l:List α},(∀m∈l,f m=some (g m))->l.filterMap f=l.map g
 | [],_=>rfl
 | x::l,h=>by
  rw[List.filterMap_cons,h x lS,List.map_cons,wO fun m hm=>h m (lO _ hm)]
theorem wQ (xs:Array Value):((List.range xs.size).filterMap fun (m:Nat)=>xs[(((xs.size:Int)-1)+(m:Int)*(-1)).toNat]?)=xs.toList.reverse:=by
 have h:(List.range xs.size).filterMap (fun (m:Nat)=>xs[(((xs.size:Int)-1)+(m:Int)*(-1)).toNat]?)=(List.range xs.size).map fun m=>xs.toList.getD (xs.size-1-m) .none:=by
  refine wO fun m hm => ?_
  rw[List.mem_range] at hm;have e1:(((xs.size:Int)-1)+(m:Int)*(-1)).toNat=xs.size-1-m:=by lia
  rw[e1,List.getD_eq_getElem?_getD,Array.getElem?_toList,Array.getElem?_eq_getElem (by lia)]
  rfl
 rw[h];refine List.ext_getElem? fun i => ?_
 by_cases hi:i<xs.size
 ·rw[List.getElem?_map,List.getElem?_range hi,List.getElem?_reverse (by rw[Array.length_toList]; exact hi),Array.length_toList]
  show some (xs.toList.getD (xs.size-1-i) .none)=_;rw[List.getD_eq_getElem?_getD,List.getElem?_eq_getElem (by rw[Array.length_toList]; lia)]
  rfl
 ·rw[List.getElem?_eq_none (by rw[List.length_map,List.length_range]; lia),List.getElem?_eq_none (by rw[List.length_reverse,Array.length_toList]; lia)]
section
variable {prog:Program} {w:World} {A:Around} {E:Value->Shared->Prop} {s:Shared}
theorem je {t sl:Addr} {its:Array Value} {tk:Tok} {Q:Value->Shared->Prop} (ht:IsTup s.heap t its) (hs:s.heap.IsSliceOf sl .none .none (.int (-1) tk)) (hz:its.size<=sizeLine)
  (h:Q (.ref s.heap.objs.size) { s with heap:=s.heap.push { cls:=.type "tuple",data:=.seq its.toList.reverse.toArray } }):wpAny (model prog w) A (getItem (.ref t) (.ref sl)) Q E s:=by
 obtain⟨os,hos,hcs,hds⟩:=id hs;have T:s.TypeIs (.ref sl) "slice" := ⟨os,hos,hcs⟩;have htake:sizeOk (.seq its.toList.reverse.toArray):=by
  show its.toList.reverse.toArray.size<=sizeLine;rw[List.size_toArray,List.length_reverse,Array.length_toList]; exact hz
 unfold getItem
 first | with_reducible refine wpAny_holding ?_ | skip
 first | refine wpAny_bind (wpAny_pure ?_) | skip
 refine wpAny_bind (wpAny_sequenceKey ht.typeIs (by decide) ?_)
 refine wpAny_bind (wpAny_callSpecial?_slot (name := "__getitem__") ht.typeIs slot_tuple_getitem (wpAny_call_entry slot_tuple_getitem ht.typeIs entry_tuple_getitem ?_ (args_tuple_getitem _ _)));show wpAny _ _ (Builtin.Tuple.tupleItemsOf (.ref t) >>= _) _ _ s;refine wpAny_bind (tupleItemsOf_ ht (wpAny_bind (wpAny_typeOf T ?_)));rw[if_pos (by decide)]
 have ap:∀ {Q':Int×Int×Nat->Shared->Prop},Q' ((its.size:Int)-1,-1,its.size) s->wpAny (model prog w) A.in1 (Builtin.Slice.sliceApplied (.ref sl) (pure (its.size:Int))) Q' E s:=by
  intro Q' hq;unfold Builtin.Slice.sliceApplied Builtin.Slice.sliceFields;refine wpAny_bind (wpAny_bind (wpAny_field hos hds (x:=.none) rfl (wpAny_bind (wpAny_field hos hds (x:=.none) rfl (wpAny_bind (wpAny_field hos hds (x:=.int (-1) tk) rfl (wpAny_pure ?_)))))));refine wpAny_bind (slicePart_int ?_);show wpAny _ _ (if ((-1:Int) == 0)=true then _ else _) _ _ s
  rw[if_neg (by decide)]
  refine wpAny_bind (slicePart_none (wpAny_bind (slicePart_none (wpAny_bind (wpAny_pure ?_)))));have e:Builtin.Slice.slicePlaces ((its.size:Int)-1) (-1) (-1)=its.size:=by
   unfold Builtin.Slice.slicePlaces;rw[if_neg (by decide),show (-(-1:Int))=1 from rfl,Int.ediv_one]
   split <;> lia
  show wpAny _ _ (pure ((its.size:Int)-1,(-1:Int),Builtin.Slice.slicePlaces ((its.size:Int)-1) (-1) (-1))) _ _ s;rw[e];exact wpAny_pure hq
 refine wpAny_bind (ap ?_);have c:¬ ((((its.size:Int)-1) == 0 && (-1:Int) == 1 && its.size == its.size)=true):=by
  rw[show ((-1:Int) == 1)=false from rfl,Bool.and_false,Bool.false_and]; exact Bool.false_ne_true
 show wpAny _ _ (if (((its.size:Int)-1) == 0 && (-1:Int) == 1 && its.size == its.size)=true then _ else _) _ _ s
 rw[if_neg c,wQ]
 first
  | exact wpAny_bind (m:=Builtin.Tuple.tupleExact _) (wpAny_newObj_type (wpAny_pure ⟨_,rfl,wpAny_pure h⟩) htake)
  | exact wpAny_bind (m:=Builtin.Tuple.tupleExact _) (wpAny_newObj_type (wpAny_bind (wpAny_pure (wpAny_pure ⟨_,rfl,wpAny_pure h⟩))) htake)
  | exact wpAny_bind (wpAny_bind (m:=Builtin.Tuple.tupleExact _) (wpAny_newObj_type (wpAny_pure (wpAny_pure ⟨_,rfl,wpAny_pure h⟩)) htake))
end
section
variable {X:Cx}
noncomputable def tRev (K:PySem.W.Frag) (te ts:TE):TE:=fun σ H Q=>te σ H fun x H1=>ts σ H1 fun y H2=>∃a xs,x=.ref a/\y=.int (-1)/\cK K H2 a xs/\∀p,H2 p=none->Q (.ref p) (upd H2 p (.tup xs.reverse))
theorem oZ {xs:List V} {us:List Value} (r:Vals xs us):Vals xs.reverse us.reverse:=by
 induction r with
 | nil=>exact .nil
 | cons h t ih =>
  rw[List.reverse_cons,List.reverse_cons];exact ih.append (.cons h .nil)
theorem Bv {e st:Expr} {te ts:TE} {pos p2:Pos} (he:PE X e te) (hs:PE X st ts):PE X (.Subscript e (.Slice none none (some st) p2) pos) (tRev X.K te ts):=by
 intro pins s σ H Q I h;refine Subscript_ (bA (he pins s σ H _ I h) fun v s1 ⟨x,H1,I1,r1,q1⟩ => ?_)
 refine wpAny_Slice ?_;rw[evalPart_none];refine wpAny_pure ?_;refine wpAny_pure ?_;rw[evalPart_some];refine bA (hs pins s1 σ H1 _ I1 q1) fun u s2 ⟨y,H2,I2,r2,a,xs,ex,ey,hx,q⟩ => ?_
 subst ex ey;obtain⟨tk,rfl⟩:=r2;cases r1;have I4:Inv X pins σ H2 { s2 with heap:=s2.heap.push { cls:=.type "slice",data:=.fields #[.none,.none,.int (-1) tk] } }:=I2.kept (t':=s2.toks) fun b ob q=>Heap.get?_push_of_some _ q
 obtain⟨its,r,ht,hz⟩:=I4.tuple hx;have hlen:its.toArray.size=xs.length:=by rw[List.size_toArray]; exact r.length.symm
 have hg:wpAny (model X.prog X.w) X.A (getItem (.ref a) (.ref s2.heap.objs.size)) (EP X pins σ Q) X.xe { s2 with heap:=s2.heap.push { cls:=.type "slice",data:=.fields #[.none,.none,.int (-1) tk] } }:=by
  refine je ht (Heap.IsSliceOf.new ..) (by rw[hlen]; exact hz) ?_
  refine⟨.ref _,_,I4.laid (t':=s2.toks) (o:=.tup xs.reverse) (fun b ob q=>Heap.get?_push_of_some _ q) (Nat.le_refl _) ?_,rfl,q _ (I4.hok.fresh (Nat.le_refl _))⟩
  exact⟨by rw[List.length_reverse]; exact hz,_,oZ r,IsTup.new _ _⟩
 show wpAny (model X.prog X.w) X.A (subscriptTail e (.Slice none none (some st) p2) (.ref a) (.ref s2.heap.objs.size)) (EP X pins σ Q) X.xe { s2 with heap:=s2.heap.push { cls:=.type "slice",data:=.fields #[.none,.none,.int (-1) tk] } }
 exact tail_any (ops:=[.ref a,.ref s2.heap.objs.size]) ht.typeIs PyProof.Rows.slot_tuple_getitem.lookup hg (by with_unfolding_all rfl)
end
section
variable {prog:Program} {w:World} {A:Around} {E:Value->Shared->Prop} {s:Shared}
theorem qq {l:Addr} {vs:List Value} {Q:List Value->Shared->Prop} (hl:IsTup s.heap l vs.toArray) (hsz:vs.length<=sizeLine)
  (h:Q vs { s with heap:=(s.heap.push (seqObj "list" #[] 0)).update s.heap.objs.size (Obj.mapSeq (· ++ vs.toArray)) }):wpAny (model prog w) A (collect (.ref l)) Q E s:=by
 obtain⟨o,ho,hc,n,hd⟩:=id hl;unfold collect;refine wpAny_bind (wpAny_runValue (codeAny_builtin entry_proto_collect' ?_));show wpAny _ _ (do again (.builtin "list.__iadd__" ⟨[<-newList [],.ref l],[]⟩)) _ _ s
 refine wpAny_bind (wpAny_newList (wpAny_pure ⟨Code.quiet_builtin _ (by decide +kernel),codeAny_builtin entry_list_iadd' ?_⟩))
 show wpAny _ _ (Builtin.List.listExtendWith (.ref s.heap.objs.size) (.ref l) (.ref s.heap.objs.size)) _ _ { s with heap:=s.heap.push (seqObj "list" #[] 0) }
 unfold Builtin.List.listExtendWith;have ho':(s.heap.push (seqObj "list" #[] 0)).get? l=some o:=Heap.get?_push_of_some _ ho;refine wpAny_bind (wpAny_typeOf (T := "tuple") ⟨o,ho',hc⟩ ?_);rw[if_pos (by rw[show (Value.type "tuple" == Value.type "tuple")=true from rfl]; simp)]
 refine wpAny_bind (listItems_at ho' hd (wpAny_bind (listItems_at (xs:=#[]) (n:=0) (Heap.get?_push_size _ rfl) rfl ?_)));rw[if_neg (by simp)]
 refine wpAny_bind (listUpdate_at (xs:=#[]) (n:=0) (Heap.get?_push_size _ rfl) rfl ?_ (Nat.zero_le _) (by show (#[]++vs.toArray).size<=sizeLine+1; simp only[Array.size_append,List.size_toArray,List.length_nil]; lia))
 refine wpAny_pure ?_;show wpAny (model prog w) A (do
   let o <-load s.heap.objs.size
   match o.data with
   | .seq xs _=>pure xs.toList
   | _=>unsupported "internal:collect") Q E { s with heap:=(s.heap.push (seqObj "list" #[] 0)).update s.heap.objs.size (Obj.mapSeq (· ++ vs.toArray)) }
 refine wpAny_bind (wpAny_load (get?_update_seq (Heap.get?_push_size _ rfl) _) ?_);show wpAny _ _ (pure ((#[]:Array Value)++vs.toArray).toList) Q E _;rw[show ((#[]:Array Value)++vs.toArray).toList=vs by simp]
 exact wpAny_pure h
theorem rO {l:Addr} {vs:List Value} {ns:List Int} {Q:Value->Shared->Prop} (hl:IsTup s.heap l vs.toArray) (hI:IntsAre vs ns) (h64:vs.length<64)
  (h:∀ (out:Array Value) (ns':List Int),IntsAre out.toList ns'->ns'.Perm ns->ns'.Pairwise (·<=·)->Q (.ref (s.heap.objs.size+1)) { s with heap:=sortedAll s.heap vs out }) :
  wpAny (model prog w) A (call (.builtin "sorted") [.ref l]) Q E s:=by
 refine Calls.call_function_entry kind_sorted plain_sorted entry_sorted (args_sorted1 _) ?_;unfold Builtin.«sorted»;refine wpAny_bind (m:=checkCount "sorted" 1 1 _) (wpAny_pure ?_);refine wpAny_bind (qq hl (by rw[sizeLine_eq]; lia) ?_)
 refine wpAny_bind (wpAny_newList ?_ (by rw[sizeLine_eq]; lia))
 have hsz:((s.heap.push (seqObj "list" #[] 0)).update s.heap.objs.size (Obj.mapSeq (· ++ vs.toArray))).objs.size=s.heap.objs.size+1:=by rw[Heap.size_update,size_push']
 have hoL:(((s.heap.push (seqObj "list" #[] 0)).update s.heap.objs.size (Obj.mapSeq (· ++ vs.toArray))).push (seqObj "list" vs.toArray 0)).get? (s.heap.objs.size+1)=some (seqObj "list" vs.toArray 0):=by
  rw[<-hsz]; exact Heap.get?_push_size _ rfl
 show wpAny _ _ _ _ _ { s with heap:=((s.heap.push (seqObj "list" #[] 0)).update s.heap.objs.size (Obj.mapSeq (· ++ vs.toArray))).push (seqObj "list" vs.toArray 0) }
 rw[hsz];refine wpAny_bind (wpAny_holding (wpAny_call_entry slot_list_sort ⟨_,hoL,rfl⟩ entry_list_sort (list_sort_tree hoL hI h64 fun out ns' a1 a2 a3=>⟨_,rfl,?_⟩) (args_list_sort _)))
 exact wpAny_pure ⟨_,rfl,h out ns' a1 a2 a3⟩
end
section
variable {X:Cx}
theorem jF:bI X (.builtin "sorted") (fun xs H Q=>∃p ns,xs=[.ref p]/\cK X.K H p (ns.map V.int)/\ns.length<64/\∀ (ns':List Int) l,ns'.Perm ns->ns'.Pairwise (·<=·)->H l=none->Q (.ref l) (upd H l (.lst (ns'.map V.int)))):=by
 intro pins s σ H xs us Q I r h;obtain⟨p,ns,rfl,hq,h64,q⟩:=h;obtain⟨u,rfl,rx⟩:=vals1 r;cases rx;obtain⟨its,rv,pl,hz⟩:=I.tuple hq;have hI:=intsAre_of rv;have hl:=rv.length;rw[List.length_map] at hl;refine rO pl hI (by lia) fun out ns' ho hp hs => ?_
 obtain⟨e,he⟩:=sortedAll_at s.heap its out;have hv:Vals (ns'.map V.int) out.toList:=by
  clear he hp hs
  generalize out.toList=os at ho
  induction ho with
  | nil=>exact .nil
  | cons n t _ ih=>exact .cons ⟨_,rfl⟩ ih
 have hlen:(ns'.map V.int).length<=sizeLine:=by rw[List.length_map,hp.length_eq,sizeLine_eq]; lia
 refine⟨.ref (s.heap.objs.size+1),_,I.laid (t':=s.toks) (a:=s.heap.objs.size+1) (o:=.lst (ns'.map V.int)) (fun b u e=>sortedAll_old e) (Nat.le_succ _) ?_,rfl,q ns' _ hp hs (I.hok.fresh (Nat.le_succ _))⟩
 refine⟨hlen,out.toList,e,hv,?_⟩;rw[he]
end
end L2
end
section
namespace HT
open PySem PySem.Spec PyProof.Rows
noncomputable def eV:List Int->List Int->Bool
 | [],[]=>true
 | [],_::_=>false
 | _::_,[]=>true
 | x::xs,y::ys=>if x=y then eV xs ys else decide (x>=y)
theorem kP (x y:Int) (xs ys:List Int):eV (x::xs) (y::ys)=if x=y then eV xs ys else decide (x>=y):=rfl
theorem mS:eV [] []=true:=rfl
theorem kQ (y:Int) (ys:List Int):eV [] (y::ys)=false:=rfl
theorem kR (x:Int) (xs:List Int):eV (x::xs) []=true:=rfl
theorem nL:∀ (xs ys:List Int),eV xs ys = !lexLt xs ys
 | [],[]=>rfl
 | [],_::_=>rfl
 | _::_,[]=>rfl
 | x::xs,y::ys=>by
  rw[kP,cE]
  by_cases e:x=y
  ·rw[if_pos e,if_pos e]; exact nL xs ys
  ·rw[if_neg e,if_neg e]
   by_cases h:x<y
   ·rw[decide_eq_true h,decide_eq_false (by lia)]; rfl
   ·rw[decide_eq_false h,decide_eq_true (by lia)]; rfl
theorem wR (A:Around) (s:Shared) (a:Int) (t:Tok) (c:Int) (u:Tok) (prog:Program) (w:World) (E:Value->Shared->Prop) (Q:Value->Shared->Prop) (h:Q (.bool (decide (a>=c))) s) :
  wpAny (model prog w) A (richCompare .GtE (.int a t) (.int c u)) Q E s:=(PyProof.Rows.ge_int h:wpAny (model prog w) A (compareOp .GtE (.int a t) (.int c u)) Q E s)
section
open PySem.SeqAt
open PySem.AutoSeq1 (wpAny_loadPart')
open PySem.MeetsSeq PySem.MeetsSeq2 PySem.MeetsSeq3
theorem mT (l b:Addr) (items items2:Array Value) (n n2:Nat) (dd dd2:Option Addr) (sl sl2:Array (Option Value)) (ns ms:List Int) (hi:IntsAre items.toList ns) (hj:IntsAre items2.toList ms) :
  Meets (Builtin.«tuple.__ge__» ⟨[.ref l,.ref b],[]⟩)
   (fun _ R s=>s.heap.get? l=some { cls:=.type "tuple",dict:=dd,data:=.seq items n,slots:=sl }/\s.heap.get? b=some { cls:=.type "tuple",dict:=dd2,data:=.seq items2 n2,slots:=sl2 } /\
    R (.ok (.ret (.bool (eV ns ms)))) s) :=
 .of_wp fun prog w A R s h=>by
  obtain⟨hp,g,d,tk,os⟩:=s; obtain⟨hl,hb,h⟩:=h;have f2:=AutoSeq1.sub_tuple_tuple;have z1:items.size=ns.length:=by rw[<-hi.length]; simp
  have z2:items2.size=ms.length:=by rw[<-hj.length]; simp
  wp_walk using wpAny_loadPart' hl,wpAny_loadPart' hb,wpAny_forIn_list _ (fun rest b s'=>b.1=none/\s'=⟨hp,g,d,tk,os⟩/\∃ (vs ws:List Value) (ns' ms':List Int),rest=vs.zip ws /\
   IntsAre vs ns'/\IntsAre ws ms'/\ns'.length+items2.size=ms'.length+items.size/\R (.ok (.ret (.bool (eV ns' ms')))) ⟨hp,g,d,tk,os⟩) _
  case turn =>
   rintro⟨y,x⟩ rest b s' ⟨hb',rfl,vs,ws,ns',ms',hz,hvi,hwi,hlen,hR⟩;cases hvi with
   | nil=>rw[List.zip_nil_left] at hz; cases hz
   | cons a t hvi' =>
    cases hwi with
    | nil=>rw[List.zip_nil_right] at hz; cases hz
    | cons c u hwi' =>
     rw[List.zip_cons_cons] at hz
     injection hz with hyx hrest
     injection hyx with hy hx
     subst hy hx;rw[kP] at hR;simp only[List.length_cons] at hlen;obtain⟨e,he,hiff⟩:=qc A.in1 ⟨hp,g,d,tk,os⟩ a t c u;refine wpAny_bind (he prog w _ _ ?_);cases e with
     | true =>
      rw[if_pos (hiff.mp rfl)] at hR
      wp_walk
      exact⟨rfl,rfl,_,_,_,_,hrest,hvi',hwi',by lia,hR⟩
     | false =>
      rw[if_neg (fun q=>absurd (hiff.mpr q) Bool.false_ne_true)] at hR
      have hri:=wR A.in1 ⟨hp,g,d,tk,os⟩ a t c u prog w
      wp_walk using hri
      exact⟨_,rfl,by simpa using hR⟩
  case fin =>
   rintro⟨b1,b2⟩ s' ⟨hb',rfl,vs,ws,ns',ms',hz,hvi,hwi,hlen,hR⟩;simp only at hb';subst hb';have hv:eV ns' ms'=decide (items.size>=items2.size):=by
    cases hvi with
    | nil =>
     cases hwi with
     | nil =>
      simp only[List.length_nil] at hlen;rw[mS];exact (decide_eq_true (by lia)).symm
     | cons c u hw =>
      simp only[List.length_nil,List.length_cons] at hlen;rw[kQ];exact (decide_eq_false (by lia)).symm
    | cons a t hv =>
     cases hwi with
     | nil =>
      simp only[List.length_nil,List.length_cons] at hlen;rw[kR];exact (decide_eq_true (by lia)).symm
     | cons c u hw =>
      rw[List.zip_cons_cons] at hz;cases hz
   rw[hv] at hR
   wp_walk
   exact⟨_,rfl,by simpa[Builtin.Tuple.tupleCompareSizes] using hR⟩
  case h =>
   exact⟨rfl,rfl,items.toList,items2.toList,ns,ms,rfl,hi,hj,by lia,h⟩
end
section
variable {prog:Program} {w:World} {A:Around} {E:Value->Shared->Prop} {s:Shared}
theorem rP {l b:Addr} {items items2:Array Value} {ns ms:List Int} {Q:Value->Shared->Prop} (hl:IsTup s.heap l items) (hb:IsTup s.heap b items2) (hi:IntsAre items.toList ns) (hj:IntsAre items2.toList ms)
  (hu:A.units<cLine) (h:Q (.bool (eV ns ms)) s):wpAny (model prog w) A (compareOp .GtE (.ref l) (.ref b)) Q E s:=by
 obtain⟨⟨cls,dd,data,sl⟩,ho,hc,n,hd⟩:=id hl;obtain⟨⟨cls2,dd2,data2,sl2⟩,ho2,hc2,n2,hd2⟩:=id hb;simp only at hc hd hc2 hd2;subst hc hd hc2 hd2;exact richCompare_meets_room (op:=.GtE) ⟨_,ho,rfl⟩ ⟨_,ho2,rfl⟩ PySem.F.slot_tuple_ge PySem.F.entry_tuple_ge (PySem.F.args_tuple_ge_2 _ _) (mT l b items items2 n n2 dd dd2 sl sl2 ns ms hi hj)
  ⟨ho,ho2,show Value.bool (eV ns ms)≠Value.notImplemented/\Q (.bool (eV ns ms)) s from⟨(fun x=>nomatch x),h⟩⟩ hu
end
end HT
namespace L2
open PySem PySem.Spec PyProof.Rows
section
variable {X:Cx}
noncomputable def rGeT (K:PySem.W.Frag):R2:=fun x y H Q=>∃a b ns ms,x=.ref a/\y=.ref b/\cK K H a (ns.map V.int)/\cK K H b (ms.map V.int)/\Q (.bl (!HT.lexLt ns ms)) H
theorem Bw (hu:X.A.units<cLine):di X (compareOp .GtE) (rGeT X.K):=by
 intro pins s σ H x y v u Q I rx ry h;obtain⟨a,b,ns,ms,rfl,rfl,ha,hb,q⟩:=h;cases rx;cases ry;obtain⟨its,r1,p1,_⟩:=I.tuple ha;obtain⟨its2,r2,p2,_⟩:=I.tuple hb;refine HT.rP p1 p2 (intsAre_of r1) (intsAre_of r2) hu ⟨.bl (HT.eV ns ms),H,I,rfl,?_⟩;rw[HT.nL]; exact q
end
end L2
end
section
namespace VL
open PySem PySem.Spec L2 PyProof.Rows
abbrev Zs:=Addr->Prop
noncomputable def keyP:Key->PyData
 | .inl i=>.int i
 | .inr x=>.str x
def KL (K:PySem.W.Frag) (a:Addr) (xs:List V):Prop:=∃ (o:Obj) (its:Array Value) (n:Nat),K.lookup a=some o/\o.cls=.type "list"/\o.dict=none/\o.data=.seq its n/\its.size<=sizeLine/\Vals xs its.toList
mutual
inductive Fz (K:PySem.W.Frag) (H:Hp) (Z:Zs):V->PyData->Prop
 | non:Fz K H Z .non .none
 | bl (b:Bool):Fz K H Z (.bl b) (.bool b)
 | int (i:Int):Fz K H Z (.int i) (.int i)
 | str (x:Str):Fz K H Z (.str x) (.str x)
 | tup {a:Addr} {xs:List V} {ds:List PyData}:cK K H a xs->br K H Z xs ds->Fz K H Z (.ref a) (.tuple ds)
 | lst {a:Addr} {xs:List V} {ds:List PyData}:Rd H a (.lst xs)->Z a->br K H Z xs ds->Fz K H Z (.ref a) (.list ds)
 | lsK {a:Addr} {xs:List V} {ds:List PyData}:KL K a xs->br K H Z xs ds->Fz K H Z (.ref a) (.list ds)
 | bL {a:Addr} {kxs:List (Key×V)} {ds:List (Key×PyData)}:H a=some (.dK kxs)->Z a->iE K H Z kxs ds->Fz K H Z (.ref a) (.dict (ds.map fun p=>(keyP p.1,p.2)))
inductive br (K:PySem.W.Frag) (H:Hp) (Z:Zs):List V->List PyData->Prop
 | nil:br K H Z [] []
 | cons {x:V} {d:PyData} {xs:List V} {ds:List PyData}:Fz K H Z x d->br K H Z xs ds->br K H Z (x::xs) (d::ds)
inductive iE (K:PySem.W.Frag) (H:Hp) (Z:Zs):List (Key×V)->List (Key×PyData)->Prop
 | nil:iE K H Z [] []
 | cons {k:Key} {x:V} {d:PyData} {xs:List (Key×V)} {ds:List (Key×PyData)}:Fz K H Z x d->iE K H Z xs ds->iE K H Z ((k,x)::xs) ((k,d)::ds)
end
structure aL (H:Hp) (Z:Zs) (H':Hp) (Z':Zs):Prop where
 tups:dI H H'
 keep:∀a o,Z a->H a=some o->H' a=some o
 zs:∀a,Z a->Z' a
theorem aL.refl {H:Hp} {Z:Zs}:aL H Z H Z:=⟨dI.refl,fun _ _ _ h=>h,fun _ h=>h⟩
theorem aL.trans {H H1 H2:Hp} {Z Z1 Z2:Zs} (g:aL H Z H1 Z1) (h:aL H1 Z1 H2 Z2):aL H Z H2 Z2:=⟨g.tups.trans h.tups,fun a o z e=>h.keep a o (g.zs a z) (g.keep a o z e),fun a z=>h.zs a (g.zs a z)⟩
section
variable {K:PySem.W.Frag} {H H':Hp} {Z Z':Zs}
mutual
theorem Fz.mono (g:aL H Z H' Z'):∀ {x:V} {d:PyData},Fz K H Z x d->Fz K H' Z' x d
 | _,_,.non=>.non
 | _,_,.bl b=>.bl b
 | _,_,.int i=>.int i
 | _,_,.str x=>.str x
 | _,_,.tup h r=>.tup (g.tups.sq h) (br.mono g r)
 | _,_,.lst (a:=a) h z r=>.lst (by
   rcases h with e | ⟨o,e⟩
   ·exact .inl (g.keep a _ z e)
   ·exact .inr ⟨o,g.keep a _ z e⟩) (g.zs _ z) (br.mono g r)
 | _,_,.lsK h r=>.lsK h (br.mono g r)
 | _,_,.bL (a:=a) h z r=>.bL (g.keep a _ z h) (g.zs _ z) (iE.mono g r)
theorem br.mono (g:aL H Z H' Z'):∀ {x:List V} {d:List PyData},br K H Z x d->br K H' Z' x d
 | _,_,.nil=>.nil
 | _,_,.cons h r=>.cons (Fz.mono g h) (br.mono g r)
theorem iE.mono (g:aL H Z H' Z'):∀ {x:List (Key×V)} {d:List (Key×PyData)},iE K H Z x d->iE K H' Z' x d
 | _,_,.nil=>.nil
 | _,_,.cons h r=>.cons (Fz.mono g h) (iE.mono g r)
end
theorem br.length:∀ {xs:List V} {ds:List PyData},br K H Z xs ds->xs.length=ds.length
 | _,_,.nil=>rfl
 | _,_,.cons _ r=>by rw[List.length_cons,List.length_cons,br.length r]
theorem br.get':∀ {xs:List V} {ds:List PyData} {i:Nat} {d:PyData},br K H Z xs ds->ds[i]? = some d->∃x,xs[i]? = some x/\Fz K H Z x d
 | _,_,_,_,.nil,e=>by simp at e
 | _,_,0,_,.cons r _,e=>by simp at e; subst e; exact⟨_,rfl,r⟩
 | _,_,i+1,_,.cons _ t,e=>by
  obtain⟨d,h1,h2⟩:=br.get' (i:=i) t (by simpa using e)
  exact⟨d,by simpa using h1,h2⟩
theorem br.append:∀ {xs ys:List V} {ds es:List PyData},br K H Z xs ds->br K H Z ys es->br K H Z (xs++ys) (ds++es)
 | _,_,_,_,.nil,s=>s
 | _,_,_,_,.cons h r,s=>.cons h (br.append r s)
theorem br.take:∀ {xs:List V} {ds:List PyData} (n:Nat),br K H Z xs ds->br K H Z (xs.take n) (ds.take n)
 | _,_,0,_=>by rw[List.take_zero,List.take_zero]; exact .nil
 | _,_,n+1,.nil=>by rw[List.take_nil,List.take_nil]; exact .nil
 | _,_,n+1,.cons h r=>.cons h (br.take n r)
theorem br.drop:∀ {xs:List V} {ds:List PyData} (n:Nat),br K H Z xs ds->br K H Z (xs.drop n) (ds.drop n)
 | _,_,0,h=>h
 | _,_,n+1,.nil=>by rw[List.drop_nil,List.drop_nil]; exact .nil
 | _,_,n+1,.cons h r=>br.drop n r
theorem br.reverse:∀ {xs:List V} {ds:List PyData},br K H Z xs ds->br K H Z xs.reverse ds.reverse
 | _,_,.nil=>.nil
 | _,_,.cons h r=>by rw[List.reverse_cons,List.reverse_cons]; exact (br.reverse r).append (.cons h .nil)
theorem br.set:∀ {xs:List V} {ds:List PyData} {x:V} {d:PyData} (i:Nat),br K H Z xs ds->Fz K H Z x d->br K H Z (xs.set i x) (ds.set i d)
 | _,_,_,_,_,.nil,_=>.nil
 | _,_,_,_,0,.cons _ r,h=>.cons h r
 | _,_,_,_,i+1,.cons q r,h=>.cons q (br.set i r h)
theorem iE.length:∀ {xs:List (Key×V)} {ds:List (Key×PyData)},iE K H Z xs ds->xs.length=ds.length
 | _,_,.nil=>rfl
 | _,_,.cons _ r=>by rw[List.length_cons,List.length_cons,iE.length r]
theorem iE.keys:∀ {xs:List (Key×V)} {ds:List (Key×PyData)},iE K H Z xs ds->xs.map (·.1)=ds.map (·.1)
 | _,_,.nil=>rfl
 | _,_,.cons _ r=>by rw[List.map_cons,List.map_cons,iE.keys r]
theorem Fz.int_inv {x:V} {i:Int} (h:Fz K H Z x (.int i)):x=.int i:=by cases h; rfl
theorem Fz.rQ {x:V} {i:Bool} (h:Fz K H Z x (.bool i)):x=.bl i:=by cases h; rfl
theorem Fz.str_inv {x:V} {i:Str} (h:Fz K H Z x (.str i)):x=.str i:=by cases h; rfl
theorem Fz.tH {x:V} (h:Fz K H Z x .none):x=.non:=by cases h; rfl
theorem Fz.gU {x:V} {ds:List PyData} (h:Fz K H Z x (.tuple ds)):∃a xs,x=.ref a/\cK K H a xs/\br K H Z xs ds:=by
 cases h with
 | tup q r=>exact⟨_,_,rfl,q,r⟩
theorem Fz.lst_inv {x:V} {ds:List PyData} (h:Fz K H Z x (.list ds)):∃a xs,x=.ref a/\fV K H a xs/\br K H Z xs ds:=by
 cases h with
 | lst q z r=>exact⟨_,_,rfl,.inl q,r⟩
 | lsK q r=>exact⟨_,_,rfl,.inr q,r⟩
theorem br.ints:∀ (ns:List Int),br K H Z (ns.map V.int) (ns.map .int)
 | []=>.nil
 | n::ns=>.cons (.int n) (br.ints ns)
theorem br.cy:∀ {ns:List Int} {xs:List V},br K H Z xs (ns.map .int)->xs=ns.map V.int:=by
 intro ns
 induction ns with
 | nil=>intro xs h; cases h; rfl
 | cons n ns ih =>
  intro xs h;cases h with | cons q r =>
  cases q;rw[ih r]; rfl
end
section
variable {X:Cx} {pins:List (Addr×Obj)} {σ:L2.St} {H:Hp} {s:Shared} {Z:Zs}
mutual
theorem Fz.reads (I:Inv X pins σ H s):∀ {v:V} {d:PyData} {u:Value},Fz X.K H Z v d->d.canLay0=true->RelV v u->∃as,Reads s.heap u d as
 | _,_,_,.non,_,r=>by cases r; exact⟨_,.none⟩
 | _,_,_,.bl b,_,r=>by cases r; exact⟨_,.bool b⟩
 | _,_,_,.int i,_,r=>by obtain⟨t,rfl⟩:=r; exact⟨_,.int i t⟩
 | _,_,_,.str x,_,r=>by obtain⟨t,rfl⟩:=r; exact⟨_,.str x t⟩
 | _,_,_,.tup q rs,c,r=>by
  cases r;obtain⟨its,rv,⟨o,ho,hc,n,hd⟩,_⟩:=I.tuple q;obtain⟨as,h⟩:=br.reads I rs c rv;exact⟨as,.tuple ho hc hd (by simpa using h)⟩
 | _,_,_,.lst q z rs,c,r=>by
  cases r;obtain⟨its,rv,⟨o,n,ho,hc,hdd,hd⟩,_⟩:=I.list (.inl q);obtain⟨as,h⟩:=br.reads I rs c rv;exact⟨_,.list ho hc hd (by simpa using h)⟩
 | _,_,_,.lsK q rs,c,r=>by
  cases r;obtain⟨its,rv,⟨o,n,ho,hc,hdd,hd⟩,_⟩:=I.list (.inr q);obtain⟨as,h⟩:=br.reads I rs c rv;exact⟨_,.list ho hc hd (by simpa using h)⟩
 | _,_,_,.bL _ _ _,c,_=>nomatch c
theorem br.reads (I:Inv X pins σ H s):∀ {v:List V} {d:List PyData} {u:List Value},br X.K H Z v d->PyData.canLayAll0 d=true->Vals v u->∃as,ReadsAll s.heap u d as
 | _,_,_,.nil,_,.nil=>⟨_,.nil⟩
 | _,_,_,.cons (d:=d) (ds:=ds) r q,c,.cons a b=>by
  have c':d.canLay0=true/\PyData.canLayAll0 ds=true:=by simpa[PyData.canLayAll0] using c
  obtain⟨x,h1⟩:=Fz.reads I r c'.1 a;obtain⟨y,h2⟩:=br.reads I q c'.2 b;exact⟨_,.cons h1 h2⟩
end
end
end VL
end
section
namespace VL
open PySem PySem.Spec L2 PyProof.Rows
inductive M where
 | v (d:PyData)
 | lst (ds:List PyData)
 | bL (kvs:List (Key×PyData))
 | bG (kvs:List (Key×List PyData))
abbrev Ev:=List (Option M)
section
variable (K:PySem.W.Frag) (H:Hp) (Z:Zs)
inductive fK:List (Key×V)->List (Key×List PyData)->List Addr->Prop
 | nil:fK [] [] []
 | cons {k:Key} {b:Addr} {xs:List V} {ds:List PyData} {kxs:List (Key×V)} {kvs:List (Key×List PyData)} {G:List Addr}:H b=some (.lst xs)->br K H Z xs ds->fK kxs kvs G->fK ((k,.ref b)::kxs) ((k,ds)::kvs) (b::G)
inductive Ow:V->M->List Addr->Prop
 | v {x:V} {d:PyData}:Fz K H Z x d->Ow x (.v d) []
 | lst {a:Addr} {xs:List V} {ds:List PyData}:H a=some (.lst xs)->br K H Z xs ds->Ow (.ref a) (.lst ds) [a]
 | bL {a:Addr} {kxs:List (Key×V)} {kvs:List (Key×PyData)}:H a=some (.dK kxs)->iE K H Z kxs kvs->Ow (.ref a) (.bL kvs) [a]
 | bG {a:Addr} {kxs:List (Key×V)} {kvs:List (Key×List PyData)} {G:List Addr}:H a=some (.dK kxs)->fK K H Z kxs kvs G->Ow (.ref a) (.bG kvs) (a::G)
inductive aP:L2.St->Ev->List Addr->Prop
 | nil:aP [] [] []
 | non {x:Option V} {σ:L2.St} {ρ:Ev} {F:List Addr}:aP σ ρ F->aP (x::σ) (none::ρ) F
 | som {x:V} {m:M} {G:List Addr} {σ:L2.St} {ρ:Ev} {F:List Addr}:Ow K H Z x m G->aP σ ρ F->aP (some x::σ) (some m::ρ) (G++F)
end
def Mu (o:HO):Prop:=(∃xs,o=.lst xs)\/∃kvs,o=.dK kvs
structure Wf (H:Hp) (Z:Zs) (F:List Addr):Prop where
 nd:F.Nodup
 dz:∀a∈F,¬Z a
 za:∀a,Z a->H a≠none
structure aI (H:Hp) (Z:Zs) (F:List Addr) (H':Hp) (Z':Zs) (F':List Addr):Prop where
 keep:∀a o,a∉F->H a=some o->H' a=some o
 tups:dI H H'
 zs:∀a,Z a->Z' a
 zn:∀a,Z' a->Z a\/a∈F\/H a=none
 fr:∀a∈F',a∈F\/H a=none
 nd:F'.Nodup
 dz:∀a∈F',¬Z' a
 za:∀a,Z' a->H' a≠none
section
variable {K:PySem.W.Frag} {H H' H1 H2:Hp} {Z Z' Z1 Z2:Zs} {F F' F1 F2 G:List Addr}
theorem aI.refl (w:Wf H Z F):aI H Z F H Z F:=⟨fun _ _ _ h=>h,dI.refl,fun _ h=>h,fun _ h=>.inl h,fun _ h=>.inl h,w.nd,w.dz,w.za⟩
theorem aI.wf (f:aI H Z F H' Z' F'):Wf H' Z' F':=⟨f.nd,f.dz,f.za⟩
theorem aI.grow (f:aI H Z F H' Z' F') (w:Wf H Z F):aL H Z H' Z':=⟨f.tups,fun a o z e=>f.keep a o (fun h=>w.dz a h z) e,f.zs⟩
theorem aI.trans (f:aI H Z F H1 Z1 F1) (g:aI H1 Z1 F1 H2 Z2 F2):aI H Z F H2 Z2 F2:=by
 have old:∀a,H1 a=none->a∈F\/H a=none:=fun a e=>by
  by_cases h:a∈F
  ·exact .inl h
  ·cases q:H a with
   | none=>exact .inr rfl
   | some o=>rw[f.keep a o h q] at e; cases e
 refine⟨fun a o h e=>g.keep a o (fun z => ?_) (f.keep a o h e),f.tups.trans g.tups,fun a z=>g.zs a (f.zs a z),fun a z => ?_,fun a h => ?_,g.nd,g.dz,g.za⟩
 ·rcases f.fr a z with z | z
  ·exact h z
  ·rw[e] at z; cases z
 ·rcases g.zn a z with z | z | z
  ·exact f.zn a z
  ·exact .inr (f.fr a z)
  ·exact .inr (old a z)
 ·rcases g.fr a h with z | z
  ·exact f.fr a z
  ·exact old a z
theorem aI.frame (f:aI H Z F H' Z' F') (w:Wf H Z (F++G)) (al:∀a∈G,H a≠none):aI H Z (F++G) H' Z' (F'++G):=by
 have nd:=List.nodup_append.mp w.nd;have sep:∀a∈G,a∉F:=fun a h z=>nd.2.2 a z a h rfl
 refine⟨fun a o h e=>f.keep a o (fun z=>h (lL _ z)) e,f.tups,f.zs,fun a z => ?_,fun a h => ?_,?_,fun a h z => ?_,f.za⟩
 ·rcases f.zn a z with z | z | z
  ·exact .inl z
  ·exact .inr (.inl (lL _ z))
  ·exact .inr (.inr z)
 ·rcases lM h with h | h
  ·rcases f.fr a h with z | z
   ·exact .inl (lL _ z)
   ·exact .inr z
  ·exact .inl (lR _ h)
 ·refine List.nodup_append.mpr ⟨f.nd,nd.2.1,fun a h b h' e => ?_⟩
  subst e;rcases f.fr a h with z | z
  ·exact sep a h' z
  ·exact al a h' z
 ·rcases lM h with h | h
  ·exact f.dz a h z
  ·rcases f.zn a z with z | z | z
   ·exact w.dz a (lR _ h) z
   ·exact sep a h z
   ·exact al a h z
theorem aI.sub (f:aI H Z F H' Z' F') (hn:F1.Nodup) (hs:∀a∈F1,a∈F'):aI H Z F H' Z' F1:=⟨f.keep,f.tups,f.zs,f.zn,fun a h=>f.fr a (hs a h),hn,fun a h=>f.dz a (hs a h),f.za⟩
theorem aI.left (f:aI H Z F H' Z' (F1++G)):aI H Z F H' Z' F1:=f.sub (List.nodup_append.mp f.nd).1 fun _ h=>lL _ h
theorem aI.nil (f:aI H Z F H' Z' F1):aI H Z F H' Z' (F1++[]):=by rw[List.append_nil]; exact f
theorem aI.swap (f:aI H Z F H' Z' (F1++G)):aI H Z F H' Z' (G++F1):=f.sub (by
  have h:=List.nodup_append.mp f.nd;exact List.nodup_append.mpr ⟨h.2.1,h.1,fun a x b y e=>h.2.2 b y a x e.symm⟩) fun a h=>by
  rcases lM h with h | h
  ·exact lR _ h
  ·exact lL _ h
theorem fK.mem:∀ {kxs:List (Key×V)} {kvs:List (Key×List PyData)} {G:List Addr},fK K H Z kxs kvs G->∀a∈G,∃o,H a=some o/\Mu o
 | _,_,_,.nil,a,h=>by simp at h
 | _,_,_,.cons e _ r,a,h=>by
  rcases lK h with h | h
  ·subst h; exact⟨_,e,.inl ⟨_,rfl⟩⟩
  ·exact fK.mem r a h
theorem Ow.mem {x:V} {m:M} (h:Ow K H Z x m G):∀a∈G,∃o,H a=some o/\Mu o:=fun a ha=>by
 cases h with
 | v _=>simp at ha
 | lst e _=>rw[List.mem_singleton] at ha; subst ha; exact⟨_,e,.inl ⟨_,rfl⟩⟩
 | bL e _=>rw[List.mem_singleton] at ha; subst ha; exact⟨_,e,.inr ⟨_,rfl⟩⟩
 | bG e r =>
  rcases lK ha with ha | ha
  ·subst ha; exact⟨_,e,.inr ⟨_,rfl⟩⟩
  ·exact r.mem a ha
theorem Ow.al {x:V} {m:M} (h:Ow K H Z x m G):∀a∈G,H a≠none:=fun a ha e=>by obtain⟨o,q,_⟩:=h.mem a ha; rw[q] at e; cases e
theorem aP.mem:∀ {σ:L2.St} {ρ:Ev} {F:List Addr},aP K H Z σ ρ F->∀a∈F,∃o,H a=some o/\Mu o
 | _,_,_,.nil,a,h=>by simp at h
 | _,_,_,.non r,a,h=>aP.mem r a h
 | _,_,_,.som q r,a,h=>by
  rcases lM h with h | h
  ·exact q.mem a h
  ·exact aP.mem r a h
theorem aP.al {σ:L2.St} {ρ:Ev} (h:aP K H Z σ ρ F):∀a∈F,H a≠none:=fun a ha e=>by obtain⟨o,q,_⟩:=h.mem a ha; rw[q] at e; cases e
theorem fK.mono (g:aL H Z H' Z'):∀ {kxs:List (Key×V)} {kvs:List (Key×List PyData)} {G:List Addr},fK K H Z kxs kvs G->(∀a∈G,∀o,H a=some o->H' a=some o)->fK K H' Z' kxs kvs G
 | _,_,_,.nil,_=>.nil
 | _,_,_,.cons e f r,k=>.cons (k _ lS _ e) (f.mono g) (fK.mono g r fun a h=>k a (lO _ h))
theorem Ow.mono {x:V} {m:M} (g:aL H Z H' Z') (h:Ow K H Z x m G) (k:∀a∈G,∀o,H a=some o->H' a=some o):Ow K H' Z' x m G:=by
 cases h with
 | v f=>exact .v (f.mono g)
 | lst e f=>exact .lst (k _ lS _ e) (f.mono g)
 | bL e f=>exact .bL (k _ lS _ e) (f.mono g)
 | bG e f=>exact .bG (k _ lS _ e) (f.mono g fun a h=>k a (lO _ h))
theorem aP.mono (g:aL H Z H' Z'):∀ {σ:L2.St} {ρ:Ev} {F:List Addr},aP K H Z σ ρ F->(∀a∈F,∀o,H a=some o->H' a=some o)->aP K H' Z' σ ρ F
 | _,_,_,.nil,_=>.nil
 | _,_,_,.non r,k=>.non (aP.mono g r k)
 | _,_,_,.som q r,k=>.som (q.mono g fun a h=>k a (lL _ h)) (aP.mono g r fun a h=>k a (lR _ h))
theorem aP.get:∀ {σ:L2.St} {ρ:Ev} {F:List Addr} {i:Nat} {m:M},aP K H Z σ ρ F->ρ[i]? = some (some m)->∃x G,σ[i]? = some (some x)/\Ow K H Z x m G/\∀a∈G,a∈F
 | _,_,_,_,_,.nil,e=>by simp at e
 | _,_,_,0,_,.non r,e=>by simp at e
 | _,_,_,i+1,_,.non r,e=>by
  obtain⟨x,G,h1,h2,h3⟩:=aP.get (i:=i) r (by simpa using e)
  exact⟨x,G,by simpa using h1,h2,h3⟩
 | _,_,_,0,_,.som q r,e=>by simp at e; subst e; exact⟨_,_,rfl,q,fun a h=>lL _ h⟩
 | _,_,_,i+1,_,.som q r,e=>by
  obtain⟨x,G,h1,h2,h3⟩:=aP.get (i:=i) r (by simpa using e)
  exact⟨x,G,by simpa using h1,h2,fun a h=>lR _ (h3 a h)⟩
theorem aP.take:∀ {σ:L2.St} {ρ:Ev} {F:List Addr} {i:Nat} {m:M},aP K H Z σ ρ F->F.Nodup->ρ[i]? = some (some m) ->
  ∃x G F1,σ[i]? = some (some x)/\Ow K H Z x m G/\aP K H Z σ (ρ.set i none) F1/\(F1++G).Nodup/\∀a,a∈F1++G->a∈F
 | _,_,_,_,_,.nil,_,e=>by simp at e
 | _,_,_,0,_,.non r,_,e=>by simp at e
 | _,_,_,i+1,_,.non r,nd,e=>by
  obtain⟨x,G,F1,h1,h2,h3,h4,h5⟩:=aP.take (i:=i) r nd (by simpa using e)
  exact⟨x,G,F1,by simpa using h1,h2,.non h3,h4,h5⟩
 | _,_,_,0,_,.som (G:=G) (F:=F) q r,nd,e=>by
  simp at e; subst e;have h:=List.nodup_append.mp nd;exact⟨_,G,F,rfl,q,.non r,List.nodup_append.mpr ⟨h.2.1,h.1,fun a x b y e=>h.2.2 b y a x e.symm⟩,fun a h=>by
   rcases lM h with h | h
   ·exact lR _ h
   ·exact lL _ h⟩
 | _,_,_,i+1,_,.som (G:=G0) (F:=F) q r,nd,e=>by
  have h:=List.nodup_append.mp nd;obtain⟨x,G,F1,h1,h2,h3,h4,h5⟩:=aP.take (i:=i) r h.2.1 (by simpa using e)
  refine⟨x,G,G0++F1,by simpa using h1,h2,.som q h3,?_,fun a z => ?_⟩
  ·rw[List.append_assoc]
   exact List.nodup_append.mpr ⟨h.1,h4,fun a x b y e=>h.2.2 a x b (h5 b y) e⟩
  ·rw[List.append_assoc] at z
   rcases lM z with z | z
   ·exact lL _ z
   ·exact lR _ (h5 a z)
theorem aP.drop:∀ {σ:L2.St} {ρ:Ev} {F:List Addr} (i:Nat),aP K H Z σ ρ F->F.Nodup->∃F1,aP K H Z σ (ρ.set i none) F1/\F1.Nodup/\∀a∈F1,a∈F
 | _,_,_,_,.nil,nd=>⟨_,.nil,nd,fun _ h=>h⟩
 | _,_,_,0,.non r,nd=>⟨_,.non r,nd,fun _ h=>h⟩
 | _,_,_,i+1,.non r,nd=>by
  obtain⟨F1,h1,h2,h3⟩:=aP.drop i r nd;exact⟨F1,.non h1,h2,h3⟩
 | _,_,_,0,.som q r,nd=>⟨_,.non r,(List.nodup_append.mp nd).2.1,fun _ h=>lR _ h⟩
 | _,_,_,i+1,.som (G:=G0) q r,nd=>by
  have h:=List.nodup_append.mp nd;obtain⟨F1,h1,h2,h3⟩:=aP.drop i r h.2.1;refine⟨G0++F1,.som q h1,List.nodup_append.mpr ⟨h.1,h2,fun a x b y e=>h.2.2 a x b (h3 b y) e⟩,fun a z => ?_⟩
  rcases lM z with z | z
  ·exact lL _ z
  ·exact lR _ (h3 a z)
theorem aP.put:∀ {σ:L2.St} {ρ:Ev} {F:List Addr} {i:Nat} {x:V} {m:M} {G:List Addr},aP K H Z σ ρ F->Ow K H Z x m G->(F++G).Nodup->ρ[i]? = some none ->
  ∃F1,aP K H Z (σ.set i (some x)) (ρ.set i (some m)) F1/\F1.Nodup/\∀a∈F1,a∈F++G
 | _,_,_,_,_,_,_,.nil,_,_,e=>by simp at e
 | _,_,_,0,_,_,G,.non (F:=F) r,h,nd,e=>by
  have h':=List.nodup_append.mp nd;exact⟨G++F,.som h r,List.nodup_append.mpr ⟨h'.2.1,h'.1,fun a x b y e=>h'.2.2 b y a x e.symm⟩,fun a h=>by
   rcases lM h with h | h
   ·exact lR _ h
   ·exact lL _ h⟩
 | _,_,_,i+1,_,_,G,.non r,h,nd,e=>by
  obtain⟨F1,h1,h2,h3⟩:=aP.put (i:=i) r h nd (by simpa using e)
  exact⟨F1,.non h1,h2,h3⟩
 | _,_,_,0,_,_,_,.som q r,_,_,e=>by simp at e
 | _,_,_,i+1,_,_,G,.som (G:=G0) (F:=F) q r,h,nd,e=>by
  rw[List.append_assoc] at nd;have h':=List.nodup_append.mp nd;obtain⟨F1,h1,h2,h3⟩:=aP.put (i:=i) r h h'.2.1 (by simpa using e)
  refine⟨G0++F1,.som q h1,List.nodup_append.mpr ⟨h'.1,h2,fun a x b y e=>h'.2.2 a x b (h3 b y) e⟩,fun a z => ?_⟩
  rw[List.append_assoc];rcases lM z with z | z
  ·exact lL _ z
  ·exact lR _ (h3 a z)
end
inductive dJ where
 | t (m:M)
 | p (i:Nat)
 | q (i:Nat) (k:Key)
noncomputable def cN {α:Type} (kvs:List (Key×α)) (k:Key):Option α:=(kvs.find? fun kv=>decide (kv.1=k)).map (·.2)
noncomputable def cS (ρ:Ev) (i:Nat):Option M:=match ρ[i]? with
 | some (some m)=>some m
 | _=>none
theorem aG {ρ:Ev} {i:Nat} {m:M}:cS ρ i=some m↔ρ[i]? = some (some m):=by
 unfold cS
 split
 ·next h=>rw[h]; simp
 ·next h =>
  exact⟨fun e=>(nomatch e),fun e=>(h m e).elim⟩
noncomputable def jf (ρ:Ev):dJ->Option M
 | .t m=>some m
 | .p i=>cS ρ i
 | .q _ _=>none
noncomputable def peek (ρ:Ev):dJ->Option M
 | .t m=>some m
 | .p i=>cS ρ i
 | .q i k=>match cS ρ i with
  | some (.bG kvs)=>(cN kvs k).map .lst
  | _=>none
noncomputable def iu (ρ:Ev):List dJ->Option (List M)
 | []=>some []
 | o::os=>(peek ρ o).bind fun m=>(iu ρ os).bind fun ms=>some (m::ms)
theorem cY {ρ:Ev} {o:dJ} {m:M} (h:jf ρ o=some m):peek ρ o=some m:=by
 cases o with
 | t _=>exact h
 | p _=>exact h
 | q _ _=>cases h
inductive mU (K:PySem.W.Frag) (H:Hp) (Z:Zs) (σ:L2.St):V->dJ->List Addr->Prop
 | t {x:V} {m:M} {G:List Addr}:Ow K H Z x m G->mU K H Z σ x (.t m) G
 | p {x:V} {i:Nat}:σ[i]? = some (some x)->mU K H Z σ x (.p i) []
 | q {x:V} {i:Nat} {k:Key} {a:Addr} {kxs:List (Key×V)}:σ[i]? = some (some (.ref a))->H a=some (.dK kxs)->fE kxs k=some x->mU K H Z σ x (.q i k) []
inductive iF (K:PySem.W.Frag) (H:Hp) (Z:Zs) (σ:L2.St):List V->List dJ->List Addr->Prop
 | nil:iF K H Z σ [] [] []
 | cons {x:V} {o:dJ} {G:List Addr} {xs:List V} {os:List dJ} {G':List Addr}:mU K H Z σ x o G->iF K H Z σ xs os G'->iF K H Z σ (x::xs) (o::os) (G++G')
def Ro (K:PySem.W.Frag) (H:Hp) (Z:Zs) (x:V) (m:M):Prop:=∃G,Ow K H Z x m G
def Cz (K:PySem.W.Frag) (H:Hp) (Z:Zs):List V->List M->Prop:=Paired (Ro K H Z)
section
variable {K:PySem.W.Frag} {H H' H1 H2 H3:Hp} {Z Z' Z1 Z2 Z3:Zs} {F F' F1 F2 G:List Addr} {σ:L2.St} {ρ:Ev}
theorem fK.get:∀ {kxs:List (Key×V)} {kvs:List (Key×List PyData)} {G:List Addr} {k:Key} {ds:List PyData},fK K H Z kxs kvs G->cN kvs k=some ds->∃b xs,fE kxs k=some (.ref b)/\H b=some (.lst xs)/\br K H Z xs ds/\b∈G
 | _,_,_,_,_,.nil,e=>by cases e
 | _,_,_,k,ds,.cons (k:=k') (b:=b) (kxs:=kxs) (kvs:=kvs) (ds:=ds') h f r,e=>by
  unfold cN at e;rw[List.find?_cons] at e;unfold fE;rw[List.find?_cons]
  by_cases hk:k'=k
  ·simp only[hk,decide_true,Option.map_some] at e ⊢
   cases e;exact⟨b,_,rfl,h,f,lS⟩
  ·simp only[hk,decide_false] at e ⊢
   obtain⟨b',xs,h1,h2,h3,h4⟩:=fK.get (k:=k) r e;exact⟨b',xs,h1,h2,h3,lO _ h4⟩
theorem mU.peek {x:V} {o:dJ} {m:M} (S:aP K H Z σ ρ F) (h:mU K H Z σ x o G) (e:VL.peek ρ o=some m):Ro K H Z x m:=by
 cases h with
 | t q=>cases e; exact⟨_,q⟩
 | p q =>
  obtain⟨x',G',h1,h2,_⟩:=S.get (aG.mp e);rw[q] at h1; cases h1;exact⟨_,h2⟩
 | q h1 h2 h3 =>
  rename_i i k a kxs
  have e:(match cS ρ i with
   | some (.bG kvs)=>(cN kvs k).map M.lst
   | _=>none)=some m:=e
  split at e
  ·next kvs hk =>
   obtain⟨x',G',q1,q2,_⟩:=S.get (aG.mp hk);rw[h1] at q1; cases q1;obtain⟨ds,e1,e2⟩:=Option.map_eq_some_iff.mp e;subst e2;cases q2 with
   | bG q3 q4 =>
    rw[h2] at q3; cases q3;obtain⟨b,xs,z1,z2,z3,_⟩:=q4.get e1;rw[h3] at z1; cases z1;exact⟨_,.lst z2 z3⟩
  ·cases e
theorem iF.peek:∀ {xs:List V} {os:List dJ} {ms:List M} {G:List Addr},aP K H Z σ ρ F->iF K H Z σ xs os G->iu ρ os=some ms->Cz K H Z xs ms
 | _,_,_,_,_,.nil,e=>by cases e; exact .nil
 | _,_,_,_,S,.cons h r,e=>by
  obtain⟨m,h1,e⟩:=oB e;obtain⟨ms,h2,e⟩:=oB e;cases e;exact .cons (h.peek S h1) (iF.peek S r h2)
theorem mU.al {x:V} {o:dJ} (h:mU K H Z σ x o G):∀a∈G,H a≠none:=by
 cases h with
 | t q=>exact q.al
 | p _=>intro a h; simp at h
 | q _ _ _=>intro a h; simp at h
noncomputable def rR:dJ->Bool
 | .q _ _=>false
 | _=>true
theorem cZ {o:dJ} {m:M} (h:jf ρ o=some m):rR o=true:=by
 cases o with
 | t _=>rfl
 | p _=>rfl
 | q _ _=>cases h
theorem mU.mono {x:V} {o:dJ} (h:mU K H Z σ x o G) (hs:rR o=true) (g:aL H Z H' Z') (k:∀a∈G,∀o,H a=some o->H' a=some o):mU K H' Z' σ x o G:=by
 cases h with
 | t q=>exact .t (q.mono g k)
 | p q=>exact .p q
 | q _ _ _=>cases hs
theorem aI.news (n:aI H Z [] H' Z' G) (w:Wf H Z F) (al:∀a∈F,H a≠none):aI H Z F H' Z' (F++G):=by
 have h:=n.frame (F:=[]) (G:=F) (by rw[List.nil_append]; exact w) al
 rw[List.nil_append] at h;exact h.swap
theorem aI.wU (n:aI H Z [] H' Z' G):aL H Z H' Z':=⟨n.tups,fun a o _ e=>n.keep a o List.not_mem_nil e,n.zs⟩
theorem aP.news (S:aP K H Z σ ρ F) (n:aI H Z [] H' Z' G):aP K H' Z' σ ρ F:=S.mono (n.wU) fun a _ o e=>n.keep a o (List.not_mem_nil) e
theorem aI.through {F2:List Addr} (f1:aI H Z F H1 Z1 (F1++G)) (f2:aI H1 Z1 F1 H2 Z2 F2) (al:∀a∈G,H1 a≠none):aI H Z F H2 Z2 (F2++G):=f1.trans (f2.frame f1.wf al)
theorem aI.qt {F2:List Addr} (f1:aI H Z F H1 Z1 (F1++G)) (f2:aI H1 Z1 F1 H2 Z2 F2):∀a∈G,∀o,H1 a=some o->H2 a=some o:=fun a h o e =>
 f2.keep a o (fun z=>(List.nodup_append.mp f1.nd).2.2 a z a h rfl) e
theorem aI.assoc' {A B C:List Addr} (f:aI H Z F H' Z' (A++(B++C))):aI H Z F H' Z' ((A++B)++C):=by rw[List.append_assoc]; exact f
theorem aI.Bx {A B C:List Addr} (f:aI H Z F H' Z' ((A++B)++C)):aI H Z F H' Z' (A++(C++B)):=f.sub (by
  have h:=List.nodup_append.mp f.nd;have h':=List.nodup_append.mp h.1;refine List.nodup_append.mpr ⟨h'.1,List.nodup_append.mpr ⟨h.2.1,h'.2.1,fun a x b y e=>h.2.2 b (lR _ y) a x e.symm⟩,fun a x b y e => ?_⟩
  rcases lM y with y | y
  ·exact h.2.2 a (lL _ x) b y e
  ·exact h'.2.2 a x b y e) fun a h=>by
  rcases lM h with h | h
  ·exact lL _ (lL _ h)
  rcases lM h with h | h
  ·exact lR _ h
  ·exact lL _ (lR _ h)
end
abbrev FE:=Ev->Option (dJ×Ev)
abbrev FA:=Ev->Option (List dJ×Ev)
abbrev FT:=Ev->Option (Bool×Ev)
noncomputable def vE (K:PySem.W.Frag) (f:FE):TE:=fun σ H Q=>∃Z ρ F o ρ',aP K H Z σ ρ F/\Wf H Z F/\f ρ=some (o,ρ')/\∀x H' Z' F' G,aP K H' Z' σ ρ' F'->mU K H' Z' σ x o G->aI H Z F H' Z' (F'++G)->Q x H'
noncomputable def vA (K:PySem.W.Frag) (f:FA):TA:=fun σ H Q=>∃Z ρ F os ρ',aP K H Z σ ρ F/\Wf H Z F/\f ρ=some (os,ρ')/\∀xs H' Z' F' G,aP K H' Z' σ ρ' F'->iF K H' Z' σ xs os G->aI H Z F H' Z' (F'++G)->Q xs H'
noncomputable def vT (K:PySem.W.Frag) (f:FT):TT:=fun σ H Q=>∃Z ρ F b ρ',aP K H Z σ ρ F/\Wf H Z F/\f ρ=some (b,ρ')/\∀H' Z' F',aP K H' Z' σ ρ' F'->aI H Z F H' Z' F'->Q b H'
section
variable {X:Cx} {e:Expr}
theorem aW {t t':TE} (h:PE X e t) (i:∀σ H Q,t' σ H Q->t σ H Q):PE X e t':=fun pins s σ H Q I q=>h pins s σ H Q I (i σ H Q q)
theorem o4 {t t':TT} (h:PT X e t) (i:∀σ H Q,t' σ H Q->t σ H Q):PT X e t':=fun pins s σ H Q I q=>h pins s σ H Q I (i σ H Q q)
theorem wV {t t':TT} (h:PW X e t) (i:∀σ H Q,t' σ H Q->t σ H Q):PW X e t':=fun wh pins s σ H Q I q=>h wh pins s σ H Q I (i σ H Q q)
theorem rS {es:List Expr} {t t':TA} (h:PA X es t) (i:∀σ H Q,t' σ H Q->t σ H Q):PA X es t':=fun pos pins s σ H Q I q=>h pos pins s σ H Q I (i σ H Q q)
theorem kT {t u:TE} (h:PE X e t) (h':PE X e u):PE X e (fun σ H Q=>t σ H Q\/u σ H Q):=fun pins s σ H Q I q=>q.elim (h pins s σ H Q I) (h' pins s σ H Q I)
theorem wW {t u:TT} (h:PT X e t) (h':PT X e u):PT X e (fun σ H Q=>t σ H Q\/u σ H Q):=fun pins s σ H Q I q=>q.elim (h pins s σ H Q I) (h' pins s σ H Q I)
abbrev VE (X:Cx) (e:Expr) (f:FE):Prop:=PE X e (vE X.K f)
abbrev VA (X:Cx) (es:List Expr) (f:FA):Prop:=PA X es (vA X.K f)
abbrev VT (X:Cx) (e:Expr) (f:FT):Prop:=PT X e (vT X.K f)
abbrev VW (X:Cx) (e:Expr) (f:FT):Prop:=PW X e (vT X.K f)
noncomputable def aa (i:Nat):FE:=fun ρ=>match cS ρ i with
 | some (.v d)=>some (.t (.v d),ρ)
 | some _=>some (.p i,ρ)
 | none=>none
theorem zf {i:Nat} (h:PE X e (fC i)):VE X e (aa i):=aW h fun σ H Q hq=>by
 obtain⟨Z,ρ,F,o,ρ',S,w,e,q⟩:=hq;unfold aa at e;cases hm:cS ρ i with
 | none=>rw[hm] at e; cases e
 | some m =>
  obtain⟨x,G,h1,h2,h3⟩:=S.get (aG.mp hm);refine⟨x,h1,?_⟩;cases m with
  | v d =>
   rw[hm] at e; cases e;cases h2 with
   | v f=>exact q x H Z F [] S (.t (.v f)) (aI.refl w).nil
  | lst _=>rw[hm] at e; cases e; exact q x H Z F [] S (.p h1) (aI.refl w).nil
  | bL _=>rw[hm] at e; cases e; exact q x H Z F [] S (.p h1) (aI.refl w).nil
  | bG _=>rw[hm] at e; cases e; exact q x H Z F [] S (.p h1) (aI.refl w).nil
theorem vv (i:Nat) {x:Str} {pos:Pos} (hN:X.N[i]? = some x:=by rfl) (hv:AD X.env.scope x:=by first | exact Or.inl rfl | exact Or.inr (Or.inl rfl) | exact Or.inr (Or.inr rfl)) (hd:(x == ("__debug__" : Str))=false:=by decide)
  (hcd:(x == ("__classdict__" : Str))=false:=by decide):VE X (.Name x pos) (aa i):=zf (rf hN hv hd hcd)
noncomputable def vC (d:PyData):FE:=fun ρ=>some (.t (.v d),ρ)
theorem ve_c {v:V} {d:PyData} (h:PE X e (tC v)) (hd:∀H Z,Fz X.K H Z v d):VE X e (vC d):=aW h fun σ H Q hq=>by
 obtain⟨Z,ρ,F,o,ρ',S,w,e,q⟩:=hq;cases e;exact q v H Z F [] S (.t (.v (hd H Z))) (aI.refl w).nil
theorem By {i j pos}:VE X (.Constant (.int i) j pos) (vC (.int i)):=ve_c AE fun _ _=>.int i
theorem ve_bl {i j pos}:VE X (.Constant (.bool i) j pos) (vC (.bool i)):=ve_c pe_bl fun _ _=>.bl i
theorem BA {j pos}:VE X (.Constant .none j pos) (vC .none):=ve_c AF fun _ _=>.non
def CS (K:PySem.W.Frag) (r:R2) (g:M->M->Option M):Prop:=∀H Z x y m1 m2 m Q,(∀a,Z a->H a≠none)->Ro K H Z x m1->Ro K H Z y m2->g m1 m2=some m->(∀z H' Z' G,Ow K H' Z' z m G->aI H Z [] H' Z' G->Q z H')->r x y H Q
noncomputable def vB (g:M->M->Option M) (fa fb:FE):FE:=fun ρ=>(fa ρ).bind fun p=>(fb p.2).bind fun q=>(jf q.2 p.1).bind fun m1=>(peek q.2 q.1).bind fun m2=>(g m1 m2).bind fun m=>some (.t m,q.2)
theorem two {fa fb:FE} {g:M->M->Option M} {r:R2} {σ:L2.St} {H:Hp} {Q:VK} (hr:CS X.K r g) (hq:vE X.K (vB g fa fb) σ H Q):Ag r (vE X.K fa) (vE X.K fb) σ H Q:=by
 obtain⟨Z,ρ,F,o,ρ',S,w,e,q⟩:=hq;obtain⟨⟨o1,ρ1⟩,e1,e⟩:=oB e;obtain⟨⟨o2,ρ2⟩,e2,e⟩:=oB e;obtain⟨m1,e3,e⟩:=oB e;obtain⟨m2,e4,e⟩:=oB e;obtain⟨m,e5,e⟩:=oB e;cases e;refine⟨Z,ρ,F,o1,ρ1,S,w,e1,fun x H1 Z1 F1 G1 S1 O1 f1=>⟨Z1,ρ1,F1,o2,ρ2,S1,f1.left.wf,e2,fun y H2 Z2 F2 G2 S2 O2 f2 => ?_⟩⟩
 have O1':=O1.mono (cZ e3) (f2.grow f1.left.wf) (f1.qt f2);refine hr H2 Z2 x y m1 m2 m Q f2.za (O1'.peek S2 (cY e3)) (O2.peek S2 e4) e5 fun z H3 Z3 G h3 n => ?_
 exact q z H3 Z3 F2 G (S2.news n) (.t h3) ((f1.left.trans f2.left).trans (n.news f2.left.wf S2.al))
theorem ve_op {op:Operator} {a b:Expr} {pos:Pos} {r:R2} {g:M->M->Option M} {fa fb:FE} (hr:CS X.K r g) (ho:di X (binaryOp op) r) (ha:VE X a fa) (hb:VE X b fb):VE X (.BinOp a op b pos) (vB g fa fb):=aW (pe_op ho ha hb) fun _ _ _=>two hr
theorem BB {op:CmpOp} {a b:Expr} {pos:Pos} {r:R2} {g:M->M->Option M} {fa fb:FE} (hr:CS X.K r g) (ho:di X (compareOp op) r) (ha:VE X a fa) (hb:VE X b fb) (hm:behindInMarks op b=false):VE X (.Compare a [op] [b] pos) (vB g fa fb):=aW (iU ho ha hb hm) fun _ _ _=>two hr
def DP (K:PySem.W.Frag) (r:V->Hp->VK->Prop) (g:M->Option M):Prop:=∀H Z x m1 m Q,(∀a,Z a->H a≠none)->Ro K H Z x m1->g m1=some m->(∀z H' Z' G,Ow K H' Z' z m G->aI H Z [] H' Z' G->Q z H')->r x H Q
noncomputable def vU (g:M->Option M) (fa:FE):FE:=fun ρ=>(fa ρ).bind fun p=>(peek p.2 p.1).bind fun m1=>(g m1).bind fun m=>some (.t m,p.2)
theorem one {fa:FE} {g:M->Option M} {r:V->Hp->VK->Prop} {σ:L2.St} {H:Hp} {Q:VK} (hr:DP X.K r g) (hq:vE X.K (vU g fa) σ H Q):vE X.K fa σ H fun x H1=>r x H1 Q:=by
 obtain⟨Z,ρ,F,o,ρ',S,w,e,q⟩:=hq;obtain⟨⟨o1,ρ1⟩,e1,e⟩:=oB e;obtain⟨m1,e3,e⟩:=oB e;obtain⟨m,e5,e⟩:=oB e;cases e;refine⟨Z,ρ,F,o1,ρ1,S,w,e1,fun x H1 Z1 F1 G1 S1 O1 f1 => ?_⟩
 refine hr H1 Z1 x m1 m Q f1.za (O1.peek S1 e3) e5 fun z H3 Z3 G h3 n => ?_
 exact q z H3 Z3 F1 G (S1.news n) (.t h3) (f1.left.trans (n.news f1.left.wf S1.al))
noncomputable def gE:FA:=fun ρ=>some ([],ρ)
noncomputable def af (fa:FE):FA:=fun ρ=>(fa ρ).bind fun p=>some ([p.1],p.2)
noncomputable def ai (fa:FE) (fr:FA):FA:=fun ρ=>(fa ρ).bind fun p=>(fr p.2).bind fun q=>if rR p.1=true then some (p.1::q.1,q.2) else none
theorem BC:VA X [] gE:=rS ou fun σ H Q hq=>by
 obtain⟨Z,ρ,F,o,ρ',S,w,e,q⟩:=hq;cases e;exact q [] H Z F [] S .nil (aI.refl w).nil
theorem BD {a:Expr} {fa:FE} (ha:VE X a fa) (hs:starEach [a] X.env=[(false,eval a X.env)]:=by rfl):VA X [a] (af fa):=rS (iV ha ou hs) fun σ H Q hq=>by
 obtain⟨Z,ρ,F,o,ρ',S,w,e,q⟩:=hq;obtain⟨⟨o1,ρ1⟩,e1,e⟩:=oB e;cases e;refine⟨Z,ρ,F,o1,ρ1,S,w,e1,fun x H1 Z1 F1 G1 S1 O1 f1 => ?_⟩
 exact q [x] H1 Z1 F1 (G1++[]) S1 (.cons O1 .nil) (by rw[List.append_nil]; exact f1)
theorem zg {a:Expr} {as:List Expr} {fa:FE} {fr:FA} (ha:VE X a fa) (hr:VA X as fr) (hs:starEach (a::as) X.env=(false,eval a X.env)::starEach as X.env:=by rfl):VA X (a::as) (ai fa fr):=rS (iV ha hr hs) fun σ H Q hq=>by
 obtain⟨Z,ρ,F,o,ρ',S,w,e,q⟩:=hq;obtain⟨⟨o1,ρ1⟩,e1,e⟩:=oB e;obtain⟨⟨os,ρ2⟩,e2,e⟩:=oB e
 by_cases hs:rR o1=true
 ·rw[if_pos hs] at e
  cases e;refine⟨Z,ρ,F,o1,ρ1,S,w,e1,fun x H1 Z1 F1 G1 S1 O1 f1=>⟨Z1,ρ1,F1,os,ρ2,S1,f1.left.wf,e2,fun xs H2 Z2 F2 G2 S2 O2 f2 => ?_⟩⟩
  exact q (x::xs) H2 Z2 F2 (G1++G2) S2 (.cons (O1.mono hs (f2.grow f1.left.wf) (f1.qt f2)) O2) (f1.through f2 O1.al).Bx
 ·rw[if_neg hs] at e; cases e
def Dm (K:PySem.W.Frag) (r:List V->Hp->VK->Prop) (g:List M->Option M):Prop:=∀H Z xs ms m Q,(∀a,Z a->H a≠none)->Cz K H Z xs ms->g ms=some m->(∀z H' Z' G,Ow K H' Z' z m G->aI H Z [] H' Z' G->Q z H')->r xs H Q
noncomputable def eL (g:List M->Option M) (fa:FA):FE:=fun ρ=>(fa ρ).bind fun p=>(iu p.2 p.1).bind fun ms=>(g ms).bind fun m=>some (.t m,p.2)
theorem many {fa:FA} {g:List M->Option M} {r:List V->Hp->VK->Prop} {σ:L2.St} {H:Hp} {Q:VK} (hr:Dm X.K r g) (hq:vE X.K (eL g fa) σ H Q):C1 r (vA X.K fa) σ H Q:=by
 obtain⟨Z,ρ,F,o,ρ',S,w,e,q⟩:=hq;obtain⟨⟨os,ρ1⟩,e1,e⟩:=oB e;obtain⟨ms,e3,e⟩:=oB e;obtain⟨m,e5,e⟩:=oB e;cases e;refine⟨Z,ρ,F,os,ρ1,S,w,e1,fun xs H1 Z1 F1 G1 S1 O1 f1 => ?_⟩
 refine hr H1 Z1 xs ms m Q f1.za (O1.peek S1 e3) e5 fun z H3 Z3 G h3 n => ?_
 exact q z H3 Z3 F1 G (S1.news n) (.t h3) (f1.left.trans (n.news f1.left.wf S1.al))
noncomputable def Dp:M->Option Bool
 | .v (.bool b)=>some b
 | _=>none
noncomputable def cz (f:FE):FT:=fun ρ=>(f ρ).bind fun p=>(peek p.2 p.1).bind fun m=>(Dp m).bind fun b=>some (b,p.2)
theorem C3 {f:FE} {σ:L2.St} {H:Hp} {Q:Bool->Hp->Prop} (hq:vT X.K (cz f) σ H Q):vE X.K f σ H fun x H1=>∃c,x=.bl c/\Q c H1:=by
 obtain⟨Z,ρ,F,b,ρ',S,w,e,q⟩:=hq;obtain⟨⟨o1,ρ1⟩,e1,e⟩:=oB e;obtain⟨m,e2,e⟩:=oB e;obtain⟨b',e3,e⟩:=oB e;cases e;refine⟨Z,ρ,F,o1,ρ1,S,w,e1,fun x H1 Z1 F1 G1 S1 O1 f1 => ?_⟩
 obtain⟨G,h⟩:=O1.peek S1 e2;cases h with
 | v f =>
  cases f with
  | bl c=>cases e3; exact⟨_,rfl,q H1 Z1 F1 S1 f1.left⟩
  | _=>cases e3
 | _=>cases e3
theorem BE {op:CmpOp} {a b:Expr} {pos:Pos} {r:R2} {g:M->M->Option M} {fa fb:FE} (hr:CS X.K r g) (ho:di X (compareOp op) r) (ha:VE X a fa) (hb:VE X b fb) (hm:behindInMarks op b=false):VT X (.Compare a [op] [b] pos) (cz (vB g fa fb)):=by
 refine o4 (oq ho ha hb hm) fun σ H Q hq => ?_
 exact two hr (C3 hq)
noncomputable def kU (f:FT):FT:=fun ρ=>(f ρ).bind fun p=>some (!p.1,p.2)
noncomputable def uU (f g:FT):FT:=fun ρ=>(f ρ).bind fun p=>if p.1=true then g p.2 else some (false,p.2)
noncomputable def CT (f g:FT):FT:=fun ρ=>(f ρ).bind fun p=>if p.1=true then some (true,p.2) else g p.2
theorem not_imp {f:FT} {σ:L2.St} {H:Hp} {Q:Bool->Hp->Prop} (hq:vT X.K (kU f) σ H Q):tNot (vT X.K f) σ H Q:=by
 obtain⟨Z,ρ,F,b,ρ',S,w,e,q⟩:=hq;obtain⟨⟨o1,ρ1⟩,e1,e⟩:=oB e;cases e;exact⟨Z,ρ,F,o1,ρ1,S,w,e1,q⟩
theorem and_imp {f g:FT} {σ:L2.St} {H:Hp} {Q:Bool->Hp->Prop} (hq:vT X.K (uU f g) σ H Q):tAnd (vT X.K f) (vT X.K g) σ H Q:=by
 obtain⟨Z,ρ,F,b,ρ',S,w,e,q⟩:=hq;obtain⟨⟨o1,ρ1⟩,e1,e⟩:=oB e;refine⟨Z,ρ,F,o1,ρ1,S,w,e1,fun H1 Z1 F1 S1 f1 => ?_⟩
 cases o1 with
 | true=>exact⟨Z1,ρ1,F1,b,ρ',S1,f1.wf,e,fun H2 Z2 F2 S2 f2=>q H2 Z2 F2 S2 (f1.trans f2)⟩
 | false=>cases e; exact q H1 Z1 F1 S1 f1
theorem or_imp {f g:FT} {σ:L2.St} {H:Hp} {Q:Bool->Hp->Prop} (hq:vT X.K (CT f g) σ H Q):Dv (vT X.K f) (vT X.K g) σ H Q:=by
 obtain⟨Z,ρ,F,b,ρ',S,w,e,q⟩:=hq;obtain⟨⟨o1,ρ1⟩,e1,e⟩:=oB e;refine⟨Z,ρ,F,o1,ρ1,S,w,e1,fun H1 Z1 F1 S1 f1 => ?_⟩
 cases o1 with
 | false=>exact⟨Z1,ρ1,F1,b,ρ',S1,f1.wf,e,fun H2 Z2 F2 S2 f2=>q H2 Z2 F2 S2 (f1.trans f2)⟩
 | true=>cases e; exact q H1 Z1 F1 S1 f1
theorem BF {a:Expr} {pos:Pos} {f:FT} (h:VT X a f):VT X (.UnaryOp .Not a pos) (kU f):=o4 (AJ h) fun _ _ _=>not_imp
theorem zh {a:Expr} {pos:Pos} {f:FT} (h:VT X a f):VW X (.BoolOp .And [a] pos) f:=yw h
theorem BG {a:Expr} {pos:Pos} {f:FT} (h:VT X a f):VW X (.BoolOp .Or [a] pos) f:=AH h
theorem BH {a b:Expr} {rest:List Expr} {pos:Pos} {f g:FT} (h:VT X a f) (h':VW X (.BoolOp .And (b::rest) pos) g):VW X (.BoolOp .And (a::b::rest) pos) (uU f g):=wV (AI h h') fun _ _ _=>and_imp
theorem vw_or {a b:Expr} {rest:List Expr} {pos:Pos} {f g:FT} (h:VT X a f) (h':VW X (.BoolOp .Or (b::rest) pos) g):VW X (.BoolOp .Or (a::b::rest) pos) (CT f g):=wV (pw_or h h') fun _ _ _=>or_imp
noncomputable def jg (fa fb:FE):FE:=fun ρ=>(cz fa ρ).bind fun p=>if p.1=true then fb p.2 else some (.t (.v (.bool false)),p.2)
theorem BI {a b:Expr} {rest:List Expr} {pos:Pos} {fa fb:FE} (ha:VE X a fa) (hb:VE X (.BoolOp .And (b::rest) pos) fb):VE X (.BoolOp .And (a::b::rest) pos) (jg fa fb):=aW (AL ha hb) fun σ H Q hq=>by
 obtain⟨Z,ρ,F,o,ρ',S,w,e,q⟩:=hq;obtain⟨⟨b1,ρ1⟩,e1,e⟩:=oB e;refine C3 ⟨Z,ρ,F,b1,ρ1,S,w,e1,fun H1 Z1 F1 S1 f1 => ?_⟩
 cases b1 with
 | true=>exact iteT ⟨Z1,ρ1,F1,o,ρ',S1,f1.wf,e,fun x H2 Z2 F2 G S2 O f2=>q x H2 Z2 F2 G S2 O (f1.trans f2)⟩
 | false=>cases e; exact iteF (q (.bl false) H1 Z1 F1 [] S1 (.t (.v (.bl false))) f1.nil)
theorem BJ {op a} {pos:Pos} {f:FE} (h:VE X a f):VE X (.BoolOp op [a] pos) f:=AK h
noncomputable def tK (fa:FE):FE:=fun ρ=>(cz fa ρ).bind fun p=>some (.t (.v (.bool (!p.1))),p.2)
theorem BK {a:Expr} {pos:Pos} {fa:FE} (ha:VE X a fa):VE X (.UnaryOp .Not a pos) (tK fa):=aW (AM ha) fun σ H Q hq=>by
 obtain⟨Z,ρ,F,o,ρ',S,w,e,q⟩:=hq;obtain⟨⟨b1,ρ1⟩,e1,e⟩:=oB e;refine C3 ⟨Z,ρ,F,b1,ρ1,S,w,e1,fun H1 Z1 F1 S1 f1 => ?_⟩
 cases e;exact q (.bl (!b1)) H1 Z1 F1 [] S1 (.t (.v (.bl _))) f1.nil
end
noncomputable def lim:Nat:=1000000
theorem fZ {n:Nat} (h:n<=lim):n<=sizeLine:=Nat.le_trans h (by decide)
theorem gF {n:Nat} (h:n<=lim):n<sizeLine:=Nat.lt_of_le_of_lt h (by decide)
noncomputable def rM (K:PySem.W.Frag) (g:M->M->Option M):R2:=fun x y H Q=>∃Z m1 m2 m,(∀a,Z a->H a≠none)/\Ro K H Z x m1/\Ro K H Z y m2/\g m1 m2=some m/\∀z H' Z' G,Ow K H' Z' z m G->aI H Z [] H' Z' G->Q z H'
theorem rM_v {K:PySem.W.Frag} {g:M->M->Option M}:CS K (rM K g) g:=fun H Z x y m1 m2 m Q za h1 h2 e q=>⟨Z,m1,m2,m,za,h1,h2,e,q⟩
def uV (K:PySem.W.Frag) (g:List M->Option M):List V->Hp->VK->Prop:=fun xs H Q=>∃Z ms m,(∀a,Z a->H a≠none)/\Cz K H Z xs ms/\g ms=some m/\∀z H' Z' G,Ow K H' Z' z m G->aI H Z [] H' Z' G->Q z H'
theorem wX {K:PySem.W.Frag} {g:List M->Option M}:Dm K (uV K g) g:=fun H Z xs ms m Q za h1 e q=>⟨Z,ms,m,za,h1,e,q⟩
section
variable {K:PySem.W.Frag} {H H':Hp} {Z:Zs} {x:V} {Q:VK}
theorem Ro.fz {d:PyData} (h:Ro K H Z x (.v d)):Fz K H Z x d:=by
 obtain⟨G,h⟩:=h;cases h with
 | v f=>exact f
theorem Ro.int {i:Int} (h:Ro K H Z x (.v (.int i))):x=.int i:=h.fz.int_inv
theorem Ro.bl {i:Bool} (h:Ro K H Z x (.v (.bool i))):x=.bl i:=h.fz.rQ
theorem Ro.str {i:Str} (h:Ro K H Z x (.v (.str i))):x=.str i:=h.fz.str_inv
theorem Ro.lst {ds:List PyData} (h:Ro K H Z x (.lst ds)):∃a xs,x=.ref a/\H a=some (.lst xs)/\br K H Z xs ds:=by
 obtain⟨G,h⟩:=h;cases h with
 | lst e f=>exact⟨_,_,rfl,e,f⟩
theorem Ro.bL {ds:List (Key×PyData)} (h:Ro K H Z x (.bL ds)):∃a xs,x=.ref a/\H a=some (.dK xs)/\iE K H Z xs ds:=by
 obtain⟨G,h⟩:=h;cases h with
 | bL e f=>exact⟨_,_,rfl,e,f⟩
theorem Ro.bG {ds:List (Key×List PyData)} (h:Ro K H Z x (.bG ds)):∃a xs G,x=.ref a/\H a=some (.dK xs)/\fK K H Z xs ds G:=by
 obtain⟨G,h⟩:=h;cases h with
 | bG e f=>exact⟨_,_,_,rfl,e,f⟩
theorem Ro.tup {ds:List PyData} (h:Ro K H Z x (.v (.tuple ds))):∃a xs,x=.ref a/\cK K H a xs/\br K H Z xs ds:=h.fz.gU
noncomputable def jV:M->Option (List PyData)
 | .lst ds=>some ds
 | .v (.list ds)=>some ds
 | _=>none
noncomputable def wY:M->Option (List PyData)
 | .v (.tuple ds)=>some ds
 | _=>none
noncomputable def seq:M->Option (List PyData)
 | .lst ds=>some ds
 | .v (.list ds)=>some ds
 | .v (.tuple ds)=>some ds
 | _=>none
theorem Ro.jV {m:M} {ds:List PyData} (h:Ro K H Z x m) (e:VL.jV m=some ds):∃a xs,x=.ref a/\fV K H a xs/\br K H Z xs ds:=by
 unfold VL.jV at e
 split at e
 ·cases e
  obtain⟨a,xs,e1,e2,e3⟩:=h.lst;exact⟨a,xs,e1,.of e2,e3⟩
 ·cases e
  obtain⟨a,xs,e1,e2,e3⟩:=h.fz.lst_inv;exact⟨a,xs,e1,e2,e3⟩
 ·cases e
theorem Ro.wY {m:M} {ds:List PyData} (h:Ro K H Z x m) (e:VL.wY m=some ds):∃a xs,x=.ref a/\cK K H a xs/\br K H Z xs ds:=by
 unfold VL.wY at e
 split at e
 ·cases e
  exact h.tup
 ·cases e
theorem Ro.seq {m:M} {ds:List PyData} (h:Ro K H Z x m) (e:VL.seq m=some ds):∃a xs,x=.ref a/\(fV K H a xs\/cK K H a xs)/\br K H Z xs ds:=by
 unfold VL.seq at e
 split at e
 ·cases e
  obtain⟨a,xs,e1,e2,e3⟩:=h.lst;exact⟨a,xs,e1,.inl (.of e2),e3⟩
 ·cases e
  obtain⟨a,xs,e1,e2,e3⟩:=h.fz.lst_inv;exact⟨a,xs,e1,.inl e2,e3⟩
 ·cases e
  obtain⟨a,xs,e1,e2,e3⟩:=h.tup;exact⟨a,xs,e1,.inr e2,e3⟩
 ·cases e
theorem aI.same (s:bz H H') (za:∀a,Z a->H a≠none):aI H Z [] H' Z []:=⟨fun a o _ e=>s a o e,s.tups,fun _ h=>h,fun _ h=>.inl h,fun _ h=>(nomatch h),List.nodup_nil,fun _ h=>(nomatch h),fun a z e=>za a z (s.free e)⟩
theorem aI.newl {p:Addr} {o:HO} (hp:H p=none) (za:∀a,Z a->H a≠none):aI H Z [] (upd H p o) Z [p]:=by
 have s:=dc hp o;exact⟨fun a o _ e=>s a o e,s.tups,fun _ h=>h,fun _ h=>.inl h,fun a h=>.inr (by rw[List.mem_singleton] at h; subst h; exact hp),List.nodup_cons.mpr ⟨List.not_mem_nil,List.nodup_nil⟩,fun a h z=>by rw[List.mem_singleton] at h; subst h; exact za _ z hp,fun a z e=>za a z (s.free e)⟩
theorem aL.same (s:bz H H'):aL H Z H' Z:=⟨s.tups,fun a o _ e=>s a o e,fun _ h=>h⟩
theorem bZ {z:V} {d:PyData} (q:∀z H' Z' G,Ow K H' Z' z (.v d) G->aI H Z [] H' Z' G->Q z H') (za:∀a,Z a->H a≠none) (h:Fz K H Z z d):Q z H:=q z H Z [] (.v h) (aI.same (bz.refl H) za)
theorem endS {z:V} {d:PyData} (q:∀z H' Z' G,Ow K H' Z' z (.v d) G->aI H Z [] H' Z' G->Q z H') (za:∀a,Z a->H a≠none) (s:bz H H') (h:Fz K H' Z z d):Q z H':=q z H' Z [] (.v h) (aI.same s za)
theorem endT {p:Addr} {xs:List V} {ds:List PyData} (q:∀z H' Z' G,Ow K H' Z' z (.v (.tuple ds)) G->aI H Z [] H' Z' G->Q z H') (za:∀a,Z a->H a≠none) (hp:H p=none) (h:br K H Z xs ds):Q (.ref p) (upd H p (.tup xs)) :=
 endS q za (dc hp _) (.tup (cK.of aK) (h.mono (aL.same (dc hp _))))
theorem qu {p:Addr} {xs:List V} {ds:List PyData} (q:∀z H' Z' G,Ow K H' Z' z (.lst ds) G->aI H Z [] H' Z' G->Q z H') (za:∀a,Z a->H a≠none) (hp:H p=none) (h:br K H Z xs ds):Q (.ref p) (upd H p (.lst xs)) :=
 q (.ref p) (upd H p (.lst xs)) Z [p] (.lst aK (h.mono (aL.same (dc hp _)))) (aI.newl hp za)
end
noncomputable def bH:M->M->Option M
 | .v (.int i),.v (.int j)=>some (.v (.int (i+j)))
 | .v (.tuple a),.v (.tuple b)=>if a.length+b.length<=lim then some (.v (.tuple (a++b))) else none
 | .lst a,.lst b=>if a.length+b.length<=lim then some (.lst (a++b)) else none
 | .v (.str a),.v (.str b)=>if a.length+b.length<=lim then some (.v (.str (a++b))) else none
 | _,_=>none
noncomputable def jW (C:Int->Int->Bool) (g:Int->Int->PyData):M->M->Option M
 | .v (.int i),.v (.int j)=>if C i j=true then some (.v (g i j)) else none
 | _,_=>none
section
variable {X:Cx}
theorem bQ:di X (binaryOp .Add) (rM X.K bH):=by
 intro pins s σ H x y v u Q I rx ry h;obtain⟨Z,m1,m2,m,za,h1,h2,e,q⟩:=h;unfold bH at e
 split at e
 ·cases e
  obtain rfl:=h1.int; obtain rfl:=h2.int;exact AU pins s σ H _ _ v u Q I rx ry ⟨_,_,rfl,rfl,bZ q za (.int _)⟩
 ·split at e
  ·next hl =>
   cases e;obtain⟨a,xs,rfl,e2,e3⟩:=h1.tup;obtain⟨b,ys,rfl,e5,e6⟩:=h2.tup;exact zd pins s σ H _ _ v u Q I rx ry ⟨a,b,xs,ys,rfl,rfl,e2,e5,fZ (by rw[e3.length,e6.length]; exact hl),fun r H' s' t=>endS q za s' (.tup t ((e3.append e6).mono (aL.same s')))⟩
  ·cases e
 ·split at e
  ·next hl =>
   cases e;obtain⟨a,xs,rfl,e2,e3⟩:=h1.lst;obtain⟨b,ys,rfl,e5,e6⟩:=h2.lst;exact Bd pins s σ H _ _ v u Q I rx ry ⟨a,b,xs,ys,rfl,rfl,e2,e5,fZ (by rw[e3.length,e6.length]; exact hl),fun p hp=>qu q za hp (e3.append e6)⟩
  ·cases e
 ·split at e
  ·next hl =>
   cases e;obtain rfl:=h1.str; obtain rfl:=h2.str;exact rB pins s σ H _ _ v u Q I rx ry ⟨_,_,rfl,rfl,fZ hl,bZ q za (.str _)⟩
  ·cases e
 ·cases e
theorem kW {f:Value->Value->Sem Value} {C:Int->Int->Bool} {P:Int->Int->Prop} {g:Int->Int->PyData} {gv:Int->Int->V} (ho:di X f (rI P gv)) (hc:∀i j,C i j=true->P i j) (hg:∀H Z i j,Fz X.K H Z (gv i j) (g i j)):di X f (rM X.K (jW C g)):=by
 intro pins s σ H x y v u Q I rx ry h;obtain⟨Z,m1,m2,m,za,h1,h2,e,q⟩:=h;unfold jW at e
 split at e
 ·split at e
  ·next hl =>
   cases e;obtain rfl:=h1.int; obtain rfl:=h2.int;exact ho pins s σ H _ _ v u Q I rx ry ⟨_,_,rfl,rfl,hc _ _ hl,bZ q za (hg H Z _ _)⟩
  ·cases e
 ·cases e
theorem tL {f:Value->Value->Sem Value} {g:Int->Int->PyData} {gv:Int->Int->V} (ho:di X f (Ah gv)) (hg:∀H Z i j,Fz X.K H Z (gv i j) (g i j)):di X f (rM X.K (jW (fun _ _=>true) g)):=by
 intro pins s σ H x y v u Q I rx ry h;obtain⟨Z,m1,m2,m,za,h1,h2,e,q⟩:=h;unfold jW at e
 split at e
 ·split at e
  ·next hl =>
   cases e;obtain rfl:=h1.int; obtain rfl:=h2.int;exact ho pins s σ H _ _ v u Q I rx ry ⟨_,_,rfl,rfl,bZ q za (hg H Z _ _)⟩
  ·cases e
 ·cases e
noncomputable def jh:=jW (fun _ _=>true) fun i j=>.int (i-j)
noncomputable def mulM:=jW (fun i j=>decide ((-(2 ^ 64)<i/\i<2 ^ 64)\/(-(2 ^ 64)<j/\j<2 ^ 64))) fun i j=>.int (i*j)
noncomputable def tM:=jW (fun _ j=>decide (0<j/\j<1073741824)) fun i j=>.int (i / j)
noncomputable def iG:=jW (fun _ j=>decide (0<j)) fun i j=>.int (i % j)
noncomputable def iH:=jW (fun i j=>decide (0<=j/\(Builtin.Int.intBits i:Int)*j<=2 ^ 27)) fun i j=>.int (i ^ j.toNat)
theorem jG:di X (binaryOp .Sub) (rM X.K jh):=tL AV fun _ _ _ _=>.int _
theorem kX:di X (binaryOp .Mult) (rM X.K mulM):=kW AW (fun i j h=>by have h:=of_decide_eq_true h; exact h) fun _ _ _ _=>.int _
theorem tN:di X (binaryOp .FloorDiv) (rM X.K tM):=kW yF (fun i j h=>by have h:=of_decide_eq_true h; exact h) fun _ _ _ _=>.int _
theorem gG:di X (binaryOp .Mod) (rM X.K iG):=kW AX (fun _ _ h=>of_decide_eq_true h) fun _ _ _ _=>.int _
theorem kY:di X (binaryOp .Pow) (rM X.K iH):=kW zb (fun _ _ h=>of_decide_eq_true h) fun _ _ _ _=>.int _
noncomputable def BL:M->Option PyData
 | .v d=>some d
 | .lst ds=>some (.list ds)
 | _=>none
theorem Ro.reads {pins:List (Addr×Obj)} {σ:L2.St} {H:Hp} {s:Shared} {Z:Zs} {x:V} {m:M} {d:PyData} {u:Value} (I:Inv X pins σ H s) (h:Ro X.K H Z x m) (e:BL m=some d) (c:d.canLay0=true) (r:RelV x u):∃as,Reads s.heap u d as:=by
 unfold BL at e
 split at e
 ·cases e; exact h.fz.reads I c r
 ·cases e
  obtain⟨a,xs,rfl,e2,e3⟩:=h.lst;cases r;obtain⟨its,rv,⟨o,n,ho,hc,hdd,hd⟩,_⟩:=I.list (fV.of e2);obtain⟨as,h⟩:=e3.reads I c rv;exact⟨_,.list ho hc hd (by simpa using h)⟩
 ·cases e
noncomputable def okEq (d e:PyData):Bool:=d.canLay0 && e.canLay0 && decide (min d.depth e.depth<=60)
noncomputable def mV (neg:Bool) (m1 m2:M):Option M:=(BL m1).bind fun d=>(BL m2).bind fun e=>if okEq d e=true then some (.v (.bool (if neg then !PyData.eqv d e else PyData.eqv d e))) else none
theorem kZ (hu:X.A.units+64<cLine):di X (compareOp .Eq) (rM X.K (mV false)):=by
 intro pins s σ H x y v u Q I rx ry h;obtain⟨Z,m1,m2,m,za,h1,h2,e,q⟩:=h;obtain⟨d,e1,e⟩:=oB e;obtain⟨d',e2,e⟩:=oB e
 split at e
 ·next ok =>
  cases e;unfold okEq at ok;simp only[Bool.and_eq_true,decide_eq_true_eq] at ok;obtain⟨as,r1⟩:=h1.reads I e1 ok.1.1 rx;obtain⟨bs,r2⟩:=h2.reads I e2 ok.1.2 ry;exact SeqAt.compareEq_reads r1 r2 ok.1.1 ok.1.2 (by have:=ok.2; lia) ⟨.bl _,H,I,rfl,bZ q za (.bl _)⟩
 ·cases e
theorem ov_ne (hu:X.A.units+64<cLine):di X (compareOp .NotEq) (rM X.K (mV true)):=by
 intro pins s σ H x y v u Q I rx ry h;obtain⟨Z,m1,m2,m,za,h1,h2,e,q⟩:=h;obtain⟨d,e1,e⟩:=oB e;obtain⟨d',e2,e⟩:=oB e
 split at e
 ·next ok =>
  cases e;unfold okEq at ok;simp only[Bool.and_eq_true,decide_eq_true_eq] at ok;obtain⟨as,r1⟩:=h1.reads I e1 ok.1.1 rx;obtain⟨bs,r2⟩:=h2.reads I e2 ok.1.2 ry;exact SeqAt.compareNe_reads r1 r2 ok.1.1 ok.1.2 (by have:=ok.2; lia) ⟨.bl _,H,I,rfl,bZ q za (.bl _)⟩
 ·cases e
noncomputable def DQ:PyData->Option Int
 | .int i=>some i
 | _=>none
noncomputable def gH:List PyData->Option (List Int)
 | []=>some []
 | d::ds=>(DQ d).bind fun i=>(gH ds).bind fun is=>some (i::is)
theorem bN:∀ {ds:List PyData} {is:List Int},gH ds=some is->ds=is.map .int
 | [],_,e=>by cases e; rfl
 | d::ds,_,e=>by
  obtain⟨i,e1,e⟩:=oB e;obtain⟨is,e2,e⟩:=oB e;cases e;rw[bN e2];cases d <;> cases e1
  rfl
theorem gV:∀ (is:List Int),gH (is.map .int)=some is
 | []=>rfl
 | i::is=>by show (some i).bind _=_; rw[Option.bind_some,gV is]; rfl
noncomputable def uW (gi:Int->Int->Bool) (gt:List Int->List Int->Bool):M->M->Option M
 | .v (.int i),.v (.int j)=>some (.v (.bool (gi i j)))
 | .v (.tuple a),.v (.tuple b)=>(gH a).bind fun is=>(gH b).bind fun js=>some (.v (.bool (gt is js)))
 | _,_=>none
theorem ov_lt (hu:X.A.units+64<cLine):di X (compareOp .Lt) (rM X.K (uW (fun i j=>decide (i<j)) HT.lexLt)):=by
 intro pins s σ H x y v u Q I rx ry h;obtain⟨Z,m1,m2,m,za,h1,h2,e,q⟩:=h;unfold uW at e
 split at e
 ·cases e
  obtain rfl:=h1.int; obtain rfl:=h2.int;exact op_lt pins s σ H _ _ v u Q I rx ry ⟨_,_,rfl,rfl,bZ q za (.bl _)⟩
 ·obtain⟨is,e1,e⟩:=oB e
  obtain⟨js,e2,e⟩:=oB e;cases e;obtain⟨a,xs,rfl,t1,f1⟩:=h1.tup;obtain⟨b,ys,rfl,t2,f2⟩:=h2.tup;rw[bN e1] at f1;rw[bN e2] at f2;rw[f1.cy] at t1;rw[f2.cy] at t2;exact A7 (by lia) pins s σ H _ _ v u Q I rx ry ⟨a,b,is,js,rfl,rfl,t1,t2,bZ q za (.bl _)⟩
 ·cases e
theorem ov_ge (hu:X.A.units+64<cLine):di X (compareOp .GtE) (rM X.K (uW (fun i j=>decide (j<=i)) fun a b => !HT.lexLt a b)):=by
 intro pins s σ H x y v u Q I rx ry h;obtain⟨Z,m1,m2,m,za,h1,h2,e,q⟩:=h;unfold uW at e
 split at e
 ·cases e
  obtain rfl:=h1.int; obtain rfl:=h2.int;exact op_ge pins s σ H _ _ v u Q I rx ry ⟨_,_,rfl,rfl,bZ q za (.bl _)⟩
 ·obtain⟨is,e1,e⟩:=oB e
  obtain⟨js,e2,e⟩:=oB e;cases e;obtain⟨a,xs,rfl,t1,f1⟩:=h1.tup;obtain⟨b,ys,rfl,t2,f2⟩:=h2.tup;rw[bN e1] at f1;rw[bN e2] at f2;rw[f1.cy] at t1;rw[f2.cy] at t2;exact Bw (by lia) pins s σ H _ _ v u Q I rx ry ⟨a,b,is,js,rfl,rfl,t1,t2,bZ q za (.bl _)⟩
 ·cases e
noncomputable def wZ:=jW (fun _ _=>true) fun i j=>.bool (decide (j<i))
noncomputable def CU:=uW (fun i j=>decide (i<j)) HT.lexLt
noncomputable def C4:=uW (fun i j=>decide (j<=i)) fun a b => !HT.lexLt a b
theorem qv:di X (compareOp .Gt) (rM X.K wZ):=tL op_gt fun _ _ _ _=>.bl _
noncomputable def isNone:M->Bool
 | .v .none=>true
 | _=>false
theorem Ro.isNone {K:PySem.W.Frag} {H:Hp} {Z:Zs} {x:V} {m:M} (h:Ro K H Z x m):decide (x=.non)=VL.isNone m:=by
 obtain⟨G,h⟩:=h;cases h with
 | v f=>cases f <;> rfl
 | lst _ _=>rfl
 | bL _ _=>rfl
 | bG _ _=>rfl
noncomputable def uX (neg:Bool):M->M->Option M
 | m,.v .none=>some (.v (.bool (if neg then !isNone m else isNone m)))
 | .v (.bool a),.v (.bool b)=>if neg then some (.v (.bool (!(a == b)))) else none
 | _,_=>none
theorem Ak:di X (compareOp .Is) (rM X.K (uX false)):=by
 intro pins s σ H x y v u Q I rx ry h;obtain⟨Z,m1,m2,m,za,h1,h2,e,q⟩:=h;unfold uX at e
 split at e
 ·cases e
  obtain rfl:=h2.fz.tH;exact AZ pins s σ H _ _ v u Q I rx ry ⟨rfl,by rw[h1.isNone]; exact bZ q za (.bl _)⟩
 ·cases e
 ·cases e
noncomputable def okIn (ds:List PyData) (e:PyData):Bool:=PyData.canLayAll0 ds && e.canLay0 && decide (e.depth<=50)
noncomputable def CA (neg:Bool) (m1 m2:M):Option M:=(BL m1).bind fun e=>(seq m2).bind fun ds=>if okIn ds e=true then some (.v (.bool (if neg then !(ds.any fun d=>PyData.eqv d e) else ds.any fun d=>PyData.eqv d e))) else none
theorem nM (neg:Bool) (hu:X.A.units+64<cLine) {pins:List (Addr×Obj)} {s:Shared} {σ:L2.St} {H:Hp} {x y:V} {v u:Value} {Q:VK} (I:Inv X pins σ H s) (rx:RelV x v) (ry:RelV y u) (h:rM X.K (CA neg) x y H Q) :
  ∃ (p:Addr) (its:List Value) (g:Value->Bool) (b:Bool),u=.ref p/\(PlainL s.heap p its.toArray\/s.heap.IsTuple p its.toArray)/\(∀y,y∈its.toArray->SeqAt.EqAt X.A.in1 s y v (g y))/\its.toArray.any g=b/\EP X pins σ Q (.bool (if neg then !b else b)) s:=by
 obtain⟨Z,m1,m2,m,za,h1,h2,e,q⟩:=h;obtain⟨d,e1,e⟩:=oB e;obtain⟨ds,e2,e⟩:=oB e
 split at e
 ·next ok =>
  cases e;unfold okIn at ok;simp only[Bool.and_eq_true,decide_eq_true_eq] at ok;obtain⟨bs,re⟩:=h1.reads I e1 ok.1.2 rx;obtain⟨a,xs,rfl,hq,f⟩:=h2.seq e2;cases ry;have fin:EP X pins σ Q (.bool (if neg then !(ds.any fun d'=>PyData.eqv d' d) else ds.any fun d'=>PyData.eqv d' d)) s:=⟨.bl _,H,I,rfl,bZ q za (.bl _)⟩
  rcases hq with hq | hq
  ·obtain⟨its,r,pl,hz⟩:=I.list hq
   obtain⟨as,ra⟩:=f.reads I ok.1.1 r;refine⟨a,its,yr s.heap d,_,rfl,.inl pl,wM (pins:=pins) (σ:=σ) (H:=H) hu ra re ok.1.1 ok.1.2 ok.2,rfl,?_⟩;rw[show its.toArray.any (yr s.heap d)=its.any (yr s.heap d) by simp,oY ra ok.1.1]
   exact fin
  ·obtain⟨its,r,pl,hz⟩:=I.tuple hq
   obtain⟨as,ra⟩:=f.reads I ok.1.1 r;refine⟨a,its,yr s.heap d,_,rfl,.inr pl,wM (pins:=pins) (σ:=σ) (H:=H) hu ra re ok.1.1 ok.1.2 ok.2,rfl,?_⟩;rw[show its.toArray.any (yr s.heap d)=its.any (yr s.heap d) by simp,oY ra ok.1.1]
   exact fin
 ·cases e
theorem Al (hu:X.A.units+64<cLine):di X (compareOp .In) (rM X.K (CA false)):=by
 intro pins s σ H x y v u Q I rx ry h;obtain⟨p,its,g,b,rfl,hq,hg,e,fin⟩:=nM false hu I rx ry h;subst e;rcases hq with hq | hq
 ·exact SeqAt.in_listAt g hq.isList hg fin
 ·exact SeqAt.in_tupleAt g hq hg fin
theorem w4 (hu:X.A.units+64<cLine):di X (compareOp .NotIn) (rM X.K (CA true)):=by
 intro pins s σ H x y v u Q I rx ry h;obtain⟨p,its,g,b,rfl,hq,hg,e,fin⟩:=nM true hu I rx ry h;subst e;rcases hq with hq | hq
 ·exact SeqAt.notIn_listAt g hq.isList hg fin
 ·exact SeqAt.notIn_tupleAt g hq hg fin
end
noncomputable def toD:M->PyData
 | .v d=>d
 | .lst ds=>.list ds
 | .bL kvs=>.dict (kvs.map fun p=>(keyP p.1,p.2))
 | .bG kvs=>.dict ((kvs.map fun p=>(p.1,PyData.list p.2)).map fun p=>(keyP p.1,p.2))
noncomputable def cA:dJ->Ev->Option (PyData×Ev)
 | .t m,ρ=>some (toD m,ρ)
 | .p i,ρ=>(cS ρ i).bind fun m=>some (toD m,ρ.set i (some (.v (toD m))))
 | .q i k,ρ=>match cS ρ i with
  | some (.bG kvs)=>(cN kvs k).bind fun ds=>some (.list ds,ρ.set i (some (.bL (kvs.map fun p=>(p.1,PyData.list p.2)))))
  | _=>none
noncomputable def dH:List dJ->Ev->Option (List PyData×Ev)
 | [],ρ=>some ([],ρ)
 | o::os,ρ=>(cA o ρ).bind fun p=>(dH os p.2).bind fun q=>some (p.1::q.1,q.2)
section
variable {K:PySem.W.Frag} {H H0:Hp} {Z Z0:Zs} {F F0 G R:List Addr} {σ:L2.St} {ρ ρ':Ev} {x:V} {o:dJ} {d:PyData}
theorem aL.more {G:List Addr}:aL H Z H (fun a=>Z a\/a∈G):=⟨dI.refl,fun _ _ _ e=>e,fun _ z=>.inl z⟩
theorem fK.fz {Z':Zs} (g:aL H Z H Z'):∀ {kxs:List (Key×V)} {kvs:List (Key×List PyData)} {G:List Addr},fK K H Z kxs kvs G->(∀a∈G,Z' a)->iE K H Z' kxs (kvs.map fun p=>(p.1,PyData.list p.2))
 | _,_,_,.nil,_=>.nil
 | _,_,_,.cons e f r,h=>.cons (.lst (.inl e) (h _ lS) (f.mono g)) (fK.fz g r fun a z=>h a (lO _ z))
theorem Ow.fz {m:M} {Z':Zs} (g:aL H Z H Z') (h:Ow K H Z x m G) (hz:∀a∈G,Z' a):Fz K H Z' x (toD m):=by
 cases h with
 | v f=>exact f.mono g
 | lst e f=>exact .lst (.inl e) (hz _ lS) (f.mono g)
 | bL e f=>exact .bL e (hz _ lS) (f.mono g)
 | bG e f=>exact .bL e (hz _ lS) (f.fz g fun a z=>hz a (lO _ z))
theorem aI.give {A:List Addr} (f:aI H0 Z0 F0 H Z A) (hF:F.Nodup) (hs:∀a∈F,a∈A) (hG:∀a∈G,a∈A) (hd:∀a∈F,a∉G) (al:∀a∈G,H a≠none):aI H0 Z0 F0 H (fun a=>Z a\/a∈G) F:=by
 refine⟨f.keep,f.tups,fun a z=>.inl (f.zs a z),fun a z => ?_,fun a h=>f.fr a (hs a h),hF,fun a h z => ?_,fun a z => ?_⟩
 ·rcases z with z | z
  ·exact f.zn a z
  ·exact .inr (f.fr a (hG a z))
 ·rcases z with z | z
  ·exact f.dz a (hs a h) z
  ·exact hd a h z
 ·rcases z with z | z
  ·exact f.za a z
  ·exact al a z
theorem CV {A B C:List Addr} (h:(A++B++C).Nodup):A.Nodup/\B.Nodup/\C.Nodup/\(∀a∈A,a∉B)/\(∀a∈A,a∉C)/\∀a∈B,a∉C:=by
 have h1:=List.nodup_append.mp h;have h2:=List.nodup_append.mp h1.1;exact⟨h2.1,h2.2.1,h1.2.1,fun a x y=>h2.2.2 a x a y rfl,fun a x y=>h1.2.2 a (lL _ x) a y rfl,fun a x y=>h1.2.2 a (lR _ x) a y rfl⟩
theorem aJ {A B:List Addr} (h1:A.Nodup) (h2:B.Nodup) (h:∀a∈A,a∉B):(A++B).Nodup:=List.nodup_append.mpr ⟨h1,h2,fun a x b y e=>h a x (e▸y)⟩
theorem freeze (S:aP K H Z σ ρ F) (h:mU K H Z σ x o G) (f:aI H0 Z0 F0 H Z (F++G++R)) (e:cA o ρ=some (d,ρ')):∃Z' F',aP K H Z' σ ρ' F'/\Fz K H Z' x d/\aI H0 Z0 F0 H Z' (F'++R)/\aL H Z H Z':=by
  obtain⟨n1,n2,n3,s1,s2,s3⟩:=CV f.nd;cases h with
  | t q =>
    cases e;refine⟨fun a=>Z a\/a∈G,F,S.mono aL.more fun _ _ _ e=>e,q.fz aL.more fun a h=>.inr h,f.give (aJ n1 n3 s2) (fun a h => ?_) (fun a h => ?_) (fun a h z => ?_) q.al,aL.more⟩
    · rcases lM h with h | h
      · exact lL _ (lL _ h)
      · exact lR _ h
    · exact lL _ (lR _ h)
    · rcases lM h with h | h
      · exact s1 a h z
      · exact s3 a z h
  | p q =>
    rename_i i
    obtain⟨m,e1,e⟩:=oB e;cases e;obtain⟨x',G',F1,h1,h2,h3,h4,h5⟩:=S.take n1 (aG.mp e1);rw[q] at h1; cases h1;have hl:=(List.getElem?_eq_some_iff.mp (aG.mp e1)).1;have k4:=List.nodup_append.mp h4;have fz:=h2.fz (aL.more (G:=G')) fun a h=>.inr h
    obtain⟨F2,p1,p2,p3⟩:=(h3.mono (aL.more (G:=G')) fun _ _ _ e=>e).put (i:=i) (Ow.v fz) (by rw[List.append_nil]; exact k4.1) (by rw[List.getElem?_set_self hl])
    rw[List.append_nil] at p3;rw[List.set_set] at p1;have es:σ.set i (some x)=σ:=by
      refine List.ext_getElem? fun j => ?_
      rw[List.getElem?_set]
      split
      · next hj=>subst hj; split
                 · exact q.symm
                 · next hh=>exact absurd (List.getElem?_eq_some_iff.mp q).1 hh
      · rfl
    rw[es] at p1;refine⟨_,F2,p1,fz,f.give (aJ p2 n3 fun a h=>s2 a (h5 a (lL _ (p3 a h)))) (fun a h => ?_) (fun a h => ?_) (fun a h z => ?_) h2.al,aL.more⟩
    · rcases lM h with h | h
      · exact lL _ (lL _ (h5 a (lL _ (p3 a h))))
      · exact lR _ h
    · exact lL _ (lL _ (h5 a (lR _ h)))
    · rcases lM h with h | h
      · exact k4.2.2 a (p3 a h) a z rfl
      · exact s2 a (h5 a (lR _ z)) h
  | q q1 q2 q3 =>
    rename_i i k a0 kxs
    have e:(match cS ρ i with
      | some (.bG kvs)=>(cN kvs k).bind fun ds=>some (PyData.list ds,ρ.set i (some (M.bL (kvs.map fun p=>(p.1,PyData.list p.2)))))
      | _=>none)=some (d,ρ'):=e
    split at e
    · next kvs hk =>
      obtain⟨ds,e1,e⟩:=oB e;cases e;obtain⟨x',G',F1,h1,h2,h3,h4,h5⟩:=S.take n1 (aG.mp hk);rw[q1] at h1; cases h1;have hl:=(List.getElem?_eq_some_iff.mp (aG.mp hk)).1;cases h2 with
      | bG e2 ol =>
        rename_i kxs' Gl
        rw[q2] at e2; cases e2;have k4:=List.nodup_append.mp h4;have k5:=List.nodup_cons.mp k4.2.1;have ow:Ow K H (fun a=>Z a\/a∈Gl) (.ref a0) (.bL (kvs.map fun p=>(p.1,PyData.list p.2))) [a0]:=.bL q2 (ol.fz aL.more fun a h=>.inr h)
        obtain⟨b,xs,z1,z2,z3,z4⟩:=ol.get e1;rw[q3] at z1; cases z1;obtain⟨F2,p1,p2,p3⟩:=(h3.mono (aL.more (G:=Gl)) fun _ _ _ e=>e).put (i:=i) ow (aJ k4.1 (List.nodup_cons.mpr ⟨List.not_mem_nil,List.nodup_nil⟩) fun a h z=>k4.2.2 a h a0 lS (List.mem_singleton.mp z)) (by rw[List.getElem?_set_self hl])
        rw[List.set_set] at p1;have es:σ.set i (some (V.ref a0))=σ:=by
          refine List.ext_getElem? fun j => ?_
          rw[List.getElem?_set]
          split
          · next hj=>subst hj; split
                     · exact q1.symm
                     · next hh=>exact absurd (List.getElem?_eq_some_iff.mp q1).1 hh
          · rfl
        rw[es] at p1;have inF:∀a∈F2,a∈F:=fun a h=>by
          rcases lM (p3 a h) with h | h
          · exact h5 a (lL _ h)
          · exact h5 a (lR _ (by rw[List.mem_singleton.mp h]; exact lS))
        refine⟨_,F2,p1,.lst (.inl z2) (.inr z4) (z3.mono aL.more),f.give (aJ p2 n3 fun a h=>s2 a (inF a h)) (fun a h => ?_) (fun a h => ?_) (fun a h z => ?_) (fun a h e => ?_),aL.more⟩
        · rcases lM h with h | h
          · exact lL _ (lL _ (inF a h))
          · exact lR _ h
        · exact lL _ (lL _ (h5 a (lR _ (lO _ h))))
        · rcases lM h with h | h
          · rcases lM (p3 a h) with h | h
            · exact k4.2.2 a h a (lO _ z) rfl
            · rw[List.mem_singleton.mp h] at z; exact k5.1 z
          · exact s2 a (h5 a (lR _ (lO _ z))) h
        · obtain⟨_,z',_⟩:=ol.mem a h; rw[z'] at e; cases e
    · cases e
theorem mU.tO {Z':Zs} (g:aL H Z H Z') (h:mU K H Z σ x o G):mU K H Z' σ x o G:=by
 cases h with
 | t q=>exact .t (q.mono g fun _ _ _ e=>e)
 | p q=>exact .p q
 | q a b c=>exact .q a b c
theorem iF.tO {Z Z':Zs} (g:aL H Z H Z'):∀ {os:List dJ} {xs:List V} {G:List Addr},iF K H Z σ xs os G->iF K H Z' σ xs os G
 | _,_,_,.nil=>.nil
 | _,_,_,.cons h r=>.cons (h.tO g) (iF.tO g r)
theorem o6:∀ {os:List dJ} {xs:List V} {ds:List PyData} {Z:Zs} {ρ ρ':Ev} {F G:List Addr},aP K H Z σ ρ F->iF K H Z σ xs os G->aI H0 Z0 F0 H Z (F++G)->dH os ρ=some (ds,ρ')->∃Z' F',aP K H Z' σ ρ' F'/\br K H Z' xs ds/\aI H0 Z0 F0 H Z' F'/\aL H Z H Z'
 | _,_,_,_,_,_,_,_,S,.nil,f,e=>by cases e; exact⟨_,_,S,.nil,(by rw[List.append_nil] at f; exact f),aL.refl⟩
 | _,_,_,_,_,_,_,_,S,.cons (os:=os) h r,f,e=>by
  obtain⟨⟨d,ρ1⟩,e1,e⟩:=oB e;obtain⟨⟨ds,ρ2⟩,e2,e⟩:=oB e;cases e;obtain⟨Z1,F1,S1,z1,f1,g1⟩:=freeze S h f.assoc' e1;obtain⟨Z2,F2,S2,z2,f2,g2⟩:=o6 S1 (r.tO g1) f1 e2;exact⟨Z2,F2,S2,.cons (z1.mono g2) z2,f2,g1.trans g2⟩
theorem gW (S:aP K H Z σ ρ F) (h:mU K H Z σ x o G) (f:aI H0 Z0 F0 H Z (F++G)) (e:cA o ρ=some (d,ρ')):∃Z' F',aP K H Z' σ ρ' F'/\Fz K H Z' x d/\aI H0 Z0 F0 H Z' F'/\aL H Z H Z':=by
 obtain⟨Z',F',h1,h2,h3,h4⟩:=freeze (R:=[]) S h (by rw[List.append_nil]; exact f) e
 rw[List.append_nil] at h3;exact⟨Z',F',h1,h2,h3,h4⟩
end
section
variable {X:Cx} {pos:Pos}
noncomputable def cG (fa:FA):FE:=fun ρ=>(fa ρ).bind fun p=>(dH p.1 p.2).bind fun q=>if q.1.length<=lim then some (.t (.v (.tuple q.1)),q.2) else none
noncomputable def eO (fa:FA):FE:=fun ρ=>(fa ρ).bind fun p=>(dH p.1 p.2).bind fun q=>if q.1.length<=lim then some (.t (.lst q.1),q.2) else none
theorem BN {es:List Expr} {k:Nat} {fa:FA} (h:VA X es fa):VE X (.Tuple es k pos) (cG fa):=aW (A1 h) fun σ H Q hq=>by
 obtain⟨Z,ρ,F,o,ρ',S,w,e,q⟩:=hq;obtain⟨⟨os,ρ1⟩,e1,e⟩:=oB e;obtain⟨⟨ds,ρ2⟩,e2,e⟩:=oB e
 split at e
 ·next hl =>
  cases e;refine⟨Z,ρ,F,os,ρ1,S,w,e1,fun xs H1 Z1 F1 G1 S1 O1 f1 => ?_⟩
  obtain⟨Z2,F2,S2,z2,f2,g2⟩:=o6 S1 O1 f1 e2;refine⟨fZ (by rw[z2.length]; exact hl),fun p hp => ?_⟩
  have n:=aI.same (dc hp (.tup xs)) f2.za;exact q (.ref p) _ Z2 F2 [] (S2.news n) (.t (.v (.tup (cK.of aK) (z2.mono n.wU)))) (f2.trans (n.news f2.wf S2.al))
 ·cases e
theorem BO {es:List Expr} {fa:FA} (h:VA X es fa):VE X (.List es pos) (eO fa):=aW (A3 h) fun σ H Q hq=>by
 obtain⟨Z,ρ,F,o,ρ',S,w,e,q⟩:=hq;obtain⟨⟨os,ρ1⟩,e1,e⟩:=oB e;obtain⟨⟨ds,ρ2⟩,e2,e⟩:=oB e
 split at e
 ·next hl =>
  cases e;refine⟨Z,ρ,F,os,ρ1,S,w,e1,fun xs H1 Z1 F1 G1 S1 O1 f1 => ?_⟩
  obtain⟨Z2,F2,S2,z2,f2,g2⟩:=o6 S1 O1 f1 e2;refine⟨fZ (by rw[z2.length]; exact hl),fun p hp => ?_⟩
  have n:=aI.newl (o:=.lst xs) hp f2.za;exact q (.ref p) _ Z2 F2 [p] (S2.news n) (.t (.lst aK (z2.mono n.wU))) (f2.trans (n.news f2.wf S2.al))
 ·cases e
noncomputable def g9:PyData->Option Key
 | .int i=>some (.inl i)
 | .str s=>some (.inr s)
 | _=>none
noncomputable def getM:M->M->Option M
 | .bL kvs,.v k=>(g9 k).bind fun k=>(cN kvs k).bind fun d=>some (.v d)
 | .v (.str z),.v (.int i)=>if z.length<=lim then (kD z.cps.toList i).bind fun c=>some (.v (.str ⟨#[c]⟩)) else none
 | m,.v (.int i)=>(seq m).bind fun ds=>(kD ds i).bind fun d=>some (.v d)
 | _,_=>none
noncomputable def C5:dJ->M->Ev->Option (dJ×Ev)
 | .t m1,m2,ρ=>(getM m1 m2).bind fun m=>some (.t m,ρ)
 | .p i,m2,ρ=>(cS ρ i).bind fun m1=>match m1,m2 with
  | .bG kvs,.v k=>(g9 k).bind fun k=>(cN kvs k).bind fun _=>some (.q i k,ρ)
  | m1,m2=>(getM m1 m2).bind fun m=>some (.t m,ρ)
 | .q _ _,_,_=>none
noncomputable def iI (fa fb:FE):FE:=fun ρ=>(fa ρ).bind fun p=>(fb p.2).bind fun q=>(peek q.2 q.1).bind fun m2=>C5 p.1 m2 q.2
theorem o8 {K:PySem.W.Frag} {H:Hp} {Z:Zs}:∀ {kxs:List (Key×V)} {kvs:List (Key×PyData)} {k:Key},iE K H Z kxs kvs->(cN kvs k=none->fE kxs k=none)/\∀d,cN kvs k=some d->∃x,fE kxs k=some x/\Fz K H Z x d
 | _,_,_,.nil=>⟨fun _=>rfl,fun _ e=>(nomatch e)⟩
 | _,_,k,.cons (k:=k') (xs:=kxs) (ds:=kvs) h r=>by
  have ih:=o8 (k:=k) r;unfold cN;rw[List.find?_cons]
  by_cases hk:k'=k
  ·subst hk
   simp only[decide_true,Option.map_some];rw[dP rfl];exact⟨fun e=>(nomatch e),fun d e=>⟨_,rfl,by cases e; exact h⟩⟩
  ·simp only[hk,decide_false]
   rw[dQ hk];exact ih
theorem gb {K:PySem.W.Frag} {H:Hp} {Z:Zs} {x:V} {d:PyData} {k:Key} (h:Fz K H Z x d) (e:g9 d=some k):x=kV k:=by
 cases h <;> cases e <;> rfl
theorem BP {K:PySem.W.Frag} {H:Hp} {Z:Zs} {xs:List V} {ds:List PyData} {i:Int} {d:PyData} (r:br K H Z xs ds) (e:kD ds i=some d):∃x,kD xs i=some x/\Fz K H Z x d:=by
 unfold kD at e ⊢;rw[r.length];obtain⟨j,e1,e2⟩:=oB e;obtain⟨x,h1,h2⟩:=r.get' e2;exact⟨x,by rw[e1,Option.bind_some]; exact h1,h2⟩
theorem ve_ix {a b:Expr} {fa fb:FE} (hu:X.A.units+64<cLine) (ha:VE X a fa) (hb:VE X b fb) (hs:oE b):VE X (.Subscript a b pos) (iI fa fb):=by
 refine aW (kT (pe_ix Ba ha hb hs) (sZ (by lia) ha hb hs)) fun σ H Q hq => ?_
 obtain⟨Z,ρ,F,o,ρ',S,w,e,q⟩:=hq;obtain⟨⟨o1,ρ1⟩,e1,e⟩:=oB e;obtain⟨⟨o2,ρ2⟩,e2,e⟩:=oB e;obtain⟨m2,e3,e⟩:=oB e;have gen:∀m1 m,jf ρ2 o1=some m1->getM m1 m2=some m->o=.t m->ρ'=ρ2->Ag (Dy X.K) (vE X.K fa) (vE X.K fb) σ H Q\/wg (vE X.K fa) (vE X.K fb) σ H Q:=fun m1 m e4 e5 eo er=>by
  subst eo; subst er;have two':∀R:V->V->Hp->Prop,(∀H2 Z2 x y,(∀a,Z2 a->H2 a≠none)->Ro X.K H2 Z2 x m1->Ro X.K H2 Z2 y m2->(∀z H3 Z3 G,Ow X.K H3 Z3 z m G->aI H2 Z2 [] H3 Z3 G->Q z H3)->R x y H2) ->
    vE X.K fa σ H fun x H1=>vE X.K fb σ H1 fun y H2=>R x y H2:=fun R hR=>by
   refine⟨Z,ρ,F,o1,ρ1,S,w,e1,fun x H1 Z1 F1 G1 S1 O1 f1=>⟨Z1,ρ1,F1,o2,ρ',S1,f1.left.wf,e2,fun y H2 Z2 F2 G2 S2 O2 f2 => ?_⟩⟩
   have O1':=O1.mono (cZ e4) (f2.grow f1.left.wf) (f1.qt f2);exact hR H2 Z2 x y f2.za (O1'.peek S2 (cY e4)) (O2.peek S2 e3) fun z H3 Z3 G h3 n=>q z H3 Z3 F2 G (S2.news n) (.t h3) ((f1.left.trans f2.left).trans (n.news f2.left.wf S2.al))
  clear q e e3
  unfold getM at e5
  split at e5
  ·rename_i kvs k
   obtain⟨k',e6,e5⟩:=oB e5;obtain⟨d,e7,e5⟩:=oB e5;cases e5;refine .inr (two' _ fun H2 Z2 x y za h1 h2 fin => ?_)
   obtain⟨a',kxs,rfl,he,fk⟩:=h1.bL;obtain⟨v,hv,fv⟩:=(o8 fk).2 d e7;obtain rfl:=gb h2.fz e6;exact⟨a',v,rfl,hv▸iC.k he,bZ fin za fv⟩
  ·rename_i z i
   split at e5
   ·rename_i hl
    obtain⟨c,e7,e5⟩:=oB e5;cases e5;refine .inl (two' _ fun H2 Z2 x y za h1 h2 fin => ?_)
    obtain rfl:=h1.str;obtain rfl:=h2.int;exact .inr (.inr ⟨_,_,c,rfl,rfl,fZ hl,e7,bZ fin za (.str _)⟩)
   ·cases e5
  ·obtain⟨ds,e6,e5⟩:=oB e5
   obtain⟨d,e7,e5⟩:=oB e5;cases e5;refine .inl (two' _ fun H2 Z2 x y za h1 h2 fin => ?_)
   obtain⟨a',xs,rfl,hq,fs⟩:=h1.seq e6;obtain rfl:=h2.int;obtain⟨v,hv,fv⟩:=BP fs e7;rcases hq with hq | hq
   ·exact .inl ⟨a',xs,_,v,rfl,rfl,hq,hv,bZ fin za fv⟩
   ·exact .inr (.inl ⟨a',xs,_,v,rfl,rfl,hq,hv,bZ fin za fv⟩)
  ·cases e5
 cases o1 with
 | t m1 =>
  obtain⟨m,e5,e⟩:=oB e
  injection e with e
  injection e with ea eb
  exact gen m1 m rfl e5 ea.symm eb.symm
 | q _ _=>cases e
 | p i =>
  obtain⟨m1,e4,e⟩:=oB e
  split at e
  ·rename_i kvs k
   obtain⟨k',e6,e⟩:=oB e;obtain⟨ds,e7,e⟩:=oB e
   injection e with e
   injection e with ea eb
   subst ea; subst eb;refine .inr ⟨Z,ρ,F,.p i,ρ1,S,w,e1,fun x H1 Z1 F1 G1 S1 O1 f1=>⟨Z1,ρ1,F1,o2,_,S1,f1.left.wf,e2,fun y H2 Z2 F2 G2 S2 O2 f2 => ?_⟩⟩
   cases O1 with
   | p hx =>
    obtain⟨x',G',h1,h2,_⟩:=S2.get (aG.mp e4);rw[hx] at h1; cases h1;cases h2 with
    | bG he ol =>
     obtain⟨b,xs,z1,z2,z3,z4⟩:=ol.get e7;have O2':=O2.peek S2 e3;obtain rfl:=gb O2'.fz e6;exact⟨_,.ref b,rfl,z1▸iC.k he,q (.ref b) H2 Z2 F2 [] S2 (.q hx he z1) (f1.left.trans f2.left).nil⟩
  ·obtain⟨m,e5,e⟩:=oB e
   injection e with e
   injection e with ea eb
   exact gen _ m e4 e5 ea.symm eb.symm
end
section
variable {X:Cx} {pos:Pos}
theorem tP {fa fb:FE} {g:M->M->Option M} {σ:L2.St} {H:Hp} {Q:VK} (hq:vE X.K (vB g fa fb) σ H Q) :
  ∃m1 m2 m,g m1 m2=some m/\∀R:V->V->Hp->Prop,(∀H2 Z2 x y,(∀a,Z2 a->H2 a≠none)->Ro X.K H2 Z2 x m1->Ro X.K H2 Z2 y m2->(∀z H3 Z3 G,Ow X.K H3 Z3 z m G->aI H2 Z2 [] H3 Z3 G->Q z H3)->R x y H2) ->
   vE X.K fa σ H fun x H1=>vE X.K fb σ H1 fun y H2=>R x y H2:=by
 obtain⟨Z,ρ,F,o,ρ',S,w,e,q⟩:=hq;obtain⟨⟨o1,ρ1⟩,e1,e⟩:=oB e;obtain⟨⟨o2,ρ2⟩,e2,e⟩:=oB e;obtain⟨m1,e3,e⟩:=oB e;obtain⟨m2,e4,e⟩:=oB e;obtain⟨m,e5,e⟩:=oB e;cases e;refine⟨m1,m2,m,e5,fun R hR=>⟨Z,ρ,F,o1,ρ1,S,w,e1,fun x H1 Z1 F1 G1 S1 O1 f1=>⟨Z1,ρ1,F1,o2,ρ2,S1,f1.left.wf,e2,fun y H2 Z2 F2 G2 S2 O2 f2 => ?_⟩⟩⟩
 have O1':=O1.mono (cZ e3) (f2.grow f1.left.wf) (f1.qt f2);exact hR H2 Z2 x y f2.za (O1'.peek S2 (cY e3)) (O2.peek S2 e4) fun z H3 Z3 G h3 n=>q z H3 Z3 F2 G (S2.news n) (.t h3) ((f1.left.trans f2.left).trans (n.news f2.left.wf S2.al))
noncomputable def lg (neg:Bool):M->M->Option M
 | .v k,.bL kvs=>(g9 k).bind fun k=>some (.v (.bool (if neg then !(cN kvs k).isSome else (cN kvs k).isSome)))
 | .v k,.bG kvs=>(g9 k).bind fun k=>some (.v (.bool (if neg then !(cN kvs k).isSome else (cN kvs k).isSome)))
 | .v (.str i),.v (.str j)=>some (.v (.bool (if neg then !(!(Builtin.Str.occurrences j i 0 j.length 1).isEmpty) else !(Builtin.Str.occurrences j i 0 j.length 1).isEmpty)))
 | m1,m2=>CA neg m1 m2
theorem qw {K:PySem.W.Frag} {H:Hp} {Z:Zs}:∀ {kxs:List (Key×V)} {kvs:List (Key×List PyData)} {G:List Addr} {k:Key},fK K H Z kxs kvs G->(fE kxs k).isSome=(cN kvs k).isSome
 | _,_,_,_,.nil=>rfl
 | _,_,_,k,.cons (k:=k') h f r=>by
  have ih:=qw (k:=k) r;unfold cN;rw[List.find?_cons]
  by_cases hk:k'=k
  ·subst hk
   simp only[decide_true,Option.map_some];rw[dP rfl];rfl
  ·simp only[hk,decide_false]
   rw[dQ hk];exact ih
theorem uY {K:PySem.W.Frag} {H:Hp} {Z:Zs} {kxs:List (Key×V)} {kvs:List (Key×PyData)} {k:Key} (h:iE K H Z kxs kvs):(fE kxs k).isSome=(cN kvs k).isSome:=by
 obtain⟨h1,h2⟩:=o8 (k:=k) h;cases e:cN kvs k with
 | none=>rw[h1 e]; rfl
 | some d=>obtain⟨x,h3,_⟩:=h2 d e; rw[h3]; rfl
theorem w5 {neg:Bool} {fa fb:FE} {σ:L2.St} {H:Hp} {Q:VK} {rs:R2} (hrs:rs=fun x y H Q=>∃i j,x=.str i/\y=.str j/\Q (.bl (if neg then !(!(Builtin.Str.occurrences j i 0 j.length 1).isEmpty) else !(Builtin.Str.occurrences j i 0 j.length 1).isEmpty)) H) (hq:vE X.K (vB (lg neg) fa fb) σ H Q) :
  (Ag (rM X.K (CA neg)) (vE X.K fa) (vE X.K fb) σ H Q\/Ag rs (vE X.K fa) (vE X.K fb) σ H Q)\/(fun σ H Q=>vE X.K fa σ H fun y H1=>vE X.K fb σ H1 fun x H2=>∃a o,x=.ref a/\iC H2 a y o/\Q (.bl (if neg then !o.isSome else o.isSome)) H2:TE) σ H Q:=by
 obtain⟨m1,m2,m,e,h⟩:=tP hq;unfold lg at e
 split at e
 ·obtain⟨k,e1,e⟩:=oB e
  cases e;refine .inr (h _ fun H2 Z2 x y za h1 h2 fin => ?_)
  obtain⟨a,kxs,rfl,he,fk⟩:=h2.bL;obtain rfl:=gb h1.fz e1;refine⟨a,_,rfl,iC.k he,?_⟩;rw[uY fk];exact bZ fin za (.bl _)
 ·obtain⟨k,e1,e⟩:=oB e
  cases e;refine .inr (h _ fun H2 Z2 x y za h1 h2 fin => ?_)
  obtain⟨a,kxs,G,rfl,he,fk⟩:=h2.bG;obtain rfl:=gb h1.fz e1;refine⟨a,_,rfl,iC.k he,?_⟩;rw[qw fk];exact bZ fin za (.bl _)
 ·cases e
  refine .inl (.inr (h _ fun H2 Z2 x y za h1 h2 fin => ?_))
  obtain rfl:=h1.str; obtain rfl:=h2.str;rw[hrs];exact⟨_,_,rfl,rfl,bZ fin za (.bl _)⟩
 ·exact .inl (.inl (h _ fun H2 Z2 x y za h1 h2 fin=>⟨Z2,_,_,_,za,h1,h2,e,fin⟩))
theorem ve_in {a b:Expr} {fa fb:FE} (hu:X.A.units+64<cLine) (ha:VE X a fa) (hb:VE X b fb) (hm:behindInMarks .In b=false:=by rfl):VE X (.Compare a [.In] [b] pos) (vB (lg false) fa fb) :=
 aW (kT (kT (iU (Al hu) ha hb hm) (iU nj ha hb hm)) (vK (wk (by lia) ha hb) hm)) fun _ _ _ hq=>w5 rfl hq
theorem w6 {a b:Expr} {fa fb:FE} (hu:X.A.units+64<cLine) (ha:VE X a fa) (hb:VE X b fb) (hm:behindInMarks .NotIn b=false:=by rfl):VE X (.Compare a [.NotIn] [b] pos) (vB (lg true) fa fb) :=
 aW (kT (kT (iU (w4 hu) ha hb hm) (iU om ha hb hm)) (vK (uL (by lia) ha hb) hm)) fun _ _ _ hq=>w5 rfl hq
theorem vt_in {a b:Expr} {fa fb:FE} (hu:X.A.units+64<cLine) (ha:VE X a fa) (hb:VE X b fb) (hm:behindInMarks .In b=false:=by rfl):VT X (.Compare a [.In] [b] pos) (cz (vB (lg false) fa fb)) :=
 o4 (wW (wW (oq (Al hu) ha hb hm) (oq nj ha hb hm)) (AG (wk (by lia) ha hb) hm)) fun _ _ _ hq=>w5 rfl (C3 hq)
noncomputable def qx:M->Option Bool
 | .v .none=>some false
 | .v (.bool b)=>some b
 | .v (.int i)=>some (i != 0)
 | .v (.str y)=>if y.length<=lim then some ((y.length:Int) != 0) else none
 | .v (.tuple ds)=>some (!ds.isEmpty)
 | .v (.list ds)=>some (!ds.isEmpty)
 | .lst ds=>some (!ds.isEmpty)
 | .bL kvs=>some (!kvs.isEmpty)
 | .bG kvs=>some (!kvs.isEmpty)
 | _=>none
noncomputable def iJ (f:FE):FT:=fun ρ=>(f ρ).bind fun p=>(peek p.2 p.1).bind fun m=>(qx m).bind fun b=>some (b,p.2)
theorem C6 {α β:Type} {xs:List α} {ys:List β} (h:xs.length=ys.length):(!xs.isEmpty) = !ys.isEmpty:=by
 cases xs <;> cases ys <;> simp_all
theorem Ro.DR {K:PySem.W.Frag} {H:Hp} {Z:Zs} {x:V} {m:M} {b:Bool} (h:Ro K H Z x m) (e:qx m=some b):TruV K x H b:=by
 have seqs:∀ {ds:List PyData},VL.seq m=some ds->some (!ds.isEmpty)=some b->TruV K x H b:=fun {ds} e1 e2=>by
  obtain⟨a,xs,rfl,hq,f⟩:=h.seq e1;cases e2;rcases hq with hq | hq
  ·exact .inl ⟨xs,hq,(C6 f.length).symm⟩
  ·exact .inr (.inl ⟨xs,hq,(C6 f.length).symm⟩)
 cases m with
 | v d =>
  cases d with
  | none=>cases e; obtain rfl:=h.fz.tH; exact rfl
  | bool _=>cases e; obtain rfl:=h.bl; exact rfl
  | int _=>cases e; obtain rfl:=h.int; exact rfl
  | str y =>
   have e:(if y.length<=lim then some ((y.length:Int) != 0) else none)=some b:=e
   split at e
   ·next hl=>cases e; obtain rfl:=h.str; exact⟨fZ hl,rfl⟩
   ·cases e
  | tuple ds=>exact seqs rfl e
  | list ds=>exact seqs rfl e
  | dict _=>cases e
 | lst ds=>exact seqs rfl e
 | bL kvs =>
  cases e;obtain⟨a,kxs,rfl,he,fk⟩:=h.bL;exact .inr (.inr ⟨kxs,he,(C6 fk.length).symm⟩)
 | bG kvs =>
  cases e;obtain⟨a,kxs,G,rfl,he,fk⟩:=h.bG;refine .inr (.inr ⟨kxs,he,(C6 ?_).symm⟩)
  clear he h seqs
  induction fk with
  | nil=>rfl
  | cons _ _ _ ih=>rw[List.length_cons,List.length_cons,ih]
theorem BQ {e:Expr} {f:FE} (h:VE X e f) (he:∀whole,isTrue e X.env whole=(do let v <-whole; standAt e.pos; holding [v] (truthy v)):=by intro _; rfl):VT X e (iJ f):=o4 (vX h he) fun σ H Q hq=>by
 obtain⟨Z,ρ,F,b,ρ',S,w,e,q⟩:=hq;obtain⟨⟨o1,ρ1⟩,e1,e⟩:=oB e;obtain⟨m,e2,e⟩:=oB e;obtain⟨b',e3,e⟩:=oB e;cases e;exact⟨Z,ρ,F,o1,ρ1,S,w,e1,fun x H1 Z1 F1 G1 S1 O1 f1=>⟨_,(O1.peek S1 e2).DR e3,q H1 Z1 F1 S1 f1.left⟩⟩
abbrev FO:=Ev->Option (Option Int×Ev)
noncomputable def vO (K:PySem.W.Frag) (f:FO):TO:=fun σ H Q=>∃Z ρ F o ρ',aP K H Z σ ρ F/\Wf H Z F/\f ρ=some (o,ρ')/\∀H' Z' F',aP K H' Z' σ ρ' F'->aI H Z F H' Z' F'->Q o H'
noncomputable def dZ:FO:=fun ρ=>some (none,ρ)
noncomputable def d7 (f:FE):FO:=fun ρ=>(f ρ).bind fun p=>(peek p.2 p.1).bind fun m=>match m with
 | .v (.int i)=>some (some i,p.2)
 | _=>none
theorem zj:PO X none (vO X.K dZ):=fun pins s σ H Q I hq=>yJ pins s σ H Q I (by
 obtain⟨Z,ρ,F,o,ρ',S,w,e,q⟩:=hq;cases e;exact q H Z F S (aI.refl w))
theorem zk {e:Expr} {f:FE} (h:VE X e f):PO X (some e) (vO X.K (d7 f)):=fun pins s σ H Q I hq=>yK h pins s σ H Q I (by
 obtain⟨Z,ρ,F,o,ρ',S,w,e,q⟩:=hq;obtain⟨⟨o1,ρ1⟩,e1,e⟩:=oB e;obtain⟨m1,e3,e⟩:=oB e;refine⟨Z,ρ,F,o1,ρ1,S,w,e1,fun x H1 Z1 F1 G1 S1 O1 f1 => ?_⟩
 split at e
 ·cases e
  obtain rfl:=(O1.peek S1 e3).int;exact⟨_,rfl,q H1 Z1 F1 S1 f1.left⟩
 ·cases e)
noncomputable def cutD (ds:List PyData) (lo hi:Option Int):List PyData:=(ds.drop (HT.cg ds.length 0 lo)).take (HT.cg ds.length ds.length hi-HT.cg ds.length 0 lo)
theorem rT {K:PySem.W.Frag} {H:Hp} {Z:Zs} {xs:List V} {ds:List PyData} (r:br K H Z xs ds) (lo hi:Option Int):br K H Z (kC xs lo hi) (cutD ds lo hi):=by
 unfold kC cutD;rw[r.length];exact (r.drop _).take _
noncomputable def CB (lo hi:Option Int):M->Option M
 | .v (.tuple ds)=>some (.v (.tuple (cutD ds lo hi)))
 | .lst ds=>some (.lst (cutD ds lo hi))
 | .v (.list ds)=>some (.lst (cutD ds lo hi))
 | _=>none
noncomputable def w9 (fa:FE) (fl fh:FO):FE:=fun ρ=>(fa ρ).bind fun p=>(fl p.2).bind fun l=>(fh l.2).bind fun h=>(jf h.2 p.1).bind fun m=>(CB l.1 h.1 m).bind fun m'=>some (.t m',h.2)
theorem yL.or {r r':V->Option Int->Option Int->Hp->VK->Prop} (h:yL X r) (h':yL X r'):yL X (fun x lo hi H Q=>r x lo hi H Q\/r' x lo hi H Q):=by
 intro pins s σ H x v vl vu lo hi sl Q I rx hs pl pu q;rcases q with q | q
 ·exact h pins s σ H x v vl vu lo hi sl Q I rx hs pl pu q
 ·exact h' pins s σ H x v vl vu lo hi sl Q I rx hs pl pu q
theorem ve_sl {e:Expr} {lo hi:Option Expr} {p2:Pos} {fa:FE} {fl fh:FO} (ha:VE X e fa) (hl:PO X lo (vO X.K fl)) (hh:PO X hi (vO X.K fh)):VE X (.Subscript e (.Slice lo hi none p2) pos) (w9 fa fl fh):=aW (v8 (yL.or ze yQ) ha hl hh) fun σ H Q hq=>by
 obtain⟨Z,ρ,F,o,ρ',S,w,e,q⟩:=hq;obtain⟨⟨o1,ρ1⟩,e1,e⟩:=oB e;obtain⟨⟨l,ρ2⟩,e2,e⟩:=oB e;obtain⟨⟨h,ρ3⟩,e3,e⟩:=oB e;obtain⟨m,e4,e⟩:=oB e;obtain⟨m',e5,e⟩:=oB e;cases e;refine⟨Z,ρ,F,o1,ρ1,S,w,e1,fun x H1 Z1 F1 G1 S1 O1 f1=>⟨Z1,ρ1,F1,l,ρ2,S1,f1.left.wf,e2,fun H2 Z2 F2 S2 f2=>⟨Z2,ρ2,F2,h,ρ3,S2,f2.wf,e3,fun H3 Z3 F3 S3 f3 => ?_⟩⟩⟩
 have f23:=f2.trans f3;have O1':=O1.mono (cZ e4) (f23.grow f1.left.wf) (f1.qt f23);have r:=O1'.peek S3 (cY e4);have fin:∀z H4 Z4 G,Ow X.K H4 Z4 z m' G->aI H3 Z3 [] H4 Z4 G->Q z H4:=fun z H4 Z4 G h4 n=>q z H4 Z4 F3 G (S3.news n) (.t h4) ((f1.left.trans f23).trans (n.news f3.wf S3.al))
 unfold CB at e5
 split at e5
 ·cases e5
  obtain⟨a,xs,rfl,hx,fx⟩:=r.tup;exact .inl ⟨a,xs,rfl,hx,fun r H' s' t=>endS fin f3.za s' (.tup t ((rT fx _ _).mono (aL.same s')))⟩
 ·cases e5
  obtain⟨a,xs,rfl,hx,fx⟩:=r.jV rfl;exact .inr ⟨a,xs,rfl,hx,fun p hp=>qu fin f3.za hp (rT fx _ _)⟩
 ·cases e5
  obtain⟨a,xs,rfl,hx,fx⟩:=r.jV rfl;exact .inr ⟨a,xs,rfl,hx,fun p hp=>qu fin f3.za hp (rT fx _ _)⟩
 ·cases e5
noncomputable def uZ:M->Option M
 | .v (.int i)=>some (.v (.int (-i)))
 | _=>none
theorem BR {a:Expr} {fa:FE} (ha:VE X a fa):VE X (.UnaryOp .USub a pos) (vU uZ fa):=aW (pe_un AY ha) fun σ H Q hq=>one (r:=rU fun i=>.int (-i)) (fun H Z x m1 m Q za h1 e q=>by
 unfold uZ at e
 split at e
 ·cases e
  obtain rfl:=h1.int;exact⟨_,rfl,bZ q za (.int _)⟩
 ·cases e) hq
end
section
variable {α:Type}
noncomputable def ins (lt:α->α->Bool) (x:α):List α->List α
 | []=>[x]
 | y::ys=>if lt y x=true then y::ins lt x ys else x::y::ys
noncomputable def qy (lt:α->α->Bool):List α->List α
 | []=>[]
 | x::xs=>ins lt x (qy lt xs)
theorem lq (lt:α->α->Bool) (x:α):∀ys:List α,(ins lt x ys).Perm (x::ys)
 | []=>.refl _
 | y::ys=>by
  unfold ins
  split
  ·exact ((lq lt x ys).cons y).trans (.swap x y ys)
  ·exact .refl _
theorem d8 (lt:α->α->Bool):∀xs:List α,(qy lt xs).Perm xs
 | []=>.refl _
 | x::xs=>(lq lt x _).trans ((d8 lt xs).cons x)
theorem xg {lt:α->α->Bool} (as:∀a b,lt a b=true->lt b a=false) (tr:∀a b c,lt b a=false->lt c b=false->lt c a=false) (x:α):∀ {ys:List α},ys.Pairwise (fun a b=>lt b a=false)->(ins lt x ys).Pairwise (fun a b=>lt b a=false)
 | [],_=>List.pairwise_singleton _ _
 | y::ys,h=>by
  obtain⟨h1,h2⟩:=List.pairwise_cons.mp h;unfold ins
  split
  ·next e =>
   refine List.pairwise_cons.mpr ⟨fun z hz => ?_,xg as tr x h2⟩
   rcases lK ((lq lt x ys).mem_iff.mp hz) with hz | hz
   ·subst hz; exact as _ _ e
   ·exact h1 z hz
  ·next e =>
   have e:lt y x=false:=by simpa using e
   refine List.pairwise_cons.mpr ⟨fun z hz => ?_,h⟩
   rcases lK hz with hz | hz
   ·subst hz; exact e
   ·exact tr _ _ _ e (h1 z hz)
theorem lu {lt:α->α->Bool} (as:∀a b,lt a b=true->lt b a=false) (tr:∀a b c,lt b a=false->lt c b=false->lt c a=false):∀xs:List α,(qy lt xs).Pairwise (fun a b=>lt b a=false)
 | []=>.nil
 | x::xs=>xg as tr x (lu as tr xs)
end
noncomputable def ltI (a b:Int):Bool:=decide (a<b)
noncomputable def sortI (ns:List Int):List Int:=qy ltI ns
noncomputable def xh (ks:List (List Int)):List (List Int):=qy HT.lexLt ks
theorem iw:∀ (a b:List Int),HT.lexLt a b=false->HT.lexLt b a=false->a=b
 | [],[],_,_=>rfl
 | [],_::_,h,_=>by cases h
 | _::_,[],_,h=>by cases h
 | x::xs,y::ys,h,h'=>by
  rw[HT.cE] at h h'
  by_cases e:x=y
  ·subst e
   rw[if_pos rfl] at h h';rw[iw xs ys h h']
  ·rw[if_neg e] at h
   rw[if_neg (Ne.symm e)] at h';have h:=of_decide_eq_false h;have h':=of_decide_eq_false h';lia
theorem rV {ns ns':List Int} (p:ns'.Perm ns) (s:ns'.Pairwise (·<=·)):ns'=sortI ns:=by
 refine List.Perm.eq_of_pairwise (le:=fun a b=>ltI b a=false) (fun a b _ _ h1 h2 => ?_) (s.imp fun h => ?_) (lu (fun a b h => ?_) (fun a b c h1 h2 => ?_) ns) (p.trans (d8 _ ns).symm)
 ·unfold ltI at h1 h2
  have h1:=of_decide_eq_false h1;have h2:=of_decide_eq_false h2;lia
 ·exact decide_eq_false (by lia)
 ·have h:=of_decide_eq_true h
  exact decide_eq_false (by lia)
 ·have h1:=of_decide_eq_false h1
  have h2:=of_decide_eq_false h2;exact decide_eq_false (by lia)
theorem rW {ns ns':List (List Int)} (p:ns'.Perm ns) (s:ns'.Pairwise fun a b=>HT.lexLt b a=false):ns'=xh ns :=
 List.Perm.eq_of_pairwise (le:=fun a b=>HT.lexLt b a=false) (fun a b _ _ h1 h2=>iw a b h2 h1) s (lu dW eU ns) (p.trans (d8 _ ns).symm)
noncomputable def tI (ns:List Int):PyData:=.tuple (ns.map .int)
noncomputable def DS:PyData->Option (List Int)
 | .tuple ds=>gH ds
 | _=>none
noncomputable def rX:List PyData->Option (List (List Int))
 | []=>some []
 | d::ds=>(DS d).bind fun i=>(rX ds).bind fun is=>some (i::is)
theorem gI:∀ {ds:List PyData} {ks:List (List Int)},rX ds=some ks->ds=ks.map tI
 | [],_,e=>by cases e; rfl
 | d::ds,_,e=>by
  obtain⟨i,e1,e⟩:=oB e;obtain⟨is,e2,e⟩:=oB e;cases e;rw[gI e2];cases d with
  | tuple xs=>rw[List.map_cons]; unfold tI; rw[bN e1]
  | _=>cases e1
theorem tQ:∀ (ks:List (List Int)),rX (ks.map tI)=some ks
 | []=>rfl
 | k::ks=>by show (gH (k.map .int)).bind _=_; rw[gV,Option.bind_some,tQ ks]; rfl
theorem br.Dq {K:PySem.W.Frag} {H:Hp} {Z:Zs}:∀ {ks:List (List Int)} {xs:List V},br K H Z xs (ks.map tI)->yq K H xs ks
 | [],_,.nil=>.nil
 | k::ks,_,.cons h r=>.cons (by obtain⟨a,xs,e1,e2,e3⟩:=h.gU; rw[e3.cy] at e2; exact⟨a,e1,e2⟩) (br.Dq r)
theorem br.rY {K:PySem.W.Frag} {H:Hp} {Z:Zs} {xs:List V} {ks:List (List Int)} (r:yq K H xs ks):∀ (zs:List (V×List Int)),(∀z∈zs,z∈xs.zip ks)->br K H Z (zs.map (·.1)) ((zs.map (·.2)).map tI)
 | [],_=>.nil
 | z::zs,h=>.cons (by
   have hz:=h z lS;have:∀ {xs:List V} {ks:List (List Int)},yq K H xs ks->z∈xs.zip ks->∃a,z.1=.ref a/\cK K H a (z.2.map V.int):=fun {xs ks} r hz=>by
    induction r with
    | nil=>simp at hz
    | cons q _ ih =>
     rw[List.zip_cons_cons] at hz;rcases lK hz with hz | hz
     ·subst hz; exact q
     ·exact ih hz
   obtain⟨a,e1,e2⟩:=this r hz;show Fz K H Z z.1 (tI z.2);rw[e1];exact .tup e2 (br.ints _)) (br.rY r zs fun z' h'=>h z' (lO _ h'))
noncomputable def inlK:Key->Option Int
 | .inl i=>some i
 | .inr _=>none
noncomputable def inls:List Key->Option (List Int)
 | []=>some []
 | k::ks=>(inlK k).bind fun i=>(inls ks).bind fun is=>some (i::is)
theorem ly:∀ {ks:List Key} {is:List Int},inls ks=some is->ks=is.map Sum.inl
 | [],_,e=>by cases e; rfl
 | k::ks,_,e=>by
  obtain⟨i,e1,e⟩:=oB e;obtain⟨is,e2,e⟩:=oB e;cases e;rw[ly e2];cases k with
  | inl j=>cases e1; rfl
  | inr _=>cases e1
noncomputable def tR (ds:List PyData):Option (List PyData) :=
 if ds.length<64 then
  match gH ds with
  | some ns=>some ((sortI ns).map .int)
  | none=>(rX ds).bind fun ks=>if ks.all (fun k => !k.isEmpty)=true then some ((xh ks).map tI) else none
 else none
noncomputable def qz:List M->Option M
 | [.bL kvs]=>(inls (kvs.map (·.1))).bind fun ns=>if ns.length<64 then some (.lst ((sortI ns).map .int)) else none
 | [.bG kvs]=>(inls (kvs.map (·.1))).bind fun ns=>if ns.length<64 then some (.lst ((sortI ns).map .int)) else none
 | [.v (.tuple ds)]=>(gH ds).bind fun ns=>if ns.length<64 then some (.lst ((sortI ns).map .int)) else none
 | [m]=>(jV m).bind fun ds=>(tR ds).bind fun es=>some (.lst es)
 | _=>none
theorem fK.keys {K:PySem.W.Frag} {H:Hp} {Z:Zs}:∀ {xs:List (Key×V)} {ds:List (Key×List PyData)} {G:List Addr},fK K H Z xs ds G->xs.map (·.1)=ds.map (·.1)
 | _,_,_,.nil=>rfl
 | _,_,_,.cons _ _ r=>by rw[List.map_cons,List.map_cons,fK.keys r]
section
variable {X:Cx} {pos:Pos}
theorem gn {K:PySem.W.Frag} {H:Hp} {Z:Zs} {xs:List V} {m:M} (h:Cz K H Z xs [m]):∃x,xs=[x]/\Ro K H Z x m:=by
 cases h with
 | cons h r=>cases r; exact⟨_,rfl,h⟩
theorem ros2 {K:PySem.W.Frag} {H:Hp} {Z:Zs} {xs:List V} {m m':M} (h:Cz K H Z xs [m,m']):∃x y,xs=[x,y]/\Ro K H Z x m/\Ro K H Z y m':=by
 cases h with
 | cons h r=>cases r with
  | cons h' r=>cases r; exact⟨_,_,rfl,h,h'⟩
theorem u7 (hc:X.calm=true):bI X (.builtin "sorted") (uV X.K qz):=by
 intro pins s σ H xs us Q I rs h;obtain⟨Z,ms,m,za,hr,e,q⟩:=h;have hInt:∀ {ns ns':List Int} {l:Addr},(∀z H' Z' G,Ow X.K H' Z' z (.lst ((sortI ns).map .int)) G->aI H Z [] H' Z' G->Q z H')->ns'.Perm ns->ns'.Pairwise (·<=·)->H l=none->Q (.ref l) (upd H l (.lst (ns'.map V.int))):=fun {ns ns' l} q p w hl=>by
  rw[rV p w];exact qu q za hl (br.ints _)
 unfold qz at e
 split at e
 ·obtain⟨ns,e1,e⟩:=oB e
  split at e
  ·next h64 =>
   cases e;obtain⟨x,rfl,h1⟩:=gn hr;obtain⟨a,kxs,rfl,he,fk⟩:=h1.bL;exact fJ hc pins s σ H _ us Q I rs ⟨a,kxs,ns,rfl,he,by rw[fk.keys,ly e1],h64,fun ns' l p w hl=>hInt q p w hl⟩
  ·cases e
 ·obtain⟨ns,e1,e⟩:=oB e
  split at e
  ·next h64 =>
   cases e;obtain⟨x,rfl,h1⟩:=gn hr;obtain⟨a,kxs,G,rfl,he,fk⟩:=h1.bG;exact fJ hc pins s σ H _ us Q I rs ⟨a,kxs,ns,rfl,he,by rw[fk.keys,ly e1],h64,fun ns' l p w hl=>hInt q p w hl⟩
  ·cases e
 ·obtain⟨ns,e1,e⟩:=oB e
  split at e
  ·next h64 =>
   cases e;obtain⟨x,rfl,h1⟩:=gn hr;obtain⟨a,xs,rfl,hx,fx⟩:=h1.tup;rw[bN e1] at fx;rw[fx.cy] at hx;exact jF pins s σ H _ us Q I rs ⟨a,ns,rfl,hx,h64,fun ns' l p w hl=>hInt q p w hl⟩
  ·cases e
 ·next m0 _ _ _ =>
  obtain⟨ds,e1,e⟩:=oB e;obtain⟨es,e2,e⟩:=oB e;cases e;obtain⟨x,rfl,h1⟩:=gn hr;obtain⟨a,xs,rfl,hx,fx⟩:=h1.jV e1;unfold tR at e2
  split at e2
  ·next h64 =>
   split at e2
   ·next ns e3 =>
    cases e2;rw[bN e3] at fx h64;rw[fx.cy] at hx;exact jD pins s σ H _ us Q I rs ⟨a,ns,rfl,hx,by simpa using h64,fun ns' l p w hl=>hInt q p w hl⟩
   ·obtain⟨ks,e3,e2⟩:=oB e2
    split at e2
    ·next hne =>
     cases e2;rw[gI e3] at fx;have hl:xs.length=ks.length:=by rw[fx.length,List.length_map]
     have ht:=fx.Dq;refine jE pins s σ H _ us Q I rs ⟨a,xs,ks,rfl,hx,ht,fun t h z => ?_,?_,fun zs l p w hl' => ?_⟩
     ·have:=List.all_eq_true.mp hne t h
      rw[z] at this;cases this
     ·have:ds.length=ks.length:=by rw[gI e3,List.length_map]
      lia
     ·have e:zs.map (·.2)=xh ks:=rW ((p.map (·.2)).trans (by rw[List.map_snd_zip (by lia)])) w
      have:=br.rY (Z:=Z) ht zs fun z h=>p.mem_iff.mp h
      rw[e] at this;exact qu q za hl' this
    ·cases e2
  ·cases e2
 ·cases e
noncomputable def iK:List M->Option M
 | [.bL kvs]=>some (.v (.int kvs.length))
 | [.bG kvs]=>some (.v (.int kvs.length))
 | [.v (.str z)]=>if z.length<=lim then some (.v (.int z.length)) else none
 | [m]=>(seq m).bind fun ds=>some (.v (.int ds.length))
 | _=>none
theorem fK.length {K:PySem.W.Frag} {H:Hp} {Z:Zs}:∀ {xs:List (Key×V)} {ds:List (Key×List PyData)} {G:List Addr},fK K H Z xs ds G->xs.length=ds.length
 | _,_,_,.nil=>rfl
 | _,_,_,.cons _ _ r=>by rw[List.length_cons,List.length_cons,fK.length r]
theorem iL:bI X (.builtin "len") (uV X.K iK):=by
 intro pins s σ H xs us Q I rs h;obtain⟨Z,ms,m,za,hr,e,q⟩:=h;unfold iK at e
 split at e
 ·cases e
  obtain⟨x,rfl,h1⟩:=gn hr;obtain⟨a,kxs,rfl,he,fk⟩:=h1.bL;exact nH pins s σ H _ us Q I rs ⟨a,kxs,rfl,he,by rw[fk.length]; exact bZ q za (.int _)⟩
 ·cases e
  obtain⟨x,rfl,h1⟩:=gn hr;obtain⟨a,kxs,G,rfl,he,fk⟩:=h1.bG;exact nH pins s σ H _ us Q I rs ⟨a,kxs,rfl,he,by rw[fk.length]; exact bZ q za (.int _)⟩
 ·split at e
  ·next hl =>
   cases e;obtain⟨x,rfl,h1⟩:=gn hr;obtain rfl:=h1.str;exact oH pins s σ H _ us Q I rs ⟨_,rfl,fZ hl,bZ q za (.int _)⟩
  ·cases e
 ·obtain⟨ds,e1,e⟩:=oB e
  cases e;obtain⟨x,rfl,h1⟩:=gn hr;obtain⟨a,ys,rfl,hx,fx⟩:=h1.seq e1;exact oG pins s σ H _ us Q I rs ⟨a,ys,rfl,hx,by rw[fx.length]; exact bZ q za (.int _)⟩
 ·cases e
noncomputable def ji:List M->Option M
 | [m]=>(seq m).bind fun ds=>some (.v (.tuple ds))
 | _=>none
theorem fL:bI X (.type "tuple") (uV X.K ji):=by
 intro pins s σ H xs us Q I rs h;obtain⟨Z,ms,m,za,hr,e,q⟩:=h;unfold ji at e
 split at e
 ·obtain⟨ds,e1,e⟩:=oB e
  cases e;obtain⟨x,rfl,h1⟩:=gn hr;obtain⟨a,ys,rfl,hx,fx⟩:=h1.seq e1;refine mL pins s σ H _ us Q I rs ⟨a,ys,rfl,?_⟩;rcases hx with hx | hx
  ·exact .inl ⟨hx,fun l hl=>endT q za hl fx⟩
  ·exact .inr ⟨hx,bZ q za (.tup hx fx)⟩
 ·cases e
noncomputable def rZ:List M->Option M
 | [.v (.int i)]=>some (.v (.int (if i<0 then -i else i)))
 | _=>none
theorem xj:bI X (.builtin "abs") (uV X.K rZ):=by
 intro pins s σ H xs us Q I rs h;obtain⟨Z,ms,m,za,hr,e,q⟩:=h;unfold rZ at e
 split at e
 ·cases e
  obtain⟨x,rfl,h1⟩:=gn hr;obtain rfl:=h1.int;exact vY pins s σ H _ us Q I rs ⟨_,rfl,bZ q za (.int _)⟩
 ·cases e
noncomputable def iy:List M->Option M
 | [.v (.int i)]=>some (.v (.int i))
 | [.v (.bool k)]=>some (.v (.int (if k then 1 else 0)))
 | _=>none
theorem r6:bI X (.type "int") (uV X.K iy):=by
 intro pins s σ H xs us Q I rs h;obtain⟨Z,ms,m,za,hr,e,q⟩:=h;unfold iy at e
 split at e
 ·cases e
  obtain⟨x,rfl,h1⟩:=gn hr;obtain rfl:=h1.int;exact nq pins s σ H _ us Q I rs (.inl ⟨_,rfl,bZ q za (.int _)⟩)
 ·cases e
  obtain⟨x,rfl,h1⟩:=gn hr;obtain rfl:=h1.bl;exact nq pins s σ H _ us Q I rs (.inr ⟨_,rfl,bZ q za (.int _)⟩)
 ·cases e
noncomputable def DT:PyData->Option Bool
 | .bool b=>some b
 | _=>none
noncomputable def mW:List PyData->Option (List Bool)
 | []=>some []
 | d::ds=>(DT d).bind fun i=>(mW ds).bind fun is=>some (i::is)
theorem lz:∀ {ds:List PyData} {is:List Bool},mW ds=some is->ds=is.map .bool
 | [],_,e=>by cases e; rfl
 | d::ds,_,e=>by
  obtain⟨i,e1,e⟩:=oB e;obtain⟨is,e2,e⟩:=oB e;cases e;rw[lz e2];cases d <;> cases e1
  rfl
theorem d9:∀ (is:List Bool),mW (is.map .bool)=some is
 | []=>rfl
 | i::is=>by show (some i).bind _=_; rw[Option.bind_some,d9 is]; rfl
theorem br.nN {K:PySem.W.Frag} {H:Hp} {Z:Zs}:∀ {ns:List Bool} {xs:List V},br K H Z xs (ns.map .bool)->xs=Bs ns:=by
 intro ns
 induction ns with
 | nil=>intro xs h; cases h; rfl
 | cons n ns ih =>
  intro xs h;cases h with | cons q r =>
  cases q;rw[ih r]; rfl
noncomputable def allM (any:Bool):List M->Option M
 | [m]=>(jV m).bind fun ds=>(mW ds).bind fun bs=>some (.v (.bool (if any then bs.any id else bs.all id)))
 | _=>none
theorem BS (hc:X.calm=true):bI X (.builtin "all") (uV X.K (allM false)):=by
 intro pins s σ H xs us Q I rs h;obtain⟨Z,ms,m,za,hr,e,q⟩:=h;unfold allM at e
 split at e
 ·obtain⟨ds,e1,e⟩:=oB e
  obtain⟨bs,e2,e⟩:=oB e;cases e;obtain⟨x,rfl,h1⟩:=gn hr;obtain⟨a,ys,rfl,hx,fx⟩:=h1.jV e1;rw[lz e2] at fx;rw[fx.nN] at hx;exact kM hc pins s σ H _ us Q I rs ⟨a,bs,rfl,hx,bZ q za (.bl _)⟩
 ·cases e
theorem xm (hc:X.calm=true):bI X (.builtin "any") (uV X.K (allM true)):=by
 intro pins s σ H xs us Q I rs h;obtain⟨Z,ms,m,za,hr,e,q⟩:=h;unfold allM at e
 split at e
 ·obtain⟨ds,e1,e⟩:=oB e
  obtain⟨bs,e2,e⟩:=oB e;cases e;obtain⟨x,rfl,h1⟩:=gn hr;obtain⟨a,ys,rfl,hx,fx⟩:=h1.jV e1;rw[lz e2] at fx;rw[fx.nN] at hx;exact kN hc pins s σ H _ us Q I rs ⟨a,bs,rfl,hx,bZ q za (.bl _)⟩
 ·cases e
theorem ve_cb {id:String} {x:Str} {p:Pos} {e:Expr} {es:List Expr} {g:List M->Option M} {fa:FA} (hc:bI X (.builtin id) (uV X.K g)) (hg:Gl X x) (hm:X.mg x=none) (hv:bootBuiltins x=some (.builtin id)) (ha:VA X (e::es) fa) (hn:x ≠ "__name__" := by decide) (hdb:(x == ("__debug__" : Str))=false:=by decide)
  (he:starEach (e::es) X.env=(false,eval e X.env)::starEach es X.env:=by rfl) (hpl:(backTo pos (starEach es X.env)).any (·.1)=false:=by rfl):VE X (.Call (.Name x p) (e::es) [] pos) (eL g fa):=aW (p9 hc hg hm hv ha hn hdb he hpl) fun _ _ _=>many wX
theorem ve_ct {T:String} {x:Str} {p:Pos} {e:Expr} {es:List Expr} {g:List M->Option M} {fa:FA} (hc:bI X (.type T) (uV X.K g)) (hg:Gl X x) (hm:X.mg x=none) (hv:bootBuiltins x=some (.type T)) (ha:VA X (e::es) fa) (hn:x ≠ "__name__" := by decide) (hdb:(x == ("__debug__" : Str))=false:=by decide)
  (he:starEach (e::es) X.env=(false,eval e X.env)::starEach es X.env:=by rfl) (hpl:(backTo pos (starEach es X.env)).any (·.1)=false:=by rfl):VE X (.Call (.Name x p) (e::es) [] pos) (eL g fa):=aW (uH hc hg hm hv ha hn hdb he hpl) fun _ _ _=>many wX
noncomputable def clsD:PyData->String
 | .none => "NoneType"
 | .bool _ => "bool"
 | .int _ => "int"
 | .str _ => "str"
 | .tuple _ => "tuple"
 | .list _ => "list"
 | .dict _ => "dict"
noncomputable def lA:M->String
 | .v d=>clsD d
 | .lst _ => "list"
 | .bL _ => "dict"
 | .bG _ => "dict"
theorem Ro.cls {K:PySem.W.Frag} {H:Hp} {Z:Zs} {x:V} {m:M} (h:Ro K H Z x m):gm K H x (lA m):=by
 obtain⟨G,h⟩:=h;cases h with
 | v f =>
  cases f with
  | non=>exact .non
  | bl b=>exact .bl b
  | int i=>exact .int i
  | str x=>exact .str x
  | tup q _=>exact .tup q
  | lst q _ _=>exact .lst (.inl q)
  | lsK q _=>exact .lst (.inr q)
  | bL q _ _=>exact .dK q
 | lst e _=>exact .lst (fV.of e)
 | bL e _=>exact .dK e
 | bG e _=>exact .dK e
noncomputable def lB (c:String) (m:M):Option M:=some (.v (.bool (subB (lA m) c)))
theorem BU {p p2:Pos} {e:Expr} {c:String} {y:Str} {fa:FE} (hc:c∈cM) (hn:c ≠ "NoneType") (hg:Gl X "isinstance") (hm:X.mg "isinstance" = none) (hv:bootBuiltins "isinstance" = some (.builtin "isinstance")) (ha:VE X e fa) (hy:PE X (.Name y p2) (tC (.ty c)))
  (he:starEach [e,.Name y p2] X.env=[(false,eval e X.env),(false,eval (.Name y p2) X.env)]:=by rfl) (he2:starEach [.Name y p2] X.env=[(false,eval (.Name y p2) X.env)]:=by rfl) (hpl:(backTo pos (starEach [.Name y p2] X.env)).any (·.1)=false:=by rfl):VE X (.Call (.Name "isinstance" p) [e,.Name y p2] [] pos) (vU (lB c) fa) :=
 aW (p9 qo hg hm hv (iV ha (iV hy ou he2) he) (by decide) (by decide) he hpl) fun σ H Q hq=>one (r:=fun x H1 Q=>∃x' t c',[x,V.ty c]=[x',.ty c']/\gm X.K H1 x' t/\c'∈cM/\c' ≠ "NoneType"/\Q (.bl (subB t c')) H1) (fun H Z x m1 m Q za h1 e q=>by
  cases e;exact⟨x,lA m1,c,rfl,h1.cls,hc,hn,bZ q za (.bl _)⟩) hq
end
inductive qA (K:PySem.W.Frag) (H:Hp) (Z:Zs):List V->List M->List Addr->Prop
 | nil:qA K H Z [] [] []
 | cons {x:V} {m:M} {G:List Addr} {xs:List V} {ms:List M} {G':List Addr}:Ow K H Z x m G->qA K H Z xs ms G'->qA K H Z (x::xs) (m::ms) (G++G')
noncomputable def dh:List dJ->Ev->Option (List M×Ev)
 | [],ρ=>some ([],ρ)
 | .t m::os,ρ=>(dh os ρ).bind fun q=>some (m::q.1,q.2)
 | .p i::os,ρ=>(cS ρ i).bind fun m=>(dh os (ρ.set i none)).bind fun q=>some (m::q.1,q.2)
 | .q _ _::_,_=>none
noncomputable def gu:List dJ->List M->Ev->Ev
 | .p i::os,m::ms,ρ=>gu os ms (ρ.set i (some m))
 | _::os,_::ms,ρ=>gu os ms ρ
 | _,_,ρ=>ρ
def vH (ρ:Ev):List dJ->Prop
 | []=>True
 | .p i::os=>ρ[i]? = some none/\.p i∉os/\vH ρ os
 | _::os=>vH ρ os
section
variable {K:PySem.W.Frag} {H H':Hp} {Z Z':Zs} {σ:L2.St}
theorem qA.length:∀ {xs:List V} {ms:List M} {G:List Addr},qA K H Z xs ms G->xs.length=ms.length
 | _,_,_,.nil=>rfl
 | _,_,_,.cons _ r=>by rw[List.length_cons,List.length_cons,qA.length r]
theorem tS {ρ:Ev} {i j:Nat} {m:M} (h:cS (ρ.set j none) i=some m):i≠j/\cS ρ i=some m:=by
 have h:=aG.mp h;rw[List.getElem?_set] at h
 split at h
 ·next e=>split at h <;> cases h
 ·next e=>exact⟨fun z=>e z.symm,aG.mpr h⟩
theorem lC:∀ {os:List dJ} {ρ:Ev} {r:List M×Ev} {i:Nat},dh os ρ=some r->.p i∈os->∃m,cS ρ i=some m
 | .t m::os,ρ,r,i,e,h=>by
  obtain⟨q,e1,_⟩:=oB e;exact lC e1 (by simpa using h)
 | .p j::os,ρ,r,i,e,h=>by
  obtain⟨m,e1,e⟩:=oB e;obtain⟨q,e2,_⟩:=oB e;rcases lK h with h | h
  ·cases h; exact⟨m,e1⟩
  ·obtain⟨m',h'⟩:=lC e2 h
   exact⟨m',(tS h').2⟩
 | .q _ _::_,_,_,_,e,_=>by cases e
 | [],_,_,_,_,h=>by simp at h
theorem iM:∀ {os:List dJ} {ρ:Ev} {ms:List M} {ρ':Ev} {i:Nat},dh os ρ=some (ms,ρ')->ρ[i]? = some none->ρ'[i]? = some none
 | [],_,_,_,_,e,h=>by cases e; exact h
 | .t m::os,ρ,_,_,i,e,h=>by
  obtain⟨⟨ms,ρ1⟩,e1,e⟩:=oB e;cases e;exact iM e1 h
 | .p j::os,ρ,_,_,i,e,h=>by
  obtain⟨m,e1,e⟩:=oB e;obtain⟨⟨ms,ρ1⟩,e2,e⟩:=oB e;cases e;refine iM e2 ?_;rw[List.getElem?_set]
  split
  ·next z=>subst z; rw[if_pos (List.getElem?_eq_some_iff.mp h).1]
  ·exact h
 | .q _ _::_,_,_,_,_,e,_=>by cases e
theorem fM:∀ {os:List dJ} {ρ:Ev} {ms:List M} {ρ':Ev},dh os ρ=some (ms,ρ')->vH ρ' os
 | [],_,_,_,_=>True.intro
 | .t m::os,ρ,_,_,e=>by
  obtain⟨⟨ms,ρ1⟩,e1,e⟩:=oB e;cases e;exact show vH ρ1 os from fM e1
 | .p j::os,ρ,_,_,e=>by
  obtain⟨m,e1,e⟩:=oB e;obtain⟨⟨ms,ρ1⟩,e2,e⟩:=oB e;cases e;have hl:=(List.getElem?_eq_some_iff.mp (aG.mp e1)).1;refine⟨iM e2 (by rw[List.getElem?_set_self hl]),fun h => ?_,fM e2⟩
  obtain⟨m',h'⟩:=lC e2 h;exact (tS h').1 rfl
 | .q _ _::_,_,_,_,e=>by cases e
theorem aV {A B:List Addr} (h:(A++B).Nodup):A.Nodup/\B.Nodup/\∀a∈A,a∉B:=by
 have h':=List.nodup_append.mp h;exact⟨h'.1,h'.2.1,fun a x y=>h'.2.2 a x a y rfl⟩
theorem lD:∀ {os:List dJ} {xs:List V} {ρ:Ev} {F G:List Addr} {ms:List M} {ρ':Ev},aP K H Z σ ρ F->iF K H Z σ xs os G->(F++G).Nodup->dh os ρ=some (ms,ρ') ->
  ∃A F',qA K H Z xs ms A/\aP K H Z σ ρ' F'/\(F'++A).Nodup/\∀a∈F'++A,a∈F++G:=by
 intro os
 induction os with
 | nil =>
  intro xs ρ F G ms ρ' S r nd e;cases r;cases e;exact⟨[],F,.nil,S,nd,fun _ h=>h⟩
 | cons o os ih =>
  intro xs ρ F G ms ρ' S r nd e;cases r with | @cons _ _ G1 _ _ G2 q r =>
  cases q with
  | q _ _ _=>cases e
  | t q =>
   obtain⟨⟨ms,ρ1⟩,e1,e⟩:=oB e;cases e;obtain⟨n1,n2,n3⟩:=aV nd;obtain⟨n4,n5,n6⟩:=aV n2;obtain⟨A,F',h1,h2,h3,h4⟩:=ih S r (aJ n1 n5 fun a h z=>n3 a h (lR _ z)) e1
   obtain⟨k1,k2,k3⟩:=aV h3;have far:∀a∈G1,a∉F++G2:=fun a h z=>by
    rcases lM z with z | z
    ·exact n3 a z (lL _ h)
    ·exact n6 a h z
   refine⟨G1++A,F',.cons q h1,h2,aJ k1 (aJ n4 k2 fun a h z=>far a h (h4 a (lR _ z))) fun a h z => ?_,fun a h => ?_⟩
   ·rcases lM z with z | z
    ·exact far a z (h4 a (lL _ h))
    ·exact k3 a h z
   ·rcases lM h with h | h
    ·rcases lM (h4 a (lL _ h)) with z | z
     ·exact lL _ z
     ·exact lR _ (lR _ z)
    rcases lM h with h | h
    ·exact lR _ (lL _ h)
    ·rcases lM (h4 a (lR _ h)) with z | z
     ·exact lL _ z
     ·exact lR _ (lR _ z)
  | p q =>
   obtain⟨m,e1,e⟩:=oB e;obtain⟨⟨ms,ρ1⟩,e2,e⟩:=oB e;cases e;rw[List.nil_append] at nd ⊢;obtain⟨n1,n2,n3⟩:=aV nd;obtain⟨x',G',F1,t1,t2,t3,t4,t5⟩:=S.take n1 (aG.mp e1);rw[q] at t1; cases t1;obtain⟨u1,u2,u3⟩:=aV t4;obtain⟨A,F',h1,h2,h3,h4⟩:=ih t3 r (aJ u1 n2 fun a h z=>n3 a (t5 a (lL _ h)) z) e2
   obtain⟨k1,k2,k3⟩:=aV h3;have far:∀a∈G',a∉F1++G2:=fun a h z=>by
    rcases lM z with z | z
    ·exact u3 a z h
    ·exact n3 a (t5 a (lR _ h)) z
   have DC:∀a∈F1++G2,a∈F++G2:=fun a z=>by
    rcases lM z with z | z
    ·exact lL _ (t5 a (lL _ z))
    ·exact lR _ z
   refine⟨G'++A,F',.cons t2 h1,h2,aJ k1 (aJ u2 k2 fun a h z=>far a h (h4 a (lR _ z))) fun a h z => ?_,fun a h => ?_⟩
   ·rcases lM z with z | z
    ·exact far a z (h4 a (lL _ h))
    ·exact k3 a h z
   ·rcases lM h with h | h
    ·exact DC a (h4 a (lL _ h))
    rcases lM h with h | h
    ·exact lL _ (t5 a (lR _ h))
    ·exact DC a (h4 a (lR _ h))
theorem nO {σ:L2.St} {i:Nat} {x:V} (q:σ[i]? = some (some x)):σ.set i (some x)=σ:=by
  refine List.ext_getElem? fun j => ?_
  rw[List.getElem?_set]
  split
  · next hj=>subst hj; split
             · exact q.symm
             · next hh=>exact absurd (List.getElem?_eq_some_iff.mp q).1 hh
  · rfl
theorem vH.set {ρ:Ev} {i:Nat} {m:M}:∀ {os:List dJ},vH ρ os->.p i∉os->vH (ρ.set i (some m)) os
 | [],_,_=>True.intro
 | .t _::os,h,n=>vH.set (os:=os) h fun z=>n (lO _ z)
 | .q _ _::os,h,n=>vH.set (os:=os) h fun z=>n (lO _ z)
 | .p j::os,h,n=>by
  obtain⟨h1,h2,h3⟩:=h;refine⟨?_,h2,vH.set h3 fun z=>n (lO _ z)⟩
  rw[List.getElem?_set,if_neg fun z=>n (by rw[z]; exact lS)]
  exact h1
theorem o9 {H0:Hp} {Z0:Zs}:∀ {os:List dJ} {xs:List V} {ρ:Ev} {F G0 A:List Addr} {ms:List M},aP K H Z σ ρ F->iF K H0 Z0 σ xs os G0->qA K H Z xs ms A->(F++A).Nodup->vH ρ os ->
  ∃F',aP K H Z σ (gu os ms ρ) F'/\F'.Nodup/\∀a∈F',a∈F++A:=by
 intro os
 induction os with
 | nil =>
  intro xs ρ F G0 A ms S r hs nd _;cases r;cases hs;exact⟨F,S,(aV nd).1,fun a h=>lL _ h⟩
 | cons o os ih =>
  intro xs ρ F G0 A ms S r hs nd hol;cases r with | cons q r =>
  cases hs with | @cons _ m' G _ ms G' h hs =>
  obtain⟨n1,n2,n3⟩:=aV nd;obtain⟨n4,n5,n6⟩:=aV n2;have fin:vH ρ os->∃F',aP K H Z σ (gu os ms ρ) F'/\F'.Nodup/\∀a∈F',a∈F++(G++G'):=fun hol=>by
   obtain⟨F',h1,h2,h3⟩:=ih S r hs (aJ n1 n5 fun a h z=>n3 a h (lR _ z)) hol
   refine⟨F',h1,h2,fun a h => ?_⟩
   rcases lM (h3 a h) with z | z
   ·exact lL _ z
   ·exact lR _ (lR _ z)
  cases q with
  | t _=>exact fin hol
  | q _ _ _=>exact fin hol
  | p q =>
   obtain⟨l1,l2,l3⟩:=hol;obtain⟨F1,p1,p2,p3⟩:=S.put h (aJ n1 n4 fun a h z=>n3 a h (lL _ z)) l1
   rw[nO q] at p1;obtain⟨F',h1,h2,h3⟩:=ih p1 r hs (aJ p2 n5 fun a h z=>by
    rcases lM (p3 a h) with y | y
    ·exact n3 a y (lR _ z)
    ·exact n6 a y z) (l3.set l2)
   refine⟨F',h1,h2,fun a h => ?_⟩
   rcases lM (h3 a h) with z | z
   ·rcases lM (p3 a z) with z | z
    ·exact lL _ z
    ·exact lR _ (lL _ z)
   ·exact lR _ (lR _ z)
end
abbrev FF:=List M->Option (M×List M)
noncomputable def cT (K:PySem.W.Frag) (g:FF):Sp:=fun vs H Q _=>∃Z ms A m ms',qA K H Z vs ms A/\Wf H Z A/\g ms=some (m,ms')/\∀x H' Z' A' G,qA K H' Z' vs ms' A'->Ow K H' Z' x m G->aI H Z A H' Z' (A'++G)->Q x H'
noncomputable def dm (g:FF) (fa:FA):FE:=fun ρ=>(fa ρ).bind fun p=>(dh p.1 p.2).bind fun q=>(g q.1).bind fun r=>some (.t r.1,gu p.1 r.2 q.2)
section
variable {X:Cx} {pos:Pos}
theorem called {g:FF} {fa:FA} {σ:L2.St} {H:Hp} {Q:VK} {E:XK} (hq:vE X.K (dm g fa) σ H Q):vZ (cT X.K g) [] E (vA X.K fa) σ H Q:=by
 obtain⟨Z,ρ,F,o,ρ',S,w,e,q⟩:=hq;obtain⟨⟨os,ρ1⟩,e1,e⟩:=oB e;obtain⟨⟨ms,ρ2⟩,e2,e⟩:=oB e;obtain⟨⟨m,ms'⟩,e3,e⟩:=oB e;cases e;refine⟨Z,ρ,F,os,ρ1,S,w,e1,fun xs H1 Z1 F1 G1 S1 O1 f1 => ?_⟩
 show cT X.K g (xs++[]) H1 Q E;rw[List.append_nil];obtain⟨A,Fh,h1,h2,h3,h4⟩:=lD S1 O1 f1.nd e2;obtain⟨n1,n2,n3⟩:=aV h3;refine⟨Z1,ms,A,m,ms',h1,⟨n2,fun a h=>f1.dz a (h4 a (lR _ h)),f1.za⟩,e3,fun x H2 Z2 A' G k1 k2 f2 => ?_⟩
 have wA:Wf H1 Z1 A:=⟨n2,fun a h=>f1.dz a (h4 a (lR _ h)),f1.za⟩
 have n3':∀a∈A,a∉Fh:=fun a h z=>n3 a z h
 have S2:aP X.K H2 Z2 σ ρ2 Fh:=h2.mono (f2.grow wA) fun a h o e=>f2.keep a o (n3 a h) e
 have f3:=f2.frame (G:=Fh) ⟨aJ n2 n1 n3',fun a h=>by
  rcases lM h with h | h
  ·exact f1.dz a (h4 a (lR _ h))
  ·exact f1.dz a (h4 a (lL _ h)),f1.za⟩ h2.al
 obtain⟨m1,m2,m3,m4,m5,m6⟩:=CV f3.nd;obtain⟨F',p1,p2,p3⟩:=o9 S2 O1 k1 (aJ m3 m1 fun a h z=>m5 a z h) (fM e2)
 have f4:aI H Z F H1 Z1 (A++Fh):=f1.sub (aJ n2 n1 n3') fun a h=>h4 a (by
  rcases lM h with h | h
  ·exact lR _ h
  ·exact lL _ h)
 refine q x H2 Z2 F' G p1 (.t k2) ((f4.trans f3).sub (aJ p2 m2 fun a h z => ?_) fun a h => ?_)
 ·rcases lM (p3 a h) with y | y
  ·exact m6 a z y
  ·exact m4 a y z
 ·rcases lM h with h | h
  ·rcases lM (p3 a h) with y | y
   ·exact lR _ y
   ·exact lL _ (lL _ y)
  ·exact lL _ (lR _ h)
theorem ve_fn {x:Str} {ps:List Str} {k k':Nat} {g:FF} {e:Expr} {es:List Expr} {fa:FA} {p:Pos} (C:aS X.prog X.w X.K X.mg X.base x ps k (cT X.K g)) (hr:eN k' X.A) (hg:Gl X x) (ha:VA X (e::es) fa) (hk:k<=k':=by first | decide | exact Nat.le_refl _ | lia) (hdb:(x == ("__debug__" : Str))=false:=by decide)
  (he:starEach (e::es) X.env=(false,eval e X.env)::starEach es X.env:=by rfl) (hpl:(backTo pos (starEach es X.env)).any (·.1)=false:=by rfl):VE X (.Call (.Name x p) (e::es) [] pos) (dm g fa):=aW (pe_fn C hr hg ha hk hdb he hpl) fun _ _ _ hq=>called hq
end
inductive Out where
 | nx (ρ:Ev)
 | bk (ρ:Ev)
 | ct (ρ:Ev)
 | rt (m:M) (ρ:Ev)
abbrev FS:=Ev->Option Out
abbrev Pv:=Nat->Option V
def Pin (pv:Pv) (σ:L2.St):Prop:=∀i x,pv i=some x->σ[i]? = some (some x)
def qB (K:PySem.W.Frag) (pv:Pv) (D:Ends) (H:Hp) (Z:Zs) (F:List Addr):Out->Prop
 | .nx ρ'=>∀σ' H' Z' F',aP K H' Z' σ' ρ' F'->aI H Z F H' Z' F'->Pin pv σ'->D.nx σ' H'
 | .bk ρ'=>∀σ' H' Z' F',aP K H' Z' σ' ρ' F'->aI H Z F H' Z' F'->Pin pv σ'->D.bk σ' H'
 | .ct ρ'=>∀σ' H' Z' F',aP K H' Z' σ' ρ' F'->aI H Z F H' Z' F'->Pin pv σ'->D.ct σ' H'
 | .rt m ρ'=>∀x σ' H' Z' F' G,aP K H' Z' σ' ρ' F'->Ow K H' Z' x m G->aI H Z F H' Z' (F'++G)->Pin pv σ'->D.rt x H'
noncomputable def vS (K:PySem.W.Frag) (pv:Pv) (f:FS):TS:=fun D σ H=>∃Z ρ F out,aP K H Z σ ρ F/\Wf H Z F/\Pin pv σ/\f ρ=some out/\qB K pv D H Z F out
theorem qB.trans {K:PySem.W.Frag} {pv:Pv} {D:Ends} {H H':Hp} {Z Z':Zs} {F F':List Addr} {o:Out} (h:qB K pv D H Z F o) (f:aI H Z F H' Z' F'):qB K pv D H' Z' F' o:=by
 cases o with
 | nx ρ=>exact fun σ1 H1 Z1 F1 s1 f1 p1=>h σ1 H1 Z1 F1 s1 (f.trans f1) p1
 | bk ρ=>exact fun σ1 H1 Z1 F1 s1 f1 p1=>h σ1 H1 Z1 F1 s1 (f.trans f1) p1
 | ct ρ=>exact fun σ1 H1 Z1 F1 s1 f1 p1=>h σ1 H1 Z1 F1 s1 (f.trans f1) p1
 | rt m ρ=>exact fun x σ1 H1 Z1 F1 G s1 o1 f1 p1=>h x σ1 H1 Z1 F1 G s1 o1 (f.trans f1) p1
abbrev Am (pv:Pv) (pin:List Nat):Prop:=∀j x,pv j=some x->j∈pin
def VS (X:Cx) (pin:List Nat) (st:Stmt) (f:FS):Prop:=∀pv,Am pv pin->PS X st (vS X.K pv f)
def zl (X:Cx) (pin:List Nat) (st:List Stmt) (f:FS):Prop:=∀pv,Am pv pin->q9 X st (vS X.K pv f)
section
variable {X:Cx} {pos:Pos} {pin:List Nat}
theorem iN {st:Stmt} {t t':TS} (h:PS X st t) (i:∀D σ H,t' D σ H->t D σ H):PS X st t':=fun pins s σ H D I q=>h pins s σ H D I (i D σ H q)
theorem tT {st:List Stmt} {t t':TS} (h:q9 X st t) (i:∀D σ H,t' D σ H->t D σ H):q9 X st t':=fun pins s σ H D I q=>h pins s σ H D I (i D σ H q)
noncomputable def bJ:FS:=fun ρ=>some (.nx ρ)
noncomputable def aF (f g:FS):FS:=fun ρ=>(f ρ).bind fun o=>match o with
 | .nx ρ1=>g ρ1
 | o=>some o
theorem xo {pv:Pv} {D:Ends} {σ:L2.St} {H:Hp} (hq:vS X.K pv bJ D σ H):Ae D σ H:=by
 obtain⟨Z,ρ,F,o,S,w,P,e,q⟩:=hq;cases e;exact q σ H Z F S (aI.refl w) P
theorem zm:zl X pin [] bJ:=fun pv hp=>tT yx fun _ _ _ hq=>xo (X:=X) hq
theorem zp {pv:Pv} {f g:FS} {D:Ends} {σ:L2.St} {H:Hp} (hq:vS X.K pv (aF f g) D σ H):tSeq (vS X.K pv f) (vS X.K pv g) D σ H:=by
 obtain⟨Z,ρ,F,o,S,w,P,e,q⟩:=hq;obtain⟨o1,e1,e⟩:=oB e;refine⟨Z,ρ,F,o1,S,w,P,e1,?_⟩;cases o1 with
 | nx ρ1=>exact fun σ1 H1 Z1 F1 S1 f1 P1=>⟨Z1,ρ1,F1,o,S1,f1.wf,P1,e,q.trans f1⟩
 | bk ρ1=>cases e; exact q
 | ct ρ1=>cases e; exact q
 | rt m ρ1=>cases e; exact q
theorem xq {st:Stmt} {rest:List Stmt} {f g:FS} (h1:VS X pin st f) (h2:zl X pin rest g):zl X pin (st::rest) (aF f g):=fun pv hp=>tT (vN (h1 pv hp) (h2 pv hp)) fun _ _ _ hq=>zp hq
theorem zq {st:Stmt} {f:FS} (h1:VS X pin st f):zl X pin [st] f:=fun pv hp=>yy (h1 pv hp)
noncomputable def dw (c:FT) (f g:FS):FS:=fun ρ=>(c ρ).bind fun p=>if p.1=true then f p.2 else g p.2
theorem vs_if {c:Expr} {a b:List Stmt} {fc:FT} {f g:FS} (hc:VT X c fc) (ha:zl X pin a f) (hb:zl X pin b g):VS X pin (.If c a b pos) (dw fc f g):=fun pv hp=>iN (ps_if hc (ha pv hp) (hb pv hp)) fun D σ H hq=>by
 obtain⟨Z,ρ,F,o,S,w,P,e,q⟩:=hq;obtain⟨⟨b1,ρ1⟩,e1,e⟩:=oB e;refine⟨Z,ρ,F,b1,ρ1,S,w,e1,fun H1 Z1 F1 S1 f1 => ?_⟩
 cases b1 with
 | true=>exact iteT ⟨Z1,ρ1,F1,o,S1,f1.wf,P,e,q.trans f1⟩
 | false=>exact iteF ⟨Z1,ρ1,F1,o,S1,f1.wf,P,e,q.trans f1⟩
noncomputable def cB (f:FE):FS:=fun ρ=>(f ρ).bind fun p=>some (.nx p.2)
theorem zu {e:Expr} {f:FE} (h:VE X e f) (hs:swapsWith e none pos.line X.env=pure false:=by rfl):VS X pin (.Expr e pos) (cB f):=fun pv hp=>iN (yz h hs) fun D σ H hq=>by
 obtain⟨Z,ρ,F,o,S,w,P,e,q⟩:=hq;obtain⟨⟨o1,ρ1⟩,e1,e⟩:=oB e;cases e;exact⟨Z,ρ,F,o1,ρ1,S,w,e1,fun x H1 Z1 F1 G1 S1 O1 f1=>q σ H1 Z1 F1 S1 f1.left P⟩
noncomputable def r8:dJ->Ev->Option (M×Ev)
 | .t m,ρ=>some (m,ρ)
 | .p i,ρ=>(cS ρ i).bind fun m=>some (m,ρ.set i none)
 | .q i k,ρ=>(cA (.q i k) ρ).bind fun p=>some (.v p.1,p.2)
theorem moved {K:PySem.W.Frag} {H H0:Hp} {Z Z0:Zs} {F F0 G:List Addr} {σ:L2.St} {ρ ρ':Ev} {x:V} {o:dJ} {m:M} (S:aP K H Z σ ρ F) (h:mU K H Z σ x o G) (f:aI H0 Z0 F0 H Z (F++G)) (e:r8 o ρ=some (m,ρ')) :
  ∃Z' F' G',aP K H Z' σ ρ' F'/\Ow K H Z' x m G'/\aI H0 Z0 F0 H Z' (F'++G'):=by
 cases o with
 | t m1 =>
  cases e;cases h with
  | t q=>exact⟨Z,F,G,S,q,f⟩
 | p i =>
  obtain⟨m1,e1,e⟩:=oB e;cases e;cases h with
  | p q =>
   rw[List.append_nil] at f;obtain⟨x',G',F1,t1,t2,t3,t4,t5⟩:=S.take f.nd (aG.mp e1);rw[q] at t1; cases t1;exact⟨Z,F1,G',t3,t2,f.sub t4 t5⟩
 | q i k =>
  obtain⟨⟨d,ρ1⟩,e1,e⟩:=oB e;cases e;obtain⟨Z',F',h1,h2,h3,_⟩:=gW S h f e1;exact⟨Z',F',[],h1,.v h2,h3.nil⟩
noncomputable def cL (f:FE):FS:=fun ρ=>(f ρ).bind fun p=>(r8 p.1 p.2).bind fun q=>some (.rt q.1 q.2)
theorem BV {e:Expr} {f:FE} (h:VE X e f):VS X pin (.Return (some e) pos) (cL f):=fun pv hp=>iN (AN h) fun D σ H hq=>by
 obtain⟨Z,ρ,F,o,S,w,P,e,q⟩:=hq;obtain⟨⟨o1,ρ1⟩,e1,e⟩:=oB e;obtain⟨⟨m,ρ2⟩,e2,e⟩:=oB e;cases e;refine⟨Z,ρ,F,o1,ρ1,S,w,e1,fun x H1 Z1 F1 G1 S1 O1 f1 => ?_⟩
 obtain⟨Z2,F2,G2,h1,h2,h3⟩:=moved S1 O1 f1 e2;exact q x σ H1 Z2 F2 G2 h1 h2 h3 P
noncomputable def lE (i:Nat) (m:M) (ρ:Ev):Option Ev:=if i<ρ.length then some (ρ.set i (some m)) else none
theorem Pin.set {pv:Pv} {σ:L2.St} {i:Nat} {x:Option V} (P:Pin pv σ) (hp:Am pv pin) (hi:i∉pin):Pin pv (σ.set i x):=fun j y e=>by
 rw[List.getElem?_set,if_neg fun z=>hi (by subst z; exact hp _ _ e)]
 exact P j y e
theorem aP.lE {K:PySem.W.Frag} {H:Hp} {Z:Zs} {F G:List Addr} {σ:L2.St} {ρ ρ':Ev} {x:V} {m:M} {i:Nat} (S:aP K H Z σ ρ F) (h:Ow K H Z x m G) (nd:(F++G).Nodup) (e:VL.lE i m ρ=some ρ'):∃F',aP K H Z (σ.set i (some x)) ρ' F'/\F'.Nodup/\∀a∈F',a∈F++G:=by
 unfold VL.lE at e
 split at e
 ·next hl =>
  cases e;obtain⟨n1,n2,n3⟩:=aV nd;obtain⟨F1,h1,h2,h3⟩:=S.drop i n1;obtain⟨F2,p1,p2,p3⟩:=h1.put h (aJ h2 n2 fun a z=>n3 a (h3 a z)) (by rw[List.getElem?_set_self hl])
  rw[List.set_set] at p1;refine⟨F2,p1,p2,fun a z => ?_⟩
  rcases lM (p3 a z) with z | z
  ·exact lL _ (h3 a z)
  ·exact lR _ z
 ·cases e
noncomputable def bh (i:Nat) (f:FE):FS:=fun ρ=>(f ρ).bind fun p=>(r8 p.1 p.2).bind fun q=>(lE i q.1 q.2).bind fun ρ'=>some (.nx ρ')
theorem BW {i:Nat} {x:Str} {e:Expr} {f:FE} {pos':Pos} (hp0:i∉pin) (hN:X.N.Nodup) (hi:X.N[i]? = some x) (hx:Loc X.env.scope x) (he:VE X e f) (hs:swapsWith e (some (.Name x pos')) pos.line X.env=pure false:=by rfl) (hf:X.fn x=true\/X.env.scope.names.lookup x=some .local:=by first | exact .inl rfl | exact .inr rfl | assumption) :
  VS X pin (.Assign [.Name x pos'] e pos) (bh i f):=fun pv hp=>iN (AQ hN hi hx he hs hf) fun D σ H hq=>by
 obtain⟨Z,ρ,F,o,S,w,P,e,q⟩:=hq;obtain⟨⟨o1,ρ1⟩,e1,e⟩:=oB e;obtain⟨⟨m,ρ2⟩,e2,e⟩:=oB e;obtain⟨ρ3,e3,e⟩:=oB e;cases e;refine⟨Z,ρ,F,o1,ρ1,S,w,e1,fun y H1 Z1 F1 G1 S1 O1 f1 => ?_⟩
 obtain⟨Z2,F2,G2,h1,h2,h3⟩:=moved S1 O1 f1 e2;obtain⟨F3,k1,k2,k3⟩:=h1.lE h2 h3.nd e3;exact q _ H1 Z2 F3 k1 (h3.sub k2 k3) (P.set hp hp0)
abbrev FG:=PyData->Ev->Option Ev
abbrev u9:=List PyData->Ev->Option Ev
noncomputable def vG (K:PySem.W.Frag) (pv:Pv) (f:FG):TG:=fun x σ H Q=>∃Z ρ F d ρ',aP K H Z σ ρ F/\F.Nodup/\Pin pv σ/\Fz K H Z x d/\f d ρ=some ρ'/\∀σ' F',aP K H Z σ' ρ' F'->F'.Nodup->(∀a∈F',a∈F)->Pin pv σ'->Q σ' H
noncomputable def DU (K:PySem.W.Frag) (pv:Pv) (f:u9):yo:=fun xs σ H Q=>∃Z ρ F ds ρ',aP K H Z σ ρ F/\F.Nodup/\Pin pv σ/\br K H Z xs ds/\f ds ρ=some ρ'/\∀σ' F',aP K H Z σ' ρ' F'->F'.Nodup->(∀a∈F',a∈F)->Pin pv σ'->Q σ' H
def VG (X:Cx) (pin:List Nat) (tg:Expr) (f:FG):Prop:=∀pv,Am pv pin->PG X tg (vG X.K pv f)
def CW (X:Cx) (pin:List Nat) (tg:List Expr) (f:u9):Prop:=∀pv,Am pv pin->Af X tg (DU X.K pv f)
theorem xr {tg:Expr} {t t':TG} (h:PG X tg t) (i:∀x σ H Q,t' x σ H Q->t x σ H Q):PG X tg t':=fun pins s σ H x u Q I r q=>h pins s σ H x u Q I r (i x σ H Q q)
theorem tU {tg:List Expr} {t t':yo} (h:Af X tg t) (i:∀x σ H Q,t' x σ H Q->t x σ H Q):Af X tg t':=fun pins s σ H x u Q I r q=>h pins s σ H x u Q I r (i x σ H Q q)
noncomputable def ah (i:Nat):FG:=fun d ρ=>lE i (.v d) ρ
theorem zv {i:Nat} {x:Str} (hp0:i∉pin) (hN:X.N.Nodup) (hi:X.N[i]? = some x) (hx:Loc X.env.scope x) (hf:X.fn x=true\/X.env.scope.names.lookup x=some .local:=by first | exact .inl rfl | exact .inr rfl | assumption):VG X pin (.Name x pos) (ah i):=fun pv hp=>xr (yC hN hi hx hf) fun x σ H Q hq=>by
 obtain⟨Z,ρ,F,d,ρ',S,w,P,fz,e,q⟩:=hq;obtain⟨F3,k1,k2,k3⟩:=S.lE (.v fz) (by rw[List.append_nil]; exact w) e
 rw[List.append_nil] at k3;exact q _ F3 k1 k2 k3 (P.set hp hp0)
noncomputable def cC:u9:=fun ds ρ=>match ds with
 | []=>some ρ
 | _=>none
noncomputable def aC (f:FG) (g:u9):u9:=fun ds ρ=>match ds with
 | d::ds=>(f d ρ).bind fun ρ1=>g ds ρ1
 | []=>none
theorem zw:CW X pin [] cC:=fun pv hp=>tU yD fun xs σ H Q hq=>by
 obtain⟨Z,ρ,F,ds,ρ',S,w,P,fz,e,q⟩:=hq;cases fz with
 | nil=>cases e; exact⟨rfl,q σ F S w (fun _ h=>h) P⟩
 | cons _ _=>cases e
theorem xu {e:Expr} {es:List Expr} {f:FG} {g:u9} (h1:VG X pin e f) (h2:CW X pin es g) (hs:(assignEach (e::es) X.env).map (·.2)=assign e X.env::(assignEach es X.env).map (·.2):=by rfl):CW X pin (e::es) (aC f g):=fun pv hp=>tU (vR (h1 pv hp) (h2 pv hp) hs) fun xs σ H Q hq=>by
 obtain⟨Z,ρ,F,ds,ρ',S,w,P,fz,e,q⟩:=hq;cases fz with
 | nil=>cases e
 | cons z1 z2 =>
  obtain⟨ρ1,e1,e⟩:=oB e;exact⟨_,_,rfl,Z,ρ,F,_,ρ1,S,w,P,z1,e1,fun σ1 F1 S1 w1 s1 P1=>⟨Z,ρ1,F1,_,ρ',S1,w1,P1,z2,e,fun σ2 F2 S2 w2 s2 P2=>q σ2 F2 S2 w2 (fun a h=>s1 a (s2 a h)) P2⟩⟩
noncomputable def bX (n:Nat) (g:u9):FG:=fun d ρ=>match d with
 | .tuple ds=>if ds.length=n then g ds ρ else none
 | _=>none
theorem BX {es:List Expr} {k n:Nat} {g:u9} (hc:X.calm=true) (h:CW X pin es g) (hpg:∀t:yo,Af X es t->PG X (.Tuple es k pos) (gTup X.K n t)):VG X pin (.Tuple es k pos) (bX n g):=fun pv hp=>xr (hpg _ (h pv hp)) fun x σ H Q hq=>by
 obtain⟨Z,ρ,F,d,ρ',S,w,P,fz,e,q⟩:=hq;unfold bX at e
 split at e
 ·split at e
  ·next hl =>
   obtain⟨a,xs,e1,e2,e3⟩:=fz.gU;exact⟨a,xs,e1,e2,by rw[e3.length]; exact hl,Z,ρ,F,_,ρ',S,w,P,e3,e,q⟩
  ·cases e
 ·cases e
noncomputable def r9 (f:FE) (g:FG):FS:=fun ρ=>(f ρ).bind fun p=>(cA p.1 p.2).bind fun q=>(g q.1 q.2).bind fun ρ'=>some (.nx ρ')
theorem BY {tg e:Expr} {f:FE} {g:FG} (he:VE X e f) (hg:VG X pin tg g) (hs:swapsWithSole [tg] e pos.line X.env=pure false:=by rfl) (hw:swappedStores [tg] e X.env=pure none:=by rfl)
  (hps:∀ (te:TE) (t:TG),PE X e te->PG X tg t->PS X (.Assign [tg] e pos) (oi te t):=by exact fun _ _ h1 h2=>kg h1 h2):VS X pin (.Assign [tg] e pos) (r9 f g):=fun pv hp=>iN (hps _ _ he (hg pv hp)) fun D σ H hq=>by
 obtain⟨Z,ρ,F,o,S,w,P,e,q⟩:=hq;obtain⟨⟨o1,ρ1⟩,e1,e⟩:=oB e;obtain⟨⟨d,ρ2⟩,e2,e⟩:=oB e;obtain⟨ρ3,e3,e⟩:=oB e;cases e;refine⟨Z,ρ,F,o1,ρ1,S,w,e1,fun y H1 Z1 F1 G1 S1 O1 f1 => ?_⟩
 obtain⟨Z2,F2,h1,h2,h3,_⟩:=gW S1 O1 f1 e2;exact⟨Z2,ρ2,F2,d,ρ3,h1,h3.nd,P,h2,e3,fun σ' F' S' w' s' P'=>q σ' H1 Z2 F' S' (h3.sub w' s') P'⟩
end
structure pe (K:PySem.W.Frag) (J:It) (H:Hp) (Z:Zs) (ds:List PyData):Prop where
 go:∀H2 Z2,aL H Z H2 Z2->∀k d,ds[k]? = some d->J.go k H2/\∀x H',J.yld k H2 x H'->bz H2 H'/\Fz K H' Z2 x d
 stop:∀H2 Z2,aL H Z H2 Z2->∀k,ds.length<=k->J.stop k H2
abbrev FI:=Ev->Option (List PyData×Ev)
noncomputable def vI (K:PySem.W.Frag) (f:FI):TI:=fun σ H R=>∃Z ρ F ds ρ',aP K H Z σ ρ F/\Wf H Z F/\f ρ=some (ds,ρ')/\∀J H' Z' F',aP K H' Z' σ ρ' F'->pe K J H' Z' ds->aI H Z F H' Z' F'->R J H'
abbrev VI (X:Cx) (tg iter:Expr) (f:FI):Prop:=PI X tg iter (vI X.K f)
section
variable {X:Cx} {pos:Pos} {pin:List Nat} {tg:Expr}
theorem pg {it:Expr} {t t':TI} (h:PI X tg it t) (i:∀σ H R,t' σ H R->t σ H R):PI X tg it t':=fun pins s σ H R I q=>h pins s σ H R I (i σ H R q)
theorem BZ {it:Expr} {t u:TI} (h:PI X tg it t) (h':PI X tg it u):PI X tg it (fun σ H R=>t σ H R\/u σ H R):=fun pins s σ H R I q=>q.elim (h pins s σ H R I) (h' pins s σ H R I)
noncomputable def C7:PyData->Option (List PyData)
 | .tuple ds=>some ds
 | .list ds=>some ds
 | _=>none
noncomputable def cO (f:FE):FI:=fun ρ=>(f ρ).bind fun p=>(cA p.1 p.2).bind fun q=>(C7 q.1).bind fun ds=>some (ds,q.2)
theorem zz {K:PySem.W.Frag} {H:Hp} {Z:Zs} {a:Addr} {ds:List PyData} (h:Fz K H Z (.ref a) (.list ds)):pe K (Dg K a) H Z ds:=by
 refine⟨fun H2 Z2 g k d hd => ?_,fun H2 Z2 g k hk => ?_⟩
 ·obtain⟨a',xs,e,r,fs⟩:=(h.mono g).lst_inv
  cases e;obtain⟨x,h1,h2⟩:=fs.get' hd;refine⟨⟨xs,x,r,h1⟩,fun y H' hy => ?_⟩
  obtain⟨rfl,hy⟩:=hy;have:=hy xs r;rw[h1] at this; cases this;exact⟨bz.refl _,h2⟩
 ·obtain⟨a',xs,e,r,fs⟩:=(h.mono g).lst_inv
  cases e;exact⟨xs,r,by rw[fs.length]; exact hk⟩
theorem pq {K:PySem.W.Frag} {H:Hp} {Z:Zs} {a:Addr} {xs:List V} {ds:List PyData} {k:Nat} {d:PyData} {y:V} (r:cK K H a xs) (fs:br K H Z xs ds) (hd:ds[k]? = some d) (hy:∀xs,cK K H a xs->xs[k]? = some y):Fz K H Z y d:=by
 obtain⟨x,h1,h2⟩:=fs.get' hd;have:=hy xs r;rw[h1] at this; cases this;exact h2
theorem B0 {K:PySem.W.Frag} {H:Hp} {Z:Zs} {a:Addr} {ds:List PyData} (h:Fz K H Z (.ref a) (.tuple ds)):pe K (Dh K a) H Z ds:=by
 refine⟨fun H2 Z2 g k d hd => ?_,fun H2 Z2 g k hk => ?_⟩
 ·obtain⟨a',xs,e,r,fs⟩:=(h.mono g).gU
  cases e;obtain⟨x,h1,h2⟩:=fs.get' hd;refine⟨⟨xs,x,r,h1⟩,fun y H' hy => ?_⟩
  obtain⟨rfl,hy⟩:=hy;exact⟨bz.refl _,pq r fs hd hy⟩
 ·obtain⟨a',xs,e,r,fs⟩:=(h.mono g).gU
  cases e;exact⟨xs,r,by rw[fs.length]; exact hk⟩
theorem B3 {l:Expr} {f:FE} (h:VE X l f):VI X tg l (cO f):=pg (BZ (yE h) (AR h)) fun σ H R hq=>by
 obtain⟨Z,ρ,F,ds,ρ',S,w,e,q⟩:=hq;obtain⟨⟨o1,ρ1⟩,e1,e⟩:=oB e;obtain⟨⟨d,ρ2⟩,e2,e⟩:=oB e;obtain⟨ds',e3,e⟩:=oB e;cases e;have key:∀x H1 Z1 F1 G1,aP X.K H1 Z1 σ ρ1 F1->mU X.K H1 Z1 σ x o1 G1->aI H Z F H1 Z1 (F1++G1)->∃Z2,Fz X.K H1 Z2 x d/\∀J,pe X.K J H1 Z2 ds->R J H1:=fun x H1 Z1 F1 G1 S1 O1 f1=>by
  obtain⟨Z2,F2,h1,h2,h3,_⟩:=gW S1 O1 f1 e2;exact⟨Z2,h2,fun J hJ=>q J H1 Z2 F2 h1 hJ h3⟩
 cases d with
 | tuple ds0 =>
  cases e3;refine .inr ⟨Z,ρ,F,o1,ρ1,S,w,e1,fun x H1 Z1 F1 G1 S1 O1 f1 => ?_⟩
  obtain⟨Z2,h2,h3⟩:=key x H1 Z1 F1 G1 S1 O1 f1;obtain⟨a,xs,rfl,r,fs⟩:=h2.gU;exact⟨a,rfl,⟨xs,r⟩,h3 _ (B0 h2)⟩
 | list ds0 =>
  cases e3;refine .inl ⟨Z,ρ,F,o1,ρ1,S,w,e1,fun x H1 Z1 F1 G1 S1 O1 f1 => ?_⟩
  obtain⟨Z2,h2,h3⟩:=key x H1 Z1 F1 G1 S1 O1 f1;obtain⟨a,xs,rfl,r,fs⟩:=h2.lst_inv;exact⟨a,rfl,⟨xs,r⟩,h3 _ (zz h2)⟩
 | _=>cases e3
noncomputable def aO (lo hi:Int):List PyData:=(List.range (hi-lo).toNat).map fun k:Nat=>PyData.int (lo+k)
noncomputable def bigI:Int:=1000000000
noncomputable def gJ (i:Int):Bool:=decide (-bigI<=i/\i<=bigI)
theorem jH {i:Int} (h:gJ i=true) : -(2 ^ 62)<=i/\i<2 ^ 62:=by
 have h:=of_decide_eq_true h;unfold bigI at h;lia
noncomputable def fj:List M->Option (List PyData)
 | [.v (.int j)]=>if gJ j=true then some (aO 0 j) else none
 | _=>none
noncomputable def vc:List M->Option (List PyData)
 | [.v (.int i),.v (.int j)]=>if gJ i=true/\gJ j=true then some (aO i j) else none
 | _=>none
noncomputable def bC (g:List M->Option (List PyData)) (fa:FA):FI:=fun ρ=>(fa ρ).bind fun p=>(iu p.2 p.1).bind fun ms=>(g ms).bind fun ds=>some (ds,p.2)
theorem xw {K:PySem.W.Frag} {H:Hp} {Z:Zs} (lo hi:Int):pe K (CP lo (hi-lo).toNat) H Z (aO lo hi):=by
 refine⟨fun H2 Z2 g k d hd => ?_,fun H2 Z2 g k hk => ?_⟩
 ·unfold aO at hd
  rw[List.getElem?_map] at hd;obtain⟨j,h1,h2⟩:=Option.map_eq_some_iff.mp hd;obtain⟨h3,h4⟩:=List.getElem?_eq_some_iff.mp h1;rw[List.length_range] at h3;rw[List.getElem_range] at h4;subst h4; subst h2;refine⟨h3,fun x H' hx => ?_⟩
  obtain⟨rfl,rfl⟩:=hx;exact⟨bz.refl _,.int _⟩
 ·unfold aO at hk
  rw[List.length_map,List.length_range] at hk;exact hk
theorem pA {fa:FA} {σ:L2.St} {H:Hp} {R:It->Hp->Prop} {ms:List M} {ds:List PyData} {Z:Zs} {ρ ρ1:Ev} {F:List Addr} {os:List dJ} (S:aP X.K H Z σ ρ F) (w:Wf H Z F) (e1:fa ρ=some (os,ρ1)) (e2:iu ρ1 os=some ms)
  (q:∀J H' Z' F',aP X.K H' Z' σ ρ1 F'->pe X.K J H' Z' ds->aI H Z F H' Z' F'->R J H') {T:List V->Hp->Prop} (hT:∀xs H1 Z1,Cz X.K H1 Z1 xs ms->(∀J,pe X.K J H1 Z1 ds->R J H1)->T xs H1):vA X.K fa σ H T :=
 ⟨Z,ρ,F,os,ρ1,S,w,e1,fun xs H1 Z1 F1 G1 S1 O1 f1=>hT xs H1 Z1 (O1.peek S1 e2) fun J hJ=>q J H1 Z1 F1 S1 hJ f1.left⟩
theorem zA {a:Expr} {fa:FA} {p:Pos} (hg:Gl X "range") (hm:X.mg "range" = none) (ha:VA X [a] fa) (hs:starEach [a] X.env=[(false,eval a X.env)]:=by rfl):VI X tg (.Call (.Name "range" p) [a] [] pos) (bC fj fa):=pg (uD hg hm ha hs) fun σ H R hq=>by
 obtain⟨Z,ρ,F,ds,ρ',S,w,e,q⟩:=hq;obtain⟨⟨os,ρ1⟩,e1,e⟩:=oB e;obtain⟨ms,e2,e⟩:=oB e;obtain⟨ds',e3,e⟩:=oB e;cases e;refine pA S w e1 e2 q fun xs H1 Z1 r h => ?_
 unfold fj at e3
 split at e3
 ·rename_i j
  split at e3
  ·next hl =>
   cases e3;obtain⟨x,rfl,h1⟩:=gn r;obtain rfl:=h1.int;have hj:=jH hl;refine⟨_,rfl,hj.1,hj.2,h _ ?_⟩;have k:=xw (K:=X.K) (H:=H1) (Z:=Z1) 0 j;rw[Int.sub_zero] at k;exact k
  ·cases e3
 ·cases e3
theorem zB {a b:Expr} {fa:FA} {p:Pos} (hg:Gl X "range") (hm:X.mg "range" = none) (ha:VA X [a,b] fa) (hs:starEach [a,b] X.env=[(false,eval a X.env),(false,eval b X.env)]:=by rfl) (hs2:starEach [b] X.env=[(false,eval b X.env)]:=by rfl):VI X tg (.Call (.Name "range" p) [a,b] [] pos) (bC vc fa):=pg (uE hg hm ha hs hs2) fun σ H R hq=>by
 obtain⟨Z,ρ,F,ds,ρ',S,w,e,q⟩:=hq;obtain⟨⟨os,ρ1⟩,e1,e⟩:=oB e;obtain⟨ms,e2,e⟩:=oB e;obtain⟨ds',e3,e⟩:=oB e;cases e;refine pA S w e1 e2 q fun xs H1 Z1 r h => ?_
 unfold vc at e3
 split at e3
 ·rename_i i j
  split at e3
  ·next hl =>
   cases e3;obtain⟨x,y,rfl,h1,h2⟩:=ros2 r;obtain rfl:=h1.int; obtain rfl:=h2.int;have hi:=jH hl.1;have hj:=jH hl.2;exact⟨_,_,rfl,⟨hi.1,hi.2,hj.1,hj.2⟩,h _ (xw i j)⟩
  ·cases e3
 ·cases e3
noncomputable def xx:List M->Option (List PyData)
 | [.v (.tuple a),.v (.tuple b)]=>some (List.zipWith (fun x y=>PyData.tuple [x,y]) a b)
 | _=>none
theorem B4 {a b:Expr} {fa:FA} {p tp:Pos} {es:List Expr} {k:Nat} (hg:Gl X "zip") (hm:X.mg "zip" = none) (ha:VA X [a,b] fa) (hs:starEach [a,b] X.env=[(false,eval a X.env),(false,eval b X.env)]:=by rfl) (hs2:starEach [b] X.env=[(false,eval b X.env)]:=by rfl):VI X (.Tuple es k tp) (.Call (.Name "zip" p) [a,b] [] pos) (bC xx fa):=pg (Bq hg hm ha hs hs2) fun σ H R hq=>by
 obtain⟨Z,ρ,F,ds,ρ',S,w,e,q⟩:=hq;obtain⟨⟨os,ρ1⟩,e1,e⟩:=oB e;obtain⟨ms,e2,e⟩:=oB e;obtain⟨ds',e3,e⟩:=oB e;cases e;refine pA S w e1 e2 q fun xs H1 Z1 r h => ?_
 unfold xx at e3
 split at e3
 ·rename_i A B
  cases e3;obtain⟨x,y,rfl,h1,h2⟩:=ros2 r;obtain⟨a,xs,rfl,t1,g1⟩:=h1.tup;obtain⟨b,ys,rfl,t2,g2⟩:=h2.tup;refine⟨a,b,rfl,⟨xs,t1⟩,⟨ys,t2⟩,h _ ⟨fun H2 Z2 g k d hd => ?_,fun H2 Z2 g k hk => ?_⟩⟩
  ·rw[List.getElem?_zipWith] at hd
   have u1:=g.tups.sq t1;have u2:=g.tups.sq t2;have v1:=g1.mono g;have v2:=g2.mono g;cases ea:A[k]? with
   | none=>rw[ea] at hd; cases hd
   | some da =>
    cases eb:B[k]? with
    | none=>rw[ea,eb] at hd; cases hd
    | some db =>
     rw[ea,eb] at hd;cases hd;obtain⟨x,x1,x2⟩:=v1.get' ea;obtain⟨y,y1,y2⟩:=v2.get' eb;refine⟨⟨xs,ys,x,y,u1,u2,x1,y1⟩,fun z H' hz => ?_⟩
     obtain⟨p,x',y',hp,rfl,rfl,zx,zy⟩:=hz;have s:=dc hp (.tup [x',y']);exact⟨s,.tup (cK.of aK) (.cons ((pq u1 v1 ea zx).mono (aL.same s)) (.cons ((pq u2 v2 eb zy).mono (aL.same s)) .nil))⟩
  ·rw[List.length_zipWith] at hk
   refine⟨xs,ys,g.tups.sq t1,g.tups.sq t2,?_⟩;rw[g1.length,g2.length];lia
 ·cases e3
noncomputable def forL (fg:FG) (fb:FS):List PyData->Ev->Option Out
 | [],ρ=>some (.nx ρ)
 | d::ds,ρ=>(fg d ρ).bind fun ρ1=>(fb ρ1).bind fun o=>match o with
  | .nx ρ2=>forL fg fb ds ρ2
  | .ct ρ2=>forL fg fb ds ρ2
  | .bk ρ2=>some (.nx ρ2)
  | .rt m ρ2=>some (.rt m ρ2)
noncomputable def gc (fi:FI) (fg:FG) (fb:FS):FS:=fun ρ=>(fi ρ).bind fun p=>forL fg fb p.1 p.2
theorem zC {fi:FI} {fg:FG} {fb:FS} {pv:Pv} {D:Ends} {σ:L2.St} {H:Hp} (hq:vS X.K pv (gc fi fg fb) D σ H):tFor (vI X.K fi) (vG X.K pv fg) (vS X.K pv fb) D σ H:=by
 obtain⟨Z,ρ,F,o,S,w,P,e,q⟩:=hq;obtain⟨⟨ds,ρ1⟩,e1,e⟩:=oB e;refine⟨Z,ρ,F,ds,ρ1,S,w,e1,fun J H1 Z1 F1 S1 hJ f1 => ?_⟩
 refine⟨fun i m σ' H'=>m=ds.length-i/\i<=ds.length/\∃Z' ρ' F',aP X.K H' Z' σ' ρ' F'/\Wf H' Z' F'/\Pin pv σ'/\aL H1 Z1 H' Z'/\∃out,forL fg fb (ds.drop i) ρ'=some out/\qB X.K pv D H' Z' F' out,⟨_,rfl,Nat.zero_le _,Z1,ρ1,F1,S1,f1.wf,P,aL.refl,o,e,q.trans f1⟩,fun i m σ2 H2 hW => ?_⟩
 obtain⟨rfl,hi,Z2,ρ2,F2,S2,w2,P2,g2,out,e2,q2⟩:=hW;rcases Nat.lt_or_eq_of_le hi with hi | rfl
 ·right
  rw[List.drop_eq_getElem_cons hi] at e2;have hd:ds[i]? = some ds[i]:=List.getElem?_eq_getElem hi;obtain⟨go,yl⟩:=hJ.go H2 Z2 g2 i _ hd;obtain⟨ρ3,e3,e2⟩:=oB e2;obtain⟨o3,e4,e2⟩:=oB e2;refine⟨go,fun σ' H'=>∃m',m'<ds.length-i/\m'=ds.length-(i+1)/\i+1<=ds.length/\∃Z' ρ' F',aP X.K H' Z' σ' ρ' F'/\Wf H' Z' F'/\Pin pv σ'/\aL H1 Z1 H' Z'/\∃out,forL fg fb (ds.drop (i+1)) ρ'=some out/\qB X.K pv D H' Z' F' out,fun σ' H' h=>h,fun x H' hx => ?_⟩
  obtain⟨s,fz⟩:=yl x H' hx;have gs:aL H2 Z2 H' Z2:=aL.same s;have S2':=S2.mono gs fun a _ o e=>s a o e
  have fs:aI H2 Z2 F2 H' Z2 F2:=by
   have:=(aI.same s w2.za).news w2 S2.al;rw[List.append_nil] at this;exact this
  refine⟨Z2,ρ2,F2,_,ρ3,S2',w2.nd,P2,fz,e3,fun σ3 F3 S3 n3 s3 P3 => ?_⟩
  have f3:aI H2 Z2 F2 H' Z2 F3:=fs.sub n3 s3;refine⟨Z2,ρ3,F3,o3,S3,f3.wf,P3,e4,?_⟩;have again:∀ρ4,forL fg fb (ds.drop (i+1)) ρ4=some out->∀σ' H4 Z4 F4,aP X.K H4 Z4 σ' ρ4 F4->aI H' Z2 F3 H4 Z4 F4->Pin pv σ'->∃m',m'<ds.length-i/\m'=ds.length-(i+1)/\i+1<=ds.length/\∃Z' ρ' F',aP X.K H4 Z' σ' ρ' F'/\Wf H4 Z' F'/\Pin pv σ'/\aL H1 Z1 H4 Z'/\∃out,forL fg fb (ds.drop (i+1)) ρ'=some out/\qB X.K pv D H4 Z' F' out:=fun ρ4 e5 σ' H4 Z4 F4 S4 f4 P4 =>
   ⟨_,by lia,rfl,hi,Z4,ρ4,F4,S4,f4.wf,P4,(g2.trans gs).trans (f4.grow f3.wf),out,e5,q2.trans (f3.trans f4)⟩
  cases o3 with
  | nx ρ4=>exact again ρ4 e2
  | ct ρ4=>exact again ρ4 e2
  | bk ρ4=>cases e2; exact fun σ' H4 Z4 F4 S4 f4 P4=>q2 σ' H4 Z4 F4 S4 (f3.trans f4) P4
  | rt m ρ4=>cases e2; exact fun x σ' H4 Z4 F4 G S4 O4 f4 P4=>q2 x σ' H4 Z4 F4 G S4 O4 (f3.trans f4) P4
 ·left
  rw[List.drop_length] at e2;cases e2;exact⟨hJ.stop H2 Z2 g2 _ (Nat.le_refl _),q2 σ2 H2 Z2 F2 S2 (aI.refl w2) P2⟩
theorem B5 {iter:Expr} {body:List Stmt} {fi:FI} {fg:FG} {fb:FS} (hp0:PassesOwn (model X.prog X.w) X.A X.env X.xe) (hc:X.calm=true) (hi:VI X tg iter fi) (hg:VG X pin tg fg) (hb:zl X pin body fb)
  (hs:∀x,foldedSetIterable iter X.env x=pure x:=by intro _; rfl):VS X pin (.For tg iter body [] pos) (gc fi fg fb):=fun pv hp=>iN (AS hp0 hc hi (hg pv hp) (hb pv hp) hs) fun _ _ _ hq=>zC hq
end
noncomputable def fin:List Bool->List M->Ev->Option (List M)
 | [],[],_=>some []
 | true::ps,_::ms,some m'::ρ=>(fin ps ms ρ).bind fun ms'=>some (m'::ms')
 | false::ps,.v d::ms,_::ρ=>(fin ps ms ρ).bind fun ms'=>some (.v d::ms')
 | _,_,_=>none
section
variable {K:PySem.W.Frag} {H:Hp} {Z:Zs}
theorem jI:∀ {ps:List Bool} {ms:List M} {ρ:Ev} {ms':List M} {σ:L2.St} {F:List Addr} {vs:List V},aP K H Z σ ρ F->F.Nodup->(∀ (i:Nat) x,ps[i]? = some true->vs[i]? = some x->σ[i]? = some (some x)) ->
  (∀ (i:Nat) x d,ps[i]? = some false->vs[i]? = some x->ms[i]? = some (.v d)->Fz K H Z x d)->vs.length=ms.length->fin ps ms ρ=some ms'->∃A,qA K H Z vs ms' A/\A.Nodup/\∀a∈A,a∈F
 | [],[],ρ,_,σ,F,vs,S,nd,_,_,hl,e=>by
  have e:some []=some _:=e;cases e;have:vs=[]:=List.length_eq_zero_iff.mp (by simpa using hl)
  subst this;exact⟨[],.nil,List.nodup_nil,fun a h=>by simp at h⟩
 | true::ps,_::ms,some m'::ρ,_,_,_,v::vs,.som (x:=x) (G:=G) (F:=F) q r,nd,h1,h2,hl,e=>by
  obtain⟨ms',e1,e⟩:=oB e;cases e;obtain⟨n1,n2,n3⟩:=aV nd;have hx:=h1 0 v rfl rfl;cases hx;obtain⟨A,a1,a2,a3⟩:=jI r n2 (fun i x p q=>by simpa using h1 (i+1) x (by simpa using p) (by simpa using q)) (fun i x d p q z=>h2 (i+1) x d (by simpa using p) (by simpa using q) (by simpa using z)) (by simpa using hl) e1
  refine⟨G++A,.cons q a1,aJ n1 a2 fun a h z=>n3 a h (a3 a z),fun a h => ?_⟩
  rcases lM h with h | h
  ·exact lL _ h
  ·exact lR _ (a3 a h)
 | false::ps,.v d::ms,c::ρ,_,σ,F,v::vs,S,nd,h1,h2,hl,e=>by
  obtain⟨ms',e1,e⟩:=oB e;cases e;have key:∀ {σ':L2.St} {F':List Addr},aP K H Z σ' ρ F'->F'.Nodup->(∀a∈F',a∈F)->(∀ (i:Nat) x,ps[i]? = some true->vs[i]? = some x->σ'[i]? = some (some x))->∃A,qA K H Z (v::vs) (.v d::ms') A/\A.Nodup/\∀a∈A,a∈F:=fun {σ' F'} S' nd' sub h1'=>by
   obtain⟨A,a1,a2,a3⟩:=jI S' nd' h1' (fun i x d p q z=>h2 (i+1) x d (by simpa using p) (by simpa using q) (by simpa using z)) (by simpa using hl) e1
   exact⟨[]++A,.cons (.v (h2 0 v d rfl rfl rfl)) a1,by rw[List.nil_append]; exact a2,fun a h=>by rw[List.nil_append] at h; exact sub a (a3 a h)⟩
  have hσ:∀ {x:Option V} {σ':L2.St},σ=x::σ'->(∀ (i:Nat) x,ps[i]? = some true->vs[i]? = some x->σ'[i]? = some (some x)):=fun {x σ'} eσ i y p q=>by
   have:=h1 (i+1) y (by simpa using p) (by simpa using q)
   rw[eσ] at this;simpa using this
  cases S with
  | non r=>exact key r nd (fun _ h=>h) (hσ rfl)
  | som q r=>exact key r (aV nd).2.1 (fun a h=>lR _ h) (hσ rfl)
 | true::_,_::_,some _::_,_,_,_,[],_,_,_,_,hl,_=>by simp at hl
 | false::_,.v _::_,_::_,_,_,_,[],_,_,_,_,hl,_=>by simp at hl
 | false::_,.lst _::_,_::_,_,_,_,_,_,_,_,_,_,e=>by cases e
 | false::_,.bL _::_,_::_,_,_,_,_,_,_,_,_,_,e=>by cases e
 | false::_,.bG _::_,_::_,_,_,_,_,_,_,_,_,_,e=>by cases e
 | true::_,_::_,none::_,_,_,_,_,_,_,_,_,_,e=>by cases e
 | true::_,_::_,[],_,_,_,_,_,_,_,_,_,e=>by cases e
 | false::_,.v _::_,[],_,_,_,_,_,_,_,_,_,e=>by cases e
 | false::_,.lst _::_,[],_,_,_,_,_,_,_,_,_,e=>by cases e
 | false::_,.bL _::_,[],_,_,_,_,_,_,_,_,_,e=>by cases e
 | false::_,.bG _::_,[],_,_,_,_,_,_,_,_,_,e=>by cases e
 | [],_::_,_,_,_,_,_,_,_,_,_,_,e=>by cases e
 | true::_,[],_,_,_,_,_,_,_,_,_,_,e=>by cases e
 | false::_,[],_,_,_,_,_,_,_,_,_,_,e=>by cases e
theorem aP.pB:∀ {xs:List V} {ms:List M} {A:List Addr} (n:Nat),qA K H Z xs ms A->aP K H Z (xs.map some++List.replicate n none) (ms.map some++List.replicate n none) A
 | _,_,_,0,.nil=>.nil
 | _,_,_,n+1,.nil=>.non (aP.pB n .nil)
 | _,_,_,n,.cons h r=>.som h (aP.pB n r)
theorem aP.pF {xs:List V} {ms:List M} {A:List Addr} (h:qA K H Z xs ms A):∀n:Nat,aP K H Z (List.replicate n none++xs.map some) (List.replicate n none++ms.map some) A
 | 0=>by have:=aP.pB 0 h; simpa using this
 | n+1=>.non (aP.pF h n)
end
noncomputable def fm (ps:List Bool) (n:Nat) (fb:FS):FF:=fun ms=>if ms.length=ps.length then (fb (ms.map some++List.replicate (n-ms.length) none)).bind fun o=>match o with
 | .rt m ρ=>(fin ps ms ρ).bind fun ms'=>some (m,ms')
 | .nx ρ=>(fin ps ms ρ).bind fun ms'=>some (.v .none,ms')
 | _=>none
 else none
noncomputable def pins:List Bool->Nat->List Nat
 | [],_=>[]
 | true::ps,k=>k::pins ps (k+1)
 | false::ps,k=>pins ps (k+1)
theorem lF:∀ {ps:List Bool} {k i:Nat},ps[i]? = some true->k+i∈pins ps k
 | [],_,_,h=>by simp at h
 | true::ps,k,0,_=>lS
 | true::ps,k,i+1,h=>lO _ (by have:=lF (k:=k+1) (i:=i) (ps:=ps) (by simpa using h); rw[show k+(i+1)=k+1+i by lia]; exact this)
 | false::ps,k,0,h=>by simp at h
 | false::ps,k,i+1,h=>by have:=lF (k:=k+1) (i:=i) (ps:=ps) (by simpa using h); rw[show k+(i+1)=k+1+i by lia]; exact this
theorem qA.get {K:PySem.W.Frag} {H:Hp} {Z:Zs}:∀ {xs:List V} {ms:List M} {A:List Addr} {i:Nat} {x:V} {m:M},qA K H Z xs ms A->xs[i]? = some x->ms[i]? = some m->∃G,Ow K H Z x m G
 | _,_,_,_,_,_,.nil,e,_=>by simp at e
 | _,_,_,0,_,_,.cons h r,e,e'=>by cases e; cases e'; exact⟨_,h⟩
 | _,_,_,i+1,_,_,.cons h r,e,e'=>qA.get (i:=i) r (by simpa using e) (by simpa using e')
section
variable {P:Program} {w:World} {K:PySem.W.Frag} {mg:Str->Option Value} {base:Heap}
theorem B6 {x qual:Str} {st:Stmt} {f:Addr} {fd:FuncData} {N prs:List Str} {k:Nat} (ps:List Bool) {fb:FS} (Fn:mE K x qual st f fd) (S:aT N prs (aq st)) (hl:prs.length=ps.length)
  (hb:∀ (cdv:Value) (A:Around) (outer:List Env) (s:Shared) (H:Hp) (E:XK),eN k (A.deeper (envOfC qual (aq st) s.heap.objs.size f cdv))->zl (p7 jx P w K mg base N qual (aq st) f cdv A outer s H E).Cy (pins ps 0) (aQ st) fb) :
  cu P w K mg base jx (k+1) f fd prs (cT K (fm ps N.length fb)):=by
 refine Fn.ok S (fun vs H Q E h => ?_) fun cdv A outer s H vs Q E hr h => ?_
 ·obtain⟨Z,ms,A,m,ms',h1,_,e,_⟩:=h
  unfold fm at e
  split at e
  ·next he=>rw[hl,<-he,h1.length]
  ·cases e
 ·obtain⟨Z,ms,A',m,ms',h1,h2,e,q⟩:=h
  unfold fm at e
  split at e
  ·next he =>
   let pv:Pv:=fun i=>if ps[i]? = some true then vs[i]? else none
   have sup:Am pv (pins ps 0):=fun j y e=>by
    have e:(if ps[j]? = some true then vs[j]? else none)=some y:=e
    split at e
    ·next hj=>have:=lF (k:=0) hj; rwa [Nat.zero_add] at this
    ·cases e
   refine⟨_,hb cdv A outer s H E hr pv sup,?_⟩;obtain⟨o,e1,e⟩:=oB e;have hlen:=h1.length;have pin0:Pin pv (L2.start N vs):=fun i y e=>by
    have e:(if ps[i]? = some true then vs[i]? else none)=some y:=e
    split at e
    ·unfold L2.start
     rw[List.getElem?_append_left (by rw[List.length_map]; exact (List.getElem?_eq_some_iff.mp e).1),List.getElem?_map,e]
     rfl
    ·cases e
   have S0:aP K H Z (L2.start N vs) (ms.map some++List.replicate (N.length-ms.length) none) A':=by
    have:=aP.pB (N.length-ms.length) h1;rw[<-hlen] at this;unfold L2.start;rw[<-hlen];exact this
   have fz0:∀ (i:Nat) x d,ps[i]? = some false->vs[i]? = some x->ms[i]? = some (.v d)->Fz K H Z x d:=fun i x d _ h h'=>by
    obtain⟨G,z⟩:=h1.get h h';cases z with
    | v f=>exact f
   have pinR:∀ {σ':L2.St},Pin pv σ'->∀ (i:Nat) x,ps[i]? = some true->vs[i]? = some x->σ'[i]? = some (some x):=fun {σ'} P' i x h h'=>P' i x (by show (if ps[i]? = some true then vs[i]? else none)=some x; rw[if_pos h]; exact h')
   refine⟨Z,_,A',o,S0,h2,pin0,e1,?_⟩;cases o with
   | nx ρ =>
    obtain⟨ms2,e2,e⟩:=oB e;cases e;intro σ' H' Z' F' S' f' P';obtain⟨A2,a1,a2,a3⟩:=jI S' f'.nd (pinR P') (fun i x d h h' h''=>(fz0 i x d h h' h'').mono (f'.grow h2)) hlen e2
    exact q .non H' Z' A2 [] a1 (.v .non) (f'.sub a2 a3).nil
   | rt m2 ρ =>
    obtain⟨ms2,e2,e⟩:=oB e;cases e;intro x σ' H' Z' F' G S' O' f' P';obtain⟨n1,n2,n3⟩:=aV f'.nd;obtain⟨A2,a1,a2,a3⟩:=jI S' n1 (pinR P') (fun i x d h h' h''=>(fz0 i x d h h' h'').mono (f'.grow h2)) hlen e2
    refine q x H' Z' A2 G a1 O' (f'.sub (aJ a2 n2 fun a h z=>n3 a (a3 a h) z) fun a h => ?_)
    rcases lM h with h | h
    ·exact lL _ (a3 a h)
    ·exact lR _ h
   | bk ρ=>cases e
   | ct ρ=>cases e
  ·cases e
end
noncomputable def cH:FT:=fun ρ=>some (true,ρ)
abbrev VF (X:Cx) (ifs:List Expr) (f:FT):Prop:=rH X ifs (vT X.K f)
section
variable {X:Cx} {pos:Pos}
theorem B7:VF X [] cH:=fun pins s σ H Q I hq=>Bf pins s σ H Q I (by
 obtain⟨Z,ρ,F,b,ρ',S,w,e,q⟩:=hq;cases e;exact q H Z F S (aI.refl w))
theorem B8 {c:Expr} {f:FT} (h:VT X c f):VF X [c] f:=Bg h
end
noncomputable def cap (ρ:Ev) (j:Nat):Option dJ:=match cS ρ j with
 | some (.v d)=>some (.t (.v d))
 | some _=>some (.p j)
 | none=>none
noncomputable def caps (ρ:Ev):List Nat->Option (List dJ)
 | []=>some []
 | j::js=>(cap ρ j).bind fun o=>(caps ρ js).bind fun os=>some (o::os)
noncomputable def bR (fg:FG) (ft:FT) (fe:FE):List PyData->Ev->List PyData->Option (List PyData×Ev)
 | [],ρ,acc=>some (acc,ρ)
 | d::ds,ρ,acc=>(fg d ρ).bind fun ρ1=>(ft ρ1).bind fun t=>if t.1=true then
   (fe t.2).bind fun p=>(cA p.1 p.2).bind fun q=>if acc.length<lim then bR fg ft fe ds q.2 (acc++[q.1]) else none
  else bR fg ft fe ds t.2 acc
noncomputable def jX (n:Nat) (js:List Nat) (fi:FI) (fg:FG) (ft:FT) (fe:FE):FE:=fun ρ=>(fi ρ).bind fun p=>(caps p.2 js).bind fun os=>(dh os p.2).bind fun q =>
 (bR fg ft fe p.1 (List.replicate n none++q.1.map some) []).bind fun r=>(fin (List.replicate js.length true) q.1 (r.2.drop n)).bind fun ms'=>some (.t (.lst r.1),gu os ms' q.2)
noncomputable def slot (σ:L2.St) (j:Nat):Option V:=match σ[j]? with
 | some v=>v
 | none=>none
noncomputable def lG (n:Nat) (js:List Nat) (σ:L2.St):Pv:=fun k=>if k<n then none else match js[k-n]? with
 | some j=>slot σ j
 | none=>none
section
variable {K:PySem.W.Frag} {H:Hp} {Z:Zs} {σ:L2.St} {ρ:Ev} {F:List Addr}
theorem pG (S:aP K H Z σ ρ F):∀ {js:List Nat} {os:List dJ},caps ρ js=some os->∃xs,iF K H Z σ xs os []/\xs.map some=js.map (slot σ)/\xs.length=js.length
 | [],_,e=>by cases e; exact⟨[],.nil,rfl,rfl⟩
 | j::js,_,e=>by
  obtain⟨o,e1,e⟩:=oB e;obtain⟨os,e2,e⟩:=oB e;cases e;obtain⟨xs,h1,h2,h3⟩:=pG S e2;unfold cap at e1;cases hm:cS ρ j with
  | none=>rw[hm] at e1; cases e1
  | some m =>
   obtain⟨x,G,k1,k2,k3⟩:=S.get (aG.mp hm);have ho:mU K H Z σ x o []:=by
    rw[hm] at e1;cases m with
    | v d=>cases e1; cases k2 with
     | v f=>exact .t (.v f)
    | lst _=>cases e1; exact .p k1
    | bL _=>cases e1; exact .p k1
    | bG _=>cases e1; exact .p k1
   refine⟨x::xs,.cons (G:=[]) ho h1,?_,by rw[List.length_cons,List.length_cons,h3]⟩
   rw[List.map_cons,List.map_cons,h2];unfold slot;rw[k1]
theorem tV (n:Nat) (js:List Nat) (σ:L2.St):oO (List.replicate n none++js.map some) σ=List.replicate n none++js.map (slot σ):=by
 unfold oO;rw[List.map_append,List.map_replicate,List.map_map];rfl
theorem xy (n:Nat) (js:List Nat) (σ:L2.St):Pin (lG n js σ) (List.replicate n none++js.map (slot σ)):=fun k x e=>by
 unfold lG at e
 split at e
 ·cases e
 ·next hk =>
  rw[List.getElem?_append_right (by rw[List.length_replicate]; lia),List.length_replicate,List.getElem?_map]
  cases hj:js[k-n]? with
  | none=>rw[hj] at e; cases e
  | some j=>rw[hj] at e; rw[Option.map_some]; exact congrArg some e
theorem se (n:Nat) (js:List Nat) (σ:L2.St) {pin:List Nat} (hp:pin=(List.range js.length).map (n + ·)):Am (lG n js σ) pin:=fun k x e=>by
 unfold lG at e
 split at e
 ·cases e
 ·next hk =>
  cases hj:js[k-n]? with
  | none=>rw[hj] at e; cases e
  | some j =>
   subst hp;have:=(List.getElem?_eq_some_iff.mp hj).1;exact List.mem_map.mpr ⟨k-n,List.mem_range.mpr this,by lia⟩
end
section
variable {X:Cx} {pos:Pos}
theorem aP.tW {K:PySem.W.Frag} {H:Hp} {Z:Zs}:∀ {σ:L2.St} {ρ:Ev} {F:List Addr} (n:Nat),aP K H Z σ ρ F->F.Nodup->∃F',aP K H Z (σ.drop n) (ρ.drop n) F'/\F'.Nodup/\∀a∈F',a∈F
 | _,_,F,0,h,nd=>⟨F,h,nd,fun _ h=>h⟩
 | _,_,_,n+1,.nil,nd=>⟨[],.nil,nd,fun _ h=>h⟩
 | _,_,_,n+1,.non r,nd=>aP.tW n r nd
 | _,_,_,n+1,.som q r,nd=>by
  obtain⟨F',h1,h2,h3⟩:=aP.tW n r (aV nd).2.1;exact⟨F',h1,h2,fun a h=>lR _ (h3 a h)⟩
theorem aI.put {H0 H:Hp} {Z0 Z:Zs} {F0 F:List Addr} {D:Addr} {o o':HO} (f:aI H0 Z0 F0 H Z (F++[D])) (e:H D=some o) (hn:∀u,o≠.tup u) (hf:∀x u,o≠.frz x u):aI H0 Z0 F0 (upd H D o') Z (F++[D])/\aL H Z (upd H D o') Z:=by
 have hD:D∈F++[D]:=lR _ lS;have nz:¬Z D:=f.dz D hD;have keep:∀a o2,a≠D->H a=some o2->upd H D o' a=some o2:=fun a o2 n h=>by rw[aB n]; exact h
 have za:∀a,Z a->upd H D o' a≠none:=fun a z=>by
  have hne:a≠D:=fun h=>nz (h▸z)
  rw[aB hne];exact f.za a z
 have g:aL H Z (upd H D o') Z:=⟨dI.put e hn hf,fun a o2 z h=>keep a o2 (fun w=>nz (w▸z)) h,fun _ z=>z⟩
 refine⟨f.trans ⟨fun a o2 n h=>keep a o2 (fun w=>n (w▸hD)) h,g.tups,fun _ z=>z,fun a z=>.inl z,fun a h=>.inl h,f.nd,f.dz,za⟩,g⟩
theorem zD {n:Nat} {pv:Pv} {fg:FG} {ft:FT} {fe:FE} {J:It} {ds:List PyData} {D:Addr} {τ:L2.St} {H1:Hp} {Z1:Zs} {A:List Addr} {ρ0:Ev} {r:List PyData×Ev} {Q:Hp->Prop} (hD:H1 D=none) (S:aP X.K H1 Z1 τ ρ0 A) (w:Wf H1 Z1 A) (P:Pin pv τ) (hJ:pe X.K J H1 Z1 ds) (e:bR fg ft fe ds ρ0 []=some r)
  (q:∀τ' H' Z' F' xs,aP X.K H' Z' τ' r.2 F'->Pin pv τ'->H' D=some (.lst xs)->br X.K H' Z' xs r.1->aI H1 Z1 A H' Z' (F'++[D])->Q H'):qk (vG X.K pv fg) (vT X.K ft) (eApp D (vE X.K fe)) J τ (upd H1 D (.lst [])) Q:=by
 have n0:=aI.newl (o:=.lst []) hD w.za;have f0:aI H1 Z1 A (upd H1 D (.lst [])) Z1 (A++[D]):=n0.news w S.al;refine⟨fun i m τ' H'=>m=ds.length-i/\i<=ds.length/\∃Z' ρ' F' acc xs,aP X.K H' Z' τ' ρ' F'/\Pin pv τ'/\H' D=some (.lst xs)/\br X.K H' Z' xs acc/\aI H1 Z1 A H' Z' (F'++[D])/\bR fg ft fe (ds.drop i) ρ' acc=some r,⟨_,rfl,Nat.zero_le _,Z1,ρ0,A,[],[],S.news n0,P,aK,.nil,f0,e⟩,fun i m τ2 H2 hW => ?_⟩
 obtain⟨rfl,hi,Z2,ρ2,F2,acc,xs,S2,P2,d2,z2,f2,e2⟩:=hW;rcases Nat.lt_or_eq_of_le hi with hi | rfl
 ·right
  rw[List.drop_eq_getElem_cons hi] at e2;have hd:ds[i]? = some ds[i]:=List.getElem?_eq_getElem hi;obtain⟨go,yl⟩:=hJ.go H2 Z2 (f2.grow w) i _ hd;obtain⟨ρ3,e3,e2⟩:=oB e2;obtain⟨⟨b,ρ4⟩,e4,e2⟩:=oB e2;refine⟨go,fun τ' H'=>∃m',m'<ds.length-i/\m'=ds.length-(i+1)/\i+1<=ds.length/\∃Z' ρ' F' acc xs,aP X.K H' Z' τ' ρ' F'/\Pin pv τ'/\H' D=some (.lst xs)/\br X.K H' Z' xs acc/\aI H1 Z1 A H' Z' (F'++[D])/\bR fg ft fe (ds.drop (i+1)) ρ' acc=some r,fun τ' H' h=>h,fun x H' hx => ?_⟩
  obtain⟨s,fz⟩:=yl x H' hx;have gs:aL H2 Z2 H' Z2:=aL.same s;have S2':=S2.mono gs fun a _ o e=>s a o e
  obtain⟨m1,m2,m3⟩:=aV f2.nd;have alD:∀a∈F2++[D],H2 a≠none:=fun a h e=>by
   rcases lM h with h | h
   ·exact S2.al a h e
   ·rw[List.mem_singleton.mp h,d2] at e; cases e
  have fs:aI H2 Z2 (F2++[D]) H' Z2 (F2++[D]):=by
   have:=(aI.same s f2.za).news f2.wf alD;rw[List.append_nil] at this;exact this
  refine⟨Z2,ρ2,F2,_,ρ3,S2',m1,P2,fz,e3,fun τ3 F3 S3 n3 s3 P3 => ?_⟩
  have f3:aI H1 Z1 A H' Z2 (F3++[D]):=(f2.trans fs).sub (aJ n3 m2 fun a h z=>m3 a (s3 a h) z) fun a h=>by
   rcases lM h with h | h
   ·exact lL _ (s3 a h)
   ·exact lR _ h
  have d3:H' D=some (.lst xs):=s D _ d2;have alD3:∀ {Hx:Hp} {u:List V},Hx D=some (.lst u)->∀a∈[D],Hx a≠none:=fun {Hx u} h a ha e=>by rw[List.mem_singleton.mp ha,h] at e; cases e
  refine⟨Z2,ρ3,F3,b,ρ4,S3,f3.left.wf,e4,fun H4 Z4 F4 S4 g4 => ?_⟩
  have f4:aI H1 Z1 A H4 Z4 (F4++[D]):=f3.trans (g4.frame f3.wf (alD3 d3));have d4:H4 D=some (.lst xs):=g4.keep D _ (fun z=>(aV f3.nd).2.2 D z lS) d3
  have z4:=(z2.mono gs).mono (g4.grow f3.left.wf);cases b with
  | false=>exact iteF ⟨_,by lia,rfl,hi,Z4,ρ4,F4,acc,xs,S4,P3,d4,z4,f4,e2⟩
  | true =>
   obtain⟨⟨o5,ρ5⟩,e5,e2⟩:=oB e2;obtain⟨⟨d,ρ6⟩,e6,e2⟩:=oB e2
   split at e2
   ·next hl =>
    refine iteT ⟨Z4,ρ4,F4,o5,ρ5,S4,f4.left.wf,e5,fun y H5 Z5 F5 G5 S5 O5 g5 => ?_⟩
    have d5:H5 D=some (.lst xs):=g5.keep D _ (fun z=>(aV f4.nd).2.2 D z lS) d4
    have f5:aI H1 Z1 A H5 Z5 (F5++G5++[D]):=f4.trans (g5.frame f4.wf (alD3 d4));obtain⟨Z6,F6,S6,y6,f6,g6⟩:=freeze S5 O5 f5 e6;have z6:=(z4.mono (g5.grow f4.left.wf)).mono g6;obtain⟨f7,g7⟩:=f6.put (o':=.lst (xs++[y])) d5 (fun _ z=>nomatch z) (fun _ _ z=>nomatch z)
    refine⟨xs,d5,gF (Nat.le_of_lt (by rw[z6.length]; exact hl)),_,by lia,rfl,hi,Z6,ρ6,F6,acc++[d],xs++[y],S6.mono g7 fun a h o e => ?_,P3,aK,(z6.mono g7).append (.cons (y6.mono g7) .nil),f7,e2⟩
    have hne:a≠D:=fun z=>(aV f6.nd).2.2 a h (by rw[z]; exact lS)
    rw[aB hne];exact e
   ·cases e2
 ·left
  rw[List.drop_length] at e2;cases e2;exact⟨hJ.stop H2 Z2 (f2.grow w) _ (Nat.le_refl _),q τ2 H2 Z2 F2 xs S2 P2 d2 z2 f2⟩
theorem xA {n:Nat} {js:List Nat} {fi:FI} {fg:FG} {ft:FT} {fe:FE} {σ:L2.St} {H:Hp} {Q:VK} {fr:List (Option Nat)} (hfr:fr=List.replicate n none++js.map some) (hq:vE X.K (jX n js fi fg ft fe) σ H Q) :
  Dl fr (vI X.K fi) (fun _=>vG X.K (lG n js σ) fg) (fun _=>vT X.K ft) (fun _=>vE X.K fe) σ H Q:=by
 subst hfr;obtain⟨Z,ρ,F,o,ρ',S,w,e,q⟩:=hq;obtain⟨⟨ds,ρ1⟩,e1,e⟩:=oB e;obtain⟨os,e2,e⟩:=oB e;obtain⟨⟨ms,ρh⟩,e3,e⟩:=oB e;obtain⟨⟨acc,ρi⟩,e4,e⟩:=oB e;obtain⟨ms',e5,e⟩:=oB e;cases e;refine⟨Z,ρ,F,ds,ρ1,S,w,e1,fun J H1 Z1 F1 S1 hJ f1 D hD z => ?_⟩
 obtain⟨xs,O1,hxs,hxl⟩:=pG S1 e2;obtain⟨A,Fh,h1,h2,h3,h4⟩:=lD S1 O1 (by rw[List.append_nil]; exact f1.nd) e3
 rw[List.append_nil] at h4;obtain⟨n1,n2,n3⟩:=aV h3;have wA:Wf H1 Z1 A:=⟨n2,fun a h=>f1.dz a (h4 a (lR _ h)),f1.za⟩
 have S0:=aP.pF h1 n;rw[tV,<-hxs];have P0:=xy n js σ;rw[<-hxs] at P0;refine zD (n:=n) hD S0 wA P0 hJ e4 fun τ' H2 Z2 F2 ys S2 P2 d2 z2 f2 => ?_
 obtain⟨m1,m2,m3⟩:=aV f2.nd;obtain⟨F3,k1,k2,k3⟩:=S2.tW n m1;have hml:ms.length=js.length:=by rw[<-h1.length,hxl]
 obtain⟨A',a1,a2,a3⟩:=jI (vs:=xs) k1 k2 (fun i x _ hx=>by
  rw[List.getElem?_drop];refine P2 (n+i) x ?_;unfold lG;rw[if_neg (by lia),show n+i-n=i by lia]
  have hmap:(js.map (slot σ))[i]? = some (some x):=by rw[<-hxs,List.getElem?_map,hx]; rfl
  rw[List.getElem?_map] at hmap;obtain⟨j,hj,hj'⟩:=Option.map_eq_some_iff.mp hmap;rw[hj];exact hj') (fun i x d h=>by
   have:=List.mem_of_getElem? h;rw[List.mem_replicate] at this;cases this.2) h1.length e5
 have n3':∀a∈A,a∉Fh:=fun a h z=>n3 a z h
 have Sh:aP X.K H2 Z2 σ ρh Fh:=h2.mono (f2.grow wA) fun a h o e=>f2.keep a o (n3 a h) e
 have fF:=f2.frame (G:=Fh) ⟨aJ n2 n1 n3',fun a h=>by
  rcases lM h with h | h
  ·exact f1.dz a (h4 a (lR _ h))
  ·exact f1.dz a (h4 a (lL _ h)),f1.za⟩ h2.al
 obtain⟨u1,u2,u3,u4,u5,u6⟩:=CV fF.nd;obtain⟨F4,p1,p2,p3⟩:=o9 Sh O1 a1 (aJ u3 a2 fun a h z=>u5 a (k3 a (a3 a z)) h) (fM e3)
 have f4:aI H Z F H1 Z1 (A++Fh):=f1.sub (aJ n2 n1 n3') fun a h=>h4 a (by
  rcases lM h with h | h
  ·exact lR _ h
  ·exact lL _ h)
 refine q (.ref D) H2 Z2 F4 [D] p1 (.t (.lst d2 z2)) ((f4.trans fF).sub (aJ p2 u2 fun a h z => ?_) fun a h => ?_)
 ·rcases lM (p3 a h) with y | y
  ·exact u6 a z y
  ·exact u4 a (k3 a (a3 a y)) z
 ·rcases lM h with h | h
  ·rcases lM (p3 a h) with y | y
   ·exact lR _ y
   ·exact lL _ (lL _ (k3 a (a3 a y)))
  ·exact lL _ (lR _ h)
theorem ve_lc (n:Nat) (js:List Nat) {elt target iter:Expr} {ifs:List Expr} {scope:Scope} {N:List Str} {fr:List (Option Nat)} {pin:List Nat} {fi:FI} {fg:FG} {ft:FT} {fe:FE} (hfr:fr=List.replicate n none++js.map some) (hpin:pin=(List.range js.length).map (n + ·)) (hc:X.calm=true) (S:aR X scope N fr) (hi:VI X target iter fi)
  (hin:∀z:Bk,VG (aD X scope z.cl N z.C z.fp z.s z.H) pin target fg/\VF (aD X scope z.cl N z.C z.fp z.s z.H) ifs ft/\VE (aD X scope z.cl N z.C z.fp z.s z.H) elt fe)
  (hs:∀x,foldedSetIterable iter X.env x=pure x:=by intro _; rfl):VE X (.ListComp elt [⟨target,iter,ifs,0⟩] scope pos) (jX n js fi fg ft fe):=fun pins s σ H Q I hq =>
 pe_lc (g:=fun _=>vG X.K (lG n js σ) fg) (tt:=fun _=>vT X.K ft) (te:=fun _=>vE X.K fe) hc S hi (fun z=>⟨(hin z).1 _ (se n js σ hpin),(hin z).2.1,(hin z).2.2⟩) hs pins s σ H Q I (xA hfr hq)
end
section
variable {K:PySem.W.Frag} {H H0:Hp} {Z Z0:Zs} {F F0:List Addr} {σ:L2.St} {ρ:Ev}
theorem xB {i:Nat} {m:M} (S:aP K H Z σ ρ F) (f:aI H0 Z0 F0 H Z F) (e:cS ρ i=some m):∃x G,σ[i]? = some (some x)/\Ow K H Z x m G/\∀a o',a∈G->aL H Z (upd H a o') Z/\(∀b∈G,b≠a->∀o,H b=some o->upd H a o' b=some o) /\
  ∀m' G',(∀b∈G',b∈G)->G'.Nodup->Ow K (upd H a o') Z x m' G'->∃F',aP K (upd H a o') Z σ (ρ.set i (some m')) F'/\aI H0 Z0 F0 (upd H a o') Z F':=by
 obtain⟨x,G,F1,t1,t2,t3,t4,t5⟩:=S.take f.nd (aG.mp e);have hl:=(List.getElem?_eq_some_iff.mp (aG.mp e)).1;obtain⟨n1,n2,n3⟩:=aV t4;refine⟨x,G,t1,t2,fun a o' ha => ?_⟩
 obtain⟨o,ho,hmu⟩:=t2.mem a ha;have haF:a∈F:=t5 a (lR _ ha);have nz:¬Z a:=f.dz a haF;have ne:∀b,b≠a->upd H a o' b=H b:=fun b h=>aB h
 have g:aL H Z (upd H a o') Z:=⟨by
  rcases hmu with⟨xs,rfl⟩ | ⟨kvs,rfl⟩
  ·exact dI.lst ho
  ·exact dI.dk ho,fun b o2 z h=>by rw[ne b fun w=>nz (w▸z)]; exact h,fun _ z=>z⟩
 refine⟨g,fun b _ h o2 e2=>by rw[ne b h]; exact e2,fun m' G' hs nd' h' => ?_⟩
 have S1:aP K (upd H a o') Z σ (ρ.set i none) F1:=t3.mono g fun b hb o2 e2=>by
  rw[ne b fun w=>n3 b hb (w▸ha)]
  exact e2
 obtain⟨F2,p1,p2,p3⟩:=S1.put h' (aJ n1 nd' fun b hb z=>n3 b hb (hs b z)) (by rw[List.getElem?_set_self hl])
 rw[List.set_set,nO t1] at p1;have za:∀b,Z b->upd H a o' b≠none:=fun b z=>by
  rw[ne b fun w=>nz (w▸z)]
  exact f.za b z
 have f1:aI H Z F (upd H a o') Z F:=⟨fun b o2 n h=>by rw[ne b fun w=>n (w▸haF)]; exact h,g.tups,fun _ z=>z,fun b z=>.inl z,fun b h=>.inl h,f.nd,f.dz,za⟩
 refine⟨F2,p1,(f.trans f1).sub p2 fun b hb => ?_⟩
 rcases lM (p3 b hb) with y | y
 ·exact t5 b (lL _ y)
 ·exact t5 b (lR _ (hs b y))
end
section
variable {X:Cx} {pos:Pos} {pin:List Nat}
noncomputable def mX (i:Nat) (fa:FA):FE:=fun ρ=>(cS ρ i).bind fun m0=>match m0 with
 | .lst _=>(fa ρ).bind fun p=>match p.1 with
  | [o]=>(cA o p.2).bind fun q=>(cS q.2 i).bind fun m=>match m with
   | .lst ds=>if ds.length<lim then some (.t (.v .none),q.2.set i (some (.lst (ds++[q.1])))) else none
   | _=>none
  | _=>none
 | _=>none
theorem zE {i:Nat} {fa:FA} {σ:L2.St} {H:Hp} {Q:VK} (hq:vE X.K (mX i fa) σ H Q):yp X.K "list" gT (fC i) (vA X.K fa) σ H Q:=by
 obtain⟨Z,ρ,F,o,ρ',S,w,e,q⟩:=hq;obtain⟨m0,e0,e⟩:=oB e
 split at e
 ·rename_i ds0
  obtain⟨x,G,h1,h2,_⟩:=S.get (aG.mp e0);obtain⟨a,xs0,rfl,ha,_⟩:=(show Ro X.K H Z x (.lst ds0) from⟨G,h2⟩).lst
  refine⟨.ref a,h1,.inl ⟨rfl,_,fV.of ha⟩,?_⟩;obtain⟨⟨os,ρ1⟩,e1,e⟩:=oB e;refine⟨Z,ρ,F,os,ρ1,S,w,e1,fun xs H1 Z1 F1 G1 S1 O1 f1 => ?_⟩
  rcases os with _ | ⟨o1,_ | ⟨o2,os⟩⟩
  ·cases e
  ·obtain⟨⟨d,ρ2⟩,e2,e⟩:=oB e
   obtain⟨m,e3,e⟩:=oB e
   split at e
   ·rename_i ds
    split at e
    ·rename_i hl
     cases e;cases O1 with
     | cons p1 r1 =>
      cases r1;rw[List.append_nil] at f1;obtain⟨Z2,F2,S2,z2,f2,_⟩:=gW S1 p1 f1 e2;obtain⟨x',G',k1,k2,k3⟩:=xB S2 f2 e3;rw[h1] at k1; cases k1;cases k2 with
      | lst hb fb =>
       obtain⟨g,_,k4⟩:=k3 a (.lst (_++[_])) lS;obtain⟨F3,S3,f3⟩:=k4 (.lst (ds++[d])) [a] (fun _ h=>h) (List.nodup_cons.mpr ⟨List.not_mem_nil,List.nodup_nil⟩) (.lst aK ((fb.append (.cons z2 .nil)).mono g))
       exact⟨a,_,_,rfl,rfl,hb,gF (Nat.le_of_lt (by rw[fb.length]; exact hl)),q .non _ Z2 F3 [] S3 (.t (.v .non)) f3.nil⟩
    ·cases e
   ·cases e
  ·cases e
 ·cases e
theorem B9 (i:Nat) {e:Expr} {es:List Expr} {fa:FA} {x:Str} {p1 p2:Pos} (ha:VA X (e::es) fa) (hpe:∀ (to:TE) (t:TA),PE X (.Name x p1) to->PA X (e::es) t->PE X (.Call (.Attribute (.Name x p1) "append" p2) (e::es) [] pos) (yp X.K "list" gT to t)) (hv:PE X (.Name x p1) (fC i)):VE X (.Call (.Attribute (.Name x p1) "append" p2) (e::es) [] pos) (mX i fa):=aW (hpe _ _ hv ha) fun _ _ _ hq=>zE hq
noncomputable def vP (K:PySem.W.Frag) (f:Ev->Option PyData):TE:=fun σ H Q=>∃Z ρ F d,aP K H Z σ ρ F/\f ρ=some d/\∀x,Fz K H Z x d->Q x H
abbrev VP (X:Cx) (e:Expr) (f:Ev->Option PyData):Prop:=PE X e (vP X.K f)
noncomputable def eW (i:Nat):Ev->Option PyData:=fun ρ=>(cS ρ i).bind fun m=>match m with
 | .v d=>some d
 | _=>none
theorem Ca (i:Nat) {x:Str} {p:Pos} (h:PE X (.Name x p) (fC i)):VP X (.Name x p) (eW i):=aW h fun σ H Q hq=>by
 obtain⟨Z,ρ,F,d,S,e,q⟩:=hq;obtain⟨m,e1,e⟩:=oB e;obtain⟨x,G,h1,h2,_⟩:=S.get (aG.mp e1)
 split at e
 ·cases e
  cases h2 with
  | v f=>exact⟨x,h1,q x f⟩
 ·cases e
noncomputable def putL (kvs:List (Key×List PyData)) (k:Key) (d:PyData):List (Key×List PyData):=kvs.map fun p=>if p.1=k then (p.1,p.2++[d]) else p
noncomputable def lH (i:Nat) (fk fd:Ev->Option PyData):FE:=fun ρ=>(cS ρ i).bind fun m=>match m with
 | .bG kvs=>(fk ρ).bind fun kd=>(g9 kd).bind fun k=>(cN kvs k).bind fun ds=>(fd ρ).bind fun d=>if ds.length<lim/\(kvs.map (·.1)).Nodup then some (.t (.v .none),ρ.set i (some (.bG (putL kvs k d)))) else none
 | _=>none
theorem fK.app {K:PySem.W.Frag} {H H':Hp} {Z:Zs} {k:Key} {b:Addr} {y:V} {d:PyData} (g:aL H Z H' Z):∀ {kxs:List (Key×V)} {kvs:List (Key×List PyData)} {G:List Addr},fK K H Z kxs kvs G->(kvs.map (·.1)).Nodup->G.Nodup->fE kxs k=some (.ref b)->(∀c∈G,c≠b->∀o,H c=some o->H' c=some o) ->
  (∀xs,H b=some (.lst xs)->H' b=some (.lst (xs++[y])))->Fz K H' Z y d->fK K H' Z kxs (putL kvs k d) G
 | _,_,_,.nil,_,_,e,_,_,_=>by cases e
 | _,_,_,.cons (k:=k') (b:=b') (kxs:=kxs) (kvs:=kvs) (G:=G) h f r,nk,nG,e,keep,put,fy=>by
  have nk':=List.nodup_cons.mp (show (k'::kvs.map (·.1)).Nodup from nk)
  have nG':=List.nodup_cons.mp nG;show fK K H' Z _ ((if k'=k then (k',_++[d]) else (k',_))::putL kvs k d) _
  by_cases hk:k'=k
  ·subst hk
   rw[dP rfl] at e;cases e;rw[if_pos rfl];have same:putL kvs k' d=kvs:=by
    unfold putL;rw[List.map_congr_left (g:=id),List.map_id];intro p hp;rw[if_neg fun z=>nk'.1 (List.mem_map.mpr ⟨p,hp,z⟩)]
    rfl
   rw[same];exact .cons (put _ h) ((f.mono g).append (.cons fy .nil)) (r.mono g fun c hc o ho=>keep c (lO _ hc) (fun z=>nG'.1 (z▸hc)) o ho)
  ·rw[if_neg hk]
   rw[dQ hk] at e;have hb:b∈G:=by
    clear keep put
    have:∀ {kxs:List (Key×V)} {kvs:List (Key×List PyData)} {G:List Addr},fK K H Z kxs kvs G->fE kxs k=some (.ref b)->b∈G:=fun {kxs kvs G} r e=>by
     induction r with
     | nil=>cases e
     | cons h f r ih =>
      rename_i k0 b0 _ _ _ _ _
      by_cases h0:k0=k
      ·rw[dP h0] at e; cases e; exact lS
      ·rw[dQ h0] at e; exact lO _ (ih e)
    exact this r e
   refine .cons (keep b' lS (fun z=>nG'.1 (z▸hb)) _ h) (f.mono g) (fK.app g r nk'.2 nG'.2 e (fun c hc=>keep c (lO _ hc)) put fy)
theorem xC {i:Nat} {fk fd:Ev->Option PyData} {σ:L2.St} {H:Hp} {Q:VK} (hq:vE X.K (lH i fk fd) σ H Q):yp X.K "list" gT (wg (fC i) (vP X.K fk)) (Ai (vP X.K fd) tNil) σ H Q:=by
 obtain⟨Z,ρ,F,o,ρ',S,w,e,q⟩:=hq;obtain⟨m,e0,e⟩:=oB e
 split at e
 ·rename_i kvs
  obtain⟨kd,e1,e⟩:=oB e;obtain⟨k,e2,e⟩:=oB e;obtain⟨ds,e3,e⟩:=oB e;obtain⟨d,e4,e⟩:=oB e
  split at e
  ·rename_i hl
   cases e;obtain⟨x,G,h1,h2,h3⟩:=xB S (aI.refl w) e0;cases h2 with
   | bG ha ol =>
    rename_i a kxs Gl
    refine⟨.ref a,h1,Z,ρ,F,kd,S,e1,fun y fy => ?_⟩
    obtain rfl:=gb fy e2;obtain⟨b,xs,z1,z2,z3,z4⟩:=ol.get e3;refine⟨a,.ref b,rfl,z1▸iC.k ha,.inl ⟨rfl,_,fV.of z2⟩,Z,ρ,F,d,S,e4,fun v fv => ?_⟩
    obtain⟨g,kp,k4⟩:=h3 b (.lst (xs++[v])) (lO _ z4);have ndG:(a::Gl).Nodup:=by
     obtain⟨x',G',F1,t1,t2,t3,t4,t5⟩:=S.take w.nd (aG.mp e0);rw[h1] at t1; cases t1;cases t2 with
     | bG ha' ol' =>
      rw[ha] at ha'; cases ha';have:∀ {kxs:List (Key×V)} {kvs:List (Key×List PyData)} {G G':List Addr},fK X.K H Z kxs kvs G->fK X.K H Z kxs kvs G'->G=G':=fun {kxs kvs G G'} r r'=>by
       induction r generalizing G' with
       | nil=>cases r'; rfl
       | cons _ _ _ ih=>cases r' with
        | cons _ _ r2=>rw[ih r2]
      rw[this ol ol'];exact (aV t4).2.1
    have nG:=List.nodup_cons.mp ndG;have hab:a≠b:=fun z=>nG.1 (z▸z4)
    have ol2:=ol.app (H':=upd H b (.lst (xs++[v]))) (y:=v) g hl.2 nG.2 z1 (fun c hc n o ho=>kp c (lO _ hc) n o ho) (fun xs' h'=>by rw[z2] at h'; cases h'; exact aK) (fv.mono g)
    obtain⟨F3,S3,f3⟩:=k4 (.bG (putL kvs k d)) (a::Gl) (fun _ h=>h) ndG (.bG (by rw[aB hab]; exact ha) ol2)
    exact⟨b,xs,v,rfl,rfl,z2,gF (Nat.le_of_lt (by rw[z3.length]; exact hl.1)),q .non _ Z F3 [] S3 (.t (.v .non)) f3.nil⟩
  ·cases e
 ·cases e
noncomputable def putD (kvs:List (Key×PyData)) (k:Key) (d:PyData):List (Key×PyData):=if (kvs.any fun kv=>decide (kv.1=k))=true then kvs.map (fun kv=>if kv.1=k then (kv.1,d) else kv) else kvs++[(k,d)]
noncomputable def sf (i:Nat) (fk fe:FE):FS:=fun ρ=>(fe ρ).bind fun p=>(cA p.1 p.2).bind fun q=>(cS q.2 i).bind fun m0=>match m0 with
 | .v _=>none
 | _=>(fk q.2).bind fun r=>(peek r.2 r.1).bind fun mk=>(cS r.2 i).bind fun m=>match m,mk with
  | .bL kvs,.v kd=>(g9 kd).bind fun k=>if kvs.length<lim then some (.nx (r.2.set i (some (.bL (putD kvs k q.1))))) else none
  | .lst ds,.v (.int k)=>(uI ds.length k).bind fun j=>some (.nx (r.2.set i (some (.lst (ds.set j q.1)))))
  | _,_=>none
theorem tZ {K:PySem.W.Frag} {H:Hp} {Z:Zs} (k:Key):∀ {kxs:List (Key×V)} {kvs:List (Key×PyData)},iE K H Z kxs kvs->(kxs.any fun kv=>decide (kv.1=k))=(kvs.any fun kv=>decide (kv.1=k))
 | _,_,.nil=>rfl
 | _,_,.cons _ r=>by rw[List.any_cons,List.any_cons,tZ k r]
theorem pH {K:PySem.W.Frag} {H:Hp} {Z:Zs} {y:V} {d:PyData} {k:Key} (fy:Fz K H Z y d):∀ {kxs:List (Key×V)} {kvs:List (Key×PyData)},iE K H Z kxs kvs->iE K H Z (kxs.map fun kv=>if kv.1=k then (kv.1,y) else kv) (kvs.map fun kv=>if kv.1=k then (kv.1,d) else kv)
 | _,_,.nil=>.nil
 | _,_,.cons (k:=k') h r=>by
  rw[List.map_cons,List.map_cons]
  by_cases hk:k'=k
  ·simp only[hk,if_true]; exact .cons fy (pH fy r)
  ·simp only[hk,if_false]; exact .cons h (pH fy r)
theorem qC {K:PySem.W.Frag} {H:Hp} {Z:Zs} {y:V} {d:PyData} {k:Key} (fy:Fz K H Z y d):∀ {kxs:List (Key×V)} {kvs:List (Key×PyData)},iE K H Z kxs kvs->iE K H Z (kxs++[(k,y)]) (kvs++[(k,d)])
 | _,_,.nil=>.cons fy .nil
 | _,_,.cons h r=>.cons h (qC fy r)
theorem iE.put {K:PySem.W.Frag} {H:Hp} {Z:Zs} {y:V} {d:PyData} {k:Key} (fy:Fz K H Z y d) {kxs:List (Key×V)} {kvs:List (Key×PyData)} (r:iE K H Z kxs kvs):iE K H Z (putK kxs k y) (putD kvs k d):=by
 unfold putK putD;rw[tZ k r]
 split
 ·exact pH fy r
 ·exact qC fy r
theorem Cb {st:Stmt} {t u:TS} (h:PS X st t) (h':PS X st u):PS X st (fun D σ H=>t D σ H\/u D σ H):=fun pins s σ H D I q=>q.elim (h pins s σ H D I) (h' pins s σ H D I)
theorem t6 {i:Nat} {fk fe:FE} {pv:Pv} {D:Ends} {σ:L2.St} {H:Hp} {Z:Zs} {ρ:Ev} {F:List Addr} {o1 o2:dJ} {d:PyData} {ρ1 ρ2 ρ3:Ev} {mk m m':M} (S:aP X.K H Z σ ρ F) (w:Wf H Z F) (P:Pin pv σ) (e1:fe ρ=some (o1,ρ1)) (e2:cA o1 ρ1=some (d,ρ2)) (e4:fk ρ2=some (o2,ρ3)) (e5:peek ρ3 o2=some mk) (e6:cS ρ3 i=some m)
  (q:qB X.K pv D H Z F (.nx (ρ3.set i (some m')))) {a:Addr} {m0:M} (e3:cS ρ2 i=some m0) (hm0:∀d,m0≠.v d)
  (R:V->V->V->Hp->Prop) (hR:∀H3 Z3 x v k,Ro X.K H3 Z3 x m->Fz X.K H3 Z3 v d->Ro X.K H3 Z3 k mk->(∀G,Ow X.K H3 Z3 x m G->∀a o',a∈G->(aL H3 Z3 (upd H3 a o') Z3->Ow X.K (upd H3 a o') Z3 x m' G)->D.nx σ (upd H3 a o'))->R x v k H3) :
  vE X.K fe σ H fun v H1=>fC i σ H1 fun x H2=>vE X.K fk σ H2 fun k H3=>R x v k H3:=by
 refine⟨Z,ρ,F,o1,ρ1,S,w,e1,fun v H1 Z1 F1 G1 S1 O1 f1 => ?_⟩
 obtain⟨Z2,F2,S2,z2,f2,_⟩:=gW S1 O1 f1 e2;obtain⟨x,G,h1,h2,_⟩:=S2.get (aG.mp e3);refine⟨x,h1,Z2,ρ2,F2,o2,ρ3,S2,f2.wf,e4,fun k H3 Z3 F3 G3 S3 O3 f3 => ?_⟩
 have f4:=f2.trans f3.left;obtain⟨x',G',k1,k2,k3⟩:=xB S3 f4 e6;rw[h1] at k1; cases k1;refine hR H3 Z3 x v k ⟨G',k2⟩ (z2.mono (f3.grow f2.wf)) (O3.peek S3 e5) fun G2 hG a o' ha hk => ?_
 have eG:G2=G':=by
  have:∀ {x:V} {m:M} {A B:List Addr},Ow X.K H3 Z3 x m A->Ow X.K H3 Z3 x m B->A=B:=fun {x m A B} r r'=>by
   cases r with
   | v _=>cases r'; rfl
   | lst _ _=>cases r'; rfl
   | bL _ _=>cases r'; rfl
   | bG e r =>
    cases r' with
    | bG e' r' =>
     rw[e] at e'; cases e';have:∀ {kxs:List (Key×V)} {kvs:List (Key×List PyData)} {G G':List Addr},fK X.K H3 Z3 kxs kvs G->fK X.K H3 Z3 kxs kvs G'->G=G':=fun {kxs kvs G G'} r r'=>by
      induction r generalizing G' with
      | nil=>cases r'; rfl
      | cons _ _ _ ih=>cases r' with
       | cons _ _ r2=>rw[ih r2]
     rw[this r r']
  exact this hG k2
 subst eG;obtain⟨g,_,k4⟩:=k3 a o' ha;have ndG:G2.Nodup:=by
  obtain⟨x2,G3',F1',t1,t2,t3,t4,t5⟩:=S3.take f4.nd (aG.mp e6);rw[h1] at t1; cases t1;have:∀ {x:V} {m:M} {A B:List Addr},Ow X.K H3 Z3 x m A->Ow X.K H3 Z3 x m B->A=B:=fun {x m A B} r r'=>by
   cases r with
   | v _=>cases r'; rfl
   | lst _ _=>cases r'; rfl
   | bL _ _=>cases r'; rfl
   | bG e r =>
    cases r' with
    | bG e' r' =>
     rw[e] at e'; cases e';have:∀ {kxs:List (Key×V)} {kvs:List (Key×List PyData)} {G G':List Addr},fK X.K H3 Z3 kxs kvs G->fK X.K H3 Z3 kxs kvs G'->G=G':=fun {kxs kvs G G'} r r'=>by
      induction r generalizing G' with
      | nil=>cases r'; rfl
      | cons _ _ _ ih=>cases r' with
       | cons _ _ r2=>rw[ih r2]
     rw[this r r']
  rw[this k2 t2];exact (aV t4).2.1
 obtain⟨F5,S5,f5⟩:=k4 m' G2 (fun _ h=>h) ndG (hk g)
 exact q σ _ Z3 F5 S5 f5 P
theorem zF {i:Nat} {fk fe:FE} {pv:Pv} {D:Ends} {σ:L2.St} {H:Hp} (hq:vS X.K pv (sf i fk fe) D σ H):wj (fC i) (vE X.K fk) (vE X.K fe) D σ H\/oi (vE X.K fe) (vV (fC i) (vE X.K fk) qe) D σ H:=by
 obtain⟨Z,ρ,F,o,S,w,P,e,q⟩:=hq;obtain⟨⟨o1,ρ1⟩,e1,e⟩:=oB e;obtain⟨⟨d,ρ2⟩,e2,e⟩:=oB e;obtain⟨m0,e3,e⟩:=oB e;have main:(∀d,m0≠.v d)->((fk ρ2).bind fun r=>(peek r.2 r.1).bind fun mk=>(cS r.2 i).bind fun m=>match m,mk with
  | .bL kvs,.v kd=>(g9 kd).bind fun k=>if kvs.length<lim then some (Out.nx (r.2.set i (some (.bL (putD kvs k d))))) else none
  | .lst ds,.v (.int k)=>(uI ds.length k).bind fun j=>some (.nx (r.2.set i (some (.lst (ds.set j d)))))
  | _,_=>none)=some o->wj (fC i) (vE X.K fk) (vE X.K fe) D σ H\/oi (vE X.K fe) (vV (fC i) (vE X.K fk) qe) D σ H:=fun hm0 e=>by
  obtain⟨⟨o2,ρ3⟩,e4,e⟩:=oB e;obtain⟨mk,e5,e⟩:=oB e;obtain⟨m,e6,e⟩:=oB e
  split at e
  ·rename_i kvs kd
   obtain⟨k,e7,e⟩:=oB e
   split at e
   ·rename_i hl
    injection e with e
    subst e;refine .inl (t6 (a:=0) S w P e1 e2 e4 e5 e6 q e3 hm0 _ fun H3 Z3 x v y hx hv hy fin => ?_)
    obtain⟨G,hG⟩:=hx;cases hG with
    | bL ha fk' =>
     obtain rfl:=gb hy.fz e7;exact⟨_,_,rfl,wc.k ha (gF (Nat.le_of_lt (by rw[fk'.length]; exact hl))),fin _ (.bL ha fk') _ _ lS fun g=>.bL aK (iE.put (hv.mono g) (fk'.mono g))⟩
   ·cases e
  ·rename_i ds k
   obtain⟨j,e7,e⟩:=oB e
   injection e with e
   subst e;refine .inr (t6 (a:=0) S w P e1 e2 e4 e5 e6 q e3 hm0 _ fun H3 Z3 x v y hx hv hy fin => ?_)
   obtain⟨G,hG⟩:=hx;cases hG with
   | lst ha fs =>
    obtain rfl:=hy.int;exact⟨_,_,_,j,rfl,rfl,ha,by rw[fs.length]; exact e7,fin _ (.lst ha fs) _ _ lS fun g=>.lst aK ((fs.mono g).set j (hv.mono g))⟩
  ·cases e
 cases m0 with
 | v d=>cases e
 | lst _=>exact main (fun _ z=>nomatch z) e
 | bL _=>exact main (fun _ z=>nomatch z) e
 | bG _=>exact main (fun _ z=>nomatch z) e
theorem Cc (i:Nat) {o k e:Expr} {fk fe:FE} {pos':Pos} (hu:X.A.units+64<cLine) (ho:PE X o (fC i)) (hk:VE X k fk) (he:VE X e fe) (hs:swapsWith e (some (.Subscript o k pos')) pos.line X.env=pure false)
  (hps:∀ (te:TE) (t:TG),PE X e te->PG X (.Subscript o k pos') t->PS X (.Assign [.Subscript o k pos'] e pos) (oi te t)) (hpg:∀to ti:TE,PE X o to->PE X k ti->PG X (.Subscript o k pos') (vV to ti qe)):VS X pin (.Assign [.Subscript o k pos'] e pos) (sf i fk fe):=fun pv hp =>
 iN (Cb (yU (by lia) ho hk he hs) (hps _ _ he (hpg _ _ ho hk))) fun _ _ _ hq=>zF hq
end
section
variable {X:Cx} {pos:Pos} {pin:List Nat}
theorem zG {i:Nat} {f:FE} {pv:Pv} {D:Ends} {σ:L2.St} {H:Hp} (hp:Am pv pin) (hp0:i∉pin) (hq:vS X.K pv (bh i f) D σ H):vE X.K f σ H fun x H1=>D.nx (σ.set i (some x)) H1:=by
 obtain⟨Z,ρ,F,o,S,w,P,e,q⟩:=hq;obtain⟨⟨o1,ρ1⟩,e1,e⟩:=oB e;obtain⟨⟨m,ρ2⟩,e2,e⟩:=oB e;obtain⟨ρ3,e3,e⟩:=oB e;cases e;refine⟨Z,ρ,F,o1,ρ1,S,w,e1,fun y H1 Z1 F1 G1 S1 O1 f1 => ?_⟩
 obtain⟨Z2,F2,G2,h1,h2,h3⟩:=moved S1 O1 f1 e2;obtain⟨F3,k1,k2,k3⟩:=h1.lE h2 h3.nd e3;exact q _ H1 Z2 F3 k1 (h3.sub k2 k3) (P.set hp hp0)
theorem Cd {i:Nat} {x:Str} (n:Nat) (js:List Nat) {elt target iter:Expr} {ifs:List Expr} {scope:Scope} {N:List Str} {fr:List (Option Nat)} {pinI:List Nat} {fi:FI} {fg:FG} {ft:FT} {fe:FE} {pos' spos:Pos} (hp0:i∉pin) (hN:X.N.Nodup) (hi':X.N[i]? = some x) (hx:X.env.scope.names.lookup x=some .local)
  (hfr:fr=List.replicate n none++js.map some) (hpin:pinI=(List.range js.length).map (n + ·)) (hc:X.calm=true) (S:aR X scope N fr) (hi:VI X target iter fi)
  (hin:∀z:Bk,VG (aD X scope z.cl N z.C z.fp z.s z.H) pinI target fg/\VF (aD X scope z.cl N z.C z.fp z.s z.H) ifs ft/\VE (aD X scope z.cl N z.C z.fp z.s z.H) elt fe)
  (hs:∀x,foldedSetIterable iter X.env x=pure x:=by intro _; rfl) (hsw:swapsWith (.ListComp elt [⟨target,iter,ifs,0⟩] scope pos) (some (.Name x pos')) spos.line X.env=pure true:=by rfl) :
  VS X pin (.Assign [.Name x pos'] (.ListComp elt [⟨target,iter,ifs,0⟩] scope pos) spos) (bh i (jX n js fi fg ft fe)):=fun pv hp pins s σ H D I hq =>
 Bu (g:=fun _=>vG X.K (lG n js σ) fg) (tt:=fun _=>vT X.K ft) (te:=fun _=>vE X.K fe) hN hi' hx hc S hi (fun z=>⟨(hin z).1 _ (se n js σ hpin),(hin z).2.1,(hin z).2.2⟩) hs hsw pins s σ H D I (xA hfr (zG hp hp0 hq))
theorem aI.gu {H0 H:Hp} {Z0 Z:Zs} {F0 A:List Addr} {D:Addr} {o o':HO} (f:aI H0 Z0 F0 H Z A) (hD:D∈A) (e:H D=some o) (hn:∀u,o≠.tup u) (hf:∀x u,o≠.frz x u):aI H0 Z0 F0 (upd H D o') Z A/\aL H Z (upd H D o') Z:=by
 have nz:¬Z D:=f.dz D hD;have keep:∀a o2,a≠D->H a=some o2->upd H D o' a=some o2:=fun a o2 n h=>by rw[aB n]; exact h
 have za:∀a,Z a->upd H D o' a≠none:=fun a z=>by
  have hne:a≠D:=fun h=>nz (h▸z)
  rw[aB hne];exact f.za a z
 have g:aL H Z (upd H D o') Z:=⟨dI.put e hn hf,fun a o2 z h=>keep a o2 (fun w=>nz (w▸z)) h,fun _ z=>z⟩
 exact⟨f.trans ⟨fun a o2 n h=>keep a o2 (fun w=>n (w▸hD)) h,g.tups,fun _ z=>z,fun a z=>.inl z,fun a h=>.inl h,f.nd,f.dz,za⟩,g⟩
def Acc (K:PySem.W.Frag) (H:Hp) (Z:Zs) (D:Addr):M->List Addr->Prop
 | .bL kvs,G=>G=[D]/\∃kxs,H D=some (.dK kxs)/\iE K H Z kxs kvs
 | .bG kvs,G=>∃Gl kxs,G=D::Gl/\H D=some (.dK kxs)/\fK K H Z kxs kvs Gl
 | _,_=>False
noncomputable def addK (k:Key):M->dJ->Ev->Option (M×Ev)
 | .bG kvs,.t (.lst ds),ρ=>if (kvs.any fun p=>decide (p.1=k))=false/\kvs.length<lim then some (.bG (kvs++[(k,ds)]),ρ) else none
 | .bL kvs,o,ρ=>if kvs.length<lim then (cA o ρ).bind fun q=>some (.bL (putD kvs k q.1),q.2) else none
 | _,_,_=>none
noncomputable def jS (fg:FG) (ft:FT) (fk fv:FE):List PyData->Ev->M->Option (M×Ev)
 | [],ρ,acc=>some (acc,ρ)
 | d::ds,ρ,acc=>(fg d ρ).bind fun ρ1=>(ft ρ1).bind fun t=>if t.1=true then
   (fk t.2).bind fun p=>match p.1 with
    | .t (.v kd)=>(g9 kd).bind fun k=>(fv p.2).bind fun r=>(addK k acc r.1 r.2).bind fun a=>jS fg ft fk fv ds a.2 a.1
    | _=>none
  else jS fg ft fk fv ds t.2 acc
noncomputable def CC (lists:Bool) (n:Nat) (js:List Nat) (fi:FI) (fg:FG) (ft:FT) (fk fv:FE):FE:=fun ρ=>(fi ρ).bind fun p=>(caps p.2 js).bind fun os=>(dh os p.2).bind fun q =>
 (jS fg ft fk fv p.1 (List.replicate n none++q.1.map some) (if lists then .bG [] else .bL [])).bind fun r=>(fin (List.replicate js.length true) q.1 (r.2.drop n)).bind fun ms'=>some (.t r.1,gu os ms' q.2)
theorem qD {K:PySem.W.Frag} {H:Hp} {Z:Zs} {k:Key} {b:Addr} {xs:List V} {ds:List PyData} (h:H b=some (.lst xs)) (f:br K H Z xs ds):∀ {kxs:List (Key×V)} {kvs:List (Key×List PyData)} {G:List Addr},fK K H Z kxs kvs G->fK K H Z (kxs++[(k,.ref b)]) (kvs++[(k,ds)]) (G++[b])
 | _,_,_,.nil=>.cons h f .nil
 | _,_,_,.cons h' f' r=>.cons h' f' (qD h f r)
theorem t7 {K:PySem.W.Frag} {H:Hp} {Z:Zs} (k:Key):∀ {kxs:List (Key×V)} {kvs:List (Key×List PyData)} {G:List Addr},fK K H Z kxs kvs G->(kxs.any fun kv=>decide (kv.1=k))=(kvs.any fun kv=>decide (kv.1=k))
 | _,_,_,.nil=>rfl
 | _,_,_,.cons _ _ r=>by rw[List.any_cons,List.any_cons,t7 k r]
theorem Acc.mem {K:PySem.W.Frag} {H:Hp} {Z:Zs} {D:Addr} {m:M} {G:List Addr} (h:Acc K H Z D m G):D∈G/\(∃kxs,H D=some (.dK kxs))/\∀a∈G,H a≠none:=by
 cases m with
 | bL kvs =>
  obtain⟨rfl,kxs,e,_⟩:=h;exact⟨lS,⟨kxs,e⟩,fun a ha z=>by rw[List.mem_singleton.mp ha,e] at z; cases z⟩
 | bG kvs =>
  obtain⟨Gl,kxs,rfl,e,r⟩:=h;refine⟨lS,⟨kxs,e⟩,fun a ha z => ?_⟩
  rcases lK ha with ha | ha
  ·rw[ha,e] at z; cases z
  ·obtain⟨o,q,_⟩:=r.mem a ha; rw[q] at z; cases z
 | v _=>exact h.elim
 | lst _=>exact h.elim
theorem Acc.mono {K:PySem.W.Frag} {H H':Hp} {Z Z':Zs} {D:Addr} {m:M} {G:List Addr} (g:aL H Z H' Z') (h:Acc K H Z D m G) (k:∀a∈G,∀o,H a=some o->H' a=some o):Acc K H' Z' D m G:=by
 cases m with
 | bL kvs =>
  obtain⟨rfl,kxs,e,r⟩:=h;exact⟨rfl,kxs,k D lS _ e,r.mono g⟩
 | bG kvs =>
  obtain⟨Gl,kxs,rfl,e,r⟩:=h;exact⟨Gl,kxs,rfl,k D lS _ e,r.mono g fun a ha=>k a (lO _ ha)⟩
 | v _=>exact h.elim
 | lst _=>exact h.elim
theorem Acc.ow {K:PySem.W.Frag} {H:Hp} {Z:Zs} {D:Addr} {m:M} {G:List Addr} (h:Acc K H Z D m G):Ow K H Z (.ref D) m G:=by
 cases m with
 | bL kvs=>obtain⟨rfl,kxs,e,r⟩:=h; exact .bL e r
 | bG kvs=>obtain⟨Gl,kxs,rfl,e,r⟩:=h; exact .bG e r
 | v _=>exact h.elim
 | lst _=>exact h.elim
theorem Acc.add {K:PySem.W.Frag} {H H0:Hp} {Z Z0:Zs} {D:Addr} {m m':M} {G Gy F F0:List Addr} {k:Key} {o:dJ} {ρ ρ':Ev} {σ:L2.St} {y:V} (S:aP K H Z σ ρ F) (O:mU K H Z σ y o Gy) (h:Acc K H Z D m G) (f:aI H0 Z0 F0 H Z (F++Gy++G)) (e:addK k m o ρ=some (m',ρ')) :
  ∃kxs,H D=some (.dK kxs)/\kxs.length<sizeLine/\∃Z' F' G',aP K (upd H D (.dK (putK kxs k y))) Z' σ ρ' F'/\Acc K (upd H D (.dK (putK kxs k y))) Z' D m' G'/\aI H0 Z0 F0 (upd H D (.dK (putK kxs k y))) Z' (F'++G'):=by
 obtain⟨n1,n2,n3,s1,s2,s3⟩:=CV f.nd;cases m with
 | bL kvs =>
  obtain⟨rfl,kxs,eD,r⟩:=h;have e:(if kvs.length<lim then (cA o ρ).bind fun q=>some (M.bL (putD kvs k q.1),q.2) else none)=some (m',ρ'):=by
   cases o <;> exact e
  split at e
  ·rename_i hl
   obtain⟨⟨d,ρ2⟩,e2,e⟩:=oB e;cases e;obtain⟨Z2,F2,S2,y2,f2,g2⟩:=freeze S O f e2;have hDm:D∈F2++[D]:=lR _ lS;obtain⟨f3,g3⟩:=f2.gu (o':=.dK (putK kxs k y)) hDm eD (fun _ z=>nomatch z) (fun _ _ z=>nomatch z)
   refine⟨kxs,eD,gF (Nat.le_of_lt (by rw[r.length]; exact hl)),Z2,F2,[D],S2.mono g3 fun a ha o2 e3 => ?_,⟨rfl,_,aK,iE.put (y2.mono g3) ((r.mono g2).mono g3)⟩,f3⟩
   have hne:a≠D:=fun z=>(aV f2.nd).2.2 a ha (by rw[z]; exact lS)
   rw[aB hne]; exact e3
  ·cases e
 | bG kvs =>
  obtain⟨Gl,kxs,rfl,eD,r⟩:=h;cases o with
  | t m0 =>
   cases m0 with
   | lst ds =>
    have e:(if (kvs.any fun p=>decide (p.1=k))=false/\kvs.length<lim then some (M.bG (kvs++[(k,ds)]),ρ) else none)=some (m',ρ'):=e
    split at e
    ·rename_i hl
     cases e;cases O with
     | t ow =>
      cases ow with
      | lst hb fb =>
       rename_i b xs
       have hDm:D∈F++[b]++(D::Gl):=lR _ lS;obtain⟨f3,g3⟩:=f.gu (o':=.dK (putK kxs k (.ref b))) hDm eD (fun _ z=>nomatch z) (fun _ _ z=>nomatch z)
       have hbD:b≠D:=fun z=>s3 b lS (by rw[z]; exact lS)
       have nG:=List.nodup_cons.mp n3;have hput:putK kxs k (.ref b)=kxs++[(k,.ref b)]:=by
        unfold putK;rw[t7 k r,hl.1];rfl
       refine⟨kxs,eD,gF (Nat.le_of_lt (by rw[r.length]; exact hl.2)),Z,F,D::(Gl++[b]),S.mono g3 fun a ha o2 e3 => ?_,⟨Gl++[b],_,rfl,aK,?_⟩,f3.sub (aJ n1 (List.nodup_cons.mpr ⟨fun z => ?_,aJ nG.2 n2 fun a ha z=>s3 a z (lO _ ha)⟩) fun a ha z => ?_) fun a ha => ?_⟩
       ·have hne:a≠D:=fun z=>s2 a ha (by rw[z]; exact lS)
        rw[aB hne]; exact e3
       ·rw[hput]
        refine qD (by rw[aB hbD]; exact hb) (fb.mono (hput▸g3)) (r.mono (hput▸g3) fun a ha o2 e3 => ?_)
        have hne:a≠D:=fun z=>nG.1 (z▸ha)
        rw[aB hne]; exact e3
       ·rcases lM z with z | z
        ·exact nG.1 z
        ·exact hbD (List.mem_singleton.mp z).symm
       ·rcases lK z with z | z
        ·exact s2 a ha (by rw[z]; exact lS)
        rcases lM z with z | z
        ·exact s2 a ha (lO _ z)
        ·exact s1 a ha z
       ·rcases lM ha with ha | ha
        ·exact lL _ (lL _ ha)
        rcases lK ha with ha | ha
        ·exact lR _ (by rw[ha]; exact lS)
        rcases lM ha with ha | ha
        ·exact lR _ (lO _ ha)
        ·exact lL _ (lR _ ha)
    ·cases e
   | _=>cases e
  | _=>cases e
 | v _=>exact h.elim
 | lst _=>exact h.elim
theorem zH {pv:Pv} {fg:FG} {ft:FT} {fk fv:FE} {J:It} {ds:List PyData} {D:Addr} {τ:L2.St} {H1:Hp} {Z1:Zs} {A:List Addr} {ρ0:Ev} {m0:M} {r:M×Ev} {Q:Hp->Prop} (hD:H1 D=none) (S:aP X.K H1 Z1 τ ρ0 A) (w:Wf H1 Z1 A) (P:Pin pv τ) (hJ:pe X.K J H1 Z1 ds) (hm0:Acc X.K (upd H1 D (.dK [])) Z1 D m0 [D]) (e:jS fg ft fk fv ds ρ0 m0=some r)
  (q:∀τ' H' Z' F' G',aP X.K H' Z' τ' r.2 F'->Pin pv τ'->Acc X.K H' Z' D r.1 G'->aI H1 Z1 A H' Z' (F'++G')->Q H'):qk (vG X.K pv fg) (vT X.K ft) (ePut D (vE X.K fk) (vE X.K fv)) J τ (upd H1 D (.dK [])) Q:=by
 have n0:=aI.newl (o:=.dK []) hD w.za;have f0:aI H1 Z1 A (upd H1 D (.dK [])) Z1 (A++[D]):=n0.news w S.al;refine⟨fun i m τ' H'=>m=ds.length-i/\i<=ds.length/\∃Z' ρ' F' acc G',aP X.K H' Z' τ' ρ' F'/\Pin pv τ'/\Acc X.K H' Z' D acc G'/\aI H1 Z1 A H' Z' (F'++G')/\jS fg ft fk fv (ds.drop i) ρ' acc=some r,⟨_,rfl,Nat.zero_le _,Z1,ρ0,A,m0,[D],S.news n0,P,hm0,f0,e⟩,fun i m τ2 H2 hW => ?_⟩
 obtain⟨rfl,hi,Z2,ρ2,F2,acc,G2,S2,P2,a2,f2,e2⟩:=hW;rcases Nat.lt_or_eq_of_le hi with hi | rfl
 ·right
  rw[List.drop_eq_getElem_cons hi] at e2;have hd:ds[i]? = some ds[i]:=List.getElem?_eq_getElem hi;obtain⟨go,yl⟩:=hJ.go H2 Z2 (f2.grow w) i _ hd;obtain⟨ρ3,e3,e2⟩:=oB e2;obtain⟨⟨b,ρ4⟩,e4,e2⟩:=oB e2;refine⟨go,fun τ' H'=>∃m',m'<ds.length-i/\m'=ds.length-(i+1)/\i+1<=ds.length/\∃Z' ρ' F' acc G',aP X.K H' Z' τ' ρ' F'/\Pin pv τ'/\Acc X.K H' Z' D acc G'/\aI H1 Z1 A H' Z' (F'++G')/\jS fg ft fk fv (ds.drop (i+1)) ρ' acc=some r,fun τ' H' h=>h,fun x H' hx => ?_⟩
  obtain⟨s,fz⟩:=yl x H' hx;have gs:aL H2 Z2 H' Z2:=aL.same s;have S2':=S2.mono gs fun a _ o e=>s a o e
  have a2':=a2.mono gs fun a _ o e=>s a o e
  obtain⟨m1,m2,m3⟩:=aV f2.nd;have alD:∀a∈F2++G2,H2 a≠none:=fun a h e=>by
   rcases lM h with h | h
   ·exact S2.al a h e
   ·exact a2.mem.2.2 a h e
  have fs:aI H2 Z2 (F2++G2) H' Z2 (F2++G2):=by
   have:=(aI.same s f2.za).news f2.wf alD;rw[List.append_nil] at this;exact this
  refine⟨Z2,ρ2,F2,_,ρ3,S2',m1,P2,fz,e3,fun τ3 F3 S3 n3 s3 P3 => ?_⟩
  have f3:aI H1 Z1 A H' Z2 (F3++G2):=(f2.trans fs).sub (aJ n3 m2 fun a h z=>m3 a (s3 a h) z) fun a h=>by
   rcases lM h with h | h
   ·exact lL _ (s3 a h)
   ·exact lR _ h
  refine⟨Z2,ρ3,F3,b,ρ4,S3,f3.left.wf,e4,fun H4 Z4 F4 S4 g4 => ?_⟩
  have f4:aI H1 Z1 A H4 Z4 (F4++G2):=f3.trans (g4.frame f3.wf a2'.mem.2.2);have a4:=a2'.mono (g4.grow f3.left.wf) fun a h o e=>g4.keep a o (fun z=>(aV f3.nd).2.2 a z h) e
  cases b with
  | false=>exact iteF ⟨_,by lia,rfl,hi,Z4,ρ4,F4,acc,G2,S4,P3,a4,f4,e2⟩
  | true =>
   obtain⟨⟨o5,ρ5⟩,e5,e2⟩:=oB e2
   split at e2
   ·rename_i kd hko
    have hko:o5=.t (.v kd):=hko;subst hko;obtain⟨k,e6,e2⟩:=oB e2;obtain⟨⟨o7,ρ7⟩,e7,e2⟩:=oB e2;obtain⟨⟨acc',ρ8⟩,e8,e2⟩:=oB e2;refine iteT ⟨Z4,ρ4,F4,_,ρ5,S4,f4.left.wf,e5,fun y H5 Z5 F5 G5 S5 O5 g5 => ?_⟩
    have yk:y=kV k:=by
     cases O5 with
     | t ow=>cases ow with
      | v fy=>exact gb fy e6
    have f5:aI H1 Z1 A H5 Z5 (F5++G2):=f4.trans (g5.left.frame f4.wf a4.mem.2.2);have a5:=a4.mono (g5.grow f4.left.wf) fun a h o e=>g5.keep a o (fun z=>(aV f4.nd).2.2 a z h) e
    refine⟨Z5,ρ5,F5,o7,ρ7,S5,f5.left.wf,e7,fun v H7 Z7 F7 G7 S7 O7 g7 => ?_⟩
    have f7:aI H1 Z1 A H7 Z7 (F7++G7++G2):=f5.trans (g7.frame f5.wf a5.mem.2.2);have a7:=a5.mono (g7.grow f5.left.wf) fun a h o e=>g7.keep a o (fun z=>(aV f5.nd).2.2 a z h) e
    obtain⟨kxs,eD,hsz,Z8,F8,G8,S8,a8,f8⟩:=a7.add S7 O7 f7 e8;exact⟨kxs,k,yk,eD,hsz,_,by lia,rfl,hi,Z8,ρ8,F8,acc',G8,S8,P3,a8,f8,e2⟩
   ·cases e2
 ·left
  rw[List.drop_length] at e2;cases e2;exact⟨hJ.stop H2 Z2 (f2.grow w) _ (Nat.le_refl _),q τ2 H2 Z2 F2 G2 S2 P2 a2 f2⟩
end
section
variable {X:Cx} {pos:Pos} {pin:List Nat}
theorem Ce {b:Bool} {n:Nat} {js:List Nat} {fi:FI} {fg:FG} {ft:FT} {fk fv:FE} {σ:L2.St} {H:Hp} {Q:VK} {fr:List (Option Nat)} (hfr:fr=List.replicate n none++js.map some) (hq:vE X.K (CC b n js fi fg ft fk fv) σ H Q) :
  DA fr (vI X.K fi) (fun _=>vG X.K (lG n js σ) fg) (fun _=>vT X.K ft) (fun _=>vE X.K fk) (fun _=>vE X.K fv) σ H Q:=by
 subst hfr;obtain⟨Z,ρ,F,o,ρ',S,w,e,q⟩:=hq;obtain⟨⟨ds,ρ1⟩,e1,e⟩:=oB e;obtain⟨os,e2,e⟩:=oB e;obtain⟨⟨ms,ρh⟩,e3,e⟩:=oB e;obtain⟨⟨acc,ρi⟩,e4,e⟩:=oB e;obtain⟨ms',e5,e⟩:=oB e;cases e;refine⟨Z,ρ,F,ds,ρ1,S,w,e1,fun J H1 Z1 F1 S1 hJ f1 D hD z => ?_⟩
 obtain⟨xs,O1,hxs,hxl⟩:=pG S1 e2;obtain⟨A,Fh,h1,h2,h3,h4⟩:=lD S1 O1 (by rw[List.append_nil]; exact f1.nd) e3
 rw[List.append_nil] at h4;obtain⟨n1,n2,n3⟩:=aV h3;have wA:Wf H1 Z1 A:=⟨n2,fun a h=>f1.dz a (h4 a (lR _ h)),f1.za⟩
 have S0:=aP.pF h1 n;rw[tV,<-hxs];have P0:=xy n js σ;rw[<-hxs] at P0;have hm0:Acc X.K (upd H1 D (.dK [])) Z1 D (if b=true then .bG [] else .bL []) [D]:=by
  cases b with
  | true=>exact⟨[],[],rfl,aK,.nil⟩
  | false=>exact⟨rfl,[],aK,.nil⟩
 refine zH hD S0 wA P0 hJ hm0 e4 fun τ' H2 Z2 F2 G2 S2 P2 d2 f2 => ?_
 obtain⟨m1,m2,m3⟩:=aV f2.nd;obtain⟨F3,k1,k2,k3⟩:=S2.tW n m1;obtain⟨A',a1,a2,a3⟩:=jI (vs:=xs) k1 k2 (fun i x _ hx=>by
  rw[List.getElem?_drop];refine P2 (n+i) x ?_;unfold lG;rw[if_neg (by lia),show n+i-n=i by lia]
  have hmap:(js.map (slot σ))[i]? = some (some x):=by rw[<-hxs,List.getElem?_map,hx]; rfl
  rw[List.getElem?_map] at hmap;obtain⟨j,hj,hj'⟩:=Option.map_eq_some_iff.mp hmap;rw[hj];exact hj') (fun i x d h=>by
   have:=List.mem_of_getElem? h;rw[List.mem_replicate] at this;cases this.2) h1.length e5
 have n3':∀a∈A,a∉Fh:=fun a h z=>n3 a z h
 have Sh:aP X.K H2 Z2 σ ρh Fh:=h2.mono (f2.grow wA) fun a h o e=>f2.keep a o (n3 a h) e
 have fF:=f2.frame (G:=Fh) ⟨aJ n2 n1 n3',fun a h=>by
  rcases lM h with h | h
  ·exact f1.dz a (h4 a (lR _ h))
  ·exact f1.dz a (h4 a (lL _ h)),f1.za⟩ h2.al
 obtain⟨u1,u2,u3,u4,u5,u6⟩:=CV fF.nd;obtain⟨F4,p1,p2,p3⟩:=o9 Sh O1 a1 (aJ u3 a2 fun a h z=>u5 a (k3 a (a3 a z)) h) (fM e3)
 have f4:aI H Z F H1 Z1 (A++Fh):=f1.sub (aJ n2 n1 n3') fun a h=>h4 a (by
  rcases lM h with h | h
  ·exact lR _ h
  ·exact lL _ h)
 refine q (.ref D) H2 Z2 F4 G2 p1 (.t d2.ow) ((f4.trans fF).sub (aJ p2 u2 fun a h z => ?_) fun a h => ?_)
 ·rcases lM (p3 a h) with y | y
  ·exact u6 a z y
  ·exact u4 a (k3 a (a3 a y)) z
 ·rcases lM h with h | h
  ·rcases lM (p3 a h) with y | y
   ·exact lR _ y
   ·exact lL _ (lL _ (k3 a (a3 a y)))
  ·exact lL _ (lR _ h)
theorem ve_dc (b:Bool) (n:Nat) (js:List Nat) {ek ev target iter:Expr} {ifs:List Expr} {scope:Scope} {N:List Str} {fr:List (Option Nat)} {pin:List Nat} {fi:FI} {fg:FG} {ft:FT} {fk fv:FE} (hfr:fr=List.replicate n none++js.map some) (hpin:pin=(List.range js.length).map (n + ·)) (hc:X.calm=true) (S:aR X scope N fr) (hi:VI X target iter fi)
  (hin:∀z:Bk,VG (aD X scope z.cl N z.C z.fp z.s z.H) pin target fg/\VF (aD X scope z.cl N z.C z.fp z.s z.H) ifs ft/\VE (aD X scope z.cl N z.C z.fp z.s z.H) ek fk/\VE (aD X scope z.cl N z.C z.fp z.s z.H) ev fv)
  (hs:∀x,foldedSetIterable iter X.env x=pure x:=by intro _; rfl):VE X (.DictComp ek ev [⟨target,iter,ifs,0⟩] scope pos) (CC b n js fi fg ft fk fv):=fun pins s σ H Q I hq =>
 pe_dc (g:=fun _=>vG X.K (lG n js σ) fg) (tt:=fun _=>vT X.K ft) (tk:=fun _=>vE X.K fk) (tv:=fun _=>vE X.K fv) hc S hi (fun z=>⟨(hin z).1 _ (se n js σ hpin),(hin z).2.1,(hin z).2.2.1,(hin z).2.2.2⟩) hs pins s σ H Q I (Ce hfr hq)
end
structure WE (X:Cx) (e:Expr) (f:FE):Prop where
 h:VE X e f
structure WA (X:Cx) (e:List Expr) (f:FA):Prop where
 h:VA X e f
structure WT (X:Cx) (e:Expr) (f:FT):Prop where
 h:VT X e f
structure WW (X:Cx) (e:Expr) (f:FT):Prop where
 h:VW X e f
structure WO (X:Cx) (e:Option Expr) (f:FO):Prop where
 h:PO X e (vO X.K f)
structure WI (X:Cx) (tg e:Expr) (f:FI):Prop where
 h:VI X tg e f
structure WG (X:Cx) (pin:List Nat) (tg:Expr) (f:FG):Prop where
 h:VG X pin tg f
structure C8 (X:Cx) (pin:List Nat) (tg:List Expr) (f:u9):Prop where
 h:CW X pin tg f
structure WF (X:Cx) (e:List Expr) (f:FT):Prop where
 h:VF X e f
structure WP (X:Cx) (e:Expr) (f:Ev->Option PyData):Prop where
 h:VP X e f
structure WS (X:Cx) (pin:List Nat) (st:Stmt) (f:FS):Prop where
 h:VS X pin st f
structure An (X:Cx) (pin:List Nat) (st:List Stmt) (f:FS):Prop where
 h:zl X pin st f
section
variable {X:Cx} {pos:Pos} {pin:List Nat}
theorem wv (i:Nat) {x:Str} {pos:Pos} (hN:X.N[i]? = some x:=by rfl) (hv:AD X.env.scope x:=by first | exact Or.inl rfl | exact Or.inr (Or.inl rfl) | exact Or.inr (Or.inr rfl)) (hd:(x == ("__debug__" : Str))=false:=by decide)
  (hcd:(x == ("__classdict__" : Str))=false:=by decide):WE X (.Name x pos) (aa i):=⟨vv i hN hv hd hcd⟩
theorem C9 (i:Nat) {x:Str} {pos:Pos} (hN:X.N[i]? = some x:=by rfl) (hv:AD X.env.scope x:=by first | exact Or.inl rfl | exact Or.inr (Or.inl rfl) | exact Or.inr (Or.inr rfl)) (hd:(x == ("__debug__" : Str))=false:=by decide)
  (hcd:(x == ("__classdict__" : Str))=false:=by decide):WP X (.Name x pos) (eW i):=⟨Ca i (rf hN hv hd hcd)⟩
theorem ak {i j pos}:WE X (.Constant (.int i) j pos) (vC (.int i)):=⟨By⟩
theorem nP {i j pos}:WE X (.Constant (.bool i) j pos) (vC (.bool i)):=⟨ve_bl⟩
theorem xD {j pos}:WE X (.Constant .none j pos) (vC .none):=⟨BA⟩
theorem aH {op:Operator} {a b:Expr} {g:M->M->Option M} {fa fb:FE} (ho:di X (binaryOp op) (rM X.K g)) (ha:WE X a fa) (hb:WE X b fb):WE X (.BinOp a op b pos) (vB g fa fb):=⟨ve_op rM_v ho ha.h hb.h⟩
theorem iO {op:CmpOp} {a b:Expr} {g:M->M->Option M} {fa fb:FE} (ho:di X (compareOp op) (rM X.K g)) (ha:WE X a fa) (hb:WE X b fb) (hm:behindInMarks op b=false):WE X (.Compare a [op] [b] pos) (vB g fa fb):=⟨BB rM_v ho ha.h hb.h hm⟩
theorem fq {op:CmpOp} {a b:Expr} {g:M->M->Option M} {fa fb:FE} (ho:di X (compareOp op) (rM X.K g)) (ha:WE X a fa) (hb:WE X b fb) (hm:behindInMarks op b=false):WT X (.Compare a [op] [b] pos) (cz (vB g fa fb)):=⟨BE rM_v ho ha.h hb.h hm⟩
theorem we_in {a b:Expr} {fa fb:FE} (hu:X.A.units+64<cLine) (ha:WE X a fa) (hb:WE X b fb) (hm:behindInMarks .In b=false:=by rfl):WE X (.Compare a [.In] [b] pos) (vB (lg false) fa fb):=⟨ve_in hu ha.h hb.h hm⟩
theorem xE {a b:Expr} {fa fb:FE} (hu:X.A.units+64<cLine) (ha:WE X a fa) (hb:WE X b fb) (hm:behindInMarks .NotIn b=false:=by rfl):WE X (.Compare a [.NotIn] [b] pos) (vB (lg true) fa fb):=⟨w6 hu ha.h hb.h hm⟩
theorem Ao {a b:Expr} {fa fb:FE} (hu:X.A.units+64<cLine) (ha:WE X a fa) (hb:WE X b fb) (hm:behindInMarks .In b=false:=by rfl):WT X (.Compare a [.In] [b] pos) (cz (vB (lg false) fa fb)):=⟨vt_in hu ha.h hb.h hm⟩
theorem gK {e:Expr} {f:FE} (h:WE X e f) (he:∀whole,isTrue e X.env whole=(do let v <-whole; standAt e.pos; holding [v] (truthy v)):=by intro _; rfl):WT X e (iJ f):=⟨BQ h.h he⟩
theorem pI {a:Expr} {f:FT} (h:WT X a f):WT X (.UnaryOp .Not a pos) (kU f):=⟨BF h.h⟩
theorem Aq {e:Expr} {f:FT} (h:WW X e f):WT X e f:=⟨PW.pt h.h⟩
theorem zI {a:Expr} {f:FT} (h:WT X a f):WW X (.BoolOp .And [a] pos) f:=⟨zh h.h⟩
theorem Cf {a:Expr} {f:FT} (h:WT X a f):WW X (.BoolOp .Or [a] pos) f:=⟨BG h.h⟩
theorem Cg {a b:Expr} {rest:List Expr} {f g:FT} (h:WT X a f) (h':WW X (.BoolOp .And (b::rest) pos) g):WW X (.BoolOp .And (a::b::rest) pos) (uU f g):=⟨BH h.h h'.h⟩
theorem ww_or {a b:Expr} {rest:List Expr} {f g:FT} (h:WT X a f) (h':WW X (.BoolOp .Or (b::rest) pos) g):WW X (.BoolOp .Or (a::b::rest) pos) (CT f g):=⟨vw_or h.h h'.h⟩
theorem lI {a b:Expr} {rest:List Expr} {fa fb:FE} (ha:WE X a fa) (hb:WE X (.BoolOp .And (b::rest) pos) fb):WE X (.BoolOp .And (a::b::rest) pos) (jg fa fb):=⟨BI ha.h hb.h⟩
theorem pJ {op a} {f:FE} (h:WE X a f):WE X (.BoolOp op [a] pos) f:=⟨BJ h.h⟩
theorem Ci {a:Expr} {fa:FE} (ha:WE X a fa):WE X (.UnaryOp .Not a pos) (tK fa):=⟨BK ha.h⟩
theorem Cj {a:Expr} {fa:FE} (ha:WE X a fa):WE X (.UnaryOp .USub a pos) (vU uZ fa):=⟨BR ha.h⟩
theorem jJ:WA X [] gE:=⟨BC⟩
theorem aj {a:Expr} {fa:FE} (ha:WE X a fa) (hs:starEach [a] X.env=[(false,eval a X.env)]:=by rfl):WA X [a] (af fa):=⟨BD ha.h hs⟩
theorem av {a:Expr} {as:List Expr} {fa:FE} {fr:FA} (ha:WE X a fa) (hr:WA X as fr) (hs:starEach (a::as) X.env=(false,eval a X.env)::starEach as X.env:=by rfl):WA X (a::as) (ai fa fr):=⟨zg ha.h hr.h hs⟩
theorem cP {es:List Expr} {k:Nat} {fa:FA} (h:WA X es fa):WE X (.Tuple es k pos) (cG fa):=⟨BN h.h⟩
theorem dB {es:List Expr} {fa:FA} (h:WA X es fa):WE X (.List es pos) (eO fa):=⟨BO h.h⟩
theorem cU {a b:Expr} {fa fb:FE} (hu:X.A.units+64<cLine) (ha:WE X a fa) (hb:WE X b fb) (hs:oE b):WE X (.Subscript a b pos) (iI fa fb):=⟨ve_ix hu ha.h hb.h hs⟩
theorem jj:WO X none dZ:=⟨zj⟩
theorem jk {e:Expr} {f:FE} (h:WE X e f):WO X (some e) (d7 f):=⟨zk h.h⟩
theorem qE {e:Expr} {lo hi:Option Expr} {p2:Pos} {fa:FE} {fl fh:FO} (ha:WE X e fa) (hl:WO X lo fl) (hh:WO X hi fh):WE X (.Subscript e (.Slice lo hi none p2) pos) (w9 fa fl fh):=⟨ve_sl ha.h hl.h hh.h⟩
theorem fO {id:String} {x:Str} {p:Pos} {e:Expr} {es:List Expr} {g:List M->Option M} {fa:FA} (hc:bI X (.builtin id) (uV X.K g)) (hg:Gl X x) (hm:X.mg x=none) (hv:bootBuiltins x=some (.builtin id)) (ha:WA X (e::es) fa) (hn:x ≠ "__name__" := by decide) (hdb:(x == ("__debug__" : Str))=false:=by decide)
  (he:starEach (e::es) X.env=(false,eval e X.env)::starEach es X.env:=by rfl) (hpl:(backTo pos (starEach es X.env)).any (·.1)=false:=by rfl):WE X (.Call (.Name x p) (e::es) [] pos) (eL g fa):=⟨ve_cb hc hg hm hv ha.h hn hdb he hpl⟩
theorem jl {T:String} {x:Str} {p:Pos} {e:Expr} {es:List Expr} {g:List M->Option M} {fa:FA} (hc:bI X (.type T) (uV X.K g)) (hg:Gl X x) (hm:X.mg x=none) (hv:bootBuiltins x=some (.type T)) (ha:WA X (e::es) fa) (hn:x ≠ "__name__" := by decide) (hdb:(x == ("__debug__" : Str))=false:=by decide)
  (he:starEach (e::es) X.env=(false,eval e X.env)::starEach es X.env:=by rfl) (hpl:(backTo pos (starEach es X.env)).any (·.1)=false:=by rfl):WE X (.Call (.Name x p) (e::es) [] pos) (eL g fa):=⟨ve_ct hc hg hm hv ha.h hn hdb he hpl⟩
theorem gM {p p2:Pos} {e:Expr} (c:String) {y:Str} {fa:FE} (hc:c∈cM) (hn:c ≠ "NoneType") (hg:Gl X "isinstance") (hm:X.mg "isinstance" = none) (hv:bootBuiltins "isinstance" = some (.builtin "isinstance")) (ha:WE X e fa) (hy:PE X (.Name y p2) (tC (.ty c)))
  (he:starEach [e,.Name y p2] X.env=[(false,eval e X.env),(false,eval (.Name y p2) X.env)]:=by rfl) (he2:starEach [.Name y p2] X.env=[(false,eval (.Name y p2) X.env)]:=by rfl) (hpl:(backTo pos (starEach [.Name y p2] X.env)).any (·.1)=false:=by rfl):WE X (.Call (.Name "isinstance" p) [e,.Name y p2] [] pos) (vU (lB c) fa):=⟨BU hc hn hg hm hv ha.h hy he he2 hpl⟩
theorem bw {x:Str} {ps:List Str} {k k':Nat} {g:FF} {e:Expr} {es:List Expr} {fa:FA} {p:Pos} (C:aS X.prog X.w X.K X.mg X.base x ps k (cT X.K g)) (hr:eN k' X.A) (hg:Gl X x) (ha:WA X (e::es) fa) (hk:k<=k':=by first | decide | exact Nat.le_refl _ | lia) (hdb:(x == ("__debug__" : Str))=false:=by decide)
  (he:starEach (e::es) X.env=(false,eval e X.env)::starEach es X.env:=by rfl) (hpl:(backTo pos (starEach es X.env)).any (·.1)=false:=by rfl):WE X (.Call (.Name x p) (e::es) [] pos) (dm g fa):=⟨ve_fn C hr hg ha.h hk hdb he hpl⟩
theorem sj (i:Nat) {e:Expr} {es:List Expr} {fa:FA} {x:Str} {p1 p2:Pos} (ha:WA X (e::es) fa) (hpe:∀ (to:TE) (t:TA),PE X (.Name x p1) to->PA X (e::es) t->PE X (.Call (.Attribute (.Name x p1) "append" p2) (e::es) [] pos) (yp X.K "list" gT to t)) (hv:PE X (.Name x p1) (fC i)):WE X (.Call (.Attribute (.Name x p1) "append" p2) (e::es) [] pos) (mX i fa):=⟨B9 i ha.h hpe hv⟩
theorem t9 (i:Nat) {o k d:Expr} {p1 p2 p3:Pos} {fk fd:Ev->Option PyData} (hk:WP X k fk) (hd:WP X d fd) (hu:X.A.units+64<cLine) (ho:PE X o (fC i)) (hs:NoSl k)
  (hpe:∀ (to:TE) (t:TA),PE X (.Subscript o k p1) to->PA X [d] t->PE X (.Call (.Attribute (.Subscript o k p1) "append" p2) [d] [] p3) (yp X.K "list" gT to t)) (hse:starEach [d] X.env=[(false,eval d X.env)]:=by rfl):WE X (.Call (.Attribute (.Subscript o k p1) "append" p2) [d] [] p3) (lH i fk fd) :=
 ⟨aW (hpe _ _ (sZ (by lia) ho hk.h hs) (iV hd.h ou hse)) fun _ _ _ hq=>xC hq⟩
theorem jm (n:Nat) (js:List Nat) {elt target iter:Expr} {ifs:List Expr} {scope:Scope} {N:List Str} {fr:List (Option Nat)} {pin:List Nat} {fi:FI} {fg:FG} {ft:FT} {fe:FE} (hfr:fr=List.replicate n none++js.map some) (hpin:pin=(List.range js.length).map (n + ·)) (hc:X.calm=true) (S:aR X scope N fr) (hi:WI X target iter fi)
  (hin:∀z:Bk,WG (aD X scope z.cl N z.C z.fp z.s z.H) pin target fg/\WF (aD X scope z.cl N z.C z.fp z.s z.H) ifs ft/\WE (aD X scope z.cl N z.C z.fp z.s z.H) elt fe)
  (hs:∀x,foldedSetIterable iter X.env x=pure x:=by intro _; rfl):WE X (.ListComp elt [⟨target,iter,ifs,0⟩] scope pos) (jX n js fi fg ft fe):=⟨ve_lc n js hfr hpin hc S hi.h (fun z=>⟨(hin z).1.h,(hin z).2.1.h,(hin z).2.2.h⟩) hs⟩
theorem Ar (b:Bool) (n:Nat) (js:List Nat) {ek ev target iter:Expr} {ifs:List Expr} {scope:Scope} {N:List Str} {fr:List (Option Nat)} {pin:List Nat} {fi:FI} {fg:FG} {ft:FT} {fk fv:FE} (hfr:fr=List.replicate n none++js.map some) (hpin:pin=(List.range js.length).map (n + ·)) (hc:X.calm=true) (S:aR X scope N fr) (hi:WI X target iter fi)
  (hin:∀z:Bk,WG (aD X scope z.cl N z.C z.fp z.s z.H) pin target fg/\WF (aD X scope z.cl N z.C z.fp z.s z.H) ifs ft/\WE (aD X scope z.cl N z.C z.fp z.s z.H) ek fk/\WE (aD X scope z.cl N z.C z.fp z.s z.H) ev fv)
  (hs:∀x,foldedSetIterable iter X.env x=pure x:=by intro _; rfl):WE X (.DictComp ek ev [⟨target,iter,ifs,0⟩] scope pos) (CC b n js fi fg ft fk fv):=⟨ve_dc b n js hfr hpin hc S hi.h (fun z=>⟨(hin z).1.h,(hin z).2.1.h,(hin z).2.2.1.h,(hin z).2.2.2.h⟩) hs⟩
theorem fu:WF X [] cH:=⟨B7⟩
theorem pK {c:Expr} {f:FT} (h:WT X c f):WF X [c] f:=⟨B8 h.h⟩
theorem dD {tg l:Expr} {f:FE} (h:WE X l f):WI X tg l (cO f):=⟨B3 h.h⟩
theorem cQ {tg a:Expr} {fa:FA} {p:Pos} (hg:Gl X "range") (hm:X.mg "range" = none) (ha:WA X [a] fa) (hs:starEach [a] X.env=[(false,eval a X.env)]:=by rfl):WI X tg (.Call (.Name "range" p) [a] [] pos) (bC fj fa):=⟨zA hg hm ha.h hs⟩
theorem zJ {tg a b:Expr} {fa:FA} {p:Pos} (hg:Gl X "range") (hm:X.mg "range" = none) (ha:WA X [a,b] fa) (hs:starEach [a,b] X.env=[(false,eval a X.env),(false,eval b X.env)]:=by rfl) (hs2:starEach [b] X.env=[(false,eval b X.env)]:=by rfl):WI X tg (.Call (.Name "range" p) [a,b] [] pos) (bC vc fa):=⟨zB hg hm ha.h hs hs2⟩
theorem Ck {a b:Expr} {fa:FA} {p tp:Pos} {es:List Expr} {k:Nat} (hg:Gl X "zip") (hm:X.mg "zip" = none) (ha:WA X [a,b] fa) (hs:starEach [a,b] X.env=[(false,eval a X.env),(false,eval b X.env)]:=by rfl) (hs2:starEach [b] X.env=[(false,eval b X.env)]:=by rfl):WI X (.Tuple es k tp) (.Call (.Name "zip" p) [a,b] [] pos) (bC xx fa):=⟨B4 hg hm ha.h hs hs2⟩
theorem aA {i:Nat} {x:Str} (hp0:i∉pin) (hN:X.N.Nodup) (hi:X.N[i]? = some x) (hx:Loc X.env.scope x) (hf:X.fn x=true\/X.env.scope.names.lookup x=some .local:=by first | exact .inl rfl | exact .inr rfl | assumption):WG X pin (.Name x pos) (ah i):=⟨zv hp0 hN hi hx hf⟩
theorem gf:C8 X pin [] cC:=⟨zw⟩
theorem bq {e:Expr} {es:List Expr} {f:FG} {g:u9} (h1:WG X pin e f) (h2:C8 X pin es g) (hs:(assignEach (e::es) X.env).map (·.2)=assign e X.env::(assignEach es X.env).map (·.2):=by rfl):C8 X pin (e::es) (aC f g):=⟨xu h1.h h2.h hs⟩
theorem iP {es:List Expr} {k:Nat} (n:Nat) {g:u9} (hc:X.calm=true) (h:C8 X pin es g) (hn:(assignEach es X.env).length=n:=by rfl) (hst:(assignEach es X.env).findIdx? (·.1)=none:=by rfl):WG X pin (.Tuple es k pos) (bX n g):=⟨BX hc h.h fun _ h=>AO hc h hn hst⟩
theorem bS:An X pin [] bJ:=⟨zm⟩
theorem ay {st:Stmt} {f:FS} (h:WS X pin st f):An X pin [st] f:=⟨zq h.h⟩
theorem au {st:Stmt} {rest:List Stmt} {f g:FS} (h1:WS X pin st f) (h2:An X pin rest g):An X pin (st::rest) (aF f g):=⟨xq h1.h h2.h⟩
theorem eX {c:Expr} {a b:List Stmt} {fc:FT} {f g:FS} (hc:WT X c fc) (ha:An X pin a f) (hb:An X pin b g):WS X pin (.If c a b pos) (dw fc f g):=⟨vs_if hc.h ha.h hb.h⟩
theorem dM {e:Expr} {f:FE} (h:WE X e f) (hs:swapsWith e none pos.line X.env=pure false:=by rfl):WS X pin (.Expr e pos) (cB f):=⟨zu h.h hs⟩
theorem aY {e:Expr} {f:FE} (h:WE X e f):WS X pin (.Return (some e) pos) (cL f):=⟨BV h.h⟩
theorem aX {i:Nat} {x:Str} {e:Expr} {f:FE} {pos':Pos} (hp0:i∉pin) (hN:X.N.Nodup) (hi:X.N[i]? = some x) (hx:Loc X.env.scope x) (he:WE X e f) (hs:swapsWith e (some (.Name x pos')) pos.line X.env=pure false:=by rfl) (hf:X.fn x=true\/X.env.scope.names.lookup x=some .local:=by first | exact .inl rfl | exact .inr rfl | assumption) :
  WS X pin (.Assign [.Name x pos'] e pos) (bh i f):=⟨BW hp0 hN hi hx he.h hs hf⟩
theorem sr {i:Nat} {x:Str} (n:Nat) (js:List Nat) {elt target iter:Expr} {ifs:List Expr} {scope:Scope} {N:List Str} {fr:List (Option Nat)} {pinI:List Nat} {fi:FI} {fg:FG} {ft:FT} {fe:FE} {pos' spos:Pos} (hp0:i∉pin) (hN:X.N.Nodup) (hi':X.N[i]? = some x) (hx:X.env.scope.names.lookup x=some .local)
  (hfr:fr=List.replicate n none++js.map some) (hpin:pinI=(List.range js.length).map (n + ·)) (hc:X.calm=true) (S:aR X scope N fr) (hi:WI X target iter fi)
  (hin:∀z:Bk,WG (aD X scope z.cl N z.C z.fp z.s z.H) pinI target fg/\WF (aD X scope z.cl N z.C z.fp z.s z.H) ifs ft/\WE (aD X scope z.cl N z.C z.fp z.s z.H) elt fe)
  (hs:∀x,foldedSetIterable iter X.env x=pure x:=by intro _; rfl) (hsw:swapsWith (.ListComp elt [⟨target,iter,ifs,0⟩] scope pos) (some (.Name x pos')) spos.line X.env=pure true:=by rfl) :
  WS X pin (.Assign [.Name x pos'] (.ListComp elt [⟨target,iter,ifs,0⟩] scope pos) spos) (bh i (jX n js fi fg ft fe)):=⟨Cd n js hp0 hN hi' hx hfr hpin hc S hi.h (fun z=>⟨(hin z).1.h,(hin z).2.1.h,(hin z).2.2.h⟩) hs hsw⟩
theorem su {tg e:Expr} {f:FE} {g:FG} (he:WE X e f) (hg:WG X pin tg g) (hs:swapsWithSole [tg] e pos.line X.env=pure false:=by rfl) (hw:swappedStores [tg] e X.env=pure none:=by rfl)
  (hps:∀ (te:TE) (t:TG),PE X e te->PG X tg t->PS X (.Assign [tg] e pos) (oi te t):=by exact fun _ _ h1 h2=>kg h1 h2):WS X pin (.Assign [tg] e pos) (r9 f g):=⟨BY he.h hg.h hs hw hps⟩
theorem sy (i:Nat) {o k e:Expr} {fk fe:FE} {pos':Pos} (hu:X.A.units+64<cLine) (ho:PE X o (fC i)) (hk:WE X k fk) (he:WE X e fe) (hs:swapsWith e (some (.Subscript o k pos')) pos.line X.env=pure false)
  (hps:∀ (te:TE) (t:TG),PE X e te->PG X (.Subscript o k pos') t->PS X (.Assign [.Subscript o k pos'] e pos) (oi te t)) (hpg:∀to ti:TE,PE X o to->PE X k ti->PG X (.Subscript o k pos') (vV to ti qe)):WS X pin (.Assign [.Subscript o k pos'] e pos) (sf i fk fe):=⟨Cc i hu ho hk.h he.h hs hps hpg⟩
theorem ee {tg iter:Expr} {body:List Stmt} {fi:FI} {fg:FG} {fb:FS} (hp0:PassesOwn (model X.prog X.w) X.A X.env X.xe) (hc:X.calm=true) (hi:WI X tg iter fi) (hg:WG X pin tg fg) (hb:An X pin body fb)
  (hs:∀x,foldedSetIterable iter X.env x=pure x:=by intro _; rfl):WS X pin (.For tg iter body [] pos) (gc fi fg fb):=⟨B5 hp0 hc hi.h hg.h hb.h hs⟩
end
section
variable {P:Program} {w:World} {K:PySem.W.Frag} {mg:Str->Option Value} {base:Heap}
theorem bM {x qual:Str} {st:Stmt} {f:Addr} {fd:FuncData} {N prs:List Str} {k:Nat} (ps:List Bool) {fb:FS} (Fn:mE K x qual st f fd) (S:aT N prs (aq st)) (hl:prs.length=ps.length)
  (hb:∀ (cdv:Value) (A:Around) (outer:List Env) (s:Shared) (H:Hp) (E:XK),eN k (A.deeper (envOfC qual (aq st) s.heap.objs.size f cdv))->An (p7 jx P w K mg base N qual (aq st) f cdv A outer s H E).Cy (pins ps 0) (aQ st) fb) :
  cu P w K mg base jx (k+1) f fd prs (cT K (fm ps N.length fb)):=B6 ps Fn S hl fun cdv A outer s H E hr=>(hb cdv A outer s H E hr).h
noncomputable def pL (K:PySem.W.Frag):Sp:=fun vs H Q _=>∃ (a:Addr) (ns:List Int),vs=[.ref a]/\fV K H a (ns.map V.int)/\ns.length<=63/\∀H',Q (.bl true) H'
theorem Cm {k:Nat} {f:Addr} {fd:FuncData} {x:Str} {g:FF} (F:cu P w K mg base jx k f fd [x] (cT K g)) (h:∀ns:List Int,ns.length<=63->∃ms,g [.v (.list (ns.map .int))]=some (.v (.bool true),ms)):cu P w K mg base jx k f fd [x] (pL K):=by
 refine F.imp fun vs H Q E hs => ?_
 obtain⟨a,ns,rfl,hq,hl,q⟩:=hs;obtain⟨ms,e⟩:=h ns hl;rcases hq with hq | hq
 ·have hz:∀b,(fun b=>b=a) b->H b≠none:=fun b hb e=>by
   have hb:b=a:=hb;subst hb;rcases hq with hq | ⟨o,hq⟩ <;> rw[hq] at e <;> cases e
  refine⟨fun b=>b=a,_,[],_,ms,.cons (G:=[]) (.v (.lst hq rfl (br.ints ns))) .nil,⟨List.nodup_nil,fun _ h=>(nomatch h),hz⟩,e,fun x H' Z' A' G _ h _ => ?_⟩
  cases h with
  | v f=>obtain rfl:=f.rQ; exact q H'
 ·refine⟨fun _=>False,_,[],_,ms,.cons (G:=[]) (.v (.lsK hq (br.ints ns))) .nil,⟨List.nodup_nil,fun _ h=>(nomatch h),fun _ h=>h.elim⟩,e,fun x H' Z' A' G _ h _ => ?_⟩
  cases h with
  | v f=>obtain rfl:=f.rQ; exact q H'
end
section
variable {X:Cx} {pos:Pos} {pin:List Nat}
noncomputable def xF:M->M->Option M
 | .v (.tuple ds),.v (.int i)=>if i = -1 then some (.v (.tuple ds.reverse)) else none
 | _,_=>none
theorem Cn {e st:Expr} {fa fb:FE} {p2:Pos} (he:WE X e fa) (hs:WE X st fb):WE X (.Subscript e (.Slice none none (some st) p2) pos) (vB xF fa fb):=⟨aW (Bv he.h hs.h) fun σ H Q hq=>by
 obtain⟨m1,m2,m,e,h⟩:=tP hq;refine h _ fun H2 Z2 x y za h1 h2 fin => ?_
 unfold xF at e
 split at e
 ·split at e
  ·next hi =>
   cases e;subst hi;obtain⟨a,xs,rfl,t,f⟩:=h1.tup;obtain rfl:=h2.int;exact⟨a,xs,rfl,rfl,t,fun p hp=>endT fin za hp f.reverse⟩
  ·cases e
 ·cases e⟩
end
theorem zK {P:Program} {w:World} {K:PySem.W.Frag} {mg:Str->Option Value} {base:Heap} {CX:vD} {k:Nat} {f:Addr} {fd:FuncData} {ps:List Str}:cu P w K mg base CX k f fd ps (cT K fun _=>none) :=
 ⟨fun vs H Q E h=>(by obtain⟨_,_,_,_,_,_,_,e,_⟩:=h; cases e),fun A outer s H args us vs Q E _ _ _ _ h=>(by obtain⟨_,_,_,_,_,_,_,e,_⟩:=h; cases e)⟩
end VL
end
section
namespace VL
open PySem L2
section
variable {ρ:Ev} {m:M} {x:Option M} {i j:Nat}
@[simp] theorem at?_0:cS (some m::ρ) 0=some m:=rfl
@[simp] theorem at?_n:cS (none::ρ) 0=none:=rfl
@[simp] theorem at?_s:cS (x::ρ) (i+1)=cS ρ i:=rfl
@[simp] theorem Co:peek ρ (.t m)=some m:=rfl
@[simp] theorem peek_p:peek ρ (.p i)=cS ρ i:=rfl
@[simp] theorem zL:jf ρ (.t m)=some m:=rfl
@[simp] theorem peekS_p:jf ρ (.p i)=cS ρ i:=rfl
@[simp] theorem CD:iu ρ []=some []:=rfl
@[simp] theorem Cp {o:dJ} {os:List dJ}:iu ρ (o::os)=(peek ρ o).bind fun m=>(iu ρ os).bind fun ms=>some (m::ms):=rfl
@[simp] theorem zM:aa i ρ=match cS ρ i with
 | some (.v d)=>some (.t (.v d),ρ)
 | some _=>some (.p i,ρ)
 | none=>none:=rfl
@[simp] theorem vC_eq {d:PyData}:vC d ρ=some (.t (.v d),ρ):=rfl
@[simp] theorem vB_eq {g:M->M->Option M} {fa fb:FE}:vB g fa fb ρ=(fa ρ).bind fun p=>(fb p.2).bind fun q=>(jf q.2 p.1).bind fun m1=>(peek q.2 q.1).bind fun m2=>(g m1 m2).bind fun m=>some (.t m,q.2):=rfl
@[simp] theorem vU_eq {g:M->Option M} {fa:FE}:vU g fa ρ=(fa ρ).bind fun p=>(peek p.2 p.1).bind fun m1=>(g m1).bind fun m=>some (.t m,p.2):=rfl
@[simp] theorem vaNil_eq:gE ρ=some ([],ρ):=rfl
@[simp] theorem vaOne_eq {fa:FE}:af fa ρ=(fa ρ).bind fun p=>some ([p.1],p.2):=rfl
@[simp] theorem stab_t:rR (.t m)=true:=rfl
@[simp] theorem stab_p:rR (.p i)=true:=rfl
@[simp] theorem CF {fa:FE} {fr:FA}:ai fa fr ρ=(fa ρ).bind fun p=>(fr p.2).bind fun q=>if rR p.1=true then some (p.1::q.1,q.2) else none:=rfl
@[simp] theorem vCB_eq {g:List M->Option M} {fa:FA}:eL g fa ρ=(fa ρ).bind fun p=>(iu p.2 p.1).bind fun ms=>(g ms).bind fun m=>some (.t m,p.2):=rfl
@[simp] theorem tr_bool {b:Bool}:Dp (.v (.bool b))=some b:=rfl
@[simp] theorem vTst_eq {f:FE}:cz f ρ=(f ρ).bind fun p=>(peek p.2 p.1).bind fun m=>(Dp m).bind fun b=>some (b,p.2):=rfl
@[simp] theorem vTru_eq {f:FE}:iJ f ρ=(f ρ).bind fun p=>(peek p.2 p.1).bind fun m=>(qx m).bind fun b=>some (b,p.2):=rfl
@[simp] theorem tru_bool {b:Bool}:qx (.v (.bool b))=some b:=rfl
@[simp] theorem tru_tup {ds:List PyData}:qx (.v (.tuple ds))=some (!ds.isEmpty):=rfl
@[simp] theorem tru_list {ds:List PyData}:qx (.v (.list ds))=some (!ds.isEmpty):=rfl
@[simp] theorem tru_lst {ds:List PyData}:qx (.lst ds)=some (!ds.isEmpty):=rfl
@[simp] theorem tru_dic {ds:List (Key×PyData)}:qx (.bL ds)=some (!ds.isEmpty):=rfl
@[simp] theorem vNot_eq {f:FT}:kU f ρ=(f ρ).bind fun p=>some (!p.1,p.2):=rfl
@[simp] theorem vAnd_eq {f g:FT}:uU f g ρ=(f ρ).bind fun p=>if p.1=true then g p.2 else some (false,p.2):=rfl
@[simp] theorem vOr_eq {f g:FT}:CT f g ρ=(f ρ).bind fun p=>if p.1=true then some (true,p.2) else g p.2:=rfl
@[simp] theorem vYes_eq:cH ρ=some (true,ρ):=rfl
@[simp] theorem vAndV_eq {fa fb:FE}:jg fa fb ρ=(cz fa ρ).bind fun p=>if p.1=true then fb p.2 else some (.t (.v (.bool false)),p.2):=rfl
@[simp] theorem vNotV_eq {fa:FE}:tK fa ρ=(cz fa ρ).bind fun p=>some (.t (.v (.bool (!p.1))),p.2):=rfl
@[simp] theorem toD_v {d:PyData}:toD (.v d)=d:=rfl
@[simp] theorem zN {d:List PyData}:toD (.lst d)=.list d:=rfl
@[simp] theorem Cq:cA (.t m) ρ=some (toD m,ρ):=rfl
@[simp] theorem frz1_p:cA (.p i) ρ=(cS ρ i).bind fun m=>some (toD m,ρ.set i (some (.v (toD m)))):=rfl
@[simp] theorem frzs_nil:dH [] ρ=some ([],ρ):=rfl
@[simp] theorem CG {o:dJ} {os:List dJ}:dH (o::os) ρ=(cA o ρ).bind fun p=>(dH os p.2).bind fun q=>some (p.1::q.1,q.2):=rfl
@[simp] theorem vTup_eq {fa:FA}:cG fa ρ=(fa ρ).bind fun p=>(dH p.1 p.2).bind fun q=>if q.1.length<=lim then some (.t (.v (.tuple q.1)),q.2) else none:=rfl
@[simp] theorem vLst_eq {fa:FA}:eO fa ρ=(fa ρ).bind fun p=>(dH p.1 p.2).bind fun q=>if q.1.length<=lim then some (.t (.lst q.1),q.2) else none:=rfl
@[simp] theorem ixO_t {m1 m2:M}:C5 (.t m1) m2 ρ=(getM m1 m2).bind fun m=>some (.t m,ρ):=rfl
@[simp] theorem vIx_eq {fa fb:FE}:iI fa fb ρ=(fa ρ).bind fun p=>(fb p.2).bind fun q=>(peek q.2 q.1).bind fun m2=>C5 p.1 m2 q.2:=rfl
@[simp] theorem ixO_p {m2:M}:C5 (.p i) m2 ρ=(cS ρ i).bind fun m1=>match m1,m2 with
  | .bG kvs,.v k=>(g9 k).bind fun k=>(cN kvs k).bind fun _=>some (.q i k,ρ)
  | m1,m2=>(getM m1 m2).bind fun m=>some (.t m,ρ):=rfl
@[simp] theorem getM_tup {ds:List PyData} {k:Int}:getM (.v (.tuple ds)) (.v (.int k))=(kD ds k).bind fun d=>some (.v d):=rfl
@[simp] theorem CH {ds:List PyData} {k:Int}:getM (.v (.list ds)) (.v (.int k))=(kD ds k).bind fun d=>some (.v d):=rfl
@[simp] theorem getM_lst {ds:List PyData} {k:Int}:getM (.lst ds) (.v (.int k))=(kD ds k).bind fun d=>some (.v d):=rfl
@[simp] theorem getM_dic {kvs:List (Key×PyData)} {k:PyData}:getM (.bL kvs) (.v k)=(g9 k).bind fun k=>(cN kvs k).bind fun d=>some (.v d):=rfl
@[simp] theorem keyD_int {k:Int}:g9 (.int k)=some (.inl k):=rfl
@[simp] theorem keyD_str {k:Str}:g9 (.str k)=some (.inr k):=rfl
@[simp] theorem vd:dZ ρ=some (none,ρ):=rfl
@[simp] theorem ve {f:FE}:d7 f ρ=(f ρ).bind fun p=>(peek p.2 p.1).bind fun m=>match m with
 | .v (.int i)=>some (some i,p.2)
 | _=>none:=rfl
@[simp] theorem Cr {fa:FE} {fl fh:FO}:w9 fa fl fh ρ=(fa ρ).bind fun p=>(fl p.2).bind fun l=>(fh l.2).bind fun h=>(jf h.2 p.1).bind fun m=>(CB l.1 h.1 m).bind fun m'=>some (.t m',h.2):=rfl
@[simp] theorem slM_tup {lo hi:Option Int} {ds:List PyData}:CB lo hi (.v (.tuple ds))=some (.v (.tuple (cutD ds lo hi))):=rfl
@[simp] theorem slM_lst {lo hi:Option Int} {ds:List PyData}:CB lo hi (.lst ds)=some (.lst (cutD ds lo hi)):=rfl
@[simp] theorem xG {lo hi:Option Int} {ds:List PyData}:CB lo hi (.v (.list ds))=some (.lst (cutD ds lo hi)):=rfl
@[simp] theorem CI:dh [] ρ=some ([],ρ):=rfl
@[simp] theorem takeA_t {os:List dJ}:dh (.t m::os) ρ=(dh os ρ).bind fun q=>some (m::q.1,q.2):=rfl
@[simp] theorem takeA_p {os:List dJ}:dh (.p i::os) ρ=(cS ρ i).bind fun m=>(dh os (ρ.set i none)).bind fun q=>some (m::q.1,q.2):=rfl
@[simp] theorem putA_nil {ms:List M}:gu [] ms ρ=ρ:=by cases ms <;> rfl
@[simp] theorem putA_t {os:List dJ} {m':M} {ms:List M}:gu (.t m::os) (m'::ms) ρ=gu os ms ρ:=rfl
@[simp] theorem putA_p {os:List dJ} {m':M} {ms:List M}:gu (.p i::os) (m'::ms) ρ=gu os ms (ρ.set i (some m')):=rfl
@[simp] theorem vFn_eq {g:FF} {fa:FA}:dm g fa ρ=(fa ρ).bind fun p=>(dh p.1 p.2).bind fun q=>(g q.1).bind fun r=>some (.t r.1,gu p.1 r.2 q.2):=rfl
@[simp] theorem vNext_eq:bJ ρ=some (.nx ρ):=rfl
@[simp] theorem zO {f g:FS}:aF f g ρ=(f ρ).bind fun o=>match o with
 | .nx ρ1=>g ρ1
 | o=>some o:=rfl
@[simp] theorem vIfS_eq {c:FT} {f g:FS}:dw c f g ρ=(c ρ).bind fun p=>if p.1=true then f p.2 else g p.2:=rfl
@[simp] theorem qF {f:FE}:cB f ρ=(f ρ).bind fun p=>some (.nx p.2):=rfl
@[simp] theorem movO_t:r8 (.t m) ρ=some (m,ρ):=rfl
@[simp] theorem movO_p:r8 (.p i) ρ=(cS ρ i).bind fun m=>some (m,ρ.set i none):=rfl
@[simp] theorem vRet_eq {f:FE}:cL f ρ=(f ρ).bind fun p=>(r8 p.1 p.2).bind fun q=>some (.rt q.1 q.2):=rfl
@[simp] theorem setN_eq:lE i m ρ=if i<ρ.length then some (ρ.set i (some m)) else none:=rfl
@[simp] theorem vSet_eq {f:FE}:bh i f ρ=(f ρ).bind fun p=>(r8 p.1 p.2).bind fun q=>(lE i q.1 q.2).bind fun ρ'=>some (.nx ρ'):=rfl
@[simp] theorem CJ {d:PyData}:ah i d ρ=lE i (.v d) ρ:=rfl
@[simp] theorem vgNil_eq:cC [] ρ=some ρ:=rfl
@[simp] theorem CK {f:FG} {g:u9} {d:PyData} {ds:List PyData}:aC f g (d::ds) ρ=(f d ρ).bind fun ρ1=>g ds ρ1:=rfl
@[simp] theorem vgTup_eq {n:Nat} {g:u9} {ds:List PyData}:bX n g (.tuple ds) ρ=if ds.length=n then g ds ρ else none:=rfl
@[simp] theorem vAsg_eq {f:FE} {g:FG}:r9 f g ρ=(f ρ).bind fun p=>(cA p.1 p.2).bind fun q=>(g q.1 q.2).bind fun ρ'=>some (.nx ρ'):=rfl
@[simp] theorem itD_tup {ds:List PyData}:C7 (.tuple ds)=some ds:=rfl
@[simp] theorem xH {ds:List PyData}:C7 (.list ds)=some ds:=rfl
@[simp] theorem xJ {f:FE}:cO f ρ=(f ρ).bind fun p=>(cA p.1 p.2).bind fun q=>(C7 q.1).bind fun ds=>some (ds,q.2):=rfl
@[simp] theorem viArg_eq {g:List M->Option (List PyData)} {fa:FA}:bC g fa ρ=(fa ρ).bind fun p=>(iu p.2 p.1).bind fun ms=>(g ms).bind fun ds=>some (ds,p.2):=rfl
@[simp] theorem rng1_eq {k:Int}:fj [.v (.int k)]=if gJ k=true then some (aO 0 k) else none:=rfl
@[simp] theorem rng2_eq {a k:Int}:vc [.v (.int a),.v (.int k)]=if gJ a=true/\gJ k=true then some (aO a k) else none:=rfl
@[simp] theorem zP {fi:FI} {fg:FG} {fb:FS}:gc fi fg fb ρ=(fi ρ).bind fun p=>forL fg fb p.1 p.2:=rfl
@[simp] theorem forL_nil {fg:FG} {fb:FS}:forL fg fb [] ρ=some (.nx ρ):=rfl
@[simp] theorem cap_eq:cap ρ j=match cS ρ j with
 | some (.v d)=>some (.t (.v d))
 | some _=>some (.p j)
 | none=>none:=rfl
@[simp] theorem caps_nil:caps ρ []=some []:=rfl
@[simp] theorem CL {js:List Nat}:caps ρ (j::js)=(cap ρ j).bind fun o=>(caps ρ js).bind fun os=>some (o::os):=rfl
@[simp] theorem vLC_eq {n:Nat} {js:List Nat} {fi:FI} {fg:FG} {ft:FT} {fe:FE}:jX n js fi fg ft fe ρ=(fi ρ).bind fun p=>(caps p.2 js).bind fun os=>(dh os p.2).bind fun q =>
 (bR fg ft fe p.1 (List.replicate n none++q.1.map some) []).bind fun r=>(fin (List.replicate js.length true) q.1 (r.2.drop n)).bind fun ms'=>some (.t (.lst r.1),gu os ms' q.2):=rfl
@[simp] theorem fin_nil:fin [] [] ρ=some []:=by cases ρ <;> rfl
@[simp] theorem fin_t {ps:List Bool} {ms:List M} {m':M}:fin (true::ps) (m::ms) (some m'::ρ)=(fin ps ms ρ).bind fun ms'=>some (m'::ms'):=rfl
@[simp] theorem fin_f {ps:List Bool} {ms:List M} {d:PyData}:fin (false::ps) (.v d::ms) (x::ρ)=(fin ps ms ρ).bind fun ms'=>some (.v d::ms'):=rfl
@[simp] theorem vDC_eq {b:Bool} {n:Nat} {js:List Nat} {fi:FI} {fg:FG} {ft:FT} {fk fv:FE}:CC b n js fi fg ft fk fv ρ=(fi ρ).bind fun p=>(caps p.2 js).bind fun os=>(dh os p.2).bind fun q =>
 (jS fg ft fk fv p.1 (List.replicate n none++q.1.map some) (if b then .bG [] else .bL [])).bind fun r=>(fin (List.replicate js.length true) q.1 (r.2.drop n)).bind fun ms'=>some (.t r.1,gu os ms' q.2):=rfl
@[simp] theorem vApp_eq {fa:FA}:mX i fa ρ=(cS ρ i).bind fun m0=>match m0 with
 | .lst _=>(fa ρ).bind fun p=>match p.1 with
  | [o]=>(cA o p.2).bind fun q=>(cS q.2 i).bind fun m=>match m with
   | .lst ds=>if ds.length<lim then some (.t (.v .none),q.2.set i (some (.lst (ds++[q.1])))) else none
   | _=>none
  | _=>none
 | _=>none:=rfl
@[simp] theorem vPut_eq {fk fe:FE}:sf i fk fe ρ=(fe ρ).bind fun p=>(cA p.1 p.2).bind fun q=>(cS q.2 i).bind fun m0=>match m0 with
 | .v _=>none
 | _=>(fk q.2).bind fun r=>(peek r.2 r.1).bind fun mk=>(cS r.2 i).bind fun m=>match m,mk with
  | .bL kvs,.v kd=>(g9 kd).bind fun k=>if kvs.length<lim then some (.nx (r.2.set i (some (.bL (putD kvs k q.1))))) else none
  | .lst ds,.v (.int k)=>(uI ds.length k).bind fun j=>some (.nx (r.2.set i (some (.lst (ds.set j q.1)))))
  | _,_=>none:=rfl
theorem jn {ps:List Bool} {n:Nat} {fb:FS} {ms:List M}:fm ps n fb ms=if ms.length=ps.length then (fb (ms.map some++List.replicate (n-ms.length) none)).bind fun o=>match o with
 | .rt m ρ=>(fin ps ms ρ).bind fun ms'=>some (m,ms')
 | .nx ρ=>(fin ps ms ρ).bind fun ms'=>some (.v .none,ms')
 | _=>none
 else none:=rfl
@[simp] theorem int_eq {C:Int->Int->Bool} {g:Int->Int->PyData} {a b:Int}:jW C g (.v (.int a)) (.v (.int b))=if C a b=true then some (.v (g a b)) else none:=rfl
@[simp] theorem sub_eq {a b:Int}:jh (.v (.int a)) (.v (.int b))=some (.v (.int (a-b))):=rfl
@[simp] theorem add_int {a b:Int}:bH (.v (.int a)) (.v (.int b))=some (.v (.int (a+b))):=rfl
@[simp] theorem ua {a b:List PyData}:bH (.v (.tuple a)) (.v (.tuple b))=if a.length+b.length<=lim then some (.v (.tuple (a++b))) else none:=rfl
@[simp] theorem add_lst {a b:List PyData}:bH (.lst a) (.lst b)=if a.length+b.length<=lim then some (.lst (a++b)) else none:=rfl
@[simp] theorem mul_eq {a b:Int}:mulM (.v (.int a)) (.v (.int b))=if decide ((-(2 ^ 64)<a/\a<2 ^ 64)\/(-(2 ^ 64)<b/\b<2 ^ 64))=true then some (.v (.int (a*b))) else none:=rfl
@[simp] theorem mod_eq {a b:Int}:iG (.v (.int a)) (.v (.int b))=if decide (0<b)=true then some (.v (.int (a % b))) else none:=rfl
@[simp] theorem fdiv_eq {a b:Int}:tM (.v (.int a)) (.v (.int b))=if decide (0<b/\b<1073741824)=true then some (.v (.int (a / b))) else none:=rfl
@[simp] theorem gt_eq {a b:Int}:wZ (.v (.int a)) (.v (.int b))=some (.v (.bool (decide (b<a)))):=rfl
@[simp] theorem lt_eq {a b:Int}:CU (.v (.int a)) (.v (.int b))=some (.v (.bool (decide (a<b)))):=rfl
@[simp] theorem ge_eq {a b:Int}:C4 (.v (.int a)) (.v (.int b))=some (.v (.bool (decide (b<=a)))):=rfl
@[simp] theorem lt_tup {a b:List PyData}:CU (.v (.tuple a)) (.v (.tuple b))=(gH a).bind fun is=>(gH b).bind fun js=>some (.v (.bool (HT.lexLt is js))):=rfl
@[simp] theorem ge_tup {a b:List PyData}:C4 (.v (.tuple a)) (.v (.tuple b))=(gH a).bind fun is=>(gH b).bind fun js=>some (.v (.bool (!HT.lexLt is js))):=rfl
@[simp] theorem asD_v {d:PyData}:BL (.v d)=some d:=rfl
@[simp] theorem asD_lst {d:List PyData}:BL (.lst d)=some (.list d):=rfl
@[simp] theorem eq_int {a b:Int}:mV false (.v (.int a)) (.v (.int b))=some (.v (.bool (decide (a=b)))):=by
 have h:mV false (.v (.int a)) (.v (.int b))=some (.v (.bool (a == b))):=rfl;rw[h,Bool.beq_eq_decide_eq]
@[simp] theorem ne_int {a b:Int}:mV true (.v (.int a)) (.v (.int b))=some (.v (.bool (!decide (a=b)))):=by
 have h:mV true (.v (.int a)) (.v (.int b))=some (.v (.bool (!(a == b)))):=rfl;rw[h,Bool.beq_eq_decide_eq]
@[simp] theorem eq_bool {a b:Bool}:mV false (.v (.bool a)) (.v (.bool b))=some (.v (.bool (a == b))):=rfl
@[simp] theorem ne_bool {a b:Bool}:mV true (.v (.bool a)) (.v (.bool b))=some (.v (.bool (!(a == b)))):=rfl
@[simp] theorem isn_bool {a b:Bool}:uX true (.v (.bool a)) (.v (.bool b))=some (.v (.bool (!(a == b)))):=rfl
@[simp] theorem len_tup {ds:List PyData}:iK [.v (.tuple ds)]=some (.v (.int ds.length)):=rfl
@[simp] theorem len_list {ds:List PyData}:iK [.v (.list ds)]=some (.v (.int ds.length)):=rfl
@[simp] theorem len_lst {ds:List PyData}:iK [.lst ds]=some (.v (.int ds.length)):=rfl
@[simp] theorem len_dic {ds:List (Key×PyData)}:iK [.bL ds]=some (.v (.int ds.length)):=rfl
@[simp] theorem xK {ds:List PyData}:ji [.lst ds]=some (.v (.tuple ds)):=rfl
@[simp] theorem CM {ds:List PyData}:ji [.v (.list ds)]=some (.v (.tuple ds)):=rfl
@[simp] theorem tupM_tup {ds:List PyData}:ji [.v (.tuple ds)]=some (.v (.tuple ds)):=rfl
@[simp] theorem isi_eq {c:String}:lB c m=some (.v (.bool (subB (lA m) c))):=rfl
@[simp] theorem abs_eq {a:Int}:rZ [.v (.int a)]=some (.v (.int (if a<0 then -a else a))):=rfl
@[simp] theorem int1_int {a:Int}:iy [.v (.int a)]=some (.v (.int a)):=rfl
@[simp] theorem CN {a:Bool}:iy [.v (.bool a)]=some (.v (.int (if a then 1 else 0))):=rfl
@[simp] theorem pM {any:Bool} {ds:List PyData}:allM any [.lst ds]=(mW ds).bind fun bs=>some (.v (.bool (if any then bs.any id else bs.all id))):=rfl
end
theorem aE {f g:FS} {ρ ρ1:Ev} (h:f ρ=some (.nx ρ1)):aF f g ρ=g ρ1:=by rw[zO,h]; rfl
theorem cW {ps:List Bool} {n:Nat} {fb:FS} {ms:List M} {m:M} {ρ:Ev} {ms':List M} (hl:ms.length=ps.length) (h:fb (ms.map some++List.replicate (n-ms.length) none)=some (.rt m ρ)) (hf:fin ps ms ρ=some ms'):fm ps n fb ms=some (m,ms'):=by
 rw[jn,if_pos hl,h];show (fin ps ms ρ).bind _=_;rw[hf]; rfl
theorem cD {fg:FG} {fb:FS} {P:List PyData->Ev->Prop}:∀ (ds:List PyData) (ρ:Ev),P ds ρ->(∀d ds ρ,P (d::ds) ρ->∃ρ1 ρ2,fg d ρ=some ρ1/\fb ρ1=some (.nx ρ2)/\P ds ρ2)->∃ρ',forL fg fb ds ρ=some (.nx ρ')/\P [] ρ'
 | [],ρ,h,_=>⟨ρ,rfl,h⟩
 | d::ds,ρ,h,step=>by
  obtain⟨ρ1,ρ2,e1,e2,h2⟩:=step d ds ρ h;obtain⟨ρ',e3,h3⟩:=cD ds ρ2 h2 step;refine⟨ρ',?_,h3⟩;show (fg d ρ).bind _=_;rw[e1];show (fb ρ1).bind _=_;rw[e2];exact e3
theorem fP {fg:FG} {ft:FT} {fe:FE} {P:List PyData->List PyData->Ev->Prop}:∀ (ds:List PyData) (ρ:Ev) (acc:List PyData),P ds acc ρ ->
  (∀d ds acc ρ,P (d::ds) acc ρ->acc.length<lim/\∃ρ1 b ρ2,fg d ρ=some ρ1/\ft ρ1=some (b,ρ2)/\((b=false/\P ds acc ρ2)\/(b=true/\∃o ρ3 e ρ4,fe ρ2=some (o,ρ3)/\cA o ρ3=some (e,ρ4)/\P ds (acc++[e]) ρ4)))->∃acc' ρ',bR fg ft fe ds ρ acc=some (acc',ρ')/\P [] acc' ρ'
 | [],ρ,acc,h,_=>⟨acc,ρ,rfl,h⟩
 | d::ds,ρ,acc,h,step=>by
  obtain⟨hl,ρ1,b,ρ2,e1,e2,h2⟩:=step d ds acc ρ h;rcases h2 with⟨rfl,h2⟩ | ⟨rfl,o,ρ3,e,ρ4,e3,e4,h2⟩
  ·obtain⟨acc',ρ',e5,h5⟩:=fP ds ρ2 acc h2 step
   refine⟨acc',ρ',?_,h5⟩;show (fg d ρ).bind _=_;rw[e1];show (ft ρ1).bind _=_;rw[e2];exact e5
  ·obtain⟨acc',ρ',e5,h5⟩:=fP ds ρ4 (acc++[e]) h2 step
   refine⟨acc',ρ',?_,h5⟩;show (fg d ρ).bind _=_;rw[e1];show (ft ρ1).bind _=_;rw[e2];show (fe ρ2).bind _=_;rw[e3];show (cA o ρ3).bind _=_;rw[e4];show (if acc.length<lim then _ else _)=_
   rw[if_pos hl];exact e5
end VL
end
section
namespace VL
open PySem PySem.Spec L2 PyProof.Rows
section
variable {X:Cx} {pos:Pos} {pin:List Nat}
noncomputable def pN (i:Nat) (fa:FA):FE:=fun ρ=>(cS ρ i).bind fun m0=>match m0 with
 | .lst _=>(fa ρ).bind fun p=>match p.1 with
  | [.t (.lst es)]=>(cS p.2 i).bind fun m=>match m with
   | .lst ds=>if ds.length+es.length<=lim then some (.t (.v .none),p.2.set i (some (.lst (ds++es)))) else none
   | _=>none
  | _=>none
 | _=>none
theorem zQ {i:Nat} {fa:FA} {σ:L2.St} {H:Hp} {Q:VK} (hq:vE X.K (pN i fa) σ H Q):yp X.K "list" oJ (fC i) (vA X.K fa) σ H Q:=by
 obtain⟨Z,ρ,F,o,ρ',S,w,e,q⟩:=hq;obtain⟨m0,e0,e⟩:=oB e
 split at e
 ·rename_i ds0
  obtain⟨x,G,h1,h2,_⟩:=S.get (aG.mp e0);obtain⟨a,xs0,rfl,ha,_⟩:=(show Ro X.K H Z x (.lst ds0) from⟨G,h2⟩).lst
  refine⟨.ref a,h1,.inl ⟨rfl,_,fV.of ha⟩,?_⟩;obtain⟨⟨os,ρ1⟩,e1,e⟩:=oB e;refine⟨Z,ρ,F,os,ρ1,S,w,e1,fun xs H1 Z1 F1 G1 S1 O1 f1 => ?_⟩
  dsimp only at e
  split at e
  ·rename_i es
   obtain⟨m,e3,e⟩:=oB e
   split at e
   ·rename_i ds
    split at e
    ·rename_i hl
     cases e;cases O1 with
     | cons p1 r1 =>
      cases r1;rw[List.append_nil] at f1;cases p1 with
      | t p2 =>
       cases p2 with
       | lst hz fz =>
        have f2:=f1.sub (aV f1.nd).1 fun b hb=>lL _ hb
        obtain⟨x',G',k1,k2,k3⟩:=xB S1 f2 e3;rw[h1] at k1; cases k1;cases k2 with
        | lst hb fb =>
         obtain⟨g,_,k4⟩:=k3 a (.lst (_++_)) lS;obtain⟨F3,S3,f3⟩:=k4 (.lst (ds++es)) [a] (fun _ h=>h) (List.nodup_cons.mpr ⟨List.not_mem_nil,List.nodup_nil⟩) (.lst aK ((fb.append fz).mono g))
         exact⟨a,_,_,_,rfl,rfl,hb,hz,Nat.le_of_lt (gF (by rw[fb.length,fz.length]; exact hl)),q .non _ Z1 F3 [] S3 (.t (.v .non)) f3.nil⟩
    ·cases e
   ·cases e
  ·cases e
 ·cases e
theorem sA (i:Nat) {e:Expr} {es:List Expr} {fa:FA} {x:Str} {p1 p2:Pos} (ha:WA X (e::es) fa) (hpe:∀ (to:TE) (t:TA),PE X (.Name x p1) to->PA X (e::es) t->PE X (.Call (.Attribute (.Name x p1) "extend" p2) (e::es) [] pos) (yp X.K "list" oJ to t)) (hv:PE X (.Name x p1) (fC i)):WE X (.Call (.Attribute (.Name x p1) "extend" p2) (e::es) [] pos) (pN i fa):=⟨aW (hpe _ _ hv ha.h) fun _ _ _ hq=>zQ hq⟩
end
section
variable {X:Cx} {pos:Pos} {pin:List Nat}
noncomputable def vPopA (i:Nat) (fa:FA):FE:=fun ρ=>(cS ρ i).bind fun m0=>match m0 with
 | .lst _=>(fa ρ).bind fun p=>match p.1 with
  | [o]=>(peek p.2 o).bind fun mk=>match mk with
   | .v (.int k)=>(cS p.2 i).bind fun m=>match m with
    | .lst ds=>if k < -(2 ^ 63)\/2 ^ 63<=k then none else (seqIndex? k ds.length).bind fun n=>(ds[n]?).bind fun d=>some (.t (.v d),p.2.set i (some (.lst (ds.eraseIdx n))))
    | _=>none
   | _=>none
  | _=>none
 | _=>none
def pO:V->List V->Hp->VK->Prop:=fun x vs H Q=>∃l xs i k y,x=.ref l/\vs=[.int i,y]/\H l=some (.lst xs)/\i=((k:Nat):Int)/\k<=xs.length/\xs.length<2 ^ 62/\xs.length<sizeLine/\Q .non (upd H l (.lst (xs.take k++y::xs.drop k)))
theorem vf:Dj X "list.insert" pO:=by
 intro pins s σ H x vs v us Q I rx rv h;obtain⟨l,xs,i,k,y,rfl,rfl,hH,hi,h1,h2,hz,q⟩:=h;cases rx;obtain⟨ui,u,rfl,ri,ru⟩:=Vals.two rv;obtain⟨t,rfl⟩:=ri;obtain⟨z,its,n,r,hl,e⟩:=I.rG hH;have hf:Builtin.List.listFitsIndex i=true:=fitsIndex_both (by lia) (by lia)
 have hg:¬ (!Builtin.List.listFitsIndex i)=true:=by rw[hf]; exact Bool.false_ne_true
 have hs:its.toArray.size<=sizeLine:=by rw[List.size_toArray]; lia
 refine call_meets F.slot_list_insert ⟨_,e,rfl⟩ F.entry_list_insert (F.args_list_insert_3 _ _ _) (AutoSeq1.list_insert_list_int_val_1 l its.toArray n i t u hg hs) ⟨e,?_⟩;refine⟨.non,_,I.lset (its':=its.take k++u::its.drop k) hH e ?_ ((r.take k).append (.cons ru (r.drop k))) ?_,rfl,q⟩
 ·have hm:(if i<0 then (i+(its.toArray.size:Int)).toNat else min i.toNat its.toArray.size)=k:=by
   rw[if_neg (by lia),List.size_toArray]
   lia
  show (its.toArray.extract 0 (if i<0 then (i+(its.toArray.size:Int)).toNat else min i.toNat its.toArray.size)).push u++its.toArray.extract (if i<0 then (i+(its.toArray.size:Int)).toNat else min i.toNat its.toArray.size)=_
  rw[hm];apply Array.toList_inj.mp;simp;exact List.take_of_length_le (by rw[List.length_drop]; exact Nat.le_refl _)
 ·simp
  lia
noncomputable def xM (i:Nat) (fa:FA):FE:=fun ρ=>(cS ρ i).bind fun m0=>match m0 with
 | .lst _=>(fa ρ).bind fun p=>match p.1 with
  | [o,o2]=>(peek p.2 o).bind fun mk=>match mk with
   | .v (.int k)=>(cA o2 p.2).bind fun q=>(cS q.2 i).bind fun m=>match m with
    | .lst ds=>if 0<=k/\k.toNat<=ds.length/\ds.length<lim then some (.t (.v .none),q.2.set i (some (.lst (ds.take k.toNat++q.1::ds.drop k.toNat)))) else none
    | _=>none
   | _=>none
  | _=>none
 | _=>none
theorem zR {i:Nat} {fa:FA} {σ:L2.St} {H:Hp} {Q:VK} (hq:vE X.K (xM i fa) σ H Q):yp X.K "list" pO (fC i) (vA X.K fa) σ H Q:=by
 obtain⟨Z,ρ,F,o,ρ',S,w,e,q⟩:=hq;obtain⟨m0,e0,e⟩:=oB e
 split at e
 ·rename_i ds0
  obtain⟨x,G,h1,h2,_⟩:=S.get (aG.mp e0);obtain⟨a,xs0,rfl,ha,_⟩:=(show Ro X.K H Z x (.lst ds0) from⟨G,h2⟩).lst
  refine⟨.ref a,h1,.inl ⟨rfl,_,fV.of ha⟩,?_⟩;obtain⟨⟨os,ρ1⟩,e1,e⟩:=oB e;refine⟨Z,ρ,F,os,ρ1,S,w,e1,fun xs H1 Z1 F1 G1 S1 O1 f1 => ?_⟩
  dsimp only at e
  split at e
  ·rename_i o1 o2
   obtain⟨mk,e2,e⟩:=oB e
   split at e
   ·rename_i k
    obtain⟨⟨d,ρ2⟩,e4,e⟩:=oB e;obtain⟨m,e3,e⟩:=oB e
    split at e
    ·rename_i ds
     split at e
     ·rename_i hk
      cases e;cases O1 with
      | cons p1 r1 =>
       cases r1 with
       | cons p3 r2 =>
        cases r2;rw[List.append_nil] at f1;obtain⟨G2,p2⟩:=p1.peek S1 e2;cases p2 with
        | v fz =>
         cases fz;have f2:=f1.sub (F':=F1++_) (by
          obtain⟨n1,n2,n3⟩:=aV f1.nd;exact aJ n1 (aV n2).2.1 fun b hb h=>n3 b hb (lR _ h)) fun b hb=>by
           rcases lM hb with h | h
           ·exact lL _ h
           ·exact lR _ (lR _ h)
         obtain⟨Z2,F2,S2,z2,f3,_⟩:=gW S1 p3 f2 e4;obtain⟨x',G',k1,k2,k3⟩:=xB S2 f3 e3;rw[h1] at k1; cases k1;cases k2 with
         | lst hb fb =>
          obtain⟨g,_,k4⟩:=k3 a (.lst (_)) lS;obtain⟨F3,S3,f3⟩:=k4 (.lst (ds.take k.toNat++d::ds.drop k.toNat)) [a] (fun _ h=>h) (List.nodup_cons.mpr ⟨List.not_mem_nil,List.nodup_nil⟩) (.lst aK (((fb.take k.toNat).append (.cons z2 (fb.drop k.toNat))).mono g))
          have hl:=fb.length;have h5:lim<2 ^ 62:=by decide
          exact⟨a,_,k,k.toNat,_,rfl,rfl,hb,by lia,by lia,by lia,gF (by lia),q .non _ Z2 F3 [] S3 (.t (.v .non)) f3.nil⟩
     ·cases e
    ·cases e
   ·cases e
  ·cases e
 ·cases e
theorem Cs (i:Nat) {e:Expr} {es:List Expr} {fa:FA} {x:Str} {p1 p2:Pos} (ha:WA X (e::es) fa) (hpe:∀ (to:TE) (t:TA),PE X (.Name x p1) to->PA X (e::es) t->PE X (.Call (.Attribute (.Name x p1) "insert" p2) (e::es) [] pos) (yp X.K "list" pO to t)) (hv:PE X (.Name x p1) (fC i)):WE X (.Call (.Attribute (.Name x p1) "insert" p2) (e::es) [] pos) (xM i fa):=⟨aW (hpe _ _ hv ha.h) fun _ _ _ hq=>zR hq⟩
end
noncomputable def jK:List Int->Option Int
 | []=>none
 | n::ns=>match jK ns with
  | none=>some n
  | some j=>some (if j>n then j else n)
theorem nQ:∀ {ns:List Int} {k:Int},jK ns=some k->k∈ns/\∀a∈ns,a<=k
 | [],_,e=>by cases e
 | n::ns,k,e=>by
  unfold jK at e;cases h:jK ns with
  | none =>
   rw[h] at e; cases e;cases ns with
   | nil=>exact⟨lS,fun a ha=>by rw[List.mem_singleton.mp ha]; exact Int.le_refl _⟩
   | cons y ys=>unfold jK at h; split at h <;> cases h
  | some j =>
   rw[h] at e;have e:(if j>n then j else n)=k:=Option.some.inj e
   obtain⟨h1,h2⟩:=nQ h
   by_cases c:j>n
   ·rw[if_pos c] at e; subst e
    exact⟨lO _ h1,fun a ha=>by
     rcases lK ha with ha | ha
     ·subst ha; lia
     ·exact h2 a ha⟩
   ·rw[if_neg c] at e; subst e
    exact⟨lS,fun a ha=>by
     rcases lK ha with ha | ha
     ·subst ha; lia
     ·have:=h2 a ha; lia⟩
section
variable {X:Cx}
theorem xN {prog:Program} {w:World} {A:Around} {E:Value->Shared->Prop} {s:Shared} {l:Addr} {its:Array Value} {Q:Value->Shared->Prop} (hl:s.heap.IsTuple l its)
  (h:∀s₂:Shared,(∀b o,b∉[s.heap.objs.size]->s.heap.get? b=some o->s₂.heap.get? b=some o)->s₂={ s with heap:=s₂.heap }->s₂.heap.IsTupleIter s.heap.objs.size l 0->s₂.heap.IsTuple l its->(∀b∈[s.heap.objs.size,l],b<s₂.heap.objs.size)->l≠s.heap.objs.size->Q (.ref s.heap.objs.size) s₂):wpAny (model prog w) A (pyIter (.ref l)) Q E s:=by
 have hlt:l<s.heap.objs.size:=by obtain⟨_,e,_⟩:=hl; exact Heap.lt_size e
 refine wpAny_pyIter_tuple hl (h _ (fun b o _ e=>Heap.get?_push_of_some _ e) rfl ⟨_,Heap.get?_push_size _ rfl,rfl,rfl⟩ (hl.push _) ?_ (Nat.ne_of_lt hlt))
 intro b hb;rw[Heap.size_push];rcases lK hb with e | hb
 ·rw[e]; exact Nat.lt_succ_self _
 ·rw[List.mem_singleton.mp hb]; exact Nat.lt_succ_of_lt hlt
end
section
variable {prog:Program} {w:World} {A:Around} {R:Result->Shared->Prop} {I S:Addr} {fp wr:List Addr} {n:Nat} {P:Nat->Value->Prop} {St:Nat->Heap->Prop} {bt:Nat->Nat->Bool} {kw:List (Str×Value)}
abbrev xO (h:Heap) (S:Addr) (xs:Array Value) (c:Nat):Prop:=h.get? S=some { cls:=.type "list",dict:=none,data:=.seq xs c,slots:=#[] }
abbrev j7 (wr:List Addr) (S:Addr) (h h':Heap):Prop:=∀b o,b∉wr->b≠S->h.get? b=some o->h'.get? b=some o
theorem pP:(toString "max" ++ toString ".loop" : String) = "max.loop" := by decide
theorem loopK (W:Walks prog w A.in1 I fp wr n P St) (hcmp:CmpOf prog w A.in1 .Gt P bt) (hSf:S∉fp) :
  ∀ (k j:Nat) (s:Shared) (vb:Value) (c:Nat),n=j+1+k->St (j+1) s.heap->P (argBest bt j) vb->xO s.heap S #[vb,vb] c ->
   (∀v h' tk,P (argBest bt (n-1)) v->j7 wr S s.heap h'->R (.ok (.ret v)) { s with heap:=h',toks:=tk })->codeAny (model prog w) A (.builtin "max.loop" ⟨[.ref I,.none,.ref S],kw⟩) R s:=by
 have hSw:S∉wr:=fun h=>hSf (W.sub _ h)
 intro k
 induction k with
 | zero =>
  intro j s vb c hn st hb hS hR;refine codeAny_builtin F.entry_max_loop (by
   rw[Around.under_plainId F.plain_max_loop _];show wpAny _ A.in1 (seqItems? (.ref S) >>= _) _ _ s;refine wpAny_bind (wpAny_seqItems hS rfl (wpAny_bind (wpAny_tryCatch (W.done s _ _ (by rw[hn]; exact st) fun h' tk kp => ?_))))
   have hS':xO h' S #[vb,vb] c:=kp S _ hSw hS;show wpAny _ A.in1 (updateSeq S (fun _ => #[]) >>= _) _ _ _
   exact wpAny_bind (wpAny_updateSeq hS' rfl (wpAny_bind (wpAny_letGo (wpAny_pure (hR vb _ tk (by rw[hn]; exact hb) fun b o h1 h2 e=>by
    rw[Heap.get?_update_other _ _ (Ne.symm h2)];exact kp b o h1 e))))))
 | succ k ih =>
  intro j s vb c hn st hb hS hR;refine codeAny_builtin F.entry_max_loop (by
   rw[Around.under_plainId F.plain_max_loop _];show wpAny _ A.in1 (seqItems? (.ref S) >>= _) _ _ s;refine wpAny_bind (wpAny_seqItems hS rfl (wpAny_bind (wpAny_tryCatch (W.item (j+1) s _ _ (by lia) st fun v h' tk hv st' kp => ?_))))
   have hS':xO h' S #[vb,vb] c:=kp S _ hSw hS;show wpAny _ A.in1 (tryCatch (holding [v,v] (richCompare .Gt v vb >>= _)) _ >>= _) _ _ _;refine wpAny_bind (wpAny_tryCatch (wpAny_holding (wpAny_bind (hcmp (j+1) (argBest bt j) v vb _ _ _ hv hb (wpAny_bind (wpAny_holding (wpAny_truthy_bool (wpAny_bind (wpAny_letGo (wpAny_pure ?_))))))))))
   by_cases hc:bt (j+1) (argBest bt j)=true
   ·rw[if_pos hc]
    refine wpAny_bind (wpAny_updateSeq hS' rfl (wpAny_bind (wpAny_letGo ?_)));rw[pP];exact wpAny_pure ⟨plainId_quiet F.plain_max_loop _,ih (j+1) _ v _ (by lia) (W.frame _ _ _ st' fun b hf o e=>by
     rw[Heap.get?_update_other _ _ (fun h:S=b=>hSf (h▸hf))]; exact e) (by unfold argBest; rw[if_pos hc]; exact hv) (Heap.get?_update_self _ hS' rfl) fun v2 h2 t2 p2 k2=>hR v2 h2 t2 p2 fun b o h1 h3 e=>k2 b o h1 h3 (by
      rw[Heap.get?_update_other _ _ (Ne.symm h3)]; exact kp b o h1 e)⟩
   ·rw[if_neg hc]
    refine wpAny_bind (wpAny_letGo ?_);rw[pP];exact wpAny_pure ⟨plainId_quiet F.plain_max_loop _,ih (j+1) _ vb c (by lia) st' (by unfold argBest; rw[if_neg hc]; exact hb) hS' fun v2 h2 t2 p2 k2=>hR v2 h2 t2 p2 fun b o h1 h3 e=>k2 b o h1 h3 (kp b o h1 e)⟩)
theorem Ct {key:Str} {d:Value} (W:Walks prog w A.in1 I fp wr n P St) (hcmp:CmpOf prog w A.in1 .Gt P bt) (hSf:S∉fp) {s:Shared} {c:Nat} (st:St 0 s.heap) (hS:xO s.heap S #[] c)
  (hR:n≠0->∀v h' tk,P (argBest bt (n-1)) v->j7 wr S s.heap h'->R (.ok (.ret v)) { s with heap:=h',toks:=tk }) (hD:n=0->∀h' tk,j7 wr S s.heap h'->R (.ok (.ret d)) { s with heap:=h',toks:=tk }) :
  codeAny (model prog w) A (.builtin "max.loop" ⟨[.ref I,.none,.ref S],[(key,d)]⟩) R s:=by
 have hSw:S∉wr:=fun h=>hSf (W.sub _ h)
 refine codeAny_builtin F.entry_max_loop (by
  rw[Around.under_plainId F.plain_max_loop _];show wpAny _ A.in1 (seqItems? (.ref S) >>= _) _ _ s;refine wpAny_bind (wpAny_seqItems hS rfl (wpAny_bind (wpAny_tryCatch ?_)))
  by_cases hn:n=0
  ·refine W.done s _ _ (by rw[hn]; exact st) fun h' tk kp => ?_
   show wpAny _ A.in1 (rule _ >>= fun _=>ret d) _ _ _
   refine wpAny_bind (wpAny_rule ?_);exact wpAny_pure (hD hn h' tk fun b o h1 _ e=>kp b o h1 e)
  ·refine W.item 0 s _ _ (Nat.pos_of_ne_zero hn) st fun v h' tk hv st' kp => ?_
   have hS':xO h' S #[] c:=kp S _ hSw hS;show wpAny _ A.in1 (updateSeq S (fun _ => #[v,v]) >>= _) _ _ _
   refine wpAny_bind (wpAny_updateSeq hS' rfl ?_);rw[pP];exact wpAny_pure ⟨plainId_quiet F.plain_max_loop _,loopK W hcmp hSf (n-1) 0 _ v _ (by lia) (W.frame _ _ _ st' fun b hf o e=>by
    rw[Heap.get?_update_other _ _ (fun h:S=b=>hSf (h▸hf))]; exact e) hv (Heap.get?_update_self _ hS' rfl) fun v2 h2 t2 p2 k2=>hR hn v2 h2 t2 p2 fun b o h1 h3 e=>k2 b o h1 h3 (by
     rw[Heap.get?_update_other _ _ (Ne.symm h3)]; exact kp b o h1 e)⟩)
end
section
variable {prog:Program} {w:World} {A:Around} {E:Value->Shared->Prop} {s:Shared}
theorem okDef (a v:Value):argsOk "max" ⟨[a],[(Str.ofString "default",v)]⟩:=by unfold argsOk; kernel_rfl
theorem nR {x d:Value} {Q:Value->Shared->Prop}
  (h:wpAny (model prog w) A.in1 (pyIter x) (fun it s₂=>∃I fp wr n P St bt,it=.ref I/\Walks prog w A.in1 I fp wr n P St/\St 0 s₂.heap/\(∀b∈fp,b<s₂.heap.objs.size)/\CmpOf prog w A.in1 .Gt P bt /\
   (n≠0->∀v h' tk,P (argBest bt (n-1)) v->(∀b o,b∉wr->s₂.heap.get? b=some o->h'.get? b=some o)->Q v { s₂ with heap:=h',toks:=tk }) /\
   (n=0->∀h' tk,(∀b o,b∉wr->s₂.heap.get? b=some o->h'.get? b=some o)->Q d { s₂ with heap:=h',toks:=tk })) E s) :
  wpAny (model prog w) A (call (.builtin "max") [x] [(Str.ofString "default",d)]) Q E s:=by
 refine kmb_tree F.kind_max F.plain_max F.entry_max (okDef _ _) ?_;show wpAny _ A.in1 (Builtin.Builtins.bindParams "max" ["key", "default"] 0 ⟨[],[(Str.ofString "default",d)]⟩ >>= _) _ _ s;refine wpAny_bind (wpAny_of_eq (show Builtin.Builtins.bindParams "max" ["key", "default"] 0 ⟨[],[(Str.ofString "default",d)]⟩=pure [none,some d] from rfl) (wpAny_bind (wpAny_pure (wpAny_bind (wpAny_mono h (fun it s₂ h₂ => ?_) fun _ _ e=>e)))))
 obtain⟨I,fp,wr,n,P,St,bt,rfl,W,st,hfp,hcmp,q1,q2⟩:=h₂;refine wpAny_bind (wpAny_newObj_type ?_);have hSf:s₂.heap.objs.size∉fp:=fun hm=>Nat.lt_irrefl _ (hfp _ hm)
 have old:∀ {h':Heap} {o0:Obj},j7 wr s₂.heap.objs.size (s₂.heap.push o0) h'->∀b o,b∉wr->s₂.heap.get? b=some o->h'.get? b=some o:=fun k b o hb e=>k b o hb (Nat.ne_of_lt (Heap.lt_size e)) (Heap.get?_push_of_some _ e)
 rw[pP];exact wpAny_pure ⟨plainId_quiet F.plain_max_loop _,Ct W hcmp hSf (W.frame _ _ _ st fun b _ o e=>Heap.get?_push_of_some _ e) (Heap.get?_push_size _ rfl) (fun hn v h' tk hv k=>q1 hn v h' tk hv (old k)) fun hn h' tk k=>q2 hn h' tk (old k)⟩
end
section
variable {X:Cx} {i:Int} {r:List V->Hp->VK->Prop}
def uc (X:Cx) (i:Int) (r:List V->Hp->VK->Prop):Prop :=
 ∀ (pins:List (Addr×Obj)) (s:Shared) (σ:L2.St) (H:Hp) (xs:List V) (us:List Value) (Q:VK) (t:Tok),Inv X pins σ H s->Vals xs us->r xs H Q ->
  wpAny (model X.prog X.w) X.A (call (.builtin "max") us [(Str.ofString "default",.int i t)]) (EP X pins σ Q) X.xe s
theorem zS {x:Str} {p p2 kp pos:Pos} {e:Expr} {es:List Expr} {t:TA} {j:Nat} (hc:uc X i r) (hg:Gl X x) (hm:X.mg x=none) (hv:bootBuiltins x=some (.builtin "max")) (ha:PA X (e::es) t) (hn:x ≠ "__name__" := by decide) (hdb:(x == ("__debug__" : Str))=false:=by decide)
  (he:backTo pos (starEach (e::es) X.env)=(false,eval e X.env)::backTo pos (starEach es X.env):=by rfl) (hpl:(backTo pos (starEach (e::es) X.env)).any (·.1)=false:=by rfl) :
  PE X (.Call (.Name x p) (e::es) [⟨some "default",.Constant (.int i) j p2,kp⟩] pos) (C1 r t):=by
 intro pins s σ H Q I h;refine wpAny_Call_Name_kw (fW I hg hm hv ?_ hn hdb);exact callWith_kw (bA (ha pos pins s σ H _ I h) fun us s1 ⟨vs,H1,I1,r1,q1⟩=>kws_cons (wpAny_Constant_int (kws_nil (hc pins _ σ H1 vs us Q _ (I1.tok _) r1 q1)))) he hpl
theorem lJ (hc:X.calm=true):uc X i (fun xs H Q=>∃p,∃ns:List Int,xs=[.ref p]/\fV X.K H p (ns.map V.int)/\(ns=[]->Q (.int i) H)/\∀M:Int,M∈ns->(∀a,a∈ns->a<=M)->Q (.int M) H):=by
 intro pins s σ H xs us Q td I r ⟨p,ns,exs,hq,q0,q⟩;subst exs;obtain⟨u,rfl,rx⟩:=vals1 r;cases rx;obtain⟨its,rv,pl,hz⟩:=I.list hq;have hi:=intsAre_of rv;obtain⟨xs,e⟩:=hi.allInts.items;have hp:=pl.isList;have hn:xs.toList.map (·.1)=ns:=by
  rw[<-hi.numsOf,<-nums_intItems (xs:=xs),<-e]
 rw[e] at hp;have hlen:ns.length=xs.size:=by rw[<-hn,List.length_map,Array.length_toList]
 have hsz:(intItems xs).size=xs.size:=by simp[intItems]
 refine nR (iter_intList hp fun s₂ e2 st hfp hlI => ?_)
 subst e2;refine⟨_,_,_,(intItems xs).size,fun i v=>(intItems xs)[i]? = some v,_,fun i j=>decide (numAt xs i>numAt xs j),rfl,Walks.list (A:=X.A.in1) (show X.A.in1.handled=none from I.ok.hd hc) _ p hlI (intItems xs),st,hfp,CmpOf.ints_gt (numAt xs) (fun _ _=>intItems_at),fun hne v h' tk hv hk => ?_,fun hz h' tk hk => ?_⟩
 ·rw[hsz] at hv hne
  obtain⟨t,rfl⟩:=intItems_at hv;obtain⟨h1,h2⟩:=argBest_gt (numAt xs) (xs.size-1);refine⟨.int _,H,I.kept (t':=tk) (old_kept hk),⟨t,rfl⟩,q _ ?_ fun a ha => ?_⟩
  ·rw[numAt_eq,hn]; exact PySem.getD_mem (by lia)
  ·obtain⟨j,hj,rfl⟩:=mem_getD ha
   rw[<-hn,<-numAt_eq];exact h2 j (by lia)
 ·exact⟨.int i,H,I.kept (t':=tk) (old_kept hk),⟨td,rfl⟩,q0 (List.length_eq_zero_iff.mp (by lia))⟩
theorem mY (hc:X.calm=true):uc X i (fun xs H Q=>∃p,∃ns:List Int,xs=[.ref p]/\cK X.K H p (ns.map V.int)/\(ns=[]->Q (.int i) H)/\∀M:Int,M∈ns->(∀a,a∈ns->a<=M)->Q (.int M) H):=by
 intro pins s σ H xs us Q td I r ⟨p,ns,exs,hq,q0,q⟩;subst exs;obtain⟨u,rfl,rx⟩:=vals1 r;cases rx;obtain⟨its,rv,pl,hz⟩:=I.tuple hq;have hi:=intsAre_of rv;obtain⟨xs,e⟩:=hi.allInts.items;have hp:s.heap.IsTuple p its.toArray:=pl;have hn:xs.toList.map (·.1)=ns:=by
  rw[<-hi.numsOf,<-nums_intItems (xs:=xs),<-e]
 rw[e] at hp;have hlen:ns.length=xs.size:=by rw[<-hn,List.length_map,Array.length_toList]
 have hsz:(intItems xs).size=xs.size:=by simp[intItems]
 refine nR (xN hp fun s₂ k2 e2 st1 st2 hfp hnp => ?_)
 have hk2:∀ {h':Heap},(∀b o,b∉[s.heap.objs.size]->s₂.heap.get? b=some o->h'.get? b=some o)->∀b o,s.heap.get? b=some o->h'.get? b=some o:=fun hk b o eb=>by
  have hb:b∉[s.heap.objs.size]:=fun hm=>absurd (List.mem_singleton.mp hm▸Heap.lt_size eb) (Nat.lt_irrefl _)
  exact hk b o hb (k2 b o hb eb)
 refine⟨_,_,_,(intItems xs).size,fun i v=>(intItems xs)[i]? = some v,_,fun i j=>decide (numAt xs i>numAt xs j),rfl,Walks.tuple (A:=X.A.in1) (show X.A.in1.handled=none from I.ok.hd hc) _ p hnp (intItems xs),(show _/\_ from⟨st1,st2⟩),hfp,CmpOf.ints_gt (numAt xs) (fun _ _=>intItems_at),fun hne v h' tk hv hk => ?_,fun hz h' tk hk => ?_⟩
 ·rw[hsz] at hv hne
  obtain⟨t,rfl⟩:=intItems_at hv;obtain⟨h1,h2⟩:=argBest_gt (numAt xs) (xs.size-1);rw[e2];refine⟨.int _,H,I.kept (t':=tk) (hk2 hk),⟨t,rfl⟩,q _ ?_ fun a ha => ?_⟩
  ·rw[numAt_eq,hn]; exact PySem.getD_mem (by lia)
  ·obtain⟨j,hj,rfl⟩:=mem_getD ha
   rw[<-hn,<-numAt_eq];exact h2 j (by lia)
 ·rw[e2]
  exact⟨.int i,H,I.kept (t':=tk) (hk2 hk),⟨td,rfl⟩,q0 (List.length_eq_zero_iff.mp (by lia))⟩
noncomputable def ud (i:Int) (ds:List PyData):Option M:=(gH ds).bind fun ns=>some (.v (.int ((jK ns).getD i)))
noncomputable def lN (i:Int):List M->Option M
 | [m]=>match jV m with
  | some ds=>ud i ds
  | none=>(wY m).bind (ud i)
 | _=>none
theorem vg:∀ {ns:List Int},jK ns=none->ns=[]
 | [],_=>rfl
 | n::ns,e=>by unfold jK at e; split at e <;> cases e
theorem qG {ns:List Int} {Q:Int->Prop} (q:Q ((jK ns).getD i)):(ns=[]->Q i)/\∀M:Int,M∈ns->(∀a,a∈ns->a<=M)->Q M:=by
 refine⟨fun e=>by subst e; exact q,fun M h1 h2 => ?_⟩
 cases e:jK ns with
 | none=>rw[vg e] at h1; cases h1
 | some k =>
  rw[e] at q;obtain⟨k1,k2⟩:=nQ e;have:M=k:=Int.le_antisymm (k2 M h1) (h2 k k1);rw[this];exact q
theorem zT (hc:X.calm=true):uc X i (uV X.K (lN i)):=by
 intro pins s σ H xs us Q td I rs h;obtain⟨Z,ms,m,za,hr,e,q⟩:=h;unfold lN at e
 split at e
 ·split at e
  ·next ds e1 =>
   obtain⟨ns,e2,e⟩:=oB e;cases e;obtain⟨x,rfl,h1⟩:=gn hr;obtain⟨a,ys,rfl,hx,fx⟩:=h1.jV e1;rw[bN e2] at fx;rw[fx.cy] at hx;obtain⟨q1,q2⟩:=qG (i:=i) (Q:=fun k=>Q (.int k) H) (bZ q za (.int _))
   exact lJ hc pins s σ H _ us Q td I rs ⟨a,ns,rfl,hx,q1,q2⟩
  ·obtain⟨ds,e1,e⟩:=oB e
   obtain⟨ns,e2,e⟩:=oB e;cases e;obtain⟨x,rfl,h1⟩:=gn hr;obtain⟨a,ys,rfl,hx,fx⟩:=h1.wY e1;rw[bN e2] at fx;rw[fx.cy] at hx;obtain⟨q1,q2⟩:=qG (i:=i) (Q:=fun k=>Q (.int k) H) (bZ q za (.int _))
   exact mY hc pins s σ H _ us Q td I rs ⟨a,ns,rfl,hx,q1,q2⟩
 ·cases e
theorem ue {x:Str} {p p2 kp pos:Pos} {e:Expr} {es:List Expr} {fa:FA} {j:Nat} (hc:X.calm=true) (hg:Gl X x) (hm:X.mg x=none) (hv:bootBuiltins x=some (.builtin "max")) (ha:WA X (e::es) fa) (hn:x ≠ "__name__" := by decide) (hdb:(x == ("__debug__" : Str))=false:=by decide)
  (he:backTo pos (starEach (e::es) X.env)=(false,eval e X.env)::backTo pos (starEach es X.env):=by rfl) (hpl:(backTo pos (starEach (e::es) X.env)).any (·.1)=false:=by rfl) :
  WE X (.Call (.Name x p) (e::es) [⟨some "default",.Constant (.int i) j p2,kp⟩] pos) (eL (lN i) fa):=⟨aW (zS (zT hc) hg hm hv ha.h hn hdb he hpl) fun _ _ _=>many wX⟩
end
end VL
end
section
namespace L2
open PySem PySem.Spec PyProof.Rows
end L2
end
section
namespace VL
open PySem PySem.Spec L2 PyProof.Rows
section
variable {X:Cx} {pos:Pos}
noncomputable def vh:=jW (fun i j=>decide ((Builtin.Int.intBits i:Int)+Builtin.Int.intBits j<=2 ^ 20)) fun i j=>.int (i*j)
theorem zU:di X (binaryOp .Mult) (rI (fun i j=>(Builtin.Int.intBits i:Int)+Builtin.Int.intBits j<=2 ^ 20) fun i j=>.int (i*j)):=CQ fun i j _ _ _ _ _ hc q=>mul_int q (by
 unfold IntMulOk Builtin.Int.intTooBig;have h:¬ ((Builtin.Int.intBits i:Int)+Builtin.Int.intBits j>bitsLine):=by
  have:(2:Int) ^ 20<=(bitsLine:Int):=by decide
  lia
 simp;intro _ _;lia)
theorem uf:di X (binaryOp .Mult) (rM X.K vh):=kW zU (fun i j h=>of_decide_eq_true h) fun _ _ _ _=>.int _
end
end VL
end
section
namespace L2
open PySem PySem.Spec PyProof.Rows
end L2
end
section
namespace VL
open PySem PySem.Spec L2 PyProof.Rows
end VL
end
section
namespace L2
open PySem PySem.Spec PyProof.Rows
end L2
end
section
namespace VL
open PySem PySem.Spec L2 PyProof.Rows
end VL
end
section
namespace L2
open PySem PySem.W PyProof.Rows PySem.Calls
end L2
end
section
namespace VL
open PySem PySem.Spec L2 PyProof.Rows
end VL
end
section
namespace L2
open PySem PySem.Spec PyProof.Rows
section
variable {X:Cx}
theorem gg:∀ {ns:List Int} {us:List Value},Vals (ns.map V.int) us->IntsAre us ns
 | [],_,h=>by cases h; exact .nil
 | n::ns,_,h=>by
  cases h with
  | cons r rr=>obtain⟨t,rfl⟩:=r; exact .cons _ _ (gg rr)
end
end L2
end
section
namespace VL
open PySem PySem.Spec L2 PyProof.Rows
end VL
end
section
namespace L2
open PySem PySem.W PyProof.Rows PySem.Calls
end L2
end
section
namespace L2
open PySem PySem.Spec PySem.W PyProof.Rows
end L2
end
section
namespace VL
open PySem PySem.Spec L2 PyProof.Rows
end VL
end
section
namespace L2
open PySem PySem.Spec PyProof.Rows AutoSeq1
end L2
end
section
namespace VL
open PySem PySem.Spec L2 PyProof.Rows
end VL
end
section
namespace ST
open PySem PySem.SetTable
noncomputable def fN:Nat->Nat->Nat
 | 0,x=>x
 | n+1,x=>fN n (5*x+1)
theorem sD:∀ (m n x:Nat),fN (n+m) x=fN m (fN n x)
 | m,0,x=>by rw[Nat.zero_add]; rfl
 | m,n+1,x=>by rw[Nat.succ_add]; exact sD m n (5*x+1)
theorem xP:∀k,∃c d,∀x,fN (2 ^ k) x=(1+2 ^ (k+2)*c)*x+2 ^ k*(1+2*d)
 | 0=>⟨1,0,fun x=>by show 5*x+1=_; lia⟩
 | k+1=>by
  obtain⟨c,d,h⟩:=xP k;refine⟨c+2 ^ (k+1)*(c*c),d+2 ^ k*c*(1+2*d),fun x => ?_⟩
  rw[show 2 ^ (k+1)=2 ^ k+2 ^ k by rw[Nat.pow_succ]; lia,sD,h,h]
  rw[show 2 ^ (k+1+2)=8*2 ^ k by rw[Nat.pow_succ,Nat.pow_succ,Nat.pow_succ]; lia,show 2 ^ (k+2)=4*2 ^ k by rw[Nat.pow_succ,Nat.pow_succ]; lia]
  generalize 2 ^ k=p
  grind
theorem cover:∀ (k x y:Nat),∃n,n<2 ^ k/\fN n x % 2 ^ k=y % 2 ^ k
 | 0,x,y=>⟨0,by simp,by rw[Nat.pow_zero,Nat.mod_one,Nat.mod_one]⟩
 | k+1,x,y=>by
  obtain⟨n,hn,e⟩:=cover k x y;obtain⟨c,d,h⟩:=xP k;have hp:2 ^ (k+1)=2 ^ k+2 ^ k:=by rw[Nat.pow_succ]; lia
  have hp2:2 ^ (k+2)=4*2 ^ k:=by rw[Nat.pow_succ,Nat.pow_succ]; lia
  have hpos:0<2 ^ k:=Nat.pow_pos (by decide)
  by_cases q:fN n x % 2 ^ (k+1)=y % 2 ^ (k+1)
  ·exact⟨n,by lia,q⟩
  ·refine⟨n+2 ^ k,by lia,?_⟩
   rw[sD,h (fN n x)];generalize fN n x=z at e q;rw[hp] at q ⊢;rw[hp2];generalize 2 ^ k=p at *;have e1:(1+4*p*c)*z+p*(1+2*d)=z+p+(p+p)*(2*c*z+d):=by grind
   rw[e1,Nat.add_mul_mod_self_left];have hz:z % p+p*(z / p)=z:=Nat.mod_add_div z p;have hy:y % p+p*(y / p)=y:=Nat.mod_add_div y p;have hzp:z % p<p:=Nat.mod_lt _ hpos;have tz:z % (p+p)=z % p\/z % (p+p)=z % p+p:=by
    have a:=Nat.mod_lt z (show 0<p+p by lia)
    have b:z % (p+p) % p=z % p:=Nat.mod_mod_of_dvd z ⟨2,by lia⟩
    by_cases hh:z % (p+p)<p
    ·rw[Nat.mod_eq_of_lt hh] at b; exact .inl b
    ·rw[Nat.mod_eq_sub_mod (by lia),Nat.mod_eq_of_lt (by lia)] at b; exact .inr (by lia)
   have ty:y % (p+p)=y % p\/y % (p+p)=y % p+p:=by
    have a:=Nat.mod_lt y (show 0<p+p by lia)
    have b:y % (p+p) % p=y % p:=Nat.mod_mod_of_dvd y ⟨2,by lia⟩
    by_cases hh:y % (p+p)<p
    ·rw[Nat.mod_eq_of_lt hh] at b; exact .inl b
    ·rw[Nat.mod_eq_sub_mod (by lia),Nat.mod_eq_of_lt (by lia)] at b; exact .inr (by lia)
   rw[Nat.add_mod,Nat.mod_eq_of_lt (show p<p+p by lia)]
   rcases tz with tz | tz <;> rcases ty with ty | ty
   ·exact absurd (by rw[tz,ty,e]) q
   ·rw[tz,ty,Nat.mod_eq_of_lt (by lia),e]
   ·rw[tz,ty,show z % p+p+p=z % p+(p+p) by lia,Nat.add_mod_right,Nat.mod_eq_of_lt (by lia),e]
   ·exact absurd (by rw[tz,ty,e]) q
theorem sE (m:Nat):∀ (n x:Nat),fN n (x % m) % m=fN n x % m
 | 0,x=>by show x % m % m=x % m; rw[Nat.mod_mod]
 | n+1,x=>by
  show fN n (5*(x % m)+1) % m=fN n (5*x+1) % m;rw[<-sE m n (5*(x % m)+1),<-sE m n (5*x+1)];have:(5*(x % m)+1) % m=(5*x+1) % m:=by
   rw[Nat.add_mod,Nat.mul_mod,Nat.mod_mod,<-Nat.mul_mod,<-Nat.add_mod]
  rw[this]
noncomputable def lp (mask:Nat):Nat->Nat×Nat->Nat×Nat
 | 0,q=>q
 | n+1,q=>lp mask n (leap mask q.1 q.2)
theorem xQ (mask:Nat):∀ (m n:Nat) (q:Nat×Nat),lp mask (n+m) q=lp mask m (lp mask n q)
 | m,0,q=>by rw[Nat.zero_add]; rfl
 | m,n+1,q=>by rw[Nat.succ_add]; exact xQ mask m n _
theorem ug (mask:Nat):∀ (n:Nat) (q:Nat×Nat),(lp mask n q).2=q.2 / 32 ^ n
 | 0,q=>by rw[Nat.pow_zero,Nat.div_one]; rfl
 | n+1,q=>by
  show (lp mask n (leap mask q.1 q.2)).2=_;rw[ug mask n,Nat.pow_succ,Nat.mul_comm (32 ^ n) 32,<-Nat.div_div_eq_div_mul];rfl
theorem uh (mask:Nat):∀ (n i:Nat),i<mask+1->(lp mask n (i,0)).1=fN n i % (mask+1)
 | 0,i,h=>by show i=i % (mask+1); rw[Nat.mod_eq_of_lt h]
 | n+1,i,h=>by
  show (lp mask n ((i*5+1+0 / 32) % (mask+1),0 / 32)).1=fN n (5*i+1) % (mask+1);rw[Nat.zero_div,Nat.add_zero,uh mask n _ (Nat.mod_lt _ (Nat.succ_pos _)),sE,Nat.mul_comm i 5]
theorem As (mask:Nat):∀ (n:Nat) (q:Nat×Nat),q.1<mask+1->(lp mask n q).1<mask+1
 | 0,q,h=>h
 | n+1,q,h=>As mask n _ (Nat.mod_lt _ (Nat.succ_pos _))
theorem qH {mask k:Nat} (hm:mask+1=2 ^ k) {i p e:Nat} (hi:i<mask+1) (hp:p<2 ^ 64) (he:e<=mask):∃n,n<mask+14/\(lp mask n (i,p)).1=e:=by
 have h13:(lp mask 13 (i,p)).2=0:=by
  rw[ug];exact Nat.div_eq_of_lt (Nat.lt_of_lt_of_le hp (by decide))
 have hl:=As mask 13 (i,p) hi;obtain⟨n,hn,e1⟩:=cover k (lp mask 13 (i,p)).1 e;refine⟨13+n,by lia,?_⟩
 rw[xQ];have:lp mask 13 (i,p)=((lp mask 13 (i,p)).1,0):=by rw[<-h13]
 rw[this,uh mask n _ hl,hm,e1,<-hm,Nat.mod_eq_of_lt (by lia)]
theorem um (h:Int):bits h<2 ^ 64:=by
 unfold bits;have h1:h % (2 ^ 64:Int)<2 ^ 64:=Int.emod_lt_of_pos _ (by decide)
 have h0:0<=h % (2 ^ 64:Int):=Int.emod_nonneg _ (by decide)
 lia
noncomputable def xR (mask:Nat) (p:Probe):Probe :=
 if p.more>0 then { p with j:=p.j+1,more:=p.more-1 } else
 let (i,perturb):=leap mask p.i p.perturb
 { p with j:=i,more:=runEnd mask i-i,i,perturb }
theorem xS (t:SetTable) (p:Probe):t.advance p=xR t.mask p:=rfl
noncomputable def ls (mask:Nat) (q:Nat×Nat):Probe:={ j:=q.1,more:=runEnd mask q.1-q.1,i:=q.1,perturb:=q.2,dummy:=none }
noncomputable def at_ (mask i p k:Nat):Probe:={ j:=i+k,more:=runEnd mask i-(i+k),i:=i,perturb:=p,dummy:=none }
theorem gX (mask i:Nat):i<=runEnd mask i:=by unfold runEnd; split <;> lia
theorem sF (mask i:Nat):runEnd mask i<=i+9:=by unfold runEnd; split <;> lia
theorem jL {mask i:Nat} (h:i<=mask):runEnd mask i<=mask:=by unfold runEnd; split <;> lia
theorem Cu {mask i p k:Nat} (h:i+k<runEnd mask i):xR mask (at_ mask i p k)=at_ mask i p (k+1):=by
 unfold xR at_;rw[if_pos (by show runEnd mask i-(i+k)>0; lia)]
 show Probe.mk _ _ _ _ _=Probe.mk _ _ _ _ _
 congr 1
theorem uo {mask i p k:Nat} (h:i+k=runEnd mask i):xR mask (at_ mask i p k)=ls mask (leap mask i p):=by
 unfold xR at_;rw[if_neg (by show ¬runEnd mask i-(i+k)>0; lia)]
 rfl
noncomputable def it (mask:Nat):Nat->Probe->Probe
 | 0,p=>p
 | n+1,p=>it mask n (xR mask p)
theorem eB (mask:Nat):∀ (m n:Nat) (p:Probe),it mask (n+m) p=it mask m (it mask n p)
 | m,0,p=>by rw[Nat.zero_add]; rfl
 | m,n+1,p=>by rw[Nat.succ_add]; exact eB mask m n _
theorem jM {mask i p:Nat}:∀ (k:Nat),i+k<=runEnd mask i->it mask k (ls mask (i,p))=at_ mask i p k
 | 0,_=>rfl
 | k+1,h=>by rw[eB mask 1 k,jM k (by lia)]; exact Cu (by lia)
theorem zV (mask i p:Nat):∃s,s<=10/\it mask s (ls mask (i,p))=ls mask (leap mask i p):=by
 refine⟨runEnd mask i-i+1,by have:=sF mask i; lia,?_⟩
 have:=gX mask i;rw[eB mask 1 _,jM _ (by lia)]
 exact uo (by lia)
theorem Au (mask:Nat):∀ (n:Nat) (q:Nat×Nat),∃s,s<=10*n/\it mask s (ls mask q)=ls mask (lp mask n q)
 | 0,q=>⟨0,Nat.le_refl _,rfl⟩
 | n+1,(i,p)=>by
  obtain⟨s1,h1,e1⟩:=zV mask i p;obtain⟨s2,h2,e2⟩:=Au mask n (leap mask i p);exact⟨s1+s2,by lia,by rw[eB,e1,e2]; rfl⟩
noncomputable def start (mask:Nat) (h:Int):Probe:=ls mask (bits h % (mask+1),bits h)
theorem xT (t:SetTable) (h:Int):t.probeStart h=start t.mask h:=rfl
theorem xU {mask k:Nat} (hm:mask+1=2 ^ k) (h:Int) {e:Nat} (he:e<=mask):∃n,n<10*(mask+14)/\(it mask n (start mask h)).j=e:=by
 obtain⟨n,hn,e1⟩:=qH hm (i:=bits h % (mask+1)) (p:=bits h) (Nat.mod_lt _ (Nat.succ_pos _)) (um h) he;obtain⟨s,hs,e2⟩:=Au mask n (bits h % (mask+1),bits h);exact⟨s,by lia,by unfold start; rw[e2]; exact e1⟩
theorem least {P:Nat->Prop}:∀n,P n->∃m,m<=n/\P m/\∀k,k<m->¬P k:=by
 intro n
 induction n using Nat.strongRecOn with
 | ind n ih =>
  intro h
  by_cases q:∃k,k<n/\P k
  ·obtain⟨k,hk,pk⟩:=q
   obtain⟨m,a,b,c⟩:=ih k hk pk;exact⟨m,by lia,b,c⟩
  ·exact⟨n,Nat.le_refl _,h,fun k hk pk=>q ⟨k,hk,pk⟩⟩
def Way (mask:Nat) (ne:Nat->Prop) (h:Int) (j:Nat):Prop:=∃m,(it mask m (start mask h)).j=j/\∀k,k<m->ne (it mask k (start mask h)).j
theorem Way.mono {mask:Nat} {ne ne':Nat->Prop} {h:Int} {j:Nat} (w:Way mask ne h j) (hm:∀j,ne j->ne' j):Way mask ne' h j:=by
 obtain⟨m,a,b⟩:=w;exact⟨m,a,fun k hk=>hm _ (b k hk)⟩
def iQ (xs:Array Nat):Prop:=xs.toList.Pairwise (· < ·)
theorem iQ.lt {xs:Array Nat} (h:iQ xs) {a b x y:Nat} (hab:a<b) (ha:xs[a]? = some x) (hb:xs[b]? = some y):x<y:=by
 rw[<-Array.getElem?_toList] at ha hb;obtain⟨h1,e1⟩:=List.getElem?_eq_some_iff.mp ha;obtain⟨h2,e2⟩:=List.getElem?_eq_some_iff.mp hb;have:=List.pairwise_iff_getElem.mp h a b h1 h2 hab;rw[e1,e2] at this;exact this
theorem lP {xs:Array Nat} {j:Nat} (hr:iQ xs):∀ (f lo hi:Nat),hi-lo<=f->lo<=hi->hi<=xs.size->(∀k x,k<lo->xs[k]? = some x->x<j)->(∀k x,hi<=k->xs[k]? = some x->j<=x) ->
  below.go xs j f lo hi<=xs.size/\(∀k x,k<below.go xs j f lo hi->xs[k]? = some x->x<j)/\(∀k x,below.go xs j f lo hi<=k->xs[k]? = some x->j<=x)
 | 0,lo,hi,hf,hl,hs,h1,h2=>by
  have:lo=hi:=by lia
  subst this;exact⟨hs,h1,h2⟩
 | f+1,lo,hi,hf,hl,hs,h1,h2=>by
  unfold below.go
  by_cases hlt:lo<hi
  ·rw[if_pos hlt]
   dsimp only;have hm:(lo+hi) / 2<xs.size:=by lia
   have eg:xs.getD ((lo+hi) / 2) j=xs[(lo+hi) / 2]:=by simp[Array.getD,hm]
   have eg':xs[(lo+hi) / 2]? = some (xs.getD ((lo+hi) / 2) j):=by rw[eg]; simp[hm]
   by_cases hx:xs.getD ((lo+hi) / 2) j<j
   ·rw[if_pos hx]
    refine lP hr f ((lo+hi) / 2+1) hi (by lia) (by lia) hs (fun k x hk e => ?_) h2
    by_cases hk':k=(lo+hi) / 2
    ·subst hk'; rw[eg'] at e; cases e; exact hx
    ·have:=hr.lt (show k<(lo+hi) / 2 by lia) e eg'
     lia
   ·rw[if_neg hx]
    refine lP hr f lo ((lo+hi) / 2) (by lia) (by lia) (by lia) h1 (fun k x hk e => ?_)
    by_cases hk':k=(lo+hi) / 2
    ·subst hk'; rw[eg'] at e; cases e; lia
    ·have:=hr.lt (show (lo+hi) / 2<k by lia) eg' e
     lia
  ·rw[if_neg hlt]
   have:lo=hi:=by lia
   subst this;exact⟨hs,h1,h2⟩
theorem gh {xs:Array Nat} (hr:iQ xs) (j:Nat):below xs j<=xs.size/\(∀k x,k<below xs j->xs[k]? = some x->x<j)/\(∀k x,below xs j<=k->xs[k]? = some x->j<=x):=by
 unfold below;exact lP hr _ _ _ (by lia) (Nat.zero_le _) (Nat.le_refl _) (fun k x h=>by lia) (fun k x h e=>by
  obtain⟨h',_⟩:=Array.getElem?_eq_some_iff.mp e;lia)
theorem below_at {xs:Array Nat} (hr:iQ xs) {i j:Nat} (h:xs[i]? = some j):below xs j=i:=by
 obtain⟨a,b,c⟩:=gh hr j;rcases Nat.lt_trichotomy (below xs j) i with q | q | q
 ·obtain⟨h',_⟩:=Array.getElem?_eq_some_iff.mp h
  have e:xs[below xs j]? = some (xs[below xs j]'(by lia)):=by simp[show below xs j<xs.size by lia]
  have h1:=hr.lt q e h;have h2:=c _ _ (Nat.le_refl _) e;lia
 ·exact q
 ·have:=b i j q h
  lia
theorem sG {xs:Array Nat} (hr:iQ xs) {i j:Nat} (h:xs[i]? = some j):below xs (j+1)=i+1:=by
 obtain⟨a,b,c⟩:=gh hr (j+1);obtain⟨h',_⟩:=Array.getElem?_eq_some_iff.mp h;rcases Nat.lt_trichotomy (below xs (j+1)) (i+1) with q | q | q
 ·have:=c i j (by lia) h
  lia
 ·exact q
 ·have e:xs[i+1]? = some (xs[i+1]'(by lia)):=by simp[show i+1<xs.size by lia]
  have h1:=hr.lt (Nat.lt_succ_self i) h e;have h2:=b _ _ q e;lia
theorem sH {xs:Array Nat} (hr:iQ xs):below xs 0=0:=by
 obtain⟨a,b,c⟩:=gh hr 0;rcases Nat.eq_zero_or_pos (below xs 0) with q | q
 ·exact q
 ·have e:xs[0]? = some (xs[0]'(by lia)):=by simp[show 0<xs.size by lia]
  have:=b 0 _ q e;lia
section
variable {t:SetTable}
def Tk (t:SetTable) (j:Nat):Prop:=j∈t.place.toList
theorem lQ (hr:iQ t.place) (hd:t.dummies = #[]) (j:Nat):(∃i,t.slot j=.live i/\t.place[i]? = some j)\/(t.slot j=.empty/\¬Tk t j):=by
 unfold slot;dsimp only
 by_cases h:t.place[below t.place j]? = some j
 ·exact .inl ⟨_,by rw[h]; simp,h⟩
 ·refine .inr ⟨?_,fun hm => ?_⟩
  ·rw[if_neg (by simpa using h),hd,if_neg (by unfold has; simp)]
  ·obtain⟨i,hi,e⟩:=List.getElem_of_mem hm
   have e:t.place[i]? = some j:=by rw[<-Array.getElem?_toList,List.getElem?_eq_getElem hi,e]
   rw[below_at hr e] at h;exact h e
theorem fQ (hr:iQ t.place) {i j:Nat} (h:t.place[i]? = some j):t.slot j=.live i:=by
 unfold slot;dsimp only;rw[below_at hr h,h];simp
theorem Av {i j:Nat} (h:t.place[i]? = some j):Tk t j:=by
 unfold Tk;rw[<-Array.getElem?_toList] at h;obtain⟨h1,e⟩:=List.getElem?_eq_some_iff.mp h;rw[<-e]; exact List.getElem_mem h1
end
theorem xV {xs:Array Nat} (hr:iQ xs) {j:Nat} (hj:j∉xs.toList):iQ (insertAt xs (below xs j) j):=by
 unfold iQ;rw[SetTable.toList_insertAt];obtain⟨a,b,c⟩:=gh hr j;have low:∀x∈xs.toList.take (below xs j),x<j:=fun x hx=>by
  obtain⟨i,hi,e⟩:=List.getElem_of_mem hx;rw[List.length_take] at hi;rw[List.getElem_take] at e;exact b i x (by lia) (by rw[<-Array.getElem?_toList,List.getElem?_eq_getElem (by lia),e])
 have up:∀x∈xs.toList.drop (below xs j),j<x:=fun x hx=>by
  have hx':x∈xs.toList:=List.mem_of_mem_drop hx;obtain⟨i,hi,e⟩:=List.getElem_of_mem hx;rw[List.length_drop] at hi;rw[List.getElem_drop] at e;have:=c (below xs j+i) x (by lia) (by rw[<-Array.getElem?_toList,List.getElem?_eq_getElem (by lia),e])
  rcases Nat.lt_or_eq_of_le this with q | q
  ·exact q
  ·subst q; exact absurd hx' hj
 have hp:(xs.toList.take (below xs j)++xs.toList.drop (below xs j)).Pairwise (· < ·):=by rw[List.take_append_drop]; exact hr
 obtain⟨p1,p2,p3⟩:=List.pairwise_append.mp hp;refine List.pairwise_append.mpr ⟨p1,List.pairwise_cons.mpr ⟨fun x hx=>up x hx,p2⟩,fun x hx y hy => ?_⟩
 rcases lK hy with rfl | hy
 ·exact low x hx
 ·exact p3 x hx y hy
theorem sI {α β:Type} {xs:Array α} {ys:Array β} (hl:xs.size=ys.size) (p:Nat) (x:α) (y:β) {q:α×β} (h:q∈(insertAt xs p x).toList.zip (insertAt ys p y).toList):q=(x,y)\/q∈xs.toList.zip ys.toList:=by
 rw[SetTable.toList_insertAt,SetTable.toList_insertAt,List.zip_append (by simp[hl]),List.zip_cons_cons] at h
 have e:xs.toList.zip ys.toList=(xs.toList.take p).zip (ys.toList.take p)++(xs.toList.drop p).zip (ys.toList.drop p):=by
  rw[<-List.zip_append (by simp[hl]),List.take_append_drop,List.take_append_drop]
 rw[e];rcases lM h with h | h
 ·exact .inr (lL _ h)
 ·rcases lK h with h | h
  ·exact .inl h
  ·exact .inr (lR _ h)
structure dN (t:SetTable) (es:Array (Int×Value)):Prop where
 size:t.place.size=es.size
 rise:iQ t.place
 dum:t.dummies = #[]
 room:t.place.size*5<t.mask*3
 pow:∃k,t.mask+1=2 ^ k
 ge:7<=t.mask
 le:t.mask<=8*es.size+7
 inb:∀j,Tk t j->j<=t.mask
 way:∀q∈t.place.toList.zip es.toList,Way t.mask (Tk t) q.2.1 q.1
 plain:t.plain=true
theorem dN.fits {t:SetTable} {es:Array (Int×Value)} (T:dN t es):t.fits es.size=true:=by
 unfold SetTable.fits SetTable.fill;have:=T.room;rw[T.dum,T.size];simp only[beq_self_eq_true,Bool.true_and,decide_eq_true_eq];rw[T.size] at this;show es.size+0<=t.mask;lia
theorem nS (led:Bool):dN (.fresh 0 0 led) #[] where
 size:=rfl
 rise:=.nil
 dum:=rfl
 room:=by show 0*5<7*3; decide
 pow:=⟨3,rfl⟩
 ge:=Nat.le_refl _
 le:=Nat.le_refl _
 inb:=fun j h=>by cases h
 way:=fun q h=>by cases h
 plain:=rfl
theorem dN.free {t:SetTable} {es:Array (Int×Value)} (T:dN t es):∃e,e<=t.mask/\¬Tk t e:=by
 refine Classical.byContradiction fun hn => ?_
 have all:∀e,e∈List.range (t.mask+1)->e∈t.place.toList:=fun e he=>by
  refine Classical.byContradiction fun q=>hn ⟨e,?_,q⟩
  have:=List.mem_range.mp he;lia
 have:=(List.nodup_range (n:=t.mask+1)).length_le_of_subset all;rw[List.length_range,Array.length_toList] at this;have:=T.room;lia
theorem dN.first {t:SetTable} {es:Array (Int×Value)} (T:dN t es) (h:Int):∃m,m<10*(t.mask+14)/\¬Tk t (it t.mask m (start t.mask h)).j/\(it t.mask m (start t.mask h)).j<=t.mask/\∀k,k<m->Tk t (it t.mask k (start t.mask h)).j:=by
 obtain⟨e,he,hn⟩:=T.free;obtain⟨k,hk⟩:=T.pow;obtain⟨n,hn1,e1⟩:=xU hk h he;obtain⟨m,a,b,c⟩:=least (P:=fun n=>¬Tk t (it t.mask n (start t.mask h)).j) n (by rw[e1]; exact hn)
 refine⟨m,by lia,b,?_,fun k hk=>Classical.byContradiction fun q=>c k hk q⟩
 have bd:∀ (m:Nat) (p:Probe),p.j+p.more<=t.mask->(it t.mask m p).j+(it t.mask m p).more<=t.mask:=by
  intro m
  induction m with
  | zero=>intro p hp; exact hp
  | succ m ih =>
   intro p hp;refine ih _ ?_;unfold xR
   split
   ·show p.j+1+(p.more-1)<=_; lia
   ·have h1:(leap t.mask p.i p.perturb).1<=t.mask:=by
     have:(leap t.mask p.i p.perturb).1<t.mask+1:=Nat.mod_lt _ (Nat.succ_pos _);lia
    show (leap t.mask p.i p.perturb).1+(runEnd t.mask (leap t.mask p.i p.perturb).1-(leap t.mask p.i p.perturb).1)<=_;have:=jL h1;have:=gX t.mask (leap t.mask p.i p.perturb).1;lia
 have h0:bits h % (t.mask+1)<t.mask+1:=Nat.mod_lt _ (Nat.succ_pos _);have:=bd m (start t.mask h) (by
  show bits h % (t.mask+1)+(runEnd t.mask (bits h % (t.mask+1))-bits h % (t.mask+1))<=_;have:=jL (mask:=t.mask) (i:=bits h % (t.mask+1)) (by lia)
  have:=gX t.mask (bits h % (t.mask+1));lia)
 lia
structure mZ (t:SetTable) (es:Array (Int×Value)):Prop where
 size:t.place.size=es.size
 rise:iQ t.place
 dum:t.dummies = #[]
 room:t.place.size<=t.mask
 pow:∃k,t.mask+1=2 ^ k
 ge:7<=t.mask
 le:t.mask<=8*es.size+7
 inb:∀j,Tk t j->j<=t.mask
 way:∀q∈t.place.toList.zip es.toList,Way t.mask (Tk t) q.2.1 q.1
 plain:t.plain=true
theorem mZ.fits {t:SetTable} {es:Array (Int×Value)} (T:mZ t es):t.fits es.size=true:=by
 unfold SetTable.fits SetTable.fill;have:=T.room;rw[T.dum,T.size];simp only[beq_self_eq_true,Bool.true_and,decide_eq_true_eq];rw[T.size] at this;show es.size+0<=t.mask;lia
theorem mZ.inv {t:SetTable} {es:Array (Int×Value)} (T:mZ t es) (h:t.tooFull=false):dN t es where
 size:=T.size
 rise:=T.rise
 dum:=T.dum
 room:=by
  unfold tooFull fill at h;rw[T.dum] at h;have:=of_decide_eq_false h;have e:(#[]:Array Nat).size=0:=rfl;rw[e] at this;lia
 pow:=T.pow
 ge:=T.ge
 le:=T.le
 inb:=T.inb
 way:=T.way
 plain:=T.plain
theorem eY {α:Type} (xs:Array α) (p:Nat) (x:α):(insertAt xs p x).size=xs.size+1:=by
 rw[<-Array.length_toList,(SetTable.insertAt_perm xs p x).length_eq,Array.length_toList,Array.size_push]
theorem dN.put {t:SetTable} {es:Array (Int×Value)} (T:dN t es) {h:Int} {j:Nat} (x:Value) (hj:¬Tk t j) (hle:j<=t.mask) (hw:Way t.mask (Tk t) h j) :
  mZ (t.put j).1 (insertAt es (t.put j).2 (h,x))/\(t.put j).1.led=t.led:=by
 have ed:has t.dummies j=false:=by rw[T.dum]; unfold has; simp
 have e1:(t.put j).1={ t with place:=insertAt t.place (below t.place j) j }:=by
  unfold SetTable.put; dsimp only; rw[ed]; rfl
 have e2:(t.put j).2=below t.place j:=rfl;have old:∀k,Tk t k->Tk { t with place:=insertAt t.place (below t.place j) j } k:=fun k hk=>by
  show k∈(insertAt t.place (below t.place j) j).toList;rw[(SetTable.insertAt_perm t.place _ j).mem_iff,Array.toList_push];exact lL _ hk
 rw[e1,e2];refine⟨⟨?_,xV T.rise hj,T.dum,?_,T.pow,T.ge,?_,fun k hk => ?_,fun q hq => ?_,T.plain⟩,rfl⟩
 ·show (insertAt t.place _ j).size=_
  rw[eY,eY,T.size]
 ·show (insertAt t.place _ j).size<=t.mask
  rw[eY];have:=T.room;have:=T.ge;lia
 ·rw[eY]; have:=T.le; show t.mask<=_; lia
 ·have hk:k∈(insertAt t.place (below t.place j) j).toList:=hk
  rw[(SetTable.insertAt_perm t.place _ j).mem_iff,Array.toList_push] at hk;rcases lM hk with hk | hk
  ·exact T.inb k hk
  ·rw[List.mem_singleton] at hk; subst hk; exact hle
 ·rcases sI T.size _ _ _ hq with rfl | hq
  ·exact hw.mono old
  ·exact (T.way q hq).mono old
abbrev fR:=Array (Option Nat)
def Own (o:fR) (j:Nat):Prop:=∃id,o[j]? = some (some id)
theorem lT {o:fR} {j:Nat} (h:j<o.size):(o.getD j (some 0)).isNone=true↔¬Own o j:=by
 unfold Own;have e:o.getD j (some 0)=o[j]:=by simp[Array.getD,h]
 have e2:o[j]? = some o[j]:=by simp[h]
 rw[e,e2];cases o[j] with
 | none=>simp
 | some x=>simp
theorem uq {mask:Nat} {o:fR} (hs:o.size=mask+1):∀ (f i p:Nat),i<=mask->(∃n,n<f/\¬Own o (lp mask n (i,p)).1) ->
  ∃j m,layClean.free mask o f i p=some j/\¬Own o j/\j<=mask/\(it mask m (ls mask (i,p))).j=j/\∀k,k<m->Own o (it mask k (ls mask (i,p))).j
 | 0,i,p,_,h=>by obtain⟨n,hn,_⟩:=h; lia
 | f+1,i,p,hi,h=>by
  have re:=jL hi;have rg:=gX mask i;unfold layClean.free;cases q:(List.range (runEnd mask i+1-i)).find? (fun k=>(o.getD (i+k) (some 0)).isNone) with
  | some k =>
   have h1:=List.find?_some q;have hk:k<runEnd mask i+1-i:=List.mem_range.mp (List.mem_of_find?_eq_some q);have h0:=(lT (o:=o) (j:=i+k) (by lia)).mp h1
   refine⟨i+k,k,rfl,h0,by lia,?_,fun k' hk' => ?_⟩
   ·rw[jM k (by lia)]; rfl
   ·rw[jM k' (by lia)]
    show Own o (i+k');obtain⟨_,as,bs,e,hno⟩:=List.find?_eq_some_iff_append.mp q;have hlen:as.length=k:=by
     have hg:(List.range (runEnd mask i+1-i))[as.length]? = some k:=by rw[e]; simp
     rw[List.getElem?_eq_some_iff] at hg;obtain⟨_,hg⟩:=hg;simpa using hg
    have hm:k'∈as:=by
     have hg:as[k']? = some k':=by
      have:(List.range (runEnd mask i+1-i))[k']? = some k':=by rw[List.getElem?_range (by lia)]
      rw[e,List.getElem?_append_left (by lia)] at this
      exact this
     exact List.mem_of_getElem? hg
    have:=hno k' hm;refine Classical.byContradiction fun z => ?_
    rw[(lT (o:=o) (j:=i+k') (by lia)).mpr z] at this
    cases this
  | none =>
   have hall:∀k,k<runEnd mask i+1-i->Own o (i+k):=fun k hk=>Classical.byContradiction fun z=>by
    have:=List.find?_eq_none.mp q k (List.mem_range.mpr hk);exact this ((lT (o:=o) (j:=i+k) (by lia)).mpr z)
   obtain⟨n,hn,hno⟩:=h;cases n with
   | zero=>exact absurd (hall 0 (by lia)) hno
   | succ n =>
    have hlt:(leap mask i p).1<mask+1:=Nat.mod_lt _ (Nat.succ_pos _);obtain⟨j,m,e1,e2,e3,e4,e5⟩:=uq hs f (leap mask i p).1 (leap mask i p).2 (by lia) ⟨n,by lia,hno⟩
    have hfull:it mask (runEnd mask i-i+1) (ls mask (i,p))=ls mask (leap mask i p):=by
     rw[eB mask 1 _,jM _ (by lia)]
     exact uo (by lia)
    refine⟨j,runEnd mask i-i+1+m,e1,e2,e3,?_,fun k hk => ?_⟩
    ·rw[eB,hfull]; exact e4
    ·by_cases hk':k<=runEnd mask i-i
     ·rw[jM k (by lia)]; exact hall k (by lia)
     ·have:=e5 (k-(runEnd mask i-i+1)) (by lia)
      rw[show k=runEnd mask i-i+1+(k-(runEnd mask i-i+1)) by lia,eB,hfull]
      exact this
noncomputable def stp (mask:Nat) (acc:Option (fR×Nat)) (h:Int):Option (fR×Nat):=do
 let (owner,k) <-acc
 let j <-layClean.free mask owner (turns mask) (bits h % (mask+1)) (bits h)
 pure (owner.setIfInBounds j (some k),k+1)
theorem qI (mask:Nat) (hashes:Array Int):layClean mask hashes=(hashes.toList.foldl (stp mask) (some (Array.replicate (mask+1) none,0))).map (·.1):=by
 rw[Array.foldl_toList]; rfl
theorem qJ {k:Nat}:∀ {l:List (Option Nat)} {j:Nat},l[j]? = some none->((l.set j (some k)).filterMap id).Perm (k::l.filterMap id)
 | [],j,h=>by simp at h
 | x::l,0,h=>by simp at h; subst h; exact .refl _
 | x::l,j+1,h=>by
  have ih:=qJ (k:=k) (l:=l) (j:=j) (by simpa using h)
  rw[List.set_cons_succ];cases x with
  | none=>exact ih
  | some y=>exact (ih.cons y).trans (.swap _ _ _)
structure qK (mask:Nat) (hs:List Int) (o:fR) (k:Nat):Prop where
 size:o.size=mask+1
 len:k=hs.length
 perm:(o.toList.filterMap id).Perm (List.range k)
 way:∀j id,o[j]? = some (some id)->∃h,hs[id]? = some h/\Way mask (Own o) h j
theorem qK.free {mask:Nat} {hs:List Int} {o:fR} {k:Nat} (T:qK mask hs o k) (hk:k<=mask):∃e,e<=mask/\¬Own o e:=by
 refine Classical.byContradiction fun hn => ?_
 have all:∀x∈o.toList,∃id,x=some id:=fun x hx=>by
  obtain⟨i,hi,e⟩:=List.getElem_of_mem hx;refine Classical.byContradiction fun q=>hn ⟨i,by rw[Array.length_toList,T.size] at hi; lia,?_⟩
  rintro⟨id,h⟩;rw[<-Array.getElem?_toList,List.getElem?_eq_getElem hi,e] at h;exact q ⟨id,Option.some.inj h⟩
 have hl:∀ {l:List (Option Nat)},(∀x∈l,∃id,x=some id)->(l.filterMap id).length=l.length:=fun {l}=>by
  induction l with
  | nil=>intro _; rfl
  | cons x l ih =>
   intro h;obtain⟨y,rfl⟩:=h x lS;show ((y::l.filterMap id)).length=_;rw[List.length_cons,List.length_cons,ih fun x hx=>h x (lO _ hx)]
 have:=T.perm.length_eq;rw[hl all,Array.length_toList,T.size,List.length_range] at this;lia
theorem qK.step {mask:Nat} {hs:List Int} {o:fR} {k:Nat} (T:qK mask hs o k) (hp:∃b,mask+1=2 ^ b) (hk:k<=mask) (h:Int):∃o',stp mask (some (o,k)) h=some (o',k+1)/\qK mask (hs++[h]) o' (k+1):=by
 obtain⟨e,he,hne⟩:=T.free hk;obtain⟨b,hb⟩:=hp;have hi:bits h % (mask+1)<mask+1:=Nat.mod_lt _ (Nat.succ_pos _);obtain⟨n,hn,en⟩:=qH hb hi (um h) he;obtain⟨j,m,e1,e2,e3,e4,e5⟩:=uq T.size (turns mask) (bits h % (mask+1)) (bits h) (by lia) ⟨n,by unfold turns; lia,by rw[en]; exact hne⟩
 have hj:j<o.size:=by rw[T.size]; lia
 have hjn:o[j]? = some none:=by
  have:o[j]? = some o[j]:=by simp[hj]
  cases q:o[j] with
  | none=>rw[this,q]
  | some x=>exact absurd ⟨x,by rw[this,q]⟩ e2
 have old:∀i,Own o i->Own (o.setIfInBounds j (some k)) i:=fun i ⟨id,hid⟩=>by
  refine⟨id,?_⟩;rw[Array.getElem?_setIfInBounds,if_neg]
  ·exact hid
  ·intro q; subst q; rw[hjn] at hid; cases hid
 refine⟨o.setIfInBounds j (some k),?_,⟨?_,?_,?_,fun i id hid => ?_⟩⟩
 ·unfold stp; show (layClean.free mask o (turns mask) (bits h % (mask+1)) (bits h)).bind _=_; rw[e1]; rfl
 ·rw[Array.size_setIfInBounds]; exact T.size
 ·rw[List.length_append,<-T.len]; rfl
 ·rw[Array.toList_setIfInBounds]
  have h1:o.toList[j]? = some none:=by rw[Array.getElem?_toList]; exact hjn
  refine (qJ h1).trans ((T.perm.cons k).trans ?_);rw[List.range_succ];exact (List.perm_append_singleton k _).symm
 ·rw[Array.getElem?_setIfInBounds] at hid
  split at hid
  ·next q =>
   subst q;have hid:k=id:=Option.some.inj (Option.some.inj hid);subst hid;exact⟨h,by rw[T.len]; simp,m,e4,fun k' hk'=>old _ (e5 k' hk')⟩
  ·obtain⟨h',a,b⟩:=T.way i id hid
   refine⟨h',?_,b.mono old⟩;rw[List.getElem?_append_left (List.getElem?_eq_some_iff.mp a).1];exact a
theorem qL {mask:Nat} (hp:∃b,mask+1=2 ^ b):∀ (hs ds:List Int) (o:fR),qK mask ds o ds.length->ds.length+hs.length<=mask->∃o',hs.foldl (stp mask) (some (o,ds.length))=some (o',(ds++hs).length)/\qK mask (ds++hs) o' (ds++hs).length
 | [],ds,o,T,_=>⟨o,by rw[List.append_nil]; rfl,by rw[List.append_nil]; exact T⟩
 | h::hs,ds,o,T,hl=>by
  rw[List.length_cons] at hl;obtain⟨o1,e1,T1⟩:=T.step hp (by lia) h
  rw[show ds.length+1=(ds++[h]).length by simp] at e1 T1
  obtain⟨o2,e2,T2⟩:=qL hp hs (ds++[h]) o1 T1 (by simp; lia)
  rw[List.append_assoc] at e2 T2;exact⟨o2,by rw[List.foldl_cons,e1]; exact e2,T2⟩
theorem vj {mask:Nat} (hp:∃b,mask+1=2 ^ b) (hashes:Array Int) (hl:hashes.size<=mask):∃o,layClean mask hashes=some o/\qK mask hashes.toList o hashes.size:=by
 obtain⟨o,e,T⟩:=qL hp hashes.toList [] (Array.replicate (mask+1) none) ⟨by simp,rfl,by
   rw[Array.toList_replicate];have:∀n,((List.replicate n (none:Option Nat)).filterMap id)=[]:=fun n=>by induction n with | zero=>rfl | succ n ih=>exact ih
   rw[this]; exact .refl _,fun j id h=>by
   rw[Array.getElem?_replicate] at h
   split at h <;> cases h⟩ (by simpa using hl)
 rw[List.nil_append] at e T;have e:hashes.toList.foldl (stp mask) (some (Array.replicate (mask+1) none,0))=some (o,hashes.toList.length):=e;rw[Array.length_toList] at T;exact⟨o,by rw[qI,e]; rfl,T⟩
theorem qM (n:Nat):∀ (f s:Nat),(∃k,s=2 ^ k)->8<=s->(s<=2*n\/s=8)->n<s*2 ^ f->(∃k,sizeAbove.go n f s=2 ^ k)/\8<=sizeAbove.go n f s/\n<sizeAbove.go n f s/\(sizeAbove.go n f s<=2*n\/sizeAbove.go n f s=8)
 | 0,s,hk,h8,h2,h=>⟨hk,h8,by show n<s; simpa using h,h2⟩
 | f+1,s,hk,h8,h2,h=>by
  unfold sizeAbove.go
  split
  ·next hle =>
   obtain⟨k,rfl⟩:=hk;exact qM n f _ ⟨k+1,by rw[Nat.pow_succ]⟩ (by lia) (.inl (by lia)) (by rw[Nat.mul_assoc,<-Nat.pow_succ']; exact h)
  ·exact⟨hk,h8,by lia,h2⟩
theorem lU {n:Nat} (h:n<2 ^ 40):(∃k,sizeAbove n=2 ^ k)/\8<=sizeAbove n/\n<sizeAbove n/\(sizeAbove n<=2*n\/sizeAbove n=8) :=
 qM n 64 8 ⟨3,rfl⟩ (Nat.le_refl _) (.inr rfl) (Nat.lt_of_lt_of_le h (by decide))
theorem jo (o:fR):∀ (js:List Nat),((js.filterMap fun j=>(o.getD j none).map (j,·)).map (·.1)).Sublist js
 | []=>.slnil
 | j::js=>by
  rw[List.filterMap_cons];cases o.getD j none with
  | none=>exact (jo o js).cons _
  | some x=>exact (jo o js).cons_cons _
theorem xW (o:fR):((List.range o.size).filterMap fun j=>(o.getD j none).map (j,·)).map (·.2)=o.toList.filterMap id:=by
 rw[List.map_filterMap];have e:o.toList=(List.range o.size).map (fun j=>o.getD j none):=by
  apply List.ext_getElem
  ·simp
  ·intro i h1 h2
   have h1:i<o.size:=by simpa using h1
   simp[Array.getD,h1]
 have e2:(List.range o.size).filterMap (fun j=>((o.getD j none).map (j,·)).map (·.2))=(List.range o.size).filterMap (fun j=>o.getD j none):=by
  congr 1; funext j; cases o.getD j none <;> rfl
 rw[e,List.filterMap_map];exact e2
theorem xX {o:fR} {q:Nat×Nat} (h:q∈(List.range o.size).filterMap fun j=>(o.getD j none).map (j,·)):o[q.1]? = some (some q.2):=by
 obtain⟨j,hj,e⟩:=List.mem_filterMap.mp h;have hj:=List.mem_range.mp hj;have e2:o.getD j none=o[j]:=by simp[Array.getD,hj]
 rw[e2] at e;cases z:o[j] with
 | none=>rw[z] at e; cases e
 | some x =>
  rw[z] at e;cases e;simp[hj,z]
theorem xY {o:fR} {j:Nat} (h:Own o j):j∈((List.range o.size).filterMap fun j=>(o.getD j none).map (j,·)).map (·.1):=by
 obtain⟨id,h⟩:=h;obtain⟨hj,e⟩:=Array.getElem?_eq_some_iff.mp h;refine List.mem_map.mpr ⟨(j,id),List.mem_filterMap.mpr ⟨j,List.mem_range.mpr hj,?_⟩,rfl⟩;have e2:o.getD j none=o[j]:=by simp[Array.getD,hj]
 rw[e2,e]; rfl
theorem Aw {t:SetTable} {es:Array (Int×Value)} (T:mZ t es) (hn:es.size<=50000) :
  ∃t' order,t.relaid (es.map (·.1)) (grown es.size)=some (t',order)/\order.toList.Perm (List.range es.size)/\dN t' (order.filterMap (es[·]?))/\t'.led=t.led:=by
 have hg:grown es.size=es.size*4:=by unfold grown; rw[if_neg (by lia)]
 obtain⟨⟨b,hb⟩,h8,hgt,hle⟩:=lU (n:=grown es.size) (by rw[hg]; lia)
 rw[hg] at hgt hle;rw[hg];rw[hg] at hb h8;generalize hS:sizeAbove (es.size*4)=S at *;obtain⟨o,eo,O⟩:=vj (mask:=S-1) ⟨b,by lia⟩ (es.map (·.1)) (by rw[Array.size_map]; lia)
 have hsz:(es.map (·.1)).size=es.size:=Array.size_map ..;rw[hsz] at O;have hos:o.size=S-1+1:=O.size
 let live:=(List.range (S-1+1)).filterMap fun j=>(o.getD j none).map (j,·)
 have hlive:live=(List.range o.size).filterMap fun j=>(o.getD j none).map (j,·):=by show (List.range (S-1+1)).filterMap _=_; rw[hos]
 have hsnd:live.map (·.2)=o.toList.filterMap id:=by rw[hlive]; exact xW o
 have hperm:(live.map (·.2)).Perm (List.range es.size):=by rw[hsnd]; exact O.perm
 have hid:∀q∈live,q.2<es.size:=fun q hq=>List.mem_range.mp (hperm.mem_iff.mp (List.mem_map.mpr ⟨q,hq,rfl⟩))
 refine⟨{ mask:=S-1,place:=(live.map (·.1)).toArray,dummies:=#[],finger:=t.finger,led:=t.led,moves:=t.movedTo (S-1),plain:=t.plain },(live.map (·.2)).toArray,by unfold relaid laid; rw[hS,eo]; rfl,by simpa using hperm,?_,rfl⟩
 have hes:((live.map (·.2)).toArray.filterMap (es[·]?)).toList=(live.map (·.2)).filterMap (es[·]?):=by rw[Array.toList_filterMap]
 have hall:∀ {l:List Nat},(∀i∈l,i<es.size)->(l.filterMap (es[·]?)).length=l.length:=fun {l}=>by
  induction l with
  | nil=>intro _; rfl
  | cons i l ih =>
   intro h;have hi:=h i lS;rw[List.filterMap_cons,show es[i]? = some es[i] by simp[hi]]
   show (_::_).length=_;rw[List.length_cons,List.length_cons,ih fun x hx=>h x (lO _ hx)]
 have hlen:((live.map (·.2)).toArray.filterMap (es[·]?)).size=es.size:=by
  rw[<-Array.length_toList,hes,hall fun i hi=>List.mem_range.mp (hperm.mem_iff.mp hi),hperm.length_eq,List.length_range]
 have hpl:live.length=es.size:=by have:=hperm.length_eq; simpa using this
 refine⟨?_,?_,rfl,?_,⟨b,by show S-1+1=_; lia⟩,?_,?_,fun j hj => ?_,fun q hq => ?_,T.plain⟩
 ·show (live.map (·.1)).toArray.size=_; rw[hlen]; simpa using hpl
 ·show (live.map (·.1)).toArray.toList.Pairwise (· < ·)
  have:(live.map (·.1)).Sublist (List.range (S-1+1)):=jo o _;exact List.pairwise_lt_range.sublist (by simpa using this)
 ·show (live.map (·.1)).toArray.size*5<(S-1)*3
  have:(live.map (·.1)).toArray.size=es.size:=by simpa using hpl
  rw[this]; lia
 ·show 7<=S-1; lia
 ·show S-1<=_; rw[hlen]; lia
 ·have hj:j∈(live.map (·.1)).toArray.toList:=hj
  have hj:j∈live.map (·.1):=hj;have:j∈List.range (S-1+1):=(jo o (List.range (S-1+1))).mem hj;have:=List.mem_range.mp this;show j<=S-1; lia
 ·have hz:∀ {l:List (Nat×Nat)},(∀q∈l,q.2<es.size)->∀q∈(l.map (·.1)).zip ((l.map (·.2)).filterMap (es[·]?)),∃z∈l,q.1=z.1/\es[z.2]? = some q.2:=fun {l}=>by
   induction l with
   | nil=>intro _ q hq; simp at hq
   | cons z l ih =>
    intro h q hq;have hi:=h z lS;rw[List.map_cons,List.map_cons,List.filterMap_cons,show es[z.2]? = some es[z.2] by simp[hi],List.zip_cons_cons] at hq
    rcases lK hq with rfl | hq
    ·exact⟨z,lS,rfl,by simp[hi]⟩
    ·obtain⟨z',a,b⟩:=ih (fun x hx=>h x (lO _ hx)) q hq
     exact⟨z',lO _ a,b⟩
  have hq:q∈(live.map (·.1)).zip ((live.map (·.2)).filterMap (es[·]?)):=by
   have hq:q∈(live.map (·.1)).toArray.toList.zip ((live.map (·.2)).toArray.filterMap (es[·]?)).toList:=hq;rw[hes] at hq;simpa using hq
  obtain⟨z,hz1,hz2,hz3⟩:=hz hid q hq;have ho:=xX (o:=o) (q:=z) (by rw[<-hlive]; exact hz1)
  obtain⟨h,hh,hw⟩:=O.way _ _ ho;have:h=q.2.1:=by
   rw[Array.getElem?_toList,Array.getElem?_map,hz3] at hh;exact (Option.some.inj hh).symm
  subst this;rw[hz2];refine hw.mono fun j hj => ?_
  show j∈(live.map (·.1)).toArray.toList;have:=xY hj;rw[<-hlive] at this;simpa using this
theorem lV {t:SetTable} (hr:iQ t.place) (hd:t.dummies = #[]) (hashAt:Nat->Int) (h:Int):∀ (f:Nat) (p:Probe) (m:Nat),m<f->p.dummy=none->¬Tk t (it t.mask m p).j->(∀k,k<m->Tk t (it t.mask k p).j) ->
  (probe.go t hashAt h f p=some (.empty (it t.mask m p).j none)/\∀k,k<m->∀i,t.place[i]? = some (it t.mask k p).j->hashAt i≠h) \/
  (∃k i,k<m/\t.place[i]? = some (it t.mask k p).j/\hashAt i=h/\probe.go t hashAt h f p=some (.candidate (it t.mask k p).j i (it t.mask (k+1) p))/\∀k',k'<k->∀i',t.place[i']? = some (it t.mask k' p).j->hashAt i'≠h)
 | 0,p,m,hf,_,_,_=>by lia
 | f+1,p,0,hf,hp,hn,_=>by
  refine .inl ⟨?_,fun k hk=>by lia⟩
  unfold probe.go;rcases lQ hr hd p.j with⟨i,_,hi⟩ | ⟨e,_⟩
  ·exact absurd (Av hi) hn
  ·rw[e,<-hp]; rfl
 | f+1,p,m+1,hf,hp,hn,ht=>by
  have h0:Tk t p.j:=ht 0 (by lia)
  unfold probe.go;rcases lQ hr hd p.j with⟨i,e,hi⟩ | ⟨_,e⟩
  ·rw[e]
   dsimp only
   by_cases hh:hashAt i=h
   ·rw[if_pos (by simpa using hh)]
    exact .inr ⟨0,i,by lia,hi,hh,by rw[xS]; rfl,fun k' hk'=>by lia⟩
   ·rw[if_neg (by simpa using hh),xS]
    have one:∀i',t.place[i']? = some p.j->hashAt i'≠h:=fun i' hi'=>by
     have:SetTable.Slot.live i'=SetTable.Slot.live i:=by rw[<-fQ hr hi',e]
     cases this; exact hh
    have hpd:(xR t.mask p).dummy=none:=by unfold xR; split <;> exact hp
    rcases lV hr hd hashAt h f (xR t.mask p) m (by lia) hpd hn (fun k hk=>ht (k+1) (by lia)) with⟨e1,e2⟩ | ⟨k,i',hk,hi',hh',e1,e2⟩
    ·refine .inl ⟨e1,fun k hk => ?_⟩
     cases k with
     | zero=>exact one
     | succ k=>exact e2 k (by lia)
    ·refine .inr ⟨k+1,i',by lia,hi',hh',e1,fun k' hk' => ?_⟩
     cases k' with
     | zero=>exact one
     | succ k'=>exact e2 k' (by lia)
  ·exact absurd h0 e
theorem qN (t:SetTable) (hashAt:Nat->Int) (h:Int) (p:Probe):t.probe hashAt h p=probe.go t hashAt h (10*turns t.mask) p:=rfl
theorem qO (mask:Nat):∀ (n:Nat) (p:Probe),p.dummy=none->(it mask n p).dummy=none
 | 0,p,h=>h
 | n+1,p,h=>qO mask n _ (by unfold xR; split <;> exact h)
theorem dN.freeSlot {t:SetTable} {es:Array (Int×Value)} (T:dN t es) (h:Int):∃j,t.freeSlot h=some (j,false)/\¬Tk t j/\j<=t.mask/\Way t.mask (Tk t) h j:=by
 obtain⟨m,hm,hn,hle,ht⟩:=T.first h;refine⟨_,?_,hn,hle,⟨m,rfl,ht⟩⟩;unfold SetTable.freeSlot;rw[xT,qN];rcases lV T.rise T.dum (fun _=>h+1) h (10*turns t.mask) (start t.mask h) m (by unfold turns; lia) rfl hn ht with⟨e,_⟩ | ⟨k,i,hk,hi,hh,_⟩
 ·rw[e]; rfl
 ·exact absurd hh (by show h+1≠h; lia)
theorem dN.layNew {t:SetTable} {es:Array (Int×Value)} (T:dN t es) (h:Int) (x:Value):∃es' t',layNew t es h x=(es',t',false,false)/\mZ t' es'/\t'.led=t.led/\es'.toList.Perm ((h,x)::es.toList):=by
 obtain⟨j,e,hn,hle,hw⟩:=T.freeSlot h;obtain⟨M,hl⟩:=T.put x hn hle hw;have e':PySem.layNew t es h x=(insertAt es (t.put j).2 (h,x),(t.put j).1.orStandIn (insertAt es (t.put j).2 (h,x)).size,false,!(t.put j).1.fits (insertAt es (t.put j).2 (h,x)).size):=by
  unfold PySem.layNew; rw[e]
 refine⟨_,_,e'.trans ?_,M,hl,?_⟩
 ·unfold SetTable.orStandIn; rw[M.fits]; rfl
 ·refine (SetTable.insertAt_perm es _ _).trans ?_
  rw[Array.toList_push];exact List.perm_append_singleton _ _
theorem nT {es:Array (Int×Value)} {order:Array Nat} (hp:order.toList.Perm (List.range es.size)):(order.filterMap (es[·]?)).toList.Perm es.toList:=by
 rw[Array.toList_filterMap];exact (hp.filterMap _).trans (by rw[filterMap_getElem?_range])
theorem mZ.relayAll {t:SetTable} {es:Array (Int×Value)} (T:mZ t es) (hn:es.size<=50000):∃es' t',relayAll t es (grown es.size)=(es',t',false)/\dN t' es'/\t'.led=t.led/\es'.toList.Perm es.toList:=by
 obtain⟨t',order,e,hp,I,hl⟩:=Aw T hn;refine⟨order.filterMap (es[·]?),t',?_,I,hl,nT hp⟩;unfold PySem.relayAll;rw[e];dsimp only;have hc:coversAll order es.size=true:=by unfold coversAll; exact List.isPerm_iff.mpr hp
 rw[hc,I.fits];rfl
structure Kd (prog:Program) (w:World) where
 K:Type
 dec:DecidableEq K
 is:Heap->K->Value->Prop
 hash:K->Int
 keeps:∀ {h h':Heap} {k:K} {v:Value} {a:Addr} {o:Obj} {es:Array (Int×Value)} {ep:Nat} {t:SetTable},is h k v->h.get? a=some o->o.data=.set es ep t->Heap.SameBut a h h'->is h' k v
section
variable {prog:Program} {w:World} (D:Kd prog w)
inductive nU (h:Heap):List D.K->List (Int×Value)->Prop
 | nil:nU h [] []
 | cons {k:D.K} {x:Value} {ks:List D.K} {es:List (Int×Value)}:D.is h k x->nU h ks es->nU h (k::ks) ((D.hash k,x)::es)
variable {D}
theorem nU.perm {h:Heap} {ks:List D.K} {es es':List (Int×Value)} (e:nU D h ks es) (p:es'.Perm es):∃ks',ks'.Perm ks/\nU D h ks' es':=by
 induction p generalizing ks with
 | nil=>cases e; exact⟨[],.refl _,.nil⟩
 | @cons x l₁ l₂ p ih =>
  cases e with
  | cons a r =>
   obtain⟨ks',p',e'⟩:=ih r;exact⟨_,p'.cons _,.cons a e'⟩
 | swap x y l =>
  cases e with
  | cons a r =>
   cases r with
   | cons b r=>exact⟨_,.swap _ _ _,.cons b (.cons a r)⟩
 | trans p1 p2 ih1 ih2 =>
  obtain⟨k1,q1,e1⟩:=ih2 e;obtain⟨k2,q2,e2⟩:=ih1 e1;exact⟨k2,q2.trans q1,e2⟩
theorem nU.length {h:Heap} {ks:List D.K} {es:List (Int×Value)} (e:nU D h ks es):ks.length=es.length:=by
 induction e with
 | nil=>rfl
 | cons _ _ ih=>rw[List.length_cons,List.length_cons,ih]
theorem nU.get {h:Heap} {ks:List D.K} {es:List (Int×Value)} (e:nU D h ks es):∀ {i:Nat} {q:Int×Value},es[i]? = some q->∃k,ks[i]? = some k/\D.is h k q.2/\q.1=D.hash k:=by
 induction e with
 | nil=>intro i q hq; simp at hq
 | cons a r ih =>
  intro i q hq;cases i with
  | zero=>simp at hq; subst hq; exact⟨_,rfl,a,rfl⟩
  | succ i=>exact ih (i:=i) (by simpa using hq)
theorem nU.get' {h:Heap} {ks:List D.K} {es:List (Int×Value)} (e:nU D h ks es):∀ {i:Nat} {k:D.K},ks[i]? = some k->∃x,es[i]? = some (D.hash k,x)/\D.is h k x:=by
 induction e with
 | nil=>intro i q hq; simp at hq
 | cons a r ih =>
  intro i q hq;cases i with
  | zero=>simp at hq; subst hq; exact⟨_,rfl,a⟩
  | succ i=>exact ih (i:=i) (by simpa using hq)
theorem nU.mono {h h':Heap} {ks:List D.K} {es:List (Int×Value)} (e:nU D h ks es) (hk:∀k v,D.is h k v->D.is h' k v):nU D h' ks es:=by
 induction e with
 | nil=>exact .nil
 | cons a _ ih=>exact .cons (hk _ _ a) ih
variable (D)
structure jY (h:Heap) (a:Addr) (led:Bool) (ks:List D.K) (o:Obj) (es:Array (Int×Value)) (ep:Nat) (t:SetTable):Prop where
 ho:h.get? a=some o
 hex:o.ExactSet
 hd:o.data=.set es ep t
 inv:dN t es
 led:t.led=led
 els:nU D h ks es.toList
 nd:ks.Nodup
variable {D}
variable {A:Around} {E:Value->Shared->Prop} {s:Shared}
theorem jY.size {h:Heap} {a:Addr} {led:Bool} {ks:List D.K} {o:Obj} {es:Array (Int×Value)} {ep:Nat} {t:SetTable} (S:jY D h a led ks o es ep t):es.size=ks.length:=by
 rw[S.els.length,Array.length_toList]
def Fin (D:Kd prog w) (h:Heap) (a:Addr) (led:Bool) (ks:List D.K) (k:D.K) (h':Heap):Prop:=∃ks' o' es' ep' t',Heap.SameBut a h h'/\jY D h' a led ks' o' es' ep' t'/\ks'.Perm (k::ks)
theorem nV {a:Addr} {led:Bool} {ks:List D.K} {o:Obj} {es:Array (Int×Value)} {ep:Nat} {t:SetTable} (S:jY D s.heap a led ks o es ep t) {k:D.K} {x:Value} {es1:Array (Int×Value)} {t1:SetTable}
  (hn:k∉ks) (hx:D.is s.heap k x) (M:mZ t1 es1) (hl:t1.led=led) (hp:es1.toList.Perm ((D.hash k,x)::es.toList)) (hb:ks.length<=1000)
  {Q:Unit->Shared->Prop}
  (h:∀h1,h1.get? a=some { o with data:=.set es1 (ep+1) t1 }->(t1.tooFull=false->Fin D s.heap a led ks k h1)->(∀es2 t2,dN t2 es2->t2.led=led->es2.toList.Perm es1.toList->Fin D s.heap a led ks k (h1.update a (Obj.putSet es2 t2)))->Q () { s with heap:=h1 }) :
  wpAny (model prog w) A (storeSet a es1 t1) Q E s:=by
 have hsz:es1.size=ks.length+1:=by rw[<-Array.length_toList,hp.length_eq,List.length_cons,Array.length_toList,S.size]
 refine wpAny_storeSet_of S.ho S.hd ?_ (by rw[sizeLine_eq]; lia)
 have hsb:=Heap.SameBut.update s.heap a (Obj.putSet es1 t1);have get1:(s.heap.update a (Obj.putSet es1 t1)).get? a=some { o with data:=.set es1 (ep+1) t1 }:=by
  have:=Heap.get?_update_self (Obj.putSet es1 t1) S.ho (by rw[putSet_of es1 t1 S.hd]; rfl)
  rw[putSet_of es1 t1 S.hd] at this; exact this
 have E0:nU D s.heap (k::ks) ((D.hash k,x)::es.toList):=.cons hx S.els;have kp:∀ {h':Heap},Heap.SameBut a s.heap h'->∀k v,D.is s.heap k v->D.is h' k v:=fun {h'} q k v hv=>D.keeps hv S.ho S.hd q
 have nd:(k::ks).Nodup:=List.nodup_cons.mpr ⟨hn,S.nd⟩;refine h _ get1 (fun hf => ?_) fun es2 t2 I2 l2 p2 => ?_
 ·obtain⟨ks',p',e'⟩:=(E0.mono (kp hsb)).perm hp
  exact⟨ks',_,es1,_,t1,hsb,⟨get1,S.hex,rfl,M.inv hf,hl,e',p'.nodup_iff.mpr nd⟩,p'⟩
 ·have hsb2:Heap.SameBut a s.heap ((s.heap.update a (Obj.putSet es1 t1)).update a (Obj.putSet es2 t2)):=hsb.trans (Heap.SameBut.update _ a _)
  obtain⟨ks',p',e'⟩:=(E0.mono (kp hsb2)).perm (p2.trans hp);have get2:((s.heap.update a (Obj.putSet es1 t1)).update a (Obj.putSet es2 t2)).get? a=some { o with data:=.set es2 (ep+1+1) t2 }:=by
   have:=Heap.get?_update_self (Obj.putSet es2 t2) get1 (by rw[putSet_of es2 t2 (es:=es1) (ep:=ep+1) (t:=t1) rfl]; rfl)
   rw[putSet_of es2 t2 (es:=es1) (ep:=ep+1) (t:=t1) rfl] at this; exact this
  exact⟨ks',_,es2,_,t2,hsb2,⟨get2,S.hex,rfl,I2,l2,e',p'.nodup_iff.mpr nd⟩,p'⟩
end
def AddR {K:Type} (k:K) (ks ks':List K):Prop:=(k∈ks/\ks'=ks)\/(k∉ks/\ks'.Perm (k::ks))
def Adds {prog:Program} {w:World} (D:Kd prog w) (A:Around):Prop:=∀ {E:Value->Shared->Prop} {s:Shared} {a:Addr} {led:Bool} {ks:List D.K} {o:Obj} {es:Array (Int×Value)} {ep:Nat} {t:SetTable} {k:D.K} {x:Value} {Q:Bool->Shared->Prop},
  jY D s.heap a led ks o es ep t->D.is s.heap k x->ks.length<=1000 ->
  (∀b h' tk ks' o' es' ep' t',s.toks<=tk->Heap.SameBut a s.heap h'->jY D h' a led ks' o' es' ep' t'->AddR k ks ks'->Q b { s with heap:=h',toks:=tk }) ->
  wpAny (model prog w) A (setAdd a x) Q E s
noncomputable def intD (prog:Program) (w:World):Kd prog w where
 K:=Int
 dec:=inferInstance
 is:=fun _ k v=>∃tk,v=.int k tk
 hash:=hashInt
 keeps:=fun h _ _ _=>h
section
variable {prog:Program} {w:World}
theorem vm {h:Heap} {ks:List (intD prog w).K} {es:List (Int×Value)} (e:nU (intD prog w) h ks es):ElemsOf (intKind prog w) es:=by
 intro q hq;obtain⟨i,hi,e1⟩:=List.getElem_of_mem hq;obtain⟨k,_,⟨tk,e2⟩,e3⟩:=e.get (i:=i) (q:=q) (by rw[List.getElem?_eq_getElem hi,e1])
 exact⟨⟨k,by rw[e2]; exact intKind_is _ _ _ _,e3⟩,by rw[e2]; rfl⟩
theorem add_int (A:Around):Adds (intD prog w) A:=by
 intro E s a led ks o es ep t k x Q S hx hb h;obtain⟨tk,rfl⟩:=hx;unfold setAdd;refine wpAny_holding ?_;refine wpAny_bind ((intKind prog w).pyHash (k:=k) (intKind_is _ _ _ _) ?_);have S':jY (intD prog w) ({ s with toks:=s.toks+1 }:Shared).heap a led ks o es ep t:=S
 have hel:=vm S.els;have hsz:=S.size;have hsb:es.size<scanBound:=by unfold scanBound; lia
 unfold setAddHashed setAddHashedIn;refine wpAny_holding (wpAny_bind (wpAny_setState_of S.ho S.hd S.inv.fits ?_));dsimp only;rw[byScan_of (knd:=intKind prog w) rfl hsb hel];simp only[↓reduceIte];unfold setAddByScan;refine wpAny_bind ?_;refine wpAny_bind (wpAny_rule ?_);refine wpAny_bind (wpAny_setScan_of (knd:=intKind prog w) (k:=k) (intKind_is _ _ _ _) S.ho S.hd S.inv.fits hel ?_);cases hr:List.findIdx? (fun e=>(intKind prog w).is k e.2) es.toList with
 | some j =>
  dsimp only;obtain⟨hj,hpj,_⟩:=List.findIdx?_eq_some_iff_getElem.mp hr;have hmem:k∈ks:=by
   obtain⟨k',e1,⟨t',e2⟩,_⟩:=S.els.get (i:=j) (List.getElem?_eq_getElem hj);have:k=k':=by
    rw[e2] at hpj;exact (intKind prog w).inj _ _ _ hpj (intKind_is _ _ _ _)
   subst this;exact List.mem_of_getElem? e1
  exact wpAny_pure (wpAny_pure (h _ s.heap _ ks o es ep t (Nat.le_succ _) (Heap.SameBut.refl a s.heap) S (.inl ⟨hmem,rfl⟩)))
 | none =>
  dsimp only;have hmem:k∉ks:=fun hm=>by
   obtain⟨i,hi,e⟩:=List.getElem_of_mem hm;obtain⟨x,e1,⟨t',e2⟩⟩:=S.els.get' (i:=i) (by rw[List.getElem?_eq_getElem hi,e])
   have:=List.findIdx?_eq_none_iff.mp hr _ (List.mem_of_getElem? e1);rw[e2] at this;rw[show (intKind prog w).is k (Value.int k t')=true from intKind_is _ _ _ _] at this
   cases this
  obtain⟨es1,t1,e1,M1,l1,p1⟩:=S.inv.layNew (hashInt k) (.int k tk);have e1:layNew t es ((intKind prog w).hash k) (.int k tk)=(es1,t1,false,false):=e1;rw[e1];dsimp only;refine wpAny_bind (show wpAny _ _ (pure ()) _ _ _ from wpAny_pure ?_)
  rw[M1.plain];simp only[↓reduceIte];refine wpAny_bind ?_;rw[hashByValue_scannable 8 rfl];refine wpAny_pure ?_;simp only[plainKind,↓reduceIte,Bool.not_false,Bool.true_and];refine wpAny_bind (nV (A:=A) (E:=E) (D:=intD prog w) (s:={ s with toks:=s.toks+1 }) S' hmem ⟨tk,rfl⟩ M1 (l1.trans S.led) p1 hb fun h1 g1 f1 f2 => ?_)
  have fin:∀h',Fin (intD prog w) s.heap a led ks k h'->Q true { s with heap:=h',toks:=s.toks+1 }:=fun h' ⟨ks',o',es',ep',t',sb,K',pm⟩=>h _ h' _ ks' o' es' ep' t' (Nat.le_succ _) sb K' (.inr ⟨hmem,pm⟩)
  by_cases hf:t1.tooFull=true
  ·rw[if_pos hf]
   have hsz1:es1.size=ks.length+1:=by rw[<-Array.length_toList,p1.length_eq,List.length_cons,Array.length_toList,S.size]
   obtain⟨es2,t2,e2,I2,l2,p2⟩:=M1.relayAll (by lia)
   rw[e2];dsimp only;refine wpAny_bind (show wpAny _ _ (pure ()) _ _ _ from wpAny_pure ?_)
   have hsz2:es2.size=ks.length+1:=by rw[<-Array.length_toList,p2.length_eq,Array.length_toList,hsz1]
   refine wpAny_bind (wpAny_storeSet_of g1 rfl ?_ (by rw[sizeLine_eq]; lia))
   exact wpAny_pure (wpAny_pure (fin _ (f2 es2 t2 I2 (l2.trans (l1.trans S.led)) p2)))
  ·rw[if_neg hf]
   exact wpAny_pure (wpAny_pure (fin _ (f1 (by simpa using hf))))
end
abbrev vn (prog:Program) (w:World) (L:List Int->Value->Prop):Kd prog w where
 K:=List Int
 dec:=inferInstance
 is:=fun h k v=>L k v/\∃a,v=.ref a/\IsTupleKey (intKind prog w) h k a
 hash:=tupleKeyHash (intKind prog w)
 keeps:=fun {h h' k v a o es ep t} ⟨hL,b,e,o',items,n,ho',hc,hd',hi⟩ ho hd hs=>by
  have hne:b≠a:=by
   rintro rfl;obtain rfl:o'=o:=Option.some.inj (ho'.symm.trans ho);rw[hd] at hd'; exact nomatch hd'
  exact⟨hL,b,e,o',items,n,(hs.2 b hne).trans ho',hc,hd',hi⟩
section
variable {prog:Program} {w:World} {A:Around} {E:Value->Shared->Prop} {s:Shared}
theorem jZ {k:List Int} {b:Addr} {Q:Bool->Shared->Prop} (hk:IsTupleKey (intKind prog w) s.heap k b) (h:Q true s):wpAny (model prog w) A (hashByValue 8 (.ref b)) Q E s:=by
 have hT:=hk.typeIs;obtain⟨o,items,n,ho,_,hd,hi⟩:=hk;unfold hashByValue;refine wpAny_bind (wpAny_specialOf hT F.slot_tuple_hash.lookup ?_);dsimp only;refine wpAny_bind (wpAny_seqItems ho hd ?_);refine wpAny_bind ?_;show wpAny _ _ (forIn items _ _) _ _ s;rw[<-Array.forIn_toList];refine wpAny_forIn_list _ (fun rest r s'=>r.1=none/\s'=s/\∃left,ItemsAre (intKind prog w) left rest) _ ?_ ?_ _ _ ⟨rfl,rfl,_,hi⟩
 ·rintro v rest r s' ⟨hr,rfl,left,hl⟩
  cases hl with
  | cons h1 hl' =>
   obtain⟨tk,rfl⟩:=Value.isInt_shape h1;refine wpAny_bind (show wpAny _ _ (pure true) _ _ _ from wpAny_pure ?_)
   simp only[Bool.not_true,Bool.false_eq_true,if_false];exact wpAny_pure ⟨rfl,rfl,_,hl'⟩
 ·rintro⟨r1,r2⟩ s' ⟨hr,rfl,_⟩
  simp only at hr;subst hr;exact wpAny_pure h
theorem jT {k:List Int} {b:Addr} {Q:Bool->Shared->Prop} (hk:IsTupleKey (intKind prog w) s.heap k b) (h:Q false s):wpAny (model prog w) A (ofAClassStatement 8 (.ref b)) Q E s:=by
 have hT:=hk.typeIs;obtain⟨o,items,n,ho,_,hd,hi⟩:=hk;unfold ofAClassStatement;refine wpAny_bind (wpAny_typeOf hT ?_);dsimp only;rw[if_pos (by rfl)]
 refine wpAny_bind (wpAny_pure ?_);simp only[Bool.not_true,Bool.false_eq_true,if_false];refine wpAny_bind (wpAny_seqItems ho hd ?_);dsimp only;refine wpAny_bind ?_;show wpAny _ _ (forIn items _ _) _ _ s;rw[<-Array.forIn_toList];refine wpAny_forIn_list _ (fun rest r s'=>r.1=none/\s'=s/\∃left,ItemsAre (intKind prog w) left rest) _ ?_ ?_ _ _ ⟨rfl,rfl,_,hi⟩
 ·rintro v rest r s' ⟨hr,rfl,left,hl⟩
  cases hl with
  | cons h1 hl' =>
   obtain⟨tk,rfl⟩:=Value.isInt_shape h1;refine wpAny_bind (show wpAny _ _ (pure false) _ _ _ from wpAny_pure ?_)
   simp only[Bool.false_eq_true,if_false];exact wpAny_pure ⟨rfl,rfl,_,hl'⟩
 ·rintro⟨r1,r2⟩ s' ⟨hr,rfl,_⟩
  simp only at hr;subst hr;exact wpAny_pure h
theorem xZ {k:List Int} {b:Addr} {Q:Bool->Shared->Prop} (hk:IsTupleKey (intKind prog w) s.heap k b) (ys:List Value) (hy:∀y∈ys,∃k' b',y=.ref b'/\IsTupleKey (intKind prog w) s.heap k' b') (h:Q false s):wpAny (model prog w) A (searchCouldBeSeen (.ref b) ys) Q E s:=by
 unfold searchCouldBeSeen;refine wpAny_bind ?_;refine wpAny_forIn_list _ (fun rest r s'=>r.1=none/\s'=s/\∀y∈rest,∃k' b',y=.ref b'/\IsTupleKey (intKind prog w) s.heap k' b') _ ?_ ?_ _ _ ⟨rfl,rfl,hy⟩
 ·rintro v rest r s' ⟨hr,rfl,hl⟩
  obtain⟨k',b',rfl,hk'⟩:=hl v lS;have hl':∀y∈rest,∃k' b',y=.ref b'/\IsTupleKey (intKind prog w) s'.heap k' b':=fun y hy=>hl y (lO _ hy)
  dsimp only
  split
  ·exact wpAny_pure ⟨rfl,rfl,hl'⟩
  ·refine wpAny_bind (wpAny_eqIsQuiet_tuple hk ?_)
   simp only[Bool.not_true,Bool.false_eq_true,if_false];refine wpAny_bind (wpAny_eqIsQuiet_tuple hk' ?_);simp only[Bool.not_true,Bool.false_eq_true,if_false];refine wpAny_bind (jT hk ?_);simp only[Bool.false_eq_true,if_false];refine wpAny_bind (jT hk' ?_);simp only[Bool.false_eq_true,if_false];exact wpAny_pure ⟨rfl,rfl,hl'⟩
 ·rintro⟨r1,r2⟩ s' ⟨hr,rfl,_⟩
  simp only at hr;subst hr;exact wpAny_pure h
theorem sJ {a:Addr} {led:Bool} {L:List Int->Value->Prop} {ks:List (vn prog w L).K} {o:Obj} {es:Array (Int×Value)} {ep:Nat} {t:SetTable} (S:jY (vn prog w L) s.heap a led ks o es ep t) (hu:A.units<cLine) {k:List Int} {b:Addr} (hk:IsTupleKey (intKind prog w) s.heap k b) {Q:SetFound->Shared->Prop} :
  ∀ (m f:Nat) (p:Probe) (st:Option Probe),m<f->m<10*turns t.mask->st.getD (t.probeStart (tupleKeyHash (intKind prog w) k))=p->p.dummy=none->¬Tk t (it t.mask m p).j->(∀k',k'<m->Tk t (it t.mask k' p).j) ->
  (k∈ks->Q (.there none) s)->((∀k',k'<m->∀i:Nat,t.place[i]? = some (it t.mask k' p).j->ks[i]?≠some k)->Q (.free (it t.mask m p).j false) s) ->
  wpAny (model prog w) A (setSearchFrom a (.ref b) (tupleKeyHash (intKind prog w) k) true f st) Q E s:=by
 intro m
 induction m using Nat.strongRecOn with
 | ind m ih =>
  intro f p st hmf hmt hst hpd hn ht hthere hfree;obtain⟨f,rfl⟩:∃g,f=g+1:=⟨f-1,by lia⟩
  unfold setSearchFrom;refine wpAny_bind (wpAny_setState_of S.ho S.hd S.inv.fits ?_);dsimp only;have hgw:t.gaveWay=false:=by
   obtain⟨c,hc⟩:=S.inv.pow;have h7:=S.inv.ge;unfold SetTable.gaveWay;cases c with
   | zero=>rw[Nat.pow_zero] at hc; lia
   | succ c =>
    rw[Nat.pow_succ] at hc;have:t.mask % 2=1:=by lia
    rw[this]; rfl
  rw[hgw];simp only[Bool.false_eq_true,if_false];rw[hst,qN];have nh:∀ {i:Nat},((es[i]?.map (·.1)).getD 0)≠tupleKeyHash (intKind prog w) k->ks[i]?≠some k:=fun {i} hne e=>by
   obtain⟨x,e1,_⟩:=S.els.get' e;rw[Array.getElem?_toList] at e1;rw[e1] at hne;exact hne rfl
  generalize hr:probe.go t _ (tupleKeyHash (intKind prog w) k) (10*turns t.mask) p=r;have hr:probe.go t (fun i=>(es[i]?.map (·.1)).getD 0) (tupleKeyHash (intKind prog w) k) (10*turns t.mask) p=r:=hr
  rcases lV S.inv.rise S.inv.dum (fun i=>(es[i]?.map (·.1)).getD 0) (tupleKeyHash (intKind prog w) k) (10*turns t.mask) p m hmt hpd hn ht with⟨e,hno⟩ | ⟨k1,i,hk1,hi,hh,e,hno⟩
  ·rw[e] at hr
   subst hr;exact wpAny_pure (hfree fun k' hk' i hi=>nh (hno k' hk' i hi))
  ·rw[e] at hr
   subst hr;have hio:i<es.size:=by rw[<-S.inv.size]; exact (Array.getElem?_eq_some_iff.mp hi).1
   obtain⟨y,hy⟩:∃y,es[i]? = some y:=⟨es[i],by simp[hio]⟩
   obtain⟨ki,hki,⟨_,bi,ebi,hti⟩,_⟩:=S.els.get (i:=i) (q:=y) (by rw[Array.getElem?_toList]; exact hy)
   obtain⟨yh,yv⟩:=y;have ebi:yv=.ref bi:=ebi;subst ebi;dsimp only;have hsm:t.sameMemory t.moves t.mask=some true:=by unfold SetTable.sameMemory; simp
   have hsplit:m=k1+1+(m-(k1+1)):=by lia
   have recu:ki≠k->wpAny (model prog w) A (setSearchFrom a (.ref b) (tupleKeyHash (intKind prog w) k) true f (some (it t.mask (k1+1) p))) Q E s:=fun hq=>by
    refine ih (m-(k1+1)) (by lia) f (it t.mask (k1+1) p) _ (by lia) (by lia) rfl (qO _ _ _ hpd) ?_ (fun k' hk' => ?_) hthere fun hfr => ?_
    ·rw[<-eB,<-hsplit]; exact hn
    ·rw[<-eB]; exact ht _ (by lia)
    ·have:=hfree fun k' hk' i' hi' => ?_
     ·rw[hsplit,eB] at this; exact this
     ·rcases Nat.lt_trichotomy k' k1 with q | q | q
      ·exact nh (hno k' q i' hi')
      ·subst q
       have:i'=i:=by
        have a1:=fQ S.inv.rise hi';have a2:=fQ S.inv.rise hi;rw[a1] at a2
        injection a2
       subst this;rw[hki];intro z;exact hq (Option.some.inj z)
      ·have:=hfr (k'-(k1+1)) (by lia) i' (by rw[<-eB,show k1+1+(k'-(k1+1))=k' by lia]; exact hi')
       exact this
   have seen:∀ {Q':Bool->Shared->Prop},Q' false s->wpAny (model prog w) A (searchCouldBeSeen (.ref b) ((es.filter (·.1 == tupleKeyHash (intKind prog w) k)).toList.map (·.2))) Q' E s:=fun hQ'=>xZ hk _ (fun y hyy=>by
     obtain⟨q,hq,rfl⟩:=List.mem_map.mp hyy;have hq:=(Array.mem_filter.mp (Array.mem_toList_iff.mp hq)).1;obtain⟨j,hj,e⟩:=List.getElem_of_mem (Array.mem_toList_iff.mpr hq);obtain⟨kj,_,⟨_,bj,ebj,htj⟩,_⟩:=S.els.get (i:=j) (q:=q) (by rw[List.getElem?_eq_getElem hj,e])
     exact⟨kj,bj,ebj,htj⟩) hQ'
   cases hled:t.led
   ·simp only[Bool.not_false,if_true]
    refine wpAny_bind (seen ?_);simp only[Bool.false_eq_true,if_false];rw[hy];dsimp only;refine wpAny_bind (wpAny_holding (wpAny_eqBool_tuple hu hti hk ?_));refine wpAny_bind (wpAny_setState_of S.ho S.hd S.inv.fits ?_);dsimp only
    by_cases hq:ki=k
    ·rw[decide_eq_true hq]
     simp only[Bool.and_self,if_true];exact wpAny_pure (hthere (hq▸List.mem_of_getElem? hki))
    ·rw[decide_eq_false hq]
     simp only[Bool.and_false,Bool.false_eq_true,if_false];rw[hsm];dsimp only;rw[if_pos rfl,fQ S.inv.rise hi];dsimp only;rw[hy];dsimp only;refine wpAny_bind (wpAny_isSame_ref_self (wpAny_bind (wpAny_pure ?_)));exact recu hq
   ·simp only[Bool.not_true,Bool.false_eq_true,if_false]
    rw[hy];dsimp only;refine wpAny_bind (wpAny_holding (wpAny_eqBool_tuple hu hti hk ?_));refine wpAny_bind (wpAny_setState_of S.ho S.hd S.inv.fits ?_);dsimp only
    by_cases hq:ki=k
    ·rw[decide_eq_true hq]
     simp only[Bool.and_self,if_true];exact wpAny_pure (hthere (hq▸List.mem_of_getElem? hki))
    ·rw[decide_eq_false hq]
     simp only[Bool.and_false,Bool.false_eq_true,if_false];rw[hsm];dsimp only;rw[if_pos rfl,fQ S.inv.rise hi];dsimp only;rw[hy];dsimp only;refine wpAny_bind (wpAny_isSame_ref_self (wpAny_bind (wpAny_pure ?_)));exact recu hq
end
section
variable {prog:Program} {w:World} {A:Around} {E:Value->Shared->Prop} {s:Shared}
theorem jY.toks {D:Kd prog w} {a:Addr} {led:Bool} {ks:List D.K} {o:Obj} {es:Array (Int×Value)} {ep:Nat} {t:SetTable} (S:jY D s.heap a led ks o es ep t) (n:Nat):jY D ({ s with toks:=n }:Shared).heap a led ks o es ep t:=S
theorem ua {L:List Int->Value->Prop} (hu:A.units<cLine):Adds (vn prog w L) A:=by
 intro E s a led ks o es ep t k x Q S hx hb h;obtain⟨hL,b,rfl,hk⟩:=hx;unfold setAdd;refine wpAny_holding ?_;refine wpAny_bind (wpAny_pyHash_tuple hu hk ?_);have S':=S.toks (s.toks+(k.length+1));have hk':IsTupleKey (intKind prog w) ({ s with toks:=s.toks+(k.length+1) }:Shared).heap k b:=hk
 have htk:s.toks<=s.toks+(k.length+1):=Nat.le_add_right _ _;have hsz:=S.size;unfold setAddHashed setAddHashedIn;refine wpAny_holding (wpAny_bind (wpAny_setState_of S.ho S.hd S.inv.fits ?_));dsimp only;rw[show byScan (.ref b) es=false from rfl]
 simp only[Bool.false_eq_true,if_false];obtain⟨m,hm,hn,hle,ht⟩:=S.inv.first (tupleKeyHash (intKind prog w) k);have hmask:=S.inv.le;refine wpAny_bind (sJ (s:={ s with toks:=s.toks+(k.length+1) }) S' hu hk' m 100000 (start t.mask (tupleKeyHash (intKind prog w) k)) none (by lia) (by unfold turns; lia) rfl rfl hn ht (fun hmem => ?_) fun hno => ?_)
 ·exact wpAny_pure (h _ s.heap _ ks o es ep t htk (Heap.SameBut.refl a s.heap) S (.inl ⟨hmem,rfl⟩))
 ·dsimp only
  have hmem:k∉ks:=fun hmk=>by
   obtain⟨i,hi,e⟩:=List.getElem_of_mem hmk;have hki:ks[i]? = some k:=by rw[List.getElem?_eq_getElem hi,e]
   obtain⟨x,e1,_⟩:=S.els.get' hki;have hio:i<t.place.size:=by rw[S.inv.size,hsz]; exact hi
   have hpl:t.place[i]? = some t.place[i]:=by simp[hio]
   have hz:(t.place[i],((tupleKeyHash (intKind prog w) k,x):Int×Value))∈t.place.toList.zip es.toList:=by
    refine List.mem_of_getElem? (i:=i) ?_;rw[List.getElem?_zip_eq_some];exact⟨by rw[Array.getElem?_toList]; exact hpl,e1⟩
   obtain⟨m',e2,e3⟩:=S.inv.way _ hz;have e2:(it t.mask m' (start t.mask (tupleKeyHash (intKind prog w) k))).j=t.place[i]:=e2;have hlt:m'<m:=by
    rcases Nat.lt_trichotomy m' m with q | q | q
    ·exact q
    ·subst q; exact absurd (Av (by rw[e2]; exact hpl)) hn
    ·exact absurd (e3 m q) hn
   exact hno m' hlt i (by rw[e2]; exact hpl) hki
  obtain⟨M1,l1⟩:=S.inv.put (.ref b) hn hle ⟨m,rfl,ht⟩;refine wpAny_bind (wpAny_setState_of S.ho S.hd S.inv.fits ?_);dsimp only;have p1:(insertAt es (t.put (it t.mask m (start t.mask (tupleKeyHash (intKind prog w) k))).j).2 (tupleKeyHash (intKind prog w) k,.ref b)).toList.Perm ((tupleKeyHash (intKind prog w) k,.ref b)::es.toList):=by
   refine (SetTable.insertAt_perm es _ _).trans ?_;rw[Array.toList_push];exact List.perm_append_singleton _ _
  generalize t.put (it t.mask m (start t.mask (tupleKeyHash (intKind prog w) k))).j=pt at M1 l1 p1 ⊢;obtain⟨t1,p⟩:=pt;dsimp only at M1 l1 p1 ⊢;generalize insertAt es p (tupleKeyHash (intKind prog w) k,Value.ref b)=es1 at M1 p1 ⊢;rw[M1.plain];simp only[if_true];refine wpAny_bind (jZ hk' ?_);simp only[if_true];refine wpAny_bind (nV (D:=vn prog w L) (k:=k) (x:=.ref b) (s:={ s with toks:=s.toks+(k.length+1) }) S' hmem ⟨hL,b,rfl,hk'⟩ M1 (l1.trans S.led) p1 hb fun h1 g1 f1 f2 => ?_)
  have fin:∀h',Fin (vn prog w L) s.heap a led ks k h'->Q true { s with heap:=h',toks:=s.toks+(k.length+1) }:=fun h' ⟨ks',o',es',ep',t',sb,K',pm⟩=>h _ h' _ ks' o' es' ep' t' htk sb K' (.inr ⟨hmem,pm⟩)
  simp only[Bool.not_false,Bool.true_and];have hsz1:es1.size=ks.length+1:=by rw[<-Array.length_toList,p1.length_eq,List.length_cons,Array.length_toList,hsz]
  by_cases hf:t1.tooFull=true
  ·rw[if_pos hf]
   unfold setRelay;refine wpAny_bind (wpAny_bind (wpAny_setState_of (s:={ s with heap:=h1,toks:=s.toks+(k.length+1) }) g1 rfl M1.fits ?_))
   dsimp only;have hg:grown (es.size+1)=grown es1.size:=by rw[hsz1,hsz]
   rw[hg];obtain⟨t2,order,e2,hp2,I2,l2⟩:=Aw M1 (by lia)
   have hab:¬sizeAbove (grown es1.size)>sizeLine:=by
    have hgr:grown es1.size=es1.size*4:=by unfold grown; rw[if_neg (by lia)]
    obtain⟨_,_,_,h4⟩:=lU (n:=grown es1.size) (by rw[hgr]; lia)
    rw[sizeLine_eq];rw[hgr] at h4 ⊢;lia
   rw[if_neg hab,e2];have hpp:=nT hp2;have hsz2:(order.filterMap (es1[·]?)).size=es1.size:=by rw[<-Array.length_toList,hpp.length_eq,Array.length_toList]
   refine wpAny_bind (show wpAny _ _ (do
     if (order.filterMap (es1[·]?)).size != es1.size then unsupported "internal:set-table-lost-an-element"
     pure (order.filterMap (es1[·]?),t2)) _ _ _ from ?_)
   rw[hsz2];simp only[bne_self_eq_false,Bool.false_eq_true,if_false];refine wpAny_pure ?_;dsimp only;refine wpAny_storeSet_of (s:={ s with heap:=h1,toks:=s.toks+(k.length+1) }) g1 rfl ?_ (by rw[sizeLine_eq,hsz2]; lia)
   exact wpAny_pure (fin _ (f2 _ t2 I2 (l2.trans (l1.trans S.led)) hpp))
  ·rw[if_neg hf]
   exact wpAny_pure (fin _ (f1 (by simpa using hf)))
end
end ST
end
section
namespace ST
open PySem PySem.SetTable PySem.Spec PySem.W
namespace F
theorem qP:Manifest.owners.lookup (String.ofList ("rotareti_tes".toList).reverse)=some Manifest.sig_set_iterator:=by kernel_rfl
theorem bV:Slot "set_iterator" "__next__" "set_iterator.__next__" :=
 Slot.of (owner := "set_iterator") (n := "__next__") (by rw[typeLookup_type,builtinLookup_eq_fast]; kernel_rfl) (by decide +kernel) (by decide +kernel) (by decide +kernel) (by first | exact .inl (by decide +kernel) | exact .inr (by decide +kernel)) (by rw[isSubtype_type]; kernel_rfl)
theorem jq:Slot "set_iterator" "__iter__" "set_iterator.__iter__" :=
 Slot.of (owner := "set_iterator") (n := "__iter__") (by rw[typeLookup_type,builtinLookup_eq_fast]; kernel_rfl) (by decide +kernel) (by decide +kernel) (by decide +kernel) (by first | exact .inl (by decide +kernel) | exact .inr (by decide +kernel)) (by rw[isSubtype_type]; kernel_rfl)
theorem iz:entryFor table "set_iterator.__next__" = some Builtin.«set_iterator.__next__» := entryFor_of_tree (by kernel_rfl)
theorem jr (a:Value):argsOk "set_iterator.__next__" ⟨[a],[]⟩:=by
 unfold argsOk;rw[signature?_of (id := "set_iterator.__next__") (n := "__txen__".toList) (o := "rotareti_tes".toList) (by kernel_rfl) qP]
 kernel_rfl
theorem pQ (a:Value):argsOk "set_iterator.__iter__" ⟨[a],[]⟩:=by
 unfold argsOk;rw[signature?_of (id := "set_iterator.__iter__") (n := "__reti__".toList) (o := "rotareti_tes".toList) (by kernel_rfl) qP]
 kernel_rfl
theorem nc:entryFor table "set_iterator.__iter__" = some Builtin.«dict_keyiterator.__iter__» :=
 entryFor_alias (id' := "dict_keyiterator.__iter__") (by kernel_rfl) (by first | rfl | decide +kernel | (unfold String.splitOn; simp +decide [String.splitOnAux])) (by decide +kernel) (by kernel_rfl)
theorem lW:entryFor table "set.__iter__" = some Builtin.«frozenset.__iter__» := entryFor_alias (id' := "frozenset.__iter__") (by kernel_rfl) rfl (by decide +kernel) (by kernel_rfl)
end F
noncomputable def iR (w:World):Bool:=w.params.followText "set-order"
theorem lX {α:Type}:∀ {l:List α} {i:Nat} (h:i<l.length),(l[i]::l.eraseIdx i).Perm l
 | x::l,0,_=>.refl _
 | x::l,i+1,h=>(List.Perm.swap _ _ _).trans ((lX (l:=l) (i:=i) (by simpa using h)).cons x)
theorem nW {α:Type} (next:Nat->Nat):∀ (f k:Nat) (left:List α) (out:Array α),left.length=f->(pickOrder.go next f k left out).toList.Perm (out.toList++left)
 | 0,k,left,out,h=>by
  have:left=[]:=List.eq_nil_of_length_eq_zero h;subst this;rw[List.append_nil]; exact .refl _
 | f+1,k,left,out,h=>by
  have hi:next k % left.length<left.length:=Nat.mod_lt _ (by lia)
  unfold pickOrder.go;rw[List.getElem?_eq_getElem hi];dsimp only;refine (nW next f (k+1) _ _ (by rw[List.length_eraseIdx,if_pos hi]; lia)).trans ?_
  rw[Array.toList_push,List.append_assoc];exact List.Perm.append_left _ (lX hi)
noncomputable def eE (w:World) (a:Addr) (ep:Nat) (es:Array (Int×Value)):Array (Int×Value):=if iR w=true then pickOrder (w.params.setOrder a ep) es else es
theorem qQ (w:World) (a:Addr) (ep:Nat) (es:Array (Int×Value)):(eE w a ep es).toList.Perm es.toList:=by
 unfold eE
 split
 ·unfold pickOrder
  have:=nW (w.params.setOrder a ep) es.size 0 es.toList #[] (by simp)
  simpa using this
 ·exact .refl _
theorem jt (w:World) (a:Addr) (ep:Nat) (es:Array (Int×Value)):(eE w a ep es).size=es.size:=by
 rw[<-Array.length_toList,(qQ w a ep es).length_eq,Array.length_toList]
noncomputable def slotAt (w:World) (t:SetTable):Nat->Nat
 | 0=>0
 | i+1=>if iR w=true then 0 else t.place.getD i 0+1
theorem lY (w:World) (t:SetTable) (i:Nat):slotAt w t (i+1)=if iR w=true then 0 else t.place.getD i 0+1:=rfl
section
variable {prog:Program} {w:World} {A:Around} {E:Value->Shared->Prop} {s:Shared} {a:Addr} {o:Obj} {es:Array (Int×Value)} {ep:Nat} {t:SetTable}
theorem lZ (ho:s.heap.get? a=some o) (hd:o.data=.set es ep t) (T:dN t es) (hl:t.led = !iR w) {i:Nat} (hi:i<=es.size) {Q:Option (Value×Nat)->Shared->Prop}
  (h:Q (((eE w a ep es)[i]?).map fun e=>(e.2,slotAt w t (i+1))) s):wpAny (model prog w) A (setNext a (slotAt w t i) i ep) Q E s:=by
 unfold setNext;refine wpAny_bind (wpAny_setState_of ho hd T.fits ?_);dsimp only;unfold setsByText;refine wpAny_bind (wpAny_bind (wpAny_askSetting (wpAny_pure ?_)));show wpAny _ _ (if iR w=true then _ else _) _ _ _
 by_cases hb:iR w=true
 ·rw[if_pos hb]
  simp only[bne_self_eq_false,Bool.false_eq_true,if_false];unfold setWalk;refine wpAny_bind (wpAny_bind (wpAny_setState_of ho hd T.fits ?_));dsimp only;unfold setsByText;refine wpAny_bind (wpAny_bind (wpAny_askSetting (wpAny_pure ?_)));show wpAny _ _ (if iR w=true then _ else _) _ _ _
  rw[if_pos hb];refine wpAny_bind (wpAny_askSetting (wpAny_pure ?_));refine wpAny_pure ?_;have e1:slotAt w t (i+1)=slotAt w t i:=by
   cases i with
   | zero=>rw[lY,if_pos hb]; rfl
   | succ i=>rw[lY,lY,if_pos hb,if_pos hb]
  unfold eE at h;rw[if_pos hb,e1] at h;exact h
 ·rw[if_neg hb]
  have hbf:iR w=false:=by simpa using hb
  rw[hbf] at hl;have hbel:below t.place (slotAt w t i)=i:=by
   cases i with
   | zero=>exact sH T.rise
   | succ i =>
    rw[lY,if_neg hb];have hlt:i<t.place.size:=by rw[T.size]; lia
    exact sG T.rise (by simp[Array.getD,hlt])
  show wpAny _ _ (if (!t.plain && decide (es.size>1))=true then _ else _) _ _ _
  rw[T.plain,if_neg (by simp)]
  refine wpAny_bind (show wpAny _ _ (if (!t.led && !es.isEmpty)=true then unsupported "set:maker-not-led" else pure ()) _ _ _ from ?_)
  rw[hl,if_neg (by simp)]
  refine wpAny_pure (wpAny_pure ?_);rw[hbel];unfold eE at h;rw[if_neg hb,lY,if_neg hb] at h
  by_cases hlt:i<es.size
  ·have hlt':i<t.place.size:=by rw[T.size]; exact hlt
   have e1:es[i]? = some es[i]:=by simp[hlt]
   have e2:t.place[i]? = some t.place[i]:=by simp[hlt']
   have e3:t.place.getD i 0=t.place[i]:=by simp[Array.getD,hlt']
   rw[e1,e3] at h;rw[e1,e2];exact h
  ·have e1:es[i]? = none:=by simp; lia
   rw[e1] at h;rw[e1];exact h
noncomputable abbrev CY (sl i n ep:Nat) (a:Addr):Obj:={ cls:=.type "set_iterator",data:=.fields #[rawInt sl,rawInt i,.ref a,rawInt n,rawInt ep] }
theorem sL (ho:s.heap.get? a=some o) (hex:o.ExactSet) (hd:o.data=.set es ep t) (T:dN t es) {Q:Value->Shared->Prop} (h:Q (.ref s.heap.objs.size) { s with heap:=s.heap.push (CY 0 0 es.size ep a) }) :
  wpAny (model prog w) A (pyIter (.ref a)) Q E s:=by
 have hT:s.TypeIs (.ref a) "set" := ⟨o,ho,hex.1⟩;refine wpAny_pyIter_slot hT PySem.F.slot_set_iter (wpAny_call_entry PySem.F.slot_set_iter hT F.lW ?_ (PySem.F.args_set_iter_1 _));unfold Builtin.«frozenset.__iter__» Builtin.Frozenset.slot0 slotArgs Builtin.Frozenset.sizeOf;simp only[List.isEmpty_nil,Bool.not_true,Bool.false_eq_true,↓reduceIte,bind_assoc,List.length_nil,bne_self_eq_false];refine wpAny_bind (wpAny_pure ?_);refine wpAny_bind (show wpAny _ _ (pure a) _ _ _ from wpAny_pure ?_)
 refine wpAny_bind (wpAny_setEntries_of ho hd T.fits ?_);refine wpAny_bind (wpAny_pure ?_);refine wpAny_bind ?_;unfold setDrawn setsByText;refine wpAny_bind (wpAny_setState_of ho hd T.fits ?_);dsimp only;refine wpAny_bind (wpAny_bind (wpAny_askSetting (wpAny_pure ?_)));refine wpAny_pure ?_;show wpAny _ _ (if (!iR w && (!t.plain && decide (es.size>1)))=true then _ else _) _ _ _
 rw[T.plain,if_neg (by simp)]
 refine wpAny_bind (wpAny_pure ?_);refine wpAny_bind (wpAny_setEpoch_of ho hd T.fits ?_);refine wpAny_bind (wpAny_newObj_type (wpAny_pure ⟨_,rfl, "set_iterator",_,⟨_,Heap.get?_push_size _ rfl,rfl⟩,F.bV.lookup,?_⟩));exact h
theorem zW {I:Addr} {i:Nat} (hI:s.heap.get? I=some (CY (slotAt w t i) i es.size ep a)) (ho:s.heap.get? a=some o) (hd:o.data=.set es ep t) (T:dN t es) (hl:t.led = !iR w) {v:Value} (hv:((eE w a ep es)[i]?).map (·.2)=some v)
  {Q:Option Value->Shared->Prop} (h:∀h',h'.get? I=some (CY (slotAt w t (i+1)) (i+1) es.size ep a)->Heap.SameBut I s.heap h'->Q (some v) { s with heap:=h' }):wpAny (model prog w) A (pyNext (.ref I)) Q E s:=by
 have hT:s.TypeIs (.ref I) "set_iterator" := ⟨_,hI,rfl⟩;obtain⟨e,he,rfl⟩:=Option.map_eq_some_iff.mp hv;have hlt:i<es.size:=by rw[<-jt w a ep es]; exact (Array.getElem?_eq_some_iff.mp he).1
 unfold pyNext;refine wpAny_bind (wpAny_attempt (wpAny_callSpecial?_slot (name:=Str.ofString "__next__") hT F.bV (wpAny_call_entry F.bV hT F.iz ?_ (F.jr _))));unfold Builtin.«set_iterator.__next__» slotArgs;simp only[List.isEmpty_nil,Bool.not_true,Bool.false_eq_true,↓reduceIte,List.length_nil,bne_self_eq_false];refine wpAny_bind (wpAny_pure ?_);refine wpAny_bind (wpAny_fieldsOf hI rfl ?_);show wpAny _ _ (setEntries a >>= _) _ _ _;refine wpAny_bind (wpAny_setEntries_of ho hd T.fits ?_);rw[if_neg (by simp)]
 show wpAny _ _ (setNext a ((slotAt w t i:Int)).toNat ((i:Int)).toNat ((ep:Int)).toNat >>= _) _ _ _;simp only[Int.toNat_natCast];refine wpAny_bind (lZ ho hd T hl (Nat.le_of_lt hlt) ?_);rw[he];show wpAny _ _ (setField (.ref I) 0 (rawInt (slotAt w t (i+1))) >>= _) _ _ _;refine wpAny_bind (wpAny_setField_rec hI (by simp) fun h1 g1 s1 => ?_)
 refine wpAny_bind (wpAny_setField_rec g1 (by simp) fun h2 g2 s2 => ?_)
 refine wpAny_pure ⟨e.2,rfl,wpAny_pure (h h2 ?_ (s1.trans s2))⟩;rw[g2];rfl
theorem next_end (hh:A.handled=none) {I:Addr} (hI:s.heap.get? I=some (CY (slotAt w t es.size) es.size es.size ep a)) (ho:s.heap.get? a=some o) (hd:o.data=.set es ep t) (T:dN t es) (hl:t.led = !iR w)
  {Q:Option Value->Shared->Prop} (h:∀h',Heap.ExtBut I s.heap h'->Q none { s with heap:=h' }):wpAny (model prog w) A (pyNext (.ref I)) Q E s:=by
 have hT:s.TypeIs (.ref I) "set_iterator" := ⟨_,hI,rfl⟩;have he:(eE w a ep es)[es.size]? = none:=by rw[<-jt w a ep es]; simp
 unfold pyNext;refine wpAny_bind (wpAny_attempt (wpAny_callSpecial?_slot (name:=Str.ofString "__next__") hT F.bV (wpAny_call_entry F.bV hT F.iz ?_ (F.jr _))));unfold Builtin.«set_iterator.__next__» slotArgs;simp only[List.isEmpty_nil,Bool.not_true,Bool.false_eq_true,↓reduceIte,List.length_nil,bne_self_eq_false];refine wpAny_bind (wpAny_pure ?_);refine wpAny_bind (wpAny_fieldsOf hI rfl ?_);show wpAny _ _ (setEntries a >>= _) _ _ _;refine wpAny_bind (wpAny_setEntries_of ho hd T.fits ?_);rw[if_neg (by simp)]
 show wpAny _ _ (setNext a ((slotAt w t es.size:Int)).toNat ((es.size:Int)).toNat ((ep:Int)).toNat >>= _) _ _ _;simp only[Int.toNat_natCast];refine wpAny_bind (lZ ho hd T hl (Nat.le_refl _) ?_);rw[he];show wpAny _ _ (setField (.ref I) 2 .none >>= _) _ _ _;refine wpAny_bind (wpAny_setField_rec hI (by simp) fun h1 g1 s1 => ?_)
 refine wpAny_bind (show wpAny _ _ (newExc (.type "StopIteration") []) _ _ _ from ?_)
 simp only[newExc,newTuple];refine wpAny_bind (wpAny_newObj_type ?_ (by size_fits))
 refine wpAny_bind (m:=firstArgMember _ _) (wpAny_of_eq (a:=Value.none) (by first | rfl | (simp only[firstArgMember]; rfl)) ?_)
 refine wpAny_newObj_type ?_ (by size_fits)
 simp only[raiseNew];refine wpAny_bind (wpAny_handled ?_)
 first | rw[show A.in1.handled=none from hh] | rw[hh]
 refine wpAny_bind (wpAny_pure (wpAny_throw ?_));refine wpAny_bind (wpAny_isInstance (T := "StopIteration") (b:=true) ⟨_,Heap.get?_push_size _ rfl,rfl⟩ isSubtype_stop ?_);exact wpAny_pure (h _ ((s1.extBut.push _).push _))
theorem x9 (hh:A.handled=none) (I:Addr) (hne:a≠I) (hd:o.data=.set es ep t) (T:dN t es) (hl:t.led = !iR w) :
  Walks prog w A I [I,a] [I] es.size (fun i v=>((eE w a ep es)[i]?).map (·.2)=some v) (fun i h=>h.get? I=some (CY (slotAt w t i) i es.size ep a)/\h.get? a=some o) where
 sub:=fun b hb=>by simp at hb; simp[hb]
 frame:=fun _ _ _ st hk=>⟨hk I (by simp) _ st.1,hk a (by simp) _ st.2⟩
 item:=fun i s Q E hi st hQ=>by
  have hi':i<(eE w a ep es).size:=by rw[jt]; exact hi
  refine zW (v:=(eE w a ep es)[i].2) st.1 st.2 hd T hl (by simp[hi']) fun h' g' sb => ?_
  exact hQ _ h' s.toks (by simp[hi']) ⟨g',sb.extBut a o hne st.2⟩ fun b o hb e=>sb.extBut b o (fun z=>hb (by simp[z])) e
 done:=fun s Q E st hQ=>next_end hh st.1 st.2 hd T hl fun h' he'=>hQ h' s.toks fun b o hb e=>he' b o (fun z=>hb (by simp[z])) e
 self:=fun i s Q E st hQ=>by
  have hT:s.TypeIs (.ref I) "set_iterator" := ⟨_,st.1,rfl⟩;refine wpAny_pyIter_slot hT F.jq (wpAny_call_entry F.jq hT F.nc (show wpAny _ _ (ret (.ref I)) _ _ s from ?_) (F.pQ _))
  exact wpAny_pure ⟨_,rfl, "set_iterator",_,hT,F.bV.lookup,hQ⟩
theorem ya {r:Addr} {Q:Bool->Shared->Prop} (hT:s.TypeIs (.ref r) "set") (h:Q false s):wpAny (model prog w) A (Builtin.List.listLengthHint (.ref r)) Q E s:=by
 unfold Builtin.List.listLengthHint;refine wpAny_bind (wpAny_specialOf hT PySem.F.slot_set_len.lookup ?_);generalize hid:("set.__len__" : String)=id0
 wp_delta
 rw[show splitId id0=some ("set", "__len__") from by subst hid; decide +kernel]
 subst hid;refine wpAny_bind (wpAny_isInstance (T := "set") (b:=true) hT (by rw[isSubtype_type]; kernel_rfl) ?_)
 refine wpAny_ite_split (fun hab=>absurd hab (by decide)) (fun _ => ?_)
 refine wpAny_ite_split (fun _ => ?_) (fun hab=>absurd (by decide +kernel) hab)
 exact wpAny_bind (wpAny_typeOf hT (wpAny_pure h))
theorem zX (hex:o.ExactSet) (hd:o.data=.set es ep t) (T:dN t es) (hl:t.led = !iR w):KdlSrc prog w "set" a a es.size (fun i v=>((eE w a ep es)[i]?).map (·.2)=some v) (fun h=>h.get? a=some o) where
 type:=fun _ ho=>⟨o,ho,hex.1⟩
 there:=fun _ ho=>⟨Heap.lt_size ho,Heap.lt_size ho⟩
 keep:=fun _ _ ho hk=>hk a (.inl rfl) _ ho
 notList:=by decide
 notTuple:=by decide
 hint:=fun _ _ _ _ ho hq=>ya ⟨o,ho,hex.1⟩ hq
 iter:=fun A s hh ho=>⟨_,_,(fun _ _ hq=>sL ho hex hd T hq),x9 hh _ (Nat.ne_of_lt (Heap.lt_size ho)) hd T hl,⟨Heap.get?_push_size _ rfl,Heap.get?_push_of_some _ ho⟩⟩
end
end ST
end
section
namespace ST
open PySem PySem.SetTable PySem.Spec
noncomputable abbrev gO (led:Bool):Obj:={ cls:=.type "set",dict:=none,data:=.set #[] 0 (.fresh 0 0 led) }
def Sets {prog:Program} {w:World} (D:Kd prog w) (h:Heap) (a:Addr) (M:D.K->Prop) (n:Nat):Prop:=∃ks o es ep t,jY D h a (!iR w) ks o es ep t/\(∀k,k∈ks↔M k)/\ks.length<=n
section
variable {prog:Program} {w:World} {A:Around} {R:Result->Shared->Prop} {I:Addr} {fp wr:List Addr} {G:Array GenState->Array GenState->Prop} {n:Nat} {P:Nat->Value->Prop} {St:Nat->Shared->Prop}
theorem qR {D:Kd prog w} (ad:Adds D A.in1) (W:WalksS prog w A.in1 I fp wr G n P St) (S:Addr) (hS:S∉fp) (val:Nat->D.K) (h0:Heap)
  (hval:∀i v h,P i v->(∀b o,b∉S::wr->h0.get? b=some o->h.get? b=some o)->D.is h (val i) v)
  (hst:∀i h h' k v,(∀b o,b∉S::wr->h0.get? b=some o->h.get? b=some o)->(∀b o,b∉wr->h.get? b=some o->h'.get? b=some o)->k=val i->D.is h k v->D.is h' k v) (hn:n<=1000) :
  ∀ (m i:Nat) (s:Shared),n-i=m->i<=n->St i s->(∀b o,b∉S::wr->h0.get? b=some o->s.heap.get? b=some o)->Sets D s.heap S (fun k=>∃j,j<i/\val j=k) i ->
   (∀s',Moved (S::wr) G s s'->Sets D s'.heap S (fun k=>∃j,j<n/\val j=k) n->R (.ok (.ret .none)) s') ->
   codeAny (model prog w) A (.builtin "set.update.loop" ⟨[.ref S,.ref I],[]⟩) R s:=by
 have hw:S∉wr:=fun z=>hS (W.sub _ z)
 have up:∀b∈wr,b∈S::wr:=fun b z=>lO _ z
 have move:∀ {s s':Shared} {i:Nat},i<=n->(∀b o,b∉S::wr->h0.get? b=some o->s.heap.get? b=some o)->Moved wr G s s'->Sets D s.heap S (fun k=>∃j,j<i/\val j=k) i->Sets D s'.heap S (fun k=>∃j,j<i/\val j=k) i:=fun {s s' i} hi old mv T=>by
  obtain⟨ks,o,es,ep,t,K,mm,l⟩:=T;refine⟨ks,o,es,ep,t,⟨mv.heap S o hw K.ho,K.hex,K.hd,K.inv,K.led,?_,K.nd⟩,mm,l⟩;have:∀ {ks:List D.K} {es:List (Int×Value)},(∀k∈ks,∃j,j<i/\val j=k)->nU D s.heap ks es->nU D s'.heap ks es:=fun {ks es} hm e=>by
   induction e with
   | nil=>exact .nil
   | cons a r ih =>
    obtain⟨j,_,ej⟩:=hm _ lS;exact .cons (hst j _ _ _ _ old mv.heap ej.symm a) (ih fun k hk=>hm k (lO _ hk))
  exact this (fun k hk=>(mm k).mp hk) K.els
 intro m
 induction m with
 | zero =>
  intro i s e1 e2 st old T fin;obtain rfl:i=n:=by lia
  refine codeAny_builtin PyProof.Rows.F.entry_set_update_loop ?_;rw[Around.under_plainId PyProof.Rows.F.plain_set_update_loop _];refine wpAny_bind (show wpAny _ A.in1 (pyNext (.ref I)) _ _ s from W.done s _ _ st fun s' mv => ?_)
  exact wpAny_pure (fin s' (mv.mono up) (move (Nat.le_refl _) old mv T))
 | succ m ih =>
  intro i s e1 e2 st old T fin;have lt:i<n:=by lia
  refine codeAny_builtin PyProof.Rows.F.entry_set_update_loop ?_;rw[Around.under_plainId PyProof.Rows.F.plain_set_update_loop _];refine wpAny_bind (show wpAny _ A.in1 (pyNext (.ref I)) _ _ s from W.item i s _ _ lt st fun v s' hP st' mv => ?_)
  have old':∀b o,b∉S::wr->h0.get? b=some o->s'.heap.get? b=some o:=fun b o hb e=>mv.heap b o (fun z=>hb (up b z)) (old b o hb e)
  obtain⟨ks,o,es,ep,t,K,mm,l⟩:=move e2 old mv T;refine wpAny_bind (show wpAny _ A.in1 (holding [v] (setAdd S v)) _ _ s' from wpAny_holding ?_)
  refine ad K (hval i v _ hP old') (by lia) fun b h' tk ks' o' es' ep' t' htk sb K' ar => ?_
  have hsb:∀b o,b≠S->s'.heap.get? b=some o->h'.get? b=some o:=fun b o hb e=>(sb.2 b hb).trans e
  refine wpAny_pure ⟨plainId_quiet PyProof.Rows.F.plain_set_update_loop _,ih (i+1) _ (by lia) lt (W.frame _ s' _ _ st' htk fun b hb o e=>hsb b o (fun z=>hS (z▸hb)) e) (fun b o hb e=>hsb b o (fun z=>hb (z▸lS)) (old' b o hb e)) ?_ fun s2 mv2 T2 => ?_⟩
  ·refine⟨ks',o',es',ep',t',K',fun k => ?_,?_⟩
   ·have sx:(∃j,j<i+1/\val j=k)↔(∃j,j<i/\val j=k)\/k=val i:=by
     constructor
     ·rintro⟨j,hj,e⟩
      by_cases q:j=i
      ·subst q; exact .inr e.symm
      ·exact .inl ⟨j,by lia,e⟩
     ·rintro (⟨j,hj,e⟩ | e)
      ·exact⟨j,by lia,e⟩
      ·exact⟨i,by lia,e.symm⟩
    show k∈ks'↔∃j,j<i+1/\val j=k;have mk:k∈ks↔∃j,j<i/\val j=k:=mm k;rw[sx,<-mk];rcases ar with⟨a1,rfl⟩ | ⟨a1,a2⟩
    ·exact⟨fun z=>.inl z,fun z=>z.elim id fun e=>e▸a1⟩
    ·rw[a2.mem_iff,List.mem_cons]; exact or_comm
   ·rcases ar with⟨a1,rfl⟩ | ⟨a1,a2⟩
    ·lia
    ·rw[a2.length_eq,List.length_cons]; lia
  ·refine fin s2 (Moved.trans W.gtrans ((mv.mono up).then_heap htk fun b o hb e=>hsb b o (fun z=>hb (z▸lS)) e) mv2) T2
end
section
variable {prog:Program} {w:World} {A:Around} {E:Value->Shared->Prop} {s:Shared}
theorem zY (a:Value) {Q:Value->Shared->Prop} (h:Q (.ref s.heap.objs.size) { s with heap:=s.heap.push (gO (!iR w)) }) :
  codeAny (model prog w) A (.call (.builtin "set.__new__") ⟨[.type "set",a],[]⟩) (wants Q E) s:=by
 refine codeAny_of_tree (show wpAny _ A.in1 (do checkBuiltinCall "set.__new__" ⟨[.type "set",a],[]⟩; again (.builtin "set.__new__" ⟨[.type "set",a],[]⟩)) _ _ s from ?_)
 refine wpAny_bind (wpAny_of_eq (PySem.F.newCall_set_1 a) (wpAny_pure ⟨plainId_quiet PySem.F.plain_set_new _,codeAny_builtin PySem.F.entry_set_new ?_⟩));rw[Around.under_plainId PySem.F.plain_set_new _];unfold Builtin.«set.__new__» Builtin.Frozenset.newClass;have self:=sub_set_self;obtain⟨hp,g,d,tk,os⟩:=s;dsimp only
 wp_walk
 refine wpAny_askSetting (wpAny_pure ?_);simp only[newObj];exact wpAny_bind (wpAny_alloc (wpAny_pure (wpAny_pure h)))
theorem qS {D:Kd prog w} (ad:∀A',A'.units<=A.units+4->Adds D A') {l:Addr} {items:Array Value} {val:Nat->D.K} {Q:Value->Shared->Prop}
  (hh:A.handled=none) (hl:s.heap.IsList l items\/s.heap.IsTuple l items) (hn:items.size<=1000)
  (hval:∀i v h,items[i]? = some v->(∀b o,s.heap.get? b=some o->h.get? b=some o)->D.is h (val i) v)
  (hst:∀i h h' k v I,s.heap.objs.size<=I->(∀b o,s.heap.get? b=some o->h.get? b=some o)->(∀b o,b≠I->h.get? b=some o->h'.get? b=some o)->k=val i->D.is h k v->D.is h' k v)
  (h:∀ (h':Heap) (tk:Nat),s.toks<=tk->Sets D h' s.heap.objs.size (fun k=>∃j,j<items.size/\val j=k) items.size->(∀b o,s.heap.get? b=some o->h'.get? b=some o)->Q (.ref s.heap.objs.size) { s with heap:=h',toks:=tk }) :
  wpAny (model prog w) A (call (.type "set") [.ref l]) Q E s:=by
 obtain⟨c,tl,hmro⟩:=PySem.F.called_set.mro;have hmade:=PySem.F.called_set.made;have hsub:=PySem.F.called_set.sub;refine wpAny_call (codeAny_of_tree (show wpAny _ _ (callAny (.type "set") _) _ _ _ from ?_))
 refine wpAny_pure ⟨Code.quiet_builtin _ (by decide +kernel),codeAny_builtin F.entry_type_call ?_⟩
 rw[Around.under_plain (weight_type_call_type "set" [.ref l] []) rfl];have n1:=PySem.F.called_set.notType;have n2:=PySem.F.called_set.canCreate;have n3:=PySem.F.typeCall_set_1 (.ref l)
 repeat (any_goals (first | assumption | wp_step))
 refine codeAny_mono (zY (.ref l) (E:=E) (Q:=fun obj s₁=>obj=.ref s.heap.objs.size/\s₁={ s with heap:=s.heap.push (gO (!iR w)) }) ⟨rfl,rfl⟩) fun r s₁ hr => ?_
 cases r with
 | error e=>exact hr
 | ok fl =>
  cases fl with
  | ret obj =>
   obtain⟨rfl,rfl⟩:=hr;have hS:(s.heap.push (gO (!iR w))).get? s.heap.objs.size=some (gO (!iR w)):=Heap.get?_push_size _ rfl;have hT:Shared.TypeIs { s with heap:=s.heap.push (gO (!iR w)) } (.ref s.heap.objs.size) "set" := ⟨_,hS,rfl⟩
   have n4:=PySem.F.called_set.init.lookup;have n5:=PySem.F.called_set.init.bind (.ref s.heap.objs.size)
   repeat (any_goals (first | assumption | wp_step))
   refine codeAny_mono (codeAny_call_builtin (R:=wants (fun r s₂=>r=.none/\∃h' tk,s₂={ s with heap:=h',toks:=tk }/\s.toks<=tk /\
     Sets D h' s.heap.objs.size (fun k=>∃j,j<items.size/\val j=k) items.size/\(∀b o,s.heap.get? b=some o->h'.get? b=some o)) E) PySem.F.called_set.init.plain PySem.F.entry_set_init (check_set_init_1 hT ?_)) fun r₂ s₂ hr₂ => ?_
   ·have far:∀ {l:Addr},l<s.heap.objs.size->s.heap.objs.size∉[(s.heap.push (gO (!iR w))).objs.size,l]:=fun lt=>by
     rw[Heap.size_push];simp only[List.mem_cons,List.mem_singleton,List.not_mem_nil,or_false,not_or];exact⟨Nat.ne_of_lt (Nat.lt_succ_self _),Nat.ne_of_gt lt⟩
    have nin:∀ {b:Addr},b<s.heap.objs.size->b∉[s.heap.objs.size,(s.heap.push (gO (!iR w))).objs.size]:=fun lt=>by
     rw[Heap.size_push];simp only[List.mem_cons,List.mem_singleton,List.not_mem_nil,or_false,not_or];exact⟨Nat.ne_of_lt lt,Nat.ne_of_lt (Nat.lt_succ_of_lt lt)⟩
    have h3:A.in1.in1.in1.handled=none:=by simp[hh]
    rcases hl with hl | hl
    ·obtain⟨ol,hol,hcl,nl,hdl⟩:=hl
     obtain⟨ocls,odict,odata,oslots⟩:=ol;dsimp only at hcl hdl;subst hcl; subst hdl;have hol':(s.heap.push (gO (!iR w))).get? l=some ⟨.type "list",odict,.seq items nl,oslots⟩:=Heap.get?_push_of_some _ hol;have q1:=PySem.F.sub_list_set;have q2:=PySem.F.sub_list_frozenset;have q3:(Value.type "list" == Value.type "dict")=false:=by decide
     have src:(s.heap.push (gO (!iR w))).IsList l items:=⟨_,hol',rfl,nl,rfl⟩;have lt:=Heap.lt_size hol;unfold Builtin.«set.__init__» noKeywords Builtin.Frozenset.updateFrom;generalize hPI:pyIter=PI
     wp_walk
     subst hPI;refine wpAny_pyIter_list src (wpAny_bind (wpAny_runValue ?_));refine qR (D:=D) (ad _ (by show A.units+1+1+1<=A.units+4; lia)) ((Walks.list (A:=A.in1.in1.in1) h3 _ l (by rw[Heap.size_push]; exact Nat.ne_of_lt (Nat.lt_succ_of_lt lt)) items).toS) s.heap.objs.size (far lt) val ((s.heap.push (gO (!iR w))).push ⟨.type "list_iterator",none,.fields #[.ref l,.int 0 0],#[]⟩)
      (fun i v h e k=>hval i v h e fun b o eb=>k b o (nin (Heap.lt_size eb)) (Heap.get?_push_of_some _ (Heap.get?_push_of_some _ eb)))
      (fun i h h' k v k1 k2 ek a=>hst i h h' k v (s.heap.push (gO (!iR w))).objs.size (by rw[Heap.size_push]; exact Nat.le_succ _) (fun b o eb=>k1 b o (nin (Heap.lt_size eb)) (Heap.get?_push_of_some _ (Heap.get?_push_of_some _ eb))) (fun b o hb eb=>k2 b o (by simpa using hb) eb) ek a)
      hn (items.size-0) 0 _ rfl (Nat.zero_le _) ⟨⟨_,Heap.get?_push_size _ rfl,rfl,rfl⟩,src.push _⟩ (fun b o _ e=>e) ?_ fun s' mv T => ?_
     ·exact⟨[],gO (!iR w),#[],0,_,⟨Heap.get?_push_of_some _ hS,⟨rfl,rfl,rfl⟩,rfl,nS _,rfl,.nil,.nil⟩,fun k=>⟨fun z=>(nomatch z),fun ⟨j,z,_⟩=>absurd z (Nat.not_lt_zero _)⟩,Nat.le_refl _⟩
     ·obtain⟨h',g',d',tk',os'⟩:=s'
      obtain rfl:g'=s.gens:=mv.gens;obtain rfl:d'=s.drawn:=mv.drawn;obtain rfl:os'=s.os:=mv.os;refine wpAny_pure (show wpAny _ _ (ret Value.none) _ _ _ from wpAny_pure ⟨rfl,h',tk',rfl,mv.toks,T,fun b o e => ?_⟩)
      exact mv.heap b o (nin (Heap.lt_size e)) (Heap.get?_push_of_some _ (Heap.get?_push_of_some _ e))
    ·obtain⟨ol,hol,hcl,nl,hdl⟩:=hl
     obtain⟨ocls,odict,odata,oslots⟩:=ol;dsimp only at hcl hdl;subst hcl; subst hdl;have hol':(s.heap.push (gO (!iR w))).get? l=some ⟨.type "tuple",odict,.seq items nl,oslots⟩:=Heap.get?_push_of_some _ hol;have q1:=PySem.F.sub_tuple_set;have q2:=PySem.F.sub_tuple_frozenset;have q3:(Value.type "tuple" == Value.type "dict")=false:=by decide
     have src:(s.heap.push (gO (!iR w))).IsTuple l items:=⟨_,hol',rfl,nl,rfl⟩;have lt:=Heap.lt_size hol;unfold Builtin.«set.__init__» noKeywords Builtin.Frozenset.updateFrom;generalize hPI:pyIter=PI
     wp_walk
     subst hPI;refine wpAny_pyIter_tuple src (wpAny_bind (wpAny_runValue ?_));refine qR (D:=D) (ad _ (by show A.units+1+1+1<=A.units+4; lia)) ((Walks.tuple (A:=A.in1.in1.in1) h3 _ l (by rw[Heap.size_push]; exact Nat.ne_of_lt (Nat.lt_succ_of_lt lt)) items).toS) s.heap.objs.size (far lt) val ((s.heap.push (gO (!iR w))).push ⟨.type "tuple_iterator",none,.fields #[.ref l,.int 0 0],#[]⟩)
      (fun i v h e k=>hval i v h e fun b o eb=>k b o (nin (Heap.lt_size eb)) (Heap.get?_push_of_some _ (Heap.get?_push_of_some _ eb)))
      (fun i h h' k v k1 k2 ek a=>hst i h h' k v (s.heap.push (gO (!iR w))).objs.size (by rw[Heap.size_push]; exact Nat.le_succ _) (fun b o eb=>k1 b o (nin (Heap.lt_size eb)) (Heap.get?_push_of_some _ (Heap.get?_push_of_some _ eb))) (fun b o hb eb=>k2 b o (by simpa using hb) eb) ek a)
      hn (items.size-0) 0 _ rfl (Nat.zero_le _) ⟨⟨_,Heap.get?_push_size _ rfl,rfl,rfl⟩,src.push _⟩ (fun b o _ e=>e) ?_ fun s' mv T => ?_
     ·exact⟨[],gO (!iR w),#[],0,_,⟨Heap.get?_push_of_some _ hS,⟨rfl,rfl,rfl⟩,rfl,nS _,rfl,.nil,.nil⟩,fun k=>⟨fun z=>(nomatch z),fun ⟨j,z,_⟩=>absurd z (Nat.not_lt_zero _)⟩,Nat.le_refl _⟩
     ·obtain⟨h',g',d',tk',os'⟩:=s'
      obtain rfl:g'=s.gens:=mv.gens;obtain rfl:d'=s.drawn:=mv.drawn;obtain rfl:os'=s.os:=mv.os;refine wpAny_pure (show wpAny _ _ (ret Value.none) _ _ _ from wpAny_pure ⟨rfl,h',tk',rfl,mv.toks,T,fun b o e => ?_⟩)
      exact mv.heap b o (nin (Heap.lt_size e)) (Heap.get?_push_of_some _ (Heap.get?_push_of_some _ e))
   ·cases r₂ with
    | error e=>exact hr₂
    | ok fl₂ =>
     cases fl₂ with
     | ret r =>
      obtain⟨rfl,h',tk,rfl,htk,hS',hk'⟩:=hr₂
      repeat (any_goals (first | assumption | wp_step))
      exact h _ _ htk hS' hk'
     | _=>exact hr₂.elim
  | _=>exact hr.elim
end
end ST
end
section
namespace L2
open PySem PySem.W PyProof.Rows PySem.Calls TS
section
variable {prog:Program} {w:World} {A:Around} {E:Value->Shared->Prop} {s:Shared}
theorem qT {T:String} {r d:Addr} {n:Nat} {P:Nat->Value->Prop} {OK:Heap->Prop} {Q:Value->Shared->Prop} (K:KdlSrc prog w T r d n P OK) (hh:A.handled=none) (hok:OK s.heap) (hn:n<=100000)
  (hk:∀acc,ItemsOf P acc n->∃lt,Ord lt/\(2<=n->∀ (A':Around),A'.units<=A.units+2->∀ (h':Heap) (tk:Nat),(∀b o,s.heap.get? b=some o->h'.get? b=some o)->∃κ,(∀Q:SortKind->Shared->Prop,Q κ { s with heap:=h',toks:=tk }->wpAny (model prog w) A' (keyKind' acc) Q (fun _ _=>False) { s with heap:=h',toks:=tk }) /\
   ∀i j,i<n->j<n->∀C:Bool->Shared->Prop,C (lt i j) { s with heap:=h',toks:=tk }->wpAny (model prog w) A' (keyLt' κ (acc.toList.getD i Value.none) (acc.toList.getD j Value.none)) C (fun _ _=>False) { s with heap:=h',toks:=tk }) /\
   ∀ (l:Addr) (h':Heap) (tk e:Nat) (p:Array Nat),s.heap.objs.size<=l->(∀b o,s.heap.get? b=some o->h'.get? b=some o)->h'.get? l=some (seqObj "list" (dU acc.toList p).toArray e)->Pm n p->Bj lt p n->Q (.ref l) { s with heap:=h',toks:=tk }) :
  wpAny (model prog w) A (call (.builtin "sorted") [.ref r]) Q E s:=by
 refine Calls.call_function_entry kind_sorted plain_sorted entry_sorted (args_sorted1 _) ?_;unfold Builtin.«sorted»;refine wpAny_bind (m:=checkCount "sorted" 1 1 _) (wpAny_pure ?_);refine wpAny_bind (jR K hh hok (by rw[sizeLine_eq]; lia) fun h1 tk acc kp lt1 hacc => ?_)
 obtain⟨lt,O,hcmp,hend⟩:=hk acc hacc;have hsz:acc.toList.length=n:=by rw[Array.length_toList]; exact hacc.1
 refine wpAny_bind (wpAny_newList ?_ (by rw[sizeLine_eq]; lia))
 have hoL:(h1.push (seqObj "list" acc.toList.toArray 0)).get? h1.objs.size=some (seqObj "list" acc.toList.toArray 0):=Heap.get?_push_size _ rfl;have le:s.heap.objs.size<=h1.objs.size:=Nat.le_of_lt lt1;show wpAny _ _ _ _ _ { s with heap:=h1.push (seqObj "list" acc.toList.toArray 0),toks:=tk }
 refine wpAny_bind (wpAny_holding (wpAny_call_entry slot_list_sort ⟨_,hoL,rfl⟩ entry_list_sort (ig O hoL (by lia) (fun h2 h' kp' => ?_) fun p a1 a2=>⟨_,rfl,?_⟩) (args_list_sort _)))
 ·obtain⟨κ,c1,c2⟩:=hcmp (by lia) A.in1.in1 (show A.units+1+1<=A.units+2 by lia) h' tk fun b o q=>by
   have q1:=kp b o q;exact kp' b o (Nat.ne_of_lt (Heap.lt_size q1)) (Heap.get?_push_of_some _ q1)
  exact⟨κ,by rw[show acc.toList.toArray=acc by simp]; exact c1,fun i j hi hj C hC=>c2 i j (by lia) (by lia) C hC⟩
 ·obtain⟨e,he⟩:=sortedHeap_at (out:=(dU acc.toList p).toArray) hoL
  rw[hsz] at a1 a2;refine wpAny_pure ⟨_,rfl,hend h1.objs.size _ tk e p le (fun b o q => ?_) he a1 a2⟩
  have q1:=kp b o q;rw[sortedHeap_old (Nat.ne_of_lt (Heap.lt_size q1)) (by rw[Heap.size_push]; exact Nat.lt_succ_of_lt (Heap.lt_size q1)),Heap.get?_push_of_some _ q1]
end
end L2
end
section
namespace L2
open PySem PySem.Spec PyProof.Rows PySem.W
section
variable {α:Type}
noncomputable def sM (lt:α->α->Bool) (x:α):List α->List α
 | []=>[x]
 | y::ys=>if lt y x=true then y::sM lt x ys else if lt x y=true then x::y::ys else y::ys
noncomputable def bY (lt:α->α->Bool):List α->List α
 | []=>[]
 | x::xs=>sM lt x (bY lt xs)
structure pR (lt:α->α->Bool):Prop where
 asym:∀a b,lt a b=true->lt b a=false
 trans:∀a b c,lt a b=true->lt b c=true->lt a c=true
 tot:∀a b,lt a b=false->lt b a=false->a=b
theorem mh {lt:α->α->Bool} (T:pR lt) (x:α):∀ {l:List α} {k:α},k∈sM lt x l↔k=x\/k∈l
 | [],k=>by simp[sM]
 | y::ys,k=>by
  unfold sM
  split
  ·rw[List.mem_cons,mh T x,List.mem_cons]
   constructor
   ·rintro (h | h | h)
    ·exact .inr (.inl h)
    ·exact .inl h
    ·exact .inr (.inr h)
   ·rintro (h | h | h)
    ·exact .inr (.inl h)
    ·exact .inl h
    ·exact .inr (.inr h)
  ·next h1 =>
   split
   ·rw[List.mem_cons]
   ·next h2 =>
    have:x=y:=T.tot _ _ (by simpa using h2) (by simpa using h1)
    subst this;simp
theorem fS {lt:α->α->Bool} (T:pR lt):∀ {l:List α} {k:α},k∈bY lt l↔k∈l
 | [],k=>by simp[bY]
 | x::xs,k=>by unfold bY; rw[mh T,fS T,List.mem_cons]
theorem ur {lt:α->α->Bool} (T:pR lt) (x:α):∀ {l:List α},l.Pairwise (fun a b=>lt a b=true)->(sM lt x l).Pairwise (fun a b=>lt a b=true)
 | [],_=>List.pairwise_singleton _ _
 | y::ys,h=>by
  obtain⟨h1,h2⟩:=List.pairwise_cons.mp h;unfold sM
  split
  ·next e =>
   refine List.pairwise_cons.mpr ⟨fun z hz => ?_,ur T x h2⟩
   rcases (mh T x).mp hz with rfl | hz
   ·exact e
   ·exact h1 z hz
  ·split
   ·next e =>
    refine List.pairwise_cons.mpr ⟨fun z hz => ?_,h⟩
    rcases lK hz with rfl | hz
    ·exact e
    ·exact T.trans _ _ _ e (h1 z hz)
   ·exact h
theorem mj {lt:α->α->Bool} (T:pR lt):∀ (l:List α),(bY lt l).Pairwise (fun a b=>lt a b=true)
 | []=>.nil
 | x::xs=>ur T x (mj T xs)
theorem nX {lt:α->α->Bool} (T:pR lt):∀ {xs ys:List α},xs.Pairwise (fun a b=>lt a b=true)->ys.Pairwise (fun a b=>lt a b=true)->(∀k,k∈xs↔k∈ys)->xs=ys
 | [],[],_,_,_=>rfl
 | [],y::ys,_,_,h=>by have:=(h y).mpr lS; simp at this
 | x::xs,[],_,_,h=>by have:=(h x).mp lS; simp at this
 | x::xs,y::ys,h1,h2,h=>by
  obtain⟨a1,a2⟩:=List.pairwise_cons.mp h1;obtain⟨b1,b2⟩:=List.pairwise_cons.mp h2;have ql:∀a,lt a a=false:=fun a=>by
   cases q:lt a a with
   | false=>rfl
   | true=>rw[T.asym _ _ q] at q; cases q
  have e:x=y:=by
   rcases lK ((h x).mp lS) with e | e
   ·exact e
   ·rcases lK ((h y).mpr lS) with e' | e'
    ·exact e'.symm
    ·have:=T.asym _ _ (b1 x e)
     rw[a1 y e'] at this; cases this
  subst e
  congr 1
  refine nX T a2 b2 fun k=>⟨fun hk => ?_,fun hk => ?_⟩
  ·rcases lK ((h k).mp (lO _ hk)) with rfl | q
   ·have:=a1 k hk; rw[ql] at this; cases this
   ·exact q
  ·rcases lK ((h k).mpr (lO _ hk)) with rfl | q
   ·have:=b1 k hk; rw[ql] at this; cases this
   ·exact q
theorem qU {lt:α->α->Bool} (T:pR lt) {xs zs:List α} (nd:zs.Nodup) (s:zs.Pairwise fun a b=>lt b a=false) (m:∀k,k∈zs↔k∈xs):zs=bY lt xs:=by
 refine nX T ?_ (mj T xs) fun k=>(m k).trans (fS T).symm
 refine (List.pairwise_and_iff.mpr ⟨s,nd⟩).imp fun {a b} ⟨h1,h2⟩ => ?_
 cases q:lt a b with
 | true=>rfl
 | false=>exact absurd (T.tot _ _ q h1) h2
end
noncomputable def ltZ (a b:Int):Bool:=decide (a<b)
theorem totZ:pR ltZ:=⟨fun a b h=>decide_eq_false (by have:=of_decide_eq_true h; lia),fun a b c h h'=>decide_eq_true (by have:=of_decide_eq_true h; have:=of_decide_eq_true h'; lia),fun a b h h'=>by have:=of_decide_eq_false h; have:=of_decide_eq_false h'; lia⟩
theorem nY:∀ (a b:List Int),HT.lexLt a b=false->HT.lexLt b a=false->a=b
 | [],[],_,_=>rfl
 | [],_::_,h,_=>by cases h
 | _::_,[],_,h=>by cases h
 | x::xs,y::ys,h,h'=>by
  rw[HT.cE] at h h'
  by_cases e:x=y
  ·subst e
   rw[if_pos rfl] at h h';rw[nY xs ys h h']
  ·rw[if_neg e] at h
   rw[if_neg (Ne.symm e)] at h';have h:=of_decide_eq_false h;have h':=of_decide_eq_false h';lia
theorem vo:pR HT.lexLt where
 asym:=dW
 trans:=fun a b c h h'=>by
  cases q:HT.lexLt a c with
  | true=>rfl
  | false =>
   have h3:=eU b c a (dW _ _ h') q;rw[h] at h3; cases h3
 tot:=nY
section
variable {X:Cx}
theorem Paired.zZ {α β:Type} {F:α->β->Prop} {xs:List α} {ys:List β} (h:Paired F xs ys):∀z∈xs.zip ys,F z.1 z.2:=by
 induction h with
 | nil=>intro z hz; simp at hz
 | cons a r ih =>
  intro z hz;rw[List.zip_cons_cons] at hz;rcases lK hz with rfl | hz
  ·exact a
  ·exact ih z hz
theorem yb {K:PySem.W.Frag} {H:Hp} {ys:List V} {ks:List (List Int)} (ht:yq K H ys ks):∀ {zs:List (V×List Int)},(∀z∈zs,z∈ys.zip ks)->yq K H (zs.map (·.1)) (zs.map (·.2))
 | [],_=>.nil
 | z::zs,h=>.cons (Paired.zZ ht z (h z lS)) (yb ht fun z' h'=>h z' (lO _ h'))
theorem z0 {pins:List (Addr×Obj)} {σ:St} {H:Hp} {s:Shared} (I:Inv X pins σ H s) {ys:List V} {ks:List (List Int)} {its:List Value} (ht:yq X.K H ys ks) (rv:Vals ys its) (hne:∀t∈ks,t≠[]) (h2:2<=its.length) {A':Around} {h':Heap} {tk:Nat} (kp:∀b o,s.heap.get? b=some o->h'.get? b=some o) :
  ∃κ,(∀Q:SortKind->Shared->Prop,Q κ { s with heap:=h',toks:=tk }->wpAny (model X.prog X.w) A' (keyKind' its.toArray) Q (fun _ _=>False) { s with heap:=h',toks:=tk }) /\
   ∀i j,i<its.length->j<its.length->∀C:Bool->Shared->Prop,C (HT.lexLt (ks.getD i []) (ks.getD j [])) { s with heap:=h',toks:=tk }->wpAny (model X.prog X.w) A' (keyLt' κ (its.getD i Value.none) (its.getD j Value.none)) C (fun _ _=>False) { s with heap:=h',toks:=tk }:=by
 have hl:=rv.length;refine⟨tuples' true,fun Q' hq' => ?_,fun i j hi hj C hC => ?_⟩
 ·obtain⟨fs,h1,h2',h3⟩:=gC I kp ht rv hne
  refine kat_kind (s:={ s with heap:=h',toks:=tk }) (T:=.type "int") h1 (by lia) (fun v hv => ?_) rfl hq'
  obtain⟨i,t,rfl⟩:=h3 v hv;exact Looks.now
 ·have hiy:i<ys.length:=by lia
  have hjy:j<ys.length:=by lia
  obtain⟨a,ea,qa⟩:=Paired.getD (d:=V.non) (d':=[]) ht i hiy;obtain⟨b,eb,qb⟩:=Paired.getD (d:=V.non) (d':=[]) ht j hjy;have ra:=Paired.getD (d:=V.non) (d':=Value.none) rv i hiy;have rb:=Paired.getD (d:=V.non) (d':=Value.none) rv j hjy;rw[ea] at ra;rw[eb] at rb;have ra:its.getD i Value.none=.ref a:=ra;have rb:its.getD j Value.none=.ref b:=rb;rw[ra,rb];obtain⟨ia,va,⟨oa,ha,_,na,da⟩,_⟩:=I.tuple qa;obtain⟨ib,vb,⟨ob,hb,_,nb,db⟩,_⟩:=I.tuple qb;refine kat_lt (s:={ s with heap:=h',toks:=tk }) (kp _ _ ha) da (kp _ _ hb) db ?_
  refine gB ia ib _ _ 0 va vb hC _ (fun _ _=>True.intro) ?_
  simp
theorem vp {α:Type} {d:α} {zs:List (V×α)} {its:List Value} (rv:Vals (zs.map (·.1)) its) {pm:Array Nat} (hp:Pm zs.length pm):Vals ((pm.toList.map fun i=>zs.getD i (V.non,d)).map (·.1)) (dU its pm):=by
 have hl:=rv.length;rw[List.length_map] at hl;have hb:∀i∈pm.toList,i<zs.length:=fun i hi=>by
  have h1:pm.toList.Perm (List.range zs.length):=Array.perm_iff_toList_perm.mp hp;simpa using h1.mem_iff.mp hi
 unfold dU;rw[List.map_map];generalize pm.toList=ix at hb
 induction ix with
 | nil=>exact .nil
 | cons i ix ih =>
  refine .cons ?_ (ih fun j hj=>hb j (lO _ hj))
  have:=Paired.getD (d:=V.non) (d':=Value.none) rv i (by rw[List.length_map]; exact hb i lS)
  have e:(zs.map (·.1)).getD i V.non=(zs.getD i (V.non,d)).1:=by
   have hi:=hb i lS;simp[List.getD,hi]
  rw[e] at this;exact this
theorem z9 {α:Type} {d:α} {lt:α->α->Bool} {zs:List (V×α)} {pm:Array Nat} (hp:Pm zs.length pm) (hs:Bj (fun i j=>lt ((zs.map (·.2)).getD i d) ((zs.map (·.2)).getD j d)) pm zs.length):((pm.toList.map fun i=>zs.getD i (V.non,d)).map (·.2)).Pairwise (fun a b=>lt b a=false):=by
 have sz:pm.toList.length=zs.length:=by rw[Array.length_toList]; exact hp.size
 have hb:∀i∈pm.toList,i<zs.length:=fun i hi=>by
  have h1:pm.toList.Perm (List.range zs.length):=Array.perm_iff_toList_perm.mp hp;simpa using h1.mem_iff.mp hi
 rw[List.map_map,List.pairwise_map,List.pairwise_iff_getElem];intro i j hi hj hij;have z:=hs i j (by lia) (by lia)
 have gi:gD pm i=pm.toList[i]:=by unfold gD; simp[Array.getD,show i<pm.size by simpa using hi]
 have gj:gD pm j=pm.toList[j]:=by unfold gD; simp[Array.getD,show j<pm.size by simpa using hj]
 rw[gi,gj] at z;dsimp only at z;have bi:=hb _ (List.getElem_mem hi);have bj:=hb _ (List.getElem_mem hj);have e:∀ {k:Nat},k<zs.length->(zs.map (·.2)).getD k d=(zs.getD k (V.non,d)).2:=fun {k} hk=>by simp[List.getD,hk]
 rw[e bi,e bj] at z;exact z
theorem mq {pins:List (Addr×Obj)} {σ:St} {H:Hp} {s:Shared} {E:Value->Shared->Prop} {A:Around} (I:Inv X pins σ H s) (hh:A.handled=none) {D:ST.Kd X.prog X.w} {S:Addr} {M:D.K->Prop} {n:Nat} (T:ST.Sets D s.heap S M n) (hn:n<=1000) {lt:D.K->D.K->Bool} (TO:pR lt) (d:D.K)
  {src:List (V×D.K)} (hsrc:∀k v,M k->D.is s.heap k v->∃z∈src,z.2=k/\RelV z.1 v)
  (cmp:∀ (zs:List (V×D.K)) (its:List Value),(∀z∈zs,z∈src)->Vals (zs.map (·.1)) its->2<=its.length->∀ (A':Around) (h':Heap) (tk:Nat),(∀b o,s.heap.get? b=some o->h'.get? b=some o) ->
   ∃κ,(∀Q:SortKind->Shared->Prop,Q κ { s with heap:=h',toks:=tk }->wpAny (model X.prog X.w) A' (keyKind' its.toArray) Q (fun _ _=>False) { s with heap:=h',toks:=tk }) /\
   ∀i j,i<its.length->j<its.length->∀C:Bool->Shared->Prop,C (lt ((zs.map (·.2)).getD i d) ((zs.map (·.2)).getD j d)) { s with heap:=h',toks:=tk }->wpAny (model X.prog X.w) A' (keyLt' κ (its.getD i Value.none) (its.getD j Value.none)) C (fun _ _=>False) { s with heap:=h',toks:=tk })
  {Q:Value->Shared->Prop} (q:∀ (zs:List (V×D.K)) l s',(∀z∈zs,z∈src)->(zs.map (·.2)).Nodup->(zs.map (·.2)).Pairwise (fun a b=>lt b a=false)->(∀k,k∈zs.map (·.2)↔M k)->H l=none->Inv X pins σ (upd H l (.lst (zs.map (·.1)))) s'->Q (.ref l) s') :
  wpAny (model X.prog X.w) A (call (.builtin "sorted") [.ref S]) Q E s:=by
 obtain⟨ks,o,es,ep,t,K,mem,len⟩:=T;refine qT (ST.zX (a:=S) K.hex K.hd K.inv K.led) hh K.ho (by rw[K.size]; lia) fun acc hacc => ?_
 obtain⟨ko,pk,eo⟩:=K.els.perm (ST.qQ X.w S ep es);have hai:acc.toList=(ST.eE X.w S ep es).toList.map (·.2):=by
  apply List.ext_getElem?;intro i;rw[Array.getElem?_toList,List.getElem?_map,Array.getElem?_toList]
  by_cases hi:i<es.size
  ·obtain⟨v,hv⟩:∃v,acc[i]? = some v:=⟨acc[i]'(by rw[hacc.1]; exact hi),by simp[hacc.1,hi]⟩
   rw[hv];exact (hacc.2 i v hv).symm
  ·have h1:acc[i]? = none:=by simp[hacc.1]; lia
   have h2:(ST.eE X.w S ep es)[i]? = none:=by simp[ST.jt]; lia
   rw[h1,h2]; rfl
 obtain⟨zs,z1,z2,z3⟩:∃zs:List (V×D.K),(∀z∈zs,z∈src)/\zs.map (·.2)=ko/\Vals (zs.map (·.1)) acc.toList:=by
  rw[hai];have hM:∀k∈ko,M k:=fun k hk=>(mem k).mp (pk.mem_iff.mp hk)
  clear hai hacc pk
  generalize (ST.eE X.w S ep es).toList=l at eo
  induction eo with
  | nil=>exact⟨[],fun z hz=>(nomatch hz),rfl,.nil⟩
  | cons a r ih =>
   obtain⟨zs,i1,i2,i3⟩:=ih fun k hk=>hM k (lO _ hk)
   obtain⟨z,hz,e1,e2⟩:=hsrc _ _ (hM _ lS) a;refine⟨z::zs,fun z' h' => ?_,by rw[List.map_cons,e1,i2],.cons e2 i3⟩
   rcases lK h' with rfl | h'
   ·exact hz
   ·exact i1 z' h'
 have hal:acc.toList.length=es.size:=by rw[Array.length_toList]; exact hacc.1
 have hzl:zs.length=es.size:=by have:=z3.length; rw[List.length_map] at this; lia
 refine⟨fun i j=>lt ((zs.map (·.2)).getD i d) ((zs.map (·.2)).getD j d),⟨fun a b=>TO.asym _ _,fun a b c h1 h2 => ?_⟩,fun h2 A' _ h' tk kp => ?_,fun l h' tk e pm hl kp he hpm hsr => ?_⟩
 ·generalize (zs.map (·.2)).getD a d=a at *
  generalize (zs.map (·.2)).getD b d=b at *;generalize (zs.map (·.2)).getD c d=c at *;cases z:lt c a with
  | false=>rfl
  | true =>
   rcases hab:lt a b with _ | _
   ·have:=TO.tot _ _ hab h1
    subst this;rw[z] at h2; cases h2
   ·have:=TO.trans _ _ _ z hab
    rw[this] at h2; cases h2
 ·obtain⟨κ,c1,c2⟩:=cmp zs acc.toList z1 z3 (by lia) A' h' tk kp
  exact⟨κ,by rw[show acc.toList.toArray=acc by simp] at c1; exact c1,fun i j hi hj C hC=>c2 i j (by lia) (by lia) C hC⟩
 ·rw[<-hzl] at hpm hsr
  have hv:=vp (d:=d) z3 hpm;have hp:(pm.toList.map fun i=>zs.getD i (V.non,d)).Perm zs:=ir (β:=Nat) hpm
  have hs:=z9 (lt:=lt) (d:=d) hpm hsr;generalize (pm.toList.map fun i=>zs.getD i (V.non,d))=zo at hv hp hs
  have hp2:(zo.map (·.2)).Perm ks:=(hp.map (·.2)).trans (by rw[z2]; exact pk)
  refine q zo l _ (fun z hz=>z1 z (hp.mem_iff.mp hz)) (hp2.nodup_iff.mpr K.nd) hs (fun k=>hp2.mem_iff.trans (mem k)) (I.hok.fresh hl) (I.laid (t':=tk) (a:=l) (o:=.lst (zo.map (·.1))) kp hl ?_)
  refine⟨?_,dU acc.toList pm,e,hv,he⟩;rw[List.length_map,hp.length_eq,hzl,K.size,sizeLine_eq];lia
noncomputable def DV (K:PySem.W.Frag) (ta:TA):TE:=fun σ H Q=>ta σ H fun vs H1=>∃p,vs=[.ref p] /\
 ((∃ns:List Int,(fV K H1 p (ns.map V.int)\/cK K H1 p (ns.map V.int))/\ns.length<=1000/\∀l,H1 l=none->Q (.ref l) (upd H1 l (.lst ((bY ltZ ns).map V.int)))) \/
 (∃ys ks,(fV K H1 p ys\/cK K H1 p ys)/\yq K H1 ys ks/\(∀t∈ks,t≠[])/\ys.length<=1000/\∀ (zs:List (V×List Int)) l,(∀z∈zs,z∈ys.zip ks)->zs.map (·.2)=bY HT.lexLt ks->H1 l=none->Q (.ref l) (upd H1 l (.lst (zs.map (·.1))))))
theorem nZ {pins:List (Addr×Obj)} {σ:St} {H:Hp} {s:Shared} (I:Inv X pins σ H s) {p:Addr} {ys:List V} (h:fV X.K H p ys\/cK X.K H p ys):∃its,Vals ys its/\(s.heap.IsList p its.toArray\/s.heap.IsTuple p its.toArray):=by
 rcases h with h | h
 ·obtain⟨its,rv,pl,_⟩:=I.list h
  exact⟨its,rv,.inl pl.isList⟩
 ·obtain⟨its,rv,pl,_⟩:=I.tuple h
  exact⟨its,rv,.inr pl⟩
theorem n8 {prog:Program} {w:World}:∀ {ks:List Int} {its:List Value},Vals (ks.map V.int) its->ItemsAre (intKind prog w) ks its
 | [],_,h=>by cases h; exact .nil
 | k::ks,_,h=>by
  cases h with
  | cons r rr=>obtain⟨t,rfl⟩:=r; exact .cons (intKind_is _ _ _ _) (n8 rr)
theorem sN {a:Expr} {ta:TA} {p1 p2 pos pos2:Pos} (hc:X.calm=true) (hU:X.A.units+64<cLine) (hg:Gl X "sorted") (hm:X.mg "sorted" = none) (hg2:Gl X "set") (hm2:X.mg "set" = none) (ha:PA X [a] ta) (hs:starEach [a] X.env=[(false,eval a X.env)]:=by rfl)
  (hs3:starEach [.Call (.Name "set" p2) [a] [] pos2] X.env=[(false,eval (.Call (.Name "set" p2) [a] [] pos2) X.env)]:=by rfl) :
  PE X (.Call (.Name "sorted" p1) [.Call (.Name "set" p2) [a] [] pos2] [] pos) (DV X.K ta):=by
 intro pins s σ H Q I h;refine wpAny_Call_Name_kw (fW I hg hm boot_sorted ?_);refine PyProof.Rows.callWith_builtin1 ?_ (by rw[hs3]; rfl) rfl
 rw[hs3];show wpAny _ _ (spliced ((false,eval (.Call (.Name "set" p2) [a] [] pos2) X.env)::[])) _ _ s;refine Calls.spliced_cons ?_;refine wpAny_Call_Name_kw (fW I hg2 hm2 PyProof.Rows.boot_set ?_);refine PyProof.Rows.callWith_type1 (bA (ha pos2 pins s σ H _ I h) fun us s1 ⟨vs,H1,I1,r1,q1⟩ => ?_) (by rw[hs]; rfl) rfl
 obtain⟨p,e,q1⟩:=q1;subst e;obtain⟨u,rfl,rx⟩:=vals1 r1;cases rx;have hh:=I1.ok.hd hc;rcases q1 with⟨ns,hq,hb,q⟩ | ⟨ys,ks,hq,ht,hne,hb,q⟩
 ·obtain⟨its,rv,src⟩:=nZ I1 hq
  have hl:its.length=ns.length:=by have:=rv.length; rw[List.length_map] at this; lia
  have hint:=gg rv;refine ST.qS (D:=ST.intD X.prog X.w) (val:=fun i=>ns.getD i 0) (fun A' _=>ST.add_int A') hh src (by rw[List.size_toArray]; lia) (fun i v h e _ => ?_) (fun _ _ _ _ _ _ _ _ _ _ a=>a) fun h' tk _ T kp=>Calls.spliced_nil ?_
  ·exact IntsAre.int_at hint i v (by simpa using e)
  ·have I2:Inv X pins σ H1 { s1 with heap:=h',toks:=tk }:=I1.kept kp
   have mem:∀k,(∃j,j<its.toArray.size/\ns.getD j 0=k)↔k∈ns:=fun k=>by
    rw[List.size_toArray,hl];constructor
    ·rintro⟨j,hj,e⟩
     rw[<-e,List.getD_eq_getElem?_getD,List.getElem?_eq_getElem hj];exact List.getElem_mem hj
    ·intro hk
     obtain⟨j,hj,e⟩:=List.getElem_of_mem hk;exact⟨j,hj,by rw[List.getD_eq_getElem?_getD,List.getElem?_eq_getElem hj]; exact e⟩
   refine mq I2 hh T (by rw[List.size_toArray]; lia) totZ (0:Int) (src:=ns.map fun n=>(V.int n,n)) (fun k v hM hv => ?_) (fun (zs:List (V×Int)) its' hz rv' h2 A' h2' tk' kp' => ?_) fun (zs:List (V×Int)) l s' z1 z2 z3 z4 hl' I3 => ?_
   ·obtain⟨t,rfl⟩:=hv
    exact⟨(V.int k,k),List.mem_map.mpr ⟨k,(mem k).mp hM,rfl⟩,rfl,⟨t,rfl⟩⟩
   ·have ez:zs.map (·.1)=(zs.map (·.2)).map V.int:=by
     rw[List.map_map];refine List.map_congr_left fun z hz' => ?_
     obtain⟨n,_,rfl⟩:=List.mem_map.mp (hz z hz');rfl
    have rv2:Vals (zs.map (·.1)) its':=rv';rw[ez] at rv2;have hia:=gg rv2;refine⟨oneType',fun Q' hq' => ?_,fun i j hi hj C hC => ?_⟩
    ·match its',hia,h2 with
     | v1::v2::vs,hia,_=>exact wpAny_of_eq (keyKind_ints hia) hq'
    ·obtain⟨ti,ei⟩:=IntsAre.int_at hia i (its'.getD i Value.none) (by simp[List.getD,hi])
     obtain⟨tj,ej⟩:=IntsAre.int_at hia j (its'.getD j Value.none) (by simp[List.getD,hj])
     rw[ei,ej,keyLt'_oneType];exact oneLt_int hC
   ·have ez:zs.map (·.1)=(zs.map (·.2)).map V.int:=by
     rw[List.map_map];refine List.map_congr_left fun z hz' => ?_
     obtain⟨n,_,rfl⟩:=List.mem_map.mp (z1 z hz');rfl
    have I3:Inv X pins σ (upd H1 l (.lst (zs.map (·.1)))) s':=I3;have eu:zs.map (·.2)=bY ltZ ns:=qU totZ z2 z3 fun k=>(z4 k).trans (mem k)
    rw[ez,eu] at I3;exact⟨.ref l,_,I3,rfl,q l hl'⟩
 ·obtain⟨its,rv,src⟩:=nZ I1 hq
  have hl:its.length=ks.length:=by have:=rv.length; have:=Paired.length ht; lia
  have hyl:ys.length=ks.length:=Paired.length ht;have at1:∀i v,its[i]? = some v->∃b,v=.ref b/\ys[i]? = some (.ref b)/\ks[i]? = some (ks.getD i [])/\∃o its' n,s1.heap.get? b=some o/\o.cls=.type "tuple"/\o.data=.seq its' n/\Vals ((ks.getD i []).map V.int) its'.toList:=fun i v e=>by
   have hi:i<its.length:=(List.getElem?_eq_some_iff.mp e).1;have hv:its.getD i Value.none=v:=by simp[List.getD,e]
   obtain⟨b,eb,qb⟩:=Paired.getD (d:=V.non) (d':=[]) ht i (by lia)
   have rb:=Paired.getD (d:=V.non) (d':=Value.none) rv i (by lia)
   rw[eb,hv] at rb;have rb:v=.ref b:=rb;obtain⟨ib,vb,⟨ob,hb,hcb,nb,db⟩,_⟩:=I1.tuple qb;refine⟨b,rb,?_,?_,ob,_,nb,hb,hcb,db,by simpa using vb⟩
   ·rw[<-eb]; simp[List.getD,show i<ys.length by lia]
   ·simp[List.getD,show i<ks.length by lia]
  refine ST.qS (D:=ST.vn X.prog X.w fun k v=>∃i b:Nat,v=.ref b/\ys[i]? = some (.ref b)/\ks[i]? = some k/\b<s1.heap.objs.size) (val:=fun i=>ks.getD i []) (fun A' hA'=>ST.ua (by have:A'.units<=X.A.units+4:=hA'; lia)) hh src (by rw[List.size_toArray]; lia) (fun i v h e kp => ?_) (fun i h h' k v I0 hI kp k2 ek a => ?_) fun h' tk _ T kp=>Calls.spliced_nil ?_
  ·obtain⟨b,e1,e2,e3,o,its',n,e4,e5,e6,e7⟩:=at1 i v (by simpa using e)
   exact⟨⟨i,b,e1,e2,e3,Heap.lt_size e4⟩,b,e1,o,its',n,kp _ _ e4,e5,e6,n8 e7⟩
  ·obtain⟨⟨i',b,e1,e2,e3,e4⟩,b',e5,o,its',n,e6,e7⟩:=a
   have:b=b':=by rw[e1] at e5; injection e5
   subst this;exact⟨⟨i',b,e1,e2,e3,e4⟩,b,e1,o,its',n,k2 _ _ (fun z=>by rw[z] at e4; exact absurd e4 (Nat.not_lt.mpr hI)) e6,e7⟩
  ·have I2:Inv X pins σ H1 { s1 with heap:=h',toks:=tk }:=I1.kept kp
   have mem:∀k,(∃j,j<its.toArray.size/\ks.getD j []=k)↔k∈ks:=fun k=>by
    rw[List.size_toArray,hl];constructor
    ·rintro⟨j,hj,e⟩
     rw[<-e,List.getD_eq_getElem?_getD,List.getElem?_eq_getElem hj];exact List.getElem_mem hj
    ·intro hk
     obtain⟨j,hj,e⟩:=List.getElem_of_mem hk;exact⟨j,hj,by rw[List.getD_eq_getElem?_getD,List.getElem?_eq_getElem hj]; exact e⟩
   refine mq I2 hh T (by rw[List.size_toArray]; lia) vo ([]:List Int) (src:=ys.zip ks) (fun k v hM hv => ?_) (fun zs its' hz rv' h2 A' h2' tk' kp' => ?_) fun zs l s' z1 z2 z3 z4 hl' I3 => ?_
   ·obtain⟨⟨i',b,e1,e2,e3,e4⟩,_⟩:=hv
    refine⟨(.ref b,k),List.mem_of_getElem? (i:=i') ?_,rfl,e1⟩;rw[List.getElem?_zip_eq_some];exact⟨e2,e3⟩
   ·have ht':=yb ht hz
    refine z0 I2 ht' rv' (fun t htm => ?_) h2 kp'
    obtain⟨z,hz',rfl⟩:=List.mem_map.mp htm;exact hne _ (List.of_mem_zip (hz z hz')).2
   ·have eu:zs.map (·.2)=bY HT.lexLt ks:=qU vo z2 z3 fun k=>(z4 k).trans (mem k)
    exact⟨.ref l,_,I3,rfl,q zs l z1 eu hl'⟩
end
end L2
end
section
namespace VL
open PySem PySem.Spec L2 PyProof.Rows
section
variable {X:Cx} {pos:Pos}
noncomputable def CZ:List M->Option M
 | [m]=>(seq m).bind fun ds=>if ds.length<=1000 then (match gH ds with
  | some ns=>some (.lst ((bY ltZ ns).map .int))
  | none=>(rX ds).bind fun ks=>if ks.all (fun k => !k.isEmpty)=true then some (.lst ((bY HT.lexLt ks).map tI)) else none) else none
 | _=>none
def DW (K:PySem.W.Frag):List V->Hp->VK->Prop:=fun vs H1 Q=>∃p,vs=[.ref p] /\
 ((∃ns:List Int,(fV K H1 p (ns.map V.int)\/cK K H1 p (ns.map V.int))/\ns.length<=1000/\∀l,H1 l=none->Q (.ref l) (upd H1 l (.lst ((bY ltZ ns).map V.int)))) \/
 (∃ys ks,(fV K H1 p ys\/cK K H1 p ys)/\yq K H1 ys ks/\(∀t∈ks,t≠[])/\ys.length<=1000/\∀ (zs:List (V×List Int)) l,(∀z∈zs,z∈ys.zip ks)->zs.map (·.2)=bY HT.lexLt ks->H1 l=none->Q (.ref l) (upd H1 l (.lst (zs.map (·.1))))))
theorem rSS_v {K:PySem.W.Frag}:Dm K (DW K) CZ:=fun H Z xs ms m Q za hr e q=>by
 unfold CZ at e
 split at e
 ·obtain⟨ds,e1,e⟩:=oB e
  split at e
  ·next hl =>
   obtain⟨x,rfl,h1⟩:=gn hr;obtain⟨a,ys,rfl,hx,fx⟩:=h1.seq e1
   split at e
   ·next ns e2 =>
    cases e;have hn:ns.length<=1000:=by rw[bN e2,List.length_map] at hl; exact hl
    rw[bN e2] at fx;rw[fx.cy] at hx;exact⟨a,rfl,.inl ⟨ns,hx,hn,fun l hl'=>qu q za hl' (br.ints _)⟩⟩
   ·obtain⟨ks,e3,e⟩:=oB e
    split at e
    ·next hne =>
     cases e;rw[gI e3] at fx;have hlen:ys.length=ks.length:=by rw[fx.length,List.length_map]
     have hk:ks.length<=1000:=by rw[gI e3,List.length_map] at hl; exact hl
     have ht:=fx.Dq;refine⟨a,rfl,.inr ⟨ys,ks,hx,ht,fun t h z => ?_,by lia,fun zs l z1 z2 hl' => ?_⟩⟩
     ·have:=List.all_eq_true.mp hne t h
      rw[z] at this;cases this
     ·have:=br.rY (Z:=Z) ht zs z1
      rw[z2] at this;exact qu q za hl' this
    ·cases e
  ·cases e
 ·cases e
theorem sO {a:Expr} {fa:FA} {p1 p2 pos2:Pos} (hc:X.calm=true) (hU:X.A.units+64<cLine) (hg:Gl X "sorted") (hm:X.mg "sorted" = none) (hg2:Gl X "set") (hm2:X.mg "set" = none) (ha:WA X [a] fa) (hs:starEach [a] X.env=[(false,eval a X.env)]:=by rfl)
  (hs3:starEach [.Call (.Name "set" p2) [a] [] pos2] X.env=[(false,eval (.Call (.Name "set" p2) [a] [] pos2) X.env)]:=by rfl) :
  WE X (.Call (.Name "sorted" p1) [.Call (.Name "set" p2) [a] [] pos2] [] pos) (eL CZ fa):=⟨aW (sN hc hU hg hm hg2 hm2 ha.h hs hs3) fun _ _ _ hq=>many rSS_v hq⟩
end
section
variable {X:Cx} {pos:Pos}
noncomputable def vq (ds:List PyData) (k:Nat):List PyData:=(List.replicate k ds).flatten
noncomputable def mulR:M->M->Option M
 | .lst ds,.v (.int k)=>if 0<=k/\k<=1000/\ds.length*k.toNat<=lim then some (.lst (vq ds k.toNat)) else none
 | _,_=>none
theorem br.rep {K:PySem.W.Frag} {H:Hp} {Z:Zs} {xs:List V} {ds:List PyData} (h:br K H Z xs ds):∀k:Nat,br K H Z (List.replicate k xs).flatten (vq ds k)
 | 0=>.nil
 | k+1=>by
  unfold vq;rw[List.replicate_succ,List.replicate_succ,List.flatten_cons,List.flatten_cons];exact h.append (br.rep h k)
theorem Cv:di X (binaryOp .Mult) (rM X.K mulR):=by
 intro pins s σ H x y v u Q I rx ry h;obtain⟨Z,m1,m2,m,za,h1,h2,e,q⟩:=h;unfold mulR at e
 split at e
 ·split at e
  ·next hl =>
   cases e;obtain⟨a,xs,rfl,e2,e3⟩:=h1.lst;obtain rfl:=h2.int;exact Be pins s σ H _ _ v u Q I rx ry ⟨a,_,xs,rfl,rfl,e2,by lia,by lia,fZ (by rw[e3.length]; exact hl.2.2),fun p hp=>qu q za hp (e3.rep _)⟩
  ·cases e
 ·cases e
end
end VL
end
section
open PySem L2 VL
end
section
open PySem L2 VL
noncomputable def FF.ju:FS:=(aF (r9 (aa 0) (bX 2 (aC (ah 1) (aC (ah 2) cC))))
 (aF (bh 3 (CC true 1 [] (cO (aa 1)) (ah 0) cH (aa 0) (eO gE)))
 (aF (gc (cO (aa 2)) (bX 2 (aC (ah 4) (aC (ah 5) cC))) (aF (cB (lH 3 (eW 4) (eW 5)))
 (cB (lH 3 (eW 5) (eW 4)))))
 (cL (CC false 1 [3] (cO (aa 1)) (ah 0) cH (aa 0) (eL ji (af (eL qz (af (iI (aa 1) (aa 0)))))))))))
noncomputable def FF.eF:FF:=fm [true] 6 FF.ju
end
section
open PySem L2 VL
noncomputable def FF.cX:FS:=(cL (eL iK (af (jX 1 [1,0] (cO (aa 1)) (ah 0) (iJ (eL (allM true) (af (jX 1 [1] (cO (iI (aa 2) (aa 0))) (ah 0) cH (vB (lg true) (aa 0) (aa 1)))))) (aa 0)))))
noncomputable def FF.bD:FF:=fm [true,true] 2 FF.cX
noncomputable def FF.gP:FS:=(aF (bh 2 (dm FF.eF (af (aa 0))))
 (cL (eL ji (af (jX 1 [2,1] (bC fj (af (eL iK (af (aa 1))))) (ah 0) cH (dm FF.bD (ai (aa 1) (af (w9 (aa 2) dZ (d7 (vB bH (aa 0) (vC (.int 1)))))))))))))
noncomputable def FF.bx:FF:=fm [true,true] 3 FF.gP
noncomputable def FF.fB:FS:=(cL (eL (lN (0)) (af (dm FF.bx (ai (aa 0) (af (aa 1)))))))
noncomputable def FF.cJ:FF:=fm [true,true] 2 FF.fB
noncomputable def FF.gQ:FS:=(aF (r9 (cG (ai (vC (.int 0)) (ai (vC (.int 1)) (af (vC (.int 11)))))) (bX 3 (aC (ah 1) (aC (ah 2) (aC (ah 3) cC)))))
 (aF (gc (cO (w9 (aa 0) dZ (d7 (vC (.int 63))))) (ah 4) (aF (bh 3 (vB iG (vB iH (vB bH (vB bH (vB mulM (aa 3) (vC (.int 48271))) (vB iG (aa 4) (vC (.int 2305843009213693951)))) (vC (.int 13))) (vC (.int 3))) (vC (.int 2305843009213693951))))
 (dw (cz (vB C4 (eL rZ (af (aa 4))) (vB iH (vC (.int 10)) (vC (.int 18))))) (aF (bh 1 (vB bH (aa 1) (vB vh (vB iG (eL rZ (af (aa 4))) (vB iH (vC (.int 10)) (vC (.int 60)))) (aa 2))))
 (bh 2 (vB vh (aa 2) (vB iH (vC (.int 10)) (vC (.int 60)))))) bJ)))
 (cL (eO (ai (aa 1) (ai (aa 3) (af (vC (.int 0)))))))))
noncomputable def FF.cR:FF:=fm [true] 5 FF.gQ
noncomputable def FF.dF:FS:=(aF (dw (cz (vB wZ (iI (aa 0) (vC (.int 0))) (vC (.int 0)))) (aF (bh 2 (vB iG (iI (aa 0) (vC (.int 0))) (aa 1)))
 (aF (sf 0 (vC (.int 0)) (vB tM (iI (aa 0) (vC (.int 0))) (aa 1)))
 (cL (aa 2)))) bJ)
 (aF (sf 0 (vC (.int 2)) (vB bH (iI (aa 0) (vC (.int 2))) (vC (.int 1))))
 (aF (sf 0 (vC (.int 1)) (vB iG (vB bH (vB bH (vB mulM (iI (aa 0) (vC (.int 1))) (vC (.int 48271))) (vB mulM (vC (.int 104729)) (iI (aa 0) (vC (.int 2))))) (vC (.int 11))) (vC (.int 2305843009213693951))))
 (cL (vB iG (vB tM (vB iG (vB iH (iI (aa 0) (vC (.int 1))) (vC (.int 5))) (vC (.int 2305843009213693921))) (vC (.int 1009))) (aa 1))))))
noncomputable def FF.ao:FF:=fm [true,true] 3 FF.dF
noncomputable def FF.eZ:FS:=(aF (bh 2 (dm FF.ao (ai (aa 0) (af (vC (.int 3))))))
 (aF (bh 3 (dm FF.ao (ai (aa 0) (af (vC (.int 4))))))
 (aF (bh 4 (eO gE))
 (aF (gc (bC fj (af (aa 1))) (ah 5) (aF (cB (mX 4 (af (aa 3))))
 (bh 3 (vB bH (vB bH (aa 3) (vC (.int 1))) (iI (eO (ai (vC (.int 0)) (ai (dm FF.ao (ai (aa 0) (af (vC (.int 2))))) (af (dm FF.ao (ai (aa 0) (af (vC (.int 4))))))))) (aa 2))))))
 (cL (aa 4))))))
noncomputable def FF.bO:FF:=fm [true,true] 6 FF.eZ
noncomputable def FF.fT:FS:=(aF (bh 2 (dm FF.ao (ai (aa 0) (af (vC (.int 7))))))
 (aF (bh 3 (dm FF.ao (ai (aa 0) (af (vC (.int 4))))))
 (aF (bh 4 (eO gE))
 (aF (dw (cz (vB (lg false) (aa 2) (cG (ai (vC (.int 1)) (ai (vC (.int 2)) (af (vC (.int 3)))))))) (aF (bh 5 (iI (eO (ai (vC (.int 0)) (ai (vC (.int 4)) (ai (vC (.int 2)) (af (vC (.int 5))))))) (aa 2)))
 (gc (bC fj (af (aa 1))) (ah 6) (cB (pN 4 (af (jX 1 [6,5,0] (bC fj (af (aa 6))) (ah 0) (cz (vB wZ (aa 2) (vB mulM (vC (.int 2)) (dm FF.ao (ai (aa 3) (af (vC (.int 3)))))))) (cG (ai (aa 0) (af (aa 1)))))))))) bJ)
 (aF (dw (cz (vB (mV false) (aa 2) (vC (.int 4)))) (bh 4 (jX 1 [0] (bC vc (ai (vC (.int 1)) (af (aa 1)))) (ah 0) cH (cG (ai (dm FF.ao (ai (aa 1) (af (aa 0)))) (af (aa 0)))))) bJ)
 (aF (dw (uU (cz (vB (mV false) (aa 2) (vC (.int 5)))) (cz (vB wZ (aa 1) (vC (.int 2))))) (bh 4 (vB bH (jX 1 [] (bC fj (af (vB jh (aa 1) (vC (.int 1))))) (ah 0) cH (cG (ai (aa 0) (af (vB bH (aa 0) (vC (.int 1))))))) (eO (af (cG (ai (vC (.int 0)) (af (vB jh (aa 1) (vC (.int 1)))))))))) bJ)
 (aF (dw (cz (vB (mV false) (aa 2) (vC (.int 6)))) (aF (bh 4 (jX 1 [] (bC fj (af (vB jh (aa 1) (vC (.int 1))))) (ah 0) (cz (vB CU (vB iG (aa 0) (vC (.int 3))) (vC (.int 2)))) (cG (ai (aa 0) (af (vB bH (aa 0) (vC (.int 1))))))))
 (cB (pN 4 (af (jX 1 [] (bC fj (af (vB jh (aa 1) (vC (.int 3))))) (ah 0) cH (cG (ai (aa 0) (af (vB bH (aa 0) (vC (.int 3))))))))))) bJ)
 (aF (gc (bC fj (af (vB mulM (aa 3) (eL iy (af (jg (vB wZ (aa 2) (vC (.int 3))) (vB wZ (aa 1) (vC (.int 1))))))))) (ah 7) (aF (bh 6 (vB bH (vC (.int 1)) (dm FF.ao (ai (aa 0) (af (vB jh (aa 1) (vC (.int 1))))))))
 (cB (mX 4 (af (cG (ai (dm FF.ao (ai (aa 0) (af (aa 6)))) (af (aa 6)))))))))
 (cL (w9 (eL CZ (af (aa 4))) dZ (d7 (vC (.int 60)))))))))))))
noncomputable def FF.bU:FF:=fm [true,true] 8 FF.fT
noncomputable def FF.gR:FS:=(aF (bh 2 (dm FF.bO (ai (aa 0) (af (aa 1)))))
 (aF (bh 3 (jX 2 [2] (cO (dm FF.bU (ai (aa 0) (af (aa 1))))) (bX 2 (aC (ah 0) (aC (ah 1) cC))) cH (cG (ai (iI (aa 2) (aa 0)) (af (iI (aa 2) (aa 1)))))))
 (cL (cG (ai (eL ji (af (aa 2))) (af (eL ji (af (aa 3)))))))))
noncomputable def FF.bW:FF:=fm [true,true] 4 FF.gR
noncomputable def FF.e9:FS:=(aF (bh 2 (eO gE))
 (aF (gc (cO (aa 1)) (ah 3) (cB (xM 2 (ai (dm FF.ao (ai (aa 0) (af (vB bH (eL iK (af (aa 2))) (vC (.int 1)))))) (af (aa 3))))))
 (cL (aa 2))))
noncomputable def FF.bu:FF:=fm [true,true] 4 FF.e9
noncomputable def FF.dG:FS:=(cL (jX 2 [1] (cO (iI (aa 0) (vC (.int 1)))) (bX 2 (aC (ah 0) (aC (ah 1) cC))) (cz (vB (lg false) (aa 2) (cG (ai (aa 0) (af (aa 1)))))) (vB jh (vB bH (aa 0) (aa 1)) (aa 2))))
noncomputable def FF.bP:FF:=fm [true,true] 2 FF.dG
noncomputable def FF.eK:FS:=(aF (bh 2 (eO gE))
 (aF (gc (bC fj (af (eL iK (af (aa 1))))) (ah 3) (aF (r9 (cG (ai (w9 (aa 1) dZ (d7 (vB bH (aa 3) (vC (.int 1))))) (af (w9 (aa 1) (d7 (vB bH (aa 3) (vC (.int 1)))) dZ)))) (bX 2 (aC (ah 4) (aC (ah 5) cC))))
 (aF (bh 6 (eO gE))
 (aF (gc (cO (aa 4)) (ah 7) (aF (bh 8 (eL (allM true) (af (jX 1 [5] (cO (dm FF.bP (ai (aa 0) (af (aa 7))))) (ah 0) cH (vB (lg false) (aa 0) (aa 1))))))
 (cB (pN 6 (af (vB mulR (eO (af (aa 7))) (eL iy (af (aa 8)))))))))
 (cB (mX 2 (af (eL iK (af (aa 6))))))))))
 (cL (eL ji (af (aa 2))))))
noncomputable def FF.bE:FF:=fm [true,true] 9 FF.eK
noncomputable def FF.az:Nat->FF
 | 0=>fun _=>none
 | n+1=>fm [true,true] 2 (aF (dw (iJ (vU (lB "tuple") (aa 1))) (aF (dw (CT (kU (iJ (vU (lB "tuple") (aa 0)))) (cz (vB (mV true) (eL iK (af (aa 0))) (eL iK (af (aa 1)))))) (cL (vC (.bool false))) bJ)
 (cL (eL (allM false) (af (jX 2 [] (bC xx (ai (aa 0) (af (aa 1)))) (bX 2 (aC (ah 0) (aC (ah 1) cC))) cH (dm (FF.az n) (ai (aa 0) (af (aa 1))))))))) bJ)
 (aF (dw (cz (vB (uX false) (aa 1) (vC .none))) (cL (vB (uX false) (aa 0) (vC .none))) bJ)
 (aF (dw (iJ (vU (lB "bool") (aa 1))) (cL (jg (vU (lB "bool") (aa 0)) (vB (mV false) (aa 0) (aa 1)))) bJ)
 (aF (dw (iJ (vU (lB "str") (aa 1))) (cL (jg (vU (lB "str") (aa 0)) (vB (mV false) (aa 0) (aa 1)))) bJ)
 (cL (jg (vU (lB "int") (aa 0)) (jg (tK (vU (lB "bool") (aa 0))) (vB (mV false) (aa 0) (aa 1)))))))))
noncomputable def FF.fU:FS:=(aF (bh 2 (dm FF.bE (ai (aa 0) (af (aa 1)))))
 (aF (gc (bC fj (af (vC (.int 2)))) (ah 3) (aF (dw (kU (iJ (dm (FF.az 4) (ai (dm FF.bx (ai (aa 0) (af (aa 1)))) (af (aa 2)))))) (cL (vC (.bool false))) bJ)
 (dw (kU (iJ (dm (FF.az 4) (ai (dm FF.cJ (ai (aa 0) (af (aa 1)))) (af (eL (lN (0)) (af (aa 2)))))))) (cL (vC (.bool false))) bJ)))
 (cL (vC (.bool true)))))
noncomputable def FF.bF:FF:=fm [true,true] 4 FF.fU
noncomputable def FF.mw:FS:=(aF (bh 1 (dm FF.cR (af (aa 0))))
 (aF (gc (bC fj (af (vC (.int 3)))) (ah 2) (aF (bh 3 (vB (mV false) (dm FF.ao (ai (aa 1) (af (vC (.int 4))))) (vC (.int 0))))
 (aF (bh 4 (dm FF.bW (ai (aa 1) (af (dm FF.ao (ai (aa 1) (af (iI (eO (ai (vC (.int 10)) (af (vC (.int 25))))) (eL iy (af (aa 3)))))))))))
 (gc (cO (cG (ai (iI (aa 4) (vC (.int 0))) (ai (vB xF (iI (aa 4) (vC (.int 0))) (vU uZ (vC (.int 1)))) (af (eL ji (af (dm FF.bu (ai (aa 1) (af (iI (aa 4) (vC (.int 0))))))))))))) (ah 5) (dw (kU (iJ (dm FF.bF (ai (aa 4) (af (aa 5)))))) (cL (vC (.bool false))) bJ)))))
 (cL (vC (.bool true)))))
noncomputable def FF.qV:FF:=fm [true] 6 FF.mw
end
section
namespace Lk23
open PySem L2 VL PyProof.Rows
noncomputable def top (i:Nat):Stmt:=PySem.Challenge.pw_drawnweb_k23_spreads_of_orders.main.body.getD i (.Pass ⟨0,0,0,0⟩)
structure Txt (mg:Str->Option Value):Prop where
 z_sorted:mg "sorted" = none
 z_tuple:mg "tuple" = none
 z_any:mg "any" = none
 z_len:mg "len" = none
 z_range:mg "range" = none
 z_max:mg "max" = none
 z_abs:mg "abs" = none
 z_set:mg "set" = none
 z_int:mg "int" = none
 z_isinstance:mg "isinstance" = none
 z_bool:mg "bool" = none
 z_str:mg "str" = none
 z_zip:mg "zip" = none
 z_all:mg "all" = none
section
variable {P:Program} {w:World} {K:PySem.W.Frag} {mg:Str->Option Value} {base:Heap} {f:Addr} {fd:FuncData}
noncomputable abbrev s_nears:Stmt:=top 1
theorem sc_nears:aT ["web", "places", "ties", "beside", "a", "b"] ["web"] (aq s_nears):=⟨rfl,rfl,rfl,by decide +kernel,rfl,by decide +kernel,by decide +kernel⟩
theorem ok_nears (Fn:mE K "nears" "nears" s_nears f fd) (T:Txt mg):cu P w K mg base jx 1 f fd ["web"] (cT K FF.eF) :=
 bM [true] Fn sc_nears rfl fun cdv A outer s H E hr=>(by
  have hU:=hr.units;have hG:=hr.gd;exact (au (su (wv 0) (iP 2 rfl (bq (aA (i:=1) (by decide) sc_nears.nd rfl (Or.inl rfl)) (bq (aA (i:=2) (by decide) sc_nears.nd rfl (Or.inl rfl)) gf))))
  (au (aX (i:=3) (by decide) sc_nears.nd rfl (Or.inr rfl) (Ar true 1 [] rfl rfl rfl (aR.of (sc0:=aq s_nears) (N0:=["web", "places", "ties", "beside", "a", "b"]) (N:=["place"]) (fr:=[none]) rfl rfl (by decide +kernel)) (dD (wv 1)) (fun _=>⟨(aA (i:=0) (by decide) (show (["place"]:List Str).Nodup by decide +kernel) rfl (Or.inl rfl)),fu,(wv 0),(dB jJ)⟩)))
  (au (ee PassesOwn.never rfl (dD (wv 2)) (iP 2 rfl (bq (aA (i:=4) (by decide) sc_nears.nd rfl (Or.inl rfl)) (bq (aA (i:=5) (by decide) sc_nears.nd rfl (Or.inl rfl)) gf))) (au (dM (t9 3 (C9 4) (C9 5) hU (pv 3) (fun _ _=>rfl) (fun _ _ h1 h2=>iX PySem.F.plainAttrs_list PySem.F.slot_list_append PySem.F.type_list_append dO h1 h2)))
  (ay (dM (t9 3 (C9 5) (C9 4) hU (pv 3) (fun _ _=>rfl) (fun _ _ h1 h2=>iX PySem.F.plainAttrs_list PySem.F.slot_list_append PySem.F.type_list_append dO h1 h2))))))
  (ay (aY (Ar false 1 [3] rfl rfl rfl (aR.of (sc0:=aq s_nears) (N0:=["web", "places", "ties", "beside", "a", "b"]) (N:=["place", "beside"]) (fr:=[none,some 3]) rfl rfl (by decide +kernel)) (dD (wv 1)) (fun _=>⟨(aA (i:=0) (by decide) (show (["place", "beside"]:List Str).Nodup by decide +kernel) rfl (Or.inl rfl)),fu,(wv 0),(jl fL rfl T.z_tuple (by decide +kernel) (aj (fO (u7 rfl) rfl T.z_sorted (by decide +kernel) (aj (cU hU (wv 1) (wv 0) (fun _ _=>rfl))))))⟩))))))))
noncomputable abbrev s_spread_at:Stmt:=top 3
theorem sc_spread_at:aT ["ties_of", "some"] ["ties_of", "some"] (aq s_spread_at):=⟨rfl,rfl,rfl,by decide +kernel,rfl,by decide +kernel,by decide +kernel⟩
theorem ok_spread_at (Fn:mE K "spread_at" "spread_at" s_spread_at f fd) (T:Txt mg):cu P w K mg base jx 1 f fd ["ties_of", "some"] (cT K FF.bD) :=
 bM [true,true] Fn sc_spread_at rfl fun cdv A outer s H E hr=>(by
  have hU:=hr.units;have hG:=hr.gd;exact (ay (aY (fO iL rfl T.z_len (by decide +kernel) (aj (jm 1 [1,0] rfl rfl rfl (aR.of (sc0:=aq s_spread_at) (N0:=["ties_of", "some"]) (N:=["place", "some", "ties_of"]) (fr:=[none,some 1,some 0]) rfl rfl (by decide +kernel)) (dD (wv 1)) (fun _=>⟨(aA (i:=0) (by decide) (show (["place", "some", "ties_of"]:List Str).Nodup by decide +kernel) rfl (Or.inl rfl)),(pK (gK (fO (xm rfl) rfl T.z_any (by decide +kernel) (aj (jm 1 [1] rfl rfl rfl (aR.of (sc0:=_) (N0:=["place", "some", "ties_of"]) (N:=["other", "some"]) (fr:=[none,some 1]) rfl rfl (by kernel_rfl)) (dD (cU hU (wv 2) (wv 0) (fun _ _=>rfl))) (fun _=>⟨(aA (i:=0) (by decide) (show (["other", "some"]:List Str).Nodup by decide +kernel) rfl (Or.inl rfl)),fu,(xE hU (wv 0) (wv 1))⟩)))))),(wv 0)⟩)))))))
noncomputable abbrev s_spreads:Stmt:=top 4
theorem sc_spreads:aT ["web", "order", "ties_of"] ["web", "order"] (aq s_spreads):=⟨rfl,rfl,rfl,by decide +kernel,rfl,by decide +kernel,by decide +kernel⟩
theorem ok_spreads (Fn:mE K "spreads" "spreads" s_spreads f fd) (T:Txt mg) (C_spread_at:aS P w K mg base "spread_at" ["ties_of", "some"] 1 (cT K FF.bD)) (C_nears:aS P w K mg base "nears" ["web"] 1 (cT K FF.eF)):cu P w K mg base jx 2 f fd ["web", "order"] (cT K FF.bx) :=
 bM [true,true] Fn sc_spreads rfl fun cdv A outer s H E hr=>(by
  have hU:=hr.units;have hG:=hr.gd;exact (au (aX (i:=2) (by decide) sc_spreads.nd rfl (Or.inr rfl) (bw C_nears hr rfl (aj (wv 0))))
  (ay (aY (jl fL rfl T.z_tuple (by decide +kernel) (aj (jm 1 [2,1] rfl rfl rfl (aR.of (sc0:=aq s_spreads) (N0:=["web", "order", "ties_of"]) (N:=["at", "ties_of", "order"]) (fr:=[none,some 2,some 1]) rfl rfl (by decide +kernel)) (cQ rfl T.z_range (aj (fO iL rfl T.z_len (by decide +kernel) (aj (wv 1))))) (fun _=>⟨(aA (i:=0) (by decide) (show (["at", "ties_of", "order"]:List Str).Nodup by decide +kernel) rfl (Or.inl rfl)),fu,(bw C_spread_at hr rfl (av (wv 1) (aj (qE (wv 2) jj (jk (aH bQ (wv 0) ak))))))⟩))))))))
noncomputable abbrev s_spread:Stmt:=top 5
theorem sc_spread:aT ["web", "order"] ["web", "order"] (aq s_spread):=⟨rfl,rfl,rfl,by decide +kernel,rfl,by decide +kernel,by decide +kernel⟩
theorem ok_spread (Fn:mE K "spread" "spread" s_spread f fd) (T:Txt mg) (C_spreads:aS P w K mg base "spreads" ["web", "order"] 2 (cT K FF.bx)):cu P w K mg base jx 3 f fd ["web", "order"] (cT K FF.cJ) :=
 bM [true,true] Fn sc_spread rfl fun cdv A outer s H E hr=>(by
  have hU:=hr.units;have hG:=hr.gd;exact (ay (aY (ue rfl rfl T.z_max (by decide +kernel) (aj (bw C_spreads hr rfl (av (wv 0) (aj (wv 1)))))))))
noncomputable abbrev s_law_pot:Stmt:=top 7
theorem sc_law_pot:aT ["_law_script", "_law_digits", "_law_weight", "_law_seed", "_law_cell"] ["_law_script"] (aq s_law_pot):=⟨rfl,rfl,rfl,by decide +kernel,rfl,by decide +kernel,by decide +kernel⟩
theorem ok_law_pot (Fn:mE K "_law_pot" "_law_pot" s_law_pot f fd) (T:Txt mg):cu P w K mg base jx 1 f fd ["_law_script"] (cT K FF.cR) :=
 bM [true] Fn sc_law_pot rfl fun cdv A outer s H E hr=>(by
  have hU:=hr.units;have hG:=hr.gd;exact (au (su (cP (av ak (av ak (aj ak)))) (iP 3 rfl (bq (aA (i:=1) (by decide) sc_law_pot.nd rfl (Or.inl rfl)) (bq (aA (i:=2) (by decide) sc_law_pot.nd rfl (Or.inl rfl)) (bq (aA (i:=3) (by decide) sc_law_pot.nd rfl (Or.inl rfl)) gf)))))
  (au (ee PassesOwn.never rfl (dD (qE (wv 0) jj (jk ak))) (aA (i:=4) (by decide) sc_law_pot.nd rfl (Or.inl rfl)) (au (aX (i:=3) (by decide) sc_law_pot.nd rfl (Or.inl rfl) (aH gG (aH kY (aH bQ (aH bQ (aH kX (wv 3) ak) (aH gG (wv 4) ak)) ak) ak) ak))
  (ay (eX (fq (ov_ge hU) (fO xj rfl T.z_abs (by decide +kernel) (aj (wv 4))) (aH kY ak ak) (bT _)) (au (aX (i:=1) (by decide) sc_law_pot.nd rfl (Or.inl rfl) (aH bQ (wv 1) (aH uf (aH gG (fO xj rfl T.z_abs (by decide +kernel) (aj (wv 4))) (aH kY ak ak)) (wv 2))))
  (ay (aX (i:=2) (by decide) sc_law_pot.nd rfl (Or.inl rfl) (aH uf (wv 2) (aH kY ak ak))))) bS))))
  (ay (aY (dB (av (wv 1) (av (wv 3) (aj ak)))))))))
noncomputable abbrev s_law_take:Stmt:=top 8
theorem sc_law_take:aT ["_law_pot_here", "_law_many", "_law_digit"] ["_law_pot_here", "_law_many"] (aq s_law_take):=⟨rfl,rfl,rfl,by decide +kernel,rfl,by decide +kernel,by decide +kernel⟩
theorem ok_law_take (Fn:mE K "_law_take" "_law_take" s_law_take f fd) (T:Txt mg):cu P w K mg base jx 1 f fd ["_law_pot_here", "_law_many"] (cT K FF.ao) :=
 bM [true,true] Fn sc_law_take rfl fun cdv A outer s H E hr=>(by
  have hU:=hr.units;have hG:=hr.gd;exact (au (eX (fq qv (cU hU (wv 0) ak (fun _ _=>rfl)) ak (bT _)) (au (aX (i:=2) (by decide) sc_law_take.nd rfl (Or.inl rfl) (aH gG (cU hU (wv 0) ak (fun _ _=>rfl)) (wv 1)))
  (au (sy 0 hU (pv 0) ak (aH tN (cU hU (wv 0) ak (fun _ _=>rfl)) (wv 1)) rfl (fun _ _ h1 h2=>kg h1 h2) (fun _ _ h1 h2=>rj h1 h2 set_list))
  (ay (aY (wv 2))))) bS)
  (au (sy 0 hU (pv 0) ak (aH bQ (cU hU (wv 0) ak (fun _ _=>rfl)) ak) rfl (fun _ _ h1 h2=>kg h1 h2) (fun _ _ h1 h2=>rj h1 h2 set_list))
  (au (sy 0 hU (pv 0) ak (aH gG (aH bQ (aH bQ (aH kX (cU hU (wv 0) ak (fun _ _=>rfl)) ak) (aH kX ak (cU hU (wv 0) ak (fun _ _=>rfl)))) ak) ak) rfl (fun _ _ h1 h2=>kg h1 h2) (fun _ _ h1 h2=>rj h1 h2 set_list))
  (ay (aY (aH gG (aH tN (aH gG (aH kY (cU hU (wv 0) ak (fun _ _=>rfl)) ak) ak) ak) (wv 1))))))))
noncomputable abbrev s_law_places:Stmt:=top 9
theorem sc_law_places:aT ["_law_pot_here", "_law_many", "_law_wide", "_law_at", "_law_places_here", "_law_k"] ["_law_pot_here", "_law_many"] (aq s_law_places):=⟨rfl,rfl,rfl,by decide +kernel,rfl,by decide +kernel,by decide +kernel⟩
theorem ok_law_places (Fn:mE K "_law_places" "_law_places" s_law_places f fd) (T:Txt mg) (C_law_take:aS P w K mg base "_law_take" ["_law_pot_here", "_law_many"] 1 (cT K FF.ao)):cu P w K mg base jx 2 f fd ["_law_pot_here", "_law_many"] (cT K FF.bO) :=
 bM [true,true] Fn sc_law_places rfl fun cdv A outer s H E hr=>(by
  have hU:=hr.units;have hG:=hr.gd;exact (au (aX (i:=2) (by decide) sc_law_places.nd rfl (Or.inl rfl) (bw C_law_take hr rfl (av (wv 0) (aj ak))))
  (au (aX (i:=3) (by decide) sc_law_places.nd rfl (Or.inl rfl) (bw C_law_take hr rfl (av (wv 0) (aj ak))))
  (au (aX (i:=4) (by decide) sc_law_places.nd rfl (Or.inl rfl) (dB jJ))
  (au (ee PassesOwn.never rfl (cQ rfl T.z_range (aj (wv 1))) (aA (i:=5) (by decide) sc_law_places.nd rfl (Or.inl rfl)) (au (dM (sj 4 (aj (wv 3)) (fun _ _ h1 h2=>iX PySem.F.plainAttrs_list PySem.F.slot_list_append PySem.F.type_list_append dO h1 h2) (pv 4)))
  (ay (aX (i:=3) (by decide) sc_law_places.nd rfl (Or.inl rfl) (aH bQ (aH bQ (wv 3) ak) (cU hU (dB (av ak (av (bw C_law_take hr rfl (av (wv 0) (aj ak))) (aj (bw C_law_take hr rfl (av (wv 0) (aj ak))))))) (wv 2) (fun _ _=>rfl)))))))
  (ay (aY (wv 4))))))))
noncomputable abbrev s_law_pairs:Stmt:=top 10
theorem sc_law_pairs:aT ["_law_pot_here", "_law_many", "_law_mode", "_law_more", "_law_pairs_here", "_law_bar", "_law_b", "_law_k"] ["_law_pot_here", "_law_many"] (aq s_law_pairs):=⟨rfl,rfl,rfl,by decide +kernel,rfl,by decide +kernel,by decide +kernel⟩
theorem ok_law_pairs (Fn:mE K "_law_pairs" "_law_pairs" s_law_pairs f fd) (T:Txt mg) (C_law_take:aS P w K mg base "_law_take" ["_law_pot_here", "_law_many"] 1 (cT K FF.ao)):cu P w K mg base jx 2 f fd ["_law_pot_here", "_law_many"] (cT K FF.bU) :=
 bM [true,true] Fn sc_law_pairs rfl fun cdv A outer s H E hr=>(by
  have hU:=hr.units;have hG:=hr.gd;exact (au (aX (i:=2) (by decide) sc_law_pairs.nd rfl (Or.inl rfl) (bw C_law_take hr rfl (av (wv 0) (aj ak))))
  (au (aX (i:=3) (by decide) sc_law_pairs.nd rfl (Or.inl rfl) (bw C_law_take hr rfl (av (wv 0) (aj ak))))
  (au (aX (i:=4) (by decide) sc_law_pairs.nd rfl (Or.inl rfl) (dB jJ))
  (au (eX (Ao hU (wv 2) (cP (av ak (av ak (aj ak))))) (au (aX (i:=5) (by decide) sc_law_pairs.nd rfl (Or.inr rfl) (cU hU (dB (av ak (av ak (av ak (aj ak))))) (wv 2) (fun _ _=>rfl)))
  (ay (ee PassesOwn.never rfl (cQ rfl T.z_range (aj (wv 1))) (aA (i:=6) (by decide) sc_law_pairs.nd rfl (Or.inr rfl)) (ay (dM (sA 4 (aj (jm 1 [6,5,0] rfl rfl rfl (aR.of (sc0:=aq s_law_pairs) (N0:=["_law_pot_here", "_law_many", "_law_mode", "_law_more", "_law_pairs_here", "_law_bar", "_law_b", "_law_k"]) (N:=["_law_a", "_law_b", "_law_bar", "_law_pot_here"]) (fr:=[none,some 6,some 5,some 0]) rfl rfl (by decide +kernel)) (cQ rfl T.z_range (aj (wv 6))) (fun _=>⟨(aA (i:=0) (by decide) (show (["_law_a", "_law_b", "_law_bar", "_law_pot_here"]:List Str).Nodup by decide +kernel) rfl (Or.inl rfl)),(pK (fq qv (wv 2) (aH kX ak (bw C_law_take hr rfl (av (wv 3) (aj ak)))) (bT _))),(cP (av (wv 0) (aj (wv 1))))⟩))) (fun _ _ h1 h2=>iX PySem.F.plainAttrs_list PySem.F.slot_list_extend PySem.F.type_list_extend jA h1 h2) (pv 4))))))) bS)
  (au (eX (fq (kZ hU) (wv 2) ak (bT _)) (ay (sr (i:=4) 1 [0] (by decide) sc_law_pairs.nd rfl rfl rfl rfl rfl (aR.of (sc0:=aq s_law_pairs) (N0:=["_law_pot_here", "_law_many", "_law_mode", "_law_more", "_law_pairs_here", "_law_bar", "_law_b", "_law_k"]) (N:=["_law_b", "_law_pot_here"]) (fr:=[none,some 0]) rfl rfl (by decide +kernel)) (zJ rfl T.z_range (av ak (aj (wv 1)))) (fun _=>⟨(aA (i:=0) (by decide) (show (["_law_b", "_law_pot_here"]:List Str).Nodup by decide +kernel) rfl (Or.inl rfl)),fu,(cP (av (bw C_law_take hr rfl (av (wv 1) (aj (wv 0)))) (aj (wv 0))))⟩))) bS)
  (au (eX (Aq (Cg (fq (kZ hU) (wv 2) ak (bT _)) (zI (fq qv (wv 1) ak (bT _))))) (ay (aX (i:=4) (by decide) sc_law_pairs.nd rfl (Or.inl rfl) (aH bQ (jm 1 [] rfl rfl rfl (aR.of (sc0:=aq s_law_pairs) (N0:=["_law_pot_here", "_law_many", "_law_mode", "_law_more", "_law_pairs_here", "_law_bar", "_law_b", "_law_k"]) (N:=["_law_a"]) (fr:=[none]) rfl rfl (by decide +kernel)) (cQ rfl T.z_range (aj (aH jG (wv 1) ak))) (fun _=>⟨(aA (i:=0) (by decide) (show (["_law_a"]:List Str).Nodup by decide +kernel) rfl (Or.inl rfl)),fu,(cP (av (wv 0) (aj (aH bQ (wv 0) ak))))⟩)) (dB (aj (cP (av ak (aj (aH jG (wv 1) ak))))))))) bS)
  (au (eX (fq (kZ hU) (wv 2) ak (bT _)) (au (sr (i:=4) 1 [] (by decide) sc_law_pairs.nd rfl rfl rfl rfl rfl (aR.of (sc0:=aq s_law_pairs) (N0:=["_law_pot_here", "_law_many", "_law_mode", "_law_more", "_law_pairs_here", "_law_bar", "_law_b", "_law_k"]) (N:=["_law_a"]) (fr:=[none]) rfl rfl (by decide +kernel)) (cQ rfl T.z_range (aj (aH jG (wv 1) ak))) (fun _=>⟨(aA (i:=0) (by decide) (show (["_law_a"]:List Str).Nodup by decide +kernel) rfl (Or.inl rfl)),(pK (fq (ov_lt hU) (aH gG (wv 0) ak) ak (bT _))),(cP (av (wv 0) (aj (aH bQ (wv 0) ak))))⟩))
  (ay (dM (sA 4 (aj (jm 1 [] rfl rfl rfl (aR.of (sc0:=aq s_law_pairs) (N0:=["_law_pot_here", "_law_many", "_law_mode", "_law_more", "_law_pairs_here", "_law_bar", "_law_b", "_law_k"]) (N:=["_law_a"]) (fr:=[none]) rfl rfl (by decide +kernel)) (cQ rfl T.z_range (aj (aH jG (wv 1) ak))) (fun _=>⟨(aA (i:=0) (by decide) (show (["_law_a"]:List Str).Nodup by decide +kernel) rfl (Or.inl rfl)),fu,(cP (av (wv 0) (aj (aH bQ (wv 0) ak))))⟩))) (fun _ _ h1 h2=>iX PySem.F.plainAttrs_list PySem.F.slot_list_extend PySem.F.type_list_extend jA h1 h2) (pv 4))))) bS)
  (au (ee PassesOwn.never rfl (cQ rfl T.z_range (aj (aH kX (wv 3) (jl r6 rfl T.z_int (by decide +kernel) (aj (lI (iO qv (wv 2) ak (bT _)) (pJ (iO qv (wv 1) ak (bT _))))))))) (aA (i:=7) (by decide) sc_law_pairs.nd rfl (Or.inl rfl)) (au (aX (i:=6) (by decide) sc_law_pairs.nd rfl (Or.inr rfl) (aH bQ ak (bw C_law_take hr rfl (av (wv 0) (aj (aH jG (wv 1) ak))))))
  (ay (dM (sj 4 (aj (cP (av (bw C_law_take hr rfl (av (wv 0) (aj (wv 6)))) (aj (wv 6))))) (fun _ _ h1 h2=>iX PySem.F.plainAttrs_list PySem.F.slot_list_append PySem.F.type_list_append dO h1 h2) (pv 4))))))
  (ay (aY (qE (sO rfl hU rfl T.z_sorted rfl T.z_set (aj (wv 4))) jj (jk ak)))))))))))))
noncomputable abbrev s_law_web:Stmt:=top 11
theorem sc_law_web:aT ["_law_pot_here", "_law_many", "_law_places_here", "_law_ties"] ["_law_pot_here", "_law_many"] (aq s_law_web):=⟨rfl,rfl,rfl,by decide +kernel,rfl,by decide +kernel,by decide +kernel⟩
theorem ok_law_web (Fn:mE K "_law_web" "_law_web" s_law_web f fd) (T:Txt mg) (C_law_pairs:aS P w K mg base "_law_pairs" ["_law_pot_here", "_law_many"] 2 (cT K FF.bU)) (C_law_places:aS P w K mg base "_law_places" ["_law_pot_here", "_law_many"] 2 (cT K FF.bO)):cu P w K mg base jx 3 f fd ["_law_pot_here", "_law_many"] (cT K FF.bW) :=
 bM [true,true] Fn sc_law_web rfl fun cdv A outer s H E hr=>(by
  have hU:=hr.units;have hG:=hr.gd;exact (au (aX (i:=2) (by decide) sc_law_web.nd rfl (Or.inr rfl) (bw C_law_places hr rfl (av (wv 0) (aj (wv 1)))))
  (au (sr (i:=3) 2 [2] (by decide) sc_law_web.nd rfl rfl rfl rfl rfl (aR.of (sc0:=aq s_law_web) (N0:=["_law_pot_here", "_law_many", "_law_places_here", "_law_ties"]) (N:=["_law_a", "_law_b", "_law_places_here"]) (fr:=[none,none,some 2]) rfl rfl (by decide +kernel)) (dD (bw C_law_pairs hr rfl (av (wv 0) (aj (wv 1))))) (fun _=>⟨(iP 2 rfl (bq (aA (i:=0) (by decide) (show (["_law_a", "_law_b", "_law_places_here"]:List Str).Nodup by decide +kernel) rfl (Or.inl rfl)) (bq (aA (i:=1) (by decide) (show (["_law_a", "_law_b", "_law_places_here"]:List Str).Nodup by decide +kernel) rfl (Or.inl rfl)) gf))),fu,(cP (av (cU hU (wv 2) (wv 0) (fun _ _=>rfl)) (aj (cU hU (wv 2) (wv 1) (fun _ _=>rfl)))))⟩))
  (ay (aY (cP (av (jl fL rfl T.z_tuple (by decide +kernel) (aj (wv 2))) (aj (jl fL rfl T.z_tuple (by decide +kernel) (aj (wv 3)))))))))))
noncomputable abbrev s_law_turned:Stmt:=top 12
theorem sc_law_turned:aT ["_law_pot_here", "_law_some", "_law_found", "_law_one"] ["_law_pot_here", "_law_some"] (aq s_law_turned):=⟨rfl,rfl,rfl,by decide +kernel,rfl,by decide +kernel,by decide +kernel⟩
theorem ok_law_turned (Fn:mE K "_law_turned" "_law_turned" s_law_turned f fd) (T:Txt mg) (C_law_take:aS P w K mg base "_law_take" ["_law_pot_here", "_law_many"] 1 (cT K FF.ao)):cu P w K mg base jx 2 f fd ["_law_pot_here", "_law_some"] (cT K FF.bu) :=
 bM [true,true] Fn sc_law_turned rfl fun cdv A outer s H E hr=>(by
  have hU:=hr.units;have hG:=hr.gd;exact (au (aX (i:=2) (by decide) sc_law_turned.nd rfl (Or.inl rfl) (dB jJ))
  (au (ee PassesOwn.never rfl (dD (wv 1)) (aA (i:=3) (by decide) sc_law_turned.nd rfl (Or.inl rfl)) (ay (dM (Cs 2 (av (bw C_law_take hr rfl (av (wv 0) (aj (aH bQ (fO iL rfl T.z_len (by decide +kernel) (aj (wv 2))) ak)))) (aj (wv 3))) (fun _ _ h1 h2=>iX PySem.F.plainAttrs_list PySem.F.slot_list_insert PySem.F.type_list_insert vf h1 h2) (pv 2)))))
  (ay (aY (wv 2))))))
noncomputable abbrev s_law_near:Stmt:=top 13
theorem sc_law_near:aT ["_law_web_here", "_law_place"] ["_law_web_here", "_law_place"] (aq s_law_near):=⟨rfl,rfl,rfl,by decide +kernel,rfl,by decide +kernel,by decide +kernel⟩
theorem ok_law_near (Fn:mE K "_law_near" "_law_near" s_law_near f fd) (T:Txt mg):cu P w K mg base jx 1 f fd ["_law_web_here", "_law_place"] (cT K FF.bP) :=
 bM [true,true] Fn sc_law_near rfl fun cdv A outer s H E hr=>(by
  have hU:=hr.units;have hG:=hr.gd;exact (ay (aY (jm 2 [1] rfl rfl rfl (aR.of (sc0:=aq s_law_near) (N0:=["_law_web_here", "_law_place"]) (N:=["_law_a", "_law_b", "_law_place"]) (fr:=[none,none,some 1]) rfl rfl (by decide +kernel)) (dD (cU hU (wv 0) ak (fun _ _=>rfl))) (fun _=>⟨(iP 2 rfl (bq (aA (i:=0) (by decide) (show (["_law_a", "_law_b", "_law_place"]:List Str).Nodup by decide +kernel) rfl (Or.inl rfl)) (bq (aA (i:=1) (by decide) (show (["_law_a", "_law_b", "_law_place"]:List Str).Nodup by decide +kernel) rfl (Or.inl rfl)) gf))),(pK (Ao hU (wv 2) (cP (av (wv 0) (aj (wv 1)))))),(aH jG (aH bQ (wv 0) (wv 1)) (wv 2))⟩)))))
noncomputable abbrev s_law_spreads:Stmt:=top 14
theorem sc_law_spreads:aT ["_law_web_here", "_law_order", "_law_found", "_law_at", "_law_first", "_law_later", "_law_some", "_law_place", "_law_tied"] ["_law_web_here", "_law_order"] (aq s_law_spreads):=⟨rfl,rfl,rfl,by decide +kernel,rfl,by decide +kernel,by decide +kernel⟩
theorem ok_law_spreads (Fn:mE K "_law_spreads" "_law_spreads" s_law_spreads f fd) (T:Txt mg) (C_law_near:aS P w K mg base "_law_near" ["_law_web_here", "_law_place"] 1 (cT K FF.bP)):cu P w K mg base jx 2 f fd ["_law_web_here", "_law_order"] (cT K FF.bE) :=
 bM [true,true] Fn sc_law_spreads rfl fun cdv A outer s H E hr=>(by
  have hU:=hr.units;have hG:=hr.gd;exact (au (aX (i:=2) (by decide) sc_law_spreads.nd rfl (Or.inl rfl) (dB jJ))
  (au (ee PassesOwn.never rfl (cQ rfl T.z_range (aj (fO iL rfl T.z_len (by decide +kernel) (aj (wv 1))))) (aA (i:=3) (by decide) sc_law_spreads.nd rfl (Or.inl rfl)) (au (su (cP (av (qE (wv 1) jj (jk (aH bQ (wv 3) ak))) (aj (qE (wv 1) (jk (aH bQ (wv 3) ak)) jj)))) (iP 2 rfl (bq (aA (i:=4) (by decide) sc_law_spreads.nd rfl (Or.inl rfl)) (bq (aA (i:=5) (by decide) sc_law_spreads.nd rfl (Or.inr rfl)) gf))))
  (au (aX (i:=6) (by decide) sc_law_spreads.nd rfl (Or.inl rfl) (dB jJ))
  (au (ee PassesOwn.never rfl (dD (wv 4)) (aA (i:=7) (by decide) sc_law_spreads.nd rfl (Or.inl rfl)) (au (aX (i:=8) (by decide) sc_law_spreads.nd rfl (Or.inl rfl) (fO (xm rfl) rfl T.z_any (by decide +kernel) (aj (jm 1 [5] rfl rfl rfl (aR.of (sc0:=aq s_law_spreads) (N0:=["_law_web_here", "_law_order", "_law_found", "_law_at", "_law_first", "_law_later", "_law_some", "_law_place", "_law_tied"]) (N:=["_law_one", "_law_later"]) (fr:=[none,some 5]) rfl rfl (by decide +kernel)) (dD (bw C_law_near hr rfl (av (wv 0) (aj (wv 7))))) (fun _=>⟨(aA (i:=0) (by decide) (show (["_law_one", "_law_later"]:List Str).Nodup by decide +kernel) rfl (Or.inl rfl)),fu,(we_in hU (wv 0) (wv 1))⟩)))))
  (ay (dM (sA 6 (aj (aH Cv (dB (aj (wv 7))) (jl r6 rfl T.z_int (by decide +kernel) (aj (wv 8))))) (fun _ _ h1 h2=>iX PySem.F.plainAttrs_list PySem.F.slot_list_extend PySem.F.type_list_extend jA h1 h2) (pv 6))))))
  (ay (dM (sj 2 (aj (fO iL rfl T.z_len (by decide +kernel) (aj (wv 6)))) (fun _ _ h1 h2=>iX PySem.F.plainAttrs_list PySem.F.slot_list_append PySem.F.type_list_append dO h1 h2) (pv 2))))))))
  (ay (aY (jl fL rfl T.z_tuple (by decide +kernel) (aj (wv 2))))))))
noncomputable abbrev s_law_same:Stmt:=top 15
theorem sc_law_same:aT ["_law_found", "_law_due"] ["_law_found", "_law_due"] (aq s_law_same):=⟨rfl,rfl,rfl,by decide +kernel,rfl,by decide +kernel,by decide +kernel⟩
theorem ok_law_same (Fn:mE K "_law_same" "_law_same" s_law_same f fd) (T:Txt mg) (bd:Binds K fd ["_law_found", "_law_due"] []) (hm:mg "_law_same" = some (.ref f)):∀n,cu P w K mg base jx (n+1) f fd ["_law_found", "_law_due"] (cT K (FF.az n))
 | 0=>zK
 | n+1=>by
  have C_law_same:aS P w K mg base "_law_same" ["_law_found", "_law_due"] (n+1) (cT K (FF.az n)):=⟨f,fd,ok_law_same Fn T bd hm n,bd,Fn.kp,hm⟩;exact bM [true,true] Fn sc_law_same rfl fun cdv A outer s H E hr=>(by
  have hU:=hr.units;have hG:=hr.gd;exact (au (eX (gK (gM "tuple" (by decide) (by decide) rfl T.z_isinstance (by decide +kernel) (wv 1) (eT (v:=.ty "tuple") rfl T.z_tuple (by decide +kernel) rfl))) (au (eX (Aq (ww_or (pI (gK (gM "tuple" (by decide) (by decide) rfl T.z_isinstance (by decide +kernel) (wv 0) (eT (v:=.ty "tuple") rfl T.z_tuple (by decide +kernel) rfl)))) (Cf (fq (ov_ne hU) (fO iL rfl T.z_len (by decide +kernel) (aj (wv 0))) (fO iL rfl T.z_len (by decide +kernel) (aj (wv 1))) (bT _))))) (ay (aY nP)) bS)
  (ay (aY (fO (BS rfl) rfl T.z_all (by decide +kernel) (aj (jm 2 [] rfl rfl rfl (aR.of (sc0:=aq s_law_same) (N0:=["_law_found", "_law_due"]) (N:=["_law_one", "_law_other"]) (fr:=[none,none]) rfl rfl (by decide +kernel)) (Ck rfl T.z_zip (av (wv 0) (aj (wv 1)))) (fun _=>⟨(iP 2 rfl (bq (aA (i:=0) (by decide) (show (["_law_one", "_law_other"]:List Str).Nodup by decide +kernel) rfl (Or.inl rfl)) (bq (aA (i:=1) (by decide) (show (["_law_one", "_law_other"]:List Str).Nodup by decide +kernel) rfl (Or.inl rfl)) gf))),fu,(bw C_law_same hr rfl (av (wv 0) (aj (wv 1))))⟩))))))) bS)
  (au (eX (fq Ak (wv 1) xD (bT _)) (ay (aY (iO Ak (wv 0) xD (bT _)))) bS)
  (au (eX (gK (gM "bool" (by decide) (by decide) rfl T.z_isinstance (by decide +kernel) (wv 1) (eT (v:=.ty "bool") rfl T.z_bool (by decide +kernel) rfl))) (ay (aY (lI (gM "bool" (by decide) (by decide) rfl T.z_isinstance (by decide +kernel) (wv 0) (eT (v:=.ty "bool") rfl T.z_bool (by decide +kernel) rfl)) (pJ (iO (kZ hU) (wv 0) (wv 1) (bT _)))))) bS)
  (au (eX (gK (gM "str" (by decide) (by decide) rfl T.z_isinstance (by decide +kernel) (wv 1) (eT (v:=.ty "str") rfl T.z_str (by decide +kernel) rfl))) (ay (aY (lI (gM "str" (by decide) (by decide) rfl T.z_isinstance (by decide +kernel) (wv 0) (eT (v:=.ty "str") rfl T.z_str (by decide +kernel) rfl)) (pJ (iO (kZ hU) (wv 0) (wv 1) (bT _)))))) bS)
  (ay (aY (lI (gM "int" (by decide) (by decide) rfl T.z_isinstance (by decide +kernel) (wv 0) (eT (v:=.ty "int") rfl T.z_int (by decide +kernel) rfl)) (lI (Ci (gM "bool" (by decide) (by decide) rfl T.z_isinstance (by decide +kernel) (wv 0) (eT (v:=.ty "bool") rfl T.z_bool (by decide +kernel) rfl))) (pJ (iO (kZ hU) (wv 0) (wv 1) (bT _))))))))))))
noncomputable abbrev s_law_right:Stmt:=top 16
theorem sc_law_right:aT ["_law_web_here", "_law_order", "_law_due", "_law_turn"] ["_law_web_here", "_law_order"] (aq s_law_right):=⟨rfl,rfl,rfl,by decide +kernel,rfl,by decide +kernel,by decide +kernel⟩
theorem ok_law_right (Fn:mE K "_law_right" "_law_right" s_law_right f fd) (T:Txt mg) (C_law_same:aS P w K mg base "_law_same" ["_law_found", "_law_due"] 5 (cT K (FF.az 4))) (C_spread:aS P w K mg base "spread" ["web", "order"] 3 (cT K FF.cJ)) (C_spreads:aS P w K mg base "spreads" ["web", "order"] 2 (cT K FF.bx)) (C_law_spreads:aS P w K mg base "_law_spreads" ["_law_web_here", "_law_order"] 2 (cT K FF.bE)):cu P w K mg base jx 6 f fd ["_law_web_here", "_law_order"] (cT K FF.bF) :=
 bM [true,true] Fn sc_law_right rfl fun cdv A outer s H E hr=>(by
  have hU:=hr.units;have hG:=hr.gd;exact (au (aX (i:=2) (by decide) sc_law_right.nd rfl (Or.inl rfl) (bw C_law_spreads hr rfl (av (wv 0) (aj (wv 1)))))
  (au (ee PassesOwn.never rfl (cQ rfl T.z_range (aj ak)) (aA (i:=3) (by decide) sc_law_right.nd rfl (Or.inl rfl)) (au (eX (pI (gK (bw C_law_same hr rfl (av (bw C_spreads hr rfl (av (wv 0) (aj (wv 1)))) (aj (wv 2)))))) (ay (aY nP)) bS)
  (ay (eX (pI (gK (bw C_law_same hr rfl (av (bw C_spread hr rfl (av (wv 0) (aj (wv 1)))) (aj (ue rfl rfl T.z_max (by decide +kernel) (aj (wv 2)))))))) (ay (aY nP)) bS))))
  (ay (aY nP)))))
noncomputable abbrev s_law:Stmt:=top 17
theorem sc_law:aT ["_law_script", "_law_pot_here", "_law_k", "_law_great", "_law_web_here", "_law_order"] ["_law_script"] (aq s_law):=⟨rfl,rfl,rfl,by decide +kernel,rfl,by decide +kernel,by decide +kernel⟩
theorem ok_law (Fn:mE K "law" "law" s_law f fd) (T:Txt mg) (C_law_turned:aS P w K mg base "_law_turned" ["_law_pot_here", "_law_some"] 2 (cT K FF.bu)) (C_law_right:aS P w K mg base "_law_right" ["_law_web_here", "_law_order"] 6 (cT K FF.bF)) (C_law_web:aS P w K mg base "_law_web" ["_law_pot_here", "_law_many"] 3 (cT K FF.bW)) (C_law_take:aS P w K mg base "_law_take" ["_law_pot_here", "_law_many"] 1 (cT K FF.ao)) (C_law_pot:aS P w K mg base "_law_pot" ["_law_script"] 1 (cT K FF.cR)):cu P w K mg base jx 7 f fd ["_law_script"] (cT K FF.qV) :=
 bM [true] Fn sc_law rfl fun cdv A outer s H E hr=>(by
  have hU:=hr.units;have hG:=hr.gd;exact (au (aX (i:=1) (by decide) sc_law.nd rfl (Or.inl rfl) (bw C_law_pot hr rfl (aj (wv 0))))
  (au (ee PassesOwn.never rfl (cQ rfl T.z_range (aj ak)) (aA (i:=2) (by decide) sc_law.nd rfl (Or.inl rfl)) (au (aX (i:=3) (by decide) sc_law.nd rfl (Or.inl rfl) (iO (kZ hU) (bw C_law_take hr rfl (av (wv 1) (aj ak))) ak (bT _)))
  (au (aX (i:=4) (by decide) sc_law.nd rfl (Or.inl rfl) (bw C_law_web hr rfl (av (wv 1) (aj (bw C_law_take hr rfl (av (wv 1) (aj (cU hU (dB (av ak (aj ak))) (jl r6 rfl T.z_int (by decide +kernel) (aj (wv 3))) (fun _ _=>rfl)))))))))
  (ay (ee PassesOwn.never rfl (dD (cP (av (cU hU (wv 4) ak (fun _ _=>rfl)) (av (Cn (cU hU (wv 4) ak (fun _ _=>rfl)) (Cj ak)) (aj (jl fL rfl T.z_tuple (by decide +kernel) (aj (bw C_law_turned hr rfl (av (wv 1) (aj (cU hU (wv 4) ak (fun _ _=>rfl)))))))))))) (aA (i:=5) (by decide) sc_law.nd rfl (Or.inl rfl)) (ay (eX (pI (gK (bw C_law_right hr rfl (av (wv 4) (aj (wv 5)))))) (ay (aY nP)) bS)))))))
  (ay (aY nP)))))
end
end Lk23
end
section
namespace PA
open PySem L2 VL
theorem j8 {a b:Int} (h:0<=b/\(Builtin.Int.intBits a:Int)*b<=2 ^ 27):iH (.v (.int a)) (.v (.int b))=some (.v (.int (a ^ b.toNat))):=if_pos (decide_eq_true h)
noncomputable abbrev pD (p:Int×Int):PyData:=.tuple [.int p.1,.int p.2]
noncomputable abbrev tD (ts:List (Int×Int)):PyData:=.tuple (ts.map pD)
noncomputable abbrev wD (ps:List Int) (ts:List (Int×Int)):PyData:=.tuple [tI ps,tD ts]
noncomputable abbrev enc (t:Int×Int):List Int:=[t.1,t.2]
noncomputable def dec (k:List Int):Int×Int:=(k.getD 0 0,k.getD 1 0)
def DE (a b:Int×Int):Prop:=a.1<b.1\/(a.1=b.1/\a.2<b.2)
instance (a b:Int×Int):Decidable (DE a b):=by unfold DE; infer_instance
theorem jN (n:Nat):aO 0 (n:Int)=(List.range n).map fun k:Nat=>PyData.int (0+(k:Int)):=by
 unfold aO;rw[Int.sub_zero,Int.toNat_natCast]
theorem gY {fe:FE} {cs:Ev} {f:PyData->PyData}:∀ (ds acc:List PyData) (x:Option M),(∀d∈ds,∃o,fe (some (.v d)::cs)=some (o,some (.v d)::cs)/\cA o (some (.v d)::cs)=some (f d,some (.v d)::cs))->acc.length+ds.length<=lim ->
  ∃y,bR (ah 0) cH fe ds (x::cs) acc=some (acc++ds.map f,y::cs)
 | [],acc,x,_,_=>⟨x,by rw[List.map_nil,List.append_nil]; rfl⟩
 | d::ds,acc,x,h,hl=>by
  obtain⟨o,e1,e2⟩:=h d lS;rw[List.length_cons] at hl;obtain⟨y,e3⟩:=gY (fe:=fe) (cs:=cs) (f:=f) ds (acc++[f d]) (some (.v d)) (fun d' hd=>h d' (lO _ hd)) (by rw[List.length_append,List.length_singleton]; lia)
  refine⟨y,?_⟩;show (ah 0 d (x::cs)).bind _=_;rw[show ah 0 d (x::cs)=some (some (.v d)::cs) by simp]
  show (fe (some (.v d)::cs)).bind _=_;rw[e1];show (cA o (some (.v d)::cs)).bind _=_;rw[e2];show (if acc.length<lim then _ else _)=_
  rw[if_pos (by lia)]
  rw[show bR (ah 0) cH fe ds (some (.v d)::cs) (acc++[f d])=_ from e3,List.map_cons,List.append_assoc]
  rfl
theorem ng {α β:Type} {f:α->β} {xs:List α} {i:Nat} {d:β} {ds:List β} (h:d::ds=(xs.drop i).map f):∃x,xs[i]? = some x/\d=f x/\ds=(xs.drop (i+1)).map f:=by
 have hi:i<xs.length:=by
  rcases Nat.lt_or_ge i xs.length with h1 | h1
  ·exact h1
  ·rw[List.drop_eq_nil_of_le h1] at h; cases h
 rw[List.drop_eq_getElem_cons hi,List.map_cons] at h
 injection h with h1 h2
 exact⟨xs[i],List.getElem?_eq_getElem hi,h1,h2⟩
end PA
end
section
open PySem L2 VL
end
section
namespace PQ
open PySem L2 VL PA
section
variable {ρ:Ev} {i:Nat}
@[simp] theorem vExt_eq {fa:FA}:pN i fa ρ=(cS ρ i).bind fun m0=>match m0 with
 | .lst _=>(fa ρ).bind fun p=>match p.1 with
  | [.t (.lst es)]=>(cS p.2 i).bind fun m=>match m with
   | .lst ds=>if ds.length+es.length<=lim then some (.t (.v .none),p.2.set i (some (.lst (ds++es)))) else none
   | _=>none
  | _=>none
 | _=>none:=rfl
@[simp] theorem vIns_eq {fa:FA}:xM i fa ρ=(cS ρ i).bind fun m0=>match m0 with
 | .lst _=>(fa ρ).bind fun p=>match p.1 with
  | [o,o2]=>(peek p.2 o).bind fun mk=>match mk with
   | .v (.int k)=>(cA o2 p.2).bind fun q=>(cS q.2 i).bind fun m=>match m with
    | .lst ds=>if 0<=k/\k.toNat<=ds.length/\ds.length<lim then some (.t (.v .none),q.2.set i (some (.lst (ds.take k.toNat++q.1::ds.drop k.toNat)))) else none
    | _=>none
   | _=>none
  | _=>none
 | _=>none:=rfl
end
theorem vt {n k x:Nat} (h:(List.range n)[k]? = some x):x=k/\k<n:=by
 obtain⟨h1,e⟩:=List.getElem?_eq_some_iff.mp h;rw[List.getElem_range] at e;rw[List.length_range] at h1;exact⟨e.symm,h1⟩
theorem gZ (ds:List PyData) (k:Nat):cutD ds none (some (k:Int))=ds.take k:=by
 unfold cutD;rw[HT.qd,HT.sW,Nat.sub_zero,List.drop_zero]
 by_cases h:k<=ds.length
 ·rw[Nat.min_eq_left h]
 ·rw[Nat.min_eq_right (by lia),List.take_length,List.take_of_length_le (by lia)]
end PQ
end
section
namespace PS
open PySem L2 VL PA PQ
theorem bits_le {x:Int} {n:Nat} (h0:0<=x) (h:x<2 ^ n):Builtin.Int.intBits x<=n:=by
 unfold Builtin.Int.intBits
 split
 ·lia
 ·next hx =>
  have hx:x≠0:=by simpa using hx
  have h1:x.natAbs≠0:=by lia
  have h2:x.natAbs<2 ^ n:=by
   have:(x.natAbs:Int)<((2 ^ n:Nat):Int):=by
    rw[Int.natAbs_of_nonneg h0];simpa using h
   exact Int.ofNat_lt.mp this
  have:=(Nat.log2_lt h1).mpr h2;lia
theorem uu {a b:Int} {m n:Nat} (ha:0<=a) (hb:0<=b) (h1:a<2 ^ m) (h2:b<2 ^ n) (hmn:m+n<=1000000):vh (.v (.int a)) (.v (.int b))=some (.v (.int (a*b))):=if_pos (decide_eq_true (by
 have x1:=bits_le ha h1;have x2:=bits_le hb h2;have:(2:Int) ^ 20=1048576:=by decide
 lia))
def Pt (l:List PyData):Prop:=∃g q t:Int,l=[.int g,.int q,.int t]/\0<=g
theorem take {l:List PyData} {m:Int} (h:Pt l) (hm:0<m) (hm2:m<1073741824):∃ (r:Int) (l':List PyData),0<=r/\r<m/\Pt l'/\FF.ao [.lst l,.v (.int m)]=some (.v (.int r),[.lst l',.v (.int m)]):=by
 obtain⟨g,q,t,rfl,hg⟩:=h
 by_cases h0:0<g
 ·refine⟨g % m,[.int (g / m),.int q,.int t],Int.emod_nonneg _ (by lia),Int.emod_lt_of_pos _ hm,⟨_,_,_,rfl,Int.ediv_nonneg hg (Int.le_of_lt hm)⟩,?_⟩
  simp[FF.ao,FF.dF,jn,kD,uI,h0,hm,hm2]
 ·generalize hx:(q*48271+104729*(t+1)+11) % 2305843009213693951=x
  have hx':0<=x/\x<2305843009213693951:=by lia
  have hp:iH (.v (.int x)) (.v (.int 5))=some (.v (.int (x ^ 5))):=j8 ⟨by decide,by
   have:=bits_le (n:=61) hx'.1 (by rw[show (2:Int) ^ 61=2305843009213693952 by decide]; lia)
   have:(2:Int) ^ 27=134217728:=by decide
   lia⟩
  refine⟨x ^ 5 % 2305843009213693921 / 1009 % m,[.int g,.int x,.int (t+1)],Int.emod_nonneg _ (by lia),Int.emod_lt_of_pos _ hm,⟨_,_,_,rfl,hg⟩,?_⟩
  simp[FF.ao,FF.dF,jn,kD,uI,h0,hm,hm2,hx,hp]
theorem pows:∃A B:Int,A=10 ^ 60/\iH (.v (.int 10)) (.v (.int 60))=some (.v (.int A))/\iH (.v (.int 10)) (.v (.int 18))=some (.v (.int B)):=⟨_,_,rfl,j8 ⟨by decide,by decide +kernel⟩,j8 ⟨by decide,by decide +kernel⟩⟩
noncomputable abbrev potB:FS:=aF (bh 3 (vB iG (vB iH (vB bH (vB bH (vB mulM (aa 3) (vC (.int 48271))) (vB iG (aa 4) (vC (.int 2305843009213693951)))) (vC (.int 13))) (vC (.int 3))) (vC (.int 2305843009213693951))))
 (dw (cz (vB C4 (eL rZ (af (aa 4))) (vB iH (vC (.int 10)) (vC (.int 18))))) (aF (bh 1 (vB bH (aa 1) (vB vh (vB iG (eL rZ (af (aa 4))) (vB iH (vC (.int 10)) (vC (.int 60)))) (aa 2))))
 (bh 2 (vB vh (aa 2) (vB iH (vC (.int 10)) (vC (.int 60)))))) bJ)
theorem DF (ns:List Int) (hl:ns.length<=63):∃l,Pt l/\FF.cR [.v (.list (ns.map .int))]=some (.lst l,[.v (.list (ns.map .int))]):=by
 obtain⟨A,B,hA,e1,e2⟩:=pows;have hA0:0<A/\A<2 ^ 200:=by rw[hA]; decide +kernel
 obtain⟨ρ',e,n,dg,wt,sd,x4,h1,h2,h3,h4,h5,rfl⟩:=cD (fg:=ah 4) (fb:=potB) (P:=fun rest ρ=>∃ (n:Nat) (dg wt sd:Int) (x4:Option M),(∃ms:List Int,rest=ms.map .int/\n+ms.length<=63)/\0<=dg/\0<=wt/\wt<2 ^ (200*n+1)/\(0<=sd/\sd<2305843009213693951)/\ρ=[some (.v (.list (ns.map .int))),some (.v (.int dg)),some (.v (.int wt)),some (.v (.int sd)),x4]) (ns.map .int) _ ⟨0,0,1,11,none,⟨ns,rfl,by lia⟩,by lia,by lia,by decide,by lia,rfl⟩ (fun d rest ρ hP=>by
  obtain⟨n,dg,wt,sd,x4,⟨ms,hms,hn⟩,h2,h3,h4,h5,rfl⟩:=hP;cases ms with
  | nil=>cases hms
  | cons m ms =>
   obtain⟨rfl,rfl⟩:d=.int m/\rest=ms.map .int:=by
    rw[List.map_cons] at hms;exact⟨(List.cons.inj hms).1,(List.cons.inj hms).2⟩
   rw[List.length_cons] at hn;have hm':0<=m % 2305843009213693951/\m % 2305843009213693951<2305843009213693951:=by lia
   generalize hy:sd*48271+m % 2305843009213693951+13=y;have hy':0<=y/\y<2 ^ 80:=by
    have:(2:Int) ^ 80=1208925819614629174706176:=by decide
    lia
   have hp:iH (.v (.int y)) (.v (.int 3))=some (.v (.int (y ^ 3))):=j8 ⟨by decide,by
    have:=bits_le hy'.1 hy'.2;have:(2:Int) ^ 27=134217728:=by decide
    lia⟩
   have hs:0<=y ^ 3 % 2305843009213693951/\y ^ 3 % 2305843009213693951<2305843009213693951:=by lia
   generalize ha:(if m<0 then -m else m)=a
   have hss : -18446744073709551616<sd/\sd<18446744073709551616:=by lia
   by_cases hb:B<=a
   ·have hr:0<=a % A/\a % A<2 ^ 200:=⟨Int.emod_nonneg _ (by lia),Int.lt_trans (Int.emod_lt_of_pos _ hA0.1) hA0.2⟩
    have q1:=uu hr.1 h3 hr.2 h4 (by lia)
    have q2:=uu h3 (Int.le_of_lt hA0.1) h4 hA0.2 (by lia)
    refine⟨[some (.v (.list (ns.map .int))),some (.v (.int dg)),some (.v (.int wt)),some (.v (.int sd)),some (.v (.int m))],[some (.v (.list (ns.map .int))),some (.v (.int (dg+a % A*wt))),some (.v (.int (wt*A))),some (.v (.int (y ^ 3 % 2305843009213693951))),some (.v (.int m))],by simp,?_,n+1,dg+a % A*wt,wt*A,y ^ 3 % 2305843009213693951,_,⟨ms,rfl,by lia⟩,Int.add_nonneg h2 (Int.mul_nonneg hr.1 h3),Int.mul_nonneg h3 (Int.le_of_lt hA0.1),?_,hs,rfl⟩
    ·simp[potB,hy,hp,ha,e1,e2,hb,hA0.1,q1,q2,hss]
    ·have t1:wt*A<=wt*2 ^ 200:=Int.mul_le_mul_of_nonneg_left (Int.le_of_lt hA0.2) h3
     have t2:wt*2 ^ 200<2 ^ (200*n+1)*2 ^ 200:=Int.mul_lt_mul_of_pos_right h4 (by decide)
     have t3:(2:Int) ^ (200*n+1)*2 ^ 200=2 ^ (200*(n+1)+1):=by rw[<-Int.pow_add]; congr 1
     lia
   ·refine⟨[some (.v (.list (ns.map .int))),some (.v (.int dg)),some (.v (.int wt)),some (.v (.int sd)),some (.v (.int m))],[some (.v (.list (ns.map .int))),some (.v (.int dg)),some (.v (.int wt)),some (.v (.int (y ^ 3 % 2305843009213693951))),some (.v (.int m))],by simp,?_,n,dg,wt,y ^ 3 % 2305843009213693951,_,⟨ms,rfl,by lia⟩,h2,h3,h4,hs,rfl⟩
    simp[potB,hy,hp,ha,e2,hb,hss])
 refine⟨[.int dg,.int sd,.int 0],⟨_,_,_,rfl,h2⟩,cW (ρ:=[some (.v (.list (ns.map .int))),some (.v (.int dg)),some (.v (.int wt)),some (.v (.int sd)),x4]) rfl ?_ rfl⟩;show FF.gQ [some (.v (.list (ns.map .int))),none,none,none,none]=_;refine (aE (ρ1:=[some (.v (.list (ns.map .int))),some (.v (.int 0)),some (.v (.int 1)),some (.v (.int 11)),none]) (by simp[lim])).trans ?_
 refine (aE (ρ1:=[some (.v (.list (ns.map .int))),some (.v (.int dg)),some (.v (.int wt)),some (.v (.int sd)),x4]) ?_).trans (by simp[lim])
 have hc:cutD (ns.map PyData.int) none (some 63)=ns.map .int:=by
  rw[show (63:Int)=((63:Nat):Int) from rfl,gZ,List.take_of_length_le (by rw[List.length_map]; exact hl)]
 simp only[zP,xJ,Cr,zM,at?_0,Option.bind_some,vd,ve,vC_eq,Co,zL,xG,hc,Cq,zN,xH];exact e
def Nm (a b:Int) (ds:List PyData):Prop:=∀d∈ds,∃k:Int,d=.int k/\a<=k/\k<b
theorem jv (a b:Int):Nm a b (aO a b):=fun d hd=>by
 unfold aO at hd;obtain⟨k,hk,rfl⟩:=List.mem_map.mp hd;have:=List.mem_range.mp hk;exact⟨a+k,rfl,by lia,by lia⟩
theorem cI (a b:Int):(aO a b).length=(b-a).toNat:=by unfold aO; rw[List.length_map,List.length_range]
theorem Nm.tail {a b:Int} {d:PyData} {ds:List PyData} (h:Nm a b (d::ds)):Nm a b ds:=fun x hx=>h x (lO _ hx)
theorem small {k:Int} (h : -1000<=k/\k<=1000):gJ k=true:=decide_eq_true (by unfold bigI; lia)
noncomputable abbrev DG:FS:=aF (cB (mX 4 (af (aa 3))))
 (bh 3 (vB bH (vB bH (aa 3) (vC (.int 1))) (iI (eO (ai (vC (.int 0)) (ai (dm FF.ao (ai (aa 0) (af (vC (.int 2))))) (af (dm FF.ao (ai (aa 0) (af (vC (.int 4))))))))) (aa 2))))
theorem places {l:List PyData} {n:Nat} (h:Pt l) (hn:n<=24):∃ (l':List PyData) (ps:List Int),ps.length=n/\ps.Pairwise (· < ·)/\(∀p∈ps,0<=p)/\Pt l'/\FF.bO [.lst l,.v (.int (n:Int))]=some (.lst (ps.map .int),[.lst l',.v (.int (n:Int))]):=by
 obtain⟨wd,l1,w0,w1,hl1,e1⟩:=take (m:=3) h (by decide) (by decide)
 obtain⟨Dr,l2,a0,a1,hl2,e2⟩:=take (m:=4) hl1 (by decide) (by decide)
 obtain⟨ρ',e,l',ps,at1,x5,h1,h2,h3,h4,h5,rfl⟩:=cD (fg:=ah 5) (fb:=DG) (P:=fun rest ρ=>∃ (l':List PyData) (ps:List Int) (at1:Int) (x5:Option M),ps.length+rest.length=n/\ps.Pairwise (· < ·)/\(∀p∈ps,0<=p/\p<at1)/\0<=at1/\Pt l'/\ρ=[some (.lst l'),some (.v (.int (n:Int))),some (.v (.int wd)),some (.v (.int at1)),some (.lst (ps.map .int)),x5])
  (aO 0 (n:Int)) _ ⟨l2,[],Dr,none,by rw[cI]; simp,.nil,fun p hp=>(nomatch hp),a0,hl2,rfl⟩ (fun d rest ρ hP=>by
   obtain⟨l',ps,at1,x5,h1,h2,h3,h4,h5,rfl⟩:=hP;obtain⟨r1,l3,r10,r11,hl3,e3⟩:=take (m:=2) h5 (by decide) (by decide)
   obtain⟨r2,l4,r20,r21,hl4,e4⟩:=take (m:=4) hl3 (by decide) (by decide)
   have hw:wd=0\/wd=1\/wd=2:=by lia
   have hlim:ps.length<1000000:=by rw[List.length_cons] at h1; lia
   obtain⟨z,hz,ez⟩:∃z:Int,0<=z/\kD [PyData.int 0,.int r1,.int r2] wd=some (.int z):=by
    rcases hw with rfl | rfl | rfl
    ·exact⟨0,by lia,rfl⟩
    ·exact⟨r1,r10,rfl⟩
    ·exact⟨r2,r20,rfl⟩
   refine⟨[some (.lst l'),some (.v (.int (n:Int))),some (.v (.int wd)),some (.v (.int at1)),some (.lst (ps.map .int)),some (.v d)],[some (.lst l4),some (.v (.int (n:Int))),some (.v (.int wd)),some (.v (.int (at1+1+z))),some (.lst ((ps++[at1]).map .int)),some (.v d)],by simp,?_,l4,ps++[at1],at1+1+z,_,?_,?_,fun p hp => ?_,by lia,hl4,rfl⟩
   ·simp[DG,lim,hlim,e3,e4,ez]
   ·rw[List.length_append,List.length_singleton]; rw[List.length_cons] at h1; lia
   ·exact List.pairwise_append.mpr ⟨h2,List.pairwise_singleton _ _,fun a ha b hb=>by rw[List.mem_singleton] at hb; subst hb; exact (h3 a ha).2⟩
   ·rcases lM hp with hp | hp
    ·have:=h3 p hp; lia
    ·rw[List.mem_singleton] at hp; lia)
 refine⟨l',ps,by simpa using h1,h2,fun p hp=>(h3 p hp).1,h5,cW (ρ:=[some (.lst l'),some (.v (.int (n:Int))),some (.v (.int wd)),some (.v (.int at1)),none,x5]) rfl ?_ rfl⟩
 show FF.eZ [some (.lst l),some (.v (.int (n:Int))),none,none,none,none]=_;refine (aE (ρ1:=[some (.lst l1),some (.v (.int (n:Int))),some (.v (.int wd)),none,none,none]) (by simp[e1])).trans ?_
 refine (aE (ρ1:=[some (.lst l2),some (.v (.int (n:Int))),some (.v (.int wd)),some (.v (.int Dr)),none,none]) (by simp[e2])).trans ?_
 refine (aE (ρ1:=[some (.lst l2),some (.v (.int (n:Int))),some (.v (.int wd)),some (.v (.int Dr)),some (.lst []),none]) (by simp[lim])).trans ?_
 refine (aE (ρ1:=[some (.lst l'),some (.v (.int (n:Int))),some (.v (.int wd)),some (.v (.int at1)),some (.lst (ps.map .int)),x5]) ?_).trans (by simp)
 have hsm:=small (k:=(n:Int)) (by lia)
 simp[hsm];exact e
def Ds (n:Int) (ts:List (Int×Int)):Prop:=∀t∈ts,0<=t.1/\t.1<t.2/\t.2<n
theorem sP (ts:List (Int×Int)):rX (ts.map pD)=some (ts.map enc):=by
 have:ts.map pD=(ts.map enc).map tI:=by rw[List.map_map]; rfl
 rw[this,tQ]
theorem yc (ts:List (Int×Int)) (hl:ts.length<=1000):∃us:List (Int×Int),(∀u,u∈us↔u∈ts)/\(us.map enc).Pairwise (fun a b=>HT.lexLt a b=true)/\CZ [.lst (ts.map pD)]=some (.lst (us.map pD)):=by
 have hmem:∀k∈bY HT.lexLt (ts.map enc),enc (dec k)=k:=fun k hk=>by
  have:=(fS vo).mp hk;obtain⟨t,_,rfl⟩:=List.mem_map.mp this;rfl
 have e1:((bY HT.lexLt (ts.map enc)).map dec).map enc=bY HT.lexLt (ts.map enc):=by
  rw[List.map_map];refine (List.map_congr_left (g:=id) fun k hk=>hmem k hk).trans (List.map_id _)
 refine⟨(bY HT.lexLt (ts.map enc)).map dec,fun u => ?_,by rw[e1]; exact mj vo _,?_⟩
 ·constructor
  ·intro hu
   obtain⟨k,hk,rfl⟩:=List.mem_map.mp hu;obtain⟨t,ht,rfl⟩:=List.mem_map.mp ((fS vo).mp hk);exact ht
  ·intro hu
   exact List.mem_map.mpr ⟨enc u,(fS vo).mpr (List.mem_map.mpr ⟨u,hu,rfl⟩),rfl⟩
 ·have e2:((bY HT.lexLt (ts.map enc)).map dec).map pD=(bY HT.lexLt (ts.map enc)).map tI:=by
   conv=>rhs; rw[<-e1]
   rw[List.map_map (g:=tI)];rfl
  cases ts with
  | nil=>rfl
  | cons t ts =>
   rw[e2];show (if ((t::ts).map pD).length<=1000 then (match gH ((t::ts).map pD) with
    | some ns=>some (M.lst ((bY ltZ ns).map .int))
    | none=>(rX ((t::ts).map pD)).bind fun ks=>if ks.all (fun k => !k.isEmpty)=true then some (M.lst ((bY HT.lexLt ks).map tI)) else none) else none)=_
   rw[if_pos (by rw[List.length_map]; exact hl),show gH ((t::ts).map pD)=none from rfl,sP]
   show (if ((t::ts).map enc).all (fun k => !k.isEmpty)=true then _ else _)=_
   rw[if_pos];rw[List.all_map,List.all_eq_true];intro x _;rfl
def PD (n:Int) (ds:List PyData):Prop:=∃ts,ds=ts.map pD/\Ds n ts
theorem PD.nil (n:Int):PD n []:=⟨[],rfl,fun t ht=>(nomatch ht)⟩
theorem PD.app {n:Int} {ds es:List PyData} (h:PD n ds) (h':PD n es):PD n (ds++es):=by
 obtain⟨ts,rfl,a⟩:=h;obtain⟨us,rfl,b⟩:=h';refine⟨ts++us,by rw[List.map_append],fun t ht => ?_⟩
 rcases lM ht with ht | ht
 ·exact a t ht
 ·exact b t ht
theorem PD.one {n a b:Int} (h0:0<=a) (h1:a<b) (h2:b<n):PD n [.tuple [.int a,.int b]]:=⟨[(a,b)],rfl,fun t ht=>by rw[List.mem_singleton] at ht; subst ht; exact⟨h0,h1,h2⟩⟩
noncomputable abbrev Dc:FT:=cz (vB wZ (aa 2) (vB mulM (vC (.int 2)) (dm FF.ao (ai (aa 3) (af (vC (.int 3)))))))
noncomputable abbrev Dd:FE:=cG (ai (aa 0) (af (aa 1)))
theorem comp1 {l:List PyData} {n b bar:Int} (h:Pt l) (hb:0<=b) (hbn:b<n) (hn:n<=24):∃ (acc l':List PyData) (x0:Option M),Pt l'/\PD n acc/\acc.length<=24 /\
  bR (ah 0) Dc Dd (aO 0 b) [none,some (.v (.int b)),some (.v (.int bar)),some (.lst l)] []=some (acc,[x0,some (.v (.int b)),some (.v (.int bar)),some (.lst l')]):=by
 obtain⟨acc,ρ',e,l',x0,h1,h2,h3,h4,rfl⟩:=fP (fg:=ah 0) (ft:=Dc) (fe:=Dd) (P:=fun rest acc ρ=>∃ (l':List PyData) (x0:Option M),Nm 0 b rest/\PD n acc/\acc.length+rest.length<=24/\Pt l'/\ρ=[x0,some (.v (.int b)),some (.v (.int bar)),some (.lst l')])
  (aO 0 b) _ [] ⟨l,none,jv _ _,PD.nil _,by rw[cI]; simp; lia,h,rfl⟩ (fun d rest acc ρ hP=>by
   obtain⟨l',x0,h1,h2,h3,h4,rfl⟩:=hP;obtain⟨k,rfl,k0,k1⟩:=h1 d lS;rw[List.length_cons] at h3;obtain⟨r,l2,r0,r1,hl2,et⟩:=take (m:=3) h4 (by decide) (by decide)
   refine⟨by unfold lim; lia,[some (.v (.int k)),some (.v (.int b)),some (.v (.int bar)),some (.lst l')],decide (2*r<bar),[some (.v (.int k)),some (.v (.int b)),some (.v (.int bar)),some (.lst l2)],by simp,by simp[Dc,et],?_⟩
   by_cases hr:2*r<bar
   ·refine .inr ⟨decide_eq_true hr,.t (.v (.tuple [.int k,.int b])),[some (.v (.int k)),some (.v (.int b)),some (.v (.int bar)),some (.lst l2)],.tuple [.int k,.int b],_,by simp[Dd,lim],rfl,l2,_,h1.tail,h2.app (PD.one k0 k1 hbn),?_,hl2,rfl⟩
    rw[List.length_append,List.length_singleton]; lia
   ·exact .inl ⟨decide_eq_false hr,l2,_,h1.tail,h2,by lia,hl2,rfl⟩)
 exact⟨acc,l',x0,h4,h2,by simpa using h3,e⟩
noncomputable abbrev De:FS:=cB (pN 4 (af (jX 1 [6,5,0] (bC fj (af (aa 6))) (ah 0) Dc Dd)))
theorem rows1 {l:List PyData} {n md mo bar:Int} (x7:Option M) (h:Pt l) (h0:0<=n) (hn:n<=24):∃ (acc l':List PyData) (x6:Option M),Pt l'/\PD n acc/\acc.length<=576 /\
  forL (ah 6) De (aO 0 n) [some (.lst l),some (.v (.int n)),some (.v (.int md)),some (.v (.int mo)),some (.lst []),some (.v (.int bar)),none,x7]=some (.nx [some (.lst l'),some (.v (.int n)),some (.v (.int md)),some (.v (.int mo)),some (.lst acc),some (.v (.int bar)),x6,x7]):=by
 obtain⟨ρ',e,acc,l',x6,h1,h2,h3,h4,rfl⟩:=cD (fg:=ah 6) (fb:=De) (P:=fun rest ρ=>∃ (acc l':List PyData) (x6:Option M),Nm 0 n rest/\PD n acc/\acc.length+24*rest.length<=576/\Pt l'/\ρ=[some (.lst l'),some (.v (.int n)),some (.v (.int md)),some (.v (.int mo)),some (.lst acc),some (.v (.int bar)),x6,x7])
  (aO 0 n) _ ⟨[],l,none,jv _ _,PD.nil _,by rw[cI]; simp; lia,h,rfl⟩ (fun d rest ρ hP=>by
   obtain⟨acc,l',x6,h1,h2,h3,h4,rfl⟩:=hP;obtain⟨b,rfl,b0,b1⟩:=h1 d lS;rw[List.length_cons] at h3;obtain⟨es,l2,x0,hl2,g1,g2,ec⟩:=comp1 (b:=b) (bar:=bar) h4 b0 b1 hn;have hsm:=small (k:=b) (by lia)
   have hlim:acc.length+es.length<=1000000:=by lia
   refine⟨[some (.lst l'),some (.v (.int n)),some (.v (.int md)),some (.v (.int mo)),some (.lst acc),some (.v (.int bar)),some (.v (.int b)),x7],[some (.lst l2),some (.v (.int n)),some (.v (.int md)),some (.v (.int mo)),some (.lst (acc++es)),some (.v (.int bar)),some (.v (.int b)),x7],by simp,?_,acc++es,l2,_,h1.tail,h2.app g1,?_,hl2,rfl⟩
   ·simp[De,hsm,ec,hlim,lim]
   ·rw[List.length_append]; lia)
 exact⟨acc,l',x6,h4,h2,by simpa using h3,e⟩
noncomputable abbrev Df:FE:=cG (ai (dm FF.ao (ai (aa 1) (af (aa 0)))) (af (aa 0)))
theorem comp2 {l:List PyData} {n:Int} (h:Pt l) (hn:n<=24):∃ (acc l':List PyData) (x0:Option M),Pt l'/\PD n acc/\acc.length<=24/\bR (ah 0) cH Df (aO 1 n) [none,some (.lst l)] []=some (acc,[x0,some (.lst l')]):=by
 obtain⟨acc,ρ',e,l',x0,h1,h2,h3,h4,rfl⟩:=fP (fg:=ah 0) (ft:=cH) (fe:=Df) (P:=fun rest acc ρ=>∃ (l':List PyData) (x0:Option M),Nm 1 n rest/\PD n acc/\acc.length+rest.length<=24/\Pt l'/\ρ=[x0,some (.lst l')])
  (aO 1 n) _ [] ⟨l,none,jv _ _,PD.nil _,by rw[cI]; simp; lia,h,rfl⟩ (fun d rest acc ρ hP=>by
   obtain⟨l',x0,h1,h2,h3,h4,rfl⟩:=hP;obtain⟨k,rfl,k0,k1⟩:=h1 d lS;rw[List.length_cons] at h3;obtain⟨r,l2,r0,r1,hl2,et⟩:=take (m:=k) h4 (by lia) (by lia)
   refine⟨by unfold lim; lia,[some (.v (.int k)),some (.lst l')],true,[some (.v (.int k)),some (.lst l')],by simp,by simp,.inr ⟨rfl,.t (.v (.tuple [.int r,.int k])),[some (.v (.int k)),some (.lst l2)],.tuple [.int r,.int k],_,by simp[Df,lim,et],rfl,l2,_,h1.tail,h2.app (PD.one r0 r1 k1),?_,hl2,rfl⟩⟩
   rw[List.length_append,List.length_singleton]; lia)
 exact⟨acc,l',x0,h4,h2,by simpa using h3,e⟩
theorem yd {n m s:Int} {ft:FT} {q:Int->Bool} (hs:0<s) (hm:m+s<=n) (hn:n<=24) (ht:∀k:Int,0<=k->k<m->ft [some (.v (.int k))]=some (q k,[some (.v (.int k))])):∃ (acc:List PyData) (x0:Option M),PD n acc/\acc.length<=24 /\
  bR (ah 0) ft (cG (ai (aa 0) (af (vB bH (aa 0) (vC (.int s)))))) (aO 0 m) [none] []=some (acc,[x0]):=by
 obtain⟨acc,ρ',e,x0,h1,h2,h3,rfl⟩:=fP (fg:=ah 0) (ft:=ft) (fe:=cG (ai (aa 0) (af (vB bH (aa 0) (vC (.int s)))))) (P:=fun rest acc ρ=>∃x0:Option M,Nm 0 m rest/\PD n acc/\acc.length+rest.length<=24/\ρ=[x0])
  (aO 0 m) _ [] ⟨none,jv _ _,PD.nil _,by rw[cI]; simp; lia,rfl⟩ (fun d rest acc ρ hP=>by
   obtain⟨x0,h1,h2,h3,rfl⟩:=hP;obtain⟨k,rfl,k0,k1⟩:=h1 d lS;rw[List.length_cons] at h3;refine⟨by unfold lim; lia,[some (.v (.int k))],q k,[some (.v (.int k))],by simp,ht k k0 k1,?_⟩
   cases hq:q k with
   | true =>
    refine .inr ⟨rfl,.t (.v (.tuple [.int k,.int (k+s)])),[some (.v (.int k))],.tuple [.int k,.int (k+s)],_,by simp[lim],rfl,_,h1.tail,h2.app (PD.one k0 (by lia) (by lia)),?_,rfl⟩
    rw[List.length_append,List.length_singleton]; lia
   | false=>exact .inl ⟨rfl,_,h1.tail,h2,by lia,rfl⟩)
 exact⟨acc,x0,h2,by simpa using h3,e⟩
end PS
end
section
namespace PA
open PySem L2 VL
@[simp] theorem cls_none:lA (.v .none) = "NoneType" := rfl
@[simp] theorem cls_bool {b:Bool}:lA (.v (.bool b)) = "bool" := rfl
@[simp] theorem cls_int {b:Int}:lA (.v (.int b)) = "int" := rfl
@[simp] theorem cls_str {b:Str}:lA (.v (.str b)) = "str" := rfl
@[simp] theorem cls_tup {b:List PyData}:lA (.v (.tuple b)) = "tuple" := rfl
@[simp] theorem cls_list {b:List PyData}:lA (.v (.list b)) = "list" := rfl
@[simp] theorem cls_dict {b:List (PyData×PyData)}:lA (.v (.dict b)) = "dict" := rfl
theorem qW (ns:List Int) (a:Int):((ns.map PyData.int).any fun d=>PyData.eqv d (.int a))=decide (a∈ns):=by
 rw[List.any_map]
 induction ns with
 | nil=>simp
 | cons m ns ih =>
  rw[List.any_cons,ih];show ((m == a) || _)=_
  by_cases h:m=a
  ·simp[h]
  ·simp[h,Ne.symm h]
theorem uv (neg:Bool) (ns:List Int) (a:Int):lg neg (.v (.int a)) (.v (.tuple (ns.map .int)))=some (.v (.bool (if neg then !decide (a∈ns) else decide (a∈ns)))):=by
 show CA neg (.v (.int a)) (.v (.tuple (ns.map .int)))=_;show (if okIn (ns.map .int) (.int a)=true then some (M.v (.bool (if neg then !((ns.map PyData.int).any fun d=>PyData.eqv d (.int a)) else (ns.map PyData.int).any fun d=>PyData.eqv d (.int a)))) else none)=_
 rw[qW,if_pos];unfold okIn;rw[qp];rfl
end PA
end
section
namespace PS
open PySem L2 VL PA PQ
def Sp (n md mo:Int) (c:Nat) (ρ:Ev):Prop:=∃ (l acc:List PyData) (x5 x6 x7:Option M),Pt l/\PD n acc/\acc.length<=c/\ρ=[some (.lst l),some (.v (.int n)),some (.v (.int md)),some (.v (.int mo)),some (.lst acc),x5,x6,x7]
theorem ye (md:Int):lg false (.v (.int md)) (.v (.tuple [.int 1,.int 2,.int 3]))=some (.v (.bool (decide (md∈[1,2,3])))):=uv false [1,2,3] md
section
variable {n md mo:Int} {ρ:Ev} (h0:0<=n) (hn:n<=24) (m0:0<=md) (m1:md<7)
include h0 hn m0 m1
theorem step4 {l:List PyData} (h:Pt l):∃ρ',dw (cz (vB (lg false) (aa 2) (cG (ai (vC (.int 1)) (ai (vC (.int 2)) (af (vC (.int 3)))))))) (aF (bh 5 (iI (eO (ai (vC (.int 0)) (ai (vC (.int 4)) (ai (vC (.int 2)) (af (vC (.int 5))))))) (aa 2)))
  (gc (bC fj (af (aa 1))) (ah 6) De)) bJ [some (.lst l),some (.v (.int n)),some (.v (.int md)),some (.v (.int mo)),some (.lst []),none,none,none]=some (.nx ρ')/\Sp n md mo 576 ρ':=by
 by_cases hm:md∈[(1:Int),2,3]
 ·obtain⟨bar,eb⟩:∃bar:Int,kD [PyData.int 0,.int 4,.int 2,.int 5] md=some (.int bar):=by
   have:md=1\/md=2\/md=3:=by simpa using hm
   rcases this with rfl | rfl | rfl
   ·exact⟨4,rfl⟩
   ·exact⟨2,rfl⟩
   ·exact⟨5,rfl⟩
  obtain⟨acc,l',x6,g1,g2,g3,e⟩:=rows1 (md:=md) (mo:=mo) (bar:=bar) none h h0 hn;refine⟨_,?_,l',acc,some (.v (.int bar)),x6,none,g1,g2,g3,rfl⟩;have hsm:=small (k:=n) (by lia)
  have hm':md=1\/md=2\/md=3:=by simpa using hm
  simp[ye,hm',lim,eb,hsm];exact e
 ·refine⟨_,?_,l,[],none,none,none,h,PD.nil _,Nat.zero_le _,rfl⟩
  have hm':¬(md=1\/md=2\/md=3):=by simpa using hm
  simp[ye,hm',lim]
theorem step5 (h:Sp n md mo 576 ρ):∃ρ',dw (cz (vB (mV false) (aa 2) (vC (.int 4)))) (bh 4 (jX 1 [0] (bC vc (ai (vC (.int 1)) (af (aa 1)))) (ah 0) cH Df)) bJ ρ=some (.nx ρ')/\Sp n md mo 576 ρ':=by
 obtain⟨l,acc,x5,x6,x7,g1,g2,g3,rfl⟩:=h
 by_cases hm:md=4
 ·obtain⟨acc',l',x0,k1,k2,k3,e⟩:=comp2 g1 hn
  refine⟨_,?_,l',acc',x5,x6,x7,k1,k2,by lia,rfl⟩
  have hsm:=small (k:=n) (by lia)
  have hs1:=small (k:=1) (by lia)
  simp[hm,hsm,hs1,e]
 ·refine⟨_,?_,l,acc,x5,x6,x7,g1,g2,g3,rfl⟩
  simp[hm]
theorem step6 (h:Sp n md mo 576 ρ):∃ρ',dw (uU (cz (vB (mV false) (aa 2) (vC (.int 5)))) (cz (vB wZ (aa 1) (vC (.int 2))))) (bh 4 (vB bH (jX 1 [] (bC fj (af (vB jh (aa 1) (vC (.int 1))))) (ah 0) cH (cG (ai (aa 0) (af (vB bH (aa 0) (vC (.int 1))))))) (eO (af (cG (ai (vC (.int 0)) (af (vB jh (aa 1) (vC (.int 1)))))))))) bJ ρ=some (.nx ρ')/\Sp n md mo 576 ρ':=by
 obtain⟨l,acc,x5,x6,x7,g1,g2,g3,rfl⟩:=h
 by_cases hm:md=5
 ·by_cases h2:2<n
  ·obtain⟨acc',x0,k1,k2,e⟩:=yd (n:=n) (m:=n-1) (s:=1) (ft:=cH) (q:=fun _=>true) (by lia) (by lia) hn (fun k _ _=>rfl)
   refine⟨_,?_,l,acc'++[.tuple [.int 0,.int (n-1)]],x5,x6,x7,g1,k1.app (PD.one (by lia) (by lia) (by lia)),by rw[List.length_append,List.length_singleton]; lia,rfl⟩
   have hsm:=small (k:=n-1) (by lia)
   have hlim:acc'.length+1<=1000000:=by lia
   simp[hm,h2,hsm,e,lim,hlim]
  ·refine⟨_,?_,l,acc,x5,x6,x7,g1,g2,g3,rfl⟩
   simp[hm,h2]
 ·refine⟨_,?_,l,acc,x5,x6,x7,g1,g2,g3,rfl⟩
  simp[hm]
theorem step7 (h:Sp n md mo 576 ρ):∃ρ',dw (cz (vB (mV false) (aa 2) (vC (.int 6)))) (aF (bh 4 (jX 1 [] (bC fj (af (vB jh (aa 1) (vC (.int 1))))) (ah 0) (cz (vB CU (vB iG (aa 0) (vC (.int 3))) (vC (.int 2)))) (cG (ai (aa 0) (af (vB bH (aa 0) (vC (.int 1))))))))
 (cB (pN 4 (af (jX 1 [] (bC fj (af (vB jh (aa 1) (vC (.int 3))))) (ah 0) cH (cG (ai (aa 0) (af (vB bH (aa 0) (vC (.int 3))))))))))) bJ ρ=some (.nx ρ')/\Sp n md mo 576 ρ':=by
 obtain⟨l,acc,x5,x6,x7,g1,g2,g3,rfl⟩:=h
 by_cases hm:md=6
 ·obtain⟨acc1,x0,k1,k2,e1⟩:=yd (n:=n) (m:=n-1) (s:=1) (ft:=cz (vB CU (vB iG (aa 0) (vC (.int 3))) (vC (.int 2)))) (q:=fun k=>decide (k % 3<2)) (by lia) (by lia) hn (fun k _ _=>by simp)
  obtain⟨acc2,x1,j1,j2,e2⟩:=yd (n:=n) (m:=n-3) (s:=3) (ft:=cH) (q:=fun _=>true) (by lia) (by lia) hn (fun k _ _=>rfl)
  refine⟨_,?_,l,acc1++acc2,x5,x6,x7,g1,k1.app j1,by rw[List.length_append]; lia,rfl⟩
  have hsm:=small (k:=n-1) (by lia)
  have hsm3:=small (k:=n-3) (by lia)
  have hlim:acc1.length+acc2.length<=1000000:=by lia
  simp[hm,hsm,hsm3,e1,e2,lim,hlim]
 ·refine⟨_,?_,l,acc,x5,x6,x7,g1,g2,g3,rfl⟩
  simp[hm]
noncomputable abbrev Dt:FS:=aF (bh 6 (vB bH (vC (.int 1)) (dm FF.ao (ai (aa 0) (af (vB jh (aa 1) (vC (.int 1))))))))
 (cB (mX 4 (af (cG (ai (dm FF.ao (ai (aa 0) (af (aa 6)))) (af (aa 6)))))))
theorem step8 (q0:0<=mo) (q1:mo<4) (h:Sp n md mo 576 ρ):∃ρ',gc (bC fj (af (vB mulM (aa 3) (eL iy (af (jg (vB wZ (aa 2) (vC (.int 3))) (vB wZ (aa 1) (vC (.int 1))))))))) (ah 7) Dt ρ=some (.nx ρ')/\Sp n md mo 580 ρ':=by
 obtain⟨l,acc,x5,x6,x7,g1,g2,g3,rfl⟩:=h;have hmo : -18446744073709551616<mo/\mo<18446744073709551616:=by lia
 by_cases hc:3<md/\1<n
 ·obtain⟨ρ',e,l',acc',x6',x7',j1,j2,j3,rfl⟩:=cD (fg:=ah 7) (fb:=Dt) (P:=fun rest ρ=>∃ (l' acc':List PyData) (x6' x7':Option M),Pt l'/\PD n acc'/\acc'.length+rest.length<=580/\ρ=[some (.lst l'),some (.v (.int n)),some (.v (.int md)),some (.v (.int mo)),some (.lst acc'),x5,x6',x7'])
   (aO 0 mo) _ ⟨l,acc,x6,x7,g1,g2,by rw[cI]; simp; lia,rfl⟩ (fun d rest ρ hP=>by
    obtain⟨l',acc',x6',x7',j1,j2,j3,rfl⟩:=hP;rw[List.length_cons] at j3;obtain⟨r,l2,r0,r1,hl2,et⟩:=take (m:=n-1) j1 (by lia) (by lia)
    obtain⟨r',l3,r0',r1',hl3,et'⟩:=take (m:=1+r) hl2 (by lia) (by lia)
    have hlim:acc'.length<1000000:=by lia
    refine⟨[some (.lst l'),some (.v (.int n)),some (.v (.int md)),some (.v (.int mo)),some (.lst acc'),x5,x6',some (.v d)],[some (.lst l3),some (.v (.int n)),some (.v (.int md)),some (.v (.int mo)),some (.lst (acc'++[.tuple [.int r',.int (1+r)]])),x5,some (.v (.int (1+r))),some (.v d)],by simp,?_,l3,_,_,_,hl3,j2.app (PD.one r0' r1' (by lia)),?_,rfl⟩
    ·simp[Dt,et,et',lim,hlim]
    ·rw[List.length_append,List.length_singleton]; lia)
  refine⟨_,?_,l',acc',x5,x6',x7',j1,j2,by simpa using j3,rfl⟩
  have hsm:=small (k:=mo) (by lia)
  simp[hc.1,hc.2,hsm,hmo];exact e
 ·refine⟨_,?_,l,acc,x5,x6,x7,g1,g2,by lia,rfl⟩
  have hs0:=small (k:=0) (by lia)
  have er:aO 0 0=[]:=rfl
  by_cases h3:3<md
  ·have:¬1<n:=fun z=>hc ⟨h3,z⟩
   simp[h3,this,hs0,hmo,er]
  ·simp[h3,hs0,hmo,er]
end
theorem pairs {l:List PyData} {n:Nat} (h:Pt l) (hn:n<=24):∃ (l':List PyData) (ts:List (Int×Int)),ts.length<=60/\Ds (n:Int) ts/\(ts.map enc).Pairwise (fun a b=>HT.lexLt a b=true)/\Pt l'/\FF.bU [.lst l,.v (.int (n:Int))]=some (.lst (ts.map pD),[.lst l',.v (.int (n:Int))]):=by
 obtain⟨md,l1,m0,m1,hl1,e1⟩:=take (m:=7) h (by decide) (by decide)
 obtain⟨mo,l2,o0,o1,hl2,e2⟩:=take (m:=4) hl1 (by decide) (by decide)
 have h0:0<=(n:Int):=by lia
 have h24:(n:Int)<=24:=by lia
 obtain⟨ρ4,e4,s4⟩:=step4 (mo:=mo) h0 h24 m0 m1 hl2;obtain⟨ρ5,e5,s5⟩:=step5 h0 h24 m0 m1 s4;obtain⟨ρ6,e6,s6⟩:=step6 h0 h24 m0 m1 s5;obtain⟨ρ7,e7,s7⟩:=step7 h0 h24 m0 m1 s6;obtain⟨ρ8,e8,s8⟩:=step8 h0 h24 m0 m1 o0 o1 s7;obtain⟨l',acc,x5,x6,x7,g1,⟨ts,rfl,g2⟩,g3,rfl⟩:=s8;rw[List.length_map] at g3;obtain⟨us,u1,u2,u3⟩:=yc ts (by lia)
 have hcut:cutD (us.map pD) none (some 60)=(us.take 60).map pD:=by rw[show (60:Int)=((60:Nat):Int) from rfl,gZ,List.map_take]
 refine⟨l',us.take 60,by rw[List.length_take]; lia,fun t ht=>g2 t ((u1 t).mp (List.mem_of_mem_take ht)),?_,g1,cW (ρ:=[some (.lst l'),some (.v (.int (n:Int))),some (.v (.int md)),some (.v (.int mo)),some (.lst (ts.map pD)),x5,x6,x7]) rfl ?_ rfl⟩
 ·rw[List.map_take]
  exact List.Pairwise.sublist (List.take_sublist _ _) u2
 show FF.fT [some (.lst l),some (.v (.int (n:Int))),none,none,none,none,none,none]=_;refine (aE (ρ1:=[some (.lst l1),some (.v (.int (n:Int))),some (.v (.int md)),none,none,none,none,none]) (by simp[e1])).trans ?_
 refine (aE (ρ1:=[some (.lst l2),some (.v (.int (n:Int))),some (.v (.int md)),some (.v (.int mo)),none,none,none,none]) (by simp[e2])).trans ?_
 refine (aE (ρ1:=[some (.lst l2),some (.v (.int (n:Int))),some (.v (.int md)),some (.v (.int mo)),some (.lst []),none,none,none]) (by simp[lim])).trans ?_
 refine (aE e4).trans ?_;refine (aE e5).trans ?_;refine (aE e6).trans ?_;refine (aE e7).trans ?_;refine (aE e8).trans ?_;simp[u3,hcut]
end PS
end
section
open PySem L2 VL
end
section
namespace PQ
open PySem L2 VL PA
theorem ci:∀ (ns:List Int),PyData.canLayAll0 (ns.map .int)=true
 | []=>rfl
 | n::ns=>by show (PyData.canLay0 (.int n) && PyData.canLayAll0 (ns.map .int))=true; rw[ci ns]; rfl
theorem gS {ft:FT} {fe:FE} {cs:Ev} {p:Int->Bool} {f:Int->PyData}:∀ (ns:List Int) (acc:List PyData) (x:Option M),(∀n∈ns,ft (some (.v (.int n))::cs)=some (p n,some (.v (.int n))::cs)/\∃o,fe (some (.v (.int n))::cs)=some (o,some (.v (.int n))::cs)/\cA o (some (.v (.int n))::cs)=some (f n,some (.v (.int n))::cs))->acc.length+ns.length<=lim ->
  ∃y,bR (ah 0) ft fe (ns.map .int) (x::cs) acc=some (acc++(ns.filter p).map f,y::cs)
 | [],acc,x,_,_=>⟨x,by simp[bR]⟩
 | n::ns,acc,x,h,hl=>by
  obtain⟨e0,o,e1,e2⟩:=h n lS;rw[List.length_cons] at hl;have hg:ah 0 (.int n) (x::cs)=some (some (.v (.int n))::cs):=by simp
  by_cases hp:p n=true
  ·obtain⟨y,e3⟩:=gS (ft:=ft) (fe:=fe) (cs:=cs) (p:=p) (f:=f) ns (acc++[f n]) (some (.v (.int n))) (fun d hd=>h d (lO _ hd)) (by rw[List.length_append,List.length_singleton]; lia)
   refine⟨y,?_⟩;rw[List.filter_cons,if_pos hp,List.map_cons];show (ah 0 (.int n) (x::cs)).bind _=_;rw[hg];show (ft (some (.v (.int n))::cs)).bind _=_;rw[e0,hp];show (fe (some (.v (.int n))::cs)).bind _=_;rw[e1];show (cA o (some (.v (.int n))::cs)).bind _=_;rw[e2];show (if acc.length<lim then _ else _)=_
   rw[if_pos (by lia)]
   rw[show bR (ah 0) ft fe (ns.map .int) (some (.v (.int n))::cs) (acc++[f n])=_ from e3,List.map_cons,List.append_assoc]
   rfl
  ·have hp':p n=false:=by simpa using hp
   obtain⟨y,e3⟩:=gS (ft:=ft) (fe:=fe) (cs:=cs) (p:=p) (f:=f) ns acc (some (.v (.int n))) (fun d hd=>h d (lO _ hd)) (by lia)
   refine⟨y,?_⟩;rw[List.filter_cons,if_neg hp];show (ah 0 (.int n) (x::cs)).bind _=_;rw[hg];show (ft (some (.v (.int n))::cs)).bind _=_;rw[e0,hp'];exact e3
theorem gk {ft:FT} {fe:FE} {cs:Ev} {p:Int×Int->Bool} {f:Int×Int->PyData}:∀ (ts:List (Int×Int)) (acc:List PyData) (x y:Option M),(∀t∈ts,ft (some (.v (.int t.1))::some (.v (.int t.2))::cs)=some (p t,some (.v (.int t.1))::some (.v (.int t.2))::cs)/\∃o,fe (some (.v (.int t.1))::some (.v (.int t.2))::cs)=some (o,some (.v (.int t.1))::some (.v (.int t.2))::cs)/\cA o (some (.v (.int t.1))::some (.v (.int t.2))::cs)=some (f t,some (.v (.int t.1))::some (.v (.int t.2))::cs))->acc.length+ts.length<=lim ->
  ∃x' y',bR (bX 2 (aC (ah 0) (aC (ah 1) cC))) ft fe (ts.map pD) (x::y::cs) acc=some (acc++(ts.filter p).map f,x'::y'::cs)
 | [],acc,x,y,_,_=>⟨x,y,by simp[bR]⟩
 | t::ts,acc,x,y,h,hl=>by
  obtain⟨e0,o,e1,e2⟩:=h t lS;rw[List.length_cons] at hl;have hg:bX 2 (aC (ah 0) (aC (ah 1) cC)) (pD t) (x::y::cs)=some (some (.v (.int t.1))::some (.v (.int t.2))::cs):=by simp
  by_cases hp:p t=true
  ·obtain⟨x',y',e3⟩:=gk (ft:=ft) (fe:=fe) (cs:=cs) (p:=p) (f:=f) ts (acc++[f t]) (some (.v (.int t.1))) (some (.v (.int t.2))) (fun d hd=>h d (lO _ hd)) (by rw[List.length_append,List.length_singleton]; lia)
   refine⟨x',y',?_⟩;rw[List.filter_cons,if_pos hp,List.map_cons];show (bX 2 (aC (ah 0) (aC (ah 1) cC)) (pD t) (x::y::cs)).bind _=_;rw[hg];show (ft _).bind _=_;rw[e0,hp];show (fe _).bind _=_;rw[e1];show (cA o _).bind _=_;rw[e2];show (if acc.length<lim then _ else _)=_
   rw[if_pos (by lia)]
   rw[show bR (bX 2 (aC (ah 0) (aC (ah 1) cC))) ft fe (ts.map pD) (some (.v (.int t.1))::some (.v (.int t.2))::cs) (acc++[f t])=_ from e3,List.map_cons,List.append_assoc]
   rfl
  ·have hp':p t=false:=by simpa using hp
   obtain⟨x',y',e3⟩:=gk (ft:=ft) (fe:=fe) (cs:=cs) (p:=p) (f:=f) ts acc (some (.v (.int t.1))) (some (.v (.int t.2))) (fun d hd=>h d (lO _ hd)) (by lia)
   refine⟨x',y',?_⟩;rw[List.filter_cons,if_neg hp];show (bX 2 (aC (ah 0) (aC (ah 1) cC)) (pD t) (x::y::cs)).bind _=_;rw[hg];show (ft _).bind _=_;rw[e0,hp'];exact e3
theorem pS (ns:List Int) (a:Int):((ns.map PyData.int).any fun d=>PyData.eqv d (.int a))=decide (a∈ns):=by
 rw[List.any_map]
 induction ns with
 | nil=>simp
 | cons m ns ih =>
  rw[List.any_cons,ih];show ((m == a) || _)=_
  by_cases h:m=a
  ·simp[h]
  ·simp[h,Ne.symm h]
theorem Ax (neg:Bool) (ns:List Int) (a:Int):lg neg (.v (.int a)) (.v (tI ns))=some (.v (.bool (if neg then !decide (a∈ns) else decide (a∈ns)))):=by
 show (if okIn (ns.map .int) (.int a)=true then some (M.v (.bool (if neg then !((ns.map PyData.int).any fun d=>PyData.eqv d (.int a)) else (ns.map PyData.int).any fun d=>PyData.eqv d (.int a)))) else none)=_
 rw[pS,if_pos];unfold okIn;rw[ci];rfl
end PQ
end
section
namespace PS
open PySem L2 VL PA PQ
structure Wb (ps:List Int) (ts:List (Int×Int)):Prop where
 rise:ps.Pairwise (· < ·)
 ends:∀t∈ts,t.1∈ps/\t.2∈ps/\t.1<t.2
 few:ts.length<=60
noncomputable abbrev DH:FE:=cG (ai (iI (aa 2) (aa 0)) (af (iI (aa 2) (aa 1))))
theorem DX {l:List PyData} {n:Nat} (h:Pt l) (hn:n<=24):∃ (l':List PyData) (ps:List Int) (ts:List (Int×Int)),ps.length=n/\Wb ps ts/\Pt l'/\FF.bW [.lst l,.v (.int (n:Int))]=some (.v (wD ps ts),[.lst l',.v (.int (n:Int))]):=by
 obtain⟨l1,ps,hp,hr,_,hl1,e1⟩:=places h hn;obtain⟨l2,us,u1,u2,_,hl2,e2⟩:=pairs (n:=n) hl1 hn;have at1:∀ {i:Int},0<=i->i<n->∃p:Int,ps[i.toNat]? = some p/\kD (ps.map PyData.int) i=some (.int p):=fun {i} h0 h1=>by
  obtain⟨k,rfl⟩:=Int.eq_ofNat_of_zero_le h0;have hk:k<ps.length:=by lia
  exact⟨ps[k],by simp[hk],yN (by simp[hk])⟩
 obtain⟨acc,ρ',e,us',ts,x0,x1,k1,k2,k3,k4,k5,rfl⟩:=fP (fg:=bX 2 (aC (ah 0) (aC (ah 1) cC))) (ft:=cH) (fe:=DH) (P:=fun rest acc ρ=>∃ (us':List (Int×Int)) (ts:List (Int×Int)) (x0 x1:Option M),rest=us'.map pD/\Ds (n:Int) us'/\acc=ts.map pD/\ts.length+us'.length<=60/\(∀t∈ts,t.1∈ps/\t.2∈ps/\t.1<t.2)/\ρ=[x0,x1,some (.lst (ps.map .int))])
  (us.map pD) [none,none,some (.lst (ps.map .int))] [] ⟨us,[],none,none,rfl,u2,rfl,by simpa using u1,fun t ht=>(nomatch ht),rfl⟩ (fun d rest acc ρ hP=>by
   obtain⟨us',ts,x0,x1,k1,k2,rfl,k4,k5,rfl⟩:=hP;cases us' with
   | nil=>cases k1
   | cons u us' =>
    obtain⟨rfl,rfl⟩:=List.cons.inj k1;rw[List.length_cons] at k4;have hu:=k2 u lS;obtain⟨a,a1,a2⟩:=at1 hu.1 (by lia)
    obtain⟨b,b1,b2⟩:=at1 (i:=u.2) (by lia) hu.2.2
    have hab:a<b:=by
     obtain⟨h1,e1⟩:=List.getElem?_eq_some_iff.mp a1;obtain⟨h2,e2⟩:=List.getElem?_eq_some_iff.mp b1;rw[<-e1,<-e2];exact List.pairwise_iff_getElem.mp hr _ _ h1 h2 (by lia)
    refine⟨by rw[List.length_map]; unfold lim; lia,[some (.v (.int u.1)),some (.v (.int u.2)),some (.lst (ps.map .int))],true,[some (.v (.int u.1)),some (.v (.int u.2)),some (.lst (ps.map .int))],by simp,rfl,.inr ⟨rfl,.t (.v (pD (a,b))),[some (.v (.int u.1)),some (.v (.int u.2)),some (.lst (ps.map .int))],pD (a,b),_,by simp[DH,a2,b2,lim],rfl,us',ts++[(a,b)],_,_,rfl,fun t ht=>k2 t (lO _ ht),by rw[List.map_append]; rfl,by rw[List.length_append,List.length_singleton]; lia,fun t ht => ?_,rfl⟩⟩
    rcases lM ht with ht | ht
    ·exact k5 t ht
    ·rw[List.mem_singleton] at ht
     subst ht;exact⟨List.mem_of_getElem? a1,List.mem_of_getElem? b1,hab⟩)
 subst k3;have:us'=[]:=by cases us' with | nil=>rfl | cons _ _=>cases k1
 subst this;refine⟨l2,ps,ts,hp,⟨hr,k5,by simpa using k4⟩,hl2,cW (ρ:=[some (.lst l2),some (.v (.int (n:Int))),some (.lst (ps.map .int)),some (.lst (ts.map pD))]) rfl ?_ rfl⟩
 show FF.gR [some (.lst l),some (.v (.int (n:Int))),none,none]=_;refine (aE (ρ1:=[some (.lst l1),some (.v (.int (n:Int))),some (.lst (ps.map .int)),none]) (by simp[e1])).trans ?_
 refine (aE (ρ1:=[some (.lst l2),some (.v (.int (n:Int))),some (.lst (ps.map .int)),some (.lst (ts.map pD))]) (by simp[e2,e])).trans ?_
 simp[lim,tI]
noncomputable abbrev DI:FS:=cB (xM 2 (ai (dm FF.ao (ai (aa 0) (af (vB bH (eL iK (af (aa 2))) (vC (.int 1)))))) (af (aa 3))))
theorem turned {l:List PyData} {ps:List Int} (h:Pt l) (hn:ps.length<=1000):∃ (l':List PyData) (qs:List Int),qs.Perm ps/\Pt l'/\FF.bu [.lst l,.v (tI ps)]=some (.lst (qs.map .int),[.lst l',.v (tI ps)]):=by
 obtain⟨ρ',e,l',dn,rs,qs,x3,h1,h2,h3,h4,rfl⟩:=cD (fg:=ah 3) (fb:=DI) (P:=fun rest ρ=>∃ (l':List PyData) (dn rs qs:List Int) (x3:Option M),rest=rs.map .int/\dn++rs=ps/\qs.Perm dn/\Pt l'/\ρ=[some (.lst l'),some (.v (tI ps)),some (.lst (qs.map .int)),x3])
  (ps.map .int) [some (.lst l),some (.v (tI ps)),some (.lst []),none] ⟨l,[],ps,[],none,rfl,rfl,.nil,h,rfl⟩ (fun d rest ρ hP=>by
   obtain⟨l',dn,rs,qs,x3,h1,h2,h3,h4,rfl⟩:=hP;cases rs with
   | nil=>cases h1
   | cons r rs =>
    obtain⟨rfl,rfl⟩:=List.cons.inj h1;have hlen:dn.length+(rs.length+1)=ps.length:=by rw[<-h2,List.length_append,List.length_cons]
    have hq:=h3.length_eq;obtain⟨k,l2,k0,k1,hl2,e⟩:=take (m:=(qs.length:Int)+1) h4 (by lia) (by lia)
    refine⟨[some (.lst l'),some (.v (tI ps)),some (.lst (qs.map .int)),some (.v (.int r))],[some (.lst l2),some (.v (tI ps)),some (.lst ((qs.take k.toNat++r::qs.drop k.toNat).map .int)),some (.v (.int r))],by simp,?_,l2,dn++[r],rs,_,_,rfl,by rw[List.append_assoc]; exact h2,?_,hl2,rfl⟩
    ·have hc:k<=(qs.length:Int):=by lia
     have hlim:qs.length<1000000:=by lia
     simp[DI,e,k0,hc,hlim,lim,List.map_take,List.map_drop]
    ·refine List.perm_middle.trans ?_
     rw[List.take_append_drop];exact (List.Perm.cons r h3).trans (List.perm_append_comm (l₁:=[r]) (l₂:=dn)))
 have:rs=[]:=by cases rs with | nil=>rfl | cons _ _=>cases h1
 subst this;rw[List.append_nil] at h2;subst h2;refine⟨l',qs,h3,h4,cW (ρ:=[some (.lst l'),some (.v (tI dn)),none,x3]) rfl ?_ rfl⟩;show FF.e9 [some (.lst l),some (.v (tI dn)),none,none]=_;refine (aE (ρ1:=[some (.lst l),some (.v (tI dn)),some (.lst []),none]) (by simp[lim])).trans ?_
 refine (aE (ρ1:=[some (.lst l'),some (.v (tI dn)),some (.lst (qs.map .int)),x3]) ?_).trans (by simp)
 simp[tI];exact e
end PS
end
section
namespace PN
open PySem L2 VL PA
theorem jO {fg:FG} {ft:FT} {fk fv:FE} {P:List PyData->M->Ev->Prop}:∀ (ds:List PyData) (ρ:Ev) (acc:M),P ds acc ρ ->
  (∀d ds acc ρ,P (d::ds) acc ρ->∃ρ1 ρ2 kd k ρ3 o ρ4 acc' ρ5,fg d ρ=some ρ1/\ft ρ1=some (true,ρ2)/\fk ρ2=some (.t (.v kd),ρ3)/\g9 kd=some k/\fv ρ3=some (o,ρ4)/\addK k acc o ρ4=some (acc',ρ5)/\P ds acc' ρ5)->∃acc' ρ',jS fg ft fk fv ds ρ acc=some (acc',ρ')/\P [] acc' ρ'
 | [],ρ,acc,h,_=>⟨acc,ρ,rfl,h⟩
 | d::ds,ρ,acc,h,step=>by
  obtain⟨ρ1,ρ2,kd,k,ρ3,o,ρ4,acc1,ρ5,e1,e2,e3,e4,e5,e6,h2⟩:=step d ds acc ρ h;obtain⟨acc',ρ',e7,h7⟩:=jO ds ρ5 acc1 h2 step;refine⟨acc',ρ',?_,h7⟩;show (fg d ρ).bind _=_;rw[e1];show (ft ρ1).bind _=_;rw[e2];show (fk ρ2).bind _=_;rw[e3];show (g9 kd).bind _=_;rw[e4];show (fv ρ3).bind _=_;rw[e5];show (addK k acc o ρ4).bind _=_;rw[e6];exact e7
noncomputable def dl (ps:List Int) (φ:Int->List Int):List (Key×List PyData):=ps.map fun p=>(.inl p,(φ p).map .int)
noncomputable def dd (ps:List Int) (φ:Int->List Int):List (Key×PyData):=ps.map fun p=>(.inl p,tI (φ p))
theorem jw {α:Type} (f:Int->α):∀ {ps:List Int} {p:Int},p∈ps->cN (ps.map fun p=>((.inl p:Key),f p)) (.inl p)=some (f p)
 | [],p,h=>by cases h
 | q::ps,p,h=>by
  unfold cN;rw[List.map_cons,List.find?_cons]
  by_cases e:q=p
  ·subst e; simp
  ·have hm:p∈ps:=by
    rcases lK h with h | h
    ·exact absurd h.symm e
    ·exact h
   have:decide ((Sum.inl q:Key)=.inl p)=false:=decide_eq_false fun z=>e (Sum.inl.inj z)
   simp only[this];exact jw f hm
theorem Aa (ps:List Int) (φ:Int->List Int) (a b:Int):putL (dl ps φ) (.inl a) (.int b)=dl ps (fun p=>if p=a then φ p++[b] else φ p):=by
 unfold putL dl;rw[List.map_map];refine List.map_congr_left fun p _ => ?_
 by_cases e:p=a
 ·subst e; simp
 ·have:¬ (Sum.inl p:Key)=.inl a:=fun z=>e (Sum.inl.inj z)
  simp[e,this]
theorem uw {α:Type} (f:Int->α) (ps:List Int) (p:Int):((ps.map fun p=>((.inl p:Key),f p)).any fun kv=>decide (kv.1=.inl p))=decide (p∈ps):=by
 rw[List.any_map]
 induction ps with
 | nil=>simp
 | cons q ps ih =>
  rw[List.any_cons,ih]
  by_cases e:q=p
  ·subst e; simp
  ·have:¬ (Sum.inl q:Key)=.inl p:=fun z=>e (Sum.inl.inj z)
   have e':¬p=q:=fun z=>e z.symm
   simp[this,e']
theorem Ab {α:Type} (f:Int->α) {ps:List Int} (h:ps.Nodup):((ps.map fun p=>((.inl p:Key),f p)).map (·.1)).Nodup:=by
 rw[List.map_map];refine List.pairwise_map.mpr (h.imp fun {a b} hab z=>hab (Sum.inl.inj z))
noncomputable def nb (ts:List (Int×Int)) (p:Int):List Int:=ts.flatMap fun t=>(if p=t.1 then [t.2] else [])++(if p=t.2 then [t.1] else [])
theorem Ac (ts:List (Int×Int)) (t:Int×Int) (p:Int):nb (ts++[t]) p=nb ts p++((if p=t.1 then [t.2] else [])++(if p=t.2 then [t.1] else [])):=by
 unfold nb;rw[List.flatMap_append];simp
theorem sQ {ts:List (Int×Int)} (h:∀t∈ts,t.1<t.2) (p:Int):(nb ts p).length<=ts.length:=by
 induction ts with
 | nil=>exact Nat.le_refl _
 | cons t ts ih =>
  have h1:=ih fun u hu=>h u (lO _ hu)
  have h2:=h t lS;have e:nb (t::ts) p=((if p=t.1 then [t.2] else [])++(if p=t.2 then [t.1] else []))++nb ts p:=by
   unfold nb; rw[List.flatMap_cons]
  rw[e,List.length_append,List.length_cons];have:((if p=t.1 then [t.2] else [])++(if p=t.2 then [t.1] else [])).length<=1:=by
   by_cases a:p=t.1
   ·rw[if_pos a,if_neg (by lia)]; simp
   ·rw[if_neg a]; split <;> simp
  lia
theorem Cw {ts:List (Int×Int)} {p q:Int}:q∈nb ts p↔(p,q)∈ts\/(q,p)∈ts:=by
 unfold nb;rw[List.mem_flatMap];constructor
 ·rintro⟨t,ht,hq⟩
  rcases lM hq with hq | hq
  ·split at hq
   ·next e=>rw[List.mem_singleton] at hq; rw[e,hq]; exact .inl ht
   ·cases hq
  ·split at hq
   ·next e=>rw[List.mem_singleton] at hq; rw[e,hq]; exact .inr ht
   ·cases hq
 ·rintro (h | h)
  ·exact⟨_,h,lL _ (by simp)⟩
  ·exact⟨_,h,lR _ (by simp)⟩
noncomputable abbrev DY:FS:=aF (cB (lH 3 (eW 4) (eW 5))) (cB (lH 3 (eW 5) (eW 4)))
theorem appQ {ρ:Ev} {i:Nat} {ps:List Int} {φ:Int->List Int} {a b:Int} {fk fd:Ev->Option PyData} (h3:cS ρ i=some (.bG (dl ps φ))) (ha:fk ρ=some (.int a)) (hb:fd ρ=some (.int b)) (hm:a∈ps) (hl:(φ a).length<1000) (nd:ps.Nodup):lH i fk fd ρ=some (.t (.v .none),ρ.set i (some (.bG (dl ps fun p=>if p=a then φ p++[b] else φ p)))):=by
 show (cS ρ i).bind _=_;rw[h3];show (fk ρ).bind _=_;rw[ha];show (cN (dl ps φ) (.inl a)).bind _=_;rw[show cN (dl ps φ) (.inl a)=some ((φ a).map .int) from jw _ hm]
 show (fd ρ).bind _=_;rw[hb];show (if _/\_ then _ else _)=_
 rw[if_pos ⟨by rw[List.length_map]; unfold lim; lia,Ab _ nd⟩,Aa]
theorem nears {ps:List Int} {ts:List (Int×Int)} (nd:ps.Nodup) (he:∀t∈ts,t.1∈ps/\t.2∈ps/\t.1<t.2) (hp:ps.length<=1000) (ht:ts.length<=63):FF.eF [.v (wD ps ts)]=some (.bL (dd ps fun p=>sortI (nb ts p)),[.v (wD ps ts)]):=by
 obtain⟨acc1,ρ1,c1,dn1,rs1,x1,a1,a2,a3,rfl⟩:=jO (fg:=ah 0) (ft:=cH) (fk:=aa 0) (fv:=eO gE) (P:=fun rest acc ρ=>∃ (dn rs:List Int) (x:Option M),rest=rs.map .int/\dn++rs=ps/\acc=.bG (dl dn fun _=>[])/\ρ=[x]) (ps.map .int) [none] (.bG []) ⟨[],ps,none,rfl,rfl,rfl,rfl⟩ (fun d rest acc ρ hP=>by
  obtain⟨dn,rs,x,h1,h2,rfl,rfl⟩:=hP;cases rs with
  | nil=>cases h1
  | cons r rs =>
   obtain⟨rfl,rfl⟩:=List.cons.inj h1;have hr:r∉dn:=fun z=>by
    rw[<-h2,List.nodup_append] at nd;exact nd.2.2 r z r lS rfl
   have hlen:dn.length+(rs.length+1)=ps.length:=by rw[<-h2,List.length_append,List.length_cons]
   refine⟨[some (.v (.int r))],[some (.v (.int r))],.int r,.inl r,[some (.v (.int r))],.t (.lst []),[some (.v (.int r))],.bG (dl (dn++[r]) fun _=>[]),[some (.v (.int r))],by simp,rfl,by simp,rfl,by simp[lim],?_,dn++[r],rs,_,rfl,by rw[List.append_assoc]; exact h2,rfl,rfl⟩
   show (if _/\_ then _ else _)=_
   rw[if_pos ⟨by rw[show dl dn (fun _=>[])=dn.map fun p=>((.inl p:Key),(([]:List Int).map PyData.int)) from rfl,uw]; exact decide_eq_false hr,by unfold dl; rw[List.length_map]; unfold lim; lia⟩]
   unfold dl;rw[List.map_append];rfl)
 have:rs1=[]:=by cases rs1 with | nil=>rfl | cons _ _=>cases a1
 subst this;rw[List.append_nil] at a2;subst a2;subst a3;obtain⟨ρ2,c2,dn,rs,x4,x5,b1,b2,rfl⟩:=cD (fg:=bX 2 (aC (ah 4) (aC (ah 5) cC))) (fb:=DY) (P:=fun rest ρ=>∃ (dn rs:List (Int×Int)) (x4 x5:Option M),rest=rs.map pD/\dn++rs=ts/\ρ=[some (.v (wD dn1 ts)),some (.v (tI dn1)),some (.v (tD ts)),some (.bG (dl dn1 (nb dn))),x4,x5])
  (ts.map pD) [some (.v (wD dn1 ts)),some (.v (tI dn1)),some (.v (tD ts)),some (.bG (dl dn1 fun _=>[])),none,none] ⟨[],ts,none,none,rfl,rfl,rfl⟩ (fun d rest ρ hP=>by
   obtain⟨dn,rs,x4,x5,h1,h2,rfl⟩:=hP;cases rs with
   | nil=>cases h1
   | cons t rs =>
    obtain⟨rfl,rfl⟩:=List.cons.inj h1;have hlen:dn.length+(rs.length+1)=ts.length:=by rw[<-h2,List.length_append,List.length_cons]
    have hte:=he t (by rw[<-h2]; simp)
    have hdn:∀u∈dn,u.1<u.2:=fun u hu=>(he u (by rw[<-h2]; exact lL _ hu)).2.2
    have n1:=sQ hdn;refine⟨[some (.v (wD dn1 ts)),some (.v (tI dn1)),some (.v (tD ts)),some (.bG (dl dn1 (nb dn))),some (.v (.int t.1)),some (.v (.int t.2))],[some (.v (wD dn1 ts)),some (.v (tI dn1)),some (.v (tD ts)),some (.bG (dl dn1 (nb (dn++[t])))),some (.v (.int t.1)),some (.v (.int t.2))],by simp,?_,dn++[t],rs,_,_,rfl,by rw[List.append_assoc]; exact h2,rfl⟩
    have q1:=appQ (ρ:=[some (.v (wD dn1 ts)),some (.v (tI dn1)),some (.v (tD ts)),some (.bG (dl dn1 (nb dn))),some (.v (.int t.1)),some (.v (.int t.2))]) (i:=3) (fk:=eW 4) (fd:=eW 5) rfl rfl rfl hte.1 (by have:=n1 t.1; lia) nd
    have q2:=appQ (ρ:=[some (.v (wD dn1 ts)),some (.v (tI dn1)),some (.v (tD ts)),some (.bG (dl dn1 fun p=>if p=t.1 then nb dn p++[t.2] else nb dn p)),some (.v (.int t.1)),some (.v (.int t.2))]) (i:=3) (fk:=eW 5) (fd:=eW 4) rfl rfl rfl hte.2.1 (by
     have:=n1 t.2;rw[if_neg (by lia)]
     lia) nd
    have hφ:(fun p=>if p=t.2 then (if p=t.1 then nb dn p++[t.2] else nb dn p)++[t.1] else (if p=t.1 then nb dn p++[t.2] else nb dn p))=nb (dn++[t]):=by
     funext p
     rw[Ac];have hlt:=hte.2.2
     by_cases e1:p=t.1
     ·have e2:¬p=t.2:=by lia
      rw[if_neg e2,if_pos e1,if_pos e1,if_neg e2,List.append_nil]
     ·by_cases e2:p=t.2
      ·rw[if_pos e2,if_neg e1,if_neg e1,if_pos e2,List.nil_append]
      ·rw[if_neg e2,if_neg e1,if_neg e1,if_neg e2,List.append_nil,List.append_nil]
    rw[hφ] at q2;show aF _ _ _=_;refine (aE (ρ1:=[some (.v (wD dn1 ts)),some (.v (tI dn1)),some (.v (tD ts)),some (.bG (dl dn1 fun p=>if p=t.1 then nb dn p++[t.2] else nb dn p)),some (.v (.int t.1)),some (.v (.int t.2))]) ?_).trans ?_
    ·rw[qF,q1]; rfl
    ·rw[qF,q2]; rfl)
 have:rs=[]:=by cases rs with | nil=>rfl | cons _ _=>cases b1
 subst this;rw[List.append_nil] at b2;subst b2;obtain⟨acc3,ρ3,c3,dn3,rs3,x3,d1,d2,d3,rfl⟩:=jO (fg:=ah 0) (ft:=cH) (fk:=aa 0) (fv:=eL ji (af (eL qz (af (iI (aa 1) (aa 0)))))) (P:=fun rest acc ρ=>∃ (dn3 rs:List Int) (x:Option M),rest=rs.map .int/\dn3++rs=dn1/\acc=.bL (dd dn3 fun p=>sortI (nb dn p))/\ρ=[x,some (.bG (dl dn1 (nb dn)))]) (dn1.map .int) [none,some (.bG (dl dn1 (nb dn)))] (.bL []) ⟨[],dn1,none,rfl,rfl,rfl,rfl⟩ (fun d rest acc ρ hP=>by
  obtain⟨dn3,rs,x,h1,h2,rfl,rfl⟩:=hP;cases rs with
  | nil=>cases h1
  | cons r rs =>
   obtain⟨rfl,rfl⟩:=List.cons.inj h1;have hr:r∉dn3:=fun z=>by
    rw[<-h2,List.nodup_append] at nd;exact nd.2.2 r z r lS rfl
   have hrm:r∈dn1:=by rw[<-h2]; simp
   have hlen:dn3.length+(rs.length+1)=dn1.length:=by rw[<-h2,List.length_append,List.length_cons]
   have hn:=sQ (fun u hu=>(he u hu).2.2) r
   have hk:cN (dl dn1 (nb dn)) (.inl r)=some ((nb dn r).map .int):=jw _ hrm;have hsort:qz [.lst ((nb dn r).map .int)]=some (.lst ((sortI (nb dn r)).map .int)):=by
    show (tR ((nb dn r).map .int)).bind _=_;unfold tR;rw[if_pos (by rw[List.length_map]; lia),gV]
    rfl
   refine⟨[some (.v (.int r)),some (.bG (dl dn1 (nb dn)))],[some (.v (.int r)),some (.bG (dl dn1 (nb dn)))],.int r,.inl r,[some (.v (.int r)),some (.bG (dl dn1 (nb dn)))],.t (.v (tI (sortI (nb dn r)))),[some (.v (.int r)),some (.bG (dl dn1 (nb dn)))],.bL (dd (dn3++[r]) fun p=>sortI (nb dn p)),[some (.v (.int r)),some (.bG (dl dn1 (nb dn)))],by simp,rfl,by simp,rfl,?_,?_,dn3++[r],rs,_,rfl,by rw[List.append_assoc]; exact h2,rfl,rfl⟩
   ·have hpk:peek [some (.v (.int r)),some (.bG (dl dn1 (nb dn)))] (.q 1 (.inl r))=some (.lst ((nb dn r).map .int)):=by
     show (cN (dl dn1 (nb dn)) (.inl r)).map M.lst=_;rw[hk]; rfl
    simp[hk,hpk,hsort,tI]
   ·show (if _ then _ else _)=_
    rw[if_pos (by unfold dd; rw[List.length_map]; unfold lim; lia)]
    show some (M.bL (putD (dd dn3 fun p=>sortI (nb dn p)) (.inl r) (tI (sortI (nb dn r)))),_)=_
    unfold putD;rw[if_neg (by rw[show dd dn3 (fun p=>sortI (nb dn p))=dn3.map fun p=>((.inl p:Key),tI (sortI (nb dn p))) from rfl,uw]; simpa using hr)]
    unfold dd;rw[List.map_append];rfl)
 have:rs3=[]:=by cases rs3 with | nil=>rfl | cons _ _=>cases d1
 subst this;rw[List.append_nil] at d2;subst d2;subst d3;refine cW (ρ:=[some (.v (wD dn3 dn)),some (.v (tI dn3)),some (.v (tD dn)),some (.bG (dl dn3 (nb dn))),x4,x5]) rfl ?_ rfl;show FF.ju [some (.v (wD dn3 dn)),none,none,none,none,none]=_;refine (aE (ρ1:=[some (.v (wD dn3 dn)),some (.v (tI dn3)),some (.v (tD dn)),none,none,none]) (by simp)).trans ?_
 refine (aE (ρ1:=[some (.v (wD dn3 dn)),some (.v (tI dn3)),some (.v (tD dn)),some (.bG (dl dn3 fun _=>[])),none,none]) (by simp[tI,c1])).trans ?_
 refine (aE (ρ1:=[some (.v (wD dn3 dn)),some (.v (tI dn3)),some (.v (tD dn)),some (.bG (dl dn3 (nb dn))),x4,x5]) (by simp[tI]; simpa[tI] using c2)).trans ?_
 simp[tI,c3]
end PN
end
section
open PySem L2 VL
end
section
namespace PA
open PySem L2 VL
theorem d9:∀bs:List Bool,mW (bs.map .bool)=some bs
 | []=>rfl
 | b::bs=>by show (some b).bind _=_; rw[Option.bind_some,d9 bs]; rfl
theorem n9 {α:Type} {u v:α->PyData} {fe:FE} {cs:Ev} {f:α->PyData}:∀ (ts:List α) (acc:List PyData) (x y:Option M),(∀t∈ts,∃o,fe (some (.v (u t))::some (.v (v t))::cs)=some (o,some (.v (u t))::some (.v (v t))::cs)/\cA o (some (.v (u t))::some (.v (v t))::cs)=some (f t,some (.v (u t))::some (.v (v t))::cs))->acc.length+ts.length<=lim ->
  ∃x' y',bR (bX 2 (aC (ah 0) (aC (ah 1) cC))) cH fe (ts.map fun t=>.tuple [u t,v t]) (x::y::cs) acc=some (acc++ts.map f,x'::y'::cs)
 | [],acc,x,y,_,_=>⟨x,y,by simp[bR]⟩
 | t::ts,acc,x,y,h,hl=>by
  obtain⟨o,e1,e2⟩:=h t lS;rw[List.length_cons] at hl;obtain⟨x',y',e3⟩:=n9 (u:=u) (v:=v) (fe:=fe) (cs:=cs) (f:=f) ts (acc++[f t]) (some (.v (u t))) (some (.v (v t))) (fun d hd=>h d (lO _ hd)) (by rw[List.length_append,List.length_singleton]; lia)
  refine⟨x',y',?_⟩;have hg:bX 2 (aC (ah 0) (aC (ah 1) cC)) (.tuple [u t,v t]) (x::y::cs)=some (some (.v (u t))::some (.v (v t))::cs):=by simp
  show (bX 2 (aC (ah 0) (aC (ah 1) cC)) (.tuple [u t,v t]) (x::y::cs)).bind _=_;rw[hg];show (fe _).bind _=_;rw[e1];show (cA o _).bind _=_;rw[e2];show (if acc.length<lim then _ else _)=_
  rw[if_pos (by lia)]
  refine Eq.trans e3 ?_;rw[List.map_cons,List.append_assoc];rfl
theorem yf (ds:List PyData):xx [.v (.tuple ds),.v (.tuple ds)]=some (ds.map fun d=>.tuple [d,d]):=by
 show some (List.zipWith _ ds ds)=_
 congr 1
 induction ds with
 | nil=>rfl
 | cons d ds ih=>rw[List.zipWith_cons_cons,ih,List.map_cons]
theorem all_true (ds:List PyData):allM false [.lst (ds.map fun _=>.bool true)]=some (.v (.bool true)):=by
 have h:=d9 (ds.map fun _=>true)
 rw[List.map_map] at h;show (mW _).bind _=_;rw[show mW (ds.map fun _=>PyData.bool true)=_ from h,Option.bind_some]
 congr 3
 show (ds.map fun _=>true).all id=true
 rw[List.all_map];exact List.all_eq_true.mpr fun _ _=>rfl
end PA
end
section
namespace PS
open PySem L2 VL PA PQ PN
theorem any_bools {α:Type} (xs:List α) (q:α->Bool):allM true [.lst (xs.map fun x=>.bool (q x))]=some (.v (.bool (xs.any q))):=by
 have h:=VL.d9 (xs.map q);rw[List.map_map] at h;show (mW _).bind _=_;rw[show mW (xs.map fun x=>PyData.bool (q x))=_ from h,Option.bind_some]
 congr 3
 show (xs.map q).any id=xs.any q;rw[List.any_map];rfl
section
variable {ps:List Int} {φ:Int->List Int}
noncomputable def outs (φ:Int->List Int) (fs:List Int):List Int:=fs.filter fun p=>(φ p).any fun q => !decide (q∈fs)
theorem vz {fs:List Int} (hf:∀p∈fs,p∈ps) (h1:fs.length<=1000) (h2:∀p,(φ p).length<=1000):FF.bD [.bL (dd ps φ),.v (tI fs)]=some (.v (.int ((outs φ fs).length:Nat)),[.bL (dd ps φ),.v (tI fs)]):=by
 have hin:∀p:Int,∃y,bR (ah 0) cH (vB (lg true) (aa 0) (aa 1)) ((φ p).map PyData.int) [none,some (.v (tI fs))] []=some ((φ p).map (fun q=>PyData.bool (!decide (q∈fs))),[y,some (.v (tI fs))]):=fun p=>by
  obtain⟨y,e⟩:=gY (fe:=vB (lg true) (aa 0) (aa 1)) (cs:=[some (.v (tI fs))]) (f:=fun d=>match d with | .int q=>.bool (!decide (q∈fs)) | _=>.none) ((φ p).map PyData.int) [] none (fun d hd=>by
   obtain⟨q,_,rfl⟩:=List.mem_map.mp hd;refine⟨.t (.v (.bool (!decide (q∈fs)))),?_,rfl⟩;have:=Ax true fs q;simp[this]) (by rw[List.length_map]; have:=h2 p; unfold lim; simp; lia)
  rw[List.nil_append,List.map_map] at e;exact⟨y,e⟩
 have hk:∀p∈fs,cN (dd ps φ) (.inl p)=some (tI (φ p)):=fun p hp=>jw _ (hf p hp)
 obtain⟨y,e⟩:=gS (ft:=iJ (eL (allM true) (af (jX 1 [1] (cO (iI (aa 2) (aa 0))) (ah 0) cH (vB (lg true) (aa 0) (aa 1)))))) (fe:=aa 0) (cs:=[some (.v (tI fs)),some (.bL (dd ps φ))]) (p:=fun p=>(φ p).any fun q => !decide (q∈fs)) (f:=.int) fs [] none (fun p hp=>by
  obtain⟨y,e⟩:=hin p;refine⟨?_,.t (.v (.int p)),by simp,rfl⟩
  have hb:=any_bools (φ p) (fun q => !decide (q∈fs))
  generalize (φ p).map (fun q=>PyData.bool (!decide (q∈fs)))=B at *
  unfold tI at e;have hk':=hk p hp;unfold tI at hk';simp[hk',tI,e,hb,-pM]) (by simp; unfold lim; lia)
 rw[List.nil_append] at e;refine cW (ρ:=[some (.bL (dd ps φ)),some (.v (tI fs))]) rfl ?_ rfl;show FF.cX [some (.bL (dd ps φ)),some (.v (tI fs))]=_;unfold tI at e ⊢;simp[FF.cX,e,outs]
noncomputable def mz (φ:Int->List Int) (os:List Int):List Int:=(List.range os.length).map fun k=>(((outs φ (os.take (k+1))).length:Nat):Int)
theorem sR {fe:FE} {cs:Ev} {f:Nat->PyData} (n:Nat) (hn:n<=1000) (h:∀k:Nat,k<n->∃o,fe (some (.v (.int (k:Int)))::cs)=some (o,some (.v (.int (k:Int)))::cs)/\cA o (some (.v (.int (k:Int)))::cs)=some (f k,some (.v (.int (k:Int)))::cs)):∃y,bR (ah 0) cH fe (aO 0 (n:Int)) (none::cs) []=some ((List.range n).map f,y::cs):=by
 obtain⟨y,e⟩:=gY (fe:=fe) (cs:=cs) (f:=fun d=>match d with | .int k=>f k.toNat | _=>.none) (aO 0 (n:Int)) [] none (fun d hd=>by
  rw[jN] at hd;obtain⟨k,hk,rfl⟩:=List.mem_map.mp hd;obtain⟨o,e1,e2⟩:=h k (List.mem_range.mp hk);refine⟨o,by rw[Int.zero_add]; exact e1,by rw[Int.zero_add]; simpa using e2⟩) (by rw[cI]; unfold lim; simp; lia)
 refine⟨y,?_⟩;rw[e,List.nil_append,jN,List.map_map]
 congr 2
 refine List.map_congr_left fun k _ => ?_
 simp
theorem pT {ts:List (Int×Int)} {os:List Int} (w:Wb ps ts) (hn:ps.length<=24) (hp:os.Perm ps):FF.bx [.v (wD ps ts),.v (tI os)]=some (.v (tI (mz (fun p=>sortI (nb ts p)) os)),[.v (wD ps ts),.v (tI os)]):=by
 have nd:ps.Nodup:=w.rise.imp fun h=>by lia
 have hnear:=nears nd w.ends (by lia) (by have:=w.few; lia)
 have ho:os.length<=24:=by rw[hp.length_eq]; exact hn
 have hφ:∀p,(sortI (nb ts p)).length<=1000:=fun p=>by
  have h1:=sQ (fun t ht=>(w.ends t ht).2.2) p
  have h2:(sortI (nb ts p)).length=(nb ts p).length:=(d8 ltI (nb ts p)).length_eq;have:=w.few;lia
 obtain⟨y,e⟩:=sR (fe:=dm FF.bD (ai (aa 1) (af (w9 (aa 2) dZ (d7 (vB bH (aa 0) (vC (.int 1)))))))) (cs:=[some (.bL (dd ps fun p=>sortI (nb ts p))),some (.v (tI os))]) (f:=fun k=>.int (((outs (fun p=>sortI (nb ts p)) (os.take (k+1))).length:Nat):Int)) os.length (by lia) (fun k hk=>by
  have hs:=vz (ps:=ps) (φ:=fun p=>sortI (nb ts p)) (fs:=os.take (k+1)) (fun p h=>hp.mem_iff.mp (List.mem_of_mem_take h)) (by rw[List.length_take]; lia) hφ
  have hc:cutD (os.map PyData.int) none (some ((k:Int)+1))=(os.take (k+1)).map .int:=by rw[show (k:Int)+1=((k+1:Nat):Int) by lia,gZ,List.map_take]
  refine⟨.t (.v (.int (((outs (fun p=>sortI (nb ts p)) (os.take (k+1))).length:Nat):Int))),?_,rfl⟩
  unfold tI at hs ⊢;rw[List.map_take] at hs hc;simp[hc,hs])
 refine cW (ρ:=[some (.v (wD ps ts)),some (.v (tI os)),some (.bL (dd ps fun p=>sortI (nb ts p)))]) rfl ?_ rfl
 show FF.gP [some (.v (wD ps ts)),some (.v (tI os)),none]=_;refine (aE (ρ1:=[some (.v (wD ps ts)),some (.v (tI os)),some (.bL (dd ps fun p=>sortI (nb ts p)))]) (by simp[hnear])).trans ?_
 have hsm:=small (k:=(os.length:Int)) (by lia)
 unfold tI at e ⊢;simp[hsm,e,mz,List.map_map]
theorem ux (ns:List Int):lN 0 [.v (tI ns)]=some (.v (.int ((jK ns).getD 0))):=by
 show (ud 0 (ns.map .int))=_;unfold ud;rw[gV];rfl
theorem spread {ts:List (Int×Int)} {os:List Int} (w:Wb ps ts) (hn:ps.length<=24) (hp:os.Perm ps):FF.cJ [.v (wD ps ts),.v (tI os)]=some (.v (.int ((jK (mz (fun p=>sortI (nb ts p)) os)).getD 0)),[.v (wD ps ts),.v (tI os)]):=by
 have h1:=pT w hn hp;have h2:=ux (mz (fun p=>sortI (nb ts p)) os)
 refine cW (ρ:=[some (.v (wD ps ts)),some (.v (tI os))]) rfl ?_ rfl;show FF.fB [some (.v (wD ps ts)),some (.v (tI os))]=_;simp[FF.fB,h1,h2]
noncomputable def nl (ts:List (Int×Int)) (p:Int):List Int:=(ts.filter fun t=>decide (p∈[t.1,t.2])).map fun t=>t.1+t.2-p
theorem yg {ts:List (Int×Int)} {p q:Int}:q∈nl ts p↔(p,q)∈ts\/(q,p)∈ts:=by
 unfold nl;rw[List.mem_map];constructor
 ·rintro⟨t,ht,rfl⟩
  obtain⟨h1,h2⟩:=List.mem_filter.mp ht;have h2:p=t.1\/p=t.2:=by simpa using h2
  rcases h2 with h2 | h2
  ·left; rw[show t.1+t.2-p=t.2 by lia,h2]; exact h1
  ·right; rw[show t.1+t.2-p=t.1 by lia,h2]; exact h1
 ·rintro (h | h)
  ·exact⟨(p,q),List.mem_filter.mpr ⟨h,by simp⟩,by show p+q-p=q; lia⟩
  ·exact⟨(q,p),List.mem_filter.mpr ⟨h,by simp⟩,by show q+p-p=q; lia⟩
theorem near {ts:List (Int×Int)} (p:Int) (ht:ts.length<=1000):FF.bP [.v (wD ps ts),.v (.int p)]=some (.lst ((nl ts p).map .int),[.v (wD ps ts),.v (.int p)]):=by
 obtain⟨x,y,e⟩:=gk (ft:=cz (vB (lg false) (aa 2) (cG (ai (aa 0) (af (aa 1)))))) (fe:=vB jh (vB bH (aa 0) (aa 1)) (aa 2)) (cs:=[some (.v (.int p))]) (p:=fun t=>decide (p∈[t.1,t.2])) (f:=fun t=>.int (t.1+t.2-p)) ts [] none none (fun t _=>by
  have:=uv false [t.1,t.2] p;refine⟨?_,.t (.v (.int (t.1+t.2-p))),by simp,rfl⟩
  simp at this;simp[lim,this]) (by simp; unfold lim; lia)
 rw[List.nil_append] at e;refine cW (ρ:=[some (.v (wD ps ts)),some (.v (.int p))]) rfl ?_ rfl;show FF.dG [some (.v (wD ps ts)),some (.v (.int p))]=_;simp[FF.dG,kD,uI,e,nl,List.map_map]
end
@[simp] theorem mulR_eq {ds:List PyData} {k:Int}:mulR (.lst ds) (.v (.int k))=if 0<=k/\k<=1000/\ds.length*k.toNat<=lim then some (.lst (vq ds k.toNat)) else none:=rfl
section
variable {ps:List Int} {ts:List (Int×Int)}
noncomputable abbrev Du:FS:=aF (bh 8 (eL (allM true) (af (jX 1 [5] (cO (dm FF.bP (ai (aa 0) (af (aa 7))))) (ah 0) cH (vB (lg false) (aa 0) (aa 1))))))
 (cB (pN 6 (af (vB mulR (eO (af (aa 7))) (eL iy (af (aa 8)))))))
noncomputable def ic (ts:List (Int×Int)) (ls:List Int) (p:Int):Bool:=(nl ts p).any fun q=>decide (q∈ls)
theorem inner {os fs ls F:List Int} {at1:Int} (ht:ts.length<=60) (hf:fs.length<=24) (x7 x8:Option M):∃x7' x8',forL (ah 7) Du (fs.map .int) [some (.v (wD ps ts)),some (.v (tI os)),some (.lst (F.map .int)),some (.v (.int at1)),some (.v (tI fs)),some (.v (tI ls)),some (.lst []),x7,x8] =
  some (.nx [some (.v (wD ps ts)),some (.v (tI os)),some (.lst (F.map .int)),some (.v (.int at1)),some (.v (tI fs)),some (.v (tI ls)),some (.lst ((fs.filter (ic ts ls)).map .int)),x7',x8']):=by
 obtain⟨ρ',e,dn,rs,y7,y8,h1,h2,rfl⟩:=cD (fg:=ah 7) (fb:=Du) (P:=fun rest ρ=>∃ (dn rs:List Int) (y7 y8:Option M),rest=rs.map .int/\dn++rs=fs/\ρ=[some (.v (wD ps ts)),some (.v (tI os)),some (.lst (F.map .int)),some (.v (.int at1)),some (.v (tI fs)),some (.v (tI ls)),some (.lst ((dn.filter (ic ts ls)).map .int)),y7,y8])
  (fs.map .int) [some (.v (wD ps ts)),some (.v (tI os)),some (.lst (F.map .int)),some (.v (.int at1)),some (.v (tI fs)),some (.v (tI ls)),some (.lst []),x7,x8] ⟨[],fs,x7,x8,rfl,rfl,rfl⟩ (fun d rest ρ hP=>by
   obtain⟨dn,rs,y7,y8,h1,h2,rfl⟩:=hP;cases rs with
   | nil=>cases h1
   | cons r rs =>
    obtain⟨rfl,rfl⟩:=List.cons.inj h1;have hlen:dn.length+(rs.length+1)=fs.length:=by rw[<-h2,List.length_append,List.length_cons]
    have hnl:(nl ts r).length<=60:=by unfold nl; rw[List.length_map]; exact Nat.le_trans (List.length_filter_le _ _) ht
    obtain⟨y,ec⟩:=gY (fe:=vB (lg false) (aa 0) (aa 1)) (cs:=[some (.v (tI ls))]) (f:=fun d=>match d with | .int q=>.bool (decide (q∈ls)) | _=>.none) ((nl ts r).map PyData.int) [] none (fun d hd=>by
     obtain⟨q,_,rfl⟩:=List.mem_map.mp hd;refine⟨.t (.v (.bool (decide (q∈ls)))),?_,rfl⟩;have:=Ax false ls q;simp[this]) (by rw[List.length_map]; unfold lim; simp; lia)
    rw[List.nil_append,List.map_map] at ec;have ec:bR (ah 0) cH (vB (lg false) (aa 0) (aa 1)) ((nl ts r).map PyData.int) [none,some (.v (tI ls))] []=some ((nl ts r).map (fun q=>PyData.bool (decide (q∈ls))),[y,some (.v (tI ls))]):=ec
    have hb:=any_bools (nl ts r) (fun q=>decide (q∈ls))
    have hb:allM true [.lst ((nl ts r).map fun q=>PyData.bool (decide (q∈ls)))]=some (.v (.bool (ic ts ls r))):=hb
    generalize (nl ts r).map (fun q=>PyData.bool (decide (q∈ls)))=B at ec hb
    have hn:=near (ps:=ps) (ts:=ts) r (by lia)
    have hlf:(dn.filter (ic ts ls)).length<=24:=Nat.le_trans (List.length_filter_le _ _) (by lia)
    refine⟨[some (.v (wD ps ts)),some (.v (tI os)),some (.lst (F.map .int)),some (.v (.int at1)),some (.v (tI fs)),some (.v (tI ls)),some (.lst ((dn.filter (ic ts ls)).map .int)),some (.v (.int r)),y8],[some (.v (wD ps ts)),some (.v (tI os)),some (.lst (F.map .int)),some (.v (.int at1)),some (.v (tI fs)),some (.v (tI ls)),some (.lst (((dn++[r]).filter (ic ts ls)).map .int)),some (.v (.int r)),some (.v (.bool (ic ts ls r)))],by simp,?_,dn++[r],rs,_,_,rfl,by rw[List.append_assoc]; exact h2,rfl⟩
    refine (aE (ρ1:=[some (.v (wD ps ts)),some (.v (tI os)),some (.lst (F.map .int)),some (.v (.int at1)),some (.v (tI fs)),some (.v (tI ls)),some (.lst ((dn.filter (ic ts ls)).map .int)),some (.v (.int r)),some (.v (.bool (ic ts ls r)))]) ?_).trans ?_
    ·simp[hn,ec,hb,-pM]
    ·cases htd:ic ts ls r with
     | true =>
      have hlim:(dn.filter (ic ts ls)).length<=999999:=by lia
      simp[htd,lim,vq,hlim,List.filter_append]
     | false =>
      have hlim:(dn.filter (ic ts ls)).length<=1000000:=by lia
      simp[htd,lim,vq,hlim,List.filter_append])
 have:rs=[]:=by cases rs with | nil=>rfl | cons _ _=>cases h1
 subst this;rw[List.append_nil] at h2;subst h2;exact⟨y7,y8,e⟩
theorem Ad (w:Wb ps ts) {os:List Int} (hp:os.Perm ps) (k:Nat) (p:Int):ic ts (os.drop k) p=(sortI (nb ts p)).any fun q => !decide (q∈os.take k):=by
 have nd:os.Nodup:=hp.nodup_iff.mpr (w.rise.imp fun h=>by lia)
 have hin:∀q,(q∈nl ts p)↔q∈sortI (nb ts p):=fun q=>yg.trans (Cw.symm.trans (d8 ltI (nb ts p)).mem_iff.symm)
 have hpq:∀q,q∈nl ts p->q∈os:=fun q hq=>by
  rcases yg.mp hq with h | h
  ·exact hp.mem_iff.mpr (w.ends _ h).2.1
  ·exact hp.mem_iff.mpr (w.ends _ h).1
 have hsplit:∀q∈os,decide (q∈os.drop k) = !decide (q∈os.take k):=fun q hq=>by
  have nd2:=nd;rw[<-List.take_append_drop k os,List.nodup_append] at nd2;rw[<-List.take_append_drop k os] at hq
  by_cases h1:q∈os.take k
  ·have h2:q∉os.drop k:=fun h=>nd2.2.2 q h1 q h rfl
   simp[h1,h2]
  ·have h2:q∈os.drop k:=by
    rcases lM hq with h | h
    ·exact absurd h h1
    ·exact h
   simp[h1,h2]
 unfold ic;rw[Bool.eq_iff_iff,List.any_eq_true,List.any_eq_true];constructor
 ·rintro⟨q,h1,h2⟩
  exact⟨q,(hin q).mp h1,by rw[<-hsplit q (hpq q h1)]; exact h2⟩
 ·rintro⟨q,h1,h2⟩
  exact⟨q,(hin q).mpr h1,by rw[hsplit q (hpq q ((hin q).mpr h1))]; exact h2⟩
noncomputable abbrev DJ:FS:=aF (r9 (cG (ai (w9 (aa 1) dZ (d7 (vB bH (aa 3) (vC (.int 1))))) (af (w9 (aa 1) (d7 (vB bH (aa 3) (vC (.int 1)))) dZ)))) (bX 2 (aC (ah 4) (aC (ah 5) cC))))
 (aF (bh 6 (eO gE))
 (aF (gc (cO (aa 4)) (ah 7) Du)
 (cB (mX 2 (af (eL iK (af (aa 6))))))))
theorem yi (ds:List PyData) (k:Nat) (h:k<=ds.length):cutD ds (some (k:Int)) none=ds.drop k:=by
 unfold cutD;rw[HT.qd,HT.sW,Nat.min_eq_left h,List.take_of_length_le];rw[List.length_drop]; lia
theorem qX {os:List Int} (w:Wb ps ts) (hn:ps.length<=24) (hp:os.Perm ps):FF.bE [.v (wD ps ts),.v (tI os)]=some (.v (tI (mz (fun p=>sortI (nb ts p)) os)),[.v (wD ps ts),.v (tI os)]):=by
 have ho:os.length<=24:=by rw[hp.length_eq]; exact hn
 obtain⟨ρ',e,k,x3,x4,x5,x6,x7,x8,h1,h2,rfl⟩:=cD (fg:=ah 3) (fb:=DJ) (P:=fun rest ρ=>∃ (k:Nat) (x3 x4 x5 x6 x7 x8:Option M),rest=((List.range os.length).drop k).map (fun k:Nat=>PyData.int (0+(k:Int)))/\k<=os.length/\ρ=[some (.v (wD ps ts)),some (.v (tI os)),some (.lst (((List.range k).map fun k=>(((outs (fun p=>sortI (nb ts p)) (os.take (k+1))).length:Nat):Int)).map .int)),x3,x4,x5,x6,x7,x8])
  (aO 0 (os.length:Int)) [some (.v (wD ps ts)),some (.v (tI os)),some (.lst []),none,none,none,none,none,none] ⟨0,none,none,none,none,none,none,by rw[jN]; rfl,Nat.zero_le _,rfl⟩ (fun d rest ρ hP=>by
   obtain⟨k,x3,x4,x5,x6,x7,x8,h1,h2,rfl⟩:=hP;obtain⟨x,hx,rfl,hr⟩:=ng h1;obtain⟨rfl,hk⟩:=vt hx;generalize hF:(List.range x).map (fun k=>(((outs (fun p=>sortI (nb ts p)) (os.take (k+1))).length:Nat):Int))=F
   have hFl:F.length=x:=by rw[<-hF]; simp
   obtain⟨y7,y8,ei⟩:=inner (ps:=ps) (ts:=ts) (os:=os) (fs:=os.take (x+1)) (ls:=os.drop (x+1)) (F:=F) (at1:=(x:Int)) w.few (by rw[List.length_take]; lia) x7 x8
   have ef:(os.take (x+1)).filter (ic ts (os.drop (x+1)))=outs (fun p=>sortI (nb ts p)) (os.take (x+1)):=by
    unfold outs;exact List.filter_congr fun p _=>Ad w hp (x+1) p
   rw[ef] at ei;have c1:cutD (os.map PyData.int) none (some ((x:Int)+1))=(os.take (x+1)).map .int:=by rw[show (x:Int)+1=((x+1:Nat):Int) by lia,gZ,List.map_take]
   have c2:cutD (os.map PyData.int) (some ((x:Int)+1)) none=(os.drop (x+1)).map .int:=by rw[show (x:Int)+1=((x+1:Nat):Int) by lia,yi _ _ (by rw[List.length_map]; lia),List.map_drop]
   refine⟨[some (.v (wD ps ts)),some (.v (tI os)),some (.lst (F.map .int)),some (.v (.int (x:Int))),x4,x5,x6,x7,x8],[some (.v (wD ps ts)),some (.v (tI os)),some (.lst ((F++[((outs (fun p=>sortI (nb ts p)) (os.take (x+1))).length:Int)]).map .int)),some (.v (.int (x:Int))),some (.v (tI (os.take (x+1)))),some (.v (tI (os.drop (x+1)))),some (.lst ((outs (fun p=>sortI (nb ts p)) (os.take (x+1))).map .int)),y7,y8],by simp,?_,x+1,some (.v (.int (x:Int))),some (.v (tI (os.take (x+1)))),some (.v (tI (os.drop (x+1)))),some (.lst ((outs (fun p=>sortI (nb ts p)) (os.take (x+1))).map .int)),y7,y8,hr,by lia,?_⟩
   ·refine (aE (ρ1:=[some (.v (wD ps ts)),some (.v (tI os)),some (.lst (F.map .int)),some (.v (.int (x:Int))),some (.v (tI (os.take (x+1)))),some (.v (tI (os.drop (x+1)))),x6,x7,x8]) ?_).trans ?_
    ·unfold tI
     simp[c1,c2,lim]
    refine (aE (ρ1:=[some (.v (wD ps ts)),some (.v (tI os)),some (.lst (F.map .int)),some (.v (.int (x:Int))),some (.v (tI (os.take (x+1)))),some (.v (tI (os.drop (x+1)))),some (.lst []),x7,x8]) (by simp[lim])).trans ?_
    refine (aE (ρ1:=[some (.v (wD ps ts)),some (.v (tI os)),some (.lst (F.map .int)),some (.v (.int (x:Int))),some (.v (tI (os.take (x+1)))),some (.v (tI (os.drop (x+1)))),some (.lst ((outs (fun p=>sortI (nb ts p)) (os.take (x+1))).map .int)),y7,y8]) ?_).trans ?_
    ·unfold tI at ei ⊢
     simp at ei ⊢;exact ei
    ·have hlim:F.length<1000000:=by lia
     simp[lim,hlim]
   ·rw[<-hF,List.range_succ,List.map_append (l₁:=List.range x)]
    rfl)
 have hk:k=os.length:=by
  have:=congrArg List.length h1;simp at this;lia
 subst hk;refine cW (ρ:=[some (.v (wD ps ts)),some (.v (tI os)),some (.lst ((mz (fun p=>sortI (nb ts p)) os).map .int)),x3,x4,x5,x6,x7,x8]) rfl ?_ rfl
 show FF.eK [some (.v (wD ps ts)),some (.v (tI os)),none,none,none,none,none,none,none]=_;refine (aE (ρ1:=[some (.v (wD ps ts)),some (.v (tI os)),some (.lst []),none,none,none,none,none,none]) (by simp[lim])).trans ?_
 refine (aE (ρ1:=[some (.v (wD ps ts)),some (.v (tI os)),some (.lst ((mz (fun p=>sortI (nb ts p)) os).map .int)),x3,x4,x5,x6,x7,x8]) ?_).trans (by simp[tI])
 have hsm:=small (k:=(os.length:Int)) (by lia)
 have e:forL (ah 3) DJ (aO 0 (os.length:Int)) [some (.v (wD ps ts)),some (.v (tI os)),some (.lst []),none,none,none,none,none,none]=some (.nx [some (.v (wD ps ts)),some (.v (tI os)),some (.lst ((mz (fun p=>sortI (nb ts p)) os).map .int)),x3,x4,x5,x6,x7,x8]):=e
 unfold tI at e ⊢;simp[hsm];exact e
end
theorem same_int (n:Nat) (i:Int):FF.az (n+1) [.v (.int i),.v (.int i)]=some (.v (.bool true),[.v (.int i),.v (.int i)]):=by
 have hn:uX false (.v (.int i)) (.v .none)=some (.v (.bool false)):=rfl;simp[FF.az,jn,subB,hn]
theorem yj (n:Nat) {ds:List PyData} (hl:ds.length<=1000) (h:∀d∈ds,FF.az n [.v d,.v d]=some (.v (.bool true),[.v d,.v d])):FF.az (n+1) [.v (.tuple ds),.v (.tuple ds)]=some (.v (.bool true),[.v (.tuple ds),.v (.tuple ds)]):=by
 obtain⟨x,y,e⟩:=n9 (u:=fun d:PyData=>d) (v:=fun d=>d) (fe:=dm (FF.az n) (ai (aa 0) (af (aa 1)))) (cs:=[]) (f:=fun _=>.bool true) ds [] none none (fun d hd=>⟨.t (.v (.bool true)),by simp[h d hd],rfl⟩) (by rw[List.length_nil]; unfold lim; lia)
 rw[List.nil_append] at e;have hz:=yf ds;have ha:=all_true ds;have he:mV true (.v (.int (ds.length:Int))) (.v (.int (ds.length:Int)))=some (.v (.bool false)):=by simp
 generalize ds.map (fun d=>PyData.tuple [d,d])=Z at *
 generalize ds.map (fun _=>PyData.bool true)=B at *
 simp[FF.az,jn,subB,he,hz,e,ha,-pM]
theorem same_ints (n:Nat) {xs:List Int} (hl:xs.length<=1000):FF.az (n+2) [.v (tI xs),.v (tI xs)]=some (.v (.bool true),[.v (tI xs),.v (tI xs)]) :=
 yj (n+1) (by rw[List.length_map]; exact hl) fun d hd=>by
  obtain⟨i,_,rfl⟩:=List.mem_map.mp hd;exact same_int n i
section
variable {ps:List Int} {ts:List (Int×Int)}
theorem right {os:List Int} (w:Wb ps ts) (hn:ps.length<=24) (hp:os.Perm ps):FF.bF [.v (wD ps ts),.v (tI os)]=some (.v (.bool true),[.v (wD ps ts),.v (tI os)]):=by
 have h1:=qX w hn hp;have h2:=pT w hn hp;have h3:=spread w hn hp;have hS:(mz (fun p=>sortI (nb ts p)) os).length<=1000:=by
  unfold mz;rw[List.length_map,List.length_range,hp.length_eq];lia
 generalize mz (fun p=>sortI (nb ts p)) os=S at *
 have h4:=ux S;have h5:=same_ints 2 hS;have h6:=same_int 3 ((jK S).getD 0);obtain⟨ρ',e,x3,rfl⟩:=cD (fg:=ah 3) (fb:=aF (dw (kU (iJ (dm (FF.az 4) (ai (dm FF.bx (ai (aa 0) (af (aa 1)))) (af (aa 2)))))) (cL (vC (.bool false))) bJ)
  (dw (kU (iJ (dm (FF.az 4) (ai (dm FF.cJ (ai (aa 0) (af (aa 1)))) (af (eL (lN (0)) (af (aa 2)))))))) (cL (vC (.bool false))) bJ)) (P:=fun _ ρ=>∃x3:Option M,ρ=[some (.v (wD ps ts)),some (.v (tI os)),some (.v (tI S)),x3])
  (aO 0 2) [some (.v (wD ps ts)),some (.v (tI os)),some (.v (tI S)),none] ⟨none,rfl⟩ (fun d rest ρ hP=>by
   obtain⟨x3,rfl⟩:=hP;refine⟨[some (.v (wD ps ts)),some (.v (tI os)),some (.v (tI S)),some (.v d)],[some (.v (wD ps ts)),some (.v (tI os)),some (.v (tI S)),some (.v d)],by simp,?_,some (.v d),rfl⟩
   refine (aE (ρ1:=[some (.v (wD ps ts)),some (.v (tI os)),some (.v (tI S)),some (.v d)]) ?_).trans ?_
   ·simp[h2,h5]
   ·simp[h3,h4,h6])
 refine cW (ρ:=[some (.v (wD ps ts)),some (.v (tI os)),some (.v (tI S)),x3]) rfl ?_ rfl;show FF.fU [some (.v (wD ps ts)),some (.v (tI os)),none,none]=_;refine (aE (ρ1:=[some (.v (wD ps ts)),some (.v (tI os)),some (.v (tI S)),none]) (by simp[h1])).trans ?_
 refine (aE (ρ1:=[some (.v (wD ps ts)),some (.v (tI os)),some (.v (tI S)),x3]) ?_).trans (by simp)
 have hsm:=small (k:=2) (by lia)
 simp[hsm];exact e
end
noncomputable abbrev lwO:FS:=dw (kU (iJ (dm FF.bF (ai (aa 4) (af (aa 5)))))) (cL (vC (.bool false))) bJ
noncomputable abbrev lwB:FS:=aF (bh 3 (vB (mV false) (dm FF.ao (ai (aa 1) (af (vC (.int 4))))) (vC (.int 0))))
 (aF (bh 4 (dm FF.bW (ai (aa 1) (af (dm FF.ao (ai (aa 1) (af (iI (eO (ai (vC (.int 10)) (af (vC (.int 25))))) (eL iy (af (aa 3)))))))))))
 (gc (cO (cG (ai (iI (aa 4) (vC (.int 0))) (ai (vB xF (iI (aa 4) (vC (.int 0))) (vU uZ (vC (.int 1)))) (af (eL ji (af (dm FF.bu (ai (aa 1) (af (iI (aa 4) (vC (.int 0))))))))))))) (ah 5) lwO))
theorem lwO_ok {ps:List Int} {ts:List (Int×Int)} {L:Option M} {l:List PyData} {x2 x3 x5:Option M} (w:Wb ps ts) (hn:ps.length<=24) {oss:List (List Int)} (h:∀os∈oss,os.Perm ps):∃x5',forL (ah 5) lwO (oss.map tI) [L,some (.lst l),x2,x3,some (.v (wD ps ts)),x5]=some (.nx [L,some (.lst l),x2,x3,some (.v (wD ps ts)),x5']):=by
 obtain⟨ρ',e,rs,x5',_,h2,rfl⟩:=cD (fg:=ah 5) (fb:=lwO) (P:=fun rest ρ=>∃ (rs:List (List Int)) (x5':Option M),rest=rs.map tI/\(∀os∈rs,os.Perm ps)/\ρ=[L,some (.lst l),x2,x3,some (.v (wD ps ts)),x5']) (oss.map tI) [L,some (.lst l),x2,x3,some (.v (wD ps ts)),x5] ⟨oss,x5,rfl,h,rfl⟩ (fun d rest ρ hP=>by
  obtain⟨rs,x5',h1,h2,rfl⟩:=hP;cases rs with
  | nil=>cases h1
  | cons os rs =>
   obtain⟨rfl,rfl⟩:=List.cons.inj h1;have hr:=right w hn (h2 os lS);refine⟨[L,some (.lst l),x2,x3,some (.v (wD ps ts)),some (.v (tI os))],[L,some (.lst l),x2,x3,some (.v (wD ps ts)),some (.v (tI os))],by simp,by simp[lwO,hr],rs,_,rfl,fun o ho=>h2 o (lO _ ho),rfl⟩)
 exact⟨x5',e⟩
theorem k23 (ns:List Int) (hl:ns.length<=63):∃ms,FF.qV [.v (.list (ns.map .int))]=some (.v (.bool true),ms):=by
 obtain⟨l0,hl0,e0⟩:=DF ns hl;obtain⟨ρ',e,l',x2,x3,x4,x5,hl',rfl⟩:=cD (fg:=ah 2) (fb:=lwB) (P:=fun _ ρ=>∃ (l':List PyData) (x2 x3 x4 x5:Option M),Pt l'/\ρ=[some (.v (.list (ns.map .int))),some (.lst l'),x2,x3,x4,x5])
  (aO 0 3) [some (.v (.list (ns.map .int))),some (.lst l0),none,none,none,none] ⟨l0,none,none,none,none,hl0,rfl⟩ (fun d rest ρ hP=>by
   obtain⟨l',x2,x3,x4,x5,hl',rfl⟩:=hP;obtain⟨r,l1,r0,r1,hl1,e1⟩:=take (m:=4) hl' (by decide) (by decide)
   obtain⟨mm,hM,eM⟩:∃mm:Int,(mm=10\/mm=25)/\kD [PyData.int 10,.int 25] (if r=0 then 1 else 0)=some (.int mm):=by
    by_cases h:r=0
    ·exact⟨25,.inr rfl,by rw[if_pos h]; rfl⟩
    ·exact⟨10,.inl rfl,by rw[if_neg h]; rfl⟩
   obtain⟨n,l2,n0,n1,hl2,e2⟩:=take (m:=mm) hl1 (by lia) (by lia)
   obtain⟨n,rfl⟩:=Int.eq_ofNat_of_zero_le n0;obtain⟨l3,ps,ts,hp,w,hl3,e3⟩:=DX (n:=n) hl2 (by lia)
   obtain⟨l4,qs,hq,hl4,e4⟩:=turned (ps:=ps) hl3 (by lia)
   obtain⟨x5',e5⟩:=lwO_ok (L:=some (.v (.list (ns.map .int)))) (l:=l4) (x2:=some (.v d)) (x3:=some (.v (.bool (decide (r=0))))) (x5:=x5) w (by lia) (oss:=[ps,ps.reverse,qs]) (by
    intro os ho;simp only[List.mem_cons,List.not_mem_nil,or_false] at ho;rcases ho with rfl | rfl | rfl
    ·exact .refl _
    ·exact List.reverse_perm _
    ·exact hq)
   refine⟨[some (.v (.list (ns.map .int))),some (.lst l'),some (.v d),x3,x4,x5],[some (.v (.list (ns.map .int))),some (.lst l4),some (.v d),some (.v (.bool (decide (r=0)))),some (.v (wD ps ts)),x5'],by simp,?_,l4,_,_,_,_,hl4,rfl⟩
   refine (aE (ρ1:=[some (.v (.list (ns.map .int))),some (.lst l1),some (.v d),some (.v (.bool (decide (r=0)))),x4,x5]) (by simp[e1])).trans ?_
   refine (aE (ρ1:=[some (.v (.list (ns.map .int))),some (.lst l3),some (.v d),some (.v (.bool (decide (r=0)))),some (.v (wD ps ts)),x5]) ?_).trans ?_
   ·simp[lim,eM,e2,e3]
   ·have hrev:xF (.v (tI ps)) (.v (.int (-1)))=some (.v (tI ps.reverse)):=by
     show _=some (M.v (.tuple (ps.reverse.map .int)));rw[List.map_reverse];rfl
    have hneg:uZ (.v (.int 1))=some (.v (.int (-1))):=rfl;have hg:kD [tI ps,tD ts] 0=some (tI ps):=rfl;have hsum:ji [.lst (qs.map PyData.int)]=some (.v (tI qs)):=rfl;simp[hg,hneg,hrev,e4,hsum,lim,-xK];exact e5)
 refine⟨_,cW (ρ:=[some (.v (.list (ns.map .int))),some (.lst l'),x2,x3,x4,x5]) rfl ?_ rfl⟩;show FF.mw [some (.v (.list (ns.map .int))),none,none,none,none,none]=_;refine (aE (ρ1:=[some (.v (.list (ns.map .int))),some (.lst l0),none,none,none,none]) (by simp[e0])).trans ?_
 refine (aE (ρ1:=[some (.v (.list (ns.map .int))),some (.lst l'),x2,x3,x4,x5]) ?_).trans (by simp)
 have hsm:=small (k:=3) (by lia)
 simp[hsm];exact e
end PS
end
section
namespace Lk23
open PySem L2 VL PyProof.Rows
theorem ln0 {P:List Value->Prop} (h:P []):∀us,us.length=0->P us:=fun us e=>by cases us with | nil=>exact h | cons _ _=>cases e
theorem lnS {n:Nat} {P:List Value->Prop} (h:∀a us,us.length=n->P (a::us)):∀us,us.length=n+1->P us:=fun us e=>by cases us with | nil=>cases e | cons a us=>exact h a us (Nat.succ.inj e)
theorem all_mk {l:PySem.W.OpenLaw} {w:World} {K:PySem.W.Frag} {h:Heap} {mg:Str->Option Value} {fa f1 f2 f3 f4 f5 f6 f7 f8 f9 f10 f11 f12 f13 f14 f15:Addr} (X:K.In h) (G:h.Ns mainGlobals mg) (hfa:mg "law" = some (.ref fa))
  {od1 an1 od2 an2 od3 an3 od4 an4 od5 an5 od6 an6 od7 an7 od8 an8 od9 an9 od10 an10 od11 an11 od12 an12 od13 an13 od14 an14 od15 an15:Option Addr} {sl1 sl2 sl3 sl4 sl5 sl6 sl7 sl8 sl9 sl10 sl11 sl12 sl13 sl14 sl15:Array (Option Value)} {oc1 kV1 dc1 pm1 cd1 ct1 oc2 kV2 dc2 pm2 cd2 ct2 oc3 kV3 dc3 pm3 cd3 ct3 oc4 kV4 dc4 pm4 cd4 ct4 oc5 kV5 dc5 pm5 cd5 ct5 oc6 kV6 dc6 pm6 cd6 ct6 oc7 kV7 dc7 pm7 cd7 ct7 oc8 kV8 dc8 pm8 cd8 ct8 oc9 kV9 dc9 pm9 cd9 ct9 oc10 kV10 dc10 pm10 cd10 ct10 oc11 kV11 dc11 pm11 cd11 ct11 oc12 kV12 dc12 pm12 cd12 ct12 oc13 kV13 dc13 pm13 cd13 ct13 oc14 kV14 dc14 pm14 cd14 ct14 oc15 kV15 dc15 pm15 cd15 ct15:Value}
  (a1:PySem.W.nsIn K mainGlobals "nears" = some (some (.ref f1))) (l1:K.lookup f1=some ⟨oc1,od1,.func (PySem.W.fnOf "nears" "nears" (aU s_nears) (aQ s_nears) (aq s_nears) .none kV1 dc1 pm1 an1 cd1 ct1),sl1⟩) (c1:PySem.W.codeIn K cd1 "nears" = true) (k1:PySem.W.keepIn K (.ref f1)=true)
  (a2:PySem.W.nsIn K mainGlobals "spread_at" = some (some (.ref f2))) (l2:K.lookup f2=some ⟨oc2,od2,.func (PySem.W.fnOf "spread_at" "spread_at" (aU s_spread_at) (aQ s_spread_at) (aq s_spread_at) .none kV2 dc2 pm2 an2 cd2 ct2),sl2⟩) (c2:PySem.W.codeIn K cd2 "spread_at" = true) (k2:PySem.W.keepIn K (.ref f2)=true)
  (a3:PySem.W.nsIn K mainGlobals "spreads" = some (some (.ref f3))) (l3:K.lookup f3=some ⟨oc3,od3,.func (PySem.W.fnOf "spreads" "spreads" (aU s_spreads) (aQ s_spreads) (aq s_spreads) .none kV3 dc3 pm3 an3 cd3 ct3),sl3⟩) (c3:PySem.W.codeIn K cd3 "spreads" = true) (k3:PySem.W.keepIn K (.ref f3)=true)
  (a4:PySem.W.nsIn K mainGlobals "spread" = some (some (.ref f4))) (l4:K.lookup f4=some ⟨oc4,od4,.func (PySem.W.fnOf "spread" "spread" (aU s_spread) (aQ s_spread) (aq s_spread) .none kV4 dc4 pm4 an4 cd4 ct4),sl4⟩) (c4:PySem.W.codeIn K cd4 "spread" = true) (k4:PySem.W.keepIn K (.ref f4)=true)
  (a5:PySem.W.nsIn K mainGlobals "_law_pot" = some (some (.ref f5))) (l5:K.lookup f5=some ⟨oc5,od5,.func (PySem.W.fnOf "_law_pot" "_law_pot" (aU s_law_pot) (aQ s_law_pot) (aq s_law_pot) .none kV5 dc5 pm5 an5 cd5 ct5),sl5⟩) (c5:PySem.W.codeIn K cd5 "_law_pot" = true) (k5:PySem.W.keepIn K (.ref f5)=true)
  (a6:PySem.W.nsIn K mainGlobals "_law_take" = some (some (.ref f6))) (l6:K.lookup f6=some ⟨oc6,od6,.func (PySem.W.fnOf "_law_take" "_law_take" (aU s_law_take) (aQ s_law_take) (aq s_law_take) .none kV6 dc6 pm6 an6 cd6 ct6),sl6⟩) (c6:PySem.W.codeIn K cd6 "_law_take" = true) (k6:PySem.W.keepIn K (.ref f6)=true)
  (a7:PySem.W.nsIn K mainGlobals "_law_places" = some (some (.ref f7))) (l7:K.lookup f7=some ⟨oc7,od7,.func (PySem.W.fnOf "_law_places" "_law_places" (aU s_law_places) (aQ s_law_places) (aq s_law_places) .none kV7 dc7 pm7 an7 cd7 ct7),sl7⟩) (c7:PySem.W.codeIn K cd7 "_law_places" = true) (k7:PySem.W.keepIn K (.ref f7)=true)
  (a8:PySem.W.nsIn K mainGlobals "_law_pairs" = some (some (.ref f8))) (l8:K.lookup f8=some ⟨oc8,od8,.func (PySem.W.fnOf "_law_pairs" "_law_pairs" (aU s_law_pairs) (aQ s_law_pairs) (aq s_law_pairs) .none kV8 dc8 pm8 an8 cd8 ct8),sl8⟩) (c8:PySem.W.codeIn K cd8 "_law_pairs" = true) (k8:PySem.W.keepIn K (.ref f8)=true)
  (a9:PySem.W.nsIn K mainGlobals "_law_web" = some (some (.ref f9))) (l9:K.lookup f9=some ⟨oc9,od9,.func (PySem.W.fnOf "_law_web" "_law_web" (aU s_law_web) (aQ s_law_web) (aq s_law_web) .none kV9 dc9 pm9 an9 cd9 ct9),sl9⟩) (c9:PySem.W.codeIn K cd9 "_law_web" = true) (k9:PySem.W.keepIn K (.ref f9)=true)
  (a10:PySem.W.nsIn K mainGlobals "_law_turned" = some (some (.ref f10))) (l10:K.lookup f10=some ⟨oc10,od10,.func (PySem.W.fnOf "_law_turned" "_law_turned" (aU s_law_turned) (aQ s_law_turned) (aq s_law_turned) .none kV10 dc10 pm10 an10 cd10 ct10),sl10⟩) (c10:PySem.W.codeIn K cd10 "_law_turned" = true) (k10:PySem.W.keepIn K (.ref f10)=true)
  (a11:PySem.W.nsIn K mainGlobals "_law_near" = some (some (.ref f11))) (l11:K.lookup f11=some ⟨oc11,od11,.func (PySem.W.fnOf "_law_near" "_law_near" (aU s_law_near) (aQ s_law_near) (aq s_law_near) .none kV11 dc11 pm11 an11 cd11 ct11),sl11⟩) (c11:PySem.W.codeIn K cd11 "_law_near" = true) (k11:PySem.W.keepIn K (.ref f11)=true)
  (a12:PySem.W.nsIn K mainGlobals "_law_spreads" = some (some (.ref f12))) (l12:K.lookup f12=some ⟨oc12,od12,.func (PySem.W.fnOf "_law_spreads" "_law_spreads" (aU s_law_spreads) (aQ s_law_spreads) (aq s_law_spreads) .none kV12 dc12 pm12 an12 cd12 ct12),sl12⟩) (c12:PySem.W.codeIn K cd12 "_law_spreads" = true) (k12:PySem.W.keepIn K (.ref f12)=true)
  (a13:PySem.W.nsIn K mainGlobals "_law_same" = some (some (.ref f13))) (l13:K.lookup f13=some ⟨oc13,od13,.func (PySem.W.fnOf "_law_same" "_law_same" (aU s_law_same) (aQ s_law_same) (aq s_law_same) .none kV13 dc13 pm13 an13 cd13 ct13),sl13⟩) (c13:PySem.W.codeIn K cd13 "_law_same" = true) (k13:PySem.W.keepIn K (.ref f13)=true)
  (a14:PySem.W.nsIn K mainGlobals "_law_right" = some (some (.ref f14))) (l14:K.lookup f14=some ⟨oc14,od14,.func (PySem.W.fnOf "_law_right" "_law_right" (aU s_law_right) (aQ s_law_right) (aq s_law_right) .none kV14 dc14 pm14 an14 cd14 ct14),sl14⟩) (c14:PySem.W.codeIn K cd14 "_law_right" = true) (k14:PySem.W.keepIn K (.ref f14)=true)
  (a15:PySem.W.nsIn K mainGlobals "law" = some (some (.ref f15))) (l15:K.lookup f15=some ⟨oc15,od15,.func (PySem.W.fnOf "law" "law" (aU s_law) (aQ s_law) (aq s_law) .none kV15 dc15 pm15 an15 cd15 ct15),sl15⟩) (c15:PySem.W.codeIn K cd15 "law" = true) (k15:PySem.W.keepIn K (.ref f15)=true)
  (z_sorted:PySem.W.nsIn K mainGlobals "sorted" = some none)
  (z_tuple:PySem.W.nsIn K mainGlobals "tuple" = some none)
  (z_any:PySem.W.nsIn K mainGlobals "any" = some none)
  (z_len:PySem.W.nsIn K mainGlobals "len" = some none)
  (z_range:PySem.W.nsIn K mainGlobals "range" = some none)
  (z_max:PySem.W.nsIn K mainGlobals "max" = some none)
  (z_abs:PySem.W.nsIn K mainGlobals "abs" = some none)
  (z_set:PySem.W.nsIn K mainGlobals "set" = some none)
  (z_int:PySem.W.nsIn K mainGlobals "int" = some none)
  (z_isinstance:PySem.W.nsIn K mainGlobals "isinstance" = some none)
  (z_bool:PySem.W.nsIn K mainGlobals "bool" = some none)
  (z_str:PySem.W.nsIn K mainGlobals "str" = some none)
  (z_zip:PySem.W.nsIn K mainGlobals "zip" = some none)
  (z_all:PySem.W.nsIn K mainGlobals "all" = some none)
  : ∃fd:FuncData,(∀ (s:Shared) (v:Value),BindsTo s fd ⟨[v],[]⟩ [("_law_script",v)])/\∀base:Heap,K.In base->base.Ns mainGlobals mg->cu l.prog w K mg base jx 7 fa fd ["_law_script"] (pL K):=by
 have e:=hfa.symm.trans (PySem.W.mg_of X G a15);cases e;have F1:=cF (st:=s_nears) l1 c1 k1;have b1:=F1.binds (ps:=["web"]) fun _ _ _ _ _ _=>lnS fun _=>ln0 rfl
 have m1:=PySem.W.mg_of X G a1;have F2:=cF (st:=s_spread_at) l2 c2 k2;have b2:=F2.binds (ps:=["ties_of", "some"]) fun _ _ _ _ _ _=>lnS fun _=>lnS fun _=>ln0 rfl
 have m2:=PySem.W.mg_of X G a2;have F3:=cF (st:=s_spreads) l3 c3 k3;have b3:=F3.binds (ps:=["web", "order"]) fun _ _ _ _ _ _=>lnS fun _=>lnS fun _=>ln0 rfl
 have m3:=PySem.W.mg_of X G a3;have F4:=cF (st:=s_spread) l4 c4 k4;have b4:=F4.binds (ps:=["web", "order"]) fun _ _ _ _ _ _=>lnS fun _=>lnS fun _=>ln0 rfl
 have m4:=PySem.W.mg_of X G a4;have F5:=cF (st:=s_law_pot) l5 c5 k5;have b5:=F5.binds (ps:=["_law_script"]) fun _ _ _ _ _ _=>lnS fun _=>ln0 rfl
 have m5:=PySem.W.mg_of X G a5;have F6:=cF (st:=s_law_take) l6 c6 k6;have b6:=F6.binds (ps:=["_law_pot_here", "_law_many"]) fun _ _ _ _ _ _=>lnS fun _=>lnS fun _=>ln0 rfl
 have m6:=PySem.W.mg_of X G a6;have F7:=cF (st:=s_law_places) l7 c7 k7;have b7:=F7.binds (ps:=["_law_pot_here", "_law_many"]) fun _ _ _ _ _ _=>lnS fun _=>lnS fun _=>ln0 rfl
 have m7:=PySem.W.mg_of X G a7;have F8:=cF (st:=s_law_pairs) l8 c8 k8;have b8:=F8.binds (ps:=["_law_pot_here", "_law_many"]) fun _ _ _ _ _ _=>lnS fun _=>lnS fun _=>ln0 rfl
 have m8:=PySem.W.mg_of X G a8;have F9:=cF (st:=s_law_web) l9 c9 k9;have b9:=F9.binds (ps:=["_law_pot_here", "_law_many"]) fun _ _ _ _ _ _=>lnS fun _=>lnS fun _=>ln0 rfl
 have m9:=PySem.W.mg_of X G a9;have F10:=cF (st:=s_law_turned) l10 c10 k10;have b10:=F10.binds (ps:=["_law_pot_here", "_law_some"]) fun _ _ _ _ _ _=>lnS fun _=>lnS fun _=>ln0 rfl
 have m10:=PySem.W.mg_of X G a10;have F11:=cF (st:=s_law_near) l11 c11 k11;have b11:=F11.binds (ps:=["_law_web_here", "_law_place"]) fun _ _ _ _ _ _=>lnS fun _=>lnS fun _=>ln0 rfl
 have m11:=PySem.W.mg_of X G a11;have F12:=cF (st:=s_law_spreads) l12 c12 k12;have b12:=F12.binds (ps:=["_law_web_here", "_law_order"]) fun _ _ _ _ _ _=>lnS fun _=>lnS fun _=>ln0 rfl
 have m12:=PySem.W.mg_of X G a12;have F13:=cF (st:=s_law_same) l13 c13 k13;have b13:=F13.binds (ps:=["_law_found", "_law_due"]) fun _ _ _ _ _ _=>lnS fun _=>lnS fun _=>ln0 rfl
 have m13:=PySem.W.mg_of X G a13;have F14:=cF (st:=s_law_right) l14 c14 k14;have b14:=F14.binds (ps:=["_law_web_here", "_law_order"]) fun _ _ _ _ _ _=>lnS fun _=>lnS fun _=>ln0 rfl
 have m14:=PySem.W.mg_of X G a14;have F15:=cF (st:=s_law) l15 c15 k15;have b15:=F15.binds (ps:=["_law_script"]) fun _ _ _ _ _ _=>lnS fun _=>ln0 rfl
 have m15:=PySem.W.mg_of X G a15;have T:Txt mg:=⟨PySem.W.mg_none_of X G z_sorted,PySem.W.mg_none_of X G z_tuple,PySem.W.mg_none_of X G z_any,PySem.W.mg_none_of X G z_len,PySem.W.mg_none_of X G z_range,PySem.W.mg_none_of X G z_max,PySem.W.mg_none_of X G z_abs,PySem.W.mg_none_of X G z_set,PySem.W.mg_none_of X G z_int,PySem.W.mg_none_of X G z_isinstance,PySem.W.mg_none_of X G z_bool,PySem.W.mg_none_of X G z_str,PySem.W.mg_none_of X G z_zip,PySem.W.mg_none_of X G z_all⟩;refine⟨PySem.W.fnOf "law" "law" (aU s_law) (aQ s_law) (aq s_law) .none kV15 dc15 pm15 an15 cd15 ct15,fun s v=>.of_eq rfl,fun base _ _ => ?_⟩
 have C_nears:aS l.prog w K mg base "nears" ["web"] 1 (cT K FF.eF):=⟨f1,_,ok_nears F1 T,b1,F1.kp,m1⟩;have C_spread_at:aS l.prog w K mg base "spread_at" ["ties_of", "some"] 1 (cT K FF.bD):=⟨f2,_,ok_spread_at F2 T,b2,F2.kp,m2⟩;have C_spreads:aS l.prog w K mg base "spreads" ["web", "order"] 2 (cT K FF.bx):=⟨f3,_,ok_spreads F3 T C_spread_at C_nears,b3,F3.kp,m3⟩;have C_spread:aS l.prog w K mg base "spread" ["web", "order"] 3 (cT K FF.cJ):=⟨f4,_,ok_spread F4 T C_spreads,b4,F4.kp,m4⟩;have C_law_pot:aS l.prog w K mg base "_law_pot" ["_law_script"] 1 (cT K FF.cR):=⟨f5,_,ok_law_pot F5 T,b5,F5.kp,m5⟩;have C_law_take:aS l.prog w K mg base "_law_take" ["_law_pot_here", "_law_many"] 1 (cT K FF.ao):=⟨f6,_,ok_law_take F6 T,b6,F6.kp,m6⟩;have C_law_places:aS l.prog w K mg base "_law_places" ["_law_pot_here", "_law_many"] 2 (cT K FF.bO):=⟨f7,_,ok_law_places F7 T C_law_take,b7,F7.kp,m7⟩;have C_law_pairs:aS l.prog w K mg base "_law_pairs" ["_law_pot_here", "_law_many"] 2 (cT K FF.bU):=⟨f8,_,ok_law_pairs F8 T C_law_take,b8,F8.kp,m8⟩;have C_law_web:aS l.prog w K mg base "_law_web" ["_law_pot_here", "_law_many"] 3 (cT K FF.bW):=⟨f9,_,ok_law_web F9 T C_law_pairs C_law_places,b9,F9.kp,m9⟩;have C_law_turned:aS l.prog w K mg base "_law_turned" ["_law_pot_here", "_law_some"] 2 (cT K FF.bu):=⟨f10,_,ok_law_turned F10 T C_law_take,b10,F10.kp,m10⟩;have C_law_near:aS l.prog w K mg base "_law_near" ["_law_web_here", "_law_place"] 1 (cT K FF.bP):=⟨f11,_,ok_law_near F11 T,b11,F11.kp,m11⟩;have C_law_spreads:aS l.prog w K mg base "_law_spreads" ["_law_web_here", "_law_order"] 2 (cT K FF.bE):=⟨f12,_,ok_law_spreads F12 T C_law_near,b12,F12.kp,m12⟩;have C_law_same:aS l.prog w K mg base "_law_same" ["_law_found", "_law_due"] 5 (cT K (FF.az 4)):=⟨f13,_,ok_law_same F13 T b13 m13 4,b13,F13.kp,m13⟩;have C_law_right:aS l.prog w K mg base "_law_right" ["_law_web_here", "_law_order"] 6 (cT K FF.bF):=⟨f14,_,ok_law_right F14 T C_law_same C_spread C_spreads C_law_spreads,b14,F14.kp,m14⟩;exact Cm (ok_law F15 T C_law_turned C_law_right C_law_web C_law_take C_law_pot) PS.k23
theorem walk {l:PySem.W.OpenLaw} {q:Program} {loose:List Str} {XP:(Str->Option Value)->Heap->Prop} {YP:World->Heap->Prop} {d:DefRec} {K:Params->PySem.W.Frag} (hn:l.most=some 63) (hdf:d.params.defaults=[])
  (hY:∀ (w:World) (h:Heap),YP w h->(K w.params).In h)
  (F:∀ (w:World) (mg:Str->Option Value) (fa:Addr) (h:Heap),(K w.params).In h->h.Ns mainGlobals mg->mg d.name=some (.ref fa) ->
   ∃fd:FuncData,(∀ (s:Shared) (u:Value),BindsTo s fd ⟨[u],[]⟩ [("_law_script",u)])/\∀base:Heap,(K w.params).In base->base.Ns mainGlobals mg->cu l.prog w (K w.params) mg base jx 7 fa fd ["_law_script"] (pL (K w.params))) :
  PySem.W.WalkO q loose XP YP l.row.toRowW d [] (fun f vs=>PySem.call f vs) :=
 L2.yV (n:=63) (k:=7) (x := "_law_script") (CX:=fun _=>jx) (sp:=fun w=>pL (K w.params)) hn (by decide) hdf ⟨rfl,by decide,by decide,rfl⟩ hY F (fun _ _ a ns hl _ hS=>⟨a,ns,rfl,hS,hl,fun _=>rfl⟩) fun _ _ _ _ _ z=>z
end Lk23
open PySem PySem.W PyProof.Rows
theorem PySem.Challenge.cw_drawnweb_k23_spreads_of_orders_holds : PySem.Challenge.rw_drawnweb_k23_spreads_of_orders.Holds := by
 w_on; o_law; k_head; (case hw=>w_witness2)
 k_fill
 refine Lk23.walk (l:=PySem.Challenge.rw_drawnweb_k23_spreads_of_orders) rfl rfl (fun w h Y=>PySem.W.kIn_of Y) ?F
 case F =>
  intro w mg fa h KX G hmg
  refine' Lk23.all_mk KX G hmg ?a1 ?l1 ?c1 ?k1 ?a2 ?l2 ?c2 ?k2 ?a3 ?l3 ?c3 ?k3 ?a4 ?l4 ?c4 ?k4 ?a5 ?l5 ?c5 ?k5 ?a6 ?l6 ?c6 ?k6 ?a7 ?l7 ?c7 ?k7 ?a8 ?l8 ?c8 ?k8 ?a9 ?l9 ?c9 ?k9 ?a10 ?l10 ?c10 ?k10 ?a11 ?l11 ?c11 ?k11 ?a12 ?l12 ?c12 ?k12 ?a13 ?l13 ?c13 ?k13 ?a14 ?l14 ?c14 ?k14 ?a15 ?l15 ?c15 ?k15 ?z_sorted ?z_tuple ?z_any ?z_len ?z_range ?z_max ?z_abs ?z_set ?z_int ?z_isinstance ?z_bool ?z_str ?z_zip ?z_all
  (case a1=>k_is); (case l1=>k_is); (case c1=>k_is); (case k1=>k_is)
  (case a2=>k_is); (case l2=>k_is); (case c2=>k_is); (case k2=>k_is)
  (case a3=>k_is); (case l3=>k_is); (case c3=>k_is); (case k3=>k_is)
  (case a4=>k_is); (case l4=>k_is); (case c4=>k_is); (case k4=>k_is)
  (case a5=>k_is); (case l5=>k_is); (case c5=>k_is); (case k5=>k_is)
  (case a6=>k_is); (case l6=>k_is); (case c6=>k_is); (case k6=>k_is)
  (case a7=>k_is); (case l7=>k_is); (case c7=>k_is); (case k7=>k_is)
  (case a8=>k_is); (case l8=>k_is); (case c8=>k_is); (case k8=>k_is)
  (case a9=>k_is); (case l9=>k_is); (case c9=>k_is); (case k9=>k_is)
  (case a10=>k_is); (case l10=>k_is); (case c10=>k_is); (case k10=>k_is)
  (case a11=>k_is); (case l11=>k_is); (case c11=>k_is); (case k11=>k_is)
  (case a12=>k_is); (case l12=>k_is); (case c12=>k_is); (case k12=>k_is)
  (case a13=>k_is); (case l13=>k_is); (case c13=>k_is); (case k13=>k_is)
  (case a14=>k_is); (case l14=>k_is); (case c14=>k_is); (case k14=>k_is)
  (case a15=>k_is); (case l15=>k_is); (case c15=>k_is); (case k15=>k_is)
  (case z_sorted=>k_is); (case z_tuple=>k_is); (case z_any=>k_is); (case z_len=>k_is); (case z_range=>k_is); (case z_max=>k_is); (case z_abs=>k_is); (case z_set=>k_is); (case z_int=>k_is); (case z_isinstance=>k_is); (case z_bool=>k_is); (case z_str=>k_is); (case z_zip=>k_is); (case z_all=>k_is)
end
