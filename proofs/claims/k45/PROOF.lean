import PyProof.Rows.All
import Wide.All
import OpenK.AllK
import Wide.FinOn
import Lean
import PyProof.EqAt
import PyProof.EqKinds
import PyProof.TupleCall
import PyProof.Rows.SortRuns
import PyProof.Rows.SortShell
import KE.KSortTup
import PyProof.DictKinds
import PyProof.StrOps
import PyProof.NeKinds
import PyProof.NeData
import PyProof.P3In
import PyProof.Rows.SumAny
import PyProof.FString5
import PyProof.StrWalks
import PyProof.Rows.Range3
import PyProof.SeqI3
import PyProof.SetKind
import PyProof.Rows.SetFrom
import PyProof.FactsAll.set
import PyProof.DictIter
import PyProof.CollectWalk
import PyProof.ListRange
import PyProof.StrCalls
import PyProof.StrCalls2
import PyProof.StrLawsTight
import KE.KIntText
import KE.IntTextLaws
import PyProof.FactsAll.str_6
import PyProof.MeetsStr
import PyProof.StrOps2
import PyProof.ReprRoads
import PySem.Challenge.RW_evenlots_k45_texts_of_no_rows
set_option Elab.async false
set_option linter.all false
set_option maxRecDepth 100000
set_option maxHeartbeats 0
noncomputable section
namespace L2
open PySem PySem.Spec PyProof.Rows
abbrev Key:=Sum Int Str
def IM:Key->Value->Bool
 | .inl k,v=>Value.isInt k v
 | .inr x,v=>Value.isStrOf x v
def Qt (w:World):Key->Int
 | .inl k=>hashInt k
 | .inr x=>hashStr w x
theorem DC:∀ {k:Key} {v:Value},IM k v=true->(∃ i t,k=Sum.inl i/\v=Value.int i t)\/(∃ x t,k=Sum.inr x/\v=Value.str x t)
 | .inl i,v,h=>by
  obtain ⟨t,e⟩:=Value.isInt_shape (k:=i) (v:=v) h
  exact .inl ⟨i,t,rfl,e⟩
 | .inr x,v,h=>by
  obtain ⟨t,e⟩:=Value.isStrOf_shape (x:=x) (v:=v) h
  exact .inr ⟨x,t,rfl,e⟩
theorem RQ (a b:Int):decide ((Sum.inl a:Key)=Sum.inl b)=(a == b):=by
 by_cases e:a=b
 ·subst e;simp
 ·have h:¬(Sum.inl a:Key)=Sum.inl b:=fun q=>e (Sum.inl.inj q)
  rw[decide_eq_false h]
  exact (beq_eq_false_iff_ne.mpr e).symm
theorem R4 (a b:Str):decide ((Sum.inr a:Key)=Sum.inr b)=decide (a=b):=by
 by_cases e:a=b
 ·subst e;simp
 ·have h:¬(Sum.inr a:Key)=Sum.inr b:=fun q=>e (Sum.inr.inj q)
  rw[decide_eq_false h,decide_eq_false e]
theorem PD (a:Int) (b:Str):decide ((Sum.inl a:Key)=Sum.inr b)=false:=decide_eq_false (fun q=>nomatch q)
theorem N7 (a:Str) (b:Int):decide ((Sum.inr a:Key)=Sum.inl b)=false:=decide_eq_false (fun q=>nomatch q)
def Gu (prog:Program) (w:World):PySem.KeyKind prog w Key where
 is:=IM
 hash:=Qt w
 inj:=fun v a b ha hb=>by
  rcases DC ha with ⟨i,t,rfl,rfl⟩ | ⟨x,t,rfl,rfl⟩
  ·rcases DC hb with ⟨j,u,rfl,e⟩ | ⟨y,u,rfl,e⟩
   ·injection e with e1 _;rw[e1]
   ·exact nomatch e
  ·rcases DC hb with ⟨j,u,rfl,e⟩ | ⟨y,u,rfl,e⟩
   ·exact nomatch e
   ·injection e with e1 _;rw[e1]
 byValue:=fun k v h=>by
  rcases DC h with ⟨i,t,rfl,rfl⟩ | ⟨x,t,rfl,rfl⟩<;>rfl
 pyHash:=fun hv h=>by
  rcases DC hv with ⟨i,t,rfl,rfl⟩ | ⟨x,t,rfl,rfl⟩
  ·exact wpAny_pyHash_int h
  ·exact wpAny_pyHash_str h
 eqBool:=fun hu hv h=>by
  rcases DC hu with ⟨i,t,rfl,rfl⟩ | ⟨x,t,rfl,rfl⟩
  ·rcases DC hv with ⟨j,u,rfl,rfl⟩ | ⟨y,u,rfl,rfl⟩
   ·rw[RQ] at h;exact wpAny_eqBool_int h
   ·rw[PD] at h;exact SeqAt.EqAt.int_str i t y u _ _ _ _ h
  ·rcases DC hv with ⟨j,u,rfl,rfl⟩ | ⟨y,u,rfl,rfl⟩
   ·rw[N7] at h;exact SeqAt.EqAt.str_int x t j u _ _ _ _ h
   ·rw[R4] at h;exact wpAny_eqBool_str h
 «strs»:=fun k x t v h=>by
  rcases DC h with ⟨i,u,rfl,e⟩ | ⟨y,u,rfl,e⟩
  ·exact nomatch e
  ·injection e with e1 _
   subst e1
   cases v<;>rfl
inductive V where
 | non | bl (b:Bool) | int (i:Int) | str (x:Str) | byt (b:Array UInt8) | flt (b:UInt64) | ref (a:Addr) | ty (n:String)
 deriving DecidableEq
def RelV:V->Value->Prop
 | .non,u=>u=Value.none
 | .bl b,u=>u=Value.bool b
 | .int i,u=>∃ t,u=Value.int i t
 | .str x,u=>∃ t,u=Value.str x t
 | .byt b,u=>∃ t,u=Value.bytes b t
 | .flt b,u=>∃ t,u=Value.float b t
 | .ref a,u=>u=Value.ref a
 | .ty n,u=>u=Value.type n
abbrev Vals:List V->List Value->Prop:=Paired RelV
theorem Vals.length {xs:List V} {us:List Value} (r:Vals xs us):xs.length=us.length:=Paired.length r
theorem Vals.get:∀ {xs:List V} {us:List Value} {i:Nat} {x:V},Vals xs us->xs[i]?=some x->∃ u,us[i]?=some u/\RelV x u
 | _,_,_,_,.nil,e=>by simp at e
 | _,_,0,_,.cons r _,e=>by simp at e;subst e;exact ⟨_,rfl,r⟩
 | _,_,i+1,x,.cons _ t,e=>by
  obtain ⟨u,h1,h2⟩:=Vals.get (i:=i) (x:=x) t (by simpa using e)
  exact ⟨u,by simpa using h1,h2⟩
theorem Vals.set {x:V} {u:Value} (r:RelV x u):∀ {xs:List V} {us:List Value} (i:Nat),Vals xs us->Vals (xs.set i x) (us.set i u)
 | _,_,_,.nil=>.nil
 | _,_,0,.cons _ t=>.cons r t
 | _,_,i+1,.cons q t=>.cons q (Vals.set r i t)
theorem Vals.append:∀ {xs ys:List V} {us ws:List Value},Vals xs us->Vals ys ws->Vals (xs++ys) (us++ws)
 | _,_,_,_,.nil,s=>s
 | _,_,_,_,.cons r t,s=>.cons r (Vals.append t s)
theorem Vals.take:∀ {xs:List V} {us:List Value} (n:Nat),Vals xs us->Vals (xs.take n) (us.take n)
 | _,_,0,_=>.nil
 | _,_,_+1,.nil=>.nil
 | _,_,n+1,.cons r t=>.cons r (Vals.take n t)
theorem Vals.drop:∀ {xs:List V} {us:List Value} (n:Nat),Vals xs us->Vals (xs.drop n) (us.drop n)
 | _,_,0,r=>r
 | _,_,_+1,.nil=>.nil
 | _,_,n+1,.cons _ t=>Vals.drop n t
def JU:Option V->Option Value->Prop
 | some v,some u=>RelV v u
 | none,none=>True
 | _,_=>False
def KV {κ:Type}:List (κ×V)->List (κ×Value)->Prop:=Paired fun (p:κ×V) (q:κ×Value)=>p.1=q.1/\RelV p.2 q.2
def kV:Key->V
 | .inl i=>.int i
 | .inr x=>.str x
inductive HO where
 | lst (xs:List V)
 | tup (xs:List V)
 | dK (kvs:List (Key×V)) | dT (kvs:List (List Key×V))
 | set (S:Int->Bool) (n:Nat)
 | ins (C dx:Addr) (fs:List (Str×V))
 | own (x:Addr)
 | xd (fs:List (Str×V))
 | met (f x:Addr)
 | rng (lo hi:Int)
 | frz (o:Obj) (u:HO)
 | tbl (ps:Array Value)
 | ext (φ:Heap->Prop)
abbrev Hp:=Addr->Option HO
def upd (H:Hp) (a:Addr) (o:HO):Hp:=fun b=>if b=a then some o else H b
theorem A6 {H:Hp} {a:Addr} {o:HO}:upd H a o a=some o:=by unfold upd;rw[if_pos rfl]
theorem AY {H:Hp} {a b:Addr} {o:HO} (h:b≠a):upd H a o b=H b:=by unfold upd;rw[if_neg h]
theorem Bu {H:Hp} {a b:Addr} {o:HO} (h:H a=some o) (h':H b=none):a≠b:=by
 intro e;subst e;rw[h] at h';cases h'
section
variable (P:Program) (w:World)
def ObjOk (H:Hp) (h:Heap) (a:Addr):HO->Prop
 | .lst xs=>xs.length<=sizeLine/\∃ (its:List Value) (n:Nat),Vals xs its/\h.get? a=some {cls:=.type "list",data:=.seq its.toArray n}
 | .tup xs=>xs.length<=sizeLine/\∃ its:List Value,Vals xs its/\IsTup h a its.toArray
 | .dK kvs=>kvs.length<=sizeLine/\(a == sysModules)=false/\∃ vs,KV kvs vs/\h.DictOf (Gu P w) a vs
 | .dT kvs=>kvs.length<=sizeLine/\(a == sysModules)=false/\∃ xs:List (List Key×Addr×Value),
   Paired (fun (p:List Key×V) (q:List Key×Addr×Value)=>p.1=q.1/\H q.2.1=some (.tup (p.1.map kV))/\RelV p.2 q.2.2) kvs xs /\
   ∃ o es ep,h.get? a=some o/\o.ExactDict/\o.data=.dict es ep/\es.toList=xs.map (entryOfKey (tupleKind (Gu P w)))/\(xs.map (·.1)).Nodup
 | .set S n=>h.SetOf (intKind P w) a S n
 | .ins C dx fs=>H dx=some (.own a)/\fs.length<=1000/\dx≠a/\h.get? a=some (PySem.W.instObj C dx) /\
   ∃ mA,h.Ns1 dx mA/\(∀ f,JU (fs.lookup f) (mA f))/\PySem.Within mA (fs.map (·.1))
 | .own _=>∃ o,h.get? a=some o
 | .xd fs=>∃ mA,h.Ns1 a mA/\∀ f,JU (fs.lookup f) (mA f)
 | .rng lo hi=>∃ t u v,h.get? a=some {cls:=.type "range",data:=.fields #[.int lo t,.int hi u,.int 1 v]}
 | .frz o u=>h.get? a=some o/\ObjOk H h a u
 | .tbl ps=>h.get? a=some {cls:=.none,data:=.fields ps}
 | .met f x=>h.get? a=some (PySem.W.methodObj (.ref f) (.ref x))
 | .ext φ=>φ h/\(∃ o,h.get? a=some o)/\∀ h1 h2:Heap,φ h1->(∀ o,h1.get? a=some o->h2.get? a=some o)->φ h2
def HOk (H:Hp) (h:Heap):Prop:=∀ a o,H a=some o->ObjOk P w H h a o
end
section
variable {P:Program} {w:World} {H H':Hp} {h h':Heap} {a:Addr} {o:HO}
theorem ObjOk.lt (x:ObjOk P w H h a o):a<h.objs.size:=by
 cases o with
 | lst xs=>obtain ⟨_,_,_,_,e⟩:=x;exact Heap.lt_size e
 | tup xs=>obtain ⟨_,_,_,p⟩:=x;exact p.lt
 | dK kvs=>obtain ⟨_,_,_,_,o,_,_,e,_⟩:=x;exact Heap.lt_size e
 | dT kvs=>obtain ⟨_,_,_,_,o,_,_,e,_⟩:=x;exact Heap.lt_size e
 | set S n=>obtain ⟨o,_,_,_,e,_⟩:=x;exact Heap.lt_size e
 | ins C dx fs=>obtain ⟨_,_,_,e,_⟩:=x;exact Heap.lt_size e
 | own y=>obtain ⟨_,e⟩:=x;exact Heap.lt_size e
 | xd fs=>obtain ⟨_,⟨_,_,_,e,_⟩,_⟩:=x;exact Heap.lt_size e
 | rng lo hi=>obtain ⟨_,_,_,e⟩:=x;exact Heap.lt_size e
 | frz ob u=>obtain ⟨e,_⟩:=x;exact Heap.lt_size e
 | tbl ps=>exact Heap.lt_size (show h.get? a=some _ from x)
 | met f y=>exact Heap.lt_size (show h.get? a=some _ from x)
 | ext φ=>obtain ⟨_,⟨_,e⟩,_⟩:=x;exact Heap.lt_size e
theorem Paired.mapP {α β:Type} {F G:α->β->Prop}:∀ {l₁:List α} {l₂:List β},Paired F l₁ l₂->(∀ a b,F a b->G a b)->Paired G l₁ l₂
 | _,_,.nil,_=>.nil
 | _,_,.cons r t,f=>.cons (f _ _ r) (Paired.mapP t f)
theorem ObjOk.stay (x:ObjOk P w H h a o) (k:∀ b u,(b=a\/H b=some (.own a))->h.get? b=some u->h'.get? b=some u)
  (ho:∀ b,H b=some (.own a)->H' b=some (.own a)) (ht:∀ b xs,H b=some (.tup xs)->H' b=some (.tup xs)):ObjOk P w H' h' a o:=by
 induction o with
 | lst xs=>obtain ⟨z,its,n,r,e⟩:=x;exact ⟨z,its,n,r,k _ _ (.inl rfl) e⟩
 | tup xs=>obtain ⟨z,its,r,ob,e,c⟩:=x;exact ⟨z,its,r,ob,k _ _ (.inl rfl) e,c⟩
 | dK kvs=>obtain ⟨z,y,vs,r,ob,es,ep,e,c⟩:=x;exact ⟨z,y,vs,r,ob,es,ep,k _ _ (.inl rfl) e,c⟩
 | dT kvs=>
  obtain ⟨z,y,xs,r,ob,es,ep,e,c⟩:=x
  exact ⟨z,y,xs,Paired.mapP r fun p q z=>⟨z.1,ht _ _ z.2.1,z.2.2⟩,ob,es,ep,k _ _ (.inl rfl) e,c⟩
 | set S n=>obtain ⟨ob,es,ep,t,e,c⟩:=x;exact ⟨ob,es,ep,t,k _ _ (.inl rfl) e,c⟩
 | ins C dx fs=>
  obtain ⟨d,z,ne,e,mA,⟨od,es,ep,e2,c⟩,r⟩:=x
  exact ⟨ho _ d,z,ne,k _ _ (.inl rfl) e,mA,⟨od,es,ep,k _ _ (.inr d) e2,c⟩,r⟩
 | own y=>obtain ⟨ob,e⟩:=x;exact ⟨ob,k _ _ (.inl rfl) e⟩
 | xd fs=>obtain ⟨mA,⟨od,es,ep,e,c⟩,r⟩:=x;exact ⟨mA,⟨od,es,ep,k _ _ (.inl rfl) e,c⟩,r⟩
 | rng lo hi=>obtain ⟨t,u,v,e⟩:=x;exact ⟨t,u,v,k _ _ (.inl rfl) e⟩
 | frz ob u ih=>obtain ⟨e,q⟩:=x;exact ⟨k _ _ (.inl rfl) e,ih q⟩
 | tbl ps=>
  have e:h.get? a=some {cls:=.none,data:=.fields ps}:=x
  show h'.get? a=some {cls:=.none,data:=.fields ps}
  exact k a _ (.inl rfl) e
 | met f y=>
  have e:h.get? a=some (PySem.W.methodObj (.ref f) (.ref y)):=x
  show h'.get? a=some (PySem.W.methodObj (.ref f) (.ref y))
  exact k a _ (.inl rfl) e
 | ext φ=>obtain ⟨p,⟨o,e⟩,st⟩:=x;exact ⟨st _ _ p fun o q=>k _ _ (.inl rfl) q,⟨o,k _ _ (.inl rfl) e⟩,st⟩
theorem HOk.lt (x:HOk P w H h) (e:H a=some o):a<h.objs.size:=(x a o e).lt
theorem HOk.fresh (x:HOk P w H h) (e:h.objs.size<=a):H a=none:=by
 cases q:H a with
 | none=>rfl
 | some u=>exact absurd (Nat.lt_of_lt_of_le (x.lt q) e) (Nat.lt_irrefl _)
theorem HOk.kept (x:HOk P w H h) (k:∀ b u,h.get? b=some u->h'.get? b=some u):HOk P w H h':=fun a o e=>
 (x a o e).stay (fun b u _ q=>k b u q) (fun _ q=>q) fun _ _ q=>q
theorem HOk.laid (x:HOk P w H h) (k:∀ b u,h.get? b=some u->h'.get? b=some u) (hp:h.objs.size<=a) (new:ObjOk P w (upd H a o) h' a o):HOk P w (upd H a o) h':=fun b u e=>by
 have hn:=x.fresh hp
 by_cases hb:b=a
 ·subst hb;rw[A6] at e;cases e;exact new
 ·rw[AY hb] at e
  exact (x b u e).stay (fun c v _ q=>k c v q) (fun c q=>by rw[AY (Bu q hn)];exact q) fun c xs q=>by rw[AY (Bu q hn)];exact q
end
def Rd (H:Hp) (a:Addr) (u:HO):Prop:=H a=some u\/∃ o,H a=some (.frz o u)
theorem Rd.ok {P:Program} {w:World} {H:Hp} {h:Heap} {a:Addr} {u:HO} (r:Rd H a u) (x:HOk P w H h):ObjOk P w H h a u:=by
 rcases r with r | ⟨o,r⟩
 ·exact x a u r
 ·obtain ⟨_,q⟩:=x a _ r
  exact q
def Mut:Option HO->Prop
 | some (.lst _)=>True
 | some (.dK _)=>True
 | some (.dT _)=>True
 | some (.set _ _)=>True
 | some (.ins _ _ _)=>True
 | some (.ext _)=>True
 | _=>False
section
variable {P:Program} {w:World} {H:Hp} {h h':Heap} {x e:Addr} {o':HO}
theorem HOk.write (ok:HOk P w H h) (mu:Mut (H x)) (he:e=x\/H e=some (.own x)) (k:∀ b u,b≠e->h.get? b=some u->h'.get? b=some u) (heo:∃ u,h'.get? e=some u)
  (new:ObjOk P w (upd H x o') h' x o'):HOk P w (upd H x o') h':=fun b u q=>by
 have nown:∀ c y,H c=some (.own y)->c≠x:=fun c y r z=>by subst z;rw[r] at mu;exact mu
 have ntup:∀ c xs,H c=some (.tup xs)->c≠x:=fun c xs r z=>by subst z;rw[r] at mu;exact mu
 by_cases hb:b=x
 ·subst hb;rw[A6] at q;cases q;exact new
 ·rw[AY hb] at q
  by_cases hbe:b=e
  ·have q':H b=some (.own x):=by
    rcases he with z | z
    ·exact absurd (hbe.trans z) hb
    ·rw[hbe];exact z
   rw[q] at q';cases q'
   obtain ⟨v,hv⟩:=heo
   exact ⟨v,by rw[hbe];exact hv⟩
  ·refine (ok b u q).stay (fun c v hc r=>k c v ?_ r) (fun c r=>by rw[AY (nown c b r)];exact r) fun c xs r=>by rw[AY (ntup c xs r)];exact r
   rcases hc with rfl | hc
   ·exact hbe
   ·rintro rfl
    rcases he with z | z
    ·exact nown c b hc z
    ·rw[hc] at z;cases z;exact hb rfl
end
structure Un (fs ex:List Addr) (H H':Hp) (h h':Heap):Prop where
 keep:∀ b o,h.get? b=some o->H b=none->b∉fs->b∉ex->h'.get? b=some o
 slot:∀ b o,h.get? b=some o->H b=none->b∈fs->b∉ex->∃ sl,h'.get? b=some {o with slots:=sl}
 free:∀ b o,h.get? b=some o->H b=none->b∉ex->H' b=none
 there:∀ b o,h.get? b=some o->b∉ex->∃ o',h'.get? b=some o'
 tups:∀ b xs,H b=some (.tup xs)->H' b=some (.tup xs)
 frzs:∀ b o u,H b=some (.frz o u)->H' b=some (.frz o u)
 tbls:∀ b ps,H b=some (.tbl ps)->∃ more,H' b=some (.tbl (ps++more))
section
variable {fs fs' ex ex':List Addr} {H H1 H2:Hp} {h h1 h2 h':Heap} {a x e:Addr} {o:HO}
theorem Un.any (u:Un fs ex H H1 h h1) {b:Addr} {ob:Obj} (q:h.get? b=some ob) (n:H b=none) (hx:b∉ex):∃ sl,h1.get? b=some {ob with slots:=sl}:=by
 by_cases hb:b∈fs
 ·exact u.slot b ob q n hb hx
 ·exact ⟨ob.slots,u.keep b ob q n hb hx⟩
theorem Un.kept (k:∀ b u,h.get? b=some u->h'.get? b=some u):Un fs ex H H h h':=
 ⟨fun b ob q _ _ _=>k b ob q,fun b ob q _ _ _=>⟨ob.slots,k b ob q⟩,fun _ _ _ n _=>n,fun b ob q _=>⟨ob,k b ob q⟩,fun _ _ q=>q,fun _ _ _ q=>q,fun _ ps q=>⟨#[],by rw[q];simp⟩⟩
theorem Un.refl:Un fs ex H H h h:=Un.kept fun _ _ q=>q
theorem Un.laid (k:∀ b u,h.get? b=some u->h'.get? b=some u) (hp:h.objs.size<=a) (hn:H a=none):Un fs ex H (upd H a o) h h' where
 keep:=fun b u q _ _ _=>k b u q
 slot:=fun b u q _ _ _=>⟨u.slots,k b u q⟩
 free:=fun b u q n _=>by rw[AY (Nat.ne_of_lt (Nat.lt_of_lt_of_le (Heap.lt_size q) hp))];exact n
 there:=fun b u q _=>⟨u,k b u q⟩
 tups:=fun b xs q=>by rw[AY (Bu q hn)];exact q
 frzs:=fun b u xs q=>by rw[AY (Bu q hn)];exact q
 tbls:=fun b ps q=>⟨#[],by rw[AY (Bu q hn),q];simp⟩
theorem Un.write (mu:Mut (H x)) (he:e=x\/H e=some (.own x)) (k:∀ b u,b≠e->h.get? b=some u->h'.get? b=some u) (heo:∃ u,h'.get? e=some u):Un fs ex H (upd H x o) h h':=by
 have hx:∀ b,H b=none->b≠x:=fun b n z=>by subst z;rw[n] at mu;exact mu
 have hb:∀ b,H b=none->b≠e:=fun b n z=>by
  subst z
  rcases he with r | r
  ·exact hx b n r
  ·rw[n] at r;cases r
 have hm:∀ b u,H b=some u->¬Mut (some u)->b≠x:=fun b u q nm z=>by subst z;rw[q] at mu;exact nm mu
 refine ⟨fun b u q n _ _=>k b u (hb b n) q,fun b u q n _ _=>⟨u.slots,k b u (hb b n) q⟩,fun b u q n _=>by rw[AY (hx b n)];exact n,fun b u q _=>?_,
  fun b xs q=>by rw[AY (hm b _ q fun z=>z)];exact q,fun b u xs q=>by rw[AY (hm b _ q fun z=>z)];exact q,fun b ps q=>⟨#[],by rw[AY (hm b _ q fun z=>z),q];simp⟩⟩
 by_cases hbe:b=e
 ·subst hbe;exact heo
 ·exact ⟨u,k b u hbe q⟩
end
def trk (h:Heap) (H:Hp):List Addr:=(List.range h.objs.size).filter fun a=>(H a).isSome
def DX (h:Heap) (H:Hp):Heap:=PySem.W.hideAll h (trk h H)
theorem Uo (h:Heap) (H:Hp):(DX h H).objs.size=h.objs.size:=PySem.W.hideAll_size _ _
theorem UK {h:Heap} {H:Hp} {b:Addr} {o:Obj} (e:h.get? b=some o) (n:H b=none):(DX h H).get? b=some o:=
 PySem.W.hideAll_get _ e fun hm=>by
  have q:(H b).isSome=true:=(List.mem_filter.mp hm).2
  rw[n] at q;simp at q
theorem RV {h:Heap} {H:Hp} {b:Addr} {o:Obj} (e:(DX h H).get? b=some o):h.get? b=some o/\H b=none:=by
 have e':h.get? b=some o:=PySem.W.of_hideAll (trk h H) e
 refine ⟨e',?_⟩
 cases q:H b with
 | none=>rfl
 | some x=>
  have hm:b∈trk h H:=List.mem_filter.mpr ⟨List.mem_range.mpr (Heap.lt_size e'),by simp[q]⟩
  have z:(DX h H).get? b=none:=PySem.W.hideAll_none (trk h H) hm
  rw[z] at e;cases e
def Om (g h:Heap) (L:Addr):List (Addr×Obj):=(List.range h.objs.size).filterMap fun a=>if a=L\/(g.get? a).isSome=true then none else (h.get? a).map fun o=>(a,o)
def rest (g h:Heap) (L d:Addr):List (Addr×Obj):=(Om g h L).filter fun p=>decide (p.1≠d)
structure Mod (K:PySem.W.Frag) (mg:Str->Option Value) (base:Heap):Prop where
 kin:K.In base
 glob:base.Ns mainGlobals mg
 blt:∃ mb,base.Ns builtinsNs mb/\∀ x:Str,x≠"__name__"->mb x=bootBuiltins x
 nolimit:base.NoLimit
structure Cx where
 prog:Program
 w:World
 K:PySem.W.Frag
 mg:Str->Option Value
 base:Heap
 A:Around
 N:List Str
 s₀:Shared
 H₀:Hp
 env:Env
 outer:List Env
 stack:List Env
 ex:List Addr
 fn:Str->Bool
 calm:Bool
 pn:List (Addr×Obj)
 xe:Value->Shared->Prop
def frs (l:List Env):List Addr:=l.filterMap (·.frame)
abbrev Cx.fs (X:Cx):List Addr:=frs X.outer
def Vis (sc:Scope) (x:Str):Prop:=sc.names.lookup x=some .local\/sc.names.lookup x=some .cell\/sc.names.lookup x=some .free
def Loc (sc:Scope) (x:Str):Prop:=sc.names.lookup x=some .local\/sc.names.lookup x=some .cell
def Look (env:Env) (h:Heap) (m:Str->Option Value) (x:Str) (u:Value):Prop:=
 (env.kindOf x=some .local/\m x=some u)\/((env.kindOf x=some .cell\/env.kindOf x=some .free)/\∃ c,env.cells.lookup x=some c/\h.IsCell c (some u))
structure Cx.Ok (X:Cx):Prop where
 mod:Mod X.K X.mg X.base
 kind:X.env.scope.kind=.function
 glob:X.env.globals=mainGlobals
 blt:X.env.builtins=builtinsNs
 above:X.s₀.heap.objs.size<=X.env.locals
 inj:∀ x y c,X.env.cells.lookup x=some c->X.env.cells.lookup y=some c->x=y
 has:∀ x,(X.env.kindOf x=some .cell\/X.env.kindOf x=some .free)->∃ c,X.env.cells.lookup x=some c
 cab:∀ x c,X.fn x=true->X.env.cells.lookup x=some c->X.s₀.heap.objs.size<=c
 hd:X.calm=true->X.A.handled=none
 frames:X.A.frames=some X.stack
 stk:X.stack=X.outer\/(X.stack=X.env::X.outer/\X.env.frame=some X.env.locals)
 exf:∀ b∈X.ex,b≠X.env.locals/\∀ x c,X.env.cells.lookup x=some c->c≠b
 bs:∀ b o,X.base.get? b=some o->X.s₀.heap.get? b=some o/\X.H₀ b=none
 bsz:X.base.objs.size<=X.s₀.heap.objs.size
 noex:∀ b o,X.base.get? b=some o->b∉X.ex
 exfs:∀ b∈X.ex,b∉X.fs
 funs:X.s₀.heap.FunFrames X.base X.outer
 frf:∀ b∈X.fs,X.H₀ b=none
structure Inv (X:Cx) (pins:List (Addr×Obj)) (σ:List (Option V)) (H:Hp) (s:Shared):Prop where
 ok:X.Ok
 os:s.os=X.s₀.os
 bare:AllBare s.gens
 base:Un X.fs X.ex X.H₀ H X.s₀.heap s.heap
 loc:∃ m,s.heap.Ns X.env.locals m/\∀ (i:Nat) (x:Str) (v:V),X.N[i]?=some x->σ[i]?=some (some v)->Vis X.env.scope x->∃ u,RelV v u/\Look X.env s.heap m x u
 cell:∀ x c,X.env.cells.lookup x=some c->∃ v,s.heap.IsCell c v
 free:H X.env.locals=none
 freeC:∀ x c,X.env.cells.lookup x=some c->H c=none
 pin:∀ p∈X.pn++pins,s.heap.get? p.1=some p.2/\H p.1=none/\p.1≠X.env.locals/\p.1∉X.fs/\∀ v,p.2.data≠.cell v
 hok:HOk X.prog X.w H s.heap
 len:σ.length=X.N.length
section
variable {X:Cx} {pins:List (Addr×Obj)} {σ:List (Option V)} {H H':Hp} {s:Shared} {h':Heap}
theorem Cx.Ok.nofr (ok:X.Ok) {b:Addr} {o:Obj} (e:X.base.get? b=some o):b∉X.fs:=fun hb=>by
 have:=(ok.funs.mem hb).1
 rw[e] at this;cases this
theorem Inv.bs (I:Inv X pins σ H s):∀ b o,X.base.get? b=some o->s.heap.get? b=some o/\H b=none:=fun b o e=>
 ⟨I.base.keep b o (I.ok.bs b o e).1 (I.ok.bs b o e).2 (I.ok.nofr e) (I.ok.noex b o e),I.base.free b o (I.ok.bs b o e).1 (I.ok.bs b o e).2 (I.ok.noex b o e)⟩
theorem Inv.bk (I:Inv X pins σ H s):∀ b o,X.base.get? b=some o->s.heap.get? b=some o:=fun b o e=>(I.bs b o e).1
theorem Inv.mod (I:Inv X pins σ H s):Mod X.K X.mg X.base:=I.ok.mod
theorem Inv.kIn (I:Inv X pins σ H s):X.K.In s.heap:=I.ok.mod.kin.keeps I.bk
theorem Inv.fr (I:Inv X pins σ H s):∃ m,Fr X.base X.env.locals s.heap m:=
 let ⟨m,hn,_⟩:=I.loc
 ⟨m,hn,I.bk,Nat.le_trans I.ok.bsz I.ok.above⟩
theorem Inv.lt (I:Inv X pins σ H s):X.env.locals<s.heap.objs.size:=let ⟨_,hn,_⟩:=I.loc;hn.lt
theorem Inv.sz (I:Inv X pins σ H s):X.s₀.heap.objs.size<=s.heap.objs.size:=Nat.le_trans I.ok.above (Nat.le_of_lt I.lt)
theorem Inv.nofs (I:Inv X pins σ H s) {a:Addr} (h:s.heap.objs.size<=a):a∉X.fs:=fun hb=>by
 obtain ⟨_,o,ho,_⟩:=I.ok.funs.mem hb
 exact absurd (Nat.lt_of_lt_of_le (Heap.lt_size ho) (Nat.le_trans I.sz h)) (Nat.lt_irrefl _)
theorem Inv.cne (I:Inv X pins σ H s):∀ x c,X.env.cells.lookup x=some c->c≠X.env.locals:=fun x c e z=>by
 obtain ⟨v,o,ho,hd⟩:=I.cell x c e
 obtain ⟨m,⟨o',es,ep,ho',hd',_⟩,_⟩:=I.loc
 rw[z,ho'] at ho;cases ho;rw[hd'] at hd;cases hd
theorem Inv.funs (I:Inv X pins σ H s):s.heap.FunFrames X.base X.outer:=by
 have all:∀ (l:List Env),(∀ b∈frs l,b∈X.fs)->X.s₀.heap.FunFrames X.base l->s.heap.FunFrames X.base l:=by
  intro l
  induction l with
  | nil=>intro _ _;trivial
  | cons env r ih=>
   intro hs hl
   obtain ⟨hk,⟨L,o,hf,hn,ho,hd⟩,hr⟩:=hl
   have hL:L∈X.fs:=hs L (by unfold frs;rw[List.filterMap_cons,hf];exact List.mem_cons_self)
   obtain ⟨sl,e⟩:=I.base.slot L o ho (I.ok.frf L hL) hL fun z=>I.ok.exfs L z hL
   exact ⟨hk,⟨L,_,hf,hn,e,hd⟩,ih (fun b hb=>hs b (by unfold frs;rw[List.filterMap_cons,hf];exact List.mem_cons_of_mem _ hb)) hr⟩
 exact all X.outer (fun _ hb=>hb) I.ok.funs
theorem Inv.stack (I:Inv X pins σ H s):s.heap.FunFrames X.base X.stack:=by
 rcases I.ok.stk with e | ⟨e,hf⟩
 ·rw[e];exact I.funs
 ·rw[e]
  obtain ⟨m,hn,_⟩:=I.loc
  refine .cons (by rw[I.ok.kind];decide) hf hn ?_ I.funs
  exact Heap.get?_none_of_le (Nat.le_trans I.ok.bsz I.ok.above)
theorem Inv.stkSub (I:Inv X pins σ H s):∀ b∈frs X.stack,b∈X.env.locals::X.fs:=fun b hb=>by
 rcases I.ok.stk with e | ⟨e,hf⟩
 ·rw[e] at hb;exact List.mem_cons_of_mem _ hb
 ·rw[e] at hb
  unfold frs at hb
  rw[List.filterMap_cons,hf] at hb
  exact hb
theorem Inv.stkFree (I:Inv X pins σ H s):∀ b∈frs X.stack,H b=none:=fun b hb=>by
 rcases List.mem_cons.mp (I.stkSub b hb) with e | hb
 ·rw[e];exact I.free
 ·obtain ⟨_,o,ho,_⟩:=I.ok.funs.mem hb
  exact I.base.free b o ho (I.ok.frf b hb) fun z=>I.ok.exfs b z hb
theorem Inv.step {g':Array GenState} {t':Nat} {d':Drawn} {ch:List Addr} (I:Inv X pins σ H s)
  (hch:∀ b∈ch,(b∈X.ex\/X.s₀.heap.objs.size<=b)/\b≠X.env.locals/\(∀ x c,X.env.cells.lookup x=some c->c≠b)/\∀ p∈X.pn++pins,p.1≠b)
  (keep:∀ b o,b≠X.env.locals->b∉X.fs->b∉ch->s.heap.get? b=some o->H b=none->h'.get? b=some o)
  (slot:∀ b o,b≠X.env.locals->b∈X.fs->b∉ch->s.heap.get? b=some o->H b=none->∃ sl,h'.get? b=some {o with slots:=sl}) (free:∀ b o,b∉ch->s.heap.get? b=some o->H b=none->H' b=none)
  (there:∀ b o,b∉ch->s.heap.get? b=some o->∃ o',h'.get? b=some o')
  (tups:∀ b xs,H b=some (.tup xs)->H' b=some (.tup xs)) (frzs:∀ b o u,H b=some (.frz o u)->H' b=some (.frz o u)) (tbls:∀ b ps,H b=some (.tbl ps)->∃ more,H' b=some (.tbl (ps++more)))
  (ns:∀ m,s.heap.Ns X.env.locals m->h'.Ns X.env.locals m) (hok:HOk X.prog X.w H' h') (hg:AllBare g') :
  Inv X pins σ H' {s with heap:=h',gens:=g',drawn:=d',toks:=t'}:=by
 have neL:∀ b o,X.s₀.heap.get? b=some o->b≠X.env.locals:=fun b o e=>Nat.ne_of_lt (Nat.lt_of_lt_of_le (Heap.lt_size e) I.ok.above)
 have neC:∀ b o,X.s₀.heap.get? b=some o->b∉X.ex->b∉ch:=fun b o e hx hb=>by
  rcases (hch b hb).1 with z | z
  ·exact hx z
  ·exact absurd (Nat.lt_of_lt_of_le (Heap.lt_size e) z) (Nat.lt_irrefl _)
 have cellK:∀ x c,X.env.cells.lookup x=some c->∀ v,s.heap.IsCell c v->h'.IsCell c v:=fun x c e v hh_=>by
  obtain ⟨o,ho,hd⟩:=hh_
  have nch:c∉ch:=fun z=>(hch c z).2.2.1 x c e rfl
  by_cases hc:c∈X.fs
  ·obtain ⟨sl,q⟩:=slot c o (I.cne x c e) hc nch ho (I.freeC x c e)
   exact ⟨_,q,hd⟩
  ·exact ⟨o,keep c o (I.cne x c e) hc nch ho (I.freeC x c e),hd⟩
 refine ⟨I.ok,I.os,hg,⟨fun b o e n hb hx=>?_,fun b o e n hb hx=>?_,fun b o e n hx=>?_,fun b o e hx=>?_,fun b xs e=>tups b xs (I.base.tups b xs e),fun b o xs e=>frzs b o xs (I.base.frzs b o xs e),fun b ps e=>?_⟩,?_,fun x c e=>?_,?_,fun x c e=>?_,fun p hp=>?_,hok,I.len⟩
 ·exact keep b o (neL b o e) hb (neC b o e hx) (I.base.keep b o e n hb hx) (I.base.free b o e n hx)
 ·obtain ⟨sl,e1⟩:=I.base.slot b o e n hb hx
  obtain ⟨sl',e2⟩:=slot b _ (neL b o e) hb (neC b o e hx) e1 (I.base.free b o e n hx)
  exact ⟨sl',e2⟩
 ·obtain ⟨o',e1⟩:=I.base.there b o e hx
  exact free b o' (neC b o e hx) e1 (I.base.free b o e n hx)
 ·obtain ⟨o',e1⟩:=I.base.there b o e hx
  exact there b o' (neC b o e hx) e1
 ·obtain ⟨m1,e1⟩:=I.base.tbls b ps e
  obtain ⟨m2,e2⟩:=tbls b _ e1
  exact ⟨m1++m2,by rw[e2,Array.append_assoc]⟩
 ·obtain ⟨m,hn,hl⟩:=I.loc
  refine ⟨m,ns m hn,fun i x v e1 e2 e3=>?_⟩
  obtain ⟨u,r,l⟩:=hl i x v e1 e2 e3
  refine ⟨u,r,?_⟩
  rcases l with l | ⟨k,c,e,z⟩
  ·exact .inl l
  ·exact .inr ⟨k,c,e,cellK x c e _ z⟩
 ·obtain ⟨v,z⟩:=I.cell x c e
  exact ⟨v,cellK x c e v z⟩
 ·obtain ⟨m,⟨o,_,_,ho,_⟩,_⟩:=I.loc
  exact free _ o (fun z=>(hch _ z).2.1 rfl) ho I.free
 ·obtain ⟨v,o,ho,hd⟩:=I.cell x c e
  exact free c o (fun z=>(hch c z).2.2.1 x c e rfl) ho (I.freeC x c e)
 ·obtain ⟨e,n,ne,nf,d⟩:=I.pin p hp
  have nch:p.1∉ch:=fun z=>(hch p.1 z).2.2.2 p hp rfl
  exact ⟨keep p.1 p.2 ne nf nch e n,free p.1 p.2 nch e n,ne,nf,d⟩
theorem Inv.un {t':Nat} (I:Inv X pins σ H s) (u:Un X.fs [] H H' s.heap h') (hok:HOk X.prog X.w H' h'):Inv X pins σ H' {s with heap:=h',toks:=t'}:=by
 obtain ⟨m,⟨o,es,ep,ho,r⟩,_⟩:=id I.loc
 obtain ⟨sl,hL⟩:=u.any ho I.free (by simp)
 exact I.step (g':=s.gens) (d':=s.drawn) (ch:=[]) (fun _ z=>nomatch z) (fun b o _ hb _ e n=>u.keep b o e n hb (by simp)) (fun b o _ hb _ e n=>u.slot b o e n hb (by simp)) (fun b o _ e n=>u.free b o e n (by simp)) (fun b o _ e=>u.there b o e (by simp)) u.tups u.frzs u.tbls (fun m' hm=>by
  obtain ⟨o',es',ep',ho',r'⟩:=hm
  rw[ho] at ho';cases ho'
  exact ⟨_,es',ep',hL,r'⟩) hok I.bare
theorem Inv.call {g':Array GenState} {t':Nat} {d':Drawn} {ch:List Addr} (I:Inv X pins σ H s) (u:Un (frs X.stack) ch H H' s.heap h') (hok:HOk X.prog X.w H' h') (hg:AllBare g')
  (hch:∀ b∈ch,(b∈X.ex\/X.s₀.heap.objs.size<=b)/\b≠X.env.locals/\(∀ x c,X.env.cells.lookup x=some c->c≠b)/\∀ p∈X.pn++pins,p.1≠b) :
  Inv X pins σ H' {s with heap:=h',gens:=g',drawn:=d',toks:=t'}:=by
 obtain ⟨m,⟨o,es,ep,ho,r⟩,_⟩:=id I.loc
 obtain ⟨sl,hL⟩:=u.any ho I.free fun z=>(hch _ z).2.1 rfl
 exact I.step (ch:=ch) hch (fun b o hL hb hc e n=>u.keep b o e n (fun z=>(List.mem_cons.mp (I.stkSub b z)).elim hL hb) hc) (fun b o _ _ hc e n=>u.any e n hc) (fun b o hc e n=>u.free b o e n hc) (fun b o hc e=>u.there b o e hc) u.tups u.frzs u.tbls (fun m' hm=>by
  obtain ⟨o',es',ep',ho',r'⟩:=hm
  rw[ho] at ho';cases ho'
  exact ⟨_,es',ep',hL,r'⟩) hok hg
theorem Inv.turned {t':Nat} {it:Addr} (I:Inv X pins σ H s) (k:∀ b o,b≠it->s.heap.get? b=some o->h'.get? b=some o) (hn:H it=none) (hL:it≠X.env.locals)
  (h1:it∈X.ex\/X.s₀.heap.objs.size<=it) (h2:∀ x c,X.env.cells.lookup x=some c->c≠it) (h3:∀ p∈X.pn++pins,p.1≠it):Inv X pins σ H {s with heap:=h',toks:=t'}:=by
 have nit:∀ b u,H b=some u->b≠it:=fun b u e z=>by rw[z,hn] at e;cases e
 refine I.step (g':=s.gens) (d':=s.drawn) (ch:=[it]) (fun b hb=>?_) (fun b o _ _ hc e _=>k b o (fun z=>hc (by simp[z])) e) (fun b o _ _ hc e _=>⟨o.slots,k b o (fun z=>hc (by simp[z])) e⟩) (fun _ _ _ _ n=>n)
  (fun b o hc e=>⟨o,k b o (fun z=>hc (by simp[z])) e⟩) (fun _ _ e=>e) (fun _ _ _ e=>e) (fun b ps e=>⟨#[],by rw[e];simp⟩) (fun m hm=>?_) (fun b u e=>?_) I.bare
 ·have e:b=it:=by simpa using hb
  subst e
  exact ⟨h1,hL,h2,h3⟩
 ·obtain ⟨o,es,ep,ho,r⟩:=hm
  exact ⟨o,es,ep,k _ o (Ne.symm hL) ho,r⟩
 ·refine (I.hok b u e).stay (fun c v hc q=>k c v ?_ q) (fun _ q=>q) fun _ _ q=>q
  rcases hc with z | z
  ·rw[z];exact nit b u e
  ·exact nit c _ z
theorem Inv.tok (I:Inv X pins σ H s) (t:Nat):Inv X pins σ H {s with toks:=t}:=I.un (h':=s.heap) (t':=t) Un.refl I.hok
theorem Inv.kept {t':Nat} (I:Inv X pins σ H s) (k:∀ b u,s.heap.get? b=some u->h'.get? b=some u):Inv X pins σ H {s with heap:=h',toks:=t'}:=I.un (Un.kept k) (I.hok.kept k)
theorem Inv.laid {a:Addr} {o:HO} {t':Nat} (I:Inv X pins σ H s) (k:∀ b u,s.heap.get? b=some u->h'.get? b=some u) (hp:s.heap.objs.size<=a) (new:ObjOk X.prog X.w (upd H a o) h' a o) :
  Inv X pins σ (upd H a o) {s with heap:=h',toks:=t'}:=I.un (Un.laid k hp (I.hok.fresh hp)) (I.hok.laid k hp new)
theorem Inv.write {x e:Addr} {o:HO} {t':Nat} (I:Inv X pins σ H s) (mu:Mut (H x)) (he:e=x\/H e=some (.own x)) (k:∀ b u,b≠e->s.heap.get? b=some u->h'.get? b=some u) (heo:∃ u,h'.get? e=some u)
  (new:ObjOk X.prog X.w (upd H x o) h' x o):Inv X pins σ (upd H x o) {s with heap:=h',toks:=t'}:=I.un (Un.write mu he k heo) (I.hok.write mu he k heo new)
theorem Inv.pins_of {pins':List (Addr×Obj)} (I:Inv X pins σ H s) (h:∀ p∈pins',s.heap.get? p.1=some p.2/\H p.1=none/\p.1≠X.env.locals/\p.1∉X.fs/\∀ v,p.2.data≠.cell v):Inv X pins' σ H s:=
 ⟨I.ok,I.os,I.bare,I.base,I.loc,I.cell,I.free,I.freeC,fun p hp=>(List.mem_append.mp hp).elim (fun z=>I.pin p (List.mem_append_left _ z)) (h p),I.hok,I.len⟩
theorem IU {N:List Str} (hN:N.Nodup) {i j:Nat} {x:Str} (a:N[i]?=some x) (b:N[j]?=some x):i=j:=by
 obtain ⟨h1,e1⟩:=List.getElem?_eq_some_iff.mp a
 obtain ⟨h2,e2⟩:=List.getElem?_eq_some_iff.mp b
 exact (List.getElem_inj hN).mp (e1.trans e2.symm)
theorem Kr {M:Model} {A:Around} {E:Value->Shared->Prop} {i:Nat} {x:Str} {v:V} {u:Value} {Q:Unit->Shared->Prop} (I:Inv X pins σ H s) (hN:X.N.Nodup) (hi:X.N[i]?=some x) (hx:Loc X.env.scope x) (r:RelV v u)
  (h:∀ s',Inv X pins (σ.set i (some v)) H s'->(∃ a,Heap.SameBut a s.heap s'.heap/\(a=X.env.locals\/X.env.cells.lookup x=some a))->Q () s') (hf:X.fn x=true\/X.env.scope.names.lookup x=some .local:=by first | exact .inl rfl | exact .inr rfl | assumption):wpAny M A (storeName X.env x u) Q E s:=by
 obtain ⟨m,hn,hl⟩:=id I.loc
 have hcls:(X.env.scope.kind == .class || (X.env.scope.kind == .module && X.env.locals != X.env.globals))=false:=by rw[I.ok.kind];rfl
 have hiσ:i<σ.length:=by rw[I.len];exact (List.getElem?_eq_some_iff.mp hi).1
 have cne:=I.cne
 have tracked:∀ {a:Addr} {h':Heap},(∃ o,s.heap.get? a=some o/\H a=none)->Heap.SameBut a s.heap h'->HOk X.prog X.w H h':=fun {a h'} ha hs b ob e=>by
  obtain ⟨_,_,hfree⟩:=ha
  refine (I.hok b ob e).stay (fun c w' hc q=>(hs.2 c ?_).trans q) (fun _ q=>q) fun _ _ q=>q
  rintro rfl
  rcases hc with rfl | hc
  ·rw[hfree] at e;cases e
  ·rw[hfree] at hc;cases hc
 rcases hx with hk | hk
 ·refine wpAny_storeName_local hk hn (fun h' hn' hs=>?_) hcls
  obtain ⟨oL,_,_,hoL,_⟩:=id hn
  refine h _ ⟨I.ok,I.os,I.bare,⟨fun b o e n hb hx=>?_,fun b o e n hb hx=>?_,I.base.free,fun b o e hx=>?_,I.base.tups,I.base.frzs,I.base.tbls⟩,⟨_,hn',fun j y v' e1 e2 e3=>?_⟩,fun y c e=>?_,I.free,I.freeC,fun p hp=>?_,tracked ⟨oL,hoL,I.free⟩ hs,by simpa using I.len⟩ ⟨_,hs,.inl rfl⟩
  ·exact (hs.2 b (Nat.ne_of_lt (Nat.lt_of_lt_of_le (Heap.lt_size e) I.ok.above))).trans (I.base.keep b o e n hb hx)
  ·obtain ⟨sl,e1⟩:=I.base.slot b o e n hb hx
   exact ⟨sl,(hs.2 b (Nat.ne_of_lt (Nat.lt_of_lt_of_le (Heap.lt_size e) I.ok.above))).trans e1⟩
  ·obtain ⟨o',e1⟩:=I.base.there b o e hx
   exact ⟨o',(hs.2 b (Nat.ne_of_lt (Nat.lt_of_lt_of_le (Heap.lt_size e) I.ok.above))).trans e1⟩
  ·by_cases hj:j=i
   ·subst hj
    rw[hi] at e1;cases e1
    rw[List.getElem?_set_self hiσ] at e2
    cases e2
    exact ⟨u,r,.inl ⟨hk,by simp⟩⟩
   ·rw[List.getElem?_set_ne (Ne.symm hj)] at e2
    obtain ⟨u',r',q⟩:=hl j y v' e1 e2 e3
    refine ⟨u',r',?_⟩
    rcases q with ⟨k,e⟩ | ⟨k,c,e,z⟩
    ·refine .inl ⟨k,?_⟩
     have:y≠x:=fun e=>hj (IU hN e1 (e▸hi))
     simp[this,e]
    ·exact .inr ⟨k,c,e,z.sameBut hs (cne y c e)⟩
  ·obtain ⟨w',z⟩:=I.cell y c e
   exact ⟨w',z.sameBut hs (cne y c e)⟩
  ·obtain ⟨e,n,ne,nf,d⟩:=I.pin p hp
   exact ⟨(hs.2 p.1 ne).trans e,n,ne,nf,d⟩
 ·have hfn:X.fn x=true:=by
   rcases hf with z | z
   ·exact z
   ·rw[z] at hk;cases hk
  obtain ⟨c,hc⟩:=I.ok.has x (.inl hk)
  obtain ⟨w',z⟩:=I.cell x c hc
  refine wpAny_storeName_cell I.ok.kind hk hc z (fun h' hc' hs=>?_)
  obtain ⟨oc,hoc,hocd⟩:=id z
  refine h {s with heap:=h'} ⟨I.ok,I.os,I.bare,⟨fun b o e n hb hx=>?_,fun b o e n hb hx=>?_,I.base.free,fun b o e hx=>?_,I.base.tups,I.base.frzs,I.base.tbls⟩,⟨m,hn.sameBut hs (Ne.symm (cne x c hc)),fun j y v' e1 e2 e3=>?_⟩,fun y c' e=>?_,I.free,I.freeC,fun p hp=>?_,tracked ⟨oc,hoc,I.freeC x c hc⟩ hs,by simpa using I.len⟩ ⟨c,hs,.inr hc⟩
  ·exact (hs.2 b (Nat.ne_of_lt (Nat.lt_of_lt_of_le (Heap.lt_size e) (I.ok.cab x c hfn hc)))).trans (I.base.keep b o e n hb hx)
  ·obtain ⟨sl,e1⟩:=I.base.slot b o e n hb hx
   exact ⟨sl,(hs.2 b (Nat.ne_of_lt (Nat.lt_of_lt_of_le (Heap.lt_size e) (I.ok.cab x c hfn hc)))).trans e1⟩
  ·obtain ⟨o',e1⟩:=I.base.there b o e hx
   exact ⟨o',(hs.2 b (Nat.ne_of_lt (Nat.lt_of_lt_of_le (Heap.lt_size e) (I.ok.cab x c hfn hc)))).trans e1⟩
  ·by_cases hj:j=i
   ·subst hj
    rw[hi] at e1;cases e1
    rw[List.getElem?_set_self hiσ] at e2
    cases e2
    exact ⟨u,r,.inr ⟨.inl hk,c,hc,hc'⟩⟩
   ·rw[List.getElem?_set_ne (Ne.symm hj)] at e2
    obtain ⟨u',r',q⟩:=hl j y v' e1 e2 e3
    refine ⟨u',r',?_⟩
    rcases q with q | ⟨k,c',e,z'⟩
    ·exact .inl q
    ·refine .inr ⟨k,c',e,z'.sameBut hs ?_⟩
     rintro rfl
     exact hj (IU hN e1 (I.ok.inj _ _ _ e hc▸hi))
  ·by_cases hcc:c'=c
   ·subst hcc;exact ⟨_,hc'⟩
   ·obtain ⟨w2,z2⟩:=I.cell y c' e
    exact ⟨w2,z2.sameBut hs hcc⟩
  ·obtain ⟨e,n,ne,nf,d⟩:=I.pin p hp
   refine ⟨(hs.2 p.1 ?_).trans e,n,ne,nf,d⟩
   intro q
   rw[q,hoc] at e
   have q':oc=p.2:=Option.some.inj e
   exact d w' (by rw[<-q'];exact hocd)
theorem Fv {M:Model} {A:Around} {E:Value->Shared->Prop} {i:Nat} {x:Str} {v:V} {u:Value} {Q:Unit->Shared->Prop} (I:Inv X pins σ H s) (hN:X.N.Nodup) (hi:X.N[i]?=some x) (hx:Loc X.env.scope x) (r:RelV v u)
  (h:∀ s',Inv X pins (σ.set i (some v)) H s'->Q () s') (hf:X.fn x=true\/X.env.scope.names.lookup x=some .local:=by first | exact .inl rfl | exact .inr rfl | assumption):wpAny M A (storeName X.env x u) Q E s:=
 Kr I hN hi hx r (fun s' I' _=>h s' I') hf
theorem Inv.call' {s':Shared} {ch:List Addr} (I:Inv X pins σ H s) (ho:s'.os=s.os) (u:Un (frs X.stack) ch H H' s.heap s'.heap) (hok:HOk X.prog X.w H' s'.heap) (hg:AllBare s'.gens)
  (hch:∀ b∈ch,(b∈X.ex\/X.s₀.heap.objs.size<=b)/\b≠X.env.locals/\(∀ x c,X.env.cells.lookup x=some c->c≠b)/\∀ p∈X.pn++pins,p.1≠b):Inv X pins σ H' s':=by
 obtain ⟨h',g',d',t',o'⟩:=s'
 have e:o'=s.os:=ho
 subst e
 exact I.call (g':=g') (t':=t') (d':=d') u hok hg hch
end
abbrev XK:=Value->Option Addr->Hp->Prop
abbrev St:=List (Option V)
abbrev VK:=V->Hp->Prop
abbrev TE:=St->Hp->VK->Prop
abbrev TT:=St->Hp->(Bool->Hp->Prop)->Prop
abbrev TA:=St->Hp->(List V->Hp->Prop)->Prop
structure Ends where
 nx:St->Hp->Prop
 rt:VK
 bk:St->Hp->Prop:=fun _ _=>False
 ct:St->Hp->Prop:=fun _ _=>False
abbrev TS:=Ends->St->Hp->Prop
def EP (X:Cx) (pins:List (Addr×Obj)) (σ:St) (Q:VK) (u:Value) (s':Shared):Prop:=∃ v H',Inv X pins σ H' s'/\RelV v u/\Q v H'
def TP (X:Cx) (pins:List (Addr×Obj)) (σ:St) (Q:Bool->Hp->Prop) (b:Bool) (s':Shared):Prop:=∃ H',Inv X pins σ H' s'/\Q b H'
def AP (X:Cx) (pins:List (Addr×Obj)) (σ:St) (Q:List V->Hp->Prop) (us:List Value) (s':Shared):Prop:=∃ vs H',Inv X pins σ H' s'/\Vals vs us/\Q vs H'
def SP (X:Cx) (pins:List (Addr×Obj)) (D:Ends) (f:Flow) (s':Shared):Prop:=
 match f with
 | .next=>∃ σ' H',Inv X pins σ' H' s'/\D.nx σ' H'
 | .brk=>∃ σ' H',Inv X pins σ' H' s'/\D.bk σ' H'
 | .cont=>∃ σ' H',Inv X pins σ' H' s'/\D.ct σ' H'
 | .ret u=>∃ v σ' H',Inv X pins σ' H' s'/\RelV v u/\D.rt v H'
def PE (X:Cx) (e:Expr) (t:TE):Prop:=
 ∀ (pins:List (Addr×Obj)) (s:Shared) (σ:St) (H:Hp) (Q:VK),Inv X pins σ H s->t σ H Q->wpAny (model X.prog X.w) X.A (eval e X.env) (EP X pins σ Q) X.xe s
def PT (X:Cx) (e:Expr) (t:TT):Prop:=
 ∀ (pins:List (Addr×Obj)) (s:Shared) (σ:St) (H:Hp) (Q:Bool->Hp->Prop),Inv X pins σ H s->t σ H Q->wpAny (model X.prog X.w) X.A (isTrue e X.env (eval e X.env)) (TP X pins σ Q) X.xe s
def PW (X:Cx) (e:Expr) (t:TT):Prop:=
 ∀ (whole:Sem Value) (pins:List (Addr×Obj)) (s:Shared) (σ:St) (H:Hp) (Q:Bool->Hp->Prop),Inv X pins σ H s->t σ H Q->wpAny (model X.prog X.w) X.A (isTrue e X.env whole) (TP X pins σ Q) X.xe s
theorem PW.pt {X:Cx} {e:Expr} {t:TT} (h:PW X e t):PT X e t:=h _
def PA (X:Cx) (es:List Expr) (t:TA):Prop:=
 ∀ (pos:Pos) (pins:List (Addr×Obj)) (s:Shared) (σ:St) (H:Hp) (Q:List V->Hp->Prop),Inv X pins σ H s->t σ H Q->wpAny (model X.prog X.w) X.A (spliced (backTo pos (starEach es X.env))) (AP X pins σ Q) X.xe s
def PS (X:Cx) (st:Stmt) (t:TS):Prop:=
 ∀ (pins:List (Addr×Obj)) (s:Shared) (σ:St) (H:Hp) (D:Ends),Inv X pins σ H s->t D σ H->wpAny (model X.prog X.w) X.A (exec st X.env) (SP X pins D) X.xe s
def PSs (X:Cx) (st:List Stmt) (t:TS):Prop:=
 ∀ (pins:List (Addr×Obj)) (s:Shared) (σ:St) (H:Hp) (D:Ends),Inv X pins σ H s->t D σ H->wpAny (model X.prog X.w) X.A (execs st X.env) (SP X pins D) X.xe s
theorem thn {α:Type} {t:Sem α} {Q Q':α->Shared->Prop} {M:Model} {A:Around} {E:Value->Shared->Prop} {s:Shared} (h:wpAny M A t Q E s) (hQ:∀ a s,Q a s->Q' a s):wpAny M A t Q' E s:=wpAny_mono h hQ fun _ _ x=>x
section
variable {X:Cx}
def GZ (i:Nat):TE:=fun σ H Q=>∃ v,σ[i]?=some (some v)/\Q v H
def tC (v:V):TE:=fun _ H Q=>Q v H
theorem LY {i:Nat} {x:Str} {pos:Pos} (hN:X.N[i]?=some x) (hv:Vis X.env.scope x) (hd:(x == ("__debug__":Str))=false:=by decide) (hcd:(x == ("__classdict__":Str))=false:=by decide):PE X (.Name x pos) (GZ i):=by
 intro pins s σ H Q I h
 obtain ⟨v,e,h⟩:=h
 obtain ⟨m,hn,hl⟩:=I.loc
 obtain ⟨u,r,l⟩:=hl i x v hN e hv
 have fin:EP X pins σ Q u s:=⟨v,H,I,r,h⟩
 rcases l with ⟨hk,hm⟩ | ⟨hk,c,hc,hcell⟩
 ·exact wpAny_Name (wpAny_loadName_local I.ok.kind hk hn hm fin) hd
 ·rcases hk with hk | hk
  ·exact wpAny_Name (wpAny_loadName_cell I.ok.kind hk hc hcell fin) hd
  ·exact wpAny_Name (wpAny_loadName_free I.ok.kind hk hc hcell fin hcd) hd
theorem Jp {i j pos}:PE X (.Constant (.int i) j pos) (tC (.int i)):=fun _ _ _ H _ I h=>wpAny_Constant_int ⟨.int i,H,I.tok _,⟨_,rfl⟩,h⟩
theorem O0 {b j pos}:PE X (.Constant (.bool b) j pos) (tC (.bl b)):=fun _ _ _ H _ I h=>Constant_bool ⟨.bl b,H,I,rfl,h⟩
theorem Em {j pos}:PE X (.Constant .none j pos) (tC .non):=fun _ _ _ H _ I h=>Constant_none ⟨.non,H,I,rfl,h⟩
theorem Du {x j pos}:PE X (.Constant (.str x) j pos) (tC (.str x)):=fun _ _ _ H _ I h=>Calls.Constant_str ⟨.str x,H,I.tok _,⟨_,rfl⟩,h⟩
def Gl (X:Cx) (x:Str):Prop:=X.env.kindOf x=some .globalImplicit
theorem HL {E:Value->Shared->Prop} {pins:List (Addr×Obj)} {s:Shared} {σ:St} {H:Hp} {x:Str} {u:Value} {pos:Pos} {Q:Value->Shared->Prop} (I:Inv X pins σ H s) (hg:Gl X x) (hm:X.mg x=some u) (h:Q u s)
  (hd:(x == ("__debug__":Str))=false:=by decide):wpAny (model X.prog X.w) X.A (eval (.Name x pos) X.env) Q E s:=
 Calls.Name_function_global I.ok.kind hg (Calls.loadGlobal_global (by rw[I.ok.glob];exact I.mod.glob.keeps I.bk) hm h) hd
theorem HX {E:Value->Shared->Prop} {pins:List (Addr×Obj)} {s:Shared} {σ:St} {H:Hp} {x:Str} {u:Value} {pos:Pos} {Q:Value->Shared->Prop} (I:Inv X pins σ H s) (hg:Gl X x) (hm:X.mg x=none) (hv:bootBuiltins x=some u) (h:Q u s)
  (hn:x≠"__name__":=by decide) (hd:(x == ("__debug__":Str))=false:=by decide):wpAny (model X.prog X.w) X.A (eval (.Name x pos) X.env) Q E s:=by
 obtain ⟨mb,h1,h2⟩:=I.mod.blt
 exact Calls.Name_function_global I.ok.kind hg (Calls.loadGlobal_builtin (by rw[I.ok.glob];exact I.mod.glob.keeps I.bk) hm (by rw[I.ok.blt];exact h1.keeps I.bk) ((h2 x hn).trans hv) h) hd
theorem D0 {x:Str} {v:V} {u:Value} {pos:Pos} (hg:Gl X x) (hm:X.mg x=some u) (r:RelV v u) (hd:(x == ("__debug__":Str))=false:=by decide):PE X (.Name x pos) (tC v):=
 fun _ _ _ H _ I h=>HL I hg hm ⟨v,H,I,r,h⟩ hd
theorem Ek {x:Str} {v:V} {u:Value} {pos:Pos} (hg:Gl X x) (hm:X.mg x=none) (hv:bootBuiltins x=some u) (r:RelV v u) (hn:x≠"__name__":=by decide) (hd:(x == ("__debug__":Str))=false:=by decide):PE X (.Name x pos) (tC v):=
 fun _ _ _ H _ I h=>HX I hg hm hv ⟨v,H,I,r,h⟩ hn hd
variable {a b:Expr} {ta tb:TE} {pos:Pos}
def tB (t:TE):TT:=fun σ H Q=>t σ H fun x H1=>∃ c,x=.bl c/\Q c H1
theorem Nj {e:Expr} {t:TE} (h:PE X e t) (he:∀ whole,isTrue e X.env whole=(do let v <-whole;standAt e.pos;holding [v] (truthy v)):=by intro _;rfl):PT X e (tB t):=by
 intro pins s σ H Q I hw
 refine isTrue_plain (thn (h pins s σ H _ I hw) fun v s1 hh_=>?_) (he _)
 obtain ⟨x,H1,I1,r1,q1⟩:=hh_
 obtain ⟨d,rfl,q⟩:=q1
 cases r1
 exact wpAny_truthy_bool ⟨H1,I1,q⟩
variable {tA tB':TT} {rest:List Expr}
def O3 (t u:TT):TT:=fun σ H Q=>t σ H fun c H1=>if c=true then u σ H1 Q else Q false H1
def tOr (t u:TT):TT:=fun σ H Q=>t σ H fun c H1=>if c=true then Q true H1 else u σ H1 Q
def Rn (t:TT):TT:=fun σ H Q=>t σ H fun c H1=>Q (!c) H1
theorem VI (ha:PT X a tA):PW X (.BoolOp .And [a] pos) tA:=by
 intro wh pins s σ H Q I h
 refine isTrue_and (thn (ha pins s σ H Q I h) fun c s1 e=>?_)
 cases c with
 | true=>exact isTrue_and_nil e
 | false=>exact e
theorem Nw (ha:PT X a tA):PW X (.BoolOp .Or [a] pos) tA:=by
 intro wh pins s σ H Q I h
 refine isTrue_or (thn (ha pins s σ H Q I h) fun c s1 e=>?_)
 cases c with
 | false=>exact isTrue_or_nil e
 | true=>exact e
theorem Pw (ha:PT X a tA) (hb:PW X (.BoolOp .And (b::rest) pos) tB'):PW X (.BoolOp .And (a::b::rest) pos) (O3 tA tB'):=by
 intro wh pins s σ H Q I h
 refine isTrue_and (thn (ha pins s σ H _ I h) fun c s1 hh_=>?_)
 obtain ⟨H1,I1,q1⟩:=hh_
 cases c with
 | true=>exact hb wh pins s1 σ H1 Q I1 q1
 | false=>exact ⟨H1,I1,q1⟩
theorem MY (ha:PT X a tA) (hb:PW X (.BoolOp .Or (b::rest) pos) tB'):PW X (.BoolOp .Or (a::b::rest) pos) (tOr tA tB'):=by
 intro wh pins s σ H Q I h
 refine isTrue_or (thn (ha pins s σ H _ I h) fun c s1 hh_=>?_)
 obtain ⟨H1,I1,q1⟩:=hh_
 cases c with
 | true=>exact ⟨H1,I1,q1⟩
 | false=>exact hb wh pins s1 σ H1 Q I1 q1
theorem KR (ha:PT X a tA):PT X (.UnaryOp .Not a pos) (Rn tA):=by
 intro pins s σ H Q I h
 exact isTrue_not (ha pins s σ H (fun c H1=>Q (!c) H1) I h)
def Qv (ta tb:TE):TE:=fun σ H Q=>ta σ H fun x H1=>∃ c,x=.bl c/\if c=true then tb σ H1 Q else Q (.bl false) H1
def Qe (ta tb:TE):TE:=fun σ H Q=>ta σ H fun x H1=>∃ c,x=.bl c/\if c=true then Q (.bl true) H1 else tb σ H1 Q
def UY (ta:TE):TE:=fun σ H Q=>ta σ H fun x H1=>∃ c,x=.bl c/\Q (.bl (!c)) H1
theorem Vd {op} {t:TE} (h:PE X a t):PE X (.BoolOp op [a] pos) t:=fun pins s σ H Q I hw=>BoolOp_one (h pins s σ H Q I hw)
theorem OQ (ha:PE X a ta) (hb:PE X (.BoolOp .And (b::rest) pos) tb):PE X (.BoolOp .And (a::b::rest) pos) (Qv ta tb):=by
 intro pins s σ H Q I h
 refine BoolOp_and (thn (ha pins s σ H _ I h) fun v s1 hh_=>?_)
 obtain ⟨x,H1,I1,r1,q1⟩:=hh_
 obtain ⟨c,rfl,q1⟩:=q1
 cases r1
 refine wpAny_truthy_bool ?_
 cases c with
 | true=>exact hb pins s1 σ H1 Q I1 q1
 | false=>exact ⟨.bl false,H1,I1,rfl,q1⟩
theorem UZ (ha:PE X a ta) (hb:PE X (.BoolOp .Or (b::rest) pos) tb):PE X (.BoolOp .Or (a::b::rest) pos) (Qe ta tb):=by
 intro pins s σ H Q I h
 refine BoolOp_or (thn (ha pins s σ H _ I h) fun v s1 hh_=>?_)
 obtain ⟨x,H1,I1,r1,q1⟩:=hh_
 obtain ⟨c,rfl,q1⟩:=q1
 cases r1
 refine wpAny_truthy_bool ?_
 cases c with
 | false=>exact hb pins s1 σ H1 Q I1 q1
 | true=>exact ⟨.bl true,H1,I1,rfl,q1⟩
theorem S9 (ha:PE X a ta):PE X (.UnaryOp .Not a pos) (UY ta):=by
 intro pins s σ H Q I h
 refine UnaryOp_ (thn (ha pins s σ H _ I h) fun v s1 hh_=>?_)
 obtain ⟨x,H1,I1,r1,q1⟩:=hh_
 obtain ⟨c,rfl,q1⟩:=q1
 cases r1
 exact not_of (wpAny_truthy_bool ⟨.bl (!c),H1,I1,rfl,q1⟩)
end
def SqL (K:PySem.W.Frag) (H:Hp) (a:Addr) (xs:List V):Prop:=
 Rd H a (.lst xs) \/
  ∃ (o:Obj) (its:Array Value) (n:Nat),K.lookup a=some o/\o.cls=.type "list"/\o.dict=none/\o.data=.seq its n/\its.size<=sizeLine/\Vals xs its.toList
def SqT (K:PySem.W.Frag) (H:Hp) (a:Addr) (xs:List V):Prop:=
 Rd H a (.tup xs) \/
  ∃ (o:Obj) (its:Array Value) (n:Nat),K.lookup a=some o/\o.cls=.type "tuple"/\o.data=.seq its n/\its.size<=sizeLine/\Vals xs its.toList
def Td:Value->Option V
 | .none=>some .non
 | .bool b=>some (.bl b)
 | .int i _=>some (.int i)
 | .str x _=>some (.str x)
 | .bytes b _=>some (.byt b)
 | .float b _=>some (.flt b)
 | .ref a=>some (.ref a)
 | .type n=>some (.ty n)
 | _=>none
theorem RelV.abs {x:V} {u:Value} (r:RelV x u):Td u=some x:=by
 cases x with
 | non=>cases r;rfl
 | bl _=>cases r;rfl
 | int _=>obtain ⟨t,rfl⟩:=r;rfl
 | str _=>obtain ⟨t,rfl⟩:=r;rfl
 | byt _=>obtain ⟨t,rfl⟩:=r;rfl
 | flt _=>obtain ⟨t,rfl⟩:=r;rfl
 | ref _=>cases r;rfl
 | ty _=>cases r;rfl
theorem RelV.inj {x y:V} {u:Value} (r:RelV x u) (q:RelV y u):x=y:=Option.some.inj (r.abs.symm.trans q.abs)
theorem Vals.inj:∀ {xs ys:List V} {us:List Value},Vals xs us->Vals ys us->xs=ys
 | _,_,_,.nil,.nil=>rfl
 | _,_,_,.cons r t,.cons r' t'=>by rw[r.inj r',Vals.inj t t']
section
variable {X:Cx} {pins:List (Addr×Obj)} {σ:St} {H:Hp} {s:Shared} {a:Addr} {xs ys:List V}
theorem SqL.of {K:PySem.W.Frag} (h:H a=some (.lst xs)):SqL K H a xs:=.inl (.inl h)
theorem SqT.of {K:PySem.W.Frag} (h:H a=some (.tup xs)):SqT K H a xs:=.inl (.inl h)
theorem Inv.list (I:Inv X pins σ H s) (h:SqL X.K H a xs):∃ its:List Value,Vals xs its/\PlainL s.heap a its.toArray/\xs.length<=sizeLine:=by
 rcases h with h | ⟨o,its,n,hk,hc,hd,hs,hz,r⟩
 ·obtain ⟨z,its,n,r,e⟩:=h.ok I.hok
  exact ⟨its,r,⟨_,n,e,rfl,rfl,rfl⟩,z⟩
 ·refine ⟨its.toList,r,⟨o,n,I.kIn a o hk,hc,hd,by simpa using hs⟩,?_⟩
  have e:=r.length
  simp only[Array.length_toList] at e
  lia
theorem Inv.tuple (I:Inv X pins σ H s) (h:SqT X.K H a xs):∃ its:List Value,Vals xs its/\IsTup s.heap a its.toArray/\xs.length<=sizeLine:=by
 rcases h with h | ⟨o,its,n,hk,hc,hs,hz,r⟩
 ·obtain ⟨z,its,r,p⟩:=h.ok I.hok
  exact ⟨its,r,p,z⟩
 ·refine ⟨its.toList,r,⟨o,I.kIn a o hk,hc,n,by simpa using hs⟩,?_⟩
  have e:=r.length
  simp only[Array.length_toList] at e
  lia
theorem Inv.list_inj (I:Inv X pins σ H s) (h:SqL X.K H a xs) (h':SqL X.K H a ys):xs=ys:=by
 obtain ⟨its,r,⟨o,n,e,_,_,d⟩,_⟩:=I.list h
 obtain ⟨its',r',⟨o',n',e',_,_,d'⟩,_⟩:=I.list h'
 rw[e] at e';cases e'
 rw[d] at d'
 injection d' with d1 _
 have:its=its':=by simpa using congrArg Array.toList d1
 subst this
 exact r.inj r'
theorem Inv.tuple_inj (I:Inv X pins σ H s) (h:SqT X.K H a xs) (h':SqT X.K H a ys):xs=ys:=by
 obtain ⟨its,r,⟨o,e,_,n,d⟩,_⟩:=I.tuple h
 obtain ⟨its',r',⟨o',e',_,n',d'⟩,_⟩:=I.tuple h'
 rw[e] at e';cases e'
 rw[d] at d'
 injection d' with d1 _
 have:its=its':=by simpa using congrArg Array.toList d1
 subst this
 exact r.inj r'
end
abbrev Cx.wish (X:Cx) (E:Value->Shared->Prop):Cx:={X with xe:=E}
abbrev Cx.nox (X:Cx):Cx:=X.wish fun _ _=>False
theorem Cx.Ok.wish {X:Cx} (ok:X.Ok) (E:Value->Shared->Prop):(X.wish E).Ok:=
 ⟨ok.mod,ok.kind,ok.glob,ok.blt,ok.above,ok.inj,ok.has,ok.cab,ok.hd,ok.frames,ok.stk,ok.exf,ok.bs,ok.bsz,ok.noex,ok.exfs,ok.funs,ok.frf⟩
theorem Cx.Ok.unwish {X:Cx} {E:Value->Shared->Prop} (ok:(X.wish E).Ok):X.Ok:=
 ⟨ok.mod,ok.kind,ok.glob,ok.blt,ok.above,ok.inj,ok.has,ok.cab,ok.hd,ok.frames,ok.stk,ok.exf,ok.bs,ok.bsz,ok.noex,ok.exfs,ok.funs,ok.frf⟩
section
variable {X:Cx} {pins:List (Addr×Obj)} {σ:St} {H:Hp} {s:Shared} {E:Value->Shared->Prop}
theorem Inv.wish (I:Inv X pins σ H s) (E:Value->Shared->Prop):Inv (X.wish E) pins σ H s:=⟨I.ok.wish E,I.os,I.bare,I.base,I.loc,I.cell,I.free,I.freeC,I.pin,I.hok,I.len⟩
theorem Inv.unwish (I:Inv (X.wish E) pins σ H s):Inv X pins σ H s:=⟨I.ok.unwish,I.os,I.bare,I.base,I.loc,I.cell,I.free,I.freeC,I.pin,I.hok,I.len⟩
theorem SP.unwish {D:Ends} {f:Flow} {s':Shared} (h:SP (X.wish E) pins D f s'):SP X pins D f s':=by
 cases f with
 | next=>obtain ⟨σ',H',I,q⟩:=h;exact ⟨σ',H',I.unwish,q⟩
 | brk=>obtain ⟨σ',H',I,q⟩:=h;exact ⟨σ',H',I.unwish,q⟩
 | cont=>obtain ⟨σ',H',I,q⟩:=h;exact ⟨σ',H',I.unwish,q⟩
 | ret u=>obtain ⟨v,σ',H',I,r,q⟩:=h;exact ⟨v,σ',H',I.unwish,r,q⟩
theorem PSs.nox {st:List Stmt} {t:TS} (h:PSs X.nox st t):PSs X st t:=fun pins s σ H D I hw=>
 wpAny_mono (h pins s σ H D (I.wish _) hw) (fun _ _ q=>q.unwish) fun _ _ z=>False.elim z
end
section
variable {X:Cx} {st:Stmt} {rest:List Stmt} {t u:TS} {e:Expr} {te:TE} {pos:Pos}
def On:TS:=fun D σ H=>D.nx σ H
def OD (t u:TS):TS:=fun D σ H=>t {D with nx:=u D} σ H
theorem HK:PSs X [] On:=fun _ _ σ H _ I h=>wpAny_execs_nil ⟨σ,H,I,h⟩
theorem Ci (h1:PS X st t) (h2:PSs X rest u):PSs X (st::rest) (OD t u):=by
 intro pins s σ H D I h
 refine wpAny_execs_cons (thn (h1 pins s σ H {D with nx:=u D} I h) fun f s1 q=>?_)
 cases f with
 | next=>
  obtain ⟨σ',H',I',q⟩:=q
  exact h2 pins s1 σ' H' D I' q
 | ret v=>exact q
 | brk=>exact q
 | cont=>exact q
theorem E7 (h1:PS X st t):PSs X [st] t:=by
 intro pins s σ H D I h
 refine wpAny_execs_cons (thn (h1 pins s σ H D I h) fun f s1 q=>?_)
 cases f with
 | next=>exact wpAny_execs_nil q
 | ret v=>exact q
 | brk=>exact q
 | cont=>exact q
theorem Inv.quiet {pins:List (Addr×Obj)} {σ:St} {H:Hp} {s:Shared} (I:Inv X pins σ H s):interactive X.env=false:=by simp[interactive,I.ok.kind]
def RN (te:TE):TS:=fun D σ H=>te σ H fun _ H1=>D.nx σ H1
theorem R6 (he:PE X e te) (hs:swapsWith e none pos.line X.env=pure false:=by rfl):PS X (.Expr e pos) (RN te):=by
 intro pins s σ H D I h
 exact wpAny_Expr_any (thn (he pins s σ H _ I h) fun v s1 ⟨x,H1,I1,r1,q1⟩=>⟨σ,H1,I1,q1⟩) I.quiet hs
def Q0 (te:TE):TS:=fun D σ H=>te σ H D.rt
theorem EM (he:PE X e te):PS X (.Return (some e) pos) (Q0 te):=by
 intro pins s σ H D I h
 exact wpAny_Return_some (thn (he pins s σ H _ I h) fun v s1 ⟨x,H1,I1,r1,q1⟩=>⟨x,σ,H1,I1,r1,q1⟩)
def Os (c:TT) (t u:TS):TS:=fun D σ H=>c σ H fun b H1=>if b=true then t D σ H1 else u D σ H1
theorem GR {c:Expr} {a b:List Stmt} {tc:TT} (hc:PT X c tc) (ha:PSs X a t) (hb:PSs X b u):PS X (.If c a b pos) (Os tc t u):=by
 intro pins s σ H D I h
 refine wpAny_If (thn (hc pins s σ H _ I h) fun d s1 hh_=>?_)
 obtain ⟨H1,I1,q1⟩:=hh_
 cases d with
 | true=>exact ha pins s1 σ H1 D I1 q1
 | false=>exact hb pins s1 σ H1 D I1 q1
def Mi:TS:=fun _ _ _=>False
theorem VD:PS X st Mi:=fun _ _ _ _ _ _ h=>h.elim
theorem GF {sts:List Stmt}:PSs X sts Mi:=fun _ _ _ _ _ _ h=>h.elim
end
abbrev TG:=V->St->Hp->(St->Hp->Prop)->Prop
abbrev TGs:=List V->St->Hp->(St->Hp->Prop)->Prop
def PG (X:Cx) (target:Expr) (t:TG):Prop:=
 ∀ (pins:List (Addr×Obj)) (s:Shared) (σ:St) (H:Hp) (v:V) (u:Value) (Q:St->Hp->Prop),Inv X pins σ H s->RelV v u->t v σ H Q ->
  wpAny (model X.prog X.w) X.A (assign target X.env u) (fun _ s'=>∃ σ' H',Inv X pins σ' H' s'/\Q σ' H') X.xe s
def PGs (X:Cx) (ts:List Expr) (t:TGs):Prop:=
 ∀ (pins:List (Addr×Obj)) (s:Shared) (σ:St) (H:Hp) (vs:List V) (us:List Value) (Q:St->Hp->Prop),Inv X pins σ H s->Vals vs us->t vs σ H Q ->
  wpAny (model X.prog X.w) X.A (assignInOrder ((assignEach ts X.env).map (·.2)) us) (fun _ s'=>∃ σ' H',Inv X pins σ' H' s'/\Q σ' H') X.xe s
abbrev Jc:=V->V->V->Hp->(Hp->Prop)->Prop
def IF (X:Cx) (t:Jc):Prop:=
 ∀ (pins:List (Addr×Obj)) (s:Shared) (σ:St) (H:Hp) (o i v:V) (ov iv u:Value) (Q:Hp->Prop),Inv X pins σ H s->RelV o ov->RelV i iv->RelV v u->t o i v H Q ->
  wpAny (model X.prog X.w) X.A (setItem ov iv u) (fun _ s'=>∃ H',Inv X pins σ H' s'/\Q H') X.xe s
section
variable {X:Cx} {pos:Pos}
def Et (i:Nat):TG:=fun v σ H Q=>Q (σ.set i (some v)) H
theorem BM {i:Nat} {x:Str} (hN:X.N.Nodup) (hi:X.N[i]?=some x) (hx:Loc X.env.scope x) (hf:X.fn x=true\/X.env.scope.names.lookup x=some .local:=by first | exact .inl rfl | exact .inr rfl | assumption):PG X (.Name x pos) (Et i):=by
 intro pins s σ H v u Q I r h
 exact wpAny_assign_Name (Fv I hN hi hx r (fun s' I'=>⟨_,H,I',h⟩) hf)
def Lg:TGs:=fun vs σ H Q=>vs=[]/\Q σ H
def Ks (t:TG) (u:TGs):TGs:=fun vs σ H Q=>∃ v r,vs=v::r/\t v σ H fun σ' H'=>u r σ' H' Q
theorem GY:PGs X [] Lg:=by
 intro pins s σ H vs us Q I r h
 obtain ⟨e,h⟩:=h
 subst e
 cases r
 exact assignInOrder_nil ⟨σ,H,I,h⟩
theorem C3 {e:Expr} {es:List Expr} {t:TG} {u:TGs} (h1:PG X e t) (h2:PGs X es u)
  (hs:(assignEach (e::es) X.env).map (·.2)=assign e X.env::(assignEach es X.env).map (·.2):=by rfl):PGs X (e::es) (Ks t u):=by
 intro pins s σ H vs us Q I r h
 obtain ⟨v,vr,e1,h⟩:=h
 subst e1
 cases r with
 | cons r rr=>
  rw[hs]
  refine assignInOrder_cons (thn (h1 pins s σ H _ _ _ I r h) fun _ s1 hh_=>?_)
  obtain ⟨σ1,H1,I1,q1⟩:=hh_
  exact h2 pins s1 σ1 H1 _ _ Q I1 rr q1
def GK (K:PySem.W.Frag) (n:Nat) (t:TGs):TG:=fun v σ H Q=>∃ a xs,v=.ref a/\SqT K H a xs/\xs.length=n/\t xs σ H Q
theorem Su {es:List Expr} {k:Nat} {t:TGs} {n:Nat} (hc:X.calm=true) (h:PGs X es t)
  (hn:(assignEach es X.env).length=n:=by rfl) (hst:(assignEach es X.env).findIdx? (·.1)=none:=by rfl):PG X (.Tuple es k pos) (GK X.K n t):=by
 intro pins s σ H v u Q I r hw
 obtain ⟨a,xs,e1,hq,hl,hw⟩:=hw
 subst e1
 cases r
 obtain ⟨its,rv,ht,hz⟩:=I.tuple hq
 refine assign_Tuple_tuple (I.ok.hd hc) ht (by simp[hn,<-hl,rv.length]) hst fun h' hx=>?_
 have I1:Inv X pins σ H {s with heap:=h'}:=I.kept (t':=s.toks) fun b o e=>hx b o (Nat.ne_of_lt (Heap.lt_size e)) e
 exact h pins _ σ H xs _ Q I1 (by simpa using rv) hw
def Nt (to ti:TE) (t:Jc):TG:=fun v σ H Q=>to σ H fun o H1=>ti σ H1 fun i H2=>t o i v H2 fun H3=>Q σ H3
theorem VY {o i:Expr} {to ti:TE} {t:Jc} (ho:PE X o to) (hi:PE X i ti) (hs:IF X t)
  (ha:∀ v,assign (.Subscript o i pos) X.env v=(do
   let ov <-holding [v] (eval o X.env)
   let iv <-holding [v,ov] (eval i X.env)
   standAt pos
   holding [v,ov,iv] (setItem ov iv v)
   release [v,ov,iv] []):=by intro _;rfl):PG X (.Subscript o i pos) (Nt to ti t):=by
 intro pins s σ H v u Q I r h
 rw[ha]
 refine wpAny_bind (wpAny_holding (thn (ho pins s σ H _ I h) fun ov s1 hh_=>?_))
 obtain ⟨x,H1,I1,r1,q1⟩:=hh_
 refine wpAny_bind (wpAny_holding (thn (hi pins s1 σ H1 _ I1 q1) fun iv s2 hh_=>?_))
 obtain ⟨y,H2,I2,r2,q2⟩:=hh_
 refine wpAny_bind (wpAny_standAt (wpAny_bind (wpAny_holding (thn (hs pins s2 σ H2 x y v ov iv u _ I2 r1 r2 r q2) fun _ s3 hh_=>?_))))
 obtain ⟨H3,I3,q3⟩:=hh_
 exact wpAny_release ⟨σ,H3,I3,q3⟩
def GI (te:TE) (g:TG):TS:=fun D σ H=>te σ H fun x H1=>g x σ H1 D.nx
theorem N4 {tg e:Expr} {te:TE} {g:TG} (he:PE X e te) (hg:PG X tg g) (hs:swapsWithSole [tg] e pos.line X.env=pure false:=by rfl) (hw:swappedStores [tg] e X.env=pure none:=by rfl)
  (h1:(assignEach [tg] X.env).map (·.2)=[assign tg X.env]:=by rfl):PS X (.Assign [tg] e pos) (GI te g):=by
 intro pins s σ H D I h
 refine wpAny_Assign_stores (thn (he pins s σ H _ I h) fun v s1 hh_=>?_) hs hw
 obtain ⟨x,H1,I1,r1,q1⟩:=hh_
 rw[h1]
 exact thn (hg pins s1 σ H1 x v _ I1 r1 q1) fun _ s2 q=>q
theorem Fd {i:Nat} {x:Str} {e:Expr} {te:TE} {pos':Pos} (hN:X.N.Nodup) (hi:X.N[i]?=some x) (hx:Loc X.env.scope x) (he:PE X e te) (hs:swapsWith e (some (.Name x pos')) pos.line X.env=pure false:=by rfl) (hf:X.fn x=true\/X.env.scope.names.lookup x=some .local:=by first | exact .inl rfl | exact .inr rfl | assumption) :
  PS X (.Assign [.Name x pos'] e pos) (GI te (Et i)):=by
 intro pins s σ H D I h
 refine wpAny_Assign_Name (thn (he pins s σ H _ I h) fun v s1 hh_=>?_) hs
 obtain ⟨y,H1,I1,r1,q1⟩:=hh_
 exact Fv I1 hN hi hx r1 (fun s2 I2=>⟨_,H1,I2,q1⟩) hf
end
section
variable {X:Cx} {pos:Pos}
end
structure It where
 go:Nat->Hp->Prop
 yld:Nat->Hp->V->Hp->Prop
 stop:Nat->Hp->Prop
def Cz (X:Cx) (pins:List (Addr×Obj)) (H:Hp) (b:Addr):Prop:=
 H b=none/\b≠X.env.locals/\b∉X.fs/\(b∈X.ex\/X.s₀.heap.objs.size<=b)/\(∀ x c,X.env.cells.lookup x=some c->c≠b)/\∀ p∈X.pn++pins,p.1≠b
theorem Inv.fpOk {X:Cx} {pins:List (Addr×Obj)} {σ:St} {H H':Hp} {s:Shared} {b:Addr} (I:Inv X pins σ H s) (hb:s.heap.objs.size<=b) (hn:H' b=none):Cz X pins H' b:=by
 refine ⟨hn,Nat.ne_of_gt (Nat.lt_of_lt_of_le I.lt hb),I.nofs hb,.inr (Nat.le_trans I.sz hb),fun x c e z=>?_,fun p hp z=>?_⟩
 ·obtain ⟨v,q⟩:=I.cell x c e
  exact absurd (Nat.lt_of_lt_of_le q.lt (by rw[z];exact hb)) (Nat.lt_irrefl _)
 ·exact absurd (Nat.lt_of_lt_of_le (Heap.lt_size (I.pin p hp).1) (by rw[z];exact hb)) (Nat.lt_irrefl _)
structure Turn (P:Program) (w:World) (K:PySem.W.Frag) (tg:Expr) (J:It) (fp:List Addr) (it:Addr) (tn:Nat->Heap->Prop):Prop where
 mem:it∈fp
 obj:∀ i h,tn i h->∀ b∈fp,∃ o,h.get? b=some o/\∀ v,o.data≠.cell v
 keep:∀ i h h',tn i h->(∀ b∈fp,∀ o,h.get? b=some o->h'.get? b=some o)->tn i h'
 item:∀ (X:Cx),X.prog=P->X.w=w->X.K=K->X.calm=true->∀ (i:Nat) (pins:List (Addr×Obj)) (s:Shared) (σ:St) (H:Hp) (E:Value->Shared->Prop),Inv X pins σ H s->(∀ b∈fp,Cz X pins H b)->tn i s.heap->J.go i H ->
  wpAny (model P w) X.A (pyNext (.ref it)) (fun r s1=>∃ u,r=some u /\
   wpAny (model P w) X.A (letOwnedTupleGo tg (.ref it) u) (fun _ s2=>∃ x H',Inv X pins σ H' s2/\RelV x u/\J.yld i H x H'/\tn (i+1) s2.heap/\∀ b∈fp,H' b=none) E s1) E s
 done:∀ (X:Cx),X.prog=P->X.w=w->X.K=K->X.calm=true->∀ (i:Nat) (pins:List (Addr×Obj)) (s:Shared) (σ:St) (H:Hp) (E:Value->Shared->Prop),Inv X pins σ H s->(∀ b∈fp,Cz X pins H b)->tn i s.heap->J.stop i H ->
  wpAny (model P w) X.A (pyNext (.ref it)) (fun r s1=>r=none/\Inv X pins σ H s1) E s
 self:∀ (A:Around) (i:Nat) (s:Shared) (Q:Value->Shared->Prop) (E:Value->Shared->Prop),tn i s.heap->Q (.ref it) s->wpAny (model P w) A (pyIter (.ref it)) Q E s
abbrev TI:=St->Hp->(It->Hp->Prop)->Prop
def PIE (X:Cx) (pins:List (Addr×Obj)) (σ:St) (tg:Expr) (R:It->Hp->Prop) (itv:Value) (s2:Shared):Prop:=
 ∃ (it:Addr) (fp:List Addr) (tn:Nat->Heap->Prop) (J:It) (H':Hp),itv=.ref it/\Inv X pins σ H' s2/\Turn X.prog X.w X.K tg J fp it tn/\tn 0 s2.heap/\(∀ b∈fp,Cz X pins H' b)/\R J H'
def PI (X:Cx) (tg iter:Expr) (wi:TI):Prop:=
 ∀ (pins:List (Addr×Obj)) (s:Shared) (σ:St) (H:Hp) (R:It->Hp->Prop),Inv X pins σ H s->wi σ H R ->
  wpAny (model X.prog X.w) X.A (eval iter X.env) (fun v s1=>wpAny (model X.prog X.w) X.A (pyIter v) (PIE X pins σ tg R) X.xe s1) X.xe s
theorem HS {M:Model} {A:Around} {E:Value->Shared->Prop} {s:Shared} {tg:Expr} {it:Addr} {u:Value} {o:Obj} {n:String} {vs:Array Value} {Q:Unit->Shared->Prop} (ho:s.heap.get? it=some o) (hc:o.cls=.type n) (hd:o.data=.fields vs)
  (hn:["enumerate","zip","dict_itemiterator","dict_reverseitemiterator","odict_iterator","itertools.zip_longest","itertools.pairwise"].contains n=false) (hQ:Q () s):wpAny M A (letOwnedTupleGo tg (.ref it) u) Q E s:=by
 unfold letOwnedTupleGo
 cases tg<;>first
  | exact wpAny_pure hQ
  | (cases u<;>first
    | exact wpAny_pure hQ
    | (refine wpAny_bind (wpAny_load ho ?_)
       rw[hc,hd]
       show wpAny M A (if (["enumerate","zip","dict_itemiterator","dict_reverseitemiterator","odict_iterator","itertools.zip_longest","itertools.pairwise"].contains n && vs[0]? == some (rawInt _))=true then _ else _) Q E s
       rw[if_neg (by intro h;rw[hn,Bool.false_and] at h;cases h)]
       exact wpAny_pure hQ))
def Itl (K:PySem.W.Frag) (a:Addr):It:=
 ⟨fun i H=>∃ xs x,SqL K H a xs/\xs[i]?=some x,fun i H x H'=>H'=H/\∀ xs,SqL K H a xs->xs[i]?=some x,fun i H=>∃ xs,SqL K H a xs/\xs.length<=i⟩
def Itt (K:PySem.W.Frag) (a:Addr):It:=
 ⟨fun i H=>∃ xs x,SqT K H a xs/\xs[i]?=some x,fun i H x H'=>H'=H/\∀ xs,SqT K H a xs->xs[i]?=some x,fun i H=>∃ xs,SqT K H a xs/\xs.length<=i⟩
def Itr (lo:Int) (n:Nat):It:=⟨fun i _=>i<n,fun i H x H'=>H'=H/\x=.int (lo+i),fun i _=>n<=i⟩
theorem Sf {P:Program} {w:World} {K:PySem.W.Frag} {tg:Expr} (a it:Addr):Turn P w K tg (Itl K a) [it] it (fun i h=>h.IsListIter it a i) where
 mem:=by simp
 obj:=fun i h st b hb=>by
  have e:b=it:=by simpa using hb
  subst e
  obtain ⟨o,e,c,d⟩:=st
  exact ⟨o,e,fun v z=>by rw[d] at z;cases z⟩
 keep:=fun i h h' st k=>st.at fun o e=>k it (by simp) o e
 item:=by
  intro X hP hw hK hc i pins s σ H E I hf st hg
  subst hP hw hK
  obtain ⟨xs,x,hq,hx⟩:=hg
  obtain ⟨its,rv,p,hz⟩:=I.list hq
  obtain ⟨u,hu,ru⟩:=rv.get hx
  obtain ⟨f0,f1,f2,f3,f4,f5⟩:=hf it (by simp)
  refine wpAny_pyNext_list_item st p.isList (x:=u) (by simpa using hu) fun h' st' sb=>?_
  have I1:Inv X pins σ H {s with heap:=h'}:=I.turned (t':=s.toks) (fun b o hb e=>(sb.2 b hb).trans e) f0 f1 f3 f4 f5
  obtain ⟨o,e,c,d⟩:=id st'
  exact ⟨u,rfl,HS (s:={s with heap:=h'}) e c d (by decide) ⟨x,H,I1,ru,⟨rfl,fun ys hy=>by rw[I.list_inj hy hq];exact hx⟩,st',fun b hb=>(hf b hb).1⟩⟩
 done:=by
  intro X hP hw hK hc i pins s σ H E I hf st hg
  subst hP hw hK
  obtain ⟨xs,hq,hx⟩:=hg
  obtain ⟨its,rv,p,hz⟩:=I.list hq
  obtain ⟨f0,f1,f2,f3,f4,f5⟩:=hf it (by simp)
  have hl:=rv.length
  exact wpAny_pyNext_list_end (I.ok.hd hc) st p.isList (by simp;lia) fun h' eb=>⟨rfl,I.turned (t':=s.toks) (fun b o hb e=>eb b o hb e) f0 f1 f3 f4 f5⟩
 self:=fun _ _ _ _ _ st h=>wpAny_pyIter_listiter st h
theorem Sx {P:Program} {w:World} {K:PySem.W.Frag} {tg:Expr} (a it:Addr):Turn P w K tg (Itt K a) [it] it (fun i h=>h.IsTupleIter it a i) where
 mem:=by simp
 obj:=fun i h st b hb=>by
  have e:b=it:=by simpa using hb
  subst e
  obtain ⟨o,e,c,d⟩:=st
  exact ⟨o,e,fun v z=>by rw[d] at z;cases z⟩
 keep:=fun i h h' st k=>st.at fun o e=>k it (by simp) o e
 item:=by
  intro X hP hw hK hc i pins s σ H E I hf st hg
  subst hP hw hK
  obtain ⟨xs,x,hq,hx⟩:=hg
  obtain ⟨its,rv,p,hz⟩:=I.tuple hq
  obtain ⟨u,hu,ru⟩:=rv.get hx
  obtain ⟨f0,f1,f2,f3,f4,f5⟩:=hf it (by simp)
  refine wpAny_pyNext_tuple_item st (show s.heap.IsTuple a its.toArray from p) (x:=u) (by simpa using hu) fun h' st' sb=>?_
  have I1:Inv X pins σ H {s with heap:=h'}:=I.turned (t':=s.toks) (fun b o hb e=>(sb.2 b hb).trans e) f0 f1 f3 f4 f5
  obtain ⟨o,e,c,d⟩:=id st'
  exact ⟨u,rfl,HS (s:={s with heap:=h'}) e c d (by decide) ⟨x,H,I1,ru,⟨rfl,fun ys hy=>by rw[I.tuple_inj hy hq];exact hx⟩,st',fun b hb=>(hf b hb).1⟩⟩
 done:=by
  intro X hP hw hK hc i pins s σ H E I hf st hg
  subst hP hw hK
  obtain ⟨xs,hq,hx⟩:=hg
  obtain ⟨its,rv,p,hz⟩:=I.tuple hq
  obtain ⟨f0,f1,f2,f3,f4,f5⟩:=hf it (by simp)
  have hl:=rv.length
  exact wpAny_pyNext_tuple_end (I.ok.hd hc) st (show s.heap.IsTuple a its.toArray from p) (by simp;lia) fun h' eb=>⟨rfl,I.turned (t':=s.toks) (fun b o hb e=>eb b o hb e) f0 f1 f3 f4 f5⟩
 self:=fun _ _ _ _ _ st h=>wpAny_pyIter_tupleiter st h
theorem Uy {P:Program} {w:World} {K:PySem.W.Frag} {tg:Expr} (it:Addr) (lo:Int) (n:Nat):Turn P w K tg (Itr lo n) [it] it (fun i h=>IsRangeIter h it (lo+(i:Nat) * 1) ((n:Int) - (i:Nat)) 1) where
 mem:=by simp
 obj:=fun i h st b hb=>by
  have e:b=it:=by simpa using hb
  subst e
  exact ⟨_,st,fun v z=>by
   have z':Data.fields _=Data.cell v:=z
   cases z'⟩
 keep:=fun i h h' st k=>k it (by simp) _ st
 item:=by
  intro X hP hw hK hc i pins s σ H E I hf st hg
  subst hP hw hK
  obtain ⟨f0,f1,f2,f3,f4,f5⟩:=hf it (by simp)
  have W:=Walks.range (prog:=X.prog) (w:=X.w) (I.ok.hd hc) it lo 1 n
  refine W.item i s _ _ hg st fun v h' tk hv st' kk=>?_
  obtain ⟨t,rfl⟩:=hv
  have I1:Inv X pins σ H {s with heap:=h',toks:=tk}:=I.turned (fun b o hb e=>kk b o (by simpa using hb) e) f0 f1 f3 f4 f5
  refine ⟨_,rfl,HS (s:={s with heap:=h',toks:=tk}) (n:="range_iterator") st' rfl rfl (by decide) ⟨.int (lo+i),H,I1,⟨t,?_⟩,⟨rfl,rfl⟩,st',fun b hb=>(hf b hb).1⟩⟩
  rw[Int.mul_one]
 done:=by
  intro X hP hw hK hc i pins s σ H E I hf st hg
  subst hP hw hK
  obtain ⟨f0,f1,f2,f3,f4,f5⟩:=hf it (by simp)
  exact wpAny_pyNext_range_end (I.ok.hd hc) st (by have:n<=i:=hg;lia) fun h' eb=>⟨rfl,I.turned (t':=s.toks) (fun b o hb e=>eb b o hb e) f0 f1 f3 f4 f5⟩
 self:=fun _ _ _ _ _ st h=>wpAny_pyIter_rangeiter st h
section
variable {X:Cx} {tg:Expr}
def VF (K:PySem.W.Frag) (tl:TE):TI:=fun σ H R=>tl σ H fun x H1=>∃ a,x=.ref a/\(∃ xs,SqL K H1 a xs)/\R (Itl K a) H1
def QJ (K:PySem.W.Frag) (tl:TE):TI:=fun σ H R=>tl σ H fun x H1=>∃ a,x=.ref a/\(∃ xs,SqT K H1 a xs)/\R (Itt K a) H1
theorem QD {l:Expr} {tl:TE} (hl:PE X l tl):PI X tg l (VF X.K tl):=by
 intro pins s σ H R I h
 refine thn (hl pins s σ H _ I h) fun v s1 hh_=>?_
 obtain ⟨x,H1,I1,r1,q1⟩:=hh_
 obtain ⟨a,e,⟨xs,hq⟩,q⟩:=q1
 subst e
 cases r1
 obtain ⟨its,rv,p,hz⟩:=I1.list hq
 refine wpAny_pyIter_list p.isList ?_
 refine ⟨s1.heap.objs.size,[s1.heap.objs.size],_,_,H1,rfl,I1.kept (t':=s1.toks) fun b o e=>Heap.get?_push_of_some _ e,Sf a _,⟨_,Heap.get?_push_size _ rfl,rfl,rfl⟩,fun b hb=>?_,q⟩
 have e:b=s1.heap.objs.size:=by simpa using hb
 subst e
 exact I1.fpOk (Nat.le_refl _) (I1.hok.fresh (Nat.le_refl _))
theorem Ut {l:Expr} {tl:TE} (hl:PE X l tl):PI X tg l (QJ X.K tl):=by
 intro pins s σ H R I h
 refine thn (hl pins s σ H _ I h) fun v s1 hh_=>?_
 obtain ⟨x,H1,I1,r1,q1⟩:=hh_
 obtain ⟨a,e,⟨xs,hq⟩,q⟩:=q1
 subst e
 cases r1
 obtain ⟨its,rv,p,hz⟩:=I1.tuple hq
 refine wpAny_pyIter_tuple (show s1.heap.IsTuple a its.toArray from p) ?_
 refine ⟨s1.heap.objs.size,[s1.heap.objs.size],_,_,H1,rfl,I1.kept (t':=s1.toks) fun b o e=>Heap.get?_push_of_some _ e,Sx a _,⟨_,Heap.get?_push_size _ rfl,rfl,rfl⟩,fun b hb=>?_,q⟩
 have e:b=s1.heap.objs.size:=by simpa using hb
 subst e
 exact I1.fpOk (Nat.le_refl _) (I1.hok.fresh (Nat.le_refl _))
theorem O6 {pins:List (Addr×Obj)} {σ:St} {H:Hp} {s:Shared} {R:It->Hp->Prop} {E:Value->Shared->Prop} {lo hi:Int} {t u v:Tok} {tk:Nat} (I:Inv X pins σ H s) (h1:-(2 ^ 62)<=lo) (h2:lo<2 ^ 62) (h3:-(2 ^ 62)<=hi) (h4:hi<2 ^ 62)
  (q:R (Itr lo (hi - lo).toNat) H):wpAny (model X.prog X.w) X.A (pyIter (.ref s.heap.objs.size)) (PIE X pins σ tg R) E {s with heap:=s.heap.push {cls:=.type "range",data:=.fields #[.int lo t,.int hi u,.int 1 v]},toks:=tk}:=by
 refine wpAny_pyIter_range (IsRange.new ..) (small_one h1 h2 h3 h4) ?_
 have I1:Inv X pins σ H {s with heap:=s.heap.push {cls:=.type "range",data:=.fields #[.int lo t,.int hi u,.int 1 v]},toks:=tk}:=I.kept fun b o e=>Heap.get?_push_of_some _ e
 refine ⟨(s.heap.push {cls:=.type "range",data:=.fields #[.int lo t,.int hi u,.int 1 v]}).objs.size,[(s.heap.push {cls:=.type "range",data:=.fields #[.int lo t,.int hi u,.int 1 v]}).objs.size],_,_,H,rfl,
  I1.kept (t':=tk) fun b o e=>Heap.get?_push_of_some _ e,Uy _ lo (hi - lo).toNat,?_,fun b hb=>?_,q⟩
 ·have e1:lo+((0:Nat):Int) * 1=lo:=by simp
  have e2:(((hi - lo).toNat:Nat):Int) - ((0:Nat):Int)=Builtin.Range.rangeSize lo hi 1:=by rw[rangeSize_one];split<;>lia
  show IsRangeIter _ _ (lo+((0:Nat):Int) * 1) ((((hi - lo).toNat:Nat):Int) - ((0:Nat):Int)) 1
  rw[e1,e2]
  exact Heap.get?_push_size _ rfl
 ·have e:b=(s.heap.push {cls:=.type "range",data:=.fields #[.int lo t,.int hi u,.int 1 v]}).objs.size:=by simpa using hb
  subst e
  exact I1.fpOk (Nat.le_refl _) (I1.hok.fresh (Nat.le_refl _))
def RP (ta:TA):TI:=fun σ H R=>ta σ H fun vs H1=>∃ j:Int,vs=[.int j]/\-(2 ^ 62)<=j/\j<2 ^ 62/\R (Itr 0 j.toNat) H1
theorem R0 {a:Expr} {ta:TA} {p pos:Pos} (hg:Gl X "range") (hm:X.mg "range"=none) (ha:PA X [a] ta) (hs:starEach [a] X.env=[(false,eval a X.env)]:=by rfl):PI X tg (.Call (.Name "range" p) [a] [] pos) (RP ta):=by
 intro pins s σ H R I h
 refine Call_ (HX I hg hm boot_range (PyProof.Rows.callWith_type1 (thn (ha pos pins s σ H _ I h) fun us s1 hh_=>?_) hs rfl))
 obtain ⟨vs,H1,I1,r1,q1⟩:=hh_
 obtain ⟨j,e,q1,q2,q⟩:=q1
 subst e
 cases r1 with
 | cons r rr=>
  cases rr
  obtain ⟨t,rfl⟩:=r
  exact call_range_1 (O6 I1 (by lia) (by lia) q1 q2 (by simpa using q))
def UJ (wi:TI) (g:TG) (tb:TS):TS:=fun D σ H=>wi σ H fun J H1=>∃ W:Nat->Nat->St->Hp->Prop,(∃ m,W 0 m σ H1)/\∀ i m σ H,W i m σ H ->
 (J.stop i H/\D.nx σ H)\/(J.go i H/\∃ N:St->Hp->Prop,(∀ σ' H',N σ' H'->∃ m',m'<m/\W (i+1) m' σ' H')/\∀ x H',J.yld i H x H'->g x σ H' fun σ2 H2=>tb {D with nx:=N,ct:=N,bk:=D.nx} σ2 H2)
def Fb (fp:List Addr) (h:Heap):List (Addr×Obj):=fp.filterMap fun b=>(h.get? b).map fun o=>(b,o)
theorem Gs {fp:List Addr} {h:Heap} {b:Addr} {o:Obj} (hb:b∈fp) (e:h.get? b=some o):(b,o)∈Fb fp h:=List.mem_filterMap.mpr ⟨b,hb,by rw[e];rfl⟩
theorem VP {fp:List Addr} {h:Heap} {p:Addr×Obj} (hp:p∈Fb fp h):p.1∈fp/\h.get? p.1=some p.2:=by
 obtain ⟨b,hb,e⟩:=List.mem_filterMap.mp hp
 cases q:h.get? b with
 | none=>rw[q] at e;cases e
 | some o=>
  rw[q] at e
  have e':(b,o)=p:=Option.some.inj e
  subst e'
  exact ⟨hb,q⟩
theorem Inv.pinned {pins:List (Addr×Obj)} {σ:St} {H:Hp} {s:Shared} {fp:List Addr} (I:Inv X pins σ H s) (hf:∀ b∈fp,Cz X pins H b) (ho:∀ b∈fp,∃ o,s.heap.get? b=some o/\∀ v,o.data≠.cell v):Inv X (pins++Fb fp s.heap) σ H s:=
 I.pins_of fun p hp=>(List.mem_append.mp hp).elim (fun z=>I.pin p (List.mem_append_right _ z)) fun z=>by
  obtain ⟨hb,e⟩:=VP z
  obtain ⟨f0,f1,f2,_⟩:=hf p.1 hb
  obtain ⟨o,e',d⟩:=ho p.1 hb
  rw[e] at e';cases e'
  exact ⟨e,f0,f1,f2,d⟩
theorem Inv.unpinned {pins pl:List (Addr×Obj)} {σ:St} {H:Hp} {s:Shared} (I:Inv X (pins++pl) σ H s):Inv X pins σ H s:=I.pins_of fun p hp=>I.pin p (List.mem_append_right _ (List.mem_append_left _ hp))
theorem ON {iter:Expr} {body:List Stmt} {wi:TI} {g:TG} {tb:TS} {pos:Pos} (hp:PassesOwn (model X.prog X.w) X.A X.env X.xe) (hc:X.calm=true) (hi:PI X tg iter wi) (hg:PG X tg g) (hb:PSs X body tb)
  (hs:∀ x,foldedSetIterable iter X.env x=pure x:=by intro _;rfl):PS X (.For tg iter body [] pos) (UJ wi g tb):=by
 intro pins s σ H D I h
 refine wpAny_For (thn (hi pins s σ H _ I h) fun v s1 h1=>thn h1 fun itv s2 h2=>?_) hs
 obtain ⟨it,fp,tn,J,H2,e,I2,T,st2,f2,W,⟨m0,w0⟩,turn⟩:=h2
 subst e
 have stat:∀ {H':Hp},(∀ b∈fp,H' b=none)->∀ b∈fp,Cz X pins H' b:=fun hn b hb=>⟨hn b hb,(f2 b hb).2⟩
 refine codeAny_forLoop_any (fun n s'=>∃ i σ' H',Inv X pins σ' H' s'/\tn i s'.heap/\(∀ b∈fp,H' b=none)/\W i n σ' H') ?_ m0 ⟨0,σ,H2,I2,st2,fun b hb=>(f2 b hb).1,w0⟩
 rintro n s3 ⟨i,σ3,H3,I3,st3,fr3,w3⟩
 rcases turn i n σ3 H3 w3 with ⟨stop,qn⟩ | ⟨go,N,hN,step⟩
 ·refine wpAny_passesOwn hp (thn (T.done X rfl rfl rfl hc i pins s3 σ3 H3 X.xe I3 (stat fr3) st3 stop) fun r s4 hh_=>?_)
  obtain ⟨hr,I4⟩:=hh_
  subst hr
  exact wpAny_execs_nil ⟨σ3,H3,I4,qn⟩
 ·refine wpAny_passesOwn hp (thn (T.item X rfl rfl rfl hc i pins s3 σ3 H3 X.xe I3 (stat fr3) st3 go) fun r s4 hh_=>?_)
  obtain ⟨u,hr,h4⟩:=hh_
  subst hr
  refine wpAny_passesOwn hp (thn h4 fun _ s5 hh_=>?_)
  obtain ⟨x,H5,I5,r5,y5,st5,fr5⟩:=hh_
  have I5':=I5.pinned (stat fr5) (T.obj _ _ st5)
  refine wpAny_passesOwn hp (thn (hg _ s5 σ3 H5 x u _ I5' r5 (step x H5 y5)) fun _ s6 hh_=>?_)
  obtain ⟨σ6,H6,I6,q6⟩:=hh_
  refine wpAny_passesOwn hp (thn (hb _ s6 σ6 H6 _ I6 q6) fun f s7 q7=>?_)
  have again:∀ {σ7:St} {H7:Hp},Inv X (pins++Fb fp s5.heap) σ7 H7 s7->N σ7 H7->∃ m,m<n/\∃ i σ' H',Inv X pins σ' H' s7/\tn i s7.heap/\(∀ b∈fp,H' b=none)/\W i m σ' H':=fun {σ7 H7} I7 n7=>by
   obtain ⟨m',hm,w7⟩:=hN σ7 H7 n7
   refine ⟨m',hm,i+1,σ7,H7,I7.unpinned,T.keep _ _ _ st5 fun b hb o e=>(I7.pin (b,o) (List.mem_append_right _ (List.mem_append_right _ (Gs hb e)))).1,fun b hb=>?_,w7⟩
   obtain ⟨o,e,d⟩:=T.obj _ _ st5 b hb
   exact (I7.pin (b,o) (List.mem_append_right _ (List.mem_append_right _ (Gs hb e)))).2.1
  cases f with
  | next=>obtain ⟨σ7,H7,I7,n7⟩:=q7;exact again I7 n7
  | cont=>obtain ⟨σ7,H7,I7,n7⟩:=q7;exact again I7 n7
  | brk=>obtain ⟨σ7,H7,I7,q7⟩:=q7;exact ⟨σ7,H7,I7.unpinned,q7⟩
  | ret v=>obtain ⟨x7,σ7,H7,I7,r7,q7⟩:=q7;exact ⟨x7,σ7,H7,I7.unpinned,r7,q7⟩
end
abbrev R2:=V->V->Hp->VK->Prop
def OpR (X:Cx) (f:Value->Value->Sem Value) (r:R2):Prop:=
 ∀ (pins:List (Addr×Obj)) (s:Shared) (σ:St) (H:Hp) (x y:V) (v u:Value) (Q:VK),Inv X pins σ H s->RelV x v->RelV y u->r x y H Q ->
  wpAny (model X.prog X.w) X.A (f v u) (EP X pins σ Q) X.xe s
def UnR (X:Cx) (f:Value->Sem Value) (r:V->Hp->VK->Prop):Prop:=
 ∀ (pins:List (Addr×Obj)) (s:Shared) (σ:St) (H:Hp) (x:V) (v:Value) (Q:VK),Inv X pins σ H s->RelV x v->r x H Q ->
  wpAny (model X.prog X.w) X.A (f v) (EP X pins σ Q) X.xe s
def Bq (X:Cx) (f:Value) (r:List V->Hp->VK->Prop):Prop:=
 ∀ (pins:List (Addr×Obj)) (s:Shared) (σ:St) (H:Hp) (xs:List V) (us:List Value) (Q:VK),Inv X pins σ H s->Vals xs us->r xs H Q ->
  wpAny (model X.prog X.w) X.A (call f us) (EP X pins σ Q) X.xe s
def Q9 (X:Cx) (r:V->Hp->(Bool->Hp->Prop)->Prop):Prop:=
 ∀ (pins:List (Addr×Obj)) (s:Shared) (σ:St) (H:Hp) (x:V) (v:Value) (Q:Bool->Hp->Prop),Inv X pins σ H s->RelV x v->r x H Q ->
  wpAny (model X.prog X.w) X.A (truthy v) (TP X pins σ Q) X.xe s
def tOp (r:R2) (ta tb:TE):TE:=fun σ H Q=>ta σ H fun x H1=>tb σ H1 fun y H2=>r x y H2 Q
def tUn (r:V->Hp->VK->Prop) (ta:TE):TE:=fun σ H Q=>ta σ H fun x H1=>r x H1 Q
def rI (C:Int->Int->Prop) (g:Int->Int->V):R2:=fun x y H Q=>∃ i j,x=.int i/\y=.int j/\C i j/\Q (g i j) H
def rI0 (g:Int->Int->V):R2:=fun x y H Q=>∃ i j,x=.int i/\y=.int j/\Q (g i j) H
def rU (g:Int->V):V->Hp->VK->Prop:=fun x H Q=>∃ i,x=.int i/\Q (g i) H
section
variable {X:Cx} {a b c:Expr} {ta tb tc:TE} {pos:Pos}
theorem JD (ha:PE X a ta) (hb:PE X b tb) {pins:List (Addr×Obj)} {s:Shared} {σ:St} {H:Hp} {R:V->V->Hp->Prop} (I:Inv X pins σ H s)
  (h:ta σ H fun x H1=>tb σ H1 fun y H2=>R x y H2) {Q:Value->Shared->Prop} {f:Value->Value->Sem Value}
  (hf:∀ v u s2 x y H2,Inv X pins σ H2 s2->RelV x v->RelV y u->R x y H2->wpAny (model X.prog X.w) X.A (f v u) Q X.xe s2) :
  wpAny (model X.prog X.w) X.A (eval a X.env) (fun v s₁=>wpAny (model X.prog X.w) X.A (eval b X.env) (fun u s₂=>wpAny (model X.prog X.w) X.A (f v u) Q X.xe s₂) X.xe s₁) X.xe s:=by
 refine thn (ha pins s σ H _ I h) fun v s1 hh_=>?_
 obtain ⟨x,H1,I1,r1,q1⟩:=hh_
 refine thn (hb pins s1 σ H1 _ I1 q1) fun u s2 hh_=>?_
 obtain ⟨y,H2,I2,r2,q2⟩:=hh_
 exact hf v u s2 x y H2 I2 r1 r2 q2
theorem LN {op:Operator} {r:R2} (ho:OpR X (binaryOp op) r) (ha:PE X a ta) (hb:PE X b tb):PE X (.BinOp a op b pos) (tOp r ta tb):=by
 intro pins s σ H Q I h
 exact wpAny_BinOp (JD ha hb I h fun v u s2 x y H2 I2 rx ry q=>ho pins s2 σ H2 x y v u Q I2 rx ry q)
theorem MN {op:UnaryOp} {r:V->Hp->VK->Prop} (ho:UnR X (unaryOp op) r) (ha:PE X a ta):PE X (.UnaryOp op a pos) (tUn r ta):=by
 intro pins s σ H Q I h
 exact UnaryOp_ (thn (ha pins s σ H _ I h) fun v s1 ⟨x,H1,I1,r1,q1⟩=>ho pins s1 σ H1 x v Q I1 r1 q1)
theorem opI {f:Value->Value->Sem Value} {C:Int->Int->Prop} {g:Int->Int->Int}
  (rule:∀ (i j:Int) (t u:Tok) (s:Shared) (Q:Value->Shared->Prop) (E:Value->Shared->Prop),C i j->Q (.int (g i j) s.toks) {s with toks:=s.toks+1}->wpAny (model X.prog X.w) X.A (f (.int i t) (.int j u)) Q E s) :
  OpR X f (rI C fun i j=>.int (g i j)):=by
 intro pins s σ H x y v u Q I rx ry h
 obtain ⟨i,j,rfl,rfl,hc,q⟩:=h
 obtain ⟨t,rfl⟩:=rx
 obtain ⟨t',rfl⟩:=ry
 exact rule i j t t' s _ _ hc ⟨.int (g i j),H,I.tok _,⟨_,rfl⟩,q⟩
theorem N2 {f:Value->Value->Sem Value} {g:Int->Int->Int}
  (rule:∀ (i j:Int) (t u:Tok) (s:Shared) (Q:Value->Shared->Prop) (E:Value->Shared->Prop),Q (.int (g i j) s.toks) {s with toks:=s.toks+1}->wpAny (model X.prog X.w) X.A (f (.int i t) (.int j u)) Q E s) :
  OpR X f (rI0 fun i j=>.int (g i j)):=by
 intro pins s σ H x y v u Q I rx ry h
 obtain ⟨i,j,rfl,rfl,q⟩:=h
 obtain ⟨t,rfl⟩:=rx
 obtain ⟨t',rfl⟩:=ry
 exact rule i j t t' s _ _ ⟨.int (g i j),H,I.tok _,⟨_,rfl⟩,q⟩
theorem Fw {f:Value->Value->Sem Value} {g:Int->Int->Bool}
  (rule:∀ (i j:Int) (t u:Tok) (s:Shared) (Q:Value->Shared->Prop) (E:Value->Shared->Prop),Q (.bool (g i j)) s->wpAny (model X.prog X.w) X.A (f (.int i t) (.int j u)) Q E s) :
  OpR X f (rI0 fun i j=>.bl (g i j)):=by
 intro pins s σ H x y v u Q I rx ry h
 obtain ⟨i,j,rfl,rfl,q⟩:=h
 obtain ⟨t,rfl⟩:=rx
 obtain ⟨t',rfl⟩:=ry
 exact rule i j t t' s _ _ ⟨.bl (g i j),H,I,rfl,q⟩
def Hq (i j:Int):Prop:=0<=j/\j<=1000000/\i.natAbs<2 ^ 64
def CMul (i j:Int):Prop:=(-(2 ^ 64)<i/\i<2 ^ 64)\/(-(2 ^ 64)<j/\j<2 ^ 64)
theorem CMul.ok {i j:Int} (h:CMul i j):IntMulOk i j:=by
 rcases h with ⟨h1,h2⟩ | ⟨h1,h2⟩
 ·exact .of_left (intBits_le_64 h1 h2)
 ·exact .of_right (intBits_le_64 h1 h2)
theorem op_add:OpR X (binaryOp .Add) (rI0 fun i j=>.int (i+j)):=N2 fun _ _ _ _ _ _ _ q=>add_int q
theorem T5:OpR X (binaryOp .Sub) (rI0 fun i j=>.int (i - j)):=N2 fun _ _ _ _ _ _ _ q=>sub_int q
theorem OP:OpR X (binaryOp .Mult) (rI CMul fun i j=>.int (i * j)):=opI fun _ _ _ _ _ _ _ hc q=>mul_int q hc.ok
theorem Ti:OpR X (binaryOp .Mod) (rI (fun _ j=>0<j) fun i j=>.int (i % j)):=opI fun i j _ _ _ _ _ hc q=>by
 have h1:(0:Int)<j:=hc
 exact mod_int' (by lia) (by rw[Int.fmod_eq_emod_of_nonneg i (by lia)];exact q)
theorem QQ:OpR X (binaryOp .Pow) (rI Hq fun i j=>.int (i ^ j.toNat)):=opI fun _ _ _ _ _ _ _ hc q=>pow_int_small hc.1 hc.2.1 hc.2.2 q
theorem unI {f:Value->Sem Value} {g:Int->Int}
  (rule:∀ (i:Int) (t:Tok) (s:Shared) (Q:Value->Shared->Prop) (E:Value->Shared->Prop),Q (.int (g i) s.toks) {s with toks:=s.toks+1}->wpAny (model X.prog X.w) X.A (f (.int i t)) Q E s) :
  UnR X f (rU fun i=>.int (g i)):=by
 intro pins s σ H x v Q I rx h
 obtain ⟨i,rfl,q⟩:=h
 obtain ⟨t,rfl⟩:=rx
 exact rule i t s _ _ ⟨.int (g i),H,I.tok _,⟨_,rfl⟩,q⟩
theorem Nl:UnR X (unaryOp .USub) (rU fun i=>.int (-i)):=unI fun _ _ _ _ _ q=>neg_int q
end
def JN:V->V->Bool
 | .non,.non=>true | .non,.int _=>true | .int _,.non=>true | .non,.bl _=>true | .bl _,.non=>true | .non,.str _=>true | .str _,.non=>true
 | .int _,.int _=>true | .bl _,.bl _=>true | .str _,.str _=>true | .byt _,.byt _=>true
 | .int _,.str _=>true | .str _,.int _=>true | .bl _,.str _=>true | .str _,.bl _=>true
 | _,_=>false
def rEq:R2:=fun x y H Q=>JN x y=true/\Q (.bl (decide (x=y))) H
def rNe:R2:=fun x y H Q=>JN x y=true/\Q (.bl (!decide (x=y))) H
theorem K9 {i j:Int}:decide (V.int i=V.int j)=(i == j):=by
 rw[Bool.eq_iff_iff]
 simp
theorem N5 {i j:Bool}:decide (V.bl i=V.bl j)=(i == j):=by
 rw[Bool.eq_iff_iff]
 simp
theorem Ke {i j:Str}:decide (V.str i=V.str j)=(i == j):=by
 rw[Bool.eq_iff_iff]
 simp
theorem MU {i j:Array UInt8}:decide (V.byt i=V.byt j)=(i.toList == j.toList):=by
 rw[Bool.eq_iff_iff]
 cases i
 cases j
 simp
section
variable {X:Cx} {a b c:Expr} {ta tb tc:TE} {pos:Pos}
theorem A5 {pins:List (Addr×Obj)} {σ:St} {H:Hp} {s:Shared} {Q:VK} {k k':Bool} (I:Inv X pins σ H s) (q:Q (.bl k) H) (e:k=k'):EP X pins σ Q (.bool k') s:=by
 subst e
 exact ⟨.bl k,H,I,rfl,q⟩
theorem op_eq:OpR X (compareOp .Eq) rEq:=by
 intro pins s σ H x y v u Q I rx ry h
 obtain ⟨hs,q⟩:=h
 cases x with
 | non=>
  cases rx
  cases y with
  | non=>cases ry;exact PySem.EqNone.eq_none_none (A5 I q (by simp))
  | bl j=>cases ry;exact PySem.EqNone.eq_none_bool (A5 I q (by simp))
  | int j=>obtain ⟨t',rfl⟩:=ry;exact PySem.EqNone.eq_none_int (A5 I q (by simp))
  | str j=>obtain ⟨t',rfl⟩:=ry;exact PySem.EqNone.eq_none_str (A5 I q (by simp))
  | _=>exact absurd (show false=true from hs) Bool.false_ne_true
 | bl i=>
  cases rx
  cases y with
  | non=>cases ry;exact PySem.EqNone.eq_bool_none (A5 I q (by simp))
  | bl j=>cases ry;exact eq_bool (A5 I q N5)
  | str j=>obtain ⟨t',rfl⟩:=ry;exact PySem.EqMixed.eq_bool_str (A5 I q (by simp))
  | _=>exact absurd (show false=true from hs) Bool.false_ne_true
 | int i=>
  obtain ⟨t,rfl⟩:=rx
  cases y with
  | non=>cases ry;exact PySem.EqNone.eq_int_none (A5 I q (by simp))
  | int j=>obtain ⟨t',rfl⟩:=ry;exact eq_int (A5 I q K9)
  | str j=>obtain ⟨t',rfl⟩:=ry;exact PySem.EqMixed.eq_int_str (A5 I q (by simp))
  | _=>exact absurd (show false=true from hs) Bool.false_ne_true
 | str i=>
  obtain ⟨t,rfl⟩:=rx
  cases y with
  | non=>cases ry;exact PySem.EqNone.eq_str_none (A5 I q (by simp))
  | bl j=>cases ry;exact PySem.EqMixed.eq_str_bool (A5 I q (by simp))
  | int j=>obtain ⟨t',rfl⟩:=ry;exact PySem.EqMixed.eq_str_int (A5 I q (by simp))
  | str j=>obtain ⟨t',rfl⟩:=ry;exact eq_str (A5 I q Ke)
  | _=>exact absurd (show false=true from hs) Bool.false_ne_true
 | byt i=>
  obtain ⟨t,rfl⟩:=rx
  cases y with
  | byt j=>obtain ⟨t',rfl⟩:=ry;exact PySem.W.eq_bytes (A5 I q MU)
  | _=>exact absurd (show false=true from hs) Bool.false_ne_true
 | _=>cases y<;>exact absurd (show false=true from hs) Bool.false_ne_true
theorem op_ne:OpR X (compareOp .NotEq) rNe:=by
 intro pins s σ H x y v u Q I rx ry h
 obtain ⟨hs,q⟩:=h
 cases x with
 | non=>
  cases rx
  cases y with
  | non=>cases ry;exact PySem.EqNone.ne_none_none (A5 I q (by simp))
  | bl j=>cases ry;exact PySem.EqNone.ne_none_bool (A5 I q (by simp))
  | int j=>obtain ⟨t',rfl⟩:=ry;exact PySem.EqNone.ne_none_int (A5 I q (by simp))
  | str j=>obtain ⟨t',rfl⟩:=ry;exact PySem.EqNone.ne_none_str (A5 I q (by simp))
  | _=>exact absurd (show false=true from hs) Bool.false_ne_true
 | bl i=>
  cases rx
  cases y with
  | non=>cases ry;exact PySem.EqNone.ne_bool_none (A5 I q (by simp))
  | bl j=>cases ry;exact ne_bool (A5 I q (congrArg not N5))
  | str j=>obtain ⟨t',rfl⟩:=ry;exact PySem.EqMixed.ne_bool_str (A5 I q (by simp))
  | _=>exact absurd (show false=true from hs) Bool.false_ne_true
 | int i=>
  obtain ⟨t,rfl⟩:=rx
  cases y with
  | non=>cases ry;exact PySem.EqNone.ne_int_none (A5 I q (by simp))
  | int j=>obtain ⟨t',rfl⟩:=ry;exact ne_int (A5 I q (congrArg not K9))
  | str j=>obtain ⟨t',rfl⟩:=ry;exact PySem.EqMixed.ne_int_str (A5 I q (by simp))
  | _=>exact absurd (show false=true from hs) Bool.false_ne_true
 | str i=>
  obtain ⟨t,rfl⟩:=rx
  cases y with
  | non=>cases ry;exact PySem.EqNone.ne_str_none (A5 I q (by simp))
  | bl j=>cases ry;exact PySem.EqMixed.ne_str_bool (A5 I q (by simp))
  | int j=>obtain ⟨t',rfl⟩:=ry;exact PySem.EqMixed.ne_str_int (A5 I q (by simp))
  | str j=>obtain ⟨t',rfl⟩:=ry;exact ne_str (A5 I q (congrArg not Ke))
  | _=>exact absurd (show false=true from hs) Bool.false_ne_true
 | byt i=>
  obtain ⟨t,rfl⟩:=rx
  cases y with
  | byt j=>obtain ⟨t',rfl⟩:=ry;exact PySem.W.ne_bytes (A5 I q (congrArg not MU))
  | _=>exact absurd (show false=true from hs) Bool.false_ne_true
 | _=>cases y<;>exact absurd (show false=true from hs) Bool.false_ne_true
theorem Uq:OpR X (compareOp .Lt) (rI0 fun i j=>.bl (decide (i<j))):=Fw fun _ _ _ _ _ _ _ q=>lt_int q
theorem op_le:OpR X (compareOp .LtE) (rI0 fun i j=>.bl (decide (i<=j))):=Fw fun _ _ _ _ _ _ _ q=>le_int q
theorem UT:OpR X (compareOp .Gt) (rI0 fun i j=>.bl (decide (j<i))):=Fw fun _ _ _ _ _ _ _ q=>gt_int q
theorem Sh:OpR X (compareOp .GtE) (rI0 fun i j=>.bl (decide (j<=i))):=Fw fun _ _ _ _ _ _ _ q=>ge_int q
theorem Ij:OpR X (compareOp .Is) (fun x y H Q=>y=.non/\Q (.bl (decide (x=.non))) H):=by
 intro pins s σ H x y v u Q I rx ry h
 obtain ⟨rfl,q⟩:=h
 cases ry
 refine is_none_gen (A5 I q ?_)
 cases x<;>first
  | (cases rx;rfl)
  | (obtain ⟨t,rfl⟩:=rx;rfl)
theorem QI:OpR X (compareOp .IsNot) (fun x y H Q=>y=.non/\Q (.bl (!decide (x=.non))) H):=by
 intro pins s σ H x y v u Q I rx ry h
 obtain ⟨rfl,q⟩:=h
 cases ry
 refine isnot_none_gen (A5 I q ?_)
 cases x<;>first
  | (cases rx;rfl)
  | (obtain ⟨t,rfl⟩:=rx;rfl)
theorem Vh:OpR X (compareOp .NotIn) (fun x y H Q=>∃ i j,x=.str i/\y=.str j/\Q (.bl (!(!(Builtin.Str.occurrences j i 0 j.length 1).isEmpty))) H):=by
 intro pins s σ H x y v u Q I rx ry h
 obtain ⟨i,j,rfl,rfl,q⟩:=h
 obtain ⟨t,rfl⟩:=rx
 obtain ⟨t',rfl⟩:=ry
 exact notIn_str (A5 I q rfl)
theorem OpR.or {f:Value->Value->Sem Value} {r r':R2} (h:OpR X f r) (h':OpR X f r'):OpR X f (fun x y H Q=>r x y H Q\/r' x y H Q):=by
 intro pins s σ H x y v u Q I rx ry q
 rcases q with q | q
 ·exact h pins s σ H x y v u Q I rx ry q
 ·exact h' pins s σ H x y v u Q I rx ry q
theorem D8 (b:Expr) {op:CmpOp} (h:op≠.In:=by decide) (h2:op≠.NotIn:=by decide):behindInMarks op b=false:=by
 have e1:(op == CmpOp.In)=false:=by cases op<;>first | rfl | exact absurd rfl h
 have e2:(op == CmpOp.NotIn)=false:=by cases op<;>first | rfl | exact absurd rfl h2
 cases b<;>simp[behindInMarks,e1,e2]
theorem Oz {op:CmpOp} {r:R2} (ho:OpR X (compareOp op) r) (ha:PE X a ta) (hb:PE X b tb) (hm:behindInMarks op b=false):PE X (.Compare a [op] [b] pos) (tOp r ta tb):=by
 intro pins s σ H Q I h
 exact wpAny_Compare1 (JD ha hb I h fun v u s2 x y H2 I2 rx ry q=>ho pins s2 σ H2 x y v u Q I2 rx ry q) hm
def Ls (t:TE):TT:=fun σ H Q=>t σ H fun x H'=>∃ k,x=.bl k/\Q k H'
theorem Lf {op:CmpOp} {r:R2} (ho:OpR X (compareOp op) r) (ha:PE X a ta) (hb:PE X b tb) (hm:behindInMarks op b=false):PT X (.Compare a [op] [b] pos) (Ls (tOp r ta tb)):=by
 intro pins s σ H Q I h
 refine wpAny_isTrue_Compare1 (thn (ha pins s σ H _ I h) fun v s1 ⟨x,H1,I1,r1,q1⟩=>thn (hb pins s1 σ H1 _ I1 q1) fun u s2 ⟨y,H2,I2,r2,q2⟩=>
  thn (ho pins s2 σ H2 x y v u _ I2 r1 r2 q2) fun c s3 ⟨z,H3,I3,r3,k,e,q3⟩=>?_) hm
 subst e
 cases r3
 exact wpAny_truthy_bool ⟨H3,I3,q3⟩
def Ip (r r':R2) (ta tb tc:TE):TE:=fun σ H Q=>ta σ H fun x H1=>tb σ H1 fun y H2=>r x y H2 fun z H3=>∃ k,z=.bl k /\
 (if k=true then tc σ H3 fun w' H4=>r' y w' H4 Q else Q (.bl false) H3)
theorem Uu {op op':CmpOp} {r r':R2} (ho:OpR X (compareOp op) r) (ho':OpR X (compareOp op') r') (ha:PE X a ta) (hb:PE X b tb) (hc:PE X c tc)
  (hm:lastMarks [op,op'] [b,c]=false:=by with_unfolding_all rfl):PE X (.Compare a [op,op'] [b,c] pos) (Ip r r' ta tb tc):=by
 intro pins s σ H Q I h
 refine Compare_chain (thn (ha pins s σ H _ I h) fun v s1 ⟨x,H1,I1,r1,q1⟩=>chain_link (thn (hb pins s1 σ H1 _ I1 q1) fun u s2 ⟨y,H2,I2,r2,q2⟩=>
  thn (ho pins s2 σ H2 x y v u _ I2 r1 r2 q2) fun d s3 ⟨z,H3,I3,r3,k,e,q3⟩=>?_)) hm
 subst e
 cases r3
 refine wpAny_truthy_bool ?_
 cases k with
 | false=>exact ite_ff ⟨.bl false,H3,I3,rfl,q3⟩
 | true=>exact ite_tt (chain_last (thn (hc pins s3 σ H3 _ I3 q3) fun w' s4 ⟨z',H4,I4,r4,q4⟩=>ho' pins s4 σ H4 y z' u w' Q I4 r2 r4 q4))
theorem SU {op op':CmpOp} {r r':R2} (ho:OpR X (compareOp op) r) (ho':OpR X (compareOp op') r') (ha:PE X a ta) (hb:PE X b tb) (hc:PE X c tc)
  (hm:lastMarks [op,op'] [b,c]=false:=by with_unfolding_all rfl):PT X (.Compare a [op,op'] [b,c] pos) (Ls (Ip r r' ta tb tc)):=by
 intro pins s σ H Q I h
 refine isTrue_chain (thn (ha pins s σ H _ I h) fun v s1 ⟨x,H1,I1,r1,q1⟩=>test_link (thn (hb pins s1 σ H1 _ I1 q1) fun u s2 ⟨y,H2,I2,r2,q2⟩=>
  thn (ho pins s2 σ H2 x y v u _ I2 r1 r2 q2) fun d s3 ⟨z,H3,I3,r3,k,e,q3⟩=>?_)) hm
 subst e
 cases r3
 refine wpAny_truthy_bool ?_
 cases k with
 | false=>
  obtain ⟨k',e',q'⟩:=q3
  cases e'
  exact ite_ff ⟨H3,I3,q'⟩
 | true=>
  refine ite_tt (test_last (thn (hc pins s3 σ H3 _ I3 q3) fun w' s4 ⟨z',H4,I4,r4,q4⟩=>thn (ho' pins s4 σ H4 y z' u w' _ I4 r2 r4 q4) fun d' s5 hh_=>?_))
  obtain ⟨z2,H5,I5,r5,k2,e2,q5⟩:=hh_
  subst e2
  cases r5
  exact wpAny_truthy_bool ⟨H5,I5,q5⟩
def Jq (K:PySem.W.Frag) (x:V) (H:Hp) (k:Bool):Prop:=
 match x with
 | .non=>k=false
 | .bl b=>k=b
 | .int i=>k=(i != 0)
 | .str y=>y.length<=sizeLine/\k=((y.length:Int) != 0)
 | .byt y=>y.size<=sizeLine/\k=((y.size:Int) != 0)
 | .ref p=>(∃ xs,SqL K H p xs/\k=!xs.isEmpty)\/(∃ xs,SqT K H p xs/\k=!xs.isEmpty)\/∃ kvs,H p=some (.dK kvs)/\k=!kvs.isEmpty
 | _=>False
theorem OV {κ:Type} {kvs:List (κ×V)} {vs:List (κ×Value)} (r:KV kvs vs):(!vs.isEmpty)=!kvs.isEmpty:=by
 cases r<;>rfl
theorem Ms {xs:List V} {its:List Value} (r:Vals xs its):(!its.toArray.isEmpty)=!xs.isEmpty:=by
 cases r<;>simp
theorem EO:(sizeLine:Nat)<2 ^ 63:=by rw[sizeLine_eq];decide
theorem U3:Q9 X (fun x H Q=>∃ k,Jq X.K x H k/\Q k H):=by
 intro pins s σ H x v Q I rx h
 obtain ⟨k,e,q⟩:=h
 have hl:=EO
 have hs:sizeLine=16777216:=sizeLine_eq
 cases x with
 | non=>
  cases rx
  have e':k=false:=e
  subst e'
  exact truthy_none ⟨H,I,q⟩
 | bl b=>
  cases rx
  have e':k=b:=e
  subst e'
  exact wpAny_truthy_bool ⟨H,I,q⟩
 | int i=>
  obtain ⟨t,rfl⟩:=rx
  have e':k=(i != 0):=e
  subst e'
  exact PySem.P.truthy_int ⟨H,I,q⟩
 | str y=>
  obtain ⟨t,rfl⟩:=rx
  obtain ⟨hy,e'⟩:y.length<=sizeLine/\k=((y.length:Int) != 0):=e
  subst e'
  exact PySem.P.truthy_str (by lia) ⟨H,I.tok _,q⟩
 | byt y=>
  obtain ⟨t,rfl⟩:=rx
  obtain ⟨hy,e'⟩:y.size<=sizeLine/\k=((y.size:Int) != 0):=e
  subst e'
  exact PySem.W.truthy_bytes (by lia) ⟨H,I.tok _,q⟩
 | ref p=>
  cases rx
  have e':(∃ xs,SqL X.K H p xs/\k=!xs.isEmpty)\/(∃ xs,SqT X.K H p xs/\k=!xs.isEmpty)\/∃ kvs,H p=some (.dK kvs)/\k=!kvs.isEmpty:=e
  rcases e' with ⟨xs,hx,e'⟩ | ⟨xs,hx,e'⟩ | ⟨kvs,hx,e'⟩
  ·subst e'
   obtain ⟨its,r,pl,hz⟩:=I.list hx
   have hlen:=r.length
   exact wpAny_truthy_list pl.isList (by simp only[List.size_toArray];lia) ⟨H,I.tok _,by rw[Ms r];exact q⟩
  ·subst e'
   obtain ⟨its,r,pl,hz⟩:=I.tuple hx
   have hlen:=r.length
   exact truthy_tuple pl (by simp only[List.size_toArray];lia) ⟨H,I.tok _,by rw[Ms r];exact q⟩
  ·subst e'
   obtain ⟨hz,hS,vs,r,m⟩:kvs.length<=sizeLine/\(p == sysModules)=false/\∃ vs,KV kvs vs/\s.heap.DictOf (Gu X.prog X.w) p vs:=I.hok p _ hx
   have hlen:kvs.length=vs.length:=Paired.length r
   exact wpAny_truthy_dict hS m (by lia) ⟨H,I.tok _,by rw[OV r];exact q⟩
 | _=>exact (show False from e).elim
theorem US (ha:PE X a ta) (he:∀ whole,isTrue a X.env whole=(do let v <-whole;standAt a.pos;holding [v] (truthy v))) :
  PT X a (fun σ H Q=>ta σ H fun x H'=>∃ k,Jq X.K x H' k/\Q k H'):=by
 intro pins s σ H Q I h
 exact isTrue_plain (thn (ha pins s σ H _ I h) fun v s1 ⟨x,H1,I1,r1,q1⟩=>U3 pins s1 σ H1 x v Q I1 r1 q1) (he _)
theorem op_add_str:OpR X (binaryOp .Add) (fun x y H Q=>∃ i j,x=.str i/\y=.str j/\i.length+j.length<=sizeLine/\Q (.str (i++j)) H):=by
 intro pins s σ H x y v u Q I rx ry h
 obtain ⟨i,j,rfl,rfl,hz,q⟩:=h
 obtain ⟨t,rfl⟩:=rx
 obtain ⟨t',rfl⟩:=ry
 exact add_str (fun t' tk=>⟨.str (i++j),H,I.tok _,⟨_,rfl⟩,q⟩) hz
theorem vals1 {x:V} {us:List Value} (r:Vals [x] us):∃ u,us=[u]/\RelV x u:=by
 cases r with
 | cons r1 r2=>cases r2;exact ⟨_,rfl,r1⟩
theorem vals2 {x y:V} {us:List Value} (r:Vals [x,y] us):∃ u w',us=[u,w']/\RelV x u/\RelV y w':=by
 cases r with
 | cons r1 r2=>
  cases r2 with
  | cons r3 r4=>cases r4;exact ⟨_,_,rfl,r1,r3⟩
theorem PM (hc:X.calm=true):Bq X (.builtin "max") (fun xs H Q=>∃ i j,xs=[.int i,.int j]/\Q (.int (if j > i then j else i)) H):=by
 intro pins s σ H xs us Q I r h
 obtain ⟨i,j,rfl,q⟩:=h
 obtain ⟨u,w',rfl,⟨t,rfl⟩,⟨t',rfl⟩⟩:=vals2 r
 refine max_two_ints (I.ok.hd hc) fun h' tk k=>⟨_,H,I.kept k,?_,q⟩
 by_cases hj:j > i
 ·rw[if_pos hj,if_pos hj];exact ⟨_,rfl⟩
 ·rw[if_neg hj,if_neg hj];exact ⟨_,rfl⟩
theorem QG (hc:X.calm=true):Bq X (.builtin "min") (fun xs H Q=>∃ i j,xs=[.int i,.int j]/\Q (.int (if j<i then j else i)) H):=by
 intro pins s σ H xs us Q I r h
 obtain ⟨i,j,rfl,q⟩:=h
 obtain ⟨u,w',rfl,⟨t,rfl⟩,⟨t',rfl⟩⟩:=vals2 r
 refine min_two_ints (I.ok.hd hc) fun h' tk k=>⟨_,H,I.kept k,?_,q⟩
 by_cases hj:j<i
 ·rw[if_pos hj,if_pos hj];exact ⟨_,rfl⟩
 ·rw[if_neg hj,if_neg hj];exact ⟨_,rfl⟩
theorem ML:Bq X (.type "int") (fun xs H Q=>(∃ i,xs=[.int i]/\Q (.int i) H)\/∃ k,xs=[.bl k]/\Q (.int (if k then 1 else 0)) H):=by
 intro pins s σ H xs us Q I r h
 rcases h with ⟨i,rfl,q⟩ | ⟨k,rfl,q⟩
 ·obtain ⟨u,rfl,t,rfl⟩:=vals1 r
  exact call_int_int ⟨.int i,H,I,⟨_,rfl⟩,q⟩
 ·obtain ⟨u,rfl,r1⟩:=vals1 r
  cases r1
  exact call_int_bool ⟨.int (if k then 1 else 0),H,I.tok _,⟨_,rfl⟩,q⟩
theorem QC:Bq X (.type "str") (fun xs H Q=>∃ i,xs=[.int i]/\i.natAbs.log2<1920/\Q (.str (toString i)) H):=by
 intro pins s σ H xs us Q I r h
 obtain ⟨i,rfl,hz,q⟩:=h
 obtain ⟨u,rfl,t,rfl⟩:=vals1 r
 exact PySem.P.str_of_int hz ⟨.str _,H,I.tok _,⟨_,rfl⟩,q⟩
def NJ (K:PySem.W.Frag) (x:V) (H:Hp) (n:Nat):Prop:=
 match x with
 | .str y=>y.length<=sizeLine/\n=y.length
 | .byt y=>y.size<=sizeLine/\n=y.size
 | .ref p=>(∃ xs,SqL K H p xs/\n=xs.length)\/∃ xs,SqT K H p xs/\n=xs.length
 | _=>False
theorem P3:Bq X (.builtin "len") (fun xs H Q=>∃ x n,xs=[x]/\NJ X.K x H n/\Q (.int n) H):=by
 intro pins s σ H xs us Q I r h
 obtain ⟨x,n,rfl,e,q⟩:=h
 obtain ⟨u,rfl,rx⟩:=vals1 r
 have hl:=EO
 have hs:sizeLine=16777216:=sizeLine_eq
 cases x with
 | str y=>
  obtain ⟨t,rfl⟩:=rx
  obtain ⟨hy,e'⟩:y.length<=sizeLine/\n=y.length:=e
  subst e'
  exact len_str (by lia) ⟨.int _,H,I.tok _,⟨_,rfl⟩,q⟩
 | byt y=>
  obtain ⟨t,rfl⟩:=rx
  obtain ⟨hy,e'⟩:y.size<=sizeLine/\n=y.size:=e
  subst e'
  exact PySem.W.len_bytes (by lia) ⟨.int _,H,I.tok _,⟨_,rfl⟩,q⟩
 | ref p=>
  cases rx
  have e':(∃ xs,SqL X.K H p xs/\n=xs.length)\/∃ xs,SqT X.K H p xs/\n=xs.length:=e
  rcases e' with ⟨xs,hx,e'⟩ | ⟨xs,hx,e'⟩
  ·subst e'
   obtain ⟨its,r',pl,hz⟩:=I.list hx
   have hlen:=r'.length
   exact Calls.call_len_list pl.isList (by simp only[List.size_toArray];lia) ⟨.int xs.length,H,I.tok _,⟨_,by simp only[List.size_toArray];rw[hlen]⟩,q⟩
  ·subst e'
   obtain ⟨its,r',pl,hz⟩:=I.tuple hx
   have hlen:=r'.length
   exact len_tuple pl (by simp only[List.size_toArray];lia) ⟨.int xs.length,H,I.tok _,⟨_,by simp only[List.size_toArray];rw[hlen]⟩,q⟩
 | _=>exact (show False from e).elim
end
structure ObjM (h:Heap) (x dx C:Addr) (mA:Str->Option Value):Prop where
 obj:h.get? x=some (PySem.W.instObj C dx)
 ns:h.Ns1 dx mA
 ne:dx≠x
theorem Rg {h:Heap} {dx:Addr} {mA:Str->Option Value} (n:h.Ns1 dx mA):∃ od,h.get? dx=some od/\∀ name,PySem.W.lookIn name od=some (mA name):=by
 obtain ⟨o,es,ep,ho,hd,hk,_,hm⟩:=n
 refine ⟨o,ho,fun name=>?_⟩
 have e:=hm name
 unfold nsFind findBy at e
 rw[<-Array.find?_toList] at e
 unfold PySem.W.lookIn
 rw[hd]
 dsimp only
 split
 ·rename_i y q
  rw[q] at e
  exact congrArg some e
 ·rename_i q
  rw[q] at e
  have a:es.toList.any (·.refKey)=false:=by
   rw[List.any_eq_false]
   intro y hy
   obtain ⟨z,t,hkey⟩:=hk y (Array.mem_toList_iff.mp hy)
   simp[DictEntry.refKey,hkey]
  have a':¬es.toList.any (·.refKey)=true:=by rw[a];exact Bool.false_ne_true
  rw[if_neg a']
  exact congrArg some e
theorem ObjM.look {h:Heap} {x dx C:Addr} {mA:Str->Option Value} (I:ObjM h x dx C mA):∃ od,PySem.W.InstAt h x (PySem.W.instObj C dx) C (some od)/\∀ name,PySem.W.lookIn name od=some (mA name):=
 let ⟨od,ho,hl⟩:=Rg I.ns
 ⟨od,⟨I.obj,rfl,rfl,ho⟩,hl⟩
section
variable {prog:Program} {w:World} {A:Around} {E:Value->Shared->Prop} {s:Shared} {K:PySem.W.Frag} {x dx C f:Addr} {mA:Str->Option Value} {name:Str} {v:Value}
end
section
variable {P:Program} {w:World} {H H':Hp} {h h':Heap} {a C dx:Addr} {fs fs':List (Str×V)}
theorem OZ (hok:HOk P w H h) (e:H a=some (.ins C dx fs)):∃ mA,ObjM h a dx C mA/\(∀ f,JU (fs.lookup f) (mA f))/\PySem.Within mA (fs.map (·.1))/\fs.length<=1000/\H dx=some (.own a):=by
 obtain ⟨d,z,ne,ob,mA,n,r,q⟩:=(show ObjOk P w H h a (.ins C dx fs) from hok a _ e)
 exact ⟨mA,⟨ob,n,ne⟩,r,q,z,d⟩
end
structure Cls (K:PySem.W.Frag) (C:Addr):Prop where
 pg:PySem.W.plainGet K C Str.empty=true
 hd:PySem.W.hasDictIn K C=true
 po:PySem.W.plainOver K C=true
 sa:PySem.W.findIn K (.ref C) "__setattr__"=some (some (.builtin "object.__setattr__"))
theorem Cls.get {K:PySem.W.Frag} {C:Addr} (c:Cls K C) (f:Str):PySem.W.plainGet K C f=true:=c.pg
structure Con (K:PySem.W.Frag) (C:Addr) (f:Str) (v:V) (u:Value):Prop where
 at_:PySem.W.findIn K (.ref C) f=some (some u)
 rel:RelV v u
 get:PySem.W.specialIn K u "__get__"=some none
 cp:PySem.W.copiedNames.contains f=false
structure Meth (K:PySem.W.Frag) (C:Addr) (m:Str) (f:Addr):Prop where
 at_:PySem.W.findIn K (.ref C) m=some (some (.ref f))
 fn:PySem.W.isFn K (.ref f)=true
 kp:PySem.W.keepIn K (.ref f)=true
section
variable {X:Cx} {pins:List (Addr×Obj)} {σ:St} {H:Hp} {s:Shared} {a C dx:Addr} {fs:List (Str×V)} {f:Str} {v:V} {A:Around} {E:Value->Shared->Prop}
end
section
variable {X:Cx} {o e value:Expr} {f:Str} {pos pos' tpos:Pos} {ta tv:TE}
end
section
variable {X:Cx} {pins:List (Addr×Obj)} {σ:St} {H:Hp} {s:Shared} {A:Around} {E:Value->Shared->Prop} {Q:Value->Shared->Prop} {c:Value} {b:Bool}
inductive TyOf (K:PySem.W.Frag) (H:Hp):V->Value->Prop where
 | non:TyOf K H .non (.type "NoneType")
 | bl (x:Bool):TyOf K H (.bl x) (.type "bool")
 | int (i:Int):TyOf K H (.int i) (.type "int")
 | str (x:Str):TyOf K H (.str x) (.type "str")
 | flt (x:UInt64):TyOf K H (.flt x) (.type "float")
 | lst {a:Addr} {xs:List V} (e:H a=some (.lst xs)):TyOf K H (.ref a) (.type "list")
 | frz {a:Addr} {o:Obj} {xs:List V} (e:H a=some (.frz o (.lst xs))):TyOf K H (.ref a) (.type "list")
 | tup {a:Addr} {xs:List V} (e:H a=some (.tup xs)):TyOf K H (.ref a) (.type "tuple")
 | dK {a:Addr} {kvs:List (Key×V)} (e:H a=some (.dK kvs)):TyOf K H (.ref a) (.type "dict")
 | dT {a:Addr} {kvs:List (List Key×V)} (e:H a=some (.dT kvs)):TyOf K H (.ref a) (.type "dict")
 | ins {a C dx:Addr} {fs:List (Str×V)} (e:H a=some (.ins C dx fs)) (cl:Cls K C) (ha:PySem.W.findIn K (.ref C) "__class__"=some (some (.builtin "object.__class__")))
   (hn:PySem.W.specialIn K (.builtin "object.__class__") "__get__"=some (some (.builtin "getset_descriptor.__get__"))) (htk:PySem.W.takesIn K (.builtin "object.__class__")=some true)
   (hm:PySem.W.mroIn K C (.type "object")=some true):TyOf K H (.ref a) (.ref C)
theorem RM {x:V} {u t:Value} (I:Inv X pins σ H s) (rx:RelV x u) (ty:TyOf X.K H x t) (e:PySem.W.kitOne X.K t c=some b) (h:∀ tk,Q (.bool b) {s with toks:=tk}) :
  wpAny (model X.prog X.w) A (call (.builtin "isinstance") [u,c]) Q E s:=by
 cases ty with
 | non=>cases (show u=Value.none from rx);exact PySem.W.kia_one PySem.W.kitx_none I.kIn True.intro e (fun z=>nomatch z) h
 | bl y=>cases (show u=Value.bool y from rx);exact PySem.W.kia_one PySem.W.kitx_bool I.kIn True.intro e (fun z=>nomatch z) h
 | int i=>obtain ⟨t,q⟩:=(show ∃ t,u=Value.int i t from rx);cases q;exact PySem.W.kia_one PySem.W.kitx_int I.kIn True.intro e (fun z=>nomatch z) h
 | str y=>obtain ⟨t,q⟩:=(show ∃ t,u=Value.str y t from rx);cases q;exact PySem.W.kia_one PySem.W.kitx_str I.kIn True.intro e (fun z=>nomatch z) h
 | flt y=>obtain ⟨t,q⟩:=(show ∃ t,u=Value.float y t from rx);cases q;exact PySem.W.kia_one PySem.W.kitx_float I.kIn True.intro e (fun z=>nomatch z) h
 | @lst a xs ea=>
  cases (show u=Value.ref a from rx)
  obtain ⟨_,_,n,_,h1⟩:=(show ObjOk X.prog X.w H s.heap a (.lst xs) from I.hok a _ ea)
  exact PySem.W.kia_one PySem.W.kitx_list I.kIn ⟨_,h1,rfl⟩ e (fun z=>nomatch z) h
 | @frz a ob xs ea=>
  cases (show u=Value.ref a from rx)
  obtain ⟨_,_,_,n,_,h1⟩:=(show ObjOk X.prog X.w H s.heap a (.frz ob (.lst xs)) from I.hok a _ ea)
  exact PySem.W.kia_one PySem.W.kitx_list I.kIn ⟨_,h1,rfl⟩ e (fun z=>nomatch z) h
 | @tup a xs ea=>
  cases (show u=Value.ref a from rx)
  obtain ⟨_,_,_,p⟩:=(show ObjOk X.prog X.w H s.heap a (.tup xs) from I.hok a _ ea)
  obtain ⟨o,h1,h2,_⟩:=p
  exact PySem.W.kia_one PySem.W.kitx_tuple I.kIn ⟨o,h1,h2⟩ e (fun z=>nomatch z) h
 | @dK a kvs ea=>
  cases (show u=Value.ref a from rx)
  obtain ⟨_,_,vs,_,p⟩:=(show ObjOk X.prog X.w H s.heap a (.dK kvs) from I.hok a _ ea)
  obtain ⟨o,es,ep,h1,h2,_⟩:=p
  exact PySem.W.kia_one PySem.W.kitx_dict I.kIn ⟨o,h1,h2.1⟩ e (fun z=>nomatch z) h
 | @dT a kvs ea=>
  cases (show u=Value.ref a from rx)
  obtain ⟨_,_,xs,_,o,es,ep,h1,h2,_⟩:=(show ObjOk X.prog X.w H s.heap a (.dT kvs) from I.hok a _ ea)
  exact PySem.W.kia_one PySem.W.kitx_dict I.kIn ⟨o,h1,h2.1⟩ e (fun z=>nomatch z) h
 | @ins a C dx fs ea cl ha hn htk hm=>
  cases (show u=Value.ref a from rx)
  obtain ⟨mA,O,_⟩:=OZ I.hok ea
  obtain ⟨od,J,_⟩:=O.look
  exact PySem.W.kia_one (PySem.W.kitx_own (cl.get _) cl.hd ha hn htk hm) I.kIn J e (fun z=>nomatch z) h
end
structure Room (k:Nat) (A:Around):Prop where
 hd:A.handled=none
 dp:A.depth+3 * k+5<recursionLimit
 un:A.units+16 * k+200<cLine
 gd:A.guards=some []
theorem Room.mono {j k:Nat} {A:Around} (r:Room k A) (h:j<=k):Room j A:=⟨r.hd,by have:=r.dp;lia,by have:=r.un;lia,r.gd⟩
theorem Room.deeper {k:Nat} {A:Around} (r:Room (k+1) A) (env:Env):Room k (A.deeper env):=
 ⟨r.hd,by have:=r.dp;show A.depth+1+3 * k+5<_;lia,by have:=r.un;show A.units+3+16 * k+200<_;lia,r.gd⟩
theorem Room.depth {k:Nat} {A:Around} (r:Room k A):A.depth<recursionLimit:=by have:=r.dp;lia
theorem Room.units {k:Nat} {A:Around} (r:Room k A):A.units+64<cLine:=by have:=r.un;lia
def Lp:TA:=fun _ H Q=>Q [] H
def NC (ta:TE) (tr:TA):TA:=fun σ H Q=>ta σ H fun x H1=>tr σ H1 fun xs H2=>Q (x::xs) H2
section
variable {X:Cx} {e:Expr} {es:List Expr} {te:TE} {t:TA} {pos:Pos}
theorem B4:PA X [] Lp:=fun _ _ _ _ H Q I h=>Calls.spliced_nil ⟨[],H,I,.nil,h⟩
theorem BP (ha:PE X e te) (hr:PA X es t) (hs:starEach (e::es) X.env=(false,eval e X.env)::starEach es X.env:=by rfl):PA X (e::es) (NC te t):=by
 intro pos pins s σ H Q I h
 rw[hs]
 show wpAny _ _ (spliced ((false,eval e X.env)::backTo pos (starEach es X.env))) _ _ s
 refine Calls.spliced_cons (thn (ha pins s σ H _ I h) fun u s1 hh_=>?_)
 obtain ⟨x,H1,I1,r1,q1⟩:=hh_
 exact thn (hr pos pins s1 σ H1 _ I1 q1) fun us s2 ⟨xs,H2,I2,r2,q2⟩=>⟨x::xs,H2,I2,.cons r1 r2,q2⟩
def P9 (t:TA):TE:=fun σ H Q=>t σ H fun xs H1=>xs.length<=sizeLine/\∀ p,H1 p=none->Q (.ref p) (upd H1 p (.tup xs))
def Sz (t:TA):TE:=fun σ H Q=>t σ H fun xs H1=>xs.length<=sizeLine/\∀ p,H1 p=none->Q (.ref p) (upd H1 p (.lst xs))
theorem FG {x1} (h:PA X es t):PE X (.Tuple es x1 pos) (P9 t):=by
 intro pins s σ H Q I hq
 refine wpAny_Tuple_spliced (thn (h pos pins s σ H _ I hq) fun us s1 ⟨xs,H1,I1,r,z,q⟩=>⟨by rw[<-r.length];exact z,?_⟩)
 have hf:H1 s1.heap.objs.size=none:=I1.hok.fresh (Nat.le_refl _)
 refine ⟨.ref s1.heap.objs.size,upd H1 s1.heap.objs.size (.tup xs),I1.laid (t':=s1.toks) (fun b u e=>Heap.get?_push_of_some _ e) (Nat.le_refl _) ?_,rfl,q _ hf⟩
 exact ⟨z,us,r,⟨_,Heap.get?_push_size _ rfl,rfl,_,rfl⟩⟩
theorem MB (h:PA X es t):PE X (.List es pos) (Sz t):=by
 intro pins s σ H Q I hq
 refine wpAny_List_spliced (thn (h pos pins s σ H _ I hq) fun us s1 ⟨xs,H1,I1,r,z,q⟩=>⟨by rw[<-r.length];exact z,?_⟩)
 have hf:H1 s1.heap.objs.size=none:=I1.hok.fresh (Nat.le_refl _)
 refine ⟨.ref s1.heap.objs.size,upd H1 s1.heap.objs.size (.lst xs),I1.laid (t':=s1.toks) (fun b u e=>Heap.get?_push_of_some _ e) (Nat.le_refl _) ?_,rfl,q _ hf⟩
 exact ⟨z,us,0,r,Heap.get?_push_size _ rfl⟩
end
abbrev Sp:=List V->Hp->VK->XK->Prop
abbrev CXT:=List Env->Hp->Shared->XK->Value->Shared->Prop
structure Env0 (P:Program) (w:World) (K:PySem.W.Frag) (mg:Str->Option Value) (base:Heap) (A:Around) (outer:List Env) (s:Shared) (H:Hp):Prop where
 frames:A.frames=some outer
 mod:Mod K mg base
 bs:∀ b o,base.get? b=some o->s.heap.get? b=some o/\H b=none
 bsz:base.objs.size<=s.heap.objs.size
 funs:s.heap.FunFrames base outer
 frf:∀ b∈frs outer,H b=none
 hok:HOk P w H s.heap
 bare:AllBare s.gens
def CE (outer:List Env) (P:Program) (w:World) (H:Hp) (s:Shared) (Q:VK) (u:Value) (s':Shared):Prop:=
 ∃ v H',s'.os=s.os/\AllBare s'.gens/\Un (frs outer) [] H H' s.heap s'.heap/\HOk P w H' s'.heap/\RelV v u/\Q v H'
def CR (CX:CXT) (outer:List Env) (P:Program) (w:World) (H:Hp) (s:Shared) (Q:VK) (E:XK) (r:Result) (s':Shared):Prop:=
 match r with
 | .ok (.ret u)=>CE outer P w H s Q u s'
 | .ok _=>False
 | .error e=>CX outer H s E e s'
structure FnOk (P:Program) (w:World) (K:PySem.W.Frag) (mg:Str->Option Value) (base:Heap) (CX:CXT) (k:Nat) (f:Addr) (fd:FuncData) (ps:List Str) (sp:Sp):Prop where
 len:∀ vs H Q E,sp vs H Q E->vs.length=ps.length
 run:∀ (A:Around) (outer:List Env) (s:Shared) (H:Hp) (args:Args) (us:List Value) (vs:List V) (Q:VK) (E:XK),Room k A->Env0 P w K mg base A outer s H->BindsTo s fd args (ps.zip us)->Vals vs us->sp vs H Q E ->
  codeAny (model P w) A (.call (.ref f) args) (CR CX outer P w H s Q E) s
theorem FnOk.imp {P:Program} {w:World} {K:PySem.W.Frag} {mg:Str->Option Value} {base:Heap} {CX:CXT} {k:Nat} {f:Addr} {fd:FuncData} {ps:List Str} {sp sp':Sp} (F:FnOk P w K mg base CX k f fd ps sp)
  (h:∀ vs H Q E,sp' vs H Q E->sp vs H Q E):FnOk P w K mg base CX k f fd ps sp':=
 ⟨fun vs H Q E q=>F.len vs H Q E (h _ _ _ _ q),fun A outer s H args us vs Q E hr he hb hv hs=>F.run A outer s H args us vs Q E hr he hb hv (h _ _ _ _ hs)⟩
section
variable {X:Cx} {pins:List (Addr×Obj)} {σ:St} {H:Hp} {s s':Shared}
theorem Inv.env0 (I:Inv X pins σ H s):Env0 X.prog X.w X.K X.mg X.base X.A X.stack s H:=
 ⟨I.ok.frames,I.ok.mod,I.bs,Nat.le_trans I.ok.bsz I.sz,I.stack,I.stkFree,I.hok,I.bare⟩
theorem Inv.after {Q:VK} {u:Value} (I:Inv X pins σ H s) (h:CE X.stack X.prog X.w H s Q u s'):EP X pins σ Q u s':=by
 obtain ⟨v,H',os,bare,un,hok,r,q⟩:=h
 obtain ⟨hh,g,d,t,os'⟩:=s'
 obtain rfl:os'=s.os:=os
 exact ⟨v,H',I.call (h':=hh) (g':=g) (d':=d) (t':=t) (ch:=[]) un hok bare (fun b z=>absurd z (by simp)),r,q⟩
end
def Oa (sp:Sp) (dvs:List V) (E:XK) (t:TA):TE:=fun σ H Q=>t σ H fun vs H1=>sp (vs++dvs) H1 Q E
def Binds (K:PySem.W.Frag) (fd:FuncData) (ps:List Str) (ds:List Value):Prop:=
 ∀ (s:Shared) (us:List Value),K.In s.heap->(us++ds).length=ps.length->BindsTo s fd ⟨us,[]⟩ (ps.zip (us++ds))
theorem Binds.all {K:PySem.W.Frag} {fd:FuncData} {ps:List Str} (h:∀ us:List Value,us.length=ps.length->bindArgs fd ⟨us,[]⟩=pure (ps.zip us)):Binds K fd ps []:=fun s us _ hl=>by
 rw[List.append_nil] at hl ⊢
 exact .of_eq (h us hl)
def HN (CX:CXT) (X:Cx) (E:XK):Prop:=∀ (pins:List (Addr×Obj)) (σ:St) (H:Hp) (s:Shared) (e:Value) (s':Shared),Inv X pins σ H s->CX X.stack H s E e s'->X.xe e s'
section
variable {X:Cx} {CX:CXT} {k:Nat} {f C:Addr} {fd:FuncData} {ps:List Str} {sp:Sp} {dvs:List V} {ds:List Value} {E:XK} {x m:Str} {p pos apos:Pos} {e o:Expr} {es:List Expr} {ta:TE} {t:TA}
theorem Ow {pins:List (Addr×Obj)} {σ:St} {H:Hp} {s:Shared} {Q:VK} {us:List Value} {vs:List V} (F:FnOk X.prog X.w X.K X.mg X.base CX k f fd ps sp) (hr:Room k X.A) (hb:Binds X.K fd ps ds) (hd:Vals dvs ds) (hx:HN CX X E)
  (I:Inv X pins σ H s) (r:Vals vs us) (h:sp (vs++dvs) H Q E):wpAny (model X.prog X.w) X.A (call (.ref f) us) (EP X pins σ Q) X.xe s:=by
 have r2:Vals (vs++dvs) (us++ds):=r.append hd
 have hl:(us++ds).length=ps.length:=by rw[<-r2.length];exact F.len _ _ _ _ h
 refine wpAny_call (codeAny_mono (F.run X.A X.stack s H ⟨us,[]⟩ (us++ds) (vs++dvs) Q E hr I.env0 (hb s us I.kIn hl) r2 h) fun r s' hq=>?_)
 cases r with
 | error e=>exact hx pins σ H s e s' I hq
 | ok fl=>
  cases fl with
  | ret u=>exact I.after hq
  | next=>exact False.elim hq
  | brk=>exact False.elim hq
  | cont=>exact False.elim hq
theorem HQ (F:FnOk X.prog X.w X.K X.mg X.base CX k f fd ps sp) (hr:Room k X.A) (hg:Gl X x) (hm:X.mg x=some (.ref f)) (hk:PySem.W.keepIn X.K (.ref f)=true) (hb:Binds X.K fd ps ds) (hd:Vals dvs ds) (hx:HN CX X E)
  (ha:PA X (e::es) t) (hdb:(x == ("__debug__":Str))=false:=by decide) (he:starEach (e::es) X.env=(false,eval e X.env)::starEach es X.env:=by rfl) (hpl:(backTo pos (starEach es X.env)).any (·.1)=false:=by rfl) :
  PE X (.Call (.Name x p) (e::es) [] pos) (Oa sp dvs E t):=by
 intro pins s σ H Q I h
 refine wpAny_Call_Name_kw (HL I hg hm ?_ hdb)
 refine PySem.W.callWith_K (h₀:=X.base) I.ok.mod.kin hk (thn (ha pos pins s σ H _ I h) fun us s1 ⟨vs,H1,I1,r,q⟩=>⟨I1.kIn,?_⟩) he hpl
 exact Ow F hr hb hd hx I1 r q
structure Mk (K:PySem.W.Frag) (C f:Addr):Prop where
 makes:PySem.W.makesIn K C=true
 init:PySem.W.findIn K (.ref C) "__init__"=some (some (.ref f))
 fn:PySem.W.isFn K (.ref f)=true
 kp:PySem.W.keepIn K (.ref C)=true
end
section
variable {X:Cx} {CX:CXT} {k:Nat} {f C:Addr} {fd:FuncData} {ps ks:List Str} {sp:Sp} {E:XK} {x m:Str} {p pos apos kpos:Pos} {e o:Expr} {es:List Expr} {kws:List Keyword} {te ta:TE} {t tk:TA} {nm:Option Str}
structure KBinds (K:PySem.W.Frag) (fd:FuncData) (ps ks:List Str) (g:List Value->List Value->List Value) (gV:List V->List V->List V):Prop where
 to:∀ (s:Shared) (us ws:List Value),K.In s.heap->(g us ws).length=ps.length->BindsTo s fd ⟨us,ks.zip ws⟩ (ps.zip (g us ws))
 rel:∀ {vs:List V} {us:List Value} {zs:List V} {ws:List Value},Vals vs us->Vals zs ws->Vals (gV vs zs) (g us ws)
variable {g:List Value->List Value->List Value} {gV:List V->List V->List V}
end
structure FnScope (N P:List Str) (sc:Scope):Prop where
 kind:sc.kind=.function
 co:sc.isCoroutine=false
 gen:sc.isGenerator=false
 nd:N.Nodup
 pre:N.take P.length=P
 par:∀ x∈P,sc.names.lookup x=some .local\/sc.names.lookup x=some .cell
 nofree:∀ y∈sc.names,y.2≠.free
theorem Ly {kindOf:Str->Option NameKind} {x:Str}:∀ {binds:List (Str×Value)} {m:Str->Option Value},(∀ v,(x,v)∉binds)->bindL kindOf binds m x=m x
 | [],_,_=>rfl
 | (n,v)::r,m,h=>by
  unfold bindL
  rw[Ly fun w hw=>h w (List.mem_cons_of_mem _ hw)]
  split
  ·have:x≠n:=by rintro rfl;exact h v List.mem_cons_self
   simp[this]
  ·rfl
theorem NB {kindOf:Str->Option NameKind} {x:Str}:∀ {binds:List (Str×Value)} {m:Str->Option Value},(∀ v,(x,v)∉binds)->bindC kindOf binds m x=m x
 | [],_,_=>rfl
 | (n,v)::r,m,h=>by
  unfold bindC
  rw[NB fun w hw=>h w (List.mem_cons_of_mem _ hw)]
  split
  ·rfl
  ·have:x≠n:=by rintro rfl;exact h v List.mem_cons_self
   simp[this]
theorem Mx {kindOf:Str->Option NameKind} {x:Str} {v:Value}:∀ {P:List Str} {vs:List Value} {i:Nat} {m:Str->Option Value},P.Nodup->P[i]?=some x->vs[i]?=some v->kindOf x=some .local ->
  bindL kindOf (P.zip vs) m x=some v
 | [],_,_,_,_,h,_,_=>by simp at h
 | _::_,[],_,_,_,_,h,_=>by simp at h
 | p::P,w::vs,0,m,nd,h1,h2,hk=>by
  simp at h1 h2;subst h1;subst h2
  show bindL kindOf ((p,w)::P.zip vs) m p=_
  unfold bindL
  rw[Ly fun v hv=>(List.nodup_cons.mp nd).1 (List.of_mem_zip hv).1,if_pos hk]
  simp
 | p::P,w::vs,i+1,m,nd,h1,h2,hk=>by
  show bindL kindOf ((p,w)::P.zip vs) m x=_
  unfold bindL
  exact Mx (i:=i) (List.nodup_cons.mp nd).2 (by simpa using h1) (by simpa using h2) hk
theorem Kg {kindOf:Str->Option NameKind} {x:Str} {v:Value}:∀ {P:List Str} {vs:List Value} {i:Nat} {m:Str->Option Value},P.Nodup->P[i]?=some x->vs[i]?=some v->kindOf x≠some .local ->
  bindC kindOf (P.zip vs) m x=some v
 | [],_,_,_,_,h,_,_=>by simp at h
 | _::_,[],_,_,_,_,h,_=>by simp at h
 | p::P,w::vs,0,m,nd,h1,h2,hk=>by
  simp at h1 h2;subst h1;subst h2
  show bindC kindOf ((p,w)::P.zip vs) m p=_
  unfold bindC
  rw[NB fun v hv=>(List.nodup_cons.mp nd).1 (List.of_mem_zip hv).1,if_neg hk]
  simp
 | p::P,w::vs,i+1,m,nd,h1,h2,hk=>by
  show bindC kindOf ((p,w)::P.zip vs) m x=_
  unfold bindC
  exact Kg (i:=i) (List.nodup_cons.mp nd).2 (by simpa using h1) (by simpa using h2) hk
def start (N:List Str) (vs:List V):St:=vs.map some++List.replicate (N.length - vs.length) none
def C4 (CX:CXT) (P:Program) (w:World) (K:PySem.W.Frag) (mg:Str->Option Value) (base:Heap) (N:List Str) (qual:Str) (scope:Scope) (f:Addr) (cd:Value) (A:Around) (outer:List Env) (s:Shared) (H:Hp) (E:XK):Cx where
 prog:=P
 w:=w
 K:=K
 mg:=mg
 base:=base
 A:=A.deeper (envOfC qual scope s.heap.objs.size f cd)
 N:=N
 s₀:=s
 H₀:=H
 env:=envOfC qual scope s.heap.objs.size f cd
 outer:=outer
 stack:=envOfC qual scope s.heap.objs.size f cd::outer
 ex:=[]
 calm:=true
 fn:=fun _=>true
 pn:=[]
 xe:=fun e s'=>wpAny (model P w) (A.deeper (envOfC qual scope s.heap.objs.size f cd)) (leaving (envOfC qual scope s.heap.objs.size f cd) e) (fun _ s''=>CX outer H s E e s'') (fun e' s''=>CX outer H s E e' s'') s'
theorem M7 {sc:Scope} {n:Nat} {x:Str} (h:sc.names.lookup x=some .cell):∃ c,(cellsFrom n sc.names []).lookup x=some c:=by
 have q:=PySem.W.cellsFrom_some sc.names n [] (.inl h)
 exact Option.isSome_iff_exists.mp q
theorem UA {CX:CXT} {P:Program} {w:World} {K:PySem.W.Frag} {mg:Str->Option Value} {base:Heap} {N ps:List Str} {qual:Str} {scope:Scope} {f:Addr} {cd:Value} {A:Around} {outer:List Env} {s s1:Shared} {H:Hp} {E:XK} {us:List Value} {vs:List V}
  (S:FnScope N ps scope) (hd:A.handled=none) (e0:Env0 P w K mg base A outer s H) (hl:vs.length=ps.length) (r:Vals vs us)
  (x:InCallC s s.heap.objs.size (bindL (envOfC qual scope s.heap.objs.size f cd).kindOf (ps.zip us) fun _=>none) (cellsFrom (s.heap.objs.size+1) scope.names []) (bindC (envOfC qual scope s.heap.objs.size f cd).kindOf (ps.zip us) fun _=>none) s1) :
  Inv (C4 CX P w K mg base N qual scope f cd A outer s H E) [] (start N vs) H s1:=by
 have hpl:ps.length<=N.length:=by have:=congrArg List.length S.pre;rw[List.length_take] at this;lia
 obtain ⟨h1,tk,rfl,hk⟩:=x.done
 have noA:∀ b:Addr,b∉(C4 CX P w K mg base N qual scope f cd A outer s H E).ex:=fun b z=>absurd (show b∈([]:List Addr) from z) (by simp)
 refine ⟨⟨e0.mod,S.kind,rfl,rfl,Nat.le_refl _,fun y z c h1 h2=>?_,fun y hy=>?_,fun y c _ h=>?_,fun _=>hd,Around.frames_deeper e0.frames,.inr ⟨rfl,rfl⟩,fun b z=>absurd z (noA b),e0.bs,e0.bsz,fun b _ _=>noA b,fun b z=>absurd z (noA b),e0.funs,e0.frf⟩,
  rfl,e0.bare,Un.kept hk,⟨_,x.toInCall.ns,fun i y v h1 h2 h3=>?_⟩,fun y c h=>⟨_,x.cell y c h⟩,e0.hok.fresh (Nat.le_refl _),fun y c h=>?_,fun p hp=>absurd (show p∈([]:List (Addr×Obj)) from hp) (by simp),e0.hok.kept hk,?_⟩
 ·exact name_of_addr x.apart (PySem.mem_of_lookup h1) (PySem.mem_of_lookup h2)
 ·have hy:scope.names.lookup y=some .cell\/scope.names.lookup y=some .free:=hy
  rcases hy with hy | hy
  ·exact M7 hy
  ·exact absurd rfl (S.nofree _ (PySem.mem_of_lookup hy))
 ·exact Nat.le_of_lt (x.above y c (PySem.mem_of_lookup h))
 ·have hi:i<vs.length:=by
   unfold start at h2
   by_cases hi:i<vs.length
   ·exact hi
   ·rw[List.getElem?_append_right (by simpa using hi)] at h2
    rw[List.getElem?_replicate] at h2
    split at h2<;>cases h2
  have ha:vs[i]?=some v:=by
   unfold start at h2
   rw[List.getElem?_append_left (by simpa using hi),List.getElem?_map] at h2
   cases e:vs[i]? with
   | none=>rw[e] at h2;cases h2
   | some a=>rw[e] at h2;cases h2;rfl
  obtain ⟨u,hu,rv⟩:=r.get ha
  have hp:ps[i]?=some y:=by
   rw[<-S.pre,List.getElem?_take_of_lt (by lia)];exact h1
  have ndP:ps.Nodup:=by rw[<-S.pre];exact S.nd.sublist (List.take_sublist _ _)
  refine ⟨u,rv,?_⟩
  rcases S.par y (List.mem_of_getElem? hp) with k | k
  ·exact .inl ⟨k,Mx ndP hp hu k⟩
  ·obtain ⟨c,e⟩:=M7 (n:=s.heap.objs.size+1) k
   refine .inr ⟨.inl k,c,e,?_⟩
   have q:=x.cell y c e
   rw[Kg ndP hp hu (by show scope.names.lookup y≠_;rw[k];decide)] at q
   exact q
 ·exact e0.hok.fresh (Nat.le_of_lt (x.above y c (PySem.mem_of_lookup h)))
 ·unfold start
  show _=N.length
  rw[List.length_append,List.length_map,List.length_replicate]
  lia
theorem KP {CX:CXT} {P:Program} {w:World} {K:PySem.W.Frag} {mg:Str->Option Value} {base:Heap} {k:Nat} {f:Addr} {name qual:Str} {params:Arguments} {body:List Stmt} {scope:Scope} {dV kV doc pm cdv ct oc:Value} {an od:Option Addr}
  {osl:Array (Option Value)} {N ps:List Str} {sp:Sp} (lk:K.lookup f=some ⟨oc,od,.func (PySem.W.fnOf name qual params body scope dV kV doc pm an cdv ct),osl⟩) (hcd:PySem.W.codeIn K cdv qual=true) (S:FnScope N ps scope)
  (len:∀ vs H Q E,sp vs H Q E->vs.length=ps.length)
  (hbody:∀ (A:Around) (outer:List Env) (s:Shared) (H:Hp) (vs:List V) (Q:VK) (E:XK),Room k (A.deeper (envOfC qual scope s.heap.objs.size f cdv))->sp vs H Q E ->
   ∃ t,PSs (C4 CX P w K mg base N qual scope f cdv A outer s H E) body t/\t {nx:=fun _ H'=>Q .non H',rt:=Q} (start N vs) H) :
  FnOk P w K mg base CX (k+1) f (PySem.W.fnOf name qual params body scope dV kV doc pm an cdv ct) ps sp:=by
 refine ⟨len,fun A outer s H args us vs Q E hr e0 hb r hsp=>?_⟩
 have hl:=len _ _ _ _ hsp
 have KX:K.In s.heap:=e0.mod.kin.keeps fun b o e=>(e0.bs b o e).1
 have lim:s.heap.NoLimit:=e0.mod.nolimit.keeps fun b o e=>(e0.bs b o e).1
 have hkind:∀ y∈ps.zip us,scope.names.lookup y.1=some .local\/(scope.names.lookup y.1=some .cell/\((cellsFrom (s.heap.objs.size+1) scope.names []).lookup y.1).isSome=true):=fun ⟨n,v⟩ hy=>by
  rcases S.par n (List.of_mem_zip hy).1 with q | q
  ·exact .inl q
  ·exact .inr ⟨q,PySem.W.cellsFrom_some _ _ _ (.inl q)⟩
 refine codeAny_call_function hr.depth (KX _ _ lk) rfl S.co S.gen rfl (PySem.W.codeRec_of KX hcd) (hb _ _ _ _ ?_)
 refine wpAny_newFunctionEnv_cells S.kind hkind fun env he s1 x=>?_
 subst he
 refine ⟨lim.keeps x.toInCall.keep,codeAny_func ?_⟩
 obtain ⟨t,ht,hq⟩:=hbody A outer s H vs Q E (hr.deeper _) hsp
 have I:Inv (C4 CX P w K mg base N qual scope f cdv A outer s H E) [] (start N vs) H s1:=UA S hr.hd e0 hl r x
 refine wpAny_mono (ht [] s1 (start N vs) H _ I hq) (fun fl s' hs=>?_) fun e s' hs=>hs
 have fin:∀ {σ':St} {H':Hp} {v:V} {u:Value},Inv (C4 CX P w K mg base N qual scope f cdv A outer s H E) [] σ' H' s'->RelV v u->Q v H'->CE outer P w H s Q u s':=
  fun {σ' H' v u} J rv q=>⟨v,H',J.os,J.bare,J.base,J.hok,rv,q⟩
 cases fl with
 | ret u=>
  obtain ⟨v,σ',H',J,rv,q⟩:=hs
  exact fin J rv q
 | next=>
  obtain ⟨σ',H',J,q⟩:=hs
  exact fin (v:=V.non) (u:=Value.none) J rfl q
 | brk=>
  obtain ⟨_,_,_,q⟩:=hs
  exact False.elim q
 | cont=>
  obtain ⟨_,_,_,q⟩:=hs
  exact False.elim q
section
variable {X:Cx} {x:Str} {p pos:Pos} {e:Expr} {es:List Expr} {t:TA} {id T:String} {r:List V->Hp->VK->Prop}
def tCB (r:List V->Hp->VK->Prop) (t:TA):TE:=fun σ H Q=>t σ H fun vs H1=>r vs H1 Q
theorem ES (hc:Bq X (.builtin id) r) (hg:Gl X x) (hm:X.mg x=none) (hv:bootBuiltins x=some (.builtin id)) (ha:PA X (e::es) t) (hn:x≠"__name__":=by decide) (hdb:(x == ("__debug__":Str))=false:=by decide)
  (he:starEach (e::es) X.env=(false,eval e X.env)::starEach es X.env:=by rfl) (hpl:(backTo pos (starEach es X.env)).any (·.1)=false:=by rfl):PE X (.Call (.Name x p) (e::es) [] pos) (tCB r t):=by
 intro pins s σ H Q I h
 refine wpAny_Call_Name_kw (HX I hg hm hv ?_ hn hdb)
 exact PyProof.Rows.callWith_builtin1 (thn (ha pos pins s σ H _ I h) fun us s1 ⟨vs,H1,I1,r1,q1⟩=>hc pins s1 σ H1 vs us Q I1 r1 q1) he hpl
theorem Le (hc:Bq X (.type T) r) (hg:Gl X x) (hm:X.mg x=none) (hv:bootBuiltins x=some (.type T)) (ha:PA X (e::es) t) (hn:x≠"__name__":=by decide) (hdb:(x == ("__debug__":Str))=false:=by decide)
  (he:starEach (e::es) X.env=(false,eval e X.env)::starEach es X.env:=by rfl) (hpl:(backTo pos (starEach es X.env)).any (·.1)=false:=by rfl):PE X (.Call (.Name x p) (e::es) [] pos) (tCB r t):=by
 intro pins s σ H Q I h
 refine wpAny_Call_Name_kw (HX I hg hm hv ?_ hn hdb)
 exact PyProof.Rows.callWith_type1 (thn (ha pos pins s σ H _ I h) fun us s1 ⟨vs,H1,I1,r1,q1⟩=>hc pins s1 σ H1 vs us Q I1 r1 q1) he hpl
end
end L2
namespace HT
open PySem PyProof.Rows
section
open PySem.SeqAt
open PySem.AutoSeq1 (wpAny_loadPart')
open PySem.MeetsSeq PySem.MeetsSeq2 PySem.MeetsSeq3
end
section
variable {prog:Program} {w:World} {A:Around} {E:Value->Shared->Prop} {s:Shared}
def sIx (n d:Nat):Option Int->Nat
 | none=>d
 | some v=>if v<0 then (v+(n:Int)).toNat else min v.toNat n
theorem TB (n d:Nat):sIx n d none=d:=rfl
theorem RW (n d k:Nat):sIx n d (some (k:Int))=min k n:=by
 show (if (k:Int)<0 then ((k:Int)+(n:Int)).toNat else min (k:Int).toNat n)=min k n
 rw[if_neg (by lia),Int.toNat_natCast]
end
end HT
namespace L2
open PySem PySem.Spec PyProof.Rows
abbrev TO:=St->Hp->(Option Int->Hp->Prop)->Prop
def PO (X:Cx) (e:Option Expr) (t:TO):Prop:=
 ∀ (pins:List (Addr×Obj)) (s:Shared) (σ:St) (H:Hp) (Q:Option Int->Hp->Prop),Inv X pins σ H s->t σ H Q ->
  wpAny (model X.prog X.w) X.A (evalPart e X.env) (fun u s'=>∃ o H',Inv X pins σ H' s'/\IsPart u o/\Q o H') X.xe s
def U5:TO:=fun _ H Q=>Q none H
def Qw (t:TE):TO:=fun σ H Q=>t σ H fun x H1=>∃ i,x=.int i/\Q (some i) H1
theorem intsAre_of {ns:List Int}:∀ {us:List Value},Vals (ns.map V.int) us->IntsAre us ns:=by
 induction ns with
 | nil=>intro us r;rw[List.map_nil] at r;cases r;exact .nil
 | cons n ns ih=>
  intro us r
  rw[List.map_cons] at r
  cases r with
  | cons r1 r2=>
   obtain ⟨t,e⟩:=r1
   subst e
   exact .cons n t (ih r2)
section
variable {X:Cx} {e:Expr} {te:TE} {lo hi:Option Expr} {tl th:TO} {pos p2:Pos}
theorem N9:PO X none U5:=by
 intro pins s σ H Q I h
 rw[evalPart_none]
 exact wpAny_pure ⟨none,H,I,.none,h⟩
theorem Ud (h:PE X e te):PO X (some e) (Qw te):=by
 intro pins s σ H Q I hw
 rw[evalPart_some]
 refine thn (h pins s σ H _ I hw) fun u s1 hh_=>?_
 obtain ⟨x,H1,I1,r1,q1⟩:=hh_
 obtain ⟨i,rfl,q⟩:=q1
 obtain ⟨t,rfl⟩:=r1
 exact ⟨some i,H1,I1,.int i t,q⟩
def SlR (X:Cx) (r:V->Option Int->Option Int->Hp->VK->Prop):Prop:=
 ∀ (pins:List (Addr×Obj)) (s:Shared) (σ:St) (H:Hp) (x:V) (v vl vu:Value) (lo hi:Option Int) (sl:Addr) (Q:VK),Inv X pins σ H s->RelV x v->s.heap.IsSliceOf sl vl vu .none->IsPart vl lo->IsPart vu hi->r x lo hi H Q ->
  ∃ T id,typeLookup (.type T) "__getitem__"=pure (some (.builtin id))/\s.TypeIs v T/\wpAny (model X.prog X.w) X.A (getItem v (.ref sl)) (EP X pins σ Q) X.xe s
theorem SlR.or {r r':V->Option Int->Option Int->Hp->VK->Prop} (h:SlR X r) (h':SlR X r'):SlR X (fun x lo hi H Q=>r x lo hi H Q\/r' x lo hi H Q):=by
 intro pins s σ H x v vl vu lo hi sl Q I rx hs pl pu q
 rcases q with q | q
 ·exact h pins s σ H x v vl vu lo hi sl Q I rx hs pl pu q
 ·exact h' pins s σ H x v vl vu lo hi sl Q I rx hs pl pu q
def tSl (r:V->Option Int->Option Int->Hp->VK->Prop) (te:TE) (tl th:TO):TE:=fun σ H Q=>te σ H fun x H1=>tl σ H1 fun l H2=>th σ H2 fun u H3=>r x l u H3 Q
theorem LZ {r:V->Option Int->Option Int->Hp->VK->Prop} (hr:SlR X r) (he:PE X e te) (hl:PO X lo tl) (hu:PO X hi th):PE X (.Subscript e (.Slice lo hi none p2) pos) (tSl r te tl th):=by
 intro pins s σ H Q I h
 refine Subscript_ (thn (he pins s σ H _ I h) fun v s1 hh_=>?_)
 obtain ⟨x,H1,I1,r1,q1⟩:=hh_
 refine wpAny_Slice (thn (hl pins s1 σ H1 _ I1 q1) fun vl s2 ⟨l,H2,I2,pl,q2⟩=>thn (hu pins s2 σ H2 _ I2 q2) fun vu s3 hh_=>?_)
 obtain ⟨u,H3,I3,pu,q3⟩:=hh_
 rw[evalPart_none]
 refine wpAny_pure ?_
 have I4:Inv X pins σ H3 {s3 with heap:=s3.heap.push {cls:=.type "slice",data:=.fields #[vl,vu,.none]}}:=I3.kept (t':=s3.toks) fun b ob q=>Heap.get?_push_of_some _ q
 obtain ⟨T,id,hT,ht,hg⟩:=hr pins {s3 with heap:=s3.heap.push {cls:=.type "slice",data:=.fields #[vl,vu,.none]}} σ H3 x v vl vu l u s3.heap.objs.size Q I4 r1 (Heap.IsSliceOf.new ..) pl pu q3
 show wpAny (model X.prog X.w) X.A (subscriptTail e (.Slice lo hi none p2) v (.ref s3.heap.objs.size)) (EP X pins σ Q) X.xe {s3 with heap:=s3.heap.push {cls:=.type "slice",data:=.fields #[vl,vu,.none]}}
 exact tail_any (ops:=[.ref s3.heap.objs.size,v]) ht hT hg (by with_unfolding_all rfl)
def Ee (xs:List V) (lo hi:Option Int):List V:=(xs.drop (HT.sIx xs.length 0 lo)).take (HT.sIx xs.length xs.length hi - HT.sIx xs.length 0 lo)
theorem Uh (xs:List V) (lo hi:Option Int):(Ee xs lo hi).length<=xs.length:=by
 unfold Ee
 rw[List.length_take,List.length_drop]
 lia
end
def ixN (n:Nat) (i:Int):Option Nat:=if 0<=i then (if i<n then some i.toNat else none) else if -(n:Int)<=i then some (i+n).toNat else none
def atI {α:Type} (xs:List α) (i:Int):Option α:=(ixN xs.length i).bind fun j=>xs[j]?
theorem Ng {n:Nat} {i:Int} {j:Nat} (h:ixN n i=some j):seqIndex? i n=some j/\j<n/\-(n:Int)<=i/\i<n:=by
 unfold ixN at h
 by_cases h0:0<=i
 ·rw[if_pos h0] at h
  by_cases h1:i<n
  ·rw[if_pos h1] at h
   have e:i.toNat=j:=Option.some.inj h
   exact ⟨by rw[seqIndex_of h0 h1,e],by lia,by lia,h1⟩
  ·rw[if_neg h1] at h;cases h
 ·rw[if_neg h0] at h
  by_cases h1:-(n:Int)<=i
  ·rw[if_pos h1] at h
   have e:(i+n).toNat=j:=Option.some.inj h
   exact ⟨by rw[seqIndex_neg (by lia) h1,e],by lia,h1,by lia⟩
  ·rw[if_neg h1] at h;cases h
theorem Ho {α:Type} {xs:List α} {i:Int} {v:α} (h:atI xs i=some v):∃ j,seqIndex? i xs.length=some j/\xs[j]?=some v/\j<xs.length/\-(xs.length:Int)<=i/\i<xs.length:=by
 unfold atI at h
 cases e:ixN xs.length i with
 | none=>rw[e] at h;cases h
 | some j=>
  rw[e] at h
  obtain ⟨h1,h2,h3,h4⟩:=Ng e
  exact ⟨j,h1,h,h2,h3,h4⟩
theorem Cf {α:Type} {xs:List α} {j:Nat} {v:α} (h:xs[j]?=some v):atI xs (j:Int)=some v:=by
 have hj:j<xs.length:=(List.getElem?_eq_some_iff.mp h).1
 have e:ixN xs.length (j:Int)=some j:=by
  unfold ixN
  rw[if_pos (by lia),if_pos (by lia)];simp
 unfold atI;rw[e];exact h
def Jw (b:Expr):Prop:=∀ o i,subscripted b false o i=operate [o,i] (getItem o i)
def IxR (X:Cx) (r:R2):Prop:=
 ∀ (value slice:Expr) (pins:List (Addr×Obj)) (s:Shared) (σ:St) (H:Hp) (x y:V) (v u:Value) (Q:VK),Inv X pins σ H s->RelV x v->RelV y u->r x y H Q ->
  subscripted slice false v u=operate [v,u] (getItem v u)->wpAny (model X.prog X.w) X.A (subscriptTail value slice v u) (EP X pins σ Q) X.xe s
def MtR (X:Cx) (id:String) (r:V->List V->Hp->VK->Prop):Prop:=
 ∀ (pins:List (Addr×Obj)) (s:Shared) (σ:St) (H:Hp) (x:V) (xs:List V) (v:Value) (us:List Value) (Q:VK),Inv X pins σ H s->RelV x v->Vals xs us->r x xs H Q ->
  wpAny (model X.prog X.w) X.A (call (.builtin id) (v::us)) (EP X pins σ Q) X.xe s
section
variable {X:Cx} {a b:Expr} {ta tb:TE} {pos:Pos}
theorem IxR.or {r r':R2} (h:IxR X r) (h':IxR X r'):IxR X (fun x y H Q=>r x y H Q\/r' x y H Q):=by
 intro value slice pins s σ H x y v u Q I rx ry q hs
 rcases q with q | q
 ·exact h value slice pins s σ H x y v u Q I rx ry q hs
 ·exact h' value slice pins s σ H x y v u Q I rx ry q hs
theorem Ni {r:R2} (hr:IxR X r) (ha:PE X a ta) (hb:PE X b tb) (hs:Jw b):PE X (.Subscript a b pos) (tOp r ta tb):=by
 intro pins s σ H Q I h
 exact Subscript_ (JD ha hb I h fun v u s2 x y H2 I2 rx ry q=>hr a b pins s2 σ H2 x y v u Q I2 rx ry q (hs _ _))
def Lo (K:PySem.W.Frag):R2:=fun x y H Q=>∃ p xs i v,x=.ref p/\y=.int i/\SqL K H p xs/\atI xs i=some v/\Q v H
def NT (K:PySem.W.Frag):R2:=fun x y H Q=>∃ p xs i v,x=.ref p/\y=.int i/\SqT K H p xs/\atI xs i=some v/\Q v H
def J1:R2:=fun x y H Q=>∃ z i c,x=.str z/\y=.int i/\z.length<=sizeLine/\atI z.cps.toList i=some c/\Q (.str ⟨#[c]⟩) H
theorem ix_list:IxR X (Lo X.K):=by
 intro value slice pins s σ H x y v u Q I rx ry h hs
 obtain ⟨p,xs,i,z,rfl,rfl,hq,he,q⟩:=h
 cases rx
 obtain ⟨t,rfl⟩:=ry
 obtain ⟨its,r,pl,hz⟩:=I.list hq
 obtain ⟨j,h1,h2,h3,h4,h5⟩:=Ho he
 obtain ⟨w,ew,rw'⟩:=r.get h2
 have hl:=r.length
 have hn:=EO
 have fin:EP X pins σ Q w s:=⟨z,H,I,rw',q⟩
 by_cases h0:0<=i
 ·have hj:i.toNat=j:=by
   rw[seqIndex_of h0 h5] at h1
   exact Option.some.inj h1
  exact item_listR pl.isList h0 (by lia) (by rw[hj];simpa using ew) fin hs
 ·have hj:(i+(its.toArray.size:Int)).toNat=j:=by
   rw[seqIndex_neg (by lia) h4] at h1
   rw[List.size_toArray,<-hl]
   exact Option.some.inj h1
  exact subscriptTail_builtinR (x:=w) pl.isList.typeIs slot_list_getitem.lookup
   (wpAny_getItem_list_neg (Q:=fun r s'=>r=w/\EP X pins σ Q r s') pl.isList (by lia) (by rw[List.size_toArray]<;>lia) (by lia) (by rw[hj];simpa using ew) ⟨rfl,fin⟩) hs
theorem ix_tup:IxR X (NT X.K):=by
 intro value slice pins s σ H x y v u Q I rx ry h hs
 obtain ⟨p,xs,i,z,rfl,rfl,hq,he,q⟩:=h
 cases rx
 obtain ⟨t,rfl⟩:=ry
 obtain ⟨its,r,pl,hz⟩:=I.tuple hq
 obtain ⟨j,h1,h2,h3,h4,h5⟩:=Ho he
 obtain ⟨w,ew,rw'⟩:=r.get h2
 have hl:=r.length
 have hn:=EO
 have fin:EP X pins σ Q w s:=⟨z,H,I,rw',q⟩
 exact subscriptTail_builtinR (x:=w) pl.typeIs slot_tuple_getitem.lookup
  (getItem_tuple (j:=j) (Q:=fun r s'=>r=w/\EP X pins σ Q r s') pl (by lia) (by lia) (by rw[List.size_toArray,<-hl];exact h1) (by simpa using ew) ⟨rfl,fin⟩) hs
theorem RF:IxR X J1:=by
 intro value slice pins s σ H x y v u Q I rx ry h hs
 obtain ⟨z,i,c,rfl,rfl,hz,he,q⟩:=h
 obtain ⟨t,rfl⟩:=rx
 obtain ⟨t',rfl⟩:=ry
 obtain ⟨j,h1,h2,h3,h4,h5⟩:=Ho he
 have hl:z.cps.toList.length=z.length:=by simp[Str.length]
 rw[hl] at h1 h4 h5
 have hn:=EO
 exact tail_any (typeIs_str s z t) slot_str_getitem.lookup (getItem_str (c:=c) (by
  have e1:decide (i < -(2 ^ 63:Int))=false:=decide_eq_false (by lia)
  have e2:decide (i>=2 ^ 63)=false:=decide_eq_false (by lia)
  rw[e1,e2,Bool.or_false]) (by rw[h1];simpa using h2) ⟨.str ⟨#[c]⟩,H,I.tok _,⟨_,rfl⟩,q⟩) hs
def rIx (K:PySem.W.Frag):R2:=fun x y H Q=>Lo K x y H Q\/NT K x y H Q\/J1 x y H Q
theorem VN:IxR X (rIx X.K):=ix_list.or (ix_tup.or RF)
theorem VL (its:List Value) (n j:Nat) (u:Value):Obj.mapSeq (·.setIfInBounds j u) {cls:=.type "list",data:=.seq its.toArray n}={cls:=.type "list",data:=.seq (its.set j u).toArray n}:=by
 simp[Obj.mapSeq]
theorem Inv.lst {pins:List (Addr×Obj)} {σ:St} {H:Hp} {s:Shared} {p:Addr} {xs:List V} (I:Inv X pins σ H s) (h:H p=some (.lst xs)) :
  ∃ (its:List Value) (n:Nat),Vals xs its/\s.heap.get? p=some {cls:=.type "list",data:=.seq its.toArray n}/\xs.length<=sizeLine:=by
 obtain ⟨z,its,n,r,e⟩:=I.hok p _ h
 exact ⟨its,n,r,e,z⟩
theorem Inv.lstUpd {pins:List (Addr×Obj)} {σ:St} {H:Hp} {s:Shared} {p:Addr} {xs ys:List V} {its its':List Value} {n n':Nat} {f:Obj->Obj} (I:Inv X pins σ H s) (h:H p=some (.lst xs))
  (ho:s.heap.get? p=some {cls:=.type "list",data:=.seq its.toArray n}) (hf:f {cls:=.type "list",data:=.seq its.toArray n}={cls:=.type "list",data:=.seq its'.toArray n'}) (r:Vals ys its') (hz:ys.length<=sizeLine) (t:Nat) :
  Inv X pins σ (upd H p (.lst ys)) {s with heap:=s.heap.update p f,toks:=t}:=by
 have e:(s.heap.update p f).get? p=some {cls:=.type "list",data:=.seq its'.toArray n'}:=by
  rw[Heap.get?_update_self f ho (by rw[hf]<;>rfl),hf]
 refine I.write (x:=p) (e:=p) (by rw[h];trivial) (.inl rfl) (fun b u hb q=>(Heap.get?_update_other _ _ (Ne.symm hb)).trans q) ⟨_,e⟩ ?_
 exact ⟨hz,its',n',r,e⟩
def OL:V->V->V->Hp->(Hp->Prop)->Prop:=fun o i v H Q=>∃ p xs k j,o=.ref p/\i=.int k/\H p=some (.lst xs)/\ixN xs.length k=some j/\Q (upd H p (.lst (xs.set j v)))
theorem set_list:IF X OL:=by
 intro pins s σ H o i v ov iv u Q I ro ri rv h
 obtain ⟨p,xs,k,j,rfl,rfl,hp,hj,q⟩:=h
 cases ro
 obtain ⟨t,rfl⟩:=ri
 obtain ⟨its,n,r,ho,hz⟩:=I.lst hp
 obtain ⟨h1,h2,h3,h4⟩:=Ng hj
 have hl:=r.length
 have hn:=EO
 have I':Inv X pins σ (upd H p (.lst (xs.set j v))) {s with heap:=s.heap.update p (Obj.mapSeq (·.setIfInBounds j u))}:=
  I.lstUpd hp ho (VL its n j u) (r.set rv j) (by rw[List.length_set];exact hz) s.toks
 by_cases h0:0<=k
 ·have hk:k.toNat=j:=by
   rw[seqIndex_of h0 h4] at h1
   exact Option.some.inj h1
  exact PySem.W.ki_setAt ho h0 (by lia) (by rw[List.size_toArray,<-hl];exact h4) (by rw[hk];exact ⟨_,I',q⟩)
 ·have hk:(k+(its.toArray.size:Int)).toNat=j:=by
   rw[seqIndex_neg (by lia) h3] at h1
   rw[List.size_toArray,<-hl]
   exact Option.some.inj h1
  exact PySem.W.ki_setBack ho (by lia) (by rw[List.size_toArray,<-hl];exact h3) (by lia) (by rw[hk];exact ⟨_,I',q⟩)
theorem Rv (lo hi:Option Int) (n:Nat):(sliceBounds lo hi none n).1=((HT.sIx n 0 lo:Nat):Int)/\(sliceBounds lo hi none n).2.1=((HT.sIx n n hi:Nat):Int)/\(sliceBounds lo hi none n).2.2=1:=by
 refine ⟨?_,?_,rfl⟩
 ·cases lo with
  | none=>simp[sliceBounds,HT.sIx]
  | some i=>
   simp only[sliceBounds,HT.sIx,Option.getD_none,show (1:Int) > 0 by decide,if_true]
   by_cases h:i<0
   ·simp only[h,if_true]<;>lia
   ·simp only[h,if_false]<;>lia
 ·cases hi with
  | none=>simp[sliceBounds,HT.sIx]
  | some i=>
   simp only[sliceBounds,HT.sIx,Option.getD_none,show (1:Int) > 0 by decide,if_true]
   by_cases h:i<0
   ·simp only[h,if_true]<;>lia
   ·simp only[h,if_false]<;>lia
theorem VS (its:List Value) (lo hi:Option Int):slicePick its.toArray lo hi none=((its.drop (HT.sIx its.length 0 lo)).take (HT.sIx its.length its.length hi - HT.sIx its.length 0 lo)).toArray:=by
 obtain ⟨h1,h2,h3⟩:=Rv lo hi its.toArray.size
 unfold slicePick
 rw[h1,h2,h3]
 simp only[sliceRange_one,pick_run,List.size_toArray]<;>rfl
def OT (K:PySem.W.Frag):V->Option Int->Option Int->Hp->VK->Prop:=fun x lo hi H Q=>∃ a xs,x=.ref a/\SqL K H a xs/\∀ p,H p=none->Q (.ref p) (upd H p (.lst (Ee xs lo hi)))
theorem sl_list:SlR X (OT X.K):=by
 intro pins s σ H x v vl vu lo hi sl Q I rx hs pl pu h
 obtain ⟨a,xs,rfl,hx,q⟩:=h
 cases rx
 obtain ⟨its,r,ht,hz⟩:=I.list hx
 have hlen:=r.length
 refine ⟨"list",_,slot_list_getitem.lookup,ht.isList.typeIs,?_⟩
 refine wpAny_getItem_list_slice ht.isList hs pl pu .none (by simp) ?_ (by rw[List.size_toArray]<;>lia)
 rw[VS,<-hlen]
 refine ⟨.ref s.heap.objs.size,_,I.laid (t':=s.toks) (o:=.lst (Ee xs lo hi)) (fun b ob q=>Heap.get?_push_of_some _ q) (Nat.le_refl _) ?_,rfl,q _ (I.hok.fresh (Nat.le_refl _))⟩
 exact ⟨Nat.le_trans (Uh xs lo hi) hz,_,0,(r.drop (HT.sIx xs.length 0 lo)).take (HT.sIx xs.length xs.length hi - HT.sIx xs.length 0 lo),Heap.get?_push_size _ rfl⟩
def tyV (K:PySem.W.Frag) (T:String) (x:V) (H:Hp):Prop:=match x with
 | .str _=>T="str"
 | .int _=>T="int"
 | .ref p=>(T="list"/\∃ xs,SqL K H p xs)\/(T="tuple"/\∃ o,K.lookup p=some o/\o.cls=.type "tuple"/\o.dict=none) \/
   (T="dict"/\((∃ kvs,H p=some (.dK kvs))\/∃ kvs,H p=some (.dT kvs)))\/(T="set"/\∃ S n,H p=some (.set S n))
 | _=>False
theorem La {pins:List (Addr×Obj)} {σ:St} {H:Hp} {s:Shared} {T:String} {x:V} {v:Value} (I:Inv X pins σ H s) (r:RelV x v) (ty:tyV X.K T x H) :
  s.TypeIs v T/\∀ a,v=.ref a->∃ ob,s.heap.get? a=some ob/\ob.dict=none:=by
 cases x with
 | str z=>
  obtain ⟨t,rfl⟩:=r
  cases (show T="str" from ty)
  exact ⟨typeIs_str s z t,fun _ e=>nomatch e⟩
 | int i=>
  obtain ⟨t,rfl⟩:=r
  cases (show T="int" from ty)
  exact ⟨typeIs_int s i t,fun _ e=>nomatch e⟩
 | ref p=>
  cases r
  rcases ty with ⟨rfl,xs,hq⟩ | ⟨rfl,o,hk,hc,hd⟩ | ⟨rfl,hk⟩ | ⟨rfl,S,n,hk⟩
  ·obtain ⟨its,_,pl,_⟩:=I.list hq
   refine ⟨pl.isList.typeIs,fun a e=>?_⟩
   cases e
   obtain ⟨o,n,e,c,hd,_⟩:=pl
   exact ⟨o,e,hd⟩
  ·refine ⟨⟨o,I.kIn p o hk,hc⟩,fun a e=>?_⟩
   cases e
   exact ⟨o,I.kIn _ o hk,hd⟩
  ·have z:∃ o,s.heap.get? p=some o/\o.ExactDict:=by
    rcases hk with ⟨kvs,hk⟩ | ⟨kvs,hk⟩
    ·obtain ⟨_,_,_,_,o,_,_,e,ex,_⟩:=I.hok p _ hk
     exact ⟨o,e,ex⟩
    ·obtain ⟨_,_,_,_,o,_,_,e,ex,_⟩:=I.hok p _ hk
     exact ⟨o,e,ex⟩
   obtain ⟨o,e,ex⟩:=z
   refine ⟨⟨o,e,ex.1⟩,fun a e2=>?_⟩
   cases e2
   exact ⟨o,e,ex.2.1⟩
  ·obtain ⟨o,_,_,_,e,ex,_⟩:=I.hok p _ hk
   refine ⟨⟨o,e,ex.1⟩,fun a e2=>?_⟩
   cases e2
   exact ⟨o,e,ex.2.1⟩
 | _=>exact False.elim ty
def Oy (K:PySem.W.Frag) (T:String) (r:V->List V->Hp->VK->Prop) (to:TE):TE:=fun σ H Q=>to σ H fun x H1=>tyV K T x H1/\r x [] H1 Q
def tBM (K:PySem.W.Frag) (T:String) (r:V->List V->Hp->VK->Prop) (to:TE) (t:TA):TE:=fun σ H Q=>to σ H fun x H1=>tyV K T x H1/\t σ H1 fun xs H2=>r x xs H2 Q
variable {o e:Expr} {es:List Expr} {to:TE} {t:TA} {name:Str} {apos cpos:Pos} {T id:String} {r:V->List V->Hp->VK->Prop}
theorem Pi (pa:PlainAttrs T) (slot:Slot T name id) (hty:typeOf (.builtin id)=pure (.type "method_descriptor")) (hm:MtR X id r) (ho:PE X o to)
  (hbase:attributeBase o name X.env (eval o X.env)=eval o X.env:=by rfl) (hline:(apos.endLine == cpos.line)=true:=by rfl):PE X (.Call (.Attribute o name apos) [] [] cpos) (Oy X.K T r to):=by
 intro pins s σ H Q I h
 refine wpAny_Call_method0_late hbase hline (thn (ho pins s σ H _ I h) fun v s1 hh_=>?_)
 obtain ⟨x,H1,I1,r1,ty,q1⟩:=hh_
 obtain ⟨h1,h2⟩:=La I1 r1 ty
 exact ⟨T,id,pa,slot,hty,h1,h2,Calls.callWith_builtin rfl (PySem.evalArgs_none (hm pins s1 σ H1 x [] v [] Q I1 r1 .nil q1))⟩
theorem OS (pa:PlainAttrs T) (slot:Slot T name id) (hty:typeOf (.builtin id)=pure (.type "method_descriptor")) (hm:MtR X id r) (ho:PE X o to) (ha:PA X (e::es) t)
  (hbase:attributeBase o name X.env (eval o X.env)=eval o X.env:=by rfl)
  (hfew:((backTo cpos (starEach (e::es) X.env)).all (fun x=>!x.1) && (backToKw cpos (keywordEach [] X.env)).all (fun x=>x.1.isSome)
   && decide ((e::es).length+([]:List Keyword).length+(if ([]:List Keyword).isEmpty then 0 else 1)<30))=true:=by rfl)
  (hline:(apos.endLine == cpos.line)=true:=by rfl) (hs:starEach (e::es) X.env=(false,eval e X.env)::starEach es X.env:=by rfl) (hplain:(backTo cpos (starEach es X.env)).any (·.1)=false:=by rfl) :
  PE X (.Call (.Attribute o name apos) (e::es) [] cpos) (tBM X.K T r to t):=by
 intro pins s σ H Q I h
 refine wpAny_Call_method_late hbase hfew hline rfl (thn (ho pins s σ H _ I h) fun v s1 hh_=>?_)
 obtain ⟨x,H1,I1,r1,ty,q1⟩:=hh_
 obtain ⟨h1,h2⟩:=La I1 r1 ty
 refine ⟨T,id,pa,slot,hty,h1,h2,?_⟩
 have hA:=ha cpos pins s1 σ H1 _ I1 q1
 rw[hs] at hA ⊢
 refine Calls.callWith_builtin (by show (false || (backTo cpos (starEach es X.env)).any (·.1))=false;rw[hplain]<;>rfl) (Calls.evalArgs_plain ?_)
 exact thn hA fun us s2 ⟨vs,H2,I2,r2,q2⟩=>hm pins s2 σ H2 x vs v us Q I2 r1 r2 q2
end
def MtM (X:Cx) (id:String) (r:V->List V->Hp->VK->Prop):Prop:=
 ∀ (pins:List (Addr×Obj)) (s:Shared) (σ:St) (H:Hp) (x:V) (xs:List V) (v:Value) (us:List Value) (Q:VK),Inv X pins σ H s->RelV x v->Vals xs us->r x xs H Q ->
  wpAny (model X.prog X.w) X.A (call (.builtin id) (v::us)) (EP X pins σ Q) X.xe s
theorem Vals.one:∀ {x:V} {us:List Value},Vals [x] us->∃ u,us=[u]/\RelV x u
 | _,_,.cons r .nil=>⟨_,rfl,r⟩
theorem Vals.zero:∀ {us:List Value},Vals [] us->us=[]
 | _,.nil=>rfl
theorem Vals.dropLast {xs:List V} {us:List Value} (h:Vals xs us):Vals xs.dropLast us.dropLast:=by
 induction h with
 | nil=>exact .nil
 | cons r t ih=>
  cases t with
  | nil=>exact .nil
  | cons q t'=>exact .cons r ih
theorem Vals.reverse {xs:List V} {us:List Value} (h:Vals xs us):Vals xs.reverse us.reverse:=by
 induction h with
 | nil=>exact .nil
 | cons r t ih=>rw[List.reverse_cons,List.reverse_cons];exact Vals.append ih (.cons r .nil)
theorem Vals.rep {xs:List V} {us:List Value} (h:Vals xs us):∀ k:Nat,Vals (List.replicate k xs).flatten (List.replicate k us).flatten
 | 0=>.nil
 | k+1=>by
  rw[List.replicate_succ,List.replicate_succ,List.flatten_cons,List.flatten_cons]
  exact Vals.append h (Vals.rep h k)
theorem Py {α:Type} (l:List α):l.eraseIdx (l.length - 1)=l.dropLast:=by
 induction l with
 | nil=>rfl
 | cons a r ih=>
  cases r with
  | nil=>rfl
  | cons b r=>
   have e:(a::b::r).length - 1=((b::r).length - 1)+1:=by
    have h1:(a::b::r).length=r.length+2:=rfl
    have h2:(b::r).length=r.length+1:=rfl
    lia
   rw[e,List.eraseIdx_cons_succ,ih]
   all_goals rfl
theorem foldl_rep (its:List Value):∀ (k:Nat) (acc:List Value),
  List.foldl (fun x1 x2=>x1++x2) acc.toArray (List.replicate k its.toArray)=(acc++(List.replicate k its).flatten).toArray
 | 0,acc=>by simp
 | k+1,acc=>by
  have e:acc.toArray++its.toArray=(acc++its).toArray:=by simp
  have e2:(acc++its)++(List.replicate k its).flatten=acc++(List.replicate (k+1) its).flatten:=by
   rw[List.replicate_succ,List.flatten_cons,List.append_assoc]
  rw[<-e2,<-foldl_rep its k (acc++its),<-e,List.replicate_succ,List.foldl_cons]
section
variable {X:Cx} {pins:List (Addr×Obj)} {σ:St} {H:Hp} {s:Shared} {l b:Addr} {xs ys zs:List V}
theorem Inv.lset {its its':List Value} {n:Nat} {f:Array Value->Array Value} {t':Nat} (I:Inv X pins σ H s) (hH:H l=some (.lst xs))
  (e:s.heap.get? l=some {cls:=.type "list",data:=.seq its.toArray n}) (hf:f its.toArray=its'.toArray) (hv:Vals ys its') (hz:ys.length<=sizeLine) :
  Inv X pins σ (upd H l (.lst ys)) {s with heap:=s.heap.update l (Obj.mapSeq f),toks:=t'}:=by
 have q:=PySem.IsL.update e f
 rw[hf] at q
 refine I.write (x:=l) (e:=l) (by rw[hH];exact trivial) (.inl rfl) (fun b' u hb hu=>(Heap.get?_update_other s.heap (Obj.mapSeq f) (Ne.symm hb)).trans hu) ⟨_,q⟩ ?_
 exact ⟨hz,its',_,hv,q⟩
theorem Inv.lnew {its:List Value} {t':Nat} (I:Inv X pins σ H s) (hv:Vals ys its) (hz:ys.length<=sizeLine) :
  Inv X pins σ (upd H s.heap.objs.size (.lst ys)) {s with heap:=s.heap.push {cls:=.type "list",data:=.seq its.toArray},toks:=t'}:=
 I.laid (fun _ _ q=>Heap.get?_push_of_some _ q) (Nat.le_refl _) ⟨hz,its,0,hv,Heap.get?_push_size _ rfl⟩
theorem Inv.fresh (I:Inv X pins σ H s):H s.heap.objs.size=none:=I.hok.fresh (Nat.le_refl _)
theorem Inv.lstM (I:Inv X pins σ H s) (hH:H l=some (.lst xs)):xs.length<=sizeLine/\∃ (its:List Value) (n:Nat),Vals xs its/\xs.length=its.length/\s.heap.get? l=some {cls:=.type "list",data:=.seq its.toArray n}:=by
 obtain ⟨z,its,n,r,e⟩:=I.hok l _ hH
 exact ⟨z,its,n,r,r.length,e⟩
theorem SI {n:Nat} (h:n<=sizeLine):Builtin.List.listTooLong n=false:=by
 unfold Builtin.List.listTooLong
 exact decide_eq_false (by lia)
end
section
variable {X:Cx}
def NQ:V->List V->Hp->VK->Prop:=fun x vs H Q=>∃ l xs y,x=.ref l/\vs=[y]/\H l=some (.lst xs)/\xs.length<sizeLine/\Q .non (upd H l (.lst (xs++[y])))
theorem NM:MtM X "list.append" NQ:=by
 intro pins s σ H x vs v us Q I rx rv h
 obtain ⟨l,xs,y,rfl,rfl,hH,hz,q⟩:=h
 cases rx
 obtain ⟨u,rfl,ru⟩:=rv.one
 obtain ⟨z,its,n,r,hl,e⟩:=I.lstM hH
 refine call_meets F.slot_list_append ⟨_,e,rfl⟩ F.entry_list_append (F.args_list_append_2 _ _) (PySem.list_append l its.toArray n u (by rw[List.size_toArray];lia)) ⟨e,?_⟩
 refine ⟨.non,_,I.lset (its':=its++[u]) hH e (by simp) (r.append (.cons ru .nil)) ?_,rfl,q⟩
 rw[List.length_append,List.length_singleton]
 lia
def U6:V->List V->Hp->VK->Prop:=fun x vs H Q=>∃ l xs y,x=.ref l/\vs=[]/\H l=some (.lst xs)/\xs[xs.length - 1]?=some y/\Q y (upd H l (.lst xs.dropLast))
theorem SR:MtM X "list.pop" U6:=by
 intro pins s σ H x vs v us Q I rx rv h
 obtain ⟨l,xs,y,rfl,rfl,hH,hy,q⟩:=h
 cases rx
 have hus:=rv.zero
 subst hus
 obtain ⟨z,its,n,r,hl,e⟩:=I.lstM hH
 obtain ⟨u,hu,ru⟩:=r.get hy
 have hy':its.toArray[its.toArray.size - 1]?=some u:=by
  show its.toArray[its.length - 1]?=some u
  rw[<-Array.getElem?_toList,<-hl]
  exact hu
 refine call_meets F.slot_list_pop ⟨_,e,rfl⟩ F.entry_list_pop (F.args_list_pop_1 _) (MeetsSeq.list_pop_last l its.toArray n u hy' (by rw[List.size_toArray];lia)) ⟨e,?_⟩
 refine ⟨y,_,I.lset (its':=its.dropLast) hH e ?_ r.dropLast ?_,ru,q⟩
 ·show its.toArray.eraseIdxIfInBounds (its.toArray.size - 1)=its.dropLast.toArray
  rw[List.size_toArray,List.eraseIdxIfInBounds_toArray,Py]
 ·rw[List.length_dropLast]
  lia
def JM:R2:=fun x y H Q=>∃ l b xs zs,x=.ref l/\y=.ref b/\H l=some (.lst xs)/\H b=some (.lst zs)/\xs.length+zs.length<=sizeLine/\∀ p,H p=none->Q (.ref p) (upd H p (.lst (xs++zs)))
theorem LO:OpR X (binaryOp .Add) JM:=by
 intro pins s σ H x y v u Q I rx ry h
 obtain ⟨l,b,xs,zs,rfl,rfl,hH,hB,hz,q⟩:=h
 cases rx
 cases ry
 obtain ⟨z,its,n,r,hl,e⟩:=I.lstM hH
 obtain ⟨z2,its2,n2,r2,hl2,e2⟩:=I.lstM hB
 refine PySem.P.add_list e e2 ?_ (by rw[List.size_toArray,List.size_toArray];lia)
 have ea:its.toArray++its2.toArray=(its++its2).toArray:=by simp
 rw[ea]
 exact ⟨.ref _,_,I.lnew (t':=s.toks) (r.append r2) (by rw[List.length_append];lia),rfl,q _ I.fresh⟩
def J6:R2:=fun x y H Q=>∃ l k xs,x=.ref l/\y=.int k/\H l=some (.lst xs)/\-(2 ^ 63)<=k/\k<2 ^ 63/\xs.length * k.toNat<=sizeLine /\
 ∀ p,H p=none->Q (.ref p) (upd H p (.lst (List.replicate k.toNat xs).flatten))
theorem len_rep {α:Type} (xs:List α) (k:Nat):(List.replicate k xs).flatten.length=k * xs.length:=by
 induction k with
 | zero=>simp
 | succ k ih=>rw[List.replicate_succ,List.flatten_cons,List.length_append,ih,Nat.succ_mul,Nat.add_comm]
theorem UW:OpR X (binaryOp .Mult) J6:=by
 intro pins s σ H x y v u Q I rx ry h
 obtain ⟨l,k,xs,rfl,rfl,hH,h1,h2,hz,q⟩:=h
 cases rx
 obtain ⟨t,rfl⟩:=ry
 obtain ⟨z,its,n,r,hl,e⟩:=I.lstM hH
 have hlen:its.toArray.size * k.toNat<=sizeLine:=by rw[List.size_toArray,<-hl];exact hz
 have hcap:¬its.toArray.size * k.toNat > (2 ^ 63 - 1) / 8:=by
  have:(sizeLine:Nat)<=(2 ^ 63 - 1) / 8:=by decide
  lia
 have hfit:¬(!Builtin.List.listFitsIndex k)=true:=by
  rw[fitsIndex_both h1 h2]
  exact Bool.false_ne_true
 have hlong:¬Builtin.List.listTooLong (its.toArray.size * k.toNat)=true:=by
  rw[SI hlen]
  exact Bool.false_ne_true
 have hnew:List.foldl (fun x1 x2=>x1++x2) #[] (List.replicate (if its.toArray.isEmpty=true then 0 else k.toNat) its.toArray)=(List.replicate k.toNat its).flatten.toArray:=by
  have f0:∀ m:Nat,List.foldl (fun x1 x2=>x1++x2) #[] (List.replicate m its.toArray)=(List.replicate m its).flatten.toArray:=fun m=>by
   have:=foldl_rep its m []
   rw[List.nil_append] at this
   exact this
  rw[f0]
  cases its with
  | nil=>simp
  | cons a r'=>rw[if_neg (by simp)]
 refine wpAny_binaryOp_repeat_ref (T:="list") (U:="int") (by decide) ⟨_,e,rfl⟩ (fun s'=>typeIs_int s' k t) noFill_list_mul F.fills_int_mul F.slot_int_rmul repeat_list F.slot_int_index.lookup
  (call_meets F.slot_int_rmul (typeIs_int s k t) F.entry_int_rmul (F.args_int_rmul_2 _ _) (int___rmul___int_list k t l its.toArray n)
   ⟨e,rfl,⟨_,e,rfl⟩,call_meets F.slot_list_mul ⟨_,e,rfl⟩ F.entry_list_mul (F.args_list_mul_2 _ _) (AutoListH.list___mul___list_int_3 l its.toArray n k t hfit hcap hlong) ⟨e,?_⟩⟩)
 rw[hnew]
 exact ⟨.ref _,_,I.lnew (t':=s.toks) (r.rep k.toNat) (by rw[len_rep,Nat.mul_comm];exact hz),rfl,q _ I.fresh⟩
end
section
variable {prog:Program} {w:World} {A:Around} {E:Value->Shared->Prop} {s:Shared}
end
section
variable {X:Cx}
end
end L2
namespace Att
open PySem PySem.W PySem.Calls PyProof.Rows
theorem R9 {P:Params} {h:Heap}:∀ (ns:List Int) (vs:List Value),WellAll P h vs (ns.map WData.int)->IntsAre vs ns:=by
 intro ns
 induction ns with
 | nil=>
  intro vs w
  rw[List.map_nil] at w
  cases w
  exact .nil
 | cons n ns ih=>
  intro vs w
  rw[List.map_cons] at w
  cases w with
  | cons a b=>
   cases a
   exact .cons _ _ (ih _ b)
theorem Qn {l:OpenLaw} {n:Nat} (hn:l.most=some n) {P:Params} {h:Heap} {args:List WData} {vals:List Value}
  (hpre:l.row.toRowW.claim.pre args=true) (hwl:WellAll P h vals args) :
  ∃ a vs ns,vals=[Value.ref a]/\args=[WData.list (ns.map WData.int)]/\h.get? a=some {cls:=.type "list",data:=.seq vs.toArray}/\IntsAre vs ns/\ns.length<=n:=by
 have hsh:WShape.hasAll [] args [.list .int]=true:=(pre_splitW hpre).1
 have hc:l.pre.holds [] {args:=args}=true:=(pre_splitW hpre).2
 obtain ⟨d,r,rfl,h1,h2⟩:=hasAllW_cons hsh
 obtain rfl:=hasAllW_nil h2
 obtain ⟨xs,rfl,h3⟩:=hasW_list h1
 obtain ⟨ns,rfl⟩:=items_int h3
 have hlen:ns.length<=n:=by
  unfold OpenLaw.pre at hc
  have h4:(WTm.not (.lt (.lit (.int (n:Int))) (.len (.arg 0)))).holds [] {args:=[.list (ns.map .int)]}=true:=by
   have h4:=(holds_andW hc).1
   rw[hn] at h4
   exact h4
  have h5:=condW_of h4 (w_not (w_lt w_lit (w_len_list (w_arg rfl))))
  rw[List.length_map] at h5
  refine Nat.le_of_not_lt fun q=>?_
  have q':(n:Int)<((ns.length:Nat):Int):=by lia
  first
   | (rw[decide_eq_true q'] at h5;exact absurd h5 (by decide))
   | (simp at h5;lia)
 cases hwl with
 | cons w1 w2=>
  cases w2
  cases w1 with
  | list ho hall=>exact ⟨_,_,ns,rfl,rfl,ho,R9 ns _ hall,hlen⟩
theorem RA (l:OpenLaw) (args:List WData):l.row.toRowW.claim.post args (.bool true) args=true:=
 postW_of (r:=l.row.toRowW) (X:=(true == true))
  (show WShape.has [] (.bool true) .bool=true by first | rfl | decide | simp[WShape.has,WShape.arms,WShape.armsAll])
  (show (WTm.eq .res (.lit (.bool true))).value [] {args:=args,res:=some (.bool true),after:=args}=some (.bool (true == true)) from w_eq_bool (w_res rfl) w_lit) rfl
theorem RX {l:OpenLaw} {n:Nat} {q:Program} {loose:List Str} {XP:(Str->Option Value)->Heap->Prop} {YP:World->Heap->Prop} {d:DefRec}
  (hn:l.most=some n) (hdf:d.params.defaults=[])
  (call:∀ (w:World) (s₀ s₁:Shared) (mg mb:Str->Option Value) (fa:Addr) (o:Obj) (pm cd doc:Value) (a:Addr) (vs:List Value) (ns:List Int),
   Ground q loose [] XP w s₀ mg mb s₁.heap->YP w s₁.heap ->
   s₁.heap.get? fa=some o->o.data=.func (docDef d.name d.params d.body d.scope pm cd doc)->s₁.heap.CodeRec cd d.name->mg d.name=some (.ref fa) ->
   s₁.heap.get? a=some {cls:=.type "list",data:=.seq vs.toArray}->IntsAre vs ns->ns.length<=n->s₁.gens=#[] ->
   codeAny (model l.prog w) callerA (.call (.ref fa) ⟨[.ref a],[]⟩) (fun r s'=>r=.ok (.ret (.bool true))/\OldK s₁.heap s'.heap/\s'.os=s₁.os/\AllBare s'.gens) s₁) :
  WalkO q loose XP YP l.row.toRowW d [] (fun f vs=>PySem.call f vs):=by
 intro w s₀ s₁ mg mb G Y fa o pm cd doc dV kV ho hd hcd hD hmg hg args vals as hpre hlay hrd hwl hlo
 obtain rfl:dV=.none:=Dflts.none hD hdf
 obtain rfl:kV=.none:=Dflts.noKw hD
 obtain ⟨a,vs,ns,rfl,rfl,hobj,hints,hlen⟩:=Qn hn hpre hwl
 refine enter_call (codeAny_mono (call w s₀ s₁ mg mb fa o pm cd doc a vs ns G Y ho (fd_plain hd) hcd hmg hobj hints hlen hg) fun r s' hq=>?_)
 obtain ⟨rfl,h2,h3,h4⟩:=hq
 exact ⟨.inl ⟨.bool true,.bool true,[],rfl,fun _=>rfl,.bool true,RA l _,fun _=>⟨List.Pairwise.nil,fun _ hm=>(nomatch hm)⟩⟩,h2,h3,h4⟩
section
variable {prog:Program} {w:World} {A:Around} {E:Value->Shared->Prop} {s:Shared} {K:Frag}
end
end Att
namespace L2
open PySem PySem.Spec PyProof.Rows
theorem Ia:∀ {vs:List Value} {ns:List Int},IntsAre vs ns->Vals (ns.map V.int) vs
 | _,_,.nil=>.nil
 | _,_,.cons n t h=>.cons ⟨t,rfl⟩ (Ia h)
def IB (H:Hp):Prop:=∀ b,H b=none\/∃ o xs,H b=some (.frz o (.lst xs))
theorem Q3 {P:Program} {w:World} {K:PySem.W.Frag} {mg mb:Str->Option Value} {CX:CXT} {k:Nat} {fa a:Addr} {fd:FuncData} {x:Str} {sp:Sp} {s₁:Shared} {vs:List Value} {ns:List Int}
  (KX:K.In s₁.heap) (hns:s₁.heap.Ns mainGlobals mg) (hb:s₁.heap.Ns builtinsNs mb) (hbb:∀ x:Str,x≠"__name__"->mb x=bootBuiltins x) (hlim:s₁.heap.NoLimit) (hg:s₁.gens=#[])
  (ha:s₁.heap.get? a=some {cls:=.type "list",data:=.seq vs.toArray}) (hi:IntsAre vs ns) (hl:ns.length<=sizeLine) (hr:Room k callerA)
  (F:∀ base:Heap,K.In base->base.Ns mainGlobals mg->FnOk P w K mg base CX k fa fd [x] sp) (hbind:∀ (s:Shared) (u:Value),BindsTo s fd ⟨[u],[]⟩ [(x,u)])
  (hsp:∀ H:Hp,IB H->SqL K H a (ns.map V.int)->sp [.ref a] H (fun v _=>v=.bl true) fun _ _ _=>False)
  (hCX:∀ H e s',CX [] H s₁ (fun _ _ _=>False) e s'->False) :
  codeAny (model P w) callerA (.call (.ref fa) ⟨[.ref a],[]⟩) (fun r s'=>r=.ok (.ret (.bool true))/\OldK s₁.heap s'.heap/\s'.os=s₁.os/\AllBare s'.gens) s₁:=by
 have rv:=Ia hi
 have lenV:=hi.length
 have core:∀ H:Hp,IB H->SqL K H a (ns.map V.int)->HOk P w H s₁.heap->(∀ b,H b≠none->b=a)->(H a≠none->K.lookup a=none) ->
   codeAny (model P w) callerA (.call (.ref fa) ⟨[.ref a],[]⟩) (fun r s'=>r=.ok (.ret (.bool true))/\OldK s₁.heap s'.heap/\s'.os=s₁.os/\AllBare s'.gens) s₁:=by
  intro H hO hS hok hA hK
  have base_of:∀ {b:Addr} {o:Obj},s₁.heap.get? b=some o->H b=none->(DX s₁.heap H).get? b=some o:=fun e n=>UK e n
  have noA:∀ {b:Addr} {o:Obj} {es:Array DictEntry} {ep:Nat},s₁.heap.get? b=some o->o.data=.dict es ep->H b=none:=fun {b o es ep} e d=>by
   cases q:H b with
   | none=>rfl
   | some u=>
    have e':b=a:=hA b (by rw[q];simp)
    subst e'
    rw[ha] at e;cases e
    have d':Data.seq vs.toArray _=Data.dict es ep:=d
    cases d'
  have nsK:∀ {b:Addr} {m:Str->Option Value},s₁.heap.Ns b m->(DX s₁.heap H).Ns b m:=fun {b m} ⟨o,es,ep,e,d,r⟩=>⟨o,es,ep,base_of e (noA e d),d,r⟩
  have hKb:K.In (DX s₁.heap H):=fun b o e=>base_of (KX b o e) (by
   cases q:H b with
   | none=>rfl
   | some u=>
    have e':b=a:=hA b (by rw[q];simp)
    subst e'
    rw[hK (by rw[q];simp)] at e;cases e)
  have hM:Mod K mg (DX s₁.heap H):=⟨hKb,nsK hns,⟨mb,nsK hb,hbb⟩,let ⟨mc,h1,h2⟩:=hlim;⟨mc,nsK h1,h2⟩⟩
  have e0:Env0 P w K mg (DX s₁.heap H) callerA [] s₁ H:=⟨rfl,hM,fun b o e=>RV e,Nat.le_of_eq (Uo _ _),trivial,fun b hb=>absurd (show b∈([]:List Addr) from hb) (by simp),hok,.of_eq hg⟩
  refine codeAny_mono ((F _ hKb (nsK hns)).run callerA [] s₁ H ⟨[.ref a],[]⟩ [.ref a] [.ref a] _ _ hr e0 (hbind s₁ (.ref a)) (.cons rfl .nil) (hsp H hO hS)) fun r s' h=>?_
  cases r with
  | error e=>exact (hCX H e s' h).elim
  | ok fl=>
   cases fl with
   | next=>exact False.elim h
   | brk=>exact False.elim h
   | cont=>exact False.elim h
   | ret u=>
    obtain ⟨v,H',os,bare,un,hok',r',q⟩:=h
    have q':v=.bl true:=q
    subst q'
    obtain rfl:u=Value.bool true:=r'
    refine ⟨rfl,OldK.of_keep fun b o e=>?_,os,bare⟩
    cases q:H b with
    | none=>exact un.keep b o e q (by intro z;exact absurd (show b∈([]:List Addr) from z) (by simp)) (by simp)
    | some u=>
     rcases hO b with z | ⟨ob,xs,z⟩
     ·rw[q] at z;cases z
     ·have z2:=un.frzs b ob _ z
      obtain ⟨e1,_⟩:=hok b _ z
      obtain ⟨e2,_⟩:=hok' b _ z2
      rw[e] at e1;cases e1
      exact e2
 cases hk:K.lookup a with
 | some o=>
  have e:=KX a o hk
  rw[ha] at e
  cases e
  refine core (fun _=>none) (fun _=>.inl rfl) (.inr ⟨_,vs.toArray,_,hk,rfl,rfl,rfl,by rw[List.size_toArray,lenV];exact hl,by simpa using rv⟩) (fun b u z=>by have z':(none:Option HO)=some u:=z;cases z') (fun b z=>absurd rfl z) fun z=>absurd rfl z
 | none=>
  refine core (fun b=>if b=a then some (.frz {cls:=.type "list",data:=.seq vs.toArray} (.lst (ns.map V.int))) else none) (fun b=>?_) (.inl (.inr ⟨{cls:=.type "list",data:=.seq vs.toArray},if_pos rfl⟩)) (fun b u z=>?_) (fun b z=>?_) fun _=>hk
  ·by_cases hb:b=a
   ·exact .inr ⟨_,_,if_pos hb⟩
   ·exact .inl (if_neg hb)
  ·by_cases hb:b=a
   ·have z':=(if_pos hb).symm.trans z
    cases z'
    subst hb
    exact ⟨ha,by rw[List.length_map];exact hl,vs,_,rv,ha⟩
   ·have z':=(if_neg hb).symm.trans z
    cases z'
  ·by_cases hb:b=a
   ·exact hb
   ·exact absurd (if_neg hb) z
def Es (s:Stmt):Arguments:=match s with
 | .FunctionDef _ a _ _ _ _ _ _ _ _=>a
 | _=>{posonlyargs:=[],args:=[],vararg:=none,kwonlyargs:=[],kw_defaults:=[],kwarg:=none,defaults:=[]}
def Cu (s:Stmt):List Stmt:=match s with
 | .FunctionDef _ _ b _ _ _ _ _ _ _=>b
 | _=>[]
def Ac (s:Stmt):Scope:=match s with
 | .FunctionDef _ _ _ _ _ _ sc _ _ _=>sc
 | _=>{kind:=.function,names:=[],isGenerator:=false,isCoroutine:=false}
abbrev CX0:CXT:=fun _ _ _ _ _ _=>False
abbrev E0:XK:=fun _ _ _=>False
theorem Ji {X:Cx}:HN CX0 X E0:=fun _ _ _ _ _ _ _ h=>h.elim
structure Fun (K:PySem.W.Frag) (x qual:Str) (st:Stmt) (f:Addr) (fd:FuncData):Prop where
 ex:∃ (oc:Value) (od:Option Addr) (kV doc pm:Value) (an:Option Addr) (cdv ct:Value) (osl:Array (Option Value)),
  fd=PySem.W.fnOf x qual (Es st) (Cu st) (Ac st) .none kV doc pm an cdv ct/\K.lookup f=some ⟨oc,od,.func fd,osl⟩/\PySem.W.codeIn K cdv qual=true
 kp:PySem.W.keepIn K (.ref f)=true
section
variable {P:Program} {w:World} {K:PySem.W.Frag} {mg:Str->Option Value} {base:Heap}
theorem Fun.ok {x qual:Str} {st:Stmt} {f:Addr} {fd:FuncData} {N ps:List Str} {k:Nat} {sp:Sp} (F:Fun K x qual st f fd) (S:FnScope N ps (Ac st)) (len:∀ vs H Q E,sp vs H Q E->vs.length=ps.length)
  (hbody:∀ (cdv:Value) (A:Around) (outer:List Env) (s:Shared) (H:Hp) (vs:List V) (Q:VK) (E:XK),Room k (A.deeper (envOfC qual (Ac st) s.heap.objs.size f cdv))->sp vs H Q E ->
   ∃ t,PSs (C4 CX0 P w K mg base N qual (Ac st) f cdv A outer s H E).nox (Cu st) t/\t {nx:=fun _ H'=>Q .non H',rt:=Q} (start N vs) H):FnOk P w K mg base CX0 (k+1) f fd ps sp:=by
 obtain ⟨oc,od,kV,doc,pm,an,cdv,ct,osl,rfl,lk,hcd⟩:=F.ex
 refine KP lk hcd S len fun A outer s H vs Q E hr hsp=>?_
 obtain ⟨t,h,q⟩:=hbody cdv A outer s H vs Q E hr hsp
 exact ⟨t,h.nox,q⟩
theorem Fun.binds {x qual:Str} {st:Stmt} {f:Addr} {fd:FuncData} {ps:List Str} (F:Fun K x qual st f fd)
  (h:∀ (kV doc pm:Value) (an:Option Addr) (cdv ct:Value) (us:List Value),us.length=ps.length->bindArgs (PySem.W.fnOf x qual (Es st) (Cu st) (Ac st) .none kV doc pm an cdv ct) ⟨us,[]⟩=pure (ps.zip us)):Binds K fd ps []:=by
 obtain ⟨oc,od,kV,doc,pm,an,cdv,ct,osl,rfl,lk,hcd⟩:=F.ex
 exact .all (h kV doc pm an cdv ct)
end
section
variable {X:Cx}
theorem pv (i:Nat) {x:Str} {pos:Pos} (hN:X.N[i]?=some x:=by rfl) (hv:Vis X.env.scope x:=by first | exact Or.inl rfl | exact Or.inr (Or.inl rfl) | exact Or.inr (Or.inr rfl)) (hd:(x == ("__debug__":Str))=false:=by decide)
  (hcd:(x == ("__classdict__":Str))=false:=by decide):PE X (.Name x pos) (GZ i):=LY hN hv hd hcd
end
theorem HB {A B:Prop} (h:B):if false=true then A else B:=by
 rw[if_neg Bool.false_ne_true]
 exact h
theorem K4 {A B:Prop} (h:A):if true=true then A else B:=by
 rw[if_pos rfl]
 exact h
end L2
namespace HD
open PySem PySem.W PySem.Calls PyProof.Rows L2
def FR (h:Heap):Frag:=(List.range h.objs.size).filterMap fun a=>(h.get? a).map fun o=>(a,o)
theorem MC {β:Type} {a:Nat} {o:β}:∀ {l:List (Nat×β)},l.lookup a=some o->(a,o)∈l
 | [],h=>by cases h
 | (b,x)::l,h=>by
  rw[List.lookup_cons] at h
  by_cases e:a=b
  ·subst e
   rw[beq_self_eq_true] at h
   cases h
   exact .head _
  ·rw[beq_false_of_ne e] at h
   exact .tail _ (MC h)
theorem OW (h:Heap):(FR h).In h:=by
 intro a o e
 obtain ⟨b,_,hb⟩:=List.mem_filterMap.mp (MC e)
 obtain ⟨o',h1,h2⟩:=Option.map_eq_some_iff.mp hb
 cases h2
 exact h1
abbrev Sn:=Option (Str×Str×Arguments×FuncBody×Scope×Addr×List (Str×Addr)×Value×Addr×Bool)
def GQ (K:Frag) (x:Str):Sn:=match nsIn K mainGlobals x with
 | some (some (.ref f))=>(match K.lookup f with
  | some ⟨_,_,.func d,_⟩=>some (d.name,d.qualname,d.params,d.body,d.scope,d.globals,d.closure,d.defaults,d.builtins,codeIn K d.code x)
  | _=>none)
 | _=>none
def Fs (p:Str×Stmt):Sn:=some (p.1,p.1,Es p.2,.stmts (Cu p.2),Ac p.2,mainGlobals,[],.none,builtinsNs,true)
theorem BY {K:Frag} {x:Str} {st:Stmt} (h:GQ K x=Fs (x,st)):∃ (f:Addr) (fd:FuncData),nsIn K mainGlobals x=some (some (.ref f))/\Fun K x x st f fd:=by
 unfold GQ at h
 split at h
 ·rename_i f hn
  split at h
  ·rename_i oc od d sl hl
   simp only[Fs,Option.some.injEq,Prod.mk.injEq] at h
   obtain ⟨d1,d2,d3,d4,d5,d6,d7,d8,d9,c⟩:=h
   have z:d=fnOf x x (Es st) (Cu st) (Ac st) .none d.kwdefaults d.doc d.pyModule d.annotations d.code d.closureTuple:=by
    cases d
    simp only[FuncData.mk.injEq]
    exact ⟨d1,d2,d3,d4,d5,d6,d7,d8,trivial,trivial,trivial,trivial,trivial,trivial,d9⟩
   refine ⟨f,d,hn,⟨?_,?_⟩⟩
   ·exact ⟨oc,od,d.kwdefaults,d.doc,d.pyModule,d.annotations,d.code,d.closureTuple,sl,z,hl,c⟩
   ·show (match K.lookup f with | some ⟨_,_,.func _,_⟩=>true | some ⟨_,_,.cls _,_⟩=>_ | _=>false)=true
    rw[hl]
  ·cases h
 ·cases h
theorem BI {α β:Type} {g h:α->β}:∀ {L:List α} {i:Nat} {x:α},L.map g=L.map h->L[i]?=some x->g x=h x
 | [],_,_,_,e=>by cases e
 | y::L,0,x,m,e=>by cases e;exact (List.cons.inj m).1
 | y::L,i+1,x,m,e=>BI (List.cons.inj m).2 e
def Fm (K:Frag) (x:Str):Option Int:=match nsIn K mainGlobals x with
 | some (some (.int n _))=>some n
 | _=>none
theorem int_at {K:Frag} {x:Str} {n:Int} (h:Fm K x=some n):∃ ty,nsIn K mainGlobals x=some (some (.int n ty)):=by
 unfold Fm at h
 split at h
 ·cases h;rename_i ty e;exact ⟨ty,e⟩
 ·cases h
def GW (K:Frag) (x:Str):Option Str:=match nsIn K mainGlobals x with
 | some (some (.str n _))=>some n
 | _=>none
theorem Pq {K:Frag} {x n:Str} (h:GW K x=some n):∃ ty,nsIn K mainGlobals x=some (some (.str n ty)):=by
 unfold GW at h
 split at h
 ·cases h;rename_i ty e;exact ⟨ty,e⟩
 ·cases h
def stp (p:Program) (N:Nat) (w:World) (os:OsState):Option Shared:=
 topRun treeTable p w (boot_heap w.params).objs.size ((boot_heap w.params).nsMap mainGlobals "__annotations__") N ⟨boot_heap w.params,Array.mk [],boot_drawn,boot_toks,os⟩ (topStub p)
theorem Q5:(fun P=>(boot_heap P).isNs mainGlobals && (Array.mk []:Array GenState).size == 0)=fun _=>true:=by kernel_rfl
def Nh (p q:Program) (loose:List Str) (N:Nat) (w:World) (os:OsState):=(stp p N w os).map fun s=>openSeen q loose (importedModules p.main.body) (fun _=>true) true s
def LR {α:Type} (p:Program) (N:Nat) (obs:Frag->α) (w:World) (os:OsState):=(stp p N w os).map fun s=>obs (FR s.heap)
def runC (p:Program) (N:Nat) (w:World) (os:OsState):=(stp p N w os).map fun s=>staticsOk (importedModules p.main.body) (boot_heap w.params) s.heap && namesBound p s.heap && gensDone s && laidKept (boot_heap w.params) s.heap
theorem O8 {α:Type} {p q:Program} {loose:List Str} {N:Nat} {obs:Frag->α} {val:α} (e:opening p=plainProg p.main.scope.names) (hN:Nat.ble 600 N=true) (f:∀ s,fenceModules? p s=some s)
  (hA:∀ w os,Nh p q loose N w os=some (openGood q loose)) (hB:∀ w os,LR p N obs w os=some val) (hC:∀ w os,runC p N w os=some true):LeftO p q loose (fun _=>true) (fun s=>obs (FR s.heap)) (fun _=>val) N:=fun w=>by
 obtain ⟨⟨H,gs,d,k,os⟩,e1,e2⟩:=Option.map_eq_some_iff.mp (boot_open e hN f w)
 simp only[Prod.mk.injEq] at e2
 obtain ⟨rfl,rfl,rfl,rfl⟩:=e2
 obtain ⟨s,h1,h2⟩:=Option.map_eq_some_iff.mp (hA w os)
 obtain ⟨s',h3,h4⟩:=Option.map_eq_some_iff.mp (hB w os)
 obtain ⟨s2,h5,h6⟩:=Option.map_eq_some_iff.mp (hC w os)
 rw[h1] at h3 h5
 cases h3
 cases h5
 unfold openEnds
 rw[e1]
 have z:topFrom treeTable p w N ⟨boot_heap w.params,Array.mk [],boot_drawn,boot_toks,os⟩=some s:=by
  unfold topFrom
  dsimp only
  rw[congrFun Q5 w.params]
  show (stp p N w os).bind _=_
  rw[h1]
  show (match _ with | true=>some s | false=>none)=_
  rw[h6]
 show (topFrom treeTable p w N _).map _=_
 rw[z,Option.map_some,h2]
 exact congrArg (fun z=>some (openGood q loose,z)) h4
theorem SJ {α:Type} {l:OpenLaw} {n k:Nat} {q:Program} {loose:List Str} {XP:(Str->Option Value)->Heap->Prop} {d:DefRec} {obs:Frag->α} {val:α} {x:Str} {sp:Frag->Sp}
  (hn:l.most=some n) (hn2:n<=sizeLine) (hdf:d.params.defaults=[]) (hr:Room k callerA)
  (F:∀ (w:World) (K:Frag) (mg:Str->Option Value) (fa:Addr) (h:Heap),obs K=val->K.In h->h.Ns mainGlobals mg->mg d.name=some (.ref fa) ->
   ∃ fd:FuncData,(∀ (s:Shared) (u:Value),BindsTo s fd ⟨[u],[]⟩ [(x,u)])/\∀ base:Heap,K.In base->base.Ns mainGlobals mg->FnOk l.prog w K mg base CX0 k fa fd [x] (sp K))
  (hsp:∀ (K:Frag) (H:Hp) (a:Addr) (ns:List Int),ns.length<=n->IB H->SqL K H a (ns.map V.int)->sp K [.ref a] H (fun v _=>v=.bl true) fun _ _ _=>False) :
  WalkO q loose XP (fun _ h=>∃ K:Frag,obs K=val/\K.In h) l.row.toRowW d [] (fun f vs=>PySem.call f vs):=by
 refine Att.RX hn hdf fun w s0 s1 mg mb fa o pm cd doc a vs ns G Y ho hd hcd hmg hobj hints hlen hg=>?_
 obtain ⟨K,hK,KX⟩:=Y
 obtain ⟨fd,hb,hF⟩:=F w K mg fa _ hK KX G.T.g hmg
 exact Q3 KX G.T.g G.T.b G.T.builtins G.T.nolimit hg hobj hints (Nat.le_trans hlen hn2) hr hF hb (fun H hO hS=>hsp K H a ns hlen hO hS) fun _ _ _ z=>z
theorem SH {α:Type} {l:OpenLaw} {q:Program} {loose:List Str} {N:Nat} {obs:Frag->α} {val:α} {d:DefRec} {kwd:List (Str×Expr)} (said:l.row.wellSaid=true)
  (e:opening l.prog=plainProg l.prog.main.scope.names) (hN:Nat.ble 600 N=true) (f:∀ s,fenceModules? l.prog s=some s) (hA:∀ w os,Nh l.prog q loose N w os=some (openGood q loose)) (hB:∀ w os,LR l.prog N obs w os=some val) (hC:∀ w os,runC l.prog N w os=some true)
  (hdef:defOf q l.name=some (d,kwd)) (hp:l.prog.theDef l.name=some (d.params,d.body,d.scope)) (hk:kwWritten? d.params.kwonlyargs d.params.kw_defaults=some kwd)
  (hwr:(!l.row.writes || l.row.records.isEmpty)=true) (ok:(chainsOk q && opensWell l.prog && (frees l.row.toRowW && l.row.within.isEmpty))=true) (hb:l.prog.bare) (hw:l.row.toRowW.promised)
  (call:WalkO q loose (fun _ _=>True) (fun _ h=>∃ K:Frag,obs K=val/\K.In h) l.row.toRowW d kwd fun f vs=>PySem.call f vs):l.row.Holds:=
 holds_open (r:=l.row) (q:=q) (loose:=loose) (Xt:=fun _=>true) (XP:=fun _ _=>True) (YP:=fun _ h=>∃ K:Frag,obs K=val/\K.In h) (N:=N) (O8 e hN f hA hB hC)
  (fun _ s y=>⟨_,y,OW s.heap⟩) (fun _ _ _ ⟨K,a,b⟩ k=>⟨K,a,b.keeps k⟩) (fun _ _=>trivial) (fun _ _ _ _ _=>trivial) hdef hp hk (fun _ _=>⟨fun _ z=>(nomatch z),fun _ z=>(nomatch z),fun _ _ _ z=>(nomatch z),fun _ _ z=>(nomatch z)⟩) hwr said ok hb hw call
end HD
namespace DL
open PySem L2 HD PySem.W
def tp (i:Nat):Stmt:=PySem.Challenge.pw_evenlots_k45_texts_of_no_rows.main.body.getD i (.Pass ⟨0,0,0,0⟩)
def qv:Program:={PySem.Challenge.pw_evenlots_k45_texts_of_no_rows with main:={PySem.Challenge.pw_evenlots_k45_texts_of_no_rows.main with body:=[tp 36]}}
def lse:List Str:=(PySem.Challenge.pw_evenlots_k45_texts_of_no_rows.main.scope.names.map (·.1)).filter fun x=>!(x == "law")
def fns:List (Str×Stmt):=[("_law_row_written",tp 27),("_law_written",tp 28),("_law_take",tp 23),("_law_key",tp 24),("_law_tag",tp 25),("_law_rows",tp 26),("_law_numbers",tp 21),("_law_deck",tp 22),("_law_cell_at",tp 20),("_law_changed",tp 33),("_law_parts_changed",tp 34),("_law_odd",tp 35),("_law_thing",tp 30),("_law_read",tp 31),("are_figures",tp 14),("is_key",tp 15),("is_tag",tp 10),("read_thing",tp 16),("read_row",tp 17),("read_rows",tp 18),("_law_asked",tp 32),("_law_alike",tp 29),("law",tp 36)]
def bls:List Str:=["len","range","isinstance","bool","int","str","list","tuple","zip","enumerate","sorted","max","min","abs","sum","all","any","set"]
def nts:List (Str×Int):=[("MOST_FIGURES",30),("MOST_LETTERS",8),("MOST_HANDS",6)]
def ob (K:Frag):=(fns.map fun p=>GQ K p.1,bls.map fun x=>nsIn K mainGlobals x,nts.map fun p=>Fm K p.1,PySem.W.nsIn K mainGlobals "NoText",PySem.W.nsIn K mainGlobals "LotError",PySem.W.nsIn K mainGlobals "NoDeed",PySem.W.nsIn K mainGlobals "NoName",PySem.W.nsIn K mainGlobals "NoNumber",PySem.W.nsIn K mainGlobals "NoRow",PySem.W.nsIn K mainGlobals "ValueError",PySem.W.excIn K 61 [.type "ValueError",.type "Exception",.type "BaseException",.type "object"] "ValueError.__new__",PySem.W.exmOne K (.ref 61) (.ref 24),PySem.W.findIn K (.ref 61) "__getattribute__",PySem.W.findIn K (.ref 61) "__getattr__",PySem.W.subIn K (.ref 61) (.type "BaseException"),PySem.W.findObj K 61 none "__class__",PySem.W.mroIn K 61 (.type "object"),PySem.W.kitAny K (.ref 61) [.ref 49,.ref 73,.ref 37,.ref 85],PySem.W.kitOne K (.ref 61) (.type "ValueError"),PySem.W.kitOne K (.ref 61) (.ref 61),GW K "NO_THINGS")
def vl:List Sn×List (Option (Option Value))×List (Option Int)×Option (Option Value)×Option (Option Value)×Option (Option Value)×Option (Option Value)×Option (Option Value)×Option (Option Value)×Option (Option Value)×Bool×Option Bool×Option (Option Value)×Option (Option Value)×Option Bool×Option Builtin.ObjectAttr.Found×Option Bool×Option Bool×Option Bool×Option Bool×Option Str:=(fns.map Fs,bls.map fun _=>some none,nts.map fun p=>some p.2,some (some (.ref 61)),some (some (.ref 24)),some (some (.ref 49)),some (some (.ref 73)),some (some (.ref 37)),some (some (.ref 85)),some none,true,some true,some (some (.builtin "BaseException.__getattribute__")),some none,some true,some (.bind (.builtin "getset_descriptor.__get__") (.builtin "object.__class__")),some true,some false,some true,some true,some "-")
def RUA (w:World) (os:OsState):=(topRun treeTable PySem.Challenge.pw_evenlots_k45_texts_of_no_rows w (boot_heap w.params).objs.size ((boot_heap w.params).nsMap mainGlobals "__annotations__") 100000 ⟨boot_heap w.params,Array.mk [],boot_drawn,boot_toks,os⟩ (topStub PySem.Challenge.pw_evenlots_k45_texts_of_no_rows)).map fun (s:Shared)=>openSeen qv lse (importedModules PySem.Challenge.pw_evenlots_k45_texts_of_no_rows.main.body) (fun _=>true) true s
def RUB (w:World) (os:OsState):=(topRun treeTable PySem.Challenge.pw_evenlots_k45_texts_of_no_rows w (boot_heap w.params).objs.size ((boot_heap w.params).nsMap mainGlobals "__annotations__") 100000 ⟨boot_heap w.params,Array.mk [],boot_drawn,boot_toks,os⟩ (topStub PySem.Challenge.pw_evenlots_k45_texts_of_no_rows)).map fun (s:Shared)=>ob (FR s.heap)
def RUC (w:World) (os:OsState):=(topRun treeTable PySem.Challenge.pw_evenlots_k45_texts_of_no_rows w (boot_heap w.params).objs.size ((boot_heap w.params).nsMap mainGlobals "__annotations__") 100000 ⟨boot_heap w.params,Array.mk [],boot_drawn,boot_toks,os⟩ (topStub PySem.Challenge.pw_evenlots_k45_texts_of_no_rows)).map fun (s:Shared)=>staticsOk (importedModules PySem.Challenge.pw_evenlots_k45_texts_of_no_rows.main.body) (boot_heap w.params) s.heap && namesBound PySem.Challenge.pw_evenlots_k45_texts_of_no_rows s.heap && gensDone s && laidKept (boot_heap w.params) s.heap
theorem T8:RUA=fun _ _=>some (openGood qv lse):=by
 have h0:Function.const _ true RUA=true:=by k_qdec
 clear h0
 rw[PySem.W.Fast.te7901502448135333141,PySem.W.Fast.te17113634627043827754,PySem.W.Fast.te11101308186888466343]
 kernel_rfl
theorem Ry:RUB=fun _ _=>some vl:=by
 have h0:Function.const _ true RUB=true:=by k_qdec
 have h1:Function.const _ true vl=true:=by k_qdec
 clear h0 h1
 rw[PySem.W.Fast.te2813855401462900763,PySem.W.Fast.te15028064660855214787]
 kernel_rfl
theorem PF:RUC=fun _ _=>some true:=by
 have h0:Function.const _ true RUC=true:=by k_qdec
 clear h0
 rw[PySem.W.Fast.te7225883687914735966]
 kernel_rfl
end DL
namespace EvS
open PySem PyProof.Rows
structure Cmp (prog:Program) (w:World) (A:Around) (E:Value->Shared->Prop) (s:Shared) (kd:SortKind) (good:Keyed->Prop) (lt:Keyed->Keyed->Bool):Prop where
 run:∀ {st:SortSt} {x y:Keyed} {Q:Option Bool->SortSt->Prop},kindOf st=kd->good x->good y->Q (some (lt x y)) st->wpS (model prog w) A E s (lt' x y) Q st
section
variable {prog:Program} {w:World} {A:Around} {E:Value->Shared->Prop} {s:Shared} {kd:SortKind} {good:Keyed->Prop} {lt:Keyed->Keyed->Bool} {st:SortSt}
variable {left:Bool} {key:Keyed} {xs:Array Keyed} {b n:Nat} {B:Nat->Bool} {Q:Option Nat->SortSt->Prop}
end
abbrev dnA (a b o:Array Keyed) (p q:Nat):Array Keyed:=o++a.extract p a.size++b.extract q b.size
abbrev lAA (a b o:Array Keyed) (p q:Nat):Array Keyed:=o++b.extract q b.size++a.extract p a.size
structure Ord (good:Keyed->Prop) (lt:Keyed->Keyed->Bool):Prop where
 tr:∀ {x y z},good x->good y->good z->lt y x=false->lt z y=false->lt z x=false
 tot:∀ {x y},good x->good y->lt x y=true->lt y x=false
abbrev LE (lt:Keyed->Keyed->Bool) (x y:Keyed):Prop:=lt y x=false
structure SL (good:Keyed->Prop) (lt:Keyed->Keyed->Bool) (l:List Keyed):Prop where
 all:∀ x∈l,good x
 srt:l.Pairwise (LE lt)
structure MI (good:Keyed->Prop) (lt:Keyed->Keyed->Bool) (a b o:List Keyed) (p q:Nat):Prop where
 perm:(o++(a.drop p++b.drop q)).Perm (a++b)
 srt:o.Pairwise (LE lt)
 low:∀ x∈o,∀ y∈a.drop p++b.drop q,LE lt x y
 pa:p<=a.length
 qb:q<=b.length
section
variable {good:Keyed->Prop} {lt:Keyed->Keyed->Bool} {a b o:List Keyed} {p q k:Nat} {x:Keyed}
def Good (lt:Keyed->Keyed->Bool) (a b:List Keyed) (r:List Keyed):Prop:=r.Perm (a++b)/\r.Pairwise (LE lt)
end
structure SG (st st':SortSt):Prop where
 kind:kindOf st'=kindOf st
 arr:arrOf st'=arrOf st
 pend:pendingOf st'=pendingOf st
 fail:failedOf st'=failedOf st
abbrev LoS:=Option (Array Keyed)×Array Keyed×Nat×Nat×Nat×Nat×Nat
section
variable {prog:Program} {w:World} {A:Around} {E:Value->Shared->Prop} {s:Shared} {kd:SortKind} {good:Keyed->Prop} {lt:Keyed->Keyed->Bool} {st:SortSt} {a b:Array Keyed} {Q:Array Keyed->SortSt->Prop}
structure LoL (good:Keyed->Prop) (lt:Keyed->Keyed->Bool) (a b:Array Keyed):Prop where
 sa:SL good lt a.toList
 sb:SL good lt b.toList
 lowB:∀ {p q:Nat} {x y:Keyed},a.toList[p]?=some x->b.toList[q]?=some y->LE lt y x->∀ z∈a.toList.drop p,LE lt y z
 lowA:∀ {p q:Nat} {x y:Keyed},a.toList[p]?=some x->b.toList[q]?=some y->LE lt x y->∀ z∈b.toList.drop q,LE lt x z
structure LoR (good:Keyed->Prop) (lt:Keyed->Keyed->Bool) (a b:Array Keyed) (n:Nat) (R:ForInStep LoS->SortSt->Prop) (st:SortSt):Prop where
 fin:∀ {o:Array Keyed} {p q:Nat} {z},MI good lt a.toList b.toList o.toList p q->(p=a.size\/q=b.size)->R (.done (some (dnA a b o p q),z)) st
 las:∀ {o:Array Keyed} {p q:Nat} {z},MI good lt a.toList b.toList o.toList p q->p+1=a.size->R (.done (some (lAA a b o p q),z)) st
 don:∀ {o:Array Keyed} {p q mg ac bc:Nat},MI good lt a.toList b.toList o.toList p q->p+1<a.size->q<b.size->n<=o.size->R (.done (none,o,p,q,mg,ac,bc)) st
 yie:∀ {o:Array Keyed} {p q mg ac bc:Nat},MI good lt a.toList b.toList o.toList p q->p+1<a.size->q<b.size->n<=o.size->R (.yield (none,o,p,q,mg,ac,bc)) st
end
abbrev dnB (a b o:Array Keyed) (p q:Nat):Array Keyed:=a.extract 0 p++b.extract 0 q++o.reverse
abbrev fBB (a b o:Array Keyed) (p q:Nat):Array Keyed:=b.extract 0 q++a.extract 0 p++o.reverse
structure MH (good:Keyed->Prop) (lt:Keyed->Keyed->Bool) (a b o:List Keyed) (p q:Nat):Prop where
 perm:(a.take p++(b.take q++o.reverse)).Perm (a++b)
 srt:o.reverse.Pairwise (LE lt)
 low:∀ x∈o,∀ y∈a.take p++b.take q,LE lt y x
 pa:p<=a.length
 qb:q<=b.length
section
variable {good:Keyed->Prop} {lt:Keyed->Keyed->Bool} {a b o:List Keyed} {p q k:Nat} {x:Keyed}
end
section
variable {good:Keyed->Prop} {lt:Keyed->Keyed->Bool} {a b o:List Keyed} {p q u:Nat} {x:Keyed}
end
abbrev HiS:=Option (Array Keyed)×Nat×Nat×Array Keyed×Nat×Nat×Nat
section
variable {prog:Program} {w:World} {A:Around} {E:Value->Shared->Prop} {s:Shared} {kd:SortKind} {good:Keyed->Prop} {lt:Keyed->Keyed->Bool} {st:SortSt} {a b:Array Keyed} {Q:Array Keyed->SortSt->Prop}
structure HiL (good:Keyed->Prop) (lt:Keyed->Keyed->Bool) (a b:Array Keyed):Prop where
 sa:SL good lt a.toList
 sb:SL good lt b.toList
 upA:∀ {p q:Nat} {x y:Keyed},0<q->a.toList[p]?=some x->b.toList[q - 1]?=some y->LE lt y x->∀ z∈b.toList.take q,LE lt z x
 upB:∀ {p q:Nat} {x y:Keyed},0<p->a.toList[p - 1]?=some x->b.toList[q]?=some y->LE lt x y->∀ z∈a.toList.take p,LE lt z y
structure HiR (good:Keyed->Prop) (lt:Keyed->Keyed->Bool) (a b:Array Keyed) (n:Nat) (R:ForInStep HiS->SortSt->Prop) (st:SortSt):Prop where
 fin:∀ {o:Array Keyed} {p q:Nat} {z},MH good lt a.toList b.toList o.toList p q->(p=0\/q=0)->R (.done (some (dnB a b o p q),z)) st
 fst:∀ {o:Array Keyed} {p q:Nat} {z},MH good lt a.toList b.toList o.toList p q->q=1->R (.done (some (fBB a b o p q),z)) st
 don:∀ {o:Array Keyed} {p q mg ac bc:Nat},MH good lt a.toList b.toList o.toList p q->0<p->1<q->n<=o.size->R (.done (none,p,q,o,mg,ac,bc)) st
 yie:∀ {o:Array Keyed} {p q mg ac bc:Nat},MH good lt a.toList b.toList o.toList p q->0<p->1<q->n<=o.size->R (.yield (none,p,q,o,mg,ac,bc)) st
end
def G (xs:Array Keyed) (k:Nat):Keyed:=xs[k]?.getD (.none,.none)
def Out (lo hi:Nat) (xs ys:Array Keyed):Prop:=∀ k,(k<lo\/hi<=k)->ys[k]?=xs[k]?
structure SB (kd:SortKind) (a₀:Array Keyed) (st:SortSt):Prop where
 perm:(arrOf st).Perm a₀
 kind:kindOf st=kd
 fail:failedOf st=none
section
variable {prog:Program} {w:World} {A:Around} {E:Value->Shared->Prop} {s:Shared} {kd:SortKind} {good:Keyed->Prop} {lt:Keyed->Keyed->Bool} {st:SortSt} {a₀:Array Keyed}
def Asc (lt:Keyed->Keyed->Bool) (xs:Array Keyed) (lo n:Nat):Prop:=∀ i j,lo<=i->i<=j->j<lo+n->LE lt (G xs i) (G xs j)
end
section
variable {prog:Program} {w:World} {A:Around} {E:Value->Shared->Prop} {s:Shared} {kd:SortKind} {good:Keyed->Prop} {lt:Keyed->Keyed->Bool} {st:SortSt} {a₀:Array Keyed} {lo nrem:Nat} {Q:Option Nat->SortSt->Prop}
end
section
variable {prog:Program} {w:World} {A:Around} {E:Value->Shared->Prop} {s:Shared} {kd:SortKind} {good:Keyed->Prop} {lt:Keyed->Keyed->Bool} {st:SortSt} {a₀:Array Keyed} {lo nrem:Nat}
end
section
variable {prog:Program} {w:World} {A:Around} {E:Value->Shared->Prop} {s:Shared} {kd:SortKind} {good:Keyed->Prop} {lt:Keyed->Keyed->Bool} {st:SortSt} {a₀:Array Keyed}
end
section
variable {lt:Keyed->Keyed->Bool} {xs ys:Array Keyed}
end
section
variable {prog:Program} {w:World} {A:Around} {E:Value->Shared->Prop} {s:Shared} {kd:SortKind} {good:Keyed->Prop} {lt:Keyed->Keyed->Bool} {st:SortSt} {a₀:Array Keyed}
end
section
variable {prog:Program} {w:World} {A:Around} {E:Value->Shared->Prop} {s:Shared}
end
section
variable {prog:Program} {w:World} {A:Around} {E:Value->Shared->Prop} {s:Shared}
def GK (h:Heap) (ν:Value->List Int) (v:Value):Prop:=∃ a o xs n,v=.ref a/\h.get? a=some o/\o.cls=.type "tuple"/\o.data=.seq xs n/\IntsAre xs.toList (ν v)/\ν v≠[]
end
end EvS
namespace EvS
open PySem PySem.Spec PyProof.Rows
section
variable {prog:Program} {w:World} {A:Around} {E:Value->Shared->Prop} {s:Shared}
end
end EvS
namespace L2
open PySem PySem.Spec PyProof.Rows
section
variable {prog:Program} {w:World} {A:Around} {R:Result->Shared->Prop} {s:Shared}
theorem Qi {elt tg src:Expr} {tests:List Expr} {sc:Scope} {cp:Pos} {it acc:Value} {ev:Env} {Xn:Value->Shared->Prop} (J:Nat->Shared->Prop) (hX:∀ e s,Xn e s->notedBy (model prog w) A ev (fun e s'=>R (.error e) s') e s)
  (turn:∀ n s,J n s->wpAny (model prog w) A (pyNext it) (fun r s1=>match r with
   | none=>R (.ok .next) s1
   | some v=>wpAny (model prog w) A (letOwnedTupleGo tg it v) (fun _ s2=>wpAny (model prog w) A (assign tg ev v) (fun _ s3=>
     wpAny (model prog w) A (forIn tests true fun c r=>if r=true then do let ok <-isTrue c ev (eval c ev);pure (ForInStep.yield ok) else pure (ForInStep.yield r)) (fun ok s4=>
      if ok=true then wpAny (model prog w) A (eval elt ev) (fun x s5=>wpAny (model prog w) A (call (.builtin "list.append") [acc,x]) (fun _ s6=>∃ m,m<n/\J m s6) Xn s5) Xn s4
      else ∃ m,m<n/\J m s4) Xn s3) Xn s2) Xn s1) Xn s)
  (n:Nat) (h:J n s):codeAny (model prog w) A (.compLoop (.ListComp elt [⟨tg,src,tests,0⟩] sc cp) 0 it acc ev) R s:=by
 refine codeAny_loop rfl J (fun n s hJ=>?_) n h
 show wpAny _ A ((compTurn (.ListComp elt [⟨tg,src,tests,0⟩] sc cp) 0 it acc ev).onRaise (fun x=>do noteFrame x ev;theTreesLotGoes x)) _ _ s
 refine wpAny_noted ?_
 rw[compTurn_list]
 refine wpAny_bind (wpAny_standAt (wpAny_bind (wpAny_mono (turn n s hJ) (fun r s1 h1=>?_) hX)))
 cases r with
 | none=>exact wpAny_pure h1
 | some v=>
  refine wpAny_bind (wpAny_mono h1 (fun _ s2 h2=>?_) hX)
  refine wpAny_bind (wpAny_mono h2 (fun _ s3 h3=>wpAny_bind (wpAny_mono h3 (fun ok s4 h4=>?_) hX)) hX)
  cases ok with
  | false=>exact wpAny_pure ⟨rfl,h4⟩
  | true=>exact wpAny_bind (wpAny_bind (wpAny_mono h4 (fun x s5 h5=>wpAny_bind (wpAny_mono h5 (fun _ s6 h6=>wpAny_pure (wpAny_pure ⟨rfl,h6⟩)) hX)) hX))
end
theorem JL {ev:Env} {F:Str×NameKind->List (Str×Addr)->Sem (ForInStep (List (Str×Addr)))}
  (hF:∀ n k cs,F (n,k) cs=if (k == NameKind.free)=true then (do let c <-cellOf ev n;pure (ForInStep.yield ((n,c)::cs))) else pure (ForInStep.yield cs)) :
  ∀ (ns:List (Str×NameKind)) (cs:List (Str×Addr)),(∀ x c,cs.lookup x=some c->ev.cells.lookup x=some c)->(∀ x∈ns,x.2=.free->∃ c,ev.cells.lookup x.1=some c) ->
   ∃ cl,(forIn ns cs F:Sem (List (Str×Addr)))=pure cl/\(∀ x c,cl.lookup x=some c->ev.cells.lookup x=some c)/\(∀ x c,cs.lookup x=some c->∃ d,cl.lookup x=some d) /\
    ∀ x∈ns,x.2=.free->∃ c,cl.lookup x.1=some c
 | [],cs,h1,_=>⟨cs,by rw[List.forIn_nil],h1,fun _ c e=>⟨c,e⟩,fun _ hx=>nomatch hx⟩
 | (n,k)::ns,cs,h1,h2=>by
  have h2':∀ x∈ns,x.2=.free->∃ c,ev.cells.lookup x.1=some c:=fun x hx=>h2 x (List.mem_cons_of_mem _ hx)
  by_cases hk:k=NameKind.free
  ·subst hk
   obtain ⟨c,hc⟩:=h2 (n,.free) List.mem_cons_self rfl
   have h1':∀ x d,((n,c)::cs).lookup x=some d->ev.cells.lookup x=some d:=fun x d e=>by
    rw[List.lookup_cons] at e
    cases hx:x == n with
    | true=>rw[hx] at e;cases e;rw[eq_of_beq hx];exact hc
    | false=>rw[hx] at e;exact h1 x d e
   obtain ⟨cl,e1,e2,e3,e4⟩:=JL hF ns ((n,c)::cs) h1' h2'
   refine ⟨cl,?_,e2,fun x d e=>?_,fun x hx hf=>?_⟩
   ·rw[List.forIn_cons,hF]
    have hcell:cellOf ev n=pure c:=by unfold cellOf;rw[hc]
    rw[if_pos (by decide),hcell]
    exact e1
   ·cases hx:x == n with
    | true=>exact e3 x c (by rw[List.lookup_cons,hx])
    | false=>exact e3 x d (by rw[List.lookup_cons,hx];exact e)
   ·rcases List.mem_cons.mp hx with rfl | hx
    ·exact e3 n c (by rw[List.lookup_cons,beq_self_eq_true])
    ·exact e4 x hx hf
  ·obtain ⟨cl,e1,e2,e3,e4⟩:=JL hF ns cs h1 h2'
   refine ⟨cl,?_,e2,e3,fun x hx hf=>?_⟩
   ·rw[List.forIn_cons,hF,if_neg (fun z=>hk (eq_of_beq z))]
    exact e1
   ·rcases List.mem_cons.mp hx with rfl | hx
    ·exact absurd hf hk
    ·exact e4 x hx hf
theorem JG {sc:Scope} {ev:Env} (h:∀ x∈sc.names,x.2=.free->∃ c,ev.cells.lookup x.1=some c) :
  ∃ cl,closureFor sc ev=pure cl/\(∀ x c,cl.lookup x=some c->ev.cells.lookup x=some c)/\∀ x∈sc.names,x.2=.free->∃ c,cl.lookup x.1=some c:=by
 obtain ⟨cl,e1,e2,_,e4⟩:=JL (ev:=ev) (F:=fun x cs=>match x with
  | (n,k)=>if (k == NameKind.free)=true then (do let c <-cellOf ev n;pure (ForInStep.yield ((n,c)::cs))) else pure (ForInStep.yield cs)) (fun _ _ _=>rfl) sc.names [] (fun x c e=>nomatch e) h
 refine ⟨cl,?_,e2,e4⟩
 show ((forIn sc.names [] (fun x cs=>match x with
  | (n,k)=>if (k == NameKind.free)=true then (do let c <-cellOf ev n;pure (ForInStep.yield ((n,c)::cs))) else pure (ForInStep.yield cs)):Sem (List (Str×Addr))) >>= fun z=>pure z)=pure cl
 rw[e1]
 rfl
theorem lookup_map2 (g:Str->NameKind->NameKind):∀ (l:List (Str×NameKind)) (x:Str),(l.map fun p=>(p.1,g p.1 p.2)).lookup x=(l.lookup x).map (g x)
 | [],_=>rfl
 | (n,k)::l,x=>by
  rw[List.map_cons,List.lookup_cons,List.lookup_cons]
  cases hx:x == n with
  | true=>rw[eq_of_beq hx];rfl
  | false=>exact lookup_map2 g l x
theorem Je:∀ {l:List (Str×NameKind)} {x:Str} {k:NameKind},l.lookup x=some k->(x,k)∈l
 | (n,k')::l,x,k,h=>by
  rw[List.lookup_cons] at h
  cases hx:x == n with
  | true=>rw[hx] at h;cases h;rw[eq_of_beq hx];exact List.mem_cons_self
  | false=>rw[hx] at h;exact List.mem_cons_of_mem _ (Je h)
def D3 (ev:Env) (n:Str) (k:NameKind):NameKind:=if (k == .free && ev.scope.kind == .function && ev.kindOf n == some .cell)=true then .cell else k
theorem KC (sc:Scope) (ev:Env) (x:Str):(relabel sc ev).names.lookup x=(sc.names.lookup x).map (D3 ev x):=by
 have e:(relabel sc ev).names=sc.names.map fun p=>(p.1,D3 ev p.1 p.2):=by
  unfold relabel
  refine List.map_congr_left fun p _=>?_
  obtain ⟨n,k⟩:=p
  show (if (k == .free && ev.scope.kind == .function && ev.kindOf n == some .cell)=true then (n,NameKind.cell) else (n,k))=(n,D3 ev n k)
  unfold D3
  split<;>rfl
 rw[e]
 exact lookup_map2 _ _ _
structure CompOk (sc esc:Scope) (N fn:List Str) (ix:List Nat):Prop where
 kind:sc.kind=.function
 cells:∀ x∈sc.names,x.2=.cell->sc.names.lookup x.1=some .cell
 locs:∀ x∈sc.names,x.2=.local->sc.names.lookup x.1=some .local
 frees:∀ x∈sc.names,x.2=.free->esc.names.lookup x.1=some .cell\/esc.names.lookup x.1=some .free
 ixs:ix.map (fun i=>N[i]?)=fn.map some
 fns:∀ x∈fn,sc.names.lookup x=some .free
def Ck (sc:Scope) (C:Addr):List (Str×Addr):=cellsFrom (C+1) sc.names []
theorem Ic:∀ (names:List (Str×NameKind)) (n:Nat) (a b:List (Str×Addr)),cellsFrom n names (a++b)=cellsFrom n names a++b
 | [],_,_,_=>rfl
 | (x,k)::r,n,a,b=>by
  unfold cellsFrom
  split
  ·exact Ic r (n+1) ((x,n)::a) b
  ·exact Ic r n a b
theorem Hl:∀ (names:List (Str×NameKind)) (n:Nat) (acc:List (Str×Addr)) (x:Str) (c:Addr),(x,c)∈cellsFrom n names acc->(x,c)∈acc\/(x,NameKind.cell)∈names
 | [],_,_,_,_,h=>.inl h
 | (y,k)::r,n,acc,x,c,h=>by
  unfold cellsFrom at h
  by_cases hk:(k == .cell)=true
  ·rw[if_pos hk] at h
   rcases Hl r (n+1) _ x c h with h | h
   ·rcases List.mem_cons.mp h with h | h
    ·cases h
     rw[beq_iff_eq.mp hk]
     exact .inr List.mem_cons_self
    ·exact .inl h
   ·exact .inr (List.mem_cons_of_mem _ h)
  ·rw[if_neg hk] at h
   rcases Hl r n acc x c h with h | h
   ·exact .inl h
   ·exact .inr (List.mem_cons_of_mem _ h)
theorem Mq {α:Type}:∀ {l:List (Str×α)} {x:Str},(∀ c,(x,c)∉l)->l.lookup x=none
 | [],_,_=>rfl
 | (y,v)::r,x,h=>by
  have hne:(x == y)=false:=by
   cases z:(x == y) with
   | false=>rfl
   | true=>
    have e:=beq_iff_eq.mp z
    subst e
    exact absurd List.mem_cons_self (h v)
  rw[List.lookup_cons,hne]
  exact Mq fun c hc=>h c (List.mem_cons_of_mem _ hc)
theorem ID {α:Type}:∀ {a b:List (Str×α)} {x:Str},a.lookup x=none->(a++b).lookup x=b.lookup x
 | [],_,_,_=>rfl
 | (y,v)::r,b,x,h=>by
  rw[List.lookup_cons] at h
  rw[List.cons_append,List.lookup_cons]
  cases z:(x == y) with
  | true=>rw[z] at h;cases h
  | false=>
   rw[z] at h
   exact ID (a:=r) h
theorem EJ {α:Type}:∀ {a b:List (Str×α)} {x:Str} {c:α},(a++b).lookup x=some c->a.lookup x=some c\/(a.lookup x=none/\b.lookup x=some c)
 | [],_,_,_,h=>.inr ⟨rfl,h⟩
 | (y,v)::r,b,x,c,h=>by
  rw[List.cons_append,List.lookup_cons] at h
  rw[List.lookup_cons]
  cases z:(x == y) with
  | true=>rw[z] at h;exact .inl h
  | false=>
   rw[z] at h
   exact EJ (a:=r) h
theorem ND {α:Type}:∀ {a b:List (Str×α)} {x:Str} {c:α},a.lookup x=some c->(a++b).lookup x=some c
 | (y,v)::r,b,x,c,h=>by
  rw[List.lookup_cons] at h
  rw[List.cons_append,List.lookup_cons]
  cases z:(x == y) with
  | true=>rw[z] at h;exact h
  | false=>
   rw[z] at h
   exact ND (a:=r) h
theorem J7 {sc esc:Scope} {N fn:List Str} {ix:List Nat} {x:Str} {k:NameKind} {C:Addr} (ok:CompOk sc esc N fn ix) (h:sc.names.lookup x=some k) (hk:k≠.cell):(Ck sc C).lookup x=none:=
 Mq fun c hc=>by
  rcases Hl _ _ _ _ _ hc with z | z
  ·cases z
  ·rw[ok.cells _ z rfl] at h
   exact hk (Option.some.inj h).symm
section
variable {M:Model} {A:Around} {E:Value->Shared->Prop} {s:Shared}
theorem Of {scope:Scope} {globals:Addr} {cl:List (Str×Addr)} {qual:Str} {code:Value} {env:Env} {Q:Env->Shared->Prop} (hk:scope.kind=.function)
  (h:Q {scope,locals:=s.heap.objs.size,globals,cells:=Ck scope s.heap.objs.size++cl,qual,func:=none,code:=env.code,frame:=env.frame,builtins:=env.builtins} {s with heap:=pushCells (s.heap.push {cls:=.type "dict",data:=.dict #[]}) scope.names}) :
  wpAny M A (newFunctionEnv scope globals cl [] qual none code (some env)) Q E s:=by
 simp only[newFunctionEnv,Option.isSome_some,if_true]
 refine wpAny_bind (wpAny_alloc ?_)
 refine wpAny_bind (wpAny_layCells _ (fun name kind cells=>by cases hkc:kind == NameKind.cell<;>simp[hkc]) _ _ _ _ ?_)
 rw[show ({s with heap:=s.heap.push {cls:=.type "dict",data:=.dict #[]}}:Shared).heap.objs.size=s.heap.objs.size+1 from Heap.size_push ..]
 have e:cellsFrom (s.heap.objs.size+1) scope.names cl=Ck scope s.heap.objs.size++cl:=Ic scope.names _ [] cl
 rw[e]
 refine wpAny_bind ?_
 rw[List.forIn_nil]
 exact wpAny_pure (wpAny_pure h)
end
def CD (xe:Value->Shared->Prop) (X:Cx) (N':List Str) (sc:Scope) (s2:Shared) (H2:Hp) (cl:List (Str×Addr)) (C:Addr) (fp:List Addr):Cx where
 prog:=X.prog
 w:=X.w
 K:=X.K
 mg:=X.mg
 base:=X.base
 A:=X.A
 N:=N'
 s₀:=s2
 H₀:=H2
 env:=compEnvC sc (Ck sc C++cl) C X.env
 outer:=X.stack
 stack:=X.stack
 ex:=fp
 fn:=fun x=>sc.names.lookup x == some .cell
 calm:=X.calm
 pn:=[]
 xe:=xe
abbrev CH (X:Cx) (N':List Str) (sc:Scope) (s2:Shared) (H2:Hp) (cl:List (Str×Addr)) (C:Addr) (fp:List Addr):Cx:=CD (fun _ _=>False) X N' sc s2 H2 cl C fp
def cSt (nt:Nat) (ix:List Nat) (σ:St):St:=List.replicate nt none++ix.map fun k=>(σ[k]?).join
def Ii (J:It) (g:TG) (tc:TT) (te:TE) (l:Addr) (q:Hp->Prop) (σ0:St) (H0:Hp):Prop:=
 ∃ W:Nat->Nat->St->Hp->Prop,(∃ m,W 0 m σ0 H0)/\∀ i m σ H,W i m σ H ->
  (J.stop i H/\q H)\/(J.go i H/\∃ N:St->Hp->Prop,(∀ σ' H',N σ' H'->∃ m',m'<m/\W (i+1) m' σ' H')/\∀ x H',J.yld i H x H'->g x σ H' fun σ2 H2=>tc σ2 H2 fun b H3=>
   if b=true then te σ2 H3 fun v H4=>∃ xs,H4 l=some (.lst xs)/\xs.length<sizeLine/\N σ2 (upd H4 l (.lst (xs++[v]))) else N σ2 H3)
def FE (wi:TI) (nt:Nat) (ix:List Nat) (g:TG) (tc:TT) (te:TE):TE:=fun σ H Q=>wi σ H fun J H1=>∀ l,H1 l=none->Ii J g tc te l (fun H'=>Q (.ref l) H') (cSt nt ix σ) (upd H1 l (.lst []))
def PTs (X:Cx) (tests:List Expr) (tc:TT):Prop:=
 ∀ (pins:List (Addr×Obj)) (s:Shared) (σ:St) (H:Hp) (Q:Bool->Hp->Prop),Inv X pins σ H s->tc σ H Q ->
  wpAny (model X.prog X.w) X.A (forIn tests true fun c r=>if r=true then do let ok <-isTrue c X.env (eval c X.env);pure (ForInStep.yield ok) else pure (ForInStep.yield r)) (TP X pins σ Q) X.xe s
def Qb:TT:=fun _ H Q=>Q true H
theorem QL {X:Cx}:PTs X [] Qb:=fun _ _ _ H _ I h=>wpAny_tests_nil ⟨H,I,h⟩
theorem Sy {X:Cx} {c:Expr} {tc:TT} (h:PT X c tc):PTs X [c] tc:=fun pins s σ H Q I hw=>wpAny_tests_one (h pins s σ H Q I hw)
section
variable {X:Cx} {elt tg src:Expr} {tests:List Expr} {sc esc:Scope} {cp:Pos} {g:TG} {tc:TT} {te:TE} {N tn fn:List Str} {ix:List Nat}
theorem Sm {xe:Value->Shared->Prop} {cl:List (Str×Addr)} {pins:List (Addr×Obj)} {σ:St} {s2:Shared} {H2:Hp} {C:Addr} {fp:List Addr} (hsc:X.env.scope=esc) (ok:CompOk sc esc N fn ix)
  (hsub:∀ x c,cl.lookup x=some c->X.env.cells.lookup x=some c) (hall:∀ x∈sc.names,x.2=.free->∃ c,cl.lookup x.1=some c)
  (I2:Inv X pins σ H2 s2) (f2:∀ b∈fp,Cz X pins H2 b) (lt:∀ b∈fp,b<s2.heap.objs.size) (hC:s2.heap.objs.size<=C)
  (own:∀ x c,(Ck sc C).lookup x=some c->C+1<=c) (apart:(Ck sc C).Pairwise fun x y=>x.2≠y.2):(CD xe X (tn++fn) sc s2 H2 cl C fp).Ok where
 mod:=I2.ok.mod
 kind:=ok.kind
 glob:=I2.ok.glob
 blt:=I2.ok.blt
 above:=hC
 inj:=fun x y c e1 e2=>by
  have low:∀ x c,cl.lookup x=some c->c<s2.heap.objs.size:=fun x c e=>by
   obtain ⟨v,hv⟩:=I2.cell x c (hsub x c e)
   exact hv.lt
  rcases EJ e1 with a | ⟨_,a⟩<;>rcases EJ e2 with b | ⟨_,b⟩
  ·exact name_of_addr apart (PySem.mem_of_lookup a) (PySem.mem_of_lookup b)
  ·exact absurd (low _ _ b) (Nat.not_lt.mpr (Nat.le_trans hC (Nat.le_trans (Nat.le_succ _) (own _ _ a))))
  ·exact absurd (low _ _ a) (Nat.not_lt.mpr (Nat.le_trans hC (Nat.le_trans (Nat.le_succ _) (own _ _ b))))
  ·exact I2.ok.inj x y c (hsub x c a) (hsub y c b)
 has:=fun x hx=>by
  have hx':(relabel sc X.env).names.lookup x=some .cell\/(relabel sc X.env).names.lookup x=some .free:=hx
  rw[KC] at hx'
  show ∃ c,(Ck sc C++cl).lookup x=some c
  cases e:sc.names.lookup x with
  | none=>rw[e] at hx';rcases hx' with z | z<;>cases z
  | some k=>
   have hm:=Je e
   by_cases hkc:k=.cell
   ·subst hkc
    obtain ⟨c,hc⟩:=Option.isSome_iff_exists.mp (PySem.W.cellsFrom_some (x:=x) sc.names (C+1) [] (.inl e))
    exact ⟨c,ND hc⟩
   have hk:k=.free:=by
    by_cases z:k=.free
    ·exact z
    ·exfalso
     have hr:D3 X.env x k=k:=by
      unfold D3
      rw[if_neg]
      intro q
      rw[Bool.and_eq_true,Bool.and_eq_true] at q
      exact z (eq_of_beq q.1.1)
     rw[e,Option.map_some,hr] at hx'
     rcases hx' with q | q
     ·exact hkc (Option.some.inj q)
     ·exact z (Option.some.inj q)
   subst hk
   obtain ⟨c,hc⟩:=hall _ hm rfl
   exact ⟨c,by rw[ID (J7 ok e (fun z=>nomatch z))];exact hc⟩
 cab:=fun x c e hc=>by
  have e:sc.names.lookup x=some .cell:=beq_iff_eq.mp e
  rcases EJ hc with a | ⟨a,_⟩
  ·exact Nat.le_trans hC (Nat.le_trans (Nat.le_succ _) (own _ _ a))
  ·obtain ⟨c',hc'⟩:=Option.isSome_iff_exists.mp (PySem.W.cellsFrom_some (x:=x) sc.names (C+1) [] (.inl e))
   have a:(cellsFrom (C+1) sc.names []).lookup x=none:=a
   rw[a] at hc'
   cases hc'
 hd:=I2.ok.hd
 frames:=I2.ok.frames
 stk:=.inl rfl
 exf:=fun b hb=>⟨Nat.ne_of_lt (Nat.lt_of_lt_of_le (lt b hb) hC),fun x c e=>by
  rcases EJ e with a | ⟨_,a⟩
  ·exact Nat.ne_of_gt (Nat.lt_of_lt_of_le (lt b hb) (Nat.le_trans hC (Nat.le_trans (Nat.le_succ _) (own _ _ a))))
  ·exact (f2 b hb).2.2.2.2.1 x c (hsub x c a)⟩
 bs:=I2.bs
 bsz:=Nat.le_trans I2.ok.bsz I2.sz
 noex:=fun b o e hb=>by
  rcases (f2 b hb).2.2.2.1 with z | z
  ·exact I2.ok.noex b o e z
  ·exact absurd (Nat.lt_of_lt_of_le (Heap.lt_size e) (Nat.le_trans I2.ok.bsz z)) (Nat.lt_irrefl _)
 exfs:=fun b hb hf=>by
  rcases List.mem_cons.mp (I2.stkSub b hf) with z | z
  ·exact (f2 b hb).2.1 z
  ·exact (f2 b hb).2.2.1 z
 funs:=I2.stack
 frf:=I2.stkFree
theorem UL (nt:Nat) (ix:List Nat) (σ:St):(cSt nt ix σ).length=nt+ix.length:=by
 unfold cSt
 rw[List.length_append,List.length_replicate,List.length_map]
theorem Hf {xe:Shared->Hp->List (Str×Addr)->Addr->List Addr->Value->Shared->Prop} {cl:List (Str×Addr)} {pins:List (Addr×Obj)} {σ:St} {s2:Shared} {H2:Hp} {it:Addr} {fp:List Addr} {tu:Nat->Heap->Prop} {J:It} {E:Value->Shared->Prop} {q:Addr->Hp->Prop}
  {RR:Value->Addr->Result->Shared->Prop} (hc:X.calm=true) (hsc:X.env.scope=esc) (hN:X.N=N) (ok:CompOk sc esc N fn ix)
  (hsub:∀ x c,cl.lookup x=some c->X.env.cells.lookup x=some c) (hall:∀ x∈sc.names,x.2=.free->∃ c,cl.lookup x.1=some c)
  (hg:∀ s2 H2 cl C fp,PG (CD (xe s2 H2 cl C fp) X (tn++fn) sc s2 H2 cl C fp) tg g)
  (ht:∀ s2 H2 cl C fp,PTs (CD (xe s2 H2 cl C fp) X (tn++fn) sc s2 H2 cl C fp) tests tc)
  (he:∀ s2 H2 cl C fp,PE (CD (xe s2 H2 cl C fp) X (tn++fn) sc s2 H2 cl C fp) elt te)
  (I2:Inv X pins σ H2 s2) (T:Turn X.prog X.w X.K tg J fp it tu) (st2:tu 0 s2.heap) (f2:∀ b∈fp,Cz X pins H2 b)
  (h:∀ l,H2 l=none->Ii J g tc te l (q l) (cSt tn.length ix σ) (upd H2 l (.lst [])))
  (hXX:∀ (C l:Addr) (e:Value) (s8:Shared),s2.heap.objs.size<=C->xe s2 H2 cl C fp e s8->notedBy (model X.prog X.w) X.A (compEnvC sc (Ck sc C++cl) C X.env) (fun e s'=>RR (.ref l) C (.error e) s') e s8)
  (hRR:∀ (C l:Addr) (s4:Shared) (H3:Hp) (m:Str->Option Value),Inv X pins σ H3 s4->s4.heap.Ns C m->Cz X pins H3 C->q l H3->RR (.ref l) C (.ok .next) s4) :
  wpAny (model X.prog X.w) X.A (newList []) (fun acc s3=>wpAny (model X.prog X.w) X.A (newFunctionEnv sc X.env.globals cl [] X.env.qual none .none (some X.env)) (fun cenv s4=>
   codeAny (model X.prog X.w) X.A (.compStart (.ListComp elt [⟨tg,src,tests,0⟩] sc cp) 0 (.ref it) acc {cenv with scope:=relabel sc X.env}) (RR acc cenv.locals) s4) E s3) E s2:=by
 refine wpAny_newObj_type (Of ok.kind ?_)
 dsimp only
 generalize hL:s2.heap.push {cls:=.type "list",dict:=none,data:=.seq ([]:List Value).toArray}=g1
 have hC:g1.objs.size=s2.heap.objs.size+1:=by rw[<-hL,Heap.size_push]
 have hlC:s2.heap.objs.size≠g1.objs.size:=by rw[hC];exact Nat.ne_of_lt (Nat.lt_succ_self _)
 have hCle:s2.heap.objs.size<=g1.objs.size:=by rw[hC];exact Nat.le_succ _
 have okc:CellsOk (pushCells (g1.push {cls:=.type "dict",data:=.dict #[]}) sc.names) (g1.objs.size+1) (Ck sc g1.objs.size):=by
  have z:=cellsFrom_ok sc.names (g1.push {cls:=.type "dict",data:=.dict #[]}) (g1.objs.size+1) [] ⟨fun _ _ hm=>(nomatch hm),List.Pairwise.nil⟩ (by rw[Heap.size_push];exact Nat.le_refl _)
  rw[Heap.size_push] at z
  exact z
 have hns:(pushCells (g1.push {cls:=.type "dict",data:=.dict #[]}) sc.names).Ns g1.objs.size fun _=>none:=(Heap.Ns.new g1 (.type "dict")).keeps (pushCells_keeps _ _)
 have old1:∀ b o,g1.get? b=some o->(pushCells (g1.push {cls:=.type "dict",data:=.dict #[]}) sc.names).get? b=some o:=fun b o e=>pushCells_keeps _ _ b o (Heap.get?_push_of_some _ e)
 generalize pushCells (g1.push {cls:=.type "dict",data:=.dict #[]}) sc.names=h1 at okc hns old1
 have old:∀ b o,s2.heap.get? b=some o->h1.get? b=some o:=fun b o e=>old1 b o (hL▸Heap.get?_push_of_some _ e)
 have hnew:h1.get? s2.heap.objs.size=some {cls:=.type "list",data:=.seq ([]:List Value).toArray}:=old1 _ _ (hL▸Heap.get?_push_size _ rfl)
 have lt:∀ b∈fp,b<s2.heap.objs.size:=fun b hb=>by
  obtain ⟨o,e,_⟩:=T.obj 0 _ st2 b hb
  exact Heap.lt_size e
 have hl0:H2 s2.heap.objs.size=none:=I2.fresh
 have cok:(CD (xe s2 H2 cl g1.objs.size fp) X (tn++fn) sc s2 H2 cl g1.objs.size fp).Ok:=Sm hsc ok hsub hall I2 f2 lt hCle (fun x c e=>(okc.empty x c (PySem.mem_of_lookup e)).2) okc.apart
 have hixl:ix.length=fn.length:=by
  have z:=congrArg List.length ok.ixs
  rwa [List.length_map,List.length_map] at z
 have YI:Inv (CD (xe s2 H2 cl g1.objs.size fp) X (tn++fn) sc s2 H2 cl g1.objs.size fp) [] (cSt tn.length ix σ) (upd H2 s2.heap.objs.size (.lst [])) {s2 with heap:=h1}:=by
  refine ⟨cok,rfl,I2.bare,Un.laid old (Nat.le_refl _) hl0,⟨_,hns,fun i x v e1 e2 e3=>?_⟩,fun x c e=>?_,?_,fun x c e=>?_,fun p hp=>?_,?_,?_⟩
  ·
   have hi:tn.length<=i:=by
    by_cases z:i<tn.length
    ·exfalso
     have e2':(cSt tn.length ix σ)[i]?=some none:=by
      unfold cSt
      rw[List.getElem?_append_left (by rw[List.length_replicate];exact z),List.getElem?_replicate,if_pos z]
     rw[e2'] at e2
     cases e2
    ·lia
   have e1':fn[i - tn.length]?=some x:=by
    have z:(tn++fn)[i]?=some x:=e1
    rwa [List.getElem?_append_right hi] at z
   have e2':(ix.map fun k=>(σ[k]?).join)[i - tn.length]?=some (some v):=by
    unfold cSt at e2
    rwa [List.getElem?_append_right (by rw[List.length_replicate];exact hi),List.length_replicate] at e2
   rw[List.getElem?_map] at e2'
   cases ek:ix[i - tn.length]? with
   | none=>rw[ek] at e2';cases e2'
   | some k=>
    rw[ek] at e2'
    have ev:(σ[k]?).join=some v:=Option.some.inj e2'
    have ev':σ[k]?=some (some v):=by
     cases z:σ[k]? with
     | none=>rw[z] at ev;cases ev
     | some w'=>rw[z] at ev;exact congrArg some ev
    have eN:X.N[k]?=some x:=by
     have z:=congrArg (fun l=>l[i - tn.length]?) ok.ixs
     rw[List.getElem?_map,List.getElem?_map,ek,e1'] at z
     rw[hN]
     exact Option.some.inj z
    have hfx:sc.names.lookup x=some .free:=ok.fns x (List.mem_of_getElem? e1')
    have hmem:=Je hfx
    have hkind:X.env.scope.names.lookup x=some .cell\/X.env.scope.names.lookup x=some .free:=by rw[hsc];exact ok.frees _ hmem rfl
    obtain ⟨m,hn,hl⟩:=I2.loc
    obtain ⟨u,r,lk⟩:=hl k x v eN ev' (.inr hkind)
    refine ⟨u,r,.inr ⟨?_,?_⟩⟩
    ·show (relabel sc X.env).names.lookup x=some .cell\/(relabel sc X.env).names.lookup x=some .free
     rw[KC,hfx,Option.map_some]
     unfold D3
     split
     ·exact .inl rfl
     ·exact .inr rfl
    ·rcases lk with ⟨z,_⟩ | ⟨_,c,ec,o,ho,hd⟩
     ·have z':X.env.scope.names.lookup x=some .local:=z
      rw[z'] at hkind
      rcases hkind with w' | w'<;>cases w'
     ·obtain ⟨c',hc'⟩:=hall _ hmem rfl
      have ecc:=hsub _ _ hc'
      rw[ec] at ecc
      cases ecc
      refine ⟨c,?_,o,old _ _ ho,hd⟩
      show (Ck sc g1.objs.size++cl).lookup x=some c
      rw[ID (J7 ok hfx (fun z=>nomatch z))]
      exact hc'
  ·rcases EJ e with e | ⟨_,e⟩
   ·exact ⟨_,(okc.empty x c (PySem.mem_of_lookup e)).1⟩
   ·obtain ⟨v,o,ho,hd⟩:=I2.cell x c (hsub x c e)
    exact ⟨v,o,old _ _ ho,hd⟩
  ·show (upd H2 s2.heap.objs.size (.lst [])) g1.objs.size=none
   rw[AY (Ne.symm hlC)]
   exact I2.hok.fresh hCle
  ·show (upd H2 s2.heap.objs.size (.lst [])) c=none
   rcases EJ e with e | ⟨_,e⟩
   ·have hc:=(okc.empty x c (PySem.mem_of_lookup e)).2
    rw[hC] at hc
    rw[AY (Nat.ne_of_gt (Nat.lt_of_lt_of_le (Nat.lt_of_lt_of_le (Nat.lt_succ_self _) (Nat.le_succ _)) hc))]
    exact I2.hok.fresh (Nat.le_trans (Nat.le_trans (Nat.le_succ _) (Nat.le_succ _)) hc)
   ·have hfc:=I2.freeC x c (hsub x c e)
    obtain ⟨v,o,ho,_⟩:=I2.cell x c (hsub x c e)
    rw[AY (Nat.ne_of_lt (Heap.lt_size ho))]
    exact hfc
  ·exact nomatch hp
  ·exact I2.hok.laid old (Nat.le_refl _) ⟨Nat.zero_le _,[],_,.nil,hnew⟩
  ·rw[UL,hixl]
   show _=(tn++fn).length
   rw[List.length_append]
 have fpY:∀ {H':Hp},(∀ b∈fp,H' b=none)->∀ b∈fp,Cz (CD (xe s2 H2 cl g1.objs.size fp) X (tn++fn) sc s2 H2 cl g1.objs.size fp) [] H' b:=fun hn b hb=>
  ⟨hn b hb,(cok.exf b hb).1,cok.exfs b hb,.inl hb,fun x c e=>(cok.exf b hb).2 x c e,fun p hp=>nomatch hp⟩
 have fr0:∀ b∈fp,(upd H2 s2.heap.objs.size (.lst [])) b=none:=fun b hb=>by
  rw[AY (Nat.ne_of_lt (lt b hb))]
  exact (f2 b hb).1
 have loop:codeAny (model X.prog X.w) X.A (.compLoop (.ListComp elt [⟨tg,src,tests,0⟩] sc cp) 0 (.ref it) (.ref s2.heap.objs.size) (compEnvC sc (Ck sc g1.objs.size++cl) g1.objs.size X.env)) (RR (.ref s2.heap.objs.size) g1.objs.size)
   {s2 with heap:=h1}:=by
  obtain ⟨W,⟨m0,w0⟩,turn⟩:=h s2.heap.objs.size hl0
  refine Qi (Xn:=xe s2 H2 cl g1.objs.size fp) (fun n s'=>∃ i σ' H',Inv (CD (xe s2 H2 cl g1.objs.size fp) X (tn++fn) sc s2 H2 cl g1.objs.size fp) [] σ' H' s'/\tu i s'.heap/\(∀ b∈fp,H' b=none)/\W i n σ' H') (fun e s8 z=>hXX g1.objs.size _ e s8 hCle z) ?_ m0
   ⟨0,_,_,YI,T.keep _ _ _ st2 fun b _ o e=>old b o e,fr0,w0⟩
  rintro n s3 ⟨i,σ3,H3,I3,st3,fr3,w3⟩
  rcases turn i n σ3 H3 w3 with ⟨stop,qn⟩ | ⟨go,Nx,hNx,step⟩
  ·refine thn (T.done (CD (xe s2 H2 cl g1.objs.size fp) X (tn++fn) sc s2 H2 cl g1.objs.size fp) rfl rfl rfl hc i [] s3 σ3 H3 _ I3 (fpY fr3) st3 stop) fun r s4 hh_=>?_
   obtain ⟨hr,I4⟩:=hh_
   subst hr
   obtain ⟨m,hn,_⟩:=I4.loc
   have IX:Inv X pins σ H3 s4:=I2.call' (ch:=fp) I4.os I4.base I4.hok I4.bare fun b hb=>by
    obtain ⟨_,a1,_,a3,a4,a5⟩:=f2 b hb
    exact ⟨a3,a1,a4,a5⟩
   exact hRR _ _ s4 H3 m IX hn (I2.fpOk hCle I4.free) qn
  ·refine thn (T.item (CD (xe s2 H2 cl g1.objs.size fp) X (tn++fn) sc s2 H2 cl g1.objs.size fp) rfl rfl rfl hc i [] s3 σ3 H3 _ I3 (fpY fr3) st3 go) fun r s4 hh_=>?_
   obtain ⟨u,hr,h4⟩:=hh_
   subst hr
   refine thn h4 fun _ s5 hh_=>?_
   obtain ⟨x,H5,I5,r5,y5,st5,fr5⟩:=hh_
   have I5':=I5.pinned (fpY fr5) (T.obj _ _ st5)
   refine thn (hg _ _ _ _ _ _ s5 σ3 H5 x u _ I5' r5 (step x H5 y5)) fun _ s6 hh_=>?_
   obtain ⟨σ6,H6,I6,q6⟩:=hh_
   refine thn (ht _ _ _ _ _ _ s6 σ6 H6 _ I6 q6) fun b s7 hh_=>?_
   obtain ⟨H7,I7,q7⟩:=hh_
   have again:∀ {s8:Shared} {H8:Hp},Inv (CD (xe s2 H2 cl g1.objs.size fp) X (tn++fn) sc s2 H2 cl g1.objs.size fp) ([]++Fb fp s5.heap) σ6 H8 s8->Nx σ6 H8 ->
     ∃ m,m<n/\∃ i σ' H',Inv (CD (xe s2 H2 cl g1.objs.size fp) X (tn++fn) sc s2 H2 cl g1.objs.size fp) [] σ' H' s8/\tu i s8.heap/\(∀ b∈fp,H' b=none)/\W i m σ' H':=fun {s8 H8} I8 n8=>by
    obtain ⟨m',hm,w8⟩:=hNx σ6 H8 n8
    refine ⟨m',hm,i+1,σ6,H8,I8.unpinned,T.keep _ _ _ st5 fun b hb o e=>(I8.pin (b,o) (List.mem_append_right _ (List.mem_append_right _ (Gs hb e)))).1,fun b hb=>?_,w8⟩
    obtain ⟨o,e,_⟩:=T.obj _ _ st5 b hb
    exact (I8.pin (b,o) (List.mem_append_right _ (List.mem_append_right _ (Gs hb e)))).2.1
   cases b with
   | false=>
    rw[if_neg Bool.false_ne_true] at q7 ⊢
    exact again I7 q7
   | true=>
    rw[if_pos rfl] at q7 ⊢
    refine thn (he _ _ _ _ _ _ s7 σ6 H7 _ I7 q7) fun y s8 hh_=>?_
    obtain ⟨v,H8,I8,r8,xs,hx,hz,n8⟩:=hh_
    refine thn (NM _ s8 σ6 H8 (.ref s2.heap.objs.size) [v] (.ref s2.heap.objs.size) [y] (fun _ H9=>Nx σ6 H9) I8 rfl (.cons r8 .nil) ⟨_,xs,v,rfl,rfl,hx,hz,n8⟩) fun _ s9 ⟨_,H9,I9,_,q9⟩=>again I9 q9
 exact codeAny_compStart_list loop (T.self _ 0 _ _ _ (T.keep _ _ _ st2 fun b _ o e=>old b o e) loop)
variable {wi:TI}
theorem QO (hc:X.calm=true) (hsc:X.env.scope=esc) (hN:X.N=N) (ok:CompOk sc esc N fn ix) (hi:PI X tg src wi)
  (hg:∀ s2 H2 cl C fp,PG (CH X (tn++fn) sc s2 H2 cl C fp) tg g)
  (ht:∀ s2 H2 cl C fp,PTs (CH X (tn++fn) sc s2 H2 cl C fp) tests tc)
  (he:∀ s2 H2 cl C fp,PE (CH X (tn++fn) sc s2 H2 cl C fp) elt te)
  (hs:∀ x,foldedSetIterable src X.env x=pure x:=by intro _;rfl):PE X (.ListComp elt [⟨tg,src,tests,0⟩] sc cp) (FE wi tn.length ix g tc te):=by
 intro pins s σ H Q I h
 rw[eval_ListComp]
 obtain ⟨cl,hcl,hsub,hall⟩:=JG (sc:=sc) (ev:=X.env) fun x hx hf=>I.ok.has x.1 (by have z:=ok.frees x hx hf;rw[<-hsc] at z;exact z)
 refine wpAny_comprehension_free (use:=none) rfl hs hcl ok.kind ok.locs (thn (hi pins s σ H _ I h) fun xv s1 h1=>thn h1 fun itv s2 h2=>?_)
 obtain ⟨it,fp,tu,J,H2,e,I2,T,st2,f2,hq⟩:=h2
 subst e
 refine Hf (xe:=fun _ _ _ _ _ _ _=>False) (q:=fun l H'=>Q (.ref l) H') (RR:=fun acc C=>compPost (model X.prog X.w) X.A X.xe none (EP X pins σ Q) acc C) hc hsc hN ok hsub hall hg ht he I2 T st2 f2 hq (fun _ _ _ _ _ z=>z.elim) fun C l s4 H3 m I4 hn fC q4=>?_
 obtain ⟨a0,a1,_,a3,a4,a5⟩:=fC
 exact ⟨m,hn,fun h' sb=>⟨.ref l,H3,I4.turned (t':=s4.toks) (fun b o hb e=>(sb.2 b hb).trans e) a0 a1 a3 a4 a5,rfl,q4⟩⟩
theorem QA {i:Nat} {y:Str} {py sp:Pos} (hnd:X.N.Nodup) (hiy:X.N[i]?=some y) (hy:X.env.scope.names.lookup y=some .local) (hc:X.calm=true) (hsc:X.env.scope=esc) (hN:X.N=N) (ok:CompOk sc esc N fn ix) (hi:PI X tg src wi)
  (hg:∀ s2 H2 cl C fp,PG (CH X (tn++fn) sc s2 H2 cl C fp) tg g)
  (ht:∀ s2 H2 cl C fp,PTs (CH X (tn++fn) sc s2 H2 cl C fp) tests tc)
  (he:∀ s2 H2 cl C fp,PE (CH X (tn++fn) sc s2 H2 cl C fp) elt te)
  (hsw:swapsWith (.ListComp elt [⟨tg,src,tests,0⟩] sc cp) (some (.Name y py)) sp.line X.env=pure true:=by rfl)
  (hs:∀ x,foldedSetIterable src X.env x=pure x:=by intro _;rfl) :
  PS X (.Assign [.Name y py] (.ListComp elt [⟨tg,src,tests,0⟩] sc cp) sp) (fun D σ H=>FE wi tn.length ix g tc te σ H fun v H'=>D.nx (σ.set i (some v)) H'):=by
 intro pins s σ H D I h
 rw[exec_Assign_Name_used _ _ _ _ hsw]
 obtain ⟨cl,hcl,hsub,hall⟩:=JG (sc:=sc) (ev:=X.env) fun x hx hf=>I.ok.has x.1 (by have z:=ok.frees x hx hf;rw[<-hsc] at z;exact z)
 refine wpAny_bind (wpAny_standAt (wpAny_bind ?_))
 show wpAny _ X.A (do let _ <-comprehension (.ListComp elt [⟨tg,src,tests,0⟩] sc cp) sc X.env _ (newList []) false (eval src X.env) (some (assign (.Name y py) X.env))) _ _ s
 refine wpAny_bind (wpAny_mono (wpAny_comprehension_free (use:=some (assign (.Name y py) X.env)) (Q:=fun _ s'=>SP X pins D .next s') rfl hs hcl ok.kind ok.locs
  (thn (hi pins s σ H _ I h) fun xv s1 h1=>thn h1 fun itv s2 h2=>?_)) (fun _ s' hq=>wpAny_pure (wpAny_pure hq)) fun _ _ e=>e)
 obtain ⟨it,fp,tu,J,H2,e,I2,T,st2,f2,hq⟩:=h2
 subst e
 refine Hf (xe:=fun _ _ _ _ _ _ _=>False) (q:=fun l H'=>D.nx (σ.set i (some (.ref l))) H') (RR:=fun acc C=>compPost (model X.prog X.w) X.A X.xe (some (assign (.Name y py) X.env)) (fun _ s'=>SP X pins D .next s') acc C) hc hsc hN ok hsub hall hg ht he I2 T st2 f2 hq (fun _ _ _ _ _ z=>z.elim) fun C l s4 H3 m I4 hn fC q4=>?_
 obtain ⟨a0,a1,_,a3,a4,a5⟩:=fC
 refine wpAny_assign_Name (Kr I4 hnd hiy (.inl hy) (v:=.ref l) rfl (fun s5 I5 hh_=>?_) (.inr hy))
 obtain ⟨a,sb,ha⟩:=hh_
 have hCa:C≠a:=by
  rcases ha with z | z
  ·rw[z];exact a1
  ·exact Ne.symm (a4 y a z)
 refine ⟨m,hn.sameBut sb hCa,fun h' sb'=>⟨_,H3,I5.turned (t':=s5.toks) (fun b o hb e=>(sb'.2 b hb).trans e) a0 a1 a3 a4 a5,q4⟩⟩
end
theorem Ki {J:It} {g:TG} {tc:TT} {te:TE} {l:Addr} {q:Hp->Prop} {σ:St} {H:Hp} (n:Nat) (Pv:Nat->St->Hp->Prop) (h0:Pv 0 σ H) (hgo:∀ i σ H,i<n->Pv i σ H->J.go i H) (hstop:∀ σ H,Pv n σ H->J.stop n H)
  (hs:∀ i x σ H H',i<n->Pv i σ H->J.yld i H x H'->g x σ H' fun σ2 H2=>tc σ2 H2 fun b H3=>
   if b=true then te σ2 H3 fun v H4=>∃ xs,H4 l=some (.lst xs)/\xs.length<sizeLine/\Pv (i+1) σ2 (upd H4 l (.lst (xs++[v]))) else Pv (i+1) σ2 H3)
  (hd:∀ σ H,Pv n σ H->q H):Ii J g tc te l q σ H:=by
 refine ⟨fun i m σ H=>m=n - i/\i<=n/\Pv i σ H,⟨n,by simp,Nat.zero_le _,h0⟩,?_⟩
 rintro i m σ H ⟨rfl,hi,p⟩
 by_cases hlt:i<n
 ·exact .inr ⟨hgo i σ H hlt p,Pv (i+1),fun σ' H' p'=>⟨n - (i+1),by lia,rfl,hlt,p'⟩,fun x H' y=>hs i x σ H H' hlt p y⟩
 ·have e:i=n:=by lia
  subst e
  exact .inl ⟨hstop σ H p,hd σ H p⟩
theorem Ol {J:It} {g:TG} {tb:TS} {D:Ends} {σ:St} {H:Hp} (n:Nat) (Pv:Nat->St->Hp->Prop) (h0:Pv 0 σ H) (hgo:∀ i σ H,i<n->Pv i σ H->J.go i H) (hstop:∀ σ H,Pv n σ H->J.stop n H)
  (hs:∀ i x σ H H',i<n->Pv i σ H->J.yld i H x H'->g x σ H' fun σ2 H2=>tb {D with nx:=Pv (i+1),ct:=Pv (i+1),bk:=D.nx} σ2 H2) (hd:∀ σ H,Pv n σ H->D.nx σ H) :
  ∃ W:Nat->Nat->St->Hp->Prop,(∃ m,W 0 m σ H)/\∀ i m σ H,W i m σ H ->
   (J.stop i H/\D.nx σ H)\/(J.go i H/\∃ N:St->Hp->Prop,(∀ σ' H',N σ' H'->∃ m',m'<m/\W (i+1) m' σ' H')/\∀ x H',J.yld i H x H'->g x σ H' fun σ2 H2=>tb {D with nx:=N,ct:=N,bk:=D.nx} σ2 H2):=by
 refine ⟨fun i m σ H=>m=n - i/\i<=n/\Pv i σ H,⟨n,by simp,Nat.zero_le _,h0⟩,?_⟩
 rintro i m σ H ⟨rfl,hi,p⟩
 by_cases hlt:i<n
 ·exact .inr ⟨hgo i σ H hlt p,Pv (i+1),fun σ' H' p'=>⟨n - (i+1),by lia,rfl,hlt,p'⟩,fun x H' y=>hs i x σ H H' hlt p y⟩
 ·have e:i=n:=by lia
  subst e
  exact .inl ⟨hstop σ H p,hd σ H p⟩
section
variable {X:Cx} {pins:List (Addr×Obj)} {σ:St} {H:Hp} {s:Shared} {g:Heap}
theorem PI.or {tg src:Expr} {w1 w2:TI} (a:PI X tg src w1) (b:PI X tg src w2):PI X tg src (fun σ H R=>w1 σ H R\/w2 σ H R):=fun pins s σ H R I h=>
 h.elim (fun z=>a pins s σ H R I z) fun z=>b pins s σ H R I z
end
section
variable {prog:Program} {w:World} {A:Around} {E:Value->Shared->Prop} {s:Shared}
end
section
variable {prog:Program} {w:World} {A:Around} {E:Value->Shared->Prop} {s:Shared}
end
structure SeqK (P:Program) (w:World) (c:List V->HO) (IsS:Heap->Addr->Array Value->Prop) (IsI:Heap->Addr->Addr->Nat->Prop):Prop where
 inj:∀ xs ys,c xs=c ys->xs=ys
 rd:∀ {H:Hp} {h:Heap} {a:Addr} {xs:List V},HOk P w H h->H a=some (c xs)->∃ its:List Value,Vals xs its/\IsS h a its.toArray
 at_:∀ {h g:Heap} {a:Addr} {v:Array Value},IsS h a v->(∀ o,h.get? a=some o->g.get? a=some o)->IsS g a v
 iat:∀ {h g:Heap} {a l:Addr} {i:Nat},IsI h a l i->(∀ o,h.get? a=some o->g.get? a=some o)->IsI g a l i
 iob:∀ {h:Heap} {a l:Addr} {i:Nat},IsI h a l i->∃ o,h.get? a=some o/\∀ v,o.data≠.cell v
 nx:∀ {A:Around} {s:Shared} {E:Value->Shared->Prop} {Q:Value->Shared->Prop} {it l:Addr} {i:Nat} {its:Array Value} {x:Value},IsI s.heap it l i->IsS s.heap l its->its[i]?=some x ->
  (∀ g,IsI g it l (i+1)->Heap.SameBut it s.heap g->Q x {s with heap:=g})->wpAny (model P w) A (Builtin.SmallTypes.nextOf (.ref it)) Q E s
 nd:∀ {A:Around} {s:Shared} {E:Value->Shared->Prop} {Q:Value->Shared->Prop} {it l:Addr} {i:Nat} {its:Array Value},A.handled=none->IsI s.heap it l i->IsS s.heap l its->its[i]?=none ->
  (∀ g e,Heap.ExtBut it s.heap g->(∃ o,g.get? e=some o/\o.cls=.type "StopIteration")->E (.ref e) {s with heap:=g})->wpAny (model P w) A (Builtin.SmallTypes.nextOf (.ref it)) Q E s
section
variable {prog:Program} {w:World} {A:Around} {E:Value->Shared->Prop} {s:Shared}
end
section
variable {X:Cx}
def Oe (K:PySem.W.Frag):List V->Hp->VK->Prop:=fun xs H Q=>∃ x T t b,xs=[x,.ty T]/\TyOf K H x (.type t)/\PySem.W.kitOne K (.type t) (.type T)=some b/\Q (.bl b) H
theorem PH:Bq X (.builtin "isinstance") (Oe X.K):=by
 intro pins s σ H xs us Q I r h
 obtain ⟨x,T,t,b,rfl,ty,e,q⟩:=h
 obtain ⟨u,u',rfl,ru,ru'⟩:=vals2 r
 cases (show u'=Value.type T from ru')
 exact RM I ru ty e fun tk=>⟨.bl b,H,I.tok tk,rfl,q⟩
def Lh (K:PySem.W.Frag):R2:=fun x y H Q=>∃ p q xs ys,x=.ref p/\y=.ref q/\SqL K H p xs/\SqL K H q ys/\(xs=[]\/ys=[])/\Q (.bl (decide (xs=ys))) H
theorem TV (hu:X.A.units<cLine):OpR X (compareOp .Eq) (Lh X.K):=by
 intro pins s σ H x y v u Q I rx ry h
 obtain ⟨p,q,xs,ys,rfl,rfl,hp,hq,hor,k⟩:=h
 cases rx
 cases ry
 obtain ⟨i1,r1,l1,z1⟩:=I.list hp
 obtain ⟨i2,r2,l2,z2⟩:=I.list hq
 have e1:=r1.length
 have e2:=r2.length
 by_cases c:xs.length=ys.length
 ·have exy:xs=ys:=by
   rcases hor with z | z
   ·subst z;exact (List.eq_nil_of_length_eq_zero (by rw[<-c];rfl)).symm
   ·subst z;exact List.eq_nil_of_length_eq_zero (by rw[c];rfl)
  have x0:xs.length=0:=by
   rcases hor with z | z
   ·rw[z];rfl
   ·rw[c,z];rfl
  refine SeqAt.eq_listAt (e:=fun _=>true) l1.isList l2.isList (by rw[List.size_toArray,List.size_toArray];lia) hu (fun j h1 _=>?_) ?_
  ·rw[List.size_toArray] at h1;lia
  ·rw[decide_eq_true exy] at k
   refine ⟨.bl true,H,I,?_,k⟩
   have:(List.range i1.toArray.size).all (fun _=>true)=true:=List.all_eq_true.mpr fun _ _=>rfl
   rw[this]
   rfl
 ·refine SeqAt.eq_list_lengthsAt l1.isList l2.isList (by rw[List.size_toArray,List.size_toArray];exact bne_iff_ne.mpr (by lia)) hu ?_
  rw[decide_eq_false (fun z=>c (by rw[z]))] at k
  exact ⟨.bl false,H,I,rfl,k⟩
theorem Kf {α β:Type} {f:α->Option β} {g:α->β}:∀ {l:List α},(∀ x∈l,f x=some (g x))->l.filterMap f=l.map g
 | [],_=>rfl
 | a::l,h=>by rw[List.filterMap_cons,h a List.mem_cons_self,List.map_cons,Kf fun x hx=>h x (List.mem_cons_of_mem _ hx)]
theorem QH (items:List Value):slicePick items.toArray none none (some (-1))=items.reverse.toArray:=by
 have hc:(sliceRange ((items.length:Int) - 1) (-1) (-1))=(List.range items.length).map fun (k:Nat)=>items.length - 1 - k:=by
  unfold sliceRange
  rw[if_neg (by decide)]
  have e:(if (items.length:Int) - 1 > -1 then ((items.length:Int) - 1 - -1 - -1 - 1) / - -1 else 0)=(items.length:Int):=by
   split
   ·rw[show (- -1:Int)=1 by rfl,Int.ediv_one];lia
   ·lia
  dsimp only
  rw[e]
  refine List.map_congr_left fun k hk=>?_
  have:=List.mem_range.mp hk
  lia
 have hb:slicePick items.toArray none none (some (-1))=((sliceRange ((items.length:Int) - 1) (-1) (-1)).filterMap (items.toArray[·]?)).toArray:=by
  unfold slicePick sliceBounds
  simp
 rw[hb,hc]
 congr 1
 rw[List.filterMap_map]
 have hf:(List.range items.length).filterMap ((fun x=>items.toArray[x]?)∘fun (k:Nat)=>items.length - 1 - k)=(List.range items.length).map fun (k:Nat)=>items.getD (items.length - 1 - k) .none:=by
  refine Kf fun k hk=>?_
  have:=List.mem_range.mp hk
  show items.toArray[items.length - 1 - k]?=some (items.getD (items.length - 1 - k) .none)
  rw[List.getElem?_toArray,List.getD_eq_getElem?_getD,List.getElem?_eq_getElem (by lia)]
  rfl
 rw[hf]
 refine List.ext_getElem? fun j=>?_
 rw[List.getElem?_map]
 by_cases hj:j<items.length
 ·rw[List.getElem?_range hj,List.getElem?_reverse hj,Option.map_some,List.getD_eq_getElem?_getD,List.getElem?_eq_getElem (by lia)]
  rfl
 ·rw[List.getElem?_eq_none (by rw[List.length_range];lia),List.getElem?_eq_none (by rw[List.length_reverse];lia)]
  rfl
def TX (K:PySem.W.Frag) (te ts:TE):TE:=fun σ H Q=>te σ H fun x H1=>ts σ H1 fun y H2=>∃ a xs,x=.ref a/\y=.int (-1)/\SqL K H2 a xs/\∀ p,H2 p=none->Q (.ref p) (upd H2 p (.lst xs.reverse))
theorem Tn {e st:Expr} {te ts:TE} {p2 ep:Pos} (he:PE X e te) (hst:PE X st ts):PE X (.Subscript e (.Slice none none (some st) p2) ep) (TX X.K te ts):=by
 intro pins s σ H Q I h
 refine Subscript_ (thn (he pins s σ H _ I h) fun v s1 hh_=>?_)
 obtain ⟨x,H1,I1,r1,q1⟩:=hh_
 refine wpAny_Slice ?_
 rw[evalPart_none]
 refine wpAny_pure (wpAny_pure ?_)
 rw[evalPart_some]
 refine thn (hst pins s1 σ H1 _ I1 q1) fun w s3 hh_=>?_
 obtain ⟨y,H3,I3,r3,a,xs,ex,ey,hq,q3⟩:=hh_
 subst ex ey
 cases r1
 obtain ⟨tk,rfl⟩:=r3
 have I4:Inv X pins σ H3 {s3 with heap:=s3.heap.push {cls:=.type "slice",data:=.fields #[.none,.none,.int (-1) tk]}}:=I3.kept (t':=s3.toks) fun b ob q=>Heap.get?_push_of_some _ q
 obtain ⟨its,r,ht,hz⟩:=I4.list hq
 have hlen:=r.length
 show wpAny (model X.prog X.w) X.A (subscriptTail e (.Slice none none (some st) p2) (.ref a) (.ref s3.heap.objs.size)) (EP X pins σ Q) X.xe {s3 with heap:=s3.heap.push {cls:=.type "slice",data:=.fields #[.none,.none,.int (-1) tk]}}
 refine tail_any (ops:=[.ref a,.ref s3.heap.objs.size]) ht.isList.typeIs slot_list_getitem.lookup (wpAny_getItem_list_slice ht.isList (Heap.IsSliceOf.new ..) .none .none (.int (-1) tk) (by decide) ?_ (by rw[List.size_toArray];lia)) (by with_unfolding_all rfl)
 rw[QH]
 refine ⟨.ref _,_,I4.laid (t':=s3.toks) (o:=.lst xs.reverse) (fun b ob q=>Heap.get?_push_of_some _ q) (Nat.le_refl _) ?_,rfl,q3 _ (I4.hok.fresh (Nat.le_refl _))⟩
 exact ⟨by rw[List.length_reverse];exact hz,_,0,r.reverse,Heap.get?_push_size _ rfl⟩
theorem Sg:OpR X (binaryOp .FloorDiv) (rI (fun _ j=>0<j/\j<2 ^ 64) fun i j=>.int (i / j)):=opI fun i j _ _ _ _ _ hc q=>by
 have h1:(0:Int)<j:=hc.1
 refine floordiv_int (by lia) (by rw[Int.fdiv_eq_ediv_of_nonneg i (by lia)];exact q) (.inl (PyProof.noPylong_of_log2 ?_))
 have h2:j.natAbs<2 ^ 64:=by have:=hc.2;lia
 have h3:j.natAbs.log2<64:=(Nat.log2_lt (by lia)).mpr h2
 lia
end
end L2
namespace Ev
open PySem L2
theorem small {n:Nat} (h:n<=1000000):n<=sizeLine:=Nat.le_trans h (by decide)
theorem Lv {n:Nat} (h:n<=1000000):n<sizeLine:=Nat.lt_of_le_of_lt h (by decide)
structure Nm (mg:Str->Option Value):Prop where
 len:mg "len"=none
 range:mg "range"=none
 isi:mg "isinstance"=none
 bool:mg "bool"=none
 int:mg "int"=none
 str:mg "str"=none
 list:mg "list"=none
 tuple:mg "tuple"=none
 zip:mg "zip"=none
 enum:mg "enumerate"=none
 sorted:mg "sorted"=none
 max:mg "max"=none
 min:mg "min"=none
 abs:mg "abs"=none
 sum:mg "sum"=none
 all:mg "all"=none
 any:mg "any"=none
 set:mg "set"=none
end Ev
namespace L2
open PySem
variable {X:Cx} {K:PySem.W.Frag}
theorem Gn {es:List Expr} {k:Nat} {t:TGs} {n:Nat} {tp:Pos} (hk:X.K=K) (hc:X.calm=true) (h:PGs X es t) (hn:(assignEach es X.env).length=n:=by rfl) (hst:(assignEach es X.env).findIdx? (·.1)=none:=by rfl):PG X (.Tuple es k tp) (GK K n t):=hk▸Su hc h hn hst
end L2
namespace L2
open PySem PySem.Spec PyProof.Rows
section
variable {X:Cx}
def LD (K:PySem.W.Frag):R2:=fun x y H Q=>∃ p q xs ys,x=.ref p/\y=.ref q/\SqL K H p xs/\SqL K H q ys/\(xs=[]\/ys=[])/\Q (.bl (!decide (xs=ys))) H
theorem RD (hu:X.A.units<cLine):OpR X (compareOp .NotEq) (LD X.K):=by
 intro pins s σ H x y v u Q I rx ry h
 obtain ⟨p,q,xs,ys,rfl,rfl,hp,hq,hor,k⟩:=h
 cases rx
 cases ry
 obtain ⟨i1,r1,l1,z1⟩:=I.list hp
 obtain ⟨i2,r2,l2,z2⟩:=I.list hq
 have e1:=r1.length
 have e2:=r2.length
 by_cases c:xs.length=ys.length
 ·have exy:xs=ys:=by
   rcases hor with z | z
   ·subst z;exact (List.eq_nil_of_length_eq_zero (by rw[<-c];rfl)).symm
   ·subst z;exact List.eq_nil_of_length_eq_zero (by rw[c];rfl)
  have x0:xs.length=0:=by
   rcases hor with z | z
   ·rw[z];rfl
   ·rw[c,z];rfl
  rw[decide_eq_true exy] at k
  refine SeqAt.RcNeAt.lists (e:=fun _=>true) l1.isList l2.isList (by rw[List.size_toArray,List.size_toArray];lia) hu (fun j h1 _=>?_) X.prog X.w _ _ ?_
  ·rw[List.size_toArray] at h1;lia
  ·refine ⟨.bl false,H,I,?_,k⟩
   have:(List.range i1.toArray.size).all (fun _=>true)=true:=List.all_eq_true.mpr fun _ _=>rfl
   rw[this]
   rfl
 ·rw[decide_eq_false (fun z=>c (by rw[z]))] at k
  exact SeqAt.RcNeAt.lists_lengths l1.isList l2.isList (by rw[List.size_toArray,List.size_toArray];exact bne_iff_ne.mpr (by lia)) hu X.prog X.w _ _ ⟨.bl true,H,I,rfl,k⟩
end
section
variable {X:Cx}
end
end L2
namespace DL
open PySem L2
inductive D where
 | non | bl (b:Bool) | int (i:Int) | str (x:Str) | lst (xs:List D) | tup (xs:List D) | scr (ns:List Int) | dic (ks:List Key) (vs:List D)
inductive SV where
 | v (d:D) | b (n:Nat) | p (n:Nat) (d:D)
structure Wd where
 K:PySem.W.Frag
 B:Addr->Prop
 H:Hp
mutual
def Rep (W:Wd):D->V->Prop
 | .non,v=>v=.non
 | .bl b,v=>v=.bl b
 | .int i,v=>v=.int i
 | .str x,v=>v=.str x
 | .lst xs,v=>∃ a vs,v=.ref a/\¬W.B a/\W.H a=some (.lst vs)/\Reps W xs vs
 | .tup xs,v=>∃ a vs,v=.ref a/\¬W.B a/\W.H a=some (.tup vs)/\Reps W xs vs
 | .scr ns,v=>∃ a,v=.ref a/\((¬W.B a/\Rd W.H a (.lst (ns.map V.int)))\/∀ H,SqL W.K H a (ns.map V.int))
 | .dic ks xs,v=>∃ a vs,v=.ref a/\¬W.B a/\W.H a=some (.dK (ks.zip vs))/\ks.length=vs.length/\Reps W xs vs
def Reps (W:Wd):List D->List V->Prop
 | [],vs=>vs=[]
 | d::ds,vs=>∃ v r,vs=v::r/\Rep W d v/\Reps W ds r
end
structure Kw (W W':Wd):Prop where
 k:W'.K=W.K
 keep:∀ a o,¬W.B a->W.H a=some o->W'.H a=some o/\¬W'.B a
theorem Kw.refl (W:Wd):Kw W W:=⟨rfl,fun _ _ n e=>⟨e,n⟩⟩
theorem Kw.trans {W W1 W2:Wd} (a:Kw W W1) (b:Kw W1 W2):Kw W W2:=⟨b.k.trans a.k,fun c o n e=>let ⟨h,n'⟩:=a.keep c o n e;b.keep c o n' h⟩
mutual
theorem Rep.kw {W W':Wd} (k:Kw W W'):∀ {d:D} {v:V},Rep W d v->Rep W' d v
 | .non,v,h=>by unfold Rep at *;exact h
 | .bl b,v,h=>by unfold Rep at *;exact h
 | .int i,v,h=>by unfold Rep at *;exact h
 | .str x,v,h=>by unfold Rep at *;exact h
 | .lst xs,v,h=>by
  unfold Rep at *
  obtain ⟨a,vs,e,n,h1,h2⟩:=h
  obtain ⟨h3,n'⟩:=k.keep a _ n h1
  exact ⟨a,vs,e,n',h3,Reps.kw k h2⟩
 | .tup xs,v,h=>by
  unfold Rep at *
  obtain ⟨a,vs,e,n,h1,h2⟩:=h
  obtain ⟨h3,n'⟩:=k.keep a _ n h1
  exact ⟨a,vs,e,n',h3,Reps.kw k h2⟩
 | .scr ns,v,h=>by
  unfold Rep at *
  obtain ⟨a,e,h⟩:=h
  refine ⟨a,e,?_⟩
  rcases h with ⟨n,h | ⟨o,h⟩⟩ | h
  ·obtain ⟨h3,n'⟩:=k.keep a _ n h
   exact .inl ⟨n',.inl h3⟩
  ·obtain ⟨h3,n'⟩:=k.keep a _ n h
   exact .inl ⟨n',.inr ⟨o,h3⟩⟩
  ·exact .inr (by rw[k.k];exact h)
 | .dic ks xs,v,h=>by
  unfold Rep at *
  obtain ⟨a,vs,e,n,h1,hl,h2⟩:=h
  obtain ⟨h3,n'⟩:=k.keep a _ n h1
  exact ⟨a,vs,e,n',h3,hl,Reps.kw k h2⟩
theorem Reps.kw {W W':Wd} (k:Kw W W'):∀ {ds:List D} {vs:List V},Reps W ds vs->Reps W' ds vs
 | [],vs,h=>by unfold Reps at *;exact h
 | d::ds,vs,h=>by
  unfold Reps at *
  obtain ⟨v,r,e,h1,h2⟩:=h
  exact ⟨v,r,e,Rep.kw k h1,Reps.kw k h2⟩
end
theorem Reps.len {W:Wd}:∀ {ds:List D} {vs:List V},Reps W ds vs->vs.length=ds.length
 | [],vs,h=>by unfold Reps at h;subst h;rfl
 | d::ds,vs,h=>by
  unfold Reps at h
  obtain ⟨v,r,rfl,_,h⟩:=h
  rw[List.length_cons,List.length_cons,h.len]
theorem Reps.nil {W:Wd}:Reps W [] []:=by unfold Reps;rfl
theorem Reps.cons {W:Wd} {d:D} {v:V} {ds:List D} {vs:List V} (h:Rep W d v) (t:Reps W ds vs):Reps W (d::ds) (v::vs):=by unfold Reps;exact ⟨v,vs,rfl,h,t⟩
theorem Reps.nil_inv {W:Wd} {vs:List V} (h:Reps W [] vs):vs=[]:=by unfold Reps at h;exact h
theorem Reps.cons_inv {W:Wd} {d:D} {ds:List D} {vs:List V} (h:Reps W (d::ds) vs):∃ v r,vs=v::r/\Rep W d v/\Reps W ds r:=by unfold Reps at h;exact h
theorem Reps.append {W:Wd}:∀ {ds es:List D} {vs us:List V},Reps W ds vs->Reps W es us->Reps W (ds++es) (vs++us)
 | [],es,vs,us,h,g=>by rw[h.nil_inv];exact g
 | d::ds,es,vs,us,h,g=>by
  obtain ⟨v,r,rfl,h1,h2⟩:=h.cons_inv
  exact .cons h1 (h2.append g)
theorem Reps.get {W:Wd}:∀ {ds:List D} {vs:List V} {i:Nat} {d:D},Reps W ds vs->ds[i]?=some d->∃ v,vs[i]?=some v/\Rep W d v
 | [],_,_,_,_,e=>by cases e
 | c::ds,vs,0,d,h,e=>by
  obtain ⟨v,r,rfl,h1,h2⟩:=h.cons_inv
  cases e
  exact ⟨v,rfl,h1⟩
 | c::ds,vs,i+1,d,h,e=>by
  obtain ⟨v,r,rfl,h1,h2⟩:=h.cons_inv
  obtain ⟨u,a,b⟩:=h2.get (i:=i) (d:=d) (by simpa using e)
  exact ⟨u,by simpa using a,b⟩
theorem Reps.take {W:Wd}:∀ {ds:List D} {vs:List V} (n:Nat),Reps W ds vs->Reps W (ds.take n) (vs.take n)
 | [],vs,n,h=>by rw[h.nil_inv];simp;exact .nil
 | d::ds,vs,0,h=>by simp;exact .nil
 | d::ds,vs,n+1,h=>by
  obtain ⟨v,r,rfl,h1,h2⟩:=h.cons_inv
  exact .cons h1 (h2.take n)
theorem Reps.drop {W:Wd}:∀ {ds:List D} {vs:List V} (n:Nat),Reps W ds vs->Reps W (ds.drop n) (vs.drop n)
 | [],vs,n,h=>by rw[h.nil_inv];simp;exact .nil
 | d::ds,vs,0,h=>h
 | d::ds,vs,n+1,h=>by
  obtain ⟨v,r,rfl,h1,h2⟩:=h.cons_inv
  exact h2.drop n
theorem Reps.reverse {W:Wd}:∀ {ds:List D} {vs:List V},Reps W ds vs->Reps W ds.reverse vs.reverse
 | [],vs,h=>by rw[h.nil_inv];exact .nil
 | d::ds,vs,h=>by
  obtain ⟨v,r,rfl,h1,h2⟩:=h.cons_inv
  rw[List.reverse_cons,List.reverse_cons]
  exact h2.reverse.append (.cons h1 .nil)
theorem Reps.set {W:Wd} {d:D} {v:V} (r:Rep W d v):∀ {ds:List D} {vs:List V} (i:Nat),Reps W ds vs->Reps W (ds.set i d) (vs.set i v)
 | [],vs,i,h=>by rw[h.nil_inv];exact .nil
 | c::ds,vs,0,h=>by
  obtain ⟨u,q,rfl,h1,h2⟩:=h.cons_inv
  exact .cons r h2
 | c::ds,vs,i+1,h=>by
  obtain ⟨u,q,rfl,h1,h2⟩:=h.cons_inv
  exact .cons h1 (Reps.set r i h2)
theorem Reps.ints {W:Wd}:∀ {ns:List Int} {vs:List V},Reps W (ns.map D.int) vs->vs=ns.map V.int
 | [],vs,h=>h.nil_inv
 | n::ns,vs,h=>by
  obtain ⟨v,r,rfl,h1,h2⟩:=Reps.cons_inv (d:=D.int n) (ds:=ns.map D.int) h
  unfold Rep at h1
  rw[h1,h2.ints]
  rfl
theorem Reps.of_ints {W:Wd}:∀ {ns:List Int},Reps W (ns.map D.int) (ns.map V.int)
 | []=>.nil
 | n::ns=>.cons (by unfold Rep;rfl) Reps.of_ints
abbrev Gm:=List (Option (List D))
structure DS where
 σ:List (Option SV)
 Γ:Gm
 lo:Nat
structure Fr where
 K:PySem.W.Frag
 H₀:Hp
 F:Addr->Prop
 L:Addr->Prop
 sub:∀ a,L a->F a
 dom:∀ a,F a->H₀ a≠none
def Bo (Γ:Gm) (α:Nat->Addr) (a:Addr):Prop:=∃ (n:Nat) (xs:List D),Γ[n]?=some (some xs)/\α n=a
abbrev wd (f:Fr) (α:Nat->Addr) (Γ:Gm) (H:Hp):Wd:=⟨f.K,fun a=>f.F a\/Bo Γ α a,H⟩
def RepV (f:Fr) (α:Nat->Addr) (Γ:Gm) (H:Hp):SV->V->Prop
 | .v d,v=>Rep (wd f α Γ H) d v
 | .b n,v=>n<Γ.length/\v=.ref (α n)
 | .p n d,v=>n<Γ.length/\∃ a w,v=.ref a/\¬(f.F a\/Bo Γ α a)/\H a=some (.tup [.ref (α n),w])/\Rep (wd f α Γ H) d w
structure RS (f:Fr) (α:Nat->Addr) (s:DS) (σ:St) (H:Hp):Prop where
 len:s.σ.length=σ.length
 slot:∀ (i:Nat) (d:SV),s.σ[i]?=some (some d)->∃ v,σ[i]?=some (some v)/\RepV f α s.Γ H d v
 box:∀ (n:Nat) (xs:List D),s.Γ[n]?=some (some xs)->∃ vs,H (α n)=some (.lst vs)/\Reps (wd f α s.Γ H) xs vs
 own:∀ (n:Nat) (xs:List D),s.Γ[n]?=some (some xs)->if n<s.lo then f.L (α n) else f.H₀ (α n)=none
 inj:∀ (n m:Nat) (xs ys:List D),s.Γ[n]?=some (some xs)->s.Γ[m]?=some (some ys)->α n=α m->n=m
 fr:∀ (b:Addr) (o:HO),f.H₀ b=some o->¬f.L b->H b=some o
 forb:∀ a,f.F a->H a≠none
structure Ext (f:Fr) (α α':Nat->Addr) (Γ Γ':Gm) (H H':Hp):Prop where
 kw:Kw (wd f α Γ H) (wd f α' Γ' H')
 m:Γ.length<=Γ'.length
 al:∀ n,n<Γ.length->α' n=α n
 lv:∀ (n:Nat) (xs:List D),n<Γ.length->Γ'[n]?=some (some xs)->∃ ys,Γ[n]?=some (some ys)
section
variable {f:Fr} {α α' α'':Nat->Addr} {Γ Γ' Γ'':Gm} {H H' H'':Hp} {s s':DS} {σ σ':St}
theorem Ext.refl:Ext f α α Γ Γ H H:=⟨.refl _,Nat.le_refl _,fun _ _=>rfl,fun _ xs _ e=>⟨xs,e⟩⟩
theorem Ext.trans (a:Ext f α α' Γ Γ' H H') (b:Ext f α' α'' Γ' Γ'' H' H''):Ext f α α'' Γ Γ'' H H'':=
 ⟨a.kw.trans b.kw,Nat.le_trans a.m b.m,fun n h=>(b.al n (Nat.lt_of_lt_of_le h a.m)).trans (a.al n h),fun n xs h e=>let ⟨ys,e'⟩:=b.lv n xs (Nat.lt_of_lt_of_le h a.m) e;a.lv n ys h e'⟩
theorem RepV.ext (e:Ext f α α' Γ Γ' H H'):∀ {d:SV} {v:V},RepV f α Γ H d v->RepV f α' Γ' H' d v
 | .v d,v,h=>Rep.kw e.kw (show Rep (wd f α Γ H) d v from h)
 | .b n,v,h=>⟨Nat.lt_of_lt_of_le h.1 e.m,by rw[e.al n h.1];exact h.2⟩
 | .p n d,v,⟨h,a,w,h1,h2,h3,h4⟩=>⟨Nat.lt_of_lt_of_le h e.m,a,w,h1,(e.kw.keep a _ h2 h3).2,by rw[e.al n h];exact (e.kw.keep a _ h2 h3).1,h4.kw e.kw⟩
theorem RS.live (r:RS f α s σ H) {a:Addr} (h:Bo s.Γ α a):H a≠none:=by
 obtain ⟨n,xs,e,rfl⟩:=h
 obtain ⟨vs,h,_⟩:=r.box n xs e
 rw[h]
 exact fun z=>nomatch z
theorem RS.fresh (r:RS f α s σ H) {a:Addr} (h:H a=none):¬(f.F a\/Bo s.Γ α a):=fun z=>by
 rcases z with z | z
 ·exact r.forb a z h
 ·exact r.live z h
theorem RS.fresh0 (r:RS f α s σ H) {a:Addr} (h:H a=none):f.H₀ a=none:=by
 cases e:f.H₀ a with
 | none=>rfl
 | some o=>
  by_cases c:f.L a
  ·exact absurd h (r.forb a (f.sub a c))
  ·rw[r.fr a o e c] at h
   cases h
theorem Ext.new (r:RS f α s σ H) {p:Addr} {o:HO} (h:H p=none):Ext f α α s.Γ s.Γ H (upd H p o):=
 ⟨⟨rfl,fun a u n e=>⟨by show upd H p o a=some u;rw[AY (Bu e h)];exact e,n⟩⟩,Nat.le_refl _,fun _ _=>rfl,fun _ xs _ e=>⟨xs,e⟩⟩
theorem RS.mv (r:RS f α s σ H) (e:Ext f α α s.Γ s.Γ H H') (k:∀ b o,H b=some o->H' b=some o):RS f α s σ H' where
 len:=r.len
 slot:=fun i d h=>let ⟨v,a,b⟩:=r.slot i d h;⟨v,a,b.ext e⟩
 box:=fun n xs h=>let ⟨vs,a,b⟩:=r.box n xs h;⟨vs,k _ _ a,b.kw e.kw⟩
 own:=r.own
 inj:=r.inj
 fr:=fun b o h n=>k _ _ (r.fr b o h n)
 forb:=fun a h=>by
  cases e:H a with
  | none=>exact absurd e (r.forb a h)
  | some o=>rw[k _ _ e];exact fun z=>nomatch z
theorem RS.new (r:RS f α s σ H) {p:Addr} {o:HO} (h:H p=none):RS f α s σ (upd H p o):=
 r.mv (.new r h) fun b u e=>by rw[AY (Bu e h)];exact e
theorem RS.set (r:RS f α s σ H) {i:Nat} {d:SV} {v:V} (h:RepV f α s.Γ H d v):RS f α {s with σ:=s.σ.set i (some d)} (σ.set i (some v)) H where
 len:=by rw[List.length_set,List.length_set];exact r.len
 slot:=fun j c e=>by
  have e:(s.σ.set i (some d))[j]?=some (some c):=e
  rw[List.getElem?_set] at e
  rw[List.getElem?_set]
  by_cases hij:i=j
  ·rw[if_pos hij] at e ⊢
   by_cases hl:i<s.σ.length
   ·rw[if_pos hl] at e
    cases e
    rw[if_pos (by rw[<-r.len];exact hl)]
    exact ⟨v,rfl,h⟩
   ·rw[if_neg hl] at e
    cases e
  ·rw[if_neg hij] at e ⊢
   exact r.slot j c e
 box:=r.box
 own:=r.own
 inj:=r.inj
 fr:=r.fr
 forb:=r.forb
theorem RS.slots (r:RS f α s σ H) {τ:List (Option SV)} {τ':St} (h:τ.length=τ'.length) (k:∀ (i:Nat) (d:SV),τ[i]?=some (some d)->∃ v,τ'[i]?=some (some v)/\RepV f α s.Γ H d v):RS f α {s with σ:=τ} τ' H:=
 ⟨h,k,r.box,r.own,r.inj,r.fr,r.forb⟩
theorem Ext.put {n:Nat} {xs ys:List D} {o:HO} (hn:Γ[n]?=some (some xs)):Ext f α α Γ (Γ.set n (some ys)) H (upd H (α n) o) where
 kw:=⟨rfl,fun a u h e=>by
  have na:a≠α n:=fun z=>h (.inr ⟨n,xs,hn,z.symm⟩)
  refine ⟨by show upd H (α n) o a=some u;rw[AY na];exact e,fun z=>?_⟩
  rcases z with z | ⟨m,zs,e1,e2⟩
  ·exact h (.inl z)
  ·rw[List.getElem?_set] at e1
   by_cases hm:n=m
   ·subst hm
    exact na e2.symm
   ·rw[if_neg hm] at e1
    exact h (.inr ⟨m,zs,e1,e2⟩)⟩
 m:=by rw[List.length_set];exact Nat.le_refl _
 al:=fun _ _=>rfl
 lv:=fun m zs _ e=>by
  rw[List.getElem?_set] at e
  by_cases hm:n=m
  ·subst hm;exact ⟨xs,hn⟩
  ·rw[if_neg hm] at e;exact ⟨zs,e⟩
theorem EZ {n:Nat} {xs:List D} {y:Option (List D)} {m:Nat} {z:Option (List D)} (hn:Γ[n]?=some (some xs)) (h:(Γ.set n y)[m]?=some z):(m=n/\z=y)\/(m≠n/\Γ[m]?=some z):=by
 rw[List.getElem?_set] at h
 by_cases hm:n=m
 ·rw[if_pos hm] at h
  subst hm
  rw[if_pos (List.getElem?_eq_some_iff.mp hn).1] at h
  cases h
  exact .inl ⟨rfl,rfl⟩
 ·rw[if_neg hm] at h
  exact .inr ⟨fun z=>hm z.symm,h⟩
theorem RS.put (r:RS f α s σ H) {n:Nat} {xs ys:List D} {vs:List V} (hn:s.Γ[n]?=some (some xs)) (h:Reps (wd f α s.Γ H) ys vs) :
  RS f α {s with Γ:=s.Γ.set n (some ys)} σ (upd H (α n) (.lst vs)):=by
 have e:Ext f α α s.Γ (s.Γ.set n (some ys)) H (upd H (α n) (.lst vs)):=.put hn
 refine ⟨r.len,fun i d h=>let ⟨v,a,b⟩:=r.slot i d h;⟨v,a,b.ext e⟩,fun m zs hm=>?_,fun m zs hm=>?_,fun m k zs us hm hk q=>?_,fun b o h1 h2=>?_,fun a h1=>?_⟩
 ·rcases EZ hn hm with ⟨rfl,z⟩ | ⟨hne,hm⟩
  ·cases z
   exact ⟨vs,A6,h.kw e.kw⟩
  ·obtain ⟨us,a,b⟩:=r.box m zs hm
   exact ⟨us,by rw[AY (fun z=>hne (r.inj m n _ _ hm hn z))];exact a,b.kw e.kw⟩
 ·rcases EZ hn hm with ⟨rfl,z⟩ | ⟨hne,hm⟩
  ·exact r.own _ _ hn
  ·exact r.own _ _ hm
 ·have g:∀ {m zs},(s.Γ.set n (some ys))[m]?=some (some zs)->∃ ws,s.Γ[m]?=some (some ws):=fun {m zs} hm=>by
   rcases EZ hn hm with ⟨rfl,z⟩ | ⟨hne,hm⟩
   ·exact ⟨_,hn⟩
   ·exact ⟨_,hm⟩
  obtain ⟨_,g1⟩:=g hm
  obtain ⟨_,g2⟩:=g hk
  exact r.inj _ _ _ _ g1 g2 q
 ·have hb:=r.fr b o h1 h2
  rw[AY ?_]
  ·exact hb
  ·intro z
   have ow:=r.own n xs hn
   split at ow
   ·exact h2 (z▸ow)
   ·rw[<-z,h1] at ow;cases ow
 ·by_cases z:a=α n
  ·rw[z,A6];exact fun z=>nomatch z
  ·rw[AY z];exact r.forb a h1
def B6 (α:Nat->Addr) (n:Nat) (a:Addr):Nat->Addr:=fun k=>if k=n then a else α k
theorem Ext.add (r:RS f α s σ H) {a:Addr} {xs:List D} {o:HO} (h:H a=none):Ext f α (B6 α s.Γ.length a) s.Γ (s.Γ++[some xs]) H (upd H a o) where
 kw:=⟨rfl,fun b u n e=>by
  have nb:b≠a:=Bu e h
  refine ⟨by show upd H a o b=some u;rw[AY nb];exact e,fun z=>?_⟩
  rcases z with z | ⟨m,zs,e1,e2⟩
  ·exact n (.inl z)
  ·by_cases hm:m<s.Γ.length
   ·rw[List.getElem?_append_left hm] at e1
    have e2:B6 α s.Γ.length a m=b:=e2
    unfold B6 at e2
    rw[if_neg (Nat.ne_of_lt hm)] at e2
    exact n (.inr ⟨m,zs,e1,e2⟩)
   ·have:m=s.Γ.length:=by
     have:=(List.getElem?_eq_some_iff.mp e1).1
     rw[List.length_append] at this
     simp at this
     lia
    subst this
    have e2:B6 α s.Γ.length a s.Γ.length=b:=e2
    unfold B6 at e2
    rw[if_pos rfl] at e2
    exact nb e2.symm⟩
 m:=by rw[List.length_append];lia
 al:=fun n h=>by unfold B6;rw[if_neg (Nat.ne_of_lt h)]
 lv:=fun n zs h e=>by rw[List.getElem?_append_left h] at e;exact ⟨zs,e⟩
theorem RS.add (r:RS f α s σ H) (hlo:s.lo<=s.Γ.length) {a:Addr} {xs:List D} {vs:List V} (h:H a=none) (hx:Reps (wd f α s.Γ H) xs vs) :
  RS f (B6 α s.Γ.length a) {s with Γ:=s.Γ++[some xs]} σ (upd H a (.lst vs)):=by
 have e:Ext f α (B6 α s.Γ.length a) s.Γ (s.Γ++[some xs]) H (upd H a (.lst vs)):=.add r h
 have old:∀ {m zs},(s.Γ++[some xs])[m]?=some (some zs)->(m<s.Γ.length/\s.Γ[m]?=some (some zs)/\B6 α s.Γ.length a m=α m)\/(m=s.Γ.length/\zs=xs/\B6 α s.Γ.length a m=a):=fun {m zs} hm=>by
  by_cases c:m<s.Γ.length
  ·rw[List.getElem?_append_left c] at hm
   exact .inl ⟨c,hm,e.al m c⟩
  ·have hl:=(List.getElem?_eq_some_iff.mp hm).1
   rw[List.length_append] at hl
   simp at hl
   have:m=s.Γ.length:=by lia
   subst this
   rw[List.getElem?_append_right (Nat.le_refl _)] at hm
   simp at hm
   exact .inr ⟨rfl,hm.symm,by unfold B6;rw[if_pos rfl]⟩
 refine ⟨r.len,fun i d h=>let ⟨v,a,b⟩:=r.slot i d h;⟨v,a,b.ext e⟩,fun m zs hm=>?_,fun m zs hm=>?_,fun m k zs us hm hk q=>?_,fun b o h1 h2=>?_,fun b h1=>?_⟩
 ·rcases old hm with ⟨c,g,z⟩ | ⟨c,rfl,z⟩
  ·obtain ⟨us,g1,g2⟩:=r.box m zs g
   refine ⟨us,?_,g2.kw e.kw⟩
   rw[z,AY (Bu g1 h)]
   exact g1
  ·exact ⟨vs,by rw[z,A6],hx.kw e.kw⟩
 ·rcases old hm with ⟨c,g,z⟩ | ⟨c,_,z⟩
  ·rw[z];exact r.own m zs g
  ·rw[z,if_neg (by show ¬m<s.lo;lia)];exact r.fresh0 h
 ·rcases old hm with ⟨c,g,z⟩ | ⟨c,_,z⟩<;>rcases old hk with ⟨c',g',z'⟩ | ⟨c',_,z'⟩
  ·rw[z,z'] at q;exact r.inj _ _ _ _ g g' q
  ·rw[z,z'] at q
   obtain ⟨us,g1,_⟩:=r.box m _ g
   rw[q,h] at g1;cases g1
  ·rw[z,z'] at q
   obtain ⟨us,g1,_⟩:=r.box k _ g'
   rw[<-q,h] at g1;cases g1
  ·rw[c,c']
 ·have hb:=r.fr b o h1 h2
  rw[AY (Bu hb h)]
  exact hb
 ·by_cases z:b=a
  ·rw[z,A6];exact fun z=>nomatch z
  ·rw[AY z];exact r.forb b h1
end
end DL
namespace DL
open PySem L2
abbrev ME:=DS->Option (SV×DS)
abbrev MF:=DS->Option (List D×DS)
abbrev MT:=DS->Option (Bool×DS)
abbrev MA:=DS->Option (List SV×DS)
def RepVs (f:Fr) (α:Nat->Addr) (Γ:Gm) (H:Hp):List SV->List V->Prop
 | [],vs=>vs=[]
 | d::ds,vs=>∃ v r,vs=v::r/\RepV f α Γ H d v/\RepVs f α Γ H ds r
def tD (f:Fr) (m:ME):TE:=fun σ H Q=>∃ α s r,RS f α s σ H/\s.lo<=s.Γ.length/\m s=some r/\∀ α' v H',RS f α' r.2 σ H'->r.2.lo=s.lo->Ext f α α' s.Γ r.2.Γ H H'->RepV f α' r.2.Γ H' r.1 v->Q v H'
def tDF (f:Fr) (m:MF):TE:=fun σ H Q=>∃ α s r,RS f α s σ H/\s.lo<=s.Γ.length/\m s=some r/\∀ α' a vs H',RS f α' r.2 σ H'->r.2.lo=s.lo->Ext f α α' s.Γ r.2.Γ H H'->H' a=none->Reps (wd f α' r.2.Γ H') r.1 vs->Q (.ref a) (upd H' a (.lst vs))
def tDT (f:Fr) (m:MT):TT:=fun σ H Q=>∃ α s r,RS f α s σ H/\s.lo<=s.Γ.length/\m s=some r/\∀ α' H',RS f α' r.2 σ H'->r.2.lo=s.lo->Ext f α α' s.Γ r.2.Γ H H'->Q r.1 H'
def tDA (f:Fr) (m:MA):TA:=fun σ H Q=>∃ α s r,RS f α s σ H/\s.lo<=s.Γ.length/\m s=some r/\∀ α' vs H',RS f α' r.2 σ H'->r.2.lo=s.lo->Ext f α α' s.Γ r.2.Γ H H'->RepVs f α' r.2.Γ H' r.1 vs->Q vs H'
structure DE (X:Cx) (e:Expr) (m:ME):Prop where
 h:∀ f:Fr,f.K=X.K->PE X e (tD f m)
instance {X:Cx} {e:Expr} {m:ME}:CoeFun (DE X e m) fun _=>∀ f:Fr,f.K=X.K->PE X e (tD f m):=⟨DE.h⟩
structure DF (X:Cx) (e:Expr) (m:MF):Prop where
 h:∀ f:Fr,f.K=X.K->PE X e (tDF f m)
instance {X:Cx} {e:Expr} {m:MF}:CoeFun (DF X e m) fun _=>∀ f:Fr,f.K=X.K->PE X e (tDF f m):=⟨DF.h⟩
structure DT (X:Cx) (e:Expr) (m:MT):Prop where
 h:∀ f:Fr,f.K=X.K->PT X e (tDT f m)
instance {X:Cx} {e:Expr} {m:MT}:CoeFun (DT X e m) fun _=>∀ f:Fr,f.K=X.K->PT X e (tDT f m):=⟨DT.h⟩
structure DW (X:Cx) (e:Expr) (m:MT):Prop where
 h:∀ f:Fr,f.K=X.K->PW X e (tDT f m)
instance {X:Cx} {e:Expr} {m:MT}:CoeFun (DW X e m) fun _=>∀ f:Fr,f.K=X.K->PW X e (tDT f m):=⟨DW.h⟩
structure DA (X:Cx) (es:List Expr) (m:MA):Prop where
 h:∀ f:Fr,f.K=X.K->PA X es (tDA f m)
instance {X:Cx} {es:List Expr} {m:MA}:CoeFun (DA X es m) fun _=>∀ f:Fr,f.K=X.K->PA X es (tDA f m):=⟨DA.h⟩
section
variable {X:Cx} {e a b c:Expr} {t t':TE} {pos:Pos}
theorem PE.imp (h:PE X e t) (k:∀ σ H Q,t' σ H Q->t σ H Q):PE X e t':=fun pins s σ H Q I q=>h pins s σ H Q I (k _ _ _ q)
theorem PT.imp {t t':TT} (h:PT X e t) (k:∀ σ H Q,t' σ H Q->t σ H Q):PT X e t':=fun pins s σ H Q I q=>h pins s σ H Q I (k _ _ _ q)
theorem PW.imp {t t':TT} (h:PW X e t) (k:∀ σ H Q,t' σ H Q->t σ H Q):PW X e t':=fun wh pins s σ H Q I q=>h wh pins s σ H Q I (k _ _ _ q)
theorem PA.imp {es:List Expr} {t t':TA} (h:PA X es t) (k:∀ σ H Q,t' σ H Q->t σ H Q):PA X es t':=fun pos pins s σ H Q I q=>h pos pins s σ H Q I (k _ _ _ q)
@[simp] def AA (i:Nat):ME:=fun s=>match s.σ[i]? with
 | some (some d)=>some (d,s)
 | _=>none
theorem TH {i:Nat} {x:Str} (h:PE X (.Name x pos) (GZ i)):DE X (.Name x pos) (AA i):=.mk fun f hf=>PE.imp h fun σ H Q hh_=>by
 obtain ⟨α,s,r,rs,lo,e,q⟩:=hh_
 unfold AA at e
 split at e
 ·rename_i d hd
  cases e
  obtain ⟨v,h1,h2⟩:=rs.slot i d hd
  exact ⟨v,h1,q α v H rs rfl .refl h2⟩
 ·cases e
theorem dv (i:Nat) {x:Str} (hN:X.N[i]?=some x:=by rfl) (hv:Vis X.env.scope x:=by first | exact Or.inl rfl | exact Or.inr (Or.inl rfl) | exact Or.inr (Or.inr rfl)) (hd:(x == ("__debug__":Str))=false:=by decide) (hcd:(x == ("__classdict__":Str))=false:=by decide):DE X (.Name x pos) (AA i):=TH (LY hN hv hd hcd)
@[simp] def Dz (i:Nat):MF:=fun s=>match s.σ[i]? with
 | some (some (.b n))=>match s.Γ[n]? with
  | some (some xs)=>if s.lo<=n then some (xs,{s with σ:=s.σ.set i none,Γ:=s.Γ.set n none}) else none
  | _=>none
 | _=>none
@[simp] def mC (d:D):ME:=fun s=>some (.v d,s)
theorem Ey {d:D} {v:V} (h:PE X e (tC v)) (r:∀ W,Rep W d v):DE X e (mC d):=.mk fun f hf=>PE.imp h fun σ H Q hh_=>by
 obtain ⟨α,s,r',rs,lo,e,q⟩:=hh_
 cases e
 exact q α v H rs rfl .refl (r _)
theorem AH {i j}:DE X (.Constant (.int i) j pos) (mC (.int i)):=Ey Jp fun W=>by unfold Rep;rfl
theorem DZ {i j}:DE X (.Constant (.bool i) j pos) (mC (.bl i)):=Ey O0 fun W=>by unfold Rep;rfl
theorem CV {j}:DE X (.Constant .none j pos) (mC .non):=Ey Em fun W=>by unfold Rep;rfl
theorem AI {i j}:DE X (.Constant (.str i) j pos) (mC (.str i)):=Ey Du fun W=>by unfold Rep;rfl
theorem D6 {f:Fr} {α:Nat->Addr} {s:DS} {σ:St} {H:Hp} {p:Addr} {xs:List D} {vs:List V} (r:RS f α s σ H) (h:H p=none) (hx:Reps (wd f α s.Γ H) xs vs):Rep (wd f α s.Γ (upd H p (.lst vs))) (.lst xs) (.ref p):=by
 unfold Rep
 exact ⟨p,vs,rfl,r.fresh h,A6,hx.kw (Ext.new r h).kw⟩
theorem E3 {f:Fr} {α:Nat->Addr} {s:DS} {σ:St} {H:Hp} {p:Addr} {xs:List D} {vs:List V} (r:RS f α s σ H) (h:H p=none) (hx:Reps (wd f α s.Γ H) xs vs):Rep (wd f α s.Γ (upd H p (.tup vs))) (.tup xs) (.ref p):=by
 unfold Rep
 exact ⟨p,vs,rfl,r.fresh h,A6,hx.kw (Ext.new r h).kw⟩
@[simp] def AF (m:MF):ME:=fun s=>(m s).map fun r=>(.v (.lst r.1),r.2)
theorem Ai {m:MF} (h:DF X e m):DE X e (AF m):=.mk fun f hf=>PE.imp (h f hf) fun σ H Q hh_=>by
 obtain ⟨α,s,r,rs,lo,e,q⟩:=hh_
 unfold AF at e
 cases hm:m s with
 | none=>rw[hm] at e;cases e
 | some r'=>
  rw[hm] at e
  cases e
  exact ⟨α,s,r',rs,lo,hm,fun α' p vs H' rs' l' ex hp hx=>q α' _ _ (rs'.new hp) l' (ex.trans (.new rs' hp)) (D6 rs' hp hx)⟩
@[simp] def AC:MA:=fun s=>some ([],s)
@[simp] def AB (m:ME) (ms:MA):MA:=fun s=>(m s).bind fun r=>(ms r.2).map fun q=>(r.1::q.1,q.2)
theorem RepVs.nil {f:Fr} {α:Nat->Addr} {Γ:Gm} {H:Hp}:RepVs f α Γ H [] []:=by unfold RepVs;rfl
theorem RepVs.cons {f:Fr} {α:Nat->Addr} {Γ:Gm} {H:Hp} {d:SV} {v:V} {ds:List SV} {vs:List V} (h:RepV f α Γ H d v) (t:RepVs f α Γ H ds vs):RepVs f α Γ H (d::ds) (v::vs):=by unfold RepVs;exact ⟨v,vs,rfl,h,t⟩
theorem RepVs.cons_inv {f:Fr} {α:Nat->Addr} {Γ:Gm} {H:Hp} {d:SV} {ds:List SV} {vs:List V} (h:RepVs f α Γ H (d::ds) vs):∃ v r,vs=v::r/\RepV f α Γ H d v/\RepVs f α Γ H ds r:=by unfold RepVs at h;exact h
theorem RepVs.nil_inv {f:Fr} {α:Nat->Addr} {Γ:Gm} {H:Hp} {vs:List V} (h:RepVs f α Γ H [] vs):vs=[]:=by unfold RepVs at h;exact h
theorem RepVs.len {f:Fr} {α:Nat->Addr} {Γ:Gm} {H:Hp}:∀ {ds:List SV} {vs:List V},RepVs f α Γ H ds vs->vs.length=ds.length
 | [],vs,h=>by rw[h.nil_inv];rfl
 | d::ds,vs,h=>by
  obtain ⟨v,r,rfl,_,h2⟩:=h.cons_inv
  rw[List.length_cons,List.length_cons,h2.len]
theorem AJ:DA X [] AC:=.mk fun f hf=>PA.imp B4 fun σ H Q hh_=>by
 obtain ⟨α,s,r,rs,lo,e,q⟩:=hh_
 cases e
 exact q α [] H rs rfl .refl .nil
theorem AD {es:List Expr} {m:ME} {ms:MA} (h:DE X e m) (hs:DA X es ms) (hst:starEach (e::es) X.env=(false,eval e X.env)::starEach es X.env:=by rfl):DA X (e::es) (AB m ms):=.mk fun f hf=>
 PA.imp (BP (h f hf) (hs f hf) hst) fun σ H Q hh_=>by
  obtain ⟨α,s,r,rs,lo,e,q⟩:=hh_
  unfold AB at e
  cases h1:m s with
  | none=>rw[h1] at e;cases e
  | some r1=>
   rw[h1] at e
   cases h2:ms r1.2 with
   | none=>simp[h2] at e
   | some r2=>
    simp[h2] at e
    subst e
    refine ⟨α,s,r1,rs,lo,h1,fun α1 v H1 rs1 l1 e1 hv=>⟨α1,r1.2,r2,rs1,by rw[l1];exact Nat.le_trans lo e1.m,h2,fun α2 vs H2 rs2 l2 e2 hvs=>?_⟩⟩
    exact q α2 _ H2 rs2 (l2.trans l1) (e1.trans e2) (.cons (hv.ext e2) hvs)
@[simp] def trees:List SV->Option (List D)
 | []=>some []
 | .v d::r=>(trees r).map (d::·)
 | _=>none
theorem II {f:Fr} {α:Nat->Addr} {Γ:Gm} {H:Hp}:∀ {ds:List SV} {xs:List D} {vs:List V},trees ds=some xs->RepVs f α Γ H ds vs->Reps (wd f α Γ H) xs vs
 | [],xs,vs,e,h=>by cases e;rw[h.nil_inv];exact .nil
 | .v d::r,xs,vs,e,h=>by
  obtain ⟨v,q,rfl,h1,h2⟩:=h.cons_inv
  unfold trees at e
  cases ht:trees r with
  | none=>rw[ht] at e;cases e
  | some ys=>
   rw[ht] at e
   cases e
   exact .cons h1 (II ht h2)
 | .b n::r,xs,vs,e,h=>by unfold trees at e;cases e
 | .p n d::r,xs,vs,e,h=>by unfold trees at e;cases e
def big:Nat:=1000000
theorem CQ {n:Nat} (h:n<=big):n<=sizeLine:=Ev.small h
theorem Ep {n:Nat} (h:n<=big):n<sizeLine:=Ev.Lv h
@[simp] def AX (ms:MA):MF:=fun s=>(ms s).bind fun r=>(trees r.1).bind fun xs=>if xs.length<=big then some (xs,r.2) else none
@[simp] def CS (ms:MA):ME:=fun s=>(ms s).bind fun r=>(trees r.1).bind fun xs=>if xs.length<=big then some (.v (.tup xs),r.2) else none
theorem bind_some {α β:Type} {o:Option α} {g:α->Option β} {z:β} (h:o.bind g=some z):∃ y,o=some y/\g y=some z:=by
 cases o with
 | none=>cases h
 | some y=>exact ⟨y,rfl,h⟩
theorem Ah {α β:Type} {o:Option α} {g:α->β} {z:β} (h:o.map g=some z):∃ y,o=some y/\g y=z:=by
 cases o with
 | none=>cases h
 | some y=>exact ⟨y,rfl,Option.some.inj h⟩
theorem BF {es:List Expr} {ms:MA} (h:DA X es ms):DF X (.List es pos) (AX ms):=.mk fun f hf=>PE.imp (MB (h f hf)) fun σ H Q hh_=>by
 obtain ⟨α,s,r,rs,lo,e,q⟩:=hh_
 obtain ⟨r1,h1,e⟩:=bind_some e
 obtain ⟨xs,h2,e⟩:=bind_some e
 split at e
 ·rename_i hz
  cases e
  refine ⟨α,s,r1,rs,lo,h1,fun α1 vs H1 rs1 l1 e1 hvs=>?_⟩
  have hx:=II h2 hvs
  have hz':vs.length<=sizeLine:=by rw[hx.len];exact CQ hz
  exact ⟨hz',fun p hp=>q α1 p vs H1 rs1 l1 e1 hp hx⟩
 ·cases e
theorem E5 {es:List Expr} {ms:MA} {k} (h:DA X es ms):DE X (.Tuple es k pos) (CS ms):=.mk fun f hf=>PE.imp (FG (h f hf)) fun σ H Q hh_=>by
 obtain ⟨α,s,r,rs,lo,e,q⟩:=hh_
 obtain ⟨r1,h1,e⟩:=bind_some e
 obtain ⟨xs,h2,e⟩:=bind_some e
 split at e
 ·rename_i hz
  cases e
  refine ⟨α,s,r1,rs,lo,h1,fun α1 vs H1 rs1 l1 e1 hvs=>?_⟩
  have hx:=II h2 hvs
  exact ⟨by rw[hx.len];exact CQ hz,fun p hp=>q α1 _ _ (rs1.new hp) l1 (e1.trans (.new rs1 hp)) (E3 rs1 hp hx)⟩
 ·cases e
def OpD (X:Cx) (g:Gm->SV->SV->Option D) (r:R2):Prop:=∀ (f:Fr) (α:Nat->Addr) (s:DS) (σ:St) (H:Hp) (x y:SV) (u v:V) (z:D) (Q:VK),f.K=X.K->RS f α s σ H->RepV f α s.Γ H x u->RepV f α s.Γ H y v->g s.Γ x y=some z ->
 (∀ w H',RS f α s σ H'->Ext f α α s.Γ s.Γ H H'->Rep (wd f α s.Γ H') z w->Q w H')->r u v H Q
def OpF (X:Cx) (g:Gm->SV->SV->Option (List D)) (r:R2):Prop:=∀ (f:Fr) (α:Nat->Addr) (s:DS) (σ:St) (H:Hp) (x y:SV) (u v:V) (z:List D) (Q:VK),f.K=X.K->RS f α s σ H->RepV f α s.Γ H x u->RepV f α s.Γ H y v->g s.Γ x y=some z ->
 (∀ a vs,H a=none->Reps (wd f α s.Γ H) z vs->Q (.ref a) (upd H a (.lst vs)))->r u v H Q
@[simp] def mOp (g:Gm->SV->SV->Option D) (ma mb:ME):ME:=fun s=>(ma s).bind fun x=>(mb x.2).bind fun y=>(g y.2.Γ x.1 y.1).map fun z=>(.v z,y.2)
@[simp] def BE (g:Gm->SV->SV->Option (List D)) (ma mb:ME):MF:=fun s=>(ma s).bind fun x=>(mb x.2).bind fun y=>(g y.2.Γ x.1 y.1).map fun z=>(z,y.2)
variable {g:Gm->SV->SV->Option D} {gF:Gm->SV->SV->Option (List D)} {r:R2} {ma mb mc:ME}
theorem Fz {f:Fr} {σ:St} {H:Hp} {Q:VK} (hf:f.K=X.K) (hg:OpD X g r) (h:tD f (mOp g ma mb) σ H Q):tOp r (tD f ma) (tD f mb) σ H Q:=by
 obtain ⟨α,s,r',rs,lo,e,q⟩:=h
 obtain ⟨x,h1,e⟩:=bind_some e
 obtain ⟨y,h2,e⟩:=bind_some e
 obtain ⟨z,h3,rfl⟩:=Ah e
 refine ⟨α,s,x,rs,lo,h1,fun α1 u H1 rs1 l1 e1 hu=>⟨α1,x.2,y,rs1,by rw[l1];exact Nat.le_trans lo e1.m,h2,fun α2 v H2 rs2 l2 e2 hv=>?_⟩⟩
 exact hg f α2 y.2 σ H2 x.1 y.1 u v z Q hf rs2 (hu.ext e2) hv h3 fun w H3 rs3 e3 hw=>q α2 w H3 rs3 (l2.trans l1) ((e1.trans e2).trans e3) hw
theorem VB {f:Fr} {σ:St} {H:Hp} {Q:VK} (hf:f.K=X.K) (hg:OpF X gF r) (h:tDF f (BE gF ma mb) σ H Q):tOp r (tD f ma) (tD f mb) σ H Q:=by
 obtain ⟨α,s,r',rs,lo,e,q⟩:=h
 obtain ⟨x,h1,e⟩:=bind_some e
 obtain ⟨y,h2,e⟩:=bind_some e
 obtain ⟨z,h3,rfl⟩:=Ah e
 refine ⟨α,s,x,rs,lo,h1,fun α1 u H1 rs1 l1 e1 hu=>⟨α1,x.2,y,rs1,by rw[l1];exact Nat.le_trans lo e1.m,h2,fun α2 v H2 rs2 l2 e2 hv=>?_⟩⟩
 exact hg f α2 y.2 σ H2 x.1 y.1 u v z Q hf rs2 (hu.ext e2) hv h3 fun a vs ha hx=>q α2 a vs H2 rs2 (l2.trans l1) (e1.trans e2) ha hx
theorem EF {op:Operator} (ho:OpR X (binaryOp op) r) (hg:OpD X g r) (ha:DE X a ma) (hb:DE X b mb):DE X (.BinOp a op b pos) (mOp g ma mb):=.mk fun f hf=>PE.imp (LN ho (ha f hf) (hb f hf)) fun σ H Q h=>Fz hf hg h
theorem KA {op:Operator} (ho:OpR X (binaryOp op) r) (hg:OpF X gF r) (ha:DE X a ma) (hb:DE X b mb):DF X (.BinOp a op b pos) (BE gF ma mb):=.mk fun f hf=>PE.imp (LN ho (ha f hf) (hb f hf)) fun σ H Q h=>VB hf hg h
theorem SS (ho:IxR X r) (hg:OpD X g r) (ha:DE X a ma) (hb:DE X b mb) (hs:Jw b):DE X (.Subscript a b pos) (mOp g ma mb):=.mk fun f hf=>PE.imp (Ni ho (ha f hf) (hb f hf) hs) fun σ H Q h=>Fz hf hg h
theorem IH {op:CmpOp} (ho:OpR X (compareOp op) r) (hg:OpD X g r) (ha:DE X a ma) (hb:DE X b mb) (hm:behindInMarks op b=false):DE X (.Compare a [op] [b] pos) (mOp g ma mb):=.mk fun f hf=>PE.imp (Oz ho (ha f hf) (hb f hf) hm) fun σ H Q h=>Fz hf hg h
@[simp] def EG:SV->Option Bool
 | .v (.bl b)=>some b
 | _=>none
@[simp] def AE (m:ME):MT:=fun s=>(m s).bind fun x=>(EG x.1).map fun b=>(b,x.2)
theorem E4 {f:Fr} {α:Nat->Addr} {Γ:Gm} {H:Hp} {d:SV} {b:Bool} {v:V} (h:EG d=some b) (r:RepV f α Γ H d v):v=.bl b:=by
 unfold EG at h
 split at h
 ·cases h
  have r:Rep (wd f α Γ H) (.bl b) v:=r
  unfold Rep at r
  exact r
 ·cases h
theorem DU {op:CmpOp} (ho:OpR X (compareOp op) r) (hg:OpD X g r) (ha:DE X a ma) (hb:DE X b mb) (hm:behindInMarks op b=false):DT X (.Compare a [op] [b] pos) (AE (mOp g ma mb)):=.mk fun f hf=>PT.imp (Lf ho (ha f hf) (hb f hf) hm) fun σ H Q hh_=>by
 obtain ⟨α,s,r',rs,lo,e,q⟩:=hh_
 obtain ⟨x,h1,e⟩:=bind_some e
 obtain ⟨k,h2,rfl⟩:=Ah e
 exact Fz hf hg ⟨α,s,x,rs,lo,h1,fun α' v H' rs' l' ex hv=>⟨k,E4 h2 hv,q α' H' rs' l' ex⟩⟩
@[simp] def elems (Γ:Gm):SV->Option (List D)
 | .v (.lst xs)=>some xs
 | .b n=>(Γ[n]?).join
 | _=>none
theorem Be {f:Fr} {α:Nat->Addr} {s:DS} {σ:St} {H:Hp} {d:SV} {xs:List D} {v:V} (rs:RS f α s σ H) (h:elems s.Γ d=some xs) (r:RepV f α s.Γ H d v):∃ a vs,v=.ref a/\H a=some (.lst vs)/\Reps (wd f α s.Γ H) xs vs:=by
 unfold elems at h
 split at h
 ·rename_i ys
  cases h
  have r:Rep (wd f α s.Γ H) (.lst xs) v:=r
  unfold Rep at r
  obtain ⟨a,vs,e,_,h1,h2⟩:=r
  exact ⟨a,vs,e,h1,h2⟩
 ·rename_i n
  have h:s.Γ[n]?=some (some xs):=by
   cases hg:s.Γ[n]? with
   | none=>rw[hg] at h;cases h
   | some o=>rw[hg] at h;exact congrArg some h
  obtain ⟨vs,h1,h2⟩:=rs.box n xs h
  exact ⟨α n,vs,r.2,h1,h2⟩
 ·cases h
@[simp] def Hu (Γ:Gm):SV->Option Bool
 | .v .non=>some false
 | .v (.bl b)=>some b
 | .v (.int i)=>some (i != 0)
 | .v (.tup xs)=>some (!xs.isEmpty)
 | d=>(elems Γ d).map fun xs=>!xs.isEmpty
theorem isE {W:Wd} {xs:List D} {vs:List V} (h:Reps W xs vs):(!xs.isEmpty)=!vs.isEmpty:=by
 cases xs with
 | nil=>rw[h.nil_inv];rfl
 | cons d ds=>obtain ⟨v,r,rfl,_⟩:=h.cons_inv;rfl
theorem TJ {f:Fr} {α:Nat->Addr} {s:DS} {σ:St} {H:Hp} {d:SV} {b:Bool} {v:V} (rs:RS f α s σ H) (h:Hu s.Γ d=some b) (r:RepV f α s.Γ H d v):Jq f.K v H b:=by
 unfold Hu at h
 split at h
 ·cases h
  have r:Rep (wd f α s.Γ H) .non v:=r
  unfold Rep at r
  rw[r];rfl
 ·cases h
  have r:Rep (wd f α s.Γ H) (.bl b) v:=r
  unfold Rep at r
  rw[r];rfl
 ·rename_i i
  cases h
  have r:Rep (wd f α s.Γ H) (.int i) v:=r
  unfold Rep at r
  rw[r];rfl
 ·rename_i xs
  cases h
  have r:Rep (wd f α s.Γ H) (.tup xs) v:=r
  unfold Rep at r
  obtain ⟨a,vs,e,_,h1,h2⟩:=r
  rw[e]
  exact .inr (.inl ⟨vs,SqT.of h1,isE h2⟩)
 ·obtain ⟨xs,h1,rfl⟩:=Ah h
  obtain ⟨a,vs,e,h2,h3⟩:=Be rs h1 r
  rw[e]
  exact .inl ⟨vs,SqL.of h2,isE h3⟩
@[simp] def Am (m:ME):MT:=fun s=>(m s).bind fun x=>(Hu x.2.Γ x.1).map fun b=>(b,x.2)
theorem B9 (h:DE X e ma) (he:∀ whole,isTrue e X.env whole=(do let v <-whole;standAt e.pos;holding [v] (truthy v)):=by intro _;rfl):DT X e (Am ma):=.mk fun f hf=>PT.imp (US (h f hf) he) fun σ H Q hh_=>by
 obtain ⟨α,s,r',rs,lo,e,q⟩:=hh_
 obtain ⟨x,h1,e⟩:=bind_some e
 obtain ⟨k,h2,rfl⟩:=Ah e
 exact ⟨α,s,x,rs,lo,h1,fun α' v H' rs' l' ex hv=>⟨k,by rw[<-hf];exact TJ rs' h2 hv,q α' H' rs' l' ex⟩⟩
@[simp] def As (m:MT):MT:=fun s=>(m s).map fun x=>(!x.1,x.2)
@[simp] def Bw (m n:MT):MT:=fun s=>(m s).bind fun x=>if x.1=true then n x.2 else some (false,x.2)
@[simp] def mOr (m n:MT):MT:=fun s=>(m s).bind fun x=>if x.1=true then some (true,x.2) else n x.2
variable {ta tb:MT}
theorem CZ (h:DT X e ta):DT X (.UnaryOp .Not e pos) (As ta):=.mk fun f hf=>PT.imp (KR (h f hf)) fun σ H Q hh_=>by
 obtain ⟨α,s,r',rs,lo,e,q⟩:=hh_
 obtain ⟨x,h1,rfl⟩:=Ah e
 exact ⟨α,s,x,rs,lo,h1,fun α' H' rs' l' ex=>q α' H' rs' l' ex⟩
theorem GO (h:DT X a ta):DW X (.BoolOp .And [a] pos) ta:=.mk fun f hf=>VI (h f hf)
theorem DH (h:DT X a ta):DW X (.BoolOp .Or [a] pos) ta:=.mk fun f hf=>Nw (h f hf)
theorem Gc {rest:List Expr} (h:DT X a ta) (h2:DW X (.BoolOp .And (b::rest) pos) tb):DW X (.BoolOp .And (a::b::rest) pos) (Bw ta tb):=.mk fun f hf=>PW.imp (Pw (h f hf) (h2 f hf)) fun σ H Q hh_=>by
 obtain ⟨α,s,r',rs,lo,e,q⟩:=hh_
 obtain ⟨x,h1,e⟩:=bind_some e
 refine ⟨α,s,x,rs,lo,h1,fun α' H' rs' l' ex=>?_⟩
 split at e
 ·rename_i c
  rw[if_pos c]
  exact ⟨α',x.2,r',rs',by rw[l'];exact Nat.le_trans lo ex.m,e,fun α2 H2 rs2 l2 e2=>q α2 H2 rs2 (l2.trans l') (ex.trans e2)⟩
 ·rename_i c
  cases e
  rw[if_neg c]
  exact q α' H' rs' l' ex
theorem CF {rest:List Expr} (h:DT X a ta) (h2:DW X (.BoolOp .Or (b::rest) pos) tb):DW X (.BoolOp .Or (a::b::rest) pos) (mOr ta tb):=.mk fun f hf=>PW.imp (MY (h f hf) (h2 f hf)) fun σ H Q hh_=>by
 obtain ⟨α,s,r',rs,lo,e,q⟩:=hh_
 obtain ⟨x,h1,e⟩:=bind_some e
 refine ⟨α,s,x,rs,lo,h1,fun α' H' rs' l' ex=>?_⟩
 split at e
 ·rename_i c
  cases e
  rw[if_pos c]
  exact q α' H' rs' l' ex
 ·rename_i c
  rw[if_neg c]
  exact ⟨α',x.2,r',rs',by rw[l'];exact Nat.le_trans lo ex.m,e,fun α2 H2 rs2 l2 e2=>q α2 H2 rs2 (l2.trans l') (ex.trans e2)⟩
theorem CN (h:DW X e ta):DT X e ta:=.mk fun f hf=>PW.pt (h f hf)
@[simp] def M3 (m:ME):ME:=fun s=>(m s).bind fun x=>(EG x.1).map fun b=>(.v (.bl (!b)),x.2)
@[simp] def Dg (m n:ME):ME:=fun s=>(m s).bind fun x=>(EG x.1).bind fun b=>if b=true then n x.2 else some (.v (.bl false),x.2)
@[simp] def Ex (m n:ME):ME:=fun s=>(m s).bind fun x=>(EG x.1).bind fun b=>if b=true then some (.v (.bl true),x.2) else n x.2
theorem Gb {f:Fr} {α:Nat->Addr} {Γ:Gm} {H:Hp} {b:Bool}:RepV f α Γ H (.v (.bl b)) (.bl b):=by show Rep _ _ _;unfold Rep;rfl
theorem Pu (h:DE X e ma):DE X (.UnaryOp .Not e pos) (M3 ma):=.mk fun f hf=>PE.imp (S9 (h f hf)) fun σ H Q hh_=>by
 obtain ⟨α,s,r',rs,lo,e,q⟩:=hh_
 obtain ⟨x,h1,e⟩:=bind_some e
 obtain ⟨k,h2,rfl⟩:=Ah e
 exact ⟨α,s,x,rs,lo,h1,fun α' v H' rs' l' ex hv=>⟨k,E4 h2 hv,q α' _ H' rs' l' ex Gb⟩⟩
theorem Hc {op} (h:DE X a ma):DE X (.BoolOp op [a] pos) ma:=.mk fun f hf=>Vd (h f hf)
theorem Fn {rest:List Expr} (h:DE X a ma) (h2:DE X (.BoolOp .And (b::rest) pos) mb):DE X (.BoolOp .And (a::b::rest) pos) (Dg ma mb):=.mk fun f hf=>PE.imp (OQ (h f hf) (h2 f hf)) fun σ H Q hh_=>by
 obtain ⟨α,s,r',rs,lo,e,q⟩:=hh_
 obtain ⟨x,h1,e⟩:=bind_some e
 obtain ⟨k,h2,e⟩:=bind_some e
 refine ⟨α,s,x,rs,lo,h1,fun α' v H' rs' l' ex hv=>⟨k,E4 h2 hv,?_⟩⟩
 split at e
 ·rename_i c
  rw[if_pos c]
  exact ⟨α',x.2,r',rs',by rw[l'];exact Nat.le_trans lo ex.m,e,fun α2 v2 H2 rs2 l2 e2=>q α2 v2 H2 rs2 (l2.trans l') (ex.trans e2)⟩
 ·rename_i c
  cases e
  rw[if_neg c]
  exact q α' _ H' rs' l' ex Gb
theorem Rt {rest:List Expr} (h:DE X a ma) (h2:DE X (.BoolOp .Or (b::rest) pos) mb):DE X (.BoolOp .Or (a::b::rest) pos) (Ex ma mb):=.mk fun f hf=>PE.imp (UZ (h f hf) (h2 f hf)) fun σ H Q hh_=>by
 obtain ⟨α,s,r',rs,lo,e,q⟩:=hh_
 obtain ⟨x,h1,e⟩:=bind_some e
 obtain ⟨k,h2,e⟩:=bind_some e
 refine ⟨α,s,x,rs,lo,h1,fun α' v H' rs' l' ex hv=>⟨k,E4 h2 hv,?_⟩⟩
 split at e
 ·rename_i c
  cases e
  rw[if_pos c]
  exact q α' _ H' rs' l' ex Gb
 ·rename_i c
  rw[if_neg c]
  exact ⟨α',x.2,r',rs',by rw[l'];exact Nat.le_trans lo ex.m,e,fun α2 v2 H2 rs2 l2 e2=>q α2 v2 H2 rs2 (l2.trans l') (ex.trans e2)⟩
def CaD (X:Cx) (g:Gm->List SV->Option D) (r:List V->Hp->VK->Prop):Prop:=∀ (f:Fr) (α:Nat->Addr) (s:DS) (σ:St) (H:Hp) (xs:List SV) (us:List V) (z:D) (Q:VK),f.K=X.K->RS f α s σ H->RepVs f α s.Γ H xs us->g s.Γ xs=some z ->
 (∀ w H',RS f α s σ H'->Ext f α α s.Γ s.Γ H H'->Rep (wd f α s.Γ H') z w->Q w H')->r us H Q
def CaF (X:Cx) (g:Gm->List SV->Option (List D)) (r:List V->Hp->VK->Prop):Prop:=∀ (f:Fr) (α:Nat->Addr) (s:DS) (σ:St) (H:Hp) (xs:List SV) (us:List V) (z:List D) (Q:VK),f.K=X.K->RS f α s σ H->RepVs f α s.Γ H xs us->g s.Γ xs=some z ->
 (∀ a vs,H a=none->Reps (wd f α s.Γ H) z vs->Q (.ref a) (upd H a (.lst vs)))->r us H Q
@[simp] def AO (g:Gm->List SV->Option D) (ms:MA):ME:=fun s=>(ms s).bind fun x=>(g x.2.Γ x.1).map fun z=>(.v z,x.2)
@[simp] def EK (g:Gm->List SV->Option (List D)) (ms:MA):MF:=fun s=>(ms s).bind fun x=>(g x.2.Γ x.1).map fun z=>(z,x.2)
variable {gc:Gm->List SV->Option D} {gcF:Gm->List SV->Option (List D)} {rc:List V->Hp->VK->Prop} {ms:MA} {es:List Expr} {x:Str} {p:Pos} {id T:String}
theorem Kd {f:Fr} {σ:St} {H:Hp} {Q:VK} (hf:f.K=X.K) (hg:CaD X gc rc) (h:tD f (AO gc ms) σ H Q):tCB rc (tDA f ms) σ H Q:=by
 obtain ⟨α,s,r',rs,lo,e,q⟩:=h
 obtain ⟨x,h1,e⟩:=bind_some e
 obtain ⟨z,h3,rfl⟩:=Ah e
 refine ⟨α,s,x,rs,lo,h1,fun α1 us H1 rs1 l1 e1 hu=>?_⟩
 exact hg f α1 x.2 σ H1 x.1 us z Q hf rs1 hu h3 fun w H3 rs3 e3 hw=>q α1 w H3 rs3 l1 (e1.trans e3) hw
theorem Pe {f:Fr} {σ:St} {H:Hp} {Q:VK} (hf:f.K=X.K) (hg:CaF X gcF rc) (h:tDF f (EK gcF ms) σ H Q):tCB rc (tDA f ms) σ H Q:=by
 obtain ⟨α,s,r',rs,lo,e,q⟩:=h
 obtain ⟨x,h1,e⟩:=bind_some e
 obtain ⟨z,h3,rfl⟩:=Ah e
 refine ⟨α,s,x,rs,lo,h1,fun α1 us H1 rs1 l1 e1 hu=>?_⟩
 exact hg f α1 x.2 σ H1 x.1 us z Q hf rs1 hu h3 fun a vs ha hx=>q α1 a vs H1 rs1 l1 e1 ha hx
theorem Fp (hc:Bq X (.builtin id) rc) (hgc:CaD X gc rc) (hg:Gl X x) (hm:X.mg x=none) (hv:bootBuiltins x=some (.builtin id)) (ha:DA X (e::es) ms) (hn:x≠"__name__":=by decide) (hdb:(x == ("__debug__":Str))=false:=by decide)
  (he:starEach (e::es) X.env=(false,eval e X.env)::starEach es X.env:=by rfl) (hpl:(backTo pos (starEach es X.env)).any (·.1)=false:=by rfl):DE X (.Call (.Name x p) (e::es) [] pos) (AO gc ms):=.mk fun f hf=>
 PE.imp (ES hc hg hm hv (ha f hf) hn hdb he hpl) fun σ H Q h=>Kd hf hgc h
theorem SW (hc:Bq X (.builtin id) rc) (hgc:CaF X gcF rc) (hg:Gl X x) (hm:X.mg x=none) (hv:bootBuiltins x=some (.builtin id)) (ha:DA X (e::es) ms) (hn:x≠"__name__":=by decide) (hdb:(x == ("__debug__":Str))=false:=by decide)
  (he:starEach (e::es) X.env=(false,eval e X.env)::starEach es X.env:=by rfl) (hpl:(backTo pos (starEach es X.env)).any (·.1)=false:=by rfl):DF X (.Call (.Name x p) (e::es) [] pos) (EK gcF ms):=.mk fun f hf=>
 PE.imp (ES hc hg hm hv (ha f hf) hn hdb he hpl) fun σ H Q h=>Pe hf hgc h
theorem GL (hc:Bq X (.type T) rc) (hgc:CaD X gc rc) (hg:Gl X x) (hm:X.mg x=none) (hv:bootBuiltins x=some (.type T)) (ha:DA X (e::es) ms) (hn:x≠"__name__":=by decide) (hdb:(x == ("__debug__":Str))=false:=by decide)
  (he:starEach (e::es) X.env=(false,eval e X.env)::starEach es X.env:=by rfl) (hpl:(backTo pos (starEach es X.env)).any (·.1)=false:=by rfl):DE X (.Call (.Name x p) (e::es) [] pos) (AO gc ms):=.mk fun f hf=>
 PE.imp (Le hc hg hm hv (ha f hf) hn hdb he hpl) fun σ H Q h=>Kd hf hgc h
end
section
variable {f:Fr} {α α':Nat->Addr} {s s':DS} {σ σ':St} {H H' Hh H1:Hp}
def inn (f:Fr) (α:Nat->Addr) (Γ:Gm) (E:Addr->Prop) (Hh:Hp) (hd:∀ a,f.F a\/Bo Γ α a\/E a->Hh a≠none):Fr where
 K:=f.K
 H₀:=Hh
 F:=fun a=>f.F a\/Bo Γ α a\/E a
 L:=Bo Γ α
 sub:=fun a h=>.inr (.inl h)
 dom:=hd
structure Over (E:Addr->Prop) (H Hh:Hp):Prop where
 out:∀ a,¬E a->Hh a=H a
 new:∀ a,E a->H a=none
 there:∀ a,E a->Hh a≠none
theorem Over.sup {E:Addr->Prop} (o:Over E H Hh) {a:Addr} {u:HO} (h:H a=some u):Hh a=some u:=by
 rw[o.out a fun z=>by rw[o.new a z] at h;cases h]
 exact h
theorem BQ (r:RS f α s σ H) {E:Addr->Prop} (o:Over E H Hh):∀ a,f.F a\/Bo s.Γ α a\/E a->Hh a≠none:=fun a h=>by
 have up:H a≠none->Hh a≠none:=fun h=>by
  cases e:H a with
  | none=>exact absurd e h
  | some u=>rw[o.sup e];exact fun z=>nomatch z
 rcases h with h | h | h
 ·exact up (r.forb a h)
 ·exact up (r.live h)
 ·exact o.there a h
theorem Ez (r:RS f α s σ H) {E:Addr->Prop} (o:Over E H Hh):Kw (wd f α s.Γ H) (wd (inn f α s.Γ E Hh (BQ r o)) α s.Γ Hh):=⟨rfl,fun a u n e=>⟨o.sup e,fun z=>by
 rcases z with (z | z | z) | z
 ·exact n (.inl z)
 ·exact n (.inr z)
 ·have e':H a=some u:=e
  rw[o.new a z] at e'
  cases e'
 ·exact n (.inr z)⟩⟩
theorem TY (r:RS f α s σ H) {E:Addr->Prop} (o:Over E H Hh) {d:SV} {v:V} (h:RepV f α s.Γ H d v):RepV (inn f α s.Γ E Hh (BQ r o)) α s.Γ Hh d v:=by
 cases d with
 | v d=>exact Rep.kw (Ez r o) (show Rep _ d v from h)
 | b n=>exact h
 | p n d=>
  obtain ⟨h0,a,w,h1,h2,h3,h4⟩:=h
  obtain ⟨k1,k2⟩:=(Ez r o).keep a _ h2 h3
  exact ⟨h0,a,w,h1,k2,k1,h4.kw (Ez r o)⟩
theorem RS.enter (r:RS f α s σ H) {E:Addr->Prop} (o:Over E H Hh) {τ:List (Option SV)} {τ':St} (hl:τ.length=τ'.length) (hs:∀ (i:Nat) (d:SV),τ[i]?=some (some d)->∃ v,τ'[i]?=some (some v)/\RepV f α s.Γ H d v) :
  RS (inn f α s.Γ E Hh (BQ r o)) α ⟨τ,s.Γ,s.Γ.length⟩ τ' Hh where
 len:=hl
 slot:=fun i d h=>let ⟨v,a,b⟩:=hs i d h;⟨v,a,TY r o b⟩
 box:=fun n xs h=>let ⟨vs,a,b⟩:=r.box n xs h;⟨vs,o.sup a,b.kw (Ez r o)⟩
 own:=fun n xs h=>by
  rw[if_pos (show n<s.Γ.length from (List.getElem?_eq_some_iff.mp h).1)]
  exact ⟨n,xs,h,rfl⟩
 inj:=r.inj
 fr:=fun b u h _=>h
 forb:=BQ r o
theorem RS.leave (r:RS f α s σ H) {E:Addr->Prop} (o:Over E H Hh) (q:RS (inn f α s.Γ E Hh (BQ r o)) α' s' σ' H') (hlo:s'.lo=s.Γ.length) (ex:Ext (inn f α s.Γ E Hh (BQ r o)) α α' s.Γ s'.Γ Hh H')
  (h1:∀ a,¬E a->H1 a=H' a) :
  RS f α' {s with Γ:=s'.Γ.take s.Γ.length} σ H1/\Ext f α α' s.Γ (s'.Γ.take s.Γ.length) H H1/\Kw (wd (inn f α s.Γ E Hh (BQ r o)) α' s'.Γ H') (wd f α' (s'.Γ.take s.Γ.length) H1):=by
 have tk:∀ {n:Nat} {z:Option (List D)},(s'.Γ.take s.Γ.length)[n]?=some z->n<s.Γ.length/\s'.Γ[n]?=some z:=fun {n z} h=>by
  rw[List.getElem?_take] at h
  split at h
  ·rename_i c;exact ⟨c,h⟩
  ·cases h
 have lv:∀ {a},Bo (s'.Γ.take s.Γ.length) α' a->Bo s.Γ α a/\Bo s'.Γ α' a:=fun {a} hh_=>by
  obtain ⟨n,xs,e1,e2⟩:=hh_
  obtain ⟨c,e⟩:=tk e1
  obtain ⟨ys,e3⟩:=ex.lv n xs c e
  exact ⟨⟨n,ys,e3,by rw[<-ex.al n c];exact e2⟩,n,xs,e,e2⟩
 have kept:∀ b u,H b=some u->¬Bo s.Γ α b->H1 b=some u:=fun b u e n=>by
  have ne:¬E b:=fun z=>by rw[o.new b z] at e;cases e
  rw[h1 b ne]
  exact q.fr b u (o.sup e) n
 have kw1:Kw (wd f α s.Γ H) (wd f α' (s'.Γ.take s.Γ.length) H1):=⟨rfl,fun a u n e=>⟨kept a u e fun z=>n (.inr z),fun z=>by
  rcases z with z | z
  ·exact n (.inl z)
  ·exact n (.inr (lv z).1)⟩⟩
 have kw2:Kw (wd (inn f α s.Γ E Hh (BQ r o)) α' s'.Γ H') (wd f α' (s'.Γ.take s.Γ.length) H1):=⟨rfl,fun a u n e=>⟨by
  show H1 a=some u
  rw[h1 a fun z=>n (.inl (.inr (.inr z)))]
  exact e,fun z=>by
  rcases z with z | z
  ·exact n (.inl (.inl z))
  ·exact n (.inr (lv z).2)⟩⟩
 have ex1:Ext f α α' s.Γ (s'.Γ.take s.Γ.length) H H1:=⟨kw1,by rw[List.length_take];have:=ex.m;lia,ex.al,fun n xs c e=>ex.lv n xs c (tk e).2⟩
 refine ⟨⟨r.len,fun i d h=>let ⟨v,a,b⟩:=r.slot i d h;⟨v,a,b.ext ex1⟩,fun n xs h=>?_,fun n xs h=>?_,fun n m xs ys hn hm e=>?_,fun b u h n=>?_,fun a h=>?_⟩,ex1,kw2⟩
 ·obtain ⟨c,e⟩:=tk h
  obtain ⟨vs,a,b⟩:=q.box n xs e
  refine ⟨vs,?_,b.kw kw2⟩
  have ne:¬E (α' n):=fun z=>by
   obtain ⟨ys,e3⟩:=ex.lv n xs c e
   obtain ⟨us,g,_⟩:=r.box n ys e3
   have:=o.new _ z
   rw[ex.al n c,g] at this
   cases this
  rw[h1 _ ne]
  exact a
 ·obtain ⟨c,e⟩:=tk h
  obtain ⟨ys,e3⟩:=ex.lv n xs c e
  rw[ex.al n c]
  exact r.own n ys e3
 ·exact q.inj n m xs ys (tk hn).2 (tk hm).2 e
 ·refine kept b u (r.fr b u h n) fun hh_=>?_
  obtain ⟨m,ys,e1,e2⟩:=hh_
  have ow:=r.own m ys e1
  rw[e2] at ow
  split at ow
  ·exact n ow
  ·rw[h] at ow;cases ow
 ·have hb:=r.forb a h
  have ne:¬E a:=fun z=>hb (o.new a z)
  rw[h1 a ne]
  exact q.forb a (.inl h)
end
section
variable {f:Fr} {α α':Nat->Addr} {s s':DS} {σ σ':St} {H H':Hp} {X:Cx} {pos:Pos}
def del (H:Hp) (a:Addr):Hp:=fun b=>if b=a then none else H b
theorem EI {H:Hp} {a:Addr}:del H a a=none:=by unfold del;rw[if_pos rfl]
theorem C7 {H:Hp} {a b:Addr} (h:b≠a):del H a b=H b:=by unfold del;rw[if_neg h]
theorem JS {H:Hp} {a:Addr} {o:HO} (h:H a=some o):upd (del H a) a o=H:=by
 funext b
 by_cases e:b=a
 ·subst e;rw[A6,h]
 ·rw[AY e,C7 e]
theorem RS.cut (r:RS f α s σ H) {n:Nat} {xs:List D} (hn:s.Γ[n]?=some (some xs)) (hlo:s.lo<=n) {τ:List (Option SV)} (hl:τ.length=s.σ.length) (hτ:∀ (i:Nat) (d:SV),τ[i]?=some (some d)->s.σ[i]?=some (some d)) :
  RS f α {s with σ:=τ,Γ:=s.Γ.set n none} σ (del H (α n))/\Ext f α α s.Γ (s.Γ.set n none) H (del H (α n)):=by
 have lv:∀ {a},Bo (s.Γ.set n none) α a->Bo s.Γ α a:=fun {a} hh_=>by
  obtain ⟨m,zs,e1,e2⟩:=hh_
  rcases EZ hn e1 with ⟨_,z⟩ | ⟨_,hm⟩
  ·cases z
  ·exact ⟨m,zs,hm,e2⟩
 have me:Bo s.Γ α (α n):=⟨n,xs,hn,rfl⟩
 have e:Ext f α α s.Γ (s.Γ.set n none) H (del H (α n)):=⟨⟨rfl,fun a u h e=>⟨by show del H (α n) a=some u;rw[C7 fun (z:a=α n)=>h (.inr (by rw[z];exact me))];exact e,fun z=>by
  rcases z with z | z
  ·exact h (.inl z)
  ·exact h (.inr (lv z))⟩⟩,by rw[List.length_set];exact Nat.le_refl _,fun _ _=>rfl,fun m zs _ e1=>by
  rcases EZ hn e1 with ⟨_,z⟩ | ⟨_,hm⟩
  ·cases z
  ·exact ⟨zs,hm⟩⟩
 have old:∀ {m zs},(s.Γ.set n none)[m]?=some (some zs)->m≠n/\s.Γ[m]?=some (some zs):=fun {m zs} hm=>by
  rcases EZ hn hm with ⟨_,z⟩ | h
  ·cases z
  ·exact h
 have ow0:f.H₀ (α n)=none:=by
  have ow:=r.own n xs hn
  rw[if_neg (Nat.not_lt.mpr hlo)] at ow
  exact ow
 refine ⟨⟨hl.trans r.len,fun i d h=>let ⟨v,a,b⟩:=r.slot i d (hτ i d h);⟨v,a,b.ext e⟩,fun m zs hm=>?_,fun m zs hm=>r.own m zs (old hm).2,fun m k zs us hm hk q=>r.inj m k _ _ (old hm).2 (old hk).2 q,fun b o h1 h2=>?_,fun a h1=>?_⟩,e⟩
 ·obtain ⟨us,a,b⟩:=r.box m zs (old hm).2
  exact ⟨us,by rw[C7 fun z=>(old hm).1 (r.inj m n _ _ (old hm).2 hn z)];exact a,b.kw e.kw⟩
 ·rw[C7 fun z=>by rw[z,ow0] at h1;cases h1]
  exact r.fr b o h1 h2
 ·rw[C7 fun z=>f.dom a h1 (by rw[z];exact ow0)]
  exact r.forb a h1
theorem Ie {i:Nat} {x:Str} (h:PE X (.Name x pos) (GZ i)):DF X (.Name x pos) (Dz i):=.mk fun f hf=>PE.imp h fun σ H Q hh_=>by
 obtain ⟨α,s,r,rs,lo,e,q⟩:=hh_
 unfold Dz at e
 split at e
 ·rename_i n hd
  split at e
  ·rename_i xs hn
   split at e
   ·rename_i hlo
    cases e
    obtain ⟨v,h1,h2⟩:=rs.slot i _ hd
    obtain ⟨vs,h3,h4⟩:=rs.box n xs hn
    obtain ⟨c1,c2⟩:=rs.cut hn hlo (τ:=s.σ.set i none) (List.length_set ..) fun j d hj=>by
     rw[List.getElem?_set] at hj
     by_cases z:i=j
     ·rw[if_pos z] at hj
      split at hj<;>cases hj
     ·rw[if_neg z] at hj;exact hj
    refine ⟨v,h1,?_⟩
    have hq:=q α (α n) vs (del H (α n)) c1 rfl c2 EI (h4.kw c2.kw)
    rw[JS h3] at hq
    rw[h2.2]
    exact hq
   ·cases e
  ·cases e
 ·cases e
end
inductive Out where
 | nx (s:DS) | rt (d:D) (s:DS) | rf (xs:List D) (s:DS) | rp (xs:List D) (d:D) (s:DS) | bk (s:DS) | ct (s:DS)
abbrev MS:=DS->Option Out
def Post (f:Fr) (α:Nat->Addr) (s:DS) (H:Hp) (E:Ends):Out->Prop
 | .nx s'=>∀ α' σ' H',RS f α' s' σ' H'->s'.lo=s.lo->Ext f α α' s.Γ s'.Γ H H'->E.nx σ' H'
 | .rt d s'=>∀ α' σ' v H',RS f α' s' σ' H'->s'.lo=s.lo->Ext f α α' s.Γ s'.Γ H H'->Rep (wd f α' s'.Γ H') d v->E.rt v H'
 | .rf xs s'=>∀ α' σ' a vs H',RS f α' s' σ' H'->s'.lo=s.lo->Ext f α α' s.Γ s'.Γ H H'->H' a=none->Reps (wd f α' s'.Γ H') xs vs->E.rt (.ref a) (upd H' a (.lst vs))
 | .rp xs d s'=>∀ α' σ' a t vs w H',RS f α' s' σ' H'->s'.lo=s.lo->Ext f α α' s.Γ s'.Γ H H'->H' a=none->Reps (wd f α' s'.Γ H') xs vs->Rep (wd f α' s'.Γ H') d w->H' t=none->t≠a->E.rt (.ref t) (upd (upd H' a (.lst vs)) t (.tup [.ref a,w]))
 | .bk s'=>∀ α' σ' H',RS f α' s' σ' H'->s'.lo=s.lo->Ext f α α' s.Γ s'.Γ H H'->E.bk σ' H'
 | .ct s'=>∀ α' σ' H',RS f α' s' σ' H'->s'.lo=s.lo->Ext f α α' s.Γ s'.Γ H H'->E.ct σ' H'
def tDS (f:Fr) (m:MS):TS:=fun E σ H=>∃ α s o,RS f α s σ H/\s.lo<=s.Γ.length/\m s=some o/\Post f α s H E o
structure DSt (X:Cx) (st:Stmt) (m:MS):Prop where
 h:∀ f:Fr,f.K=X.K->PS X st (tDS f m)
instance {X:Cx} {st:Stmt} {m:MS}:CoeFun (DSt X st m) fun _=>∀ f:Fr,f.K=X.K->PS X st (tDS f m):=⟨DSt.h⟩
structure DSs (X:Cx) (sts:List Stmt) (m:MS):Prop where
 h:∀ f:Fr,f.K=X.K->PSs X sts (tDS f m)
instance {X:Cx} {sts:List Stmt} {m:MS}:CoeFun (DSs X sts m) fun _=>∀ f:Fr,f.K=X.K->PSs X sts (tDS f m):=⟨DSs.h⟩
section
variable {X:Cx} {st:Stmt} {sts:List Stmt} {f:Fr} {α α':Nat->Addr} {s s':DS} {σ:St} {H H':Hp} {E:Ends} {pos:Pos} {e:Expr}
theorem PS.imp {t t':TS} (h:PS X st t) (k:∀ E σ H,t' E σ H->t E σ H):PS X st t':=fun pins s σ H D I q=>h pins s σ H D I (k _ _ _ q)
theorem PSs.imp {t t':TS} (h:PSs X sts t) (k:∀ E σ H,t' E σ H->t E σ H):PSs X sts t':=fun pins s σ H D I q=>h pins s σ H D I (k _ _ _ q)
theorem Post.ext {o:Out} (h:Post f α s H E o) (hl:s'.lo=s.lo) (e:Ext f α α' s.Γ s'.Γ H H'):Post f α' s' H' E o:=by
 cases o with
 | nx t=>exact fun α2 σ2 H2 r l x=>h α2 σ2 H2 r (l.trans hl) (e.trans x)
 | rt d t=>exact fun α2 σ2 v H2 r l x w=>h α2 σ2 v H2 r (l.trans hl) (e.trans x) w
 | rf xs t=>exact fun α2 σ2 a vs H2 r l x w y=>h α2 σ2 a vs H2 r (l.trans hl) (e.trans x) w y
 | rp xs d t=>exact fun α2 σ2 a t vs w H2 r l x=>h α2 σ2 a t vs w H2 r (l.trans hl) (e.trans x)
 | bk t=>exact fun α2 σ2 H2 r l x=>h α2 σ2 H2 r (l.trans hl) (e.trans x)
 | ct t=>exact fun α2 σ2 H2 r l x=>h α2 σ2 H2 r (l.trans hl) (e.trans x)
theorem lo_le {f:Fr} (lo:s.lo<=s.Γ.length) (hl:s'.lo=s.lo) (e:Ext f α α' s.Γ s'.Γ H H'):s'.lo<=s'.Γ.length:=by rw[hl];exact Nat.le_trans lo e.m
@[simp] def AU:MS:=fun s=>some (.nx s)
@[simp] def AG (m n:MS):MS:=fun s=>(m s).bind fun o=>match o with
 | .nx s'=>n s'
 | .rt d s'=>some (.rt d s')
 | .rf d s'=>some (.rf d s')
 | .rp xs d s'=>some (.rp xs d s')
 | .bk s'=>some (.bk s')
 | .ct s'=>some (.ct s')
variable {m n:MS}
theorem Ax:DSs X [] AU:=.mk fun f hf=>PSs.imp HK fun E σ H hh_=>by
 obtain ⟨α,s,o,rs,lo,e,q⟩:=hh_
 cases e
 exact q α σ H rs rfl .refl
theorem AN (h1:DSt X st m) (h2:DSs X sts n):DSs X (st::sts) (AG m n):=.mk fun f hf=>PSs.imp (Ci (h1 f hf) (h2 f hf)) fun E σ H hh_=>by
 obtain ⟨α,s,o,rs,lo,e,q⟩:=hh_
 obtain ⟨o1,e1,e⟩:=bind_some e
 refine ⟨α,s,o1,rs,lo,e1,?_⟩
 cases o1 with
 | nx s1=>exact fun α' σ' H' rs' l' x=>⟨α',s1,o,rs',lo_le lo l' x,e,q.ext l' x⟩
 | rt d s1=>cases e;exact q
 | rf d s1=>cases e;exact q
 | rp xs d s1=>cases e;exact q
 | bk s1=>cases e;exact q
 | ct s1=>cases e;exact q
theorem AW (h1:DSt X st m):DSs X [st] m:=.mk fun f hf=>E7 (h1 f hf)
@[simp] def Dn (m:ME):MS:=fun s=>(m s).map fun r=>.nx r.2
theorem F0 {m:ME} (he:DE X e m) (hs:swapsWith e none pos.line X.env=pure false:=by rfl):DSt X (.Expr e pos) (Dn m):=.mk fun f hf=>PS.imp (R6 (he f hf) hs) fun E σ H hh_=>by
 obtain ⟨α,s,o,rs,lo,e,q⟩:=hh_
 obtain ⟨r,h1,rfl⟩:=Ah e
 exact ⟨α,s,r,rs,lo,h1,fun α' v H' rs' l' x _=>q α' σ H' rs' l' x⟩
@[simp] def Aa (m:ME):MS:=fun s=>(m s).bind fun r=>match r.1 with
 | .v d=>some (.rt d r.2)
 | _=>none
theorem Aq {m:ME} (he:DE X e m):DSt X (.Return (some e) pos) (Aa m):=.mk fun f hf=>PS.imp (EM (he f hf)) fun E σ H hh_=>by
 obtain ⟨α,s,o,rs,lo,e,q⟩:=hh_
 obtain ⟨⟨x,r⟩,h1,e⟩:=bind_some e
 cases x with
 | b n=>cases e
 | p n d=>cases e
 | v d=>
  cases e
  exact ⟨α,s,_,rs,lo,h1,fun α' v H' rs' l' x hv=>q α' σ v H' rs' l' x hv⟩
@[simp] def Bn (m:MF):MS:=fun s=>(m s).map fun r=>.rf r.1 r.2
theorem EB {m:MF} (he:DF X e m):DSt X (.Return (some e) pos) (Bn m):=.mk fun f hf=>PS.imp (EM (he f hf)) fun E σ H hh_=>by
 obtain ⟨α,s,o,rs,lo,e,q⟩:=hh_
 obtain ⟨r,h1,rfl⟩:=Ah e
 exact ⟨α,s,r,rs,lo,h1,fun α' a vs H' rs' l' x ha hx=>q α' σ a vs H' rs' l' x ha hx⟩
@[simp] def mIf (c:MT) (m n:MS):MS:=fun s=>(c s).bind fun b=>if b.1=true then m b.2 else n b.2
theorem Ao {c:Expr} {mc:MT} {a b:List Stmt} (hc:DT X c mc) (ha:DSs X a m) (hb:DSs X b n):DSt X (.If c a b pos) (mIf mc m n):=.mk fun f hf=>PS.imp (GR (hc f hf) (ha f hf) (hb f hf)) fun E σ H hh_=>by
 obtain ⟨α,s,o,rs,lo,e,q⟩:=hh_
 obtain ⟨k,h1,e⟩:=bind_some e
 refine ⟨α,s,k,rs,lo,h1,fun α' H' rs' l' x=>?_⟩
 split at e
 ·rename_i c
  rw[if_pos c]
  exact ⟨α',k.2,o,rs',lo_le lo l' x,e,q.ext l' x⟩
 ·rename_i c
  rw[if_neg c]
  exact ⟨α',k.2,o,rs',lo_le lo l' x,e,q.ext l' x⟩
@[simp] def AL (i:Nat) (m:ME):MS:=fun s=>(m s).map fun r=>.nx {r.2 with σ:=r.2.σ.set i (some r.1)}
theorem Re {i:Nat} {tg:Expr} {m:ME} (h:∀ te,PE X e te->PS X (.Assign [tg] e pos) (GI te (Et i))) (he:DE X e m):DSt X (.Assign [tg] e pos) (AL i m):=.mk fun f hf=>PS.imp (h _ (he f hf)) fun E σ H hh_=>by
 obtain ⟨α,s,o,rs,lo,e,q⟩:=hh_
 obtain ⟨r,h1,rfl⟩:=Ah e
 exact ⟨α,s,r,rs,lo,h1,fun α' v H' rs' l' x hv=>q α' _ H' (rs'.set hv) l' x⟩
theorem Al {i:Nat} {x:Str} {pos':Pos} {m:ME} (hN:X.N.Nodup) (hi:X.N[i]?=some x) (hx:Loc X.env.scope x) (he:DE X e m) (hs:swapsWith e (some (.Name x pos')) pos.line X.env=pure false:=by rfl) (hf:X.fn x=true\/X.env.scope.names.lookup x=some .local:=by first | exact .inl rfl | exact .inr rfl | assumption):DSt X (.Assign [.Name x pos'] e pos) (AL i m):=Re (fun te h=>Fd hN hi hx h hs hf) he
@[simp] def BJ (i:Nat) (m:MF):MS:=fun s=>(m s).map fun r=>.nx {r.2 with σ:=r.2.σ.set i (some (.b r.2.Γ.length)),Γ:=r.2.Γ++[some r.1]}
theorem Tf {i:Nat} {tg:Expr} {m:MF} (h:∀ te,PE X e te->PS X (.Assign [tg] e pos) (GI te (Et i))) (he:DF X e m):DSt X (.Assign [tg] e pos) (BJ i m):=.mk fun f hf=>PS.imp (h _ (he f hf)) fun E σ H hh_=>by
 obtain ⟨α,s,o,rs,lo,e,q⟩:=hh_
 obtain ⟨r,h1,rfl⟩:=Ah e
 refine ⟨α,s,r,rs,lo,h1,fun α' a vs H' rs' l' x ha hx=>?_⟩
 have x2:=Ext.add (xs:=r.1) (o:=.lst vs) rs' ha
 refine q (B6 α' r.2.Γ.length a) _ _ (RS.set (rs'.add (lo_le lo l' x) ha hx) (d:=.b r.2.Γ.length) ⟨by show r.2.Γ.length<(r.2.Γ++[some r.1]).length;rw[List.length_append];simp,by unfold B6;rw[if_pos rfl]⟩) l' (x.trans x2)
theorem DV {i:Nat} {x:Str} {pos':Pos} {m:MF} (hN:X.N.Nodup) (hi:X.N[i]?=some x) (hx:Loc X.env.scope x) (he:DF X e m) (hs:swapsWith e (some (.Name x pos')) pos.line X.env=pure false:=by rfl) (hf:X.fn x=true\/X.env.scope.names.lookup x=some .local:=by first | exact .inl rfl | exact .inr rfl | assumption):DSt X (.Assign [.Name x pos'] e pos) (BJ i m):=Tf (fun te h=>Fd hN hi hx h hs hf) he
@[simp] def JE (σ:List (Option SV)):List Nat->List D->List (Option SV)
 | i::is,d::ds=>JE (σ.set i (some (.v d))) is ds
 | _,_=>σ
abbrev MG:=D->DS->Option DS
def IZ:List Nat->TGs
 | []=>Lg
 | i::is=>Ks (Et i) (IZ is)
def tDG (f:Fr) (m:MG):TG:=fun v σ H Q=>∃ α s d s',RS f α s σ H/\s.lo<=s.Γ.length/\Rep (wd f α s.Γ H) d v/\m d s=some s'/\∀ σ',RS f α s' σ' H->s'.lo=s.lo->s'.Γ=s.Γ->Q σ' H
structure DG (X:Cx) (tg:Expr) (m:MG):Prop where
 h:∀ f:Fr,f.K=X.K->PG X tg (tDG f m)
instance {X:Cx} {tg:Expr} {m:MG}:CoeFun (DG X tg m) fun _=>∀ f:Fr,f.K=X.K->PG X tg (tDG f m):=⟨DG.h⟩
theorem PG.imp {tg:Expr} {t t':TG} (h:PG X tg t) (k:∀ v σ H Q,t' v σ H Q->t v σ H Q):PG X tg t':=fun pins s σ H v u Q I r q=>h pins s σ H v u Q I r (k _ _ _ _ q)
@[simp] def AZ (i:Nat):MG:=fun d s=>some {s with σ:=s.σ.set i (some (.v d))}
theorem Bj {i:Nat} {tg:Expr} (h:PG X tg (Et i)):DG X tg (AZ i):=.mk fun f hf=>PG.imp h fun v σ H Q hh_=>by
 obtain ⟨α,s,d,s',rs,lo,hd,e,q⟩:=hh_
 cases e
 exact q _ (rs.set (d:=.v d) hd) rfl rfl
@[simp] def CU (is:List Nat):MG:=fun d s=>match d with
 | .tup xs=>if xs.length=is.length then some {s with σ:=JE s.σ is xs} else none
 | _=>none
theorem KY {H:Hp} {Q:St->Hp->Prop}:∀ {is:List Nat} {xs:List D} {vs:List V} {s:DS} {σ:St},RS f α s σ H->Reps (wd f α s.Γ H) xs vs->xs.length=is.length->(∀ σ',RS f α {s with σ:=JE s.σ is xs} σ' H->Q σ' H)->IZ is vs σ H Q
 | [],xs,vs,s,σ,rs,hx,hl,q=>by
  have:xs=[]:=List.eq_nil_of_length_eq_zero hl
  subst this
  exact ⟨hx.nil_inv,q σ rs⟩
 | i::is,[],vs,s,σ,rs,hx,hl,q=>by cases hl
 | i::is,x::xs,vs,s,σ,rs,hx,hl,q=>by
  obtain ⟨v,r,rfl,h1,h2⟩:=hx.cons_inv
  exact ⟨v,r,rfl,KY (rs.set (i:=i) (d:=.v x) (v:=v) h1) h2 (Nat.succ.inj hl) q⟩
theorem Gp {is:List Nat} {tg:Expr} {n:Nat} (hn:is.length=n) (h:PG X tg (GK X.K n (IZ is))):DG X tg (CU is):=.mk fun f hf=>PG.imp h fun v σ H Q hh_=>by
 obtain ⟨α,s,d,s',rs,lo,hd,e,q⟩:=hh_
 unfold CU at e
 split at e
 ·rename_i xs
  split at e
  ·rename_i hl
   cases e
   unfold Rep at hd
   obtain ⟨a,vs,rfl,_,h1,h2⟩:=hd
   exact ⟨a,vs,rfl,SqT.of h1,by rw[h2.len,hl,hn],KY rs h2 hl fun σ' r=>q σ' r rfl rfl⟩
  ·cases e
 ·cases e
@[simp] def CY (m:ME) (g:MG):MS:=fun s=>(m s).bind fun r=>match r.1 with
 | .v d=>(g d r.2).map .nx
 | _=>none
theorem Jb {tg:Expr} {m:ME} {g:MG} (he:DE X e m) (hg:DG X tg g) (hs:swapsWithSole [tg] e pos.line X.env=pure false:=by rfl) (hw:swappedStores [tg] e X.env=pure none:=by rfl)
  (h1:(assignEach [tg] X.env).map (·.2)=[assign tg X.env]:=by rfl):DSt X (.Assign [tg] e pos) (CY m g):=.mk fun f hf=>PS.imp (N4 (he f hf) (hg f hf) hs hw h1) fun E σ H hh_=>by
 obtain ⟨α,s,o,rs,lo,e,q⟩:=hh_
 obtain ⟨⟨x,r⟩,h1,e⟩:=bind_some e
 cases x with
 | b n=>cases e
 | p n d=>cases e
 | v d=>
  obtain ⟨s',h2,rfl⟩:=Ah e
  refine ⟨α,s,_,rs,lo,h1,fun α' v H' rs' l' x hv=>⟨α',r,d,s',rs',lo_le lo l' x,hv,h2,fun σ' r2 l2 g2=>?_⟩⟩
  exact q α' σ' H' r2 (l2.trans l') (by rw[g2];exact x)
structure DIt (f:Fr) (J:It) (items:List D) (α0:Nat->Addr) (Γ0:Gm) (H0:Hp):Prop where
 go:∀ i α s σ H Hh,i<items.length->RS f α s σ H->Ext f α0 α Γ0 s.Γ H0 H->(∀ a o,H a=some o->Hh a=some o)->J.go i Hh
 yl:∀ i d x α s σ H Hh H',items[i]?=some d->RS f α s σ H->Ext f α0 α Γ0 s.Γ H0 H->(∀ a o,H a=some o->Hh a=some o)->J.yld i Hh x H' ->
  (H'=Hh/\Rep (wd f α s.Γ H) d x)\/∃ T o,Hh T=none/\H'=upd Hh T o/\Rep (wd f α s.Γ (upd H T o)) d x
 stop:∀ α s σ H Hh,RS f α s σ H->Ext f α0 α Γ0 s.Γ H0 H->(∀ a o,H a=some o->Hh a=some o)->J.stop items.length Hh
def tDI (f:Fr) (m:MF):TI:=fun σ H R=>∃ α s r,RS f α s σ H/\s.lo<=s.Γ.length/\m s=some r/\∀ J α' H',RS f α' r.2 σ H'->r.2.lo=s.lo->Ext f α α' s.Γ r.2.Γ H H'->DIt f J r.1 α' r.2.Γ H'->R J H'
structure DI (X:Cx) (tg src:Expr) (m:MF):Prop where
 h:∀ f:Fr,f.K=X.K->PI X tg src (tDI f m)
instance {X:Cx} {tg src:Expr} {m:MF}:CoeFun (DI X tg src m) fun _=>∀ f:Fr,f.K=X.K->PI X tg src (tDI f m):=⟨DI.h⟩
def B8 (g:MG) (b:MS):List D->DS->Option Out
 | [],s=>some (.nx s)
 | d::r,s=>(g d s).bind fun s1=>(b s1).bind fun o=>match o with
  | .nx s2=>B8 g b r s2
  | .ct s2=>B8 g b r s2
  | .bk s2=>some (.nx s2)
  | .rt d s2=>some (.rt d s2)
  | .rf d s2=>some (.rf d s2)
  | .rp xs d s2=>some (.rp xs d s2)
@[simp] def C5 (mi:MF) (g:MG) (b:MS):MS:=fun s=>(mi s).bind fun r=>B8 g b r.1 r.2
theorem FL {tg iter:Expr} {body:List Stmt} {mi:MF} {g:MG} {b:MS} (hp:PassesOwn (model X.prog X.w) X.A X.env X.xe) (hc:X.calm=true) (hi:DI X tg iter mi) (hg:DG X tg g) (hb:DSs X body b)
  (hs:∀ x,foldedSetIterable iter X.env x=pure x:=by intro _;rfl):DSt X (.For tg iter body [] pos) (C5 mi g b):=.mk fun f hf=>PS.imp (ON hp hc (hi f hf) (hg f hf) (hb f hf) hs) fun E σ H hh_=>by
 obtain ⟨α,s,o,rs,lo,e,q⟩:=hh_
 obtain ⟨⟨items,s1⟩,h1,e⟩:=bind_some e
 refine ⟨α,s,_,rs,lo,h1,fun J α1 H1 rs1 l1 x1 it=>?_⟩
 refine Ol items.length (fun i σ H=>∃ αi si,RS f αi si σ H/\si.lo=s1.lo/\Ext f α1 αi s1.Γ si.Γ H1 H/\B8 g b (items.drop i) si=some o) ⟨α1,s1,rs1,rfl,.refl,e⟩ ?_ ?_ ?_ ?_
 ·rintro i σ2 H2 hi ⟨αi,si,ri,li,xi,ei⟩
  exact it.go i αi si σ2 H2 H2 hi ri xi fun _ _ h=>h
 ·rintro σ2 H2 ⟨αi,si,ri,li,xi,ei⟩
  exact it.stop αi si σ2 H2 H2 ri xi fun _ _ h=>h
 ·rintro i x σ2 H2 H3 hi ⟨αi,si,ri,li,xi,ei⟩ y
  have hd:items[i]?=some items[i]:=List.getElem?_eq_getElem hi
  rw[List.drop_eq_getElem_cons hi] at ei
  obtain ⟨s2,g2,ei⟩:=bind_some ei
  obtain ⟨o2,b2,ei⟩:=bind_some ei
  have fin:∀ {H3},RS f αi si σ2 H3->Ext f αi αi si.Γ si.Γ H2 H3->Rep (wd f αi si.Γ H3) items[i] x->tDG f g x σ2 H3 fun σ4 H4=>tDS f b {E with nx:=fun σ H=>∃ αi si,RS f αi si σ H/\si.lo=s1.lo/\Ext f α1 αi s1.Γ si.Γ H1 H/\B8 g b (items.drop (i+1)) si=some o,ct:=fun σ H=>∃ αi si,RS f αi si σ H/\si.lo=s1.lo/\Ext f α1 αi s1.Γ si.Γ H1 H/\B8 g b (items.drop (i+1)) si=some o,bk:=E.nx} σ4 H4:=fun {H3} r3 x3 hr=>by
   refine ⟨αi,si,_,s2,r3,by rw[li];exact Nat.le_trans (lo_le lo l1 x1) xi.m,hr,g2,fun σ4 r4 l4 G4=>⟨αi,s2,o2,r4,by rw[l4,li,G4];exact Nat.le_trans (lo_le lo l1 x1) xi.m,b2,?_⟩⟩
   have x13:Ext f α1 αi s1.Γ s2.Γ H1 H3:=by rw[G4];exact xi.trans x3
   cases o2 with
   | nx s5=>exact fun α5 σ5 H5 r5 l5 x5=>⟨α5,s5,r5,l5.trans (l4.trans li),x13.trans x5,ei⟩
   | ct s5=>exact fun α5 σ5 H5 r5 l5 x5=>⟨α5,s5,r5,l5.trans (l4.trans li),x13.trans x5,ei⟩
   | bk s5=>cases ei;exact fun α5 σ5 H5 r5 l5 x5=>q α5 σ5 H5 r5 (l5.trans (l4.trans (li.trans l1))) (x1.trans (x13.trans x5))
   | rt d s5=>cases ei;exact fun α5 σ5 v H5 r5 l5 x5 w=>q α5 σ5 v H5 r5 (l5.trans (l4.trans (li.trans l1))) (x1.trans (x13.trans x5)) w
   | rf d s5=>cases ei;exact fun α5 σ5 a vs H5 r5 l5 x5 w y=>q α5 σ5 a vs H5 r5 (l5.trans (l4.trans (li.trans l1))) (x1.trans (x13.trans x5)) w y
   | rp xs d s5=>cases ei;exact fun α5 σ5 a t vs w H5 r5 l5 x5=>q α5 σ5 a t vs w H5 r5 (l5.trans (l4.trans (li.trans l1))) (x1.trans (x13.trans x5))
  rcases it.yl i _ x αi si σ2 H2 H2 H3 hd ri xi (fun _ _ h=>h) y with ⟨rfl,hr⟩ | ⟨T,u,hT,rfl,hr⟩
  ·exact fin ri .refl hr
  ·exact fin (ri.new hT) (.new ri hT) hr
 ·rintro σ2 H2 ⟨αi,si,ri,li,xi,ei⟩
  rw[List.drop_length] at ei
  cases ei
  exact q αi σ2 H2 ri (li.trans l1) (x1.trans xi)
end
def xD (K:PySem.W.Frag) (m:ME):TE:=fun σ H Q=>∃ f:Fr,f.K=K/\tD f m σ H Q
def xT (K:PySem.W.Frag) (m:MT):TT:=fun σ H Q=>∃ f:Fr,f.K=K/\tDT f m σ H Q
def xG (K:PySem.W.Frag) (m:MG):TG:=fun v σ H Q=>∃ f:Fr,f.K=K/\tDG f m v σ H Q
theorem DE.x {X:Cx} {e:Expr} {m:ME} (h:DE X e m):PE X e (xD X.K m):=fun pins s σ H Q I ⟨f,hf,q⟩=>h f hf pins s σ H Q I q
theorem DG.x {X:Cx} {e:Expr} {m:MG} (h:DG X e m):PG X e (xG X.K m):=fun pins s σ H v u Q I r ⟨f,hf,q⟩=>h f hf pins s σ H v u Q I r q
structure DTs (X:Cx) (tests:List Expr) (m:MT):Prop where
 h:∀ f:Fr,f.K=X.K->PTs X tests (tDT f m)
instance {X:Cx} {tests:List Expr} {m:MT}:CoeFun (DTs X tests m) fun _=>∀ f:Fr,f.K=X.K->PTs X tests (tDT f m):=⟨DTs.h⟩
theorem DTs.x {X:Cx} {e:List Expr} {m:MT} (h:DTs X e m):PTs X e (xT X.K m):=fun pins s σ H Q I ⟨f,hf,q⟩=>h f hf pins s σ H Q I q
@[simp] def mTT:MT:=fun s=>some (true,s)
theorem Cj {X:Cx}:DTs X [] mTT:=.mk fun f hf pins s σ H Q I hh_=>by
 obtain ⟨α,s',r,rs,lo,e,q⟩:=hh_
 cases e
 exact QL pins s σ H Q I (q α H rs rfl .refl)
theorem Jj {X:Cx} {c:Expr} {m:MT} (h:DT X c m):DTs X [c] m:=.mk fun f hf=>Sy (h f hf)
def A3 (g:MG) (t:MT) (e:ME):List D->List (Option SV)->Gm->Option (List D×Gm)
 | [],_,Γ=>some ([],Γ)
 | d::r,τ,Γ=>(g d ⟨τ,Γ,Γ.length⟩).bind fun s1=>(t s1).bind fun b=>
  if b.1=true then (e b.2).bind fun x=>match x.1 with
   | .v y=>if x.2.Γ.length=Γ.length then (A3 g t e r x.2.σ x.2.Γ).map fun q=>(y::q.1,q.2) else none
   | _=>none
  else if b.2.Γ.length=Γ.length then A3 g t e r b.2.σ b.2.Γ else none
@[simp] def DY (nt:Nat) (ix:List Nat) (σ:List (Option SV)):List (Option SV):=List.replicate nt none++ix.map fun k=>(σ[k]?).join
@[simp] def BN (mi:MF) (nt:Nat) (ix:List Nat) (g:MG) (t:MT) (e:ME):MF:=fun s=>(mi s).bind fun r=>
 if r.1.length<=big then (A3 g t e r.1 (DY nt ix r.2.σ) r.2.Γ).map fun q=>(q.1,{r.2 with Γ:=q.2}) else none
section
variable {f:Fr} {α α':Nat->Addr} {s s':DS} {σ σ':St} {H H' Hh H1:Hp} {X:Cx} {pos:Pos}
theorem take_all {Γ:Gm} {n:Nat} (h:Γ.length=n):Γ.take n=Γ:=by rw[<-h];exact List.take_length
theorem Gi (rs:RS f α s σ H) (nt:Nat) (ix:List Nat):(DY nt ix s.σ).length=(cSt nt ix σ).length/\∀ (i:Nat) (d:SV),(DY nt ix s.σ)[i]?=some (some d)->∃ v,(cSt nt ix σ)[i]?=some (some v)/\RepV f α s.Γ H d v:=by
 unfold DY cSt
 refine ⟨by simp,fun i d h=>?_⟩
 by_cases c:i<nt
 ·rw[List.getElem?_append_left (by simpa using c)] at h
  simp[c] at h
 ·rw[List.getElem?_append_right (by simpa using c)] at h ⊢
  simp only[List.length_replicate,List.getElem?_map] at h ⊢
  cases e:ix[i - nt]? with
  | none=>rw[e] at h;cases h
  | some k=>
   rw[e] at h
   simp only[Option.map_some] at h ⊢
   have hk:s.σ[k]?=some (some d):=by
    cases hz:s.σ[k]? with
    | none=>rw[hz] at h;cases h
    | some o=>rw[hz] at h;exact congrArg some (Option.some.inj h)
   obtain ⟨v,h1,h2⟩:=rs.slot k d hk
   exact ⟨v,by rw[h1];rfl,h2⟩
inductive CI (f:Fr) (α1:Nat->Addr) (s1:DS) (σ:St) (H1:Hp) (g:MG) (t:MT) (e:ME) (items ys:List D) (Γ':Gm) (l:Addr) (i:Nat) (τ':St) (Hi:Hp):Prop
 | mk (αi:Nat->Addr) (Γi:Gm) (τ:List (Option SV)) (H2:Hp) (acc:List D) (vs:List V) (rest:List D):Hi=upd H2 l (.lst vs)->H2 l=none->RS f αi {s1 with Γ:=Γi} σ H2->Ext f α1 αi s1.Γ Γi H1 H2->Γi.length=s1.Γ.length->Reps (wd f αi Γi H2) acc vs->acc.length<=i ->
   τ.length=τ'.length->(∀ (j:Nat) (d:SV),τ[j]?=some (some d)->∃ v,τ'[j]?=some (some v)/\RepV f αi Γi H2 d v)->A3 g t e (items.drop i) τ Γi=some (rest,Γ')->ys=acc++rest->CI f α1 s1 σ H1 g t e items ys Γ' l i τ' Hi
theorem K5 {mi:MF} {nt:Nat} {ix:List Nat} {g:MG} {t:MT} {e:ME} {Q:VK} (h:tDF f (BN mi nt ix g t e) σ H Q):FE (tDI f mi) nt ix (xG f.K g) (xT f.K t) (xD f.K e) σ H Q:=by
 obtain ⟨α,s,r,rs,lo,e0,q⟩:=h
 obtain ⟨⟨items,s1⟩,h1,e0⟩:=bind_some e0
 split at e0
 case isFalse=>cases e0
 rename_i hbig
 obtain ⟨⟨ys,Γ'⟩,h2,rfl⟩:=Ah e0
 refine ⟨α,s,_,rs,lo,h1,fun J α1 H1 rs1 l1 x1 it l hl=>?_⟩
 refine Ki items.length (fun i τ' Hi=>CI f α1 s1 σ H1 g t e items ys Γ' l i τ' Hi) ?_ ?_ ?_ ?_ ?_
 ·exact ⟨α1,s1.Γ,DY nt ix s1.σ,H1,[],[],ys,rfl,hl,rs1,.refl,rfl,.nil,Nat.le_refl _,(Gi rs1 nt ix).1,(Gi rs1 nt ix).2,h2,rfl⟩
 ·rintro i τ' Hi hi ⟨αi,Γi,τ,H2,acc,vs,rest,rfl,hl2,ri,xi,lenΓ,hacc,hai,hτl,hτ,hgo,hys⟩
  exact it.go i αi _ σ H2 _ hi ri xi fun a o h=>by rw[AY (Bu h hl2)];exact h
 ·rintro τ' Hi ⟨αi,Γi,τ,H2,acc,vs,rest,rfl,hl2,ri,xi,lenΓ,hacc,hai,hτl,hτ,hgo,hys⟩
  exact it.stop αi _ σ H2 _ ri xi fun a o h=>by rw[AY (Bu h hl2)];exact h
 ·rintro i x τ' Hi H3 hi ⟨αi,Γi,τ,H2,acc,vs,rest,rfl,hl2,ri,xi,lenΓ,hacc,hai,hτl,hτ,hgo,hys⟩ y
  have hd:items[i]?=some items[i]:=List.getElem?_eq_getElem hi
  rw[List.drop_eq_getElem_cons hi] at hgo
  obtain ⟨s2,g2,hgo⟩:=bind_some hgo
  obtain ⟨b,t2,hgo⟩:=bind_some hgo
  have fin:∀ {H2':Hp},H2' l=none->RS f αi {s1 with Γ:=Γi} σ H2'->Ext f αi αi Γi Γi H2 H2'->Rep (wd f αi Γi H2') items[i] x ->
    xG f.K g x τ' (upd H2' l (.lst vs)) fun σ2 H2=>xT f.K t σ2 H2 fun b H3=>if b=true then xD f.K e σ2 H3 fun v H4=>∃ xs,H4 l=some (.lst xs)/\xs.length<sizeLine/\CI f α1 s1 σ H1 g t e items ys Γ' l (i+1) σ2 (upd H4 l (.lst (xs++[v]))) else CI f α1 s1 σ H1 g t e items ys Γ' l (i+1) σ2 H3:=fun {H2'} hl2' ri' x2' hr=>by
   have ov:Over (fun a=>a=l) H2' (upd H2' l (.lst vs)):=⟨fun a h=>AY h,fun a h=>by rw[h];exact hl2',fun a h=>by rw[h,A6];exact fun z=>nomatch z⟩
   have en:=ri'.enter ov hτl fun j d h=>let ⟨v,a,b⟩:=hτ j d h;⟨v,a,b.ext x2'⟩
   have back:∀ {s5:DS} {α5:Nat->Addr} {σ5:St} {H5:Hp},RS (inn f αi Γi (fun a=>a=l) (upd H2' l (.lst vs)) (BQ ri' ov)) α5 s5 σ5 H5->s5.lo=Γi.length->Ext (inn f αi Γi (fun a=>a=l) (upd H2' l (.lst vs)) (BQ ri' ov)) αi α5 Γi s5.Γ (upd H2' l (.lst vs)) H5->s5.Γ.length=Γi.length ->
     H5 l=some (.lst vs)/\RS f α5 {s1 with Γ:=s5.Γ} σ (del H5 l)/\Ext f α1 α5 s1.Γ s5.Γ H1 (del H5 l)/\Reps (wd f α5 s5.Γ (del H5 l)) acc vs/\(∀ (j:Nat) (d:SV),s5.σ[j]?=some (some d)->∃ v,σ5[j]?=some (some v)/\RepV f α5 s5.Γ (del H5 l) d v) /\
     ∀ d v,Rep (wd (inn f αi Γi (fun a=>a=l) (upd H2' l (.lst vs)) (BQ ri' ov)) α5 s5.Γ H5) d v->Rep (wd f α5 s5.Γ (del H5 l)) d v:=fun {s5 α5 σ5 H5} r5 l5 x5 len5=>by
    obtain ⟨lv1,lv2,lv3⟩:=ri'.leave ov r5 l5 x5 (H1:=del H5 l) fun a h=>C7 h
    have tk:s5.Γ.take Γi.length=s5.Γ:=take_all len5
    simp only at lv1 lv2 lv3
    rw[tk] at lv1 lv2 lv3
    refine ⟨r5.fr l _ A6 fun ⟨n,xs,e1,e2⟩=>?_,lv1,(xi.trans x2').trans lv2,(hacc.kw x2'.kw).kw lv2.kw,fun j d h=>?_,fun d v h=>h.kw lv3⟩
    ·obtain ⟨us,z,_⟩:=ri'.box n xs e1
     rw[e2,hl2'] at z
     cases z
    ·obtain ⟨v,a,b⟩:=r5.slot j d h
     refine ⟨v,a,?_⟩
     cases d with
     | v d=>exact Rep.kw lv3 (show Rep _ d v from b)
     | b n=>exact b
     | p n d=>
      obtain ⟨h0,a',w,h1,h2,h3,h4⟩:=b
      obtain ⟨k1,k2⟩:=lv3.keep a' _ h2 h3
      exact ⟨h0,a',w,h1,k2,k1,h4.kw lv3⟩
   refine ⟨(inn f αi Γi (fun a=>a=l) (upd H2' l (.lst vs)) (BQ ri' ov)),rfl,αi,_,_,s2,en,Nat.le_refl _,Rep.kw (Ez ri' ov) hr,g2,fun σ2 r2 l2 G2=>?_⟩
   refine ⟨(inn f αi Γi (fun a=>a=l) (upd H2' l (.lst vs)) (BQ ri' ov)),rfl,αi,s2,b,r2,by rw[l2,G2];exact Nat.le_refl _,t2,fun α3 H3 r3 l3 x3=>?_⟩
   have x3':Ext (inn f αi Γi (fun a=>a=l) (upd H2' l (.lst vs)) (BQ ri' ov)) αi α3 Γi b.2.Γ (upd H2' l (.lst vs)) H3:=by
    have z:=x3
    rw[G2] at z
    exact z
   split at hgo
   ·rename_i cb
    dsimp only
    rw[if_pos cb]
    obtain ⟨⟨xv,s4⟩,e4,hgo⟩:=bind_some hgo
    refine ⟨(inn f αi Γi (fun a=>a=l) (upd H2' l (.lst vs)) (BQ ri' ov)),rfl,α3,b.2,_,r3,by rw[l3,l2];exact x3'.m,e4,fun α4 v H4 r4 l4 x4 hv=>?_⟩
    cases xv with
    | b n=>cases hgo
    | p n d=>cases hgo
    | v yv=>
     simp only at hgo
     split at hgo
     case isFalse=>cases hgo
     rename_i len4
     obtain ⟨⟨rest2,_⟩,h5,e5⟩:=Ah hgo
     cases e5
     obtain ⟨b1,b2,b3,b4,b5,b6⟩:=back r4 (l4.trans (l3.trans l2)) (x3'.trans x4) len4
     refine ⟨vs,b1,Nat.lt_of_le_of_lt (by rw[hacc.len];exact Nat.le_of_lt (Nat.lt_of_le_of_lt hai hi)) (Ep hbig),α4,s4.Γ,s4.σ,del H4 l,acc++[yv],vs++[v],rest2,?_,EI,b2,b3,len4.trans lenΓ,b4.append (.cons (b6 _ _ hv) .nil),by rw[List.length_append];simpa using hai,r4.len,b5,h5,by rw[hys];simp⟩
     funext a
     by_cases z:a=l
     ·rw[z,A6,A6]
     ·rw[AY z,AY z,C7 z]
   ·rename_i cb
    dsimp only
    rw[if_neg cb]
    split at hgo
    case isFalse=>cases hgo
    rename_i len4
    obtain ⟨b1,b2,b3,b4,b5,b6⟩:=back r3 (l3.trans l2) x3' len4
    exact ⟨α3,b.2.Γ,b.2.σ,del H3 l,acc,vs,rest,(JS b1).symm,EI,b2,b3,len4.trans lenΓ,b4,Nat.le_succ_of_le hai,r3.len,b5,hgo,hys⟩
  rcases it.yl i _ x αi _ σ H2 _ H3 hd ri xi (fun a o h=>by rw[AY (Bu h hl2)];exact h) y with ⟨rfl,hr⟩ | ⟨T,u,hT,rfl,hr⟩
  ·exact fin hl2 ri .refl hr
  ·have lT:l≠T:=fun z=>by rw[<-z,A6] at hT;cases hT
   have hT2:H2 T=none:=by rw[AY (Ne.symm lT)] at hT;exact hT
   have z:=fin (H2':=upd H2 T u) (by rw[AY lT];exact hl2) (ri.new hT2) (.new ri hT2) hr
   have e2:upd (upd H2 l (.lst vs)) T u=upd (upd H2 T u) l (.lst vs):=by
    funext a
    by_cases z1:a=T
    ·rw[z1,A6,AY (Ne.symm lT),A6]
    ·by_cases z2:a=l
     ·rw[z2,AY lT,A6,A6]
     ·rw[AY z1,AY z2,AY z2,AY z1]
   rw[e2]
   exact z
 ·rintro τ' Hi ⟨αi,Γi,τ,H2,acc,vs,rest,rfl,hl2,ri,xi,lenΓ,hacc,hai,hτl,hτ,hgo,hys⟩
  rw[List.drop_length] at hgo
  cases hgo
  rw[List.append_nil] at hys
  subst hys
  exact q αi l vs H2 ri l1 (x1.trans xi) hl2 hacc
theorem C1 {elt tg src:Expr} {tests:List Expr} {sc esc:Scope} {cp:Pos} {N tn fn:List Str} {ix:List Nat} {mi:MF} {g:MG} {t:MT} {e:ME} (hc:X.calm=true) (hsc:X.env.scope=esc) (hN:X.N=N) (ok:CompOk sc esc N fn ix) (hi:DI X tg src mi)
  (hg:∀ s2 H2 cl C fp,DG (CH X (tn++fn) sc s2 H2 cl C fp) tg g)
  (ht:∀ s2 H2 cl C fp,DTs (CH X (tn++fn) sc s2 H2 cl C fp) tests t)
  (he:∀ s2 H2 cl C fp,DE (CH X (tn++fn) sc s2 H2 cl C fp) elt e)
  (hs:∀ x,foldedSetIterable src X.env x=pure x:=by intro _;rfl):DF X (.ListComp elt [⟨tg,src,tests,0⟩] sc cp) (BN mi tn.length ix g t e):=.mk fun f hf=>
 PE.imp (QO (g:=xG X.K g) (tc:=xT X.K t) (te:=xD X.K e) hc hsc hN ok (hi f hf) (fun s2 H2 cl C fp=>(hg s2 H2 cl C fp).x) (fun s2 H2 cl C fp=>(ht s2 H2 cl C fp).x) (fun s2 H2 cl C fp=>(he s2 H2 cl C fp).x) hs) fun σ H Q h=>by
  rw[<-hf]
  exact K5 h
theorem Mz {i:Nat} {y:Str} {py sp:Pos} {elt tg src:Expr} {tests:List Expr} {sc esc:Scope} {cp:Pos} {N tn fn:List Str} {ix:List Nat} {mi:MF} {g:MG} {t:MT} {e:ME} (hnd:X.N.Nodup) (hiy:X.N[i]?=some y) (hy:X.env.scope.names.lookup y=some .local) (hc:X.calm=true) (hsc:X.env.scope=esc) (hN:X.N=N) (ok:CompOk sc esc N fn ix) (hi:DI X tg src mi)
  (hg:∀ s2 H2 cl C fp,DG (CH X (tn++fn) sc s2 H2 cl C fp) tg g)
  (ht:∀ s2 H2 cl C fp,DTs (CH X (tn++fn) sc s2 H2 cl C fp) tests t)
  (he:∀ s2 H2 cl C fp,DE (CH X (tn++fn) sc s2 H2 cl C fp) elt e)
  (hsw:swapsWith (.ListComp elt [⟨tg,src,tests,0⟩] sc cp) (some (.Name y py)) sp.line X.env=pure true:=by rfl)
  (hs:∀ x,foldedSetIterable src X.env x=pure x:=by intro _;rfl):DSt X (.Assign [.Name y py] (.ListComp elt [⟨tg,src,tests,0⟩] sc cp) sp) (AL i (AF (BN mi tn.length ix g t e))):=.mk fun f hf=>
 PS.imp (QA (g:=xG X.K g) (tc:=xT X.K t) (te:=xD X.K e) hnd hiy hy hc hsc hN ok (hi f hf) (fun s2 H2 cl C fp=>(hg s2 H2 cl C fp).x) (fun s2 H2 cl C fp=>(ht s2 H2 cl C fp).x) (fun s2 H2 cl C fp=>(he s2 H2 cl C fp).x) hsw hs) fun E σ H hh_=>by
  obtain ⟨α,s,o,rs,lo,e0,q⟩:=hh_
  rw[<-hf]
  obtain ⟨r,h1,rfl⟩:=Ah e0
  obtain ⟨r2,h2,rfl⟩:=Ah h1
  exact K5 ⟨α,s,r2,rs,lo,h2,fun α' a vs H' rs' l' x ha hx=>q α' _ _ ((rs'.new ha).set (d:=.v (.lst r2.1)) (D6 rs' ha hx)) l' (x.trans (.new rs' ha))⟩
end
abbrev MD:=List SV->Gm->Option (D×Gm)
abbrev MDF:=List SV->Gm->Option (List D×Gm)
def spD (K:PySem.W.Frag) (np:Nat) (M:MD):Sp:=fun vs H Q _=>∃ (f:Fr) (α:Nat->Addr) (s:DS) (σ:St) (ds:List SV) (r:D×Gm),f.K=K/\ds.length=np/\RS f α s σ H/\RepVs f α s.Γ H ds vs/\M ds s.Γ=some r /\
 ∀ α' v H',RS f α' {s with Γ:=r.2} σ H'->Ext f α α' s.Γ r.2 H H'->Rep (wd f α' r.2 H') r.1 v->Q v H'
def spF (K:PySem.W.Frag) (np:Nat) (M:MDF):Sp:=fun vs H Q _=>∃ (f:Fr) (α:Nat->Addr) (s:DS) (σ:St) (ds:List SV) (r:List D×Gm),f.K=K/\ds.length=np/\RS f α s σ H/\RepVs f α s.Γ H ds vs/\M ds s.Γ=some r /\
 ∀ α' a vs H',RS f α' {s with Γ:=r.2} σ H'->Ext f α α' s.Γ r.2 H H'->H' a=none->Reps (wd f α' r.2 H') r.1 vs->Q (.ref a) (upd H' a (.lst vs))
@[simp] def EE (n:Nat) (ds:List SV):List (Option SV):=ds.map some++List.replicate (n - ds.length) none
@[simp] def mFn (n:Nat) (m:MS):MD:=fun ds Γ=>(m ⟨EE n ds,Γ,Γ.length⟩).bind fun o=>match o with
 | .rt d s=>some (d,s.Γ.take Γ.length)
 | .rf xs s=>some (.lst xs,s.Γ.take Γ.length)
 | .rp xs d s=>some (.tup [.lst xs,d],s.Γ.take Γ.length)
 | .nx s=>some (.non,s.Γ.take Γ.length)
 | .bk _=>none
 | .ct _=>none
@[simp] def Bd (n:Nat) (m:MS):MDF:=fun ds Γ=>(m ⟨EE n ds,Γ,Γ.length⟩).bind fun o=>match o with
 | .rf xs s=>some (xs,s.Γ.take Γ.length)
 | _=>none
section
variable {P:Program} {w:World} {K:PySem.W.Frag} {mg:Str->Option Value} {base:Heap} {f:Fr} {α α':Nat->Addr} {s s':DS} {σ σ':St} {H H':Hp} {X:Cx} {pos:Pos}
theorem Tt {ds:List SV} {vs:List V}:RepVs f α s.Γ H ds vs->∀ (i:Nat) (d:SV),(ds.map some)[i]?=some (some d)->∃ v,(vs.map some)[i]?=some (some v)/\RepV f α s.Γ H d v:=by
 induction ds generalizing vs with
 | nil=>intro _ i d h;cases h
 | cons c ds ih=>
  intro h i d hi
  obtain ⟨v,r,rfl,h1,h2⟩:=h.cons_inv
  cases i with
  | zero=>cases hi;exact ⟨v,rfl,h1⟩
  | succ i=>exact ih h2 i d hi
theorem Cn:Over (fun _=>False) H H:=⟨fun _ _=>rfl,fun _ h=>h.elim,fun _ h=>h.elim⟩
theorem J0 {N:List Str} {ds:List SV} {vs:List V} (rs:RS f α s σ H) (h:RepVs f α s.Γ H ds vs):RS (inn f α s.Γ (fun _=>False) H (BQ rs Cn)) α ⟨EE N.length ds,s.Γ,s.Γ.length⟩ (L2.start N vs) H:=by
 have hl:=h.len
 refine rs.enter Cn (by unfold EE L2.start;simp[hl]) fun i d e=>?_
 unfold EE at e
 unfold L2.start
 by_cases c:i<ds.length
 ·rw[List.getElem?_append_left (by simpa using c)] at e
  rw[List.getElem?_append_left (by rw[List.length_map,hl];exact c)]
  exact Tt h i d e
 ·rw[List.getElem?_append_right (by simpa using c)] at e
  rw[List.getElem?_replicate] at e
  split at e<;>cases e
theorem Bl {x qual:Str} {st:Stmt} {fa:Addr} {fd:FuncData} {N ps:List Str} {k:Nat} {m:MS} (F:Fun K x qual st fa fd) (S:FnScope N ps (Ac st))
  (hb:∀ (cdv:Value) (A:Around) (outer:List Env) (s:Shared) (H:Hp) (E:XK),Room k (A.deeper (PyProof.Rows.envOfC qual (Ac st) s.heap.objs.size fa cdv))->DSs (C4 CX0 P w K mg base N qual (Ac st) fa cdv A outer s H E).nox (Cu st) m) :
  FnOk P w K mg base CX0 (k+1) fa fd ps (spD K ps.length (mFn N.length m)):=by
 refine F.ok S (fun vs H Q E h=>?_) (fun cdv A outer sh H vs Q E hr h=>?_)
 ·obtain ⟨f,α,s,σ,ds,r,_,hl,_,hv,_⟩:=h
  rw[hv.len,hl]
 obtain ⟨f,α,s,σ,ds,r,hK,hl,rs,hv,hM,q⟩:=h
 obtain ⟨o,h1,h2⟩:=bind_some hM
 refine ⟨_,hb cdv A outer sh H E hr (inn f α s.Γ (fun _=>False) H (BQ rs Cn)) hK,α,_,o,J0 rs hv,Nat.le_refl _,h1,?_⟩
 cases o with
 | bk s'=>cases h2
 | ct s'=>cases h2
 | nx s'=>
  cases h2
  intro α' σ' H' r' l' x'
  obtain ⟨a1,a2,a3⟩:=rs.leave Cn r' l' x' (H1:=H') fun _ _=>rfl
  exact q α' .non H' a1 a2 (by unfold Rep;rfl)
 | rt d s'=>
  cases h2
  intro α' σ' v H' r' l' x' hw
  obtain ⟨a1,a2,a3⟩:=rs.leave Cn r' l' x' (H1:=H') fun _ _=>rfl
  exact q α' v H' a1 a2 (hw.kw a3)
 | rf xs s'=>
  cases h2
  intro α' σ' a vs' H' r' l' x' ha hx
  obtain ⟨a1,a2,a3⟩:=rs.leave Cn r' l' x' (H1:=H') fun _ _=>rfl
  exact q α' _ _ (a1.new ha) (a2.trans (.new a1 ha)) (D6 a1 ha (hx.kw a3))
 | rp xs d s'=>
  cases h2
  intro α' σ' a t vs' w H' r' l' x' ha hx hw ht hta
  obtain ⟨a1,a2,a3⟩:=rs.leave Cn r' l' x' (H1:=H') fun _ _=>rfl
  have ht':(upd H' a (.lst vs')) t=none:=by rw[AY hta];exact ht
  have r1:=a1.new (o:=.lst vs') ha
  have e1:=Ext.new (o:=.lst vs') a1 ha
  exact q α' _ _ (r1.new ht') ((a2.trans e1).trans (.new r1 ht')) (E3 r1 ht' (.cons (D6 a1 ha (hx.kw a3)) (.cons ((hw.kw a3).kw e1.kw) .nil)))
theorem FS {x qual:Str} {st:Stmt} {fa:Addr} {fd:FuncData} {N ps:List Str} {k:Nat} {m:MS} (F:Fun K x qual st fa fd) (S:FnScope N ps (Ac st))
  (hb:∀ (cdv:Value) (A:Around) (outer:List Env) (s:Shared) (H:Hp) (E:XK),Room k (A.deeper (PyProof.Rows.envOfC qual (Ac st) s.heap.objs.size fa cdv))->DSs (C4 CX0 P w K mg base N qual (Ac st) fa cdv A outer s H E).nox (Cu st) m) :
  FnOk P w K mg base CX0 (k+1) fa fd ps (spF K ps.length (Bd N.length m)):=by
 refine F.ok S (fun vs H Q E h=>?_) (fun cdv A outer sh H vs Q E hr h=>?_)
 ·obtain ⟨f,α,s,σ,ds,r,_,hl,_,hv,_⟩:=h
  rw[hv.len,hl]
 obtain ⟨f,α,s,σ,ds,r,hK,hl,rs,hv,hM,q⟩:=h
 obtain ⟨o,h1,h2⟩:=bind_some hM
 refine ⟨_,hb cdv A outer sh H E hr (inn f α s.Γ (fun _=>False) H (BQ rs Cn)) hK,α,_,o,J0 rs hv,Nat.le_refl _,h1,?_⟩
 cases o with
 | bk s'=>cases h2
 | ct s'=>cases h2
 | nx s'=>cases h2
 | rt d s'=>cases h2
 | rp xs d s'=>cases h2
 | rf xs s'=>
  cases h2
  intro α' σ' a vs' H' r' l' x' ha hx
  obtain ⟨a1,a2,a3⟩:=rs.leave Cn r' l' x' (H1:=H') fun _ _=>rfl
  exact q α' _ _ _ a1 a2 ha (hx.kw a3)
@[simp] def AK (M:MD) (ms:MA):ME:=fun s=>(ms s).bind fun x=>(M x.1 x.2.Γ).map fun r=>(.v r.1,{x.2 with Γ:=r.2})
@[simp] def BG (M:MDF) (ms:MA):MF:=fun s=>(ms s).bind fun x=>(M x.1 x.2.Γ).map fun r=>(r.1,{x.2 with Γ:=r.2})
def Ar (ms:MA) (n:Nat):Prop:=∀ s r,ms s=some r->r.1.length=n
theorem Ak:Ar AC 0:=fun s r e=>by cases e;rfl
theorem AQ {m:ME} {ms:MA} {n:Nat} (h:Ar ms n):Ar (AB m ms) (n+1):=fun s r e=>by
 obtain ⟨x,h1,e⟩:=bind_some e
 obtain ⟨y,h2,rfl⟩:=Ah e
 show (x.1::y.1).length=n+1
 rw[List.length_cons,h _ _ h2]
theorem Aw {x:Str} {p:Pos} {e:Expr} {es:List Expr} {fa:Addr} {fd:FuncData} {ps:List Str} {k np:Nat} {M:MD} {ms:MA} (F:FnOk X.prog X.w X.K X.mg X.base CX0 k fa fd ps (spD X.K np M)) (hr:Room k X.A) (hg:Gl X x) (hm:X.mg x=some (.ref fa)) (hk:PySem.W.keepIn X.K (.ref fa)=true) (hb:Binds X.K fd ps [])
  (ha:DA X (e::es) ms) (hn:Ar ms np) (hdb:(x == ("__debug__":Str))=false:=by decide) (he:starEach (e::es) X.env=(false,eval e X.env)::starEach es X.env:=by rfl) (hpl:(backTo pos (starEach es X.env)).any (·.1)=false:=by rfl) :
  DE X (.Call (.Name x p) (e::es) [] pos) (AK M ms):=.mk fun f hf=>PE.imp (HQ F hr hg hm hk hb .nil Ji (ha f hf) hdb he hpl) fun σ H Q hh_=>by
 obtain ⟨α,s,r,rs,lo,e0,q⟩:=hh_
 obtain ⟨y,h1,e0⟩:=bind_some e0
 obtain ⟨z,h2,rfl⟩:=Ah e0
 refine ⟨α,s,y,rs,lo,h1,fun α1 vs H1 rs1 l1 x1 hv=>?_⟩
 dsimp only
 rw[List.append_nil]
 exact ⟨f,α1,y.2,σ,y.1,z,hf,hn _ _ h1,rs1,hv,h2,fun α2 v H2 rs2 x2 hw=>q α2 v H2 rs2 l1 (x1.trans x2) hw⟩
theorem E1 {x:Str} {p:Pos} {e:Expr} {es:List Expr} {fa:Addr} {fd:FuncData} {ps:List Str} {k np:Nat} {M:MDF} {ms:MA} (F:FnOk X.prog X.w X.K X.mg X.base CX0 k fa fd ps (spF X.K np M)) (hr:Room k X.A) (hg:Gl X x) (hm:X.mg x=some (.ref fa)) (hk:PySem.W.keepIn X.K (.ref fa)=true) (hb:Binds X.K fd ps [])
  (ha:DA X (e::es) ms) (hn:Ar ms np) (hdb:(x == ("__debug__":Str))=false:=by decide) (he:starEach (e::es) X.env=(false,eval e X.env)::starEach es X.env:=by rfl) (hpl:(backTo pos (starEach es X.env)).any (·.1)=false:=by rfl) :
  DF X (.Call (.Name x p) (e::es) [] pos) (BG M ms):=.mk fun f hf=>PE.imp (HQ F hr hg hm hk hb .nil Ji (ha f hf) hdb he hpl) fun σ H Q hh_=>by
 obtain ⟨α,s,r,rs,lo,e0,q⟩:=hh_
 obtain ⟨y,h1,e0⟩:=bind_some e0
 obtain ⟨z,h2,rfl⟩:=Ah e0
 refine ⟨α,s,y,rs,lo,h1,fun α1 vs H1 rs1 l1 x1 hv=>?_⟩
 dsimp only
 rw[List.append_nil]
 exact ⟨f,α1,y.2,σ,y.1,z,hf,hn _ _ h1,rs1,hv,h2,fun α2 a us H2 rs2 x2 ha hx=>q α2 a us H2 rs2 l1 (x1.trans x2) ha hx⟩
end
section
variable {X:Cx} {f:Fr} {α:Nat->Addr} {s:DS} {σ:St} {H:Hp} {K:PySem.W.Frag}
theorem BL {Γ:Gm} {i:Int} {v:V} (h:RepV f α Γ H (.v (.int i)) v):v=.int i:=by
 have h:Rep (wd f α Γ H) (.int i) v:=h
 unfold Rep at h;exact h
theorem BX {Γ:Gm} {i:Str} {v:V} (h:RepV f α Γ H (.v (.str i)) v):v=.str i:=by
 have h:Rep (wd f α Γ H) (.str i) v:=h
 unfold Rep at h;exact h
theorem Gq {Γ:Gm} {i:Bool} {v:V} (h:RepV f α Γ H (.v (.bl i)) v):v=.bl i:=by
 have h:Rep (wd f α Γ H) (.bl i) v:=h
 unfold Rep at h;exact h
theorem ED {Γ:Gm} {v:V} (h:RepV f α Γ H (.v .non) v):v=.non:=by
 have h:Rep (wd f α Γ H) .non v:=h
 unfold Rep at h;exact h
theorem JJ {Γ:Gm} {xs:List D} {v:V} (h:RepV f α Γ H (.v (.tup xs)) v):∃ a vs,v=.ref a/\H a=some (.tup vs)/\Reps (wd f α Γ H) xs vs:=by
 have h:Rep (wd f α Γ H) (.tup xs) v:=h
 unfold Rep at h
 obtain ⟨a,vs,e,_,h1,h2⟩:=h
 exact ⟨a,vs,e,h1,h2⟩
theorem CC {W:Wd} {i:Int}:Rep W (.int i) (.int i):=by unfold Rep;rfl
theorem Bz {W:Wd} {i:Bool}:Rep W (.bl i) (.bl i):=by unfold Rep;rfl
theorem FJ {W:Wd} {i:Str}:Rep W (.str i) (.str i):=by unfold Rep;rfl
theorem Sq {Γ:Gm}:RepV f α Γ H (.v .non) .non:=by show Rep (wd f α Γ H) .non .non;unfold Rep;rfl
@[simp] def gI (c:Int->Int->Bool) (h:Int->Int->Int):Gm->SV->SV->Option D:=fun _ x y=>match x,y with
 | .v (.int i),.v (.int j)=>if c i j=true then some (.int (h i j)) else none
 | _,_=>none
theorem Fi {C:Int->Int->Prop} {c:Int->Int->Bool} {h:Int->Int->Int} (hc:∀ i j,c i j=true->C i j):OpD X (gI c h) (rI C fun i j=>.int (h i j)):=by
 intro f α s σ H x y u v z Q hf rs hu hv e q
 unfold gI at e
 split at e
 ·rename_i i j
  split at e
  ·rename_i hk
   cases e
   exact ⟨i,j,BL hu,BL hv,hc i j hk,q _ H rs .refl CC⟩
  ·cases e
 ·cases e
@[simp] def gI0 (h:Int->Int->Int):Gm->SV->SV->Option D:=fun _ x y=>match x,y with
 | .v (.int i),.v (.int j)=>some (.int (h i j))
 | _,_=>none
theorem Ou {h:Int->Int->Int}:OpD X (gI0 h) (rI0 fun i j=>.int (h i j)):=by
 intro f α s σ H x y u v z Q hf rs hu hv e q
 unfold gI0 at e
 split at e
 ·rename_i i j
  cases e
  exact ⟨i,j,BL hu,BL hv,q _ H rs .refl CC⟩
 ·cases e
@[simp] def gB0 (h:Int->Int->Bool):Gm->SV->SV->Option D:=fun _ x y=>match x,y with
 | .v (.int i),.v (.int j)=>some (.bl (h i j))
 | _,_=>none
theorem JI {h:Int->Int->Bool}:OpD X (gB0 h) (rI0 fun i j=>.bl (h i j)):=by
 intro f α s σ H x y u v z Q hf rs hu hv e q
 unfold gB0 at e
 split at e
 ·rename_i i j
  cases e
  exact ⟨i,j,BL hu,BL hv,q _ H rs .refl Bz⟩
 ·cases e
abbrev Df:=gI0 fun i j=>i - j
def IV (i j:Int):Bool:=decide ((-(2 ^ 64)<i/\i<2 ^ 64)\/(-(2 ^ 64)<j/\j<2 ^ 64))
def Nn (i j:Int):Bool:=decide (0<j/\j<2 ^ 64)
def FZ (i j:Int):Bool:=decide (0<j)
def He (i j:Int):Bool:=decide (0<=j/\j<=1000000/\i.natAbs<2 ^ 64)
abbrev Bf:=gI IV fun i j=>i * j
abbrev CA:=gI Nn fun i j=>i / j
abbrev BD:=gI FZ fun i j=>i % j
abbrev Dl:=gI He fun i j=>i ^ j.toNat
theorem P4:OpD X Bf (rI CMul fun i j=>.int (i * j)):=Fi fun i j h=>by unfold IV at h;unfold CMul;exact of_decide_eq_true h
theorem QM:OpD X CA (rI (fun _ j=>0<j/\j<2 ^ 64) fun i j=>.int (i / j)):=Fi fun i j h=>of_decide_eq_true h
theorem Tw:OpD X BD (rI (fun _ j=>0<j) fun i j=>.int (i % j)):=Fi fun i j h=>of_decide_eq_true h
theorem Ph:OpD X Dl (rI Hq fun i j=>.int (i ^ j.toNat)):=Fi fun i j h=>by unfold He at h;unfold Hq;exact of_decide_eq_true h
abbrev gGt:=gB0 fun i j=>decide (j<i)
abbrev gGe:=gB0 fun i j=>decide (j<=i)
@[simp] def AV:Gm->SV->SV->Option D:=fun Γ x y=>match x,y with
 | .v (.int i),.v (.int j)=>some (.int (i+j))
 | .v (.str a),.v (.str b)=>if a.length+b.length<=big then some (.str (a++b)) else none
 | x,y=>match elems Γ x,elems Γ y with
  | some xs,some ys=>if xs.length+ys.length<=big then some (.lst (xs++ys)) else none
  | _,_=>none
@[simp] def A9:Gm->SV->SV->Option (List D):=fun Γ x y=>match elems Γ x,elems Γ y with
 | some xs,some ys=>if xs.length+ys.length<=big then some (xs++ys) else none
 | _,_=>none
def MK:R2:=fun x y H Q=>rI0 (fun i j=>.int (i+j)) x y H Q\/(∃ i j,x=.str i/\y=.str j/\i.length+j.length<=sizeLine/\Q (.str (i++j)) H)\/JM x y H Q
theorem VJ:OpR X (binaryOp .Add) MK:=op_add.or (op_add_str.or LO)
theorem RB:OpF X A9 JM:=by
 intro f α s σ H x y u v z Q hf rs hu hv e q
 unfold A9 at e
 split at e
 ·rename_i xs ys h1 h2
  split at e
  ·rename_i hz
   cases e
   obtain ⟨a,vs,rfl,a1,a2⟩:=Be rs h1 hu
   obtain ⟨b,us,rfl,b1,b2⟩:=Be rs h2 hv
   exact ⟨a,b,vs,us,rfl,rfl,a1,b1,by rw[a2.len,b2.len];exact CQ hz,fun p hp=>q p _ hp (a2.append b2)⟩
  ·cases e
 ·cases e
theorem VG:OpD X AV MK:=by
 intro f α s σ H x y u v z Q hf rs hu hv e q
 unfold AV at e
 split at e
 ·rename_i i j
  cases e
  exact .inl ⟨i,j,BL hu,BL hv,q _ H rs .refl CC⟩
 ·rename_i a b
  split at e
  ·rename_i hz
   cases e
   exact .inr (.inl ⟨a,b,BX hu,BX hv,CQ hz,q _ H rs .refl FJ⟩)
  ·cases e
 ·split at e
  ·rename_i xs ys h1 h2
   split at e
   ·rename_i hz
    cases e
    obtain ⟨a,vs,rfl,a1,a2⟩:=Be rs h1 hu
    obtain ⟨b,us,rfl,b1,b2⟩:=Be rs h2 hv
    exact .inr (.inr ⟨a,b,vs,us,rfl,rfl,a1,b1,by rw[a2.len,b2.len];exact CQ hz,fun p hp=>q _ _ (rs.new hp) (.new rs hp) (D6 rs hp (a2.append b2))⟩)
   ·cases e
  ·cases e
@[simp] def Eu:SV->SV->Option Bool:=fun x y=>match x,y with
 | .v (.int i),.v (.int j)=>some (decide (i=j))
 | .v (.str i),.v (.str j)=>some (decide (i=j))
 | .v (.bl i),.v (.bl j)=>some (decide (i=j))
 | _,_=>none
@[simp] def EN:Gm->SV->SV->Option Bool:=fun Γ x y=>match elems Γ x,elems Γ y with
 | some [],some ys=>some ys.isEmpty
 | some xs,some []=>some xs.isEmpty
 | _,_=>none
@[simp] def gEq:Gm->SV->SV->Option D:=fun Γ x y=>match Eu x y with
 | some b=>some (.bl b)
 | none=>(EN Γ x y).map .bl
@[simp] def gNe:Gm->SV->SV->Option D:=fun Γ x y=>match Eu x y with
 | some b=>some (.bl !b)
 | none=>(EN Γ x y).map fun b=>.bl !b
theorem L8 {Γ:Gm} {x y:SV} {u v:V} {b:Bool} (h:Eu x y=some b) (hu:RepV f α Γ H x u) (hv:RepV f α Γ H y v):JN u v=true/\decide (u=v)=b:=by
 unfold Eu at h
 split at h
 ·cases h;rw[BL hu,BL hv];exact ⟨rfl,by simp⟩
 ·cases h;rw[BX hu,BX hv];exact ⟨rfl,by simp⟩
 ·cases h;rw[Gq hu,Gq hv];exact ⟨rfl,by simp⟩
 ·cases h
theorem KL {x y:SV} {u v:V} {b:Bool} (rs:RS f α s σ H) (h:EN s.Γ x y=some b) (hu:RepV f α s.Γ H x u) (hv:RepV f α s.Γ H y v):∃ p q xs ys,u=.ref p/\v=.ref q/\H p=some (.lst xs)/\H q=some (.lst ys)/\(xs=[]\/ys=[])/\decide (xs=ys)=b:=by
 unfold EN at h
 split at h
 ·rename_i ys h1 h2
  cases h
  obtain ⟨a,vs,rfl,a1,a2⟩:=Be rs h1 hu
  obtain ⟨c,us,rfl,b1,b2⟩:=Be rs h2 hv
  refine ⟨a,c,vs,us,rfl,rfl,a1,b1,.inl a2.nil_inv,?_⟩
  rw[a2.nil_inv]
  cases ys with
  | nil=>rw[b2.nil_inv];rfl
  | cons d ds=>obtain ⟨w,r,rfl,_⟩:=b2.cons_inv;rfl
 ·rename_i xs _ h1 h2
  cases h
  obtain ⟨a,vs,rfl,a1,a2⟩:=Be rs h1 hu
  obtain ⟨c,us,rfl,b1,b2⟩:=Be rs h2 hv
  refine ⟨a,c,vs,us,rfl,rfl,a1,b1,.inr b2.nil_inv,?_⟩
  rw[b2.nil_inv]
  cases xs with
  | nil=>rw[a2.nil_inv];rfl
  | cons d ds=>obtain ⟨w,r,rfl,_⟩:=a2.cons_inv;rfl
 ·cases h
def Ha (K:PySem.W.Frag):R2:=fun x y H Q=>rEq x y H Q\/Lh K x y H Q
def HC (K:PySem.W.Frag):R2:=fun x y H Q=>rNe x y H Q\/LD K x y H Q
theorem UU (hu:X.A.units<cLine):OpR X (compareOp .Eq) (Ha X.K):=op_eq.or (TV hu)
theorem RJ (hu:X.A.units<cLine):OpR X (compareOp .NotEq) (HC X.K):=op_ne.or (RD hu)
theorem RH:OpD X gEq (Ha X.K):=by
 intro f α s σ H x y u v z Q hf rs hu hv e q
 unfold gEq at e
 split at e
 ·rename_i b hb
  cases e
  obtain ⟨h1,h2⟩:=L8 hb hu hv
  exact .inl ⟨h1,by rw[h2];exact q _ H rs .refl Bz⟩
 ·obtain ⟨b,hb,rfl⟩:=Ah e
  obtain ⟨p,q',xs,ys,rfl,rfl,h1,h2,h3,h4⟩:=KL rs hb hu hv
  exact .inr ⟨p,q',xs,ys,rfl,rfl,SqL.of h1,SqL.of h2,h3,by rw[h4];exact q _ H rs .refl Bz⟩
theorem R5:OpD X gNe (HC X.K):=by
 intro f α s σ H x y u v z Q hf rs hu hv e q
 unfold gNe at e
 split at e
 ·rename_i b hb
  cases e
  obtain ⟨h1,h2⟩:=L8 hb hu hv
  exact .inl ⟨h1,by rw[h2];exact q _ H rs .refl Bz⟩
 ·obtain ⟨b,hb,rfl⟩:=Ah e
  obtain ⟨p,q',xs,ys,rfl,rfl,h1,h2,h3,h4⟩:=KL rs hb hu hv
  exact .inr ⟨p,q',xs,ys,rfl,rfl,SqL.of h1,SqL.of h2,h3,by rw[h4];exact q _ H rs .refl Bz⟩
def intsOf:List D->Option (List Int)
 | []=>some []
 | .int i::r=>(intsOf r).map (i::·)
 | _=>none
theorem Lm:∀ {xs:List D} {ns:List Int},intsOf xs=some ns->xs=ns.map .int
 | [],ns,e=>by cases e;rfl
 | .int i::r,ns,e=>by
  obtain ⟨ms,h,rfl⟩:=Ah (show (intsOf r).map (i::·)=some ns from e)
  rw[Lm h];rfl
@[simp] def gIx:Gm->SV->SV->Option D:=fun Γ x y=>match y with
 | .v (.int i)=>match x with
  | .v (.tup xs)=>atI xs i
  | .v (.str z)=>if z.length<=big then (atI z.cps.toList i).map fun c=>.str ⟨#[c]⟩ else none
  | .v (.scr ns)=>(atI ns i).map .int
  | x=>(elems Γ x).bind fun xs=>atI xs i
 | _=>none
theorem M9 {W:Wd} {xs:List D} {vs:List V} {i:Int} {d:D} (h:Reps W xs vs) (e:atI xs i=some d):∃ v,atI vs i=some v/\Rep W d v:=by
 unfold atI at *
 rw[h.len]
 obtain ⟨j,h1,h2⟩:=bind_some e
 obtain ⟨v,h3,h4⟩:=h.get h2
 exact ⟨v,by rw[h1];exact h3,h4⟩
theorem UI {ns:List Int} {i n:Int} (e:atI ns i=some n):atI (ns.map V.int) i=some (.int n):=by
 unfold atI at *
 rw[List.length_map]
 obtain ⟨j,h1,h2⟩:=bind_some e
 rw[h1]
 show (ns.map V.int)[j]?=_
 rw[List.getElem?_map,h2]
 rfl
theorem Kx {Γ:Gm} {ns:List Int} {v:V} (h:RepV f α Γ H (.v (.scr ns)) v):∃ a,v=.ref a/\SqL f.K H a (ns.map V.int):=by
 have h:Rep (wd f α Γ H) (.scr ns) v:=h
 unfold Rep at h
 obtain ⟨a,e,h⟩:=h
 refine ⟨a,e,?_⟩
 rcases h with ⟨_,h⟩ | h
 ·exact .inl h
 ·exact h H
theorem TF:OpD X gIx (rIx X.K):=by
 intro f α s σ H x y u v z Q hf rs hu hv e q
 unfold gIx at e
 split at e
 ·rename_i i
  split at e
  ·rename_i xs
   obtain ⟨a,vs,rfl,h1,h2⟩:=JJ hu
   obtain ⟨w,h3,h4⟩:=M9 h2 e
   exact .inr (.inl ⟨a,vs,i,w,rfl,BL hv,SqT.of h1,h3,q w H rs .refl h4⟩)
  ·rename_i str
   split at e
   ·rename_i hz
    obtain ⟨c,h1,rfl⟩:=Ah e
    exact .inr (.inr ⟨str,i,c,BX hu,BL hv,CQ hz,h1,q _ H rs .refl FJ⟩)
   ·cases e
  ·rename_i ns
   obtain ⟨n,h1,rfl⟩:=Ah e
   obtain ⟨a,rfl,h2⟩:=Kx hu
   exact .inl ⟨a,_,i,_,rfl,BL hv,by rw[<-hf];exact h2,UI h1,q _ H rs .refl CC⟩
  ·obtain ⟨xs,h1,e⟩:=bind_some e
   obtain ⟨a,vs,rfl,h3,h2⟩:=Be rs h1 hu
   obtain ⟨w,h4,h5⟩:=M9 h2 e
   exact .inl ⟨a,vs,i,w,rfl,BL hv,SqL.of h3,h4,q w H rs .refl h5⟩
 ·cases e
@[simp] def Ag:Gm->List SV->Option D:=fun Γ xs=>match xs with
 | [.v (.tup xs)]=>some (.int xs.length)
 | [.v (.str z)]=>if z.length<=big then some (.int z.length) else none
 | [.v (.scr ns)]=>some (.int ns.length)
 | [x]=>(elems Γ x).map fun xs=>.int xs.length
 | _=>none
theorem A4:CaD X Ag (fun xs H Q=>∃ x n,xs=[x]/\NJ X.K x H n/\Q (.int n) H):=by
 intro f α s σ H xs us z Q hf rs hu e q
 unfold Ag at e
 split at e
 ·rename_i xs
  cases e
  obtain ⟨v,r,rfl,h1,h2⟩:=hu.cons_inv
  rw[h2.nil_inv]
  obtain ⟨a,vs,rfl,h3,h4⟩:=JJ h1
  exact ⟨_,xs.length,rfl,.inr ⟨vs,SqT.of h3,h4.len.symm⟩,q _ H rs .refl CC⟩
 ·rename_i z
  split at e
  ·rename_i hz
   cases e
   obtain ⟨v,r,rfl,h1,h2⟩:=hu.cons_inv
   rw[h2.nil_inv,BX h1]
   exact ⟨_,z.length,rfl,⟨CQ hz,rfl⟩,q _ H rs .refl CC⟩
  ·cases e
 ·rename_i ns
  cases e
  obtain ⟨v,r,rfl,h1,h2⟩:=hu.cons_inv
  rw[h2.nil_inv]
  obtain ⟨a,rfl,h3⟩:=Kx h1
  exact ⟨_,ns.length,rfl,.inl ⟨_,by rw[<-hf];exact h3,by rw[List.length_map]⟩,q _ H rs .refl CC⟩
 ·rename_i x _ _ _
  obtain ⟨xs,h0,rfl⟩:=Ah e
  obtain ⟨v,r,rfl,h1,h2⟩:=hu.cons_inv
  rw[h2.nil_inv]
  obtain ⟨a,vs,rfl,h3,h4⟩:=Be rs h0 h1
  exact ⟨_,xs.length,rfl,.inl ⟨vs,SqL.of h3,h4.len.symm⟩,q _ H rs .refl CC⟩
 ·cases e
@[simp] def Ed:Gm->List SV->Option D:=fun _ xs=>match xs with
 | [.v (.int i),.v (.int j)]=>some (.int (if j > i then j else i))
 | _=>none
@[simp] def Ef:Gm->List SV->Option D:=fun _ xs=>match xs with
 | [.v (.int i),.v (.int j)]=>some (.int (if j<i then j else i))
 | _=>none
theorem Qx:CaD X Ed (fun xs H Q=>∃ i j,xs=[.int i,.int j]/\Q (.int (if j > i then j else i)) H):=by
 intro f α s σ H xs us z Q hf rs hu e q
 unfold Ed at e
 split at e
 ·rename_i i j
  cases e
  obtain ⟨v,r,rfl,h1,h2⟩:=hu.cons_inv
  obtain ⟨v',r',rfl,h3,h4⟩:=h2.cons_inv
  rw[h4.nil_inv,BL h1,BL h3]
  exact ⟨i,j,rfl,q _ H rs .refl CC⟩
 ·cases e
theorem TR:CaD X Ef (fun xs H Q=>∃ i j,xs=[.int i,.int j]/\Q (.int (if j<i then j else i)) H):=by
 intro f α s σ H xs us z Q hf rs hu e q
 unfold Ef at e
 split at e
 ·rename_i i j
  cases e
  obtain ⟨v,r,rfl,h1,h2⟩:=hu.cons_inv
  obtain ⟨v',r',rfl,h3,h4⟩:=h2.cons_inv
  rw[h4.nil_inv,BL h1,BL h3]
  exact ⟨i,j,rfl,q _ H rs .refl CC⟩
 ·cases e
@[simp] def EA:Gm->List SV->Option D:=fun _ xs=>match xs with
 | [.v (.int i)]=>some (.int i)
 | [.v (.bl k)]=>some (.int (if k then 1 else 0))
 | _=>none
theorem VX:CaD X EA (fun xs H Q=>(∃ i,xs=[.int i]/\Q (.int i) H)\/∃ k,xs=[.bl k]/\Q (.int (if k then 1 else 0)) H):=by
 intro f α s σ H xs us z Q hf rs hu e q
 unfold EA at e
 split at e
 ·rename_i i
  cases e
  obtain ⟨v,r,rfl,h1,h2⟩:=hu.cons_inv
  rw[h2.nil_inv,BL h1]
  exact .inl ⟨i,rfl,q _ H rs .refl CC⟩
 ·rename_i k
  cases e
  obtain ⟨v,r,rfl,h1,h2⟩:=hu.cons_inv
  rw[h2.nil_inv,Gq h1]
  exact .inr ⟨k,rfl,q _ H rs .refl CC⟩
 ·cases e
def insI (i:Int):List Int->List Int
 | []=>[i]
 | j::r=>if i<=j then i::j::r else j::insI i r
def sortI:List Int->List Int
 | []=>[]
 | i::r=>insI i (sortI r)
theorem insI_perm (i:Int):∀ r:List Int,(insI i r).Perm (i::r)
 | []=>.refl _
 | j::r=>by
  unfold insI
  split
  ·exact .refl _
  ·exact ((insI_perm i r).cons j).trans (.swap i j r)
theorem sortI_perm:∀ r:List Int,(sortI r).Perm r
 | []=>.refl _
 | i::r=>(insI_perm i _).trans ((sortI_perm r).cons i)
theorem LI (i:Int):∀ r:List Int,r.Pairwise (·<=·)->(insI i r).Pairwise (·<=·)
 | [],_=>List.pairwise_singleton _ _
 | j::r,h=>by
  unfold insI
  obtain ⟨h1,h2⟩:=List.pairwise_cons.mp h
  split
  ·rename_i c
   refine List.pairwise_cons.mpr ⟨fun k hk=>?_,h⟩
   rcases List.mem_cons.mp hk with rfl | hk
   ·exact c
   ·have:=h1 k hk;lia
  ·rename_i c
   refine List.pairwise_cons.mpr ⟨fun k hk=>?_,LI i r h2⟩
   rcases List.mem_cons.mp ((insI_perm i r).mem_iff.mp hk) with rfl | hk
   ·lia
   ·exact h1 k hk
theorem NU:∀ r:List Int,(sortI r).Pairwise (·<=·)
 | []=>.nil
 | i::r=>LI i _ (NU r)
theorem UE {xs ys:List Int} (p:xs.Perm ys) (hx:xs.Pairwise (·<=·)) (hy:ys.Pairwise (·<=·)):xs=ys:=
 p.eq_of_pairwise (fun a b _ _ h1 h2=>by lia) hx hy
@[simp] def Bh (m:ME):MF:=fun s=>(m s).bind fun r=>match r.1 with
 | .v (.lst xs)=>some (xs,r.2)
 | .v (.tup xs)=>some (xs,r.2)
 | _=>none
variable {tg a b:Expr} {pos:Pos}
theorem PI.imp {src:Expr} {t t':TI} (h:PI X tg src t) (k:∀ σ H R,t' σ H R->t σ H R):PI X tg src t':=fun pins s σ H R I q=>h pins s σ H R I (k _ _ _ q)
theorem Hj {f:Fr} {α0 α:Nat->Addr} {Γ0 Γ:Gm} {H0 H Hh:Hp} {p:Addr} {vs:List V} {xs:List D} (x:Ext f α0 α Γ0 Γ H0 H) (hb:¬(f.F p\/Bo Γ0 α0 p)) (h:H0 p=some (.lst vs)) (hx:Reps (wd f α0 Γ0 H0) xs vs) (sup:∀ a o,H a=some o->Hh a=some o) :
  Hh p=some (.lst vs)/\Reps (wd f α Γ H) xs vs:=⟨sup _ _ (x.kw.keep p _ hb h).1,hx.kw x.kw⟩
theorem Jl {f:Fr} {α0 α:Nat->Addr} {Γ0 Γ:Gm} {H0 H Hh:Hp} {p:Addr} {vs:List V} {xs:List D} (x:Ext f α0 α Γ0 Γ H0 H) (hb:¬(f.F p\/Bo Γ0 α0 p)) (h:H0 p=some (.tup vs)) (hx:Reps (wd f α0 Γ0 H0) xs vs) (sup:∀ a o,H a=some o->Hh a=some o) :
  Hh p=some (.tup vs)/\Reps (wd f α Γ H) xs vs:=⟨sup _ _ (x.kw.keep p _ hb h).1,hx.kw x.kw⟩
theorem Da {m:ME} (h:DE X a m):DI X tg a (Bh m):=.mk fun f hf=>PI.imp (L2.PI.or (QD (h f hf)) (Ut (h f hf))) fun σ H R hh_=>by
 obtain ⟨α,s,r,rs,lo,e,q⟩:=hh_
 obtain ⟨⟨x,s1⟩,h1,e⟩:=bind_some e
 simp only at e
 split at e
 ·rename_i xs
  cases e
  refine .inl ⟨α,s,_,rs,lo,h1,fun α' v H' rs' l' x' hv=>?_⟩
  have hv:Rep (wd f α' s1.Γ H') (.lst xs) v:=hv
  unfold Rep at hv
  obtain ⟨p,vs,rfl,hb,h2,h3⟩:=hv
  refine ⟨p,rfl,⟨vs,SqL.of h2⟩,q _ α' H' rs' l' x' ⟨?_,?_,?_⟩⟩
  ·intro i α2 s2 σ2 H2 Hh hi r2 x2 sup
   obtain ⟨g1,_⟩:=Hj x2 hb h2 h3 sup
   exact ⟨vs,vs[i]'(by rw[h3.len];exact hi),SqL.of g1,List.getElem?_eq_getElem _⟩
  ·intro i d y α2 s2 σ2 H2 Hh H3 hd r2 x2 sup yl
   obtain ⟨g1,g2⟩:=Hj x2 hb h2 h3 sup
   obtain ⟨rfl,yl⟩:=yl
   obtain ⟨w,w1,w2⟩:=g2.get hd
   have:=yl vs (SqL.of g1)
   rw[w1] at this
   cases this
   exact .inl ⟨rfl,w2⟩
  ·intro α2 s2 σ2 H2 Hh r2 x2 sup
   obtain ⟨g1,_⟩:=Hj x2 hb h2 h3 sup
   exact ⟨vs,SqL.of g1,by rw[h3.len];exact Nat.le_refl _⟩
 ·rename_i xs
  cases e
  refine .inr ⟨α,s,_,rs,lo,h1,fun α' v H' rs' l' x' hv=>?_⟩
  have hv:Rep (wd f α' s1.Γ H') (.tup xs) v:=hv
  unfold Rep at hv
  obtain ⟨p,vs,rfl,hb,h2,h3⟩:=hv
  refine ⟨p,rfl,⟨vs,SqT.of h2⟩,q _ α' H' rs' l' x' ⟨?_,?_,?_⟩⟩
  ·intro i α2 s2 σ2 H2 Hh hi r2 x2 sup
   obtain ⟨g1,_⟩:=Jl x2 hb h2 h3 sup
   exact ⟨vs,vs[i]'(by rw[h3.len];exact hi),SqT.of g1,List.getElem?_eq_getElem _⟩
  ·intro i d y α2 s2 σ2 H2 Hh H3 hd r2 x2 sup yl
   obtain ⟨g1,g2⟩:=Jl x2 hb h2 h3 sup
   obtain ⟨rfl,yl⟩:=yl
   obtain ⟨w,w1,w2⟩:=g2.get hd
   have:=yl vs (SqT.of g1)
   rw[w1] at this
   cases this
   exact .inl ⟨rfl,w2⟩
  ·intro α2 s2 σ2 H2 Hh r2 x2 sup
   obtain ⟨g1,_⟩:=Jl x2 hb h2 h3 sup
   exact ⟨vs,SqT.of g1,by rw[h3.len];exact Nat.le_refl _⟩
 ·cases e
def upTo (lo:Int):Nat->List D
 | 0=>[]
 | n+1=>.int lo::upTo (lo+1) n
theorem Cr (lo:Int):∀ n,(upTo lo n).length=n:=by
 intro n
 induction n generalizing lo with
 | zero=>rfl
 | succ n ih=>unfold upTo;rw[List.length_cons,ih]
theorem Nk (lo:Int):∀ (n i:Nat),i<n->(upTo lo n)[i]?=some (.int (lo+i)):=by
 intro n
 induction n generalizing lo with
 | zero=>intro i h;exact absurd h (Nat.not_lt_zero _)
 | succ n ih=>
  intro i h
  cases i with
  | zero=>unfold upTo;simp
  | succ i=>
   unfold upTo
   rw[List.getElem?_cons_succ,ih (lo+1) i (Nat.lt_of_succ_lt_succ h)]
   congr 2
   lia
theorem RG {α0:Nat->Addr} {Γ0:Gm} {H0:Hp} (lo:Int) (n:Nat):DIt f (Itr lo n) (upTo lo n) α0 Γ0 H0:=by
 refine ⟨fun i _ _ _ _ _ hi _ _ _=>by rw[Cr] at hi;exact hi,fun i d y α2 s2 σ2 H2 Hh H3 hd r2 x2 sup yl=>?_,fun _ _ _ _ _ _ _ _=>by show n<=(upTo lo n).length;rw[Cr];exact Nat.le_refl _⟩
 obtain ⟨rfl,rfl⟩:=yl
 have hi:=(List.getElem?_eq_some_iff.mp hd).1
 rw[Cr] at hi
 rw[Nk lo n i hi] at hd
 cases hd
 exact .inl ⟨rfl,CC⟩
def okR (j:Int):Bool:=decide (j<2 ^ 62/\-(2 ^ 62)<=j)
theorem J5 {j:Int} (h:-1000000<=j) (h2:j<=1000000):okR j=true:=decide_eq_true ⟨by lia,by lia⟩
@[simp] def B3 (ms:MA):MF:=fun s=>(ms s).bind fun r=>match r.1 with
 | [.v (.int j)]=>if okR j=true then some (upTo 0 j.toNat,r.2) else none
 | _=>none
theorem Eo {ms:MA} {p:Pos} (hg:Gl X "range") (hm:X.mg "range"=none) (ha:DA X [a] ms) (hs:starEach [a] X.env=[(false,eval a X.env)]:=by rfl):DI X tg (.Call (.Name "range" p) [a] [] pos) (B3 ms):=.mk fun f hf=>PI.imp (R0 hg hm (ha f hf) hs) fun σ H R hh_=>by
 obtain ⟨α,s,r,rs,lo,e,q⟩:=hh_
 obtain ⟨⟨x,s1⟩,h1,e⟩:=bind_some e
 simp only at e
 split at e
 ·rename_i j
  split at e
  ·rename_i hj
   cases e
   refine ⟨α,s,_,rs,lo,h1,fun α' vs H' rs' l' x' hv=>?_⟩
   obtain ⟨v,r,rfl,h2,h3⟩:=hv.cons_inv
   rw[h3.nil_inv,BL h2]
   have hj:=of_decide_eq_true hj
   exact ⟨j,rfl,hj.2,hj.1,q _ α' H' rs' l' x' (RG 0 _)⟩
  ·cases e
 ·cases e
@[simp] def DJ (mo me:ME):ME:=fun s=>(mo s).bind fun x=>match x.1 with
 | .b n=>match x.2.Γ[n]? with
  | some (some _)=>(me x.2).bind fun y=>match y.1 with
   | .v d=>match y.2.Γ[n]? with
    | some (some xs)=>if xs.length<big then some (.v .non,{y.2 with Γ:=y.2.Γ.set n (some (xs++[d]))}) else none
    | _=>none
   | _=>none
  | _=>none
 | _=>none
theorem Sk {mo me:ME} {Q:VK} (hf:f.K=X.K) (h:tD f (DJ mo me) σ H Q):tBM X.K "list" NQ (tD f mo) (NC (tD f me) Lp) σ H Q:=by
 obtain ⟨α,s,r,rs,lo,e,q⟩:=h
 obtain ⟨⟨x,s1⟩,h1,e⟩:=bind_some e
 simp only at e
 split at e
 case h_2=>cases e
 rename_i n
 split at e
 case h_2=>cases e
 rename_i ys hys
 obtain ⟨⟨y,s2⟩,h2,e⟩:=bind_some e
 simp only at e
 split at e
 case h_2=>cases e
 rename_i d
 split at e
 case h_2=>cases e
 rename_i xs hxs
 split at e
 case isFalse=>cases e
 rename_i hz
 cases e
 refine ⟨α,s,_,rs,lo,h1,fun α1 u H1 rs1 l1 x1 hu=>?_⟩
 obtain ⟨us,g1,g2⟩:=rs1.box n ys hys
 refine ⟨?_,α1,s1,_,rs1,lo_le lo l1 x1,h2,fun α2 v H2 rs2 l2 x2 hv=>?_⟩
 ·rw[hu.2]
  exact .inl ⟨rfl,us,SqL.of g1⟩
 ·have hn:n<s1.Γ.length:=hu.1
  obtain ⟨ws,g3,g4⟩:=rs2.box n xs hxs
  refine ⟨α2 n,ws,v,by rw[hu.2,x2.al n hn],rfl,g3,by rw[g4.len];exact Ev.Lv (Nat.le_of_lt hz),?_⟩
  exact q α2 .non _ (rs2.put hxs (g4.append (.cons hv .nil))) (l2.trans l1) ((x1.trans x2).trans (.put hxs)) (show RepV f α2 _ _ (.v .non) .non from Sq)
end
section
variable {X:Cx} {f:Fr} {α:Nat->Addr} {s:DS} {σ:St} {H:Hp} {K:PySem.W.Frag} {a b c e:Expr} {ma mb mc:ME} {pos p cp apos:Pos} {es:List Expr} {ms:MA}
theorem Az (ha:DE X a ma) (hb:DE X b mb):DE X (.BinOp a .Add b pos) (mOp AV ma mb):=EF VJ VG ha hb
theorem FP (ha:DE X a ma) (hb:DE X b mb):DE X (.BinOp a .Sub b pos) (mOp Df ma mb):=EF T5 Ou ha hb
theorem DN (ha:DE X a ma) (hb:DE X b mb):DE X (.BinOp a .Mult b pos) (mOp Bf ma mb):=EF OP P4 ha hb
theorem EX (ha:DE X a ma) (hb:DE X b mb):DE X (.BinOp a .FloorDiv b pos) (mOp CA ma mb):=EF Sg QM ha hb
theorem Bv (ha:DE X a ma) (hb:DE X b mb):DE X (.BinOp a .Mod b pos) (mOp BD ma mb):=EF Ti Tw ha hb
theorem Kp (ha:DE X a ma) (hb:DE X b mb):DE X (.BinOp a .Pow b pos) (mOp Dl ma mb):=EF QQ Ph ha hb
theorem Dj (ha:DE X a ma) (hb:DE X b mb):DF X (.BinOp a .Add b pos) (BE A9 ma mb):=KA LO RB ha hb
theorem D7 (ha:DE X a ma) (hb:DE X b mb):DT X (.Compare a [.Gt] [b] pos) (AE (mOp gGt ma mb)):=DU UT JI ha hb (D8 _)
theorem TN (ha:DE X a ma) (hb:DE X b mb):DT X (.Compare a [.GtE] [b] pos) (AE (mOp gGe ma mb)):=DU Sh JI ha hb (D8 _)
theorem BO (ha:DE X a ma) (hb:DE X b mb) (hs:Jw b:=by exact fun _ _=>rfl):DE X (.Subscript a b pos) (mOp gIx ma mb):=SS VN TF ha hb hs
open Ev (Nm)
variable {mg:Str->Option Value}
theorem Bb (T:Nm X.mg) (ha:DA X (e::es) ms) (hg:Gl X "len":=by rfl) (he:starEach (e::es) X.env=(false,eval e X.env)::starEach es X.env:=by rfl) (hpl:(backTo pos (starEach es X.env)).any (·.1)=false:=by rfl):DE X (.Call (.Name "len" p) (e::es) [] pos) (AO Ag ms):=
 Fp P3 A4 hg T.len PySem.boot_len ha (by decide) (by decide) he hpl
theorem Tc (T:Nm X.mg) (ha:DA X (e::es) ms) (hc:X.calm=true:=by rfl) (hg:Gl X "max":=by rfl) (he:starEach (e::es) X.env=(false,eval e X.env)::starEach es X.env:=by rfl) (hpl:(backTo pos (starEach es X.env)).any (·.1)=false:=by rfl):DE X (.Call (.Name "max" p) (e::es) [] pos) (AO Ed ms):=
 Fp (PM hc) Qx hg T.max PyProof.Rows.boot_max ha (by decide) (by decide) he hpl
theorem Tv (T:Nm X.mg) (ha:DA X (e::es) ms) (hc:X.calm=true:=by rfl) (hg:Gl X "min":=by rfl) (he:starEach (e::es) X.env=(false,eval e X.env)::starEach es X.env:=by rfl) (hpl:(backTo pos (starEach es X.env)).any (·.1)=false:=by rfl):DE X (.Call (.Name "min" p) (e::es) [] pos) (AO Ef ms):=
 Fp (QG hc) TR hg T.min PyProof.Rows.boot_min ha (by decide) (by decide) he hpl
theorem Ob (T:Nm X.mg) (ha:DA X (e::es) ms) (hg:Gl X "int":=by rfl) (he:starEach (e::es) X.env=(false,eval e X.env)::starEach es X.env:=by rfl) (hpl:(backTo pos (starEach es X.env)).any (·.1)=false:=by rfl):DE X (.Call (.Name "int" p) (e::es) [] pos) (AO EA ms):=
 GL ML VX hg T.int PyProof.Rows.boot_int ha (by decide) (by decide) he hpl
theorem HP {o:Expr} {mo me:ME} (ho:DE X o mo) (he:DE X e me) (hbase:attributeBase o "append" X.env (eval o X.env)=eval o X.env:=by rfl)
  (hfew:((backTo cp (starEach [e] X.env)).all (fun x=>!x.1) && (backToKw cp (keywordEach [] X.env)).all (fun x=>x.1.isSome)
   && decide ([e].length+([]:List Keyword).length+(if ([]:List Keyword).isEmpty then 0 else 1)<30))=true:=by rfl)
  (hline:(apos.endLine == cp.line)=true:=by rfl) (hs:starEach [e] X.env=(false,eval e X.env)::starEach [] X.env:=by rfl):DE X (.Call (.Attribute o "append" apos) [e] [] cp) (DJ mo me):=.mk fun f hf=>
 PE.imp (OS PySem.F.plainAttrs_list PySem.F.slot_list_append PySem.F.type_list_append NM (ho f hf) (BP (he f hf) B4 hs) hbase hfew hline hs rfl) fun σ H Q h=>Sk hf h
@[simp] def MW (mo:ME):ME:=fun s=>(mo s).bind fun x=>match x.1 with
 | .b n=>match x.2.Γ[n]? with
  | some (some xs)=>(xs[xs.length - 1]?).map fun d=>(.v d,{x.2 with Γ:=x.2.Γ.set n (some xs.dropLast)})
  | _=>none
 | _=>none
theorem Rh {W:Wd} {xs:List D} {vs:List V} (h:Reps W xs vs):Reps W xs.dropLast vs.dropLast:=by
 rw[List.dropLast_eq_take,List.dropLast_eq_take,h.len]
 exact h.take _
theorem Tp {o:Expr} {mo:ME} (ho:DE X o mo) (hbase:attributeBase o "pop" X.env (eval o X.env)=eval o X.env:=by rfl) (hline:(apos.endLine == cp.line)=true:=by rfl):DE X (.Call (.Attribute o "pop" apos) [] [] cp) (MW mo):=.mk fun f hf=>
 PE.imp (Pi PySem.F.plainAttrs_list PySem.F.slot_list_pop PySem.F.type_list_pop SR (ho f hf) hbase hline) fun σ H Q hh_=>by
  obtain ⟨α,s,r,rs,lo,e,q⟩:=hh_
  obtain ⟨⟨x,s1⟩,h1,e⟩:=bind_some e
  simp only at e
  split at e
  case h_2=>cases e
  rename_i n
  split at e
  case h_2=>cases e
  rename_i xs hxs
  obtain ⟨d,hd,rfl⟩:=Ah e
  refine ⟨α,s,_,rs,lo,h1,fun α1 u H1 rs1 l1 x1 hu=>?_⟩
  obtain ⟨us,g1,g2⟩:=rs1.box n xs hxs
  obtain ⟨v,w1,w2⟩:=g2.get hd
  rw[hu.2]
  refine ⟨.inl ⟨rfl,us,SqL.of g1⟩,α1 n,us,v,rfl,rfl,g1,by rw[g2.len];exact w1,?_⟩
  exact q α1 v _ (rs1.put hxs (Rh g2)) l1 (x1.trans (.put hxs)) (w2.kw (Ext.put hxs).kw)
end
@[simp] def CW (mo mi me:ME):MS:=fun s=>(me s).bind fun z=>match z.1 with
 | .v d=>(mo z.2).bind fun x=>match x.1 with
  | .b n=>(mi x.2).bind fun y=>match y.1 with
   | .v (.int k)=>match y.2.Γ[n]? with
    | some (some xs)=>(ixN xs.length k).map fun j=>.nx {y.2 with Γ:=y.2.Γ.set n (some (xs.set j d))}
    | _=>none
   | _=>none
  | _=>none
 | _=>none
section
variable {X:Cx} {f:Fr} {α:Nat->Addr} {s:DS} {σ:St} {H:Hp} {o i e:Expr} {mo mi me:ME} {pos p:Pos}
theorem Gd (ho:DE X o mo) (hi:DE X i mi) (he:DE X e me) (hs:swapsWithSole [.Subscript o i p] e pos.line X.env=pure false:=by rfl) (hw:swappedStores [.Subscript o i p] e X.env=pure none:=by rfl)
  (h1:(assignEach [.Subscript o i p] X.env).map (·.2)=[assign (.Subscript o i p) X.env]:=by rfl) (hsub:∀ t,PG X (.Subscript o i p) t->PG X (.Subscript o i p) t:=by exact fun _ h=>h) (hpg:∀ to ti t,PE X o to->PE X i ti->IF X t->PG X (.Subscript o i p) (Nt to ti t):=by exact fun to ti t h1 h2 h3=>VY h1 h2 h3):DSt X (.Assign [.Subscript o i p] e pos) (CW mo mi me):=.mk fun f hf=>
 PS.imp (N4 (he f hf) (hpg _ _ _ (ho f hf) (hi f hf) set_list) hs hw h1) fun E σ H hh_=>by
  obtain ⟨α,s,out,rs,lo,e0,q⟩:=hh_
  obtain ⟨⟨z,s1⟩,h1,e0⟩:=bind_some e0
  simp only at e0
  split at e0
  case h_2=>cases e0
  rename_i d
  obtain ⟨⟨x,s2⟩,h2,e0⟩:=bind_some e0
  simp only at e0
  split at e0
  case h_2=>cases e0
  rename_i n
  obtain ⟨⟨y,s3⟩,h3,e0⟩:=bind_some e0
  simp only at e0
  split at e0
  case h_2=>cases e0
  rename_i k
  split at e0
  case h_2=>cases e0
  rename_i xs hxs
  obtain ⟨j,hj,rfl⟩:=Ah e0
  refine ⟨α,s,_,rs,lo,h1,fun α1 v H1 rs1 l1 x1 hv=>⟨α1,s1,_,rs1,lo_le lo l1 x1,h2,fun α2 u H2 rs2 l2 x2 hu=>⟨α2,s2,_,rs2,lo_le (lo_le lo l1 x1) l2 x2,h3,fun α3 w H3 rs3 l3 x3 hw=>?_⟩⟩⟩
  obtain ⟨us,g1,g2⟩:=rs3.box n xs hxs
  refine ⟨α3 n,us,k,j,by rw[hu.2,x3.al n hu.1],BL hw,g1,by rw[g2.len];exact hj,?_⟩
  exact q α3 σ _ (rs3.put hxs (Reps.set (Rep.kw (x2.trans x3).kw (show Rep _ d v from hv)) j g2)) (l3.trans (l2.trans l1)) (((x1.trans x2).trans x3).trans (.put hxs))
end
def emp:DS:=⟨[],[],0⟩
@[simp] def scalar:D->Bool
 | .non=>true | .bl _=>true | .int _=>true | .str _=>true | _=>false
def spQ (K:PySem.W.Frag) (np:Nat) (M:List D->Option D):Sp:=fun vs H Q _=>∃ (ds:List D) (r:D),ds.length=np/\Reps ⟨K,fun _=>False,H⟩ ds vs/\M ds=some r/\scalar r=true/\∀ v H',(∀ b o,H b=some o->H' b=some o)->Rep ⟨K,fun _=>False,H'⟩ r v->Q v H'
def frQ (K:PySem.W.Frag) (H:Hp):Fr:=⟨K,H,fun _=>False,fun _=>False,fun _ h=>h,fun _ h=>h.elim⟩
section
variable {P:Program} {w:World} {K:PySem.W.Frag} {mg:Str->Option Value} {base:Heap} {X:Cx} {pos:Pos}
theorem K7 {f:Fr} {α:Nat->Addr} {Γ:Gm} {H:Hp}:∀ {ds:List D} {vs:List V},Reps (wd f α Γ H) ds vs->RepVs f α Γ H (ds.map .v) vs
 | [],vs,h=>by rw[h.nil_inv];exact .nil
 | d::ds,vs,h=>by
  obtain ⟨v,r,rfl,h1,h2⟩:=h.cons_inv
  exact .cons h1 (K7 h2)
theorem Kj {H:Hp}:RS (frQ K H) (fun _=>0) emp [] H where
 len:=rfl
 slot:=fun i d h=>by cases h
 box:=fun n xs h=>by cases h
 own:=fun n xs h=>by cases h
 inj:=fun n m xs ys h=>by cases h
 fr:=fun b o h _=>h
 forb:=fun a h=>h.elim
theorem Oc {fa:Addr} {fd:FuncData} {ps:List Str} {k np:Nat} {M:MD} {M':List D->Option D} (F:FnOk P w K mg base CX0 k fa fd ps (spD K np M)) (h:∀ ds r,ds.length=np->M' ds=some r->scalar r=true->∃ Γ,M (ds.map .v) []=some (r,Γ)):FnOk P w K mg base CX0 k fa fd ps (spQ K np M'):=
 F.imp fun vs H Q E hh_=>by
  obtain ⟨ds,r,a1,a2,a3,a4,a5⟩:=hh_
  obtain ⟨Γ,e⟩:=h ds r a1 a3 a4
  have kw:Kw ⟨K,fun _=>False,H⟩ (wd (frQ K H) (fun _=>0) [] H):=⟨rfl,fun a o _ e=>⟨e,fun z=>by
   rcases z with z | ⟨n,xs,z,_⟩
   ·exact z
   ·cases z⟩⟩
  refine ⟨frQ K H,fun _=>0,emp,[],ds.map .v,(r,Γ),rfl,by rw[List.length_map];exact a1,Kj,K7 (a2.kw kw),e,fun α' v H' rs' x' hv=>a5 v H' (fun b o e=>rs'.fr b o e fun z=>z) ?_⟩
  have kw2:Kw (wd (frQ K H) α' Γ H') ⟨K,fun _=>False,H'⟩:=⟨rfl,fun a o _ e=>⟨e,fun z=>z⟩⟩
  exact Rep.kw kw2 hv
@[simp] def dOf (Γ:Gm):SV->Option D
 | .v d=>some d
 | .b n=>((Γ[n]?).join).map .lst
 | .p n d=>((Γ[n]?).join).map fun xs=>.tup [.lst xs,d]
@[simp] def HJ (Γ:Gm):List SV->Option (List D)
 | []=>some []
 | x::r=>(dOf Γ x).bind fun d=>(HJ Γ r).map (d::·)
theorem join_some {o:Option (Option (List D))} {xs:List D} (h:o.join=some xs):o=some (some xs):=by
 cases o with
 | none=>cases h
 | some o=>exact congrArg some h
theorem P7 {f:Fr} {α:Nat->Addr} {s:DS} {σ:St} {H:Hp} (rs:RS f α s σ H) {x:SV} {d:D} {v:V} (h:dOf s.Γ x=some d) (r:RepV f α s.Γ H x v):Rep ⟨f.K,fun _=>False,H⟩ d v:=by
 have kw:Kw (wd f α s.Γ H) ⟨f.K,fun _=>False,H⟩:=⟨rfl,fun a o _ e=>⟨e,fun z=>z⟩⟩
 cases x with
 | v d=>cases h;exact Rep.kw kw (show Rep _ d v from r)
 | b n=>
  obtain ⟨xs,h1,rfl⟩:=Ah h
  obtain ⟨vs,h2,h3⟩:=rs.box n xs (join_some h1)
  rw[r.2]
  unfold Rep
  exact ⟨α n,vs,rfl,fun z=>z,h2,h3.kw kw⟩
 | p n d=>
  obtain ⟨xs,h1,rfl⟩:=Ah h
  obtain ⟨vs,h2,h3⟩:=rs.box n xs (join_some h1)
  obtain ⟨h0,a,w,rfl,_,h4,h5⟩:=r
  unfold Rep
  refine ⟨a,_,rfl,fun z=>z,h4,.cons ?_ (.cons (h5.kw kw) .nil)⟩
  unfold Rep
  exact ⟨α n,vs,rfl,fun z=>z,h2,h3.kw kw⟩
theorem Km {f:Fr} {α:Nat->Addr} {s:DS} {σ:St} {H:Hp} (rs:RS f α s σ H):∀ {xs:List SV} {ds:List D} {vs:List V},HJ s.Γ xs=some ds->RepVs f α s.Γ H xs vs->Reps ⟨f.K,fun _=>False,H⟩ ds vs
 | [],ds,vs,h,r=>by cases h;rw[r.nil_inv];exact .nil
 | x::xs,ds,vs,h,r=>by
  obtain ⟨d,h1,h⟩:=bind_some h
  obtain ⟨es,h2,rfl⟩:=Ah h
  obtain ⟨v,q,rfl,h3,h4⟩:=r.cons_inv
  exact .cons (P7 rs h1 h3) (Km rs h2 h4)
theorem KB:∀ {Γ:Gm} {xs:List SV} {ds:List D},HJ Γ xs=some ds->ds.length=xs.length
 | Γ,[],ds,h=>by cases h;rfl
 | Γ,x::xs,ds,h=>by
  obtain ⟨d,h1,h⟩:=bind_some h
  obtain ⟨es,h2,rfl⟩:=Ah h
  rw[List.length_cons,List.length_cons,KB h2]
@[simp] def Ce (M:List D->Option D) (ms:MA):ME:=fun s=>(ms s).bind fun x=>(HJ x.2.Γ x.1).bind fun ds=>(M ds).bind fun r=>if scalar r=true then some (.v r,x.2) else none
theorem Sj {W W':Wd} {r:D} {v:V} (h:scalar r=true) (hv:Rep W r v):Rep W' r v:=by
 cases r with
 | non=>unfold Rep at *;exact hv
 | bl b=>unfold Rep at *;exact hv
 | int i=>unfold Rep at *;exact hv
 | str x=>unfold Rep at *;exact hv
 | lst xs=>cases h
 | tup xs=>cases h
 | scr xs=>cases h
 | dic ks xs=>cases h
theorem KW {x:Str} {p:Pos} {e:Expr} {es:List Expr} {fa:Addr} {fd:FuncData} {ps:List Str} {k np:Nat} {M:List D->Option D} {ms:MA} (F:FnOk X.prog X.w X.K X.mg X.base CX0 k fa fd ps (spQ X.K np M)) (hr:Room k X.A) (hg:Gl X x) (hm:X.mg x=some (.ref fa)) (hk:PySem.W.keepIn X.K (.ref fa)=true) (hb:Binds X.K fd ps [])
  (ha:DA X (e::es) ms) (hn:Ar ms np) (hdb:(x == ("__debug__":Str))=false:=by decide) (he:starEach (e::es) X.env=(false,eval e X.env)::starEach es X.env:=by rfl) (hpl:(backTo pos (starEach es X.env)).any (·.1)=false:=by rfl) :
  DE X (.Call (.Name x p) (e::es) [] pos) (Ce M ms):=.mk fun f hf=>PE.imp (HQ F hr hg hm hk hb .nil Ji (ha f hf) hdb he hpl) fun σ H Q hh_=>by
 obtain ⟨α,s,r,rs,lo,e0,q⟩:=hh_
 obtain ⟨y,h1,e0⟩:=bind_some e0
 obtain ⟨ds,h2,e0⟩:=bind_some e0
 obtain ⟨z,h3,e0⟩:=bind_some e0
 split at e0
 case isFalse=>cases e0
 rename_i hz
 cases e0
 refine ⟨α,s,y,rs,lo,h1,fun α1 vs H1 rs1 l1 x1 hv=>?_⟩
 dsimp only
 rw[List.append_nil]
 refine ⟨ds,z,by rw[KB h2];exact hn _ _ h1,by rw[<-hf];exact Km rs1 h2 hv,h3,hz,fun v H2 sm hw=>?_⟩
 have e2:Ext f α1 α1 y.2.Γ y.2.Γ H1 H2:=⟨⟨rfl,fun a o n e=>⟨sm a o e,n⟩⟩,Nat.le_refl _,fun _ _=>rfl,fun _ xs _ e=>⟨xs,e⟩⟩
 exact q α1 v H2 (rs1.mv e2 sm) l1 (x1.trans e2) (Sj hz hw)
end
abbrev MP:=DS->Option ((List D×D)×DS)
def tDP (f:Fr) (m:MP):TE:=fun σ H Q=>∃ α s r,RS f α s σ H/\s.lo<=s.Γ.length/\m s=some r/\∀ α' a t vs w H',RS f α' r.2 σ H'->r.2.lo=s.lo->Ext f α α' s.Γ r.2.Γ H H'->H' a=none->Reps (wd f α' r.2.Γ H') r.1.1 vs->Rep (wd f α' r.2.Γ H') r.1.2 w->H' t=none->t≠a->Q (.ref t) (upd (upd H' a (.lst vs)) t (.tup [.ref a,w]))
structure DP (X:Cx) (e:Expr) (m:MP):Prop where
 h:∀ f:Fr,f.K=X.K->PE X e (tDP f m)
instance {X:Cx} {e:Expr} {m:MP}:CoeFun (DP X e m) fun _=>∀ f:Fr,f.K=X.K->PE X e (tDP f m):=⟨DP.h⟩
section
variable {P:Program} {w:World} {K:PySem.W.Frag} {mg:Str->Option Value} {base:Heap} {f:Fr} {α α':Nat->Addr} {s s':DS} {σ σ':St} {H H':Hp} {X:Cx} {pos:Pos} {e:Expr}
end
section
variable {X:Cx} {f:Fr} {α:Nat->Addr} {s:DS} {σ:St} {H:Hp} {K:PySem.W.Frag} {a b c e:Expr} {ma mb mc:ME} {pos p p2 cp apos:Pos} {es:List Expr} {ms:MA} {lo hi:Option Expr} {ml mh:Option ME}
abbrev MO:=DS->Option (Option Int×DS)
@[simp] def BW (o:Option ME):MO:=fun s=>match o with
 | none=>some (none,s)
 | some m=>(m s).bind fun x=>match x.1 with
  | .v (.int i)=>some (some i,x.2)
  | _=>none
def tDO (f:Fr) (m:MO):TO:=fun σ H Q=>∃ α s r,RS f α s σ H/\s.lo<=s.Γ.length/\m s=some r/\∀ α' H',RS f α' r.2 σ H'->r.2.lo=s.lo->Ext f α α' s.Γ r.2.Γ H H'->Q r.1 H'
structure DO (X:Cx) (e:Option Expr) (m:Option ME):Prop where
 h:∀ f:Fr,f.K=X.K->PO X e (tDO f (BW m))
instance {X:Cx} {e:Option Expr} {m:Option ME}:CoeFun (DO X e m) fun _=>∀ f:Fr,f.K=X.K->PO X e (tDO f (BW m)):=⟨DO.h⟩
theorem PO.imp {o:Option Expr} {t t':TO} (h:PO X o t) (k:∀ σ H Q,t' σ H Q->t σ H Q):PO X o t':=fun pins s σ H Q I q=>h pins s σ H Q I (k _ _ _ q)
theorem Bk:DO X none none:=.mk fun f hf=>PO.imp N9 fun σ H Q hh_=>by
 obtain ⟨α,s,r,rs,lo,e0,q⟩:=hh_
 cases e0
 exact q α H rs rfl .refl
theorem BV (h:DE X e ma):DO X (some e) (some ma):=.mk fun f hf=>PO.imp (Ud (h f hf)) fun σ H Q hh_=>by
 obtain ⟨α,s,r,rs,lo,e0,q⟩:=hh_
 obtain ⟨⟨x,s1⟩,h1,e0⟩:=bind_some (show (ma s).bind _=some r from e0)
 simp only at e0
 split at e0
 ·rename_i i
  cases e0
  exact ⟨α,s,_,rs,lo,h1,fun α' v H' rs' l' x' hv=>⟨i,BL hv,q α' H' rs' l' x'⟩⟩
 ·cases e0
def BH (z:Str) (l u:Option Int):Str:=if ((Builtin.Str.strSliceIndices l u 1 z.length).length == z.length)=true then z else ⟨((Builtin.Str.strSliceIndices l u 1 z.length).filterMap (z.cps[·]?)).toArray⟩
theorem Jd (z:Str) (l u:Option Int):(BH z l u).length<=z.length:=by
 unfold BH
 split
 ·exact Nat.le_refl _
 ·show ((Builtin.Str.strSliceIndices l u 1 z.length).filterMap (z.cps[·]?)).toArray.size<=z.length
  rw[List.size_toArray]
  exact Nat.le_trans (List.length_filterMap_le _ _) (PyProof.Rows.indices_len_le _ _ z.length)
def To:V->Option Int->Option Int->Hp->VK->Prop:=fun x l u H Q=>∃ z,x=.str z/\z.length<=sizeLine/\Q (.str (BH z l u)) H
theorem MJ {v:Value} {o:Option Int} (h:IsPart v o):∃ l:Option (Int×Tok),v=partValue l/\l.map (·.1)=o:=by
 cases h with
 | none=>exact ⟨none,rfl,rfl⟩
 | int i t=>exact ⟨some (i,t),rfl,rfl⟩
theorem Ua:SlR X To:=by
 intro pins s σ H x v vl vu lo hi sl Q I rx hs pl pu h
 obtain ⟨z,rfl,hz,q⟩:=h
 obtain ⟨t,rfl⟩:=rx
 obtain ⟨l,rfl,hl⟩:=MJ pl
 obtain ⟨u,rfl,hu⟩:=MJ pu
 obtain ⟨o,ho,hc,hd⟩:=hs
 refine ⟨"str",_,F.slot_str_getitem.lookup,typeIs_str s z t,wpAny_getItem_str_slice (l:=l) (u:=u) (st:=none) ⟨o,ho,hc,hd⟩ rfl ?_⟩
 unfold sliceMade
 have e1:slicePicked z l u none=Builtin.Str.strSliceIndices lo hi 1 z.length:=by unfold slicePicked;rw[hl,hu];rfl
 rw[e1]
 have e2:BH z lo hi=if ((Builtin.Str.strSliceIndices lo hi 1 z.length).length == z.length)=true then z else ⟨((Builtin.Str.strSliceIndices lo hi 1 z.length).filterMap (z.cps[·]?)).toArray⟩:=rfl
 rw[e2] at q
 by_cases c:((Builtin.Str.strSliceIndices lo hi 1 z.length).length == z.length)=true
 ·rw[if_pos c] at q
  rw[if_pos (by simpa using c)]
  exact ⟨.str z,H,I,⟨_,rfl⟩,q⟩
 ·rw[if_neg c] at q
  rw[if_neg (by simpa using c)]
  refine ⟨?_,.str _,H,I.tok _,⟨_,rfl⟩,q⟩
  have:=Jd z lo hi
  rw[e2,if_neg c] at this
  exact Nat.le_trans this hz
def cutD (xs:List D) (l u:Option Int):List D:=(xs.drop (HT.sIx xs.length 0 l)).take (HT.sIx xs.length xs.length u - HT.sIx xs.length 0 l)
theorem LJ {W:Wd} {xs:List D} {vs:List V} (h:Reps W xs vs) (l u:Option Int):Reps W (cutD xs l u) (Ee vs l u):=by
 unfold cutD Ee
 rw[h.len]
 exact (h.drop _).take _
@[simp] def gSl (Γ:Gm) (x:SV) (l u:Option Int):Option D:=match x with
 | .v (.str z)=>if z.length<=big then some (.str (BH z l u)) else none
 | x=>(elems Γ x).map fun xs=>.lst (cutD xs l u)
@[simp] def mSl (m:ME) (l u:Option ME):ME:=fun s=>(m s).bind fun x=>(BW l x.2).bind fun y=>(BW u y.2).bind fun z=>(gSl z.2.Γ x.1 y.1 z.1).map fun d=>(.v d,z.2)
@[simp] def FC (m:ME) (l u:Option ME):MF:=fun s=>(m s).bind fun x=>(BW l x.2).bind fun y=>(BW u y.2).bind fun z=>(elems z.2.Γ x.1).map fun xs=>(cutD xs y.1 z.1,z.2)
theorem Bc (ha:DE X a ma) (hl:DO X lo ml) (hh:DO X hi mh):DE X (.Subscript a (.Slice lo hi none p2) pos) (mSl ma ml mh):=.mk fun f hf=>
 PE.imp (LZ (sl_list.or Ua) (ha f hf) (hl f hf) (hh f hf)) fun σ H Q hh_=>by
  obtain ⟨α,s,r,rs,lo,e0,q⟩:=hh_
  obtain ⟨x,h1,e0⟩:=bind_some e0
  obtain ⟨y,h2,e0⟩:=bind_some e0
  obtain ⟨z,h3,e0⟩:=bind_some e0
  obtain ⟨d,h4,rfl⟩:=Ah e0
  refine ⟨α,s,x,rs,lo,h1,fun α1 v H1 rs1 l1 x1 hv=>⟨α1,x.2,y,rs1,lo_le lo l1 x1,h2,fun α2 H2 rs2 l2 x2=>⟨α2,y.2,z,rs2,lo_le (lo_le lo l1 x1) l2 x2,h3,fun α3 H3 rs3 l3 x3=>?_⟩⟩⟩
  have hv3:=(hv.ext x2).ext x3
  unfold gSl at h4
  split at h4
  ·rename_i str hs
   split at h4
   case isFalse=>cases h4
   rename_i hz
   cases h4
   rw[hs] at hv3
   exact .inr ⟨str,BX hv3,CQ hz,q α3 _ H3 rs3 (l3.trans (l2.trans l1)) ((x1.trans x2).trans x3) (by show Rep (wd f α3 z.2.Γ H3) (.str _) (.str _);unfold Rep;rfl)⟩
  ·obtain ⟨xs,h5,rfl⟩:=Ah h4
   obtain ⟨p,vs,rfl,g1,g2⟩:=Be rs3 h5 hv3
   exact .inl ⟨p,vs,rfl,SqL.of g1,fun t ht=>q α3 _ _ (rs3.new ht) (l3.trans (l2.trans l1)) (((x1.trans x2).trans x3).trans (.new rs3 ht)) (D6 rs3 ht (LJ g2 _ _))⟩
theorem OX (ha:DE X a ma) (hl:DO X lo ml) (hh:DO X hi mh):DF X (.Subscript a (.Slice lo hi none p2) pos) (FC ma ml mh):=.mk fun f hf=>
 PE.imp (LZ sl_list (ha f hf) (hl f hf) (hh f hf)) fun σ H Q hh_=>by
  obtain ⟨α,s,r,rs,lo,e0,q⟩:=hh_
  obtain ⟨x,h1,e0⟩:=bind_some e0
  obtain ⟨y,h2,e0⟩:=bind_some e0
  obtain ⟨z,h3,e0⟩:=bind_some e0
  obtain ⟨xs,h5,rfl⟩:=Ah e0
  refine ⟨α,s,x,rs,lo,h1,fun α1 v H1 rs1 l1 x1 hv=>⟨α1,x.2,y,rs1,lo_le lo l1 x1,h2,fun α2 H2 rs2 l2 x2=>⟨α2,y.2,z,rs2,lo_le (lo_le lo l1 x1) l2 x2,h3,fun α3 H3 rs3 l3 x3=>?_⟩⟩⟩
  obtain ⟨p,vs,rfl,g1,g2⟩:=Be rs3 h5 ((hv.ext x2).ext x3)
  exact ⟨p,vs,rfl,SqL.of g1,fun t ht=>q α3 t _ H3 rs3 (l3.trans (l2.trans l1)) ((x1.trans x2).trans x3) ht (LJ g2 _ _)⟩
@[simp] def GC (m:ME):MF:=fun s=>(m s).bind fun x=>(elems x.2.Γ x.1).map fun xs=>(xs.reverse,x.2)
theorem QB {i} {p3:Pos} (ha:DE X a ma):DF X (.Subscript a (.Slice none none (some (.UnaryOp .USub (.Constant (.int 1) i p3) p2)) p) pos) (GC ma):=.mk fun f hf=>
 PE.imp (Tn (ha f hf) (MN Nl Jp)) fun σ H Q hh_=>by
  obtain ⟨α,s,r,rs,lo,e0,q⟩:=hh_
  obtain ⟨x,h1,e0⟩:=bind_some e0
  obtain ⟨xs,h2,rfl⟩:=Ah e0
  refine ⟨α,s,x,rs,lo,h1,fun α1 v H1 rs1 l1 x1 hv=>?_⟩
  obtain ⟨p,vs,rfl,g1,g2⟩:=Be rs1 h2 hv
  exact ⟨1,rfl,p,vs,rfl,rfl,SqL.of g1,fun t ht=>q α1 t _ H1 rs1 l1 x1 ht g2.reverse⟩
end
end DL
namespace DL
open PySem L2
open Ev (Nm)
section
variable {X:Cx} {f:Fr} {α:Nat->Addr} {s:DS} {σ:St} {H:Hp} {K:PySem.W.Frag} {a b c e o tg:Expr} {ma mb mc mo me:ME} {pos p p2 cp apos tp:Pos} {es:List Expr} {ms:MA}
@[simp] def tyD:SV->String
 | .v .non=>"NoneType" | .v (.bl _)=>"bool" | .v (.int _)=>"int" | .v (.str _)=>"str" | .v (.lst _)=>"list" | .v (.tup _)=>"tuple" | .v (.scr _)=>"list" | .v (.dic _ _)=>"dict" | .b _=>"list" | .p _ _=>"tuple"
theorem Ub {x:SV} {v:V} (rs:RS f α s σ H) (h:RepV f α s.Γ H x v) (hl:∀ n,x=.b n->∃ xs,s.Γ[n]?=some (some xs)) (hs:∀ ns,x≠.v (.scr ns)):TyOf f.K H v (.type (tyD x)):=by
 cases x with
 | v d=>
  cases d with
  | non=>rw[ED h];exact .non
  | bl b=>rw[Gq h];exact .bl b
  | int i=>rw[BL h];exact .int i
  | str z=>rw[BX h];exact .str z
  | lst xs=>
   have h:Rep (wd f α s.Γ H) (.lst xs) v:=h
   unfold Rep at h
   obtain ⟨a,vs,rfl,_,h1,_⟩:=h
   exact .lst h1
  | tup xs=>
   obtain ⟨a,vs,rfl,h1,_⟩:=JJ h
   exact .tup h1
  | scr ns=>exact absurd rfl (hs ns)
  | dic ks xs=>
   have h:Rep (wd f α s.Γ H) (.dic ks xs) v:=h
   unfold Rep at h
   obtain ⟨a,vs,rfl,_,h1,_⟩:=h
   exact .dK h1
 | b n=>
  obtain ⟨xs,hx⟩:=hl n rfl
  obtain ⟨vs,h1,_⟩:=rs.box n xs hx
  rw[h.2]
  exact .lst h1
 | p n d=>
  obtain ⟨_,a,w,rfl,_,h1,_⟩:=h
  exact .tup h1
@[simp] def HF (Γ:Gm):SV->Bool
 | .b n=>(Γ[n]?).join.isSome
 | .v (.scr _)=>false
 | _=>true
theorem Mh {Γ:Gm} {x:SV} (h:HF Γ x=true):(∀ n,x=.b n->∃ xs,Γ[n]?=some (some xs))/\∀ ns,x≠.v (.scr ns):=by
 refine ⟨fun n e=>?_,fun ns e=>?_⟩
 ·subst e
  obtain ⟨xs,hx⟩:=Option.isSome_iff_exists.mp (show (Γ[n]?).join.isSome=true from h)
  exact ⟨xs,join_some hx⟩
 ·subst e;cases h
@[simp] def isT (T t:String):Option Bool:=
 if T="bool" then some (t == "bool") else if T="int" then some (t == "int" || t == "bool") else if T="str" then some (t == "str") else if T="list" then some (t == "list") else if T="tuple" then some (t == "tuple") else none
theorem RZ (K:PySem.W.Frag) (x:SV):∀ (T:String) (b:Bool),isT T (tyD x)=some b->PySem.W.kitOne K (.type (tyD x)) (.type T)=some b:=by
 intro T b h
 unfold isT at h
 have all:∀ t∈["NoneType","bool","int","str","list","tuple","dict"],PySem.W.kitOne K (.type t) (.type "bool")=some (t == "bool")/\PySem.W.kitOne K (.type t) (.type "int")=some (t == "int" || t == "bool")/\PySem.W.kitOne K (.type t) (.type "str")=some (t == "str")/\PySem.W.kitOne K (.type t) (.type "list")=some (t == "list")/\PySem.W.kitOne K (.type t) (.type "tuple")=some (t == "tuple"):=by
  intro t ht
  simp only[List.mem_cons,List.not_mem_nil,or_false] at ht
  rcases ht with rfl | rfl | rfl | rfl | rfl | rfl | rfl<;>exact ⟨by kernel_rfl,by kernel_rfl,by kernel_rfl,by kernel_rfl,by kernel_rfl⟩
 have mem:tyD x∈["NoneType","bool","int","str","list","tuple","dict"]:=by
  cases x with
  | v d=>cases d<;>simp[tyD]
  | b n=>simp[tyD]
  | p n d=>simp[tyD]
 obtain ⟨h1,h2,h3,h4,h5⟩:=all _ mem
 split at h
 ·rename_i e;subst e;cases h;exact h1
 ·split at h
  ·rename_i e;subst e;cases h;exact h2
  ·split at h
   ·rename_i e;subst e;cases h;exact h3
   ·split at h
    ·rename_i e;subst e;cases h;exact h4
    ·split at h
     ·rename_i e;subst e;cases h;exact h5
     ·cases h
@[simp] def A0 (T:String) (m:ME):ME:=fun s=>(m s).bind fun x=>if HF x.2.Γ x.1=true then (isT T (tyD x.1)).map fun b=>(.v (.bl b),x.2) else none
theorem FB (T:String) {y:Str} (N:Nm X.mg) (ha:DE X a ma) (hT:PE X (.Name y p2) (tC (.ty T))) (hg:Gl X "isinstance":=by rfl) (he:starEach [a,.Name y p2] X.env=(false,eval a X.env)::starEach [.Name y p2] X.env:=by rfl) (he2:starEach [.Name y p2] X.env=(false,eval (.Name y p2) X.env)::starEach [] X.env:=by rfl) (hpl:(backTo pos (starEach [.Name y p2] X.env)).any (·.1)=false:=by rfl) :
  DE X (.Call (.Name "isinstance" p) [a,.Name y p2] [] pos) (A0 T ma):=.mk fun f hf=>
 PE.imp (ES PH hg N.isi PyProof.Rows.boot_isinstance (BP (ha f hf) (BP hT B4 he2) he) (by decide) (by decide) he hpl) fun σ H Q hh_=>by
  obtain ⟨α,s,r,rs,lo,e0,q⟩:=hh_
  obtain ⟨x,h1,e0⟩:=bind_some e0
  split at e0
  case isFalse=>cases e0
  rename_i hl
  obtain ⟨k,h2,rfl⟩:=Ah e0
  refine ⟨α,s,x,rs,lo,h1,fun α1 v H1 rs1 l1 x1 hv=>?_⟩
  refine ⟨v,T,tyD x.1,k,rfl,?_,RZ X.K x.1 T k h2,q α1 _ H1 rs1 l1 x1 Gb⟩
  rw[<-hf]
  exact Ub rs1 hv (Mh hl).1 (Mh hl).2
theorem Sr (N:Nm X.mg) (ha:DE X a ma) (hg:Gl X "isinstance":=by rfl) (hg2:Gl X "bool":=by rfl) (he:starEach [a,.Name "bool" p2] X.env=(false,eval a X.env)::starEach [.Name "bool" p2] X.env:=by rfl) (he2:starEach [.Name "bool" p2] X.env=(false,eval (.Name "bool" p2) X.env)::starEach [] X.env:=by rfl) (hpl:(backTo pos (starEach [.Name "bool" p2] X.env)).any (·.1)=false:=by rfl):DE X (.Call (.Name "isinstance" p) [a,.Name "bool" p2] [] pos) (A0 "bool" ma):=FB "bool" N ha (Ek (v:=.ty "bool") hg2 N.bool PyProof.Rows.boot_bool rfl) hg he he2 hpl
theorem Va (N:Nm X.mg) (ha:DE X a ma) (hg:Gl X "isinstance":=by rfl) (hg2:Gl X "int":=by rfl) (he:starEach [a,.Name "int" p2] X.env=(false,eval a X.env)::starEach [.Name "int" p2] X.env:=by rfl) (he2:starEach [.Name "int" p2] X.env=(false,eval (.Name "int" p2) X.env)::starEach [] X.env:=by rfl) (hpl:(backTo pos (starEach [.Name "int" p2] X.env)).any (·.1)=false:=by rfl):DE X (.Call (.Name "isinstance" p) [a,.Name "int" p2] [] pos) (A0 "int" ma):=FB "int" N ha (Ek (v:=.ty "int") hg2 N.int PyProof.Rows.boot_int rfl) hg he he2 hpl
theorem E6 (N:Nm X.mg) (ha:DE X a ma) (hg:Gl X "isinstance":=by rfl) (hg2:Gl X "str":=by rfl) (he:starEach [a,.Name "str" p2] X.env=(false,eval a X.env)::starEach [.Name "str" p2] X.env:=by rfl) (he2:starEach [.Name "str" p2] X.env=(false,eval (.Name "str" p2) X.env)::starEach [] X.env:=by rfl) (hpl:(backTo pos (starEach [.Name "str" p2] X.env)).any (·.1)=false:=by rfl):DE X (.Call (.Name "isinstance" p) [a,.Name "str" p2] [] pos) (A0 "str" ma):=FB "str" N ha (Ek (v:=.ty "str") hg2 N.str PyProof.Rows.boot_str rfl) hg he he2 hpl
theorem Jt (N:Nm X.mg) (ha:DE X a ma) (hg:Gl X "isinstance":=by rfl) (hg2:Gl X "list":=by rfl) (he:starEach [a,.Name "list" p2] X.env=(false,eval a X.env)::starEach [.Name "list" p2] X.env:=by rfl) (he2:starEach [.Name "list" p2] X.env=(false,eval (.Name "list" p2) X.env)::starEach [] X.env:=by rfl) (hpl:(backTo pos (starEach [.Name "list" p2] X.env)).any (·.1)=false:=by rfl):DE X (.Call (.Name "isinstance" p) [a,.Name "list" p2] [] pos) (A0 "list" ma):=FB "list" N ha (Ek (v:=.ty "list") hg2 N.list PyProof.Rows.boot_list rfl) hg he he2 hpl
theorem Hs (N:Nm X.mg) (ha:DE X a ma) (hg:Gl X "isinstance":=by rfl) (hg2:Gl X "tuple":=by rfl) (he:starEach [a,.Name "tuple" p2] X.env=(false,eval a X.env)::starEach [.Name "tuple" p2] X.env:=by rfl) (he2:starEach [.Name "tuple" p2] X.env=(false,eval (.Name "tuple" p2) X.env)::starEach [] X.env:=by rfl) (hpl:(backTo pos (starEach [.Name "tuple" p2] X.env)).any (·.1)=false:=by rfl):DE X (.Call (.Name "isinstance" p) [a,.Name "tuple" p2] [] pos) (A0 "tuple" ma):=FB "tuple" N ha (Ek (v:=.ty "tuple") hg2 N.tuple PyProof.Rows.boot_tuple rfl) hg he he2 hpl
end
def HE:Key->PyData
 | .inl i=>.int i
 | .inr x=>.str x
mutual
def toP:D->PyData
 | .non=>.none
 | .bl b=>.bool b
 | .int i=>.int i
 | .str x=>.str x
 | .lst xs=>.list (Ae xs)
 | .tup xs=>.tuple (Ae xs)
 | .scr ns=>.list (ns.map .int)
 | .dic ks xs=>.dict ((ks.map HE).zip (Ae xs))
def Ae:List D->List PyData
 | []=>[]
 | d::ds=>toP d::Ae ds
end
def A1:Nat->D->Bool
 | _,.non=>true
 | _,.bl _=>true
 | _,.int _=>true
 | _,.str x=>PyData.canLay0 (.str x)
 | 0,.lst _=>false
 | 0,.tup _=>false
 | 0,.scr _=>false
 | n+1,.lst xs=>xs.all (A1 n)
 | n+1,.tup xs=>xs.all (A1 n)
 | _+1,.scr _=>true
 | 0,.dic _ _=>false
 | _+1,.dic _ _=>false
theorem KZ:∀ ns:List Int,PyData.canLayAll0 (ns.map .int)=true/\PyData.depthAll (ns.map .int)=0
 | []=>⟨by simp[PyData.canLayAll0],by simp[PyData.depthAll]⟩
 | n::ns=>by
  obtain ⟨h1,h2⟩:=KZ ns
  exact ⟨by simp[PyData.canLayAll0,PyData.canLay0,h1],by simp[PyData.depthAll,PyData.depth,h2]⟩
theorem Jv {n:Nat} (ih:∀ d,A1 n d=true->(toP d).canLay0=true/\(toP d).depth<=n):∀ xs:List D,xs.all (A1 n)=true->PyData.canLayAll0 (Ae xs)=true/\PyData.depthAll (Ae xs)<=n
 | [],_=>⟨by simp[Ae,PyData.canLayAll0],by simp[Ae,PyData.depthAll]⟩
 | d::ds,h=>by
  rw[List.all_cons,Bool.and_eq_true] at h
  obtain ⟨a1,a2⟩:=ih d h.1
  obtain ⟨b1,b2⟩:=Jv ih ds h.2
  exact ⟨by simp[Ae,PyData.canLayAll0,a1,b1],by simp only[Ae,PyData.depthAll];lia⟩
theorem C9:∀ (n:Nat) (d:D),A1 n d=true->(toP d).canLay0=true/\(toP d).depth<=n
 | n,.non,_=>⟨by simp[toP,PyData.canLay0],by simp[toP,PyData.depth]⟩
 | n,.bl _,_=>⟨by simp[toP,PyData.canLay0],by simp[toP,PyData.depth]⟩
 | n,.int _,_=>⟨by simp[toP,PyData.canLay0],by simp[toP,PyData.depth]⟩
 | n,.str x,h=>⟨by unfold A1 at h;unfold toP;exact h,by simp[toP,PyData.depth]⟩
 | 0,.lst _,h=>by unfold A1 at h;cases h
 | 0,.tup _,h=>by unfold A1 at h;cases h
 | 0,.scr _,h=>by unfold A1 at h;cases h
 | n+1,.lst xs,h=>by
  unfold A1 at h
  obtain ⟨a,b⟩:=Jv (C9 n) xs h
  exact ⟨by simpa [toP,PyData.canLay0] using a,by simp only[toP,PyData.depth];lia⟩
 | n+1,.tup xs,h=>by
  unfold A1 at h
  obtain ⟨a,b⟩:=Jv (C9 n) xs h
  exact ⟨by simpa [toP,PyData.canLay0] using a,by simp only[toP,PyData.depth];lia⟩
 | 0,.dic _ _,h=>by unfold A1 at h;cases h
 | n+1,.dic _ _,h=>by unfold A1 at h;cases h
 | n+1,.scr ns,h=>by
  obtain ⟨a,b⟩:=KZ ns
  exact ⟨by simpa [toP,PyData.canLay0] using a,by simp only[toP,PyData.depth];lia⟩
section
variable {X:Cx} {pins:List (Addr×Obj)} {σ:St} {s:Shared} {W:Wd}
theorem NW:∀ {ns:List Int} {us:List Value},Vals (ns.map V.int) us->∃ as,ReadsAll s.heap us (ns.map PyData.int) as
 | [],_,h=>by cases h;exact ⟨_,.nil⟩
 | n::ns,_,h=>by
  cases h with
  | cons r t=>
   obtain ⟨k,rfl⟩:=r
   obtain ⟨as,h⟩:=NW t
   exact ⟨_,.cons (.int n k) h⟩
theorem K1 {P:Program} {w:World}:∀ {ks:List Key} {vs:List V} {ws:List (Key×Value)} {es:List DictEntry},ks.length=vs.length->KV (ks.zip vs) ws->Pairs (Gu P w) es ws->Vals vs (es.map (·.val))/\∀ h:Heap,∃ as,ReadsAll h (es.map (·.key)) (ks.map HE) as
 | [],[],_,_,_,k,p=>by
  cases k
  cases p
  exact ⟨.nil,fun h=>⟨_,.nil⟩⟩
 | k::ks,v::vs,_,_,l,k',p=>by
  cases k' with
  | cons r t=>
   cases p with
   | cons p1 p2 p3=>
    obtain ⟨a1,a2⟩:=K1 (by simpa using l) t p3
    obtain ⟨r1,r2⟩:=r
    refine ⟨.cons (by show RelV v (DictEntry.val _);rw[p2];exact r2) a1,fun h=>?_⟩
    obtain ⟨as,q⟩:=a2 h
    have r1:k=_:=r1
    rw[<-r1] at p1
    rename_i en _ _
    have z:IM k en.key=true:=p1
    have e:∃ bs,Reads h en.key (HE k) bs:=by
     rcases DC z with ⟨i,t,rfl,e⟩ | ⟨x,t,rfl,e⟩
     ·exact ⟨_,by rw[e];exact .int i t⟩
     ·exact ⟨_,by rw[e];exact .str x t⟩
    obtain ⟨bs,e⟩:=e
    exact ⟨_,.cons e q⟩
 | [],_::_,_,_,l,_,_=>by cases l
 | _::_,[],_,_,l,_,_=>by cases l
mutual
theorem Dc (I:Inv X pins σ W.H s) (hk:W.K=X.K):∀ {d:D} {v:V} {u:Value},Rep W d v->RelV v u->∃ as,Reads s.heap u (toP d) as
 | .non,v,u,h,r=>by
  unfold Rep at h;subst h;cases (show u=_ from r);unfold toP;exact ⟨_,.none⟩
 | .bl b,v,u,h,r=>by
  unfold Rep at h;subst h;cases (show u=_ from r);unfold toP;exact ⟨_,.bool b⟩
 | .int i,v,u,h,r=>by
  unfold Rep at h;subst h;obtain ⟨t,rfl⟩:=(show ∃ t,u=Value.int i t from r);unfold toP;exact ⟨_,.int i t⟩
 | .str i,v,u,h,r=>by
  unfold Rep at h;subst h;obtain ⟨t,rfl⟩:=(show ∃ t,u=Value.str i t from r);unfold toP;exact ⟨_,.str i t⟩
 | .lst xs,v,u,h,r=>by
  unfold Rep at h
  obtain ⟨a,vs,rfl,_,h1,h2⟩:=h
  cases (show u=_ from r)
  obtain ⟨its,ri,⟨o,n,e1,e2,_,e3⟩,_⟩:=I.list (SqL.of h1)
  obtain ⟨as,q⟩:=Ga I hk h2 ri
  unfold toP
  exact ⟨_,.list e1 e2 e3 q⟩
 | .tup xs,v,u,h,r=>by
  unfold Rep at h
  obtain ⟨a,vs,rfl,_,h1,h2⟩:=h
  cases (show u=_ from r)
  obtain ⟨its,ri,⟨o,e1,e2,n,e3⟩,_⟩:=I.tuple (SqT.of h1)
  obtain ⟨as,q⟩:=Ga I hk h2 ri
  unfold toP
  exact ⟨_,.tuple e1 e2 e3 q⟩
 | .scr ns,v,u,h,r=>by
  unfold Rep at h
  obtain ⟨a,rfl,h⟩:=h
  cases (show u=_ from r)
  have hs:SqL X.K W.H a (ns.map V.int):=by
   rcases h with ⟨_,h⟩ | h
   ·exact .inl h
   ·rw[<-hk];exact h _
  obtain ⟨its,ri,⟨o,n,e1,e2,_,e3⟩,_⟩:=I.list hs
  obtain ⟨as,q⟩:=NW (s:=s) ri
  unfold toP
  exact ⟨_,.list e1 e2 e3 q⟩
 | .dic ks xs,v,u,h,r=>by
  unfold Rep at h
  obtain ⟨a,vs,rfl,_,h1,h2,h3⟩:=h
  cases (show u=_ from r)
  obtain ⟨_,_,ws,kv,o,es,ep,e1,⟨e2,_,_⟩,e3,_,pr,_⟩:=I.hok a _ h1
  obtain ⟨a1,a2⟩:=K1 h2 kv pr
  obtain ⟨as,q1⟩:=a2 s.heap
  obtain ⟨bs,q2⟩:=Ga I hk h3 a1
  have hl:(ks.map HE).length=(Ae xs).length:=by
   have z:∀ l:List D,(Ae l).length=l.length:=by
    intro l
    induction l with
    | nil=>rfl
    | cons d l ih=>unfold Ae;rw[List.length_cons,List.length_cons,ih]
   rw[List.length_map,z,h2,h3.len]
  unfold toP
  exact ⟨_,.dict e1 e2 e3 (by rw[List.map_fst_zip (Nat.le_of_eq hl)];exact q1) (by rw[List.map_snd_zip (Nat.le_of_eq hl.symm)];exact q2)⟩
theorem Ga (I:Inv X pins σ W.H s) (hk:W.K=X.K):∀ {ds:List D} {vs:List V} {us:List Value},Reps W ds vs->Vals vs us->∃ as,ReadsAll s.heap us (Ae ds) as
 | [],vs,us,h,r=>by
  cases h.nil_inv;cases r;unfold Ae;exact ⟨_,.nil⟩
 | d::ds,vs,us,h,r=>by
  obtain ⟨v,q,rfl,h1,h2⟩:=h.cons_inv
  cases r with
  | cons r1 r2=>
   obtain ⟨as,a⟩:=Dc I hk h1 r1
   obtain ⟨bs,b⟩:=Ga I hk h2 r2
   unfold Ae
   exact ⟨_,.cons a b⟩
end
end
def deq (d e:D):Bool:=PyData.eqv (toP d) (toP e)
@[simp] def treeOf (Γ:Gm):SV->Option D
 | .v d=>some d
 | .b n=>((Γ[n]?).join).map .lst
 | .p n d=>((Γ[n]?).join).map fun xs=>.tup [.lst xs,d]
@[simp] def FM:Gm->SV->SV->Option Bool:=fun Γ x y=>match treeOf Γ x,treeOf Γ y with
 | some d,some e=>if A1 6 d && A1 6 e then some (deq d e) else none
 | _,_=>none
@[simp] def Lk:Gm->SV->SV->Option D:=fun Γ x y=>(FM Γ x y).map .bl
@[simp] def JX:Gm->SV->SV->Option D:=fun Γ x y=>(FM Γ x y).map fun b=>.bl !b
def GA (K:PySem.W.Frag):R2:=fun x y H Q=>∃ (W:Wd) (d e:D),W.K=K/\W.H=H/\Rep W d x/\Rep W e y/\A1 6 d=true/\A1 6 e=true/\Q (.bl (deq d e)) H
def GX (K:PySem.W.Frag):R2:=fun x y H Q=>∃ (W:Wd) (d e:D),W.K=K/\W.H=H/\Rep W d x/\Rep W e y/\A1 6 d=true/\A1 6 e=true/\Q (.bl (!deq d e)) H
section
variable {X:Cx} {f:Fr} {α:Nat->Addr} {s:DS} {σ:St} {H:Hp} {a b:Expr} {ma mb:ME} {pos:Pos}
theorem Oh (hu:X.A.units+64<cLine):OpR X (compareOp .Eq) (GA X.K):=by
 intro pins s σ H x y v u Q I rx ry h
 obtain ⟨W,d,e,hk,rfl,hd,he,s1,s2,k⟩:=h
 obtain ⟨as,r1⟩:=Dc I hk hd rx
 obtain ⟨bs,r2⟩:=Dc I hk he ry
 obtain ⟨a1,a2⟩:=C9 _ _ s1
 obtain ⟨b1,b2⟩:=C9 _ _ s2
 exact SeqAt.compareEq_reads r1 r2 a1 b1 (by lia) ⟨.bl (deq d e),W.H,I,rfl,k⟩
theorem QX (hu:X.A.units+64<cLine):OpR X (compareOp .NotEq) (GX X.K):=by
 intro pins s σ H x y v u Q I rx ry h
 obtain ⟨W,d,e,hk,rfl,hd,he,s1,s2,k⟩:=h
 obtain ⟨as,r1⟩:=Dc I hk hd rx
 obtain ⟨bs,r2⟩:=Dc I hk he ry
 obtain ⟨a1,a2⟩:=C9 _ _ s1
 obtain ⟨b1,b2⟩:=C9 _ _ s2
 exact SeqAt.rcNeAt_reads r1 r2 a1 b1 (by lia) X.prog X.w _ _ ⟨.bl (!deq d e),W.H,I,rfl,k⟩
theorem Hd (W:Wd):Kw W ⟨W.K,fun _=>False,W.H⟩:=⟨rfl,fun _ _ _ e=>⟨e,fun h=>h⟩⟩
theorem EW {x:SV} {d:D} {v:V} (rs:RS f α s σ H) (h:treeOf s.Γ x=some d) (r:RepV f α s.Γ H x v):Rep ⟨f.K,fun _=>False,H⟩ d v:=by
 unfold treeOf at h
 split at h
 ·cases h
  exact Rep.kw (Hd (wd f α s.Γ H)) r
 ·rename_i n
  obtain ⟨xs,hx,rfl⟩:=Ah h
  obtain ⟨p,vs,rfl,h1,h2⟩:=Be (d:=.b n) rs hx r
  unfold Rep
  exact ⟨p,vs,rfl,fun h=>h,h1,Reps.kw (Hd (wd f α s.Γ H)) h2⟩
 ·rename_i n e
  obtain ⟨xs,hx,rfl⟩:=Ah h
  obtain ⟨hn,p,w,rfl,_,h1,h2⟩:=r
  obtain ⟨q,vs,hq,h3,h4⟩:=Be (d:=.b n) rs hx ⟨hn,rfl⟩
  unfold Rep
  refine ⟨p,_,rfl,fun h=>h,h1,.cons ?_ (.cons (Rep.kw (Hd (wd f α s.Γ H)) h2) .nil)⟩
  unfold Rep
  exact ⟨q,vs,hq,fun h=>h,h3,Reps.kw (Hd (wd f α s.Γ H)) h4⟩
theorem LA {x y:SV} {b:Bool} {u v:V} (hf:f.K=X.K) (rs:RS f α s σ H) (hu:RepV f α s.Γ H x u) (hv:RepV f α s.Γ H y v) (h:FM s.Γ x y=some b) :
  ∃ (W:Wd) (d e:D),W.K=X.K/\W.H=H/\Rep W d u/\Rep W e v/\A1 6 d=true/\A1 6 e=true/\deq d e=b:=by
 unfold FM at h
 split at h
 ·rename_i d e h1 h2
  split at h
  ·rename_i hs
   cases h
   rw[Bool.and_eq_true] at hs
   exact ⟨_,d,e,hf,rfl,EW rs h1 hu,EW rs h2 hv,hs.1,hs.2,rfl⟩
  ·cases h
 ·cases h
theorem SK:OpD X Lk (GA X.K):=by
 intro f α s σ H x y u v z Q hf rs hu hv e q
 obtain ⟨b,hb,rfl⟩:=Ah e
 obtain ⟨W,d,c,h1,h2,h3,h4,h5,h6,rfl⟩:=LA hf rs hu hv hb
 exact ⟨W,d,c,h1,h2,h3,h4,h5,h6,q _ H rs .refl Bz⟩
theorem Vf:OpD X JX (GX X.K):=by
 intro f α s σ H x y u v z Q hf rs hu hv e q
 obtain ⟨b,hb,rfl⟩:=Ah e
 obtain ⟨W,d,c,h1,h2,h3,h4,h5,h6,rfl⟩:=LA hf rs hu hv hb
 exact ⟨W,d,c,h1,h2,h3,h4,h5,h6,q _ H rs .refl Bz⟩
@[simp] def AR:Gm->SV->SV->Option D:=fun Γ x y=>match gEq Γ x y with
 | some z=>some z
 | none=>Lk Γ x y
@[simp] def Ap:Gm->SV->SV->Option D:=fun Γ x y=>match gNe Γ x y with
 | some z=>some z
 | none=>JX Γ x y
theorem Ka:OpD X AR (fun x y H Q=>Ha X.K x y H Q\/GA X.K x y H Q):=by
 intro f α s σ H x y u v z Q hf rs hu hv e q
 unfold AR at e
 split at e
 ·rename_i z' hz
  cases e
  exact .inl (RH f α s σ H x y u v z Q hf rs hu hv hz q)
 ·exact .inr (SK f α s σ H x y u v z Q hf rs hu hv e q)
theorem LW:OpD X Ap (fun x y H Q=>HC X.K x y H Q\/GX X.K x y H Q):=by
 intro f α s σ H x y u v z Q hf rs hu hv e q
 unfold Ap at e
 split at e
 ·rename_i z' hz
  cases e
  exact .inl (R5 f α s σ H x y u v z Q hf rs hu hv hz q)
 ·exact .inr (Vf f α s σ H x y u v z Q hf rs hu hv e q)
theorem NI (hu:X.A.units+64<cLine):OpR X (compareOp .Eq) (fun x y H Q=>Ha X.K x y H Q\/GA X.K x y H Q):=(UU (by lia)).or (Oh hu)
theorem LB (hu:X.A.units+64<cLine):OpR X (compareOp .NotEq) (fun x y H Q=>HC X.K x y H Q\/GX X.K x y H Q):=(RJ (by lia)).or (QX hu)
theorem GJ (hu:X.A.units+64<cLine) (ha:DE X a ma) (hb:DE X b mb):DE X (.Compare a [.Eq] [b] pos) (mOp AR ma mb):=IH (NI hu) Ka ha hb (D8 _)
theorem K0 (hu:X.A.units+64<cLine) (ha:DE X a ma) (hb:DE X b mb):DE X (.Compare a [.NotEq] [b] pos) (mOp Ap ma mb):=IH (LB hu) LW ha hb (D8 _)
theorem BK (hu:X.A.units+64<cLine) (ha:DE X a ma) (hb:DE X b mb):DT X (.Compare a [.Eq] [b] pos) (AE (mOp AR ma mb)):=DU (NI hu) Ka ha hb (D8 _)
theorem Cv (hu:X.A.units+64<cLine) (ha:DE X a ma) (hb:DE X b mb):DT X (.Compare a [.NotEq] [b] pos) (AE (mOp Ap ma mb)):=DU (LB hu) LW ha hb (D8 _)
end
theorem Uv {n:Nat} {d:D} (h:A1 n d=true):deq d d=true:=SeqAt.eqv_refl _ (C9 n d h).1
end DL
namespace DL
open PySem L2
open Ev (Nm)
section
variable {X:Cx} {f:Fr} {α:Nat->Addr} {s:DS} {σ:St} {H:Hp} {a b e:Expr} {ma mb:ME} {pos p:Pos} {es:List Expr} {ms:MA}
@[simp] def E8:Gm->SV->SV->Option Bool:=fun Γ x y=>match treeOf Γ x,treeOf Γ y with
 | some d,some (.lst xs)=>if A1 6 d && A1 6 (.lst xs) then some (xs.any fun y=>deq y d) else none
 | some d,some (.tup xs)=>if A1 6 d && A1 6 (.tup xs) then some (xs.any fun y=>deq y d) else none
 | _,_=>none
@[simp] def EC:Gm->SV->SV->Option D:=fun Γ x y=>(E8 Γ x y).map .bl
def Jn (K:PySem.W.Frag) (g:Bool->Bool):R2:=fun x y H Q=>∃ (W:Wd) (d:D) (xs:List D),W.K=K/\W.H=H/\Rep W d x/\(Rep W (.lst xs) y/\A1 6 (.lst xs)=true\/Rep W (.tup xs) y/\A1 6 (.tup xs)=true)/\A1 6 d=true/\Q (.bl (g (xs.any fun y=>deq y d))) H
theorem Jo (d:D):∀ xs:List D,((Ae xs).any fun y=>PyData.eqv y (toP d))=xs.any fun y=>deq y d
 | []=>by simp[Ae]
 | x::xs=>by
  have ih:=Jo d xs
  simp only[Ae,List.any_cons]
  rw[ih]
  rfl
theorem Rq (hu:X.A.units+64<cLine):OpR X (compareOp .In) (Jn X.K id):=by
 intro pins s σ H x y v u Q I rx ry h
 obtain ⟨W,d,xs,hk,rfl,hd,he,s1,k⟩:=h
 obtain ⟨as,r1⟩:=Dc I hk hd rx
 obtain ⟨a1,a2⟩:=C9 _ _ s1
 rcases he with ⟨he,s2⟩ | ⟨he,s2⟩
 ·obtain ⟨bs,r2⟩:=Dc I hk he ry
  obtain ⟨b1,b2⟩:=C9 _ _ s2
  unfold toP at r2 b1 b2
  exact SeqAt.in_list_reads r2 r1 (by simpa [PyData.canLay0] using b1) a1 (by lia) ⟨.bl (xs.any fun y=>deq y d),W.H,I,by rw[Jo];rfl,k⟩
 ·obtain ⟨bs,r2⟩:=Dc I hk he ry
  obtain ⟨b1,b2⟩:=C9 _ _ s2
  unfold toP at r2 b1 b2
  exact SeqAt.in_tuple_reads r2 r1 (by simpa [PyData.canLay0] using b1) a1 (by lia) ⟨.bl (xs.any fun y=>deq y d),W.H,I,by rw[Jo];rfl,k⟩
theorem R1 {g:Bool->Bool} {x y:SV} {b:Bool} {u v:V} {Q:VK} (hf:f.K=X.K) (rs:RS f α s σ H) (hu:RepV f α s.Γ H x u) (hv:RepV f α s.Γ H y v) (h:E8 s.Γ x y=some b) (q:Q (.bl (g b)) H):Jn X.K g u v H Q:=by
 unfold E8 at h
 split at h
 ·rename_i d xs h1 h2
  split at h
  ·rename_i hs
   cases h
   rw[Bool.and_eq_true] at hs
   exact ⟨_,d,xs,hf,rfl,EW rs h1 hu,.inl ⟨EW rs h2 hv,hs.2⟩,hs.1,q⟩
  ·cases h
 ·rename_i d xs h1 h2
  split at h
  ·rename_i hs
   cases h
   rw[Bool.and_eq_true] at hs
   exact ⟨_,d,xs,hf,rfl,EW rs h1 hu,.inr ⟨EW rs h2 hv,hs.2⟩,hs.1,q⟩
  ·cases h
 ·cases h
theorem SD:OpD X EC (Jn X.K id):=by
 intro f α s σ H x y u v z Q hf rs hu hv e q
 obtain ⟨b,hb,rfl⟩:=Ah e
 exact R1 hf rs hu hv hb (q _ H rs .refl Bz)
theorem R3 (hu:X.A.units+64<cLine) (ha:DE X a ma) (hb:DE X b mb) (hm:behindInMarks .In b=false:=by rfl):DT X (.Compare a [.In] [b] pos) (AE (mOp EC ma mb)):=DU (Rq hu) SD ha hb hm
@[simp] def Ca:Gm->SV->SV->Option D:=fun _ x y=>match x,y with
 | .v .non,.v .non=>some (.bl true)
 | _,.v .non=>some (.bl false)
 | _,_=>none
@[simp] def D4:Gm->SV->SV->Option D:=fun _ x y=>match x,y with
 | .v .non,.v .non=>some (.bl false)
 | _,.v .non=>some (.bl true)
 | _,_=>none
theorem LS {Γ:Gm} {x:SV} {v:V} (hx:x≠.v .non) (h:RepV f α Γ H x v):v≠.non:=by
 rintro rfl
 cases x with
 | v d=>
  have h:Rep (wd f α Γ H) d .non:=h
  cases d<;>unfold Rep at h
  case non=>exact hx rfl
  case lst=>obtain ⟨_,_,e,_⟩:=h;cases e
  case tup=>obtain ⟨_,_,e,_⟩:=h;cases e
  case scr=>obtain ⟨_,e,_⟩:=h;cases e
  case dic=>obtain ⟨_,_,e,_⟩:=h;cases e
  all_goals cases h
 | b n=>cases h.2
 | p n d=>obtain ⟨_,_,_,e,_⟩:=h;cases e
theorem Mb:OpD X Ca (fun x y H Q=>y=.non/\Q (.bl (decide (x=.non))) H):=by
 intro f α s σ H x y u v z Q hf rs hu hv e q
 unfold Ca at e
 split at e
 ·cases e
  rw[ED hu]
  exact ⟨ED hv,q _ H rs .refl Bz⟩
 ·rename_i hx
  cases e
  refine ⟨ED hv,?_⟩
  rw[decide_eq_false (LS (fun h=>hx h) hu)]
  exact q _ H rs .refl Bz
 ·cases e
theorem Ux:OpD X D4 (fun x y H Q=>y=.non/\Q (.bl (!decide (x=.non))) H):=by
 intro f α s σ H x y u v z Q hf rs hu hv e q
 unfold D4 at e
 split at e
 ·cases e
  rw[ED hu]
  exact ⟨ED hv,q _ H rs .refl Bz⟩
 ·rename_i hx
  cases e
  refine ⟨ED hv,?_⟩
  rw[decide_eq_false (LS (fun h=>hx h) hu)]
  exact q _ H rs .refl Bz
 ·cases e
theorem Nf (ha:DE X a ma) (hb:DE X b mb) (hm:behindInMarks .Is b=false:=by rfl):DE X (.Compare a [.Is] [b] pos) (mOp Ca ma mb):=IH Ij Mb ha hb hm
theorem Sl (ha:DE X a ma) (hb:DE X b mb) (hm:behindInMarks .Is b=false:=by rfl):DT X (.Compare a [.Is] [b] pos) (AE (mOp Ca ma mb)):=DU Ij Mb ha hb hm
theorem UP (ha:DE X a ma) (hb:DE X b mb) (hm:behindInMarks .IsNot b=false:=by rfl):DT X (.Compare a [.IsNot] [b] pos) (AE (mOp D4 ma mb)):=DU QI Ux ha hb hm
end
end DL
namespace DL
open PySem L2
open PyProof.Rows (IntsAre boot_sum)
section
variable {X:Cx} {f:Fr} {α:Nat->Addr} {s:DS} {σ:St} {H:Hp} {a b e:Expr} {ma mb:ME} {pos p:Pos} {es:List Expr} {ms:MA}
end
end DL
namespace L2
open PySem PySem.SeqAt
open PySem.AutoSeq1 (wpAny_loadPart')
open PySem.MeetsSeq PySem.MeetsSeq2 PySem.MeetsSeq3
open PyProof.Rows (IntsAre IsTup)
section
variable {X:Cx}
end
end L2
namespace DL
open PySem L2
section
variable {X:Cx} {a b:Expr} {ma mb:ME} {pos:Pos}
end
section
variable {X:Cx} {f:Fr} {α:Nat->Addr} {s:DS} {σ:St} {H:Hp} {a b:Expr} {p cp tp:Pos} {ms:MA}
end
section
variable {X:Cx} {f:Fr} {a b c:Expr} {ma mb mc:ME} {pos:Pos} {r r':R2} {g g':Gm->SV->SV->Option D}
@[simp] def BA (g g':Gm->SV->SV->Option D) (ma mb mc:ME):ME:=fun s=>(ma s).bind fun x=>(mb x.2).bind fun y=>(g y.2.Γ x.1 y.1).bind fun z=>match z with
 | .bl true=>(mc y.2).bind fun w=>(g' w.2.Γ y.1 w.1).map fun z=>(.v z,w.2)
 | .bl false=>some (.v (.bl false),y.2)
 | _=>none
theorem Lr {σ:St} {H:Hp} {Q:VK} (hf:f.K=X.K) (hg:OpD X g r) (hg':OpD X g' r') (h:tD f (BA g g' ma mb mc) σ H Q):Ip r r' (tD f ma) (tD f mb) (tD f mc) σ H Q:=by
 obtain ⟨α,s,out,rs,lo,e,q⟩:=h
 obtain ⟨⟨x,s1⟩,h1,e⟩:=bind_some e
 obtain ⟨⟨y,s2⟩,h2,e⟩:=bind_some e
 obtain ⟨z,hz,e⟩:=bind_some e
 refine ⟨α,s,_,rs,lo,h1,fun α1 u H1 rs1 l1 x1 hu=>⟨α1,s1,_,rs1,lo_le lo l1 x1,h2,fun α2 v H2 rs2 l2 x2 hv=>?_⟩⟩
 refine hg f α2 s2 σ H2 x y u v z _ hf rs2 (hu.ext x2) hv hz fun w H3 rs3 x3 hw=>?_
 split at e
 ·have hw':w=.bl true:=by unfold Rep at hw;exact hw
  refine ⟨true,hw',?_⟩
  rw[if_pos rfl]
  obtain ⟨⟨t,s4⟩,h4,e⟩:=bind_some e
  obtain ⟨z',hz',rfl⟩:=Ah e
  have lo2:=lo_le (lo_le lo l1 x1) l2 x2
  refine ⟨α2,s2,_,rs3,lo2,h4,fun α4 v4 H4 rs4 l4 x4 hv4=>?_⟩
  refine hg' f α4 s4 σ H4 y t v v4 z' _ hf rs4 ((hv.ext x3).ext x4) hv4 hz' fun w5 H5 rs5 x5 hw5=>?_
  exact q α4 w5 H5 rs5 (l4.trans (l2.trans l1)) ((((x1.trans x2).trans x3).trans x4).trans x5) hw5
 ·have hw':w=.bl false:=by unfold Rep at hw;exact hw
  cases e
  refine ⟨false,hw',?_⟩
  rw[if_neg Bool.false_ne_true]
  exact q α2 _ H3 rs3 (l2.trans l1) ((x1.trans x2).trans x3) (show Rep (wd f α2 s2.Γ H3) (.bl false) (.bl false) from Bz)
 ·cases e
theorem Pj {op op':CmpOp} (ho:OpR X (compareOp op) r) (ho':OpR X (compareOp op') r') (hg:OpD X g r) (hg':OpD X g' r') (ha:DE X a ma) (hb:DE X b mb) (hc:DE X c mc) (hm:lastMarks [op,op'] [b,c]=false):DE X (.Compare a [op,op'] [b,c] pos) (BA g g' ma mb mc):=.mk fun f hf=>
 PE.imp (Uu ho ho' (ha f hf) (hb f hf) (hc f hf) hm) fun σ H Q h=>Lr hf hg hg' h
theorem Po {op op':CmpOp} (ho:OpR X (compareOp op) r) (ho':OpR X (compareOp op') r') (hg:OpD X g r) (hg':OpD X g' r') (ha:DE X a ma) (hb:DE X b mb) (hc:DE X c mc) (hm:lastMarks [op,op'] [b,c]=false):DT X (.Compare a [op,op'] [b,c] pos) (AE (BA g g' ma mb mc)):=.mk fun f hf=>
 PT.imp (SU ho ho' (ha f hf) (hb f hf) (hc f hf) hm) fun σ H Q hh_=>by
  obtain ⟨α,s,r',rs,lo,e,q⟩:=hh_
  obtain ⟨x,h1,e⟩:=bind_some e
  obtain ⟨k,h2,rfl⟩:=Ah e
  exact Lr hf hg hg' ⟨α,s,x,rs,lo,h1,fun α' v H' rs' l' ex hv=>⟨k,E4 h2 hv,q α' H' rs' l' ex⟩⟩
end
section
variable {X:Cx} {f:Fr} {e:Expr} {pos p:Pos} {es:List Expr} {ms:MA}
theorem Kz:∀ {bs:List Bool} {us:List Value},Vals (bs.map V.bl) us->us=bs.map Value.bool
 | [],_,h=>by cases h;rfl
 | b::bs,_,h=>by
  cases h with
  | cons r t=>
   cases (show _=Value.bool b from r)
   rw[Kz t]
   rfl
theorem SZ (bs:List Bool):(List.range bs.length).all (fun i=>bs.getD i false)=bs.all id:=by
 rw[Bool.eq_iff_iff,List.all_eq_true,List.all_eq_true]
 constructor
 ·intro h b hb
  obtain ⟨i,hi,rfl⟩:=List.getElem_of_mem hb
  have:=h i (List.mem_range.mpr hi)
  rw[List.getD_eq_getElem?_getD,List.getElem?_eq_getElem hi] at this
  exact this
 ·intro h i hi
  have hi:=List.mem_range.mp hi
  rw[List.getD_eq_getElem?_getD,List.getElem?_eq_getElem hi]
  exact h _ (List.getElem_mem hi)
theorem Qj (hc:X.calm=true):Bq X (.builtin "all") (fun xs H Q=>∃ (p:Addr) (bs:List Bool),xs=[.ref p]/\SqL X.K H p (bs.map V.bl)/\Q (.bl (bs.all id)) H):=by
 intro pins s σ H xs us Q I r h
 obtain ⟨l,bs,rfl,hq,q⟩:=h
 obtain ⟨u,rfl,rx⟩:=vals1 r
 cases rx
 obtain ⟨its,ri,pl,hz⟩:=I.list hq
 cases Kz ri
 have hl:=pl.isList
 have hlt:@LT.lt Nat _ l s.heap.objs.size:=pl.lt
 refine call_all_walk (wpAny_pyIter_list hl ?_)
 refine ⟨_,_,_,_,_,_,fun i=>bs.getD i false,rfl,Walks.list (A:=X.A.in1) (I.ok.hd hc) s.heap.objs.size l (Nat.ne_of_lt hlt) (bs.map Value.bool).toArray,⟨⟨_,Heap.get?_push_size _ rfl,rfl,rfl⟩,hl.push _⟩,?_,fun h' tk hk=>?_⟩
 ·intro i v s' Q' E' hv hQ
  have hv:(bs.map Value.bool)[i]?=some v:=by simpa using hv
  rw[List.getElem?_map] at hv
  cases hb:bs[i]? with
  | none=>rw[hb] at hv;cases hv
  | some b=>
   rw[hb] at hv
   cases hv
   have hQ:Q' (bs.getD i false) s':=hQ
   rw[List.getD_eq_getElem?_getD,hb] at hQ
   exact wpAny_truthy_bool hQ
 ·refine ⟨.bl (bs.all id),H,I.kept (h':=h') (t':=tk) fun b o e=>?_,?_,q⟩
  ·have hb:@LT.lt Nat _ b s.heap.objs.size:=Heap.lt_size e
   exact hk b o (by simp;exact Nat.ne_of_lt hb) (Heap.get?_push_of_some _ e)
  ·have:(bs.map Value.bool).toArray.size=bs.length:=by simp
   rw[this,SZ]
   rfl
def Cq:List D->Option (List Bool)
 | []=>some []
 | .bl i::r=>(Cq r).map (i::·)
 | _=>none
theorem LH:∀ {xs:List D} {bs:List Bool},Cq xs=some bs->xs=bs.map .bl
 | [],bs,e=>by cases e;rfl
 | .bl i::r,bs,e=>by
  unfold Cq at e
  obtain ⟨cs,h,rfl⟩:=Ah e
  rw[LH h]
  rfl
 | .non::_,_,e=>by cases e
 | .int _::_,_,e=>by cases e
 | .str _::_,_,e=>by cases e
 | .lst _::_,_,e=>by cases e
 | .tup _::_,_,e=>by cases e
 | .scr _::_,_,e=>by cases e
 | .dic _ _::_,_,e=>by cases e
theorem HW:∀ bs:List Bool,Cq (bs.map .bl)=some bs
 | []=>rfl
 | b::bs=>by show (Cq (bs.map D.bl)).map (b::·)=_;rw[HW];rfl
theorem M4 {W:Wd}:∀ {bs:List Bool} {vs:List V},Reps W (bs.map D.bl) vs->vs=bs.map V.bl
 | [],vs,h=>h.nil_inv
 | b::bs,vs,h=>by
  obtain ⟨v,r,rfl,h1,h2⟩:=h.cons_inv
  unfold Rep at h1
  rw[h1,M4 h2]
  rfl
@[simp] def CM:Gm->List SV->Option D:=fun Γ xs=>match xs with
 | [x]=>match elems Γ x with
  | some xs=>(Cq xs).map fun bs=>.bl (bs.all id)
  | _=>none
 | _=>none
theorem Tu:CaD X CM (fun xs H Q=>∃ (p:Addr) (bs:List Bool),xs=[.ref p]/\SqL X.K H p (bs.map V.bl)/\Q (.bl (bs.all id)) H):=by
 intro f α s σ H xs us z Q hf rs hu e q
 unfold CM at e
 split at e
 ·rename_i x
  split at e
  ·rename_i ys hy
   obtain ⟨bs,hn,rfl⟩:=Ah e
   obtain ⟨v,r,rfl,h1,h2⟩:=hu.cons_inv
   rw[h2.nil_inv]
   obtain ⟨a,vs,rfl,h3,h4⟩:=Be rs hy h1
   rw[LH hn] at h4
   rw[M4 h4] at h3
   exact ⟨a,bs,rfl,SqL.of h3,q _ H rs .refl Bz⟩
  ·cases e
 ·cases e
theorem KN (hn:X.mg "all"=none) (ha:DA X (e::es) ms) (hc:X.calm=true:=by rfl) (hg:Gl X "all":=by rfl) (he:starEach (e::es) X.env=(false,eval e X.env)::starEach es X.env:=by rfl) (hpl:(backTo pos (starEach es X.env)).any (·.1)=false:=by rfl):DE X (.Call (.Name "all" p) (e::es) [] pos) (AO CM ms):=
 Fp (Qj hc) Tu hg hn PyProof.Rows.boot_all ha (by decide) (by decide) he hpl
end
section
variable {X:Cx} {f:Fr} {a b c:Expr} {ma mb mc:ME} {pos:Pos} {x:Str} {i:Int}
theorem FA (h:∃ t,X.mg x=some (.int i t)) (hg:Gl X x:=by rfl) (hd:(x == ("__debug__":Str))=false:=by decide):DE X (.Name x pos) (mC (.int i)):=by
 obtain ⟨t,h⟩:=h
 exact Ey (D0 (v:=.int i) hg h ⟨t,rfl⟩ hd) fun W=>by unfold Rep;rfl
theorem Ur:OpR X (compareOp .LtE) (fun x y H Q=>∃ i j:Str,x=.str i/\y=.str j/\Q (.bl (!decide (j.cps.toList<i.cps.toList))) H):=by
 intro pins s σ H x y v u Q I rx ry h
 obtain ⟨i,j,rfl,rfl,q⟩:=h
 obtain ⟨t,rfl⟩:=rx
 obtain ⟨t',rfl⟩:=ry
 exact PySem.P.le_str (A5 I q rfl)
@[simp] def Af:Gm->SV->SV->Option D:=fun _ x y=>match x,y with
 | .v (.int i),.v (.int j)=>some (.bl (decide (i<=j)))
 | .v (.str i),.v (.str j)=>some (.bl (!decide (j.cps.toList<i.cps.toList)))
 | _,_=>none
abbrev NH:R2:=fun x y H Q=>rI0 (fun i j=>.bl (decide (i<=j))) x y H Q\/(∃ i j:Str,x=.str i/\y=.str j/\Q (.bl (!decide (j.cps.toList<i.cps.toList))) H)
theorem Fl:OpR X (compareOp .LtE) NH:=op_le.or Ur
theorem Gf:OpD X Af NH:=by
 intro f α s σ H x y u v z Q hf rs hu hv e q
 unfold Af at e
 split at e
 ·rename_i i j
  cases e
  exact .inl ⟨i,j,BL hu,BL hv,q _ H rs .refl Bz⟩
 ·rename_i i j
  cases e
  exact .inr ⟨i,j,BX hu,BX hv,q _ H rs .refl Bz⟩
 ·cases e
theorem Ku (ha:DE X a ma) (hb:DE X b mb) (hc:DE X c mc) (hm:lastMarks [.LtE,.LtE] [b,c]=false:=by with_unfolding_all rfl):DE X (.Compare a [.LtE,.LtE] [b,c] pos) (BA Af Af ma mb mc):=Pj Fl Fl Gf Gf ha hb hc hm
theorem J2 (ha:DE X a ma) (hb:DE X b mb) (hc:DE X c mc) (hm:lastMarks [.LtE,.LtE] [b,c]=false:=by with_unfolding_all rfl):DT X (.Compare a [.LtE,.LtE] [b,c] pos) (AE (BA Af Af ma mb mc)):=Po Fl Fl Gf Gf ha hb hc hm
end
end DL
namespace L2
open PySem
def Its (x:Str):It:=⟨fun i _=>i<x.cps.size,fun i H v H'=>H'=H/\∃ c,x.cps[i]?=some c/\v=.str ⟨#[c]⟩,fun i _=>x.cps.size<=i⟩
theorem P0 {P:Program} {w:World} {K:PySem.W.Frag} {tg:Expr} (x:Str) (t:Tok) (it:Addr):Turn P w K tg (Its x) [it] it (fun i h=>h.IsStrIter it "str_ascii_iterator" x t i) where
 mem:=by simp
 obj:=fun i h st b hb=>by
  have e:b=it:=by simpa using hb
  subst e
  obtain ⟨o,e,c,d⟩:=st
  exact ⟨o,e,fun v z=>by rw[d] at z;cases z⟩
 keep:=fun i h h' st k=>let ⟨o,e,r⟩:=st;⟨o,k it (by simp) o e,r⟩
 item:=by
  intro X hP hw hK hc i pins s σ H E I hf st hg
  subst hP hw hK
  have hx:x.cps[i]?=some (x.cps[i]'hg):=Array.getElem?_eq_getElem hg
  obtain ⟨f0,f1,f2,f3,f4,f5⟩:=hf it (by simp)
  refine wpAny_pyNext_ascii_item st hx fun h' st' sb=>?_
  have I1:Inv X pins σ H {s with heap:=h',toks:=s.toks+1}:=I.turned (t':=s.toks+1) (fun b o hb e=>(sb.2 b hb).trans e) f0 f1 f3 f4 f5
  obtain ⟨o,e,c,d⟩:=id st'
  exact ⟨_,rfl,HS (s:={s with heap:=h',toks:=s.toks+1}) e c d (by decide) ⟨.str ⟨#[x.cps[i]'hg]⟩,H,I1,⟨_,rfl⟩,⟨rfl,_,hx,rfl⟩,st',fun b hb=>(hf b hb).1⟩⟩
 done:=by
  intro X hP hw hK hc i pins s σ H E I hf st hg
  subst hP hw hK
  obtain ⟨f0,f1,f2,f3,f4,f5⟩:=hf it (by simp)
  exact wpAny_pyNext_ascii_end (I.ok.hd hc) st (Array.getElem?_eq_none hg) fun h' eb=>⟨rfl,I.turned (t':=s.toks) (fun b o hb e=>eb b o hb e) f0 f1 f3 f4 f5⟩
 self:=fun _ _ _ _ _ st h=>wpAny_pyIter_striter_ascii st h
def Uk (tl:TE):TI:=fun σ H R=>tl σ H fun v H1=>∃ x:Str,v=.str x/\x.cps.all (·<128)=true/\R (Its x) H1
theorem QN {X:Cx} {tg l:Expr} {tl:TE} (hl:PE X l tl):PI X tg l (Uk tl):=by
 intro pins s σ H R I h
 refine thn (hl pins s σ H _ I h) fun v s1 hh_=>?_
 obtain ⟨x,H1,I1,r1,q1⟩:=hh_
 obtain ⟨x,rfl,ha,q⟩:=q1
 obtain ⟨t,rfl⟩:=r1
 refine wpAny_pyIter_ascii ha ?_
 refine ⟨s1.heap.objs.size,[s1.heap.objs.size],_,_,H1,rfl,I1.kept (t':=s1.toks) fun b o e=>Heap.get?_push_of_some _ e,P0 x t _,⟨_,Heap.get?_push_size _ rfl,rfl,rfl⟩,fun b hb=>?_,q⟩
 have e:b=s1.heap.objs.size:=by simpa using hb
 subst e
 exact I1.fpOk (Nat.le_refl _) (I1.hok.fresh (Nat.le_refl _))
end L2
namespace DL
open PySem L2
section
variable {X:Cx} {f:Fr} {a tg:Expr}
def signs (x:Str):List D:=x.cps.toList.map fun c=>.str ⟨#[c]⟩
@[simp] def Bi (m:ME):MF:=fun s=>(m s).bind fun r=>match r.1 with
 | .v (.str x)=>if x.cps.all (·<128) then some (signs x,r.2) else none
 | _=>none
theorem Fy {m:ME} (h:DE X a m):DI X tg a (Bi m):=.mk fun f hf=>PI.imp (QN (h f hf)) fun σ H R hh_=>by
 obtain ⟨α,s,r,rs,lo,e,q⟩:=hh_
 obtain ⟨⟨x,s1⟩,h1,e⟩:=bind_some e
 simp only at e
 split at e
 ·rename_i x
  split at e
  case isFalse=>cases e
  rename_i ha
  cases e
  refine ⟨α,s,_,rs,lo,h1,fun α' v H' rs' l' x' hv=>?_⟩
  refine ⟨x,BX hv,ha,q _ α' H' rs' l' x' ⟨?_,?_,?_⟩⟩
  ·intro i α2 s2 σ2 H2 Hh hi r2 x2 sup
   have hi:i<x.cps.size:=by simpa [signs] using hi
   exact hi
  ·intro i d y α2 s2 σ2 H2 Hh H3 hd r2 x2 sup yl
   obtain ⟨rfl,c,hc,rfl⟩:=yl
   have hd:(x.cps[i]?).map (fun c=>D.str ⟨#[c]⟩)=some d:=by simpa [signs] using hd
   rw[hc] at hd
   cases hd
   exact .inl ⟨rfl,FJ⟩
  ·intro α2 s2 σ2 H2 Hh r2 x2 sup
   show x.cps.size<=(signs x).length
   simp[signs]
 ·cases e
end
end DL
namespace L2
open PySem PySem.Spec PyProof.Rows
section
variable {X:Cx} {tg:Expr}
end
end L2
namespace DL
open PySem L2
section
variable {X:Cx} {f:Fr} {a b c tg:Expr} {pos:Pos}
end
end DL
namespace L2
open PySem PySem.Spec PyProof.Rows
section
variable {X:Cx}
end
end L2
namespace DL
open PySem L2
open PyProof.Rows (boot_max)
section
variable {X:Cx} {f:Fr} {α:Nat->Addr} {s:DS} {σ:St} {H:Hp} {a b e:Expr} {ma mb:ME} {pos p:Pos} {es:List Expr} {ms:MA}
end
end DL
namespace DL
open PySem L2 Ev
section
variable {X:Cx} {st:Stmt} {pos p:Pos} {e:Expr} {es:List Expr} {ms:MA}
theorem Jh:DSt X st fun _=>none:=.mk fun f hf=>PS.imp VD fun E σ H ⟨α,s,o,rs,lo,e,q⟩=>by cases e
end
end DL
namespace L2
open PySem PySem.SeqAt
open PySem.AutoSeq1 (wpAny_loadPart')
open PySem.MeetsSeq PySem.MeetsSeq2 PySem.MeetsSeq3
open PyProof.Rows (IntsAre IsTup)
section
variable {X:Cx}
end
end L2
namespace DL
open PySem L2
section
variable {X:Cx} {a b:Expr} {ma mb:ME} {pos:Pos}
variable {c:Expr} {mc:ME}
end
end DL
namespace XL
open PySem PySem.Spec PyProof.Rows L2
def hole (h:Heap) (fs:List Addr):Heap:={h with objs:=h.objs.mapIdx fun i o=>if i∈fs then {o with data:=.freed} else o}
theorem Cs (h:Heap) (fs:List Addr) (b:Addr):(hole h fs).get? b=if b∈fs then none else h.get? b:=by
 unfold hole Heap.get?
 simp only[Array.getElem?_mapIdx]
 by_cases hb:b∈fs
 ·simp only[hb,if_true]
  cases e:h.objs[b]? with
  | none=>rfl
  | some o=>rfl
 ·simp only[hb,if_false]
  cases e:h.objs[b]? with
  | none=>rfl
  | some o=>rfl
theorem LV {h h' base base':Heap} (k:∀ b o,h.get? b=some o->∃ sl,h'.get? b=some {o with slots:=sl}):∀ {l:List Env},h.FunFrames base l->(∀ b∈frs l,base'.get? b=none)->h'.FunFrames base' l
 | [],_,_=>trivial
 | env::l,⟨h1,⟨L,o,e1,e2,e3,e4⟩,h2⟩,hb=>by
  have hm:∀ b∈frs l,b∈frs (env::l):=fun b hb=>by
   unfold frs at *
   rw[List.filterMap_cons,e1]
   exact List.mem_cons_of_mem _ hb
  have hL:L∈frs (env::l):=by
   unfold frs
   rw[List.filterMap_cons,e1]
   exact List.mem_cons_self
  obtain ⟨sl,e5⟩:=k L o e3
  exact ⟨h1,⟨L,_,e1,hb L hL,e5,e4⟩,LV k h2 fun b hb'=>hb b (hm b hb')⟩
theorem D2 {h base:Heap}:∀ {l:List Env},h.FunFrames base l->∀ b∈frs l,∃ o,h.get? b=some o/\∀ vs:Array Value,o.data≠Data.fields vs
 | [],_,b,hb=>nomatch hb
 | env::l,⟨h1,⟨L,o,e1,e2,e3,e4⟩,h2⟩,b,hb=>by
  unfold frs at hb
  rw[List.filterMap_cons,e1] at hb
  rcases List.mem_cons.mp hb with rfl | hb
  ·exact ⟨o,e3,e4⟩
  ·exact D2 h2 b hb
abbrev NF (o:Obj):Prop:=∀ vs:Array Value,o.data≠Data.fields vs
abbrev UpS (h h':Heap):Prop:=∀ b o,h.get? b=some o->NF o->∃ sl,h'.get? b=some {o with slots:=sl}
theorem Iu {h h' base:Heap} (k:UpS h h'):∀ {l:List Env},h.FunFrames base l->h'.FunFrames base l
 | [],_=>trivial
 | env::l,⟨h1,⟨L,o,e1,e2,e3,e4⟩,h2⟩=>by
  obtain ⟨sl,e5⟩:=k L o e3 e4
  exact ⟨h1,⟨L,_,e1,e2,e5,e4⟩,Iu k h2⟩
theorem KQ {h base:Heap}:∀ {l:List Env},h.FunFrames base l->∀ b∈frs l,base.get? b=none
 | [],_,b,hb=>nomatch hb
 | env::l,⟨h1,⟨L,o,e1,e2,e3,e4⟩,h2⟩,b,hb=>by
  unfold frs at hb
  rw[List.filterMap_cons,e1] at hb
  rcases List.mem_cons.mp hb with rfl | hb
  ·exact e2
  ·exact KQ h2 b hb
def Trc (h B:Heap) (e:Addr) (cls fl:Value):Prop:=∃ oe vs T oT ts,h.get? e=some oe/\oe.cls=cls/\oe.dict=none/\oe.data=Data.fields vs/\vs[1]?=some (Value.ref T)/\B.get? T=none/\T≠e/\h.get? T=some oT/\oT.data=Data.fields ts/\ts[3]?=some fl
section
variable {M:Model} {A:Around} {E:Value->Shared->Prop} {s:Shared} {B:Heap} {env:Env} {outer:List Env} {L e:Addr} {oe:Obj} {vs:Array Value} {head cls fl:Value} {hadNext:Bool} {Q:Unit->Shared->Prop}
theorem My {o:Obj} {vs:Array Value} {f:Array Value->Array Value} (hd:o.data=Data.fields vs):Obj.mapFields f o={o with data:=Data.fields (f vs)}:=by
 obtain ⟨c,d,dt,sl⟩:=o
 cases (show dt=_ from hd)
 rfl
theorem Jx (hfr:A.frames=some (env::outer)) (hl:s.heap.FunFrames B (env::outer)) (hf:env.frame=some L) (he:s.heap.get? e=some oe) (hd:oe.data=.fields vs) (h1:1<vs.size) (hdi:oe.dict=none) (st:B.StaysIn s.heap) (hB:B.get? e=none)
  (h:∀ h',B.StaysIn h'->h'.FunFrames B (env::outer)->Trc h' B e oe.cls (rawInt L)->UpS s.heap h'->Q () {s with heap:=h'}) :
  wpAny M A (do let a <-PySem.frameOf env;let pl <-entryPlaceOf L hadNext;let b <-EntryCells.newEntry head a Value.none (rawInt L) Value.none pl;setField (Value.ref e) 1 b) Q E s:=by
 refine wpAny_bind (wpAny_frameOf_fun hfr hl hf fun h1' so=>?_)
 obtain ⟨sz,s1,s2⟩:=so
 refine wpAny_bind (wpAny_entryPlaceOf fun pl hpl=>?_)
 have hne:e∉frs (env::outer):=fun z=>by
  obtain ⟨o,q1,q2⟩:=D2 hl e z
  rw[he] at q1
  cases q1
  exact q2 vs hd
 have he1:h1'.get? e=some oe:=by rw[s1 e hne];exact he
 refine wpAny_bind ?_
 unfold EntryCells.newEntry newFields
 refine wpAny_newObj_type ?_ (IsPlace.sizeOk5 hpl _ _ _ _ _)
 generalize ho:({cls:=Value.type "traceback",data:=Data.fields ([head,Value.ref L,Value.none,rawInt ↑L,Value.none]++if pl.isEmpty=true then List.replicate 6 Value.none else pl).toArray}:Obj)=o
 have hof:o.isFreed=false:=by rw[<-ho];rfl
 have keep2:∀ b u,h1'.get? b=some u->(h1'.push o).get? b=some u:=fun b u q=>Heap.get?_push_of_some _ q
 have he2:(h1'.push o).get? e=some oe:=keep2 e oe he1
 have hT2:(h1'.push o).get? h1'.objs.size=some o:=Heap.get?_push_size _ hof
 have hTe:h1'.objs.size≠e:=Nat.ne_of_gt (Heap.lt_size he1)
 refine wpAny_setField he2 hd h1 ?_
 have hm:=My (f:=fun x=>x.setIfInBounds 1 (Value.ref h1'.objs.size)) hd
 have he3:((h1'.push o).update e (Obj.mapFields fun x=>x.setIfInBounds 1 (Value.ref h1'.objs.size))).get? e=some {oe with data:=Data.fields (vs.setIfInBounds 1 (Value.ref h1'.objs.size))}:=by
  rw[Heap.get?_update_self _ he2 (by rw[hm];rfl),hm]
 have other:∀ b,b≠e->((h1'.push o).update e (Obj.mapFields fun x=>x.setIfInBounds 1 (Value.ref h1'.objs.size))).get? b=(h1'.push o).get? b:=fun b hb=>Heap.get?_update_other _ _ (Ne.symm hb)
 have up:UpS s.heap ((h1'.push o).update e (Obj.mapFields fun x=>x.setIfInBounds 1 (Value.ref h1'.objs.size))):=fun b u q nf=>by
  have hb:b≠e:=fun z=>by rw[z,he] at q;cases q;exact nf vs hd
  obtain ⟨sl,q1⟩:=s2 b u q
  exact ⟨sl,by rw[other b hb];exact keep2 b _ q1⟩
 refine h _ (fun b u q=>?_) (Iu up hl) ?_ up
 ·have hb:b≠e:=fun z=>by rw[z,hB] at q;cases q
  have hn:b∉frs (env::outer):=fun z=>by rw[KQ hl b z] at q;cases q
  rw[other b hb]
  exact keep2 b u (by rw[s1 b hn];exact st b u q)
 ·refine ⟨_,_,h1'.objs.size,o,_,he3,rfl,hdi,rfl,by simp[h1],?_,hTe,by rw[other _ hTe];exact hT2,by rw[<-ho],by simp⟩
  cases q:B.get? h1'.objs.size with
  | none=>rfl
  | some u=>
   have:=Heap.lt_size (st _ u q)
   rw[sz] at this
   exact absurd this (Nat.lt_irrefl _)
end
section
variable {M:Model} {A:Around} {E:Value->Shared->Prop} {s:Shared} {B:Heap} {env:Env} {outer:List Env} {L e:Addr} {oe:Obj} {vs:Array Value} {head cls fl:Value} {hadNext:Bool} {Q:Unit->Shared->Prop}
structure Step (B:Heap) (l:List Env) (e:Addr) (cls fl:Value) (h h':Heap):Prop where
 st:B.StaysIn h'
 fr:h'.FunFrames B l
 tr:Trc h' B e cls fl
 up:UpS h h'
theorem Tr (hfr:A.frames=some (env::outer)) (hl:s.heap.FunFrames B (env::outer)) (hf:env.frame=some L) (he:s.heap.get? e=some oe) (hd:oe.data=.fields vs) (h1:vs[1]?=some Value.none) (hdi:oe.dict=none) (st:B.StaysIn s.heap) (hB:B.get? e=none)
  (h:∀ h',Step B (env::outer) e oe.cls (rawInt L) s.heap h'->Q () {s with heap:=h'}):wpAny M A (noteFrame (.ref e) env) Q E s:=by
 unfold noteFrame
 rw[hf]
 refine wpAny_bind (wpAny_field he hd h1 ?_)
 exact Jx (hadNext:=(Value.none != Value.none)) (head:=Value.none) hfr hl hf he hd (Array.getElem?_eq_some_iff.mp h1).1 hdi st hB fun h' a b c d=>h h' ⟨a,b,c,d⟩
theorem GM {T:Addr} {oT:Obj} {ts:Array Value} {fl':Value} {h:Heap} {l:List Env} {tv:Array Value} {oe:Obj} (hl:h.FunFrames B l) (st:B.StaysIn h) (hT:h.get? T=some oT) (hdT:oT.data=Data.fields ts) (h3:3<ts.size) (he:h.get? e=some oe) (hc:oe.cls=cls) (hdi:oe.dict=none) (hd:oe.data=Data.fields tv) (h1:tv[1]?=some (Value.ref T)) (hBT:B.get? T=none) (hTe:T≠e) :
  Step B l e cls fl' h (h.update T (Obj.mapFields fun x=>x.setIfInBounds 3 fl')):=by
 have hm:=My (f:=fun x=>x.setIfInBounds 3 fl') hdT
 have hT':(h.update T (Obj.mapFields fun x=>x.setIfInBounds 3 fl')).get? T=some {oT with data:=Data.fields (ts.setIfInBounds 3 fl')}:=by
  rw[Heap.get?_update_self _ hT (by rw[hm];rfl),hm]
 have other:∀ b,b≠T->(h.update T (Obj.mapFields fun x=>x.setIfInBounds 3 fl')).get? b=h.get? b:=fun b hb=>Heap.get?_update_other _ _ (Ne.symm hb)
 have up:UpS h (h.update T (Obj.mapFields fun x=>x.setIfInBounds 3 fl')):=fun b u q nf=>by
  have hb:b≠T:=fun z=>by rw[z,hT] at q;cases q;exact nf ts hdT
  exact ⟨u.slots,by rw[other b hb];exact q⟩
 refine ⟨fun b u q=>?_,Iu up hl,⟨oe,tv,T,_,_,by rw[other e (Ne.symm hTe)];exact he,hc,hdi,hd,h1,hBT,hTe,hT',rfl,by simp[h3]⟩,up⟩
 have hb:b≠T:=fun z=>by rw[z,hBT] at q;cases q
 rw[other b hb]
 exact st b u q
theorem UpS.trans {h1 h2 h3:Heap} (a:UpS h1 h2) (b:UpS h2 h3):UpS h1 h3:=fun c o q nf=>by
 obtain ⟨sl,q1⟩:=a c o q nf
 obtain ⟨sl',q2⟩:=b c _ q1 nf
 exact ⟨sl',q2⟩
theorem RE (hfr:A.frames=some (env::outer)) (hl:s.heap.FunFrames B (env::outer)) (hf:env.frame=some L) (tr:Trc s.heap B e cls .none) (st:B.StaysIn s.heap) (hB:B.get? e=none)
  (h:∀ h',Step B (env::outer) e cls (rawInt L) s.heap h'->Q () {s with heap:=h'}):wpAny M A (noteFrame (.ref e) env) Q E s:=by
 obtain ⟨oe,tv,T,oT,ts,he,hc,hdi,hd,h1,hBT,hTe,hT,hdT,h3⟩:=tr
 unfold noteFrame
 rw[hf]
 refine wpAny_bind (wpAny_field he hd h1 ?_)
 refine wpAny_bind (wpAny_field hT hdT h3 ?_)
 have h3':3<ts.size:=(Array.getElem?_eq_some_iff.mp h3).1
 have z:=GM (e:=e) (fl':=Value.none) hl st hT hdT h3' he hc hdi hd h1 hBT hTe
 refine wpAny_bind (wpAny_setField hT hdT h3' ?_)
 obtain ⟨oe',tv',T',oT',ts',he',hc',hdi',hd',h1',_⟩:=z.tr
 refine Jx (s:={s with heap:=s.heap.update T (Obj.mapFields fun x=>x.setIfInBounds 3 Value.none)}) (hadNext:=(Value.ref T != Value.none)) (head:=Value.ref T) hfr z.fr hf he' hd' (Array.getElem?_eq_some_iff.mp h1').1 hdi' z.st hB fun h' a b c d=>h h' ⟨a,b,hc'▸c,z.up.trans d⟩
theorem Hm {l:List Env} (hl:s.heap.FunFrames B l) (tr:Trc s.heap B e cls fl) (st:B.StaysIn s.heap)
  (h:∀ h',Step B l e cls .none s.heap h'->Q () {s with heap:=h'}):wpAny M A (setFlight (.ref e) none) Q E s:=by
 obtain ⟨oe,tv,T,oT,ts,he,hc,hdi,hd,h1,hBT,hTe,hT,hdT,h3⟩:=tr
 unfold setFlight
 refine wpAny_bind (wpAny_field he hd h1 ?_)
 have h3':3<ts.size:=(Array.getElem?_eq_some_iff.mp h3).1
 exact wpAny_setField hT hdT h3' (h _ (GM (e:=e) (fl':=Value.none) hl st hT hdT h3' he hc hdi hd h1 hBT hTe))
theorem QT (h1:∀ {Q:Unit->Shared->Prop},(∀ h',Step B (env::outer) e cls (rawInt L) s.heap h'->Q () {s with heap:=h'})->wpAny M A (noteFrame (.ref e) env) Q E s)
  (h:∀ h',Step B (env::outer) e cls .none s.heap h'->Q () {s with heap:=h'}):wpAny M A (leaving env (.ref e)) Q E s:=by
 unfold leaving
 refine wpAny_bind (h1 fun h2 z=>?_)
 exact Hm (s:={s with heap:=h2}) z.fr z.tr z.st fun h3 y=>h h3 ⟨y.st,y.fr,y.tr,z.up.trans y.up⟩
end
structure Fly (P:Program) (w:World) (l:List Env) (H H':Hp) (h0:Heap) (e:Addr) (cls fl:Value) (h:Heap):Prop where
 B:∃ B:Heap,B.StaysIn h/\B.get? e=none/\h.FunFrames B l/\Trc h B e cls fl/\HOk P w H' B/\(∀ b o,h0.get? b=some o->H b=none->b∉frs l->B.get? b=some o)/\∀ b o,h0.get? b=some o->b∉frs l->∃ o',B.get? b=some o'
 slot:∀ b o,h0.get? b=some o->b∈frs l->∃ sl,h.get? b=some {o with slots:=sl}
 newe:h0.get? e=none
 frf:∀ b∈frs l,H' b=none
 free:∀ b o,h0.get? b=some o->H b=none->H' b=none
 tups:∀ b xs,H b=some (.tup xs)->H' b=some (.tup xs)
 frzs:∀ b o u,H b=some (.frz o u)->H' b=some (.frz o u)
 tbls:∀ b ps,H b=some (.tbl ps)->∃ more,H' b=some (.tbl (ps++more))
section
variable {P:Program} {w:World} {l:List Env} {H H':Hp} {h0 h h':Heap} {e:Addr} {cls fl fl':Value}
theorem Fly.hok (y:Fly P w l H H' h0 e cls fl h):HOk P w H' h:=by
 obtain ⟨B,b1,b2,b3,b4,b5,b6,b7⟩:=y.B
 exact b5.kept b1
theorem S6 {a:Addr} {o:HO} (x:ObjOk P w H h a o):∃ ob,h.get? a=some ob:=by
 cases o with
 | lst xs=>obtain ⟨_,_,_,_,e⟩:=x;exact ⟨_,e⟩
 | tup xs=>obtain ⟨_,_,_,ob,e,_⟩:=x;exact ⟨ob,e⟩
 | dK kvs=>obtain ⟨_,_,_,_,o,_,_,e,_⟩:=x;exact ⟨_,e⟩
 | dT kvs=>obtain ⟨_,_,_,_,o,_,_,e,_⟩:=x;exact ⟨_,e⟩
 | set S n=>obtain ⟨o,_,_,_,e,_⟩:=x;exact ⟨_,e⟩
 | ins C dx fs=>obtain ⟨_,_,_,e,_⟩:=x;exact ⟨_,e⟩
 | own y=>exact x
 | xd fs=>obtain ⟨_,⟨_,_,_,e,_⟩,_⟩:=x;exact ⟨_,e⟩
 | rng lo hi=>obtain ⟨_,_,_,e⟩:=x;exact ⟨_,e⟩
 | frz ob u=>obtain ⟨e,_⟩:=x;exact ⟨_,e⟩
 | tbl ps=>exact ⟨_,x⟩
 | met f y=>exact ⟨_,x⟩
 | ext φ=>obtain ⟨_,⟨_,e⟩,_⟩:=x;exact ⟨_,e⟩
theorem Fly.newH (y:Fly P w l H H' h0 e cls fl h):H' e=none:=by
 obtain ⟨B,b1,b2,b3,b4,b5,b6,b7⟩:=y.B
 cases q:H' e with
 | none=>rfl
 | some o=>
  obtain ⟨ob,z⟩:=S6 (b5 e o q)
  rw[b2] at z
  cases z
theorem Fly.un (y:Fly P w l H H' h0 e cls fl h):Un (frs l) [] H H' h0 h:=by
 obtain ⟨B,b1,b2,b3,b4,b5,b6,b7⟩:=y.B
 refine ⟨fun b o q n hb _=>b1 b o (b6 b o q n hb),fun b o q n hb _=>y.slot b o q hb,fun b o q n _=>y.free b o q n,fun b o q _=>?_,y.tups,y.frzs,y.tbls⟩
 by_cases hb:b∈frs l
 ·obtain ⟨sl,e⟩:=y.slot b o q hb
  exact ⟨_,e⟩
 ·obtain ⟨o',z⟩:=b7 b o q hb
  exact ⟨o',b1 b o' z⟩
end
section
variable {X:Cx} {pins:List (Addr×Obj)} {σ:L2.St} {H H':Hp} {s:Shared} {M:Model} {E:Value->Shared->Prop} {e:Addr} {cls fl:Value} {Q:Unit->Shared->Prop}
structure Own (X:Cx):Prop where
 st:X.stack=X.env::X.outer
 fr:X.env.frame=some X.env.locals
 ex:X.ex=[]
theorem Own.mem (o:Own X) {b:Addr}:b∈frs X.stack↔b=X.env.locals\/b∈frs X.outer:=by
 rw[o.st]
 unfold frs
 rw[List.filterMap_cons,o.fr]
 exact List.mem_cons
theorem Og (I:Inv X pins σ H s):HOk X.prog X.w H (hole s.heap (frs X.stack)):=fun a o e=>
 (I.hok a o e).stay (fun b u hb q=>by
  have hn:b∉frs X.stack:=fun z=>by
   have:=I.stkFree b z
   rcases hb with rfl | hb
   ·rw[e] at this;cases this
   ·rw[hb] at this;cases this
  rw[Cs,if_neg hn]
  exact q) (fun b q=>q) (fun b xs q=>q)
theorem Qz {h h':Heap} (k:∀ b o,h.get? b=some o->h'.get? b=some o):∀ b o,h.get? b=some o->∃ sl,h'.get? b=some {o with slots:=sl}:=fun b o q=>⟨o.slots,k b o q⟩
theorem Own.nst (o:Own X) (I:Inv X pins σ H s) {b:Addr} {ob:Obj} (q:X.s₀.heap.get? b=some ob) (hb:b∉frs X.outer):b∉frs X.stack:=by
 intro z
 rcases o.mem.mp z with z | z
 ·have h1:=Heap.lt_size q
  have h2:=I.ok.above
  rw[z] at h1
  exact absurd h1 (Nat.not_lt.mpr h2)
 ·exact hb z
theorem Own.back (o:Own X) (I:Inv X pins σ H s) {b:Addr} {ob:Obj} (q:X.s₀.heap.get? b=some ob) (n:X.H₀ b=none) (hb:b∉frs X.outer):s.heap.get? b=some ob/\b∉frs X.stack:=
 ⟨I.base.keep b ob q n hb (by rw[o.ex];simp),o.nst I q hb⟩
theorem Own.thr (o:Own X) (I:Inv X pins σ H s) {b:Addr} {ob:Obj} (q:X.s₀.heap.get? b=some ob):∃ o',s.heap.get? b=some o':=I.base.there b ob q (by rw[o.ex];simp)
theorem Own.fre (o:Own X) (I:Inv X pins σ H s) {b:Addr} {ob:Obj} (q:X.s₀.heap.get? b=some ob) (n:X.H₀ b=none):H b=none:=I.base.free b ob q n (by rw[o.ex];simp)
theorem U8 (o:Own X) (I:Inv X pins σ H s) {h1:Heap} {vs:List Value} (mk:s.heap.MadeExcOf h1 e cls vs) (hQ:∀ h',Fly X.prog X.w X.outer X.H₀ H X.s₀.heap e cls .none h'->Q () {s with heap:=h'}) :
  wpAny M X.A (leaving X.env (.ref e)) Q E {s with heap:=h1}:=by
 obtain ⟨t,e1,e2,e3⟩:=mk.there
 have hB:∀ b ob,(hole s.heap (frs X.stack)).get? b=some ob->s.heap.get? b=some ob:=fun b ob q=>by
  rw[Cs] at q
  split at q
  ·cases q
  ·exact q
 have fB:∀ b∈frs X.stack,(hole s.heap (frs X.stack)).get? b=none:=fun b hb=>by rw[Cs,if_pos hb]
 have ff:h1.FunFrames (hole s.heap (frs X.stack)) X.stack:=LV (Qz mk.keeps) I.stack fB
 have hst:=o.st
 have hBe:(hole s.heap (frs X.stack)).get? e=none:=by rw[Cs];split;rfl;exact mk.new
 refine QT (B:=hole s.heap (frs X.stack)) (outer:=X.outer) (L:=X.env.locals) (cls:=cls) (s:={s with heap:=h1}) (fun {Q} hq=>Tr (oe:={cls:=cls,data:=Data.fields #[Value.ref t,Value.none,Value.none,Value.none,Value.bool false,Value.none]}) (s:={s with heap:=h1}) (by rw[<-hst];exact I.ok.frames) (by rw[<-hst];exact ff) o.fr e1 rfl rfl rfl (fun b ob q=>mk.keeps b ob (hB b ob q)) hBe hq) fun h' lw=>hQ h' ?_
 obtain ⟨l1,l2,l3,l4⟩:=lw
 refine ⟨⟨hole s.heap (frs X.stack),l1,hBe,l2.2.2,l3,Og I,fun b ob q n hb=>?_,fun b ob q hb=>?_⟩,fun b ob q hb=>?_,?_,fun b hb=>I.stkFree b (o.mem.mpr (.inr hb)),fun b ob q n=>o.fre I q n,I.base.tups,I.base.frzs,I.base.tbls⟩
 ·obtain ⟨g1,g2⟩:=o.back I q n hb
  rw[Cs,if_neg g2]
  exact g1
 ·obtain ⟨o',g1⟩:=o.thr I q
  rw[Cs,if_neg (o.nst I q hb)]
  exact ⟨o',g1⟩
 ·obtain ⟨sl,g1⟩:=I.base.slot b ob q (I.ok.frf b hb) hb (by rw[o.ex];simp)
  obtain ⟨o',g2,g3⟩:=D2 I.ok.funs b hb
  rw[q] at g2
  cases g2
  obtain ⟨sl',g4⟩:=l4 b _ (mk.keeps b _ g1) g3
  exact ⟨sl',g4⟩
 ·cases q:X.s₀.heap.get? e with
  | none=>rfl
  | some ob=>
   obtain ⟨o',g⟩:=I.base.there e ob q (by rw[o.ex];simp)
   rw[mk.new] at g
   cases g
theorem LL (o:Own X) (I:Inv X pins σ H s) {s':Shared} (y:Fly X.prog X.w X.stack H H' s.heap e cls .none s'.heap) (hQ:∀ h',Fly X.prog X.w X.stack H H' s.heap e cls (rawInt X.env.locals) h'->Q () {s' with heap:=h'}) :
  wpAny M X.A (noteFrame (.ref e) X.env) Q E s':=by
 obtain ⟨B,b1,b2,b3,b4,b5,b6,b7⟩:=y.B
 have hst:=o.st
 refine RE (B:=B) (outer:=X.outer) (L:=X.env.locals) (cls:=cls) (by rw[<-hst];exact I.ok.frames) (by rw[<-hst];exact b3) o.fr b4 b1 b2 fun h' lw=>hQ h' ?_
 obtain ⟨l1,l2,l3,l4⟩:=lw
 rw[<-hst] at l2
 refine ⟨⟨B,l1,b2,l2,l3,b5,b6,b7⟩,fun b ob q hb=>?_,y.newe,y.frf,y.free,y.tups,y.frzs,y.tbls⟩
 obtain ⟨o',g2,g3⟩:=D2 I.stack b hb
 rw[q] at g2
 cases g2
 obtain ⟨sl2,g5⟩:=y.slot b _ q hb
 obtain ⟨sl',g4⟩:=l4 b _ g5 g3
 exact ⟨sl',g4⟩
theorem LF {A:Around} (I:Inv X pins σ H s) {s':Shared} (y:Fly X.prog X.w X.stack H H' s.heap e cls fl s'.heap) (hQ:∀ h',Fly X.prog X.w X.stack H H' s.heap e cls .none h'->Q () {s' with heap:=h'}) :
  wpAny M A (setFlight (.ref e) none) Q E s':=by
 obtain ⟨B,b1,b2,b3,b4,b5,b6,b7⟩:=y.B
 refine Hm b3 b4 b1 fun h' lw=>hQ h' ?_
 obtain ⟨l1,l2,l3,l4⟩:=lw
 refine ⟨⟨B,l1,b2,l2,l3,b5,b6,b7⟩,fun b ob q hb=>?_,y.newe,y.frf,y.free,y.tups,y.frzs,y.tbls⟩
 obtain ⟨o',g2,g3⟩:=D2 I.stack b hb
 rw[q] at g2
 cases g2
 obtain ⟨sl2,g5⟩:=y.slot b _ q hb
 obtain ⟨sl',g4⟩:=l4 b _ g5 g3
 exact ⟨sl',g4⟩
end
abbrev CXF (P:Program) (w:World):CXT:=fun outer H s E e s'=>∃ (a C:Addr) (H':Hp),e=.ref a/\E (.ref C) none H'/\s'.os=s.os/\AllBare s'.gens/\Fly P w outer H H' s.heap a (.ref C) .none s'.heap
theorem UV {K:PySem.W.Frag} {h:Heap} {C:Addr} {bmB:List Value} {newId:String} (kin:K.In h) (hx:PySem.W.excIn K C bmB newId=true) :
  ∃ bm N nm q bs hdct sn sub ab col dd k0 k1 k2 k3 k5 mN,h.get? C=some (excClassObj nm q C N bs bm hdct sn sub ab col dd k0 k1 k2 k3 k5 newId)/\h.Ns N mN/\mN "__init__"=none/\OwnTail h bmB bm:=by
 unfold PySem.W.excIn at hx
 split at hx
 case h_2=>cases hx
 rename_i dict cd sl hl
 split at hx
 case h_2=>cases hx
 rename_i C' bm k0 k1 k2 k3 n k5 em es
 simp only[Bool.and_eq_true,beq_iff_eq,Bool.not_eq_true'] at hx
 obtain ⟨⟨⟨⟨⟨rfl,rfl⟩,hd⟩,ht⟩,hn⟩,hi⟩:=hx
 obtain ⟨nm,bs,mro,N,q,hdct,sn,sub,ab,col,hdel⟩:=cd
 simp only at em hd ht hn hi
 subst em hd
 have ho:=kin _ _ hl
 have esl:sl=#[k0,k1,k2,k3,some (Value.builtin n),k5]:=by
  apply Array.toList_inj.mp
  rw[es]
 subst esl
 have i1:=PySem.W.isNs_of_in kin hn
 have i2:=PySem.W.nsMap_none_of_in kin hn hi
 exact ⟨bm,N,nm,q,bs,hdct,sn,sub,ab,col,dict,k0,k1,k2,k3,k5,h.nsMap N,ho,Heap.Ns.of_isNs i1,i2,PySem.W.tail_of_in kin ht⟩
section
variable {X:Cx} {E:XK}
def XeF (X:Cx) (E:XK):Prop:=X.xe=fun e s'=>wpAny (model X.prog X.w) X.A (leaving X.env e) (fun _ s''=>CXF X.prog X.w X.outer X.H₀ X.s₀ E e s'') (fun e' s''=>CXF X.prog X.w X.outer X.H₀ X.s₀ E e' s'') s'
def Te (X:Cx) (C:Addr) (E:XK) (ta:TA):TS:=fun _ σ H=>ta σ H fun vs H1=>vs.length<=sizeLine/\E (.ref C) none H1
theorem Ma {x:Str} {C:Addr} {bmB:List Value} {B newId initId:String} {np cpos pos:Pos} {e₀:Expr} {ta:TA} {name:Str} {scope:Scope} {L a:Addr} {cd:Value} (o:Own X) (hx:XeF X E) (henv:X.env=envOf name scope L a cd) (hk:scope.kind=.function) (hc:X.calm=true)
  (hg:(envOf name scope L a cd).kindOf x=some .globalImplicit) (hm:X.mg x=some (.ref C)) (hC:PySem.W.excIn X.K C bmB newId=true) (hB:ExcBaseFacts B newId initId bmB) (ha:PA X [e₀] ta)
  (hs:starEach [e₀] (envOf name scope L a cd)=(false,eval e₀ (envOf name scope L a cd))::starEach [] (envOf name scope L a cd):=by rfl) (hdb:(x == ("__debug__":Str))=false:=by decide) :
  PS X (.Raise (some (.Call (.Name x np) [e₀] [] cpos)) none pos) (Te X C E ta):=by
 intro pins s σ H D I h
 obtain ⟨m,fr⟩:=I.fr
 have own:OwnCls x C bmB newId X.mg X.base:=⟨hm,UV I.mod.kin hC⟩
 have hL:X.env.locals=L:=by rw[henv];rfl
 rw[hL] at fr
 rw[henv]
 have:=ha cpos pins s σ H _ I h
 rw[henv] at this
 refine Raise_own fr I.mod.glob own hB (I.ok.hd hc) (thn this fun us s2 ⟨vs,H1,I2,rv,q1,q3⟩=>⟨by rw[<-rv.length];exact q1,I2.bk,fun h' e mk=>?_⟩) hs rfl hk hg hdb
 rw[hx]
 exact U8 o I2 mk fun h'' y=>⟨e,C,H1,rfl,q3,I2.os,I2.bare,y⟩
end
def DR (e:Addr) (cls:Value):HO:=.ext fun h=>∃ o vs,h.get? e=some o/\o.cls=cls/\o.dict=none/\o.data=Data.fields vs
section
variable {P:Program} {w:World} {l:List Env} {X:Cx} {pins:List (Addr×Obj)} {σ:L2.St} {H H':Hp} {s:Shared} {h0 h:Heap} {e:Addr} {cls fl:Value}
theorem Fly.unE (y:Fly P w l H H' h0 e cls fl h) (o:HO):Un (frs l) [] H (upd H' e o) h0 h:=by
 have u:=y.un
 have ne:∀ {b u},H' b=some u->b≠e:=fun {b u} q z=>by
  rw[z,y.newH] at q
  cases q
 refine ⟨u.keep,u.slot,fun b ob q n hb=>?_,u.there,fun b xs q=>by rw[AY (ne (u.tups b xs q))];exact u.tups b xs q,fun b ob v q=>by rw[AY (ne (u.frzs b ob v q))];exact u.frzs b ob v q,fun b ps q=>?_⟩
 ·rw[AY (fun z=>by rw[z,y.newe] at q;cases q)]
  exact u.free b ob q n hb
 ·obtain ⟨more,g⟩:=u.tbls b ps q
  exact ⟨more,by rw[AY (ne g)];exact g⟩
theorem Fly.hokE (y:Fly P w l H H' h0 e cls fl h):HOk P w (upd H' e (DR e cls)) h:=by
 intro b ob q
 by_cases hb:b=e
 ·subst hb
  rw[A6] at q
  cases q
  obtain ⟨B,b1,b2,b3,⟨oe,vs,T,oT,ts,t1,t2,t3,t4,_⟩,b5,b6⟩:=y.B
  exact ⟨⟨oe,vs,t1,t2,t3,t4⟩,⟨oe,t1⟩,fun h1 h2 ⟨o,vs,g1,g2⟩ k=>⟨o,vs,k o g1,g2⟩⟩
 ·rw[AY hb] at q
  have he:=y.newH
  exact (y.hok b ob q).stay (fun _ _ _ z=>z) (fun c z=>by rw[AY (fun r=>by rw[r,he] at z;cases z)];exact z) (fun c xs z=>by rw[AY (fun r=>by rw[r,he] at z;cases z)];exact z)
theorem Fly.invE (I:Inv X pins σ H s) {s':Shared} (y:Fly X.prog X.w X.stack H H' s.heap e cls fl s'.heap) (ho:s'.os=s.os) (hg:AllBare s'.gens):Inv X pins σ (upd H' e (DR e cls)) s':=
 I.call' (ch:=[]) ho (y.unE _) y.hokE hg fun b hb=>absurd hb (by simp)
abbrev Xm (X:Cx) (e:Addr):Cx:={X with A:=X.A.mark (some (.ref e)),calm:=false,xe:=fun _ _=>False}
theorem Vc (ok:X.Ok) (e:Addr):(Xm X e).Ok:=
 ⟨ok.mod,ok.kind,ok.glob,ok.blt,ok.above,ok.inj,ok.has,ok.cab,(fun z=>nomatch z),ok.frames,ok.stk,ok.exf,ok.bs,ok.bsz,ok.noex,ok.exfs,ok.funs,ok.frf⟩
theorem Inv.m (I:Inv X pins σ H s) (e:Addr):Inv (Xm X e) pins σ H s:=⟨Vc I.ok e,I.os,I.bare,I.base,I.loc,I.cell,I.free,I.freeC,I.pin,I.hok,I.len⟩
theorem Inv.um {e:Addr} (ok:X.Ok) (I:Inv (Xm X e) pins σ H s):Inv X pins σ H s:=⟨ok,I.os,I.bare,I.base,I.loc,I.cell,I.free,I.freeC,I.pin,I.hok,I.len⟩
theorem Us {M:Model} {A:Around} {E:Value->Shared->Prop} {i:Nat} {x:Str} {pos:Pos} {Q:Unit->Shared->Prop} (I:Inv X pins σ H s) (hN:X.N.Nodup) (hi:X.N[i]?=some x) (hk:X.env.scope.names.lookup x=some .local)
  (h:∀ s',Inv X pins (σ.set i none) H s'->Q () s'):wpAny M A (do bindName X.env x .none;unbindBehindTheSuite X.env x pos) Q E s:=by
 obtain ⟨m,hn,hl⟩:=id I.loc
 have hcls:(X.env.scope.kind == .class || (X.env.scope.kind == .module && X.env.locals != X.env.globals))=false:=by rw[I.ok.kind];rfl
 have hiσ:i<σ.length:=by rw[I.len];exact (List.getElem?_eq_some_iff.mp hi).1
 have cne:=I.cne
 refine wpAny_nameGoes_keeps hk hn hcls fun h' v hn' hs=>?_
 obtain ⟨oL,_,_,hoL,_⟩:=id hn
 have tracked:HOk X.prog X.w H h':=fun b ob e=>by
  refine (I.hok b ob e).stay (fun c w' hc q=>(hs.2 c ?_).trans q) (fun _ q=>q) fun _ _ q=>q
  rintro rfl
  rcases hc with rfl | hc
  ·rw[I.free] at e;cases e
  ·rw[I.free] at hc;cases hc
 refine h _ ⟨I.ok,I.os,I.bare,⟨fun b o e n hb hx=>?_,fun b o e n hb hx=>?_,I.base.free,fun b o e hx=>?_,I.base.tups,I.base.frzs,I.base.tbls⟩,⟨_,hn',fun j y v' e1 e2 e3=>?_⟩,fun y c e=>?_,I.free,I.freeC,fun p hp=>?_,tracked,by simpa using I.len⟩
 ·exact (hs.2 b (Nat.ne_of_lt (Nat.lt_of_lt_of_le (Heap.lt_size e) I.ok.above))).trans (I.base.keep b o e n hb hx)
 ·obtain ⟨sl,e1⟩:=I.base.slot b o e n hb hx
  exact ⟨sl,(hs.2 b (Nat.ne_of_lt (Nat.lt_of_lt_of_le (Heap.lt_size e) I.ok.above))).trans e1⟩
 ·obtain ⟨o',e1⟩:=I.base.there b o e hx
  exact ⟨o',(hs.2 b (Nat.ne_of_lt (Nat.lt_of_lt_of_le (Heap.lt_size e) I.ok.above))).trans e1⟩
 ·by_cases hj:j=i
  ·subst hj
   rw[List.getElem?_set_self hiσ] at e2
   cases e2
  ·rw[List.getElem?_set_ne (Ne.symm hj)] at e2
   obtain ⟨u',r',q⟩:=hl j y v' e1 e2 e3
   refine ⟨u',r',?_⟩
   rcases q with ⟨k,e⟩ | ⟨k,c,e,z⟩
   ·refine .inl ⟨k,?_⟩
    have:y≠x:=fun e=>hj (IU hN e1 (e▸hi))
    simp[this,e]
   ·exact .inr ⟨k,c,e,z.sameBut hs (cne y c e)⟩
 ·obtain ⟨w',z⟩:=I.cell y c e
  exact ⟨w',z.sameBut hs (cne y c e)⟩
 ·obtain ⟨e,n,ne,nf,d⟩:=I.pin p hp
  exact ⟨(hs.2 p.1 ne).trans e,n,ne,nf,d⟩
end
theorem N1 {M:Model} {h:Heap} {a:Addr} {o:Obj} {cls:Value} (e:h.get? a=some o) (c:o.cls=cls):PySem.W.Looks M h (typeOf (.ref a)) cls:=by
 intro A Q E s k q
 unfold typeOf
 refine wpAny_bind (wpAny_load (k a o e) ?_)
 rw[<-c] at q
 exact wpAny_pure q
section
variable {X:Cx} {k:Nat} {f C CT:Addr} {fd:FuncData} {ps:List Str} {sp:Sp} {x T n:Str} {i:Nat} {p cpos epos tp hpos pos:Pos} {e:Expr} {es:List Expr} {ta:TA} {b₀:Stmt} {suite:List Stmt} {ts:Addr->TS}
end
theorem Ox {M:Model} {A:Around} {E:Value->Shared->Prop} {h:Heap} {g:Array GenState} {d:Drawn} {t:Nat} {os:OsState} {x D:Addr} {nameV:Value} {Q:Unit->Shared->Prop} (L0:PySem.W.Looks M h (typeOf (.ref x)) (.ref D)) (L1:PySem.W.Looks M h (isSubtype (.ref D) (.type "BaseException")) true)
  (q:Q () ⟨h,g,d,t,os⟩):wpAny M A (checkBuiltinCall "BaseException.__getattribute__" {pos:=[.ref x,nameV]}) Q E ⟨h,g,d,t,os⟩:=by
 have hk:builtinKind "BaseException.__getattribute__"=some Manifest.AttrKind.slot:=by with_unfolding_all rfl
 have hs:splitId "BaseException.__getattribute__"=some ("BaseException","__getattribute__"):=by with_unfolding_all rfl
 have ha:=PySem.F.args_bexc_ga (Value.ref x) nameV
 unfold checkBuiltinCall
 simp only[hk,hs]
 unfold isInstance
 refine wpAny_bind (wpAny_bind (PySem.W.Looks.at L0 (PySem.W.Looks.at L1 ?_)))
 refine wpAny_ite_false rfl ?_
 unfold argsOk at ha
 generalize Manifest.signature? "BaseException.__getattribute__"=sg at ha ⊢
 cases sg with
 | none=>exact wpAny_pure q
 | some sig=>exact wpAny_of_eq ha q
theorem Qs {prog:Program} {w:World} {A:Around} {E:Value->Shared->Prop} {s:Shared} {K:PySem.W.Frag} {x D:Addr} {ox:Obj} {Q:Option Value->Shared->Prop} (X:K.In s.heap) (I:PySem.W.InstAt s.heap x ox D none)
  (hga:PySem.W.findIn K (.ref D) "__getattribute__"=some (some (.builtin "BaseException.__getattribute__"))) (hgt:PySem.W.findIn K (.ref D) "__getattr__"=some none) (hsb:PySem.W.subIn K (.ref D) (.type "BaseException")=some true)
  (hfo:PySem.W.findObj K D none "__class__"=some (.bind (.builtin "getset_descriptor.__get__") (.builtin "object.__class__"))) (hmo:PySem.W.mroIn K D (.type "object")=some true)
  (h:Q (some (.ref D)) {s with toks:=s.toks+1}):wpAny (model prog w) A (getAttr? (.ref x) "__class__") Q E s:=by
 obtain ⟨hh,g,d,t,os⟩:=s
 have L0:=fun M=>PySem.W.InstAt.type (M:=M) I
 have L1:=fun M=>PySem.W.looks_findIn (M:=M) X hga
 have L2':=fun M=>PySem.W.looks_findIn (M:=M) X hgt
 have L3:=fun M=>PySem.W.looks_subIn (M:=M) X hsb
 have L4:=fun M=>PySem.W.looks_find (M:=M) X I hfo
 unfold getAttr? getAttrBy?
 refine wpAny_bind (wpAny_mkText (wpAny_bind (wpAny_attempt ?_)))
 unfold getAttrBy
 refine wpAny_holding (wpAny_bind (PySem.W.Looks.at (L0 _) (wpAny_bind (PySem.W.Looks.at (L1 _) ?_))))
 show wpAny _ _ (getAttrByItsOwn _ _ _ _ _ _) _ _ _
 unfold getAttrByItsOwn hookBefore
 refine wpAny_bind (wpAny_ite_true rfl (PySem.W.Looks.at (L2' _) ?_))
 refine wpAny_bind (wpAny_attempt (wpAny_holding ?_))
 unfold callGetattribute
 refine wpAny_ite_false rfl ?_
 unfold boundAndCalled
 refine wpAny_bind (wpAny_of_eq (PySem.F.attrBase_ValueError.ga.bind (Value.ref x)) ?_)
 refine wpAny_call (codeAny_call_builtin PySem.F.attrBase_ValueError.ga.plain PySem.F.entry_bexc_ga (Ox (L0 _) (L3 _) ?_))
 unfold Builtin.«object.__getattribute__»
 refine wpAny_bind ?_
 unfold slotArgs
 refine wpAny_ite_false rfl (wpAny_ite_false rfl (wpAny_pure ?_))
 refine wpAny_bind (wpAny_pure ?_)
 refine wpAny_bind (PySem.W.Looks.at (L0 _) ?_)
 refine wpAny_bind (PySem.W.Looks.at (L4 _) ?_)
 show wpAny _ _ (Builtin.ObjectAttr.bindTo _ _ _ _) _ _ _
 unfold Builtin.ObjectAttr.bindTo
 refine wpAny_bind (wpAny_holding (wpAny_call (PySem.W.class_get (s:=⟨hh,g,d,t+1,os⟩) X I hmo ?_)))
 refine wpAny_pure ?_
 exact PySem.W.handed_on rfl (wpAny_pure h)
def ExcAt (x:Addr) (cls:Value) (h:Heap):Prop:=∃ o vs,h.get? x=some o/\o.cls=cls/\o.dict=none/\o.data=Data.fields vs
structure ExcC (K:PySem.W.Frag) (D:Addr):Prop where
 lk:∃ dict cd sl,K.lookup D=some ⟨.type "type",dict,.cls cd,sl⟩
 ga:PySem.W.findIn K (.ref D) "__getattribute__"=some (some (.builtin "BaseException.__getattribute__"))
 gt:PySem.W.findIn K (.ref D) "__getattr__"=some none
 sb:PySem.W.subIn K (.ref D) (.type "BaseException")=some true
 fo:PySem.W.findObj K D none "__class__"=some (.bind (.builtin "getset_descriptor.__get__") (.builtin "object.__class__"))
 mo:PySem.W.mroIn K D (.type "object")=some true
theorem J4 {K:PySem.W.Frag} {x D:Addr} (c:ExcC K D):PySem.W.KitX K (.ref x) (.ref D) (ExcAt x (.ref D)) where
 ty:=fun M h X ⟨o,vs,e1,e2,_⟩=>N1 e1 e2
 it:=fun M h X _=>by
  obtain ⟨dict,cd,sl,lk⟩:=c.lk
  intro A Q E s k q
  unfold isType
  exact wpAny_bind (wpAny_loadPart (k D _ (X D _ lk)) (wpAny_pure q))
 ne:=fun h tp dd its n sl X q=>by
  obtain ⟨dict,cd,sl',lk⟩:=c.lk
  have hD:=X D _ lk
  refine Bool.eq_false_iff.mpr fun z=>?_
  have z:D=tp:=by simpa using z
  rw[z,q] at hD
  simp at hD
 ca:=fun {prog w A E Q s} X ⟨o,vs,e1,e2,e3,e4⟩ h=>by
  have I:PySem.W.InstAt s.heap x o D none:=⟨e1,e2,by unfold PySem.W.notCls;rw[e4],by rw[e3];trivial⟩
  exact Qs X I c.ga c.gt c.sb c.fo c.mo h
section
variable {X:Cx}
def OJ (K:PySem.W.Frag):List V->Hp->VK->Prop:=fun xs H Q=>∃ (a D:Addr) (c:V) (u:Value) (b:Bool),xs=[.ref a,c]/\RelV c u/\(∀ u',RelV c u'->u'=u)/\H a=some (DR a (.ref D))/\ExcC K D/\PySem.W.kitOne K (.ref D) u=some b/\Q (.bl b) H
theorem NR:Bq X (.builtin "isinstance") (OJ X.K):=by
 intro pins s σ H xs us Q I r h
 obtain ⟨a,D,c,u,b,rfl,rc,hu,ha,cD,hk,q⟩:=h
 obtain ⟨v,v',rfl,rv,rv'⟩:=vals2 r
 cases (show v=Value.ref a from rv)
 cases hu v' rv'
 have at_:ExcAt a (.ref D) s.heap:=(I.hok a _ ha).1
 exact PySem.W.kia_one (J4 cD) I.kIn at_ hk (fun z=>nomatch z) fun tk=>⟨.bl b,H,I.tok tk,rfl,q⟩
def S5 (K:PySem.W.Frag):List V->Hp->VK->Prop:=fun xs H Q=>∃ (a D p:Addr) (cs:List Addr) (b:Bool),xs=[.ref a,.ref p]/\H p=some (.tup (cs.map V.ref))/\H a=some (DR a (.ref D))/\ExcC K D/\PySem.W.kitAny K (.ref D) (cs.map Value.ref)=some b/\Q (.bl b) H
theorem J9:∀ {cs:List Addr} {us:List Value},Vals (cs.map V.ref) us->us=cs.map Value.ref
 | [],_,.nil=>rfl
 | _::_,_,.cons r t=>by
  rw[List.map_cons,<-J9 t]
  exact congrArg (·::_) r
theorem Tj:Bq X (.builtin "isinstance") (S5 X.K):=by
 intro pins s σ H xs us Q I r h
 obtain ⟨a,D,p,cs,b,rfl,hp,ha,cD,hk,q⟩:=h
 obtain ⟨v,v',rfl,rv,rv'⟩:=vals2 r
 cases (show v=Value.ref a from rv)
 cases (show v'=Value.ref p from rv')
 have at_:ExcAt a (.ref D) s.heap:=(I.hok a _ ha).1
 obtain ⟨_,its,rv,o,ho,hc,n,hd⟩:=I.hok p _ hp
 have ei:=J9 rv
 subst ei
 obtain ⟨oc,od,odt,osl⟩:=o
 cases (show oc=.type "tuple" from hc)
 cases (show odt=.seq (cs.map Value.ref).toArray n from hd)
 exact PySem.W.kia_tup (J4 cD) I.kIn at_ ho hk (fun z=>nomatch z) fun tk=>⟨.bl b,H,I.tok tk,rfl,q⟩
end
end XL
namespace Ev
open PySem
structure CalX (P:Program) (w:World) (K:PySem.W.Frag) (mg:Str->Option Value) (base:Heap) (x:Str) (lv:Nat) (f:Addr) (fd:FuncData) (ps:List Str) (sp:L2.Sp):Prop where
 G:L2.FnOk P w K mg base (XL.CXF P w) lv f fd ps sp
 b:L2.Binds K fd ps []
 k:PySem.W.keepIn K (.ref f)=true
 m:mg x=some (.ref f)
end Ev
namespace XL
open PySem PySem.Spec PyProof.Rows L2 Ev DL
abbrev MXs:=DS->Option DS
abbrev MX:=List SV->Gm->Option Gm
def tX (f:Fr) (m:MXs) (C:Addr) (E:XK):TS:=fun _ σ H=>∃ α s s1,RS f α s σ H/\s.lo<=s.Γ.length/\m s=some s1/\∀ α' σ' H',RS f α' s1 σ' H'->s1.lo=s.lo->Ext f α α' s.Γ s1.Γ H H'->E (.ref C) none H'
def teX (f:Fr) (m:MXs) (C:Addr) (E:XK):TE:=fun σ H _=>∃ α s s1,RS f α s σ H/\s.lo<=s.Γ.length/\m s=some s1/\∀ α' σ' H',RS f α' s1 σ' H'->s1.lo=s.lo->Ext f α α' s.Γ s1.Γ H H'->E (.ref C) none H'
def spX (K:PySem.W.Frag) (np:Nat) (C:Addr) (M:MX):Sp:=fun vs H _ E=>∃ (f:Fr) (α:Nat->Addr) (s:DS) (σ:L2.St) (ds:List SV) (Γ':Gm),f.K=K/\ds.length=np/\RS f α s σ H/\RepVs f α s.Γ H ds vs/\M ds s.Γ=some Γ' /\
 ∀ α' H',RS f α' {s with Γ:=Γ'} σ H'->Ext f α α' s.Γ Γ' H H'->E (.ref C) none H'
def Fe:MXs:=fun s=>some s
def xIf (mc:MT) (a r:MXs):MXs:=fun s=>(mc s).bind fun x=>if x.1=true then a x.2 else r x.2
def EH (m:MS) (a:MXs):MXs:=fun s=>(m s).bind fun o=>match o with
 | .nx s1=>a s1
 | _=>none
def Cp (M:MX) (ms:MA):MXs:=fun s=>(ms s).bind fun x=>(M x.1 x.2.Γ).map fun Γ'=>{x.2 with Γ:=Γ'}
def xNo:MXs:=fun _=>none
def xFn (n:Nat) (m:MXs):MX:=fun ds Γ=>(m ⟨EE n ds,Γ,Γ.length⟩).map fun s=>s.Γ.take Γ.length
section
variable {X:Cx} {f:Fr} {C:Addr} {E:XK} {pos:Pos}
theorem Nu {sts:List Stmt}:PSs X sts (tX f xNo C E):=PSs.imp GF fun D σ H ⟨α,s,s1,_,_,e,_⟩=>by cases e
theorem x_raise {x:Str} {bmB:List Value} {B newId initId:String} {np cpos rpos p1:Pos} {j:Nat} {a:Str} {rest:List Stmt} {name:Str} {scope:Scope} {L fa:Addr} {cd:Value} (o:Own X) (hx:XeF X E) (henv:X.env=envOf name scope L fa cd) (hk:scope.kind=.function) (hc:X.calm=true)
  (hg:(envOf name scope L fa cd).kindOf x=some .globalImplicit) (hm:X.mg x=some (.ref C)) (hC:PySem.W.excIn X.K C bmB newId=true) (hB:ExcBaseFacts B newId initId bmB)
  (hs:starEach [.Constant (.str a) j p1] (envOf name scope L fa cd)=(false,eval (.Constant (.str a) j p1) (envOf name scope L fa cd))::starEach [] (envOf name scope L fa cd):=by rfl) (hdb:(x == ("__debug__":Str))=false:=by decide) :
  PSs X (.Raise (some (.Call (.Name x np) [.Constant (.str a) j p1] [] cpos)) none rpos::rest) (tX f Fe C E):=
 PSs.imp (Ci (Ma o hx henv hk hc hg hm hC hB (BP Du B4) hs hdb) GF) fun D σ H hh_=>by
  obtain ⟨α,s,s1,rs,lo,e,q⟩:=hh_
  cases e
  exact ⟨(small (by decide):1<=sizeLine),q α σ H rs rfl .refl⟩
theorem Fj {c:Expr} {mc:MT} {a rest:List Stmt} {ma mr:MXs} (hf:f.K=X.K) (hc:DT X c mc) (ha:PSs X a (tX f ma C E)) (hr:PSs X rest (tX f mr C E)):PSs X (.If c a [] pos::rest) (tX f (xIf mc ma mr) C E):=
 PSs.imp (Ci (GR (hc f hf) ha HK) hr) fun D σ H hh_=>by
  obtain ⟨α,s,s1,rs,lo,e,q⟩:=hh_
  obtain ⟨x,h1,h2⟩:=bind_some e
  refine ⟨α,s,x,rs,lo,h1,fun α' H' rs' l' x'=>?_⟩
  split at h2
  ·rename_i c1
   rw[c1]
   exact K4 ⟨α',x.2,s1,rs',lo_le lo l' x',h2,fun α2 σ2 H2 r2 l2 x2=>q α2 σ2 H2 r2 (l2.trans l') (x'.trans x2)⟩
  ·rename_i c1
   rw[Bool.eq_false_iff.mpr c1]
   exact HB ⟨α',x.2,s1,rs',lo_le lo l' x',h2,fun α2 σ2 H2 r2 l2 x2=>q α2 σ2 H2 r2 (l2.trans l') (x'.trans x2)⟩
theorem IS {st:Stmt} {rest:List Stmt} {m:MS} {mr:MXs} (hf:f.K=X.K) (h:DSt X st m) (hr:PSs X rest (tX f mr C E)):PSs X (st::rest) (tX f (EH m mr) C E):=
 PSs.imp (Ci (h f hf) hr) fun D σ H hh_=>by
  obtain ⟨α,s,s1,rs,lo,e,q⟩:=hh_
  obtain ⟨o,h1,h2⟩:=bind_some e
  refine ⟨α,s,o,rs,lo,h1,?_⟩
  cases o with
  | nx s2=>
   intro α' σ' H' rs' l' x'
   exact ⟨α',s2,s1,rs',lo_le lo l' x',h2,fun α2 σ2 H2 r2 l2 x2=>q α2 σ2 H2 r2 (l2.trans l') (x'.trans x2)⟩
  | rt _ _=>cases h2
  | rf _ _=>cases h2
  | rp _ _ _=>cases h2
  | bk _=>cases h2
  | ct _=>cases h2
theorem M6 {e:Expr} {m:MXs} {rest:List Stmt} (h:PE X e (teX f m C E)):PSs X (.Return (some e) pos::rest) (tX f m C E):=
 PSs.imp (Ci (EM h) GF) fun D σ H h=>h
end
section
variable {P:Program} {w:World} {K:PySem.W.Frag} {mg:Str->Option Value} {base:Heap} {C:Addr}
theorem okF {x qual:Str} {st:Stmt} {f:Addr} {fd:FuncData} {N ps:List Str} {k:Nat} {sp:Sp} (F:Fun K x qual st f fd) (S:FnScope N ps (Ac st)) (len:∀ vs H Q E,sp vs H Q E->vs.length=ps.length)
  (hbody:∀ (cdv:Value) (A:Around) (outer:List Env) (s:Shared) (H:Hp) (vs:List V) (Q:VK) (E:XK),Room k (A.deeper (envOfC qual (Ac st) s.heap.objs.size f cdv))->sp vs H Q E ->
   ∃ t,PSs (C4 (CXF P w) P w K mg base N qual (Ac st) f cdv A outer s H E) (Cu st) t/\t {nx:=fun _ H'=>Q .non H',rt:=Q} (start N vs) H):FnOk P w K mg base (CXF P w) (k+1) f fd ps sp:=by
 obtain ⟨oc,od,kV,doc,pm,an,cdv,ct,osl,rfl,lk,hcd⟩:=F.ex
 exact KP lk hcd S len fun A outer s H vs Q E hr hsp=>hbody cdv A outer s H vs Q E hr hsp
theorem IT {x qual:Str} {st:Stmt} {fa:Addr} {fd:FuncData} {N ps:List Str} {k:Nat} {m:MXs} (F:Fun K x qual st fa fd) (S:FnScope N ps (Ac st))
  (hb:∀ (f:Fr),f.K=K->∀ (cdv:Value) (A:Around) (outer:List Env) (s:Shared) (H:Hp) (E:XK),Room k (A.deeper (PyProof.Rows.envOfC qual (Ac st) s.heap.objs.size fa cdv))->PSs (C4 (CXF P w) P w K mg base N qual (Ac st) fa cdv A outer s H E) (Cu st) (tX f m C E)) :
  FnOk P w K mg base (CXF P w) (k+1) fa fd ps (spX K ps.length C (xFn N.length m)):=by
 refine okF F S (fun vs H Q E h=>?_) (fun cdv A outer sh H vs Q E hr h=>?_)
 ·obtain ⟨f,α,s,σ,ds,r,_,hl,_,hv,_⟩:=h
  rw[hv.len,hl]
 obtain ⟨f,α,s,σ,ds,r,hK,hl,rs,hv,hM,q⟩:=h
 obtain ⟨s1,h1,rfl⟩:=Ah hM
 refine ⟨_,hb (inn f α s.Γ (fun _=>False) H (BQ rs Cn)) hK cdv A outer sh H E hr,α,_,s1,J0 rs hv,Nat.le_refl _,h1,fun α' σ' H' r' l' x'=>?_⟩
 obtain ⟨a1,a2,a3⟩:=rs.leave Cn r' l' x' (H1:=H') fun _ _=>rfl
 exact q α' H' a1 a2
end
structure ClsF (K:PySem.W.Frag) (mg:Str->Option Value) (cN cL c1 c2 c3 c4:Addr):Prop where
 mN:mg "NoNumber"=some (.ref cN)
 mL:mg "LotError"=some (.ref cL)
 m1:mg "NoDeed"=some (.ref c1)
 m2:mg "NoName"=some (.ref c2)
 m3:mg "NoRow"=some (.ref c3)
 m4:mg "NoText"=some (.ref c4)
 mV:mg "ValueError"=none
 ex:PySem.W.excIn K cN [.type "ValueError",.type "Exception",.type "BaseException",.type "object"] "ValueError.__new__"=true
 exm:PySem.W.exmOne K (.ref cN) (.ref cL)=some true
 ga:PySem.W.findIn K (.ref cN) "__getattribute__"=some (some (.builtin "BaseException.__getattribute__"))
 gt:PySem.W.findIn K (.ref cN) "__getattr__"=some none
 sb:PySem.W.subIn K (.ref cN) (.type "BaseException")=some true
 fo:PySem.W.findObj K cN none "__class__"=some (.bind (.builtin "getset_descriptor.__get__") (.builtin "object.__class__"))
 mo:PySem.W.mroIn K cN (.type "object")=some true
 any:PySem.W.kitAny K (.ref cN) [.ref c1,.ref c2,.ref c3,.ref c4]=some false
 val:PySem.W.kitOne K (.ref cN) (.type "ValueError")=some true
section
variable {X:Cx}
def tFs (a c:Str) (tx:TE):TE:=fun σ H Q=>tx σ H fun v H1=>∃ n:Int,v=.int n/\n.natAbs.log2<1920/\a.length+(Str.ofString (toString n)).length+c.length<=sizeLine/\Q (.str (a++Str.ofString (toString n)++c)) H1
theorem Rm {a c:Str} {x:Expr} {tx:TE} {j1 j2:Nat} {p1 p2 p3 pos:Pos} (hx:PE X x tx) (hal:a.length<=sizeLine):PE X (.JoinedStr [.Constant (.str a) j1 p1,.FormattedValue x (-1) none p2,.Constant (.str c) j2 p3] pos) (tFs a c tx):=by
 intro pins s σ H Q I h
 have l0:∀ z:Str,Str.empty++z=z:=fun z=>by
  show (⟨#[]++z.cps⟩:Str)=z
  simp
 have ap:∀ y z:Str,(y++z).length=y.length+z.length:=fun y z=>PySem.Str.length_append y z
 refine wpAny_JoinedStr (Joins_cons (thn (Du pins s σ H (fun v H1=>v=.str a/\H1=H) I ⟨rfl,rfl⟩) fun u s1 hh_=>?_))
 obtain ⟨v,H1,I1,rv,e1,e2⟩:=hh_
 subst e1 e2
 obtain ⟨t,rfl⟩:=(show ∃ t,u=Value.str a t from rv)
 refine ⟨a,t,rfl,by rw[l0];exact hal,?_⟩
 rw[l0]
 refine Joins_cons (wpAny_FormattedValue_plain (thn (hx pins s1 σ _ _ I1 h) fun u2 s2 hh_=>?_))
 obtain ⟨v2,H2,I2,rv2,n,e3,hn,hz,q⟩:=hh_
 subst e3
 obtain ⟨t2,rfl⟩:=(show ∃ t,u2=Value.int n t from rv2)
 refine wpAny_formatField_int hn ⟨_,_,rfl,by rw[ap];lia,?_⟩
 have I3:Inv X pins σ H2 {s2 with toks:=s2.toks+1+1}:=I2.tok _
 refine Joins_cons (thn (Du pins _ σ H2 (fun v H1=>v=.str c/\H1=H2) I3 ⟨rfl,rfl⟩) fun u s3 hh_=>?_)
 obtain ⟨v,H3,I4,rv3,e1,e2⟩:=hh_
 subst e1 e2
 obtain ⟨t3,rfl⟩:=(show ∃ t,u=Value.str c t from rv3)
 refine ⟨c,t3,rfl,by rw[ap,ap];exact hz,Joins_nil ⟨by rw[ap,ap];exact hz,?_⟩⟩
 exact ⟨.str _,_,I4.tok _,⟨_,rfl⟩,q⟩
end
section
variable {X:Cx} {f:Fr} {C:Addr} {E:XK} {pos:Pos}
theorem Qy {x y:Str} {n:Int} {tk:Tok} {bmB:List Value} {B newId initId:String} {np cpos rpos yp p1 p2 p3 jp:Pos} {j1 j2:Nat} {a c:Str} {rest:List Stmt} {name:Str} {scope:Scope} {L fa:Addr} {cd:Value} (o:Own X) (hx:XeF X E) (henv:X.env=envOf name scope L fa cd) (hk:scope.kind=.function) (hc:X.calm=true)
  (hg:(envOf name scope L fa cd).kindOf x=some .globalImplicit) (hm:X.mg x=some (.ref C)) (hC:PySem.W.excIn X.K C bmB newId=true) (hB:ExcBaseFacts B newId initId bmB) (hgy:Gl X y) (hmy:X.mg y=some (.int n tk)) (hn:n.natAbs.log2<1920) (hz:a.length+(Str.ofString (toString n)).length+c.length<=1000000) (hdy:(y == ("__debug__":Str))=false:=by decide)
  (hs:starEach [.JoinedStr [.Constant (.str a) j1 p1,.FormattedValue (.Name y yp) (-1) none p2,.Constant (.str c) j2 p3] jp] (envOf name scope L fa cd)=(false,eval (.JoinedStr [.Constant (.str a) j1 p1,.FormattedValue (.Name y yp) (-1) none p2,.Constant (.str c) j2 p3] jp) (envOf name scope L fa cd))::starEach [] (envOf name scope L fa cd):=by rfl) (hdb:(x == ("__debug__":Str))=false:=by decide) :
  PSs X (.Raise (some (.Call (.Name x np) [.JoinedStr [.Constant (.str a) j1 p1,.FormattedValue (.Name y yp) (-1) none p2,.Constant (.str c) j2 p3] jp] [] cpos)) none rpos::rest) (tX f Fe C E):=
 PSs.imp (Ci (Ma o hx henv hk hc hg hm hC hB (BP (Rm (D0 (v:=.int n) hgy hmy ⟨tk,rfl⟩ hdy) (small (by lia))) B4) hs hdb) GF) fun D σ H hh_=>by
  obtain ⟨α,s,s1,rs,lo,e,q⟩:=hh_
  cases e
  exact ⟨n,rfl,hn,small hz,(small (by decide):1<=sizeLine),q α σ H rs rfl .refl⟩
end
end XL
namespace XL
open PySem PySem.Spec PyProof.Rows L2
section
variable {X:Cx} {k:Nat} {f C CT:Addr} {fd:FuncData} {ps:List Str} {sp:Sp} {x y T n:Str} {i j:Nat} {p yp cpos epos tp hpos pos:Pos} {e:Expr} {es:List Expr} {ta:TA} {b₀:Stmt} {suite:List Stmt} {ts:Addr->TS}
def Ov (sp:Sp) (C:Addr) (i j:Nat) (ta:TA) (ts:Addr->TS):TS:=fun D σ H=>ta σ H fun vs H1=>sp vs H1 (fun v H2=>D.nx (σ.set j (some v)) H2) (fun c _ H2=>c=.ref C /\
 ∀ a:Addr,H2 a=none->ts a {nx:=fun σ' H'=>D.nx (σ'.set i none) H',rt:=fun _ _=>False} (σ.set i (some (.ref a))) (upd H2 a (DR a (.ref C))))
theorem OY (o:Own X) (hxe:X.xe=fun _ _=>False) (F:FnOk X.prog X.w X.K X.mg X.base (CXF X.prog X.w) k f fd ps sp) (hr:Room k X.A) (hg:Gl X x) (hm:X.mg x=some (.ref f)) (hk:PySem.W.keepIn X.K (.ref f)=true) (hb:Binds X.K fd ps [])
  (ha:PA X (e::es) ta) (hgT:Gl X T) (hmT:X.mg T=some (.ref CT)) (hex:PySem.W.exmOne X.K (.ref C) (.ref CT)=some true) (hN:X.N.Nodup) (hi:X.N[i]?=some n) (hn:X.env.scope.names.lookup n=some .local) (hj:X.N[j]?=some y) (hy:X.env.scope.names.lookup y=some .local)
  (hsu:∀ a,PSs (Xm X a) (b₀::suite) (ts a)) (hdb:(x == ("__debug__":Str))=false:=by decide) (hdT:(T == ("__debug__":Str))=false:=by decide)
  (he:starEach (e::es) X.env=(false,eval e X.env)::starEach es X.env:=by rfl) (hpl:(backTo cpos (starEach es X.env)).any (·.1)=false:=by rfl) (hsw:swapsWith (.Call (.Name x p) (e::es) [] cpos) (some (.Name y yp)) epos.line X.env=pure false:=by rfl) :
  PS X (.Try [.Assign [.Name y yp] (.Call (.Name x p) (e::es) [] cpos) epos] [.ExceptHandler (some (.Name T tp)) (some n) (b₀::suite) hpos] [] [] pos) (Ov sp C i j ta ts):=by
 intro pins s σ H D I h
 refine wpAny_Try_except (wpAny_execs_cons (wpAny_Assign_Name ?_ hsw))
 refine wpAny_Call_Name_kw (HL I hg hm ?_ hdb)
 refine PySem.W.callWith_K (h₀:=X.base) I.ok.mod.kin hk (wpAny_mono (ha cpos pins s σ H _ I h) (fun us s1 ⟨vs,H1,I1,r,q1⟩=>⟨I1.kIn,?_⟩) (fun _ _ z=>by rw[hxe] at z;exact z.elim)) he hpl
 have hl:us.length=ps.length:=by rw[<-r.length];exact F.len _ _ _ _ q1
 have hb':=hb s1 us I1.kIn (by rw[List.append_nil];exact hl)
 rw[List.append_nil] at hb'
 refine wpAny_call (codeAny_mono (F.run X.A X.stack s1 H1 ⟨us,[]⟩ us vs _ _ hr I1.env0 hb' r q1) fun rr s' hq=>?_)
 cases rr with
 | ok fl=>
  cases fl with
  | ret u=>
   obtain ⟨v2,H2,I2,r2,q2⟩:=I1.after hq
   exact Fv I2 hN hj (.inl hy) r2 (fun s5 I5=>wpAny_execs_nil (wpAny_execs_nil ⟨_,_,I5,q2⟩)) (.inr hy)
  | next=>exact False.elim hq
  | brk=>exact False.elim hq
  | cont=>exact False.elim hq
 | error ev=>
  obtain ⟨a,C',H2,rfl,⟨hC,q2⟩,os,bare,y⟩:=hq
  cases hC
  have hna:H2 a=none:=y.newH
  refine LL o I1 y fun h2 y2=>LF I1 (s':={s' with heap:=h2}) y2 fun h3 y3=>?_
  have I3:=y3.invE (s':={s' with heap:=h3}) I1 os bare
  refine wpAny_handleBy_cons (codeAny_handlers_test ?_) (fun z=>nomatch z)
  refine HL (X:=Xm X a) (XL.Inv.m I3 a) hgT hmT ?_ hdT
  obtain ⟨B,b1,b2,b3,⟨oe,vs',T',oT,tt,t1,t2,_⟩,b5,b6⟩:=y3.B
  refine PySem.W.exm_one I3.kIn (N1 t1 t2) hex _ _ _ _ (fun _ _ z=>z) ?_
  show codeAny _ _ _ _ _
  refine codeAny_handlers_suite_as ?_
  refine LF I1 (s':={s' with heap:=h3}) y3 fun h4 y4=>?_
  have I4:=y4.invE (s':={s' with heap:=h4}) I1 os bare
  refine Fv I4 hN hi (.inl hn) (v:=.ref a) rfl (fun s5 I5=>?_) (.inr hn)
  refine wpAny_mono (hsu a pins s5 _ _ _ (XL.Inv.m I5 a) (q2 a hna)) (fun fl s6 hf=>?_) (fun _ _ z=>z.elim)
  cases fl with
  | next=>
   obtain ⟨σ',H',I6,q⟩:=hf
   exact Us (XL.Inv.um I.ok I6) hN hi hn fun s7 I7=>⟨_,_,I7,q⟩
  | ret u=>
   obtain ⟨_,_,_,_,_,z⟩:=hf
   exact z.elim
  | brk=>
   obtain ⟨_,_,_,z⟩:=hf
   exact z.elim
  | cont=>
   obtain ⟨_,_,_,z⟩:=hf
   exact z.elim
end
def xeE (X:Cx) (E0:XK) (N':List Str) (sc:Scope) (s2:Shared) (H2:Hp) (cl:List (Str×Addr)) (C:Addr) (fp:List Addr):Value->Shared->Prop:=fun e s'=>∃ pins σ H s1,Inv (CH X N' sc s2 H2 cl C fp) pins σ H s1/\CXF X.prog X.w X.stack H s1 E0 e s'
abbrev Bp (X:Cx) (E0:XK) (N':List Str) (sc:Scope) (s2:Shared) (H2:Hp) (cl:List (Str×Addr)) (C:Addr) (fp:List Addr):Cx:=CD (xeE X E0 N' sc s2 H2 cl C fp) X N' sc s2 H2 cl C fp
section
variable {X:Cx} {E0:XK} {N':List Str} {sc:Scope} {s2:Shared} {H2:Hp} {cl:List (Str×Addr)} {C:Addr} {fp:List Addr}
theorem O2 (ok:(Bp X E0 N' sc s2 H2 cl C fp).Ok):(CH X N' sc s2 H2 cl C fp).Ok:=
 ⟨ok.mod,ok.kind,ok.glob,ok.blt,ok.above,ok.inj,ok.has,ok.cab,ok.hd,ok.frames,ok.stk,ok.exf,ok.bs,ok.bsz,ok.noex,ok.exfs,ok.funs,ok.frf⟩
theorem P8:HN (CXF X.prog X.w) (Bp X E0 N' sc s2 H2 cl C fp) E0:=fun pins σ H s e s' I h=>
 ⟨pins,σ,H,s,⟨O2 I.ok,I.os,I.bare,I.base,I.loc,I.cell,I.free,I.freeC,I.pin,I.hok,I.len⟩,h⟩
end
section
variable {M:Model} {A:Around} {E:Value->Shared->Prop} {s:Shared} {B:Heap} {env:Env} {outer:List Env} {L e:Addr} {cls fl:Value} {Q:Unit->Shared->Prop}
theorem O1 (hfr:A.frames=some (env::outer)) (hl:s.heap.FunFrames B (env::outer)) (hf:env.frame=some L) (tr:Trc s.heap B e cls fl) (st:B.StaysIn s.heap) (hB:B.get? e=none)
  (h:∀ fl' h',Step B (env::outer) e cls fl' s.heap h'->Q () {s with heap:=h'}):wpAny M A (noteFrame (.ref e) env) Q E s:=by
 obtain ⟨oe,tv,T,oT,ts,he,hc,hdi,hd,h1,hBT,hTe,hT,hdT,h3⟩:=id tr
 unfold noteFrame
 rw[hf]
 refine wpAny_bind (wpAny_field he hd h1 ?_)
 refine wpAny_bind (wpAny_field hT hdT h3 ?_)
 by_cases c:(fl == rawInt L)=true
 ·rw[if_pos c]
  exact wpAny_pure (h fl s.heap ⟨st,hl,tr,fun b o q nf=>⟨o.slots,q⟩⟩)
 ·rw[if_neg c]
  have h3':3<ts.size:=(Array.getElem?_eq_some_iff.mp h3).1
  have z:=GM (e:=e) (fl':=Value.none) hl st hT hdT h3' he hc hdi hd h1 hBT hTe
  refine wpAny_bind (wpAny_setField hT hdT h3' ?_)
  obtain ⟨oe',tv',T',oT',ts',he',hc',hdi',hd',h1',_⟩:=z.tr
  refine Jx (s:={s with heap:=s.heap.update T (Obj.mapFields fun x=>x.setIfInBounds 3 Value.none)}) (hadNext:=(Value.ref T != Value.none)) (head:=Value.ref T) hfr z.fr hf he' hd' (Array.getElem?_eq_some_iff.mp h1').1 hdi' z.st hB fun h' a b c d=>h _ h' ⟨a,b,hc'▸c,z.up.trans d⟩
theorem Qm (hfr:A.frames=some (env::outer)) (hl:s.heap.FunFrames B (env::outer)) (hf:env.frame=some L) (tr:Trc s.heap B e cls fl) (st:B.StaysIn s.heap) (hB:B.get? e=none)
  (h:∀ h',Step B (env::outer) e cls .none s.heap h'->Q () {s with heap:=h'}):wpAny M A (leaving env (.ref e)) Q E s:=by
 unfold leaving
 refine wpAny_bind (O1 hfr hl hf tr st hB fun fl' h2 z=>?_)
 exact Hm (s:={s with heap:=h2}) z.fr z.tr z.st fun h3 y=>h h3 ⟨y.st,y.fr,y.tr,z.up.trans y.up⟩
end
section
variable {X:Cx} {pins:List (Addr×Obj)} {σ:L2.St} {H H':Hp} {s:Shared} {M:Model} {E:Value->Shared->Prop} {e:Addr} {cls fl:Value} {Q:Unit->Shared->Prop}
theorem OA (o:Own X) (I:Inv X pins σ H s) {s':Shared} (y:Fly X.prog X.w X.stack H H' s.heap e cls fl s'.heap) (hQ:∀ h',Fly X.prog X.w X.outer X.H₀ H' X.s₀.heap e cls .none h'->Q () {s' with heap:=h'}) :
  wpAny M X.A (leaving X.env (.ref e)) Q E s':=by
 obtain ⟨B,b1,b2,b3,b4,b5,b6,b7⟩:=y.B
 have hst:=o.st
 refine Qm (B:=B) (outer:=X.outer) (L:=X.env.locals) (cls:=cls) (by rw[<-hst];exact I.ok.frames) (by rw[<-hst];exact b3) o.fr b4 b1 b2 fun h' lw=>hQ h' ?_
 obtain ⟨l1,l2,l3,l4⟩:=lw
 refine ⟨⟨B,l1,b2,l2.2.2,l3,b5,fun b ob q n hb=>?_,fun b ob q hb=>?_⟩,fun b ob q hb=>?_,?_,fun b hb=>y.frf b (o.mem.mpr (.inr hb)),fun b ob q n=>?_,fun b xs q=>y.tups b xs (I.base.tups b xs q),fun b ob u q=>y.frzs b ob u (I.base.frzs b ob u q),fun b ps q=>?_⟩
 ·obtain ⟨g1,g2⟩:=o.back I q n hb
  exact b6 b ob g1 (o.fre I q n) g2
 ·obtain ⟨o',g1⟩:=o.thr I q
  exact b7 b o' g1 (o.nst I q hb)
 ·obtain ⟨sl,g1⟩:=I.base.slot b ob q (I.ok.frf b hb) hb (by rw[o.ex];simp)
  obtain ⟨o',g2,g3⟩:=D2 I.ok.funs b hb
  rw[q] at g2
  cases g2
  obtain ⟨sl2,g5⟩:=y.slot b _ g1 (o.mem.mpr (.inr hb))
  obtain ⟨sl',g4⟩:=l4 b _ g5 g3
  exact ⟨sl',g4⟩
 ·cases q:X.s₀.heap.get? e with
  | none=>rfl
  | some ob=>
   obtain ⟨o',g⟩:=I.base.there e ob q (by rw[o.ex];simp)
   rw[y.newe] at g
   cases g
 ·obtain ⟨o',g1⟩:=o.thr I q
  exact y.free b o' g1 (o.fre I q n)
 ·obtain ⟨m1,g1⟩:=I.base.tbls b ps q
  obtain ⟨m2,g2⟩:=y.tbls b _ g1
  exact ⟨m1++m2,by rw[<-Array.append_assoc];exact g2⟩
theorem R7 {A:Around} (I:Inv X pins σ H s) {s':Shared} (y:Fly X.prog X.w X.stack H H' s.heap e cls fl s'.heap) (fr:Option Addr) (hQ:∀ fl' h',Fly X.prog X.w X.stack H H' s.heap e cls fl' h'->Q () {s' with heap:=h'}) :
  wpAny M A (setFlight (.ref e) fr) Q E s':=by
 obtain ⟨B,b1,b2,b3,⟨oe,tv,T,oT,ts,he,hc,hdi,hd,h1,hBT,hTe,hT,hdT,h3⟩,b5,b6,b7⟩:=y.B
 have h3':3<ts.size:=(Array.getElem?_eq_some_iff.mp h3).1
 unfold setFlight
 refine wpAny_bind (wpAny_field he hd h1 (wpAny_setField hT hdT h3' (hQ (fr.elim .none fun f=>rawInt f) _ ?_)))
 obtain ⟨l1,l2,l3,l4⟩:=GM (e:=e) (fl':=fr.elim .none fun f=>rawInt f) b3 b1 hT hdT h3' he hc hdi hd h1 hBT hTe
 refine ⟨⟨B,l1,b2,l2,l3,b5,b6,b7⟩,fun b ob q hb=>?_,y.newe,y.frf,y.free,y.tups,y.frzs,y.tbls⟩
 obtain ⟨o',g2,g3⟩:=D2 I.stack b hb
 rw[q] at g2
 cases g2
 obtain ⟨sl2,g5⟩:=y.slot b _ q hb
 obtain ⟨sl',g4⟩:=l4 b _ g5 g3
 exact ⟨sl',g4⟩
theorem Fly.drop {P:Program} {w:World} {l:List Env} {h0 h h':Heap} {C:Addr} (y:Fly P w l H H' h0 e cls fl h) (hC:∃ o,h0.get? C=some o) (hn:H C=none) (hl:C∉frs l) (sb:Heap.SameBut C h h'):Fly P w l H H' (hole h0 [C]) e cls fl h':=by
 obtain ⟨oC,hoC⟩:=hC
 obtain ⟨B,b1,b2,b3,b4,b5,b6,b7⟩:=y.B
 have g0:∀ {b o},(hole h0 [C]).get? b=some o->h0.get? b=some o/\b≠C:=fun {b o} q=>by
  rw[Cs] at q
  split at q
  ·cases q
  ·rename_i z
   exact ⟨q,fun e=>z (by rw[e];exact List.mem_cons_self)⟩
 have gB:∀ {b},b≠C->(hole B [C]).get? b=B.get? b:=fun {b} q=>by rw[Cs,if_neg (by simpa using q)]
 have gBC:(hole B [C]).get? C=none:=by rw[Cs,if_pos (by simp)]
 have same:∀ {b},b≠C->h'.get? b=h.get? b:=fun {b} q=>sb.2 b q
 have hBC:B.get? C=some oC:=b6 C oC hoC hn hl
 have hH'C:H' C=none:=y.free C oC hoC hn
 have eC:e≠C:=fun z=>by rw[z,hBC] at b2;cases b2
 refine ⟨⟨hole B [C],fun b u q=>?_,by rw[gB eC];exact b2,?_,?_,fun a o q=>?_,fun b u q n hb=>?_,fun b u q hb=>?_⟩,fun b u q hb=>?_,?_,y.frf,fun b u q n=>y.free b u (g0 q).1 n,y.tups,y.frzs,y.tbls⟩
 ·by_cases c:b=C
  ·rw[c,gBC] at q;cases q
  ·rw[gB c] at q
   rw[same c]
   exact b1 b u q
 ·have go:∀ (l':List Env),(∀ b∈frs l',b≠C)->h.FunFrames B l'->h'.FunFrames (hole B [C]) l':=by
   intro l'
   induction l' with
   | nil=>intro _ _;trivial
   | cons en r ih=>
    rintro hs ⟨k1,⟨L,o,e1,e2,e3,e4⟩,k2⟩
    have hL:L∈frs (en::r):=by unfold frs;rw[List.filterMap_cons,e1];exact List.mem_cons_self
    have cL:=hs L hL
    exact ⟨k1,⟨L,o,e1,by rw[gB cL];exact e2,by rw[same cL];exact e3,e4⟩,ih (fun b hb=>hs b (by unfold frs at *;rw[List.filterMap_cons,e1];exact List.mem_cons_of_mem _ hb)) k2⟩
  exact go l (fun b hb z=>hl (z▸hb)) b3
 ·obtain ⟨oe,vs,T,oT,ts,t1,t2,t3,t4,t5,t6,t7,t8,t9,t10⟩:=b4
  have TC:T≠C:=fun z=>by rw[z,hBC] at t6;cases t6
  exact ⟨oe,vs,T,oT,ts,by rw[same eC];exact t1,t2,t3,t4,t5,by rw[gB TC];exact t6,t7,by rw[same TC];exact t8,t9,t10⟩
 ·refine (b5 a o q).stay (fun b u hb z=>?_) (fun _ z=>z) fun _ _ z=>z
  have c:b≠C:=fun z=>by
   rcases hb with hb | hb
   ·rw[<-hb,z,hH'C] at q;cases q
   ·rw[z,hH'C] at hb;cases hb
  rw[gB c]
  exact z
 ·obtain ⟨q1,q2⟩:=g0 q
  rw[gB q2]
  exact b6 b u q1 n hb
 ·obtain ⟨q1,q2⟩:=g0 q
  rw[gB q2]
  exact b7 b u q1 hb
 ·obtain ⟨q1,q2⟩:=g0 q
  rw[same q2]
  exact y.slot b u q1 hb
 ·rw[Cs]
  split
  ·rfl
  ·exact y.newe
end
section
variable {X:Cx} {E0:XK} {elt tg src:Expr} {tests:List Expr} {sc esc:Scope} {cp:Pos} {g:TG} {tc:TT} {te:TE} {N tn fn:List Str} {ix:List Nat}
variable {wi:TI}
theorem T6 (o:Own X) (hx:XeF X E0) (hc:X.calm=true) (hsc:X.env.scope=esc) (hN:X.N=N) (ok:CompOk sc esc N fn ix) (hi:PI X tg src wi)
  (hg:∀ s2 H2 cl C fp,PG (Bp X E0 (tn++fn) sc s2 H2 cl C fp) tg g)
  (ht:∀ s2 H2 cl C fp,PTs (Bp X E0 (tn++fn) sc s2 H2 cl C fp) tests tc)
  (he:∀ s2 H2 cl C fp,PE (Bp X E0 (tn++fn) sc s2 H2 cl C fp) elt te)
  (hs:∀ x,foldedSetIterable src X.env x=pure x:=by intro _;rfl):PE X (.ListComp elt [⟨tg,src,tests,0⟩] sc cp) (FE wi tn.length ix g tc te):=by
 intro pins s σ H Q I h
 rw[eval_ListComp]
 obtain ⟨cl,hcl,hsub,hall⟩:=JG (sc:=sc) (ev:=X.env) fun x hx hf=>I.ok.has x.1 (by have z:=ok.frees x hx hf;rw[<-hsc] at z;exact z)
 refine wpAny_comprehension_free (use:=none) rfl hs hcl ok.kind ok.locs (thn (hi pins s σ H _ I h) fun xv s1 h1=>thn h1 fun itv s2 h2=>?_)
 obtain ⟨it,fp,tu,J,H2,e,I2,T,st2,f2,hq⟩:=h2
 subst e
 refine Hf (xe:=fun s2 H2 cl C fp=>xeE X E0 (tn++fn) sc s2 H2 cl C fp) (q:=fun l H'=>Q (.ref l) H') (RR:=fun acc C=>compPost (model X.prog X.w) X.A X.xe none (EP X pins σ Q) acc C) hc hsc hN ok hsub hall hg ht he I2 T st2 f2 hq (fun C l e s8 hCle z=>?_) fun C l s4 H3 m I4 hn fC q4=>?_
 ·obtain ⟨pn',σ',H7,s7,I0,a,D,H',rfl,hE,os,bare,y⟩:=z
  have I7:Inv X pins σ H7 s7:=I2.call' (ch:=fp) I0.os I0.base I0.hok I0.bare fun b hb=>by
   obtain ⟨_,a1,_,a3,a4,a5⟩:=f2 b hb
   exact ⟨a3,a1,a4,a5⟩
  obtain ⟨mC,hnC',_⟩:=id I0.loc
  have fC:=I2.fpOk hCle I0.free
  obtain ⟨a0,a1,a2,a3,a4,a5⟩:=fC
  show wpAny _ _ (noteFrame (.ref a) X.env) _ _ s8
  refine LL o I7 y fun h2 y2=>?_
  have hnC:C∉frs X.stack:=fun z=>by
   rcases o.mem.mp z with z | z
   ·exact a1 z
   ·exact a2 z
  have hnC':s7.heap.Ns C mC:=hnC'
  obtain ⟨oC,_,_,hoC,_⟩:=id hnC'
  obtain ⟨B,b1,b2,b3,b4,b5,b6,b7⟩:=id y2.B
  have hBC:=b6 C oC hoC a0 hnC
  refine ⟨mC,hnC'.at' fun o e=>?_,fun h' sb cenv hcl=>?_⟩
  ·rw[hoC] at e
   cases e
   exact b1 C oC hBC
  have y3:=y2.drop ⟨oC,hoC⟩ a0 hnC sb
  have I8:Inv X pins σ H7 {s7 with heap:=hole s7.heap [C]}:=I7.turned (t':=s7.toks) (fun b o hb e=>by rw[Cs,if_neg (by simpa using hb)];exact e) a0 a1 a3 a4 a5
  obtain ⟨B',c1,c2,c3,⟨oe,tv,T,oT,ts,he,_,_,hd,h1,_⟩,c5,c6,c7⟩:=id y3.B
  unfold PySem.passOn
  refine wpAny_bind (wpAny_field (s:={s8 with heap:=h'}) he hd h1 ?_)
  show wpAny _ _ (setFlight (.ref a) cenv.frame >>= fun _=>throw (.ref a)) _ _ _
  refine wpAny_bind (R7 (s':={s8 with heap:=h'}) I8 y3 cenv.frame fun fl' h4 y4=>wpAny_throw ?_)
  rw[hx]
  exact OA o I8 (s':={s8 with heap:=h4}) y4 fun h5 y5=>⟨a,D,H',rfl,hE,os.trans I7.os,bare,y5⟩
 ·obtain ⟨a0,a1,_,a3,a4,a5⟩:=fC
  exact ⟨m,hn,fun h' sb=>⟨.ref l,H3,I4.turned (t':=s4.toks) (fun b o hb e=>(sb.2 b hb).trans e) a0 a1 a3 a4 a5,rfl,q4⟩⟩
end
end XL
namespace XL
open PySem PySem.Spec PyProof.Rows L2 Ev DL
def DK (g:MG) (t:MT) (e:ME) (ex:MXs):List D->List (Option SV)->Gm->Option Gm
 | [],_,_=>none
 | d::r,τ,Γ=>(g d ⟨τ,Γ,Γ.length⟩).bind fun s1=>(t s1).bind fun b=>
  if b.1=true then match e b.2 with
   | some (.v _,s4)=>if s4.Γ.length=Γ.length then DK g t e ex r s4.σ s4.Γ else none
   | some _=>none
   | none=>(ex b.2).bind fun s4=>if s4.Γ.length=Γ.length then some s4.Γ else none
  else if b.2.Γ.length=Γ.length then DK g t e ex r b.2.σ b.2.Γ else none
def En (mi:MF) (nt:Nat) (ix:List Nat) (g:MG) (t:MT) (e:ME) (ex:MXs):MXs:=fun s=>(mi s).bind fun r=>
 if r.1.length<=big then (DK g t e ex r.1 (DY nt ix r.2.σ) r.2.Γ).map fun Γ'=>{r.2 with Γ:=Γ'} else none
def xOr (K:PySem.W.Frag) (e:ME) (ex:MXs) (C:Addr) (E:XK):TE:=fun σ H Q=>xD K e σ H Q\/∃ f:Fr,f.K=K/\teX f ex C E σ H Q
section
variable {f:Fr} {α α':Nat->Addr} {s s':DS} {σ σ':L2.St} {H H' Hh H1:Hp} {X:Cx} {pos:Pos}
inductive CX (f:Fr) (α1:Nat->Addr) (s1:DS) (σ:L2.St) (H1:Hp) (g:MG) (t:MT) (e:ME) (ex:MXs) (items:List D) (Γ':Gm) (l:Addr) (i:Nat) (τ':L2.St) (Hi:Hp):Prop
 | mk (αi:Nat->Addr) (Γi:Gm) (τ:List (Option SV)) (H2:Hp) (acc:List D) (vs:List V):Hi=upd H2 l (.lst vs)->H2 l=none->RS f αi {s1 with Γ:=Γi} σ H2->Ext f α1 αi s1.Γ Γi H1 H2->Γi.length=s1.Γ.length->Reps (wd f αi Γi H2) acc vs->acc.length<=i ->
   τ.length=τ'.length->(∀ (j:Nat) (d:SV),τ[j]?=some (some d)->∃ v,τ'[j]?=some (some v)/\RepV f αi Γi H2 d v)->DK g t e ex (items.drop i) τ Γi=some Γ'->CX f α1 s1 σ H1 g t e ex items Γ' l i τ' Hi
theorem UR {mi:MF} {nt:Nat} {ix:List Nat} {g:MG} {t:MT} {e:ME} {ex:MXs} {C:Addr} {E:XK} {Q:VK} (h:teX f (En mi nt ix g t e ex) C E σ H Q):FE (tDI f mi) nt ix (xG f.K g) (xT f.K t) (xOr f.K e ex C E) σ H Q:=by
 obtain ⟨α,s,r,rs,lo,e0,q⟩:=h
 obtain ⟨⟨items,s1⟩,h1,e0⟩:=bind_some e0
 split at e0
 case isFalse=>cases e0
 rename_i hbig
 obtain ⟨Γ',h2,rfl⟩:=Ah e0
 refine ⟨α,s,_,rs,lo,h1,fun J α1 H1 rs1 l1 x1 it l hl=>?_⟩
 refine Ki items.length (fun i τ' Hi=>CX f α1 s1 σ H1 g t e ex items Γ' l i τ' Hi) ?_ ?_ ?_ ?_ ?_
 ·exact ⟨α1,s1.Γ,DY nt ix s1.σ,H1,[],[],rfl,hl,rs1,.refl,rfl,.nil,Nat.le_refl _,(Gi rs1 nt ix).1,(Gi rs1 nt ix).2,h2⟩
 ·rintro i τ' Hi hi ⟨αi,Γi,τ,H2,acc,vs,rfl,hl2,ri,xi,lenΓ,hacc,hai,hτl,hτ,hgo⟩
  exact it.go i αi _ σ H2 _ hi ri xi fun a o h=>by rw[AY (Bu h hl2)];exact h
 ·rintro τ' Hi ⟨αi,Γi,τ,H2,acc,vs,rfl,hl2,ri,xi,lenΓ,hacc,hai,hτl,hτ,hgo⟩
  exact it.stop αi _ σ H2 _ ri xi fun a o h=>by rw[AY (Bu h hl2)];exact h
 ·rintro i x τ' Hi H3 hi ⟨αi,Γi,τ,H2,acc,vs,rfl,hl2,ri,xi,lenΓ,hacc,hai,hτl,hτ,hgo⟩ y
  have hd:items[i]?=some items[i]:=List.getElem?_eq_getElem hi
  rw[List.drop_eq_getElem_cons hi] at hgo
  obtain ⟨s2,g2,hgo⟩:=bind_some hgo
  obtain ⟨b,t2,hgo⟩:=bind_some hgo
  have fin:∀ {H2':Hp},H2' l=none->RS f αi {s1 with Γ:=Γi} σ H2'->Ext f αi αi Γi Γi H2 H2'->Rep (wd f αi Γi H2') items[i] x ->
    xG f.K g x τ' (upd H2' l (.lst vs)) fun σ2 H2=>xT f.K t σ2 H2 fun b H3=>if b=true then xOr f.K e ex C E σ2 H3 fun v H4=>∃ xs,H4 l=some (.lst xs)/\xs.length<sizeLine/\CX f α1 s1 σ H1 g t e ex items Γ' l (i+1) σ2 (upd H4 l (.lst (xs++[v]))) else CX f α1 s1 σ H1 g t e ex items Γ' l (i+1) σ2 H3:=fun {H2'} hl2' ri' x2' hr=>by
   have ov:Over (fun a=>a=l) H2' (upd H2' l (.lst vs)):=⟨fun a h=>AY h,fun a h=>by rw[h];exact hl2',fun a h=>by rw[h,A6];exact fun z=>nomatch z⟩
   have en:=ri'.enter ov hτl fun j d h=>let ⟨v,a,b⟩:=hτ j d h;⟨v,a,b.ext x2'⟩
   have back:∀ {s5:DS} {α5:Nat->Addr} {σ5:L2.St} {H5:Hp},RS (inn f αi Γi (fun a=>a=l) (upd H2' l (.lst vs)) (BQ ri' ov)) α5 s5 σ5 H5->s5.lo=Γi.length->Ext (inn f αi Γi (fun a=>a=l) (upd H2' l (.lst vs)) (BQ ri' ov)) αi α5 Γi s5.Γ (upd H2' l (.lst vs)) H5->s5.Γ.length=Γi.length ->
     H5 l=some (.lst vs)/\RS f α5 {s1 with Γ:=s5.Γ} σ (del H5 l)/\Ext f α1 α5 s1.Γ s5.Γ H1 (del H5 l)/\Reps (wd f α5 s5.Γ (del H5 l)) acc vs/\(∀ (j:Nat) (d:SV),s5.σ[j]?=some (some d)->∃ v,σ5[j]?=some (some v)/\RepV f α5 s5.Γ (del H5 l) d v) /\
     ∀ d v,Rep (wd (inn f αi Γi (fun a=>a=l) (upd H2' l (.lst vs)) (BQ ri' ov)) α5 s5.Γ H5) d v->Rep (wd f α5 s5.Γ (del H5 l)) d v:=fun {s5 α5 σ5 H5} r5 l5 x5 len5=>by
    obtain ⟨lv1,lv2,lv3⟩:=ri'.leave ov r5 l5 x5 (H1:=del H5 l) fun a h=>C7 h
    have tk:s5.Γ.take Γi.length=s5.Γ:=take_all len5
    simp only at lv1 lv2 lv3
    rw[tk] at lv1 lv2 lv3
    refine ⟨r5.fr l _ A6 fun ⟨n,xs,e1,e2⟩=>?_,lv1,(xi.trans x2').trans lv2,(hacc.kw x2'.kw).kw lv2.kw,fun j d h=>?_,fun d v h=>h.kw lv3⟩
    ·obtain ⟨us,z,_⟩:=ri'.box n xs e1
     rw[e2,hl2'] at z
     cases z
    ·obtain ⟨v,a,b⟩:=r5.slot j d h
     refine ⟨v,a,?_⟩
     cases d with
     | v d=>exact Rep.kw lv3 (show Rep _ d v from b)
     | b n=>exact b
     | p n d=>
      obtain ⟨h0,a',w,h1,h2,h3,h4⟩:=b
      obtain ⟨k1,k2⟩:=lv3.keep a' _ h2 h3
      exact ⟨h0,a',w,h1,k2,k1,h4.kw lv3⟩
   refine ⟨(inn f αi Γi (fun a=>a=l) (upd H2' l (.lst vs)) (BQ ri' ov)),rfl,αi,_,_,s2,en,Nat.le_refl _,Rep.kw (Ez ri' ov) hr,g2,fun σ2 r2 l2 G2=>?_⟩
   refine ⟨(inn f αi Γi (fun a=>a=l) (upd H2' l (.lst vs)) (BQ ri' ov)),rfl,αi,s2,b,r2,by rw[l2,G2];exact Nat.le_refl _,t2,fun α3 H3 r3 l3 x3=>?_⟩
   have x3':Ext (inn f αi Γi (fun a=>a=l) (upd H2' l (.lst vs)) (BQ ri' ov)) αi α3 Γi b.2.Γ (upd H2' l (.lst vs)) H3:=by
    have z:=x3
    rw[G2] at z
    exact z
   split at hgo
   ·rename_i cb
    dsimp only
    rw[if_pos cb]
    cases e4:e b.2 with
    | none=>
     rw[e4] at hgo
     obtain ⟨s4,e5,hgo⟩:=bind_some hgo
     split at hgo
     case isFalse=>cases hgo
     rename_i len4
     cases hgo
     refine .inr ⟨(inn f αi Γi (fun a=>a=l) (upd H2' l (.lst vs)) (BQ ri' ov)),rfl,α3,b.2,s4,r3,by rw[l3,l2];exact x3'.m,e5,fun α4 σ4 H4 r4 l4 x4=>?_⟩
     obtain ⟨b1,b2,b3,b4,b5,b6⟩:=back r4 (l4.trans (l3.trans l2)) (x3'.trans x4) len4
     have eH:upd (del H4 l) l (.lst vs)=H4:=by
      funext a
      by_cases z:a=l
      ·rw[z,A6];exact b1.symm
      ·rw[AY z,C7 z]
     have rz:=b2.new (o:=.lst vs) (EI (H:=H4) (a:=l))
     have xz:=Ext.new (o:=.lst vs) b2 (EI (H:=H4) (a:=l))
     rw[eH] at rz xz
     exact q α4 σ H4 rz l1 ((x1.trans b3).trans xz)
    | some xs4=>
    obtain ⟨xv,s4⟩:=xs4
    rw[e4] at hgo
    refine .inl ⟨(inn f αi Γi (fun a=>a=l) (upd H2' l (.lst vs)) (BQ ri' ov)),rfl,α3,b.2,_,r3,by rw[l3,l2];exact x3'.m,e4,fun α4 v H4 r4 l4 x4 hv=>?_⟩
    cases xv with
    | b n=>cases hgo
    | p n d=>cases hgo
    | v yv=>
     simp only at hgo
     split at hgo
     case isFalse=>cases hgo
     rename_i len4
     obtain ⟨b1,b2,b3,b4,b5,b6⟩:=back r4 (l4.trans (l3.trans l2)) (x3'.trans x4) len4
     refine ⟨vs,b1,Nat.lt_of_le_of_lt (by rw[hacc.len];exact Nat.le_of_lt (Nat.lt_of_le_of_lt hai hi)) (Ep hbig),α4,s4.Γ,s4.σ,del H4 l,acc++[yv],vs++[v],?_,EI,b2,b3,len4.trans lenΓ,b4.append (.cons (b6 _ _ hv) .nil),by rw[List.length_append];simpa using hai,r4.len,b5,hgo⟩
     funext a
     by_cases z:a=l
     ·rw[z,A6,A6]
     ·rw[AY z,AY z,C7 z]
   ·rename_i cb
    dsimp only
    rw[if_neg cb]
    split at hgo
    case isFalse=>cases hgo
    rename_i len4
    obtain ⟨b1,b2,b3,b4,b5,b6⟩:=back r3 (l3.trans l2) x3' len4
    exact ⟨α3,b.2.Γ,b.2.σ,del H3 l,acc,vs,(JS b1).symm,EI,b2,b3,len4.trans lenΓ,b4,Nat.le_succ_of_le hai,r3.len,b5,hgo⟩
  rcases it.yl i _ x αi _ σ H2 _ H3 hd ri xi (fun a o h=>by rw[AY (Bu h hl2)];exact h) y with ⟨rfl,hr⟩ | ⟨T,u,hT,rfl,hr⟩
  ·exact fin hl2 ri .refl hr
  ·have lT:l≠T:=fun z=>by rw[<-z,A6] at hT;cases hT
   have hT2:H2 T=none:=by rw[AY (Ne.symm lT)] at hT;exact hT
   have z:=fin (H2':=upd H2 T u) (by rw[AY lT];exact hl2) (ri.new hT2) (.new ri hT2) hr
   have e2:upd (upd H2 l (.lst vs)) T u=upd (upd H2 T u) l (.lst vs):=by
    funext a
    by_cases z1:a=T
    ·rw[z1,A6,AY (Ne.symm lT),A6]
    ·by_cases z2:a=l
     ·rw[z2,AY lT,A6,A6]
     ·rw[AY z1,AY z2,AY z2,AY z1]
   rw[e2]
   exact z
 ·rintro τ' Hi ⟨αi,Γi,τ,H2,acc,vs,rfl,hl2,ri,xi,lenΓ,hacc,hai,hτl,hτ,hgo⟩
  rw[List.drop_length] at hgo
  cases hgo
theorem J8 {elt tg src:Expr} {tests:List Expr} {sc esc:Scope} {cp:Pos} {N tn fn:List Str} {ix:List Nat} {mi:MF} {g:MG} {t:MT} {e:ME} {ex:MXs} {C:Addr} {E:XK} (hf:f.K=X.K) (o:Own X) (hx:XeF X E) (hc:X.calm=true) (hsc:X.env.scope=esc) (hN:X.N=N) (ok:CompOk sc esc N fn ix) (hi:DI X tg src mi)
  (hg:∀ s2 H2 cl C fp,DG (Bp X E (tn++fn) sc s2 H2 cl C fp) tg g)
  (ht:∀ s2 H2 cl C fp,DTs (Bp X E (tn++fn) sc s2 H2 cl C fp) tests t)
  (he:∀ s2 H2 cl C fp,DE (Bp X E (tn++fn) sc s2 H2 cl C fp) elt e)
  (hex:∀ f:Fr,f.K=X.K->∀ s2 H2 cl C' fp,PE (Bp X E (tn++fn) sc s2 H2 cl C' fp) elt (teX f ex C E))
  (hs:∀ x,foldedSetIterable src X.env x=pure x:=by intro _;rfl):PE X (.ListComp elt [⟨tg,src,tests,0⟩] sc cp) (teX f (En mi tn.length ix g t e ex) C E):=
 PE.imp (T6 (E0:=E) (g:=xG X.K g) (tc:=xT X.K t) (te:=xOr X.K e ex C E) o hx hc hsc hN ok (hi f hf) (fun s2 H2 cl C fp=>(hg s2 H2 cl C fp).x) (fun s2 H2 cl C fp=>(ht s2 H2 cl C fp).x)
  (fun s2 H2 cl C' fp pins s σ H Q I h=>h.elim (fun h=>(he s2 H2 cl C' fp).x pins s σ H Q I h) fun ⟨f',hf',h⟩=>hex f' hf' s2 H2 cl C' fp pins s σ H Q I h) hs) fun σ H Q h=>by
  rw[<-hf]
  exact UR h
theorem Ln {x:Str} {p:Pos} {e:Expr} {es:List Expr} {fa:Addr} {fd:FuncData} {ps:List Str} {k np:Nat} {M:MX} {ms:MA} {C C':Addr} {E:XK} {N':List Str} {sc:Scope} {s2:Shared} {H2:Hp} {cl:List (Str×Addr)} {fp:List Addr} (hf:f.K=X.K) (F:FnOk X.prog X.w X.K X.mg X.base (CXF X.prog X.w) k fa fd ps (spX X.K np C M)) (hr:Room k X.A) (hg:Gl (Bp X E N' sc s2 H2 cl C' fp) x) (hm:X.mg x=some (.ref fa)) (hk:PySem.W.keepIn X.K (.ref fa)=true) (hb:Binds X.K fd ps [])
  (ha:DA (Bp X E N' sc s2 H2 cl C' fp) (e::es) ms) (hn:Ar ms np) (hdb:(x == ("__debug__":Str))=false:=by decide) (he:starEach (e::es) (Bp X E N' sc s2 H2 cl C' fp).env=(false,eval e (Bp X E N' sc s2 H2 cl C' fp).env)::starEach es (Bp X E N' sc s2 H2 cl C' fp).env:=by rfl) (hpl:(backTo pos (starEach es (Bp X E N' sc s2 H2 cl C' fp).env)).any (·.1)=false:=by rfl) :
  PE (Bp X E N' sc s2 H2 cl C' fp) (.Call (.Name x p) (e::es) [] pos) (teX f (Cp M ms) C E):=PE.imp (HQ (X:=Bp X E N' sc s2 H2 cl C' fp) (E:=E) F hr hg hm hk hb .nil P8 (ha f hf) hdb he hpl) fun σ H Q hh_=>by
 obtain ⟨α,s,s1,rs,lo,e0,q⟩:=hh_
 obtain ⟨y,h1,e0⟩:=bind_some e0
 obtain ⟨z,h2,rfl⟩:=Ah e0
 refine ⟨α,s,y,rs,lo,h1,fun α1 vs H1 rs1 l1 x1 hv=>?_⟩
 dsimp only
 rw[List.append_nil]
 exact ⟨f,α1,y.2,σ,y.1,z,hf,hn _ _ h1,rs1,hv,h2,fun α2 H2 rs2 x2=>q α2 σ H2 rs2 l1 (x1.trans x2)⟩
end
end XL
namespace SL
open PySem
def Ris (t:SetTable):Prop:=t.plain=true->t.place.toList.Pairwise (·<·)
end SL
namespace SL
open PySem PySem.Spec PyProof.Rows
def kv:Value->Int
 | .int k _=>k
 | _=>0
structure SG (prog:Program) (w:World) (o:Obj) (ns:List Int) (es:Array (Int×Value)) (ep:Nat) (t:SetTable):Prop where
 ex:o.ExactSet
 dat:o.data=.set es ep t
 el:ElemsOf (intKind prog w) es.toList
 pm:(es.toList.map fun e=>kv e.2).Perm ns
 sz:es.size<scanBound
 fit:t.fits es.size=true
 ris:Ris t
 led:t.led=!w.params.followText "set-order"
def B1 (ns:List Int) (k:Int):List Int:=if k∈ns then ns else ns++[k]
section
variable {prog:Program} {w:World} {A:Around} {E:Value->Shared->Prop} {s:Shared}
end
section
variable {prog:Program} {w:World} {A:Around} {E:Value->Shared->Prop} {s:Shared}
end
section
variable {prog:Program} {w:World} {A:Around} {E:Value->Shared->Prop} {s:Shared}
end
section
variable {prog:Program} {w:World} {A:Around} {E:Value->Shared->Prop} {s:Shared} {it a:Addr} {first:Value} {i n ep:Nat}
end
section
variable {prog:Program} {w:World} {A:Around} {E:Value->Shared->Prop} {s:Shared} {a:Addr} {o:Obj} {es:Array (Int×Value)} {t:SetTable} {slot i ep:Nat}
end
section
variable {prog:Program} {w:World} {A:Around} {E:Value->Shared->Prop} {s:Shared} {a it:Addr} {o:Obj} {es:Array (Int×Value)} {t:SetTable} {i ep:Nat}
end
section
variable {prog:Program} {w:World} {A:Around} {E:Value->Shared->Prop} {s:Shared} {a it p:Addr} {o op:Obj} {es:Array (Int×Value)} {t:SetTable} {i ep m:Nat} {ps:Array Value}
end
section
variable {prog:Program} {w:World} {A:Around} {E:Value->Shared->Prop} {s:Shared} {a it p:Addr} {o op:Obj} {es:Array (Int×Value)} {t:SetTable} {i ep m:Nat} {ps:Array Value} {first:Value}
end
section
variable {prog:Program} {w:World} {A A':Around} {E:Value->Shared->Prop} {s:Shared} {a:Addr}
end
section
variable {prog:Program} {w:World} {A:Around} {E:Value->Shared->Prop} {s:Shared} {a:Addr}
end
end SL
namespace SL
open PySem PySem.Spec PyProof.Rows EvS
section
variable {prog:Program} {w:World} {A:Around} {E:Value->Shared->Prop} {s:Shared} {a:Addr}
end
end SL
namespace SL
open PySem PySem.Spec PyProof.Rows L2 Ev DL
def dd (ns:List Int):List Int:=ns.foldl B1 []
section
variable {X:Cx} {pins:List (Addr×Obj)} {σ:L2.St} {H:Hp} {s:Shared}
end
section
variable {X:Cx} {e:Expr} {es:List Expr} {ms:MA} {p p2 pos pos2:Pos}
end
end SL
namespace L2
open PySem PyProof PyProof.Rows
section
variable {X:Cx}
end
end L2
namespace DL
open PySem L2
@[simp] def DQ:Gm->SV->SV->Option (List D):=fun Γ x y=>match elems Γ x,y with
 | some xs,.v (.int k)=>if k<=100000/\-100000<=k/\xs.length * k.toNat<=big then some (List.replicate k.toNat xs).flatten else none
 | _,_=>none
section
variable {X:Cx} {a b o i e:Expr} {ma mb mo mi me:ME} {pos p:Pos}
theorem Lu {W:Wd} {xs:List D} {vs:List V} (h:Reps W xs vs):∀ k:Nat,Reps W (List.replicate k xs).flatten (List.replicate k vs).flatten
 | 0=>.nil
 | k+1=>by
  rw[List.replicate_succ,List.replicate_succ,List.flatten_cons,List.flatten_cons]
  exact h.append (Lu h k)
theorem Rp:OpF X DQ J6:=by
 intro f α s σ H x y u v z Q hf rs hu hv e q
 unfold DQ at e
 split at e
 ·rename_i xs k h1
  split at e
  ·rename_i hz
   cases e
   obtain ⟨a,vs,rfl,a1,a2⟩:=Be rs h1 hu
   exact ⟨a,k,vs,rfl,BL hv,a1,by lia,by lia,by rw[a2.len];exact CQ hz.2.2,fun p hp=>q p _ hp (Lu a2 _)⟩
  ·cases e
 ·cases e
theorem NA (ha:DE X a ma) (hb:DE X b mb):DF X (.BinOp a .Mult b pos) (BE DQ ma mb):=KA UW Rp ha hb
end
end DL
namespace L2
open PySem PySem.Calls PyProof PyProof.Rows PySem.F
section
variable {X:Cx}
def Dw (z:Str):Str:=⟨((Builtin.Str.strSliceIndices none none (-1) z.length).filterMap (z.cps[·]?)).toArray⟩
theorem MM (z:Str):(Dw z).length<=z.length:=by
 show ((Builtin.Str.strSliceIndices none none (-1) z.length).filterMap (z.cps[·]?)).toArray.size<=z.length
 rw[List.size_toArray]
 refine Nat.le_trans (List.length_filterMap_le _ _) ?_
 unfold Builtin.Str.strSliceIndices
 simp only[show ¬((-1:Int) > 0) by decide,if_false]
 unfold sliceRange
 simp only[show ¬((-1:Int) > 0) by decide,if_false]
 rw[List.length_map,List.length_range]
 split
 ·rw[show (- -1:Int)=1 by rfl,Int.ediv_one];lia
 ·simp
def O4 (te ts:TE):TE:=fun σ H Q=>te σ H fun x H1=>ts σ H1 fun y H2=>∃ z,x=.str z/\y=.int (-1)/\z.length<=sizeLine/\Q (.str (Dw z)) H2
theorem N6 {e st:Expr} {te ts:TE} {p2 ep:Pos} (he:PE X e te) (hst:PE X st ts):PE X (.Subscript e (.Slice none none (some st) p2) ep) (O4 te ts):=by
 intro pins s σ H Q I h
 refine Subscript_ (thn (he pins s σ H _ I h) fun v s1 hh_=>?_)
 obtain ⟨x,H1,I1,r1,q1⟩:=hh_
 refine wpAny_Slice ?_
 rw[evalPart_none]
 refine wpAny_pure (wpAny_pure ?_)
 rw[evalPart_some]
 refine thn (hst pins s1 σ H1 _ I1 q1) fun w s3 hh_=>?_
 obtain ⟨y,H3,I3,r3,z,ex,ey,hz,q3⟩:=hh_
 subst ex ey
 obtain ⟨t,rfl⟩:=r1
 obtain ⟨tk,rfl⟩:=r3
 have I4:Inv X pins σ H3 {s3 with heap:=s3.heap.push {cls:=.type "slice",data:=.fields #[.none,.none,.int (-1) tk]}}:=I3.kept (t':=s3.toks) fun b ob q=>Heap.get?_push_of_some _ q
 show wpAny (model X.prog X.w) X.A (subscriptTail e (.Slice none none (some st) p2) (.str z t) (.ref s3.heap.objs.size)) (EP X pins σ Q) X.xe {s3 with heap:=s3.heap.push {cls:=.type "slice",data:=.fields #[.none,.none,.int (-1) tk]}}
 refine tail_any (ops:=[.str z t,.ref s3.heap.objs.size]) (typeIs_str _ z t) F.slot_str_getitem.lookup (wpAny_getItem_str_slice (l:=none) (u:=none) (st:=some (-1,tk)) ⟨_,Heap.get?_push_size _ rfl,rfl,rfl⟩ rfl ?_) (by with_unfolding_all rfl)
 unfold sliceMade
 rw[if_neg (by simp)]
 exact ⟨Nat.le_trans (MM z) hz,.str _,H3,I4.tok _,⟨_,rfl⟩,q3⟩
end
end L2
namespace DL
open PySem L2
@[simp] def HV (m:ME):ME:=fun s=>(m s).bind fun x=>match x.1 with
 | .v (.str z)=>if z.length<=big then some (.v (.str (Dw z)),x.2) else none
 | _=>none
section
variable {X:Cx} {a:Expr} {ma:ME} {pos p p2:Pos}
theorem Oq {i} {p3:Pos} (ha:DE X a ma):DE X (.Subscript a (.Slice none none (some (.UnaryOp .USub (.Constant (.int 1) i p3) p2)) p) pos) (HV ma):=.mk fun f hf=>
 PE.imp (N6 (ha f hf) (MN Nl Jp)) fun σ H Q hh_=>by
  obtain ⟨α,s,r,rs,lo,e0,q⟩:=hh_
  obtain ⟨⟨x,s1⟩,h1,e0⟩:=bind_some e0
  simp only at e0
  split at e0
  case h_2=>cases e0
  rename_i z
  split at e0
  case isFalse=>cases e0
  rename_i hz
  cases e0
  refine ⟨α,s,_,rs,lo,h1,fun α1 v H1 rs1 l1 x1 hv=>?_⟩
  exact ⟨1,rfl,z,BX hv,rfl,CQ hz,q α1 _ H1 rs1 l1 x1 (by show Rep (wd f α1 s1.Γ H1) (.str (Dw z)) (.str (Dw z));exact FJ)⟩
end
end DL
namespace L2
open PySem PySem.Spec PyProof.Rows
section
variable {κ:Type} [DecidableEq κ]
end
section
variable {P:Program} {w:World} {H:Hp} {h:Heap} {a:Addr}
end
section
variable {X:Cx} {pins:List (Addr×Obj)} {σ:St} {H:Hp} {s:Shared} {a:Addr} {y v:V} {u r:Value} {o:Option V} {A:Around} {E:Value->Shared->Prop}
theorem Inv.big (I:Inv X pins σ H s):sysModules<s.heap.objs.size:=by
 have h:mainGlobals<s.heap.objs.size:=(I.mod.glob.keeps I.bk).lt
 exact Nat.lt_trans (by decide) h
end
section
variable {X:Cx} {pins:List (Addr×Obj)} {σ:St} {H:Hp} {s:Shared} {a:Addr} {kvs:List (Key×V)} {k:Key} {u:Value} {A:Around} {E:Value->Shared->Prop}
end
section
variable {X:Cx} {o i e value:Expr} {pos pos' tpos:Pos} {td ty tv:TE}
end
theorem PL {P:Program} {w:World} {H:Hp} (h:Heap) (hb:sysModules<h.objs.size):ObjOk P w H (h.push {cls:=.type "dict",data:=.dict #[]}) h.objs.size (.dK []):=
 ⟨Nat.zero_le _,beq_eq_false_iff_ne.mpr (Ne.symm (Nat.ne_of_lt hb)),[],.nil,Heap.DictOf.new h⟩
def QP:TE:=fun _ H Q=>∀ p,H p=none->Q (.ref p) (upd H p (.dK []))
section
variable {X:Cx} {pos:Pos}
theorem U2:PE X (.Dict [] [] pos) QP:=fun pins s σ H Q I h=>
 wpAny_Dict_empty ⟨.ref s.heap.objs.size,_,I.laid (a:=s.heap.objs.size) (o:=.dK []) (t':=s.toks) (fun _ _ q=>Heap.get?_push_of_some _ q) (Nat.le_refl _) (PL s.heap I.big),rfl,h _ (I.hok.fresh (Nat.le_refl _))⟩
end
structure M1 (X:Cx) (o:Expr) (m:Str) (apos:Pos) (e:Expr) (cpos:Pos):Prop where
 base:attributeBase o m X.env (eval o X.env)=eval o X.env
 few:((backTo cpos (starEach [e] X.env)).all (fun x=>!x.1) && (backToKw cpos (keywordEach [] X.env)).all (fun x=>x.1.isSome)
  && decide (([e]:List Expr).length+([]:List Keyword).length+(if ([]:List Keyword).isEmpty then 0 else 1)<30))=true
 line:(apos.endLine == cpos.line)=true
 trees:backTo cpos (starEach [e] X.env)=[(false,eval e X.env)]
structure M2 (X:Cx) (o:Expr) (m:Str) (apos:Pos) (e f:Expr) (cpos:Pos):Prop where
 base:attributeBase o m X.env (eval o X.env)=eval o X.env
 few:((backTo cpos (starEach [e,f] X.env)).all (fun x=>!x.1) && (backToKw cpos (keywordEach [] X.env)).all (fun x=>x.1.isSome)
  && decide (([e,f]:List Expr).length+([]:List Keyword).length+(if ([]:List Keyword).isEmpty then 0 else 1)<30))=true
 line:(apos.endLine == cpos.line)=true
 trees:backTo cpos (starEach [e,f] X.env)=[(false,eval e X.env),(false,eval f X.env)]
section
variable {X:Cx} {pins:List (Addr×Obj)} {σ:St} {H:Hp} {s:Shared} {a:Addr} {y d:V} {u r:Value} {o:Option V} {A:Around} {E:Value->Shared->Prop}
end
section
variable {X:Cx} {o e f:Expr} {apos cpos:Pos} {td ty tx:TE}
end
section
variable {X:Cx} {pins:List (Addr×Obj)} {σ:St} {H:Hp} {s:Shared} {a:Addr} {kvs:List (Key×V)} {A:Around} {E:Value->Shared->Prop}
end
section
variable {X:Cx} {pins:List (Addr×Obj)} {σ:St} {H:Hp} {s:Shared} {a:Addr} {y:V} {u:Value} {A:Around} {E:Value->Shared->Prop}
end
end L2
namespace Att
open PySem PySem.W PySem.Calls PyProof.Rows
end Att
namespace L2
open PySem PySem.Spec PyProof.Rows
section
variable {X:Cx}
end
section
variable {κ:Type} [DecidableEq κ]
end
end L2
namespace SL
open PySem PySem.Spec PyProof.Rows L2 EvS
section
variable {prog:Program} {w:World} {A:Around} {E:Value->Shared->Prop} {s:Shared} {a:Addr}
end
section
variable {X:Cx}
end
end SL
namespace SL
open PySem PySem.Spec PyProof.Rows L2 EvS Ev
section
variable {X:Cx}
variable {e:Expr} {es:List Expr} {ms:DL.MA} {p p2 pos pos2:Pos}
end
end SL
namespace SL
open PySem PySem.Spec PyProof.Rows L2
section
variable {prog:Program} {w:World} {A:Around} {E:Value->Shared->Prop} {s:Shared}
end
section
variable {X:Cx} {tg:Expr}
end
section
variable {X:Cx} {o e:Expr} {apos cpos:Pos} {td ty:TE}
def PB (td ty:TE):TE:=fun σ H Q=>td σ H fun x H1=>∃ a,x=.str a/\ty σ H1 fun y H2=>∃ b,y=.str b/\Q (.bl (Txt.startswith a b)) H2
theorem N8 (ho:PE X o td) (he:PE X e ty) (m:M1 X o "startswith" apos e cpos):PE X (.Call (.Attribute o "startswith" apos) [e] [] cpos) (PB td ty):=by
 intro pins s σ H Q I h
 refine wpAny_Call_method m.base m.few m.line PySem.F.plainAttrs_str PySem.F.slot_str_startswith PySem.F.type_str_startswith (thn (ho pins s σ H _ I h) fun u s1 hh_=>?_)
 obtain ⟨x,H1,I1,rx,a,ex,q1⟩:=hh_
 subst ex
 obtain ⟨t,rfl⟩:=rx
 refine ⟨typeIs_str _ _ _,(fun _ z=>nomatch z),?_⟩
 rw[m.trees]
 refine Calls.callWith_builtin rfl (Calls.evalArgs_plain (Calls.spliced_cons (thn (he pins s1 σ H1 _ I1 q1) fun iv s2 ⟨y,H2,I2,ry,b,ey,q2⟩=>Calls.spliced_nil ?_)))
 subst ey
 obtain ⟨t2,rfl⟩:=ry
 exact SC.startswith ⟨.bl _,H2,I2,rfl,q2⟩
theorem LM:∀ {xs:List Str} {us:List Value},Vals (xs.map V.str) us->∃ l:List (Str×Tok),us=strValues l/\l.map (·.1)=xs
 | [],us,h=>by
  cases h
  exact ⟨[],rfl,rfl⟩
 | x::xs,us,h=>by
  cases h with
  | cons r t=>
   obtain ⟨l,rfl,h2⟩:=LM t
   obtain ⟨k,rfl⟩:=r
   exact ⟨(x,k)::l,rfl,by rw[List.map_cons,h2]⟩
def OF (K:PySem.W.Frag) (td ty:TE):TE:=fun σ H Q=>td σ H fun x H1=>∃ a,x=.str a/\ty σ H1 fun y H2=>∃ D xs,y=.ref D/\SqL K H2 D (xs.map V.str)/\JoinOk a xs=true/\Q (.str (Txt.join a xs)) H2
theorem QZ (ho:PE X o td) (he:PE X e ty) (m:M1 X o "join" apos e cpos):PE X (.Call (.Attribute o "join" apos) [e] [] cpos) (OF X.K td ty):=by
 intro pins s σ H Q I h
 refine wpAny_Call_method m.base m.few m.line PySem.F.plainAttrs_str PySem.F.slot_str_join PySem.F.type_str_join (thn (ho pins s σ H _ I h) fun u s1 hh_=>?_)
 obtain ⟨x,H1,I1,rx,a,ex,q1⟩:=hh_
 subst ex
 obtain ⟨t,rfl⟩:=rx
 refine ⟨typeIs_str _ _ _,(fun _ z=>nomatch z),?_⟩
 rw[m.trees]
 refine Calls.callWith_builtin rfl (Calls.evalArgs_plain (Calls.spliced_cons (thn (he pins s1 σ H1 _ I1 q1) fun iv s2 ⟨y,H2,I2,ry,D,xs,ey,hq,hj,q2⟩=>Calls.spliced_nil ?_)))
 subst ey
 cases ry
 obtain ⟨its,rv,p,hz⟩:=I2.list hq
 obtain ⟨l,rfl,hl⟩:=LM rv
 exact SC.join p.isList hl hj fun t' k=>⟨.str _,H2,I2.tok k,⟨t',rfl⟩,q2⟩
theorem Mj:∀ l:List (Str×Tok),Vals ((l.map (·.1)).map V.str) (strValues l)
 | []=>.nil
 | p::l=>.cons ⟨p.2,rfl⟩ (Mj l)
theorem Pp {prog:Program} {w:World} {A:Around} {E:Value->Shared->Prop} {s:Shared} {x y:Str} {t u:Tok} {Q:Value->Shared->Prop} (hy:(y.length == 0)=false) (hx:x.length<=sizeLine) (hz:(Builtin.Str.partsBetween x (Builtin.Str.occurrences x y 0 x.length (x.length+1)) y.length).length<=sizeLine)
  (hq:∀ (l:List (Str×Tok)) (k:Nat),l.map (·.1)=Txt.split x y->Q (.ref s.heap.objs.size) {s with heap:=s.heap.push {cls:=.type "list",data:=.seq (strValues l).toArray},toks:=k}):wpAny (model prog w) A (call (.builtin "str.split") [.str x t,.str y u]) Q E s:=by
 cases h1:(decide (x.length<y.length) || decide (Builtin.Str.strKind x<Builtin.Str.strKind y))
 ·have e1:Txt.split x y=if (Builtin.Str.occurrences x y 0 x.length (x.length+1)).isEmpty=true then [x] else _:=if_neg (ne_true_of_eq_false h1)
  cases hf:(Builtin.Str.occurrences x y 0 x.length (x.length+1)).isEmpty
  ·refine call_meets F.slot_str_split (typeIs_str _ _ _) F.entry_str_split (F.args_str_split_2 _ _) (meets_str_split_sep x y t u h1 hy hf hx hz) ?_
   show wants Q E _ {s with toks:=_,heap:=s.heap.push {cls:=.type "list",data:=.seq (strsFrom s.toks (Builtin.Str.partsBetween x (Builtin.Str.occurrences x y 0 x.length (x.length+1)) y.length)).toArray}}
   rw[strsFrom_eq]
   exact hq (numbered s.toks _) _ ((numbered_texts _ _).trans (e1.trans (if_neg (ne_true_of_eq_false hf))).symm)
  ·exact call_meets F.slot_str_split (typeIs_str _ _ _) F.entry_str_split (F.args_str_split_2 _ _) (meets_str_split_not_found x y t u h1 hy hf) (hq [(x,t)] _ (e1.trans (if_pos hf)).symm)
 ·exact call_meets F.slot_str_split (typeIs_str _ _ _) F.entry_str_split (F.args_str_split_2 _ _) (meets_str_split_cannot_occur x y t u h1) (hq [(x,t)] _ (if_pos h1).symm)
def Ql (td ty:TE):TE:=fun σ H Q=>td σ H fun x H1=>∃ a,x=.str a/\ty σ H1 fun y H2=>∃ b,y=.str b/\(b.length == 0)=false/\a.length<=sizeLine/\(Builtin.Str.partsBetween a (Builtin.Str.occurrences a b 0 a.length (a.length+1)) b.length).length<=sizeLine/\(Txt.split a b).length<=sizeLine/\∀ l,H2 l=none->Q (.ref l) (upd H2 l (.lst ((Txt.split a b).map V.str)))
theorem VE (ho:PE X o td) (he:PE X e ty) (m:M1 X o "split" apos e cpos):PE X (.Call (.Attribute o "split" apos) [e] [] cpos) (Ql td ty):=by
 intro pins s σ H Q I h
 refine wpAny_Call_method m.base m.few m.line PySem.F.plainAttrs_str PySem.F.slot_str_split PySem.F.type_str_split (thn (ho pins s σ H _ I h) fun u s1 hh_=>?_)
 obtain ⟨x,H1,I1,rx,a,ex,q1⟩:=hh_
 subst ex
 obtain ⟨t,rfl⟩:=rx
 refine ⟨typeIs_str _ _ _,(fun _ z=>nomatch z),?_⟩
 rw[m.trees]
 refine Calls.callWith_builtin rfl (Calls.evalArgs_plain (Calls.spliced_cons (thn (he pins s1 σ H1 _ I1 q1) fun iv s2 ⟨y,H2,I2,ry,b,ey,hb,ha,hz,hn,q2⟩=>Calls.spliced_nil ?_)))
 subst ey
 obtain ⟨t2,rfl⟩:=ry
 refine Pp hb ha hz fun l k hl=>?_
 have hf:H2 s2.heap.objs.size=none:=I2.hok.fresh (Nat.le_refl _)
 refine ⟨.ref s2.heap.objs.size,upd H2 s2.heap.objs.size (.lst ((Txt.split a b).map V.str)),I2.laid (t':=k) (fun b u e=>Heap.get?_push_of_some _ e) (Nat.le_refl _) ?_,rfl,q2 _ hf⟩
 exact ⟨by rw[List.length_map];exact hn,strValues l,0,by rw[<-hl];exact Mj l,Heap.get?_push_size _ rfl⟩
end
end SL
namespace DL
open PySem L2
section
variable {X:Cx} {o e:Expr} {apos cpos:Pos} {ma mb:ME}
def D9 (ma mb:ME):ME:=fun s=>(ma s).bind fun x=>(mb x.2).bind fun y=>match x.1,y.1 with
 | .v (.str a),.v (.str b)=>some (.v (.bl (Txt.startswith a b)),y.2)
 | _,_=>none
theorem Ot (ha:DE X o ma) (hb:DE X e mb) (m:M1 X o "startswith" apos e cpos):DE X (.Call (.Attribute o "startswith" apos) [e] [] cpos) (D9 ma mb):=.mk fun f hf=>
 PE.imp (SL.N8 (ha f hf) (hb f hf) m) fun σ H Q hh_=>by
  obtain ⟨α,s,r,rs,lo,e0,q⟩:=hh_
  obtain ⟨x,h1,e0⟩:=bind_some e0
  obtain ⟨y,h2,e0⟩:=bind_some e0
  split at e0
  case h_2=>cases e0
  rename_i a b hx hy
  cases e0
  refine ⟨α,s,x,rs,lo,h1,fun α1 v H1 rs1 l1 x1 hv=>?_⟩
  rw[hx] at hv
  refine ⟨a,BX hv,α1,x.2,y,rs1,lo_le lo l1 x1,h2,fun α2 v2 H2 rs2 l2 x2 hv2=>?_⟩
  rw[hy] at hv2
  exact ⟨b,BX hv2,q α2 _ H2 rs2 (l2.trans l1) (x1.trans x2) (by show Rep _ _ _;unfold Rep;rfl)⟩
def strsOf:List D->Option (List Str)
 | []=>some []
 | .str a::r=>(strsOf r).map (a::·)
 | _::_=>none
theorem Lz:∀ {ds:List D} {xs:List Str},strsOf ds=some xs->ds=xs.map .str
 | [],xs,h=>by cases h;rfl
 | d::r,xs,h=>by
  cases d<;>first | (cases h;done) | skip
  obtain ⟨ys,h1,rfl⟩:=Ah h
  rw[Lz h1]
  rfl
theorem Hy:∀ xs:List Str,strsOf (xs.map .str)=some xs
 | []=>rfl
 | a::r=>by show (strsOf (r.map .str)).map _=_;rw[Hy r];rfl
theorem Ko {W:Wd}:∀ {xs:List Str} {vs:List V},Reps W (xs.map .str) vs->vs=xs.map V.str
 | [],vs,h=>h.nil_inv
 | a::r,vs,h=>by
  obtain ⟨v,us,rfl,h1,h2⟩:=h.cons_inv
  rw[Ko h2]
  unfold Rep at h1
  rw[h1]
  rfl
theorem Hv {W:Wd}:∀ xs:List Str,Reps W (xs.map .str) (xs.map V.str)
 | []=>.nil
 | a::r=>.cons (by unfold Rep;rfl) (Hv r)
def CK (ma mb:ME):ME:=fun s=>(ma s).bind fun x=>(mb x.2).bind fun y=>match x.1 with
 | .v (.str a)=>(elems y.2.Γ y.1).bind fun ds=>(strsOf ds).bind fun xs=>if JoinOk a xs=true then some (.v (.str (Txt.join a xs)),y.2) else none
 | _=>none
theorem GE (ha:DE X o ma) (hb:DE X e mb) (m:M1 X o "join" apos e cpos):DE X (.Call (.Attribute o "join" apos) [e] [] cpos) (CK ma mb):=.mk fun f hf=>
 PE.imp (SL.QZ (ha f hf) (hb f hf) m) fun σ H Q hh_=>by
  obtain ⟨α,s,r,rs,lo,e0,q⟩:=hh_
  obtain ⟨x,h1,e0⟩:=bind_some e0
  obtain ⟨y,h2,e0⟩:=bind_some e0
  split at e0
  case h_2=>cases e0
  rename_i a hx
  obtain ⟨ds,h3,e0⟩:=bind_some e0
  obtain ⟨xs,h4,e0⟩:=bind_some e0
  split at e0
  case isFalse=>cases e0
  rename_i hj
  cases e0
  have:=Lz h4
  subst this
  refine ⟨α,s,x,rs,lo,h1,fun α1 v H1 rs1 l1 x1 hv=>?_⟩
  rw[hx] at hv
  refine ⟨a,BX hv,α1,x.2,y,rs1,lo_le lo l1 x1,h2,fun α2 v2 H2 rs2 l2 x2 hv2=>?_⟩
  obtain ⟨p,vs,rfl,g1,g2⟩:=Be rs2 h3 hv2
  have:=Ko g2
  subst this
  exact ⟨p,xs,rfl,SqL.of g1,hj,q α2 _ H2 rs2 (l2.trans l1) (x1.trans x2) (by show Rep _ _ _;unfold Rep;rfl)⟩
def BS (ma mb:ME):MF:=fun s=>(ma s).bind fun x=>(mb x.2).bind fun y=>match x.1,y.1 with
 | .v (.str a),.v (.str b)=>if (b.length == 0)=false/\a.length<=big/\(Builtin.Str.partsBetween a (Builtin.Str.occurrences a b 0 a.length (a.length+1)) b.length).length<=big/\(Txt.split a b).length<=big then some ((Txt.split a b).map .str,y.2) else none
 | _,_=>none
theorem Cy (ha:DE X o ma) (hb:DE X e mb) (m:M1 X o "split" apos e cpos):DF X (.Call (.Attribute o "split" apos) [e] [] cpos) (BS ma mb):=.mk fun f hf=>
 PE.imp (SL.VE (ha f hf) (hb f hf) m) fun σ H Q hh_=>by
  obtain ⟨α,s,r,rs,lo,e0,q⟩:=hh_
  obtain ⟨x,h1,e0⟩:=bind_some e0
  obtain ⟨y,h2,e0⟩:=bind_some e0
  split at e0
  case h_2=>cases e0
  rename_i a b hx hy
  split at e0
  case isFalse=>cases e0
  rename_i hc
  obtain ⟨c1,c2,c3,c4⟩:=hc
  cases e0
  refine ⟨α,s,x,rs,lo,h1,fun α1 v H1 rs1 l1 x1 hv=>?_⟩
  rw[hx] at hv
  refine ⟨a,BX hv,α1,x.2,y,rs1,lo_le lo l1 x1,h2,fun α2 v2 H2 rs2 l2 x2 hv2=>?_⟩
  rw[hy] at hv2
  exact ⟨b,BX hv2,c1,Nat.le_of_lt (Ep c2),Nat.le_of_lt (Ep c3),Nat.le_of_lt (Ep c4),fun l hl=>q α2 l _ H2 rs2 (l2.trans l1) (x1.trans x2) hl (Hv _)⟩
end
section
variable {X:Cx} {e:Expr} {es:List Expr} {ms:MA} {p pos:Pos}
@[simp] def FV:Gm->List SV->Option D:=fun _ xs=>match xs with
 | [.v (.int i)]=>if i.natAbs.log2<1920 then some (.str (toString i)) else none
 | _=>none
theorem OB:CaD X FV (fun xs H Q=>∃ i,xs=[.int i]/\i.natAbs.log2<1920/\Q (.str (toString i)) H):=by
 intro f α s σ H xs us z Q hf rs hu e q
 unfold FV at e
 split at e
 case h_2=>cases e
 rename_i i
 split at e
 case isFalse=>cases e
 rename_i hz
 cases e
 obtain ⟨v,r,rfl,h1,h2⟩:=hu.cons_inv
 rw[h2.nil_inv,BL h1]
 exact ⟨i,rfl,hz,q _ H rs .refl (by unfold Rep;rfl)⟩
theorem QR (T:Ev.Nm X.mg) (ha:DA X (e::es) ms) (hg:Gl X "str":=by rfl) (he:starEach (e::es) X.env=(false,eval e X.env)::starEach es X.env:=by rfl) (hpl:(backTo pos (starEach es X.env)).any (·.1)=false:=by rfl):DE X (.Call (.Name "str" p) (e::es) [] pos) (AO FV ms):=
 GL QC OB hg T.str PyProof.Rows.boot_str ha (by decide) (by decide) he hpl
@[simp] def Dr:Gm->List SV->Option D:=fun _ xs=>match xs with
 | [.v (.str x)]=>if x.length<=640 then (PySem.intText? x).map .int else none
 | _=>none
def K3:List V->Hp->VK->Prop:=fun xs H Q=>∃ x n,xs=[.str x]/\x.length<=640/\PySem.intText? x=some n/\Q (.int n) H
theorem Se:Bq X (.type "int") K3:=by
 intro pins s σ H xs us Q I r h
 obtain ⟨x,n,rfl,hl,hn,q⟩:=h
 obtain ⟨u,rfl,t,rfl⟩:=vals1 r
 exact PySem.W.KIN.call_text hn hl ⟨.int n,H,I.tok _,⟨_,rfl⟩,q⟩
theorem Uj:CaD X Dr K3:=by
 intro f α s σ H xs us z Q hf rs hu e q
 unfold Dr at e
 split at e
 case h_2=>cases e
 rename_i x
 split at e
 case isFalse=>cases e
 rename_i hz
 obtain ⟨n,hn,rfl⟩:=Ah e
 obtain ⟨v,r,rfl,h1,h2⟩:=hu.cons_inv
 rw[h2.nil_inv,BX h1]
 exact ⟨x,n,rfl,hz,hn,q _ H rs .refl CC⟩
theorem JV (T:Ev.Nm X.mg) (ha:DA X (e::es) ms) (hg:Gl X "int":=by rfl) (he:starEach (e::es) X.env=(false,eval e X.env)::starEach es X.env:=by rfl) (hpl:(backTo pos (starEach es X.env)).any (·.1)=false:=by rfl):DE X (.Call (.Name "int" p) (e::es) [] pos) (AO Dr ms):=
 GL Se Uj hg T.int PyProof.Rows.boot_int ha (by decide) (by decide) he hpl
theorem KM {x y:Str} (h:∃ t,X.mg x=some (.str y t)) (hg:Gl X x:=by rfl) (hd:(x == ("__debug__":Str))=false:=by decide):DE X (.Name x pos) (mC (.str y)):=by
 obtain ⟨t,h⟩:=h
 exact Ey (D0 (v:=.str y) hg h ⟨t,rfl⟩ hd) fun W=>by unfold Rep;rfl
end
end DL
namespace TXM
open PySem PySem.Builtin PySem.Builtin.Str PySem.StrLaws
abbrev cd (x:Str):List Nat:=x.cps.toList
theorem CG {x y:Str} (h:cd x=cd y):x=y:=Str.ext' (Array.toList_inj.mp h)
theorem Bs (x y:Str):cd (x++y)=cd x++cd y:=by simp only[cd,Str.cps_append,Array.toList_append]
theorem A4 (x:Str):(cd x).length=x.length:=by simp[cd,Str.length]
theorem Dy (y p q:Str) (r:List Str):Str.join y (p::q::r)=p++y++Str.join y (q::r):=rfl
theorem Kb {x y:Str} {c:Nat} {r:List Nat} (hy:cd y=c::r) {i:Nat} (h:At x y x.length i):(cd x)[i]?=some c:=by
 have h2:=h.2
 rw[subAt_eq] at h2
 have h2:((cd x).drop i).take y.length=cd y:=eq_of_beq h2
 rw[hy] at h2
 have h3:=congrArg (fun l=>l[0]?) h2
 simp only[List.getElem?_cons_zero] at h3
 cases hl:y.length with
 | zero=>rw[hl] at h3;simp at h3
 | succ n=>
  rw[hl,List.getElem?_take_of_lt (Nat.zero_lt_succ n),List.getElem?_drop] at h3
  simpa using h3
theorem Pc {x y:Str} {i:Nat} {J:List Nat} (h:(cd x).drop i=cd y++J) (hi:i<=(cd x).length):At x y x.length i:=by
 have hl:=congrArg List.length h
 rw[List.length_drop,List.length_append,A4,A4] at hl
 rw[A4] at hi
 refine ⟨by lia,?_⟩
 rw[subAt_eq]
 show (((cd x).drop i).take y.length == cd y)=true
 rw[h,<-A4 y,List.take_left']
 ·exact beq_self_eq_true _
 ·rfl
theorem Na {x y:Str} {c:Nat} {r:List Nat} (hy:cd y=c::r):∀ (ps:List Str) (a:Nat) (cuts:List Nat) (f:Nat),ps≠[]->(∀ p∈ps,c∉cd p)->(cd x).drop a=cd (Str.join y ps)->a<=(cd x).length->ChainG x y x.length a cuts f->(∀ k,f<=k->¬At x y x.length k)->partsFrom x y.length a cuts=ps
 | [],_,_,_,h,_,_,_,_,_=>absurd rfl h
 | [p],a,cuts,f,_,hf,hd,ha,hc,hn=>by
  have hd:(cd x).drop a=cd p:=hd
  cases cuts with
  | nil=>
   show [strSub x a x.length]=[p]
   congr 1
   refine CG ?_
   show (strSub x a x.length).cps.toList=_
   rw[strSub_toList]
   show ((cd x).drop a).take (x.length - a)=cd p
   rw[List.take_of_length_le (by rw[List.length_drop,A4];exact Nat.le_refl _)]
   exact hd
  | cons c1 cs=>
   exfalso
   have h1:=Kb hy hc.2.1
   refine hf p List.mem_cons_self ?_
   rw[<-hd]
   refine List.mem_of_getElem? (i:=c1 - a) ?_
   rw[List.getElem?_drop,show a+(c1 - a)=c1 by have:=hc.1;lia]
   exact h1
 | p::q::rest,a,cuts,f,_,hf,hd,ha,hc,hn=>by
  have hd:(cd x).drop a=cd p++(cd y++cd (Str.join y (q::rest))):=by
   rw[hd,Dy,Bs,Bs,List.append_assoc]
  have hdl:=congrArg List.length hd
  rw[List.length_drop,List.length_append,List.length_append] at hdl
  have hat:(cd x).drop (a+(cd p).length)=cd y++cd (Str.join y (q::rest)):=by
   rw[<-List.drop_drop,hd,List.drop_left']
   rfl
  have hA:=Pc hat (by lia)
  cases cuts with
  | nil=>
   have hf0:f=a:=hc
   exact absurd hA (hn _ (by lia))
  | cons c1 cs=>
   obtain ⟨hc1,hc2,hc3,hc4⟩:=hc
   have h1:=Kb hy hc2
   have hle:c1<=a+(cd p).length:=by
    by_cases z:a+(cd p).length<c1
    ·exact absurd hA (hc3 _ (by lia) z)
    ·lia
   have hge:a+(cd p).length<=c1:=by
    by_cases z:c1<a+(cd p).length
    ·exfalso
     refine hf p List.mem_cons_self ?_
     refine List.mem_of_getElem? (i:=c1 - a) ?_
     have e:((cd x).drop a)[c1 - a]?=some c:=by
      rw[List.getElem?_drop,show a+(c1 - a)=c1 by lia]
      exact h1
     rw[hd,List.getElem?_append_left (by lia)] at e
     exact e
    ·lia
   have e1:c1=a+(cd p).length:=by lia
   subst e1
   show strSub x a (a+(cd p).length)::partsFrom x y.length (a+(cd p).length+y.length) cs=_
   congr 1
   ·refine CG ?_
    show (strSub x a (a+(cd p).length)).cps.toList=_
    rw[strSub_toList]
    show ((cd x).drop a).take (a+(cd p).length - a)=cd p
    rw[hd,show a+(cd p).length - a=(cd p).length by lia,List.take_left']
    rfl
   ·refine Na hy (q::rest) _ cs f (fun z=>nomatch z) (fun p' h=>hf p' (List.mem_cons_of_mem _ h)) ?_ ?_ hc4 hn
    ·rw[<-List.drop_drop,hat,<-A4 y,List.drop_left']
     rfl
    ·rw[<-A4 y]
     lia
theorem Qf (x:Str):1<=PySem.Builtin.Str.strKind x:=by
 unfold PySem.Builtin.Str.strKind
 split
 ·decide
 ·split<;>decide
theorem RL (y p q:Str) (r:List Str):y.length<=(Str.join y (p::q::r)).length:=by
 rw[Dy,Str.length_append,Str.length_append]
 lia
theorem GT {y:Str} {c:Nat} {r:List Nat} (hy:cd y=c::r) (hk:PySem.Builtin.Str.strKind y=1) {ps:List Str} (hne:ps≠[]) (hf:∀ p∈ps,c∉cd p) :
  Txt.split (Str.join y ps) y=ps/\partsBetween (Str.join y ps) (occurrences (Str.join y ps) y 0 (Str.join y ps).length ((Str.join y ps).length+1)) y.length=ps:=by
 have hyl:1<=y.length:=by rw[<-A4,hy];simp
 obtain ⟨f,h1,h2⟩:=occ_tight (Str.join y ps) y hyl
 have key:=Na (x:=Str.join y ps) hy ps 0 _ f hne hf rfl (Nat.zero_le _) h1 h2
 have e2:partsBetween (Str.join y ps) (occurrences (Str.join y ps) y 0 (Str.join y ps).length ((Str.join y ps).length+1)) y.length=ps:=(partsBetween_eq _ _ _).trans key
 refine ⟨?_,e2⟩
 unfold Txt.split
 split
 ·rename_i h
  match ps,hne with
  | [p],_=>rfl
  | p::q::r,_=>
   have a1:=RL y p q r
   have a2:=Qf (Str.join y (p::q::r))
   rw[hk] at h
   simp at h
   lia
 ·split
  ·rename_i h
   rw[List.isEmpty_iff.mp h] at key
   have:[strSub (Str.join y ps) 0 (Str.join y ps).length]=ps:=key
   rw[sub_whole] at this
   exact this
  ·exact e2
end TXM
namespace SL
open PySem PySem.Spec PyProof.Rows L2
section
variable {X:Cx} {o e:Expr} {td ty:TE} {apos cpos:Pos}
def ptn (a b:Str):List Str:=match Builtin.Str.occurrences a b 0 a.length 1 with
 | i::_=>[Builtin.Str.strSub a 0 i,b,Builtin.Str.strSub a (i+b.length) a.length]
 | []=>[a,Str.empty,Str.empty]
def Q7 (td ty:TE):TE:=fun σ H Q=>td σ H fun x H1=>∃ a,x=.str a/\ty σ H1 fun y H2=>∃ b,y=.str b/\(b.length == 0)=false/\a.length<=sizeLine/\∀ l,H2 l=none->Q (.ref l) (upd H2 l (.tup ((ptn a b).map V.str)))
theorem QK (ho:PE X o td) (he:PE X e ty) (m:M1 X o "partition" apos e cpos):PE X (.Call (.Attribute o "partition" apos) [e] [] cpos) (Q7 td ty):=by
 intro pins s σ H Q I h
 refine wpAny_Call_method m.base m.few m.line PySem.F.plainAttrs_str PySem.F.slot_str_partition PySem.F.type_str_partition (thn (ho pins s σ H _ I h) fun u s1 hh_=>?_)
 obtain ⟨x,H1,I1,rx,a,ex,q1⟩:=hh_
 subst ex
 obtain ⟨t,rfl⟩:=rx
 refine ⟨typeIs_str _ _ _,(fun _ z=>nomatch z),?_⟩
 rw[m.trees]
 refine Calls.callWith_builtin rfl (Calls.evalArgs_plain (Calls.spliced_cons (thn (he pins s1 σ H1 _ I1 q1) fun iv s2 ⟨y,H2,I2,ry,b,ey,hb,ha,q2⟩=>Calls.spliced_nil ?_)))
 subst ey
 obtain ⟨t2,rfl⟩:=ry
 have hf:H2 s2.heap.objs.size=none:=I2.hok.fresh (Nat.le_refl _)
 refine call_meets F.slot_str_partition (typeIs_str _ _ _) F.entry_str_partition (F.args_str_partition_2 _ _) (PySem.meets_str_partition a b t t2 hb ha) ?_
 have q3:=q2 _ hf
 unfold ptn at q3
 show wants _ _ _ _
 split
 ·rename_i i r hi
  rw[hi] at q3
  refine ⟨.ref s2.heap.objs.size,_,I2.laid (t':=s2.toks+1+1) (fun b u e=>Heap.get?_push_of_some _ e) (Nat.le_refl _) ?_,rfl,q3⟩
  exact ⟨(by decide:3<=sizeLine),_,.cons ⟨_,rfl⟩ (.cons ⟨_,rfl⟩ (.cons ⟨_,rfl⟩ .nil)),IsTup.new s2.heap _⟩
 ·rename_i hi
  rw[hi] at q3
  refine ⟨.ref s2.heap.objs.size,_,I2.laid (t':=s2.toks+1) (fun b u e=>Heap.get?_push_of_some _ e) (Nat.le_refl _) ?_,rfl,q3⟩
  exact ⟨(by decide:3<=sizeLine),_,.cons ⟨_,rfl⟩ (.cons ⟨_,rfl⟩ (.cons ⟨_,rfl⟩ .nil)),IsTup.new s2.heap _⟩
end
end SL
namespace DL
open PySem L2
section
variable {X:Cx} {o e:Expr} {ma mb:ME} {apos cpos:Pos}
def Ds (ma mb:ME):ME:=fun s=>(ma s).bind fun x=>(mb x.2).bind fun y=>match x.1,y.1 with
 | .v (.str a),.v (.str b)=>if (b.length == 0)=false/\a.length<=big then some (.v (.tup ((SL.ptn a b).map .str)),y.2) else none
 | _,_=>none
theorem Mp (ha:DE X o ma) (hb:DE X e mb) (m:M1 X o "partition" apos e cpos):DE X (.Call (.Attribute o "partition" apos) [e] [] cpos) (Ds ma mb):=.mk fun f hf=>
 PE.imp (SL.QK (ha f hf) (hb f hf) m) fun σ H Q hh_=>by
  obtain ⟨α,s,r,rs,lo,e0,q⟩:=hh_
  obtain ⟨x,h1,e0⟩:=bind_some e0
  obtain ⟨y,h2,e0⟩:=bind_some e0
  split at e0
  case h_2=>cases e0
  rename_i a b hx hy
  split at e0
  case isFalse=>cases e0
  rename_i hc
  obtain ⟨c1,c2⟩:=hc
  cases e0
  refine ⟨α,s,x,rs,lo,h1,fun α1 v H1 rs1 l1 x1 hv=>?_⟩
  rw[hx] at hv
  refine ⟨a,BX hv,α1,x.2,y,rs1,lo_le lo l1 x1,h2,fun α2 v2 H2 rs2 l2 x2 hv2=>?_⟩
  rw[hy] at hv2
  refine ⟨b,BX hv2,c1,Nat.le_of_lt (Ep c2),fun l hl=>?_⟩
  exact q α2 _ _ (rs2.new hl) (l2.trans l1) ((x1.trans x2).trans (.new rs2 hl)) (E3 rs2 hl (Hv _))
end
section
variable {X:Cx} {a b:Expr} {ma mb:ME} {pos:Pos}
@[simp] def DB:Gm->SV->SV->Option D:=fun _ x y=>match x,y with
 | .v (.str i),.v (.str j)=>some (.bl (Builtin.Str.occurrences j i 0 j.length 1).isEmpty)
 | _,_=>none
theorem SQ:OpD X DB (fun x y H Q=>∃ i j,x=.str i/\y=.str j/\Q (.bl (!(!(Builtin.Str.occurrences j i 0 j.length 1).isEmpty))) H):=by
 intro f α s σ H x y u v z Q hf rs hu hv e q
 unfold DB at e
 split at e
 case h_2=>cases e
 rename_i i j
 cases e
 refine ⟨i,j,BX hu,BX hv,q _ H rs .refl ?_⟩
 rw[Bool.not_not]
 unfold Rep
 rfl
theorem Ny (ha:DE X a ma) (hb:DE X b mb) (hm:behindInMarks .NotIn b=false:=by rfl):DT X (.Compare a [.NotIn] [b] pos) (AE (mOp DB ma mb)):=DU Vh SQ ha hb hm
def CP (a:Str) (n:Int):Str:=⟨(List.replicate n.toNat a.cps).foldl (·++·) #[]⟩
@[simp] def B0:Gm->SV->SV->Option D:=fun _ x y=>match x,y with
 | .v (.str a),.v (.int n)=>if 2<=n/\n<=1000/\1<=a.length/\a.length<=1000 then some (.str (CP a n)) else none
 | _,_=>none
def Ll:R2:=fun x y H Q=>∃ a n,x=.str a/\y=.int n/\2<=n/\n<=1000/\1<=a.length/\a.length<=1000/\Q (.str (CP a n)) H
theorem Nd (a:Array Nat):∀ (n:Nat) (acc:Array Nat),((List.replicate n a).foldl (·++·) acc).size=acc.size+n * a.size
 | 0,acc=>by simp
 | n+1,acc=>by
  rw[List.replicate_succ,List.foldl_cons,Nd a n,Array.size_append,Nat.succ_mul]
  lia
theorem Oi:OpR X (binaryOp .Mult) Ll:=by
 intro pins s σ H x y v u Q I rx ry h
 obtain ⟨a,n,rfl,rfl,h1,h2,h3,h4,q⟩:=h
 obtain ⟨t,rfl⟩:=rx
 obtain ⟨t2,rfl⟩:=ry
 have hm:a.length * n.toNat<=1000000:=by
  have:a.length * n.toNat<=1000 * 1000:=Nat.mul_le_mul h4 (by lia)
  lia
 refine P.mul_str (by rw[decide_eq_false (by lia),decide_eq_false (by lia)];rfl) (fun _ _=>?_) (fun _ _=>?_) ?_
 ·have:(2 ^ 63 - 1) / n>=1000:=by
   rw[ge_iff_le,Int.le_ediv_iff_mul_le (by lia)]
   lia
  lia
 ·unfold Builtin.Str.tooLong
  refine decide_eq_false ?_
  unfold sizeLine
  lia
 ·rw[if_neg (by lia),if_neg (by
   rw[Bool.or_eq_true,beq_iff_eq,beq_iff_eq]
   lia)]
  refine ⟨?_,⟨.str (CP a n),H,I.tok _,⟨_,rfl⟩,q⟩⟩
  show _<=sizeLine
  unfold sizeLine
  have:=Nd a.cps n.toNat #[]
  show ((List.replicate n.toNat a.cps).foldl (·++·) #[]).size<=_
  rw[this]
  have e:n.toNat * a.cps.size=a.length * n.toNat:=Nat.mul_comm _ _
  rw[e]
  simp
  lia
theorem QE:OpD X B0 Ll:=by
 intro f α s σ H x y u v z Q hf rs hu hv e q
 unfold B0 at e
 split at e
 case h_2=>cases e
 rename_i a n
 split at e
 case isFalse=>cases e
 rename_i hc
 cases e
 exact ⟨a,n,BX hu,BL hv,hc.1,hc.2.1,hc.2.2.1,hc.2.2.2,q _ H rs .refl FJ⟩
theorem Fo (ha:DE X a ma) (hb:DE X b mb):DE X (.BinOp a .Mult b pos) (mOp B0 ma mb):=EF Oi QE ha hb
end
section
variable {X:Cx} {e:Expr} {es:List Expr} {ms:MA} {p pos:Pos}
@[simp] def E9:ME:=fun s=>some (.v (.dic [] []),s)
theorem PK:DE X (.Dict [] [] pos) E9:=.mk fun f hf=>PE.imp U2 fun σ H Q hh_=>by
 obtain ⟨α,s,r,rs,lo,e,q⟩:=hh_
 cases e
 intro p hp
 refine q α _ _ (rs.new hp) rfl (.new rs hp) ?_
 show Rep _ _ _
 unfold Rep
 exact ⟨p,[],rfl,rs.fresh hp,A6,rfl,.nil⟩
@[simp] def C0:D->Option Str
 | .str x=>some x
 | .non=>some "None"
 | .bl b=>some (if b then "True" else "False")
 | .int i=>if i.natAbs.log2<1920 then some (toString i) else none
 | .dic [] []=>some "{}"
 | .lst xs=>if (PyData.list (Ae xs)).showable=true/\(PyData.list (Ae xs)).depth<=16/\(PyData.list (Ae xs)).shown.length<=big/\(PyData.list (Ae xs)).hasDict=false then some (PyData.list (Ae xs)).shown else none
 | .tup xs=>if (PyData.tuple (Ae xs)).showable=true/\(PyData.tuple (Ae xs)).depth<=16/\(PyData.tuple (Ae xs)).shown.length<=big/\(PyData.tuple (Ae xs)).hasDict=false then some (PyData.tuple (Ae xs)).shown else none
 | _=>none
@[simp] def C8:Gm->List SV->Option D:=fun _ xs=>match xs with
 | [.v d]=>(C0 d).map .str
 | _=>none
def N3 (K:PySem.W.Frag):List V->Hp->VK->Prop:=fun xs H Q=>∃ (v:V) (W:Wd) (d:D) (x:Str),xs=[v]/\W.H=H/\W.K=K/\Rep W d v/\C0 d=some x/\Q (.str x) H
theorem OG (hu:X.A.units+64<cLine) (hg:X.A.guards=some []):Bq X (.type "str") (N3 X.K):=by
 intro pins s σ H xs us Q I r h
 obtain ⟨v,W,d,x,rfl,hH,hK,rep,hx,q⟩:=h
 obtain ⟨u,rfl,ru⟩:=vals1 r
 subst hH
 have rds:=Dc I hK rep ru
 cases d with
 | non=>
  unfold Rep at rep;subst rep;cases (show u=_ from ru);cases hx
  exact PySem.P.str_of_none ⟨.str _,W.H,I.tok _,⟨_,rfl⟩,q⟩
 | bl b=>
  unfold Rep at rep;subst rep;cases (show u=_ from ru);cases hx
  exact PySem.P.str_of_bool ⟨.str _,W.H,I.tok _,⟨_,rfl⟩,q⟩
 | int i=>
  unfold Rep at rep;subst rep;obtain ⟨t,rfl⟩:=(show ∃ t,u=Value.int i t from ru)
  have hx:(if i.natAbs.log2<1920 then some (Str.ofString (toString i)) else none)=some x:=hx
  split at hx
  ·rename_i hz
   cases hx
   exact PySem.P.str_of_int hz ⟨.str _,W.H,I.tok _,⟨_,rfl⟩,q⟩
  ·cases hx
 | str y=>
  unfold Rep at rep;subst rep;obtain ⟨t,rfl⟩:=(show ∃ t,u=Value.str y t from ru);cases hx
  exact PySem.P.str_of_str ⟨.str _,W.H,I,⟨_,rfl⟩,q⟩
 | lst ys=>
  unfold Rep at rep
  obtain ⟨a,vs,rfl,_⟩:=rep
  cases (show u=_ from ru)
  obtain ⟨as,rd⟩:=rds
  unfold toP at rd
  have hx:(if (PyData.list (Ae ys)).showable=true/\(PyData.list (Ae ys)).depth<=16/\(PyData.list (Ae ys)).shown.length<=big/\(PyData.list (Ae ys)).hasDict=false then some (PyData.list (Ae ys)).shown else none)=some x:=hx
  split at hx
  ·rename_i hz
   cases hx
   exact str_of_reads rd hz.1 (PyData.noDict_hsm hz.2.2.2) hg (by have:=hz.2.1;lia) (fun _ _ e=>e) (fun h' t tk k=>⟨.str _,W.H,I.kept (t':=tk) k,⟨_,rfl⟩,q⟩) (CQ hz.2.2.1)
  ·cases hx
 | tup ys=>
  unfold Rep at rep
  obtain ⟨a,vs,rfl,_⟩:=rep
  cases (show u=_ from ru)
  obtain ⟨as,rd⟩:=rds
  unfold toP at rd
  have hx:(if (PyData.tuple (Ae ys)).showable=true/\(PyData.tuple (Ae ys)).depth<=16/\(PyData.tuple (Ae ys)).shown.length<=big/\(PyData.tuple (Ae ys)).hasDict=false then some (PyData.tuple (Ae ys)).shown else none)=some x:=hx
  split at hx
  ·rename_i hz
   cases hx
   exact str_of_reads rd hz.1 (PyData.noDict_hsm hz.2.2.2) hg (by have:=hz.2.1;lia) (fun _ _ e=>e) (fun h' t tk k=>⟨.str _,W.H,I.kept (t':=tk) k,⟨_,rfl⟩,q⟩) (CQ hz.2.2.1)
  ·cases hx
 | scr ns=>cases hx
 | dic ks ys=>
  have e:ks=[]/\ys=[]/\x="{}":=by
   cases ks with
   | nil=>
    cases ys with
    | nil=>cases hx;exact ⟨rfl,rfl,rfl⟩
    | cons _ _=>cases hx
   | cons _ _=>cases hx
  obtain ⟨rfl,rfl,rfl⟩:=e
  unfold Rep at rep
  obtain ⟨a,vs,rfl,_,h1,_⟩:=rep
  cases (show u=_ from ru)
  obtain ⟨_,sm,ws,kv,o,es,ep,e1,⟨e2,_,_⟩,e3,_,pr,_⟩:=I.hok a _ h1
  have kv:KV [] ws:=kv
  cases kv
  have ee:es.toList=[]:=by
   have:=pr.length
   exact List.length_eq_zero_iff.mp (by simpa using this)
  have rd:Reads s.heap (.ref a) (.dict []) (a::[]++[]):=.dict e1 e2 e3 (by rw[ee];exact .nil) (by rw[ee];exact .nil)
  have hs:(PyData.dict []).shown="{}":=by decide +kernel
  refine str_of_reads rd (by simp[PyData.showable,PyData.showableKv]) (fun _=>by simpa using fun z:sysModules=a=>by rw[z] at sm;simp at sm) hg (by simp[PyData.depth,PyData.depthKv];lia) (fun _ _ e=>e) (fun h' t tk k=>⟨.str _,W.H,I.kept (t':=tk) k,⟨_,rfl⟩,?_⟩) (by rw[hs];exact CQ (by decide +kernel))
  rw[hs]
  exact q
theorem VO {K:PySem.W.Frag} (hk:X.K=K):CaD X C8 (N3 K):=by
 intro f α s σ H xs us z Q hf rs hu e q
 unfold C8 at e
 split at e
 case h_2=>cases e
 rename_i d
 obtain ⟨x,hx,rfl⟩:=Ah e
 obtain ⟨v,r,rfl,h1,h2⟩:=hu.cons_inv
 rw[h2.nil_inv]
 exact ⟨v,wd f α s.Γ H,d,x,rfl,rfl,hf.trans hk,h1,hx,q _ H rs .refl (by unfold Rep;rfl)⟩
theorem Lx (hu:X.A.units+64<cLine) (hgd:X.A.guards=some []) (T:Ev.Nm X.mg) (ha:DA X (e::es) ms) (hg:Gl X "str":=by rfl) (he:starEach (e::es) X.env=(false,eval e X.env)::starEach es X.env:=by rfl) (hpl:(backTo pos (starEach es X.env)).any (·.1)=false:=by rfl):DE X (.Call (.Name "str" p) (e::es) [] pos) (AO C8 ms):=
 GL (OG hu hgd) (VO rfl) hg T.str PyProof.Rows.boot_str ha (by decide) (by decide) he hpl
end
section
variable {X:Cx} {e:Expr} {es:List Expr}
@[simp] def Ei (m:MF) (ms:MA):MA:=fun s=>(m s).bind fun r=>(ms {r.2 with Γ:=r.2.Γ++[some r.1]}).map fun q=>(.b r.2.Γ.length::q.1,q.2)
theorem Qg {m:MF} {ms:MA} (h:DF X e m) (hs:DA X es ms) (hst:starEach (e::es) X.env=(false,eval e X.env)::starEach es X.env:=by rfl):DA X (e::es) (Ei m ms):=.mk fun f hf=>
 PA.imp (BP (h f hf) (hs f hf) hst) fun σ H Q hh_=>by
  obtain ⟨α,s,r,rs,lo,e,q⟩:=hh_
  obtain ⟨r1,h1,e⟩:=bind_some e
  obtain ⟨r2,h2,rfl⟩:=Ah e
  refine ⟨α,s,r1,rs,lo,h1,fun α1 a vs H1 rs1 l1 e1 ha hx=>?_⟩
  have hlo:r1.2.lo<=r1.2.Γ.length:=by rw[l1];exact Nat.le_trans lo e1.m
  have rs2:=rs1.add hlo ha hx
  have x2:=Ext.add (xs:=r1.1) (o:=.lst vs) rs1 ha
  refine ⟨B6 α1 r1.2.Γ.length a,_,r2,rs2,by show r1.2.lo<=(r1.2.Γ++[some r1.1]).length;rw[List.length_append];exact Nat.le_trans hlo (Nat.le_add_right _ _),h2,fun α2 us H2 rs3 l3 x3 hus=>?_⟩
  refine q α2 _ H2 rs3 (l3.trans l1) ((e1.trans x2).trans x3) (.cons ⟨?_,?_⟩ hus)
  ·have:=x3.m
   have z:r1.2.Γ.length<(r1.2.Γ++[some r1.1]).length:=by rw[List.length_append];simp
   exact Nat.lt_of_lt_of_le z this
  ·rw[x3.al r1.2.Γ.length (by show r1.2.Γ.length<(r1.2.Γ++[some r1.1]).length;rw[List.length_append];simp)]
   unfold B6
   rw[if_pos rfl]
theorem UQ {m:MF} {ms:MA} {n:Nat} (h:Ar ms n):Ar (Ei m ms) (n+1):=fun s r e=>by
 obtain ⟨x,h1,e⟩:=bind_some e
 obtain ⟨y,h2,rfl⟩:=Ah e
 show (_::y.1).length=n+1
 rw[List.length_cons,h _ _ h2]
end
end DL
namespace L2
open PySem PySem.Spec PyProof.Rows
theorem U7 {X:Cx}:Bq X (.builtin "sorted") (fun xs H Q=>∃ p ns,xs=[.ref p]/\SqL X.K H p (ns.map V.int)/\ns.length<64/\∀ l (ms:List Int),H l=none->ms.Perm ns->ms.Pairwise (·<=·)->Q (.ref l) (upd H l (.lst (ms.map V.int)))):=by
 intro pins s σ H xs us Q I r h
 obtain ⟨p,ns,rfl,hq,h64,q⟩:=h
 obtain ⟨u,rfl,ru⟩:=vals1 r
 cases ru
 obtain ⟨its,rv,pl,hz⟩:=I.list hq
 have hl:=rv.length
 rw[List.length_map] at hl
 refine sorted_ints pl.isList (intsAre_of rv) (by lia) fun out ms b1 b2 b3=>?_
 obtain ⟨e,he⟩:=sortedAll_at s.heap its out
 have hn:H (s.heap.objs.size+1)=none:=I.hok.fresh (Nat.le_succ _)
 refine ⟨.ref (s.heap.objs.size+1),_,I.laid (t':=s.toks) (o:=.lst (ms.map V.int)) (fun b u q=>sortedAll_old q) (Nat.le_succ _) ⟨?_,out.toList,e,Ia b1,?_⟩,rfl,q _ ms hn b2 b3⟩
 ·rw[List.length_map,b2.length_eq]
  rw[List.length_map] at hz
  exact hz
 ·simpa using he
end L2
namespace DL
open PySem L2
section
variable {X:Cx} {a b e:Expr} {ma mb:ME} {es:List Expr} {ms:MA} {p pos:Pos}
abbrev Cd:=gB0 fun i j=>decide (i<j)
theorem FW (ha:DE X a ma) (hb:DE X b mb):DT X (.Compare a [.Lt] [b] pos) (AE (mOp Cd ma mb)):=DU Uq JI ha hb (D8 _)
@[simp] def Dv:Gm->List SV->Option (List D):=fun Γ xs=>match xs with
 | [x]=>(elems Γ x).bind fun xs=>(intsOf xs).bind fun ns=>if ns.length<64 then some ((sortI ns).map .int) else none
 | _=>none
def PR (K:PySem.W.Frag):List V->Hp->VK->Prop:=fun xs H Q=>∃ p ns,xs=[.ref p]/\SqL K H p (ns.map V.int)/\ns.length<64/\∀ l (ms:List Int),H l=none->ms.Perm ns->ms.Pairwise (·<=·)->Q (.ref l) (upd H l (.lst (ms.map V.int)))
theorem Rb:CaF X Dv (PR X.K):=by
 intro f α s σ H xs us z Q hf rs hu e q
 unfold Dv at e
 split at e
 ·obtain ⟨xs,h0,e⟩:=bind_some e
  obtain ⟨ns,h00,e⟩:=bind_some e
  split at e
  ·rename_i h64
   cases e
   obtain ⟨v,r,rfl,h1,h2⟩:=hu.cons_inv
   rw[h2.nil_inv]
   obtain ⟨a,vs,rfl,h3,h4⟩:=Be rs h0 h1
   have:=Lm h00
   subst this
   have:=h4.ints
   subst this
   refine ⟨a,ns,rfl,SqL.of h3,h64,fun l ms hl hp hs=>q l _ hl ?_⟩
   rw[UE (hp.trans (sortI_perm ns).symm) hs (NU ns)]
   exact Reps.of_ints
  ·cases e
 ·cases e
theorem OH (T:Ev.Nm X.mg) (ha:DA X (e::es) ms) (hg:Gl X "sorted":=by rfl) (he:starEach (e::es) X.env=(false,eval e X.env)::starEach es X.env:=by rfl) (hpl:(backTo pos (starEach es X.env)).any (·.1)=false:=by rfl):DF X (.Call (.Name "sorted" p) (e::es) [] pos) (EK Dv ms):=
 SW U7 Rb hg T.sorted PyProof.Rows.boot_sorted ha (by decide) (by decide) he hpl
end
end DL
namespace Ev
open PySem
def top (i:Nat):Stmt:=PySem.Challenge.pw_evenlots_k45_texts_of_no_rows.main.body.getD i (.Pass ⟨0,0,0,0⟩)
structure Cal (P:Program) (w:World) (K:PySem.W.Frag) (mg:Str->Option Value) (base:Heap) (x:Str) (lv:Nat) (f:Addr) (fd:FuncData) (ps:List Str) (sp:L2.Sp):Prop where
 G:L2.FnOk P w K mg base L2.CX0 lv f fd ps sp
 b:L2.Binds K fd ps []
 k:PySem.W.keepIn K (.ref f)=true
 m:mg x=some (.ref f)
end Ev
namespace DL
open PySem L2 Ev
abbrev Ge:Stmt:=top 28
abbrev Mu:List Str:=["rows"]
def Me (yB:MD):MS:=(Aa (CK (mC (.str "; ")) (AF (BN (Bh (AA 0)) 1 [] (AZ 0) mTT (AK yB (AB (AA 0) AC))))))
theorem SX:FnScope Mu ["rows"] (Ac Ge):=⟨rfl,rfl,rfl,by decide +kernel,rfl,by decide +kernel,by decide +kernel⟩
theorem PC {P:Program} {w:World} {K:PySem.W.Frag} {mg:Str->Option Value} {base:Heap} {fa:Addr} {fd:FuncData} (F:Fun K "_law_written" "_law_written" Ge fa fd) (T:Nm mg) {xI:Addr} {xJ:FuncData} {yB:MD} (yC:Cal P w K mg base "_law_row_written" 1 xI xJ ["row"] (spD K 1 yB)):FnOk P w K mg base CX0 2 fa fd ["rows"] (spD K 1 (mFn 1 (Me yB))):=
 Bl F SX fun cdv A outer s H E hr=>(AW (Aq (GE AI (Ai (C1 (esc:=(Ac Ge)) (N:=Mu) (tn:=["row"]) (fn:=[]) (ix:=[]) rfl rfl rfl ⟨rfl,by decide +kernel,by decide +kernel,by decide +kernel,rfl,by decide +kernel⟩ (Da (dv 0)) (fun _ _ _ _ _=>(Bj (BM (i:=0) (show (["row"]:List Str).Nodup by decide +kernel) rfl (Or.inl rfl)))) (fun _ _ _ _ _=>Cj) (fun _ _ _ _ _=>(Aw yC.G hr rfl yC.m yC.k yC.b (AD (dv 0) AJ) (AQ Ak))))) ⟨rfl,rfl,rfl,rfl⟩)))
abbrev Fg:Stmt:=top 10
abbrev Mv:List Str:=["thing"]
def Gz:MS:=(AG (mIf (mOr (As (Am (A0 "str" (AA 0)))) (As (AE (BA Af Af (mC (.int 1)) (AO Ag (AB (AA 0) AC)) (mC (.int 8)))))) (Aa (mC (.bl false))) AU)
 (Aa (AO CM (AB (AF (BN (Bi (AA 0)) 1 [] (AZ 0) mTT (BA Af Af (mC (.str "a")) (AA 0) (mC (.str "z"))))) AC))))
theorem U1:FnScope Mv ["thing"] (Ac Fg):=⟨rfl,rfl,rfl,by decide +kernel,rfl,by decide +kernel,by decide +kernel⟩
theorem U4 {P:Program} {w:World} {K:PySem.W.Frag} {mg:Str->Option Value} {base:Heap} {fa:Addr} {fd:FuncData} (F:Fun K "is_tag" "is_tag" Fg fa fd) (T:Nm mg) (g_MOST_LETTERS:∃ t,mg "MOST_LETTERS"=some (.int 8 t)):FnOk P w K mg base CX0 1 fa fd ["thing"] (spD K 1 (mFn 1 (Gz))):=
 Bl F U1 fun cdv A outer s H E hr=>(AN (Ao (CN (CF (CZ (B9 (E6 T (dv 0)))) (DH (CZ (J2 AH (Bb T (AD (dv 0) AJ)) (FA g_MOST_LETTERS)))))) (AW (Aq DZ)) Ax)
 (AW (Aq (KN T.all (AD (Ai (C1 (esc:=(Ac Fg)) (N:=Mv) (tn:=["sign"]) (fn:=[]) (ix:=[]) rfl rfl rfl ⟨rfl,by decide +kernel,by decide +kernel,by decide +kernel,rfl,by decide +kernel⟩ (Fy (dv 0)) (fun _ _ _ _ _=>(Bj (BM (i:=0) (show (["sign"]:List Str).Nodup by decide +kernel) rfl (Or.inl rfl)))) (fun _ _ _ _ _=>Cj) (fun _ _ _ _ _=>(Ku AI (dv 0) AI)))) AJ)))))
abbrev Fh:Stmt:=top 14
abbrev Nq:List Str:=["text","most"]
def Gh:MS:=(AG (mIf (As (AE (BA Af Af (mC (.int 1)) (AO Ag (AB (AA 0) AC)) (AA 1)))) (Aa (mC (.bl false))) AU)
 (AG (mIf (As (Am (AO CM (AB (AF (BN (Bi (AA 0)) 1 [] (AZ 0) mTT (BA Af Af (mC (.str "0")) (AA 0) (mC (.str "9"))))) AC)))) (Aa (mC (.bl false))) AU)
 (Aa (Ex (mOp AR (AA 0) (mC (.str "0"))) (mOp Ap (mOp gIx (AA 0) (mC (.int 0))) (mC (.str "0")))))))
theorem PV:FnScope Nq ["text","most"] (Ac Fh):=⟨rfl,rfl,rfl,by decide +kernel,rfl,by decide +kernel,by decide +kernel⟩
theorem Ve {P:Program} {w:World} {K:PySem.W.Frag} {mg:Str->Option Value} {base:Heap} {fa:Addr} {fd:FuncData} (F:Fun K "are_figures" "are_figures" Fh fa fd) (T:Nm mg):FnOk P w K mg base CX0 1 fa fd ["text","most"] (spD K 2 (mFn 2 (Gh))):=
 Bl F PV fun cdv A outer s H E hr=>(AN (Ao (CZ (J2 AH (Bb T (AD (dv 0) AJ)) (dv 1))) (AW (Aq DZ)) Ax)
 (AN (Ao (CZ (B9 (KN T.all (AD (Ai (C1 (esc:=(Ac Fh)) (N:=Nq) (tn:=["sign"]) (fn:=[]) (ix:=[]) rfl rfl rfl ⟨rfl,by decide +kernel,by decide +kernel,by decide +kernel,rfl,by decide +kernel⟩ (Fy (dv 0)) (fun _ _ _ _ _=>(Bj (BM (i:=0) (show (["sign"]:List Str).Nodup by decide +kernel) rfl (Or.inl rfl)))) (fun _ _ _ _ _=>Cj) (fun _ _ _ _ _=>(Ku AI (dv 0) AI)))) AJ)))) (AW (Aq DZ)) Ax)
 (AW (Aq (Rt (GJ hr.units (dv 0) AI) (Hc (K0 hr.units (BO (dv 0) AH) AI)))))))
abbrev JT:Stmt:=top 15
abbrev QS:List Str:=["text"]
def Ff (yA:MD):MS:=(AG (mIf (Am (D9 (AA 0) (mC (.str "-")))) (Aa (Dg (mOp Ap (AA 0) (mC (.str "-0"))) (AK yA (AB (mSl (AA 0) (some (mC (.int 1))) none) (AB (mC (.int 30)) AC))))) AU)
 (Aa (AK yA (AB (AA 0) (AB (mC (.int 30)) AC)))))
theorem Qa:FnScope QS ["text"] (Ac JT):=⟨rfl,rfl,rfl,by decide +kernel,rfl,by decide +kernel,by decide +kernel⟩
theorem SO {P:Program} {w:World} {K:PySem.W.Frag} {mg:Str->Option Value} {base:Heap} {fa:Addr} {fd:FuncData} (F:Fun K "is_key" "is_key" JT fa fd) (T:Nm mg) {xK:Addr} {xL:FuncData} {yA:MD} (zQ:Cal P w K mg base "are_figures" 1 xK xL ["text","most"] (spD K 2 yA)) (g_MOST_FIGURES:∃ t,mg "MOST_FIGURES"=some (.int 30 t)):FnOk P w K mg base CX0 2 fa fd ["text"] (spD K 1 (mFn 1 (Ff yA))):=
 Bl F Qa fun cdv A outer s H E hr=>(AN (Ao (B9 (Ot (dv 0) AI ⟨rfl,rfl,rfl,rfl⟩)) (AW (Aq (Fn (K0 hr.units (dv 0) AI) (Hc (Aw zQ.G hr rfl zQ.m zQ.k zQ.b (AD (Bc (dv 0) (BV AH) Bk) (AD (FA g_MOST_FIGURES) AJ)) (AQ (AQ Ak))))))) Ax)
 (AW (Aq (Aw zQ.G hr rfl zQ.m zQ.k zQ.b (AD (dv 0) (AD (FA g_MOST_FIGURES) AJ)) (AQ (AQ Ak))))))
abbrev FD:Stmt:=top 16
abbrev PZ:List Str:=["text","parts"]
def Fu (zG:MD) (zH:MD):MS:=(AG (AL 1 (AF (BS (AA 0) (mC (.str ":")))))
 (AG (mIf (mOr (AE (mOp Ap (AO Ag (AB (AA 1) AC)) (mC (.int 2)))) (mOr (As (Am (AK zG (AB (mOp gIx (AA 1) (mC (.int 0))) AC)))) (As (Am (AK zH (AB (mOp gIx (AA 1) (mC (.int 1))) AC)))))) (fun _=>none) AU)
 (Aa (CS (AB (AO Dr (AB (mOp gIx (AA 1) (mC (.int 0))) AC)) (AB (mOp gIx (AA 1) (mC (.int 1))) AC))))))
theorem sc_read_thing:FnScope PZ ["text"] (Ac FD):=⟨rfl,rfl,rfl,by decide +kernel,rfl,by decide +kernel,by decide +kernel⟩
theorem PX {P:Program} {w:World} {K:PySem.W.Frag} {mg:Str->Option Value} {base:Heap} {fa:Addr} {fd:FuncData} (F:Fun K "read_thing" "read_thing" FD fa fd) (T:Nm mg) {yX:Addr} {yY:FuncData} {zG:MD} (zI:Cal P w K mg base "is_key" 2 yX yY ["text"] (spD K 1 zG)) {yZ:Addr} {y7:FuncData} {zH:MD} (zJ:Cal P w K mg base "is_tag" 1 yZ y7 ["thing"] (spD K 1 zH)):FnOk P w K mg base CX0 3 fa fd ["text"] (spD K 1 (mFn 2 (Fu zG zH))):=
 Bl F sc_read_thing fun cdv A outer s H E hr=>(AN (Al (i:=1) sc_read_thing.nd rfl (Or.inl rfl) (Ai (Cy (dv 0) AI ⟨rfl,rfl,rfl,rfl⟩)))
 (AN (Ao (CN (CF (Cv hr.units (Bb T (AD (dv 1) AJ)) AH) (CF (CZ (B9 (Aw zI.G hr rfl zI.m zI.k zI.b (AD (BO (dv 1) AH) AJ) (AQ Ak)))) (DH (CZ (B9 (Aw zJ.G (hr.mono (by decide)) rfl zJ.m zJ.k zJ.b (AD (BO (dv 1) AH) AJ) (AQ Ak)))))))) (AW Jh) Ax)
 (AW (Aq (E5 (AD (JV T (AD (BO (dv 1) AH) AJ)) (AD (BO (dv 1) AH) AJ)))))))
abbrev Ej:Stmt:=top 17
abbrev JK:List Str:=["text"]
def Fq (zK:MD):MS:=(AG (mIf (AE (mOp AR (AA 0) (mC (.str "-")))) (Bn (AX AC)) AU)
 (Bn (BN (Bh (AF (BS (AA 0) (mC (.str ", "))))) 1 [] (AZ 0) mTT (AK zK (AB (AA 0) AC)))))
theorem LG:FnScope JK ["text"] (Ac Ej):=⟨rfl,rfl,rfl,by decide +kernel,rfl,by decide +kernel,by decide +kernel⟩
theorem RU {P:Program} {w:World} {K:PySem.W.Frag} {mg:Str->Option Value} {base:Heap} {fa:Addr} {fd:FuncData} (F:Fun K "read_row" "read_row" Ej fa fd) (T:Nm mg) {yD:Addr} {yE:FuncData} {zK:MD} (zL:Cal P w K mg base "read_thing" 3 yD yE ["text"] (spD K 1 zK)) (gs_NO_THINGS:∃ t,mg "NO_THINGS"=some (.str "-" t)):FnOk P w K mg base CX0 4 fa fd ["text"] (spF K 1 (Bd 1 (Fq zK))):=
 FS F LG fun cdv A outer s H E hr=>(AN (Ao (BK hr.units (dv 0) (KM gs_NO_THINGS)) (AW (EB (BF AJ))) Ax)
 (AW (EB (C1 (esc:=(Ac Ej)) (N:=JK) (tn:=["part"]) (fn:=[]) (ix:=[]) rfl rfl rfl ⟨rfl,by decide +kernel,by decide +kernel,by decide +kernel,rfl,by decide +kernel⟩ (Da (Ai (Cy (dv 0) AI ⟨rfl,rfl,rfl,rfl⟩))) (fun _ _ _ _ _=>(Bj (BM (i:=0) (show (["part"]:List Str).Nodup by decide +kernel) rfl (Or.inl rfl)))) (fun _ _ _ _ _=>Cj) (fun _ _ _ _ _=>(Aw zL.G hr rfl zL.m zL.k zL.b (AD (dv 0) AJ) (AQ Ak)))))))
abbrev Dp:Stmt:=top 18
abbrev Jr:List Str:=["text","parts"]
def Gw (zM:MDF):MS:=(AG (mIf (As (Am (A0 "str" (AA 0)))) (fun _=>none) AU)
 (AG (AL 1 (AF (BS (AA 0) (mC (.str "; ")))))
 (AG (mIf (AE (mOp gGt (AO Ag (AB (AA 1) AC)) (mC (.int 6)))) (fun _=>none) AU)
 (Bn (BN (Bh (AA 1)) 1 [] (AZ 0) mTT (AF (BG zM (AB (AA 0) AC))))))))
theorem sc_read_rows:FnScope Jr ["text"] (Ac Dp):=⟨rfl,rfl,rfl,by decide +kernel,rfl,by decide +kernel,by decide +kernel⟩
theorem SF {P:Program} {w:World} {K:PySem.W.Frag} {mg:Str->Option Value} {base:Heap} {fa:Addr} {fd:FuncData} (F:Fun K "read_rows" "read_rows" Dp fa fd) (T:Nm mg) {yF:Addr} {yG:FuncData} {zM:MDF} (zN:Cal P w K mg base "read_row" 4 yF yG ["text"] (spF K 1 zM)) (g_MOST_HANDS:∃ t,mg "MOST_HANDS"=some (.int 6 t)):FnOk P w K mg base CX0 5 fa fd ["text"] (spF K 1 (Bd 2 (Gw zM))):=
 FS F sc_read_rows fun cdv A outer s H E hr=>(AN (Ao (CZ (B9 (E6 T (dv 0)))) (AW Jh) Ax)
 (AN (Al (i:=1) sc_read_rows.nd rfl (Or.inl rfl) (Ai (Cy (dv 0) AI ⟨rfl,rfl,rfl,rfl⟩)))
 (AN (Ao (D7 (Bb T (AD (dv 1) AJ)) (FA g_MOST_HANDS)) (AW Jh) Ax)
 (AW (EB (C1 (esc:=(Ac Dp)) (N:=Jr) (tn:=["part"]) (fn:=[]) (ix:=[]) rfl rfl rfl ⟨rfl,by decide +kernel,by decide +kernel,by decide +kernel,rfl,by decide +kernel⟩ (Da (dv 1)) (fun _ _ _ _ _=>(Bj (BM (i:=0) (show (["part"]:List Str).Nodup by decide +kernel) rfl (Or.inl rfl)))) (fun _ _ _ _ _=>Cj) (fun _ _ _ _ _=>(Ai (E1 zN.G hr rfl zN.m zN.k zN.b (AD (dv 0) AJ) (AQ Ak))))))))))
abbrev Hz:Stmt:=top 20
abbrev VR:List Str:=["script","k"]
def Gx:MS:=(AG (mIf (AE (mOp Cd (AA 1) (AO Ag (AB (AA 0) AC)))) (Aa (mOp gIx (AA 0) (AA 1))) AU)
 (Aa (mC (.int 0))))
theorem UD:FnScope VR ["script","k"] (Ac Hz):=⟨rfl,rfl,rfl,by decide +kernel,rfl,by decide +kernel,by decide +kernel⟩
theorem Pn {P:Program} {w:World} {K:PySem.W.Frag} {mg:Str->Option Value} {base:Heap} {fa:Addr} {fd:FuncData} (F:Fun K "_law_cell_at" "_law_cell_at" Hz fa fd) (T:Nm mg):FnOk P w K mg base CX0 1 fa fd ["script","k"] (spD K 2 (mFn 2 (Gx))):=
 Bl F UD fun cdv A outer s H E hr=>(AN (Ao (FW (dv 1) (Bb T (AD (dv 0) AJ))) (AW (Aq (BO (dv 0) (dv 1)))) Ax)
 (AW (Aq AH)))
abbrev Ju:Stmt:=top 21
abbrev P6:List Str:=["cell","many","found","rest","stir","k","again"]
def Np:MS:=(mIf (Bw (AE (mOp gGe (AA 0) (mOp Dl (mC (.int 10)) (mC (.int 18))))) (AE (mOp gGt (AA 3) (mC (.int 0))))) (AG (Dn (DJ (AA 2) (mOp BD (AA 3) (mC (.int 64)))))
 (AL 3 (mOp CA (AA 3) (mC (.int 64))))) (AG (AL 4 (mOp BD (mOp Bf (mOp AV (mOp AV (AA 4) (mOp Bf (mC (.int 7)) (AA 5))) (mC (.int 3))) (mC (.int 48271))) (mC (.int 2147483647))))
 (AG (AL 6 (mOp BD (mOp Bf (mOp BD (mOp Bf (AA 4) (AA 4)) (mC (.int 2147483629))) (mC (.int 69621))) (mC (.int 2147483587))))
 (Dn (DJ (AA 2) (mOp BD (mOp CA (AA 6) (mC (.int 8))) (mC (.int 720720))))))))
def JC:MS:=(AG (BJ 2 (AX AC))
 (AG (AL 3 (AA 0))
 (AG (AL 4 (mOp BD (AA 0) (mC (.int 2147483647))))
 (AG (C5 (B3 (AB (AA 1) AC)) (AZ 5) (Np))
 (Bn (Dz 2))))))
theorem sc__law_numbers:FnScope P6 ["cell","many"] (Ac Ju):=⟨rfl,rfl,rfl,by decide +kernel,rfl,by decide +kernel,by decide +kernel⟩
theorem Rl {P:Program} {w:World} {K:PySem.W.Frag} {mg:Str->Option Value} {base:Heap} {fa:Addr} {fd:FuncData} (F:Fun K "_law_numbers" "_law_numbers" Ju fa fd) (T:Nm mg):FnOk P w K mg base CX0 1 fa fd ["cell","many"] (spF K 2 (Bd 7 (JC))):=
 FS F sc__law_numbers fun cdv A outer s H E hr=>(AN (DV (i:=2) sc__law_numbers.nd rfl (Or.inl rfl) (BF AJ))
 (AN (Al (i:=3) sc__law_numbers.nd rfl (Or.inl rfl) (dv 0))
 (AN (Al (i:=4) sc__law_numbers.nd rfl (Or.inl rfl) (Bv (dv 0) AH))
 (AN (FL PassesOwn.never rfl (Eo rfl T.range (AD (dv 1) AJ)) (Bj (BM (i:=5) sc__law_numbers.nd rfl (Or.inl rfl))) (AW (Ao (CN (Gc (TN (dv 0) (Kp AH AH)) (GO (D7 (dv 3) AH)))) (AN (F0 (HP (dv 2) (Bv (dv 3) AH)))
 (AW (Al (i:=3) sc__law_numbers.nd rfl (Or.inl rfl) (EX (dv 3) AH)))) (AN (Al (i:=4) sc__law_numbers.nd rfl (Or.inl rfl) (Bv (DN (Az (Az (dv 4) (DN AH (dv 5))) AH) AH) AH))
 (AN (Al (i:=6) sc__law_numbers.nd rfl (Or.inl rfl) (Bv (DN (Bv (DN (dv 4) (dv 4)) AH) AH) AH))
 (AW (F0 (HP (dv 2) (Bv (EX (dv 6) AH) AH)))))))))
 (AW (EB (Ie (pv 2))))))))
abbrev IW:Stmt:=top 22
abbrev Ts:List Str:=["cell","many"]
def HA (zC:MDF):MS:=(Bn (GC (AF (BG zC (AB (AA 0) (AB (AA 1) AC))))))
theorem SE:FnScope Ts ["cell","many"] (Ac IW):=⟨rfl,rfl,rfl,by decide +kernel,rfl,by decide +kernel,by decide +kernel⟩
theorem Qu {P:Program} {w:World} {K:PySem.W.Frag} {mg:Str->Option Value} {base:Heap} {fa:Addr} {fd:FuncData} (F:Fun K "_law_deck" "_law_deck" IW fa fd) (T:Nm mg) {y8:Addr} {y9:FuncData} {zC:MDF} (zO:Cal P w K mg base "_law_numbers" 1 y8 y9 ["cell","many"] (spF K 2 zC)):FnOk P w K mg base CX0 2 fa fd ["cell","many"] (spF K 2 (Bd 2 (HA zC))):=
 FS F SE fun cdv A outer s H E hr=>(AW (EB (QB (Ai (E1 zO.G hr rfl zO.m zO.k zO.b (AD (dv 0) (AD (dv 1) AJ)) (AQ (AQ Ak)))))))
abbrev JQ:Stmt:=top 23
abbrev UO:List Str:=["deck","many"]
def GB:MS:=(AG (mIf (AE (mOp AR (AA 0) (AF (AX AC)))) (Aa (mC (.int 0))) AU)
 (Aa (mOp BD (MW (AA 0)) (AA 1))))
theorem Ri:FnScope UO ["deck","many"] (Ac JQ):=⟨rfl,rfl,rfl,by decide +kernel,rfl,by decide +kernel,by decide +kernel⟩
theorem O7 {P:Program} {w:World} {K:PySem.W.Frag} {mg:Str->Option Value} {base:Heap} {fa:Addr} {fd:FuncData} (F:Fun K "_law_take" "_law_take" JQ fa fd) (T:Nm mg):FnOk P w K mg base CX0 1 fa fd ["deck","many"] (spD K 2 (mFn 2 (GB))):=
 Bl F Ri fun cdv A outer s H E hr=>(AN (Ao (BK hr.units (dv 0) (Ai (BF AJ))) (AW (Aq AH)) Ax)
 (AW (Aq (Bv (Tp (dv 0)) (dv 1)))))
abbrev Jk:Stmt:=top 24
abbrev Pg:List Str:=["deck","way","number","far"]
def Gy (zB:MD):MS:=(AG (AL 1 (AK zB (AB (AA 0) (AB (mC (.int 8)) AC))))
 (AG (AL 2 (AK zB (AB (AA 0) (AB (mC (.int 64)) AC))))
 (AG (mIf (AE (mOp Cd (AA 1) (mC (.int 4)))) (Aa (mOp BD (AA 2) (mC (.int 6)))) AU)
 (AG (mIf (AE (mOp AR (AA 1) (mC (.int 4)))) (Aa (mOp Df (mC (.int 0)) (mOp BD (AA 2) (mC (.int 6))))) AU)
 (AG (mIf (AE (mOp AR (AA 1) (mC (.int 5)))) (Aa (mOp Df (mOp Bf (AA 2) (mC (.int 1009))) (mC (.int 30000)))) AU)
 (AG (AL 3 (mOp AV (mOp Bf (mOp Dl (mC (.int 10)) (mC (.int 29))) (mOp AV (mC (.int 1)) (mOp BD (AA 2) (mC (.int 9))))) (mOp Bf (AA 2) (mC (.int 7919)))))
 (Aa (mOp gIx (AF (AX (AB (AA 3) (AB (mOp Df (mC (.int 0)) (AA 3)) AC)))) (mOp Df (AA 1) (mC (.int 6)))))))))))
theorem sc__law_key:FnScope Pg ["deck"] (Ac Jk):=⟨rfl,rfl,rfl,by decide +kernel,rfl,by decide +kernel,by decide +kernel⟩
theorem SM {P:Program} {w:World} {K:PySem.W.Frag} {mg:Str->Option Value} {base:Heap} {fa:Addr} {fd:FuncData} (F:Fun K "_law_key" "_law_key" Jk fa fd) (T:Nm mg) {zD:Addr} {zE:FuncData} {zB:MD} (zA:Cal P w K mg base "_law_take" 1 zD zE ["deck","many"] (spD K 2 zB)):FnOk P w K mg base CX0 2 fa fd ["deck"] (spD K 1 (mFn 4 (Gy zB))):=
 Bl F sc__law_key fun cdv A outer s H E hr=>(AN (Al (i:=1) sc__law_key.nd rfl (Or.inl rfl) (Aw zA.G hr rfl zA.m zA.k zA.b (AD (dv 0) (AD AH AJ)) (AQ (AQ Ak))))
 (AN (Al (i:=2) sc__law_key.nd rfl (Or.inl rfl) (Aw zA.G hr rfl zA.m zA.k zA.b (AD (dv 0) (AD AH AJ)) (AQ (AQ Ak))))
 (AN (Ao (FW (dv 1) AH) (AW (Aq (Bv (dv 2) AH))) Ax)
 (AN (Ao (BK hr.units (dv 1) AH) (AW (Aq (FP AH (Bv (dv 2) AH)))) Ax)
 (AN (Ao (BK hr.units (dv 1) AH) (AW (Aq (FP (DN (dv 2) AH) AH))) Ax)
 (AN (Al (i:=3) sc__law_key.nd rfl (Or.inl rfl) (Az (DN (Kp AH AH) (Az AH (Bv (dv 2) AH))) (DN (dv 2) AH)))
 (AW (Aq (BO (Ai (BF (AD (dv 3) (AD (FP AH (dv 3)) AJ)))) (FP (dv 1) AH))))))))))
abbrev GN:Stmt:=top 25
abbrev Nz:List Str:=["deck","number","letters","size"]
def HY (zB:MD):MS:=(AG (AL 1 (AK zB (AB (AA 0) (AB (mC (.int 720720)) AC))))
 (AG (mIf (AE (mOp AR (mOp BD (AA 1) (mC (.int 2))) (mC (.int 0)))) (Aa (mOp gIx (AF (AX (AB (mC (.str "a")) (AB (mC (.str "b")) (AB (mC (.str "ab")) (AB (mC (.str "zzzzzzzz")) (AB (mC (.str "x")) AC))))))) (mOp BD (mOp CA (AA 1) (mC (.int 2))) (mC (.int 5))))) AU)
 (AG (AL 2 (mC (.str "abcdefghijklmnopqrstuvwxyz")))
 (AG (AL 3 (mOp AV (mC (.int 1)) (mOp BD (mOp CA (AA 1) (mC (.int 4))) (mC (.int 8)))))
 (Aa (CK (mC (.str "")) (AF (BN (B3 (AB (AA 3) AC)) 1 [2,1] (AZ 0) mTT (mOp gIx (AA 1) (mOp BD (mOp AV (mOp CA (AA 2) (mC (.int 2))) (mOp Bf (AA 0) (mOp AV (mOp CA (AA 2) (mC (.int 16))) (AA 0)))) (mC (.int 26))))))))))))
theorem sc__law_tag:FnScope Nz ["deck"] (Ac GN):=⟨rfl,rfl,rfl,by decide +kernel,rfl,by decide +kernel,by decide +kernel⟩
theorem Um {P:Program} {w:World} {K:PySem.W.Frag} {mg:Str->Option Value} {base:Heap} {fa:Addr} {fd:FuncData} (F:Fun K "_law_tag" "_law_tag" GN fa fd) (T:Nm mg) {zD:Addr} {zE:FuncData} {zB:MD} (zA:Cal P w K mg base "_law_take" 1 zD zE ["deck","many"] (spD K 2 zB)):FnOk P w K mg base CX0 2 fa fd ["deck"] (spD K 1 (mFn 4 (HY zB))):=
 Bl F sc__law_tag fun cdv A outer s H E hr=>(AN (Al (i:=1) sc__law_tag.nd rfl (Or.inr rfl) (Aw zA.G hr rfl zA.m zA.k zA.b (AD (dv 0) (AD AH AJ)) (AQ (AQ Ak))))
 (AN (Ao (BK hr.units (Bv (dv 1) AH) AH) (AW (Aq (BO (Ai (BF (AD AI (AD AI (AD AI (AD AI (AD AI AJ))))))) (Bv (EX (dv 1) AH) AH)))) Ax)
 (AN (Al (i:=2) sc__law_tag.nd rfl (Or.inr rfl) AI)
 (AN (Al (i:=3) sc__law_tag.nd rfl (Or.inl rfl) (Az AH (Bv (EX (dv 1) AH) AH)))
 (AW (Aq (GE AI (Ai (C1 (esc:=(Ac GN)) (N:=Nz) (tn:=["j"]) (fn:=["letters","number"]) (ix:=[2,1]) rfl rfl rfl ⟨rfl,by decide +kernel,by decide +kernel,by decide +kernel,rfl,by decide +kernel⟩ (Eo rfl T.range (AD (dv 3) AJ)) (fun _ _ _ _ _=>(Bj (BM (i:=0) (show (["j","letters","number"]:List Str).Nodup by decide +kernel) rfl (Or.inl rfl)))) (fun _ _ _ _ _=>Cj) (fun _ _ _ _ _=>(BO (dv 1) (Bv (Az (EX (dv 2) AH) (DN (dv 0) (Az (EX (dv 2) AH) (dv 0)))) AH))))) ⟨rfl,rfl,rfl,rfl⟩)))))))
abbrev FT:Stmt:=top 26
abbrev IL:List Str:=["deck","most","rows","hand","many","keys","way"]
def GG (zB:MD) (zT:MD) (zU:MD):MS:=(AG (AL 4 (AK zB (AB (AA 0) (AB (mOp gIx (AF (AX (AB (mC (.int 1)) (AB (mOp AV (AA 1) (mC (.int 1))) (AB (mC (.int 4)) (AB (mOp AV (AA 1) (mC (.int 1))) AC)))))) (AK zB (AB (AA 0) (AB (mC (.int 4)) AC)))) AC))))
 (AG (AL 5 (AF (BN (B3 (AB (AA 4) AC)) 1 [0] (AZ 0) mTT (AK zT (AB (AA 1) AC)))))
 (AG (AL 6 (AK zB (AB (AA 0) (AB (mC (.int 4)) AC))))
 (AG (mIf (AE (mOp AR (AA 6) (mC (.int 1)))) (AL 5 (AF (EK Dv (AB (AA 5) AC)))) AU)
 (AG (mIf (AE (mOp AR (AA 6) (mC (.int 2)))) (AL 5 (AF (BE DQ (mSl (AA 5) none (some (mC (.int 1)))) (AA 4)))) AU)
 (Dn (DJ (AA 2) (AF (BN (Bh (AA 5)) 1 [0] (AZ 0) mTT (CS (AB (AA 0) (AB (AK zU (AB (AA 1) AC)) AC))))))))))))
def HI (zB:MD) (zT:MD) (zU:MD):MS:=(AG (BJ 2 (AX AC))
 (AG (C5 (B3 (AB (mOp AV (mC (.int 1)) (AK zB (AB (AA 0) (AB (mC (.int 6)) AC)))) AC)) (AZ 3) (GG zB zT zU))
 (Bn (Dz 2))))
theorem sc__law_rows:FnScope IL ["deck","most"] (Ac FT):=⟨rfl,rfl,rfl,by decide +kernel,rfl,by decide +kernel,by decide +kernel⟩
theorem VQ {P:Program} {w:World} {K:PySem.W.Frag} {mg:Str->Option Value} {base:Heap} {fa:Addr} {fd:FuncData} (F:Fun K "_law_rows" "_law_rows" FT fa fd) (T:Nm mg) {zD:Addr} {zE:FuncData} {zB:MD} (zA:Cal P w K mg base "_law_take" 1 zD zE ["deck","many"] (spD K 2 zB)) {xM:Addr} {xN:FuncData} {zT:MD} (yH:Cal P w K mg base "_law_key" 2 xM xN ["deck"] (spD K 1 zT)) {xO:Addr} {xP:FuncData} {zU:MD} (yI:Cal P w K mg base "_law_tag" 2 xO xP ["deck"] (spD K 1 zU)):FnOk P w K mg base CX0 3 fa fd ["deck","most"] (spF K 2 (Bd 7 (HI zB zT zU))):=
 FS F sc__law_rows fun cdv A outer s H E hr=>(AN (DV (i:=2) sc__law_rows.nd rfl (Or.inl rfl) (BF AJ))
 (AN (FL PassesOwn.never rfl (Eo rfl T.range (AD (Az AH (Aw zA.G (hr.mono (by decide)) rfl zA.m zA.k zA.b (AD (dv 0) (AD AH AJ)) (AQ (AQ Ak)))) AJ)) (Bj (BM (i:=3) sc__law_rows.nd rfl (Or.inl rfl))) (AN (Al (i:=4) sc__law_rows.nd rfl (Or.inl rfl) (Aw zA.G (hr.mono (by decide)) rfl zA.m zA.k zA.b (AD (dv 0) (AD (BO (Ai (BF (AD AH (AD (Az (dv 1) AH) (AD AH (AD (Az (dv 1) AH) AJ)))))) (Aw zA.G (hr.mono (by decide)) rfl zA.m zA.k zA.b (AD (dv 0) (AD AH AJ)) (AQ (AQ Ak)))) AJ)) (AQ (AQ Ak))))
 (AN (Mz (i:=5) sc__law_rows.nd rfl rfl (esc:=(Ac FT)) (N:=IL) (tn:=["k"]) (fn:=["deck"]) (ix:=[0]) rfl rfl rfl ⟨rfl,by decide +kernel,by decide +kernel,by decide +kernel,rfl,by decide +kernel⟩ (Eo rfl T.range (AD (dv 4) AJ)) (fun _ _ _ _ _=>(Bj (BM (i:=0) (show (["k","deck"]:List Str).Nodup by decide +kernel) rfl (Or.inl rfl)))) (fun _ _ _ _ _=>Cj) (fun _ _ _ _ _=>(Aw yH.G hr rfl yH.m yH.k yH.b (AD (dv 1) AJ) (AQ Ak))))
 (AN (Al (i:=6) sc__law_rows.nd rfl (Or.inl rfl) (Aw zA.G (hr.mono (by decide)) rfl zA.m zA.k zA.b (AD (dv 0) (AD AH AJ)) (AQ (AQ Ak))))
 (AN (Ao (BK hr.units (dv 6) AH) (AW (Al (i:=5) sc__law_rows.nd rfl (Or.inl rfl) (Ai (OH T (AD (dv 5) AJ))))) Ax)
 (AN (Ao (BK hr.units (dv 6) AH) (AW (Al (i:=5) sc__law_rows.nd rfl (Or.inl rfl) (Ai (NA (Bc (dv 5) Bk (BV AH)) (dv 4))))) Ax)
 (AW (F0 (HP (dv 2) (Ai (C1 (esc:=(Ac FT)) (N:=IL) (tn:=["key"]) (fn:=["deck"]) (ix:=[0]) rfl rfl rfl ⟨rfl,by decide +kernel,by decide +kernel,by decide +kernel,rfl,by decide +kernel⟩ (Da (dv 5)) (fun _ _ _ _ _=>(Bj (BM (i:=0) (show (["key","deck"]:List Str).Nodup by decide +kernel) rfl (Or.inl rfl)))) (fun _ _ _ _ _=>Cj) (fun _ _ _ _ _=>(E5 (AD (dv 0) (AD (Aw yI.G hr rfl yI.m yI.k yI.b (AD (dv 1) AJ) (AQ Ak)) AJ)))))))))))))))
 (AW (EB (Ie (pv 2))))))
abbrev Hx:Stmt:=top 27
abbrev TU:List Str:=["row","found","key","tag"]
def Jg:MS:=(AL 1 (mOp AV (mOp AV (mOp AV (mOp AV (AA 1) (mC (.str ", "))) (AO FV (AB (AA 2) AC))) (mC (.str ":"))) (AA 3)))
def IP:MS:=(AG (AL 1 (mC (.str "")))
 (AG (C5 (Bh (AA 0)) (CU [2,3]) (Jg))
 (AG (mIf (AE (mOp AR (AA 0) (AF (AX AC)))) (Aa (mC (.str "-"))) AU)
 (Aa (mSl (AA 1) (some (mC (.int 2))) none)))))
theorem sc__law_row_written:FnScope TU ["row"] (Ac Hx):=⟨rfl,rfl,rfl,by decide +kernel,rfl,by decide +kernel,by decide +kernel⟩
theorem U9 {P:Program} {w:World} {K:PySem.W.Frag} {mg:Str->Option Value} {base:Heap} {fa:Addr} {fd:FuncData} (F:Fun K "_law_row_written" "_law_row_written" Hx fa fd) (T:Nm mg):FnOk P w K mg base CX0 1 fa fd ["row"] (spD K 1 (mFn 4 (IP))):=
 Bl F sc__law_row_written fun cdv A outer s H E hr=>(AN (Al (i:=1) sc__law_row_written.nd rfl (Or.inl rfl) AI)
 (AN (FL PassesOwn.never rfl (Da (dv 0)) (Gp (is:=[2,3]) (n:=2) rfl (Gn rfl rfl (C3 (BM (i:=2) sc__law_row_written.nd rfl (Or.inl rfl)) (C3 (BM (i:=3) sc__law_row_written.nd rfl (Or.inl rfl)) GY)))) (AW (Al (i:=1) sc__law_row_written.nd rfl (Or.inl rfl) (Az (Az (Az (Az (dv 1) AI) (QR T (AD (dv 2) AJ))) AI) (dv 3)))))
 (AN (Ao (BK hr.units (dv 0) (Ai (BF AJ))) (AW (Aq AI)) Ax)
 (AW (Aq (Bc (dv 1) (BV AH) Bk))))))
abbrev E2:Stmt:=top 29
abbrev M0:List Str:=["found","due"]
def Ea (zF:(List D->Option D)):MS:=(AG (mIf (AE (mOp Ca (AA 1) (mC .non))) (Aa (mOp Ca (AA 0) (mC .non))) AU)
 (AG (mIf (mOr (Am (A0 "tuple" (AA 1))) (Am (A0 "list" (AA 1)))) (AG (mIf (mOr (AE (mOp Ap (A0 "tuple" (AA 0)) (A0 "tuple" (AA 1)))) (AE (mOp Ap (A0 "list" (AA 0)) (A0 "list" (AA 1))))) (Aa (mC (.bl false))) AU)
 (AG (mIf (AE (mOp Ap (AO Ag (AB (AA 0) AC)) (AO Ag (AB (AA 1) AC)))) (Aa (mC (.bl false))) AU)
 (Aa (mOp AR (AF (BN (B3 (AB (AO Ag (AB (AA 1) AC)) AC)) 1 [0,1] (AZ 0) (As (Am (Ce zF (AB (mOp gIx (AA 1) (AA 0)) (AB (mOp gIx (AA 2) (AA 0)) AC))))) (AA 0))) (AF (AX AC)))))) AU)
 (AG (mIf (Am (A0 "str" (AA 1))) (Aa (Dg (A0 "str" (AA 0)) (mOp AR (AA 0) (AA 1)))) AU)
 (Aa (Dg (A0 "int" (AA 0)) (Dg (M3 (A0 "bool" (AA 0))) (mOp AR (AA 0) (AA 1))))))))
theorem Vg:FnScope M0 ["found","due"] (Ac E2):=⟨rfl,rfl,rfl,by decide +kernel,rfl,by decide +kernel,by decide +kernel⟩
theorem Vb {P:Program} {w:World} {K:PySem.W.Frag} {mg:Str->Option Value} {base:Heap} {fa:Addr} {fd:FuncData} (F:Fun K "_law_alike" "_law_alike" E2 fa fd) (T:Nm mg) {kk:Nat} {xA:Addr} {xB:FuncData} {zF:(List D->Option D)} (zP:Cal P w K mg base "_law_alike" kk xA xB ["found","due"] (spQ K 2 zF)):FnOk P w K mg base CX0 (kk+1) fa fd ["found","due"] (spD K 2 (mFn 2 (Ea zF))):=
 Bl F Vg fun cdv A outer s H E hr=>(AN (Ao (Sl (dv 1) CV) (AW (Aq (Nf (dv 0) CV))) Ax)
 (AN (Ao (CN (CF (B9 (Hs T (dv 1))) (DH (B9 (Jt T (dv 1)))))) (AN (Ao (CN (CF (Cv hr.units (Hs T (dv 0)) (Hs T (dv 1))) (DH (Cv hr.units (Jt T (dv 0)) (Jt T (dv 1)))))) (AW (Aq DZ)) Ax)
 (AN (Ao (Cv hr.units (Bb T (AD (dv 0) AJ)) (Bb T (AD (dv 1) AJ))) (AW (Aq DZ)) Ax)
 (AW (Aq (GJ hr.units (Ai (C1 (esc:=(Ac E2)) (N:=M0) (tn:=["k"]) (fn:=["found","due"]) (ix:=[0,1]) rfl rfl rfl ⟨rfl,by decide +kernel,by decide +kernel,by decide +kernel,rfl,by decide +kernel⟩ (Eo rfl T.range (AD (Bb T (AD (dv 1) AJ)) AJ)) (fun _ _ _ _ _=>(Bj (BM (i:=0) (show (["k","found","due"]:List Str).Nodup by decide +kernel) rfl (Or.inl rfl)))) (fun _ _ _ _ _=>(Jj (CZ (B9 (KW zP.G hr rfl zP.m zP.k zP.b (AD (BO (dv 1) (dv 0)) (AD (BO (dv 2) (dv 0)) AJ)) (AQ (AQ Ak))))))) (fun _ _ _ _ _=>(dv 0)))) (Ai (BF AJ))))))) Ax)
 (AN (Ao (B9 (E6 T (dv 1))) (AW (Aq (Fn (E6 T (dv 0)) (Hc (GJ hr.units (dv 0) (dv 1)))))) Ax)
 (AW (Aq (Fn (Va T (dv 0)) (Fn (Pu (Sr T (dv 0))) (Hc (GJ hr.units (dv 0) (dv 1))))))))))
abbrev FI:Stmt:=top 30
abbrev Iw:List Str:=["word","key","mark","tag","figures"]
def Hg:MS:=(AG (CY (Ds (AA 0) (mC (.str ":"))) (CU [1,2,3]))
 (AG (AL 4 (AA 1))
 (AG (mIf (AE (mOp AR (mSl (AA 1) none (some (mC (.int 1)))) (mC (.str "-")))) (AL 4 (mSl (AA 1) (some (mC (.int 1))) none)) AU)
 (AG (mIf (mOr (AE (mOp AR (AA 4) (mC (.str "")))) (mOr (AE (mOp gGt (AO Ag (AB (AA 4) AC)) (mC (.int 30)))) (AE (mOp Ap (AF (BN (Bi (AA 4)) 1 [] (AZ 0) (AE (mOp DB (AA 0) (mC (.str "0123456789")))) (AA 0))) (AF (AX AC)))))) (Aa (mC .non)) AU)
 (AG (mIf (mOr (Bw (AE (mOp gGt (AO Ag (AB (AA 4) AC)) (mC (.int 1)))) (AE (mOp AR (mOp gIx (AA 4) (mC (.int 0))) (mC (.str "0"))))) (mOr (AE (mOp AR (AA 1) (mC (.str "-0")))) (mOr (AE (mOp Cd (AO Ag (AB (AA 3) AC)) (mC (.int 1)))) (AE (mOp gGt (AO Ag (AB (AA 3) AC)) (mC (.int 8))))))) (Aa (mC .non)) AU)
 (AG (mIf (AE (mOp Ap (AF (BN (Bi (AA 3)) 1 [] (AZ 0) (AE (mOp DB (AA 0) (mC (.str "abcdefghijklmnopqrstuvwxyz")))) (AA 0))) (AF (AX AC)))) (Aa (mC .non)) AU)
 (Aa (CS (AB (AO Dr (AB (AA 1) AC)) (AB (AA 3) AC))))))))))
theorem sc__law_thing:FnScope Iw ["word"] (Ac FI):=⟨rfl,rfl,rfl,by decide +kernel,rfl,by decide +kernel,by decide +kernel⟩
theorem Qq {P:Program} {w:World} {K:PySem.W.Frag} {mg:Str->Option Value} {base:Heap} {fa:Addr} {fd:FuncData} (F:Fun K "_law_thing" "_law_thing" FI fa fd) (T:Nm mg):FnOk P w K mg base CX0 1 fa fd ["word"] (spD K 1 (mFn 5 (Hg))):=
 Bl F sc__law_thing fun cdv A outer s H E hr=>(AN (Jb (Mp (dv 0) AI ⟨rfl,rfl,rfl,rfl⟩) (Gp (is:=[1,2,3]) (n:=3) rfl (Gn rfl rfl (C3 (BM (i:=1) sc__law_thing.nd rfl (Or.inl rfl)) (C3 (BM (i:=2) sc__law_thing.nd rfl (Or.inl rfl)) (C3 (BM (i:=3) sc__law_thing.nd rfl (Or.inl rfl)) GY))))))
 (AN (Al (i:=4) sc__law_thing.nd rfl (Or.inl rfl) (dv 1))
 (AN (Ao (BK hr.units (Bc (dv 1) Bk (BV AH)) AI) (AW (Al (i:=4) sc__law_thing.nd rfl (Or.inl rfl) (Bc (dv 1) (BV AH) Bk))) Ax)
 (AN (Ao (CN (CF (BK hr.units (dv 4) AI) (CF (D7 (Bb T (AD (dv 4) AJ)) AH) (DH (Cv hr.units (Ai (C1 (esc:=(Ac FI)) (N:=Iw) (tn:=["sign"]) (fn:=[]) (ix:=[]) rfl rfl rfl ⟨rfl,by decide +kernel,by decide +kernel,by decide +kernel,rfl,by decide +kernel⟩ (Fy (dv 4)) (fun _ _ _ _ _=>(Bj (BM (i:=0) (show (["sign"]:List Str).Nodup by decide +kernel) rfl (Or.inl rfl)))) (fun _ _ _ _ _=>(Jj (Ny (dv 0) AI))) (fun _ _ _ _ _=>(dv 0)))) (Ai (BF AJ))))))) (AW (Aq CV)) Ax)
 (AN (Ao (CN (CF (CN (Gc (D7 (Bb T (AD (dv 4) AJ)) AH) (GO (BK hr.units (BO (dv 4) AH) AI)))) (CF (BK hr.units (dv 1) AI) (CF (FW (Bb T (AD (dv 3) AJ)) AH) (DH (D7 (Bb T (AD (dv 3) AJ)) AH)))))) (AW (Aq CV)) Ax)
 (AN (Ao (Cv hr.units (Ai (C1 (esc:=(Ac FI)) (N:=Iw) (tn:=["sign"]) (fn:=[]) (ix:=[]) rfl rfl rfl ⟨rfl,by decide +kernel,by decide +kernel,by decide +kernel,rfl,by decide +kernel⟩ (Fy (dv 3)) (fun _ _ _ _ _=>(Bj (BM (i:=0) (show (["sign"]:List Str).Nodup by decide +kernel) rfl (Or.inl rfl)))) (fun _ _ _ _ _=>(Jj (Ny (dv 0) AI))) (fun _ _ _ _ _=>(dv 0)))) (Ai (BF AJ))) (AW (Aq CV)) Ax)
 (AW (Aq (E5 (AD (JV T (AD (dv 1) AJ)) (AD (dv 3) AJ)))))))))))
abbrev GD:Stmt:=top 31
abbrev NX:List Str:=["text","parts","rows","part","row"]
def Cm (zV:MD):MS:=(AG (AL 4 (AF (AX AC)))
 (AG (mIf (AE (mOp Ap (AA 3) (mC (.str "-")))) (AL 4 (AF (BN (Bh (AF (BS (AA 3) (mC (.str ", "))))) 1 [] (AZ 0) mTT (AK zV (AB (AA 0) AC))))) AU)
 (AG (mIf (AE (mOp EC (mC .non) (AA 4))) (Aa (mC .non)) AU)
 (Dn (DJ (AA 2) (AA 4))))))
def Jm (zV:MD):MS:=(AG (AL 1 (AF (BS (AA 0) (mC (.str "; ")))))
 (AG (mIf (AE (mOp gGt (AO Ag (AB (AA 1) AC)) (mC (.int 6)))) (Aa (mC .non)) AU)
 (AG (BJ 2 (AX AC))
 (AG (C5 (Bh (AA 1)) (AZ 3) (Cm zV))
 (Bn (Dz 2))))))
theorem sc__law_read:FnScope NX ["text"] (Ac GD):=⟨rfl,rfl,rfl,by decide +kernel,rfl,by decide +kernel,by decide +kernel⟩
theorem SA {P:Program} {w:World} {K:PySem.W.Frag} {mg:Str->Option Value} {base:Heap} {fa:Addr} {fd:FuncData} (F:Fun K "_law_read" "_law_read" GD fa fd) (T:Nm mg) {xQ:Addr} {xR:FuncData} {zV:MD} (yJ:Cal P w K mg base "_law_thing" 1 xQ xR ["word"] (spD K 1 zV)):FnOk P w K mg base CX0 2 fa fd ["text"] (spD K 1 (mFn 5 (Jm zV))):=
 Bl F sc__law_read fun cdv A outer s H E hr=>(AN (Al (i:=1) sc__law_read.nd rfl (Or.inl rfl) (Ai (Cy (dv 0) AI ⟨rfl,rfl,rfl,rfl⟩)))
 (AN (Ao (D7 (Bb T (AD (dv 1) AJ)) AH) (AW (Aq CV)) Ax)
 (AN (DV (i:=2) sc__law_read.nd rfl (Or.inl rfl) (BF AJ))
 (AN (FL PassesOwn.never rfl (Da (dv 1)) (Bj (BM (i:=3) sc__law_read.nd rfl (Or.inl rfl))) (AN (Al (i:=4) sc__law_read.nd rfl (Or.inl rfl) (Ai (BF AJ)))
 (AN (Ao (Cv hr.units (dv 3) AI) (AW (Mz (i:=4) sc__law_read.nd rfl rfl (esc:=(Ac GD)) (N:=NX) (tn:=["word"]) (fn:=[]) (ix:=[]) rfl rfl rfl ⟨rfl,by decide +kernel,by decide +kernel,by decide +kernel,rfl,by decide +kernel⟩ (Da (Ai (Cy (dv 3) AI ⟨rfl,rfl,rfl,rfl⟩))) (fun _ _ _ _ _=>(Bj (BM (i:=0) (show (["word"]:List Str).Nodup by decide +kernel) rfl (Or.inl rfl)))) (fun _ _ _ _ _=>Cj) (fun _ _ _ _ _=>(Aw yJ.G hr rfl yJ.m yJ.k yJ.b (AD (dv 0) AJ) (AQ Ak))))) Ax)
 (AN (Ao (R3 hr.units CV (dv 4)) (AW (Aq CV)) Ax)
 (AW (F0 (HP (dv 2) (dv 4))))))))
 (AW (EB (Ie (pv 2))))))))
abbrev Ih:Stmt:=top 33
abbrev Pk:List Str:=["text","deck","at","sign","way"]
def FX (zB:MD):MS:=(AG (AL 2 (mOp BD (mOp AV (AK zB (AB (AA 1) (AB (mC (.int 64)) AC))) (mOp Bf (mC (.int 64)) (AK zB (AB (AA 1) (AB (mC (.int 64)) AC))))) (mOp AV (AO Ag (AB (AA 0) AC)) (mC (.int 1)))))
 (AG (AL 3 (mOp gIx (mC (.str " 019-:,;abZ+_.\n\t/{`(=\x40[hmqz258~")) (AK zB (AB (AA 1) (AB (mC (.int 31)) AC)))))
 (AG (AL 4 (AK zB (AB (AA 1) (AB (mC (.int 7)) AC))))
 (AG (mIf (AE (mOp AR (AA 4) (mC (.int 0)))) (Aa (mOp AV (mSl (AA 0) none (some (AA 2))) (mSl (AA 0) (some (mOp AV (AA 2) (mC (.int 1)))) none))) AU)
 (AG (mIf (AE (mOp Cd (AA 4) (mC (.int 3)))) (Aa (mOp AV (mOp AV (mSl (AA 0) none (some (AA 2))) (AA 3)) (mSl (AA 0) (some (mOp Df (mOp AV (AA 2) (AA 4)) (mC (.int 1)))) none))) AU)
 (AG (mIf (AE (mOp AR (AA 4) (mC (.int 3)))) (Aa (mOp AV (mOp AV (mSl (AA 0) none (some (AA 2))) (HV (mSl (AA 0) (some (AA 2)) (some (mOp AV (AA 2) (mC (.int 2))))))) (mSl (AA 0) (some (mOp AV (AA 2) (mC (.int 2)))) none))) AU)
 (AG (mIf (AE (mOp AR (AA 4) (mC (.int 4)))) (Aa (mOp AV (mOp AV (mSl (AA 0) none (some (AA 2))) (mSl (AA 0) (some (AA 2)) (some (mOp AV (AA 2) (mC (.int 5)))))) (mSl (AA 0) (some (AA 2)) none))) AU)
 (AG (mIf (AE (mOp AR (AA 4) (mC (.int 5)))) (Aa (mOp AV (AA 0) (mOp gIx (AF (AX (AB (mC (.str " ")) (AB (mC (.str ";")) (AB (mC (.str "; ")) (AB (mC (.str ", ")) (AB (mC (.str "; -")) (AB (mC (.str ", -")) (AB (mC (.str "\n")) (AB (mC (.str "a")) AC)))))))))) (AK zB (AB (AA 1) (AB (mC (.int 8)) AC)))))) AU)
 (Aa (mOp AV (mOp gIx (AF (AX (AB (mC (.str " ")) (AB (mC (.str "-")) (AB (mC (.str "; ")) (AB (mC (.str ", ")) (AB (mC (.str "0")) (AB (mC (.str "- ")) AC)))))))) (AK zB (AB (AA 1) (AB (mC (.int 6)) AC)))) (AA 0)))))))))))
theorem sc__law_changed:FnScope Pk ["text","deck"] (Ac Ih):=⟨rfl,rfl,rfl,by decide +kernel,rfl,by decide +kernel,by decide +kernel⟩
theorem Ss {P:Program} {w:World} {K:PySem.W.Frag} {mg:Str->Option Value} {base:Heap} {fa:Addr} {fd:FuncData} (F:Fun K "_law_changed" "_law_changed" Ih fa fd) (T:Nm mg) {zD:Addr} {zE:FuncData} {zB:MD} (zA:Cal P w K mg base "_law_take" 1 zD zE ["deck","many"] (spD K 2 zB)):FnOk P w K mg base CX0 2 fa fd ["text","deck"] (spD K 2 (mFn 5 (FX zB))):=
 Bl F sc__law_changed fun cdv A outer s H E hr=>(AN (Al (i:=2) sc__law_changed.nd rfl (Or.inl rfl) (Bv (Az (Aw zA.G hr rfl zA.m zA.k zA.b (AD (dv 1) (AD AH AJ)) (AQ (AQ Ak))) (DN AH (Aw zA.G hr rfl zA.m zA.k zA.b (AD (dv 1) (AD AH AJ)) (AQ (AQ Ak))))) (Az (Bb T (AD (dv 0) AJ)) AH)))
 (AN (Al (i:=3) sc__law_changed.nd rfl (Or.inl rfl) (BO AI (Aw zA.G hr rfl zA.m zA.k zA.b (AD (dv 1) (AD AH AJ)) (AQ (AQ Ak)))))
 (AN (Al (i:=4) sc__law_changed.nd rfl (Or.inl rfl) (Aw zA.G hr rfl zA.m zA.k zA.b (AD (dv 1) (AD AH AJ)) (AQ (AQ Ak))))
 (AN (Ao (BK hr.units (dv 4) AH) (AW (Aq (Az (Bc (dv 0) Bk (BV (dv 2))) (Bc (dv 0) (BV (Az (dv 2) AH)) Bk)))) Ax)
 (AN (Ao (FW (dv 4) AH) (AW (Aq (Az (Az (Bc (dv 0) Bk (BV (dv 2))) (dv 3)) (Bc (dv 0) (BV (FP (Az (dv 2) (dv 4)) AH)) Bk)))) Ax)
 (AN (Ao (BK hr.units (dv 4) AH) (AW (Aq (Az (Az (Bc (dv 0) Bk (BV (dv 2))) (Oq (Bc (dv 0) (BV (dv 2)) (BV (Az (dv 2) AH))))) (Bc (dv 0) (BV (Az (dv 2) AH)) Bk)))) Ax)
 (AN (Ao (BK hr.units (dv 4) AH) (AW (Aq (Az (Az (Bc (dv 0) Bk (BV (dv 2))) (Bc (dv 0) (BV (dv 2)) (BV (Az (dv 2) AH)))) (Bc (dv 0) (BV (dv 2)) Bk)))) Ax)
 (AN (Ao (BK hr.units (dv 4) AH) (AW (Aq (Az (dv 0) (BO (Ai (BF (AD AI (AD AI (AD AI (AD AI (AD AI (AD AI (AD AI (AD AI AJ)))))))))) (Aw zA.G hr rfl zA.m zA.k zA.b (AD (dv 1) (AD AH AJ)) (AQ (AQ Ak))))))) Ax)
 (AW (Aq (Az (BO (Ai (BF (AD AI (AD AI (AD AI (AD AI (AD AI (AD AI AJ)))))))) (Aw zA.G hr rfl zA.m zA.k zA.b (AD (dv 1) (AD AH AJ)) (AQ (AQ Ak)))) (dv 0))))))))))))
abbrev Js:Stmt:=top 34
abbrev Ue:List Str:=["text","deck","parts","at","words","to","key","mark","tag","odd","bad","way"]
def IQ (zB:MD):MS:=(AG (BJ 2 (BS (AA 0) (mC (.str "; "))))
 (AG (AL 3 (AK zB (AB (AA 1) (AB (AO Ag (AB (AA 2) AC)) AC))))
 (AG (BJ 4 (BS (mOp gIx (AA 2) (AA 3)) (mC (.str ", "))))
 (AG (AL 5 (AK zB (AB (AA 1) (AB (AO Ag (AB (AA 4) AC)) AC))))
 (AG (CY (Ds (mOp gIx (AA 4) (AA 5)) (mC (.str ":"))) (CU [6,7,8]))
 (AG (AL 9 (AF (AX (AB (mC (.str "-0")) (AB (mC (.str "00")) (AB (mC (.str "07")) (AB (mC (.str "+1")) (AB (mC (.str "1_0")) (AB (mC (.str "")) (AB (mOp B0 (mC (.str "1")) (mC (.int 30))) (AB (mOp B0 (mC (.str "1")) (mC (.int 31))) (AB (mOp AV (mC (.str "-")) (mOp B0 (mC (.str "9")) (mC (.int 30)))) (AB (mOp AV (mC (.str "-")) (mOp B0 (mC (.str "9")) (mC (.int 31)))) (AB (mC (.str "--1")) (AB (mC (.str "1.0")) AC)))))))))))))))
 (AG (AL 10 (AF (AX (AB (mC (.str "")) (AB (mC (.str "A")) (AB (mC (.str "aaaaaaaaa")) (AB (mC (.str "a1")) (AB (mC (.str "a b")) (AB (mC (.str "a:b")) (AB (mC (.str "a-")) (AB (mC (.str " a")) (AB (mC (.str "a ")) AC))))))))))))
 (AG (AL 11 (AK zB (AB (AA 1) (AB (mC (.int 6)) AC))))
 (AG (mIf (AE (mOp AR (AA 11) (mC (.int 0)))) (CW (AA 4) (AA 5) (mOp AV (mOp AV (mOp gIx (AA 9) (AK zB (AB (AA 1) (AB (mC (.int 12)) AC)))) (mC (.str ":"))) (mSl (mOp AV (AA 8) (mC (.str "a"))) none (some (mC (.int 8)))))) (mIf (AE (mOp AR (AA 11) (mC (.int 1)))) (CW (AA 4) (AA 5) (mOp AV (mOp AV (AA 6) (mC (.str ":"))) (mOp gIx (AA 10) (AK zB (AB (AA 1) (AB (mC (.int 9)) AC)))))) (mIf (AE (mOp AR (AA 11) (mC (.int 2)))) (CW (AA 4) (AA 5) (mOp AV (AA 6) (AA 8))) (mIf (AE (mOp AR (AA 11) (mC (.int 3)))) (BJ 4 (BE A9 (AA 4) (AF (AX (AB (mC (.str "-")) AC))))) AU))))
 (AG (CW (AA 2) (AA 3) (CK (mC (.str ", ")) (AA 4)))
 (AG (mIf (AE (mOp AR (AA 11) (mC (.int 4)))) (BJ 2 (BE A9 (mSl (AA 2) none (some (AA 3))) (mSl (AA 2) (some (mOp AV (AA 3) (mC (.int 1)))) none))) AU)
 (AG (mIf (AE (mOp AR (AA 11) (mC (.int 5)))) (BJ 2 (BE A9 (AA 2) (AF (BE DQ (mSl (AA 2) (some (AA 3)) (some (mOp AV (AA 3) (mC (.int 1))))) (mOp AV (mC (.int 1)) (AK zB (AB (AA 1) (AB (mC (.int 6)) AC)))))))) AU)
 (Aa (CK (mC (.str "; ")) (AA 2)))))))))))))))
theorem sc__law_parts_changed:FnScope Ue ["text","deck"] (Ac Js):=⟨rfl,rfl,rfl,by decide +kernel,rfl,by decide +kernel,by decide +kernel⟩
theorem So {P:Program} {w:World} {K:PySem.W.Frag} {mg:Str->Option Value} {base:Heap} {fa:Addr} {fd:FuncData} (F:Fun K "_law_parts_changed" "_law_parts_changed" Js fa fd) (T:Nm mg) {zD:Addr} {zE:FuncData} {zB:MD} (zA:Cal P w K mg base "_law_take" 1 zD zE ["deck","many"] (spD K 2 zB)):FnOk P w K mg base CX0 2 fa fd ["text","deck"] (spD K 2 (mFn 12 (IQ zB))):=
 Bl F sc__law_parts_changed fun cdv A outer s H E hr=>(AN (DV (i:=2) sc__law_parts_changed.nd rfl (Or.inl rfl) (Cy (dv 0) AI ⟨rfl,rfl,rfl,rfl⟩))
 (AN (Al (i:=3) sc__law_parts_changed.nd rfl (Or.inl rfl) (Aw zA.G hr rfl zA.m zA.k zA.b (AD (dv 1) (AD (Bb T (AD (dv 2) AJ)) AJ)) (AQ (AQ Ak))))
 (AN (DV (i:=4) sc__law_parts_changed.nd rfl (Or.inl rfl) (Cy (BO (dv 2) (dv 3)) AI ⟨rfl,rfl,rfl,rfl⟩))
 (AN (Al (i:=5) sc__law_parts_changed.nd rfl (Or.inl rfl) (Aw zA.G hr rfl zA.m zA.k zA.b (AD (dv 1) (AD (Bb T (AD (dv 4) AJ)) AJ)) (AQ (AQ Ak))))
 (AN (Jb (Mp (BO (dv 4) (dv 5)) AI ⟨rfl,rfl,rfl,rfl⟩) (Gp (is:=[6,7,8]) (n:=3) rfl (Gn rfl rfl (C3 (BM (i:=6) sc__law_parts_changed.nd rfl (Or.inl rfl)) (C3 (BM (i:=7) sc__law_parts_changed.nd rfl (Or.inl rfl)) (C3 (BM (i:=8) sc__law_parts_changed.nd rfl (Or.inl rfl)) GY))))))
 (AN (Al (i:=9) sc__law_parts_changed.nd rfl (Or.inl rfl) (Ai (BF (AD AI (AD AI (AD AI (AD AI (AD AI (AD AI (AD (Fo AI AH) (AD (Fo AI AH) (AD (Az AI (Fo AI AH)) (AD (Az AI (Fo AI AH)) (AD AI (AD AI AJ)))))))))))))))
 (AN (Al (i:=10) sc__law_parts_changed.nd rfl (Or.inl rfl) (Ai (BF (AD AI (AD AI (AD AI (AD AI (AD AI (AD AI (AD AI (AD AI (AD AI AJ))))))))))))
 (AN (Al (i:=11) sc__law_parts_changed.nd rfl (Or.inl rfl) (Aw zA.G hr rfl zA.m zA.k zA.b (AD (dv 1) (AD AH AJ)) (AQ (AQ Ak))))
 (AN (Ao (BK hr.units (dv 11) AH) (AW (Gd (dv 4) (dv 5) (Az (Az (BO (dv 9) (Aw zA.G hr rfl zA.m zA.k zA.b (AD (dv 1) (AD AH AJ)) (AQ (AQ Ak)))) AI) (Bc (Az (dv 8) AI) Bk (BV AH))))) (AW (Ao (BK hr.units (dv 11) AH) (AW (Gd (dv 4) (dv 5) (Az (Az (dv 6) AI) (BO (dv 10) (Aw zA.G hr rfl zA.m zA.k zA.b (AD (dv 1) (AD AH AJ)) (AQ (AQ Ak))))))) (AW (Ao (BK hr.units (dv 11) AH) (AW (Gd (dv 4) (dv 5) (Az (dv 6) (dv 8)))) (AW (Ao (BK hr.units (dv 11) AH) (AW (DV (i:=4) sc__law_parts_changed.nd rfl (Or.inl rfl) (Dj (dv 4) (Ai (BF (AD AI AJ)))))) Ax)))))))
 (AN (Gd (dv 2) (dv 3) (GE AI (dv 4) ⟨rfl,rfl,rfl,rfl⟩))
 (AN (Ao (BK hr.units (dv 11) AH) (AW (DV (i:=2) sc__law_parts_changed.nd rfl (Or.inl rfl) (Dj (Bc (dv 2) Bk (BV (dv 3))) (Bc (dv 2) (BV (Az (dv 3) AH)) Bk)))) Ax)
 (AN (Ao (BK hr.units (dv 11) AH) (AW (DV (i:=2) sc__law_parts_changed.nd rfl (Or.inl rfl) (Dj (dv 2) (Ai (NA (Bc (dv 2) (BV (dv 3)) (BV (Az (dv 3) AH))) (Az AH (Aw zA.G hr rfl zA.m zA.k zA.b (AD (dv 1) (AD AH AJ)) (AQ (AQ Ak))))))))) Ax)
 (AW (Aq (GE AI (dv 2) ⟨rfl,rfl,rfl,rfl⟩)))))))))))))))
abbrev Iz:Stmt:=top 35
abbrev Ta:List Str:=["number","some"]
def IK:MS:=(AG (AL 1 (AF (AX (AB (mC (.str "")) (AB (mC (.str " ")) (AB (mC (.str "-")) (AB (mC (.str "--")) (AB (mC (.str "- ")) (AB (mC (.str "; ")) (AB (mC (.str "-; -")) AC))))))))))
 (AG (AL 1 (AF (BE A9 (AA 1) (AF (AX (AB (mC (.str "-; -; -; -; -; -")) (AB (mC (.str "-; -; -; -; -; -; -")) (AB (mC (.str "-;-")) (AB (mC (.str "-, -")) (AB (mC (.str "1:a")) (AB (mC (.str "1:a, ")) AC)))))))))))
 (AG (AL 1 (AF (BE A9 (AA 1) (AF (AX (AB (mC (.str ", 1:a")) (AB (mC (.str "1:a,2:b")) (AB (mC (.str "1:a,  2:b")) (AB (mC (.str "1:a; 2:b")) (AB (mC (.str "1:a;2:b")) (AB (mC (.str "1 :a")) AC)))))))))))
 (AG (AL 1 (AF (BE A9 (AA 1) (AF (AX (AB (mC (.str "1: a")) (AB (mC (.str "1:a:b")) (AB (mC (.str ":a")) (AB (mC (.str "1:")) (AB (mC (.str "1")) (AB (mC (.str "a:1")) AC)))))))))))
 (AG (AL 1 (AF (BE A9 (AA 1) (AF (AX (AB (mC (.str "0:a")) (AB (mC (.str "-0:a")) (AB (mC (.str "00:a")) (AB (mC (.str "-1:a")) (AB (mC (.str "- 1:a")) (AB (mC (.str "+1:a")) AC)))))))))))
 (AG (AL 1 (AF (BE A9 (AA 1) (AF (AX (AB (mC (.str "1:A")) (AB (mC (.str "1:aaaaaaaa")) (AB (mC (.str "1:aaaaaaaaa")) (AB (mC (.str "-; 1:a")) (AB (mC (.str "1:a, -")) AC))))))))))
 (AG (AL 1 (AF (BE A9 (AA 1) (AF (AX (AB (mC (.str "none")) (AB (mC (.str "[]")) (AB (mC (.str "(1, a)")) (AB (mC (.str "1:a\n")) (AB (mC (.str "1:a; ")) (AB (mC (.str "1:a;")) AC)))))))))))
 (Aa (mOp gIx (AA 1) (mOp BD (AA 0) (AO Ag (AB (AA 1) AC))))))))))))
theorem sc__law_odd:FnScope Ta ["number"] (Ac Iz):=⟨rfl,rfl,rfl,by decide +kernel,rfl,by decide +kernel,by decide +kernel⟩
theorem Q8 {P:Program} {w:World} {K:PySem.W.Frag} {mg:Str->Option Value} {base:Heap} {fa:Addr} {fd:FuncData} (F:Fun K "_law_odd" "_law_odd" Iz fa fd) (T:Nm mg):FnOk P w K mg base CX0 1 fa fd ["number"] (spD K 1 (mFn 2 (IK))):=
 Bl F sc__law_odd fun cdv A outer s H E hr=>(AN (Al (i:=1) sc__law_odd.nd rfl (Or.inl rfl) (Ai (BF (AD AI (AD AI (AD AI (AD AI (AD AI (AD AI (AD AI AJ))))))))))
 (AN (Al (i:=1) sc__law_odd.nd rfl (Or.inl rfl) (Ai (Dj (dv 1) (Ai (BF (AD AI (AD AI (AD AI (AD AI (AD AI (AD AI AJ)))))))))))
 (AN (Al (i:=1) sc__law_odd.nd rfl (Or.inl rfl) (Ai (Dj (dv 1) (Ai (BF (AD AI (AD AI (AD AI (AD AI (AD AI (AD AI AJ)))))))))))
 (AN (Al (i:=1) sc__law_odd.nd rfl (Or.inl rfl) (Ai (Dj (dv 1) (Ai (BF (AD AI (AD AI (AD AI (AD AI (AD AI (AD AI AJ)))))))))))
 (AN (Al (i:=1) sc__law_odd.nd rfl (Or.inl rfl) (Ai (Dj (dv 1) (Ai (BF (AD AI (AD AI (AD AI (AD AI (AD AI (AD AI AJ)))))))))))
 (AN (Al (i:=1) sc__law_odd.nd rfl (Or.inl rfl) (Ai (Dj (dv 1) (Ai (BF (AD AI (AD AI (AD AI (AD AI (AD AI AJ))))))))))
 (AN (Al (i:=1) sc__law_odd.nd rfl (Or.inl rfl) (Ai (Dj (dv 1) (Ai (BF (AD AI (AD AI (AD AI (AD AI (AD AI (AD AI AJ)))))))))))
 (AW (Aq (BO (dv 1) (Bv (dv 0) (Bb T (AD (dv 1) AJ)))))))))))))
abbrev IE:Stmt:=top 36
abbrev UF:List Str:=["script","k","text","ways","way","due","kept","word","found"]
def Ib (zW:MD) (zX:MDF) (zY:MDF) (zS:MD) (zC:MDF) (zB:MD) (zZ:MD) (z6:MD) (z7:MD) (z8:MD) (z9:MD) (zF:(List D->Option D)):MS:=(AG (AL 2 (AK zW (AB (AF (BG zX (Ei (BG zY (AB (AK zS (AB (AA 0) (AB (AA 1) AC))) (AB (mC (.int 130)) AC))) (AB (mC (.int 8)) AC)))) AC)))
 (AG (BJ 3 (FC (AF (BG zC (AB (AK zS (AB (AA 0) (AB (AA 1) AC))) (AB (mC (.int 142)) AC)))) (some (mC (.int 130))) none))
 (AG (AL 4 (AK zB (AB (AA 3) (AB (mC (.int 8)) AC))))
 (AG (mIf (AE (mOp Cd (AA 4) (mC (.int 3)))) (AL 2 (AK zZ (AB (AA 2) (AB (AA 3) AC)))) AU)
 (AG (mIf (mOr (AE (mOp AR (AA 4) (mC (.int 3)))) (AE (mOp AR (AA 4) (mC (.int 4))))) (AL 2 (AK z6 (AB (AA 2) (AB (AA 3) AC)))) AU)
 (AG (mIf (AE (mOp AR (AA 4) (mC (.int 5)))) (AL 2 (AK z7 (AB (AK zB (AB (AA 3) (AB (mC (.int 64)) AC))) AC))) AU)
 (AG (AL 2 (mSl (AA 2) none (some (mC (.int 4000)))))
 (AG (AL 5 (AK z8 (AB (AA 2) AC)))
 (AG (mIf (Bw (AE (mOp AR (AA 4) (mC (.int 6)))) (AE (mOp AR (AK zB (AB (AA 3) (AB (mC (.int 2)) AC))) (mC (.int 0))))) (AG (AL 2 (mOp gIx (AF (AX (AB (mC .non) (AB (mC (.int 7)) (AB (AF (AX (AB (AF (AX AC)) AC))) (AB (AF (AX (AB (mC (.str "-")) AC))) (AB (mC (.bl true)) (AB E9 (AB (CS (AB (mC (.str "-")) AC)) (AB (mC (.int 0)) AC)))))))))) (AK zB (AB (AA 3) (AB (mC (.int 8)) AC)))))
 (AL 5 (mC .non))) AU)
 (AG (AL 6 (AO C8 (AB (AA 2) AC)))
 (AG (CY (AK z9 (AB (AA 2) AC)) (CU [7,8]))
 (AG (mIf (mOr (AE (mOp Ap (AO C8 (AB (AA 2) AC)) (AA 6))) (AE (mOp Ap (AA 7) (mOp gIx (AF (AX (AB (mC (.str "told")) (AB (mC (.str "NoText")) AC)))) (AO EA (AB (mOp Ca (AA 5) (mC .non)) AC)))))) (Aa (mC (.bl false))) AU)
 (mIf (Bw (AE (mOp D4 (AA 5) (mC .non))) (As (Am (Ce zF (AB (AA 8) (AB (AA 5) AC)))))) (Aa (mC (.bl false))) AU)))))))))))))
def JF (zW:MD) (zX:MDF) (zY:MDF) (zS:MD) (zC:MDF) (zB:MD) (zZ:MD) (z6:MD) (z7:MD) (z8:MD) (z9:MD) (zF:(List D->Option D)):MS:=(AG (C5 (B3 (AB (AO Ed (AB (mC (.int 1)) (AB (AO Ef (AB (AO Ag (AB (AA 0) AC)) (AB (mC (.int 12)) AC))) AC))) AC)) (AZ 1) (Ib zW zX zY zS zC zB zZ z6 z7 z8 z9 zF))
 (Aa (mC (.bl true))))
theorem sc_law:FnScope UF ["script"] (Ac IE):=⟨rfl,rfl,rfl,by decide +kernel,rfl,by decide +kernel,by decide +kernel⟩
theorem Tb {P:Program} {w:World} {K:PySem.W.Frag} {mg:Str->Option Value} {base:Heap} {fa:Addr} {fd:FuncData} (F:Fun K "law" "law" IE fa fd) (T:Nm mg) {xS:Addr} {xU:FuncData} {zW:MD} (yK:Cal P w K mg base "_law_written" 2 xS xU ["rows"] (spD K 1 zW)) {xV:Addr} {xW:FuncData} {zX:MDF} (yL:Cal P w K mg base "_law_rows" 3 xV xW ["deck","most"] (spF K 2 zX)) {xX:Addr} {xY:FuncData} {zY:MDF} (yM:Cal P w K mg base "_law_deck" 2 xX xY ["cell","many"] (spF K 2 zY)) {xZ:Addr} {x8:FuncData} {zS:MD} (zR:Cal P w K mg base "_law_cell_at" 1 xZ x8 ["script","k"] (spD K 2 zS)) {y8:Addr} {y9:FuncData} {zC:MDF} (zO:Cal P w K mg base "_law_numbers" 1 y8 y9 ["cell","many"] (spF K 2 zC)) {zD:Addr} {zE:FuncData} {zB:MD} (zA:Cal P w K mg base "_law_take" 1 zD zE ["deck","many"] (spD K 2 zB)) {x9:Addr} {wA:FuncData} {zZ:MD} (yN:Cal P w K mg base "_law_changed" 2 x9 wA ["text","deck"] (spD K 2 zZ)) {wB:Addr} {wC:FuncData} {z6:MD} (yO:Cal P w K mg base "_law_parts_changed" 2 wB wC ["text","deck"] (spD K 2 z6)) {wD:Addr} {wE:FuncData} {z7:MD} (yP:Cal P w K mg base "_law_odd" 1 wD wE ["number"] (spD K 1 z7)) {wF:Addr} {wG:FuncData} {z8:MD} (yQ:Cal P w K mg base "_law_read" 2 wF wG ["text"] (spD K 1 z8)) {wH:Addr} {wI:FuncData} {z9:MD} (yR:Cal P w K mg base "_law_asked" 6 wH wI ["text"] (spD K 1 z9)) {xA:Addr} {xB:FuncData} {zF:(List D->Option D)} (zP:Cal P w K mg base "_law_alike" 4 xA xB ["found","due"] (spQ K 2 zF)):FnOk P w K mg base CX0 7 fa fd ["script"] (spD K 1 (mFn 9 (JF zW zX zY zS zC zB zZ z6 z7 z8 z9 zF))):=
 Bl F sc_law fun cdv A outer s H E hr=>(AN (FL PassesOwn.never rfl (Eo rfl T.range (AD (Tc T (AD AH (AD (Tv T (AD (Bb T (AD (dv 0) AJ)) (AD AH AJ))) AJ))) AJ)) (Bj (BM (i:=1) sc_law.nd rfl (Or.inl rfl))) (AN (Al (i:=2) sc_law.nd rfl (Or.inl rfl) (Aw yK.G (hr.mono (by decide)) rfl yK.m yK.k yK.b (AD (Ai (E1 yL.G (hr.mono (by decide)) rfl yL.m yL.k yL.b (Qg (E1 yM.G (hr.mono (by decide)) rfl yM.m yM.k yM.b (AD (Aw zR.G (hr.mono (by decide)) rfl zR.m zR.k zR.b (AD (dv 0) (AD (dv 1) AJ)) (AQ (AQ Ak))) (AD AH AJ)) (AQ (AQ Ak))) (AD AH AJ)) (UQ (AQ Ak)))) AJ) (AQ Ak)))
 (AN (DV (i:=3) sc_law.nd rfl (Or.inl rfl) (OX (Ai (E1 zO.G (hr.mono (by decide)) rfl zO.m zO.k zO.b (AD (Aw zR.G (hr.mono (by decide)) rfl zR.m zR.k zR.b (AD (dv 0) (AD (dv 1) AJ)) (AQ (AQ Ak))) (AD AH AJ)) (AQ (AQ Ak)))) (BV AH) Bk))
 (AN (Al (i:=4) sc_law.nd rfl (Or.inl rfl) (Aw zA.G (hr.mono (by decide)) rfl zA.m zA.k zA.b (AD (dv 3) (AD AH AJ)) (AQ (AQ Ak))))
 (AN (Ao (FW (dv 4) AH) (AW (Al (i:=2) sc_law.nd rfl (Or.inl rfl) (Aw yN.G (hr.mono (by decide)) rfl yN.m yN.k yN.b (AD (dv 2) (AD (dv 3) AJ)) (AQ (AQ Ak))))) Ax)
 (AN (Ao (CN (CF (BK hr.units (dv 4) AH) (DH (BK hr.units (dv 4) AH)))) (AW (Al (i:=2) sc_law.nd rfl (Or.inl rfl) (Aw yO.G (hr.mono (by decide)) rfl yO.m yO.k yO.b (AD (dv 2) (AD (dv 3) AJ)) (AQ (AQ Ak))))) Ax)
 (AN (Ao (BK hr.units (dv 4) AH) (AW (Al (i:=2) sc_law.nd rfl (Or.inl rfl) (Aw yP.G (hr.mono (by decide)) rfl yP.m yP.k yP.b (AD (Aw zA.G (hr.mono (by decide)) rfl zA.m zA.k zA.b (AD (dv 3) (AD AH AJ)) (AQ (AQ Ak))) AJ) (AQ Ak)))) Ax)
 (AN (Al (i:=2) sc_law.nd rfl (Or.inl rfl) (Bc (dv 2) Bk (BV AH)))
 (AN (Al (i:=5) sc_law.nd rfl (Or.inl rfl) (Aw yQ.G (hr.mono (by decide)) rfl yQ.m yQ.k yQ.b (AD (dv 2) AJ) (AQ Ak)))
 (AN (Ao (CN (Gc (BK hr.units (dv 4) AH) (GO (BK hr.units (Aw zA.G (hr.mono (by decide)) rfl zA.m zA.k zA.b (AD (dv 3) (AD AH AJ)) (AQ (AQ Ak))) AH)))) (AN (Al (i:=2) sc_law.nd rfl (Or.inl rfl) (BO (Ai (BF (AD CV (AD AH (AD (Ai (BF (AD (Ai (BF AJ)) AJ))) (AD (Ai (BF (AD AI AJ))) (AD DZ (AD PK (AD (E5 (AD AI AJ)) (AD AH AJ)))))))))) (Aw zA.G (hr.mono (by decide)) rfl zA.m zA.k zA.b (AD (dv 3) (AD AH AJ)) (AQ (AQ Ak)))))
 (AW (Al (i:=5) sc_law.nd rfl (Or.inl rfl) CV))) Ax)
 (AN (Al (i:=6) sc_law.nd rfl (Or.inl rfl) (Lx hr.units hr.gd T (AD (dv 2) AJ)))
 (AN (Jb (Aw yR.G hr rfl yR.m yR.k yR.b (AD (dv 2) AJ) (AQ Ak)) (Gp (is:=[7,8]) (n:=2) rfl (Gn rfl rfl (C3 (BM (i:=7) sc_law.nd rfl (Or.inl rfl)) (C3 (BM (i:=8) sc_law.nd rfl (Or.inl rfl)) GY)))))
 (AN (Ao (CN (CF (Cv hr.units (Lx hr.units hr.gd T (AD (dv 2) AJ)) (dv 6)) (DH (Cv hr.units (dv 7) (BO (Ai (BF (AD AI (AD AI AJ)))) (Ob T (AD (Nf (dv 5) CV) AJ))))))) (AW (Aq DZ)) Ax)
 (AW (Ao (CN (Gc (UP (dv 5) CV) (GO (CZ (B9 (KW zP.G (hr.mono (by decide)) rfl zP.m zP.k zP.b (AD (dv 8) (AD (dv 5) AJ)) (AQ (AQ Ak)))))))) (AW (Aq DZ)) Ax)))))))))))))))
 (AW (Aq DZ)))
end DL
namespace DL
open PySem L2
theorem GP {g:MG} {b:MS} {items:List D} (P:Nat->DS->Prop) (hs:∀ i d s,items[i]?=some d->P i s->∃ s1 s2,g d s=some s1/\b s1=some (.nx s2)/\P (i+1) s2) {s:DS} (h0:P 0 s):∃ s',B8 g b items s=some (.nx s')/\P items.length s':=by
 have go:∀ (k:Nat) (s:DS),k<=items.length->P k s->∃ s',B8 g b (items.drop k) s=some (.nx s')/\P items.length s':=by
  intro k
  generalize hj:items.length - k=j
  induction j generalizing k with
  | zero=>
   intro s hk p
   have e:k=items.length:=by lia
   subst e
   exact ⟨s,by rw[List.drop_length];rfl,p⟩
  | succ j ih=>
   intro s hk p
   have hlt:k<items.length:=by lia
   obtain ⟨s1,s2,h1,h2,h3⟩:=hs k _ s (List.getElem?_eq_getElem hlt) p
   obtain ⟨s',h4,h5⟩:=ih (k+1) (by lia) s2 hlt h3
   refine ⟨s',?_,h5⟩
   rw[List.drop_eq_getElem_cons hlt]
   show (g _ s).bind _=_
   rw[h1]
   show (b s1).bind _=_
   rw[h2]
   exact h4
 exact go 0 s (Nat.zero_le _) h0
theorem HG {g:MG} {t:MT} {e:ME} {items:List D} (P:Nat->List D->List (Option SV)->Gm->Prop)
  (hs:∀ i d acc τ Γ,items[i]?=some d->P i acc τ Γ->∃ s1 b,g d ⟨τ,Γ,Γ.length⟩=some s1/\t s1=some b/\((b.1=true/\∃ y s2,e b.2=some (.v y,s2)/\s2.Γ.length=Γ.length/\P (i+1) (acc++[y]) s2.σ s2.Γ)\/(b.1=false/\b.2.Γ.length=Γ.length/\P (i+1) acc b.2.σ b.2.Γ)))
  {τ:List (Option SV)} {Γ:Gm} (h0:P 0 [] τ Γ):∃ ys τ' Γ',A3 g t e items τ Γ=some (ys,Γ')/\P items.length ys τ' Γ':=by
 have go:∀ (k:Nat) (acc:List D) (τ:List (Option SV)) (Γ:Gm),k<=items.length->P k acc τ Γ->∃ ys τ' Γ',A3 g t e (items.drop k) τ Γ=some (ys,Γ')/\P items.length (acc++ys) τ' Γ':=by
  intro k
  generalize hj:items.length - k=j
  induction j generalizing k with
  | zero=>
   intro acc τ Γ hk p
   have e:k=items.length:=by lia
   subst e
   exact ⟨[],τ,Γ,by rw[List.drop_length];rfl,by rw[List.append_nil];exact p⟩
  | succ j ih=>
   intro acc τ Γ hk p
   have hlt:k<items.length:=by lia
   obtain ⟨s1,b,h1,h2,h3⟩:=hs k _ acc τ Γ (List.getElem?_eq_getElem hlt) p
   rw[List.drop_eq_getElem_cons hlt]
   rcases h3 with ⟨hb,y,s2,h4,h5,h6⟩ | ⟨hb,h5,h6⟩
   ·obtain ⟨ys,τ',Γ',h7,h8⟩:=ih (k+1) (by lia) (acc++[y]) s2.σ s2.Γ hlt h6
    refine ⟨y::ys,τ',Γ',?_,by simpa using h8⟩
    show (g _ _).bind _=_
    rw[h1]
    show (t s1).bind _=_
    rw[h2]
    show (if b.1=true then _ else _)=_
    rw[if_pos hb,h4]
    show (if s2.Γ.length=Γ.length then _ else _)=_
    rw[if_pos h5,h7]
    rfl
   ·obtain ⟨ys,τ',Γ',h7,h8⟩:=ih (k+1) (by lia) acc b.2.σ b.2.Γ hlt h6
    refine ⟨ys,τ',Γ',?_,h8⟩
    show (g _ _).bind _=_
    rw[h1]
    show (t s1).bind _=_
    rw[h2]
    show (if b.1=true then _ else _)=_
    rw[if_neg (by rw[hb];exact Bool.false_ne_true),if_pos h5]
    exact h7
 obtain ⟨ys,τ',Γ',h1,h2⟩:=go 0 [] τ Γ (Nat.zero_le _) h0
 exact ⟨ys,τ',Γ',h1,by simpa using h2⟩
theorem LK {α:Type} {xs:List α} {i:Int} (h0:0<=i) (h1:i<(xs.length:Int)):∃ c,atI xs i=some c/\c∈xs:=by
 have e:xs[i.toNat]?=some (xs[i.toNat]'(by lia)):=List.getElem?_eq_getElem (by lia)
 have q:=Cf e
 rw[show ((i.toNat:Nat):Int)=i by lia] at q
 exact ⟨_,q,List.getElem_mem _⟩
theorem Tq:("abcdefghijklmnopqrstuvwxyz":Str).cps.toList.length=26:=by decide +kernel
theorem UC:("abcdefghijklmnopqrstuvwxyz":Str).length<=big:=by decide +kernel
theorem Eg {lo:Int} {n i:Nat} {d:D} (h:(upTo lo n)[i]?=some d):i<n/\d=.int (lo+i):=by
 have hi:=(List.getElem?_eq_some_iff.mp h).1
 rw[Cr] at hi
 rw[Nk lo n i hi] at h
 exact ⟨hi,(Option.some.inj h).symm⟩
def Tg (t:Str):Prop:=1<=t.length/\t.length<=8/\∀ c∈t.cps.toList,97<=c/\c<=122
theorem Ja {z:Str} {l u:Option Int} {c:Nat} (h:c∈(BH z l u).cps.toList):c∈z.cps.toList:=by
 unfold BH at h
 split at h
 ·exact h
 ·obtain ⟨j,_,hj⟩:=List.mem_filterMap.mp (by simpa using h)
  exact Array.mem_toList_iff.mpr (Array.mem_of_getElem? hj)
def thD (t:Int×Str):D:=.tup [.int t.1,.str t.2]
def Ad (ts:List (Int×Str)):D:=.lst (ts.map thD)
theorem AM {m n:MS} {s s1:DS} (h:m s=some (.nx s1)):AG m n s=n s1:=by unfold AG;rw[h];rfl
def CO {α:Type} (xs:List α) (l u:Option Int):List α:=(xs.drop (HT.sIx xs.length 0 l)).take (HT.sIx xs.length xs.length u - HT.sIx xs.length 0 l)
theorem JR {α:Type} (f:α->D) (xs:List α) (l u:Option Int):cutD (xs.map f) l u=(CO xs l u).map f:=by
 unfold cutD CO
 rw[List.length_map,List.map_take,List.map_drop]
theorem LQ {α β:Type} {f:α->β} {xs:List α} {i:Nat} {d:β} (h:(xs.map f)[i]?=some d):∃ a,xs[i]?=some a/\d=f a:=by
 rw[List.getElem?_map] at h
 cases e:xs[i]? with
 | none=>rw[e] at h;cases h
 | some a=>rw[e] at h;exact ⟨a,rfl,(Option.some.inj h).symm⟩
abbrev Th:=Int×Str
theorem UM {α:Type} {f:α->D} {xs:List α} {i:Nat} {a:α} (h:xs[i]?=some a):atI (xs.map f) (i:Int)=some (f a):=Cf (by rw[List.getElem?_map,h];rfl)
theorem B2 {Γ:Gm} {x:Option (List D)}:(Γ++[x])[Γ.length]?=some x:=by simp
theorem Er {Γ:Gm} {x y:Option (List D)}:(Γ++[x]).set Γ.length y=Γ++[y]:=by simp
theorem JP {Γ:Gm} {x:List (Option (List D))}:(Γ++x).take Γ.length=Γ:=by simp
theorem Aj {c:MT} {m n:MS} {s s':DS} (h:c s=some (false,s')):mIf c m n s=n s':=by unfold mIf;rw[h];rfl
theorem A2 {c:MT} {m n:MS} {s s':DS} (h:c s=some (true,s')):mIf c m n s=m s':=by unfold mIf;rw[h];rfl
theorem Au {m:ME} {s s':DS} {b:Bool} (h:m s=some (.v (.bl b),s')):AE m s=some (b,s'):=by unfold AE;rw[h];rfl
theorem AS {g:Gm->SV->SV->Option D} {a b:ME} {s s1 s2:DS} {x y:SV} {z:D} (h1:a s=some (x,s1)) (h2:b s1=some (y,s2)) (h3:g s2.Γ x y=some z):mOp g a b s=some (.v z,s2):=by
 unfold mOp;rw[h1];show (b s1).bind _=_;rw[h2];show (g s2.Γ x y).map _=_;rw[h3];rfl
theorem Ct {g:Gm->SV->SV->Option (List D)} {a b:ME} {s s1 s2:DS} {x y:SV} {z:List D} (h1:a s=some (x,s1)) (h2:b s1=some (y,s2)) (h3:g s2.Γ x y=some z):BE g a b s=some (z,s2):=by
 unfold BE;rw[h1];show (b s1).bind _=_;rw[h2];show (g s2.Γ x y).map _=_;rw[h3];rfl
theorem A7 {m:MF} {s s':DS} {xs:List D} (h:m s=some (xs,s')):AF m s=some (.v (.lst xs),s'):=by unfold AF;rw[h];rfl
theorem CL {mi:MF} {nt:Nat} {ix:List Nat} {g:MG} {t:MT} {e:ME} {s s':DS} {items ys:List D} {Γ':Gm} (h1:mi s=some (items,s')) (hl:items.length<=big) (h2:A3 g t e items (DY nt ix s'.σ) s'.Γ=some (ys,Γ')):BN mi nt ix g t e s=some (ys,{s' with Γ:=Γ'}):=by
 unfold BN;rw[h1,Option.bind_some,if_pos hl,h2];rfl
theorem Br {g:Gm->List SV->Option D} {m:ME} {s s':DS} {x:SV} {z:D} (h:m s=some (x,s')) (hg:g s'.Γ [x]=some z):AO g (AB m AC) s=some (.v z,s'):=by
 unfold AO AB AC;rw[h];show (g s'.Γ [x]).map _=_;rw[hg];rfl
theorem B5 {M:MD} {m:ME} {s s':DS} {x:SV} {z:D} {Γ':Gm} (h:m s=some (x,s')) (hg:M [x] s'.Γ=some (z,Γ')):AK M (AB m AC) s=some (.v z,{s' with Γ:=Γ'}):=by
 unfold AK AB AC;rw[h];show (M [x] s'.Γ).map _=_;rw[hg];rfl
theorem KO {M:MDF} {m:ME} {s s':DS} {x:SV} {z:List D} {Γ':Gm} (h:m s=some (x,s')) (hg:M [x] s'.Γ=some (z,Γ')):BG M (AB m AC) s=some (z,{s' with Γ:=Γ'}):=by
 unfold BG AB AC;rw[h];show (M [x] s'.Γ).map _=_;rw[hg];rfl
theorem BR {M:MD} {m n:ME} {s s1 s2:DS} {x y:SV} {z:D} {Γ':Gm} (h:m s=some (x,s1)) (h2:n s1=some (y,s2)) (hg:M [x,y] s2.Γ=some (z,Γ')):AK M (AB m (AB n AC)) s=some (.v z,{s2 with Γ:=Γ'}):=by
 unfold AK AB AC;rw[h];show (((n s1).bind _).map _).bind _=_;rw[h2];show (M [x,y] s2.Γ).map _=_;rw[hg];rfl
theorem An {i:Nat} {m:ME} {s s':DS} {x:SV} (h:m s=some (x,s')):AL i m s=some (.nx {s' with σ:=s'.σ.set i (some x)}):=by unfold AL;rw[h];rfl
theorem nil_of {s:DS}:AF (AX AC) s=some (.v (.lst []),s):=by simp[show (0:Nat)<=big from Nat.zero_le _]
theorem Ba {m n:MS} {s s1:DS} {d:D} (h:m s=some (.rt d s1)):AG m n s=some (.rt d s1):=by unfold AG;rw[h];rfl
theorem Io {m n:ME} {s s1 s2:DS} {x y:D} (h1:m s=some (.v x,s1)) (h2:n s1=some (.v y,s2)):CS (AB m (AB n AC)) s=some (.v (.tup [x,y]),s2):=by
 unfold CS AB AC
 rw[h1]
 show (((n s1).bind _).map _).bind _=_
 rw[h2]
 show (if (2:Nat)<=big then some (SV.v (D.tup [x,y]),s2) else none)=_
 rw[if_pos (by decide)]
theorem BB {m:ME} {s s':DS} {d:D} (h:m s=some (.v d,s')):Aa m s=some (.rt d s'):=by unfold Aa;rw[h];rfl
theorem Pb {d:D} {b:Bool} (h:Eu (.v d) (.v d)=some b):b=true:=by
 cases d<;>simp at h<;>exact h
theorem OE {Γ:Gm} {d:D} {b:Bool} (h:EN Γ (.v d) (.v d)=some b):b=true:=by
 cases d with
 | lst xs=>cases xs<;>simp at h<;>exact h
 | _=>simp at h
theorem Qh {Γ:Gm} {d:D} (h:A1 6 d=true):FM Γ (.v d) (.v d)=some true:=by simp[h,Uv h]
theorem Pl {Γ:Gm} {d:D} (h:A1 6 d=true):Ap Γ (.v d) (.v d)=some (.bl false):=by
 have e:=Qh (Γ:=Γ) h
 unfold Ap gNe JX
 cases h1:Eu (.v d) (.v d) with
 | some b=>rw[Pb h1];rfl
 | none=>
  cases h2:EN Γ (.v d) (.v d) with
  | some b=>rw[OE h2];rfl
  | none=>rw[e];rfl
theorem Pz {t:Str} (h:Tg t):PyData.strOk t=true:=by
 unfold PyData.strOk
 refine Array.all_eq_true'.mpr fun c hc=>?_
 have:=h.2.2 c (Array.mem_toList_iff.mpr hc)
 simp
 lia
theorem VA {t:Th} (h:Tg t.2) (n:Nat):A1 (n+1) (thD t)=true:=by
 have e:=Pz h
 unfold thD A1
 simp[A1,PyData.canLay0,e]
end DL
namespace DL
open PySem L2 TXM
def BU (rs:List (List Th)):D:=.lst (rs.map Ad)
def Cw:MD:=mFn 1 Gz
theorem Px {c:Nat} {Γ:Gm} (h:97<=c):Af Γ (.v (.str "a")) (.v (.str ⟨#[c]⟩))=some (.bl true):=by
 have ea:("a":Str).cps.toList=[97]:=by decide +kernel
 have c1:¬([c]<[97]):=by rw[List.cons_lt_cons_iff];simp;lia
 show some (D.bl (!decide ([c]<("a":Str).cps.toList)))=_
 rw[ea,decide_eq_false c1]
 rfl
theorem SN {c:Nat} {Γ:Gm} (h:c<=122):Af Γ (.v (.str ⟨#[c]⟩)) (.v (.str "z"))=some (.bl true):=by
 have ea:("z":Str).cps.toList=[122]:=by decide +kernel
 have c1:¬([122]<[c]):=by rw[List.cons_lt_cons_iff];simp;lia
 show some (D.bl (!decide (("z":Str).cps.toList<[c])))=_
 rw[ea,decide_eq_false c1]
 rfl
theorem VM {cs:List Nat} {Γ:Gm} (h:∀ c∈cs,97<=c/\c<=122) (τ:List (Option SV)) (hτ:τ.length=1):A3 (AZ 0) mTT (BA Af Af (mC (.str "a")) (AA 0) (mC (.str "z"))) (cs.map fun c=>.str ⟨#[c]⟩) τ Γ=some (cs.map fun _=>.bl true,Γ):=by
 induction cs generalizing τ with
 | nil=>rfl
 | cons c cs ih=>
  obtain ⟨v,rfl⟩:∃ v,τ=[v]:=by
   match τ,hτ with
   | [v],_=>exact ⟨v,rfl⟩
  have hc:=h c List.mem_cons_self
  have l1:=Px (Γ:=Γ) hc.1
  have l2:=SN (Γ:=Γ) hc.2
  have:=ih (fun x hx=>h x (List.mem_cons_of_mem _ hx)) [some (.v (.str ⟨#[c]⟩))] rfl
  rw[List.map_cons,List.map_cons]
  have ec:BA Af Af (mC (.str "a")) (AA 0) (mC (.str "z")) ⟨[some (.v (.str ⟨#[c]⟩))],Γ,Γ.length⟩=some (.v (.bl true),⟨[some (.v (.str ⟨#[c]⟩))],Γ,Γ.length⟩):=by
   simp only[BA,mC,AA,Option.bind_some,List.getElem?_cons_zero,l1,l2,Option.map_some]
  unfold A3
  simp only[AZ,Option.bind_some,List.set_cons_zero,mTT,if_true,ec,this,Option.map_some]
theorem QY {t:Str} {Γ:Gm} (h:Tg t):Cw [.v (.str t)] Γ=some (.bl true,Γ):=by
 have tk:Γ.take Γ.length=Γ:=List.take_length
 have hb:t.length<=big:=by have:=h.2.1;unfold big;lia
 have h1:(1:Int)<=(t.length:Int):=by have:=h.1;lia
 have h2:(t.length:Int)<=8:=by have:=h.2.1;lia
 have ha:t.cps.all (·<128)=true:=Array.all_eq_true'.mpr fun c hc=>by
  have:=h.2.2 c (Array.mem_toList_iff.mpr hc)
  simp;lia
 have hl:(signs t).length<=big:=by unfold signs;rw[List.length_map];exact hb
 have e:=VM (Γ:=Γ) h.2.2 [none] rfl
 have eb:Cq (t.cps.toList.map fun _=>D.bl true)=some (t.cps.toList.map fun _=>true):=by
  have:=HW (t.cps.toList.map fun _=>true)
  rw[List.map_map] at this
  exact this
 have f1:(mIf (mOr (As (Am (A0 "str" (AA 0)))) (As (AE (BA Af Af (mC (.int 1)) (AO Ag (AB (AA 0) AC)) (mC (.int 8)))))) (Aa (mC (.bl false))) AU) ⟨[some (.v (.str t))],Γ,Γ.length⟩=some (.nx ⟨[some (.v (.str t))],Γ,Γ.length⟩):=by
  have g:BA Af Af (mC (.int 1)) (AO Ag (AB (AA 0) AC)) (mC (.int 8)) ⟨[some (.v (.str t))],Γ,Γ.length⟩=some (.v (.bl true),⟨[some (.v (.str t))],Γ,Γ.length⟩):=by
   have g1:AO Ag (AB (AA 0) AC) ⟨[some (.v (.str t))],Γ,Γ.length⟩=some (.v (.int t.length),⟨[some (.v (.str t))],Γ,Γ.length⟩):=by simp[hb]
   unfold BA
   rw[show mC (.int 1) ⟨[some (.v (.str t))],Γ,Γ.length⟩=some (.v (.int 1),⟨[some (.v (.str t))],Γ,Γ.length⟩) from rfl,Option.bind_some]
   simp only[g1,Option.bind_some]
   simp only[Af,mC,decide_eq_true h1,decide_eq_true h2,Option.bind_some,Option.map_some]
  have gi:Am (A0 "str" (AA 0)) ⟨[some (.v (.str t))],Γ,Γ.length⟩=some (true,⟨[some (.v (.str t))],Γ,Γ.length⟩):=by simp
  unfold mIf mOr As AE
  rw[gi]
  simp only[Option.map_some,Option.bind_some,Bool.not_true,Bool.false_eq_true,if_false,g,EG,AU]
 have f2:AO CM (AB (AF (BN (Bi (AA 0)) 1 [] (AZ 0) mTT (BA Af Af (mC (.str "a")) (AA 0) (mC (.str "z"))))) AC) ⟨[some (.v (.str t))],Γ,Γ.length⟩=some (.v (.bl true),⟨[some (.v (.str t))],Γ,Γ.length⟩):=by
  have g1:Bi (AA 0) ⟨[some (.v (.str t))],Γ,Γ.length⟩=some (signs t,⟨[some (.v (.str t))],Γ,Γ.length⟩):=by
   show (if t.cps.all (·<128)=true then some (signs t,_) else none)=_
   rw[if_pos ha]
  have g2:BN (Bi (AA 0)) 1 [] (AZ 0) mTT (BA Af Af (mC (.str "a")) (AA 0) (mC (.str "z"))) ⟨[some (.v (.str t))],Γ,Γ.length⟩=some (t.cps.toList.map fun _=>.bl true,⟨[some (.v (.str t))],Γ,Γ.length⟩):=by
   unfold BN
   rw[g1,Option.bind_some,if_pos hl]
   show (A3 _ _ _ (signs t) [none] Γ).map _=_
   unfold signs
   rw[e]
   rfl
  unfold AO AB AF
  rw[g2]
  simp[eb]
 unfold Cw mFn Gz
 show (AG _ _ ⟨[some (.v (.str t))],Γ,Γ.length⟩).bind _=_
 rw[AM f1]
 unfold Aa
 rw[f2]
 simp[tk]
def Ay (i:Int):Str:=(toString i:String)
def dg (m:Nat):List Nat:=(Nat.toDigits 10 m).map Char.toNat
theorem C6 (m:Nat):cd (Ay (Int.ofNat m))=dg m:=PySem.W.KIN.signs_num m
theorem FF (m:Nat):cd (Ay (Int.negSucc m))=45::dg (m+1):=by
 show (PySem.Str.ofString (toString (Int.negSucc m))).cps.toList=_
 rw[PyProof.Rows.signs_ofString]
 show ("-"++Nat.repr (m+1)).toList.map Char.toNat=_
 rw[String.toList_append,List.map_append,Nat.toList_repr]
 rfl
theorem D1 {m c:Nat} (h:c∈dg m):48<=c/\c<=57:=by
 obtain ⟨ch,hch,e⟩:=List.mem_map.mp h
 have r:=PyProof.Rows.digit_range (Nat.isDigit_of_mem_toDigits (by decide) (by decide) hch)
 rw[<-e]
 exact r
theorem Dx {m:Nat} (h:m<10):dg m=[48+m]:=by
 unfold dg
 rw[Nat.toDigits_of_lt_base h]
 have:∀ d:Nat,d<10->([Nat.digitChar d].map Char.toNat)=[48+d]:=by decide
 exact this m h
theorem Hn {m:Nat} (h:¬m<10):dg m=dg (m / 10)++dg (m % 10):=by
 have hm:m % 10<10:=Nat.mod_lt m (by decide)
 have t:Nat.toDigits 10 (m / 10)++Nat.toDigits 10 (m % 10)=Nat.toDigits 10 (10 * (m / 10)+m % 10):=Nat.toDigits_append_toDigits (by decide) (by lia) hm
 rw[Nat.div_add_mod] at t
 unfold dg
 rw[<-t,List.map_append]
theorem IC:∀ (m:Nat),1<=m->∃ c r,dg m=c::r/\49<=c:=by
 intro m
 induction m using Nat.strongRecOn with
 | _ m ih=>
  intro h1
  by_cases h:m<10
  ·exact ⟨48+m,[],Dx h,by lia⟩
  ·obtain ⟨c,r,e,hc⟩:=ih (m / 10) (by lia) (by lia)
   exact ⟨c,r++dg (m % 10),by rw[Hn h,e];rfl,hc⟩
theorem FH:∀ (k m:Nat),m<10 ^ (k+1)->1<=(dg m).length/\(dg m).length<=k+1
 | 0,m,h=>by
  rw[Dx (by simpa using h)]
  exact ⟨Nat.le_refl _,Nat.le_refl _⟩
 | k+1,m,h=>by
  by_cases c:m<10
  ·rw[Dx c]
   exact ⟨Nat.le_refl _,by simp⟩
  ·have e:10 ^ (k+1+1)=10 * 10 ^ (k+1):=by rw[Nat.pow_succ];lia
   have i:=FH k (m / 10) (by lia)
   rw[Hn c,Dx (Nat.mod_lt m (by decide)),List.length_append]
   simp only[List.length_singleton]
   lia
def Ky (k:Int):Prop:=k.natAbs<10 ^ 30
theorem EL {k:Int} (h:Ky k):1<=(Ay k).length/\(Ay k).length<=31:=by
 rw[<-TXM.A4]
 cases k with
 | ofNat m=>
  rw[C6]
  have:=FH 29 m h
  lia
 | negSucc m=>
  rw[FF,List.length_cons]
  have:=FH 29 (m+1) h
  lia
theorem num_reads {k:Int} (h:Ky k):PySem.intText? (Ay k)=some k:=by
 have hl:=EL h
 cases k with
 | ofNat m=>
  have e:=PySem.intText_digits (x:=Ay (Int.ofNat m)) (fun c hc=>D1 (m:=m) (by rw[<-C6];exact hc)) (by
   show cd (Ay (Int.ofNat m))≠[]
   intro z
   have:=hl.1
   rw[<-TXM.A4,z] at this
   exact absurd this (by decide)) (by lia)
  rw[e]
  show some (((PySem.NumText.digitsVal (cd (Ay (Int.ofNat m))):Nat):Int))=_
  rw[C6]
  show some (((PySem.NumText.digitsVal ((Nat.toDigits 10 m).map Char.toNat):Nat):Int))=_
  rw[PySem.W.KIN.val_back]
  rfl
 | negSucc m=>
  have e:=PySem.intText_neg (x:=Ay (Int.negSucc m)) (cs:=dg (m+1)) (FF m) (fun c hc=>D1 hc) (by
   obtain ⟨c,r,e,_⟩:=IC (m+1) (by lia)
   rw[e]
   exact fun z=>nomatch z) (by lia)
  rw[e]
  show some (-((PySem.NumText.digitsVal ((Nat.toDigits 10 (m+1)).map Char.toNat):Nat):Int))=_
  rw[PySem.W.KIN.val_back]
  rfl
theorem FQ {k:Int} {c:Nat} (h:c∈cd (Ay k)):c=45\/(48<=c/\c<=57):=by
 cases k with
 | ofNat m=>rw[C6] at h;exact .inr (D1 h)
 | negSucc m=>
  rw[FF] at h
  rcases List.mem_cons.mp h with h | h
  ·exact .inl h
  ·exact .inr (D1 h)
theorem JB {x:Str} {a:Nat} (h:a<=x.length):cd (BH x (some (a:Int)) none)=(cd x).drop a:=by
 have e0:Builtin.Str.strSliceIndices (some (a:Int)) none 1 x.length=Builtin.Str.strSliceIndices (some (a:Int)) (some (x.length:Int)) 1 x.length:=by
  unfold Builtin.Str.strSliceIndices
  simp only[show ((1:Int) > 0)=True by simp,if_true,show ¬((x.length:Int)<0) by lia,if_false]
  congr 1
  lia
 have e1:=PySem.StrLaws.sliced_plain x h (Nat.le_refl _)
 have e2:((cd x).drop a).take (x.length - a)=(cd x).drop a:=List.take_of_length_le (by rw[List.length_drop,TXM.A4];exact Nat.le_refl _)
 unfold BH
 rw[e0]
 split
 ·rename_i hl
  rw[PySem.StrLaws.strSliceIndices_plain h (Nat.le_refl _),List.length_map,List.length_range] at hl
  have hl:=beq_iff_eq.mp hl
  by_cases z:a=0
  ·rw[z,List.drop_zero]
  ·have:x.length=0:=by lia
   have c0:cd x=[]:=List.eq_nil_of_length_eq_zero (by rw[TXM.A4];exact this)
   rw[c0]
   simp
 ·show ((Builtin.Str.strSliceIndices (some (a:Int)) (some (x.length:Int)) 1 x.length).filterMap (x.cps[·]?)).toArray.toList=_
  rw[List.toList_toArray,e1]
  exact e2
def De:MD:=mFn 2 Gh
theorem Dm (c:Nat):("0":Str).cps.toList=[48]/\("9":Str).cps.toList=[57]:=⟨by decide +kernel,by decide +kernel⟩
theorem le_0 {c:Nat} {Γ:Gm} (h:48<=c):Af Γ (.v (.str "0")) (.v (.str ⟨#[c]⟩))=some (.bl true):=by
 have ea:=(Dm 0).1
 have c1:¬([c]<[48]):=by rw[List.cons_lt_cons_iff];simp;lia
 show some (D.bl (!decide ([c]<("0":Str).cps.toList)))=_
 rw[ea,decide_eq_false c1]
 rfl
theorem Pr {c:Nat} {Γ:Gm} (h:c<=57):Af Γ (.v (.str ⟨#[c]⟩)) (.v (.str "9"))=some (.bl true):=by
 have ea:=(Dm 0).2
 have c1:¬([57]<[c]):=by rw[List.cons_lt_cons_iff];simp;lia
 show some (D.bl (!decide (("9":Str).cps.toList<[c])))=_
 rw[ea,decide_eq_false c1]
 rfl
theorem Iv {g g':Gm->SV->SV->Option D} {a b c:ME} {S:DS} {x y w:SV} {z:D} (h1:a S=some (x,S)) (h2:b S=some (y,S)) (h3:g S.Γ x y=some (.bl true)) (h4:c S=some (w,S)) (h5:g' S.Γ y w=some z):BA g g' a b c S=some (.v z,S):=by
 unfold BA
 rw[h1,Option.bind_some,h2,Option.bind_some,h3,Option.bind_some]
 simp only[]
 rw[h4,Option.bind_some,h5]
 rfl
theorem MV {Γ:Gm}:∀ (cs:List Nat) (v:Option SV),(∀ c∈cs,48<=c/\c<=57)->A3 (AZ 0) mTT (BA Af Af (mC (.str "0")) (AA 0) (mC (.str "9"))) (cs.map fun c=>.str ⟨#[c]⟩) [v] Γ=some (cs.map fun _=>.bl true,Γ)
 | [],_,_=>rfl
 | c::cs,v,h=>by
  have i:=MV (Γ:=Γ) cs (some (.v (.str ⟨#[c]⟩))) fun x hx=>h x (List.mem_cons_of_mem _ hx)
  have hc:=h c List.mem_cons_self
  let T:DS:=⟨[some (.v (.str ⟨#[c]⟩))],Γ,Γ.length⟩
  have w:BA Af Af (mC (.str "0")) (AA 0) (mC (.str "9")) T=some (.v (.bl true),T):=Iv (x:=.v (.str "0")) (y:=.v (.str ⟨#[c]⟩)) (w:=.v (.str "9")) rfl rfl (le_0 hc.1) rfl (Pr hc.2)
  rw[List.map_cons]
  show A3 _ _ _ (.str ⟨#[c]⟩::cs.map fun c=>.str ⟨#[c]⟩) _ _=_
  unfold A3
  rw[show AZ 0 (.str ⟨#[c]⟩) (⟨[v],Γ,Γ.length⟩:DS)=some T from rfl]
  simp only[Option.bind_some,mTT,if_true,w]
  rw[show A3 _ _ _ _ T.σ T.Γ=_ from i,if_pos rfl]
  rfl
theorem len_str {S:DS} {m:ME} {x:Str} (h:m S=some (.v (.str x),S)) (hb:x.length<=1000000):AO Ag (AB m AC) S=some (.v (.int (x.length:Nat)),S):=Br h (by
 show (if x.length<=big then some (D.int (x.length:Nat)) else none)=_
 rw[if_pos (by rw[show big=1000000 from rfl];exact hb)])
theorem le_int {Γ:Gm} {i j:Int} (h:i<=j):Af Γ (.v (.int i)) (.v (.int j))=some (.bl true):=by
 show some (D.bl (decide (i<=j)))=_
 rw[decide_eq_true h]
theorem Dq {Γ:Gm} {x y:Str}:AR Γ (.v (.str x)) (.v (.str y))=some (.bl (decide (x=y))):=rfl
theorem str_ne {Γ:Gm} {x y:Str}:Ap Γ (.v (.str x)) (.v (.str y))=some (.bl (!decide (x=y))):=rfl
theorem ascii {x:Str} (h:∀ c∈cd x,c<128):x.cps.all (·<128)=true:=Array.all_eq_true'.mpr fun c hc=>by
 have:=h c (Array.mem_toList_iff.mpr hc)
 simp;lia
theorem all_true {n:Nat} (cs:List Nat) {Γ:Gm}:CM Γ [.v (.lst (cs.map fun _=>.bl true))]=some (.bl true):=by
 have eb:Cq (cs.map fun _=>D.bl true)=some (cs.map fun _=>true):=by
  have:=HW (cs.map fun _=>true)
  rw[List.map_map] at this
  exact this
 show ((Cq (cs.map fun _=>D.bl true)).map fun bs=>D.bl (bs.all id))=_
 rw[eb,Option.map_some]
 congr 2
 rw[List.all_eq_true]
 intro x hx
 obtain ⟨_,_,rfl⟩:=List.mem_map.mp hx
 rfl
theorem QV {x:Str} {Γ:Gm} {n:Nat} (hd:∀ c∈cd x,48<=c/\c<=57) (h1:1<=x.length) (h2:x.length<=n) (hn:n<=1000) (h0:x="0"\/∃ c r,cd x=c::r/\49<=c):De [.v (.str x),.v (.int (n:Int))] Γ=some (.bl true,Γ):=by
 have tk:Γ.take Γ.length=Γ:=List.take_length
 let S:DS:=⟨[some (.v (.str x)),some (.v (.int (n:Int)))],Γ,Γ.length⟩
 have wl:=len_str (S:=S) (m:=AA 0) (x:=x) rfl (by lia)
 have t1:As (AE (BA Af Af (mC (.int 1)) (AO Ag (AB (AA 0) AC)) (AA 1))) S=some (false,S):=by
  unfold As
  rw[Au (Iv (x:=.v (.int 1)) (w:=.v (.int (n:Int))) rfl wl (le_int (by lia)) rfl (le_int (by lia)))]
  rfl
 have wi:Bi (AA 0) S=some (signs x,S):=by
  show (if x.cps.all (·<128)=true then some (signs x,S) else none)=_
  rw[if_pos (ascii fun c hc=>by have:=hd c hc;lia)]
 have wc:=CL (mi:=Bi (AA 0)) (nt:=1) (ix:=[]) (s:=S) (s':=S) (Γ':=Γ) wi (by unfold signs;rw[List.length_map];show (cd x).length<=1000000;rw[TXM.A4];lia) (MV (Γ:=Γ) (cd x) none hd)
 have t2:As (Am (AO CM (AB (AF (BN (Bi (AA 0)) 1 [] (AZ 0) mTT (BA Af Af (mC (.str "0")) (AA 0) (mC (.str "9"))))) AC))) S=some (false,S):=by
  unfold As Am
  rw[Br (g:=CM) (A7 wc) (all_true (n:=0) (cd x))]
  rfl
 have w3:Ex (mOp AR (AA 0) (mC (.str "0"))) (mOp Ap (mOp gIx (AA 0) (mC (.int 0))) (mC (.str "0"))) S=some (.v (.bl true),S):=by
  have e1:mOp AR (AA 0) (mC (.str "0")) S=some (.v (.bl (decide (x="0"))),S):=AS (x:=.v (.str x)) (y:=.v (.str "0")) (s1:=S) (s2:=S) rfl rfl Dq
  unfold Ex
  rw[e1]
  by_cases c:x="0"
  ·rw[decide_eq_true c]
   rfl
  ·rw[decide_eq_false c]
   show mOp Ap _ _ S=_
   rcases h0 with h0 | ⟨a,r,e,ha⟩
   ·exact absurd h0 c
   ·have e2:mOp gIx (AA 0) (mC (.int 0)) S=some (.v (.str ⟨#[a]⟩),S):=AS (x:=.v (.str x)) (y:=.v (.int 0)) (s1:=S) (s2:=S) rfl rfl (by
     show (if x.length<=big then (atI x.cps.toList 0).map fun c=>D.str ⟨#[c]⟩ else none)=_
     rw[if_pos (by rw[show big=1000000 from rfl];lia),show x.cps.toList=a::r from e,show (0:Int)=((0:Nat):Int) from rfl,Cf (xs:=a::r) (j:=0) rfl]
     rfl)
    refine AS e2 (y:=.v (.str "0")) (s2:=S) rfl (str_ne.trans ?_)
    have:(⟨#[a]⟩:Str)≠"0":=fun z=>by
     have:=congrArg cd z
     rw[show cd ("0":Str)=[48] from (Dm 0).1] at this
     have:=(List.cons.inj (show [a]=[48] from this)).1
     lia
    rw[decide_eq_false this]
    rfl
 unfold De mFn Gh
 show ((AG _ _ S).bind _)=_
 rw[(AM ((Aj t1).trans rfl)).trans ((AM ((Aj t2).trans rfl)).trans (BB w3))]
 show some (_,Γ.take Γ.length)=_
 rw[tk]
def DM:MD:=mFn 1 (Ff De)
theorem GS:cd ("-":Str)=[45]:=by decide +kernel
theorem Fx {x:Str} {c:Nat} {r:List Nat} (e:cd x=c::r):Txt.startswith x "-"=(c == 45):=by
 have hl:x.length=r.length+1:=by rw[<-TXM.A4,e];rfl
 unfold Txt.startswith
 rw[PySem.StrLaws.subAt_eq]
 show (decide (0+("-":Str).length<=x.length) && (((cd x).drop 0).take ("-":Str).length == cd ("-":Str)))=_
 rw[GS,e,show ("-":Str).length=1 by decide +kernel,decide_eq_true (by lia)]
 show ([c] == [45])=(c == 45)
 simp
theorem Nv {S:DS} {m:ME} {x:Str} (h:m S=some (.v (.str x),S)):D9 m (mC (.str "-")) S=some (.v (.bl (Txt.startswith x "-")),S):=by
 unfold D9
 rw[h]
 rfl
theorem GU {S:DS} {m:ME} {x:Str} {a:Nat} (h:m S=some (.v (.str x),S)) (hl:x.length<=1000000):mSl m (some (mC (.int (a:Int)))) none S=some (.v (.str (BH x (some (a:Int)) none)),S):=by
 unfold mSl
 rw[h]
 show ((if x.length<=big then some (D.str (BH x (some (a:Int)) none)) else none).map _)=_
 rw[if_pos (by rw[show big=1000000 from rfl];exact hl)]
 rfl
theorem UX {Mf:MD} (F:∀ {x:Str} {Γ:Gm} {n:Nat},(∀ c∈cd x,48<=c/\c<=57)->1<=x.length->x.length<=n->n<=1000->(x="0"\/∃ c r,cd x=c::r/\49<=c)->Mf [.v (.str x),.v (.int (n:Int))] Γ=some (.bl true,Γ)) {k:Int} {Γ:Gm} (h:Ky k):mFn 1 (Ff Mf) [.v (.str (Ay k))] Γ=some (.bl true,Γ):=by
 have tk:Γ.take Γ.length=Γ:=List.take_length
 have hl:=EL h
 let S:DS:=⟨[some (.v (.str (Ay k)))],Γ,Γ.length⟩
 have ws:=Nv (S:=S) (m:=AA 0) (x:=Ay k) rfl
 unfold mFn Ff
 show ((AG _ _ S).bind _)=_
 cases k with
 | ofNat m=>
  have hd:=FH 29 m h
  obtain ⟨c,r,e⟩:∃ c r,dg m=c::r:=by
   cases e:dg m with
   | nil=>rw[e] at hd;exact absurd hd.1 (by decide)
   | cons c r=>exact ⟨c,r,rfl⟩
  have hc:=D1 (m:=m) (c:=c) (by rw[e];exact List.mem_cons_self)
  have e1:cd (Ay (Int.ofNat m))=c::r:=by rw[C6,e]
  rw[Fx e1,show (c == 45)=false by simp;lia] at ws
  have t1:Am (D9 (AA 0) (mC (.str "-"))) S=some (false,S):=by
   unfold Am
   rw[ws]
   rfl
  have w2:AK Mf (AB (AA 0) (AB (mC (.int 30)) AC)) S=some (.v (.bl true),S):=BR (x:=.v (.str (Ay (Int.ofNat m)))) (y:=.v (.int 30)) (s1:=S) (s2:=S) rfl rfl (F (n:=30) (fun c hc=>D1 (m:=m) (by rw[<-C6];exact hc)) hl.1 (by rw[<-TXM.A4,C6];lia) (by decide) (by
   by_cases z:m=0
   ·refine .inl (CG ?_)
    rw[C6,z,Dx (by decide)]
    exact (Dm 0).1.symm
   ·obtain ⟨c',r',e',h'⟩:=IC m (by lia)
    exact .inr ⟨c',r',by rw[C6,e'],h'⟩))
  rw[(AM ((Aj t1).trans rfl)).trans (BB w2)]
  show some (_,Γ.take Γ.length)=_
  rw[tk]
 | negSucc m=>
  have hd:=FH 29 (m+1) h
  have e1:=FF m
  rw[Fx e1] at ws
  have t1:Am (D9 (AA 0) (mC (.str "-"))) S=some (true,S):=by
   unfold Am
   rw[ws]
   rfl
  obtain ⟨c',r',e',h'⟩:=IC (m+1) (by lia)
  have hne:Ay (Int.negSucc m)≠"-0":=fun z=>by
   have z:=congrArg cd z
   rw[e1,e',show cd ("-0":Str)=[45,48] by decide +kernel] at z
   have:=(List.cons.inj (List.cons.inj z).2).1
   lia
  have w1:mOp Ap (AA 0) (mC (.str "-0")) S=some (.v (.bl true),S):=AS (x:=.v (.str (Ay (Int.negSucc m)))) (y:=.v (.str "-0")) (s1:=S) (s2:=S) rfl rfl (str_ne.trans (by rw[decide_eq_false hne];rfl))
  have ec:=JB (x:=Ay (Int.negSucc m)) (a:=1) hl.1
  rw[e1] at ec
  have ec:cd (BH (Ay (Int.negSucc m)) (some ((1:Nat):Int)) none)=dg (m+1):=ec
  have w2:=GU (S:=S) (m:=AA 0) (x:=Ay (Int.negSucc m)) (a:=1) rfl (by lia)
  have w3:AK Mf (AB (mSl (AA 0) (some (mC (.int 1))) none) (AB (mC (.int 30)) AC)) S=some (.v (.bl true),S):=BR w2 (y:=.v (.int 30)) (s2:=S) rfl (F (n:=30) (fun c hc=>D1 (m:=m+1) (by rw[<-ec];exact hc)) (by rw[<-TXM.A4,ec];lia) (by rw[<-TXM.A4,ec];lia) (by decide) (.inr ⟨c',r',by rw[ec,e'],h'⟩))
  have w4:Dg (mOp Ap (AA 0) (mC (.str "-0"))) (AK Mf (AB (mSl (AA 0) (some (mC (.int 1))) none) (AB (mC (.int 30)) AC))) S=some (.v (.bl true),S):=by
   unfold Dg
   rw[w1]
   exact w3
  rw[Ba ((A2 t1).trans (BB w4))]
  show some (_,Γ.take Γ.length)=_
  rw[tk]
theorem LU {k:Int} {Γ:Gm} (h:Ky k):DM [.v (.str (Ay k))] Γ=some (.bl true,Γ):=UX QV h
def thS (t:Th):Str:=Ay t.1++":"++t.2
def Ab (r:List Th):Str:=if r=[] then "-" else Str.join ", " (r.map thS)
def Av (rs:List (List Th)):Str:=Str.join "; " (rs.map Ab)
def Wr (t:Th):Prop:=Ky t.1/\Tg t.2
theorem JH (t:Th):thS t=Str.join ":" [Ay t.1,t.2]:=rfl
theorem Jz:cd (":":Str)=[58]:=by decide +kernel
theorem ET:cd (", ":Str)=[44,32]:=by decide +kernel
theorem Qk:cd ("; ":Str)=[59,32]:=by decide +kernel
theorem Ik {S:DS} {m:ME} {y:Str} {c:Nat} {r:List Nat} (hy:cd y=c::r) (hk:PySem.Builtin.Str.strKind y=1) {ps:List Str} (hne:ps≠[]) (hf:∀ p∈ps,c∉cd p) (hl:(Str.join y ps).length<=1000000) (hp:ps.length<=1000000) (h:m S=some (.v (.str (Str.join y ps)),S)):BS m (mC (.str y)) S=some (ps.map .str,S):=by
 obtain ⟨e1,e2⟩:=GT hy hk hne hf
 unfold BS
 rw[h]
 show (if (y.length == 0)=false/\(Str.join y ps).length<=big/\_<=big/\(Txt.split (Str.join y ps) y).length<=big then some ((Txt.split (Str.join y ps) y).map D.str,S) else none)=_
 rw[e2,e1,if_pos]
 refine ⟨?_,hl,hp,hp⟩
 rw[<-TXM.A4,hy]
 rfl
theorem M5 {t:Str} (h:Tg t) {c:Nat} (hc:c∈cd t):97<=c/\c<=122:=h.2.2 c hc
theorem HM {t:Th} (h:Wr t) {c:Nat} (hc:c∈cd (thS t)):c=45\/(48<=c/\c<=58)\/(97<=c/\c<=122):=by
 unfold thS at hc
 rw[Bs,Bs,Jz] at hc
 rcases List.mem_append.mp hc with hc | hc
 ·rcases List.mem_append.mp hc with hc | hc
  ·rcases FQ hc with z | z
   ·exact .inl z
   ·exact .inr (.inl ⟨z.1,by lia⟩)
  ·rw[List.mem_singleton] at hc
   exact .inr (.inl (by lia))
 ·exact .inr (.inr (M5 h.2 hc))
theorem Ec {t:Th} (h:Wr t):3<=(thS t).length/\(thS t).length<=40:=by
 unfold thS
 have h1:=EL h.1
 have h2:=h.2.1
 have h3:=h.2.2.1
 rw[Str.length_append,Str.length_append,show (":":Str).length=1 by decide +kernel]
 lia
theorem Ir {y:Str}:∀ {ps:List Str} {c:Nat},c∈cd (Str.join y ps)->c∈cd y\/∃ p∈ps,c∈cd p
 | [],c,h=>by
  have h:c∈([]:List Nat):=h
  cases h
 | [p],c,h=>.inr ⟨p,List.mem_cons_self,h⟩
 | p::q::r,c,h=>by
  rw[Dy,Bs,Bs] at h
  rcases List.mem_append.mp h with h | h
  ·rcases List.mem_append.mp h with h | h
   ·exact .inr ⟨p,List.mem_cons_self,h⟩
   ·exact .inl h
  ·rcases Ir h with h | ⟨p',hp,h⟩
   ·exact .inl h
   ·exact .inr ⟨p',List.mem_cons_of_mem _ hp,h⟩
theorem K8 {r:List Th} (h:∀ t∈r,Wr t) {c:Nat} (hc:c∈cd (Ab r)):c=32\/c=44\/c=45\/(48<=c/\c<=58)\/(97<=c/\c<=122):=by
 unfold Ab at hc
 split at hc
 ·rw[GS,List.mem_singleton] at hc
  exact .inr (.inr (.inl hc))
 ·rcases Ir hc with hc | ⟨p,hp,hc⟩
  ·rw[ET] at hc
   simp at hc
   lia
  ·obtain ⟨t,ht,rfl⟩:=List.mem_map.mp hp
   have:=HM (h t ht) hc
   lia
theorem FK {y:Str} {B:Nat}:∀ (ps:List Str),(∀ p∈ps,p.length<=B)->(Str.join y ps).length<=ps.length * (B+y.length)
 | [],_=>Nat.zero_le _
 | [p],h=>by
  have:=h p List.mem_cons_self
  show p.length<=_
  simp
  lia
 | p::q::r,h=>by
  have i:=FK (y:=y) (q::r) fun x hx=>h x (List.mem_cons_of_mem _ hx)
  have:=h p List.mem_cons_self
  rw[Dy,Str.length_append,Str.length_append,List.length_cons,Nat.succ_mul]
  lia
theorem Il {r:List Th} (h:∀ t∈r,Wr t) (hl:r.length<=1000):(Ab r).length<=42000:=by
 unfold Ab
 split
 ·decide +kernel
 ·have:=FK (y:=", ") (B:=40) (r.map thS) fun p hp=>by
   obtain ⟨t,ht,rfl⟩:=List.mem_map.mp hp
   exact (Ec (h t ht)).2
  rw[List.length_map,show (", ":Str).length=2 by decide +kernel] at this
  lia
theorem QU {rs:List (List Th)} (h:∀ r∈rs,r.length<=1000/\∀ t∈r,Wr t) (hl:rs.length<=6):(Av rs).length<=300000:=by
 have:=FK (y:="; ") (B:=42000) (rs.map Ab) fun p hp=>by
  obtain ⟨r,hr,rfl⟩:=List.mem_map.mp hp
  exact Il (h r hr).2 (h r hr).1
 rw[List.length_map,show ("; ":Str).length=2 by decide +kernel] at this
 unfold Av
 lia
def Mrt:MD:=mFn 2 (Fu DM Cw)
theorem Hw {a b:MT} {S S1 S2:DS} (h1:a S=some (false,S1)) (h2:b S1=some (false,S2)):mOr a b S=some (false,S2):=by
 unfold mOr
 rw[h1]
 exact h2
theorem HU {m:ME} {S S':DS} (h:m S=some (.v (.bl true),S')):As (Am m) S=some (false,S'):=by
 unfold As Am
 rw[h]
 rfl
theorem OM {Mk Mt:MD} (Fk:∀ {k:Int} {Γ:Gm},Ky k->Mk [.v (.str (Ay k))] Γ=some (.bl true,Γ)) (Ft:∀ {t:Str} {Γ:Gm},Tg t->Mt [.v (.str t)] Γ=some (.bl true,Γ)) {t:Th} {Γ:Gm} (h:Wr t):mFn 2 (Fu Mk Mt) [.v (.str (thS t))] Γ=some (thD t,Γ):=by
 have tk:Γ.take Γ.length=Γ:=List.take_length
 have hl:=Ec h
 let X:Option SV:=some (.v (.str (thS t)))
 let S0:DS:=⟨[X,none],Γ,Γ.length⟩
 let P:D:=.lst [.str (Ay t.1),.str t.2]
 let S:DS:=⟨[X,some (.v P)],Γ,Γ.length⟩
 have g1:AL 1 (AF (BS (AA 0) (mC (.str ":")))) S0=some (.nx S):=An (A7 (Ik (S:=S0) (m:=AA 0) (y:=":") (ps:=[Ay t.1,t.2]) Jz (by decide +kernel) (fun z=>nomatch z) (fun p hp=>by
  rcases List.mem_cons.mp hp with rfl | hp
  ·intro z
   rcases FQ z with z | z<;>lia
  ·rw[List.mem_singleton.mp hp]
   intro z
   have:=M5 h.2 z
   lia) (by rw[<-JH];lia) (show 2<=1000000 by decide) rfl))
 have i0:mOp gIx (AA 1) (mC (.int 0)) S=some (.v (.str (Ay t.1)),S):=AS (x:=.v P) (y:=.v (.int 0)) (s1:=S) (s2:=S) rfl rfl rfl
 have i1:mOp gIx (AA 1) (mC (.int 1)) S=some (.v (.str t.2),S):=AS (x:=.v P) (y:=.v (.int 1)) (s1:=S) (s2:=S) rfl rfl rfl
 have wl:AO Ag (AB (AA 1) AC) S=some (.v (.int 2),S):=Br (x:=.v P) (s':=S) rfl rfl
 have t2:=Hw (Au (AS (g:=Ap) wl (b:=mC (.int 2)) (y:=.v (.int 2)) (s2:=S) rfl (Pl rfl))) (Hw (HU (B5 (M:=Mk) i0 (Fk h.1))) (HU (B5 (M:=Mt) i1 (Ft h.2))))
 have hn:=EL h.1
 have w3:AO Dr (AB (mOp gIx (AA 1) (mC (.int 0))) AC) S=some (.v (.int t.1),S):=Br i0 (by
  show (if (Ay t.1).length<=640 then (PySem.intText? (Ay t.1)).map D.int else none)=_
  rw[if_pos (by lia),num_reads h.1]
  rfl)
 unfold mFn Fu
 show ((AG _ _ S0).bind _)=_
 rw[(AM g1).trans ((AM ((Aj t2).trans rfl)).trans (BB (Io w3 i1)))]
 show some (_,Γ.take Γ.length)=_
 rw[tk]
 rfl
theorem Kv {t:Th} {Γ:Gm} (h:Wr t):Mrt [.v (.str (thS t))] Γ=some (thD t,Γ):=OM LU QY h
def Mrr:MDF:=Bd 1 (Fq Mrt)
theorem NK {Mt:MD} (F:∀ {t:Th} {Γ:Gm},Wr t->Mt [.v (.str (thS t))] Γ=some (thD t,Γ)) {Γ:Gm}:∀ (r:List Th) (v:Option SV),(∀ t∈r,Wr t)->A3 (AZ 0) mTT (AK Mt (AB (AA 0) AC)) ((r.map thS).map .str) [v] Γ=some (r.map thD,Γ)
 | [],_,_=>rfl
 | t::r,v,h=>by
  have i:=NK F (Γ:=Γ) r (some (.v (.str (thS t)))) fun x hx=>h x (List.mem_cons_of_mem _ hx)
  let T:DS:=⟨[some (.v (.str (thS t)))],Γ,Γ.length⟩
  have w:AK Mt (AB (AA 0) AC) T=some (.v (thD t),T):=B5 (x:=.v (.str (thS t))) (s':=T) rfl (F (h t List.mem_cons_self))
  rw[List.map_cons,List.map_cons]
  unfold A3
  rw[show AZ 0 (.str (thS t)) (⟨[v],Γ,Γ.length⟩:DS)=some T from rfl]
  simp only[Option.bind_some,mTT,if_true,w]
  rw[show A3 _ _ _ _ T.σ T.Γ=_ from i,if_pos rfl]
  rfl
theorem IA {m:MF} {S S':DS} {xs:List D} (h:m S=some (xs,S')):Bh (AF m) S=some (xs,S'):=by
 unfold Bh
 rw[A7 h]
 rfl
theorem PP {Mt:MD} (F:∀ {t:Th} {Γ:Gm},Wr t->Mt [.v (.str (thS t))] Γ=some (thD t,Γ)) {r:List Th} {Γ:Gm} (h:∀ t∈r,Wr t) (hl:r.length<=1000):Bd 1 (Fq Mt) [.v (.str (Ab r))] Γ=some (r.map thD,Γ):=by
 have tk:Γ.take Γ.length=Γ:=List.take_length
 let S:DS:=⟨[some (.v (.str (Ab r)))],Γ,Γ.length⟩
 have t1:AE (mOp AR (AA 0) (mC (.str "-"))) S=some (decide (Ab r="-"),S):=Au (AS (x:=.v (.str (Ab r))) (y:=.v (.str "-")) (s1:=S) (s2:=S) rfl rfl Dq)
 unfold Bd Fq
 show ((AG _ _ S).bind _)=_
 by_cases c:r=[]
 ·subst c
  have e:Ab []="-":=by unfold Ab;rw[if_pos rfl]
  rw[decide_eq_true e] at t1
  have g:mIf (AE (mOp AR (AA 0) (mC (.str "-")))) (Bn (AX AC)) AU S=some (.rf [] S):=(A2 t1).trans (by
   unfold Bn
   rw[show AX AC S=some ([],S) by simp[show (0:Nat)<=big from Nat.zero_le _]]
   rfl)
  unfold AG
  rw[g]
  show some (_,Γ.take Γ.length)=_
  rw[tk]
  rfl
 ·have e:Ab r=Str.join ", " (r.map thS):=by unfold Ab;rw[if_neg c]
  have hne:Ab r≠"-":=fun z=>by
   obtain ⟨t,r',rfl⟩:∃ t r',r=t::r':=by
    cases r with
    | nil=>exact absurd rfl c
    | cons t r'=>exact ⟨t,r',rfl⟩
   have h1:=Ec (h t List.mem_cons_self)
   have h2:(thS t).length<=(Str.join ", " ((t::r').map thS)).length:=by
    cases r' with
    | nil=>exact Nat.le_refl _
    | cons q r''=>
     show _<=(Str.join ", " (thS t::thS q::r''.map thS)).length
     rw[Dy,Str.length_append,Str.length_append]
     lia
   rw[<-e,z,show ("-":Str).length=1 by decide +kernel] at h2
   lia
  rw[decide_eq_false hne] at t1
  have hlen:=Il h hl
  have w:=IA (Ik (S:=S) (m:=AA 0) (y:=", ") (ps:=r.map thS) ET (by decide +kernel) (fun z=>c (List.map_eq_nil_iff.mp z)) (fun p hp z=>by
   obtain ⟨t,ht,rfl⟩:=List.mem_map.mp hp
   have:=HM (h t ht) z
   lia) (by rw[<-e];lia) (by rw[List.length_map];lia) (by rw[<-e];rfl))
  have w2:=CL (nt:=1) (ix:=[]) (g:=AZ 0) (t:=mTT) (e:=AK Mt (AB (AA 0) AC)) w (by rw[List.length_map,List.length_map,show big=1000000 from rfl];lia) (NK F (Γ:=Γ) r none h)
  rw[(AM ((Aj t1).trans rfl))]
  unfold Bn
  rw[w2]
  show some (_,Γ.take Γ.length)=_
  rw[tk]
theorem KG {r:List Th} {Γ:Gm} (h:∀ t∈r,Wr t) (hl:r.length<=1000):Mrr [.v (.str (Ab r))] Γ=some (r.map thD,Γ):=PP Kv h hl
def Mrs:MDF:=Bd 2 (Gw Mrr)
def WrR (rs:List (List Th)):Prop:=1<=rs.length/\rs.length<=6/\∀ r∈rs,r.length<=1000/\∀ t∈r,Wr t
theorem isS {S:DS} {m:ME} {x:Str} (h:m S=some (.v (.str x),S)):As (Am (A0 "str" m)) S=some (false,S):=by
 refine HU ?_
 unfold A0
 rw[h]
 rfl
theorem NL {rs:List (List Th)} (W:WrR rs) {S:DS} {m:ME} (h:m S=some (.v (.str (Av rs)),S)):BS m (mC (.str "; ")) S=some ((rs.map Ab).map .str,S):=by
 have hl:=QU W.2.2 W.2.1
 have h6:=W.2.1
 exact Ik Qk (by decide +kernel) (fun z=>by
  have:=congrArg List.length z
  rw[List.length_map] at this
  have h1:=W.1
  rw[this] at h1
  exact absurd h1 (by decide)) (fun p hp z=>by
  obtain ⟨r,hr,rfl⟩:=List.mem_map.mp hp
  have:=K8 (W.2.2 r hr).2 z
  lia) (show (Av rs).length<=1000000 by lia) (by rw[List.length_map];lia) h
theorem Mg {Mr:MDF} (F:∀ {r:List Th} {Γ:Gm},(∀ t∈r,Wr t)->r.length<=1000->Mr [.v (.str (Ab r))] Γ=some (r.map thD,Γ)) {Γ:Gm}:∀ (rs:List (List Th)) (v:Option SV),(∀ r∈rs,r.length<=1000/\∀ t∈r,Wr t)->A3 (AZ 0) mTT (AF (BG Mr (AB (AA 0) AC))) ((rs.map Ab).map .str) [v] Γ=some (rs.map Ad,Γ)
 | [],_,_=>rfl
 | r::rs,v,h=>by
  have i:=Mg F (Γ:=Γ) rs (some (.v (.str (Ab r)))) fun x hx=>h x (List.mem_cons_of_mem _ hx)
  let T:DS:=⟨[some (.v (.str (Ab r)))],Γ,Γ.length⟩
  have hr:=h r List.mem_cons_self
  have w:AF (BG Mr (AB (AA 0) AC)) T=some (.v (Ad r),T):=A7 (KO (x:=.v (.str (Ab r))) (s':=T) rfl (F hr.2 hr.1))
  rw[List.map_cons,List.map_cons]
  unfold A3
  rw[show AZ 0 (.str (Ab r)) (⟨[v],Γ,Γ.length⟩:DS)=some T from rfl]
  simp only[Option.bind_some,mTT,if_true,w]
  rw[show A3 _ _ _ _ T.σ T.Γ=_ from i,if_pos rfl]
  rfl
theorem QF {Mr:MDF} (F:∀ {r:List Th} {Γ:Gm},(∀ t∈r,Wr t)->r.length<=1000->Mr [.v (.str (Ab r))] Γ=some (r.map thD,Γ)) {rs:List (List Th)} {Γ:Gm} (W:WrR rs):Bd 2 (Gw Mr) [.v (.str (Av rs))] Γ=some (rs.map Ad,Γ):=by
 have tk:Γ.take Γ.length=Γ:=List.take_length
 let X:Option SV:=some (.v (.str (Av rs)))
 let S0:DS:=⟨[X,none],Γ,Γ.length⟩
 let P:D:=.lst ((rs.map Ab).map .str)
 let S:DS:=⟨[X,some (.v P)],Γ,Γ.length⟩
 have h6:=W.2.1
 have t1:=isS (S:=S0) (m:=AA 0) (x:=Av rs) rfl
 have g2:AL 1 (AF (BS (AA 0) (mC (.str "; ")))) S0=some (.nx S):=An (A7 (NL W (S:=S0) (m:=AA 0) rfl))
 have wl:AO Ag (AB (AA 1) AC) S=some (.v (.int (rs.length:Nat)),S):=Br (x:=.v P) (s':=S) rfl (by
  show some (D.int (((rs.map Ab).map D.str).length:Nat))=_
  rw[List.length_map,List.length_map])
 have t3:AE (mOp gGt (AO Ag (AB (AA 1) AC)) (mC (.int 6))) S=some (false,S):=Au (AS wl (y:=.v (.int 6)) (s2:=S) rfl (by
  show some (D.bl (decide ((6:Int)<(rs.length:Nat))))=_
  rw[decide_eq_false (by lia)]))
 have w4:=CL (mi:=Bh (AA 1)) (nt:=1) (ix:=[]) (g:=AZ 0) (t:=mTT) (e:=AF (BG Mr (AB (AA 0) AC))) (s:=S) (s':=S) (items:=(rs.map Ab).map .str) rfl (by rw[List.length_map,List.length_map,show big=1000000 from rfl];lia) (Mg F (Γ:=Γ) rs none W.2.2)
 unfold Bd Gw
 show ((AG _ _ S0).bind _)=_
 rw[(AM ((Aj t1).trans rfl)).trans ((AM g2).trans (AM ((Aj t3).trans rfl)))]
 unfold Bn
 rw[w4]
 show some (_,Γ.take Γ.length)=_
 rw[tk]
theorem OR {rs:List (List Th)} {Γ:Gm} (W:WrR rs):Mrs [.v (.str (Av rs))] Γ=some (rs.map Ad,Γ):=QF KG W
theorem Rx {k:Int} (h:Ky k):k.natAbs.log2<1920:=by
 by_cases z:k.natAbs=0
 ·rw[z];decide
 ·have:k.natAbs.log2<128:=by
   rw[Nat.log2_lt z]
   exact Nat.lt_of_lt_of_le h (by decide)
  lia
theorem OI {S:DS} {m:ME} {k:Int} (hk:Ky k) (h:m S=some (.v (.int k),S)):AO FV (AB m AC) S=some (.v (.str (Ay k)),S):=Br h (by
 show (if k.natAbs.log2<1920 then some (D.str (Ay k)) else none)=_
 rw[if_pos (Rx hk)])
theorem EU {S:DS} {a b:ME} {x y:Str} (h1:a S=some (.v (.str x),S)) (h2:b S=some (.v (.str y),S)) (hl:x.length+y.length<=1000000):mOp AV a b S=some (.v (.str (x++y)),S):=AS h1 h2 (by
 show (if x.length+y.length<=big then some (D.str (x++y)) else none)=_
 rw[if_pos (by rw[show big=1000000 from rfl];exact hl)])
theorem M8 {S:DS} {m:ME} {y:Str} {ps:List Str} {B:Nat} (h:m S=some (.v (.lst (ps.map .str)),S)) (hB:∀ p∈ps,p.length<=B) (hz:ps.length * B+ps.length * y.length<=1000000):CK (mC (.str y)) m S=some (.v (.str (Str.join y ps)),S):=by
 unfold CK
 show ((m S).bind _)=_
 rw[h]
 show ((strsOf (ps.map D.str)).bind fun xs=>if JoinOk y xs=true then some (SV.v (D.str (Txt.join y xs)),S) else none)=_
 rw[Hy,Option.bind_some,if_pos]
 ·rw[show Txt.join y ps=Str.join y ps from PySem.StrLaws.glued_eq_join y ps]
 ·unfold JoinOk
  rw[PySem.StrLaws.joinFits hB (by lia)]
  rfl
theorem LX {Mr:MD} (F:∀ {r:List Th} {Γ:Gm},(∀ t∈r,Wr t)->r.length<=1000->Mr [.v (Ad r)] Γ=some (.str (Ab r),Γ)) {Γ:Gm}:∀ (rs:List (List Th)) (v:Option SV),(∀ r∈rs,r.length<=1000/\∀ t∈r,Wr t)->A3 (AZ 0) mTT (AK Mr (AB (AA 0) AC)) (rs.map Ad) [v] Γ=some ((rs.map Ab).map .str,Γ)
 | [],_,_=>rfl
 | r::rs,v,h=>by
  have i:=LX F (Γ:=Γ) rs (some (.v (Ad r))) fun x hx=>h x (List.mem_cons_of_mem _ hx)
  let T:DS:=⟨[some (.v (Ad r))],Γ,Γ.length⟩
  have hr:=h r List.mem_cons_self
  have w:AK Mr (AB (AA 0) AC) T=some (.v (.str (Ab r)),T):=B5 (x:=.v (Ad r)) (s':=T) rfl (F hr.2 hr.1)
  rw[List.map_cons]
  unfold A3
  rw[show AZ 0 (Ad r) (⟨[v],Γ,Γ.length⟩:DS)=some T from rfl]
  simp only[Option.bind_some,mTT,if_true,w]
  rw[show A3 _ _ _ _ T.σ T.Γ=_ from i,if_pos rfl]
  rfl
theorem Pt {Mr:MD} (F:∀ {r:List Th} {Γ:Gm},(∀ t∈r,Wr t)->r.length<=1000->Mr [.v (Ad r)] Γ=some (.str (Ab r),Γ)) {rs:List (List Th)} {Γ:Gm} (W:WrR rs):mFn 1 (Aa (CK (mC (.str "; ")) (AF (BN (Bh (AA 0)) 1 [] (AZ 0) mTT (AK Mr (AB (AA 0) AC)))))) [.v (BU rs)] Γ=some (.str (Av rs),Γ):=by
 have tk:Γ.take Γ.length=Γ:=List.take_length
 have h6:=W.2.1
 let S:DS:=⟨[some (.v (BU rs))],Γ,Γ.length⟩
 have w:=A7 (CL (mi:=Bh (AA 0)) (nt:=1) (ix:=[]) (s:=S) (s':=S) (items:=rs.map Ad) (Γ':=Γ) rfl (by rw[List.length_map,show big=1000000 from rfl];lia) (LX F (Γ:=Γ) rs none W.2.2))
 have w2:=M8 (y:="; ") (B:=42000) w (fun p hp=>by
  obtain ⟨r,hr,rfl⟩:=List.mem_map.mp hp
  exact Il (W.2.2 r hr).2 (W.2.2 r hr).1) (by rw[List.length_map,show ("; ":Str).length=2 by decide +kernel];lia)
 unfold mFn
 show ((Aa _ S).bind _)=_
 rw[BB w2]
 show some (_,Γ.take Γ.length)=_
 rw[tk]
 rfl
def Mlw:MD:=mFn 4 IP
def wrC (r:List Th):List Nat:=(r.map fun t=>44::32::cd (thS t)).flatten
theorem Nr:∀ (r:List Th) (t:Th),cd (Str.join ", " ((t::r).map thS))=cd (thS t)++wrC r
 | [],t=>by
  show cd (thS t)=_
  unfold wrC
  simp
 | q::r,t=>by
  show cd (Str.join ", " (thS t::thS q::r.map thS))=_
  rw[Dy,Bs,Bs,ET,show Str.join ", " (thS q::r.map thS)=Str.join ", " ((q::r).map thS) from rfl,Nr r q]
  unfold wrC
  simp
theorem UH {r:List Th} {Γ:Gm} (h:∀ t∈r,Wr t) (hl:r.length<=1000):Mlw [.v (Ad r)] Γ=some (.str (Ab r),Γ):=by
 have tk:Γ.take Γ.length=Γ:=List.take_length
 let A:Option SV:=some (.v (Ad r))
 let S0:DS:=⟨[A,none,none,none],Γ,Γ.length⟩
 let S:Str->Option SV->Option SV->DS:=fun x u v=>⟨[A,some (.v (.str x)),u,v],Γ,Γ.length⟩
 have g1:AL 1 (mC (.str "")) S0=some (.nx (S "" none none)):=An (s':=S0) rfl
 have hc:(":":Str).length=1:=by decide +kernel
 have hm:(", ":Str).length=2:=by decide +kernel
 obtain ⟨s',e1,x,u,v,rfl,hx,_⟩:=GP (g:=CU [2,3]) (b:=Jg) (items:=r.map thD) (fun i st=>∃ x u v,st=S x u v/\cd x=wrC (r.take i)/\x.length<=42 * i) (by
   rintro i d st hd ⟨x,u,v,rfl,hx,hxl⟩
   obtain ⟨t,ht,rfl⟩:=LQ hd
   have hi:=(List.getElem?_eq_some_iff.mp ht).1
   have W:=h t (List.mem_of_getElem? ht)
   have hn:=EL W.1
   have htl:=W.2.2.1
   let T:DS:=S x (some (.v (.int t.1))) (some (.v (.str t.2)))
   have w1:=EU (S:=T) (a:=AA 1) (b:=mC (.str ", ")) (x:=x) (y:=", ") rfl rfl (by lia)
   have w2:=EU w1 (OI (S:=T) (m:=AA 2) (k:=t.1) W.1 rfl) (by rw[Str.length_append];lia)
   have w3:=EU w2 (b:=mC (.str ":")) (y:=":") rfl (by rw[Str.length_append,Str.length_append];lia)
   have w4:=EU w3 (b:=AA 3) (y:=t.2) rfl (by rw[Str.length_append,Str.length_append,Str.length_append];lia)
   refine ⟨T,_,rfl,An w4,_,_,_,rfl,?_,?_⟩
   ·rw[Bs,Bs,Bs,Bs,hx,ET,List.take_add_one,ht]
    unfold wrC
    simp[thS,Bs]
   ·rw[Str.length_append,Str.length_append,Str.length_append,Str.length_append]
    lia)
  (s:=S "" none none) ⟨"",none,none,rfl,show cd ("":Str)=[] by decide +kernel,by decide +kernel⟩
 rw[List.length_map,List.take_length] at hx
 have g2:=show C5 (Bh (AA 0)) (CU [2,3]) Jg (S "" none none)=some (.nx (S x u v)) from e1
 have hxl:x.length<=42000:=by
  rw[<-TXM.A4,hx]
  have:∀ (l:List Th),(∀ t∈l,Wr t)->(wrC l).length<=42 * l.length:=by
   intro l
   induction l with
   | nil=>intro _;exact Nat.le_refl _
   | cons t l ih=>
    intro hl'
    have i:=ih fun x hx=>hl' x (List.mem_cons_of_mem _ hx)
    have:=(Ec (hl' t List.mem_cons_self)).2
    unfold wrC at i ⊢
    rw[List.map_cons,List.flatten_cons,List.length_append,List.length_cons,List.length_cons,TXM.A4,List.length_cons]
    lia
  have:=this r h
  lia
 let T:DS:=S x u v
 unfold Mlw mFn IP
 show ((AG _ _ S0).bind _)=_
 cases r with
 | nil=>
  have t3:AE (mOp AR (AA 0) (AF (AX AC))) T=some (true,T):=Au (AS (x:=.v (Ad [])) (s1:=T) rfl nil_of rfl)
  have e:Ab []="-":=by unfold Ab;rw[if_pos rfl]
  rw[(AM g1).trans ((AM g2).trans (Ba ((A2 t3).trans (BB (m:=mC (.str "-")) (d:=.str "-") (s':=T) rfl)))),e]
  show some (_,Γ.take Γ.length)=_
  rw[tk]
 | cons t r'=>
  have t3:AE (mOp AR (AA 0) (AF (AX AC))) T=some (false,T):=Au (AS (x:=.v (Ad (t::r'))) (s1:=T) rfl nil_of rfl)
  have w4:mSl (AA 1) (some (mC (.int 2))) none T=some (.v (.str (BH x (some ((2:Nat):Int)) none)),T):=GU (S:=T) (m:=AA 1) (x:=x) (a:=2) rfl (by lia)
  have h2:2<=x.length:=by
   rw[<-TXM.A4,hx]
   unfold wrC
   rw[List.map_cons,List.flatten_cons,List.length_append,List.length_cons,List.length_cons]
   lia
  have e:BH x (some ((2:Nat):Int)) none=Ab (t::r'):=CG (by
   rw[JB h2,hx]
   have e2:Ab (t::r')=Str.join ", " ((t::r').map thS):=by unfold Ab;rw[if_neg (fun z=>nomatch z)]
   rw[e2,Nr]
   unfold wrC
   rfl)
  rw[e] at w4
  have g3:mIf (AE (mOp AR (AA 0) (AF (AX AC)))) (Aa (mC (.str "-"))) AU T=some (.nx T):=(Aj t3).trans rfl
  rw[(AM g1).trans ((AM g2).trans ((AM g3).trans (BB w4)))]
  show some (_,Γ.take Γ.length)=_
  rw[tk]
def Gj:MD:=mFn 1 (Me Mlw)
theorem VC {rs:List (List Th)} {Γ:Gm} (W:WrR rs):Gj [.v (BU rs)] Γ=some (.str (Av rs),Γ):=Pt UH W
end DL
namespace DL
open PySem L2 Ev TXM
def Asc (x:Str):Prop:=(∀ c∈cd x,c<128)/\x.length<=5000
theorem Tz {g g':Gm->SV->SV->Option D} {a b c:ME} {S:DS} {x y:SV} (h1:a S=some (x,S)) (h2:b S=some (y,S)) (h3:g S.Γ x y=some (.bl false)):BA g g' a b c S=some (.v (.bl false),S):=by
 unfold BA
 rw[h1,Option.bind_some,h2,Option.bind_some,h3,Option.bind_some]
theorem JW {g g':Gm->SV->SV->Option D} {a b c:ME} {S:DS} {x y w:SV} {p q:Bool} (h1:a S=some (x,S)) (h2:b S=some (y,S)) (h3:g S.Γ x y=some (.bl p)) (h4:c S=some (w,S)) (h5:g' S.Γ y w=some (.bl q)):BA g g' a b c S=some (.v (.bl (p && q)),S):=by
 cases p with
 | false=>exact Tz h1 h2 h3
 | true=>exact Iv h1 h2 h3 h4 h5
theorem le_lo {lo:Str} {l c:Nat} {Γ:Gm} (e:lo.cps.toList=[l]):Af Γ (.v (.str lo)) (.v (.str ⟨#[c]⟩))=some (.bl (decide (l<=c))):=by
 show some (D.bl (!decide ([c]<lo.cps.toList)))=_
 rw[e]
 congr 2
 by_cases h:l<=c
 ·rw[decide_eq_true h,decide_eq_false (by rw[List.cons_lt_cons_iff];simp;lia)];rfl
 ·rw[decide_eq_false h,decide_eq_true (by rw[List.cons_lt_cons_iff];left;lia)];rfl
theorem RI {hi:Str} {h c:Nat} {Γ:Gm} (e:hi.cps.toList=[h]):Af Γ (.v (.str ⟨#[c]⟩)) (.v (.str hi))=some (.bl (decide (c<=h))):=by
 show some (D.bl (!decide (hi.cps.toList<[c])))=_
 rw[e]
 congr 2
 by_cases z:c<=h
 ·rw[decide_eq_true z,decide_eq_false (by rw[List.cons_lt_cons_iff];simp;lia)];rfl
 ·rw[decide_eq_false z,decide_eq_true (by rw[List.cons_lt_cons_iff];left;lia)];rfl
theorem Iq {lo hi:Str} {l h:Nat} (e1:lo.cps.toList=[l]) (e2:hi.cps.toList=[h]) {Γ:Gm}:∀ (cs:List Nat) (v:Option SV),A3 (AZ 0) mTT (BA Af Af (mC (.str lo)) (AA 0) (mC (.str hi))) (cs.map fun c=>.str ⟨#[c]⟩) [v] Γ=some (cs.map fun c=>.bl (decide (l<=c) && decide (c<=h)),Γ)
 | [],_=>rfl
 | c::cs,v=>by
  have i:=Iq e1 e2 (Γ:=Γ) cs (some (.v (.str ⟨#[c]⟩)))
  let T:DS:=⟨[some (.v (.str ⟨#[c]⟩))],Γ,Γ.length⟩
  have w:BA Af Af (mC (.str lo)) (AA 0) (mC (.str hi)) T=some (.v (.bl (decide (l<=c) && decide (c<=h))),T):=JW (x:=.v (.str lo)) (y:=.v (.str ⟨#[c]⟩)) (w:=.v (.str hi)) rfl rfl (le_lo e1) rfl (RI e2)
  rw[List.map_cons]
  show A3 _ _ _ (.str ⟨#[c]⟩::cs.map fun c=>.str ⟨#[c]⟩) _ _=_
  unfold A3
  rw[show AZ 0 (.str ⟨#[c]⟩) (⟨[v],Γ,Γ.length⟩:DS)=some T from rfl]
  simp only[Option.bind_some,mTT,if_true,w]
  rw[show A3 _ _ _ _ T.σ T.Γ=_ from i,if_pos rfl]
  rfl
theorem NV (cs:List Nat) (p:Nat->Bool) {Γ:Gm}:CM Γ [.v (.lst (cs.map fun c=>.bl (p c)))]=some (.bl (cs.all p)):=by
 have eb:Cq (cs.map fun c=>D.bl (p c))=some (cs.map p):=by
  have:=HW (cs.map p)
  rw[List.map_map] at this
  exact this
 show ((Cq (cs.map fun c=>D.bl (p c))).map fun bs=>D.bl (bs.all id))=_
 rw[eb,Option.map_some,List.all_map]
 rfl
theorem Ig {S:DS} {m:ME} {x:Str} (h:m S=some (.v (.str x),S)) (ha:Asc x):Bi m S=some (signs x,S):=by
 unfold Bi
 rw[h]
 show (if x.cps.all (·<128)=true then some (signs x,S) else none)=_
 rw[if_pos (ascii ha.1)]
theorem Gk {Γ:Gm} {i j:Int}:Af Γ (.v (.int i)) (.v (.int j))=some (.bl (decide (i<=j))):=rfl
def Bt (x:Str):Bool:=(decide ((1:Int)<=(x.length:Nat)) && decide (((x.length:Nat):Int)<=8)) && (cd x).all fun c=>decide (97<=c) && decide (c<=122)
theorem KF {x:Str} (h:Bt x=true):Tg x:=by
 unfold Bt at h
 rw[Bool.and_eq_true,Bool.and_eq_true,decide_eq_true_eq,decide_eq_true_eq,List.all_eq_true] at h
 refine ⟨by lia,by lia,fun c hc=>?_⟩
 have:=h.2 c hc
 rw[Bool.and_eq_true,decide_eq_true_eq,decide_eq_true_eq] at this
 exact this
theorem MQ {x:Str} (h:Tg x):Bt x=true:=by
 unfold Bt
 rw[Bool.and_eq_true,Bool.and_eq_true,decide_eq_true_eq,decide_eq_true_eq,List.all_eq_true]
 have h1:=h.1
 have h2:=h.2.1
 refine ⟨⟨by lia,by lia⟩,fun c hc=>?_⟩
 rw[Bool.and_eq_true,decide_eq_true_eq,decide_eq_true_eq]
 exact h.2.2 c hc
theorem IY {x:Str} (ha:Asc x):(signs x).length<=big:=by
 unfold signs
 rw[List.length_map]
 show (cd x).length<=1000000
 rw[TXM.A4]
 have:=ha.2
 lia
theorem Od {x:Str} {Γ:Gm} (ha:Asc x):Cw [.v (.str x)] Γ=some (.bl (Bt x),Γ):=by
 have tk:Γ.take Γ.length=Γ:=List.take_length
 let S:DS:=⟨[some (.v (.str x))],Γ,Γ.length⟩
 have hl:=ha.2
 have wl:=len_str (S:=S) (m:=AA 0) (x:=x) rfl (by lia)
 have wc:=JW (g:=Af) (g':=Af) (a:=mC (.int 1)) (c:=mC (.int 8)) (x:=.v (.int 1)) (w:=.v (.int 8)) (S:=S) rfl wl Gk rfl Gk
 have t1:mOr (As (Am (A0 "str" (AA 0)))) (As (AE (BA Af Af (mC (.int 1)) (AO Ag (AB (AA 0) AC)) (mC (.int 8))))) S=some (!(decide ((1:Int)<=(x.length:Nat)) && decide (((x.length:Nat):Int)<=8)),S):=by
  unfold mOr
  rw[isS (S:=S) (m:=AA 0) (x:=x) rfl,Option.bind_some]
  show As _ S=_
  unfold As
  rw[Au wc]
  rfl
 unfold Cw mFn Gz
 show (AG _ _ S).bind _=_
 by_cases c:(decide ((1:Int)<=(x.length:Nat)) && decide (((x.length:Nat):Int)<=8))=true
 ·rw[c] at t1
  have wm:=CL (mi:=Bi (AA 0)) (nt:=1) (ix:=[]) (s:=S) (s':=S) (Γ':=Γ) (Ig (S:=S) (m:=AA 0) rfl ha) (IY ha) (Iq (lo:="a") (hi:="z") (l:=97) (h:=122) (by decide +kernel) (by decide +kernel) (Γ:=Γ) (cd x) none)
  rw[(AM ((Aj t1).trans rfl)).trans (BB (Br (g:=CM) (A7 wm) (NV (cd x) _)))]
  show some (_,Γ.take Γ.length)=_
  rw[tk]
  unfold Bt
  rw[c,Bool.true_and]
 ·rw[Bool.not_eq_true] at c
  rw[c] at t1
  rw[Ba ((A2 t1).trans (BB (m:=mC (.bl false)) (d:=.bl false) (s':=S) rfl))]
  show some (_,Γ.take Γ.length)=_
  rw[tk]
  unfold Bt
  rw[c,Bool.false_and]
def hdB (x:Str):Bool:=decide (x="0") || decide (¬(cd x).head?=some 48)
def Co (x:Str) (n:Nat):Bool:=(decide ((1:Int)<=(x.length:Nat)) && decide (((x.length:Nat):Int)<=n)) && ((cd x).all (fun c=>decide (48<=c) && decide (c<=57)) && hdB x)
theorem MR {x:Str} {Γ:Gm} {n:Nat} (ha:Asc x):De [.v (.str x),.v (.int (n:Int))] Γ=some (.bl (Co x n),Γ):=by
 have tk:Γ.take Γ.length=Γ:=List.take_length
 let S:DS:=⟨[some (.v (.str x)),some (.v (.int (n:Int)))],Γ,Γ.length⟩
 have hl:=ha.2
 have wl:=len_str (S:=S) (m:=AA 0) (x:=x) rfl (by lia)
 have wc:=JW (g:=Af) (g':=Af) (a:=mC (.int 1)) (c:=AA 1) (x:=.v (.int 1)) (w:=.v (.int (n:Int))) (S:=S) rfl wl Gk rfl Gk
 have t1:As (AE (BA Af Af (mC (.int 1)) (AO Ag (AB (AA 0) AC)) (AA 1))) S=some (!(decide ((1:Int)<=(x.length:Nat)) && decide (((x.length:Nat):Int)<=n)),S):=by
  unfold As
  rw[Au wc]
  rfl
 have wm:=CL (mi:=Bi (AA 0)) (nt:=1) (ix:=[]) (s:=S) (s':=S) (Γ':=Γ) (Ig (S:=S) (m:=AA 0) rfl ha) (IY ha) (Iq (lo:="0") (hi:="9") (l:=48) (h:=57) (by decide +kernel) (by decide +kernel) (Γ:=Γ) (cd x) none)
 have t2:As (Am (AO CM (AB (AF (BN (Bi (AA 0)) 1 [] (AZ 0) mTT (BA Af Af (mC (.str "0")) (AA 0) (mC (.str "9"))))) AC))) S=some (!((cd x).all fun c=>decide (48<=c) && decide (c<=57)),S):=by
  unfold As Am
  rw[Br (g:=CM) (A7 wm) (NV (cd x) _)]
  rfl
 unfold De mFn Gh
 show (AG _ _ S).bind _=_
 unfold Co
 cases c:(decide ((1:Int)<=(x.length:Nat)) && decide (((x.length:Nat):Int)<=n)) with
 | false=>
  rw[c] at t1
  rw[Ba ((A2 t1).trans (BB (m:=mC (.bl false)) (d:=.bl false) (s':=S) rfl))]
  show some (_,Γ.take Γ.length)=_
  rw[tk]
  rfl
 | true=>
  rw[c] at t1
  rw[AM ((Aj t1).trans (show AU S=some (.nx S) from rfl))]
  cases c2:((cd x).all fun c=>decide (48<=c) && decide (c<=57)) with
  | false=>
   rw[c2] at t2
   rw[Ba ((A2 t2).trans (BB (m:=mC (.bl false)) (d:=.bl false) (s':=S) rfl))]
   show some (_,Γ.take Γ.length)=_
   rw[tk]
   rfl
  | true=>
   rw[c2] at t2
   rw[AM ((Aj t2).trans (show AU S=some (.nx S) from rfl))]
   have w3:Ex (mOp AR (AA 0) (mC (.str "0"))) (mOp Ap (mOp gIx (AA 0) (mC (.int 0))) (mC (.str "0"))) S=some (.v (.bl (hdB x)),S):=by
    have e1:mOp AR (AA 0) (mC (.str "0")) S=some (.v (.bl (decide (x="0"))),S):=AS (x:=.v (.str x)) (y:=.v (.str "0")) (s1:=S) (s2:=S) rfl rfl Dq
    unfold Ex hdB
    rw[e1]
    by_cases z:x="0"
    ·rw[decide_eq_true z]
     rfl
    ·rw[decide_eq_false z,Bool.false_or]
     show mOp Ap _ _ S=_
     obtain ⟨a,r,e⟩:∃ a r,cd x=a::r:=by
      rw[Bool.and_eq_true,decide_eq_true_eq] at c
      have hcl:=TXM.A4 x
      cases hcd:cd x with
      | nil=>rw[hcd] at hcl;simp at hcl;lia
      | cons a r=>exact ⟨a,r,rfl⟩
     have e2:mOp gIx (AA 0) (mC (.int 0)) S=some (.v (.str ⟨#[a]⟩),S):=AS (x:=.v (.str x)) (y:=.v (.int 0)) (s1:=S) (s2:=S) rfl rfl (by
      show (if x.length<=big then (atI x.cps.toList 0).map fun c=>D.str ⟨#[c]⟩ else none)=_
      rw[if_pos (by rw[show big=1000000 from rfl];lia),show x.cps.toList=a::r from e,show (0:Int)=((0:Nat):Int) from rfl,Cf (xs:=a::r) (j:=0) rfl]
      rfl)
     refine AS e2 (y:=.v (.str "0")) (s2:=S) rfl (str_ne.trans ?_)
     rw[e,List.head?_cons]
     congr 2
     rw[<-decide_not]
     refine decide_eq_decide.mpr (not_congr ⟨fun q=>?_,fun q=>?_⟩)
     ·have:([a]:List Nat)=[48]:=by rw[<-(Dm 0).1,<-q]
      injection this with this _
      rw[this]
     ·injection q with q
      rw[q]
      have e0:=(Dm 0).1
      show (⟨#[48]⟩:Str)="0"
      decide +kernel
   rw[BB w3]
   show some (_,Γ.take Γ.length)=_
   rw[tk]
   rfl
theorem NS:∀ (n:Nat) (ds:List Nat),ds.length=n->ds≠[]->(∀ c∈ds,48<=c/\c<=57)->(ds.head?≠some 48\/ds=[48])->∃ m,dg m=ds/\m<10 ^ n/\(ds.head?≠some 48->1<=m)
 | 0,ds,hn,h0,_,_=>absurd (List.eq_nil_of_length_eq_zero hn) h0
 | n+1,ds,hn,h0,ha,hh=>by
  obtain ⟨init,d,rfl⟩:∃ init d,ds=init++[d]:=⟨ds.dropLast,ds.getLast h0,(List.dropLast_concat_getLast h0).symm⟩
  have hd:=ha d (by simp)
  have hl:init.length=n:=by simpa using hn
  by_cases c:init=[]
  ·subst c
   have hz:n=0:=by rw[<-hl];rfl
   subst hz
   refine ⟨d - 48,by rw[Dx (by lia)];show [48+(d - 48)]=[d];congr 1;lia,by lia,fun z=>?_⟩
   have:d≠48:=fun q=>z (by rw[q];rfl)
   lia
  ·have hne:init.head?≠some 48:=fun q=>by
    have q2:(init++[d]).head?=some 48:=by rw[List.head?_append,q];rfl
    rcases hh with z | z
    ·exact z q2
    ·have:=congrArg List.length z
     simp at this
     exact c this
   obtain ⟨m,e,hm,h1⟩:=NS n init hl c (fun x hx=>ha x (List.mem_append_left _ hx)) (.inl hne)
   have h1:=h1 hne
   refine ⟨10 * m+(d - 48),?_,?_,fun _=>by lia⟩
   ·rw[Hn (by lia),show (10 * m+(d - 48)) / 10=m by lia,show (10 * m+(d - 48)) % 10=d - 48 by lia,e,Dx (by lia)]
    congr 1
    show [48+(d - 48)]=[d]
    congr 1
    lia
   ·rw[Nat.pow_succ]
    lia
theorem KI {x:Str} (h:Co x 30=true):∃ m,cd x=dg m/\m<10 ^ 30:=by
 unfold Co hdB at h
 rw[Bool.and_eq_true,Bool.and_eq_true,Bool.and_eq_true,decide_eq_true_eq,decide_eq_true_eq,List.all_eq_true,Bool.or_eq_true,decide_eq_true_eq,decide_eq_true_eq] at h
 obtain ⟨⟨h1,h2⟩,h3,h4⟩:=h
 have hl:=TXM.A4 x
 obtain ⟨m,e,hm,_⟩:=NS (cd x).length (cd x) rfl (fun z=>by rw[z] at hl;simp at hl;lia) (fun c hc=>by
  have:=h3 c hc
  rw[Bool.and_eq_true,decide_eq_true_eq,decide_eq_true_eq] at this
  exact this) (by
  rcases h4 with z | z
  ·exact .inr (by rw[z];exact (Dm 0).1)
  ·exact .inl z)
 exact ⟨m,e.symm,Nat.lt_of_lt_of_le hm (Nat.pow_le_pow_right (by decide) (by lia))⟩
def CB (x:Str):Bool:=if Txt.startswith x "-"=true then !decide (x="-0") && Co (BH x (some ((1:Nat):Int)) none) 30 else Co x 30
theorem Kt {x:Str} {l u:Option Int} (h:Asc x):Asc (BH x l u):=⟨fun c hc=>h.1 c (Ja hc),Nat.le_trans (Jd _ _ _) h.2⟩
theorem NO {x:Str} {Γ:Gm} (ha:Asc x):DM [.v (.str x)] Γ=some (.bl (CB x),Γ):=by
 have tk:Γ.take Γ.length=Γ:=List.take_length
 let S:DS:=⟨[some (.v (.str x))],Γ,Γ.length⟩
 have hl:=ha.2
 have ws:=Nv (S:=S) (m:=AA 0) (x:=x) rfl
 have t1:Am (D9 (AA 0) (mC (.str "-"))) S=some (Txt.startswith x "-",S):=by
  unfold Am
  rw[ws]
  rfl
 unfold DM mFn Ff
 show ((AG _ _ S).bind _)=_
 unfold CB
 cases c:Txt.startswith x "-" with
 | true=>
  rw[c] at t1
  have w1:mOp Ap (AA 0) (mC (.str "-0")) S=some (.v (.bl (!decide (x="-0"))),S):=AS (x:=.v (.str x)) (y:=.v (.str "-0")) (s1:=S) (s2:=S) rfl rfl str_ne
  have w2:=GU (S:=S) (m:=AA 0) (x:=x) (a:=1) rfl (by lia)
  have w3:AK De (AB (mSl (AA 0) (some (mC (.int 1))) none) (AB (mC (.int 30)) AC)) S=some (.v (.bl (Co (BH x (some ((1:Nat):Int)) none) 30)),S):=BR w2 (y:=.v (.int 30)) (s2:=S) rfl (MR (n:=30) (Kt ha))
  have w4:Dg (mOp Ap (AA 0) (mC (.str "-0"))) (AK De (AB (mSl (AA 0) (some (mC (.int 1))) none) (AB (mC (.int 30)) AC))) S=some (.v (.bl (!decide (x="-0") && Co (BH x (some ((1:Nat):Int)) none) 30)),S):=by
   unfold Dg
   rw[w1]
   by_cases z:x="-0"
   ·rw[decide_eq_true z];rfl
   ·rw[decide_eq_false z];exact w3
  rw[Ba ((A2 t1).trans (BB w4)),if_pos rfl]
  show some (_,Γ.take Γ.length)=_
  rw[tk]
 | false=>
  rw[c] at t1
  have w2:AK De (AB (AA 0) (AB (mC (.int 30)) AC)) S=some (.v (.bl (Co x 30)),S):=BR (x:=.v (.str x)) (y:=.v (.int 30)) (s1:=S) (s2:=S) rfl rfl (MR (n:=30) ha)
  rw[(AM ((Aj t1).trans rfl)).trans (BB w2),if_neg Bool.false_ne_true]
  show some (_,Γ.take Γ.length)=_
  rw[tk]
theorem Iy {x:Str} (h:CB x=true):∃ k,Ky k/\x=Ay k:=by
 unfold CB at h
 split at h
 ·rename_i hs
  rw[Bool.and_eq_true,Bool.not_eq_true',decide_eq_false_iff_not] at h
  obtain ⟨m,e,hm⟩:=KI h.2
  obtain ⟨c,r,ex⟩:∃ c r,cd x=c::r:=by
   cases hcd:cd x with
   | nil=>
    have hx:x="":=CG (by rw[hcd];decide +kernel)
    rw[hx] at hs
    exact absurd hs (by decide +kernel)
   | cons a r=>exact ⟨a,r,rfl⟩
  rw[Fx ex] at hs
  have hc:c=45:=by simpa using hs
  have hxl:1<=x.length:=by rw[<-TXM.A4,ex];simp
  have ec:=JB (x:=x) (a:=1) hxl
  rw[ex,List.drop_one,List.tail_cons,e] at ec
  cases m with
  | zero=>
   exfalso
   apply h.1
   refine CG ?_
   rw[ex,hc,<-ec,Dx (by decide)]
   decide +kernel
  | succ m=>
   refine ⟨Int.negSucc m,hm,CG ?_⟩
   rw[ex,hc,<-ec,FF]
 ·obtain ⟨m,e,hm⟩:=KI h
  exact ⟨Int.ofNat m,hm,CG (by rw[e,C6])⟩
theorem S8 {k:Int} (h:Ky k):Asc (Ay k):=⟨fun c hc=>by rcases FQ hc with z | z<;>lia,by have:=(EL h).2;lia⟩
theorem Kq {k:Int} (h:Ky k):CB (Ay k)=true:=by
 have e:=NO (Γ:=[]) (S8 h)
 rw[LU h] at e
 injection e with e
 injection e with e _
 injection e with e
 exact e.symm
theorem Dt {y:Str} (ps:List Str):(Str.join y ps).length=(ps.map (·.length)).sum+(ps.length - 1) * y.length:=by
 rw[<-PySem.StrLaws.glued_eq_join,size_glued]
theorem Do {S:DS} {m:ME} {x y:Str} (h:m S=some (.v (.str x),S)) (hl:x.length<=5000) (hy:1<=y.length):BS m (mC (.str y)) S=some ((Txt.split x y).map .str,S):=by
 have h1:=PySem.StrLaws.occ_length_le x y 0 x.length (x.length+1)
 have h2:(Txt.split x y).length<=5001:=by
  have e:=Dt (y:=y) (Txt.split x y)
  rw[PySem.StrLaws.join_split] at e
  have:(Txt.split x y).length - 1<=((Txt.split x y).length - 1) * y.length:=Nat.le_mul_of_pos_right _ hy
  lia
 unfold BS
 rw[h]
 show (if (y.length == 0)=false/\x.length<=big/\(Builtin.Str.partsBetween x (Builtin.Str.occurrences x y 0 x.length (x.length+1)) y.length).length<=big/\(Txt.split x y).length<=big then some ((Txt.split x y).map D.str,S) else none)=_
 rw[if_pos ⟨by rw[beq_eq_false_iff_ne];lia,by rw[show big=1000000 from rfl];lia,by rw[length_partsBetween,show big=1000000 from rfl];lia,by rw[show big=1000000 from rfl];lia⟩]
theorem JZ {y:Str}:∀ {ps:List Str} {p:Str} {c:Nat},p∈ps->c∈cd p->c∈cd (Str.join y ps)
 | [],p,c,h,_=>(nomatch h)
 | [q],p,c,h,hc=>by
  rw[List.mem_singleton.mp h] at hc
  exact hc
 | q::r::ps,p,c,h,hc=>by
  show c∈cd (q++y++Str.join y (r::ps))
  have e:cd (q++y++Str.join y (r::ps))=cd q++cd y++cd (Str.join y (r::ps)):=by
   show (q.cps++y.cps++(Str.join y (r::ps)).cps).toList=_
   simp only[Array.toList_append]
  rw[e]
  rcases List.mem_cons.mp h with z | z
  ·rw[z] at hc
   exact List.mem_append_left _ (List.mem_append_left _ hc)
  ·exact List.mem_append_right _ (JZ z hc)
theorem Eb {x y p:Str} (h:Asc x) (hp:p∈Txt.split x y):Asc p:=by
 have e:=PySem.StrLaws.join_split x y
 refine ⟨fun c hc=>h.1 c (by rw[<-e];exact JZ hp hc),?_⟩
 have e2:=Dt (y:=y) (Txt.split x y)
 rw[e] at e2
 have:p.length<=((Txt.split x y).map (·.length)).sum:=by
  have g:∀ (l:List Str),p∈l->p.length<=(l.map (·.length)).sum:=by
   intro l
   induction l with
   | nil=>intro z;cases z
   | cons q l ih=>
    intro z
    rw[List.map_cons,List.sum_cons]
    rcases List.mem_cons.mp z with z | z
    ·rw[z];lia
    ·have:=ih z
     lia
  exact g _ hp
 have:=h.2
 lia
def thB (w:Str):Bool:=match Txt.split w ":" with
 | [a,b]=>CB a && Bt b
 | _=>false
theorem HH {w:Str} (h:thB w=true):∃ t:Th,Wr t/\w=thS t:=by
 unfold thB at h
 split at h
 case h_2=>cases h
 rename_i a b e
 rw[Bool.and_eq_true] at h
 obtain ⟨k,hk,rfl⟩:=Iy h.1
 refine ⟨(k,b),⟨hk,KF h.2⟩,?_⟩
 have:=PySem.StrLaws.join_split w ":"
 rw[e] at this
 rw[JH]
 exact this.symm
theorem IR {t:Th} (h:Wr t):Txt.split (thS t) ":"=[Ay t.1,t.2]:=by
 rw[JH]
 refine (GT Jz (by decide +kernel) (by simp) fun p hp=>?_).1
 simp only[List.mem_cons,List.not_mem_nil,or_false] at hp
 rcases hp with rfl | rfl
 ·intro z
  rcases FQ z with z | z<;>lia
 ·intro z
  have:=h.2.2.2 _ z
  lia
theorem JA {t:Th} (h:Wr t):thB (thS t)=true:=by
 unfold thB
 rw[IR h]
 show (CB (Ay t.1) && Bt t.2)=true
 rw[Kq h.1,MQ h.2]
 rfl
theorem NY:(":":Str)=⟨#[58]⟩:=by decide +kernel
theorem Kc (w:Str):(58∉cd w/\SL.ptn w ":"=[w,Str.empty,Str.empty])\/∃ k g:Str,SL.ptn w ":"=[k,(":":Str),g]/\w=k++":"++g/\58∉cd k:=by
 rcases PySem.StrLaws.occ_head w ":" 1 (Nat.le_refl _) with ⟨h,hn⟩ | ⟨i,r,h,ha,hn⟩
 ·refine .inl ⟨fun z=>?_,by unfold SL.ptn;rw[h]⟩
  obtain ⟨k,hk⟩:=List.mem_iff_getElem?.mp z
  refine hn k ?_
  rw[NY]
  exact (PySem.StrLaws.subAt_one w 58 k).mpr hk
 ·refine .inr ⟨Builtin.Str.strSub w 0 i,Builtin.Str.strSub w (i+(":":Str).length) w.length,by unfold SL.ptn;rw[h],?_,?_⟩
  ·rw[PySem.StrLaws.sub_cat w ":" (Nat.zero_le i) ha,PySem.StrLaws.sub_whole]
  ·have hi:i<=w.length:=by have:=ha.1;lia
   exact PySem.StrLaws.part_free w 58 0 i hi fun k _ hk=>by rw[<-NY];exact hn k hk
theorem UN {c:Nat} {j:Str} {Γ:Gm}:DB Γ (.v (.str ⟨#[c]⟩)) (.v (.str j))=some (.bl (!decide (c∈cd j))):=by
 show some (D.bl (Builtin.Str.occurrences j ⟨#[c]⟩ 0 j.length 1).isEmpty)=_
 have:=congrArg (!·) (PySem.StrLaws.found_one j c)
 simp only[Bool.not_not] at this
 rw[this]
theorem LP {j:Str} {Γ:Gm}:∀ (cs:List Nat) (v:Option SV),A3 (AZ 0) (AE (mOp DB (AA 0) (mC (.str j)))) (AA 0) (cs.map fun c=>.str ⟨#[c]⟩) [v] Γ=some ((cs.filter fun c=>!decide (c∈cd j)).map fun c=>.str ⟨#[c]⟩,Γ)
 | [],_=>rfl
 | c::cs,v=>by
  have i:=LP (j:=j) (Γ:=Γ) cs (some (.v (.str ⟨#[c]⟩)))
  let T:DS:=⟨[some (.v (.str ⟨#[c]⟩))],Γ,Γ.length⟩
  have t:AE (mOp DB (AA 0) (mC (.str j))) T=some (!decide (c∈cd j),T):=Au (AS (x:=.v (.str ⟨#[c]⟩)) (y:=.v (.str j)) (s1:=T) (s2:=T) rfl rfl UN)
  rw[List.map_cons]
  show A3 _ _ _ (.str ⟨#[c]⟩::cs.map fun c=>.str ⟨#[c]⟩) _ _=_
  unfold A3
  rw[show AZ 0 (.str ⟨#[c]⟩) (⟨[v],Γ,Γ.length⟩:DS)=some T from rfl]
  simp only[Option.bind_some,t]
  by_cases z:c∈cd j
  ·rw[List.filter_cons_of_neg (by rw[decide_eq_true z];decide)]
   simp only[decide_eq_true z,Bool.not_true,Bool.false_eq_true,if_false]
   exact (if_pos rfl).trans i
  ·rw[List.filter_cons_of_pos (by rw[decide_eq_false z];rfl),List.map_cons]
   simp only[decide_eq_false z,Bool.not_false,if_true,show AA 0 T=some (.v (.str ⟨#[c]⟩),T) from rfl,Option.bind_some]
   rw[show A3 _ _ _ _ T.σ T.Γ=_ from i,if_pos rfl]
   rfl
theorem MZ {S:DS} {m:ME} {x j:Str} (h:m S=some (.v (.str x),S)) (ha:Asc x):AE (mOp Ap (AF (BN (Bi m) 1 [] (AZ 0) (AE (mOp DB (AA 0) (mC (.str j)))) (AA 0))) (AF (AX AC))) S=some (!((cd x).all fun c=>decide (c∈cd j)),S):=by
 have w:=A7 (CL (mi:=Bi m) (nt:=1) (ix:=[]) (s:=S) (s':=S) (Γ':=S.Γ) (Ig h ha) (IY ha) (LP (j:=j) (Γ:=S.Γ) (cd x) none))
 refine Au (AS (g:=Ap) w (y:=.v (.lst [])) (s2:=S) rfl ?_)
 have e:∀ cs:List Nat,(cs.filter fun c=>!decide (c∈cd j)).isEmpty=cs.all fun c=>decide (c∈cd j):=fun cs=>by
  induction cs with
  | nil=>rfl
  | cons c cs ih=>
   by_cases z:c∈cd j
   ·rw[List.filter_cons_of_neg (by rw[decide_eq_true z];decide),ih,List.all_cons,decide_eq_true z,Bool.true_and]
   ·rw[List.filter_cons_of_pos (by rw[decide_eq_false z];rfl),List.all_cons,decide_eq_false z]
    rfl
 rw[<-e (cd x)]
 cases (cd x).filter fun c=>!decide (c∈cd j) with
 | nil=>rfl
 | cons c cs=>rfl
theorem Qc:cd ("0123456789":Str)=[48,49,50,51,52,53,54,55,56,57]:=by decide +kernel
theorem PN:cd ("abcdefghijklmnopqrstuvwxyz":Str)=List.range' 97 26:=by decide +kernel
theorem PJ {c:Nat}:decide (c∈cd ("0123456789":Str))=(decide (48<=c) && decide (c<=57)):=by
 rw[Qc,<-Bool.decide_and]
 refine decide_eq_decide.mpr ?_
 simp only[List.mem_cons,List.not_mem_nil,or_false]
 omega
theorem RO {c:Nat}:decide (c∈cd ("abcdefghijklmnopqrstuvwxyz":Str))=(decide (97<=c) && decide (c<=122)):=by
 rw[PN,<-Bool.decide_and]
 refine decide_eq_decide.mpr ?_
 rw[List.mem_range'_1]
 lia
theorem C2:big=1000000:=rfl
theorem K6 {x:Str} {k:Nat}:cd (BH x none (some (k:Int)))=(cd x).take k:=by
 let p:Nat:=min k x.length
 have hp:p<=x.length:=Nat.min_le_right _ _
 have e0:Builtin.Str.strSliceIndices none (some (k:Int)) 1 x.length=Builtin.Str.strSliceIndices (some ((0:Nat):Int)) (some (p:Int)) 1 x.length:=by
  unfold Builtin.Str.strSliceIndices
  simp only[show ((1:Int) > 0)=True by simp,if_true,show ¬((k:Int)<0) by lia,show ¬((p:Int)<0) by lia,show ¬(((0:Nat):Int)<0) by lia,if_false]
  congr 1
  ·show max 0 (min (k:Int) x.length)=max 0 (min ((min k x.length:Nat):Int) x.length)
   lia
 have e1:=PySem.StrLaws.sliced_plain x (Nat.zero_le p) hp
 have e2:((cd x).drop 0).take (p - 0)=(cd x).take k:=by
  rw[List.drop_zero,Nat.sub_zero]
  by_cases c:k<=x.length
  ·rw[show p=k from Nat.min_eq_left c]
  ·rw[show p=x.length from Nat.min_eq_right (by lia),List.take_of_length_le (by rw[TXM.A4];exact Nat.le_refl _),List.take_of_length_le (by rw[TXM.A4];lia)]
 unfold BH
 rw[e0]
 split
 ·rename_i hl
  rw[PySem.StrLaws.strSliceIndices_plain (Nat.zero_le p) hp,List.length_map,List.length_range] at hl
  have hl:=beq_iff_eq.mp hl
  rw[List.take_of_length_le (by rw[TXM.A4];have:p<=k:=Nat.min_le_left _ _;lia)]
 ·show ((Builtin.Str.strSliceIndices (some ((0:Nat):Int)) (some (p:Int)) 1 x.length).filterMap (x.cps[·]?)).toArray.toList=_
  rw[List.toList_toArray,e1]
  exact e2
theorem NN {m:ME} {S:DS} {x:Str} {j:Int} {me:ME} (h:m S=some (.v (.str x),S)) (hj:BW (some me) S=some (some j,S)) (hl:x.length<=1000000):mSl m none (some me) S=some (.v (.str (BH x none (some j))),S):=by
 unfold mSl
 rw[h]
 show ((BW (some me) S).bind _)=_
 rw[hj]
 show ((if x.length<=big then some (D.str (BH x none (some j))) else none).map _)=_
 rw[if_pos (by rw[C2];exact hl)]
 rfl
theorem D5 {a b:MT} {S:DS} {p q:Bool} (h1:a S=some (p,S)) (h2:b S=some (q,S)):mOr a b S=some (p || q,S):=by
 unfold mOr
 rw[h1]
 cases p
 ·exact h2
 ·rfl
theorem GH {Γ:Gm} {i j:Int}:gGt Γ (.v (.int i)) (.v (.int j))=some (.bl (decide (j<i))):=rfl
theorem Rc {Γ:Gm} {i j:Int}:Cd Γ (.v (.int i)) (.v (.int j))=some (.bl (decide (i<j))):=rfl
def Bg:MD:=mFn 5 Hg
def A8 (k:Str):Str:=if Txt.startswith k "-"=true then BH k (some ((1:Nat):Int)) none else k
theorem Qd:Txt.startswith "" "-"=false:=by decide +kernel
theorem PQ {k:Str}:decide (BH k none (some ((1:Nat):Int))="-")=Txt.startswith k "-":=by
 have e:=K6 (x:=k) (k:=1)
 cases h:cd k with
 | nil=>
  have hk:k="":=CG (by rw[h];decide +kernel)
  rw[hk,Qd]
  decide +kernel
 | cons c r=>
  rw[Fx h]
  rw[h] at e
  by_cases z:c=45
  ·rw[z,decide_eq_true (CG (by rw[e,z,GS];rfl))]
   rfl
  ·rw[decide_eq_false (fun q=>by
    rw[q,GS] at e
    injection e with e _
    exact z e.symm)]
   symm
   simpa using z
def t4 (f:Str):Bool:=decide (f="") || (decide ((30:Int)<(f.length:Nat)) || !((cd f).all fun c=>decide (c∈cd ("0123456789":Str))))
def t5 (k f g:Str):Bool:=(decide ((1:Int)<(f.length:Nat)) && decide ((cd f).head?=some 48)) || (decide (k="-0") || (decide (((g.length:Nat):Int)<1) || decide ((8:Int)<(g.length:Nat))))
def t6 (g:Str):Bool:=!((cd g).all fun c=>decide (c∈cd ("abcdefghijklmnopqrstuvwxyz":Str)))
theorem Oj {f:Str} (h:f≠""):1<=f.length:=by
 rw[<-TXM.A4]
 cases e:cd f with
 | nil=>exact absurd (CG (by rw[e];decide +kernel)) h
 | cons a r=>simp
theorem Pa (k:Str):CB k=(!decide (k="-0") && Co (A8 k) 30):=by
 unfold CB A8
 split
 ·rfl
 ·rename_i h
  rw[decide_eq_false (fun z=>h (by rw[z];decide +kernel))]
  rfl
theorem Rj (f:Str):((cd f).all fun c=>decide (c∈cd ("0123456789":Str)))=(cd f).all fun c=>decide (48<=c) && decide (c<=57):=by
 congr 1
 funext c
 exact PJ
theorem RT (g:Str):((cd g).all fun c=>decide (c∈cd ("abcdefghijklmnopqrstuvwxyz":Str)))=(cd g).all fun c=>decide (97<=c) && decide (c<=122):=by
 congr 1
 funext c
 exact RO
theorem Rw {f:Str} (h1:1<=f.length):hdB f=!(decide ((1:Int)<(f.length:Nat)) && decide ((cd f).head?=some 48)):=by
 unfold hdB
 have hl:=TXM.A4 f
 by_cases h:(cd f).head?=some 48
 ·rw[decide_eq_true h,decide_eq_false (not_not_intro h),Bool.or_false,Bool.and_true]
  by_cases z:(1:Int)<(f.length:Nat)
  ·rw[decide_eq_true z,decide_eq_false (fun q=>by
    rw[q,show ("0":Str).length=1 by decide +kernel] at z
    lia)]
   rfl
  ·rw[decide_eq_false z]
   have hz:f="0":=by
    refine CG ?_
    cases e:cd f with
    | nil=>rw[e] at h;cases h
    | cons a r=>
     rw[e] at h hl
     cases h
     cases r with
     | nil=>exact (Dm 0).1.symm
     | cons b r=>simp at hl;lia
   rw[decide_eq_true hz]
   rfl
 ·rw[decide_eq_false h,decide_eq_true h,Bool.or_true,Bool.and_false]
  rfl
theorem Gr (k g:Str):(t4 (A8 k) || (t5 k (A8 k) g || t6 g))=!(CB k && Bt g):=by
 rw[Pa]
 unfold t4 t5 t6 Bt Co
 rw[Rj,RT]
 generalize A8 k=f
 by_cases hf:f=""
 ·rw[decide_eq_true hf,decide_eq_false (show ¬(1:Int)<=(f.length:Nat) by rw[hf,show ("":Str).length=0 by decide +kernel];lia)]
  simp
 ·have h1:=Oj hf
  rw[decide_eq_false hf,Rw h1,decide_eq_true (show (1:Int)<=(f.length:Nat) by lia)]
  have e1:decide ((30:Int)<(f.length:Nat))=!decide (((f.length:Nat):Int)<=(30:Nat)):=by rw[<-decide_not];exact decide_eq_decide.mpr (by lia)
  have e2:decide (((g.length:Nat):Int)<1)=!decide ((1:Int)<=(g.length:Nat)):=by rw[<-decide_not];exact decide_eq_decide.mpr (by lia)
  have e3:decide ((8:Int)<(g.length:Nat))=!decide (((g.length:Nat):Int)<=8):=by rw[<-decide_not];exact decide_eq_decide.mpr (by lia)
  rw[e1,e2,e3]
  generalize decide (((f.length:Nat):Int)<=(30:Nat))=b1
  generalize ((cd f).all fun c=>decide (48<=c) && decide (c<=57))=b2
  generalize (decide ((1:Int)<(f.length:Nat)) && decide ((cd f).head?=some 48))=b3
  generalize decide (k="-0")=b4
  generalize decide ((1:Int)<=(g.length:Nat))=b5
  generalize decide (((g.length:Nat):Int)<=8)=b6
  generalize ((cd g).all fun c=>decide (97<=c) && decide (c<=122))=b7
  cases b1<;>cases b2<;>cases b3<;>cases b4<;>cases b5<;>cases b6<;>cases b7<;>rfl
theorem L9 {a b:Int} (ha:Ky a) (hb:Ky b) (h:Ay a=Ay b):a=b:=by
 have e:=num_reads ha
 rw[h,num_reads hb] at e
 injection e with e
 exact e.symm
theorem Nc {w k m g:Str} {Γ:Gm} (hp:SL.ptn w ":"=[k,m,g]) (hw:w.length<=5000) (hk:Asc k) (hg:Asc g):∃ d,Bg [.v (.str w)] Γ=some (d,Γ)/\((t4 (A8 k) || (t5 k (A8 k) g || t6 g))=true->d=.non)/\((t4 (A8 k) || (t5 k (A8 k) g || t6 g))=false->∀ i,Ky i->k=Ay i->d=.tup [.int i,.str g]):=by
 have tk:Γ.take Γ.length=Γ:=List.take_length
 let S:Option SV->Option SV->Option SV->Option SV->DS:=fun a b c e=>⟨[some (.v (.str w)),a,b,c,e],Γ,Γ.length⟩
 let Kk:Option SV:=some (.v (.str k))
 let Mm:Option SV:=some (.v (.str m))
 let Gg:Option SV:=some (.v (.str g))
 have hkl:=hk.2
 have hgl:=hg.2
 have hfa:Asc (A8 k):=by unfold A8;split;exact Kt hk;exact hk
 have hfl:=hfa.2
 have g1:CY (Ds (AA 0) (mC (.str ":"))) (CU [1,2,3]) (S none none none none)=some (.nx (S Kk Mm Gg none)):=by
  unfold CY Ds
  show (((if ((":":Str).length == 0)=false/\w.length<=big then some (SV.v (D.tup ((SL.ptn w ":").map D.str)),S none none none none) else none)).bind _)=_
  rw[if_pos ⟨by decide +kernel,by rw[C2];lia⟩,hp]
  rfl
 have g2:AL 4 (AA 1) (S Kk Mm Gg none)=some (.nx (S Kk Mm Gg Kk)):=rfl
 let F:Option SV:=some (.v (.str (A8 k)))
 have c3:=Au (AS (g:=AR) (NN (m:=AA 1) (S:=S Kk Mm Gg Kk) (x:=k) (me:=mC (.int 1)) (j:=((1:Nat):Int)) rfl rfl (by lia)) (b:=mC (.str "-")) (y:=.v (.str "-")) (s2:=S Kk Mm Gg Kk) rfl Dq)
 rw[PQ] at c3
 have g3:mIf (AE (mOp AR (mSl (AA 1) none (some (mC (.int 1)))) (mC (.str "-")))) (AL 4 (mSl (AA 1) (some (mC (.int 1))) none)) AU (S Kk Mm Gg Kk)=some (.nx (S Kk Mm Gg F)):=by
  cases c:Txt.startswith k "-" with
  | true=>
   rw[c] at c3
   refine (A2 c3).trans ((An (GU (m:=AA 1) (S:=S Kk Mm Gg Kk) (x:=k) (a:=1) rfl (by lia))).trans ?_)
   show some (Out.nx (S Kk Mm Gg (some (.v (.str (BH k (some ((1:Nat):Int)) none))))))=some (.nx (S Kk Mm Gg (some (.v (.str (A8 k))))))
   unfold A8
   rw[if_pos c]
  | false=>
   rw[c] at c3
   refine (Aj c3).trans ?_
   show some (Out.nx (S Kk Mm Gg (some (.v (.str k)))))=some (.nx (S Kk Mm Gg (some (.v (.str (A8 k))))))
   unfold A8
   rw[if_neg (by rw[c];exact Bool.false_ne_true)]
 let T:DS:=S Kk Mm Gg F
 have wlf:=len_str (S:=T) (m:=AA 4) (x:=A8 k) rfl (by lia)
 have wlg:=len_str (S:=T) (m:=AA 3) (x:=g) rfl (by lia)
 have c4:=D5 (Au (AS (g:=AR) (a:=AA 4) (b:=mC (.str "")) (x:=.v (.str (A8 k))) (y:=.v (.str "")) (s:=T) (s1:=T) (s2:=T) rfl rfl Dq)) (D5 (Au (AS (g:=gGt) wlf (b:=mC (.int 30)) (y:=.v (.int 30)) (s2:=T) rfl GH)) (MZ (S:=T) (m:=AA 4) (x:=A8 k) (j:="0123456789") rfl hfa))
 have c6:=MZ (S:=T) (m:=AA 3) (x:=g) (j:="abcdefghijklmnopqrstuvwxyz") rfl hg
 have ca:t4 (A8 k)=false->Bw (AE (mOp gGt (AO Ag (AB (AA 4) AC)) (mC (.int 1)))) (AE (mOp AR (mOp gIx (AA 4) (mC (.int 0))) (mC (.str "0")))) T=some (decide ((1:Int)<((A8 k).length:Nat)) && decide ((cd (A8 k)).head?=some 48),T):=fun h4=>by
  unfold Bw
  rw[Au (AS (g:=gGt) wlf (b:=mC (.int 1)) (y:=.v (.int 1)) (s2:=T) rfl GH),Option.bind_some]
  by_cases z:(1:Int)<((A8 k).length:Nat)
  ·rw[decide_eq_true z,if_pos rfl,Bool.true_and]
   obtain ⟨a,r,e⟩:∃ a r,cd (A8 k)=a::r:=by
    have hcl:=TXM.A4 (A8 k)
    cases hcd:cd (A8 k) with
    | nil=>rw[hcd] at hcl;simp at hcl;lia
    | cons a r=>exact ⟨a,r,rfl⟩
   have e2:mOp gIx (AA 4) (mC (.int 0)) T=some (.v (.str ⟨#[a]⟩),T):=AS (x:=.v (.str (A8 k))) (y:=.v (.int 0)) (s1:=T) (s2:=T) rfl rfl (by
    show (if (A8 k).length<=big then (atI (A8 k).cps.toList 0).map fun c=>D.str ⟨#[c]⟩ else none)=_
    rw[if_pos (by rw[C2];lia),show (A8 k).cps.toList=a::r from e,show (0:Int)=((0:Nat):Int) from rfl,Cf (xs:=a::r) (j:=0) rfl]
    rfl)
   rw[Au (AS (g:=AR) e2 (b:=mC (.str "0")) (y:=.v (.str "0")) (s2:=T) rfl Dq)]
   congr 2
   rw[e,List.head?_cons]
   refine decide_eq_decide.mpr ⟨fun q=>?_,fun q=>?_⟩
   ·have:([a]:List Nat)=[48]:=by rw[<-(Dm 0).1,<-q]
    injection this with this _
    rw[this]
   ·injection q with q
    rw[q]
    decide +kernel
  ·rw[decide_eq_false z]
   rfl
 unfold Bg mFn Hg
 show ∃ d,(AG _ _ (S none none none none)).bind _=some (d,Γ)/\_
 rw[AM g1,AM g2,AM g3]
 have non:∀ (n:MS) (c:MT),c T=some (true,T)->(AG (mIf c (Aa (mC .non)) AU) n T)=some (.rt .non T):=fun n c h=>Ba ((A2 h).trans (BB (m:=mC .non) (d:=.non) (s':=T) rfl))
 cases h4:t4 (A8 k) with
 | true=>
  refine ⟨.non,?_,fun _=>rfl,fun z=>by rw[Bool.true_or] at z;cases z⟩
  rw[non _ _ (by rw[<-h4];exact c4)]
  show some (_,Γ.take Γ.length)=_
  rw[tk]
 | false=>
  have c4':mOr (AE (mOp AR (AA 4) (mC (.str "")))) (mOr (AE (mOp gGt (AO Ag (AB (AA 4) AC)) (mC (.int 30)))) (AE (mOp Ap (AF (BN (Bi (AA 4)) 1 [] (AZ 0) (AE (mOp DB (AA 0) (mC (.str "0123456789")))) (AA 0))) (AF (AX AC))))) T=some (false,T):=by rw[<-h4];exact c4
  rw[AM ((Aj c4').trans (show AU T=some (.nx T) from rfl))]
  have c5:=D5 (ca h4) (D5 (Au (AS (g:=AR) (a:=AA 1) (b:=mC (.str "-0")) (x:=.v (.str k)) (y:=.v (.str "-0")) (s:=T) (s1:=T) (s2:=T) rfl rfl Dq)) (D5 (Au (AS (g:=Cd) wlg (b:=mC (.int 1)) (y:=.v (.int 1)) (s2:=T) rfl Rc)) (Au (AS (g:=gGt) wlg (b:=mC (.int 8)) (y:=.v (.int 8)) (s2:=T) rfl GH))))
  cases h5:t5 k (A8 k) g with
  | true=>
   refine ⟨.non,?_,fun _=>rfl,fun z=>by rw[Bool.false_or,Bool.true_or] at z;cases z⟩
   rw[non _ _ (by rw[<-h5];exact c5)]
   show some (_,Γ.take Γ.length)=_
   rw[tk]
  | false=>
   rw[AM ((Aj (by rw[<-h5];exact c5)).trans (show AU T=some (.nx T) from rfl))]
   cases h6:t6 g with
   | true=>
    refine ⟨.non,?_,fun _=>rfl,fun z=>by simp at z⟩
    rw[non _ _ (by rw[<-h6];exact c6)]
    show some (_,Γ.take Γ.length)=_
    rw[tk]
   | false=>
    rw[AM ((Aj (by rw[<-h6];exact c6)).trans (show AU T=some (.nx T) from rfl))]
    have ht:=Gr k g
    rw[h4,h5,h6] at ht
    have hkt:(CB k && Bt g)=true:=by
     have:=congrArg (!·) ht
     simpa using this.symm
    rw[Bool.and_eq_true] at hkt
    obtain ⟨i,hi,rfl⟩:=Iy hkt.1
    have wi:AO Dr (AB (AA 1) AC) T=some (.v (.int i),T):=Br (x:=.v (.str (Ay i))) (s':=T) rfl (by
     show (if (Ay i).length<=640 then (PySem.intText? (Ay i)).map D.int else none)=_
     rw[if_pos (by have:=(EL hi).2;lia),num_reads hi]
     rfl)
    refine ⟨.tup [.int i,.str g],?_,fun z=>by simp at z,fun _ j hj e=>by rw[L9 hi hj e]⟩
    rw[BB (Io wi (n:=AA 3) (y:=.str g) (s2:=T) rfl)]
    show some (_,Γ.take Γ.length)=_
    rw[tk]
theorem Up {A B C E:List Nat} (h:A++58::B=C++58::E) (hA:58∉A) (hC:58∉C):A=C/\B=E:=by
 induction A generalizing C with
 | nil=>
  cases C with
  | nil=>injection h with _ h;exact ⟨rfl,h⟩
  | cons c C=>injection h with h _;exact absurd (by rw[<-h];exact List.mem_cons_self) hC
 | cons a A ih=>
  cases C with
  | nil=>injection h with h _;exact absurd (by rw[h];exact List.mem_cons_self) hA
  | cons c C=>
   injection h with h1 h2
   obtain ⟨e1,e2⟩:=ih h2 (fun z=>hA (List.mem_cons_of_mem _ z)) (fun z=>hC (List.mem_cons_of_mem _ z))
   exact ⟨by rw[h1,e1],e2⟩
theorem cd3 (k g:Str):cd (k++":"++g)=cd k++58::cd g:=by
 show (k.cps++(":":Str).cps++g.cps).toList=_
 rw[Array.toList_append,Array.toList_append,show (":":Str).cps.toList=[58] by decide +kernel,List.append_assoc]
 rfl
theorem Ui {w:Str} {Γ:Gm} (ha:Asc w):(∃ t:Th,Wr t/\w=thS t/\Bg [.v (.str w)] Γ=some (thD t,Γ))\/(thB w=false/\Bg [.v (.str w)] Γ=some (.non,Γ)):=by
 rcases Kc w with ⟨hc,hp⟩ | ⟨k,g,hp,hw,hk⟩
 ·have he:Asc Str.empty:=⟨fun c hc=>(nomatch hc),Nat.zero_le _⟩
  obtain ⟨d,e,h1,_⟩:=Nc (Γ:=Γ) hp ha.2 ha he
  have hn:thB w=false:=by
   cases h:thB w with
   | false=>rfl
   | true=>
    obtain ⟨t,ht,rfl⟩:=HH h
    exfalso
    apply hc
    unfold thS
    rw[cd3]
    exact List.mem_append_right _ List.mem_cons_self
  refine .inr ⟨hn,?_⟩
  rw[e,h1 (by rw[Gr,show Bt Str.empty=false by decide +kernel,Bool.and_false];rfl)]
 ·have hka:Asc k:=⟨fun c hc=>ha.1 c (by rw[hw,cd3];exact List.mem_append_left _ hc),by
   have:=ha.2
   rw[hw,Str.length_append,Str.length_append] at this
   lia⟩
  have hga:Asc g:=⟨fun c hc=>ha.1 c (by rw[hw,cd3];exact List.mem_append_right _ (List.mem_cons_of_mem _ hc)),by
   have:=ha.2
   rw[hw,Str.length_append,Str.length_append] at this
   lia⟩
  obtain ⟨d,e,h1,h2⟩:=Nc (Γ:=Γ) hp ha.2 hka hga
  cases hkt:(CB k && Bt g) with
  | true=>
   rw[Bool.and_eq_true] at hkt
   obtain ⟨i,hi,rfl⟩:=Iy hkt.1
   refine .inl ⟨(i,g),⟨hi,KF hkt.2⟩,hw,?_⟩
   rw[e,h2 (by rw[Gr,hkt.1,hkt.2];rfl) i hi rfl]
   rfl
  | false=>
   refine .inr ⟨?_,by rw[e,h1 (by rw[Gr,hkt];rfl)]⟩
   cases h:thB w with
   | false=>rfl
   | true=>
    obtain ⟨t,ht,ew⟩:=HH h
    exfalso
    have e3:=congrArg cd (hw.symm.trans ew)
    unfold thS at e3
    rw[cd3,cd3] at e3
    obtain ⟨a1,a2⟩:=Up e3 hk (fun z=>by rcases FQ z with z | z<;>lia)
    rw[CG a1,CG a2,Kq ht.1,MQ ht.2] at hkt
    cases hkt
def BZ (p:Str):Bool:=decide (p="-") || (Txt.split p ", ").all thB
theorem words_of:∀ (ws:List Str),ws.all thB=true->∃ r:List Th,ws=r.map thS/\∀ t∈r,Wr t
 | [],_=>⟨[],rfl,fun t h=>(nomatch h)⟩
 | w::ws,h=>by
  rw[List.all_cons,Bool.and_eq_true] at h
  obtain ⟨t,ht,rfl⟩:=HH h.1
  obtain ⟨r,e,hr⟩:=words_of ws h.2
  exact ⟨t::r,by rw[e];rfl,fun x hx=>by
   rcases List.mem_cons.mp hx with z | z
   ·rw[z];exact ht
   ·exact hr x z⟩
theorem LC {p:Str} (ha:Asc p) (h:BZ p=true):∃ r:List Th,p=Ab r/\r.length<=1000/\∀ t∈r,Wr t:=by
 unfold BZ at h
 rw[Bool.or_eq_true,decide_eq_true_eq] at h
 by_cases c:p="-"
 ·exact ⟨[],by rw[c];unfold Ab;rw[if_pos rfl],Nat.zero_le _,fun t h=>(nomatch h)⟩
 ·obtain ⟨r,e,hr⟩:=words_of _ (h.resolve_left c)
  have ej:=PySem.StrLaws.join_split p ", "
  rw[e] at ej
  have hne:r≠[]:=fun z=>by
   rw[z] at ej
   have hp:p="":=ej.symm
   rw[hp,z] at e
   exact absurd e (by decide +kernel)
  refine ⟨r,by unfold Ab;rw[if_neg hne];exact ej.symm,?_,hr⟩
  have hs:=Dt (y:=", ") (r.map thS)
  rw[ej,List.length_map,show (", ":Str).length=2 by decide +kernel] at hs
  have h3:∀ l:List Th,(∀ t∈l,Wr t)->3 * l.length<=((l.map thS).map (·.length)).sum:=by
   intro l
   induction l with
   | nil=>intro _;exact Nat.le_refl _
   | cons t l ih=>
    intro hl
    have a1:=(Ec (hl t List.mem_cons_self)).1
    have a2:=ih fun x hx=>hl x (List.mem_cons_of_mem _ hx)
    rw[List.map_cons,List.map_cons,List.sum_cons,List.length_cons]
    lia
  have:=h3 r hr
  have:=ha.2
  lia
theorem N0 {Γ:Gm}:∀ (ws:List Str) (v:Option SV),(∀ w∈ws,Asc w)->∃ ds,A3 (AZ 0) mTT (AK Bg (AB (AA 0) AC)) (ws.map .str) [v] Γ=some (ds,Γ)/\(∀ d∈ds,d=.non\/∃ t:Th,Wr t/\d=thD t)/\(ws.all thB=false->D.non∈ds)/\(∀ r:List Th,(∀ t∈r,Wr t)->ws=r.map thS->ds=r.map thD)
 | [],v,_=>⟨[],rfl,fun d h=>(nomatch h),fun z=>(nomatch z),fun r _ e=>by
   cases r with
   | nil=>rfl
   | cons t r=>cases e⟩
 | w::ws,v,h=>by
  let T:DS:=⟨[some (.v (.str w))],Γ,Γ.length⟩
  obtain ⟨ds,e,h1,h2,h3⟩:=N0 (Γ:=Γ) ws (some (.v (.str w))) fun x hx=>h x (List.mem_cons_of_mem _ hx)
  have step:∀ d,Bg [.v (.str w)] Γ=some (d,Γ)->A3 (AZ 0) mTT (AK Bg (AB (AA 0) AC)) ((w::ws).map .str) [v] Γ=some (d::ds,Γ):=fun d hd=>by
   have wf:AK Bg (AB (AA 0) AC) T=some (.v d,T):=B5 (x:=.v (.str w)) (s':=T) rfl hd
   rw[List.map_cons]
   unfold A3
   rw[show AZ 0 (.str w) (⟨[v],Γ,Γ.length⟩:DS)=some T from rfl]
   simp only[Option.bind_some,mTT,if_true,wf]
   rw[show A3 _ _ _ _ T.σ T.Γ=_ from e,if_pos rfl]
   rfl
  rcases Ui (Γ:=Γ) (h w List.mem_cons_self) with ⟨t,ht,ew,hd⟩ | ⟨hb,hd⟩
  ·refine ⟨thD t::ds,step _ hd,fun d hd'=>?_,fun z=>?_,fun r hr er=>?_⟩
   ·rcases List.mem_cons.mp hd' with z | z
    ·exact .inr ⟨t,ht,z⟩
    ·exact h1 d z
   ·rw[List.all_cons,ew,JA ht,Bool.true_and] at z
    exact List.mem_cons_of_mem _ (h2 z)
   ·cases r with
    | nil=>cases er
    | cons t' r=>
     injection er with e1 e2
     have h':=hr t' List.mem_cons_self
     have:thD t=thD t':=by
      rw[ew] at e1
      have a:=IR ht
      rw[e1,IR h'] at a
      injection a with a1 a2
      injection a2 with a2 _
      unfold thD
      rw[L9 h'.1 ht.1 a1,a2]
     rw[this,h3 r (fun x hx=>hr x (List.mem_cons_of_mem _ hx)) e2]
     rfl
  ·refine ⟨.non::ds,step _ hd,fun d hd'=>?_,fun _=>List.mem_cons_self,fun r hr er=>?_⟩
   ·rcases List.mem_cons.mp hd' with z | z
    ·exact .inl z
    ·exact h1 d z
   ·cases r with
    | nil=>cases er
    | cons t' r=>
     injection er with e1 e2
     rw[e1,JA (hr t' List.mem_cons_self)] at hb
     cases hb
open Classical in
theorem VU {Γ:Gm} {ds:List D} (h:∀ d∈ds,d=.non\/∃ t:Th,Wr t/\d=thD t):EC Γ (.v .non) (.v (.lst ds))=some (.bl (decide (D.non∈ds))):=by
 have s1:A1 6 (.lst ds)=true:=by
  show ds.all (A1 5)=true
  rw[List.all_eq_true]
  intro d hd
  rcases h d hd with rfl | ⟨t,ht,rfl⟩
  ·rfl
  ·exact VA ht.2 4
 have e:(ds.any fun y=>deq y .non)=decide (D.non∈ds):=by
  rw[Bool.eq_iff_iff,List.any_eq_true,decide_eq_true_iff]
  refine ⟨fun hh_=>?_,fun z=>⟨.non,z,by unfold deq;simp[toP,PyData.eqv]⟩⟩
  obtain ⟨x,hx,q⟩:=hh_
  rcases h x hx with rfl | ⟨t,ht,rfl⟩
  ·exact hx
  ·unfold deq thD at q
   simp[toP,Ae,PyData.eqv] at q
 show (E8 Γ (.v .non) (.v (.lst ds))).map _=_
 unfold E8
 show ((if (A1 6 .non && A1 6 (.lst ds))=true then some (ds.any fun y=>deq y .non) else none).map _)=_
 rw[s1,e]
 rfl
end DL
namespace DL
open PySem L2 TXM
theorem Di:big=1000000:=rfl
abbrev DkL (l:List Int):Prop:=∀ x∈l,0<=x/\x<2 ^ 30
def Dk (Γ:Gm) (n:Nat):Prop:=∃ l:List Int,Γ[n]?=some (some (l.map .int))/\DkL l
def Dd (n:Nat) (Γ Γ':Gm):Prop:=∃ l:List Int,Γ'=Γ.set n (some (l.map .int))/\DkL l
theorem Dk.lt {Γ:Gm} {n:Nat} (h:Dk Γ n):n<Γ.length:=by
 obtain ⟨l,e,_⟩:=h
 exact (List.getElem?_eq_some_iff.mp e).1
theorem Dd.dk {Γ Γ':Gm} {n:Nat} (p:Dk Γ n) (h:Dd n Γ Γ'):Dk Γ' n:=by
 obtain ⟨l,rfl,hl⟩:=h
 exact ⟨l,by rw[List.getElem?_set_self p.lt],hl⟩
theorem Dd.trans {Γ Γ' Γ'':Gm} {n:Nat} (a:Dd n Γ Γ') (b:Dd n Γ' Γ''):Dd n Γ Γ'':=by
 obtain ⟨l,rfl,_⟩:=a
 obtain ⟨l',rfl,h⟩:=b
 exact ⟨l',by rw[List.set_set],h⟩
theorem Dd.refl {Γ:Gm} {n:Nat} (p:Dk Γ n):Dd n Γ Γ:=by
 obtain ⟨l,e,hl⟩:=p
 refine ⟨l,?_,hl⟩
 obtain ⟨h,e⟩:=List.getElem?_eq_some_iff.mp e
 rw[<-e,List.set_getElem_self]
theorem Dd.len {Γ Γ':Gm} {n:Nat} (a:Dd n Γ Γ'):Γ'.length=Γ.length:=by
 obtain ⟨l,rfl,_⟩:=a
 rw[List.length_set]
theorem Dd.out {Γ Γ':Gm} {n m:Nat} (a:Dd n Γ Γ') (h:m≠n):Γ'[m]?=Γ[m]?:=by
 obtain ⟨l,rfl,_⟩:=a
 rw[List.getElem?_set_ne (Ne.symm h)]
def EY:MD:=mFn 2 Gx
theorem Q4 {Γ:Gm} {ns:List Int} {k:Nat}:∃ c:Int,EY [.v (.scr ns),.v (.int k)] Γ=some (.int c,Γ):=by
 have tk:Γ.take Γ.length=Γ:=List.take_length
 by_cases h:k<ns.length
 ·have e:atI ns (k:Int)=some ns[k]:=Cf (List.getElem?_eq_getElem h)
  exact ⟨ns[k],by simp[EY,Gx,h,e,tk]⟩
 ·exact ⟨0,by simp[EY,Gx,h,tk]⟩
def BC:MD:=mFn 2 GB
theorem Cg {Γ:Gm} {n:Nat} {m:Int} (p:Dk Γ n) (hm:0<m):∃ r Γ',BC [.b n,.v (.int m)] Γ=some (.int r,Γ')/\0<=r/\r<m/\Dd n Γ Γ':=by
 have hn:=p.lt
 have p':=p
 obtain ⟨l,e,hl⟩:=p
 have b0:(0:Nat)<=big:=Nat.zero_le _
 have bm:∀ x:Int,FZ x m=true:=fun x=>decide_eq_true hm
 have tk:Γ.take Γ.length=Γ:=List.take_length
 rcases List.eq_nil_or_concat l with rfl | ⟨l',x,rfl⟩
 ·refine ⟨0,Γ,?_,by decide,hm,Dd.refl p'⟩
  simp[BC,GB,e,b0,tk]
 ·rw[List.concat_eq_append] at e hl
  refine ⟨x % m,Γ.set n (some (l'.map .int)),?_,Int.emod_nonneg _ (by lia),Int.emod_lt_of_pos _ hm,l',rfl,fun y hy=>hl y (by simp[hy])⟩
  have tk2:(Γ.set n (some (l'.map .int))).take Γ.length=Γ.set n (some (l'.map .int)):=List.take_of_length_le (by rw[List.length_set];exact Nat.le_refl _)
  rw[List.map_append] at e
  have e':Γ[n]?=some (some (l'.map .int++[.int x])):=e
  have ne:l'.map D.int++[D.int x]≠[]:=by simp
  simp[BC,GB,e',b0,tk2,bm]
theorem HR {i n:Nat} {me:ME} {s s':DS} {d:D} {xs ys:List D} (h1:s.σ[i]?=some (some (.b n))) (h2:s.Γ[n]?=some (some ys)) (h3:me s=some (.v d,s')) (h4:s'.Γ[n]?=some (some xs)) (hl:xs.length<big):Dn (DJ (AA i) me) s=some (.nx {s' with Γ:=s'.Γ.set n (some (xs++[d]))}):=by
 unfold Dn DJ AA
 rw[h1]
 simp only[Option.bind_some]
 rw[h2]
 simp only[]
 rw[h3]
 simp only[Option.bind_some]
 rw[h4]
 simp only[]
 rw[if_pos hl]
 rfl
theorem Fc {mi:MF} {g:MG} {b:MS} {s s':DS} {items:List D} {o:Option Out} (h:mi s=some (items,s')) (e:B8 g b items s'=o):C5 mi g b s=o:=by
 unfold C5
 rw[h]
 exact e
theorem VH {c:ME} {s s':DS} {j:Int} (h:c s=some (.v (.int j),s')) (hr:okR j=true):B3 (AB c AC) s=some (upTo 0 j.toNat,s'):=by simp[h,hr]
theorem EV {c:ME} {s s':DS} {p:Nat} (h:c s=some (.v (.int p),s')) (hb:p<=1000000):B3 (AB c AC) s=some (upTo 0 p,s'):=VH h (J5 (by lia) (by lia))
theorem Cb {a:ME} {S S':DS} {i m:Int} (h:a S=some (.v (.int i),S')) (hm:0<m):mOp BD a (mC (.int m)) S=some (.v (.int (i % m)),S'):=AS h (y:=.v (.int m)) (s2:=S') rfl (by simp[show FZ i m=true from decide_eq_true hm])
theorem El {a:ME} {S S':DS} {i m:Int} (h:a S=some (.v (.int i),S')) (hm:0<m) (h2:m<1000000):mOp CA a (mC (.int m)) S=some (.v (.int (i / m)),S'):=AS h (y:=.v (.int m)) (s2:=S') rfl (by simp[show Nn i m=true from decide_eq_true ⟨hm,by lia⟩])
theorem DD {a b:ME} {S S1 S2:DS} {i j:Int} (h:a S=some (.v (.int i),S1)) (h2:b S1=some (.v (.int j),S2)) (hj:(-1000000000000<i/\i<1000000000000)\/(-1000000000000<j/\j<1000000000000)):mOp Bf a b S=some (.v (.int (i * j)),S2):=AS h h2 (by
 simp[show IV i j=true from decide_eq_true (by
  rcases hj with hj | hj
  ·exact .inl ⟨by lia,by lia⟩
  ·exact .inr ⟨by lia,by lia⟩)])
theorem B1 {a b:ME} {S S1 S2:DS} {i j:Int} (h:a S=some (.v (.int i),S1)) (h2:b S1=some (.v (.int j),S2)):mOp AV a b S=some (.v (.int (i+j)),S2):=AS h h2 rfl
theorem FY {a b:ME} {S S1 S2:DS} {i j:Int} (h:a S=some (.v (.int i),S1)) (h2:b S1=some (.v (.int j),S2)):mOp Df a b S=some (.v (.int (i - j)),S2):=AS h h2 rfl
def ER:MDF:=Bd 7 JC
theorem NP {Γ:Gm} {c:Int} {m:Nat} (hm:m<=1000):∃ l:List Int,ER [.v (.int c),.v (.int (m:Int))] Γ=some (l.map .int,Γ)/\DkL l:=by
 let A:Option SV:=some (.v (.int c))
 let B:Option SV:=some (.v (.int (m:Int)))
 let S0:DS:=⟨[A,B,none,none,none,none,none],Γ,Γ.length⟩
 let S:List Int->Int->Int->Option SV->Option SV->DS:=fun l r t u v=>⟨[A,B,some (.b Γ.length),some (.v (.int r)),some (.v (.int t)),u,v],Γ++[some (l.map .int)],Γ.length⟩
 have g1:BJ 2 (AX AC) S0=some (.nx ⟨[A,B,some (.b Γ.length),none,none,none,none],Γ++[some []],Γ.length⟩):=by simp[S0,show (0:Nat)<=big from Nat.zero_le _]
 have g2:AL 3 (AA 0) (⟨[A,B,some (.b Γ.length),none,none,none,none],Γ++[some []],Γ.length⟩:DS)=some (.nx ⟨[A,B,some (.b Γ.length),A,none,none,none],Γ++[some []],Γ.length⟩):=rfl
 have g3:AL 4 (mOp BD (AA 0) (mC (.int 2147483647))) (⟨[A,B,some (.b Γ.length),A,none,none,none],Γ++[some []],Γ.length⟩:DS)=some (.nx (S [] c (c % 2147483647) none none)):=An (Cb (S':=⟨[A,B,some (.b Γ.length),A,none,none,none],Γ++[some []],Γ.length⟩) (i:=c) rfl (by decide))
 have t0:=Int.emod_nonneg c (show (2147483647:Int)≠0 by decide)
 have t1:=Int.emod_lt_of_pos c (show (0:Int)<2147483647 by decide)
 obtain ⟨s',e4,l,r,t,u,v,rfl,hl,hlen,_,_⟩:=GP (g:=AZ 5) (b:=Np) (items:=upTo 0 m) (fun i s=>∃ l r t u v,s=S l r t u v/\DkL l/\l.length=i/\0<=t/\t<2147483647) (by
   rintro i d st hd ⟨l,r,t,u,v,rfl,hl,hlen,ht0,ht1⟩
   obtain ⟨hi,rfl⟩:=Eg hd
   have hb:(l.map D.int).length<big:=by rw[List.length_map,hlen,Di];lia
   let T:DS:=S l r t (some (.v (.int (0+(i:Int))))) v
   have wp:mOp Dl (mC (.int 10)) (mC (.int 18)) T=some (.v (.int 1000000000000000000),T):=AS (x:=.v (.int 10)) (y:=.v (.int 18)) (s1:=T) (s2:=T) rfl rfl (by simp[show He 10 18=true from rfl])
   have wc:AE (mOp gGe (AA 0) (mOp Dl (mC (.int 10)) (mC (.int 18)))) T=some (decide (1000000000000000000<=c),T):=Au (AS (x:=.v (.int c)) (s1:=T) rfl wp rfl)
   have wr:AE (mOp gGt (AA 3) (mC (.int 0))) T=some (decide (0<r),T):=Au (AS (x:=.v (.int r)) (y:=.v (.int 0)) (s1:=T) (s2:=T) rfl rfl rfl)
   have wt:Bw (AE (mOp gGe (AA 0) (mOp Dl (mC (.int 10)) (mC (.int 18))))) (AE (mOp gGt (AA 3) (mC (.int 0)))) T=some (decide (1000000000000000000<=c) && decide (0<r),T):=by
    unfold Bw
    rw[wc]
    by_cases z:(1000000000000000000:Int)<=c
    ·rw[decide_eq_true z,Option.bind_some,if_pos rfl,wr,Bool.true_and]
    ·rw[decide_eq_false z]
     rfl
   cases hz:(decide (1000000000000000000<=c) && decide (0<r)) with
   | true=>
    rw[hz] at wt
    have q1:=HR (i:=2) (n:=Γ.length) (s:=T) (s':=T) rfl B2 (Cb (S:=T) (S':=T) (a:=AA 3) (i:=r) rfl (show (0:Int)<64 by decide)) B2 hb
    let T2:DS:=⟨T.σ,(T.Γ).set Γ.length (some (l.map D.int++[D.int (r % 64)])),T.lo⟩
    have q2:=An (i:=3) (El (S:=T2) (S':=T2) (a:=AA 3) (i:=r) rfl (show (0:Int)<64 by decide) (by decide))
    have h0:=Int.emod_nonneg r (show (64:Int)≠0 by decide)
    have h1:=Int.emod_lt_of_pos r (show (0:Int)<64 by decide)
    refine ⟨T,_,rfl,(A2 wt).trans ((AM q1).trans q2),l++[r % 64],r / 64,t,some (.v (.int (0+(i:Int)))),v,?_,fun x hx=>?_,by rw[List.length_append,hlen];rfl,ht0,ht1⟩
    ·show (⟨_,(Γ++[_]).set Γ.length _,_⟩:DS)=_
     rw[Er]
     simp only[S,List.map_append]
     rfl
    ·rcases List.mem_append.mp hx with hx | hx
     ·exact hl x hx
     ·rw[List.mem_singleton.mp hx]
      exact ⟨h0,by lia⟩
   | false=>
    rw[hz] at wt
    let i':Int:=0+(i:Int)
    have w1:=DD (S:=T) (a:=mC (.int 7)) (b:=AA 5) (i:=7) (j:=i') (S1:=T) (S2:=T) rfl rfl (.inl ⟨by decide,by decide⟩)
    have w2:=B1 (a:=AA 4) (i:=t) (S:=T) (S1:=T) rfl w1
    have w3:=B1 (b:=mC (.int 3)) (j:=3) w2 (S2:=T) rfl
    have w4:=DD (b:=mC (.int 48271)) (j:=48271) w3 (S2:=T) rfl (.inr ⟨by decide,by decide⟩)
    have w5:=Cb w4 (show (0:Int)<2147483647 by decide)
    let t':Int:=(t+7 * i'+3) * 48271 % 2147483647
    have a0:0<=t':=Int.emod_nonneg _ (by decide)
    have a1:t'<2147483647:=Int.emod_lt_of_pos _ (by decide)
    let T2:DS:=S l r t' (some (.v (.int i'))) v
    have q1:AL 4 (mOp BD (mOp Bf (mOp AV (mOp AV (AA 4) (mOp Bf (mC (.int 7)) (AA 5))) (mC (.int 3))) (mC (.int 48271))) (mC (.int 2147483647))) T=some (.nx T2):=An w5
    have x1:=DD (S:=T2) (a:=AA 4) (b:=AA 4) (i:=t') (j:=t') (S1:=T2) (S2:=T2) rfl rfl (.inl ⟨by lia,by lia⟩)
    have x2:=Cb x1 (show (0:Int)<2147483629 by decide)
    have x3:=DD (b:=mC (.int 69621)) (j:=69621) x2 (S2:=T2) rfl (.inr ⟨by decide,by decide⟩)
    have x4:=Cb x3 (show (0:Int)<2147483587 by decide)
    let g:Int:=t' * t' % 2147483629 * 69621 % 2147483587
    let T3:DS:=S l r t' (some (.v (.int i'))) (some (.v (.int g)))
    have q2:AL 6 (mOp BD (mOp Bf (mOp BD (mOp Bf (AA 4) (AA 4)) (mC (.int 2147483629))) (mC (.int 69621))) (mC (.int 2147483587))) T2=some (.nx T3):=An x4
    have y1:=El (S:=T3) (S':=T3) (a:=AA 6) (i:=g) rfl (show (0:Int)<8 by decide) (by decide)
    have y2:=Cb y1 (show (0:Int)<720720 by decide)
    have q3:=HR (i:=2) (n:=Γ.length) (s:=T3) (s':=T3) rfl B2 y2 B2 hb
    have h0:=Int.emod_nonneg (g / 8) (show (720720:Int)≠0 by decide)
    have h1:=Int.emod_lt_of_pos (g / 8) (show (0:Int)<720720 by decide)
    refine ⟨T,_,rfl,(Aj wt).trans ((AM q1).trans ((AM q2).trans q3)),l++[g / 8 % 720720],r,t',some (.v (.int i')),some (.v (.int g)),?_,fun x hx=>?_,by rw[List.length_append,hlen];rfl,a0,a1⟩
    ·show (⟨_,(Γ++[_]).set Γ.length _,_⟩:DS)=_
     rw[Er]
     simp only[S,List.map_append]
     rfl
    ·rcases List.mem_append.mp hx with hx | hx
     ·exact hl x hx
     ·rw[List.mem_singleton.mp hx]
      exact ⟨h0,by lia⟩)
  (s:=S [] c (c % 2147483647) none none) ⟨[],c,_,none,none,rfl,(fun x h=>nomatch h),rfl,t0,t1⟩
 have g4:=Fc (mi:=B3 (AB (AA 1) AC)) (s:=S [] c (c % 2147483647) none none) (s':=S [] c (c % 2147483647) none none) (EV (c:=AA 1) (p:=m) rfl (by lia)) e4
 refine ⟨l,?_,hl⟩
 unfold ER Bd JC
 show ((AG _ _ S0).bind _)=_
 rw[(AM g1).trans ((AM g2).trans ((AM g3).trans (AM g4)))]
 simp[S]
def Hb:MDF:=Bd 2 (HA ER)
theorem Q2 {Mn:MDF} (F:∀ {Γ:Gm} {c:Int} {m:Nat},m<=1000->∃ l:List Int,Mn [.v (.int c),.v (.int (m:Int))] Γ=some (l.map .int,Γ)/\DkL l) {Γ:Gm} {c:Int} {m:Nat} (hm:m<=1000):∃ l:List Int,Bd 2 (HA Mn) [.v (.int c),.v (.int (m:Int))] Γ=some (l.map .int,Γ)/\DkL l:=by
 obtain ⟨l,e,hl⟩:=F (Γ:=Γ) (c:=c) hm
 refine ⟨l.reverse,?_,fun x hx=>hl x (List.mem_reverse.mp hx)⟩
 have tk:Γ.take Γ.length=Γ:=List.take_length
 let S:DS:=⟨[some (.v (.int c)),some (.v (.int (m:Int)))],Γ,Γ.length⟩
 have w:BG Mn (AB (AA 0) (AB (AA 1) AC)) S=some (l.map .int,S):=by
  unfold BG AB AC
  show ((Mn [.v (.int c),.v (.int (m:Int))] Γ).map _)=_
  rw[e]
  rfl
 unfold Bd HA
 show ((Bn _ S).bind _)=_
 have w2:GC (AF (BG Mn (AB (AA 0) (AB (AA 1) AC)))) S=some ((l.map D.int).reverse,S):=by
  unfold GC
  rw[A7 w]
  rfl
 unfold Bn
 rw[w2,List.map_reverse]
 show some (_,Γ.take Γ.length)=_
 rw[tk]
theorem Pf {Γ:Gm} {c:Int} {m:Nat} (hm:m<=1000):∃ l:List Int,Hb [.v (.int c),.v (.int (m:Int))] Γ=some (l.map .int,Γ)/\DkL l:=Q2 NP hm
end DL
namespace DL
open PySem L2 Ev TXM
def Ew:MD:=mFn 5 (Jm Bg)
theorem Pm {r:List Th} (h:∀ t∈r,Wr t):BZ (Ab r)=true:=by
 unfold BZ Ab
 cases r with
 | nil=>rw[if_pos rfl];rfl
 | cons t r=>
  rw[if_neg (fun z=>nomatch z)]
  have e:=(GT (y:=", ") ET (by decide +kernel) (ps:=(t::r).map thS) (by simp) fun p hp=>by
   obtain ⟨u,hu,rfl⟩:=List.mem_map.mp hp
   intro z
   rcases HM (h u hu) z with z | z | z<;>lia).1
  rw[e,show ((t::r).map thS).all thB=true from List.all_eq_true.mpr fun x hx=>by
   obtain ⟨u,hu,rfl⟩:=List.mem_map.mp hx
   exact JA (h u hu),Bool.or_true]
open Classical in
theorem U0 {x p:Str} {v1 v4:Option SV} {R:List (List Th)} {Γ:Gm} (ha:Asc p) (hR:R.length<=1000) :
  (∃ r:List Th,p=Ab r/\r.length<=1000/\(∀ t∈r,Wr t)/\∃ u,Cm Bg ⟨[some (.v (.str x)),v1,some (.b Γ.length),some (.v (.str p)),v4],Γ++[some (R.map Ad)],Γ.length⟩=some (.nx ⟨[some (.v (.str x)),v1,some (.b Γ.length),some (.v (.str p)),u],Γ++[some ((R++[r]).map Ad)],Γ.length⟩)) \/
  (BZ p=false/\∃ u,Cm Bg ⟨[some (.v (.str x)),v1,some (.b Γ.length),some (.v (.str p)),v4],Γ++[some (R.map Ad)],Γ.length⟩=some (.rt .non ⟨[some (.v (.str x)),v1,some (.b Γ.length),some (.v (.str p)),u],Γ++[some (R.map Ad)],Γ.length⟩)):=by
 let G:Gm:=Γ++[some (R.map Ad)]
 let S:Option SV->DS:=fun u=>⟨[some (.v (.str x)),v1,some (.b Γ.length),some (.v (.str p)),u],G,Γ.length⟩
 let E:Option SV:=some (.v (.lst []))
 have hl:=ha.2
 have g1:AL 4 (AF (AX AC)) (S v4)=some (.nx (S E)):=rfl
 have t2:AE (mOp Ap (AA 3) (mC (.str "-"))) (S E)=some (!decide (p="-"),S E):=Au (AS (x:=.v (.str p)) (y:=.v (.str "-")) (s1:=S E) (s2:=S E) rfl rfl str_ne)
 have tail:∀ ds:List D,(∀ d∈ds,d=.non\/∃ t:Th,Wr t/\d=thD t)->AE (mOp EC (mC .non) (AA 4)) (S (some (.v (.lst ds))))=some (decide (D.non∈ds),S (some (.v (.lst ds)))):=fun ds h=>Au (AS (x:=.v .non) (y:=.v (.lst ds)) (s1:=S (some (.v (.lst ds)))) (s2:=S (some (.v (.lst ds)))) rfl rfl (VU h))
 have good:∀ r:List Th,(∀ t∈r,Wr t)->(AG (mIf (AE (mOp EC (mC .non) (AA 4))) (Aa (mC .non)) AU) (Dn (DJ (AA 2) (AA 4)))) (S (some (.v (Ad r))))=some (.nx ⟨[some (.v (.str x)),v1,some (.b Γ.length),some (.v (.str p)),some (.v (Ad r))],Γ++[some ((R++[r]).map Ad)],Γ.length⟩):=fun r hr=>by
  have t:AE (mOp EC (mC .non) (AA 4)) (S (some (.v (Ad r))))=some (decide (D.non∈r.map thD),S (some (.v (Ad r)))):=tail (r.map thD) (fun d hd=>by
   obtain ⟨t,ht,rfl⟩:=List.mem_map.mp hd
   exact .inr ⟨t,hr t ht,rfl⟩)
  rw[decide_eq_false (fun z=>by
   obtain ⟨t,_,e⟩:=List.mem_map.mp z
   unfold thD at e
   cases e)] at t
  rw[AM ((Aj t).trans (show AU (S (some (.v (Ad r))))=some (.nx (S (some (.v (Ad r))))) from rfl))]
  refine (HR (i:=2) (n:=Γ.length) (me:=AA 4) (s:=S (some (.v (Ad r)))) (s':=S (some (.v (Ad r)))) (d:=Ad r) rfl B2 rfl B2 (by rw[List.length_map,show big=1000000 from rfl];lia)).trans ?_
  show some (Out.nx ⟨_,(Γ++[some (R.map Ad)]).set Γ.length (some (R.map Ad++[Ad r])),_⟩)=_
  rw[Er,List.map_append]
  rfl
 unfold Cm
 rw[AM g1]
 by_cases c:p="-"
 ·rw[decide_eq_true c] at t2
  rw[AM ((Aj t2).trans (show AU (S E)=some (.nx (S E)) from rfl))]
  exact .inl ⟨[],by rw[c];unfold Ab;rw[if_pos rfl],Nat.zero_le _,fun t h=>(nomatch h),_,good [] fun t h=>(nomatch h)⟩
 ·rw[decide_eq_false c] at t2
  have ws:=Do (S:=S E) (m:=AA 3) (x:=p) (y:=", ") rfl hl (by decide +kernel)
  obtain ⟨ds,e,h1,h2,h3⟩:=N0 (Γ:=G) (Txt.split p ", ") none fun w hw=>Eb ha hw
  have hsl:(Txt.split p ", ").length<=5001:=by
   have e:=Dt (y:=", ") (Txt.split p ", ")
   rw[PySem.StrLaws.join_split,show (", ":Str).length=2 by decide +kernel] at e
   lia
  have g2:mIf (AE (mOp Ap (AA 3) (mC (.str "-")))) (AL 4 (AF (BN (Bh (AF (BS (AA 3) (mC (.str ", "))))) 1 [] (AZ 0) mTT (AK Bg (AB (AA 0) AC))))) AU (S E)=some (.nx (S (some (.v (.lst ds))))):=(A2 t2).trans (An (A7 (CL (nt:=1) (ix:=[]) (s:=S E) (s':=S E) (Γ':=G) (IA ws) (by rw[List.length_map,show big=1000000 from rfl];lia) e)))
  rw[AM g2]
  cases hb:BZ p with
  | true=>
   obtain ⟨r,er,hrl,hr⟩:=LC ha hb
   refine .inl ⟨r,er,hrl,hr,?_⟩
   have hall:(Txt.split p ", ").all thB=true:=by
    unfold BZ at hb
    rw[decide_eq_false c,Bool.false_or] at hb
    exact hb
   obtain ⟨r',e',hr'⟩:=words_of _ hall
   have hne:r≠[]:=fun z=>c (by rw[er,z];unfold Ab;rw[if_pos rfl])
   have er2:Txt.split p ", "=r.map thS:=by
    rw[er]
    unfold Ab
    rw[if_neg hne]
    exact (GT (y:=", ") ET (by decide +kernel) (ps:=r.map thS) (by simpa using hne) fun q hq=>by
     obtain ⟨u,hu,rfl⟩:=List.mem_map.mp hq
     intro z
     rcases HM (hr u hu) z with z | z | z<;>lia).1
   rw[h3 r hr er2]
   exact ⟨_,good r hr⟩
  | false=>
   refine .inr ⟨rfl,some (.v (.lst ds)),?_⟩
   have hall:(Txt.split p ", ").all thB=false:=by
    unfold BZ at hb
    rw[decide_eq_false c,Bool.false_or] at hb
    exact hb
   have t:=tail ds h1
   rw[decide_eq_true (h2 hall)] at t
   rw[Ba ((A2 t).trans (BB (m:=mC .non) (d:=.non) (s':=S (some (.v (.lst ds)))) rfl))]
theorem L7 {x:Str} {v1:Option SV} {Γ:Gm}:∀ (ps:List Str) (R:List (List Th)) (v3 v4:Option SV),(∀ p∈ps,Asc p)->R.length+ps.length<=1000 ->
  (∃ rs:List (List Th),ps=rs.map Ab/\(∀ r∈rs,r.length<=1000/\∀ t∈r,Wr t)/\∃ u w,B8 (AZ 3) (Cm Bg) (ps.map .str) ⟨[some (.v (.str x)),v1,some (.b Γ.length),v3,v4],Γ++[some (R.map Ad)],Γ.length⟩=some (.nx ⟨[some (.v (.str x)),v1,some (.b Γ.length),u,w],Γ++[some ((R++rs).map Ad)],Γ.length⟩)) \/
  (ps.all BZ=false/\∃ s':DS,B8 (AZ 3) (Cm Bg) (ps.map .str) ⟨[some (.v (.str x)),v1,some (.b Γ.length),v3,v4],Γ++[some (R.map Ad)],Γ.length⟩=some (.rt .non s')/\s'.Γ.take Γ.length=Γ)
 | [],R,v3,v4,_,_=>.inl ⟨[],rfl,fun r h=>(nomatch h),v3,v4,by rw[List.append_nil];rfl⟩
 | p::ps,R,v3,v4,ha,hl=>by
  rw[List.length_cons] at hl
  have step:∀ o,Cm Bg ⟨[some (.v (.str x)),v1,some (.b Γ.length),some (.v (.str p)),v4],Γ++[some (R.map Ad)],Γ.length⟩=some o->B8 (AZ 3) (Cm Bg) ((p::ps).map .str) ⟨[some (.v (.str x)),v1,some (.b Γ.length),v3,v4],Γ++[some (R.map Ad)],Γ.length⟩=(match o with
    | .nx s2=>B8 (AZ 3) (Cm Bg) (ps.map .str) s2
    | .ct s2=>B8 (AZ 3) (Cm Bg) (ps.map .str) s2
    | .bk s2=>some (.nx s2)
    | .rt d s2=>some (.rt d s2)
    | .rf d s2=>some (.rf d s2)
    | .rp xs d s2=>some (.rp xs d s2)):=fun o h=>by
   rw[List.map_cons]
   show ((Cm Bg ⟨[some (.v (.str x)),v1,some (.b Γ.length),some (.v (.str p)),v4],Γ++[some (R.map Ad)],Γ.length⟩).bind _)=_
   rw[h]
   cases o<;>rfl
  rcases U0 (x:=x) (p:=p) (v1:=v1) (v4:=v4) (R:=R) (Γ:=Γ) (ha p List.mem_cons_self) (by lia) with ⟨r,er,hrl,hr,u,e⟩ | ⟨hb,u,e⟩
  ·rcases L7 (x:=x) (v1:=v1) (Γ:=Γ) ps (R++[r]) (some (.v (.str p))) u (fun q hq=>ha q (List.mem_cons_of_mem _ hq)) (by rw[List.length_append,List.length_singleton];lia) with ⟨rs,e1,h1,u1,u2,e2⟩ | ⟨hb,s',e2,h3⟩
   ·refine .inl ⟨r::rs,by rw[er,e1];rfl,fun y hy=>?_,u1,u2,?_⟩
    ·rcases List.mem_cons.mp hy with z | z
     ·rw[z];exact ⟨hrl,hr⟩
     ·exact h1 y z
    ·rw[step _ e]
     show B8 _ _ _ _=_
     rw[e2,List.append_assoc]
     rfl
   ·refine .inr ⟨by rw[List.all_cons,hb,Bool.and_false],s',?_,h3⟩
    rw[step _ e]
    exact e2
  ·refine .inr ⟨by rw[List.all_cons,hb,Bool.false_and],_,by rw[step _ e],?_⟩
   show (Γ++[_]).take Γ.length=Γ
   exact JP
def B7 (x:Str):Bool:=decide ((Txt.split x "; ").length<=6) && (Txt.split x "; ").all BZ
theorem R8 {x:Str} {Γ:Gm} (ha:Asc x):(∃ rs:List (List Th),WrR rs/\x=Av rs/\Ew [.v (.str x)] Γ=some (BU rs,Γ))\/(B7 x=false/\Ew [.v (.str x)] Γ=some (.non,Γ)):=by
 have tk:Γ.take Γ.length=Γ:=List.take_length
 let P:Option SV:=some (.v (.lst ((Txt.split x "; ").map .str)))
 let S:Option SV->DS:=fun a=>⟨[some (.v (.str x)),a,none,none,none],Γ,Γ.length⟩
 have hl:=ha.2
 have ws:=Do (S:=S none) (m:=AA 0) (x:=x) (y:="; ") rfl hl (by decide +kernel)
 have g1:AL 1 (AF (BS (AA 0) (mC (.str "; ")))) (S none)=some (.nx (S P)):=An (A7 ws)
 have wl:AO Ag (AB (AA 1) AC) (S P)=some (.v (.int ((Txt.split x "; ").length:Nat)),S P):=Br (x:=.v (.lst ((Txt.split x "; ").map .str))) (s':=S P) rfl (by show some (D.int (((Txt.split x "; ").map D.str).length:Nat))=_;rw[List.length_map])
 have t2:=Au (AS (g:=gGt) wl (b:=mC (.int 6)) (y:=.v (.int 6)) (s2:=S P) rfl GH)
 unfold Ew mFn Jm
 show (∃ rs,_/\_/\(AG _ _ (S none)).bind _=_)\/(_/\(AG _ _ (S none)).bind _=_)
 rw[AM g1]
 by_cases c:(Txt.split x "; ").length<=6
 ·rw[decide_eq_false (by lia)] at t2
  rw[AM ((Aj t2).trans (show AU (S P)=some (.nx (S P)) from rfl))]
  let S2:DS:=⟨[some (.v (.str x)),P,some (.b Γ.length),none,none],Γ++[some (([]:List (List Th)).map Ad)],Γ.length⟩
  have g3:BJ 2 (AX AC) (S P)=some (.nx S2):=rfl
  rw[AM g3]
  have wi:Bh (AA 1) S2=some ((Txt.split x "; ").map .str,S2):=rfl
  rcases L7 (x:=x) (v1:=P) (Γ:=Γ) (Txt.split x "; ") [] none none (fun p hp=>Eb ha hp) (by simp;lia) with ⟨rs,e1,h1,u,w,e2⟩ | ⟨hb,s',e2,h3⟩
  ·refine .inl ⟨rs,⟨?_,by rw[<-List.length_map (f:=Ab),<-e1];exact c,h1⟩,?_,?_⟩
   ·have ej:=PySem.StrLaws.join_split x "; "
    cases rs with
    | nil=>
     rw[e1] at ej
     have hx:x="":=ej.symm
     rw[hx] at e1
     exact absurd e1 (by decide +kernel)
    | cons r rs=>simp
   ·have ej:=PySem.StrLaws.join_split x "; "
    rw[e1] at ej
    exact ej.symm
   ·rw[AM (Fc wi e2)]
    rw[List.nil_append]
    have wf:Dz 2 (⟨[some (.v (.str x)),P,some (.b Γ.length),u,w],Γ++[some (rs.map Ad)],Γ.length⟩:DS)=some (rs.map Ad,⟨[some (.v (.str x)),P,none,u,w],(Γ++[some (rs.map Ad)]).set Γ.length none,Γ.length⟩):=by
     show (match (Γ++[some (rs.map Ad)])[Γ.length]? with
      | some (some xs)=>if Γ.length<=Γ.length then some (xs,(⟨[some (.v (.str x)),P,none,u,w],(Γ++[some (rs.map Ad)]).set Γ.length none,Γ.length⟩:DS)) else none
      | _=>none)=_
     rw[B2]
     simp only[]
     rw[if_pos (Nat.le_refl _)]
    unfold Bn
    rw[wf]
    show some (D.lst (rs.map Ad),((Γ++[_]).set Γ.length none).take Γ.length)=some (BU rs,Γ)
    rw[Er,JP]
    rfl
  ·refine .inr ⟨by unfold B7;rw[hb,Bool.and_false],?_⟩
   rw[Ba (Fc wi e2)]
   show some (D.non,s'.Γ.take Γ.length)=_
   rw[h3]
 ·rw[decide_eq_true (by lia)] at t2
  refine .inr ⟨by unfold B7;rw[decide_eq_false c,Bool.false_and],?_⟩
  rw[Ba ((A2 t2).trans (BB (m:=mC .non) (d:=.non) (s':=S P) rfl))]
  show some (_,Γ.take Γ.length)=_
  rw[tk]
end DL
namespace DL
open PySem L2 TXM
theorem Dd.app {n:Nat} {G G2:Gm} {x:Option (List D)} (hn:n<G.length) (h:Dd n (G++[x]) G2):∃ G',G2=G'++[x]/\Dd n G G':=by
 obtain ⟨l,rfl,hl⟩:=h
 exact ⟨G.set n (some (l.map .int)),by rw[List.set_append_left _ _ hn],l,rfl,hl⟩
theorem Dk.app {n:Nat} {G:Gm} {x:Option (List D)} (h:Dk G n):Dk (G++[x]) n:=by
 have hn:=h.lt
 obtain ⟨l,e,hl⟩:=h
 exact ⟨l,by rw[List.getElem?_append_left hn];exact e,hl⟩
theorem CJ {m:ME} {ms:MA} {S S1 S2:DS} {x:SV} {xs:List SV} (h:m S=some (x,S1)) (h2:ms S1=some (xs,S2)):AB m ms S=some (x::xs,S2):=by
 unfold AB;rw[h];show ((ms S1).map _)=_;rw[h2];rfl
theorem KU:∀ ds:List D,trees (ds.map .v)=some ds
 | []=>rfl
 | d::ds=>by
  show (trees (ds.map .v)).map _=_
  rw[KU ds]
  rfl
theorem IG {ms:MA} {S S':DS} {ds:List D} (h:ms S=some (ds.map .v,S')) (hl:ds.length<=1000):AX ms S=some (ds,S'):=by
 unfold AX
 rw[h]
 show ((trees (ds.map .v)).bind _)=_
 rw[KU]
 show (if _ then _ else _)=_
 rw[if_pos (by rw[Di];lia)]
def Mlk:MD:=mFn 4 (Gy BC)
theorem Ht {k:Int} (h1:-1000000<k) (h2:k<1000000):Ky k:=by
 unfold Ky
 have:k.natAbs<1000000:=by lia
 exact Nat.lt_trans this (by decide)
theorem TL {Mt:MD} (F:∀ {Γ:Gm} {n:Nat} {m:Int},Dk Γ n->0<m->∃ r Γ',Mt [.b n,.v (.int m)] Γ=some (.int r,Γ')/\0<=r/\r<m/\Dd n Γ Γ') {Γ:Gm} {n:Nat} (p:Dk Γ n):∃ k Γ',mFn 4 (Gy Mt) [.b n] Γ=some (.int k,Γ')/\Ky k/\Dd n Γ Γ':=by
 obtain ⟨w,G1,f1,w0,w1,d1⟩:=F (m:=8) p (by decide)
 obtain ⟨u,G2,f2,u0,u1,d2⟩:=F (m:=64) (d1.dk p) (by decide)
 have dd:=d1.trans d2
 have tk:G2.take Γ.length=G2:=List.take_of_length_le (by rw[dd.len];exact Nat.le_refl _)
 let S:Gm->Option SV->Option SV->Option SV->DS:=fun G a b c=>⟨[some (.b n),a,b,c],G,Γ.length⟩
 have g1:AL 1 (AK Mt (AB (AA 0) (AB (mC (.int 8)) AC))) (S Γ none none none)=some (.nx (S G1 (some (.v (.int w))) none none)):=An (BR (x:=.b n) (y:=.v (.int 8)) (s1:=S Γ none none none) (s2:=S Γ none none none) rfl rfl f1)
 have g2:AL 2 (AK Mt (AB (AA 0) (AB (mC (.int 64)) AC))) (S G1 (some (.v (.int w))) none none)=some (.nx (S G2 (some (.v (.int w))) (some (.v (.int u))) none)):=An (BR (x:=.b n) (y:=.v (.int 64)) (s1:=S G1 (some (.v (.int w))) none none) (s2:=S G1 (some (.v (.int w))) none none) rfl rfl f2)
 let T:DS:=S G2 (some (.v (.int w))) (some (.v (.int u))) none
 have t3:AE (mOp Cd (AA 1) (mC (.int 4))) T=some (decide (w<4),T):=Au (AS (x:=.v (.int w)) (y:=.v (.int 4)) (s1:=T) (s2:=T) rfl rfl rfl)
 have t4:AE (mOp AR (AA 1) (mC (.int 4))) T=some (decide (w=4),T):=Au (AS (x:=.v (.int w)) (y:=.v (.int 4)) (s1:=T) (s2:=T) rfl rfl rfl)
 have t5:AE (mOp AR (AA 1) (mC (.int 5))) T=some (decide (w=5),T):=Au (AS (x:=.v (.int w)) (y:=.v (.int 5)) (s1:=T) (s2:=T) rfl rfl rfl)
 have wm:=Cb (S:=T) (S':=T) (a:=AA 2) (i:=u) rfl (show (0:Int)<6 by decide)
 have m0:=Int.emod_nonneg u (show (6:Int)≠0 by decide)
 have m1:=Int.emod_lt_of_pos u (show (0:Int)<6 by decide)
 unfold mFn Gy
 show ∃ k Γ',((AG _ _ (S Γ none none none)).bind _)=_/\_
 rw[(AM g1).trans (AM g2)]
 by_cases c3:w<4
 ·rw[decide_eq_true c3] at t3
  refine ⟨u % 6,G2,?_,Ht (by lia) (by lia),dd⟩
  rw[Ba ((A2 t3).trans (BB wm))]
  show some (_,G2.take Γ.length)=_
  rw[tk]
 rw[decide_eq_false c3] at t3
 rw[AM ((Aj t3).trans (show AU T=some (.nx T) from rfl))]
 by_cases c4:w=4
 ·rw[decide_eq_true c4] at t4
  refine ⟨0 - u % 6,G2,?_,Ht (by lia) (by lia),dd⟩
  rw[Ba ((A2 t4).trans (BB (FY (a:=mC (.int 0)) (i:=0) (S:=T) (S1:=T) rfl wm)))]
  show some (_,G2.take Γ.length)=_
  rw[tk]
 rw[decide_eq_false c4] at t4
 rw[AM ((Aj t4).trans (show AU T=some (.nx T) from rfl))]
 by_cases c5:w=5
 ·rw[decide_eq_true c5] at t5
  refine ⟨u * 1009 - 30000,G2,?_,Ht (by lia) (by lia),dd⟩
  rw[Ba ((A2 t5).trans (BB (FY (b:=mC (.int 30000)) (j:=30000) (DD (a:=AA 2) (b:=mC (.int 1009)) (i:=u) (j:=1009) (S:=T) (S1:=T) (S2:=T) rfl rfl (.inr ⟨by decide,by decide⟩)) (S2:=T) rfl)))]
  show some (_,G2.take Γ.length)=_
  rw[tk]
 rw[decide_eq_false c5] at t5
 rw[AM ((Aj t5).trans (show AU T=some (.nx T) from rfl))]
 have n0:=Int.emod_nonneg u (show (9:Int)≠0 by decide)
 have n1:=Int.emod_lt_of_pos u (show (0:Int)<9 by decide)
 have wp:mOp Dl (mC (.int 10)) (mC (.int 29)) T=some (.v (.int (10 ^ 29)),T):=AS (x:=.v (.int 10)) (y:=.v (.int 29)) (s1:=T) (s2:=T) rfl rfl (by simp[show He 10 29=true from rfl])
 have wq:=Cb (S:=T) (S':=T) (a:=AA 2) (i:=u) rfl (show (0:Int)<9 by decide)
 have w6:=B1 (a:=mC (.int 1)) (i:=1) (S:=T) (S1:=T) rfl wq
 have w7:=DD wp w6 (.inr ⟨by lia,by lia⟩)
 have w8:=DD (a:=AA 2) (b:=mC (.int 7919)) (i:=u) (j:=7919) (S:=T) (S1:=T) (S2:=T) rfl rfl (.inr ⟨by decide,by decide⟩)
 have w9:=B1 w7 w8
 let far:Int:=10 ^ 29 * (1+u % 9)+u * 7919
 let T2:DS:=S G2 (some (.v (.int w))) (some (.v (.int u))) (some (.v (.int far)))
 have g6:AL 3 (mOp AV (mOp Bf (mOp Dl (mC (.int 10)) (mC (.int 29))) (mOp AV (mC (.int 1)) (mOp BD (AA 2) (mC (.int 9))))) (mOp Bf (AA 2) (mC (.int 7919)))) T=some (.nx T2):=An w9
 have e29:(10:Int) ^ 29=100000000000000000000000000000:=by decide
 have f0:0<=far:=by show 0<=(10:Int) ^ 29 * (1+u % 9)+u * 7919;rw[e29];lia
 have f1':far<1000000000000000000000000000000:=by show (10:Int) ^ 29 * (1+u % 9)+u * 7919<_;rw[e29];lia
 have hky:Ky far/\Ky (0 - far):=by
  have e30:(10:Nat) ^ 30=1000000000000000000000000000000:=by decide
  unfold Ky
  rw[e30]
  constructor<;>lia
 have wf:AF (AX (AB (AA 3) (AB (mOp Df (mC (.int 0)) (AA 3)) AC))) T2=some (.v (.lst [.int far,.int (0 - far)]),T2):=by
  have hs:=FY (a:=mC (.int 0)) (b:=AA 3) (i:=0) (j:=far) (S:=T2) (S1:=T2) (S2:=T2) rfl rfl
  exact A7 (IG (ds:=[.int far,.int (0 - far)]) (CJ (x:=.v (.int far)) (S1:=T2) rfl (CJ (ms:=AC) (xs:=[]) hs rfl)) (show 2<=1000 by decide))
 have wi:=FY (a:=AA 1) (b:=mC (.int 6)) (i:=w) (j:=6) (S:=T2) (S1:=T2) (S2:=T2) rfl rfl
 have hw:w=6\/w=7:=by lia
 rw[AM g6]
 rcases hw with rfl | rfl
 ·refine ⟨far,G2,?_,hky.1,dd⟩
  rw[BB (AS (g:=gIx) wf wi (z:=.int far) rfl)]
  show some (_,G2.take Γ.length)=_
  rw[tk]
 ·refine ⟨0 - far,G2,?_,hky.2,dd⟩
  rw[BB (AS (g:=gIx) wf wi (z:=.int (0 - far)) rfl)]
  show some (_,G2.take Γ.length)=_
  rw[tk]
theorem Q6 {Γ:Gm} {n:Nat} (p:Dk Γ n):∃ k Γ',Mlk [.b n] Γ=some (.int k,Γ')/\Ky k/\Dd n Γ Γ':=TL Cg p
theorem join_ones:∀ (cs:List Nat),cd (Str.join "" (cs.map fun c=>(⟨#[c]⟩:Str)))=cs
 | []=>rfl
 | [c]=>rfl
 | c::d::r=>by
  have i:=join_ones (d::r)
  show cd (Str.join "" ((⟨#[c]⟩:Str)::(⟨#[d]⟩:Str)::r.map _))=_
  rw[Dy,Bs,Bs,show cd ("":Str)=[] by decide +kernel,show Str.join "" ((⟨#[d]⟩:Str)::r.map fun c=>(⟨#[c]⟩:Str))=Str.join "" ((d::r).map fun c=>(⟨#[c]⟩:Str)) from rfl,i]
  rfl
theorem Qo:∀ c∈("abcdefghijklmnopqrstuvwxyz":Str).cps.toList,97<=c/\c<=122:=by decide +kernel
def Mlt:MD:=mFn 4 (HY BC)
theorem TQ {Mt:MD} (F:∀ {Γ:Gm} {n:Nat} {m:Int},Dk Γ n->0<m->∃ r Γ',Mt [.b n,.v (.int m)] Γ=some (.int r,Γ')/\0<=r/\r<m/\Dd n Γ Γ') {Γ:Gm} {n:Nat} (p:Dk Γ n):∃ t Γ',mFn 4 (HY Mt) [.b n] Γ=some (.str t,Γ')/\Tg t/\Dd n Γ Γ':=by
 obtain ⟨u,G1,f1,u0,u1,dd⟩:=F (m:=720720) p (by decide)
 have tk:G1.take Γ.length=G1:=List.take_of_length_le (by rw[dd.len];exact Nat.le_refl _)
 let S:Gm->Option SV->Option SV->Option SV->DS:=fun G a b c=>⟨[some (.b n),a,b,c],G,Γ.length⟩
 have g1:AL 1 (AK Mt (AB (AA 0) (AB (mC (.int 720720)) AC))) (S Γ none none none)=some (.nx (S G1 (some (.v (.int u))) none none)):=An (BR (x:=.b n) (y:=.v (.int 720720)) (s1:=S Γ none none none) (s2:=S Γ none none none) rfl rfl f1)
 let T:DS:=S G1 (some (.v (.int u))) none none
 have t2:AE (mOp AR (mOp BD (AA 1) (mC (.int 2))) (mC (.int 0))) T=some (decide (u % 2=0),T):=Au (AS (Cb (S:=T) (S':=T) (a:=AA 1) (i:=u) rfl (show (0:Int)<2 by decide)) (y:=.v (.int 0)) (s2:=T) rfl rfl)
 unfold mFn HY
 show ∃ t Γ',((AG _ _ (S Γ none none none)).bind _)=_/\_
 rw[AM g1]
 by_cases c2:u % 2=0
 ·rw[decide_eq_true c2] at t2
  have wi:=Cb (El (S:=T) (S':=T) (a:=AA 1) (i:=u) rfl (show (0:Int)<2 by decide) (by decide)) (show (0:Int)<5 by decide)
  have n0:=Int.emod_nonneg (u / 2) (show (5:Int)≠0 by decide)
  have n1:=Int.emod_lt_of_pos (u / 2) (show (0:Int)<5 by decide)
  have wl:AF (AX (AB (mC (.str "a")) (AB (mC (.str "b")) (AB (mC (.str "ab")) (AB (mC (.str "zzzzzzzz")) (AB (mC (.str "x")) AC)))))) T=some (.v (.lst [.str "a",.str "b",.str "ab",.str "zzzzzzzz",.str "x"]),T):=rfl
  have hT:∀ t∈(["a","b","ab","zzzzzzzz","x"]:List Str),Tg t:=by
   intro t ht
   simp only[List.mem_cons,List.not_mem_nil,or_false] at ht
   rcases ht with rfl | rfl | rfl | rfl | rfl<;>exact ⟨by decide +kernel,by decide +kernel,by decide +kernel⟩
  obtain ⟨j,hj⟩:∃ j:Nat,u / 2 % 5=(j:Int):=⟨(u / 2 % 5).toNat,by lia⟩
  obtain ⟨t,ht⟩:∃ t,(["a","b","ab","zzzzzzzz","x"]:List Str)[j]?=some t:=⟨_,List.getElem?_eq_getElem (show j<5 by lia)⟩
  refine ⟨t,G1,?_,hT t (List.mem_of_getElem? ht),dd⟩
  rw[Ba ((A2 t2).trans (BB (AS (g:=gIx) wl wi (z:=.str t) (by
   rw[hj]
   show atI ((["a","b","ab","zzzzzzzz","x"]:List Str).map D.str) (j:Int)=_
   exact UM ht))))]
  show some (_,G1.take Γ.length)=_
  rw[tk]
 rw[decide_eq_false c2] at t2
 rw[AM ((Aj t2).trans (show AU T=some (.nx T) from rfl))]
 let L:Option SV:=some (.v (.str "abcdefghijklmnopqrstuvwxyz"))
 have g3:AL 2 (mC (.str "abcdefghijklmnopqrstuvwxyz")) T=some (.nx (S G1 (some (.v (.int u))) L none)):=rfl
 have n0:=Int.emod_nonneg (u / 4) (show (8:Int)≠0 by decide)
 have n1:=Int.emod_lt_of_pos (u / 4) (show (0:Int)<8 by decide)
 obtain ⟨z,hz⟩:∃ z:Nat,1+u / 4 % 8=(z:Int):=⟨(1+u / 4 % 8).toNat,by lia⟩
 let T3:DS:=S G1 (some (.v (.int u))) L none
 let T4:DS:=S G1 (some (.v (.int u))) L (some (.v (.int (z:Int))))
 have g4:AL 3 (mOp AV (mC (.int 1)) (mOp BD (mOp CA (AA 1) (mC (.int 4))) (mC (.int 8)))) T3=some (.nx T4):=(An (B1 (a:=mC (.int 1)) (i:=1) (S:=T3) (S1:=T3) rfl (Cb (El (S:=T3) (S':=T3) (a:=AA 1) (i:=u) rfl (show (0:Int)<4 by decide) (by decide)) (show (0:Int)<8 by decide)))).trans (by rw[hz];rfl)
 have hr:=EV (c:=AA 3) (s:=T4) (s':=T4) (p:=z) rfl (by lia)
 obtain ⟨ys,τ',G',e,v,cs,hτ,hG,rfl,hl,hc⟩:=HG (g:=AZ 0) (t:=mTT) (e:=mOp gIx (AA 1) (mOp BD (mOp AV (mOp CA (AA 2) (mC (.int 2))) (mOp Bf (AA 0) (mOp AV (mOp CA (AA 2) (mC (.int 16))) (AA 0)))) (mC (.int 26)))) (items:=upTo 0 z) (fun i acc τ G'=>∃ (v:Option SV) (cs:List Nat),τ=[v,L,some (.v (.int u))]/\G'=G1/\acc=cs.map (fun c=>D.str ⟨#[c]⟩)/\cs.length=i/\∀ c∈cs,97<=c/\c<=122) (by
   rintro i d acc τ G hd ⟨v,cs,rfl,hG,rfl,hl,hc⟩
   obtain ⟨hi,rfl⟩:=Eg hd
   let Z:DS:=⟨[some (.v (.int (0+(i:Int)))),L,some (.v (.int u))],G,G.length⟩
   have a1:=El (S:=Z) (S':=Z) (a:=AA 2) (i:=u) rfl (show (0:Int)<2 by decide) (by decide)
   have a2:=El (S:=Z) (S':=Z) (a:=AA 2) (i:=u) rfl (show (0:Int)<16 by decide) (by decide)
   have a3:=B1 a2 (b:=AA 0) (j:=0+(i:Int)) (S2:=Z) rfl
   have a4:=DD (a:=AA 0) (i:=0+(i:Int)) (S:=Z) (S1:=Z) rfl a3 (.inl ⟨by lia,by lia⟩)
   have a5:=Cb (B1 a1 a4) (show (0:Int)<26 by decide)
   let q:Int:=(u / 2+(0+(i:Int)) * (u / 16+(0+(i:Int)))) % 26
   have q0:0<=q:=Int.emod_nonneg _ (by decide)
   have q1:q<26:=Int.emod_lt_of_pos _ (by decide)
   obtain ⟨c,hc1,hc2⟩:=LK (xs:=("abcdefghijklmnopqrstuvwxyz":Str).cps.toList) q0 (by rw[Tq];exact q1)
   have a6:mOp gIx (AA 1) (mOp BD (mOp AV (mOp CA (AA 2) (mC (.int 2))) (mOp Bf (AA 0) (mOp AV (mOp CA (AA 2) (mC (.int 16))) (AA 0)))) (mC (.int 26))) Z=some (.v (.str ⟨#[c]⟩),Z):=AS (x:=.v (.str "abcdefghijklmnopqrstuvwxyz")) (s1:=Z) rfl a5 (by
    show (if ("abcdefghijklmnopqrstuvwxyz":Str).length<=big then (atI ("abcdefghijklmnopqrstuvwxyz":Str).cps.toList q).map fun c=>D.str ⟨#[c]⟩ else none)=_
    rw[if_pos UC,hc1]
    rfl)
   refine ⟨Z,(true,Z),rfl,rfl,.inl ⟨rfl,_,Z,a6,rfl,_,cs++[c],rfl,hG,by rw[List.map_append];rfl,by rw[List.length_append,hl];rfl,fun y hy=>?_⟩⟩
   rcases List.mem_append.mp hy with hy | hy
   ·exact hc y hy
   ·rw[List.mem_singleton.mp hy]
    exact Qo c hc2)
  (τ:=[none,L,some (.v (.int u))]) (Γ:=G1) ⟨none,[],rfl,rfl,rfl,rfl,fun c h=>nomatch h⟩
 rw[Cr] at hl
 rw[hG] at e
 have w5:=A7 (CL (nt:=1) (ix:=[2,1]) hr (by rw[Cr,Di];lia) e)
 have es:(cs.map fun c=>D.str ⟨#[c]⟩)=(cs.map fun c=>(⟨#[c]⟩:Str)).map .str:=by rw[List.map_map];rfl
 rw[es] at w5
 have w6:=M8 (y:="") (B:=1) w5 (fun p hp=>by
  obtain ⟨c,_,rfl⟩:=List.mem_map.mp hp
  exact Nat.le_refl _) (by rw[List.length_map,show ("":Str).length=0 by decide +kernel];lia)
 have ej:=join_ones cs
 refine ⟨Str.join "" (cs.map fun c=>(⟨#[c]⟩:Str)),G1,?_,⟨?_,?_,?_⟩,dd⟩
 ·rw[(AM g3).trans ((AM g4).trans (BB w6))]
  show some (_,G1.take Γ.length)=_
  rw[tk]
 ·rw[<-TXM.A4,ej];lia
 ·rw[<-TXM.A4,ej];lia
 ·intro c hc'
  have:c∈cd (Str.join "" (cs.map fun c=>(⟨#[c]⟩:Str))):=hc'
  rw[ej] at this
  exact hc c this
theorem OK {Γ:Gm} {n:Nat} (p:Dk Γ n):∃ t Γ',Mlt [.b n] Γ=some (.str t,Γ')/\Tg t/\Dd n Γ Γ':=TQ Cg p
theorem VW (ns:List Int):intsOf (ns.map .int)=some ns:=by
 induction ns with
 | nil=>rfl
 | cons n ns ih=>show (intsOf (ns.map .int)).map _=_;rw[ih];rfl
theorem PU {Γ:Gm} {ns:List Int} (h:ns.length<64):Dv Γ [.v (.lst (ns.map .int))]=some ((sortI ns).map .int):=by
 show (intsOf (ns.map .int)).bind _=_
 rw[VW]
 show (if ns.length<64 then _ else _)=_
 rw[if_pos h]
structure FR (Mt Mk Ml:MD):Prop where
 take:∀ {Γ:Gm} {n:Nat} {m:Int},Dk Γ n->0<m->∃ r Γ',Mt [.b n,.v (.int m)] Γ=some (.int r,Γ')/\0<=r/\r<m/\Dd n Γ Γ'
 key:∀ {Γ:Gm} {n:Nat},Dk Γ n->∃ k Γ',Mk [.b n] Γ=some (.int k,Γ')/\Ky k/\Dd n Γ Γ'
 tag:∀ {Γ:Gm} {n:Nat},Dk Γ n->∃ t Γ',Ml [.b n] Γ=some (.str t,Γ')/\Tg t/\Dd n Γ Γ'
section
variable {Mt Mk Ml:MD} (F:FR Mt Mk Ml)
include F
theorem Vi {n k m lo:Nat} {v3 v4 v5 v6:Option SV} {R:List (List Th)} {G:Gm} (hk:k=G.length) (d:Dk G n) (h3:3<=m) (hm:m<=60) (hR:R.length<=100) :
  ∃ (row:List Th) (v4' v5' v6':Option SV) (G':Gm),GG Mt Mk Ml ⟨[some (.b n),some (.v (.int (m:Int))),some (.b k),v3,v4,v5,v6],G++[some (R.map Ad)],lo⟩ =
   some (.nx ⟨[some (.b n),some (.v (.int (m:Int))),some (.b k),v3,v4',v5',v6'],G'++[some ((R++[row]).map Ad)],lo⟩)/\row.length<=m/\(∀ t∈row,Wr t)/\Dd n G G':=by
 subst hk
 have hn:=d.lt
 let X:Option (List D):=some (R.map Ad)
 let S:Gm->Option SV->Option SV->Option SV->DS:=fun G' a b c=>⟨[some (.b n),some (.v (.int (m:Int))),some (.b G.length),v3,a,b,c],G'++[X],lo⟩
 obtain ⟨q,G1',f1,q0,q1,dd1'⟩:=F.take (m:=4) (d.app (x:=X)) (by decide)
 obtain ⟨G1,rfl,dd1⟩:=dd1'.app hn
 have d1:=dd1.dk d
 have hn1:=d1.lt
 have wq:AK Mt (AB (AA 0) (AB (mC (.int 4)) AC)) (S G v4 v5 v6)=some (.v (.int q),S G1 v4 v5 v6):=BR (x:=.b n) (y:=.v (.int 4)) (s1:=S G v4 v5 v6) (s2:=S G v4 v5 v6) rfl rfl f1
 have wl:AF (AX (AB (mC (.int 1)) (AB (mOp AV (AA 1) (mC (.int 1))) (AB (mC (.int 4)) (AB (mOp AV (AA 1) (mC (.int 1))) AC))))) (S G v4 v5 v6)=some (.v (.lst [.int 1,.int ((m:Int)+1),.int 4,.int ((m:Int)+1)]),S G v4 v5 v6):=rfl
 obtain ⟨b,hb,b1,b2⟩:∃ b:Int,atI ([.int 1,.int ((m:Int)+1),.int 4,.int ((m:Int)+1)]:List D) q=some (.int b)/\0<b/\b<=(m:Int)+1:=by
  have hq:q=0\/q=1\/q=2\/q=3:=by lia
  rcases hq with rfl | rfl | rfl | rfl
  ·exact ⟨1,rfl,by decide,by lia⟩
  ·exact ⟨(m:Int)+1,rfl,by lia,by lia⟩
  ·exact ⟨4,rfl,by decide,by lia⟩
  ·exact ⟨(m:Int)+1,rfl,by lia,by lia⟩
 have wb:mOp gIx (AF (AX (AB (mC (.int 1)) (AB (mOp AV (AA 1) (mC (.int 1))) (AB (mC (.int 4)) (AB (mOp AV (AA 1) (mC (.int 1))) AC)))))) (AK Mt (AB (AA 0) (AB (mC (.int 4)) AC))) (S G v4 v5 v6)=some (.v (.int b),S G1 v4 v5 v6):=AS wl wq hb
 obtain ⟨y,G2',f2,y0,y1,dd2'⟩:=F.take (m:=b) (d1.app (x:=X)) b1
 obtain ⟨G2,rfl,dd2⟩:=dd2'.app hn1
 have d2:=dd2.dk d1
 have hn2:=d2.lt
 obtain ⟨z,rfl⟩:∃ z:Nat,y=(z:Int):=⟨y.toNat,by lia⟩
 let Z:Option SV:=some (.v (.int (z:Int)))
 have g1:AL 4 (AK Mt (AB (AA 0) (AB (mOp gIx (AF (AX (AB (mC (.int 1)) (AB (mOp AV (AA 1) (mC (.int 1))) (AB (mC (.int 4)) (AB (mOp AV (AA 1) (mC (.int 1))) AC)))))) (AK Mt (AB (AA 0) (AB (mC (.int 4)) AC)))) AC))) (S G v4 v5 v6)=some (.nx (S G2 Z v5 v6)):=An (BR (x:=.b n) (s1:=S G v4 v5 v6) rfl wb f2)
 have hr:=EV (c:=AA 4) (s:=S G2 Z v5 v6) (s':=S G2 Z v5 v6) (p:=z) rfl (by lia)
 obtain ⟨ys,τ',G3',e3,v,ks,hτ,rfl,hks,hky,G3,hG3,dd3⟩:=HG (g:=AZ 0) (t:=mTT) (e:=AK Mk (AB (AA 1) AC)) (items:=upTo 0 z) (fun i acc τ H=>∃ (v:Option SV) (ks:List Int),τ=[v,some (.b n)]/\acc=ks.map D.int/\ks.length=i/\(∀ k∈ks,Ky k)/\∃ H',H=H'++[X]/\Dd n G2 H') (by
   rintro i x acc τ H hd ⟨v,ks,rfl,rfl,hl,hk,H',rfl,dh⟩
   obtain ⟨hi,rfl⟩:=Eg hd
   have dh':=dh.dk d2
   obtain ⟨k,H2',f,hky,ddk'⟩:=F.key (dh'.app (x:=X))
   obtain ⟨H2,rfl,ddk⟩:=ddk'.app dh'.lt
   let Q:DS:=⟨[some (.v (.int (0+(i:Int)))),some (.b n)],H'++[X],(H'++[X]).length⟩
   refine ⟨Q,(true,Q),rfl,rfl,.inl ⟨rfl,.int k,{Q with Γ:=H2++[X]},B5 (x:=.b n) (s':=Q) rfl f,?_,_,ks++[k],rfl,by rw[List.map_append];rfl,by rw[List.length_append,hl];rfl,fun a ha=>?_,H2,rfl,dh.trans ddk⟩⟩
   ·show (H2++[X]).length=(H'++[X]).length
    rw[List.length_append,List.length_append,ddk.len]
   ·rcases List.mem_append.mp ha with ha | ha
    ·exact hk a ha
    ·rw[List.mem_singleton.mp ha];exact hky)
  (τ:=[none,some (.b n)]) (Γ:=G2++[X]) ⟨none,[],rfl,rfl,rfl,(fun k h=>nomatch h),G2,rfl,Dd.refl d2⟩
 rw[Cr] at hks
 subst hG3
 have d3:=dd3.dk d2
 have hn3:=d3.lt
 let KS:List Int->Option SV:=fun l=>some (.v (.lst (l.map .int)))
 have g2:AL 5 (AF (BN (B3 (AB (AA 4) AC)) 1 [0] (AZ 0) mTT (AK Mk (AB (AA 1) AC)))) (S G2 Z v5 v6)=some (.nx (S G3 Z (KS ks) v6)):=An (A7 (CL (nt:=1) (ix:=[0]) hr (by rw[Cr,Di];lia) e3))
 obtain ⟨w,G4',f4,w0,w1,dd4'⟩:=F.take (m:=4) (d3.app (x:=X)) (by decide)
 obtain ⟨G4,rfl,dd4⟩:=dd4'.app hn3
 have d4:=dd4.dk d3
 let W:Option SV:=some (.v (.int w))
 have g3:AL 6 (AK Mt (AB (AA 0) (AB (mC (.int 4)) AC))) (S G3 Z (KS ks) v6)=some (.nx (S G4 Z (KS ks) W)):=An (BR (x:=.b n) (y:=.v (.int 4)) (s1:=S G3 Z (KS ks) v6) (s2:=S G3 Z (KS ks) v6) rfl rfl f4)
 obtain ⟨ks4,g4,hl4,hk4⟩:∃ ks4:List Int,mIf (AE (mOp AR (AA 6) (mC (.int 1)))) (AL 5 (AF (EK Dv (AB (AA 5) AC)))) AU (S G4 Z (KS ks) W)=some (.nx (S G4 Z (KS ks4) W))/\ks4.length=z/\∀ k∈ks4,Ky k:=by
  let T:DS:=S G4 Z (KS ks) W
  have t:AE (mOp AR (AA 6) (mC (.int 1))) T=some (decide (w=1),T):=Au (AS (x:=.v (.int w)) (y:=.v (.int 1)) (s1:=T) (s2:=T) rfl rfl rfl)
  by_cases c:w=1
  ·rw[decide_eq_true c] at t
   have ws:EK Dv (AB (AA 5) AC) T=some ((sortI ks).map .int,T):=by
    unfold EK AB AC
    show ((Dv T.Γ [.v (.lst (ks.map .int))]).map _)=_
    rw[PU (by rw[hks];lia)]
    rfl
   exact ⟨sortI ks,(A2 t).trans (An (A7 ws)),by rw[(sortI_perm ks).length_eq,hks],fun k hk=>hky k ((sortI_perm ks).mem_iff.mp hk)⟩
  ·rw[decide_eq_false c] at t
   exact ⟨ks,(Aj t).trans rfl,hks,hky⟩
 obtain ⟨ks5,g5,hl5,hk5⟩:∃ ks5:List Int,mIf (AE (mOp AR (AA 6) (mC (.int 2)))) (AL 5 (AF (BE DQ (mSl (AA 5) none (some (mC (.int 1)))) (AA 4)))) AU (S G4 Z (KS ks4) W)=some (.nx (S G4 Z (KS ks5) W))/\ks5.length<=m/\∀ k∈ks5,Ky k:=by
  let T:DS:=S G4 Z (KS ks4) W
  have t:AE (mOp AR (AA 6) (mC (.int 2))) T=some (decide (w=2),T):=Au (AS (x:=.v (.int w)) (y:=.v (.int 2)) (s1:=T) (s2:=T) rfl rfl rfl)
  by_cases c:w=2
  ·rw[decide_eq_true c] at t
   have hc1:(CO ks4 none (some ((1:Nat):Int)))=ks4.take 1:=by
    unfold CO
    rw[HT.RW,HT.TB,List.drop_zero,Nat.sub_zero]
    cases ks4 with
    | nil=>rfl
    | cons a r=>rw[List.length_cons,Nat.min_eq_left (by lia)]
   have wsl:mSl (AA 5) none (some (mC (.int 1))) T=some (.v (.lst ((ks4.take 1).map .int)),T):=by
    show some (SV.v (D.lst (cutD (ks4.map D.int) none (some ((1:Nat):Int)))),T)=_
    rw[JR,hc1]
   have hlt:(ks4.take 1).length<=1:=by rw[List.length_take];lia
   have wr:BE DQ (mSl (AA 5) none (some (mC (.int 1)))) (AA 4) T=some (((List.replicate z (ks4.take 1)).flatten).map .int,T):=Ct wsl (y:=.v (.int (z:Int))) (s2:=T) rfl (by
    show (if (z:Int)<=100000/\-100000<=(z:Int)/\((ks4.take 1).map D.int).length * ((z:Int)).toNat<=big then some (List.replicate ((z:Int)).toNat ((ks4.take 1).map D.int)).flatten else none)=_
    rw[if_pos ⟨by lia,by lia,by
     rw[Int.toNat_natCast,Di,List.length_map]
     have:(ks4.take 1).length * z<=1 * z:=Nat.mul_le_mul_right z hlt
     lia⟩,Int.toNat_natCast,List.map_flatten,List.map_replicate])
   refine ⟨(List.replicate z (ks4.take 1)).flatten,(A2 t).trans (An (A7 wr)),?_,fun k hk=>?_⟩
   ·rw[List.length_flatten,List.map_replicate,List.sum_replicate_nat]
    have:z * (ks4.take 1).length<=z * 1:=Nat.mul_le_mul_left z hlt
    lia
   ·obtain ⟨l,hl,hkl⟩:=List.mem_flatten.mp hk
    rw[(List.mem_replicate.mp hl).2] at hkl
    exact hk4 k (List.mem_of_mem_take hkl)
  ·rw[decide_eq_false c] at t
   exact ⟨ks4,(Aj t).trans rfl,by lia,hk4⟩
 let T:DS:=S G4 Z (KS ks5) W
 obtain ⟨ys,τ',G5',e6,v,row,hτ,rfl,hrl,hrw,G5,hG5,dd5⟩:=HG (g:=AZ 0) (t:=mTT) (e:=CS (AB (AA 0) (AB (AK Ml (AB (AA 1) AC)) AC))) (items:=ks5.map D.int) (fun i acc τ H=>∃ (v:Option SV) (row:List Th),τ=[v,some (.b n)]/\acc=row.map thD/\row.length=i/\(∀ t∈row,Wr t)/\∃ H',H=H'++[X]/\Dd n G4 H') (by
   rintro i x acc τ H hd ⟨v,row,rfl,rfl,hl,hw,H',rfl,dh⟩
   obtain ⟨k,hk,rfl⟩:=LQ hd
   have dh':=dh.dk d4
   obtain ⟨t,H2',f,htg,ddk'⟩:=F.tag (dh'.app (x:=X))
   obtain ⟨H2,rfl,ddk⟩:=ddk'.app dh'.lt
   let Q:DS:=⟨[some (.v (.int k)),some (.b n)],H'++[X],(H'++[X]).length⟩
   refine ⟨Q,(true,Q),rfl,rfl,.inl ⟨rfl,thD (k,t),{Q with Γ:=H2++[X]},Io (x:=.int k) (s1:=Q) rfl (B5 (x:=.b n) (s':=Q) rfl f),?_,_,row++[(k,t)],rfl,by rw[List.map_append];rfl,by rw[List.length_append,hl];rfl,fun a ha=>?_,H2,rfl,dh.trans ddk⟩⟩
   ·show (H2++[X]).length=(H'++[X]).length
    rw[List.length_append,List.length_append,ddk.len]
   ·rcases List.mem_append.mp ha with ha | ha
    ·exact hw a ha
    ·rw[List.mem_singleton.mp ha];exact ⟨hk5 k (List.mem_of_getElem? hk),htg⟩)
  (τ:=[none,some (.b n)]) (Γ:=G4++[X]) ⟨none,[],rfl,rfl,rfl,(fun k h=>nomatch h),G4,rfl,Dd.refl d4⟩
 rw[List.length_map] at hrl
 subst hG5
 have wrow:=A7 (CL (mi:=Bh (AA 5)) (nt:=1) (ix:=[0]) (s:=T) (s':=T) (items:=ks5.map D.int) (g:=AZ 0) (t:=mTT) (e:=CS (AB (AA 0) (AB (AK Ml (AB (AA 1) AC)) AC))) rfl (by rw[List.length_map,Di];lia) e6)
 have l1:G1.length=G.length:=dd1.len
 have l2:G2.length=G1.length:=dd2.len
 have l3:G3.length=G2.length:=dd3.len
 have l4:G4.length=G3.length:=dd4.len
 have l5:G5.length=G4.length:=dd5.len
 have hg4:(G4++[X])[G.length]?=some X:=by rw[<-l1,<-l2,<-l3,<-l4];exact B2
 have hg5:(G5++[X])[G.length]?=some X:=by rw[<-l1,<-l2,<-l3,<-l4,<-l5];exact B2
 have g6:=HR (i:=2) (n:=G.length) (s:=T) rfl hg4 wrow hg5 (by rw[List.length_map,Di];lia)
 refine ⟨row,Z,KS ks5,W,G5,?_,by lia,hrw,(((dd1.trans dd2).trans dd3).trans dd4).trans dd5⟩
 unfold GG
 rw[(AM g1).trans ((AM g2).trans ((AM g3).trans ((AM g4).trans ((AM g5).trans g6))))]
 show some (Out.nx ⟨_,(G5++[X]).set G.length _,_⟩)=_
 have es:∀ Y,(G5++[X]).set G.length Y=G5++[Y]:=fun Y=>by rw[<-l1,<-l2,<-l3,<-l4,<-l5];exact Er
 rw[es,List.map_append]
 rfl
theorem RY {n m:Nat} {G:Gm} (d:Dk G n) (h3:3<=m) (hm:m<=60):∃ (rs:List (List Th)) (G':Gm),Bd 7 (HI Mt Mk Ml) [.b n,.v (.int (m:Int))] G=some (rs.map Ad,G')/\1<=rs.length/\rs.length<=6/\(∀ r∈rs,r.length<=m/\∀ t∈r,Wr t)/\Dd n G G':=by
 let M:Option SV:=some (.v (.int (m:Int)))
 let S0:DS:=⟨[some (.b n),M,none,none,none,none,none],G,G.length⟩
 have g1:BJ 2 (AX AC) S0=some (.nx ⟨[some (.b n),M,some (.b G.length),none,none,none,none],G++[some []],G.length⟩):=by simp[S0,show (0:Nat)<=big from Nat.zero_le _]
 let S1:DS:=⟨[some (.b n),M,some (.b G.length),none,none,none,none],G++[some []],G.length⟩
 obtain ⟨q,G1',f1,q0,q1,dd1'⟩:=F.take (m:=6) (d.app (x:=some [])) (by decide)
 obtain ⟨G1,rfl,dd1⟩:=dd1'.app d.lt
 have d1:=dd1.dk d
 let S2:DS:=⟨[some (.b n),M,some (.b G.length),none,none,none,none],G1++[some []],G.length⟩
 obtain ⟨p,hp⟩:∃ p:Nat,1+q=(p:Int):=⟨(1+q).toNat,by lia⟩
 have wq:mOp AV (mC (.int 1)) (AK Mt (AB (AA 0) (AB (mC (.int 6)) AC))) S1=some (.v (.int (p:Int)),S2):=by
  rw[<-hp]
  exact B1 (a:=mC (.int 1)) (i:=1) (S:=S1) (S1:=S1) rfl (BR (x:=.b n) (y:=.v (.int 6)) (s1:=S1) (s2:=S1) rfl rfl f1)
 have hr:=EV (c:=mOp AV (mC (.int 1)) (AK Mt (AB (AA 0) (AB (mC (.int 6)) AC)))) wq (by lia)
 obtain ⟨st,e2,R,v3,v4,v5,v6,H,rfl,hR,hw,dd⟩:=GP (g:=AZ 3) (b:=GG Mt Mk Ml) (items:=upTo 0 p) (fun i st=>∃ (R:List (List Th)) (v3 v4 v5 v6:Option SV) (H:Gm),st=⟨[some (.b n),M,some (.b G.length),v3,v4,v5,v6],H++[some (R.map Ad)],G.length⟩/\R.length=i/\(∀ r∈R,r.length<=m/\∀ t∈r,Wr t)/\Dd n G H) (by
   rintro i x st hd ⟨R,v3,v4,v5,v6,H,rfl,hR,hw,dd⟩
   obtain ⟨hi,rfl⟩:=Eg hd
   obtain ⟨row,v4',v5',v6',H',e,hl,hwr,ddr⟩:=Vi F (n:=n) (k:=G.length) (m:=m) (lo:=G.length) (v3:=some (.v (.int (0+(i:Int))))) (v4:=v4) (v5:=v5) (v6:=v6) (R:=R) (G:=H) (by rw[dd.len]) (dd.dk d) h3 hm (by lia)
   refine ⟨_,_,rfl,e,R++[row],_,_,_,_,H',rfl,by rw[List.length_append,hR];rfl,fun r hr=>?_,dd.trans ddr⟩
   rcases List.mem_append.mp hr with hr | hr
   ·exact hw r hr
   ·rw[List.mem_singleton.mp hr];exact ⟨hl,hwr⟩)
  (s:=S2) ⟨[],none,none,none,none,G1,rfl,rfl,(fun r h=>nomatch h),dd1⟩
 rw[Cr] at hR
 have g2:=Fc hr e2
 refine ⟨R,H,?_,by lia,by lia,hw,dd⟩
 unfold Bd HI
 show ((AG _ _ S0).bind _)=_
 rw[(AM g1).trans (AM g2)]
 have hl:=dd.len
 have e3:Bn (Dz 2) (⟨[some (.b n),M,some (.b G.length),v3,v4,v5,v6],H++[some (R.map Ad)],G.length⟩:DS)=some (.rf (R.map Ad) ⟨[some (.b n),M,none,v3,v4,v5,v6],H++[none],G.length⟩):=by
  unfold Bn Dz
  show ((match (H++[some (R.map Ad)])[G.length]? with | some (some xs)=>if G.length<=G.length then some (xs,_) else none | _=>none).map _)=_
  rw[<-hl,B2]
  simp only[]
  rw[if_pos (Nat.le_refl _)]
  show some (Out.rf _ ⟨_,(H++[_]).set H.length none,_⟩)=_
  rw[Er]
  rfl
 rw[e3]
 show some (_,(H++[none]).take G.length)=_
 rw[<-hl,JP]
end
def Mlr:MDF:=Bd 7 (HI BC Mlk Mlt)
theorem RC {n m:Nat} {G:Gm} (d:Dk G n) (h3:3<=m) (hm:m<=60):∃ (rs:List (List Th)) (G':Gm),Mlr [.b n,.v (.int (m:Int))] G=some (rs.map Ad,G')/\1<=rs.length/\rs.length<=6/\(∀ r∈rs,r.length<=m/\∀ t∈r,Wr t)/\Dd n G G':=RY ⟨Cg,Q6,OK⟩ d h3 hm
end DL
namespace DL
open PySem L2
def Good:Nat->D->Prop
 | _,.int _=>True
 | _,.str _=>True
 | n+1,.lst xs=>xs.length<=100000/\∀ x∈xs,Good n x
 | n+1,.tup xs=>xs.length<=100000/\∀ x∈xs,Good n x
 | _,_=>False
open Classical in
def Bm:Nat->List D->Option D
 | 0,_=>none
 | n+1,[a,b]=>if a=b/\Good n a then some (.bl true) else none
 | _,_=>none
open Classical in
theorem Hr (n:Nat) (a b:D):Bm (n+1) [a,b]=if a=b/\Good n a then some (D.bl true) else none:=by simp[Bm]
theorem K2 {n:Nat} {a:D} {xs:List D} (ha:∀ i:Int,gIx [] (.v a) (.v (.int i))=atI xs i) (hg:∀ x∈xs,Good n x):A3 (AZ 0) (As (Am (Ce (Bm (n+1)) (AB (mOp gIx (AA 1) (AA 0)) (AB (mOp gIx (AA 2) (AA 0)) AC))))) (AA 0) (upTo 0 xs.length) [none,some (.v a),some (.v a)] []=some ([],[]):=by
 obtain ⟨ys,τ',Γ',e,rfl,rfl,_⟩:=HG (g:=AZ 0) (t:=As (Am (Ce (Bm (n+1)) (AB (mOp gIx (AA 1) (AA 0)) (AB (mOp gIx (AA 2) (AA 0)) AC))))) (e:=AA 0) (items:=upTo 0 xs.length)
  (fun _ acc τ Γ=>acc=[]/\Γ=[]/\∃ v,τ=[v,some (.v a),some (.v a)]) (by
   rintro i d acc τ Γ hd ⟨rfl,rfl,v,rfl⟩
   obtain ⟨hi,rfl⟩:=Eg hd
   let S:DS:=⟨[some (.v (.int (0+i))),some (.v a),some (.v a)],[],0⟩
   have hx:xs[i]?=some xs[i]:=List.getElem?_eq_getElem hi
   have ea:gIx [] (.v a) (.v (.int (0+i)))=some xs[i]:=by rw[ha,show (0:Int)+(i:Int)=((i:Nat):Int) by lia];exact Cf hx
   have w1:mOp gIx (AA 1) (AA 0) S=some (.v xs[i],S):=AS (x:=.v a) (y:=.v (.int (0+i))) (s1:=S) (s2:=S) rfl rfl ea
   have w2:mOp gIx (AA 2) (AA 0) S=some (.v xs[i],S):=AS (x:=.v a) (y:=.v (.int (0+i))) (s1:=S) (s2:=S) rfl rfl ea
   have e:Bm (n+1) [xs[i],xs[i]]=some (.bl true):=by rw[Hr,if_pos ⟨rfl,hg _ (List.getElem_mem hi)⟩]
   have w3:Ce (Bm (n+1)) (AB (mOp gIx (AA 1) (AA 0)) (AB (mOp gIx (AA 2) (AA 0)) AC)) S=some (.v (.bl true),S):=by
    unfold Ce
    rw[show AB (mOp gIx (AA 1) (AA 0)) (AB (mOp gIx (AA 2) (AA 0)) AC) S=some ([.v xs[i],.v xs[i]],S) by
     unfold AB AC
     rw[w1]
     show (((mOp gIx (AA 2) (AA 0) S).bind _).map _)=_
     rw[w2]
     rfl,Option.bind_some]
    show ((Bm (n+1) [xs[i],xs[i]]).bind _)=_
    rw[e]
    rfl
   refine ⟨S,(false,S),rfl,?_,.inr ⟨rfl,rfl,rfl,rfl,_,rfl⟩⟩
   unfold As Am
   rw[w3]
   rfl) (τ:=[none,some (.v a),some (.v a)]) (Γ:=[]) ⟨rfl,rfl,none,rfl⟩
 exact e
theorem Rz {n:Nat} {ds:List D} {r:D} (h:Bm (n+1) ds=some r):mFn 2 (Ea (Bm n)) (ds.map .v) []=some (r,[]):=by
 match ds,h with
 | [a,b],h=>
  rw[Hr] at h
  split at h
  case isFalse=>cases h
  rename_i hg
  obtain ⟨rfl,hg⟩:=hg
  cases h
  cases a with
  | int i=>simp[Ea]
  | str i=>simp[Ea]
  | non=>cases n<;>exact hg.elim
  | bl b=>cases n<;>exact hg.elim
  | scr ns=>cases n<;>exact hg.elim
  | dic ks ys=>cases n<;>exact hg.elim
  | lst xs=>
   cases n with
   | zero=>exact hg.elim
   | succ n=>
    obtain ⟨hl,hg⟩:=hg
    let S:DS:=⟨[some (.v (.lst xs)),some (.v (.lst xs))],[],0⟩
    have q0:B3 (AB (AO Ag (AB (AA 1) AC)) AC) S=some (upTo 0 xs.length,S):=EV (Br (s':=S) (x:=.v (.lst xs)) rfl rfl) (by lia)
    have e:=K2 (a:=.lst xs) (xs:=xs) (fun i=>rfl) hg
    have q1:=A7 (CL (ix:=[0,1]) (nt:=1) q0 (by rw[Cr,Di];lia) e)
    have t0:AE (mOp Ca (AA 1) (mC .non)) S=some (false,S):=by simp[S]
    have t1:mOr (Am (A0 "tuple" (AA 1))) (Am (A0 "list" (AA 1))) S=some (true,S):=by simp[S]
    have t2:mOr (AE (mOp Ap (A0 "tuple" (AA 0)) (A0 "tuple" (AA 1)))) (AE (mOp Ap (A0 "list" (AA 0)) (A0 "list" (AA 1)))) S=some (false,S):=by simp[S]
    have t3:AE (mOp Ap (AO Ag (AB (AA 0) AC)) (AO Ag (AB (AA 1) AC))) S=some (false,S):=by simp[S]
    have q2:=BB (AS (g:=AR) q1 nil_of (z:=.bl true) rfl)
    unfold mFn Ea
    show (AG _ _ S).bind _=_
    rw[(AM ((Aj t0).trans rfl)).trans (Ba ((A2 t1).trans ((AM ((Aj t2).trans rfl)).trans ((AM ((Aj t3).trans rfl)).trans q2))))]
    rfl
  | tup xs=>
   cases n with
   | zero=>exact hg.elim
   | succ n=>
    obtain ⟨hl,hg⟩:=hg
    let S:DS:=⟨[some (.v (.tup xs)),some (.v (.tup xs))],[],0⟩
    have q0:B3 (AB (AO Ag (AB (AA 1) AC)) AC) S=some (upTo 0 xs.length,S):=EV (Br (s':=S) (x:=.v (.tup xs)) rfl rfl) (by lia)
    have e:=K2 (a:=.tup xs) (xs:=xs) (fun i=>rfl) hg
    have q1:=A7 (CL (ix:=[0,1]) (nt:=1) q0 (by rw[Cr,Di];lia) e)
    have t0:AE (mOp Ca (AA 1) (mC .non)) S=some (false,S):=by simp[S]
    have t1:mOr (Am (A0 "tuple" (AA 1))) (Am (A0 "list" (AA 1))) S=some (true,S):=by simp[S]
    have t2:mOr (AE (mOp Ap (A0 "tuple" (AA 0)) (A0 "tuple" (AA 1)))) (AE (mOp Ap (A0 "list" (AA 0)) (A0 "list" (AA 1)))) S=some (false,S):=by simp[S]
    have t3:AE (mOp Ap (AO Ag (AB (AA 0) AC)) (AO Ag (AB (AA 1) AC))) S=some (false,S):=by simp[S]
    have q2:=BB (AS (g:=AR) q1 nil_of (z:=.bl true) rfl)
    unfold mFn Ea
    show (AG _ _ S).bind _=_
    rw[(AM ((Aj t0).trans rfl)).trans (Ba ((A2 t1).trans ((AM ((Aj t2).trans rfl)).trans ((AM ((Aj t3).trans rfl)).trans q2))))]
    rfl
section
variable {P:Program} {w:World} {K:PySem.W.Frag} {mg:Str->Option Value} {base:Heap}
open Ev (Nm Cal)
theorem NZ {fa:Addr} {fd:FuncData} (F:Fun K "_law_alike" "_law_alike" E2 fa fd) (T:Nm mg) (b:Binds K fd ["found","due"] []) (m:mg "_law_alike"=some (.ref fa)):∀ n,FnOk P w K mg base CX0 n fa fd ["found","due"] (spQ K 2 (Bm n))
 | 0=>⟨fun vs H Q E h=>(by obtain ⟨ds,r,_,_,h,_⟩:=h;cases h),fun A outer s H args us vs Q E hr he hb hv h=>(by obtain ⟨ds,r,_,_,h,_⟩:=h;cases h)⟩
 | n+1=>Oc (Vb F T ⟨NZ F T b m n,b,F.kp,m⟩) fun ds r hl h _=>⟨[],Rz h⟩
end
end DL
namespace DL
open PySem L2 Ev TXM
def Low (y:Str) (n:Nat):Prop:=(∀ c∈cd y,c<128)/\y.length<=n
def Tx (m:ME) (S:DS) (n:Nat) (S':DS):Prop:=∃ y,m S=some (.v (.str y),S')/\Low y n
theorem Qr {x y:Str} {n k:Nat} (h1:Low x n) (h2:Low y k):Low (x++y) (n+k):=⟨fun c hc=>by
 have e:cd (x++y)=cd x++cd y:=by
  show (x.cps++y.cps).toList=_
  rw[Array.toList_append]
 rw[e] at hc
 rcases List.mem_append.mp hc with z | z
 ·exact h1.1 c z
 ·exact h2.1 c z,by rw[Str.length_append];have:=h1.2;have:=h2.2;lia⟩
theorem SY {x:Str} {n:Nat} {l u:Option Int} (h:Low x n):Low (BH x l u) n:=⟨fun c hc=>h.1 c (Ja hc),Nat.le_trans (Jd _ _ _) h.2⟩
theorem Tx.cat {a b:ME} {S S1 S2:DS} {n k:Nat} (h1:Tx a S n S1) (h2:Tx b S1 k S2) (hz:n+k<=1000000):Tx (mOp AV a b) S (n+k) S2:=by
 obtain ⟨x,e1,l1⟩:=h1
 obtain ⟨y,e2,l2⟩:=h2
 refine ⟨x++y,AS e1 e2 ?_,Qr l1 l2⟩
 show (if x.length+y.length<=big then some (D.str (x++y)) else none)=_
 have:=l1.2
 have:=l2.2
 rw[if_pos (by rw[C2];lia)]
theorem Tx.sl {m:ME} {S:DS} {n:Nat} {l u:Option ME} {i j:Option Int} (h:Tx m S n S) (hl:BW l S=some (i,S)) (hu:BW u S=some (j,S)) (hz:n<=1000000):Tx (mSl m l u) S n S:=by
 obtain ⟨x,e,lx⟩:=h
 refine ⟨BH x i j,?_,SY lx⟩
 unfold mSl
 rw[e,Option.bind_some]
 show ((BW l S).bind _)=_
 rw[hl,Option.bind_some]
 show ((BW u S).bind _)=_
 rw[hu,Option.bind_some]
 show ((if x.length<=big then some (D.str (BH x i j)) else none).map _)=_
 have:=lx.2
 rw[if_pos (by rw[C2];lia)]
 rfl
theorem part_of {m:ME} {S:DS} {i:Int} (h:m S=some (.v (.int i),S)):BW (some m) S=some (some i,S):=by
 unfold BW
 simp only[]
 rw[h]
 rfl
theorem Tx.rev {m:ME} {S:DS} {n:Nat} (h:Tx m S n S) (hz:n<=1000000):Tx (HV m) S n S:=by
 obtain ⟨x,e,lx⟩:=h
 have hr:Low (Dw x) n:=⟨fun c hc=>by
  have hc:c∈((Builtin.Str.strSliceIndices none none (-1) x.length).filterMap (x.cps[·]?)).toArray.toList:=hc
  rw[List.toList_toArray] at hc
  obtain ⟨k,_,hk⟩:=List.mem_filterMap.mp hc
  refine lx.1 c ?_
  have hk:x.cps[k]?=some c:=hk
  rw[<-Array.getElem?_toList] at hk
  exact List.mem_of_getElem? hk,Nat.le_trans (MM x) lx.2⟩
 refine ⟨Dw x,?_,hr⟩
 unfold HV
 rw[e,Option.bind_some]
 have:=lx.2
 show (if x.length<=big then some (SV.v (D.str (Dw x)),S) else none)=_
 rw[if_pos (by rw[C2];lia)]
theorem Tx.ix {a b:ME} {S S1 S2:DS} {xs:List Str} {i:Int} {n:Nat} (h1:a S=some (.v (.lst (xs.map .str)),S1)) (h2:b S1=some (.v (.int i),S2)) (h0:0<=i) (hi:i<xs.length) (hx:∀ x∈xs,Low x n):Tx (mOp gIx a b) S n S2:=by
 obtain ⟨k,rfl⟩:∃ k:Nat,i=k:=⟨i.toNat,by lia⟩
 have hlt:k<xs.length:=by lia
 refine ⟨xs[k],AS h1 h2 ?_,hx _ (List.getElem_mem hlt)⟩
 show atI (xs.map D.str) (k:Int)=_
 exact Cf (by rw[List.getElem?_map,List.getElem?_eq_getElem hlt];rfl)
theorem Dh {x:Str} {n:Nat} (h:(x.cps.toList.all fun c=>decide (c<128))=true) (hl:x.length<=n):Low x n:=⟨fun c hc=>of_decide_eq_true (List.all_eq_true.mp h c hc),hl⟩
theorem Tx.mono {m:ME} {S S':DS} {n k:Nat} (h:Tx m S n S') (hk:n<=k):Tx m S k S':=let ⟨y,e,l⟩:=h;⟨y,e,l.1,Nat.le_trans l.2 hk⟩
def FU:MD:=mFn 5 (FX BC)
theorem lists {S:DS} (xs:List Str) (ms:MA) (h:ms S=some ((xs.map D.str).map .v,S)) (hl:xs.length<=1000):AF (AX ms) S=some (.v (.lst (xs.map .str)),S):=A7 (IG (ds:=xs.map .str) h (by rw[List.length_map];exact hl))
theorem Rf {x:Str} {Γ:Gm} {n N:Nat} (p:Dk Γ n) (hx:Low x N) (hN:N<=4000):∃ y Γ',FU [.v (.str x),.b n] Γ=some (.str y,Γ')/\Low y (3 * N+100)/\Dd n Γ Γ':=by
 let S:Gm->Option SV->Option SV->Option SV->DS:=fun G a b c=>⟨[some (.v (.str x)),some (.b n),a,b,c],G,Γ.length⟩
 have hxl:=hx.2
 obtain ⟨r1,G1,e1,a1,b1,d1⟩:=Cg (m:=64) p (by decide)
 have p1:=d1.dk p
 obtain ⟨r2,G2,e2,a2,b2,d2⟩:=Cg (m:=64) p1 (by decide)
 have p2:=d2.dk p1
 obtain ⟨r3,G3,e3,a3,b3,d3⟩:=Cg (m:=31) p2 (by decide)
 have p3:=d3.dk p2
 obtain ⟨w,G4,e4,a4,b4,d4⟩:=Cg (m:=7) p3 (by decide)
 have p4:=d4.dk p3
 have dd:=((d1.trans d2).trans d3).trans d4
 have hlen:∀ G,Dd n Γ G->G.take Γ.length=G:=fun G d=>List.take_of_length_le (by rw[d.len];exact Nat.le_refl _)
 have f1:AK BC (AB (AA 1) (AB (mC (.int 64)) AC)) (S Γ none none none)=some (.v (.int r1),S G1 none none none):=BR (x:=.b n) (y:=.v (.int 64)) (s1:=S Γ none none none) (s2:=S Γ none none none) rfl rfl e1
 have f2:AK BC (AB (AA 1) (AB (mC (.int 64)) AC)) (S G1 none none none)=some (.v (.int r2),S G2 none none none):=BR (x:=.b n) (y:=.v (.int 64)) (s1:=S G1 none none none) (s2:=S G1 none none none) rfl rfl e2
 have f3:=DD (a:=mC (.int 64)) (i:=64) (S:=S G1 none none none) (S1:=S G1 none none none) rfl f2 (.inl ⟨by decide,by decide⟩)
 have f4:=B1 f1 f3
 have wl:=B1 (len_str (S:=S G2 none none none) (m:=AA 0) (x:=x) rfl (by lia)) (b:=mC (.int 1)) (j:=1) (S2:=S G2 none none none) rfl
 have hpos:(0:Int)<(x.length:Nat)+1:=by lia
 let at_:Int:=(r1+64 * r2) % ((x.length:Nat)+1)
 have g1:=An (i:=2) (AS (g:=BD) f4 wl (z:=.int at_) (by simp[at_,show FZ (r1+64 * r2) ((x.length:Nat)+1)=true from decide_eq_true hpos]))
 let A:Option SV:=some (.v (.int at_))
 have f5:AK BC (AB (AA 1) (AB (mC (.int 31)) AC)) (S G2 A none none)=some (.v (.int r3),S G3 A none none):=BR (x:=.b n) (y:=.v (.int 31)) (s1:=S G2 A none none) (s2:=S G2 A none none) rfl rfl e3
 obtain ⟨c,hc1,hc2⟩:=LK (xs:=(" 019-:,;abZ+_.\n\t/{`(=\x40[hmqz258~":Str).cps.toList) a3 (by rw[show (" 019-:,;abZ+_.\n\t/{`(=\x40[hmqz258~":Str).cps.toList.length=31 by decide +kernel];lia)
 have hc3:c<128:=by
  have:=(show ((" 019-:,;abZ+_.\n\t/{`(=\x40[hmqz258~":Str).cps.toList.all fun c=>decide (c<128))=true by decide +kernel)
  exact of_decide_eq_true (List.all_eq_true.mp this c hc2)
 have f6:mOp gIx (mC (.str " 019-:,;abZ+_.\n\t/{`(=\x40[hmqz258~")) (AK BC (AB (AA 1) (AB (mC (.int 31)) AC))) (S G2 A none none)=some (.v (.str ⟨#[c]⟩),S G3 A none none):=AS (x:=.v (.str " 019-:,;abZ+_.\n\t/{`(=\x40[hmqz258~")) (s1:=S G2 A none none) rfl f5 (by
  show (if (" 019-:,;abZ+_.\n\t/{`(=\x40[hmqz258~":Str).length<=big then (atI (" 019-:,;abZ+_.\n\t/{`(=\x40[hmqz258~":Str).cps.toList r3).map fun c=>D.str ⟨#[c]⟩ else none)=_
  rw[if_pos (by decide +kernel),hc1]
  rfl)
 have g2:=An (i:=3) f6
 let C:Option SV:=some (.v (.str ⟨#[c]⟩))
 have f7:AK BC (AB (AA 1) (AB (mC (.int 7)) AC)) (S G3 A C none)=some (.v (.int w),S G4 A C none):=BR (x:=.b n) (y:=.v (.int 7)) (s1:=S G3 A C none) (s2:=S G3 A C none) rfl rfl e4
 let W:Option SV:=some (.v (.int w))
 let T:DS:=S G4 A C W
 have g3:AL 4 (AK BC (AB (AA 1) (AB (mC (.int 7)) AC))) (S G3 A C none)=some (.nx T):=An (i:=4) f7
 have tx:Tx (AA 0) T N T:=⟨x,rfl,hx⟩
 have tc:Tx (AA 3) T 1 T:=⟨⟨#[c]⟩,rfl,fun d hd=>by
  have hd:d∈[c]:=hd
  rw[List.mem_singleton.mp hd]
  exact hc3,Nat.le_refl _⟩
 have pa:BW (some (AA 2)) T=some (some at_,T):=part_of rfl
 have pk:∀ k:Int,BW (some (mOp AV (AA 2) (mC (.int k)))) T=some (some (at_+k),T):=fun k=>part_of (B1 (a:=AA 2) (b:=mC (.int k)) (S1:=T) rfl rfl)
 have pm:BW (some (mOp Df (mOp AV (AA 2) (AA 4)) (mC (.int 1)))) T=some (some (at_+w - 1),T):=part_of (FY (B1 (a:=AA 2) (b:=AA 4) (i:=at_) (j:=w) (S:=T) (S1:=T) (S2:=T) rfl rfl) (b:=mC (.int 1)) (j:=1) (S2:=T) rfl)
 have p0:BW none T=some (none,T):=rfl
 have ret:∀ (m:ME) (k:Nat) (s':DS),Tx m T k s'->Dd n Γ s'.Γ->k<=3 * N+100->∃ y,Aa m T=some (.rt (.str y) s')/\Low y (3 * N+100)/\s'.Γ.take Γ.length=s'.Γ:=fun m k s' h d hk=>by
  obtain ⟨y,e1,l⟩:=h.mono hk
  exact ⟨y,BB e1,l,hlen _ d⟩
 have eq0:∀ k:Int,AE (mOp AR (AA 4) (mC (.int k))) T=some (decide (w=k),T):=fun k=>Au (AS (x:=.v (.int w)) (y:=.v (.int k)) (s1:=T) (s2:=T) rfl rfl rfl)
 have lt3:AE (mOp Cd (AA 4) (mC (.int 3))) T=some (decide (w<3),T):=Au (AS (x:=.v (.int w)) (y:=.v (.int 3)) (s1:=T) (s2:=T) rfl rfl rfl)
 have skip:AU T=some (.nx T):=rfl
 obtain ⟨o,y,s',eo,hy,ht,hd⟩:∃ (o:Out) (y:Str) (s':DS),(FX BC) (S Γ none none none)=some (.rt (.str y) s')/\Low y (3 * N+100)/\s'.Γ.take Γ.length=s'.Γ/\Dd n Γ s'.Γ:=by
  refine ⟨.nx T,?_⟩
  unfold FX
  rw[(AM g1).trans ((AM g2).trans (AM g3))]
  by_cases c0:w=0
  ·obtain ⟨y,e,l,t⟩:=ret _ _ T (Tx.cat (tx.sl p0 pa (by lia)) (tx.sl (pk 1) p0 (by lia)) (by lia)) dd (by lia)
   have z:=eq0 0
   rw[decide_eq_true c0] at z
   exact ⟨y,T,Ba ((A2 z).trans e),l,t,dd⟩
  have z0:=eq0 0
  rw[decide_eq_false c0] at z0
  rw[AM ((Aj z0).trans skip)]
  by_cases c1:w<3
  ·obtain ⟨y,e,l,t⟩:=ret _ _ T (Tx.cat (Tx.cat (tx.sl p0 pa (by lia)) tc (by lia)) (tx.sl pm p0 (by lia)) (by lia)) dd (by lia)
   rw[decide_eq_true c1] at lt3
   exact ⟨y,T,Ba ((A2 lt3).trans e),l,t,dd⟩
  rw[decide_eq_false c1] at lt3
  rw[AM ((Aj lt3).trans skip)]
  by_cases c3:w=3
  ·obtain ⟨y,e,l,t⟩:=ret _ _ T (Tx.cat (Tx.cat (tx.sl p0 pa (by lia)) (Tx.rev (tx.sl pa (pk 2) (by lia)) (by lia)) (by lia)) (tx.sl (pk 2) p0 (by lia)) (by lia)) dd (by lia)
   have z:=eq0 3
   rw[decide_eq_true c3] at z
   exact ⟨y,T,Ba ((A2 z).trans e),l,t,dd⟩
  have z3:=eq0 3
  rw[decide_eq_false c3] at z3
  rw[AM ((Aj z3).trans skip)]
  by_cases c4:w=4
  ·obtain ⟨y,e,l,t⟩:=ret _ _ T (Tx.cat (Tx.cat (tx.sl p0 pa (by lia)) (tx.sl pa (pk 5) (by lia)) (by lia)) (tx.sl pa p0 (by lia)) (by lia)) dd (by lia)
   have z:=eq0 4
   rw[decide_eq_true c4] at z
   exact ⟨y,T,Ba ((A2 z).trans e),l,t,dd⟩
  have z4:=eq0 4
  rw[decide_eq_false c4] at z4
  rw[AM ((Aj z4).trans skip)]
  by_cases c5:w=5
  ·obtain ⟨r5,G5,e5,a5,b5,d5⟩:=Cg (m:=8) p4 (by decide)
   have f8:AK BC (AB (AA 1) (AB (mC (.int 8)) AC)) T=some (.v (.int r5),S G5 A C W):=BR (x:=.b n) (y:=.v (.int 8)) (s1:=T) (s2:=T) rfl rfl e5
   obtain ⟨y,e,l,t⟩:=ret _ _ (S G5 A C W) (Tx.cat tx (Tx.ix (n:=3) (lists [" ",";","; ",", ","; -",", -","\n","a"] (AB (mC (.str " ")) (AB (mC (.str ";")) (AB (mC (.str "; ")) (AB (mC (.str ", ")) (AB (mC (.str "; -")) (AB (mC (.str ", -")) (AB (mC (.str "\n")) (AB (mC (.str "a")) AC)))))))) rfl (by decide)) f8 a5 b5 (fun x hx=>by
    simp only[List.mem_cons,List.not_mem_nil,or_false] at hx
    rcases hx with rfl | rfl | rfl | rfl | rfl | rfl | rfl | rfl<;>exact Dh (by decide +kernel) (by decide +kernel))) (by lia)) (dd.trans d5) (by lia)
   have z:=eq0 5
   rw[decide_eq_true c5] at z
   exact ⟨y,_,Ba ((A2 z).trans e),l,t,dd.trans d5⟩
  have z5:=eq0 5
  rw[decide_eq_false c5] at z5
  rw[AM ((Aj z5).trans skip)]
  obtain ⟨r5,G5,e5,a5,b5,d5⟩:=Cg (m:=6) p4 (by decide)
  have f8:AK BC (AB (AA 1) (AB (mC (.int 6)) AC)) T=some (.v (.int r5),S G5 A C W):=BR (x:=.b n) (y:=.v (.int 6)) (s1:=T) (s2:=T) rfl rfl e5
  obtain ⟨y,e,l,t⟩:=ret _ _ (S G5 A C W) (Tx.cat (Tx.ix (n:=3) (lists [" ","-","; ",", ","0","- "] (AB (mC (.str " ")) (AB (mC (.str "-")) (AB (mC (.str "; ")) (AB (mC (.str ", ")) (AB (mC (.str "0")) (AB (mC (.str "- ")) AC)))))) rfl (by decide)) f8 a5 b5 (fun x hx=>by
    simp only[List.mem_cons,List.not_mem_nil,or_false] at hx
    rcases hx with rfl | rfl | rfl | rfl | rfl | rfl<;>exact Dh (by decide +kernel) (by decide +kernel))) (b:=AA 0) (k:=N) ⟨x,rfl,hx⟩ (by lia)) (dd.trans d5) (by lia)
  exact ⟨y,_,e,l,t,dd.trans d5⟩
 refine ⟨y,s'.Γ,?_,hy,hd⟩
 unfold FU mFn
 show ((FX BC) (S Γ none none none)).bind _=_
 rw[eo]
 show some (D.str y,s'.Γ.take Γ.length)=_
 rw[ht]
def FN:MD:=mFn 2 IK
def oddL:List Str:=([""," ","-","--","- ","; ","-; -"]:List Str)++(["-; -; -; -; -; -","-; -; -; -; -; -; -","-;-","-, -","1:a","1:a, "]:List Str)++([", 1:a","1:a,2:b","1:a,  2:b","1:a; 2:b","1:a;2:b","1 :a"]:List Str)++(["1: a","1:a:b",":a","1:","1","a:1"]:List Str)++(["0:a","-0:a","00:a","-1:a","- 1:a","+1:a"]:List Str)++(["1:A","1:aaaaaaaa","1:aaaaaaaaa","-; 1:a","1:a, -"]:List Str)++(["none","[]","(1, a)","1:a\n","1:a; ","1:a;"]:List Str)
theorem Sw:(oddL.all fun x=>(x.cps.toList.all fun c=>decide (c<128)) && decide (x.length<=40))=true:=by decide +kernel
theorem P5 {r:Int} {Γ:Gm}:∃ y,FN [.v (.int r)] Γ=some (.str y,Γ)/\Low y 40:=by
 have tk:Γ.take Γ.length=Γ:=List.take_length
 let S:List Str->DS:=fun xs=>⟨[some (.v (.int r)),some (.v (.lst (xs.map .str)))],Γ,Γ.length⟩
 let S0:DS:=⟨[some (.v (.int r)),none],Γ,Γ.length⟩
 have g1:AL 1 (AF (AX (AB (mC (.str "")) (AB (mC (.str " ")) (AB (mC (.str "-")) (AB (mC (.str "--")) (AB (mC (.str "- ")) (AB (mC (.str "; ")) (AB (mC (.str "-; -")) AC))))))))) S0=some (.nx (S ([""," ","-","--","- ","; ","-; -"]:List Str))):=An (lists [""," ","-","--","- ","; ","-; -"] (AB (mC (.str "")) (AB (mC (.str " ")) (AB (mC (.str "-")) (AB (mC (.str "--")) (AB (mC (.str "- ")) (AB (mC (.str "; ")) (AB (mC (.str "-; -")) AC))))))) rfl (by decide))
 have g2:AL 1 (AF (BE A9 (AA 1) (AF (AX (AB (mC (.str "-; -; -; -; -; -")) (AB (mC (.str "-; -; -; -; -; -; -")) (AB (mC (.str "-;-")) (AB (mC (.str "-, -")) (AB (mC (.str "1:a")) (AB (mC (.str "1:a, ")) AC)))))))))) (S ([""," ","-","--","- ","; ","-; -"]:List Str))=some (.nx (S (([""," ","-","--","- ","; ","-; -"]:List Str)++(["-; -; -; -; -; -","-; -; -; -; -; -; -","-;-","-, -","1:a","1:a, "]:List Str)))):=An (A7 (Ct (g:=A9) (x:=.v (.lst (([""," ","-","--","- ","; ","-; -"]:List Str).map .str))) (s1:=S ([""," ","-","--","- ","; ","-; -"]:List Str)) rfl (lists ["-; -; -; -; -; -","-; -; -; -; -; -; -","-;-","-, -","1:a","1:a, "] (AB (mC (.str "-; -; -; -; -; -")) (AB (mC (.str "-; -; -; -; -; -; -")) (AB (mC (.str "-;-")) (AB (mC (.str "-, -")) (AB (mC (.str "1:a")) (AB (mC (.str "1:a, ")) AC)))))) rfl (by decide)) (z:=(([""," ","-","--","- ","; ","-; -"]:List Str)++(["-; -; -; -; -; -","-; -; -; -; -; -; -","-;-","-, -","1:a","1:a, "]:List Str)).map .str) rfl))
 have g3:AL 1 (AF (BE A9 (AA 1) (AF (AX (AB (mC (.str ", 1:a")) (AB (mC (.str "1:a,2:b")) (AB (mC (.str "1:a,  2:b")) (AB (mC (.str "1:a; 2:b")) (AB (mC (.str "1:a;2:b")) (AB (mC (.str "1 :a")) AC)))))))))) (S (([""," ","-","--","- ","; ","-; -"]:List Str)++(["-; -; -; -; -; -","-; -; -; -; -; -; -","-;-","-, -","1:a","1:a, "]:List Str)))=some (.nx (S ((([""," ","-","--","- ","; ","-; -"]:List Str)++(["-; -; -; -; -; -","-; -; -; -; -; -; -","-;-","-, -","1:a","1:a, "]:List Str))++([", 1:a","1:a,2:b","1:a,  2:b","1:a; 2:b","1:a;2:b","1 :a"]:List Str)))):=An (A7 (Ct (g:=A9) (x:=.v (.lst ((([""," ","-","--","- ","; ","-; -"]:List Str)++(["-; -; -; -; -; -","-; -; -; -; -; -; -","-;-","-, -","1:a","1:a, "]:List Str)).map .str))) (s1:=S (([""," ","-","--","- ","; ","-; -"]:List Str)++(["-; -; -; -; -; -","-; -; -; -; -; -; -","-;-","-, -","1:a","1:a, "]:List Str))) rfl (lists [", 1:a","1:a,2:b","1:a,  2:b","1:a; 2:b","1:a;2:b","1 :a"] (AB (mC (.str ", 1:a")) (AB (mC (.str "1:a,2:b")) (AB (mC (.str "1:a,  2:b")) (AB (mC (.str "1:a; 2:b")) (AB (mC (.str "1:a;2:b")) (AB (mC (.str "1 :a")) AC)))))) rfl (by decide)) (z:=((([""," ","-","--","- ","; ","-; -"]:List Str)++(["-; -; -; -; -; -","-; -; -; -; -; -; -","-;-","-, -","1:a","1:a, "]:List Str))++([", 1:a","1:a,2:b","1:a,  2:b","1:a; 2:b","1:a;2:b","1 :a"]:List Str)).map .str) rfl))
 have g4:AL 1 (AF (BE A9 (AA 1) (AF (AX (AB (mC (.str "1: a")) (AB (mC (.str "1:a:b")) (AB (mC (.str ":a")) (AB (mC (.str "1:")) (AB (mC (.str "1")) (AB (mC (.str "a:1")) AC)))))))))) (S ((([""," ","-","--","- ","; ","-; -"]:List Str)++(["-; -; -; -; -; -","-; -; -; -; -; -; -","-;-","-, -","1:a","1:a, "]:List Str))++([", 1:a","1:a,2:b","1:a,  2:b","1:a; 2:b","1:a;2:b","1 :a"]:List Str)))=some (.nx (S (((([""," ","-","--","- ","; ","-; -"]:List Str)++(["-; -; -; -; -; -","-; -; -; -; -; -; -","-;-","-, -","1:a","1:a, "]:List Str))++([", 1:a","1:a,2:b","1:a,  2:b","1:a; 2:b","1:a;2:b","1 :a"]:List Str))++(["1: a","1:a:b",":a","1:","1","a:1"]:List Str)))):=An (A7 (Ct (g:=A9) (x:=.v (.lst (((([""," ","-","--","- ","; ","-; -"]:List Str)++(["-; -; -; -; -; -","-; -; -; -; -; -; -","-;-","-, -","1:a","1:a, "]:List Str))++([", 1:a","1:a,2:b","1:a,  2:b","1:a; 2:b","1:a;2:b","1 :a"]:List Str)).map .str))) (s1:=S ((([""," ","-","--","- ","; ","-; -"]:List Str)++(["-; -; -; -; -; -","-; -; -; -; -; -; -","-;-","-, -","1:a","1:a, "]:List Str))++([", 1:a","1:a,2:b","1:a,  2:b","1:a; 2:b","1:a;2:b","1 :a"]:List Str))) rfl (lists ["1: a","1:a:b",":a","1:","1","a:1"] (AB (mC (.str "1: a")) (AB (mC (.str "1:a:b")) (AB (mC (.str ":a")) (AB (mC (.str "1:")) (AB (mC (.str "1")) (AB (mC (.str "a:1")) AC)))))) rfl (by decide)) (z:=(((([""," ","-","--","- ","; ","-; -"]:List Str)++(["-; -; -; -; -; -","-; -; -; -; -; -; -","-;-","-, -","1:a","1:a, "]:List Str))++([", 1:a","1:a,2:b","1:a,  2:b","1:a; 2:b","1:a;2:b","1 :a"]:List Str))++(["1: a","1:a:b",":a","1:","1","a:1"]:List Str)).map .str) rfl))
 have g5:AL 1 (AF (BE A9 (AA 1) (AF (AX (AB (mC (.str "0:a")) (AB (mC (.str "-0:a")) (AB (mC (.str "00:a")) (AB (mC (.str "-1:a")) (AB (mC (.str "- 1:a")) (AB (mC (.str "+1:a")) AC)))))))))) (S (((([""," ","-","--","- ","; ","-; -"]:List Str)++(["-; -; -; -; -; -","-; -; -; -; -; -; -","-;-","-, -","1:a","1:a, "]:List Str))++([", 1:a","1:a,2:b","1:a,  2:b","1:a; 2:b","1:a;2:b","1 :a"]:List Str))++(["1: a","1:a:b",":a","1:","1","a:1"]:List Str)))=some (.nx (S ((((([""," ","-","--","- ","; ","-; -"]:List Str)++(["-; -; -; -; -; -","-; -; -; -; -; -; -","-;-","-, -","1:a","1:a, "]:List Str))++([", 1:a","1:a,2:b","1:a,  2:b","1:a; 2:b","1:a;2:b","1 :a"]:List Str))++(["1: a","1:a:b",":a","1:","1","a:1"]:List Str))++(["0:a","-0:a","00:a","-1:a","- 1:a","+1:a"]:List Str)))):=An (A7 (Ct (g:=A9) (x:=.v (.lst ((((([""," ","-","--","- ","; ","-; -"]:List Str)++(["-; -; -; -; -; -","-; -; -; -; -; -; -","-;-","-, -","1:a","1:a, "]:List Str))++([", 1:a","1:a,2:b","1:a,  2:b","1:a; 2:b","1:a;2:b","1 :a"]:List Str))++(["1: a","1:a:b",":a","1:","1","a:1"]:List Str)).map .str))) (s1:=S (((([""," ","-","--","- ","; ","-; -"]:List Str)++(["-; -; -; -; -; -","-; -; -; -; -; -; -","-;-","-, -","1:a","1:a, "]:List Str))++([", 1:a","1:a,2:b","1:a,  2:b","1:a; 2:b","1:a;2:b","1 :a"]:List Str))++(["1: a","1:a:b",":a","1:","1","a:1"]:List Str))) rfl (lists ["0:a","-0:a","00:a","-1:a","- 1:a","+1:a"] (AB (mC (.str "0:a")) (AB (mC (.str "-0:a")) (AB (mC (.str "00:a")) (AB (mC (.str "-1:a")) (AB (mC (.str "- 1:a")) (AB (mC (.str "+1:a")) AC)))))) rfl (by decide)) (z:=((((([""," ","-","--","- ","; ","-; -"]:List Str)++(["-; -; -; -; -; -","-; -; -; -; -; -; -","-;-","-, -","1:a","1:a, "]:List Str))++([", 1:a","1:a,2:b","1:a,  2:b","1:a; 2:b","1:a;2:b","1 :a"]:List Str))++(["1: a","1:a:b",":a","1:","1","a:1"]:List Str))++(["0:a","-0:a","00:a","-1:a","- 1:a","+1:a"]:List Str)).map .str) rfl))
 have g6:AL 1 (AF (BE A9 (AA 1) (AF (AX (AB (mC (.str "1:A")) (AB (mC (.str "1:aaaaaaaa")) (AB (mC (.str "1:aaaaaaaaa")) (AB (mC (.str "-; 1:a")) (AB (mC (.str "1:a, -")) AC))))))))) (S ((((([""," ","-","--","- ","; ","-; -"]:List Str)++(["-; -; -; -; -; -","-; -; -; -; -; -; -","-;-","-, -","1:a","1:a, "]:List Str))++([", 1:a","1:a,2:b","1:a,  2:b","1:a; 2:b","1:a;2:b","1 :a"]:List Str))++(["1: a","1:a:b",":a","1:","1","a:1"]:List Str))++(["0:a","-0:a","00:a","-1:a","- 1:a","+1:a"]:List Str)))=some (.nx (S (((((([""," ","-","--","- ","; ","-; -"]:List Str)++(["-; -; -; -; -; -","-; -; -; -; -; -; -","-;-","-, -","1:a","1:a, "]:List Str))++([", 1:a","1:a,2:b","1:a,  2:b","1:a; 2:b","1:a;2:b","1 :a"]:List Str))++(["1: a","1:a:b",":a","1:","1","a:1"]:List Str))++(["0:a","-0:a","00:a","-1:a","- 1:a","+1:a"]:List Str))++(["1:A","1:aaaaaaaa","1:aaaaaaaaa","-; 1:a","1:a, -"]:List Str)))):=An (A7 (Ct (g:=A9) (x:=.v (.lst (((((([""," ","-","--","- ","; ","-; -"]:List Str)++(["-; -; -; -; -; -","-; -; -; -; -; -; -","-;-","-, -","1:a","1:a, "]:List Str))++([", 1:a","1:a,2:b","1:a,  2:b","1:a; 2:b","1:a;2:b","1 :a"]:List Str))++(["1: a","1:a:b",":a","1:","1","a:1"]:List Str))++(["0:a","-0:a","00:a","-1:a","- 1:a","+1:a"]:List Str)).map .str))) (s1:=S ((((([""," ","-","--","- ","; ","-; -"]:List Str)++(["-; -; -; -; -; -","-; -; -; -; -; -; -","-;-","-, -","1:a","1:a, "]:List Str))++([", 1:a","1:a,2:b","1:a,  2:b","1:a; 2:b","1:a;2:b","1 :a"]:List Str))++(["1: a","1:a:b",":a","1:","1","a:1"]:List Str))++(["0:a","-0:a","00:a","-1:a","- 1:a","+1:a"]:List Str))) rfl (lists ["1:A","1:aaaaaaaa","1:aaaaaaaaa","-; 1:a","1:a, -"] (AB (mC (.str "1:A")) (AB (mC (.str "1:aaaaaaaa")) (AB (mC (.str "1:aaaaaaaaa")) (AB (mC (.str "-; 1:a")) (AB (mC (.str "1:a, -")) AC))))) rfl (by decide)) (z:=(((((([""," ","-","--","- ","; ","-; -"]:List Str)++(["-; -; -; -; -; -","-; -; -; -; -; -; -","-;-","-, -","1:a","1:a, "]:List Str))++([", 1:a","1:a,2:b","1:a,  2:b","1:a; 2:b","1:a;2:b","1 :a"]:List Str))++(["1: a","1:a:b",":a","1:","1","a:1"]:List Str))++(["0:a","-0:a","00:a","-1:a","- 1:a","+1:a"]:List Str))++(["1:A","1:aaaaaaaa","1:aaaaaaaaa","-; 1:a","1:a, -"]:List Str)).map .str) rfl))
 have g7:AL 1 (AF (BE A9 (AA 1) (AF (AX (AB (mC (.str "none")) (AB (mC (.str "[]")) (AB (mC (.str "(1, a)")) (AB (mC (.str "1:a\n")) (AB (mC (.str "1:a; ")) (AB (mC (.str "1:a;")) AC)))))))))) (S (((((([""," ","-","--","- ","; ","-; -"]:List Str)++(["-; -; -; -; -; -","-; -; -; -; -; -; -","-;-","-, -","1:a","1:a, "]:List Str))++([", 1:a","1:a,2:b","1:a,  2:b","1:a; 2:b","1:a;2:b","1 :a"]:List Str))++(["1: a","1:a:b",":a","1:","1","a:1"]:List Str))++(["0:a","-0:a","00:a","-1:a","- 1:a","+1:a"]:List Str))++(["1:A","1:aaaaaaaa","1:aaaaaaaaa","-; 1:a","1:a, -"]:List Str)))=some (.nx (S ((((((([""," ","-","--","- ","; ","-; -"]:List Str)++(["-; -; -; -; -; -","-; -; -; -; -; -; -","-;-","-, -","1:a","1:a, "]:List Str))++([", 1:a","1:a,2:b","1:a,  2:b","1:a; 2:b","1:a;2:b","1 :a"]:List Str))++(["1: a","1:a:b",":a","1:","1","a:1"]:List Str))++(["0:a","-0:a","00:a","-1:a","- 1:a","+1:a"]:List Str))++(["1:A","1:aaaaaaaa","1:aaaaaaaaa","-; 1:a","1:a, -"]:List Str))++(["none","[]","(1, a)","1:a\n","1:a; ","1:a;"]:List Str)))):=An (A7 (Ct (g:=A9) (x:=.v (.lst ((((((([""," ","-","--","- ","; ","-; -"]:List Str)++(["-; -; -; -; -; -","-; -; -; -; -; -; -","-;-","-, -","1:a","1:a, "]:List Str))++([", 1:a","1:a,2:b","1:a,  2:b","1:a; 2:b","1:a;2:b","1 :a"]:List Str))++(["1: a","1:a:b",":a","1:","1","a:1"]:List Str))++(["0:a","-0:a","00:a","-1:a","- 1:a","+1:a"]:List Str))++(["1:A","1:aaaaaaaa","1:aaaaaaaaa","-; 1:a","1:a, -"]:List Str)).map .str))) (s1:=S (((((([""," ","-","--","- ","; ","-; -"]:List Str)++(["-; -; -; -; -; -","-; -; -; -; -; -; -","-;-","-, -","1:a","1:a, "]:List Str))++([", 1:a","1:a,2:b","1:a,  2:b","1:a; 2:b","1:a;2:b","1 :a"]:List Str))++(["1: a","1:a:b",":a","1:","1","a:1"]:List Str))++(["0:a","-0:a","00:a","-1:a","- 1:a","+1:a"]:List Str))++(["1:A","1:aaaaaaaa","1:aaaaaaaaa","-; 1:a","1:a, -"]:List Str))) rfl (lists ["none","[]","(1, a)","1:a\n","1:a; ","1:a;"] (AB (mC (.str "none")) (AB (mC (.str "[]")) (AB (mC (.str "(1, a)")) (AB (mC (.str "1:a\n")) (AB (mC (.str "1:a; ")) (AB (mC (.str "1:a;")) AC)))))) rfl (by decide)) (z:=((((((([""," ","-","--","- ","; ","-; -"]:List Str)++(["-; -; -; -; -; -","-; -; -; -; -; -; -","-;-","-, -","1:a","1:a, "]:List Str))++([", 1:a","1:a,2:b","1:a,  2:b","1:a; 2:b","1:a;2:b","1 :a"]:List Str))++(["1: a","1:a:b",":a","1:","1","a:1"]:List Str))++(["0:a","-0:a","00:a","-1:a","- 1:a","+1:a"]:List Str))++(["1:A","1:aaaaaaaa","1:aaaaaaaaa","-; 1:a","1:a, -"]:List Str))++(["none","[]","(1, a)","1:a\n","1:a; ","1:a;"]:List Str)).map .str) rfl))
 have wl:AO Ag (AB (AA 1) AC) (S oddL)=some (.v (.int 42),S oddL):=rfl
 have wm:=AS (g:=BD) (a:=AA 0) (x:=.v (.int r)) (s:=S oddL) (s1:=S oddL) rfl wl (z:=.int (r % 42)) (by simp[show FZ r 42=true from decide_eq_true (by decide)])
 have m0:=Int.emod_nonneg r (show (42:Int)≠0 by decide)
 have m1:=Int.emod_lt_of_pos r (show (0:Int)<42 by decide)
 obtain ⟨y,e,l⟩:=Tx.ix (a:=AA 1) (S:=S oddL) (S1:=S oddL) (xs:=oddL) (n:=40) rfl wm m0 m1 (fun x hx=>by
  have:=List.all_eq_true.mp Sw x hx
  rw[Bool.and_eq_true,decide_eq_true_eq] at this
  exact Dh this.1 this.2)
 refine ⟨y,?_,l⟩
 unfold FN mFn IK
 show (AG _ _ S0).bind _=_
 rw[AM g1,AM g2,AM g3,AM g4,AM g5,AM g6,AM g7]
 show (Aa _ (S oddL)).bind _=_
 rw[BB e]
 show some (_,Γ.take Γ.length)=_
 rw[tk]
structure Bx (L:Nat) (G:Gm) (i:Nat) (xs:List Str) (N:Nat):Prop where
 hi:L<=i
 g:G[i]?=some (some (xs.map .str))
 ne:xs≠[]
 low:∀ x∈xs,∀ c∈cd x,c<128
 tot:(xs.map (·.length)).sum<=N
theorem OO {p:Str}:∀ (l:List Str),p∈l->p.length<=(l.map (·.length)).sum:=by
 intro l
 induction l with
 | nil=>intro z;cases z
 | cons q l ih=>
  intro z
  rw[List.map_cons,List.sum_cons]
  rcases List.mem_cons.mp z with z | z
  ·rw[z];lia
  ·have:=ih z
   lia
theorem sum_set {y:Str}:∀ (l:List Str) (m:Nat),((l.set m y).map (·.length)).sum<=(l.map (·.length)).sum+y.length:=by
 intro l
 induction l with
 | nil=>intro m;simp
 | cons q l ih=>
  intro m
  cases m with
  | zero=>rw[List.set_cons_zero,List.map_cons,List.map_cons,List.sum_cons,List.sum_cons];lia
  | succ m=>rw[List.set_cons_succ,List.map_cons,List.map_cons,List.sum_cons,List.sum_cons];have:=ih m;lia
theorem Bx.one {L:Nat} {G:Gm} {i:Nat} {xs:List Str} {N:Nat} (h:Bx L G i xs N) {x:Str} (hx:x∈xs):Low x N:=⟨h.low x hx,Nat.le_trans (OO xs hx) h.tot⟩
def TD (Γ:Gm) (n:Nat) (G:Gm):Prop:=Dd n Γ (G.take Γ.length)/\Γ.length<=G.length
section
variable {Γ G G':Gm} {n i:Nat} {xs:List Str} {N:Nat}
theorem TD.dk (h:TD Γ n G) (p:Dk Γ n):Dk G n:=by
 obtain ⟨l,e,hl⟩:=h.1.dk p
 refine ⟨l,?_,hl⟩
 rw[List.getElem?_take_of_lt p.lt] at e
 exact e
theorem TD.dd (h:TD Γ n G) (d:Dd n G G'):TD Γ n G':=by
 obtain ⟨l,rfl,hl⟩:=d
 refine ⟨?_,by rw[List.length_set];exact h.2⟩
 rw[List.take_set]
 exact h.1.trans ⟨l,rfl,hl⟩
theorem TD.app (h:TD Γ n G) (x:Option (List D)):TD Γ n (G++[x]):=⟨by rw[List.take_append_of_le_length h.2];exact h.1,by rw[List.length_append];exact Nat.le_trans h.2 (Nat.le_add_right _ _)⟩
theorem TD.set (h:TD Γ n G) (hi:Γ.length<=i) (x:Option (List D)):TD Γ n (G.set i x):=⟨by rw[List.take_set_of_le hi];exact h.1,by rw[List.length_set];exact h.2⟩
theorem Bx.dd (h:Bx Γ.length G i xs N) (p:n<Γ.length) (d:Dd n G G'):Bx Γ.length G' i xs N:=⟨h.hi,by rw[d.out (by have:=h.hi;lia)];exact h.g,h.ne,h.low,h.tot⟩
theorem Bx.app (h:Bx Γ.length G i xs N) (x:Option (List D)):Bx Γ.length (G++[x]) i xs N:=⟨h.hi,by rw[List.getElem?_append_left (List.getElem?_eq_some_iff.mp h.g).1];exact h.g,h.ne,h.low,h.tot⟩
theorem Bx.new (h2:Γ.length<=G.length) (ne:xs≠[]) (low:∀ x∈xs,∀ c∈cd x,c<128) (tot:(xs.map (·.length)).sum<=N):Bx Γ.length (G++[some (xs.map .str)]) G.length xs N:=⟨h2,B2,ne,low,tot⟩
theorem Bx.lenG (h:Bx Γ.length G i xs N):Ag G [.b i]=some (.int (xs.length:Nat)):=by
 show (((G[i]?).join).map fun ys=>D.int (ys.length:Nat))=_
 rw[h.g]
 show some (D.int ((xs.map D.str).length:Nat))=_
 rw[List.length_map]
theorem Bx.ixG (h:Bx Γ.length G i xs N) {k:Int} (h0:0<=k) (hk:k<xs.length):∃ y∈xs,gIx G (.b i) (.v (.int k))=some (.str y):=by
 obtain ⟨m,rfl⟩:∃ m:Nat,k=m:=⟨k.toNat,by lia⟩
 have hm:m<xs.length:=by lia
 refine ⟨xs[m],List.getElem_mem hm,?_⟩
 show (((G[i]?).join).bind fun ys=>atI ys (m:Int))=_
 rw[h.g]
 show atI (xs.map D.str) (m:Int)=_
 exact Cf (by rw[List.getElem?_map,List.getElem?_eq_getElem hm];rfl)
theorem Bx.put (h:Bx Γ.length G i xs N) {m K:Nat} {y:Str} (hy:Low y K):Bx Γ.length (G.set i (some ((xs.map D.str).set m (.str y)))) i (xs.set m y) (N+K):=by
 have hl:=(List.getElem?_eq_some_iff.mp h.g).1
 refine ⟨h.hi,?_,fun z=>h.ne (by simpa using z),fun x hx=>?_,?_⟩
 ·rw[List.getElem?_set_self hl,List.map_set]
 ·rcases List.mem_or_eq_of_mem_set hx with z | z
  ·exact h.low x z
  ·rw[z];exact hy.1
 ·have:=sum_set (y:=y) xs m
  have:=h.tot
  have:=hy.2
  lia
theorem GV (x y:Str):Txt.split x y≠[]:=fun z=>by
 have hz:1<=(Txt.split x y).length:=by
  unfold Txt.split
  split
  ·simp
  ·split
   ·simp
   ·rw[length_partsBetween];lia
 rw[z] at hz
 simp at hz
theorem KH {x y:Str} (h:Low x N):(∀ p∈Txt.split x y,∀ c∈cd p,c<128)/\((Txt.split x y).map (·.length)).sum<=N:=by
 have e:=PySem.StrLaws.join_split x y
 refine ⟨fun p hp c hc=>h.1 c (by rw[<-e];exact JZ hp hc),?_⟩
 have e2:=Dt (y:=y) (Txt.split x y)
 rw[e] at e2
 have:=h.2
 lia
theorem KJ {S:DS} {m:ME} {y:Str} {ps:List Str} {x:SV} (h:m S=some (x,S)) (hx:elems S.Γ x=some (ps.map .str)) (hz:(ps.map (·.length)).sum+ps.length * y.length<=1000000):CK (mC (.str y)) m S=some (.v (.str (Str.join y ps)),S):=by
 have ht:Builtin.Str.tooLong (ps.toArray.foldl (fun a p=>a+p.length+y.length) 0)=false:=by
  rw[PySem.StrLaws.joinTotal]
  unfold Builtin.Str.tooLong sizeLine
  exact decide_eq_false (by lia)
 unfold CK
 show ((m S).bind _)=_
 rw[h,Option.bind_some]
 show ((elems S.Γ x).bind _)=_
 rw[hx,Option.bind_some,Hy,Option.bind_some,if_pos]
 ·rw[show Txt.join y ps=Str.join y ps from PySem.StrLaws.glued_eq_join y ps]
 ·unfold JoinOk
  rw[ht]
  rfl
theorem Lq {y:Str} {ps:List Str} (hy:∀ c∈cd y,c<128) (h:∀ p∈ps,∀ c∈cd p,c<128):Low (Str.join y ps) ((ps.map (·.length)).sum+ps.length * y.length):=⟨fun c hc=>by
 rcases Ir hc with z | ⟨p,hp,z⟩
 ·exact hy c z
 ·exact h p hp c z,by
 rw[Dt]
 have:(ps.length - 1) * y.length<=ps.length * y.length:=Nat.mul_le_mul_right _ (Nat.sub_le _ _)
 lia⟩
theorem Lj {x y:Str} (h:Low x N) (hy:1<=y.length):(Txt.split x y).length<=N+1:=by
 have e:=Dt (y:=y) (Txt.split x y)
 rw[PySem.StrLaws.join_split] at e
 have:(Txt.split x y).length - 1<=((Txt.split x y).length - 1) * y.length:=Nat.le_mul_of_pos_right _ hy
 have:=h.2
 lia
end
def FO:MD:=mFn 12 (IQ BC)
theorem Eh {Γ G:Gm} {n:Nat} {S:DS} {m:ME} {k:Int} (p:Dk S.Γ n) (h1:AA 1 S=some (.b n,S)) (hm:m S=some (.v (.int k),S)) (hk:0<k):∃ r G',AK BC (AB (AA 1) (AB m AC)) S=some (.v (.int r),{S with Γ:=G'})/\0<=r/\r<k/\Dd n S.Γ G':=by
 obtain ⟨r,G',e,a,b,d⟩:=Cg p hk
 exact ⟨r,G',BR (x:=.b n) (y:=.v (.int k)) h1 hm e,a,b,d⟩
theorem T7 {w:Str} {N:Nat} (h:Low w N):∃ k m g:Str,SL.ptn w ":"=[k,m,g]/\Low k N/\Low g N:=by
 have l0:Low Str.empty N:=⟨fun c hc=>(nomatch hc),Nat.zero_le _⟩
 rcases Kc w with ⟨_,e⟩ | ⟨k,g,e,hw,_⟩
 ·exact ⟨_,_,_,e,h,l0⟩
 ·have hl:=h.2
  rw[hw,Str.length_append,Str.length_append] at hl
  exact ⟨_,_,_,e,⟨fun c hc=>h.1 c (by rw[hw,cd3];exact List.mem_append_left _ hc),by lia⟩,⟨fun c hc=>h.1 c (by rw[hw,cd3];exact List.mem_append_right _ (List.mem_cons_of_mem _ hc)),by lia⟩⟩
theorem QW {x:Str} {Γ:Gm} {n N:Nat} (p:Dk Γ n) (hx:Low x N) (hN:N<=4000) :
  ∃ (G:Gm) (P W:List Str) (a t:Int) (k m g:Str),TD Γ n G/\Bx Γ.length G Γ.length P N/\Bx Γ.length G (Γ.length+1) W N/\G.length=Γ.length+2/\0<=a/\a<P.length/\0<=t/\t<W.length/\Low k N/\Low g N/\P.length<=N+1/\W.length<=N+1 /\
   ∀ rest:MS,(AG (BJ 2 (BS (AA 0) (mC (.str "; ")))) (AG (AL 3 (AK BC (AB (AA 1) (AB (AO Ag (AB (AA 2) AC)) AC)))) (AG (BJ 4 (BS (mOp gIx (AA 2) (AA 3)) (mC (.str ", ")))) (AG (AL 5 (AK BC (AB (AA 1) (AB (AO Ag (AB (AA 4) AC)) AC)))) (AG (CY (Ds (mOp gIx (AA 4) (AA 5)) (mC (.str ":"))) (CU [6,7,8])) rest)))))
    ⟨[some (.v (.str x)),some (.b n),none,none,none,none,none,none,none,none,none,none],Γ,Γ.length⟩=rest ⟨[some (.v (.str x)),some (.b n),some (.b Γ.length),some (.v (.int a)),some (.b (Γ.length+1)),some (.v (.int t)),some (.v (.str k)),some (.v (.str m)),some (.v (.str g)),none,none,none],G,Γ.length⟩:=by
 have hxl:=hx.2
 have pl:=p.lt
 let P:=Txt.split x "; "
 obtain ⟨pl1,pl2⟩:=KH (y:="; ") hx
 have pc:=Lj (y:="; ") hx (by decide +kernel)
 let S0:DS:=⟨[some (.v (.str x)),some (.b n),none,none,none,none,none,none,none,none,none,none],Γ,Γ.length⟩
 let G1:Gm:=Γ++[some (P.map .str)]
 let S1:Gm->Option SV->DS:=fun G a=>⟨[some (.v (.str x)),some (.b n),some (.b Γ.length),a,none,none,none,none,none,none,none,none],G,Γ.length⟩
 have g1:BJ 2 (BS (AA 0) (mC (.str "; "))) S0=some (.nx (S1 G1 none)):=by
  unfold BJ
  rw[Do (S:=S0) (m:=AA 0) (x:=x) (y:="; ") rfl (by lia) (by decide +kernel)]
  rfl
 have t0:TD Γ n Γ:=⟨by rw[List.take_length];exact Dd.refl p,Nat.le_refl _⟩
 have t1:TD Γ n G1:=t0.app _
 have b1:Bx Γ.length G1 Γ.length P N:=Bx.new (Nat.le_refl _) (GV _ _) pl1 pl2
 have hPn:0<P.length:=List.length_pos_iff.mpr (GV _ _)
 obtain ⟨a,G2,e2,a0,alt,d2⟩:=Eh (Γ:=Γ) (G:=G1) (S:=S1 G1 none) (m:=AO Ag (AB (AA 2) AC)) (k:=(P.length:Nat)) (t1.dk p) rfl (Br (x:=.b Γ.length) (s':=S1 G1 none) rfl b1.lenG) (by lia)
 have g2:AL 3 (AK BC (AB (AA 1) (AB (AO Ag (AB (AA 2) AC)) AC))) (S1 G1 none)=some (.nx (S1 G2 (some (.v (.int a))))):=An e2
 have t2:=t1.dd d2
 have b2:=b1.dd pl d2
 have l2:G2.length=Γ.length+1:=by rw[d2.len,List.length_append];rfl
 obtain ⟨q,hq,eq⟩:=b2.ixG a0 alt
 have hql:=b2.one hq
 let W:=Txt.split q ", "
 obtain ⟨wl1,wl2⟩:=KH (y:=", ") hql
 have wc:=Lj (y:=", ") hql (by decide +kernel)
 let A:Option SV:=some (.v (.int a))
 let G3:Gm:=G2++[some (W.map .str)]
 let S3:Gm->Option SV->DS:=fun G t=>⟨[some (.v (.str x)),some (.b n),some (.b Γ.length),A,some (.b (Γ.length+1)),t,none,none,none,none,none,none],G,Γ.length⟩
 have wq:mOp gIx (AA 2) (AA 3) (S1 G2 A)=some (.v (.str q),S1 G2 A):=AS (x:=.b Γ.length) (y:=.v (.int a)) (s1:=S1 G2 A) (s2:=S1 G2 A) rfl rfl eq
 have g3:BJ 4 (BS (mOp gIx (AA 2) (AA 3)) (mC (.str ", "))) (S1 G2 A)=some (.nx (S3 G3 none)):=by
  unfold BJ
  rw[Do (S:=S1 G2 A) (x:=q) (y:=", ") wq (by have:=hql.2;lia) (by decide +kernel)]
  show some (Out.nx ⟨[some (.v (.str x)),some (.b n),some (.b Γ.length),A,some (.b G2.length),none,none,none,none,none,none,none],G2++[some (W.map .str)],Γ.length⟩)=_
  rw[l2]
 have t3:TD Γ n G3:=t2.app _
 have b3:Bx Γ.length G3 Γ.length P N:=b2.app _
 have c3:Bx Γ.length G3 (Γ.length+1) W N:=by
  have:=Bx.new (Γ:=Γ) (G:=G2) (xs:=W) (N:=N) (by lia) (GV _ _) wl1 wl2
  rw[l2] at this
  exact this
 have hWn:0<W.length:=List.length_pos_iff.mpr (GV _ _)
 obtain ⟨t,G4,e4,t0',tlt,d4⟩:=Eh (Γ:=Γ) (G:=G3) (S:=S3 G3 none) (m:=AO Ag (AB (AA 4) AC)) (k:=(W.length:Nat)) (t3.dk p) rfl (Br (x:=.b (Γ.length+1)) (s':=S3 G3 none) rfl c3.lenG) (by lia)
 have g4:AL 5 (AK BC (AB (AA 1) (AB (AO Ag (AB (AA 4) AC)) AC))) (S3 G3 none)=some (.nx (S3 G4 (some (.v (.int t))))):=An e4
 have t4:=t3.dd d4
 have b4:=b3.dd pl d4
 have c4:=c3.dd pl d4
 obtain ⟨w,hw,ew⟩:=c4.ixG t0' tlt
 have hwl:=c4.one hw
 obtain ⟨k,m,g,ep,hk,hg⟩:=T7 hwl
 let T:Option SV:=some (.v (.int t))
 have ww:mOp gIx (AA 4) (AA 5) (S3 G4 T)=some (.v (.str w),S3 G4 T):=AS (x:=.b (Γ.length+1)) (y:=.v (.int t)) (s1:=S3 G4 T) (s2:=S3 G4 T) rfl rfl ew
 have g5:CY (Ds (mOp gIx (AA 4) (AA 5)) (mC (.str ":"))) (CU [6,7,8]) (S3 G4 T)=some (.nx ⟨[some (.v (.str x)),some (.b n),some (.b Γ.length),A,some (.b (Γ.length+1)),T,some (.v (.str k)),some (.v (.str m)),some (.v (.str g)),none,none,none],G4,Γ.length⟩):=by
  unfold CY Ds
  rw[ww,Option.bind_some]
  show (((if ((":":Str).length == 0)=false/\w.length<=big then some (SV.v (D.tup ((SL.ptn w ":").map D.str)),S3 G4 T) else none)).bind _)=_
  rw[if_pos ⟨by decide +kernel,by rw[C2];have:=hwl.2;lia⟩,ep]
  rfl
 refine ⟨G4,P,W,a,t,k,m,g,t4,b4,c4,by rw[d4.len,List.length_append,l2];rfl,a0,alt,t0',tlt,hk,hg,pc,wc,fun rest=>?_⟩
 exact (AM g1).trans ((AM g2).trans ((AM g3).trans ((AM g4).trans (AM g5))))
theorem KD {i j k:Nat} {me:ME} {S S1:DS} {d:D} {xs:List D} {t:Int} (h:me S=some (.v d,S1)) (hi:AA i S1=some (.b k,S1)) (hj:AA j S1=some (.v (.int t),S1)) (hg:S1.Γ[k]?=some (some xs)) (h0:0<=t) (ht:t<xs.length):CW (AA i) (AA j) me S=some (.nx {S1 with Γ:=S1.Γ.set k (some (xs.set t.toNat d))}):=by
 unfold CW
 rw[h,Option.bind_some]
 simp only[]
 rw[hi,Option.bind_some]
 simp only[]
 rw[hj,Option.bind_some]
 simp only[]
 rw[hg]
 simp only[]
 rw[show ixN xs.length t=some t.toNat by
  unfold ixN
  rw[if_pos h0,if_pos ht]]
 rfl
def oddK:List Str:=["-0","00","07","+1","1_0","",CP "1" 30,CP "1" 31,"-"++CP "9" 30,"-"++CP "9" 31,"--1","1.0"]
def badT:List Str:=["","A","aaaaaaaaa","a1","a b","a:b","a-"," a","a "]
theorem P2:(oddK.all fun x=>(x.cps.toList.all fun c=>decide (c<128)) && decide (x.length<=40))=true:=by decide +kernel
theorem Rk:(badT.all fun x=>(x.cps.toList.all fun c=>decide (c<128)) && decide (x.length<=40))=true:=by decide +kernel
theorem Ld {l:List Str} (h:(l.all fun x=>(x.cps.toList.all fun c=>decide (c<128)) && decide (x.length<=40))=true):∀ x∈l,Low x 40:=fun x hx=>by
 have:=List.all_eq_true.mp h x hx
 rw[Bool.and_eq_true,decide_eq_true_eq] at this
 exact Dh this.1 this.2
section
variable {x:Str} {Γ:Gm} {n:Nat}
abbrev PS (x:Str) (n L:Nat) (G:Gm) (b2:Nat) (a:Int) (b4:Nat) (t:Int) (k m g:Str) (w:Option SV):DS:=⟨[some (.v (.str x)),some (.b n),some (.b b2),some (.v (.int a)),some (.b b4),some (.v (.int t)),some (.v (.str k)),some (.v (.str m)),some (.v (.str g)),some (.v (.lst (oddK.map .str))),some (.v (.lst (badT.map .str))),w],G,L⟩
theorem Ul {G:Gm} {P W:List Str} {a t:Int} {k m g:Str} {N:Nat} {w:Int} (p:Dk Γ n) (hN:N<=4000) (td:TD Γ n G) (bp:Bx Γ.length G Γ.length P N) (bw:Bx Γ.length G (Γ.length+1) W N) (hl:G.length=Γ.length+2) (t0:0<=t) (tl:t<W.length) (hk:Low k N) (hg:Low g N) (wc:W.length<=N+1) :
  ∃ (G':Gm) (b4:Nat) (W':List Str),TD Γ n G'/\Bx Γ.length G' Γ.length P N/\Bx Γ.length G' b4 W' (3 * N+200)/\b4≠Γ.length/\W'.length<=N+2 /\
   mIf (AE (mOp AR (AA 11) (mC (.int 0)))) (CW (AA 4) (AA 5) (mOp AV (mOp AV (mOp gIx (AA 9) (AK BC (AB (AA 1) (AB (mC (.int 12)) AC)))) (mC (.str ":"))) (mSl (mOp AV (AA 8) (mC (.str "a"))) none (some (mC (.int 8)))))) (mIf (AE (mOp AR (AA 11) (mC (.int 1)))) (CW (AA 4) (AA 5) (mOp AV (mOp AV (AA 6) (mC (.str ":"))) (mOp gIx (AA 10) (AK BC (AB (AA 1) (AB (mC (.int 9)) AC)))))) (mIf (AE (mOp AR (AA 11) (mC (.int 2)))) (CW (AA 4) (AA 5) (mOp AV (AA 6) (AA 8))) (mIf (AE (mOp AR (AA 11) (mC (.int 3)))) (BJ 4 (BE A9 (AA 4) (AF (AX (AB (mC (.str "-")) AC))))) AU)))
    (PS x n Γ.length G Γ.length a (Γ.length+1) t k m g (some (.v (.int w))))=some (.nx (PS x n Γ.length G' Γ.length a b4 t k m g (some (.v (.int w))))):=by
 let T:Gm->DS:=fun G=>PS x n Γ.length G Γ.length a (Γ.length+1) t k m g (some (.v (.int w)))
 have pl:=p.lt
 have eq0:∀ j:Int,AE (mOp AR (AA 11) (mC (.int j))) (T G)=some (decide (w=j),T G):=fun j=>Au (AS (x:=.v (.int w)) (y:=.v (.int j)) (s1:=T G) (s2:=T G) rfl rfl rfl)
 have tc:∀ G,Tx (mC (.str ":")) (T G) 1 (T G):=fun G=>⟨":",rfl,Dh (by decide +kernel) (by decide +kernel)⟩
 have fin:∀ (me:ME) (G2:Gm) (K:Nat),Dd n G G2->Tx me (T G) K (T G2)->K<=2 * N+200->∃ (G':Gm) (b4:Nat) (W':List Str),TD Γ n G'/\Bx Γ.length G' Γ.length P N/\Bx Γ.length G' b4 W' (3 * N+200)/\b4≠Γ.length/\W'.length<=N+2/\CW (AA 4) (AA 5) me (T G)=some (.nx (PS x n Γ.length G' Γ.length a b4 t k m g (some (.v (.int w))))):=fun me G2 K d h hK=>by
  obtain ⟨y,e,l⟩:=h.mono hK
  have b2:=bw.dd pl d
  have q2:=bp.dd pl d
  have td2:=td.dd d
  have pb:=b2.put (m:=t.toNat) l
  refine ⟨_,Γ.length+1,W.set t.toNat y,td2.set b2.hi _,⟨q2.hi,by rw[List.getElem?_set_ne (by lia)];exact q2.g,q2.ne,q2.low,q2.tot⟩,⟨pb.hi,pb.g,pb.ne,pb.low,by have:=pb.tot;lia⟩,by lia,by rw[List.length_set];lia,?_⟩
  exact KD (S:=T G) (S1:=T G2) (i:=4) (j:=5) e rfl rfl b2.g t0 (by rw[List.length_map];exact tl)
 by_cases c0:w=0
 ·have z:=eq0 0
  rw[decide_eq_true c0] at z
  obtain ⟨r,G2,e2,r0,r1,d2⟩:=Eh (Γ:=Γ) (G:=G) (S:=T G) (m:=mC (.int 12)) (k:=12) (td.dk p) rfl rfl (by decide)
  have x1:=Tx.ix (a:=AA 9) (S:=T G) (S1:=T G) (xs:=oddK) (n:=40) rfl e2 r0 r1 (Ld P2)
  have x2:Tx (mSl (mOp AV (AA 8) (mC (.str "a"))) none (some (mC (.int 8)))) (T G2) (N+1) (T G2):=Tx.sl (i:=none) (j:=some 8) (Tx.cat ⟨g,rfl,hg⟩ (b:=mC (.str "a")) (k:=1) ⟨"a",rfl,Dh (by decide +kernel) (by decide +kernel)⟩ (by lia)) rfl rfl (by lia)
  obtain ⟨G',b4,W',h1,h2,h3,h4,h5,h6⟩:=fin _ G2 _ d2 (Tx.cat (Tx.cat x1 (tc G2) (by lia)) x2 (by lia)) (by lia)
  exact ⟨G',b4,W',h1,h2,h3,h4,h5,(A2 z).trans h6⟩
 have z0:=eq0 0
 rw[decide_eq_false c0] at z0
 by_cases c1:w=1
 ·have z:=eq0 1
  rw[decide_eq_true c1] at z
  obtain ⟨r,G2,e2,r0,r1,d2⟩:=Eh (Γ:=Γ) (G:=G) (S:=T G) (m:=mC (.int 9)) (k:=9) (td.dk p) rfl rfl (by decide)
  have x1:=Tx.ix (a:=AA 10) (S:=T G) (S1:=T G) (xs:=badT) (n:=40) rfl e2 r0 r1 (Ld Rk)
  obtain ⟨G',b4,W',h1,h2,h3,h4,h5,h6⟩:=fin _ G2 _ d2 (Tx.cat (Tx.cat (a:=AA 6) (n:=N) (S1:=T G) ⟨k,rfl,hk⟩ (tc G) (by lia)) x1 (by lia)) (by lia)
  exact ⟨G',b4,W',h1,h2,h3,h4,h5,(Aj z0).trans ((A2 z).trans h6)⟩
 have z1:=eq0 1
 rw[decide_eq_false c1] at z1
 by_cases c2:w=2
 ·have z:=eq0 2
  rw[decide_eq_true c2] at z
  obtain ⟨G',b4,W',h1,h2,h3,h4,h5,h6⟩:=fin _ G _ (Dd.refl (td.dk p)) (Tx.cat (a:=AA 6) (b:=AA 8) (n:=N) (k:=N) (S1:=T G) ⟨k,rfl,hk⟩ ⟨g,rfl,hg⟩ (by lia)) (by lia)
  exact ⟨G',b4,W',h1,h2,h3,h4,h5,(Aj z0).trans ((Aj z1).trans ((A2 z).trans h6))⟩
 have z2:=eq0 2
 rw[decide_eq_false c2] at z2
 by_cases c3:w=3
 ·have z:=eq0 3
  rw[decide_eq_true c3] at z
  have wcat:BE A9 (AA 4) (AF (AX (AB (mC (.str "-")) AC))) (T G)=some ((W++[("-":Str)]).map .str,T G):=Ct (g:=A9) (x:=.b (Γ.length+1)) (s1:=T G) rfl (lists ["-"] (AB (mC (.str "-")) AC) rfl (by decide)) (by
   show (match elems G (.b (Γ.length+1)),some (([("-":Str)]).map D.str) with | some xs,some ys=>if xs.length+ys.length<=big then some (xs++ys) else none | _,_=>none)=_
   rw[show elems G (.b (Γ.length+1))=some (W.map .str) by show (G[Γ.length+1]?).join=_;rw[bw.g];rfl]
   simp only[]
   rw[if_pos (by rw[List.length_map,C2];show W.length+1<=_;lia),List.map_append])
  refine ⟨G++[some ((W++[("-":Str)]).map .str)],G.length,W++[("-":Str)],td.app _,bp.app _,?_,by lia,by rw[List.length_append,List.length_singleton];lia,(Aj z0).trans ((Aj z1).trans ((Aj z2).trans ((A2 z).trans ?_)))⟩
  ·refine Bx.new td.2 (by simp) (fun y hy=>?_) ?_
   ·rcases List.mem_append.mp hy with q | q
    ·exact bw.low y q
    ·rw[List.mem_singleton.mp q]
     exact (Dh (n:=1) (x:="-") (by decide +kernel) (by decide +kernel)).1
   ·rw[List.map_append,List.sum_append,show ((["-"]:List Str).map (·.length)).sum=1 by decide +kernel]
    have:=bw.tot
    lia
  ·unfold BJ
   rw[wcat]
   rfl
 ·have z:=eq0 3
  rw[decide_eq_false c3] at z
  exact ⟨G,Γ.length+1,W,td,bp,⟨bw.hi,bw.g,bw.ne,bw.low,by have:=bw.tot;lia⟩,by lia,by lia,(Aj z0).trans ((Aj z1).trans ((Aj z2).trans ((Aj z).trans rfl)))⟩
end
structure Lw (xs:List Str) (C T:Nat):Prop where
 cnt:xs.length<=C
 low:∀ x∈xs,∀ c∈cd x,c<128
 tot:(xs.map (·.length)).sum<=T
theorem OC {xs ys:List Str} (h:xs.Sublist ys):(xs.map (·.length)).sum<=(ys.map (·.length)).sum:=by
 induction h with
 | slnil=>exact Nat.le_refl _
 | cons a _ ih=>rw[List.map_cons,List.sum_cons];lia
 | cons_cons a _ ih=>rw[List.map_cons,List.map_cons,List.sum_cons,List.sum_cons];lia
theorem Lw.sub {xs ys:List Str} {C T:Nat} (h:Lw ys C T) (s:xs.Sublist ys):Lw xs C T:=⟨Nat.le_trans s.length_le h.cnt,fun x hx=>h.low x (s.subset hx),Nat.le_trans (OC s) h.tot⟩
theorem Hk (xs:List Str) (l u:Option Int):(CO xs l u).Sublist xs:=by
 unfold CO
 exact (List.take_sublist _ _).trans (List.drop_sublist _ _)
theorem Lw.app {xs ys:List Str} {C T C' T':Nat} (h:Lw xs C T) (k:Lw ys C' T'):Lw (xs++ys) (C+C') (T+T'):=⟨by rw[List.length_append];have:=h.cnt;have:=k.cnt;lia,fun x hx=>(List.mem_append.mp hx).elim (h.low x) (k.low x),by rw[List.map_append,List.sum_append];have:=h.tot;have:=k.tot;lia⟩
theorem Lw.rep {xs:List Str} {C T:Nat} (h:Lw xs C T):∀ k:Nat,Lw (List.replicate k xs).flatten (k * C) (k * T)
 | 0=>⟨Nat.zero_le _,fun x hx=>(nomatch hx),Nat.zero_le _⟩
 | k+1=>by
  have r:=h.app (h.rep k)
  rw[List.replicate_succ,List.flatten_cons]
  exact ⟨by have:=r.cnt;rw[Nat.succ_mul];lia,r.low,by have:=r.tot;rw[Nat.succ_mul];lia⟩
theorem Jf {S:DS} {i b:Nat} {xs:List Str} {l u:Option ME} {p q:Option Int} (h:AA i S=some (.b b,S)) (hb:S.Γ[b]?=some (some (xs.map .str))) (hl:BW l S=some (p,S)) (hu:BW u S=some (q,S)):mSl (AA i) l u S=some (.v (.lst ((CO xs p q).map .str)),S):=by
 unfold mSl
 rw[h,Option.bind_some]
 show ((BW l S).bind _)=_
 rw[hl,Option.bind_some]
 show ((BW u S).bind _)=_
 rw[hu,Option.bind_some]
 show ((((S.Γ[b]?).join).map fun xs=>D.lst (cutD xs p q)).map _)=_
 rw[hb]
 show some (SV.v (D.lst (cutD (xs.map D.str) p q)),S)=_
 rw[JR]
theorem Nb {Γ:Gm} {x y:SV} {xs ys:List Str} (hx:elems Γ x=some (xs.map .str)) (hy:elems Γ y=some (ys.map .str)) (hl:xs.length+ys.length<=1000000):A9 Γ x y=some ((xs++ys).map .str):=by
 show (match elems Γ x,elems Γ y with | some xs,some ys=>if xs.length+ys.length<=big then some (xs++ys) else none | _,_=>none)=_
 rw[hx,hy]
 simp only[]
 rw[if_pos (by rw[List.length_map,List.length_map,C2];exact hl),List.map_append]
theorem HZ {Γ:Gm} {a:Str} {n:Int} (h:2<=n/\n<=1000/\1<=a.length/\a.length<=1000):B0 Γ (.v (.str a)) (.v (.int n))=some (.str (CP a n)):=by
 show (if 2<=n/\n<=1000/\1<=a.length/\a.length<=1000 then some (D.str (CP a n)) else none)=_
 rw[if_pos h]
theorem OU {x:Str} {Γ:Gm} {n N:Nat} (p:Dk Γ n) (hx:Low x N) (hN:N<=4000):∃ y Γ',FO [.v (.str x),.b n] Γ=some (.str y,Γ')/\Low y 900000/\Dd n Γ Γ':=by
 have pl:=p.lt
 obtain ⟨G,P,W,a,t,k,m,g,td,bp,bw,hl,a0,al,t0,tl,hk,hg,pc,wc,head⟩:=QW p hx hN
 let S0:DS:=⟨[some (.v (.str x)),some (.b n),none,none,none,none,none,none,none,none,none,none],Γ,Γ.length⟩
 let Sa:DS:=⟨[some (.v (.str x)),some (.b n),some (.b Γ.length),some (.v (.int a)),some (.b (Γ.length+1)),some (.v (.int t)),some (.v (.str k)),some (.v (.str m)),some (.v (.str g)),none,none,none],G,Γ.length⟩
 let Sb:DS:=⟨[some (.v (.str x)),some (.b n),some (.b Γ.length),some (.v (.int a)),some (.b (Γ.length+1)),some (.v (.int t)),some (.v (.str k)),some (.v (.str m)),some (.v (.str g)),some (.v (.lst (oddK.map .str))),none,none],G,Γ.length⟩
 have g6:AL 9 (AF (AX (AB (mC (.str "-0")) (AB (mC (.str "00")) (AB (mC (.str "07")) (AB (mC (.str "+1")) (AB (mC (.str "1_0")) (AB (mC (.str "")) (AB (mOp B0 (mC (.str "1")) (mC (.int 30))) (AB (mOp B0 (mC (.str "1")) (mC (.int 31))) (AB (mOp AV (mC (.str "-")) (mOp B0 (mC (.str "9")) (mC (.int 30)))) (AB (mOp AV (mC (.str "-")) (mOp B0 (mC (.str "9")) (mC (.int 31)))) (AB (mC (.str "--1")) (AB (mC (.str "1.0")) AC)))))))))))))) Sa=some (.nx Sb):=by
  have r1:mOp B0 (mC (.str "1")) (mC (.int 30)) Sa=some (.v (.str (CP "1" 30)),Sa):=AS (x:=.v (.str "1")) (y:=.v (.int 30)) (s1:=Sa) (s2:=Sa) rfl rfl (HZ (by decide +kernel))
  have r2:mOp B0 (mC (.str "1")) (mC (.int 31)) Sa=some (.v (.str (CP "1" 31)),Sa):=AS (x:=.v (.str "1")) (y:=.v (.int 31)) (s1:=Sa) (s2:=Sa) rfl rfl (HZ (by decide +kernel))
  have r3:mOp B0 (mC (.str "9")) (mC (.int 30)) Sa=some (.v (.str (CP "9" 30)),Sa):=AS (x:=.v (.str "9")) (y:=.v (.int 30)) (s1:=Sa) (s2:=Sa) rfl rfl (HZ (by decide +kernel))
  have r4:mOp B0 (mC (.str "9")) (mC (.int 31)) Sa=some (.v (.str (CP "9" 31)),Sa):=AS (x:=.v (.str "9")) (y:=.v (.int 31)) (s1:=Sa) (s2:=Sa) rfl rfl (HZ (by decide +kernel))
  have q3:=EU (a:=mC (.str "-")) (x:="-") rfl r3 (by decide +kernel)
  have q4:=EU (a:=mC (.str "-")) (x:="-") rfl r4 (by decide +kernel)
  exact An (lists oddK _ (CJ rfl (CJ rfl (CJ rfl (CJ rfl (CJ rfl (CJ rfl (CJ r1 (CJ r2 (CJ q3 (CJ q4 (CJ rfl (CJ rfl (ms:=AC) (xs:=[]) rfl)))))))))))) (by decide))
 let Sc:Gm->Option SV->DS:=fun G w=>PS x n Γ.length G Γ.length a (Γ.length+1) t k m g w
 have g7:AL 10 (AF (AX (AB (mC (.str "")) (AB (mC (.str "A")) (AB (mC (.str "aaaaaaaaa")) (AB (mC (.str "a1")) (AB (mC (.str "a b")) (AB (mC (.str "a:b")) (AB (mC (.str "a-")) (AB (mC (.str " a")) (AB (mC (.str "a ")) AC))))))))))) Sb=some (.nx (Sc G none)):=An (lists badT _ rfl (by decide))
 obtain ⟨w,G2,e8,w0,w1,d8⟩:=Eh (Γ:=Γ) (G:=G) (S:=Sc G none) (m:=mC (.int 6)) (k:=6) (td.dk p) rfl rfl (by decide)
 have g8:AL 11 (AK BC (AB (AA 1) (AB (mC (.int 6)) AC))) (Sc G none)=some (.nx (Sc G2 (some (.v (.int w))))):=An e8
 obtain ⟨G3,b4,W',td3,bp3,bw3,hne,wc3,g9⟩:=Ul (x:=x) (a:=a) (m:=m) (w:=w) p hN (td.dd d8) (bp.dd pl d8) (bw.dd pl d8) (by rw[d8.len];exact hl) t0 tl hk hg wc
 let Sd:Gm->Nat->DS:=fun G b2=>PS x n Γ.length G b2 a b4 t k m g (some (.v (.int w)))
 have e2:(", ":Str).length=2:=by decide +kernel
 have e3:("; ":Str).length=2:=by decide +kernel
 have wt:=bw3.tot
 have jw:CK (mC (.str ", ")) (AA 4) (Sd G3 Γ.length)=some (.v (.str (Str.join ", " W')),Sd G3 Γ.length):=KJ (x:=.b b4) rfl (by show (G3[b4]?).join=_;rw[bw3.g];rfl) (by rw[e2];lia)
 have lj:Low (Str.join ", " W') (5 * N+204):=by
  have:=Lq (y:=", ") (ps:=W') (fun c hc=>(Dh (n:=2) (x:=", ") (by decide +kernel) (by decide +kernel)).1 c hc) bw3.low
  exact ⟨this.1,by have:=this.2;rw[e2] at this;lia⟩
 have pb:=bp3.put (m:=a.toNat) lj
 let P1:=P.set a.toNat (Str.join ", " W')
 let G4:=G3.set Γ.length (some ((P.map D.str).set a.toNat (.str (Str.join ", " W'))))
 have g10:CW (AA 2) (AA 3) (CK (mC (.str ", ")) (AA 4)) (Sd G3 Γ.length)=some (.nx (Sd G4 Γ.length)):=KD (i:=2) (j:=3) (S1:=Sd G3 Γ.length) jw rfl rfl bp3.g a0 (by rw[List.length_map];exact al)
 have td4:TD Γ n G4:=td3.set (Nat.le_refl _) _
 have l1:Lw P1 (N+1) (6 * N+204):=⟨by rw[List.length_set];exact pc,pb.low,by have:=pb.tot;show ((P.set a.toNat (Str.join ", " W')).map (·.length)).sum<=_;lia⟩
 have eqw:∀ (G:Gm) (b:Nat) (j:Int),AE (mOp AR (AA 11) (mC (.int j))) (Sd G b)=some (decide (w=j),Sd G b):=fun G b j=>Au (AS (x:=.v (.int w)) (y:=.v (.int j)) (s1:=Sd G b) (s2:=Sd G b) rfl rfl rfl)
 have pa:∀ (G:Gm) (b:Nat),BW (some (AA 3)) (Sd G b)=some (some a,Sd G b):=fun G b=>part_of rfl
 have pa1:∀ (G:Gm) (b:Nat),BW (some (mOp AV (AA 3) (mC (.int 1)))) (Sd G b)=some (some (a+1),Sd G b):=fun G b=>part_of (B1 (a:=AA 3) (b:=mC (.int 1)) (S1:=Sd G b) rfl rfl)
 obtain ⟨G5,b5,Q,td5,hL5,hb5,l5,g11⟩:∃ (G5:Gm) (b5:Nat) (Q:List Str),TD Γ n G5/\Γ.length<=b5/\G5[b5]?=some (some (Q.map .str))/\Lw Q (2 * (N+1)) (2 * (6 * N+204))/\mIf (AE (mOp AR (AA 11) (mC (.int 4)))) (BJ 2 (BE A9 (mSl (AA 2) none (some (AA 3))) (mSl (AA 2) (some (mOp AV (AA 3) (mC (.int 1)))) none))) AU (Sd G4 Γ.length)=some (.nx (Sd G5 b5)):=by
  by_cases c:w=4
  ·have z:=eqw G4 Γ.length 4
   rw[decide_eq_true c] at z
   have lq:=(l1.sub (Hk P1 none (some a))).app (l1.sub (Hk P1 (some (a+1)) none))
   have wc:=Ct (g:=A9) (Jf (S:=Sd G4 Γ.length) (i:=2) (xs:=P1) rfl pb.g (l:=none) (p:=none) rfl (pa _ _)) (Jf (S:=Sd G4 Γ.length) (i:=2) (xs:=P1) rfl pb.g (pa1 _ _) (u:=none) (q:=none) rfl) (z:=(CO P1 none (some a)++CO P1 (some (a+1)) none).map .str) (Nb rfl rfl (by have:=lq.cnt;rw[List.length_append] at this;lia))
   refine ⟨G4++[some ((CO P1 none (some a)++CO P1 (some (a+1)) none).map .str)],G4.length,_,td4.app _,td4.2,B2,⟨by have:=lq.cnt;lia,lq.low,by have:=lq.tot;lia⟩,(A2 z).trans ?_⟩
   unfold BJ
   rw[wc]
   rfl
  ·have z:=eqw G4 Γ.length 4
   rw[decide_eq_false c] at z
   exact ⟨G4,Γ.length,P1,td4,Nat.le_refl _,pb.g,⟨by have:=l1.cnt;lia,l1.low,by have:=l1.tot;lia⟩,(Aj z).trans rfl⟩
 obtain ⟨G6,b6,R,td6,hb6,l6,g12⟩:∃ (G6:Gm) (b6:Nat) (R:List Str),TD Γ n G6/\G6[b6]?=some (some (R.map .str))/\Lw R (14 * (N+1)) (14 * (6 * N+204))/\mIf (AE (mOp AR (AA 11) (mC (.int 5)))) (BJ 2 (BE A9 (AA 2) (AF (BE DQ (mSl (AA 2) (some (AA 3)) (some (mOp AV (AA 3) (mC (.int 1))))) (mOp AV (mC (.int 1)) (AK BC (AB (AA 1) (AB (mC (.int 6)) AC)))))))) AU (Sd G5 b5)=some (.nx (Sd G6 b6)):=by
  by_cases c:w=5
  ·have z:=eqw G5 b5 5
   rw[decide_eq_true c] at z
   obtain ⟨r,G6,e,r0,r1,d⟩:=Eh (Γ:=Γ) (G:=G5) (S:=Sd G5 b5) (m:=mC (.int 6)) (k:=6) (td5.dk p) rfl rfl (by decide)
   let C:=CO Q (some a) (some (a+1))
   have lc:=l5.sub (Hk Q (some a) (some (a+1)))
   have hcc:=lc.cnt
   have cut:=Jf (S:=Sd G5 b5) (i:=2) (xs:=Q) rfl hb5 (pa _ _) (pa1 _ _)
   have num:=B1 (a:=mC (.int 1)) (i:=1) (S:=Sd G5 b5) (S1:=Sd G5 b5) rfl e
   have hk6:(1+r).toNat<=6:=by lia
   have hmul:C.length * (1+r).toNat<=2 * (N+1) * 6:=Nat.mul_le_mul hcc hk6
   have rep:=Ct (g:=DQ) cut num (z:=((List.replicate (1+r).toNat C).flatten).map .str) (by
    show (if 1+r<=100000/\-100000<=1+r/\(C.map D.str).length * (1+r).toNat<=big then some (List.replicate (1+r).toNat (C.map D.str)).flatten else none)=_
    rw[if_pos ⟨by lia,by lia,by rw[List.length_map,C2];lia⟩,List.map_flatten,List.map_replicate])
   have lrep:=lc.rep (1+r).toNat
   have hb6:G6[b5]?=some (some (Q.map .str)):=by rw[d.out (by lia)];exact hb5
   have m1:(1+r).toNat * (2 * (N+1))<=6 * (2 * (N+1)):=Nat.mul_le_mul_right _ hk6
   have m2:(1+r).toNat * (2 * (6 * N+204))<=6 * (2 * (6 * N+204)):=Nat.mul_le_mul_right _ hk6
   have lall:=l5.app lrep
   have hac:=lall.cnt
   have hat:=lall.tot
   have wc:=Ct (g:=A9) (a:=AA 2) (x:=.b b5) (s:=Sd G5 b5) (s1:=Sd G5 b5) rfl (A7 rep) (z:=(Q++(List.replicate (1+r).toNat C).flatten).map .str) (Nb (by show (G6[b5]?).join=_;rw[hb6];rfl) rfl (by
    have hh:(Q++(List.replicate (1+r).toNat C).flatten).length<=2 * (N+1)+(1+r).toNat * (2 * (N+1)):=hac
    rw[List.length_append] at hh
    lia))
   refine ⟨G6++[some ((Q++(List.replicate (1+r).toNat C).flatten).map .str)],G6.length,_,(td5.dd d).app _,B2,⟨by lia,lall.low,by lia⟩,(A2 z).trans ?_⟩
   unfold BJ
   rw[wc]
   rfl
  ·have z:=eqw G5 b5 5
   rw[decide_eq_false c] at z
   exact ⟨G5,b5,Q,td5,hb5,⟨by have:=l5.cnt;lia,l5.low,by have:=l5.tot;lia⟩,(Aj z).trans rfl⟩
 have lt6:=l6.tot
 have lc6:=l6.cnt
 have jr:CK (mC (.str "; ")) (AA 2) (Sd G6 b6)=some (.v (.str (Str.join "; " R)),Sd G6 b6):=KJ (x:=.b b6) rfl (by show (G6[b6]?).join=_;rw[hb6];rfl) (by rw[e3];lia)
 have lr:Low (Str.join "; " R) 900000:=by
  have:=Lq (y:="; ") (ps:=R) (fun c hc=>(Dh (n:=2) (x:="; ") (by decide +kernel) (by decide +kernel)).1 c hc) l6.low
  exact ⟨this.1,by have:=this.2;rw[e3] at this;lia⟩
 refine ⟨_,G6.take Γ.length,?_,lr,td6.1⟩
 unfold FO mFn IQ
 show (AG _ _ S0).bind _=_
 rw[head]
 rw[AM g6,AM g7,AM g8,AM g9,AM g10,AM g11,AM g12,BB jr]
 rfl
end DL
namespace XL
open PySem PySem.Spec PyProof.Rows L2 Ev DL
structure ClsT (K:PySem.W.Frag) (mg:Str->Option Value) (cN cL c1 c2 c3 c4:Addr):Prop where
 mN:mg "NoText"=some (.ref cN)
 mL:mg "LotError"=some (.ref cL)
 m1:mg "NoDeed"=some (.ref c1)
 m2:mg "NoName"=some (.ref c2)
 m3:mg "NoNumber"=some (.ref c3)
 m4:mg "NoRow"=some (.ref c4)
 mV:mg "ValueError"=none
 ex:PySem.W.excIn K cN [.type "ValueError",.type "Exception",.type "BaseException",.type "object"] "ValueError.__new__"=true
 exm:PySem.W.exmOne K (.ref cN) (.ref cL)=some true
 ga:PySem.W.findIn K (.ref cN) "__getattribute__"=some (some (.builtin "BaseException.__getattribute__"))
 gt:PySem.W.findIn K (.ref cN) "__getattr__"=some none
 sb:PySem.W.subIn K (.ref cN) (.type "BaseException")=some true
 fo:PySem.W.findObj K cN none "__class__"=some (.bind (.builtin "getset_descriptor.__get__") (.builtin "object.__class__"))
 mo:PySem.W.mroIn K cN (.type "object")=some true
 any:PySem.W.kitAny K (.ref cN) [.ref c1,.ref c2,.ref c3,.ref c4]=some false
 val:PySem.W.kitOne K (.ref cN) (.type "ValueError")=some true
 own:PySem.W.kitOne K (.ref cN) (.ref cN)=some true
theorem ClsT.excC {K:PySem.W.Frag} {mg:Str->Option Value} {cN cL c1 c2 c3 c4:Addr} (c:ClsT K mg cN cL c1 c2 c3 c4):ExcC K cN:=by
 refine ⟨?_,c.ga,c.gt,c.sb,c.fo,c.mo⟩
 have h:=c.ex
 unfold PySem.W.excIn at h
 split at h
 ·rename_i dict cd sl hl
  exact ⟨dict,cd,sl,hl⟩
 ·cases h
end XL
namespace DL
open PySem L2 Ev TXM
def JO (zG:MD) (zH:MD):XL.MXs:=(XL.EH (AL 1 (AF (BS (AA 0) (mC (.str ":")))))
 (XL.xIf (mOr (AE (mOp Ap (AO Ag (AB (AA 1) AC)) (mC (.int 2)))) (mOr (As (Am (AK zG (AB (mOp gIx (AA 1) (mC (.int 0))) AC)))) (As (Am (AK zH (AB (mOp gIx (AA 1) (mC (.int 1))) AC)))))) XL.Fe (XL.EH (Aa (CS (AB (AO Dr (AB (mOp gIx (AA 1) (mC (.int 0))) AC)) (AB (mOp gIx (AA 1) (mC (.int 1))) AC))))
 XL.xNo)))
theorem O5 {P:Program} {w:World} {K:PySem.W.Frag} {mg:Str->Option Value} {base:Heap} {cN cL c1 c2 c3 c4:Addr} {fa:Addr} {fd:FuncData} (F:Fun K "read_thing" "read_thing" FD fa fd) (T:Nm mg) (cl:XL.ClsT K mg cN cL c1 c2 c3 c4) {yX:Addr} {yY:FuncData} {zG:MD} (zI:Cal P w K mg base "is_key" 2 yX yY ["text"] (spD K 1 zG)) {yZ:Addr} {y7:FuncData} {zH:MD} (zJ:Cal P w K mg base "is_tag" 1 yZ y7 ["thing"] (spD K 1 zH)):FnOk P w K mg base (XL.CXF P w) 3 fa fd ["text"] (XL.spX K 1 cN (XL.xFn 2 (JO zG zH))):=
 XL.IT F sc_read_thing fun f hf cdv A outer s H E hr=>(XL.IS hf (Al (i:=1) sc_read_thing.nd rfl (Or.inl rfl) (Ai (Cy (dv 0) AI ⟨rfl,rfl,rfl,rfl⟩)))
 (XL.Fj hf (CN (CF (Cv hr.units (Bb T (AD (dv 1) AJ)) AH) (CF (CZ (B9 (Aw zI.G hr rfl zI.m zI.k zI.b (AD (BO (dv 1) AH) AJ) (AQ Ak)))) (DH (CZ (B9 (Aw zJ.G (hr.mono (by decide)) rfl zJ.m zJ.k zJ.b (AD (BO (dv 1) AH) AJ) (AQ Ak)))))))) (XL.x_raise (C:=cN) (E:=E) (name:="read_thing") (scope:=Ac FD) (L:=s.heap.objs.size) (fa:=fa) (cd:=cdv) ⟨rfl,rfl,rfl⟩ rfl rfl rfl rfl rfl cl.mN cl.ex PySem.F.excBase_ValueError)
 (XL.IS hf (Aq (E5 (AD (JV T (AD (BO (dv 1) AH) AJ)) (AD (BO (dv 1) AH) AJ))))
 XL.Nu)))
def Xrt:XL.MX:=XL.xFn 2 (JO DM Cw)
theorem UB {w:Str} {Γ:Gm} (ha:Asc w) (hb:thB w=false):Xrt [.v (.str w)] Γ=some Γ:=by
 have tk:Γ.take Γ.length=Γ:=List.take_length
 let S0:DS:=⟨[some (.v (.str w)),none],Γ,Γ.length⟩
 let S:DS:=⟨[some (.v (.str w)),some (.v (.lst ((Txt.split w ":").map .str)))],Γ,Γ.length⟩
 have hl:=ha.2
 have g1:AL 1 (AF (BS (AA 0) (mC (.str ":")))) S0=some (.nx S):=An (A7 (Do (S:=S0) (m:=AA 0) (x:=w) (y:=":") rfl hl (by decide +kernel)))
 have wl:AO Ag (AB (AA 1) AC) S=some (.v (.int ((Txt.split w ":").length:Nat)),S):=Br (x:=.v (.lst ((Txt.split w ":").map .str))) (s':=S) rfl (by show some (D.int (((Txt.split w ":").map D.str).length:Nat))=_;rw[List.length_map])
 have t1:=Au (AS (g:=Ap) wl (b:=mC (.int 2)) (y:=.v (.int 2)) (s2:=S) rfl (z:=.bl (!decide (((Txt.split w ":").length:Nat)=(2:Int)))) rfl)
 have key:mOr (AE (mOp Ap (AO Ag (AB (AA 1) AC)) (mC (.int 2)))) (mOr (As (Am (AK DM (AB (mOp gIx (AA 1) (mC (.int 0))) AC)))) (As (Am (AK Cw (AB (mOp gIx (AA 1) (mC (.int 1))) AC))))) S=some (true,S):=by
  unfold mOr
  rw[t1,Option.bind_some]
  by_cases c:(Txt.split w ":").length=2
  ·obtain ⟨a,b,e⟩:∃ a b,Txt.split w ":"=[a,b]:=by
    match h:Txt.split w ":",c with
    | [a,b],_=>exact ⟨a,b,rfl⟩
   have ha':Asc a:=Eb (y:=":") ha (by rw[e];simp)
   have hb':Asc b:=Eb (y:=":") ha (by rw[e];simp)
   have hS:S=⟨[some (.v (.str w)),some (.v (.lst [.str a,.str b]))],Γ,Γ.length⟩:=by
    show (⟨[some (.v (.str w)),some (.v (.lst ((Txt.split w ":").map .str)))],Γ,Γ.length⟩:DS)=_
    rw[e]
    rfl
   rw[decide_eq_true (show ((Txt.split w ":").length:Int)=2 by lia),hS]
   show (if (!true)=true then _ else _)=_
   let S':DS:=⟨[some (.v (.str w)),some (.v (.lst [.str a,.str b]))],Γ,Γ.length⟩
   have k1:As (Am (AK DM (AB (mOp gIx (AA 1) (mC (.int 0))) AC))) S'=some (!CB a,S'):=by
    unfold As Am
    rw[B5 (M:=DM) (m:=mOp gIx (AA 1) (mC (.int 0))) (x:=.v (.str a)) (s:=S') (s':=S') rfl (NO ha')]
    rfl
   have k2:As (Am (AK Cw (AB (mOp gIx (AA 1) (mC (.int 1))) AC))) S'=some (!Bt b,S'):=by
    unfold As Am
    rw[B5 (M:=Cw) (m:=mOp gIx (AA 1) (mC (.int 1))) (x:=.v (.str b)) (s:=S') (s':=S') rfl (Od hb')]
    rfl
   rw[if_neg (by decide)]
   refine (D5 k1 k2).trans ?_
   unfold thB at hb
   rw[e] at hb
   have hb:(CB a && Bt b)=false:=hb
   rw[<-Bool.not_and,hb]
   rfl
  ·rw[decide_eq_false (show ¬((Txt.split w ":").length:Int)=2 by lia)]
   rfl
 unfold Xrt XL.xFn JO
 show ((XL.EH _ _ S0).map _)=_
 unfold XL.EH
 rw[g1,Option.bind_some]
 simp only[]
 unfold XL.xIf
 rw[key,Option.bind_some]
 simp only[if_true]
 show some (Γ.take Γ.length)=_
 rw[tk]
theorem DE.sub {X:Cx} {e:Expr} {m m':ME} (h:DE X e m) (k:∀ s r,m' s=some r->m s=some r):DE X e m':=.mk fun f hf=>PE.imp (h f hf) fun σ H Q ⟨α,s,r,rs,lo,e,q⟩=>⟨α,s,r,rs,lo,k _ _ e,q⟩
def By (B:Str->Bool) (m:ME):ME:=fun s=>match (s.σ[0]?:Option (Option SV)) with
 | some (some (.v (.str w)))=>if B w=true then m s else none
 | _=>none
theorem Lc {B:Str->Bool} {m:ME}:∀ s r,By B m s=some r->m s=some r:=fun s r h=>by
 unfold By at h
 split at h
 ·split at h
  ·exact h
  ·cases h
 ·cases h
def JY (zK:MD) (yS:XL.MX):XL.MXs:=XL.xIf (AE (mOp AR (AA 0) (mC (.str "-")))) XL.xNo
 (XL.En (Bh (AF (BS (AA 0) (mC (.str ", "))))) 1 [] (AZ 0) mTT (By thB (AK zK (AB (AA 0) AC))) (XL.Cp yS (AB (AA 0) AC)))
theorem Uz {P:Program} {w:World} {K:PySem.W.Frag} {mg:Str->Option Value} {base:Heap} {cN:Addr} {fa:Addr} {fd:FuncData} (F:Fun K "read_row" "read_row" Ej fa fd) (T:Nm mg) {yD:Addr} {yE:FuncData} {zK:MD} (zL:Cal P w K mg base "read_thing" 3 yD yE ["text"] (spD K 1 zK)) {yS:XL.MX} (yT:CalX P w K mg base "read_thing" 3 yD yE ["text"] (XL.spX K 1 cN yS)) (gs_NO_THINGS:∃ t,mg "NO_THINGS"=some (.str "-" t)) :
  FnOk P w K mg base (XL.CXF P w) 4 fa fd ["text"] (XL.spX K 1 cN (XL.xFn 1 (JY zK yS))):=
 XL.IT F LG fun f hf cdv A outer s H E hr=>(XL.Fj hf (BK hr.units (dv 0) (KM gs_NO_THINGS)) XL.Nu
 (XL.M6 (XL.J8 (esc:=(Ac Ej)) (N:=JK) (tn:=["part"]) (fn:=[]) (ix:=[]) hf ⟨rfl,rfl,rfl⟩ rfl rfl rfl rfl ⟨rfl,by decide +kernel,by decide +kernel,by decide +kernel,rfl,by decide +kernel⟩ (Da (Ai (Cy (dv 0) AI ⟨rfl,rfl,rfl,rfl⟩))) (fun _ _ _ _ _=>(Bj (BM (i:=0) (show (["part"]:List Str).Nodup by decide +kernel) rfl (Or.inl rfl)))) (fun _ _ _ _ _=>Cj) (fun _ _ _ _ _=>DE.sub (Aw zL.G hr rfl zL.m zL.k zL.b (AD (dv 0) AJ) (AQ Ak)) Lc)
  (fun f' hf' _ _ _ _ _=>XL.Ln hf' yT.G hr rfl yT.m yT.k yT.b (AD (dv 0) AJ) (AQ Ak)))))
def Gv (zM:MDF) (yU:XL.MX):XL.MXs:=XL.xIf (As (Am (A0 "str" (AA 0)))) XL.Fe
 (XL.EH (AL 1 (AF (BS (AA 0) (mC (.str "; ")))))
 (XL.xIf (AE (mOp gGt (AO Ag (AB (AA 1) AC)) (mC (.int 6)))) XL.Fe
 (XL.En (Bh (AA 1)) 1 [] (AZ 0) mTT (By BZ (AF (BG zM (AB (AA 0) AC)))) (XL.Cp yU (AB (AA 0) AC)))))
theorem S7 {P:Program} {w:World} {K:PySem.W.Frag} {mg:Str->Option Value} {base:Heap} {cN cL c1 c2 c3 c4:Addr} {fa:Addr} {fd:FuncData} (F:Fun K "read_rows" "read_rows" Dp fa fd) (T:Nm mg) (cl:XL.ClsT K mg cN cL c1 c2 c3 c4) {yF:Addr} {yG:FuncData} {zM:MDF} (zN:Cal P w K mg base "read_row" 4 yF yG ["text"] (spF K 1 zM)) {yU:XL.MX} (yV:CalX P w K mg base "read_row" 4 yF yG ["text"] (XL.spX K 1 cN yU)) (g_MOST_HANDS:∃ t,mg "MOST_HANDS"=some (.int 6 t)) :
  FnOk P w K mg base (XL.CXF P w) 5 fa fd ["text"] (XL.spX K 1 cN (XL.xFn 2 (Gv zM yU))):=
 XL.IT F sc_read_rows fun f hf cdv A outer s H E hr=>(XL.Fj hf (CZ (B9 (E6 T (dv 0))))
  (XL.x_raise (C:=cN) (E:=E) (name:="read_rows") (scope:=Ac Dp) (L:=s.heap.objs.size) (fa:=fa) (cd:=cdv) ⟨rfl,rfl,rfl⟩ rfl rfl rfl rfl rfl cl.mN cl.ex PySem.F.excBase_ValueError)
 (XL.IS hf (Al (i:=1) sc_read_rows.nd rfl (Or.inl rfl) (Ai (Cy (dv 0) AI ⟨rfl,rfl,rfl,rfl⟩)))
 (XL.Fj hf (D7 (Bb T (AD (dv 1) AJ)) (FA g_MOST_HANDS))
  (XL.Qy (C:=cN) (E:=E) (name:="read_rows") (scope:=Ac Dp) (L:=s.heap.objs.size) (fa:=fa) (cd:=cdv) ⟨rfl,rfl,rfl⟩ rfl rfl rfl rfl rfl cl.mN cl.ex PySem.F.excBase_ValueError rfl g_MOST_HANDS.choose_spec (by decide) (by decide))
 (XL.M6 (XL.J8 (esc:=(Ac Dp)) (N:=Jr) (tn:=["part"]) (fn:=[]) (ix:=[]) hf ⟨rfl,rfl,rfl⟩ rfl rfl rfl rfl ⟨rfl,by decide +kernel,by decide +kernel,by decide +kernel,rfl,by decide +kernel⟩ (Da (dv 1)) (fun _ _ _ _ _=>(Bj (BM (i:=0) (show (["part"]:List Str).Nodup by decide +kernel) rfl (Or.inl rfl)))) (fun _ _ _ _ _=>Cj) (fun _ _ _ _ _=>DE.sub (Ai (E1 zN.G hr rfl zN.m zN.k zN.b (AD (dv 0) AJ) (AQ Ak))) Lc)
  (fun f' hf' _ _ _ _ _=>XL.Ln hf' yV.G hr rfl yV.m yV.k yV.b (AD (dv 0) AJ) (AQ Ak)))))))
def Xrr:XL.MX:=XL.xFn 1 (JY Mrt Xrt)
theorem Li {Γ:Gm}:∀ (ws:List Str) (v:Option SV),(∀ w∈ws,Asc w)->ws.all thB=false->XL.DK (AZ 0) mTT (By thB (AK Mrt (AB (AA 0) AC))) (XL.Cp Xrt (AB (AA 0) AC)) (ws.map .str) [v] Γ=some Γ
 | [],v,_,h=>by cases h
 | w::ws,v,ha,h=>by
  let T:DS:=⟨[some (.v (.str w))],Γ,Γ.length⟩
  rw[List.map_cons]
  unfold XL.DK
  rw[show AZ 0 (.str w) (⟨[v],Γ,Γ.length⟩:DS)=some T from rfl]
  simp only[Option.bind_some,mTT,if_true]
  cases hb:thB w with
  | true=>
   obtain ⟨t,ht,e⟩:=HH hb
   have g:By thB (AK Mrt (AB (AA 0) AC)) T=some (.v (thD t),T):=by
    unfold By
    show (if thB w=true then _ else _)=_
    rw[if_pos hb]
    exact B5 (x:=.v (.str w)) (s':=T) rfl (by rw[e];exact Kv ht)
   rw[g]
   simp only[]
   rw[if_pos rfl]
   exact Li ws _ (fun x hx=>ha x (List.mem_cons_of_mem _ hx)) (by rw[List.all_cons,hb,Bool.true_and] at h;exact h)
  | false=>
   have g:By thB (AK Mrt (AB (AA 0) AC)) T=none:=by
    unfold By
    show (if thB w=true then _ else _)=_
    rw[if_neg (by rw[hb];decide)]
   rw[g]
   have gx:XL.Cp Xrt (AB (AA 0) AC) T=some T:=by
    unfold XL.Cp
    show ((Xrt [.v (.str w)] Γ).map _)=_
    rw[UB (ha w List.mem_cons_self) hb]
    rfl
   simp only[]
   rw[gx]
   simp only[Option.bind_some]
   rw[if_pos rfl]
theorem NG {mi:MF} {nt:Nat} {ix:List Nat} {g:MG} {t:MT} {e:ME} {ex:XL.MXs} {s s':DS} {items:List D} {Γ':Gm} (h:mi s=some (items,s')) (hl:items.length<=big) (hg:XL.DK g t e ex items (DY nt ix s'.σ) s'.Γ=some Γ'):XL.En mi nt ix g t e ex s=some {s' with Γ:=Γ'}:=by
 unfold XL.En
 rw[h,Option.bind_some]
 rw[if_pos hl,hg]
 rfl
theorem Sv {x y:Str} (ha:Asc x) (hy:1<=y.length):(Txt.split x y).length<=5001:=by
 have e:=Dt (y:=y) (Txt.split x y)
 rw[PySem.StrLaws.join_split] at e
 have h1:=ha.2
 have:(Txt.split x y).length - 1<=((Txt.split x y).length - 1) * y.length:=Nat.le_mul_of_pos_right _ hy
 lia
theorem VT {p:Str} {Γ:Gm} (ha:Asc p) (hb:BZ p=false):Xrr [.v (.str p)] Γ=some Γ:=by
 have tk:Γ.take Γ.length=Γ:=List.take_length
 let S:DS:=⟨[some (.v (.str p))],Γ,Γ.length⟩
 unfold BZ at hb
 rw[Bool.or_eq_false_iff,decide_eq_false_iff_not] at hb
 have t1:AE (mOp AR (AA 0) (mC (.str "-"))) S=some (decide (p="-"),S):=Au (AS (x:=.v (.str p)) (y:=.v (.str "-")) (s1:=S) (s2:=S) rfl rfl Dq)
 rw[decide_eq_false hb.1] at t1
 have w:=IA (Do (S:=S) (m:=AA 0) (x:=p) (y:=", ") rfl ha.2 (by decide +kernel))
 have g:=NG (nt:=1) (ix:=[]) (g:=AZ 0) (t:=mTT) (e:=By thB (AK Mrt (AB (AA 0) AC))) (ex:=XL.Cp Xrt (AB (AA 0) AC)) w (by rw[List.length_map,show big=1000000 from rfl];have:=Sv (y:=", ") ha (by decide +kernel);lia) (Li (Γ:=Γ) (Txt.split p ", ") none (fun x hx=>Eb ha hx) hb.2)
 unfold Xrr XL.xFn JY
 show ((XL.xIf _ _ _ S).map _)=_
 unfold XL.xIf
 rw[t1,Option.bind_some]
 simp only[Bool.false_eq_true,if_false]
 rw[g]
 show some (Γ.take Γ.length)=_
 rw[tk]
def Xrs:XL.MX:=XL.xFn 2 (Gv Mrr Xrr)
theorem Kh {Γ:Gm}:∀ (ws:List Str) (v:Option SV),(∀ w∈ws,Asc w)->ws.all BZ=false->XL.DK (AZ 0) mTT (By BZ (AF (BG Mrr (AB (AA 0) AC)))) (XL.Cp Xrr (AB (AA 0) AC)) (ws.map .str) [v] Γ=some Γ
 | [],v,_,h=>by cases h
 | w::ws,v,ha,h=>by
  let T:DS:=⟨[some (.v (.str w))],Γ,Γ.length⟩
  rw[List.map_cons]
  unfold XL.DK
  rw[show AZ 0 (.str w) (⟨[v],Γ,Γ.length⟩:DS)=some T from rfl]
  simp only[Option.bind_some,mTT,if_true]
  cases hb:BZ w with
  | true=>
   obtain ⟨r,e,hl,hr⟩:=LC (ha w List.mem_cons_self) hb
   have g:By BZ (AF (BG Mrr (AB (AA 0) AC))) T=some (.v (Ad r),T):=by
    unfold By
    show (if BZ w=true then _ else _)=_
    rw[if_pos hb]
    exact A7 (KO (x:=.v (.str w)) (s':=T) rfl (by rw[e];exact KG hr hl))
   rw[g]
   simp only[]
   rw[if_pos rfl]
   exact Kh ws _ (fun x hx=>ha x (List.mem_cons_of_mem _ hx)) (by rw[List.all_cons,hb,Bool.true_and] at h;exact h)
  | false=>
   have g:By BZ (AF (BG Mrr (AB (AA 0) AC))) T=none:=by
    unfold By
    show (if BZ w=true then _ else _)=_
    rw[if_neg (by rw[hb];decide)]
   rw[g]
   have gx:XL.Cp Xrr (AB (AA 0) AC) T=some T:=by
    unfold XL.Cp
    show ((Xrr [.v (.str w)] Γ).map _)=_
    rw[VT (ha w List.mem_cons_self) hb]
    rfl
   simp only[]
   rw[gx]
   simp only[Option.bind_some]
   rw[if_pos rfl]
theorem Ug {x:Str} {Γ:Gm} (ha:Asc x) (hb:B7 x=false):Xrs [.v (.str x)] Γ=some Γ:=by
 have tk:Γ.take Γ.length=Γ:=List.take_length
 let S0:DS:=⟨[some (.v (.str x)),none],Γ,Γ.length⟩
 let P:D:=.lst ((Txt.split x "; ").map .str)
 let S:DS:=⟨[some (.v (.str x)),some (.v P)],Γ,Γ.length⟩
 have t1:=isS (S:=S0) (m:=AA 0) (x:=x) rfl
 have g2:AL 1 (AF (BS (AA 0) (mC (.str "; ")))) S0=some (.nx S):=An (A7 (Do (S:=S0) (m:=AA 0) (x:=x) (y:="; ") rfl ha.2 (by decide +kernel)))
 have wl:AO Ag (AB (AA 1) AC) S=some (.v (.int ((Txt.split x "; ").length:Nat)),S):=Br (x:=.v P) (s':=S) rfl (by
  show some (D.int (((Txt.split x "; ").map D.str).length:Nat))=_
  rw[List.length_map])
 have t3:AE (mOp gGt (AO Ag (AB (AA 1) AC)) (mC (.int 6))) S=some (decide ((6:Int)<((Txt.split x "; ").length:Nat)),S):=Au (AS wl (y:=.v (.int 6)) (s2:=S) rfl rfl)
 unfold Xrs XL.xFn Gv
 show ((XL.xIf _ _ _ S0).map _)=_
 unfold XL.xIf
 rw[t1,Option.bind_some]
 simp only[Bool.false_eq_true,if_false]
 unfold XL.EH
 rw[g2,Option.bind_some]
 simp only[]
 rw[t3,Option.bind_some]
 by_cases c:(Txt.split x "; ").length<=6
 ·rw[decide_eq_false (by lia)]
  simp only[Bool.false_eq_true,if_false]
  unfold B7 at hb
  rw[decide_eq_true c,Bool.true_and] at hb
  have g:=NG (mi:=Bh (AA 1)) (nt:=1) (ix:=[]) (g:=AZ 0) (t:=mTT) (e:=By BZ (AF (BG Mrr (AB (AA 0) AC)))) (ex:=XL.Cp Xrr (AB (AA 0) AC)) (s:=S) (s':=S) (items:=(Txt.split x "; ").map .str) rfl (by rw[List.length_map,show big=1000000 from rfl];lia) (Kh (Γ:=Γ) (Txt.split x "; ") none (fun w hw=>Eb ha hw) hb)
  rw[g]
  show some (Γ.take Γ.length)=_
  rw[tk]
 ·rw[decide_eq_true (by lia)]
  simp only[if_true]
  show some (Γ.take Γ.length)=_
  rw[tk]
theorem Q1 {d:D} {Γ:Gm} (h1:tyD (.v d)≠"str") (h2:∀ ns,d≠.scr ns):Xrs [.v d] Γ=some Γ:=by
 have tk:Γ.take Γ.length=Γ:=List.take_length
 let S0:DS:=⟨[some (.v d),none],Γ,Γ.length⟩
 have t1:As (Am (A0 "str" (AA 0))) S0=some (true,S0):=by
  have e:A0 "str" (AA 0) S0=some (.v (.bl false),S0):=by
   unfold A0
   show (if HF Γ (.v d)=true then (isT "str" (tyD (.v d))).map _ else none)=_
   have hl:HF Γ (.v d)=true:=by
    cases d with
    | scr ns=>exact absurd rfl (h2 ns)
    | _=>rfl
   rw[if_pos hl]
   have:isT "str" (tyD (.v d))=some false:=by
    unfold isT
    rw[if_neg (by decide),if_neg (by decide),if_pos rfl]
    exact congrArg some (beq_eq_false_iff_ne.mpr h1)
   rw[this]
   rfl
  unfold As Am
  rw[e]
  rfl
 unfold Xrs XL.xFn Gv
 show ((XL.xIf _ _ _ S0).map _)=_
 unfold XL.xIf
 rw[t1,Option.bind_some]
 simp only[if_true]
 show some (Γ.take Γ.length)=_
 rw[tk]
theorem orX {P:Program} {w:World} {K:PySem.W.Frag} {mg:Str->Option Value} {base:Heap} {k:Nat} {f:Addr} {fd:FuncData} {ps:List Str} {sp1 sp2:Sp} (F:FnOk P w K mg base CX0 k f fd ps sp1) (G:FnOk P w K mg base (XL.CXF P w) k f fd ps sp2):FnOk P w K mg base (XL.CXF P w) k f fd ps (fun vs H Q E=>sp1 vs H Q E\/sp2 vs H Q E):=
 ⟨fun vs H Q E h=>h.elim (F.len vs H Q E) (G.len vs H Q E),fun A outer s H args us vs Q E hr he hb hv h=>h.elim (fun h=>codeAny_mono (F.run A outer s H args us vs Q E hr he hb hv h) fun r s' hq=>by
  cases r with
  | error e=>exact (show False from hq).elim
  | ok fl=>cases fl<;>exact hq) (fun h=>G.run A outer s H args us vs Q E hr he hb hv h)⟩
abbrev Jy:Stmt:=top 32
abbrev TM:List Str:=["text","found","caught","e"]
theorem sc__law_asked:FnScope TM ["text"] (Ac Jy):=⟨rfl,rfl,rfl,by decide +kernel,rfl,by decide +kernel,by decide +kernel⟩
def G0 (M:MDF) (Xr:XL.MX):MS:=fun s=>if s.σ.length=4 then match (s.σ[0]?:Option (Option SV)) with
 | some (some x)=>match M [x] s.Γ with
  | some r=>some (.rt (.tup [.str "told",.lst r.1]) ⟨s.σ.map fun _=>none,r.2,s.lo⟩)
  | none=>(Xr [x] s.Γ).map fun Γ'=>.rt (.tup [.str "NoText",.non]) ⟨s.σ.map fun _=>none,Γ',s.lo⟩
 | _=>none else none
theorem Kn {f:Fr} {α:Nat->Addr} {τ:List (Option SV)} {s:DS} {σ:L2.St} {H:Hp} (r:RS f α s σ H) (hl:τ.length=σ.length):RS f α ⟨τ.map fun _=>none,s.Γ,s.lo⟩ σ H:=
 RS.slots r (by rw[List.length_map];exact hl) fun i d e=>by
  rw[List.getElem?_map] at e
  cases z:τ[i]? with
  | none=>rw[z] at e;cases e
  | some u=>rw[z] at e;cases e
theorem Rr {P:Program} {w:World} {K:PySem.W.Frag} {mg:Str->Option Value} {base:Heap} {cN cL c1 c2 c3 c4:Addr} {fa:Addr} {fd:FuncData} (F:Fun K "_law_asked" "_law_asked" Jy fa fd) (T:Nm mg) (cl:XL.ClsT K mg cN cL c1 c2 c3 c4) {xC:Addr} {xE:FuncData} {xF:MDF} (yW:Cal P w K mg base "read_rows" 5 xC xE ["text"] (spF K 1 xF)) {xH:XL.MX} (wJ:CalX P w K mg base "read_rows" 5 xC xE ["text"] (XL.spX K 1 cN xH)) :
  FnOk P w K mg base CX0 6 fa fd ["text"] (spD K 1 (mFn 4 (G0 xF xH))):=by
 refine Bl F sc__law_asked fun cdv A outer s H E hr=>.mk fun f hf=>PSs.imp (Ci (Fd (i:=1) sc__law_asked.nd rfl (Or.inl rfl) Em) (Ci (Fd (i:=2) sc__law_asked.nd rfl (Or.inl rfl) Em)
  (Ci (XL.OY (i:=3) (j:=1) (C:=cN) (CT:=cL) ⟨rfl,rfl,rfl⟩ rfl (orX yW.G wJ.G) hr rfl yW.m yW.k yW.b (BP (pv 0) B4) rfl cl.mL cl.exm sc__law_asked.nd rfl rfl rfl rfl (fun a=>E7 (Fd (i:=2) sc__law_asked.nd rfl (Or.inl rfl) (pv 3))))
  (Ci (GR (Lf Ij (pv 2) Em rfl) (E7 (EM (FG (BP Du (BP (pv 1) B4))))) HK)
  (Ci (GR (PW.pt (MY (Nj (ES XL.Tj rfl T.isi PyProof.Rows.boot_isinstance (BP (pv 2) (BP (FG (BP (D0 (v:=.ref c1) rfl cl.m1 rfl) (BP (D0 (v:=.ref c2) rfl cl.m2 rfl) (BP (D0 (v:=.ref c3) rfl cl.m3 rfl) (BP (D0 (v:=.ref c4) rfl cl.m4 rfl) B4))))) B4))))
    (Nw (KR (Nj (ES XL.NR rfl T.isi PyProof.Rows.boot_isinstance (BP (pv 2) (BP (Ek (v:=.ty "ValueError") rfl cl.mV rfl rfl) B4)))))))) (E7 (EM (FG (BP Du (BP Em B4))))) HK)
  (E7 (EM (FG (BP (Ni ix_list (MB (BP Du (BP Du B4))) (Le ML rfl T.int PyProof.Rows.boot_int (BP (ES XL.NR rfl T.isi PyProof.Rows.boot_isinstance (BP (pv 2) (BP (D0 (v:=.ref cN) rfl cl.mN rfl) B4))) B4)) (fun _ _=>rfl)) (BP Em B4)))))))))) fun D σ H h=>?_
 obtain ⟨α,s,o,rs,lo,e,q⟩:=h
 unfold G0 at e
 split at e
 case isFalse=>cases e
 rename_i hlen
 split at e
 case h_2=>cases e
 rename_i x hx
 obtain ⟨v,hv,rv⟩:=rs.slot 0 x hx
 have rn:∀ {Γ:Gm} {H:Hp},RepV f α Γ H (.v .non) .non:=fun {Γ H}=>by show Rep _ _ _;unfold Rep;rfl
 have hl4:σ.length=4:=by rw[<-rs.len];exact hlen
 have rs1:=rs.set (i:=1) (d:=.v .non) (v:=.non) rn
 have rs2:=rs1.set (i:=2) (d:=.v .non) (v:=.non) rn
 obtain ⟨σ0,σ1,σ2,σ3,rfl⟩:∃ a b c d,σ=[a,b,c,d]:=by
  match σ,hl4 with
  | [a,b,c,d],_=>exact ⟨a,b,c,d,rfl⟩
 refine ⟨v,?_,?_⟩
 ·exact hv
 split at e
 ·rename_i r hM
  cases e
  refine .inl ⟨f,α,_,_,[x],r,hf,rfl,rs2,.cons rv .nil,hM,fun α' a vs H' rs' x' ha hxs=>?_⟩
  refine ⟨.non,rfl,rfl,_,rfl,K4 ⟨.ref a,rfl,(small (by decide):2<=sizeLine),fun t ht=>?_⟩⟩
  have r3:=rs'.new (o:=.lst vs) ha
  have x3:=Ext.new (o:=.lst vs) rs' ha
  have r4:=r3.new (o:=.tup [.str "told",.ref a]) ht
  have x4:=Ext.new (o:=.tup [.str "told",.ref a]) r3 ht
  have rp:=E3 r3 ht (.cons (d:=.str "told") (by unfold Rep;rfl) (.cons (D6 rs' ha hxs) .nil))
  exact q α' _ _ _ (Kn r4 (by rw[hlen];rfl)) rfl ((x'.trans x3).trans x4) rp
 ·rename_i hM
  obtain ⟨Γ',hX,rfl⟩:=Ah e
  refine .inr ⟨f,α,_,_,[x],Γ',hf,rfl,rs2,.cons rv .nil,hX,fun α' H' rs' x'=>⟨rfl,fun a ha=>?_⟩⟩
  refine ⟨.ref a,rfl,?_⟩
  refine ⟨.ref a,rfl,rfl,_,rfl,HB ?_⟩
  refine ⟨.ref a,rfl,(small (by decide):4<=sizeLine),fun p hp=>?_⟩
  have hap:a≠p:=fun z=>by rw[<-z,A6] at hp;cases hp
  have ha':(upd (upd H' a (XL.DR a (.ref cN))) p (.tup [.ref c1,.ref c2,.ref c3,.ref c4])) a=some (XL.DR a (.ref cN)):=by rw[AY hap,A6]
  refine ⟨a,cN,p,[c1,c2,c3,c4],false,rfl,A6,ha',cl.excC,cl.any,_,rfl,HB ?_⟩
  refine ⟨.ref a,rfl,a,cN,.ty "ValueError",.type "ValueError",true,rfl,rfl,fun _ z=>z,ha',cl.excC,cl.val,_,rfl,HB ?_⟩
  refine ⟨(small (by decide):2<=sizeLine),fun l hl=>?_⟩
  have hal:a≠l:=fun z=>by rw[<-z,ha'] at hl;cases hl
  refine ⟨.ref a,rfl,a,cN,.ref cN,.ref cN,true,rfl,rfl,fun _ z=>z,by rw[AY hal];exact ha',cl.excC,cl.own,.inr ⟨true,rfl,?_⟩⟩
  refine ⟨l,_,_,_,rfl,rfl,SqL.of A6,Cf (j:=1) rfl,(small (by decide):2<=sizeLine),fun t ht=>?_⟩
  have r3:=rs'.new (o:=XL.DR a (.ref cN)) ha
  have r4:=r3.new (o:=.tup [.ref c1,.ref c2,.ref c3,.ref c4]) hp
  have r5:=r4.new (o:=.lst [.str "odd",.str "NoText"]) hl
  have r6:=r5.new (o:=.tup [.str "NoText",.non]) ht
  have x3:=Ext.new (o:=XL.DR a (.ref cN)) rs' ha
  have x4:=Ext.new (o:=.tup [.ref c1,.ref c2,.ref c3,.ref c4]) r3 hp
  have x5:=Ext.new (o:=.lst [.str "odd",.str "NoText"]) r4 hl
  have x6:=Ext.new (o:=.tup [.str "NoText",.non]) r5 ht
  have rp:=E3 r5 ht (.cons (d:=.str "NoText") (by unfold Rep;rfl) (.cons (d:=.non) (by unfold Rep;rfl) .nil))
  exact q α' _ _ _ (Kn r6 (by rw[hlen];rfl)) rfl ((((x'.trans x3).trans x4).trans x5).trans x6) rp
theorem Oo {t:Th}:Good 1 (thD t):=⟨show 2<=100000 by decide,fun x hx=>by
 simp only[List.mem_cons,List.not_mem_nil,or_false] at hx
 rcases hx with rfl | rfl<;>trivial⟩
theorem TK {rs:List (List Th)} (W:WrR rs):Good 3 (BU rs):=by
 have h6:=W.2.1
 refine ⟨by rw[List.length_map];lia,fun x hx=>?_⟩
 obtain ⟨r,hr,rfl⟩:=List.mem_map.mp hx
 have h2:=(W.2.2 r hr).1
 refine ⟨by rw[List.length_map];lia,fun y hy=>?_⟩
 obtain ⟨t,_,rfl⟩:=List.mem_map.mp hy
 exact Oo
theorem Uc {rs:List (List Th)} (W:WrR rs):Bm 4 [BU rs,BU rs]=some (.bl true):=by rw[Hr,if_pos ⟨rfl,TK W⟩]
theorem T9 {M:List D->Option D} {a b:ME} {S S1 S2:DS} {x y:D} {r:Bool} (h1:a S=some (.v x,S1)) (h2:b S1=some (.v y,S2)) (h:M [x,y]=some (.bl r)):Ce M (AB a (AB b AC)) S=some (.v (.bl r),S2):=by
 unfold Ce AB AC
 rw[h1]
 show ((((b S1).bind _).map _).bind _)=_
 rw[h2]
 show ((M [x,y]).bind _)=_
 rw[h]
 rfl
theorem RK {rs:List (List Th)} (h6:rs.length<=6) (h:∀ r∈rs,r.length<=8/\∀ t∈r,Wr t):Low (Av rs) 4000:=by
 constructor
 ·intro c hc
  have go:∀ (l:List (List Th)),(∀ r∈l,∀ t∈r,Wr t)->∀ c∈cd (Str.join "; " (l.map Ab)),c<128:=by
   intro l
   induction l with
   | nil=>intro _ c hc;cases hc
   | cons r l ih=>
    intro hl c hc
    have h1:∀ c∈cd (Ab r),c<128:=fun c hc=>by
     have:=K8 (hl r List.mem_cons_self) hc
     lia
    cases l with
    | nil=>exact h1 c hc
    | cons q l=>
     have e:cd (Str.join "; " ((r::q::l).map Ab))=cd (Ab r)++cd ("; ":Str)++cd (Str.join "; " ((q::l).map Ab)):=by
      show cd (Str.join "; " (Ab r::Ab q::l.map Ab))=_
      rw[Dy,Bs,Bs]
      rfl
     rw[e] at hc
     rcases List.mem_append.mp hc with hc | hc
     ·rcases List.mem_append.mp hc with hc | hc
      ·exact h1 c hc
      ·have:∀ c∈cd ("; ":Str),c<128:=by decide +kernel
       exact this c hc
     ·exact ih (fun x hx=>hl x (List.mem_cons_of_mem _ hx)) c hc
  exact go rs (fun r hr=>(h r hr).2) c hc
 ·have h1:=FK (y:="; ") (B:=400) (rs.map Ab) fun p hp=>by
   obtain ⟨r,hr,rfl⟩:=List.mem_map.mp hp
   unfold Ab
   split
   ·decide +kernel
   ·have:=FK (y:=", ") (B:=40) (r.map thS) fun q hq=>by
     obtain ⟨t,ht,rfl⟩:=List.mem_map.mp hq
     exact (Ec ((h r hr).2 t ht)).2
    rw[List.length_map,show (", ":Str).length=2 by decide +kernel] at this
    have h8:=(h r hr).1
    have:r.length * (40+2)<=8 * 42:=Nat.mul_le_mul h8 (Nat.le_refl _)
    lia
  rw[List.length_map,show ("; ":Str).length=2 by decide +kernel] at h1
  have:rs.length * (400+2)<=6 * 402:=Nat.mul_le_mul h6 (Nat.le_refl _)
  show (Str.join "; " (rs.map Ab)).length<=4000
  lia
def oddV:List D:=[.non,.int 7,.lst [.lst []],.lst [.str "-"],.bl true,.dic [] [],.tup [.str "-"],.int 0]
theorem J3 {i:Int} (h:i.natAbs.log2<1920):∃ z,C0 (.int i)=some z:=⟨toString i,by
 show (if i.natAbs.log2<1920 then some (Str.ofString (toString i)) else none)=_
 exact if_pos h⟩
theorem Kl {ys:List D} (h:(PyData.list (Ae ys)).showable=true/\(PyData.list (Ae ys)).depth<=16/\(PyData.list (Ae ys)).shown.length<=big/\(PyData.list (Ae ys)).hasDict=false):∃ z,C0 (.lst ys)=some z:=⟨_,by
 show (if (PyData.list (Ae ys)).showable=true/\(PyData.list (Ae ys)).depth<=16/\(PyData.list (Ae ys)).shown.length<=big/\(PyData.list (Ae ys)).hasDict=false then some (PyData.list (Ae ys)).shown else none)=_
 exact if_pos h⟩
theorem O9 {ys:List D} (h:(PyData.tuple (Ae ys)).showable=true/\(PyData.tuple (Ae ys)).depth<=16/\(PyData.tuple (Ae ys)).shown.length<=big/\(PyData.tuple (Ae ys)).hasDict=false):∃ z,C0 (.tup ys)=some z:=⟨_,by
 show (if (PyData.tuple (Ae ys)).showable=true/\(PyData.tuple (Ae ys)).depth<=16/\(PyData.tuple (Ae ys)).shown.length<=big/\(PyData.tuple (Ae ys)).hasDict=false then some (PyData.tuple (Ae ys)).shown else none)=_
 exact if_pos h⟩
theorem Si:∀ d∈oddV,∃ z,C0 d=some z:=by
 intro d hd
 have hb:big=1000000:=rfl
 simp only[oddV,List.mem_cons,List.not_mem_nil,or_false] at hd
 rcases hd with rfl | rfl | rfl | rfl | rfl | rfl | rfl | rfl
 ·exact ⟨_,rfl⟩
 ·exact J3 (by decide)
 ·exact Kl ⟨by decide +kernel,by decide +kernel,by rw[hb];decide +kernel,by decide +kernel⟩
 ·exact Kl ⟨by decide +kernel,by decide +kernel,by rw[hb];decide +kernel,by decide +kernel⟩
 ·exact ⟨_,rfl⟩
 ·exact ⟨_,rfl⟩
 ·exact O9 ⟨by decide +kernel,by decide +kernel,by rw[hb];decide +kernel,by decide +kernel⟩
 ·exact J3 (by decide)
theorem Pd:∀ d∈oddV,tyD (.v d)≠"str"/\∀ ns,d≠.scr ns:=by
 intro d hd
 simp only[oddV,List.mem_cons,List.not_mem_nil,or_false] at hd
 rcases hd with rfl | rfl | rfl | rfl | rfl | rfl | rfl | rfl<;>exact ⟨by simp[tyD],fun ns z=>by cases z⟩
structure F45 (Mw:MD) (Mr Md:MDF) (Mc:MD) (Mn:MDF) (Mt Mch Mpc Mo Mrd Mas:MD):Prop where
 cell:∀ {Γ:Gm} {ns:List Int} {k:Nat},∃ c:Int,Mc [.v (.scr ns),.v (.int k)] Γ=some (.int c,Γ)
 deck:∀ {Γ:Gm} {c:Int} {m:Nat},m<=1000->∃ l:List Int,Md [.v (.int c),.v (.int (m:Int))] Γ=some (l.map .int,Γ)/\DkL l
 nums:∀ {Γ:Gm} {c:Int} {m:Nat},m<=1000->∃ l:List Int,Mn [.v (.int c),.v (.int (m:Int))] Γ=some (l.map .int,Γ)/\DkL l
 rows:∀ {n m:Nat} {G:Gm},Dk G n->3<=m->m<=60->∃ (rs:List (List Th)) (G':Gm),Mr [.b n,.v (.int (m:Int))] G=some (rs.map Ad,G')/\1<=rs.length/\rs.length<=6/\(∀ r∈rs,r.length<=m/\∀ t∈r,Wr t)/\Dd n G G'
 written:∀ {rs:List (List Th)} {Γ:Gm},WrR rs->Mw [.v (BU rs)] Γ=some (.str (Av rs),Γ)
 take:∀ {Γ:Gm} {n:Nat} {m:Int},Dk Γ n->0<m->∃ r Γ',Mt [.b n,.v (.int m)] Γ=some (.int r,Γ')/\0<=r/\r<m/\Dd n Γ Γ'
 chg:∀ {x:Str} {Γ:Gm} {n N:Nat},Dk Γ n->Low x N->N<=4000->∃ y Γ',Mch [.v (.str x),.b n] Γ=some (.str y,Γ')/\Low y (3 * N+100)/\Dd n Γ Γ'
 pch:∀ {x:Str} {Γ:Gm} {n N:Nat},Dk Γ n->Low x N->N<=4000->∃ y Γ',Mpc [.v (.str x),.b n] Γ=some (.str y,Γ')/\Low y 900000/\Dd n Γ Γ'
 odd:∀ {r:Int} {Γ:Gm},∃ y,Mo [.v (.int r)] Γ=some (.str y,Γ)/\Low y 40
 read:∀ {x:Str} {Γ:Gm},Asc x->(∃ rs:List (List Th),WrR rs/\x=Av rs/\Mrd [.v (.str x)] Γ=some (BU rs,Γ))\/(B7 x=false/\Mrd [.v (.str x)] Γ=some (.non,Γ))
 told:∀ {rs:List (List Th)} {Γ:Gm},WrR rs->Asc (Av rs)->Mas [.v (.str (Av rs))] Γ=some (.tup [.str "told",BU rs],Γ)
 none1:∀ {x:Str} {Γ:Gm},Asc x->B7 x=false->Mas [.v (.str x)] Γ=some (.tup [.str "NoText",.non],Γ)
 none2:∀ {d:D} {Γ:Gm},d∈oddV->Mas [.v d] Γ=some (.tup [.str "NoText",.non],Γ)
section
variable (ns:List Int) {Mw:MD} {Mr Md:MDF} {Mc:MD} {Mn:MDF} {Mt Mch Mpc Mo Mrd Mas:MD} (F:F45 Mw Mr Md Mc Mn Mt Mch Mpc Mo Mrd Mas)
theorem Lb {M:MDF} {m n:ME} {s s1 s2:DS} {x y:SV} {z:List D} {Γ':Gm} (h:m s=some (x,s1)) (h2:n s1=some (y,s2)) (hg:M [x,y] s2.Γ=some (z,Γ')):BG M (AB m (AB n AC)) s=some (z,{s2 with Γ:=Γ'}):=by
 unfold BG AB AC;rw[h];show ((((n s1).bind _).map _).bind _)=_;rw[h2];show ((M [x,y] s2.Γ).map _)=_;rw[hg];rfl
theorem Ro {M:MDF} {m:MF} {s s1:DS} {l:List D} {j:Int} {z:List D} {Γ':Gm} (h:m s=some (l,s1)) (hg:M [.b s1.Γ.length,.v (.int j)] (s1.Γ++[some l])=some (z,Γ')):BG M (Ei m (AB (mC (.int j)) AC)) s=some (z,{s1 with Γ:=Γ'}):=by
 unfold BG Ei
 rw[h]
 show ((M [.b s1.Γ.length,.v (.int j)] (s1.Γ++[some l])).map _)=_
 rw[hg]
 rfl
theorem sne {Γ:Gm} {x:Str}:Ap Γ (.v (.str x)) (.v (.str x))=some (.bl false):=str_ne.trans (by rw[decide_eq_true rfl];rfl)
def m9 (Mt:MD):MS:=mIf (Bw (AE (mOp AR (AA 4) (mC (.int 6)))) (AE (mOp AR (AK Mt (AB (AA 3) (AB (mC (.int 2)) AC))) (mC (.int 0))))) (AG (AL 2 (mOp gIx (AF (AX (AB (mC .non) (AB (mC (.int 7)) (AB (AF (AX (AB (AF (AX AC)) AC))) (AB (AF (AX (AB (mC (.str "-")) AC))) (AB (mC (.bl true)) (AB E9 (AB (CS (AB (mC (.str "-")) AC)) (AB (mC (.int 0)) AC)))))))))) (AK Mt (AB (AA 3) (AB (mC (.int 8)) AC)))))
   (AL 5 (mC .non))) AU
theorem PY {Mas:MD} {K I B W v6 v7 v8:Option SV} {G:Gm} {t due found:D} {word z:Str} (hz:C0 t=some z) (ha:Mas [.v t] G=some (.tup [.str word,found],G)) (hr:(due=.non/\word="NoText")\/∃ rs:List (List Th),WrR rs/\due=BU rs/\word="told"/\found=BU rs) :
  (AG (AL 6 (AO C8 (AB (AA 2) AC)))
   (AG (CY (AK Mas (AB (AA 2) AC)) (CU [7,8]))
   (AG (mIf (mOr (AE (mOp Ap (AO C8 (AB (AA 2) AC)) (AA 6))) (AE (mOp Ap (AA 7) (mOp gIx (AF (AX (AB (mC (.str "told")) (AB (mC (.str "NoText")) AC)))) (AO EA (AB (mOp Ca (AA 5) (mC .non)) AC)))))) (Aa (mC (.bl false))) AU)
   (mIf (Bw (AE (mOp D4 (AA 5) (mC .non))) (As (Am (Ce (Bm 4) (AB (AA 8) (AB (AA 5) AC)))))) (Aa (mC (.bl false))) AU))))
   ⟨[K,I,some (.v t),B,W,some (.v due),v6,v7,v8],G,0⟩=some (.nx ⟨[K,I,some (.v t),B,W,some (.v due),some (.v (.str z)),some (.v (.str word)),some (.v found)],G,0⟩):=by
 let S0:DS:=⟨[K,I,some (.v t),B,W,some (.v due),v6,v7,v8],G,0⟩
 let S1:DS:=⟨[K,I,some (.v t),B,W,some (.v due),some (.v (.str z)),v7,v8],G,0⟩
 let S2:DS:=⟨[K,I,some (.v t),B,W,some (.v due),some (.v (.str z)),some (.v (.str word)),some (.v found)],G,0⟩
 have st:∀ S:DS,AA 2 S=some (.v t,S)->AO C8 (AB (AA 2) AC) S=some (.v (.str z),S):=fun S h=>Br (x:=.v t) (s':=S) h (by show (C0 t).map D.str=_;rw[hz];rfl)
 have g1:AL 6 (AO C8 (AB (AA 2) AC)) S0=some (.nx S1):=An (st S0 rfl)
 have g2:CY (AK Mas (AB (AA 2) AC)) (CU [7,8]) S1=some (.nx S2):=by
  unfold CY
  rw[B5 (M:=Mas) (x:=.v t) (s:=S1) (s':=S1) rfl ha]
  rfl
 have a1:AE (mOp Ap (AO C8 (AB (AA 2) AC)) (AA 6)) S2=some (false,S2):=Au (AS (st S2 rfl) (y:=.v (.str z)) (s2:=S2) rfl sne)
 have a2:AE (mOp Ap (AA 7) (mOp gIx (AF (AX (AB (mC (.str "told")) (AB (mC (.str "NoText")) AC)))) (AO EA (AB (mOp Ca (AA 5) (mC .non)) AC)))) S2=some (false,S2):=by
  have wl:AF (AX (AB (mC (.str "told")) (AB (mC (.str "NoText")) AC))) S2=some (.v (.lst [.str "told",.str "NoText"]),S2):=A7 (IG (ds:=[.str "told",.str "NoText"]) rfl (show 2<=1000 by decide))
  have wi:mOp gIx (AF (AX (AB (mC (.str "told")) (AB (mC (.str "NoText")) AC)))) (AO EA (AB (mOp Ca (AA 5) (mC .non)) AC)) S2=some (.v (.str word),S2):=by
   rcases hr with ⟨rfl,rfl⟩ | ⟨rs,_,rfl,rfl,_⟩
   ·exact AS wl (y:=.v (.int 1)) (s2:=S2) rfl rfl
   ·exact AS wl (y:=.v (.int 0)) (s2:=S2) rfl rfl
  exact Au (AS (x:=.v (.str word)) (s1:=S2) rfl wi sne)
 have g3:=(Aj (m:=Aa (mC (.bl false))) (n:=AU) (Hw a1 a2)).trans (show AU S2=some (.nx S2) from rfl)
 have a4:Bw (AE (mOp D4 (AA 5) (mC .non))) (As (Am (Ce (Bm 4) (AB (AA 8) (AB (AA 5) AC))))) S2=some (false,S2):=by
  rcases hr with ⟨rfl,rfl⟩ | ⟨rs,W',rfl,rfl,rfl⟩
  ·rfl
  ·have n1:AE (mOp D4 (AA 5) (mC .non)) S2=some (true,S2):=rfl
   unfold Bw
   rw[n1,Option.bind_some,if_pos rfl]
   exact HU (T9 (M:=Bm 4) (x:=BU rs) (y:=BU rs) (S:=S2) (S1:=S2) (S2:=S2) rfl rfl (Uc W'))
 have g4:=(Aj (m:=Aa (mC (.bl false))) (n:=AU) a4).trans (show AU S2=some (.nx S2) from rfl)
 exact (AM (g1)).trans ((AM (g2)).trans ((AM (g3)).trans (g4)))
include F
theorem VZ (k:Nat) (τ:List (Option SV)) (Γ:Gm) (hτ:τ.length=7) :
  ∃ τ' Γ',(Ib Mw Mr Md Mc Mn Mt Mch Mpc Mo Mrd Mas (Bm 4)) ⟨some (.v (.scr ns))::some (.v (.int k))::τ,Γ,0⟩=some (.nx ⟨some (.v (.scr ns))::τ',Γ',0⟩)/\τ'.length=7+1:=by
 obtain ⟨v2,v3,v4,v5,v6,v7,v8,rfl⟩:∃ v2 v3 v4 v5 v6 v7 v8,τ=[v2,v3,v4,v5,v6,v7,v8]:=by
  match τ,hτ with
  | [v2,v3,v4,v5,v6,v7,v8],_=>exact ⟨_,_,_,_,_,_,_,rfl⟩
 let K:Option SV:=some (.v (.scr ns))
 let I:Option SV:=some (.v (.int k))
 let S0:DS:=⟨[K,I,v2,v3,v4,v5,v6,v7,v8],Γ,0⟩
 obtain ⟨c,e0⟩:=F.cell (Γ:=Γ) (ns:=ns) (k:=k)
 obtain ⟨l,e1,hl⟩:=F.deck (Γ:=Γ) (c:=c) (m:=130) (by decide)
 have w0:AK Mc (AB (AA 0) (AB (AA 1) AC)) S0=some (.v (.int c),S0):=BR (x:=.v (.scr ns)) (y:=.v (.int k)) (s1:=S0) (s2:=S0) rfl rfl e0
 have wd:BG Md (AB (AK Mc (AB (AA 0) (AB (AA 1) AC))) (AB (mC (.int 130)) AC)) S0=some (l.map .int,S0):=Lb w0 (y:=.v (.int 130)) (s2:=S0) rfl e1
 have d0:Dk (Γ++[some (l.map .int)]) Γ.length:=⟨l,B2,hl⟩
 obtain ⟨rs,G1,f2,r1,r6,hr0,dd1⟩:=F.rows (m:=8) d0 (by decide) (by decide)
 have W0:WrR rs:=⟨r1,r6,fun r hr=>⟨by have:=(hr0 r hr).1;lia,(hr0 r hr).2⟩⟩
 have L0:Low (Av rs) 4000:=RK r6 hr0
 let Tx':Str->Option SV:=fun y=>some (.v (.str y))
 let S1:DS:=⟨[K,I,Tx' (Av rs),v3,v4,v5,v6,v7,v8],G1,0⟩
 have g1:AL 2 (AK Mw (AB (AF (BG Mr (Ei (BG Md (AB (AK Mc (AB (AA 0) (AB (AA 1) AC))) (AB (mC (.int 130)) AC))) (AB (mC (.int 8)) AC)))) AC)) S0=some (.nx S1):=
  An (B5 (x:=.v (BU rs)) (s':={S0 with Γ:=G1}) (A7 (Ro wd f2)) (F.written W0))
 obtain ⟨c',e0'⟩:=F.cell (Γ:=G1) (ns:=ns) (k:=k)
 obtain ⟨l2,e2,hl2⟩:=F.nums (Γ:=G1) (c:=c') (m:=142) (by decide)
 have w0':AK Mc (AB (AA 0) (AB (AA 1) AC)) S1=some (.v (.int c'),S1):=BR (x:=.v (.scr ns)) (y:=.v (.int k)) (s1:=S1) (s2:=S1) rfl rfl e0'
 have wn:AF (BG Mn (AB (AK Mc (AB (AA 0) (AB (AA 1) AC))) (AB (mC (.int 142)) AC))) S1=some (.v (.lst (l2.map .int)),S1):=A7 (Lb w0' (y:=.v (.int 142)) (s2:=S1) rfl e2)
 let l3:List Int:=CO l2 (some 130) none
 have hl3:DkL l3:=fun x hx=>hl2 x (List.mem_of_mem_drop (List.mem_of_mem_take hx))
 let N:Nat:=G1.length
 let B:Option SV:=some (.b N)
 let G2:Gm:=G1++[some (l3.map .int)]
 let S2:DS:=⟨[K,I,Tx' (Av rs),B,v4,v5,v6,v7,v8],G2,0⟩
 have g2:BJ 3 (FC (AF (BG Mn (AB (AK Mc (AB (AA 0) (AB (AA 1) AC))) (AB (mC (.int 142)) AC)))) (some (mC (.int 130))) none) S1=some (.nx S2):=by
  have w:FC (AF (BG Mn (AB (AK Mc (AB (AA 0) (AB (AA 1) AC))) (AB (mC (.int 142)) AC)))) (some (mC (.int 130))) none S1=some (l3.map .int,S1):=by
   unfold FC
   rw[wn]
   show some (cutD (l2.map D.int) (some 130) none,S1)=_
   rw[JR]
  unfold BJ
  rw[w]
  rfl
 have d2:Dk G2 N:=⟨l3,B2,hl3⟩
 obtain ⟨r,G3,f3,a0,a1,dd3⟩:=F.take (m:=8) d2 (by decide)
 have d3:=dd3.dk d2
 let Wy:Option SV:=some (.v (.int r))
 let S:Str->Gm->DS:=fun y G=>⟨[K,I,Tx' y,B,Wy,v5,v6,v7,v8],G,0⟩
 have g3:AL 4 (AK Mt (AB (AA 3) (AB (mC (.int 8)) AC))) S2=some (.nx (S (Av rs) G3)):=An (BR (x:=.b N) (y:=.v (.int 8)) (s1:=S2) (s2:=S2) rfl rfl f3)
 obtain ⟨y4,G4,g4,L4,d4,k4⟩:∃ y G,mIf (AE (mOp Cd (AA 4) (mC (.int 3)))) (AL 2 (AK Mch (AB (AA 2) (AB (AA 3) AC)))) AU (S (Av rs) G3)=some (.nx (S y G))/\Low y 900000/\Dk G N/\(3<=r->y=Av rs):=by
  have t:AE (mOp Cd (AA 4) (mC (.int 3))) (S (Av rs) G3)=some (decide (r<3),S (Av rs) G3):=Au (AS (x:=.v (.int r)) (y:=.v (.int 3)) (s1:=S (Av rs) G3) (s2:=S (Av rs) G3) rfl rfl rfl)
  by_cases h:r<3
  ·rw[decide_eq_true h] at t
   obtain ⟨y,G,e,ly,dd⟩:=F.chg d3 L0 (Nat.le_refl _)
   exact ⟨y,G,(A2 t).trans (An (BR (x:=.v (.str (Av rs))) (y:=.b N) (s1:=S (Av rs) G3) (s2:=S (Av rs) G3) rfl rfl e)),⟨ly.1,by have:=ly.2;lia⟩,dd.dk d3,fun z=>by lia⟩
  ·rw[decide_eq_false h] at t
   exact ⟨Av rs,G3,(Aj t).trans rfl,⟨L0.1,by have:=L0.2;lia⟩,d3,fun _=>rfl⟩
 obtain ⟨y5,G5,g5,L5,d5⟩:∃ y G,mIf (mOr (AE (mOp AR (AA 4) (mC (.int 3)))) (AE (mOp AR (AA 4) (mC (.int 4))))) (AL 2 (AK Mpc (AB (AA 2) (AB (AA 3) AC)))) AU (S y4 G4)=some (.nx (S y G))/\Low y 900000/\Dk G N:=by
  have t:∀ j:Int,AE (mOp AR (AA 4) (mC (.int j))) (S y4 G4)=some (decide (r=j),S y4 G4):=fun j=>Au (AS (x:=.v (.int r)) (y:=.v (.int j)) (s1:=S y4 G4) (s2:=S y4 G4) rfl rfl rfl)
  have t':=D5 (t 3) (t 4)
  by_cases h:r=3\/r=4
  ·rw[show (decide (r=3) || decide (r=4))=true by rw[Bool.or_eq_true,decide_eq_true_eq,decide_eq_true_eq];exact h] at t'
   have hy:=k4 (by lia)
   obtain ⟨y,G,e,ly,dd⟩:=F.pch (x:=y4) d4 (hy▸L0) (Nat.le_refl _)
   exact ⟨y,G,(A2 t').trans (An (BR (x:=.v (.str y4)) (y:=.b N) (s1:=S y4 G4) (s2:=S y4 G4) rfl rfl e)),ly,dd.dk d4⟩
  ·rw[show (decide (r=3) || decide (r=4))=false by rw[Bool.or_eq_false_iff,decide_eq_false_iff_not,decide_eq_false_iff_not];exact ⟨fun z=>h (.inl z),fun z=>h (.inr z)⟩] at t'
   exact ⟨y4,G4,(Aj t').trans rfl,L4,d4⟩
 obtain ⟨y6,G6,g6,L6,d6⟩:∃ y G,mIf (AE (mOp AR (AA 4) (mC (.int 5)))) (AL 2 (AK Mo (AB (AK Mt (AB (AA 3) (AB (mC (.int 64)) AC))) AC))) AU (S y5 G5)=some (.nx (S y G))/\Low y 900000/\Dk G N:=by
  have t:AE (mOp AR (AA 4) (mC (.int 5))) (S y5 G5)=some (decide (r=5),S y5 G5):=Au (AS (x:=.v (.int r)) (y:=.v (.int 5)) (s1:=S y5 G5) (s2:=S y5 G5) rfl rfl rfl)
  by_cases h:r=5
  ·rw[decide_eq_true h] at t
   obtain ⟨q,G,e,_,_,dd⟩:=F.take (m:=64) d5 (by decide)
   obtain ⟨y,ey,ly⟩:=F.odd (r:=q) (Γ:=G)
   exact ⟨y,G,(A2 t).trans (An (B5 (x:=.v (.int q)) (s':=S y5 G) (BR (x:=.b N) (y:=.v (.int 64)) (s1:=S y5 G5) (s2:=S y5 G5) rfl rfl e) ey)),⟨ly.1,by have:=ly.2;lia⟩,dd.dk d5⟩
  ·rw[decide_eq_false h] at t
   exact ⟨y5,G5,(Aj t).trans rfl,L5,d5⟩
 let x:Str:=BH y6 none (some ((4000:Nat):Int))
 have ax:Asc x:=by
  refine ⟨fun c hc=>L6.1 c (Ja hc),?_⟩
  have e:=K6 (x:=y6) (k:=4000)
  have:x.length=(cd x).length:=(Array.length_toList).symm
  rw[this,e,List.length_take]
  lia
 have g7:AL 2 (mSl (AA 2) none (some (mC (.int 4000)))) (S y6 G6)=some (.nx (S x G6)):=An (NN (S:=S y6 G6) (x:=y6) (j:=((4000:Nat):Int)) rfl rfl (by have:=L6.2;lia))
 let P:D->Str->D->Gm->DS:=fun t _ due G=>⟨[K,I,some (.v t),B,Wy,some (.v due),v6,v7,v8],G,0⟩
 obtain ⟨due,g8,hdue⟩:∃ due,AL 5 (AK Mrd (AB (AA 2) AC)) (S x G6)=some (.nx (P (.str x) x due G6))/\((due=.non/\B7 x=false)\/∃ rs',WrR rs'/\x=Av rs'/\due=BU rs'):=by
  rcases F.read (x:=x) (Γ:=G6) ax with ⟨rs',W',ex,e⟩ | ⟨hb,e⟩
  ·exact ⟨_,An (B5 (x:=.v (.str x)) (s':=S x G6) rfl e),.inr ⟨rs',W',ex,rfl⟩⟩
  ·exact ⟨_,An (B5 (x:=.v (.str x)) (s':=S x G6) rfl e),.inl ⟨rfl,hb⟩⟩
 obtain ⟨t,due2,G9,z,word,found,g9,hz,ha,hr⟩:∃ t due2 G z word found,m9 Mt (P (.str x) x due G6)=some (.nx (P t x due2 G))/\C0 t=some z/\Mas [.v t] G=some (.tup [.str word,found],G)/\((due2=.non/\word="NoText")\/∃ rs:List (List Th),WrR rs/\due2=BU rs/\word="told"/\found=BU rs):=by
  have plain:∀ G,Mas [.v (.str x)] G=some (.tup [.str "NoText",.non],G)/\due=.non\/∃ rs',WrR rs'/\due=BU rs'/\Mas [.v (.str x)] G=some (.tup [.str "told",BU rs'],G):=fun G=>by
   rcases hdue with ⟨e,hb⟩ | ⟨rs',W',ex,e⟩
   ·exact .inl ⟨F.none1 ax hb,e⟩
   ·exact .inr ⟨rs',W',e,by rw[ex];exact F.told W' (ex▸ax)⟩
  have fin:∀ G,m9 Mt (P (.str x) x due G6)=some (.nx (P (.str x) x due G))->∃ t due2 G z word found,m9 Mt (P (.str x) x due G6)=some (.nx (P t x due2 G))/\C0 t=some z/\Mas [.v t] G=some (.tup [.str word,found],G)/\((due2=.non/\word="NoText")\/∃ rs:List (List Th),WrR rs/\due2=BU rs/\word="told"/\found=BU rs):=fun G g=>by
   rcases plain G with ⟨e,ed⟩ | ⟨rs',W',ed,e⟩
   ·exact ⟨.str x,due,G,x,"NoText",.non,g,rfl,e,.inl ⟨ed,rfl⟩⟩
   ·exact ⟨.str x,due,G,x,"told",BU rs',g,rfl,e,.inr ⟨rs',W',ed,rfl,rfl⟩⟩
  have t1:AE (mOp AR (AA 4) (mC (.int 6))) (P (.str x) x due G6)=some (decide (r=6),P (.str x) x due G6):=Au (AS (x:=.v (.int r)) (y:=.v (.int 6)) (s1:=P (.str x) x due G6) (s2:=P (.str x) x due G6) rfl rfl rfl)
  by_cases h:r=6
  case neg=>
   rw[decide_eq_false h] at t1
   refine fin G6 ((Aj (s':=P (.str x) x due G6) ?_).trans rfl)
   unfold Bw
   rw[t1]
   rfl
  rw[decide_eq_true h] at t1
  obtain ⟨u,G7,f7,_,_,dd7⟩:=F.take (m:=2) d6 (by decide)
  have d7:=dd7.dk d6
  have t2:AE (mOp AR (AK Mt (AB (AA 3) (AB (mC (.int 2)) AC))) (mC (.int 0))) (P (.str x) x due G6)=some (decide (u=0),P (.str x) x due G7):=Au (AS (BR (x:=.b N) (y:=.v (.int 2)) (s1:=P (.str x) x due G6) (s2:=P (.str x) x due G6) rfl rfl f7) (y:=.v (.int 0)) (s2:=P (.str x) x due G7) rfl rfl)
  have t:Bw (AE (mOp AR (AA 4) (mC (.int 6)))) (AE (mOp AR (AK Mt (AB (AA 3) (AB (mC (.int 2)) AC))) (mC (.int 0)))) (P (.str x) x due G6)=some (decide (u=0),P (.str x) x due G7):=by
   unfold Bw
   rw[t1,Option.bind_some,if_pos rfl,t2]
  by_cases h0:u=0
  case neg=>
   rw[decide_eq_false h0] at t
   exact fin G7 ((Aj t).trans rfl)
  rw[decide_eq_true h0] at t
  obtain ⟨j,G8,f8,j0,j8,dd8⟩:=F.take (m:=8) d7 (by decide)
  have wl:AF (AX (AB (mC .non) (AB (mC (.int 7)) (AB (AF (AX (AB (AF (AX AC)) AC))) (AB (AF (AX (AB (mC (.str "-")) AC))) (AB (mC (.bl true)) (AB E9 (AB (CS (AB (mC (.str "-")) AC)) (AB (mC (.int 0)) AC))))))))) (P (.str x) x due G7)=some (.v (.lst oddV),P (.str x) x due G7):=rfl
  obtain ⟨d,hd,hm⟩:∃ d,atI oddV j=some d/\d∈oddV:=by
   obtain ⟨n,rfl⟩:∃ n:Nat,j=(n:Int):=⟨j.toNat,by lia⟩
   have hlt:n<oddV.length:=by show n<8;lia
   exact ⟨oddV[n],Cf (List.getElem?_eq_getElem hlt),List.getElem_mem hlt⟩
  have gA:AL 2 (mOp gIx (AF (AX (AB (mC .non) (AB (mC (.int 7)) (AB (AF (AX (AB (AF (AX AC)) AC))) (AB (AF (AX (AB (mC (.str "-")) AC))) (AB (mC (.bl true)) (AB E9 (AB (CS (AB (mC (.str "-")) AC)) (AB (mC (.int 0)) AC)))))))))) (AK Mt (AB (AA 3) (AB (mC (.int 8)) AC)))) (P (.str x) x due G7)=some (.nx (P d x due G8)):=
   An (AS (g:=gIx) wl (BR (x:=.b N) (y:=.v (.int 8)) (s1:=P (.str x) x due G7) (s2:=P (.str x) x due G7) rfl rfl f8) hd)
  have gB:AL 5 (mC .non) (P d x due G8)=some (.nx (P d x .non G8)):=rfl
  obtain ⟨z,hz⟩:=Si d hm
  exact ⟨d,.non,G8,z,"NoText",.non,(A2 t).trans ((AM gA).trans gB),hz,F.none2 hm,.inl ⟨rfl,rfl⟩⟩
 refine ⟨[I,some (.v t),B,Wy,some (.v due2),some (.v (.str z)),some (.v (.str word)),some (.v found)],G9,?_,rfl⟩
 unfold Ib
 exact (AM (g1)).trans ((AM (g2)).trans ((AM (g3)).trans ((AM (g4)).trans ((AM (g5)).trans ((AM (g6)).trans ((AM (g7)).trans ((AM (g8)).trans ((AM (g9)).trans (PY hz ha hr)))))))))
end
theorem T1 {N:Int} (h1:1<=N) (h2:N<=100) {m:Nat} {b:MS} {ns:List Int} (hl:ns.length<=63) (once:∀ (k:Nat) (τ:List (Option SV)) (Γ:Gm),τ.length=m->∃ τ' Γ',b ⟨some (.v (.scr ns))::some (.v (.int k))::τ,Γ,0⟩=some (.nx ⟨some (.v (.scr ns))::τ',Γ',0⟩)/\τ'.length=m+1) :
  mFn (m+2) (AG (C5 (B3 (AB (AO Ed (AB (mC (.int 1)) (AB (AO Ef (AB (AO Ag (AB (AA 0) AC)) (AB (mC (.int N)) AC))) AC))) AC)) (AZ 1) b) (Aa (mC (.bl true)))) [.v (.scr ns)] []=some (.bl true,[]):=by
 let S0:DS:=⟨some (.v (.scr ns))::List.replicate (m+1) none,[],0⟩
 have hJ:∃ J:Int,B3 (AB (AO Ed (AB (mC (.int 1)) (AB (AO Ef (AB (AO Ag (AB (AA 0) AC)) (AB (mC (.int N)) AC))) AC))) AC) S0=some (upTo 0 J.toNat,S0):=by
  have hr:okR (if (if N<(ns.length:Int) then N else (ns.length:Int)) > 1 then (if N<(ns.length:Int) then N else (ns.length:Int)) else 1)=true:=J5 (by split<;>split<;>lia) (by split<;>split<;>lia)
  refine ⟨if (if N<(ns.length:Int) then N else (ns.length:Int)) > 1 then (if N<(ns.length:Int) then N else (ns.length:Int)) else 1,?_⟩
  simp only[gt_iff_lt] at hr
  simp[S0,hr]
 obtain ⟨J,hJ⟩:=hJ
 obtain ⟨s',e1,τ,Γ',rfl,_⟩:=GP (g:=AZ 1) (b:=b) (items:=upTo 0 J.toNat) (fun _ s=>∃ (τ:List (Option SV)) (Γ':Gm),s=⟨some (.v (.scr ns))::τ,Γ',0⟩/\τ.length=m+1) (by
   rintro i d s hd ⟨τ,Γ',rfl,hτ⟩
   obtain ⟨hi,rfl⟩:=Eg hd
   cases τ with
   | nil=>cases hτ
   | cons v τ=>
    obtain ⟨τ2,Γ2,e2,h2⟩:=once i τ Γ' (by simpa using hτ)
    exact ⟨_,_,rfl,by rw[show ((0:Int)+i)=i by lia];exact e2,τ2,Γ2,rfl,h2⟩)
  (s:=S0) ⟨_,[],rfl,by simp⟩
 unfold mFn
 have e0:(⟨EE (m+2) [.v (.scr ns)],[],([]:Gm).length⟩:DS)=S0:=by
  show (⟨[some (.v (.scr ns))]++List.replicate (m+2 - 1) none,[],0⟩:DS)=_
  rfl
 rw[e0,AM (Fc hJ e1)]
 rfl
def Cc:MDF:=fun ds Γ=>match ds with
 | [.v (.str x)]=>if B7 x=true then Mrs ds Γ else none
 | _=>none
theorem Qp {ds:List SV} {Γ:Gm} {r:List D×Gm} (h:Cc ds Γ=some r):Mrs ds Γ=some r:=by
 unfold Cc at h
 split at h
 ·split at h
  ·exact h
  ·cases h
 ·cases h
theorem VV {K:PySem.W.Frag}:∀ vs H Q E,spF K 1 Cc vs H Q E->spF K 1 Mrs vs H Q E:=fun vs H Q E ⟨f,α,s,σ,ds,r,a,b,c,d,hM,q⟩=>⟨f,α,s,σ,ds,r,a,b,c,d,Qp hM,q⟩
def Mask:MD:=mFn 4 (G0 Cc Xrs)
theorem IJ {x:SV} {Γ:Gm}:Mask [x] Γ=(match Cc [x] Γ with
  | some r=>some (.tup [.str "told",.lst r.1],r.2.take Γ.length)
  | none=>(Xrs [x] Γ).map fun Γ'=>(.tup [.str "NoText",.non],Γ'.take Γ.length)):=by
 unfold Mask mFn G0
 show ((match Cc [x] Γ with
  | some r=>some (Out.rt (.tup [.str "told",.lst r.1]) ⟨_,r.2,Γ.length⟩)
  | none=>(Xrs [x] Γ).map fun Γ'=>.rt (.tup [.str "NoText",.non]) ⟨_,Γ',Γ.length⟩).bind _)=_
 cases Cc [x] Γ with
 | some r=>rfl
 | none=>
  cases Xrs [x] Γ with
  | none=>rfl
  | some Γ'=>rfl
theorem TZ {rs:List (List Th)} {Γ:Gm} (W:WrR rs) (ha:Asc (Av rs)):Mask [.v (.str (Av rs))] Γ=some (.tup [.str "told",BU rs],Γ):=by
 have tk:Γ.take Γ.length=Γ:=List.take_length
 have hb:B7 (Av rs)=true:=by
  cases e:B7 (Av rs) with
  | true=>rfl
  | false=>
   exfalso
   have sp:Txt.split (Av rs) "; "=rs.map Ab:=by
    have h1:=Do (S:=⟨[],[],0⟩) (m:=mC (.str (Av rs))) (x:=Av rs) (y:="; ") rfl ha.2 (by decide +kernel)
    have h2:=NL W (S:=⟨[],[],0⟩) (m:=mC (.str (Av rs))) rfl
    rw[h1] at h2
    have h3:(Txt.split (Av rs) "; ").map D.str=(rs.map Ab).map D.str:=congrArg Prod.fst (Option.some.inj h2)
    have inj:∀ (a b:List Str),a.map D.str=b.map D.str->a=b:=by
     intro a
     induction a with
     | nil=>intro b h;cases b with
      | nil=>rfl
      | cons _ _=>cases h
     | cons p a ih=>intro b h;cases b with
      | nil=>cases h
      | cons q b=>
       rw[List.map_cons,List.map_cons] at h
       injection h with h1 h2
       injection h1 with h1
       rw[h1,ih b h2]
    exact inj _ _ h3
   unfold B7 at e
   rw[sp,List.length_map,decide_eq_true W.2.1,Bool.true_and] at e
   have:(rs.map Ab).all BZ=true:=List.all_eq_true.mpr fun p hp=>by
    obtain ⟨r,hr,rfl⟩:=List.mem_map.mp hp
    exact Pm (W.2.2 r hr).2
   rw[this] at e
   cases e
 have e:Cc [.v (.str (Av rs))] Γ=some (rs.map Ad,Γ):=by
  show (if B7 (Av rs)=true then Mrs [.v (.str (Av rs))] Γ else none)=_
  rw[if_pos hb]
  exact OR W
 rw[IJ,e]
 show some (D.tup [.str "told",.lst (rs.map Ad)],Γ.take Γ.length)=_
 rw[tk]
 rfl
theorem Ru {x:Str} {Γ:Gm} (ha:Asc x) (hb:B7 x=false):Mask [.v (.str x)] Γ=some (.tup [.str "NoText",.non],Γ):=by
 have tk:Γ.take Γ.length=Γ:=List.take_length
 have e:Cc [.v (.str x)] Γ=none:=by
  show (if B7 x=true then Mrs [.v (.str x)] Γ else none)=_
  rw[if_neg (by rw[hb];decide)]
 rw[IJ,e]
 simp only[]
 rw[Ug ha hb]
 show some (_,Γ.take Γ.length)=_
 rw[tk]
theorem UG {d:D} {Γ:Gm} (h:d∈oddV):Mask [.v d] Γ=some (.tup [.str "NoText",.non],Γ):=by
 have tk:Γ.take Γ.length=Γ:=List.take_length
 obtain ⟨h1,h2⟩:=Pd d h
 have e:Cc [.v d] Γ=none:=by
  unfold Cc
  split
  ·rename_i x hx
   cases hx
   exact absurd rfl h1
  ·rfl
 rw[IJ,e]
 simp only[]
 rw[Q1 h1 h2]
 show some (_,Γ.take Γ.length)=_
 rw[tk]
theorem S4 (ns:List Int) (hl:ns.length<=63):mFn 9 (JF Gj Mlr Hb EY ER BC FU FO FN Ew Mask (Bm 4)) [.v (.scr ns)] []=some (.bl true,[]):=T1 (by decide) (by decide) hl (VZ ns ⟨Q4,Pf,NP,RC,VC,Cg,Rf,OU,P5,R8,TZ,Ru,UG⟩)
end DL
namespace DL
open PySem L2
theorem Uw {K:PySem.W.Frag} {M:MD} {ns:List Int} {H:Hp} {a:Addr} {Γ:Gm} (h:M [.v (.scr ns)] []=some (.bl true,Γ)) (hS:SqL K H a (ns.map V.int)):spD K 1 M [.ref a] H (fun v _=>v=.bl true) fun _ _ _=>False:=by
 refine ⟨frQ K H,fun _=>0,emp,[],[.v (.scr ns)],_,rfl,rfl,Kj,.cons ?_ .nil,h,fun α' v H' _ _ hv=>?_⟩
 ·show Rep _ (.scr ns) (.ref a)
  unfold Rep
  refine ⟨a,rfl,?_⟩
  rcases hS with h | h
  ·refine .inl ⟨fun z=>?_,h⟩
   rcases z with z | ⟨n,xs,z,_⟩
   ·exact z
   ·cases z
  ·exact .inr fun H'=>.inr h
 ·unfold Rep at hv
  exact hv
def Im:MD:=mFn 9 (JF Gj Mlr Hb EY ER BC FU FO FN Ew Mask (Bm 4))
theorem Ra (ns:List Int) (hl:ns.length<=63):Im [.v (.scr ns)] []=some (.bl true,[]):=S4 ns hl
end DL
namespace L2
open PySem
theorem Fun.bi1 {K:PySem.W.Frag} {x qual:Str} {st:Stmt} {f:Addr} {fd:FuncData} {p1:Str} (F:Fun K x qual st f fd) (h:∀ (kV doc pm:Value) (an:Option Addr) (cdv ct a1:Value),bindArgs (PySem.W.fnOf x qual (Es st) (Cu st) (Ac st) .none kV doc pm an cdv ct) ⟨[a1],[]⟩=pure [(p1,a1)]):Binds K fd [p1] []:=
 F.binds fun kV doc pm an cdv ct us hl=>match us,hl with | [a1],_=>h kV doc pm an cdv ct a1
theorem Fun.bi2 {K:PySem.W.Frag} {x qual:Str} {st:Stmt} {f:Addr} {fd:FuncData} {p1 p2:Str} (F:Fun K x qual st f fd) (h:∀ (kV doc pm:Value) (an:Option Addr) (cdv ct a1 a2:Value),bindArgs (PySem.W.fnOf x qual (Es st) (Cu st) (Ac st) .none kV doc pm an cdv ct) ⟨[a1,a2],[]⟩=pure [(p1,a1),(p2,a2)]):Binds K fd [p1,p2] []:=
 F.binds fun kV doc pm an cdv ct us hl=>match us,hl with | [a1,a2],_=>h kV doc pm an cdv ct a1 a2
end L2
namespace DL
open PySem L2 Ev HD PySem.W
theorem all_mk {l:OpenLaw} {w:World} {K:Frag} {h:Heap} {mg:Str->Option Value} {fa:Addr} (O:ob K=vl) (X:K.In h) (G:h.Ns mainGlobals mg) (hfa:mg "law"=some (.ref fa)) :
  ∃ fd:FuncData,(∀ (s:Shared) (v:Value),BindsTo s fd ⟨[v],[]⟩ [("script",v)])/\∀ base:Heap,K.In base->base.Ns mainGlobals mg->FnOk l.prog w K mg base CX0 7 fa fd ["script"] (spD K 1 Im):=by
 have oF:fns.map (fun p=>GQ K p.1)=fns.map Fs:=congrArg Prod.fst O
 have oB:bls.map (fun x=>nsIn K mainGlobals x)=bls.map fun _=>some none:=congrArg (·.2.1) O
 have oN:nts.map (fun p=>Fm K p.1)=nts.map fun p=>some p.2:=congrArg (·.2.2.1) O
 obtain ⟨f1,d1,a1,F1⟩:=BY (x:="_law_row_written") (st:=Hx) (BI (i:=0) oF rfl)
 obtain ⟨f2,d2,a2,F2⟩:=BY (x:="_law_written") (st:=Ge) (BI (i:=1) oF rfl)
 obtain ⟨f3,d3,a3,F3⟩:=BY (x:="_law_take") (st:=JQ) (BI (i:=2) oF rfl)
 obtain ⟨f4,d4,a4,F4⟩:=BY (x:="_law_key") (st:=Jk) (BI (i:=3) oF rfl)
 obtain ⟨f5,d5,a5,F5⟩:=BY (x:="_law_tag") (st:=GN) (BI (i:=4) oF rfl)
 obtain ⟨f6,d6,a6,F6⟩:=BY (x:="_law_rows") (st:=FT) (BI (i:=5) oF rfl)
 obtain ⟨f7,d7,a7,F7⟩:=BY (x:="_law_numbers") (st:=Ju) (BI (i:=6) oF rfl)
 obtain ⟨f8,d8,a8,F8⟩:=BY (x:="_law_deck") (st:=IW) (BI (i:=7) oF rfl)
 obtain ⟨f9,d9,a9,F9⟩:=BY (x:="_law_cell_at") (st:=Hz) (BI (i:=8) oF rfl)
 obtain ⟨f10,d10,a10,F10⟩:=BY (x:="_law_changed") (st:=Ih) (BI (i:=9) oF rfl)
 obtain ⟨f11,d11,a11,F11⟩:=BY (x:="_law_parts_changed") (st:=Js) (BI (i:=10) oF rfl)
 obtain ⟨f12,d12,a12,F12⟩:=BY (x:="_law_odd") (st:=Iz) (BI (i:=11) oF rfl)
 obtain ⟨f13,d13,a13,F13⟩:=BY (x:="_law_thing") (st:=FI) (BI (i:=12) oF rfl)
 obtain ⟨f14,d14,a14,F14⟩:=BY (x:="_law_read") (st:=GD) (BI (i:=13) oF rfl)
 obtain ⟨f15,d15,a15,F15⟩:=BY (x:="are_figures") (st:=Fh) (BI (i:=14) oF rfl)
 obtain ⟨f16,d16,a16,F16⟩:=BY (x:="is_key") (st:=JT) (BI (i:=15) oF rfl)
 obtain ⟨f17,d17,a17,F17⟩:=BY (x:="is_tag") (st:=Fg) (BI (i:=16) oF rfl)
 obtain ⟨f18,d18,a18,F18⟩:=BY (x:="read_thing") (st:=FD) (BI (i:=17) oF rfl)
 obtain ⟨f19,d19,a19,F19⟩:=BY (x:="read_row") (st:=Ej) (BI (i:=18) oF rfl)
 obtain ⟨f20,d20,a20,F20⟩:=BY (x:="read_rows") (st:=Dp) (BI (i:=19) oF rfl)
 obtain ⟨f21,d21,a21,F21⟩:=BY (x:="_law_asked") (st:=Jy) (BI (i:=20) oF rfl)
 obtain ⟨f22,d22,a22,F22⟩:=BY (x:="_law_alike") (st:=E2) (BI (i:=21) oF rfl)
 obtain ⟨f23,d23,a23,F23⟩:=BY (x:="law") (st:=IE) (BI (i:=22) oF rfl)
 have e:=hfa.symm.trans (mg_of X G a23)
 cases e
 have b1:=F1.bi1 (p1:="row") fun _ _ _ _ _ _ _=>rfl
 have m1:=mg_of X G a1
 have k1:=F1.kp
 have b2:=F2.bi1 (p1:="rows") fun _ _ _ _ _ _ _=>rfl
 have m2:=mg_of X G a2
 have k2:=F2.kp
 have b3:=F3.bi2 (p1:="deck") (p2:="many") fun _ _ _ _ _ _ _ _=>rfl
 have m3:=mg_of X G a3
 have k3:=F3.kp
 have b4:=F4.bi1 (p1:="deck") fun _ _ _ _ _ _ _=>rfl
 have m4:=mg_of X G a4
 have k4:=F4.kp
 have b5:=F5.bi1 (p1:="deck") fun _ _ _ _ _ _ _=>rfl
 have m5:=mg_of X G a5
 have k5:=F5.kp
 have b6:=F6.bi2 (p1:="deck") (p2:="most") fun _ _ _ _ _ _ _ _=>rfl
 have m6:=mg_of X G a6
 have k6:=F6.kp
 have b7:=F7.bi2 (p1:="cell") (p2:="many") fun _ _ _ _ _ _ _ _=>rfl
 have m7:=mg_of X G a7
 have k7:=F7.kp
 have b8:=F8.bi2 (p1:="cell") (p2:="many") fun _ _ _ _ _ _ _ _=>rfl
 have m8:=mg_of X G a8
 have k8:=F8.kp
 have b9:=F9.bi2 (p1:="script") (p2:="k") fun _ _ _ _ _ _ _ _=>rfl
 have m9:=mg_of X G a9
 have k9:=F9.kp
 have b10:=F10.bi2 (p1:="text") (p2:="deck") fun _ _ _ _ _ _ _ _=>rfl
 have m10:=mg_of X G a10
 have k10:=F10.kp
 have b11:=F11.bi2 (p1:="text") (p2:="deck") fun _ _ _ _ _ _ _ _=>rfl
 have m11:=mg_of X G a11
 have k11:=F11.kp
 have b12:=F12.bi1 (p1:="number") fun _ _ _ _ _ _ _=>rfl
 have m12:=mg_of X G a12
 have k12:=F12.kp
 have b13:=F13.bi1 (p1:="word") fun _ _ _ _ _ _ _=>rfl
 have m13:=mg_of X G a13
 have k13:=F13.kp
 have b14:=F14.bi1 (p1:="text") fun _ _ _ _ _ _ _=>rfl
 have m14:=mg_of X G a14
 have k14:=F14.kp
 have b15:=F15.bi2 (p1:="text") (p2:="most") fun _ _ _ _ _ _ _ _=>rfl
 have m15:=mg_of X G a15
 have k15:=F15.kp
 have b16:=F16.bi1 (p1:="text") fun _ _ _ _ _ _ _=>rfl
 have m16:=mg_of X G a16
 have k16:=F16.kp
 have b17:=F17.bi1 (p1:="thing") fun _ _ _ _ _ _ _=>rfl
 have m17:=mg_of X G a17
 have k17:=F17.kp
 have b18:=F18.bi1 (p1:="text") fun _ _ _ _ _ _ _=>rfl
 have m18:=mg_of X G a18
 have k18:=F18.kp
 have b19:=F19.bi1 (p1:="text") fun _ _ _ _ _ _ _=>rfl
 have m19:=mg_of X G a19
 have k19:=F19.kp
 have b20:=F20.bi1 (p1:="text") fun _ _ _ _ _ _ _=>rfl
 have m20:=mg_of X G a20
 have k20:=F20.kp
 have b21:=F21.bi1 (p1:="text") fun _ _ _ _ _ _ _=>rfl
 have m21:=mg_of X G a21
 have k21:=F21.kp
 have b22:=F22.bi2 (p1:="found") (p2:="due") fun _ _ _ _ _ _ _ _=>rfl
 have m22:=mg_of X G a22
 have k22:=F22.kp
 have b23:=F23.bi1 (p1:="script") fun _ _ _ _ _ _ _=>rfl
 have B:=fun i x (z:bls[i]?=some x)=>mg_none_of X G (BI oB z)
 have T:Nm mg:=⟨B 0 _ rfl,B 1 _ rfl,B 2 _ rfl,B 3 _ rfl,B 4 _ rfl,B 5 _ rfl,B 6 _ rfl,B 7 _ rfl,B 8 _ rfl,B 9 _ rfl,B 10 _ rfl,B 11 _ rfl,B 12 _ rfl,B 13 _ rfl,B 14 _ rfl,B 15 _ rfl,B 16 _ rfl,B 17 _ rfl⟩
 obtain ⟨ty1,y1⟩:=int_at (x:="MOST_FIGURES") (n:=30) (BI (i:=0) oN rfl)
 obtain ⟨ty2,y2⟩:=int_at (x:="MOST_LETTERS") (n:=8) (BI (i:=1) oN rfl)
 obtain ⟨ty3,y3⟩:=int_at (x:="MOST_HANDS") (n:=6) (BI (i:=2) oN rfl)
 have u1:PySem.W.nsIn K mainGlobals "NoText"=some (some (.ref 61)):=congrArg (·.2.2.2.1) O
 have u2:PySem.W.nsIn K mainGlobals "LotError"=some (some (.ref 24)):=congrArg (·.2.2.2.2.1) O
 have u3:PySem.W.nsIn K mainGlobals "NoDeed"=some (some (.ref 49)):=congrArg (·.2.2.2.2.2.1) O
 have u4:PySem.W.nsIn K mainGlobals "NoName"=some (some (.ref 73)):=congrArg (·.2.2.2.2.2.2.1) O
 have u5:PySem.W.nsIn K mainGlobals "NoNumber"=some (some (.ref 37)):=congrArg (·.2.2.2.2.2.2.2.1) O
 have u6:PySem.W.nsIn K mainGlobals "NoRow"=some (some (.ref 85)):=congrArg (·.2.2.2.2.2.2.2.2.1) O
 have u7:PySem.W.nsIn K mainGlobals "ValueError"=some none:=congrArg (·.2.2.2.2.2.2.2.2.2.1) O
 have u8:PySem.W.excIn K 61 [.type "ValueError",.type "Exception",.type "BaseException",.type "object"] "ValueError.__new__"=true:=congrArg (·.2.2.2.2.2.2.2.2.2.2.1) O
 have u9:PySem.W.exmOne K (.ref 61) (.ref 24)=some true:=congrArg (·.2.2.2.2.2.2.2.2.2.2.2.1) O
 have u10:PySem.W.findIn K (.ref 61) "__getattribute__"=some (some (.builtin "BaseException.__getattribute__")):=congrArg (·.2.2.2.2.2.2.2.2.2.2.2.2.1) O
 have u15:PySem.W.findIn K (.ref 61) "__getattr__"=some none:=congrArg (·.2.2.2.2.2.2.2.2.2.2.2.2.2.1) O
 have u16:PySem.W.subIn K (.ref 61) (.type "BaseException")=some true:=congrArg (·.2.2.2.2.2.2.2.2.2.2.2.2.2.2.1) O
 have u11:PySem.W.findObj K 61 none "__class__"=some (.bind (.builtin "getset_descriptor.__get__") (.builtin "object.__class__")):=congrArg (·.2.2.2.2.2.2.2.2.2.2.2.2.2.2.2.1) O
 have u12:PySem.W.mroIn K 61 (.type "object")=some true:=congrArg (·.2.2.2.2.2.2.2.2.2.2.2.2.2.2.2.2.1) O
 have u13:PySem.W.kitAny K (.ref 61) [.ref 49,.ref 73,.ref 37,.ref 85]=some false:=congrArg (·.2.2.2.2.2.2.2.2.2.2.2.2.2.2.2.2.2.1) O
 have u14:PySem.W.kitOne K (.ref 61) (.type "ValueError")=some true:=congrArg (·.2.2.2.2.2.2.2.2.2.2.2.2.2.2.2.2.2.2.1) O
 have u17:PySem.W.kitOne K (.ref 61) (.ref 61)=some true:=congrArg (·.2.2.2.2.2.2.2.2.2.2.2.2.2.2.2.2.2.2.2.1) O
 have us_NO_THINGS:GW K "NO_THINGS"=some "-":=congrArg (·.2.2.2.2.2.2.2.2.2.2.2.2.2.2.2.2.2.2.2.2) O
 refine ⟨d23,fun s v=>?_,fun base _ _=>?_⟩
 ·obtain ⟨_,_,_,_,_,_,_,_,_,z,_⟩:=F23.ex
  subst z
  exact .of_eq rfl
 have cls:XL.ClsT K mg 61 24 49 73 37 85:=⟨mg_of X G u1,mg_of X G u2,mg_of X G u3,mg_of X G u4,mg_of X G u5,mg_of X G u6,mg_none_of X G u7,u8,u9,u10,u15,u16,u11,u12,u13,u14,u17⟩
 obtain ⟨tys_NO_THINGS,ys_NO_THINGS⟩:=Pq us_NO_THINGS
 have gs_NO_THINGS:∃ t,mg "NO_THINGS"=some (.str "-" t):=⟨tys_NO_THINGS,mg_of X G ys_NO_THINGS⟩
 have h1:Cal l.prog w K mg base "_law_row_written" 1 f1 _ ["row"] (spD K 1 Mlw):=⟨U9 F1 T,b1,k1,m1⟩
 have h2:Cal l.prog w K mg base "_law_written" 2 f2 _ ["rows"] (spD K 1 Gj):=⟨PC F2 T h1,b2,k2,m2⟩
 have h3:Cal l.prog w K mg base "_law_take" 1 f3 _ ["deck","many"] (spD K 2 BC):=⟨O7 F3 T,b3,k3,m3⟩
 have h4:Cal l.prog w K mg base "_law_key" 2 f4 _ ["deck"] (spD K 1 Mlk):=⟨SM F4 T h3,b4,k4,m4⟩
 have h5:Cal l.prog w K mg base "_law_tag" 2 f5 _ ["deck"] (spD K 1 Mlt):=⟨Um F5 T h3,b5,k5,m5⟩
 have h6:Cal l.prog w K mg base "_law_rows" 3 f6 _ ["deck","most"] (spF K 2 Mlr):=⟨VQ F6 T h3 h4 h5,b6,k6,m6⟩
 have h7:Cal l.prog w K mg base "_law_numbers" 1 f7 _ ["cell","many"] (spF K 2 ER):=⟨Rl F7 T,b7,k7,m7⟩
 have h8:Cal l.prog w K mg base "_law_deck" 2 f8 _ ["cell","many"] (spF K 2 Hb):=⟨Qu F8 T h7,b8,k8,m8⟩
 have h9:Cal l.prog w K mg base "_law_cell_at" 1 f9 _ ["script","k"] (spD K 2 EY):=⟨Pn F9 T,b9,k9,m9⟩
 have h10:Cal l.prog w K mg base "_law_changed" 2 f10 _ ["text","deck"] (spD K 2 FU):=⟨Ss F10 T h3,b10,k10,m10⟩
 have h11:Cal l.prog w K mg base "_law_parts_changed" 2 f11 _ ["text","deck"] (spD K 2 FO):=⟨So F11 T h3,b11,k11,m11⟩
 have h12:Cal l.prog w K mg base "_law_odd" 1 f12 _ ["number"] (spD K 1 FN):=⟨Q8 F12 T,b12,k12,m12⟩
 have h13:Cal l.prog w K mg base "_law_thing" 1 f13 _ ["word"] (spD K 1 Bg):=⟨Qq F13 T,b13,k13,m13⟩
 have h14:Cal l.prog w K mg base "_law_read" 2 f14 _ ["text"] (spD K 1 Ew):=⟨SA F14 T h13,b14,k14,m14⟩
 have h15:Cal l.prog w K mg base "are_figures" 1 f15 _ ["text","most"] (spD K 2 De):=⟨Ve F15 T,b15,k15,m15⟩
 have h16:Cal l.prog w K mg base "is_key" 2 f16 _ ["text"] (spD K 1 DM):=⟨SO F16 T h15 ⟨ty1,mg_of X G y1⟩,b16,k16,m16⟩
 have h17:Cal l.prog w K mg base "is_tag" 1 f17 _ ["thing"] (spD K 1 Cw):=⟨U4 F17 T ⟨ty2,mg_of X G y2⟩,b17,k17,m17⟩
 have h18:Cal l.prog w K mg base "read_thing" 3 f18 _ ["text"] (spD K 1 Mrt):=⟨PX F18 T h16 h17,b18,k18,m18⟩
 have h19:Cal l.prog w K mg base "read_row" 4 f19 _ ["text"] (spF K 1 Mrr):=⟨RU F19 T h18 gs_NO_THINGS,b19,k19,m19⟩
 have h20:Cal l.prog w K mg base "read_rows" 5 f20 _ ["text"] (spF K 1 Cc):=⟨(SF F20 T h19 ⟨ty3,mg_of X G y3⟩).imp VV,b20,k20,m20⟩
 have h21:Cal l.prog w K mg base "_law_asked" 6 f21 _ ["text"] (spD K 1 Mask):=⟨Rr F21 T cls h20 ⟨S7 F20 T cls h19 ⟨Uz F19 T h18 ⟨O5 F18 T cls h16 h17,b18,k18,m18⟩ gs_NO_THINGS,b19,k19,m19⟩ ⟨ty3,mg_of X G y3⟩,b20,k20,m20⟩,b21,k21,m21⟩
 have h22:Cal l.prog w K mg base "_law_alike" 4 f22 _ ["found","due"] (spQ K 2 (Bm 4)):=⟨NZ F22 T b22 m22 4,b22,k22,m22⟩
 exact Tb F23 T h2 h6 h8 h9 h7 h3 h10 h11 h12 h14 h21 h22
end DL
open PySem PySem.W PyProof.Rows
theorem PySem.Challenge.cw_evenlots_k45_texts_of_no_rows_holds : PySem.Challenge.rw_evenlots_k45_texts_of_no_rows.Holds := by
 w_on
 o_law
 refine HD.SH (l:=PySem.Challenge.rw_evenlots_k45_texts_of_no_rows) (q:=DL.qv) (loose:=DL.lse) (N:=100000) (obs:=DL.ob) (val:=DL.vl) (by assumption) rfl rfl (fun _=>rfl) (fun w os=>congrFun (congrFun DL.T8 w) os) (fun w os=>congrFun (congrFun DL.Ry w) os) (fun w os=>congrFun (congrFun DL.PF w) os) (by rfl) (by rfl) (by rfl) rfl (by decide +kernel) ⟨rfl,rfl,rfl,rfl,rfl,by decide +kernel⟩ ?hw ?hc
 case hw=>w_witness2
 case hc=>exact HD.SJ (n:=63) (k:=7) (x:="script") (sp:=fun K=>DL.spD K 1 DL.Im) rfl (by decide) rfl ⟨rfl,by decide,by decide,rfl⟩ (fun _ _ _ _ _ O X G m=>DL.all_mk O X G m) fun _ _ _ ns hl _ hS=>DL.Uw (DL.Ra ns hl) hS
