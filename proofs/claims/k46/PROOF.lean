import PyProof.Rows.All
import Wide.All
import OpenK.AllK
import Wide.FinOn
import Lean
import PyProof.EqAt
import PyProof.EqKinds
import PyProof.TupleCall
import PyProof.Rows.SortRuns
import PyProof.Rows.SortShell
import KE.KSortTup
import PyProof.DictKinds
import PyProof.StrOps
import PyProof.NeKinds
import PyProof.NeData
import PyProof.P3In
import PyProof.Rows.SumAny
import PyProof.FString5
import PyProof.StrWalks
import PyProof.Rows.Range3
import PyProof.SeqI3
import PyProof.SetKind
import PyProof.Rows.SetFrom
import PyProof.FactsAll.set
import PyProof.DictIter
import PyProof.CollectWalk
import PyProof.ListRange
import PyProof.StrCalls
import PyProof.StrCalls2
import PyProof.StrLawsTight
import KE.KIntText
import KE.IntTextLaws
import PyProof.SetRoads
import PySem.Challenge.RW_evenlots_k46_whole_one_writing_each
set_option Elab.async false
set_option linter.all false
set_option maxRecDepth 100000
set_option maxHeartbeats 0
noncomputable section
namespace L2
open PySem PySem.Spec PyProof.Rows
abbrev Key:=Sum Int Str
def LW:Key->Value->Bool
 | .inl k,v=>Value.isInt k v
 | .inr x,v=>Value.isStrOf x v
def OC (w:World):Key->Int
 | .inl k=>hashInt k
 | .inr x=>hashStr w x
theorem Ct:∀ {k:Key} {v:Value},LW k v=true->(∃ i t,k=Sum.inl i/\v=Value.int i t)\/(∃ x t,k=Sum.inr x/\v=Value.str x t)
 | .inl i,v,h=>by
  obtain ⟨t,e⟩:=Value.isInt_shape (k:=i) (v:=v) h
  exact .inl ⟨i,t,rfl,e⟩
 | .inr x,v,h=>by
  obtain ⟨t,e⟩:=Value.isStrOf_shape (x:=x) (v:=v) h
  exact .inr ⟨x,t,rfl,e⟩
theorem OT (a b:Int):decide ((Sum.inl a:Key)=Sum.inl b)=(a == b):=by
 by_cases e:a=b
 ·subst e;simp
 ·have h:¬(Sum.inl a:Key)=Sum.inl b:=fun q=>e (Sum.inl.inj q)
  rw[decide_eq_false h]
  exact (beq_eq_false_iff_ne.mpr e).symm
theorem Rz (a b:Str):decide ((Sum.inr a:Key)=Sum.inr b)=decide (a=b):=by
 by_cases e:a=b
 ·subst e;simp
 ·have h:¬(Sum.inr a:Key)=Sum.inr b:=fun q=>e (Sum.inr.inj q)
  rw[decide_eq_false h,decide_eq_false e]
theorem Qz (a:Int) (b:Str):decide ((Sum.inl a:Key)=Sum.inr b)=false:=decide_eq_false (fun q=>nomatch q)
theorem U8 (a:Str) (b:Int):decide ((Sum.inr a:Key)=Sum.inl b)=false:=decide_eq_false (fun q=>nomatch q)
def JU (prog:Program) (w:World):PySem.KeyKind prog w Key where
 is:=LW
 hash:=OC w
 inj:=fun v a b ha hb=>by
  rcases Ct ha with ⟨i,t,rfl,rfl⟩ | ⟨x,t,rfl,rfl⟩
  ·rcases Ct hb with ⟨j,u,rfl,e⟩ | ⟨y,u,rfl,e⟩
   ·injection e with e1 _;rw[e1]
   ·exact nomatch e
  ·rcases Ct hb with ⟨j,u,rfl,e⟩ | ⟨y,u,rfl,e⟩
   ·exact nomatch e
   ·injection e with e1 _;rw[e1]
 byValue:=fun k v h=>by
  rcases Ct h with ⟨i,t,rfl,rfl⟩ | ⟨x,t,rfl,rfl⟩<;>rfl
 pyHash:=fun hv h=>by
  rcases Ct hv with ⟨i,t,rfl,rfl⟩ | ⟨x,t,rfl,rfl⟩
  ·exact wpAny_pyHash_int h
  ·exact wpAny_pyHash_str h
 eqBool:=fun hu hv h=>by
  rcases Ct hu with ⟨i,t,rfl,rfl⟩ | ⟨x,t,rfl,rfl⟩
  ·rcases Ct hv with ⟨j,u,rfl,rfl⟩ | ⟨y,u,rfl,rfl⟩
   ·rw[OT] at h;exact wpAny_eqBool_int h
   ·rw[Qz] at h;exact SeqAt.EqAt.int_str i t y u _ _ _ _ h
  ·rcases Ct hv with ⟨j,u,rfl,rfl⟩ | ⟨y,u,rfl,rfl⟩
   ·rw[U8] at h;exact SeqAt.EqAt.str_int x t j u _ _ _ _ h
   ·rw[Rz] at h;exact wpAny_eqBool_str h
 «strs»:=fun k x t v h=>by
  rcases Ct h with ⟨i,u,rfl,e⟩ | ⟨y,u,rfl,e⟩
  ·exact nomatch e
  ·injection e with e1 _
   subst e1
   cases v<;>rfl
inductive V where
 | non | bl (b:Bool) | int (i:Int) | str (x:Str) | byt (b:Array UInt8) | flt (b:UInt64) | ref (a:Addr) | ty (n:String)
 deriving DecidableEq
def RelV:V->Value->Prop
 | .non,u=>u=Value.none
 | .bl b,u=>u=Value.bool b
 | .int i,u=>∃ t,u=Value.int i t
 | .str x,u=>∃ t,u=Value.str x t
 | .byt b,u=>∃ t,u=Value.bytes b t
 | .flt b,u=>∃ t,u=Value.float b t
 | .ref a,u=>u=Value.ref a
 | .ty n,u=>u=Value.type n
abbrev Vals:List V->List Value->Prop:=Paired RelV
theorem Vals.length {xs:List V} {us:List Value} (r:Vals xs us):xs.length=us.length:=Paired.length r
theorem Vals.get:∀ {xs:List V} {us:List Value} {i:Nat} {x:V},Vals xs us->xs[i]?=some x->∃ u,us[i]?=some u/\RelV x u
 | _,_,_,_,.nil,e=>by simp at e
 | _,_,0,_,.cons r _,e=>by simp at e;subst e;exact ⟨_,rfl,r⟩
 | _,_,i+1,x,.cons _ t,e=>by
  obtain ⟨u,h1,h2⟩:=Vals.get (i:=i) (x:=x) t (by simpa using e)
  exact ⟨u,by simpa using h1,h2⟩
theorem Vals.set {x:V} {u:Value} (r:RelV x u):∀ {xs:List V} {us:List Value} (i:Nat),Vals xs us->Vals (xs.set i x) (us.set i u)
 | _,_,_,.nil=>.nil
 | _,_,0,.cons _ t=>.cons r t
 | _,_,i+1,.cons q t=>.cons q (Vals.set r i t)
theorem Vals.append:∀ {xs ys:List V} {us ws:List Value},Vals xs us->Vals ys ws->Vals (xs++ys) (us++ws)
 | _,_,_,_,.nil,s=>s
 | _,_,_,_,.cons r t,s=>.cons r (Vals.append t s)
theorem Vals.take:∀ {xs:List V} {us:List Value} (n:Nat),Vals xs us->Vals (xs.take n) (us.take n)
 | _,_,0,_=>.nil
 | _,_,_+1,.nil=>.nil
 | _,_,n+1,.cons r t=>.cons r (Vals.take n t)
theorem Vals.drop:∀ {xs:List V} {us:List Value} (n:Nat),Vals xs us->Vals (xs.drop n) (us.drop n)
 | _,_,0,r=>r
 | _,_,_+1,.nil=>.nil
 | _,_,n+1,.cons _ t=>Vals.drop n t
def Ih:Option V->Option Value->Prop
 | some v,some u=>RelV v u
 | none,none=>True
 | _,_=>False
def KV {κ:Type}:List (κ×V)->List (κ×Value)->Prop:=Paired fun (p:κ×V) (q:κ×Value)=>p.1=q.1/\RelV p.2 q.2
def kV:Key->V
 | .inl i=>.int i
 | .inr x=>.str x
inductive HO where
 | lst (xs:List V)
 | tup (xs:List V)
 | dK (kvs:List (Key×V)) | dT (kvs:List (List Key×V))
 | set (S:Int->Bool) (n:Nat)
 | ins (C dx:Addr) (fs:List (Str×V))
 | own (x:Addr)
 | xd (fs:List (Str×V))
 | met (f x:Addr)
 | rng (lo hi:Int)
 | frz (o:Obj) (u:HO)
 | tbl (ps:Array Value)
 | ext (φ:Heap->Prop)
abbrev Hp:=Addr->Option HO
def upd (H:Hp) (a:Addr) (o:HO):Hp:=fun b=>if b=a then some o else H b
theorem Ak {H:Hp} {a:Addr} {o:HO}:upd H a o a=some o:=by unfold upd;rw[if_pos rfl]
theorem AH {H:Hp} {a b:Addr} {o:HO} (h:b≠a):upd H a o b=H b:=by unfold upd;rw[if_neg h]
theorem BC {H:Hp} {a b:Addr} {o:HO} (h:H a=some o) (h':H b=none):a≠b:=by
 intro e;subst e;rw[h] at h';cases h'
section
variable (P:Program) (w:World)
def ObjOk (H:Hp) (h:Heap) (a:Addr):HO->Prop
 | .lst xs=>xs.length<=sizeLine/\∃ (its:List Value) (n:Nat),Vals xs its/\h.get? a=some {cls:=.type "list",data:=.seq its.toArray n}
 | .tup xs=>xs.length<=sizeLine/\∃ its:List Value,Vals xs its/\IsTup h a its.toArray
 | .dK kvs=>kvs.length<=sizeLine/\(a == sysModules)=false/\∃ vs,KV kvs vs/\h.DictOf (JU P w) a vs
 | .dT kvs=>kvs.length<=sizeLine/\(a == sysModules)=false/\∃ xs:List (List Key×Addr×Value),
   Paired (fun (p:List Key×V) (q:List Key×Addr×Value)=>p.1=q.1/\H q.2.1=some (.tup (p.1.map kV))/\RelV p.2 q.2.2) kvs xs /\
   ∃ o es ep,h.get? a=some o/\o.ExactDict/\o.data=.dict es ep/\es.toList=xs.map (entryOfKey (tupleKind (JU P w)))/\(xs.map (·.1)).Nodup
 | .set S n=>h.SetOf (intKind P w) a S n
 | .ins C dx fs=>H dx=some (.own a)/\fs.length<=1000/\dx≠a/\h.get? a=some (PySem.W.instObj C dx) /\
   ∃ mA,h.Ns1 dx mA/\(∀ f,Ih (fs.lookup f) (mA f))/\PySem.Within mA (fs.map (·.1))
 | .own _=>∃ o,h.get? a=some o
 | .xd fs=>∃ mA,h.Ns1 a mA/\∀ f,Ih (fs.lookup f) (mA f)
 | .rng lo hi=>∃ t u v,h.get? a=some {cls:=.type "range",data:=.fields #[.int lo t,.int hi u,.int 1 v]}
 | .frz o u=>h.get? a=some o/\ObjOk H h a u
 | .tbl ps=>h.get? a=some {cls:=.none,data:=.fields ps}
 | .met f x=>h.get? a=some (PySem.W.methodObj (.ref f) (.ref x))
 | .ext φ=>φ h/\(∃ o,h.get? a=some o)/\∀ h1 h2:Heap,φ h1->(∀ o,h1.get? a=some o->h2.get? a=some o)->φ h2
def HOk (H:Hp) (h:Heap):Prop:=∀ a o,H a=some o->ObjOk P w H h a o
end
section
variable {P:Program} {w:World} {H H':Hp} {h h':Heap} {a:Addr} {o:HO}
theorem ObjOk.lt (x:ObjOk P w H h a o):a<h.objs.size:=by
 cases o with
 | lst xs=>obtain ⟨_,_,_,_,e⟩:=x;exact Heap.lt_size e
 | tup xs=>obtain ⟨_,_,_,p⟩:=x;exact p.lt
 | dK kvs=>obtain ⟨_,_,_,_,o,_,_,e,_⟩:=x;exact Heap.lt_size e
 | dT kvs=>obtain ⟨_,_,_,_,o,_,_,e,_⟩:=x;exact Heap.lt_size e
 | set S n=>obtain ⟨o,_,_,_,e,_⟩:=x;exact Heap.lt_size e
 | ins C dx fs=>obtain ⟨_,_,_,e,_⟩:=x;exact Heap.lt_size e
 | own y=>obtain ⟨_,e⟩:=x;exact Heap.lt_size e
 | xd fs=>obtain ⟨_,⟨_,_,_,e,_⟩,_⟩:=x;exact Heap.lt_size e
 | rng lo hi=>obtain ⟨_,_,_,e⟩:=x;exact Heap.lt_size e
 | frz ob u=>obtain ⟨e,_⟩:=x;exact Heap.lt_size e
 | tbl ps=>exact Heap.lt_size (show h.get? a=some _ from x)
 | met f y=>exact Heap.lt_size (show h.get? a=some _ from x)
 | ext φ=>obtain ⟨_,⟨_,e⟩,_⟩:=x;exact Heap.lt_size e
theorem Paired.mapP {α β:Type} {F G:α->β->Prop}:∀ {l₁:List α} {l₂:List β},Paired F l₁ l₂->(∀ a b,F a b->G a b)->Paired G l₁ l₂
 | _,_,.nil,_=>.nil
 | _,_,.cons r t,f=>.cons (f _ _ r) (Paired.mapP t f)
theorem ObjOk.stay (x:ObjOk P w H h a o) (k:∀ b u,(b=a\/H b=some (.own a))->h.get? b=some u->h'.get? b=some u)
  (ho:∀ b,H b=some (.own a)->H' b=some (.own a)) (ht:∀ b xs,H b=some (.tup xs)->H' b=some (.tup xs)):ObjOk P w H' h' a o:=by
 induction o with
 | lst xs=>obtain ⟨z,its,n,r,e⟩:=x;exact ⟨z,its,n,r,k _ _ (.inl rfl) e⟩
 | tup xs=>obtain ⟨z,its,r,ob,e,c⟩:=x;exact ⟨z,its,r,ob,k _ _ (.inl rfl) e,c⟩
 | dK kvs=>obtain ⟨z,y,vs,r,ob,es,ep,e,c⟩:=x;exact ⟨z,y,vs,r,ob,es,ep,k _ _ (.inl rfl) e,c⟩
 | dT kvs=>
  obtain ⟨z,y,xs,r,ob,es,ep,e,c⟩:=x
  exact ⟨z,y,xs,Paired.mapP r fun p q z=>⟨z.1,ht _ _ z.2.1,z.2.2⟩,ob,es,ep,k _ _ (.inl rfl) e,c⟩
 | set S n=>obtain ⟨ob,es,ep,t,e,c⟩:=x;exact ⟨ob,es,ep,t,k _ _ (.inl rfl) e,c⟩
 | ins C dx fs=>
  obtain ⟨d,z,ne,e,mA,⟨od,es,ep,e2,c⟩,r⟩:=x
  exact ⟨ho _ d,z,ne,k _ _ (.inl rfl) e,mA,⟨od,es,ep,k _ _ (.inr d) e2,c⟩,r⟩
 | own y=>obtain ⟨ob,e⟩:=x;exact ⟨ob,k _ _ (.inl rfl) e⟩
 | xd fs=>obtain ⟨mA,⟨od,es,ep,e,c⟩,r⟩:=x;exact ⟨mA,⟨od,es,ep,k _ _ (.inl rfl) e,c⟩,r⟩
 | rng lo hi=>obtain ⟨t,u,v,e⟩:=x;exact ⟨t,u,v,k _ _ (.inl rfl) e⟩
 | frz ob u ih=>obtain ⟨e,q⟩:=x;exact ⟨k _ _ (.inl rfl) e,ih q⟩
 | tbl ps=>
  have e:h.get? a=some {cls:=.none,data:=.fields ps}:=x
  show h'.get? a=some {cls:=.none,data:=.fields ps}
  exact k a _ (.inl rfl) e
 | met f y=>
  have e:h.get? a=some (PySem.W.methodObj (.ref f) (.ref y)):=x
  show h'.get? a=some (PySem.W.methodObj (.ref f) (.ref y))
  exact k a _ (.inl rfl) e
 | ext φ=>obtain ⟨p,⟨o,e⟩,st⟩:=x;exact ⟨st _ _ p fun o q=>k _ _ (.inl rfl) q,⟨o,k _ _ (.inl rfl) e⟩,st⟩
theorem HOk.lt (x:HOk P w H h) (e:H a=some o):a<h.objs.size:=(x a o e).lt
theorem HOk.fresh (x:HOk P w H h) (e:h.objs.size<=a):H a=none:=by
 cases q:H a with
 | none=>rfl
 | some u=>exact absurd (Nat.lt_of_lt_of_le (x.lt q) e) (Nat.lt_irrefl _)
theorem HOk.kept (x:HOk P w H h) (k:∀ b u,h.get? b=some u->h'.get? b=some u):HOk P w H h':=fun a o e=>
 (x a o e).stay (fun b u _ q=>k b u q) (fun _ q=>q) fun _ _ q=>q
theorem HOk.laid (x:HOk P w H h) (k:∀ b u,h.get? b=some u->h'.get? b=some u) (hp:h.objs.size<=a) (new:ObjOk P w (upd H a o) h' a o):HOk P w (upd H a o) h':=fun b u e=>by
 have hn:=x.fresh hp
 by_cases hb:b=a
 ·subst hb;rw[Ak] at e;cases e;exact new
 ·rw[AH hb] at e
  exact (x b u e).stay (fun c v _ q=>k c v q) (fun c q=>by rw[AH (BC q hn)];exact q) fun c xs q=>by rw[AH (BC q hn)];exact q
end
def Rd (H:Hp) (a:Addr) (u:HO):Prop:=H a=some u\/∃ o,H a=some (.frz o u)
theorem Rd.ok {P:Program} {w:World} {H:Hp} {h:Heap} {a:Addr} {u:HO} (r:Rd H a u) (x:HOk P w H h):ObjOk P w H h a u:=by
 rcases r with r | ⟨o,r⟩
 ·exact x a u r
 ·obtain ⟨_,q⟩:=x a _ r
  exact q
def Mut:Option HO->Prop
 | some (.lst _)=>True
 | some (.dK _)=>True
 | some (.dT _)=>True
 | some (.set _ _)=>True
 | some (.ins _ _ _)=>True
 | some (.ext _)=>True
 | _=>False
section
variable {P:Program} {w:World} {H:Hp} {h h':Heap} {x e:Addr} {o':HO}
theorem HOk.write (ok:HOk P w H h) (mu:Mut (H x)) (he:e=x\/H e=some (.own x)) (k:∀ b u,b≠e->h.get? b=some u->h'.get? b=some u) (heo:∃ u,h'.get? e=some u)
  (new:ObjOk P w (upd H x o') h' x o'):HOk P w (upd H x o') h':=fun b u q=>by
 have nown:∀ c y,H c=some (.own y)->c≠x:=fun c y r z=>by subst z;rw[r] at mu;exact mu
 have ntup:∀ c xs,H c=some (.tup xs)->c≠x:=fun c xs r z=>by subst z;rw[r] at mu;exact mu
 by_cases hb:b=x
 ·subst hb;rw[Ak] at q;cases q;exact new
 ·rw[AH hb] at q
  by_cases hbe:b=e
  ·have q':H b=some (.own x):=by
    rcases he with z | z
    ·exact absurd (hbe.trans z) hb
    ·rw[hbe];exact z
   rw[q] at q';cases q'
   obtain ⟨v,hv⟩:=heo
   exact ⟨v,by rw[hbe];exact hv⟩
  ·refine (ok b u q).stay (fun c v hc r=>k c v ?_ r) (fun c r=>by rw[AH (nown c b r)];exact r) fun c xs r=>by rw[AH (ntup c xs r)];exact r
   rcases hc with rfl | hc
   ·exact hbe
   ·rintro rfl
    rcases he with z | z
    ·exact nown c b hc z
    ·rw[hc] at z;cases z;exact hb rfl
end
structure Un (fs ex:List Addr) (H H':Hp) (h h':Heap):Prop where
 keep:∀ b o,h.get? b=some o->H b=none->b∉fs->b∉ex->h'.get? b=some o
 slot:∀ b o,h.get? b=some o->H b=none->b∈fs->b∉ex->∃ sl,h'.get? b=some {o with slots:=sl}
 free:∀ b o,h.get? b=some o->H b=none->b∉ex->H' b=none
 there:∀ b o,h.get? b=some o->b∉ex->∃ o',h'.get? b=some o'
 tups:∀ b xs,H b=some (.tup xs)->H' b=some (.tup xs)
 frzs:∀ b o u,H b=some (.frz o u)->H' b=some (.frz o u)
 tbls:∀ b ps,H b=some (.tbl ps)->∃ more,H' b=some (.tbl (ps++more))
section
variable {fs fs' ex ex':List Addr} {H H1 H2:Hp} {h h1 h2 h':Heap} {a x e:Addr} {o:HO}
theorem Un.any (u:Un fs ex H H1 h h1) {b:Addr} {ob:Obj} (q:h.get? b=some ob) (n:H b=none) (hx:b∉ex):∃ sl,h1.get? b=some {ob with slots:=sl}:=by
 by_cases hb:b∈fs
 ·exact u.slot b ob q n hb hx
 ·exact ⟨ob.slots,u.keep b ob q n hb hx⟩
theorem Un.kept (k:∀ b u,h.get? b=some u->h'.get? b=some u):Un fs ex H H h h':=
 ⟨fun b ob q _ _ _=>k b ob q,fun b ob q _ _ _=>⟨ob.slots,k b ob q⟩,fun _ _ _ n _=>n,fun b ob q _=>⟨ob,k b ob q⟩,fun _ _ q=>q,fun _ _ _ q=>q,fun _ ps q=>⟨#[],by rw[q];simp⟩⟩
theorem Un.refl:Un fs ex H H h h:=Un.kept fun _ _ q=>q
theorem Un.laid (k:∀ b u,h.get? b=some u->h'.get? b=some u) (hp:h.objs.size<=a) (hn:H a=none):Un fs ex H (upd H a o) h h' where
 keep:=fun b u q _ _ _=>k b u q
 slot:=fun b u q _ _ _=>⟨u.slots,k b u q⟩
 free:=fun b u q n _=>by rw[AH (Nat.ne_of_lt (Nat.lt_of_lt_of_le (Heap.lt_size q) hp))];exact n
 there:=fun b u q _=>⟨u,k b u q⟩
 tups:=fun b xs q=>by rw[AH (BC q hn)];exact q
 frzs:=fun b u xs q=>by rw[AH (BC q hn)];exact q
 tbls:=fun b ps q=>⟨#[],by rw[AH (BC q hn),q];simp⟩
theorem Un.write (mu:Mut (H x)) (he:e=x\/H e=some (.own x)) (k:∀ b u,b≠e->h.get? b=some u->h'.get? b=some u) (heo:∃ u,h'.get? e=some u):Un fs ex H (upd H x o) h h':=by
 have hx:∀ b,H b=none->b≠x:=fun b n z=>by subst z;rw[n] at mu;exact mu
 have hb:∀ b,H b=none->b≠e:=fun b n z=>by
  subst z
  rcases he with r | r
  ·exact hx b n r
  ·rw[n] at r;cases r
 have hm:∀ b u,H b=some u->¬Mut (some u)->b≠x:=fun b u q nm z=>by subst z;rw[q] at mu;exact nm mu
 refine ⟨fun b u q n _ _=>k b u (hb b n) q,fun b u q n _ _=>⟨u.slots,k b u (hb b n) q⟩,fun b u q n _=>by rw[AH (hx b n)];exact n,fun b u q _=>?_,
  fun b xs q=>by rw[AH (hm b _ q fun z=>z)];exact q,fun b u xs q=>by rw[AH (hm b _ q fun z=>z)];exact q,fun b ps q=>⟨#[],by rw[AH (hm b _ q fun z=>z),q];simp⟩⟩
 by_cases hbe:b=e
 ·subst hbe;exact heo
 ·exact ⟨u,k b u hbe q⟩
end
def trk (h:Heap) (H:Hp):List Addr:=(List.range h.objs.size).filter fun a=>(H a).isSome
def Cg (h:Heap) (H:Hp):Heap:=PySem.W.hideAll h (trk h H)
theorem Sz (h:Heap) (H:Hp):(Cg h H).objs.size=h.objs.size:=PySem.W.hideAll_size _ _
theorem OF {h:Heap} {H:Hp} {b:Addr} {o:Obj} (e:h.get? b=some o) (n:H b=none):(Cg h H).get? b=some o:=
 PySem.W.hideAll_get _ e fun hm=>by
  have q:(H b).isSome=true:=(List.mem_filter.mp hm).2
  rw[n] at q;simp at q
theorem RQ {h:Heap} {H:Hp} {b:Addr} {o:Obj} (e:(Cg h H).get? b=some o):h.get? b=some o/\H b=none:=by
 have e':h.get? b=some o:=PySem.W.of_hideAll (trk h H) e
 refine ⟨e',?_⟩
 cases q:H b with
 | none=>rfl
 | some x=>
  have hm:b∈trk h H:=List.mem_filter.mpr ⟨List.mem_range.mpr (Heap.lt_size e'),by simp[q]⟩
  have z:(Cg h H).get? b=none:=PySem.W.hideAll_none (trk h H) hm
  rw[z] at e;cases e
def RY (g h:Heap) (L:Addr):List (Addr×Obj):=(List.range h.objs.size).filterMap fun a=>if a=L\/(g.get? a).isSome=true then none else (h.get? a).map fun o=>(a,o)
def rest (g h:Heap) (L d:Addr):List (Addr×Obj):=(RY g h L).filter fun p=>decide (p.1≠d)
structure Mod (K:PySem.W.Frag) (mg:Str->Option Value) (base:Heap):Prop where
 kin:K.In base
 glob:base.Ns mainGlobals mg
 blt:∃ mb,base.Ns builtinsNs mb/\∀ x:Str,x≠"__name__"->mb x=bootBuiltins x
 nolimit:base.NoLimit
structure Cx where
 prog:Program
 w:World
 K:PySem.W.Frag
 mg:Str->Option Value
 base:Heap
 A:Around
 N:List Str
 s₀:Shared
 H₀:Hp
 env:Env
 outer:List Env
 stack:List Env
 ex:List Addr
 fn:Str->Bool
 calm:Bool
 pn:List (Addr×Obj)
 xe:Value->Shared->Prop
def frs (l:List Env):List Addr:=l.filterMap (·.frame)
abbrev Cx.fs (X:Cx):List Addr:=frs X.outer
def Vis (sc:Scope) (x:Str):Prop:=sc.names.lookup x=some .local\/sc.names.lookup x=some .cell\/sc.names.lookup x=some .free
def Loc (sc:Scope) (x:Str):Prop:=sc.names.lookup x=some .local\/sc.names.lookup x=some .cell
def Look (env:Env) (h:Heap) (m:Str->Option Value) (x:Str) (u:Value):Prop:=
 (env.kindOf x=some .local/\m x=some u)\/((env.kindOf x=some .cell\/env.kindOf x=some .free)/\∃ c,env.cells.lookup x=some c/\h.IsCell c (some u))
structure Cx.Ok (X:Cx):Prop where
 mod:Mod X.K X.mg X.base
 kind:X.env.scope.kind=.function
 glob:X.env.globals=mainGlobals
 blt:X.env.builtins=builtinsNs
 above:X.s₀.heap.objs.size<=X.env.locals
 inj:∀ x y c,X.env.cells.lookup x=some c->X.env.cells.lookup y=some c->x=y
 has:∀ x,(X.env.kindOf x=some .cell\/X.env.kindOf x=some .free)->∃ c,X.env.cells.lookup x=some c
 cab:∀ x c,X.fn x=true->X.env.cells.lookup x=some c->X.s₀.heap.objs.size<=c
 hd:X.calm=true->X.A.handled=none
 frames:X.A.frames=some X.stack
 stk:X.stack=X.outer\/(X.stack=X.env::X.outer/\X.env.frame=some X.env.locals)
 exf:∀ b∈X.ex,b≠X.env.locals/\∀ x c,X.env.cells.lookup x=some c->c≠b
 bs:∀ b o,X.base.get? b=some o->X.s₀.heap.get? b=some o/\X.H₀ b=none
 bsz:X.base.objs.size<=X.s₀.heap.objs.size
 noex:∀ b o,X.base.get? b=some o->b∉X.ex
 exfs:∀ b∈X.ex,b∉X.fs
 funs:X.s₀.heap.FunFrames X.base X.outer
 frf:∀ b∈X.fs,X.H₀ b=none
structure Inv (X:Cx) (pins:List (Addr×Obj)) (σ:List (Option V)) (H:Hp) (s:Shared):Prop where
 ok:X.Ok
 os:s.os=X.s₀.os
 bare:AllBare s.gens
 base:Un X.fs X.ex X.H₀ H X.s₀.heap s.heap
 loc:∃ m,s.heap.Ns X.env.locals m/\∀ (i:Nat) (x:Str) (v:V),X.N[i]?=some x->σ[i]?=some (some v)->Vis X.env.scope x->∃ u,RelV v u/\Look X.env s.heap m x u
 cell:∀ x c,X.env.cells.lookup x=some c->∃ v,s.heap.IsCell c v
 free:H X.env.locals=none
 freeC:∀ x c,X.env.cells.lookup x=some c->H c=none
 pin:∀ p∈X.pn++pins,s.heap.get? p.1=some p.2/\H p.1=none/\p.1≠X.env.locals/\p.1∉X.fs/\∀ v,p.2.data≠.cell v
 hok:HOk X.prog X.w H s.heap
 len:σ.length=X.N.length
section
variable {X:Cx} {pins:List (Addr×Obj)} {σ:List (Option V)} {H H':Hp} {s:Shared} {h':Heap}
theorem Cx.Ok.nofr (ok:X.Ok) {b:Addr} {o:Obj} (e:X.base.get? b=some o):b∉X.fs:=fun hb=>by
 have:=(ok.funs.mem hb).1
 rw[e] at this;cases this
theorem Inv.bs (I:Inv X pins σ H s):∀ b o,X.base.get? b=some o->s.heap.get? b=some o/\H b=none:=fun b o e=>
 ⟨I.base.keep b o (I.ok.bs b o e).1 (I.ok.bs b o e).2 (I.ok.nofr e) (I.ok.noex b o e),I.base.free b o (I.ok.bs b o e).1 (I.ok.bs b o e).2 (I.ok.noex b o e)⟩
theorem Inv.bk (I:Inv X pins σ H s):∀ b o,X.base.get? b=some o->s.heap.get? b=some o:=fun b o e=>(I.bs b o e).1
theorem Inv.mod (I:Inv X pins σ H s):Mod X.K X.mg X.base:=I.ok.mod
theorem Inv.kIn (I:Inv X pins σ H s):X.K.In s.heap:=I.ok.mod.kin.keeps I.bk
theorem Inv.lt (I:Inv X pins σ H s):X.env.locals<s.heap.objs.size:=let ⟨_,hn,_⟩:=I.loc;hn.lt
theorem Inv.sz (I:Inv X pins σ H s):X.s₀.heap.objs.size<=s.heap.objs.size:=Nat.le_trans I.ok.above (Nat.le_of_lt I.lt)
theorem Inv.nofs (I:Inv X pins σ H s) {a:Addr} (h:s.heap.objs.size<=a):a∉X.fs:=fun hb=>by
 obtain ⟨_,o,ho,_⟩:=I.ok.funs.mem hb
 exact absurd (Nat.lt_of_lt_of_le (Heap.lt_size ho) (Nat.le_trans I.sz h)) (Nat.lt_irrefl _)
theorem Inv.cne (I:Inv X pins σ H s):∀ x c,X.env.cells.lookup x=some c->c≠X.env.locals:=fun x c e z=>by
 obtain ⟨v,o,ho,hd⟩:=I.cell x c e
 obtain ⟨m,⟨o',es,ep,ho',hd',_⟩,_⟩:=I.loc
 rw[z,ho'] at ho;cases ho;rw[hd'] at hd;cases hd
theorem Inv.funs (I:Inv X pins σ H s):s.heap.FunFrames X.base X.outer:=by
 have all:∀ (l:List Env),(∀ b∈frs l,b∈X.fs)->X.s₀.heap.FunFrames X.base l->s.heap.FunFrames X.base l:=by
  intro l
  induction l with
  | nil=>intro _ _;trivial
  | cons env r ih=>
   intro hs hl
   obtain ⟨hk,⟨L,o,hf,hn,ho,hd⟩,hr⟩:=hl
   have hL:L∈X.fs:=hs L (by unfold frs;rw[List.filterMap_cons,hf];exact List.mem_cons_self)
   obtain ⟨sl,e⟩:=I.base.slot L o ho (I.ok.frf L hL) hL fun z=>I.ok.exfs L z hL
   exact ⟨hk,⟨L,_,hf,hn,e,hd⟩,ih (fun b hb=>hs b (by unfold frs;rw[List.filterMap_cons,hf];exact List.mem_cons_of_mem _ hb)) hr⟩
 exact all X.outer (fun _ hb=>hb) I.ok.funs
theorem Inv.stack (I:Inv X pins σ H s):s.heap.FunFrames X.base X.stack:=by
 rcases I.ok.stk with e | ⟨e,hf⟩
 ·rw[e];exact I.funs
 ·rw[e]
  obtain ⟨m,hn,_⟩:=I.loc
  refine .cons (by rw[I.ok.kind];decide) hf hn ?_ I.funs
  exact Heap.get?_none_of_le (Nat.le_trans I.ok.bsz I.ok.above)
theorem Inv.stkSub (I:Inv X pins σ H s):∀ b∈frs X.stack,b∈X.env.locals::X.fs:=fun b hb=>by
 rcases I.ok.stk with e | ⟨e,hf⟩
 ·rw[e] at hb;exact List.mem_cons_of_mem _ hb
 ·rw[e] at hb
  unfold frs at hb
  rw[List.filterMap_cons,hf] at hb
  exact hb
theorem Inv.stkFree (I:Inv X pins σ H s):∀ b∈frs X.stack,H b=none:=fun b hb=>by
 rcases List.mem_cons.mp (I.stkSub b hb) with e | hb
 ·rw[e];exact I.free
 ·obtain ⟨_,o,ho,_⟩:=I.ok.funs.mem hb
  exact I.base.free b o ho (I.ok.frf b hb) fun z=>I.ok.exfs b z hb
theorem Inv.step {g':Array GenState} {t':Nat} {d':Drawn} {ch:List Addr} (I:Inv X pins σ H s)
  (hch:∀ b∈ch,(b∈X.ex\/X.s₀.heap.objs.size<=b)/\b≠X.env.locals/\(∀ x c,X.env.cells.lookup x=some c->c≠b)/\∀ p∈X.pn++pins,p.1≠b)
  (keep:∀ b o,b≠X.env.locals->b∉X.fs->b∉ch->s.heap.get? b=some o->H b=none->h'.get? b=some o)
  (slot:∀ b o,b≠X.env.locals->b∈X.fs->b∉ch->s.heap.get? b=some o->H b=none->∃ sl,h'.get? b=some {o with slots:=sl}) (free:∀ b o,b∉ch->s.heap.get? b=some o->H b=none->H' b=none)
  (there:∀ b o,b∉ch->s.heap.get? b=some o->∃ o',h'.get? b=some o')
  (tups:∀ b xs,H b=some (.tup xs)->H' b=some (.tup xs)) (frzs:∀ b o u,H b=some (.frz o u)->H' b=some (.frz o u)) (tbls:∀ b ps,H b=some (.tbl ps)->∃ more,H' b=some (.tbl (ps++more)))
  (ns:∀ m,s.heap.Ns X.env.locals m->h'.Ns X.env.locals m) (hok:HOk X.prog X.w H' h') (hg:AllBare g') :
  Inv X pins σ H' {s with heap:=h',gens:=g',drawn:=d',toks:=t'}:=by
 have neL:∀ b o,X.s₀.heap.get? b=some o->b≠X.env.locals:=fun b o e=>Nat.ne_of_lt (Nat.lt_of_lt_of_le (Heap.lt_size e) I.ok.above)
 have neC:∀ b o,X.s₀.heap.get? b=some o->b∉X.ex->b∉ch:=fun b o e hx hb=>by
  rcases (hch b hb).1 with z | z
  ·exact hx z
  ·exact absurd (Nat.lt_of_lt_of_le (Heap.lt_size e) z) (Nat.lt_irrefl _)
 have cellK:∀ x c,X.env.cells.lookup x=some c->∀ v,s.heap.IsCell c v->h'.IsCell c v:=fun x c e v hh_=>by
  obtain ⟨o,ho,hd⟩:=hh_
  have nch:c∉ch:=fun z=>(hch c z).2.2.1 x c e rfl
  by_cases hc:c∈X.fs
  ·obtain ⟨sl,q⟩:=slot c o (I.cne x c e) hc nch ho (I.freeC x c e)
   exact ⟨_,q,hd⟩
  ·exact ⟨o,keep c o (I.cne x c e) hc nch ho (I.freeC x c e),hd⟩
 refine ⟨I.ok,I.os,hg,⟨fun b o e n hb hx=>?_,fun b o e n hb hx=>?_,fun b o e n hx=>?_,fun b o e hx=>?_,fun b xs e=>tups b xs (I.base.tups b xs e),fun b o xs e=>frzs b o xs (I.base.frzs b o xs e),fun b ps e=>?_⟩,?_,fun x c e=>?_,?_,fun x c e=>?_,fun p hp=>?_,hok,I.len⟩
 ·exact keep b o (neL b o e) hb (neC b o e hx) (I.base.keep b o e n hb hx) (I.base.free b o e n hx)
 ·obtain ⟨sl,e1⟩:=I.base.slot b o e n hb hx
  obtain ⟨sl',e2⟩:=slot b _ (neL b o e) hb (neC b o e hx) e1 (I.base.free b o e n hx)
  exact ⟨sl',e2⟩
 ·obtain ⟨o',e1⟩:=I.base.there b o e hx
  exact free b o' (neC b o e hx) e1 (I.base.free b o e n hx)
 ·obtain ⟨o',e1⟩:=I.base.there b o e hx
  exact there b o' (neC b o e hx) e1
 ·obtain ⟨m1,e1⟩:=I.base.tbls b ps e
  obtain ⟨m2,e2⟩:=tbls b _ e1
  exact ⟨m1++m2,by rw[e2,Array.append_assoc]⟩
 ·obtain ⟨m,hn,hl⟩:=I.loc
  refine ⟨m,ns m hn,fun i x v e1 e2 e3=>?_⟩
  obtain ⟨u,r,l⟩:=hl i x v e1 e2 e3
  refine ⟨u,r,?_⟩
  rcases l with l | ⟨k,c,e,z⟩
  ·exact .inl l
  ·exact .inr ⟨k,c,e,cellK x c e _ z⟩
 ·obtain ⟨v,z⟩:=I.cell x c e
  exact ⟨v,cellK x c e v z⟩
 ·obtain ⟨m,⟨o,_,_,ho,_⟩,_⟩:=I.loc
  exact free _ o (fun z=>(hch _ z).2.1 rfl) ho I.free
 ·obtain ⟨v,o,ho,hd⟩:=I.cell x c e
  exact free c o (fun z=>(hch c z).2.2.1 x c e rfl) ho (I.freeC x c e)
 ·obtain ⟨e,n,ne,nf,d⟩:=I.pin p hp
  have nch:p.1∉ch:=fun z=>(hch p.1 z).2.2.2 p hp rfl
  exact ⟨keep p.1 p.2 ne nf nch e n,free p.1 p.2 nch e n,ne,nf,d⟩
theorem Inv.un {t':Nat} (I:Inv X pins σ H s) (u:Un X.fs [] H H' s.heap h') (hok:HOk X.prog X.w H' h'):Inv X pins σ H' {s with heap:=h',toks:=t'}:=by
 obtain ⟨m,⟨o,es,ep,ho,r⟩,_⟩:=id I.loc
 obtain ⟨sl,hL⟩:=u.any ho I.free (by simp)
 exact I.step (g':=s.gens) (d':=s.drawn) (ch:=[]) (fun _ z=>nomatch z) (fun b o _ hb _ e n=>u.keep b o e n hb (by simp)) (fun b o _ hb _ e n=>u.slot b o e n hb (by simp)) (fun b o _ e n=>u.free b o e n (by simp)) (fun b o _ e=>u.there b o e (by simp)) u.tups u.frzs u.tbls (fun m' hm=>by
  obtain ⟨o',es',ep',ho',r'⟩:=hm
  rw[ho] at ho';cases ho'
  exact ⟨_,es',ep',hL,r'⟩) hok I.bare
theorem Inv.call {g':Array GenState} {t':Nat} {d':Drawn} {ch:List Addr} (I:Inv X pins σ H s) (u:Un (frs X.stack) ch H H' s.heap h') (hok:HOk X.prog X.w H' h') (hg:AllBare g')
  (hch:∀ b∈ch,(b∈X.ex\/X.s₀.heap.objs.size<=b)/\b≠X.env.locals/\(∀ x c,X.env.cells.lookup x=some c->c≠b)/\∀ p∈X.pn++pins,p.1≠b) :
  Inv X pins σ H' {s with heap:=h',gens:=g',drawn:=d',toks:=t'}:=by
 obtain ⟨m,⟨o,es,ep,ho,r⟩,_⟩:=id I.loc
 obtain ⟨sl,hL⟩:=u.any ho I.free fun z=>(hch _ z).2.1 rfl
 exact I.step (ch:=ch) hch (fun b o hL hb hc e n=>u.keep b o e n (fun z=>(List.mem_cons.mp (I.stkSub b z)).elim hL hb) hc) (fun b o _ _ hc e n=>u.any e n hc) (fun b o hc e n=>u.free b o e n hc) (fun b o hc e=>u.there b o e hc) u.tups u.frzs u.tbls (fun m' hm=>by
  obtain ⟨o',es',ep',ho',r'⟩:=hm
  rw[ho] at ho';cases ho'
  exact ⟨_,es',ep',hL,r'⟩) hok hg
theorem Inv.turned {t':Nat} {it:Addr} (I:Inv X pins σ H s) (k:∀ b o,b≠it->s.heap.get? b=some o->h'.get? b=some o) (hn:H it=none) (hL:it≠X.env.locals)
  (h1:it∈X.ex\/X.s₀.heap.objs.size<=it) (h2:∀ x c,X.env.cells.lookup x=some c->c≠it) (h3:∀ p∈X.pn++pins,p.1≠it):Inv X pins σ H {s with heap:=h',toks:=t'}:=by
 have nit:∀ b u,H b=some u->b≠it:=fun b u e z=>by rw[z,hn] at e;cases e
 refine I.step (g':=s.gens) (d':=s.drawn) (ch:=[it]) (fun b hb=>?_) (fun b o _ _ hc e _=>k b o (fun z=>hc (by simp[z])) e) (fun b o _ _ hc e _=>⟨o.slots,k b o (fun z=>hc (by simp[z])) e⟩) (fun _ _ _ _ n=>n)
  (fun b o hc e=>⟨o,k b o (fun z=>hc (by simp[z])) e⟩) (fun _ _ e=>e) (fun _ _ _ e=>e) (fun b ps e=>⟨#[],by rw[e];simp⟩) (fun m hm=>?_) (fun b u e=>?_) I.bare
 ·have e:b=it:=by simpa using hb
  subst e
  exact ⟨h1,hL,h2,h3⟩
 ·obtain ⟨o,es,ep,ho,r⟩:=hm
  exact ⟨o,es,ep,k _ o (Ne.symm hL) ho,r⟩
 ·refine (I.hok b u e).stay (fun c v hc q=>k c v ?_ q) (fun _ q=>q) fun _ _ q=>q
  rcases hc with z | z
  ·rw[z];exact nit b u e
  ·exact nit c _ z
theorem Inv.tok (I:Inv X pins σ H s) (t:Nat):Inv X pins σ H {s with toks:=t}:=I.un (h':=s.heap) (t':=t) Un.refl I.hok
theorem Inv.kept {t':Nat} (I:Inv X pins σ H s) (k:∀ b u,s.heap.get? b=some u->h'.get? b=some u):Inv X pins σ H {s with heap:=h',toks:=t'}:=I.un (Un.kept k) (I.hok.kept k)
theorem Inv.laid {a:Addr} {o:HO} {t':Nat} (I:Inv X pins σ H s) (k:∀ b u,s.heap.get? b=some u->h'.get? b=some u) (hp:s.heap.objs.size<=a) (new:ObjOk X.prog X.w (upd H a o) h' a o) :
  Inv X pins σ (upd H a o) {s with heap:=h',toks:=t'}:=I.un (Un.laid k hp (I.hok.fresh hp)) (I.hok.laid k hp new)
theorem Inv.write {x e:Addr} {o:HO} {t':Nat} (I:Inv X pins σ H s) (mu:Mut (H x)) (he:e=x\/H e=some (.own x)) (k:∀ b u,b≠e->s.heap.get? b=some u->h'.get? b=some u) (heo:∃ u,h'.get? e=some u)
  (new:ObjOk X.prog X.w (upd H x o) h' x o):Inv X pins σ (upd H x o) {s with heap:=h',toks:=t'}:=I.un (Un.write mu he k heo) (I.hok.write mu he k heo new)
theorem Inv.pins_of {pins':List (Addr×Obj)} (I:Inv X pins σ H s) (h:∀ p∈pins',s.heap.get? p.1=some p.2/\H p.1=none/\p.1≠X.env.locals/\p.1∉X.fs/\∀ v,p.2.data≠.cell v):Inv X pins' σ H s:=
 ⟨I.ok,I.os,I.bare,I.base,I.loc,I.cell,I.free,I.freeC,fun p hp=>(List.mem_append.mp hp).elim (fun z=>I.pin p (List.mem_append_left _ z)) (h p),I.hok,I.len⟩
theorem Jj {N:List Str} (hN:N.Nodup) {i j:Nat} {x:Str} (a:N[i]?=some x) (b:N[j]?=some x):i=j:=by
 obtain ⟨h1,e1⟩:=List.getElem?_eq_some_iff.mp a
 obtain ⟨h2,e2⟩:=List.getElem?_eq_some_iff.mp b
 exact (List.getElem_inj hN).mp (e1.trans e2.symm)
theorem LU {M:Model} {A:Around} {E:Value->Shared->Prop} {i:Nat} {x:Str} {v:V} {u:Value} {Q:Unit->Shared->Prop} (I:Inv X pins σ H s) (hN:X.N.Nodup) (hi:X.N[i]?=some x) (hx:Loc X.env.scope x) (r:RelV v u)
  (h:∀ s',Inv X pins (σ.set i (some v)) H s'->(∃ a,Heap.SameBut a s.heap s'.heap/\(a=X.env.locals\/X.env.cells.lookup x=some a))->Q () s') (hf:X.fn x=true\/X.env.scope.names.lookup x=some .local:=by first | exact .inl rfl | exact .inr rfl | assumption):wpAny M A (storeName X.env x u) Q E s:=by
 obtain ⟨m,hn,hl⟩:=id I.loc
 have hcls:(X.env.scope.kind == .class || (X.env.scope.kind == .module && X.env.locals != X.env.globals))=false:=by rw[I.ok.kind];rfl
 have hiσ:i<σ.length:=by rw[I.len];exact (List.getElem?_eq_some_iff.mp hi).1
 have cne:=I.cne
 have tracked:∀ {a:Addr} {h':Heap},(∃ o,s.heap.get? a=some o/\H a=none)->Heap.SameBut a s.heap h'->HOk X.prog X.w H h':=fun {a h'} ha hs b ob e=>by
  obtain ⟨_,_,hfree⟩:=ha
  refine (I.hok b ob e).stay (fun c w' hc q=>(hs.2 c ?_).trans q) (fun _ q=>q) fun _ _ q=>q
  rintro rfl
  rcases hc with rfl | hc
  ·rw[hfree] at e;cases e
  ·rw[hfree] at hc;cases hc
 rcases hx with hk | hk
 ·refine wpAny_storeName_local hk hn (fun h' hn' hs=>?_) hcls
  obtain ⟨oL,_,_,hoL,_⟩:=id hn
  refine h _ ⟨I.ok,I.os,I.bare,⟨fun b o e n hb hx=>?_,fun b o e n hb hx=>?_,I.base.free,fun b o e hx=>?_,I.base.tups,I.base.frzs,I.base.tbls⟩,⟨_,hn',fun j y v' e1 e2 e3=>?_⟩,fun y c e=>?_,I.free,I.freeC,fun p hp=>?_,tracked ⟨oL,hoL,I.free⟩ hs,by simpa using I.len⟩ ⟨_,hs,.inl rfl⟩
  ·exact (hs.2 b (Nat.ne_of_lt (Nat.lt_of_lt_of_le (Heap.lt_size e) I.ok.above))).trans (I.base.keep b o e n hb hx)
  ·obtain ⟨sl,e1⟩:=I.base.slot b o e n hb hx
   exact ⟨sl,(hs.2 b (Nat.ne_of_lt (Nat.lt_of_lt_of_le (Heap.lt_size e) I.ok.above))).trans e1⟩
  ·obtain ⟨o',e1⟩:=I.base.there b o e hx
   exact ⟨o',(hs.2 b (Nat.ne_of_lt (Nat.lt_of_lt_of_le (Heap.lt_size e) I.ok.above))).trans e1⟩
  ·by_cases hj:j=i
   ·subst hj
    rw[hi] at e1;cases e1
    rw[List.getElem?_set_self hiσ] at e2
    cases e2
    exact ⟨u,r,.inl ⟨hk,by simp⟩⟩
   ·rw[List.getElem?_set_ne (Ne.symm hj)] at e2
    obtain ⟨u',r',q⟩:=hl j y v' e1 e2 e3
    refine ⟨u',r',?_⟩
    rcases q with ⟨k,e⟩ | ⟨k,c,e,z⟩
    ·refine .inl ⟨k,?_⟩
     have:y≠x:=fun e=>hj (Jj hN e1 (e▸hi))
     simp[this,e]
    ·exact .inr ⟨k,c,e,z.sameBut hs (cne y c e)⟩
  ·obtain ⟨w',z⟩:=I.cell y c e
   exact ⟨w',z.sameBut hs (cne y c e)⟩
  ·obtain ⟨e,n,ne,nf,d⟩:=I.pin p hp
   exact ⟨(hs.2 p.1 ne).trans e,n,ne,nf,d⟩
 ·have hfn:X.fn x=true:=by
   rcases hf with z | z
   ·exact z
   ·rw[z] at hk;cases hk
  obtain ⟨c,hc⟩:=I.ok.has x (.inl hk)
  obtain ⟨w',z⟩:=I.cell x c hc
  refine wpAny_storeName_cell I.ok.kind hk hc z (fun h' hc' hs=>?_)
  obtain ⟨oc,hoc,hocd⟩:=id z
  refine h {s with heap:=h'} ⟨I.ok,I.os,I.bare,⟨fun b o e n hb hx=>?_,fun b o e n hb hx=>?_,I.base.free,fun b o e hx=>?_,I.base.tups,I.base.frzs,I.base.tbls⟩,⟨m,hn.sameBut hs (Ne.symm (cne x c hc)),fun j y v' e1 e2 e3=>?_⟩,fun y c' e=>?_,I.free,I.freeC,fun p hp=>?_,tracked ⟨oc,hoc,I.freeC x c hc⟩ hs,by simpa using I.len⟩ ⟨c,hs,.inr hc⟩
  ·exact (hs.2 b (Nat.ne_of_lt (Nat.lt_of_lt_of_le (Heap.lt_size e) (I.ok.cab x c hfn hc)))).trans (I.base.keep b o e n hb hx)
  ·obtain ⟨sl,e1⟩:=I.base.slot b o e n hb hx
   exact ⟨sl,(hs.2 b (Nat.ne_of_lt (Nat.lt_of_lt_of_le (Heap.lt_size e) (I.ok.cab x c hfn hc)))).trans e1⟩
  ·obtain ⟨o',e1⟩:=I.base.there b o e hx
   exact ⟨o',(hs.2 b (Nat.ne_of_lt (Nat.lt_of_lt_of_le (Heap.lt_size e) (I.ok.cab x c hfn hc)))).trans e1⟩
  ·by_cases hj:j=i
   ·subst hj
    rw[hi] at e1;cases e1
    rw[List.getElem?_set_self hiσ] at e2
    cases e2
    exact ⟨u,r,.inr ⟨.inl hk,c,hc,hc'⟩⟩
   ·rw[List.getElem?_set_ne (Ne.symm hj)] at e2
    obtain ⟨u',r',q⟩:=hl j y v' e1 e2 e3
    refine ⟨u',r',?_⟩
    rcases q with q | ⟨k,c',e,z'⟩
    ·exact .inl q
    ·refine .inr ⟨k,c',e,z'.sameBut hs ?_⟩
     rintro rfl
     exact hj (Jj hN e1 (I.ok.inj _ _ _ e hc▸hi))
  ·by_cases hcc:c'=c
   ·subst hcc;exact ⟨_,hc'⟩
   ·obtain ⟨w2,z2⟩:=I.cell y c' e
    exact ⟨w2,z2.sameBut hs hcc⟩
  ·obtain ⟨e,n,ne,nf,d⟩:=I.pin p hp
   refine ⟨(hs.2 p.1 ?_).trans e,n,ne,nf,d⟩
   intro q
   rw[q,hoc] at e
   have q':oc=p.2:=Option.some.inj e
   exact d w' (by rw[<-q'];exact hocd)
theorem E2 {M:Model} {A:Around} {E:Value->Shared->Prop} {i:Nat} {x:Str} {v:V} {u:Value} {Q:Unit->Shared->Prop} (I:Inv X pins σ H s) (hN:X.N.Nodup) (hi:X.N[i]?=some x) (hx:Loc X.env.scope x) (r:RelV v u)
  (h:∀ s',Inv X pins (σ.set i (some v)) H s'->Q () s') (hf:X.fn x=true\/X.env.scope.names.lookup x=some .local:=by first | exact .inl rfl | exact .inr rfl | assumption):wpAny M A (storeName X.env x u) Q E s:=
 LU I hN hi hx r (fun s' I' _=>h s' I') hf
theorem Inv.call' {s':Shared} {ch:List Addr} (I:Inv X pins σ H s) (ho:s'.os=s.os) (u:Un (frs X.stack) ch H H' s.heap s'.heap) (hok:HOk X.prog X.w H' s'.heap) (hg:AllBare s'.gens)
  (hch:∀ b∈ch,(b∈X.ex\/X.s₀.heap.objs.size<=b)/\b≠X.env.locals/\(∀ x c,X.env.cells.lookup x=some c->c≠b)/\∀ p∈X.pn++pins,p.1≠b):Inv X pins σ H' s':=by
 obtain ⟨h',g',d',t',o'⟩:=s'
 have e:o'=s.os:=ho
 subst e
 exact I.call (g':=g') (t':=t') (d':=d') u hok hg hch
end
abbrev XK:=Value->Option Addr->Hp->Prop
abbrev St:=List (Option V)
abbrev VK:=V->Hp->Prop
abbrev TE:=St->Hp->VK->Prop
abbrev TT:=St->Hp->(Bool->Hp->Prop)->Prop
abbrev TA:=St->Hp->(List V->Hp->Prop)->Prop
structure Ends where
 nx:St->Hp->Prop
 rt:VK
 bk:St->Hp->Prop:=fun _ _=>False
 ct:St->Hp->Prop:=fun _ _=>False
abbrev TS:=Ends->St->Hp->Prop
def EP (X:Cx) (pins:List (Addr×Obj)) (σ:St) (Q:VK) (u:Value) (s':Shared):Prop:=∃ v H',Inv X pins σ H' s'/\RelV v u/\Q v H'
def TP (X:Cx) (pins:List (Addr×Obj)) (σ:St) (Q:Bool->Hp->Prop) (b:Bool) (s':Shared):Prop:=∃ H',Inv X pins σ H' s'/\Q b H'
def AP (X:Cx) (pins:List (Addr×Obj)) (σ:St) (Q:List V->Hp->Prop) (us:List Value) (s':Shared):Prop:=∃ vs H',Inv X pins σ H' s'/\Vals vs us/\Q vs H'
def SP (X:Cx) (pins:List (Addr×Obj)) (D:Ends) (f:Flow) (s':Shared):Prop:=
 match f with
 | .next=>∃ σ' H',Inv X pins σ' H' s'/\D.nx σ' H'
 | .brk=>∃ σ' H',Inv X pins σ' H' s'/\D.bk σ' H'
 | .cont=>∃ σ' H',Inv X pins σ' H' s'/\D.ct σ' H'
 | .ret u=>∃ v σ' H',Inv X pins σ' H' s'/\RelV v u/\D.rt v H'
def PE (X:Cx) (e:Expr) (t:TE):Prop:=
 ∀ (pins:List (Addr×Obj)) (s:Shared) (σ:St) (H:Hp) (Q:VK),Inv X pins σ H s->t σ H Q->wpAny (model X.prog X.w) X.A (eval e X.env) (EP X pins σ Q) X.xe s
def PT (X:Cx) (e:Expr) (t:TT):Prop:=
 ∀ (pins:List (Addr×Obj)) (s:Shared) (σ:St) (H:Hp) (Q:Bool->Hp->Prop),Inv X pins σ H s->t σ H Q->wpAny (model X.prog X.w) X.A (isTrue e X.env (eval e X.env)) (TP X pins σ Q) X.xe s
def PW (X:Cx) (e:Expr) (t:TT):Prop:=
 ∀ (whole:Sem Value) (pins:List (Addr×Obj)) (s:Shared) (σ:St) (H:Hp) (Q:Bool->Hp->Prop),Inv X pins σ H s->t σ H Q->wpAny (model X.prog X.w) X.A (isTrue e X.env whole) (TP X pins σ Q) X.xe s
theorem PW.pt {X:Cx} {e:Expr} {t:TT} (h:PW X e t):PT X e t:=h _
def PA (X:Cx) (es:List Expr) (t:TA):Prop:=
 ∀ (pos:Pos) (pins:List (Addr×Obj)) (s:Shared) (σ:St) (H:Hp) (Q:List V->Hp->Prop),Inv X pins σ H s->t σ H Q->wpAny (model X.prog X.w) X.A (spliced (backTo pos (starEach es X.env))) (AP X pins σ Q) X.xe s
def PS (X:Cx) (st:Stmt) (t:TS):Prop:=
 ∀ (pins:List (Addr×Obj)) (s:Shared) (σ:St) (H:Hp) (D:Ends),Inv X pins σ H s->t D σ H->wpAny (model X.prog X.w) X.A (exec st X.env) (SP X pins D) X.xe s
def PSs (X:Cx) (st:List Stmt) (t:TS):Prop:=
 ∀ (pins:List (Addr×Obj)) (s:Shared) (σ:St) (H:Hp) (D:Ends),Inv X pins σ H s->t D σ H->wpAny (model X.prog X.w) X.A (execs st X.env) (SP X pins D) X.xe s
theorem thn {α:Type} {t:Sem α} {Q Q':α->Shared->Prop} {M:Model} {A:Around} {E:Value->Shared->Prop} {s:Shared} (h:wpAny M A t Q E s) (hQ:∀ a s,Q a s->Q' a s):wpAny M A t Q' E s:=wpAny_mono h hQ fun _ _ x=>x
section
variable {X:Cx}
def FZ (i:Nat):TE:=fun σ H Q=>∃ v,σ[i]?=some (some v)/\Q v H
def tC (v:V):TE:=fun _ H Q=>Q v H
theorem UE {i:Nat} {x:Str} {pos:Pos} (hN:X.N[i]?=some x) (hv:Vis X.env.scope x) (hd:(x == ("__debug__":Str))=false:=by decide) (hcd:(x == ("__classdict__":Str))=false:=by decide):PE X (.Name x pos) (FZ i):=by
 intro pins s σ H Q I h
 obtain ⟨v,e,h⟩:=h
 obtain ⟨m,hn,hl⟩:=I.loc
 obtain ⟨u,r,l⟩:=hl i x v hN e hv
 have fin:EP X pins σ Q u s:=⟨v,H,I,r,h⟩
 rcases l with ⟨hk,hm⟩ | ⟨hk,c,hc,hcell⟩
 ·exact wpAny_Name (wpAny_loadName_local I.ok.kind hk hn hm fin) hd
 ·rcases hk with hk | hk
  ·exact wpAny_Name (wpAny_loadName_cell I.ok.kind hk hc hcell fin) hd
  ·exact wpAny_Name (wpAny_loadName_free I.ok.kind hk hc hcell fin hcd) hd
theorem Hk {i j pos}:PE X (.Constant (.int i) j pos) (tC (.int i)):=fun _ _ _ H _ I h=>wpAny_Constant_int ⟨.int i,H,I.tok _,⟨_,rfl⟩,h⟩
theorem SU {b j pos}:PE X (.Constant (.bool b) j pos) (tC (.bl b)):=fun _ _ _ H _ I h=>Constant_bool ⟨.bl b,H,I,rfl,h⟩
theorem PQ {x j pos}:PE X (.Constant (.str x) j pos) (tC (.str x)):=fun _ _ _ H _ I h=>Calls.Constant_str ⟨.str x,H,I.tok _,⟨_,rfl⟩,h⟩
def Gl (X:Cx) (x:Str):Prop:=X.env.kindOf x=some .globalImplicit
theorem LM {E:Value->Shared->Prop} {pins:List (Addr×Obj)} {s:Shared} {σ:St} {H:Hp} {x:Str} {u:Value} {pos:Pos} {Q:Value->Shared->Prop} (I:Inv X pins σ H s) (hg:Gl X x) (hm:X.mg x=some u) (h:Q u s)
  (hd:(x == ("__debug__":Str))=false:=by decide):wpAny (model X.prog X.w) X.A (eval (.Name x pos) X.env) Q E s:=
 Calls.Name_function_global I.ok.kind hg (Calls.loadGlobal_global (by rw[I.ok.glob];exact I.mod.glob.keeps I.bk) hm h) hd
theorem D0 {E:Value->Shared->Prop} {pins:List (Addr×Obj)} {s:Shared} {σ:St} {H:Hp} {x:Str} {u:Value} {pos:Pos} {Q:Value->Shared->Prop} (I:Inv X pins σ H s) (hg:Gl X x) (hm:X.mg x=none) (hv:bootBuiltins x=some u) (h:Q u s)
  (hn:x≠"__name__":=by decide) (hd:(x == ("__debug__":Str))=false:=by decide):wpAny (model X.prog X.w) X.A (eval (.Name x pos) X.env) Q E s:=by
 obtain ⟨mb,h1,h2⟩:=I.mod.blt
 exact Calls.Name_function_global I.ok.kind hg (Calls.loadGlobal_builtin (by rw[I.ok.glob];exact I.mod.glob.keeps I.bk) hm (by rw[I.ok.blt];exact h1.keeps I.bk) ((h2 x hn).trans hv) h) hd
theorem Ld {x:Str} {v:V} {u:Value} {pos:Pos} (hg:Gl X x) (hm:X.mg x=some u) (r:RelV v u) (hd:(x == ("__debug__":Str))=false:=by decide):PE X (.Name x pos) (tC v):=
 fun _ _ _ H _ I h=>LM I hg hm ⟨v,H,I,r,h⟩ hd
theorem Tr {x:Str} {v:V} {u:Value} {pos:Pos} (hg:Gl X x) (hm:X.mg x=none) (hv:bootBuiltins x=some u) (r:RelV v u) (hn:x≠"__name__":=by decide) (hd:(x == ("__debug__":Str))=false:=by decide):PE X (.Name x pos) (tC v):=
 fun _ _ _ H _ I h=>D0 I hg hm hv ⟨v,H,I,r,h⟩ hn hd
variable {a b:Expr} {ta tb:TE} {pos:Pos}
variable {tA tB':TT} {rest:List Expr}
def V3 (t u:TT):TT:=fun σ H Q=>t σ H fun c H1=>if c=true then u σ H1 Q else Q false H1
def tOr (t u:TT):TT:=fun σ H Q=>t σ H fun c H1=>if c=true then Q true H1 else u σ H1 Q
def V2 (t:TT):TT:=fun σ H Q=>t σ H fun c H1=>Q (!c) H1
theorem U2 (ha:PT X a tA):PW X (.BoolOp .And [a] pos) tA:=by
 intro wh pins s σ H Q I h
 refine isTrue_and (thn (ha pins s σ H Q I h) fun c s1 e=>?_)
 cases c with
 | true=>exact isTrue_and_nil e
 | false=>exact e
theorem SN (ha:PT X a tA):PW X (.BoolOp .Or [a] pos) tA:=by
 intro wh pins s σ H Q I h
 refine isTrue_or (thn (ha pins s σ H Q I h) fun c s1 e=>?_)
 cases c with
 | false=>exact isTrue_or_nil e
 | true=>exact e
theorem OR (ha:PT X a tA) (hb:PW X (.BoolOp .And (b::rest) pos) tB'):PW X (.BoolOp .And (a::b::rest) pos) (V3 tA tB'):=by
 intro wh pins s σ H Q I h
 refine isTrue_and (thn (ha pins s σ H _ I h) fun c s1 hh_=>?_)
 obtain ⟨H1,I1,q1⟩:=hh_
 cases c with
 | true=>exact hb wh pins s1 σ H1 Q I1 q1
 | false=>exact ⟨H1,I1,q1⟩
theorem UM (ha:PT X a tA) (hb:PW X (.BoolOp .Or (b::rest) pos) tB'):PW X (.BoolOp .Or (a::b::rest) pos) (tOr tA tB'):=by
 intro wh pins s σ H Q I h
 refine isTrue_or (thn (ha pins s σ H _ I h) fun c s1 hh_=>?_)
 obtain ⟨H1,I1,q1⟩:=hh_
 cases c with
 | true=>exact ⟨H1,I1,q1⟩
 | false=>exact hb wh pins s1 σ H1 Q I1 q1
theorem QT (ha:PT X a tA):PT X (.UnaryOp .Not a pos) (V2 tA):=by
 intro pins s σ H Q I h
 exact isTrue_not (ha pins s σ H (fun c H1=>Q (!c) H1) I h)
def Qs (ta tb:TE):TE:=fun σ H Q=>ta σ H fun x H1=>∃ c,x=.bl c/\if c=true then tb σ H1 Q else Q (.bl false) H1
def UN (ta tb:TE):TE:=fun σ H Q=>ta σ H fun x H1=>∃ c,x=.bl c/\if c=true then Q (.bl true) H1 else tb σ H1 Q
theorem Rb {op} {t:TE} (h:PE X a t):PE X (.BoolOp op [a] pos) t:=fun pins s σ H Q I hw=>BoolOp_one (h pins s σ H Q I hw)
theorem Sd (ha:PE X a ta) (hb:PE X (.BoolOp .And (b::rest) pos) tb):PE X (.BoolOp .And (a::b::rest) pos) (Qs ta tb):=by
 intro pins s σ H Q I h
 refine BoolOp_and (thn (ha pins s σ H _ I h) fun v s1 hh_=>?_)
 obtain ⟨x,H1,I1,r1,q1⟩:=hh_
 obtain ⟨c,rfl,q1⟩:=q1
 cases r1
 refine wpAny_truthy_bool ?_
 cases c with
 | true=>exact hb pins s1 σ H1 Q I1 q1
 | false=>exact ⟨.bl false,H1,I1,rfl,q1⟩
theorem Qm (ha:PE X a ta) (hb:PE X (.BoolOp .Or (b::rest) pos) tb):PE X (.BoolOp .Or (a::b::rest) pos) (UN ta tb):=by
 intro pins s σ H Q I h
 refine BoolOp_or (thn (ha pins s σ H _ I h) fun v s1 hh_=>?_)
 obtain ⟨x,H1,I1,r1,q1⟩:=hh_
 obtain ⟨c,rfl,q1⟩:=q1
 cases r1
 refine wpAny_truthy_bool ?_
 cases c with
 | false=>exact hb pins s1 σ H1 Q I1 q1
 | true=>exact ⟨.bl true,H1,I1,rfl,q1⟩
end
def SqL (K:PySem.W.Frag) (H:Hp) (a:Addr) (xs:List V):Prop:=
 Rd H a (.lst xs) \/
  ∃ (o:Obj) (its:Array Value) (n:Nat),K.lookup a=some o/\o.cls=.type "list"/\o.dict=none/\o.data=.seq its n/\its.size<=sizeLine/\Vals xs its.toList
def SqT (K:PySem.W.Frag) (H:Hp) (a:Addr) (xs:List V):Prop:=
 Rd H a (.tup xs) \/
  ∃ (o:Obj) (its:Array Value) (n:Nat),K.lookup a=some o/\o.cls=.type "tuple"/\o.data=.seq its n/\its.size<=sizeLine/\Vals xs its.toList
def QZ:Value->Option V
 | .none=>some .non
 | .bool b=>some (.bl b)
 | .int i _=>some (.int i)
 | .str x _=>some (.str x)
 | .bytes b _=>some (.byt b)
 | .float b _=>some (.flt b)
 | .ref a=>some (.ref a)
 | .type n=>some (.ty n)
 | _=>none
theorem RelV.abs {x:V} {u:Value} (r:RelV x u):QZ u=some x:=by
 cases x with
 | non=>cases r;rfl
 | bl _=>cases r;rfl
 | int _=>obtain ⟨t,rfl⟩:=r;rfl
 | str _=>obtain ⟨t,rfl⟩:=r;rfl
 | byt _=>obtain ⟨t,rfl⟩:=r;rfl
 | flt _=>obtain ⟨t,rfl⟩:=r;rfl
 | ref _=>cases r;rfl
 | ty _=>cases r;rfl
theorem RelV.inj {x y:V} {u:Value} (r:RelV x u) (q:RelV y u):x=y:=Option.some.inj (r.abs.symm.trans q.abs)
theorem Vals.inj:∀ {xs ys:List V} {us:List Value},Vals xs us->Vals ys us->xs=ys
 | _,_,_,.nil,.nil=>rfl
 | _,_,_,.cons r t,.cons r' t'=>by rw[r.inj r',Vals.inj t t']
section
variable {X:Cx} {pins:List (Addr×Obj)} {σ:St} {H:Hp} {s:Shared} {a:Addr} {xs ys:List V}
theorem SqL.of {K:PySem.W.Frag} (h:H a=some (.lst xs)):SqL K H a xs:=.inl (.inl h)
theorem SqT.of {K:PySem.W.Frag} (h:H a=some (.tup xs)):SqT K H a xs:=.inl (.inl h)
theorem Inv.list (I:Inv X pins σ H s) (h:SqL X.K H a xs):∃ its:List Value,Vals xs its/\PlainL s.heap a its.toArray/\xs.length<=sizeLine:=by
 rcases h with h | ⟨o,its,n,hk,hc,hd,hs,hz,r⟩
 ·obtain ⟨z,its,n,r,e⟩:=h.ok I.hok
  exact ⟨its,r,⟨_,n,e,rfl,rfl,rfl⟩,z⟩
 ·refine ⟨its.toList,r,⟨o,n,I.kIn a o hk,hc,hd,by simpa using hs⟩,?_⟩
  have e:=r.length
  simp only[Array.length_toList] at e
  lia
theorem Inv.tuple (I:Inv X pins σ H s) (h:SqT X.K H a xs):∃ its:List Value,Vals xs its/\IsTup s.heap a its.toArray/\xs.length<=sizeLine:=by
 rcases h with h | ⟨o,its,n,hk,hc,hs,hz,r⟩
 ·obtain ⟨z,its,r,p⟩:=h.ok I.hok
  exact ⟨its,r,p,z⟩
 ·refine ⟨its.toList,r,⟨o,I.kIn a o hk,hc,n,by simpa using hs⟩,?_⟩
  have e:=r.length
  simp only[Array.length_toList] at e
  lia
theorem Inv.list_inj (I:Inv X pins σ H s) (h:SqL X.K H a xs) (h':SqL X.K H a ys):xs=ys:=by
 obtain ⟨its,r,⟨o,n,e,_,_,d⟩,_⟩:=I.list h
 obtain ⟨its',r',⟨o',n',e',_,_,d'⟩,_⟩:=I.list h'
 rw[e] at e';cases e'
 rw[d] at d'
 injection d' with d1 _
 have:its=its':=by simpa using congrArg Array.toList d1
 subst this
 exact r.inj r'
theorem Inv.tuple_inj (I:Inv X pins σ H s) (h:SqT X.K H a xs) (h':SqT X.K H a ys):xs=ys:=by
 obtain ⟨its,r,⟨o,e,_,n,d⟩,_⟩:=I.tuple h
 obtain ⟨its',r',⟨o',e',_,n',d'⟩,_⟩:=I.tuple h'
 rw[e] at e';cases e'
 rw[d] at d'
 injection d' with d1 _
 have:its=its':=by simpa using congrArg Array.toList d1
 subst this
 exact r.inj r'
end
abbrev Cx.wish (X:Cx) (E:Value->Shared->Prop):Cx:={X with xe:=E}
abbrev Cx.nox (X:Cx):Cx:=X.wish fun _ _=>False
theorem Cx.Ok.wish {X:Cx} (ok:X.Ok) (E:Value->Shared->Prop):(X.wish E).Ok:=
 ⟨ok.mod,ok.kind,ok.glob,ok.blt,ok.above,ok.inj,ok.has,ok.cab,ok.hd,ok.frames,ok.stk,ok.exf,ok.bs,ok.bsz,ok.noex,ok.exfs,ok.funs,ok.frf⟩
theorem Cx.Ok.unwish {X:Cx} {E:Value->Shared->Prop} (ok:(X.wish E).Ok):X.Ok:=
 ⟨ok.mod,ok.kind,ok.glob,ok.blt,ok.above,ok.inj,ok.has,ok.cab,ok.hd,ok.frames,ok.stk,ok.exf,ok.bs,ok.bsz,ok.noex,ok.exfs,ok.funs,ok.frf⟩
section
variable {X:Cx} {pins:List (Addr×Obj)} {σ:St} {H:Hp} {s:Shared} {E:Value->Shared->Prop}
theorem Inv.wish (I:Inv X pins σ H s) (E:Value->Shared->Prop):Inv (X.wish E) pins σ H s:=⟨I.ok.wish E,I.os,I.bare,I.base,I.loc,I.cell,I.free,I.freeC,I.pin,I.hok,I.len⟩
theorem Inv.unwish (I:Inv (X.wish E) pins σ H s):Inv X pins σ H s:=⟨I.ok.unwish,I.os,I.bare,I.base,I.loc,I.cell,I.free,I.freeC,I.pin,I.hok,I.len⟩
theorem SP.unwish {D:Ends} {f:Flow} {s':Shared} (h:SP (X.wish E) pins D f s'):SP X pins D f s':=by
 cases f with
 | next=>obtain ⟨σ',H',I,q⟩:=h;exact ⟨σ',H',I.unwish,q⟩
 | brk=>obtain ⟨σ',H',I,q⟩:=h;exact ⟨σ',H',I.unwish,q⟩
 | cont=>obtain ⟨σ',H',I,q⟩:=h;exact ⟨σ',H',I.unwish,q⟩
 | ret u=>obtain ⟨v,σ',H',I,r,q⟩:=h;exact ⟨v,σ',H',I.unwish,r,q⟩
theorem PSs.nox {st:List Stmt} {t:TS} (h:PSs X.nox st t):PSs X st t:=fun pins s σ H D I hw=>
 wpAny_mono (h pins s σ H D (I.wish _) hw) (fun _ _ q=>q.unwish) fun _ _ z=>False.elim z
end
section
variable {X:Cx} {st:Stmt} {rest:List Stmt} {t u:TS} {e:Expr} {te:TE} {pos:Pos}
def RD:TS:=fun D σ H=>D.nx σ H
def Tb (t u:TS):TS:=fun D σ H=>t {D with nx:=u D} σ H
theorem C2:PSs X [] RD:=fun _ _ σ H _ I h=>wpAny_execs_nil ⟨σ,H,I,h⟩
theorem Bp (h1:PS X st t) (h2:PSs X rest u):PSs X (st::rest) (Tb t u):=by
 intro pins s σ H D I h
 refine wpAny_execs_cons (thn (h1 pins s σ H {D with nx:=u D} I h) fun f s1 q=>?_)
 cases f with
 | next=>
  obtain ⟨σ',H',I',q⟩:=q
  exact h2 pins s1 σ' H' D I' q
 | ret v=>exact q
 | brk=>exact q
 | cont=>exact q
theorem Cj (h1:PS X st t):PSs X [st] t:=by
 intro pins s σ H D I h
 refine wpAny_execs_cons (thn (h1 pins s σ H D I h) fun f s1 q=>?_)
 cases f with
 | next=>exact wpAny_execs_nil q
 | ret v=>exact q
 | brk=>exact q
 | cont=>exact q
theorem Inv.quiet {pins:List (Addr×Obj)} {σ:St} {H:Hp} {s:Shared} (I:Inv X pins σ H s):interactive X.env=false:=by simp[interactive,I.ok.kind]
def Sy (te:TE):TS:=fun D σ H=>te σ H fun _ H1=>D.nx σ H1
theorem Fy (he:PE X e te) (hs:swapsWith e none pos.line X.env=pure false:=by rfl):PS X (.Expr e pos) (Sy te):=by
 intro pins s σ H D I h
 exact wpAny_Expr_any (thn (he pins s σ H _ I h) fun v s1 ⟨x,H1,I1,r1,q1⟩=>⟨σ,H1,I1,q1⟩) I.quiet hs
def OS (te:TE):TS:=fun D σ H=>te σ H D.rt
theorem Ic (he:PE X e te):PS X (.Return (some e) pos) (OS te):=by
 intro pins s σ H D I h
 exact wpAny_Return_some (thn (he pins s σ H _ I h) fun v s1 ⟨x,H1,I1,r1,q1⟩=>⟨x,σ,H1,I1,r1,q1⟩)
def OB (c:TT) (t u:TS):TS:=fun D σ H=>c σ H fun b H1=>if b=true then t D σ H1 else u D σ H1
theorem C6 {c:Expr} {a b:List Stmt} {tc:TT} (hc:PT X c tc) (ha:PSs X a t) (hb:PSs X b u):PS X (.If c a b pos) (OB tc t u):=by
 intro pins s σ H D I h
 refine wpAny_If (thn (hc pins s σ H _ I h) fun d s1 hh_=>?_)
 obtain ⟨H1,I1,q1⟩:=hh_
 cases d with
 | true=>exact ha pins s1 σ H1 D I1 q1
 | false=>exact hb pins s1 σ H1 D I1 q1
def TY:TS:=fun _ _ _=>False
theorem Oj:PS X st TY:=fun _ _ _ _ _ _ h=>h.elim
end
abbrev TG:=V->St->Hp->(St->Hp->Prop)->Prop
abbrev TGs:=List V->St->Hp->(St->Hp->Prop)->Prop
def PG (X:Cx) (target:Expr) (t:TG):Prop:=
 ∀ (pins:List (Addr×Obj)) (s:Shared) (σ:St) (H:Hp) (v:V) (u:Value) (Q:St->Hp->Prop),Inv X pins σ H s->RelV v u->t v σ H Q ->
  wpAny (model X.prog X.w) X.A (assign target X.env u) (fun _ s'=>∃ σ' H',Inv X pins σ' H' s'/\Q σ' H') X.xe s
def PGs (X:Cx) (ts:List Expr) (t:TGs):Prop:=
 ∀ (pins:List (Addr×Obj)) (s:Shared) (σ:St) (H:Hp) (vs:List V) (us:List Value) (Q:St->Hp->Prop),Inv X pins σ H s->Vals vs us->t vs σ H Q ->
  wpAny (model X.prog X.w) X.A (assignInOrder ((assignEach ts X.env).map (·.2)) us) (fun _ s'=>∃ σ' H',Inv X pins σ' H' s'/\Q σ' H') X.xe s
abbrev Ip:=V->V->V->Hp->(Hp->Prop)->Prop
def Jn (X:Cx) (t:Ip):Prop:=
 ∀ (pins:List (Addr×Obj)) (s:Shared) (σ:St) (H:Hp) (o i v:V) (ov iv u:Value) (Q:Hp->Prop),Inv X pins σ H s->RelV o ov->RelV i iv->RelV v u->t o i v H Q ->
  wpAny (model X.prog X.w) X.A (setItem ov iv u) (fun _ s'=>∃ H',Inv X pins σ H' s'/\Q H') X.xe s
section
variable {X:Cx} {pos:Pos}
def Dh (i:Nat):TG:=fun v σ H Q=>Q (σ.set i (some v)) H
theorem Ay {i:Nat} {x:Str} (hN:X.N.Nodup) (hi:X.N[i]?=some x) (hx:Loc X.env.scope x) (hf:X.fn x=true\/X.env.scope.names.lookup x=some .local:=by first | exact .inl rfl | exact .inr rfl | assumption):PG X (.Name x pos) (Dh i):=by
 intro pins s σ H v u Q I r h
 exact wpAny_assign_Name (E2 I hN hi hx r (fun s' I'=>⟨_,H,I',h⟩) hf)
def Ko:TGs:=fun vs σ H Q=>vs=[]/\Q σ H
def L4 (t:TG) (u:TGs):TGs:=fun vs σ H Q=>∃ v r,vs=v::r/\t v σ H fun σ' H'=>u r σ' H' Q
theorem Ez:PGs X [] Ko:=by
 intro pins s σ H vs us Q I r h
 obtain ⟨e,h⟩:=h
 subst e
 cases r
 exact assignInOrder_nil ⟨σ,H,I,h⟩
theorem B8 {e:Expr} {es:List Expr} {t:TG} {u:TGs} (h1:PG X e t) (h2:PGs X es u)
  (hs:(assignEach (e::es) X.env).map (·.2)=assign e X.env::(assignEach es X.env).map (·.2):=by rfl):PGs X (e::es) (L4 t u):=by
 intro pins s σ H vs us Q I r h
 obtain ⟨v,vr,e1,h⟩:=h
 subst e1
 cases r with
 | cons r rr=>
  rw[hs]
  refine assignInOrder_cons (thn (h1 pins s σ H _ _ _ I r h) fun _ s1 hh_=>?_)
  obtain ⟨σ1,H1,I1,q1⟩:=hh_
  exact h2 pins s1 σ1 H1 _ _ Q I1 rr q1
def CA (K:PySem.W.Frag) (n:Nat) (t:TGs):TG:=fun v σ H Q=>∃ a xs,v=.ref a/\SqT K H a xs/\xs.length=n/\t xs σ H Q
theorem Pq {es:List Expr} {k:Nat} {t:TGs} {n:Nat} (hc:X.calm=true) (h:PGs X es t)
  (hn:(assignEach es X.env).length=n:=by rfl) (hst:(assignEach es X.env).findIdx? (·.1)=none:=by rfl):PG X (.Tuple es k pos) (CA X.K n t):=by
 intro pins s σ H v u Q I r hw
 obtain ⟨a,xs,e1,hq,hl,hw⟩:=hw
 subst e1
 cases r
 obtain ⟨its,rv,ht,hz⟩:=I.tuple hq
 refine assign_Tuple_tuple (I.ok.hd hc) ht (by simp[hn,<-hl,rv.length]) hst fun h' hx=>?_
 have I1:Inv X pins σ H {s with heap:=h'}:=I.kept (t':=s.toks) fun b o e=>hx b o (Nat.ne_of_lt (Heap.lt_size e)) e
 exact h pins _ σ H xs _ Q I1 (by simpa using rv) hw
def P5 (to ti:TE) (t:Ip):TG:=fun v σ H Q=>to σ H fun o H1=>ti σ H1 fun i H2=>t o i v H2 fun H3=>Q σ H3
theorem Fq {o i:Expr} {to ti:TE} {t:Ip} (ho:PE X o to) (hi:PE X i ti) (hs:Jn X t)
  (ha:∀ v,assign (.Subscript o i pos) X.env v=(do
   let ov <-holding [v] (eval o X.env)
   let iv <-holding [v,ov] (eval i X.env)
   standAt pos
   holding [v,ov,iv] (setItem ov iv v)
   release [v,ov,iv] []):=by intro _;rfl):PG X (.Subscript o i pos) (P5 to ti t):=by
 intro pins s σ H v u Q I r h
 rw[ha]
 refine wpAny_bind (wpAny_holding (thn (ho pins s σ H _ I h) fun ov s1 hh_=>?_))
 obtain ⟨x,H1,I1,r1,q1⟩:=hh_
 refine wpAny_bind (wpAny_holding (thn (hi pins s1 σ H1 _ I1 q1) fun iv s2 hh_=>?_))
 obtain ⟨y,H2,I2,r2,q2⟩:=hh_
 refine wpAny_bind (wpAny_standAt (wpAny_bind (wpAny_holding (thn (hs pins s2 σ H2 x y v ov iv u _ I2 r1 r2 r q2) fun _ s3 hh_=>?_))))
 obtain ⟨H3,I3,q3⟩:=hh_
 exact wpAny_release ⟨σ,H3,I3,q3⟩
def Fg (te:TE) (g:TG):TS:=fun D σ H=>te σ H fun x H1=>g x σ H1 D.nx
theorem Er {tg e:Expr} {te:TE} {g:TG} (he:PE X e te) (hg:PG X tg g) (hs:swapsWithSole [tg] e pos.line X.env=pure false:=by rfl) (hw:swappedStores [tg] e X.env=pure none:=by rfl)
  (h1:(assignEach [tg] X.env).map (·.2)=[assign tg X.env]:=by rfl):PS X (.Assign [tg] e pos) (Fg te g):=by
 intro pins s σ H D I h
 refine wpAny_Assign_stores (thn (he pins s σ H _ I h) fun v s1 hh_=>?_) hs hw
 obtain ⟨x,H1,I1,r1,q1⟩:=hh_
 rw[h1]
 exact thn (hg pins s1 σ H1 x v _ I1 r1 q1) fun _ s2 q=>q
theorem Aw {i:Nat} {x:Str} {e:Expr} {te:TE} {pos':Pos} (hN:X.N.Nodup) (hi:X.N[i]?=some x) (hx:Loc X.env.scope x) (he:PE X e te) (hs:swapsWith e (some (.Name x pos')) pos.line X.env=pure false:=by rfl) (hf:X.fn x=true\/X.env.scope.names.lookup x=some .local:=by first | exact .inl rfl | exact .inr rfl | assumption) :
  PS X (.Assign [.Name x pos'] e pos) (Fg te (Dh i)):=by
 intro pins s σ H D I h
 refine wpAny_Assign_Name (thn (he pins s σ H _ I h) fun v s1 hh_=>?_) hs
 obtain ⟨y,H1,I1,r1,q1⟩:=hh_
 exact E2 I1 hN hi hx r1 (fun s2 I2=>⟨_,H1,I2,q1⟩) hf
end
section
variable {X:Cx} {pos:Pos}
end
structure It where
 go:Nat->Hp->Prop
 yld:Nat->Hp->V->Hp->Prop
 stop:Nat->Hp->Prop
def Bu (X:Cx) (pins:List (Addr×Obj)) (H:Hp) (b:Addr):Prop:=
 H b=none/\b≠X.env.locals/\b∉X.fs/\(b∈X.ex\/X.s₀.heap.objs.size<=b)/\(∀ x c,X.env.cells.lookup x=some c->c≠b)/\∀ p∈X.pn++pins,p.1≠b
theorem Inv.fpOk {X:Cx} {pins:List (Addr×Obj)} {σ:St} {H H':Hp} {s:Shared} {b:Addr} (I:Inv X pins σ H s) (hb:s.heap.objs.size<=b) (hn:H' b=none):Bu X pins H' b:=by
 refine ⟨hn,Nat.ne_of_gt (Nat.lt_of_lt_of_le I.lt hb),I.nofs hb,.inr (Nat.le_trans I.sz hb),fun x c e z=>?_,fun p hp z=>?_⟩
 ·obtain ⟨v,q⟩:=I.cell x c e
  exact absurd (Nat.lt_of_lt_of_le q.lt (by rw[z];exact hb)) (Nat.lt_irrefl _)
 ·exact absurd (Nat.lt_of_lt_of_le (Heap.lt_size (I.pin p hp).1) (by rw[z];exact hb)) (Nat.lt_irrefl _)
structure Turn (P:Program) (w:World) (K:PySem.W.Frag) (tg:Expr) (J:It) (fp:List Addr) (it:Addr) (tn:Nat->Heap->Prop):Prop where
 mem:it∈fp
 obj:∀ i h,tn i h->∀ b∈fp,∃ o,h.get? b=some o/\∀ v,o.data≠.cell v
 keep:∀ i h h',tn i h->(∀ b∈fp,∀ o,h.get? b=some o->h'.get? b=some o)->tn i h'
 item:∀ (X:Cx),X.prog=P->X.w=w->X.K=K->X.calm=true->∀ (i:Nat) (pins:List (Addr×Obj)) (s:Shared) (σ:St) (H:Hp) (E:Value->Shared->Prop),Inv X pins σ H s->(∀ b∈fp,Bu X pins H b)->tn i s.heap->J.go i H ->
  wpAny (model P w) X.A (pyNext (.ref it)) (fun r s1=>∃ u,r=some u /\
   wpAny (model P w) X.A (letOwnedTupleGo tg (.ref it) u) (fun _ s2=>∃ x H',Inv X pins σ H' s2/\RelV x u/\J.yld i H x H'/\tn (i+1) s2.heap/\∀ b∈fp,H' b=none) E s1) E s
 done:∀ (X:Cx),X.prog=P->X.w=w->X.K=K->X.calm=true->∀ (i:Nat) (pins:List (Addr×Obj)) (s:Shared) (σ:St) (H:Hp) (E:Value->Shared->Prop),Inv X pins σ H s->(∀ b∈fp,Bu X pins H b)->tn i s.heap->J.stop i H ->
  wpAny (model P w) X.A (pyNext (.ref it)) (fun r s1=>r=none/\Inv X pins σ H s1) E s
 self:∀ (A:Around) (i:Nat) (s:Shared) (Q:Value->Shared->Prop) (E:Value->Shared->Prop),tn i s.heap->Q (.ref it) s->wpAny (model P w) A (pyIter (.ref it)) Q E s
abbrev TI:=St->Hp->(It->Hp->Prop)->Prop
def PIE (X:Cx) (pins:List (Addr×Obj)) (σ:St) (tg:Expr) (R:It->Hp->Prop) (itv:Value) (s2:Shared):Prop:=
 ∃ (it:Addr) (fp:List Addr) (tn:Nat->Heap->Prop) (J:It) (H':Hp),itv=.ref it/\Inv X pins σ H' s2/\Turn X.prog X.w X.K tg J fp it tn/\tn 0 s2.heap/\(∀ b∈fp,Bu X pins H' b)/\R J H'
def PI (X:Cx) (tg iter:Expr) (wi:TI):Prop:=
 ∀ (pins:List (Addr×Obj)) (s:Shared) (σ:St) (H:Hp) (R:It->Hp->Prop),Inv X pins σ H s->wi σ H R ->
  wpAny (model X.prog X.w) X.A (eval iter X.env) (fun v s1=>wpAny (model X.prog X.w) X.A (pyIter v) (PIE X pins σ tg R) X.xe s1) X.xe s
theorem GY {M:Model} {A:Around} {E:Value->Shared->Prop} {s:Shared} {tg:Expr} {it:Addr} {u:Value} {o:Obj} {n:String} {vs:Array Value} {Q:Unit->Shared->Prop} (ho:s.heap.get? it=some o) (hc:o.cls=.type n) (hd:o.data=.fields vs)
  (hn:["enumerate","zip","dict_itemiterator","dict_reverseitemiterator","odict_iterator","itertools.zip_longest","itertools.pairwise"].contains n=false) (hQ:Q () s):wpAny M A (letOwnedTupleGo tg (.ref it) u) Q E s:=by
 unfold letOwnedTupleGo
 cases tg<;>first
  | exact wpAny_pure hQ
  | (cases u<;>first
    | exact wpAny_pure hQ
    | (refine wpAny_bind (wpAny_load ho ?_)
       rw[hc,hd]
       show wpAny M A (if (["enumerate","zip","dict_itemiterator","dict_reverseitemiterator","odict_iterator","itertools.zip_longest","itertools.pairwise"].contains n && vs[0]? == some (rawInt _))=true then _ else _) Q E s
       rw[if_neg (by intro h;rw[hn,Bool.false_and] at h;cases h)]
       exact wpAny_pure hQ))
def Itl (K:PySem.W.Frag) (a:Addr):It:=
 ⟨fun i H=>∃ xs x,SqL K H a xs/\xs[i]?=some x,fun i H x H'=>H'=H/\∀ xs,SqL K H a xs->xs[i]?=some x,fun i H=>∃ xs,SqL K H a xs/\xs.length<=i⟩
def Itt (K:PySem.W.Frag) (a:Addr):It:=
 ⟨fun i H=>∃ xs x,SqT K H a xs/\xs[i]?=some x,fun i H x H'=>H'=H/\∀ xs,SqT K H a xs->xs[i]?=some x,fun i H=>∃ xs,SqT K H a xs/\xs.length<=i⟩
def Itr (lo:Int) (n:Nat):It:=⟨fun i _=>i<n,fun i H x H'=>H'=H/\x=.int (lo+i),fun i _=>n<=i⟩
theorem Ve {P:Program} {w:World} {K:PySem.W.Frag} {tg:Expr} (a it:Addr):Turn P w K tg (Itl K a) [it] it (fun i h=>h.IsListIter it a i) where
 mem:=by simp
 obj:=fun i h st b hb=>by
  have e:b=it:=by simpa using hb
  subst e
  obtain ⟨o,e,c,d⟩:=st
  exact ⟨o,e,fun v z=>by rw[d] at z;cases z⟩
 keep:=fun i h h' st k=>st.at fun o e=>k it (by simp) o e
 item:=by
  intro X hP hw hK hc i pins s σ H E I hf st hg
  subst hP hw hK
  obtain ⟨xs,x,hq,hx⟩:=hg
  obtain ⟨its,rv,p,hz⟩:=I.list hq
  obtain ⟨u,hu,ru⟩:=rv.get hx
  obtain ⟨f0,f1,f2,f3,f4,f5⟩:=hf it (by simp)
  refine wpAny_pyNext_list_item st p.isList (x:=u) (by simpa using hu) fun h' st' sb=>?_
  have I1:Inv X pins σ H {s with heap:=h'}:=I.turned (t':=s.toks) (fun b o hb e=>(sb.2 b hb).trans e) f0 f1 f3 f4 f5
  obtain ⟨o,e,c,d⟩:=id st'
  exact ⟨u,rfl,GY (s:={s with heap:=h'}) e c d (by decide) ⟨x,H,I1,ru,⟨rfl,fun ys hy=>by rw[I.list_inj hy hq];exact hx⟩,st',fun b hb=>(hf b hb).1⟩⟩
 done:=by
  intro X hP hw hK hc i pins s σ H E I hf st hg
  subst hP hw hK
  obtain ⟨xs,hq,hx⟩:=hg
  obtain ⟨its,rv,p,hz⟩:=I.list hq
  obtain ⟨f0,f1,f2,f3,f4,f5⟩:=hf it (by simp)
  have hl:=rv.length
  exact wpAny_pyNext_list_end (I.ok.hd hc) st p.isList (by simp;lia) fun h' eb=>⟨rfl,I.turned (t':=s.toks) (fun b o hb e=>eb b o hb e) f0 f1 f3 f4 f5⟩
 self:=fun _ _ _ _ _ st h=>wpAny_pyIter_listiter st h
theorem Vm {P:Program} {w:World} {K:PySem.W.Frag} {tg:Expr} (a it:Addr):Turn P w K tg (Itt K a) [it] it (fun i h=>h.IsTupleIter it a i) where
 mem:=by simp
 obj:=fun i h st b hb=>by
  have e:b=it:=by simpa using hb
  subst e
  obtain ⟨o,e,c,d⟩:=st
  exact ⟨o,e,fun v z=>by rw[d] at z;cases z⟩
 keep:=fun i h h' st k=>st.at fun o e=>k it (by simp) o e
 item:=by
  intro X hP hw hK hc i pins s σ H E I hf st hg
  subst hP hw hK
  obtain ⟨xs,x,hq,hx⟩:=hg
  obtain ⟨its,rv,p,hz⟩:=I.tuple hq
  obtain ⟨u,hu,ru⟩:=rv.get hx
  obtain ⟨f0,f1,f2,f3,f4,f5⟩:=hf it (by simp)
  refine wpAny_pyNext_tuple_item st (show s.heap.IsTuple a its.toArray from p) (x:=u) (by simpa using hu) fun h' st' sb=>?_
  have I1:Inv X pins σ H {s with heap:=h'}:=I.turned (t':=s.toks) (fun b o hb e=>(sb.2 b hb).trans e) f0 f1 f3 f4 f5
  obtain ⟨o,e,c,d⟩:=id st'
  exact ⟨u,rfl,GY (s:={s with heap:=h'}) e c d (by decide) ⟨x,H,I1,ru,⟨rfl,fun ys hy=>by rw[I.tuple_inj hy hq];exact hx⟩,st',fun b hb=>(hf b hb).1⟩⟩
 done:=by
  intro X hP hw hK hc i pins s σ H E I hf st hg
  subst hP hw hK
  obtain ⟨xs,hq,hx⟩:=hg
  obtain ⟨its,rv,p,hz⟩:=I.tuple hq
  obtain ⟨f0,f1,f2,f3,f4,f5⟩:=hf it (by simp)
  have hl:=rv.length
  exact wpAny_pyNext_tuple_end (I.ok.hd hc) st (show s.heap.IsTuple a its.toArray from p) (by simp;lia) fun h' eb=>⟨rfl,I.turned (t':=s.toks) (fun b o hb e=>eb b o hb e) f0 f1 f3 f4 f5⟩
 self:=fun _ _ _ _ _ st h=>wpAny_pyIter_tupleiter st h
theorem Qb {P:Program} {w:World} {K:PySem.W.Frag} {tg:Expr} (it:Addr) (lo:Int) (n:Nat):Turn P w K tg (Itr lo n) [it] it (fun i h=>IsRangeIter h it (lo+(i:Nat) * 1) ((n:Int) - (i:Nat)) 1) where
 mem:=by simp
 obj:=fun i h st b hb=>by
  have e:b=it:=by simpa using hb
  subst e
  exact ⟨_,st,fun v z=>by
   have z':Data.fields _=Data.cell v:=z
   cases z'⟩
 keep:=fun i h h' st k=>k it (by simp) _ st
 item:=by
  intro X hP hw hK hc i pins s σ H E I hf st hg
  subst hP hw hK
  obtain ⟨f0,f1,f2,f3,f4,f5⟩:=hf it (by simp)
  have W:=Walks.range (prog:=X.prog) (w:=X.w) (I.ok.hd hc) it lo 1 n
  refine W.item i s _ _ hg st fun v h' tk hv st' kk=>?_
  obtain ⟨t,rfl⟩:=hv
  have I1:Inv X pins σ H {s with heap:=h',toks:=tk}:=I.turned (fun b o hb e=>kk b o (by simpa using hb) e) f0 f1 f3 f4 f5
  refine ⟨_,rfl,GY (s:={s with heap:=h',toks:=tk}) (n:="range_iterator") st' rfl rfl (by decide) ⟨.int (lo+i),H,I1,⟨t,?_⟩,⟨rfl,rfl⟩,st',fun b hb=>(hf b hb).1⟩⟩
  rw[Int.mul_one]
 done:=by
  intro X hP hw hK hc i pins s σ H E I hf st hg
  subst hP hw hK
  obtain ⟨f0,f1,f2,f3,f4,f5⟩:=hf it (by simp)
  exact wpAny_pyNext_range_end (I.ok.hd hc) st (by have:n<=i:=hg;lia) fun h' eb=>⟨rfl,I.turned (t':=s.toks) (fun b o hb e=>eb b o hb e) f0 f1 f3 f4 f5⟩
 self:=fun _ _ _ _ _ st h=>wpAny_pyIter_rangeiter st h
section
variable {X:Cx} {tg:Expr}
def J8 (K:PySem.W.Frag) (tl:TE):TI:=fun σ H R=>tl σ H fun x H1=>∃ a,x=.ref a/\(∃ xs,SqL K H1 a xs)/\R (Itl K a) H1
def OK (K:PySem.W.Frag) (tl:TE):TI:=fun σ H R=>tl σ H fun x H1=>∃ a,x=.ref a/\(∃ xs,SqT K H1 a xs)/\R (Itt K a) H1
theorem Ng {l:Expr} {tl:TE} (hl:PE X l tl):PI X tg l (J8 X.K tl):=by
 intro pins s σ H R I h
 refine thn (hl pins s σ H _ I h) fun v s1 hh_=>?_
 obtain ⟨x,H1,I1,r1,q1⟩:=hh_
 obtain ⟨a,e,⟨xs,hq⟩,q⟩:=q1
 subst e
 cases r1
 obtain ⟨its,rv,p,hz⟩:=I1.list hq
 refine wpAny_pyIter_list p.isList ?_
 refine ⟨s1.heap.objs.size,[s1.heap.objs.size],_,_,H1,rfl,I1.kept (t':=s1.toks) fun b o e=>Heap.get?_push_of_some _ e,Ve a _,⟨_,Heap.get?_push_size _ rfl,rfl,rfl⟩,fun b hb=>?_,q⟩
 have e:b=s1.heap.objs.size:=by simpa using hb
 subst e
 exact I1.fpOk (Nat.le_refl _) (I1.hok.fresh (Nat.le_refl _))
theorem VZ {l:Expr} {tl:TE} (hl:PE X l tl):PI X tg l (OK X.K tl):=by
 intro pins s σ H R I h
 refine thn (hl pins s σ H _ I h) fun v s1 hh_=>?_
 obtain ⟨x,H1,I1,r1,q1⟩:=hh_
 obtain ⟨a,e,⟨xs,hq⟩,q⟩:=q1
 subst e
 cases r1
 obtain ⟨its,rv,p,hz⟩:=I1.tuple hq
 refine wpAny_pyIter_tuple (show s1.heap.IsTuple a its.toArray from p) ?_
 refine ⟨s1.heap.objs.size,[s1.heap.objs.size],_,_,H1,rfl,I1.kept (t':=s1.toks) fun b o e=>Heap.get?_push_of_some _ e,Vm a _,⟨_,Heap.get?_push_size _ rfl,rfl,rfl⟩,fun b hb=>?_,q⟩
 have e:b=s1.heap.objs.size:=by simpa using hb
 subst e
 exact I1.fpOk (Nat.le_refl _) (I1.hok.fresh (Nat.le_refl _))
theorem Ou {pins:List (Addr×Obj)} {σ:St} {H:Hp} {s:Shared} {R:It->Hp->Prop} {E:Value->Shared->Prop} {lo hi:Int} {t u v:Tok} {tk:Nat} (I:Inv X pins σ H s) (h1:-(2 ^ 62)<=lo) (h2:lo<2 ^ 62) (h3:-(2 ^ 62)<=hi) (h4:hi<2 ^ 62)
  (q:R (Itr lo (hi - lo).toNat) H):wpAny (model X.prog X.w) X.A (pyIter (.ref s.heap.objs.size)) (PIE X pins σ tg R) E {s with heap:=s.heap.push {cls:=.type "range",data:=.fields #[.int lo t,.int hi u,.int 1 v]},toks:=tk}:=by
 refine wpAny_pyIter_range (IsRange.new ..) (small_one h1 h2 h3 h4) ?_
 have I1:Inv X pins σ H {s with heap:=s.heap.push {cls:=.type "range",data:=.fields #[.int lo t,.int hi u,.int 1 v]},toks:=tk}:=I.kept fun b o e=>Heap.get?_push_of_some _ e
 refine ⟨(s.heap.push {cls:=.type "range",data:=.fields #[.int lo t,.int hi u,.int 1 v]}).objs.size,[(s.heap.push {cls:=.type "range",data:=.fields #[.int lo t,.int hi u,.int 1 v]}).objs.size],_,_,H,rfl,
  I1.kept (t':=tk) fun b o e=>Heap.get?_push_of_some _ e,Qb _ lo (hi - lo).toNat,?_,fun b hb=>?_,q⟩
 ·have e1:lo+((0:Nat):Int) * 1=lo:=by simp
  have e2:(((hi - lo).toNat:Nat):Int) - ((0:Nat):Int)=Builtin.Range.rangeSize lo hi 1:=by rw[rangeSize_one];split<;>lia
  show IsRangeIter _ _ (lo+((0:Nat):Int) * 1) ((((hi - lo).toNat:Nat):Int) - ((0:Nat):Int)) 1
  rw[e1,e2]
  exact Heap.get?_push_size _ rfl
 ·have e:b=(s.heap.push {cls:=.type "range",data:=.fields #[.int lo t,.int hi u,.int 1 v]}).objs.size:=by simpa using hb
  subst e
  exact I1.fpOk (Nat.le_refl _) (I1.hok.fresh (Nat.le_refl _))
def Ry (ta:TA):TI:=fun σ H R=>ta σ H fun vs H1=>∃ j:Int,vs=[.int j]/\-(2 ^ 62)<=j/\j<2 ^ 62/\R (Itr 0 j.toNat) H1
theorem Ow {a:Expr} {ta:TA} {p pos:Pos} (hg:Gl X "range") (hm:X.mg "range"=none) (ha:PA X [a] ta) (hs:starEach [a] X.env=[(false,eval a X.env)]:=by rfl):PI X tg (.Call (.Name "range" p) [a] [] pos) (Ry ta):=by
 intro pins s σ H R I h
 refine Call_ (D0 I hg hm boot_range (PyProof.Rows.callWith_type1 (thn (ha pos pins s σ H _ I h) fun us s1 hh_=>?_) hs rfl))
 obtain ⟨vs,H1,I1,r1,q1⟩:=hh_
 obtain ⟨j,e,q1,q2,q⟩:=q1
 subst e
 cases r1 with
 | cons r rr=>
  cases rr
  obtain ⟨t,rfl⟩:=r
  exact call_range_1 (Ou I1 (by lia) (by lia) q1 q2 (by simpa using q))
def SJ (wi:TI) (g:TG) (tb:TS):TS:=fun D σ H=>wi σ H fun J H1=>∃ W:Nat->Nat->St->Hp->Prop,(∃ m,W 0 m σ H1)/\∀ i m σ H,W i m σ H ->
 (J.stop i H/\D.nx σ H)\/(J.go i H/\∃ N:St->Hp->Prop,(∀ σ' H',N σ' H'->∃ m',m'<m/\W (i+1) m' σ' H')/\∀ x H',J.yld i H x H'->g x σ H' fun σ2 H2=>tb {D with nx:=N,ct:=N,bk:=D.nx} σ2 H2)
def Es (fp:List Addr) (h:Heap):List (Addr×Obj):=fp.filterMap fun b=>(h.get? b).map fun o=>(b,o)
theorem Gq {fp:List Addr} {h:Heap} {b:Addr} {o:Obj} (hb:b∈fp) (e:h.get? b=some o):(b,o)∈Es fp h:=List.mem_filterMap.mpr ⟨b,hb,by rw[e];rfl⟩
theorem O7 {fp:List Addr} {h:Heap} {p:Addr×Obj} (hp:p∈Es fp h):p.1∈fp/\h.get? p.1=some p.2:=by
 obtain ⟨b,hb,e⟩:=List.mem_filterMap.mp hp
 cases q:h.get? b with
 | none=>rw[q] at e;cases e
 | some o=>
  rw[q] at e
  have e':(b,o)=p:=Option.some.inj e
  subst e'
  exact ⟨hb,q⟩
theorem Inv.pinned {pins:List (Addr×Obj)} {σ:St} {H:Hp} {s:Shared} {fp:List Addr} (I:Inv X pins σ H s) (hf:∀ b∈fp,Bu X pins H b) (ho:∀ b∈fp,∃ o,s.heap.get? b=some o/\∀ v,o.data≠.cell v):Inv X (pins++Es fp s.heap) σ H s:=
 I.pins_of fun p hp=>(List.mem_append.mp hp).elim (fun z=>I.pin p (List.mem_append_right _ z)) fun z=>by
  obtain ⟨hb,e⟩:=O7 z
  obtain ⟨f0,f1,f2,_⟩:=hf p.1 hb
  obtain ⟨o,e',d⟩:=ho p.1 hb
  rw[e] at e';cases e'
  exact ⟨e,f0,f1,f2,d⟩
theorem Inv.unpinned {pins pl:List (Addr×Obj)} {σ:St} {H:Hp} {s:Shared} (I:Inv X (pins++pl) σ H s):Inv X pins σ H s:=I.pins_of fun p hp=>I.pin p (List.mem_append_right _ (List.mem_append_left _ hp))
theorem US {iter:Expr} {body:List Stmt} {wi:TI} {g:TG} {tb:TS} {pos:Pos} (hp:PassesOwn (model X.prog X.w) X.A X.env X.xe) (hc:X.calm=true) (hi:PI X tg iter wi) (hg:PG X tg g) (hb:PSs X body tb)
  (hs:∀ x,foldedSetIterable iter X.env x=pure x:=by intro _;rfl):PS X (.For tg iter body [] pos) (SJ wi g tb):=by
 intro pins s σ H D I h
 refine wpAny_For (thn (hi pins s σ H _ I h) fun v s1 h1=>thn h1 fun itv s2 h2=>?_) hs
 obtain ⟨it,fp,tn,J,H2,e,I2,T,st2,f2,W,⟨m0,w0⟩,turn⟩:=h2
 subst e
 have stat:∀ {H':Hp},(∀ b∈fp,H' b=none)->∀ b∈fp,Bu X pins H' b:=fun hn b hb=>⟨hn b hb,(f2 b hb).2⟩
 refine codeAny_forLoop_any (fun n s'=>∃ i σ' H',Inv X pins σ' H' s'/\tn i s'.heap/\(∀ b∈fp,H' b=none)/\W i n σ' H') ?_ m0 ⟨0,σ,H2,I2,st2,fun b hb=>(f2 b hb).1,w0⟩
 rintro n s3 ⟨i,σ3,H3,I3,st3,fr3,w3⟩
 rcases turn i n σ3 H3 w3 with ⟨stop,qn⟩ | ⟨go,N,hN,step⟩
 ·refine wpAny_passesOwn hp (thn (T.done X rfl rfl rfl hc i pins s3 σ3 H3 X.xe I3 (stat fr3) st3 stop) fun r s4 hh_=>?_)
  obtain ⟨hr,I4⟩:=hh_
  subst hr
  exact wpAny_execs_nil ⟨σ3,H3,I4,qn⟩
 ·refine wpAny_passesOwn hp (thn (T.item X rfl rfl rfl hc i pins s3 σ3 H3 X.xe I3 (stat fr3) st3 go) fun r s4 hh_=>?_)
  obtain ⟨u,hr,h4⟩:=hh_
  subst hr
  refine wpAny_passesOwn hp (thn h4 fun _ s5 hh_=>?_)
  obtain ⟨x,H5,I5,r5,y5,st5,fr5⟩:=hh_
  have I5':=I5.pinned (stat fr5) (T.obj _ _ st5)
  refine wpAny_passesOwn hp (thn (hg _ s5 σ3 H5 x u _ I5' r5 (step x H5 y5)) fun _ s6 hh_=>?_)
  obtain ⟨σ6,H6,I6,q6⟩:=hh_
  refine wpAny_passesOwn hp (thn (hb _ s6 σ6 H6 _ I6 q6) fun f s7 q7=>?_)
  have again:∀ {σ7:St} {H7:Hp},Inv X (pins++Es fp s5.heap) σ7 H7 s7->N σ7 H7->∃ m,m<n/\∃ i σ' H',Inv X pins σ' H' s7/\tn i s7.heap/\(∀ b∈fp,H' b=none)/\W i m σ' H':=fun {σ7 H7} I7 n7=>by
   obtain ⟨m',hm,w7⟩:=hN σ7 H7 n7
   refine ⟨m',hm,i+1,σ7,H7,I7.unpinned,T.keep _ _ _ st5 fun b hb o e=>(I7.pin (b,o) (List.mem_append_right _ (List.mem_append_right _ (Gq hb e)))).1,fun b hb=>?_,w7⟩
   obtain ⟨o,e,d⟩:=T.obj _ _ st5 b hb
   exact (I7.pin (b,o) (List.mem_append_right _ (List.mem_append_right _ (Gq hb e)))).2.1
  cases f with
  | next=>obtain ⟨σ7,H7,I7,n7⟩:=q7;exact again I7 n7
  | cont=>obtain ⟨σ7,H7,I7,n7⟩:=q7;exact again I7 n7
  | brk=>obtain ⟨σ7,H7,I7,q7⟩:=q7;exact ⟨σ7,H7,I7.unpinned,q7⟩
  | ret v=>obtain ⟨x7,σ7,H7,I7,r7,q7⟩:=q7;exact ⟨x7,σ7,H7,I7.unpinned,r7,q7⟩
end
abbrev R2:=V->V->Hp->VK->Prop
def OpR (X:Cx) (f:Value->Value->Sem Value) (r:R2):Prop:=
 ∀ (pins:List (Addr×Obj)) (s:Shared) (σ:St) (H:Hp) (x y:V) (v u:Value) (Q:VK),Inv X pins σ H s->RelV x v->RelV y u->r x y H Q ->
  wpAny (model X.prog X.w) X.A (f v u) (EP X pins σ Q) X.xe s
def UnR (X:Cx) (f:Value->Sem Value) (r:V->Hp->VK->Prop):Prop:=
 ∀ (pins:List (Addr×Obj)) (s:Shared) (σ:St) (H:Hp) (x:V) (v:Value) (Q:VK),Inv X pins σ H s->RelV x v->r x H Q ->
  wpAny (model X.prog X.w) X.A (f v) (EP X pins σ Q) X.xe s
def CallR (X:Cx) (f:Value) (r:List V->Hp->VK->Prop):Prop:=
 ∀ (pins:List (Addr×Obj)) (s:Shared) (σ:St) (H:Hp) (xs:List V) (us:List Value) (Q:VK),Inv X pins σ H s->Vals xs us->r xs H Q ->
  wpAny (model X.prog X.w) X.A (call f us) (EP X pins σ Q) X.xe s
def PK (X:Cx) (r:V->Hp->(Bool->Hp->Prop)->Prop):Prop:=
 ∀ (pins:List (Addr×Obj)) (s:Shared) (σ:St) (H:Hp) (x:V) (v:Value) (Q:Bool->Hp->Prop),Inv X pins σ H s->RelV x v->r x H Q ->
  wpAny (model X.prog X.w) X.A (truthy v) (TP X pins σ Q) X.xe s
def tOp (r:R2) (ta tb:TE):TE:=fun σ H Q=>ta σ H fun x H1=>tb σ H1 fun y H2=>r x y H2 Q
def tUn (r:V->Hp->VK->Prop) (ta:TE):TE:=fun σ H Q=>ta σ H fun x H1=>r x H1 Q
def rI (C:Int->Int->Prop) (g:Int->Int->V):R2:=fun x y H Q=>∃ i j,x=.int i/\y=.int j/\C i j/\Q (g i j) H
def rI0 (g:Int->Int->V):R2:=fun x y H Q=>∃ i j,x=.int i/\y=.int j/\Q (g i j) H
def rU (g:Int->V):V->Hp->VK->Prop:=fun x H Q=>∃ i,x=.int i/\Q (g i) H
section
variable {X:Cx} {a b c:Expr} {ta tb tc:TE} {pos:Pos}
theorem Hu (ha:PE X a ta) (hb:PE X b tb) {pins:List (Addr×Obj)} {s:Shared} {σ:St} {H:Hp} {R:V->V->Hp->Prop} (I:Inv X pins σ H s)
  (h:ta σ H fun x H1=>tb σ H1 fun y H2=>R x y H2) {Q:Value->Shared->Prop} {f:Value->Value->Sem Value}
  (hf:∀ v u s2 x y H2,Inv X pins σ H2 s2->RelV x v->RelV y u->R x y H2->wpAny (model X.prog X.w) X.A (f v u) Q X.xe s2) :
  wpAny (model X.prog X.w) X.A (eval a X.env) (fun v s₁=>wpAny (model X.prog X.w) X.A (eval b X.env) (fun u s₂=>wpAny (model X.prog X.w) X.A (f v u) Q X.xe s₂) X.xe s₁) X.xe s:=by
 refine thn (ha pins s σ H _ I h) fun v s1 hh_=>?_
 obtain ⟨x,H1,I1,r1,q1⟩:=hh_
 refine thn (hb pins s1 σ H1 _ I1 q1) fun u s2 hh_=>?_
 obtain ⟨y,H2,I2,r2,q2⟩:=hh_
 exact hf v u s2 x y H2 I2 r1 r2 q2
theorem KH {op:Operator} {r:R2} (ho:OpR X (binaryOp op) r) (ha:PE X a ta) (hb:PE X b tb):PE X (.BinOp a op b pos) (tOp r ta tb):=by
 intro pins s σ H Q I h
 exact wpAny_BinOp (Hu ha hb I h fun v u s2 x y H2 I2 rx ry q=>ho pins s2 σ H2 x y v u Q I2 rx ry q)
theorem Lz {op:UnaryOp} {r:V->Hp->VK->Prop} (ho:UnR X (unaryOp op) r) (ha:PE X a ta):PE X (.UnaryOp op a pos) (tUn r ta):=by
 intro pins s σ H Q I h
 exact UnaryOp_ (thn (ha pins s σ H _ I h) fun v s1 ⟨x,H1,I1,r1,q1⟩=>ho pins s1 σ H1 x v Q I1 r1 q1)
theorem opI {f:Value->Value->Sem Value} {C:Int->Int->Prop} {g:Int->Int->Int}
  (rule:∀ (i j:Int) (t u:Tok) (s:Shared) (Q:Value->Shared->Prop) (E:Value->Shared->Prop),C i j->Q (.int (g i j) s.toks) {s with toks:=s.toks+1}->wpAny (model X.prog X.w) X.A (f (.int i t) (.int j u)) Q E s) :
  OpR X f (rI C fun i j=>.int (g i j)):=by
 intro pins s σ H x y v u Q I rx ry h
 obtain ⟨i,j,rfl,rfl,hc,q⟩:=h
 obtain ⟨t,rfl⟩:=rx
 obtain ⟨t',rfl⟩:=ry
 exact rule i j t t' s _ _ hc ⟨.int (g i j),H,I.tok _,⟨_,rfl⟩,q⟩
theorem Lc {f:Value->Value->Sem Value} {g:Int->Int->Int}
  (rule:∀ (i j:Int) (t u:Tok) (s:Shared) (Q:Value->Shared->Prop) (E:Value->Shared->Prop),Q (.int (g i j) s.toks) {s with toks:=s.toks+1}->wpAny (model X.prog X.w) X.A (f (.int i t) (.int j u)) Q E s) :
  OpR X f (rI0 fun i j=>.int (g i j)):=by
 intro pins s σ H x y v u Q I rx ry h
 obtain ⟨i,j,rfl,rfl,q⟩:=h
 obtain ⟨t,rfl⟩:=rx
 obtain ⟨t',rfl⟩:=ry
 exact rule i j t t' s _ _ ⟨.int (g i j),H,I.tok _,⟨_,rfl⟩,q⟩
theorem Fl {f:Value->Value->Sem Value} {g:Int->Int->Bool}
  (rule:∀ (i j:Int) (t u:Tok) (s:Shared) (Q:Value->Shared->Prop) (E:Value->Shared->Prop),Q (.bool (g i j)) s->wpAny (model X.prog X.w) X.A (f (.int i t) (.int j u)) Q E s) :
  OpR X f (rI0 fun i j=>.bl (g i j)):=by
 intro pins s σ H x y v u Q I rx ry h
 obtain ⟨i,j,rfl,rfl,q⟩:=h
 obtain ⟨t,rfl⟩:=rx
 obtain ⟨t',rfl⟩:=ry
 exact rule i j t t' s _ _ ⟨.bl (g i j),H,I,rfl,q⟩
def JZ (i j:Int):Prop:=0<=j/\j<=1000000/\i.natAbs<2 ^ 64
def CMul (i j:Int):Prop:=(-(2 ^ 64)<i/\i<2 ^ 64)\/(-(2 ^ 64)<j/\j<2 ^ 64)
theorem CMul.ok {i j:Int} (h:CMul i j):IntMulOk i j:=by
 rcases h with ⟨h1,h2⟩ | ⟨h1,h2⟩
 ·exact .of_left (intBits_le_64 h1 h2)
 ·exact .of_right (intBits_le_64 h1 h2)
theorem op_add:OpR X (binaryOp .Add) (rI0 fun i j=>.int (i+j)):=Lc fun _ _ _ _ _ _ _ q=>add_int q
theorem Vq:OpR X (binaryOp .Sub) (rI0 fun i j=>.int (i - j)):=Lc fun _ _ _ _ _ _ _ q=>sub_int q
theorem Qe:OpR X (binaryOp .Mult) (rI CMul fun i j=>.int (i * j)):=opI fun _ _ _ _ _ _ _ hc q=>mul_int q hc.ok
theorem RA:OpR X (binaryOp .Mod) (rI (fun _ j=>0<j) fun i j=>.int (i % j)):=opI fun i j _ _ _ _ _ hc q=>by
 have h1:(0:Int)<j:=hc
 exact mod_int' (by lia) (by rw[Int.fmod_eq_emod_of_nonneg i (by lia)];exact q)
theorem Tw:OpR X (binaryOp .Pow) (rI JZ fun i j=>.int (i ^ j.toNat)):=opI fun _ _ _ _ _ _ _ hc q=>pow_int_small hc.1 hc.2.1 hc.2.2 q
theorem unI {f:Value->Sem Value} {g:Int->Int}
  (rule:∀ (i:Int) (t:Tok) (s:Shared) (Q:Value->Shared->Prop) (E:Value->Shared->Prop),Q (.int (g i) s.toks) {s with toks:=s.toks+1}->wpAny (model X.prog X.w) X.A (f (.int i t)) Q E s) :
  UnR X f (rU fun i=>.int (g i)):=by
 intro pins s σ H x v Q I rx h
 obtain ⟨i,rfl,q⟩:=h
 obtain ⟨t,rfl⟩:=rx
 exact rule i t s _ _ ⟨.int (g i),H,I.tok _,⟨_,rfl⟩,q⟩
theorem KQ:UnR X (unaryOp .USub) (rU fun i=>.int (-i)):=unI fun _ _ _ _ _ q=>neg_int q
end
def Hv:V->V->Bool
 | .non,.non=>true | .non,.int _=>true | .int _,.non=>true | .non,.bl _=>true | .bl _,.non=>true | .non,.str _=>true | .str _,.non=>true
 | .int _,.int _=>true | .bl _,.bl _=>true | .str _,.str _=>true | .byt _,.byt _=>true
 | .int _,.str _=>true | .str _,.int _=>true | .bl _,.str _=>true | .str _,.bl _=>true
 | _,_=>false
def rEq:R2:=fun x y H Q=>Hv x y=true/\Q (.bl (decide (x=y))) H
def rNe:R2:=fun x y H Q=>Hv x y=true/\Q (.bl (!decide (x=y))) H
theorem J1 {i j:Int}:decide (V.int i=V.int j)=(i == j):=by
 rw[Bool.eq_iff_iff]
 simp
theorem NF {i j:Bool}:decide (V.bl i=V.bl j)=(i == j):=by
 rw[Bool.eq_iff_iff]
 simp
theorem La {i j:Str}:decide (V.str i=V.str j)=(i == j):=by
 rw[Bool.eq_iff_iff]
 simp
theorem Mi {i j:Array UInt8}:decide (V.byt i=V.byt j)=(i.toList == j.toList):=by
 rw[Bool.eq_iff_iff]
 cases i
 cases j
 simp
section
variable {X:Cx} {a b c:Expr} {ta tb tc:TE} {pos:Pos}
theorem Ao {pins:List (Addr×Obj)} {σ:St} {H:Hp} {s:Shared} {Q:VK} {k k':Bool} (I:Inv X pins σ H s) (q:Q (.bl k) H) (e:k=k'):EP X pins σ Q (.bool k') s:=by
 subst e
 exact ⟨.bl k,H,I,rfl,q⟩
theorem op_eq:OpR X (compareOp .Eq) rEq:=by
 intro pins s σ H x y v u Q I rx ry h
 obtain ⟨hs,q⟩:=h
 cases x with
 | non=>
  cases rx
  cases y with
  | non=>cases ry;exact PySem.EqNone.eq_none_none (Ao I q (by simp))
  | bl j=>cases ry;exact PySem.EqNone.eq_none_bool (Ao I q (by simp))
  | int j=>obtain ⟨t',rfl⟩:=ry;exact PySem.EqNone.eq_none_int (Ao I q (by simp))
  | str j=>obtain ⟨t',rfl⟩:=ry;exact PySem.EqNone.eq_none_str (Ao I q (by simp))
  | _=>exact absurd (show false=true from hs) Bool.false_ne_true
 | bl i=>
  cases rx
  cases y with
  | non=>cases ry;exact PySem.EqNone.eq_bool_none (Ao I q (by simp))
  | bl j=>cases ry;exact eq_bool (Ao I q NF)
  | str j=>obtain ⟨t',rfl⟩:=ry;exact PySem.EqMixed.eq_bool_str (Ao I q (by simp))
  | _=>exact absurd (show false=true from hs) Bool.false_ne_true
 | int i=>
  obtain ⟨t,rfl⟩:=rx
  cases y with
  | non=>cases ry;exact PySem.EqNone.eq_int_none (Ao I q (by simp))
  | int j=>obtain ⟨t',rfl⟩:=ry;exact eq_int (Ao I q J1)
  | str j=>obtain ⟨t',rfl⟩:=ry;exact PySem.EqMixed.eq_int_str (Ao I q (by simp))
  | _=>exact absurd (show false=true from hs) Bool.false_ne_true
 | str i=>
  obtain ⟨t,rfl⟩:=rx
  cases y with
  | non=>cases ry;exact PySem.EqNone.eq_str_none (Ao I q (by simp))
  | bl j=>cases ry;exact PySem.EqMixed.eq_str_bool (Ao I q (by simp))
  | int j=>obtain ⟨t',rfl⟩:=ry;exact PySem.EqMixed.eq_str_int (Ao I q (by simp))
  | str j=>obtain ⟨t',rfl⟩:=ry;exact eq_str (Ao I q La)
  | _=>exact absurd (show false=true from hs) Bool.false_ne_true
 | byt i=>
  obtain ⟨t,rfl⟩:=rx
  cases y with
  | byt j=>obtain ⟨t',rfl⟩:=ry;exact PySem.W.eq_bytes (Ao I q Mi)
  | _=>exact absurd (show false=true from hs) Bool.false_ne_true
 | _=>cases y<;>exact absurd (show false=true from hs) Bool.false_ne_true
theorem op_ne:OpR X (compareOp .NotEq) rNe:=by
 intro pins s σ H x y v u Q I rx ry h
 obtain ⟨hs,q⟩:=h
 cases x with
 | non=>
  cases rx
  cases y with
  | non=>cases ry;exact PySem.EqNone.ne_none_none (Ao I q (by simp))
  | bl j=>cases ry;exact PySem.EqNone.ne_none_bool (Ao I q (by simp))
  | int j=>obtain ⟨t',rfl⟩:=ry;exact PySem.EqNone.ne_none_int (Ao I q (by simp))
  | str j=>obtain ⟨t',rfl⟩:=ry;exact PySem.EqNone.ne_none_str (Ao I q (by simp))
  | _=>exact absurd (show false=true from hs) Bool.false_ne_true
 | bl i=>
  cases rx
  cases y with
  | non=>cases ry;exact PySem.EqNone.ne_bool_none (Ao I q (by simp))
  | bl j=>cases ry;exact ne_bool (Ao I q (congrArg not NF))
  | str j=>obtain ⟨t',rfl⟩:=ry;exact PySem.EqMixed.ne_bool_str (Ao I q (by simp))
  | _=>exact absurd (show false=true from hs) Bool.false_ne_true
 | int i=>
  obtain ⟨t,rfl⟩:=rx
  cases y with
  | non=>cases ry;exact PySem.EqNone.ne_int_none (Ao I q (by simp))
  | int j=>obtain ⟨t',rfl⟩:=ry;exact ne_int (Ao I q (congrArg not J1))
  | str j=>obtain ⟨t',rfl⟩:=ry;exact PySem.EqMixed.ne_int_str (Ao I q (by simp))
  | _=>exact absurd (show false=true from hs) Bool.false_ne_true
 | str i=>
  obtain ⟨t,rfl⟩:=rx
  cases y with
  | non=>cases ry;exact PySem.EqNone.ne_str_none (Ao I q (by simp))
  | bl j=>cases ry;exact PySem.EqMixed.ne_str_bool (Ao I q (by simp))
  | int j=>obtain ⟨t',rfl⟩:=ry;exact PySem.EqMixed.ne_str_int (Ao I q (by simp))
  | str j=>obtain ⟨t',rfl⟩:=ry;exact ne_str (Ao I q (congrArg not La))
  | _=>exact absurd (show false=true from hs) Bool.false_ne_true
 | byt i=>
  obtain ⟨t,rfl⟩:=rx
  cases y with
  | byt j=>obtain ⟨t',rfl⟩:=ry;exact PySem.W.ne_bytes (Ao I q (congrArg not Mi))
  | _=>exact absurd (show false=true from hs) Bool.false_ne_true
 | _=>cases y<;>exact absurd (show false=true from hs) Bool.false_ne_true
theorem op_lt:OpR X (compareOp .Lt) (rI0 fun i j=>.bl (decide (i<j))):=Fl fun _ _ _ _ _ _ _ q=>lt_int q
theorem op_le:OpR X (compareOp .LtE) (rI0 fun i j=>.bl (decide (i<=j))):=Fl fun _ _ _ _ _ _ _ q=>le_int q
theorem op_gt:OpR X (compareOp .Gt) (rI0 fun i j=>.bl (decide (j<i))):=Fl fun _ _ _ _ _ _ _ q=>gt_int q
theorem op_ge:OpR X (compareOp .GtE) (rI0 fun i j=>.bl (decide (j<=i))):=Fl fun _ _ _ _ _ _ _ q=>ge_int q
theorem OpR.or {f:Value->Value->Sem Value} {r r':R2} (h:OpR X f r) (h':OpR X f r'):OpR X f (fun x y H Q=>r x y H Q\/r' x y H Q):=by
 intro pins s σ H x y v u Q I rx ry q
 rcases q with q | q
 ·exact h pins s σ H x y v u Q I rx ry q
 ·exact h' pins s σ H x y v u Q I rx ry q
theorem C4 (b:Expr) {op:CmpOp} (h:op≠.In:=by decide) (h2:op≠.NotIn:=by decide):behindInMarks op b=false:=by
 have e1:(op == CmpOp.In)=false:=by cases op<;>first | rfl | exact absurd rfl h
 have e2:(op == CmpOp.NotIn)=false:=by cases op<;>first | rfl | exact absurd rfl h2
 cases b<;>simp[behindInMarks,e1,e2]
theorem TX {op:CmpOp} {r:R2} (ho:OpR X (compareOp op) r) (ha:PE X a ta) (hb:PE X b tb) (hm:behindInMarks op b=false):PE X (.Compare a [op] [b] pos) (tOp r ta tb):=by
 intro pins s σ H Q I h
 exact wpAny_Compare1 (Hu ha hb I h fun v u s2 x y H2 I2 rx ry q=>ho pins s2 σ H2 x y v u Q I2 rx ry q) hm
def N0 (t:TE):TT:=fun σ H Q=>t σ H fun x H'=>∃ k,x=.bl k/\Q k H'
theorem VI {op:CmpOp} {r:R2} (ho:OpR X (compareOp op) r) (ha:PE X a ta) (hb:PE X b tb) (hm:behindInMarks op b=false):PT X (.Compare a [op] [b] pos) (N0 (tOp r ta tb)):=by
 intro pins s σ H Q I h
 refine wpAny_isTrue_Compare1 (thn (ha pins s σ H _ I h) fun v s1 ⟨x,H1,I1,r1,q1⟩=>thn (hb pins s1 σ H1 _ I1 q1) fun u s2 ⟨y,H2,I2,r2,q2⟩=>
  thn (ho pins s2 σ H2 x y v u _ I2 r1 r2 q2) fun c s3 ⟨z,H3,I3,r3,k,e,q3⟩=>?_) hm
 subst e
 cases r3
 exact wpAny_truthy_bool ⟨H3,I3,q3⟩
def Jb (r r':R2) (ta tb tc:TE):TE:=fun σ H Q=>ta σ H fun x H1=>tb σ H1 fun y H2=>r x y H2 fun z H3=>∃ k,z=.bl k /\
 (if k=true then tc σ H3 fun w' H4=>r' y w' H4 Q else Q (.bl false) H3)
theorem RJ {op op':CmpOp} {r r':R2} (ho:OpR X (compareOp op) r) (ho':OpR X (compareOp op') r') (ha:PE X a ta) (hb:PE X b tb) (hc:PE X c tc)
  (hm:lastMarks [op,op'] [b,c]=false:=by with_unfolding_all rfl):PE X (.Compare a [op,op'] [b,c] pos) (Jb r r' ta tb tc):=by
 intro pins s σ H Q I h
 refine Compare_chain (thn (ha pins s σ H _ I h) fun v s1 ⟨x,H1,I1,r1,q1⟩=>chain_link (thn (hb pins s1 σ H1 _ I1 q1) fun u s2 ⟨y,H2,I2,r2,q2⟩=>
  thn (ho pins s2 σ H2 x y v u _ I2 r1 r2 q2) fun d s3 ⟨z,H3,I3,r3,k,e,q3⟩=>?_)) hm
 subst e
 cases r3
 refine wpAny_truthy_bool ?_
 cases k with
 | false=>exact ite_ff ⟨.bl false,H3,I3,rfl,q3⟩
 | true=>exact ite_tt (chain_last (thn (hc pins s3 σ H3 _ I3 q3) fun w' s4 ⟨z',H4,I4,r4,q4⟩=>ho' pins s4 σ H4 y z' u w' Q I4 r2 r4 q4))
theorem U0 {op op':CmpOp} {r r':R2} (ho:OpR X (compareOp op) r) (ho':OpR X (compareOp op') r') (ha:PE X a ta) (hb:PE X b tb) (hc:PE X c tc)
  (hm:lastMarks [op,op'] [b,c]=false:=by with_unfolding_all rfl):PT X (.Compare a [op,op'] [b,c] pos) (N0 (Jb r r' ta tb tc)):=by
 intro pins s σ H Q I h
 refine isTrue_chain (thn (ha pins s σ H _ I h) fun v s1 ⟨x,H1,I1,r1,q1⟩=>test_link (thn (hb pins s1 σ H1 _ I1 q1) fun u s2 ⟨y,H2,I2,r2,q2⟩=>
  thn (ho pins s2 σ H2 x y v u _ I2 r1 r2 q2) fun d s3 ⟨z,H3,I3,r3,k,e,q3⟩=>?_)) hm
 subst e
 cases r3
 refine wpAny_truthy_bool ?_
 cases k with
 | false=>
  obtain ⟨k',e',q'⟩:=q3
  cases e'
  exact ite_ff ⟨H3,I3,q'⟩
 | true=>
  refine ite_tt (test_last (thn (hc pins s3 σ H3 _ I3 q3) fun w' s4 ⟨z',H4,I4,r4,q4⟩=>thn (ho' pins s4 σ H4 y z' u w' _ I4 r2 r4 q4) fun d' s5 hh_=>?_))
  obtain ⟨z2,H5,I5,r5,k2,e2,q5⟩:=hh_
  subst e2
  cases r5
  exact wpAny_truthy_bool ⟨H5,I5,q5⟩
def Iy (K:PySem.W.Frag) (x:V) (H:Hp) (k:Bool):Prop:=
 match x with
 | .non=>k=false
 | .bl b=>k=b
 | .int i=>k=(i != 0)
 | .str y=>y.length<=sizeLine/\k=((y.length:Int) != 0)
 | .byt y=>y.size<=sizeLine/\k=((y.size:Int) != 0)
 | .ref p=>(∃ xs,SqL K H p xs/\k=!xs.isEmpty)\/(∃ xs,SqT K H p xs/\k=!xs.isEmpty)\/∃ kvs,H p=some (.dK kvs)/\k=!kvs.isEmpty
 | _=>False
theorem Ux {κ:Type} {kvs:List (κ×V)} {vs:List (κ×Value)} (r:KV kvs vs):(!vs.isEmpty)=!kvs.isEmpty:=by
 cases r<;>rfl
theorem MC {xs:List V} {its:List Value} (r:Vals xs its):(!its.toArray.isEmpty)=!xs.isEmpty:=by
 cases r<;>simp
theorem Di:(sizeLine:Nat)<2 ^ 63:=by rw[sizeLine_eq];decide
theorem QM:PK X (fun x H Q=>∃ k,Iy X.K x H k/\Q k H):=by
 intro pins s σ H x v Q I rx h
 obtain ⟨k,e,q⟩:=h
 have hl:=Di
 have hs:sizeLine=16777216:=sizeLine_eq
 cases x with
 | non=>
  cases rx
  have e':k=false:=e
  subst e'
  exact truthy_none ⟨H,I,q⟩
 | bl b=>
  cases rx
  have e':k=b:=e
  subst e'
  exact wpAny_truthy_bool ⟨H,I,q⟩
 | int i=>
  obtain ⟨t,rfl⟩:=rx
  have e':k=(i != 0):=e
  subst e'
  exact PySem.P.truthy_int ⟨H,I,q⟩
 | str y=>
  obtain ⟨t,rfl⟩:=rx
  obtain ⟨hy,e'⟩:y.length<=sizeLine/\k=((y.length:Int) != 0):=e
  subst e'
  exact PySem.P.truthy_str (by lia) ⟨H,I.tok _,q⟩
 | byt y=>
  obtain ⟨t,rfl⟩:=rx
  obtain ⟨hy,e'⟩:y.size<=sizeLine/\k=((y.size:Int) != 0):=e
  subst e'
  exact PySem.W.truthy_bytes (by lia) ⟨H,I.tok _,q⟩
 | ref p=>
  cases rx
  have e':(∃ xs,SqL X.K H p xs/\k=!xs.isEmpty)\/(∃ xs,SqT X.K H p xs/\k=!xs.isEmpty)\/∃ kvs,H p=some (.dK kvs)/\k=!kvs.isEmpty:=e
  rcases e' with ⟨xs,hx,e'⟩ | ⟨xs,hx,e'⟩ | ⟨kvs,hx,e'⟩
  ·subst e'
   obtain ⟨its,r,pl,hz⟩:=I.list hx
   have hlen:=r.length
   exact wpAny_truthy_list pl.isList (by simp only[List.size_toArray];lia) ⟨H,I.tok _,by rw[MC r];exact q⟩
  ·subst e'
   obtain ⟨its,r,pl,hz⟩:=I.tuple hx
   have hlen:=r.length
   exact truthy_tuple pl (by simp only[List.size_toArray];lia) ⟨H,I.tok _,by rw[MC r];exact q⟩
  ·subst e'
   obtain ⟨hz,hS,vs,r,m⟩:kvs.length<=sizeLine/\(p == sysModules)=false/\∃ vs,KV kvs vs/\s.heap.DictOf (JU X.prog X.w) p vs:=I.hok p _ hx
   have hlen:kvs.length=vs.length:=Paired.length r
   exact wpAny_truthy_dict hS m (by lia) ⟨H,I.tok _,by rw[Ux r];exact q⟩
 | _=>exact (show False from e).elim
theorem Rq (ha:PE X a ta) (he:∀ whole,isTrue a X.env whole=(do let v <-whole;standAt a.pos;holding [v] (truthy v))) :
  PT X a (fun σ H Q=>ta σ H fun x H'=>∃ k,Iy X.K x H' k/\Q k H'):=by
 intro pins s σ H Q I h
 exact isTrue_plain (thn (ha pins s σ H _ I h) fun v s1 ⟨x,H1,I1,r1,q1⟩=>QM pins s1 σ H1 x v Q I1 r1 q1) (he _)
theorem op_add_str:OpR X (binaryOp .Add) (fun x y H Q=>∃ i j,x=.str i/\y=.str j/\i.length+j.length<=sizeLine/\Q (.str (i++j)) H):=by
 intro pins s σ H x y v u Q I rx ry h
 obtain ⟨i,j,rfl,rfl,hz,q⟩:=h
 obtain ⟨t,rfl⟩:=rx
 obtain ⟨t',rfl⟩:=ry
 exact add_str (fun t' tk=>⟨.str (i++j),H,I.tok _,⟨_,rfl⟩,q⟩) hz
theorem vals1 {x:V} {us:List Value} (r:Vals [x] us):∃ u,us=[u]/\RelV x u:=by
 cases r with
 | cons r1 r2=>cases r2;exact ⟨_,rfl,r1⟩
theorem vals2 {x y:V} {us:List Value} (r:Vals [x,y] us):∃ u w',us=[u,w']/\RelV x u/\RelV y w':=by
 cases r with
 | cons r1 r2=>
  cases r2 with
  | cons r3 r4=>cases r4;exact ⟨_,_,rfl,r1,r3⟩
theorem U1 (hc:X.calm=true):CallR X (.builtin "max") (fun xs H Q=>∃ i j,xs=[.int i,.int j]/\Q (.int (if j > i then j else i)) H):=by
 intro pins s σ H xs us Q I r h
 obtain ⟨i,j,rfl,q⟩:=h
 obtain ⟨u,w',rfl,⟨t,rfl⟩,⟨t',rfl⟩⟩:=vals2 r
 refine max_two_ints (I.ok.hd hc) fun h' tk k=>⟨_,H,I.kept k,?_,q⟩
 by_cases hj:j > i
 ·rw[if_pos hj,if_pos hj];exact ⟨_,rfl⟩
 ·rw[if_neg hj,if_neg hj];exact ⟨_,rfl⟩
theorem Qx (hc:X.calm=true):CallR X (.builtin "min") (fun xs H Q=>∃ i j,xs=[.int i,.int j]/\Q (.int (if j<i then j else i)) H):=by
 intro pins s σ H xs us Q I r h
 obtain ⟨i,j,rfl,q⟩:=h
 obtain ⟨u,w',rfl,⟨t,rfl⟩,⟨t',rfl⟩⟩:=vals2 r
 refine min_two_ints (I.ok.hd hc) fun h' tk k=>⟨_,H,I.kept k,?_,q⟩
 by_cases hj:j<i
 ·rw[if_pos hj,if_pos hj];exact ⟨_,rfl⟩
 ·rw[if_neg hj,if_neg hj];exact ⟨_,rfl⟩
theorem V6:CallR X (.type "str") (fun xs H Q=>∃ i,xs=[.int i]/\i.natAbs.log2<1920/\Q (.str (toString i)) H):=by
 intro pins s σ H xs us Q I r h
 obtain ⟨i,rfl,hz,q⟩:=h
 obtain ⟨u,rfl,t,rfl⟩:=vals1 r
 exact PySem.P.str_of_int hz ⟨.str _,H,I.tok _,⟨_,rfl⟩,q⟩
def Nf (K:PySem.W.Frag) (x:V) (H:Hp) (n:Nat):Prop:=
 match x with
 | .str y=>y.length<=sizeLine/\n=y.length
 | .byt y=>y.size<=sizeLine/\n=y.size
 | .ref p=>(∃ xs,SqL K H p xs/\n=xs.length)\/∃ xs,SqT K H p xs/\n=xs.length
 | _=>False
theorem SD:CallR X (.builtin "len") (fun xs H Q=>∃ x n,xs=[x]/\Nf X.K x H n/\Q (.int n) H):=by
 intro pins s σ H xs us Q I r h
 obtain ⟨x,n,rfl,e,q⟩:=h
 obtain ⟨u,rfl,rx⟩:=vals1 r
 have hl:=Di
 have hs:sizeLine=16777216:=sizeLine_eq
 cases x with
 | str y=>
  obtain ⟨t,rfl⟩:=rx
  obtain ⟨hy,e'⟩:y.length<=sizeLine/\n=y.length:=e
  subst e'
  exact len_str (by lia) ⟨.int _,H,I.tok _,⟨_,rfl⟩,q⟩
 | byt y=>
  obtain ⟨t,rfl⟩:=rx
  obtain ⟨hy,e'⟩:y.size<=sizeLine/\n=y.size:=e
  subst e'
  exact PySem.W.len_bytes (by lia) ⟨.int _,H,I.tok _,⟨_,rfl⟩,q⟩
 | ref p=>
  cases rx
  have e':(∃ xs,SqL X.K H p xs/\n=xs.length)\/∃ xs,SqT X.K H p xs/\n=xs.length:=e
  rcases e' with ⟨xs,hx,e'⟩ | ⟨xs,hx,e'⟩
  ·subst e'
   obtain ⟨its,r',pl,hz⟩:=I.list hx
   have hlen:=r'.length
   exact Calls.call_len_list pl.isList (by simp only[List.size_toArray];lia) ⟨.int xs.length,H,I.tok _,⟨_,by simp only[List.size_toArray];rw[hlen]⟩,q⟩
  ·subst e'
   obtain ⟨its,r',pl,hz⟩:=I.tuple hx
   have hlen:=r'.length
   exact len_tuple pl (by simp only[List.size_toArray];lia) ⟨.int xs.length,H,I.tok _,⟨_,by simp only[List.size_toArray];rw[hlen]⟩,q⟩
 | _=>exact (show False from e).elim
end
structure ObjM (h:Heap) (x dx C:Addr) (mA:Str->Option Value):Prop where
 obj:h.get? x=some (PySem.W.instObj C dx)
 ns:h.Ns1 dx mA
 ne:dx≠x
theorem Sk {h:Heap} {dx:Addr} {mA:Str->Option Value} (n:h.Ns1 dx mA):∃ od,h.get? dx=some od/\∀ name,PySem.W.lookIn name od=some (mA name):=by
 obtain ⟨o,es,ep,ho,hd,hk,_,hm⟩:=n
 refine ⟨o,ho,fun name=>?_⟩
 have e:=hm name
 unfold nsFind findBy at e
 rw[<-Array.find?_toList] at e
 unfold PySem.W.lookIn
 rw[hd]
 dsimp only
 split
 ·rename_i y q
  rw[q] at e
  exact congrArg some e
 ·rename_i q
  rw[q] at e
  have a:es.toList.any (·.refKey)=false:=by
   rw[List.any_eq_false]
   intro y hy
   obtain ⟨z,t,hkey⟩:=hk y (Array.mem_toList_iff.mp hy)
   simp[DictEntry.refKey,hkey]
  have a':¬es.toList.any (·.refKey)=true:=by rw[a];exact Bool.false_ne_true
  rw[if_neg a']
  exact congrArg some e
theorem ObjM.look {h:Heap} {x dx C:Addr} {mA:Str->Option Value} (I:ObjM h x dx C mA):∃ od,PySem.W.InstAt h x (PySem.W.instObj C dx) C (some od)/\∀ name,PySem.W.lookIn name od=some (mA name):=
 let ⟨od,ho,hl⟩:=Sk I.ns
 ⟨od,⟨I.obj,rfl,rfl,ho⟩,hl⟩
section
variable {prog:Program} {w:World} {A:Around} {E:Value->Shared->Prop} {s:Shared} {K:PySem.W.Frag} {x dx C f:Addr} {mA:Str->Option Value} {name:Str} {v:Value}
end
section
variable {P:Program} {w:World} {H H':Hp} {h h':Heap} {a C dx:Addr} {fs fs':List (Str×V)}
theorem PN (hok:HOk P w H h) (e:H a=some (.ins C dx fs)):∃ mA,ObjM h a dx C mA/\(∀ f,Ih (fs.lookup f) (mA f))/\PySem.Within mA (fs.map (·.1))/\fs.length<=1000/\H dx=some (.own a):=by
 obtain ⟨d,z,ne,ob,mA,n,r,q⟩:=(show ObjOk P w H h a (.ins C dx fs) from hok a _ e)
 exact ⟨mA,⟨ob,n,ne⟩,r,q,z,d⟩
end
structure Cls (K:PySem.W.Frag) (C:Addr):Prop where
 pg:PySem.W.plainGet K C Str.empty=true
 hd:PySem.W.hasDictIn K C=true
 po:PySem.W.plainOver K C=true
 sa:PySem.W.findIn K (.ref C) "__setattr__"=some (some (.builtin "object.__setattr__"))
theorem Cls.get {K:PySem.W.Frag} {C:Addr} (c:Cls K C) (f:Str):PySem.W.plainGet K C f=true:=c.pg
structure Con (K:PySem.W.Frag) (C:Addr) (f:Str) (v:V) (u:Value):Prop where
 at_:PySem.W.findIn K (.ref C) f=some (some u)
 rel:RelV v u
 get:PySem.W.specialIn K u "__get__"=some none
 cp:PySem.W.copiedNames.contains f=false
structure Meth (K:PySem.W.Frag) (C:Addr) (m:Str) (f:Addr):Prop where
 at_:PySem.W.findIn K (.ref C) m=some (some (.ref f))
 fn:PySem.W.isFn K (.ref f)=true
 kp:PySem.W.keepIn K (.ref f)=true
section
variable {X:Cx} {pins:List (Addr×Obj)} {σ:St} {H:Hp} {s:Shared} {a C dx:Addr} {fs:List (Str×V)} {f:Str} {v:V} {A:Around} {E:Value->Shared->Prop}
end
section
variable {X:Cx} {o e value:Expr} {f:Str} {pos pos' tpos:Pos} {ta tv:TE}
end
section
variable {X:Cx} {pins:List (Addr×Obj)} {σ:St} {H:Hp} {s:Shared} {A:Around} {E:Value->Shared->Prop} {Q:Value->Shared->Prop} {c:Value} {b:Bool}
inductive TyOf (K:PySem.W.Frag) (H:Hp):V->Value->Prop where
 | non:TyOf K H .non (.type "NoneType")
 | bl (x:Bool):TyOf K H (.bl x) (.type "bool")
 | int (i:Int):TyOf K H (.int i) (.type "int")
 | str (x:Str):TyOf K H (.str x) (.type "str")
 | flt (x:UInt64):TyOf K H (.flt x) (.type "float")
 | lst {a:Addr} {xs:List V} (e:H a=some (.lst xs)):TyOf K H (.ref a) (.type "list")
 | frz {a:Addr} {o:Obj} {xs:List V} (e:H a=some (.frz o (.lst xs))):TyOf K H (.ref a) (.type "list")
 | tup {a:Addr} {xs:List V} (e:H a=some (.tup xs)):TyOf K H (.ref a) (.type "tuple")
 | dK {a:Addr} {kvs:List (Key×V)} (e:H a=some (.dK kvs)):TyOf K H (.ref a) (.type "dict")
 | dT {a:Addr} {kvs:List (List Key×V)} (e:H a=some (.dT kvs)):TyOf K H (.ref a) (.type "dict")
 | ins {a C dx:Addr} {fs:List (Str×V)} (e:H a=some (.ins C dx fs)) (cl:Cls K C) (ha:PySem.W.findIn K (.ref C) "__class__"=some (some (.builtin "object.__class__")))
   (hn:PySem.W.specialIn K (.builtin "object.__class__") "__get__"=some (some (.builtin "getset_descriptor.__get__"))) (htk:PySem.W.takesIn K (.builtin "object.__class__")=some true)
   (hm:PySem.W.mroIn K C (.type "object")=some true):TyOf K H (.ref a) (.ref C)
theorem Tj {x:V} {u t:Value} (I:Inv X pins σ H s) (rx:RelV x u) (ty:TyOf X.K H x t) (e:PySem.W.kitOne X.K t c=some b) (h:∀ tk,Q (.bool b) {s with toks:=tk}) :
  wpAny (model X.prog X.w) A (call (.builtin "isinstance") [u,c]) Q E s:=by
 cases ty with
 | non=>cases (show u=Value.none from rx);exact PySem.W.kia_one PySem.W.kitx_none I.kIn True.intro e (fun z=>nomatch z) h
 | bl y=>cases (show u=Value.bool y from rx);exact PySem.W.kia_one PySem.W.kitx_bool I.kIn True.intro e (fun z=>nomatch z) h
 | int i=>obtain ⟨t,q⟩:=(show ∃ t,u=Value.int i t from rx);cases q;exact PySem.W.kia_one PySem.W.kitx_int I.kIn True.intro e (fun z=>nomatch z) h
 | str y=>obtain ⟨t,q⟩:=(show ∃ t,u=Value.str y t from rx);cases q;exact PySem.W.kia_one PySem.W.kitx_str I.kIn True.intro e (fun z=>nomatch z) h
 | flt y=>obtain ⟨t,q⟩:=(show ∃ t,u=Value.float y t from rx);cases q;exact PySem.W.kia_one PySem.W.kitx_float I.kIn True.intro e (fun z=>nomatch z) h
 | @lst a xs ea=>
  cases (show u=Value.ref a from rx)
  obtain ⟨_,_,n,_,h1⟩:=(show ObjOk X.prog X.w H s.heap a (.lst xs) from I.hok a _ ea)
  exact PySem.W.kia_one PySem.W.kitx_list I.kIn ⟨_,h1,rfl⟩ e (fun z=>nomatch z) h
 | @frz a ob xs ea=>
  cases (show u=Value.ref a from rx)
  obtain ⟨_,_,_,n,_,h1⟩:=(show ObjOk X.prog X.w H s.heap a (.frz ob (.lst xs)) from I.hok a _ ea)
  exact PySem.W.kia_one PySem.W.kitx_list I.kIn ⟨_,h1,rfl⟩ e (fun z=>nomatch z) h
 | @tup a xs ea=>
  cases (show u=Value.ref a from rx)
  obtain ⟨_,_,_,p⟩:=(show ObjOk X.prog X.w H s.heap a (.tup xs) from I.hok a _ ea)
  obtain ⟨o,h1,h2,_⟩:=p
  exact PySem.W.kia_one PySem.W.kitx_tuple I.kIn ⟨o,h1,h2⟩ e (fun z=>nomatch z) h
 | @dK a kvs ea=>
  cases (show u=Value.ref a from rx)
  obtain ⟨_,_,vs,_,p⟩:=(show ObjOk X.prog X.w H s.heap a (.dK kvs) from I.hok a _ ea)
  obtain ⟨o,es,ep,h1,h2,_⟩:=p
  exact PySem.W.kia_one PySem.W.kitx_dict I.kIn ⟨o,h1,h2.1⟩ e (fun z=>nomatch z) h
 | @dT a kvs ea=>
  cases (show u=Value.ref a from rx)
  obtain ⟨_,_,xs,_,o,es,ep,h1,h2,_⟩:=(show ObjOk X.prog X.w H s.heap a (.dT kvs) from I.hok a _ ea)
  exact PySem.W.kia_one PySem.W.kitx_dict I.kIn ⟨o,h1,h2.1⟩ e (fun z=>nomatch z) h
 | @ins a C dx fs ea cl ha hn htk hm=>
  cases (show u=Value.ref a from rx)
  obtain ⟨mA,O,_⟩:=PN I.hok ea
  obtain ⟨od,J,_⟩:=O.look
  exact PySem.W.kia_one (PySem.W.kitx_own (cl.get _) cl.hd ha hn htk hm) I.kIn J e (fun z=>nomatch z) h
end
structure Room (k:Nat) (A:Around):Prop where
 hd:A.handled=none
 dp:A.depth+3 * k+5<recursionLimit
 un:A.units+16 * k+200<cLine
theorem Room.mono {j k:Nat} {A:Around} (r:Room k A) (h:j<=k):Room j A:=⟨r.hd,by have:=r.dp;lia,by have:=r.un;lia⟩
theorem Room.deeper {k:Nat} {A:Around} (r:Room (k+1) A) (env:Env):Room k (A.deeper env):=
 ⟨r.hd,by have:=r.dp;show A.depth+1+3 * k+5<_;lia,by have:=r.un;show A.units+3+16 * k+200<_;lia⟩
theorem Room.depth {k:Nat} {A:Around} (r:Room k A):A.depth<recursionLimit:=by have:=r.dp;lia
theorem Room.units {k:Nat} {A:Around} (r:Room k A):A.units+64<cLine:=by have:=r.un;lia
theorem Room.units0 {k:Nat} {A:Around} (r:Room k A):A.units<cLine:=by have:=r.un;lia
def Ds:TA:=fun _ H Q=>Q [] H
def Nq (ta:TE) (tr:TA):TA:=fun σ H Q=>ta σ H fun x H1=>tr σ H1 fun xs H2=>Q (x::xs) H2
section
variable {X:Cx} {e:Expr} {es:List Expr} {te:TE} {t:TA} {pos:Pos}
theorem BS:PA X [] Ds:=fun _ _ _ _ H Q I h=>Calls.spliced_nil ⟨[],H,I,.nil,h⟩
theorem Az (ha:PE X e te) (hr:PA X es t) (hs:starEach (e::es) X.env=(false,eval e X.env)::starEach es X.env:=by rfl):PA X (e::es) (Nq te t):=by
 intro pos pins s σ H Q I h
 rw[hs]
 show wpAny _ _ (spliced ((false,eval e X.env)::backTo pos (starEach es X.env))) _ _ s
 refine Calls.spliced_cons (thn (ha pins s σ H _ I h) fun u s1 hh_=>?_)
 obtain ⟨x,H1,I1,r1,q1⟩:=hh_
 exact thn (hr pos pins s1 σ H1 _ I1 q1) fun us s2 ⟨xs,H2,I2,r2,q2⟩=>⟨x::xs,H2,I2,.cons r1 r2,q2⟩
def TF (t:TA):TE:=fun σ H Q=>t σ H fun xs H1=>xs.length<=sizeLine/\∀ p,H1 p=none->Q (.ref p) (upd H1 p (.tup xs))
def Qo (t:TA):TE:=fun σ H Q=>t σ H fun xs H1=>xs.length<=sizeLine/\∀ p,H1 p=none->Q (.ref p) (upd H1 p (.lst xs))
theorem Gp {x1} (h:PA X es t):PE X (.Tuple es x1 pos) (TF t):=by
 intro pins s σ H Q I hq
 refine wpAny_Tuple_spliced (thn (h pos pins s σ H _ I hq) fun us s1 ⟨xs,H1,I1,r,z,q⟩=>⟨by rw[<-r.length];exact z,?_⟩)
 have hf:H1 s1.heap.objs.size=none:=I1.hok.fresh (Nat.le_refl _)
 refine ⟨.ref s1.heap.objs.size,upd H1 s1.heap.objs.size (.tup xs),I1.laid (t':=s1.toks) (fun b u e=>Heap.get?_push_of_some _ e) (Nat.le_refl _) ?_,rfl,q _ hf⟩
 exact ⟨z,us,r,⟨_,Heap.get?_push_size _ rfl,rfl,_,rfl⟩⟩
theorem Ki (h:PA X es t):PE X (.List es pos) (Qo t):=by
 intro pins s σ H Q I hq
 refine wpAny_List_spliced (thn (h pos pins s σ H _ I hq) fun us s1 ⟨xs,H1,I1,r,z,q⟩=>⟨by rw[<-r.length];exact z,?_⟩)
 have hf:H1 s1.heap.objs.size=none:=I1.hok.fresh (Nat.le_refl _)
 refine ⟨.ref s1.heap.objs.size,upd H1 s1.heap.objs.size (.lst xs),I1.laid (t':=s1.toks) (fun b u e=>Heap.get?_push_of_some _ e) (Nat.le_refl _) ?_,rfl,q _ hf⟩
 exact ⟨z,us,0,r,Heap.get?_push_size _ rfl⟩
end
abbrev Sp:=List V->Hp->VK->XK->Prop
abbrev CXT:=List Env->Hp->Shared->XK->Value->Shared->Prop
structure Env0 (P:Program) (w:World) (K:PySem.W.Frag) (mg:Str->Option Value) (base:Heap) (A:Around) (outer:List Env) (s:Shared) (H:Hp):Prop where
 frames:A.frames=some outer
 mod:Mod K mg base
 bs:∀ b o,base.get? b=some o->s.heap.get? b=some o/\H b=none
 bsz:base.objs.size<=s.heap.objs.size
 funs:s.heap.FunFrames base outer
 frf:∀ b∈frs outer,H b=none
 hok:HOk P w H s.heap
 bare:AllBare s.gens
def CE (outer:List Env) (P:Program) (w:World) (H:Hp) (s:Shared) (Q:VK) (u:Value) (s':Shared):Prop:=
 ∃ v H',s'.os=s.os/\AllBare s'.gens/\Un (frs outer) [] H H' s.heap s'.heap/\HOk P w H' s'.heap/\RelV v u/\Q v H'
def CR (CX:CXT) (outer:List Env) (P:Program) (w:World) (H:Hp) (s:Shared) (Q:VK) (E:XK) (r:Result) (s':Shared):Prop:=
 match r with
 | .ok (.ret u)=>CE outer P w H s Q u s'
 | .ok _=>False
 | .error e=>CX outer H s E e s'
structure FnOk (P:Program) (w:World) (K:PySem.W.Frag) (mg:Str->Option Value) (base:Heap) (CX:CXT) (k:Nat) (f:Addr) (fd:FuncData) (ps:List Str) (sp:Sp):Prop where
 len:∀ vs H Q E,sp vs H Q E->vs.length=ps.length
 run:∀ (A:Around) (outer:List Env) (s:Shared) (H:Hp) (args:Args) (us:List Value) (vs:List V) (Q:VK) (E:XK),Room k A->Env0 P w K mg base A outer s H->BindsTo s fd args (ps.zip us)->Vals vs us->sp vs H Q E ->
  codeAny (model P w) A (.call (.ref f) args) (CR CX outer P w H s Q E) s
section
variable {X:Cx} {pins:List (Addr×Obj)} {σ:St} {H:Hp} {s s':Shared}
theorem Inv.env0 (I:Inv X pins σ H s):Env0 X.prog X.w X.K X.mg X.base X.A X.stack s H:=
 ⟨I.ok.frames,I.ok.mod,I.bs,Nat.le_trans I.ok.bsz I.sz,I.stack,I.stkFree,I.hok,I.bare⟩
theorem Inv.after {Q:VK} {u:Value} (I:Inv X pins σ H s) (h:CE X.stack X.prog X.w H s Q u s'):EP X pins σ Q u s':=by
 obtain ⟨v,H',os,bare,un,hok,r,q⟩:=h
 obtain ⟨hh,g,d,t,os'⟩:=s'
 obtain rfl:os'=s.os:=os
 exact ⟨v,H',I.call (h':=hh) (g':=g) (d':=d) (t':=t) (ch:=[]) un hok bare (fun b z=>absurd z (by simp)),r,q⟩
end
def OM (sp:Sp) (dvs:List V) (E:XK) (t:TA):TE:=fun σ H Q=>t σ H fun vs H1=>sp (vs++dvs) H1 Q E
def Binds (K:PySem.W.Frag) (fd:FuncData) (ps:List Str) (ds:List Value):Prop:=
 ∀ (s:Shared) (us:List Value),K.In s.heap->(us++ds).length=ps.length->BindsTo s fd ⟨us,[]⟩ (ps.zip (us++ds))
theorem Binds.all {K:PySem.W.Frag} {fd:FuncData} {ps:List Str} (h:∀ us:List Value,us.length=ps.length->bindArgs fd ⟨us,[]⟩=pure (ps.zip us)):Binds K fd ps []:=fun s us _ hl=>by
 rw[List.append_nil] at hl ⊢
 exact .of_eq (h us hl)
def ID (CX:CXT) (X:Cx) (E:XK):Prop:=∀ (pins:List (Addr×Obj)) (σ:St) (H:Hp) (s:Shared) (e:Value) (s':Shared),Inv X pins σ H s->CX X.stack H s E e s'->X.xe e s'
section
variable {X:Cx} {CX:CXT} {k:Nat} {f C:Addr} {fd:FuncData} {ps:List Str} {sp:Sp} {dvs:List V} {ds:List Value} {E:XK} {x m:Str} {p pos apos:Pos} {e o:Expr} {es:List Expr} {ta:TE} {t:TA}
theorem Oy {pins:List (Addr×Obj)} {σ:St} {H:Hp} {s:Shared} {Q:VK} {us:List Value} {vs:List V} (F:FnOk X.prog X.w X.K X.mg X.base CX k f fd ps sp) (hr:Room k X.A) (hb:Binds X.K fd ps ds) (hd:Vals dvs ds) (hx:ID CX X E)
  (I:Inv X pins σ H s) (r:Vals vs us) (h:sp (vs++dvs) H Q E):wpAny (model X.prog X.w) X.A (call (.ref f) us) (EP X pins σ Q) X.xe s:=by
 have r2:Vals (vs++dvs) (us++ds):=r.append hd
 have hl:(us++ds).length=ps.length:=by rw[<-r2.length];exact F.len _ _ _ _ h
 refine wpAny_call (codeAny_mono (F.run X.A X.stack s H ⟨us,[]⟩ (us++ds) (vs++dvs) Q E hr I.env0 (hb s us I.kIn hl) r2 h) fun r s' hq=>?_)
 cases r with
 | error e=>exact hx pins σ H s e s' I hq
 | ok fl=>
  cases fl with
  | ret u=>exact I.after hq
  | next=>exact False.elim hq
  | brk=>exact False.elim hq
  | cont=>exact False.elim hq
theorem EL (F:FnOk X.prog X.w X.K X.mg X.base CX k f fd ps sp) (hr:Room k X.A) (hg:Gl X x) (hm:X.mg x=some (.ref f)) (hk:PySem.W.keepIn X.K (.ref f)=true) (hb:Binds X.K fd ps ds) (hd:Vals dvs ds) (hx:ID CX X E)
  (ha:PA X (e::es) t) (hdb:(x == ("__debug__":Str))=false:=by decide) (he:starEach (e::es) X.env=(false,eval e X.env)::starEach es X.env:=by rfl) (hpl:(backTo pos (starEach es X.env)).any (·.1)=false:=by rfl) :
  PE X (.Call (.Name x p) (e::es) [] pos) (OM sp dvs E t):=by
 intro pins s σ H Q I h
 refine wpAny_Call_Name_kw (LM I hg hm ?_ hdb)
 refine PySem.W.callWith_K (h₀:=X.base) I.ok.mod.kin hk (thn (ha pos pins s σ H _ I h) fun us s1 ⟨vs,H1,I1,r,q⟩=>⟨I1.kIn,?_⟩) he hpl
 exact Oy F hr hb hd hx I1 r q
structure Mk (K:PySem.W.Frag) (C f:Addr):Prop where
 makes:PySem.W.makesIn K C=true
 init:PySem.W.findIn K (.ref C) "__init__"=some (some (.ref f))
 fn:PySem.W.isFn K (.ref f)=true
 kp:PySem.W.keepIn K (.ref C)=true
end
section
variable {X:Cx} {CX:CXT} {k:Nat} {f C:Addr} {fd:FuncData} {ps ks:List Str} {sp:Sp} {E:XK} {x m:Str} {p pos apos kpos:Pos} {e o:Expr} {es:List Expr} {kws:List Keyword} {te ta:TE} {t tk:TA} {nm:Option Str}
structure KBinds (K:PySem.W.Frag) (fd:FuncData) (ps ks:List Str) (g:List Value->List Value->List Value) (gV:List V->List V->List V):Prop where
 to:∀ (s:Shared) (us ws:List Value),K.In s.heap->(g us ws).length=ps.length->BindsTo s fd ⟨us,ks.zip ws⟩ (ps.zip (g us ws))
 rel:∀ {vs:List V} {us:List Value} {zs:List V} {ws:List Value},Vals vs us->Vals zs ws->Vals (gV vs zs) (g us ws)
variable {g:List Value->List Value->List Value} {gV:List V->List V->List V}
end
structure FnScope (N P:List Str) (sc:Scope):Prop where
 kind:sc.kind=.function
 co:sc.isCoroutine=false
 gen:sc.isGenerator=false
 nd:N.Nodup
 pre:N.take P.length=P
 par:∀ x∈P,sc.names.lookup x=some .local\/sc.names.lookup x=some .cell
 nofree:∀ y∈sc.names,y.2≠.free
theorem Nu {kindOf:Str->Option NameKind} {x:Str}:∀ {binds:List (Str×Value)} {m:Str->Option Value},(∀ v,(x,v)∉binds)->bindL kindOf binds m x=m x
 | [],_,_=>rfl
 | (n,v)::r,m,h=>by
  unfold bindL
  rw[Nu fun w hw=>h w (List.mem_cons_of_mem _ hw)]
  split
  ·have:x≠n:=by rintro rfl;exact h v List.mem_cons_self
   simp[this]
  ·rfl
theorem LZ {kindOf:Str->Option NameKind} {x:Str}:∀ {binds:List (Str×Value)} {m:Str->Option Value},(∀ v,(x,v)∉binds)->bindC kindOf binds m x=m x
 | [],_,_=>rfl
 | (n,v)::r,m,h=>by
  unfold bindC
  rw[LZ fun w hw=>h w (List.mem_cons_of_mem _ hw)]
  split
  ·rfl
  ·have:x≠n:=by rintro rfl;exact h v List.mem_cons_self
   simp[this]
theorem L0 {kindOf:Str->Option NameKind} {x:Str} {v:Value}:∀ {P:List Str} {vs:List Value} {i:Nat} {m:Str->Option Value},P.Nodup->P[i]?=some x->vs[i]?=some v->kindOf x=some .local ->
  bindL kindOf (P.zip vs) m x=some v
 | [],_,_,_,_,h,_,_=>by simp at h
 | _::_,[],_,_,_,_,h,_=>by simp at h
 | p::P,w::vs,0,m,nd,h1,h2,hk=>by
  simp at h1 h2;subst h1;subst h2
  show bindL kindOf ((p,w)::P.zip vs) m p=_
  unfold bindL
  rw[Nu fun v hv=>(List.nodup_cons.mp nd).1 (List.of_mem_zip hv).1,if_pos hk]
  simp
 | p::P,w::vs,i+1,m,nd,h1,h2,hk=>by
  show bindL kindOf ((p,w)::P.zip vs) m x=_
  unfold bindL
  exact L0 (i:=i) (List.nodup_cons.mp nd).2 (by simpa using h1) (by simpa using h2) hk
theorem L8 {kindOf:Str->Option NameKind} {x:Str} {v:Value}:∀ {P:List Str} {vs:List Value} {i:Nat} {m:Str->Option Value},P.Nodup->P[i]?=some x->vs[i]?=some v->kindOf x≠some .local ->
  bindC kindOf (P.zip vs) m x=some v
 | [],_,_,_,_,h,_,_=>by simp at h
 | _::_,[],_,_,_,_,h,_=>by simp at h
 | p::P,w::vs,0,m,nd,h1,h2,hk=>by
  simp at h1 h2;subst h1;subst h2
  show bindC kindOf ((p,w)::P.zip vs) m p=_
  unfold bindC
  rw[LZ fun v hv=>(List.nodup_cons.mp nd).1 (List.of_mem_zip hv).1,if_neg hk]
  simp
 | p::P,w::vs,i+1,m,nd,h1,h2,hk=>by
  show bindC kindOf ((p,w)::P.zip vs) m x=_
  unfold bindC
  exact L8 (i:=i) (List.nodup_cons.mp nd).2 (by simpa using h1) (by simpa using h2) hk
def start (N:List Str) (vs:List V):St:=vs.map some++List.replicate (N.length - vs.length) none
def DQ (CX:CXT) (P:Program) (w:World) (K:PySem.W.Frag) (mg:Str->Option Value) (base:Heap) (N:List Str) (qual:Str) (scope:Scope) (f:Addr) (cd:Value) (A:Around) (outer:List Env) (s:Shared) (H:Hp) (E:XK):Cx where
 prog:=P
 w:=w
 K:=K
 mg:=mg
 base:=base
 A:=A.deeper (envOfC qual scope s.heap.objs.size f cd)
 N:=N
 s₀:=s
 H₀:=H
 env:=envOfC qual scope s.heap.objs.size f cd
 outer:=outer
 stack:=envOfC qual scope s.heap.objs.size f cd::outer
 ex:=[]
 calm:=true
 fn:=fun _=>true
 pn:=[]
 xe:=fun e s'=>wpAny (model P w) (A.deeper (envOfC qual scope s.heap.objs.size f cd)) (leaving (envOfC qual scope s.heap.objs.size f cd) e) (fun _ s''=>CX outer H s E e s'') (fun e' s''=>CX outer H s E e' s'') s'
theorem KZ {sc:Scope} {n:Nat} {x:Str} (h:sc.names.lookup x=some .cell):∃ c,(cellsFrom n sc.names []).lookup x=some c:=by
 have q:=PySem.W.cellsFrom_some sc.names n [] (.inl h)
 exact Option.isSome_iff_exists.mp q
theorem V9 {CX:CXT} {P:Program} {w:World} {K:PySem.W.Frag} {mg:Str->Option Value} {base:Heap} {N ps:List Str} {qual:Str} {scope:Scope} {f:Addr} {cd:Value} {A:Around} {outer:List Env} {s s1:Shared} {H:Hp} {E:XK} {us:List Value} {vs:List V}
  (S:FnScope N ps scope) (hd:A.handled=none) (e0:Env0 P w K mg base A outer s H) (hl:vs.length=ps.length) (r:Vals vs us)
  (x:InCallC s s.heap.objs.size (bindL (envOfC qual scope s.heap.objs.size f cd).kindOf (ps.zip us) fun _=>none) (cellsFrom (s.heap.objs.size+1) scope.names []) (bindC (envOfC qual scope s.heap.objs.size f cd).kindOf (ps.zip us) fun _=>none) s1) :
  Inv (DQ CX P w K mg base N qual scope f cd A outer s H E) [] (start N vs) H s1:=by
 have hpl:ps.length<=N.length:=by have:=congrArg List.length S.pre;rw[List.length_take] at this;lia
 obtain ⟨h1,tk,rfl,hk⟩:=x.done
 have noA:∀ b:Addr,b∉(DQ CX P w K mg base N qual scope f cd A outer s H E).ex:=fun b z=>absurd (show b∈([]:List Addr) from z) (by simp)
 refine ⟨⟨e0.mod,S.kind,rfl,rfl,Nat.le_refl _,fun y z c h1 h2=>?_,fun y hy=>?_,fun y c _ h=>?_,fun _=>hd,Around.frames_deeper e0.frames,.inr ⟨rfl,rfl⟩,fun b z=>absurd z (noA b),e0.bs,e0.bsz,fun b _ _=>noA b,fun b z=>absurd z (noA b),e0.funs,e0.frf⟩,
  rfl,e0.bare,Un.kept hk,⟨_,x.toInCall.ns,fun i y v h1 h2 h3=>?_⟩,fun y c h=>⟨_,x.cell y c h⟩,e0.hok.fresh (Nat.le_refl _),fun y c h=>?_,fun p hp=>absurd (show p∈([]:List (Addr×Obj)) from hp) (by simp),e0.hok.kept hk,?_⟩
 ·exact name_of_addr x.apart (PySem.mem_of_lookup h1) (PySem.mem_of_lookup h2)
 ·have hy:scope.names.lookup y=some .cell\/scope.names.lookup y=some .free:=hy
  rcases hy with hy | hy
  ·exact KZ hy
  ·exact absurd rfl (S.nofree _ (PySem.mem_of_lookup hy))
 ·exact Nat.le_of_lt (x.above y c (PySem.mem_of_lookup h))
 ·have hi:i<vs.length:=by
   unfold start at h2
   by_cases hi:i<vs.length
   ·exact hi
   ·rw[List.getElem?_append_right (by simpa using hi)] at h2
    rw[List.getElem?_replicate] at h2
    split at h2<;>cases h2
  have ha:vs[i]?=some v:=by
   unfold start at h2
   rw[List.getElem?_append_left (by simpa using hi),List.getElem?_map] at h2
   cases e:vs[i]? with
   | none=>rw[e] at h2;cases h2
   | some a=>rw[e] at h2;cases h2;rfl
  obtain ⟨u,hu,rv⟩:=r.get ha
  have hp:ps[i]?=some y:=by
   rw[<-S.pre,List.getElem?_take_of_lt (by lia)];exact h1
  have ndP:ps.Nodup:=by rw[<-S.pre];exact S.nd.sublist (List.take_sublist _ _)
  refine ⟨u,rv,?_⟩
  rcases S.par y (List.mem_of_getElem? hp) with k | k
  ·exact .inl ⟨k,L0 ndP hp hu k⟩
  ·obtain ⟨c,e⟩:=KZ (n:=s.heap.objs.size+1) k
   refine .inr ⟨.inl k,c,e,?_⟩
   have q:=x.cell y c e
   rw[L8 ndP hp hu (by show scope.names.lookup y≠_;rw[k];decide)] at q
   exact q
 ·exact e0.hok.fresh (Nat.le_of_lt (x.above y c (PySem.mem_of_lookup h)))
 ·unfold start
  show _=N.length
  rw[List.length_append,List.length_map,List.length_replicate]
  lia
theorem UA {CX:CXT} {P:Program} {w:World} {K:PySem.W.Frag} {mg:Str->Option Value} {base:Heap} {k:Nat} {f:Addr} {name qual:Str} {params:Arguments} {body:List Stmt} {scope:Scope} {dV kV doc pm cdv ct oc:Value} {an od:Option Addr}
  {osl:Array (Option Value)} {N ps:List Str} {sp:Sp} (lk:K.lookup f=some ⟨oc,od,.func (PySem.W.fnOf name qual params body scope dV kV doc pm an cdv ct),osl⟩) (hcd:PySem.W.codeIn K cdv qual=true) (S:FnScope N ps scope)
  (len:∀ vs H Q E,sp vs H Q E->vs.length=ps.length)
  (hbody:∀ (A:Around) (outer:List Env) (s:Shared) (H:Hp) (vs:List V) (Q:VK) (E:XK),Room k (A.deeper (envOfC qual scope s.heap.objs.size f cdv))->sp vs H Q E ->
   ∃ t,PSs (DQ CX P w K mg base N qual scope f cdv A outer s H E) body t/\t {nx:=fun _ H'=>Q .non H',rt:=Q} (start N vs) H) :
  FnOk P w K mg base CX (k+1) f (PySem.W.fnOf name qual params body scope dV kV doc pm an cdv ct) ps sp:=by
 refine ⟨len,fun A outer s H args us vs Q E hr e0 hb r hsp=>?_⟩
 have hl:=len _ _ _ _ hsp
 have KX:K.In s.heap:=e0.mod.kin.keeps fun b o e=>(e0.bs b o e).1
 have lim:s.heap.NoLimit:=e0.mod.nolimit.keeps fun b o e=>(e0.bs b o e).1
 have hkind:∀ y∈ps.zip us,scope.names.lookup y.1=some .local\/(scope.names.lookup y.1=some .cell/\((cellsFrom (s.heap.objs.size+1) scope.names []).lookup y.1).isSome=true):=fun ⟨n,v⟩ hy=>by
  rcases S.par n (List.of_mem_zip hy).1 with q | q
  ·exact .inl q
  ·exact .inr ⟨q,PySem.W.cellsFrom_some _ _ _ (.inl q)⟩
 refine codeAny_call_function hr.depth (KX _ _ lk) rfl S.co S.gen rfl (PySem.W.codeRec_of KX hcd) (hb _ _ _ _ ?_)
 refine wpAny_newFunctionEnv_cells S.kind hkind fun env he s1 x=>?_
 subst he
 refine ⟨lim.keeps x.toInCall.keep,codeAny_func ?_⟩
 obtain ⟨t,ht,hq⟩:=hbody A outer s H vs Q E (hr.deeper _) hsp
 have I:Inv (DQ CX P w K mg base N qual scope f cdv A outer s H E) [] (start N vs) H s1:=V9 S hr.hd e0 hl r x
 refine wpAny_mono (ht [] s1 (start N vs) H _ I hq) (fun fl s' hs=>?_) fun e s' hs=>hs
 have fin:∀ {σ':St} {H':Hp} {v:V} {u:Value},Inv (DQ CX P w K mg base N qual scope f cdv A outer s H E) [] σ' H' s'->RelV v u->Q v H'->CE outer P w H s Q u s':=
  fun {σ' H' v u} J rv q=>⟨v,H',J.os,J.bare,J.base,J.hok,rv,q⟩
 cases fl with
 | ret u=>
  obtain ⟨v,σ',H',J,rv,q⟩:=hs
  exact fin J rv q
 | next=>
  obtain ⟨σ',H',J,q⟩:=hs
  exact fin (v:=V.non) (u:=Value.none) J rfl q
 | brk=>
  obtain ⟨_,_,_,q⟩:=hs
  exact False.elim q
 | cont=>
  obtain ⟨_,_,_,q⟩:=hs
  exact False.elim q
section
variable {X:Cx} {x:Str} {p pos:Pos} {e:Expr} {es:List Expr} {t:TA} {id T:String} {r:List V->Hp->VK->Prop}
def tCB (r:List V->Hp->VK->Prop) (t:TA):TE:=fun σ H Q=>t σ H fun vs H1=>r vs H1 Q
theorem DX (hc:CallR X (.builtin id) r) (hg:Gl X x) (hm:X.mg x=none) (hv:bootBuiltins x=some (.builtin id)) (ha:PA X (e::es) t) (hn:x≠"__name__":=by decide) (hdb:(x == ("__debug__":Str))=false:=by decide)
  (he:starEach (e::es) X.env=(false,eval e X.env)::starEach es X.env:=by rfl) (hpl:(backTo pos (starEach es X.env)).any (·.1)=false:=by rfl):PE X (.Call (.Name x p) (e::es) [] pos) (tCB r t):=by
 intro pins s σ H Q I h
 refine wpAny_Call_Name_kw (D0 I hg hm hv ?_ hn hdb)
 exact PyProof.Rows.callWith_builtin1 (thn (ha pos pins s σ H _ I h) fun us s1 ⟨vs,H1,I1,r1,q1⟩=>hc pins s1 σ H1 vs us Q I1 r1 q1) he hpl
theorem JW (hc:CallR X (.type T) r) (hg:Gl X x) (hm:X.mg x=none) (hv:bootBuiltins x=some (.type T)) (ha:PA X (e::es) t) (hn:x≠"__name__":=by decide) (hdb:(x == ("__debug__":Str))=false:=by decide)
  (he:starEach (e::es) X.env=(false,eval e X.env)::starEach es X.env:=by rfl) (hpl:(backTo pos (starEach es X.env)).any (·.1)=false:=by rfl):PE X (.Call (.Name x p) (e::es) [] pos) (tCB r t):=by
 intro pins s σ H Q I h
 refine wpAny_Call_Name_kw (D0 I hg hm hv ?_ hn hdb)
 exact PyProof.Rows.callWith_type1 (thn (ha pos pins s σ H _ I h) fun us s1 ⟨vs,H1,I1,r1,q1⟩=>hc pins s1 σ H1 vs us Q I1 r1 q1) he hpl
end
end L2
namespace HT
open PySem PyProof.Rows
def lexLt:List Int->List Int->Bool
 | [],[]=>false
 | [],_::_=>true
 | _::_,[]=>false
 | x::xs,y::ys=>if x=y then lexLt xs ys else decide (x<y)
theorem C0 (x y:Int) (xs ys:List Int):lexLt (x::xs) (y::ys)=if x=y then lexLt xs ys else decide (x<y):=rfl
theorem JL:lexLt [] []=false:=rfl
theorem Iz (y:Int) (ys:List Int):lexLt [] (y::ys)=true:=rfl
theorem HS (x:Int) (xs:List Int):lexLt (x::xs) []=false:=rfl
theorem VR (A:Around) (s:Shared) (a:Int) (t:Tok) (c:Int) (u:Tok):∃ e,SeqAt.EqAt A s (.int a t) (.int c u) e/\(e=true↔a=c):=
 ⟨(a == c),SeqAt.EqAt.int_int a t c u,by simp⟩
theorem U3 (A:Around) (s:Shared) (a:Int) (t:Tok) (c:Int) (u:Tok) (prog:Program) (w:World) (E:Value->Shared->Prop) (Q:Value->Shared->Prop) (h:Q (.bool (decide (a<c))) s) :
  wpAny (model prog w) A (richCompare .Lt (.int a t) (.int c u)) Q E s:=
 (PyProof.Rows.lt_int h:wpAny (model prog w) A (compareOp .Lt (.int a t) (.int c u)) Q E s)
section
open PySem.SeqAt
open PySem.AutoSeq1 (wpAny_loadPart')
open PySem.MeetsSeq PySem.MeetsSeq2 PySem.MeetsSeq3
theorem Po (l b:Addr) (items items2:Array Value) (n n2:Nat) (dd dd2:Option Addr) (sl sl2:Array (Option Value)) (ns ms:List Int) (hi:IntsAre items.toList ns) (hj:IntsAre items2.toList ms) :
  Meets (Builtin.«tuple.__lt__» ⟨[.ref l,.ref b],[]⟩)
   (fun _ R s=>s.heap.get? l=some {cls:=.type "tuple",dict:=dd,data:=.seq items n,slots:=sl}/\s.heap.get? b=some {cls:=.type "tuple",dict:=dd2,data:=.seq items2 n2,slots:=sl2} /\
    R (.ok (.ret (.bool (lexLt ns ms)))) s):=
 .of_wp fun prog w A R s h=>by
  obtain ⟨hp,g,d,tk,os⟩:=s;obtain ⟨hl,hb,h⟩:=h
  have f2:=AutoSeq1.sub_tuple_tuple
  have z1:items.size=ns.length:=by rw[<-hi.length];simp
  have z2:items2.size=ms.length:=by rw[<-hj.length];simp
  wp_walk using wpAny_loadPart' hl,wpAny_loadPart' hb,wpAny_forIn_list _ (fun rest b s'=>b.1=none/\s'=⟨hp,g,d,tk,os⟩/\∃ (vs ws:List Value) (ns' ms':List Int),rest=vs.zip ws /\
   IntsAre vs ns'/\IntsAre ws ms'/\ns'.length+items2.size=ms'.length+items.size/\R (.ok (.ret (.bool (lexLt ns' ms')))) ⟨hp,g,d,tk,os⟩) _
  case turn=>
   rintro ⟨y,x⟩ rest b s' ⟨hb',rfl,vs,ws,ns',ms',hz,hvi,hwi,hlen,hR⟩
   cases hvi with
   | nil=>rw[List.zip_nil_left] at hz;cases hz
   | cons a t hvi'=>
    cases hwi with
    | nil=>rw[List.zip_nil_right] at hz;cases hz
    | cons c u hwi'=>
     rw[List.zip_cons_cons] at hz
     injection hz with hyx hrest
     injection hyx with hy hx
     subst hy hx
     rw[C0] at hR
     simp only[List.length_cons] at hlen
     obtain ⟨e,he,hiff⟩:=VR A.in1 ⟨hp,g,d,tk,os⟩ a t c u
     refine wpAny_bind (he prog w _ _ ?_)
     cases e with
     | true=>
      rw[if_pos (hiff.mp rfl)] at hR
      wp_walk
      exact ⟨rfl,rfl,_,_,_,_,hrest,hvi',hwi',by lia,hR⟩
     | false=>
      rw[if_neg (fun q=>absurd (hiff.mpr q) Bool.false_ne_true)] at hR
      have hri:=U3 A.in1 ⟨hp,g,d,tk,os⟩ a t c u prog w
      wp_walk using hri
      exact ⟨_,rfl,by simpa using hR⟩
  case fin=>
   rintro ⟨b1,b2⟩ s' ⟨hb',rfl,vs,ws,ns',ms',hz,hvi,hwi,hlen,hR⟩
   simp only at hb'
   subst hb'
   have hv:lexLt ns' ms'=decide (items.size<items2.size):=by
    cases hvi with
    | nil=>
     cases hwi with
     | nil=>
      simp only[List.length_nil] at hlen
      rw[JL]
      exact (decide_eq_false (by lia)).symm
     | cons c u hw=>
      simp only[List.length_nil,List.length_cons] at hlen
      rw[Iz]
      exact (decide_eq_true (by lia)).symm
    | cons a t hv=>
     cases hwi with
     | nil=>
      simp only[List.length_nil,List.length_cons] at hlen
      rw[HS]
      exact (decide_eq_false (by lia)).symm
     | cons c u hw=>
      rw[List.zip_cons_cons] at hz
      cases hz
   rw[hv] at hR
   wp_walk
   exact ⟨_,rfl,by simpa [Builtin.Tuple.tupleCompareSizes] using hR⟩
  case h=>
   exact ⟨rfl,rfl,items.toList,items2.toList,ns,ms,rfl,hi,hj,by lia,h⟩
end
section
variable {prog:Program} {w:World} {A:Around} {E:Value->Shared->Prop} {s:Shared}
theorem Qk {l b:Addr} {items items2:Array Value} {ns ms:List Int} {Q:Value->Shared->Prop} (hl:IsTup s.heap l items) (hb:IsTup s.heap b items2) (hi:IntsAre items.toList ns) (hj:IntsAre items2.toList ms)
  (hu:A.units<cLine) (h:Q (.bool (lexLt ns ms)) s):wpAny (model prog w) A (compareOp .Lt (.ref l) (.ref b)) Q E s:=by
 obtain ⟨⟨cls,dd,data,sl⟩,ho,hc,n,hd⟩:=id hl
 obtain ⟨⟨cls2,dd2,data2,sl2⟩,ho2,hc2,n2,hd2⟩:=id hb
 simp only at hc hd hc2 hd2
 subst hc hd hc2 hd2
 exact richCompare_meets_room (op:=.Lt) ⟨_,ho,rfl⟩ ⟨_,ho2,rfl⟩ PySem.F.slot_tuple_lt PySem.F.entry_tuple_lt (PySem.F.args_tuple_lt_2 _ _) (Po l b items items2 n n2 dd dd2 sl sl2 ns ms hi hj)
  ⟨ho,ho2,show Value.bool (lexLt ns ms)≠Value.notImplemented/\Q (.bool (lexLt ns ms)) s from ⟨(fun x=>nomatch x),h⟩⟩ hu
def sIx (n d:Nat):Option Int->Nat
 | none=>d
 | some v=>if v<0 then (v+(n:Int)).toNat else min v.toNat n
theorem Rw (n d:Nat):sIx n d none=d:=rfl
theorem N7 (n d k:Nat):sIx n d (some (k:Int))=min k n:=by
 show (if (k:Int)<0 then ((k:Int)+(n:Int)).toNat else min (k:Int).toNat n)=min k n
 rw[if_neg (by lia),Int.toNat_natCast]
end
end HT
namespace L2
open PySem PySem.Spec PyProof.Rows
abbrev TO:=St->Hp->(Option Int->Hp->Prop)->Prop
def PO (X:Cx) (e:Option Expr) (t:TO):Prop:=
 ∀ (pins:List (Addr×Obj)) (s:Shared) (σ:St) (H:Hp) (Q:Option Int->Hp->Prop),Inv X pins σ H s->t σ H Q ->
  wpAny (model X.prog X.w) X.A (evalPart e X.env) (fun u s'=>∃ o H',Inv X pins σ H' s'/\IsPart u o/\Q o H') X.xe s
def VH:TO:=fun _ H Q=>Q none H
def RX (t:TE):TO:=fun σ H Q=>t σ H fun x H1=>∃ i,x=.int i/\Q (some i) H1
theorem intsAre_of {ns:List Int}:∀ {us:List Value},Vals (ns.map V.int) us->IntsAre us ns:=by
 induction ns with
 | nil=>intro us r;rw[List.map_nil] at r;cases r;exact .nil
 | cons n ns ih=>
  intro us r
  rw[List.map_cons] at r
  cases r with
  | cons r1 r2=>
   obtain ⟨t,e⟩:=r1
   subst e
   exact .cons n t (ih r2)
section
variable {X:Cx} {e:Expr} {te:TE} {lo hi:Option Expr} {tl th:TO} {pos p2:Pos}
theorem Pc:PO X none VH:=by
 intro pins s σ H Q I h
 rw[evalPart_none]
 exact wpAny_pure ⟨none,H,I,.none,h⟩
theorem QY (h:PE X e te):PO X (some e) (RX te):=by
 intro pins s σ H Q I hw
 rw[evalPart_some]
 refine thn (h pins s σ H _ I hw) fun u s1 hh_=>?_
 obtain ⟨x,H1,I1,r1,q1⟩:=hh_
 obtain ⟨i,rfl,q⟩:=q1
 obtain ⟨t,rfl⟩:=r1
 exact ⟨some i,H1,I1,.int i t,q⟩
def SlR (X:Cx) (r:V->Option Int->Option Int->Hp->VK->Prop):Prop:=
 ∀ (pins:List (Addr×Obj)) (s:Shared) (σ:St) (H:Hp) (x:V) (v vl vu:Value) (lo hi:Option Int) (sl:Addr) (Q:VK),Inv X pins σ H s->RelV x v->s.heap.IsSliceOf sl vl vu .none->IsPart vl lo->IsPart vu hi->r x lo hi H Q ->
  ∃ T id,typeLookup (.type T) "__getitem__"=pure (some (.builtin id))/\s.TypeIs v T/\wpAny (model X.prog X.w) X.A (getItem v (.ref sl)) (EP X pins σ Q) X.xe s
theorem SlR.or {r r':V->Option Int->Option Int->Hp->VK->Prop} (h:SlR X r) (h':SlR X r'):SlR X (fun x lo hi H Q=>r x lo hi H Q\/r' x lo hi H Q):=by
 intro pins s σ H x v vl vu lo hi sl Q I rx hs pl pu q
 rcases q with q | q
 ·exact h pins s σ H x v vl vu lo hi sl Q I rx hs pl pu q
 ·exact h' pins s σ H x v vl vu lo hi sl Q I rx hs pl pu q
def tSl (r:V->Option Int->Option Int->Hp->VK->Prop) (te:TE) (tl th:TO):TE:=fun σ H Q=>te σ H fun x H1=>tl σ H1 fun l H2=>th σ H2 fun u H3=>r x l u H3 Q
theorem PJ {r:V->Option Int->Option Int->Hp->VK->Prop} (hr:SlR X r) (he:PE X e te) (hl:PO X lo tl) (hu:PO X hi th):PE X (.Subscript e (.Slice lo hi none p2) pos) (tSl r te tl th):=by
 intro pins s σ H Q I h
 refine Subscript_ (thn (he pins s σ H _ I h) fun v s1 hh_=>?_)
 obtain ⟨x,H1,I1,r1,q1⟩:=hh_
 refine wpAny_Slice (thn (hl pins s1 σ H1 _ I1 q1) fun vl s2 ⟨l,H2,I2,pl,q2⟩=>thn (hu pins s2 σ H2 _ I2 q2) fun vu s3 hh_=>?_)
 obtain ⟨u,H3,I3,pu,q3⟩:=hh_
 rw[evalPart_none]
 refine wpAny_pure ?_
 have I4:Inv X pins σ H3 {s3 with heap:=s3.heap.push {cls:=.type "slice",data:=.fields #[vl,vu,.none]}}:=I3.kept (t':=s3.toks) fun b ob q=>Heap.get?_push_of_some _ q
 obtain ⟨T,id,hT,ht,hg⟩:=hr pins {s3 with heap:=s3.heap.push {cls:=.type "slice",data:=.fields #[vl,vu,.none]}} σ H3 x v vl vu l u s3.heap.objs.size Q I4 r1 (Heap.IsSliceOf.new ..) pl pu q3
 show wpAny (model X.prog X.w) X.A (subscriptTail e (.Slice lo hi none p2) v (.ref s3.heap.objs.size)) (EP X pins σ Q) X.xe {s3 with heap:=s3.heap.push {cls:=.type "slice",data:=.fields #[vl,vu,.none]}}
 exact tail_any (ops:=[.ref s3.heap.objs.size,v]) ht hT hg (by with_unfolding_all rfl)
def ED (xs:List V) (lo hi:Option Int):List V:=(xs.drop (HT.sIx xs.length 0 lo)).take (HT.sIx xs.length xs.length hi - HT.sIx xs.length 0 lo)
theorem QW (xs:List V) (lo hi:Option Int):(ED xs lo hi).length<=xs.length:=by
 unfold ED
 rw[List.length_take,List.length_drop]
 lia
def LQ (K:PySem.W.Frag):R2:=fun x y H Q=>∃ a b ns ms,x=.ref a/\y=.ref b/\SqT K H a (ns.map V.int)/\SqT K H b (ms.map V.int)/\Q (.bl (HT.lexLt ns ms)) H
theorem Sf (hu:X.A.units<cLine):OpR X (compareOp .Lt) (LQ X.K):=by
 intro pins s σ H x y v u Q I rx ry h
 obtain ⟨a,b,ns,ms,rfl,rfl,ha,hb,q⟩:=h
 cases rx
 cases ry
 obtain ⟨its,r1,p1,_⟩:=I.tuple ha
 obtain ⟨its2,r2,p2,_⟩:=I.tuple hb
 have i1:IntsAre its.toArray.toList ns:=intsAre_of r1
 have i2:IntsAre its2.toArray.toList ms:=intsAre_of r2
 exact HT.Qk p1 p2 i1 i2 hu ⟨.bl (HT.lexLt ns ms),H,I,rfl,q⟩
end
def ixN (n:Nat) (i:Int):Option Nat:=if 0<=i then (if i<n then some i.toNat else none) else if -(n:Int)<=i then some (i+n).toNat else none
def atI {α:Type} (xs:List α) (i:Int):Option α:=(ixN xs.length i).bind fun j=>xs[j]?
theorem FF {n:Nat} {i:Int} {j:Nat} (h:ixN n i=some j):seqIndex? i n=some j/\j<n/\-(n:Int)<=i/\i<n:=by
 unfold ixN at h
 by_cases h0:0<=i
 ·rw[if_pos h0] at h
  by_cases h1:i<n
  ·rw[if_pos h1] at h
   have e:i.toNat=j:=Option.some.inj h
   exact ⟨by rw[seqIndex_of h0 h1,e],by lia,by lia,h1⟩
  ·rw[if_neg h1] at h;cases h
 ·rw[if_neg h0] at h
  by_cases h1:-(n:Int)<=i
  ·rw[if_pos h1] at h
   have e:(i+n).toNat=j:=Option.some.inj h
   exact ⟨by rw[seqIndex_neg (by lia) h1,e],by lia,h1,by lia⟩
  ·rw[if_neg h1] at h;cases h
theorem JR {α:Type} {xs:List α} {i:Int} {v:α} (h:atI xs i=some v):∃ j,seqIndex? i xs.length=some j/\xs[j]?=some v/\j<xs.length/\-(xs.length:Int)<=i/\i<xs.length:=by
 unfold atI at h
 cases e:ixN xs.length i with
 | none=>rw[e] at h;cases h
 | some j=>
  rw[e] at h
  obtain ⟨h1,h2,h3,h4⟩:=FF e
  exact ⟨j,h1,h,h2,h3,h4⟩
theorem Bo {α:Type} {xs:List α} {j:Nat} {v:α} (h:xs[j]?=some v):atI xs (j:Int)=some v:=by
 have hj:j<xs.length:=(List.getElem?_eq_some_iff.mp h).1
 have e:ixN xs.length (j:Int)=some j:=by
  unfold ixN
  rw[if_pos (by lia),if_pos (by lia)];simp
 unfold atI;rw[e];exact h
def HV (b:Expr):Prop:=∀ o i,subscripted b false o i=operate [o,i] (getItem o i)
def IxR (X:Cx) (r:R2):Prop:=
 ∀ (value slice:Expr) (pins:List (Addr×Obj)) (s:Shared) (σ:St) (H:Hp) (x y:V) (v u:Value) (Q:VK),Inv X pins σ H s->RelV x v->RelV y u->r x y H Q ->
  subscripted slice false v u=operate [v,u] (getItem v u)->wpAny (model X.prog X.w) X.A (subscriptTail value slice v u) (EP X pins σ Q) X.xe s
def MtR (X:Cx) (id:String) (r:V->List V->Hp->VK->Prop):Prop:=
 ∀ (pins:List (Addr×Obj)) (s:Shared) (σ:St) (H:Hp) (x:V) (xs:List V) (v:Value) (us:List Value) (Q:VK),Inv X pins σ H s->RelV x v->Vals xs us->r x xs H Q ->
  wpAny (model X.prog X.w) X.A (call (.builtin id) (v::us)) (EP X pins σ Q) X.xe s
section
variable {X:Cx} {a b:Expr} {ta tb:TE} {pos:Pos}
theorem IxR.or {r r':R2} (h:IxR X r) (h':IxR X r'):IxR X (fun x y H Q=>r x y H Q\/r' x y H Q):=by
 intro value slice pins s σ H x y v u Q I rx ry q hs
 rcases q with q | q
 ·exact h value slice pins s σ H x y v u Q I rx ry q hs
 ·exact h' value slice pins s σ H x y v u Q I rx ry q hs
theorem B6 {r:R2} (hr:IxR X r) (ha:PE X a ta) (hb:PE X b tb) (hs:HV b):PE X (.Subscript a b pos) (tOp r ta tb):=by
 intro pins s σ H Q I h
 exact Subscript_ (Hu ha hb I h fun v u s2 x y H2 I2 rx ry q=>hr a b pins s2 σ H2 x y v u Q I2 rx ry q (hs _ _))
def KR (K:PySem.W.Frag):R2:=fun x y H Q=>∃ p xs i v,x=.ref p/\y=.int i/\SqL K H p xs/\atI xs i=some v/\Q v H
def Ly (K:PySem.W.Frag):R2:=fun x y H Q=>∃ p xs i v,x=.ref p/\y=.int i/\SqT K H p xs/\atI xs i=some v/\Q v H
def Nk:R2:=fun x y H Q=>∃ z i c,x=.str z/\y=.int i/\z.length<=sizeLine/\atI z.cps.toList i=some c/\Q (.str ⟨#[c]⟩) H
theorem ix_list:IxR X (KR X.K):=by
 intro value slice pins s σ H x y v u Q I rx ry h hs
 obtain ⟨p,xs,i,z,rfl,rfl,hq,he,q⟩:=h
 cases rx
 obtain ⟨t,rfl⟩:=ry
 obtain ⟨its,r,pl,hz⟩:=I.list hq
 obtain ⟨j,h1,h2,h3,h4,h5⟩:=JR he
 obtain ⟨w,ew,rw'⟩:=r.get h2
 have hl:=r.length
 have hn:=Di
 have fin:EP X pins σ Q w s:=⟨z,H,I,rw',q⟩
 by_cases h0:0<=i
 ·have hj:i.toNat=j:=by
   rw[seqIndex_of h0 h5] at h1
   exact Option.some.inj h1
  exact item_listR pl.isList h0 (by lia) (by rw[hj];simpa using ew) fin hs
 ·have hj:(i+(its.toArray.size:Int)).toNat=j:=by
   rw[seqIndex_neg (by lia) h4] at h1
   rw[List.size_toArray,<-hl]
   exact Option.some.inj h1
  exact subscriptTail_builtinR (x:=w) pl.isList.typeIs slot_list_getitem.lookup
   (wpAny_getItem_list_neg (Q:=fun r s'=>r=w/\EP X pins σ Q r s') pl.isList (by lia) (by rw[List.size_toArray]<;>lia) (by lia) (by rw[hj];simpa using ew) ⟨rfl,fin⟩) hs
theorem ix_tup:IxR X (Ly X.K):=by
 intro value slice pins s σ H x y v u Q I rx ry h hs
 obtain ⟨p,xs,i,z,rfl,rfl,hq,he,q⟩:=h
 cases rx
 obtain ⟨t,rfl⟩:=ry
 obtain ⟨its,r,pl,hz⟩:=I.tuple hq
 obtain ⟨j,h1,h2,h3,h4,h5⟩:=JR he
 obtain ⟨w,ew,rw'⟩:=r.get h2
 have hl:=r.length
 have hn:=Di
 have fin:EP X pins σ Q w s:=⟨z,H,I,rw',q⟩
 exact subscriptTail_builtinR (x:=w) pl.typeIs slot_tuple_getitem.lookup
  (getItem_tuple (j:=j) (Q:=fun r s'=>r=w/\EP X pins σ Q r s') pl (by lia) (by lia) (by rw[List.size_toArray,<-hl];exact h1) (by simpa using ew) ⟨rfl,fin⟩) hs
theorem Q2:IxR X Nk:=by
 intro value slice pins s σ H x y v u Q I rx ry h hs
 obtain ⟨z,i,c,rfl,rfl,hz,he,q⟩:=h
 obtain ⟨t,rfl⟩:=rx
 obtain ⟨t',rfl⟩:=ry
 obtain ⟨j,h1,h2,h3,h4,h5⟩:=JR he
 have hl:z.cps.toList.length=z.length:=by simp[Str.length]
 rw[hl] at h1 h4 h5
 have hn:=Di
 exact tail_any (typeIs_str s z t) slot_str_getitem.lookup (getItem_str (c:=c) (by
  have e1:decide (i < -(2 ^ 63:Int))=false:=decide_eq_false (by lia)
  have e2:decide (i>=2 ^ 63)=false:=decide_eq_false (by lia)
  rw[e1,e2,Bool.or_false]) (by rw[h1];simpa using h2) ⟨.str ⟨#[c]⟩,H,I.tok _,⟨_,rfl⟩,q⟩) hs
def rIx (K:PySem.W.Frag):R2:=fun x y H Q=>KR K x y H Q\/Ly K x y H Q\/Nk x y H Q
theorem UL:IxR X (rIx X.K):=ix_list.or (ix_tup.or Q2)
theorem QH (its:List Value) (n j:Nat) (u:Value):Obj.mapSeq (·.setIfInBounds j u) {cls:=.type "list",data:=.seq its.toArray n}={cls:=.type "list",data:=.seq (its.set j u).toArray n}:=by
 simp[Obj.mapSeq]
theorem Inv.lst {pins:List (Addr×Obj)} {σ:St} {H:Hp} {s:Shared} {p:Addr} {xs:List V} (I:Inv X pins σ H s) (h:H p=some (.lst xs)) :
  ∃ (its:List Value) (n:Nat),Vals xs its/\s.heap.get? p=some {cls:=.type "list",data:=.seq its.toArray n}/\xs.length<=sizeLine:=by
 obtain ⟨z,its,n,r,e⟩:=I.hok p _ h
 exact ⟨its,n,r,e,z⟩
theorem Inv.lstUpd {pins:List (Addr×Obj)} {σ:St} {H:Hp} {s:Shared} {p:Addr} {xs ys:List V} {its its':List Value} {n n':Nat} {f:Obj->Obj} (I:Inv X pins σ H s) (h:H p=some (.lst xs))
  (ho:s.heap.get? p=some {cls:=.type "list",data:=.seq its.toArray n}) (hf:f {cls:=.type "list",data:=.seq its.toArray n}={cls:=.type "list",data:=.seq its'.toArray n'}) (r:Vals ys its') (hz:ys.length<=sizeLine) (t:Nat) :
  Inv X pins σ (upd H p (.lst ys)) {s with heap:=s.heap.update p f,toks:=t}:=by
 have e:(s.heap.update p f).get? p=some {cls:=.type "list",data:=.seq its'.toArray n'}:=by
  rw[Heap.get?_update_self f ho (by rw[hf]<;>rfl),hf]
 refine I.write (x:=p) (e:=p) (by rw[h];trivial) (.inl rfl) (fun b u hb q=>(Heap.get?_update_other _ _ (Ne.symm hb)).trans q) ⟨_,e⟩ ?_
 exact ⟨hz,its',n',r,e⟩
def Vp:V->V->V->Hp->(Hp->Prop)->Prop:=fun o i v H Q=>∃ p xs k j,o=.ref p/\i=.int k/\H p=some (.lst xs)/\ixN xs.length k=some j/\Q (upd H p (.lst (xs.set j v)))
theorem set_list:Jn X Vp:=by
 intro pins s σ H o i v ov iv u Q I ro ri rv h
 obtain ⟨p,xs,k,j,rfl,rfl,hp,hj,q⟩:=h
 cases ro
 obtain ⟨t,rfl⟩:=ri
 obtain ⟨its,n,r,ho,hz⟩:=I.lst hp
 obtain ⟨h1,h2,h3,h4⟩:=FF hj
 have hl:=r.length
 have hn:=Di
 have I':Inv X pins σ (upd H p (.lst (xs.set j v))) {s with heap:=s.heap.update p (Obj.mapSeq (·.setIfInBounds j u))}:=
  I.lstUpd hp ho (QH its n j u) (r.set rv j) (by rw[List.length_set];exact hz) s.toks
 by_cases h0:0<=k
 ·have hk:k.toNat=j:=by
   rw[seqIndex_of h0 h4] at h1
   exact Option.some.inj h1
  exact PySem.W.ki_setAt ho h0 (by lia) (by rw[List.size_toArray,<-hl];exact h4) (by rw[hk];exact ⟨_,I',q⟩)
 ·have hk:(k+(its.toArray.size:Int)).toNat=j:=by
   rw[seqIndex_neg (by lia) h3] at h1
   rw[List.size_toArray,<-hl]
   exact Option.some.inj h1
  exact PySem.W.ki_setBack ho (by lia) (by rw[List.size_toArray,<-hl];exact h3) (by lia) (by rw[hk];exact ⟨_,I',q⟩)
theorem V7 (lo hi:Option Int) (n:Nat):(sliceBounds lo hi none n).1=((HT.sIx n 0 lo:Nat):Int)/\(sliceBounds lo hi none n).2.1=((HT.sIx n n hi:Nat):Int)/\(sliceBounds lo hi none n).2.2=1:=by
 refine ⟨?_,?_,rfl⟩
 ·cases lo with
  | none=>simp[sliceBounds,HT.sIx]
  | some i=>
   simp only[sliceBounds,HT.sIx,Option.getD_none,show (1:Int) > 0 by decide,if_true]
   by_cases h:i<0
   ·simp only[h,if_true]<;>lia
   ·simp only[h,if_false]<;>lia
 ·cases hi with
  | none=>simp[sliceBounds,HT.sIx]
  | some i=>
   simp only[sliceBounds,HT.sIx,Option.getD_none,show (1:Int) > 0 by decide,if_true]
   by_cases h:i<0
   ·simp only[h,if_true]<;>lia
   ·simp only[h,if_false]<;>lia
theorem QV (its:List Value) (lo hi:Option Int):slicePick its.toArray lo hi none=((its.drop (HT.sIx its.length 0 lo)).take (HT.sIx its.length its.length hi - HT.sIx its.length 0 lo)).toArray:=by
 obtain ⟨h1,h2,h3⟩:=V7 lo hi its.toArray.size
 unfold slicePick
 rw[h1,h2,h3]
 simp only[sliceRange_one,pick_run,List.size_toArray]<;>rfl
def TL (K:PySem.W.Frag):V->Option Int->Option Int->Hp->VK->Prop:=fun x lo hi H Q=>∃ a xs,x=.ref a/\SqL K H a xs/\∀ p,H p=none->Q (.ref p) (upd H p (.lst (ED xs lo hi)))
theorem sl_list:SlR X (TL X.K):=by
 intro pins s σ H x v vl vu lo hi sl Q I rx hs pl pu h
 obtain ⟨a,xs,rfl,hx,q⟩:=h
 cases rx
 obtain ⟨its,r,ht,hz⟩:=I.list hx
 have hlen:=r.length
 refine ⟨"list",_,slot_list_getitem.lookup,ht.isList.typeIs,?_⟩
 refine wpAny_getItem_list_slice ht.isList hs pl pu .none (by simp) ?_ (by rw[List.size_toArray]<;>lia)
 rw[QV,<-hlen]
 refine ⟨.ref s.heap.objs.size,_,I.laid (t':=s.toks) (o:=.lst (ED xs lo hi)) (fun b ob q=>Heap.get?_push_of_some _ q) (Nat.le_refl _) ?_,rfl,q _ (I.hok.fresh (Nat.le_refl _))⟩
 exact ⟨Nat.le_trans (QW xs lo hi) hz,_,0,(r.drop (HT.sIx xs.length 0 lo)).take (HT.sIx xs.length xs.length hi - HT.sIx xs.length 0 lo),Heap.get?_push_size _ rfl⟩
theorem Je:CallR X (.builtin "len") (fun xs H Q=>∃ p ys,xs=[.ref p]/\(SqL X.K H p ys\/SqT X.K H p ys)/\Q (.int ys.length) H):=by
 intro pins s σ H xs us Q I r h
 obtain ⟨p,ys,rfl,hq,q⟩:=h
 obtain ⟨u,rfl,rx⟩:=vals1 r
 cases rx
 have hn:=Di
 rcases hq with hq | hq
 ·obtain ⟨its,r',pl,hz⟩:=I.list hq
  have hlen:=r'.length
  exact Calls.call_len_list pl.isList (by simp only[List.size_toArray]<;>lia) ⟨.int ys.length,H,I.tok _,⟨s.toks+1,by rw[List.size_toArray,hlen]⟩,q⟩
 ·obtain ⟨its,r',pl,hz⟩:=I.tuple hq
  have hlen:=r'.length
  exact len_tuple pl (by simp only[List.size_toArray]<;>lia) ⟨.int ys.length,H,I.tok _,⟨s.toks+1,by rw[List.size_toArray,hlen]⟩,q⟩
theorem CallR.or {f:Value} {r r':List V->Hp->VK->Prop} (h:CallR X f r) (h':CallR X f r'):CallR X f (fun xs H Q=>r xs H Q\/r' xs H Q):=by
 intro pins s σ H xs us Q I rs q
 rcases q with q | q
 ·exact h pins s σ H xs us Q I rs q
 ·exact h' pins s σ H xs us Q I rs q
theorem OV:CallR X (.type "list") (fun xs H Q=>∃ p ys,xs=[.ref p]/\(SqL X.K H p ys\/SqT X.K H p ys)/\∀ l,H l=none->Q (.ref l) (upd H l (.lst ys))):=by
 intro pins s σ H xs us Q I r h
 obtain ⟨p,ys,rfl,hq,q⟩:=h
 obtain ⟨u,rfl,rx⟩:=vals1 r
 cases rx
 have fin:∀ (its:List Value),Vals ys its->ys.length<=sizeLine->∀ (h':Heap) (c':Nat),(∀ b o',s.heap.get? b=some o'->h'.get? b=some o') ->
   h'.get? s.heap.objs.size=some {cls:=.type "list",dict:=none,data:=.seq its.toArray c',slots:=#[]}->EP X pins σ Q (.ref s.heap.objs.size) {s with heap:=h'}:=fun its r' hz h' c' kp e=>
  ⟨.ref s.heap.objs.size,_,I.laid (t':=s.toks) kp (Nat.le_refl _) (show ObjOk X.prog X.w _ h' _ (.lst ys) from ⟨hz,its,c',r',e⟩),rfl,q _ (I.hok.fresh (Nat.le_refl _))⟩
 rcases hq with hq | hq
 ·obtain ⟨its,r',pl,hz⟩:=I.list hq
  have hlen:=r'.length
  obtain ⟨o,ho,hc,n,hd⟩:=pl.isList
  exact call_list_seq p (.inl rfl) ho hc hd (fun h' c' kp e=>fin its r' hz h' c' kp e) (by simp only[List.size_toArray]<;>lia)
 ·obtain ⟨its,r',pl,hz⟩:=I.tuple hq
  have hlen:=r'.length
  obtain ⟨o,ho,hc,n,hd⟩:=pl
  exact call_list_seq p (.inr rfl) ho hc hd (fun h' c' kp e=>fin its r' hz h' c' kp e) (by simp only[List.size_toArray]<;>lia)
def tyV (K:PySem.W.Frag) (T:String) (x:V) (H:Hp):Prop:=match x with
 | .str _=>T="str"
 | .int _=>T="int"
 | .ref p=>(T="list"/\∃ xs,SqL K H p xs)\/(T="tuple"/\∃ o,K.lookup p=some o/\o.cls=.type "tuple"/\o.dict=none) \/
   (T="dict"/\((∃ kvs,H p=some (.dK kvs))\/∃ kvs,H p=some (.dT kvs)))\/(T="set"/\∃ S n,H p=some (.set S n))
 | _=>False
theorem Lg {pins:List (Addr×Obj)} {σ:St} {H:Hp} {s:Shared} {T:String} {x:V} {v:Value} (I:Inv X pins σ H s) (r:RelV x v) (ty:tyV X.K T x H) :
  s.TypeIs v T/\∀ a,v=.ref a->∃ ob,s.heap.get? a=some ob/\ob.dict=none:=by
 cases x with
 | str z=>
  obtain ⟨t,rfl⟩:=r
  cases (show T="str" from ty)
  exact ⟨typeIs_str s z t,fun _ e=>nomatch e⟩
 | int i=>
  obtain ⟨t,rfl⟩:=r
  cases (show T="int" from ty)
  exact ⟨typeIs_int s i t,fun _ e=>nomatch e⟩
 | ref p=>
  cases r
  rcases ty with ⟨rfl,xs,hq⟩ | ⟨rfl,o,hk,hc,hd⟩ | ⟨rfl,hk⟩ | ⟨rfl,S,n,hk⟩
  ·obtain ⟨its,_,pl,_⟩:=I.list hq
   refine ⟨pl.isList.typeIs,fun a e=>?_⟩
   cases e
   obtain ⟨o,n,e,c,hd,_⟩:=pl
   exact ⟨o,e,hd⟩
  ·refine ⟨⟨o,I.kIn p o hk,hc⟩,fun a e=>?_⟩
   cases e
   exact ⟨o,I.kIn _ o hk,hd⟩
  ·have z:∃ o,s.heap.get? p=some o/\o.ExactDict:=by
    rcases hk with ⟨kvs,hk⟩ | ⟨kvs,hk⟩
    ·obtain ⟨_,_,_,_,o,_,_,e,ex,_⟩:=I.hok p _ hk
     exact ⟨o,e,ex⟩
    ·obtain ⟨_,_,_,_,o,_,_,e,ex,_⟩:=I.hok p _ hk
     exact ⟨o,e,ex⟩
   obtain ⟨o,e,ex⟩:=z
   refine ⟨⟨o,e,ex.1⟩,fun a e2=>?_⟩
   cases e2
   exact ⟨o,e,ex.2.1⟩
  ·obtain ⟨o,_,_,_,e,ex,_⟩:=I.hok p _ hk
   refine ⟨⟨o,e,ex.1⟩,fun a e2=>?_⟩
   cases e2
   exact ⟨o,e,ex.2.1⟩
 | _=>exact False.elim ty
def Sq (K:PySem.W.Frag) (T:String) (r:V->List V->Hp->VK->Prop) (to:TE):TE:=fun σ H Q=>to σ H fun x H1=>tyV K T x H1/\r x [] H1 Q
def tBM (K:PySem.W.Frag) (T:String) (r:V->List V->Hp->VK->Prop) (to:TE) (t:TA):TE:=fun σ H Q=>to σ H fun x H1=>tyV K T x H1/\t σ H1 fun xs H2=>r x xs H2 Q
variable {o e:Expr} {es:List Expr} {to:TE} {t:TA} {name:Str} {apos cpos:Pos} {T id:String} {r:V->List V->Hp->VK->Prop}
theorem SE (pa:PlainAttrs T) (slot:Slot T name id) (hty:typeOf (.builtin id)=pure (.type "method_descriptor")) (hm:MtR X id r) (ho:PE X o to)
  (hbase:attributeBase o name X.env (eval o X.env)=eval o X.env:=by rfl) (hline:(apos.endLine == cpos.line)=true:=by rfl):PE X (.Call (.Attribute o name apos) [] [] cpos) (Sq X.K T r to):=by
 intro pins s σ H Q I h
 refine wpAny_Call_method0_late hbase hline (thn (ho pins s σ H _ I h) fun v s1 hh_=>?_)
 obtain ⟨x,H1,I1,r1,ty,q1⟩:=hh_
 obtain ⟨h1,h2⟩:=Lg I1 r1 ty
 exact ⟨T,id,pa,slot,hty,h1,h2,Calls.callWith_builtin rfl (PySem.evalArgs_none (hm pins s1 σ H1 x [] v [] Q I1 r1 .nil q1))⟩
theorem EZ (pa:PlainAttrs T) (slot:Slot T name id) (hty:typeOf (.builtin id)=pure (.type "method_descriptor")) (hm:MtR X id r) (ho:PE X o to) (ha:PA X (e::es) t)
  (hbase:attributeBase o name X.env (eval o X.env)=eval o X.env:=by rfl)
  (hfew:((backTo cpos (starEach (e::es) X.env)).all (fun x=>!x.1) && (backToKw cpos (keywordEach [] X.env)).all (fun x=>x.1.isSome)
   && decide ((e::es).length+([]:List Keyword).length+(if ([]:List Keyword).isEmpty then 0 else 1)<30))=true:=by rfl)
  (hline:(apos.endLine == cpos.line)=true:=by rfl) (hs:starEach (e::es) X.env=(false,eval e X.env)::starEach es X.env:=by rfl) (hplain:(backTo cpos (starEach es X.env)).any (·.1)=false:=by rfl) :
  PE X (.Call (.Attribute o name apos) (e::es) [] cpos) (tBM X.K T r to t):=by
 intro pins s σ H Q I h
 refine wpAny_Call_method_late hbase hfew hline rfl (thn (ho pins s σ H _ I h) fun v s1 hh_=>?_)
 obtain ⟨x,H1,I1,r1,ty,q1⟩:=hh_
 obtain ⟨h1,h2⟩:=Lg I1 r1 ty
 refine ⟨T,id,pa,slot,hty,h1,h2,?_⟩
 have hA:=ha cpos pins s1 σ H1 _ I1 q1
 rw[hs] at hA ⊢
 refine Calls.callWith_builtin (by show (false || (backTo cpos (starEach es X.env)).any (·.1))=false;rw[hplain]<;>rfl) (Calls.evalArgs_plain ?_)
 exact thn hA fun us s2 ⟨vs,H2,I2,r2,q2⟩=>hm pins s2 σ H2 x vs v us Q I2 r1 r2 q2
end
def MtM (X:Cx) (id:String) (r:V->List V->Hp->VK->Prop):Prop:=
 ∀ (pins:List (Addr×Obj)) (s:Shared) (σ:St) (H:Hp) (x:V) (xs:List V) (v:Value) (us:List Value) (Q:VK),Inv X pins σ H s->RelV x v->Vals xs us->r x xs H Q ->
  wpAny (model X.prog X.w) X.A (call (.builtin id) (v::us)) (EP X pins σ Q) X.xe s
theorem Vals.one:∀ {x:V} {us:List Value},Vals [x] us->∃ u,us=[u]/\RelV x u
 | _,_,.cons r .nil=>⟨_,rfl,r⟩
theorem Vals.two:∀ {x y:V} {us:List Value},Vals [x,y] us->∃ u v,us=[u,v]/\RelV x u/\RelV y v
 | _,_,_,.cons r (.cons q .nil)=>⟨_,_,rfl,r,q⟩
theorem Vals.zero:∀ {us:List Value},Vals [] us->us=[]
 | _,.nil=>rfl
theorem Vals.dropLast {xs:List V} {us:List Value} (h:Vals xs us):Vals xs.dropLast us.dropLast:=by
 induction h with
 | nil=>exact .nil
 | cons r t ih=>
  cases t with
  | nil=>exact .nil
  | cons q t'=>exact .cons r ih
theorem Vals.eraseIdx:∀ {xs:List V} {us:List Value} (i:Nat),Vals xs us->Vals (xs.eraseIdx i) (us.eraseIdx i)
 | _,_,_,.nil=>.nil
 | _,_,0,.cons _ t=>t
 | _,_,i+1,.cons r t=>.cons r (Vals.eraseIdx i t)
theorem Vals.reverse {xs:List V} {us:List Value} (h:Vals xs us):Vals xs.reverse us.reverse:=by
 induction h with
 | nil=>exact .nil
 | cons r t ih=>rw[List.reverse_cons,List.reverse_cons];exact Vals.append ih (.cons r .nil)
theorem Vals.rep {xs:List V} {us:List Value} (h:Vals xs us):∀ k:Nat,Vals (List.replicate k xs).flatten (List.replicate k us).flatten
 | 0=>.nil
 | k+1=>by
  rw[List.replicate_succ,List.replicate_succ,List.flatten_cons,List.flatten_cons]
  exact Vals.append h (Vals.rep h k)
theorem PF {α:Type} (l:List α):l.eraseIdx (l.length - 1)=l.dropLast:=by
 induction l with
 | nil=>rfl
 | cons a r ih=>
  cases r with
  | nil=>rfl
  | cons b r=>
   have e:(a::b::r).length - 1=((b::r).length - 1)+1:=by
    have h1:(a::b::r).length=r.length+2:=rfl
    have h2:(b::r).length=r.length+1:=rfl
    lia
   rw[e,List.eraseIdx_cons_succ,ih]
   all_goals rfl
theorem M9 {α:Type}:∀ (l:List α) (i:Nat),(l.eraseIdx i).length<=l.length
 | [],_=>Nat.le_refl _
 | _::_,0=>Nat.le_succ _
 | _::r,i+1=>Nat.succ_le_succ (M9 r i)
theorem foldl_rep (its:List Value):∀ (k:Nat) (acc:List Value),
  List.foldl (fun x1 x2=>x1++x2) acc.toArray (List.replicate k its.toArray)=(acc++(List.replicate k its).flatten).toArray
 | 0,acc=>by simp
 | k+1,acc=>by
  have e:acc.toArray++its.toArray=(acc++its).toArray:=by simp
  have e2:(acc++its)++(List.replicate k its).flatten=acc++(List.replicate (k+1) its).flatten:=by
   rw[List.replicate_succ,List.flatten_cons,List.append_assoc]
  rw[<-e2,<-foldl_rep its k (acc++its),<-e,List.replicate_succ,List.foldl_cons]
section
variable {X:Cx} {pins:List (Addr×Obj)} {σ:St} {H:Hp} {s:Shared} {l b:Addr} {xs ys zs:List V}
theorem Inv.lset {its its':List Value} {n:Nat} {f:Array Value->Array Value} {t':Nat} (I:Inv X pins σ H s) (hH:H l=some (.lst xs))
  (e:s.heap.get? l=some {cls:=.type "list",data:=.seq its.toArray n}) (hf:f its.toArray=its'.toArray) (hv:Vals ys its') (hz:ys.length<=sizeLine) :
  Inv X pins σ (upd H l (.lst ys)) {s with heap:=s.heap.update l (Obj.mapSeq f),toks:=t'}:=by
 have q:=PySem.IsL.update e f
 rw[hf] at q
 refine I.write (x:=l) (e:=l) (by rw[hH];exact trivial) (.inl rfl) (fun b' u hb hu=>(Heap.get?_update_other s.heap (Obj.mapSeq f) (Ne.symm hb)).trans hu) ⟨_,q⟩ ?_
 exact ⟨hz,its',_,hv,q⟩
theorem Inv.lnew {its:List Value} {t':Nat} (I:Inv X pins σ H s) (hv:Vals ys its) (hz:ys.length<=sizeLine) :
  Inv X pins σ (upd H s.heap.objs.size (.lst ys)) {s with heap:=s.heap.push {cls:=.type "list",data:=.seq its.toArray},toks:=t'}:=
 I.laid (fun _ _ q=>Heap.get?_push_of_some _ q) (Nat.le_refl _) ⟨hz,its,0,hv,Heap.get?_push_size _ rfl⟩
theorem Inv.fresh (I:Inv X pins σ H s):H s.heap.objs.size=none:=I.hok.fresh (Nat.le_refl _)
theorem Inv.lstM (I:Inv X pins σ H s) (hH:H l=some (.lst xs)):xs.length<=sizeLine/\∃ (its:List Value) (n:Nat),Vals xs its/\xs.length=its.length/\s.heap.get? l=some {cls:=.type "list",data:=.seq its.toArray n}:=by
 obtain ⟨z,its,n,r,e⟩:=I.hok l _ hH
 exact ⟨z,its,n,r,r.length,e⟩
theorem N2 {n:Nat} (h:n<=sizeLine):Builtin.List.listTooLong n=false:=by
 unfold Builtin.List.listTooLong
 exact decide_eq_false (by lia)
end
section
variable {X:Cx}
def NT:V->List V->Hp->VK->Prop:=fun x vs H Q=>∃ l xs y,x=.ref l/\vs=[y]/\H l=some (.lst xs)/\xs.length<sizeLine/\Q .non (upd H l (.lst (xs++[y])))
theorem Kd:MtM X "list.append" NT:=by
 intro pins s σ H x vs v us Q I rx rv h
 obtain ⟨l,xs,y,rfl,rfl,hH,hz,q⟩:=h
 cases rx
 obtain ⟨u,rfl,ru⟩:=rv.one
 obtain ⟨z,its,n,r,hl,e⟩:=I.lstM hH
 refine call_meets F.slot_list_append ⟨_,e,rfl⟩ F.entry_list_append (F.args_list_append_2 _ _) (PySem.list_append l its.toArray n u (by rw[List.size_toArray];lia)) ⟨e,?_⟩
 refine ⟨.non,_,I.lset (its':=its++[u]) hH e (by simp) (r.append (.cons ru .nil)) ?_,rfl,q⟩
 rw[List.length_append,List.length_singleton]
 lia
def Vw:V->List V->Hp->VK->Prop:=fun x vs H Q=>∃ l b xs zs,x=.ref l/\vs=[.ref b]/\H l=some (.lst xs)/\H b=some (.lst zs)/\xs.length+zs.length<=sizeLine/\Q .non (upd H l (.lst (xs++zs)))
theorem Vn:MtM X "list.extend" Vw:=by
 intro pins s σ H x vs v us Q I rx rv h
 obtain ⟨l,b,xs,zs,rfl,rfl,hH,hB,hz,q⟩:=h
 cases rx
 obtain ⟨u,rfl,ru⟩:=rv.one
 cases ru
 obtain ⟨z,its,n,r,hl,e⟩:=I.lstM hH
 obtain ⟨z2,its2,n2,r2,hl2,e2⟩:=I.lstM hB
 have hsz:its.toArray.size+its2.toArray.size<=sizeLine:=by rw[List.size_toArray,List.size_toArray];lia
 have hlong:¬(!its.toArray.isEmpty && Builtin.List.listTooLong (its.toArray.size+its2.toArray.size))=true:=by
  rw[N2 hsz,Bool.and_false]
  exact Bool.false_ne_true
 refine call_meets F.slot_list_extend ⟨_,e,rfl⟩ F.entry_list_extend (F.args_list_extend_2 _ _)
  (AutoSeq1.list_extend_list_list_0 l its.toArray n b its2.toArray n2 hlong (by rw[List.size_toArray];lia) (by lia)) ⟨e,e2,?_⟩
 refine ⟨.non,_,I.lset (its':=its++its2) hH e (by simp) (r.append r2) ?_,rfl,q⟩
 rw[List.length_append]
 lia
def OX:V->List V->Hp->VK->Prop:=fun x vs H Q=>∃ l xs y,x=.ref l/\vs=[]/\H l=some (.lst xs)/\xs[xs.length - 1]?=some y/\Q y (upd H l (.lst xs.dropLast))
theorem Vg:MtM X "list.pop" OX:=by
 intro pins s σ H x vs v us Q I rx rv h
 obtain ⟨l,xs,y,rfl,rfl,hH,hy,q⟩:=h
 cases rx
 have hus:=rv.zero
 subst hus
 obtain ⟨z,its,n,r,hl,e⟩:=I.lstM hH
 obtain ⟨u,hu,ru⟩:=r.get hy
 have hy':its.toArray[its.toArray.size - 1]?=some u:=by
  show its.toArray[its.length - 1]?=some u
  rw[<-Array.getElem?_toList,<-hl]
  exact hu
 refine call_meets F.slot_list_pop ⟨_,e,rfl⟩ F.entry_list_pop (F.args_list_pop_1 _) (MeetsSeq.list_pop_last l its.toArray n u hy' (by rw[List.size_toArray];lia)) ⟨e,?_⟩
 refine ⟨y,_,I.lset (its':=its.dropLast) hH e ?_ r.dropLast ?_,ru,q⟩
 ·show its.toArray.eraseIdxIfInBounds (its.toArray.size - 1)=its.dropLast.toArray
  rw[List.size_toArray,List.eraseIdxIfInBounds_toArray,PF]
 ·rw[List.length_dropLast]
  lia
def Rt:V->List V->Hp->VK->Prop:=fun x vs H Q=>∃ l xs i k y,x=.ref l/\vs=[.int i]/\H l=some (.lst xs)/\-(2 ^ 63)<=i/\i<2 ^ 63/\seqIndex? i xs.length=some k/\xs[k]?=some y/\Q y (upd H l (.lst (xs.eraseIdx k)))
theorem NW:MtM X "list.pop" Rt:=by
 intro pins s σ H x vs v us Q I rx rv h
 obtain ⟨l,xs,i,k,y,rfl,rfl,hH,h1,h2,hk,hy,q⟩:=h
 cases rx
 obtain ⟨u,rfl,ru⟩:=rv.one
 obtain ⟨t,rfl⟩:=ru
 obtain ⟨z,its,n,r,hl,e⟩:=I.lstM hH
 obtain ⟨w,hw,rw'⟩:=r.get hy
 refine call_meets F.slot_list_pop ⟨_,e,rfl⟩ F.entry_list_pop (F.args_list_pop_2 _ _)
  (MeetsSeq.list_pop_at l its.toArray n i t k w (fitsIndex_both h1 h2) (by rw[List.size_toArray,<-hl];exact hk) (by rw[<-Array.getElem?_toList];exact hw) (by rw[List.size_toArray];lia)) ⟨e,?_⟩
 refine ⟨y,_,I.lset (its':=its.eraseIdx k) hH e ?_ (r.eraseIdx k) ?_,rw',q⟩
 ·show its.toArray.eraseIdxIfInBounds k=(its.eraseIdx k).toArray
  rw[List.eraseIdxIfInBounds_toArray]
 ·have:=M9 xs k
  lia
def Np:R2:=fun x y H Q=>∃ l b xs zs,x=.ref l/\y=.ref b/\H l=some (.lst xs)/\H b=some (.lst zs)/\xs.length+zs.length<=sizeLine/\∀ p,H p=none->Q (.ref p) (upd H p (.lst (xs++zs)))
theorem WC:OpR X (binaryOp .Add) Np:=by
 intro pins s σ H x y v u Q I rx ry h
 obtain ⟨l,b,xs,zs,rfl,rfl,hH,hB,hz,q⟩:=h
 cases rx
 cases ry
 obtain ⟨z,its,n,r,hl,e⟩:=I.lstM hH
 obtain ⟨z2,its2,n2,r2,hl2,e2⟩:=I.lstM hB
 refine PySem.P.add_list e e2 ?_ (by rw[List.size_toArray,List.size_toArray];lia)
 have ea:its.toArray++its2.toArray=(its++its2).toArray:=by simp
 rw[ea]
 exact ⟨.ref _,_,I.lnew (t':=s.toks) (r.append r2) (by rw[List.length_append];lia),rfl,q _ I.fresh⟩
def NI:R2:=fun x y H Q=>∃ l k xs,x=.ref l/\y=.int k/\H l=some (.lst xs)/\-(2 ^ 63)<=k/\k<2 ^ 63/\xs.length * k.toNat<=sizeLine /\
 ∀ p,H p=none->Q (.ref p) (upd H p (.lst (List.replicate k.toNat xs).flatten))
theorem len_rep {α:Type} (xs:List α) (k:Nat):(List.replicate k xs).flatten.length=k * xs.length:=by
 induction k with
 | zero=>simp
 | succ k ih=>rw[List.replicate_succ,List.flatten_cons,List.length_append,ih,Nat.succ_mul,Nat.add_comm]
theorem Ub:OpR X (binaryOp .Mult) NI:=by
 intro pins s σ H x y v u Q I rx ry h
 obtain ⟨l,k,xs,rfl,rfl,hH,h1,h2,hz,q⟩:=h
 cases rx
 obtain ⟨t,rfl⟩:=ry
 obtain ⟨z,its,n,r,hl,e⟩:=I.lstM hH
 have hlen:its.toArray.size * k.toNat<=sizeLine:=by rw[List.size_toArray,<-hl];exact hz
 have hcap:¬its.toArray.size * k.toNat > (2 ^ 63 - 1) / 8:=by
  have:(sizeLine:Nat)<=(2 ^ 63 - 1) / 8:=by decide
  lia
 have hfit:¬(!Builtin.List.listFitsIndex k)=true:=by
  rw[fitsIndex_both h1 h2]
  exact Bool.false_ne_true
 have hlong:¬Builtin.List.listTooLong (its.toArray.size * k.toNat)=true:=by
  rw[N2 hlen]
  exact Bool.false_ne_true
 have hnew:List.foldl (fun x1 x2=>x1++x2) #[] (List.replicate (if its.toArray.isEmpty=true then 0 else k.toNat) its.toArray)=(List.replicate k.toNat its).flatten.toArray:=by
  have f0:∀ m:Nat,List.foldl (fun x1 x2=>x1++x2) #[] (List.replicate m its.toArray)=(List.replicate m its).flatten.toArray:=fun m=>by
   have:=foldl_rep its m []
   rw[List.nil_append] at this
   exact this
  rw[f0]
  cases its with
  | nil=>simp
  | cons a r'=>rw[if_neg (by simp)]
 refine wpAny_binaryOp_repeat_ref (T:="list") (U:="int") (by decide) ⟨_,e,rfl⟩ (fun s'=>typeIs_int s' k t) noFill_list_mul F.fills_int_mul F.slot_int_rmul repeat_list F.slot_int_index.lookup
  (call_meets F.slot_int_rmul (typeIs_int s k t) F.entry_int_rmul (F.args_int_rmul_2 _ _) (int___rmul___int_list k t l its.toArray n)
   ⟨e,rfl,⟨_,e,rfl⟩,call_meets F.slot_list_mul ⟨_,e,rfl⟩ F.entry_list_mul (F.args_list_mul_2 _ _) (AutoListH.list___mul___list_int_3 l its.toArray n k t hfit hcap hlong) ⟨e,?_⟩⟩)
 rw[hnew]
 exact ⟨.ref _,_,I.lnew (t':=s.toks) (r.rep k.toNat) (by rw[len_rep,Nat.mul_comm];exact hz),rfl,q _ I.fresh⟩
end
section
variable {prog:Program} {w:World} {A:Around} {E:Value->Shared->Prop} {s:Shared}
end
section
variable {X:Cx}
end
end L2
namespace Att
open PySem PySem.W PySem.Calls PyProof.Rows
theorem O3 {P:Params} {h:Heap}:∀ (ns:List Int) (vs:List Value),WellAll P h vs (ns.map WData.int)->IntsAre vs ns:=by
 intro ns
 induction ns with
 | nil=>
  intro vs w
  rw[List.map_nil] at w
  cases w
  exact .nil
 | cons n ns ih=>
  intro vs w
  rw[List.map_cons] at w
  cases w with
  | cons a b=>
   cases a
   exact .cons _ _ (ih _ b)
theorem N9 {l:OpenLaw} {n:Nat} (hn:l.most=some n) {P:Params} {h:Heap} {args:List WData} {vals:List Value}
  (hpre:l.row.toRowW.claim.pre args=true) (hwl:WellAll P h vals args) :
  ∃ a vs ns,vals=[Value.ref a]/\args=[WData.list (ns.map WData.int)]/\h.get? a=some {cls:=.type "list",data:=.seq vs.toArray}/\IntsAre vs ns/\ns.length<=n:=by
 have hsh:WShape.hasAll [] args [.list .int]=true:=(pre_splitW hpre).1
 have hc:l.pre.holds [] {args:=args}=true:=(pre_splitW hpre).2
 obtain ⟨d,r,rfl,h1,h2⟩:=hasAllW_cons hsh
 obtain rfl:=hasAllW_nil h2
 obtain ⟨xs,rfl,h3⟩:=hasW_list h1
 obtain ⟨ns,rfl⟩:=items_int h3
 have hlen:ns.length<=n:=by
  unfold OpenLaw.pre at hc
  have h4:(WTm.not (.lt (.lit (.int (n:Int))) (.len (.arg 0)))).holds [] {args:=[.list (ns.map .int)]}=true:=by
   have h4:=(holds_andW hc).1
   rw[hn] at h4
   exact h4
  have h5:=condW_of h4 (w_not (w_lt w_lit (w_len_list (w_arg rfl))))
  rw[List.length_map] at h5
  refine Nat.le_of_not_lt fun q=>?_
  have q':(n:Int)<((ns.length:Nat):Int):=by lia
  first
   | (rw[decide_eq_true q'] at h5;exact absurd h5 (by decide))
   | (simp at h5;lia)
 cases hwl with
 | cons w1 w2=>
  cases w2
  cases w1 with
  | list ho hall=>exact ⟨_,_,ns,rfl,rfl,ho,O3 ns _ hall,hlen⟩
theorem T1 (l:OpenLaw) (args:List WData):l.row.toRowW.claim.post args (.bool true) args=true:=
 postW_of (r:=l.row.toRowW) (X:=(true == true))
  (show WShape.has [] (.bool true) .bool=true by first | rfl | decide | simp[WShape.has,WShape.arms,WShape.armsAll])
  (show (WTm.eq .res (.lit (.bool true))).value [] {args:=args,res:=some (.bool true),after:=args}=some (.bool (true == true)) from w_eq_bool (w_res rfl) w_lit) rfl
theorem RT {l:OpenLaw} {n:Nat} {q:Program} {loose:List Str} {XP:(Str->Option Value)->Heap->Prop} {YP:World->Heap->Prop} {d:DefRec}
  (hn:l.most=some n) (hdf:d.params.defaults=[])
  (call:∀ (w:World) (s₀ s₁:Shared) (mg mb:Str->Option Value) (fa:Addr) (o:Obj) (pm cd doc:Value) (a:Addr) (vs:List Value) (ns:List Int),
   Ground q loose [] XP w s₀ mg mb s₁.heap->YP w s₁.heap ->
   s₁.heap.get? fa=some o->o.data=.func (docDef d.name d.params d.body d.scope pm cd doc)->s₁.heap.CodeRec cd d.name->mg d.name=some (.ref fa) ->
   s₁.heap.get? a=some {cls:=.type "list",data:=.seq vs.toArray}->IntsAre vs ns->ns.length<=n->s₁.gens=#[] ->
   codeAny (model l.prog w) callerA (.call (.ref fa) ⟨[.ref a],[]⟩) (fun r s'=>r=.ok (.ret (.bool true))/\OldK s₁.heap s'.heap/\s'.os=s₁.os/\AllBare s'.gens) s₁) :
  WalkO q loose XP YP l.row.toRowW d [] (fun f vs=>PySem.call f vs):=by
 intro w s₀ s₁ mg mb G Y fa o pm cd doc dV kV ho hd hcd hD hmg hg args vals as hpre hlay hrd hwl hlo
 obtain rfl:dV=.none:=Dflts.none hD hdf
 obtain rfl:kV=.none:=Dflts.noKw hD
 obtain ⟨a,vs,ns,rfl,rfl,hobj,hints,hlen⟩:=N9 hn hpre hwl
 refine enter_call (codeAny_mono (call w s₀ s₁ mg mb fa o pm cd doc a vs ns G Y ho (fd_plain hd) hcd hmg hobj hints hlen hg) fun r s' hq=>?_)
 obtain ⟨rfl,h2,h3,h4⟩:=hq
 exact ⟨.inl ⟨.bool true,.bool true,[],rfl,fun _=>rfl,.bool true,T1 l _,fun _=>⟨List.Pairwise.nil,fun _ hm=>(nomatch hm)⟩⟩,h2,h3,h4⟩
section
variable {prog:Program} {w:World} {A:Around} {E:Value->Shared->Prop} {s:Shared} {K:Frag}
end
end Att
namespace L2
open PySem PySem.Spec PyProof.Rows
theorem IW:∀ {vs:List Value} {ns:List Int},IntsAre vs ns->Vals (ns.map V.int) vs
 | _,_,.nil=>.nil
 | _,_,.cons n t h=>.cons ⟨t,rfl⟩ (IW h)
def IM (H:Hp):Prop:=∀ b,H b=none\/∃ o xs,H b=some (.frz o (.lst xs))
theorem RU {P:Program} {w:World} {K:PySem.W.Frag} {mg mb:Str->Option Value} {CX:CXT} {k:Nat} {fa a:Addr} {fd:FuncData} {x:Str} {sp:Sp} {s₁:Shared} {vs:List Value} {ns:List Int}
  (KX:K.In s₁.heap) (hns:s₁.heap.Ns mainGlobals mg) (hb:s₁.heap.Ns builtinsNs mb) (hbb:∀ x:Str,x≠"__name__"->mb x=bootBuiltins x) (hlim:s₁.heap.NoLimit) (hg:s₁.gens=#[])
  (ha:s₁.heap.get? a=some {cls:=.type "list",data:=.seq vs.toArray}) (hi:IntsAre vs ns) (hl:ns.length<=sizeLine) (hr:Room k callerA)
  (F:∀ base:Heap,K.In base->base.Ns mainGlobals mg->FnOk P w K mg base CX k fa fd [x] sp) (hbind:∀ (s:Shared) (u:Value),BindsTo s fd ⟨[u],[]⟩ [(x,u)])
  (hsp:∀ H:Hp,IM H->SqL K H a (ns.map V.int)->sp [.ref a] H (fun v _=>v=.bl true) fun _ _ _=>False)
  (hCX:∀ H e s',CX [] H s₁ (fun _ _ _=>False) e s'->False) :
  codeAny (model P w) callerA (.call (.ref fa) ⟨[.ref a],[]⟩) (fun r s'=>r=.ok (.ret (.bool true))/\OldK s₁.heap s'.heap/\s'.os=s₁.os/\AllBare s'.gens) s₁:=by
 have rv:=IW hi
 have lenV:=hi.length
 have core:∀ H:Hp,IM H->SqL K H a (ns.map V.int)->HOk P w H s₁.heap->(∀ b,H b≠none->b=a)->(H a≠none->K.lookup a=none) ->
   codeAny (model P w) callerA (.call (.ref fa) ⟨[.ref a],[]⟩) (fun r s'=>r=.ok (.ret (.bool true))/\OldK s₁.heap s'.heap/\s'.os=s₁.os/\AllBare s'.gens) s₁:=by
  intro H hO hS hok hA hK
  have base_of:∀ {b:Addr} {o:Obj},s₁.heap.get? b=some o->H b=none->(Cg s₁.heap H).get? b=some o:=fun e n=>OF e n
  have noA:∀ {b:Addr} {o:Obj} {es:Array DictEntry} {ep:Nat},s₁.heap.get? b=some o->o.data=.dict es ep->H b=none:=fun {b o es ep} e d=>by
   cases q:H b with
   | none=>rfl
   | some u=>
    have e':b=a:=hA b (by rw[q];simp)
    subst e'
    rw[ha] at e;cases e
    have d':Data.seq vs.toArray _=Data.dict es ep:=d
    cases d'
  have nsK:∀ {b:Addr} {m:Str->Option Value},s₁.heap.Ns b m->(Cg s₁.heap H).Ns b m:=fun {b m} ⟨o,es,ep,e,d,r⟩=>⟨o,es,ep,base_of e (noA e d),d,r⟩
  have hKb:K.In (Cg s₁.heap H):=fun b o e=>base_of (KX b o e) (by
   cases q:H b with
   | none=>rfl
   | some u=>
    have e':b=a:=hA b (by rw[q];simp)
    subst e'
    rw[hK (by rw[q];simp)] at e;cases e)
  have hM:Mod K mg (Cg s₁.heap H):=⟨hKb,nsK hns,⟨mb,nsK hb,hbb⟩,let ⟨mc,h1,h2⟩:=hlim;⟨mc,nsK h1,h2⟩⟩
  have e0:Env0 P w K mg (Cg s₁.heap H) callerA [] s₁ H:=⟨rfl,hM,fun b o e=>RQ e,Nat.le_of_eq (Sz _ _),trivial,fun b hb=>absurd (show b∈([]:List Addr) from hb) (by simp),hok,.of_eq hg⟩
  refine codeAny_mono ((F _ hKb (nsK hns)).run callerA [] s₁ H ⟨[.ref a],[]⟩ [.ref a] [.ref a] _ _ hr e0 (hbind s₁ (.ref a)) (.cons rfl .nil) (hsp H hO hS)) fun r s' h=>?_
  cases r with
  | error e=>exact (hCX H e s' h).elim
  | ok fl=>
   cases fl with
   | next=>exact False.elim h
   | brk=>exact False.elim h
   | cont=>exact False.elim h
   | ret u=>
    obtain ⟨v,H',os,bare,un,hok',r',q⟩:=h
    have q':v=.bl true:=q
    subst q'
    obtain rfl:u=Value.bool true:=r'
    refine ⟨rfl,OldK.of_keep fun b o e=>?_,os,bare⟩
    cases q:H b with
    | none=>exact un.keep b o e q (by intro z;exact absurd (show b∈([]:List Addr) from z) (by simp)) (by simp)
    | some u=>
     rcases hO b with z | ⟨ob,xs,z⟩
     ·rw[q] at z;cases z
     ·have z2:=un.frzs b ob _ z
      obtain ⟨e1,_⟩:=hok b _ z
      obtain ⟨e2,_⟩:=hok' b _ z2
      rw[e] at e1;cases e1
      exact e2
 cases hk:K.lookup a with
 | some o=>
  have e:=KX a o hk
  rw[ha] at e
  cases e
  refine core (fun _=>none) (fun _=>.inl rfl) (.inr ⟨_,vs.toArray,_,hk,rfl,rfl,rfl,by rw[List.size_toArray,lenV];exact hl,by simpa using rv⟩) (fun b u z=>by have z':(none:Option HO)=some u:=z;cases z') (fun b z=>absurd rfl z) fun z=>absurd rfl z
 | none=>
  refine core (fun b=>if b=a then some (.frz {cls:=.type "list",data:=.seq vs.toArray} (.lst (ns.map V.int))) else none) (fun b=>?_) (.inl (.inr ⟨{cls:=.type "list",data:=.seq vs.toArray},if_pos rfl⟩)) (fun b u z=>?_) (fun b z=>?_) fun _=>hk
  ·by_cases hb:b=a
   ·exact .inr ⟨_,_,if_pos hb⟩
   ·exact .inl (if_neg hb)
  ·by_cases hb:b=a
   ·have z':=(if_pos hb).symm.trans z
    cases z'
    subst hb
    exact ⟨ha,by rw[List.length_map];exact hl,vs,_,rv,ha⟩
   ·have z':=(if_neg hb).symm.trans z
    cases z'
  ·by_cases hb:b=a
   ·exact hb
   ·exact absurd (if_neg hb) z
def EG (s:Stmt):Arguments:=match s with
 | .FunctionDef _ a _ _ _ _ _ _ _ _=>a
 | _=>{posonlyargs:=[],args:=[],vararg:=none,kwonlyargs:=[],kw_defaults:=[],kwarg:=none,defaults:=[]}
def Co (s:Stmt):List Stmt:=match s with
 | .FunctionDef _ _ b _ _ _ _ _ _ _=>b
 | _=>[]
def AW (s:Stmt):Scope:=match s with
 | .FunctionDef _ _ _ _ _ _ sc _ _ _=>sc
 | _=>{kind:=.function,names:=[],isGenerator:=false,isCoroutine:=false}
abbrev CX0:CXT:=fun _ _ _ _ _ _=>False
abbrev E0:XK:=fun _ _ _=>False
theorem D5 {X:Cx}:ID CX0 X E0:=fun _ _ _ _ _ _ _ h=>h.elim
structure Fun (K:PySem.W.Frag) (x qual:Str) (st:Stmt) (f:Addr) (fd:FuncData):Prop where
 ex:∃ (oc:Value) (od:Option Addr) (kV doc pm:Value) (an:Option Addr) (cdv ct:Value) (osl:Array (Option Value)),
  fd=PySem.W.fnOf x qual (EG st) (Co st) (AW st) .none kV doc pm an cdv ct/\K.lookup f=some ⟨oc,od,.func fd,osl⟩/\PySem.W.codeIn K cdv qual=true
 kp:PySem.W.keepIn K (.ref f)=true
section
variable {P:Program} {w:World} {K:PySem.W.Frag} {mg:Str->Option Value} {base:Heap}
theorem Fun.ok {x qual:Str} {st:Stmt} {f:Addr} {fd:FuncData} {N ps:List Str} {k:Nat} {sp:Sp} (F:Fun K x qual st f fd) (S:FnScope N ps (AW st)) (len:∀ vs H Q E,sp vs H Q E->vs.length=ps.length)
  (hbody:∀ (cdv:Value) (A:Around) (outer:List Env) (s:Shared) (H:Hp) (vs:List V) (Q:VK) (E:XK),Room k (A.deeper (envOfC qual (AW st) s.heap.objs.size f cdv))->sp vs H Q E ->
   ∃ t,PSs (DQ CX0 P w K mg base N qual (AW st) f cdv A outer s H E).nox (Co st) t/\t {nx:=fun _ H'=>Q .non H',rt:=Q} (start N vs) H):FnOk P w K mg base CX0 (k+1) f fd ps sp:=by
 obtain ⟨oc,od,kV,doc,pm,an,cdv,ct,osl,rfl,lk,hcd⟩:=F.ex
 refine UA lk hcd S len fun A outer s H vs Q E hr hsp=>?_
 obtain ⟨t,h,q⟩:=hbody cdv A outer s H vs Q E hr hsp
 exact ⟨t,h.nox,q⟩
theorem Fun.binds {x qual:Str} {st:Stmt} {f:Addr} {fd:FuncData} {ps:List Str} (F:Fun K x qual st f fd)
  (h:∀ (kV doc pm:Value) (an:Option Addr) (cdv ct:Value) (us:List Value),us.length=ps.length->bindArgs (PySem.W.fnOf x qual (EG st) (Co st) (AW st) .none kV doc pm an cdv ct) ⟨us,[]⟩=pure (ps.zip us)):Binds K fd ps []:=by
 obtain ⟨oc,od,kV,doc,pm,an,cdv,ct,osl,rfl,lk,hcd⟩:=F.ex
 exact .all (h kV doc pm an cdv ct)
end
section
variable {X:Cx}
theorem pv (i:Nat) {x:Str} {pos:Pos} (hN:X.N[i]?=some x:=by rfl) (hv:Vis X.env.scope x:=by first | exact Or.inl rfl | exact Or.inr (Or.inl rfl) | exact Or.inr (Or.inr rfl)) (hd:(x == ("__debug__":Str))=false:=by decide)
  (hcd:(x == ("__classdict__":Str))=false:=by decide):PE X (.Name x pos) (FZ i):=UE hN hv hd hcd
end
end L2
namespace HD
open PySem PySem.W PySem.Calls PyProof.Rows L2
def FR (h:Heap):Frag:=(List.range h.objs.size).filterMap fun a=>(h.get? a).map fun o=>(a,o)
theorem Kr {β:Type} {a:Nat} {o:β}:∀ {l:List (Nat×β)},l.lookup a=some o->(a,o)∈l
 | [],h=>by cases h
 | (b,x)::l,h=>by
  rw[List.lookup_cons] at h
  by_cases e:a=b
  ·subst e
   rw[beq_self_eq_true] at h
   cases h
   exact .head _
  ·rw[beq_false_of_ne e] at h
   exact .tail _ (Kr h)
theorem Q5 (h:Heap):(FR h).In h:=by
 intro a o e
 obtain ⟨b,_,hb⟩:=List.mem_filterMap.mp (Kr e)
 obtain ⟨o',h1,h2⟩:=Option.map_eq_some_iff.mp hb
 cases h2
 exact h1
abbrev Sn:=Option (Str×Str×Arguments×FuncBody×Scope×Addr×List (Str×Addr)×Value×Addr×Bool)
def FE (K:Frag) (x:Str):Sn:=match nsIn K mainGlobals x with
 | some (some (.ref f))=>(match K.lookup f with
  | some ⟨_,_,.func d,_⟩=>some (d.name,d.qualname,d.params,d.body,d.scope,d.globals,d.closure,d.defaults,d.builtins,codeIn K d.code x)
  | _=>none)
 | _=>none
def FW (p:Str×Stmt):Sn:=some (p.1,p.1,EG p.2,.stmts (Co p.2),AW p.2,mainGlobals,[],.none,builtinsNs,true)
theorem BK {K:Frag} {x:Str} {st:Stmt} (h:FE K x=FW (x,st)):∃ (f:Addr) (fd:FuncData),nsIn K mainGlobals x=some (some (.ref f))/\Fun K x x st f fd:=by
 unfold FE at h
 split at h
 ·rename_i f hn
  split at h
  ·rename_i oc od d sl hl
   simp only[FW,Option.some.injEq,Prod.mk.injEq] at h
   obtain ⟨d1,d2,d3,d4,d5,d6,d7,d8,d9,c⟩:=h
   have z:d=fnOf x x (EG st) (Co st) (AW st) .none d.kwdefaults d.doc d.pyModule d.annotations d.code d.closureTuple:=by
    cases d
    simp only[FuncData.mk.injEq]
    exact ⟨d1,d2,d3,d4,d5,d6,d7,d8,trivial,trivial,trivial,trivial,trivial,trivial,d9⟩
   refine ⟨f,d,hn,⟨?_,?_⟩⟩
   ·exact ⟨oc,od,d.kwdefaults,d.doc,d.pyModule,d.annotations,d.code,d.closureTuple,sl,z,hl,c⟩
   ·show (match K.lookup f with | some ⟨_,_,.func _,_⟩=>true | some ⟨_,_,.cls _,_⟩=>_ | _=>false)=true
    rw[hl]
  ·cases h
 ·cases h
theorem A4 {α β:Type} {g h:α->β}:∀ {L:List α} {i:Nat} {x:α},L.map g=L.map h->L[i]?=some x->g x=h x
 | [],_,_,_,e=>by cases e
 | y::L,0,x,m,e=>by cases e;exact (List.cons.inj m).1
 | y::L,i+1,x,m,e=>A4 (List.cons.inj m).2 e
def GD (K:Frag) (x:Str):Option Int:=match nsIn K mainGlobals x with
 | some (some (.int n _))=>some n
 | _=>none
theorem int_at {K:Frag} {x:Str} {n:Int} (h:GD K x=some n):∃ ty,nsIn K mainGlobals x=some (some (.int n ty)):=by
 unfold GD at h
 split at h
 ·cases h;rename_i ty e;exact ⟨ty,e⟩
 ·cases h
def HH (K:Frag) (x:Str):Option Str:=match nsIn K mainGlobals x with
 | some (some (.str n _))=>some n
 | _=>none
theorem Tn {K:Frag} {x n:Str} (h:HH K x=some n):∃ ty,nsIn K mainGlobals x=some (some (.str n ty)):=by
 unfold HH at h
 split at h
 ·cases h;rename_i ty e;exact ⟨ty,e⟩
 ·cases h
def stp (p:Program) (N:Nat) (w:World) (os:OsState):Option Shared:=
 topRun treeTable p w (boot_heap w.params).objs.size ((boot_heap w.params).nsMap mainGlobals "__annotations__") N ⟨boot_heap w.params,Array.mk [],boot_drawn,boot_toks,os⟩ (topStub p)
theorem Pw:(fun P=>(boot_heap P).isNs mainGlobals && (Array.mk []:Array GenState).size == 0)=fun _=>true:=by kernel_rfl
def L6 (p q:Program) (loose:List Str) (N:Nat) (w:World) (os:OsState):=(stp p N w os).map fun s=>openSeen q loose (importedModules p.main.body) (fun _=>true) true s
def Ni {α:Type} (p:Program) (N:Nat) (obs:Frag->α) (w:World) (os:OsState):=(stp p N w os).map fun s=>obs (FR s.heap)
def runC (p:Program) (N:Nat) (w:World) (os:OsState):=(stp p N w os).map fun s=>staticsOk (importedModules p.main.body) (boot_heap w.params) s.heap && namesBound p s.heap && gensDone s && laidKept (boot_heap w.params) s.heap
theorem Uj {α:Type} {p q:Program} {loose:List Str} {N:Nat} {obs:Frag->α} {val:α} (e:opening p=plainProg p.main.scope.names) (hN:Nat.ble 600 N=true) (f:∀ s,fenceModules? p s=some s)
  (hA:∀ w os,L6 p q loose N w os=some (openGood q loose)) (hB:∀ w os,Ni p N obs w os=some val) (hC:∀ w os,runC p N w os=some true):LeftO p q loose (fun _=>true) (fun s=>obs (FR s.heap)) (fun _=>val) N:=fun w=>by
 obtain ⟨⟨H,gs,d,k,os⟩,e1,e2⟩:=Option.map_eq_some_iff.mp (boot_open e hN f w)
 simp only[Prod.mk.injEq] at e2
 obtain ⟨rfl,rfl,rfl,rfl⟩:=e2
 obtain ⟨s,h1,h2⟩:=Option.map_eq_some_iff.mp (hA w os)
 obtain ⟨s',h3,h4⟩:=Option.map_eq_some_iff.mp (hB w os)
 obtain ⟨s2,h5,h6⟩:=Option.map_eq_some_iff.mp (hC w os)
 rw[h1] at h3 h5
 cases h3
 cases h5
 unfold openEnds
 rw[e1]
 have z:topFrom treeTable p w N ⟨boot_heap w.params,Array.mk [],boot_drawn,boot_toks,os⟩=some s:=by
  unfold topFrom
  dsimp only
  rw[congrFun Pw w.params]
  show (stp p N w os).bind _=_
  rw[h1]
  show (match _ with | true=>some s | false=>none)=_
  rw[h6]
 show (topFrom treeTable p w N _).map _=_
 rw[z,Option.map_some,h2]
 exact congrArg (fun z=>some (openGood q loose,z)) h4
theorem VO {α:Type} {l:OpenLaw} {n k:Nat} {q:Program} {loose:List Str} {XP:(Str->Option Value)->Heap->Prop} {d:DefRec} {obs:Frag->α} {val:α} {x:Str} {sp:Frag->Sp}
  (hn:l.most=some n) (hn2:n<=sizeLine) (hdf:d.params.defaults=[]) (hr:Room k callerA)
  (F:∀ (w:World) (K:Frag) (mg:Str->Option Value) (fa:Addr) (h:Heap),obs K=val->K.In h->h.Ns mainGlobals mg->mg d.name=some (.ref fa) ->
   ∃ fd:FuncData,(∀ (s:Shared) (u:Value),BindsTo s fd ⟨[u],[]⟩ [(x,u)])/\∀ base:Heap,K.In base->base.Ns mainGlobals mg->FnOk l.prog w K mg base CX0 k fa fd [x] (sp K))
  (hsp:∀ (K:Frag) (H:Hp) (a:Addr) (ns:List Int),ns.length<=n->IM H->SqL K H a (ns.map V.int)->sp K [.ref a] H (fun v _=>v=.bl true) fun _ _ _=>False) :
  WalkO q loose XP (fun _ h=>∃ K:Frag,obs K=val/\K.In h) l.row.toRowW d [] (fun f vs=>PySem.call f vs):=by
 refine Att.RT hn hdf fun w s0 s1 mg mb fa o pm cd doc a vs ns G Y ho hd hcd hmg hobj hints hlen hg=>?_
 obtain ⟨K,hK,KX⟩:=Y
 obtain ⟨fd,hb,hF⟩:=F w K mg fa _ hK KX G.T.g hmg
 exact RU KX G.T.g G.T.b G.T.builtins G.T.nolimit hg hobj hints (Nat.le_trans hlen hn2) hr hF hb (fun H hO hS=>hsp K H a ns hlen hO hS) fun _ _ _ z=>z
theorem U6 {α:Type} {l:OpenLaw} {q:Program} {loose:List Str} {N:Nat} {obs:Frag->α} {val:α} {d:DefRec} {kwd:List (Str×Expr)} (said:l.row.wellSaid=true)
  (e:opening l.prog=plainProg l.prog.main.scope.names) (hN:Nat.ble 600 N=true) (f:∀ s,fenceModules? l.prog s=some s) (hA:∀ w os,L6 l.prog q loose N w os=some (openGood q loose)) (hB:∀ w os,Ni l.prog N obs w os=some val) (hC:∀ w os,runC l.prog N w os=some true)
  (hdef:defOf q l.name=some (d,kwd)) (hp:l.prog.theDef l.name=some (d.params,d.body,d.scope)) (hk:kwWritten? d.params.kwonlyargs d.params.kw_defaults=some kwd)
  (hwr:(!l.row.writes || l.row.records.isEmpty)=true) (ok:(chainsOk q && opensWell l.prog && (frees l.row.toRowW && l.row.within.isEmpty))=true) (hb:l.prog.bare) (hw:l.row.toRowW.promised)
  (call:WalkO q loose (fun _ _=>True) (fun _ h=>∃ K:Frag,obs K=val/\K.In h) l.row.toRowW d kwd fun f vs=>PySem.call f vs):l.row.Holds:=
 holds_open (r:=l.row) (q:=q) (loose:=loose) (Xt:=fun _=>true) (XP:=fun _ _=>True) (YP:=fun _ h=>∃ K:Frag,obs K=val/\K.In h) (N:=N) (Uj e hN f hA hB hC)
  (fun _ s y=>⟨_,y,Q5 s.heap⟩) (fun _ _ _ ⟨K,a,b⟩ k=>⟨K,a,b.keeps k⟩) (fun _ _=>trivial) (fun _ _ _ _ _=>trivial) hdef hp hk (fun _ _=>⟨fun _ z=>(nomatch z),fun _ z=>(nomatch z),fun _ _ _ z=>(nomatch z),fun _ _ z=>(nomatch z)⟩) hwr said ok hb hw call
end HD
namespace DL
open PySem L2 HD PySem.W
def tp (i:Nat):Stmt:=PySem.Challenge.pw_evenlots_k46_whole_one_writing_each.main.body.getD i (.Pass ⟨0,0,0,0⟩)
def qv:Program:={PySem.Challenge.pw_evenlots_k46_whole_one_writing_each with main:={PySem.Challenge.pw_evenlots_k46_whole_one_writing_each.main with body:=[tp 32]}}
def lse:List Str:=(PySem.Challenge.pw_evenlots_k46_whole_one_writing_each.main.scope.names.map (·.1)).filter fun x=>!(x == "law")
def fns:List (Str×Stmt):=[("_law_numbers",tp 23),("_law_deck",tp 24),("_law_cell_at",tp 22),("_law_take",tp 25),("_law_key",tp 26),("_law_tag",tp 27),("_law_rows",tp 28),("_law_otherwise",tp 31),("show_thing",tp 12),("show_row",tp 13),("show_rows",tp 14),("are_figures",tp 16),("is_key",tp 17),("is_tag",tp 6),("read_thing",tp 18),("read_row",tp 19),("read_rows",tp 20),("names_of_hand",tp 7),("names_plainly",tp 8),("show_name",tp 15),("law",tp 32)]
def bls:List Str:=["len","range","isinstance","bool","int","str","list","tuple","zip","enumerate","sorted","max","min","abs","sum","all","any","set"]
def nts:List (Str×Int):=[("MOST_FIGURES",30),("MOST_LETTERS",8),("MOST_HANDS",6)]
def ob (K:Frag):=(fns.map fun p=>FE K p.1,bls.map fun x=>nsIn K mainGlobals x,nts.map fun p=>GD K p.1,HH K "NO_THINGS")
def vl:List Sn×List (Option (Option Value))×List (Option Int)×Option Str:=(fns.map FW,bls.map fun _=>some none,nts.map fun p=>some p.2,some "-")
def RUA (w:World) (os:OsState):=(topRun treeTable PySem.Challenge.pw_evenlots_k46_whole_one_writing_each w (boot_heap w.params).objs.size ((boot_heap w.params).nsMap mainGlobals "__annotations__") 100000 ⟨boot_heap w.params,Array.mk [],boot_drawn,boot_toks,os⟩ (topStub PySem.Challenge.pw_evenlots_k46_whole_one_writing_each)).map fun (s:Shared)=>openSeen qv lse (importedModules PySem.Challenge.pw_evenlots_k46_whole_one_writing_each.main.body) (fun _=>true) true s
def RUB (w:World) (os:OsState):=(topRun treeTable PySem.Challenge.pw_evenlots_k46_whole_one_writing_each w (boot_heap w.params).objs.size ((boot_heap w.params).nsMap mainGlobals "__annotations__") 100000 ⟨boot_heap w.params,Array.mk [],boot_drawn,boot_toks,os⟩ (topStub PySem.Challenge.pw_evenlots_k46_whole_one_writing_each)).map fun (s:Shared)=>ob (FR s.heap)
def RUC (w:World) (os:OsState):=(topRun treeTable PySem.Challenge.pw_evenlots_k46_whole_one_writing_each w (boot_heap w.params).objs.size ((boot_heap w.params).nsMap mainGlobals "__annotations__") 100000 ⟨boot_heap w.params,Array.mk [],boot_drawn,boot_toks,os⟩ (topStub PySem.Challenge.pw_evenlots_k46_whole_one_writing_each)).map fun (s:Shared)=>staticsOk (importedModules PySem.Challenge.pw_evenlots_k46_whole_one_writing_each.main.body) (boot_heap w.params) s.heap && namesBound PySem.Challenge.pw_evenlots_k46_whole_one_writing_each s.heap && gensDone s && laidKept (boot_heap w.params) s.heap
theorem Pi:RUA=fun _ _=>some (openGood qv lse):=by
 have h0:Function.const _ true RUA=true:=by k_qdec
 clear h0
 rw[PySem.W.Fast.te7901502448135333141,PySem.W.Fast.te17113634627043827754,PySem.W.Fast.te11101308186888466343]
 kernel_rfl
theorem SI:RUB=fun _ _=>some vl:=by
 have h0:Function.const _ true RUB=true:=by k_qdec
 have h1:Function.const _ true vl=true:=by k_qdec
 clear h0 h1
 rw[PySem.W.Fast.te2813855401462900763,PySem.W.Fast.te15028064660855214787]
 kernel_rfl
theorem Tv:RUC=fun _ _=>some true:=by
 have h0:Function.const _ true RUC=true:=by k_qdec
 clear h0
 rw[PySem.W.Fast.te7225883687914735966]
 kernel_rfl
end DL
namespace EvS
open PySem PyProof.Rows
abbrev SM:=StateT SortSt Sem
def gal:Bool->Keyed->Array Keyed->Nat->Nat->Nat->SM (Option Nat):=sortPriv% PySem.Builtin.gallop
def mLo:Array Keyed->Array Keyed->SM (Array Keyed):=sortPriv% PySem.Builtin.mergeLo
def mHi:Array Keyed->Array Keyed->SM (Array Keyed):=sortPriv% PySem.Builtin.mergeHi
abbrev setG (st:SortSt) (g:Nat):SortSt:=SortSt.mk' (kindOf st) (arrOf st) (pendingOf st) g (failedOf st)
def byd (left:Bool) (key:Keyed) (xs:Array Keyed) (b i:Nat):SM (Option Bool):=do
 let x <-elem' xs (b+i)
 if left then lt' x key else return (<-lt' key x).map (!·)
def MN (left:Bool) (key:Keyed) (xs:Array Keyed) (b n lo0 hi0:Nat):SM (Option Nat):=do
 let mut lo:=lo0
 let mut hi:=hi0
 for _ in [0:n] do
  if lo>=hi then break
  let m:=lo+(hi - lo) / 2
  let some mo <-byd left key xs b m | return none
  if mo then lo:=m+1 else hi:=m
 return some hi
theorem TM (left:Bool) (key:Keyed) (xs:Array Keyed) (b n h:Nat):gal left key xs b n h=(do
 let mut la:=0
 let mut of:=1
 let mut lo:=0
 let mut hi:=0
 let some right <-byd left key xs b h | return none
 if right then
  let mx:=n - h
  for _ in [0:n] do
   if of>=mx then break
   let some mo <-byd left key xs b (h+of) | return none
   if !mo then break
   la:=of
   of:=2 * of+1
  lo:=h+la+1
  hi:=h+min of mx
 else
  let mx:=h+1
  for _ in [0:n] do
   if of>=mx then break
   let some fo <-byd left key xs b (h - of) | return none
   if fo then break
   la:=of
   of:=2 * of+1
  lo:=h+1 - min of mx
  hi:=h - la
 for _ in [0:n] do
  if lo>=hi then break
  let m:=lo+(hi - lo) / 2
  let some mo <-byd left key xs b m | return none
  if mo then lo:=m+1 else hi:=m
 return some hi):=rfl
structure Cmp (prog:Program) (w:World) (A:Around) (E:Value->Shared->Prop) (s:Shared) (kd:SortKind) (good:Keyed->Prop) (lt:Keyed->Keyed->Bool):Prop where
 run:∀ {st:SortSt} {x y:Keyed} {Q:Option Bool->SortSt->Prop},kindOf st=kd->good x->good y->Q (some (lt x y)) st->wpS (model prog w) A E s (lt' x y) Q st
def bq (lt:Keyed->Keyed->Bool) (left:Bool) (key x:Keyed):Bool:=if left then lt x key else !lt key x
section
variable {prog:Program} {w:World} {A:Around} {E:Value->Shared->Prop} {s:Shared} {kd:SortKind} {good:Keyed->Prop} {lt:Keyed->Keyed->Bool} {st:SortSt}
theorem BI {xs:Array Keyed} {i:Nat} {x:Keyed} {Q:Keyed->SortSt->Prop} (hx:xs[i]?=some x) (h:Q x st):wpS (model prog w) A E s (elem' xs i) Q st:=by
 rw[elem'_eq,hx]
 exact wpS_pure h
theorem HE (C:Cmp prog w A E s kd good lt) {left:Bool} {key x:Keyed} {xs:Array Keyed} {b i:Nat} {Q:Option Bool->SortSt->Prop} (hk:kindOf st=kd) (hg:good key) (hx:xs[b+i]?=some x) (hgx:good x)
  (h:Q (some (bq lt left key x)) st):wpS (model prog w) A E s (byd left key xs b i) Q st:=by
 unfold byd
 refine wpS_bind (BI hx ?_)
 cases left with
 | true=>
  simp only[if_true]
  exact C.run hk hgx hg h
 | false=>
  simp only[Bool.false_eq_true,if_false]
  exact wpS_bind (C.run hk hg hgx (wpS_pure h))
variable {left:Bool} {key:Keyed} {xs:Array Keyed} {b n:Nat} {B:Nat->Bool} {Q:Option Nat->SortSt->Prop}
theorem Jh (C:Cmp prog w A E s kd good lt) (hk:kindOf st=kd) (hg:good key) (hall:∀ i,i<n->∃ x,xs[b+i]?=some x/\good x/\bq lt left key x=B i)
  (hB:∀ i j,i<=j->j<n->B j=true->B i=true) {lo hi:Nat} (h1:lo<=hi) (h2:hi<=n) (hlo:∀ i,i<lo->B i=true) (hhi:∀ i,hi<=i->i<n->B i=false)
  (hQ:∀ k,k<=n->(∀ i,i<k->B i=true)->(∀ i,k<=i->i<n->B i=false)->Q (some k) st):wpS (model prog w) A E s (MN left key xs b n lo hi) Q st:=by
 unfold MN
 refine wpS_bind (wpS_mono (wpS_forRange (I:=fun x c st'=>st'=st/\∃ l r,c=(none,l,r)/\l<=r/\r<=n/\r - l<=n - x/\(∀ i,i<l->B i=true)/\(∀ i,r<=i->i<n->B i=false))
  (Q:=fun c st'=>st'=st/\∃ r,c.1=none/\c.2.2=r/\r<=n/\(∀ i,i<r->B i=true)/\(∀ i,r<=i->i<n->B i=false)) ?step ?fin ⟨rfl,lo,hi,rfl,h1,h2,by lia,hlo,hhi⟩) ?post)
 case fin=>
  rintro c st' ⟨rfl,l,r,rfl,a1,a2,a3,a4,a5⟩
  have:l=r:=by lia
  subst this
  exact ⟨rfl,l,rfl,rfl,a2,a4,a5⟩
 case step=>
  rintro x c st' _ hx ⟨rfl,l,r,rfl,a1,a2,a3,a4,a5⟩
  dsimp only
  by_cases hge:l>=r
  ·rw[if_pos hge]
   have:l=r:=by lia
   subst this
   exact wpS_pure ⟨rfl,l,rfl,rfl,a2,a4,a5⟩
  ·rw[if_neg hge]
   obtain ⟨y,e1,e2,e3⟩:=hall (l+(r - l) / 2) (by lia)
   refine wpS_bind (HE C hk hg e1 e2 ?_)
   rw[e3]
   cases hb:B (l+(r - l) / 2) with
   | true=>
    simp only[if_true]
    refine wpS_pure ⟨rfl,_,r,rfl,by lia,a2,by lia,fun i hi=>?_,a5⟩
    exact hB i (l+(r - l) / 2) (by lia) (by lia) hb
   | false=>
    simp only[Bool.false_eq_true,if_false]
    refine wpS_pure ⟨rfl,l,_,rfl,by lia,by lia,by lia,a4,fun i hi1 hi2=>?_⟩
    cases hbi:B i with
    | false=>rfl
    | true=>rw[hB _ i hi1 hi2 hbi] at hb;cases hb
 case post=>
  rintro ⟨c1,c2,c3⟩ st' ⟨rfl,r,e1,e2,a2,a4,a5⟩
  dsimp only at e1 e2
  subst e1 e2
  exact wpS_pure (hQ _ a2 a4 a5)
theorem VD (C:Cmp prog w A E s kd good lt) (hk:kindOf st=kd) (hg:good key) (hall:∀ i,i<n->∃ x,xs[b+i]?=some x/\good x/\bq lt left key x=B i)
  (hB:∀ i j,i<=j->j<n->B j=true->B i=true) {h:Nat} (hh:h<n)
  (hQ:∀ k,k<=n->(∀ i,i<k->B i=true)->(∀ i,k<=i->i<n->B i=false)->Q (some k) st):wpS (model prog w) A E s (gal left key xs b n h) Q st:=by
 rw[TM]
 dsimp only
 have hF:∀ i j,i<=j->j<n->B i=false->B j=false:=fun i j h1 h2 h3=>by
  cases hbj:B j with
  | false=>rfl
  | true=>rw[hB i j h1 h2 hbj] at h3;cases h3
 obtain ⟨y,e1,e2,e3⟩:=hall h hh
 refine wpS_bind (HE C hk hg e1 e2 ?_)
 rw[e3]
 cases hbh:B h with
 | true=>
  simp only[if_true]
  refine wpS_bind (wpS_mono (wpS_forRange (I:=fun x c st'=>st'=st/\∃ la of,c=(none,la,of)/\la<of/\x+1<=of/\h+la<n/\B (h+la)=true)
   (Q:=fun c st'=>st'=st/\∃ la of,c=(none,la,of)/\la<of/\h+la<n/\B (h+la)=true/\(n - h<=of\/(h+of<n/\B (h+of)=false))) ?step ?fin ⟨rfl,0,1,rfl,by lia,by lia,by lia,hbh⟩) ?post)
  case fin=>
   rintro c st' ⟨rfl,la,of,rfl,a1,a2,a3,a4⟩
   exact ⟨rfl,la,of,rfl,a1,a3,a4,.inl (by lia)⟩
  case step=>
   rintro x c st' _ hx ⟨rfl,la,of,rfl,a1,a2,a3,a4⟩
   dsimp only
   by_cases hge:of>=n - h
   ·rw[if_pos hge]
    exact wpS_pure ⟨rfl,la,of,rfl,a1,a3,a4,.inl hge⟩
   ·rw[if_neg hge]
    obtain ⟨z,f1,f2,f3⟩:=hall (h+of) (by lia)
    refine wpS_bind (HE C hk hg f1 f2 ?_)
    rw[f3]
    cases hb:B (h+of) with
    | true=>
     simp only[Bool.not_true,Bool.false_eq_true,if_false]
     exact wpS_pure ⟨rfl,of,2 * of+1,rfl,by lia,by lia,by lia,hb⟩
    | false=>
     simp only[Bool.not_false,if_true]
     exact wpS_pure ⟨rfl,la,of,rfl,a1,a3,a4,.inr ⟨by lia,hb⟩⟩
  case post=>
   rintro c st' ⟨rfl,la,of,rfl,a1,a3,a4,a5⟩
   dsimp only
   refine Jh (lo:=h+la+1) (hi:=h+min of (n - h)) C hk hg hall hB (by lia) (by lia) (fun i hi=>hB i (h+la) (by lia) a3 a4) (fun i h1 h2=>?_) hQ
   rcases a5 with z | ⟨z1,z2⟩
   ·lia
   ·exact hF (h+of) i (by lia) h2 z2
 | false=>
  simp only[Bool.false_eq_true,if_false]
  refine wpS_bind (wpS_mono (wpS_forRange (I:=fun x c st'=>st'=st/\∃ la of,c=(none,la,of)/\la<of/\x+1<=of/\la<=h/\B (h - la)=false)
   (Q:=fun c st'=>st'=st/\∃ la of,c=(none,la,of)/\la<of/\la<=h/\B (h - la)=false/\(h+1<=of\/(of<=h/\B (h - of)=true))) ?step ?fin ⟨rfl,0,1,rfl,by lia,by lia,by lia,hbh⟩) ?post)
  case fin=>
   rintro c st' ⟨rfl,la,of,rfl,a1,a2,a3,a4⟩
   exact ⟨rfl,la,of,rfl,a1,a3,a4,.inl (by lia)⟩
  case step=>
   rintro x c st' _ hx ⟨rfl,la,of,rfl,a1,a2,a3,a4⟩
   dsimp only
   by_cases hge:of>=h+1
   ·rw[if_pos hge]
    exact wpS_pure ⟨rfl,la,of,rfl,a1,a3,a4,.inl hge⟩
   ·rw[if_neg hge]
    obtain ⟨z,f1,f2,f3⟩:=hall (h - of) (by lia)
    refine wpS_bind (HE C hk hg f1 f2 ?_)
    rw[f3]
    cases hb:B (h - of) with
    | true=>
     simp only[if_true]
     exact wpS_pure ⟨rfl,la,of,rfl,a1,a3,a4,.inr ⟨by lia,hb⟩⟩
    | false=>
     simp only[Bool.false_eq_true,if_false]
     exact wpS_pure ⟨rfl,of,2 * of+1,rfl,by lia,by lia,by lia,hb⟩
  case post=>
   rintro c st' ⟨rfl,la,of,rfl,a1,a3,a4,a5⟩
   dsimp only
   refine Jh (lo:=h+1 - min of (h+1)) (hi:=h - la) C hk hg hall hB (by lia) (by lia) (fun i hi=>?_) (fun i h1 h2=>hF (h - la) i h1 h2 a4) hQ
   rcases a5 with z | ⟨z1,z2⟩
   ·lia
   ·exact hB i (h - of) (by lia) (by lia) z2
end
def Cn:Nat->SM Unit:=sortPriv% PySem.Builtin.setMinGallop
theorem FQ (g:Nat):Cn g=modify fun s=>setG s g:=rfl
abbrev dnA (a b o:Array Keyed) (p q:Nat):Array Keyed:=o++a.extract p a.size++b.extract q b.size
abbrev lAA (a b o:Array Keyed) (p q:Nat):Array Keyed:=o++b.extract q b.size++a.extract p a.size
theorem Sv (a b:Array Keyed):mLo a b=(do
 rule "list.sort.merge-lo"
 let mut o:Array Keyed:=#[<-elem' b 0]
 let mut p:=0
 let mut q:=1
 if q == b.size then return dnA a b o p q
 if p+1 == a.size then return lAA a b o p q
 let mut mg:=gallopOf (<-get)
 for _ in [0:a.size+b.size] do
  let mut ac:=0
  let mut bc:=0
  for _ in [0:a.size+b.size] do
   let some bw <-lt' (<-elem' b q) (<-elem' a p) | return dnA a b o p q
   if bw then
    o:=o.push (<-elem' b q);q:=q+1;bc:=bc+1;ac:=0
    if q == b.size then return dnA a b o p q
    if bc>=mg then break
   else
    o:=o.push (<-elem' a p);p:=p+1;ac:=ac+1;bc:=0
    if p+1 == a.size then return lAA a b o p q
    if ac>=mg then break
  rule "list.sort.gallop"
  mg:=mg+1
  for _ in [0:a.size+b.size] do
   if mg > 1 then mg:=mg - 1
   Cn mg
   let some k <-gal false (<-elem' b q) a p (a.size - p) 0 | return dnA a b o p q
   ac:=k
   if k > 0 then
    o:=o++a.extract p (p+k);p:=p+k
    if p+1 == a.size then return lAA a b o p q
    if p == a.size then return dnA a b o p q
   o:=o.push (<-elem' b q);q:=q+1
   if q == b.size then return dnA a b o p q
   let some k <-gal true (<-elem' a p) b q (b.size - q) 0 | return dnA a b o p q
   bc:=k
   if k > 0 then
    o:=o++b.extract q (q+k);q:=q+k
    if q == b.size then return dnA a b o p q
   o:=o.push (<-elem' a p);p:=p+1
   if p+1 == a.size then return lAA a b o p q
   if ac<7 && bc<7 then break
  mg:=mg+1
  Cn mg
 unsupported "internal:list.sort.merge-bound"):=rfl
structure Ord (good:Keyed->Prop) (lt:Keyed->Keyed->Bool):Prop where
 tr:∀ {x y z},good x->good y->good z->lt y x=false->lt z y=false->lt z x=false
 tot:∀ {x y},good x->good y->lt x y=true->lt y x=false
abbrev LE (lt:Keyed->Keyed->Bool) (x y:Keyed):Prop:=lt y x=false
structure SL (good:Keyed->Prop) (lt:Keyed->Keyed->Bool) (l:List Keyed):Prop where
 all:∀ x∈l,good x
 srt:l.Pairwise (LE lt)
structure MI (good:Keyed->Prop) (lt:Keyed->Keyed->Bool) (a b o:List Keyed) (p q:Nat):Prop where
 perm:(o++(a.drop p++b.drop q)).Perm (a++b)
 srt:o.Pairwise (LE lt)
 low:∀ x∈o,∀ y∈a.drop p++b.drop q,LE lt x y
 pa:p<=a.length
 qb:q<=b.length
section
variable {good:Keyed->Prop} {lt:Keyed->Keyed->Bool} {a b o:List Keyed} {p q k:Nat} {x:Keyed}
theorem MI.size (m:MI good lt a b o p q):o.length=p+q:=by
 have e:=m.perm.length_eq
 have:=m.pa
 have:=m.qb
 rw[List.length_append,List.length_append,List.length_append,List.length_drop,List.length_drop] at e
 lia
theorem EO {l:List Keyed} {i:Nat} (h:l[i]?=some x):l.drop i=x::l.drop (i+1):=by
 obtain ⟨hi,e⟩:=List.getElem?_eq_some_iff.mp h
 rw[List.drop_eq_getElem_cons hi,e]
theorem SL.from (s:SL good lt a) {i:Nat} (h:a[i]?=some x):∀ y∈a.drop i,y=x\/LE lt x y:=fun y hy=>by
 rw[EO h] at hy
 rcases List.mem_cons.mp hy with z | z
 ·exact .inl z
 ·have hp:(a.drop i).Pairwise (LE lt):=s.srt.sublist (List.drop_sublist _ _)
  rw[EO h] at hp
  exact .inr ((List.pairwise_cons.mp hp).1 y z)
theorem SL.up (s:SL good lt a) {i j:Nat} {y:Keyed} (h:a[i]?=some x) (h':a[j]?=some y) (hij:i<j):LE lt x y:=by
 obtain ⟨hi,e⟩:=List.getElem?_eq_some_iff.mp h
 obtain ⟨hj,e'⟩:=List.getElem?_eq_some_iff.mp h'
 rw[<-e,<-e']
 exact List.pairwise_iff_getElem.mp s.srt i j hi hj hij
theorem SL.good_at (s:SL good lt a) {i:Nat} (h:a[i]?=some x):good x:=s.all x (List.mem_of_getElem? h)
theorem MI.pushA (m:MI good lt a b o p q) (sa:SL good lt a) (h:a[p]?=some x) (hb:∀ y∈b.drop q,LE lt x y):MI good lt a b (o++[x]) (p+1) q:=by
 have hd:=EO h
 obtain ⟨hp,_⟩:=List.getElem?_eq_some_iff.mp h
 refine ⟨?_,?_,?_,hp,m.qb⟩
 ·have e:=m.perm
  rw[hd] at e
  simpa [List.append_assoc] using e
 ·refine List.pairwise_append.mpr ⟨m.srt,List.pairwise_singleton _ _,fun y hy z hz=>?_⟩
  rw[List.mem_singleton] at hz
  subst hz
  exact m.low y hy z (by rw[hd];simp)
 ·intro y hy z hz
  rcases List.mem_append.mp hy with hy | hy
  ·exact m.low y hy z (by rw[hd];rcases List.mem_append.mp hz with w | w<;>simp[w])
  ·rw[List.mem_singleton] at hy
   subst hy
   rcases List.mem_append.mp hz with w | w
   ·have hp2:(a.drop p).Pairwise (LE lt):=sa.srt.sublist (List.drop_sublist _ _)
    rw[hd] at hp2
    exact (List.pairwise_cons.mp hp2).1 z w
   ·exact hb z w
theorem MI.pushB (m:MI good lt a b o p q) (sb:SL good lt b) (h:b[q]?=some x) (ha:∀ y∈a.drop p,LE lt x y):MI good lt a b (o++[x]) p (q+1):=by
 have hd:=EO h
 obtain ⟨hq,_⟩:=List.getElem?_eq_some_iff.mp h
 refine ⟨?_,?_,?_,m.pa,hq⟩
 ·have e:=m.perm
  rw[hd] at e
  refine List.Perm.trans ?_ e
  rw[List.append_assoc]
  refine List.Perm.append_left _ ?_
  show (x::(a.drop p++b.drop (q+1))).Perm (a.drop p++x::b.drop (q+1))
  exact List.perm_middle.symm
 ·refine List.pairwise_append.mpr ⟨m.srt,List.pairwise_singleton _ _,fun y hy z hz=>?_⟩
  rw[List.mem_singleton] at hz
  subst hz
  exact m.low y hy z (by rw[hd];simp)
 ·intro y hy z hz
  rcases List.mem_append.mp hy with hy | hy
  ·exact m.low y hy z (by rw[hd];rcases List.mem_append.mp hz with w | w<;>simp[w])
  ·rw[List.mem_singleton] at hy
   subst hy
   rcases List.mem_append.mp hz with w | w
   ·exact ha z w
   ·have hp2:(b.drop q).Pairwise (LE lt):=sb.srt.sublist (List.drop_sublist _ _)
    rw[hd] at hp2
    exact (List.pairwise_cons.mp hp2).1 z w
theorem NC {l:List Keyed} {i k:Nat} {x:Keyed} (h:l[i+k]?=some x):(l.drop i).take (k+1)=(l.drop i).take k++[x]:=by
 rw[List.take_add_one,List.getElem?_drop,h]
 rfl
theorem MI.blockA (m:MI good lt a b o p q) (sa:SL good lt a):∀ k,p+k<=a.length->(∀ i y,i<k->a[p+i]?=some y->∀ z∈b.drop q,LE lt y z)->MI good lt a b (o++(a.drop p).take k) (p+k) q
 | 0,_,_=>by simpa using m
 | k+1,hk,h=>by
  have ih:=MI.blockA m sa k (by lia) fun i y hi=>h i y (by lia)
  have e:a[p+k]?=some a[p+k]:=List.getElem?_eq_getElem (by lia)
  have r:=ih.pushA sa e (h k _ (by lia) e)
  rw[List.append_assoc,<-NC e] at r
  exact r
theorem MI.blockB (m:MI good lt a b o p q) (sb:SL good lt b):∀ k,q+k<=b.length->(∀ i y,i<k->b[q+i]?=some y->∀ z∈a.drop p,LE lt y z)->MI good lt a b (o++(b.drop q).take k) p (q+k)
 | 0,_,_=>by simpa using m
 | k+1,hk,h=>by
  have ih:=MI.blockB m sb k (by lia) fun i y hi=>h i y (by lia)
  have e:b[q+k]?=some b[q+k]:=List.getElem?_eq_getElem (by lia)
  have r:=ih.pushB sb e (h k _ (by lia) e)
  rw[List.append_assoc,<-NC e] at r
  exact r
def Good (lt:Keyed->Keyed->Bool) (a b:List Keyed) (r:List Keyed):Prop:=r.Perm (a++b)/\r.Pairwise (LE lt)
theorem MI.done (m:MI good lt a b o p q) (sa:SL good lt a) (sb:SL good lt b) (h:a.drop p=[]\/b.drop q=[]):Good lt a b (o++a.drop p++b.drop q):=by
 refine ⟨by rw[List.append_assoc];exact m.perm,?_⟩
 rw[List.append_assoc]
 refine List.pairwise_append.mpr ⟨m.srt,?_,m.low⟩
 rcases h with h | h
 ·rw[h,List.nil_append];exact sb.srt.sublist (List.drop_sublist _ _)
 ·rw[h,List.append_nil];exact sa.srt.sublist (List.drop_sublist _ _)
theorem MI.last (m:MI good lt a b o p q) (sb:SL good lt b) (h:a[p]?=some x) (hp:p+1=a.length) (hx:∀ y∈b,LE lt y x):Good lt a b (o++b.drop q++a.drop p):=by
 have hd:a.drop p=[x]:=by rw[EO h,List.drop_eq_nil_of_le (by lia)]
 constructor
 ·refine List.Perm.trans ?_ m.perm
  rw[List.append_assoc]
  exact List.Perm.append_left _ List.perm_append_comm
 ·rw[List.append_assoc]
  refine List.pairwise_append.mpr ⟨m.srt,?_,fun y hy z hz=>m.low y hy z (by rcases List.mem_append.mp hz with w | w<;>simp[w])⟩
  refine List.pairwise_append.mpr ⟨sb.srt.sublist (List.drop_sublist _ _),by rw[hd];exact List.pairwise_singleton _ _,fun y hy z hz=>?_⟩
  rw[hd,List.mem_singleton] at hz
  subst hz
  exact hx y (List.mem_of_mem_drop hy)
end
structure SG (st st':SortSt):Prop where
 kind:kindOf st'=kindOf st
 arr:arrOf st'=arrOf st
 pend:pendingOf st'=pendingOf st
 fail:failedOf st'=failedOf st
theorem SG.refl (st:SortSt):SG st st:=⟨rfl,rfl,rfl,rfl⟩
theorem SG.setG {st st':SortSt} (h:SG st st') (g:Nat):SG st (setG st' g):=⟨h.kind,h.arr,h.pend,h.fail⟩
theorem GX (xs:Array Keyed) (i:Nat):(xs.extract i xs.size).toList=xs.toList.drop i:=by
 rw[Array.toList_extract]
 exact List.take_of_length_le (by rw[List.length_drop,Array.length_toList];exact Nat.le_refl _)
theorem Jk (xs:Array Keyed) (i k:Nat):(xs.extract i (i+k)).toList=(xs.toList.drop i).take k:=by simp[List.extract]
abbrev LoS:=Option (Array Keyed)×Array Keyed×Nat×Nat×Nat×Nat×Nat
def GM (a b:Array Keyed) (p mg ac bc:Nat) (o:Array Keyed) (q:Nat):SM (ForInStep LoS):=do
 let x <-elem' a p
 if (p+1+1 == a.size)=true then pure (.done (some (lAA a b (o.push x) (p+1) q),o.push x,p+1,q,mg,ac,bc))
 else if (decide (ac<7) && decide (bc<7))=true then pure (.done (none,o.push x,p+1,q,mg,ac,bc))
 else pure (.yield (none,o.push x,p+1,q,mg,ac,bc))
def GW (a b:Array Keyed) (q mg ac bc:Nat) (o:Array Keyed) (p:Nat):SM (ForInStep LoS):=do
 let x <-elem' b q
 if (q+1 == b.size)=true then pure (.done (some (dnA a b (o.push x) p (q+1)),o.push x,p,q+1,mg,ac,bc))
 else do
  let y <-elem' a p
  let r <-gal true y b (q+1) (b.size - (q+1)) 0
  match r with
  | some k=>
   if k > 0 then
    if (q+1+k == b.size)=true then pure (.done (some (dnA a b (o.push x++b.extract (q+1) (q+1+k)) p (q+1+k)),o.push x++b.extract (q+1) (q+1+k),p,q+1+k,mg,ac,k))
    else GM a b p mg ac k (o.push x++b.extract (q+1) (q+1+k)) (q+1+k)
   else GM a b p mg ac k (o.push x) (q+1)
  | _=>pure (.done (some (dnA a b (o.push x) p (q+1)),o.push x,p,q+1,mg,ac,bc))
def Fu (a b:Array Keyed) (q ac bc:Nat) (o:Array Keyed) (p mg:Nat):SM (ForInStep LoS):=do
 Cn mg
 let x <-elem' b q
 let r <-gal false x a p (a.size - p) 0
 match r with
 | some k=>
  if k > 0 then
   if (p+k+1 == a.size)=true then pure (.done (some (lAA a b (o++a.extract p (p+k)) (p+k) q),o++a.extract p (p+k),p+k,q,mg,k,bc))
   else if (p+k == a.size)=true then pure (.done (some (dnA a b (o++a.extract p (p+k)) (p+k) q),o++a.extract p (p+k),p+k,q,mg,k,bc))
   else GW a b q mg k bc (o++a.extract p (p+k)) (p+k)
  else GW a b q mg k bc o p
 | _=>pure (.done (some (dnA a b o p q),o,p,q,mg,ac,bc))
def loG (a b o:Array Keyed) (p q mg ac bc:Nat):SM (ForInStep LoS):=if mg > 1 then Fu a b q ac bc o p (mg - 1) else Fu a b q ac bc o p mg
abbrev LoI:=Option (Array Keyed)×Array Keyed×Nat×Nat×Nat×Nat
abbrev LoO:=Option (Array Keyed)×Array Keyed×Nat×Nat×Nat
def loI (a b:Array Keyed) (mg:Nat) (o:Array Keyed) (p q ac bc:Nat):SM (ForInStep LoI):=do
 let y <-elem' b q
 let x <-elem' a p
 let r <-lt' y x
 match r with
 | some bw=>
  if bw=true then do
   let z <-elem' b q
   if (q+1 == b.size)=true then pure (.done (some (dnA a b (o.push z) p (q+1)),o.push z,p,q+1,0,bc+1))
   else if bc+1>=mg then pure (.done (none,o.push z,p,q+1,0,bc+1)) else pure (.yield (none,o.push z,p,q+1,0,bc+1))
  else do
   let z <-elem' a p
   if (p+1+1 == a.size)=true then pure (.done (some (lAA a b (o.push z) (p+1) q),o.push z,p+1,q,ac+1,0))
   else if ac+1>=mg then pure (.done (none,o.push z,p+1,q,ac+1,0)) else pure (.yield (none,o.push z,p+1,q,ac+1,0))
 | _=>pure (.done (some (dnA a b o p q),o,p,q,ac,bc))
def loO (a b o:Array Keyed) (p q mg:Nat):SM (ForInStep LoO):=do
 let s <-forIn [0:a.size+b.size] ((none,o,p,q,0,0):LoI) fun _ c=>loI a b mg c.2.1 c.2.2.1 c.2.2.2.1 c.2.2.2.2.1 c.2.2.2.2.2
 match s.1 with
 | some r=>pure (.done (some r,s.2.1,s.2.2.1,s.2.2.2.1,mg))
 | none=>do
  rule "list.sort.gallop"
  let t <-forIn [0:a.size+b.size] ((none,s.2.1,s.2.2.1,s.2.2.2.1,mg+1,s.2.2.2.2.1,s.2.2.2.2.2):LoS) fun _ c=>loG a b c.2.1 c.2.2.1 c.2.2.2.1 c.2.2.2.2.1 c.2.2.2.2.2.1 c.2.2.2.2.2.2
  match t.1 with
  | some r=>pure (.done (some r,t.2.1,t.2.2.1,t.2.2.2.1,t.2.2.2.2.1))
  | none=>do
   Cn (t.2.2.2.2.1+1)
   pure (.yield (none,t.2.1,t.2.2.1,t.2.2.2.1,t.2.2.2.2.1+1))
def IY (a b:Array Keyed):SM (Array Keyed):=do
 rule "list.sort.merge-lo"
 let x <-elem' b 0
 if (1 == b.size)=true then pure (dnA a b #[x] 0 1)
 else if (0+1 == a.size)=true then pure (lAA a b #[x] 0 1)
 else do
  let st <-get
  let s <-forIn [0:a.size+b.size] ((none,#[x],0,1,gallopOf st):LoO) fun _ c=>loO a b c.2.1 c.2.2.1 c.2.2.2.1 c.2.2.2.2
  match s.1 with
  | some r=>pure r
  | none=>unsupported "internal:list.sort.merge-bound"
theorem R8 (a b:Array Keyed):mLo a b=IY a b:=by
 rw[Sv]
 unfold IY
 refine congrArg (fun k=>(liftM (rule "list.sort.merge-lo"):SM _) >>= k) (funext fun _=>?_)
 refine congrArg (fun k=>elem' b 0 >>= k) (funext fun x=>?_)
 dsimp only
 refine congrArg (fun k=>ite _ _ (ite _ _ k)) ?_
 refine congrArg (fun k=>get >>= k) (funext fun st=>?_)
 refine congr (congrArg (fun f k=>forIn _ _ f >>= k) (funext fun _=>funext fun c=>?_)) (funext fun s=>?_)
 ·unfold loO
  refine congr (congrArg (fun f k=>forIn _ _ f >>= k) (funext fun _=>funext fun d=>?_)) (funext fun s=>?_)
  ·unfold loI
   rfl
  ·cases h:s.1 with
   | some r=>rfl
   | none=>
    refine congrArg (fun k=>(liftM (rule "list.sort.gallop"):SM _) >>= k) (funext fun _=>?_)
    refine congr (congrArg (fun f k=>forIn _ _ f >>= k) (funext fun _=>funext fun d=>?_)) (funext fun t=>?_)
    ·rfl
    ·cases t.1<;>rfl
 ·cases s.1<;>rfl
section
variable {prog:Program} {w:World} {A:Around} {E:Value->Shared->Prop} {s:Shared} {kd:SortKind} {good:Keyed->Prop} {lt:Keyed->Keyed->Bool} {st:SortSt} {a b:Array Keyed} {Q:Array Keyed->SortSt->Prop}
theorem at_of {xs:Array Keyed} {i:Nat} (h:i<xs.size):xs[i]?=some xs[i]/\xs.toList[i]?=some xs[i]:=⟨Array.getElem?_eq_getElem h,by simp[h]⟩
theorem EF (C:Cmp prog w A E s kd good lt) (O:Ord good lt) (hk:kindOf st=kd) {left:Bool} {key:Keyed} {xs:Array Keyed} {bs n h:Nat} {Q:Option Nat->SortSt->Prop} (hg:good key) (hn:bs+n<=xs.size)
  (hgs:∀ i,i<n->∀ x,xs.toList[bs+i]?=some x->good x) (hsrt:∀ i j x y,i<j->j<n->xs.toList[bs+i]?=some x->xs.toList[bs+j]?=some y->LE lt x y) (hh:h<n)
  (hQ:∀ k,k<=n->(∀ i x,i<k->xs.toList[bs+i]?=some x->LE lt x key)->(∀ i x,k<=i->i<n->xs.toList[bs+i]?=some x->LE lt key x)->Q (some k) st):wpS (model prog w) A E s (gal left key xs bs n h) Q st:=by
 refine VD (B:=fun i=>bq lt left key (xs[bs+i]?.getD key)) C hk hg (fun i hi=>?_) (fun i j hij hj hb=>?_) hh fun k k1 k2 k3=>hQ k k1 (fun i x hi hx=>?_) fun i x hi1 hi2 hx=>?_
 ·obtain ⟨e,l⟩:=at_of (xs:=xs) (i:=bs+i) (by lia)
  exact ⟨_,e,hgs i hi _ l,by rw[e];rfl⟩
 ·obtain ⟨e1,l1⟩:=at_of (xs:=xs) (i:=bs+i) (by lia)
  obtain ⟨e2,l2⟩:=at_of (xs:=xs) (i:=bs+j) (by lia)
  rw[e1,Option.getD_some]
  rw[e2,Option.getD_some] at hb
  by_cases hh:i=j
  ·subst hh;exact hb
  have hs:=hsrt i j _ _ (by lia) hj l1 l2
  have g1:=hgs i (by lia) _ l1
  have g2:=hgs j hj _ l2
  cases left with
  | true=>
   have hb':lt xs[bs+j] key=true:=hb
   show lt xs[bs+i] key=true
   cases q:lt xs[bs+i] key with
   | true=>rfl
   | false=>
    have:=O.tr hg g1 g2 q hs
    rw[hb'] at this
    cases this
  | false=>
   have hb':(!lt key xs[bs+j])=true:=hb
   show (!lt key xs[bs+i])=true
   rw[Bool.not_eq_true'] at hb' ⊢
   exact O.tr g1 g2 hg hs hb'
 ·have hlt:bs+i<xs.size:=by
   have:=(List.getElem?_eq_some_iff.mp hx).1
   simpa using this
  obtain ⟨e,l⟩:=at_of hlt
  rw[l] at hx
  have z:=k2 i hi
  rw[e,Option.getD_some] at z
  have hx':xs[bs+i]=x:=Option.some.inj hx
  rw[hx'] at z l
  have gx:=hgs i (by lia) _ l
  cases left with
  | true=>exact O.tot gx hg z
  | false=>
   have z':(!lt key x)=true:=z
   rwa [Bool.not_eq_true'] at z'
 ·have hlt:bs+i<xs.size:=by lia
  obtain ⟨e,l⟩:=at_of hlt
  rw[l] at hx
  have z:=k3 i hi1 hi2
  rw[e,Option.getD_some] at z
  have hx':xs[bs+i]=x:=Option.some.inj hx
  rw[hx'] at z l
  have gx:=hgs i hi2 _ l
  cases left with
  | true=>exact z
  | false=>
   have z':(!lt key x)=false:=z
   rw[Bool.not_eq_false'] at z'
   exact O.tot hg gx z'
theorem Nb {l:List Keyed} {i:Nat} {z:Keyed} (h:z∈l.drop i):∃ j,l[i+j]?=some z:=by
 obtain ⟨j,hj⟩:=List.mem_iff_getElem?.mp h
 exact ⟨j,by rw[<-List.getElem?_drop];exact hj⟩
theorem Ce {l:List Keyed} {i:Nat} {z:Keyed} (h:l[i]?=some z):i<l.length:=(List.getElem?_eq_some_iff.mp h).1
structure LoL (good:Keyed->Prop) (lt:Keyed->Keyed->Bool) (a b:Array Keyed):Prop where
 sa:SL good lt a.toList
 sb:SL good lt b.toList
 lowB:∀ {p q:Nat} {x y:Keyed},a.toList[p]?=some x->b.toList[q]?=some y->LE lt y x->∀ z∈a.toList.drop p,LE lt y z
 lowA:∀ {p q:Nat} {x y:Keyed},a.toList[p]?=some x->b.toList[q]?=some y->LE lt x y->∀ z∈b.toList.drop q,LE lt x z
structure LoR (good:Keyed->Prop) (lt:Keyed->Keyed->Bool) (a b:Array Keyed) (n:Nat) (R:ForInStep LoS->SortSt->Prop) (st:SortSt):Prop where
 fin:∀ {o:Array Keyed} {p q:Nat} {z},MI good lt a.toList b.toList o.toList p q->(p=a.size\/q=b.size)->R (.done (some (dnA a b o p q),z)) st
 las:∀ {o:Array Keyed} {p q:Nat} {z},MI good lt a.toList b.toList o.toList p q->p+1=a.size->R (.done (some (lAA a b o p q),z)) st
 don:∀ {o:Array Keyed} {p q mg ac bc:Nat},MI good lt a.toList b.toList o.toList p q->p+1<a.size->q<b.size->n<=o.size->R (.done (none,o,p,q,mg,ac,bc)) st
 yie:∀ {o:Array Keyed} {p q mg ac bc:Nat},MI good lt a.toList b.toList o.toList p q->p+1<a.size->q<b.size->n<=o.size->R (.yield (none,o,p,q,mg,ac,bc)) st
theorem Bj {i j:Nat} (h:¬(i == j)=true):¬i=j:=fun z=>h (by rw[z];simp)
theorem Kv {R:ForInStep LoS->SortSt->Prop} {n p q mg ac bc:Nat} {o:Array Keyed} (L:LoR good lt a b n R st) (sa:SL good lt a.toList) (hp:p+1<a.size) {x:Keyed} (ex:a[p]?=some x) (lx:a.toList[p]?=some x)
  (m:MI good lt a.toList b.toList o.toList p q) (al:∀ z∈b.toList.drop q,LE lt x z) (hq:q<b.size) (hn:n<=o.size):wpS (model prog w) A E s (GM a b p mg ac bc o q) R st:=by
 unfold GM
 refine wpS_bind (BI ex ?_)
 have mc:MI good lt a.toList b.toList (o.push x).toList (p+1) q:=by rw[Array.toList_push];exact m.pushA sa lx al
 have hn':n<=(o.push x).size:=by rw[Array.size_push];lia
 by_cases f1:(p+1+1 == a.size)=true
 ·rw[if_pos f1]
  exact wpS_pure (L.las mc (eq_of_beq f1))
 rw[if_neg f1]
 have f2:=Bj f1
 split
 ·exact wpS_pure (L.don mc (by lia) hq hn')
 ·exact wpS_pure (L.yie mc (by lia) hq hn')
theorem KI {R:ForInStep LoS->SortSt->Prop} {n p q mg ac bc:Nat} {o:Array Keyed} (C:Cmp prog w A E s kd good lt) (O:Ord good lt) (hk:kindOf st=kd) (L:LoR good lt a b n R st) (W:LoL good lt a b)
  (hp:p+1<a.size) (hq:q<b.size) {y:Keyed} (ey:b[q]?=some y) (ly:b.toList[q]?=some y) (m:MI good lt a.toList b.toList o.toList p q) (bl:∀ z∈a.toList.drop p,LE lt y z) (hn:n<=o.size) :
  wpS (model prog w) A E s (GW a b q mg ac bc o p) R st:=by
 unfold GW
 obtain ⟨sa,sb,lowB,lowA⟩:=id W
 refine wpS_bind (BI ey ?_)
 have mb:MI good lt a.toList b.toList (o.push y).toList p (q+1):=by rw[Array.toList_push];exact m.pushB sb ly bl
 have hn':n<=(o.push y).size:=by rw[Array.size_push];lia
 by_cases d1:(q+1 == b.size)=true
 ·rw[if_pos d1]
  exact wpS_pure (L.fin mb (.inr (eq_of_beq d1)))
 rw[if_neg d1]
 have d2:=Bj d1
 obtain ⟨eaX,laX⟩:=at_of (xs:=a) (i:=p) (by lia)
 refine wpS_bind (BI eaX (wpS_bind (EF (xs:=b) (bs:=q+1) (n:=b.size - (q+1)) (h:=0) C O hk (sa.good_at laX) (by lia) (fun i _ x hx=>sb.good_at hx) (fun i j x y hij _ hx hy=>sb.up hx hy (by lia)) (by lia) fun k j1 j2 j3=>?_)))
 have al:∀ z∈b.toList.drop (q+1+k),LE lt a[p] z:=fun z hz=>by
  obtain ⟨j,hj⟩:=Nb hz
  rw[Nat.add_assoc (q+1)] at hj
  have:=Ce hj
  rw[Array.length_toList] at this
  exact j3 (k+j) z (by lia) (by lia) hj
 dsimp only
 by_cases e3:k > 0
 ·rw[if_pos e3]
  have mk2:MI good lt a.toList b.toList (o.push y++b.extract (q+1) (q+1+k)).toList p (q+1+k):=by
   rw[Array.toList_append,Jk]
   exact mb.blockB sb k (by rw[Array.length_toList];lia) fun i y hi hy=>lowB laX hy (j2 i y hi hy)
  by_cases e4:(q+1+k == b.size)=true
  ·rw[if_pos e4]
   exact wpS_pure (L.fin mk2 (.inr (eq_of_beq e4)))
  rw[if_neg e4]
  have e5:=Bj e4
  exact Kv L sa hp eaX laX mk2 al (by lia) (by rw[Array.size_append];lia)
 ·rw[if_neg e3]
  have k0:k=0:=by lia
  rw[k0] at al
  exact Kv L sa hp eaX laX mb al (by lia) hn'
theorem L9 {R:ForInStep LoS->SortSt->Prop} {n p q mg ac bc:Nat} {o:Array Keyed} (C:Cmp prog w A E s kd good lt) (O:Ord good lt) (hk:kindOf (setG st mg)=kd) (L:LoR good lt a b n R (setG st mg)) (W:LoL good lt a b)
  (hp:p+1<a.size) (hq:q<b.size) (m:MI good lt a.toList b.toList o.toList p q) (hn:n<=o.size) :
  wpS (model prog w) A E s (Fu a b q ac bc o p mg) R st:=by
 unfold Fu
 obtain ⟨sa,sb,lowB,lowA⟩:=id W
 rw[FQ]
 refine wpS_bind (wpS_modify ?_)
 obtain ⟨eb,lb⟩:=at_of hq
 refine wpS_bind (BI eb (wpS_bind (EF (xs:=a) (bs:=p) (n:=a.size - p) (h:=0) C O hk (sb.good_at lb) (by lia) (fun i _ x hx=>sa.good_at hx) (fun i j x y hij _ hx hy=>sa.up hx hy (by lia)) (by lia) fun k k1 k2 k3=>?_)))
 have bl:∀ z∈a.toList.drop (p+k),LE lt b[q] z:=fun z hz=>by
  obtain ⟨j,hj⟩:=Nb hz
  rw[Nat.add_assoc] at hj
  have:=Ce hj
  rw[Array.length_toList] at this
  exact k3 (k+j) z (by lia) (by lia) hj
 dsimp only
 by_cases c3:k > 0
 ·rw[if_pos c3]
  have mk:MI good lt a.toList b.toList (o++a.extract p (p+k)).toList (p+k) q:=by
   rw[Array.toList_append,Jk]
   exact m.blockA sa k (by rw[Array.length_toList];lia) fun i x hi hx=>lowA hx lb (k2 i x hi hx)
  by_cases c4:(p+k+1 == a.size)=true
  ·rw[if_pos c4]
   exact wpS_pure (L.las mk (eq_of_beq c4))
  rw[if_neg c4]
  have c4':=Bj c4
  by_cases c5:(p+k == a.size)=true
  ·rw[if_pos c5]
   exact wpS_pure (L.fin mk (.inl (eq_of_beq c5)))
  rw[if_neg c5]
  have c5':=Bj c5
  exact KI C O hk L W (by lia) hq eb lb mk bl (by rw[Array.size_append];lia)
 ·rw[if_neg c3]
  have k0:k=0:=by lia
  rw[k0] at bl
  exact KI C O hk L W hp hq eb lb m bl hn
theorem Ov {R:ForInStep LoS->SortSt->Prop} {n p q mg ac bc:Nat} {o:Array Keyed} (C:Cmp prog w A E s kd good lt) (O:Ord good lt) (hk:∀ g,kindOf (setG st g)=kd) (L:∀ g,LoR good lt a b n R (setG st g)) (W:LoL good lt a b)
  (hp:p+1<a.size) (hq:q<b.size) (m:MI good lt a.toList b.toList o.toList p q) (hn:n<=o.size) :
  wpS (model prog w) A E s (loG a b o p q mg ac bc) R st:=by
 unfold loG
 split
 ·exact L9 C O (hk _) (L _) W hp hq m hn
 ·exact L9 C O (hk _) (L _) W hp hq m hn
theorem Vc {R:ForInStep LoI->SortSt->Prop} {n mg p q ac bc:Nat} {o:Array Keyed} (C:Cmp prog w A E s kd good lt) (O:Ord good lt) (hk:kindOf st=kd) (W:LoL good lt a b)
  (fin:∀ {o:Array Keyed} {p q:Nat} {z},MI good lt a.toList b.toList o.toList p q->(p=a.size\/q=b.size)->R (.done (some (dnA a b o p q),z)) st)
  (las:∀ {o:Array Keyed} {p q:Nat} {z},MI good lt a.toList b.toList o.toList p q->p+1=a.size->R (.done (some (lAA a b o p q),z)) st)
  (don:∀ {o:Array Keyed} {p q ac bc:Nat},MI good lt a.toList b.toList o.toList p q->p+1<a.size->q<b.size->n+1<=o.size->R (.done (none,o,p,q,ac,bc)) st)
  (yie:∀ {o:Array Keyed} {p q ac bc:Nat},MI good lt a.toList b.toList o.toList p q->p+1<a.size->q<b.size->n+1<=o.size->R (.yield (none,o,p,q,ac,bc)) st)
  (hp:p+1<a.size) (hq:q<b.size) (m:MI good lt a.toList b.toList o.toList p q) (hn:n<=o.size):wpS (model prog w) A E s (loI a b mg o p q ac bc) R st:=by
 unfold loI
 obtain ⟨sa,sb,lowB,lowA⟩:=id W
 obtain ⟨eb,lb⟩:=at_of hq
 obtain ⟨ea,la⟩:=at_of (xs:=a) (i:=p) (by lia)
 refine wpS_bind (BI eb (wpS_bind (BI ea (wpS_bind (C.run hk (sb.good_at lb) (sa.good_at la) ?_)))))
 dsimp only
 cases hlt:lt b[q] a[p] with
 | true=>
  rw[if_pos rfl]
  have mm:MI good lt a.toList b.toList (o.push b[q]).toList p (q+1):=by rw[Array.toList_push];exact m.pushB sb lb (lowB la lb (O.tot (sb.good_at lb) (sa.good_at la) hlt))
  have hn':n+1<=(o.push b[q]).size:=by rw[Array.size_push];lia
  refine wpS_bind (BI eb ?_)
  by_cases d1:(q+1 == b.size)=true
  ·rw[if_pos d1]
   exact wpS_pure (fin mm (.inr (eq_of_beq d1)))
  ·rw[if_neg d1]
   have d2:=Bj d1
   split
   ·exact wpS_pure (don mm hp (by lia) hn')
   ·exact wpS_pure (yie mm hp (by lia) hn')
 | false=>
  rw[if_neg Bool.false_ne_true]
  have mm:MI good lt a.toList b.toList (o.push a[p]).toList (p+1) q:=by rw[Array.toList_push];exact m.pushA sa la (lowA la lb hlt)
  have hn':n+1<=(o.push a[p]).size:=by rw[Array.size_push];lia
  refine wpS_bind (BI ea ?_)
  by_cases d1:(p+1+1 == a.size)=true
  ·rw[if_pos d1]
   exact wpS_pure (las mm (eq_of_beq d1))
  ·rw[if_neg d1]
   have d2:=Bj d1
   split
   ·exact wpS_pure (don mm (by lia) hq hn')
   ·exact wpS_pure (yie mm (by lia) hq hn')
theorem OA {R:ForInStep LoO->SortSt->Prop} {st1:SortSt} {mg p q:Nat} {o:Array Keyed} (C:Cmp prog w A E s kd good lt) (O:Ord good lt) (hk:kindOf st=kd) (W:LoL good lt a b)
  (fin:∀ {st':SortSt} {o:Array Keyed} {p q:Nat},SG st st'->MI good lt a.toList b.toList o.toList p q->(p=a.size\/q=b.size)->Q (dnA a b o p q) st')
  (las:∀ {st':SortSt} {o:Array Keyed} {p q:Nat},SG st st'->MI good lt a.toList b.toList o.toList p q->p+1=a.size->Q (lAA a b o p q) st')
  (r1:∀ {st':SortSt} {r z},SG st st'->Q r st'->R (.done (some r,z)) st')
  (r2:∀ {st':SortSt} {o':Array Keyed} {p q mg:Nat},SG st st'->MI good lt a.toList b.toList o'.toList p q->p+1<a.size->q<b.size->o.size+1<=o'.size->R (.yield (none,o',p,q,mg)) st')
  (g1:SG st st1) (hp:p+1<a.size) (hq:q<b.size) (m:MI good lt a.toList b.toList o.toList p q):wpS (model prog w) A E s (loO a b o p q mg) R st1:=by
 unfold loO
 refine wpS_bind (wpS_mono (wpS_forRange
  (I:=fun y c st2=>SG st st2/\∃ o' p' q' ac bc,c=(none,o',p',q',ac,bc)/\MI good lt a.toList b.toList o'.toList p' q'/\p'+1<a.size/\q'<b.size/\o.size+y<=o'.size)
  (Q:=fun c st2=>SG st st2/\((∃ r z,c=(some r,z)/\Q r st2)\/∃ o' p' q' ac bc,c=(none,o',p',q',ac,bc)/\MI good lt a.toList b.toList o'.toList p' q'/\p'+1<a.size/\q'<b.size/\o.size+1<=o'.size))
  ?istep ?ifin ⟨g1,o,p,q,0,0,rfl,m,hp,hq,Nat.le_refl _⟩) ?ipost)
 case ifin=>
  rintro c st2 ⟨g2,o',p',q',ac,bc,rfl,m',hp',hq',ho'⟩
  exact ⟨g2,.inr ⟨o',p',q',ac,bc,rfl,m',hp',hq',by lia⟩⟩
 case istep=>
  rintro y c st2 _ hy ⟨g2,o',p',q',ac,bc,rfl,m',hp',hq',ho'⟩
  exact Vc (n:=o.size+y) C O (g2.kind.trans hk) W (fun m h=>⟨g2,.inl ⟨_,_,rfl,fin g2 m h⟩⟩) (fun m h=>⟨g2,.inl ⟨_,_,rfl,las g2 m h⟩⟩) (fun m h1 h2 h3=>⟨g2,.inr ⟨_,_,_,_,_,rfl,m,h1,h2,by lia⟩⟩) (fun m h1 h2 h3=>⟨g2,_,_,_,_,_,rfl,m,h1,h2,h3⟩) hp' hq' m' ho'
 case ipost=>
  rintro c st2 ⟨g2,⟨r,z,rfl,hr⟩ | ⟨o',p',q',ac,bc,rfl,m',hp',hq',ho'⟩⟩
  ·exact wpS_pure (r1 g2 hr)
  ·refine wpS_bind (wpS_lift (wpAny_rule ⟨rfl,?_⟩))
   refine wpS_bind (wpS_mono (wpS_forRange
    (I:=fun y c st3=>SG st st3/\∃ o2 p2 q2 mg2 ac2 bc2,c=(none,o2,p2,q2,mg2,ac2,bc2)/\MI good lt a.toList b.toList o2.toList p2 q2/\p2+1<a.size/\q2<b.size/\o'.size<=o2.size)
    (Q:=fun c st3=>SG st st3/\((∃ r z,c=(some r,z)/\Q r st3)\/∃ o2 p2 q2 mg2 ac2 bc2,c=(none,o2,p2,q2,mg2,ac2,bc2)/\MI good lt a.toList b.toList o2.toList p2 q2/\p2+1<a.size/\q2<b.size/\o'.size<=o2.size))
    ?gstep ?gfin ⟨g2,o',p',q',_,ac,bc,rfl,m',hp',hq',Nat.le_refl _⟩) ?gpost)
   case gfin=>
    rintro c st3 ⟨g3,o2,p2,q2,mg2,ac2,bc2,rfl,m2,hp2,hq2,ho2⟩
    exact ⟨g3,.inr ⟨o2,p2,q2,mg2,ac2,bc2,rfl,m2,hp2,hq2,ho2⟩⟩
   case gpost=>
    rintro c st3 ⟨g3,⟨r,z,rfl,hr⟩ | ⟨o2,p2,q2,mg2,ac2,bc2,rfl,m2,hp2,hq2,ho2⟩⟩
    ·exact wpS_pure (r1 g3 hr)
    ·dsimp only
     rw[FQ]
     exact wpS_bind (wpS_modify (wpS_pure (r2 (g3.setG _) m2 hp2 hq2 (by lia))))
   case gstep=>
    rintro y c st3 _ hy ⟨g3,o2,p2,q2,mg2,ac2,bc2,rfl,m2,hp2,hq2,ho2⟩
    exact Ov C O (fun g=>(g3.setG g).kind.trans hk) (fun g=>⟨fun m h=>⟨g3.setG _,.inl ⟨_,_,rfl,fin (g3.setG _) m h⟩⟩,fun m h=>⟨g3.setG _,.inl ⟨_,_,rfl,las (g3.setG _) m h⟩⟩,fun m h1 h2 h3=>⟨g3.setG _,.inr ⟨_,_,_,_,_,_,rfl,m,h1,h2,h3⟩⟩,fun m h1 h2 h3=>⟨g3.setG _,_,_,_,_,_,_,rfl,m,h1,h2,h3⟩⟩) W hp2 hq2 m2 ho2
theorem Px (C:Cmp prog w A E s kd good lt) (O:Ord good lt) (hk:kindOf st=kd) (sa:SL good lt a.toList) (sb:SL good lt b.toList) (ha:0<a.size) (hb:0<b.size)
  (h0:∀ x y,a.toList[0]?=some x->b.toList[0]?=some y->LE lt y x) (h1:∀ x,a.toList[a.size - 1]?=some x->∀ y∈b.toList,LE lt y x)
  (hQ:∀ r st',SG st st'->Good lt a.toList b.toList r.toList->Q r st'):wpS (model prog w) A E s (mLo a b) Q st:=by
 rw[R8]
 unfold IY
 refine wpS_bind (wpS_lift (wpAny_rule ⟨rfl,?_⟩))
 obtain ⟨eb0,lb0⟩:=at_of hb
 obtain ⟨ea0,la0⟩:=at_of ha
 refine wpS_bind (BI eb0 ?_)
 have m0:MI good lt a.toList b.toList [] 0 0:=⟨by simp,List.Pairwise.nil,fun x hx=>(nomatch hx),Nat.zero_le _,Nat.zero_le _⟩
 have lowB:∀ {p q:Nat} {x y:Keyed},a.toList[p]?=some x->b.toList[q]?=some y->LE lt y x->∀ z∈a.toList.drop p,LE lt y z:=fun {p q x y} hx hy hl z hz=>by
  rcases sa.from hx z hz with e | e
  ·rw[e];exact hl
  ·exact O.tr (sb.good_at hy) (sa.good_at hx) (sa.all z (List.mem_of_mem_drop hz)) hl e
 have lowA:∀ {p q:Nat} {x y:Keyed},a.toList[p]?=some x->b.toList[q]?=some y->LE lt x y->∀ z∈b.toList.drop q,LE lt x z:=fun {p q x y} hx hy hl z hz=>by
  rcases sb.from hy z hz with e | e
  ·rw[e];exact hl
  ·exact O.tr (sa.good_at hx) (sb.good_at hy) (sb.all z (List.mem_of_mem_drop hz)) hl e
 have W:LoL good lt a b:=⟨sa,sb,lowB,lowA⟩
 have m1:MI good lt a.toList b.toList [b[0]] 0 1:=m0.pushB sb lb0 (lowB la0 lb0 (h0 _ _ la0 lb0))
 have fin:∀ {st':SortSt} {o:Array Keyed} {p q:Nat},SG st st'->MI good lt a.toList b.toList o.toList p q->(p=a.size\/q=b.size)->Q (o++a.extract p a.size++b.extract q b.size) st':=fun {st' o p q} g m h=>by
  refine hQ _ st' g ?_
  rw[Array.toList_append,Array.toList_append,GX,GX]
  refine m.done sa sb ?_
  rcases h with h | h
  ·exact .inl (List.drop_eq_nil_of_le (by rw[h];simp))
  ·exact .inr (List.drop_eq_nil_of_le (by rw[h];simp))
 have las:∀ {st':SortSt} {o:Array Keyed} {p q:Nat},SG st st'->MI good lt a.toList b.toList o.toList p q->p+1=a.size->Q (o++b.extract q b.size++a.extract p a.size) st':=fun {st' o p q} g m h=>by
  refine hQ _ st' g ?_
  rw[Array.toList_append,Array.toList_append,GX,GX]
  obtain ⟨_,l⟩:=at_of (xs:=a) (i:=p) (by lia)
  refine m.last sb l (by simpa using h) (h1 _ ?_)
  rw[show a.size - 1=p by lia]
  exact l
 by_cases c1:(1 == b.size)=true
 ·rw[if_pos c1]
  exact wpS_pure (fin (SG.refl _) m1 (.inr (eq_of_beq c1)))
 rw[if_neg c1]
 have nb:1<b.size:=by
  have:¬1=b.size:=fun z=>c1 (by rw[<-z];rfl)
  lia
 by_cases c2:(0+1 == a.size)=true
 ·rw[if_pos c2]
  exact wpS_pure (las (SG.refl _) m1 (eq_of_beq c2))
 rw[if_neg c2]
 have na:1<a.size:=by
  have:¬0+1=a.size:=fun z=>c2 (by rw[<-z];rfl)
  lia
 refine wpS_bind (wpS_get ?_)
 refine wpS_bind (wpS_mono (wpS_forRange
  (I:=fun x c st'=>SG st st'/\∃ o p q mg,c=(none,o,p,q,mg)/\MI good lt a.toList b.toList o.toList p q/\p+1<a.size/\q<b.size/\x+1<=o.size)
  (Q:=fun c st'=>SG st st'/\∃ r o,c=(some r,o)/\Q r st') ?ostep ?ofin ⟨SG.refl _,#[b[0]],0,1,_,rfl,m1,by lia,nb,by simp⟩) ?opost)
 case ofin=>
  rintro c st' ⟨g,o,p,q,mg,rfl,m,hp,hq,ho⟩
  have:=m.size
  rw[Array.length_toList] at this
  lia
 case opost=>
  rintro c st' ⟨g,r,o,rfl,hq⟩
  exact wpS_pure hq
 case ostep=>
  rintro x c st1 _ hx ⟨g1,o,p,q,mg,rfl,m,hp,hq,ho⟩
  exact OA C O hk W fin las (fun g h=>⟨g,_,_,rfl,h⟩) (fun g m h1 h2 h3=>⟨g,_,_,_,_,rfl,m,h1,h2,Nat.le_trans (Nat.succ_le_succ ho) h3⟩) g1 hp hq m
end
abbrev dnB (a b o:Array Keyed) (p q:Nat):Array Keyed:=a.extract 0 p++b.extract 0 q++o.reverse
abbrev fBB (a b o:Array Keyed) (p q:Nat):Array Keyed:=b.extract 0 q++a.extract 0 p++o.reverse
theorem Rk (a b:Array Keyed):mHi a b=(do
 rule "list.sort.merge-hi"
 let mut p:=a.size - 1
 let mut q:=b.size
 let mut o:Array Keyed:=#[<-elem' a p]
 if p == 0 then return dnB a b o p q
 if q == 1 then return fBB a b o p q
 let mut mg:=gallopOf (<-get)
 for _ in [0:a.size+b.size] do
  let mut ac:=0
  let mut bc:=0
  for _ in [0:a.size+b.size] do
   let some aw <-lt' (<-elem' b (q - 1)) (<-elem' a (p - 1)) | return dnB a b o p q
   if aw then
    p:=p - 1;o:=o.push (<-elem' a p);ac:=ac+1;bc:=0
    if p == 0 then return dnB a b o p q
    if ac>=mg then break
   else
    q:=q - 1;o:=o.push (<-elem' b q);bc:=bc+1;ac:=0
    if q == 1 then return fBB a b o p q
    if bc>=mg then break
  rule "list.sort.gallop"
  mg:=mg+1
  for _ in [0:a.size+b.size] do
   if mg > 1 then mg:=mg - 1
   Cn mg
   let some u <-gal false (<-elem' b (q - 1)) a 0 p (p - 1) | return dnB a b o p q
   let k:=p - u
   ac:=k
   if k > 0 then
    o:=o++(a.extract u p).reverse;p:=u
    if p == 0 then return dnB a b o p q
   q:=q - 1;o:=o.push (<-elem' b q)
   if q == 1 then return fBB a b o p q
   let some u <-gal true (<-elem' a (p - 1)) b 0 q (q - 1) | return dnB a b o p q
   let k:=q - u
   bc:=k
   if k > 0 then
    o:=o++(b.extract u q).reverse;q:=u
    if q == 1 then return fBB a b o p q
    if q == 0 then return dnB a b o p q
   p:=p - 1;o:=o.push (<-elem' a p)
   if p == 0 then return dnB a b o p q
   if ac<7 && bc<7 then break
  mg:=mg+1
  Cn mg
 unsupported "internal:list.sort.merge-bound"):=rfl
structure MH (good:Keyed->Prop) (lt:Keyed->Keyed->Bool) (a b o:List Keyed) (p q:Nat):Prop where
 perm:(a.take p++(b.take q++o.reverse)).Perm (a++b)
 srt:o.reverse.Pairwise (LE lt)
 low:∀ x∈o,∀ y∈a.take p++b.take q,LE lt y x
 pa:p<=a.length
 qb:q<=b.length
section
variable {good:Keyed->Prop} {lt:Keyed->Keyed->Bool} {a b o:List Keyed} {p q k:Nat} {x:Keyed}
theorem MH.size (m:MH good lt a b o p q):o.length+p+q=a.length+b.length:=by
 have e:=m.perm.length_eq
 have:=m.pa
 have:=m.qb
 rw[List.length_append,List.length_append,List.length_append,List.length_take,List.length_take,List.length_reverse] at e
 lia
theorem IL {l:List Keyed} {i:Nat} (h:l[i]?=some x):l.take (i+1)=l.take i++[x]:=by
 rw[List.take_add_one,h]
 rfl
theorem SL.under (s:SL good lt a) (h:a[p]?=some x):∀ y∈a.take p,LE lt y x:=fun y hy=>by
 obtain ⟨j,hj⟩:=List.mem_iff_getElem?.mp hy
 have hlt:j<p:=by
  have:=Ce hj
  rw[List.length_take] at this
  lia
 rw[List.getElem?_take_of_lt hlt] at hj
 exact s.up hj h hlt
theorem MH.pushA (m:MH good lt a b o (p+1) q) (sa:SL good lt a) (h:a[p]?=some x) (hb:∀ y∈b.take q,LE lt y x):MH good lt a b (o++[x]) p q:=by
 have hd:=IL h
 have hp:=Ce h
 refine ⟨?_,?_,?_,by lia,m.qb⟩
 ·have e:=m.perm
  rw[hd] at e
  refine List.Perm.trans ?_ e
  rw[List.reverse_append,List.append_assoc]
  refine List.Perm.append_left _ ?_
  show (b.take q++x::o.reverse).Perm (x::(b.take q++o.reverse))
  exact List.perm_middle
 ·rw[List.reverse_append]
  refine List.pairwise_cons.mpr ⟨fun y hy=>m.low y (List.mem_reverse.mp hy) x (by rw[hd];simp),m.srt⟩
 ·intro y hy z hz
  rcases List.mem_append.mp hy with hy | hy
  ·exact m.low y hy z (by rw[hd];rcases List.mem_append.mp hz with w | w<;>simp[w])
  ·rw[List.mem_singleton] at hy
   subst hy
   rcases List.mem_append.mp hz with w | w
   ·exact sa.under h z w
   ·exact hb z w
theorem MH.pushB (m:MH good lt a b o p (q+1)) (sb:SL good lt b) (h:b[q]?=some x) (ha:∀ y∈a.take p,LE lt y x):MH good lt a b (o++[x]) p q:=by
 have hd:=IL h
 have hq:=Ce h
 refine ⟨?_,?_,?_,m.pa,by lia⟩
 ·have e:=m.perm
  rw[hd] at e
  refine List.Perm.trans ?_ e
  rw[List.reverse_append,List.append_assoc (b.take q)]
  exact List.Perm.refl _
 ·rw[List.reverse_append]
  refine List.pairwise_cons.mpr ⟨fun y hy=>m.low y (List.mem_reverse.mp hy) x (by rw[hd];simp),m.srt⟩
 ·intro y hy z hz
  rcases List.mem_append.mp hy with hy | hy
  ·exact m.low y hy z (by rw[hd];rcases List.mem_append.mp hz with w | w<;>simp[w])
  ·rw[List.mem_singleton] at hy
   subst hy
   rcases List.mem_append.mp hz with w | w
   ·exact ha z w
   ·exact sb.under h z w
theorem Kl {l:List Keyed} {u k:Nat} (h:l[u]?=some x):(l.drop u).take (k+1)=x::(l.drop (u+1)).take k:=by rw[EO h,List.take_succ_cons]
theorem MH.blockA (sa:SL good lt a):∀ (k u:Nat) (o:List Keyed),MH good lt a b o (u+k) q->(∀ i y,u<=i->i<u+k->a[i]?=some y->∀ z∈b.take q,LE lt z y)->MH good lt a b (o++((a.drop u).take k).reverse) u q
 | 0,u,o,m,_=>by simpa using m
 | k+1,u,o,m,h=>by
  have hlen:=m.pa
  have ih:=MH.blockA sa k (u+1) o (by rw[show u+1+k=u+(k+1) by lia];exact m) fun i y h1 h2=>h i y (by lia) (by lia)
  have e:a[u]?=some a[u]:=List.getElem?_eq_getElem (by lia)
  have r:=ih.pushA sa e (h u _ (Nat.le_refl _) (by lia) e)
  rw[Kl e,List.reverse_cons,<-List.append_assoc]
  exact r
theorem MH.blockB (sb:SL good lt b):∀ (k u:Nat) (o:List Keyed),MH good lt a b o p (u+k)->(∀ i y,u<=i->i<u+k->b[i]?=some y->∀ z∈a.take p,LE lt z y)->MH good lt a b (o++((b.drop u).take k).reverse) p u
 | 0,u,o,m,_=>by simpa using m
 | k+1,u,o,m,h=>by
  have hlen:=m.qb
  have ih:=MH.blockB sb k (u+1) o (by rw[show u+1+k=u+(k+1) by lia];exact m) fun i y h1 h2=>h i y (by lia) (by lia)
  have e:b[u]?=some b[u]:=List.getElem?_eq_getElem (by lia)
  have r:=ih.pushB sb e (h u _ (Nat.le_refl _) (by lia) e)
  rw[Kl e,List.reverse_cons,<-List.append_assoc]
  exact r
theorem MH.done (m:MH good lt a b o p q) (sa:SL good lt a) (sb:SL good lt b) (h:a.take p=[]\/b.take q=[]):Good lt a b (a.take p++b.take q++o.reverse):=by
 refine ⟨by rw[List.append_assoc];exact m.perm,?_⟩
 refine List.pairwise_append.mpr ⟨?_,m.srt,fun x hx y hy=>m.low y (List.mem_reverse.mp hy) x hx⟩
 rcases h with h | h
 ·rw[h,List.nil_append];exact sb.srt.sublist (List.take_sublist _ _)
 ·rw[h,List.append_nil];exact sa.srt.sublist (List.take_sublist _ _)
theorem MH.first (m:MH good lt a b o p 1) (sa:SL good lt a) (h:b[0]?=some x) (hx:∀ y∈a,LE lt x y):Good lt a b (b.take 1++a.take p++o.reverse):=by
 have hd:b.take 1=[x]:=IL (i:=0) h
 constructor
 ·refine List.Perm.trans ?_ m.perm
  rw[List.append_assoc]
  exact List.perm_append_comm_assoc _ _ _
 ·refine List.pairwise_append.mpr ⟨?_,m.srt,fun y hy z hz=>m.low z (List.mem_reverse.mp hz) y (by rcases List.mem_append.mp hy with w | w<;>simp[w])⟩
  refine List.pairwise_append.mpr ⟨by rw[hd];exact List.pairwise_singleton _ _,sa.srt.sublist (List.take_sublist _ _),fun y hy z hz=>?_⟩
  rw[hd,List.mem_singleton] at hy
  subst hy
  exact hx z (List.mem_of_mem_take hz)
end
theorem E7 (xs:Array Keyed) (i:Nat):(xs.extract 0 i).toList=xs.toList.take i:=by simp[List.extract]
theorem Do (xs:Array Keyed) (u p:Nat):(xs.extract u p).toList=(xs.toList.drop u).take (p - u):=by simp[List.extract]
section
variable {good:Keyed->Prop} {lt:Keyed->Keyed->Bool} {a b o:List Keyed} {p q u:Nat} {x:Keyed}
theorem MH.pushA' (m:MH good lt a b o p q) (hp:0<p) (sa:SL good lt a) (h:a[p - 1]?=some x) (hb:∀ y∈b.take q,LE lt y x):MH good lt a b (o++[x]) (p - 1) q:=
 MH.pushA (by rw[show p - 1+1=p by lia];exact m) sa h hb
theorem MH.pushB' (m:MH good lt a b o p q) (hq:0<q) (sb:SL good lt b) (h:b[q - 1]?=some x) (ha:∀ y∈a.take p,LE lt y x):MH good lt a b (o++[x]) p (q - 1):=
 MH.pushB (by rw[show q - 1+1=q by lia];exact m) sb h ha
theorem MH.blockA' (m:MH good lt a b o p q) (hu:u<=p) (sa:SL good lt a) (h:∀ i y,u<=i->i<p->a[i]?=some y->∀ z∈b.take q,LE lt z y):MH good lt a b (o++((a.drop u).take (p - u)).reverse) u q:=
 MH.blockA sa (p - u) u o (by rw[show u+(p - u)=p by lia];exact m) fun i y h1 h2=>h i y h1 (by lia)
theorem MH.blockB' (m:MH good lt a b o p q) (hu:u<=q) (sb:SL good lt b) (h:∀ i y,u<=i->i<q->b[i]?=some y->∀ z∈a.take p,LE lt z y):MH good lt a b (o++((b.drop u).take (q - u)).reverse) p u:=
 MH.blockB sb (q - u) u o (by rw[show u+(q - u)=q by lia];exact m) fun i y h1 h2=>h i y h1 (by lia)
theorem E6 {l:List Keyed} {i:Nat} {z:Keyed} (h:z∈l.take i):∃ j,j<i/\l[j]?=some z:=by
 obtain ⟨j,hj⟩:=List.mem_iff_getElem?.mp h
 have hlt:j<i:=by
  have:=Ce hj
  rw[List.length_take] at this
  lia
 exact ⟨j,hlt,by rwa [List.getElem?_take_of_lt hlt] at hj⟩
end
abbrev HiS:=Option (Array Keyed)×Nat×Nat×Array Keyed×Nat×Nat×Nat
abbrev HiI:=Option (Array Keyed)×Nat×Nat×Array Keyed×Nat×Nat
abbrev HiO:=Option (Array Keyed)×Nat×Nat×Array Keyed×Nat
def Fn (a b:Array Keyed) (p mg ac bc:Nat) (o:Array Keyed) (q:Nat):SM (ForInStep HiS):=do
 let x <-elem' a (p - 1)
 if (p - 1 == 0)=true then pure (.done (some (dnB a b (o.push x) (p - 1) q),p - 1,q,o.push x,mg,ac,bc))
 else if (decide (ac<7) && decide (bc<7))=true then pure (.done (none,p - 1,q,o.push x,mg,ac,bc))
 else pure (.yield (none,p - 1,q,o.push x,mg,ac,bc))
def Gx (a b:Array Keyed) (q mg ac bc:Nat) (o:Array Keyed) (p:Nat):SM (ForInStep HiS):=do
 let x <-elem' b (q - 1)
 if (q - 1 == 1)=true then pure (.done (some (fBB a b (o.push x) p (q - 1)),p,q - 1,o.push x,mg,ac,bc))
 else do
  let y <-elem' a (p - 1)
  let r <-gal true y b 0 (q - 1) (q - 1 - 1)
  match r with
  | some u=>
   if q - 1 - u > 0 then
    if (u == 1)=true then pure (.done (some (fBB a b (o.push x++(b.extract u (q - 1)).reverse) p u),p,u,o.push x++(b.extract u (q - 1)).reverse,mg,ac,q - 1 - u))
    else if (u == 0)=true then pure (.done (some (dnB a b (o.push x++(b.extract u (q - 1)).reverse) p u),p,u,o.push x++(b.extract u (q - 1)).reverse,mg,ac,q - 1 - u))
    else Fn a b p mg ac (q - 1 - u) (o.push x++(b.extract u (q - 1)).reverse) u
   else Fn a b p mg ac (q - 1 - u) (o.push x) (q - 1)
  | _=>pure (.done (some (dnB a b (o.push x) p (q - 1)),p,q - 1,o.push x,mg,ac,bc))
def Ff (a b:Array Keyed) (q ac bc:Nat) (o:Array Keyed) (p mg:Nat):SM (ForInStep HiS):=do
 Cn mg
 let x <-elem' b (q - 1)
 let r <-gal false x a 0 p (p - 1)
 match r with
 | some u=>
  if p - u > 0 then
   if (u == 0)=true then pure (.done (some (dnB a b (o++(a.extract u p).reverse) u q),u,q,o++(a.extract u p).reverse,mg,p - u,bc))
   else Gx a b q mg (p - u) bc (o++(a.extract u p).reverse) u
  else Gx a b q mg (p - u) bc o p
 | _=>pure (.done (some (dnB a b o p q),p,q,o,mg,ac,bc))
def hiG (a b o:Array Keyed) (p q mg ac bc:Nat):SM (ForInStep HiS):=if mg > 1 then Ff a b q ac bc o p (mg - 1) else Ff a b q ac bc o p mg
def hiI (a b:Array Keyed) (mg:Nat) (o:Array Keyed) (p q ac bc:Nat):SM (ForInStep HiI):=do
 let y <-elem' b (q - 1)
 let x <-elem' a (p - 1)
 let r <-lt' y x
 match r with
 | some aw=>
  if aw=true then do
   let z <-elem' a (p - 1)
   if (p - 1 == 0)=true then pure (.done (some (dnB a b (o.push z) (p - 1) q),p - 1,q,o.push z,ac+1,0))
   else if ac+1>=mg then pure (.done (none,p - 1,q,o.push z,ac+1,0)) else pure (.yield (none,p - 1,q,o.push z,ac+1,0))
  else do
   let z <-elem' b (q - 1)
   if (q - 1 == 1)=true then pure (.done (some (fBB a b (o.push z) p (q - 1)),p,q - 1,o.push z,0,bc+1))
   else if bc+1>=mg then pure (.done (none,p,q - 1,o.push z,0,bc+1)) else pure (.yield (none,p,q - 1,o.push z,0,bc+1))
 | _=>pure (.done (some (dnB a b o p q),p,q,o,ac,bc))
def hiO (a b o:Array Keyed) (p q mg:Nat):SM (ForInStep HiO):=do
 let s <-forIn [0:a.size+b.size] ((none,p,q,o,0,0):HiI) fun _ c=>hiI a b mg c.2.2.2.1 c.2.1 c.2.2.1 c.2.2.2.2.1 c.2.2.2.2.2
 match s.1 with
 | some r=>pure (.done (some r,s.2.1,s.2.2.1,s.2.2.2.1,mg))
 | none=>do
  rule "list.sort.gallop"
  let t <-forIn [0:a.size+b.size] ((none,s.2.1,s.2.2.1,s.2.2.2.1,mg+1,s.2.2.2.2.1,s.2.2.2.2.2):HiS) fun _ c=>hiG a b c.2.2.2.1 c.2.1 c.2.2.1 c.2.2.2.2.1 c.2.2.2.2.2.1 c.2.2.2.2.2.2
  match t.1 with
  | some r=>pure (.done (some r,t.2.1,t.2.2.1,t.2.2.2.1,t.2.2.2.2.1))
  | none=>do
   Cn (t.2.2.2.2.1+1)
   pure (.yield (none,t.2.1,t.2.2.1,t.2.2.2.1,t.2.2.2.2.1+1))
def JP (a b:Array Keyed):SM (Array Keyed):=do
 rule "list.sort.merge-hi"
 let x <-elem' a (a.size - 1)
 if (a.size - 1 == 0)=true then pure (dnB a b #[x] (a.size - 1) b.size)
 else if (b.size == 1)=true then pure (fBB a b #[x] (a.size - 1) b.size)
 else do
  let st <-get
  let s <-forIn [0:a.size+b.size] ((none,a.size - 1,b.size,#[x],gallopOf st):HiO) fun _ c=>hiO a b c.2.2.2.1 c.2.1 c.2.2.1 c.2.2.2.2
  match s.1 with
  | some r=>pure r
  | none=>unsupported "internal:list.sort.merge-bound"
theorem Ru (a b:Array Keyed):mHi a b=JP a b:=by
 rw[Rk]
 unfold JP
 refine congrArg (fun k=>(liftM (rule "list.sort.merge-hi"):SM _) >>= k) (funext fun _=>?_)
 refine congrArg (fun k=>elem' a (a.size - 1) >>= k) (funext fun x=>?_)
 dsimp only
 refine congrArg (fun k=>ite _ _ (ite _ _ k)) ?_
 refine congrArg (fun k=>get >>= k) (funext fun st=>?_)
 refine congr (congrArg (fun f k=>forIn _ _ f >>= k) (funext fun _=>funext fun c=>?_)) (funext fun s=>?_)
 ·unfold hiO
  refine congr (congrArg (fun f k=>forIn _ _ f >>= k) (funext fun _=>funext fun d=>?_)) (funext fun s=>?_)
  ·unfold hiI
   rfl
  ·cases h:s.1 with
   | some r=>rfl
   | none=>
    refine congrArg (fun k=>(liftM (rule "list.sort.gallop"):SM _) >>= k) (funext fun _=>?_)
    refine congr (congrArg (fun f k=>forIn _ _ f >>= k) (funext fun _=>funext fun d=>?_)) (funext fun t=>?_)
    ·rfl
    ·cases t.1<;>rfl
 ·cases s.1<;>rfl
section
variable {prog:Program} {w:World} {A:Around} {E:Value->Shared->Prop} {s:Shared} {kd:SortKind} {good:Keyed->Prop} {lt:Keyed->Keyed->Bool} {st:SortSt} {a b:Array Keyed} {Q:Array Keyed->SortSt->Prop}
structure HiL (good:Keyed->Prop) (lt:Keyed->Keyed->Bool) (a b:Array Keyed):Prop where
 sa:SL good lt a.toList
 sb:SL good lt b.toList
 upA:∀ {p q:Nat} {x y:Keyed},0<q->a.toList[p]?=some x->b.toList[q - 1]?=some y->LE lt y x->∀ z∈b.toList.take q,LE lt z x
 upB:∀ {p q:Nat} {x y:Keyed},0<p->a.toList[p - 1]?=some x->b.toList[q]?=some y->LE lt x y->∀ z∈a.toList.take p,LE lt z y
structure HiR (good:Keyed->Prop) (lt:Keyed->Keyed->Bool) (a b:Array Keyed) (n:Nat) (R:ForInStep HiS->SortSt->Prop) (st:SortSt):Prop where
 fin:∀ {o:Array Keyed} {p q:Nat} {z},MH good lt a.toList b.toList o.toList p q->(p=0\/q=0)->R (.done (some (dnB a b o p q),z)) st
 fst:∀ {o:Array Keyed} {p q:Nat} {z},MH good lt a.toList b.toList o.toList p q->q=1->R (.done (some (fBB a b o p q),z)) st
 don:∀ {o:Array Keyed} {p q mg ac bc:Nat},MH good lt a.toList b.toList o.toList p q->0<p->1<q->n<=o.size->R (.done (none,p,q,o,mg,ac,bc)) st
 yie:∀ {o:Array Keyed} {p q mg ac bc:Nat},MH good lt a.toList b.toList o.toList p q->0<p->1<q->n<=o.size->R (.yield (none,p,q,o,mg,ac,bc)) st
theorem Kt {R:ForInStep HiS->SortSt->Prop} {n p q mg ac bc:Nat} {o:Array Keyed} (L:HiR good lt a b n R st) (sa:SL good lt a.toList) (hp:0<p) {x:Keyed} (ex:a[p - 1]?=some x) (lx:a.toList[p - 1]?=some x)
  (m:MH good lt a.toList b.toList o.toList p q) (al:∀ z∈b.toList.take q,LE lt z x) (hq:1<q) (hn:n<=o.size):wpS (model prog w) A E s (Fn a b p mg ac bc o q) R st:=by
 unfold Fn
 refine wpS_bind (BI ex ?_)
 have mc:MH good lt a.toList b.toList (o.push x).toList (p - 1) q:=by rw[Array.toList_push];exact m.pushA' hp sa lx al
 have hn':n<=(o.push x).size:=by rw[Array.size_push];lia
 by_cases f1:(p - 1 == 0)=true
 ·rw[if_pos f1]
  exact wpS_pure (L.fin mc (.inl (eq_of_beq f1)))
 rw[if_neg f1]
 have f2:=Bj f1
 split
 ·exact wpS_pure (L.don mc (by lia) hq hn')
 ·exact wpS_pure (L.yie mc (by lia) hq hn')
theorem Mz {R:ForInStep HiS->SortSt->Prop} {n p q mg ac bc:Nat} {o:Array Keyed} (C:Cmp prog w A E s kd good lt) (O:Ord good lt) (hk:kindOf st=kd) (L:HiR good lt a b n R st) (W:HiL good lt a b)
  (hp:0<p) (hq:1<q) {y:Keyed} (ey:b[q - 1]?=some y) (ly:b.toList[q - 1]?=some y) (m:MH good lt a.toList b.toList o.toList p q) (bl:∀ z∈a.toList.take p,LE lt z y) (hn:n<=o.size) :
  wpS (model prog w) A E s (Gx a b q mg ac bc o p) R st:=by
 unfold Gx
 obtain ⟨sa,sb,upA,upB⟩:=id W
 have hpl:=m.pa
 have hql:=m.qb
 rw[Array.length_toList] at hpl hql
 refine wpS_bind (BI ey ?_)
 have mb:MH good lt a.toList b.toList (o.push y).toList p (q - 1):=by rw[Array.toList_push];exact m.pushB' (by lia) sb ly bl
 have hn':n<=(o.push y).size:=by rw[Array.size_push];lia
 by_cases d1:(q - 1 == 1)=true
 ·rw[if_pos d1]
  exact wpS_pure (L.fst mb (eq_of_beq d1))
 rw[if_neg d1]
 have d2:=Bj d1
 obtain ⟨eaX,laX⟩:=at_of (xs:=a) (i:=p - 1) (by lia)
 refine wpS_bind (BI eaX (wpS_bind (EF (xs:=b) (bs:=0) (n:=q - 1) (h:=q - 1 - 1) C O hk (sa.good_at laX) (by lia) (fun i _ x hx=>sb.good_at hx) (fun i j x y hij _ hx hy=>sb.up hx hy (by lia)) (by lia) fun v j1 j2 j3=>?_)))
 simp only[Nat.zero_add] at j2 j3
 have al:∀ z∈b.toList.take v,LE lt z a[p - 1]:=fun z hz=>by
  obtain ⟨j,hj,ej⟩:=E6 hz
  exact j2 j z hj ej
 dsimp only
 by_cases e3:q - 1 - v > 0
 ·rw[if_pos e3]
  have mk2:MH good lt a.toList b.toList (o.push y++(b.extract v (q - 1)).reverse).toList p v:=by
   rw[Array.toList_append,Array.toList_reverse,Do]
   exact mb.blockB' j1 sb fun i x h1 h2 hx=>upB hp laX hx (j3 i x h1 h2 hx)
  by_cases e4:(v == 1)=true
  ·rw[if_pos e4]
   exact wpS_pure (L.fst mk2 (eq_of_beq e4))
  rw[if_neg e4]
  by_cases e5:(v == 0)=true
  ·rw[if_pos e5]
   exact wpS_pure (L.fin mk2 (.inr (eq_of_beq e5)))
  rw[if_neg e5]
  have e6:=Bj e4
  have e7:=Bj e5
  exact Kt L sa hp eaX laX mk2 al (by lia) (by rw[Array.size_append];lia)
 ·rw[if_neg e3]
  have k0:v=q - 1:=by lia
  rw[k0] at al
  exact Kt L sa hp eaX laX mb al (by lia) hn'
theorem MU {R:ForInStep HiS->SortSt->Prop} {n p q mg ac bc:Nat} {o:Array Keyed} (C:Cmp prog w A E s kd good lt) (O:Ord good lt) (hk:kindOf (setG st mg)=kd) (L:HiR good lt a b n R (setG st mg)) (W:HiL good lt a b)
  (hp:0<p) (hq:1<q) (m:MH good lt a.toList b.toList o.toList p q) (hn:n<=o.size):wpS (model prog w) A E s (Ff a b q ac bc o p mg) R st:=by
 unfold Ff
 obtain ⟨sa,sb,upA,upB⟩:=id W
 have hpl:=m.pa
 have hql:=m.qb
 rw[Array.length_toList] at hpl hql
 rw[FQ]
 refine wpS_bind (wpS_modify ?_)
 obtain ⟨eb,lb⟩:=at_of (xs:=b) (i:=q - 1) (by lia)
 refine wpS_bind (BI eb (wpS_bind (EF (xs:=a) (bs:=0) (n:=p) (h:=p - 1) C O hk (sb.good_at lb) (by lia) (fun i _ x hx=>sa.good_at hx) (fun i j x y hij _ hx hy=>sa.up hx hy (by lia)) (by lia) fun u k1 k2 k3=>?_)))
 simp only[Nat.zero_add] at k2 k3
 have bl:∀ z∈a.toList.take u,LE lt z b[q - 1]:=fun z hz=>by
  obtain ⟨j,hj,ej⟩:=E6 hz
  exact k2 j z hj ej
 dsimp only
 by_cases c3:p - u > 0
 ·rw[if_pos c3]
  have mk:MH good lt a.toList b.toList (o++(a.extract u p).reverse).toList u q:=by
   rw[Array.toList_append,Array.toList_reverse,Do]
   exact m.blockA' k1 sa fun i x h1 h2 hx=>upA (by lia) hx lb (k3 i x h1 h2 hx)
  by_cases c4:(u == 0)=true
  ·rw[if_pos c4]
   exact wpS_pure (L.fin mk (.inl (eq_of_beq c4)))
  rw[if_neg c4]
  have c5:=Bj c4
  exact Mz C O hk L W (by lia) hq eb lb mk bl (by rw[Array.size_append];lia)
 ·rw[if_neg c3]
  have k0:u=p:=by lia
  rw[k0] at bl
  exact Mz C O hk L W hp hq eb lb m bl hn
theorem PP {R:ForInStep HiS->SortSt->Prop} {n p q mg ac bc:Nat} {o:Array Keyed} (C:Cmp prog w A E s kd good lt) (O:Ord good lt) (hk:∀ g,kindOf (setG st g)=kd) (L:∀ g,HiR good lt a b n R (setG st g)) (W:HiL good lt a b)
  (hp:0<p) (hq:1<q) (m:MH good lt a.toList b.toList o.toList p q) (hn:n<=o.size):wpS (model prog w) A E s (hiG a b o p q mg ac bc) R st:=by
 unfold hiG
 split
 ·exact MU C O (hk _) (L _) W hp hq m hn
 ·exact MU C O (hk _) (L _) W hp hq m hn
theorem O1 {R:ForInStep HiI->SortSt->Prop} {n mg p q ac bc:Nat} {o:Array Keyed} (C:Cmp prog w A E s kd good lt) (O:Ord good lt) (hk:kindOf st=kd) (W:HiL good lt a b)
  (fin:∀ {o:Array Keyed} {p q:Nat} {z},MH good lt a.toList b.toList o.toList p q->(p=0\/q=0)->R (.done (some (dnB a b o p q),z)) st)
  (fst:∀ {o:Array Keyed} {p q:Nat} {z},MH good lt a.toList b.toList o.toList p q->q=1->R (.done (some (fBB a b o p q),z)) st)
  (don:∀ {o:Array Keyed} {p q ac bc:Nat},MH good lt a.toList b.toList o.toList p q->0<p->1<q->n+1<=o.size->R (.done (none,p,q,o,ac,bc)) st)
  (yie:∀ {o:Array Keyed} {p q ac bc:Nat},MH good lt a.toList b.toList o.toList p q->0<p->1<q->n+1<=o.size->R (.yield (none,p,q,o,ac,bc)) st)
  (hp:0<p) (hq:1<q) (m:MH good lt a.toList b.toList o.toList p q) (hn:n<=o.size):wpS (model prog w) A E s (hiI a b mg o p q ac bc) R st:=by
 unfold hiI
 obtain ⟨sa,sb,upA,upB⟩:=id W
 have hpl:=m.pa
 have hql:=m.qb
 rw[Array.length_toList] at hpl hql
 obtain ⟨eb,lb⟩:=at_of (xs:=b) (i:=q - 1) (by lia)
 obtain ⟨ea,la⟩:=at_of (xs:=a) (i:=p - 1) (by lia)
 refine wpS_bind (BI eb (wpS_bind (BI ea (wpS_bind (C.run hk (sb.good_at lb) (sa.good_at la) ?_)))))
 dsimp only
 cases hlt:lt b[q - 1] a[p - 1] with
 | true=>
  rw[if_pos rfl]
  have mm:MH good lt a.toList b.toList (o.push a[p - 1]).toList (p - 1) q:=by rw[Array.toList_push];exact m.pushA' hp sa la (upA (by lia) la lb (O.tot (sb.good_at lb) (sa.good_at la) hlt))
  have hn':n+1<=(o.push a[p - 1]).size:=by rw[Array.size_push];lia
  refine wpS_bind (BI ea ?_)
  by_cases d1:(p - 1 == 0)=true
  ·rw[if_pos d1]
   exact wpS_pure (fin mm (.inl (eq_of_beq d1)))
  ·rw[if_neg d1]
   have d2:=Bj d1
   split
   ·exact wpS_pure (don mm (by lia) hq hn')
   ·exact wpS_pure (yie mm (by lia) hq hn')
 | false=>
  rw[if_neg Bool.false_ne_true]
  have mm:MH good lt a.toList b.toList (o.push b[q - 1]).toList p (q - 1):=by rw[Array.toList_push];exact m.pushB' (by lia) sb lb (upB hp la lb hlt)
  have hn':n+1<=(o.push b[q - 1]).size:=by rw[Array.size_push];lia
  refine wpS_bind (BI eb ?_)
  by_cases d1:(q - 1 == 1)=true
  ·rw[if_pos d1]
   exact wpS_pure (fst mm (eq_of_beq d1))
  ·rw[if_neg d1]
   have d2:=Bj d1
   split
   ·exact wpS_pure (don mm hp (by lia) hn')
   ·exact wpS_pure (yie mm hp (by lia) hn')
theorem Uc {R:ForInStep HiO->SortSt->Prop} {st1:SortSt} {mg p q:Nat} {o:Array Keyed} (C:Cmp prog w A E s kd good lt) (O:Ord good lt) (hk:kindOf st=kd) (W:HiL good lt a b)
  (fin:∀ {st':SortSt} {o:Array Keyed} {p q:Nat},SG st st'->MH good lt a.toList b.toList o.toList p q->(p=0\/q=0)->Q (dnB a b o p q) st')
  (fst:∀ {st':SortSt} {o:Array Keyed} {p q:Nat},SG st st'->MH good lt a.toList b.toList o.toList p q->q=1->Q (fBB a b o p q) st')
  (r1:∀ {st':SortSt} {r z},SG st st'->Q r st'->R (.done (some r,z)) st')
  (r2:∀ {st':SortSt} {o':Array Keyed} {p q mg:Nat},SG st st'->MH good lt a.toList b.toList o'.toList p q->0<p->1<q->o.size+1<=o'.size->R (.yield (none,p,q,o',mg)) st')
  (g1:SG st st1) (hp:0<p) (hq:1<q) (m:MH good lt a.toList b.toList o.toList p q):wpS (model prog w) A E s (hiO a b o p q mg) R st1:=by
 unfold hiO
 refine wpS_bind (wpS_mono (wpS_forRange
  (I:=fun y c st2=>SG st st2/\∃ p' q' o' ac bc,c=(none,p',q',o',ac,bc)/\MH good lt a.toList b.toList o'.toList p' q'/\0<p'/\1<q'/\o.size+y<=o'.size)
  (Q:=fun c st2=>SG st st2/\((∃ r z,c=(some r,z)/\Q r st2)\/∃ p' q' o' ac bc,c=(none,p',q',o',ac,bc)/\MH good lt a.toList b.toList o'.toList p' q'/\0<p'/\1<q'/\o.size+1<=o'.size))
  ?istep ?ifin ⟨g1,p,q,o,0,0,rfl,m,hp,hq,Nat.le_refl _⟩) ?ipost)
 case ifin=>
  rintro c st2 ⟨g2,p',q',o',ac,bc,rfl,m',hp',hq',ho'⟩
  have hpl:=m.pa
  rw[Array.length_toList] at hpl
  exact ⟨g2,.inr ⟨p',q',o',ac,bc,rfl,m',hp',hq',by lia⟩⟩
 case istep=>
  rintro y c st2 _ hy ⟨g2,p',q',o',ac,bc,rfl,m',hp',hq',ho'⟩
  exact O1 (n:=o.size+y) C O (g2.kind.trans hk) W (fun m h=>⟨g2,.inl ⟨_,_,rfl,fin g2 m h⟩⟩) (fun m h=>⟨g2,.inl ⟨_,_,rfl,fst g2 m h⟩⟩) (fun m h1 h2 h3=>⟨g2,.inr ⟨_,_,_,_,_,rfl,m,h1,h2,by lia⟩⟩) (fun m h1 h2 h3=>⟨g2,_,_,_,_,_,rfl,m,h1,h2,h3⟩) hp' hq' m' ho'
 case ipost=>
  rintro c st2 ⟨g2,⟨r,z,rfl,hr⟩ | ⟨p',q',o',ac,bc,rfl,m',hp',hq',ho'⟩⟩
  ·exact wpS_pure (r1 g2 hr)
  ·refine wpS_bind (wpS_lift (wpAny_rule ⟨rfl,?_⟩))
   refine wpS_bind (wpS_mono (wpS_forRange
    (I:=fun y c st3=>SG st st3/\∃ p2 q2 o2 mg2 ac2 bc2,c=(none,p2,q2,o2,mg2,ac2,bc2)/\MH good lt a.toList b.toList o2.toList p2 q2/\0<p2/\1<q2/\o'.size<=o2.size)
    (Q:=fun c st3=>SG st st3/\((∃ r z,c=(some r,z)/\Q r st3)\/∃ p2 q2 o2 mg2 ac2 bc2,c=(none,p2,q2,o2,mg2,ac2,bc2)/\MH good lt a.toList b.toList o2.toList p2 q2/\0<p2/\1<q2/\o'.size<=o2.size))
    ?gstep ?gfin ⟨g2,p',q',o',_,ac,bc,rfl,m',hp',hq',Nat.le_refl _⟩) ?gpost)
   case gfin=>
    rintro c st3 ⟨g3,p2,q2,o2,mg2,ac2,bc2,rfl,m2,hp2,hq2,ho2⟩
    exact ⟨g3,.inr ⟨p2,q2,o2,mg2,ac2,bc2,rfl,m2,hp2,hq2,ho2⟩⟩
   case gpost=>
    rintro c st3 ⟨g3,⟨r,z,rfl,hr⟩ | ⟨p2,q2,o2,mg2,ac2,bc2,rfl,m2,hp2,hq2,ho2⟩⟩
    ·exact wpS_pure (r1 g3 hr)
    ·dsimp only
     rw[FQ]
     exact wpS_bind (wpS_modify (wpS_pure (r2 (g3.setG _) m2 hp2 hq2 (by lia))))
   case gstep=>
    rintro y c st3 _ hy ⟨g3,p2,q2,o2,mg2,ac2,bc2,rfl,m2,hp2,hq2,ho2⟩
    exact PP C O (fun g=>(g3.setG g).kind.trans hk) (fun g=>⟨fun m h=>⟨g3.setG _,.inl ⟨_,_,rfl,fin (g3.setG _) m h⟩⟩,fun m h=>⟨g3.setG _,.inl ⟨_,_,rfl,fst (g3.setG _) m h⟩⟩,fun m h1 h2 h3=>⟨g3.setG _,.inr ⟨_,_,_,_,_,_,rfl,m,h1,h2,h3⟩⟩,fun m h1 h2 h3=>⟨g3.setG _,_,_,_,_,_,_,rfl,m,h1,h2,h3⟩⟩) W hp2 hq2 m2 ho2
theorem Uk (C:Cmp prog w A E s kd good lt) (O:Ord good lt) (hk:kindOf st=kd) (sa:SL good lt a.toList) (sb:SL good lt b.toList) (ha:0<a.size) (hb:0<b.size)
  (h0:∀ y,b.toList[0]?=some y->∀ x∈a.toList,LE lt y x) (h1:∀ x,a.toList[a.size - 1]?=some x->∀ y∈b.toList,LE lt y x)
  (hQ:∀ r st',SG st st'->Good lt a.toList b.toList r.toList->Q r st'):wpS (model prog w) A E s (mHi a b) Q st:=by
 rw[Ru]
 unfold JP
 refine wpS_bind (wpS_lift (wpAny_rule ⟨rfl,?_⟩))
 obtain ⟨ea1,la1⟩:=at_of (xs:=a) (i:=a.size - 1) (by lia)
 obtain ⟨eb0,lb0⟩:=at_of hb
 refine wpS_bind (BI ea1 ?_)
 have upA:∀ {p q:Nat} {x y:Keyed},0<q->a.toList[p]?=some x->b.toList[q - 1]?=some y->LE lt y x->∀ z∈b.toList.take q,LE lt z x:=fun {p q x y} hq hx hy hl z hz=>by
  obtain ⟨j,hj,ej⟩:=E6 hz
  by_cases e:j=q - 1
  ·rw[e,hy] at ej;cases ej;exact hl
  ·exact O.tr (sb.good_at ej) (sb.good_at hy) (sa.good_at hx) (sb.up ej hy (by lia)) hl
 have upB:∀ {p q:Nat} {x y:Keyed},0<p->a.toList[p - 1]?=some x->b.toList[q]?=some y->LE lt x y->∀ z∈a.toList.take p,LE lt z y:=fun {p q x y} hp hx hy hl z hz=>by
  obtain ⟨j,hj,ej⟩:=E6 hz
  by_cases e:j=p - 1
  ·rw[e,hx] at ej;cases ej;exact hl
  ·exact O.tr (sa.good_at ej) (sa.good_at hx) (sb.good_at hy) (sa.up ej hx (by lia)) hl
 have W:HiL good lt a b:=⟨sa,sb,upA,upB⟩
 have m0:MH good lt a.toList b.toList [] a.size b.size:=⟨by rw[List.take_of_length_le (by simp),List.take_of_length_le (by simp)];simp,List.Pairwise.nil,fun x hx=>(nomatch hx),by simp,by simp⟩
 have m1:MH good lt a.toList b.toList [a[a.size - 1]] (a.size - 1) b.size:=m0.pushA' ha sa la1 fun y hy=>h1 _ la1 y (List.mem_of_mem_take hy)
 have fin:∀ {st':SortSt} {o:Array Keyed} {p q:Nat},SG st st'->MH good lt a.toList b.toList o.toList p q->(p=0\/q=0)->Q (a.extract 0 p++b.extract 0 q++o.reverse) st':=fun {st' o p q} g m h=>by
  refine hQ _ st' g ?_
  rw[Array.toList_append,Array.toList_append,E7,E7,Array.toList_reverse]
  refine m.done sa sb ?_
  rcases h with h | h
  ·exact .inl (by rw[h];rfl)
  ·exact .inr (by rw[h];rfl)
 have fst:∀ {st':SortSt} {o:Array Keyed} {p q:Nat},SG st st'->MH good lt a.toList b.toList o.toList p q->q=1->Q (b.extract 0 q++a.extract 0 p++o.reverse) st':=fun {st' o p q} g m h=>by
  subst h
  refine hQ _ st' g ?_
  rw[Array.toList_append,Array.toList_append,E7,E7,Array.toList_reverse]
  exact m.first sa lb0 (h0 _ lb0)
 by_cases c1:(a.size - 1 == 0)=true
 ·rw[if_pos c1]
  exact wpS_pure (fin (SG.refl _) m1 (.inl (eq_of_beq c1)))
 rw[if_neg c1]
 have na:0<a.size - 1:=by
  have:¬a.size - 1=0:=fun z=>c1 (by rw[z];rfl)
  lia
 by_cases c2:(b.size == 1)=true
 ·rw[if_pos c2]
  exact wpS_pure (fst (SG.refl _) m1 (eq_of_beq c2))
 rw[if_neg c2]
 have nb:1<b.size:=by
  have:¬b.size=1:=fun z=>c2 (by rw[z];rfl)
  lia
 refine wpS_bind (wpS_get ?_)
 refine wpS_bind (wpS_mono (wpS_forRange
  (I:=fun x c st'=>SG st st'/\∃ p q o mg,c=(none,p,q,o,mg)/\MH good lt a.toList b.toList o.toList p q/\0<p/\1<q/\x+1<=o.size)
  (Q:=fun c st'=>SG st st'/\∃ r o,c=(some r,o)/\Q r st') ?ostep ?ofin ⟨SG.refl _,a.size - 1,b.size,#[a[a.size - 1]],_,rfl,m1,na,nb,by simp⟩) ?opost)
 case ofin=>
  rintro c st' ⟨g,p,q,o,mg,rfl,m,hp,hq,ho⟩
  have:=m.size
  rw[Array.length_toList,Array.length_toList,Array.length_toList] at this
  lia
 case opost=>
  rintro c st' ⟨g,r,o,rfl,hq⟩
  exact wpS_pure hq
 case ostep=>
  rintro x c st1 _ hx ⟨g1,p,q,o,mg,rfl,m,hp,hq,ho⟩
  exact Uc C O hk W fin fst (fun g h=>⟨g,_,_,rfl,h⟩) (fun g m h1 h2 h3=>⟨g,_,_,_,_,rfl,m,h1,h2,Nat.le_trans (Nat.succ_le_succ ho) h3⟩) g1 hp hq m
end
def G (xs:Array Keyed) (k:Nat):Keyed:=xs[k]?.getD (.none,.none)
theorem B9 {xs ys:Array Keyed} {i j:Nat} (h:xs[i]?=ys[j]?):G xs i=G ys j:=by unfold G;rw[h]
theorem El {xs:Array Keyed} {i:Nat} (h:i<xs.size):xs[i]?=some (G xs i):=by
 unfold G
 rw[Array.getElem?_eq_getElem h]
 rfl
def Out (lo hi:Nat) (xs ys:Array Keyed):Prop:=∀ k,(k<lo\/hi<=k)->ys[k]?=xs[k]?
theorem Out.refl {lo hi:Nat} (xs:Array Keyed):Out lo hi xs xs:=fun _ _=>rfl
theorem Out.trans {lo hi:Nat} {xs ys zs:Array Keyed} (a:Out lo hi xs ys) (b:Out lo hi ys zs):Out lo hi xs zs:=fun k h=>(b k h).trans (a k h)
structure SB (kd:SortKind) (a₀:Array Keyed) (st:SortSt):Prop where
 perm:(arrOf st).Perm a₀
 kind:kindOf st=kd
 fail:failedOf st=none
theorem SB.size {kd:SortKind} {a₀:Array Keyed} {st:SortSt} (h:SB kd a₀ st):(arrOf st).size=a₀.size:=h.perm.size_eq
theorem SB.put {kd:SortKind} {a₀:Array Keyed} {st:SortSt} (h:SB kd a₀ st) {xs:Array Keyed} (hp:xs.Perm (arrOf st)):SB kd a₀ (setArr st xs):=⟨hp.trans h.perm,h.kind,h.fail⟩
section
variable {prog:Program} {w:World} {A:Around} {E:Value->Shared->Prop} {s:Shared} {kd:SortKind} {good:Keyed->Prop} {lt:Keyed->Keyed->Bool} {st:SortSt} {a₀:Array Keyed}
theorem SB.ok (h:SB kd a₀ st) (hg:∀ x∈a₀.toList,good x) {i:Nat} (hi:i<a₀.size):good (G (arrOf st) i):=by
 have hi':i<(arrOf st).size:=by rw[h.size];exact hi
 have e:G (arrOf st) i=(arrOf st)[i]:=by unfold G;rw[Array.getElem?_eq_getElem hi'];rfl
 rw[e]
 exact hg _ ((Array.perm_iff_toList_perm.mp h.perm).mem_iff.mp (by simp))
theorem EV (C:Cmp prog w A E s kd good lt) (h:SB kd a₀ st) (hg:∀ x∈a₀.toList,good x) {i j:Nat} {Q:Option Bool->SortSt->Prop} (hi:i<a₀.size) (hj:j<a₀.size)
  (hQ:Q (some (lt (G (arrOf st) i) (G (arrOf st) j))) st):wpS (model prog w) A E s (ltAt' i j) Q st:=by
 rw[ltAt'_eq]
 refine wpS_bind (wpS_get ?_)
 exact wpS_bind (BI (El (by rw[h.size];exact hi)) (wpS_bind (BI (El (by rw[h.size];exact hj)) (C.run h.kind (h.ok hg hi) (h.ok hg hj) hQ))))
def Asc (lt:Keyed->Keyed->Bool) (xs:Array Keyed) (lo n:Nat):Prop:=∀ i j,lo<=i->i<=j->j<lo+n->LE lt (G xs i) (G xs j)
def Dsc (lt:Keyed->Keyed->Bool) (xs:Array Keyed) (lo n:Nat):Prop:=∀ i j,lo<=i->i<=j->j<lo+n->LE lt (G xs j) (G xs i)
theorem Ord.rf (O:Ord good lt) {x:Keyed} (h:good x):LE lt x x:=by
 show lt x x=false
 cases q:lt x x with
 | false=>rfl
 | true=>
  have z:=O.tot h h q
  rw[q] at z
  cases z
theorem Asc.more (O:Ord good lt) (h:SB kd a₀ st) (hg:∀ x∈a₀.toList,good x) {lo n:Nat} (hn:1<=n) (hs:lo+n<a₀.size) (a:Asc lt (arrOf st) lo n) (hl:LE lt (G (arrOf st) (lo+n - 1)) (G (arrOf st) (lo+n))):Asc lt (arrOf st) lo (n+1):=fun i j h1 h2 h3=>by
 by_cases e:j<lo+n
 ·exact a i j h1 h2 e
 have e':j=lo+n:=by lia
 subst e'
 by_cases e:i=lo+n
 ·subst e;exact O.rf (h.ok hg (by lia))
 ·exact O.tr (h.ok hg (by lia)) (h.ok hg (by lia)) (h.ok hg (by lia)) (a i (lo+n - 1) h1 (by lia) (by lia)) hl
theorem Dsc.more (O:Ord good lt) (h:SB kd a₀ st) (hg:∀ x∈a₀.toList,good x) {lo n:Nat} (hn:1<=n) (hs:lo+n<a₀.size) (a:Dsc lt (arrOf st) lo n) (hl:LE lt (G (arrOf st) (lo+n)) (G (arrOf st) (lo+n - 1))):Dsc lt (arrOf st) lo (n+1):=fun i j h1 h2 h3=>by
 by_cases e:j<lo+n
 ·exact a i j h1 h2 e
 have e':j=lo+n:=by lia
 subst e'
 by_cases e:i=lo+n
 ·subst e;exact O.rf (h.ok hg (by lia))
 ·exact O.tr (h.ok hg (by lia)) (h.ok hg (by lia)) (h.ok hg (by lia)) hl (a i (lo+n - 1) h1 (by lia) (by lia))
theorem IH {xs:Array Keyed} {i j:Nat} (hj:j<=xs.size) (k:Nat):G (mirror xs i j ((j - i) / 2)) k=if i<=k/\k<j then G xs (i+j - 1 - k) else G xs k:=by
 have e:=getElem?_mirror_all (i:=i) hj k
 by_cases h1:i<=k/\k<j
 ·rw[if_pos h1] at e ⊢;exact B9 e
 ·rw[if_neg h1] at e ⊢;exact B9 e
theorem Eo {xs:Array Keyed} {i j lo hi:Nat} (hj:j<=xs.size) (h1:lo<=i) (h2:j<=hi):Out lo hi xs (mirror xs i j ((j - i) / 2)):=fun k hk=>by
 rw[getElem?_mirror_all hj,if_neg (by lia)]
theorem Dsc.same (O:Ord good lt) {xs:Array Keyed} {lo n i j:Nat} (hj:j<=xs.size) (hg:∀ k,k<xs.size->good (G xs k)) (d:Dsc lt xs lo n) (hlo:lo<=i) (hjn:j<=lo+n) (hn:lo+n<=xs.size)
  (eq:∀ p q,i<=p->p<j->i<=q->q<j->LE lt (G xs p) (G xs q)):Dsc lt (mirror xs i j ((j - i) / 2)) lo n:=fun p q h1 h2 h3=>by
 have like:∀ k,k<lo+n->LE lt (G xs k) (G (mirror xs i j ((j - i) / 2)) k)/\LE lt (G (mirror xs i j ((j - i) / 2)) k) (G xs k)/\good (G (mirror xs i j ((j - i) / 2)) k):=fun k hk=>by
  rw[IH hj]
  by_cases c:i<=k/\k<j
  ·rw[if_pos c]
   exact ⟨eq _ _ c.1 c.2 (by lia) (by lia),eq _ _ (by lia) (by lia) c.1 c.2,hg _ (by lia)⟩
  ·rw[if_neg c]
   exact ⟨O.rf (hg _ (by lia)),O.rf (hg _ (by lia)),hg _ (by lia)⟩
 obtain ⟨a1,a2,a3⟩:=like p (by lia)
 obtain ⟨b1,b2,b3⟩:=like q (by lia)
 exact O.tr b3 (hg _ (by lia)) a3 b2 (O.tr (hg _ (by lia)) (hg _ (by lia)) a3 (d p q h1 h2 h3) a1)
theorem Dsc.turn {xs:Array Keyed} {lo n:Nat} (hn:lo+n<=xs.size) (d:Dsc lt xs lo n):Asc lt (mirror xs lo (lo+n) ((lo+n - lo) / 2)) lo n:=fun p q h1 h2 h3=>by
 rw[IH hn,IH hn,if_pos (by lia),if_pos (by lia)]
 exact d _ _ (by lia) (by lia) (by lia)
end
def Nc (lo n1 nrem:Nat):SM (Option Nat):=do
 let mut n:=n1
 for _ in [n:nrem] do
  let some sm <-ltAt' (lo+n) (lo+n - 1) | return none
  if sm then break
  n:=n+1
 return some n
def KG (lo n0 nrem:Nat):SM (Option Nat):=do
 rule "list.sort.descending-run"
 let mut n:=n0+1
 let mut e:=0
 for _ in [n:nrem] do
  let some sm <-ltAt' (lo+n) (lo+n - 1) | return none
  if sm then
   if e > 0 then reverseSlice' (lo+n - (e+1)) (lo+n)
   e:=0
  else
   let some la <-ltAt' (lo+n - 1) (lo+n) | return none
   if la then break
   e:=e+1
  n:=n+1
 if e > 0 then reverseSlice' (lo+n - (e+1)) (lo+n)
 reverseSlice' lo (lo+n)
 for _ in [n:nrem] do
  let some sm <-ltAt' (lo+n) (lo+n - 1) | return none
  if sm then break
  n:=n+1
 return some n
section
variable {prog:Program} {w:World} {A:Around} {E:Value->Shared->Prop} {s:Shared} {kd:SortKind} {good:Keyed->Prop} {lt:Keyed->Keyed->Bool} {st:SortSt} {a₀:Array Keyed} {lo nrem:Nat} {Q:Option Nat->SortSt->Prop}
theorem SB.gs (h:SB kd a₀ st) (hg:∀ x∈a₀.toList,good x):∀ k,k<(arrOf st).size->good (G (arrOf st) k):=fun k hk=>h.ok hg (by rw[<-h.size];exact hk)
theorem Na (C:Cmp prog w A E s kd good lt) (O:Ord good lt) (h:SB kd a₀ st) (hg:∀ x∈a₀.toList,good x) (hs:lo+nrem<=a₀.size) {n0:Nat} (h1:1<=n0) (h2:n0+1<=nrem) (hd:Dsc lt (arrOf st) lo (n0+1))
  (hQ:∀ n st',SB kd a₀ st'->pendingOf st'=pendingOf st->1<=n->n<=nrem->Asc lt (arrOf st') lo n->Out lo (lo+nrem) (arrOf st) (arrOf st')->Q (some n) st'):wpS (model prog w) A E s (KG lo n0 nrem) Q st:=by
 unfold KG
 dsimp only
 refine wpS_bind (wpS_lift (wpAny_rule ⟨rfl,?_⟩))
 have asc:∀ {st':SortSt} {n1:Nat},SB kd a₀ st'->pendingOf st'=pendingOf st->1<=n1->n1<=nrem->Asc lt (arrOf st') lo n1->Out lo (lo+nrem) (arrOf st) (arrOf st') ->
   wpS (model prog w) A E s (Nc lo n1 nrem) Q st':=fun {st' n1} B p0 p1 p2 p3 p4=>by
  unfold Nc
  dsimp only
  refine wpS_bind (wpS_mono (wpS_forRange (I:=fun x c st''=>st''=st'/\c=(none,x)/\1<=x/\x<=nrem/\Asc lt (arrOf st') lo x) (Q:=fun c st''=>st''=st'/\∃ n,c=(none,n)/\1<=n/\n<=nrem/\Asc lt (arrOf st') lo n) ?step ?fin ⟨rfl,rfl,p1,p2,p3⟩) ?post)
  case fin=>
   rintro c st'' ⟨rfl,rfl,a1,a2,a3⟩
   exact ⟨rfl,_,rfl,a1,a2,a3⟩
  case post=>
   rintro c st'' ⟨rfl,n,rfl,a1,a2,a3⟩
   exact wpS_pure (hQ n _ B p0 a1 a2 a3 p4)
  case step=>
   rintro x c st'' h3 h4 ⟨rfl,rfl,a1,a2,a3⟩
   dsimp only
   refine wpS_bind (EV C B hg (by lia) (by lia) ?_)
   cases q:lt (G (arrOf st'') (lo+x)) (G (arrOf st'') (lo+x - 1)) with
   | true=>
    simp only[if_true]
    exact wpS_pure ⟨rfl,x,rfl,a1,a2,a3⟩
   | false=>
    simp only[Bool.false_eq_true,if_false]
    exact wpS_pure ⟨rfl,rfl,by lia,h4,a3.more O B hg a1 (by lia) q⟩
 refine wpS_bind (wpS_mono (wpS_forRange
  (I:=fun x c st'=>SB kd a₀ st'/\pendingOf st'=pendingOf st/\Out lo (lo+nrem) (arrOf st) (arrOf st')/\∃ e,c=(none,x,e)/\2<=x/\x<=nrem/\e+2<=x/\Dsc lt (arrOf st') lo x/\∀ p q,lo+x - (e+1)<=p->p<lo+x->lo+x - (e+1)<=q->q<lo+x->LE lt (G (arrOf st') p) (G (arrOf st') q))
  (Q:=fun c st'=>SB kd a₀ st'/\pendingOf st'=pendingOf st/\Out lo (lo+nrem) (arrOf st) (arrOf st')/\∃ x e,c=(none,x,e)/\2<=x/\x<=nrem/\e+2<=x/\Dsc lt (arrOf st') lo x/\∀ p q,lo+x - (e+1)<=p->p<lo+x->lo+x - (e+1)<=q->q<lo+x->LE lt (G (arrOf st') p) (G (arrOf st') q)) ?step ?fin ?init) ?post)
 case init=>
  refine ⟨h,rfl,Out.refl _,0,rfl,by lia,by lia,by lia,hd,fun p q a1 a2 a3 a4=>?_⟩
  have:p=q:=by lia
  subst this
  exact O.rf (h.ok hg (by lia))
 case fin=>
  rintro c st' ⟨B,p0,ou,e,rfl,a1,a2,a3,a4,a5⟩
  exact ⟨B,p0,ou,_,e,rfl,a1,a2,a3,a4,a5⟩
 case post=>
  rintro c st' ⟨B,p0,ou,x,e,rfl,a1,a2,a3,a4,a5⟩
  dsimp only
  have sz:=B.size
  by_cases c1:e > 0
  ·rw[if_pos c1,reverseSlice'_eq,reverseSlice'_eq]
   refine wpS_bind (wpS_modify (wpS_bind (wpS_modify ?_)))
   have d1:=a4.same O (i:=lo+x - (e+1)) (j:=lo+x) (by lia) (B.gs hg) (by lia) (by lia) (by lia) a5
   have B1:=B.put (mirror_perm (arrOf st') (lo+x - (e+1)) (lo+x) ((lo+x - (lo+x - (e+1))) / 2))
   have d2:=d1.turn (by rw[mirror_size];lia)
   exact asc (B1.put (mirror_perm _ _ _ _)) p0 (by lia) a2 d2 ((ou.trans (Eo (by lia) (by lia) (by lia))).trans (Eo (by rw[mirror_size];lia) (by lia) (by lia)))
  ·rw[if_neg c1,reverseSlice'_eq]
   refine wpS_bind (wpS_modify ?_)
   exact asc (B.put (mirror_perm _ _ _ _)) p0 (by lia) a2 (a4.turn (by lia)) (ou.trans (Eo (by lia) (by lia) (by lia)))
 case step=>
  rintro x c st' h3 h4 ⟨B,p0,ou,e,rfl,a1,a2,a3,a4,a5⟩
  dsimp only
  have sz:=B.size
  refine wpS_bind (EV C B hg (by lia) (by lia) ?_)
  cases q:lt (G (arrOf st') (lo+x)) (G (arrOf st') (lo+x - 1)) with
  | true=>
   simp only[if_true]
   have le1:=O.tot (B.ok hg (by lia)) (B.ok hg (by lia)) q
   by_cases c1:e > 0
   ·rw[if_pos c1,reverseSlice'_eq]
    refine wpS_bind (wpS_modify (wpS_pure ?_))
    have d0:=a4.more O B hg (by lia) (by lia) le1
    have d1:=d0.same O (i:=lo+x - (e+1)) (j:=lo+x) (by lia) (B.gs hg) (by lia) (by lia) (by lia) a5
    have B1:=B.put (mirror_perm (arrOf st') (lo+x - (e+1)) (lo+x) ((lo+x - (lo+x - (e+1))) / 2))
    refine ⟨B1,p0,ou.trans (Eo (by lia) (by lia) (by lia)),0,rfl,by lia,h4,by lia,d1,fun p q b1 b2 b3 b4=>?_⟩
    have:p=q:=by lia
    subst this
    exact O.rf (B1.ok hg (by lia))
   ·rw[if_neg c1]
    refine wpS_pure ⟨B,p0,ou,0,rfl,by lia,h4,by lia,a4.more O B hg (by lia) (by lia) le1,fun p q b1 b2 b3 b4=>?_⟩
    have:p=q:=by lia
    subst this
    exact O.rf (B.ok hg (by lia))
  | false=>
   simp only[Bool.false_eq_true,if_false]
   refine wpS_bind (EV C B hg (by lia) (by lia) ?_)
   cases q2:lt (G (arrOf st') (lo+x - 1)) (G (arrOf st') (lo+x)) with
   | true=>
    simp only[if_true]
    exact wpS_pure ⟨B,p0,ou,x,e,rfl,a1,a2,a3,a4,a5⟩
   | false=>
    simp only[Bool.false_eq_true,if_false]
    refine wpS_pure ⟨B,p0,ou,e+1,rfl,by lia,h4,by lia,a4.more O B hg (by lia) (by lia) q2,fun p q' b1 b2 b3 b4=>?_⟩
    by_cases f1:p=lo+x
    ·subst f1
     by_cases f2:q'=lo+x
     ·subst f2;exact O.rf (B.ok hg (by lia))
     ·exact O.tr (B.ok hg (by lia)) (B.ok hg (by lia)) (B.ok hg (by lia)) q2 (a5 _ _ (by lia) (by lia) (by lia) (by lia))
    ·by_cases f2:q'=lo+x
     ·subst f2
      exact O.tr (B.ok hg (by lia)) (B.ok hg (by lia)) (B.ok hg (by lia)) (a5 p (lo+x - 1) (by lia) (by lia) (by lia) (by lia)) q
     ·exact a5 _ _ (by lia) (by lia) (by lia) (by lia)
end
section
variable {prog:Program} {w:World} {A:Around} {E:Value->Shared->Prop} {s:Shared} {kd:SortKind} {good:Keyed->Prop} {lt:Keyed->Keyed->Bool} {st:SortSt} {a₀:Array Keyed} {lo nrem:Nat}
theorem SR {Q:Option Nat->SortSt->Prop} (C:Cmp prog w A E s kd good lt) (O:Ord good lt) (h:SB kd a₀ st) (hg:∀ x∈a₀.toList,good x) (hs:lo+nrem<=a₀.size) (h1:1<=nrem)
  (hQ:∀ n st',SB kd a₀ st'->pendingOf st'=pendingOf st->1<=n->n<=nrem->Asc lt (arrOf st') lo n->Out lo (lo+nrem) (arrOf st) (arrOf st')->Q (some n) st'):wpS (model prog w) A E s (countRun' lo nrem) Q st:=by
 rw[countRun'_eq]
 dsimp only
 have sz:=h.size
 refine wpS_bind (wpS_mono (wpS_forRange (I:=fun x c st'=>st'=st/\c=(none,x)/\1<=x/\x<=nrem/\Asc lt (arrOf st) lo x)
  (Q:=fun c st'=>st'=st/\∃ n,c=(none,n)/\1<=n/\n<=nrem/\Asc lt (arrOf st) lo n/\(n<nrem->lt (G (arrOf st) (lo+n)) (G (arrOf st) (lo+n - 1))=true)) ?step ?fin ⟨rfl,rfl,Nat.le_refl _,h1,?init⟩) ?post)
 case init=>
  intro i j a1 a2 a3
  have:i=j:=by lia
  subst this
  exact O.rf (h.ok hg (by lia))
 case fin=>
  rintro c st' ⟨rfl,rfl,a1,a2,a3⟩
  exact ⟨rfl,_,rfl,a1,a2,a3,fun z=>by lia⟩
 case step=>
  rintro x c st' h3 h4 ⟨rfl,rfl,a1,a2,a3⟩
  dsimp only
  refine wpS_bind (EV C h hg (by lia) (by lia) ?_)
  cases q:lt (G (arrOf st') (lo+x)) (G (arrOf st') (lo+x - 1)) with
  | true=>
   simp only[if_true]
   exact wpS_pure ⟨rfl,x,rfl,a1,a2,a3,fun _=>q⟩
  | false=>
   simp only[Bool.false_eq_true,if_false]
   exact wpS_pure ⟨rfl,rfl,by lia,h4,a3.more O h hg a1 (by lia) q⟩
 case post=>
  rintro c st' ⟨rfl,n,rfl,a1,a2,a3,a4⟩
  dsimp only
  by_cases c1:(n == nrem)=true
  ·rw[if_pos c1]
   exact wpS_pure (hQ n _ h rfl a1 a2 a3 (Out.refl _))
  rw[if_neg c1]
  have hn:n<nrem:=by
   have:¬n=nrem:=fun z=>c1 (by rw[z];simp)
   lia
  have sm:=a4 hn
  have sm':=O.tot (h.ok hg (by lia)) (h.ok hg (by lia)) sm
  by_cases c2:n > 1
  ·rw[if_pos c2]
   refine wpS_bind (EV C h hg (by lia) (by lia) ?_)
   cases q:lt (G (arrOf st') lo) (G (arrOf st') (lo+n - 1)) with
   | true=>
    simp only[if_true]
    exact wpS_pure (hQ n _ h rfl a1 a2 a3 (Out.refl _))
   | false=>
    simp only[Bool.false_eq_true,if_false]
    rw[reverseSlice'_eq]
    refine wpS_bind (wpS_modify ?_)
    have like:∀ p q',lo<=p->p<lo+n->lo<=q'->q'<lo+n->LE lt (G (arrOf st') p) (G (arrOf st') q'):=fun p q' b1 b2 b3 b4=>
     O.tr (h.ok hg (by lia)) (h.ok hg (by lia)) (h.ok hg (by lia)) (a3 p (lo+n - 1) b1 (by lia) (by lia)) (O.tr (h.ok hg (by lia)) (h.ok hg (by lia)) (h.ok hg (by lia)) q (a3 lo q' (Nat.le_refl _) b3 b4))
    have d0:Dsc lt (arrOf st') lo n:=fun p q' b1 b2 b3=>like q' p (by lia) (by lia) b1 (by lia)
    have d1:Dsc lt (arrOf st') lo (n+1):=d0.more O h hg a1 (by lia) sm'
    have d2:=d1.same O (i:=lo) (j:=lo+n) (by lia) (h.gs hg) (Nat.le_refl _) (by lia) (by lia) fun p q' b1 b2 b3 b4=>like p q' b1 b2 b3 b4
    refine Na (st:=setArr st' (mirror (arrOf st') lo (lo+n) ((lo+n - lo) / 2))) C O (h.put (mirror_perm _ _ _ _)) hg hs a1 hn d2 fun m st2 B p0 p1 p2 p3 p4=>hQ m st2 B p0 p1 p2 p3 ?_
    exact (Eo (hi:=lo+nrem) (by lia) (Nat.le_refl _) (by lia)).trans p4
  ·rw[if_neg c2]
   have e:n=1:=by lia
   subst e
   have d0:Dsc lt (arrOf st') lo 1:=fun p q' b1 b2 b3=>by
    have:p=q':=by lia
    subst this
    exact O.rf (h.ok hg (by lia))
   exact Na C O h hg hs (Nat.le_refl _) hn (d0.more O h hg (Nat.le_refl _) (by lia) sm') hQ
theorem LF {xs:Array Keyed} {src d:Nat} (hs:src<xs.size) (hd:d<=src) (k:Nat):G (bubble xs src d) k=if k=src - d then G xs src else if src - d<k/\k<=src then G xs (k - 1) else G xs k:=by
 have e:=getElem?_bubble hs d hd k
 by_cases h1:k=src - d
 ·rw[if_pos h1] at e ⊢;exact B9 e
 ·rw[if_neg h1] at e ⊢
  by_cases h2:src - d<k/\k<=src
  ·rw[if_pos h2] at e ⊢;exact B9 e
  ·rw[if_neg h2] at e ⊢;exact B9 e
theorem Tc {xs:Array Keyed} {src d lo hi:Nat} (hs:src<xs.size) (hd:d<=src) (h1:lo<=src - d) (h2:src<hi):Out lo hi xs (bubble xs src d):=fun k hk=>by
 rw[getElem?_bubble hs d hd,if_neg (by lia),if_neg (by lia)]
theorem RO {Q:Bool->SortSt->Prop} (C:Cmp prog w A E s kd good lt) (O:Ord good lt) (h:SB kd a₀ st) (hg:∀ x∈a₀.toList,good x) {n ok:Nat} (hs:lo+n<=a₀.size) (h1:1<=ok) (h2:ok<=n) (ha:Asc lt (arrOf st) lo ok)
  (hQ:∀ st',SB kd a₀ st'->pendingOf st'=pendingOf st->Asc lt (arrOf st') lo n->Out lo (lo+n) (arrOf st) (arrOf st')->Q true st'):wpS (model prog w) A E s (binarySort' lo n ok) Q st:=by
 rw[binarySort'_eq]
 refine wpS_bind (wpS_mono (wpS_forRange (I:=fun k c st'=>c=(none,())/\SB kd a₀ st'/\pendingOf st'=pendingOf st/\Asc lt (arrOf st') lo k/\Out lo (lo+n) (arrOf st) (arrOf st'))
  (Q:=fun c st'=>c=(none,())/\SB kd a₀ st'/\pendingOf st'=pendingOf st/\Asc lt (arrOf st') lo n/\Out lo (lo+n) (arrOf st) (arrOf st')) ?step ?fin ?init) ?post)
 case post=>
  rintro c st' ⟨rfl,B,p0,a,ou⟩
  exact wpS_pure (hQ st' B p0 a ou)
 case init=>
  refine ⟨rfl,h,rfl,?_,Out.refl _⟩
  rwa [show max ok 1=ok by lia]
 case fin=>
  rintro c st' ⟨hc,B,p0,a,ou⟩
  refine ⟨hc,B,p0,?_,ou⟩
  rwa [show max (max ok 1) n=n by lia] at a
 case step=>
  rintro k c st' hak hkn ⟨rfl,B,p0,a,ou⟩
  have sz:=B.size
  refine wpS_bind (wpS_mono (wpS_forRange (I:=fun x c st''=>st''=st'/\∃ l r,c=(none,l,r)/\l<=r/\r<=k/\r - l<=k - x /\
    (∀ i,i<l->LE lt (G (arrOf st') (lo+i)) (G (arrOf st') (lo+k)))/\(∀ i,r<=i->i<k->LE lt (G (arrOf st') (lo+k)) (G (arrOf st') (lo+i))))
   (Q:=fun c st''=>st''=st'/\∃ l r,c=(none,l,r)/\l<=k /\
    (∀ i,i<l->LE lt (G (arrOf st') (lo+i)) (G (arrOf st') (lo+k)))/\(∀ i,l<=i->i<k->LE lt (G (arrOf st') (lo+k)) (G (arrOf st') (lo+i)))) ?istep ?ifin ?iinit) ?ipost)
  case iinit=>exact ⟨rfl,0,k,rfl,by lia,by lia,by lia,fun i hi=>by lia,fun i b1 b2=>by lia⟩
  case ifin=>
   rintro c st'' ⟨rfl,l,r,rfl,b1,b2,b3,b4,b5⟩
   have:l=r:=by lia
   subst this
   exact ⟨rfl,l,l,rfl,b2,b4,b5⟩
  case istep=>
   rintro x c st'' _ hxk ⟨rfl,l,r,rfl,b1,b2,b3,b4,b5⟩
   dsimp only
   by_cases hge:l>=r
   ·rw[if_pos hge]
    have:l=r:=by lia
    subst this
    exact wpS_pure ⟨rfl,l,l,rfl,b2,b4,b5⟩
   ·rw[if_neg hge]
    refine wpS_bind (EV C B hg (by lia) (by lia) ?_)
    cases q:lt (G (arrOf st'') (lo+k)) (G (arrOf st'') (lo+(l+r) / 2)) with
    | true=>
     simp only[if_true]
     have q':=O.tot (B.ok hg (by lia)) (B.ok hg (by lia)) q
     exact wpS_pure ⟨rfl,l,(l+r) / 2,rfl,by lia,by lia,by lia,b4,fun i c1 c2=>O.tr (B.ok hg (by lia)) (B.ok hg (by lia)) (B.ok hg (by lia)) q' (a _ _ (by lia) (by lia) (by lia))⟩
    | false=>
     simp only[Bool.false_eq_true,if_false]
     exact wpS_pure ⟨rfl,(l+r) / 2+1,r,rfl,by lia,by lia,by lia,fun i c1=>O.tr (B.ok hg (by lia)) (B.ok hg (by lia)) (B.ok hg (by lia)) (a (lo+i) (lo+(l+r) / 2) (by lia) (by lia) (by lia)) q,b5⟩
  case ipost=>
   rintro c st'' ⟨rfl,l,r,rfl,b1,b4,b5⟩
   show wpS _ _ _ _ (do moveDown' (lo+k) (lo+l);pure (ForInStep.yield (none,()))) _ _
   rw[moveDown'_eq]
   have hks:lo+k<(arrOf st'').size:=by lia
   refine wpS_bind (wpS_modify (wpS_pure ⟨rfl,B.put (bubble_perm _ _ _),p0,?_,ou.trans (Tc hks (by lia) (by lia) (by lia))⟩))
   intro i j hi hij hj
   show LE lt (G (bubble (arrOf st'') (lo+k) (lo+k - (lo+l))) i) (G (bubble (arrOf st'') (lo+k) (lo+k - (lo+l))) j)
   rw[LF hks (by lia),LF hks (by lia),show lo+k - (lo+k - (lo+l))=lo+l by lia]
   have e4:∀ m,lo<=m->m<lo+l->LE lt (G (arrOf st'') m) (G (arrOf st'') (lo+k)):=fun m m1 m2=>by
    have:=b4 (m - lo) (by lia)
    rwa [show lo+(m - lo)=m by lia] at this
   have e5:∀ m,lo+l<=m->m<lo+k->LE lt (G (arrOf st'') (lo+k)) (G (arrOf st'') m):=fun m m1 m2=>by
    have:=b5 (m - lo) (by lia) (by lia)
    rwa [show lo+(m - lo)=m by lia] at this
   repeat' split
   all_goals first
    | (exfalso;lia)
    | exact O.rf (B.ok hg (by lia))
    | exact e4 _ (by lia) (by lia)
    | exact e5 _ (by lia) (by lia)
    | exact a _ _ (by lia) (by lia) (by lia)
end
theorem Sw (i:Nat):mergeAt' i=(do
 let s <-get
 let (some (sa,na,pw),some (sb,nb,_)):=((pendingOf s)[i]?,(pendingOf s)[i+1]?) | unsupported "internal:list.sort.pending"
 set (setPending s (((pendingOf s).setIfInBounds i (sa,na+nb,pw)).eraseIdxIfInBounds (i+1)))
 let some k <-gal false (<-elem' (arrOf s) sb) (arrOf s) sa na 0 | return false
 let (sa,na):=(sa+k,na - k)
 if na == 0 then return true
 let some nb <-gal true (<-elem' (arrOf s) (sa+na - 1)) (arrOf s) sb nb (nb - 1) | return false
 if nb == 0 then return true
 let x:=(arrOf s).extract sa sb
 let y:=(arrOf s).extract sb (sb+nb)
 let m <-if na<=nb then mLo x y else mHi x y
 modify fun s=>setArr s (m.toList.zipIdx.foldl (fun a (p,j)=>a.setIfInBounds (sa+j) p) (arrOf s))
 return (failedOf (<-get)).isNone):=rfl
theorem LS {f:Array Keyed->Keyed×Nat->Array Keyed} {o:Nat} (hf:∀ a p j,f a (p,j)=a.setIfInBounds (o+j) p):∀ (m:List Keyed) (j0:Nat) (xs:Array Keyed),o+j0+m.length<=xs.size ->
  ((m.zipIdx j0).foldl f xs).size=xs.size/\∀ k,((m.zipIdx j0).foldl f xs)[k]?=if o+j0<=k/\k<o+j0+m.length then m[k - (o+j0)]? else xs[k]?
 | [],j0,xs,_=>⟨rfl,fun k=>by rw[if_neg (by rw[List.length_nil];lia)];rfl⟩
 | x::m,j0,xs,h=>by
  rw[List.length_cons] at h
  have ih:=LS hf m (j0+1) (f xs (x,j0)) (by rw[hf,Array.size_setIfInBounds];lia)
  rw[List.zipIdx_cons,List.foldl_cons]
  refine ⟨by rw[ih.1,hf,Array.size_setIfInBounds],fun k=>?_⟩
  rw[ih.2 k,hf,List.length_cons]
  by_cases c:k=o+j0
  ·subst c
   rw[if_neg (by lia),if_pos (by lia),Nat.sub_self,Array.getElem?_setIfInBounds_self_of_lt (by lia)]
   rfl
  ·rw[Array.getElem?_setIfInBounds_ne (by lia)]
   by_cases c2:o+(j0+1)<=k/\k<o+(j0+1)+m.length
   ·rw[if_pos c2,if_pos (by lia),show k - (o+j0)=(k - (o+(j0+1)))+1 by lia,List.getElem?_cons_succ]
   ·rw[if_neg c2,if_neg (by lia)]
section
variable {prog:Program} {w:World} {A:Around} {E:Value->Shared->Prop} {s:Shared} {kd:SortKind} {good:Keyed->Prop} {lt:Keyed->Keyed->Bool} {st:SortSt} {a₀:Array Keyed}
theorem Cm {xs:Array Keyed} {i:Nat} {x:Keyed} (h:xs.toList[i]?=some x):G xs i=x:=by
 unfold G
 rw[<-Array.getElem?_toList,h]
 rfl
theorem E5 {xs:Array Keyed} {i:Nat} (h:i<xs.size):xs.toList[i]?=some (G xs i):=by
 rw[Array.getElem?_toList]
 exact El h
theorem Asc.sl {lo n u v:Nat} {xs:Array Keyed} (hg:∀ k,k<xs.size->good (G xs k)) (a:Asc lt xs lo n) (h1:lo<=u) (h2:v<=lo+n) (h3:v<=xs.size):SL good lt (xs.extract u v).toList:=by
 have at_:∀ i x,(xs.extract u v).toList[i]?=some x->x=G xs (u+i)/\u+i<v:=fun i x hx=>by
  rw[Do] at hx
  have hl:=Ce hx
  rw[List.length_take,List.length_drop,Array.length_toList] at hl
  rw[List.getElem?_take_of_lt (by lia),List.getElem?_drop] at hx
  exact ⟨(Cm hx).symm,by lia⟩
 refine ⟨fun x hx=>?_,List.pairwise_iff_getElem.mpr fun i j hi hj hij=>?_⟩
 ·obtain ⟨i,hi⟩:=List.mem_iff_getElem?.mp hx
  obtain ⟨e,l⟩:=at_ i x hi
  rw[e]
  exact hg _ (by lia)
 ·obtain ⟨e1,l1⟩:=at_ i _ (List.getElem?_eq_getElem hi)
  obtain ⟨e2,l2⟩:=at_ j _ (List.getElem?_eq_getElem hj)
  rw[e1,e2]
  exact a _ _ (by lia) (by lia) (by lia)
theorem QC {Q:Bool->SortSt->Prop} (C:Cmp prog w A E s kd good lt) (O:Ord good lt) (h:SB kd a₀ st) (hg:∀ x∈a₀.toList,good x) {i s1 n1 p1 n2 p2:Nat} (e1:(pendingOf st)[i]?=some (s1,n1,p1)) (e2:(pendingOf st)[i+1]?=some (s1+n1,n2,p2))
  (l1:1<=n1) (l2:1<=n2) (hs:s1+n1+n2<=a₀.size) (a1:Asc lt (arrOf st) s1 n1) (a2:Asc lt (arrOf st) (s1+n1) n2)
  (hQ:∀ st',SB kd a₀ st'->pendingOf st'=((pendingOf st).setIfInBounds i (s1,n1+n2,p1)).eraseIdxIfInBounds (i+1)->Asc lt (arrOf st') s1 (n1+n2)->Out s1 (s1+n1+n2) (arrOf st) (arrOf st')->Q true st') :
  wpS (model prog w) A E s (mergeAt' i) Q st:=by
 rw[Sw]
 refine wpS_bind (wpS_get ?_)
 rw[e1,e2]
 dsimp only
 have sz:=h.size
 have gs:=h.gs hg
 refine wpS_bind (m:=set _) ?_
 show wpS (model prog w) A E s (modify fun _=>setPending st (((pendingOf st).setIfInBounds i (s1,n1+n2,p1)).eraseIdxIfInBounds (i+1))) _ st
 refine wpS_modify ?_
 have B1:SB kd a₀ (setPending st (((pendingOf st).setIfInBounds i (s1,n1+n2,p1)).eraseIdxIfInBounds (i+1))):=⟨h.perm,h.kind,h.fail⟩
 refine wpS_bind (BI (El (by lia)) (wpS_bind (EF (xs:=arrOf st) (bs:=s1) (n:=n1) (h:=0) C O B1.kind (gs _ (by lia)) (by lia) (fun i hi x hx=>?_) (fun i j x y hij hj hx hy=>?_) (by lia) fun k k1 k2 k3=>?_)))
 ·rw[<-Cm hx];exact gs _ (by lia)
 ·rw[<-Cm hx,<-Cm hy];exact a1 _ _ (by lia) (by lia) (by lia)
 have k2':∀ m,s1<=m->m<s1+k->LE lt (G (arrOf st) m) (G (arrOf st) (s1+n1)):=fun m m1 m2=>k2 (m - s1) _ (by lia) (by rw[show s1+(m - s1)=m by lia];exact E5 (by lia))
 have k3':∀ m,s1+k<=m->m<s1+n1->LE lt (G (arrOf st) (s1+n1)) (G (arrOf st) m):=fun m m1 m2=>k3 (m - s1) _ (by lia) (by lia) (by rw[show s1+(m - s1)=m by lia];exact E5 (by lia))
 dsimp only
 by_cases c1:(n1 - k == 0)=true
 ·rw[if_pos c1]
  have c1':n1 - k=0:=eq_of_beq c1
  refine wpS_pure (hQ _ B1 rfl (fun p q b1 b2 b3=>?_) (Out.refl _))
  by_cases d1:q<s1+n1
  ·exact a1 p q b1 b2 d1
  ·by_cases d2:p<s1+n1
   ·exact O.tr (gs _ (by lia)) (gs _ (by lia)) (gs _ (by lia)) (k2' p b1 (by lia)) (a2 _ q (Nat.le_refl _) (by lia) (by lia))
   ·exact a2 p q (by lia) b2 (by lia)
 rw[if_neg c1]
 have c1':k<n1:=by
  have:¬n1 - k=0:=fun z=>c1 (by rw[z];rfl)
  lia
 rw[show s1+k+(n1 - k) - 1=s1+n1 - 1 by lia]
 refine wpS_bind (BI (El (by lia)) (wpS_bind (EF (xs:=arrOf st) (bs:=s1+n1) (n:=n2) (h:=n2 - 1) C O B1.kind (gs _ (by lia)) (by lia) (fun i hi x hx=>?_) (fun i j x y hij hj hx hy=>?_) (by lia) fun u j1 j2 j3=>?_)))
 ·rw[<-Cm hx];exact gs _ (by lia)
 ·rw[<-Cm hx,<-Cm hy];exact a2 _ _ (by lia) (by lia) (by lia)
 have j2':∀ m,s1+n1<=m->m<s1+n1+u->LE lt (G (arrOf st) m) (G (arrOf st) (s1+n1 - 1)):=fun m m1 m2=>j2 (m - (s1+n1)) _ (by lia) (by rw[show s1+n1+(m - (s1+n1))=m by lia];exact E5 (by lia))
 have j3':∀ m,s1+n1+u<=m->m<s1+n1+n2->LE lt (G (arrOf st) (s1+n1 - 1)) (G (arrOf st) m):=fun m m1 m2=>j3 (m - (s1+n1)) _ (by lia) (by lia) (by rw[show s1+n1+(m - (s1+n1))=m by lia];exact E5 (by lia))
 dsimp only
 by_cases c2:(u == 0)=true
 ·rw[if_pos c2]
  have c2':u=0:=eq_of_beq c2
  refine wpS_pure (hQ _ B1 rfl (fun p q b1 b2 b3=>?_) (Out.refl _))
  by_cases d1:q<s1+n1
  ·exact a1 p q b1 b2 d1
  ·by_cases d2:p<s1+n1
   ·exact O.tr (gs _ (by lia)) (gs _ (by lia)) (gs _ (by lia)) (a1 p (s1+n1 - 1) b1 (by lia) (by lia)) (j3' q (by lia) (by lia))
   ·exact a2 p q (by lia) b2 (by lia)
 rw[if_neg c2]
 have c2':0<u:=by
  have:¬u=0:=fun z=>c2 (by rw[z];rfl)
  lia
 have sx:SL good lt ((arrOf st).extract (s1+k) (s1+n1)).toList:=a1.sl gs (by lia) (by lia) (by lia)
 have sy:SL good lt ((arrOf st).extract (s1+n1) (s1+n1+u)).toList:=a2.sl gs (by lia) (by lia) (by lia)
 have zx:((arrOf st).extract (s1+k) (s1+n1)).size=n1 - k:=by rw[Array.size_extract];lia
 have zy:((arrOf st).extract (s1+n1) (s1+n1+u)).size=u:=by rw[Array.size_extract];lia
 have gx:∀ i x,((arrOf st).extract (s1+k) (s1+n1)).toList[i]?=some x->x=G (arrOf st) (s1+k+i)/\s1+k+i<s1+n1:=fun i x hx=>by
  have hl:=Ce hx
  rw[Array.length_toList,zx] at hl
  rw[Do,List.getElem?_take_of_lt (by lia),List.getElem?_drop] at hx
  exact ⟨(Cm hx).symm,by lia⟩
 have gy:∀ i x,((arrOf st).extract (s1+n1) (s1+n1+u)).toList[i]?=some x->x=G (arrOf st) (s1+n1+i)/\i<u:=fun i x hx=>by
  have hl:=Ce hx
  rw[Array.length_toList,zy] at hl
  rw[Do,List.getElem?_take_of_lt (by lia),List.getElem?_drop] at hx
  exact ⟨(Cm hx).symm,hl⟩
 have fin:∀ (m:Array Keyed) (st2:SortSt),SG (setPending st (((pendingOf st).setIfInBounds i (s1,n1+n2,p1)).eraseIdxIfInBounds (i+1))) st2 ->
   Good lt ((arrOf st).extract (s1+k) (s1+n1)).toList ((arrOf st).extract (s1+n1) (s1+n1+u)).toList m.toList ->
   wpS (model prog w) A E s (do
    modify fun s=>setArr s (m.toList.zipIdx.foldl (fun a (p,j)=>a.setIfInBounds (s1+k+j) p) (arrOf s))
    return (failedOf (<-get)).isNone) Q st2:=fun m st2 g gd=>by
  refine wpS_bind (wpS_modify (wpS_bind (wpS_get (wpS_pure ?_))))
  have hm:m.toList.length=(n1 - k)+u:=by
   have:=gd.1.length_eq
   rw[List.length_append] at this
   simp only[Array.length_toList,zx,zy] at this ⊢
   exact this
  have garr:arrOf st2=arrOf st:=g.arr
  obtain ⟨w1,w2⟩:=LS (f:=fun a (p,j)=>a.setIfInBounds (s1+k+j) p) (o:=s1+k) (fun _ _ _=>rfl) m.toList 0 (arrOf st2) (by rw[garr,hm];lia)
  rw[garr] at w1 w2
  simp only[Nat.add_zero] at w2
  have hf:(failedOf (setArr st2 (m.toList.zipIdx.foldl (fun a (p,j)=>a.setIfInBounds (s1+k+j) p) (arrOf st2)))).isNone=true:=by
   show (failedOf st2).isNone=true
   rw[g.fail]
   show (failedOf st).isNone=true
   rw[h.fail]
   rfl
  rw[hf]
  have elist:(m.toList.zipIdx.foldl (fun a (p,j)=>a.setIfInBounds (s1+k+j) p) (arrOf st)).toList=(arrOf st).toList.take (s1+k)++(m.toList++(arrOf st).toList.drop (s1+n1+u)):=by
   refine List.ext_getElem? fun j=>?_
   rw[Array.getElem?_toList,w2 j]
   have ht:((arrOf st).toList.take (s1+k)).length=s1+k:=by rw[List.length_take,Array.length_toList];lia
   by_cases d1:j<s1+k
   ·rw[if_neg (by lia),List.getElem?_append_left (by lia),List.getElem?_take_of_lt d1,Array.getElem?_toList]
   ·rw[List.getElem?_append_right (by lia),ht]
    by_cases d2:j<s1+k+m.toList.length
    ·rw[if_pos (by lia),List.getElem?_append_left (by lia)]
    ·rw[if_neg (by lia),List.getElem?_append_right (by lia),List.getElem?_drop,Array.getElem?_toList]
     congr 1
     lia
  have orig:(arrOf st).toList=(arrOf st).toList.take (s1+k)++((((arrOf st).extract (s1+k) (s1+n1)).toList++((arrOf st).extract (s1+n1) (s1+n1+u)).toList)++(arrOf st).toList.drop (s1+n1+u)):=by
   refine List.ext_getElem? fun j=>?_
   have ht:((arrOf st).toList.take (s1+k)).length=s1+k:=by rw[List.length_take,Array.length_toList];lia
   by_cases d1:j<s1+k
   ·rw[List.getElem?_append_left (by lia),List.getElem?_take_of_lt d1]
   ·rw[List.getElem?_append_right (by lia),ht,List.append_assoc]
    by_cases d2:j<s1+n1
    ·rw[List.getElem?_append_left (by rw[Array.length_toList,zx];lia),Do,List.getElem?_take_of_lt (by lia),List.getElem?_drop]
     congr 1
     lia
    ·rw[List.getElem?_append_right (by rw[Array.length_toList,zx];lia),Array.length_toList,zx]
     by_cases d3:j<s1+n1+u
     ·rw[List.getElem?_append_left (by rw[Array.length_toList,zy];lia),Do,List.getElem?_take_of_lt (by lia),List.getElem?_drop]
      congr 1
      lia
     ·rw[List.getElem?_append_right (by rw[Array.length_toList,zy];lia),Array.length_toList,zy,List.getElem?_drop]
      congr 1
      lia
  have hp:(m.toList.zipIdx.foldl (fun a (p,j)=>a.setIfInBounds (s1+k+j) p) (arrOf st)).Perm (arrOf st):=by
   refine Array.perm_iff_toList_perm.mpr ?_
   rw[elist]
   exact List.Perm.trans (List.Perm.append_left _ (List.Perm.append_right _ gd.1)) (List.Perm.of_eq orig.symm)
  have nw:arrOf (setArr st2 (m.toList.zipIdx.foldl (fun a (p,j)=>a.setIfInBounds (s1+k+j) p) (arrOf st2)))=m.toList.zipIdx.foldl (fun a (p,j)=>a.setIfInBounds (s1+k+j) p) (arrOf st):=by rw[garr]
  refine hQ _ ⟨?_,g.kind.trans h.kind,g.fail.trans h.fail⟩ g.pend ?_ ?_
  ·rw[nw]
   exact hp.trans h.perm
  ·rw[nw]
   have gm:∀ j,s1+k<=j->j<s1+n1+u->∃ z,m.toList[j - (s1+k)]?=some z/\G (m.toList.zipIdx.foldl (fun a (p,j)=>a.setIfInBounds (s1+k+j) p) (arrOf st)) j=z/\z∈m.toList:=fun j b1 b2=>by
    have e:m.toList[j - (s1+k)]?=some m.toList[j - (s1+k)]:=List.getElem?_eq_getElem (by lia)
    refine ⟨_,e,?_,List.mem_of_getElem? e⟩
    unfold G
    rw[w2 j,if_pos (by lia),e]
    rfl
   have go:∀ j,(j<s1+k\/s1+n1+u<=j)->G (m.toList.zipIdx.foldl (fun a (p,j)=>a.setIfInBounds (s1+k+j) p) (arrOf st)) j=G (arrOf st) j:=fun j b=>B9 (by rw[w2 j,if_neg (by lia)])
   have mem:∀ z∈m.toList,good z/\(∀ j,s1<=j->j<s1+k->LE lt (G (arrOf st) j) z)/\∀ j,s1+n1+u<=j->j<s1+n1+n2->LE lt z (G (arrOf st) j):=fun z hz=>by
    rcases List.mem_append.mp (gd.1.mem_iff.mp hz) with hz | hz
    ·obtain ⟨i',hi'⟩:=List.mem_iff_getElem?.mp hz
     obtain ⟨rfl,l⟩:=gx i' z hi'
     refine ⟨gs _ (by lia),fun j b1 b2=>a1 _ _ b1 (by lia) (by lia),fun j b1 b2=>?_⟩
     exact O.tr (gs _ (by lia)) (gs _ (by lia)) (gs _ (by lia)) (a1 _ (s1+n1 - 1) (by lia) (by lia) (by lia)) (j3' j b1 b2)
    ·obtain ⟨i',hi'⟩:=List.mem_iff_getElem?.mp hz
     obtain ⟨rfl,l⟩:=gy i' z hi'
     refine ⟨gs _ (by lia),fun j b1 b2=>?_,fun j b1 b2=>a2 _ _ (by lia) (by lia) (by lia)⟩
     exact O.tr (gs _ (by lia)) (gs _ (by lia)) (gs _ (by lia)) (k2' j b1 b2) (a2 _ _ (Nat.le_refl _) (by lia) (by lia))
   intro p q b1 b2 b3
   by_cases d1:p<s1+k
   ·rw[go p (.inl d1)]
    by_cases d2:q<s1+k
    ·rw[go q (.inl d2)];exact a1 _ _ b1 b2 (by lia)
    by_cases d3:q<s1+n1+u
    ·obtain ⟨z,_,e,hz⟩:=gm q (by lia) d3
     rw[e];exact (mem z hz).2.1 p b1 d1
    ·rw[go q (.inr (by lia))]
     exact O.tr (gs _ (by lia)) (gs _ (by lia)) (gs _ (by lia)) (k2' p b1 d1) (a2 _ _ (Nat.le_refl _) (by lia) (by lia))
   by_cases d3:p<s1+n1+u
   ·obtain ⟨z,ez,e,hz⟩:=gm p (by lia) d3
    rw[e]
    by_cases d4:q<s1+n1+u
    ·obtain ⟨z',ez',e',hz'⟩:=gm q (by lia) d4
     rw[e']
     by_cases d5:p=q
     ·subst d5
      rw[ez] at ez'
      cases ez'
      exact O.rf (mem z hz).1
     ·obtain ⟨h1',q1⟩:=List.getElem?_eq_some_iff.mp ez
      obtain ⟨h2',q2⟩:=List.getElem?_eq_some_iff.mp ez'
      rw[<-q1,<-q2]
      exact List.pairwise_iff_getElem.mp gd.2 _ _ h1' h2' (by lia)
    ·rw[go q (.inr (by lia))]
     exact (mem z hz).2.2 q (by lia) (by lia)
   ·rw[go p (.inr (by lia)),go q (.inr (by lia))]
    exact a2 _ _ (by lia) b2 (by lia)
  ·intro j hj
   rw[nw,w2 j,if_neg (by lia)]
 have h1':∀ x,((arrOf st).extract (s1+k) (s1+n1)).toList[((arrOf st).extract (s1+k) (s1+n1)).size - 1]?=some x->∀ y∈((arrOf st).extract (s1+n1) (s1+n1+u)).toList,LE lt y x:=fun x hx y hy=>by
  obtain ⟨rfl,l⟩:=gx _ x hx
  obtain ⟨i',hi'⟩:=List.mem_iff_getElem?.mp hy
  obtain ⟨rfl,l'⟩:=gy i' y hi'
  rw[zx,show s1+k+(n1 - k - 1)=s1+n1 - 1 by lia]
  exact j2' _ (by lia) (by lia)
 have h0':∀ y,((arrOf st).extract (s1+n1) (s1+n1+u)).toList[0]?=some y->∀ x∈((arrOf st).extract (s1+k) (s1+n1)).toList,LE lt y x:=fun y hy x hx=>by
  obtain ⟨rfl,l⟩:=gy _ y hy
  obtain ⟨i',hi'⟩:=List.mem_iff_getElem?.mp hx
  obtain ⟨rfl,l'⟩:=gx i' x hi'
  exact k3' _ (by lia) (by lia)
 by_cases c3:n1 - k<=u
 ·rw[if_pos c3]
  exact wpS_bind (Px C O B1.kind sx sy (by lia) (by lia) (fun x y hx hy=>h0' y hy x (List.mem_of_getElem? hx)) h1' fun r st' g gd=>fin r st' g gd)
 ·rw[if_neg c3]
  exact wpS_bind (Uk C O B1.kind sx sy (by lia) (by lia) h0' h1' fun r st' g gd=>fin r st' g gd)
end
def Ch (lt:Keyed->Keyed->Bool) (xs:Array Keyed):Nat->List (Nat×Nat×Nat)->Nat->Prop
 | s,[],e=>s=e
 | s,(t,n,_)::r,e=>t=s/\1<=n/\Asc lt xs s n/\Ch lt xs (s+n) r e
section
variable {lt:Keyed->Keyed->Bool} {xs ys:Array Keyed}
theorem Ch.app:∀ {P R:List (Nat×Nat×Nat)} {s e:Nat},Ch lt xs s (P++R) e->∃ m,Ch lt xs s P m/\Ch lt xs m R e
 | [],_,s,_,h=>⟨s,rfl,h⟩
 | (t,n,p)::P,R,s,e,h=>by
  obtain ⟨h1,h2,h3,h4⟩:=h
  obtain ⟨m,a,b⟩:=Ch.app (P:=P) h4
  exact ⟨m,⟨h1,h2,h3,a⟩,b⟩
theorem Ch.join:∀ {P R:List (Nat×Nat×Nat)} {s m e:Nat},Ch lt xs s P m->Ch lt xs m R e->Ch lt xs s (P++R) e
 | [],_,s,m,_,h,k=>by
  have h':s=m:=h
  subst h'
  exact k
 | (t,n,p)::P,R,s,m,e,h,k=>by
  obtain ⟨h1,h2,h3,h4⟩:=h
  exact ⟨h1,h2,h3,Ch.join (P:=P) h4 k⟩
theorem Ch.le:∀ {P:List (Nat×Nat×Nat)} {s e:Nat},Ch lt xs s P e->s+P.length<=e
 | [],s,e,h=>by
  have h':s=e:=h
  simp[h']
 | (t,n,p)::P,s,e,h=>by
  obtain ⟨h1,h2,h3,h4⟩:=h
  have:=Ch.le (P:=P) h4
  rw[List.length_cons]
  lia
theorem Asc.keep {lo n:Nat} (a:Asc lt xs lo n) (h:∀ k,lo<=k->k<lo+n->G ys k=G xs k):Asc lt ys lo n:=fun i j h1 h2 h3=>by
 rw[h i h1 (by lia),h j (by lia) h3]
 exact a i j h1 h2 h3
theorem Ch.keep:∀ {P:List (Nat×Nat×Nat)} {s e:Nat},Ch lt xs s P e->(∀ k,s<=k->k<e->G ys k=G xs k)->Ch lt ys s P e
 | [],_,_,h,_=>h
 | (t,n,p)::P,s,e,h,k=>by
  obtain ⟨h1,h2,h3,h4⟩:=h
  have:=Ch.le h4
  exact ⟨h1,h2,h3.keep fun i a b=>k i a (by lia),Ch.keep (P:=P) h4 fun i a b=>k i (by lia) b⟩
end
theorem KB {α:Type} (a b x:α) (l2:List α):∀ l1:List α,((l1++a::b::l2).set l1.length x).eraseIdx (l1.length+1)=l1++x::l2
 | []=>rfl
 | c::l1=>by
  show c::(((l1++a::b::l2).set l1.length x).eraseIdx (l1.length+1))=c::(l1++x::l2)
  rw[KB a b x l2 l1]
section
variable {prog:Program} {w:World} {A:Around} {E:Value->Shared->Prop} {s:Shared} {kd:SortKind} {good:Keyed->Prop} {lt:Keyed->Keyed->Bool} {st:SortSt} {a₀:Array Keyed}
theorem LB {Q:Bool->SortSt->Prop} (C:Cmp prog w A E s kd good lt) (O:Ord good lt) (h:SB kd a₀ st) (hg:∀ x∈a₀.toList,good x) {i e:Nat} (hc:Ch lt (arrOf st) 0 (pendingOf st).toList e) (he:e<=a₀.size) (hi:i+1<(pendingOf st).size)
  (hQ:∀ st',SB kd a₀ st'->Ch lt (arrOf st') 0 (pendingOf st').toList e->(pendingOf st').size+1=(pendingOf st).size->(∀ k,e<=k->G (arrOf st') k=G (arrOf st) k)->Q true st'):wpS (model prog w) A E s (mergeAt' i) Q st:=by
 obtain ⟨x,d1⟩:∃ x,(pendingOf st).toList[i]?=some x:=⟨_,List.getElem?_eq_getElem (by rw[Array.length_toList];lia)⟩
 obtain ⟨y,d2⟩:∃ x,(pendingOf st).toList[i+1]?=some x:=⟨_,List.getElem?_eq_getElem (by rw[Array.length_toList];lia)⟩
 have split:(pendingOf st).toList=(pendingOf st).toList.take i++x::y::(pendingOf st).toList.drop (i+2):=by
  obtain ⟨g1,e1⟩:=List.getElem?_eq_some_iff.mp d1
  obtain ⟨g2,e2⟩:=List.getElem?_eq_some_iff.mp d2
  rw[<-e1,<-e2,<-List.drop_eq_getElem_cons g2,<-List.drop_eq_getElem_cons g1,List.take_append_drop]
 have lt1:((pendingOf st).toList.take i).length=i:=by rw[List.length_take,Array.length_toList];lia
 obtain ⟨s1,n1,p1⟩:=x
 obtain ⟨s2,n2,p2⟩:=y
 have hc':=hc
 rw[split] at hc'
 obtain ⟨m,c1,c2⟩:=Ch.app hc'
 obtain ⟨rfl,l1,a1,rfl,l2,a2,c3⟩:=c2
 have hle:=Ch.le c3
 refine QC C O h hg (by rw[<-Array.getElem?_toList];exact d1) (by rw[<-Array.getElem?_toList];exact d2) l1 l2 (by lia) a1 a2 fun st' B pe as ou=>?_
 have ep:(pendingOf st').toList=(pendingOf st).toList.take i++(s1,n1+n2,p1)::(pendingOf st).toList.drop (i+2):=by
  rw[pe,Array.toList_eraseIdxIfInBounds,Array.toList_setIfInBounds]
  have q:=KB (s1,n1,p1) (s1+n1,n2,p2) (s1,n1+n2,p1) ((pendingOf st).toList.drop (i+2)) ((pendingOf st).toList.take i)
  rw[<-split,lt1] at q
  exact q
 refine hQ st' B ?_ ?_ fun k hk=>B9 (ou k (.inr (by lia)))
 ·rw[ep]
  have hm:=Ch.le c1
  refine Ch.join (m:=s1) (c1.keep fun k b1 b2=>B9 (ou k (.inl b2))) ⟨rfl,by lia,as,?_⟩
  rw[<-Nat.add_assoc]
  exact c3.keep fun k b1 b2=>B9 (ou k (.inr b1))
 ·have z1:=congrArg List.length ep
  have z2:=congrArg List.length split
  rw[List.length_append,List.length_cons] at z1 z2
  rw[List.length_cons] at z2
  rw[Array.length_toList] at z1 z2
  lia
theorem Ch.last {xs:Array Keyed} {P:List (Nat×Nat×Nat)} {e:Nat} {f:Nat×Nat×Nat->Nat×Nat×Nat} (hf:∀ t n p,∃ q,f (t,n,p)=(t,n,q)):∀ {s:Nat} (i:Nat),Ch lt xs s P e->Ch lt xs s (P.modify i f) e:=by
 induction P with
 | nil=>intro s i h;cases i<;>exact h
 | cons x P ih=>
  intro s i h
  obtain ⟨t,n,p⟩:=x
  obtain ⟨h1,h2,h3,h4⟩:=h
  cases i with
  | zero=>
   obtain ⟨q,e⟩:=hf t n p
   show Ch lt xs s (f (t,n,p)::P) _
   rw[e]
   exact ⟨h1,h2,h3,h4⟩
  | succ i=>exact ⟨h1,h2,h3,ih i h4⟩
theorem HN {Q:Unit->SortSt->Prop} (C:Cmp prog w A E s kd good lt) (O:Ord good lt) (h:SB kd a₀ st) (hp:pendingOf st=#[]) (hg:∀ x∈a₀.toList,good x) (h2:2<=a₀.size)
  (hQ:∀ st',SB kd a₀ st'->Asc lt (arrOf st') 0 a₀.size->Q () st'):wpS (model prog w) A E s sortRuns' Q st:=by
 rw[sortRuns'_eq]
 refine wpS_bind (wpS_get ?_)
 dsimp only
 have sz:=h.size
 rw[sz]
 generalize minRun' a₀.size a₀.size 0=mr
 refine wpS_bind (wpS_mono (wpS_forRange
  (I:=fun x c st'=>∃ lo,c=(none,lo)/\x<=lo/\lo<=a₀.size/\SB kd a₀ st'/\Ch lt (arrOf st') 0 (pendingOf st').toList lo)
  (Q:=fun c st'=>∃ lo,c=(none,lo)/\lo=a₀.size/\SB kd a₀ st'/\Ch lt (arrOf st') 0 (pendingOf st').toList lo) ?step ?fin ⟨0,rfl,Nat.le_refl _,Nat.zero_le _,h,by rw[hp];rfl⟩) ?post)
 case fin=>
  rintro c st' ⟨lo,rfl,a1,a2,B,hc⟩
  exact ⟨lo,rfl,by lia,B,hc⟩
 case step=>
  rintro x c st1 _ hx ⟨lo,rfl,a1,a2,B,hc⟩
  dsimp only
  by_cases c1:lo>=a₀.size
  ·rw[if_pos c1]
   exact wpS_pure ⟨lo,rfl,by lia,B,hc⟩
  rw[if_neg c1]
  refine wpS_bind (SR C O B hg (by lia) (by lia) fun n st2 B2 p0 q1 q2 q3 q4=>?_)
  have hc2:Ch lt (arrOf st2) 0 (pendingOf st2).toList lo:=by
   rw[p0]
   exact hc.keep fun k _ b2=>B9 (q4 k (.inl b2))
  dsimp only
  have rest:∀ (n:Nat) (st3:SortSt),SB kd a₀ st3->Ch lt (arrOf st3) 0 (pendingOf st3).toList lo->1<=n->lo+n<=a₀.size->Asc lt (arrOf st3) lo n ->
    (∃ lo',(none,lo+n)=((none,lo'):Option Unit×Nat)/\x+1<=lo'/\lo'<=a₀.size/\SB kd a₀ (setPending st3 ((pendingOf st3).push (lo,n,0)))/\Ch lt (arrOf st3) 0 ((pendingOf st3).push (lo,n,0)).toList lo'):=fun n st3 B3 hc3 r1 r2 r3=>by
   refine ⟨lo+n,rfl,by lia,r2,⟨B3.perm,B3.kind,B3.fail⟩,?_⟩
   rw[Array.toList_push]
   exact Ch.join hc3 ⟨rfl,r1,r3,rfl⟩
  by_cases c2:n<mr
  case' pos=>
   rw[if_pos c2]
   refine wpS_bind (wpS_lift (wpAny_rule ⟨rfl,?_⟩))
   refine wpS_bind (RO (n:=min (a₀.size - lo) mr) C O B2 hg (by lia) q1 (by lia) q3 fun st2 B2 p3 q3 ou=>?_)
   simp only[Bool.not_true,Bool.false_eq_true,if_false]
   replace hc2:Ch lt (arrOf st2) 0 (pendingOf st2).toList lo:=by
    rw[p3]
    exact hc2.keep fun k _ b=>B9 (ou k (.inl b))
   have q1:1<=min (a₀.size - lo) mr:=by lia
   have q2':lo+min (a₀.size - lo) mr<=a₀.size:=by lia
   clear ou
   revert q3 q1 q2'
   generalize min (a₀.size - lo) mr=n
   intro q3 q1 q2'
  case' neg=>
   rw[if_neg c2]
   have q2':lo+n<=a₀.size:=by lia
  all_goals
   refine wpS_bind (wpS_get ?_)
   cases eb:(pendingOf st2).back? with
   | none=>
    dsimp only
    exact wpS_bind (wpS_modify (wpS_pure (rest n st2 B2 hc2 q1 q2' q3)))
   | some y=>
    obtain ⟨s1,n1,pz⟩:=y
    dsimp only
    generalize power' a₀.size (2 * s1+n1) (2 * s1+n1+n1+n) a₀.size=pw
    refine wpS_bind (wpS_mono (wpS_forRange
     (I:=fun _ c st3=>c=(none,())/\SB kd a₀ st3/\Ch lt (arrOf st3) 0 (pendingOf st3).toList lo/\Asc lt (arrOf st3) lo n)
     (Q:=fun c st3=>c=(none,())/\SB kd a₀ st3/\Ch lt (arrOf st3) 0 (pendingOf st3).toList lo/\Asc lt (arrOf st3) lo n) ?istep ?ifin ⟨rfl,B2,hc2,q3⟩) ?ipost)
    case ifin=>exact fun c st3 z=>z
    case ipost=>
     rintro c st3 ⟨rfl,B3,hc3,as3⟩
     refine wpS_bind (wpS_modify (wpS_bind (wpS_modify (wpS_pure ?_))))
     refine rest n (setPending st3 ((pendingOf st3).modify ((pendingOf st3).size - 1) fun x=>(x.fst,x.2.fst,pw))) ⟨B3.perm,B3.kind,B3.fail⟩ ?_ q1 q2' as3
     show Ch lt (arrOf st3) 0 ((pendingOf st3).modify ((pendingOf st3).size - 1) fun x=>(x.fst,x.2.fst,pw)).toList lo
     rw[Array.toList_modify]
     exact Ch.last (fun t n p=>⟨_,rfl⟩) _ hc3
    case istep=>
     rintro z c st3 _ hz ⟨rfl,B3,hc3,as3⟩
     refine wpS_bind (wpS_get ?_)
     by_cases c3:(pendingOf st3).size > 1
     ·rw[if_pos c3]
      have e3:(pendingOf st3)[(pendingOf st3).size - 2]?=some (pendingOf st3)[(pendingOf st3).size - 2]:=Array.getElem?_eq_getElem (by lia)
      rw[e3]
      generalize (pendingOf st3)[(pendingOf st3).size - 2]=y3
      obtain ⟨t3,n3,p3'⟩:=y3
      dsimp only
      by_cases c4:p3'<=pw
      ·rw[if_pos c4]
       exact wpS_pure ⟨rfl,B3,hc3,as3⟩
      ·rw[if_neg c4]
       refine wpS_bind (LB C O B3 hg hc3 a2 (by lia) fun st4 B4 hc4 _ kp=>?_)
       simp only[Bool.not_true,Bool.false_eq_true,if_false]
       exact wpS_pure ⟨rfl,B4,hc4,as3.keep fun k b1 _=>kp k b1⟩
     ·rw[if_neg c3]
      exact wpS_pure ⟨rfl,B3,hc3,as3⟩
 case post=>
  rintro c st' ⟨lo,rfl,rfl,B,hc⟩
  dsimp only
  have hl:=Ch.le hc
  rw[Array.length_toList] at hl
  refine wpS_bind (wpS_mono (wpS_forRange
   (I:=fun x c st''=>c=(none,())/\SB kd a₀ st''/\Ch lt (arrOf st'') 0 (pendingOf st'').toList a₀.size/\(pendingOf st'').size+x<=a₀.size)
   (Q:=fun c st''=>c=(none,())/\SB kd a₀ st''/\Ch lt (arrOf st'') 0 (pendingOf st'').toList a₀.size/\(pendingOf st'').size<=1) ?step ?fin ⟨rfl,B,hc,by lia⟩) ?post)
  case fin=>
   rintro c st'' ⟨rfl,B',hc',l'⟩
   exact ⟨rfl,B',hc',by lia⟩
  case post=>
   rintro c st'' ⟨rfl,B',hc',l'⟩
   refine wpS_pure (hQ st'' B' ?_)
   cases e:(pendingOf st'').toList with
   | nil=>
    rw[e] at hc'
    have z:0=a₀.size:=hc'
    lia
   | cons y r=>
    have hr:r=[]:=by
     have z:=congrArg List.length e
     rw[Array.length_toList,List.length_cons] at z
     cases r with
     | nil=>rfl
     | cons _ _=>rw[List.length_cons] at z;lia
    subst hr
    obtain ⟨t,n,p⟩:=y
    rw[e] at hc'
    obtain ⟨_,_,b3,b4⟩:=hc'
    have z:0+n=a₀.size:=b4
    rw[<-z,Nat.zero_add]
    exact b3
  case step=>
   rintro x c st'' _ hx ⟨rfl,B',hc',l'⟩
   refine wpS_bind (wpS_get ?_)
   by_cases c1:(pendingOf st'').size<=1
   ·rw[if_pos c1]
    exact wpS_pure ⟨rfl,B',hc',c1⟩
   ·rw[if_neg c1]
    refine wpS_bind (LB C O B' hg hc' (Nat.le_refl _) ?_ fun st3 B3 hc3 l3 _=>?_)
    ·have hidx:∀ c:Bool,(if c=true then (pendingOf st'').size - 2 - 1 else (pendingOf st'').size - 2)+1<(pendingOf st'').size:=fun c=>by
      cases c with
      | true=>rw[if_pos rfl];lia
      | false=>rw[if_neg Bool.false_ne_true];lia
     exact hidx _
    ·simp only[Bool.not_true,Bool.false_eq_true,if_false]
     exact wpS_pure ⟨rfl,B3,hc3,by lia⟩
end
section
variable {prog:Program} {w:World} {A:Around} {E:Value->Shared->Prop} {s:Shared}
def Lj (x:Keyed):Prop:=∃ n t,x.1=Value.int n t
def Cy (x y:Keyed):Bool:=decide (numOf x.1<numOf y.1)
theorem Sh:Cmp prog w A E s oneType' Lj Cy where
 run:=fun {st x y Q} hk gx gy hq=>by
  obtain ⟨n,t,e1⟩:=gx
  obtain ⟨m,u,e2⟩:=gy
  unfold Cy at hq
  rw[e1,e2] at hq
  rw[lt'_eq]
  refine wpS_bind (wpS_get ?_)
  rw[hk,keyLt'_oneType,e1,e2]
  exact wpS_bind (wpS_lift (wpAny_attempt (oneLt_int ⟨rfl,wpS_pure hq⟩)))
theorem Pn:Ord Lj Cy where
 tr:=fun {x y z} _ _ _ h1 h2=>by
  unfold Cy at *
  rw[decide_eq_false_iff_not] at *
  lia
 tot:=fun {x y} _ _ h=>by
  unfold Cy at *
  rw[decide_eq_true_iff] at h
  rw[decide_eq_false_iff_not]
  lia
theorem K_G (xs:Array Keyed) (i:Nat):K xs i=numOf (G xs i).1:=by
 unfold K G
 cases xs[i]? with
 | none=>rfl
 | some p=>rfl
theorem Qg {a:Addr} {vs:List Value} {ns:List Int} {n:Nat} {P:Fin->Shared->Prop} (ho:s.heap.get? a=some (seqObj "list" vs.toArray n)) (hI:IntsAre vs ns) (hz:vs.length<=sizeLine)
  (hP:∀ (out:Array Value) (ms:List Int),IntsAre out.toList ms->ms.Perm ns->ms.Pairwise (·<=·)->P (.done (.ret .none)) {s with heap:=sortedHeap s.heap a vs out}):wpAny (model prog w) A (Builtin.«list.sort» ⟨[.ref a],[]⟩) P E s:=by
 rw[list_sort_plain]
 have la:a<s.heap.objs.size:=Heap.lt_size ho
 refine wpAny_bind (listItems_at ho rfl (wpAny_bind (listUpdate_at ho rfl ?_ (by rw[List.size_toArray];exact hz))))
 obtain ⟨c1,o1⟩:∃ c1,(s.heap.update a (Obj.mapSeq fun _=>#[])).get? a=some (seqObj "list" #[] c1):=⟨_,get?_update_seq ho (fun _=>#[])⟩
 refine wpAny_bind (seqEpoch_at o1 rfl (wpAny_bind (wpAny_newTuple (wpAny_bind (wpAny_newList (wpAny_holding ?_))))))
 have o6:(((s.heap.update a (Obj.mapSeq fun _=>#[])).push (seqObj "tuple" vs.toArray 0)).push (seqObj "list" #[] 0)).get? a=some (seqObj "list" #[] c1):=by
  rw[Heap.get?_push_ne _ _ _ (by rw[size_push',Heap.size_update];exact Nat.ne_of_lt (Nat.lt_succ_of_lt la)),Heap.get?_push_ne _ _ _ (by rw[Heap.size_update];exact Nat.ne_of_lt la)]
  exact o1
 show wpAny (model prog w) A _ P E {s with heap:=((s.heap.update a (Obj.mapSeq fun _=>#[])).push (seqObj "tuple" vs.toArray 0)).push (seqObj "list" #[] 0)}
 dsimp only
 have zs:vs.toArray.size=vs.length:=by simp
 have fin:∀ st':SortSt,(arrOf st').Perm (pairsOf vs)->SortedTo (arrOf st') (pairsOf vs).size->P (.done (.ret .none)) {s with heap:=sortedHeap s.heap a vs ((arrOf st').map (·.2))}:=fun st' hp hs=>by
  obtain ⟨ms,q1,q2,q3⟩:=sorted_out hI hp hs
  exact hP _ ms q1 q2 q3
 by_cases h2:vs.toArray.size<2
 ·rw[if_pos h2,if_pos h2]
  refine wpAny_bind (wpAny_pure ?_)
  rw[StateT.run_pure]
  refine wpAny_bind (wpAny_pure ?_)
  dsimp only
  refine wpAny_bind (seqEpoch_at o6 rfl (wpAny_bind (listUpdate_at o6 rfl ?_ (hsz2:=by rw[Array.size_map];show (pairsOf vs).size<=_;rw[pairsOf_size];lia))))
  simp only[bne_self_eq_false,Bool.false_eq_true,if_false]
  refine wpAny_pure (fin (SortSt.mk' general' (vs.toArray.zip vs.toArray) #[] 7 none) (Array.Perm.refl _) fun i j hij hj=>?_)
  have:i=j:=by rw[pairsOf_size] at hj;lia
  subst this
  exact Int.le_refl _
 ·rw[if_neg h2,if_neg h2]
  obtain ⟨v,v',r,rfl⟩:∃ v v' r,vs=v::v'::r:=by
   cases vs with
   | nil=>simp at h2
   | cons v r=>
    cases r with
    | nil=>simp at h2
    | cons v' r=>exact ⟨v,v',r,rfl⟩
  rw[keyKind_ints hI]
  refine wpAny_bind (wpAny_pure ?_)
  refine wpAny_bind (wpAny_mono (HN (a₀:=pairsOf (v::v'::r)) (st:=SortSt.mk' oneType' ((v::v'::r).toArray.zip (v::v'::r).toArray) #[] 7 none)
   (Q:=fun _ st'=>SB oneType' (pairsOf (v::v'::r)) st'/\Asc Cy (arrOf st') 0 (pairsOf (v::v'::r)).size)
   Sh Pn ⟨Array.Perm.refl _,rfl,rfl⟩ rfl (fun x hx=>hI.intKeys x hx) (by rw[pairsOf_size];simp) fun st' B as=>⟨B,as⟩) ?_ fun _ _ e=>e)
  rintro ⟨⟨⟩,st'⟩ s' ⟨rfl,B,as⟩
  dsimp only
  refine wpAny_bind (seqEpoch_at o6 rfl (wpAny_bind (listUpdate_at o6 rfl ?_ (hsz2:=by refine Nat.le_trans (Nat.le_of_eq ((Array.size_map ..).trans (B.perm.size_eq.trans (pairsOf_size _)))) ?_;lia))))
  rw[B.fail]
  simp only[bne_self_eq_false,Bool.false_eq_true,if_false]
  refine wpAny_pure (fin st' B.perm fun i j hij hj=>?_)
  have q:Cy (G (arrOf st') j) (G (arrOf st') i)=false:=as i j (Nat.zero_le _) hij (by lia)
  unfold Cy at q
  rw[decide_eq_false_iff_not] at q
  rw[K_G,K_G]
  lia
theorem Pt {l:Addr} {vs:List Value} {ns:List Int} {Q:Value->Shared->Prop} (hl:s.heap.IsList l vs.toArray) (hI:IntsAre vs ns) (hz:vs.length<=sizeLine)
  (h:∀ (out:Array Value) (ms:List Int),IntsAre out.toList ms->ms.Perm ns->ms.Pairwise (·<=·)->Q (.ref (s.heap.objs.size+1)) {s with heap:=sortedAll s.heap vs out}):wpAny (model prog w) A (call (.builtin "sorted") [.ref l]) Q E s:=by
 refine Calls.call_function_entry kind_sorted plain_sorted entry_sorted (args_sorted1 _) ?_
 unfold Builtin.«sorted»
 refine wpAny_bind (m:=checkCount "sorted" 1 1 _) (wpAny_pure (wpAny_bind (collect_list hl ?_ hz)))
 refine wpAny_bind (wpAny_newList ?_)
 have sz:((s.heap.push (seqObj "list" #[] 0)).update s.heap.objs.size (Obj.mapSeq (·++vs.toArray))).objs.size=s.heap.objs.size+1:=by rw[Heap.size_update,size_push']
 have oL:(((s.heap.push (seqObj "list" #[] 0)).update s.heap.objs.size (Obj.mapSeq (·++vs.toArray))).push (seqObj "list" vs.toArray 0)).get? (s.heap.objs.size+1)=some (seqObj "list" vs.toArray 0):=by
  rw[<-sz]
  exact Heap.get?_push_size _ rfl
 show wpAny _ _ _ _ _ {s with heap:=((s.heap.push (seqObj "list" #[] 0)).update s.heap.objs.size (Obj.mapSeq (·++vs.toArray))).push (seqObj "list" vs.toArray 0)}
 rw[sz]
 refine wpAny_bind (wpAny_holding (wpAny_call_entry slot_list_sort ⟨_,oL,rfl⟩ entry_list_sort (Qg oL hI hz fun out ms b1 b2 b3=>⟨_,rfl,?_⟩) (args_list_sort _)))
 exact wpAny_pure ⟨_,rfl,h out ms b1 b2 b3⟩
end
theorem JF:∀ {ns ms:List Int},HT.lexLt ns ms=true->HT.lexLt ms ns=false
 | [],[],h=>by cases h
 | [],_::_,_=>rfl
 | _::_,[],h=>by cases h
 | n::ns,m::ms,h=>by
  rw[HT.C0] at *
  split at h
  ·rename_i e
   rw[if_pos e.symm]
   exact JF h
  ·rename_i e
   rw[if_neg (fun z=>e z.symm)]
   have:=of_decide_eq_true h
   exact decide_eq_false (by lia)
theorem Hz:∀ {x y z:List Int},HT.lexLt y x=false->HT.lexLt z y=false->HT.lexLt z x=false
 | [],y,z,_,_=>by cases z<;>rfl
 | _::_,[],z,h,_=>by cases h
 | x::xs,y::ys,[],_,h=>by cases h
 | x::xs,y::ys,z::zs,h1,h2=>by
  rw[HT.C0] at *
  split at h1
  ·rename_i e1
   subst e1
   split at h2
   ·rename_i e2
    rw[if_pos e2]
    exact Hz h1 h2
   ·rename_i e2
    rw[if_neg e2]
    exact h2
  ·rename_i e1
   have a1:=of_decide_eq_false h1
   split at h2
   ·rename_i e2
    subst e2
    rw[if_neg e1]
    exact h1
   ·rename_i e2
    have a2:=of_decide_eq_false h2
    rw[if_neg (by lia)]
    exact decide_eq_false (by lia)
theorem Lm:∀ {x y:List Int},HT.lexLt y x=false->HT.lexLt x y=false->x=y
 | [],[],_,_=>rfl
 | [],_::_,_,h=>by cases h
 | _::_,[],h,_=>by cases h
 | x::xs,y::ys,h1,h2=>by
  rw[HT.C0] at *
  split at h1
  ·rename_i e
   subst e
   rw[if_pos rfl] at h2
   rw[Lm h1 h2]
  ·rename_i e
   rw[if_neg (fun z=>e z.symm)] at h2
   have:=of_decide_eq_false h1
   have:=of_decide_eq_false h2
   exact absurd (by lia:y=x) e
section
variable {prog:Program} {w:World} {A:Around} {E:Value->Shared->Prop} {s:Shared}
def CA (h:Heap) (ν:Value->List Int) (v:Value):Prop:=∃ a o xs n,v=.ref a/\h.get? a=some o/\o.cls=.type "tuple"/\o.data=.seq xs n/\IntsAre xs.toList (ν v)/\ν v≠[]
def Fd (ν:Value->List Int) (x y:Keyed):Bool:=HT.lexLt (ν x.1) (ν y.1)
theorem L1 {b:Bool} {Q:Bool->Shared->Prop}:∀ {xs ys:List Value} {ns ms:List Int} {i:Nat} {fin:Bool},IntsAre xs ns->IntsAre ys ms->fin=decide (ns.length<ms.length)->Q (HT.lexLt ns ms) s->PySem.W.KatLex prog w A b fin Q (xs.zip ys) i s
 | _,_,_,_,_,_,.nil,.nil,hf,h=>by subst hf;exact PySem.W.kat_nil h
 | _,_,_,_,_,_,.nil,.cons c u hw,hf,h=>by subst hf;exact PySem.W.kat_nil h
 | _,_,_,_,_,_,.cons a t hv,.nil,hf,h=>by subst hf;exact PySem.W.kat_nil h
 | _,_,_,_,i,fin,.cons a t hv,.cons c u hw,hf,h=>by
  rw[List.zip_cons_cons]
  refine PySem.W.kat_cons (wpAny_eqBool_int ?_)
  by_cases e:a=c
  ·subst e
   rw[show (a == a)=true by simp]
   refine PySem.W.kat_yes (L1 hv hw (by rw[hf];simp) ?_)
   rw[HT.C0,if_pos rfl] at h
   exact h
  ·rw[show (a == c)=false by simpa using e]
   refine PySem.W.kat_no ?_
   have hq:=h
   rw[HT.C0,if_neg e] at hq
   cases hb:(b && i == 0) with
   | false=>exact PySem.W.kat_one _ _ (lt_int hq)
   | true=>exact oneLt_int hq
theorem O8 {ν:Value->List Int}:Cmp prog w A E s (tuples' true) (fun x=>CA s.heap ν x.1) (Fd ν) where
 run:=fun {st x y Q} hk gx gy hq=>by
  obtain ⟨a,o,xs,n,e1,ho,hc,hd,hi,_⟩:=gx
  obtain ⟨a',o',xs',n',e1',ho',hc',hd',hi',_⟩:=gy
  unfold Fd at hq
  rw[lt'_eq]
  refine wpS_bind (wpS_get ?_)
  rw[hk,e1,e1']
  refine wpS_bind (wpS_lift (wpAny_attempt (PySem.W.kat_lt ho hd ho' hd' ?_)))
  exact L1 hi hi' (by rw[<-hi.length,<-hi'.length];simp) ⟨rfl,wpS_pure hq⟩
theorem Sa {h:Heap} {ν:Value->List Int}:Ord (fun x=>CA h ν x.1) (Fd ν) where
 tr:=fun {x y z} _ _ _ h1 h2=>Hz h1 h2
 tot:=fun {x y} _ _ h=>JF h
theorem Nd {h:Heap} {ν:Value->List Int}:∀ {vs:List Value},(∀ v∈vs,CA h ν v)->∃ fs,PySem.W.KatTups h vs fs/\fs.length=vs.length/\∀ v∈fs,∃ n t,v=Value.int n t
 | [],_=>⟨[],.nil,rfl,fun _ h=>nomatch h⟩
 | v::vs,hg=>by
  obtain ⟨fs,h1,h2,h3⟩:=Nd (vs:=vs) fun u hu=>hg u (List.mem_cons_of_mem _ hu)
  obtain ⟨a,o,xs,n,rfl,ho,hc,hd,hi,hne⟩:=hg v List.mem_cons_self
  cases hx:xs.toList with
  | nil=>
   rw[hx] at hi
   cases hq:ν (.ref a) with
   | nil=>exact absurd hq hne
   | cons m ms=>rw[hq] at hi;cases hi
  | cons y ys=>
   rw[hx] at hi
   cases hq:ν (.ref a) with
   | nil=>exact absurd hq hne
   | cons m ms=>
    rw[hq] at hi
    cases hi with
    | cons _ t hi'=>
     have h0:xs[0]?=some (Value.int m t):=by
      have:xs.toList[0]?=some (Value.int m t):=by rw[hx];rfl
      simpa using this
     exact ⟨.int m t::fs,.cons ho hc hd h0 h1,by simp[h2],fun u hu=>by
      rcases List.mem_cons.mp hu with rfl | hu
      ·exact ⟨m,t,rfl⟩
      ·exact h3 u hu⟩
theorem TR {a:Addr} {vs:List Value} {n:Nat} {P:Fin->Shared->Prop} (ν:Value->List Int) (ho:s.heap.get? a=some (seqObj "list" vs.toArray n)) (hI:∀ v∈vs,CA s.heap ν v) (hz:vs.length<=sizeLine)
  (hP:∀ (out:Array Value),out.toList.Perm vs->out.toList.Pairwise (fun u v=>HT.lexLt (ν v) (ν u)=false)->P (.done (.ret .none)) {s with heap:=sortedHeap s.heap a vs out}):wpAny (model prog w) A (Builtin.«list.sort» ⟨[.ref a],[]⟩) P E s:=by
 rw[list_sort_plain]
 have la:a<s.heap.objs.size:=Heap.lt_size ho
 refine wpAny_bind (listItems_at ho rfl (wpAny_bind (listUpdate_at ho rfl ?_ (by rw[List.size_toArray];exact hz))))
 obtain ⟨c1,o1⟩:∃ c1,(s.heap.update a (Obj.mapSeq fun _=>#[])).get? a=some (seqObj "list" #[] c1):=⟨_,get?_update_seq ho (fun _=>#[])⟩
 refine wpAny_bind (seqEpoch_at o1 rfl (wpAny_bind (wpAny_newTuple (wpAny_bind (wpAny_newList (wpAny_holding ?_))))))
 have o6:(((s.heap.update a (Obj.mapSeq fun _=>#[])).push (seqObj "tuple" vs.toArray 0)).push (seqObj "list" #[] 0)).get? a=some (seqObj "list" #[] c1):=by
  rw[Heap.get?_push_ne _ _ _ (by rw[size_push',Heap.size_update];exact Nat.ne_of_lt (Nat.lt_succ_of_lt la)),Heap.get?_push_ne _ _ _ (by rw[Heap.size_update];exact Nat.ne_of_lt la)]
  exact o1
 show wpAny (model prog w) A _ P E {s with heap:=((s.heap.update a (Obj.mapSeq fun _=>#[])).push (seqObj "tuple" vs.toArray 0)).push (seqObj "list" #[] 0)}
 dsimp only
 have hI6:∀ v∈vs,CA (((s.heap.update a (Obj.mapSeq fun _=>#[])).push (seqObj "tuple" vs.toArray 0)).push (seqObj "list" #[] 0)) ν v:=fun v hv=>by
  obtain ⟨b,o,xs,n',rfl,hb,hc,hd,hi,hne⟩:=hI v hv
  have nb:b≠a:=fun z=>by
   rw[z,ho] at hb
   cases hb
   have hc':Value.type "list"=Value.type "tuple":=hc
   exact absurd hc' (by decide)
  refine ⟨b,o,xs,n',rfl,?_,hc,hd,hi,hne⟩
  refine Heap.get?_push_of_some _ (Heap.get?_push_of_some _ ?_)
  rw[Heap.get?_update_ne _ _ _ _ nb]
  exact hb
 have zs:vs.toArray.size=vs.length:=by simp
 have fin:∀ st':SortSt,(arrOf st').Perm (pairsOf vs)->(∀ i j:Nat,i<j->j<(arrOf st').size->HT.lexLt (ν (G (arrOf st') j).1) (ν (G (arrOf st') i).1)=false)->P (.done (.ret .none)) {s with heap:=sortedHeap s.heap a vs ((arrOf st').map (·.2))}:=fun st' hp hs=>by
  have hl:(arrOf st').toList.Perm (vs.zip vs):=by rw[<-pairsOf_toList];exact Array.perm_iff_toList_perm.mp hp
  have hmem:∀ p,p∈(arrOf st').toList->p.1=p.2/\p.1∈vs:=fun p hp'=>mem_zip_self (hl.mem_iff.mp hp')
  have e:((arrOf st').map (·.2)).toList=(arrOf st').toList.map (·.1):=by
   rw[Array.toList_map];exact List.map_congr_left fun p hp'=>(hmem p hp').1.symm
  refine hP _ ?_ ?_
  ·rw[e]
   have h1:=hl.map Prod.fst
   rwa [List.map_fst_zip (Nat.le_refl _)] at h1
  ·rw[e,List.pairwise_iff_getElem]
   intro i j hi hj hij
   rw[List.getElem_map,List.getElem_map]
   have hj':j<(arrOf st').size:=by simpa using hj
   have hi':i<(arrOf st').size:=by lia
   have q:=hs i j hij hj'
   have gi:G (arrOf st') i=(arrOf st')[i]:=by unfold G;rw[getElem?_pos _ i hi'];rfl
   have gj:G (arrOf st') j=(arrOf st')[j]:=by unfold G;rw[getElem?_pos _ j hj'];rfl
   rw[gi,gj] at q
   simpa using q
 by_cases h2:vs.toArray.size<2
 ·rw[if_pos h2,if_pos h2]
  refine wpAny_bind (wpAny_pure ?_)
  rw[StateT.run_pure]
  refine wpAny_bind (wpAny_pure ?_)
  dsimp only
  refine wpAny_bind (seqEpoch_at o6 rfl (wpAny_bind (listUpdate_at o6 rfl ?_ (hsz2:=by rw[Array.size_map];show (pairsOf vs).size<=_;rw[pairsOf_size];lia))))
  simp only[bne_self_eq_false,Bool.false_eq_true,if_false]
  refine wpAny_pure (fin (SortSt.mk' general' (vs.toArray.zip vs.toArray) #[] 7 none) (Array.Perm.refl _) fun i j hij hj=>?_)
  have hj':j<(pairsOf vs).size:=hj
  rw[pairsOf_size] at hj'
  lia
 ·rw[if_neg h2,if_neg h2]
  obtain ⟨fs,t1,t2,t3⟩:=Nd hI6
  refine wpAny_bind (PySem.W.kat_kind (T:=Value.type "int") t1 (by lia) (fun v hv=>by obtain ⟨k,t,rfl⟩:=t3 v hv;exact .of_pure rfl) (by decide) ?_)
  have kd:tuples' ((Value.type "int") != Value.type "tuple")=tuples' true:=by congr 1
  rw[kd]
  refine wpAny_bind (wpAny_mono (HN (a₀:=pairsOf vs) (st:=SortSt.mk' (tuples' true) (vs.toArray.zip vs.toArray) #[] 7 none)
   (Q:=fun _ st'=>SB (tuples' true) (pairsOf vs) st'/\Asc (Fd ν) (arrOf st') 0 (pairsOf vs).size)
   O8 Sa ⟨Array.Perm.refl _,rfl,rfl⟩ rfl (fun x hx=>by
    have hx':x∈vs.zip vs:=by rw[<-pairsOf_toList];exact hx
    exact hI6 _ (mem_zip_self hx').2) (by rw[pairsOf_size];lia) fun st' B as=>⟨B,as⟩) ?_ fun _ _ e=>e)
  rintro ⟨⟨⟩,st'⟩ s' ⟨rfl,B,as⟩
  dsimp only
  refine wpAny_bind (seqEpoch_at o6 rfl (wpAny_bind (listUpdate_at o6 rfl ?_ (hsz2:=by refine Nat.le_trans (Nat.le_of_eq ((Array.size_map ..).trans (B.perm.size_eq.trans (pairsOf_size _)))) ?_;lia))))
  rw[B.fail]
  simp only[bne_self_eq_false,Bool.false_eq_true,if_false]
  refine wpAny_pure (fin st' B.perm fun i j hij hj=>?_)
  exact as i j (Nat.zero_le _) (by lia) (by have z:(arrOf st').size=(pairsOf vs).size:=B.perm.size_eq;lia)
theorem SS {l:Addr} {vs:List Value} {Q:Value->Shared->Prop} (ν:Value->List Int) (hl:s.heap.IsList l vs.toArray) (hI:∀ v∈vs,CA s.heap ν v) (hz:vs.length<=sizeLine)
  (h:∀ (out:Array Value),out.toList.Perm vs->out.toList.Pairwise (fun u v=>HT.lexLt (ν v) (ν u)=false)->Q (.ref (s.heap.objs.size+1)) {s with heap:=sortedAll s.heap vs out}):wpAny (model prog w) A (call (.builtin "sorted") [.ref l]) Q E s:=by
 refine Calls.call_function_entry kind_sorted plain_sorted entry_sorted (args_sorted1 _) ?_
 unfold Builtin.«sorted»
 refine wpAny_bind (m:=checkCount "sorted" 1 1 _) (wpAny_pure (wpAny_bind (collect_list hl ?_ hz)))
 refine wpAny_bind (wpAny_newList ?_)
 have sz:((s.heap.push (seqObj "list" #[] 0)).update s.heap.objs.size (Obj.mapSeq (·++vs.toArray))).objs.size=s.heap.objs.size+1:=by rw[Heap.size_update,size_push']
 have oL:(((s.heap.push (seqObj "list" #[] 0)).update s.heap.objs.size (Obj.mapSeq (·++vs.toArray))).push (seqObj "list" vs.toArray 0)).get? (s.heap.objs.size+1)=some (seqObj "list" vs.toArray 0):=by
  rw[<-sz]
  exact Heap.get?_push_size _ rfl
 have hI2:∀ v∈vs,CA (((s.heap.push (seqObj "list" #[] 0)).update s.heap.objs.size (Obj.mapSeq (·++vs.toArray))).push (seqObj "list" vs.toArray 0)) ν v:=fun v hv=>by
  obtain ⟨b,o,xs,n',rfl,hb,hc,hd,hi,hne⟩:=hI v hv
  have lb:b<s.heap.objs.size:=Heap.lt_size hb
  refine ⟨b,o,xs,n',rfl,?_,hc,hd,hi,hne⟩
  refine Heap.get?_push_of_some _ ?_
  rw[Heap.get?_update_ne _ _ _ _ (Nat.ne_of_lt lb)]
  exact Heap.get?_push_of_some _ hb
 show wpAny _ _ _ _ _ {s with heap:=((s.heap.push (seqObj "list" #[] 0)).update s.heap.objs.size (Obj.mapSeq (·++vs.toArray))).push (seqObj "list" vs.toArray 0)}
 rw[sz]
 refine wpAny_bind (wpAny_holding (wpAny_call_entry slot_list_sort ⟨_,oL,rfl⟩ entry_list_sort (TR ν oL hI2 hz fun out b1 b2=>⟨_,rfl,?_⟩) (args_list_sort _)))
 exact wpAny_pure ⟨_,rfl,h out b1 b2⟩
end
end EvS
namespace EvS
open PySem PySem.Spec PyProof.Rows
def sLt (a b:Str):Bool:=decide (a.cps.toList<b.cps.toList)
def BJ (x y:Int×Str):Bool:=if x.1=y.1 then sLt x.2 y.2 else decide (x.1<y.1)
theorem Tf {a b:Str} (h1:sLt a b=false) (h2:sLt b a=false):a=b:=by
 have h1:=of_decide_eq_false h1
 have h2:=of_decide_eq_false h2
 have e:a.cps.toList=b.cps.toList:=List.le_antisymm (List.not_lt.mp h2) (List.not_lt.mp h1)
 cases a;cases b
 simp only at e
 rw[Array.toList_inj.mp e]
theorem UK {a b:Str} (h:sLt a b=true):sLt b a=false:=decide_eq_false (List.lt_asymm (of_decide_eq_true h))
theorem Q3 {x y z:Str} (h1:sLt y x=false) (h2:sLt z y=false):sLt z x=false:=decide_eq_false (List.not_lt.mpr (List.le_trans (List.not_lt.mp (of_decide_eq_false h1)) (List.not_lt.mp (of_decide_eq_false h2))))
theorem Pf (x:Str):sLt x x=false:=decide_eq_false (List.lt_irrefl _)
theorem K7 {x y:Int×Str} (h:BJ x y=true):BJ y x=false:=by
 unfold BJ at *
 split at h
 ·rename_i e
  rw[if_pos e.symm]
  exact UK h
 ·rename_i e
  rw[if_neg (fun z=>e z.symm)]
  have:=of_decide_eq_true h
  exact decide_eq_false (by lia)
theorem KJ {x y z:Int×Str} (h1:BJ y x=false) (h2:BJ z y=false):BJ z x=false:=by
 unfold BJ at *
 split at h1
 ·rename_i e1
  split at h2
  ·rename_i e2
   rw[if_pos (e2.trans e1)]
   exact Q3 h1 h2
  ·rename_i e2
   rw[if_neg (by lia)]
   have:=of_decide_eq_false h2
   exact decide_eq_false (by lia)
 ·rename_i e1
  have a1:=of_decide_eq_false h1
  split at h2
  ·rename_i e2
   rw[if_neg (by lia)]
   exact decide_eq_false (by lia)
  ·rename_i e2
   have a2:=of_decide_eq_false h2
   rw[if_neg (by lia)]
   exact decide_eq_false (by lia)
theorem Rg {x y:Int×Str} (h1:BJ y x=false) (h2:BJ x y=false):x=y:=by
 unfold BJ at *
 split at h1
 ·rename_i e
  rw[if_pos e.symm] at h2
  exact Prod.ext e.symm (Tf h2 h1)
 ·rename_i e
  rw[if_neg (fun z=>e z.symm)] at h2
  have:=of_decide_eq_false h1
  have:=of_decide_eq_false h2
  exact absurd (by lia) e
section
variable {prog:Program} {w:World} {A:Around} {E:Value->Shared->Prop} {s:Shared}
def gTh (h:Heap) (ν:Value->Int×Str) (v:Value):Prop:=∃ a o n t u,v=.ref a/\h.get? a=some o/\o.cls=.type "tuple"/\o.data=.seq #[.int (ν v).1 t,.str (ν v).2 u] n
def lTh (ν:Value->Int×Str) (x y:Keyed):Bool:=BJ (ν x.1) (ν y.1)
theorem Rv {Q:Bool->Shared->Prop} {a c:Int} {x y:Str} {t u t' u':Tok} (h:Q (BJ (a,x) (c,y)) s):PySem.W.KatLex prog w A true false Q [(.int a t,.int c t'),(.str x u,.str y u')] 0 s:=by
 refine PySem.W.kat_cons (wpAny_eqBool_int ?_)
 by_cases e:a=c
 ·subst e
  rw[show (a == a)=true by simp]
  refine PySem.W.kat_yes (PySem.W.kat_cons (wpAny_eqBool_str ?_))
  have h:Q (sLt x y) s:=by unfold BJ at h;rw[if_pos rfl] at h;exact h
  by_cases e2:x=y
  ·subst e2
   rw[decide_eq_true rfl]
   rw[Pf] at h
   exact PySem.W.kat_yes (PySem.W.kat_nil h)
  ·rw[decide_eq_false e2]
   exact PySem.W.kat_no (PySem.W.kat_one _ _ (P.lt_str h))
 ·rw[show (a == c)=false by simpa using e]
  refine PySem.W.kat_no ?_
  have h:Q (decide (a<c)) s:=by unfold BJ at h;rw[if_neg e] at h;exact h
  exact oneLt_int h
theorem SA {ν:Value->Int×Str}:Cmp prog w A E s (tuples' true) (fun x=>gTh s.heap ν x.1) (lTh ν) where
 run:=fun {st x y Q} hk gx gy hq=>by
  obtain ⟨a,o,n,t,u,e1,ho,hc,hd⟩:=gx
  obtain ⟨a',o',n',t',u',e1',ho',hc',hd'⟩:=gy
  unfold lTh at hq
  rw[lt'_eq]
  refine wpS_bind (wpS_get ?_)
  rw[hk,e1,e1']
  refine wpS_bind (wpS_lift (wpAny_attempt (PySem.W.kat_lt ho hd ho' hd' ?_)))
  exact Rv ⟨rfl,wpS_pure hq⟩
theorem UG {h:Heap} {ν:Value->Int×Str}:Ord (fun x=>gTh h ν x.1) (lTh ν) where
 tr:=fun {x y z} _ _ _ h1 h2=>KJ h1 h2
 tot:=fun {x y} _ _ h=>K7 h
theorem Lq {h:Heap} {ν:Value->Int×Str}:∀ {vs:List Value},(∀ v∈vs,gTh h ν v)->∃ fs,PySem.W.KatTups h vs fs/\fs.length=vs.length/\∀ v∈fs,∃ n t,v=Value.int n t
 | [],_=>⟨[],.nil,rfl,fun _ h=>nomatch h⟩
 | v::vs,hg=>by
  obtain ⟨fs,h1,h2,h3⟩:=Lq (vs:=vs) fun u hu=>hg u (List.mem_cons_of_mem _ hu)
  obtain ⟨a,o,n,t,u,rfl,ho,hc,hd⟩:=hg v List.mem_cons_self
  exact ⟨.int _ t::fs,.cons ho hc hd rfl h1,by simp[h2],fun u hu=>by
   rcases List.mem_cons.mp hu with rfl | hu
   ·exact ⟨_,t,rfl⟩
   ·exact h3 u hu⟩
theorem Ug {a:Addr} {vs:List Value} {n:Nat} {P:Fin->Shared->Prop} (ν:Value->Int×Str) (ho:s.heap.get? a=some (seqObj "list" vs.toArray n)) (hI:∀ v∈vs,gTh s.heap ν v) (hz:vs.length<=sizeLine)
  (hP:∀ (out:Array Value),out.toList.Perm vs->out.toList.Pairwise (fun u v=>BJ (ν v) (ν u)=false)->P (.done (.ret .none)) {s with heap:=sortedHeap s.heap a vs out}):wpAny (model prog w) A (Builtin.«list.sort» ⟨[.ref a],[]⟩) P E s:=by
 rw[list_sort_plain]
 have la:a<s.heap.objs.size:=Heap.lt_size ho
 refine wpAny_bind (listItems_at ho rfl (wpAny_bind (listUpdate_at ho rfl ?_ (by rw[List.size_toArray];exact hz))))
 obtain ⟨c1,o1⟩:∃ c1,(s.heap.update a (Obj.mapSeq fun _=>#[])).get? a=some (seqObj "list" #[] c1):=⟨_,get?_update_seq ho (fun _=>#[])⟩
 refine wpAny_bind (seqEpoch_at o1 rfl (wpAny_bind (wpAny_newTuple (wpAny_bind (wpAny_newList (wpAny_holding ?_))))))
 have o6:(((s.heap.update a (Obj.mapSeq fun _=>#[])).push (seqObj "tuple" vs.toArray 0)).push (seqObj "list" #[] 0)).get? a=some (seqObj "list" #[] c1):=by
  rw[Heap.get?_push_ne _ _ _ (by rw[size_push',Heap.size_update];exact Nat.ne_of_lt (Nat.lt_succ_of_lt la)),Heap.get?_push_ne _ _ _ (by rw[Heap.size_update];exact Nat.ne_of_lt la)]
  exact o1
 show wpAny (model prog w) A _ P E {s with heap:=((s.heap.update a (Obj.mapSeq fun _=>#[])).push (seqObj "tuple" vs.toArray 0)).push (seqObj "list" #[] 0)}
 dsimp only
 have hI6:∀ v∈vs,gTh (((s.heap.update a (Obj.mapSeq fun _=>#[])).push (seqObj "tuple" vs.toArray 0)).push (seqObj "list" #[] 0)) ν v:=fun v hv=>by
  obtain ⟨b,o,n',t,u,rfl,hb,hc,hd⟩:=hI v hv
  have nb:b≠a:=fun z=>by
   rw[z,ho] at hb
   cases hb
   have hc':Value.type "list"=Value.type "tuple":=hc
   exact absurd hc' (by decide)
  refine ⟨b,o,n',t,u,rfl,?_,hc,hd⟩
  refine Heap.get?_push_of_some _ (Heap.get?_push_of_some _ ?_)
  rw[Heap.get?_update_ne _ _ _ _ nb]
  exact hb
 have zs:vs.toArray.size=vs.length:=by simp
 have fin:∀ st':SortSt,(arrOf st').Perm (pairsOf vs)->(∀ i j:Nat,i<j->j<(arrOf st').size->BJ (ν (G (arrOf st') j).1) (ν (G (arrOf st') i).1)=false)->P (.done (.ret .none)) {s with heap:=sortedHeap s.heap a vs ((arrOf st').map (·.2))}:=fun st' hp hs=>by
  have hl:(arrOf st').toList.Perm (vs.zip vs):=by rw[<-pairsOf_toList];exact Array.perm_iff_toList_perm.mp hp
  have hmem:∀ p,p∈(arrOf st').toList->p.1=p.2/\p.1∈vs:=fun p hp'=>mem_zip_self (hl.mem_iff.mp hp')
  have e:((arrOf st').map (·.2)).toList=(arrOf st').toList.map (·.1):=by
   rw[Array.toList_map];exact List.map_congr_left fun p hp'=>(hmem p hp').1.symm
  refine hP _ ?_ ?_
  ·rw[e]
   have h1:=hl.map Prod.fst
   rwa [List.map_fst_zip (Nat.le_refl _)] at h1
  ·rw[e,List.pairwise_iff_getElem]
   intro i j hi hj hij
   rw[List.getElem_map,List.getElem_map]
   have hj':j<(arrOf st').size:=by simpa using hj
   have hi':i<(arrOf st').size:=by lia
   have q:=hs i j hij hj'
   have gi:G (arrOf st') i=(arrOf st')[i]:=by unfold G;rw[getElem?_pos _ i hi'];rfl
   have gj:G (arrOf st') j=(arrOf st')[j]:=by unfold G;rw[getElem?_pos _ j hj'];rfl
   rw[gi,gj] at q
   simpa using q
 by_cases h2:vs.toArray.size<2
 ·rw[if_pos h2,if_pos h2]
  refine wpAny_bind (wpAny_pure ?_)
  rw[StateT.run_pure]
  refine wpAny_bind (wpAny_pure ?_)
  dsimp only
  refine wpAny_bind (seqEpoch_at o6 rfl (wpAny_bind (listUpdate_at o6 rfl ?_ (hsz2:=by rw[Array.size_map];show (pairsOf vs).size<=_;rw[pairsOf_size];lia))))
  simp only[bne_self_eq_false,Bool.false_eq_true,if_false]
  refine wpAny_pure (fin (SortSt.mk' general' (vs.toArray.zip vs.toArray) #[] 7 none) (Array.Perm.refl _) fun i j hij hj=>?_)
  have hj':j<(pairsOf vs).size:=hj
  rw[pairsOf_size] at hj'
  lia
 ·rw[if_neg h2,if_neg h2]
  obtain ⟨fs,t1,t2,t3⟩:=Lq hI6
  refine wpAny_bind (PySem.W.kat_kind (T:=Value.type "int") t1 (by lia) (fun v hv=>by obtain ⟨k,t,rfl⟩:=t3 v hv;exact .of_pure rfl) (by decide) ?_)
  have kd:tuples' ((Value.type "int") != Value.type "tuple")=tuples' true:=by congr 1
  rw[kd]
  refine wpAny_bind (wpAny_mono (HN (a₀:=pairsOf vs) (st:=SortSt.mk' (tuples' true) (vs.toArray.zip vs.toArray) #[] 7 none)
   (Q:=fun _ st'=>SB (tuples' true) (pairsOf vs) st'/\Asc (lTh ν) (arrOf st') 0 (pairsOf vs).size)
   SA UG ⟨Array.Perm.refl _,rfl,rfl⟩ rfl (fun x hx=>by
    have hx':x∈vs.zip vs:=by rw[<-pairsOf_toList];exact hx
    exact hI6 _ (mem_zip_self hx').2) (by rw[pairsOf_size];lia) fun st' B as=>⟨B,as⟩) ?_ fun _ _ e=>e)
  rintro ⟨⟨⟩,st'⟩ s' ⟨rfl,B,as⟩
  dsimp only
  refine wpAny_bind (seqEpoch_at o6 rfl (wpAny_bind (listUpdate_at o6 rfl ?_ (hsz2:=by refine Nat.le_trans (Nat.le_of_eq ((Array.size_map ..).trans (B.perm.size_eq.trans (pairsOf_size _)))) ?_;lia))))
  rw[B.fail]
  simp only[bne_self_eq_false,Bool.false_eq_true,if_false]
  refine wpAny_pure (fin st' B.perm fun i j hij hj=>?_)
  exact as i j (Nat.zero_le _) (by lia) (by have z:(arrOf st').size=(pairsOf vs).size:=B.perm.size_eq;lia)
theorem RV {l:Addr} {vs:List Value} {Q:Value->Shared->Prop} (ν:Value->Int×Str) (hl:s.heap.IsList l vs.toArray) (hI:∀ v∈vs,gTh s.heap ν v) (hz:vs.length<=sizeLine)
  (h:∀ (out:Array Value),out.toList.Perm vs->out.toList.Pairwise (fun u v=>BJ (ν v) (ν u)=false)->Q (.ref (s.heap.objs.size+1)) {s with heap:=sortedAll s.heap vs out}):wpAny (model prog w) A (call (.builtin "sorted") [.ref l]) Q E s:=by
 refine Calls.call_function_entry kind_sorted plain_sorted entry_sorted (args_sorted1 _) ?_
 unfold Builtin.«sorted»
 refine wpAny_bind (m:=checkCount "sorted" 1 1 _) (wpAny_pure (wpAny_bind (collect_list hl ?_ hz)))
 refine wpAny_bind (wpAny_newList ?_)
 have sz:((s.heap.push (seqObj "list" #[] 0)).update s.heap.objs.size (Obj.mapSeq (·++vs.toArray))).objs.size=s.heap.objs.size+1:=by rw[Heap.size_update,size_push']
 have oL:(((s.heap.push (seqObj "list" #[] 0)).update s.heap.objs.size (Obj.mapSeq (·++vs.toArray))).push (seqObj "list" vs.toArray 0)).get? (s.heap.objs.size+1)=some (seqObj "list" vs.toArray 0):=by
  rw[<-sz]
  exact Heap.get?_push_size _ rfl
 have hI2:∀ v∈vs,gTh (((s.heap.push (seqObj "list" #[] 0)).update s.heap.objs.size (Obj.mapSeq (·++vs.toArray))).push (seqObj "list" vs.toArray 0)) ν v:=fun v hv=>by
  obtain ⟨b,o,n',t,u,rfl,hb,hc,hd⟩:=hI v hv
  have lb:b<s.heap.objs.size:=Heap.lt_size hb
  refine ⟨b,o,n',t,u,rfl,?_,hc,hd⟩
  refine Heap.get?_push_of_some _ ?_
  rw[Heap.get?_update_ne _ _ _ _ (Nat.ne_of_lt lb)]
  exact Heap.get?_push_of_some _ hb
 show wpAny _ _ _ _ _ {s with heap:=((s.heap.push (seqObj "list" #[] 0)).update s.heap.objs.size (Obj.mapSeq (·++vs.toArray))).push (seqObj "list" vs.toArray 0)}
 rw[sz]
 refine wpAny_bind (wpAny_holding (wpAny_call_entry slot_list_sort ⟨_,oL,rfl⟩ entry_list_sort (Ug ν oL hI2 hz fun out b1 b2=>⟨_,rfl,?_⟩) (args_list_sort _)))
 exact wpAny_pure ⟨_,rfl,h out b1 b2⟩
end
end EvS
namespace L2
open PySem PySem.Spec PyProof.Rows
section
variable {prog:Program} {w:World} {A:Around} {R:Result->Shared->Prop} {s:Shared}
theorem RC {elt tg src:Expr} {tests:List Expr} {sc:Scope} {cp:Pos} {it acc:Value} {ev:Env} (J:Nat->Shared->Prop)
  (turn:∀ n s,J n s->wpAny (model prog w) A (pyNext it) (fun r s1=>match r with
   | none=>R (.ok .next) s1
   | some v=>wpAny (model prog w) A (letOwnedTupleGo tg it v) (fun _ s2=>wpAny (model prog w) A (assign tg ev v) (fun _ s3=>
     wpAny (model prog w) A (forIn tests true fun c r=>if r=true then do let ok <-isTrue c ev (eval c ev);pure (ForInStep.yield ok) else pure (ForInStep.yield r)) (fun ok s4=>
      if ok=true then wpAny (model prog w) A (eval elt ev) (fun x s5=>wpAny (model prog w) A (call (.builtin "list.append") [acc,x]) (fun _ s6=>∃ m,m<n/\J m s6) (fun _ _=>False) s5) (fun _ _=>False) s4
      else ∃ m,m<n/\J m s4) (fun _ _=>False) s3) (fun _ _=>False) s2) (fun _ _=>False) s1) (fun _ _=>False) s)
  (n:Nat) (h:J n s):codeAny (model prog w) A (.compLoop (.ListComp elt [⟨tg,src,tests,0⟩] sc cp) 0 it acc ev) R s:=by
 refine codeAny_loop rfl J (fun n s hJ=>?_) n h
 show wpAny _ A ((compTurn (.ListComp elt [⟨tg,src,tests,0⟩] sc cp) 0 it acc ev).onRaise (fun x=>do noteFrame x ev;theTreesLotGoes x)) _ _ s
 refine wpAny_noted ?_
 rw[compTurn_list]
 refine wpAny_bind (wpAny_standAt (wpAny_bind (wpAny_mono (turn n s hJ) (fun r s1 h1=>?_) fun _ _ f=>f.elim)))
 cases r with
 | none=>exact wpAny_pure h1
 | some v=>
  refine wpAny_bind (wpAny_mono h1 (fun _ s2 h2=>?_) fun _ _ f=>f.elim)
  refine wpAny_bind (wpAny_mono h2 (fun _ s3 h3=>wpAny_bind (wpAny_mono h3 (fun ok s4 h4=>?_) fun _ _ f=>f.elim)) fun _ _ f=>f.elim)
  cases ok with
  | false=>exact wpAny_pure ⟨rfl,h4⟩
  | true=>exact wpAny_bind (wpAny_bind (wpAny_mono h4 (fun x s5 h5=>wpAny_bind (wpAny_mono h5 (fun _ s6 h6=>wpAny_pure (wpAny_pure ⟨rfl,h6⟩)) fun _ _ f=>f.elim)) fun _ _ f=>f.elim))
end
theorem He {ev:Env} {F:Str×NameKind->List (Str×Addr)->Sem (ForInStep (List (Str×Addr)))}
  (hF:∀ n k cs,F (n,k) cs=if (k == NameKind.free)=true then (do let c <-cellOf ev n;pure (ForInStep.yield ((n,c)::cs))) else pure (ForInStep.yield cs)) :
  ∀ (ns:List (Str×NameKind)) (cs:List (Str×Addr)),(∀ x c,cs.lookup x=some c->ev.cells.lookup x=some c)->(∀ x∈ns,x.2=.free->∃ c,ev.cells.lookup x.1=some c) ->
   ∃ cl,(forIn ns cs F:Sem (List (Str×Addr)))=pure cl/\(∀ x c,cl.lookup x=some c->ev.cells.lookup x=some c)/\(∀ x c,cs.lookup x=some c->∃ d,cl.lookup x=some d) /\
    ∀ x∈ns,x.2=.free->∃ c,cl.lookup x.1=some c
 | [],cs,h1,_=>⟨cs,by rw[List.forIn_nil],h1,fun _ c e=>⟨c,e⟩,fun _ hx=>nomatch hx⟩
 | (n,k)::ns,cs,h1,h2=>by
  have h2':∀ x∈ns,x.2=.free->∃ c,ev.cells.lookup x.1=some c:=fun x hx=>h2 x (List.mem_cons_of_mem _ hx)
  by_cases hk:k=NameKind.free
  ·subst hk
   obtain ⟨c,hc⟩:=h2 (n,.free) List.mem_cons_self rfl
   have h1':∀ x d,((n,c)::cs).lookup x=some d->ev.cells.lookup x=some d:=fun x d e=>by
    rw[List.lookup_cons] at e
    cases hx:x == n with
    | true=>rw[hx] at e;cases e;rw[eq_of_beq hx];exact hc
    | false=>rw[hx] at e;exact h1 x d e
   obtain ⟨cl,e1,e2,e3,e4⟩:=He hF ns ((n,c)::cs) h1' h2'
   refine ⟨cl,?_,e2,fun x d e=>?_,fun x hx hf=>?_⟩
   ·rw[List.forIn_cons,hF]
    have hcell:cellOf ev n=pure c:=by unfold cellOf;rw[hc]
    rw[if_pos (by decide),hcell]
    exact e1
   ·cases hx:x == n with
    | true=>exact e3 x c (by rw[List.lookup_cons,hx])
    | false=>exact e3 x d (by rw[List.lookup_cons,hx];exact e)
   ·rcases List.mem_cons.mp hx with rfl | hx
    ·exact e3 n c (by rw[List.lookup_cons,beq_self_eq_true])
    ·exact e4 x hx hf
  ·obtain ⟨cl,e1,e2,e3,e4⟩:=He hF ns cs h1 h2'
   refine ⟨cl,?_,e2,e3,fun x hx hf=>?_⟩
   ·rw[List.forIn_cons,hF,if_neg (fun z=>hk (eq_of_beq z))]
    exact e1
   ·rcases List.mem_cons.mp hx with rfl | hx
    ·exact absurd hf hk
    ·exact e4 x hx hf
theorem MK {sc:Scope} {ev:Env} (h:∀ x∈sc.names,x.2=.free->∃ c,ev.cells.lookup x.1=some c) :
  ∃ cl,closureFor sc ev=pure cl/\(∀ x c,cl.lookup x=some c->ev.cells.lookup x=some c)/\∀ x∈sc.names,x.2=.free->∃ c,cl.lookup x.1=some c:=by
 obtain ⟨cl,e1,e2,_,e4⟩:=He (ev:=ev) (F:=fun x cs=>match x with
  | (n,k)=>if (k == NameKind.free)=true then (do let c <-cellOf ev n;pure (ForInStep.yield ((n,c)::cs))) else pure (ForInStep.yield cs)) (fun _ _ _=>rfl) sc.names [] (fun x c e=>nomatch e) h
 refine ⟨cl,?_,e2,e4⟩
 show ((forIn sc.names [] (fun x cs=>match x with
  | (n,k)=>if (k == NameKind.free)=true then (do let c <-cellOf ev n;pure (ForInStep.yield ((n,c)::cs))) else pure (ForInStep.yield cs)):Sem (List (Str×Addr))) >>= fun z=>pure z)=pure cl
 rw[e1]
 rfl
theorem lookup_map2 (g:Str->NameKind->NameKind):∀ (l:List (Str×NameKind)) (x:Str),(l.map fun p=>(p.1,g p.1 p.2)).lookup x=(l.lookup x).map (g x)
 | [],_=>rfl
 | (n,k)::l,x=>by
  rw[List.map_cons,List.lookup_cons,List.lookup_cons]
  cases hx:x == n with
  | true=>rw[eq_of_beq hx];rfl
  | false=>exact lookup_map2 g l x
theorem Jf:∀ {l:List (Str×NameKind)} {x:Str} {k:NameKind},l.lookup x=some k->(x,k)∈l
 | (n,k')::l,x,k,h=>by
  rw[List.lookup_cons] at h
  cases hx:x == n with
  | true=>rw[hx] at h;cases h;rw[eq_of_beq hx];exact List.mem_cons_self
  | false=>rw[hx] at h;exact List.mem_cons_of_mem _ (Jf h)
def DR (ev:Env) (n:Str) (k:NameKind):NameKind:=if (k == .free && ev.scope.kind == .function && ev.kindOf n == some .cell)=true then .cell else k
theorem Ju (sc:Scope) (ev:Env) (x:Str):(relabel sc ev).names.lookup x=(sc.names.lookup x).map (DR ev x):=by
 have e:(relabel sc ev).names=sc.names.map fun p=>(p.1,DR ev p.1 p.2):=by
  unfold relabel
  refine List.map_congr_left fun p _=>?_
  obtain ⟨n,k⟩:=p
  show (if (k == .free && ev.scope.kind == .function && ev.kindOf n == some .cell)=true then (n,NameKind.cell) else (n,k))=(n,DR ev n k)
  unfold DR
  split<;>rfl
 rw[e]
 exact lookup_map2 _ _ _
structure CompOk (sc esc:Scope) (N fn:List Str) (ix:List Nat):Prop where
 kind:sc.kind=.function
 cells:∀ x∈sc.names,x.2=.cell->sc.names.lookup x.1=some .cell
 locs:∀ x∈sc.names,x.2=.local->sc.names.lookup x.1=some .local
 frees:∀ x∈sc.names,x.2=.free->esc.names.lookup x.1=some .cell\/esc.names.lookup x.1=some .free
 ixs:ix.map (fun i=>N[i]?)=fn.map some
 fns:∀ x∈fn,sc.names.lookup x=some .free
def CW (sc:Scope) (C:Addr):List (Str×Addr):=cellsFrom (C+1) sc.names []
theorem IP:∀ (names:List (Str×NameKind)) (n:Nat) (a b:List (Str×Addr)),cellsFrom n names (a++b)=cellsFrom n names a++b
 | [],_,_,_=>rfl
 | (x,k)::r,n,a,b=>by
  unfold cellsFrom
  split
  ·exact IP r (n+1) ((x,n)::a) b
  ·exact IP r n a b
theorem Im:∀ (names:List (Str×NameKind)) (n:Nat) (acc:List (Str×Addr)) (x:Str) (c:Addr),(x,c)∈cellsFrom n names acc->(x,c)∈acc\/(x,NameKind.cell)∈names
 | [],_,_,_,_,h=>.inl h
 | (y,k)::r,n,acc,x,c,h=>by
  unfold cellsFrom at h
  by_cases hk:(k == .cell)=true
  ·rw[if_pos hk] at h
   rcases Im r (n+1) _ x c h with h | h
   ·rcases List.mem_cons.mp h with h | h
    ·cases h
     rw[beq_iff_eq.mp hk]
     exact .inr List.mem_cons_self
    ·exact .inl h
   ·exact .inr (List.mem_cons_of_mem _ h)
  ·rw[if_neg hk] at h
   rcases Im r n acc x c h with h | h
   ·exact .inl h
   ·exact .inr (List.mem_cons_of_mem _ h)
theorem Kg {α:Type}:∀ {l:List (Str×α)} {x:Str},(∀ c,(x,c)∉l)->l.lookup x=none
 | [],_,_=>rfl
 | (y,v)::r,x,h=>by
  have hne:(x == y)=false:=by
   cases z:(x == y) with
   | false=>rfl
   | true=>
    have e:=beq_iff_eq.mp z
    subst e
    exact absurd List.mem_cons_self (h v)
  rw[List.lookup_cons,hne]
  exact Kg fun c hc=>h c (List.mem_cons_of_mem _ hc)
theorem HQ {α:Type}:∀ {a b:List (Str×α)} {x:Str},a.lookup x=none->(a++b).lookup x=b.lookup x
 | [],_,_,_=>rfl
 | (y,v)::r,b,x,h=>by
  rw[List.lookup_cons] at h
  rw[List.cons_append,List.lookup_cons]
  cases z:(x == y) with
  | true=>rw[z] at h;cases h
  | false=>
   rw[z] at h
   exact HQ (a:=r) h
theorem DY {α:Type}:∀ {a b:List (Str×α)} {x:Str} {c:α},(a++b).lookup x=some c->a.lookup x=some c\/(a.lookup x=none/\b.lookup x=some c)
 | [],_,_,_,h=>.inr ⟨rfl,h⟩
 | (y,v)::r,b,x,c,h=>by
  rw[List.cons_append,List.lookup_cons] at h
  rw[List.lookup_cons]
  cases z:(x == y) with
  | true=>rw[z] at h;exact .inl h
  | false=>
   rw[z] at h
   exact DY (a:=r) h
theorem J2 {α:Type}:∀ {a b:List (Str×α)} {x:Str} {c:α},a.lookup x=some c->(a++b).lookup x=some c
 | (y,v)::r,b,x,c,h=>by
  rw[List.lookup_cons] at h
  rw[List.cons_append,List.lookup_cons]
  cases z:(x == y) with
  | true=>rw[z] at h;exact h
  | false=>
   rw[z] at h
   exact J2 (a:=r) h
theorem Nv {sc esc:Scope} {N fn:List Str} {ix:List Nat} {x:Str} {k:NameKind} {C:Addr} (ok:CompOk sc esc N fn ix) (h:sc.names.lookup x=some k) (hk:k≠.cell):(CW sc C).lookup x=none:=
 Kg fun c hc=>by
  rcases Im _ _ _ _ _ hc with z | z
  ·cases z
  ·rw[ok.cells _ z rfl] at h
   exact hk (Option.some.inj h).symm
section
variable {M:Model} {A:Around} {E:Value->Shared->Prop} {s:Shared}
theorem TC {scope:Scope} {globals:Addr} {cl:List (Str×Addr)} {qual:Str} {code:Value} {env:Env} {Q:Env->Shared->Prop} (hk:scope.kind=.function)
  (h:Q {scope,locals:=s.heap.objs.size,globals,cells:=CW scope s.heap.objs.size++cl,qual,func:=none,code:=env.code,frame:=env.frame,builtins:=env.builtins} {s with heap:=pushCells (s.heap.push {cls:=.type "dict",data:=.dict #[]}) scope.names}) :
  wpAny M A (newFunctionEnv scope globals cl [] qual none code (some env)) Q E s:=by
 simp only[newFunctionEnv,Option.isSome_some,if_true]
 refine wpAny_bind (wpAny_alloc ?_)
 refine wpAny_bind (wpAny_layCells _ (fun name kind cells=>by cases hkc:kind == NameKind.cell<;>simp[hkc]) _ _ _ _ ?_)
 rw[show ({s with heap:=s.heap.push {cls:=.type "dict",data:=.dict #[]}}:Shared).heap.objs.size=s.heap.objs.size+1 from Heap.size_push ..]
 have e:cellsFrom (s.heap.objs.size+1) scope.names cl=CW scope s.heap.objs.size++cl:=IP scope.names _ [] cl
 rw[e]
 refine wpAny_bind ?_
 rw[List.forIn_nil]
 exact wpAny_pure (wpAny_pure h)
end
def BA (X:Cx) (N':List Str) (sc:Scope) (s2:Shared) (H2:Hp) (cl:List (Str×Addr)) (C:Addr) (fp:List Addr):Cx where
 prog:=X.prog
 w:=X.w
 K:=X.K
 mg:=X.mg
 base:=X.base
 A:=X.A
 N:=N'
 s₀:=s2
 H₀:=H2
 env:=compEnvC sc (CW sc C++cl) C X.env
 outer:=X.stack
 stack:=X.stack
 ex:=fp
 fn:=fun x=>sc.names.lookup x == some .cell
 calm:=X.calm
 pn:=[]
 xe:=fun _ _=>False
def cSt (nt:Nat) (ix:List Nat) (σ:St):St:=List.replicate nt none++ix.map fun k=>(σ[k]?).join
def Il (J:It) (g:TG) (tc:TT) (te:TE) (l:Addr) (q:Hp->Prop) (σ0:St) (H0:Hp):Prop:=
 ∃ W:Nat->Nat->St->Hp->Prop,(∃ m,W 0 m σ0 H0)/\∀ i m σ H,W i m σ H ->
  (J.stop i H/\q H)\/(J.go i H/\∃ N:St->Hp->Prop,(∀ σ' H',N σ' H'->∃ m',m'<m/\W (i+1) m' σ' H')/\∀ x H',J.yld i H x H'->g x σ H' fun σ2 H2=>tc σ2 H2 fun b H3=>
   if b=true then te σ2 H3 fun v H4=>∃ xs,H4 l=some (.lst xs)/\xs.length<sizeLine/\N σ2 (upd H4 l (.lst (xs++[v]))) else N σ2 H3)
def Hl (wi:TI) (nt:Nat) (ix:List Nat) (g:TG) (tc:TT) (te:TE):TE:=fun σ H Q=>wi σ H fun J H1=>∀ l,H1 l=none->Il J g tc te l (fun H'=>Q (.ref l) H') (cSt nt ix σ) (upd H1 l (.lst []))
def PTs (X:Cx) (tests:List Expr) (tc:TT):Prop:=
 ∀ (pins:List (Addr×Obj)) (s:Shared) (σ:St) (H:Hp) (Q:Bool->Hp->Prop),Inv X pins σ H s->tc σ H Q ->
  wpAny (model X.prog X.w) X.A (forIn tests true fun c r=>if r=true then do let ok <-isTrue c X.env (eval c X.env);pure (ForInStep.yield ok) else pure (ForInStep.yield r)) (TP X pins σ Q) X.xe s
def Ma:TT:=fun _ H Q=>Q true H
theorem LJ {X:Cx}:PTs X [] Ma:=fun _ _ _ H _ I h=>wpAny_tests_nil ⟨H,I,h⟩
section
variable {X:Cx} {elt tg src:Expr} {tests:List Expr} {sc esc:Scope} {cp:Pos} {g:TG} {tc:TT} {te:TE} {N tn fn:List Str} {ix:List Nat}
theorem PD {cl:List (Str×Addr)} {pins:List (Addr×Obj)} {σ:St} {s2:Shared} {H2:Hp} {C:Addr} {fp:List Addr} (hsc:X.env.scope=esc) (ok:CompOk sc esc N fn ix)
  (hsub:∀ x c,cl.lookup x=some c->X.env.cells.lookup x=some c) (hall:∀ x∈sc.names,x.2=.free->∃ c,cl.lookup x.1=some c)
  (I2:Inv X pins σ H2 s2) (f2:∀ b∈fp,Bu X pins H2 b) (lt:∀ b∈fp,b<s2.heap.objs.size) (hC:s2.heap.objs.size<=C)
  (own:∀ x c,(CW sc C).lookup x=some c->C+1<=c) (apart:(CW sc C).Pairwise fun x y=>x.2≠y.2):(BA X (tn++fn) sc s2 H2 cl C fp).Ok where
 mod:=I2.ok.mod
 kind:=ok.kind
 glob:=I2.ok.glob
 blt:=I2.ok.blt
 above:=hC
 inj:=fun x y c e1 e2=>by
  have low:∀ x c,cl.lookup x=some c->c<s2.heap.objs.size:=fun x c e=>by
   obtain ⟨v,hv⟩:=I2.cell x c (hsub x c e)
   exact hv.lt
  rcases DY e1 with a | ⟨_,a⟩<;>rcases DY e2 with b | ⟨_,b⟩
  ·exact name_of_addr apart (PySem.mem_of_lookup a) (PySem.mem_of_lookup b)
  ·exact absurd (low _ _ b) (Nat.not_lt.mpr (Nat.le_trans hC (Nat.le_trans (Nat.le_succ _) (own _ _ a))))
  ·exact absurd (low _ _ a) (Nat.not_lt.mpr (Nat.le_trans hC (Nat.le_trans (Nat.le_succ _) (own _ _ b))))
  ·exact I2.ok.inj x y c (hsub x c a) (hsub y c b)
 has:=fun x hx=>by
  have hx':(relabel sc X.env).names.lookup x=some .cell\/(relabel sc X.env).names.lookup x=some .free:=hx
  rw[Ju] at hx'
  show ∃ c,(CW sc C++cl).lookup x=some c
  cases e:sc.names.lookup x with
  | none=>rw[e] at hx';rcases hx' with z | z<;>cases z
  | some k=>
   have hm:=Jf e
   by_cases hkc:k=.cell
   ·subst hkc
    obtain ⟨c,hc⟩:=Option.isSome_iff_exists.mp (PySem.W.cellsFrom_some (x:=x) sc.names (C+1) [] (.inl e))
    exact ⟨c,J2 hc⟩
   have hk:k=.free:=by
    by_cases z:k=.free
    ·exact z
    ·exfalso
     have hr:DR X.env x k=k:=by
      unfold DR
      rw[if_neg]
      intro q
      rw[Bool.and_eq_true,Bool.and_eq_true] at q
      exact z (eq_of_beq q.1.1)
     rw[e,Option.map_some,hr] at hx'
     rcases hx' with q | q
     ·exact hkc (Option.some.inj q)
     ·exact z (Option.some.inj q)
   subst hk
   obtain ⟨c,hc⟩:=hall _ hm rfl
   exact ⟨c,by rw[HQ (Nv ok e (fun z=>nomatch z))];exact hc⟩
 cab:=fun x c e hc=>by
  have e:sc.names.lookup x=some .cell:=beq_iff_eq.mp e
  rcases DY hc with a | ⟨a,_⟩
  ·exact Nat.le_trans hC (Nat.le_trans (Nat.le_succ _) (own _ _ a))
  ·obtain ⟨c',hc'⟩:=Option.isSome_iff_exists.mp (PySem.W.cellsFrom_some (x:=x) sc.names (C+1) [] (.inl e))
   have a:(cellsFrom (C+1) sc.names []).lookup x=none:=a
   rw[a] at hc'
   cases hc'
 hd:=I2.ok.hd
 frames:=I2.ok.frames
 stk:=.inl rfl
 exf:=fun b hb=>⟨Nat.ne_of_lt (Nat.lt_of_lt_of_le (lt b hb) hC),fun x c e=>by
  rcases DY e with a | ⟨_,a⟩
  ·exact Nat.ne_of_gt (Nat.lt_of_lt_of_le (lt b hb) (Nat.le_trans hC (Nat.le_trans (Nat.le_succ _) (own _ _ a))))
  ·exact (f2 b hb).2.2.2.2.1 x c (hsub x c a)⟩
 bs:=I2.bs
 bsz:=Nat.le_trans I2.ok.bsz I2.sz
 noex:=fun b o e hb=>by
  rcases (f2 b hb).2.2.2.1 with z | z
  ·exact I2.ok.noex b o e z
  ·exact absurd (Nat.lt_of_lt_of_le (Heap.lt_size e) (Nat.le_trans I2.ok.bsz z)) (Nat.lt_irrefl _)
 exfs:=fun b hb hf=>by
  rcases List.mem_cons.mp (I2.stkSub b hf) with z | z
  ·exact (f2 b hb).2.1 z
  ·exact (f2 b hb).2.2.1 z
 funs:=I2.stack
 frf:=I2.stkFree
theorem QA (nt:Nat) (ix:List Nat) (σ:St):(cSt nt ix σ).length=nt+ix.length:=by
 unfold cSt
 rw[List.length_append,List.length_replicate,List.length_map]
theorem Lv {cl:List (Str×Addr)} {pins:List (Addr×Obj)} {σ:St} {s2:Shared} {H2:Hp} {it:Addr} {fp:List Addr} {tu:Nat->Heap->Prop} {J:It} {E:Value->Shared->Prop} {q:Addr->Hp->Prop}
  {RR:Value->Addr->Result->Shared->Prop} (hc:X.calm=true) (hsc:X.env.scope=esc) (hN:X.N=N) (ok:CompOk sc esc N fn ix)
  (hsub:∀ x c,cl.lookup x=some c->X.env.cells.lookup x=some c) (hall:∀ x∈sc.names,x.2=.free->∃ c,cl.lookup x.1=some c)
  (hg:∀ s2 H2 cl C fp,PG (BA X (tn++fn) sc s2 H2 cl C fp) tg g)
  (ht:∀ s2 H2 cl C fp,PTs (BA X (tn++fn) sc s2 H2 cl C fp) tests tc)
  (he:∀ s2 H2 cl C fp,PE (BA X (tn++fn) sc s2 H2 cl C fp) elt te)
  (I2:Inv X pins σ H2 s2) (T:Turn X.prog X.w X.K tg J fp it tu) (st2:tu 0 s2.heap) (f2:∀ b∈fp,Bu X pins H2 b)
  (h:∀ l,H2 l=none->Il J g tc te l (q l) (cSt tn.length ix σ) (upd H2 l (.lst [])))
  (hRR:∀ (C l:Addr) (s4:Shared) (H3:Hp) (m:Str->Option Value),Inv X pins σ H3 s4->s4.heap.Ns C m->Bu X pins H3 C->q l H3->RR (.ref l) C (.ok .next) s4) :
  wpAny (model X.prog X.w) X.A (newList []) (fun acc s3=>wpAny (model X.prog X.w) X.A (newFunctionEnv sc X.env.globals cl [] X.env.qual none .none (some X.env)) (fun cenv s4=>
   codeAny (model X.prog X.w) X.A (.compStart (.ListComp elt [⟨tg,src,tests,0⟩] sc cp) 0 (.ref it) acc {cenv with scope:=relabel sc X.env}) (RR acc cenv.locals) s4) E s3) E s2:=by
 refine wpAny_newObj_type (TC ok.kind ?_)
 dsimp only
 generalize hL:s2.heap.push {cls:=.type "list",dict:=none,data:=.seq ([]:List Value).toArray}=g1
 have hC:g1.objs.size=s2.heap.objs.size+1:=by rw[<-hL,Heap.size_push]
 have hlC:s2.heap.objs.size≠g1.objs.size:=by rw[hC];exact Nat.ne_of_lt (Nat.lt_succ_self _)
 have hCle:s2.heap.objs.size<=g1.objs.size:=by rw[hC];exact Nat.le_succ _
 have okc:CellsOk (pushCells (g1.push {cls:=.type "dict",data:=.dict #[]}) sc.names) (g1.objs.size+1) (CW sc g1.objs.size):=by
  have z:=cellsFrom_ok sc.names (g1.push {cls:=.type "dict",data:=.dict #[]}) (g1.objs.size+1) [] ⟨fun _ _ hm=>(nomatch hm),List.Pairwise.nil⟩ (by rw[Heap.size_push];exact Nat.le_refl _)
  rw[Heap.size_push] at z
  exact z
 have hns:(pushCells (g1.push {cls:=.type "dict",data:=.dict #[]}) sc.names).Ns g1.objs.size fun _=>none:=(Heap.Ns.new g1 (.type "dict")).keeps (pushCells_keeps _ _)
 have old1:∀ b o,g1.get? b=some o->(pushCells (g1.push {cls:=.type "dict",data:=.dict #[]}) sc.names).get? b=some o:=fun b o e=>pushCells_keeps _ _ b o (Heap.get?_push_of_some _ e)
 generalize pushCells (g1.push {cls:=.type "dict",data:=.dict #[]}) sc.names=h1 at okc hns old1
 have old:∀ b o,s2.heap.get? b=some o->h1.get? b=some o:=fun b o e=>old1 b o (hL▸Heap.get?_push_of_some _ e)
 have hnew:h1.get? s2.heap.objs.size=some {cls:=.type "list",data:=.seq ([]:List Value).toArray}:=old1 _ _ (hL▸Heap.get?_push_size _ rfl)
 have lt:∀ b∈fp,b<s2.heap.objs.size:=fun b hb=>by
  obtain ⟨o,e,_⟩:=T.obj 0 _ st2 b hb
  exact Heap.lt_size e
 have hl0:H2 s2.heap.objs.size=none:=I2.fresh
 have cok:(BA X (tn++fn) sc s2 H2 cl g1.objs.size fp).Ok:=PD hsc ok hsub hall I2 f2 lt hCle (fun x c e=>(okc.empty x c (PySem.mem_of_lookup e)).2) okc.apart
 have hixl:ix.length=fn.length:=by
  have z:=congrArg List.length ok.ixs
  rwa [List.length_map,List.length_map] at z
 have YI:Inv (BA X (tn++fn) sc s2 H2 cl g1.objs.size fp) [] (cSt tn.length ix σ) (upd H2 s2.heap.objs.size (.lst [])) {s2 with heap:=h1}:=by
  refine ⟨cok,rfl,I2.bare,Un.laid old (Nat.le_refl _) hl0,⟨_,hns,fun i x v e1 e2 e3=>?_⟩,fun x c e=>?_,?_,fun x c e=>?_,fun p hp=>?_,?_,?_⟩
  ·
   have hi:tn.length<=i:=by
    by_cases z:i<tn.length
    ·exfalso
     have e2':(cSt tn.length ix σ)[i]?=some none:=by
      unfold cSt
      rw[List.getElem?_append_left (by rw[List.length_replicate];exact z),List.getElem?_replicate,if_pos z]
     rw[e2'] at e2
     cases e2
    ·lia
   have e1':fn[i - tn.length]?=some x:=by
    have z:(tn++fn)[i]?=some x:=e1
    rwa [List.getElem?_append_right hi] at z
   have e2':(ix.map fun k=>(σ[k]?).join)[i - tn.length]?=some (some v):=by
    unfold cSt at e2
    rwa [List.getElem?_append_right (by rw[List.length_replicate];exact hi),List.length_replicate] at e2
   rw[List.getElem?_map] at e2'
   cases ek:ix[i - tn.length]? with
   | none=>rw[ek] at e2';cases e2'
   | some k=>
    rw[ek] at e2'
    have ev:(σ[k]?).join=some v:=Option.some.inj e2'
    have ev':σ[k]?=some (some v):=by
     cases z:σ[k]? with
     | none=>rw[z] at ev;cases ev
     | some w'=>rw[z] at ev;exact congrArg some ev
    have eN:X.N[k]?=some x:=by
     have z:=congrArg (fun l=>l[i - tn.length]?) ok.ixs
     rw[List.getElem?_map,List.getElem?_map,ek,e1'] at z
     rw[hN]
     exact Option.some.inj z
    have hfx:sc.names.lookup x=some .free:=ok.fns x (List.mem_of_getElem? e1')
    have hmem:=Jf hfx
    have hkind:X.env.scope.names.lookup x=some .cell\/X.env.scope.names.lookup x=some .free:=by rw[hsc];exact ok.frees _ hmem rfl
    obtain ⟨m,hn,hl⟩:=I2.loc
    obtain ⟨u,r,lk⟩:=hl k x v eN ev' (.inr hkind)
    refine ⟨u,r,.inr ⟨?_,?_⟩⟩
    ·show (relabel sc X.env).names.lookup x=some .cell\/(relabel sc X.env).names.lookup x=some .free
     rw[Ju,hfx,Option.map_some]
     unfold DR
     split
     ·exact .inl rfl
     ·exact .inr rfl
    ·rcases lk with ⟨z,_⟩ | ⟨_,c,ec,o,ho,hd⟩
     ·have z':X.env.scope.names.lookup x=some .local:=z
      rw[z'] at hkind
      rcases hkind with w' | w'<;>cases w'
     ·obtain ⟨c',hc'⟩:=hall _ hmem rfl
      have ecc:=hsub _ _ hc'
      rw[ec] at ecc
      cases ecc
      refine ⟨c,?_,o,old _ _ ho,hd⟩
      show (CW sc g1.objs.size++cl).lookup x=some c
      rw[HQ (Nv ok hfx (fun z=>nomatch z))]
      exact hc'
  ·rcases DY e with e | ⟨_,e⟩
   ·exact ⟨_,(okc.empty x c (PySem.mem_of_lookup e)).1⟩
   ·obtain ⟨v,o,ho,hd⟩:=I2.cell x c (hsub x c e)
    exact ⟨v,o,old _ _ ho,hd⟩
  ·show (upd H2 s2.heap.objs.size (.lst [])) g1.objs.size=none
   rw[AH (Ne.symm hlC)]
   exact I2.hok.fresh hCle
  ·show (upd H2 s2.heap.objs.size (.lst [])) c=none
   rcases DY e with e | ⟨_,e⟩
   ·have hc:=(okc.empty x c (PySem.mem_of_lookup e)).2
    rw[hC] at hc
    rw[AH (Nat.ne_of_gt (Nat.lt_of_lt_of_le (Nat.lt_of_lt_of_le (Nat.lt_succ_self _) (Nat.le_succ _)) hc))]
    exact I2.hok.fresh (Nat.le_trans (Nat.le_trans (Nat.le_succ _) (Nat.le_succ _)) hc)
   ·have hfc:=I2.freeC x c (hsub x c e)
    obtain ⟨v,o,ho,_⟩:=I2.cell x c (hsub x c e)
    rw[AH (Nat.ne_of_lt (Heap.lt_size ho))]
    exact hfc
  ·exact nomatch hp
  ·exact I2.hok.laid old (Nat.le_refl _) ⟨Nat.zero_le _,[],_,.nil,hnew⟩
  ·rw[QA,hixl]
   show _=(tn++fn).length
   rw[List.length_append]
 have fpY:∀ {H':Hp},(∀ b∈fp,H' b=none)->∀ b∈fp,Bu (BA X (tn++fn) sc s2 H2 cl g1.objs.size fp) [] H' b:=fun hn b hb=>
  ⟨hn b hb,(cok.exf b hb).1,cok.exfs b hb,.inl hb,fun x c e=>(cok.exf b hb).2 x c e,fun p hp=>nomatch hp⟩
 have fr0:∀ b∈fp,(upd H2 s2.heap.objs.size (.lst [])) b=none:=fun b hb=>by
  rw[AH (Nat.ne_of_lt (lt b hb))]
  exact (f2 b hb).1
 have loop:codeAny (model X.prog X.w) X.A (.compLoop (.ListComp elt [⟨tg,src,tests,0⟩] sc cp) 0 (.ref it) (.ref s2.heap.objs.size) (compEnvC sc (CW sc g1.objs.size++cl) g1.objs.size X.env)) (RR (.ref s2.heap.objs.size) g1.objs.size)
   {s2 with heap:=h1}:=by
  obtain ⟨W,⟨m0,w0⟩,turn⟩:=h s2.heap.objs.size hl0
  refine RC (fun n s'=>∃ i σ' H',Inv (BA X (tn++fn) sc s2 H2 cl g1.objs.size fp) [] σ' H' s'/\tu i s'.heap/\(∀ b∈fp,H' b=none)/\W i n σ' H') ?_ m0
   ⟨0,_,_,YI,T.keep _ _ _ st2 fun b _ o e=>old b o e,fr0,w0⟩
  rintro n s3 ⟨i,σ3,H3,I3,st3,fr3,w3⟩
  rcases turn i n σ3 H3 w3 with ⟨stop,qn⟩ | ⟨go,Nx,hNx,step⟩
  ·refine thn (T.done (BA X (tn++fn) sc s2 H2 cl g1.objs.size fp) rfl rfl rfl hc i [] s3 σ3 H3 _ I3 (fpY fr3) st3 stop) fun r s4 hh_=>?_
   obtain ⟨hr,I4⟩:=hh_
   subst hr
   obtain ⟨m,hn,_⟩:=I4.loc
   have IX:Inv X pins σ H3 s4:=I2.call' (ch:=fp) I4.os I4.base I4.hok I4.bare fun b hb=>by
    obtain ⟨_,a1,_,a3,a4,a5⟩:=f2 b hb
    exact ⟨a3,a1,a4,a5⟩
   exact hRR _ _ s4 H3 m IX hn (I2.fpOk hCle I4.free) qn
  ·refine thn (T.item (BA X (tn++fn) sc s2 H2 cl g1.objs.size fp) rfl rfl rfl hc i [] s3 σ3 H3 _ I3 (fpY fr3) st3 go) fun r s4 hh_=>?_
   obtain ⟨u,hr,h4⟩:=hh_
   subst hr
   refine thn h4 fun _ s5 hh_=>?_
   obtain ⟨x,H5,I5,r5,y5,st5,fr5⟩:=hh_
   have I5':=I5.pinned (fpY fr5) (T.obj _ _ st5)
   refine thn (hg _ _ _ _ _ _ s5 σ3 H5 x u _ I5' r5 (step x H5 y5)) fun _ s6 hh_=>?_
   obtain ⟨σ6,H6,I6,q6⟩:=hh_
   refine thn (ht _ _ _ _ _ _ s6 σ6 H6 _ I6 q6) fun b s7 hh_=>?_
   obtain ⟨H7,I7,q7⟩:=hh_
   have again:∀ {s8:Shared} {H8:Hp},Inv (BA X (tn++fn) sc s2 H2 cl g1.objs.size fp) ([]++Es fp s5.heap) σ6 H8 s8->Nx σ6 H8 ->
     ∃ m,m<n/\∃ i σ' H',Inv (BA X (tn++fn) sc s2 H2 cl g1.objs.size fp) [] σ' H' s8/\tu i s8.heap/\(∀ b∈fp,H' b=none)/\W i m σ' H':=fun {s8 H8} I8 n8=>by
    obtain ⟨m',hm,w8⟩:=hNx σ6 H8 n8
    refine ⟨m',hm,i+1,σ6,H8,I8.unpinned,T.keep _ _ _ st5 fun b hb o e=>(I8.pin (b,o) (List.mem_append_right _ (List.mem_append_right _ (Gq hb e)))).1,fun b hb=>?_,w8⟩
    obtain ⟨o,e,_⟩:=T.obj _ _ st5 b hb
    exact (I8.pin (b,o) (List.mem_append_right _ (List.mem_append_right _ (Gq hb e)))).2.1
   cases b with
   | false=>
    rw[if_neg Bool.false_ne_true] at q7 ⊢
    exact again I7 q7
   | true=>
    rw[if_pos rfl] at q7 ⊢
    refine thn (he _ _ _ _ _ _ s7 σ6 H7 _ I7 q7) fun y s8 hh_=>?_
    obtain ⟨v,H8,I8,r8,xs,hx,hz,n8⟩:=hh_
    refine thn (Kd _ s8 σ6 H8 (.ref s2.heap.objs.size) [v] (.ref s2.heap.objs.size) [y] (fun _ H9=>Nx σ6 H9) I8 rfl (.cons r8 .nil) ⟨_,xs,v,rfl,rfl,hx,hz,n8⟩) fun _ s9 ⟨_,H9,I9,_,q9⟩=>again I9 q9
 exact codeAny_compStart_list loop (T.self _ 0 _ _ _ (T.keep _ _ _ st2 fun b _ o e=>old b o e) loop)
variable {wi:TI}
theorem VG (hc:X.calm=true) (hsc:X.env.scope=esc) (hN:X.N=N) (ok:CompOk sc esc N fn ix) (hi:PI X tg src wi)
  (hg:∀ s2 H2 cl C fp,PG (BA X (tn++fn) sc s2 H2 cl C fp) tg g)
  (ht:∀ s2 H2 cl C fp,PTs (BA X (tn++fn) sc s2 H2 cl C fp) tests tc)
  (he:∀ s2 H2 cl C fp,PE (BA X (tn++fn) sc s2 H2 cl C fp) elt te)
  (hs:∀ x,foldedSetIterable src X.env x=pure x:=by intro _;rfl):PE X (.ListComp elt [⟨tg,src,tests,0⟩] sc cp) (Hl wi tn.length ix g tc te):=by
 intro pins s σ H Q I h
 rw[eval_ListComp]
 obtain ⟨cl,hcl,hsub,hall⟩:=MK (sc:=sc) (ev:=X.env) fun x hx hf=>I.ok.has x.1 (by have z:=ok.frees x hx hf;rw[<-hsc] at z;exact z)
 refine wpAny_comprehension_free (use:=none) rfl hs hcl ok.kind ok.locs (thn (hi pins s σ H _ I h) fun xv s1 h1=>thn h1 fun itv s2 h2=>?_)
 obtain ⟨it,fp,tu,J,H2,e,I2,T,st2,f2,hq⟩:=h2
 subst e
 refine Lv (q:=fun l H'=>Q (.ref l) H') (RR:=fun acc C=>compPost (model X.prog X.w) X.A X.xe none (EP X pins σ Q) acc C) hc hsc hN ok hsub hall hg ht he I2 T st2 f2 hq fun C l s4 H3 m I4 hn fC q4=>?_
 obtain ⟨a0,a1,_,a3,a4,a5⟩:=fC
 exact ⟨m,hn,fun h' sb=>⟨.ref l,H3,I4.turned (t':=s4.toks) (fun b o hb e=>(sb.2 b hb).trans e) a0 a1 a3 a4 a5,rfl,q4⟩⟩
theorem NY {i:Nat} {y:Str} {py sp:Pos} (hnd:X.N.Nodup) (hiy:X.N[i]?=some y) (hy:X.env.scope.names.lookup y=some .local) (hc:X.calm=true) (hsc:X.env.scope=esc) (hN:X.N=N) (ok:CompOk sc esc N fn ix) (hi:PI X tg src wi)
  (hg:∀ s2 H2 cl C fp,PG (BA X (tn++fn) sc s2 H2 cl C fp) tg g)
  (ht:∀ s2 H2 cl C fp,PTs (BA X (tn++fn) sc s2 H2 cl C fp) tests tc)
  (he:∀ s2 H2 cl C fp,PE (BA X (tn++fn) sc s2 H2 cl C fp) elt te)
  (hsw:swapsWith (.ListComp elt [⟨tg,src,tests,0⟩] sc cp) (some (.Name y py)) sp.line X.env=pure true:=by rfl)
  (hs:∀ x,foldedSetIterable src X.env x=pure x:=by intro _;rfl) :
  PS X (.Assign [.Name y py] (.ListComp elt [⟨tg,src,tests,0⟩] sc cp) sp) (fun D σ H=>Hl wi tn.length ix g tc te σ H fun v H'=>D.nx (σ.set i (some v)) H'):=by
 intro pins s σ H D I h
 rw[exec_Assign_Name_used _ _ _ _ hsw]
 obtain ⟨cl,hcl,hsub,hall⟩:=MK (sc:=sc) (ev:=X.env) fun x hx hf=>I.ok.has x.1 (by have z:=ok.frees x hx hf;rw[<-hsc] at z;exact z)
 refine wpAny_bind (wpAny_standAt (wpAny_bind ?_))
 show wpAny _ X.A (do let _ <-comprehension (.ListComp elt [⟨tg,src,tests,0⟩] sc cp) sc X.env _ (newList []) false (eval src X.env) (some (assign (.Name y py) X.env))) _ _ s
 refine wpAny_bind (wpAny_mono (wpAny_comprehension_free (use:=some (assign (.Name y py) X.env)) (Q:=fun _ s'=>SP X pins D .next s') rfl hs hcl ok.kind ok.locs
  (thn (hi pins s σ H _ I h) fun xv s1 h1=>thn h1 fun itv s2 h2=>?_)) (fun _ s' hq=>wpAny_pure (wpAny_pure hq)) fun _ _ e=>e)
 obtain ⟨it,fp,tu,J,H2,e,I2,T,st2,f2,hq⟩:=h2
 subst e
 refine Lv (q:=fun l H'=>D.nx (σ.set i (some (.ref l))) H') (RR:=fun acc C=>compPost (model X.prog X.w) X.A X.xe (some (assign (.Name y py) X.env)) (fun _ s'=>SP X pins D .next s') acc C) hc hsc hN ok hsub hall hg ht he I2 T st2 f2 hq fun C l s4 H3 m I4 hn fC q4=>?_
 obtain ⟨a0,a1,_,a3,a4,a5⟩:=fC
 refine wpAny_assign_Name (LU I4 hnd hiy (.inl hy) (v:=.ref l) rfl (fun s5 I5 hh_=>?_) (.inr hy))
 obtain ⟨a,sb,ha⟩:=hh_
 have hCa:C≠a:=by
  rcases ha with z | z
  ·rw[z];exact a1
  ·exact Ne.symm (a4 y a z)
 refine ⟨m,hn.sameBut sb hCa,fun h' sb'=>⟨_,H3,I5.turned (t':=s5.toks) (fun b o hb e=>(sb'.2 b hb).trans e) a0 a1 a3 a4 a5,q4⟩⟩
end
theorem KA {J:It} {g:TG} {tc:TT} {te:TE} {l:Addr} {q:Hp->Prop} {σ:St} {H:Hp} (n:Nat) (Pv:Nat->St->Hp->Prop) (h0:Pv 0 σ H) (hgo:∀ i σ H,i<n->Pv i σ H->J.go i H) (hstop:∀ σ H,Pv n σ H->J.stop n H)
  (hs:∀ i x σ H H',i<n->Pv i σ H->J.yld i H x H'->g x σ H' fun σ2 H2=>tc σ2 H2 fun b H3=>
   if b=true then te σ2 H3 fun v H4=>∃ xs,H4 l=some (.lst xs)/\xs.length<sizeLine/\Pv (i+1) σ2 (upd H4 l (.lst (xs++[v]))) else Pv (i+1) σ2 H3)
  (hd:∀ σ H,Pv n σ H->q H):Il J g tc te l q σ H:=by
 refine ⟨fun i m σ H=>m=n - i/\i<=n/\Pv i σ H,⟨n,by simp,Nat.zero_le _,h0⟩,?_⟩
 rintro i m σ H ⟨rfl,hi,p⟩
 by_cases hlt:i<n
 ·exact .inr ⟨hgo i σ H hlt p,Pv (i+1),fun σ' H' p'=>⟨n - (i+1),by lia,rfl,hlt,p'⟩,fun x H' y=>hs i x σ H H' hlt p y⟩
 ·have e:i=n:=by lia
  subst e
  exact .inl ⟨hstop σ H p,hd σ H p⟩
theorem Pb {J:It} {g:TG} {tb:TS} {D:Ends} {σ:St} {H:Hp} (n:Nat) (Pv:Nat->St->Hp->Prop) (h0:Pv 0 σ H) (hgo:∀ i σ H,i<n->Pv i σ H->J.go i H) (hstop:∀ σ H,Pv n σ H->J.stop n H)
  (hs:∀ i x σ H H',i<n->Pv i σ H->J.yld i H x H'->g x σ H' fun σ2 H2=>tb {D with nx:=Pv (i+1),ct:=Pv (i+1),bk:=D.nx} σ2 H2) (hd:∀ σ H,Pv n σ H->D.nx σ H) :
  ∃ W:Nat->Nat->St->Hp->Prop,(∃ m,W 0 m σ H)/\∀ i m σ H,W i m σ H ->
   (J.stop i H/\D.nx σ H)\/(J.go i H/\∃ N:St->Hp->Prop,(∀ σ' H',N σ' H'->∃ m',m'<m/\W (i+1) m' σ' H')/\∀ x H',J.yld i H x H'->g x σ H' fun σ2 H2=>tb {D with nx:=N,ct:=N,bk:=D.nx} σ2 H2):=by
 refine ⟨fun i m σ H=>m=n - i/\i<=n/\Pv i σ H,⟨n,by simp,Nat.zero_le _,h0⟩,?_⟩
 rintro i m σ H ⟨rfl,hi,p⟩
 by_cases hlt:i<n
 ·exact .inr ⟨hgo i σ H hlt p,Pv (i+1),fun σ' H' p'=>⟨n - (i+1),by lia,rfl,hlt,p'⟩,fun x H' y=>hs i x σ H H' hlt p y⟩
 ·have e:i=n:=by lia
  subst e
  exact .inl ⟨hstop σ H p,hd σ H p⟩
section
variable {X:Cx} {pins:List (Addr×Obj)} {σ:St} {H:Hp} {s:Shared} {g:Heap}
theorem Inv.turnL {ch:List Addr} {t':Nat} (I:Inv X pins σ H s) (hf:∀ b∈ch,Bu X pins H b) (k:∀ b o,b∉ch->s.heap.get? b=some o->g.get? b=some o):Inv X pins σ H {s with heap:=g,toks:=t'}:=by
 refine I.step (g':=s.gens) (d':=s.drawn) (ch:=ch) (fun b hb=>?_) (fun b o _ _ hc e _=>k b o hc e) (fun b o _ _ hc e _=>⟨o.slots,k b o hc e⟩) (fun _ _ _ _ n=>n)
  (fun b o hc e=>⟨o,k b o hc e⟩) (fun _ _ e=>e) (fun _ _ _ e=>e) (fun b ps e=>⟨#[],by rw[e];simp⟩) (fun m hm=>?_) (fun b u e=>?_) I.bare
 ·obtain ⟨_,a1,_,a3,a4,a5⟩:=hf b hb
  exact ⟨a3,a1,a4,a5⟩
 ·obtain ⟨o,es,ep,ho,r⟩:=hm
  exact ⟨o,es,ep,k _ o (fun z=>(hf _ z).2.1 rfl) ho,r⟩
 ·refine (I.hok b u e).stay (fun c v hc q=>k c v (fun z=>?_) q) (fun _ q=>q) fun _ _ q=>q
  have n:=(hf c z).1
  rcases hc with y | y
  ·rw[y,e] at n;cases n
  ·rw[n] at y;cases y
theorem Inv.turnLay {ch:List Addr} {T:Addr} {o:HO} {t':Nat} (I:Inv X pins σ H s) (hf:∀ b∈ch,Bu X pins H b) (k:∀ b u,b∉ch->s.heap.get? b=some u->g.get? b=some u) (hT:s.heap.objs.size<=T)
  (new:ObjOk X.prog X.w (upd H T o) g T o):Inv X pins σ (upd H T o) {s with heap:=g,toks:=t'}:=by
 have hn:H T=none:=I.hok.fresh hT
 have lt:∀ b u,s.heap.get? b=some u->b≠T:=fun b u e=>Nat.ne_of_lt (Nat.lt_of_lt_of_le (Heap.lt_size e) hT)
 refine I.step (g':=s.gens) (d':=s.drawn) (ch:=ch) (fun b hb=>?_) (fun b o _ _ hc e _=>k b o hc e) (fun b o _ _ hc e _=>⟨o.slots,k b o hc e⟩) (fun b u _ e n=>by rw[AH (lt b u e)];exact n)
  (fun b o hc e=>⟨o,k b o hc e⟩) (fun b xs e=>by rw[AH (BC e hn)];exact e) (fun b _ xs e=>by rw[AH (BC e hn)];exact e) (fun b ps e=>⟨#[],by rw[AH (BC e hn),e];simp⟩) (fun m hm=>?_) (fun b u e=>?_) I.bare
 ·obtain ⟨_,a1,_,a3,a4,a5⟩:=hf b hb
  exact ⟨a3,a1,a4,a5⟩
 ·obtain ⟨o,es,ep,ho,r⟩:=hm
  exact ⟨o,es,ep,k _ o (fun z=>(hf _ z).2.1 rfl) ho,r⟩
 ·by_cases hb:b=T
  ·subst hb;rw[Ak] at e;cases e;exact new
  ·rw[AH hb] at e
   refine (I.hok b u e).stay (fun c v hc q=>k c v (fun z=>?_) q) (fun c q=>by rw[AH (BC q hn)];exact q) fun c xs q=>by rw[AH (BC q hn)];exact q
   have n:=(hf c z).1
   rcases hc with y | y
   ·rw[y,e] at n;cases n
   ·rw[n] at y;cases y
theorem KW:(2:Nat)<=sizeLine:=by decide
theorem PI.or {tg src:Expr} {w1 w2:TI} (a:PI X tg src w1) (b:PI X tg src w2):PI X tg src (fun σ H R=>w1 σ H R\/w2 σ H R):=fun pins s σ H R I h=>
 h.elim (fun z=>a pins s σ H R I z) fun z=>b pins s σ H R I z
end
def Ite (K:PySem.W.Frag) (l:Addr):It:=
 ⟨fun i H=>∃ xs x,SqL K H l xs/\xs[i]?=some x,fun i H v H'=>∃ T x,H T=none/\v=.ref T/\H'=upd H T (.tup [.int i,x])/\∀ xs,SqL K H l xs->xs[i]?=some x,fun i H=>∃ xs,SqL K H l xs/\xs.length<=i⟩
theorem RI {P:Program} {w:World} {K:PySem.W.Frag} {elts:List Expr} {k:Nat} {tp:Pos} (l e it:Addr) (hne:e≠it) :
  Turn P w K (.Tuple elts k tp) (Ite K l) [e,it] e (fun i h=>(∃ old,IsEnum h e it (i:Nat) old)/\h.IsListIter it l i) where
 mem:=by simp
 obj:=fun i h st b hb=>by
  obtain ⟨⟨old,he⟩,hi⟩:=st
  rcases List.mem_cons.mp hb with z | z
  ·subst z
   exact ⟨_,he,fun v q=>by
    have q':Data.fields _=Data.cell v:=q
    cases q'⟩
  ·have z':b=it:=by simpa using z
   subst z'
   obtain ⟨o,e,c,d⟩:=hi
   exact ⟨o,e,fun v q=>by rw[d] at q;cases q⟩
 keep:=fun i h h' st kk=>by
  obtain ⟨⟨old,he⟩,hi⟩:=st
  exact ⟨⟨old,kk e (by simp) _ he⟩,hi.at fun o q=>kk it (by simp) o q⟩
 item:=by
  intro X hP hw hK hc i pins s σ H E I hf st hg
  subst hP hw hK
  obtain ⟨xs,x,hq,hx⟩:=hg
  obtain ⟨its,rv,p,hz⟩:=I.list hq
  obtain ⟨u,hu,ru⟩:=rv.get hx
  obtain ⟨⟨old,he⟩,hit⟩:=st
  have le:e<s.heap.objs.size:=Heap.lt_size he
  have li:it<s.heap.objs.size:=by obtain ⟨_,q,_⟩:=hit;exact Heap.lt_size q
  refine wpAny_pyNext_enum_item he hit p.isList (x:=u) (by simpa using hu) hne fun h1 ho hit1 hT hsz hk=>?_
  refine ⟨_,rfl,wpAny_letOwnedTupleGo_enum ho fun h2 he2 hs2=>?_⟩
  replace hs2:Heap.SameBut e h1 h2:=hs2
  have up:∀ b o,b∉[e,it]->s.heap.get? b=some o->h2.get? b=some o:=fun b o hb q=>(hs2.2 b (fun z=>hb (by simp[z]))).trans (hk b o (fun z=>hb (by simp[z])) (fun z=>hb (by simp[z])) q)
  have hT2:h2.get? s.heap.objs.size=some {cls:=.type "tuple",data:=.seq #[.int i s.toks,u]}:=(hs2.2 _ (Nat.ne_of_gt le)).trans hT
  refine ⟨.ref s.heap.objs.size,upd H s.heap.objs.size (.tup [.int i,x]),I.turnLay (ch:=[e,it]) (t':=s.toks+1) hf up (Nat.le_refl _) ⟨KW,[.int i s.toks,u],.cons ⟨_,rfl⟩ (.cons ru .nil),⟨_,hT2,rfl,_,rfl⟩⟩,rfl,
   ⟨_,x,I.fresh,rfl,rfl,fun ys hy=>by rw[I.list_inj hy hq];exact hx⟩,⟨⟨u,by simpa using he2⟩,hit1.at fun o q=>(hs2.2 it (Ne.symm hne)).trans q⟩,fun b hb=>?_⟩
  have hlt:b<s.heap.objs.size:=by
   rcases List.mem_cons.mp hb with z | z
   ·rw[z];exact le
   ·have z':b=it:=by simpa using z
    rw[z'];exact li
  rw[AH (Nat.ne_of_lt hlt)]
  exact (hf b hb).1
 done:=by
  intro X hP hw hK hc i pins s σ H E I hf st hg
  subst hP hw hK
  obtain ⟨xs,hq,hx⟩:=hg
  obtain ⟨its,rv,p,hz⟩:=I.list hq
  obtain ⟨⟨old,he⟩,hit⟩:=st
  have hl:=rv.length
  exact wpAny_pyNext_enum_end (I.ok.hd hc) he hit p.isList (by simp;lia) fun h1 eb=>⟨rfl,I.turnL (ch:=[e,it]) (t':=s.toks) hf fun b o hb q=>eb b o (fun z=>hb (by simp[z])) q⟩
 self:=fun A i s Q E st h=>by
  obtain ⟨⟨old,he⟩,_⟩:=st
  exact wpAny_pyIter_enum he h
def Ri (K:PySem.W.Frag) (ta:TA):TI:=fun σ H R=>ta σ H fun vs H1=>∃ l xs,vs=[.ref l]/\SqL K H1 l xs/\R (Ite K l) H1
theorem SW {X:Cx} {a:Expr} {ta:TA} {p cp tp:Pos} {elts:List Expr} {k:Nat} (hg:Gl X "enumerate") (hm:X.mg "enumerate"=none) (ha:PA X [a] ta) (hs:starEach [a] X.env=[(false,eval a X.env)]:=by rfl) :
  PI X (.Tuple elts k tp) (.Call (.Name "enumerate" p) [a] [] cp) (Ri X.K ta):=by
 intro pins s σ H R I h
 refine Call_ (D0 I hg hm boot_enumerate (PyProof.Rows.callWith_type1 (thn (ha cp pins s σ H _ I h) fun us s1 hh_=>?_) hs rfl))
 obtain ⟨vs,H1,I1,r1,q1⟩:=hh_
 obtain ⟨l,xs,e,hq,q⟩:=q1
 subst e
 cases r1 with
 | cons r rr=>
  cases rr
  cases r
  obtain ⟨its,rv,pl,hz⟩:=I1.list hq
  refine call_enumerate_list pl.isList fun h1 he hit hsz hk=>wpAny_pyIter_enum he ?_
  refine ⟨s1.heap.objs.size+1,[s1.heap.objs.size+1,s1.heap.objs.size],_,_,H1,rfl,I1.kept (t':=s1.toks) hk,RI l _ _ (Nat.succ_ne_self _),⟨⟨_,by simpa using he⟩,hit⟩,fun b hb=>?_,q⟩
  have hle:s1.heap.objs.size<=b:=by
   rcases List.mem_cons.mp hb with z | z
   ·rw[z];exact Nat.le_succ _
   ·have z':b=s1.heap.objs.size:=by simpa using z
    rw[z'];exact Nat.le_refl _
  exact I1.fpOk hle (I1.hok.fresh hle)
section
variable {prog:Program} {w:World} {A:Around} {E:Value->Shared->Prop} {s:Shared}
theorem Ut {z TI TO i1 i2:Addr} {x y a b:Value} {P1 P2:Heap->Prop} {Q:Value->Shared->Prop} (dO:TO≠z) (d1:i1≠z) (d2:i2≠z) (dO1:TO≠i1) (dO2:TO≠i2) (d12:i1≠i2)
  (hz:IsZip s.heap z TI TO .none) (hTI:IsPair s.heap TI (.ref i1) (.ref i2)) (hTO:IsPair s.heap TO a b)
  (n1:∀ (g:Heap) (Q:Value->Shared->Prop) (E:Value->Shared->Prop),(∀ c o,c≠z->s.heap.get? c=some o->g.get? c=some o)->(∀ g',P1 g'->Heap.SameBut i1 g g'->Q x {s with heap:=g'}) ->
   wpAny (model prog w) A (Builtin.SmallTypes.nextOf (.ref i1)) Q E {s with heap:=g})
  (n2:∀ (g:Heap) (Q:Value->Shared->Prop) (E:Value->Shared->Prop),(∀ c o,c≠z->c≠TO->c≠i1->s.heap.get? c=some o->g.get? c=some o)->(∀ g',P2 g'->Heap.SameBut i2 g g'->Q y {s with heap:=g'}) ->
   wpAny (model prog w) A (Builtin.SmallTypes.nextOf (.ref i2)) Q E {s with heap:=g})
  (k1:∀ g g':Heap,P1 g->(∀ o,g.get? i1=some o->g'.get? i1=some o)->P1 g') (k2:∀ g g':Heap,P2 g->(∀ o,g.get? i2=some o->g'.get? i2=some o)->P2 g')
  (hQ:∀ g,IsZip g z TI TO (rawInt s.heap.objs.size)->IsPair g TO x y->P1 g->P2 g->IsPair g s.heap.objs.size x y ->
   (∀ c o,c≠z->c≠TO->c≠i1->c≠i2->s.heap.get? c=some o->g.get? c=some o)->Q (.ref s.heap.objs.size) {s with heap:=g}) :
  wpAny (model prog w) A (Builtin.«zip.__next__» ⟨[.ref z],[]⟩) (fun fin s'=>∃ v,fin=.done (.ret v)/\Q v s') E s:=by
 show wpAny _ _ (field (.ref z) 2 >>= _) _ _ _
 refine wpAny_bind (wpAny_field hz rfl (x:=.bool false) rfl ?_)
 show wpAny _ _ (field (.ref z) 3 >>= _) _ _ _
 refine wpAny_bind (wpAny_field hz rfl (x:=.ref TI) rfl (wpAny_bind (wpAny_seqItems hTI rfl ?_)))
 show wpAny _ _ (Builtin.SmallTypes.ownedTupleIsFree (.ref z) >>= _) _ _ _
 refine wpAny_bind ?_
 unfold Builtin.SmallTypes.ownedTupleIsFree
 refine wpAny_bind (wpAny_field hz rfl (x:=.none) rfl (wpAny_pure ?_))
 simp only[if_true]
 refine wpAny_bind (wpAny_rule (wpAny_bind (wpAny_field hz rfl (x:=.ref TO) rfl ?_)))
 refine wpAny_bind (wpAny_setField_rec hz (by simp) fun g1 z1 e1=>wpAny_bind ?_)
 replace z1:IsZip g1 z TI TO .ellipsis:=z1
 replace e1:Heap.SameBut z s.heap g1:=e1
 simp only[List.zipIdx_cons,List.zipIdx_nil,List.forIn_cons,List.forIn_nil]
 refine wpAny_bind (wpAny_bind (wpAny_onRaise ?_))
 show wpAny _ _ (Builtin.SmallTypes.nextOf (.ref i1) >>= _) _ _ {s with heap:=g1}
 refine wpAny_bind (n1 g1 _ _ (fun c o c1 e=>e1.extBut _ _ c1 e) fun g2 p2 e2=>wpAny_pure ?_)
 have o2:IsPair g2 TO a b:=e2.extBut _ _ dO1 (e1.extBut _ _ dO hTO)
 refine wpAny_bind (wpAny_seqItems o2 rfl (wpAny_bind (wpAny_updateSeq_pair o2 fun g3 o3 e3=>?_)))
 replace o3:IsPair g3 TO x b:=o3
 replace e3:Heap.SameBut TO g2 g3:=e3
 refine wpAny_bind (wpAny_letGo (wpAny_pure ?_))
 refine wpAny_bind (wpAny_bind (wpAny_onRaise ?_))
 show wpAny _ _ (Builtin.SmallTypes.nextOf (.ref i2) >>= _) _ _ {s with heap:=g3}
 refine wpAny_bind (n2 g3 _ _ (fun c o c1 c2 c3 e=>e3.extBut _ _ c2 (e2.extBut _ _ c3 (e1.extBut _ _ c1 e))) fun g4 p4 e4=>wpAny_pure ?_)
 have o4:IsPair g4 TO x b:=e4.extBut _ _ dO2 o3
 refine wpAny_bind (wpAny_seqItems o4 rfl (wpAny_bind (wpAny_updateSeq_pair o4 fun g5 o5 e5=>?_)))
 replace o5:IsPair g5 TO x y:=o5
 replace e5:Heap.SameBut TO g4 g5:=e5
 refine wpAny_bind (wpAny_letGo (wpAny_pure (wpAny_pure ?_)))
 refine wpAny_bind (wpAny_seqItems o5 rfl (wpAny_bind (wpAny_newTuple ?_)))
 have sz:g5.objs.size=s.heap.objs.size:=by rw[e5.1,e4.1,e3.1,e2.1,e1.1]
 have z5:IsZip g5 z TI TO .ellipsis:=e5.extBut _ _ (Ne.symm dO) (e4.extBut _ _ (Ne.symm d2) (e3.extBut _ _ (Ne.symm dO) (e2.extBut _ _ (Ne.symm d1) z1)))
 have k5:∀ c o,c≠z->c≠TO->c≠i1->c≠i2->s.heap.get? c=some o->g5.get? c=some o:=fun c o c1 c2 c3 c4 e=>
  e5.extBut _ _ c2 (e4.extBut _ _ c4 (e3.extBut _ _ c2 (e2.extBut _ _ c3 (e1.extBut _ _ c1 e))))
 have p5:P1 g5:=k1 g2 g5 p2 fun o e=>e5.extBut _ _ (Ne.symm dO1) (e4.extBut _ _ d12 (e3.extBut _ _ (Ne.symm dO1) e))
 have q5:P2 g5:=k2 g4 g5 p4 fun o e=>e5.extBut _ _ (Ne.symm dO2) e
 have zl:z<g5.objs.size:=Heap.lt_size z5
 show wpAny _ _ (Builtin.SmallTypes.ownedTupleHandOut (.ref z) (.ref g5.objs.size) >>= _) _ _ _
 refine wpAny_bind ?_
 unfold Builtin.SmallTypes.ownedTupleHandOut
 have z6:IsZip (g5.push {cls:=.type "tuple",data:=.seq #[x,y]}) z TI TO .ellipsis:=Heap.get?_push_of_some _ z5
 refine wpAny_bind (wpAny_setField_rec z6 (by simp) fun g7 z7 e7=>?_)
 replace z7:IsZip g7 z TI TO (rawInt g5.objs.size):=z7
 refine wpAny_setField_rec z7 (by simp) fun g8 z8 e8=>?_
 replace z8:IsZip g8 z TI TO (rawInt g5.objs.size):=z8
 have up:∀ c o,c≠z->g5.get? c=some o->g8.get? c=some o:=fun c o c1 e=>e8.extBut _ _ c1 (e7.extBut _ _ c1 (Heap.get?_push_of_some _ e))
 have t8:IsPair g8 g5.objs.size x y:=e8.extBut _ _ (Nat.ne_of_gt zl) (e7.extBut _ _ (Nat.ne_of_gt zl) (Heap.get?_push_size _ rfl))
 rw[sz] at z8 t8
 refine wpAny_pure ⟨_,rfl,?_⟩
 show Q (.ref g5.objs.size) _
 rw[sz]
 exact hQ g8 z8 (up _ _ dO o5) (k1 g5 g8 p5 fun o e=>up _ o d1 e) (k2 g5 g8 q5 fun o e=>up _ o d2 e) t8 fun c o c1 c2 c3 c4 e=>up c o c1 (k5 c o c1 c2 c3 c4 e)
theorem WA {z TI TO i1 i2:Addr} {a b:Value} {Q:Fin->Shared->Prop} (d1:i1≠z)
  (hz:IsZip s.heap z TI TO .none) (hTI:IsPair s.heap TI (.ref i1) (.ref i2)) (hTO:IsPair s.heap TO a b)
  (n1:∀ (g:Heap) (Q:Value->Shared->Prop) (E:Value->Shared->Prop),(∀ c o,c≠z->s.heap.get? c=some o->g.get? c=some o) ->
   (∀ g' e,Heap.ExtBut i1 g g'->(∃ o,g'.get? e=some o/\o.cls=.type "StopIteration")->E (.ref e) {s with heap:=g'})->wpAny (model prog w) A (Builtin.SmallTypes.nextOf (.ref i1)) Q E {s with heap:=g})
  (hE:∀ g e,(∀ c o,c≠z->c≠i1->s.heap.get? c=some o->g.get? c=some o)->(∃ o,g.get? e=some o/\o.cls=.type "StopIteration")->E (.ref e) {s with heap:=g}) :
  wpAny (model prog w) A (Builtin.«zip.__next__» ⟨[.ref z],[]⟩) Q E s:=by
 show wpAny _ _ (field (.ref z) 2 >>= _) _ _ _
 refine wpAny_bind (wpAny_field hz rfl (x:=.bool false) rfl ?_)
 show wpAny _ _ (field (.ref z) 3 >>= _) _ _ _
 refine wpAny_bind (wpAny_field hz rfl (x:=.ref TI) rfl (wpAny_bind (wpAny_seqItems hTI rfl ?_)))
 show wpAny _ _ (Builtin.SmallTypes.ownedTupleIsFree (.ref z) >>= _) _ _ _
 refine wpAny_bind ?_
 unfold Builtin.SmallTypes.ownedTupleIsFree
 refine wpAny_bind (wpAny_field hz rfl (x:=.none) rfl (wpAny_pure ?_))
 simp only[if_true]
 refine wpAny_bind (wpAny_rule (wpAny_bind (wpAny_field hz rfl (x:=.ref TO) rfl ?_)))
 refine wpAny_bind (wpAny_setField_rec hz (by simp) fun g1 z1 e1=>wpAny_bind ?_)
 replace z1:IsZip g1 z TI TO .ellipsis:=z1
 replace e1:Heap.SameBut z s.heap g1:=e1
 simp only[List.zipIdx_cons,List.zipIdx_nil,List.forIn_cons,List.forIn_nil]
 refine wpAny_bind (wpAny_bind (wpAny_onRaise ?_))
 show wpAny _ _ (Builtin.SmallTypes.nextOf (.ref i1) >>= _) _ _ {s with heap:=g1}
 refine wpAny_bind (n1 g1 _ _ (fun c o c1 e=>e1.extBut _ _ c1 e) fun g2 e e2 he=>?_)
 obtain ⟨oe,hoe,hce⟩:=he
 have z2:IsZip g2 z TI TO .ellipsis:=e2 _ _ (Ne.symm d1) z1
 have hez:e≠z:=fun q=>by subst q;rw[z2] at hoe;cases hoe;simp at hce
 exact wpAny_setField_rec z2 (by simp) fun g3 _ e3=>hE g3 e (fun c o c1 c3 q=>e3.extBut _ _ c1 (e2 _ _ c3 (e1.extBut _ _ c1 q))) ⟨oe,e3.extBut _ _ hez hoe,hce⟩
theorem S6 {it t:Addr} {i:Nat} {items:Array Value} {x:Value} {Q:Value->Shared->Prop} (hit:s.heap.IsTupleIter it t i) (ht:s.heap.IsTuple t items) (hx:items[i]?=some x)
  (hQ:∀ g,g.IsTupleIter it t (i+1)->Heap.SameBut it s.heap g->Q x {s with heap:=g}):wpAny (model prog w) A (Builtin.SmallTypes.nextOf (.ref it)) Q E s:=by
 obtain ⟨o,ho,hc,hd⟩:=id hit
 obtain ⟨ol,hol,_,nl,hdl⟩:=id ht
 unfold Builtin.SmallTypes.nextOf
 refine wpAny_bind (wpAny_callSpecial?_slot (name:=Str.ofString "__next__") hit.typeIs slot_tupleiter_next (wpAny_call_entry slot_tupleiter_next hit.typeIs entry_tupleiter_next ?_ (args_tupleiter_next _)))
 show wpAny _ _ (field (.ref it) 0 >>= _) _ _ s
 refine wpAny_bind (wpAny_field ho hd (x:=.ref t) rfl ?_)
 show wpAny _ _ (if (Value.ref t == Value.none)=true then _ else _) _ _ s
 rw[if_neg (show ¬((Value.ref t == Value.none)=true) from Bool.false_ne_true)]
 show wpAny _ _ (field (.ref it) 1 >>= _) _ _ s
 refine wpAny_bind (wpAny_field ho hd (x:=.int i 0) rfl ?_)
 show wpAny _ _ (seqItems? (.ref t) >>= _) _ _ s
 refine wpAny_bind (wpAny_seqItems hol hdl ?_)
 simp only[Int.toNat_natCast,hx]
 refine wpAny_bind (wpAny_setField ho hd (by simp) (wpAny_pure ⟨x,rfl,wpAny_pure (hQ _ ?_ (Heap.SameBut.update ..))⟩))
 exact ⟨_,Heap.get?_update_self _ ho (Obj.isFreed_of_fields (Obj.data_mapFields hd _)),(Obj.cls_mapFields ..).trans hc,by rw[Obj.data_mapFields hd];simp[rawInt]⟩
theorem UT {it t:Addr} {i:Nat} {items:Array Value} {Q:Value->Shared->Prop} (hh:A.handled=none) (hit:s.heap.IsTupleIter it t i) (ht:s.heap.IsTuple t items) (hx:items[i]?=none)
  (hE:∀ g e,Heap.ExtBut it s.heap g->(∃ o,g.get? e=some o/\o.cls=.type "StopIteration")->E (.ref e) {s with heap:=g}):wpAny (model prog w) A (Builtin.SmallTypes.nextOf (.ref it)) Q E s:=by
 obtain ⟨o,ho,hc,hd⟩:=id hit
 obtain ⟨ol,hol,_,nl,hdl⟩:=id ht
 unfold Builtin.SmallTypes.nextOf
 refine wpAny_bind (wpAny_callSpecial?_slot (name:=Str.ofString "__next__") hit.typeIs slot_tupleiter_next (wpAny_call_entry slot_tupleiter_next hit.typeIs entry_tupleiter_next ?_ (args_tupleiter_next _)))
 show wpAny _ _ (field (.ref it) 0 >>= _) _ _ s
 refine wpAny_bind (wpAny_field ho hd (x:=.ref t) rfl ?_)
 show wpAny _ _ (if (Value.ref t == Value.none)=true then _ else _) _ _ s
 rw[if_neg (show ¬((Value.ref t == Value.none)=true) from Bool.false_ne_true)]
 show wpAny _ _ (field (.ref it) 1 >>= _) _ _ s
 refine wpAny_bind (wpAny_field ho hd (x:=.int i 0) rfl ?_)
 show wpAny _ _ (seqItems? (.ref t) >>= _) _ _ s
 refine wpAny_bind (wpAny_seqItems hol hdl ?_)
 simp only[Int.toNat_natCast,hx]
 refine wpAny_bind (wpAny_rule (wpAny_bind (wpAny_setField ho hd (by simp) ?_)))
 show wpAny _ _ (newExc (.type "StopIteration") [] >>= _) _ _ _
 refine wpAny_bind ?_
 simp only[newExc,newTuple]
 refine wpAny_bind (wpAny_newObj_type ?_ (by size_fits))
 refine wpAny_bind (m:=firstArgMember _ _) (wpAny_of_eq (a:=Value.none) (by first | rfl | (simp only[firstArgMember];rfl)) (wpAny_newObj_type ?_ (by size_fits)))
 simp only[raiseNew]
 refine wpAny_bind (wpAny_handled ?_)
 first | rw[show A.in1.handled=none from hh] | rw[hh]
 exact wpAny_bind (wpAny_pure (wpAny_throw (hE _ _ (((Heap.SameBut.update ..).extBut.push _).push _) ⟨_,Heap.get?_push_size _ rfl,rfl⟩)))
end
section
variable {prog:Program} {w:World} {A:Around} {E:Value->Shared->Prop} {s:Shared}
theorem RN {z TI TO i1 i2:Addr} {x y a b:Value} {P1 P2:Heap->Prop} {Q:Option Value->Shared->Prop} (dO:TO≠z) (d1:i1≠z) (d2:i2≠z) (dO1:TO≠i1) (dO2:TO≠i2) (d12:i1≠i2)
  (hz:IsZip s.heap z TI TO .none) (hTI:IsPair s.heap TI (.ref i1) (.ref i2)) (hTO:IsPair s.heap TO a b)
  (n1:∀ (A:Around) (g:Heap) (Q:Value->Shared->Prop) (E:Value->Shared->Prop),(∀ c o,c≠z->s.heap.get? c=some o->g.get? c=some o)->(∀ g',P1 g'->Heap.SameBut i1 g g'->Q x {s with heap:=g'}) ->
   wpAny (model prog w) A (Builtin.SmallTypes.nextOf (.ref i1)) Q E {s with heap:=g})
  (n2:∀ (A:Around) (g:Heap) (Q:Value->Shared->Prop) (E:Value->Shared->Prop),(∀ c o,c≠z->c≠TO->c≠i1->s.heap.get? c=some o->g.get? c=some o)->(∀ g',P2 g'->Heap.SameBut i2 g g'->Q y {s with heap:=g'}) ->
   wpAny (model prog w) A (Builtin.SmallTypes.nextOf (.ref i2)) Q E {s with heap:=g})
  (k1:∀ g g':Heap,P1 g->(∀ o,g.get? i1=some o->g'.get? i1=some o)->P1 g') (k2:∀ g g':Heap,P2 g->(∀ o,g.get? i2=some o->g'.get? i2=some o)->P2 g')
  (hQ:∀ g,IsZip g z TI TO (rawInt s.heap.objs.size)->IsPair g TO x y->P1 g->P2 g->IsPair g s.heap.objs.size x y ->
   (∀ c o,c≠z->c≠TO->c≠i1->c≠i2->s.heap.get? c=some o->g.get? c=some o)->Q (some (.ref s.heap.objs.size)) {s with heap:=g}):wpAny (model prog w) A (pyNext (.ref z)) Q E s:=by
 have hT:s.TypeIs (.ref z) "zip":=⟨_,hz,rfl⟩
 unfold pyNext
 exact wpAny_bind (wpAny_attempt (wpAny_callSpecial?_slot (name:=Str.ofString "__next__") hT F.slot_zip_next (wpAny_call_entry F.slot_zip_next hT F.entry_zip_next
  (Ut dO d1 d2 dO1 dO2 d12 hz hTI hTO (fun g Q E=>n1 _ g Q E) (fun g Q E=>n2 _ g Q E) k1 k2 fun g a1 a2 a3 a4 a5 a6=>wpAny_pure (hQ g a1 a2 a3 a4 a5 a6)) (F.args_zip_next_1 _))))
theorem SO {z TI TO i1 i2:Addr} {a b:Value} {Q:Option Value->Shared->Prop} (hh:A.handled=none) (d1:i1≠z)
  (hz:IsZip s.heap z TI TO .none) (hTI:IsPair s.heap TI (.ref i1) (.ref i2)) (hTO:IsPair s.heap TO a b)
  (n1:∀ (A:Around) (g:Heap) (Q:Value->Shared->Prop) (E:Value->Shared->Prop),A.handled=none->(∀ c o,c≠z->s.heap.get? c=some o->g.get? c=some o) ->
   (∀ g' e,Heap.ExtBut i1 g g'->(∃ o,g'.get? e=some o/\o.cls=.type "StopIteration")->E (.ref e) {s with heap:=g'})->wpAny (model prog w) A (Builtin.SmallTypes.nextOf (.ref i1)) Q E {s with heap:=g})
  (hQ:∀ g,(∀ c o,c≠z->c≠i1->s.heap.get? c=some o->g.get? c=some o)->Q none {s with heap:=g}):wpAny (model prog w) A (pyNext (.ref z)) Q E s:=by
 have hT:s.TypeIs (.ref z) "zip":=⟨_,hz,rfl⟩
 unfold pyNext
 refine wpAny_bind (wpAny_attempt (wpAny_callSpecial?_slot (name:=Str.ofString "__next__") hT F.slot_zip_next (wpAny_call_entry F.slot_zip_next hT F.entry_zip_next
  (WA d1 hz hTI hTO (fun g Q E k e=>n1 _ g Q E hh k e) fun g e kk he=>?_) (F.args_zip_next_1 _))))
 obtain ⟨o,ho,hc⟩:=he
 exact wpAny_bind (wpAny_isInstance (T:="StopIteration") (b:=true) ⟨o,ho,hc⟩ isSubtype_stop (wpAny_pure (hQ _ kk)))
abbrev zt1 (h:Heap) (l1:Addr):Heap:=h.push {cls:=.type "tuple_iterator",data:=.fields #[.ref l1,.int 0 0]}
abbrev zt2 (h:Heap) (l1 l2:Addr):Heap:=(zt1 h l1).push {cls:=.type "tuple_iterator",data:=.fields #[.ref l2,.int 0 0]}
abbrev zt3 (h:Heap) (l1 l2:Addr):Heap:=(zt2 h l1 l2).push {cls:=.type "tuple",data:=.seq #[.ref h.objs.size,.ref (zt1 h l1).objs.size]}
abbrev zt4 (h:Heap) (l1 l2:Addr):Heap:=(zt3 h l1 l2).push {cls:=.type "tuple",data:=.seq #[.none,.none]}
abbrev zt5 (h:Heap) (l1 l2:Addr):Heap:=(zt4 h l1 l2).push {cls:=.type "zip",data:=.fields #[.none,.bool false,.bool false,.ref (zt2 h l1 l2).objs.size,.ref (zt3 h l1 l2).objs.size]}
theorem Up {h:Heap} {a:Addr} {items:Array Value} (x:h.IsTuple a items) (o:Obj):(h.push o).IsTuple a items:=let ⟨p,ho,r⟩:=x;⟨p,Heap.get?_push_of_some _ ho,r⟩
theorem Va (l1 l2:Addr) (xs ys:Array Value) :
  Meets (Builtin.«zip.__new__» ⟨[.type "zip",.ref l1,.ref l2],[]⟩) (fun _ R s=>s.heap.IsTuple l1 xs/\s.heap.IsTuple l2 ys/\R (.ok (.ret (.ref (zt4 s.heap l1 l2).objs.size))) {s with heap:=zt5 s.heap l1 l2}):=
 .of_wp fun prog w A R s h=>by
  obtain ⟨hp,g,d,tk,os⟩:=s;obtain ⟨hl1,hl2,h⟩:=h
  have hsub:=sub_zip
  have hA:Heap.IsTuple (Shared.heap ⟨hp,g,d,tk,os⟩) l1 xs:=hl1
  have hB:Heap.IsTuple (Shared.heap ⟨hp.push {cls:=.type "tuple_iterator",data:=.fields #[.ref l1,.int 0 0]},g,d,tk,os⟩) l2 ys:=Up hl2 _
  wp_walk using wpAny_pyIter_tuple hA,wpAny_pyIter_tuple hB
  exact ⟨_,rfl,h⟩
theorem Rl {l1 l2:Addr} {xs ys:Array Value} {Q:Value->Shared->Prop} (hl1:s.heap.IsTuple l1 xs) (hl2:s.heap.IsTuple l2 ys)
  (h:∀ g,IsZip g (s.heap.objs.size+4) (s.heap.objs.size+2) (s.heap.objs.size+3) .none->IsPair g (s.heap.objs.size+2) (.ref s.heap.objs.size) (.ref (s.heap.objs.size+1)) ->
   IsPair g (s.heap.objs.size+3) .none .none->g.IsTupleIter s.heap.objs.size l1 0->g.IsTupleIter (s.heap.objs.size+1) l2 0->(∀ c o,s.heap.get? c=some o->g.get? c=some o)->Q (.ref (s.heap.objs.size+4)) {s with heap:=g}) :
  wpAny (model prog w) A (call (.type "zip") [.ref l1,.ref l2]) Q E s:=by
 refine callType_new F.called_zip (by decide) (F.typeCall_zip_2 _ _) (F.newCall_zip_2 _ _) (fun obj=>F.args_object_init_3 obj _ _) F.entry_zip_new (Va l1 l2 xs ys) ⟨hl1,hl2,?_⟩
 have w1:(zt1 s.heap l1).objs.size=s.heap.objs.size+1:=Heap.size_push ..
 have w2:(zt2 s.heap l1 l2).objs.size=s.heap.objs.size+2:=by rw[Heap.size_push,w1]
 have w3:(zt3 s.heap l1 l2).objs.size=s.heap.objs.size+3:=by rw[Heap.size_push,w2]
 have w4:(zt4 s.heap l1 l2).objs.size=s.heap.objs.size+4:=by rw[Heap.size_push,w3]
 have v5:(zt5 s.heap l1 l2).get? (zt4 s.heap l1 l2).objs.size=some _:=Heap.get?_push_size _ rfl
 have v4:(zt5 s.heap l1 l2).get? (zt3 s.heap l1 l2).objs.size=some _:=Heap.get?_push_of_some _ (Heap.get?_push_size _ rfl)
 have v3:(zt5 s.heap l1 l2).get? (zt2 s.heap l1 l2).objs.size=some _:=Heap.get?_push_of_some _ (Heap.get?_push_of_some _ (Heap.get?_push_size _ rfl))
 have v2:(zt5 s.heap l1 l2).get? (zt1 s.heap l1).objs.size=some _:=Heap.get?_push_of_some _ (Heap.get?_push_of_some _ (Heap.get?_push_of_some _ (Heap.get?_push_size _ rfl)))
 have v1:(zt5 s.heap l1 l2).get? s.heap.objs.size=some _:=Heap.get?_push_of_some _ (Heap.get?_push_of_some _ (Heap.get?_push_of_some _ (Heap.get?_push_of_some _ (Heap.get?_push_size _ rfl))))
 show _/\_
 rw[w2,w3,w4] at v5
 rw[w1,w2] at v3
 rw[w3] at v4
 rw[w1] at v2
 rw[w4]
 exact ⟨⟨_,v5,rfl⟩,h _ v5 v3 v4 ⟨_,v1,rfl,rfl⟩ ⟨_,v2,rfl,rfl⟩ fun c o x=>Heap.get?_push_of_some _ (Heap.get?_push_of_some _ (Heap.get?_push_of_some _ (Heap.get?_push_of_some _ (Heap.get?_push_of_some _ x))))⟩
end
def Itz (c:List V->HO) (l1 l2:Addr):It:=
 ⟨fun i H=>∃ xs ys x y,H l1=some (c xs)/\H l2=some (c ys)/\xs[i]?=some x/\ys[i]?=some y,
  fun i H v H'=>∃ T x y,H T=none/\v=.ref T/\H'=upd H T (.tup [x,y])/\(∀ xs,H l1=some (c xs)->xs[i]?=some x)/\∀ ys,H l2=some (c ys)->ys[i]?=some y,
  fun i H=>∃ xs,H l1=some (c xs)/\xs.length<=i⟩
structure SeqK (P:Program) (w:World) (c:List V->HO) (IsS:Heap->Addr->Array Value->Prop) (IsI:Heap->Addr->Addr->Nat->Prop):Prop where
 inj:∀ xs ys,c xs=c ys->xs=ys
 rd:∀ {H:Hp} {h:Heap} {a:Addr} {xs:List V},HOk P w H h->H a=some (c xs)->∃ its:List Value,Vals xs its/\IsS h a its.toArray
 at_:∀ {h g:Heap} {a:Addr} {v:Array Value},IsS h a v->(∀ o,h.get? a=some o->g.get? a=some o)->IsS g a v
 iat:∀ {h g:Heap} {a l:Addr} {i:Nat},IsI h a l i->(∀ o,h.get? a=some o->g.get? a=some o)->IsI g a l i
 iob:∀ {h:Heap} {a l:Addr} {i:Nat},IsI h a l i->∃ o,h.get? a=some o/\∀ v,o.data≠.cell v
 nx:∀ {A:Around} {s:Shared} {E:Value->Shared->Prop} {Q:Value->Shared->Prop} {it l:Addr} {i:Nat} {its:Array Value} {x:Value},IsI s.heap it l i->IsS s.heap l its->its[i]?=some x ->
  (∀ g,IsI g it l (i+1)->Heap.SameBut it s.heap g->Q x {s with heap:=g})->wpAny (model P w) A (Builtin.SmallTypes.nextOf (.ref it)) Q E s
 nd:∀ {A:Around} {s:Shared} {E:Value->Shared->Prop} {Q:Value->Shared->Prop} {it l:Addr} {i:Nat} {its:Array Value},A.handled=none->IsI s.heap it l i->IsS s.heap l its->its[i]?=none ->
  (∀ g e,Heap.ExtBut it s.heap g->(∃ o,g.get? e=some o/\o.cls=.type "StopIteration")->E (.ref e) {s with heap:=g})->wpAny (model P w) A (Builtin.SmallTypes.nextOf (.ref it)) Q E s
theorem Ij {P:Program} {w:World}:SeqK P w HO.lst Heap.IsList Heap.IsListIter where
 inj:=fun _ _ e=>by cases e;rfl
 rd:=fun {H h a xs} x e=>by
  obtain ⟨_,its,n,r,q⟩:=x a _ e
  exact ⟨its,r,_,q,rfl,n,rfl⟩
 at_:=fun x k=>x.at k
 iat:=fun x k=>x.at k
 iob:=fun x=>by
  obtain ⟨o,e,_,d⟩:=x
  exact ⟨o,e,fun v z=>by rw[d] at z;cases z⟩
 nx:=fun h1 h2 h3 h4=>wpAny_nextOf_list_item h1 h2 h3 h4
 nd:=fun h0 h1 h2 h3 h4=>wpAny_nextOf_list_end h0 h1 h2 h3 h4
theorem Hj {P:Program} {w:World}:SeqK P w HO.tup Heap.IsTuple Heap.IsTupleIter where
 inj:=fun _ _ e=>by cases e;rfl
 rd:=fun {H h a xs} x e=>by
  obtain ⟨_,its,r,q⟩:=x a _ e
  exact ⟨its,r,q⟩
 at_:=fun x k=>let ⟨o,ho,r⟩:=x;⟨o,k _ ho,r⟩
 iat:=fun x k=>x.at k
 iob:=fun x=>by
  obtain ⟨o,e,_,d⟩:=x
  exact ⟨o,e,fun v z=>by rw[d] at z;cases z⟩
 nx:=fun h1 h2 h3 h4=>S6 h1 h2 h3 h4
 nd:=fun h0 h1 h2 h3 h4=>UT h0 h1 h2 h3 h4
theorem Jv {P:Program} {w:World} {K:PySem.W.Frag} {elts:List Expr} {k:Nat} {tp:Pos} {c:List V->HO} {IsS:Heap->Addr->Array Value->Prop} {IsI:Heap->Addr->Addr->Nat->Prop} (S:SeqK P w c IsS IsI) (l1 l2 n:Addr) :
  Turn P w K (.Tuple elts k tp) (Itz c l1 l2) [n+4,n+2,n+3,n,n+1] (n+4)
   (fun i h=>IsZip h (n+4) (n+2) (n+3) .none/\IsPair h (n+2) (.ref n) (.ref (n+1))/\(∃ a b,IsPair h (n+3) a b)/\IsI h n l1 i/\IsI h (n+1) l2 i) where
 mem:=by simp
 obj:=fun i h st b hb=>by
  obtain ⟨hz,hTI,⟨a,b',hTO⟩,h1,h2⟩:=st
  simp only[List.mem_cons,List.not_mem_nil,or_false] at hb
  rcases hb with z | z | z | z | z<;>subst z
  ·exact ⟨_,hz,fun v q=>by have q':Data.fields _=Data.cell v:=q;cases q'⟩
  ·exact ⟨_,hTI,fun v q=>by have q':Data.seq _ _=Data.cell v:=q;cases q'⟩
  ·exact ⟨_,hTO,fun v q=>by have q':Data.seq _ _=Data.cell v:=q;cases q'⟩
  ·exact S.iob h1
  ·exact S.iob h2
 keep:=fun i h h' st kk=>by
  obtain ⟨hz,hTI,⟨a,b',hTO⟩,h1,h2⟩:=st
  exact ⟨kk _ (by simp) _ hz,kk _ (by simp) _ hTI,⟨a,b',kk _ (by simp) _ hTO⟩,S.iat h1 fun o q=>kk _ (by simp) o q,S.iat h2 fun o q=>kk _ (by simp) o q⟩
 item:=by
  intro X hP hw hK hc i pins s σ H E I hf st hg
  subst hP hw hK
  obtain ⟨xs,ys,x,y,e1,e2,hx,hy⟩:=hg
  obtain ⟨hz,hTI,⟨a,b',hTO⟩,h1,h2⟩:=st
  obtain ⟨is1,rv1,p1⟩:=S.rd I.hok e1
  obtain ⟨is2,rv2,p2⟩:=S.rd I.hok e2
  obtain ⟨u,hu,ru⟩:=rv1.get hx
  obtain ⟨v,hv,rv⟩:=rv2.get hy
  have ap:∀ l xs,H l=some (c xs)->∀ b∈[n+4,n+2,n+3,n,n+1],l≠b:=fun l xs e b hb z=>by
   have q:=(hf b hb).1
   rw[<-z,e] at q
   cases q
  have lz:@LT.lt Nat _ (n+4) s.heap.objs.size:=Heap.lt_size hz
  refine RN (P1:=fun g=>IsI g n l1 (i+1)) (P2:=fun g=>IsI g (n+1) l2 (i+1)) (x:=u) (y:=v) (by first | exact Nat.ne_of_lt (by lia) | exact Nat.ne_of_gt (by lia)) (by first | exact Nat.ne_of_lt (by lia) | exact Nat.ne_of_gt (by lia)) (by first | exact Nat.ne_of_lt (by lia) | exact Nat.ne_of_gt (by lia)) (by first | exact Nat.ne_of_lt (by lia) | exact Nat.ne_of_gt (by lia)) (by first | exact Nat.ne_of_lt (by lia) | exact Nat.ne_of_gt (by lia)) (by first | exact Nat.ne_of_lt (by lia) | exact Nat.ne_of_gt (by lia)) hz hTI hTO
   (fun A g Q E kk hQ=>S.nx (s:={s with heap:=g}) (S.iat h1 fun o q=>kk _ o (by first | exact Nat.ne_of_lt (by lia) | exact Nat.ne_of_gt (by lia)) q) (S.at_ p1 fun o q=>kk _ o (ap _ _ e1 _ (by simp)) q) (by simpa using hu) hQ)
   (fun A g Q E kk hQ=>S.nx (s:={s with heap:=g}) (S.iat h2 fun o q=>kk _ o (by first | exact Nat.ne_of_lt (by lia) | exact Nat.ne_of_gt (by lia)) (by first | exact Nat.ne_of_lt (by lia) | exact Nat.ne_of_gt (by lia)) (by first | exact Nat.ne_of_lt (by lia) | exact Nat.ne_of_gt (by lia)) q) (S.at_ p2 fun o q=>kk _ o (ap _ _ e2 _ (by simp)) (ap _ _ e2 _ (by simp)) (ap _ _ e2 _ (by simp)) q) (by simpa using hv) hQ)
   (fun g g' p q=>S.iat p q) (fun g g' p q=>S.iat p q) fun g a1 a2 a3 a4 a5 a6=>?_
  refine ⟨_,rfl,wpAny_letOwnedTupleGo_zip a1 fun g2 z2 s2=>?_⟩
  replace s2:Heap.SameBut (n+4) g g2:=s2
  have up:∀ b o,b∉[n+4,n+2,n+3,n,n+1]->s.heap.get? b=some o->g2.get? b=some o:=fun b o hb q=>
   (s2.2 b (fun z=>hb (by simp[z]))).trans (a6 b o (fun z=>hb (by simp[z])) (fun z=>hb (by simp[z])) (fun z=>hb (by simp[z])) (fun z=>hb (by simp[z])) q)
  have hT2:g2.get? s.heap.objs.size=some {cls:=.type "tuple",data:=.seq #[u,v]}:=(s2.2 _ (by first | exact Nat.ne_of_lt (by lia) | exact Nat.ne_of_gt (by lia))).trans a5
  have lt:∀ b∈[n+4,n+2,n+3,n,n+1],b<s.heap.objs.size:=fun b hb=>by
   simp only[List.mem_cons,List.not_mem_nil,or_false] at hb
   rcases hb with z | z | z | z | z<;>(rw[z];first | exact Nat.le_add_right _ _ | exact Nat.le_refl _ | exact Nat.lt_of_le_of_lt (by lia) lz)
  refine ⟨.ref s.heap.objs.size,upd H s.heap.objs.size (.tup [x,y]),I.turnLay (t':=s.toks) hf up (Nat.le_refl _) ⟨KW,[u,v],.cons ru (.cons rv .nil),⟨_,hT2,rfl,_,rfl⟩⟩,rfl,
   ⟨_,x,y,I.fresh,rfl,rfl,fun zs hz'=>?_,fun zs hz'=>?_⟩,⟨z2,(s2.2 _ (by first | exact Nat.ne_of_lt (by lia) | exact Nat.ne_of_gt (by lia))).trans (a6 _ _ (by first | exact Nat.ne_of_lt (by lia) | exact Nat.ne_of_gt (by lia)) (by first | exact Nat.ne_of_lt (by lia) | exact Nat.ne_of_gt (by lia)) (by first | exact Nat.ne_of_lt (by lia) | exact Nat.ne_of_gt (by lia)) (by first | exact Nat.ne_of_lt (by lia) | exact Nat.ne_of_gt (by lia)) hTI),⟨_,_,(s2.2 _ (by first | exact Nat.ne_of_lt (by lia) | exact Nat.ne_of_gt (by lia))).trans a2⟩,S.iat a3 fun o q=>(s2.2 _ (by first | exact Nat.ne_of_lt (by lia) | exact Nat.ne_of_gt (by lia))).trans q,S.iat a4 fun o q=>(s2.2 _ (by first | exact Nat.ne_of_lt (by lia) | exact Nat.ne_of_gt (by lia))).trans q⟩,fun b hb=>?_⟩
  ·rw[e1] at hz'
   rw[<-S.inj _ _ (Option.some.inj hz')]
   exact hx
  ·rw[e2] at hz'
   rw[<-S.inj _ _ (Option.some.inj hz')]
   exact hy
  ·rw[AH (Nat.ne_of_lt (lt b hb))]
   exact (hf b hb).1
 done:=by
  intro X hP hw hK hc i pins s σ H E I hf st hg
  subst hP hw hK
  obtain ⟨xs,e1,hx⟩:=hg
  obtain ⟨hz,hTI,⟨a,b',hTO⟩,h1,h2⟩:=st
  obtain ⟨is1,rv1,p1⟩:=S.rd I.hok e1
  have hl:=rv1.length
  have ne:l1≠n+4:=fun z=>by
   have q:=(hf (n+4) (by simp)).1
   rw[<-z,e1] at q
   cases q
  exact SO (I.ok.hd hc) (by first | exact Nat.ne_of_lt (by lia) | exact Nat.ne_of_gt (by lia)) hz hTI hTO (fun A g Q E hh kk hE=>S.nd (s:={s with heap:=g}) hh (S.iat h1 fun o q=>kk _ o (by first | exact Nat.ne_of_lt (by lia) | exact Nat.ne_of_gt (by lia)) q) (S.at_ p1 fun o q=>kk _ o ne q) (by simp;lia) hE)
   fun g kk=>⟨rfl,I.turnL (t':=s.toks) hf fun b o hb q=>kk b o (fun z=>hb (by simp[z])) (fun z=>hb (by simp[z])) q⟩
 self:=fun A i s Q E st h=>wpAny_pyIter_zip st.1 h
def Ue (ta:TA):TI:=fun σ H R=>ta σ H fun vs H1=>∃ l1 l2,vs=[.ref l1,.ref l2]/\((∃ xs ys,H1 l1=some (.lst xs)/\H1 l2=some (.lst ys)/\R (Itz HO.lst l1 l2) H1)\/∃ xs ys,H1 l1=some (.tup xs)/\H1 l2=some (.tup ys)/\R (Itz HO.tup l1 l2) H1)
theorem UD {X:Cx} {a b:Expr} {ta:TA} {p cp tp:Pos} {elts:List Expr} {k:Nat} (hg:Gl X "zip") (hm:X.mg "zip"=none) (ha:PA X [a,b] ta) (hs:starEach [a,b] X.env=[(false,eval a X.env),(false,eval b X.env)]:=by rfl) (hs2:starEach [b] X.env=[(false,eval b X.env)]:=by rfl) :
  PI X (.Tuple elts k tp) (.Call (.Name "zip" p) [a,b] [] cp) (Ue ta):=by
 intro pins s σ H R I h
 refine Call_ (D0 I hg hm boot_zip (PyProof.Rows.callWith_type1 (thn (ha cp pins s σ H _ I h) fun us s1 hh_=>?_) (by rw[hs,hs2]) (by rw[hs2];rfl)))
 obtain ⟨vs,H1,I1,r1,q1⟩:=hh_
 obtain ⟨l1,l2,e,q⟩:=q1
 subst e
 cases r1 with
 | cons r rr=>
  cases rr with
  | cons r' rr=>
   cases rr
   cases r
   cases r'
   have fpo:∀ b∈[s1.heap.objs.size+4,s1.heap.objs.size+2,s1.heap.objs.size+3,s1.heap.objs.size,s1.heap.objs.size+1],Bu X pins H1 b:=fun b hb=>by
    have hle:s1.heap.objs.size<=b:=by
     simp only[List.mem_cons,List.not_mem_nil,or_false] at hb
     rcases hb with z | z | z | z | z<;>(rw[z];first | exact Nat.le_add_right _ _ | exact Nat.le_refl _ | exact Nat.lt_of_le_of_lt (by lia) lz)
    exact I1.fpOk hle (I1.hok.fresh hle)
   rcases q with ⟨xs,ys,e1,e2,q⟩ | ⟨xs,ys,e1,e2,q⟩
   ·obtain ⟨is1,rv1,p1⟩:=(Ij (P:=X.prog) (w:=X.w)).rd I1.hok e1
    obtain ⟨is2,rv2,p2⟩:=(Ij (P:=X.prog) (w:=X.w)).rd I1.hok e2
    refine call_zip_2 p1 p2 fun g b1 b2 b3 b4 b5 b6 kk=>wpAny_pyIter_zip b1 ?_
    exact ⟨_,_,_,_,H1,rfl,I1.kept (t':=s1.toks) kk,Jv Ij l1 l2 s1.heap.objs.size,⟨b1,b2,⟨_,_,b3⟩,b4,b5⟩,fpo,q⟩
   ·obtain ⟨is1,rv1,p1⟩:=(Hj (P:=X.prog) (w:=X.w)).rd I1.hok e1
    obtain ⟨is2,rv2,p2⟩:=(Hj (P:=X.prog) (w:=X.w)).rd I1.hok e2
    refine Rl p1 p2 fun g b1 b2 b3 b4 b5 kk=>wpAny_pyIter_zip b1 ?_
    exact ⟨_,_,_,_,H1,rfl,I1.kept (t':=s1.toks) kk,Jv Hj l1 l2 s1.heap.objs.size,⟨b1,b2,⟨_,_,b3⟩,b4,b5⟩,fpo,q⟩
section
variable {prog:Program} {w:World} {A:Around} {E:Value->Shared->Prop} {s:Shared}
end
section
variable {X:Cx}
theorem call_sorted:CallR X (.builtin "sorted") (fun xs H Q=>∃ p ns,xs=[.ref p]/\SqL X.K H p (ns.map V.int)/\∀ l (ms:List Int),H l=none->ms.Perm ns->ms.Pairwise (·<=·)->Q (.ref l) (upd H l (.lst (ms.map V.int)))):=by
 intro pins s σ H xs us Q I r h
 obtain ⟨p,ns,rfl,hq,q⟩:=h
 obtain ⟨u,rfl,ru⟩:=vals1 r
 cases ru
 obtain ⟨its,rv,pl,hz⟩:=I.list hq
 have hl:=rv.length
 refine EvS.Pt pl.isList (intsAre_of rv) (by lia) fun out ms b1 b2 b3=>?_
 obtain ⟨e,he⟩:=sortedAll_at s.heap its out
 have hn:H (s.heap.objs.size+1)=none:=I.hok.fresh (Nat.le_succ _)
 refine ⟨.ref (s.heap.objs.size+1),_,I.laid (t':=s.toks) (o:=.lst (ms.map V.int)) (fun b u q=>sortedAll_old q) (Nat.le_succ _) ⟨?_,out.toList,e,IW b1,?_⟩,rfl,q _ ms hn b2 b3⟩
 ·rw[List.length_map,b2.length_eq]
  rw[List.length_map] at hz
  exact hz
 ·simpa using he
def VC (K:PySem.W.Frag):List V->Hp->VK->Prop:=fun xs H Q=>∃ x T t b,xs=[x,.ty T]/\TyOf K H x (.type t)/\PySem.W.kitOne K (.type t) (.type T)=some b/\Q (.bl b) H
theorem S5:CallR X (.builtin "isinstance") (VC X.K):=by
 intro pins s σ H xs us Q I r h
 obtain ⟨x,T,t,b,rfl,ty,e,q⟩:=h
 obtain ⟨u,u',rfl,ru,ru'⟩:=vals2 r
 cases (show u'=Value.type T from ru')
 exact Tj I ru ty e fun tk=>⟨.bl b,H,I.tok tk,rfl,q⟩
def Nj (K:PySem.W.Frag):R2:=fun x y H Q=>∃ p q xs ys,x=.ref p/\y=.ref q/\SqL K H p xs/\SqL K H q ys/\(xs=[]\/ys=[])/\Q (.bl (decide (xs=ys))) H
theorem TN (hu:X.A.units<cLine):OpR X (compareOp .Eq) (Nj X.K):=by
 intro pins s σ H x y v u Q I rx ry h
 obtain ⟨p,q,xs,ys,rfl,rfl,hp,hq,hor,k⟩:=h
 cases rx
 cases ry
 obtain ⟨i1,r1,l1,z1⟩:=I.list hp
 obtain ⟨i2,r2,l2,z2⟩:=I.list hq
 have e1:=r1.length
 have e2:=r2.length
 by_cases c:xs.length=ys.length
 ·have exy:xs=ys:=by
   rcases hor with z | z
   ·subst z;exact (List.eq_nil_of_length_eq_zero (by rw[<-c];rfl)).symm
   ·subst z;exact List.eq_nil_of_length_eq_zero (by rw[c];rfl)
  have x0:xs.length=0:=by
   rcases hor with z | z
   ·rw[z];rfl
   ·rw[c,z];rfl
  refine SeqAt.eq_listAt (e:=fun _=>true) l1.isList l2.isList (by rw[List.size_toArray,List.size_toArray];lia) hu (fun j h1 _=>?_) ?_
  ·rw[List.size_toArray] at h1;lia
  ·rw[decide_eq_true exy] at k
   refine ⟨.bl true,H,I,?_,k⟩
   have:(List.range i1.toArray.size).all (fun _=>true)=true:=List.all_eq_true.mpr fun _ _=>rfl
   rw[this]
   rfl
 ·refine SeqAt.eq_list_lengthsAt l1.isList l2.isList (by rw[List.size_toArray,List.size_toArray];exact bne_iff_ne.mpr (by lia)) hu ?_
  rw[decide_eq_false (fun z=>c (by rw[z]))] at k
  exact ⟨.bl false,H,I,rfl,k⟩
theorem NB {α β:Type} {f:α->Option β} {g:α->β}:∀ {l:List α},(∀ x∈l,f x=some (g x))->l.filterMap f=l.map g
 | [],_=>rfl
 | a::l,h=>by rw[List.filterMap_cons,h a List.mem_cons_self,List.map_cons,NB fun x hx=>h x (List.mem_cons_of_mem _ hx)]
theorem Rr (items:List Value):slicePick items.toArray none none (some (-1))=items.reverse.toArray:=by
 have hc:(sliceRange ((items.length:Int) - 1) (-1) (-1))=(List.range items.length).map fun (k:Nat)=>items.length - 1 - k:=by
  unfold sliceRange
  rw[if_neg (by decide)]
  have e:(if (items.length:Int) - 1 > -1 then ((items.length:Int) - 1 - -1 - -1 - 1) / - -1 else 0)=(items.length:Int):=by
   split
   ·rw[show (- -1:Int)=1 by rfl,Int.ediv_one];lia
   ·lia
  dsimp only
  rw[e]
  refine List.map_congr_left fun k hk=>?_
  have:=List.mem_range.mp hk
  lia
 have hb:slicePick items.toArray none none (some (-1))=((sliceRange ((items.length:Int) - 1) (-1) (-1)).filterMap (items.toArray[·]?)).toArray:=by
  unfold slicePick sliceBounds
  simp
 rw[hb,hc]
 congr 1
 rw[List.filterMap_map]
 have hf:(List.range items.length).filterMap ((fun x=>items.toArray[x]?)∘fun (k:Nat)=>items.length - 1 - k)=(List.range items.length).map fun (k:Nat)=>items.getD (items.length - 1 - k) .none:=by
  refine NB fun k hk=>?_
  have:=List.mem_range.mp hk
  show items.toArray[items.length - 1 - k]?=some (items.getD (items.length - 1 - k) .none)
  rw[List.getElem?_toArray,List.getD_eq_getElem?_getD,List.getElem?_eq_getElem (by lia)]
  rfl
 rw[hf]
 refine List.ext_getElem? fun j=>?_
 rw[List.getElem?_map]
 by_cases hj:j<items.length
 ·rw[List.getElem?_range hj,List.getElem?_reverse hj,Option.map_some,List.getD_eq_getElem?_getD,List.getElem?_eq_getElem (by lia)]
  rfl
 ·rw[List.getElem?_eq_none (by rw[List.length_range];lia),List.getElem?_eq_none (by rw[List.length_reverse];lia)]
  rfl
def OU (K:PySem.W.Frag) (te ts:TE):TE:=fun σ H Q=>te σ H fun x H1=>ts σ H1 fun y H2=>∃ a xs,x=.ref a/\y=.int (-1)/\SqL K H2 a xs/\∀ p,H2 p=none->Q (.ref p) (upd H2 p (.lst xs.reverse))
theorem QR {e st:Expr} {te ts:TE} {p2 ep:Pos} (he:PE X e te) (hst:PE X st ts):PE X (.Subscript e (.Slice none none (some st) p2) ep) (OU X.K te ts):=by
 intro pins s σ H Q I h
 refine Subscript_ (thn (he pins s σ H _ I h) fun v s1 hh_=>?_)
 obtain ⟨x,H1,I1,r1,q1⟩:=hh_
 refine wpAny_Slice ?_
 rw[evalPart_none]
 refine wpAny_pure (wpAny_pure ?_)
 rw[evalPart_some]
 refine thn (hst pins s1 σ H1 _ I1 q1) fun w s3 hh_=>?_
 obtain ⟨y,H3,I3,r3,a,xs,ex,ey,hq,q3⟩:=hh_
 subst ex ey
 cases r1
 obtain ⟨tk,rfl⟩:=r3
 have I4:Inv X pins σ H3 {s3 with heap:=s3.heap.push {cls:=.type "slice",data:=.fields #[.none,.none,.int (-1) tk]}}:=I3.kept (t':=s3.toks) fun b ob q=>Heap.get?_push_of_some _ q
 obtain ⟨its,r,ht,hz⟩:=I4.list hq
 have hlen:=r.length
 show wpAny (model X.prog X.w) X.A (subscriptTail e (.Slice none none (some st) p2) (.ref a) (.ref s3.heap.objs.size)) (EP X pins σ Q) X.xe {s3 with heap:=s3.heap.push {cls:=.type "slice",data:=.fields #[.none,.none,.int (-1) tk]}}
 refine tail_any (ops:=[.ref a,.ref s3.heap.objs.size]) ht.isList.typeIs slot_list_getitem.lookup (wpAny_getItem_list_slice ht.isList (Heap.IsSliceOf.new ..) .none .none (.int (-1) tk) (by decide) ?_ (by rw[List.size_toArray];lia)) (by with_unfolding_all rfl)
 rw[Rr]
 refine ⟨.ref _,_,I4.laid (t':=s3.toks) (o:=.lst xs.reverse) (fun b ob q=>Heap.get?_push_of_some _ q) (Nat.le_refl _) ?_,rfl,q3 _ (I4.hok.fresh (Nat.le_refl _))⟩
 exact ⟨by rw[List.length_reverse];exact hz,_,0,r.reverse,Heap.get?_push_size _ rfl⟩
theorem Ti:OpR X (binaryOp .FloorDiv) (rI (fun _ j=>0<j/\j<2 ^ 64) fun i j=>.int (i / j)):=opI fun i j _ _ _ _ _ hc q=>by
 have h1:(0:Int)<j:=hc.1
 refine floordiv_int (by lia) (by rw[Int.fdiv_eq_ediv_of_nonneg i (by lia)];exact q) (.inl (PyProof.noPylong_of_log2 ?_))
 have h2:j.natAbs<2 ^ 64:=by have:=hc.2;lia
 have h3:j.natAbs.log2<64:=(Nat.log2_lt (by lia)).mpr h2
 lia
end
end L2
namespace Ev
open PySem L2
theorem small {n:Nat} (h:n<=1000000):n<=sizeLine:=Nat.le_trans h (by decide)
theorem GC {n:Nat} (h:n<=1000000):n<sizeLine:=Nat.lt_of_le_of_lt h (by decide)
structure Nm (mg:Str->Option Value):Prop where
 len:mg "len"=none
 range:mg "range"=none
 isi:mg "isinstance"=none
 bool:mg "bool"=none
 int:mg "int"=none
 str:mg "str"=none
 list:mg "list"=none
 tuple:mg "tuple"=none
 zip:mg "zip"=none
 enum:mg "enumerate"=none
 sorted:mg "sorted"=none
 max:mg "max"=none
 min:mg "min"=none
 abs:mg "abs"=none
 sum:mg "sum"=none
 all:mg "all"=none
 any:mg "any"=none
 set:mg "set"=none
end Ev
namespace L2
open PySem
variable {X:Cx} {K:PySem.W.Frag}
theorem E1 {es:List Expr} {k:Nat} {t:TGs} {n:Nat} {tp:Pos} (hk:X.K=K) (hc:X.calm=true) (h:PGs X es t) (hn:(assignEach es X.env).length=n:=by rfl) (hst:(assignEach es X.env).findIdx? (·.1)=none:=by rfl):PG X (.Tuple es k tp) (CA K n t):=hk▸Pq hc h hn hst
theorem SX {tg l:Expr} {tl:TE} (h:X.K=K) (hl:PE X l tl):PI X tg l (J8 K tl):=h▸Ng hl
end L2
namespace L2
open PySem PySem.Spec PyProof.Rows
section
variable {X:Cx}
def NJ (K:PySem.W.Frag):R2:=fun x y H Q=>∃ p q xs ys,x=.ref p/\y=.ref q/\SqL K H p xs/\SqL K H q ys/\(xs=[]\/ys=[])/\Q (.bl (!decide (xs=ys))) H
theorem WG (hu:X.A.units<cLine):OpR X (compareOp .NotEq) (NJ X.K):=by
 intro pins s σ H x y v u Q I rx ry h
 obtain ⟨p,q,xs,ys,rfl,rfl,hp,hq,hor,k⟩:=h
 cases rx
 cases ry
 obtain ⟨i1,r1,l1,z1⟩:=I.list hp
 obtain ⟨i2,r2,l2,z2⟩:=I.list hq
 have e1:=r1.length
 have e2:=r2.length
 by_cases c:xs.length=ys.length
 ·have exy:xs=ys:=by
   rcases hor with z | z
   ·subst z;exact (List.eq_nil_of_length_eq_zero (by rw[<-c];rfl)).symm
   ·subst z;exact List.eq_nil_of_length_eq_zero (by rw[c];rfl)
  have x0:xs.length=0:=by
   rcases hor with z | z
   ·rw[z];rfl
   ·rw[c,z];rfl
  rw[decide_eq_true exy] at k
  refine SeqAt.RcNeAt.lists (e:=fun _=>true) l1.isList l2.isList (by rw[List.size_toArray,List.size_toArray];lia) hu (fun j h1 _=>?_) X.prog X.w _ _ ?_
  ·rw[List.size_toArray] at h1;lia
  ·refine ⟨.bl false,H,I,?_,k⟩
   have:(List.range i1.toArray.size).all (fun _=>true)=true:=List.all_eq_true.mpr fun _ _=>rfl
   rw[this]
   rfl
 ·rw[decide_eq_false (fun z=>c (by rw[z]))] at k
  exact SeqAt.RcNeAt.lists_lengths l1.isList l2.isList (by rw[List.size_toArray,List.size_toArray];exact bne_iff_ne.mpr (by lia)) hu X.prog X.w _ _ ⟨.bl true,H,I,rfl,k⟩
end
section
variable {X:Cx}
def Gk:V->Int
 | .int i=>i
 | _=>0
def CC (H:Hp):V->List Int
 | .ref a=>match H a with
  | some (.tup xs)=>xs.map Gk
  | _=>[]
 | _=>[]
theorem Km (ns:List Int):(ns.map V.int).map Gk=ns:=by
 rw[List.map_map]
 exact (List.map_congr_left fun _ _=>rfl).trans (List.map_id ns)
def addrOf:Value->V
 | .ref a=>.ref a
 | _=>.non
theorem IG:∀ {vs:List V} {its:List Value},Vals vs its->(∀ v∈vs,∃ a,v=.ref a)->vs=its.map addrOf/\∀ u∈its,∃ a,u=.ref a
 | [],_,.nil,_=>⟨rfl,fun _ h=>nomatch h⟩
 | v::vs,_,.cons (b:=u) r t,h=>by
  obtain ⟨a,rfl⟩:=h v List.mem_cons_self
  cases r
  obtain ⟨h1,h2⟩:=IG t fun w hw=>h w (List.mem_cons_of_mem _ hw)
  refine ⟨by rw[List.map_cons,<-h1];rfl,fun w hw=>?_⟩
  rcases List.mem_cons.mp hw with rfl | hw
  ·exact ⟨a,rfl⟩
  ·exact h2 w hw
theorem Hm:∀ {its:List Value},(∀ u∈its,∃ a,u=.ref a)->Vals (its.map addrOf) its
 | [],_=>.nil
 | u::us,h=>by
  obtain ⟨a,rfl⟩:=h u List.mem_cons_self
  exact .cons rfl (Hm fun w hw=>h w (List.mem_cons_of_mem _ hw))
def J3 (K:PySem.W.Frag):List V->Hp->VK->Prop:=fun xs H Q=>∃ p vs,xs=[.ref p]/\SqL K H p vs/\(∀ v∈vs,∃ a ns,v=.ref a/\H a=some (.tup (ns.map V.int))/\ns≠[]) /\
 ∀ l (ws:List V),H l=none->ws.Perm vs->ws.Pairwise (fun u v=>HT.lexLt (CC H v) (CC H u)=false)->Q (.ref l) (upd H l (.lst ws))
theorem VQ:CallR X (.builtin "sorted") (J3 X.K):=by
 intro pins s σ H xs us Q I r h
 obtain ⟨p,vs,rfl,hq,hv,q⟩:=h
 obtain ⟨u,rfl,ru⟩:=vals1 r
 cases ru
 obtain ⟨its,rv,pl,hz⟩:=I.list hq
 have hl:=rv.length
 obtain ⟨e1,e2⟩:=IG rv fun v hvm=>let ⟨a,ns,e,_⟩:=hv v hvm;⟨a,e⟩
 refine EvS.SS (fun u=>CC H (addrOf u)) pl.isList (fun u hu=>?_) (by lia) fun out b1 b2=>?_
 ·have hm:addrOf u∈vs:=by rw[e1];exact List.mem_map.mpr ⟨u,hu,rfl⟩
  obtain ⟨a,ns,e3,e4,e5⟩:=hv _ hm
  obtain ⟨b,rfl⟩:=e2 u hu
  have:b=a:=by injection e3
  subst this
  obtain ⟨_,its2,r2,o,ho,hc,n,hd⟩:=I.hok b _ e4
  have en:CC H (addrOf (.ref b))=ns:=by
   show (match H b with | some (.tup xs)=>xs.map Gk | _=>[])=ns
   rw[e4]
   exact Km ns
  exact ⟨b,o,_,n,rfl,ho,hc,hd,by dsimp only;rw[en];exact intsAre_of r2,by dsimp only;rw[en];exact e5⟩
 ·obtain ⟨e,he⟩:=sortedAll_at s.heap its out
  have hn:H (s.heap.objs.size+1)=none:=I.hok.fresh (Nat.le_succ _)
  have er:∀ u∈out.toList,∃ a,u=.ref a:=fun u hu=>e2 u (b1.mem_iff.mp hu)
  have pw:(out.toList.map addrOf).Perm vs:=by rw[e1];exact b1.map addrOf
  refine ⟨.ref (s.heap.objs.size+1),_,I.laid (t':=s.toks) (o:=.lst (out.toList.map addrOf)) (fun b u q=>sortedAll_old q) (Nat.le_succ _) ⟨?_,out.toList,e,Hm er,?_⟩,rfl,q _ _ hn pw ?_⟩
  ·rw[pw.length_eq];exact hz
  ·simpa using he
  ·rw[List.pairwise_map]
   exact b2
def Sm:V->List V->Hp->VK->Prop:=fun x vs H Q=>∃ l xs i y,x=.ref l/\vs=[.int i,y]/\H l=some (.lst xs)/\0<=i/\i<=xs.length/\xs.length<sizeLine/\Q .non (upd H l (.lst (xs.take i.toNat++y::xs.drop i.toNat)))
theorem O2:MtM X "list.insert" Sm:=by
 intro pins s σ H x vs v us Q I rx rv h
 obtain ⟨l,xs,i,y,rfl,rfl,hH,h1,h2,hz,q⟩:=h
 cases rx
 obtain ⟨u,u',rfl,ru,ru'⟩:=rv.two
 obtain ⟨t,rfl⟩:=ru
 obtain ⟨z,its,n,r,hl,e⟩:=I.lstM hH
 have hs:sizeLine=16777216:=sizeLine_eq
 refine call_meets F.slot_list_insert ⟨_,e,rfl⟩ F.entry_list_insert (F.args_list_insert_3 _ _ _) (PySem.AutoSeq1.list_insert_list_int_val_1 l its.toArray n i t u' (by rw[fitsIndex_both (by lia) (by lia)];decide) (by rw[List.size_toArray];lia)) ⟨e,?_⟩
 have hv:Vals (xs.take i.toNat++y::xs.drop i.toNat) (its.take i.toNat++u'::its.drop i.toNat):=(r.take _).append (.cons ru' (r.drop _))
 refine ⟨.non,_,I.lset (its':=its.take i.toNat++u'::its.drop i.toNat) hH e ?_ hv ?_,rfl,q⟩
 ·show (its.toArray.extract 0 (if i<0 then (i+(its.toArray.size:Int)).toNat else min i.toNat its.toArray.size)).push u'++its.toArray.extract (if i<0 then (i+(its.toArray.size:Int)).toNat else min i.toNat its.toArray.size)=_
  rw[if_neg (by lia),List.size_toArray,Nat.min_eq_left (by lia)]
  apply Array.ext'
  simp
  exact List.take_of_length_le (by rw[List.length_drop];exact Nat.le_refl _)
 ·rw[List.length_append,List.length_cons,List.length_take,List.length_drop]
  lia
end
end L2
namespace DL
open PySem L2
inductive D where
 | non | bl (b:Bool) | int (i:Int) | str (x:Str) | lst (xs:List D) | tup (xs:List D) | scr (ns:List Int)
inductive SV where
 | v (d:D) | b (n:Nat) | p (n:Nat) (d:D)
structure Wd where
 K:PySem.W.Frag
 B:Addr->Prop
 H:Hp
mutual
def Rep (W:Wd):D->V->Prop
 | .non,v=>v=.non
 | .bl b,v=>v=.bl b
 | .int i,v=>v=.int i
 | .str x,v=>v=.str x
 | .lst xs,v=>∃ a vs,v=.ref a/\¬W.B a/\W.H a=some (.lst vs)/\Reps W xs vs
 | .tup xs,v=>∃ a vs,v=.ref a/\¬W.B a/\W.H a=some (.tup vs)/\Reps W xs vs
 | .scr ns,v=>∃ a,v=.ref a/\((¬W.B a/\Rd W.H a (.lst (ns.map V.int)))\/∀ H,SqL W.K H a (ns.map V.int))
def Reps (W:Wd):List D->List V->Prop
 | [],vs=>vs=[]
 | d::ds,vs=>∃ v r,vs=v::r/\Rep W d v/\Reps W ds r
end
structure Kw (W W':Wd):Prop where
 k:W'.K=W.K
 keep:∀ a o,¬W.B a->W.H a=some o->W'.H a=some o/\¬W'.B a
theorem Kw.refl (W:Wd):Kw W W:=⟨rfl,fun _ _ n e=>⟨e,n⟩⟩
theorem Kw.trans {W W1 W2:Wd} (a:Kw W W1) (b:Kw W1 W2):Kw W W2:=⟨b.k.trans a.k,fun c o n e=>let ⟨h,n'⟩:=a.keep c o n e;b.keep c o n' h⟩
mutual
theorem Rep.kw {W W':Wd} (k:Kw W W'):∀ {d:D} {v:V},Rep W d v->Rep W' d v
 | .non,v,h=>by unfold Rep at *;exact h
 | .bl b,v,h=>by unfold Rep at *;exact h
 | .int i,v,h=>by unfold Rep at *;exact h
 | .str x,v,h=>by unfold Rep at *;exact h
 | .lst xs,v,h=>by
  unfold Rep at *
  obtain ⟨a,vs,e,n,h1,h2⟩:=h
  obtain ⟨h3,n'⟩:=k.keep a _ n h1
  exact ⟨a,vs,e,n',h3,Reps.kw k h2⟩
 | .tup xs,v,h=>by
  unfold Rep at *
  obtain ⟨a,vs,e,n,h1,h2⟩:=h
  obtain ⟨h3,n'⟩:=k.keep a _ n h1
  exact ⟨a,vs,e,n',h3,Reps.kw k h2⟩
 | .scr ns,v,h=>by
  unfold Rep at *
  obtain ⟨a,e,h⟩:=h
  refine ⟨a,e,?_⟩
  rcases h with ⟨n,h | ⟨o,h⟩⟩ | h
  ·obtain ⟨h3,n'⟩:=k.keep a _ n h
   exact .inl ⟨n',.inl h3⟩
  ·obtain ⟨h3,n'⟩:=k.keep a _ n h
   exact .inl ⟨n',.inr ⟨o,h3⟩⟩
  ·exact .inr (by rw[k.k];exact h)
theorem Reps.kw {W W':Wd} (k:Kw W W'):∀ {ds:List D} {vs:List V},Reps W ds vs->Reps W' ds vs
 | [],vs,h=>by unfold Reps at *;exact h
 | d::ds,vs,h=>by
  unfold Reps at *
  obtain ⟨v,r,e,h1,h2⟩:=h
  exact ⟨v,r,e,Rep.kw k h1,Reps.kw k h2⟩
end
theorem Reps.len {W:Wd}:∀ {ds:List D} {vs:List V},Reps W ds vs->vs.length=ds.length
 | [],vs,h=>by unfold Reps at h;subst h;rfl
 | d::ds,vs,h=>by
  unfold Reps at h
  obtain ⟨v,r,rfl,_,h⟩:=h
  rw[List.length_cons,List.length_cons,h.len]
theorem Reps.nil {W:Wd}:Reps W [] []:=by unfold Reps;rfl
theorem Reps.cons {W:Wd} {d:D} {v:V} {ds:List D} {vs:List V} (h:Rep W d v) (t:Reps W ds vs):Reps W (d::ds) (v::vs):=by unfold Reps;exact ⟨v,vs,rfl,h,t⟩
theorem Reps.nil_inv {W:Wd} {vs:List V} (h:Reps W [] vs):vs=[]:=by unfold Reps at h;exact h
theorem Reps.cons_inv {W:Wd} {d:D} {ds:List D} {vs:List V} (h:Reps W (d::ds) vs):∃ v r,vs=v::r/\Rep W d v/\Reps W ds r:=by unfold Reps at h;exact h
theorem Reps.append {W:Wd}:∀ {ds es:List D} {vs us:List V},Reps W ds vs->Reps W es us->Reps W (ds++es) (vs++us)
 | [],es,vs,us,h,g=>by rw[h.nil_inv];exact g
 | d::ds,es,vs,us,h,g=>by
  obtain ⟨v,r,rfl,h1,h2⟩:=h.cons_inv
  exact .cons h1 (h2.append g)
theorem Reps.get {W:Wd}:∀ {ds:List D} {vs:List V} {i:Nat} {d:D},Reps W ds vs->ds[i]?=some d->∃ v,vs[i]?=some v/\Rep W d v
 | [],_,_,_,_,e=>by cases e
 | c::ds,vs,0,d,h,e=>by
  obtain ⟨v,r,rfl,h1,h2⟩:=h.cons_inv
  cases e
  exact ⟨v,rfl,h1⟩
 | c::ds,vs,i+1,d,h,e=>by
  obtain ⟨v,r,rfl,h1,h2⟩:=h.cons_inv
  obtain ⟨u,a,b⟩:=h2.get (i:=i) (d:=d) (by simpa using e)
  exact ⟨u,by simpa using a,b⟩
theorem Reps.get' {W:Wd} {ds:List D} {vs:List V} {i:Nat} {v:V} (h:Reps W ds vs) (e:vs[i]?=some v):∃ d,ds[i]?=some d/\Rep W d v:=by
 have hi:i<ds.length:=by
  have:=h.len
  have:=(List.getElem?_eq_some_iff.mp e).1
  lia
 obtain ⟨u,a,b⟩:=h.get (List.getElem?_eq_getElem hi)
 rw[e] at a
 cases a
 exact ⟨_,List.getElem?_eq_getElem hi,b⟩
theorem Reps.take {W:Wd}:∀ {ds:List D} {vs:List V} (n:Nat),Reps W ds vs->Reps W (ds.take n) (vs.take n)
 | [],vs,n,h=>by rw[h.nil_inv];simp;exact .nil
 | d::ds,vs,0,h=>by simp;exact .nil
 | d::ds,vs,n+1,h=>by
  obtain ⟨v,r,rfl,h1,h2⟩:=h.cons_inv
  exact .cons h1 (h2.take n)
theorem Reps.drop {W:Wd}:∀ {ds:List D} {vs:List V} (n:Nat),Reps W ds vs->Reps W (ds.drop n) (vs.drop n)
 | [],vs,n,h=>by rw[h.nil_inv];simp;exact .nil
 | d::ds,vs,0,h=>h
 | d::ds,vs,n+1,h=>by
  obtain ⟨v,r,rfl,h1,h2⟩:=h.cons_inv
  exact h2.drop n
theorem Reps.reverse {W:Wd}:∀ {ds:List D} {vs:List V},Reps W ds vs->Reps W ds.reverse vs.reverse
 | [],vs,h=>by rw[h.nil_inv];exact .nil
 | d::ds,vs,h=>by
  obtain ⟨v,r,rfl,h1,h2⟩:=h.cons_inv
  rw[List.reverse_cons,List.reverse_cons]
  exact h2.reverse.append (.cons h1 .nil)
theorem Reps.ints {W:Wd}:∀ {ns:List Int} {vs:List V},Reps W (ns.map D.int) vs->vs=ns.map V.int
 | [],vs,h=>h.nil_inv
 | n::ns,vs,h=>by
  obtain ⟨v,r,rfl,h1,h2⟩:=Reps.cons_inv (d:=D.int n) (ds:=ns.map D.int) h
  unfold Rep at h1
  rw[h1,h2.ints]
  rfl
theorem Reps.of_ints {W:Wd}:∀ {ns:List Int},Reps W (ns.map D.int) (ns.map V.int)
 | []=>.nil
 | n::ns=>.cons (by unfold Rep;rfl) Reps.of_ints
abbrev Gm:=List (Option (List D))
structure DS where
 σ:List (Option SV)
 Γ:Gm
 lo:Nat
structure Fr where
 K:PySem.W.Frag
 H₀:Hp
 F:Addr->Prop
 L:Addr->Prop
 sub:∀ a,L a->F a
 dom:∀ a,F a->H₀ a≠none
def Ah (Γ:Gm) (α:Nat->Addr) (a:Addr):Prop:=∃ (n:Nat) (xs:List D),Γ[n]?=some (some xs)/\α n=a
abbrev wd (f:Fr) (α:Nat->Addr) (Γ:Gm) (H:Hp):Wd:=⟨f.K,fun a=>f.F a\/Ah Γ α a,H⟩
def RepV (f:Fr) (α:Nat->Addr) (Γ:Gm) (H:Hp):SV->V->Prop
 | .v d,v=>Rep (wd f α Γ H) d v
 | .b n,v=>n<Γ.length/\v=.ref (α n)
 | .p n d,v=>n<Γ.length/\∃ a w,v=.ref a/\¬(f.F a\/Ah Γ α a)/\H a=some (.tup [.ref (α n),w])/\Rep (wd f α Γ H) d w
structure RS (f:Fr) (α:Nat->Addr) (s:DS) (σ:St) (H:Hp):Prop where
 len:s.σ.length=σ.length
 slot:∀ (i:Nat) (d:SV),s.σ[i]?=some (some d)->∃ v,σ[i]?=some (some v)/\RepV f α s.Γ H d v
 box:∀ (n:Nat) (xs:List D),s.Γ[n]?=some (some xs)->∃ vs,H (α n)=some (.lst vs)/\Reps (wd f α s.Γ H) xs vs
 own:∀ (n:Nat) (xs:List D),s.Γ[n]?=some (some xs)->if n<s.lo then f.L (α n) else f.H₀ (α n)=none
 inj:∀ (n m:Nat) (xs ys:List D),s.Γ[n]?=some (some xs)->s.Γ[m]?=some (some ys)->α n=α m->n=m
 fr:∀ (b:Addr) (o:HO),f.H₀ b=some o->¬f.L b->H b=some o
 forb:∀ a,f.F a->H a≠none
structure Ext (f:Fr) (α α':Nat->Addr) (Γ Γ':Gm) (H H':Hp):Prop where
 kw:Kw (wd f α Γ H) (wd f α' Γ' H')
 m:Γ.length<=Γ'.length
 al:∀ n,n<Γ.length->α' n=α n
 lv:∀ (n:Nat) (xs:List D),n<Γ.length->Γ'[n]?=some (some xs)->∃ ys,Γ[n]?=some (some ys)
section
variable {f:Fr} {α α' α'':Nat->Addr} {Γ Γ' Γ'':Gm} {H H' H'':Hp} {s s':DS} {σ σ':St}
theorem Ext.refl:Ext f α α Γ Γ H H:=⟨.refl _,Nat.le_refl _,fun _ _=>rfl,fun _ xs _ e=>⟨xs,e⟩⟩
theorem Ext.trans (a:Ext f α α' Γ Γ' H H') (b:Ext f α' α'' Γ' Γ'' H' H''):Ext f α α'' Γ Γ'' H H'':=
 ⟨a.kw.trans b.kw,Nat.le_trans a.m b.m,fun n h=>(b.al n (Nat.lt_of_lt_of_le h a.m)).trans (a.al n h),fun n xs h e=>let ⟨ys,e'⟩:=b.lv n xs (Nat.lt_of_lt_of_le h a.m) e;a.lv n ys h e'⟩
theorem RepV.ext (e:Ext f α α' Γ Γ' H H'):∀ {d:SV} {v:V},RepV f α Γ H d v->RepV f α' Γ' H' d v
 | .v d,v,h=>Rep.kw e.kw (show Rep (wd f α Γ H) d v from h)
 | .b n,v,h=>⟨Nat.lt_of_lt_of_le h.1 e.m,by rw[e.al n h.1];exact h.2⟩
 | .p n d,v,⟨h,a,w,h1,h2,h3,h4⟩=>⟨Nat.lt_of_lt_of_le h e.m,a,w,h1,(e.kw.keep a _ h2 h3).2,by rw[e.al n h];exact (e.kw.keep a _ h2 h3).1,h4.kw e.kw⟩
theorem RS.live (r:RS f α s σ H) {a:Addr} (h:Ah s.Γ α a):H a≠none:=by
 obtain ⟨n,xs,e,rfl⟩:=h
 obtain ⟨vs,h,_⟩:=r.box n xs e
 rw[h]
 exact fun z=>nomatch z
theorem RS.fresh (r:RS f α s σ H) {a:Addr} (h:H a=none):¬(f.F a\/Ah s.Γ α a):=fun z=>by
 rcases z with z | z
 ·exact r.forb a z h
 ·exact r.live z h
theorem RS.fresh0 (r:RS f α s σ H) {a:Addr} (h:H a=none):f.H₀ a=none:=by
 cases e:f.H₀ a with
 | none=>rfl
 | some o=>
  by_cases c:f.L a
  ·exact absurd h (r.forb a (f.sub a c))
  ·rw[r.fr a o e c] at h
   cases h
theorem Ext.new (r:RS f α s σ H) {p:Addr} {o:HO} (h:H p=none):Ext f α α s.Γ s.Γ H (upd H p o):=
 ⟨⟨rfl,fun a u n e=>⟨by show upd H p o a=some u;rw[AH (BC e h)];exact e,n⟩⟩,Nat.le_refl _,fun _ _=>rfl,fun _ xs _ e=>⟨xs,e⟩⟩
theorem RS.mv (r:RS f α s σ H) (e:Ext f α α s.Γ s.Γ H H') (k:∀ b o,H b=some o->H' b=some o):RS f α s σ H' where
 len:=r.len
 slot:=fun i d h=>let ⟨v,a,b⟩:=r.slot i d h;⟨v,a,b.ext e⟩
 box:=fun n xs h=>let ⟨vs,a,b⟩:=r.box n xs h;⟨vs,k _ _ a,b.kw e.kw⟩
 own:=r.own
 inj:=r.inj
 fr:=fun b o h n=>k _ _ (r.fr b o h n)
 forb:=fun a h=>by
  cases e:H a with
  | none=>exact absurd e (r.forb a h)
  | some o=>rw[k _ _ e];exact fun z=>nomatch z
theorem RS.new (r:RS f α s σ H) {p:Addr} {o:HO} (h:H p=none):RS f α s σ (upd H p o):=
 r.mv (.new r h) fun b u e=>by rw[AH (BC e h)];exact e
theorem RS.set (r:RS f α s σ H) {i:Nat} {d:SV} {v:V} (h:RepV f α s.Γ H d v):RS f α {s with σ:=s.σ.set i (some d)} (σ.set i (some v)) H where
 len:=by rw[List.length_set,List.length_set];exact r.len
 slot:=fun j c e=>by
  have e:(s.σ.set i (some d))[j]?=some (some c):=e
  rw[List.getElem?_set] at e
  rw[List.getElem?_set]
  by_cases hij:i=j
  ·rw[if_pos hij] at e ⊢
   by_cases hl:i<s.σ.length
   ·rw[if_pos hl] at e
    cases e
    rw[if_pos (by rw[<-r.len];exact hl)]
    exact ⟨v,rfl,h⟩
   ·rw[if_neg hl] at e
    cases e
  ·rw[if_neg hij] at e ⊢
   exact r.slot j c e
 box:=r.box
 own:=r.own
 inj:=r.inj
 fr:=r.fr
 forb:=r.forb
theorem Ext.put {n:Nat} {xs ys:List D} {o:HO} (hn:Γ[n]?=some (some xs)):Ext f α α Γ (Γ.set n (some ys)) H (upd H (α n) o) where
 kw:=⟨rfl,fun a u h e=>by
  have na:a≠α n:=fun z=>h (.inr ⟨n,xs,hn,z.symm⟩)
  refine ⟨by show upd H (α n) o a=some u;rw[AH na];exact e,fun z=>?_⟩
  rcases z with z | ⟨m,zs,e1,e2⟩
  ·exact h (.inl z)
  ·rw[List.getElem?_set] at e1
   by_cases hm:n=m
   ·subst hm
    exact na e2.symm
   ·rw[if_neg hm] at e1
    exact h (.inr ⟨m,zs,e1,e2⟩)⟩
 m:=by rw[List.length_set];exact Nat.le_refl _
 al:=fun _ _=>rfl
 lv:=fun m zs _ e=>by
  rw[List.getElem?_set] at e
  by_cases hm:n=m
  ·subst hm;exact ⟨xs,hn⟩
  ·rw[if_neg hm] at e;exact ⟨zs,e⟩
theorem D1 {n:Nat} {xs:List D} {y:Option (List D)} {m:Nat} {z:Option (List D)} (hn:Γ[n]?=some (some xs)) (h:(Γ.set n y)[m]?=some z):(m=n/\z=y)\/(m≠n/\Γ[m]?=some z):=by
 rw[List.getElem?_set] at h
 by_cases hm:n=m
 ·rw[if_pos hm] at h
  subst hm
  rw[if_pos (List.getElem?_eq_some_iff.mp hn).1] at h
  cases h
  exact .inl ⟨rfl,rfl⟩
 ·rw[if_neg hm] at h
  exact .inr ⟨fun z=>hm z.symm,h⟩
theorem RS.put (r:RS f α s σ H) {n:Nat} {xs ys:List D} {vs:List V} (hn:s.Γ[n]?=some (some xs)) (h:Reps (wd f α s.Γ H) ys vs) :
  RS f α {s with Γ:=s.Γ.set n (some ys)} σ (upd H (α n) (.lst vs)):=by
 have e:Ext f α α s.Γ (s.Γ.set n (some ys)) H (upd H (α n) (.lst vs)):=.put hn
 refine ⟨r.len,fun i d h=>let ⟨v,a,b⟩:=r.slot i d h;⟨v,a,b.ext e⟩,fun m zs hm=>?_,fun m zs hm=>?_,fun m k zs us hm hk q=>?_,fun b o h1 h2=>?_,fun a h1=>?_⟩
 ·rcases D1 hn hm with ⟨rfl,z⟩ | ⟨hne,hm⟩
  ·cases z
   exact ⟨vs,Ak,h.kw e.kw⟩
  ·obtain ⟨us,a,b⟩:=r.box m zs hm
   exact ⟨us,by rw[AH (fun z=>hne (r.inj m n _ _ hm hn z))];exact a,b.kw e.kw⟩
 ·rcases D1 hn hm with ⟨rfl,z⟩ | ⟨hne,hm⟩
  ·exact r.own _ _ hn
  ·exact r.own _ _ hm
 ·have g:∀ {m zs},(s.Γ.set n (some ys))[m]?=some (some zs)->∃ ws,s.Γ[m]?=some (some ws):=fun {m zs} hm=>by
   rcases D1 hn hm with ⟨rfl,z⟩ | ⟨hne,hm⟩
   ·exact ⟨_,hn⟩
   ·exact ⟨_,hm⟩
  obtain ⟨_,g1⟩:=g hm
  obtain ⟨_,g2⟩:=g hk
  exact r.inj _ _ _ _ g1 g2 q
 ·have hb:=r.fr b o h1 h2
  rw[AH ?_]
  ·exact hb
  ·intro z
   have ow:=r.own n xs hn
   split at ow
   ·exact h2 (z▸ow)
   ·rw[<-z,h1] at ow;cases ow
 ·by_cases z:a=α n
  ·rw[z,Ak];exact fun z=>nomatch z
  ·rw[AH z];exact r.forb a h1
def Br (α:Nat->Addr) (n:Nat) (a:Addr):Nat->Addr:=fun k=>if k=n then a else α k
theorem Ext.add (r:RS f α s σ H) {a:Addr} {xs:List D} {o:HO} (h:H a=none):Ext f α (Br α s.Γ.length a) s.Γ (s.Γ++[some xs]) H (upd H a o) where
 kw:=⟨rfl,fun b u n e=>by
  have nb:b≠a:=BC e h
  refine ⟨by show upd H a o b=some u;rw[AH nb];exact e,fun z=>?_⟩
  rcases z with z | ⟨m,zs,e1,e2⟩
  ·exact n (.inl z)
  ·by_cases hm:m<s.Γ.length
   ·rw[List.getElem?_append_left hm] at e1
    have e2:Br α s.Γ.length a m=b:=e2
    unfold Br at e2
    rw[if_neg (Nat.ne_of_lt hm)] at e2
    exact n (.inr ⟨m,zs,e1,e2⟩)
   ·have:m=s.Γ.length:=by
     have:=(List.getElem?_eq_some_iff.mp e1).1
     rw[List.length_append] at this
     simp at this
     lia
    subst this
    have e2:Br α s.Γ.length a s.Γ.length=b:=e2
    unfold Br at e2
    rw[if_pos rfl] at e2
    exact nb e2.symm⟩
 m:=by rw[List.length_append];lia
 al:=fun n h=>by unfold Br;rw[if_neg (Nat.ne_of_lt h)]
 lv:=fun n zs h e=>by rw[List.getElem?_append_left h] at e;exact ⟨zs,e⟩
theorem RS.add (r:RS f α s σ H) (hlo:s.lo<=s.Γ.length) {a:Addr} {xs:List D} {vs:List V} (h:H a=none) (hx:Reps (wd f α s.Γ H) xs vs) :
  RS f (Br α s.Γ.length a) {s with Γ:=s.Γ++[some xs]} σ (upd H a (.lst vs)):=by
 have e:Ext f α (Br α s.Γ.length a) s.Γ (s.Γ++[some xs]) H (upd H a (.lst vs)):=.add r h
 have old:∀ {m zs},(s.Γ++[some xs])[m]?=some (some zs)->(m<s.Γ.length/\s.Γ[m]?=some (some zs)/\Br α s.Γ.length a m=α m)\/(m=s.Γ.length/\zs=xs/\Br α s.Γ.length a m=a):=fun {m zs} hm=>by
  by_cases c:m<s.Γ.length
  ·rw[List.getElem?_append_left c] at hm
   exact .inl ⟨c,hm,e.al m c⟩
  ·have hl:=(List.getElem?_eq_some_iff.mp hm).1
   rw[List.length_append] at hl
   simp at hl
   have:m=s.Γ.length:=by lia
   subst this
   rw[List.getElem?_append_right (Nat.le_refl _)] at hm
   simp at hm
   exact .inr ⟨rfl,hm.symm,by unfold Br;rw[if_pos rfl]⟩
 refine ⟨r.len,fun i d h=>let ⟨v,a,b⟩:=r.slot i d h;⟨v,a,b.ext e⟩,fun m zs hm=>?_,fun m zs hm=>?_,fun m k zs us hm hk q=>?_,fun b o h1 h2=>?_,fun b h1=>?_⟩
 ·rcases old hm with ⟨c,g,z⟩ | ⟨c,rfl,z⟩
  ·obtain ⟨us,g1,g2⟩:=r.box m zs g
   refine ⟨us,?_,g2.kw e.kw⟩
   rw[z,AH (BC g1 h)]
   exact g1
  ·exact ⟨vs,by rw[z,Ak],hx.kw e.kw⟩
 ·rcases old hm with ⟨c,g,z⟩ | ⟨c,_,z⟩
  ·rw[z];exact r.own m zs g
  ·rw[z,if_neg (by show ¬m<s.lo;lia)];exact r.fresh0 h
 ·rcases old hm with ⟨c,g,z⟩ | ⟨c,_,z⟩<;>rcases old hk with ⟨c',g',z'⟩ | ⟨c',_,z'⟩
  ·rw[z,z'] at q;exact r.inj _ _ _ _ g g' q
  ·rw[z,z'] at q
   obtain ⟨us,g1,_⟩:=r.box m _ g
   rw[q,h] at g1;cases g1
  ·rw[z,z'] at q
   obtain ⟨us,g1,_⟩:=r.box k _ g'
   rw[<-q,h] at g1;cases g1
  ·rw[c,c']
 ·have hb:=r.fr b o h1 h2
  rw[AH (BC hb h)]
  exact hb
 ·by_cases z:b=a
  ·rw[z,Ak];exact fun z=>nomatch z
  ·rw[AH z];exact r.forb b h1
end
end DL
namespace DL
open PySem L2
abbrev ME:=DS->Option (SV×DS)
abbrev MF:=DS->Option (List D×DS)
abbrev MT:=DS->Option (Bool×DS)
abbrev MA:=DS->Option (List SV×DS)
def RepVs (f:Fr) (α:Nat->Addr) (Γ:Gm) (H:Hp):List SV->List V->Prop
 | [],vs=>vs=[]
 | d::ds,vs=>∃ v r,vs=v::r/\RepV f α Γ H d v/\RepVs f α Γ H ds r
def tD (f:Fr) (m:ME):TE:=fun σ H Q=>∃ α s r,RS f α s σ H/\s.lo<=s.Γ.length/\m s=some r/\∀ α' v H',RS f α' r.2 σ H'->r.2.lo=s.lo->Ext f α α' s.Γ r.2.Γ H H'->RepV f α' r.2.Γ H' r.1 v->Q v H'
def tDF (f:Fr) (m:MF):TE:=fun σ H Q=>∃ α s r,RS f α s σ H/\s.lo<=s.Γ.length/\m s=some r/\∀ α' a vs H',RS f α' r.2 σ H'->r.2.lo=s.lo->Ext f α α' s.Γ r.2.Γ H H'->H' a=none->Reps (wd f α' r.2.Γ H') r.1 vs->Q (.ref a) (upd H' a (.lst vs))
def tDT (f:Fr) (m:MT):TT:=fun σ H Q=>∃ α s r,RS f α s σ H/\s.lo<=s.Γ.length/\m s=some r/\∀ α' H',RS f α' r.2 σ H'->r.2.lo=s.lo->Ext f α α' s.Γ r.2.Γ H H'->Q r.1 H'
def tDA (f:Fr) (m:MA):TA:=fun σ H Q=>∃ α s r,RS f α s σ H/\s.lo<=s.Γ.length/\m s=some r/\∀ α' vs H',RS f α' r.2 σ H'->r.2.lo=s.lo->Ext f α α' s.Γ r.2.Γ H H'->RepVs f α' r.2.Γ H' r.1 vs->Q vs H'
def DE (X:Cx) (e:Expr) (m:ME):Prop:=∀ f:Fr,f.K=X.K->PE X e (tD f m)
def DF (X:Cx) (e:Expr) (m:MF):Prop:=∀ f:Fr,f.K=X.K->PE X e (tDF f m)
def DT (X:Cx) (e:Expr) (m:MT):Prop:=∀ f:Fr,f.K=X.K->PT X e (tDT f m)
def DW (X:Cx) (e:Expr) (m:MT):Prop:=∀ f:Fr,f.K=X.K->PW X e (tDT f m)
def DA (X:Cx) (es:List Expr) (m:MA):Prop:=∀ f:Fr,f.K=X.K->PA X es (tDA f m)
section
variable {X:Cx} {e a b c:Expr} {t t':TE} {pos:Pos}
theorem PE.imp (h:PE X e t) (k:∀ σ H Q,t' σ H Q->t σ H Q):PE X e t':=fun pins s σ H Q I q=>h pins s σ H Q I (k _ _ _ q)
theorem PT.imp {t t':TT} (h:PT X e t) (k:∀ σ H Q,t' σ H Q->t σ H Q):PT X e t':=fun pins s σ H Q I q=>h pins s σ H Q I (k _ _ _ q)
theorem PW.imp {t t':TT} (h:PW X e t) (k:∀ σ H Q,t' σ H Q->t σ H Q):PW X e t':=fun wh pins s σ H Q I q=>h wh pins s σ H Q I (k _ _ _ q)
theorem PA.imp {es:List Expr} {t t':TA} (h:PA X es t) (k:∀ σ H Q,t' σ H Q->t σ H Q):PA X es t':=fun pos pins s σ H Q I q=>h pos pins s σ H Q I (k _ _ _ q)
@[simp] def AA (i:Nat):ME:=fun s=>match s.σ[i]? with
 | some (some d)=>some (d,s)
 | _=>none
theorem AD {i:Nat} {x:Str} (h:PE X (.Name x pos) (FZ i)):DE X (.Name x pos) (AA i):=fun f hf=>PE.imp h fun σ H Q hh_=>by
 obtain ⟨α,s,r,rs,lo,e,q⟩:=hh_
 unfold AA at e
 split at e
 ·rename_i d hd
  cases e
  obtain ⟨v,h1,h2⟩:=rs.slot i d hd
  exact ⟨v,h1,q α v H rs rfl .refl h2⟩
 ·cases e
@[simp] def EJ (i:Nat):MF:=fun s=>match s.σ[i]? with
 | some (some (.b n))=>match s.Γ[n]? with
  | some (some xs)=>if s.lo<=n then some (xs,{s with σ:=s.σ.set i none,Γ:=s.Γ.set n none}) else none
  | _=>none
 | _=>none
@[simp] def mC (d:D):ME:=fun s=>some (.v d,s)
theorem Eh {d:D} {v:V} (h:PE X e (tC v)) (r:∀ W,Rep W d v):DE X e (mC d):=fun f hf=>PE.imp h fun σ H Q hh_=>by
 obtain ⟨α,s,r',rs,lo,e,q⟩:=hh_
 cases e
 exact q α v H rs rfl .refl (r _)
theorem AF {i j}:DE X (.Constant (.int i) j pos) (mC (.int i)):=Eh Hk fun W=>by unfold Rep;rfl
theorem CQ {i j}:DE X (.Constant (.bool i) j pos) (mC (.bl i)):=Eh SU fun W=>by unfold Rep;rfl
theorem As {i j}:DE X (.Constant (.str i) j pos) (mC (.str i)):=Eh PQ fun W=>by unfold Rep;rfl
theorem ES {f:Fr} {α:Nat->Addr} {s:DS} {σ:St} {H:Hp} {p:Addr} {xs:List D} {vs:List V} (r:RS f α s σ H) (h:H p=none) (hx:Reps (wd f α s.Γ H) xs vs):Rep (wd f α s.Γ (upd H p (.lst vs))) (.lst xs) (.ref p):=by
 unfold Rep
 exact ⟨p,vs,rfl,r.fresh h,Ak,hx.kw (Ext.new r h).kw⟩
theorem HA {f:Fr} {α:Nat->Addr} {s:DS} {σ:St} {H:Hp} {p:Addr} {xs:List D} {vs:List V} (r:RS f α s σ H) (h:H p=none) (hx:Reps (wd f α s.Γ H) xs vs):Rep (wd f α s.Γ (upd H p (.tup vs))) (.tup xs) (.ref p):=by
 unfold Rep
 exact ⟨p,vs,rfl,r.fresh h,Ak,hx.kw (Ext.new r h).kw⟩
@[simp] def AK (m:MF):ME:=fun s=>(m s).map fun r=>(.v (.lst r.1),r.2)
theorem An {m:MF} (h:DF X e m):DE X e (AK m):=fun f hf=>PE.imp (h f hf) fun σ H Q hh_=>by
 obtain ⟨α,s,r,rs,lo,e,q⟩:=hh_
 unfold AK at e
 cases hm:m s with
 | none=>rw[hm] at e;cases e
 | some r'=>
  rw[hm] at e
  cases e
  exact ⟨α,s,r',rs,lo,hm,fun α' p vs H' rs' l' ex hp hx=>q α' _ _ (rs'.new hp) l' (ex.trans (.new rs' hp)) (ES rs' hp hx)⟩
@[simp] def AC:MA:=fun s=>some ([],s)
@[simp] def AB (m:ME) (ms:MA):MA:=fun s=>(m s).bind fun r=>(ms r.2).map fun q=>(r.1::q.1,q.2)
theorem RepVs.nil {f:Fr} {α:Nat->Addr} {Γ:Gm} {H:Hp}:RepVs f α Γ H [] []:=by unfold RepVs;rfl
theorem RepVs.cons {f:Fr} {α:Nat->Addr} {Γ:Gm} {H:Hp} {d:SV} {v:V} {ds:List SV} {vs:List V} (h:RepV f α Γ H d v) (t:RepVs f α Γ H ds vs):RepVs f α Γ H (d::ds) (v::vs):=by unfold RepVs;exact ⟨v,vs,rfl,h,t⟩
theorem RepVs.cons_inv {f:Fr} {α:Nat->Addr} {Γ:Gm} {H:Hp} {d:SV} {ds:List SV} {vs:List V} (h:RepVs f α Γ H (d::ds) vs):∃ v r,vs=v::r/\RepV f α Γ H d v/\RepVs f α Γ H ds r:=by unfold RepVs at h;exact h
theorem RepVs.nil_inv {f:Fr} {α:Nat->Addr} {Γ:Gm} {H:Hp} {vs:List V} (h:RepVs f α Γ H [] vs):vs=[]:=by unfold RepVs at h;exact h
theorem RepVs.len {f:Fr} {α:Nat->Addr} {Γ:Gm} {H:Hp}:∀ {ds:List SV} {vs:List V},RepVs f α Γ H ds vs->vs.length=ds.length
 | [],vs,h=>by rw[h.nil_inv];rfl
 | d::ds,vs,h=>by
  obtain ⟨v,r,rfl,_,h2⟩:=h.cons_inv
  rw[List.length_cons,List.length_cons,h2.len]
theorem AG:DA X [] AC:=fun f hf=>PA.imp BS fun σ H Q hh_=>by
 obtain ⟨α,s,r,rs,lo,e,q⟩:=hh_
 cases e
 exact q α [] H rs rfl .refl .nil
theorem AE {es:List Expr} {m:ME} {ms:MA} (h:DE X e m) (hs:DA X es ms) (hst:starEach (e::es) X.env=(false,eval e X.env)::starEach es X.env:=by rfl):DA X (e::es) (AB m ms):=fun f hf=>
 PA.imp (Az (h f hf) (hs f hf) hst) fun σ H Q hh_=>by
  obtain ⟨α,s,r,rs,lo,e,q⟩:=hh_
  unfold AB at e
  cases h1:m s with
  | none=>rw[h1] at e;cases e
  | some r1=>
   rw[h1] at e
   cases h2:ms r1.2 with
   | none=>simp[h2] at e
   | some r2=>
    simp[h2] at e
    subst e
    refine ⟨α,s,r1,rs,lo,h1,fun α1 v H1 rs1 l1 e1 hv=>⟨α1,r1.2,r2,rs1,by rw[l1];exact Nat.le_trans lo e1.m,h2,fun α2 vs H2 rs2 l2 e2 hvs=>?_⟩⟩
    exact q α2 _ H2 rs2 (l2.trans l1) (e1.trans e2) (.cons (hv.ext e2) hvs)
@[simp] def trees:List SV->Option (List D)
 | []=>some []
 | .v d::r=>(trees r).map (d::·)
 | _=>none
theorem JA {f:Fr} {α:Nat->Addr} {Γ:Gm} {H:Hp}:∀ {ds:List SV} {xs:List D} {vs:List V},trees ds=some xs->RepVs f α Γ H ds vs->Reps (wd f α Γ H) xs vs
 | [],xs,vs,e,h=>by cases e;rw[h.nil_inv];exact .nil
 | .v d::r,xs,vs,e,h=>by
  obtain ⟨v,q,rfl,h1,h2⟩:=h.cons_inv
  unfold trees at e
  cases ht:trees r with
  | none=>rw[ht] at e;cases e
  | some ys=>
   rw[ht] at e
   cases e
   exact .cons h1 (JA ht h2)
 | .b n::r,xs,vs,e,h=>by unfold trees at e;cases e
 | .p n d::r,xs,vs,e,h=>by unfold trees at e;cases e
def big:Nat:=1000000
theorem Ca {n:Nat} (h:n<=big):n<=sizeLine:=Ev.small h
theorem FA {n:Nat} (h:n<=big):n<sizeLine:=Ev.GC h
@[simp] def A3 (ms:MA):MF:=fun s=>(ms s).bind fun r=>(trees r.1).bind fun xs=>if xs.length<=big then some (xs,r.2) else none
@[simp] def CJ (ms:MA):ME:=fun s=>(ms s).bind fun r=>(trees r.1).bind fun xs=>if xs.length<=big then some (.v (.tup xs),r.2) else none
theorem bind_some {α β:Type} {o:Option α} {g:α->Option β} {z:β} (h:o.bind g=some z):∃ y,o=some y/\g y=some z:=by
 cases o with
 | none=>cases h
 | some y=>exact ⟨y,rfl,h⟩
theorem Ab {α β:Type} {o:Option α} {g:α->β} {z:β} (h:o.map g=some z):∃ y,o=some y/\g y=z:=by
 cases o with
 | none=>cases h
 | some y=>exact ⟨y,rfl,Option.some.inj h⟩
theorem B7 {es:List Expr} {ms:MA} (h:DA X es ms):DF X (.List es pos) (A3 ms):=fun f hf=>PE.imp (Ki (h f hf)) fun σ H Q hh_=>by
 obtain ⟨α,s,r,rs,lo,e,q⟩:=hh_
 obtain ⟨r1,h1,e⟩:=bind_some e
 obtain ⟨xs,h2,e⟩:=bind_some e
 split at e
 ·rename_i hz
  cases e
  refine ⟨α,s,r1,rs,lo,h1,fun α1 vs H1 rs1 l1 e1 hvs=>?_⟩
  have hx:=JA h2 hvs
  have hz':vs.length<=sizeLine:=by rw[hx.len];exact Ca hz
  exact ⟨hz',fun p hp=>q α1 p vs H1 rs1 l1 e1 hp hx⟩
 ·cases e
theorem FC {es:List Expr} {ms:MA} {k} (h:DA X es ms):DE X (.Tuple es k pos) (CJ ms):=fun f hf=>PE.imp (Gp (h f hf)) fun σ H Q hh_=>by
 obtain ⟨α,s,r,rs,lo,e,q⟩:=hh_
 obtain ⟨r1,h1,e⟩:=bind_some e
 obtain ⟨xs,h2,e⟩:=bind_some e
 split at e
 ·rename_i hz
  cases e
  refine ⟨α,s,r1,rs,lo,h1,fun α1 vs H1 rs1 l1 e1 hvs=>?_⟩
  have hx:=JA h2 hvs
  exact ⟨by rw[hx.len];exact Ca hz,fun p hp=>q α1 _ _ (rs1.new hp) l1 (e1.trans (.new rs1 hp)) (HA rs1 hp hx)⟩
 ·cases e
def OpD (X:Cx) (g:Gm->SV->SV->Option D) (r:R2):Prop:=∀ (f:Fr) (α:Nat->Addr) (s:DS) (σ:St) (H:Hp) (x y:SV) (u v:V) (z:D) (Q:VK),f.K=X.K->RS f α s σ H->RepV f α s.Γ H x u->RepV f α s.Γ H y v->g s.Γ x y=some z ->
 (∀ w H',RS f α s σ H'->Ext f α α s.Γ s.Γ H H'->Rep (wd f α s.Γ H') z w->Q w H')->r u v H Q
def OpF (X:Cx) (g:Gm->SV->SV->Option (List D)) (r:R2):Prop:=∀ (f:Fr) (α:Nat->Addr) (s:DS) (σ:St) (H:Hp) (x y:SV) (u v:V) (z:List D) (Q:VK),f.K=X.K->RS f α s σ H->RepV f α s.Γ H x u->RepV f α s.Γ H y v->g s.Γ x y=some z ->
 (∀ a vs,H a=none->Reps (wd f α s.Γ H) z vs->Q (.ref a) (upd H a (.lst vs)))->r u v H Q
@[simp] def mOp (g:Gm->SV->SV->Option D) (ma mb:ME):ME:=fun s=>(ma s).bind fun x=>(mb x.2).bind fun y=>(g y.2.Γ x.1 y.1).map fun z=>(.v z,y.2)
@[simp] def C1 (g:Gm->SV->SV->Option (List D)) (ma mb:ME):MF:=fun s=>(ma s).bind fun x=>(mb x.2).bind fun y=>(g y.2.Γ x.1 y.1).map fun z=>(z,y.2)
variable {g:Gm->SV->SV->Option D} {gF:Gm->SV->SV->Option (List D)} {r:R2} {ma mb mc:ME}
theorem FM {f:Fr} {σ:St} {H:Hp} {Q:VK} (hf:f.K=X.K) (hg:OpD X g r) (h:tD f (mOp g ma mb) σ H Q):tOp r (tD f ma) (tD f mb) σ H Q:=by
 obtain ⟨α,s,r',rs,lo,e,q⟩:=h
 obtain ⟨x,h1,e⟩:=bind_some e
 obtain ⟨y,h2,e⟩:=bind_some e
 obtain ⟨z,h3,rfl⟩:=Ab e
 refine ⟨α,s,x,rs,lo,h1,fun α1 u H1 rs1 l1 e1 hu=>⟨α1,x.2,y,rs1,by rw[l1];exact Nat.le_trans lo e1.m,h2,fun α2 v H2 rs2 l2 e2 hv=>?_⟩⟩
 exact hg f α2 y.2 σ H2 x.1 y.1 u v z Q hf rs2 (hu.ext e2) hv h3 fun w H3 rs3 e3 hw=>q α2 w H3 rs3 (l2.trans l1) ((e1.trans e2).trans e3) hw
theorem Ox {f:Fr} {σ:St} {H:Hp} {Q:VK} (hf:f.K=X.K) (hg:OpF X gF r) (h:tDF f (C1 gF ma mb) σ H Q):tOp r (tD f ma) (tD f mb) σ H Q:=by
 obtain ⟨α,s,r',rs,lo,e,q⟩:=h
 obtain ⟨x,h1,e⟩:=bind_some e
 obtain ⟨y,h2,e⟩:=bind_some e
 obtain ⟨z,h3,rfl⟩:=Ab e
 refine ⟨α,s,x,rs,lo,h1,fun α1 u H1 rs1 l1 e1 hu=>⟨α1,x.2,y,rs1,by rw[l1];exact Nat.le_trans lo e1.m,h2,fun α2 v H2 rs2 l2 e2 hv=>?_⟩⟩
 exact hg f α2 y.2 σ H2 x.1 y.1 u v z Q hf rs2 (hu.ext e2) hv h3 fun a vs ha hx=>q α2 a vs H2 rs2 (l2.trans l1) (e1.trans e2) ha hx
theorem D3 {op:Operator} (ho:OpR X (binaryOp op) r) (hg:OpD X g r) (ha:DE X a ma) (hb:DE X b mb):DE X (.BinOp a op b pos) (mOp g ma mb):=fun f hf=>PE.imp (KH ho (ha f hf) (hb f hf)) fun σ H Q h=>FM hf hg h
theorem SK {op:Operator} (ho:OpR X (binaryOp op) r) (hg:OpF X gF r) (ha:DE X a ma) (hb:DE X b mb):DF X (.BinOp a op b pos) (C1 gF ma mb):=fun f hf=>PE.imp (KH ho (ha f hf) (hb f hf)) fun σ H Q h=>Ox hf hg h
theorem Qp (ho:IxR X r) (hg:OpD X g r) (ha:DE X a ma) (hb:DE X b mb) (hs:HV b):DE X (.Subscript a b pos) (mOp g ma mb):=fun f hf=>PE.imp (B6 ho (ha f hf) (hb f hf) hs) fun σ H Q h=>FM hf hg h
theorem NO {op:CmpOp} (ho:OpR X (compareOp op) r) (hg:OpD X g r) (ha:DE X a ma) (hb:DE X b mb) (hm:behindInMarks op b=false):DE X (.Compare a [op] [b] pos) (mOp g ma mb):=fun f hf=>PE.imp (TX ho (ha f hf) (hb f hf) hm) fun σ H Q h=>FM hf hg h
@[simp] def Dz:SV->Option Bool
 | .v (.bl b)=>some b
 | _=>none
@[simp] def AO (m:ME):MT:=fun s=>(m s).bind fun x=>(Dz x.1).map fun b=>(b,x.2)
theorem HB {f:Fr} {α:Nat->Addr} {Γ:Gm} {H:Hp} {d:SV} {b:Bool} {v:V} (h:Dz d=some b) (r:RepV f α Γ H d v):v=.bl b:=by
 unfold Dz at h
 split at h
 ·cases h
  have r:Rep (wd f α Γ H) (.bl b) v:=r
  unfold Rep at r
  exact r
 ·cases h
theorem Dx {op:CmpOp} (ho:OpR X (compareOp op) r) (hg:OpD X g r) (ha:DE X a ma) (hb:DE X b mb) (hm:behindInMarks op b=false):DT X (.Compare a [op] [b] pos) (AO (mOp g ma mb)):=fun f hf=>PT.imp (VI ho (ha f hf) (hb f hf) hm) fun σ H Q hh_=>by
 obtain ⟨α,s,r',rs,lo,e,q⟩:=hh_
 obtain ⟨x,h1,e⟩:=bind_some e
 obtain ⟨k,h2,rfl⟩:=Ab e
 exact FM hf hg ⟨α,s,x,rs,lo,h1,fun α' v H' rs' l' ex hv=>⟨k,HB h2 hv,q α' H' rs' l' ex⟩⟩
@[simp] def elems (Γ:Gm):SV->Option (List D)
 | .v (.lst xs)=>some xs
 | .b n=>(Γ[n]?).join
 | _=>none
theorem BW {f:Fr} {α:Nat->Addr} {s:DS} {σ:St} {H:Hp} {d:SV} {xs:List D} {v:V} (rs:RS f α s σ H) (h:elems s.Γ d=some xs) (r:RepV f α s.Γ H d v):∃ a vs,v=.ref a/\H a=some (.lst vs)/\Reps (wd f α s.Γ H) xs vs:=by
 unfold elems at h
 split at h
 ·rename_i ys
  cases h
  have r:Rep (wd f α s.Γ H) (.lst xs) v:=r
  unfold Rep at r
  obtain ⟨a,vs,e,_,h1,h2⟩:=r
  exact ⟨a,vs,e,h1,h2⟩
 ·rename_i n
  have h:s.Γ[n]?=some (some xs):=by
   cases hg:s.Γ[n]? with
   | none=>rw[hg] at h;cases h
   | some o=>rw[hg] at h;exact congrArg some h
  obtain ⟨vs,h1,h2⟩:=rs.box n xs h
  exact ⟨α n,vs,r.2,h1,h2⟩
 ·cases h
@[simp] def JS (Γ:Gm):SV->Option Bool
 | .v .non=>some false
 | .v (.bl b)=>some b
 | .v (.int i)=>some (i != 0)
 | .v (.tup xs)=>some (!xs.isEmpty)
 | d=>(elems Γ d).map fun xs=>!xs.isEmpty
theorem isE {W:Wd} {xs:List D} {vs:List V} (h:Reps W xs vs):(!xs.isEmpty)=!vs.isEmpty:=by
 cases xs with
 | nil=>rw[h.nil_inv];rfl
 | cons d ds=>obtain ⟨v,r,rfl,_⟩:=h.cons_inv;rfl
theorem VL {f:Fr} {α:Nat->Addr} {s:DS} {σ:St} {H:Hp} {d:SV} {b:Bool} {v:V} (rs:RS f α s σ H) (h:JS s.Γ d=some b) (r:RepV f α s.Γ H d v):Iy f.K v H b:=by
 unfold JS at h
 split at h
 ·cases h
  have r:Rep (wd f α s.Γ H) .non v:=r
  unfold Rep at r
  rw[r];rfl
 ·cases h
  have r:Rep (wd f α s.Γ H) (.bl b) v:=r
  unfold Rep at r
  rw[r];rfl
 ·rename_i i
  cases h
  have r:Rep (wd f α s.Γ H) (.int i) v:=r
  unfold Rep at r
  rw[r];rfl
 ·rename_i xs
  cases h
  have r:Rep (wd f α s.Γ H) (.tup xs) v:=r
  unfold Rep at r
  obtain ⟨a,vs,e,_,h1,h2⟩:=r
  rw[e]
  exact .inr (.inl ⟨vs,SqT.of h1,isE h2⟩)
 ·obtain ⟨xs,h1,rfl⟩:=Ab h
  obtain ⟨a,vs,e,h2,h3⟩:=BW rs h1 r
  rw[e]
  exact .inl ⟨vs,SqL.of h2,isE h3⟩
@[simp] def BP (m:ME):MT:=fun s=>(m s).bind fun x=>(JS x.2.Γ x.1).map fun b=>(b,x.2)
theorem Dc (h:DE X e ma) (he:∀ whole,isTrue e X.env whole=(do let v <-whole;standAt e.pos;holding [v] (truthy v)):=by intro _;rfl):DT X e (BP ma):=fun f hf=>PT.imp (Rq (h f hf) he) fun σ H Q hh_=>by
 obtain ⟨α,s,r',rs,lo,e,q⟩:=hh_
 obtain ⟨x,h1,e⟩:=bind_some e
 obtain ⟨k,h2,rfl⟩:=Ab e
 exact ⟨α,s,x,rs,lo,h1,fun α' v H' rs' l' ex hv=>⟨k,by rw[<-hf];exact VL rs' h2 hv,q α' H' rs' l' ex⟩⟩
@[simp] def BO (m:MT):MT:=fun s=>(m s).map fun x=>(!x.1,x.2)
@[simp] def DB (m n:MT):MT:=fun s=>(m s).bind fun x=>if x.1=true then n x.2 else some (false,x.2)
@[simp] def mOr (m n:MT):MT:=fun s=>(m s).bind fun x=>if x.1=true then some (true,x.2) else n x.2
variable {ta tb:MT}
theorem DN (h:DT X e ta):DT X (.UnaryOp .Not e pos) (BO ta):=fun f hf=>PT.imp (QT (h f hf)) fun σ H Q hh_=>by
 obtain ⟨α,s,r',rs,lo,e,q⟩:=hh_
 obtain ⟨x,h1,rfl⟩:=Ab e
 exact ⟨α,s,x,rs,lo,h1,fun α' H' rs' l' ex=>q α' H' rs' l' ex⟩
theorem Hb (h:DT X a ta):DW X (.BoolOp .And [a] pos) ta:=fun f hf=>U2 (h f hf)
theorem GR (h:DT X a ta):DW X (.BoolOp .Or [a] pos) ta:=fun f hf=>SN (h f hf)
theorem JI {rest:List Expr} (h:DT X a ta) (h2:DW X (.BoolOp .And (b::rest) pos) tb):DW X (.BoolOp .And (a::b::rest) pos) (DB ta tb):=fun f hf=>PW.imp (OR (h f hf) (h2 f hf)) fun σ H Q hh_=>by
 obtain ⟨α,s,r',rs,lo,e,q⟩:=hh_
 obtain ⟨x,h1,e⟩:=bind_some e
 refine ⟨α,s,x,rs,lo,h1,fun α' H' rs' l' ex=>?_⟩
 split at e
 ·rename_i c
  rw[if_pos c]
  exact ⟨α',x.2,r',rs',by rw[l'];exact Nat.le_trans lo ex.m,e,fun α2 H2 rs2 l2 e2=>q α2 H2 rs2 (l2.trans l') (ex.trans e2)⟩
 ·rename_i c
  cases e
  rw[if_neg c]
  exact q α' H' rs' l' ex
theorem Ea {rest:List Expr} (h:DT X a ta) (h2:DW X (.BoolOp .Or (b::rest) pos) tb):DW X (.BoolOp .Or (a::b::rest) pos) (mOr ta tb):=fun f hf=>PW.imp (UM (h f hf) (h2 f hf)) fun σ H Q hh_=>by
 obtain ⟨α,s,r',rs,lo,e,q⟩:=hh_
 obtain ⟨x,h1,e⟩:=bind_some e
 refine ⟨α,s,x,rs,lo,h1,fun α' H' rs' l' ex=>?_⟩
 split at e
 ·rename_i c
  cases e
  rw[if_pos c]
  exact q α' H' rs' l' ex
 ·rename_i c
  rw[if_neg c]
  exact ⟨α',x.2,r',rs',by rw[l'];exact Nat.le_trans lo ex.m,e,fun α2 H2 rs2 l2 e2=>q α2 H2 rs2 (l2.trans l') (ex.trans e2)⟩
theorem Dj (h:DW X e ta):DT X e ta:=fun f hf=>PW.pt (h f hf)
@[simp] def G9 (m n:ME):ME:=fun s=>(m s).bind fun x=>(Dz x.1).bind fun b=>if b=true then n x.2 else some (.v (.bl false),x.2)
@[simp] def Gr (m n:ME):ME:=fun s=>(m s).bind fun x=>(Dz x.1).bind fun b=>if b=true then some (.v (.bl true),x.2) else n x.2
theorem Jg {f:Fr} {α:Nat->Addr} {Γ:Gm} {H:Hp} {b:Bool}:RepV f α Γ H (.v (.bl b)) (.bl b):=by show Rep _ _ _;unfold Rep;rfl
theorem Mm {op} (h:DE X a ma):DE X (.BoolOp op [a] pos) ma:=fun f hf=>Rb (h f hf)
theorem PR {rest:List Expr} (h:DE X a ma) (h2:DE X (.BoolOp .And (b::rest) pos) mb):DE X (.BoolOp .And (a::b::rest) pos) (G9 ma mb):=fun f hf=>PE.imp (Sd (h f hf) (h2 f hf)) fun σ H Q hh_=>by
 obtain ⟨α,s,r',rs,lo,e,q⟩:=hh_
 obtain ⟨x,h1,e⟩:=bind_some e
 obtain ⟨k,h2,e⟩:=bind_some e
 refine ⟨α,s,x,rs,lo,h1,fun α' v H' rs' l' ex hv=>⟨k,HB h2 hv,?_⟩⟩
 split at e
 ·rename_i c
  rw[if_pos c]
  exact ⟨α',x.2,r',rs',by rw[l'];exact Nat.le_trans lo ex.m,e,fun α2 v2 H2 rs2 l2 e2=>q α2 v2 H2 rs2 (l2.trans l') (ex.trans e2)⟩
 ·rename_i c
  cases e
  rw[if_neg c]
  exact q α' _ H' rs' l' ex Jg
theorem Rh {rest:List Expr} (h:DE X a ma) (h2:DE X (.BoolOp .Or (b::rest) pos) mb):DE X (.BoolOp .Or (a::b::rest) pos) (Gr ma mb):=fun f hf=>PE.imp (Qm (h f hf) (h2 f hf)) fun σ H Q hh_=>by
 obtain ⟨α,s,r',rs,lo,e,q⟩:=hh_
 obtain ⟨x,h1,e⟩:=bind_some e
 obtain ⟨k,h2,e⟩:=bind_some e
 refine ⟨α,s,x,rs,lo,h1,fun α' v H' rs' l' ex hv=>⟨k,HB h2 hv,?_⟩⟩
 split at e
 ·rename_i c
  cases e
  rw[if_pos c]
  exact q α' _ H' rs' l' ex Jg
 ·rename_i c
  rw[if_neg c]
  exact ⟨α',x.2,r',rs',by rw[l'];exact Nat.le_trans lo ex.m,e,fun α2 v2 H2 rs2 l2 e2=>q α2 v2 H2 rs2 (l2.trans l') (ex.trans e2)⟩
def CaD (X:Cx) (g:Gm->List SV->Option D) (r:List V->Hp->VK->Prop):Prop:=∀ (f:Fr) (α:Nat->Addr) (s:DS) (σ:St) (H:Hp) (xs:List SV) (us:List V) (z:D) (Q:VK),f.K=X.K->RS f α s σ H->RepVs f α s.Γ H xs us->g s.Γ xs=some z ->
 (∀ w H',RS f α s σ H'->Ext f α α s.Γ s.Γ H H'->Rep (wd f α s.Γ H') z w->Q w H')->r us H Q
def CaF (X:Cx) (g:Gm->List SV->Option (List D)) (r:List V->Hp->VK->Prop):Prop:=∀ (f:Fr) (α:Nat->Addr) (s:DS) (σ:St) (H:Hp) (xs:List SV) (us:List V) (z:List D) (Q:VK),f.K=X.K->RS f α s σ H->RepVs f α s.Γ H xs us->g s.Γ xs=some z ->
 (∀ a vs,H a=none->Reps (wd f α s.Γ H) z vs->Q (.ref a) (upd H a (.lst vs)))->r us H Q
@[simp] def AN (g:Gm->List SV->Option D) (ms:MA):ME:=fun s=>(ms s).bind fun x=>(g x.2.Γ x.1).map fun z=>(.v z,x.2)
@[simp] def Bw (g:Gm->List SV->Option (List D)) (ms:MA):MF:=fun s=>(ms s).bind fun x=>(g x.2.Γ x.1).map fun z=>(z,x.2)
variable {gc:Gm->List SV->Option D} {gcF:Gm->List SV->Option (List D)} {rc:List V->Hp->VK->Prop} {ms:MA} {es:List Expr} {x:Str} {p:Pos} {id T:String}
theorem LI {f:Fr} {σ:St} {H:Hp} {Q:VK} (hf:f.K=X.K) (hg:CaD X gc rc) (h:tD f (AN gc ms) σ H Q):tCB rc (tDA f ms) σ H Q:=by
 obtain ⟨α,s,r',rs,lo,e,q⟩:=h
 obtain ⟨x,h1,e⟩:=bind_some e
 obtain ⟨z,h3,rfl⟩:=Ab e
 refine ⟨α,s,x,rs,lo,h1,fun α1 us H1 rs1 l1 e1 hu=>?_⟩
 exact hg f α1 x.2 σ H1 x.1 us z Q hf rs1 hu h3 fun w H3 rs3 e3 hw=>q α1 w H3 rs3 l1 (e1.trans e3) hw
theorem VU {f:Fr} {σ:St} {H:Hp} {Q:VK} (hf:f.K=X.K) (hg:CaF X gcF rc) (h:tDF f (Bw gcF ms) σ H Q):tCB rc (tDA f ms) σ H Q:=by
 obtain ⟨α,s,r',rs,lo,e,q⟩:=h
 obtain ⟨x,h1,e⟩:=bind_some e
 obtain ⟨z,h3,rfl⟩:=Ab e
 refine ⟨α,s,x,rs,lo,h1,fun α1 us H1 rs1 l1 e1 hu=>?_⟩
 exact hg f α1 x.2 σ H1 x.1 us z Q hf rs1 hu h3 fun a vs ha hx=>q α1 a vs H1 rs1 l1 e1 ha hx
theorem Fm (hc:CallR X (.builtin id) rc) (hgc:CaD X gc rc) (hg:Gl X x) (hm:X.mg x=none) (hv:bootBuiltins x=some (.builtin id)) (ha:DA X (e::es) ms) (hn:x≠"__name__":=by decide) (hdb:(x == ("__debug__":Str))=false:=by decide)
  (he:starEach (e::es) X.env=(false,eval e X.env)::starEach es X.env:=by rfl) (hpl:(backTo pos (starEach es X.env)).any (·.1)=false:=by rfl):DE X (.Call (.Name x p) (e::es) [] pos) (AN gc ms):=fun f hf=>
 PE.imp (DX hc hg hm hv (ha f hf) hn hdb he hpl) fun σ H Q h=>LI hf hgc h
theorem NG (hc:CallR X (.builtin id) rc) (hgc:CaF X gcF rc) (hg:Gl X x) (hm:X.mg x=none) (hv:bootBuiltins x=some (.builtin id)) (ha:DA X (e::es) ms) (hn:x≠"__name__":=by decide) (hdb:(x == ("__debug__":Str))=false:=by decide)
  (he:starEach (e::es) X.env=(false,eval e X.env)::starEach es X.env:=by rfl) (hpl:(backTo pos (starEach es X.env)).any (·.1)=false:=by rfl):DF X (.Call (.Name x p) (e::es) [] pos) (Bw gcF ms):=fun f hf=>
 PE.imp (DX hc hg hm hv (ha f hf) hn hdb he hpl) fun σ H Q h=>VU hf hgc h
theorem Ny (hc:CallR X (.type T) rc) (hgc:CaD X gc rc) (hg:Gl X x) (hm:X.mg x=none) (hv:bootBuiltins x=some (.type T)) (ha:DA X (e::es) ms) (hn:x≠"__name__":=by decide) (hdb:(x == ("__debug__":Str))=false:=by decide)
  (he:starEach (e::es) X.env=(false,eval e X.env)::starEach es X.env:=by rfl) (hpl:(backTo pos (starEach es X.env)).any (·.1)=false:=by rfl):DE X (.Call (.Name x p) (e::es) [] pos) (AN gc ms):=fun f hf=>
 PE.imp (JW hc hg hm hv (ha f hf) hn hdb he hpl) fun σ H Q h=>LI hf hgc h
end
section
variable {f:Fr} {α α':Nat->Addr} {s s':DS} {σ σ':St} {H H' Hh H1:Hp}
def inn (f:Fr) (α:Nat->Addr) (Γ:Gm) (E:Addr->Prop) (Hh:Hp) (hd:∀ a,f.F a\/Ah Γ α a\/E a->Hh a≠none):Fr where
 K:=f.K
 H₀:=Hh
 F:=fun a=>f.F a\/Ah Γ α a\/E a
 L:=Ah Γ α
 sub:=fun a h=>.inr (.inl h)
 dom:=hd
structure Over (E:Addr->Prop) (H Hh:Hp):Prop where
 out:∀ a,¬E a->Hh a=H a
 new:∀ a,E a->H a=none
 there:∀ a,E a->Hh a≠none
theorem Over.sup {E:Addr->Prop} (o:Over E H Hh) {a:Addr} {u:HO} (h:H a=some u):Hh a=some u:=by
 rw[o.out a fun z=>by rw[o.new a z] at h;cases h]
 exact h
theorem Bc (r:RS f α s σ H) {E:Addr->Prop} (o:Over E H Hh):∀ a,f.F a\/Ah s.Γ α a\/E a->Hh a≠none:=fun a h=>by
 have up:H a≠none->Hh a≠none:=fun h=>by
  cases e:H a with
  | none=>exact absurd e h
  | some u=>rw[o.sup e];exact fun z=>nomatch z
 rcases h with h | h | h
 ·exact up (r.forb a h)
 ·exact up (r.live h)
 ·exact o.there a h
theorem EY (r:RS f α s σ H) {E:Addr->Prop} (o:Over E H Hh):Kw (wd f α s.Γ H) (wd (inn f α s.Γ E Hh (Bc r o)) α s.Γ Hh):=⟨rfl,fun a u n e=>⟨o.sup e,fun z=>by
 rcases z with (z | z | z) | z
 ·exact n (.inl z)
 ·exact n (.inr z)
 ·have e':H a=some u:=e
  rw[o.new a z] at e'
  cases e'
 ·exact n (.inr z)⟩⟩
theorem P9 (r:RS f α s σ H) {E:Addr->Prop} (o:Over E H Hh) {d:SV} {v:V} (h:RepV f α s.Γ H d v):RepV (inn f α s.Γ E Hh (Bc r o)) α s.Γ Hh d v:=by
 cases d with
 | v d=>exact Rep.kw (EY r o) (show Rep _ d v from h)
 | b n=>exact h
 | p n d=>
  obtain ⟨h0,a,w,h1,h2,h3,h4⟩:=h
  obtain ⟨k1,k2⟩:=(EY r o).keep a _ h2 h3
  exact ⟨h0,a,w,h1,k2,k1,h4.kw (EY r o)⟩
theorem RS.enter (r:RS f α s σ H) {E:Addr->Prop} (o:Over E H Hh) {τ:List (Option SV)} {τ':St} (hl:τ.length=τ'.length) (hs:∀ (i:Nat) (d:SV),τ[i]?=some (some d)->∃ v,τ'[i]?=some (some v)/\RepV f α s.Γ H d v) :
  RS (inn f α s.Γ E Hh (Bc r o)) α ⟨τ,s.Γ,s.Γ.length⟩ τ' Hh where
 len:=hl
 slot:=fun i d h=>let ⟨v,a,b⟩:=hs i d h;⟨v,a,P9 r o b⟩
 box:=fun n xs h=>let ⟨vs,a,b⟩:=r.box n xs h;⟨vs,o.sup a,b.kw (EY r o)⟩
 own:=fun n xs h=>by
  rw[if_pos (show n<s.Γ.length from (List.getElem?_eq_some_iff.mp h).1)]
  exact ⟨n,xs,h,rfl⟩
 inj:=r.inj
 fr:=fun b u h _=>h
 forb:=Bc r o
theorem RS.leave (r:RS f α s σ H) {E:Addr->Prop} (o:Over E H Hh) (q:RS (inn f α s.Γ E Hh (Bc r o)) α' s' σ' H') (hlo:s'.lo=s.Γ.length) (ex:Ext (inn f α s.Γ E Hh (Bc r o)) α α' s.Γ s'.Γ Hh H')
  (h1:∀ a,¬E a->H1 a=H' a) :
  RS f α' {s with Γ:=s'.Γ.take s.Γ.length} σ H1/\Ext f α α' s.Γ (s'.Γ.take s.Γ.length) H H1/\Kw (wd (inn f α s.Γ E Hh (Bc r o)) α' s'.Γ H') (wd f α' (s'.Γ.take s.Γ.length) H1):=by
 have tk:∀ {n:Nat} {z:Option (List D)},(s'.Γ.take s.Γ.length)[n]?=some z->n<s.Γ.length/\s'.Γ[n]?=some z:=fun {n z} h=>by
  rw[List.getElem?_take] at h
  split at h
  ·rename_i c;exact ⟨c,h⟩
  ·cases h
 have lv:∀ {a},Ah (s'.Γ.take s.Γ.length) α' a->Ah s.Γ α a/\Ah s'.Γ α' a:=fun {a} hh_=>by
  obtain ⟨n,xs,e1,e2⟩:=hh_
  obtain ⟨c,e⟩:=tk e1
  obtain ⟨ys,e3⟩:=ex.lv n xs c e
  exact ⟨⟨n,ys,e3,by rw[<-ex.al n c];exact e2⟩,n,xs,e,e2⟩
 have kept:∀ b u,H b=some u->¬Ah s.Γ α b->H1 b=some u:=fun b u e n=>by
  have ne:¬E b:=fun z=>by rw[o.new b z] at e;cases e
  rw[h1 b ne]
  exact q.fr b u (o.sup e) n
 have kw1:Kw (wd f α s.Γ H) (wd f α' (s'.Γ.take s.Γ.length) H1):=⟨rfl,fun a u n e=>⟨kept a u e fun z=>n (.inr z),fun z=>by
  rcases z with z | z
  ·exact n (.inl z)
  ·exact n (.inr (lv z).1)⟩⟩
 have kw2:Kw (wd (inn f α s.Γ E Hh (Bc r o)) α' s'.Γ H') (wd f α' (s'.Γ.take s.Γ.length) H1):=⟨rfl,fun a u n e=>⟨by
  show H1 a=some u
  rw[h1 a fun z=>n (.inl (.inr (.inr z)))]
  exact e,fun z=>by
  rcases z with z | z
  ·exact n (.inl (.inl z))
  ·exact n (.inr (lv z).2)⟩⟩
 have ex1:Ext f α α' s.Γ (s'.Γ.take s.Γ.length) H H1:=⟨kw1,by rw[List.length_take];have:=ex.m;lia,ex.al,fun n xs c e=>ex.lv n xs c (tk e).2⟩
 refine ⟨⟨r.len,fun i d h=>let ⟨v,a,b⟩:=r.slot i d h;⟨v,a,b.ext ex1⟩,fun n xs h=>?_,fun n xs h=>?_,fun n m xs ys hn hm e=>?_,fun b u h n=>?_,fun a h=>?_⟩,ex1,kw2⟩
 ·obtain ⟨c,e⟩:=tk h
  obtain ⟨vs,a,b⟩:=q.box n xs e
  refine ⟨vs,?_,b.kw kw2⟩
  have ne:¬E (α' n):=fun z=>by
   obtain ⟨ys,e3⟩:=ex.lv n xs c e
   obtain ⟨us,g,_⟩:=r.box n ys e3
   have:=o.new _ z
   rw[ex.al n c,g] at this
   cases this
  rw[h1 _ ne]
  exact a
 ·obtain ⟨c,e⟩:=tk h
  obtain ⟨ys,e3⟩:=ex.lv n xs c e
  rw[ex.al n c]
  exact r.own n ys e3
 ·exact q.inj n m xs ys (tk hn).2 (tk hm).2 e
 ·refine kept b u (r.fr b u h n) fun hh_=>?_
  obtain ⟨m,ys,e1,e2⟩:=hh_
  have ow:=r.own m ys e1
  rw[e2] at ow
  split at ow
  ·exact n ow
  ·rw[h] at ow;cases ow
 ·have hb:=r.forb a h
  have ne:¬E a:=fun z=>hb (o.new a z)
  rw[h1 a ne]
  exact q.forb a (.inl h)
end
section
variable {f:Fr} {α α':Nat->Addr} {s s':DS} {σ σ':St} {H H':Hp} {X:Cx} {pos:Pos}
def del (H:Hp) (a:Addr):Hp:=fun b=>if b=a then none else H b
theorem HJ {H:Hp} {a:Addr}:del H a a=none:=by unfold del;rw[if_pos rfl]
theorem Dg {H:Hp} {a b:Addr} (h:b≠a):del H a b=H b:=by unfold del;rw[if_neg h]
theorem MV {H:Hp} {a:Addr} {o:HO} (h:H a=some o):upd (del H a) a o=H:=by
 funext b
 by_cases e:b=a
 ·subst e;rw[Ak,h]
 ·rw[AH e,Dg e]
theorem RS.cut (r:RS f α s σ H) {n:Nat} {xs:List D} (hn:s.Γ[n]?=some (some xs)) (hlo:s.lo<=n) {τ:List (Option SV)} (hl:τ.length=s.σ.length) (hτ:∀ (i:Nat) (d:SV),τ[i]?=some (some d)->s.σ[i]?=some (some d)) :
  RS f α {s with σ:=τ,Γ:=s.Γ.set n none} σ (del H (α n))/\Ext f α α s.Γ (s.Γ.set n none) H (del H (α n)):=by
 have lv:∀ {a},Ah (s.Γ.set n none) α a->Ah s.Γ α a:=fun {a} hh_=>by
  obtain ⟨m,zs,e1,e2⟩:=hh_
  rcases D1 hn e1 with ⟨_,z⟩ | ⟨_,hm⟩
  ·cases z
  ·exact ⟨m,zs,hm,e2⟩
 have me:Ah s.Γ α (α n):=⟨n,xs,hn,rfl⟩
 have e:Ext f α α s.Γ (s.Γ.set n none) H (del H (α n)):=⟨⟨rfl,fun a u h e=>⟨by show del H (α n) a=some u;rw[Dg fun (z:a=α n)=>h (.inr (by rw[z];exact me))];exact e,fun z=>by
  rcases z with z | z
  ·exact h (.inl z)
  ·exact h (.inr (lv z))⟩⟩,by rw[List.length_set];exact Nat.le_refl _,fun _ _=>rfl,fun m zs _ e1=>by
  rcases D1 hn e1 with ⟨_,z⟩ | ⟨_,hm⟩
  ·cases z
  ·exact ⟨zs,hm⟩⟩
 have old:∀ {m zs},(s.Γ.set n none)[m]?=some (some zs)->m≠n/\s.Γ[m]?=some (some zs):=fun {m zs} hm=>by
  rcases D1 hn hm with ⟨_,z⟩ | h
  ·cases z
  ·exact h
 have ow0:f.H₀ (α n)=none:=by
  have ow:=r.own n xs hn
  rw[if_neg (Nat.not_lt.mpr hlo)] at ow
  exact ow
 refine ⟨⟨hl.trans r.len,fun i d h=>let ⟨v,a,b⟩:=r.slot i d (hτ i d h);⟨v,a,b.ext e⟩,fun m zs hm=>?_,fun m zs hm=>r.own m zs (old hm).2,fun m k zs us hm hk q=>r.inj m k _ _ (old hm).2 (old hk).2 q,fun b o h1 h2=>?_,fun a h1=>?_⟩,e⟩
 ·obtain ⟨us,a,b⟩:=r.box m zs (old hm).2
  exact ⟨us,by rw[Dg fun z=>(old hm).1 (r.inj m n _ _ (old hm).2 hn z)];exact a,b.kw e.kw⟩
 ·rw[Dg fun z=>by rw[z,ow0] at h1;cases h1]
  exact r.fr b o h1 h2
 ·rw[Dg fun z=>f.dom a h1 (by rw[z];exact ow0)]
  exact r.forb a h1
theorem MX {i:Nat} {x:Str} (h:PE X (.Name x pos) (FZ i)):DF X (.Name x pos) (EJ i):=fun f hf=>PE.imp h fun σ H Q hh_=>by
 obtain ⟨α,s,r,rs,lo,e,q⟩:=hh_
 unfold EJ at e
 split at e
 ·rename_i n hd
  split at e
  ·rename_i xs hn
   split at e
   ·rename_i hlo
    cases e
    obtain ⟨v,h1,h2⟩:=rs.slot i _ hd
    obtain ⟨vs,h3,h4⟩:=rs.box n xs hn
    obtain ⟨c1,c2⟩:=rs.cut hn hlo (τ:=s.σ.set i none) (List.length_set ..) fun j d hj=>by
     rw[List.getElem?_set] at hj
     by_cases z:i=j
     ·rw[if_pos z] at hj
      split at hj<;>cases hj
     ·rw[if_neg z] at hj;exact hj
    refine ⟨v,h1,?_⟩
    have hq:=q α (α n) vs (del H (α n)) c1 rfl c2 HJ (h4.kw c2.kw)
    rw[MV h3] at hq
    rw[h2.2]
    exact hq
   ·cases e
  ·cases e
 ·cases e
end
inductive Out where
 | nx (s:DS) | rt (d:D) (s:DS) | rf (xs:List D) (s:DS) | rp (xs:List D) (d:D) (s:DS) | bk (s:DS) | ct (s:DS)
abbrev MS:=DS->Option Out
def Post (f:Fr) (α:Nat->Addr) (s:DS) (H:Hp) (E:Ends):Out->Prop
 | .nx s'=>∀ α' σ' H',RS f α' s' σ' H'->s'.lo=s.lo->Ext f α α' s.Γ s'.Γ H H'->E.nx σ' H'
 | .rt d s'=>∀ α' σ' v H',RS f α' s' σ' H'->s'.lo=s.lo->Ext f α α' s.Γ s'.Γ H H'->Rep (wd f α' s'.Γ H') d v->E.rt v H'
 | .rf xs s'=>∀ α' σ' a vs H',RS f α' s' σ' H'->s'.lo=s.lo->Ext f α α' s.Γ s'.Γ H H'->H' a=none->Reps (wd f α' s'.Γ H') xs vs->E.rt (.ref a) (upd H' a (.lst vs))
 | .rp xs d s'=>∀ α' σ' a t vs w H',RS f α' s' σ' H'->s'.lo=s.lo->Ext f α α' s.Γ s'.Γ H H'->H' a=none->Reps (wd f α' s'.Γ H') xs vs->Rep (wd f α' s'.Γ H') d w->H' t=none->t≠a->E.rt (.ref t) (upd (upd H' a (.lst vs)) t (.tup [.ref a,w]))
 | .bk s'=>∀ α' σ' H',RS f α' s' σ' H'->s'.lo=s.lo->Ext f α α' s.Γ s'.Γ H H'->E.bk σ' H'
 | .ct s'=>∀ α' σ' H',RS f α' s' σ' H'->s'.lo=s.lo->Ext f α α' s.Γ s'.Γ H H'->E.ct σ' H'
def tDS (f:Fr) (m:MS):TS:=fun E σ H=>∃ α s o,RS f α s σ H/\s.lo<=s.Γ.length/\m s=some o/\Post f α s H E o
def DSt (X:Cx) (st:Stmt) (m:MS):Prop:=∀ f:Fr,f.K=X.K->PS X st (tDS f m)
def DSs (X:Cx) (sts:List Stmt) (m:MS):Prop:=∀ f:Fr,f.K=X.K->PSs X sts (tDS f m)
section
variable {X:Cx} {st:Stmt} {sts:List Stmt} {f:Fr} {α α':Nat->Addr} {s s':DS} {σ:St} {H H':Hp} {E:Ends} {pos:Pos} {e:Expr}
theorem PS.imp {t t':TS} (h:PS X st t) (k:∀ E σ H,t' E σ H->t E σ H):PS X st t':=fun pins s σ H D I q=>h pins s σ H D I (k _ _ _ q)
theorem PSs.imp {t t':TS} (h:PSs X sts t) (k:∀ E σ H,t' E σ H->t E σ H):PSs X sts t':=fun pins s σ H D I q=>h pins s σ H D I (k _ _ _ q)
theorem Post.ext {o:Out} (h:Post f α s H E o) (hl:s'.lo=s.lo) (e:Ext f α α' s.Γ s'.Γ H H'):Post f α' s' H' E o:=by
 cases o with
 | nx t=>exact fun α2 σ2 H2 r l x=>h α2 σ2 H2 r (l.trans hl) (e.trans x)
 | rt d t=>exact fun α2 σ2 v H2 r l x w=>h α2 σ2 v H2 r (l.trans hl) (e.trans x) w
 | rf xs t=>exact fun α2 σ2 a vs H2 r l x w y=>h α2 σ2 a vs H2 r (l.trans hl) (e.trans x) w y
 | rp xs d t=>exact fun α2 σ2 a t vs w H2 r l x=>h α2 σ2 a t vs w H2 r (l.trans hl) (e.trans x)
 | bk t=>exact fun α2 σ2 H2 r l x=>h α2 σ2 H2 r (l.trans hl) (e.trans x)
 | ct t=>exact fun α2 σ2 H2 r l x=>h α2 σ2 H2 r (l.trans hl) (e.trans x)
theorem lo_le {f:Fr} (lo:s.lo<=s.Γ.length) (hl:s'.lo=s.lo) (e:Ext f α α' s.Γ s'.Γ H H'):s'.lo<=s'.Γ.length:=by rw[hl];exact Nat.le_trans lo e.m
@[simp] def Ae:MS:=fun s=>some (.nx s)
@[simp] def AI (m n:MS):MS:=fun s=>(m s).bind fun o=>match o with
 | .nx s'=>n s'
 | .rt d s'=>some (.rt d s')
 | .rf d s'=>some (.rf d s')
 | .rp xs d s'=>some (.rp xs d s')
 | .bk s'=>some (.bk s')
 | .ct s'=>some (.ct s')
variable {m n:MS}
theorem BD:DSs X [] Ae:=fun f hf=>PSs.imp C2 fun E σ H hh_=>by
 obtain ⟨α,s,o,rs,lo,e,q⟩:=hh_
 cases e
 exact q α σ H rs rfl .refl
theorem AR (h1:DSt X st m) (h2:DSs X sts n):DSs X (st::sts) (AI m n):=fun f hf=>PSs.imp (Bp (h1 f hf) (h2 f hf)) fun E σ H hh_=>by
 obtain ⟨α,s,o,rs,lo,e,q⟩:=hh_
 obtain ⟨o1,e1,e⟩:=bind_some e
 refine ⟨α,s,o1,rs,lo,e1,?_⟩
 cases o1 with
 | nx s1=>exact fun α' σ' H' rs' l' x=>⟨α',s1,o,rs',lo_le lo l' x,e,q.ext l' x⟩
 | rt d s1=>cases e;exact q
 | rf d s1=>cases e;exact q
 | rp xs d s1=>cases e;exact q
 | bk s1=>cases e;exact q
 | ct s1=>cases e;exact q
theorem AV (h1:DSt X st m):DSs X [st] m:=fun f hf=>Cj (h1 f hf)
@[simp] def Cb (m:ME):MS:=fun s=>(m s).map fun r=>.nx r.2
theorem Fj {m:ME} (he:DE X e m) (hs:swapsWith e none pos.line X.env=pure false:=by rfl):DSt X (.Expr e pos) (Cb m):=fun f hf=>PS.imp (Fy (he f hf) hs) fun E σ H hh_=>by
 obtain ⟨α,s,o,rs,lo,e,q⟩:=hh_
 obtain ⟨r,h1,rfl⟩:=Ab e
 exact ⟨α,s,r,rs,lo,h1,fun α' v H' rs' l' x _=>q α' σ H' rs' l' x⟩
@[simp] def Ac (m:ME):MS:=fun s=>(m s).bind fun r=>match r.1 with
 | .v d=>some (.rt d r.2)
 | _=>none
theorem Aq {m:ME} (he:DE X e m):DSt X (.Return (some e) pos) (Ac m):=fun f hf=>PS.imp (Ic (he f hf)) fun E σ H hh_=>by
 obtain ⟨α,s,o,rs,lo,e,q⟩:=hh_
 obtain ⟨⟨x,r⟩,h1,e⟩:=bind_some e
 cases x with
 | b n=>cases e
 | p n d=>cases e
 | v d=>
  cases e
  exact ⟨α,s,_,rs,lo,h1,fun α' v H' rs' l' x hv=>q α' σ v H' rs' l' x hv⟩
@[simp] def BZ (m:MF):MS:=fun s=>(m s).map fun r=>.rf r.1 r.2
theorem C5 {m:MF} (he:DF X e m):DSt X (.Return (some e) pos) (BZ m):=fun f hf=>PS.imp (Ic (he f hf)) fun E σ H hh_=>by
 obtain ⟨α,s,o,rs,lo,e,q⟩:=hh_
 obtain ⟨r,h1,rfl⟩:=Ab e
 exact ⟨α,s,r,rs,lo,h1,fun α' a vs H' rs' l' x ha hx=>q α' σ a vs H' rs' l' x ha hx⟩
@[simp] def mIf (c:MT) (m n:MS):MS:=fun s=>(c s).bind fun b=>if b.1=true then m b.2 else n b.2
theorem A8 {c:Expr} {mc:MT} {a b:List Stmt} (hc:DT X c mc) (ha:DSs X a m) (hb:DSs X b n):DSt X (.If c a b pos) (mIf mc m n):=fun f hf=>PS.imp (C6 (hc f hf) (ha f hf) (hb f hf)) fun E σ H hh_=>by
 obtain ⟨α,s,o,rs,lo,e,q⟩:=hh_
 obtain ⟨k,h1,e⟩:=bind_some e
 refine ⟨α,s,k,rs,lo,h1,fun α' H' rs' l' x=>?_⟩
 split at e
 ·rename_i c
  rw[if_pos c]
  exact ⟨α',k.2,o,rs',lo_le lo l' x,e,q.ext l' x⟩
 ·rename_i c
  rw[if_neg c]
  exact ⟨α',k.2,o,rs',lo_le lo l' x,e,q.ext l' x⟩
@[simp] def AZ (i:Nat) (m:ME):MS:=fun s=>(m s).map fun r=>.nx {r.2 with σ:=r.2.σ.set i (some r.1)}
theorem BR {i:Nat} {tg:Expr} {m:ME} (h:∀ te,PE X e te->PS X (.Assign [tg] e pos) (Fg te (Dh i))) (he:DE X e m):DSt X (.Assign [tg] e pos) (AZ i m):=fun f hf=>PS.imp (h _ (he f hf)) fun E σ H hh_=>by
 obtain ⟨α,s,o,rs,lo,e,q⟩:=hh_
 obtain ⟨r,h1,rfl⟩:=Ab e
 exact ⟨α,s,r,rs,lo,h1,fun α' v H' rs' l' x hv=>q α' _ H' (rs'.set hv) l' x⟩
@[simp] def CV (i:Nat) (m:MF):MS:=fun s=>(m s).map fun r=>.nx {r.2 with σ:=r.2.σ.set i (some (.b r.2.Γ.length)),Γ:=r.2.Γ++[some r.1]}
theorem Fe {i:Nat} {tg:Expr} {m:MF} (h:∀ te,PE X e te->PS X (.Assign [tg] e pos) (Fg te (Dh i))) (he:DF X e m):DSt X (.Assign [tg] e pos) (CV i m):=fun f hf=>PS.imp (h _ (he f hf)) fun E σ H hh_=>by
 obtain ⟨α,s,o,rs,lo,e,q⟩:=hh_
 obtain ⟨r,h1,rfl⟩:=Ab e
 refine ⟨α,s,r,rs,lo,h1,fun α' a vs H' rs' l' x ha hx=>?_⟩
 have x2:=Ext.add (xs:=r.1) (o:=.lst vs) rs' ha
 refine q (Br α' r.2.Γ.length a) _ _ (RS.set (rs'.add (lo_le lo l' x) ha hx) (d:=.b r.2.Γ.length) ⟨by show r.2.Γ.length<(r.2.Γ++[some r.1]).length;rw[List.length_append];simp,by unfold Br;rw[if_pos rfl]⟩) l' (x.trans x2)
@[simp] def Ig (σ:List (Option SV)):List Nat->List D->List (Option SV)
 | i::is,d::ds=>Ig (σ.set i (some (.v d))) is ds
 | _,_=>σ
abbrev MG:=D->DS->Option DS
def IR:List Nat->TGs
 | []=>Ko
 | i::is=>L4 (Dh i) (IR is)
def tDG (f:Fr) (m:MG):TG:=fun v σ H Q=>∃ α s d s',RS f α s σ H/\s.lo<=s.Γ.length/\Rep (wd f α s.Γ H) d v/\m d s=some s'/\∀ σ',RS f α s' σ' H->s'.lo=s.lo->s'.Γ=s.Γ->Q σ' H
def DG (X:Cx) (tg:Expr) (m:MG):Prop:=∀ f:Fr,f.K=X.K->PG X tg (tDG f m)
theorem PG.imp {tg:Expr} {t t':TG} (h:PG X tg t) (k:∀ v σ H Q,t' v σ H Q->t v σ H Q):PG X tg t':=fun pins s σ H v u Q I r q=>h pins s σ H v u Q I r (k _ _ _ _ q)
@[simp] def AQ (i:Nat):MG:=fun d s=>some {s with σ:=s.σ.set i (some (.v d))}
theorem Bg {i:Nat} {tg:Expr} (h:PG X tg (Dh i)):DG X tg (AQ i):=fun f hf=>PG.imp h fun v σ H Q hh_=>by
 obtain ⟨α,s,d,s',rs,lo,hd,e,q⟩:=hh_
 cases e
 exact q _ (rs.set (d:=.v d) hd) rfl rfl
@[simp] def CD (is:List Nat):MG:=fun d s=>match d with
 | .tup xs=>if xs.length=is.length then some {s with σ:=Ig s.σ is xs} else none
 | _=>none
theorem NH {H:Hp} {Q:St->Hp->Prop}:∀ {is:List Nat} {xs:List D} {vs:List V} {s:DS} {σ:St},RS f α s σ H->Reps (wd f α s.Γ H) xs vs->xs.length=is.length->(∀ σ',RS f α {s with σ:=Ig s.σ is xs} σ' H->Q σ' H)->IR is vs σ H Q
 | [],xs,vs,s,σ,rs,hx,hl,q=>by
  have:xs=[]:=List.eq_nil_of_length_eq_zero hl
  subst this
  exact ⟨hx.nil_inv,q σ rs⟩
 | i::is,[],vs,s,σ,rs,hx,hl,q=>by cases hl
 | i::is,x::xs,vs,s,σ,rs,hx,hl,q=>by
  obtain ⟨v,r,rfl,h1,h2⟩:=hx.cons_inv
  exact ⟨v,r,rfl,NH (rs.set (i:=i) (d:=.v x) (v:=v) h1) h2 (Nat.succ.inj hl) q⟩
theorem FS {is:List Nat} {tg:Expr} {n:Nat} (hn:is.length=n) (h:PG X tg (CA X.K n (IR is))):DG X tg (CD is):=fun f hf=>PG.imp h fun v σ H Q hh_=>by
 obtain ⟨α,s,d,s',rs,lo,hd,e,q⟩:=hh_
 unfold CD at e
 split at e
 ·rename_i xs
  split at e
  ·rename_i hl
   cases e
   unfold Rep at hd
   obtain ⟨a,vs,rfl,_,h1,h2⟩:=hd
   exact ⟨a,vs,rfl,SqT.of h1,by rw[h2.len,hl,hn],NH rs h2 hl fun σ' r=>q σ' r rfl rfl⟩
  ·cases e
 ·cases e
structure DIt (f:Fr) (J:It) (items:List D) (α0:Nat->Addr) (Γ0:Gm) (H0:Hp):Prop where
 go:∀ i α s σ H Hh,i<items.length->RS f α s σ H->Ext f α0 α Γ0 s.Γ H0 H->(∀ a o,H a=some o->Hh a=some o)->J.go i Hh
 yl:∀ i d x α s σ H Hh H',items[i]?=some d->RS f α s σ H->Ext f α0 α Γ0 s.Γ H0 H->(∀ a o,H a=some o->Hh a=some o)->J.yld i Hh x H' ->
  (H'=Hh/\Rep (wd f α s.Γ H) d x)\/∃ T o,Hh T=none/\H'=upd Hh T o/\Rep (wd f α s.Γ (upd H T o)) d x
 stop:∀ α s σ H Hh,RS f α s σ H->Ext f α0 α Γ0 s.Γ H0 H->(∀ a o,H a=some o->Hh a=some o)->J.stop items.length Hh
def tDI (f:Fr) (m:MF):TI:=fun σ H R=>∃ α s r,RS f α s σ H/\s.lo<=s.Γ.length/\m s=some r/\∀ J α' H',RS f α' r.2 σ H'->r.2.lo=s.lo->Ext f α α' s.Γ r.2.Γ H H'->DIt f J r.1 α' r.2.Γ H'->R J H'
def DI (X:Cx) (tg src:Expr) (m:MF):Prop:=∀ f:Fr,f.K=X.K->PI X tg src (tDI f m)
def Cr (g:MG) (b:MS):List D->DS->Option Out
 | [],s=>some (.nx s)
 | d::r,s=>(g d s).bind fun s1=>(b s1).bind fun o=>match o with
  | .nx s2=>Cr g b r s2
  | .ct s2=>Cr g b r s2
  | .bk s2=>some (.nx s2)
  | .rt d s2=>some (.rt d s2)
  | .rf d s2=>some (.rf d s2)
  | .rp xs d s2=>some (.rp xs d s2)
@[simp] def CN (mi:MF) (g:MG) (b:MS):MS:=fun s=>(mi s).bind fun r=>Cr g b r.1 r.2
theorem ER {tg iter:Expr} {body:List Stmt} {mi:MF} {g:MG} {b:MS} (hp:PassesOwn (model X.prog X.w) X.A X.env X.xe) (hc:X.calm=true) (hi:DI X tg iter mi) (hg:DG X tg g) (hb:DSs X body b)
  (hs:∀ x,foldedSetIterable iter X.env x=pure x:=by intro _;rfl):DSt X (.For tg iter body [] pos) (CN mi g b):=fun f hf=>PS.imp (US hp hc (hi f hf) (hg f hf) (hb f hf) hs) fun E σ H hh_=>by
 obtain ⟨α,s,o,rs,lo,e,q⟩:=hh_
 obtain ⟨⟨items,s1⟩,h1,e⟩:=bind_some e
 refine ⟨α,s,_,rs,lo,h1,fun J α1 H1 rs1 l1 x1 it=>?_⟩
 refine Pb items.length (fun i σ H=>∃ αi si,RS f αi si σ H/\si.lo=s1.lo/\Ext f α1 αi s1.Γ si.Γ H1 H/\Cr g b (items.drop i) si=some o) ⟨α1,s1,rs1,rfl,.refl,e⟩ ?_ ?_ ?_ ?_
 ·rintro i σ2 H2 hi ⟨αi,si,ri,li,xi,ei⟩
  exact it.go i αi si σ2 H2 H2 hi ri xi fun _ _ h=>h
 ·rintro σ2 H2 ⟨αi,si,ri,li,xi,ei⟩
  exact it.stop αi si σ2 H2 H2 ri xi fun _ _ h=>h
 ·rintro i x σ2 H2 H3 hi ⟨αi,si,ri,li,xi,ei⟩ y
  have hd:items[i]?=some items[i]:=List.getElem?_eq_getElem hi
  rw[List.drop_eq_getElem_cons hi] at ei
  obtain ⟨s2,g2,ei⟩:=bind_some ei
  obtain ⟨o2,b2,ei⟩:=bind_some ei
  have fin:∀ {H3},RS f αi si σ2 H3->Ext f αi αi si.Γ si.Γ H2 H3->Rep (wd f αi si.Γ H3) items[i] x->tDG f g x σ2 H3 fun σ4 H4=>tDS f b {E with nx:=fun σ H=>∃ αi si,RS f αi si σ H/\si.lo=s1.lo/\Ext f α1 αi s1.Γ si.Γ H1 H/\Cr g b (items.drop (i+1)) si=some o,ct:=fun σ H=>∃ αi si,RS f αi si σ H/\si.lo=s1.lo/\Ext f α1 αi s1.Γ si.Γ H1 H/\Cr g b (items.drop (i+1)) si=some o,bk:=E.nx} σ4 H4:=fun {H3} r3 x3 hr=>by
   refine ⟨αi,si,_,s2,r3,by rw[li];exact Nat.le_trans (lo_le lo l1 x1) xi.m,hr,g2,fun σ4 r4 l4 G4=>⟨αi,s2,o2,r4,by rw[l4,li,G4];exact Nat.le_trans (lo_le lo l1 x1) xi.m,b2,?_⟩⟩
   have x13:Ext f α1 αi s1.Γ s2.Γ H1 H3:=by rw[G4];exact xi.trans x3
   cases o2 with
   | nx s5=>exact fun α5 σ5 H5 r5 l5 x5=>⟨α5,s5,r5,l5.trans (l4.trans li),x13.trans x5,ei⟩
   | ct s5=>exact fun α5 σ5 H5 r5 l5 x5=>⟨α5,s5,r5,l5.trans (l4.trans li),x13.trans x5,ei⟩
   | bk s5=>cases ei;exact fun α5 σ5 H5 r5 l5 x5=>q α5 σ5 H5 r5 (l5.trans (l4.trans (li.trans l1))) (x1.trans (x13.trans x5))
   | rt d s5=>cases ei;exact fun α5 σ5 v H5 r5 l5 x5 w=>q α5 σ5 v H5 r5 (l5.trans (l4.trans (li.trans l1))) (x1.trans (x13.trans x5)) w
   | rf d s5=>cases ei;exact fun α5 σ5 a vs H5 r5 l5 x5 w y=>q α5 σ5 a vs H5 r5 (l5.trans (l4.trans (li.trans l1))) (x1.trans (x13.trans x5)) w y
   | rp xs d s5=>cases ei;exact fun α5 σ5 a t vs w H5 r5 l5 x5=>q α5 σ5 a t vs w H5 r5 (l5.trans (l4.trans (li.trans l1))) (x1.trans (x13.trans x5))
  rcases it.yl i _ x αi si σ2 H2 H2 H3 hd ri xi (fun _ _ h=>h) y with ⟨rfl,hr⟩ | ⟨T,u,hT,rfl,hr⟩
  ·exact fin ri .refl hr
  ·exact fin (ri.new hT) (.new ri hT) hr
 ·rintro σ2 H2 ⟨αi,si,ri,li,xi,ei⟩
  rw[List.drop_length] at ei
  cases ei
  exact q αi σ2 H2 ri (li.trans l1) (x1.trans xi)
end
def xD (K:PySem.W.Frag) (m:ME):TE:=fun σ H Q=>∃ f:Fr,f.K=K/\tD f m σ H Q
def xT (K:PySem.W.Frag) (m:MT):TT:=fun σ H Q=>∃ f:Fr,f.K=K/\tDT f m σ H Q
def xG (K:PySem.W.Frag) (m:MG):TG:=fun v σ H Q=>∃ f:Fr,f.K=K/\tDG f m v σ H Q
theorem DE.x {X:Cx} {e:Expr} {m:ME} (h:DE X e m):PE X e (xD X.K m):=fun pins s σ H Q I ⟨f,hf,q⟩=>h f hf pins s σ H Q I q
theorem DG.x {X:Cx} {e:Expr} {m:MG} (h:DG X e m):PG X e (xG X.K m):=fun pins s σ H v u Q I r ⟨f,hf,q⟩=>h f hf pins s σ H v u Q I r q
def DTs (X:Cx) (tests:List Expr) (m:MT):Prop:=∀ f:Fr,f.K=X.K->PTs X tests (tDT f m)
theorem DTs.x {X:Cx} {e:List Expr} {m:MT} (h:DTs X e m):PTs X e (xT X.K m):=fun pins s σ H Q I ⟨f,hf,q⟩=>h f hf pins s σ H Q I q
@[simp] def mTT:MT:=fun s=>some (true,s)
theorem Bk {X:Cx}:DTs X [] mTT:=fun f hf pins s σ H Q I hh_=>by
 obtain ⟨α,s',r,rs,lo,e,q⟩:=hh_
 cases e
 exact LJ pins s σ H Q I (q α H rs rfl .refl)
def Ag (g:MG) (t:MT) (e:ME):List D->List (Option SV)->Gm->Option (List D×Gm)
 | [],_,Γ=>some ([],Γ)
 | d::r,τ,Γ=>(g d ⟨τ,Γ,Γ.length⟩).bind fun s1=>(t s1).bind fun b=>
  if b.1=true then (e b.2).bind fun x=>match x.1 with
   | .v y=>if x.2.Γ.length=Γ.length then (Ag g t e r x.2.σ x.2.Γ).map fun q=>(y::q.1,q.2) else none
   | _=>none
  else if b.2.Γ.length=Γ.length then Ag g t e r b.2.σ b.2.Γ else none
@[simp] def Dm (nt:Nat) (ix:List Nat) (σ:List (Option SV)):List (Option SV):=List.replicate nt none++ix.map fun k=>(σ[k]?).join
@[simp] def Av (mi:MF) (nt:Nat) (ix:List Nat) (g:MG) (t:MT) (e:ME):MF:=fun s=>(mi s).bind fun r=>
 if r.1.length<=big then (Ag g t e r.1 (Dm nt ix r.2.σ) r.2.Γ).map fun q=>(q.1,{r.2 with Γ:=q.2}) else none
section
variable {f:Fr} {α α':Nat->Addr} {s s':DS} {σ σ':St} {H H' Hh H1:Hp} {X:Cx} {pos:Pos}
theorem take_all {Γ:Gm} {n:Nat} (h:Γ.length=n):Γ.take n=Γ:=by rw[<-h];exact List.take_length
theorem NS (rs:RS f α s σ H) (nt:Nat) (ix:List Nat):(Dm nt ix s.σ).length=(cSt nt ix σ).length/\∀ (i:Nat) (d:SV),(Dm nt ix s.σ)[i]?=some (some d)->∃ v,(cSt nt ix σ)[i]?=some (some v)/\RepV f α s.Γ H d v:=by
 unfold Dm cSt
 refine ⟨by simp,fun i d h=>?_⟩
 by_cases c:i<nt
 ·rw[List.getElem?_append_left (by simpa using c)] at h
  simp[c] at h
 ·rw[List.getElem?_append_right (by simpa using c)] at h ⊢
  simp only[List.length_replicate,List.getElem?_map] at h ⊢
  cases e:ix[i - nt]? with
  | none=>rw[e] at h;cases h
  | some k=>
   rw[e] at h
   simp only[Option.map_some] at h ⊢
   have hk:s.σ[k]?=some (some d):=by
    cases hz:s.σ[k]? with
    | none=>rw[hz] at h;cases h
    | some o=>rw[hz] at h;exact congrArg some (Option.some.inj h)
   obtain ⟨v,h1,h2⟩:=rs.slot k d hk
   exact ⟨v,by rw[h1];rfl,h2⟩
inductive CI (f:Fr) (α1:Nat->Addr) (s1:DS) (σ:St) (H1:Hp) (g:MG) (t:MT) (e:ME) (items ys:List D) (Γ':Gm) (l:Addr) (i:Nat) (τ':St) (Hi:Hp):Prop
 | mk (αi:Nat->Addr) (Γi:Gm) (τ:List (Option SV)) (H2:Hp) (acc:List D) (vs:List V) (rest:List D):Hi=upd H2 l (.lst vs)->H2 l=none->RS f αi {s1 with Γ:=Γi} σ H2->Ext f α1 αi s1.Γ Γi H1 H2->Γi.length=s1.Γ.length->Reps (wd f αi Γi H2) acc vs->acc.length<=i ->
   τ.length=τ'.length->(∀ (j:Nat) (d:SV),τ[j]?=some (some d)->∃ v,τ'[j]?=some (some v)/\RepV f αi Γi H2 d v)->Ag g t e (items.drop i) τ Γi=some (rest,Γ')->ys=acc++rest->CI f α1 s1 σ H1 g t e items ys Γ' l i τ' Hi
theorem Jx {mi:MF} {nt:Nat} {ix:List Nat} {g:MG} {t:MT} {e:ME} {Q:VK} (h:tDF f (Av mi nt ix g t e) σ H Q):Hl (tDI f mi) nt ix (xG f.K g) (xT f.K t) (xD f.K e) σ H Q:=by
 obtain ⟨α,s,r,rs,lo,e0,q⟩:=h
 obtain ⟨⟨items,s1⟩,h1,e0⟩:=bind_some e0
 split at e0
 case isFalse=>cases e0
 rename_i hbig
 obtain ⟨⟨ys,Γ'⟩,h2,rfl⟩:=Ab e0
 refine ⟨α,s,_,rs,lo,h1,fun J α1 H1 rs1 l1 x1 it l hl=>?_⟩
 refine KA items.length (fun i τ' Hi=>CI f α1 s1 σ H1 g t e items ys Γ' l i τ' Hi) ?_ ?_ ?_ ?_ ?_
 ·exact ⟨α1,s1.Γ,Dm nt ix s1.σ,H1,[],[],ys,rfl,hl,rs1,.refl,rfl,.nil,Nat.le_refl _,(NS rs1 nt ix).1,(NS rs1 nt ix).2,h2,rfl⟩
 ·rintro i τ' Hi hi ⟨αi,Γi,τ,H2,acc,vs,rest,rfl,hl2,ri,xi,lenΓ,hacc,hai,hτl,hτ,hgo,hys⟩
  exact it.go i αi _ σ H2 _ hi ri xi fun a o h=>by rw[AH (BC h hl2)];exact h
 ·rintro τ' Hi ⟨αi,Γi,τ,H2,acc,vs,rest,rfl,hl2,ri,xi,lenΓ,hacc,hai,hτl,hτ,hgo,hys⟩
  exact it.stop αi _ σ H2 _ ri xi fun a o h=>by rw[AH (BC h hl2)];exact h
 ·rintro i x τ' Hi H3 hi ⟨αi,Γi,τ,H2,acc,vs,rest,rfl,hl2,ri,xi,lenΓ,hacc,hai,hτl,hτ,hgo,hys⟩ y
  have hd:items[i]?=some items[i]:=List.getElem?_eq_getElem hi
  rw[List.drop_eq_getElem_cons hi] at hgo
  obtain ⟨s2,g2,hgo⟩:=bind_some hgo
  obtain ⟨b,t2,hgo⟩:=bind_some hgo
  have fin:∀ {H2':Hp},H2' l=none->RS f αi {s1 with Γ:=Γi} σ H2'->Ext f αi αi Γi Γi H2 H2'->Rep (wd f αi Γi H2') items[i] x ->
    xG f.K g x τ' (upd H2' l (.lst vs)) fun σ2 H2=>xT f.K t σ2 H2 fun b H3=>if b=true then xD f.K e σ2 H3 fun v H4=>∃ xs,H4 l=some (.lst xs)/\xs.length<sizeLine/\CI f α1 s1 σ H1 g t e items ys Γ' l (i+1) σ2 (upd H4 l (.lst (xs++[v]))) else CI f α1 s1 σ H1 g t e items ys Γ' l (i+1) σ2 H3:=fun {H2'} hl2' ri' x2' hr=>by
   have ov:Over (fun a=>a=l) H2' (upd H2' l (.lst vs)):=⟨fun a h=>AH h,fun a h=>by rw[h];exact hl2',fun a h=>by rw[h,Ak];exact fun z=>nomatch z⟩
   have en:=ri'.enter ov hτl fun j d h=>let ⟨v,a,b⟩:=hτ j d h;⟨v,a,b.ext x2'⟩
   have back:∀ {s5:DS} {α5:Nat->Addr} {σ5:St} {H5:Hp},RS (inn f αi Γi (fun a=>a=l) (upd H2' l (.lst vs)) (Bc ri' ov)) α5 s5 σ5 H5->s5.lo=Γi.length->Ext (inn f αi Γi (fun a=>a=l) (upd H2' l (.lst vs)) (Bc ri' ov)) αi α5 Γi s5.Γ (upd H2' l (.lst vs)) H5->s5.Γ.length=Γi.length ->
     H5 l=some (.lst vs)/\RS f α5 {s1 with Γ:=s5.Γ} σ (del H5 l)/\Ext f α1 α5 s1.Γ s5.Γ H1 (del H5 l)/\Reps (wd f α5 s5.Γ (del H5 l)) acc vs/\(∀ (j:Nat) (d:SV),s5.σ[j]?=some (some d)->∃ v,σ5[j]?=some (some v)/\RepV f α5 s5.Γ (del H5 l) d v) /\
     ∀ d v,Rep (wd (inn f αi Γi (fun a=>a=l) (upd H2' l (.lst vs)) (Bc ri' ov)) α5 s5.Γ H5) d v->Rep (wd f α5 s5.Γ (del H5 l)) d v:=fun {s5 α5 σ5 H5} r5 l5 x5 len5=>by
    obtain ⟨lv1,lv2,lv3⟩:=ri'.leave ov r5 l5 x5 (H1:=del H5 l) fun a h=>Dg h
    have tk:s5.Γ.take Γi.length=s5.Γ:=take_all len5
    simp only at lv1 lv2 lv3
    rw[tk] at lv1 lv2 lv3
    refine ⟨r5.fr l _ Ak fun ⟨n,xs,e1,e2⟩=>?_,lv1,(xi.trans x2').trans lv2,(hacc.kw x2'.kw).kw lv2.kw,fun j d h=>?_,fun d v h=>h.kw lv3⟩
    ·obtain ⟨us,z,_⟩:=ri'.box n xs e1
     rw[e2,hl2'] at z
     cases z
    ·obtain ⟨v,a,b⟩:=r5.slot j d h
     refine ⟨v,a,?_⟩
     cases d with
     | v d=>exact Rep.kw lv3 (show Rep _ d v from b)
     | b n=>exact b
     | p n d=>
      obtain ⟨h0,a',w,h1,h2,h3,h4⟩:=b
      obtain ⟨k1,k2⟩:=lv3.keep a' _ h2 h3
      exact ⟨h0,a',w,h1,k2,k1,h4.kw lv3⟩
   refine ⟨(inn f αi Γi (fun a=>a=l) (upd H2' l (.lst vs)) (Bc ri' ov)),rfl,αi,_,_,s2,en,Nat.le_refl _,Rep.kw (EY ri' ov) hr,g2,fun σ2 r2 l2 G2=>?_⟩
   refine ⟨(inn f αi Γi (fun a=>a=l) (upd H2' l (.lst vs)) (Bc ri' ov)),rfl,αi,s2,b,r2,by rw[l2,G2];exact Nat.le_refl _,t2,fun α3 H3 r3 l3 x3=>?_⟩
   have x3':Ext (inn f αi Γi (fun a=>a=l) (upd H2' l (.lst vs)) (Bc ri' ov)) αi α3 Γi b.2.Γ (upd H2' l (.lst vs)) H3:=by
    have z:=x3
    rw[G2] at z
    exact z
   split at hgo
   ·rename_i cb
    dsimp only
    rw[if_pos cb]
    obtain ⟨⟨xv,s4⟩,e4,hgo⟩:=bind_some hgo
    refine ⟨(inn f αi Γi (fun a=>a=l) (upd H2' l (.lst vs)) (Bc ri' ov)),rfl,α3,b.2,_,r3,by rw[l3,l2];exact x3'.m,e4,fun α4 v H4 r4 l4 x4 hv=>?_⟩
    cases xv with
    | b n=>cases hgo
    | p n d=>cases hgo
    | v yv=>
     simp only at hgo
     split at hgo
     case isFalse=>cases hgo
     rename_i len4
     obtain ⟨⟨rest2,_⟩,h5,e5⟩:=Ab hgo
     cases e5
     obtain ⟨b1,b2,b3,b4,b5,b6⟩:=back r4 (l4.trans (l3.trans l2)) (x3'.trans x4) len4
     refine ⟨vs,b1,Nat.lt_of_le_of_lt (by rw[hacc.len];exact Nat.le_of_lt (Nat.lt_of_le_of_lt hai hi)) (FA hbig),α4,s4.Γ,s4.σ,del H4 l,acc++[yv],vs++[v],rest2,?_,HJ,b2,b3,len4.trans lenΓ,b4.append (.cons (b6 _ _ hv) .nil),by rw[List.length_append];simpa using hai,r4.len,b5,h5,by rw[hys];simp⟩
     funext a
     by_cases z:a=l
     ·rw[z,Ak,Ak]
     ·rw[AH z,AH z,Dg z]
   ·rename_i cb
    dsimp only
    rw[if_neg cb]
    split at hgo
    case isFalse=>cases hgo
    rename_i len4
    obtain ⟨b1,b2,b3,b4,b5,b6⟩:=back r3 (l3.trans l2) x3' len4
    exact ⟨α3,b.2.Γ,b.2.σ,del H3 l,acc,vs,rest,(MV b1).symm,HJ,b2,b3,len4.trans lenΓ,b4,Nat.le_succ_of_le hai,r3.len,b5,hgo,hys⟩
  rcases it.yl i _ x αi _ σ H2 _ H3 hd ri xi (fun a o h=>by rw[AH (BC h hl2)];exact h) y with ⟨rfl,hr⟩ | ⟨T,u,hT,rfl,hr⟩
  ·exact fin hl2 ri .refl hr
  ·have lT:l≠T:=fun z=>by rw[<-z,Ak] at hT;cases hT
   have hT2:H2 T=none:=by rw[AH (Ne.symm lT)] at hT;exact hT
   have z:=fin (H2':=upd H2 T u) (by rw[AH lT];exact hl2) (ri.new hT2) (.new ri hT2) hr
   have e2:upd (upd H2 l (.lst vs)) T u=upd (upd H2 T u) l (.lst vs):=by
    funext a
    by_cases z1:a=T
    ·rw[z1,Ak,AH (Ne.symm lT),Ak]
    ·by_cases z2:a=l
     ·rw[z2,AH lT,Ak,Ak]
     ·rw[AH z1,AH z2,AH z2,AH z1]
   rw[e2]
   exact z
 ·rintro τ' Hi ⟨αi,Γi,τ,H2,acc,vs,rest,rfl,hl2,ri,xi,lenΓ,hacc,hai,hτl,hτ,hgo,hys⟩
  rw[List.drop_length] at hgo
  cases hgo
  rw[List.append_nil] at hys
  subst hys
  exact q αi l vs H2 ri l1 (x1.trans xi) hl2 hacc
theorem CF {elt tg src:Expr} {tests:List Expr} {sc esc:Scope} {cp:Pos} {N tn fn:List Str} {ix:List Nat} {mi:MF} {g:MG} {t:MT} {e:ME} (hc:X.calm=true) (hsc:X.env.scope=esc) (hN:X.N=N) (ok:CompOk sc esc N fn ix) (hi:DI X tg src mi)
  (hg:∀ s2 H2 cl C fp,DG (BA X (tn++fn) sc s2 H2 cl C fp) tg g)
  (ht:∀ s2 H2 cl C fp,DTs (BA X (tn++fn) sc s2 H2 cl C fp) tests t)
  (he:∀ s2 H2 cl C fp,DE (BA X (tn++fn) sc s2 H2 cl C fp) elt e)
  (hs:∀ x,foldedSetIterable src X.env x=pure x:=by intro _;rfl):DF X (.ListComp elt [⟨tg,src,tests,0⟩] sc cp) (Av mi tn.length ix g t e):=fun f hf=>
 PE.imp (VG (g:=xG X.K g) (tc:=xT X.K t) (te:=xD X.K e) hc hsc hN ok (hi f hf) (fun s2 H2 cl C fp=>(hg s2 H2 cl C fp).x) (fun s2 H2 cl C fp=>(ht s2 H2 cl C fp).x) (fun s2 H2 cl C fp=>(he s2 H2 cl C fp).x) hs) fun σ H Q h=>by
  rw[<-hf]
  exact Jx h
theorem Hy {i:Nat} {y:Str} {py sp:Pos} {elt tg src:Expr} {tests:List Expr} {sc esc:Scope} {cp:Pos} {N tn fn:List Str} {ix:List Nat} {mi:MF} {g:MG} {t:MT} {e:ME} (hnd:X.N.Nodup) (hiy:X.N[i]?=some y) (hy:X.env.scope.names.lookup y=some .local) (hc:X.calm=true) (hsc:X.env.scope=esc) (hN:X.N=N) (ok:CompOk sc esc N fn ix) (hi:DI X tg src mi)
  (hg:∀ s2 H2 cl C fp,DG (BA X (tn++fn) sc s2 H2 cl C fp) tg g)
  (ht:∀ s2 H2 cl C fp,DTs (BA X (tn++fn) sc s2 H2 cl C fp) tests t)
  (he:∀ s2 H2 cl C fp,DE (BA X (tn++fn) sc s2 H2 cl C fp) elt e)
  (hsw:swapsWith (.ListComp elt [⟨tg,src,tests,0⟩] sc cp) (some (.Name y py)) sp.line X.env=pure true:=by rfl)
  (hs:∀ x,foldedSetIterable src X.env x=pure x:=by intro _;rfl):DSt X (.Assign [.Name y py] (.ListComp elt [⟨tg,src,tests,0⟩] sc cp) sp) (AZ i (AK (Av mi tn.length ix g t e))):=fun f hf=>
 PS.imp (NY (g:=xG X.K g) (tc:=xT X.K t) (te:=xD X.K e) hnd hiy hy hc hsc hN ok (hi f hf) (fun s2 H2 cl C fp=>(hg s2 H2 cl C fp).x) (fun s2 H2 cl C fp=>(ht s2 H2 cl C fp).x) (fun s2 H2 cl C fp=>(he s2 H2 cl C fp).x) hsw hs) fun E σ H hh_=>by
  obtain ⟨α,s,o,rs,lo,e0,q⟩:=hh_
  rw[<-hf]
  obtain ⟨r,h1,rfl⟩:=Ab e0
  obtain ⟨r2,h2,rfl⟩:=Ab h1
  exact Jx ⟨α,s,r2,rs,lo,h2,fun α' a vs H' rs' l' x ha hx=>q α' _ _ ((rs'.new ha).set (d:=.v (.lst r2.1)) (ES rs' ha hx)) l' (x.trans (.new rs' ha))⟩
end
abbrev MD:=List SV->Gm->Option (D×Gm)
abbrev MDF:=List SV->Gm->Option (List D×Gm)
def spD (K:PySem.W.Frag) (np:Nat) (M:MD):Sp:=fun vs H Q _=>∃ (f:Fr) (α:Nat->Addr) (s:DS) (σ:St) (ds:List SV) (r:D×Gm),f.K=K/\ds.length=np/\RS f α s σ H/\RepVs f α s.Γ H ds vs/\M ds s.Γ=some r /\
 ∀ α' v H',RS f α' {s with Γ:=r.2} σ H'->Ext f α α' s.Γ r.2 H H'->Rep (wd f α' r.2 H') r.1 v->Q v H'
def spF (K:PySem.W.Frag) (np:Nat) (M:MDF):Sp:=fun vs H Q _=>∃ (f:Fr) (α:Nat->Addr) (s:DS) (σ:St) (ds:List SV) (r:List D×Gm),f.K=K/\ds.length=np/\RS f α s σ H/\RepVs f α s.Γ H ds vs/\M ds s.Γ=some r /\
 ∀ α' a vs H',RS f α' {s with Γ:=r.2} σ H'->Ext f α α' s.Γ r.2 H H'->H' a=none->Reps (wd f α' r.2 H') r.1 vs->Q (.ref a) (upd H' a (.lst vs))
@[simp] def DZ (n:Nat) (ds:List SV):List (Option SV):=ds.map some++List.replicate (n - ds.length) none
@[simp] def mFn (n:Nat) (m:MS):MD:=fun ds Γ=>(m ⟨DZ n ds,Γ,Γ.length⟩).bind fun o=>match o with
 | .rt d s=>some (d,s.Γ.take Γ.length)
 | .rf xs s=>some (.lst xs,s.Γ.take Γ.length)
 | .rp xs d s=>some (.tup [.lst xs,d],s.Γ.take Γ.length)
 | .nx s=>some (.non,s.Γ.take Γ.length)
 | .bk _=>none
 | .ct _=>none
@[simp] def Ap (n:Nat) (m:MS):MDF:=fun ds Γ=>(m ⟨DZ n ds,Γ,Γ.length⟩).bind fun o=>match o with
 | .rf xs s=>some (xs,s.Γ.take Γ.length)
 | _=>none
section
variable {P:Program} {w:World} {K:PySem.W.Frag} {mg:Str->Option Value} {base:Heap} {f:Fr} {α α':Nat->Addr} {s s':DS} {σ σ':St} {H H':Hp} {X:Cx} {pos:Pos}
theorem R3 {ds:List SV} {vs:List V}:RepVs f α s.Γ H ds vs->∀ (i:Nat) (d:SV),(ds.map some)[i]?=some (some d)->∃ v,(vs.map some)[i]?=some (some v)/\RepV f α s.Γ H d v:=by
 induction ds generalizing vs with
 | nil=>intro _ i d h;cases h
 | cons c ds ih=>
  intro h i d hi
  obtain ⟨v,r,rfl,h1,h2⟩:=h.cons_inv
  cases i with
  | zero=>cases hi;exact ⟨v,rfl,h1⟩
  | succ i=>exact ih h2 i d hi
theorem CZ:Over (fun _=>False) H H:=⟨fun _ _=>rfl,fun _ h=>h.elim,fun _ h=>h.elim⟩
theorem ML {N:List Str} {ds:List SV} {vs:List V} (rs:RS f α s σ H) (h:RepVs f α s.Γ H ds vs):RS (inn f α s.Γ (fun _=>False) H (Bc rs CZ)) α ⟨DZ N.length ds,s.Γ,s.Γ.length⟩ (L2.start N vs) H:=by
 have hl:=h.len
 refine rs.enter CZ (by unfold DZ L2.start;simp[hl]) fun i d e=>?_
 unfold DZ at e
 unfold L2.start
 by_cases c:i<ds.length
 ·rw[List.getElem?_append_left (by simpa using c)] at e
  rw[List.getElem?_append_left (by rw[List.length_map,hl];exact c)]
  exact R3 h i d e
 ·rw[List.getElem?_append_right (by simpa using c)] at e
  rw[List.getElem?_replicate] at e
  split at e<;>cases e
theorem Bq {x qual:Str} {st:Stmt} {fa:Addr} {fd:FuncData} {N ps:List Str} {k:Nat} {m:MS} (F:Fun K x qual st fa fd) (S:FnScope N ps (AW st))
  (hb:∀ (cdv:Value) (A:Around) (outer:List Env) (s:Shared) (H:Hp) (E:XK),Room k (A.deeper (PyProof.Rows.envOfC qual (AW st) s.heap.objs.size fa cdv))->DSs (DQ CX0 P w K mg base N qual (AW st) fa cdv A outer s H E).nox (Co st) m) :
  FnOk P w K mg base CX0 (k+1) fa fd ps (spD K ps.length (mFn N.length m)):=by
 refine F.ok S (fun vs H Q E h=>?_) (fun cdv A outer sh H vs Q E hr h=>?_)
 ·obtain ⟨f,α,s,σ,ds,r,_,hl,_,hv,_⟩:=h
  rw[hv.len,hl]
 obtain ⟨f,α,s,σ,ds,r,hK,hl,rs,hv,hM,q⟩:=h
 obtain ⟨o,h1,h2⟩:=bind_some hM
 refine ⟨_,hb cdv A outer sh H E hr (inn f α s.Γ (fun _=>False) H (Bc rs CZ)) hK,α,_,o,ML rs hv,Nat.le_refl _,h1,?_⟩
 cases o with
 | bk s'=>cases h2
 | ct s'=>cases h2
 | nx s'=>
  cases h2
  intro α' σ' H' r' l' x'
  obtain ⟨a1,a2,a3⟩:=rs.leave CZ r' l' x' (H1:=H') fun _ _=>rfl
  exact q α' .non H' a1 a2 (by unfold Rep;rfl)
 | rt d s'=>
  cases h2
  intro α' σ' v H' r' l' x' hw
  obtain ⟨a1,a2,a3⟩:=rs.leave CZ r' l' x' (H1:=H') fun _ _=>rfl
  exact q α' v H' a1 a2 (hw.kw a3)
 | rf xs s'=>
  cases h2
  intro α' σ' a vs' H' r' l' x' ha hx
  obtain ⟨a1,a2,a3⟩:=rs.leave CZ r' l' x' (H1:=H') fun _ _=>rfl
  exact q α' _ _ (a1.new ha) (a2.trans (.new a1 ha)) (ES a1 ha (hx.kw a3))
 | rp xs d s'=>
  cases h2
  intro α' σ' a t vs' w H' r' l' x' ha hx hw ht hta
  obtain ⟨a1,a2,a3⟩:=rs.leave CZ r' l' x' (H1:=H') fun _ _=>rfl
  have ht':(upd H' a (.lst vs')) t=none:=by rw[AH hta];exact ht
  have r1:=a1.new (o:=.lst vs') ha
  have e1:=Ext.new (o:=.lst vs') a1 ha
  exact q α' _ _ (r1.new ht') ((a2.trans e1).trans (.new r1 ht')) (HA r1 ht' (.cons (ES a1 ha (hx.kw a3)) (.cons ((hw.kw a3).kw e1.kw) .nil)))
theorem DH {x qual:Str} {st:Stmt} {fa:Addr} {fd:FuncData} {N ps:List Str} {k:Nat} {m:MS} (F:Fun K x qual st fa fd) (S:FnScope N ps (AW st))
  (hb:∀ (cdv:Value) (A:Around) (outer:List Env) (s:Shared) (H:Hp) (E:XK),Room k (A.deeper (PyProof.Rows.envOfC qual (AW st) s.heap.objs.size fa cdv))->DSs (DQ CX0 P w K mg base N qual (AW st) fa cdv A outer s H E).nox (Co st) m) :
  FnOk P w K mg base CX0 (k+1) fa fd ps (spF K ps.length (Ap N.length m)):=by
 refine F.ok S (fun vs H Q E h=>?_) (fun cdv A outer sh H vs Q E hr h=>?_)
 ·obtain ⟨f,α,s,σ,ds,r,_,hl,_,hv,_⟩:=h
  rw[hv.len,hl]
 obtain ⟨f,α,s,σ,ds,r,hK,hl,rs,hv,hM,q⟩:=h
 obtain ⟨o,h1,h2⟩:=bind_some hM
 refine ⟨_,hb cdv A outer sh H E hr (inn f α s.Γ (fun _=>False) H (Bc rs CZ)) hK,α,_,o,ML rs hv,Nat.le_refl _,h1,?_⟩
 cases o with
 | bk s'=>cases h2
 | ct s'=>cases h2
 | nx s'=>cases h2
 | rt d s'=>cases h2
 | rp xs d s'=>cases h2
 | rf xs s'=>
  cases h2
  intro α' σ' a vs' H' r' l' x' ha hx
  obtain ⟨a1,a2,a3⟩:=rs.leave CZ r' l' x' (H1:=H') fun _ _=>rfl
  exact q α' _ _ _ a1 a2 ha (hx.kw a3)
@[simp] def AJ (M:MD) (ms:MA):ME:=fun s=>(ms s).bind fun x=>(M x.1 x.2.Γ).map fun r=>(.v r.1,{x.2 with Γ:=r.2})
@[simp] def A0 (M:MDF) (ms:MA):MF:=fun s=>(ms s).bind fun x=>(M x.1 x.2.Γ).map fun r=>(r.1,{x.2 with Γ:=r.2})
def Ar (ms:MA) (n:Nat):Prop:=∀ s r,ms s=some r->r.1.length=n
theorem Ai:Ar AC 0:=fun s r e=>by cases e;rfl
theorem AU {m:ME} {ms:MA} {n:Nat} (h:Ar ms n):Ar (AB m ms) (n+1):=fun s r e=>by
 obtain ⟨x,h1,e⟩:=bind_some e
 obtain ⟨y,h2,rfl⟩:=Ab e
 show (x.1::y.1).length=n+1
 rw[List.length_cons,h _ _ h2]
theorem A5 {x:Str} {p:Pos} {e:Expr} {es:List Expr} {fa:Addr} {fd:FuncData} {ps:List Str} {k np:Nat} {M:MD} {ms:MA} (F:FnOk X.prog X.w X.K X.mg X.base CX0 k fa fd ps (spD X.K np M)) (hr:Room k X.A) (hg:Gl X x) (hm:X.mg x=some (.ref fa)) (hk:PySem.W.keepIn X.K (.ref fa)=true) (hb:Binds X.K fd ps [])
  (ha:DA X (e::es) ms) (hn:Ar ms np) (hdb:(x == ("__debug__":Str))=false:=by decide) (he:starEach (e::es) X.env=(false,eval e X.env)::starEach es X.env:=by rfl) (hpl:(backTo pos (starEach es X.env)).any (·.1)=false:=by rfl) :
  DE X (.Call (.Name x p) (e::es) [] pos) (AJ M ms):=fun f hf=>PE.imp (EL F hr hg hm hk hb .nil D5 (ha f hf) hdb he hpl) fun σ H Q hh_=>by
 obtain ⟨α,s,r,rs,lo,e0,q⟩:=hh_
 obtain ⟨y,h1,e0⟩:=bind_some e0
 obtain ⟨z,h2,rfl⟩:=Ab e0
 refine ⟨α,s,y,rs,lo,h1,fun α1 vs H1 rs1 l1 x1 hv=>?_⟩
 dsimp only
 rw[List.append_nil]
 exact ⟨f,α1,y.2,σ,y.1,z,hf,hn _ _ h1,rs1,hv,h2,fun α2 v H2 rs2 x2 hw=>q α2 v H2 rs2 l1 (x1.trans x2) hw⟩
theorem CO {x:Str} {p:Pos} {e:Expr} {es:List Expr} {fa:Addr} {fd:FuncData} {ps:List Str} {k np:Nat} {M:MDF} {ms:MA} (F:FnOk X.prog X.w X.K X.mg X.base CX0 k fa fd ps (spF X.K np M)) (hr:Room k X.A) (hg:Gl X x) (hm:X.mg x=some (.ref fa)) (hk:PySem.W.keepIn X.K (.ref fa)=true) (hb:Binds X.K fd ps [])
  (ha:DA X (e::es) ms) (hn:Ar ms np) (hdb:(x == ("__debug__":Str))=false:=by decide) (he:starEach (e::es) X.env=(false,eval e X.env)::starEach es X.env:=by rfl) (hpl:(backTo pos (starEach es X.env)).any (·.1)=false:=by rfl) :
  DF X (.Call (.Name x p) (e::es) [] pos) (A0 M ms):=fun f hf=>PE.imp (EL F hr hg hm hk hb .nil D5 (ha f hf) hdb he hpl) fun σ H Q hh_=>by
 obtain ⟨α,s,r,rs,lo,e0,q⟩:=hh_
 obtain ⟨y,h1,e0⟩:=bind_some e0
 obtain ⟨z,h2,rfl⟩:=Ab e0
 refine ⟨α,s,y,rs,lo,h1,fun α1 vs H1 rs1 l1 x1 hv=>?_⟩
 dsimp only
 rw[List.append_nil]
 exact ⟨f,α1,y.2,σ,y.1,z,hf,hn _ _ h1,rs1,hv,h2,fun α2 a us H2 rs2 x2 ha hx=>q α2 a us H2 rs2 l1 (x1.trans x2) ha hx⟩
end
section
variable {X:Cx} {f:Fr} {α:Nat->Addr} {s:DS} {σ:St} {H:Hp} {K:PySem.W.Frag}
theorem Am {Γ:Gm} {i:Int} {v:V} (h:RepV f α Γ H (.v (.int i)) v):v=.int i:=by
 have h:Rep (wd f α Γ H) (.int i) v:=h
 unfold Rep at h;exact h
theorem Bd {Γ:Gm} {i:Str} {v:V} (h:RepV f α Γ H (.v (.str i)) v):v=.str i:=by
 have h:Rep (wd f α Γ H) (.str i) v:=h
 unfold Rep at h;exact h
theorem Jc {Γ:Gm} {i:Bool} {v:V} (h:RepV f α Γ H (.v (.bl i)) v):v=.bl i:=by
 have h:Rep (wd f α Γ H) (.bl i) v:=h
 unfold Rep at h;exact h
theorem Vk {Γ:Gm} {v:V} (h:RepV f α Γ H (.v .non) v):v=.non:=by
 have h:Rep (wd f α Γ H) .non v:=h
 unfold Rep at h;exact h
theorem CY {Γ:Gm} {xs:List D} {v:V} (h:RepV f α Γ H (.v (.tup xs)) v):∃ a vs,v=.ref a/\H a=some (.tup vs)/\Reps (wd f α Γ H) xs vs:=by
 have h:Rep (wd f α Γ H) (.tup xs) v:=h
 unfold Rep at h
 obtain ⟨a,vs,e,_,h1,h2⟩:=h
 exact ⟨a,vs,e,h1,h2⟩
theorem By {W:Wd} {i:Int}:Rep W (.int i) (.int i):=by unfold Rep;rfl
theorem Be {W:Wd} {i:Bool}:Rep W (.bl i) (.bl i):=by unfold Rep;rfl
theorem JE {W:Wd} {i:Str}:Rep W (.str i) (.str i):=by unfold Rep;rfl
theorem KD {Γ:Gm}:RepV f α Γ H (.v .non) .non:=by show Rep (wd f α Γ H) .non .non;unfold Rep;rfl
theorem SY {Γ:Gm} {i:Int}:RepV f α Γ H (.v (.int i)) (.int i):=by show Rep (wd f α Γ H) (.int i) (.int i);unfold Rep;rfl
@[simp] def gI (c:Int->Int->Bool) (h:Int->Int->Int):Gm->SV->SV->Option D:=fun _ x y=>match x,y with
 | .v (.int i),.v (.int j)=>if c i j=true then some (.int (h i j)) else none
 | _,_=>none
theorem Gf {C:Int->Int->Prop} {c:Int->Int->Bool} {h:Int->Int->Int} (hc:∀ i j,c i j=true->C i j):OpD X (gI c h) (rI C fun i j=>.int (h i j)):=by
 intro f α s σ H x y u v z Q hf rs hu hv e q
 unfold gI at e
 split at e
 ·rename_i i j
  split at e
  ·rename_i hk
   cases e
   exact ⟨i,j,Am hu,Am hv,hc i j hk,q _ H rs .refl By⟩
  ·cases e
 ·cases e
@[simp] def gI0 (h:Int->Int->Int):Gm->SV->SV->Option D:=fun _ x y=>match x,y with
 | .v (.int i),.v (.int j)=>some (.int (h i j))
 | _,_=>none
theorem Uq {h:Int->Int->Int}:OpD X (gI0 h) (rI0 fun i j=>.int (h i j)):=by
 intro f α s σ H x y u v z Q hf rs hu hv e q
 unfold gI0 at e
 split at e
 ·rename_i i j
  cases e
  exact ⟨i,j,Am hu,Am hv,q _ H rs .refl By⟩
 ·cases e
@[simp] def gB0 (h:Int->Int->Bool):Gm->SV->SV->Option D:=fun _ x y=>match x,y with
 | .v (.int i),.v (.int j)=>some (.bl (h i j))
 | _,_=>none
theorem Rx {h:Int->Int->Bool}:OpD X (gB0 h) (rI0 fun i j=>.bl (h i j)):=by
 intro f α s σ H x y u v z Q hf rs hu hv e q
 unfold gB0 at e
 split at e
 ·rename_i i j
  cases e
  exact ⟨i,j,Am hu,Am hv,q _ H rs .refl Be⟩
 ·cases e
abbrev Dn:=gI0 fun i j=>i - j
def Ht (i j:Int):Bool:=decide ((-(2 ^ 64)<i/\i<2 ^ 64)\/(-(2 ^ 64)<j/\j<2 ^ 64))
def NQ (i j:Int):Bool:=decide (0<j/\j<2 ^ 64)
def Ie (i j:Int):Bool:=decide (0<j)
def Gb (i j:Int):Bool:=decide (0<=j/\j<=1000000/\i.natAbs<2 ^ 64)
abbrev BY:=gI Ht fun i j=>i * j
abbrev Bl:=gI NQ fun i j=>i / j
abbrev Ax:=gI Ie fun i j=>i % j
abbrev Cs:=gI Gb fun i j=>i ^ j.toNat
theorem RZ:OpD X BY (rI CMul fun i j=>.int (i * j)):=Gf fun i j h=>by unfold Ht at h;unfold CMul;exact of_decide_eq_true h
theorem Qt:OpD X Bl (rI (fun _ j=>0<j/\j<2 ^ 64) fun i j=>.int (i / j)):=Gf fun i j h=>of_decide_eq_true h
theorem OH:OpD X Ax (rI (fun _ j=>0<j) fun i j=>.int (i % j)):=Gf fun i j h=>of_decide_eq_true h
theorem VX:OpD X Cs (rI JZ fun i j=>.int (i ^ j.toNat)):=Gf fun i j h=>by unfold Gb at h;unfold JZ;exact of_decide_eq_true h
abbrev gGt:=gB0 fun i j=>decide (j<i)
@[simp] def AS:Gm->SV->SV->Option D:=fun Γ x y=>match x,y with
 | .v (.int i),.v (.int j)=>some (.int (i+j))
 | .v (.str a),.v (.str b)=>if a.length+b.length<=big then some (.str (a++b)) else none
 | x,y=>match elems Γ x,elems Γ y with
  | some xs,some ys=>if xs.length+ys.length<=big then some (.lst (xs++ys)) else none
  | _,_=>none
def J9:R2:=fun x y H Q=>rI0 (fun i j=>.int (i+j)) x y H Q\/(∃ i j,x=.str i/\y=.str j/\i.length+j.length<=sizeLine/\Q (.str (i++j)) H)\/Np x y H Q
theorem V8:OpR X (binaryOp .Add) J9:=op_add.or (op_add_str.or WC)
theorem QK:OpD X AS J9:=by
 intro f α s σ H x y u v z Q hf rs hu hv e q
 unfold AS at e
 split at e
 ·rename_i i j
  cases e
  exact .inl ⟨i,j,Am hu,Am hv,q _ H rs .refl By⟩
 ·rename_i a b
  split at e
  ·rename_i hz
   cases e
   exact .inr (.inl ⟨a,b,Bd hu,Bd hv,Ca hz,q _ H rs .refl JE⟩)
  ·cases e
 ·split at e
  ·rename_i xs ys h1 h2
   split at e
   ·rename_i hz
    cases e
    obtain ⟨a,vs,rfl,a1,a2⟩:=BW rs h1 hu
    obtain ⟨b,us,rfl,b1,b2⟩:=BW rs h2 hv
    exact .inr (.inr ⟨a,b,vs,us,rfl,rfl,a1,b1,by rw[a2.len,b2.len];exact Ca hz,fun p hp=>q _ _ (rs.new hp) (.new rs hp) (ES rs hp (a2.append b2))⟩)
   ·cases e
  ·cases e
@[simp] def Dr:SV->SV->Option Bool:=fun x y=>match x,y with
 | .v (.int i),.v (.int j)=>some (decide (i=j))
 | .v (.str i),.v (.str j)=>some (decide (i=j))
 | .v (.bl i),.v (.bl j)=>some (decide (i=j))
 | _,_=>none
@[simp] def D9:Gm->SV->SV->Option Bool:=fun Γ x y=>match elems Γ x,elems Γ y with
 | some [],some ys=>some ys.isEmpty
 | some xs,some []=>some xs.isEmpty
 | _,_=>none
@[simp] def gEq:Gm->SV->SV->Option D:=fun Γ x y=>match Dr x y with
 | some b=>some (.bl b)
 | none=>(D9 Γ x y).map .bl
@[simp] def gNe:Gm->SV->SV->Option D:=fun Γ x y=>match Dr x y with
 | some b=>some (.bl !b)
 | none=>(D9 Γ x y).map fun b=>.bl !b
theorem Jp {Γ:Gm} {x y:SV} {u v:V} {b:Bool} (h:Dr x y=some b) (hu:RepV f α Γ H x u) (hv:RepV f α Γ H y v):Hv u v=true/\decide (u=v)=b:=by
 unfold Dr at h
 split at h
 ·cases h;rw[Am hu,Am hv];exact ⟨rfl,by simp⟩
 ·cases h;rw[Bd hu,Bd hv];exact ⟨rfl,by simp⟩
 ·cases h;rw[Jc hu,Jc hv];exact ⟨rfl,by simp⟩
 ·cases h
theorem Jr {x y:SV} {u v:V} {b:Bool} (rs:RS f α s σ H) (h:D9 s.Γ x y=some b) (hu:RepV f α s.Γ H x u) (hv:RepV f α s.Γ H y v):∃ p q xs ys,u=.ref p/\v=.ref q/\H p=some (.lst xs)/\H q=some (.lst ys)/\(xs=[]\/ys=[])/\decide (xs=ys)=b:=by
 unfold D9 at h
 split at h
 ·rename_i ys h1 h2
  cases h
  obtain ⟨a,vs,rfl,a1,a2⟩:=BW rs h1 hu
  obtain ⟨c,us,rfl,b1,b2⟩:=BW rs h2 hv
  refine ⟨a,c,vs,us,rfl,rfl,a1,b1,.inl a2.nil_inv,?_⟩
  rw[a2.nil_inv]
  cases ys with
  | nil=>rw[b2.nil_inv];rfl
  | cons d ds=>obtain ⟨w,r,rfl,_⟩:=b2.cons_inv;rfl
 ·rename_i xs _ h1 h2
  cases h
  obtain ⟨a,vs,rfl,a1,a2⟩:=BW rs h1 hu
  obtain ⟨c,us,rfl,b1,b2⟩:=BW rs h2 hv
  refine ⟨a,c,vs,us,rfl,rfl,a1,b1,.inr b2.nil_inv,?_⟩
  rw[b2.nil_inv]
  cases xs with
  | nil=>rw[a2.nil_inv];rfl
  | cons d ds=>obtain ⟨w,r,rfl,_⟩:=a2.cons_inv;rfl
 ·cases h
def GE (K:PySem.W.Frag):R2:=fun x y H Q=>rEq x y H Q\/Nj K x y H Q
def GK (K:PySem.W.Frag):R2:=fun x y H Q=>rNe x y H Q\/NJ K x y H Q
theorem Pk (hu:X.A.units<cLine):OpR X (compareOp .Eq) (GE X.K):=op_eq.or (TN hu)
theorem Tz (hu:X.A.units<cLine):OpR X (compareOp .NotEq) (GK X.K):=op_ne.or (WG hu)
theorem Qn:OpD X gEq (GE X.K):=by
 intro f α s σ H x y u v z Q hf rs hu hv e q
 unfold gEq at e
 split at e
 ·rename_i b hb
  cases e
  obtain ⟨h1,h2⟩:=Jp hb hu hv
  exact .inl ⟨h1,by rw[h2];exact q _ H rs .refl Be⟩
 ·obtain ⟨b,hb,rfl⟩:=Ab e
  obtain ⟨p,q',xs,ys,rfl,rfl,h1,h2,h3,h4⟩:=Jr rs hb hu hv
  exact .inr ⟨p,q',xs,ys,rfl,rfl,SqL.of h1,SqL.of h2,h3,by rw[h4];exact q _ H rs .refl Be⟩
theorem Ro:OpD X gNe (GK X.K):=by
 intro f α s σ H x y u v z Q hf rs hu hv e q
 unfold gNe at e
 split at e
 ·rename_i b hb
  cases e
  obtain ⟨h1,h2⟩:=Jp hb hu hv
  exact .inl ⟨h1,by rw[h2];exact q _ H rs .refl Be⟩
 ·obtain ⟨b,hb,rfl⟩:=Ab e
  obtain ⟨p,q',xs,ys,rfl,rfl,h1,h2,h3,h4⟩:=Jr rs hb hu hv
  exact .inr ⟨p,q',xs,ys,rfl,rfl,SqL.of h1,SqL.of h2,h3,by rw[h4];exact q _ H rs .refl Be⟩
def intsOf:List D->Option (List Int)
 | []=>some []
 | .int i::r=>(intsOf r).map (i::·)
 | _=>none
theorem Cc:∀ {xs:List D} {ns:List Int},intsOf xs=some ns->xs=ns.map .int
 | [],ns,e=>by cases e;rfl
 | .int i::r,ns,e=>by
  obtain ⟨ms,h,rfl⟩:=Ab (show (intsOf r).map (i::·)=some ns from e)
  rw[Cc h];rfl
theorem Mq:∀ {ns:List Int},intsOf (ns.map .int)=some ns
 | []=>rfl
 | i::r=>by show (intsOf (r.map D.int)).map (i::·)=_;rw[Mq];rfl
@[simp] def DD:Gm->SV->SV->Option D:=fun _ x y=>match x,y with
 | .v (.int i),.v (.int j)=>some (.bl (decide (i<j)))
 | .v (.tup xs),.v (.tup ys)=>(intsOf xs).bind fun ns=>(intsOf ys).map fun ms=>.bl (HT.lexLt ns ms)
 | _,_=>none
def Nl (K:PySem.W.Frag):R2:=fun x y H Q=>rI0 (fun i j=>.bl (decide (i<j))) x y H Q\/LQ K x y H Q
theorem P3 (hu:X.A.units<cLine):OpR X (compareOp .Lt) (Nl X.K):=op_lt.or (Sf hu)
theorem R6:OpD X DD (Nl X.K):=by
 intro f α s σ H x y u v z Q hf rs hu hv e q
 unfold DD at e
 split at e
 ·rename_i i j
  cases e
  exact .inl ⟨i,j,Am hu,Am hv,q _ H rs .refl Be⟩
 ·rename_i xs ys
  obtain ⟨ns,h1,e⟩:=bind_some e
  obtain ⟨ms,h2,rfl⟩:=Ab e
  have:=Cc h1
  subst this
  have:=Cc h2
  subst this
  obtain ⟨a,vs,rfl,a1,a2⟩:=CY hu
  obtain ⟨b,us,rfl,b1,b2⟩:=CY hv
  rw[a2.ints] at a1
  rw[b2.ints] at b1
  exact .inr ⟨a,b,ns,ms,rfl,rfl,SqT.of a1,SqT.of b1,q _ H rs .refl Be⟩
 ·cases e
@[simp] def gIx:Gm->SV->SV->Option D:=fun Γ x y=>match y with
 | .v (.int i)=>match x with
  | .v (.tup xs)=>atI xs i
  | .v (.str z)=>if z.length<=big then (atI z.cps.toList i).map fun c=>.str ⟨#[c]⟩ else none
  | .v (.scr ns)=>(atI ns i).map .int
  | x=>(elems Γ x).bind fun xs=>atI xs i
 | _=>none
theorem KU {W:Wd} {xs:List D} {vs:List V} {i:Int} {d:D} (h:Reps W xs vs) (e:atI xs i=some d):∃ v,atI vs i=some v/\Rep W d v:=by
 unfold atI at *
 rw[h.len]
 obtain ⟨j,h1,h2⟩:=bind_some e
 obtain ⟨v,h3,h4⟩:=h.get h2
 exact ⟨v,by rw[h1];exact h3,h4⟩
theorem UY {ns:List Int} {i n:Int} (e:atI ns i=some n):atI (ns.map V.int) i=some (.int n):=by
 unfold atI at *
 rw[List.length_map]
 obtain ⟨j,h1,h2⟩:=bind_some e
 rw[h1]
 show (ns.map V.int)[j]?=_
 rw[List.getElem?_map,h2]
 rfl
theorem Nh {Γ:Gm} {ns:List Int} {v:V} (h:RepV f α Γ H (.v (.scr ns)) v):∃ a,v=.ref a/\SqL f.K H a (ns.map V.int):=by
 have h:Rep (wd f α Γ H) (.scr ns) v:=h
 unfold Rep at h
 obtain ⟨a,e,h⟩:=h
 refine ⟨a,e,?_⟩
 rcases h with ⟨_,h⟩ | h
 ·exact .inl h
 ·exact h H
theorem Si:OpD X gIx (rIx X.K):=by
 intro f α s σ H x y u v z Q hf rs hu hv e q
 unfold gIx at e
 split at e
 ·rename_i i
  split at e
  ·rename_i xs
   obtain ⟨a,vs,rfl,h1,h2⟩:=CY hu
   obtain ⟨w,h3,h4⟩:=KU h2 e
   exact .inr (.inl ⟨a,vs,i,w,rfl,Am hv,SqT.of h1,h3,q w H rs .refl h4⟩)
  ·rename_i str
   split at e
   ·rename_i hz
    obtain ⟨c,h1,rfl⟩:=Ab e
    exact .inr (.inr ⟨str,i,c,Bd hu,Am hv,Ca hz,h1,q _ H rs .refl JE⟩)
   ·cases e
  ·rename_i ns
   obtain ⟨n,h1,rfl⟩:=Ab e
   obtain ⟨a,rfl,h2⟩:=Nh hu
   exact .inl ⟨a,_,i,_,rfl,Am hv,by rw[<-hf];exact h2,UY h1,q _ H rs .refl By⟩
  ·obtain ⟨xs,h1,e⟩:=bind_some e
   obtain ⟨a,vs,rfl,h3,h2⟩:=BW rs h1 hu
   obtain ⟨w,h4,h5⟩:=KU h2 e
   exact .inl ⟨a,vs,i,w,rfl,Am hv,SqL.of h3,h4,q w H rs .refl h5⟩
 ·cases e
@[simp] def A9:Gm->List SV->Option D:=fun Γ xs=>match xs with
 | [.v (.tup xs)]=>some (.int xs.length)
 | [.v (.str z)]=>if z.length<=big then some (.int z.length) else none
 | [.v (.scr ns)]=>some (.int ns.length)
 | [x]=>(elems Γ x).map fun xs=>.int xs.length
 | _=>none
theorem A2:CaD X A9 (fun xs H Q=>∃ x n,xs=[x]/\Nf X.K x H n/\Q (.int n) H):=by
 intro f α s σ H xs us z Q hf rs hu e q
 unfold A9 at e
 split at e
 ·rename_i xs
  cases e
  obtain ⟨v,r,rfl,h1,h2⟩:=hu.cons_inv
  rw[h2.nil_inv]
  obtain ⟨a,vs,rfl,h3,h4⟩:=CY h1
  exact ⟨_,xs.length,rfl,.inr ⟨vs,SqT.of h3,h4.len.symm⟩,q _ H rs .refl By⟩
 ·rename_i z
  split at e
  ·rename_i hz
   cases e
   obtain ⟨v,r,rfl,h1,h2⟩:=hu.cons_inv
   rw[h2.nil_inv,Bd h1]
   exact ⟨_,z.length,rfl,⟨Ca hz,rfl⟩,q _ H rs .refl By⟩
  ·cases e
 ·rename_i ns
  cases e
  obtain ⟨v,r,rfl,h1,h2⟩:=hu.cons_inv
  rw[h2.nil_inv]
  obtain ⟨a,rfl,h3⟩:=Nh h1
  exact ⟨_,ns.length,rfl,.inl ⟨_,by rw[<-hf];exact h3,by rw[List.length_map]⟩,q _ H rs .refl By⟩
 ·rename_i x _ _ _
  obtain ⟨xs,h0,rfl⟩:=Ab e
  obtain ⟨v,r,rfl,h1,h2⟩:=hu.cons_inv
  rw[h2.nil_inv]
  obtain ⟨a,vs,rfl,h3,h4⟩:=BW rs h0 h1
  exact ⟨_,xs.length,rfl,.inl ⟨vs,SqL.of h3,h4.len.symm⟩,q _ H rs .refl By⟩
 ·cases e
@[simp] def EU:Gm->List SV->Option D:=fun _ xs=>match xs with
 | [.v (.int i),.v (.int j)]=>some (.int (if j > i then j else i))
 | _=>none
@[simp] def EN:Gm->List SV->Option D:=fun _ xs=>match xs with
 | [.v (.int i),.v (.int j)]=>some (.int (if j<i then j else i))
 | _=>none
theorem QF:CaD X EU (fun xs H Q=>∃ i j,xs=[.int i,.int j]/\Q (.int (if j > i then j else i)) H):=by
 intro f α s σ H xs us z Q hf rs hu e q
 unfold EU at e
 split at e
 ·rename_i i j
  cases e
  obtain ⟨v,r,rfl,h1,h2⟩:=hu.cons_inv
  obtain ⟨v',r',rfl,h3,h4⟩:=h2.cons_inv
  rw[h4.nil_inv,Am h1,Am h3]
  exact ⟨i,j,rfl,q _ H rs .refl By⟩
 ·cases e
theorem Qc:CaD X EN (fun xs H Q=>∃ i j,xs=[.int i,.int j]/\Q (.int (if j<i then j else i)) H):=by
 intro f α s σ H xs us z Q hf rs hu e q
 unfold EN at e
 split at e
 ·rename_i i j
  cases e
  obtain ⟨v,r,rfl,h1,h2⟩:=hu.cons_inv
  obtain ⟨v',r',rfl,h3,h4⟩:=h2.cons_inv
  rw[h4.nil_inv,Am h1,Am h3]
  exact ⟨i,j,rfl,q _ H rs .refl By⟩
 ·cases e
def insI (i:Int):List Int->List Int
 | []=>[i]
 | j::r=>if i<=j then i::j::r else j::insI i r
def sortI:List Int->List Int
 | []=>[]
 | i::r=>insI i (sortI r)
theorem insI_perm (i:Int):∀ r:List Int,(insI i r).Perm (i::r)
 | []=>.refl _
 | j::r=>by
  unfold insI
  split
  ·exact .refl _
  ·exact ((insI_perm i r).cons j).trans (.swap i j r)
theorem sortI_perm:∀ r:List Int,(sortI r).Perm r
 | []=>.refl _
 | i::r=>(insI_perm i _).trans ((sortI_perm r).cons i)
theorem K0 (i:Int):∀ r:List Int,r.Pairwise (·<=·)->(insI i r).Pairwise (·<=·)
 | [],_=>List.pairwise_singleton _ _
 | j::r,h=>by
  unfold insI
  obtain ⟨h1,h2⟩:=List.pairwise_cons.mp h
  split
  ·rename_i c
   refine List.pairwise_cons.mpr ⟨fun k hk=>?_,h⟩
   rcases List.mem_cons.mp hk with rfl | hk
   ·exact c
   ·have:=h1 k hk;lia
  ·rename_i c
   refine List.pairwise_cons.mpr ⟨fun k hk=>?_,K0 i r h2⟩
   rcases List.mem_cons.mp ((insI_perm i r).mem_iff.mp hk) with rfl | hk
   ·lia
   ·exact h1 k hk
theorem M4:∀ r:List Int,(sortI r).Pairwise (·<=·)
 | []=>.nil
 | i::r=>K0 i _ (M4 r)
theorem UR {xs ys:List Int} (p:xs.Perm ys) (hx:xs.Pairwise (·<=·)) (hy:ys.Pairwise (·<=·)):xs=ys:=
 p.eq_of_pairwise (fun a b _ _ h1 h2=>by lia) hx hy
def tupI (ns:List Int):D:=.tup (ns.map .int)
def HG:List D->Option (List (List Int))
 | []=>some []
 | .tup xs::r=>(intsOf xs).bind fun ns=>if ns=[] then none else (HG r).map (ns::·)
 | _=>none
theorem Ll:∀ {xs:List D} {nss:List (List Int)},HG xs=some nss->xs=nss.map tupI/\∀ ns∈nss,ns≠[]
 | [],nss,e=>by cases e;exact ⟨rfl,fun _ h=>nomatch h⟩
 | .tup xs::r,nss,e=>by
  obtain ⟨ns,h1,e⟩:=bind_some (show (intsOf xs).bind _=some nss from e)
  split at e
  ·cases e
  ·rename_i hne
   obtain ⟨mss,h2,rfl⟩:=Ab e
   obtain ⟨h3,h4⟩:=Ll h2
   refine ⟨by rw[h3,Cc h1];rfl,fun ks hk=>?_⟩
   rcases List.mem_cons.mp hk with rfl | hk
   ·exact hne
   ·exact h4 ks hk
 | .non::r,nss,e=>by cases e
 | .bl _::r,nss,e=>by cases e
 | .int _::r,nss,e=>by cases e
 | .str _::r,nss,e=>by cases e
 | .lst _::r,nss,e=>by cases e
 | .scr _::r,nss,e=>by cases e
theorem Kk:∀ {nss:List (List Int)},(∀ ns∈nss,ns≠[])->HG (nss.map tupI)=some nss
 | [],_=>rfl
 | ns::r,h=>by
  show (intsOf (ns.map .int)).bind _=_
  rw[Mq]
  show (if ns=[] then none else _)=_
  rw[if_neg (h ns List.mem_cons_self),Kk fun ks hk=>h ks (List.mem_cons_of_mem _ hk)]
  rfl
def D2 (x:List Int):List (List Int)->List (List Int)
 | []=>[x]
 | y::r=>if HT.lexLt y x=true then y::D2 x r else x::y::r
def BG:List (List Int)->List (List Int)
 | []=>[]
 | x::r=>D2 x (BG r)
theorem JM (x:List Int):∀ r,(D2 x r).Perm (x::r)
 | []=>.refl _
 | y::r=>by
  unfold D2
  split
  ·exact ((JM x r).cons y).trans (.swap x y r)
  ·exact .refl _
theorem C8:∀ r,(BG r).Perm r
 | []=>.refl _
 | x::r=>(JM x _).trans ((C8 r).cons x)
abbrev D6 (r:List (List Int)):Prop:=r.Pairwise fun u v=>HT.lexLt v u=false
theorem M6 (x:List Int):∀ r,D6 r->D6 (D2 x r)
 | [],_=>List.pairwise_singleton _ _
 | y::r,h=>by
  unfold D2
  obtain ⟨h1,h2⟩:=List.pairwise_cons.mp h
  split
  ·rename_i c
   refine List.pairwise_cons.mpr ⟨fun k hk=>?_,M6 x r h2⟩
   rcases List.mem_cons.mp ((JM x r).mem_iff.mp hk) with rfl | hk
   ·exact EvS.JF c
   ·exact h1 k hk
  ·rename_i c
   have c':HT.lexLt y x=false:=by cases hc:HT.lexLt y x with | false=>rfl | true=>exact absurd hc c
   refine List.pairwise_cons.mpr ⟨fun k hk=>?_,h⟩
   rcases List.mem_cons.mp hk with rfl | hk
   ·exact c'
   ·exact EvS.Hz c' (h1 k hk)
theorem FY:∀ r,D6 (BG r)
 | []=>.nil
 | x::r=>M6 x _ (FY r)
theorem Nw {xs ys:List (List Int)} (p:xs.Perm ys) (hx:D6 xs) (hy:D6 ys):xs=ys:=
 p.eq_of_pairwise (fun a b _ _ h1 h2=>EvS.Lm h1 h2) hx hy
@[simp] def CU:Gm->List SV->Option (List D):=fun Γ xs=>match xs with
 | [x]=>(elems Γ x).bind fun xs=>match intsOf xs with
  | some ns=>some ((sortI ns).map .int)
  | none=>(HG xs).map fun nss=>(BG nss).map tupI
 | _=>none
def FN (K:PySem.W.Frag):List V->Hp->VK->Prop:=fun xs H Q=>(∃ p ns,xs=[.ref p]/\SqL K H p (ns.map V.int)/\∀ l (ms:List Int),H l=none->ms.Perm ns->ms.Pairwise (·<=·)->Q (.ref l) (upd H l (.lst (ms.map V.int))))\/J3 K xs H Q
theorem call_sortedA:CallR X (.builtin "sorted") (FN X.K):=call_sorted.or VQ
theorem Kc {W:Wd} {ns:List Int} {v:V} (h:Rep W (tupI ns) v):∃ a,v=.ref a/\W.H a=some (.tup (ns.map V.int)):=by
 unfold tupI Rep at h
 obtain ⟨a,vs,e,_,h1,h2⟩:=h
 rw[h2.ints] at h1
 exact ⟨a,e,h1⟩
theorem Lu {W:Wd} {ns:List Int} {v:V} (h:Rep W (tupI ns) v):CC W.H v=ns:=by
 obtain ⟨a,rfl,h1⟩:=Kc h
 show (match W.H a with | some (.tup xs)=>xs.map Gk | _=>[])=ns
 rw[h1]
 exact Km ns
theorem LX {W:Wd}:∀ {nss:List (List Int)} {vs:List V},Reps W (nss.map tupI) vs->vs.map (CC W.H)=nss/\∀ v∈vs,Rep W (tupI (CC W.H v)) v
 | [],vs,h=>by rw[h.nil_inv];exact ⟨rfl,fun _ h=>nomatch h⟩
 | ns::r,vs,h=>by
  obtain ⟨v,q,rfl,h1,h2⟩:=Reps.cons_inv (d:=tupI ns) (ds:=r.map tupI) h
  obtain ⟨h3,h4⟩:=LX h2
  refine ⟨by rw[List.map_cons,h3,Lu h1],fun u hu=>?_⟩
  rcases List.mem_cons.mp hu with rfl | hu
  ·rw[Lu h1];exact h1
  ·exact h4 u hu
theorem LP {W:Wd}:∀ {ws:List V},(∀ v∈ws,Rep W (tupI (CC W.H v)) v)->Reps W ((ws.map (CC W.H)).map tupI) ws
 | [],_=>.nil
 | w::ws,h=>.cons (h w List.mem_cons_self) (LP fun v hv=>h v (List.mem_cons_of_mem _ hv))
theorem NA:CaF X CU (FN X.K):=by
 intro f α s σ H xs us z Q hf rs hu e q
 unfold CU at e
 split at e
 ·obtain ⟨xs,h0,e⟩:=bind_some e
  obtain ⟨v,r,rfl,h1,h2⟩:=hu.cons_inv
  rw[h2.nil_inv]
  obtain ⟨a,vs,rfl,h3,h4⟩:=BW rs h0 h1
  split at e
  ·rename_i ns h00
   cases e
   have:=Cc h00
   subst this
   have:=h4.ints
   subst this
   refine .inl ⟨a,ns,rfl,SqL.of h3,fun l ms hl hp hs=>q l _ hl ?_⟩
   rw[UR (hp.trans (sortI_perm ns).symm) hs (M4 ns)]
   exact Reps.of_ints
  ·obtain ⟨nss,h5,rfl⟩:=Ab e
   obtain ⟨h6,h7⟩:=Ll h5
   subst h6
   obtain ⟨n1,n2⟩:=LX h4
   refine .inr ⟨a,vs,rfl,SqL.of h3,fun v hv=>?_,fun l ws hl hp hs=>q l _ hl ?_⟩
   ·obtain ⟨b,e1,e2⟩:=Kc (n2 v hv)
    exact ⟨b,_,e1,e2,h7 _ (by rw[<-n1];exact List.mem_map.mpr ⟨v,hv,rfl⟩)⟩
   ·have e1:ws.map (CC H)=BG nss:=Nw (((hp.map (CC H)).trans (by rw[n1])).trans (C8 nss).symm) (by rw[D6,List.pairwise_map];exact hs) (FY nss)
    rw[<-e1]
    exact LP fun v hv=>n2 v (hp.mem_iff.mp hv)
 ·cases e
@[simp] def BH (m:ME):MF:=fun s=>(m s).bind fun r=>match r.1 with
 | .v (.lst xs)=>some (xs,r.2)
 | .v (.tup xs)=>some (xs,r.2)
 | _=>none
variable {tg a b:Expr} {pos:Pos}
theorem PI.imp {src:Expr} {t t':TI} (h:PI X tg src t) (k:∀ σ H R,t' σ H R->t σ H R):PI X tg src t':=fun pins s σ H R I q=>h pins s σ H R I (k _ _ _ q)
theorem D8 {f:Fr} {α0 α:Nat->Addr} {Γ0 Γ:Gm} {H0 H Hh:Hp} {p:Addr} {vs:List V} {xs:List D} (x:Ext f α0 α Γ0 Γ H0 H) (hb:¬(f.F p\/Ah Γ0 α0 p)) (h:H0 p=some (.lst vs)) (hx:Reps (wd f α0 Γ0 H0) xs vs) (sup:∀ a o,H a=some o->Hh a=some o) :
  Hh p=some (.lst vs)/\Reps (wd f α Γ H) xs vs:=⟨sup _ _ (x.kw.keep p _ hb h).1,hx.kw x.kw⟩
theorem Io {f:Fr} {α0 α:Nat->Addr} {Γ0 Γ:Gm} {H0 H Hh:Hp} {p:Addr} {vs:List V} {xs:List D} (x:Ext f α0 α Γ0 Γ H0 H) (hb:¬(f.F p\/Ah Γ0 α0 p)) (h:H0 p=some (.tup vs)) (hx:Reps (wd f α0 Γ0 H0) xs vs) (sup:∀ a o,H a=some o->Hh a=some o) :
  Hh p=some (.tup vs)/\Reps (wd f α Γ H) xs vs:=⟨sup _ _ (x.kw.keep p _ hb h).1,hx.kw x.kw⟩
theorem Ck {m:ME} (h:DE X a m):DI X tg a (BH m):=fun f hf=>PI.imp (L2.PI.or (Ng (h f hf)) (VZ (h f hf))) fun σ H R hh_=>by
 obtain ⟨α,s,r,rs,lo,e,q⟩:=hh_
 obtain ⟨⟨x,s1⟩,h1,e⟩:=bind_some e
 simp only at e
 split at e
 ·rename_i xs
  cases e
  refine .inl ⟨α,s,_,rs,lo,h1,fun α' v H' rs' l' x' hv=>?_⟩
  have hv:Rep (wd f α' s1.Γ H') (.lst xs) v:=hv
  unfold Rep at hv
  obtain ⟨p,vs,rfl,hb,h2,h3⟩:=hv
  refine ⟨p,rfl,⟨vs,SqL.of h2⟩,q _ α' H' rs' l' x' ⟨?_,?_,?_⟩⟩
  ·intro i α2 s2 σ2 H2 Hh hi r2 x2 sup
   obtain ⟨g1,_⟩:=D8 x2 hb h2 h3 sup
   exact ⟨vs,vs[i]'(by rw[h3.len];exact hi),SqL.of g1,List.getElem?_eq_getElem _⟩
  ·intro i d y α2 s2 σ2 H2 Hh H3 hd r2 x2 sup yl
   obtain ⟨g1,g2⟩:=D8 x2 hb h2 h3 sup
   obtain ⟨rfl,yl⟩:=yl
   obtain ⟨w,w1,w2⟩:=g2.get hd
   have:=yl vs (SqL.of g1)
   rw[w1] at this
   cases this
   exact .inl ⟨rfl,w2⟩
  ·intro α2 s2 σ2 H2 Hh r2 x2 sup
   obtain ⟨g1,_⟩:=D8 x2 hb h2 h3 sup
   exact ⟨vs,SqL.of g1,by rw[h3.len];exact Nat.le_refl _⟩
 ·rename_i xs
  cases e
  refine .inr ⟨α,s,_,rs,lo,h1,fun α' v H' rs' l' x' hv=>?_⟩
  have hv:Rep (wd f α' s1.Γ H') (.tup xs) v:=hv
  unfold Rep at hv
  obtain ⟨p,vs,rfl,hb,h2,h3⟩:=hv
  refine ⟨p,rfl,⟨vs,SqT.of h2⟩,q _ α' H' rs' l' x' ⟨?_,?_,?_⟩⟩
  ·intro i α2 s2 σ2 H2 Hh hi r2 x2 sup
   obtain ⟨g1,_⟩:=Io x2 hb h2 h3 sup
   exact ⟨vs,vs[i]'(by rw[h3.len];exact hi),SqT.of g1,List.getElem?_eq_getElem _⟩
  ·intro i d y α2 s2 σ2 H2 Hh H3 hd r2 x2 sup yl
   obtain ⟨g1,g2⟩:=Io x2 hb h2 h3 sup
   obtain ⟨rfl,yl⟩:=yl
   obtain ⟨w,w1,w2⟩:=g2.get hd
   have:=yl vs (SqT.of g1)
   rw[w1] at this
   cases this
   exact .inl ⟨rfl,w2⟩
  ·intro α2 s2 σ2 H2 Hh r2 x2 sup
   obtain ⟨g1,_⟩:=Io x2 hb h2 h3 sup
   exact ⟨vs,SqT.of g1,by rw[h3.len];exact Nat.le_refl _⟩
 ·cases e
def upTo (lo:Int):Nat->List D
 | 0=>[]
 | n+1=>.int lo::upTo (lo+1) n
theorem Cq (lo:Int):∀ n,(upTo lo n).length=n:=by
 intro n
 induction n generalizing lo with
 | zero=>rfl
 | succ n ih=>unfold upTo;rw[List.length_cons,ih]
theorem LY (lo:Int):∀ (n i:Nat),i<n->(upTo lo n)[i]?=some (.int (lo+i)):=by
 intro n
 induction n generalizing lo with
 | zero=>intro i h;exact absurd h (Nat.not_lt_zero _)
 | succ n ih=>
  intro i h
  cases i with
  | zero=>unfold upTo;simp
  | succ i=>
   unfold upTo
   rw[List.getElem?_cons_succ,ih (lo+1) i (Nat.lt_of_succ_lt_succ h)]
   congr 2
   lia
theorem Vl {α0:Nat->Addr} {Γ0:Gm} {H0:Hp} (lo:Int) (n:Nat):DIt f (Itr lo n) (upTo lo n) α0 Γ0 H0:=by
 refine ⟨fun i _ _ _ _ _ hi _ _ _=>by rw[Cq] at hi;exact hi,fun i d y α2 s2 σ2 H2 Hh H3 hd r2 x2 sup yl=>?_,fun _ _ _ _ _ _ _ _=>by show n<=(upTo lo n).length;rw[Cq];exact Nat.le_refl _⟩
 obtain ⟨rfl,rfl⟩:=yl
 have hi:=(List.getElem?_eq_some_iff.mp hd).1
 rw[Cq] at hi
 rw[LY lo n i hi] at hd
 cases hd
 exact .inl ⟨rfl,By⟩
def okR (j:Int):Bool:=decide (j<2 ^ 62/\-(2 ^ 62)<=j)
theorem Lx {j:Int} (h:-1000000<=j) (h2:j<=1000000):okR j=true:=decide_eq_true ⟨by lia,by lia⟩
@[simp] def Bm (ms:MA):MF:=fun s=>(ms s).bind fun r=>match r.1 with
 | [.v (.int j)]=>if okR j=true then some (upTo 0 j.toNat,r.2) else none
 | _=>none
theorem Dy {ms:MA} {p:Pos} (hg:Gl X "range") (hm:X.mg "range"=none) (ha:DA X [a] ms) (hs:starEach [a] X.env=[(false,eval a X.env)]:=by rfl):DI X tg (.Call (.Name "range" p) [a] [] pos) (Bm ms):=fun f hf=>PI.imp (Ow hg hm (ha f hf) hs) fun σ H R hh_=>by
 obtain ⟨α,s,r,rs,lo,e,q⟩:=hh_
 obtain ⟨⟨x,s1⟩,h1,e⟩:=bind_some e
 simp only at e
 split at e
 ·rename_i j
  split at e
  ·rename_i hj
   cases e
   refine ⟨α,s,_,rs,lo,h1,fun α' vs H' rs' l' x' hv=>?_⟩
   obtain ⟨v,r,rfl,h2,h3⟩:=hv.cons_inv
   rw[h3.nil_inv,Am h2]
   have hj:=of_decide_eq_true hj
   exact ⟨j,rfl,hj.2,hj.1,q _ α' H' rs' l' x' (Vl 0 _)⟩
  ·cases e
 ·cases e
def CG (i:Int):List D->List D
 | []=>[]
 | d::r=>.tup [.int i,d]::CG (i+1) r
theorem Ii (i:Int):∀ xs,(CG i xs).length=xs.length:=by
 intro xs
 induction xs generalizing i with
 | nil=>rfl
 | cons d r ih=>unfold CG;rw[List.length_cons,List.length_cons,ih]
theorem Hq (i:Int):∀ (xs:List D) (k:Nat) (d:D),(CG i xs)[k]?=some d->∃ x,xs[k]?=some x/\d=.tup [.int (i+k),x]:=by
 intro xs
 induction xs generalizing i with
 | nil=>intro k d h;cases h
 | cons c r ih=>
  intro k d h
  cases k with
  | zero=>cases h;exact ⟨c,rfl,by simp⟩
  | succ k=>
   unfold CG at h
   rw[List.getElem?_cons_succ] at h
   obtain ⟨x,h1,h2⟩:=ih (i+1) k d h
   refine ⟨x,h1,?_⟩
   rw[h2]
   congr 3
   lia
@[simp] def Ej (ms:MA):MF:=fun s=>(ms s).bind fun r=>match r.1 with
 | [.v (.lst xs)]=>some (CG 0 xs,r.2)
 | _=>none
theorem Jo {ms:MA} {p cp tp:Pos} {elts:List Expr} {k:Nat} (hg:Gl X "enumerate") (hm:X.mg "enumerate"=none) (ha:DA X [a] ms) (hs:starEach [a] X.env=[(false,eval a X.env)]:=by rfl):DI X (.Tuple elts k tp) (.Call (.Name "enumerate" p) [a] [] cp) (Ej ms):=fun f hf=>PI.imp (SW hg hm (ha f hf) hs) fun σ H R hh_=>by
 obtain ⟨α,s,r,rs,lo,e,q⟩:=hh_
 obtain ⟨⟨x,s1⟩,h1,e⟩:=bind_some e
 simp only at e
 split at e
 ·rename_i xs
  cases e
  refine ⟨α,s,_,rs,lo,h1,fun α' vs H' rs' l' x' hv=>?_⟩
  obtain ⟨v,r,rfl,hv,h3⟩:=hv.cons_inv
  rw[h3.nil_inv]
  have hv:Rep (wd f α' s1.Γ H') (.lst xs) v:=hv
  unfold Rep at hv
  obtain ⟨p,vs,rfl,hb,h2,h3⟩:=hv
  refine ⟨p,vs,rfl,SqL.of h2,q _ α' H' rs' l' x' ⟨?_,?_,?_⟩⟩
  ·intro i α2 s2 σ2 H2 Hh hi r2 x2 sup
   obtain ⟨g1,_⟩:=D8 x2 hb h2 h3 sup
   rw[Ii] at hi
   exact ⟨vs,vs[i]'(by rw[h3.len];exact hi),SqL.of g1,List.getElem?_eq_getElem _⟩
  ·intro i d y α2 s2 σ2 H2 Hh H3 hd r2 x2 sup yl
   obtain ⟨g1,g2⟩:=D8 x2 hb h2 h3 sup
   obtain ⟨T,w,hT,rfl,rfl,yl⟩:=yl
   obtain ⟨c,hc,rfl⟩:=Hq 0 xs i d hd
   obtain ⟨w',w1,w2⟩:=g2.get hc
   have:=yl vs (SqL.of g1)
   rw[w1] at this
   cases this
   have hT2:H2 T=none:=by
    cases z:H2 T with
    | none=>rfl
    | some o=>rw[sup _ _ z] at hT;cases hT
   refine .inr ⟨T,_,hT,rfl,HA r2 hT2 (.cons ?_ (.cons w2 .nil))⟩
   unfold Rep
   simp
  ·intro α2 s2 σ2 H2 Hh r2 x2 sup
   obtain ⟨g1,_⟩:=D8 x2 hb h2 h3 sup
   exact ⟨vs,SqL.of g1,by rw[Ii,h3.len];exact Nat.le_refl _⟩
 ·cases e
@[simp] def Dp (mo me:ME):ME:=fun s=>(mo s).bind fun x=>match x.1 with
 | .b n=>match x.2.Γ[n]? with
  | some (some _)=>(me x.2).bind fun y=>match y.1 with
   | .v d=>match y.2.Γ[n]? with
    | some (some xs)=>if xs.length<big then some (.v .non,{y.2 with Γ:=y.2.Γ.set n (some (xs++[d]))}) else none
    | _=>none
   | _=>none
  | _=>none
 | _=>none
theorem Pg {mo me:ME} {Q:VK} (hf:f.K=X.K) (h:tD f (Dp mo me) σ H Q):tBM X.K "list" NT (tD f mo) (Nq (tD f me) Ds) σ H Q:=by
 obtain ⟨α,s,r,rs,lo,e,q⟩:=h
 obtain ⟨⟨x,s1⟩,h1,e⟩:=bind_some e
 simp only at e
 split at e
 case h_2=>cases e
 rename_i n
 split at e
 case h_2=>cases e
 rename_i ys hys
 obtain ⟨⟨y,s2⟩,h2,e⟩:=bind_some e
 simp only at e
 split at e
 case h_2=>cases e
 rename_i d
 split at e
 case h_2=>cases e
 rename_i xs hxs
 split at e
 case isFalse=>cases e
 rename_i hz
 cases e
 refine ⟨α,s,_,rs,lo,h1,fun α1 u H1 rs1 l1 x1 hu=>?_⟩
 obtain ⟨us,g1,g2⟩:=rs1.box n ys hys
 refine ⟨?_,α1,s1,_,rs1,lo_le lo l1 x1,h2,fun α2 v H2 rs2 l2 x2 hv=>?_⟩
 ·rw[hu.2]
  exact .inl ⟨rfl,us,SqL.of g1⟩
 ·have hn:n<s1.Γ.length:=hu.1
  obtain ⟨ws,g3,g4⟩:=rs2.box n xs hxs
  refine ⟨α2 n,ws,v,by rw[hu.2,x2.al n hn],rfl,g3,by rw[g4.len];exact Ev.GC (Nat.le_of_lt hz),?_⟩
  exact q α2 .non _ (rs2.put hxs (g4.append (.cons hv .nil))) (l2.trans l1) ((x1.trans x2).trans (.put hxs)) (show RepV f α2 _ _ (.v .non) .non from KD)
end
section
variable {X:Cx} {f:Fr} {α:Nat->Addr} {s:DS} {σ:St} {H:Hp} {K:PySem.W.Frag} {a b c e:Expr} {ma mb mc:ME} {pos p cp apos:Pos} {es:List Expr} {ms:MA}
theorem BF (ha:DE X a ma) (hb:DE X b mb):DE X (.BinOp a .Add b pos) (mOp AS ma mb):=D3 V8 QK ha hb
theorem Gw (ha:DE X a ma) (hb:DE X b mb):DE X (.BinOp a .Sub b pos) (mOp Dn ma mb):=D3 Vq Uq ha hb
theorem C3 (ha:DE X a ma) (hb:DE X b mb):DE X (.BinOp a .Mult b pos) (mOp BY ma mb):=D3 Qe RZ ha hb
theorem D7 (ha:DE X a ma) (hb:DE X b mb):DE X (.BinOp a .FloorDiv b pos) (mOp Bl ma mb):=D3 Ti Qt ha hb
theorem Bh (ha:DE X a ma) (hb:DE X b mb):DE X (.BinOp a .Mod b pos) (mOp Ax ma mb):=D3 RA OH ha hb
theorem N1 (ha:DE X a ma) (hb:DE X b mb):DE X (.BinOp a .Pow b pos) (mOp Cs ma mb):=D3 Tw VX ha hb
theorem Hc (hu:X.A.units<cLine) (ha:DE X a ma) (hb:DE X b mb):DT X (.Compare a [.Lt] [b] pos) (AO (mOp DD ma mb)):=Dx (P3 hu) R6 ha hb (C4 _)
theorem R4 (ha:DE X a ma) (hb:DE X b mb):DT X (.Compare a [.Gt] [b] pos) (AO (mOp gGt ma mb)):=Dx op_gt Rx ha hb (C4 _)
theorem A7 (ha:DE X a ma) (hb:DE X b mb) (hs:HV b:=by exact fun _ _=>rfl):DE X (.Subscript a b pos) (mOp gIx ma mb):=Qp UL Si ha hb hs
@[simp] def IQ (m:ME):ME:=fun s=>(m s).bind fun x=>match x.1 with
 | .v (.int i)=>some (.v (.int (-i)),x.2)
 | _=>none
theorem Pd (ha:DE X a ma):DE X (.UnaryOp .USub a pos) (IQ ma):=fun f hf=>PE.imp (Lz KQ (ha f hf)) fun σ H Q hh_=>by
 obtain ⟨α,s,r,rs,lo,e,q⟩:=hh_
 obtain ⟨⟨x,s1⟩,h1,e⟩:=bind_some e
 simp only at e
 split at e
 ·rename_i i
  cases e
  exact ⟨α,s,_,rs,lo,h1,fun α' v H' rs' l' x' hv=>⟨i,Am hv,q α' _ H' rs' l' x' SY⟩⟩
 ·cases e
open Ev (Nm)
variable {mg:Str->Option Value}
theorem UO (T:Nm X.mg) (ha:DA X (e::es) ms) (hg:Gl X "sorted":=by rfl) (he:starEach (e::es) X.env=(false,eval e X.env)::starEach es X.env:=by rfl) (hpl:(backTo pos (starEach es X.env)).any (·.1)=false:=by rfl):DF X (.Call (.Name "sorted" p) (e::es) [] pos) (Bw CU ms):=
 NG call_sortedA NA hg T.sorted PyProof.Rows.boot_sorted ha (by decide) (by decide) he hpl
theorem Cp (T:Nm X.mg) (ha:DA X (e::es) ms) (hg:Gl X "len":=by rfl) (he:starEach (e::es) X.env=(false,eval e X.env)::starEach es X.env:=by rfl) (hpl:(backTo pos (starEach es X.env)).any (·.1)=false:=by rfl):DE X (.Call (.Name "len" p) (e::es) [] pos) (AN A9 ms):=
 Fm SD A2 hg T.len PySem.boot_len ha (by decide) (by decide) he hpl
theorem Qw (T:Nm X.mg) (ha:DA X (e::es) ms) (hc:X.calm=true:=by rfl) (hg:Gl X "max":=by rfl) (he:starEach (e::es) X.env=(false,eval e X.env)::starEach es X.env:=by rfl) (hpl:(backTo pos (starEach es X.env)).any (·.1)=false:=by rfl):DE X (.Call (.Name "max" p) (e::es) [] pos) (AN EU ms):=
 Fm (U1 hc) QF hg T.max PyProof.Rows.boot_max ha (by decide) (by decide) he hpl
theorem Qj (T:Nm X.mg) (ha:DA X (e::es) ms) (hc:X.calm=true:=by rfl) (hg:Gl X "min":=by rfl) (he:starEach (e::es) X.env=(false,eval e X.env)::starEach es X.env:=by rfl) (hpl:(backTo pos (starEach es X.env)).any (·.1)=false:=by rfl):DE X (.Call (.Name "min" p) (e::es) [] pos) (AN EN ms):=
 Fm (Qx hc) Qc hg T.min PyProof.Rows.boot_min ha (by decide) (by decide) he hpl
theorem JH {o:Expr} {mo me:ME} (ho:DE X o mo) (he:DE X e me) (hbase:attributeBase o "append" X.env (eval o X.env)=eval o X.env:=by rfl)
  (hfew:((backTo cp (starEach [e] X.env)).all (fun x=>!x.1) && (backToKw cp (keywordEach [] X.env)).all (fun x=>x.1.isSome)
   && decide ([e].length+([]:List Keyword).length+(if ([]:List Keyword).isEmpty then 0 else 1)<30))=true:=by rfl)
  (hline:(apos.endLine == cp.line)=true:=by rfl) (hs:starEach [e] X.env=(false,eval e X.env)::starEach [] X.env:=by rfl):DE X (.Call (.Attribute o "append" apos) [e] [] cp) (Dp mo me):=fun f hf=>
 PE.imp (EZ PySem.F.plainAttrs_list PySem.F.slot_list_append PySem.F.type_list_append Kd (ho f hf) (Az (he f hf) BS hs) hbase hfew hline hs rfl) fun σ H Q h=>Pg hf h
@[simp] def NK (mo:ME):ME:=fun s=>(mo s).bind fun x=>match x.1 with
 | .b n=>match x.2.Γ[n]? with
  | some (some xs)=>(xs[xs.length - 1]?).map fun d=>(.v d,{x.2 with Γ:=x.2.Γ.set n (some xs.dropLast)})
  | _=>none
 | _=>none
theorem Oo {W:Wd} {xs:List D} {vs:List V} (h:Reps W xs vs):Reps W xs.dropLast vs.dropLast:=by
 rw[List.dropLast_eq_take,List.dropLast_eq_take,h.len]
 exact h.take _
theorem Q1 {o:Expr} {mo:ME} (ho:DE X o mo) (hbase:attributeBase o "pop" X.env (eval o X.env)=eval o X.env:=by rfl) (hline:(apos.endLine == cp.line)=true:=by rfl):DE X (.Call (.Attribute o "pop" apos) [] [] cp) (NK mo):=fun f hf=>
 PE.imp (SE PySem.F.plainAttrs_list PySem.F.slot_list_pop PySem.F.type_list_pop Vg (ho f hf) hbase hline) fun σ H Q hh_=>by
  obtain ⟨α,s,r,rs,lo,e,q⟩:=hh_
  obtain ⟨⟨x,s1⟩,h1,e⟩:=bind_some e
  simp only at e
  split at e
  case h_2=>cases e
  rename_i n
  split at e
  case h_2=>cases e
  rename_i xs hxs
  obtain ⟨d,hd,rfl⟩:=Ab e
  refine ⟨α,s,_,rs,lo,h1,fun α1 u H1 rs1 l1 x1 hu=>?_⟩
  obtain ⟨us,g1,g2⟩:=rs1.box n xs hxs
  obtain ⟨v,w1,w2⟩:=g2.get hd
  rw[hu.2]
  refine ⟨.inl ⟨rfl,us,SqL.of g1⟩,α1 n,us,v,rfl,rfl,g1,by rw[g2.len];exact w1,?_⟩
  exact q α1 v _ (rs1.put hxs (Oo g2)) l1 (x1.trans (.put hxs)) (w2.kw (Ext.put hxs).kw)
end
section
variable {X:Cx} {f:Fr} {α:Nat->Addr} {s:DS} {σ:St} {H:Hp} {o i e:Expr} {mo mi me:ME} {pos p:Pos}
end
def emp:DS:=⟨[],[],0⟩
def frQ (K:PySem.W.Frag) (H:Hp):Fr:=⟨K,H,fun _=>False,fun _=>False,fun _ h=>h,fun _ h=>h.elim⟩
section
variable {P:Program} {w:World} {K:PySem.W.Frag} {mg:Str->Option Value} {base:Heap} {X:Cx} {pos:Pos}
theorem R5 {H:Hp}:RS (frQ K H) (fun _=>0) emp [] H where
 len:=rfl
 slot:=fun i d h=>by cases h
 box:=fun n xs h=>by cases h
 own:=fun n xs h=>by cases h
 inj:=fun n m xs ys h=>by cases h
 fr:=fun b o h _=>h
 forb:=fun a h=>h.elim
theorem join_some {o:Option (Option (List D))} {xs:List D} (h:o.join=some xs):o=some (some xs):=by
 cases o with
 | none=>cases h
 | some o=>exact congrArg some h
end
section
variable {P:Program} {w:World} {K:PySem.W.Frag} {mg:Str->Option Value} {base:Heap} {f:Fr} {α α':Nat->Addr} {s s':DS} {σ σ':St} {H H':Hp} {X:Cx} {pos:Pos} {e:Expr}
end
section
variable {X:Cx} {f:Fr} {α:Nat->Addr} {s:DS} {σ:St} {H:Hp} {K:PySem.W.Frag} {a b c e:Expr} {ma mb mc:ME} {pos p p2 cp apos:Pos} {es:List Expr} {ms:MA} {lo hi:Option Expr} {ml mh:Option ME}
abbrev MO:=DS->Option (Option Int×DS)
@[simp] def Eu (o:Option ME):MO:=fun s=>match o with
 | none=>some (none,s)
 | some m=>(m s).bind fun x=>match x.1 with
  | .v (.int i)=>some (some i,x.2)
  | _=>none
def tDO (f:Fr) (m:MO):TO:=fun σ H Q=>∃ α s r,RS f α s σ H/\s.lo<=s.Γ.length/\m s=some r/\∀ α' H',RS f α' r.2 σ H'->r.2.lo=s.lo->Ext f α α' s.Γ r.2.Γ H H'->Q r.1 H'
def DO (X:Cx) (e:Option Expr) (m:Option ME):Prop:=∀ f:Fr,f.K=X.K->PO X e (tDO f (Eu m))
theorem PO.imp {o:Option Expr} {t t':TO} (h:PO X o t) (k:∀ σ H Q,t' σ H Q->t σ H Q):PO X o t':=fun pins s σ H Q I q=>h pins s σ H Q I (k _ _ _ q)
theorem Gy:DO X none none:=fun f hf=>PO.imp Pc fun σ H Q hh_=>by
 obtain ⟨α,s,r,rs,lo,e0,q⟩:=hh_
 cases e0
 exact q α H rs rfl .refl
theorem GA (h:DE X e ma):DO X (some e) (some ma):=fun f hf=>PO.imp (QY (h f hf)) fun σ H Q hh_=>by
 obtain ⟨α,s,r,rs,lo,e0,q⟩:=hh_
 obtain ⟨⟨x,s1⟩,h1,e0⟩:=bind_some (show (ma s).bind _=some r from e0)
 simp only at e0
 split at e0
 ·rename_i i
  cases e0
  exact ⟨α,s,_,rs,lo,h1,fun α' v H' rs' l' x' hv=>⟨i,Am hv,q α' H' rs' l' x'⟩⟩
 ·cases e0
def A6 (z:Str) (l u:Option Int):Str:=if ((Builtin.Str.strSliceIndices l u 1 z.length).length == z.length)=true then z else ⟨((Builtin.Str.strSliceIndices l u 1 z.length).filterMap (z.cps[·]?)).toArray⟩
theorem IJ (z:Str) (l u:Option Int):(A6 z l u).length<=z.length:=by
 unfold A6
 split
 ·exact Nat.le_refl _
 ·show ((Builtin.Str.strSliceIndices l u 1 z.length).filterMap (z.cps[·]?)).toArray.size<=z.length
  rw[List.size_toArray]
  exact Nat.le_trans (List.length_filterMap_le _ _) (PyProof.Rows.indices_len_le _ _ z.length)
def Qv:V->Option Int->Option Int->Hp->VK->Prop:=fun x l u H Q=>∃ z,x=.str z/\z.length<=sizeLine/\Q (.str (A6 z l u)) H
theorem MZ {v:Value} {o:Option Int} (h:IsPart v o):∃ l:Option (Int×Tok),v=partValue l/\l.map (·.1)=o:=by
 cases h with
 | none=>exact ⟨none,rfl,rfl⟩
 | int i t=>exact ⟨some (i,t),rfl,rfl⟩
theorem Q6:SlR X Qv:=by
 intro pins s σ H x v vl vu lo hi sl Q I rx hs pl pu h
 obtain ⟨z,rfl,hz,q⟩:=h
 obtain ⟨t,rfl⟩:=rx
 obtain ⟨l,rfl,hl⟩:=MZ pl
 obtain ⟨u,rfl,hu⟩:=MZ pu
 obtain ⟨o,ho,hc,hd⟩:=hs
 refine ⟨"str",_,F.slot_str_getitem.lookup,typeIs_str s z t,wpAny_getItem_str_slice (l:=l) (u:=u) (st:=none) ⟨o,ho,hc,hd⟩ rfl ?_⟩
 unfold sliceMade
 have e1:slicePicked z l u none=Builtin.Str.strSliceIndices lo hi 1 z.length:=by unfold slicePicked;rw[hl,hu];rfl
 rw[e1]
 have e2:A6 z lo hi=if ((Builtin.Str.strSliceIndices lo hi 1 z.length).length == z.length)=true then z else ⟨((Builtin.Str.strSliceIndices lo hi 1 z.length).filterMap (z.cps[·]?)).toArray⟩:=rfl
 rw[e2] at q
 by_cases c:((Builtin.Str.strSliceIndices lo hi 1 z.length).length == z.length)=true
 ·rw[if_pos c] at q
  rw[if_pos (by simpa using c)]
  exact ⟨.str z,H,I,⟨_,rfl⟩,q⟩
 ·rw[if_neg c] at q
  rw[if_neg (by simpa using c)]
  refine ⟨?_,.str _,H,I.tok _,⟨_,rfl⟩,q⟩
  have:=IJ z lo hi
  rw[e2,if_neg c] at this
  exact Nat.le_trans this hz
def cutD (xs:List D) (l u:Option Int):List D:=(xs.drop (HT.sIx xs.length 0 l)).take (HT.sIx xs.length xs.length u - HT.sIx xs.length 0 l)
theorem ON {W:Wd} {xs:List D} {vs:List V} (h:Reps W xs vs) (l u:Option Int):Reps W (cutD xs l u) (ED vs l u):=by
 unfold cutD ED
 rw[h.len]
 exact (h.drop _).take _
@[simp] def gSl (Γ:Gm) (x:SV) (l u:Option Int):Option D:=match x with
 | .v (.str z)=>if z.length<=big then some (.str (A6 z l u)) else none
 | x=>(elems Γ x).map fun xs=>.lst (cutD xs l u)
@[simp] def mSl (m:ME) (l u:Option ME):ME:=fun s=>(m s).bind fun x=>(Eu l x.2).bind fun y=>(Eu u y.2).bind fun z=>(gSl z.2.Γ x.1 y.1 z.1).map fun d=>(.v d,z.2)
theorem E4 (ha:DE X a ma) (hl:DO X lo ml) (hh:DO X hi mh):DE X (.Subscript a (.Slice lo hi none p2) pos) (mSl ma ml mh):=fun f hf=>
 PE.imp (PJ (sl_list.or Q6) (ha f hf) (hl f hf) (hh f hf)) fun σ H Q hh_=>by
  obtain ⟨α,s,r,rs,lo,e0,q⟩:=hh_
  obtain ⟨x,h1,e0⟩:=bind_some e0
  obtain ⟨y,h2,e0⟩:=bind_some e0
  obtain ⟨z,h3,e0⟩:=bind_some e0
  obtain ⟨d,h4,rfl⟩:=Ab e0
  refine ⟨α,s,x,rs,lo,h1,fun α1 v H1 rs1 l1 x1 hv=>⟨α1,x.2,y,rs1,lo_le lo l1 x1,h2,fun α2 H2 rs2 l2 x2=>⟨α2,y.2,z,rs2,lo_le (lo_le lo l1 x1) l2 x2,h3,fun α3 H3 rs3 l3 x3=>?_⟩⟩⟩
  have hv3:=(hv.ext x2).ext x3
  unfold gSl at h4
  split at h4
  ·rename_i str hs
   split at h4
   case isFalse=>cases h4
   rename_i hz
   cases h4
   rw[hs] at hv3
   exact .inr ⟨str,Bd hv3,Ca hz,q α3 _ H3 rs3 (l3.trans (l2.trans l1)) ((x1.trans x2).trans x3) (by show Rep (wd f α3 z.2.Γ H3) (.str _) (.str _);unfold Rep;rfl)⟩
  ·obtain ⟨xs,h5,rfl⟩:=Ab h4
   obtain ⟨p,vs,rfl,g1,g2⟩:=BW rs3 h5 hv3
   exact .inl ⟨p,vs,rfl,SqL.of g1,fun t ht=>q α3 _ _ (rs3.new ht) (l3.trans (l2.trans l1)) (((x1.trans x2).trans x3).trans (.new rs3 ht)) (ES rs3 ht (ON g2 _ _))⟩
@[simp] def Fp (m:ME):MF:=fun s=>(m s).bind fun x=>(elems x.2.Γ x.1).map fun xs=>(xs.reverse,x.2)
theorem Vt {i} {p3:Pos} (ha:DE X a ma):DF X (.Subscript a (.Slice none none (some (.UnaryOp .USub (.Constant (.int 1) i p3) p2)) p) pos) (Fp ma):=fun f hf=>
 PE.imp (QR (ha f hf) (Lz KQ Hk)) fun σ H Q hh_=>by
  obtain ⟨α,s,r,rs,lo,e0,q⟩:=hh_
  obtain ⟨x,h1,e0⟩:=bind_some e0
  obtain ⟨xs,h2,rfl⟩:=Ab e0
  refine ⟨α,s,x,rs,lo,h1,fun α1 v H1 rs1 l1 x1 hv=>?_⟩
  obtain ⟨p,vs,rfl,g1,g2⟩:=BW rs1 h2 hv
  exact ⟨1,rfl,p,vs,rfl,rfl,SqL.of g1,fun t ht=>q α1 t _ H1 rs1 l1 x1 ht g2.reverse⟩
end
end DL
namespace DL
open PySem L2
open Ev (Nm)
section
variable {X:Cx} {f:Fr} {α:Nat->Addr} {s:DS} {σ:St} {H:Hp} {K:PySem.W.Frag} {a b c e o tg:Expr} {ma mb mc mo me:ME} {pos p p2 cp apos tp:Pos} {es:List Expr} {ms:MA}
@[simp] def tyD:SV->String
 | .v .non=>"NoneType" | .v (.bl _)=>"bool" | .v (.int _)=>"int" | .v (.str _)=>"str" | .v (.lst _)=>"list" | .v (.tup _)=>"tuple" | .v (.scr _)=>"list" | .b _=>"list" | .p _ _=>"tuple"
theorem QD {x:SV} {v:V} (rs:RS f α s σ H) (h:RepV f α s.Γ H x v) (hl:∀ n,x=.b n->∃ xs,s.Γ[n]?=some (some xs)) (hs:∀ ns,x≠.v (.scr ns)):TyOf f.K H v (.type (tyD x)):=by
 cases x with
 | v d=>
  cases d with
  | non=>rw[Vk h];exact .non
  | bl b=>rw[Jc h];exact .bl b
  | int i=>rw[Am h];exact .int i
  | str z=>rw[Bd h];exact .str z
  | lst xs=>
   have h:Rep (wd f α s.Γ H) (.lst xs) v:=h
   unfold Rep at h
   obtain ⟨a,vs,rfl,_,h1,_⟩:=h
   exact .lst h1
  | tup xs=>
   obtain ⟨a,vs,rfl,h1,_⟩:=CY h
   exact .tup h1
  | scr ns=>exact absurd rfl (hs ns)
 | b n=>
  obtain ⟨xs,hx⟩:=hl n rfl
  obtain ⟨vs,h1,_⟩:=rs.box n xs hx
  rw[h.2]
  exact .lst h1
 | p n d=>
  obtain ⟨_,a,w,rfl,_,h1,_⟩:=h
  exact .tup h1
@[simp] def Kf (Γ:Gm):SV->Bool
 | .b n=>(Γ[n]?).join.isSome
 | .v (.scr _)=>false
 | _=>true
theorem N4 {Γ:Gm} {x:SV} (h:Kf Γ x=true):(∀ n,x=.b n->∃ xs,Γ[n]?=some (some xs))/\∀ ns,x≠.v (.scr ns):=by
 refine ⟨fun n e=>?_,fun ns e=>?_⟩
 ·subst e
  obtain ⟨xs,hx⟩:=Option.isSome_iff_exists.mp (show (Γ[n]?).join.isSome=true from h)
  exact ⟨xs,join_some hx⟩
 ·subst e;cases h
@[simp] def isT (T t:String):Option Bool:=
 if T="bool" then some (t == "bool") else if T="int" then some (t == "int" || t == "bool") else if T="str" then some (t == "str") else if T="list" then some (t == "list") else if T="tuple" then some (t == "tuple") else none
theorem Tx (K:PySem.W.Frag) (x:SV):∀ (T:String) (b:Bool),isT T (tyD x)=some b->PySem.W.kitOne K (.type (tyD x)) (.type T)=some b:=by
 intro T b h
 unfold isT at h
 have all:∀ t∈["NoneType","bool","int","str","list","tuple"],PySem.W.kitOne K (.type t) (.type "bool")=some (t == "bool")/\PySem.W.kitOne K (.type t) (.type "int")=some (t == "int" || t == "bool")/\PySem.W.kitOne K (.type t) (.type "str")=some (t == "str")/\PySem.W.kitOne K (.type t) (.type "list")=some (t == "list")/\PySem.W.kitOne K (.type t) (.type "tuple")=some (t == "tuple"):=by
  intro t ht
  simp only[List.mem_cons,List.not_mem_nil,or_false] at ht
  rcases ht with rfl | rfl | rfl | rfl | rfl | rfl<;>exact ⟨by kernel_rfl,by kernel_rfl,by kernel_rfl,by kernel_rfl,by kernel_rfl⟩
 have mem:tyD x∈["NoneType","bool","int","str","list","tuple"]:=by
  cases x with
  | v d=>cases d<;>simp[tyD]
  | b n=>simp[tyD]
  | p n d=>simp[tyD]
 obtain ⟨h1,h2,h3,h4,h5⟩:=all _ mem
 split at h
 ·rename_i e;subst e;cases h;exact h1
 ·split at h
  ·rename_i e;subst e;cases h;exact h2
  ·split at h
   ·rename_i e;subst e;cases h;exact h3
   ·split at h
    ·rename_i e;subst e;cases h;exact h4
    ·split at h
     ·rename_i e;subst e;cases h;exact h5
     ·cases h
@[simp] def C7 (T:String) (m:ME):ME:=fun s=>(m s).bind fun x=>if Kf x.2.Γ x.1=true then (isT T (tyD x.1)).map fun b=>(.v (.bl b),x.2) else none
theorem VM (T:String) {y:Str} (N:Nm X.mg) (ha:DE X a ma) (hT:PE X (.Name y p2) (tC (.ty T))) (hg:Gl X "isinstance":=by rfl) (he:starEach [a,.Name y p2] X.env=(false,eval a X.env)::starEach [.Name y p2] X.env:=by rfl) (he2:starEach [.Name y p2] X.env=(false,eval (.Name y p2) X.env)::starEach [] X.env:=by rfl) (hpl:(backTo pos (starEach [.Name y p2] X.env)).any (·.1)=false:=by rfl) :
  DE X (.Call (.Name "isinstance" p) [a,.Name y p2] [] pos) (C7 T ma):=fun f hf=>
 PE.imp (DX S5 hg N.isi PyProof.Rows.boot_isinstance (Az (ha f hf) (Az hT BS he2) he) (by decide) (by decide) he hpl) fun σ H Q hh_=>by
  obtain ⟨α,s,r,rs,lo,e0,q⟩:=hh_
  obtain ⟨x,h1,e0⟩:=bind_some e0
  split at e0
  case isFalse=>cases e0
  rename_i hl
  obtain ⟨k,h2,rfl⟩:=Ab e0
  refine ⟨α,s,x,rs,lo,h1,fun α1 v H1 rs1 l1 x1 hv=>?_⟩
  refine ⟨v,T,tyD x.1,k,rfl,?_,Tx X.K x.1 T k h2,q α1 _ H1 rs1 l1 x1 Jg⟩
  rw[<-hf]
  exact QD rs1 hv (N4 hl).1 (N4 hl).2
theorem Li (N:Nm X.mg) (ha:DE X a ma) (hg:Gl X "isinstance":=by rfl) (hg2:Gl X "str":=by rfl) (he:starEach [a,.Name "str" p2] X.env=(false,eval a X.env)::starEach [.Name "str" p2] X.env:=by rfl) (he2:starEach [.Name "str" p2] X.env=(false,eval (.Name "str" p2) X.env)::starEach [] X.env:=by rfl) (hpl:(backTo pos (starEach [.Name "str" p2] X.env)).any (·.1)=false:=by rfl):DE X (.Call (.Name "isinstance" p) [a,.Name "str" p2] [] pos) (C7 "str" ma):=VM "str" N ha (Tr (v:=.ty "str") hg2 N.str PyProof.Rows.boot_str rfl) hg he he2 hpl
def BU:List D->List D->List D
 | x::xs,y::ys=>.tup [x,y]::BU xs ys
 | _,_=>[]
theorem Ja:∀ {xs ys:List D},xs.length<=ys.length->(BU xs ys).length=xs.length
 | [],ys,_=>by unfold BU;rfl
 | x::xs,[],h=>by simp at h
 | x::xs,y::ys,h=>by
  unfold BU
  rw[List.length_cons,List.length_cons,Ja (by simpa using h)]
theorem K1:∀ {xs ys:List D} {i:Nat} {d:D},(BU xs ys)[i]?=some d->∃ x y,xs[i]?=some x/\ys[i]?=some y/\d=.tup [x,y]
 | [],ys,i,d,h=>by unfold BU at h;cases h
 | x::xs,[],i,d,h=>by unfold BU at h;cases h
 | x::xs,y::ys,0,d,h=>by unfold BU at h;cases h;exact ⟨x,y,rfl,rfl,rfl⟩
 | x::xs,y::ys,i+1,d,h=>by
  unfold BU at h
  rw[List.getElem?_cons_succ] at h
  obtain ⟨x',y',h1,h2,h3⟩:=K1 h
  exact ⟨x',y',by simpa using h1,by simpa using h2,h3⟩
@[simp] def Gh (ms:MA):MF:=fun s=>(ms s).bind fun r=>match r.1 with
 | [.v (.lst xs),.v (.lst ys)]=>if xs.length<=ys.length then some (BU xs ys,r.2) else none
 | [.v (.tup xs),.v (.tup ys)]=>if xs.length<=ys.length then some (BU xs ys,r.2) else none
 | _=>none
theorem Lr {cn:List V->HO} (hc:∀ x y,cn x=cn y->x=y) {α0:Nat->Addr} {Γ0:Gm} {H0:Hp} {l1 l2:Addr} {vs us:List V} {xs ys:List D} (b1:¬(f.F l1\/Ah Γ0 α0 l1)) (b2:¬(f.F l2\/Ah Γ0 α0 l2)) (h1:H0 l1=some (cn vs)) (h2:H0 l2=some (cn us)) (r1:Reps (wd f α0 Γ0 H0) xs vs) (r2:Reps (wd f α0 Γ0 H0) ys us) (hl:xs.length<=ys.length) :
  DIt f (Itz cn l1 l2) (BU xs ys) α0 Γ0 H0:=by
 have st:∀ {α2:Nat->Addr} {Γ2:Gm} {H2 Hh:Hp},Ext f α0 α2 Γ0 Γ2 H0 H2->(∀ a o,H2 a=some o->Hh a=some o)->Hh l1=some (cn vs)/\Hh l2=some (cn us):=fun x sup=>⟨sup _ _ (x.kw.keep l1 _ b1 h1).1,sup _ _ (x.kw.keep l2 _ b2 h2).1⟩
 refine ⟨?_,?_,?_⟩
 ·intro i α2 s2 σ2 H2 Hh hi _ x2 sup
  obtain ⟨g1,g2⟩:=st x2 sup
  rw[Ja hl] at hi
  exact ⟨vs,us,vs[i]'(by rw[r1.len];exact hi),us[i]'(by rw[r2.len];lia),g1,g2,List.getElem?_eq_getElem _,List.getElem?_eq_getElem _⟩
 ·intro i d y α2 s2 σ2 H2 Hh H3 hd rr x2 sup yl
  obtain ⟨g1,g2⟩:=st x2 sup
  obtain ⟨T,w1,w2,hT,rfl,rfl,y1,y2⟩:=yl
  obtain ⟨dx,dy,e1,e2,rfl⟩:=K1 hd
  obtain ⟨v1,z1,z2⟩:=(r1.kw x2.kw).get e1
  obtain ⟨v2,z3,z4⟩:=(r2.kw x2.kw).get e2
  have k1:=y1 vs g1
  have k2:=y2 us g2
  rw[z1] at k1
  rw[z3] at k2
  cases k1
  cases k2
  have hT2:H2 T=none:=by
   cases z:H2 T with
   | none=>rfl
   | some o=>rw[sup _ _ z] at hT;cases hT
  exact .inr ⟨T,_,hT,rfl,HA rr hT2 (.cons z2 (.cons z4 .nil))⟩
 ·intro α2 s2 σ2 H2 Hh _ x2 sup
  obtain ⟨g1,g2⟩:=st x2 sup
  exact ⟨vs,g1,by rw[Ja hl,r1.len];exact Nat.le_refl _⟩
theorem QN {elts:List Expr} {k:Nat} (hg:Gl X "zip") (hm:X.mg "zip"=none) (ha:DA X [a,b] ms) (hs:starEach [a,b] X.env=[(false,eval a X.env),(false,eval b X.env)]:=by rfl) (hs2:starEach [b] X.env=[(false,eval b X.env)]:=by rfl):DI X (.Tuple elts k tp) (.Call (.Name "zip" p) [a,b] [] cp) (Gh ms):=fun f hf=>PI.imp (UD hg hm (ha f hf) hs hs2) fun σ H R hh_=>by
 obtain ⟨α,s,r,rs,lo,e0,q⟩:=hh_
 obtain ⟨⟨x,s1⟩,h1,e0⟩:=bind_some e0
 simp only at e0
 split at e0
 ·rename_i xs ys
  split at e0
  case isFalse=>cases e0
  rename_i hl
  cases e0
  refine ⟨α,s,_,rs,lo,h1,fun α' vs H' rs' l' x' hv=>?_⟩
  obtain ⟨v,r,rfl,hv1,h3⟩:=hv.cons_inv
  obtain ⟨v',r',rfl,hv2,h4⟩:=h3.cons_inv
  rw[h4.nil_inv]
  have hv1:Rep (wd f α' s1.Γ H') (.lst xs) v:=hv1
  have hv2:Rep (wd f α' s1.Γ H') (.lst ys) v':=hv2
  unfold Rep at hv1 hv2
  obtain ⟨p1,vs,rfl,c1,c2,c3⟩:=hv1
  obtain ⟨p2,us,rfl,d1,d2,d3⟩:=hv2
  exact ⟨p1,p2,rfl,.inl ⟨vs,us,c2,d2,q _ α' H' rs' l' x' (Lr (fun _ _ h=>by injection h) c1 d1 c2 d2 c3 d3 hl)⟩⟩
 ·rename_i xs ys
  split at e0
  case isFalse=>cases e0
  rename_i hl
  cases e0
  refine ⟨α,s,_,rs,lo,h1,fun α' vs H' rs' l' x' hv=>?_⟩
  obtain ⟨v,r,rfl,hv1,h3⟩:=hv.cons_inv
  obtain ⟨v',r',rfl,hv2,h4⟩:=h3.cons_inv
  rw[h4.nil_inv]
  have hv1:Rep (wd f α' s1.Γ H') (.tup xs) v:=hv1
  have hv2:Rep (wd f α' s1.Γ H') (.tup ys) v':=hv2
  unfold Rep at hv1 hv2
  obtain ⟨p1,vs,rfl,c1,c2,c3⟩:=hv1
  obtain ⟨p2,us,rfl,d1,d2,d3⟩:=hv2
  exact ⟨p1,p2,rfl,.inr ⟨vs,us,c2,d2,q _ α' H' rs' l' x' (Lr (fun _ _ h=>by injection h) c1 d1 c2 d2 c3 d3 hl)⟩⟩
 ·cases e0
@[simp] def Gn (mo me:ME):ME:=fun s=>(mo s).bind fun x=>match x.1 with
 | .b n=>match x.2.Γ[n]? with
  | some (some _)=>(me x.2).bind fun y=>match y.1 with
   | .v (.lst zs)=>match y.2.Γ[n]? with
    | some (some xs)=>if xs.length+zs.length<=big then some (.v .non,{y.2 with Γ:=y.2.Γ.set n (some (xs++zs))}) else none
    | _=>none
   | _=>none
  | _=>none
 | _=>none
theorem QU (ho:DE X o mo) (he:DE X e me) (hbase:attributeBase o "extend" X.env (eval o X.env)=eval o X.env:=by rfl)
  (hfew:((backTo cp (starEach [e] X.env)).all (fun x=>!x.1) && (backToKw cp (keywordEach [] X.env)).all (fun x=>x.1.isSome)
   && decide ([e].length+([]:List Keyword).length+(if ([]:List Keyword).isEmpty then 0 else 1)<30))=true:=by rfl)
  (hline:(apos.endLine == cp.line)=true:=by rfl) (hs:starEach [e] X.env=(false,eval e X.env)::starEach [] X.env:=by rfl):DE X (.Call (.Attribute o "extend" apos) [e] [] cp) (Gn mo me):=fun f hf=>
 PE.imp (EZ PySem.F.plainAttrs_list PySem.F.slot_list_extend PySem.F.type_list_extend Vn (ho f hf) (Az (he f hf) BS hs) hbase hfew hline hs rfl) fun σ H Q hh_=>by
  obtain ⟨α,s,r,rs,lo,e0,q⟩:=hh_
  obtain ⟨⟨x,s1⟩,h1,e0⟩:=bind_some e0
  simp only at e0
  split at e0
  case h_2=>cases e0
  rename_i n
  split at e0
  case h_2=>cases e0
  rename_i ys hys
  obtain ⟨⟨y,s2⟩,h2,e0⟩:=bind_some e0
  simp only at e0
  split at e0
  case h_2=>cases e0
  rename_i zs
  split at e0
  case h_2=>cases e0
  rename_i xs hxs
  split at e0
  case isFalse=>cases e0
  rename_i hz
  cases e0
  refine ⟨α,s,_,rs,lo,h1,fun α1 u H1 rs1 l1 x1 hu=>?_⟩
  obtain ⟨us,g1,g2⟩:=rs1.box n ys hys
  refine ⟨?_,α1,s1,_,rs1,lo_le lo l1 x1,h2,fun α2 v H2 rs2 l2 x2 hv=>?_⟩
  ·rw[hu.2]
   exact .inl ⟨rfl,us,SqL.of g1⟩
  ·have hn:n<s1.Γ.length:=hu.1
   obtain ⟨ws,g3,g4⟩:=rs2.box n xs hxs
   have hv:Rep (wd f α2 s2.Γ H2) (.lst zs) v:=hv
   unfold Rep at hv
   obtain ⟨b,bs,rfl,_,b1,b2⟩:=hv
   refine ⟨α2 n,b,ws,bs,by rw[hu.2,x2.al n hn],rfl,g3,b1,by rw[g4.len,b2.len];exact Ca hz,?_⟩
   exact q α2 .non _ (rs2.put hxs (g4.append b2)) (l2.trans l1) ((x1.trans x2).trans (.put hxs)) KD
end
mutual
def toP:D->PyData
 | .non=>.none
 | .bl b=>.bool b
 | .int i=>.int i
 | .str x=>.str x
 | .lst xs=>.list (BX xs)
 | .tup xs=>.tuple (BX xs)
 | .scr ns=>.list (ns.map .int)
def BX:List D->List PyData
 | []=>[]
 | d::ds=>toP d::BX ds
end
def shal:Nat->D->Bool
 | _,.non=>true
 | _,.bl _=>true
 | _,.int _=>true
 | _,.str x=>PyData.canLay0 (.str x)
 | 0,.lst _=>false
 | 0,.tup _=>false
 | 0,.scr _=>false
 | n+1,.lst xs=>xs.all (shal n)
 | n+1,.tup xs=>xs.all (shal n)
 | _+1,.scr _=>true
theorem K2:∀ ns:List Int,PyData.canLayAll0 (ns.map .int)=true/\PyData.depthAll (ns.map .int)=0
 | []=>⟨by simp[PyData.canLayAll0],by simp[PyData.depthAll]⟩
 | n::ns=>by
  obtain ⟨h1,h2⟩:=K2 ns
  exact ⟨by simp[PyData.canLayAll0,PyData.canLay0,h1],by simp[PyData.depthAll,PyData.depth,h2]⟩
theorem JQ {n:Nat} (ih:∀ d,shal n d=true->(toP d).canLay0=true/\(toP d).depth<=n):∀ xs:List D,xs.all (shal n)=true->PyData.canLayAll0 (BX xs)=true/\PyData.depthAll (BX xs)<=n
 | [],_=>⟨by simp[BX,PyData.canLayAll0],by simp[BX,PyData.depthAll]⟩
 | d::ds,h=>by
  rw[List.all_cons,Bool.and_eq_true] at h
  obtain ⟨a1,a2⟩:=ih d h.1
  obtain ⟨b1,b2⟩:=JQ ih ds h.2
  exact ⟨by simp[BX,PyData.canLayAll0,a1,b1],by simp only[BX,PyData.depthAll];lia⟩
theorem Dl:∀ (n:Nat) (d:D),shal n d=true->(toP d).canLay0=true/\(toP d).depth<=n
 | n,.non,_=>⟨by simp[toP,PyData.canLay0],by simp[toP,PyData.depth]⟩
 | n,.bl _,_=>⟨by simp[toP,PyData.canLay0],by simp[toP,PyData.depth]⟩
 | n,.int _,_=>⟨by simp[toP,PyData.canLay0],by simp[toP,PyData.depth]⟩
 | n,.str x,h=>⟨by unfold shal at h;unfold toP;exact h,by simp[toP,PyData.depth]⟩
 | 0,.lst _,h=>by unfold shal at h;cases h
 | 0,.tup _,h=>by unfold shal at h;cases h
 | 0,.scr _,h=>by unfold shal at h;cases h
 | n+1,.lst xs,h=>by
  unfold shal at h
  obtain ⟨a,b⟩:=JQ (Dl n) xs h
  exact ⟨by simpa [toP,PyData.canLay0] using a,by simp only[toP,PyData.depth];lia⟩
 | n+1,.tup xs,h=>by
  unfold shal at h
  obtain ⟨a,b⟩:=JQ (Dl n) xs h
  exact ⟨by simpa [toP,PyData.canLay0] using a,by simp only[toP,PyData.depth];lia⟩
 | n+1,.scr ns,h=>by
  obtain ⟨a,b⟩:=K2 ns
  exact ⟨by simpa [toP,PyData.canLay0] using a,by simp only[toP,PyData.depth];lia⟩
section
variable {X:Cx} {pins:List (Addr×Obj)} {σ:St} {s:Shared} {W:Wd}
theorem K4:∀ {ns:List Int} {us:List Value},Vals (ns.map V.int) us->∃ as,ReadsAll s.heap us (ns.map PyData.int) as
 | [],_,h=>by cases h;exact ⟨_,.nil⟩
 | n::ns,_,h=>by
  cases h with
  | cons r t=>
   obtain ⟨k,rfl⟩:=r
   obtain ⟨as,h⟩:=K4 t
   exact ⟨_,.cons (.int n k) h⟩
mutual
theorem Ec (I:Inv X pins σ W.H s) (hk:W.K=X.K):∀ {d:D} {v:V} {u:Value},Rep W d v->RelV v u->∃ as,Reads s.heap u (toP d) as
 | .non,v,u,h,r=>by
  unfold Rep at h;subst h;cases (show u=_ from r);unfold toP;exact ⟨_,.none⟩
 | .bl b,v,u,h,r=>by
  unfold Rep at h;subst h;cases (show u=_ from r);unfold toP;exact ⟨_,.bool b⟩
 | .int i,v,u,h,r=>by
  unfold Rep at h;subst h;obtain ⟨t,rfl⟩:=(show ∃ t,u=Value.int i t from r);unfold toP;exact ⟨_,.int i t⟩
 | .str i,v,u,h,r=>by
  unfold Rep at h;subst h;obtain ⟨t,rfl⟩:=(show ∃ t,u=Value.str i t from r);unfold toP;exact ⟨_,.str i t⟩
 | .lst xs,v,u,h,r=>by
  unfold Rep at h
  obtain ⟨a,vs,rfl,_,h1,h2⟩:=h
  cases (show u=_ from r)
  obtain ⟨its,ri,⟨o,n,e1,e2,_,e3⟩,_⟩:=I.list (SqL.of h1)
  obtain ⟨as,q⟩:=Ib I hk h2 ri
  unfold toP
  exact ⟨_,.list e1 e2 e3 q⟩
 | .tup xs,v,u,h,r=>by
  unfold Rep at h
  obtain ⟨a,vs,rfl,_,h1,h2⟩:=h
  cases (show u=_ from r)
  obtain ⟨its,ri,⟨o,e1,e2,n,e3⟩,_⟩:=I.tuple (SqT.of h1)
  obtain ⟨as,q⟩:=Ib I hk h2 ri
  unfold toP
  exact ⟨_,.tuple e1 e2 e3 q⟩
 | .scr ns,v,u,h,r=>by
  unfold Rep at h
  obtain ⟨a,rfl,h⟩:=h
  cases (show u=_ from r)
  have hs:SqL X.K W.H a (ns.map V.int):=by
   rcases h with ⟨_,h⟩ | h
   ·exact .inl h
   ·rw[<-hk];exact h _
  obtain ⟨its,ri,⟨o,n,e1,e2,_,e3⟩,_⟩:=I.list hs
  obtain ⟨as,q⟩:=K4 (s:=s) ri
  unfold toP
  exact ⟨_,.list e1 e2 e3 q⟩
theorem Ib (I:Inv X pins σ W.H s) (hk:W.K=X.K):∀ {ds:List D} {vs:List V} {us:List Value},Reps W ds vs->Vals vs us->∃ as,ReadsAll s.heap us (BX ds) as
 | [],vs,us,h,r=>by
  cases h.nil_inv;cases r;unfold BX;exact ⟨_,.nil⟩
 | d::ds,vs,us,h,r=>by
  obtain ⟨v,q,rfl,h1,h2⟩:=h.cons_inv
  cases r with
  | cons r1 r2=>
   obtain ⟨as,a⟩:=Ec I hk h1 r1
   obtain ⟨bs,b⟩:=Ib I hk h2 r2
   unfold BX
   exact ⟨_,.cons a b⟩
end
end
def deq (d e:D):Bool:=PyData.eqv (toP d) (toP e)
@[simp] def treeOf (Γ:Gm):SV->Option D
 | .v d=>some d
 | .b n=>((Γ[n]?).join).map .lst
 | .p n d=>((Γ[n]?).join).map fun xs=>.tup [.lst xs,d]
@[simp] def Ex:Gm->SV->SV->Option Bool:=fun Γ x y=>match treeOf Γ x,treeOf Γ y with
 | some d,some e=>if shal 6 d && shal 6 e then some (deq d e) else none
 | _,_=>none
@[simp] def Kx:Gm->SV->SV->Option D:=fun Γ x y=>(Ex Γ x y).map .bl
@[simp] def IS:Gm->SV->SV->Option D:=fun Γ x y=>(Ex Γ x y).map fun b=>.bl !b
def G7 (K:PySem.W.Frag):R2:=fun x y H Q=>∃ (W:Wd) (d e:D),W.K=K/\W.H=H/\Rep W d x/\Rep W e y/\shal 6 d=true/\shal 6 e=true/\Q (.bl (deq d e)) H
def HC (K:PySem.W.Frag):R2:=fun x y H Q=>∃ (W:Wd) (d e:D),W.K=K/\W.H=H/\Rep W d x/\Rep W e y/\shal 6 d=true/\shal 6 e=true/\Q (.bl (!deq d e)) H
section
variable {X:Cx} {f:Fr} {α:Nat->Addr} {s:DS} {σ:St} {H:Hp} {a b:Expr} {ma mb:ME} {pos:Pos}
theorem VA (hu:X.A.units+64<cLine):OpR X (compareOp .Eq) (G7 X.K):=by
 intro pins s σ H x y v u Q I rx ry h
 obtain ⟨W,d,e,hk,rfl,hd,he,s1,s2,k⟩:=h
 obtain ⟨as,r1⟩:=Ec I hk hd rx
 obtain ⟨bs,r2⟩:=Ec I hk he ry
 obtain ⟨a1,a2⟩:=Dl _ _ s1
 obtain ⟨b1,b2⟩:=Dl _ _ s2
 exact SeqAt.compareEq_reads r1 r2 a1 b1 (by lia) ⟨.bl (deq d e),W.H,I,rfl,k⟩
theorem Uy (hu:X.A.units+64<cLine):OpR X (compareOp .NotEq) (HC X.K):=by
 intro pins s σ H x y v u Q I rx ry h
 obtain ⟨W,d,e,hk,rfl,hd,he,s1,s2,k⟩:=h
 obtain ⟨as,r1⟩:=Ec I hk hd rx
 obtain ⟨bs,r2⟩:=Ec I hk he ry
 obtain ⟨a1,a2⟩:=Dl _ _ s1
 obtain ⟨b1,b2⟩:=Dl _ _ s2
 exact SeqAt.rcNeAt_reads r1 r2 a1 b1 (by lia) X.prog X.w _ _ ⟨.bl (!deq d e),W.H,I,rfl,k⟩
theorem Gd (W:Wd):Kw W ⟨W.K,fun _=>False,W.H⟩:=⟨rfl,fun _ _ _ e=>⟨e,fun h=>h⟩⟩
theorem Jw {x:SV} {d:D} {v:V} (rs:RS f α s σ H) (h:treeOf s.Γ x=some d) (r:RepV f α s.Γ H x v):Rep ⟨f.K,fun _=>False,H⟩ d v:=by
 unfold treeOf at h
 split at h
 ·cases h
  exact Rep.kw (Gd (wd f α s.Γ H)) r
 ·rename_i n
  obtain ⟨xs,hx,rfl⟩:=Ab h
  obtain ⟨p,vs,rfl,h1,h2⟩:=BW (d:=.b n) rs hx r
  unfold Rep
  exact ⟨p,vs,rfl,fun h=>h,h1,Reps.kw (Gd (wd f α s.Γ H)) h2⟩
 ·rename_i n e
  obtain ⟨xs,hx,rfl⟩:=Ab h
  obtain ⟨hn,p,w,rfl,_,h1,h2⟩:=r
  obtain ⟨q,vs,hq,h3,h4⟩:=BW (d:=.b n) rs hx ⟨hn,rfl⟩
  unfold Rep
  refine ⟨p,_,rfl,fun h=>h,h1,.cons ?_ (.cons (Rep.kw (Gd (wd f α s.Γ H)) h2) .nil)⟩
  unfold Rep
  exact ⟨q,vs,hq,fun h=>h,h3,Reps.kw (Gd (wd f α s.Γ H)) h4⟩
theorem NM {x y:SV} {b:Bool} {u v:V} (hf:f.K=X.K) (rs:RS f α s σ H) (hu:RepV f α s.Γ H x u) (hv:RepV f α s.Γ H y v) (h:Ex s.Γ x y=some b) :
  ∃ (W:Wd) (d e:D),W.K=X.K/\W.H=H/\Rep W d u/\Rep W e v/\shal 6 d=true/\shal 6 e=true/\deq d e=b:=by
 unfold Ex at h
 split at h
 ·rename_i d e h1 h2
  split at h
  ·rename_i hs
   cases h
   rw[Bool.and_eq_true] at hs
   exact ⟨_,d,e,hf,rfl,Jw rs h1 hu,Jw rs h2 hv,hs.1,hs.2,rfl⟩
  ·cases h
 ·cases h
theorem TV:OpD X Kx (G7 X.K):=by
 intro f α s σ H x y u v z Q hf rs hu hv e q
 obtain ⟨b,hb,rfl⟩:=Ab e
 obtain ⟨W,d,c,h1,h2,h3,h4,h5,h6,rfl⟩:=NM hf rs hu hv hb
 exact ⟨W,d,c,h1,h2,h3,h4,h5,h6,q _ H rs .refl Be⟩
theorem Ur:OpD X IS (HC X.K):=by
 intro f α s σ H x y u v z Q hf rs hu hv e q
 obtain ⟨b,hb,rfl⟩:=Ab e
 obtain ⟨W,d,c,h1,h2,h3,h4,h5,h6,rfl⟩:=NM hf rs hu hv hb
 exact ⟨W,d,c,h1,h2,h3,h4,h5,h6,q _ H rs .refl Be⟩
@[simp] def Al:Gm->SV->SV->Option D:=fun Γ x y=>match gEq Γ x y with
 | some z=>some z
 | none=>Kx Γ x y
@[simp] def Aj:Gm->SV->SV->Option D:=fun Γ x y=>match gNe Γ x y with
 | some z=>some z
 | none=>IS Γ x y
theorem Ln:OpD X Al (fun x y H Q=>GE X.K x y H Q\/G7 X.K x y H Q):=by
 intro f α s σ H x y u v z Q hf rs hu hv e q
 unfold Al at e
 split at e
 ·rename_i z' hz
  cases e
  exact .inl (Qn f α s σ H x y u v z Q hf rs hu hv hz q)
 ·exact .inr (TV f α s σ H x y u v z Q hf rs hu hv e q)
theorem NR:OpD X Aj (fun x y H Q=>GK X.K x y H Q\/HC X.K x y H Q):=by
 intro f α s σ H x y u v z Q hf rs hu hv e q
 unfold Aj at e
 split at e
 ·rename_i z' hz
  cases e
  exact .inl (Ro f α s σ H x y u v z Q hf rs hu hv hz q)
 ·exact .inr (Ur f α s σ H x y u v z Q hf rs hu hv e q)
theorem J7 (hu:X.A.units+64<cLine):OpR X (compareOp .Eq) (fun x y H Q=>GE X.K x y H Q\/G7 X.K x y H Q):=(Pk (by lia)).or (VA hu)
theorem K6 (hu:X.A.units+64<cLine):OpR X (compareOp .NotEq) (fun x y H Q=>GK X.K x y H Q\/HC X.K x y H Q):=(Tz (by lia)).or (Uy hu)
theorem II (hu:X.A.units+64<cLine) (ha:DE X a ma) (hb:DE X b mb):DE X (.Compare a [.Eq] [b] pos) (mOp Al ma mb):=NO (J7 hu) Ln ha hb (C4 _)
theorem Lw (hu:X.A.units+64<cLine) (ha:DE X a ma) (hb:DE X b mb):DE X (.Compare a [.NotEq] [b] pos) (mOp Aj ma mb):=NO (K6 hu) NR ha hb (C4 _)
theorem Bs (hu:X.A.units+64<cLine) (ha:DE X a ma) (hb:DE X b mb):DT X (.Compare a [.Eq] [b] pos) (AO (mOp Al ma mb)):=Dx (J7 hu) Ln ha hb (C4 _)
theorem CP (hu:X.A.units+64<cLine) (ha:DE X a ma) (hb:DE X b mb):DT X (.Compare a [.NotEq] [b] pos) (AO (mOp Aj ma mb)):=Dx (K6 hu) NR ha hb (C4 _)
end
theorem Vz {n:Nat} {d:D} (h:shal n d=true):deq d d=true:=SeqAt.eqv_refl _ (Dl n d h).1
end DL
namespace DL
open PySem L2
open Ev (Nm)
section
variable {X:Cx} {f:Fr} {α:Nat->Addr} {s:DS} {σ:St} {H:Hp} {a b e:Expr} {ma mb:ME} {pos p:Pos} {es:List Expr} {ms:MA}
end
end DL
namespace DL
open PySem L2
open PyProof.Rows (IntsAre boot_sum)
section
variable {X:Cx} {f:Fr} {α:Nat->Addr} {s:DS} {σ:St} {H:Hp} {a b e:Expr} {ma mb:ME} {pos p:Pos} {es:List Expr} {ms:MA}
theorem intsAre_of:∀ {ns:List Int} {us:List Value},Vals (ns.map V.int) us->IntsAre us ns
 | [],_,h=>by cases h;exact .nil
 | n::ns,_,h=>by
  cases h with
  | cons r t=>
   obtain ⟨k,rfl⟩:=r
   exact .cons n k (intsAre_of t)
end
end DL
namespace L2
open PySem PySem.SeqAt
open PySem.AutoSeq1 (wpAny_loadPart')
open PySem.MeetsSeq PySem.MeetsSeq2 PySem.MeetsSeq3
open PyProof.Rows (IntsAre IsTup)
theorem R7 (l b:Addr) (items items2:Array Value) (n n2:Nat) (dd dd2:Option Addr) (sl sl2:Array (Option Value)) (ns ms:List Int) (hi:IntsAre items.toList ns) (hj:IntsAre items2.toList ms) :
  Meets (Builtin.«tuple.__ge__» ⟨[.ref l,.ref b],[]⟩)
   (fun _ R s=>s.heap.get? l=some {cls:=.type "tuple",dict:=dd,data:=.seq items n,slots:=sl}/\s.heap.get? b=some {cls:=.type "tuple",dict:=dd2,data:=.seq items2 n2,slots:=sl2} /\
    R (.ok (.ret (.bool (!HT.lexLt ns ms)))) s):=
 .of_wp fun prog w A R s h=>by
  obtain ⟨hp,g,d,tk,os⟩:=s
  obtain ⟨hl,hb,h⟩:=h
  have f2:=AutoSeq1.sub_tuple_tuple
  have z1:ns.length=items.size:=by rw[<-hi.length];simp
  have z2:ms.length=items2.size:=by rw[<-hj.length];simp
  wp_walk using wpAny_loadPart' hl,wpAny_loadPart' hb,wpAny_forIn_list _ (fun left r s'=>∃ (us vs:List Value) (ps qs:List Int),left=us.zip vs/\IntsAre us ps/\IntsAre vs qs /\
   ps.length+ms.length=qs.length+ns.length/\R (.ok (.ret (.bool (!HT.lexLt ps qs)))) ⟨hp,g,d,tk,os⟩/\r.1=none/\s'=⟨hp,g,d,tk,os⟩) _
  case turn=>
   rintro ⟨y,x⟩ left r s' ⟨us,vs,ps,qs,hz,iu,iv,hn,hR,hr,rfl⟩
   cases iu with
   | nil=>cases hz
   | cons i t iu=>
    cases iv with
    | nil=>cases hz
    | cons j k iv=>
     obtain ⟨⟨rfl,rfl⟩,rfl⟩:(y=.int i t/\x=.int j k)/\left=_:=by
      rw[List.zip_cons_cons] at hz
      injection hz with p q
      injection p with p1 p2
      exact ⟨⟨p1,p2⟩,q⟩
     rw[HT.C0] at hR
     simp only[List.length_cons] at hn
     refine wpAny_bind (SeqAt.EqAt.int_int i t j k prog w _ _ ?_)
     by_cases c:i=j
     ·rw[if_pos c] at hR
      subst c
      rw[beq_self_eq_true]
      wp_walk
      exact ⟨_,_,_,_,rfl,iu,iv,by lia,hR,rfl,rfl⟩
     ·rw[if_neg c] at hR
      rw[show (i == j)=false from beq_false_of_ne c]
      have hge:∀ (E:Value->Shared->Prop) (Q:Value->Shared->Prop),Q (.bool (decide (j<=i))) ⟨hp,g,d,tk,os⟩->wpAny (model prog w) A.in1 (richCompare .GtE (.int i t) (.int j k)) Q E ⟨hp,g,d,tk,os⟩:=
       fun E Q h=>(PyProof.Rows.ge_int h:wpAny (model prog w) A.in1 (compareOp .GtE (.int i t) (.int j k)) Q E _)
      wp_walk using hge
      refine ⟨_,rfl,?_⟩
      have e:(!decide (i<j))=decide (j<=i):=by
       by_cases c':i<j
       ·rw[decide_eq_true c',decide_eq_false (by lia)];rfl
       ·rw[decide_eq_false c',decide_eq_true (by lia)];rfl
      rw[e] at hR
      simpa using hR
  case fin=>
   rintro ⟨b1,b2⟩ s' ⟨us,vs,ps,qs,hz,iu,iv,hn,hR,hr,rfl⟩
   simp only at hr
   subst hr
   have e:(!HT.lexLt ps qs)=decide (items2.size<=items.size):=by
    cases iu with
    | nil=>
     cases iv with
     | nil=>rw[HT.JL,decide_eq_true (by simp at hn;lia)];rfl
     | cons _ _ _=>rw[HT.Iz,decide_eq_false (by simp at hn;lia)];rfl
    | cons _ _ _=>
     cases iv with
     | nil=>rw[HT.HS,decide_eq_true (by simp at hn;lia)];rfl
     | cons _ _ _=>cases hz
   rw[e] at hR
   wp_walk
   exact ⟨_,rfl,by simpa [Builtin.Tuple.tupleCompareSizes] using hR⟩
  case h=>
   exact ⟨_,_,ns,ms,rfl,hi,hj,by lia,h,rfl,rfl⟩
section
variable {X:Cx}
def MB (K:PySem.W.Frag):R2:=fun x y H Q=>∃ (a b:Addr) (ns ms:List Int),x=.ref a/\y=.ref b/\SqT K H a (ns.map V.int)/\SqT K H b (ms.map V.int)/\Q (.bl (!HT.lexLt ns ms)) H
theorem S8 (hu:X.A.units<cLine):OpR X (compareOp .GtE) (MB X.K):=by
 intro pins s σ H x y v u Q I rx ry h
 obtain ⟨a,b,ns,ms,rfl,rfl,ha,hb,q⟩:=h
 cases rx
 cases ry
 obtain ⟨is,r1,⟨⟨cls,dd,data,sl⟩,e1,e2,n,e3⟩,_⟩:=I.tuple ha
 obtain ⟨js,r2,⟨⟨cls',dd',data',sl'⟩,e1',e2',n',e3'⟩,_⟩:=I.tuple hb
 simp only at e2 e3 e2' e3'
 subst e2 e3 e2' e3'
 have i1:IntsAre is.toArray.toList ns:=DL.intsAre_of r1
 have i2:IntsAre js.toArray.toList ms:=DL.intsAre_of r2
 refine richCompare_meets_room (op:=.GtE) ⟨_,e1,rfl⟩ ⟨_,e1',rfl⟩ PySem.F.slot_tuple_ge PySem.F.entry_tuple_ge (PySem.F.args_tuple_ge_2 _ _) (R7 a b _ _ n n' dd dd' sl sl' ns ms i1 i2) ⟨e1,e1',?_⟩ hu
 exact (show Value.bool (!HT.lexLt ns ms)≠Value.notImplemented/\EP X pins σ Q (.bool (!HT.lexLt ns ms)) s from ⟨fun z=>(nomatch z),.bl (!HT.lexLt ns ms),H,I,rfl,q⟩)
end
end L2
namespace DL
open PySem L2
section
variable {X:Cx} {a b:Expr} {ma mb:ME} {pos:Pos}
@[simp] def EK:Gm->SV->SV->Option D:=fun _ x y=>match x,y with
 | .v (.int i),.v (.int j)=>some (.bl (decide (j<=i)))
 | .v (.tup xs),.v (.tup ys)=>(intsOf xs).bind fun ns=>(intsOf ys).map fun ms=>.bl (!HT.lexLt ns ms)
 | _,_=>none
def KF (K:PySem.W.Frag):R2:=fun x y H Q=>rI0 (fun i j=>.bl (decide (j<=i))) x y H Q\/MB K x y H Q
theorem R9 (hu:X.A.units<cLine):OpR X (compareOp .GtE) (KF X.K):=op_ge.or (S8 hu)
theorem Te:OpD X EK (KF X.K):=by
 intro f α s σ H x y u v z Q hf rs hu hv e q
 unfold EK at e
 split at e
 ·rename_i i j
  cases e
  exact .inl ⟨i,j,Am hu,Am hv,q _ H rs .refl Be⟩
 ·rename_i xs ys
  obtain ⟨ns,h1,e⟩:=bind_some e
  obtain ⟨ms,h2,rfl⟩:=Ab e
  have:=Cc h1
  subst this
  have:=Cc h2
  subst this
  obtain ⟨a,vs,rfl,a1,a2⟩:=CY hu
  obtain ⟨b,us,rfl,b1,b2⟩:=CY hv
  rw[a2.ints] at a1
  rw[b2.ints] at b1
  exact .inr ⟨a,b,ns,ms,rfl,rfl,SqT.of a1,SqT.of b1,q _ H rs .refl Be⟩
 ·cases e
theorem Uv (hu:X.A.units<cLine) (ha:DE X a ma) (hb:DE X b mb):DT X (.Compare a [.GtE] [b] pos) (AO (mOp EK ma mb)):=Dx (R9 hu) Te ha hb (C4 _)
end
section
variable {X:Cx} {f:Fr} {α:Nat->Addr} {s:DS} {σ:St} {H:Hp} {a b:Expr} {p cp tp:Pos} {ms:MA}
end
section
variable {X:Cx} {f:Fr} {a b c:Expr} {ma mb mc:ME} {pos:Pos} {r r':R2} {g g':Gm->SV->SV->Option D}
@[simp] def BE (g g':Gm->SV->SV->Option D) (ma mb mc:ME):ME:=fun s=>(ma s).bind fun x=>(mb x.2).bind fun y=>(g y.2.Γ x.1 y.1).bind fun z=>match z with
 | .bl true=>(mc y.2).bind fun w=>(g' w.2.Γ y.1 w.1).map fun z=>(.v z,w.2)
 | .bl false=>some (.v (.bl false),y.2)
 | _=>none
theorem Kj {σ:St} {H:Hp} {Q:VK} (hf:f.K=X.K) (hg:OpD X g r) (hg':OpD X g' r') (h:tD f (BE g g' ma mb mc) σ H Q):Jb r r' (tD f ma) (tD f mb) (tD f mc) σ H Q:=by
 obtain ⟨α,s,out,rs,lo,e,q⟩:=h
 obtain ⟨⟨x,s1⟩,h1,e⟩:=bind_some e
 obtain ⟨⟨y,s2⟩,h2,e⟩:=bind_some e
 obtain ⟨z,hz,e⟩:=bind_some e
 refine ⟨α,s,_,rs,lo,h1,fun α1 u H1 rs1 l1 x1 hu=>⟨α1,s1,_,rs1,lo_le lo l1 x1,h2,fun α2 v H2 rs2 l2 x2 hv=>?_⟩⟩
 refine hg f α2 s2 σ H2 x y u v z _ hf rs2 (hu.ext x2) hv hz fun w H3 rs3 x3 hw=>?_
 split at e
 ·have hw':w=.bl true:=by unfold Rep at hw;exact hw
  refine ⟨true,hw',?_⟩
  rw[if_pos rfl]
  obtain ⟨⟨t,s4⟩,h4,e⟩:=bind_some e
  obtain ⟨z',hz',rfl⟩:=Ab e
  have lo2:=lo_le (lo_le lo l1 x1) l2 x2
  refine ⟨α2,s2,_,rs3,lo2,h4,fun α4 v4 H4 rs4 l4 x4 hv4=>?_⟩
  refine hg' f α4 s4 σ H4 y t v v4 z' _ hf rs4 ((hv.ext x3).ext x4) hv4 hz' fun w5 H5 rs5 x5 hw5=>?_
  exact q α4 w5 H5 rs5 (l4.trans (l2.trans l1)) ((((x1.trans x2).trans x3).trans x4).trans x5) hw5
 ·have hw':w=.bl false:=by unfold Rep at hw;exact hw
  cases e
  refine ⟨false,hw',?_⟩
  rw[if_neg Bool.false_ne_true]
  exact q α2 _ H3 rs3 (l2.trans l1) ((x1.trans x2).trans x3) (show Rep (wd f α2 s2.Γ H3) (.bl false) (.bl false) from Be)
 ·cases e
theorem Qa {op op':CmpOp} (ho:OpR X (compareOp op) r) (ho':OpR X (compareOp op') r') (hg:OpD X g r) (hg':OpD X g' r') (ha:DE X a ma) (hb:DE X b mb) (hc:DE X c mc) (hm:lastMarks [op,op'] [b,c]=false):DE X (.Compare a [op,op'] [b,c] pos) (BE g g' ma mb mc):=fun f hf=>
 PE.imp (RJ ho ho' (ha f hf) (hb f hf) (hc f hf) hm) fun σ H Q h=>Kj hf hg hg' h
theorem Ql {op op':CmpOp} (ho:OpR X (compareOp op) r) (ho':OpR X (compareOp op') r') (hg:OpD X g r) (hg':OpD X g' r') (ha:DE X a ma) (hb:DE X b mb) (hc:DE X c mc) (hm:lastMarks [op,op'] [b,c]=false):DT X (.Compare a [op,op'] [b,c] pos) (AO (BE g g' ma mb mc)):=fun f hf=>
 PT.imp (U0 ho ho' (ha f hf) (hb f hf) (hc f hf) hm) fun σ H Q hh_=>by
  obtain ⟨α,s,r',rs,lo,e,q⟩:=hh_
  obtain ⟨x,h1,e⟩:=bind_some e
  obtain ⟨k,h2,rfl⟩:=Ab e
  exact Kj hf hg hg' ⟨α,s,x,rs,lo,h1,fun α' v H' rs' l' ex hv=>⟨k,HB h2 hv,q α' H' rs' l' ex⟩⟩
end
section
variable {X:Cx} {f:Fr} {e:Expr} {pos p:Pos} {es:List Expr} {ms:MA}
theorem LH:∀ {bs:List Bool} {us:List Value},Vals (bs.map V.bl) us->us=bs.map Value.bool
 | [],_,h=>by cases h;rfl
 | b::bs,_,h=>by
  cases h with
  | cons r t=>
   cases (show _=Value.bool b from r)
   rw[LH t]
   rfl
theorem VN (bs:List Bool):(List.range bs.length).all (fun i=>bs.getD i false)=bs.all id:=by
 rw[Bool.eq_iff_iff,List.all_eq_true,List.all_eq_true]
 constructor
 ·intro h b hb
  obtain ⟨i,hi,rfl⟩:=List.getElem_of_mem hb
  have:=h i (List.mem_range.mpr hi)
  rw[List.getD_eq_getElem?_getD,List.getElem?_eq_getElem hi] at this
  exact this
 ·intro h i hi
  have hi:=List.mem_range.mp hi
  rw[List.getD_eq_getElem?_getD,List.getElem?_eq_getElem hi]
  exact h _ (List.getElem_mem hi)
theorem QQ (hc:X.calm=true):CallR X (.builtin "all") (fun xs H Q=>∃ (p:Addr) (bs:List Bool),xs=[.ref p]/\SqL X.K H p (bs.map V.bl)/\Q (.bl (bs.all id)) H):=by
 intro pins s σ H xs us Q I r h
 obtain ⟨l,bs,rfl,hq,q⟩:=h
 obtain ⟨u,rfl,rx⟩:=vals1 r
 cases rx
 obtain ⟨its,ri,pl,hz⟩:=I.list hq
 cases LH ri
 have hl:=pl.isList
 have hlt:@LT.lt Nat _ l s.heap.objs.size:=pl.lt
 refine call_all_walk (wpAny_pyIter_list hl ?_)
 refine ⟨_,_,_,_,_,_,fun i=>bs.getD i false,rfl,Walks.list (A:=X.A.in1) (I.ok.hd hc) s.heap.objs.size l (Nat.ne_of_lt hlt) (bs.map Value.bool).toArray,⟨⟨_,Heap.get?_push_size _ rfl,rfl,rfl⟩,hl.push _⟩,?_,fun h' tk hk=>?_⟩
 ·intro i v s' Q' E' hv hQ
  have hv:(bs.map Value.bool)[i]?=some v:=by simpa using hv
  rw[List.getElem?_map] at hv
  cases hb:bs[i]? with
  | none=>rw[hb] at hv;cases hv
  | some b=>
   rw[hb] at hv
   cases hv
   have hQ:Q' (bs.getD i false) s':=hQ
   rw[List.getD_eq_getElem?_getD,hb] at hQ
   exact wpAny_truthy_bool hQ
 ·refine ⟨.bl (bs.all id),H,I.kept (h':=h') (t':=tk) fun b o e=>?_,?_,q⟩
  ·have hb:@LT.lt Nat _ b s.heap.objs.size:=Heap.lt_size e
   exact hk b o (by simp;exact Nat.ne_of_lt hb) (Heap.get?_push_of_some _ e)
  ·have:(bs.map Value.bool).toArray.size=bs.length:=by simp
   rw[this,VN]
   rfl
def Cd:List D->Option (List Bool)
 | []=>some []
 | .bl i::r=>(Cd r).map (i::·)
 | _=>none
theorem Mb:∀ {xs:List D} {bs:List Bool},Cd xs=some bs->xs=bs.map .bl
 | [],bs,e=>by cases e;rfl
 | .bl i::r,bs,e=>by
  unfold Cd at e
  obtain ⟨cs,h,rfl⟩:=Ab e
  rw[Mb h]
  rfl
 | .non::_,_,e=>by cases e
 | .int _::_,_,e=>by cases e
 | .str _::_,_,e=>by cases e
 | .lst _::_,_,e=>by cases e
 | .tup _::_,_,e=>by cases e
 | .scr _::_,_,e=>by cases e
theorem JO:∀ bs:List Bool,Cd (bs.map .bl)=some bs
 | []=>rfl
 | b::bs=>by show (Cd (bs.map D.bl)).map (b::·)=_;rw[JO];rfl
theorem J5 {W:Wd}:∀ {bs:List Bool} {vs:List V},Reps W (bs.map D.bl) vs->vs=bs.map V.bl
 | [],vs,h=>h.nil_inv
 | b::bs,vs,h=>by
  obtain ⟨v,r,rfl,h1,h2⟩:=h.cons_inv
  unfold Rep at h1
  rw[h1,J5 h2]
  rfl
@[simp] def Cu:Gm->List SV->Option D:=fun Γ xs=>match xs with
 | [x]=>match elems Γ x with
  | some xs=>(Cd xs).map fun bs=>.bl (bs.all id)
  | _=>none
 | _=>none
theorem QS:CaD X Cu (fun xs H Q=>∃ (p:Addr) (bs:List Bool),xs=[.ref p]/\SqL X.K H p (bs.map V.bl)/\Q (.bl (bs.all id)) H):=by
 intro f α s σ H xs us z Q hf rs hu e q
 unfold Cu at e
 split at e
 ·rename_i x
  split at e
  ·rename_i ys hy
   obtain ⟨bs,hn,rfl⟩:=Ab e
   obtain ⟨v,r,rfl,h1,h2⟩:=hu.cons_inv
   rw[h2.nil_inv]
   obtain ⟨a,vs,rfl,h3,h4⟩:=BW rs hy h1
   rw[Mb hn] at h4
   rw[J5 h4] at h3
   exact ⟨a,bs,rfl,SqL.of h3,q _ H rs .refl Be⟩
  ·cases e
 ·cases e
theorem LO (hn:X.mg "all"=none) (ha:DA X (e::es) ms) (hc:X.calm=true:=by rfl) (hg:Gl X "all":=by rfl) (he:starEach (e::es) X.env=(false,eval e X.env)::starEach es X.env:=by rfl) (hpl:(backTo pos (starEach es X.env)).any (·.1)=false:=by rfl):DE X (.Call (.Name "all" p) (e::es) [] pos) (AN Cu ms):=
 Fm (QQ hc) QS hg hn PyProof.Rows.boot_all ha (by decide) (by decide) he hpl
end
section
variable {X:Cx} {f:Fr} {a b c:Expr} {ma mb mc:ME} {pos:Pos} {x:Str} {i:Int}
theorem Gz (h:∃ t,X.mg x=some (.int i t)) (hg:Gl X x:=by rfl) (hd:(x == ("__debug__":Str))=false:=by decide):DE X (.Name x pos) (mC (.int i)):=by
 obtain ⟨t,h⟩:=h
 exact Eh (Ld (v:=.int i) hg h ⟨t,rfl⟩ hd) fun W=>by unfold Rep;rfl
theorem Us:OpR X (compareOp .LtE) (fun x y H Q=>∃ i j:Str,x=.str i/\y=.str j/\Q (.bl (!decide (j.cps.toList<i.cps.toList))) H):=by
 intro pins s σ H x y v u Q I rx ry h
 obtain ⟨i,j,rfl,rfl,q⟩:=h
 obtain ⟨t,rfl⟩:=rx
 obtain ⟨t',rfl⟩:=ry
 exact PySem.P.le_str (Ao I q rfl)
@[simp] def Af:Gm->SV->SV->Option D:=fun _ x y=>match x,y with
 | .v (.int i),.v (.int j)=>some (.bl (decide (i<=j)))
 | .v (.str i),.v (.str j)=>some (.bl (!decide (j.cps.toList<i.cps.toList)))
 | _,_=>none
abbrev MM:R2:=fun x y H Q=>rI0 (fun i j=>.bl (decide (i<=j))) x y H Q\/(∃ i j:Str,x=.str i/\y=.str j/\Q (.bl (!decide (j.cps.toList<i.cps.toList))) H)
theorem GL:OpR X (compareOp .LtE) MM:=op_le.or Us
theorem Gc:OpD X Af MM:=by
 intro f α s σ H x y u v z Q hf rs hu hv e q
 unfold Af at e
 split at e
 ·rename_i i j
  cases e
  exact .inl ⟨i,j,Am hu,Am hv,q _ H rs .refl Be⟩
 ·rename_i i j
  cases e
  exact .inr ⟨i,j,Bd hu,Bd hv,q _ H rs .refl Be⟩
 ·cases e
theorem Kb (ha:DE X a ma) (hb:DE X b mb) (hc:DE X c mc) (hm:lastMarks [.LtE,.LtE] [b,c]=false:=by with_unfolding_all rfl):DE X (.Compare a [.LtE,.LtE] [b,c] pos) (BE Af Af ma mb mc):=Qa GL GL Gc Gc ha hb hc hm
theorem Jt (ha:DE X a ma) (hb:DE X b mb) (hc:DE X c mc) (hm:lastMarks [.LtE,.LtE] [b,c]=false:=by with_unfolding_all rfl):DT X (.Compare a [.LtE,.LtE] [b,c] pos) (AO (BE Af Af ma mb mc)):=Ql GL GL Gc Gc ha hb hc hm
end
end DL
namespace L2
open PySem
def Its (x:Str):It:=⟨fun i _=>i<x.cps.size,fun i H v H'=>H'=H/\∃ c,x.cps[i]?=some c/\v=.str ⟨#[c]⟩,fun i _=>x.cps.size<=i⟩
theorem PL {P:Program} {w:World} {K:PySem.W.Frag} {tg:Expr} (x:Str) (t:Tok) (it:Addr):Turn P w K tg (Its x) [it] it (fun i h=>h.IsStrIter it "str_ascii_iterator" x t i) where
 mem:=by simp
 obj:=fun i h st b hb=>by
  have e:b=it:=by simpa using hb
  subst e
  obtain ⟨o,e,c,d⟩:=st
  exact ⟨o,e,fun v z=>by rw[d] at z;cases z⟩
 keep:=fun i h h' st k=>let ⟨o,e,r⟩:=st;⟨o,k it (by simp) o e,r⟩
 item:=by
  intro X hP hw hK hc i pins s σ H E I hf st hg
  subst hP hw hK
  have hx:x.cps[i]?=some (x.cps[i]'hg):=Array.getElem?_eq_getElem hg
  obtain ⟨f0,f1,f2,f3,f4,f5⟩:=hf it (by simp)
  refine wpAny_pyNext_ascii_item st hx fun h' st' sb=>?_
  have I1:Inv X pins σ H {s with heap:=h',toks:=s.toks+1}:=I.turned (t':=s.toks+1) (fun b o hb e=>(sb.2 b hb).trans e) f0 f1 f3 f4 f5
  obtain ⟨o,e,c,d⟩:=id st'
  exact ⟨_,rfl,GY (s:={s with heap:=h',toks:=s.toks+1}) e c d (by decide) ⟨.str ⟨#[x.cps[i]'hg]⟩,H,I1,⟨_,rfl⟩,⟨rfl,_,hx,rfl⟩,st',fun b hb=>(hf b hb).1⟩⟩
 done:=by
  intro X hP hw hK hc i pins s σ H E I hf st hg
  subst hP hw hK
  obtain ⟨f0,f1,f2,f3,f4,f5⟩:=hf it (by simp)
  exact wpAny_pyNext_ascii_end (I.ok.hd hc) st (Array.getElem?_eq_none hg) fun h' eb=>⟨rfl,I.turned (t':=s.toks) (fun b o hb e=>eb b o hb e) f0 f1 f3 f4 f5⟩
 self:=fun _ _ _ _ _ st h=>wpAny_pyIter_striter_ascii st h
def T6 (tl:TE):TI:=fun σ H R=>tl σ H fun v H1=>∃ x:Str,v=.str x/\x.cps.all (·<128)=true/\R (Its x) H1
theorem VB {X:Cx} {tg l:Expr} {tl:TE} (hl:PE X l tl):PI X tg l (T6 tl):=by
 intro pins s σ H R I h
 refine thn (hl pins s σ H _ I h) fun v s1 hh_=>?_
 obtain ⟨x,H1,I1,r1,q1⟩:=hh_
 obtain ⟨x,rfl,ha,q⟩:=q1
 obtain ⟨t,rfl⟩:=r1
 refine wpAny_pyIter_ascii ha ?_
 refine ⟨s1.heap.objs.size,[s1.heap.objs.size],_,_,H1,rfl,I1.kept (t':=s1.toks) fun b o e=>Heap.get?_push_of_some _ e,PL x t _,⟨_,Heap.get?_push_size _ rfl,rfl,rfl⟩,fun b hb=>?_,q⟩
 have e:b=s1.heap.objs.size:=by simpa using hb
 subst e
 exact I1.fpOk (Nat.le_refl _) (I1.hok.fresh (Nat.le_refl _))
end L2
namespace DL
open PySem L2
section
variable {X:Cx} {f:Fr} {a tg:Expr}
def signs (x:Str):List D:=x.cps.toList.map fun c=>.str ⟨#[c]⟩
@[simp] def Cw (m:ME):MF:=fun s=>(m s).bind fun r=>match r.1 with
 | .v (.str x)=>if x.cps.all (·<128) then some (signs x,r.2) else none
 | _=>none
theorem Le {m:ME} (h:DE X a m):DI X tg a (Cw m):=fun f hf=>PI.imp (VB (h f hf)) fun σ H R hh_=>by
 obtain ⟨α,s,r,rs,lo,e,q⟩:=hh_
 obtain ⟨⟨x,s1⟩,h1,e⟩:=bind_some e
 simp only at e
 split at e
 ·rename_i x
  split at e
  case isFalse=>cases e
  rename_i ha
  cases e
  refine ⟨α,s,_,rs,lo,h1,fun α' v H' rs' l' x' hv=>?_⟩
  refine ⟨x,Bd hv,ha,q _ α' H' rs' l' x' ⟨?_,?_,?_⟩⟩
  ·intro i α2 s2 σ2 H2 Hh hi r2 x2 sup
   have hi:i<x.cps.size:=by simpa [signs] using hi
   exact hi
  ·intro i d y α2 s2 σ2 H2 Hh H3 hd r2 x2 sup yl
   obtain ⟨rfl,c,hc,rfl⟩:=yl
   have hd:(x.cps[i]?).map (fun c=>D.str ⟨#[c]⟩)=some d:=by simpa [signs] using hd
   rw[hc] at hd
   cases hd
   exact .inl ⟨rfl,JE⟩
  ·intro α2 s2 σ2 H2 Hh r2 x2 sup
   show x.cps.size<=(signs x).length
   simp[signs]
 ·cases e
end
end DL
namespace L2
open PySem PySem.Spec PyProof.Rows
section
variable {X:Cx} {tg:Expr}
end
end L2
namespace DL
open PySem L2
section
variable {X:Cx} {f:Fr} {a b c tg:Expr} {pos:Pos}
end
end DL
namespace L2
open PySem PySem.Spec PyProof.Rows
section
variable {X:Cx}
def thV (H:Hp):V->Int×Str
 | .ref a=>match H a with
  | some (.tup [.int k,.str x])=>(k,x)
  | _=>(0,"")
 | _=>(0,"")
def JN (K:PySem.W.Frag):List V->Hp->VK->Prop:=fun xs H Q=>∃ p vs,xs=[.ref p]/\SqL K H p vs/\(∀ v∈vs,∃ a k x,v=.ref a/\H a=some (.tup [.int k,.str x])) /\
 ∀ l (ws:List V),H l=none->ws.Perm vs->ws.Pairwise (fun u v=>EvS.BJ (thV H v) (thV H u)=false)->Q (.ref l) (upd H l (.lst ws))
theorem P7:CallR X (.builtin "sorted") (JN X.K):=by
 intro pins s σ H xs us Q I r h
 obtain ⟨p,vs,rfl,hq,hv,q⟩:=h
 obtain ⟨u,rfl,ru⟩:=vals1 r
 cases ru
 obtain ⟨its,rv,pl,hz⟩:=I.list hq
 have hl:=rv.length
 obtain ⟨e1,e2⟩:=IG rv fun v hvm=>let ⟨a,k,x,e,_⟩:=hv v hvm;⟨a,e⟩
 refine EvS.RV (fun u=>thV H (addrOf u)) pl.isList (fun u hu=>?_) (by lia) fun out b1 b2=>?_
 ·have hm:addrOf u∈vs:=by rw[e1];exact List.mem_map.mpr ⟨u,hu,rfl⟩
  obtain ⟨a,k,x,e3,e4⟩:=hv _ hm
  obtain ⟨b,rfl⟩:=e2 u hu
  have:b=a:=by injection e3
  subst this
  obtain ⟨_,its2,r2,o,ho,hc,n,hd⟩:=I.hok b _ e4
  have en:thV H (addrOf (.ref b))=(k,x):=by
   show (match H b with | some (.tup [.int k,.str x])=>(k,x) | _=>(0,""))=(k,x)
   rw[e4]
  cases r2 with
  | cons r1 r3=>
   cases r3 with
   | cons r4 r5=>
    cases r5
    obtain ⟨t,rfl⟩:=r1
    obtain ⟨t',rfl⟩:=r4
    exact ⟨b,o,n,t,t',rfl,ho,hc,by dsimp only;rw[en];exact hd⟩
 ·obtain ⟨e,he⟩:=sortedAll_at s.heap its out
  have hn:H (s.heap.objs.size+1)=none:=I.hok.fresh (Nat.le_succ _)
  have er:∀ u∈out.toList,∃ a,u=.ref a:=fun u hu=>e2 u (b1.mem_iff.mp hu)
  have pw:(out.toList.map addrOf).Perm vs:=by rw[e1];exact b1.map addrOf
  refine ⟨.ref (s.heap.objs.size+1),_,I.laid (t':=s.toks) (o:=.lst (out.toList.map addrOf)) (fun b u q=>sortedAll_old q) (Nat.le_succ _) ⟨?_,out.toList,e,Hm er,?_⟩,rfl,q _ _ hn pw ?_⟩
  ·rw[pw.length_eq];exact hz
  ·simpa using he
  ·rw[List.pairwise_map]
   exact b2
end
end L2
namespace DL
open PySem L2
open PyProof.Rows (boot_max)
section
variable {X:Cx} {f:Fr} {α:Nat->Addr} {s:DS} {σ:St} {H:Hp} {a b e:Expr} {ma mb:ME} {pos p:Pos} {es:List Expr} {ms:MA}
def thW (t:Int×Str):D:=.tup [.int t.1,.str t.2]
def FK:List D->Option (List (Int×Str))
 | []=>some []
 | .tup [.int k,.str x]::r=>(FK r).map ((k,x)::·)
 | _=>none
theorem My:∀ {xs:List D} {ts:List (Int×Str)},FK xs=some ts->xs=ts.map thW
 | [],ts,e=>by cases e;rfl
 | d::r,ts,e=>by
  unfold FK at e
  split at e
  ·rename_i h;cases h
  ·rename_i k x r' h
   cases h
   obtain ⟨us,h1,rfl⟩:=Ab e
   rw[My h1]
   rfl
  ·cases e
def EA (x:Int×Str):List (Int×Str)->List (Int×Str)
 | []=>[x]
 | y::r=>if EvS.BJ y x=true then y::EA x r else x::y::r
def Eb:List (Int×Str)->List (Int×Str)
 | []=>[]
 | x::r=>EA x (Eb r)
theorem HI (x:Int×Str):∀ r,(EA x r).Perm (x::r)
 | []=>.refl _
 | y::r=>by
  unfold EA
  split
  ·exact ((HI x r).cons y).trans (.swap x y r)
  ·exact .refl _
theorem Ka:∀ r,(Eb r).Perm r
 | []=>.refl _
 | x::r=>(HI x _).trans ((Ka r).cons x)
abbrev EB (r:List (Int×Str)):Prop:=r.Pairwise fun u v=>EvS.BJ v u=false
theorem Ji (x:Int×Str):∀ r,EB r->EB (EA x r)
 | [],_=>List.pairwise_singleton _ _
 | y::r,h=>by
  unfold EA
  obtain ⟨h1,h2⟩:=List.pairwise_cons.mp h
  split
  ·rename_i c
   refine List.pairwise_cons.mpr ⟨fun k hk=>?_,Ji x r h2⟩
   rcases List.mem_cons.mp ((HI x r).mem_iff.mp hk) with rfl | hk
   ·exact EvS.K7 c
   ·exact h1 k hk
  ·rename_i c
   have c':EvS.BJ y x=false:=by cases hc:EvS.BJ y x with | false=>rfl | true=>exact absurd hc c
   refine List.pairwise_cons.mpr ⟨fun k hk=>?_,h⟩
   rcases List.mem_cons.mp hk with rfl | hk
   ·exact c'
   ·exact EvS.KJ c' (h1 k hk)
theorem Mv:∀ r,EB (Eb r)
 | []=>.nil
 | x::r=>Ji x _ (Mv r)
theorem QI {xs ys:List (Int×Str)} (p:xs.Perm ys) (hx:EB xs) (hy:EB ys):xs=ys:=
 p.eq_of_pairwise (fun a b _ _ h1 h2=>EvS.Rg h1 h2) hx hy
@[simp] def Bn:Gm->List SV->Option (List D):=fun Γ xs=>match CU Γ xs with
 | some z=>some z
 | none=>match xs with
  | [x]=>(elems Γ x).bind fun xs=>(FK xs).map fun ts=>(Eb ts).map thW
  | _=>none
theorem UX:CallR X (.builtin "sorted") (fun xs H Q=>FN X.K xs H Q\/JN X.K xs H Q):=call_sortedA.or P7
theorem Js {W:Wd} {t:Int×Str} {v:V} (h:Rep W (thW t) v):∃ a,v=.ref a/\W.H a=some (.tup [.int t.1,.str t.2]):=by
 unfold thW Rep at h
 obtain ⟨a,vs,e,_,h1,h2⟩:=h
 obtain ⟨v1,r1,rfl,q1,q2⟩:=h2.cons_inv
 obtain ⟨v2,r2,rfl,q3,q4⟩:=q2.cons_inv
 rw[q4.nil_inv] at h1
 unfold Rep at q1 q3
 subst q1 q3
 exact ⟨a,e,h1⟩
theorem ND {W:Wd} {t:Int×Str} {v:V} (h:Rep W (thW t) v):thV W.H v=t:=by
 obtain ⟨a,rfl,h1⟩:=Js h
 show (match W.H a with | some (.tup [.int k,.str x])=>(k,x) | _=>(0,""))=t
 rw[h1]
theorem NP {W:Wd}:∀ {ts:List (Int×Str)} {vs:List V},Reps W (ts.map thW) vs->vs.map (thV W.H)=ts/\∀ v∈vs,Rep W (thW (thV W.H v)) v
 | [],vs,h=>by rw[h.nil_inv];exact ⟨rfl,fun _ h=>nomatch h⟩
 | t::r,vs,h=>by
  obtain ⟨v,q,rfl,h1,h2⟩:=Reps.cons_inv (d:=thW t) (ds:=r.map thW) h
  obtain ⟨h3,h4⟩:=NP h2
  refine ⟨by rw[List.map_cons,h3,ND h1],fun u hu=>?_⟩
  rcases List.mem_cons.mp hu with rfl | hu
  ·rw[ND h1];exact h1
  ·exact h4 u hu
theorem M5 {W:Wd}:∀ {ws:List V},(∀ v∈ws,Rep W (thW (thV W.H v)) v)->Reps W ((ws.map (thV W.H)).map thW) ws
 | [],_=>.nil
 | w::ws,h=>.cons (h w List.mem_cons_self) (M5 fun v hv=>h v (List.mem_cons_of_mem _ hv))
theorem VJ:CaF X Bn (fun xs H Q=>FN X.K xs H Q\/JN X.K xs H Q):=by
 intro f α s σ H xs us z Q hf rs hu e q
 unfold Bn at e
 split at e
 ·rename_i z' h0
  cases e
  exact .inl (NA f α s σ H xs us z Q hf rs hu h0 q)
 ·split at e
  ·obtain ⟨xs,h0,e⟩:=bind_some e
   obtain ⟨ts,h5,rfl⟩:=Ab e
   obtain ⟨v,r,rfl,h1,h2⟩:=hu.cons_inv
   rw[h2.nil_inv]
   obtain ⟨a,vs,rfl,h3,h4⟩:=BW rs h0 h1
   have h6:=My h5
   subst h6
   obtain ⟨n1,n2⟩:=NP h4
   refine .inr ⟨a,vs,rfl,SqL.of h3,fun v hv=>?_,fun l ws hl hp hs=>q l _ hl ?_⟩
   ·obtain ⟨b,e1,e2⟩:=Js (n2 v hv)
    exact ⟨b,_,_,e1,e2⟩
   ·have e1:ws.map (thV H)=Eb ts:=QI (((hp.map (thV H)).trans (by rw[n1])).trans (Ka ts).symm) (by rw[EB,List.pairwise_map];exact hs) (Mv ts)
    rw[<-e1]
    exact M5 fun v hv=>n2 v (hp.mem_iff.mp hv)
  ·cases e
end
end DL
namespace DL
open PySem L2 Ev
section
variable {X:Cx} {st:Stmt} {pos p:Pos} {e:Expr} {es:List Expr} {ms:MA}
theorem L5 (T:Nm X.mg) (ha:DA X (e::es) ms) (hg:Gl X "sorted":=by rfl) (he:starEach (e::es) X.env=(false,eval e X.env)::starEach es X.env:=by rfl) (hpl:(backTo pos (starEach es X.env)).any (·.1)=false:=by rfl):DF X (.Call (.Name "sorted" p) (e::es) [] pos) (Bw Bn ms):=
 NG UX VJ hg T.sorted PyProof.Rows.boot_sorted ha (by decide) (by decide) he hpl
theorem JD:DSt X st fun _=>none:=fun f hf=>PS.imp Oj fun E σ H ⟨α,s,o,rs,lo,e,q⟩=>by cases e
end
end DL
namespace L2
open PySem PySem.SeqAt
open PySem.AutoSeq1 (wpAny_loadPart')
open PySem.MeetsSeq PySem.MeetsSeq2 PySem.MeetsSeq3
open PyProof.Rows (IntsAre IsTup)
theorem UH (l b:Addr) (items items2:Array Value) (n n2:Nat) (dd dd2:Option Addr) (sl sl2:Array (Option Value)) (ns ms:List Int) (hi:IntsAre items.toList ns) (hj:IntsAre items2.toList ms) :
  Meets (Builtin.«tuple.__gt__» ⟨[.ref l,.ref b],[]⟩)
   (fun _ R s=>s.heap.get? l=some {cls:=.type "tuple",dict:=dd,data:=.seq items n,slots:=sl}/\s.heap.get? b=some {cls:=.type "tuple",dict:=dd2,data:=.seq items2 n2,slots:=sl2} /\
    R (.ok (.ret (.bool (HT.lexLt ms ns)))) s):=
 .of_wp fun prog w A R s h=>by
  obtain ⟨hp,g,d,tk,os⟩:=s
  obtain ⟨hl,hb,h⟩:=h
  have f2:=AutoSeq1.sub_tuple_tuple
  have z1:ns.length=items.size:=by rw[<-hi.length];simp
  have z2:ms.length=items2.size:=by rw[<-hj.length];simp
  wp_walk using wpAny_loadPart' hl,wpAny_loadPart' hb,wpAny_forIn_list _ (fun left r s'=>∃ (us vs:List Value) (ps qs:List Int),left=us.zip vs/\IntsAre us ps/\IntsAre vs qs /\
   ps.length+ms.length=qs.length+ns.length/\R (.ok (.ret (.bool (HT.lexLt qs ps)))) ⟨hp,g,d,tk,os⟩/\r.1=none/\s'=⟨hp,g,d,tk,os⟩) _
  case turn=>
   rintro ⟨y,x⟩ left r s' ⟨us,vs,ps,qs,hz,iu,iv,hn,hR,hr,rfl⟩
   cases iu with
   | nil=>cases hz
   | cons i t iu=>
    cases iv with
    | nil=>cases hz
    | cons j k iv=>
     obtain ⟨⟨rfl,rfl⟩,rfl⟩:(y=.int i t/\x=.int j k)/\left=_:=by
      rw[List.zip_cons_cons] at hz
      injection hz with p q
      injection p with p1 p2
      exact ⟨⟨p1,p2⟩,q⟩
     rw[HT.C0] at hR
     simp only[List.length_cons] at hn
     refine wpAny_bind (SeqAt.EqAt.int_int i t j k prog w _ _ ?_)
     by_cases c:i=j
     ·rw[if_pos c.symm] at hR
      subst c
      rw[beq_self_eq_true]
      wp_walk
      exact ⟨_,_,_,_,rfl,iu,iv,by lia,hR,rfl,rfl⟩
     ·rw[if_neg (fun z=>c z.symm)] at hR
      rw[show (i == j)=false from beq_false_of_ne c]
      have hgt:∀ (E:Value->Shared->Prop) (Q:Value->Shared->Prop),Q (.bool (decide (j<i))) ⟨hp,g,d,tk,os⟩->wpAny (model prog w) A.in1 (richCompare .Gt (.int i t) (.int j k)) Q E ⟨hp,g,d,tk,os⟩:=
       fun E Q h=>(PyProof.Rows.gt_int h:wpAny (model prog w) A.in1 (compareOp .Gt (.int i t) (.int j k)) Q E _)
      wp_walk using hgt
      refine ⟨_,rfl,?_⟩
      simpa using hR
  case fin=>
   rintro ⟨b1,b2⟩ s' ⟨us,vs,ps,qs,hz,iu,iv,hn,hR,hr,rfl⟩
   simp only at hr
   subst hr
   have e:(HT.lexLt qs ps)=decide (items2.size<items.size):=by
    cases iu with
    | nil=>
     cases iv with
     | nil=>rw[HT.JL,decide_eq_false (by simp at hn;lia)]
     | cons _ _ _=>rw[HT.HS,decide_eq_false (by simp at hn;lia)]
    | cons _ _ _=>
     cases iv with
     | nil=>rw[HT.Iz,decide_eq_true (by simp at hn;lia)]
     | cons _ _ _=>cases hz
   rw[e] at hR
   wp_walk
   exact ⟨_,rfl,by simpa [Builtin.Tuple.tupleCompareSizes] using hR⟩
  case h=>
   exact ⟨_,_,ns,ms,rfl,hi,hj,by lia,h,rfl,rfl⟩
section
variable {X:Cx}
def M3 (K:PySem.W.Frag):R2:=fun x y H Q=>∃ (a b:Addr) (ns ms:List Int),x=.ref a/\y=.ref b/\SqT K H a (ns.map V.int)/\SqT K H b (ms.map V.int)/\Q (.bl (HT.lexLt ms ns)) H
theorem PU (hu:X.A.units<cLine):OpR X (compareOp .Gt) (M3 X.K):=by
 intro pins s σ H x y v u Q I rx ry h
 obtain ⟨a,b,ns,ms,rfl,rfl,ha,hb,q⟩:=h
 cases rx
 cases ry
 obtain ⟨is,r1,⟨⟨cls,dd,data,sl⟩,e1,e2,n,e3⟩,_⟩:=I.tuple ha
 obtain ⟨js,r2,⟨⟨cls',dd',data',sl'⟩,e1',e2',n',e3'⟩,_⟩:=I.tuple hb
 simp only at e2 e3 e2' e3'
 subst e2 e3 e2' e3'
 have i1:IntsAre is.toArray.toList ns:=DL.intsAre_of r1
 have i2:IntsAre js.toArray.toList ms:=DL.intsAre_of r2
 refine richCompare_meets_room (op:=.Gt) ⟨_,e1,rfl⟩ ⟨_,e1',rfl⟩ PySem.F.slot_tuple_gt PySem.F.entry_tuple_gt (PySem.F.args_tuple_gt_2 _ _) (UH a b _ _ n n' dd dd' sl sl' ns ms i1 i2) ⟨e1,e1',?_⟩ hu
 exact (show Value.bool (HT.lexLt ms ns)≠Value.notImplemented/\EP X pins σ Q (.bool (HT.lexLt ms ns)) s from ⟨fun z=>(nomatch z),.bl (HT.lexLt ms ns),H,I,rfl,q⟩)
end
end L2
namespace DL
open PySem L2
section
variable {X:Cx} {a b:Expr} {ma mb:ME} {pos:Pos}
@[simp] def DJ:Gm->SV->SV->Option D:=fun _ x y=>match x,y with
 | .v (.int i),.v (.int j)=>some (.bl (decide (j<i)))
 | .v (.tup xs),.v (.tup ys)=>(intsOf xs).bind fun ns=>(intsOf ys).map fun ms=>.bl (HT.lexLt ms ns)
 | _,_=>none
def LR (K:PySem.W.Frag):R2:=fun x y H Q=>rI0 (fun i j=>.bl (decide (j<i))) x y H Q\/M3 K x y H Q
theorem OZ (hu:X.A.units<cLine):OpR X (compareOp .Gt) (LR X.K):=op_gt.or (PU hu)
theorem VE:OpD X DJ (LR X.K):=by
 intro f α s σ H x y u v z Q hf rs hu hv e q
 unfold DJ at e
 split at e
 ·rename_i i j
  cases e
  exact .inl ⟨i,j,Am hu,Am hv,q _ H rs .refl Be⟩
 ·rename_i xs ys
  obtain ⟨ns,h1,e⟩:=bind_some e
  obtain ⟨ms,h2,rfl⟩:=Ab e
  have:=Cc h1
  subst this
  have:=Cc h2
  subst this
  obtain ⟨a,vs,rfl,a1,a2⟩:=CY hu
  obtain ⟨b,us,rfl,b1,b2⟩:=CY hv
  rw[a2.ints] at a1
  rw[b2.ints] at b1
  exact .inr ⟨a,b,ns,ms,rfl,rfl,SqT.of a1,SqT.of b1,q _ H rs .refl Be⟩
 ·cases e
theorem LC (hu:X.A.units<cLine) (ha:DE X a ma) (hb:DE X b mb):DT X (.Compare a [.Gt] [b] pos) (AO (mOp DJ ma mb)):=Dx (OZ hu) VE ha hb (C4 _)
variable {c:Expr} {mc:ME}
end
end DL
namespace SL
open PySem
def Ris (t:SetTable):Prop:=t.plain=true->t.place.toList.Pairwise (·<·)
end SL
namespace SL
open PySem PySem.Spec PyProof.Rows
def kv:Value->Int
 | .int k _=>k
 | _=>0
structure SG (prog:Program) (w:World) (o:Obj) (ns:List Int) (es:Array (Int×Value)) (ep:Nat) (t:SetTable):Prop where
 ex:o.ExactSet
 dat:o.data=.set es ep t
 el:ElemsOf (intKind prog w) es.toList
 pm:(es.toList.map fun e=>kv e.2).Perm ns
 sz:es.size<scanBound
 fit:t.fits es.size=true
 ris:Ris t
 led:t.led=!w.params.followText "set-order"
def CB (ns:List Int) (k:Int):List Int:=if k∈ns then ns else ns++[k]
section
variable {prog:Program} {w:World} {A:Around} {E:Value->Shared->Prop} {s:Shared}
end
section
variable {prog:Program} {w:World} {A:Around} {E:Value->Shared->Prop} {s:Shared}
end
section
variable {prog:Program} {w:World} {A:Around} {E:Value->Shared->Prop} {s:Shared}
end
section
variable {prog:Program} {w:World} {A:Around} {E:Value->Shared->Prop} {s:Shared} {it a:Addr} {first:Value} {i n ep:Nat}
end
section
variable {prog:Program} {w:World} {A:Around} {E:Value->Shared->Prop} {s:Shared} {a:Addr} {o:Obj} {es:Array (Int×Value)} {t:SetTable} {slot i ep:Nat}
end
section
variable {prog:Program} {w:World} {A:Around} {E:Value->Shared->Prop} {s:Shared} {a it:Addr} {o:Obj} {es:Array (Int×Value)} {t:SetTable} {i ep:Nat}
end
section
variable {prog:Program} {w:World} {A:Around} {E:Value->Shared->Prop} {s:Shared} {a it p:Addr} {o op:Obj} {es:Array (Int×Value)} {t:SetTable} {i ep m:Nat} {ps:Array Value}
end
section
variable {prog:Program} {w:World} {A:Around} {E:Value->Shared->Prop} {s:Shared} {a it p:Addr} {o op:Obj} {es:Array (Int×Value)} {t:SetTable} {i ep m:Nat} {ps:Array Value} {first:Value}
end
section
variable {prog:Program} {w:World} {A A':Around} {E:Value->Shared->Prop} {s:Shared} {a:Addr}
end
section
variable {prog:Program} {w:World} {A:Around} {E:Value->Shared->Prop} {s:Shared} {a:Addr}
end
end SL
namespace SL
open PySem PySem.Spec PyProof.Rows EvS
section
variable {prog:Program} {w:World} {A:Around} {E:Value->Shared->Prop} {s:Shared} {a:Addr}
end
end SL
namespace SL
open PySem PySem.Spec PyProof.Rows L2 Ev DL
def dd (ns:List Int):List Int:=ns.foldl CB []
section
variable {X:Cx} {pins:List (Addr×Obj)} {σ:L2.St} {H:Hp} {s:Shared}
end
section
variable {X:Cx} {e:Expr} {es:List Expr} {ms:MA} {p p2 pos pos2:Pos}
end
end SL
namespace L2
open PySem PyProof PyProof.Rows
section
variable {X:Cx}
end
end L2
namespace DL
open PySem L2
@[simp] def Dw:Gm->SV->SV->Option (List D):=fun Γ x y=>match elems Γ x,y with
 | some xs,.v (.int k)=>if k<=100000/\-100000<=k/\xs.length * k.toNat<=big then some (List.replicate k.toNat xs).flatten else none
 | _,_=>none
section
variable {X:Cx} {a b o i e:Expr} {ma mb mo mi me:ME} {pos p:Pos}
theorem K8 {W:Wd} {xs:List D} {vs:List V} (h:Reps W xs vs):∀ k:Nat,Reps W (List.replicate k xs).flatten (List.replicate k vs).flatten
 | 0=>.nil
 | k+1=>by
  rw[List.replicate_succ,List.replicate_succ,List.flatten_cons,List.flatten_cons]
  exact h.append (K8 h k)
theorem O4:OpF X Dw NI:=by
 intro f α s σ H x y u v z Q hf rs hu hv e q
 unfold Dw at e
 split at e
 ·rename_i xs k h1
  split at e
  ·rename_i hz
   cases e
   obtain ⟨a,vs,rfl,a1,a2⟩:=BW rs h1 hu
   exact ⟨a,k,vs,rfl,Am hv,a1,by lia,by lia,by rw[a2.len];exact Ca hz.2.2,fun p hp=>q p _ hp (K8 a2 _)⟩
  ·cases e
 ·cases e
theorem Pr (ha:DE X a ma) (hb:DE X b mb):DF X (.BinOp a .Mult b pos) (C1 Dw ma mb):=SK Ub O4 ha hb
end
end DL
namespace L2
open PySem PySem.Spec PyProof.Rows
section
variable {κ:Type} [DecidableEq κ]
end
section
variable {P:Program} {w:World} {H:Hp} {h:Heap} {a:Addr}
end
section
variable {X:Cx} {pins:List (Addr×Obj)} {σ:St} {H:Hp} {s:Shared} {a:Addr} {y v:V} {u r:Value} {o:Option V} {A:Around} {E:Value->Shared->Prop}
end
section
variable {X:Cx} {pins:List (Addr×Obj)} {σ:St} {H:Hp} {s:Shared} {a:Addr} {kvs:List (Key×V)} {k:Key} {u:Value} {A:Around} {E:Value->Shared->Prop}
end
section
variable {X:Cx} {o i e value:Expr} {pos pos' tpos:Pos} {td ty tv:TE}
end
section
variable {X:Cx} {pos:Pos}
end
structure M1 (X:Cx) (o:Expr) (m:Str) (apos:Pos) (e:Expr) (cpos:Pos):Prop where
 base:attributeBase o m X.env (eval o X.env)=eval o X.env
 few:((backTo cpos (starEach [e] X.env)).all (fun x=>!x.1) && (backToKw cpos (keywordEach [] X.env)).all (fun x=>x.1.isSome)
  && decide (([e]:List Expr).length+([]:List Keyword).length+(if ([]:List Keyword).isEmpty then 0 else 1)<30))=true
 line:(apos.endLine == cpos.line)=true
 trees:backTo cpos (starEach [e] X.env)=[(false,eval e X.env)]
structure M2 (X:Cx) (o:Expr) (m:Str) (apos:Pos) (e f:Expr) (cpos:Pos):Prop where
 base:attributeBase o m X.env (eval o X.env)=eval o X.env
 few:((backTo cpos (starEach [e,f] X.env)).all (fun x=>!x.1) && (backToKw cpos (keywordEach [] X.env)).all (fun x=>x.1.isSome)
  && decide (([e,f]:List Expr).length+([]:List Keyword).length+(if ([]:List Keyword).isEmpty then 0 else 1)<30))=true
 line:(apos.endLine == cpos.line)=true
 trees:backTo cpos (starEach [e,f] X.env)=[(false,eval e X.env),(false,eval f X.env)]
section
variable {X:Cx} {pins:List (Addr×Obj)} {σ:St} {H:Hp} {s:Shared} {a:Addr} {y d:V} {u r:Value} {o:Option V} {A:Around} {E:Value->Shared->Prop}
end
section
variable {X:Cx} {o e f:Expr} {apos cpos:Pos} {td ty tx:TE}
end
section
variable {X:Cx} {pins:List (Addr×Obj)} {σ:St} {H:Hp} {s:Shared} {a:Addr} {kvs:List (Key×V)} {A:Around} {E:Value->Shared->Prop}
end
section
variable {X:Cx} {pins:List (Addr×Obj)} {σ:St} {H:Hp} {s:Shared} {a:Addr} {y:V} {u:Value} {A:Around} {E:Value->Shared->Prop}
end
end L2
namespace Att
open PySem PySem.W PySem.Calls PyProof.Rows
end Att
namespace L2
open PySem PySem.Spec PyProof.Rows
section
variable {X:Cx}
end
section
variable {κ:Type} [DecidableEq κ]
end
end L2
namespace SL
open PySem PySem.Spec PyProof.Rows L2 EvS
section
variable {prog:Program} {w:World} {A:Around} {E:Value->Shared->Prop} {s:Shared} {a:Addr}
end
section
variable {X:Cx}
end
end SL
namespace SL
open PySem PySem.Spec PyProof.Rows L2 EvS Ev
section
variable {X:Cx}
variable {e:Expr} {es:List Expr} {ms:DL.MA} {p p2 pos pos2:Pos}
end
end SL
namespace SL
open PySem PySem.Spec PyProof.Rows L2
section
variable {prog:Program} {w:World} {A:Around} {E:Value->Shared->Prop} {s:Shared}
end
section
variable {X:Cx} {tg:Expr}
end
section
variable {X:Cx} {o e:Expr} {apos cpos:Pos} {td ty:TE}
def Rp (td ty:TE):TE:=fun σ H Q=>td σ H fun x H1=>∃ a,x=.str a/\ty σ H1 fun y H2=>∃ b,y=.str b/\Q (.bl (Txt.startswith a b)) H2
theorem T7 (ho:PE X o td) (he:PE X e ty) (m:M1 X o "startswith" apos e cpos):PE X (.Call (.Attribute o "startswith" apos) [e] [] cpos) (Rp td ty):=by
 intro pins s σ H Q I h
 refine wpAny_Call_method m.base m.few m.line PySem.F.plainAttrs_str PySem.F.slot_str_startswith PySem.F.type_str_startswith (thn (ho pins s σ H _ I h) fun u s1 hh_=>?_)
 obtain ⟨x,H1,I1,rx,a,ex,q1⟩:=hh_
 subst ex
 obtain ⟨t,rfl⟩:=rx
 refine ⟨typeIs_str _ _ _,(fun _ z=>nomatch z),?_⟩
 rw[m.trees]
 refine Calls.callWith_builtin rfl (Calls.evalArgs_plain (Calls.spliced_cons (thn (he pins s1 σ H1 _ I1 q1) fun iv s2 ⟨y,H2,I2,ry,b,ey,q2⟩=>Calls.spliced_nil ?_)))
 subst ey
 obtain ⟨t2,rfl⟩:=ry
 exact SC.startswith ⟨.bl _,H2,I2,rfl,q2⟩
theorem LD:∀ {xs:List Str} {us:List Value},Vals (xs.map V.str) us->∃ l:List (Str×Tok),us=strValues l/\l.map (·.1)=xs
 | [],us,h=>by
  cases h
  exact ⟨[],rfl,rfl⟩
 | x::xs,us,h=>by
  cases h with
  | cons r t=>
   obtain ⟨l,rfl,h2⟩:=LD t
   obtain ⟨k,rfl⟩:=r
   exact ⟨(x,k)::l,rfl,by rw[List.map_cons,h2]⟩
def Q9 (K:PySem.W.Frag) (td ty:TE):TE:=fun σ H Q=>td σ H fun x H1=>∃ a,x=.str a/\ty σ H1 fun y H2=>∃ D xs,y=.ref D/\SqL K H2 D (xs.map V.str)/\JoinOk a xs=true/\Q (.str (Txt.join a xs)) H2
theorem Qq (ho:PE X o td) (he:PE X e ty) (m:M1 X o "join" apos e cpos):PE X (.Call (.Attribute o "join" apos) [e] [] cpos) (Q9 X.K td ty):=by
 intro pins s σ H Q I h
 refine wpAny_Call_method m.base m.few m.line PySem.F.plainAttrs_str PySem.F.slot_str_join PySem.F.type_str_join (thn (ho pins s σ H _ I h) fun u s1 hh_=>?_)
 obtain ⟨x,H1,I1,rx,a,ex,q1⟩:=hh_
 subst ex
 obtain ⟨t,rfl⟩:=rx
 refine ⟨typeIs_str _ _ _,(fun _ z=>nomatch z),?_⟩
 rw[m.trees]
 refine Calls.callWith_builtin rfl (Calls.evalArgs_plain (Calls.spliced_cons (thn (he pins s1 σ H1 _ I1 q1) fun iv s2 ⟨y,H2,I2,ry,D,xs,ey,hq,hj,q2⟩=>Calls.spliced_nil ?_)))
 subst ey
 cases ry
 obtain ⟨its,rv,p,hz⟩:=I2.list hq
 obtain ⟨l,rfl,hl⟩:=LD rv
 exact SC.join p.isList hl hj fun t' k=>⟨.str _,H2,I2.tok k,⟨t',rfl⟩,q2⟩
theorem Lp:∀ l:List (Str×Tok),Vals ((l.map (·.1)).map V.str) (strValues l)
 | []=>.nil
 | p::l=>.cons ⟨p.2,rfl⟩ (Lp l)
theorem UU {prog:Program} {w:World} {A:Around} {E:Value->Shared->Prop} {s:Shared} {x y:Str} {t u:Tok} {Q:Value->Shared->Prop} (hy:(y.length == 0)=false) (hx:x.length<=sizeLine) (hz:(Builtin.Str.partsBetween x (Builtin.Str.occurrences x y 0 x.length (x.length+1)) y.length).length<=sizeLine)
  (hq:∀ (l:List (Str×Tok)) (k:Nat),l.map (·.1)=Txt.split x y->Q (.ref s.heap.objs.size) {s with heap:=s.heap.push {cls:=.type "list",data:=.seq (strValues l).toArray},toks:=k}):wpAny (model prog w) A (call (.builtin "str.split") [.str x t,.str y u]) Q E s:=by
 cases h1:(decide (x.length<y.length) || decide (Builtin.Str.strKind x<Builtin.Str.strKind y))
 ·have e1:Txt.split x y=if (Builtin.Str.occurrences x y 0 x.length (x.length+1)).isEmpty=true then [x] else _:=if_neg (ne_true_of_eq_false h1)
  cases hf:(Builtin.Str.occurrences x y 0 x.length (x.length+1)).isEmpty
  ·refine call_meets F.slot_str_split (typeIs_str _ _ _) F.entry_str_split (F.args_str_split_2 _ _) (meets_str_split_sep x y t u h1 hy hf hx hz) ?_
   show wants Q E _ {s with toks:=_,heap:=s.heap.push {cls:=.type "list",data:=.seq (strsFrom s.toks (Builtin.Str.partsBetween x (Builtin.Str.occurrences x y 0 x.length (x.length+1)) y.length)).toArray}}
   rw[strsFrom_eq]
   exact hq (numbered s.toks _) _ ((numbered_texts _ _).trans (e1.trans (if_neg (ne_true_of_eq_false hf))).symm)
  ·exact call_meets F.slot_str_split (typeIs_str _ _ _) F.entry_str_split (F.args_str_split_2 _ _) (meets_str_split_not_found x y t u h1 hy hf) (hq [(x,t)] _ (e1.trans (if_pos hf)).symm)
 ·exact call_meets F.slot_str_split (typeIs_str _ _ _) F.entry_str_split (F.args_str_split_2 _ _) (meets_str_split_cannot_occur x y t u h1) (hq [(x,t)] _ (if_pos h1).symm)
def Oe (td ty:TE):TE:=fun σ H Q=>td σ H fun x H1=>∃ a,x=.str a/\ty σ H1 fun y H2=>∃ b,y=.str b/\(b.length == 0)=false/\a.length<=sizeLine/\(Builtin.Str.partsBetween a (Builtin.Str.occurrences a b 0 a.length (a.length+1)) b.length).length<=sizeLine/\(Txt.split a b).length<=sizeLine/\∀ l,H2 l=none->Q (.ref l) (upd H2 l (.lst ((Txt.split a b).map V.str)))
theorem Uo (ho:PE X o td) (he:PE X e ty) (m:M1 X o "split" apos e cpos):PE X (.Call (.Attribute o "split" apos) [e] [] cpos) (Oe td ty):=by
 intro pins s σ H Q I h
 refine wpAny_Call_method m.base m.few m.line PySem.F.plainAttrs_str PySem.F.slot_str_split PySem.F.type_str_split (thn (ho pins s σ H _ I h) fun u s1 hh_=>?_)
 obtain ⟨x,H1,I1,rx,a,ex,q1⟩:=hh_
 subst ex
 obtain ⟨t,rfl⟩:=rx
 refine ⟨typeIs_str _ _ _,(fun _ z=>nomatch z),?_⟩
 rw[m.trees]
 refine Calls.callWith_builtin rfl (Calls.evalArgs_plain (Calls.spliced_cons (thn (he pins s1 σ H1 _ I1 q1) fun iv s2 ⟨y,H2,I2,ry,b,ey,hb,ha,hz,hn,q2⟩=>Calls.spliced_nil ?_)))
 subst ey
 obtain ⟨t2,rfl⟩:=ry
 refine UU hb ha hz fun l k hl=>?_
 have hf:H2 s2.heap.objs.size=none:=I2.hok.fresh (Nat.le_refl _)
 refine ⟨.ref s2.heap.objs.size,upd H2 s2.heap.objs.size (.lst ((Txt.split a b).map V.str)),I2.laid (t':=k) (fun b u e=>Heap.get?_push_of_some _ e) (Nat.le_refl _) ?_,rfl,q2 _ hf⟩
 exact ⟨by rw[List.length_map];exact hn,strValues l,0,by rw[<-hl];exact Lp l,Heap.get?_push_size _ rfl⟩
end
end SL
namespace DL
open PySem L2
section
variable {X:Cx} {o e:Expr} {apos cpos:Pos} {ma mb:ME}
def D4 (ma mb:ME):ME:=fun s=>(ma s).bind fun x=>(mb x.2).bind fun y=>match x.1,y.1 with
 | .v (.str a),.v (.str b)=>some (.v (.bl (Txt.startswith a b)),y.2)
 | _,_=>none
theorem Um (ha:DE X o ma) (hb:DE X e mb) (m:M1 X o "startswith" apos e cpos):DE X (.Call (.Attribute o "startswith" apos) [e] [] cpos) (D4 ma mb):=fun f hf=>
 PE.imp (SL.T7 (ha f hf) (hb f hf) m) fun σ H Q hh_=>by
  obtain ⟨α,s,r,rs,lo,e0,q⟩:=hh_
  obtain ⟨x,h1,e0⟩:=bind_some e0
  obtain ⟨y,h2,e0⟩:=bind_some e0
  split at e0
  case h_2=>cases e0
  rename_i a b hx hy
  cases e0
  refine ⟨α,s,x,rs,lo,h1,fun α1 v H1 rs1 l1 x1 hv=>?_⟩
  rw[hx] at hv
  refine ⟨a,Bd hv,α1,x.2,y,rs1,lo_le lo l1 x1,h2,fun α2 v2 H2 rs2 l2 x2 hv2=>?_⟩
  rw[hy] at hv2
  exact ⟨b,Bd hv2,q α2 _ H2 rs2 (l2.trans l1) (x1.trans x2) (by show Rep _ _ _;unfold Rep;rfl)⟩
def strsOf:List D->Option (List Str)
 | []=>some []
 | .str a::r=>(strsOf r).map (a::·)
 | _::_=>none
theorem Ho:∀ {ds:List D} {xs:List Str},strsOf ds=some xs->ds=xs.map .str
 | [],xs,h=>by cases h;rfl
 | d::r,xs,h=>by
  cases d<;>first | (cases h;done) | skip
  obtain ⟨ys,h1,rfl⟩:=Ab h
  rw[Ho h1]
  rfl
theorem HY:∀ xs:List Str,strsOf (xs.map .str)=some xs
 | []=>rfl
 | a::r=>by show (strsOf (r.map .str)).map _=_;rw[HY r];rfl
theorem HU {W:Wd}:∀ {xs:List Str} {vs:List V},Reps W (xs.map .str) vs->vs=xs.map V.str
 | [],vs,h=>h.nil_inv
 | a::r,vs,h=>by
  obtain ⟨v,us,rfl,h1,h2⟩:=h.cons_inv
  rw[HU h2]
  unfold Rep at h1
  rw[h1]
  rfl
theorem Jm {W:Wd}:∀ xs:List Str,Reps W (xs.map .str) (xs.map V.str)
 | []=>.nil
 | a::r=>.cons (by unfold Rep;rfl) (Jm r)
def DK (ma mb:ME):ME:=fun s=>(ma s).bind fun x=>(mb x.2).bind fun y=>match x.1 with
 | .v (.str a)=>(elems y.2.Γ y.1).bind fun ds=>(strsOf ds).bind fun xs=>if JoinOk a xs=true then some (.v (.str (Txt.join a xs)),y.2) else none
 | _=>none
theorem Fc (ha:DE X o ma) (hb:DE X e mb) (m:M1 X o "join" apos e cpos):DE X (.Call (.Attribute o "join" apos) [e] [] cpos) (DK ma mb):=fun f hf=>
 PE.imp (SL.Qq (ha f hf) (hb f hf) m) fun σ H Q hh_=>by
  obtain ⟨α,s,r,rs,lo,e0,q⟩:=hh_
  obtain ⟨x,h1,e0⟩:=bind_some e0
  obtain ⟨y,h2,e0⟩:=bind_some e0
  split at e0
  case h_2=>cases e0
  rename_i a hx
  obtain ⟨ds,h3,e0⟩:=bind_some e0
  obtain ⟨xs,h4,e0⟩:=bind_some e0
  split at e0
  case isFalse=>cases e0
  rename_i hj
  cases e0
  have:=Ho h4
  subst this
  refine ⟨α,s,x,rs,lo,h1,fun α1 v H1 rs1 l1 x1 hv=>?_⟩
  rw[hx] at hv
  refine ⟨a,Bd hv,α1,x.2,y,rs1,lo_le lo l1 x1,h2,fun α2 v2 H2 rs2 l2 x2 hv2=>?_⟩
  obtain ⟨p,vs,rfl,g1,g2⟩:=BW rs2 h3 hv2
  have:=HU g2
  subst this
  exact ⟨p,xs,rfl,SqL.of g1,hj,q α2 _ H2 rs2 (l2.trans l1) (x1.trans x2) (by show Rep _ _ _;unfold Rep;rfl)⟩
def CK (ma mb:ME):MF:=fun s=>(ma s).bind fun x=>(mb x.2).bind fun y=>match x.1,y.1 with
 | .v (.str a),.v (.str b)=>if (b.length == 0)=false/\a.length<=big/\(Builtin.Str.partsBetween a (Builtin.Str.occurrences a b 0 a.length (a.length+1)) b.length).length<=big/\(Txt.split a b).length<=big then some ((Txt.split a b).map .str,y.2) else none
 | _,_=>none
theorem GN (ha:DE X o ma) (hb:DE X e mb) (m:M1 X o "split" apos e cpos):DF X (.Call (.Attribute o "split" apos) [e] [] cpos) (CK ma mb):=fun f hf=>
 PE.imp (SL.Uo (ha f hf) (hb f hf) m) fun σ H Q hh_=>by
  obtain ⟨α,s,r,rs,lo,e0,q⟩:=hh_
  obtain ⟨x,h1,e0⟩:=bind_some e0
  obtain ⟨y,h2,e0⟩:=bind_some e0
  split at e0
  case h_2=>cases e0
  rename_i a b hx hy
  split at e0
  case isFalse=>cases e0
  rename_i hc
  obtain ⟨c1,c2,c3,c4⟩:=hc
  cases e0
  refine ⟨α,s,x,rs,lo,h1,fun α1 v H1 rs1 l1 x1 hv=>?_⟩
  rw[hx] at hv
  refine ⟨a,Bd hv,α1,x.2,y,rs1,lo_le lo l1 x1,h2,fun α2 v2 H2 rs2 l2 x2 hv2=>?_⟩
  rw[hy] at hv2
  exact ⟨b,Bd hv2,c1,Nat.le_of_lt (FA c2),Nat.le_of_lt (FA c3),Nat.le_of_lt (FA c4),fun l hl=>q α2 l _ H2 rs2 (l2.trans l1) (x1.trans x2) hl (Jm _)⟩
end
section
variable {X:Cx} {e:Expr} {es:List Expr} {ms:MA} {p pos:Pos}
@[simp] def BQ:Gm->List SV->Option D:=fun _ xs=>match xs with
 | [.v (.int i)]=>if i.natAbs.log2<1920 then some (.str (toString i)) else none
 | _=>none
theorem Pl:CaD X BQ (fun xs H Q=>∃ i,xs=[.int i]/\i.natAbs.log2<1920/\Q (.str (toString i)) H):=by
 intro f α s σ H xs us z Q hf rs hu e q
 unfold BQ at e
 split at e
 case h_2=>cases e
 rename_i i
 split at e
 case isFalse=>cases e
 rename_i hz
 cases e
 obtain ⟨v,r,rfl,h1,h2⟩:=hu.cons_inv
 rw[h2.nil_inv,Am h1]
 exact ⟨i,rfl,hz,q _ H rs .refl (by unfold Rep;rfl)⟩
theorem Cz (T:Ev.Nm X.mg) (ha:DA X (e::es) ms) (hg:Gl X "str":=by rfl) (he:starEach (e::es) X.env=(false,eval e X.env)::starEach es X.env:=by rfl) (hpl:(backTo pos (starEach es X.env)).any (·.1)=false:=by rfl):DE X (.Call (.Name "str" p) (e::es) [] pos) (AN BQ ms):=
 Ny V6 Pl hg T.str PyProof.Rows.boot_str ha (by decide) (by decide) he hpl
@[simp] def EX:Gm->List SV->Option D:=fun _ xs=>match xs with
 | [.v (.str x)]=>if x.length<=640 then (PySem.intText? x).map .int else none
 | _=>none
def NV:List V->Hp->VK->Prop:=fun xs H Q=>∃ x n,xs=[.str x]/\x.length<=640/\PySem.intText? x=some n/\Q (.int n) H
theorem Tp:CallR X (.type "int") NV:=by
 intro pins s σ H xs us Q I r h
 obtain ⟨x,n,rfl,hl,hn,q⟩:=h
 obtain ⟨u,rfl,t,rfl⟩:=vals1 r
 exact PySem.W.KIN.call_text hn hl ⟨.int n,H,I.tok _,⟨_,rfl⟩,q⟩
theorem Q4:CaD X EX NV:=by
 intro f α s σ H xs us z Q hf rs hu e q
 unfold EX at e
 split at e
 case h_2=>cases e
 rename_i x
 split at e
 case isFalse=>cases e
 rename_i hz
 obtain ⟨n,hn,rfl⟩:=Ab e
 obtain ⟨v,r,rfl,h1,h2⟩:=hu.cons_inv
 rw[h2.nil_inv,Bd h1]
 exact ⟨x,n,rfl,hz,hn,q _ H rs .refl By⟩
theorem Tq (T:Ev.Nm X.mg) (ha:DA X (e::es) ms) (hg:Gl X "int":=by rfl) (he:starEach (e::es) X.env=(false,eval e X.env)::starEach es X.env:=by rfl) (hpl:(backTo pos (starEach es X.env)).any (·.1)=false:=by rfl):DE X (.Call (.Name "int" p) (e::es) [] pos) (AN EX ms):=
 Ny Tp Q4 hg T.int PyProof.Rows.boot_int ha (by decide) (by decide) he hpl
theorem Lo {x y:Str} (h:∃ t,X.mg x=some (.str y t)) (hg:Gl X x:=by rfl) (hd:(x == ("__debug__":Str))=false:=by decide):DE X (.Name x pos) (mC (.str y)):=by
 obtain ⟨t,h⟩:=h
 exact Eh (Ld (v:=.str y) hg h ⟨t,rfl⟩ hd) fun W=>by unfold Rep;rfl
end
end DL
namespace TXM
open PySem PySem.Builtin PySem.Builtin.Str PySem.StrLaws
abbrev cd (x:Str):List Nat:=x.cps.toList
theorem HX {x y:Str} (h:cd x=cd y):x=y:=Str.ext' (Array.toList_inj.mp h)
theorem DM (x y:Str):cd (x++y)=cd x++cd y:=by simp only[cd,Str.cps_append,Array.toList_append]
theorem A2 (x:Str):(cd x).length=x.length:=by simp[cd,Str.length]
theorem EM (y p q:Str) (r:List Str):Str.join y (p::q::r)=p++y++Str.join y (q::r):=rfl
theorem LV {x y:Str} {c:Nat} {r:List Nat} (hy:cd y=c::r) {i:Nat} (h:At x y x.length i):(cd x)[i]?=some c:=by
 have h2:=h.2
 rw[subAt_eq] at h2
 have h2:((cd x).drop i).take y.length=cd y:=eq_of_beq h2
 rw[hy] at h2
 have h3:=congrArg (fun l=>l[0]?) h2
 simp only[List.getElem?_cons_zero] at h3
 cases hl:y.length with
 | zero=>rw[hl] at h3;simp at h3
 | succ n=>
  rw[hl,List.getElem?_take_of_lt (Nat.zero_lt_succ n),List.getElem?_drop] at h3
  simpa using h3
theorem Vi {x y:Str} {i:Nat} {J:List Nat} (h:(cd x).drop i=cd y++J) (hi:i<=(cd x).length):At x y x.length i:=by
 have hl:=congrArg List.length h
 rw[List.length_drop,List.length_append,A2,A2] at hl
 rw[A2] at hi
 refine ⟨by lia,?_⟩
 rw[subAt_eq]
 show (((cd x).drop i).take y.length == cd y)=true
 rw[h,<-A2 y,List.take_left']
 ·exact beq_self_eq_true _
 ·rfl
theorem M8 {x y:Str} {c:Nat} {r:List Nat} (hy:cd y=c::r):∀ (ps:List Str) (a:Nat) (cuts:List Nat) (f:Nat),ps≠[]->(∀ p∈ps,c∉cd p)->(cd x).drop a=cd (Str.join y ps)->a<=(cd x).length->ChainG x y x.length a cuts f->(∀ k,f<=k->¬At x y x.length k)->partsFrom x y.length a cuts=ps
 | [],_,_,_,h,_,_,_,_,_=>absurd rfl h
 | [p],a,cuts,f,_,hf,hd,ha,hc,hn=>by
  have hd:(cd x).drop a=cd p:=hd
  cases cuts with
  | nil=>
   show [strSub x a x.length]=[p]
   congr 1
   refine HX ?_
   show (strSub x a x.length).cps.toList=_
   rw[strSub_toList]
   show ((cd x).drop a).take (x.length - a)=cd p
   rw[List.take_of_length_le (by rw[List.length_drop,A2];exact Nat.le_refl _)]
   exact hd
  | cons c1 cs=>
   exfalso
   have h1:=LV hy hc.2.1
   refine hf p List.mem_cons_self ?_
   rw[<-hd]
   refine List.mem_of_getElem? (i:=c1 - a) ?_
   rw[List.getElem?_drop,show a+(c1 - a)=c1 by have:=hc.1;lia]
   exact h1
 | p::q::rest,a,cuts,f,_,hf,hd,ha,hc,hn=>by
  have hd:(cd x).drop a=cd p++(cd y++cd (Str.join y (q::rest))):=by
   rw[hd,EM,DM,DM,List.append_assoc]
  have hdl:=congrArg List.length hd
  rw[List.length_drop,List.length_append,List.length_append] at hdl
  have hat:(cd x).drop (a+(cd p).length)=cd y++cd (Str.join y (q::rest)):=by
   rw[<-List.drop_drop,hd,List.drop_left']
   rfl
  have hA:=Vi hat (by lia)
  cases cuts with
  | nil=>
   have hf0:f=a:=hc
   exact absurd hA (hn _ (by lia))
  | cons c1 cs=>
   obtain ⟨hc1,hc2,hc3,hc4⟩:=hc
   have h1:=LV hy hc2
   have hle:c1<=a+(cd p).length:=by
    by_cases z:a+(cd p).length<c1
    ·exact absurd hA (hc3 _ (by lia) z)
    ·lia
   have hge:a+(cd p).length<=c1:=by
    by_cases z:c1<a+(cd p).length
    ·exfalso
     refine hf p List.mem_cons_self ?_
     refine List.mem_of_getElem? (i:=c1 - a) ?_
     have e:((cd x).drop a)[c1 - a]?=some c:=by
      rw[List.getElem?_drop,show a+(c1 - a)=c1 by lia]
      exact h1
     rw[hd,List.getElem?_append_left (by lia)] at e
     exact e
    ·lia
   have e1:c1=a+(cd p).length:=by lia
   subst e1
   show strSub x a (a+(cd p).length)::partsFrom x y.length (a+(cd p).length+y.length) cs=_
   congr 1
   ·refine HX ?_
    show (strSub x a (a+(cd p).length)).cps.toList=_
    rw[strSub_toList]
    show ((cd x).drop a).take (a+(cd p).length - a)=cd p
    rw[hd,show a+(cd p).length - a=(cd p).length by lia,List.take_left']
    rfl
   ·refine M8 hy (q::rest) _ cs f (fun z=>nomatch z) (fun p' h=>hf p' (List.mem_cons_of_mem _ h)) ?_ ?_ hc4 hn
    ·rw[<-List.drop_drop,hat,<-A2 y,List.drop_left']
     rfl
    ·rw[<-A2 y]
     lia
theorem Qu (x:Str):1<=PySem.Builtin.Str.strKind x:=by
 unfold PySem.Builtin.Str.strKind
 split
 ·decide
 ·split<;>decide
theorem Sx (y p q:Str) (r:List Str):y.length<=(Str.join y (p::q::r)).length:=by
 rw[EM,Str.length_append,Str.length_append]
 lia
theorem HK {y:Str} {c:Nat} {r:List Nat} (hy:cd y=c::r) (hk:PySem.Builtin.Str.strKind y=1) {ps:List Str} (hne:ps≠[]) (hf:∀ p∈ps,c∉cd p) :
  Txt.split (Str.join y ps) y=ps/\partsBetween (Str.join y ps) (occurrences (Str.join y ps) y 0 (Str.join y ps).length ((Str.join y ps).length+1)) y.length=ps:=by
 have hyl:1<=y.length:=by rw[<-A2,hy];simp
 obtain ⟨f,h1,h2⟩:=occ_tight (Str.join y ps) y hyl
 have key:=M8 (x:=Str.join y ps) hy ps 0 _ f hne hf rfl (Nat.zero_le _) h1 h2
 have e2:partsBetween (Str.join y ps) (occurrences (Str.join y ps) y 0 (Str.join y ps).length ((Str.join y ps).length+1)) y.length=ps:=(partsBetween_eq _ _ _).trans key
 refine ⟨?_,e2⟩
 unfold Txt.split
 split
 ·rename_i h
  match ps,hne with
  | [p],_=>rfl
  | p::q::r,_=>
   have a1:=Sx y p q r
   have a2:=Qu (Str.join y (p::q::r))
   rw[hk] at h
   simp at h
   lia
 ·split
  ·rename_i h
   rw[List.isEmpty_iff.mp h] at key
   have:[strSub (Str.join y ps) 0 (Str.join y ps).length]=ps:=key
   rw[sub_whole] at this
   exact this
  ·exact e2
end TXM
namespace DL
open PySem L2
def wQ (K:PySem.W.Frag) (H:Hp):Wd:=⟨K,fun _=>False,H⟩
def Grow (H H':Hp):Prop:=∀ b o,H b=some o->H' b=some o
theorem Grow.new {H:Hp} {a:Addr} {o:HO} (h:H a=none):Grow H (upd H a o):=fun b u e=>by rw[AH (BC e h)];exact e
theorem Grow.none {H H':Hp} {a:Addr} (g:Grow H H') (h:H' a=none):H a=none:=by
 cases e:H a with
 | none=>rfl
 | some o=>rw[g a o e] at h;cases h
theorem VF {f:Fr} {α:Nat->Addr} {Γ:Gm} {H:Hp}:Kw (wd f α Γ H) (wQ f.K H):=⟨rfl,fun a o _ e=>⟨e,fun z=>z⟩⟩
theorem QG {K:PySem.W.Frag} {α:Nat->Addr} {H H0:Hp}:Kw (wQ K H) (wd (frQ K H0) α [] H):=⟨rfl,fun a o _ e=>⟨e,fun z=>by
 rcases z with z | ⟨n,xs,z,_⟩
 ·exact z
 ·cases z⟩⟩
structure Sl (K:PySem.W.Frag) (H:Hp) (ds:List (Option D)) (σ:St):Prop where
 len:ds.length=σ.length
 slot:∀ (i:Nat) (d:D),ds[i]?=some (some d)->∃ v,σ[i]?=some (some v)/\Rep (wQ K H) d v
theorem Sl.nil {K:PySem.W.Frag} {H:Hp}:Sl K H [] []:=⟨rfl,fun i d e=>by cases e⟩
theorem Sl.cons {K:PySem.W.Frag} {H:Hp} {ds:List (Option D)} {σ:St} {d:D} {v:V} (r:Rep (wQ K H) d v) (h:Sl K H ds σ):Sl K H (some d::ds) (some v::σ):=⟨by rw[List.length_cons,List.length_cons,h.len],fun i c e=>by
 cases i with
 | zero=>cases e;exact ⟨v,rfl,r⟩
 | succ i=>exact h.slot i c e⟩
theorem Sl.skip {K:PySem.W.Frag} {H:Hp} {ds:List (Option D)} {σ:St} {v:Option V} (h:Sl K H ds σ):Sl K H (none::ds) (v::σ):=⟨by rw[List.length_cons,List.length_cons,h.len],fun i c e=>by
 cases i with
 | zero=>cases e
 | succ i=>exact h.slot i c e⟩
abbrev slD (ds:List (Option D)):DS:=⟨ds.map (Option.map .v),[],0⟩
theorem Sl.rs {K:PySem.W.Frag} {H:Hp} {ds:List (Option D)} {σ:St} (h:Sl K H ds σ):RS (frQ K H) (fun _=>0) (slD ds) σ H where
 len:=by rw[List.length_map];exact h.len
 slot:=fun i d e=>by
  rw[List.getElem?_map] at e
  cases hd:ds[i]? with
  | none=>rw[hd] at e;cases e
  | some o=>
   cases o with
   | none=>rw[hd] at e;cases e
   | some d'=>
    rw[hd] at e
    cases e
    obtain ⟨v,a,b⟩:=h.slot i d' hd
    exact ⟨v,a,b.kw QG⟩
 box:=fun n xs h=>by cases h
 own:=fun n xs h=>by cases h
 inj:=fun n m xs ys h=>by cases h
 fr:=fun b o h _=>h
 forb:=fun a h=>h.elim
theorem DT.x {X:Cx} {e:Expr} {m:MT} (h:DT X e m):PT X e (xT X.K m):=fun pins s σ H Q I ⟨f,hf,q⟩=>h f hf pins s σ H Q I q
theorem DE.xK {X:Cx} {K:PySem.W.Frag} {e:Expr} {m:ME} (hk:X.K=K) (h:DE X e m):PE X e (xD K m):=hk▸DE.x h
theorem DT.xK {X:Cx} {K:PySem.W.Frag} {e:Expr} {m:MT} (hk:X.K=K) (h:DT X e m):PT X e (xT K m):=hk▸DT.x h
theorem MQ {K:PySem.W.Frag} {m:ME} {σ:St} {H:Hp} {Q:VK} {ds:List (Option D)} {d:D} {s':DS} (hs:Sl K H ds σ) (e:m (slD ds)=some (.v d,s')) (q:∀ v H',Grow H H'->Rep (wQ K H') d v->Q v H'):xD K m σ H Q:=
 ⟨frQ K H,rfl,fun _=>0,slD ds,(.v d,s'),hs.rs,Nat.le_refl _,e,fun α' v H' rs' _ _ hv=>q v H' (fun b o z=>rs'.fr b o z fun y=>y) (Rep.kw VF (show Rep _ d v from hv))⟩
theorem DV {K:PySem.W.Frag} {m:MT} {σ:St} {H:Hp} {Q:Bool->Hp->Prop} {ds:List (Option D)} {b:Bool} {s':DS} (hs:Sl K H ds σ) (e:m (slD ds)=some (b,s')) (q:∀ H',Grow H H'->Q b H'):xT K m σ H Q:=
 ⟨frQ K H,rfl,fun _=>0,slD ds,(b,s'),hs.rs,Nat.le_refl _,e,fun α' H' rs' _ _=>q H' (fun b o z=>rs'.fr b o z fun y=>y)⟩
end DL
namespace ST
open PySem PySem.Spec PyProof.Rows
def Df (σ:List Str) (v:Str):List Str:=if v∈σ then σ else σ++[v]
def BV (val:Nat->Str) (i:Nat):List Str:=((List.range i).map val).foldl Df []
theorem Lh (val:Nat->Str) (i:Nat):BV val (i+1)=Df (BV val i) (val i):=by
 unfold BV
 rw[List.range_succ,List.map_append,List.foldl_append]
 rfl
theorem Hn (val:Nat->Str):∀ i,(BV val i).length<=i
 | 0=>Nat.le_refl _
 | i+1=>by
  have:=Hn val i
  rw[Lh]
  unfold Df
  split
  ·lia
  ·rw[List.length_append,List.length_singleton];lia
section
variable {prog:Program} {w:World} {A:Around} {E:Value->Shared->Prop} {s:Shared}
abbrev SetS (prog:Program) (w:World) (h:Heap) (a:Addr) (xs:List Str):Prop:=h.SetOf (strKind prog w) a (fun k=>decide (k∈xs)) xs.length
theorem SetS.mv {h h':Heap} {a:Addr} {xs:List Str} (x:SetS prog w h a xs) (k:∀ o,h.get? a=some o->h'.get? a=some o):SetS prog w h' a xs:=by
 obtain ⟨o,es,ep,t,ho,g⟩:=x
 exact ⟨o,es,ep,t,k o ho,g⟩
theorem Nr (x:Str) (t:Tok):(strKind prog w).is x (.str x t)=true:=by
 show Value.isStrOf x (.str x t)=true
 unfold Value.isStrOf
 simp
theorem Se {R:Result->Shared->Prop} {I:Addr} {fp wr:List Addr} {G:Array GenState->Array GenState->Prop} {n:Nat} {P:Nat->Value->Prop} {St:Nat->Shared->Prop} (W:WalksS prog w A.in1 I fp wr G n P St) (a:Addr) (ha:a∉fp) (val:Nat->Str) (hv:∀ i v,P i v->∃ t,v=.str (val i) t) (hb:n+1<scanBound) :
  ∀ (d i:Nat) (s:Shared),n - i=d->i<=n->St i s->SetS prog w s.heap a (BV val i)->(∀ s',Moved (a::wr) G s s'->SetS prog w s'.heap a (BV val n)->R (.ok (.ret .none)) s')->codeAny (model prog w) A (.builtin "set.update.loop" ⟨[.ref a,.ref I],[]⟩) R s:=by
 have haw:a∉wr:=fun z=>ha (W.sub _ z)
 have sub:∀ b∈wr,b∈a::wr:=fun b z=>List.mem_cons_of_mem _ z
 intro d
 induction d with
 | zero=>
  intro i s hd hi st hS hR
  obtain rfl:i=n:=by lia
  refine codeAny_builtin PyProof.Rows.F.entry_set_update_loop (by
   rw[Around.under_plainId PyProof.Rows.F.plain_set_update_loop _]
   show wpAny _ A.in1 (pyNext (.ref I) >>= _) _ _ s
   refine wpAny_bind (W.done s _ _ st fun s' hm=>?_)
   exact wpAny_pure (hR s' (hm.mono sub) (hS.mv fun o e=>hm.heap a o haw e)))
 | succ d ih=>
  intro i s hd hi st hS hR
  have hlt:i<n:=by lia
  refine codeAny_builtin PyProof.Rows.F.entry_set_update_loop (by
   rw[Around.under_plainId PyProof.Rows.F.plain_set_update_loop _]
   show wpAny _ A.in1 (pyNext (.ref I) >>= _) _ _ s
   refine wpAny_bind (W.item i s _ _ hlt st fun v s' hP st' hm=>?_)
   obtain ⟨t,rfl⟩:=hv i v hP
   have hS':=hS.mv fun o e=>hm.heap a o haw e
   show wpAny _ A.in1 (holding [Value.str (val i) t] (setAdd a (.str (val i) t)) >>= _) _ _ s'
   refine wpAny_bind (wpAny_holding ?_)
   unfold setAdd
   refine wpAny_holding (wpAny_bind ((strKind prog w).pyHash (k:=val i) (Nr _ _) ?_))
   have hr:=Hn val i
   refine wpAny_setAddHashed_of (knd:=strKind prog w) (s:={s' with toks:=s'.toks+1}) (Nr _ _) rfl hS' (by lia) fun h' hsb hS2=>?_
   have hS2:SetS prog w h' a (BV val (i+1)):=by
    rw[Lh]
    unfold Df
    by_cases c:val i∈BV val i
    ·rw[if_pos (decide_eq_true c)] at hS2
     rw[if_pos c]
     rw[show (fun k'=>decide (k'∈BV val i) || decide (k'=val i))=fun k'=>decide (k'∈BV val i) from funext fun k'=>by
      by_cases z:k'=val i
      ·rw[z,decide_eq_true c];rfl
      ·rw[decide_eq_false z,Bool.or_false]] at hS2
     exact hS2
    ·rw[if_neg (fun z=>c (of_decide_eq_true z))] at hS2
     rw[if_neg c]
     show h'.SetOf _ a (fun k'=>decide (k'∈BV val i++[val i])) (BV val i++[val i]).length
     rw[List.length_append,List.length_singleton,show (fun k'=>decide (k'∈BV val i++[val i]))=fun k'=>decide (k'∈BV val i) || decide (k'=val i) from funext fun k'=>by
      rw[<-Bool.decide_or]
      exact decide_eq_decide.mpr (by rw[List.mem_append,List.mem_singleton])]
     exact hS2
   refine wpAny_pure ⟨plainId_quiet PyProof.Rows.F.plain_set_update_loop _,ih (i+1) _ (by lia) hlt (W.frame _ s' _ _ st' (Nat.le_succ _) fun c hc o e=>?_) hS2 fun s2 hm2 hS3=>?_⟩
   ·rw[hsb.2 c (fun z:c=a=>ha (by rw[<-z];exact hc))];exact e
   ·refine hR s2 (Moved.trans W.gtrans ((hm.mono sub).then_heap (Nat.le_succ _) fun c o hc e=>?_) hm2) hS3
    rw[hsb.2 c (fun z:c=a=>hc (by rw[z];exact List.mem_cons_self))];exact e)
theorem Vx {l:Addr} {items:Array Value} {xs:List Str} {Q:Value->Shared->Prop} (hh:A.handled=none) (hl:s.heap.IsList l items) (hi:∀ (i:Nat) (v:Value),items[i]?=some v->∃ t,v=.str (xs.getD i "") t) (hb:items.size+1<scanBound)
  (h:∀ (h':Heap) (tk:Nat),SetS prog w h' s.heap.objs.size (BV (fun i=>xs.getD i "") items.size)->(∀ b o,s.heap.get? b=some o->h'.get? b=some o)->Q (.ref s.heap.objs.size) {s with heap:=h',toks:=tk}) :
  wpAny (model prog w) A (call (.type "set") [.ref l]) Q E s:=by
 obtain ⟨c,tl,hmro⟩:=PySem.F.called_set.mro
 have u1:=PySem.F.called_set.made
 have u2:=PySem.F.called_set.sub
 refine wpAny_call (codeAny_of_tree ?_)
 show wpAny _ _ (callAny (.type "set") _) _ _ _
 refine wpAny_pure ⟨Code.quiet_builtin _ (by decide +kernel),codeAny_builtin PySem.F.entry_type_call ?_⟩
 rw[Around.under_plain (weight_type_call_type "set" [.ref l] []) rfl]
 have u3:=PySem.F.called_set.notType
 have u4:=PySem.F.called_set.canCreate
 have u5:=PySem.F.typeCall_set_1 (.ref l)
 repeat (any_goals (first | assumption | wp_step))
 refine codeAny_mono (code_set_new_1 (.ref l) (E:=E) (Q₁:=fun v s₁=>∃ led:Bool,v=.ref s.heap.objs.size/\s₁={s with heap:=s.heap.push {cls:=.type "set",dict:=none,data:=.set #[] 0 (.fresh 0 0 led)}}) fun led=>⟨led,rfl,rfl⟩) fun r s₁ hr=>?_
 cases r with
 | error e=>exact hr
 | ok fl=>
  cases fl with
  | ret obj=>
   obtain ⟨led,rfl,rfl⟩:=hr
   let o0:Obj:={cls:=.type "set",dict:=none,data:=.set #[] 0 (.fresh 0 0 led)}
   have hS:(s.heap.push o0).get? s.heap.objs.size=some o0:=Heap.get?_push_size _ rfl
   have hT:Shared.TypeIs {s with heap:=s.heap.push o0} (.ref s.heap.objs.size) "set":=⟨_,hS,rfl⟩
   have v1:=PySem.F.called_set.init.lookup
   have v2:=PySem.F.called_set.init.bind (.ref s.heap.objs.size)
   repeat (any_goals (first | assumption | wp_step))
   refine codeAny_mono (codeAny_call_builtin (R:=wants (fun r s₂=>r=.none/\∃ h' tk,s₂={s with heap:=h',toks:=tk}/\SetS prog w h' s.heap.objs.size (BV (fun i=>xs.getD i "") items.size)/\(∀ b o,s.heap.get? b=some o->h'.get? b=some o)) E) PySem.F.called_set.init.plain PySem.F.entry_set_init (check_set_init_1 hT ?_)) fun r₂ s₂ hr₂=>?_
   ·obtain ⟨ol,hol,hcl,nl,hdl⟩:=hl
    obtain ⟨ocls,odict,odata,oslots⟩:=ol
    simp only at hcl hdl
    subst hcl;subst hdl
    have hol':=Heap.get?_push_of_some o0 hol
    have x1:=PySem.F.sub_list_set
    have x2:=PySem.F.sub_list_frozenset
    have x3:(Value.type "list" == Value.type "dict")=false:=by decide
    have hl1:(s.heap.push o0).IsList l items:=⟨_,hol',rfl,nl,rfl⟩
    unfold Builtin.«set.__init__» noKeywords Builtin.Frozenset.updateFrom
    generalize hPI:pyIter=PI
    wp_walk
    subst hPI
    refine wpAny_pyIter_list hl1 (wpAny_bind (wpAny_runValue ?_))
    have hlS:l<s.heap.objs.size:=Heap.lt_size hol
    have hh3:A.in1.in1.in1.handled=none:=by simp[hh]
    have hsz:(s.heap.push o0).objs.size=s.heap.objs.size+1:=by rw[Heap.size_push]
    have hneI:l≠(s.heap.push o0).objs.size:=by rw[hsz];exact Nat.ne_of_lt (Nat.lt_succ_of_lt hlS)
    have hSf:s.heap.objs.size∉[(s.heap.push o0).objs.size,l]:=by
     rw[hsz]
     simp only[List.mem_cons,List.not_mem_nil,or_false,not_or]
     exact ⟨Nat.ne_of_lt (Nat.lt_succ_self _),Nat.ne_of_gt hlS⟩
    refine Se ((Walks.list hh3 _ l hneI items).toS) s.heap.objs.size hSf (fun i=>xs.getD i "") hi hb (items.size - 0) 0 _ (by lia) (Nat.zero_le _) ⟨⟨_,Heap.get?_push_size _ rfl,rfl,rfl⟩,hl1.push _⟩ ?S0 ?R0
    case S0=>
     have hg:=(setObjOf_fresh (knd:=strKind prog w) led).setOf (Heap.get?_push_of_some {cls:=.type "list_iterator",data:=.fields #[.ref l,.int 0 0]} hS) (by unfold scanBound;lia)
     rw[show (fun _:Str=>false)=fun k=>decide (k∈([]:List Str)) from funext fun k=>by simp] at hg
     exact hg
    case R0=>
     intro s' hm hS'
     obtain ⟨h',g',d',tk',os'⟩:=s'
     obtain rfl:g'=s.gens:=hm.gens
     obtain rfl:d'=s.drawn:=hm.drawn
     obtain rfl:os'=s.os:=hm.os
     show wpAny _ _ _ _ _ _
     refine wpAny_pure ?_
     show wpAny _ _ (ret Value.none) _ _ _
     refine wpAny_pure ⟨rfl,h',tk',rfl,hS',fun b o e=>?_⟩
     have hb1:b<s.heap.objs.size:=Heap.lt_size e
     refine hm.heap b o ?_ (Heap.get?_push_of_some _ (Heap.get?_push_of_some _ e))
     rw[hsz]
     simp only[List.mem_cons,List.not_mem_nil,or_false,not_or]
     exact ⟨Nat.ne_of_lt hb1,Nat.ne_of_lt (Nat.lt_succ_of_lt hb1)⟩
   ·cases r₂ with
    | error e=>exact hr₂
    | ok fl₂=>
     cases fl₂ with
     | ret r=>
      obtain ⟨rfl,h',tk,rfl,hS',hk'⟩:=hr₂
      repeat (any_goals (first | assumption | wp_step))
      exact h _ _ hS' hk'
     | next=>exact False.elim hr₂
     | brk=>exact False.elim hr₂
     | cont=>exact False.elim hr₂
  | next=>exact False.elim hr
  | brk=>exact False.elim hr
  | cont=>exact False.elim hr
end
end ST
namespace ST
open PySem PySem.Spec PyProof.Rows L2 Ev DL
def Eg (P:Program) (w:World) (a:Addr) (xs:List Str):HO:=.ext fun h=>SetS P w h a xs
def dds (xs:List Str):List Str:=xs.foldl Df []
theorem M0 (xs:List Str):BV (fun i=>xs.getD i "") xs.length=dds xs:=by
 unfold BV dds
 rw[show (List.range xs.length).map (fun i=>xs.getD i "")=xs from List.ext_getElem (by simp) fun i h1 h2=>by simp[List.getD_eq_getElem?_getD,h2]]
theorem V0 (xs:List Str):(dds xs).length<=xs.length:=by
 rw[<-M0]
 exact Hn _ _
theorem Kn:∀ (xs acc:List Str),xs.Nodup->(∀ x∈xs,x∉acc)->xs.foldl Df acc=acc++xs
 | [],acc,_,_=>by simp
 | x::xs,acc,h,ha=>by
  rw[List.nodup_cons] at h
  rw[List.foldl_cons,show Df acc x=acc++[x] from if_neg (ha x List.mem_cons_self),Kn xs (acc++[x]) h.2 fun y hy z=>?_,List.append_assoc]
  ·rfl
  ·rcases List.mem_append.mp z with z | z
   ·exact ha y (List.mem_cons_of_mem _ hy) z
   ·rw[List.mem_singleton] at z
    rw[z] at hy
    exact h.1 hy
theorem P8 {xs:List Str} (h:xs.Nodup):dds xs=xs:=by
 unfold dds
 rw[Kn xs [] h fun _ _ z=>(nomatch z)]
 rfl
section
variable {X:Cx}
abbrev RM (X:Cx):List V->Hp->VK->Prop:=fun xs H Q=>∃ p zs,xs=[.ref p]/\SqL X.K H p (zs.map V.str)/\zs.length<=1000/\∀ a,H a=none->Q (.ref a) (upd H a (Eg X.prog X.w a (dds zs)))
abbrev U7 (X:Cx):List V->Hp->VK->Prop:=fun xs H Q=>∃ p zs,xs=[.ref p]/\H p=some (Eg X.prog X.w p zs)/\zs.length<=1000/\Q (.int (zs.length:Nat)) H
theorem N6 (hc:X.calm=true):CallR X (.type "set") (RM X):=by
 intro pins s σ H xs us Q I r h
 obtain ⟨p,zs,rfl,hq,hn,q⟩:=h
 obtain ⟨u,rfl,ru⟩:=vals1 r
 cases ru
 obtain ⟨its,rv,pl,hz⟩:=I.list hq
 have hl:=rv.length
 rw[List.length_map] at hl
 refine Vx (xs:=zs) (I.ok.hd hc) pl.isList (fun i v hv=>?_) (by show its.toArray.size+1<4096;simp;lia) fun h' tk g k=>?_
 ·have hv:its[i]?=some v:=by rw[List.getElem?_toArray] at hv;exact hv
  have hi:i<zs.length:=by
   have:=(List.getElem?_eq_some_iff.mp hv).1
   lia
  obtain ⟨u,h1,t,h2⟩:=rv.get (i:=i) (x:=.str zs[i]) (by rw[List.getElem?_map,List.getElem?_eq_getElem hi];rfl)
  rw[hv] at h1
  cases h1
  exact ⟨t,by rw[h2,List.getD_eq_getElem?_getD,List.getElem?_eq_getElem hi];rfl⟩
 ·have e:BV (fun i=>zs.getD i "") its.toArray.size=dds zs:=by rw[List.size_toArray,<-hl,M0]
  rw[e] at g
  obtain ⟨o,es,ep,t,ho,gg⟩:=id g
  exact ⟨.ref s.heap.objs.size,_,I.laid (t':=tk) (o:=Eg X.prog X.w s.heap.objs.size (dds zs)) k (Nat.le_refl _) ⟨g,⟨o,ho⟩,fun h1 h2 x kk=>SetS.mv x kk⟩,rfl,q _ (I.hok.fresh (Nat.le_refl _))⟩
theorem Uh:CallR X (.builtin "len") (U7 X):=by
 intro pins s σ H xs us Q I r h
 obtain ⟨p,zs,rfl,hp,hn,q⟩:=h
 obtain ⟨u,rfl,ru⟩:=vals1 r
 cases ru
 have hS:SetS X.prog X.w s.heap p zs:=(I.hok p _ hp).1
 obtain ⟨o,es,ep,t,ho,hex,hd,_,_,_,hf,hsz⟩:=hS
 exact call_len_set ho hex hd hf (by lia) ⟨.int (zs.length:Nat),H,(I.tok _).tok _,⟨s.toks+1,by rw[hsz]⟩,q⟩
end
def Ep:Gm->List SV->Option D:=fun Γ xs=>match xs with
 | [x]=>(elems Γ x).bind fun ds=>(strsOf ds).bind fun zs=>if zs.length<=1000 then some (.int ((dds zs).length:Nat)) else none
 | _=>none
section
variable {X:Cx} {e:Expr} {es:List Expr} {ms:MA} {p p2 pos pos2:Pos}
theorem QX (T:Nm X.mg) (ha:DA X (e::es) ms) (hc:X.calm=true:=by rfl) (hg:Gl X "len":=by rfl) (hg2:Gl X "set":=by rfl) (he:starEach (e::es) X.env=(false,eval e X.env)::starEach es X.env:=by rfl) (hpl:(backTo pos2 (starEach es X.env)).any (·.1)=false:=by rfl)
  (he2:starEach [.Call (.Name "set" p2) (e::es) [] pos2] X.env=(false,eval (.Call (.Name "set" p2) (e::es) [] pos2) X.env)::starEach [] X.env:=by rfl) :
  DE X (.Call (.Name "len" p) [.Call (.Name "set" p2) (e::es) [] pos2] [] pos) (AN Ep ms):=fun f hf=>
 PE.imp (DX Uh hg T.len PySem.boot_len (Az (JW (N6 hc) hg2 T.set PyProof.Rows.boot_set (ha f hf) (by decide) (by decide) he hpl) BS) (by decide) (by decide) he2 rfl) fun σ H Q hh_=>by
  obtain ⟨α,s,r,rs,lo,e0,q⟩:=hh_
  obtain ⟨y,h1,e0⟩:=bind_some e0
  obtain ⟨z,h2,rfl⟩:=Ab e0
  refine ⟨α,s,y,rs,lo,h1,fun α1 vs H1 rs1 l1 x1 hv=>?_⟩
  unfold Ep at h2
  split at h2
  case h_2=>cases h2
  rename_i x hx
  obtain ⟨ds,h3,h2⟩:=bind_some h2
  obtain ⟨zs,h4,h2⟩:=bind_some h2
  split at h2
  case isFalse=>cases h2
  rename_i hn
  cases h2
  rw[hx] at hv
  obtain ⟨v,r2,rfl,g1,g2⟩:=hv.cons_inv
  rw[g2.nil_inv]
  obtain ⟨a,us,rfl,g3,g4⟩:=BW rs1 h3 g1
  have e1:=Ho h4
  subst e1
  have e2:=HU g4
  subst e2
  refine ⟨a,zs,rfl,SqL.of g3,hn,fun b hb=>⟨b,dds zs,rfl,Ak,Nat.le_trans (V0 zs) hn,?_⟩⟩
  have rs2:=rs1.new (o:=Eg X.prog X.w b (dds zs)) hb
  have x2:=Ext.new (o:=Eg X.prog X.w b (dds zs)) rs1 hb
  exact q α1 _ _ rs2 l1 (x1.trans x2) (by unfold RepV Rep;rfl)
end
end ST
namespace L2
open PySem PySem.Spec PyProof.Rows
section
variable {X:Cx} {pos:Pos}
def Qf (i j k:Nat) (ta:TA):TS:=fun D σ H=>ta σ H fun vs H1=>∃ u v w,vs=[u,v,w]/\D.nx (((σ.set i (some u)).set j (some v)).set k (some w)) H1
theorem Os {i j k:Nat} {x y z:Str} {a b c:Expr} {ta:TA} {px py pz pt:Pos} {kt k2 pt2} (hc:X.calm=true) (hN:X.N.Nodup) (hi:X.N[i]?=some x) (hj:X.N[j]?=some y) (hk:X.N[k]?=some z) (hij:i≠j) (hik:i≠k) (hjk:j≠k)
  (hx:X.env.scope.names.lookup x=some .local) (hy:X.env.scope.names.lookup y=some .local) (hz:X.env.scope.names.lookup z=some .local) (ha:PA X [a,b,c] ta)
  (hw:swappedStores [.Tuple [.Name x px,.Name y py,.Name z pz] kt pt] (.Tuple [a,b,c] k2 pt2) X.env=pure (some [x,y,z]))
  (hs:swapsWithSole [.Tuple [.Name x px,.Name y py,.Name z pz] kt pt] (.Tuple [a,b,c] k2 pt2) pos.line X.env=pure false:=by rfl) :
  PS X (.Assign [.Tuple [.Name x px,.Name y py,.Name z pz] kt pt] (.Tuple [a,b,c] k2 pt2) pos) (Qf i j k ta):=by
 intro pins s σ H D I h
 rw[exec_Assign_arm]
 refine wpAny_bind (wpAny_standAt ?_)
 rw[hs]
 refine wpAny_bind (wpAny_pure ?_)
 rw[if_neg (by decide)]
 refine wpAny_bind (Tuple_ (thn (ha _ pins s σ H _ I h) fun us s1 hh_=>?_))
 obtain ⟨vs,H1,I1,r1,q1⟩:=hh_
 obtain ⟨u,v,w,e1,q1⟩:=q1
 subst e1
 obtain ⟨u1,u2,u3,rfl,ru,rv,rw'⟩:∃ u1 u2 u3,us=[u1,u2,u3]/\RelV u u1/\RelV v u2/\RelV w u3:=by
  cases r1 with
  | cons p q=>
   cases q with
   | cons p' q'=>
    cases q' with
    | cons p2 q2=>
     cases q2
     exact ⟨_,_,_,rfl,p,p',p2⟩
 refine wpAny_newObj_type ?_ (by show 3<=sizeLine;decide)
 have I2:Inv X pins σ H1 {s1 with heap:=s1.heap.push {cls:=.type "tuple",data:=.seq [u1,u2,u3].toArray}}:=I1.kept (t':=s1.toks) fun b o e=>Heap.get?_push_of_some _ e
 rw[hw]
 refine wpAny_bind (wpAny_pure ?_)
 show wpAny (model X.prog X.w) X.A (do rule "assign.swapped-stores";let items <-unpackItems (.ref s1.heap.objs.size) 3 none;assignInOrder [fun v=>bindName X.env z v,fun v=>bindName X.env y v,fun v=>bindName X.env x v] items.reverse;pure Flow.next) _ _ _
 refine wpAny_bind (wpAny_rule (wpAny_bind (unpackItems_tuple (items:=#[u1,u2,u3]) (I.ok.hd hc) (IsTup.new s1.heap _) fun h' hx'=>?_)))
 have I3:=I2.kept (h':=h') (t':=s1.toks) fun b o e=>hx' b o (Nat.ne_of_lt (Heap.lt_size e)) e
 show wpAny _ _ (assignInOrder [fun v=>bindName X.env z v,fun v=>bindName X.env y v,fun v=>bindName X.env x v] [u3,u2,u1] >>= fun _=>pure Flow.next) _ _ _
 refine wpAny_bind (assignInOrder_cons (wpAny_bindName (E2 I3 hN hk (.inl hz) rw' (fun s2 I4=>?_) (.inr hz))))
 refine assignInOrder_cons (wpAny_bindName (E2 I4 hN hj (.inl hy) rv (fun s3 I5=>?_) (.inr hy)))
 refine assignInOrder_cons (wpAny_bindName (E2 I5 hN hi (.inl hx) ru (fun s4 I6=>assignInOrder_nil (wpAny_pure ?_)) (.inr hx)))
 rw[List.set_comm _ _ (Ne.symm hij),List.set_comm _ _ (Ne.symm hik),List.set_comm _ _ (Ne.symm hjk)] at I6
 exact ⟨_,H1,I6,q1⟩
end
end L2
namespace DL
open PySem L2
def GO (i j k:Nat) (ms:MA):MS:=fun s=>(ms s).bind fun r=>match r.1 with
 | [x,y,z]=>some (.nx {r.2 with σ:=((r.2.σ.set i (some x)).set j (some y)).set k (some z)})
 | _=>none
theorem Ta {X:Cx} {pos:Pos} {i j k:Nat} {x y z:Str} {a b c:Expr} {ms:MA} {px py pz pt:Pos} {kt k2 pt2} (hc:X.calm=true) (hN:X.N.Nodup) (hi:X.N[i]?=some x) (hj:X.N[j]?=some y) (hk:X.N[k]?=some z) (hij:i≠j) (hik:i≠k) (hjk:j≠k)
  (hx:X.env.scope.names.lookup x=some .local) (hy:X.env.scope.names.lookup y=some .local) (hz:X.env.scope.names.lookup z=some .local) (ha:DA X [a,b,c] ms)
  (hw:swappedStores [.Tuple [.Name x px,.Name y py,.Name z pz] kt pt] (.Tuple [a,b,c] k2 pt2) X.env=pure (some [x,y,z]))
  (hs:swapsWithSole [.Tuple [.Name x px,.Name y py,.Name z pz] kt pt] (.Tuple [a,b,c] k2 pt2) pos.line X.env=pure false:=by rfl) :
  DSt X (.Assign [.Tuple [.Name x px,.Name y py,.Name z pz] kt pt] (.Tuple [a,b,c] k2 pt2) pos) (GO i j k ms):=fun f hf=>
 PS.imp (Os hc hN hi hj hk hij hik hjk hx hy hz (ha f hf) hw hs) fun E σ H hh_=>by
  obtain ⟨α,s,o,rs,lo,e,q⟩:=hh_
  obtain ⟨r,h1,e⟩:=bind_some e
  refine ⟨α,s,r,rs,lo,h1,fun α' vs H' rs' l' x' hv=>?_⟩
  split at e
  case h_2=>cases e
  rename_i x1 x2 x3 hr
  cases e
  rw[hr] at hv
  obtain ⟨v1,t1,rfl,g1,hv⟩:=hv.cons_inv
  obtain ⟨v2,t2,rfl,g2,hv⟩:=hv.cons_inv
  obtain ⟨v3,t3,rfl,g3,hv⟩:=hv.cons_inv
  have:=hv.nil_inv
  subst this
  exact ⟨v1,v2,v3,rfl,q α' _ H' (((rs'.set g1).set g2).set g3) l' x'⟩
end DL
namespace Ev
open PySem
def top (i:Nat):Stmt:=PySem.Challenge.pw_evenlots_k46_whole_one_writing_each.main.body.getD i (.Pass ⟨0,0,0,0⟩)
structure Cal (P:Program) (w:World) (K:PySem.W.Frag) (mg:Str->Option Value) (base:Heap) (x:Str) (lv:Nat) (f:Addr) (fd:FuncData) (ps:List Str) (sp:L2.Sp):Prop where
 G:L2.FnOk P w K mg base L2.CX0 lv f fd ps sp
 b:L2.Binds K fd ps []
 k:PySem.W.keepIn K (.ref f)=true
 m:mg x=some (.ref f)
end Ev
namespace DL
open PySem L2 Ev
abbrev HL:Stmt:=top 12
abbrev Rc:List Str:=["thing"]
def HP:MS:=(Ac (mOp AS (mOp AS (AN BQ (AB (mOp gIx (AA 0) (mC (.int 0))) AC)) (mC (.str ":"))) (mOp gIx (AA 0) (mC (.int 1)))))
theorem Tu:FnScope Rc ["thing"] (AW HL):=⟨rfl,rfl,rfl,by decide +kernel,rfl,by decide +kernel,by decide +kernel⟩
theorem QE {P:Program} {w:World} {K:PySem.W.Frag} {mg:Str->Option Value} {base:Heap} {fa:Addr} {fd:FuncData} (F:Fun K "show_thing" "show_thing" HL fa fd) (T:Nm mg):FnOk P w K mg base CX0 1 fa fd ["thing"] (spD K 1 (mFn 1 (HP))):=
 Bq F Tu fun cdv A outer s H E hr=>(AV (Aq (BF (BF (Cz T (AE (A7 (AD (pv 0)) AF) AG)) As) (A7 (AD (pv 0)) AF))))
abbrev GS:Stmt:=top 7
abbrev L3:List Str:=["row","hand"]
def Hf:MS:=(BZ (Bw CU (AB (AK (Av (Ej (AB (AA 0) AC)) 2 [1] (CD [0,1]) mTT (CJ (AB (mOp gIx (AA 1) (mC (.int 0))) (AB (AA 2) (AB (AA 0) AC)))))) AC)))
theorem RE:FnScope L3 ["row","hand"] (AW GS):=⟨rfl,rfl,rfl,by decide +kernel,rfl,by decide +kernel,by decide +kernel⟩
theorem PM {P:Program} {w:World} {K:PySem.W.Frag} {mg:Str->Option Value} {base:Heap} {fa:Addr} {fd:FuncData} (F:Fun K "names_of_hand" "names_of_hand" GS fa fd) (T:Nm mg):FnOk P w K mg base CX0 1 fa fd ["row","hand"] (spF K 2 (Ap 2 (Hf))):=
 DH F RE fun cdv A outer s H E hr=>(AV (C5 (UO T (AE (An (CF (esc:=(AW GS)) (N:=L3) (tn:=["place","thing"]) (fn:=["hand"]) (ix:=[1]) rfl rfl rfl ⟨rfl,by decide +kernel,by decide +kernel,by decide +kernel,rfl,by decide +kernel⟩ (Jo rfl T.enum (AE (AD (pv 0)) AG)) (fun _ _ _ _ _=>(FS (is:=[0,1]) (n:=2) rfl (E1 rfl rfl (B8 (Ay (i:=0) (show (["place","thing","hand"]:List Str).Nodup by decide +kernel) rfl (Or.inl rfl)) (B8 (Ay (i:=1) (show (["place","thing","hand"]:List Str).Nodup by decide +kernel) rfl (Or.inl rfl)) Ez))))) (fun _ _ _ _ _=>Bk) (fun _ _ _ _ _=>(FC (AE (A7 (AD (pv 1)) AF) (AE (AD (pv 2)) (AE (AD (pv 0)) AG))))))) AG))))
abbrev Fx:Stmt:=top 6
abbrev MJ:List Str:=["thing"]
def Iq:MS:=(AI (mIf (mOr (BO (BP (C7 "str" (AA 0)))) (BO (AO (BE Af Af (mC (.int 1)) (AN A9 (AB (AA 0) AC)) (mC (.int 8)))))) (Ac (mC (.bl false))) Ae)
 (Ac (AN Cu (AB (AK (Av (Cw (AA 0)) 1 [] (AQ 0) mTT (BE Af Af (mC (.str "a")) (AA 0) (mC (.str "z"))))) AC))))
theorem Oq:FnScope MJ ["thing"] (AW Fx):=⟨rfl,rfl,rfl,by decide +kernel,rfl,by decide +kernel,by decide +kernel⟩
theorem U5 {P:Program} {w:World} {K:PySem.W.Frag} {mg:Str->Option Value} {base:Heap} {fa:Addr} {fd:FuncData} (F:Fun K "is_tag" "is_tag" Fx fa fd) (T:Nm mg) (g_MOST_LETTERS:∃ t,mg "MOST_LETTERS"=some (.int 8 t)):FnOk P w K mg base CX0 1 fa fd ["thing"] (spD K 1 (mFn 1 (Iq))):=
 Bq F Oq fun cdv A outer s H E hr=>(AR (A8 (Dj (Ea (DN (Dc (Li T (AD (pv 0))))) (GR (DN (Jt AF (Cp T (AE (AD (pv 0)) AG)) (Gz g_MOST_LETTERS)))))) (AV (Aq CQ)) BD)
 (AV (Aq (LO T.all (AE (An (CF (esc:=(AW Fx)) (N:=MJ) (tn:=["sign"]) (fn:=[]) (ix:=[]) rfl rfl rfl ⟨rfl,by decide +kernel,by decide +kernel,by decide +kernel,rfl,by decide +kernel⟩ (Le (AD (pv 0))) (fun _ _ _ _ _=>(Bg (Ay (i:=0) (show (["sign"]:List Str).Nodup by decide +kernel) rfl (Or.inl rfl)))) (fun _ _ _ _ _=>Bk) (fun _ _ _ _ _=>(Kb As (AD (pv 0)) As)))) AG)))))
abbrev IE:Stmt:=top 8
abbrev VY:List Str:=["rows","names","hand","row"]
def M7 (zS:MDF):MS:=(Cb (Gn (AA 1) (AK (A0 zS (AB (AA 3) (AB (AA 2) AC))))))
def GQ (zS:MDF):MS:=(AI (CV 1 (A3 AC))
 (AI (CN (Ej (AB (AA 0) AC)) (CD [2,3]) (M7 zS))
 (BZ (Bw Bn (AB (AA 1) AC)))))
theorem sc_names_plainly:FnScope VY ["rows"] (AW IE):=⟨rfl,rfl,rfl,by decide +kernel,rfl,by decide +kernel,by decide +kernel⟩
theorem Qy {P:Program} {w:World} {K:PySem.W.Frag} {mg:Str->Option Value} {base:Heap} {fa:Addr} {fd:FuncData} (F:Fun K "names_plainly" "names_plainly" IE fa fd) (T:Nm mg) {yR:Addr} {yS:FuncData} {zS:MDF} (zV:Cal P w K mg base "names_of_hand" 1 yR yS ["row","hand"] (spF K 2 zS)):FnOk P w K mg base CX0 2 fa fd ["rows"] (spF K 1 (Ap 4 (GQ zS))):=
 DH F sc_names_plainly fun cdv A outer s H E hr=>(AR (Fe (fun te h=>Aw (i:=1) sc_names_plainly.nd rfl (Or.inl rfl) h) (B7 AG))
 (AR (ER PassesOwn.never rfl (Jo rfl T.enum (AE (AD (pv 0)) AG)) (FS (is:=[2,3]) (n:=2) rfl (E1 rfl rfl (B8 (Ay (i:=2) sc_names_plainly.nd rfl (Or.inl rfl)) (B8 (Ay (i:=3) sc_names_plainly.nd rfl (Or.inl rfl)) Ez)))) (AV (Fj (QU (AD (pv 1)) (An (CO zV.G hr rfl zV.m zV.k zV.b (AE (AD (pv 3)) (AE (AD (pv 2)) AG)) (AU (AU Ai))))))))
 (AV (C5 (L5 T (AE (AD (pv 1)) AG))))))
abbrev GJ:Stmt:=top 13
abbrev MP:List Str:=["row"]
def HF (zW:MD):MS:=(AI (mIf (BO (BP (AA 0))) (Ac (mC (.str "-"))) Ae)
 (Ac (DK (mC (.str ", ")) (AK (Av (BH (AA 0)) 1 [] (AQ 0) mTT (AJ zW (AB (AA 0) AC)))))))
theorem O5:FnScope MP ["row"] (AW GJ):=⟨rfl,rfl,rfl,by decide +kernel,rfl,by decide +kernel,by decide +kernel⟩
theorem RK {P:Program} {w:World} {K:PySem.W.Frag} {mg:Str->Option Value} {base:Heap} {fa:Addr} {fd:FuncData} (F:Fun K "show_row" "show_row" GJ fa fd) (T:Nm mg) {yT:Addr} {yU:FuncData} {zW:MD} (zX:Cal P w K mg base "show_thing" 1 yT yU ["thing"] (spD K 1 zW)) (gs_NO_THINGS:∃ t,mg "NO_THINGS"=some (.str "-" t)):FnOk P w K mg base CX0 2 fa fd ["row"] (spD K 1 (mFn 1 (HF zW))):=
 Bq F O5 fun cdv A outer s H E hr=>(AR (A8 (DN (Dc (AD (pv 0)))) (AV (Aq (Lo gs_NO_THINGS))) BD)
 (AV (Aq (Fc As (An (CF (esc:=(AW GJ)) (N:=MP) (tn:=["thing"]) (fn:=[]) (ix:=[]) rfl rfl rfl ⟨rfl,by decide +kernel,by decide +kernel,by decide +kernel,rfl,by decide +kernel⟩ (Ck (AD (pv 0))) (fun _ _ _ _ _=>(Bg (Ay (i:=0) (show (["thing"]:List Str).Nodup by decide +kernel) rfl (Or.inl rfl)))) (fun _ _ _ _ _=>Bk) (fun _ _ _ _ _=>(A5 zX.G hr rfl zX.m zX.k zX.b (AE (AD (pv 0)) AG) (AU Ai))))) ⟨rfl,rfl,rfl,rfl⟩))))
abbrev FO:Stmt:=top 14
abbrev J6:List Str:=["rows"]
def MR (zY:MD):MS:=(Ac (DK (mC (.str "; ")) (AK (Av (BH (AA 0)) 1 [] (AQ 0) mTT (AJ zY (AB (AA 0) AC))))))
theorem Uu:FnScope J6 ["rows"] (AW FO):=⟨rfl,rfl,rfl,by decide +kernel,rfl,by decide +kernel,by decide +kernel⟩
theorem OW {P:Program} {w:World} {K:PySem.W.Frag} {mg:Str->Option Value} {base:Heap} {fa:Addr} {fd:FuncData} (F:Fun K "show_rows" "show_rows" FO fa fd) (T:Nm mg) {yV:Addr} {yW:FuncData} {zY:MD} (zZ:Cal P w K mg base "show_row" 2 yV yW ["row"] (spD K 1 zY)):FnOk P w K mg base CX0 3 fa fd ["rows"] (spD K 1 (mFn 1 (MR zY))):=
 Bq F Uu fun cdv A outer s H E hr=>(AV (Aq (Fc As (An (CF (esc:=(AW FO)) (N:=J6) (tn:=["row"]) (fn:=[]) (ix:=[]) rfl rfl rfl ⟨rfl,by decide +kernel,by decide +kernel,by decide +kernel,rfl,by decide +kernel⟩ (Ck (AD (pv 0))) (fun _ _ _ _ _=>(Bg (Ay (i:=0) (show (["row"]:List Str).Nodup by decide +kernel) rfl (Or.inl rfl)))) (fun _ _ _ _ _=>Bk) (fun _ _ _ _ _=>(A5 zZ.G hr rfl zZ.m zZ.k zZ.b (AE (AD (pv 0)) AG) (AU Ai))))) ⟨rfl,rfl,rfl,rfl⟩)))
abbrev Fw:Stmt:=top 15
abbrev J0:List Str:=["name"]
def JY:MS:=(Ac (DK (mC (.str ".")) (AK (Av (BH (AA 0)) 1 [] (AQ 0) mTT (AN BQ (AB (AA 0) AC))))))
theorem VS:FnScope J0 ["name"] (AW Fw):=⟨rfl,rfl,rfl,by decide +kernel,rfl,by decide +kernel,by decide +kernel⟩
theorem TB {P:Program} {w:World} {K:PySem.W.Frag} {mg:Str->Option Value} {base:Heap} {fa:Addr} {fd:FuncData} (F:Fun K "show_name" "show_name" Fw fa fd) (T:Nm mg):FnOk P w K mg base CX0 1 fa fd ["name"] (spD K 1 (mFn 1 (JY))):=
 Bq F VS fun cdv A outer s H E hr=>(AV (Aq (Fc As (An (CF (esc:=(AW Fw)) (N:=J0) (tn:=["part"]) (fn:=[]) (ix:=[]) rfl rfl rfl ⟨rfl,by decide +kernel,by decide +kernel,by decide +kernel,rfl,by decide +kernel⟩ (Ck (AD (pv 0))) (fun _ _ _ _ _=>(Bg (Ay (i:=0) (show (["part"]:List Str).Nodup by decide +kernel) rfl (Or.inl rfl)))) (fun _ _ _ _ _=>Bk) (fun _ _ _ _ _=>(Cz T (AE (AD (pv 0)) AG))))) ⟨rfl,rfl,rfl,rfl⟩)))
abbrev Fz:Stmt:=top 16
abbrev Ks:List Str:=["text","most"]
def Hr:MS:=(AI (mIf (BO (AO (BE Af Af (mC (.int 1)) (AN A9 (AB (AA 0) AC)) (AA 1)))) (Ac (mC (.bl false))) Ae)
 (AI (mIf (BO (BP (AN Cu (AB (AK (Av (Cw (AA 0)) 1 [] (AQ 0) mTT (BE Af Af (mC (.str "0")) (AA 0) (mC (.str "9"))))) AC)))) (Ac (mC (.bl false))) Ae)
 (Ac (Gr (mOp Al (AA 0) (mC (.str "0"))) (mOp Aj (mOp gIx (AA 0) (mC (.int 0))) (mC (.str "0")))))))
theorem SF:FnScope Ks ["text","most"] (AW Fz):=⟨rfl,rfl,rfl,by decide +kernel,rfl,by decide +kernel,by decide +kernel⟩
theorem Ob {P:Program} {w:World} {K:PySem.W.Frag} {mg:Str->Option Value} {base:Heap} {fa:Addr} {fd:FuncData} (F:Fun K "are_figures" "are_figures" Fz fa fd) (T:Nm mg):FnOk P w K mg base CX0 1 fa fd ["text","most"] (spD K 2 (mFn 2 (Hr))):=
 Bq F SF fun cdv A outer s H E hr=>(AR (A8 (DN (Jt AF (Cp T (AE (AD (pv 0)) AG)) (AD (pv 1)))) (AV (Aq CQ)) BD)
 (AR (A8 (DN (Dc (LO T.all (AE (An (CF (esc:=(AW Fz)) (N:=Ks) (tn:=["sign"]) (fn:=[]) (ix:=[]) rfl rfl rfl ⟨rfl,by decide +kernel,by decide +kernel,by decide +kernel,rfl,by decide +kernel⟩ (Le (AD (pv 0))) (fun _ _ _ _ _=>(Bg (Ay (i:=0) (show (["sign"]:List Str).Nodup by decide +kernel) rfl (Or.inl rfl)))) (fun _ _ _ _ _=>Bk) (fun _ _ _ _ _=>(Kb As (AD (pv 0)) As)))) AG)))) (AV (Aq CQ)) BD)
 (AV (Aq (Rh (II hr.units (AD (pv 0)) As) (Mm (Lw hr.units (A7 (AD (pv 0)) AF) As)))))))
abbrev JB:Stmt:=top 17
abbrev UZ:List Str:=["text"]
def GF (zU:MD):MS:=(AI (mIf (BP (D4 (AA 0) (mC (.str "-")))) (Ac (G9 (mOp Aj (AA 0) (mC (.str "-0"))) (AJ zU (AB (mSl (AA 0) (some (mC (.int 1))) none) (AB (mC (.int 30)) AC))))) Ae)
 (Ac (AJ zU (AB (AA 0) (AB (mC (.int 30)) AC)))))
theorem RF:FnScope UZ ["text"] (AW JB):=⟨rfl,rfl,rfl,by decide +kernel,rfl,by decide +kernel,by decide +kernel⟩
theorem PV {P:Program} {w:World} {K:PySem.W.Frag} {mg:Str->Option Value} {base:Heap} {fa:Addr} {fd:FuncData} (F:Fun K "is_key" "is_key" JB fa fd) (T:Nm mg) {yX:Addr} {yY:FuncData} {zU:MD} (zQ:Cal P w K mg base "are_figures" 1 yX yY ["text","most"] (spD K 2 zU)) (g_MOST_FIGURES:∃ t,mg "MOST_FIGURES"=some (.int 30 t)):FnOk P w K mg base CX0 2 fa fd ["text"] (spD K 1 (mFn 1 (GF zU))):=
 Bq F RF fun cdv A outer s H E hr=>(AR (A8 (Dc (Um (AD (pv 0)) As ⟨rfl,rfl,rfl,rfl⟩)) (AV (Aq (PR (Lw hr.units (AD (pv 0)) As) (Mm (A5 zQ.G hr rfl zQ.m zQ.k zQ.b (AE (E4 (AD (pv 0)) (GA AF) Gy) (AE (Gz g_MOST_FIGURES) AG)) (AU (AU Ai))))))) BD)
 (AV (Aq (A5 zQ.G hr rfl zQ.m zQ.k zQ.b (AE (AD (pv 0)) (AE (Gz g_MOST_FIGURES) AG)) (AU (AU Ai))))))
abbrev Ia:Stmt:=top 18
abbrev O9:List Str:=["text","parts"]
def GU (z9:MD) (yA:MD):MS:=(AI (AZ 1 (AK (CK (AA 0) (mC (.str ":")))))
 (AI (mIf (mOr (AO (mOp Aj (AN A9 (AB (AA 1) AC)) (mC (.int 2)))) (mOr (BO (BP (AJ z9 (AB (mOp gIx (AA 1) (mC (.int 0))) AC)))) (BO (BP (AJ yA (AB (mOp gIx (AA 1) (mC (.int 1))) AC)))))) (fun _=>none) Ae)
 (Ac (CJ (AB (AN EX (AB (mOp gIx (AA 1) (mC (.int 0))) AC)) (AB (mOp gIx (AA 1) (mC (.int 1))) AC))))))
theorem sc_read_thing:FnScope O9 ["text"] (AW Ia):=⟨rfl,rfl,rfl,by decide +kernel,rfl,by decide +kernel,by decide +kernel⟩
theorem Vr {P:Program} {w:World} {K:PySem.W.Frag} {mg:Str->Option Value} {base:Heap} {fa:Addr} {fd:FuncData} (F:Fun K "read_thing" "read_thing" Ia fa fd) (T:Nm mg) {yZ:Addr} {y9:FuncData} {z9:MD} (yB:Cal P w K mg base "is_key" 2 yZ y9 ["text"] (spD K 1 z9)) {xA:Addr} {xB:FuncData} {yA:MD} (yC:Cal P w K mg base "is_tag" 1 xA xB ["thing"] (spD K 1 yA)):FnOk P w K mg base CX0 3 fa fd ["text"] (spD K 1 (mFn 2 (GU z9 yA))):=
 Bq F sc_read_thing fun cdv A outer s H E hr=>(AR (BR (fun te h=>Aw (i:=1) sc_read_thing.nd rfl (Or.inl rfl) h) (An (GN (AD (pv 0)) As ⟨rfl,rfl,rfl,rfl⟩)))
 (AR (A8 (Dj (Ea (CP hr.units (Cp T (AE (AD (pv 1)) AG)) AF) (Ea (DN (Dc (A5 yB.G hr rfl yB.m yB.k yB.b (AE (A7 (AD (pv 1)) AF) AG) (AU Ai)))) (GR (DN (Dc (A5 yC.G (hr.mono (by decide)) rfl yC.m yC.k yC.b (AE (A7 (AD (pv 1)) AF) AG) (AU Ai)))))))) (AV JD) BD)
 (AV (Aq (FC (AE (Tq T (AE (A7 (AD (pv 1)) AF) AG)) (AE (A7 (AD (pv 1)) AF) AG)))))))
abbrev Fv:Stmt:=top 19
abbrev NZ:List Str:=["text"]
def Fb (yD:MD):MS:=(AI (mIf (AO (mOp Al (AA 0) (mC (.str "-")))) (BZ (A3 AC)) Ae)
 (BZ (Av (BH (AK (CK (AA 0) (mC (.str ", "))))) 1 [] (AQ 0) mTT (AJ yD (AB (AA 0) AC)))))
theorem Vs:FnScope NZ ["text"] (AW Fv):=⟨rfl,rfl,rfl,by decide +kernel,rfl,by decide +kernel,by decide +kernel⟩
theorem RL {P:Program} {w:World} {K:PySem.W.Frag} {mg:Str->Option Value} {base:Heap} {fa:Addr} {fd:FuncData} (F:Fun K "read_row" "read_row" Fv fa fd) (T:Nm mg) {xC:Addr} {xE:FuncData} {yD:MD} (yE:Cal P w K mg base "read_thing" 3 xC xE ["text"] (spD K 1 yD)) (gs_NO_THINGS:∃ t,mg "NO_THINGS"=some (.str "-" t)):FnOk P w K mg base CX0 4 fa fd ["text"] (spF K 1 (Ap 1 (Fb yD))):=
 DH F Vs fun cdv A outer s H E hr=>(AR (A8 (Bs hr.units (AD (pv 0)) (Lo gs_NO_THINGS)) (AV (C5 (B7 AG))) BD)
 (AV (C5 (CF (esc:=(AW Fv)) (N:=NZ) (tn:=["part"]) (fn:=[]) (ix:=[]) rfl rfl rfl ⟨rfl,by decide +kernel,by decide +kernel,by decide +kernel,rfl,by decide +kernel⟩ (Ck (An (GN (AD (pv 0)) As ⟨rfl,rfl,rfl,rfl⟩))) (fun _ _ _ _ _=>(Bg (Ay (i:=0) (show (["part"]:List Str).Nodup by decide +kernel) rfl (Or.inl rfl)))) (fun _ _ _ _ _=>Bk) (fun _ _ _ _ _=>(A5 yE.G hr rfl yE.m yE.k yE.b (AE (AD (pv 0)) AG) (AU Ai)))))))
abbrev GG:Stmt:=top 20
abbrev Me:List Str:=["text","parts"]
def Ga (yF:MDF):MS:=(AI (mIf (BO (BP (C7 "str" (AA 0)))) (fun _=>none) Ae)
 (AI (AZ 1 (AK (CK (AA 0) (mC (.str "; ")))))
 (AI (mIf (AO (mOp DJ (AN A9 (AB (AA 1) AC)) (mC (.int 6)))) (fun _=>none) Ae)
 (BZ (Av (BH (AA 1)) 1 [] (AQ 0) mTT (AK (A0 yF (AB (AA 0) AC))))))))
theorem sc_read_rows:FnScope Me ["text"] (AW GG):=⟨rfl,rfl,rfl,by decide +kernel,rfl,by decide +kernel,by decide +kernel⟩
theorem Q8 {P:Program} {w:World} {K:PySem.W.Frag} {mg:Str->Option Value} {base:Heap} {fa:Addr} {fd:FuncData} (F:Fun K "read_rows" "read_rows" GG fa fd) (T:Nm mg) {xF:Addr} {xH:FuncData} {yF:MDF} (yG:Cal P w K mg base "read_row" 4 xF xH ["text"] (spF K 1 yF)) (g_MOST_HANDS:∃ t,mg "MOST_HANDS"=some (.int 6 t)):FnOk P w K mg base CX0 5 fa fd ["text"] (spF K 1 (Ap 2 (Ga yF))):=
 DH F sc_read_rows fun cdv A outer s H E hr=>(AR (A8 (DN (Dc (Li T (AD (pv 0))))) (AV JD) BD)
 (AR (BR (fun te h=>Aw (i:=1) sc_read_rows.nd rfl (Or.inl rfl) h) (An (GN (AD (pv 0)) As ⟨rfl,rfl,rfl,rfl⟩)))
 (AR (A8 (LC hr.units0 (Cp T (AE (AD (pv 1)) AG)) (Gz g_MOST_HANDS)) (AV JD) BD)
 (AV (C5 (CF (esc:=(AW GG)) (N:=Me) (tn:=["part"]) (fn:=[]) (ix:=[]) rfl rfl rfl ⟨rfl,by decide +kernel,by decide +kernel,by decide +kernel,rfl,by decide +kernel⟩ (Ck (AD (pv 1))) (fun _ _ _ _ _=>(Bg (Ay (i:=0) (show (["part"]:List Str).Nodup by decide +kernel) rfl (Or.inl rfl)))) (fun _ _ _ _ _=>Bk) (fun _ _ _ _ _=>(An (CO yG.G hr rfl yG.m yG.k yG.b (AE (AD (pv 0)) AG) (AU Ai))))))))))
abbrev JX:Stmt:=top 22
abbrev UQ:List Str:=["script","k"]
def G8:MS:=(AI (mIf (AO (mOp DD (AA 1) (AN A9 (AB (AA 0) AC)))) (Ac (mOp gIx (AA 0) (AA 1))) Ae)
 (Ac (mC (.int 0))))
theorem WD:FnScope UQ ["script","k"] (AW JX):=⟨rfl,rfl,rfl,by decide +kernel,rfl,by decide +kernel,by decide +kernel⟩
theorem Vv {P:Program} {w:World} {K:PySem.W.Frag} {mg:Str->Option Value} {base:Heap} {fa:Addr} {fd:FuncData} (F:Fun K "_law_cell_at" "_law_cell_at" JX fa fd) (T:Nm mg):FnOk P w K mg base CX0 1 fa fd ["script","k"] (spD K 2 (mFn 2 (G8))):=
 Bq F WD fun cdv A outer s H E hr=>(AR (A8 (Hc hr.units0 (AD (pv 1)) (Cp T (AE (AD (pv 0)) AG))) (AV (Aq (A7 (AD (pv 0)) (AD (pv 1))))) BD)
 (AV (Aq AF)))
abbrev JT:Stmt:=top 23
abbrev UC:List Str:=["cell","many","found","rest","stir","k","again"]
def K5:MS:=(mIf (DB (AO (mOp EK (AA 0) (mOp Cs (mC (.int 10)) (mC (.int 18))))) (AO (mOp DJ (AA 3) (mC (.int 0))))) (AI (Cb (Dp (AA 2) (mOp Ax (AA 3) (mC (.int 64)))))
 (AZ 3 (mOp Bl (AA 3) (mC (.int 64))))) (AI (AZ 4 (mOp Ax (mOp BY (mOp AS (mOp AS (AA 4) (mOp BY (mC (.int 7)) (AA 5))) (mC (.int 3))) (mC (.int 48271))) (mC (.int 2147483647))))
 (AI (AZ 6 (mOp Ax (mOp BY (mOp Ax (mOp BY (AA 4) (AA 4)) (mC (.int 2147483629))) (mC (.int 69621))) (mC (.int 2147483587))))
 (Cb (Dp (AA 2) (mOp Ax (mOp Bl (AA 6) (mC (.int 8))) (mC (.int 720720))))))))
def IK:MS:=(AI (CV 2 (A3 AC))
 (AI (AZ 3 (AA 0))
 (AI (AZ 4 (mOp Ax (AA 0) (mC (.int 2147483647))))
 (AI (CN (Bm (AB (AA 1) AC)) (AQ 5) (K5))
 (BZ (EJ 2))))))
theorem sc__law_numbers:FnScope UC ["cell","many"] (AW JT):=⟨rfl,rfl,rfl,by decide +kernel,rfl,by decide +kernel,by decide +kernel⟩
theorem Ot {P:Program} {w:World} {K:PySem.W.Frag} {mg:Str->Option Value} {base:Heap} {fa:Addr} {fd:FuncData} (F:Fun K "_law_numbers" "_law_numbers" JT fa fd) (T:Nm mg):FnOk P w K mg base CX0 1 fa fd ["cell","many"] (spF K 2 (Ap 7 (IK))):=
 DH F sc__law_numbers fun cdv A outer s H E hr=>(AR (Fe (fun te h=>Aw (i:=2) sc__law_numbers.nd rfl (Or.inl rfl) h) (B7 AG))
 (AR (BR (fun te h=>Aw (i:=3) sc__law_numbers.nd rfl (Or.inl rfl) h) (AD (pv 0)))
 (AR (BR (fun te h=>Aw (i:=4) sc__law_numbers.nd rfl (Or.inl rfl) h) (Bh (AD (pv 0)) AF))
 (AR (ER PassesOwn.never rfl (Dy rfl T.range (AE (AD (pv 1)) AG)) (Bg (Ay (i:=5) sc__law_numbers.nd rfl (Or.inl rfl))) (AV (A8 (Dj (JI (Uv hr.units0 (AD (pv 0)) (N1 AF AF)) (Hb (LC hr.units0 (AD (pv 3)) AF)))) (AR (Fj (JH (AD (pv 2)) (Bh (AD (pv 3)) AF)))
 (AV (BR (fun te h=>Aw (i:=3) sc__law_numbers.nd rfl (Or.inl rfl) h) (D7 (AD (pv 3)) AF)))) (AR (BR (fun te h=>Aw (i:=4) sc__law_numbers.nd rfl (Or.inl rfl) h) (Bh (C3 (BF (BF (AD (pv 4)) (C3 AF (AD (pv 5)))) AF) AF) AF))
 (AR (BR (fun te h=>Aw (i:=6) sc__law_numbers.nd rfl (Or.inl rfl) h) (Bh (C3 (Bh (C3 (AD (pv 4)) (AD (pv 4))) AF) AF) AF))
 (AV (Fj (JH (AD (pv 2)) (Bh (D7 (AD (pv 6)) AF) AF)))))))))
 (AV (C5 (MX (pv 2))))))))
abbrev JC:Stmt:=top 24
abbrev Pm:List Str:=["cell","many"]
def G6 (yH:MDF):MS:=(BZ (Fp (AK (A0 yH (AB (AA 0) (AB (AA 1) AC))))))
theorem RB:FnScope Pm ["cell","many"] (AW JC):=⟨rfl,rfl,rfl,by decide +kernel,rfl,by decide +kernel,by decide +kernel⟩
theorem VW {P:Program} {w:World} {K:PySem.W.Frag} {mg:Str->Option Value} {base:Heap} {fa:Addr} {fd:FuncData} (F:Fun K "_law_deck" "_law_deck" JC fa fd) (T:Nm mg) {xI:Addr} {xJ:FuncData} {yH:MDF} (yI:Cal P w K mg base "_law_numbers" 1 xI xJ ["cell","many"] (spF K 2 yH)):FnOk P w K mg base CX0 2 fa fd ["cell","many"] (spF K 2 (Ap 2 (G6 yH))):=
 DH F RB fun cdv A outer s H E hr=>(AV (C5 (Vt (An (CO yI.G hr rfl yI.m yI.k yI.b (AE (AD (pv 0)) (AE (AD (pv 1)) AG)) (AU (AU Ai)))))))
abbrev JV:Stmt:=top 25
abbrev Pz:List Str:=["deck","many"]
def FP:MS:=(AI (mIf (AO (mOp Al (AA 0) (AK (A3 AC)))) (Ac (mC (.int 0))) Ae)
 (Ac (mOp Ax (NK (AA 0)) (AA 1))))
theorem P4:FnScope Pz ["deck","many"] (AW JV):=⟨rfl,rfl,rfl,by decide +kernel,rfl,by decide +kernel,by decide +kernel⟩
theorem Sg {P:Program} {w:World} {K:PySem.W.Frag} {mg:Str->Option Value} {base:Heap} {fa:Addr} {fd:FuncData} (F:Fun K "_law_take" "_law_take" JV fa fd) (T:Nm mg):FnOk P w K mg base CX0 1 fa fd ["deck","many"] (spD K 2 (mFn 2 (FP))):=
 Bq F P4 fun cdv A outer s H E hr=>(AR (A8 (Bs hr.units (AD (pv 0)) (An (B7 AG))) (AV (Aq AF)) BD)
 (AV (Aq (Bh (Q1 (AD (pv 0))) (AD (pv 1))))))
abbrev Hw:Stmt:=top 26
abbrev QO:List Str:=["deck","way","number","far"]
def Ge (zB:MD):MS:=(AI (AZ 1 (AJ zB (AB (AA 0) (AB (mC (.int 8)) AC))))
 (AI (AZ 2 (AJ zB (AB (AA 0) (AB (mC (.int 64)) AC))))
 (AI (mIf (AO (mOp DD (AA 1) (mC (.int 4)))) (Ac (mOp Ax (AA 2) (mC (.int 6)))) Ae)
 (AI (mIf (AO (mOp Al (AA 1) (mC (.int 4)))) (Ac (mOp Dn (mC (.int 0)) (mOp Ax (AA 2) (mC (.int 6))))) Ae)
 (AI (mIf (AO (mOp Al (AA 1) (mC (.int 5)))) (Ac (mOp Dn (mOp BY (AA 2) (mC (.int 1009))) (mC (.int 30000)))) Ae)
 (AI (AZ 3 (mOp AS (mOp BY (mOp Cs (mC (.int 10)) (mC (.int 29))) (mOp AS (mC (.int 1)) (mOp Ax (AA 2) (mC (.int 9))))) (mOp BY (AA 2) (mC (.int 7919)))))
 (Ac (mOp gIx (AK (A3 (AB (AA 3) (AB (mOp Dn (mC (.int 0)) (AA 3)) AC)))) (mOp Dn (AA 1) (mC (.int 6)))))))))))
theorem sc__law_key:FnScope QO ["deck"] (AW Hw):=⟨rfl,rfl,rfl,by decide +kernel,rfl,by decide +kernel,by decide +kernel⟩
theorem Ud {P:Program} {w:World} {K:PySem.W.Frag} {mg:Str->Option Value} {base:Heap} {fa:Addr} {fd:FuncData} (F:Fun K "_law_key" "_law_key" Hw fa fd) (T:Nm mg) {zN:Addr} {zO:FuncData} {zB:MD} (zA:Cal P w K mg base "_law_take" 1 zN zO ["deck","many"] (spD K 2 zB)):FnOk P w K mg base CX0 2 fa fd ["deck"] (spD K 1 (mFn 4 (Ge zB))):=
 Bq F sc__law_key fun cdv A outer s H E hr=>(AR (BR (fun te h=>Aw (i:=1) sc__law_key.nd rfl (Or.inl rfl) h) (A5 zA.G hr rfl zA.m zA.k zA.b (AE (AD (pv 0)) (AE AF AG)) (AU (AU Ai))))
 (AR (BR (fun te h=>Aw (i:=2) sc__law_key.nd rfl (Or.inl rfl) h) (A5 zA.G hr rfl zA.m zA.k zA.b (AE (AD (pv 0)) (AE AF AG)) (AU (AU Ai))))
 (AR (A8 (Hc hr.units0 (AD (pv 1)) AF) (AV (Aq (Bh (AD (pv 2)) AF))) BD)
 (AR (A8 (Bs hr.units (AD (pv 1)) AF) (AV (Aq (Gw AF (Bh (AD (pv 2)) AF)))) BD)
 (AR (A8 (Bs hr.units (AD (pv 1)) AF) (AV (Aq (Gw (C3 (AD (pv 2)) AF) AF))) BD)
 (AR (BR (fun te h=>Aw (i:=3) sc__law_key.nd rfl (Or.inl rfl) h) (BF (C3 (N1 AF AF) (BF AF (Bh (AD (pv 2)) AF))) (C3 (AD (pv 2)) AF)))
 (AV (Aq (A7 (An (B7 (AE (AD (pv 3)) (AE (Gw AF (AD (pv 3))) AG)))) (Gw (AD (pv 1)) AF))))))))))
abbrev Fs:Stmt:=top 27
abbrev J4:List Str:=["deck","number","letters","size"]
def Fo (zB:MD):MS:=(AI (AZ 1 (AJ zB (AB (AA 0) (AB (mC (.int 720720)) AC))))
 (AI (mIf (AO (mOp Al (mOp Ax (AA 1) (mC (.int 2))) (mC (.int 0)))) (Ac (mOp gIx (AK (A3 (AB (mC (.str "a")) (AB (mC (.str "b")) (AB (mC (.str "ab")) (AB (mC (.str "zzzzzzzz")) (AB (mC (.str "x")) AC))))))) (mOp Ax (mOp Bl (AA 1) (mC (.int 2))) (mC (.int 5))))) Ae)
 (AI (AZ 2 (mC (.str "abcdefghijklmnopqrstuvwxyz")))
 (AI (AZ 3 (mOp AS (mC (.int 1)) (mOp Ax (mOp Bl (AA 1) (mC (.int 4))) (mC (.int 8)))))
 (Ac (DK (mC (.str "")) (AK (Av (Bm (AB (AA 3) AC)) 1 [2,1] (AQ 0) mTT (mOp gIx (AA 1) (mOp Ax (mOp AS (mOp Bl (AA 2) (mC (.int 2))) (mOp BY (AA 0) (mOp AS (mOp Bl (AA 2) (mC (.int 16))) (AA 0)))) (mC (.int 26))))))))))))
theorem sc__law_tag:FnScope J4 ["deck"] (AW Fs):=⟨rfl,rfl,rfl,by decide +kernel,rfl,by decide +kernel,by decide +kernel⟩
theorem RG {P:Program} {w:World} {K:PySem.W.Frag} {mg:Str->Option Value} {base:Heap} {fa:Addr} {fd:FuncData} (F:Fun K "_law_tag" "_law_tag" Fs fa fd) (T:Nm mg) {zN:Addr} {zO:FuncData} {zB:MD} (zA:Cal P w K mg base "_law_take" 1 zN zO ["deck","many"] (spD K 2 zB)):FnOk P w K mg base CX0 2 fa fd ["deck"] (spD K 1 (mFn 4 (Fo zB))):=
 Bq F sc__law_tag fun cdv A outer s H E hr=>(AR (BR (fun te h=>Aw (i:=1) sc__law_tag.nd rfl (Or.inr rfl) h) (A5 zA.G hr rfl zA.m zA.k zA.b (AE (AD (pv 0)) (AE AF AG)) (AU (AU Ai))))
 (AR (A8 (Bs hr.units (Bh (AD (pv 1)) AF) AF) (AV (Aq (A7 (An (B7 (AE As (AE As (AE As (AE As (AE As AG))))))) (Bh (D7 (AD (pv 1)) AF) AF)))) BD)
 (AR (BR (fun te h=>Aw (i:=2) sc__law_tag.nd rfl (Or.inr rfl) h) As)
 (AR (BR (fun te h=>Aw (i:=3) sc__law_tag.nd rfl (Or.inl rfl) h) (BF AF (Bh (D7 (AD (pv 1)) AF) AF)))
 (AV (Aq (Fc As (An (CF (esc:=(AW Fs)) (N:=J4) (tn:=["j"]) (fn:=["letters","number"]) (ix:=[2,1]) rfl rfl rfl ⟨rfl,by decide +kernel,by decide +kernel,by decide +kernel,rfl,by decide +kernel⟩ (Dy rfl T.range (AE (AD (pv 3)) AG)) (fun _ _ _ _ _=>(Bg (Ay (i:=0) (show (["j","letters","number"]:List Str).Nodup by decide +kernel) rfl (Or.inl rfl)))) (fun _ _ _ _ _=>Bk) (fun _ _ _ _ _=>(A7 (AD (pv 1)) (Bh (BF (D7 (AD (pv 2)) AF) (C3 (AD (pv 0)) (BF (D7 (AD (pv 2)) AF) (AD (pv 0))))) AF))))) ⟨rfl,rfl,rfl,rfl⟩)))))))
abbrev Ei:Stmt:=top 28
abbrev JG:List Str:=["deck","most","rows","hand","many","keys","way"]
def FH (zB:MD) (zC:MD) (zT:MD):MS:=(AI (AZ 4 (AJ zB (AB (AA 0) (AB (mOp gIx (AK (A3 (AB (mC (.int 1)) (AB (mOp AS (AA 1) (mC (.int 1))) (AB (mC (.int 4)) (AB (mOp AS (AA 1) (mC (.int 1))) AC)))))) (AJ zB (AB (AA 0) (AB (mC (.int 4)) AC)))) AC))))
 (AI (AZ 5 (AK (Av (Bm (AB (AA 4) AC)) 1 [0] (AQ 0) mTT (AJ zC (AB (AA 1) AC)))))
 (AI (AZ 6 (AJ zB (AB (AA 0) (AB (mC (.int 4)) AC))))
 (AI (mIf (AO (mOp Al (AA 6) (mC (.int 1)))) (AZ 5 (AK (Bw Bn (AB (AA 5) AC)))) Ae)
 (AI (mIf (AO (mOp Al (AA 6) (mC (.int 2)))) (AZ 5 (AK (C1 Dw (mSl (AA 5) none (some (mC (.int 1)))) (AA 4)))) Ae)
 (Cb (Dp (AA 2) (AK (Av (BH (AA 5)) 1 [0] (AQ 0) mTT (CJ (AB (AA 0) (AB (AJ zT (AB (AA 1) AC)) AC))))))))))))
def FL (zB:MD) (zC:MD) (zT:MD):MS:=(AI (CV 2 (A3 AC))
 (AI (CN (Bm (AB (mOp AS (mC (.int 1)) (AJ zB (AB (AA 0) (AB (mC (.int 6)) AC)))) AC)) (AQ 3) (FH zB zC zT))
 (BZ (EJ 2))))
theorem sc__law_rows:FnScope JG ["deck","most"] (AW Ei):=⟨rfl,rfl,rfl,by decide +kernel,rfl,by decide +kernel,by decide +kernel⟩
theorem Sb {P:Program} {w:World} {K:PySem.W.Frag} {mg:Str->Option Value} {base:Heap} {fa:Addr} {fd:FuncData} (F:Fun K "_law_rows" "_law_rows" Ei fa fd) (T:Nm mg) {zN:Addr} {zO:FuncData} {zB:MD} (zA:Cal P w K mg base "_law_take" 1 zN zO ["deck","many"] (spD K 2 zB)) {yP:Addr} {yQ:FuncData} {zC:MD} (zP:Cal P w K mg base "_law_key" 2 yP yQ ["deck"] (spD K 1 zC)) {xL:Addr} {xM:FuncData} {zT:MD} (yJ:Cal P w K mg base "_law_tag" 2 xL xM ["deck"] (spD K 1 zT)):FnOk P w K mg base CX0 3 fa fd ["deck","most"] (spF K 2 (Ap 7 (FL zB zC zT))):=
 DH F sc__law_rows fun cdv A outer s H E hr=>(AR (Fe (fun te h=>Aw (i:=2) sc__law_rows.nd rfl (Or.inl rfl) h) (B7 AG))
 (AR (ER PassesOwn.never rfl (Dy rfl T.range (AE (BF AF (A5 zA.G (hr.mono (by decide)) rfl zA.m zA.k zA.b (AE (AD (pv 0)) (AE AF AG)) (AU (AU Ai)))) AG)) (Bg (Ay (i:=3) sc__law_rows.nd rfl (Or.inl rfl))) (AR (BR (fun te h=>Aw (i:=4) sc__law_rows.nd rfl (Or.inl rfl) h) (A5 zA.G (hr.mono (by decide)) rfl zA.m zA.k zA.b (AE (AD (pv 0)) (AE (A7 (An (B7 (AE AF (AE (BF (AD (pv 1)) AF) (AE AF (AE (BF (AD (pv 1)) AF) AG)))))) (A5 zA.G (hr.mono (by decide)) rfl zA.m zA.k zA.b (AE (AD (pv 0)) (AE AF AG)) (AU (AU Ai)))) AG)) (AU (AU Ai))))
 (AR (Hy (i:=5) sc__law_rows.nd rfl rfl (esc:=(AW Ei)) (N:=JG) (tn:=["k"]) (fn:=["deck"]) (ix:=[0]) rfl rfl rfl ⟨rfl,by decide +kernel,by decide +kernel,by decide +kernel,rfl,by decide +kernel⟩ (Dy rfl T.range (AE (AD (pv 4)) AG)) (fun _ _ _ _ _=>(Bg (Ay (i:=0) (show (["k","deck"]:List Str).Nodup by decide +kernel) rfl (Or.inl rfl)))) (fun _ _ _ _ _=>Bk) (fun _ _ _ _ _=>(A5 zP.G hr rfl zP.m zP.k zP.b (AE (AD (pv 1)) AG) (AU Ai))))
 (AR (BR (fun te h=>Aw (i:=6) sc__law_rows.nd rfl (Or.inl rfl) h) (A5 zA.G (hr.mono (by decide)) rfl zA.m zA.k zA.b (AE (AD (pv 0)) (AE AF AG)) (AU (AU Ai))))
 (AR (A8 (Bs hr.units (AD (pv 6)) AF) (AV (BR (fun te h=>Aw (i:=5) sc__law_rows.nd rfl (Or.inl rfl) h) (An (L5 T (AE (AD (pv 5)) AG))))) BD)
 (AR (A8 (Bs hr.units (AD (pv 6)) AF) (AV (BR (fun te h=>Aw (i:=5) sc__law_rows.nd rfl (Or.inl rfl) h) (An (Pr (E4 (AD (pv 5)) Gy (GA AF)) (AD (pv 4)))))) BD)
 (AV (Fj (JH (AD (pv 2)) (An (CF (esc:=(AW Ei)) (N:=JG) (tn:=["key"]) (fn:=["deck"]) (ix:=[0]) rfl rfl rfl ⟨rfl,by decide +kernel,by decide +kernel,by decide +kernel,rfl,by decide +kernel⟩ (Ck (AD (pv 5))) (fun _ _ _ _ _=>(Bg (Ay (i:=0) (show (["key","deck"]:List Str).Nodup by decide +kernel) rfl (Or.inl rfl)))) (fun _ _ _ _ _=>Bk) (fun _ _ _ _ _=>(FC (AE (AD (pv 0)) (AE (A5 yJ.G hr rfl yJ.m yJ.k yJ.b (AE (AD (pv 1)) AG) (AU Ai)) AG)))))))))))))))
 (AV (C5 (MX (pv 2))))))
end DL
namespace DL
open PySem L2
theorem EW {g:MG} {b:MS} {items:List D} (P:Nat->DS->Prop) (hs:∀ i d s,items[i]?=some d->P i s->∃ s1 s2,g d s=some s1/\b s1=some (.nx s2)/\P (i+1) s2) {s:DS} (h0:P 0 s):∃ s',Cr g b items s=some (.nx s')/\P items.length s':=by
 have go:∀ (k:Nat) (s:DS),k<=items.length->P k s->∃ s',Cr g b (items.drop k) s=some (.nx s')/\P items.length s':=by
  intro k
  generalize hj:items.length - k=j
  induction j generalizing k with
  | zero=>
   intro s hk p
   have e:k=items.length:=by lia
   subst e
   exact ⟨s,by rw[List.drop_length];rfl,p⟩
  | succ j ih=>
   intro s hk p
   have hlt:k<items.length:=by lia
   obtain ⟨s1,s2,h1,h2,h3⟩:=hs k _ s (List.getElem?_eq_getElem hlt) p
   obtain ⟨s',h4,h5⟩:=ih (k+1) (by lia) s2 hlt h3
   refine ⟨s',?_,h5⟩
   rw[List.drop_eq_getElem_cons hlt]
   show (g _ s).bind _=_
   rw[h1]
   show (b s1).bind _=_
   rw[h2]
   exact h4
 exact go 0 s (Nat.zero_le _) h0
theorem GB {g:MG} {t:MT} {e:ME} {items:List D} (P:Nat->List D->List (Option SV)->Gm->Prop)
  (hs:∀ i d acc τ Γ,items[i]?=some d->P i acc τ Γ->∃ s1 b,g d ⟨τ,Γ,Γ.length⟩=some s1/\t s1=some b/\((b.1=true/\∃ y s2,e b.2=some (.v y,s2)/\s2.Γ.length=Γ.length/\P (i+1) (acc++[y]) s2.σ s2.Γ)\/(b.1=false/\b.2.Γ.length=Γ.length/\P (i+1) acc b.2.σ b.2.Γ)))
  {τ:List (Option SV)} {Γ:Gm} (h0:P 0 [] τ Γ):∃ ys τ' Γ',Ag g t e items τ Γ=some (ys,Γ')/\P items.length ys τ' Γ':=by
 have go:∀ (k:Nat) (acc:List D) (τ:List (Option SV)) (Γ:Gm),k<=items.length->P k acc τ Γ->∃ ys τ' Γ',Ag g t e (items.drop k) τ Γ=some (ys,Γ')/\P items.length (acc++ys) τ' Γ':=by
  intro k
  generalize hj:items.length - k=j
  induction j generalizing k with
  | zero=>
   intro acc τ Γ hk p
   have e:k=items.length:=by lia
   subst e
   exact ⟨[],τ,Γ,by rw[List.drop_length];rfl,by rw[List.append_nil];exact p⟩
  | succ j ih=>
   intro acc τ Γ hk p
   have hlt:k<items.length:=by lia
   obtain ⟨s1,b,h1,h2,h3⟩:=hs k _ acc τ Γ (List.getElem?_eq_getElem hlt) p
   rw[List.drop_eq_getElem_cons hlt]
   rcases h3 with ⟨hb,y,s2,h4,h5,h6⟩ | ⟨hb,h5,h6⟩
   ·obtain ⟨ys,τ',Γ',h7,h8⟩:=ih (k+1) (by lia) (acc++[y]) s2.σ s2.Γ hlt h6
    refine ⟨y::ys,τ',Γ',?_,by simpa using h8⟩
    show (g _ _).bind _=_
    rw[h1]
    show (t s1).bind _=_
    rw[h2]
    show (if b.1=true then _ else _)=_
    rw[if_pos hb,h4]
    show (if s2.Γ.length=Γ.length then _ else _)=_
    rw[if_pos h5,h7]
    rfl
   ·obtain ⟨ys,τ',Γ',h7,h8⟩:=ih (k+1) (by lia) acc b.2.σ b.2.Γ hlt h6
    refine ⟨ys,τ',Γ',?_,h8⟩
    show (g _ _).bind _=_
    rw[h1]
    show (t s1).bind _=_
    rw[h2]
    show (if b.1=true then _ else _)=_
    rw[if_neg (by rw[hb];exact Bool.false_ne_true),if_pos h5]
    exact h7
 obtain ⟨ys,τ',Γ',h1,h2⟩:=go 0 [] τ Γ (Nat.zero_le _) h0
 exact ⟨ys,τ',Γ',h1,by simpa using h2⟩
theorem Vf {α:Type} {xs:List α} {i:Int} (h0:0<=i) (h1:i<(xs.length:Int)):∃ c,atI xs i=some c/\c∈xs:=by
 have e:xs[i.toNat]?=some (xs[i.toNat]'(by lia)):=List.getElem?_eq_getElem (by lia)
 have q:=Bo e
 rw[show ((i.toNat:Nat):Int)=i by lia] at q
 exact ⟨_,q,List.getElem_mem _⟩
theorem Ra:("abcdefghijklmnopqrstuvwxyz":Str).cps.toList.length=26:=by decide +kernel
theorem Ol:("abcdefghijklmnopqrstuvwxyz":Str).length<=big:=by decide +kernel
theorem Dv {lo:Int} {n i:Nat} {d:D} (h:(upTo lo n)[i]?=some d):i<n/\d=.int (lo+i):=by
 have hi:=(List.getElem?_eq_some_iff.mp h).1
 rw[Cq] at hi
 rw[LY lo n i hi] at h
 exact ⟨hi,(Option.some.inj h).symm⟩
def Tg (t:Str):Prop:=1<=t.length/\t.length<=8/\∀ c∈t.cps.toList,97<=c/\c<=122
theorem Mh {z:Str} {l u:Option Int} {c:Nat} (h:c∈(A6 z l u).cps.toList):c∈z.cps.toList:=by
 unfold A6 at h
 split at h
 ·exact h
 ·obtain ⟨j,_,hj⟩:=List.mem_filterMap.mp (by simpa using h)
  exact Array.mem_toList_iff.mpr (Array.mem_of_getElem? hj)
def thD (t:Int×Str):D:=.tup [.int t.1,.str t.2]
def AL (ts:List (Int×Str)):D:=.lst (ts.map thD)
theorem AX {m n:MS} {s s1:DS} (h:m s=some (.nx s1)):AI m n s=n s1:=by unfold AI;rw[h];rfl
def FX {α:Type} (xs:List α) (l u:Option Int):List α:=(xs.drop (HT.sIx xs.length 0 l)).take (HT.sIx xs.length xs.length u - HT.sIx xs.length 0 l)
theorem Re {α:Type} (f:α->D) (xs:List α) (l u:Option Int):cutD (xs.map f) l u=(FX xs l u).map f:=by
 unfold cutD FX
 rw[List.length_map,List.map_take,List.map_drop]
theorem IT {α β:Type} {f:α->β} {xs:List α} {i:Nat} {d:β} (h:(xs.map f)[i]?=some d):∃ a,xs[i]?=some a/\d=f a:=by
 rw[List.getElem?_map] at h
 cases e:xs[i]? with
 | none=>rw[e] at h;cases h
 | some a=>rw[e] at h;exact ⟨a,rfl,(Option.some.inj h).symm⟩
abbrev Th:=Int×Str
theorem Jl {α:Type} {f:α->D} {xs:List α} {i:Nat} {a:α} (h:xs[i]?=some a):atI (xs.map f) (i:Int)=some (f a):=Bo (by rw[List.getElem?_map,h];rfl)
theorem at0 {x y:D}:atI [x,y] 0=some x:=rfl
theorem CS {Γ:Gm} {x:Option (List D)}:(Γ++[x])[Γ.length]?=some x:=by simp
theorem Ek {Γ:Gm} {x y:Option (List D)}:(Γ++[x]).set Γ.length y=Γ++[y]:=by simp
theorem Mj {Γ:Gm} {x:List (Option (List D))}:(Γ++x).take Γ.length=Γ:=by simp
theorem BM {c:MT} {m n:MS} {s s':DS} (h:c s=some (false,s')):mIf c m n s=n s':=by unfold mIf;rw[h];rfl
theorem CM {c:MT} {m n:MS} {s s':DS} (h:c s=some (true,s')):mIf c m n s=m s':=by unfold mIf;rw[h];rfl
theorem BB {m:ME} {s s':DS} {b:Bool} (h:m s=some (.v (.bl b),s')):AO m s=some (b,s'):=by unfold AO;rw[h];rfl
theorem Aa {g:Gm->SV->SV->Option D} {a b:ME} {s s1 s2:DS} {x y:SV} {z:D} (h1:a s=some (x,s1)) (h2:b s1=some (y,s2)) (h3:g s2.Γ x y=some z):mOp g a b s=some (.v z,s2):=by
 unfold mOp;rw[h1];show (b s1).bind _=_;rw[h2];show (g s2.Γ x y).map _=_;rw[h3];rfl
theorem Vo {g:Gm->SV->SV->Option (List D)} {a b:ME} {s s1 s2:DS} {x y:SV} {z:List D} (h1:a s=some (x,s1)) (h2:b s1=some (y,s2)) (h3:g s2.Γ x y=some z):C1 g a b s=some (z,s2):=by
 unfold C1;rw[h1];show (b s1).bind _=_;rw[h2];show (g s2.Γ x y).map _=_;rw[h3];rfl
theorem A1 {m:MF} {s s':DS} {xs:List D} (h:m s=some (xs,s')):AK m s=some (.v (.lst xs),s'):=by unfold AK;rw[h];rfl
theorem Bz {mi:MF} {nt:Nat} {ix:List Nat} {g:MG} {t:MT} {e:ME} {s s':DS} {items ys:List D} {Γ':Gm} (h1:mi s=some (items,s')) (hl:items.length<=big) (h2:Ag g t e items (Dm nt ix s'.σ) s'.Γ=some (ys,Γ')):Av mi nt ix g t e s=some (ys,{s' with Γ:=Γ'}):=by
 unfold Av;rw[h1,Option.bind_some,if_pos hl,h2];rfl
theorem Cf {g:Gm->List SV->Option D} {m:ME} {s s':DS} {x:SV} {z:D} (h:m s=some (x,s')) (hg:g s'.Γ [x]=some z):AN g (AB m AC) s=some (.v z,s'):=by
 unfold AN AB AC;rw[h];show (g s'.Γ [x]).map _=_;rw[hg];rfl
theorem Bx {M:MD} {m:ME} {s s':DS} {x:SV} {z:D} {Γ':Gm} (h:m s=some (x,s')) (hg:M [x] s'.Γ=some (z,Γ')):AJ M (AB m AC) s=some (.v z,{s' with Γ:=Γ'}):=by
 unfold AJ AB AC;rw[h];show (M [x] s'.Γ).map _=_;rw[hg];rfl
theorem Gi {M:MDF} {m:ME} {s s':DS} {x:SV} {z:List D} {Γ':Gm} (h:m s=some (x,s')) (hg:M [x] s'.Γ=some (z,Γ')):A0 M (AB m AC) s=some (z,{s' with Γ:=Γ'}):=by
 unfold A0 AB AC;rw[h];show (M [x] s'.Γ).map _=_;rw[hg];rfl
theorem B0 {M:MD} {m n:ME} {s s1 s2:DS} {x y:SV} {z:D} {Γ':Gm} (h:m s=some (x,s1)) (h2:n s1=some (y,s2)) (hg:M [x,y] s2.Γ=some (z,Γ')):AJ M (AB m (AB n AC)) s=some (.v z,{s2 with Γ:=Γ'}):=by
 unfold AJ AB AC;rw[h];show (((n s1).bind _).map _).bind _=_;rw[h2];show (M [x,y] s2.Γ).map _=_;rw[hg];rfl
theorem BL {i:Nat} {m:ME} {s s':DS} {x:SV} (h:m s=some (x,s')):AZ i m s=some (.nx {s' with σ:=s'.σ.set i (some x)}):=by unfold AZ;rw[h];rfl
theorem EC {m n:MS} {s s1:DS} {d:D} (h:m s=some (.rt d s1)):AI m n s=some (.rt d s1):=by unfold AI;rw[h];rfl
theorem KC {m n:ME} {s s1 s2:DS} {x y:D} (h1:m s=some (.v x,s1)) (h2:n s1=some (.v y,s2)):CJ (AB m (AB n AC)) s=some (.v (.tup [x,y]),s2):=by
 unfold CJ AB AC
 rw[h1]
 show (((n s1).bind _).map _).bind _=_
 rw[h2]
 show (if (2:Nat)<=big then some (SV.v (D.tup [x,y]),s2) else none)=_
 rw[if_pos (by decide)]
theorem Bf {m:ME} {s s':DS} {d:D} (h:m s=some (.v d,s')):Ac m s=some (.rt d s'):=by unfold Ac;rw[h];rfl
theorem TJ {d:D} {b:Bool} (h:Dr (.v d) (.v d)=some b):b=true:=by
 cases d<;>simp at h<;>exact h
theorem SZ {Γ:Gm} {d:D} {b:Bool} (h:D9 Γ (.v d) (.v d)=some b):b=true:=by
 cases d with
 | lst xs=>cases xs<;>simp at h<;>exact h
 | _=>simp at h
theorem T5 {Γ:Gm} {d:D} (h:shal 6 d=true):Ex Γ (.v d) (.v d)=some true:=by simp[h,Vz h]
theorem FV {Γ:Gm} {d:D} (h:shal 6 d=true):Aj Γ (.v d) (.v d)=some (.bl false):=by
 have e:=T5 (Γ:=Γ) h
 unfold Aj gNe IS
 cases h1:Dr (.v d) (.v d) with
 | some b=>rw[TJ h1];rfl
 | none=>
  cases h2:D9 Γ (.v d) (.v d) with
  | some b=>rw[SZ h2];rfl
  | none=>rw[e];rfl
theorem Uw {t:Str} (h:Tg t):PyData.strOk t=true:=by
 unfold PyData.strOk
 refine Array.all_eq_true'.mpr fun c hc=>?_
 have:=h.2.2 c (Array.mem_toList_iff.mpr hc)
 simp
 lia
theorem TK {t:Th} (h:Tg t.2) (n:Nat):shal (n+1) (thD t)=true:=by
 have e:=Uw h
 unfold thD shal
 simp[shal,PyData.canLay0,e]
theorem Qd {ts:List Th} (h:∀ t∈ts,Tg t.2) (n:Nat):shal (n+2) (AL ts)=true:=by
 unfold AL shal
 rw[List.all_eq_true]
 intro x hx
 obtain ⟨t,ht,rfl⟩:=List.mem_map.mp hx
 exact TK (h t ht) n
end DL
namespace DL
open PySem L2 TXM
def AM (rs:List (List Th)):D:=.lst (rs.map AL)
def Gg:MD:=mFn 1 Iq
theorem V1 {c:Nat} {Γ:Gm} (h:97<=c):Af Γ (.v (.str "a")) (.v (.str ⟨#[c]⟩))=some (.bl true):=by
 have ea:("a":Str).cps.toList=[97]:=by decide +kernel
 have c1:¬([c]<[97]):=by rw[List.cons_lt_cons_iff];simp;lia
 show some (D.bl (!decide ([c]<("a":Str).cps.toList)))=_
 rw[ea,decide_eq_false c1]
 rfl
theorem OP {c:Nat} {Γ:Gm} (h:c<=122):Af Γ (.v (.str ⟨#[c]⟩)) (.v (.str "z"))=some (.bl true):=by
 have ea:("z":Str).cps.toList=[122]:=by decide +kernel
 have c1:¬([122]<[c]):=by rw[List.cons_lt_cons_iff];simp;lia
 show some (D.bl (!decide (("z":Str).cps.toList<[c])))=_
 rw[ea,decide_eq_false c1]
 rfl
theorem Ua {cs:List Nat} {Γ:Gm} (h:∀ c∈cs,97<=c/\c<=122) (τ:List (Option SV)) (hτ:τ.length=1):Ag (AQ 0) mTT (BE Af Af (mC (.str "a")) (AA 0) (mC (.str "z"))) (cs.map fun c=>.str ⟨#[c]⟩) τ Γ=some (cs.map fun _=>.bl true,Γ):=by
 induction cs generalizing τ with
 | nil=>rfl
 | cons c cs ih=>
  obtain ⟨v,rfl⟩:∃ v,τ=[v]:=by
   match τ,hτ with
   | [v],_=>exact ⟨v,rfl⟩
  have hc:=h c List.mem_cons_self
  have l1:=V1 (Γ:=Γ) hc.1
  have l2:=OP (Γ:=Γ) hc.2
  have:=ih (fun x hx=>h x (List.mem_cons_of_mem _ hx)) [some (.v (.str ⟨#[c]⟩))] rfl
  rw[List.map_cons,List.map_cons]
  have ec:BE Af Af (mC (.str "a")) (AA 0) (mC (.str "z")) ⟨[some (.v (.str ⟨#[c]⟩))],Γ,Γ.length⟩=some (.v (.bl true),⟨[some (.v (.str ⟨#[c]⟩))],Γ,Γ.length⟩):=by
   simp only[BE,mC,AA,Option.bind_some,List.getElem?_cons_zero,l1,l2,Option.map_some]
  unfold Ag
  simp only[AQ,Option.bind_some,List.set_cons_zero,mTT,if_true,ec,this,Option.map_some]
theorem U4 {t:Str} {Γ:Gm} (h:Tg t):Gg [.v (.str t)] Γ=some (.bl true,Γ):=by
 have tk:Γ.take Γ.length=Γ:=List.take_length
 have hb:t.length<=big:=by have:=h.2.1;unfold big;lia
 have h1:(1:Int)<=(t.length:Int):=by have:=h.1;lia
 have h2:(t.length:Int)<=8:=by have:=h.2.1;lia
 have ha:t.cps.all (·<128)=true:=Array.all_eq_true'.mpr fun c hc=>by
  have:=h.2.2 c (Array.mem_toList_iff.mpr hc)
  simp;lia
 have hl:(signs t).length<=big:=by unfold signs;rw[List.length_map];exact hb
 have e:=Ua (Γ:=Γ) h.2.2 [none] rfl
 have eb:Cd (t.cps.toList.map fun _=>D.bl true)=some (t.cps.toList.map fun _=>true):=by
  have:=JO (t.cps.toList.map fun _=>true)
  rw[List.map_map] at this
  exact this
 have f1:(mIf (mOr (BO (BP (C7 "str" (AA 0)))) (BO (AO (BE Af Af (mC (.int 1)) (AN A9 (AB (AA 0) AC)) (mC (.int 8)))))) (Ac (mC (.bl false))) Ae) ⟨[some (.v (.str t))],Γ,Γ.length⟩=some (.nx ⟨[some (.v (.str t))],Γ,Γ.length⟩):=by
  have g:BE Af Af (mC (.int 1)) (AN A9 (AB (AA 0) AC)) (mC (.int 8)) ⟨[some (.v (.str t))],Γ,Γ.length⟩=some (.v (.bl true),⟨[some (.v (.str t))],Γ,Γ.length⟩):=by
   have g1:AN A9 (AB (AA 0) AC) ⟨[some (.v (.str t))],Γ,Γ.length⟩=some (.v (.int t.length),⟨[some (.v (.str t))],Γ,Γ.length⟩):=by simp[hb]
   unfold BE
   rw[show mC (.int 1) ⟨[some (.v (.str t))],Γ,Γ.length⟩=some (.v (.int 1),⟨[some (.v (.str t))],Γ,Γ.length⟩) from rfl,Option.bind_some]
   simp only[g1,Option.bind_some]
   simp only[Af,mC,decide_eq_true h1,decide_eq_true h2,Option.bind_some,Option.map_some]
  have gi:BP (C7 "str" (AA 0)) ⟨[some (.v (.str t))],Γ,Γ.length⟩=some (true,⟨[some (.v (.str t))],Γ,Γ.length⟩):=by simp
  unfold mIf mOr BO AO
  rw[gi]
  simp only[Option.map_some,Option.bind_some,Bool.not_true,Bool.false_eq_true,if_false,g,Dz,Ae]
 have f2:AN Cu (AB (AK (Av (Cw (AA 0)) 1 [] (AQ 0) mTT (BE Af Af (mC (.str "a")) (AA 0) (mC (.str "z"))))) AC) ⟨[some (.v (.str t))],Γ,Γ.length⟩=some (.v (.bl true),⟨[some (.v (.str t))],Γ,Γ.length⟩):=by
  have g1:Cw (AA 0) ⟨[some (.v (.str t))],Γ,Γ.length⟩=some (signs t,⟨[some (.v (.str t))],Γ,Γ.length⟩):=by
   show (if t.cps.all (·<128)=true then some (signs t,_) else none)=_
   rw[if_pos ha]
  have g2:Av (Cw (AA 0)) 1 [] (AQ 0) mTT (BE Af Af (mC (.str "a")) (AA 0) (mC (.str "z"))) ⟨[some (.v (.str t))],Γ,Γ.length⟩=some (t.cps.toList.map fun _=>.bl true,⟨[some (.v (.str t))],Γ,Γ.length⟩):=by
   unfold Av
   rw[g1,Option.bind_some,if_pos hl]
   show (Ag _ _ _ (signs t) [none] Γ).map _=_
   unfold signs
   rw[e]
   rfl
  unfold AN AB AK
  rw[g2]
  simp[eb]
 unfold Gg mFn Iq
 show (AI _ _ ⟨[some (.v (.str t))],Γ,Γ.length⟩).bind _=_
 rw[AX f1]
 unfold Ac
 rw[f2]
 simp[tk]
def AY (i:Int):Str:=(toString i:String)
def dg (m:Nat):List Nat:=(Nat.toDigits 10 m).map Char.toNat
theorem Ci (m:Nat):cd (AY (Int.ofNat m))=dg m:=PySem.W.KIN.signs_num m
theorem FI (m:Nat):cd (AY (Int.negSucc m))=45::dg (m+1):=by
 show (PySem.Str.ofString (toString (Int.negSucc m))).cps.toList=_
 rw[PyProof.Rows.signs_ofString]
 show ("-"++Nat.repr (m+1)).toList.map Char.toNat=_
 rw[String.toList_append,List.map_append,Nat.toList_repr]
 rfl
theorem De {m c:Nat} (h:c∈dg m):48<=c/\c<=57:=by
 obtain ⟨ch,hch,e⟩:=List.mem_map.mp h
 have r:=PyProof.Rows.digit_range (Nat.isDigit_of_mem_toDigits (by decide) (by decide) hch)
 rw[<-e]
 exact r
theorem En {m:Nat} (h:m<10):dg m=[48+m]:=by
 unfold dg
 rw[Nat.toDigits_of_lt_base h]
 have:∀ d:Nat,d<10->([Nat.digitChar d].map Char.toNat)=[48+d]:=by decide
 exact this m h
theorem Ku {m:Nat} (h:¬m<10):dg m=dg (m / 10)++dg (m % 10):=by
 have hm:m % 10<10:=Nat.mod_lt m (by decide)
 have t:Nat.toDigits 10 (m / 10)++Nat.toDigits 10 (m % 10)=Nat.toDigits 10 (10 * (m / 10)+m % 10):=Nat.toDigits_append_toDigits (by decide) (by lia) hm
 rw[Nat.div_add_mod] at t
 unfold dg
 rw[<-t,List.map_append]
theorem Iw:∀ (m:Nat),1<=m->∃ c r,dg m=c::r/\49<=c:=by
 intro m
 induction m using Nat.strongRecOn with
 | _ m ih=>
  intro h1
  by_cases h:m<10
  ·exact ⟨48+m,[],En h,by lia⟩
  ·obtain ⟨c,r,e,hc⟩:=ih (m / 10) (by lia) (by lia)
   exact ⟨c,r++dg (m % 10),by rw[Ku h,e];rfl,hc⟩
theorem Em:∀ (k m:Nat),m<10 ^ (k+1)->1<=(dg m).length/\(dg m).length<=k+1
 | 0,m,h=>by
  rw[En (by simpa using h)]
  exact ⟨Nat.le_refl _,Nat.le_refl _⟩
 | k+1,m,h=>by
  by_cases c:m<10
  ·rw[En c]
   exact ⟨Nat.le_refl _,by simp⟩
  ·have e:10 ^ (k+1+1)=10 * 10 ^ (k+1):=by rw[Nat.pow_succ];lia
   have i:=Em k (m / 10) (by lia)
   rw[Ku c,En (Nat.mod_lt m (by decide)),List.length_append]
   simp only[List.length_singleton]
   lia
def Ky (k:Int):Prop:=k.natAbs<10 ^ 30
theorem Cv {k:Int} (h:Ky k):1<=(AY k).length/\(AY k).length<=31:=by
 rw[<-TXM.A2]
 cases k with
 | ofNat m=>
  rw[Ci]
  have:=Em 29 m h
  lia
 | negSucc m=>
  rw[FI,List.length_cons]
  have:=Em 29 (m+1) h
  lia
theorem num_reads {k:Int} (h:Ky k):PySem.intText? (AY k)=some k:=by
 have hl:=Cv h
 cases k with
 | ofNat m=>
  have e:=PySem.intText_digits (x:=AY (Int.ofNat m)) (fun c hc=>De (m:=m) (by rw[<-Ci];exact hc)) (by
   show cd (AY (Int.ofNat m))≠[]
   intro z
   have:=hl.1
   rw[<-TXM.A2,z] at this
   exact absurd this (by decide)) (by lia)
  rw[e]
  show some (((PySem.NumText.digitsVal (cd (AY (Int.ofNat m))):Nat):Int))=_
  rw[Ci]
  show some (((PySem.NumText.digitsVal ((Nat.toDigits 10 m).map Char.toNat):Nat):Int))=_
  rw[PySem.W.KIN.val_back]
  rfl
 | negSucc m=>
  have e:=PySem.intText_neg (x:=AY (Int.negSucc m)) (cs:=dg (m+1)) (FI m) (fun c hc=>De hc) (by
   obtain ⟨c,r,e,_⟩:=Iw (m+1) (by lia)
   rw[e]
   exact fun z=>nomatch z) (by lia)
  rw[e]
  show some (-((PySem.NumText.digitsVal ((Nat.toDigits 10 (m+1)).map Char.toNat):Nat):Int))=_
  rw[PySem.W.KIN.val_back]
  rfl
theorem GT {k:Int} {c:Nat} (h:c∈cd (AY k)):c=45\/(48<=c/\c<=57):=by
 cases k with
 | ofNat m=>rw[Ci] at h;exact .inr (De h)
 | negSucc m=>
  rw[FI] at h
  rcases List.mem_cons.mp h with h | h
  ·exact .inl h
  ·exact .inr (De h)
theorem PH {x:Str} {a:Nat} (h:a<=x.length):cd (A6 x (some (a:Int)) none)=(cd x).drop a:=by
 have e0:Builtin.Str.strSliceIndices (some (a:Int)) none 1 x.length=Builtin.Str.strSliceIndices (some (a:Int)) (some (x.length:Int)) 1 x.length:=by
  unfold Builtin.Str.strSliceIndices
  simp only[show ((1:Int) > 0)=True by simp,if_true,show ¬((x.length:Int)<0) by lia,if_false]
  congr 1
  lia
 have e1:=PySem.StrLaws.sliced_plain x h (Nat.le_refl _)
 have e2:((cd x).drop a).take (x.length - a)=(cd x).drop a:=List.take_of_length_le (by rw[List.length_drop,TXM.A2];exact Nat.le_refl _)
 unfold A6
 rw[e0]
 split
 ·rename_i hl
  rw[PySem.StrLaws.strSliceIndices_plain h (Nat.le_refl _),List.length_map,List.length_range] at hl
  have hl:=beq_iff_eq.mp hl
  by_cases z:a=0
  ·rw[z,List.drop_zero]
  ·have:x.length=0:=by lia
   have c0:cd x=[]:=List.eq_nil_of_length_eq_zero (by rw[TXM.A2];exact this)
   rw[c0]
   simp
 ·show ((Builtin.Str.strSliceIndices (some (a:Int)) (some (x.length:Int)) 1 x.length).filterMap (x.cps[·]?)).toArray.toList=_
  rw[List.toList_toArray,e1]
  exact e2
def Fh:MD:=mFn 2 Hr
theorem FT (c:Nat):("0":Str).cps.toList=[48]/\("9":Str).cps.toList=[57]:=⟨by decide +kernel,by decide +kernel⟩
theorem le_0 {c:Nat} {Γ:Gm} (h:48<=c):Af Γ (.v (.str "0")) (.v (.str ⟨#[c]⟩))=some (.bl true):=by
 have ea:=(FT 0).1
 have c1:¬([c]<[48]):=by rw[List.cons_lt_cons_iff];simp;lia
 show some (D.bl (!decide ([c]<("0":Str).cps.toList)))=_
 rw[ea,decide_eq_false c1]
 rfl
theorem OJ {c:Nat} {Γ:Gm} (h:c<=57):Af Γ (.v (.str ⟨#[c]⟩)) (.v (.str "9"))=some (.bl true):=by
 have ea:=(FT 0).2
 have c1:¬([57]<[c]):=by rw[List.cons_lt_cons_iff];simp;lia
 show some (D.bl (!decide (("9":Str).cps.toList<[c])))=_
 rw[ea,decide_eq_false c1]
 rfl
theorem Kp {g g':Gm->SV->SV->Option D} {a b c:ME} {S:DS} {x y w:SV} {z:D} (h1:a S=some (x,S)) (h2:b S=some (y,S)) (h3:g S.Γ x y=some (.bl true)) (h4:c S=some (w,S)) (h5:g' S.Γ y w=some z):BE g g' a b c S=some (.v z,S):=by
 unfold BE
 rw[h1,Option.bind_some,h2,Option.bind_some,h3,Option.bind_some]
 simp only[]
 rw[h4,Option.bind_some,h5]
 rfl
theorem KO {Γ:Gm}:∀ (cs:List Nat) (v:Option SV),(∀ c∈cs,48<=c/\c<=57)->Ag (AQ 0) mTT (BE Af Af (mC (.str "0")) (AA 0) (mC (.str "9"))) (cs.map fun c=>.str ⟨#[c]⟩) [v] Γ=some (cs.map fun _=>.bl true,Γ)
 | [],_,_=>rfl
 | c::cs,v,h=>by
  have i:=KO (Γ:=Γ) cs (some (.v (.str ⟨#[c]⟩))) fun x hx=>h x (List.mem_cons_of_mem _ hx)
  have hc:=h c List.mem_cons_self
  let T:DS:=⟨[some (.v (.str ⟨#[c]⟩))],Γ,Γ.length⟩
  have w:BE Af Af (mC (.str "0")) (AA 0) (mC (.str "9")) T=some (.v (.bl true),T):=Kp (x:=.v (.str "0")) (y:=.v (.str ⟨#[c]⟩)) (w:=.v (.str "9")) rfl rfl (le_0 hc.1) rfl (OJ hc.2)
  rw[List.map_cons]
  show Ag _ _ _ (.str ⟨#[c]⟩::cs.map fun c=>.str ⟨#[c]⟩) _ _=_
  unfold Ag
  rw[show AQ 0 (.str ⟨#[c]⟩) (⟨[v],Γ,Γ.length⟩:DS)=some T from rfl]
  simp only[Option.bind_some,mTT,if_true,w]
  rw[show Ag _ _ _ _ T.σ T.Γ=_ from i,if_pos rfl]
  rfl
theorem len_str {S:DS} {m:ME} {x:Str} (h:m S=some (.v (.str x),S)) (hb:x.length<=1000000):AN A9 (AB m AC) S=some (.v (.int (x.length:Nat)),S):=Cf h (by
 show (if x.length<=big then some (D.int (x.length:Nat)) else none)=_
 rw[if_pos (by rw[show big=1000000 from rfl];exact hb)])
theorem le_int {Γ:Gm} {i j:Int} (h:i<=j):Af Γ (.v (.int i)) (.v (.int j))=some (.bl true):=by
 show some (D.bl (decide (i<=j)))=_
 rw[decide_eq_true h]
theorem Hx {Γ:Gm} {x y:Str}:Al Γ (.v (.str x)) (.v (.str y))=some (.bl (decide (x=y))):=rfl
theorem str_ne {Γ:Gm} {x y:Str}:Aj Γ (.v (.str x)) (.v (.str y))=some (.bl (!decide (x=y))):=rfl
theorem ascii {x:Str} (h:∀ c∈cd x,c<128):x.cps.all (·<128)=true:=Array.all_eq_true'.mpr fun c hc=>by
 have:=h c (Array.mem_toList_iff.mpr hc)
 simp;lia
theorem all_true {n:Nat} (cs:List Nat) {Γ:Gm}:Cu Γ [.v (.lst (cs.map fun _=>.bl true))]=some (.bl true):=by
 have eb:Cd (cs.map fun _=>D.bl true)=some (cs.map fun _=>true):=by
  have:=JO (cs.map fun _=>true)
  rw[List.map_map] at this
  exact this
 show ((Cd (cs.map fun _=>D.bl true)).map fun bs=>D.bl (bs.all id))=_
 rw[eb,Option.map_some]
 congr 2
 rw[List.all_eq_true]
 intro x hx
 obtain ⟨_,_,rfl⟩:=List.mem_map.mp hx
 rfl
theorem RH {x:Str} {Γ:Gm} {n:Nat} (hd:∀ c∈cd x,48<=c/\c<=57) (h1:1<=x.length) (h2:x.length<=n) (hn:n<=1000) (h0:x="0"\/∃ c r,cd x=c::r/\49<=c):Fh [.v (.str x),.v (.int (n:Int))] Γ=some (.bl true,Γ):=by
 have tk:Γ.take Γ.length=Γ:=List.take_length
 let S:DS:=⟨[some (.v (.str x)),some (.v (.int (n:Int)))],Γ,Γ.length⟩
 have wl:=len_str (S:=S) (m:=AA 0) (x:=x) rfl (by lia)
 have t1:BO (AO (BE Af Af (mC (.int 1)) (AN A9 (AB (AA 0) AC)) (AA 1))) S=some (false,S):=by
  unfold BO
  rw[BB (Kp (x:=.v (.int 1)) (w:=.v (.int (n:Int))) rfl wl (le_int (by lia)) rfl (le_int (by lia)))]
  rfl
 have wi:Cw (AA 0) S=some (signs x,S):=by
  show (if x.cps.all (·<128)=true then some (signs x,S) else none)=_
  rw[if_pos (ascii fun c hc=>by have:=hd c hc;lia)]
 have wc:=Bz (mi:=Cw (AA 0)) (nt:=1) (ix:=[]) (s:=S) (s':=S) (Γ':=Γ) wi (by unfold signs;rw[List.length_map];show (cd x).length<=1000000;rw[TXM.A2];lia) (KO (Γ:=Γ) (cd x) none hd)
 have t2:BO (BP (AN Cu (AB (AK (Av (Cw (AA 0)) 1 [] (AQ 0) mTT (BE Af Af (mC (.str "0")) (AA 0) (mC (.str "9"))))) AC))) S=some (false,S):=by
  unfold BO BP
  rw[Cf (g:=Cu) (A1 wc) (all_true (n:=0) (cd x))]
  rfl
 have w3:Gr (mOp Al (AA 0) (mC (.str "0"))) (mOp Aj (mOp gIx (AA 0) (mC (.int 0))) (mC (.str "0"))) S=some (.v (.bl true),S):=by
  have e1:mOp Al (AA 0) (mC (.str "0")) S=some (.v (.bl (decide (x="0"))),S):=Aa (x:=.v (.str x)) (y:=.v (.str "0")) (s1:=S) (s2:=S) rfl rfl Hx
  unfold Gr
  rw[e1]
  by_cases c:x="0"
  ·rw[decide_eq_true c]
   rfl
  ·rw[decide_eq_false c]
   show mOp Aj _ _ S=_
   rcases h0 with h0 | ⟨a,r,e,ha⟩
   ·exact absurd h0 c
   ·have e2:mOp gIx (AA 0) (mC (.int 0)) S=some (.v (.str ⟨#[a]⟩),S):=Aa (x:=.v (.str x)) (y:=.v (.int 0)) (s1:=S) (s2:=S) rfl rfl (by
     show (if x.length<=big then (atI x.cps.toList 0).map fun c=>D.str ⟨#[c]⟩ else none)=_
     rw[if_pos (by rw[show big=1000000 from rfl];lia),show x.cps.toList=a::r from e,show (0:Int)=((0:Nat):Int) from rfl,Bo (xs:=a::r) (j:=0) rfl]
     rfl)
    refine Aa e2 (y:=.v (.str "0")) (s2:=S) rfl (str_ne.trans ?_)
    have:(⟨#[a]⟩:Str)≠"0":=fun z=>by
     have:=congrArg cd z
     rw[show cd ("0":Str)=[48] from (FT 0).1] at this
     have:=(List.cons.inj (show [a]=[48] from this)).1
     lia
    rw[decide_eq_false this]
    rfl
 unfold Fh mFn Hr
 show ((AI _ _ S).bind _)=_
 rw[(AX ((BM t1).trans rfl)).trans ((AX ((BM t2).trans rfl)).trans (Bf w3))]
 show some (_,Γ.take Γ.length)=_
 rw[tk]
def HZ:MD:=mFn 1 (GF Fh)
theorem N5:cd ("-":Str)=[45]:=by decide +kernel
theorem Jq {x:Str} {c:Nat} {r:List Nat} (e:cd x=c::r):Txt.startswith x "-"=(c == 45):=by
 have hl:x.length=r.length+1:=by rw[<-TXM.A2,e];rfl
 unfold Txt.startswith
 rw[PySem.StrLaws.subAt_eq]
 show (decide (0+("-":Str).length<=x.length) && (((cd x).drop 0).take ("-":Str).length == cd ("-":Str)))=_
 rw[N5,e,show ("-":Str).length=1 by decide +kernel,decide_eq_true (by lia)]
 show ([c] == [45])=(c == 45)
 simp
theorem Q0 {S:DS} {m:ME} {x:Str} (h:m S=some (.v (.str x),S)):D4 m (mC (.str "-")) S=some (.v (.bl (Txt.startswith x "-")),S):=by
 unfold D4
 rw[h]
 rfl
theorem PB {S:DS} {m:ME} {x:Str} {a:Nat} (h:m S=some (.v (.str x),S)) (hl:x.length<=1000000):mSl m (some (mC (.int (a:Int)))) none S=some (.v (.str (A6 x (some (a:Int)) none)),S):=by
 unfold mSl
 rw[h]
 show ((if x.length<=big then some (D.str (A6 x (some (a:Int)) none)) else none).map _)=_
 rw[if_pos (by rw[show big=1000000 from rfl];exact hl)]
 rfl
theorem V4 {Mf:MD} (F:∀ {x:Str} {Γ:Gm} {n:Nat},(∀ c∈cd x,48<=c/\c<=57)->1<=x.length->x.length<=n->n<=1000->(x="0"\/∃ c r,cd x=c::r/\49<=c)->Mf [.v (.str x),.v (.int (n:Int))] Γ=some (.bl true,Γ)) {k:Int} {Γ:Gm} (h:Ky k):mFn 1 (GF Mf) [.v (.str (AY k))] Γ=some (.bl true,Γ):=by
 have tk:Γ.take Γ.length=Γ:=List.take_length
 have hl:=Cv h
 let S:DS:=⟨[some (.v (.str (AY k)))],Γ,Γ.length⟩
 have ws:=Q0 (S:=S) (m:=AA 0) (x:=AY k) rfl
 unfold mFn GF
 show ((AI _ _ S).bind _)=_
 cases k with
 | ofNat m=>
  have hd:=Em 29 m h
  obtain ⟨c,r,e⟩:∃ c r,dg m=c::r:=by
   cases e:dg m with
   | nil=>rw[e] at hd;exact absurd hd.1 (by decide)
   | cons c r=>exact ⟨c,r,rfl⟩
  have hc:=De (m:=m) (c:=c) (by rw[e];exact List.mem_cons_self)
  have e1:cd (AY (Int.ofNat m))=c::r:=by rw[Ci,e]
  rw[Jq e1,show (c == 45)=false by simp;lia] at ws
  have t1:BP (D4 (AA 0) (mC (.str "-"))) S=some (false,S):=by
   unfold BP
   rw[ws]
   rfl
  have w2:AJ Mf (AB (AA 0) (AB (mC (.int 30)) AC)) S=some (.v (.bl true),S):=B0 (x:=.v (.str (AY (Int.ofNat m)))) (y:=.v (.int 30)) (s1:=S) (s2:=S) rfl rfl (F (n:=30) (fun c hc=>De (m:=m) (by rw[<-Ci];exact hc)) hl.1 (by rw[<-TXM.A2,Ci];lia) (by decide) (by
   by_cases z:m=0
   ·refine .inl (HX ?_)
    rw[Ci,z,En (by decide)]
    exact (FT 0).1.symm
   ·obtain ⟨c',r',e',h'⟩:=Iw m (by lia)
    exact .inr ⟨c',r',by rw[Ci,e'],h'⟩))
  rw[(AX ((BM t1).trans rfl)).trans (Bf w2)]
  show some (_,Γ.take Γ.length)=_
  rw[tk]
 | negSucc m=>
  have hd:=Em 29 (m+1) h
  have e1:=FI m
  rw[Jq e1] at ws
  have t1:BP (D4 (AA 0) (mC (.str "-"))) S=some (true,S):=by
   unfold BP
   rw[ws]
   rfl
  obtain ⟨c',r',e',h'⟩:=Iw (m+1) (by lia)
  have hne:AY (Int.negSucc m)≠"-0":=fun z=>by
   have z:=congrArg cd z
   rw[e1,e',show cd ("-0":Str)=[45,48] by decide +kernel] at z
   have:=(List.cons.inj (List.cons.inj z).2).1
   lia
  have w1:mOp Aj (AA 0) (mC (.str "-0")) S=some (.v (.bl true),S):=Aa (x:=.v (.str (AY (Int.negSucc m)))) (y:=.v (.str "-0")) (s1:=S) (s2:=S) rfl rfl (str_ne.trans (by rw[decide_eq_false hne];rfl))
  have ec:=PH (x:=AY (Int.negSucc m)) (a:=1) hl.1
  rw[e1] at ec
  have ec:cd (A6 (AY (Int.negSucc m)) (some ((1:Nat):Int)) none)=dg (m+1):=ec
  have w2:=PB (S:=S) (m:=AA 0) (x:=AY (Int.negSucc m)) (a:=1) rfl (by lia)
  have w3:AJ Mf (AB (mSl (AA 0) (some (mC (.int 1))) none) (AB (mC (.int 30)) AC)) S=some (.v (.bl true),S):=B0 w2 (y:=.v (.int 30)) (s2:=S) rfl (F (n:=30) (fun c hc=>De (m:=m+1) (by rw[<-ec];exact hc)) (by rw[<-TXM.A2,ec];lia) (by rw[<-TXM.A2,ec];lia) (by decide) (.inr ⟨c',r',by rw[ec,e'],h'⟩))
  have w4:G9 (mOp Aj (AA 0) (mC (.str "-0"))) (AJ Mf (AB (mSl (AA 0) (some (mC (.int 1))) none) (AB (mC (.int 30)) AC))) S=some (.v (.bl true),S):=by
   unfold G9
   rw[w1]
   exact w3
  rw[EC ((CM t1).trans (Bf w4))]
  show some (_,Γ.take Γ.length)=_
  rw[tk]
theorem Oi {k:Int} {Γ:Gm} (h:Ky k):HZ [.v (.str (AY k))] Γ=some (.bl true,Γ):=V4 RH h
def thS (t:Th):Str:=AY t.1++":"++t.2
def Ad (r:List Th):Str:=if r=[] then "-" else Str.join ", " (r.map thS)
def Au (rs:List (List Th)):Str:=Str.join "; " (rs.map Ad)
def Wr (t:Th):Prop:=Ky t.1/\Tg t.2
theorem Pe (t:Th):thS t=Str.join ":" [AY t.1,t.2]:=rfl
theorem Mu:cd (":":Str)=[58]:=by decide +kernel
theorem MW:cd (", ":Str)=[44,32]:=by decide +kernel
theorem R1:cd ("; ":Str)=[59,32]:=by decide +kernel
theorem IU {S:DS} {m:ME} {y:Str} {c:Nat} {r:List Nat} (hy:cd y=c::r) (hk:PySem.Builtin.Str.strKind y=1) {ps:List Str} (hne:ps≠[]) (hf:∀ p∈ps,c∉cd p) (hl:(Str.join y ps).length<=1000000) (hp:ps.length<=1000000) (h:m S=some (.v (.str (Str.join y ps)),S)):CK m (mC (.str y)) S=some (ps.map .str,S):=by
 obtain ⟨e1,e2⟩:=HK hy hk hne hf
 unfold CK
 rw[h]
 show (if (y.length == 0)=false/\(Str.join y ps).length<=big/\_<=big/\(Txt.split (Str.join y ps) y).length<=big then some ((Txt.split (Str.join y ps) y).map D.str,S) else none)=_
 rw[e2,e1,if_pos]
 refine ⟨?_,hl,hp,hp⟩
 rw[<-TXM.A2,hy]
 rfl
theorem Lb {t:Str} (h:Tg t) {c:Nat} (hc:c∈cd t):97<=c/\c<=122:=h.2.2 c hc
theorem KP {t:Th} (h:Wr t) {c:Nat} (hc:c∈cd (thS t)):c=45\/(48<=c/\c<=58)\/(97<=c/\c<=122):=by
 unfold thS at hc
 rw[DM,DM,Mu] at hc
 rcases List.mem_append.mp hc with hc | hc
 ·rcases List.mem_append.mp hc with hc | hc
  ·rcases GT hc with z | z
   ·exact .inl z
   ·exact .inr (.inl ⟨z.1,by lia⟩)
  ·rw[List.mem_singleton] at hc
   exact .inr (.inl (by lia))
 ·exact .inr (.inr (Lb h.2 hc))
theorem GI {t:Th} (h:Wr t):3<=(thS t).length/\(thS t).length<=40:=by
 unfold thS
 have h1:=Cv h.1
 have h2:=h.2.1
 have h3:=h.2.2.1
 rw[Str.length_append,Str.length_append,show (":":Str).length=1 by decide +kernel]
 lia
theorem HR {y:Str}:∀ {ps:List Str} {c:Nat},c∈cd (Str.join y ps)->c∈cd y\/∃ p∈ps,c∈cd p
 | [],c,h=>by
  have h:c∈([]:List Nat):=h
  cases h
 | [p],c,h=>.inr ⟨p,List.mem_cons_self,h⟩
 | p::q::r,c,h=>by
  rw[EM,DM,DM] at h
  rcases List.mem_append.mp h with h | h
  ·rcases List.mem_append.mp h with h | h
   ·exact .inr ⟨p,List.mem_cons_self,h⟩
   ·exact .inl h
  ·rcases HR h with h | ⟨p',hp,h⟩
   ·exact .inl h
   ·exact .inr ⟨p',List.mem_cons_of_mem _ hp,h⟩
theorem On {r:List Th} (h:∀ t∈r,Wr t) {c:Nat} (hc:c∈cd (Ad r)):c=32\/c=44\/c=45\/(48<=c/\c<=58)\/(97<=c/\c<=122):=by
 unfold Ad at hc
 split at hc
 ·rw[N5,List.mem_singleton] at hc
  exact .inr (.inr (.inl hc))
 ·rcases HR hc with hc | ⟨p,hp,hc⟩
  ·rw[MW] at hc
   simp at hc
   lia
  ·obtain ⟨t,ht,rfl⟩:=List.mem_map.mp hp
   have:=KP (h t ht) hc
   lia
theorem JK {y:Str} {B:Nat}:∀ (ps:List Str),(∀ p∈ps,p.length<=B)->(Str.join y ps).length<=ps.length * (B+y.length)
 | [],_=>Nat.zero_le _
 | [p],h=>by
  have:=h p List.mem_cons_self
  show p.length<=_
  simp
  lia
 | p::q::r,h=>by
  have i:=JK (y:=y) (q::r) fun x hx=>h x (List.mem_cons_of_mem _ hx)
  have:=h p List.mem_cons_self
  rw[EM,Str.length_append,Str.length_append,List.length_cons,Nat.succ_mul]
  lia
theorem Hs {r:List Th} (h:∀ t∈r,Wr t) (hl:r.length<=200):(Ad r).length<=8400:=by
 unfold Ad
 split
 ·decide +kernel
 ·have:=JK (y:=", ") (B:=40) (r.map thS) fun p hp=>by
   obtain ⟨t,ht,rfl⟩:=List.mem_map.mp hp
   exact (GI (h t ht)).2
  rw[List.length_map,show (", ":Str).length=2 by decide +kernel] at this
  lia
theorem TU {rs:List (List Th)} (h:∀ r∈rs,r.length<=200/\∀ t∈r,Wr t) (hl:rs.length<=6):(Au rs).length<=60000:=by
 have:=JK (y:="; ") (B:=8400) (rs.map Ad) fun p hp=>by
  obtain ⟨r,hr,rfl⟩:=List.mem_map.mp hp
  exact Hs (h r hr).2 (h r hr).1
 rw[List.length_map,show ("; ":Str).length=2 by decide +kernel] at this
 unfold Au
 lia
def Mrt:MD:=mFn 2 (GU HZ Gg)
theorem E8 {a b:MT} {S S1 S2:DS} (h1:a S=some (false,S1)) (h2:b S1=some (false,S2)):mOr a b S=some (false,S2):=by
 unfold mOr
 rw[h1]
 exact h2
theorem Iv {m:ME} {S S':DS} (h:m S=some (.v (.bl true),S')):BO (BP m) S=some (false,S'):=by
 unfold BO BP
 rw[h]
 rfl
theorem Rm {Mk Mt:MD} (Fk:∀ {k:Int} {Γ:Gm},Ky k->Mk [.v (.str (AY k))] Γ=some (.bl true,Γ)) (Ft:∀ {t:Str} {Γ:Gm},Tg t->Mt [.v (.str t)] Γ=some (.bl true,Γ)) {t:Th} {Γ:Gm} (h:Wr t):mFn 2 (GU Mk Mt) [.v (.str (thS t))] Γ=some (thD t,Γ):=by
 have tk:Γ.take Γ.length=Γ:=List.take_length
 have hl:=GI h
 let X:Option SV:=some (.v (.str (thS t)))
 let S0:DS:=⟨[X,none],Γ,Γ.length⟩
 let P:D:=.lst [.str (AY t.1),.str t.2]
 let S:DS:=⟨[X,some (.v P)],Γ,Γ.length⟩
 have g1:AZ 1 (AK (CK (AA 0) (mC (.str ":")))) S0=some (.nx S):=BL (A1 (IU (S:=S0) (m:=AA 0) (y:=":") (ps:=[AY t.1,t.2]) Mu (by decide +kernel) (fun z=>nomatch z) (fun p hp=>by
  rcases List.mem_cons.mp hp with rfl | hp
  ·intro z
   rcases GT z with z | z<;>lia
  ·rw[List.mem_singleton.mp hp]
   intro z
   have:=Lb h.2 z
   lia) (by rw[<-Pe];lia) (show 2<=1000000 by decide) rfl))
 have i0:mOp gIx (AA 1) (mC (.int 0)) S=some (.v (.str (AY t.1)),S):=Aa (x:=.v P) (y:=.v (.int 0)) (s1:=S) (s2:=S) rfl rfl rfl
 have i1:mOp gIx (AA 1) (mC (.int 1)) S=some (.v (.str t.2),S):=Aa (x:=.v P) (y:=.v (.int 1)) (s1:=S) (s2:=S) rfl rfl rfl
 have wl:AN A9 (AB (AA 1) AC) S=some (.v (.int 2),S):=Cf (x:=.v P) (s':=S) rfl rfl
 have t2:=E8 (BB (Aa (g:=Aj) wl (b:=mC (.int 2)) (y:=.v (.int 2)) (s2:=S) rfl (FV rfl))) (E8 (Iv (Bx (M:=Mk) i0 (Fk h.1))) (Iv (Bx (M:=Mt) i1 (Ft h.2))))
 have hn:=Cv h.1
 have w3:AN EX (AB (mOp gIx (AA 1) (mC (.int 0))) AC) S=some (.v (.int t.1),S):=Cf i0 (by
  show (if (AY t.1).length<=640 then (PySem.intText? (AY t.1)).map D.int else none)=_
  rw[if_pos (by lia),num_reads h.1]
  rfl)
 unfold mFn GU
 show ((AI _ _ S0).bind _)=_
 rw[(AX g1).trans ((AX ((BM t2).trans rfl)).trans (Bf (KC w3 i1)))]
 show some (_,Γ.take Γ.length)=_
 rw[tk]
 rfl
theorem TZ {t:Th} {Γ:Gm} (h:Wr t):Mrt [.v (.str (thS t))] Γ=some (thD t,Γ):=Rm Oi U4 h
def Mrr:MDF:=Ap 1 (Fb Mrt)
theorem LK {Mt:MD} (F:∀ {t:Th} {Γ:Gm},Wr t->Mt [.v (.str (thS t))] Γ=some (thD t,Γ)) {Γ:Gm}:∀ (r:List Th) (v:Option SV),(∀ t∈r,Wr t)->Ag (AQ 0) mTT (AJ Mt (AB (AA 0) AC)) ((r.map thS).map .str) [v] Γ=some (r.map thD,Γ)
 | [],_,_=>rfl
 | t::r,v,h=>by
  have i:=LK F (Γ:=Γ) r (some (.v (.str (thS t)))) fun x hx=>h x (List.mem_cons_of_mem _ hx)
  let T:DS:=⟨[some (.v (.str (thS t)))],Γ,Γ.length⟩
  have w:AJ Mt (AB (AA 0) AC) T=some (.v (thD t),T):=Bx (x:=.v (.str (thS t))) (s':=T) rfl (F (h t List.mem_cons_self))
  rw[List.map_cons,List.map_cons]
  unfold Ag
  rw[show AQ 0 (.str (thS t)) (⟨[v],Γ,Γ.length⟩:DS)=some T from rfl]
  simp only[Option.bind_some,mTT,if_true,w]
  rw[show Ag _ _ _ _ T.σ T.Γ=_ from i,if_pos rfl]
  rfl
theorem Pu {m:MF} {S S':DS} {xs:List D} (h:m S=some (xs,S')):BH (AK m) S=some (xs,S'):=by
 unfold BH
 rw[A1 h]
 rfl
theorem OG {Mt:MD} (F:∀ {t:Th} {Γ:Gm},Wr t->Mt [.v (.str (thS t))] Γ=some (thD t,Γ)) {r:List Th} {Γ:Gm} (h:∀ t∈r,Wr t) (hl:r.length<=200):Ap 1 (Fb Mt) [.v (.str (Ad r))] Γ=some (r.map thD,Γ):=by
 have tk:Γ.take Γ.length=Γ:=List.take_length
 let S:DS:=⟨[some (.v (.str (Ad r)))],Γ,Γ.length⟩
 have t1:AO (mOp Al (AA 0) (mC (.str "-"))) S=some (decide (Ad r="-"),S):=BB (Aa (x:=.v (.str (Ad r))) (y:=.v (.str "-")) (s1:=S) (s2:=S) rfl rfl Hx)
 unfold Ap Fb
 show ((AI _ _ S).bind _)=_
 by_cases c:r=[]
 ·subst c
  have e:Ad []="-":=by unfold Ad;rw[if_pos rfl]
  rw[decide_eq_true e] at t1
  have g:mIf (AO (mOp Al (AA 0) (mC (.str "-")))) (BZ (A3 AC)) Ae S=some (.rf [] S):=(CM t1).trans (by
   unfold BZ
   rw[show A3 AC S=some ([],S) by simp[show (0:Nat)<=big from Nat.zero_le _]]
   rfl)
  unfold AI
  rw[g]
  show some (_,Γ.take Γ.length)=_
  rw[tk]
  rfl
 ·have e:Ad r=Str.join ", " (r.map thS):=by unfold Ad;rw[if_neg c]
  have hne:Ad r≠"-":=fun z=>by
   obtain ⟨t,r',rfl⟩:∃ t r',r=t::r':=by
    cases r with
    | nil=>exact absurd rfl c
    | cons t r'=>exact ⟨t,r',rfl⟩
   have h1:=GI (h t List.mem_cons_self)
   have h2:(thS t).length<=(Str.join ", " ((t::r').map thS)).length:=by
    cases r' with
    | nil=>exact Nat.le_refl _
    | cons q r''=>
     show _<=(Str.join ", " (thS t::thS q::r''.map thS)).length
     rw[EM,Str.length_append,Str.length_append]
     lia
   rw[<-e,z,show ("-":Str).length=1 by decide +kernel] at h2
   lia
  rw[decide_eq_false hne] at t1
  have hlen:=Hs h hl
  have w:=Pu (IU (S:=S) (m:=AA 0) (y:=", ") (ps:=r.map thS) MW (by decide +kernel) (fun z=>c (List.map_eq_nil_iff.mp z)) (fun p hp z=>by
   obtain ⟨t,ht,rfl⟩:=List.mem_map.mp hp
   have:=KP (h t ht) z
   lia) (by rw[<-e];lia) (by rw[List.length_map];lia) (by rw[<-e];rfl))
  have w2:=Bz (nt:=1) (ix:=[]) (g:=AQ 0) (t:=mTT) (e:=AJ Mt (AB (AA 0) AC)) w (by rw[List.length_map,List.length_map,show big=1000000 from rfl];lia) (LK F (Γ:=Γ) r none h)
  rw[(AX ((BM t1).trans rfl))]
  unfold BZ
  rw[w2]
  show some (_,Γ.take Γ.length)=_
  rw[tk]
theorem UJ {r:List Th} {Γ:Gm} (h:∀ t∈r,Wr t) (hl:r.length<=200):Mrr [.v (.str (Ad r))] Γ=some (r.map thD,Γ):=OG TZ h hl
def Mrs:MDF:=Ap 2 (Ga Mrr)
def WrR (rs:List (List Th)):Prop:=1<=rs.length/\rs.length<=6/\∀ r∈rs,r.length<=200/\∀ t∈r,Wr t
theorem isS {S:DS} {m:ME} {x:Str} (h:m S=some (.v (.str x),S)):BO (BP (C7 "str" m)) S=some (false,S):=by
 refine Iv ?_
 unfold C7
 rw[h]
 rfl
theorem NX {rs:List (List Th)} (W:WrR rs) {S:DS} {m:ME} (h:m S=some (.v (.str (Au rs)),S)):CK m (mC (.str "; ")) S=some ((rs.map Ad).map .str,S):=by
 have hl:=TU W.2.2 W.2.1
 have h6:=W.2.1
 exact IU R1 (by decide +kernel) (fun z=>by
  have:=congrArg List.length z
  rw[List.length_map] at this
  have h1:=W.1
  rw[this] at h1
  exact absurd h1 (by decide)) (fun p hp z=>by
  obtain ⟨r,hr,rfl⟩:=List.mem_map.mp hp
  have:=On (W.2.2 r hr).2 z
  lia) (show (Au rs).length<=1000000 by lia) (by rw[List.length_map];lia) h
theorem Lk {Mr:MDF} (F:∀ {r:List Th} {Γ:Gm},(∀ t∈r,Wr t)->r.length<=200->Mr [.v (.str (Ad r))] Γ=some (r.map thD,Γ)) {Γ:Gm}:∀ (rs:List (List Th)) (v:Option SV),(∀ r∈rs,r.length<=200/\∀ t∈r,Wr t)->Ag (AQ 0) mTT (AK (A0 Mr (AB (AA 0) AC))) ((rs.map Ad).map .str) [v] Γ=some (rs.map AL,Γ)
 | [],_,_=>rfl
 | r::rs,v,h=>by
  have i:=Lk F (Γ:=Γ) rs (some (.v (.str (Ad r)))) fun x hx=>h x (List.mem_cons_of_mem _ hx)
  let T:DS:=⟨[some (.v (.str (Ad r)))],Γ,Γ.length⟩
  have hr:=h r List.mem_cons_self
  have w:AK (A0 Mr (AB (AA 0) AC)) T=some (.v (AL r),T):=A1 (Gi (x:=.v (.str (Ad r))) (s':=T) rfl (F hr.2 hr.1))
  rw[List.map_cons,List.map_cons]
  unfold Ag
  rw[show AQ 0 (.str (Ad r)) (⟨[v],Γ,Γ.length⟩:DS)=some T from rfl]
  simp only[Option.bind_some,mTT,if_true,w]
  rw[show Ag _ _ _ _ T.σ T.Γ=_ from i,if_pos rfl]
  rfl
theorem VV {Mr:MDF} (F:∀ {r:List Th} {Γ:Gm},(∀ t∈r,Wr t)->r.length<=200->Mr [.v (.str (Ad r))] Γ=some (r.map thD,Γ)) {rs:List (List Th)} {Γ:Gm} (W:WrR rs):Ap 2 (Ga Mr) [.v (.str (Au rs))] Γ=some (rs.map AL,Γ):=by
 have tk:Γ.take Γ.length=Γ:=List.take_length
 let X:Option SV:=some (.v (.str (Au rs)))
 let S0:DS:=⟨[X,none],Γ,Γ.length⟩
 let P:D:=.lst ((rs.map Ad).map .str)
 let S:DS:=⟨[X,some (.v P)],Γ,Γ.length⟩
 have h6:=W.2.1
 have t1:=isS (S:=S0) (m:=AA 0) (x:=Au rs) rfl
 have g2:AZ 1 (AK (CK (AA 0) (mC (.str "; ")))) S0=some (.nx S):=BL (A1 (NX W (S:=S0) (m:=AA 0) rfl))
 have wl:AN A9 (AB (AA 1) AC) S=some (.v (.int (rs.length:Nat)),S):=Cf (x:=.v P) (s':=S) rfl (by
  show some (D.int (((rs.map Ad).map D.str).length:Nat))=_
  rw[List.length_map,List.length_map])
 have t3:AO (mOp DJ (AN A9 (AB (AA 1) AC)) (mC (.int 6))) S=some (false,S):=BB (Aa wl (y:=.v (.int 6)) (s2:=S) rfl (by
  show some (D.bl (decide ((6:Int)<(rs.length:Nat))))=_
  rw[decide_eq_false (by lia)]))
 have w4:=Bz (mi:=BH (AA 1)) (nt:=1) (ix:=[]) (g:=AQ 0) (t:=mTT) (e:=AK (A0 Mr (AB (AA 0) AC))) (s:=S) (s':=S) (items:=(rs.map Ad).map .str) rfl (by rw[List.length_map,List.length_map,show big=1000000 from rfl];lia) (Lk F (Γ:=Γ) rs none W.2.2)
 unfold Ap Ga
 show ((AI _ _ S0).bind _)=_
 rw[(AX ((BM t1).trans rfl)).trans ((AX g2).trans (AX ((BM t3).trans rfl)))]
 unfold BZ
 rw[w4]
 show some (_,Γ.take Γ.length)=_
 rw[tk]
theorem Ha {rs:List (List Th)} {Γ:Gm} (W:WrR rs):Mrs [.v (.str (Au rs))] Γ=some (rs.map AL,Γ):=VV UJ W
def Mst:MD:=mFn 1 HP
theorem OL {k:Int} (h:Ky k):k.natAbs.log2<1920:=by
 by_cases z:k.natAbs=0
 ·rw[z];decide
 ·have:k.natAbs.log2<128:=by
   rw[Nat.log2_lt z]
   exact Nat.lt_of_lt_of_le h (by decide)
  lia
theorem Ee {S:DS} {m:ME} {k:Int} (hk:Ky k) (h:m S=some (.v (.int k),S)):AN BQ (AB m AC) S=some (.v (.str (AY k)),S):=Cf h (by
 show (if k.natAbs.log2<1920 then some (D.str (AY k)) else none)=_
 rw[if_pos (OL hk)])
theorem C9 {S:DS} {a b:ME} {x y:Str} (h1:a S=some (.v (.str x),S)) (h2:b S=some (.v (.str y),S)) (hl:x.length+y.length<=1000000):mOp AS a b S=some (.v (.str (x++y)),S):=Aa h1 h2 (by
 show (if x.length+y.length<=big then some (D.str (x++y)) else none)=_
 rw[if_pos (by rw[show big=1000000 from rfl];exact hl)])
theorem Vb {t:Th} {Γ:Gm} (h:Wr t):Mst [.v (thD t)] Γ=some (.str (thS t),Γ):=by
 have tk:Γ.take Γ.length=Γ:=List.take_length
 let S:DS:=⟨[some (.v (thD t))],Γ,Γ.length⟩
 have hn:=Cv h.1
 have ht:=h.2.2.1
 have w0:mOp gIx (AA 0) (mC (.int 0)) S=some (.v (.int t.1),S):=Aa (x:=.v (thD t)) (y:=.v (.int 0)) (s1:=S) (s2:=S) rfl rfl rfl
 have w1:mOp gIx (AA 0) (mC (.int 1)) S=some (.v (.str t.2),S):=Aa (x:=.v (thD t)) (y:=.v (.int 1)) (s1:=S) (s2:=S) rfl rfl rfl
 have hc:(":":Str).length=1:=by decide +kernel
 have w2:=C9 (S:=S) (Ee h.1 w0) (b:=mC (.str ":")) (y:=":") rfl (by lia)
 have w3:=C9 w2 w1 (by rw[Str.length_append];lia)
 unfold Mst mFn HP
 show ((Ac _ S).bind _)=_
 rw[Bf w3]
 show some (_,Γ.take Γ.length)=_
 rw[tk]
 rfl
theorem FJ {S:DS} {m:ME} {y:Str} {ps:List Str} {B:Nat} (h:m S=some (.v (.lst (ps.map .str)),S)) (hB:∀ p∈ps,p.length<=B) (hz:ps.length * B+ps.length * y.length<=1000000):DK (mC (.str y)) m S=some (.v (.str (Str.join y ps)),S):=by
 unfold DK
 show ((m S).bind _)=_
 rw[h]
 show ((strsOf (ps.map D.str)).bind fun xs=>if JoinOk y xs=true then some (SV.v (D.str (Txt.join y xs)),S) else none)=_
 rw[HY,Option.bind_some,if_pos]
 ·rw[show Txt.join y ps=Str.join y ps from PySem.StrLaws.glued_eq_join y ps]
 ·unfold JoinOk
  rw[PySem.StrLaws.joinFits hB (by lia)]
  rfl
def Msr:MD:=mFn 1 (HF Mst)
theorem Mw {Mt:MD} (F:∀ {t:Th} {Γ:Gm},Wr t->Mt [.v (thD t)] Γ=some (.str (thS t),Γ)) {Γ:Gm}:∀ (r:List Th) (v:Option SV),(∀ t∈r,Wr t)->Ag (AQ 0) mTT (AJ Mt (AB (AA 0) AC)) (r.map thD) [v] Γ=some ((r.map thS).map .str,Γ)
 | [],_,_=>rfl
 | t::r,v,h=>by
  have i:=Mw F (Γ:=Γ) r (some (.v (thD t))) fun x hx=>h x (List.mem_cons_of_mem _ hx)
  let T:DS:=⟨[some (.v (thD t))],Γ,Γ.length⟩
  have w:AJ Mt (AB (AA 0) AC) T=some (.v (.str (thS t)),T):=Bx (x:=.v (thD t)) (s':=T) rfl (F (h t List.mem_cons_self))
  rw[List.map_cons]
  unfold Ag
  rw[show AQ 0 (thD t) (⟨[v],Γ,Γ.length⟩:DS)=some T from rfl]
  simp only[Option.bind_some,mTT,if_true,w]
  rw[show Ag _ _ _ _ T.σ T.Γ=_ from i,if_pos rfl]
  rfl
theorem U9 {Mt:MD} (F:∀ {t:Th} {Γ:Gm},Wr t->Mt [.v (thD t)] Γ=some (.str (thS t),Γ)) {r:List Th} {Γ:Gm} (h:∀ t∈r,Wr t) (hl:r.length<=200):mFn 1 (HF Mt) [.v (AL r)] Γ=some (.str (Ad r),Γ):=by
 have tk:Γ.take Γ.length=Γ:=List.take_length
 let S:DS:=⟨[some (.v (AL r))],Γ,Γ.length⟩
 unfold mFn HF
 show ((AI _ _ S).bind _)=_
 cases r with
 | nil=>
  have t1:BO (BP (AA 0)) S=some (true,S):=rfl
  have e:Ad []="-":=by unfold Ad;rw[if_pos rfl]
  rw[EC ((CM t1).trans (Bf (m:=mC (.str "-")) (d:=.str "-") (s':=S) rfl)),e]
  show some (_,Γ.take Γ.length)=_
  rw[tk]
 | cons t r'=>
  have t1:BO (BP (AA 0)) S=some (false,S):=rfl
  have w:=A1 (Bz (mi:=BH (AA 0)) (nt:=1) (ix:=[]) (s:=S) (s':=S) (items:=(t::r').map thD) (Γ':=Γ) rfl (by rw[List.length_map,show big=1000000 from rfl];lia) (Mw F (Γ:=Γ) (t::r') none h))
  have w2:=FJ (y:=", ") (B:=40) w (fun p hp=>by
   obtain ⟨t',ht',rfl⟩:=List.mem_map.mp hp
   exact (GI (h t' ht')).2) (by rw[List.length_map,show (", ":Str).length=2 by decide +kernel];lia)
  have e:Ad (t::r')=Str.join ", " ((t::r').map thS):=by unfold Ad;rw[if_neg (fun z=>nomatch z)]
  rw[(AX ((BM t1).trans rfl)).trans (Bf w2),e]
  show some (_,Γ.take Γ.length)=_
  rw[tk]
theorem Ts {r:List Th} {Γ:Gm} (h:∀ t∈r,Wr t) (hl:r.length<=200):Msr [.v (AL r)] Γ=some (.str (Ad r),Γ):=U9 Vb h hl
theorem L7 {Mr:MD} (F:∀ {r:List Th} {Γ:Gm},(∀ t∈r,Wr t)->r.length<=200->Mr [.v (AL r)] Γ=some (.str (Ad r),Γ)) {Γ:Gm}:∀ (rs:List (List Th)) (v:Option SV),(∀ r∈rs,r.length<=200/\∀ t∈r,Wr t)->Ag (AQ 0) mTT (AJ Mr (AB (AA 0) AC)) (rs.map AL) [v] Γ=some ((rs.map Ad).map .str,Γ)
 | [],_,_=>rfl
 | r::rs,v,h=>by
  have i:=L7 F (Γ:=Γ) rs (some (.v (AL r))) fun x hx=>h x (List.mem_cons_of_mem _ hx)
  let T:DS:=⟨[some (.v (AL r))],Γ,Γ.length⟩
  have hr:=h r List.mem_cons_self
  have w:AJ Mr (AB (AA 0) AC) T=some (.v (.str (Ad r)),T):=Bx (x:=.v (AL r)) (s':=T) rfl (F hr.2 hr.1)
  rw[List.map_cons]
  unfold Ag
  rw[show AQ 0 (AL r) (⟨[v],Γ,Γ.length⟩:DS)=some T from rfl]
  simp only[Option.bind_some,mTT,if_true,w]
  rw[show Ag _ _ _ _ T.σ T.Γ=_ from i,if_pos rfl]
  rfl
theorem UF {Mr:MD} (F:∀ {r:List Th} {Γ:Gm},(∀ t∈r,Wr t)->r.length<=200->Mr [.v (AL r)] Γ=some (.str (Ad r),Γ)) {rs:List (List Th)} {Γ:Gm} (W:WrR rs):mFn 1 (Ac (DK (mC (.str "; ")) (AK (Av (BH (AA 0)) 1 [] (AQ 0) mTT (AJ Mr (AB (AA 0) AC)))))) [.v (AM rs)] Γ=some (.str (Au rs),Γ):=by
 have tk:Γ.take Γ.length=Γ:=List.take_length
 have h6:=W.2.1
 let S:DS:=⟨[some (.v (AM rs))],Γ,Γ.length⟩
 have w:=A1 (Bz (mi:=BH (AA 0)) (nt:=1) (ix:=[]) (s:=S) (s':=S) (items:=rs.map AL) (Γ':=Γ) rfl (by rw[List.length_map,show big=1000000 from rfl];lia) (L7 F (Γ:=Γ) rs none W.2.2))
 have w2:=FJ (y:="; ") (B:=8400) w (fun p hp=>by
  obtain ⟨r,hr,rfl⟩:=List.mem_map.mp hp
  exact Hs (W.2.2 r hr).2 (W.2.2 r hr).1) (by rw[List.length_map,show ("; ":Str).length=2 by decide +kernel];lia)
 unfold mFn
 show ((Ac _ S).bind _)=_
 rw[Bf w2]
 show some (_,Γ.take Γ.length)=_
 rw[tk]
 rfl
def Mss:MD:=mFn 1 (MR Msr)
theorem SH {rs:List (List Th)} {Γ:Gm} (W:WrR rs):Mss [.v (AM rs)] Γ=some (.str (Au rs),Γ):=UF Ts W
theorem Bt:big=1000000:=rfl
abbrev DkL (l:List Int):Prop:=∀ x∈l,0<=x/\x<2 ^ 30
def Dk (Γ:Gm) (n:Nat):Prop:=∃ l:List Int,Γ[n]?=some (some (l.map .int))/\DkL l
def Dd (n:Nat) (Γ Γ':Gm):Prop:=∃ l:List Int,Γ'=Γ.set n (some (l.map .int))/\DkL l
theorem Dk.lt {Γ:Gm} {n:Nat} (h:Dk Γ n):n<Γ.length:=by
 obtain ⟨l,e,_⟩:=h
 exact (List.getElem?_eq_some_iff.mp e).1
theorem Dd.dk {Γ Γ':Gm} {n:Nat} (p:Dk Γ n) (h:Dd n Γ Γ'):Dk Γ' n:=by
 obtain ⟨l,rfl,hl⟩:=h
 exact ⟨l,by rw[List.getElem?_set_self p.lt],hl⟩
theorem Dd.trans {Γ Γ' Γ'':Gm} {n:Nat} (a:Dd n Γ Γ') (b:Dd n Γ' Γ''):Dd n Γ Γ'':=by
 obtain ⟨l,rfl,_⟩:=a
 obtain ⟨l',rfl,h⟩:=b
 exact ⟨l',by rw[List.set_set],h⟩
theorem Dd.refl {Γ:Gm} {n:Nat} (p:Dk Γ n):Dd n Γ Γ:=by
 obtain ⟨l,e,hl⟩:=p
 refine ⟨l,?_,hl⟩
 obtain ⟨h,e⟩:=List.getElem?_eq_some_iff.mp e
 rw[<-e,List.set_getElem_self]
theorem Dd.len {Γ Γ':Gm} {n:Nat} (a:Dd n Γ Γ'):Γ'.length=Γ.length:=by
 obtain ⟨l,rfl,_⟩:=a
 rw[List.length_set]
theorem Dd.out {Γ Γ':Gm} {n m:Nat} (a:Dd n Γ Γ') (h:m≠n):Γ'[m]?=Γ[m]?:=by
 obtain ⟨l,rfl,_⟩:=a
 rw[List.getElem?_set_ne (Ne.symm h)]
def Dt:MD:=mFn 2 G8
theorem Qh {Γ:Gm} {ns:List Int} {k:Nat}:∃ c:Int,Dt [.v (.scr ns),.v (.int k)] Γ=some (.int c,Γ):=by
 have tk:Γ.take Γ.length=Γ:=List.take_length
 by_cases h:k<ns.length
 ·have e:atI ns (k:Int)=some ns[k]:=Bo (List.getElem?_eq_getElem h)
  exact ⟨ns[k],by simp[Dt,G8,h,e,tk]⟩
 ·exact ⟨0,by simp[Dt,G8,h,tk]⟩
def Bb:MD:=mFn 2 FP
theorem B5 {Γ:Gm} {n:Nat} {m:Int} (p:Dk Γ n) (hm:0<m):∃ r Γ',Bb [.b n,.v (.int m)] Γ=some (.int r,Γ')/\0<=r/\r<m/\Dd n Γ Γ':=by
 have hn:=p.lt
 have p':=p
 obtain ⟨l,e,hl⟩:=p
 have b0:(0:Nat)<=big:=Nat.zero_le _
 have bm:∀ x:Int,Ie x m=true:=fun x=>decide_eq_true hm
 have tk:Γ.take Γ.length=Γ:=List.take_length
 rcases List.eq_nil_or_concat l with rfl | ⟨l',x,rfl⟩
 ·refine ⟨0,Γ,?_,by decide,hm,Dd.refl p'⟩
  simp[Bb,FP,e,b0,tk]
 ·rw[List.concat_eq_append] at e hl
  refine ⟨x % m,Γ.set n (some (l'.map .int)),?_,Int.emod_nonneg _ (by lia),Int.emod_lt_of_pos _ hm,l',rfl,fun y hy=>hl y (by simp[hy])⟩
  have tk2:(Γ.set n (some (l'.map .int))).take Γ.length=Γ.set n (some (l'.map .int)):=List.take_of_length_le (by rw[List.length_set];exact Nat.le_refl _)
  rw[List.map_append] at e
  have e':Γ[n]?=some (some (l'.map .int++[.int x])):=e
  have ne:l'.map D.int++[D.int x]≠[]:=by simp
  simp[Bb,FP,e',b0,tk2,bm]
theorem IC {i n:Nat} {me:ME} {s s':DS} {d:D} {xs ys:List D} (h1:s.σ[i]?=some (some (.b n))) (h2:s.Γ[n]?=some (some ys)) (h3:me s=some (.v d,s')) (h4:s'.Γ[n]?=some (some xs)) (hl:xs.length<big):Cb (Dp (AA i) me) s=some (.nx {s' with Γ:=s'.Γ.set n (some (xs++[d]))}):=by
 unfold Cb Dp AA
 rw[h1]
 simp only[Option.bind_some]
 rw[h2]
 simp only[]
 rw[h3]
 simp only[Option.bind_some]
 rw[h4]
 simp only[]
 rw[if_pos hl]
 rfl
theorem Dq {mi:MF} {g:MG} {b:MS} {s s':DS} {items:List D} {o:Option Out} (h:mi s=some (items,s')) (e:Cr g b items s'=o):CN mi g b s=o:=by
 unfold CN
 rw[h]
 exact e
theorem Qr {c:ME} {s s':DS} {j:Int} (h:c s=some (.v (.int j),s')) (hr:okR j=true):Bm (AB c AC) s=some (upTo 0 j.toNat,s'):=by simp[h,hr]
theorem Ef {c:ME} {s s':DS} {p:Nat} (h:c s=some (.v (.int p),s')) (hb:p<=1000000):Bm (AB c AC) s=some (upTo 0 p,s'):=Qr h (Lx (by lia) (by lia))
theorem Bv {a:ME} {S S':DS} {i m:Int} (h:a S=some (.v (.int i),S')) (hm:0<m):mOp Ax a (mC (.int m)) S=some (.v (.int (i % m)),S'):=Aa h (y:=.v (.int m)) (s2:=S') rfl (by simp[show Ie i m=true from decide_eq_true hm])
theorem EE {a:ME} {S S':DS} {i m:Int} (h:a S=some (.v (.int i),S')) (hm:0<m) (h2:m<1000000):mOp Bl a (mC (.int m)) S=some (.v (.int (i / m)),S'):=Aa h (y:=.v (.int m)) (s2:=S') rfl (by simp[show NQ i m=true from decide_eq_true ⟨hm,by lia⟩])
theorem DC {a b:ME} {S S1 S2:DS} {i j:Int} (h:a S=some (.v (.int i),S1)) (h2:b S1=some (.v (.int j),S2)) (hj:(-1000000000000<i/\i<1000000000000)\/(-1000000000000<j/\j<1000000000000)):mOp BY a b S=some (.v (.int (i * j)),S2):=Aa h h2 (by
 simp[show Ht i j=true from decide_eq_true (by
  rcases hj with hj | hj
  ·exact .inl ⟨by lia,by lia⟩
  ·exact .inr ⟨by lia,by lia⟩)])
theorem CB {a b:ME} {S S1 S2:DS} {i j:Int} (h:a S=some (.v (.int i),S1)) (h2:b S1=some (.v (.int j),S2)):mOp AS a b S=some (.v (.int (i+j)),S2):=Aa h h2 rfl
theorem FD {a b:ME} {S S1 S2:DS} {i j:Int} (h:a S=some (.v (.int i),S1)) (h2:b S1=some (.v (.int j),S2)):mOp Dn a b S=some (.v (.int (i - j)),S2):=Aa h h2 rfl
def GH:MDF:=Ap 7 IK
theorem TH {Γ:Gm} {c:Int} {m:Nat} (hm:m<=1000):∃ l:List Int,GH [.v (.int c),.v (.int (m:Int))] Γ=some (l.map .int,Γ)/\DkL l:=by
 let A:Option SV:=some (.v (.int c))
 let B:Option SV:=some (.v (.int (m:Int)))
 let S0:DS:=⟨[A,B,none,none,none,none,none],Γ,Γ.length⟩
 let S:List Int->Int->Int->Option SV->Option SV->DS:=fun l r t u v=>⟨[A,B,some (.b Γ.length),some (.v (.int r)),some (.v (.int t)),u,v],Γ++[some (l.map .int)],Γ.length⟩
 have g1:CV 2 (A3 AC) S0=some (.nx ⟨[A,B,some (.b Γ.length),none,none,none,none],Γ++[some []],Γ.length⟩):=by simp[S0,show (0:Nat)<=big from Nat.zero_le _]
 have g2:AZ 3 (AA 0) (⟨[A,B,some (.b Γ.length),none,none,none,none],Γ++[some []],Γ.length⟩:DS)=some (.nx ⟨[A,B,some (.b Γ.length),A,none,none,none],Γ++[some []],Γ.length⟩):=rfl
 have g3:AZ 4 (mOp Ax (AA 0) (mC (.int 2147483647))) (⟨[A,B,some (.b Γ.length),A,none,none,none],Γ++[some []],Γ.length⟩:DS)=some (.nx (S [] c (c % 2147483647) none none)):=BL (Bv (S':=⟨[A,B,some (.b Γ.length),A,none,none,none],Γ++[some []],Γ.length⟩) (i:=c) rfl (by decide))
 have t0:=Int.emod_nonneg c (show (2147483647:Int)≠0 by decide)
 have t1:=Int.emod_lt_of_pos c (show (0:Int)<2147483647 by decide)
 obtain ⟨s',e4,l,r,t,u,v,rfl,hl,hlen,_,_⟩:=EW (g:=AQ 5) (b:=K5) (items:=upTo 0 m) (fun i s=>∃ l r t u v,s=S l r t u v/\DkL l/\l.length=i/\0<=t/\t<2147483647) (by
   rintro i d st hd ⟨l,r,t,u,v,rfl,hl,hlen,ht0,ht1⟩
   obtain ⟨hi,rfl⟩:=Dv hd
   have hb:(l.map D.int).length<big:=by rw[List.length_map,hlen,Bt];lia
   let T:DS:=S l r t (some (.v (.int (0+(i:Int))))) v
   have wp:mOp Cs (mC (.int 10)) (mC (.int 18)) T=some (.v (.int 1000000000000000000),T):=Aa (x:=.v (.int 10)) (y:=.v (.int 18)) (s1:=T) (s2:=T) rfl rfl (by simp[show Gb 10 18=true from rfl])
   have wc:AO (mOp EK (AA 0) (mOp Cs (mC (.int 10)) (mC (.int 18)))) T=some (decide (1000000000000000000<=c),T):=BB (Aa (x:=.v (.int c)) (s1:=T) rfl wp rfl)
   have wr:AO (mOp DJ (AA 3) (mC (.int 0))) T=some (decide (0<r),T):=BB (Aa (x:=.v (.int r)) (y:=.v (.int 0)) (s1:=T) (s2:=T) rfl rfl rfl)
   have wt:DB (AO (mOp EK (AA 0) (mOp Cs (mC (.int 10)) (mC (.int 18))))) (AO (mOp DJ (AA 3) (mC (.int 0)))) T=some (decide (1000000000000000000<=c) && decide (0<r),T):=by
    unfold DB
    rw[wc]
    by_cases z:(1000000000000000000:Int)<=c
    ·rw[decide_eq_true z,Option.bind_some,if_pos rfl,wr,Bool.true_and]
    ·rw[decide_eq_false z]
     rfl
   cases hz:(decide (1000000000000000000<=c) && decide (0<r)) with
   | true=>
    rw[hz] at wt
    have q1:=IC (i:=2) (n:=Γ.length) (s:=T) (s':=T) rfl CS (Bv (S:=T) (S':=T) (a:=AA 3) (i:=r) rfl (show (0:Int)<64 by decide)) CS hb
    let T2:DS:=⟨T.σ,(T.Γ).set Γ.length (some (l.map D.int++[D.int (r % 64)])),T.lo⟩
    have q2:=BL (i:=3) (EE (S:=T2) (S':=T2) (a:=AA 3) (i:=r) rfl (show (0:Int)<64 by decide) (by decide))
    have h0:=Int.emod_nonneg r (show (64:Int)≠0 by decide)
    have h1:=Int.emod_lt_of_pos r (show (0:Int)<64 by decide)
    refine ⟨T,_,rfl,(CM wt).trans ((AX q1).trans q2),l++[r % 64],r / 64,t,some (.v (.int (0+(i:Int)))),v,?_,fun x hx=>?_,by rw[List.length_append,hlen];rfl,ht0,ht1⟩
    ·show (⟨_,(Γ++[_]).set Γ.length _,_⟩:DS)=_
     rw[Ek]
     simp only[S,List.map_append]
     rfl
    ·rcases List.mem_append.mp hx with hx | hx
     ·exact hl x hx
     ·rw[List.mem_singleton.mp hx]
      exact ⟨h0,by lia⟩
   | false=>
    rw[hz] at wt
    let i':Int:=0+(i:Int)
    have w1:=DC (S:=T) (a:=mC (.int 7)) (b:=AA 5) (i:=7) (j:=i') (S1:=T) (S2:=T) rfl rfl (.inl ⟨by decide,by decide⟩)
    have w2:=CB (a:=AA 4) (i:=t) (S:=T) (S1:=T) rfl w1
    have w3:=CB (b:=mC (.int 3)) (j:=3) w2 (S2:=T) rfl
    have w4:=DC (b:=mC (.int 48271)) (j:=48271) w3 (S2:=T) rfl (.inr ⟨by decide,by decide⟩)
    have w5:=Bv w4 (show (0:Int)<2147483647 by decide)
    let t':Int:=(t+7 * i'+3) * 48271 % 2147483647
    have a0:0<=t':=Int.emod_nonneg _ (by decide)
    have a1:t'<2147483647:=Int.emod_lt_of_pos _ (by decide)
    let T2:DS:=S l r t' (some (.v (.int i'))) v
    have q1:AZ 4 (mOp Ax (mOp BY (mOp AS (mOp AS (AA 4) (mOp BY (mC (.int 7)) (AA 5))) (mC (.int 3))) (mC (.int 48271))) (mC (.int 2147483647))) T=some (.nx T2):=BL w5
    have x1:=DC (S:=T2) (a:=AA 4) (b:=AA 4) (i:=t') (j:=t') (S1:=T2) (S2:=T2) rfl rfl (.inl ⟨by lia,by lia⟩)
    have x2:=Bv x1 (show (0:Int)<2147483629 by decide)
    have x3:=DC (b:=mC (.int 69621)) (j:=69621) x2 (S2:=T2) rfl (.inr ⟨by decide,by decide⟩)
    have x4:=Bv x3 (show (0:Int)<2147483587 by decide)
    let g:Int:=t' * t' % 2147483629 * 69621 % 2147483587
    let T3:DS:=S l r t' (some (.v (.int i'))) (some (.v (.int g)))
    have q2:AZ 6 (mOp Ax (mOp BY (mOp Ax (mOp BY (AA 4) (AA 4)) (mC (.int 2147483629))) (mC (.int 69621))) (mC (.int 2147483587))) T2=some (.nx T3):=BL x4
    have y1:=EE (S:=T3) (S':=T3) (a:=AA 6) (i:=g) rfl (show (0:Int)<8 by decide) (by decide)
    have y2:=Bv y1 (show (0:Int)<720720 by decide)
    have q3:=IC (i:=2) (n:=Γ.length) (s:=T3) (s':=T3) rfl CS y2 CS hb
    have h0:=Int.emod_nonneg (g / 8) (show (720720:Int)≠0 by decide)
    have h1:=Int.emod_lt_of_pos (g / 8) (show (0:Int)<720720 by decide)
    refine ⟨T,_,rfl,(BM wt).trans ((AX q1).trans ((AX q2).trans q3)),l++[g / 8 % 720720],r,t',some (.v (.int i')),some (.v (.int g)),?_,fun x hx=>?_,by rw[List.length_append,hlen];rfl,a0,a1⟩
    ·show (⟨_,(Γ++[_]).set Γ.length _,_⟩:DS)=_
     rw[Ek]
     simp only[S,List.map_append]
     rfl
    ·rcases List.mem_append.mp hx with hx | hx
     ·exact hl x hx
     ·rw[List.mem_singleton.mp hx]
      exact ⟨h0,by lia⟩)
  (s:=S [] c (c % 2147483647) none none) ⟨[],c,_,none,none,rfl,(fun x h=>nomatch h),rfl,t0,t1⟩
 have g4:=Dq (mi:=Bm (AB (AA 1) AC)) (s:=S [] c (c % 2147483647) none none) (s':=S [] c (c % 2147483647) none none) (Ef (c:=AA 1) (p:=m) rfl (by lia)) e4
 refine ⟨l,?_,hl⟩
 unfold GH Ap IK
 show ((AI _ _ S0).bind _)=_
 rw[(AX g1).trans ((AX g2).trans ((AX g3).trans (AX g4)))]
 simp[S]
def FU:MDF:=Ap 2 (G6 GH)
theorem So {Mn:MDF} (F:∀ {Γ:Gm} {c:Int} {m:Nat},m<=1000->∃ l:List Int,Mn [.v (.int c),.v (.int (m:Int))] Γ=some (l.map .int,Γ)/\DkL l) {Γ:Gm} {c:Int} {m:Nat} (hm:m<=1000):∃ l:List Int,Ap 2 (G6 Mn) [.v (.int c),.v (.int (m:Int))] Γ=some (l.map .int,Γ)/\DkL l:=by
 obtain ⟨l,e,hl⟩:=F (Γ:=Γ) (c:=c) hm
 refine ⟨l.reverse,?_,fun x hx=>hl x (List.mem_reverse.mp hx)⟩
 have tk:Γ.take Γ.length=Γ:=List.take_length
 let S:DS:=⟨[some (.v (.int c)),some (.v (.int (m:Int)))],Γ,Γ.length⟩
 have w:A0 Mn (AB (AA 0) (AB (AA 1) AC)) S=some (l.map .int,S):=by
  unfold A0 AB AC
  show ((Mn [.v (.int c),.v (.int (m:Int))] Γ).map _)=_
  rw[e]
  rfl
 unfold Ap G6
 show ((BZ _ S).bind _)=_
 have w2:Fp (AK (A0 Mn (AB (AA 0) (AB (AA 1) AC)))) S=some ((l.map D.int).reverse,S):=by
  unfold Fp
  rw[A1 w]
  rfl
 unfold BZ
 rw[w2,List.map_reverse]
 show some (_,Γ.take Γ.length)=_
 rw[tk]
theorem Oz {Γ:Gm} {c:Int} {m:Nat} (hm:m<=1000):∃ l:List Int,FU [.v (.int c),.v (.int (m:Int))] Γ=some (l.map .int,Γ)/\DkL l:=So TH hm
theorem Dd.app {n:Nat} {G G2:Gm} {x:Option (List D)} (hn:n<G.length) (h:Dd n (G++[x]) G2):∃ G',G2=G'++[x]/\Dd n G G':=by
 obtain ⟨l,rfl,hl⟩:=h
 exact ⟨G.set n (some (l.map .int)),by rw[List.set_append_left _ _ hn],l,rfl,hl⟩
theorem Dk.app {n:Nat} {G:Gm} {x:Option (List D)} (h:Dk G n):Dk (G++[x]) n:=by
 have hn:=h.lt
 obtain ⟨l,e,hl⟩:=h
 exact ⟨l,by rw[List.getElem?_append_left hn];exact e,hl⟩
theorem CL {m:ME} {ms:MA} {S S1 S2:DS} {x:SV} {xs:List SV} (h:m S=some (x,S1)) (h2:ms S1=some (xs,S2)):AB m ms S=some (x::xs,S2):=by
 unfold AB;rw[h];show ((ms S1).map _)=_;rw[h2];rfl
theorem KY:∀ ds:List D,trees (ds.map .v)=some ds
 | []=>rfl
 | d::ds=>by
  show (trees (ds.map .v)).map _=_
  rw[KY ds]
  rfl
theorem IF {ms:MA} {S S':DS} {ds:List D} (h:ms S=some (ds.map .v,S')) (hl:ds.length<=1000):A3 ms S=some (ds,S'):=by
 unfold A3
 rw[h]
 show ((trees (ds.map .v)).bind _)=_
 rw[KY]
 show (if _ then _ else _)=_
 rw[if_pos (by rw[Bt];lia)]
def Mlk:MD:=mFn 4 (Ge Bb)
def Kz (k:Int):Prop:=k.natAbs+1<10 ^ 30
theorem Kz.ky {k:Int} (h:Kz k):Ky k:=Nat.lt_of_succ_lt h
theorem Jd {k:Int} (h1:-1000000<k) (h2:k<1000000):Kz k:=by
 unfold Kz
 have:k.natAbs+1<1000002:=by lia
 exact Nat.lt_trans this (by decide)
theorem V5 {Mt:MD} (F:∀ {Γ:Gm} {n:Nat} {m:Int},Dk Γ n->0<m->∃ r Γ',Mt [.b n,.v (.int m)] Γ=some (.int r,Γ')/\0<=r/\r<m/\Dd n Γ Γ') {Γ:Gm} {n:Nat} (p:Dk Γ n):∃ k Γ',mFn 4 (Ge Mt) [.b n] Γ=some (.int k,Γ')/\Kz k/\Dd n Γ Γ':=by
 obtain ⟨w,G1,f1,w0,w1,d1⟩:=F (m:=8) p (by decide)
 obtain ⟨u,G2,f2,u0,u1,d2⟩:=F (m:=64) (d1.dk p) (by decide)
 have dd:=d1.trans d2
 have tk:G2.take Γ.length=G2:=List.take_of_length_le (by rw[dd.len];exact Nat.le_refl _)
 let S:Gm->Option SV->Option SV->Option SV->DS:=fun G a b c=>⟨[some (.b n),a,b,c],G,Γ.length⟩
 have g1:AZ 1 (AJ Mt (AB (AA 0) (AB (mC (.int 8)) AC))) (S Γ none none none)=some (.nx (S G1 (some (.v (.int w))) none none)):=BL (B0 (x:=.b n) (y:=.v (.int 8)) (s1:=S Γ none none none) (s2:=S Γ none none none) rfl rfl f1)
 have g2:AZ 2 (AJ Mt (AB (AA 0) (AB (mC (.int 64)) AC))) (S G1 (some (.v (.int w))) none none)=some (.nx (S G2 (some (.v (.int w))) (some (.v (.int u))) none)):=BL (B0 (x:=.b n) (y:=.v (.int 64)) (s1:=S G1 (some (.v (.int w))) none none) (s2:=S G1 (some (.v (.int w))) none none) rfl rfl f2)
 let T:DS:=S G2 (some (.v (.int w))) (some (.v (.int u))) none
 have t3:AO (mOp DD (AA 1) (mC (.int 4))) T=some (decide (w<4),T):=BB (Aa (x:=.v (.int w)) (y:=.v (.int 4)) (s1:=T) (s2:=T) rfl rfl rfl)
 have t4:AO (mOp Al (AA 1) (mC (.int 4))) T=some (decide (w=4),T):=BB (Aa (x:=.v (.int w)) (y:=.v (.int 4)) (s1:=T) (s2:=T) rfl rfl rfl)
 have t5:AO (mOp Al (AA 1) (mC (.int 5))) T=some (decide (w=5),T):=BB (Aa (x:=.v (.int w)) (y:=.v (.int 5)) (s1:=T) (s2:=T) rfl rfl rfl)
 have wm:=Bv (S:=T) (S':=T) (a:=AA 2) (i:=u) rfl (show (0:Int)<6 by decide)
 have m0:=Int.emod_nonneg u (show (6:Int)≠0 by decide)
 have m1:=Int.emod_lt_of_pos u (show (0:Int)<6 by decide)
 unfold mFn Ge
 show ∃ k Γ',((AI _ _ (S Γ none none none)).bind _)=_/\_
 rw[(AX g1).trans (AX g2)]
 by_cases c3:w<4
 ·rw[decide_eq_true c3] at t3
  refine ⟨u % 6,G2,?_,Jd (by lia) (by lia),dd⟩
  rw[EC ((CM t3).trans (Bf wm))]
  show some (_,G2.take Γ.length)=_
  rw[tk]
 rw[decide_eq_false c3] at t3
 rw[AX ((BM t3).trans (show Ae T=some (.nx T) from rfl))]
 by_cases c4:w=4
 ·rw[decide_eq_true c4] at t4
  refine ⟨0 - u % 6,G2,?_,Jd (by lia) (by lia),dd⟩
  rw[EC ((CM t4).trans (Bf (FD (a:=mC (.int 0)) (i:=0) (S:=T) (S1:=T) rfl wm)))]
  show some (_,G2.take Γ.length)=_
  rw[tk]
 rw[decide_eq_false c4] at t4
 rw[AX ((BM t4).trans (show Ae T=some (.nx T) from rfl))]
 by_cases c5:w=5
 ·rw[decide_eq_true c5] at t5
  refine ⟨u * 1009 - 30000,G2,?_,Jd (by lia) (by lia),dd⟩
  rw[EC ((CM t5).trans (Bf (FD (b:=mC (.int 30000)) (j:=30000) (DC (a:=AA 2) (b:=mC (.int 1009)) (i:=u) (j:=1009) (S:=T) (S1:=T) (S2:=T) rfl rfl (.inr ⟨by decide,by decide⟩)) (S2:=T) rfl)))]
  show some (_,G2.take Γ.length)=_
  rw[tk]
 rw[decide_eq_false c5] at t5
 rw[AX ((BM t5).trans (show Ae T=some (.nx T) from rfl))]
 have n0:=Int.emod_nonneg u (show (9:Int)≠0 by decide)
 have n1:=Int.emod_lt_of_pos u (show (0:Int)<9 by decide)
 have wp:mOp Cs (mC (.int 10)) (mC (.int 29)) T=some (.v (.int (10 ^ 29)),T):=Aa (x:=.v (.int 10)) (y:=.v (.int 29)) (s1:=T) (s2:=T) rfl rfl (by simp[show Gb 10 29=true from rfl])
 have wq:=Bv (S:=T) (S':=T) (a:=AA 2) (i:=u) rfl (show (0:Int)<9 by decide)
 have w6:=CB (a:=mC (.int 1)) (i:=1) (S:=T) (S1:=T) rfl wq
 have w7:=DC wp w6 (.inr ⟨by lia,by lia⟩)
 have w8:=DC (a:=AA 2) (b:=mC (.int 7919)) (i:=u) (j:=7919) (S:=T) (S1:=T) (S2:=T) rfl rfl (.inr ⟨by decide,by decide⟩)
 have w9:=CB w7 w8
 let far:Int:=10 ^ 29 * (1+u % 9)+u * 7919
 let T2:DS:=S G2 (some (.v (.int w))) (some (.v (.int u))) (some (.v (.int far)))
 have g6:AZ 3 (mOp AS (mOp BY (mOp Cs (mC (.int 10)) (mC (.int 29))) (mOp AS (mC (.int 1)) (mOp Ax (AA 2) (mC (.int 9))))) (mOp BY (AA 2) (mC (.int 7919)))) T=some (.nx T2):=BL w9
 have e29:(10:Int) ^ 29=100000000000000000000000000000:=by decide
 have f0:0<=far:=by show 0<=(10:Int) ^ 29 * (1+u % 9)+u * 7919;rw[e29];lia
 have f1':far<999999999999999999999999999999:=by show (10:Int) ^ 29 * (1+u % 9)+u * 7919<_;rw[e29];lia
 have hky:Kz far/\Kz (0 - far):=by
  have e30:(10:Nat) ^ 30=1000000000000000000000000000000:=by decide
  unfold Kz
  rw[e30]
  constructor<;>lia
 have wf:AK (A3 (AB (AA 3) (AB (mOp Dn (mC (.int 0)) (AA 3)) AC))) T2=some (.v (.lst [.int far,.int (0 - far)]),T2):=by
  have hs:=FD (a:=mC (.int 0)) (b:=AA 3) (i:=0) (j:=far) (S:=T2) (S1:=T2) (S2:=T2) rfl rfl
  exact A1 (IF (ds:=[.int far,.int (0 - far)]) (CL (x:=.v (.int far)) (S1:=T2) rfl (CL (ms:=AC) (xs:=[]) hs rfl)) (show 2<=1000 by decide))
 have wi:=FD (a:=AA 1) (b:=mC (.int 6)) (i:=w) (j:=6) (S:=T2) (S1:=T2) (S2:=T2) rfl rfl
 have hw:w=6\/w=7:=by lia
 rw[AX g6]
 rcases hw with rfl | rfl
 ·refine ⟨far,G2,?_,hky.1,dd⟩
  rw[Bf (Aa (g:=gIx) wf wi (z:=.int far) rfl)]
  show some (_,G2.take Γ.length)=_
  rw[tk]
 ·refine ⟨0 - far,G2,?_,hky.2,dd⟩
  rw[Bf (Aa (g:=gIx) wf wi (z:=.int (0 - far)) rfl)]
  show some (_,G2.take Γ.length)=_
  rw[tk]
theorem Kh {Γ:Gm} {n:Nat} (p:Dk Γ n):∃ k Γ',Mlk [.b n] Γ=some (.int k,Γ')/\Kz k/\Dd n Γ Γ':=V5 B5 p
theorem join_ones:∀ (cs:List Nat),cd (Str.join "" (cs.map fun c=>(⟨#[c]⟩:Str)))=cs
 | []=>rfl
 | [c]=>rfl
 | c::d::r=>by
  have i:=join_ones (d::r)
  show cd (Str.join "" ((⟨#[c]⟩:Str)::(⟨#[d]⟩:Str)::r.map _))=_
  rw[EM,DM,DM,show cd ("":Str)=[] by decide +kernel,show Str.join "" ((⟨#[d]⟩:Str)::r.map fun c=>(⟨#[c]⟩:Str))=Str.join "" ((d::r).map fun c=>(⟨#[c]⟩:Str)) from rfl,i]
  rfl
theorem Pa:∀ c∈("abcdefghijklmnopqrstuvwxyz":Str).cps.toList,97<=c/\c<=122:=by decide +kernel
def Mlt:MD:=mFn 4 (Fo Bb)
theorem QB {Mt:MD} (F:∀ {Γ:Gm} {n:Nat} {m:Int},Dk Γ n->0<m->∃ r Γ',Mt [.b n,.v (.int m)] Γ=some (.int r,Γ')/\0<=r/\r<m/\Dd n Γ Γ') {Γ:Gm} {n:Nat} (p:Dk Γ n):∃ t Γ',mFn 4 (Fo Mt) [.b n] Γ=some (.str t,Γ')/\Tg t/\Dd n Γ Γ':=by
 obtain ⟨u,G1,f1,u0,u1,dd⟩:=F (m:=720720) p (by decide)
 have tk:G1.take Γ.length=G1:=List.take_of_length_le (by rw[dd.len];exact Nat.le_refl _)
 let S:Gm->Option SV->Option SV->Option SV->DS:=fun G a b c=>⟨[some (.b n),a,b,c],G,Γ.length⟩
 have g1:AZ 1 (AJ Mt (AB (AA 0) (AB (mC (.int 720720)) AC))) (S Γ none none none)=some (.nx (S G1 (some (.v (.int u))) none none)):=BL (B0 (x:=.b n) (y:=.v (.int 720720)) (s1:=S Γ none none none) (s2:=S Γ none none none) rfl rfl f1)
 let T:DS:=S G1 (some (.v (.int u))) none none
 have t2:AO (mOp Al (mOp Ax (AA 1) (mC (.int 2))) (mC (.int 0))) T=some (decide (u % 2=0),T):=BB (Aa (Bv (S:=T) (S':=T) (a:=AA 1) (i:=u) rfl (show (0:Int)<2 by decide)) (y:=.v (.int 0)) (s2:=T) rfl rfl)
 unfold mFn Fo
 show ∃ t Γ',((AI _ _ (S Γ none none none)).bind _)=_/\_
 rw[AX g1]
 by_cases c2:u % 2=0
 ·rw[decide_eq_true c2] at t2
  have wi:=Bv (EE (S:=T) (S':=T) (a:=AA 1) (i:=u) rfl (show (0:Int)<2 by decide) (by decide)) (show (0:Int)<5 by decide)
  have n0:=Int.emod_nonneg (u / 2) (show (5:Int)≠0 by decide)
  have n1:=Int.emod_lt_of_pos (u / 2) (show (0:Int)<5 by decide)
  have wl:AK (A3 (AB (mC (.str "a")) (AB (mC (.str "b")) (AB (mC (.str "ab")) (AB (mC (.str "zzzzzzzz")) (AB (mC (.str "x")) AC)))))) T=some (.v (.lst [.str "a",.str "b",.str "ab",.str "zzzzzzzz",.str "x"]),T):=rfl
  have hT:∀ t∈(["a","b","ab","zzzzzzzz","x"]:List Str),Tg t:=by
   intro t ht
   simp only[List.mem_cons,List.not_mem_nil,or_false] at ht
   rcases ht with rfl | rfl | rfl | rfl | rfl<;>exact ⟨by decide +kernel,by decide +kernel,by decide +kernel⟩
  obtain ⟨j,hj⟩:∃ j:Nat,u / 2 % 5=(j:Int):=⟨(u / 2 % 5).toNat,by lia⟩
  obtain ⟨t,ht⟩:∃ t,(["a","b","ab","zzzzzzzz","x"]:List Str)[j]?=some t:=⟨_,List.getElem?_eq_getElem (show j<5 by lia)⟩
  refine ⟨t,G1,?_,hT t (List.mem_of_getElem? ht),dd⟩
  rw[EC ((CM t2).trans (Bf (Aa (g:=gIx) wl wi (z:=.str t) (by
   rw[hj]
   show atI ((["a","b","ab","zzzzzzzz","x"]:List Str).map D.str) (j:Int)=_
   exact Jl ht))))]
  show some (_,G1.take Γ.length)=_
  rw[tk]
 rw[decide_eq_false c2] at t2
 rw[AX ((BM t2).trans (show Ae T=some (.nx T) from rfl))]
 let L:Option SV:=some (.v (.str "abcdefghijklmnopqrstuvwxyz"))
 have g3:AZ 2 (mC (.str "abcdefghijklmnopqrstuvwxyz")) T=some (.nx (S G1 (some (.v (.int u))) L none)):=rfl
 have n0:=Int.emod_nonneg (u / 4) (show (8:Int)≠0 by decide)
 have n1:=Int.emod_lt_of_pos (u / 4) (show (0:Int)<8 by decide)
 obtain ⟨z,hz⟩:∃ z:Nat,1+u / 4 % 8=(z:Int):=⟨(1+u / 4 % 8).toNat,by lia⟩
 let T3:DS:=S G1 (some (.v (.int u))) L none
 let T4:DS:=S G1 (some (.v (.int u))) L (some (.v (.int (z:Int))))
 have g4:AZ 3 (mOp AS (mC (.int 1)) (mOp Ax (mOp Bl (AA 1) (mC (.int 4))) (mC (.int 8)))) T3=some (.nx T4):=(BL (CB (a:=mC (.int 1)) (i:=1) (S:=T3) (S1:=T3) rfl (Bv (EE (S:=T3) (S':=T3) (a:=AA 1) (i:=u) rfl (show (0:Int)<4 by decide) (by decide)) (show (0:Int)<8 by decide)))).trans (by rw[hz];rfl)
 have hr:=Ef (c:=AA 3) (s:=T4) (s':=T4) (p:=z) rfl (by lia)
 obtain ⟨ys,τ',G',e,v,cs,hτ,hG,rfl,hl,hc⟩:=GB (g:=AQ 0) (t:=mTT) (e:=mOp gIx (AA 1) (mOp Ax (mOp AS (mOp Bl (AA 2) (mC (.int 2))) (mOp BY (AA 0) (mOp AS (mOp Bl (AA 2) (mC (.int 16))) (AA 0)))) (mC (.int 26)))) (items:=upTo 0 z) (fun i acc τ G'=>∃ (v:Option SV) (cs:List Nat),τ=[v,L,some (.v (.int u))]/\G'=G1/\acc=cs.map (fun c=>D.str ⟨#[c]⟩)/\cs.length=i/\∀ c∈cs,97<=c/\c<=122) (by
   rintro i d acc τ G hd ⟨v,cs,rfl,hG,rfl,hl,hc⟩
   obtain ⟨hi,rfl⟩:=Dv hd
   let Z:DS:=⟨[some (.v (.int (0+(i:Int)))),L,some (.v (.int u))],G,G.length⟩
   have a1:=EE (S:=Z) (S':=Z) (a:=AA 2) (i:=u) rfl (show (0:Int)<2 by decide) (by decide)
   have a2:=EE (S:=Z) (S':=Z) (a:=AA 2) (i:=u) rfl (show (0:Int)<16 by decide) (by decide)
   have a3:=CB a2 (b:=AA 0) (j:=0+(i:Int)) (S2:=Z) rfl
   have a4:=DC (a:=AA 0) (i:=0+(i:Int)) (S:=Z) (S1:=Z) rfl a3 (.inl ⟨by lia,by lia⟩)
   have a5:=Bv (CB a1 a4) (show (0:Int)<26 by decide)
   let q:Int:=(u / 2+(0+(i:Int)) * (u / 16+(0+(i:Int)))) % 26
   have q0:0<=q:=Int.emod_nonneg _ (by decide)
   have q1:q<26:=Int.emod_lt_of_pos _ (by decide)
   obtain ⟨c,hc1,hc2⟩:=Vf (xs:=("abcdefghijklmnopqrstuvwxyz":Str).cps.toList) q0 (by rw[Ra];exact q1)
   have a6:mOp gIx (AA 1) (mOp Ax (mOp AS (mOp Bl (AA 2) (mC (.int 2))) (mOp BY (AA 0) (mOp AS (mOp Bl (AA 2) (mC (.int 16))) (AA 0)))) (mC (.int 26))) Z=some (.v (.str ⟨#[c]⟩),Z):=Aa (x:=.v (.str "abcdefghijklmnopqrstuvwxyz")) (s1:=Z) rfl a5 (by
    show (if ("abcdefghijklmnopqrstuvwxyz":Str).length<=big then (atI ("abcdefghijklmnopqrstuvwxyz":Str).cps.toList q).map fun c=>D.str ⟨#[c]⟩ else none)=_
    rw[if_pos Ol,hc1]
    rfl)
   refine ⟨Z,(true,Z),rfl,rfl,.inl ⟨rfl,_,Z,a6,rfl,_,cs++[c],rfl,hG,by rw[List.map_append];rfl,by rw[List.length_append,hl];rfl,fun y hy=>?_⟩⟩
   rcases List.mem_append.mp hy with hy | hy
   ·exact hc y hy
   ·rw[List.mem_singleton.mp hy]
    exact Pa c hc2)
  (τ:=[none,L,some (.v (.int u))]) (Γ:=G1) ⟨none,[],rfl,rfl,rfl,rfl,fun c h=>nomatch h⟩
 rw[Cq] at hl
 rw[hG] at e
 have w5:=A1 (Bz (nt:=1) (ix:=[2,1]) hr (by rw[Cq,Bt];lia) e)
 have es:(cs.map fun c=>D.str ⟨#[c]⟩)=(cs.map fun c=>(⟨#[c]⟩:Str)).map .str:=by rw[List.map_map];rfl
 rw[es] at w5
 have w6:=FJ (y:="") (B:=1) w5 (fun p hp=>by
  obtain ⟨c,_,rfl⟩:=List.mem_map.mp hp
  exact Nat.le_refl _) (by rw[List.length_map,show ("":Str).length=0 by decide +kernel];lia)
 have ej:=join_ones cs
 refine ⟨Str.join "" (cs.map fun c=>(⟨#[c]⟩:Str)),G1,?_,⟨?_,?_,?_⟩,dd⟩
 ·rw[(AX g3).trans ((AX g4).trans (Bf w6))]
  show some (_,G1.take Γ.length)=_
  rw[tk]
 ·rw[<-TXM.A2,ej];lia
 ·rw[<-TXM.A2,ej];lia
 ·intro c hc'
  have:c∈cd (Str.join "" (cs.map fun c=>(⟨#[c]⟩:Str))):=hc'
  rw[ej] at this
  exact hc c this
theorem Vj {Γ:Gm} {n:Nat} (p:Dk Γ n):∃ t Γ',Mlt [.b n] Γ=some (.str t,Γ')/\Tg t/\Dd n Γ Γ':=QB B5 p
def Wz (t:Th):Prop:=Kz t.1/\Tg t.2
theorem Wz.wr {t:Th} (h:Wz t):Wr t:=⟨h.1.ky,h.2⟩
theorem Tt (ns:List Int):intsOf (ns.map .int)=some ns:=by
 induction ns with
 | nil=>rfl
 | cons n ns ih=>show (intsOf (ns.map .int)).map _=_;rw[ih];rfl
theorem Ph {Γ:Gm} {ns:List Int}:Bn Γ [.v (.lst (ns.map .int))]=some ((sortI ns).map .int):=by
 have e:CU Γ [.v (.lst (ns.map .int))]=some ((sortI ns).map .int):=by
  unfold CU
  simp[Tt]
 unfold Bn
 rw[e]
structure FR (Mt Mk Ml:MD):Prop where
 take:∀ {Γ:Gm} {n:Nat} {m:Int},Dk Γ n->0<m->∃ r Γ',Mt [.b n,.v (.int m)] Γ=some (.int r,Γ')/\0<=r/\r<m/\Dd n Γ Γ'
 key:∀ {Γ:Gm} {n:Nat},Dk Γ n->∃ k Γ',Mk [.b n] Γ=some (.int k,Γ')/\Kz k/\Dd n Γ Γ'
 tag:∀ {Γ:Gm} {n:Nat},Dk Γ n->∃ t Γ',Ml [.b n] Γ=some (.str t,Γ')/\Tg t/\Dd n Γ Γ'
section
variable {Mt Mk Ml:MD} (F:FR Mt Mk Ml)
include F
theorem P0 {n k m lo:Nat} {v3 v4 v5 v6:Option SV} {R:List (List Th)} {G:Gm} (hk:k=G.length) (d:Dk G n) (h3:3<=m) (hm:m<=100) (hR:R.length<=100) :
  ∃ (row:List Th) (v4' v5' v6':Option SV) (G':Gm),FH Mt Mk Ml ⟨[some (.b n),some (.v (.int (m:Int))),some (.b k),v3,v4,v5,v6],G++[some (R.map AL)],lo⟩ =
   some (.nx ⟨[some (.b n),some (.v (.int (m:Int))),some (.b k),v3,v4',v5',v6'],G'++[some ((R++[row]).map AL)],lo⟩)/\row.length<=m/\(∀ t∈row,Wz t)/\Dd n G G':=by
 subst hk
 have hn:=d.lt
 let X:Option (List D):=some (R.map AL)
 let S:Gm->Option SV->Option SV->Option SV->DS:=fun G' a b c=>⟨[some (.b n),some (.v (.int (m:Int))),some (.b G.length),v3,a,b,c],G'++[X],lo⟩
 obtain ⟨q,G1',f1,q0,q1,dd1'⟩:=F.take (m:=4) (d.app (x:=X)) (by decide)
 obtain ⟨G1,rfl,dd1⟩:=dd1'.app hn
 have d1:=dd1.dk d
 have hn1:=d1.lt
 have wq:AJ Mt (AB (AA 0) (AB (mC (.int 4)) AC)) (S G v4 v5 v6)=some (.v (.int q),S G1 v4 v5 v6):=B0 (x:=.b n) (y:=.v (.int 4)) (s1:=S G v4 v5 v6) (s2:=S G v4 v5 v6) rfl rfl f1
 have wl:AK (A3 (AB (mC (.int 1)) (AB (mOp AS (AA 1) (mC (.int 1))) (AB (mC (.int 4)) (AB (mOp AS (AA 1) (mC (.int 1))) AC))))) (S G v4 v5 v6)=some (.v (.lst [.int 1,.int ((m:Int)+1),.int 4,.int ((m:Int)+1)]),S G v4 v5 v6):=rfl
 obtain ⟨b,hb,b1,b2⟩:∃ b:Int,atI ([.int 1,.int ((m:Int)+1),.int 4,.int ((m:Int)+1)]:List D) q=some (.int b)/\0<b/\b<=(m:Int)+1:=by
  have hq:q=0\/q=1\/q=2\/q=3:=by lia
  rcases hq with rfl | rfl | rfl | rfl
  ·exact ⟨1,rfl,by decide,by lia⟩
  ·exact ⟨(m:Int)+1,rfl,by lia,by lia⟩
  ·exact ⟨4,rfl,by decide,by lia⟩
  ·exact ⟨(m:Int)+1,rfl,by lia,by lia⟩
 have wb:mOp gIx (AK (A3 (AB (mC (.int 1)) (AB (mOp AS (AA 1) (mC (.int 1))) (AB (mC (.int 4)) (AB (mOp AS (AA 1) (mC (.int 1))) AC)))))) (AJ Mt (AB (AA 0) (AB (mC (.int 4)) AC))) (S G v4 v5 v6)=some (.v (.int b),S G1 v4 v5 v6):=Aa wl wq hb
 obtain ⟨y,G2',f2,y0,y1,dd2'⟩:=F.take (m:=b) (d1.app (x:=X)) b1
 obtain ⟨G2,rfl,dd2⟩:=dd2'.app hn1
 have d2:=dd2.dk d1
 have hn2:=d2.lt
 obtain ⟨z,rfl⟩:∃ z:Nat,y=(z:Int):=⟨y.toNat,by lia⟩
 let Z:Option SV:=some (.v (.int (z:Int)))
 have g1:AZ 4 (AJ Mt (AB (AA 0) (AB (mOp gIx (AK (A3 (AB (mC (.int 1)) (AB (mOp AS (AA 1) (mC (.int 1))) (AB (mC (.int 4)) (AB (mOp AS (AA 1) (mC (.int 1))) AC)))))) (AJ Mt (AB (AA 0) (AB (mC (.int 4)) AC)))) AC))) (S G v4 v5 v6)=some (.nx (S G2 Z v5 v6)):=BL (B0 (x:=.b n) (s1:=S G v4 v5 v6) rfl wb f2)
 have hr:=Ef (c:=AA 4) (s:=S G2 Z v5 v6) (s':=S G2 Z v5 v6) (p:=z) rfl (by lia)
 obtain ⟨ys,τ',G3',e3,v,ks,hτ,rfl,hks,hky,G3,hG3,dd3⟩:=GB (g:=AQ 0) (t:=mTT) (e:=AJ Mk (AB (AA 1) AC)) (items:=upTo 0 z) (fun i acc τ H=>∃ (v:Option SV) (ks:List Int),τ=[v,some (.b n)]/\acc=ks.map D.int/\ks.length=i/\(∀ k∈ks,Kz k)/\∃ H',H=H'++[X]/\Dd n G2 H') (by
   rintro i x acc τ H hd ⟨v,ks,rfl,rfl,hl,hk,H',rfl,dh⟩
   obtain ⟨hi,rfl⟩:=Dv hd
   have dh':=dh.dk d2
   obtain ⟨k,H2',f,hky,ddk'⟩:=F.key (dh'.app (x:=X))
   obtain ⟨H2,rfl,ddk⟩:=ddk'.app dh'.lt
   let Q:DS:=⟨[some (.v (.int (0+(i:Int)))),some (.b n)],H'++[X],(H'++[X]).length⟩
   refine ⟨Q,(true,Q),rfl,rfl,.inl ⟨rfl,.int k,{Q with Γ:=H2++[X]},Bx (x:=.b n) (s':=Q) rfl f,?_,_,ks++[k],rfl,by rw[List.map_append];rfl,by rw[List.length_append,hl];rfl,fun a ha=>?_,H2,rfl,dh.trans ddk⟩⟩
   ·show (H2++[X]).length=(H'++[X]).length
    rw[List.length_append,List.length_append,ddk.len]
   ·rcases List.mem_append.mp ha with ha | ha
    ·exact hk a ha
    ·rw[List.mem_singleton.mp ha];exact hky)
  (τ:=[none,some (.b n)]) (Γ:=G2++[X]) ⟨none,[],rfl,rfl,rfl,(fun k h=>nomatch h),G2,rfl,Dd.refl d2⟩
 rw[Cq] at hks
 subst hG3
 have d3:=dd3.dk d2
 have hn3:=d3.lt
 let KS:List Int->Option SV:=fun l=>some (.v (.lst (l.map .int)))
 have g2:AZ 5 (AK (Av (Bm (AB (AA 4) AC)) 1 [0] (AQ 0) mTT (AJ Mk (AB (AA 1) AC)))) (S G2 Z v5 v6)=some (.nx (S G3 Z (KS ks) v6)):=BL (A1 (Bz (nt:=1) (ix:=[0]) hr (by rw[Cq,Bt];lia) e3))
 obtain ⟨w,G4',f4,w0,w1,dd4'⟩:=F.take (m:=4) (d3.app (x:=X)) (by decide)
 obtain ⟨G4,rfl,dd4⟩:=dd4'.app hn3
 have d4:=dd4.dk d3
 let W:Option SV:=some (.v (.int w))
 have g3:AZ 6 (AJ Mt (AB (AA 0) (AB (mC (.int 4)) AC))) (S G3 Z (KS ks) v6)=some (.nx (S G4 Z (KS ks) W)):=BL (B0 (x:=.b n) (y:=.v (.int 4)) (s1:=S G3 Z (KS ks) v6) (s2:=S G3 Z (KS ks) v6) rfl rfl f4)
 obtain ⟨ks4,g4,hl4,hk4⟩:∃ ks4:List Int,mIf (AO (mOp Al (AA 6) (mC (.int 1)))) (AZ 5 (AK (Bw Bn (AB (AA 5) AC)))) Ae (S G4 Z (KS ks) W)=some (.nx (S G4 Z (KS ks4) W))/\ks4.length=z/\∀ k∈ks4,Kz k:=by
  let T:DS:=S G4 Z (KS ks) W
  have t:AO (mOp Al (AA 6) (mC (.int 1))) T=some (decide (w=1),T):=BB (Aa (x:=.v (.int w)) (y:=.v (.int 1)) (s1:=T) (s2:=T) rfl rfl rfl)
  by_cases c:w=1
  ·rw[decide_eq_true c] at t
   have ws:Bw Bn (AB (AA 5) AC) T=some ((sortI ks).map .int,T):=by
    unfold Bw AB AC
    show ((Bn T.Γ [.v (.lst (ks.map .int))]).map _)=_
    rw[Ph]
    rfl
   exact ⟨sortI ks,(CM t).trans (BL (A1 ws)),by rw[(sortI_perm ks).length_eq,hks],fun k hk=>hky k ((sortI_perm ks).mem_iff.mp hk)⟩
  ·rw[decide_eq_false c] at t
   exact ⟨ks,(BM t).trans rfl,hks,hky⟩
 obtain ⟨ks5,g5,hl5,hk5⟩:∃ ks5:List Int,mIf (AO (mOp Al (AA 6) (mC (.int 2)))) (AZ 5 (AK (C1 Dw (mSl (AA 5) none (some (mC (.int 1)))) (AA 4)))) Ae (S G4 Z (KS ks4) W)=some (.nx (S G4 Z (KS ks5) W))/\ks5.length<=m/\∀ k∈ks5,Kz k:=by
  let T:DS:=S G4 Z (KS ks4) W
  have t:AO (mOp Al (AA 6) (mC (.int 2))) T=some (decide (w=2),T):=BB (Aa (x:=.v (.int w)) (y:=.v (.int 2)) (s1:=T) (s2:=T) rfl rfl rfl)
  by_cases c:w=2
  ·rw[decide_eq_true c] at t
   have hc1:(FX ks4 none (some ((1:Nat):Int)))=ks4.take 1:=by
    unfold FX
    rw[HT.N7,HT.Rw,List.drop_zero,Nat.sub_zero]
    cases ks4 with
    | nil=>rfl
    | cons a r=>rw[List.length_cons,Nat.min_eq_left (by lia)]
   have wsl:mSl (AA 5) none (some (mC (.int 1))) T=some (.v (.lst ((ks4.take 1).map .int)),T):=by
    show some (SV.v (D.lst (cutD (ks4.map D.int) none (some ((1:Nat):Int)))),T)=_
    rw[Re,hc1]
   have hlt:(ks4.take 1).length<=1:=by rw[List.length_take];lia
   have wr:C1 Dw (mSl (AA 5) none (some (mC (.int 1)))) (AA 4) T=some (((List.replicate z (ks4.take 1)).flatten).map .int,T):=Vo wsl (y:=.v (.int (z:Int))) (s2:=T) rfl (by
    show (if (z:Int)<=100000/\-100000<=(z:Int)/\((ks4.take 1).map D.int).length * ((z:Int)).toNat<=big then some (List.replicate ((z:Int)).toNat ((ks4.take 1).map D.int)).flatten else none)=_
    rw[if_pos ⟨by lia,by lia,by
     rw[Int.toNat_natCast,Bt,List.length_map]
     have:(ks4.take 1).length * z<=1 * z:=Nat.mul_le_mul_right z hlt
     lia⟩,Int.toNat_natCast,List.map_flatten,List.map_replicate])
   refine ⟨(List.replicate z (ks4.take 1)).flatten,(CM t).trans (BL (A1 wr)),?_,fun k hk=>?_⟩
   ·rw[List.length_flatten,List.map_replicate,List.sum_replicate_nat]
    have:z * (ks4.take 1).length<=z * 1:=Nat.mul_le_mul_left z hlt
    lia
   ·obtain ⟨l,hl,hkl⟩:=List.mem_flatten.mp hk
    rw[(List.mem_replicate.mp hl).2] at hkl
    exact hk4 k (List.mem_of_mem_take hkl)
  ·rw[decide_eq_false c] at t
   exact ⟨ks4,(BM t).trans rfl,by lia,hk4⟩
 let T:DS:=S G4 Z (KS ks5) W
 obtain ⟨ys,τ',G5',e6,v,row,hτ,rfl,hrl,hrw,G5,hG5,dd5⟩:=GB (g:=AQ 0) (t:=mTT) (e:=CJ (AB (AA 0) (AB (AJ Ml (AB (AA 1) AC)) AC))) (items:=ks5.map D.int) (fun i acc τ H=>∃ (v:Option SV) (row:List Th),τ=[v,some (.b n)]/\acc=row.map thD/\row.length=i/\(∀ t∈row,Wz t)/\∃ H',H=H'++[X]/\Dd n G4 H') (by
   rintro i x acc τ H hd ⟨v,row,rfl,rfl,hl,hw,H',rfl,dh⟩
   obtain ⟨k,hk,rfl⟩:=IT hd
   have dh':=dh.dk d4
   obtain ⟨t,H2',f,htg,ddk'⟩:=F.tag (dh'.app (x:=X))
   obtain ⟨H2,rfl,ddk⟩:=ddk'.app dh'.lt
   let Q:DS:=⟨[some (.v (.int k)),some (.b n)],H'++[X],(H'++[X]).length⟩
   refine ⟨Q,(true,Q),rfl,rfl,.inl ⟨rfl,thD (k,t),{Q with Γ:=H2++[X]},KC (x:=.int k) (s1:=Q) rfl (Bx (x:=.b n) (s':=Q) rfl f),?_,_,row++[(k,t)],rfl,by rw[List.map_append];rfl,by rw[List.length_append,hl];rfl,fun a ha=>?_,H2,rfl,dh.trans ddk⟩⟩
   ·show (H2++[X]).length=(H'++[X]).length
    rw[List.length_append,List.length_append,ddk.len]
   ·rcases List.mem_append.mp ha with ha | ha
    ·exact hw a ha
    ·rw[List.mem_singleton.mp ha];exact ⟨hk5 k (List.mem_of_getElem? hk),htg⟩)
  (τ:=[none,some (.b n)]) (Γ:=G4++[X]) ⟨none,[],rfl,rfl,rfl,(fun k h=>nomatch h),G4,rfl,Dd.refl d4⟩
 rw[List.length_map] at hrl
 subst hG5
 have wrow:=A1 (Bz (mi:=BH (AA 5)) (nt:=1) (ix:=[0]) (s:=T) (s':=T) (items:=ks5.map D.int) (g:=AQ 0) (t:=mTT) (e:=CJ (AB (AA 0) (AB (AJ Ml (AB (AA 1) AC)) AC))) rfl (by rw[List.length_map,Bt];lia) e6)
 have l1:G1.length=G.length:=dd1.len
 have l2:G2.length=G1.length:=dd2.len
 have l3:G3.length=G2.length:=dd3.len
 have l4:G4.length=G3.length:=dd4.len
 have l5:G5.length=G4.length:=dd5.len
 have hg4:(G4++[X])[G.length]?=some X:=by rw[<-l1,<-l2,<-l3,<-l4];exact CS
 have hg5:(G5++[X])[G.length]?=some X:=by rw[<-l1,<-l2,<-l3,<-l4,<-l5];exact CS
 have g6:=IC (i:=2) (n:=G.length) (s:=T) rfl hg4 wrow hg5 (by rw[List.length_map,Bt];lia)
 refine ⟨row,Z,KS ks5,W,G5,?_,by lia,hrw,(((dd1.trans dd2).trans dd3).trans dd4).trans dd5⟩
 unfold FH
 rw[(AX g1).trans ((AX g2).trans ((AX g3).trans ((AX g4).trans ((AX g5).trans g6))))]
 show some (Out.nx ⟨_,(G5++[X]).set G.length _,_⟩)=_
 have es:∀ Y,(G5++[X]).set G.length Y=G5++[Y]:=fun Y=>by rw[<-l1,<-l2,<-l3,<-l4,<-l5];exact Ek
 rw[es,List.map_append]
 rfl
theorem N8 {n m:Nat} {G:Gm} (d:Dk G n) (h3:3<=m) (hm:m<=100):∃ (rs:List (List Th)) (G':Gm),Ap 7 (FL Mt Mk Ml) [.b n,.v (.int (m:Int))] G=some (rs.map AL,G')/\1<=rs.length/\rs.length<=6/\(∀ r∈rs,r.length<=m/\∀ t∈r,Wz t)/\Dd n G G':=by
 let M:Option SV:=some (.v (.int (m:Int)))
 let S0:DS:=⟨[some (.b n),M,none,none,none,none,none],G,G.length⟩
 have g1:CV 2 (A3 AC) S0=some (.nx ⟨[some (.b n),M,some (.b G.length),none,none,none,none],G++[some []],G.length⟩):=by simp[S0,show (0:Nat)<=big from Nat.zero_le _]
 let S1:DS:=⟨[some (.b n),M,some (.b G.length),none,none,none,none],G++[some []],G.length⟩
 obtain ⟨q,G1',f1,q0,q1,dd1'⟩:=F.take (m:=6) (d.app (x:=some [])) (by decide)
 obtain ⟨G1,rfl,dd1⟩:=dd1'.app d.lt
 have d1:=dd1.dk d
 let S2:DS:=⟨[some (.b n),M,some (.b G.length),none,none,none,none],G1++[some []],G.length⟩
 obtain ⟨p,hp⟩:∃ p:Nat,1+q=(p:Int):=⟨(1+q).toNat,by lia⟩
 have wq:mOp AS (mC (.int 1)) (AJ Mt (AB (AA 0) (AB (mC (.int 6)) AC))) S1=some (.v (.int (p:Int)),S2):=by
  rw[<-hp]
  exact CB (a:=mC (.int 1)) (i:=1) (S:=S1) (S1:=S1) rfl (B0 (x:=.b n) (y:=.v (.int 6)) (s1:=S1) (s2:=S1) rfl rfl f1)
 have hr:=Ef (c:=mOp AS (mC (.int 1)) (AJ Mt (AB (AA 0) (AB (mC (.int 6)) AC)))) wq (by lia)
 obtain ⟨st,e2,R,v3,v4,v5,v6,H,rfl,hR,hw,dd⟩:=EW (g:=AQ 3) (b:=FH Mt Mk Ml) (items:=upTo 0 p) (fun i st=>∃ (R:List (List Th)) (v3 v4 v5 v6:Option SV) (H:Gm),st=⟨[some (.b n),M,some (.b G.length),v3,v4,v5,v6],H++[some (R.map AL)],G.length⟩/\R.length=i/\(∀ r∈R,r.length<=m/\∀ t∈r,Wz t)/\Dd n G H) (by
   rintro i x st hd ⟨R,v3,v4,v5,v6,H,rfl,hR,hw,dd⟩
   obtain ⟨hi,rfl⟩:=Dv hd
   obtain ⟨row,v4',v5',v6',H',e,hl,hwr,ddr⟩:=P0 F (n:=n) (k:=G.length) (m:=m) (lo:=G.length) (v3:=some (.v (.int (0+(i:Int))))) (v4:=v4) (v5:=v5) (v6:=v6) (R:=R) (G:=H) (by rw[dd.len]) (dd.dk d) h3 hm (by lia)
   refine ⟨_,_,rfl,e,R++[row],_,_,_,_,H',rfl,by rw[List.length_append,hR];rfl,fun r hr=>?_,dd.trans ddr⟩
   rcases List.mem_append.mp hr with hr | hr
   ·exact hw r hr
   ·rw[List.mem_singleton.mp hr];exact ⟨hl,hwr⟩)
  (s:=S2) ⟨[],none,none,none,none,G1,rfl,rfl,(fun r h=>nomatch h),dd1⟩
 rw[Cq] at hR
 have g2:=Dq hr e2
 refine ⟨R,H,?_,by lia,by lia,hw,dd⟩
 unfold Ap FL
 show ((AI _ _ S0).bind _)=_
 rw[(AX g1).trans (AX g2)]
 have hl:=dd.len
 have e3:BZ (EJ 2) (⟨[some (.b n),M,some (.b G.length),v3,v4,v5,v6],H++[some (R.map AL)],G.length⟩:DS)=some (.rf (R.map AL) ⟨[some (.b n),M,none,v3,v4,v5,v6],H++[none],G.length⟩):=by
  unfold BZ EJ
  show ((match (H++[some (R.map AL)])[G.length]? with | some (some xs)=>if G.length<=G.length then some (xs,_) else none | _=>none).map _)=_
  rw[<-hl,CS]
  simp only[]
  rw[if_pos (Nat.le_refl _)]
  show some (Out.rf _ ⟨_,(H++[_]).set H.length none,_⟩)=_
  rw[Ek]
  rfl
 rw[e3]
 show some (_,(H++[none]).take G.length)=_
 rw[<-hl,Mj]
end
def Mlr:MDF:=Ap 7 (FL Bb Mlk Mlt)
theorem TQ {n m:Nat} {G:Gm} (d:Dk G n) (h3:3<=m) (hm:m<=100):∃ (rs:List (List Th)) (G':Gm),Mlr [.b n,.v (.int (m:Int))] G=some (rs.map AL,G')/\1<=rs.length/\rs.length<=6/\(∀ r∈rs,r.length<=m/\∀ t∈r,Wz t)/\Dd n G G':=N8 ⟨B5,Kh,Vj⟩ d h3 hm
end DL
namespace DL
open PySem L2
def BN (h:Int):Int->List Th->List (List Int)
 | _,[]=>[]
 | i,t::r=>[t.1,h,i]::BN h (i+1) r
theorem HW (h:Int):∀ (i:Int) (ts:List Th),(BN h i ts).length=ts.length
 | _,[]=>rfl
 | i,t::r=>by unfold BN;rw[List.length_cons,List.length_cons,HW]
theorem Ls (h:Int):∀ (i:Int) (ts:List Th) (k:Nat) (t:Th),ts[k]?=some t->(BN h i ts)[k]?=some [t.1,h,i+k]
 | _,[],_,_,e=>by cases e
 | i,c::r,0,t,e=>by cases e;unfold BN;simp
 | i,c::r,k+1,t,e=>by
  unfold BN
  rw[List.getElem?_cons_succ,Ls h (i+1) r k t (by simpa using e),show i+1+(k:Int)=i+((k+1:Nat):Int) by lia]
theorem LG {h i:Int} {ts:List Th}:∀ ns∈BN h i ts,ns≠[]:=by
 induction ts generalizing i with
 | nil=>intro ns hn;cases hn
 | cons t r ih=>
  intro ns hn
  unfold BN at hn
  rcases List.mem_cons.mp hn with rfl | hn
  ·simp
  ·exact ih ns hn
theorem F0 {h:Int}:∀ {i:Int} {ts:List Th} {ns:List Int},ns∈BN h i ts->∃ (k:Nat) (t:Th),ts[k]?=some t/\ns=[t.1,h,i+k]
 | i,[],ns,hn=>by cases hn
 | i,t::r,ns,hn=>by
  unfold BN at hn
  rcases List.mem_cons.mp hn with rfl | hn
  ·exact ⟨0,t,rfl,by simp⟩
  ·obtain ⟨k,u,h1,rfl⟩:=F0 hn
   exact ⟨k+1,u,by simpa using h1,by congr 3;lia⟩
def Ba:Int->List (List Th)->List (List Int)
 | _,[]=>[]
 | h,r::rs=>BN h 0 r++Ba (h+1) rs
theorem Ke:∀ {h:Int} {rs:List (List Th)} (ns:List Int),ns∈Ba h rs->ns≠[]
 | h,[],ns,hn=>by cases hn
 | h,r::rs,ns,hn=>by
  unfold Ba at hn
  rcases List.mem_append.mp hn with hn | hn
  ·exact LG ns hn
  ·exact Ke ns hn
theorem Iu:∀ {h:Int} {rs:List (List Th)} {ns:List Int},ns∈Ba h rs->∃ (j k:Nat) (r:List Th) (t:Th),rs[j]?=some r/\r[k]?=some t/\ns=[t.1,h+j,(k:Int)]
 | h,[],ns,hn=>by cases hn
 | h,r::rs,ns,hn=>by
  unfold Ba at hn
  rcases List.mem_append.mp hn with hn | hn
  ·obtain ⟨k,t,h1,rfl⟩:=F0 hn
   exact ⟨0,k,r,t,rfl,h1,by simp⟩
  ·obtain ⟨j,k,r',t,h1,h2,rfl⟩:=Iu hn
   exact ⟨j+1,k,r',t,by simpa using h1,h2,by congr 2;lia⟩
def total (rs:List (List Th)):Nat:=(rs.map List.length).sum
theorem Hg:∀ (h:Int) (rs:List (List Th)),(Ba h rs).length=total rs
 | _,[]=>rfl
 | h,r::rs=>by unfold Ba;rw[List.length_append,HW,Hg];simp[total]
theorem SQ {ns:List Int} {r:List (List Int)}:intsOf ((ns::r).map tupI)=none:=rfl
theorem Jy {Γ:Gm} {nss:List (List Int)} (hn:∀ ns∈nss,ns≠[]) {x:SV} (hx:elems Γ x=some (nss.map tupI)):CU Γ [x]=some ((BG nss).map tupI):=by
 unfold CU
 simp only[hx,Option.bind_some]
 cases nss with
 | nil=>rfl
 | cons ns r=>
  rw[SQ]
  simp only
  rw[Kk hn]
  rfl
def GZ:MDF:=Ap 2 Hf
theorem Ik {α:Type} (f:α->D) (xs:List α):(CG 0 (xs.map f)).length=xs.length:=by rw[Ii,List.length_map]
theorem O0 {Γ:Gm} {ts:List Th} {h:Int} (hz:ts.length<=big):GZ [.v (AL ts),.v (.int h)] Γ=some ((BG (BN h 0 ts)).map tupI,Γ):=by
 have b3:(3:Nat)<=big:=by decide
 obtain ⟨ys,τ2,Γ2,e2,a2,hΓ,_⟩:=GB (g:=CD [0,1]) (t:=mTT) (e:=CJ (AB (mOp gIx (AA 1) (mC (.int 0))) (AB (AA 2) (AB (AA 0) AC)))) (items:=CG 0 (ts.map thD))
  (fun i acc τ Γi=>acc=((BN h 0 ts).take i).map tupI/\Γi=Γ/\∃ a b,τ=[a,b,some (.v (.int h))]) (by
   rintro i d acc τ Γi hd ⟨rfl,hΓ,a,b,rfl⟩
   subst Γi
   obtain ⟨x,hx,rfl⟩:=Hq 0 _ i d hd
   obtain ⟨t,ht,rfl⟩:=IT hx
   refine ⟨⟨[some (.v (.int (0+i))),some (.v (thD t)),some (.v (.int h))],Γ,Γ.length⟩,_,rfl,rfl,.inl ⟨rfl,tupI [t.1,h,0+i],⟨[some (.v (.int (0+i))),some (.v (thD t)),some (.v (.int h))],Γ,Γ.length⟩,?_,rfl,?_,rfl,_,_,rfl⟩⟩
   ·simp[thD,at0,b3,tupI]
   ·rw[List.take_add_one,Ls h 0 ts i t ht]
    simp) (τ:=[none,none,some (.v (.int h))]) (Γ:=Γ) ⟨rfl,rfl,none,none,rfl⟩
 rw[Ik,<-HW h 0 ts,List.take_length] at a2
 subst a2
 rw[hΓ] at e2
 have hl:(CG 0 (ts.map thD)).length<=big:=by rw[Ik];exact hz
 have tk:Γ.take Γ.length=Γ:=List.take_length
 have hs:=Jy (Γ:=Γ) (x:=.v (.lst ((BN h 0 ts).map tupI))) (LG (h:=h) (i:=0) (ts:=ts)) rfl
 unfold GZ Ap Hf
 simp only[BZ,Bw,AB,AK,Av,Ej,AA,AC,DZ,AL]
 simp[hl,Dm,e2,hs,tk,-CU]
theorem UV {xs ys:List (List Int)} (p:xs.Perm ys):BG xs=BG ys:=Nw ((C8 xs).trans (p.trans (C8 ys).symm)) (FY _) (FY _)
def Bi:Int->List (List Th)->List (List Int)
 | _,[]=>[]
 | h,r::rs=>BG (BN h 0 r)++Bi (h+1) rs
theorem Gs:∀ (h:Int) (rs:List (List Th)),(Bi h rs).Perm (Ba h rs)
 | _,[]=>.refl _
 | h,r::rs=>(C8 _).append (Gs (h+1) rs)
theorem Nt (h:Int):∀ (rs:List (List Th)) (i:Nat) (r:List Th),rs[i]?=some r->Bi h (rs.take (i+1))=Bi h (rs.take i)++BG (BN (h+i) 0 r)
 | [],i,r,e=>by cases e
 | c::rs,0,r,e=>by cases e;simp[Bi]
 | c::rs,i+1,r,e=>by
  have:=Nt (h+1) rs i r (by simpa using e)
  rw[List.take_succ_cons,List.take_succ_cons]
  unfold Bi
  rw[this,List.append_assoc,show h+1+(i:Int)=h+((i+1:Nat):Int) by lia]
theorem Pp (a b:List (List Th)):total (a++b)=total a+total b:=by simp[total]
theorem Uz (rs:List (List Th)) (i:Nat):total (rs.take i)<=total rs:=by
 have:=Pp (rs.take i) (rs.drop i)
 rw[List.take_append_drop] at this
 lia
theorem O6 (h:Int) (rs:List (List Th)):(Bi h rs).length=total rs:=(Gs h rs).length_eq.trans (Hg h rs)
theorem WE {rs:List (List Th)} {r:List Th} (h:r∈rs):r.length<=total rs:=by
 induction rs with
 | nil=>cases h
 | cons c rs ih=>
  rcases List.mem_cons.mp h with rfl | h
  ·simp[total]
  ·have:=ih h
   simp[total] at *
   lia
theorem Jz (h:Int):∀ (i:Int) (ts:List Th),(BN h i ts).Nodup
 | _,[]=>List.nodup_nil
 | i,t::r=>by
  unfold BN
  refine List.nodup_cons.mpr ⟨fun hm=>?_,Jz h (i+1) r⟩
  obtain ⟨k,u,_,e⟩:=F0 hm
  simp at e
  lia
theorem K9:∀ (h:Int) (rs:List (List Th)),(Ba h rs).Nodup
 | _,[]=>List.nodup_nil
 | h,r::rs=>by
  unfold Ba
  refine List.nodup_append.mpr ⟨Jz h 0 r,K9 (h+1) rs,fun x hx y hy e=>?_⟩
  subst e
  obtain ⟨k,u,_,rfl⟩:=F0 hx
  obtain ⟨j,k',r',u',_,_,e⟩:=Iu hy
  simp at e
  lia
abbrev Nam:=List Int
theorem Fi {M:MDF} {m n:ME} {s s1 s2:DS} {x y:SV} {z:List D} {Γ':Gm} (h:m s=some (x,s1)) (h2:n s1=some (y,s2)) (hg:M [x,y] s2.Γ=some (z,Γ')):A0 M (AB m (AB n AC)) s=some (z,{s2 with Γ:=Γ'}):=by
 unfold A0 AB AC;rw[h];show ((((n s1).bind _).map _).bind _)=_;rw[h2];show ((M [x,y] s2.Γ).map _)=_;rw[hg];rfl
theorem OO {i n:Nat} {me:ME} {s s':DS} {zs xs ys:List D} (h1:s.σ[i]?=some (some (.b n))) (h2:s.Γ[n]?=some (some ys)) (h3:me s=some (.v (.lst zs),s')) (h4:s'.Γ[n]?=some (some xs)) (hl:xs.length+zs.length<=big):Cb (Gn (AA i) me) s=some (.nx {s' with Γ:=s'.Γ.set n (some (xs++zs))}):=by
 unfold Cb Gn AA
 rw[h1]
 simp only[Option.bind_some]
 rw[h2]
 simp only[]
 rw[h3]
 simp only[Option.bind_some]
 rw[h4]
 simp only[]
 rw[if_pos hl]
 rfl
theorem Qi {Γ:Gm} {nss:List (List Int)} (hn:∀ ns∈nss,ns≠[]) {x:SV} (hx:elems Γ x=some (nss.map tupI)):Bn Γ [x]=some ((BG nss).map tupI):=by
 unfold Bn
 rw[Jy hn hx]
def Mnp:MDF:=Ap 4 (GQ GZ)
theorem Q7 {Mn:MDF} {rs:List (List Th)} {Γ:Gm} (hm:∀ {Γ:Gm} {ts:List Th} {h:Int},ts.length<=big->Mn [.v (AL ts),.v (.int h)] Γ=some ((BG (BN h 0 ts)).map tupI,Γ)) (hz:total rs<=100000):Ap 4 (GQ Mn) [.v (AM rs)] Γ=some ((BG (Ba 0 rs)).map tupI,Γ):=by
 let S0:DS:=⟨[some (.v (AM rs)),none,none,none],Γ,Γ.length⟩
 let S:List Nam->Option SV->Option SV->DS:=fun xs v w=>⟨[some (.v (AM rs)),some (.b Γ.length),v,w],Γ++[some (xs.map tupI)],Γ.length⟩
 have g2:CV 1 (A3 AC) S0=some (.nx (S [] none none)):=by simp[S,S0,show (0:Nat)<=big from Nat.zero_le _]
 have q:Ej (AB (AA 0) AC) (S [] none none)=some (CG 0 (rs.map AL),S [] none none):=rfl
 obtain ⟨s',e1,v',w',rfl⟩:=EW (g:=CD [2,3]) (b:=M7 Mn) (items:=CG 0 (rs.map AL)) (fun i st=>∃ v w,st=S (Bi 0 (rs.take i)) v w) (by
   rintro i d st hd ⟨v,w,rfl⟩
   obtain ⟨x,hx,rfl⟩:=Hq 0 _ i d hd
   obtain ⟨r,hr,rfl⟩:=IT hx
   have hrt:=WE (List.mem_of_getElem? hr)
   let T:DS:=S (Bi 0 (rs.take i)) (some (.v (.int (0+i)))) (some (.v (AL r)))
   have hb:r.length<=big:=by rw[Bt];lia
   have w1:AK (A0 Mn (AB (AA 3) (AB (AA 2) AC))) T=some (.v (.lst ((BG (BN (0+(i:Int)) 0 r)).map tupI)),T):=A1 (Fi (x:=.v (AL r)) (y:=.v (.int (0+i))) (s1:=T) (s2:=T) rfl rfl (hm hb))
   have hlen:=O6 0 (rs.take (i+1))
   have htt:=Uz rs (i+1)
   have et:=Nt 0 rs i r hr
   have hl:((Bi 0 (rs.take i)).map tupI).length+((BG (BN (0+(i:Int)) 0 r)).map tupI).length<=big:=by
    rw[et,List.length_append] at hlen
    rw[List.length_map,List.length_map,Bt]
    lia
   refine ⟨T,_,rfl,OO (n:=Γ.length) (s:=T) (s':=T) rfl CS w1 CS hl,some (.v (.int (0+i))),some (.v (AL r)),?_⟩
   show (⟨_,(Γ++[_]).set Γ.length _,_⟩:DS)=_
   rw[Ek,et,<-List.map_append])
  (s:=S [] none none) ⟨none,none,rfl⟩
 rw[Ik,List.take_length] at e1
 have hs:=Qi (Γ:=Γ++[some ((Bi 0 rs).map tupI)]) (x:=.b Γ.length) (nss:=Bi 0 rs) (fun ns hn=>Ke ns ((Gs 0 rs).mem_iff.mp hn)) (by simp)
 rw[UV (Gs 0 rs)] at hs
 have q3:Bw Bn (AB (AA 1) AC) (S (Bi 0 rs) v' w')=some ((BG (Ba 0 rs)).map tupI,S (Bi 0 rs) v' w'):=by
  unfold Bw
  show (Bn (Γ++[some ((Bi 0 rs).map tupI)]) [.b Γ.length]).map _=_
  rw[hs]
  rfl
 unfold Ap GQ
 show (AI _ _ S0).bind _=_
 rw[AX g2,AX (Dq q e1)]
 unfold BZ
 rw[q3]
 show some (_,(Γ++[_]).take Γ.length)=_
 rw[Mj]
theorem Sj {rs:List (List Th)} {Γ:Gm} (hz:total rs<=100000):Mnp [.v (AM rs)] Γ=some ((BG (Ba 0 rs)).map tupI,Γ):=Q7 O0 hz
end DL
namespace DL
open PySem L2 Ev TXM
def Tk (H H':Hp):Prop:=∀ b x,H b=some (.tup x)->H' b=some (.tup x)
theorem Tk.trans {H H1 H2:Hp} (a:Tk H H1) (b:Tk H1 H2):Tk H H2:=fun c x e=>b c x (a c x e)
theorem Tk.of {H H':Hp} (g:Grow H H'):Tk H H':=fun b x e=>g b _ e
theorem Tk.put {H:Hp} {l:Addr} {us:List V} {o:HO} (h:H l=some (.lst us)):Tk H (upd H l o):=fun b x e=>by
 rw[AH (fun z=>by rw[z,h] at e;cases e)]
 exact e
theorem Tk.new {H:Hp} {l:Addr} {o:HO} (h:H l=none):Tk H (upd H l o):=Tk.of (.new h)
structure ThsG (G:Addr->Prop) (H:Hp) (e:List Th) (vs:List V):Prop where
 len:vs.length=e.length
 it:∀ (i:Nat) (t:Th) (v:V),e[i]?=some t->vs[i]?=some v->∃ b,v=.ref b/\G b/\H b=some (.tup [.int t.1,.str t.2])
section
variable {G:Addr->Prop} {H H':Hp} {e:List Th} {vs:List V}
theorem ThsG.tk (h:ThsG G H e vs) (k:Tk H H'):ThsG G H' e vs:=⟨h.len,fun i t v h1 h2=>let ⟨b,e1,e0,e2⟩:=h.it i t v h1 h2;⟨b,e1,e0,k _ _ e2⟩⟩
theorem ThsG.at (h:ThsG G H e vs) {i:Nat} {t:Th} (hi:e[i]?=some t):∃ b,vs[i]?=some (.ref b)/\G b/\H b=some (.tup [.int t.1,.str t.2]):=by
 have hl:i<vs.length:=by rw[h.len];exact (List.getElem?_eq_some_iff.mp hi).1
 obtain ⟨b,e1,e0,e2⟩:=h.it i t vs[i] hi (List.getElem?_eq_getElem hl)
 exact ⟨b,by rw[List.getElem?_eq_getElem hl,e1],e0,e2⟩
theorem ThsG.set (h:ThsG G H e vs) {i:Nat} {t:Th} {b:Addr} (hG:G b) (hb:H b=some (.tup [.int t.1,.str t.2])):ThsG G H (e.set i t) (vs.set i (.ref b)):=⟨by rw[List.length_set,List.length_set,h.len],fun j u v h1 h2=>by
 by_cases c:i=j
 ·subst c
  have hl:=(List.getElem?_eq_some_iff.mp h1).1
  rw[List.length_set] at hl
  rw[List.getElem?_set_self (by lia)] at h1
  rw[List.getElem?_set_self (by rw[h.len];lia)] at h2
  cases h1
  cases h2
  exact ⟨b,rfl,hG,hb⟩
 ·rw[List.getElem?_set_ne c] at h1 h2
  exact h.it j u v h1 h2⟩
theorem ThsG.del (h:ThsG G H e vs) {i:Nat}:ThsG G H (e.eraseIdx i) (vs.eraseIdx i):=⟨by rw[List.length_eraseIdx,List.length_eraseIdx,h.len],fun j u v h1 h2=>by
 rw[List.getElem?_eraseIdx] at h1 h2
 by_cases c:j<i
 ·rw[if_pos c] at h1 h2
  exact h.it j u v h1 h2
 ·rw[if_neg c] at h1 h2
  exact h.it (j+1) u v h1 h2⟩
end
structure OwnG (G:Addr->Prop) (H:Hp) (a:Addr) (as:List Addr) (E:List (List Th)):Prop where
 nd:as.Nodup
 na:a∉as
 hd:H a=some (.lst (as.map V.ref))
 len:as.length=E.length
 it:∀ (i:Nat) (b:Addr) (e:List Th),as[i]?=some b->E[i]?=some e->∃ vs,H b=some (.lst vs)/\ThsG G H e vs
section
variable {G:Addr->Prop} {H H':Hp} {a:Addr} {as:List Addr} {E:List (List Th)}
theorem QP {l:List Addr} {i j:Nat} {b:Addr} (h:l.Nodup) (h1:l[i]?=some b) (h2:l[j]?=some b):i=j:=by
 induction l generalizing i j with
 | nil=>cases h1
 | cons a l ih=>
  rw[List.nodup_cons] at h
  cases i with
  | zero=>
   cases j with
   | zero=>rfl
   | succ j=>cases h1;exact absurd (List.mem_of_getElem? (show l[j]?=some b from h2)) h.1
  | succ i=>
   cases j with
   | zero=>cases h2;exact absurd (List.mem_of_getElem? (show l[i]?=some b from h1)) h.1
   | succ j=>exact congrArg (·+1) (ih h.2 (show l[i]?=some b from h1) (show l[j]?=some b from h2))
theorem OwnG.mv (h:OwnG G H a as E) {N:Addr->Prop} (k:∀ b o,H b=some o->¬N b->H' b=some o) (hl:∀ b∈a::as,¬N b) (ht:∀ b x,H b=some (.tup x)->¬N b):OwnG G H' a as E:=
 ⟨h.nd,h.na,k _ _ h.hd (hl a List.mem_cons_self),h.len,fun i b e h1 h2=>let ⟨vs,q1,q2⟩:=h.it i b e h1 h2;⟨vs,k _ _ q1 (hl b (List.mem_cons_of_mem _ (List.mem_of_getElem? h1))),q2.tk fun c x e=>k c _ e (ht c x e)⟩⟩
theorem OwnG.grow (h:OwnG G H a as E) (g:Grow H H'):OwnG G H' a as E:=h.mv (N:=fun _=>False) (fun b o e _=>g b o e) (fun _ _ z=>z) fun _ _ _ z=>z
theorem OwnG.at (h:OwnG G H a as E) {i:Nat} {e:List Th} (hi:E[i]?=some e):∃ b vs,as[i]?=some b/\H b=some (.lst vs)/\ThsG G H e vs:=by
 have hl:i<as.length:=by rw[h.len];exact (List.getElem?_eq_some_iff.mp hi).1
 obtain ⟨vs,e1,e2⟩:=h.it i as[i] e (List.getElem?_eq_getElem hl) hi
 exact ⟨as[i],vs,List.getElem?_eq_getElem hl,e1,e2⟩
theorem OwnG.put (h:OwnG G H a as E) {i:Nat} {b:Addr} {e':List Th} {vs vs':List V} (hb:as[i]?=some b) (hv:H b=some (.lst vs)) (ht:ThsG G H e' vs'):OwnG G (upd H b (.lst vs')) a as (E.set i e'):=by
 have hm:=List.mem_of_getElem? hb
 have tk:Tk H (upd H b (.lst vs')):=Tk.put hv
 refine ⟨h.nd,h.na,?_,by rw[List.length_set];exact h.len,fun j c e h1 h2=>?_⟩
 ·rw[AH (fun z=>h.na (by rw[z];exact hm))]
  exact h.hd
 ·by_cases c':i=j
  ·subst c'
   rw[hb] at h1
   cases h1
   have hl:=(List.getElem?_eq_some_iff.mp h2).1
   rw[List.length_set] at hl
   rw[List.getElem?_set_self hl] at h2
   cases h2
   exact ⟨vs',Ak,ht.tk tk⟩
  ·rw[List.getElem?_set_ne c'] at h2
   obtain ⟨us,q1,q2⟩:=h.it j c e h1 h2
   exact ⟨us,by rw[AH (fun z=>by rw[z] at h1;exact c' (QP h.nd hb h1))];exact q1,q2.tk tk⟩
theorem KL {α β:Type} (f:α->β):∀ (xs:List α) (i:Nat),(xs.map f).eraseIdx i=(xs.eraseIdx i).map f
 | [],_=>rfl
 | x::xs,0=>rfl
 | x::xs,i+1=>congrArg (f x::·) (KL f xs i)
theorem OwnG.del (h:OwnG G H a as E) {i:Nat}:OwnG G (upd H a (.lst ((as.map V.ref).eraseIdx i))) a (as.eraseIdx i) (E.eraseIdx i):=by
 have tk:Tk H (upd H a (.lst ((as.map V.ref).eraseIdx i))):=Tk.put h.hd
 have sub:∀ b∈as.eraseIdx i,b∈as:=fun b hb=>List.mem_of_mem_eraseIdx hb
 refine ⟨h.nd.eraseIdx i,fun z=>h.na (sub _ z),?_,by rw[List.length_eraseIdx,List.length_eraseIdx,h.len],fun j c e h1 h2=>?_⟩
 ·rw[Ak,KL]
 ·have hc:=sub c (List.mem_of_getElem? h1)
  have hne:c≠a:=fun z=>h.na (by rw[<-z];exact hc)
  rw[List.getElem?_eraseIdx] at h1 h2
  have:∃ j':Nat,as[j']?=some c/\E[j']?=some e:=by
   by_cases d:j<i
   ·rw[if_pos d] at h1 h2
    exact ⟨j,h1,h2⟩
   ·rw[if_neg d] at h1 h2
    exact ⟨j+1,h1,h2⟩
  obtain ⟨j',g1,g2⟩:=this
  obtain ⟨us,q1,q2⟩:=h.it j' c e g1 g2
  exact ⟨us,by rw[AH hne];exact q1,q2.tk tk⟩
theorem get_ins {α:Type} {xs:List α} {i:Nat} {x:α} (hi:i<=xs.length) (j:Nat):(xs.take i++x::xs.drop i)[j]?=if j<i then xs[j]? else if j=i then some x else xs[j - 1]?:=by
 have hl:(xs.take i).length=i:=by rw[List.length_take];lia
 by_cases c:j<i
 ·rw[if_pos c,List.getElem?_append_left (by lia),List.getElem?_take_of_lt c]
 ·rw[if_neg c,List.getElem?_append_right (by lia),hl]
  by_cases d:j=i
  ·rw[if_pos d,d,Nat.sub_self];rfl
  ·rw[if_neg d]
   obtain ⟨k,hk⟩:∃ k,j - i=k+1:=⟨j - i - 1,by lia⟩
   rw[hk,List.getElem?_cons_succ,List.getElem?_drop]
   congr 1
   lia
theorem OwnG.ins (h:OwnG G H a as E) {i:Nat} {p:Addr} (hp:H p=none) (hi:i<=as.length):OwnG G (upd (upd H p (.lst [])) a (.lst ((as.map V.ref).take i++V.ref p::(as.map V.ref).drop i))) a (as.take i++p::as.drop i) (E.take i++[]::E.drop i):=by
 have hpa:p≠a:=fun z=>by rw[z,h.hd] at hp;cases hp
 have hap:(upd H p (.lst [])) a=some (.lst (as.map V.ref)):=by rw[AH (Ne.symm hpa)];exact h.hd
 have hE:=h.len
 have tk:Tk H (upd (upd H p (.lst [])) a (.lst ((as.map V.ref).take i++V.ref p::(as.map V.ref).drop i))):=(Tk.new hp).trans (Tk.put hap)
 have hpn:p∉as:=fun z=>by
  obtain ⟨j,hj⟩:=List.getElem?_of_mem z
  have hjl:j<E.length:=by rw[<-hE];exact (List.getElem?_eq_some_iff.mp hj).1
  obtain ⟨vs,e1,_⟩:=h.it j p _ hj (List.getElem?_eq_getElem hjl)
  rw[hp] at e1
  cases e1
 have hmem:∀ b,b∈as.take i++p::as.drop i↔b=p\/b∈as:=fun b=>by
  rw[List.mem_append,List.mem_cons]
  conv=>rhs;rw[<-List.take_append_drop i as,List.mem_append]
  exact ⟨fun z=>z.elim (fun z=>.inr (.inl z)) fun z=>z.elim .inl fun z=>.inr (.inr z),fun z=>z.elim (fun z=>.inr (.inl z)) fun z=>z.elim .inl fun z=>.inr (.inr z)⟩
 refine ⟨?_,?_,?_,?_,fun j c e h1 h2=>?_⟩
 ·have pm:(as.take i++p::as.drop i).Perm (p::as):=by
   refine List.perm_middle.trans ?_
   rw[List.take_append_drop]
  exact (pm.nodup_iff).mpr (List.nodup_cons.mpr ⟨hpn,h.nd⟩)
 ·intro z
  rcases (hmem a).mp z with z | z
  ·exact hpa z.symm
  ·exact h.na z
 ·rw[Ak,List.map_append,List.map_cons,List.map_take,List.map_drop]
 ·simp only[List.length_append,List.length_cons,List.length_take,List.length_drop,hE]
 ·rw[get_ins hi] at h1
  rw[get_ins (by lia)] at h2
  by_cases d:j<i
  ·rw[if_pos d] at h1 h2
   obtain ⟨us,q1,q2⟩:=h.it j c e h1 h2
   have hc:=List.mem_of_getElem? h1
   exact ⟨us,by rw[AH (fun z=>h.na (by rw[<-z];exact hc)),AH (fun z=>hpn (by rw[<-z];exact hc))];exact q1,q2.tk tk⟩
  ·rw[if_neg d] at h1 h2
   by_cases d2:j=i
   ·rw[if_pos d2] at h1 h2
    cases h1
    cases h2
    exact ⟨[],by rw[AH hpa,Ak],⟨rfl,fun k t v z=>by cases z⟩⟩
   ·rw[if_neg d2] at h1 h2
    obtain ⟨us,q1,q2⟩:=h.it (j - 1) c e h1 h2
    have hc:=List.mem_of_getElem? h1
    exact ⟨us,by rw[AH (fun z=>h.na (by rw[<-z];exact hc)),AH (fun z=>hpn (by rw[<-z];exact hc))];exact q1,q2.tk tk⟩
theorem ThsG.reps {W:Wd} (hn:∀ b x,G b->W.H b=some (.tup x)->¬W.B b):∀ {e:List Th} {vs:List V},ThsG G W.H e vs->Reps W (e.map thD) vs
 | [],vs,h=>by
  have:=h.len
  rw[List.length_nil] at this
  rw[List.eq_nil_of_length_eq_zero this]
  exact .nil
 | t::e,[],h=>by cases h.len
 | t::e,v::vs,h=>.cons (by
   obtain ⟨b,rfl,hG,hb⟩:=h.it 0 t v rfl rfl
   unfold thD Rep
   exact ⟨b,_,rfl,hn b _ hG hb,hb,.cons (by unfold Rep;rfl) (.cons (by unfold Rep;rfl) .nil)⟩) (ThsG.reps hn ⟨by simpa using h.len,fun i t' v' h1 h2=>h.it (i+1) t' v' h1 h2⟩)
theorem Lf {W:Wd}:∀ (X:List (List D)) (as:List Addr),as.length=X.length->(∀ b∈as,¬W.B b)->(∀ (i:Nat) (b:Addr) (x:List D),as[i]?=some b->X[i]?=some x->∃ vs,W.H b=some (.lst vs)/\Reps W x vs)->Reps W (X.map D.lst) (as.map V.ref)
 | [],[],_,_,_=>.nil
 | x::X,a::as,hl,hB,h=>by
  refine .cons ?_ (Lf X as (by simpa using hl) (fun b hb=>hB b (List.mem_cons_of_mem _ hb)) fun i b y e1 e2=>h (i+1) b y e1 e2)
  obtain ⟨vs,h1,h2⟩:=h 0 a x rfl rfl
  unfold Rep
  exact ⟨a,vs,rfl,hB a List.mem_cons_self,h1,h2⟩
 | [],_::_,hl,_,_=>by cases hl
 | _::_,[],hl,_,_=>by cases hl
theorem OwnG.reps {W:Wd} (h:OwnG G W.H a as E) (hn:∀ b x,G b->W.H b=some (.tup x)->¬W.B b) (hB:∀ b∈as,¬W.B b):Reps W (E.map AL) (as.map V.ref):=by
 have:=Lf (W:=W) (E.map fun e=>e.map thD) as (by rw[List.length_map];exact h.len) hB fun i b x h1 h2=>by
  rw[List.getElem?_map] at h2
  cases he:E[i]? with
  | none=>rw[he] at h2;cases h2
  | some e=>
   rw[he] at h2
   cases h2
   obtain ⟨vs,q1,q2⟩:=h.it i b e h1 he
   exact ⟨vs,q1,q2.reps hn⟩
 rw[List.map_map] at this
 exact this
theorem OwnG.repQ {K:PySem.W.Frag} (h:OwnG G H a as E):Rep (wQ K H) (AM E) (.ref a):=by
 unfold AM Rep
 exact ⟨a,_,rfl,fun z=>z,h.hd,OwnG.reps (W:=wQ K H) h (fun _ _ _ _ z=>z) fun _ _ z=>z⟩
end
theorem Da {p q:Prop} (h:q):if false=true then p else q:=by rw[if_neg Bool.false_ne_true];exact h
theorem DU {p q:Prop} (h:p):if true=true then p else q:=by rw[if_pos rfl];exact h
def CH (H:Hp) (l:Addr):Hp:=fun b=>if b=l then none else H b
theorem Vy {H:Hp} {l:Addr} {o:HO} (h:H l=some o):upd (CH H l) l o=H:=by
 funext b
 by_cases c:b=l
 ·rw[c,Ak,h]
 ·rw[AH c]
  unfold CH
  rw[if_neg c]
def BxI (α:Nat->Addr) (Γ:Gm) (H:Hp):Prop:=∀ (m:Nat) (xs:List D),Γ[m]?=some (some xs)->∃ l:List Int,xs=l.map .int/\H (α m)=some (.lst (l.map V.int))
theorem BxI.live {α:Nat->Addr} {Γ:Gm} {H:Hp} (h:BxI α Γ H) {b:Addr} (z:Ah Γ α b):∃ l:List Int,H b=some (.lst (l.map V.int)):=by
 obtain ⟨m,xs,e,rfl⟩:=z
 obtain ⟨l,_,h2⟩:=h m xs e
 exact ⟨l,h2⟩
theorem IA {W:Wd}:∀ (l:List Int),Reps W (l.map .int) (l.map V.int)
 | []=>.nil
 | i::l=>.cons (by unfold Rep;rfl) (IA l)
theorem Dd.lv {n:Nat} {Γ Γ':Gm} (d:Dd n Γ Γ') (hk:Dk Γ n) {m:Nat} {xs:List D} (h:Γ'[m]?=some (some xs)):∃ ys,Γ[m]?=some (some ys):=by
 by_cases c:m=n
 ·subst c
  obtain ⟨l,e,_⟩:=hk
  exact ⟨_,e⟩
 ·rw[d.out c] at h
  exact ⟨xs,h⟩
theorem FG {K:PySem.W.Frag} {H:Hp} {α:Nat->Addr} {Γ:Gm} {n:Nat} {m r:Int} {Γ':Gm} {Q:VK} {E:XK} (bx:BxI α Γ H) (inj:∀ (i j:Nat) (xs ys:List D),Γ[i]?=some (some xs)->Γ[j]?=some (some ys)->α i=α j->i=j) (dk:Dk Γ n)
  (e:Bb [.b n,.v (.int m)] Γ=some (.int r,Γ')) (dd:Dd n Γ Γ') (q:∀ H',BxI α Γ' H'->(∀ b o,H b=some o->¬Ah Γ α b->H' b=some o)->Q (.int r) H'):spD K 2 Bb [.ref (α n),.int m] H Q E:=by
 refine ⟨⟨K,H,Ah Γ α,Ah Γ α,fun _ z=>z,fun b z=>by obtain ⟨l,h⟩:=bx.live z;rw[h];exact fun y=>nomatch y⟩,α,⟨[],Γ,Γ.length⟩,[],[.b n,.v (.int m)],(.int r,Γ'),rfl,rfl,?_,?_,e,fun α' v H' rs ext rep=>?_⟩
 ·refine ⟨rfl,fun i d z=>(by cases z),fun m xs h=>?_,fun m xs h=>?_,inj,fun b o h _=>h,fun b z=>?_⟩
  ·obtain ⟨l,rfl,h2⟩:=bx m xs h
   exact ⟨_,h2,IA l⟩
  ·rw[if_pos (List.getElem?_eq_some_iff.mp h).1]
   exact ⟨m,xs,h,rfl⟩
  ·obtain ⟨l,h⟩:=bx.live z
   rw[h]
   exact fun y=>nomatch y
 ·exact ⟨_,_,rfl,⟨dk.lt,rfl⟩,_,_,rfl,(by unfold RepV Rep;rfl),rfl⟩
 ·unfold Rep at rep
  subst rep
  refine q H' (fun m xs h=>?_) fun b o h z=>rs.fr b o h z
  have hm:m<Γ.length:=by rw[<-dd.len];exact (List.getElem?_eq_some_iff.mp h).1
  obtain ⟨vs,h1,h2⟩:=rs.box m xs h
  rw[ext.al m hm] at h1
  have:∃ l:List Int,xs=l.map .int:=by
   by_cases c:m=n
   ·subst c
    obtain ⟨l,e,_⟩:=dd.dk dk
    rw[e] at h
    cases h
    exact ⟨l,rfl⟩
   ·rw[dd.out c] at h
    obtain ⟨l,e,_⟩:=bx m xs h
    exact ⟨l,e⟩
  obtain ⟨l,rfl⟩:=this
  rw[h2.ints] at h1
  exact ⟨l,rfl,h1⟩
theorem OQ {x:Str} {k:Nat}:cd (A6 x none (some (k:Int)))=(cd x).take k:=by
 let p:Nat:=min k x.length
 have hp:p<=x.length:=Nat.min_le_right _ _
 have e0:Builtin.Str.strSliceIndices none (some (k:Int)) 1 x.length=Builtin.Str.strSliceIndices (some ((0:Nat):Int)) (some (p:Int)) 1 x.length:=by
  unfold Builtin.Str.strSliceIndices
  simp only[show ((1:Int) > 0)=True by simp,if_true,show ¬((k:Int)<0) by lia,show ¬((p:Int)<0) by lia,show ¬(((0:Nat):Int)<0) by lia,if_false]
  congr 1
  ·show max 0 (min (k:Int) x.length)=max 0 (min ((min k x.length:Nat):Int) x.length)
   lia
 have e1:=PySem.StrLaws.sliced_plain x (Nat.zero_le p) hp
 have e2:((cd x).drop 0).take (p - 0)=(cd x).take k:=by
  rw[List.drop_zero,Nat.sub_zero]
  by_cases c:k<=x.length
  ·rw[show p=k from Nat.min_eq_left c]
  ·rw[show p=x.length from Nat.min_eq_right (by lia),List.take_of_length_le (by rw[TXM.A2];exact Nat.le_refl _),List.take_of_length_le (by rw[TXM.A2];lia)]
 unfold A6
 rw[e0]
 split
 ·rename_i hl
  rw[PySem.StrLaws.strSliceIndices_plain (Nat.zero_le p) hp,List.length_map,List.length_range] at hl
  have hl:=beq_iff_eq.mp hl
  rw[List.take_of_length_le (by rw[TXM.A2];have:p<=k:=Nat.min_le_left _ _;lia)]
 ·show ((Builtin.Str.strSliceIndices (some ((0:Nat):Int)) (some (p:Int)) 1 x.length).filterMap (x.cps[·]?)).toArray.toList=_
  rw[List.toList_toArray,e1]
  exact e2
theorem len_app (x y:Str):(x++y).length=x.length+y.length:=by
 show (x.cps++y.cps).size=_
 rw[Array.size_append]
 rfl
def CT (t:Str) (a:Nat):Str:=A6 (A6 t none (some (-1))++(⟨#[("kmovw":Str).cps.toList.getD (a % 5) 107]⟩:Str)++("b":Str)) none (some ((8:Nat):Int))
theorem Sr:∀ c∈("kmovw":Str).cps.toList,97<=c/\c<=122:=by decide +kernel
theorem QL:("kmovw":Str).cps.toList.length=5:=by decide +kernel
theorem LA (a:Nat):("kmovw":Str).cps.toList[a % 5]?=some (("kmovw":Str).cps.toList.getD (a % 5) 107):=by
 have h:a % 5<("kmovw":Str).cps.toList.length:=by rw[QL];lia
 rw[List.getD_eq_getElem?_getD,List.getElem?_eq_getElem h]
 rfl
theorem Ss {t:Str} {a:Nat} (h:Tg t):Tg (CT t a):=by
 have hA:(A6 t none (some (-1))).length<=t.length:=IJ _ _ _
 have hc:=OQ (x:=A6 t none (some (-1))++(⟨#[("kmovw":Str).cps.toList.getD (a % 5) 107]⟩:Str)++("b":Str)) (k:=8)
 have hl:(CT t a).length=min 8 ((A6 t none (some (-1))).length+1+1):=by
  rw[<-TXM.A2]
  unfold CT
  rw[hc,List.length_take,TXM.A2,len_app,len_app]
  rfl
 refine ⟨by lia,by lia,fun c hc'=>?_⟩
 have:=Mh hc'
 rw[show (A6 t none (some (-1))++(⟨#[("kmovw":Str).cps.toList.getD (a % 5) 107]⟩:Str)++("b":Str)).cps.toList=(A6 t none (some (-1))).cps.toList++[("kmovw":Str).cps.toList.getD (a % 5) 107]++[98] from by
  show ((A6 t none (some (-1))).cps++_++_).toList=_
  simp only[Array.toList_append]
  rfl] at this
 rcases List.mem_append.mp this with z | z
 ·rcases List.mem_append.mp z with z | z
  ·exact h.2.2 c (Mh z)
  ·rw[List.mem_singleton.mp z]
   exact Sr _ (List.mem_of_getElem? (LA a))
 ·rw[List.mem_singleton.mp z]
  exact ⟨by decide,by decide⟩
theorem NL {m:ME} {S:DS} {x:Str} {j:Int} {me:ME} (h:m S=some (.v (.str x),S)) (hj:Eu (some me) S=some (some j,S)) (hl:x.length<=1000000):mSl m none (some me) S=some (.v (.str (A6 x none (some j))),S):=by
 unfold mSl
 rw[h]
 show ((Eu (some me) S).bind _)=_
 rw[hj]
 show ((if x.length<=big then some (D.str (A6 x none (some j))) else none).map _)=_
 rw[if_pos (by rw[Bt];exact hl)]
 rfl
theorem To {S:DS} {t:Str} {a:Nat} (h:Tg t) (h5:AA 5 S=some (.v (.int (a:Int)),S)) (h8:AA 8 S=some (.v (.str t),S)):mSl (mOp AS (mOp AS (mSl (AA 8) none (some (IQ (mC (.int 1))))) (mOp gIx (mC (.str "kmovw")) (mOp Ax (AA 5) (mC (.int 5))))) (mC (.str "b"))) none (some (mC (.int 8))) S=some (.v (.str (CT t a)),S):=by
 have hA:(A6 t none (some (-1))).length<=t.length:=IJ _ _ _
 have h2:=h.2.1
 have w1:=NL (me:=IQ (mC (.int 1))) (j:=-1) h8 rfl (show t.length<=1000000 by lia)
 have w2:=Bv h5 (show (0:Int)<5 by decide)
 have w3:mOp gIx (mC (.str "kmovw")) (mOp Ax (AA 5) (mC (.int 5))) S=some (.v (.str ⟨#[("kmovw":Str).cps.toList.getD (a % 5) 107]⟩),S):=Aa (x:=.v (.str "kmovw")) (s1:=S) rfl w2 (by
  show (if ("kmovw":Str).length<=big then (atI ("kmovw":Str).cps.toList ((a:Int) % 5)).map fun c=>D.str ⟨#[c]⟩ else none)=_
  rw[if_pos (by decide +kernel),show (a:Int) % 5=((a % 5:Nat):Int) by lia,Bo (LA a)]
  rfl)
 have e1:(⟨#[("kmovw":Str).cps.toList.getD (a % 5) 107]⟩:Str).length=1:=rfl
 have e2:("b":Str).length=1:=by decide +kernel
 have w4:=C9 w1 w3 (by rw[e1];lia)
 have w5:=C9 w4 (b:=mC (.str "b")) (y:="b") rfl (by rw[len_app,e1,e2];lia)
 exact NL (me:=mC (.int 8)) (j:=8) w5 rfl (by rw[len_app,len_app,e1,e2];lia)
abbrev Gv:Stmt:=top 31
abbrev MY:List Str:=["deck","rows","found","hand","way","at","to","key","tag"]
theorem sc__law_otherwise:FnScope MY ["deck","rows"] (AW Gv):=⟨rfl,rfl,rfl,by decide +kernel,rfl,by decide +kernel,by decide +kernel⟩
def th0:Th:=(0,"a")
def o0 (rs E:List (List Th)) (h a t:Nat) (w:Int):List (List Th):=if w=0 then rs.set h ((rs.getD h []).set a (((rs.getD h []).getD a th0).1+1,((rs.getD h []).getD a th0).2)) else E
def o1 (rs E:List (List Th)) (h a t:Nat) (w:Int):List (List Th):=if w=1 then rs.set h ((rs.getD h []).set a (((rs.getD h []).getD a th0).1,CT ((rs.getD h []).getD a th0).2 a)) else E
def o2 (rs E:List (List Th)) (h a t:Nat) (w:Int):List (List Th):=if w=2 then rs.set h (((rs.getD h []).set a ((rs.getD h []).getD t th0)).set t ((rs.getD h []).getD a th0)) else E
def o3 (rs E:List (List Th)) (h a t:Nat) (w:Int):List (List Th):=if w=3 then rs.set h ((rs.getD h []).eraseIdx a) else E
def oA (rs:List (List Th)) (h a t:Nat) (w:Int):List (List Th):=o3 rs (o2 rs (o1 rs (o0 rs rs h a t w) h a t w) h a t w) h a t w
theorem Et {rs:List (List Th)} {h a t:Nat} {w:Int}:(oA rs h a t w).length=rs.length:=by
 unfold oA o3 o2 o1 o0
 repeat' split
 all_goals first | rfl | exact List.length_set
def o4 (E:List (List Th)) (h:Nat) (w:Int):List (List Th):=if w=4/\E.length<6 then E.take h++[]::E.drop h else E
def o5 (E:List (List Th)) (h:Nat) (w:Int):List (List Th):=if w=5/\1<E.length then E.eraseIdx h else E
def oB (E:List (List Th)) (h:Nat) (w:Int):List (List Th):=o5 (o4 E h w) h w
def iOf:Option (D×Gm)->Option (Int×Gm)
 | some (.int i,Γ)=>some (i,Γ)
 | _=>none
def Ew (n:Nat) (rs:List (List Th)) (Γ:Gm):Option (List D×Gm):=
 (iOf (Bb [.b n,.v (.int (rs.length:Nat))] Γ)).bind fun p1=>(iOf (Bb [.b n,.v (.int 7)] p1.2)).bind fun p2=>
  if rs.getD p1.1.toNat []=[] then some ((oB rs p1.1.toNat p2.1).map AL,p2.2) else
  (iOf (Bb [.b n,.v (.int ((rs.getD p1.1.toNat []).length:Nat))] p2.2)).bind fun p3=>(iOf (Bb [.b n,.v (.int ((rs.getD p1.1.toNat []).length:Nat))] p3.2)).bind fun p4=>
   some ((oB (oA rs p1.1.toNat p3.1.toNat p4.1.toNat p2.1) p1.1.toNat p2.1).map AL,p4.2)
def IntG (Γ:Gm):Prop:=∀ (m:Nat) (xs:List D),Γ[m]?=some (some xs)->∃ l:List Int,xs=l.map .int
theorem NU {a b:List (List Th)} (h:AM a=AM b):a=b:=by
 have inj2:∀ {x y:Th},thD x=thD y->x=y:=fun {x y} e=>by
  unfold thD at e
  injection e with e
  injection e with e1 e2
  injection e2 with e2 _
  injection e1 with e1
  injection e2 with e2
  exact Prod.ext e1 e2
 have inj1:∀ {x y:List Th},AL x=AL y->x=y:=fun {x y} e=>by
  unfold AL at e
  injection e with e
  exact List.map_inj_right (fun _ _=>inj2) |>.mp e
 unfold AM at h
 injection h with h
 exact List.map_inj_right (fun _ _=>inj1) |>.mp h
open Classical in
def Ey:MS:=fun s=>match s.σ with
 | [some (.b n),some (.v R),_,_,_,_,_,_,_]=>if h:∃ rs:List (List Th),R=AM rs/\WrR rs/\Dk s.Γ n/\IntG s.Γ then (Ew n h.choose s.Γ).map fun p=>.rf p.1 ⟨[none,none,none,none,none,none,none,none,none],p.2,s.lo⟩ else none
 | _=>none
theorem UI {X:Cx} {K:PySem.W.Frag} (h:X.K=K):CallR X (.type "list") (fun xs H Q=>∃ p ys,xs=[.ref p]/\(SqL K H p ys\/SqT K H p ys)/\∀ l,H l=none->Q (.ref l) (upd H l (.lst ys))):=h▸OV
theorem Pj {f:Fr} {α:Nat->Addr} {Γ:Gm} {H:Hp} {e:List Th} {vs:List V} (h:Reps (wd f α Γ H) (e.map thD) vs):ThsG (fun b=>¬f.F b) H e vs:=⟨by rw[h.len,List.length_map],fun i t v h1 h2=>by
 obtain ⟨d,e1,e2⟩:=h.get' h2
 rw[List.getElem?_map,h1] at e1
 cases e1
 unfold thD Rep at e2
 obtain ⟨b,vs,rfl,hB,hb,hv⟩:=e2
 obtain ⟨v1,r1,rfl,q1,h2⟩:=hv.cons_inv
 obtain ⟨v2,r2,rfl,q2,h3⟩:=h2.cons_inv
 rw[h3.nil_inv] at hb
 unfold Rep at q1 q2
 rw[q1,q2] at hb
 exact ⟨b,rfl,fun z=>hB (.inl z),hb⟩⟩
structure OI (f:Fr) (α:Nat->Addr) (Γ0:Gm) (H0:Hp) (l:Addr) (Γ:Gm) (H:Hp) (as:List Addr) (E:List (List Th)):Prop where
 own:OwnG (fun b=>¬f.F b) H l as E
 bx:BxI α Γ H
 bz:∀ (m:Nat) (xs:List D),Γ[m]?=some (some xs)->H0 (α m)≠none
 keep:∀ b o,H0 b=some o->¬Ah Γ0 α b->H b=some o
 lv:∀ (m:Nat) (xs:List D),Γ0[m]?=some (some xs)->∃ ys,Γ[m]?=some (some ys)
 lw:∀ (m:Nat) (xs:List D),Γ[m]?=some (some xs)->∃ ys,Γ0[m]?=some (some ys)
 fb:∀ b,f.F b->H0 b≠none
 fl:H0 l=none
 fs:∀ b∈as,H0 b=none
section
variable {f:Fr} {α:Nat->Addr} {Γ0 Γ:Gm} {H0 H H':Hp} {l:Addr} {as:List Addr} {E:List (List Th)}
theorem BxI.grow (h:BxI α Γ H) (g:Grow H H'):BxI α Γ H':=fun m xs e=>let ⟨i,e1,e2⟩:=h m xs e;⟨i,e1,g _ _ e2⟩
theorem BxI.upd (h:BxI α Γ H) (bz:∀ (m:Nat) (xs:List D),Γ[m]?=some (some xs)->H0 (α m)≠none) {b:Addr} {o:HO} (hb:H0 b=none):BxI α Γ (upd H b o):=fun m xs e=>let ⟨i,e1,e2⟩:=h m xs e;⟨i,e1,by rw[AH (fun z=>bz m xs e (by rw[z];exact hb))];exact e2⟩
theorem OI.grow (h:OI f α Γ0 H0 l Γ H as E) (g:Grow H H'):OI f α Γ0 H0 l Γ H' as E:=⟨h.own.grow g,h.bx.grow g,h.bz,fun b o e n=>g _ _ (h.keep b o e n),h.lv,h.lw,h.fb,h.fl,h.fs⟩
theorem Ir (k:∀ b o,H0 b=some o->¬Ah Γ0 α b->H b=some o) {b:Addr} {u:HO} (hb:H0 b=none):∀ c o,H0 c=some o->¬Ah Γ0 α c->upd H b u c=some o:=fun c o e n=>by
 rw[AH (fun z=>by rw[z,hb] at e;cases e)]
 exact k c o e n
theorem OI.nn (h:OI f α Γ0 H0 l Γ H as E) {p:Addr} (hp:H p=none):H0 p=none:=by
 cases e:H0 p with
 | none=>rfl
 | some o=>
  by_cases c:Ah Γ0 α p
  ·obtain ⟨m,xs,e1,rfl⟩:=c
   obtain ⟨ys,e2⟩:=h.lv m xs e1
   obtain ⟨i,_,e3⟩:=h.bx m ys e2
   rw[e3] at hp
   cases hp
  ·rw[h.keep p o e c] at hp
   cases hp
theorem OI.good (h:OI f α Γ0 H0 l Γ H as E) {p:Addr} (hp:H p=none):¬f.F p:=fun z=>h.fb p z (h.nn hp)
theorem OI.put (h:OI f α Γ0 H0 l Γ H as E) {i:Nat} {b:Addr} {e':List Th} {vs vs':List V} (hb:as[i]?=some b) (hv:H b=some (.lst vs)) (ht:ThsG (fun b=>¬f.F b) H e' vs'):OI f α Γ0 H0 l Γ (upd H b (.lst vs')) as (E.set i e'):=
 have z:=h.fs b (List.mem_of_getElem? hb)
 ⟨h.own.put hb hv ht,h.bx.upd h.bz z,h.bz,Ir h.keep z,h.lv,h.lw,h.fb,h.fl,h.fs⟩
theorem OI.del (h:OI f α Γ0 H0 l Γ H as E) {i:Nat}:OI f α Γ0 H0 l Γ (upd H l (.lst ((as.map V.ref).eraseIdx i))) (as.eraseIdx i) (E.eraseIdx i):=
 ⟨h.own.del,h.bx.upd h.bz h.fl,h.bz,Ir h.keep h.fl,h.lv,h.lw,h.fb,h.fl,fun b hb=>h.fs b (List.mem_of_mem_eraseIdx hb)⟩
theorem OI.ins (h:OI f α Γ0 H0 l Γ H as E) {i:Nat} {p:Addr} (hp:H p=none) (hi:i<=as.length):OI f α Γ0 H0 l Γ (upd (upd H p (.lst [])) l (.lst ((as.map V.ref).take i++V.ref p::(as.map V.ref).drop i))) (as.take i++p::as.drop i) (E.take i++[]::E.drop i):=
 ⟨h.own.ins hp hi,(h.bx.grow (.new hp)).upd h.bz h.fl,h.bz,Ir (fun b o e n=>Grow.new hp b o (h.keep b o e n)) h.fl,h.lv,h.lw,h.fb,h.fl,fun b hb=>by
  rcases List.mem_append.mp hb with z | z
  ·exact h.fs b (List.mem_of_mem_take z)
  ·rcases List.mem_cons.mp z with z | z
   ·rw[z];exact h.nn hp
   ·exact h.fs b (List.mem_of_mem_drop z)⟩
theorem OI.take {Γ':Gm} {n:Nat} (h:OI f α Γ0 H0 l Γ H as E) (dk:Dk Γ n) (dd:Dd n Γ Γ') (bx:BxI α Γ' H') (k:∀ b o,H b=some o->¬Ah Γ α b->H' b=some o):OI f α Γ0 H0 l Γ' H' as E:=by
 have hn:∀ b,H0 b=none->¬Ah Γ α b:=fun b hb ⟨m,xs,e,z⟩=>h.bz m xs e (by rw[z];exact hb)
 refine ⟨h.own.mv k (fun b hb=>?_) (fun b x hb z=>?_),bx,fun m xs e=>?_,fun b o e n'=>k b o (h.keep b o e n') ?_,fun m xs e=>?_,fun m xs e=>?_,h.fb,h.fl,h.fs⟩
 ·rcases List.mem_cons.mp hb with z | z
  ·rw[z];exact hn l h.fl
  ·exact hn b (h.fs b z)
 ·obtain ⟨i,e⟩:=h.bx.live z
  rw[hb] at e
  cases e
 ·obtain ⟨ys,e'⟩:=dd.lv dk e
  exact h.bz m ys e'
 ·rintro ⟨m,xs,e1,z⟩
  obtain ⟨ys,e2⟩:=h.lw m xs e1
  exact n' ⟨m,ys,e2,z⟩
 ·obtain ⟨ys,e'⟩:=h.lv m xs e
  by_cases c:m=n
  ·subst c
   obtain ⟨i,e2,_⟩:=dd.dk dk
   exact ⟨_,e2⟩
  ·exact ⟨ys,by rw[dd.out c];exact e'⟩
 ·obtain ⟨ys,e'⟩:=dd.lv dk e
  exact h.lw m ys e'
end
theorem ET {n k:Nat} (h:k<n):ixN n (k:Int)=some k:=by
 unfold ixN
 rw[if_pos (by lia),if_pos (by lia),Int.toNat_natCast]
theorem EH {w c:Int} {ds:List (Option D)} (h:ds[4]?=some (some (.int w))):AO (mOp Al (AA 4) (mC (.int c))) (slD ds)=some (decide (w=c),slD ds):=by
 refine BB (Aa (x:=.v (.int w)) (y:=.v (.int c)) (s1:=slD ds) (s2:=slD ds) ?_ rfl rfl)
 unfold AA
 rw[show (slD ds).σ[4]?=some (some (.v (.int w))) by rw[List.getElem?_map,h];rfl]
def E9 (c:Int) (op:List (List Th)->List (List Th)->Nat->Nat->Nat->Int->List (List Th)):TS:=fun Z σ H=>∃ (f:Fr) (α:Nat->Addr) (Γ0:Gm) (H0:Hp) (l:Addr) (Γ:Gm) (as:List Addr) (rs E:List (List Th)) (k a t:Nat) (w:Int) (r:List Th) (x u:Th) (y0 y1:Option V),
 σ=[y0,y1,some (.ref l),some (.int (k:Int)),some (.int w),some (.int (a:Int)),some (.int (t:Int)),some (.int x.1),some (.str x.2)]/\OI f α Γ0 H0 l Γ H as E/\(w=c->E=rs)/\rs[k]?=some r/\r[a]?=some x/\r[t]?=some u/\Tg x.2/\rs.length<=6/\r.length<=200/\∀ H2,OI f α Γ0 H0 l Γ H2 as (op rs E k a t w)->Z.nx σ H2
def PX:TS:=fun Z σ H=>∃ (f:Fr) (α:Nat->Addr) (Γ0:Gm) (H0:Hp) (l:Addr) (Γ:Gm) (as:List Addr) (E:List (List Th)) (k:Nat) (w:Int) (y0 y1 y5 y6 y7 y8:Option V),
 σ=[y0,y1,some (.ref l),some (.int (k:Int)),some (.int w),y5,y6,y7,y8]/\OI f α Γ0 H0 l Γ H as E/\k<E.length/\E.length<=6/\∀ H2 as2,OI f α Γ0 H0 l Γ H2 as2 (oB E k w)->Z.rt (.ref l) H2
def Vh:TS:=fun Z σ H=>∃ (f:Fr) (α:Nat->Addr) (Γ0:Gm) (H0:Hp) (l:Addr) (Γ:Gm) (as:List Addr) (E:List (List Th)) (k:Nat) (w:Int) (y0 y1 y5 y6 y7 y8:Option V),
 σ=[y0,y1,some (.ref l),some (.int (k:Int)),some (.int w),y5,y6,y7,y8]/\OI f α Γ0 H0 l Γ H as E/\(w=5->k<E.length)/\E.length<=7/\∀ H2 as2,OI f α Γ0 H0 l Γ H2 as2 (o5 E k w)->Z.rt (.ref l) H2
def Om:TS:=fun Z σ H=>∃ (f:Fr) (α:Nat->Addr) (Γ0:Gm) (H0:Hp) (l:Addr) (Γ:Gm) (as:List Addr) (rs:List (List Th)) (k:Nat) (w:Int) (n:Nat) (r:List Th) (y1 y5 y6 y7 y8:Option V),
 σ=[some (.ref (α n)),y1,some (.ref l),some (.int (k:Int)),some (.int w),y5,y6,y7,y8]/\OI f α Γ0 H0 l Γ H as rs/\Dk Γ n/\(∀ (i j:Nat) (xs ys:List D),Γ0[i]?=some (some xs)->Γ0[j]?=some (some ys)->α i=α j->i=j)/\rs[k]?=some r/\r≠[]/\WrR rs /\
 ∀ (a t:Nat) (Γ3 Γ4:Gm) (H2:Hp) (y5 y6 y7 y8:Option V),Bb [.b n,.v (.int (r.length:Nat))] Γ=some (.int (a:Int),Γ3)->Bb [.b n,.v (.int (r.length:Nat))] Γ3=some (.int (t:Int),Γ4)->Dd n Γ Γ4->a<r.length->t<r.length->OI f α Γ0 H0 l Γ4 H2 as (oA rs k a t w)->Z.nx [some (.ref (α n)),y1,some (.ref l),some (.int (k:Int)),some (.int w),y5,y6,y7,y8] H2
theorem OI.inj {f:Fr} {α:Nat->Addr} {Γ0 Γ:Gm} {H0 H:Hp} {l:Addr} {as:List Addr} {E:List (List Th)} (h:OI f α Γ0 H0 l Γ H as E) (hi:∀ (i j:Nat) (xs ys:List D),Γ0[i]?=some (some xs)->Γ0[j]?=some (some ys)->α i=α j->i=j):∀ (i j:Nat) (xs ys:List D),Γ[i]?=some (some xs)->Γ[j]?=some (some ys)->α i=α j->i=j:=fun i j xs ys e1 e2=>
 let ⟨us,e1⟩:=h.lw i xs e1
 let ⟨vs,e2⟩:=h.lw j ys e2
 hi i j us vs e1 e2
theorem K3 {a b:MT} {S:DS} {p q:Bool} (h1:a S=some (p,S)) (h2:b S=some (q,S)):DB a b S=some (p && q,S):=by
 unfold DB
 rw[h1]
 cases p
 ·rfl
 ·exact h2
theorem LL {S:DS} {E:List (List Th)} (h:AA 2 S=some (.v (AM E),S)):AN A9 (AB (AA 2) AC) S=some (.v (.int (E.length:Nat)),S):=Cf h (by show some (D.int ((E.map AL).length:Nat))=_;rw[List.length_map])
def DP (w:Int) (E:List (List Th)):List (Option D):=[none,none,some (AM E),none,some (.int w),none,none,none,none]
theorem WB {w:Int} {E:List (List Th)}:DB (AO (mOp Al (AA 4) (mC (.int 4)))) (AO (mOp DD (AN A9 (AB (AA 2) AC)) (mC (.int 6)))) (slD (DP w E))=some (decide (w=4/\E.length<6),slD (DP w E)):=by
 rw[K3 (EH (w:=w) rfl) (BB (Aa (g:=DD) (LL (E:=E) rfl) (y:=.v (.int 6)) (s2:=slD (DP w E)) rfl (z:=.bl (decide (((E.length:Nat):Int)<6))) rfl))]
 congr 2
 rw[Bool.decide_and]
 congr 1
 exact decide_eq_decide.mpr (by lia)
theorem VT {w:Int} {E:List (List Th)}:DB (AO (mOp Al (AA 4) (mC (.int 5)))) (AO (mOp gGt (AN A9 (AB (AA 2) AC)) (mC (.int 1)))) (slD (DP w E))=some (decide (w=5/\1<E.length),slD (DP w E)):=by
 rw[K3 (EH (w:=w) rfl) (BB (Aa (g:=gGt) (LL (E:=E) rfl) (y:=.v (.int 1)) (s2:=slD (DP w E)) rfl (z:=.bl (decide ((1:Int)<((E.length:Nat):Int)))) rfl))]
 congr 2
 rw[Bool.decide_and]
 congr 1
 exact decide_eq_decide.mpr (by lia)
def sl4 (w:Int):List (Option D):=[none,none,none,none,some (.int w),none,none,none,none]
theorem GP {K:PySem.W.Frag} {H:Hp} {w:Int} {y0 y1 y2 y3 y5 y6 y7 y8:Option V}:Sl K H (sl4 w) [y0,y1,y2,y3,some (.int w),y5,y6,y7,y8]:=.skip (.skip (.skip (.skip (.cons (by unfold Rep;rfl) (.skip (.skip (.skip (.skip .nil))))))))
theorem UP {P:Program} {w:World} {K:PySem.W.Frag} {mg:Str->Option Value} {base:Heap} {fa:Addr} {fd:FuncData} (F:Fun K "_law_otherwise" "_law_otherwise" Gv fa fd) (T:Nm mg) {zN:Addr} {zO:FuncData} (zA:Cal P w K mg base "_law_take" 1 zN zO ["deck","many"] (spD K 2 Bb)):FnOk P w K mg base CX0 2 fa fd ["deck","rows"] (spF K 2 (Ap 9 Ey)):=
 DH F sc__law_otherwise fun cdv A outer s H E hr=>fun f hf=>PSs.imp
  (Bp (NY (i:=2) sc__law_otherwise.nd rfl rfl (esc:=(AW Gv)) (N:=MY) (tn:=["row"]) (fn:=[]) (ix:=[]) rfl rfl rfl ⟨rfl,by decide +kernel,by decide +kernel,by decide +kernel,rfl,by decide +kernel⟩ (SX (K:=K) rfl (pv 1)) (fun _ _ _ _ _=>(Ay (i:=0) (show (["row"]:List Str).Nodup by decide +kernel) rfl (Or.inl rfl))) (fun _ _ _ _ _=>LJ)
   (fun _ _ _ _ _=>JW (UI (K:=K) rfl) (by rfl) T.list PyProof.Rows.boot_list (Az (pv 0) BS)))
  (Bp (Aw (i:=3) sc__law_otherwise.nd rfl (Or.inl rfl) (EL zA.G hr rfl zA.m zA.k zA.b .nil D5 (Az (pv 0) (Az (DX Je (by rfl) T.len PySem.boot_len (Az (pv 2) BS)) BS))))
  (Bp (Aw (i:=4) sc__law_otherwise.nd rfl (Or.inl rfl) (EL zA.G hr rfl zA.m zA.k zA.b .nil D5 (Az (pv 0) (Az Hk BS))))
  (Bp (C6 (DT.xK (K:=K) rfl (CP hr.units (A7 (AD (pv 2)) (AD (pv 3))) (An (B7 AG))))
   (PSs.imp (t':=Om) (Bp (Aw (i:=5) sc__law_otherwise.nd rfl (Or.inl rfl) (EL zA.G hr rfl zA.m zA.k zA.b .nil D5 (Az (pv 0) (Az (DX Je (by rfl) T.len PySem.boot_len (Az (B6 ix_list (pv 2) (pv 3) (fun _ _=>rfl)) BS)) BS))))
   (Bp (Aw (i:=6) sc__law_otherwise.nd rfl (Or.inl rfl) (EL zA.G hr rfl zA.m zA.k zA.b .nil D5 (Az (pv 0) (Az (DX Je (by rfl) T.len PySem.boot_len (Az (B6 ix_list (pv 2) (pv 3) (fun _ _=>rfl)) BS)) BS))))
   (Bp (Er (B6 ix_list (B6 ix_list (pv 2) (pv 3) (fun _ _=>rfl)) (pv 5) (fun _ _=>rfl)) (E1 (K:=K) (n:=2) rfl rfl (B8 (Ay (i:=7) sc__law_otherwise.nd rfl (Or.inl rfl)) (B8 (Ay (i:=8) sc__law_otherwise.nd rfl (Or.inl rfl)) Ez))))
   (Bp (PS.imp (t':=E9 0 o0) (C6 (DT.xK (K:=K) rfl (Bs hr.units (AD (pv 4)) AF)) (Cj (Er (Gp (Az (DE.xK (K:=K) rfl (BF (AD (pv 7)) AF)) (Az (pv 8) BS))) (Fq (B6 ix_list (pv 2) (pv 3) (fun _ _=>rfl)) (pv 5) set_list))) C2) (fun D σ H h=>by
    obtain ⟨f,α,Γ0,H0,l,Γ,as,rs,E,k,a,t,w,r,x,u,y0,y1,rfl,oi,hE,hr1,hx,hu,ht,h6,h200,q⟩:=h
    refine DV GP (EH (w:=w) rfl) fun H1 g1=>?_
    have oi1:=oi.grow g1
    by_cases c:w=0
    case neg=>
     rw[decide_eq_false c]
     refine Da (q _ ?_)
     unfold o0
     rw[if_neg c]
     exact oi1
    rw[decide_eq_true c]
    refine DU ?_
    have hE:=hE c
    subst hE
    have hrD:E.getD k []=r:=by rw[List.getD_eq_getElem?_getD,hr1];rfl
    have hxD:r.getD a th0=x:=by rw[List.getD_eq_getElem?_getD,hx];rfl
    have huD:r.getD t th0=u:=by rw[List.getD_eq_getElem?_getD,hu];rfl
    have hal:=(List.getElem?_eq_some_iff.mp hx).1
    have htl:=(List.getElem?_eq_some_iff.mp hu).1
    obtain ⟨b,vs,hb,hvs,ths⟩:=oi1.own.at hr1
    have hvl:=ths.len
    have at_:atI (as.map V.ref) (k:Int)=some (.ref b):=Bo (by rw[List.getElem?_map,hb];rfl)
    refine MQ (ds:=[none,none,none,none,none,none,none,some (.int x.1),none]) (.skip (.skip (.skip (.skip (.skip (.skip (.skip (.cons (by unfold Rep;rfl) (.skip .nil))))))))) (CB (a:=AA 7) (b:=mC (.int 1)) (i:=x.1) (j:=1) rfl rfl) fun v H2 g2 rv=>?_
    unfold Rep at rv
    subst rv
    refine ⟨_,rfl,Ev.small (show 2<=1000000 by decide),fun p hp=>?_⟩
    have oi2:=oi1.grow g2
    have oi3:=oi2.grow (Grow.new (o:=.tup [.int (x.1+1),.str x.2]) hp)
    have hvs3:=Grow.new (o:=.tup [.int (x.1+1),.str x.2]) hp _ _ (g2 _ _ hvs)
    refine ⟨_,rfl,_,rfl,l,_,_,_,rfl,rfl,SqL.of oi3.own.hd,at_,_,rfl,b,vs,_,a,rfl,rfl,hvs3,ET (by lia),q _ ?_⟩
    unfold o0
    rw[if_pos c,hrD,hxD]
    exact oi3.put hb hvs3 (ThsG.set ((ths.tk (.of g2)).tk (.new hp)) (oi2.good hp) Ak)))
   (Bp (PS.imp (t':=E9 1 o1) (C6 (DT.xK (K:=K) rfl (Bs hr.units (AD (pv 4)) AF)) (Cj (Er (Gp (Az (pv 7) (Az (DE.xK (K:=K) rfl (E4 (BF (BF (E4 (AD (pv 8)) Gy (GA (Pd AF))) (A7 As (Bh (AD (pv 5)) AF))) As) Gy (GA AF))) BS))) (Fq (B6 ix_list (pv 2) (pv 3) (fun _ _=>rfl)) (pv 5) set_list))) C2) (fun D σ H h=>by
    obtain ⟨f,α,Γ0,H0,l,Γ,as,rs,E,k,a,t,w,r,x,u,y0,y1,rfl,oi,hE,hr1,hx,hu,ht,h6,h200,q⟩:=h
    refine DV GP (EH (w:=w) rfl) fun H1 g1=>?_
    have oi1:=oi.grow g1
    by_cases c:w=1
    case neg=>
     rw[decide_eq_false c]
     refine Da (q _ ?_)
     unfold o1
     rw[if_neg c]
     exact oi1
    rw[decide_eq_true c]
    refine DU ?_
    have hE:=hE c
    subst hE
    have hrD:E.getD k []=r:=by rw[List.getD_eq_getElem?_getD,hr1];rfl
    have hxD:r.getD a th0=x:=by rw[List.getD_eq_getElem?_getD,hx];rfl
    have huD:r.getD t th0=u:=by rw[List.getD_eq_getElem?_getD,hu];rfl
    have hal:=(List.getElem?_eq_some_iff.mp hx).1
    have htl:=(List.getElem?_eq_some_iff.mp hu).1
    obtain ⟨b,vs,hb,hvs,ths⟩:=oi1.own.at hr1
    have hvl:=ths.len
    have at_:atI (as.map V.ref) (k:Int)=some (.ref b):=Bo (by rw[List.getElem?_map,hb];rfl)
    refine ⟨_,rfl,?_⟩
    refine MQ (ds:=[none,none,none,none,none,some (.int (a:Int)),none,none,some (.str x.2)]) (.skip (.skip (.skip (.skip (.skip (.cons (by unfold Rep;rfl) (.skip (.skip (.cons (by unfold Rep;rfl) .nil))))))))) (To ht rfl rfl) fun v H2 g2 rv=>?_
    unfold Rep at rv
    subst rv
    refine ⟨Ev.small (show 2<=1000000 by decide),fun p hp=>?_⟩
    have oi2:=oi1.grow g2
    have oi3:=oi2.grow (Grow.new (o:=.tup [.int x.1,.str (CT x.2 a)]) hp)
    have hvs3:=Grow.new (o:=.tup [.int x.1,.str (CT x.2 a)]) hp _ _ (g2 _ _ hvs)
    refine ⟨_,rfl,_,rfl,l,_,_,_,rfl,rfl,SqL.of oi3.own.hd,at_,_,rfl,b,vs,_,a,rfl,rfl,hvs3,ET (by lia),q _ ?_⟩
    unfold o1
    rw[if_pos c,hrD,hxD]
    exact oi3.put hb hvs3 (ThsG.set ((ths.tk (.of g2)).tk (.new hp)) (oi2.good hp) Ak)))
   (Bp (PS.imp (t':=E9 2 o2) (C6 (DT.xK (K:=K) rfl (Bs hr.units (AD (pv 4)) AF)) (Bp (Er (B6 ix_list (B6 ix_list (pv 2) (pv 3) (fun _ _=>rfl)) (pv 6) (fun _ _=>rfl)) (Fq (B6 ix_list (pv 2) (pv 3) (fun _ _=>rfl)) (pv 5) set_list)) (Cj (Er (Gp (Az (pv 7) (Az (pv 8) BS))) (Fq (B6 ix_list (pv 2) (pv 3) (fun _ _=>rfl)) (pv 6) set_list)))) C2) (fun D σ H h=>by
    obtain ⟨f,α,Γ0,H0,l,Γ,as,rs,E,k,a,t,w,r,x,u,y0,y1,rfl,oi,hE,hr1,hx,hu,ht,h6,h200,q⟩:=h
    refine DV GP (EH (w:=w) rfl) fun H1 g1=>?_
    have oi1:=oi.grow g1
    by_cases c:w=2
    case neg=>
     rw[decide_eq_false c]
     refine Da (q _ ?_)
     unfold o2
     rw[if_neg c]
     exact oi1
    rw[decide_eq_true c]
    refine DU ?_
    have hE:=hE c
    subst hE
    have hrD:E.getD k []=r:=by rw[List.getD_eq_getElem?_getD,hr1];rfl
    have hxD:r.getD a th0=x:=by rw[List.getD_eq_getElem?_getD,hx];rfl
    have huD:r.getD t th0=u:=by rw[List.getD_eq_getElem?_getD,hu];rfl
    have hal:=(List.getElem?_eq_some_iff.mp hx).1
    have htl:=(List.getElem?_eq_some_iff.mp hu).1
    obtain ⟨b,vs,hb,hvs,ths⟩:=oi1.own.at hr1
    have hvl:=ths.len
    have at_:atI (as.map V.ref) (k:Int)=some (.ref b):=Bo (by rw[List.getElem?_map,hb];rfl)
    obtain ⟨bu,hbu,Gu,hHu⟩:=ths.at hu
    refine ⟨_,rfl,_,rfl,l,_,_,_,rfl,rfl,SqL.of oi1.own.hd,at_,_,rfl,b,vs,_,_,rfl,rfl,SqL.of hvs,Bo hbu,_,rfl,_,rfl,l,_,_,_,rfl,rfl,SqL.of oi1.own.hd,at_,_,rfl,b,vs,_,a,rfl,rfl,hvs,ET (by lia),?_⟩
    have oi2:=oi1.put hb hvs (ths.set (i:=a) Gu hHu)
    have ths2:ThsG (fun b=>¬f.F b) (upd H1 b (.lst (vs.set a (.ref bu)))) (r.set a u) (vs.set a (.ref bu)):=(ths.set (i:=a) Gu hHu).tk (Tk.put hvs)
    have hvs2:(upd H1 b (.lst (vs.set a (.ref bu)))) b=some (.lst (vs.set a (.ref bu))):=Ak
    refine ⟨_,rfl,_,rfl,Ev.small (show 2<=1000000 by decide),fun p hp=>?_⟩
    have oi3:=oi2.grow (Grow.new (o:=.tup [.int x.1,.str x.2]) hp)
    have hvs3:=Grow.new (o:=.tup [.int x.1,.str x.2]) hp _ _ hvs2
    refine ⟨_,rfl,_,rfl,l,_,_,_,rfl,rfl,SqL.of oi3.own.hd,at_,_,rfl,b,_,_,t,rfl,rfl,hvs3,ET (by rw[List.length_set];lia),q _ ?_⟩
    unfold o2
    rw[if_pos c,hrD,hxD,huD]
    have:=oi3.put hb hvs3 (ThsG.set (i:=t) (t:=x) (ths2.tk (.new hp)) (oi2.good hp) Ak)
    rw[List.set_set] at this
    exact this))
   (Cj (PS.imp (t':=E9 3 o3) (C6 (DT.xK (K:=K) rfl (Bs hr.units (AD (pv 4)) AF)) (Cj (Fy (EZ PySem.F.plainAttrs_list PySem.F.slot_list_pop PySem.F.type_list_pop NW (B6 ix_list (pv 2) (pv 3) (fun _ _=>rfl)) (Az (pv 5) BS)))) C2) (fun D σ H h=>by
    obtain ⟨f,α,Γ0,H0,l,Γ,as,rs,E,k,a,t,w,r,x,u,y0,y1,rfl,oi,hE,hr1,hx,hu,ht,h6,h200,q⟩:=h
    refine DV GP (EH (w:=w) rfl) fun H1 g1=>?_
    have oi1:=oi.grow g1
    by_cases c:w=3
    case neg=>
     rw[decide_eq_false c]
     refine Da (q _ ?_)
     unfold o3
     rw[if_neg c]
     exact oi1
    rw[decide_eq_true c]
    refine DU ?_
    have hE:=hE c
    subst hE
    have hrD:E.getD k []=r:=by rw[List.getD_eq_getElem?_getD,hr1];rfl
    have hxD:r.getD a th0=x:=by rw[List.getD_eq_getElem?_getD,hx];rfl
    have huD:r.getD t th0=u:=by rw[List.getD_eq_getElem?_getD,hu];rfl
    have hal:=(List.getElem?_eq_some_iff.mp hx).1
    have htl:=(List.getElem?_eq_some_iff.mp hu).1
    obtain ⟨b,vs,hb,hvs,ths⟩:=oi1.own.at hr1
    have hvl:=ths.len
    have at_:atI (as.map V.ref) (k:Int)=some (.ref b):=Bo (by rw[List.getElem?_map,hb];rfl)
    obtain ⟨bx,hbx,_,_⟩:=ths.at hx
    refine ⟨_,rfl,_,rfl,l,_,_,_,rfl,rfl,SqL.of oi1.own.hd,at_,.inl ⟨rfl,_,SqL.of hvs⟩,_,rfl,b,vs,_,a,_,rfl,rfl,hvs,by lia,by lia,(FF (ET (by lia))).1,hbx,q _ ?_⟩
    unfold o3
    rw[if_pos c,hrD]
    exact oi1.put hb hvs ths.del))))))))) (fun D σ H h=>by
    obtain ⟨f,α,Γ0,H0,l,Γ,as,rs,k,w,n,r,y1,y5,y6,y7,y8,rfl,oi,dk,inj,hr1,hrne,W,q⟩:=h
    obtain ⟨b,vs,hb,hvs,ths⟩:=oi.own.at hr1
    have hrl:0<r.length:=List.length_pos_iff.mpr hrne
    have h200:=(W.2.2 r (List.mem_of_getElem? hr1)).1
    have at_:atI (as.map V.ref) (k:Int)=some (.ref b):=Bo (by rw[List.getElem?_map,hb];rfl)
    obtain ⟨a,Γ3,ea,ha0,hal,dda⟩:=B5 (n:=n) (m:=(r.length:Nat)) dk (by lia)
    obtain ⟨a,rfl⟩:∃ a':Nat,a=a':=⟨a.toNat,by lia⟩
    have dk3:=dda.dk dk
    obtain ⟨t,Γ4,et,ht0,htl,ddt⟩:=B5 (n:=n) (m:=(r.length:Nat)) dk3 (by lia)
    obtain ⟨t,rfl⟩:∃ t':Nat,t=t':=⟨t.toNat,by lia⟩
    refine ⟨_,rfl,_,rfl,_,rfl,l,_,_,_,rfl,rfl,SqL.of oi.own.hd,at_,b,_,rfl,.inl (SqL.of hvs),?_⟩
    dsimp only[Ds,List.cons_append,List.nil_append]
    rw[ths.len]
    refine FG oi.bx (oi.inj inj) dk ea dda fun H1 bx1 k1=>?_
    have oi1:=oi.take dk dda bx1 k1
    obtain ⟨b,vs,hb,hvs,ths⟩:=oi1.own.at hr1
    have at_:atI (as.map V.ref) (k:Int)=some (.ref b):=Bo (by rw[List.getElem?_map,hb];rfl)
    refine ⟨_,rfl,_,rfl,_,rfl,l,_,_,_,rfl,rfl,SqL.of oi1.own.hd,at_,b,_,rfl,.inl (SqL.of hvs),?_⟩
    dsimp only[Ds,List.cons_append,List.nil_append]
    rw[ths.len]
    refine FG oi1.bx (oi1.inj inj) dk3 et ddt fun H2 bx2 k2=>?_
    have oi2:=oi1.take dk3 ddt bx2 k2
    obtain ⟨b,vs,hb,hvs,ths⟩:=oi2.own.at hr1
    have at_:atI (as.map V.ref) (k:Int)=some (.ref b):=Bo (by rw[List.getElem?_map,hb];rfl)
    have hx:r[a]?=some r[a]:=List.getElem?_eq_getElem (by lia)
    have hu:r[t]?=some r[t]:=List.getElem?_eq_getElem (by lia)
    obtain ⟨bx,hbx,_,hHx⟩:=ths.at hx
    have htg:=((W.2.2 r (List.mem_of_getElem? hr1)).2 _ (List.mem_of_getElem? hx)).2
    refine ⟨_,rfl,_,rfl,l,_,_,_,rfl,rfl,SqL.of oi2.own.hd,at_,_,rfl,b,vs,_,_,rfl,rfl,SqL.of hvs,Bo hbx,bx,_,rfl,SqT.of hHx,rfl,?_⟩
    have tl:∀ c:Int,∀ op:List (List Th)->List (List Th)->Nat->Nat->Nat->Int->List (List Th),True:=fun _ _=>trivial
    refine ⟨_,_,rfl,_,_,rfl,rfl,?_⟩
    refine ⟨f,α,Γ0,H0,l,Γ4,as,rs,rs,k,a,t,w,r,r[a],r[t],_,_,rfl,oi2,fun _=>rfl,hr1,hx,hu,htg,W.2.1,h200,fun H3 oi3=>?_⟩
    refine ⟨f,α,Γ0,H0,l,Γ4,as,rs,o0 rs rs k a t w,k,a,t,w,r,r[a],r[t],_,_,rfl,oi3,fun z=>by unfold o0;rw[if_neg (by lia)],hr1,hx,hu,htg,W.2.1,h200,fun H4 oi4=>?_⟩
    refine ⟨f,α,Γ0,H0,l,Γ4,as,rs,o1 rs (o0 rs rs k a t w) k a t w,k,a,t,w,r,r[a],r[t],_,_,rfl,oi4,fun z=>by unfold o1 o0;rw[if_neg (by lia),if_neg (by lia)],hr1,hx,hu,htg,W.2.1,h200,fun H5 oi5=>?_⟩
    refine ⟨f,α,Γ0,H0,l,Γ4,as,rs,o2 rs (o1 rs (o0 rs rs k a t w) k a t w) k a t w,k,a,t,w,r,r[a],r[t],_,_,rfl,oi5,fun z=>by unfold o2 o1 o0;rw[if_neg (by lia),if_neg (by lia),if_neg (by lia)],hr1,hx,hu,htg,W.2.1,h200,fun H6 oi6=>?_⟩
    exact q a t Γ3 Γ4 H6 _ _ _ _ ea et (dda.trans ddt) (by lia) (by lia) oi6)) C2)
  (PSs.imp (t':=PX) (Bp (C6 (DT.xK (K:=K) rfl (Dj (JI (Bs hr.units (AD (pv 4)) AF) (Hb (Hc hr.units0 (Cp T (AE (AD (pv 2)) AG)) AF))))) (Cj (Fy (EZ PySem.F.plainAttrs_list PySem.F.slot_list_insert PySem.F.type_list_insert O2 (pv 2) (Az (pv 3) (Az (Ki BS) BS))))) C2)
   (PSs.imp (t':=Vh) (Bp (C6 (DT.xK (K:=K) rfl (Dj (JI (Bs hr.units (AD (pv 4)) AF) (Hb (R4 (Cp T (AE (AD (pv 2)) AG)) AF))))) (Cj (Fy (EZ PySem.F.plainAttrs_list PySem.F.slot_list_pop PySem.F.type_list_pop NW (pv 2) (Az (pv 3) BS)))) C2) (Cj (Ic (pv 2)))) (fun D σ H h=>by
    obtain ⟨f,α,Γ0,H0,l,Γ,as,E,k,w,y0,y1,y5,y6,y7,y8,rfl,oi,hk,h7,q⟩:=h
    refine DV (ds:=DP w E) (.skip (.skip (.cons oi.own.repQ (.skip (.cons (by unfold Rep;rfl) (.skip (.skip (.skip (.skip .nil))))))))) VT fun H1 g1=>?_
    have oi1:=oi.grow g1
    have hl1:=oi1.own.len
    by_cases c:w=5/\1<E.length
    case neg=>
     rw[decide_eq_false c]
     refine Da ⟨_,rfl,q _ as ?_⟩
     unfold o5
     rw[if_neg c]
     exact oi1
    rw[decide_eq_true c]
    have hk:=hk c.1
    have hka:k<(as.map V.ref).length:=by rw[List.length_map];lia
    refine DU ⟨_,rfl,.inl ⟨rfl,_,SqL.of oi1.own.hd⟩,_,rfl,l,_,_,k,_,rfl,rfl,oi1.own.hd,by lia,by lia,(FF (ET hka)).1,List.getElem?_eq_getElem hka,_,rfl,q _ (as.eraseIdx k) ?_⟩
    unfold o5
    rw[if_pos c]
    exact oi1.del)))
   (fun D σ H h=>by
    obtain ⟨f,α,Γ0,H0,l,Γ,as,E,k,w,y0,y1,y5,y6,y7,y8,rfl,oi,hk,h6,q⟩:=h
    refine DV (ds:=DP w E) (.skip (.skip (.cons oi.own.repQ (.skip (.cons (by unfold Rep;rfl) (.skip (.skip (.skip (.skip .nil))))))))) WB fun H1 g1=>?_
    have oi1:=oi.grow g1
    have hl1:=oi1.own.len
    by_cases c:w=4/\E.length<6
    case neg=>
     rw[decide_eq_false c]
     refine Da ⟨f,α,Γ0,H0,l,Γ,as,E,k,w,_,_,_,_,_,_,rfl,oi1,fun _=>hk,by lia,fun H2 as2 o=>q H2 as2 ?_⟩
     unfold oB o4
     rw[if_neg c]
     exact o
    rw[decide_eq_true c]
    refine DU ⟨_,rfl,.inl ⟨rfl,_,SqL.of oi1.own.hd⟩,_,rfl,Ev.small (Nat.zero_le _),fun p hp=>?_⟩
    have hlp:l≠p:=BC oi1.own.hd hp
    refine ⟨l,_,_,_,rfl,rfl,by rw[AH hlp];exact oi1.own.hd,by lia,by rw[List.length_map];lia,GC (by rw[List.length_map];lia),?_⟩
    refine ⟨f,α,Γ0,H0,l,Γ,_,E.take k++[]::E.drop k,k,w,_,_,_,_,_,_,rfl,oi1.ins hp (by lia),fun z=>by lia,by simp only[List.length_append,List.length_cons,List.length_take,List.length_drop];lia,fun H2 as2 o=>q H2 as2 ?_⟩
    unfold oB o4
    rw[if_pos c]
    exact o))))))
  (by
   intro E' σ' H' h
   obtain ⟨α,S,o,rS,lo,e,q⟩:=h
   unfold Ey at e
   split at e
   case h_2=>cases e
   rename_i n R y2 y3 y4 y5 y6 y7 y8 hS
   split at e
   case isFalse=>cases e
   rename_i hx
   obtain ⟨hR,W,dk,hI⟩:=hx.choose_spec
   generalize hx.choose=rs at *
   subst hR
   have hfK:f.K=K:=hf
   have hl9:σ'.length=9:=by rw[<-rS.len,hS];rfl
   obtain ⟨z0,z1,z2,z3,z4,z5,z6,z7,z8,rfl⟩:∃ z0 z1 z2 z3 z4 z5 z6 z7 z8,σ'=[z0,z1,z2,z3,z4,z5,z6,z7,z8]:=by
    match σ',hl9 with
    | [z0,z1,z2,z3,z4,z5,z6,z7,z8],_=>exact ⟨_,_,_,_,_,_,_,_,_,rfl⟩
   obtain ⟨v0,hv0,rv0⟩:=rS.slot 0 (.b n) (by rw[hS];rfl)
   cases hv0
   obtain ⟨hnl,rfl⟩:n<S.Γ.length/\v0=.ref (α n):=rv0
   obtain ⟨v1,hv1,rv1⟩:=rS.slot 1 (.v (AM rs)) (by rw[hS];rfl)
   cases hv1
   have rv1:Rep (wd f α S.Γ H') (AM rs) v1:=rv1
   unfold AM Rep at rv1
   obtain ⟨pa,pvs,rfl,hpB,hpa,hpv⟩:=rv1
   have hpa:H' pa=some (.lst pvs):=hpa
   have hpl:pvs.length=rs.length:=by rw[hpv.len,List.length_map]
   have h6:=W.2.1
   have h1:=W.1
   refine ⟨_,rfl,pa,rfl,⟨_,SqL.of hpa⟩,fun l hl=>?_⟩
   refine KA rs.length (fun i τ Hi=>∃ (as:List Addr) (u:Option V),τ=[u]/\Grow H' Hi/\Hi l=some (.lst (as.map V.ref))/\as.length=i/\(∀ b∈as,H' b=none/\b≠l)/\as.Nodup/\∀ (j:Nat) (b:Addr) (e:List Th),as[j]?=some b->rs[j]?=some e->∃ vs,Hi b=some (.lst vs)/\ThsG (fun b=>¬f.F b) Hi e vs) ?_ ?_ ?_ ?_ ?_
   ·exact ⟨[],none,rfl,.new hl,Ak,rfl,fun b z=>(nomatch z),.nil,fun j b e z=>by cases z⟩
   ·rintro i τ Hi hi ⟨as,u,rfl,g,_⟩
    exact ⟨_,pvs[i]'(by lia),SqL.of (g _ _ hpa),List.getElem?_eq_getElem _⟩
   ·rintro τ Hi ⟨as,u,rfl,g,_⟩
    exact ⟨_,SqL.of (g _ _ hpa),by lia⟩
   ·rintro i x τ Hi H2 hi ⟨as,u,rfl,g,hl2,hal,hfr,hnd,hit⟩ ⟨rfl,hy⟩
    have hxx:=hy _ (SqL.of (g _ _ hpa))
    have hri:rs[i]?=some rs[i]:=List.getElem?_eq_getElem hi
    obtain ⟨d,hd1,hd2⟩:=hpv.get' hxx
    rw[List.getElem?_map,hri] at hd1
    cases hd1
    unfold AL Rep at hd2
    obtain ⟨ra,rvs,rfl,hrB,hra,hrv⟩:=hd2
    have hra:H' ra=some (.lst rvs):=hra
    have ths:=Pj hrv
    dsimp only[Dh,Ma]
    rw[if_pos rfl]
    refine ⟨_,rfl,ra,rvs,rfl,.inl (SqL.of (g _ _ hra)),fun a ha=>?_⟩
    have hla:l≠a:=BC hl2 ha
    have hl5:(upd H2 a (.lst rvs)) l=some (.lst (as.map V.ref)):=by rw[AH hla];exact hl2
    have tk4:Tk H2 (upd (upd H2 a (.lst rvs)) l (.lst (as.map V.ref++[.ref a]))):=(Tk.new (o:=.lst rvs) ha).trans (Tk.put hl5)
    refine ⟨as.map V.ref,hl5,GC (by rw[List.length_map];lia),as++[a],_,rfl,?_,?_,by rw[List.length_append,hal];rfl,?_,?_,?_⟩
    ·intro b o e
     have hb:b≠l:=fun z=>by rw[z,hl] at e;cases e
     have h4:=g b o e
     rw[AH hb,AH (BC h4 ha)]
     exact h4
    ·rw[Ak,List.map_append];rfl
    ·intro b hb
     rcases List.mem_append.mp hb with hb | hb
     ·exact hfr b hb
     ·rw[List.mem_singleton] at hb
      subst hb
      exact ⟨g.none ha,Ne.symm hla⟩
    ·rw[List.nodup_append]
     refine ⟨hnd,by simp,fun b hb c hc=>?_⟩
     rw[List.mem_singleton] at hc
     subst hc
     obtain ⟨j,hj⟩:=List.getElem?_of_mem hb
     have hjl:j<rs.length:=by
      have:=(List.getElem?_eq_some_iff.mp hj).1
      lia
     obtain ⟨vs,h4,_⟩:=hit j b _ hj (List.getElem?_eq_getElem hjl)
     exact BC h4 ha
    ·intro j b e hj he
     by_cases c:j<as.length
     ·rw[List.getElem?_append_left c] at hj
      obtain ⟨vs,h0,h5⟩:=hit j b e hj he
      refine ⟨vs,?_,h5.tk tk4⟩
      rw[AH (hfr b (List.mem_of_getElem? hj)).2,AH (BC h0 ha)]
      exact h0
     ·rw[List.getElem?_append_right (by lia)] at hj
      have hj0:j=i:=by
       have:=(List.getElem?_eq_some_iff.mp hj).1
       simp at this
       lia
      subst hj0
      rw[hal,Nat.sub_self] at hj
      cases hj
      rw[hri] at he
      cases he
      exact ⟨rvs,by rw[AH (Ne.symm hla),Ak],(ths.tk (.of g)).tk tk4⟩
   ·rintro τ Hi ⟨as,u,rfl,g,hl2,hal,hfr,hnd,hit⟩
    have bx0:BxI α S.Γ H':=fun m xs hm=>by
     obtain ⟨i,rfl⟩:=hI m xs hm
     obtain ⟨vs,b1,b2⟩:=rS.box m _ hm
     rw[b2.ints] at b1
     exact ⟨i,rfl,b1⟩
    have oi:OI f α S.Γ H' l S.Γ Hi as rs:=⟨⟨hnd,fun z=>(hfr l z).2 rfl,hl2,hal,hit⟩,bx0.grow g,fun m xs hm=>by
     obtain ⟨i,_,b1⟩:=bx0 m xs hm
     rw[b1]
     exact fun z=>(nomatch z),fun b o e _=>g b o e,fun m xs e=>⟨xs,e⟩,fun m xs e=>⟨xs,e⟩,rS.forb,hl,fun b hb=>(hfr b hb).1⟩
    obtain ⟨h,Γ1,e1,h0,hlt,dd1⟩:=B5 (n:=n) (m:=(rs.length:Nat)) dk (by lia)
    obtain ⟨k,rfl⟩:∃ k':Nat,h=k':=⟨h.toNat,by lia⟩
    have dk1:=dd1.dk dk
    obtain ⟨w,Γ2,e2,w0,wlt,dd2⟩:=B5 (n:=n) (m:=7) dk1 (by decide)
    have dk2:=dd2.dk dk1
    refine ⟨_,rfl,_,rfl,l,_,rfl,.inl (SqL.of oi.own.hd),?_⟩
    dsimp only[Ds,List.cons_append,List.nil_append]
    rw[show (as.map V.ref).length=rs.length by rw[List.length_map,hal]]
    refine FG oi.bx rS.inj dk e1 dd1 fun H1 bx1 k1=>?_
    have oi1:=oi.take dk dd1 bx1 k1
    refine ⟨_,rfl,?_⟩
    dsimp only[Ds,tC,List.cons_append,List.nil_append]
    refine FG (E:=E) oi1.bx (oi1.inj rS.inj) dk1 e2 dd2 fun H2 bx2 k2=>?_
    have oi2:=oi1.take dk1 dd2 bx2 k2
    have hk:k<rs.length:=by lia
    have hrk:rs[k]?=some rs[k]:=List.getElem?_eq_getElem hk
    have fin:∀ (Γ':Gm) (H3:Hp) (as3:List Addr) (E3:List (List Th)),OI f α S.Γ H' l Γ' H3 as3 E3->Γ'.length=S.Γ.length->o=.rf (E3.map AL) ⟨[none,none,none,none,none,none,none,none,none],Γ',S.lo⟩->E'.rt (.ref l) H3:=fun Γ' H3 as3 E3 oi3 hlen ho=>by
     subst ho
     have nl:∀ b,H' b=none->¬Ah Γ' α b:=fun b hb ⟨m,xs,e,z⟩=>oi3.bz m xs e (by rw[z];exact hb)
     have lw:∀ b,Ah Γ' α b->Ah S.Γ α b:=fun b ⟨m,xs,e,z⟩=>let ⟨ys,e2⟩:=oi3.lw m xs e;⟨m,ys,e2,z⟩
     have hb0:∀ b o,H' b=some o->¬Ah S.Γ α b->CH H3 l b=some o:=fun b o e n'=>by
      unfold CH
      rw[if_neg (fun z=>by rw[z,oi3.fl] at e;cases e)]
      exact oi3.keep b o e n'
     have Rf:=q α [none,none,none,none,none,none,none,none,none] l (as3.map V.ref) (CH H3 l) ⟨rfl,fun i d z=>?_,fun m xs e=>?_,fun m xs e=>?_,oi3.inj rS.inj,fun b o e nL=>?_,fun b z=>?_⟩ rfl ⟨⟨rfl,fun b o n' e=>?_⟩,by rw[hlen];exact Nat.le_refl _,fun _ _=>rfl,fun m xs _ e=>oi3.lw m xs e⟩ (by unfold CH;rw[if_pos rfl]) ?_
     ·rw[Vy oi3.own.hd] at Rf
      exact Rf
     ·match i,z with
      | 0,z=>cases z
      | 1,z=>cases z
      | 2,z=>cases z
      | 3,z=>cases z
      | 4,z=>cases z
      | 5,z=>cases z
      | 6,z=>cases z
      | 7,z=>cases z
      | 8,z=>cases z
      | i+9,z=>cases z
     ·obtain ⟨i,rfl,h2⟩:=oi3.bx m xs e
      refine ⟨_,?_,IA i⟩
      unfold CH
      rw[if_neg (fun z=>oi3.bz m _ e (by rw[z];exact oi3.fl))]
      exact h2
     ·obtain ⟨ys,e2⟩:=oi3.lw m xs e
      exact rS.own m ys e2
     ·refine hb0 b o (rS.fr b o e nL) ?_
      rintro ⟨m,xs,e2,rfl⟩
      have:=rS.own m xs e2
      split at this
      ·exact nL this
      ·rw[e] at this
       cases this
     ·intro hn
      cases e:H' b with
      | none=>exact rS.forb b z e
      | some o=>
       by_cases c:Ah S.Γ α b
       ·obtain ⟨m,xs,e2,rfl⟩:=c
        obtain ⟨ys,e3⟩:=oi3.lv m xs e2
        obtain ⟨i,_,h2⟩:=oi3.bx m ys e3
        unfold CH at hn
        rw[if_neg (fun z=>oi3.bz m _ e3 (by rw[z];exact oi3.fl)),h2] at hn
        cases hn
       ·rw[hb0 b o e c] at hn
        cases hn
     ·have nL:¬Ah S.Γ α b:=fun z=>n' (.inr z)
      exact ⟨hb0 b o e nL,fun z=>n' (z.elim .inl fun z=>.inr (lw b z))⟩
     ·have r1:Reps (⟨f.K,fun b=>(f.F b\/Ah Γ' α b)\/b=l,H3⟩:Wd) (E3.map AL) (as3.map V.ref):=OwnG.reps (W:=⟨f.K,fun b=>(f.F b\/Ah Γ' α b)\/b=l,H3⟩) oi3.own (fun b x hG hb z=>by
       rcases z with (z | z) | z
       ·exact hG z
       ·obtain ⟨i,e⟩:=oi3.bx.live z
        rw[show H3 b=some (.tup x) from hb] at e
        cases e
       ·have:=oi3.own.hd
        rw[<-z,show H3 b=some (.tup x) from hb] at this
        cases this) fun b hb z=>by
       rcases z with (z | z) | z
       ·exact oi3.fb b z (oi3.fs b hb)
       ·exact nl b (oi3.fs b hb) z
       ·exact oi3.own.na (by rw[<-z];exact hb)
      have kw:Kw (⟨f.K,fun b=>(f.F b\/Ah Γ' α b)\/b=l,H3⟩:Wd) (wd f α Γ' (CH H3 l)):=⟨rfl,fun b o n' e=>⟨by
       show CH H3 l b=some o
       unfold CH
       rw[if_neg (fun z=>n' (Or.inr z))]
       exact e,fun z=>n' (Or.inl z)⟩⟩
      exact r1.kw kw
    refine DV (ds:=[none,none,some (AM rs),some (.int (k:Int)),none,none,none,none,none]) (b:=decide (rs[k]≠[])) (.skip (.skip (.cons oi2.own.repQ (.cons (by unfold Rep;rfl) (.skip (.skip (.skip (.skip (.skip .nil))))))))) (s':=slD [none,none,some (AM rs),some (.int (k:Int)),none,none,none,none,none]) ?_ fun H3 g3=>?_
    ·let Q:DS:=slD [none,none,some (AM rs),some (.int (k:Int)),none,none,none,none,none]
     have w1:mOp gIx (AA 2) (AA 3) Q=some (.v (AL rs[k]),Q):=Aa (x:=.v (AM rs)) (y:=.v (.int (k:Int))) (s1:=Q) (s2:=Q) rfl rfl (by show atI (rs.map AL) (k:Int)=_;exact Jl hrk)
     refine BB (Aa (g:=Aj) w1 (y:=.v (.lst [])) (s2:=Q) rfl ?_)
     cases rs[k] with
     | nil=>rfl
     | cons x xs=>rfl
    have oi3:=oi2.grow g3
    have hgD:rs.getD k []=rs[k]:=by rw[List.getD_eq_getElem?_getD,hrk];rfl
    have hlen2:Γ2.length=S.Γ.length:=dd2.len.trans dd1.len
    unfold Ew at e
    rw[e1] at e
    simp only[iOf,Option.bind_some] at e
    rw[e2] at e
    simp only[iOf,Option.bind_some,Int.toNat_natCast] at e
    rw[hgD] at e
    by_cases c:rs[k]=[]
    ·rw[decide_eq_false (not_not_intro c)]
     rw[if_pos c] at e
     cases e
     refine Da ⟨f,α,S.Γ,H',l,Γ2,as,rs,k,w,_,_,_,_,_,_,rfl,oi3,hk,h6,fun H4 as4 oi4=>fin Γ2 H4 as4 _ oi4 hlen2 rfl⟩
    ·rw[decide_eq_true c]
     rw[if_neg c] at e
     refine DU ⟨f,α,S.Γ,H',l,Γ2,as,rs,k,w,n,rs[k],_,_,_,_,_,rfl,oi3,dk2,rS.inj,hrk,c,W,fun a t Γ3 Γ4 H4 y5 y6 y7 y8 ea et dd4 hal htl oi4=>?_⟩
     rw[ea] at e
     simp only[iOf,Option.bind_some] at e
     rw[et] at e
     simp only[iOf,Option.bind_some,Int.toNat_natCast] at e
     cases e
     refine ⟨f,α,S.Γ,H',l,Γ4,as,oA rs k a t w,k,w,_,_,_,_,_,_,rfl,oi4,?_,?_,fun H5 as5 oi5=>fin Γ4 H5 as5 _ oi5 (dd4.len.trans hlen2) rfl⟩
     ·rw[Et];exact hk
     ·rw[Et];exact h6)
end DL
namespace DL
open PySem L2 Ev
abbrev EI:Stmt:=top 32
abbrev Gj:List Str:=["script","k","deck","rows","pair","texts","j","row","part","names","told","key","hand","place"]
def GV (zI:MDF) (zJ:MD) (zK:MDF) (zL:MDF) (zD:MD) (zE:MDF) (zM:MDF) (zH:MD) (zC:MD) (zB:MD):MS:=(mIf (mOr (AO (mOp Aj (AK (A0 zE (AB (AA 8) AC))) (AK (A3 (AB (AA 7) AC))))) (AO (mOp Aj (AJ zD (AB (AK (A3 (AB (AA 7) AC))) AC)) (AA 8)))) (Ac (mC (.bl false))) Ae)
def Hd (zI:MDF) (zJ:MD) (zK:MDF) (zL:MDF) (zD:MD) (zE:MDF) (zM:MDF) (zH:MD) (zC:MD) (zB:MD):MS:=(AI (mIf (mOr (AO (mOp Aj (AK (A0 zE (AB (mOp gIx (AA 5) (AA 6)) AC))) (mOp gIx (AA 4) (AA 6)))) (AO (mOp Aj (AJ zD (AB (AK (A0 zE (AB (mOp gIx (AA 5) (AA 6)) AC))) AC)) (mOp gIx (AA 5) (AA 6))))) (Ac (mC (.bl false))) Ae)
 (CN (Gh (AB (mOp gIx (AA 4) (AA 6)) (AB (AK (CK (mOp gIx (AA 5) (AA 6)) (mC (.str "; ")))) AC))) (CD [7,8]) (GV zI zJ zK zL zD zE zM zH zC zB)))
def HM (zI:MDF) (zJ:MD) (zK:MDF) (zL:MDF) (zD:MD) (zE:MDF) (zM:MDF) (zH:MD) (zC:MD) (zB:MD):MS:=(AI (CV 2 (A0 zI (AB (AJ zJ (AB (AA 0) (AB (AA 1) AC))) (AB (mC (.int 160)) AC))))
 (AI (AZ 3 (AK (A0 zK (AB (AA 2) (AB (mC (.int 10)) AC)))))
 (AI (AZ 4 (AK (A3 (AB (AA 3) (AB (AK (A0 zL (AB (AA 2) (AB (AA 3) AC)))) AC)))))
 (AI (AZ 5 (AK (Av (BH (AA 4)) 1 [] (AQ 0) mTT (AJ zD (AB (AA 0) AC)))))
 (AI (mIf (AO (mOp Aj (mOp Al (mOp gIx (AA 5) (mC (.int 0))) (mOp gIx (AA 5) (mC (.int 1)))) (mOp Al (mOp gIx (AA 4) (mC (.int 0))) (mOp gIx (AA 4) (mC (.int 1)))))) (Ac (mC (.bl false))) Ae)
 (AI (CN (Bm (AB (mC (.int 2)) AC)) (AQ 6) (Hd zI zJ zK zL zD zE zM zH zC zB))
 (AI (AZ 9 (AK (A0 zM (AB (AA 3) AC))))
 (AI (AZ 10 (AK (Av (BH (AA 9)) 1 [] (AQ 0) mTT (AJ zH (AB (AA 0) AC)))))
 (AI (mIf (AO (mOp Aj (AA 10) (AK (Av (BH (AA 9)) 3 [] (CD [0,1,2]) mTT (mOp AS (mOp AS (mOp AS (mOp AS (AN BQ (AB (AA 0) AC)) (mC (.str "."))) (AN BQ (AB (AA 1) AC))) (mC (.str "."))) (AN BQ (AB (AA 2) AC))))))) (Ac (mC (.bl false))) Ae)
 (AI (mIf (AO (mOp Aj (AN ST.Ep (AB (AA 10) AC)) (AN A9 (AB (AA 9) AC)))) (Ac (mC (.bl false))) Ae)
 (AI (GO 11 12 13 (AB (AJ zC (AB (AA 2) AC)) (AB (AJ zB (AB (AA 2) (AB (mC (.int 6)) AC))) (AB (AJ zB (AB (AA 2) (AB (mC (.int 1200)) AC))) AC))))
 (mIf (AO (mOp Aj (AJ zH (AB (CJ (AB (AA 11) (AB (AA 12) (AB (AA 13) AC)))) AC)) (mOp AS (mOp AS (mOp AS (mOp AS (AN BQ (AB (AA 11) AC)) (mC (.str "."))) (AN BQ (AB (AA 12) AC))) (mC (.str "."))) (AN BQ (AB (AA 13) AC))))) (Ac (mC (.bl false))) Ae))))))))))))
def IV (zI:MDF) (zJ:MD) (zK:MDF) (zL:MDF) (zD:MD) (zE:MDF) (zM:MDF) (zH:MD) (zC:MD) (zB:MD):MS:=(AI (CN (Bm (AB (AN EU (AB (mC (.int 1)) (AB (AN EN (AB (AN A9 (AB (AA 0) AC)) (AB (mC (.int 8)) AC))) AC))) AC)) (AQ 1) (HM zI zJ zK zL zD zE zM zH zC zB))
 (Ac (mC (.bl true))))
theorem sc_law:FnScope Gj ["script"] (AW EI):=⟨rfl,rfl,rfl,by decide +kernel,rfl,by decide +kernel,by decide +kernel⟩
theorem Su {P:Program} {w:World} {K:PySem.W.Frag} {mg:Str->Option Value} {base:Heap} {fa:Addr} {fd:FuncData} (F:Fun K "law" "law" EI fa fd) (T:Nm mg) {xN:Addr} {xO:FuncData} {zI:MDF} (yK:Cal P w K mg base "_law_deck" 2 xN xO ["cell","many"] (spF K 2 zI)) {xP:Addr} {xQ:FuncData} {zJ:MD} (yL:Cal P w K mg base "_law_cell_at" 1 xP xQ ["script","k"] (spD K 2 zJ)) {xR:Addr} {xS:FuncData} {zK:MDF} (yM:Cal P w K mg base "_law_rows" 3 xR xS ["deck","most"] (spF K 2 zK)) {xU:Addr} {xV:FuncData} {zL:MDF} (yN:Cal P w K mg base "_law_otherwise" 2 xU xV ["deck","rows"] (spF K 2 zL)) {xW:Addr} {xX:FuncData} {zD:MD} (zF:Cal P w K mg base "show_rows" 3 xW xX ["rows"] (spD K 1 zD)) {xY:Addr} {xZ:FuncData} {zE:MDF} (zG:Cal P w K mg base "read_rows" 5 xY xZ ["text"] (spF K 1 zE)) {x6:Addr} {x8:FuncData} {zM:MDF} (yO:Cal P w K mg base "names_plainly" 2 x6 x8 ["rows"] (spF K 1 zM)) {x9:Addr} {wA:FuncData} {zH:MD} (zR:Cal P w K mg base "show_name" 1 x9 wA ["name"] (spD K 1 zH)) {yP:Addr} {yQ:FuncData} {zC:MD} (zP:Cal P w K mg base "_law_key" 2 yP yQ ["deck"] (spD K 1 zC)) {zN:Addr} {zO:FuncData} {zB:MD} (zA:Cal P w K mg base "_law_take" 1 zN zO ["deck","many"] (spD K 2 zB)):FnOk P w K mg base CX0 6 fa fd ["script"] (spD K 1 (mFn 14 (IV zI zJ zK zL zD zE zM zH zC zB))):=
 Bq F sc_law fun cdv A outer s H E hr=>(AR (ER PassesOwn.never rfl (Dy rfl T.range (AE (Qw T (AE AF (AE (Qj T (AE (Cp T (AE (AD (pv 0)) AG)) (AE AF AG))) AG))) AG)) (Bg (Ay (i:=1) sc_law.nd rfl (Or.inl rfl))) (AR (Fe (fun te h=>Aw (i:=2) sc_law.nd rfl (Or.inl rfl) h) (CO yK.G (hr.mono (by decide)) rfl yK.m yK.k yK.b (AE (A5 yL.G (hr.mono (by decide)) rfl yL.m yL.k yL.b (AE (AD (pv 0)) (AE (AD (pv 1)) AG)) (AU (AU Ai))) (AE AF AG)) (AU (AU Ai))))
 (AR (BR (fun te h=>Aw (i:=3) sc_law.nd rfl (Or.inl rfl) h) (An (CO yM.G (hr.mono (by decide)) rfl yM.m yM.k yM.b (AE (AD (pv 2)) (AE AF AG)) (AU (AU Ai)))))
 (AR (BR (fun te h=>Aw (i:=4) sc_law.nd rfl (Or.inl rfl) h) (An (B7 (AE (AD (pv 3)) (AE (An (CO yN.G (hr.mono (by decide)) rfl yN.m yN.k yN.b (AE (AD (pv 2)) (AE (AD (pv 3)) AG)) (AU (AU Ai)))) AG)))))
 (AR (Hy (i:=5) sc_law.nd rfl rfl (esc:=(AW EI)) (N:=Gj) (tn:=["one"]) (fn:=[]) (ix:=[]) rfl rfl rfl ⟨rfl,by decide +kernel,by decide +kernel,by decide +kernel,rfl,by decide +kernel⟩ (Ck (AD (pv 4))) (fun _ _ _ _ _=>(Bg (Ay (i:=0) (show (["one"]:List Str).Nodup by decide +kernel) rfl (Or.inl rfl)))) (fun _ _ _ _ _=>Bk) (fun _ _ _ _ _=>(A5 zF.G (hr.mono (by decide)) rfl zF.m zF.k zF.b (AE (AD (pv 0)) AG) (AU Ai))))
 (AR (A8 (CP hr.units (II hr.units (A7 (AD (pv 5)) AF) (A7 (AD (pv 5)) AF)) (II hr.units (A7 (AD (pv 4)) AF) (A7 (AD (pv 4)) AF))) (AV (Aq CQ)) BD)
 (AR (ER PassesOwn.never rfl (Dy rfl T.range (AE AF AG)) (Bg (Ay (i:=6) sc_law.nd rfl (Or.inl rfl))) (AR (A8 (Dj (Ea (CP hr.units (An (CO zG.G hr rfl zG.m zG.k zG.b (AE (A7 (AD (pv 5)) (AD (pv 6))) AG) (AU Ai))) (A7 (AD (pv 4)) (AD (pv 6)))) (GR (CP hr.units (A5 zF.G (hr.mono (by decide)) rfl zF.m zF.k zF.b (AE (An (CO zG.G hr rfl zG.m zG.k zG.b (AE (A7 (AD (pv 5)) (AD (pv 6))) AG) (AU Ai))) AG) (AU Ai)) (A7 (AD (pv 5)) (AD (pv 6))))))) (AV (Aq CQ)) BD)
 (AV (ER PassesOwn.never rfl (QN rfl T.zip (AE (A7 (AD (pv 4)) (AD (pv 6))) (AE (An (GN (A7 (AD (pv 5)) (AD (pv 6))) As ⟨rfl,rfl,rfl,rfl⟩)) AG))) (FS (is:=[7,8]) (n:=2) rfl (E1 rfl rfl (B8 (Ay (i:=7) sc_law.nd rfl (Or.inl rfl)) (B8 (Ay (i:=8) sc_law.nd rfl (Or.inl rfl)) Ez)))) (AV (A8 (Dj (Ea (CP hr.units (An (CO zG.G hr rfl zG.m zG.k zG.b (AE (AD (pv 8)) AG) (AU Ai))) (An (B7 (AE (AD (pv 7)) AG)))) (GR (CP hr.units (A5 zF.G (hr.mono (by decide)) rfl zF.m zF.k zF.b (AE (An (B7 (AE (AD (pv 7)) AG))) AG) (AU Ai)) (AD (pv 8)))))) (AV (Aq CQ)) BD))))))
 (AR (BR (fun te h=>Aw (i:=9) sc_law.nd rfl (Or.inl rfl) h) (An (CO yO.G (hr.mono (by decide)) rfl yO.m yO.k yO.b (AE (AD (pv 3)) AG) (AU Ai))))
 (AR (Hy (i:=10) sc_law.nd rfl rfl (esc:=(AW EI)) (N:=Gj) (tn:=["name"]) (fn:=[]) (ix:=[]) rfl rfl rfl ⟨rfl,by decide +kernel,by decide +kernel,by decide +kernel,rfl,by decide +kernel⟩ (Ck (AD (pv 9))) (fun _ _ _ _ _=>(Bg (Ay (i:=0) (show (["name"]:List Str).Nodup by decide +kernel) rfl (Or.inl rfl)))) (fun _ _ _ _ _=>Bk) (fun _ _ _ _ _=>(A5 zR.G (hr.mono (by decide)) rfl zR.m zR.k zR.b (AE (AD (pv 0)) AG) (AU Ai))))
 (AR (A8 (CP hr.units (AD (pv 10)) (An (CF (esc:=(AW EI)) (N:=Gj) (tn:=["key","hand","place"]) (fn:=[]) (ix:=[]) rfl rfl rfl ⟨rfl,by decide +kernel,by decide +kernel,by decide +kernel,rfl,by decide +kernel⟩ (Ck (AD (pv 9))) (fun _ _ _ _ _=>(FS (is:=[0,1,2]) (n:=3) rfl (E1 rfl rfl (B8 (Ay (i:=0) (show (["key","hand","place"]:List Str).Nodup by decide +kernel) rfl (Or.inl rfl)) (B8 (Ay (i:=1) (show (["key","hand","place"]:List Str).Nodup by decide +kernel) rfl (Or.inl rfl)) (B8 (Ay (i:=2) (show (["key","hand","place"]:List Str).Nodup by decide +kernel) rfl (Or.inl rfl)) Ez)))))) (fun _ _ _ _ _=>Bk) (fun _ _ _ _ _=>(BF (BF (BF (BF (Cz T (AE (AD (pv 0)) AG)) As) (Cz T (AE (AD (pv 1)) AG))) As) (Cz T (AE (AD (pv 2)) AG))))))) (AV (Aq CQ)) BD)
 (AR (A8 (CP hr.units (ST.QX T (AE (AD (pv 10)) AG)) (Cp T (AE (AD (pv 9)) AG))) (AV (Aq CQ)) BD)
 (AR (Ta (i:=11) (j:=12) (k:=13) rfl sc_law.nd rfl rfl rfl (by decide) (by decide) (by decide) rfl rfl rfl (AE (A5 zP.G (hr.mono (by decide)) rfl zP.m zP.k zP.b (AE (AD (pv 2)) AG) (AU Ai)) (AE (A5 zA.G (hr.mono (by decide)) rfl zA.m zA.k zA.b (AE (AD (pv 2)) (AE AF AG)) (AU (AU Ai))) (AE (A5 zA.G (hr.mono (by decide)) rfl zA.m zA.k zA.b (AE (AD (pv 2)) (AE AF AG)) (AU (AU Ai))) AG))) rfl)
 (AV (A8 (CP hr.units (A5 zR.G (hr.mono (by decide)) rfl zR.m zR.k zR.b (AE (FC (AE (AD (pv 11)) (AE (AD (pv 12)) (AE (AD (pv 13)) AG)))) AG) (AU Ai)) (BF (BF (BF (BF (Cz T (AE (AD (pv 11)) AG)) As) (Cz T (AE (AD (pv 12)) AG))) As) (Cz T (AE (AD (pv 13)) AG)))) (AV (Aq CQ)) BD))))))))))))))
 (AV (Aq CQ)))
end DL
namespace DL
open PySem L2 Ev TXM
def AllW (rs:List (List Th)):Prop:=∀ r∈rs,r.length<=200/\∀ t∈r,Wr t
theorem AllW.set {rs:List (List Th)} (h:AllW rs) {i:Nat} {r:List Th} (h1:r.length<=200) (h2:∀ t∈r,Wr t):AllW (rs.set i r):=fun x hx=>by
 rcases List.mem_or_eq_of_mem_set hx with z | z
 ·exact h x z
 ·rw[z];exact ⟨h1,h2⟩
theorem FB {r:List Th} {i:Nat} {x:Th} (h:∀ t∈r,Wr t) (hx:Wr x):∀ t∈r.set i x,Wr t:=fun t ht=>by
 rcases List.mem_or_eq_of_mem_set ht with z | z
 ·exact h t z
 ·rw[z];exact hx
theorem AllW.at {rs:List (List Th)} (h:AllW rs) {i:Nat} (hi:i<rs.length):(rs.getD i []).length<=200/\∀ t∈rs.getD i [],Wr t:=by
 rw[List.getD_eq_getElem?_getD,List.getElem?_eq_getElem hi]
 exact h _ (List.getElem_mem hi)
theorem getD_mem {r:List Th} {i:Nat} (hi:i<r.length):r.getD i th0∈r:=by
 rw[List.getD_eq_getElem?_getD,List.getElem?_eq_getElem hi]
 exact List.getElem_mem hi
theorem OD {k:Int} (h:Kz k):Ky (k+1):=by
 unfold Kz at h
 unfold Ky
 have:(k+1).natAbs<=k.natAbs+1:=by lia
 exact Nat.lt_of_le_of_lt this h
theorem Oh {x:Th} {a:Nat} (h:Wr x):Wr (x.1,CT x.2 a):=by
 have h2:Tg (CT x.2 a):=Ss (a:=a) h.2
 generalize CT x.2 a=y at h2 ⊢
 exact ⟨h.1,h2⟩
theorem Oc {x:Th} (h:Wz x):Wr (x.1+1,x.2):=And.intro (OD h.1) h.2
theorem PZ {rs:List (List Th)} {h a t:Nat} {w:Int} (A:AllW rs) (hz:∀ r∈rs,∀ t∈r,Wz t) (hh:h<rs.length) (ha:a<(rs.getD h []).length) (ht:t<(rs.getD h []).length):AllW (oA rs h a t w):=by
 obtain ⟨g1,g2⟩:=A.at hh
 have hx:=g2 _ (getD_mem ha)
 have hu:=g2 _ (getD_mem ht)
 have hk:Wz ((rs.getD h []).getD a th0):=by
  refine hz (rs.getD h []) ?_ _ (getD_mem ha)
  rw[List.getD_eq_getElem?_getD,List.getElem?_eq_getElem hh]
  exact List.getElem_mem hh
 unfold oA o3 o2 o1 o0
 split
 ·exact A.set (by rw[List.length_eraseIdx];split<;>lia) fun t ht=>g2 t (List.mem_of_mem_eraseIdx ht)
 split
 ·exact A.set (by rw[List.length_set,List.length_set];exact g1) (FB (FB g2 hu) hx)
 split
 ·exact A.set (by rw[List.length_set];exact g1) (FB g2 (Oh hx))
 split
 ·exact A.set (by rw[List.length_set];exact g1) (FB g2 (Oc hk))
 ·exact A
theorem Mg {rs:List (List Th)} {h:Nat} {w:Int} (A:AllW rs) (h1:1<=rs.length) (h6:rs.length<=6) (hh:h<rs.length):WrR (oB rs h w):=by
 unfold oB o5 o4
 by_cases c4:w=4/\rs.length<6
 ·rw[if_pos c4,if_neg (by lia)]
  refine ⟨by simp only[List.length_append,List.length_cons];lia,by simp only[List.length_append,List.length_cons,List.length_take,List.length_drop];lia,fun r hr=>?_⟩
  rcases List.mem_append.mp hr with z | z
  ·exact A r (List.mem_of_mem_take z)
  ·rcases List.mem_cons.mp z with z | z
   ·rw[z];exact ⟨Nat.zero_le _,fun t ht=>(nomatch ht)⟩
   ·exact A r (List.mem_of_mem_drop z)
 ·rw[if_neg c4]
  by_cases c5:w=5/\1<rs.length
  ·rw[if_pos c5]
   exact ⟨by rw[List.length_eraseIdx,if_pos hh];lia,by rw[List.length_eraseIdx,if_pos hh];lia,fun r hr=>A r (List.mem_of_mem_eraseIdx hr)⟩
  ·rw[if_neg c5]
   exact ⟨h1,h6,A⟩
def Du:MDF:=Ap 9 Ey
theorem QJ {Γ:Gm} {n:Nat} {rs:List (List Th)} (dk:Dk Γ n) (hI:IntG Γ) (h1:1<=rs.length) (h6:rs.length<=6) (hz:∀ r∈rs,r.length<=200/\∀ t∈r,Wz t):∃ (rs':List (List Th)) (Γ':Gm),Du [.b n,.v (AM rs)] Γ=some (rs'.map AL,Γ')/\WrR rs'/\Dd n Γ Γ':=by
 have A:AllW rs:=fun r hr=>⟨(hz r hr).1,fun t ht=>((hz r hr).2 t ht).wr⟩
 have W:WrR rs:=⟨h1,h6,A⟩
 obtain ⟨h,Γ1,e1,h0,hlt,dd1⟩:=B5 (n:=n) (m:=(rs.length:Nat)) dk (by lia)
 obtain ⟨k,rfl⟩:∃ k':Nat,h=k':=⟨h.toNat,by lia⟩
 have dk1:=dd1.dk dk
 obtain ⟨w,Γ2,e2,w0,wlt,dd2⟩:=B5 (n:=n) (m:=7) dk1 (by decide)
 have dk2:=dd2.dk dk1
 have hk:k<rs.length:=by lia
 have hx:∃ rs':List (List Th),AM rs=AM rs'/\WrR rs'/\Dk Γ n/\IntG Γ:=⟨rs,rfl,W,dk,hI⟩
 have hch:hx.choose=rs:=(NU hx.choose_spec.1).symm
 have key:∀ (xs:List (List Th)) (Γ':Gm),Ew n rs Γ=some (xs.map AL,Γ')->Γ'.length=Γ.length->Du [.b n,.v (AM rs)] Γ=some (xs.map AL,Γ'):=fun xs Γ' e hl=>by
  unfold Du Ap
  show (Ey ⟨[some (.b n),some (.v (AM rs)),none,none,none,none,none,none,none],Γ,Γ.length⟩).bind _=_
  unfold Ey
  simp only[]
  rw[dif_pos hx,hch,e]
  show some (xs.map AL,Γ'.take Γ.length)=_
  rw[<-hl,List.take_length]
 by_cases c:rs.getD k []=[]
 ·refine ⟨oB rs k w,Γ2,key _ _ ?_ (dd2.len.trans dd1.len),Mg A h1 h6 hk,dd1.trans dd2⟩
  unfold Ew
  rw[e1]
  simp only[iOf,Option.bind_some,e2,Int.toNat_natCast]
  rw[if_pos c]
 ·have hl:0<(rs.getD k []).length:=List.length_pos_iff.mpr c
  obtain ⟨a,Γ3,e3,a0,alt,dd3⟩:=B5 (n:=n) (m:=((rs.getD k []).length:Nat)) dk2 (by lia)
  obtain ⟨a,rfl⟩:∃ k':Nat,a=k':=⟨a.toNat,by lia⟩
  have dk3:=dd3.dk dk2
  obtain ⟨t,Γ4,e4,t0,tlt,dd4⟩:=B5 (n:=n) (m:=((rs.getD k []).length:Nat)) dk3 (by lia)
  obtain ⟨t,rfl⟩:∃ k':Nat,t=k':=⟨t.toNat,by lia⟩
  refine ⟨oB (oA rs k a t w) k w,Γ4,key _ _ ?_ (dd4.len.trans (dd3.len.trans (dd2.len.trans dd1.len))),Mg (PZ A (fun r hr=>(hz r hr).2) hk (by lia) (by lia)) (by rw[Et];exact h1) (by rw[Et];exact h6) (by rw[Et];exact hk),((dd1.trans dd2).trans dd3).trans dd4⟩
  unfold Ew
  rw[e1]
  simp only[iOf,Option.bind_some,e2,Int.toNat_natCast]
  rw[if_neg c]
  rw[e3]
  simp only[iOf,Option.bind_some]
  rw[e4]
  simp only[iOf,Option.bind_some,Int.toNat_natCast]
theorem Vd {a b:List (List Th)} (ha:WrR a) (hb:WrR b) (h:Au a=Au b):a=b:=by
 have e1:=Ha (Γ:=[]) ha
 rw[h,Ha hb] at e1
 refine NU ?_
 unfold AM
 injection e1 with e1
 injection e1 with e1 _
 rw[e1]
theorem JJ {α:Type} [DecidableEq α] {f:α->D} (h:∀ a b,deq (f a) (f b)=decide (a=b)):∀ xs ys:List α,PyData.eqvAll (BX (xs.map f)) (BX (ys.map f))=decide (xs=ys)
 | [],[]=>by simp[BX,PyData.eqvAll]
 | [],y::ys=>by simp[BX,PyData.eqvAll]
 | x::xs,[]=>by simp[BX,PyData.eqvAll]
 | x::xs,y::ys=>by
  have e:=h x y
  unfold deq at e
  simp only[List.map_cons,BX,PyData.eqvAll,e,JJ h xs ys,List.cons.injEq,Bool.decide_and]
theorem OY (a b:Th):deq (thD a) (thD b)=decide (a=b):=by
 obtain ⟨i,s⟩:=a
 obtain ⟨j,t⟩:=b
 unfold deq thD
 by_cases h1:i=j<;>by_cases h2:s=t<;>simp[toP,BX,PyData.eqv,PyData.eqvAll,h1,h2]
theorem Ul (a b:List Th):deq (AL a) (AL b)=decide (a=b):=by
 unfold deq AL
 simp only[toP,PyData.eqv]
 exact JJ OY a b
theorem Vu (a b:List (List Th)):deq (AM a) (AM b)=decide (a=b):=by
 unfold deq AM
 simp only[toP,PyData.eqv]
 exact JJ Ul a b
theorem Of {rs:List (List Th)} (h:∀ r∈rs,∀ t∈r,Tg t.2):shal 6 (AM rs)=true:=by
 unfold AM shal
 rw[List.all_eq_true]
 intro x hx
 obtain ⟨r,hr,rfl⟩:=List.mem_map.mp hx
 exact Qd (h r hr) 3
theorem WrR.shal {rs:List (List Th)} (W:WrR rs):shal 6 (AM rs)=true:=Of fun r hr t ht=>((W.2.2 r hr).2 t ht).2
theorem Rn {Γ:Gm} {a b:List (List Th)} (ha:WrR a) (hb:WrR b):Al Γ (.v (AM a)) (.v (AM b))=some (.bl (decide (a=b))):=by
 have s1:=ha.shal
 have s2:=hb.shal
 have e:=Vu a b
 have h1:=ha.1
 have h2:=hb.1
 match a,b,h1,h2,s1,s2,e with
 | x::xs,y::ys,_,_,s1,s2,e=>
  show ((if (shal 6 (AM (x::xs)) && shal 6 (AM (y::ys)))=true then some (deq (AM (x::xs)) (AM (y::ys))) else none).map D.bl)=_
  rw[s1,s2,e]
  rfl
def nmS (ns:List Int):Str:=Str.join "." (ns.map AY)
theorem UB (a b c:Int):nmS [a,b,c]=AY a++"."++AY b++"."++AY c:=by
 have as:∀ x y z:Str,x++(y++z)=x++y++z:=fun x y z=>by
  show Str.mk (x.cps++(y.cps++z.cps))=Str.mk ((x.cps++y.cps)++z.cps)
  rw[Array.append_assoc]
 show AY a++"."++(AY b++"."++AY c)=_
 rw[as,as]
theorem IB:cd (".":Str)=[46]:=by decide +kernel
theorem Og {a b:Int} (ha:Ky a) (hb:Ky b) (h:AY a=AY b):a=b:=by
 have e:=num_reads ha
 rw[h,num_reads hb] at e
 injection e with e
 exact e.symm
theorem Rj {k:Int}:46∉cd (AY k):=fun h=>by
 rcases GT h with z | z
 ·cases z
 ·lia
theorem P6 {xs ys:List Int} (hx:∀ i∈xs,Ky i) (hy:∀ i∈ys,Ky i) (nx:xs≠[]) (ny:ys≠[]) (h:nmS xs=nmS ys):xs=ys:=by
 have f:∀ zs:List Int,∀ p∈zs.map AY,46∉cd p:=fun zs p hp=>by
  obtain ⟨i,_,rfl⟩:=List.mem_map.mp hp
  exact Rj
 have e1:=(HK (y:=".") IB (by decide +kernel) (ps:=xs.map AY) (by simpa using nx) (f xs)).1
 have e2:=(HK (y:=".") IB (by decide +kernel) (ps:=ys.map AY) (by simpa using ny) (f ys)).1
 have h:Str.join "." (xs.map AY)=Str.join "." (ys.map AY):=h
 rw[h,e2] at e1
 have g:∀ (a b:List Int),(∀ i∈a,Ky i)->(∀ i∈b,Ky i)->a.map AY=b.map AY->a=b:=by
  intro a
  induction a with
  | nil=>intro b _ _ e;cases b with
   | nil=>rfl
   | cons _ _=>cases e
  | cons i a ih=>intro b h1 h2 e;cases b with
   | nil=>cases e
   | cons j b=>
    injection e with e1 e2
    rw[Og (h1 i List.mem_cons_self) (h2 j List.mem_cons_self) e1,ih b (fun x hx=>h1 x (List.mem_cons_of_mem _ hx)) (fun x hx=>h2 x (List.mem_cons_of_mem _ hx)) e2]
 exact (g ys xs hy hx e1).symm
def Ed:MD:=mFn 1 JY
theorem Nz {Γ:Gm}:∀ (ns:List Int) (v:Option SV),(∀ i∈ns,Ky i)->Ag (AQ 0) mTT (AN BQ (AB (AA 0) AC)) (ns.map .int) [v] Γ=some ((ns.map AY).map .str,Γ)
 | [],_,_=>rfl
 | t::r,v,h=>by
  have i:=Nz (Γ:=Γ) r (some (.v (.int t))) fun x hx=>h x (List.mem_cons_of_mem _ hx)
  let T:DS:=⟨[some (.v (.int t))],Γ,Γ.length⟩
  have w:AN BQ (AB (AA 0) AC) T=some (.v (.str (AY t)),T):=Ee (h t List.mem_cons_self) rfl
  rw[List.map_cons]
  unfold Ag
  rw[show AQ 0 (.int t) (⟨[v],Γ,Γ.length⟩:DS)=some T from rfl]
  simp only[Option.bind_some,mTT,if_true,w]
  rw[show Ag _ _ _ _ T.σ T.Γ=_ from i,if_pos rfl]
  rfl
theorem Od {ns:List Int} {Γ:Gm} (h:∀ i∈ns,Ky i) (hl:ns.length<=10):Ed [.v (tupI ns)] Γ=some (.str (nmS ns),Γ):=by
 have tk:Γ.take Γ.length=Γ:=List.take_length
 let S:DS:=⟨[some (.v (tupI ns))],Γ,Γ.length⟩
 have w:=A1 (Bz (mi:=BH (AA 0)) (nt:=1) (ix:=[]) (s:=S) (s':=S) (items:=ns.map .int) (Γ':=Γ) rfl (by rw[List.length_map,show big=1000000 from rfl];lia) (Nz (Γ:=Γ) ns none h))
 have w2:=FJ (y:=".") (B:=40) w (fun p hp=>by
  obtain ⟨r,hr,rfl⟩:=List.mem_map.mp hp
  have:=(Cv (h r hr)).2
  lia) (by rw[List.length_map,show (".":Str).length=1 by decide +kernel];lia)
 unfold Ed mFn JY
 show ((Ac _ S).bind _)=_
 rw[Bf w2]
 show some (_,Γ.take Γ.length)=_
 rw[tk]
 rfl
def N3 (x:List Int):Prop:=∃ a b c:Int,x=[a,b,c]/\Ky a/\Ky b/\Ky c
theorem N3.ky {x:List Int} (h:N3 x):∀ i∈x,Ky i:=by
 obtain ⟨a,b,c,rfl,h1,h2,h3⟩:=h
 intro i hi
 simp only[List.mem_cons,List.not_mem_nil,or_false] at hi
 rcases hi with rfl | rfl | rfl<;>assumption
theorem N3.len {x:List Int} (h:N3 x):x.length<=10:=by
 obtain ⟨a,b,c,rfl,_⟩:=h
 exact (by decide:3<=10)
theorem N3.ne {x:List Int} (h:N3 x):x≠[]:=by
 obtain ⟨a,b,c,rfl,_⟩:=h
 exact fun z=>nomatch z
theorem LN {Mn:MD} (F:∀ {ns:List Int} {Γ:Gm},(∀ i∈ns,Ky i)->ns.length<=10->Mn [.v (tupI ns)] Γ=some (.str (nmS ns),Γ)) {Γ:Gm}:∀ (l:List (List Int)) (v:Option SV),(∀ x∈l,N3 x)->Ag (AQ 0) mTT (AJ Mn (AB (AA 0) AC)) (l.map tupI) [v] Γ=some ((l.map nmS).map .str,Γ)
 | [],_,_=>rfl
 | t::r,v,h=>by
  have i:=LN F (Γ:=Γ) r (some (.v (tupI t))) fun x hx=>h x (List.mem_cons_of_mem _ hx)
  have ht:=h t List.mem_cons_self
  let T:DS:=⟨[some (.v (tupI t))],Γ,Γ.length⟩
  have w:AJ Mn (AB (AA 0) AC) T=some (.v (.str (nmS t)),T):=Bx (x:=.v (tupI t)) (s':=T) rfl (F ht.ky ht.len)
  rw[List.map_cons]
  unfold Ag
  rw[show AQ 0 (tupI t) (⟨[v],Γ,Γ.length⟩:DS)=some T from rfl]
  simp only[Option.bind_some,mTT,if_true,w]
  rw[show Ag _ _ _ _ T.σ T.Γ=_ from i,if_pos rfl]
  rfl
theorem NN {S:DS} {ma mb mc:ME} {a b c:Int} (ha:Ky a) (hb:Ky b) (hc:Ky c) (h1:ma S=some (.v (.int a),S)) (h2:mb S=some (.v (.int b),S)) (h3:mc S=some (.v (.int c),S)):mOp AS (mOp AS (mOp AS (mOp AS (AN BQ (AB ma AC)) (mC (.str "."))) (AN BQ (AB mb AC))) (mC (.str "."))) (AN BQ (AB mc AC)) S=some (.v (.str (nmS [a,b,c])),S):=by
 have la:=(Cv ha).2
 have lb:=(Cv hb).2
 have lc:=(Cv hc).2
 have e:(".":Str).length=1:=by decide +kernel
 have w1:=C9 (Ee ha h1) (b:=mC (.str ".")) (y:=".") rfl (by rw[e];lia)
 have w2:=C9 w1 (Ee hb h2) (by rw[len_app,e];lia)
 have w3:=C9 w2 (b:=mC (.str ".")) (y:=".") rfl (by rw[len_app,len_app,e];lia)
 have w4:=C9 w3 (Ee hc h3) (by rw[len_app,len_app,len_app,e];lia)
 rw[UB]
 exact w4
theorem KM {Γ:Gm}:∀ (l:List (List Int)) (u v w:Option SV),(∀ x∈l,N3 x)->Ag (CD [0,1,2]) mTT (mOp AS (mOp AS (mOp AS (mOp AS (AN BQ (AB (AA 0) AC)) (mC (.str "."))) (AN BQ (AB (AA 1) AC))) (mC (.str "."))) (AN BQ (AB (AA 2) AC))) (l.map tupI) [u,v,w] Γ=some ((l.map nmS).map .str,Γ)
 | [],_,_,_,_=>rfl
 | t::r,u,v,w,h=>by
  obtain ⟨a,b,c,rfl,h1,h2,h3⟩:=h t List.mem_cons_self
  have i:=KM (Γ:=Γ) r (some (.v (.int a))) (some (.v (.int b))) (some (.v (.int c))) fun x hx=>h x (List.mem_cons_of_mem _ hx)
  let T:DS:=⟨[some (.v (.int a)),some (.v (.int b)),some (.v (.int c))],Γ,Γ.length⟩
  have w':=NN (S:=T) (ma:=AA 0) (mb:=AA 1) (mc:=AA 2) h1 h2 h3 rfl rfl rfl
  rw[List.map_cons]
  unfold Ag
  rw[show CD [0,1,2] (tupI [a,b,c]) (⟨[u,v,w],Γ,Γ.length⟩:DS)=some T from rfl]
  simp only[Option.bind_some,mTT,if_true,w']
  rw[show Ag _ _ _ _ T.σ T.Γ=_ from i,if_pos rfl]
  rfl
theorem KN {rs:List (List Th)} (W:WrR rs):∀ x∈BG (Ba 0 rs),N3 x:=fun x hx=>by
 obtain ⟨j,k,r,t,h1,h2,rfl⟩:=Iu ((C8 _).mem_iff.mp hx)
 have hj:=(List.getElem?_eq_some_iff.mp h1).1
 have hk:=(List.getElem?_eq_some_iff.mp h2).1
 have hr:=W.2.2 r (List.mem_of_getElem? h1)
 have h6:=W.2.1
 refine ⟨_,_,_,rfl,(hr.2 t (List.mem_of_getElem? h2)).1,?_,?_⟩
 ·unfold Ky
  have:((0:Int)+(j:Int)).natAbs<1000:=by lia
  exact Nat.lt_trans this (by decide)
 ·unfold Ky
  have:=hr.1
  have:((k:Int)).natAbs<1000:=by lia
  exact Nat.lt_trans this (by decide)
theorem Oa {rs:List (List Th)} (W:WrR rs):((BG (Ba 0 rs)).map nmS).Nodup:=by
 have nd:(BG (Ba 0 rs)).Nodup:=((C8 _).nodup_iff).mpr (K9 0 rs)
 have g:∀ l:List (List Int),l.Nodup->(∀ x∈l,N3 x)->(l.map nmS).Nodup:=by
  intro l
  induction l with
  | nil=>intro _ _;exact List.nodup_nil
  | cons x l ih=>
   intro h1 h2
   rw[List.nodup_cons] at h1
   refine List.nodup_cons.mpr ⟨fun z=>?_,ih h1.2 fun y hy=>h2 y (List.mem_cons_of_mem _ hy)⟩
   obtain ⟨y,hy,e⟩:=List.mem_map.mp z
   have ny:=h2 y (List.mem_cons_of_mem _ hy)
   have nx:=h2 x List.mem_cons_self
   rw[P6 ny.ky nx.ky ny.ne nx.ne e] at hy
   exact h1.1 hy
 exact g _ nd (KN W)
theorem VP {x:Str} (h:∀ c∈cd x,c<128):PyData.strOk x=true:=by
 unfold PyData.strOk
 refine Array.all_eq_true'.mpr fun c hc=>?_
 have:=h c (Array.mem_toList_iff.mpr hc)
 simp
 lia
theorem RW {ns:List Int}:∀ c∈cd (nmS ns),c<128:=fun c hc=>by
 rcases HR hc with z | ⟨p,hp,z⟩
 ·rw[IB] at z
  rw[List.mem_singleton.mp z]
  decide
 ·obtain ⟨i,_,rfl⟩:=List.mem_map.mp hp
  rcases GT z with z | z<;>lia
theorem Ui {l:List (List Int)}:shal 6 (.lst ((l.map nmS).map .str))=true:=by
 show ((l.map nmS).map D.str).all (shal 5)=true
 rw[List.all_eq_true]
 intro x hx
 obtain ⟨y,hy,rfl⟩:=List.mem_map.mp hx
 obtain ⟨z,_,rfl⟩:=List.mem_map.mp hy
 show PyData.canLay0 (.str (nmS z))=true
 unfold PyData.canLay0
 exact VP RW
theorem IntG.app {Γ:Gm} (h:IntG Γ) (l:List Int):IntG (Γ++[some (l.map .int)]):=fun m xs e=>by
 by_cases c:m<Γ.length
 ·rw[List.getElem?_append_left c] at e
  exact h m xs e
 ·rw[List.getElem?_append_right (by lia)] at e
  have:m - Γ.length=0:=by
   have:=(List.getElem?_eq_some_iff.mp e).1
   simp at this
   lia
  rw[this] at e
  cases e
  exact ⟨l,rfl⟩
theorem IntG.dd {Γ Γ':Gm} {n:Nat} (h:IntG Γ) (d:Dd n Γ Γ') (hk:Dk Γ n):IntG Γ':=fun m xs e=>by
 by_cases c:m=n
 ·subst c
  obtain ⟨l,e2,_⟩:=d.dk hk
  rw[e2] at e
  cases e
  exact ⟨l,rfl⟩
 ·rw[d.out c] at e
  exact h m xs e
structure F46 (Md:MDF) (Mc:MD) (Mr Mo:MDF) (Ms:MD) (Mx Mp:MDF) (Mn Mk Mt:MD):Prop where
 cell:∀ {Γ:Gm} {ns:List Int} {k:Nat},∃ c:Int,Mc [.v (.scr ns),.v (.int k)] Γ=some (.int c,Γ)
 deck:∀ {Γ:Gm} {c:Int} {m:Nat},m<=1000->∃ l:List Int,Md [.v (.int c),.v (.int (m:Int))] Γ=some (l.map .int,Γ)/\DkL l
 rows:∀ {n m:Nat} {G:Gm},Dk G n->3<=m->m<=100->∃ (rs:List (List Th)) (G':Gm),Mr [.b n,.v (.int (m:Int))] G=some (rs.map AL,G')/\1<=rs.length/\rs.length<=6/\(∀ r∈rs,r.length<=m/\∀ t∈r,Wz t)/\Dd n G G'
 oth:∀ {Γ:Gm} {n:Nat} {rs:List (List Th)},Dk Γ n->IntG Γ->1<=rs.length->rs.length<=6->(∀ r∈rs,r.length<=200/\∀ t∈r,Wz t)->∃ (rs':List (List Th)) (Γ':Gm),Mo [.b n,.v (AM rs)] Γ=some (rs'.map AL,Γ')/\WrR rs'/\Dd n Γ Γ'
 shown:∀ {rs:List (List Th)} {Γ:Gm},WrR rs->Ms [.v (AM rs)] Γ=some (.str (Au rs),Γ)
 read:∀ {rs:List (List Th)} {Γ:Gm},WrR rs->Mx [.v (.str (Au rs))] Γ=some (rs.map AL,Γ)
 plain:∀ {rs:List (List Th)} {Γ:Gm},total rs<=100000->Mp [.v (AM rs)] Γ=some ((BG (Ba 0 rs)).map tupI,Γ)
 name:∀ {ns:List Int} {Γ:Gm},(∀ i∈ns,Ky i)->ns.length<=10->Mn [.v (tupI ns)] Γ=some (.str (nmS ns),Γ)
 key:∀ {Γ:Gm} {n:Nat},Dk Γ n->∃ k Γ',Mk [.b n] Γ=some (.int k,Γ')/\Kz k/\Dd n Γ Γ'
 take:∀ {Γ:Gm} {n:Nat} {m:Int},Dk Γ n->0<m->∃ r Γ',Mt [.b n,.v (.int m)] Γ=some (.int r,Γ')/\0<=r/\r<m/\Dd n Γ Γ'
theorem PC {rs:List (List Th)} {B:Nat} (h:∀ r∈rs,r.length<=B):total rs<=rs.length * B:=by
 induction rs with
 | nil=>exact Nat.zero_le _
 | cons r rs ih=>
  have h1:=h r List.mem_cons_self
  have h2:=ih fun x hx=>h x (List.mem_cons_of_mem _ hx)
  show (List.map List.length (r::rs)).sum<=_
  rw[List.map_cons,List.sum_cons,List.length_cons,Nat.succ_mul]
  have h2:(List.map List.length rs).sum<=rs.length * B:=h2
  lia
theorem Nn {k:Int} (h1:-1000000<k) (h2:k<1000000):Ky k:=by
 unfold Ky
 have:k.natAbs<1000000:=by lia
 exact Nat.lt_trans this (by decide)
theorem WrR.one {rs:List (List Th)} (W:WrR rs) {r:List Th} (h:r∈rs):WrR [r]:=⟨Nat.le_refl _,(by decide:1<=6),fun x hx=>by rw[List.mem_singleton.mp hx];exact W.2.2 r h⟩
theorem Kq {Ms:MD} (F:∀ {rs:List (List Th)} {Γ:Gm},WrR rs->Ms [.v (AM rs)] Γ=some (.str (Au rs),Γ)) {Γ:Gm}:∀ (l:List (List (List Th))) (v:Option SV),(∀ x∈l,WrR x)->Ag (AQ 0) mTT (AJ Ms (AB (AA 0) AC)) (l.map AM) [v] Γ=some ((l.map Au).map .str,Γ)
 | [],_,_=>rfl
 | t::r,v,h=>by
  have i:=Kq F (Γ:=Γ) r (some (.v (AM t))) fun x hx=>h x (List.mem_cons_of_mem _ hx)
  let T:DS:=⟨[some (.v (AM t))],Γ,Γ.length⟩
  have w:AJ Ms (AB (AA 0) AC) T=some (.v (.str (Au t)),T):=Bx (x:=.v (AM t)) (s':=T) rfl (F (h t List.mem_cons_self))
  rw[List.map_cons]
  unfold Ag
  rw[show AQ 0 (AM t) (⟨[v],Γ,Γ.length⟩:DS)=some T from rfl]
  simp only[Option.bind_some,mTT,if_true,w]
  rw[show Ag _ _ _ _ T.σ T.Γ=_ from i,if_pos rfl]
  rfl
theorem zip_get:∀ (rs:List (List Th)) (i:Nat) (d:D),(BU (rs.map AL) ((rs.map Ad).map .str))[i]?=some d->∃ r∈rs,d=.tup [AL r,.str (Ad r)]
 | [],i,d,h=>by simp[BU] at h
 | r::rs,0,d,h=>by
  simp[BU] at h
  exact ⟨r,List.mem_cons_self,h.symm⟩
 | r::rs,i+1,d,h=>by
  simp only[List.map_cons,BU,List.getElem?_cons_succ] at h
  obtain ⟨x,hx,e⟩:=zip_get rs i d h
  exact ⟨x,List.mem_cons_of_mem _ hx,e⟩
theorem sne {Γ:Gm} {x:Str}:Aj Γ (.v (.str x)) (.v (.str x))=some (.bl false):=str_ne.trans (by rw[decide_eq_true rfl];rfl)
section
variable (ns:List Int) {Md:MDF} {Mc:MD} {Mr Mo:MDF} {Ms:MD} {Mx Mp:MDF} {Mn Mk Mt:MD} (F:F46 Md Mc Mr Mo Ms Mx Mp Mn Mk Mt)
include F
theorem UW {S:DS} {r:List Th} {rs:List (List Th)} (W:WrR rs) (hr:r∈rs) (h7:AA 7 S=some (.v (AL r),S)) (h8:AA 8 S=some (.v (.str (Ad r)),S)):GV Md Mc Mr Mo Ms Mx Mp Mn Mk Mt S=some (.nx S):=by
 have W1:=W.one hr
 have h8:AA 8 S=some (.v (.str (Au [r])),S):=h8
 have w1:AK (A0 Mx (AB (AA 8) AC)) S=some (.v (AM [r]),S):=A1 (Gi (x:=.v (.str (Au [r]))) (s':=S) h8 (F.read W1))
 have w2:AK (A3 (AB (AA 7) AC)) S=some (.v (AM [r]),S):=A1 (IF (ds:=[AL r]) (CL (ms:=AC) (xs:=[]) h7 rfl) (show 1<=1000 by decide))
 have w3:=Bx (M:=Ms) (x:=.v (AM [r])) w2 (F.shown W1)
 have t:=E8 (BB (Aa (g:=Aj) w1 w2 (FV W1.shal))) (BB (Aa (g:=Aj) w3 h8 sne))
 unfold GV
 exact (BM (m:=Ac (mC (.bl false))) (n:=Ae) t).trans rfl
theorem T9 (k:Nat) (τ:List (Option SV)) (Γ:Gm) (hτ:τ.length=12) (hI:IntG Γ) :
  ∃ τ' Γ',(HM Md Mc Mr Mo Ms Mx Mp Mn Mk Mt) ⟨some (.v (.scr ns))::some (.v (.int k))::τ,Γ,0⟩=some (.nx ⟨some (.v (.scr ns))::τ',Γ',0⟩)/\τ'.length=12+1/\IntG Γ':=by
 obtain ⟨v2,v3,v4,v5,v6,v7,v8,v9,v10,v11,v12,v13,rfl⟩:∃ v2 v3 v4 v5 v6 v7 v8 v9 v10 v11 v12 v13,τ=[v2,v3,v4,v5,v6,v7,v8,v9,v10,v11,v12,v13]:=by
  match τ,hτ with
  | [v2,v3,v4,v5,v6,v7,v8,v9,v10,v11,v12,v13],_=>exact ⟨_,_,_,_,_,_,_,_,_,_,_,_,rfl⟩
 let K:Option SV:=some (.v (.scr ns))
 let I:Option SV:=some (.v (.int k))
 let N:Nat:=Γ.length
 let B:Option SV:=some (.b N)
 let S0:DS:=⟨[K,I,v2,v3,v4,v5,v6,v7,v8,v9,v10,v11,v12,v13],Γ,0⟩
 obtain ⟨c,e0⟩:=F.cell (Γ:=Γ) (ns:=ns) (k:=k)
 obtain ⟨l,e1,hl⟩:=F.deck (Γ:=Γ) (c:=c) (m:=160) (by decide)
 let G0:Gm:=Γ++[some (l.map .int)]
 let S1:DS:=⟨[K,I,B,v3,v4,v5,v6,v7,v8,v9,v10,v11,v12,v13],G0,0⟩
 have w0:AJ Mc (AB (AA 0) (AB (AA 1) AC)) S0=some (.v (.int c),S0):=B0 (x:=.v (.scr ns)) (y:=.v (.int k)) (s1:=S0) (s2:=S0) rfl rfl e0
 have g1:CV 2 (A0 Md (AB (AJ Mc (AB (AA 0) (AB (AA 1) AC))) (AB (mC (.int 160)) AC))) S0=some (.nx S1):=by
  unfold CV
  rw[Fi w0 (y:=.v (.int 160)) (s2:=S0) rfl e1]
  rfl
 have d0:Dk G0 N:=⟨l,CS,hl⟩
 have I0:IntG G0:=hI.app l
 obtain ⟨rs,G1,f2,r1,r6,hr0,dd1⟩:=F.rows (m:=10) d0 (by decide) (by decide)
 have d1:=dd1.dk d0
 have I1:=I0.dd dd1 d0
 have hz:∀ r∈rs,r.length<=200/\∀ t∈r,Wz t:=fun r hr=>⟨by have:=(hr0 r hr).1;lia,(hr0 r hr).2⟩
 have W:WrR rs:=⟨r1,r6,fun r hr=>⟨(hz r hr).1,fun t ht=>((hz r hr).2 t ht).wr⟩⟩
 let R:Option SV:=some (.v (AM rs))
 let S2:DS:=⟨[K,I,B,R,v4,v5,v6,v7,v8,v9,v10,v11,v12,v13],G1,0⟩
 have g2:AZ 3 (AK (A0 Mr (AB (AA 2) (AB (mC (.int 10)) AC)))) S1=some (.nx S2):=BL (A1 (Fi (x:=.b N) (y:=.v (.int 10)) (s1:=S1) (s2:=S1) rfl rfl f2))
 obtain ⟨rs',G2,f3,W',dd2⟩:=F.oth d1 I1 r1 r6 hz
 have d2:=dd2.dk d1
 have I2:=I1.dd dd2 d1
 let P:Option SV:=some (.v (.lst [AM rs,AM rs']))
 let S3:DS:=⟨[K,I,B,R,P,v5,v6,v7,v8,v9,v10,v11,v12,v13],G2,0⟩
 have g3:AZ 4 (AK (A3 (AB (AA 3) (AB (AK (A0 Mo (AB (AA 2) (AB (AA 3) AC)))) AC)))) S2=some (.nx S3):=BL (A1 (IF (ds:=[AM rs,AM rs']) (S':=⟨[K,I,B,R,v4,v5,v6,v7,v8,v9,v10,v11,v12,v13],G2,0⟩) (CL (x:=.v (AM rs)) (S1:=S2) rfl (CL (ms:=AC) (xs:=[]) (A1 (Fi (x:=.b N) (y:=.v (AM rs)) (s1:=S2) (s2:=S2) rfl rfl f3)) rfl)) (show 2<=1000 by decide)))
 let X:Option SV:=some (.v (.lst [.str (Au rs),.str (Au rs')]))
 let S4:Option SV->Option SV->Option SV->DS:=fun a b c=>⟨[K,I,B,R,P,X,a,b,c,v9,v10,v11,v12,v13],G2,0⟩
 have h2:∀ x∈[rs,rs'],WrR x:=fun x hx=>by
  simp only[List.mem_cons,List.not_mem_nil,or_false] at hx
  rcases hx with rfl | rfl<;>assumption
 have g4:AZ 5 (AK (Av (BH (AA 4)) 1 [] (AQ 0) mTT (AJ Ms (AB (AA 0) AC)))) S3=some (.nx (S4 v6 v7 v8)):=BL (A1 (Bz (mi:=BH (AA 4)) (nt:=1) (ix:=[]) (s:=S3) (s':=S3) (items:=[rs,rs'].map AM) (Γ':=G2) rfl (by rw[List.length_map,Bt];exact (by decide:2<=1000000)) (Kq F.shown [rs,rs'] none h2)))
 let T4:=S4 v6 v7 v8
 have x0:mOp gIx (AA 5) (mC (.int 0)) T4=some (.v (.str (Au rs)),T4):=rfl
 have x1:mOp gIx (AA 5) (mC (.int 1)) T4=some (.v (.str (Au rs')),T4):=rfl
 have p0:mOp gIx (AA 4) (mC (.int 0)) T4=some (.v (AM rs),T4):=rfl
 have p1:mOp gIx (AA 4) (mC (.int 1)) T4=some (.v (AM rs'),T4):=rfl
 have q1:=Aa (g:=Al) x0 x1 (z:=.bl (decide (Au rs=Au rs'))) Hx
 have q2:=Aa (g:=Al) p0 p1 (Rn W W')
 have ee:decide (Au rs=Au rs')=decide (rs=rs'):=decide_eq_decide.mpr ⟨Vd W W',fun z=>by rw[z]⟩
 have t5:=BB (Aa (g:=Aj) q1 q2 (z:=.bl false) (by
  rw[ee]
  show some (D.bl (!(decide (decide (rs=rs')=decide (rs=rs')))))=_
  rw[decide_eq_true rfl]
  rfl))
 have g5:=(BM (m:=Ac (mC (.bl false))) (n:=Ae) t5).trans (show Ae T4=some (.nx T4) from rfl)
 obtain ⟨s6,e6,a,b,c',rfl⟩:=EW (g:=AQ 6) (b:=Hd Md Mc Mr Mo Ms Mx Mp Mn Mk Mt) (items:=upTo 0 2) (fun _ s=>∃ a b c,s=S4 a b c) (by
   rintro i d s hd ⟨a,b,c,rfl⟩
   obtain ⟨hi,rfl⟩:=Dv hd
   let J:Option SV:=some (.v (.int (0+(i:Int))))
   let T:DS:=S4 J b c
   refine ⟨T,?_⟩
   obtain ⟨rj,Wj,xj,pj⟩:∃ rj,WrR rj/\mOp gIx (AA 5) (AA 6) T=some (.v (.str (Au rj)),T)/\mOp gIx (AA 4) (AA 6) T=some (.v (AM rj),T):=by
    have hi2:i=0\/i=1:=by lia
    rcases hi2 with z | z
    ·have hT:T=S4 (some (.v (.int 0))) b c:=by show S4 (some (.v (.int (0+(i:Int))))) b c=_;rw[z];rfl
     rw[hT]
     exact ⟨rs,W,rfl,rfl⟩
    ·have hT:T=S4 (some (.v (.int 1))) b c:=by show S4 (some (.v (.int (0+(i:Int))))) b c=_;rw[z];rfl
     rw[hT]
     exact ⟨rs',W',rfl,rfl⟩
   have w1:AK (A0 Mx (AB (mOp gIx (AA 5) (AA 6)) AC)) T=some (.v (AM rj),T):=A1 (Gi (x:=.v (.str (Au rj))) (s':=T) xj (F.read Wj))
   have w2:=Bx (M:=Ms) (x:=.v (AM rj)) w1 (F.shown Wj)
   have t:=E8 (BB (Aa (g:=Aj) w1 pj (FV Wj.shal))) (BB (Aa (g:=Aj) w2 xj sne))
   have g:=(BM (m:=Ac (mC (.bl false))) (n:=Ae) t).trans (show Ae T=some (.nx T) from rfl)
   have wz:Gh (AB (mOp gIx (AA 4) (AA 6)) (AB (AK (CK (mOp gIx (AA 5) (AA 6)) (mC (.str "; ")))) AC)) T=some (BU (rj.map AL) ((rj.map Ad).map .str),T):=by
    unfold Gh
    rw[CL pj (CL (ms:=AC) (xs:=[]) (A1 (NX Wj xj)) rfl)]
    show (if (rj.map AL).length<=((rj.map Ad).map D.str).length then some (BU (rj.map AL) ((rj.map Ad).map D.str),T) else none)=_
    rw[if_pos (by rw[List.length_map,List.length_map,List.length_map];exact Nat.le_refl _)]
   obtain ⟨s7,e7,b',c',rfl⟩:=EW (g:=CD [7,8]) (b:=GV Md Mc Mr Mo Ms Mx Mp Mn Mk Mt) (items:=BU (rj.map AL) ((rj.map Ad).map .str)) (fun _ s=>∃ b c,s=S4 J b c) (by
     rintro i2 d s hd ⟨b,c,rfl⟩
     obtain ⟨r,hr,rfl⟩:=zip_get rj i2 d hd
     exact ⟨S4 J (some (.v (AL r))) (some (.v (.str (Ad r)))),_,rfl,UW F Wj hr rfl rfl,_,_,rfl⟩)
    (s:=T) ⟨b,c,rfl⟩
   refine ⟨S4 J b' c',rfl,?_,_,_,_,rfl⟩
   unfold Hd
   rw[AX g]
   exact Dq wz e7)
  (s:=T4) ⟨v6,v7,v8,rfl⟩
 have g6:=Dq (mi:=Bm (AB (mC (.int 2)) AC)) (Ef (c:=mC (.int 2)) (s:=T4) (s':=T4) (p:=2) rfl (by decide)) e6
 let L:=BG (Ba 0 rs)
 have hL:L.length=total rs:=(C8 _).length_eq.trans (Hg 0 rs)
 have htot:total rs<=60:=by
  have:=PC (rs:=rs) (B:=10) fun r hr=>(hr0 r hr).1
  lia
 have hn:=KN W
 let Nm:Option SV:=some (.v (.lst (L.map tupI)))
 let Td:Option SV:=some (.v (.lst ((L.map nmS).map .str)))
 let S7:Option SV->Option SV->DS:=fun x y=>⟨[K,I,B,R,P,X,a,b,c',x,y,v11,v12,v13],G2,0⟩
 have g7:AZ 9 (AK (A0 Mp (AB (AA 3) AC))) (S7 v9 v10)=some (.nx (S7 Nm v10)):=BL (A1 (Gi (x:=.v (AM rs)) (s':=S7 v9 v10) rfl (F.plain (by lia))))
 have g8:AZ 10 (AK (Av (BH (AA 9)) 1 [] (AQ 0) mTT (AJ Mn (AB (AA 0) AC)))) (S7 Nm v10)=some (.nx (S7 Nm Td)):=BL (A1 (Bz (mi:=BH (AA 9)) (nt:=1) (ix:=[]) (s:=S7 Nm v10) (s':=S7 Nm v10) (items:=L.map tupI) (Γ':=G2) rfl (by rw[List.length_map,Bt];lia) (LN F.name L none hn)))
 let T8:=S7 Nm Td
 have w9:=A1 (Bz (mi:=BH (AA 9)) (nt:=3) (ix:=[]) (s:=T8) (s':=T8) (items:=L.map tupI) (Γ':=G2) rfl (by rw[List.length_map,Bt];lia) (KM (Γ:=G2) L none none none hn))
 have t9:=BB (Aa (g:=Aj) (a:=AA 10) (x:=.v (.lst ((L.map nmS).map .str))) (s:=T8) (s1:=T8) rfl w9 (FV Ui))
 have g9:=(BM (m:=Ac (mC (.bl false))) (n:=Ae) t9).trans (show Ae T8=some (.nx T8) from rfl)
 have wls:AN ST.Ep (AB (AA 10) AC) T8=some (.v (.int (L.length:Nat)),T8):=Cf (x:=.v (.lst ((L.map nmS).map .str))) (s':=T8) rfl (by
  unfold ST.Ep
  show ((strsOf ((L.map nmS).map D.str)).bind fun zs=>if zs.length<=1000 then some (D.int ((ST.dds zs).length:Nat)) else none)=_
  rw[HY,Option.bind_some,if_pos (by rw[List.length_map];lia),ST.P8 (Oa W),List.length_map])
 have wln:AN A9 (AB (AA 9) AC) T8=some (.v (.int (L.length:Nat)),T8):=Cf (x:=.v (.lst (L.map tupI))) (s':=T8) rfl (by show some (D.int ((L.map tupI).length:Nat))=_;rw[List.length_map])
 have t10:=BB (Aa (g:=Aj) wls wln (z:=.bl false) (by
  show some (D.bl (!(decide (((L.length:Nat):Int)=((L.length:Nat):Int)))))=_
  rw[decide_eq_true rfl]
  rfl))
 have g10:=(BM (m:=Ac (mC (.bl false))) (n:=Ae) t10).trans (show Ae T8=some (.nx T8) from rfl)
 obtain ⟨ky,G3,f4,hky,dd3⟩:=F.key d2
 have d3:=dd3.dk d2
 obtain ⟨hd,G4,f5,h0,h5,dd4⟩:=F.take (m:=6) d3 (by decide)
 have d4:=dd4.dk d3
 obtain ⟨pl,G5,f6,l0,l5,dd5⟩:=F.take (m:=1200) d4 (by decide)
 let S9:Gm->DS:=fun G=>⟨[K,I,B,R,P,X,a,b,c',Nm,Td,v11,v12,v13],G,0⟩
 have a1:AJ Mk (AB (AA 2) AC) T8=some (.v (.int ky),S9 G3):=Bx (x:=.b N) (s':=T8) rfl f4
 have a2:AJ Mt (AB (AA 2) (AB (mC (.int 6)) AC)) (S9 G3)=some (.v (.int hd),S9 G4):=B0 (x:=.b N) (y:=.v (.int 6)) (s1:=S9 G3) (s2:=S9 G3) rfl rfl f5
 have a3:AJ Mt (AB (AA 2) (AB (mC (.int 1200)) AC)) (S9 G4)=some (.v (.int pl),S9 G5):=B0 (x:=.b N) (y:=.v (.int 1200)) (s1:=S9 G4) (s2:=S9 G4) rfl rfl f6
 let S11:DS:=⟨[K,I,B,R,P,X,a,b,c',Nm,Td,some (.v (.int ky)),some (.v (.int hd)),some (.v (.int pl))],G5,0⟩
 have g11:GO 11 12 13 (AB (AJ Mk (AB (AA 2) AC)) (AB (AJ Mt (AB (AA 2) (AB (mC (.int 6)) AC))) (AB (AJ Mt (AB (AA 2) (AB (mC (.int 1200)) AC))) AC))) T8=some (.nx S11):=by
  unfold GO
  rw[CL a1 (CL a2 (CL (ms:=AC) (xs:=[]) a3 rfl))]
  rfl
 have k1:=hky.ky
 have k2:Ky hd:=Nn (by lia) (by lia)
 have k3:Ky pl:=Nn (by lia) (by lia)
 have n3:N3 [ky,hd,pl]:=⟨_,_,_,rfl,k1,k2,k3⟩
 have b1:AJ Mn (AB (CJ (AB (AA 11) (AB (AA 12) (AB (AA 13) AC)))) AC) S11=some (.v (.str (nmS [ky,hd,pl])),S11):=Bx (x:=.v (tupI [ky,hd,pl])) (s':=S11) rfl (F.name n3.ky n3.len)
 have b2:=NN (S:=S11) (ma:=AA 11) (mb:=AA 12) (mc:=AA 13) k1 k2 k3 rfl rfl rfl
 have t12:=BB (Aa (g:=Aj) b1 b2 sne)
 have g12:=(BM (m:=Ac (mC (.bl false))) (n:=Ae) t12).trans (show Ae S11=some (.nx S11) from rfl)
 refine ⟨[I,B,R,P,X,a,b,c',Nm,Td,some (.v (.int ky)),some (.v (.int hd)),some (.v (.int pl))],G5,?_,rfl,((I2.dd dd3 d2).dd dd4 d3).dd dd5 d4⟩
 unfold HM
 exact (AX (g1)).trans ((AX (g2)).trans ((AX (g3)).trans ((AX (g4)).trans ((AX (g5)).trans ((AX (g6)).trans ((AX (g7)).trans ((AX (g8)).trans ((AX (g9)).trans ((AX (g10)).trans ((AX (g11)).trans (g12)))))))))))
end
theorem RP {N:Int} (h1:1<=N) (h2:N<=100) {m:Nat} {b:MS} {ns:List Int} (hl:ns.length<=63) (once:∀ (k:Nat) (τ:List (Option SV)) (Γ:Gm),τ.length=m->IntG Γ->∃ τ' Γ',b ⟨some (.v (.scr ns))::some (.v (.int k))::τ,Γ,0⟩=some (.nx ⟨some (.v (.scr ns))::τ',Γ',0⟩)/\τ'.length=m+1/\IntG Γ') :
  mFn (m+2) (AI (CN (Bm (AB (AN EU (AB (mC (.int 1)) (AB (AN EN (AB (AN A9 (AB (AA 0) AC)) (AB (mC (.int N)) AC))) AC))) AC)) (AQ 1) b) (Ac (mC (.bl true)))) [.v (.scr ns)] []=some (.bl true,[]):=by
 let S0:DS:=⟨some (.v (.scr ns))::List.replicate (m+1) none,[],0⟩
 have hJ:∃ J:Int,Bm (AB (AN EU (AB (mC (.int 1)) (AB (AN EN (AB (AN A9 (AB (AA 0) AC)) (AB (mC (.int N)) AC))) AC))) AC) S0=some (upTo 0 J.toNat,S0):=by
  have hr:okR (if (if N<(ns.length:Int) then N else (ns.length:Int)) > 1 then (if N<(ns.length:Int) then N else (ns.length:Int)) else 1)=true:=Lx (by split<;>split<;>lia) (by split<;>split<;>lia)
  refine ⟨if (if N<(ns.length:Int) then N else (ns.length:Int)) > 1 then (if N<(ns.length:Int) then N else (ns.length:Int)) else 1,?_⟩
  simp only[gt_iff_lt] at hr
  simp[S0,hr]
 obtain ⟨J,hJ⟩:=hJ
 obtain ⟨s',e1,τ,Γ',rfl,_,_⟩:=EW (g:=AQ 1) (b:=b) (items:=upTo 0 J.toNat) (fun _ s=>∃ (τ:List (Option SV)) (Γ':Gm),s=⟨some (.v (.scr ns))::τ,Γ',0⟩/\τ.length=m+1/\IntG Γ') (by
   rintro i d s hd ⟨τ,Γ',rfl,hτ,hI⟩
   obtain ⟨hi,rfl⟩:=Dv hd
   cases τ with
   | nil=>cases hτ
   | cons v τ=>
    obtain ⟨τ2,Γ2,e2,h2,h3⟩:=once i τ Γ' (by simpa using hτ) hI
    exact ⟨_,_,rfl,by rw[show ((0:Int)+i)=i by lia];exact e2,τ2,Γ2,rfl,h2,h3⟩)
  (s:=S0) ⟨_,[],rfl,by simp,fun m xs e=>by cases e⟩
 unfold mFn
 have e0:(⟨DZ (m+2) [.v (.scr ns)],[],([]:Gm).length⟩:DS)=S0:=by
  show (⟨[some (.v (.scr ns))]++List.replicate (m+2 - 1) none,[],0⟩:DS)=_
  rfl
 rw[e0,AX (Dq hJ e1)]
 rfl
theorem Py (ns:List Int) (hl:ns.length<=63):mFn 14 (IV FU Dt Mlr Du Mss Mrs Mnp Ed Mlk Bb) [.v (.scr ns)] []=some (.bl true,[]):=RP (by decide) (by decide) hl (T9 ns ⟨Qh,Oz,TQ,QJ,SH,Ha,Sj,Od,Kh,B5⟩)
end DL
namespace DL
open PySem L2
theorem OE {K:PySem.W.Frag} {M:MD} {ns:List Int} {H:Hp} {a:Addr} {Γ:Gm} (h:M [.v (.scr ns)] []=some (.bl true,Γ)) (hS:SqL K H a (ns.map V.int)):spD K 1 M [.ref a] H (fun v _=>v=.bl true) fun _ _ _=>False:=by
 refine ⟨frQ K H,fun _=>0,emp,[],[.v (.scr ns)],_,rfl,rfl,R5,.cons ?_ .nil,h,fun α' v H' _ _ hv=>?_⟩
 ·show Rep _ (.scr ns) (.ref a)
  unfold Rep
  refine ⟨a,rfl,?_⟩
  rcases hS with h | h
  ·refine .inl ⟨fun z=>?_,h⟩
   rcases z with z | ⟨n,xs,z,_⟩
   ·exact z
   ·cases z
  ·exact .inr fun H'=>.inr h
 ·unfold Rep at hv
  exact hv
def IZ:MD:=mFn 14 (IV FU Dt Mlr Du Mss Mrs Mnp Ed Mlk Bb)
theorem PY (ns:List Int) (hl:ns.length<=63):IZ [.v (.scr ns)] []=some (.bl true,[]):=Py ns hl
end DL
namespace L2
open PySem
theorem Fun.bi1 {K:PySem.W.Frag} {x qual:Str} {st:Stmt} {f:Addr} {fd:FuncData} {p1:Str} (F:Fun K x qual st f fd) (h:∀ (kV doc pm:Value) (an:Option Addr) (cdv ct a1:Value),bindArgs (PySem.W.fnOf x qual (EG st) (Co st) (AW st) .none kV doc pm an cdv ct) ⟨[a1],[]⟩=pure [(p1,a1)]):Binds K fd [p1] []:=
 F.binds fun kV doc pm an cdv ct us hl=>match us,hl with | [a1],_=>h kV doc pm an cdv ct a1
theorem Fun.bi2 {K:PySem.W.Frag} {x qual:Str} {st:Stmt} {f:Addr} {fd:FuncData} {p1 p2:Str} (F:Fun K x qual st f fd) (h:∀ (kV doc pm:Value) (an:Option Addr) (cdv ct a1 a2:Value),bindArgs (PySem.W.fnOf x qual (EG st) (Co st) (AW st) .none kV doc pm an cdv ct) ⟨[a1,a2],[]⟩=pure [(p1,a1),(p2,a2)]):Binds K fd [p1,p2] []:=
 F.binds fun kV doc pm an cdv ct us hl=>match us,hl with | [a1,a2],_=>h kV doc pm an cdv ct a1 a2
end L2
namespace DL
open PySem L2 Ev HD PySem.W
theorem all_mk {l:OpenLaw} {w:World} {K:Frag} {h:Heap} {mg:Str->Option Value} {fa:Addr} (O:ob K=vl) (X:K.In h) (G:h.Ns mainGlobals mg) (hfa:mg "law"=some (.ref fa)) :
  ∃ fd:FuncData,(∀ (s:Shared) (v:Value),BindsTo s fd ⟨[v],[]⟩ [("script",v)])/\∀ base:Heap,K.In base->base.Ns mainGlobals mg->FnOk l.prog w K mg base CX0 6 fa fd ["script"] (spD K 1 IZ):=by
 have oF:fns.map (fun p=>FE K p.1)=fns.map FW:=congrArg Prod.fst O
 have oB:bls.map (fun x=>nsIn K mainGlobals x)=bls.map fun _=>some none:=congrArg (·.2.1) O
 have oN:nts.map (fun p=>GD K p.1)=nts.map fun p=>some p.2:=congrArg (·.2.2.1) O
 obtain ⟨f1,d1,a1,F1⟩:=BK (x:="_law_numbers") (st:=JT) (A4 (i:=0) oF rfl)
 obtain ⟨f2,d2,a2,F2⟩:=BK (x:="_law_deck") (st:=JC) (A4 (i:=1) oF rfl)
 obtain ⟨f3,d3,a3,F3⟩:=BK (x:="_law_cell_at") (st:=JX) (A4 (i:=2) oF rfl)
 obtain ⟨f4,d4,a4,F4⟩:=BK (x:="_law_take") (st:=JV) (A4 (i:=3) oF rfl)
 obtain ⟨f5,d5,a5,F5⟩:=BK (x:="_law_key") (st:=Hw) (A4 (i:=4) oF rfl)
 obtain ⟨f6,d6,a6,F6⟩:=BK (x:="_law_tag") (st:=Fs) (A4 (i:=5) oF rfl)
 obtain ⟨f7,d7,a7,F7⟩:=BK (x:="_law_rows") (st:=Ei) (A4 (i:=6) oF rfl)
 obtain ⟨f8,d8,a8,F8⟩:=BK (x:="_law_otherwise") (st:=Gv) (A4 (i:=7) oF rfl)
 obtain ⟨f9,d9,a9,F9⟩:=BK (x:="show_thing") (st:=HL) (A4 (i:=8) oF rfl)
 obtain ⟨f10,d10,a10,F10⟩:=BK (x:="show_row") (st:=GJ) (A4 (i:=9) oF rfl)
 obtain ⟨f11,d11,a11,F11⟩:=BK (x:="show_rows") (st:=FO) (A4 (i:=10) oF rfl)
 obtain ⟨f12,d12,a12,F12⟩:=BK (x:="are_figures") (st:=Fz) (A4 (i:=11) oF rfl)
 obtain ⟨f13,d13,a13,F13⟩:=BK (x:="is_key") (st:=JB) (A4 (i:=12) oF rfl)
 obtain ⟨f14,d14,a14,F14⟩:=BK (x:="is_tag") (st:=Fx) (A4 (i:=13) oF rfl)
 obtain ⟨f15,d15,a15,F15⟩:=BK (x:="read_thing") (st:=Ia) (A4 (i:=14) oF rfl)
 obtain ⟨f16,d16,a16,F16⟩:=BK (x:="read_row") (st:=Fv) (A4 (i:=15) oF rfl)
 obtain ⟨f17,d17,a17,F17⟩:=BK (x:="read_rows") (st:=GG) (A4 (i:=16) oF rfl)
 obtain ⟨f18,d18,a18,F18⟩:=BK (x:="names_of_hand") (st:=GS) (A4 (i:=17) oF rfl)
 obtain ⟨f19,d19,a19,F19⟩:=BK (x:="names_plainly") (st:=IE) (A4 (i:=18) oF rfl)
 obtain ⟨f20,d20,a20,F20⟩:=BK (x:="show_name") (st:=Fw) (A4 (i:=19) oF rfl)
 obtain ⟨f21,d21,a21,F21⟩:=BK (x:="law") (st:=EI) (A4 (i:=20) oF rfl)
 have e:=hfa.symm.trans (mg_of X G a21)
 cases e
 have b1:=F1.bi2 (p1:="cell") (p2:="many") fun _ _ _ _ _ _ _ _=>rfl
 have m1:=mg_of X G a1
 have k1:=F1.kp
 have b2:=F2.bi2 (p1:="cell") (p2:="many") fun _ _ _ _ _ _ _ _=>rfl
 have m2:=mg_of X G a2
 have k2:=F2.kp
 have b3:=F3.bi2 (p1:="script") (p2:="k") fun _ _ _ _ _ _ _ _=>rfl
 have m3:=mg_of X G a3
 have k3:=F3.kp
 have b4:=F4.bi2 (p1:="deck") (p2:="many") fun _ _ _ _ _ _ _ _=>rfl
 have m4:=mg_of X G a4
 have k4:=F4.kp
 have b5:=F5.bi1 (p1:="deck") fun _ _ _ _ _ _ _=>rfl
 have m5:=mg_of X G a5
 have k5:=F5.kp
 have b6:=F6.bi1 (p1:="deck") fun _ _ _ _ _ _ _=>rfl
 have m6:=mg_of X G a6
 have k6:=F6.kp
 have b7:=F7.bi2 (p1:="deck") (p2:="most") fun _ _ _ _ _ _ _ _=>rfl
 have m7:=mg_of X G a7
 have k7:=F7.kp
 have b8:=F8.bi2 (p1:="deck") (p2:="rows") fun _ _ _ _ _ _ _ _=>rfl
 have m8:=mg_of X G a8
 have k8:=F8.kp
 have b9:=F9.bi1 (p1:="thing") fun _ _ _ _ _ _ _=>rfl
 have m9:=mg_of X G a9
 have k9:=F9.kp
 have b10:=F10.bi1 (p1:="row") fun _ _ _ _ _ _ _=>rfl
 have m10:=mg_of X G a10
 have k10:=F10.kp
 have b11:=F11.bi1 (p1:="rows") fun _ _ _ _ _ _ _=>rfl
 have m11:=mg_of X G a11
 have k11:=F11.kp
 have b12:=F12.bi2 (p1:="text") (p2:="most") fun _ _ _ _ _ _ _ _=>rfl
 have m12:=mg_of X G a12
 have k12:=F12.kp
 have b13:=F13.bi1 (p1:="text") fun _ _ _ _ _ _ _=>rfl
 have m13:=mg_of X G a13
 have k13:=F13.kp
 have b14:=F14.bi1 (p1:="thing") fun _ _ _ _ _ _ _=>rfl
 have m14:=mg_of X G a14
 have k14:=F14.kp
 have b15:=F15.bi1 (p1:="text") fun _ _ _ _ _ _ _=>rfl
 have m15:=mg_of X G a15
 have k15:=F15.kp
 have b16:=F16.bi1 (p1:="text") fun _ _ _ _ _ _ _=>rfl
 have m16:=mg_of X G a16
 have k16:=F16.kp
 have b17:=F17.bi1 (p1:="text") fun _ _ _ _ _ _ _=>rfl
 have m17:=mg_of X G a17
 have k17:=F17.kp
 have b18:=F18.bi2 (p1:="row") (p2:="hand") fun _ _ _ _ _ _ _ _=>rfl
 have m18:=mg_of X G a18
 have k18:=F18.kp
 have b19:=F19.bi1 (p1:="rows") fun _ _ _ _ _ _ _=>rfl
 have m19:=mg_of X G a19
 have k19:=F19.kp
 have b20:=F20.bi1 (p1:="name") fun _ _ _ _ _ _ _=>rfl
 have m20:=mg_of X G a20
 have k20:=F20.kp
 have b21:=F21.bi1 (p1:="script") fun _ _ _ _ _ _ _=>rfl
 have B:=fun i x (z:bls[i]?=some x)=>mg_none_of X G (A4 oB z)
 have T:Nm mg:=⟨B 0 _ rfl,B 1 _ rfl,B 2 _ rfl,B 3 _ rfl,B 4 _ rfl,B 5 _ rfl,B 6 _ rfl,B 7 _ rfl,B 8 _ rfl,B 9 _ rfl,B 10 _ rfl,B 11 _ rfl,B 12 _ rfl,B 13 _ rfl,B 14 _ rfl,B 15 _ rfl,B 16 _ rfl,B 17 _ rfl⟩
 obtain ⟨ty1,y1⟩:=int_at (x:="MOST_FIGURES") (n:=30) (A4 (i:=0) oN rfl)
 obtain ⟨ty2,y2⟩:=int_at (x:="MOST_LETTERS") (n:=8) (A4 (i:=1) oN rfl)
 obtain ⟨ty3,y3⟩:=int_at (x:="MOST_HANDS") (n:=6) (A4 (i:=2) oN rfl)
 have us_NO_THINGS:HH K "NO_THINGS"=some "-":=congrArg (·.2.2.2) O
 refine ⟨d21,fun s v=>?_,fun base _ _=>?_⟩
 ·obtain ⟨_,_,_,_,_,_,_,_,_,z,_⟩:=F21.ex
  subst z
  exact .of_eq rfl
 obtain ⟨tys_NO_THINGS,ys_NO_THINGS⟩:=Tn us_NO_THINGS
 have gs_NO_THINGS:∃ t,mg "NO_THINGS"=some (.str "-" t):=⟨tys_NO_THINGS,mg_of X G ys_NO_THINGS⟩
 have h1:Cal l.prog w K mg base "_law_numbers" 1 f1 _ ["cell","many"] (spF K 2 GH):=⟨Ot F1 T,b1,k1,m1⟩
 have h2:Cal l.prog w K mg base "_law_deck" 2 f2 _ ["cell","many"] (spF K 2 FU):=⟨VW F2 T h1,b2,k2,m2⟩
 have h3:Cal l.prog w K mg base "_law_cell_at" 1 f3 _ ["script","k"] (spD K 2 Dt):=⟨Vv F3 T,b3,k3,m3⟩
 have h4:Cal l.prog w K mg base "_law_take" 1 f4 _ ["deck","many"] (spD K 2 Bb):=⟨Sg F4 T,b4,k4,m4⟩
 have h5:Cal l.prog w K mg base "_law_key" 2 f5 _ ["deck"] (spD K 1 Mlk):=⟨Ud F5 T h4,b5,k5,m5⟩
 have h6:Cal l.prog w K mg base "_law_tag" 2 f6 _ ["deck"] (spD K 1 Mlt):=⟨RG F6 T h4,b6,k6,m6⟩
 have h7:Cal l.prog w K mg base "_law_rows" 3 f7 _ ["deck","most"] (spF K 2 Mlr):=⟨Sb F7 T h4 h5 h6,b7,k7,m7⟩
 have h8:Cal l.prog w K mg base "_law_otherwise" 2 f8 _ ["deck","rows"] (spF K 2 Du):=⟨UP F8 T h4,b8,k8,m8⟩
 have h9:Cal l.prog w K mg base "show_thing" 1 f9 _ ["thing"] (spD K 1 Mst):=⟨QE F9 T,b9,k9,m9⟩
 have h10:Cal l.prog w K mg base "show_row" 2 f10 _ ["row"] (spD K 1 Msr):=⟨RK F10 T h9 gs_NO_THINGS,b10,k10,m10⟩
 have h11:Cal l.prog w K mg base "show_rows" 3 f11 _ ["rows"] (spD K 1 Mss):=⟨OW F11 T h10,b11,k11,m11⟩
 have h12:Cal l.prog w K mg base "are_figures" 1 f12 _ ["text","most"] (spD K 2 Fh):=⟨Ob F12 T,b12,k12,m12⟩
 have h13:Cal l.prog w K mg base "is_key" 2 f13 _ ["text"] (spD K 1 HZ):=⟨PV F13 T h12 ⟨ty1,mg_of X G y1⟩,b13,k13,m13⟩
 have h14:Cal l.prog w K mg base "is_tag" 1 f14 _ ["thing"] (spD K 1 Gg):=⟨U5 F14 T ⟨ty2,mg_of X G y2⟩,b14,k14,m14⟩
 have h15:Cal l.prog w K mg base "read_thing" 3 f15 _ ["text"] (spD K 1 Mrt):=⟨Vr F15 T h13 h14,b15,k15,m15⟩
 have h16:Cal l.prog w K mg base "read_row" 4 f16 _ ["text"] (spF K 1 Mrr):=⟨RL F16 T h15 gs_NO_THINGS,b16,k16,m16⟩
 have h17:Cal l.prog w K mg base "read_rows" 5 f17 _ ["text"] (spF K 1 Mrs):=⟨Q8 F17 T h16 ⟨ty3,mg_of X G y3⟩,b17,k17,m17⟩
 have h18:Cal l.prog w K mg base "names_of_hand" 1 f18 _ ["row","hand"] (spF K 2 GZ):=⟨PM F18 T,b18,k18,m18⟩
 have h19:Cal l.prog w K mg base "names_plainly" 2 f19 _ ["rows"] (spF K 1 Mnp):=⟨Qy F19 T h18,b19,k19,m19⟩
 have h20:Cal l.prog w K mg base "show_name" 1 f20 _ ["name"] (spD K 1 Ed):=⟨TB F20 T,b20,k20,m20⟩
 exact Su F21 T h2 h3 h7 h8 h11 h17 h19 h20 h5 h4
end DL
open PySem PySem.W PyProof.Rows
theorem PySem.Challenge.cw_evenlots_k46_whole_one_writing_each_holds : PySem.Challenge.rw_evenlots_k46_whole_one_writing_each.Holds := by
 w_on
 o_law
 refine HD.U6 (l:=PySem.Challenge.rw_evenlots_k46_whole_one_writing_each) (q:=DL.qv) (loose:=DL.lse) (N:=100000) (obs:=DL.ob) (val:=DL.vl) (by assumption) rfl rfl (fun _=>rfl) (fun w os=>congrFun (congrFun DL.Pi w) os) (fun w os=>congrFun (congrFun DL.SI w) os) (fun w os=>congrFun (congrFun DL.Tv w) os) (by rfl) (by rfl) (by rfl) rfl (by decide +kernel) ⟨rfl,rfl,rfl,rfl,rfl,by decide +kernel⟩ ?hw ?hc
 case hw=>w_witness2
 case hc=>exact HD.VO (n:=63) (k:=6) (x:="script") (sp:=fun K=>DL.spD K 1 DL.IZ) rfl (by decide) rfl ⟨rfl,by decide,by decide⟩ (fun _ _ _ _ _ O X G m=>DL.all_mk O X G m) fun _ _ _ ns hl _ hS=>DL.OE (DL.PY ns hl) hS
