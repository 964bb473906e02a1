import PyProof.Rows.All
import Wide.All
import OpenK.AllK
import Wide.FinOn
import Lean
import PyProof.EqAt
import PyProof.EqKinds
import PyProof.TupleCall
import PyProof.Rows.SortRuns
import PyProof.Rows.SortShell
import KE.KSortTup
import PyProof.DictKinds
import PyProof.StrOps
import PyProof.NeKinds
import PyProof.NeData
import PyProof.P3In
import PyProof.Rows.SumAny
import PyProof.FString5
import PyProof.StrWalks
import PyProof.Rows.Range3
import PyProof.SeqI3
import PyProof.SetKind
import PyProof.Rows.SetFrom
import PyProof.FactsAll.set
import PyProof.DictIter
import PyProof.CollectWalk
import PyProof.ListRange
import PySem.Challenge.RW_evenlots_k22_whole_keys_and_names
set_option Elab.async false
set_option linter.all false
set_option maxRecDepth 100000
set_option maxHeartbeats 0
noncomputable section
namespace L2
open PySem PySem.Spec PyProof.Rows
abbrev Key:=Sum Int Str
def EG:Key->Value->Bool
 | .inl k,v=>Value.isInt k v
 | .inr x,v=>Value.isStrOf x v
def X0 (w:World):Key->Int
 | .inl k=>hashInt k
 | .inr x=>hashStr w x
theorem C3:∀ {k:Key} {v:Value},EG k v=true->(∃ i t,k=Sum.inl i/\v=Value.int i t)\/(∃ x t,k=Sum.inr x/\v=Value.str x t)
 | .inl i,v,h=>by
  obtain ⟨t,e⟩:=Value.isInt_shape (k:=i) (v:=v) h
  exact .inl ⟨i,t,rfl,e⟩
 | .inr x,v,h=>by
  obtain ⟨t,e⟩:=Value.isStrOf_shape (x:=x) (v:=v) h
  exact .inr ⟨x,t,rfl,e⟩
theorem ZN (i:Int) (t:Tok):EG (.inl i) (.int i t)=true:=by simp[EG,Value.isInt]
theorem U4 (x:Str) (t:Tok):EG (.inr x) (.str x t)=true:=by simp[EG,Value.isStrOf]
theorem UQ (a b:Int):decide ((Sum.inl a:Key)=Sum.inl b)=(a == b):=by
 by_cases e:a=b
 ·subst e;simp
 ·have h:¬(Sum.inl a:Key)=Sum.inl b:=fun q=>e (Sum.inl.inj q)
  rw[decide_eq_false h]
  exact (beq_eq_false_iff_ne.mpr e).symm
theorem Qs (a b:Str):decide ((Sum.inr a:Key)=Sum.inr b)=decide (a=b):=by
 by_cases e:a=b
 ·subst e;simp
 ·have h:¬(Sum.inr a:Key)=Sum.inr b:=fun q=>e (Sum.inr.inj q)
  rw[decide_eq_false h,decide_eq_false e]
theorem X6 (a:Int) (b:Str):decide ((Sum.inl a:Key)=Sum.inr b)=false:=decide_eq_false (fun q=>nomatch q)
theorem Qb (a:Str) (b:Int):decide ((Sum.inr a:Key)=Sum.inl b)=false:=decide_eq_false (fun q=>nomatch q)
def Bq (prog:Program) (w:World):PySem.KeyKind prog w Key where
 is:=EG
 hash:=X0 w
 inj:=fun v a b ha hb=>by
  rcases C3 ha with ⟨i,t,rfl,rfl⟩ | ⟨x,t,rfl,rfl⟩
  ·rcases C3 hb with ⟨j,u,rfl,e⟩ | ⟨y,u,rfl,e⟩
   ·injection e with e1 _;rw[e1]
   ·exact nomatch e
  ·rcases C3 hb with ⟨j,u,rfl,e⟩ | ⟨y,u,rfl,e⟩
   ·exact nomatch e
   ·injection e with e1 _;rw[e1]
 byValue:=fun k v h=>by
  rcases C3 h with ⟨i,t,rfl,rfl⟩ | ⟨x,t,rfl,rfl⟩<;>rfl
 pyHash:=fun hv h=>by
  rcases C3 hv with ⟨i,t,rfl,rfl⟩ | ⟨x,t,rfl,rfl⟩
  ·exact wpAny_pyHash_int h
  ·exact wpAny_pyHash_str h
 eqBool:=fun hu hv h=>by
  rcases C3 hu with ⟨i,t,rfl,rfl⟩ | ⟨x,t,rfl,rfl⟩
  ·rcases C3 hv with ⟨j,u,rfl,rfl⟩ | ⟨y,u,rfl,rfl⟩
   ·rw[UQ] at h;exact wpAny_eqBool_int h
   ·rw[X6] at h;exact SeqAt.EqAt.int_str i t y u _ _ _ _ h
  ·rcases C3 hv with ⟨j,u,rfl,rfl⟩ | ⟨y,u,rfl,rfl⟩
   ·rw[Qb] at h;exact SeqAt.EqAt.str_int x t j u _ _ _ _ h
   ·rw[Qs] at h;exact wpAny_eqBool_str h
 «strs»:=fun k x t v h=>by
  rcases C3 h with ⟨i,u,rfl,e⟩ | ⟨y,u,rfl,e⟩
  ·exact nomatch e
  ·injection e with e1 _
   subst e1
   cases v<;>rfl
theorem Rf (prog:Program) (w:World) (i:Int) (t:Tok):(Bq prog w).is (.inl i) (.int i t)=true:=ZN i t
theorem X3 (prog:Program) (w:World) (x:Str) (t:Tok):(Bq prog w).is (.inr x) (.str x t)=true:=U4 x t
inductive V where
 | non | bl (b:Bool) | int (i:Int) | str (x:Str) | byt (b:Array UInt8) | flt (b:UInt64) | ref (a:Addr) | ty (n:String)
 deriving DecidableEq
def RelV:V->Value->Prop
 | .non,u=>u=Value.none
 | .bl b,u=>u=Value.bool b
 | .int i,u=>∃ t,u=Value.int i t
 | .str x,u=>∃ t,u=Value.str x t
 | .byt b,u=>∃ t,u=Value.bytes b t
 | .flt b,u=>∃ t,u=Value.float b t
 | .ref a,u=>u=Value.ref a
 | .ty n,u=>u=Value.type n
abbrev Vals:List V->List Value->Prop:=Paired RelV
theorem Vals.length {xs:List V} {us:List Value} (r:Vals xs us):xs.length=us.length:=Paired.length r
theorem Vals.get:∀ {xs:List V} {us:List Value} {i:Nat} {x:V},Vals xs us->xs[i]?=some x->∃ u,us[i]?=some u/\RelV x u
 | _,_,_,_,.nil,e=>by simp at e
 | _,_,0,_,.cons r _,e=>by simp at e;subst e;exact ⟨_,rfl,r⟩
 | _,_,i+1,x,.cons _ t,e=>by
  obtain ⟨u,h1,h2⟩:=Vals.get (i:=i) (x:=x) t (by simpa using e)
  exact ⟨u,by simpa using h1,h2⟩
theorem Vals.set {x:V} {u:Value} (r:RelV x u):∀ {xs:List V} {us:List Value} (i:Nat),Vals xs us->Vals (xs.set i x) (us.set i u)
 | _,_,_,.nil=>.nil
 | _,_,0,.cons _ t=>.cons r t
 | _,_,i+1,.cons q t=>.cons q (Vals.set r i t)
theorem Vals.append:∀ {xs ys:List V} {us ws:List Value},Vals xs us->Vals ys ws->Vals (xs++ys) (us++ws)
 | _,_,_,_,.nil,s=>s
 | _,_,_,_,.cons r t,s=>.cons r (Vals.append t s)
theorem Vals.take:∀ {xs:List V} {us:List Value} (n:Nat),Vals xs us->Vals (xs.take n) (us.take n)
 | _,_,0,_=>.nil
 | _,_,_+1,.nil=>.nil
 | _,_,n+1,.cons r t=>.cons r (Vals.take n t)
theorem Vals.drop:∀ {xs:List V} {us:List Value} (n:Nat),Vals xs us->Vals (xs.drop n) (us.drop n)
 | _,_,0,r=>r
 | _,_,_+1,.nil=>.nil
 | _,_,n+1,.cons _ t=>Vals.drop n t
def RelO:Option V->Option Value->Prop
 | some v,some u=>RelV v u
 | none,none=>True
 | _,_=>False
def KV {κ:Type}:List (κ×V)->List (κ×Value)->Prop:=Paired fun (p:κ×V) (q:κ×Value)=>p.1=q.1/\RelV p.2 q.2
def kV:Key->V
 | .inl i=>.int i
 | .inr x=>.str x
inductive HO where
 | lst (xs:List V)
 | tup (xs:List V)
 | dK (kvs:List (Key×V)) | dT (kvs:List (List Key×V))
 | set (S:Int->Bool) (n:Nat)
 | ins (C dx:Addr) (fs:List (Str×V))
 | own (x:Addr)
 | xd (fs:List (Str×V))
 | met (f x:Addr)
 | rng (lo hi:Int)
 | frz (o:Obj) (u:HO)
 | tbl (ps:Array Value)
 | ext (φ:Heap->Prop)
abbrev Hp:=Addr->Option HO
def upd (H:Hp) (a:Addr) (o:HO):Hp:=fun b=>if b=a then some o else H b
theorem Am {H:Hp} {a:Addr} {o:HO}:upd H a o a=some o:=by unfold upd;rw[if_pos rfl]
theorem AJ {H:Hp} {a b:Addr} {o:HO} (h:b≠a):upd H a o b=H b:=by unfold upd;rw[if_neg h]
theorem LG {H:Hp} {a:Addr} {o u:HO}:upd (upd H a o) a u=upd H a u:=by
 funext b;unfold upd;split<;>rfl
theorem GR {H:Hp} {a b:Addr} {o u:HO} (h:H a=some o) (h':H b=some u) (d:o≠u):a≠b:=by
 intro e;subst e;rw[h] at h';exact d (Option.some.inj h')
theorem As {H:Hp} {a b:Addr} {o:HO} (h:H a=some o) (h':H b=none):a≠b:=by
 intro e;subst e;rw[h] at h';cases h'
section
variable (P:Program) (w:World)
def ObjOk (H:Hp) (h:Heap) (a:Addr):HO->Prop
 | .lst xs=>xs.length<=sizeLine/\∃ (its:List Value) (n:Nat),Vals xs its/\h.get? a=some {cls:=.type "list",data:=.seq its.toArray n}
 | .tup xs=>xs.length<=sizeLine/\∃ its:List Value,Vals xs its/\IsTup h a its.toArray
 | .dK kvs=>kvs.length<=sizeLine/\(a == sysModules)=false/\∃ vs,KV kvs vs/\h.DictOf (Bq P w) a vs
 | .dT kvs=>kvs.length<=sizeLine/\(a == sysModules)=false/\∃ xs:List (List Key×Addr×Value),
   Paired (fun (p:List Key×V) (q:List Key×Addr×Value)=>p.1=q.1/\H q.2.1=some (.tup (p.1.map kV))/\RelV p.2 q.2.2) kvs xs /\
   ∃ o es ep,h.get? a=some o/\o.ExactDict/\o.data=.dict es ep/\es.toList=xs.map (entryOfKey (tupleKind (Bq P w)))/\(xs.map (·.1)).Nodup
 | .set S n=>h.SetOf (intKind P w) a S n
 | .ins C dx fs=>H dx=some (.own a)/\fs.length<=1000/\dx≠a/\h.get? a=some (PySem.W.instObj C dx) /\
   ∃ mA,h.Ns1 dx mA/\(∀ f,RelO (fs.lookup f) (mA f))/\PySem.Within mA (fs.map (·.1))
 | .own _=>∃ o,h.get? a=some o
 | .xd fs=>∃ mA,h.Ns1 a mA/\∀ f,RelO (fs.lookup f) (mA f)
 | .rng lo hi=>∃ t u v,h.get? a=some {cls:=.type "range",data:=.fields #[.int lo t,.int hi u,.int 1 v]}
 | .frz o u=>h.get? a=some o/\ObjOk H h a u
 | .tbl ps=>h.get? a=some {cls:=.none,data:=.fields ps}
 | .met f x=>h.get? a=some (PySem.W.methodObj (.ref f) (.ref x))
 | .ext φ=>φ h/\(∃ o,h.get? a=some o)/\∀ h1 h2:Heap,φ h1->(∀ o,h1.get? a=some o->h2.get? a=some o)->φ h2
def HOk (H:Hp) (h:Heap):Prop:=∀ a o,H a=some o->ObjOk P w H h a o
end
section
variable {P:Program} {w:World} {H H':Hp} {h h':Heap} {a:Addr} {o:HO}
theorem ObjOk.lt (x:ObjOk P w H h a o):a<h.objs.size:=by
 cases o with
 | lst xs=>obtain ⟨_,_,_,_,e⟩:=x;exact Heap.lt_size e
 | tup xs=>obtain ⟨_,_,_,p⟩:=x;exact p.lt
 | dK kvs=>obtain ⟨_,_,_,_,o,_,_,e,_⟩:=x;exact Heap.lt_size e
 | dT kvs=>obtain ⟨_,_,_,_,o,_,_,e,_⟩:=x;exact Heap.lt_size e
 | set S n=>obtain ⟨o,_,_,_,e,_⟩:=x;exact Heap.lt_size e
 | ins C dx fs=>obtain ⟨_,_,_,e,_⟩:=x;exact Heap.lt_size e
 | own y=>obtain ⟨_,e⟩:=x;exact Heap.lt_size e
 | xd fs=>obtain ⟨_,⟨_,_,_,e,_⟩,_⟩:=x;exact Heap.lt_size e
 | rng lo hi=>obtain ⟨_,_,_,e⟩:=x;exact Heap.lt_size e
 | frz ob u=>obtain ⟨e,_⟩:=x;exact Heap.lt_size e
 | tbl ps=>exact Heap.lt_size (show h.get? a=some _ from x)
 | met f y=>exact Heap.lt_size (show h.get? a=some _ from x)
 | ext φ=>obtain ⟨_,⟨_,e⟩,_⟩:=x;exact Heap.lt_size e
theorem Paired.mapP {α β:Type} {F G:α->β->Prop}:∀ {l₁:List α} {l₂:List β},Paired F l₁ l₂->(∀ a b,F a b->G a b)->Paired G l₁ l₂
 | _,_,.nil,_=>.nil
 | _,_,.cons r t,f=>.cons (f _ _ r) (Paired.mapP t f)
theorem ObjOk.stay (x:ObjOk P w H h a o) (k:∀ b u,(b=a\/H b=some (.own a))->h.get? b=some u->h'.get? b=some u)
  (ho:∀ b,H b=some (.own a)->H' b=some (.own a)) (ht:∀ b xs,H b=some (.tup xs)->H' b=some (.tup xs)):ObjOk P w H' h' a o:=by
 induction o with
 | lst xs=>obtain ⟨z,its,n,r,e⟩:=x;exact ⟨z,its,n,r,k _ _ (.inl rfl) e⟩
 | tup xs=>obtain ⟨z,its,r,ob,e,c⟩:=x;exact ⟨z,its,r,ob,k _ _ (.inl rfl) e,c⟩
 | dK kvs=>obtain ⟨z,y,vs,r,ob,es,ep,e,c⟩:=x;exact ⟨z,y,vs,r,ob,es,ep,k _ _ (.inl rfl) e,c⟩
 | dT kvs=>
  obtain ⟨z,y,xs,r,ob,es,ep,e,c⟩:=x
  exact ⟨z,y,xs,Paired.mapP r fun p q z=>⟨z.1,ht _ _ z.2.1,z.2.2⟩,ob,es,ep,k _ _ (.inl rfl) e,c⟩
 | set S n=>obtain ⟨ob,es,ep,t,e,c⟩:=x;exact ⟨ob,es,ep,t,k _ _ (.inl rfl) e,c⟩
 | ins C dx fs=>
  obtain ⟨d,z,ne,e,mA,⟨od,es,ep,e2,c⟩,r⟩:=x
  exact ⟨ho _ d,z,ne,k _ _ (.inl rfl) e,mA,⟨od,es,ep,k _ _ (.inr d) e2,c⟩,r⟩
 | own y=>obtain ⟨ob,e⟩:=x;exact ⟨ob,k _ _ (.inl rfl) e⟩
 | xd fs=>obtain ⟨mA,⟨od,es,ep,e,c⟩,r⟩:=x;exact ⟨mA,⟨od,es,ep,k _ _ (.inl rfl) e,c⟩,r⟩
 | rng lo hi=>obtain ⟨t,u,v,e⟩:=x;exact ⟨t,u,v,k _ _ (.inl rfl) e⟩
 | frz ob u ih=>obtain ⟨e,q⟩:=x;exact ⟨k _ _ (.inl rfl) e,ih q⟩
 | tbl ps=>
  have e:h.get? a=some {cls:=.none,data:=.fields ps}:=x
  show h'.get? a=some {cls:=.none,data:=.fields ps}
  exact k a _ (.inl rfl) e
 | met f y=>
  have e:h.get? a=some (PySem.W.methodObj (.ref f) (.ref y)):=x
  show h'.get? a=some (PySem.W.methodObj (.ref f) (.ref y))
  exact k a _ (.inl rfl) e
 | ext φ=>obtain ⟨p,⟨o,e⟩,st⟩:=x;exact ⟨st _ _ p fun o q=>k _ _ (.inl rfl) q,⟨o,k _ _ (.inl rfl) e⟩,st⟩
theorem HOk.lt (x:HOk P w H h) (e:H a=some o):a<h.objs.size:=(x a o e).lt
theorem HOk.fresh (x:HOk P w H h) (e:h.objs.size<=a):H a=none:=by
 cases q:H a with
 | none=>rfl
 | some u=>exact absurd (Nat.lt_of_lt_of_le (x.lt q) e) (Nat.lt_irrefl _)
theorem HOk.kept (x:HOk P w H h) (k:∀ b u,h.get? b=some u->h'.get? b=some u):HOk P w H h':=fun a o e=>
 (x a o e).stay (fun b u _ q=>k b u q) (fun _ q=>q) fun _ _ q=>q
theorem HOk.laid (x:HOk P w H h) (k:∀ b u,h.get? b=some u->h'.get? b=some u) (hp:h.objs.size<=a) (new:ObjOk P w (upd H a o) h' a o):HOk P w (upd H a o) h':=fun b u e=>by
 have hn:=x.fresh hp
 by_cases hb:b=a
 ·subst hb;rw[Am] at e;cases e;exact new
 ·rw[AJ hb] at e
  exact (x b u e).stay (fun c v _ q=>k c v q) (fun c q=>by rw[AJ (As q hn)];exact q) fun c xs q=>by rw[AJ (As q hn)];exact q
end
def Rd (H:Hp) (a:Addr) (u:HO):Prop:=H a=some u\/∃ o,H a=some (.frz o u)
theorem Rd.ok {P:Program} {w:World} {H:Hp} {h:Heap} {a:Addr} {u:HO} (r:Rd H a u) (x:HOk P w H h):ObjOk P w H h a u:=by
 rcases r with r | ⟨o,r⟩
 ·exact x a u r
 ·obtain ⟨_,q⟩:=x a _ r
  exact q
def Mut:Option HO->Prop
 | some (.lst _)=>True
 | some (.dK _)=>True
 | some (.dT _)=>True
 | some (.set _ _)=>True
 | some (.ins _ _ _)=>True
 | some (.ext _)=>True
 | _=>False
section
variable {P:Program} {w:World} {H:Hp} {h h':Heap} {x e:Addr} {o':HO}
theorem HOk.write (ok:HOk P w H h) (mu:Mut (H x)) (he:e=x\/H e=some (.own x)) (k:∀ b u,b≠e->h.get? b=some u->h'.get? b=some u) (heo:∃ u,h'.get? e=some u)
  (new:ObjOk P w (upd H x o') h' x o'):HOk P w (upd H x o') h':=fun b u q=>by
 have nown:∀ c y,H c=some (.own y)->c≠x:=fun c y r z=>by subst z;rw[r] at mu;exact mu
 have ntup:∀ c xs,H c=some (.tup xs)->c≠x:=fun c xs r z=>by subst z;rw[r] at mu;exact mu
 by_cases hb:b=x
 ·subst hb;rw[Am] at q;cases q;exact new
 ·rw[AJ hb] at q
  by_cases hbe:b=e
  ·have q':H b=some (.own x):=by
    rcases he with z | z
    ·exact absurd (hbe.trans z) hb
    ·rw[hbe];exact z
   rw[q] at q';cases q'
   obtain ⟨v,hv⟩:=heo
   exact ⟨v,by rw[hbe];exact hv⟩
  ·refine (ok b u q).stay (fun c v hc r=>k c v ?_ r) (fun c r=>by rw[AJ (nown c b r)];exact r) fun c xs r=>by rw[AJ (ntup c xs r)];exact r
   rcases hc with rfl | hc
   ·exact hbe
   ·rintro rfl
    rcases he with z | z
    ·exact nown c b hc z
    ·rw[hc] at z;cases z;exact hb rfl
end
structure Un (fs ex:List Addr) (H H':Hp) (h h':Heap):Prop where
 keep:∀ b o,h.get? b=some o->H b=none->b∉fs->b∉ex->h'.get? b=some o
 slot:∀ b o,h.get? b=some o->H b=none->b∈fs->b∉ex->∃ sl,h'.get? b=some {o with slots:=sl}
 free:∀ b o,h.get? b=some o->H b=none->b∉ex->H' b=none
 there:∀ b o,h.get? b=some o->b∉ex->∃ o',h'.get? b=some o'
 tups:∀ b xs,H b=some (.tup xs)->H' b=some (.tup xs)
 frzs:∀ b o u,H b=some (.frz o u)->H' b=some (.frz o u)
 tbls:∀ b ps,H b=some (.tbl ps)->∃ more,H' b=some (.tbl (ps++more))
section
variable {fs fs' ex ex':List Addr} {H H1 H2:Hp} {h h1 h2 h':Heap} {a x e:Addr} {o:HO}
theorem Un.any (u:Un fs ex H H1 h h1) {b:Addr} {ob:Obj} (q:h.get? b=some ob) (n:H b=none) (hx:b∉ex):∃ sl,h1.get? b=some {ob with slots:=sl}:=by
 by_cases hb:b∈fs
 ·exact u.slot b ob q n hb hx
 ·exact ⟨ob.slots,u.keep b ob q n hb hx⟩
theorem Un.kept (k:∀ b u,h.get? b=some u->h'.get? b=some u):Un fs ex H H h h':=
 ⟨fun b ob q _ _ _=>k b ob q,fun b ob q _ _ _=>⟨ob.slots,k b ob q⟩,fun _ _ _ n _=>n,fun b ob q _=>⟨ob,k b ob q⟩,fun _ _ q=>q,fun _ _ _ q=>q,fun _ ps q=>⟨#[],by rw[q];simp⟩⟩
theorem Un.refl:Un fs ex H H h h:=Un.kept fun _ _ q=>q
theorem Un.laid (k:∀ b u,h.get? b=some u->h'.get? b=some u) (hp:h.objs.size<=a) (hn:H a=none):Un fs ex H (upd H a o) h h' where
 keep:=fun b u q _ _ _=>k b u q
 slot:=fun b u q _ _ _=>⟨u.slots,k b u q⟩
 free:=fun b u q n _=>by rw[AJ (Nat.ne_of_lt (Nat.lt_of_lt_of_le (Heap.lt_size q) hp))];exact n
 there:=fun b u q _=>⟨u,k b u q⟩
 tups:=fun b xs q=>by rw[AJ (As q hn)];exact q
 frzs:=fun b u xs q=>by rw[AJ (As q hn)];exact q
 tbls:=fun b ps q=>⟨#[],by rw[AJ (As q hn),q];simp⟩
theorem Un.write (mu:Mut (H x)) (he:e=x\/H e=some (.own x)) (k:∀ b u,b≠e->h.get? b=some u->h'.get? b=some u) (heo:∃ u,h'.get? e=some u):Un fs ex H (upd H x o) h h':=by
 have hx:∀ b,H b=none->b≠x:=fun b n z=>by subst z;rw[n] at mu;exact mu
 have hb:∀ b,H b=none->b≠e:=fun b n z=>by
  subst z
  rcases he with r | r
  ·exact hx b n r
  ·rw[n] at r;cases r
 have hm:∀ b u,H b=some u->¬Mut (some u)->b≠x:=fun b u q nm z=>by subst z;rw[q] at mu;exact nm mu
 refine ⟨fun b u q n _ _=>k b u (hb b n) q,fun b u q n _ _=>⟨u.slots,k b u (hb b n) q⟩,fun b u q n _=>by rw[AJ (hx b n)];exact n,fun b u q _=>?_,
  fun b xs q=>by rw[AJ (hm b _ q fun z=>z)];exact q,fun b u xs q=>by rw[AJ (hm b _ q fun z=>z)];exact q,fun b ps q=>⟨#[],by rw[AJ (hm b _ q fun z=>z),q];simp⟩⟩
 by_cases hbe:b=e
 ·subst hbe;exact heo
 ·exact ⟨u,k b u hbe q⟩
end
def trk (h:Heap) (H:Hp):List Addr:=(List.range h.objs.size).filter fun a=>(H a).isSome
def DB (h:Heap) (H:Hp):Heap:=PySem.W.hideAll h (trk h H)
theorem Yb (h:Heap) (H:Hp):(DB h H).objs.size=h.objs.size:=PySem.W.hideAll_size _ _
theorem Rb {h:Heap} {H:Hp} {b:Addr} {o:Obj} (e:h.get? b=some o) (n:H b=none):(DB h H).get? b=some o:=
 PySem.W.hideAll_get _ e fun hm=>by
  have q:(H b).isSome=true:=(List.mem_filter.mp hm).2
  rw[n] at q;simp at q
theorem ZI {h:Heap} {H:Hp} {b:Addr} {o:Obj} (e:(DB h H).get? b=some o):h.get? b=some o/\H b=none:=by
 have e':h.get? b=some o:=PySem.W.of_hideAll (trk h H) e
 refine ⟨e',?_⟩
 cases q:H b with
 | none=>rfl
 | some x=>
  have hm:b∈trk h H:=List.mem_filter.mpr ⟨List.mem_range.mpr (Heap.lt_size e'),by simp[q]⟩
  have z:(DB h H).get? b=none:=PySem.W.hideAll_none (trk h H) hm
  rw[z] at e;cases e
def W8 (g h:Heap) (L:Addr):List (Addr×Obj):=(List.range h.objs.size).filterMap fun a=>if a=L\/(g.get? a).isSome=true then none else (h.get? a).map fun o=>(a,o)
def rest (g h:Heap) (L d:Addr):List (Addr×Obj):=(W8 g h L).filter fun p=>decide (p.1≠d)
structure Mod (K:PySem.W.Frag) (mg:Str->Option Value) (base:Heap):Prop where
 kin:K.In base
 glob:base.Ns mainGlobals mg
 blt:∃ mb,base.Ns builtinsNs mb/\∀ x:Str,x≠"__name__"->mb x=bootBuiltins x
 nolimit:base.NoLimit
structure Cx where
 prog:Program
 w:World
 K:PySem.W.Frag
 mg:Str->Option Value
 base:Heap
 A:Around
 N:List Str
 s₀:Shared
 H₀:Hp
 env:Env
 outer:List Env
 stack:List Env
 ex:List Addr
 fn:Str->Bool
 calm:Bool
 pn:List (Addr×Obj)
 xe:Value->Shared->Prop
def frs (l:List Env):List Addr:=l.filterMap (·.frame)
abbrev Cx.fs (X:Cx):List Addr:=frs X.outer
def Vis (sc:Scope) (x:Str):Prop:=sc.names.lookup x=some .local\/sc.names.lookup x=some .cell\/sc.names.lookup x=some .free
def Loc (sc:Scope) (x:Str):Prop:=sc.names.lookup x=some .local\/sc.names.lookup x=some .cell
def Look (env:Env) (h:Heap) (m:Str->Option Value) (x:Str) (u:Value):Prop:=
 (env.kindOf x=some .local/\m x=some u)\/((env.kindOf x=some .cell\/env.kindOf x=some .free)/\∃ c,env.cells.lookup x=some c/\h.IsCell c (some u))
structure Cx.Ok (X:Cx):Prop where
 mod:Mod X.K X.mg X.base
 kind:X.env.scope.kind=.function
 glob:X.env.globals=mainGlobals
 blt:X.env.builtins=builtinsNs
 above:X.s₀.heap.objs.size<=X.env.locals
 inj:∀ x y c,X.env.cells.lookup x=some c->X.env.cells.lookup y=some c->x=y
 has:∀ x,(X.env.kindOf x=some .cell\/X.env.kindOf x=some .free)->∃ c,X.env.cells.lookup x=some c
 cab:∀ x c,X.fn x=true->X.env.cells.lookup x=some c->X.s₀.heap.objs.size<=c
 hd:X.calm=true->X.A.handled=none
 frames:X.A.frames=some X.stack
 stk:X.stack=X.outer\/(X.stack=X.env::X.outer/\X.env.frame=some X.env.locals)
 exf:∀ b∈X.ex,b≠X.env.locals/\∀ x c,X.env.cells.lookup x=some c->c≠b
 bs:∀ b o,X.base.get? b=some o->X.s₀.heap.get? b=some o/\X.H₀ b=none
 bsz:X.base.objs.size<=X.s₀.heap.objs.size
 noex:∀ b o,X.base.get? b=some o->b∉X.ex
 exfs:∀ b∈X.ex,b∉X.fs
 funs:X.s₀.heap.FunFrames X.base X.outer
 frf:∀ b∈X.fs,X.H₀ b=none
structure Inv (X:Cx) (pins:List (Addr×Obj)) (σ:List (Option V)) (H:Hp) (s:Shared):Prop where
 ok:X.Ok
 os:s.os=X.s₀.os
 bare:AllBare s.gens
 base:Un X.fs X.ex X.H₀ H X.s₀.heap s.heap
 loc:∃ m,s.heap.Ns X.env.locals m/\∀ (i:Nat) (x:Str) (v:V),X.N[i]?=some x->σ[i]?=some (some v)->Vis X.env.scope x->∃ u,RelV v u/\Look X.env s.heap m x u
 cell:∀ x c,X.env.cells.lookup x=some c->∃ v,s.heap.IsCell c v
 free:H X.env.locals=none
 freeC:∀ x c,X.env.cells.lookup x=some c->H c=none
 pin:∀ p∈X.pn++pins,s.heap.get? p.1=some p.2/\H p.1=none/\p.1≠X.env.locals/\p.1∉X.fs/\∀ v,p.2.data≠.cell v
 hok:HOk X.prog X.w H s.heap
 len:σ.length=X.N.length
section
variable {X:Cx} {pins:List (Addr×Obj)} {σ:List (Option V)} {H H':Hp} {s:Shared} {h':Heap}
theorem Cx.Ok.nofr (ok:X.Ok) {b:Addr} {o:Obj} (e:X.base.get? b=some o):b∉X.fs:=fun hb=>by
 have:=(ok.funs.mem hb).1
 rw[e] at this;cases this
theorem Inv.bs (I:Inv X pins σ H s):∀ b o,X.base.get? b=some o->s.heap.get? b=some o/\H b=none:=fun b o e=>
 ⟨I.base.keep b o (I.ok.bs b o e).1 (I.ok.bs b o e).2 (I.ok.nofr e) (I.ok.noex b o e),I.base.free b o (I.ok.bs b o e).1 (I.ok.bs b o e).2 (I.ok.noex b o e)⟩
theorem Inv.bk (I:Inv X pins σ H s):∀ b o,X.base.get? b=some o->s.heap.get? b=some o:=fun b o e=>(I.bs b o e).1
theorem Inv.mod (I:Inv X pins σ H s):Mod X.K X.mg X.base:=I.ok.mod
theorem Inv.kIn (I:Inv X pins σ H s):X.K.In s.heap:=I.ok.mod.kin.keeps I.bk
theorem Inv.lt (I:Inv X pins σ H s):X.env.locals<s.heap.objs.size:=let ⟨_,hn,_⟩:=I.loc;hn.lt
theorem Inv.sz (I:Inv X pins σ H s):X.s₀.heap.objs.size<=s.heap.objs.size:=Nat.le_trans I.ok.above (Nat.le_of_lt I.lt)
theorem Inv.nofs (I:Inv X pins σ H s) {a:Addr} (h:s.heap.objs.size<=a):a∉X.fs:=fun hb=>by
 obtain ⟨_,o,ho,_⟩:=I.ok.funs.mem hb
 exact absurd (Nat.lt_of_lt_of_le (Heap.lt_size ho) (Nat.le_trans I.sz h)) (Nat.lt_irrefl _)
theorem Inv.cne (I:Inv X pins σ H s):∀ x c,X.env.cells.lookup x=some c->c≠X.env.locals:=fun x c e z=>by
 obtain ⟨v,o,ho,hd⟩:=I.cell x c e
 obtain ⟨m,⟨o',es,ep,ho',hd',_⟩,_⟩:=I.loc
 rw[z,ho'] at ho;cases ho;rw[hd'] at hd;cases hd
theorem Inv.funs (I:Inv X pins σ H s):s.heap.FunFrames X.base X.outer:=by
 have all:∀ (l:List Env),(∀ b∈frs l,b∈X.fs)->X.s₀.heap.FunFrames X.base l->s.heap.FunFrames X.base l:=by
  intro l
  induction l with
  | nil=>intro _ _;trivial
  | cons env r ih=>
   intro hs hl
   obtain ⟨hk,⟨L,o,hf,hn,ho,hd⟩,hr⟩:=hl
   have hL:L∈X.fs:=hs L (by unfold frs;rw[List.filterMap_cons,hf];exact List.mem_cons_self)
   obtain ⟨sl,e⟩:=I.base.slot L o ho (I.ok.frf L hL) hL fun z=>I.ok.exfs L z hL
   exact ⟨hk,⟨L,_,hf,hn,e,hd⟩,ih (fun b hb=>hs b (by unfold frs;rw[List.filterMap_cons,hf];exact List.mem_cons_of_mem _ hb)) hr⟩
 exact all X.outer (fun _ hb=>hb) I.ok.funs
theorem Inv.stack (I:Inv X pins σ H s):s.heap.FunFrames X.base X.stack:=by
 rcases I.ok.stk with e | ⟨e,hf⟩
 ·rw[e];exact I.funs
 ·rw[e]
  obtain ⟨m,hn,_⟩:=I.loc
  refine .cons (by rw[I.ok.kind];decide) hf hn ?_ I.funs
  exact Heap.get?_none_of_le (Nat.le_trans I.ok.bsz I.ok.above)
theorem Inv.stkSub (I:Inv X pins σ H s):∀ b∈frs X.stack,b∈X.env.locals::X.fs:=fun b hb=>by
 rcases I.ok.stk with e | ⟨e,hf⟩
 ·rw[e] at hb;exact List.mem_cons_of_mem _ hb
 ·rw[e] at hb
  unfold frs at hb
  rw[List.filterMap_cons,hf] at hb
  exact hb
theorem Inv.stkFree (I:Inv X pins σ H s):∀ b∈frs X.stack,H b=none:=fun b hb=>by
 rcases List.mem_cons.mp (I.stkSub b hb) with e | hb
 ·rw[e];exact I.free
 ·obtain ⟨_,o,ho,_⟩:=I.ok.funs.mem hb
  exact I.base.free b o ho (I.ok.frf b hb) fun z=>I.ok.exfs b z hb
theorem Inv.step {g':Array GenState} {t':Nat} {d':Drawn} {ch:List Addr} (I:Inv X pins σ H s)
  (hch:∀ b∈ch,(b∈X.ex\/X.s₀.heap.objs.size<=b)/\b≠X.env.locals/\(∀ x c,X.env.cells.lookup x=some c->c≠b)/\∀ p∈X.pn++pins,p.1≠b)
  (keep:∀ b o,b≠X.env.locals->b∉X.fs->b∉ch->s.heap.get? b=some o->H b=none->h'.get? b=some o)
  (slot:∀ b o,b≠X.env.locals->b∈X.fs->b∉ch->s.heap.get? b=some o->H b=none->∃ sl,h'.get? b=some {o with slots:=sl}) (free:∀ b o,b∉ch->s.heap.get? b=some o->H b=none->H' b=none)
  (there:∀ b o,b∉ch->s.heap.get? b=some o->∃ o',h'.get? b=some o')
  (tups:∀ b xs,H b=some (.tup xs)->H' b=some (.tup xs)) (frzs:∀ b o u,H b=some (.frz o u)->H' b=some (.frz o u)) (tbls:∀ b ps,H b=some (.tbl ps)->∃ more,H' b=some (.tbl (ps++more)))
  (ns:∀ m,s.heap.Ns X.env.locals m->h'.Ns X.env.locals m) (hok:HOk X.prog X.w H' h') (hg:AllBare g') :
  Inv X pins σ H' {s with heap:=h',gens:=g',drawn:=d',toks:=t'}:=by
 have neL:∀ b o,X.s₀.heap.get? b=some o->b≠X.env.locals:=fun b o e=>Nat.ne_of_lt (Nat.lt_of_lt_of_le (Heap.lt_size e) I.ok.above)
 have neC:∀ b o,X.s₀.heap.get? b=some o->b∉X.ex->b∉ch:=fun b o e hx hb=>by
  rcases (hch b hb).1 with z | z
  ·exact hx z
  ·exact absurd (Nat.lt_of_lt_of_le (Heap.lt_size e) z) (Nat.lt_irrefl _)
 have cellK:∀ x c,X.env.cells.lookup x=some c->∀ v,s.heap.IsCell c v->h'.IsCell c v:=fun x c e v hh_=>by
  obtain ⟨o,ho,hd⟩:=hh_
  have nch:c∉ch:=fun z=>(hch c z).2.2.1 x c e rfl
  by_cases hc:c∈X.fs
  ·obtain ⟨sl,q⟩:=slot c o (I.cne x c e) hc nch ho (I.freeC x c e)
   exact ⟨_,q,hd⟩
  ·exact ⟨o,keep c o (I.cne x c e) hc nch ho (I.freeC x c e),hd⟩
 refine ⟨I.ok,I.os,hg,⟨fun b o e n hb hx=>?_,fun b o e n hb hx=>?_,fun b o e n hx=>?_,fun b o e hx=>?_,fun b xs e=>tups b xs (I.base.tups b xs e),fun b o xs e=>frzs b o xs (I.base.frzs b o xs e),fun b ps e=>?_⟩,?_,fun x c e=>?_,?_,fun x c e=>?_,fun p hp=>?_,hok,I.len⟩
 ·exact keep b o (neL b o e) hb (neC b o e hx) (I.base.keep b o e n hb hx) (I.base.free b o e n hx)
 ·obtain ⟨sl,e1⟩:=I.base.slot b o e n hb hx
  obtain ⟨sl',e2⟩:=slot b _ (neL b o e) hb (neC b o e hx) e1 (I.base.free b o e n hx)
  exact ⟨sl',e2⟩
 ·obtain ⟨o',e1⟩:=I.base.there b o e hx
  exact free b o' (neC b o e hx) e1 (I.base.free b o e n hx)
 ·obtain ⟨o',e1⟩:=I.base.there b o e hx
  exact there b o' (neC b o e hx) e1
 ·obtain ⟨m1,e1⟩:=I.base.tbls b ps e
  obtain ⟨m2,e2⟩:=tbls b _ e1
  exact ⟨m1++m2,by rw[e2,Array.append_assoc]⟩
 ·obtain ⟨m,hn,hl⟩:=I.loc
  refine ⟨m,ns m hn,fun i x v e1 e2 e3=>?_⟩
  obtain ⟨u,r,l⟩:=hl i x v e1 e2 e3
  refine ⟨u,r,?_⟩
  rcases l with l | ⟨k,c,e,z⟩
  ·exact .inl l
  ·exact .inr ⟨k,c,e,cellK x c e _ z⟩
 ·obtain ⟨v,z⟩:=I.cell x c e
  exact ⟨v,cellK x c e v z⟩
 ·obtain ⟨m,⟨o,_,_,ho,_⟩,_⟩:=I.loc
  exact free _ o (fun z=>(hch _ z).2.1 rfl) ho I.free
 ·obtain ⟨v,o,ho,hd⟩:=I.cell x c e
  exact free c o (fun z=>(hch c z).2.2.1 x c e rfl) ho (I.freeC x c e)
 ·obtain ⟨e,n,ne,nf,d⟩:=I.pin p hp
  have nch:p.1∉ch:=fun z=>(hch p.1 z).2.2.2 p hp rfl
  exact ⟨keep p.1 p.2 ne nf nch e n,free p.1 p.2 nch e n,ne,nf,d⟩
theorem Inv.un {t':Nat} (I:Inv X pins σ H s) (u:Un X.fs [] H H' s.heap h') (hok:HOk X.prog X.w H' h'):Inv X pins σ H' {s with heap:=h',toks:=t'}:=by
 obtain ⟨m,⟨o,es,ep,ho,r⟩,_⟩:=id I.loc
 obtain ⟨sl,hL⟩:=u.any ho I.free (by simp)
 exact I.step (g':=s.gens) (d':=s.drawn) (ch:=[]) (fun _ z=>nomatch z) (fun b o _ hb _ e n=>u.keep b o e n hb (by simp)) (fun b o _ hb _ e n=>u.slot b o e n hb (by simp)) (fun b o _ e n=>u.free b o e n (by simp)) (fun b o _ e=>u.there b o e (by simp)) u.tups u.frzs u.tbls (fun m' hm=>by
  obtain ⟨o',es',ep',ho',r'⟩:=hm
  rw[ho] at ho';cases ho'
  exact ⟨_,es',ep',hL,r'⟩) hok I.bare
theorem Inv.call {g':Array GenState} {t':Nat} {d':Drawn} {ch:List Addr} (I:Inv X pins σ H s) (u:Un (frs X.stack) ch H H' s.heap h') (hok:HOk X.prog X.w H' h') (hg:AllBare g')
  (hch:∀ b∈ch,(b∈X.ex\/X.s₀.heap.objs.size<=b)/\b≠X.env.locals/\(∀ x c,X.env.cells.lookup x=some c->c≠b)/\∀ p∈X.pn++pins,p.1≠b) :
  Inv X pins σ H' {s with heap:=h',gens:=g',drawn:=d',toks:=t'}:=by
 obtain ⟨m,⟨o,es,ep,ho,r⟩,_⟩:=id I.loc
 obtain ⟨sl,hL⟩:=u.any ho I.free fun z=>(hch _ z).2.1 rfl
 exact I.step (ch:=ch) hch (fun b o hL hb hc e n=>u.keep b o e n (fun z=>(List.mem_cons.mp (I.stkSub b z)).elim hL hb) hc) (fun b o _ _ hc e n=>u.any e n hc) (fun b o hc e n=>u.free b o e n hc) (fun b o hc e=>u.there b o e hc) u.tups u.frzs u.tbls (fun m' hm=>by
  obtain ⟨o',es',ep',ho',r'⟩:=hm
  rw[ho] at ho';cases ho'
  exact ⟨_,es',ep',hL,r'⟩) hok hg
theorem Inv.turned {t':Nat} {it:Addr} (I:Inv X pins σ H s) (k:∀ b o,b≠it->s.heap.get? b=some o->h'.get? b=some o) (hn:H it=none) (hL:it≠X.env.locals)
  (h1:it∈X.ex\/X.s₀.heap.objs.size<=it) (h2:∀ x c,X.env.cells.lookup x=some c->c≠it) (h3:∀ p∈X.pn++pins,p.1≠it):Inv X pins σ H {s with heap:=h',toks:=t'}:=by
 have nit:∀ b u,H b=some u->b≠it:=fun b u e z=>by rw[z,hn] at e;cases e
 refine I.step (g':=s.gens) (d':=s.drawn) (ch:=[it]) (fun b hb=>?_) (fun b o _ _ hc e _=>k b o (fun z=>hc (by simp[z])) e) (fun b o _ _ hc e _=>⟨o.slots,k b o (fun z=>hc (by simp[z])) e⟩) (fun _ _ _ _ n=>n)
  (fun b o hc e=>⟨o,k b o (fun z=>hc (by simp[z])) e⟩) (fun _ _ e=>e) (fun _ _ _ e=>e) (fun b ps e=>⟨#[],by rw[e];simp⟩) (fun m hm=>?_) (fun b u e=>?_) I.bare
 ·have e:b=it:=by simpa using hb
  subst e
  exact ⟨h1,hL,h2,h3⟩
 ·obtain ⟨o,es,ep,ho,r⟩:=hm
  exact ⟨o,es,ep,k _ o (Ne.symm hL) ho,r⟩
 ·refine (I.hok b u e).stay (fun c v hc q=>k c v ?_ q) (fun _ q=>q) fun _ _ q=>q
  rcases hc with z | z
  ·rw[z];exact nit b u e
  ·exact nit c _ z
theorem Inv.tok (I:Inv X pins σ H s) (t:Nat):Inv X pins σ H {s with toks:=t}:=I.un (h':=s.heap) (t':=t) Un.refl I.hok
theorem Inv.kept {t':Nat} (I:Inv X pins σ H s) (k:∀ b u,s.heap.get? b=some u->h'.get? b=some u):Inv X pins σ H {s with heap:=h',toks:=t'}:=I.un (Un.kept k) (I.hok.kept k)
theorem Inv.laid {a:Addr} {o:HO} {t':Nat} (I:Inv X pins σ H s) (k:∀ b u,s.heap.get? b=some u->h'.get? b=some u) (hp:s.heap.objs.size<=a) (new:ObjOk X.prog X.w (upd H a o) h' a o) :
  Inv X pins σ (upd H a o) {s with heap:=h',toks:=t'}:=I.un (Un.laid k hp (I.hok.fresh hp)) (I.hok.laid k hp new)
theorem Inv.write {x e:Addr} {o:HO} {t':Nat} (I:Inv X pins σ H s) (mu:Mut (H x)) (he:e=x\/H e=some (.own x)) (k:∀ b u,b≠e->s.heap.get? b=some u->h'.get? b=some u) (heo:∃ u,h'.get? e=some u)
  (new:ObjOk X.prog X.w (upd H x o) h' x o):Inv X pins σ (upd H x o) {s with heap:=h',toks:=t'}:=I.un (Un.write mu he k heo) (I.hok.write mu he k heo new)
theorem Inv.pins_of {pins':List (Addr×Obj)} (I:Inv X pins σ H s) (h:∀ p∈pins',s.heap.get? p.1=some p.2/\H p.1=none/\p.1≠X.env.locals/\p.1∉X.fs/\∀ v,p.2.data≠.cell v):Inv X pins' σ H s:=
 ⟨I.ok,I.os,I.bare,I.base,I.loc,I.cell,I.free,I.freeC,fun p hp=>(List.mem_append.mp hp).elim (fun z=>I.pin p (List.mem_append_left _ z)) (h p),I.hok,I.len⟩
theorem Pf {N:List Str} (hN:N.Nodup) {i j:Nat} {x:Str} (a:N[i]?=some x) (b:N[j]?=some x):i=j:=by
 obtain ⟨h1,e1⟩:=List.getElem?_eq_some_iff.mp a
 obtain ⟨h2,e2⟩:=List.getElem?_eq_some_iff.mp b
 exact (List.getElem_inj hN).mp (e1.trans e2.symm)
theorem Pu {M:Model} {A:Around} {E:Value->Shared->Prop} {i:Nat} {x:Str} {v:V} {u:Value} {Q:Unit->Shared->Prop} (I:Inv X pins σ H s) (hN:X.N.Nodup) (hi:X.N[i]?=some x) (hx:Loc X.env.scope x) (r:RelV v u)
  (h:∀ s',Inv X pins (σ.set i (some v)) H s'->(∃ a,Heap.SameBut a s.heap s'.heap/\(a=X.env.locals\/X.env.cells.lookup x=some a))->Q () s') (hf:X.fn x=true\/X.env.scope.names.lookup x=some .local:=by first | exact .inl rfl | exact .inr rfl | assumption):wpAny M A (storeName X.env x u) Q E s:=by
 obtain ⟨m,hn,hl⟩:=id I.loc
 have hcls:(X.env.scope.kind == .class || (X.env.scope.kind == .module && X.env.locals != X.env.globals))=false:=by rw[I.ok.kind];rfl
 have hiσ:i<σ.length:=by rw[I.len];exact (List.getElem?_eq_some_iff.mp hi).1
 have cne:=I.cne
 have tracked:∀ {a:Addr} {h':Heap},(∃ o,s.heap.get? a=some o/\H a=none)->Heap.SameBut a s.heap h'->HOk X.prog X.w H h':=fun {a h'} ha hs b ob e=>by
  obtain ⟨_,_,hfree⟩:=ha
  refine (I.hok b ob e).stay (fun c w' hc q=>(hs.2 c ?_).trans q) (fun _ q=>q) fun _ _ q=>q
  rintro rfl
  rcases hc with rfl | hc
  ·rw[hfree] at e;cases e
  ·rw[hfree] at hc;cases hc
 rcases hx with hk | hk
 ·refine wpAny_storeName_local hk hn (fun h' hn' hs=>?_) hcls
  obtain ⟨oL,_,_,hoL,_⟩:=id hn
  refine h _ ⟨I.ok,I.os,I.bare,⟨fun b o e n hb hx=>?_,fun b o e n hb hx=>?_,I.base.free,fun b o e hx=>?_,I.base.tups,I.base.frzs,I.base.tbls⟩,⟨_,hn',fun j y v' e1 e2 e3=>?_⟩,fun y c e=>?_,I.free,I.freeC,fun p hp=>?_,tracked ⟨oL,hoL,I.free⟩ hs,by simpa using I.len⟩ ⟨_,hs,.inl rfl⟩
  ·exact (hs.2 b (Nat.ne_of_lt (Nat.lt_of_lt_of_le (Heap.lt_size e) I.ok.above))).trans (I.base.keep b o e n hb hx)
  ·obtain ⟨sl,e1⟩:=I.base.slot b o e n hb hx
   exact ⟨sl,(hs.2 b (Nat.ne_of_lt (Nat.lt_of_lt_of_le (Heap.lt_size e) I.ok.above))).trans e1⟩
  ·obtain ⟨o',e1⟩:=I.base.there b o e hx
   exact ⟨o',(hs.2 b (Nat.ne_of_lt (Nat.lt_of_lt_of_le (Heap.lt_size e) I.ok.above))).trans e1⟩
  ·by_cases hj:j=i
   ·subst hj
    rw[hi] at e1;cases e1
    rw[List.getElem?_set_self hiσ] at e2
    cases e2
    exact ⟨u,r,.inl ⟨hk,by simp⟩⟩
   ·rw[List.getElem?_set_ne (Ne.symm hj)] at e2
    obtain ⟨u',r',q⟩:=hl j y v' e1 e2 e3
    refine ⟨u',r',?_⟩
    rcases q with ⟨k,e⟩ | ⟨k,c,e,z⟩
    ·refine .inl ⟨k,?_⟩
     have:y≠x:=fun e=>hj (Pf hN e1 (e▸hi))
     simp[this,e]
    ·exact .inr ⟨k,c,e,z.sameBut hs (cne y c e)⟩
  ·obtain ⟨w',z⟩:=I.cell y c e
   exact ⟨w',z.sameBut hs (cne y c e)⟩
  ·obtain ⟨e,n,ne,nf,d⟩:=I.pin p hp
   exact ⟨(hs.2 p.1 ne).trans e,n,ne,nf,d⟩
 ·have hfn:X.fn x=true:=by
   rcases hf with z | z
   ·exact z
   ·rw[z] at hk;cases hk
  obtain ⟨c,hc⟩:=I.ok.has x (.inl hk)
  obtain ⟨w',z⟩:=I.cell x c hc
  refine wpAny_storeName_cell I.ok.kind hk hc z (fun h' hc' hs=>?_)
  obtain ⟨oc,hoc,hocd⟩:=id z
  refine h {s with heap:=h'} ⟨I.ok,I.os,I.bare,⟨fun b o e n hb hx=>?_,fun b o e n hb hx=>?_,I.base.free,fun b o e hx=>?_,I.base.tups,I.base.frzs,I.base.tbls⟩,⟨m,hn.sameBut hs (Ne.symm (cne x c hc)),fun j y v' e1 e2 e3=>?_⟩,fun y c' e=>?_,I.free,I.freeC,fun p hp=>?_,tracked ⟨oc,hoc,I.freeC x c hc⟩ hs,by simpa using I.len⟩ ⟨c,hs,.inr hc⟩
  ·exact (hs.2 b (Nat.ne_of_lt (Nat.lt_of_lt_of_le (Heap.lt_size e) (I.ok.cab x c hfn hc)))).trans (I.base.keep b o e n hb hx)
  ·obtain ⟨sl,e1⟩:=I.base.slot b o e n hb hx
   exact ⟨sl,(hs.2 b (Nat.ne_of_lt (Nat.lt_of_lt_of_le (Heap.lt_size e) (I.ok.cab x c hfn hc)))).trans e1⟩
  ·obtain ⟨o',e1⟩:=I.base.there b o e hx
   exact ⟨o',(hs.2 b (Nat.ne_of_lt (Nat.lt_of_lt_of_le (Heap.lt_size e) (I.ok.cab x c hfn hc)))).trans e1⟩
  ·by_cases hj:j=i
   ·subst hj
    rw[hi] at e1;cases e1
    rw[List.getElem?_set_self hiσ] at e2
    cases e2
    exact ⟨u,r,.inr ⟨.inl hk,c,hc,hc'⟩⟩
   ·rw[List.getElem?_set_ne (Ne.symm hj)] at e2
    obtain ⟨u',r',q⟩:=hl j y v' e1 e2 e3
    refine ⟨u',r',?_⟩
    rcases q with q | ⟨k,c',e,z'⟩
    ·exact .inl q
    ·refine .inr ⟨k,c',e,z'.sameBut hs ?_⟩
     rintro rfl
     exact hj (Pf hN e1 (I.ok.inj _ _ _ e hc▸hi))
  ·by_cases hcc:c'=c
   ·subst hcc;exact ⟨_,hc'⟩
   ·obtain ⟨w2,z2⟩:=I.cell y c' e
    exact ⟨w2,z2.sameBut hs hcc⟩
  ·obtain ⟨e,n,ne,nf,d⟩:=I.pin p hp
   refine ⟨(hs.2 p.1 ?_).trans e,n,ne,nf,d⟩
   intro q
   rw[q,hoc] at e
   have q':oc=p.2:=Option.some.inj e
   exact d w' (by rw[<-q'];exact hocd)
theorem Lq {M:Model} {A:Around} {E:Value->Shared->Prop} {i:Nat} {x:Str} {v:V} {u:Value} {Q:Unit->Shared->Prop} (I:Inv X pins σ H s) (hN:X.N.Nodup) (hi:X.N[i]?=some x) (hx:Loc X.env.scope x) (r:RelV v u)
  (h:∀ s',Inv X pins (σ.set i (some v)) H s'->Q () s') (hf:X.fn x=true\/X.env.scope.names.lookup x=some .local:=by first | exact .inl rfl | exact .inr rfl | assumption):wpAny M A (storeName X.env x u) Q E s:=
 Pu I hN hi hx r (fun s' I' _=>h s' I') hf
theorem Inv.call' {s':Shared} {ch:List Addr} (I:Inv X pins σ H s) (ho:s'.os=s.os) (u:Un (frs X.stack) ch H H' s.heap s'.heap) (hok:HOk X.prog X.w H' s'.heap) (hg:AllBare s'.gens)
  (hch:∀ b∈ch,(b∈X.ex\/X.s₀.heap.objs.size<=b)/\b≠X.env.locals/\(∀ x c,X.env.cells.lookup x=some c->c≠b)/\∀ p∈X.pn++pins,p.1≠b):Inv X pins σ H' s':=by
 obtain ⟨h',g',d',t',o'⟩:=s'
 have e:o'=s.os:=ho
 subst e
 exact I.call (g':=g') (t':=t') (d':=d') u hok hg hch
end
abbrev XK:=Value->Option Addr->Hp->Prop
abbrev St:=List (Option V)
abbrev VK:=V->Hp->Prop
abbrev TE:=St->Hp->VK->Prop
abbrev TT:=St->Hp->(Bool->Hp->Prop)->Prop
abbrev TA:=St->Hp->(List V->Hp->Prop)->Prop
structure Ends where
 nx:St->Hp->Prop
 rt:VK
 bk:St->Hp->Prop:=fun _ _=>False
 ct:St->Hp->Prop:=fun _ _=>False
abbrev TS:=Ends->St->Hp->Prop
def EP (X:Cx) (pins:List (Addr×Obj)) (σ:St) (Q:VK) (u:Value) (s':Shared):Prop:=∃ v H',Inv X pins σ H' s'/\RelV v u/\Q v H'
def TP (X:Cx) (pins:List (Addr×Obj)) (σ:St) (Q:Bool->Hp->Prop) (b:Bool) (s':Shared):Prop:=∃ H',Inv X pins σ H' s'/\Q b H'
def AP (X:Cx) (pins:List (Addr×Obj)) (σ:St) (Q:List V->Hp->Prop) (us:List Value) (s':Shared):Prop:=∃ vs H',Inv X pins σ H' s'/\Vals vs us/\Q vs H'
def SP (X:Cx) (pins:List (Addr×Obj)) (D:Ends) (f:Flow) (s':Shared):Prop:=
 match f with
 | .next=>∃ σ' H',Inv X pins σ' H' s'/\D.nx σ' H'
 | .brk=>∃ σ' H',Inv X pins σ' H' s'/\D.bk σ' H'
 | .cont=>∃ σ' H',Inv X pins σ' H' s'/\D.ct σ' H'
 | .ret u=>∃ v σ' H',Inv X pins σ' H' s'/\RelV v u/\D.rt v H'
def PE (X:Cx) (e:Expr) (t:TE):Prop:=
 ∀ (pins:List (Addr×Obj)) (s:Shared) (σ:St) (H:Hp) (Q:VK),Inv X pins σ H s->t σ H Q->wpAny (model X.prog X.w) X.A (eval e X.env) (EP X pins σ Q) X.xe s
def PT (X:Cx) (e:Expr) (t:TT):Prop:=
 ∀ (pins:List (Addr×Obj)) (s:Shared) (σ:St) (H:Hp) (Q:Bool->Hp->Prop),Inv X pins σ H s->t σ H Q->wpAny (model X.prog X.w) X.A (isTrue e X.env (eval e X.env)) (TP X pins σ Q) X.xe s
def PW (X:Cx) (e:Expr) (t:TT):Prop:=
 ∀ (whole:Sem Value) (pins:List (Addr×Obj)) (s:Shared) (σ:St) (H:Hp) (Q:Bool->Hp->Prop),Inv X pins σ H s->t σ H Q->wpAny (model X.prog X.w) X.A (isTrue e X.env whole) (TP X pins σ Q) X.xe s
theorem PW.pt {X:Cx} {e:Expr} {t:TT} (h:PW X e t):PT X e t:=h _
def PA (X:Cx) (es:List Expr) (t:TA):Prop:=
 ∀ (pos:Pos) (pins:List (Addr×Obj)) (s:Shared) (σ:St) (H:Hp) (Q:List V->Hp->Prop),Inv X pins σ H s->t σ H Q->wpAny (model X.prog X.w) X.A (spliced (backTo pos (starEach es X.env))) (AP X pins σ Q) X.xe s
def PS (X:Cx) (st:Stmt) (t:TS):Prop:=
 ∀ (pins:List (Addr×Obj)) (s:Shared) (σ:St) (H:Hp) (D:Ends),Inv X pins σ H s->t D σ H->wpAny (model X.prog X.w) X.A (exec st X.env) (SP X pins D) X.xe s
def PSs (X:Cx) (st:List Stmt) (t:TS):Prop:=
 ∀ (pins:List (Addr×Obj)) (s:Shared) (σ:St) (H:Hp) (D:Ends),Inv X pins σ H s->t D σ H->wpAny (model X.prog X.w) X.A (execs st X.env) (SP X pins D) X.xe s
theorem thn {α:Type} {t:Sem α} {Q Q':α->Shared->Prop} {M:Model} {A:Around} {E:Value->Shared->Prop} {s:Shared} (h:wpAny M A t Q E s) (hQ:∀ a s,Q a s->Q' a s):wpAny M A t Q' E s:=wpAny_mono h hQ fun _ _ x=>x
section
variable {X:Cx}
def HF (i:Nat):TE:=fun σ H Q=>∃ v,σ[i]?=some (some v)/\Q v H
def tC (v:V):TE:=fun _ H Q=>Q v H
theorem Wp {i:Nat} {x:Str} {pos:Pos} (hN:X.N[i]?=some x) (hv:Vis X.env.scope x) (hd:(x == ("__debug__":Str))=false:=by decide) (hcd:(x == ("__classdict__":Str))=false:=by decide):PE X (.Name x pos) (HF i):=by
 intro pins s σ H Q I h
 obtain ⟨v,e,h⟩:=h
 obtain ⟨m,hn,hl⟩:=I.loc
 obtain ⟨u,r,l⟩:=hl i x v hN e hv
 have fin:EP X pins σ Q u s:=⟨v,H,I,r,h⟩
 rcases l with ⟨hk,hm⟩ | ⟨hk,c,hc,hcell⟩
 ·exact wpAny_Name (wpAny_loadName_local I.ok.kind hk hn hm fin) hd
 ·rcases hk with hk | hk
  ·exact wpAny_Name (wpAny_loadName_cell I.ok.kind hk hc hcell fin) hd
  ·exact wpAny_Name (wpAny_loadName_free I.ok.kind hk hc hcell fin hcd) hd
theorem DX {i j pos}:PE X (.Constant (.int i) j pos) (tC (.int i)):=fun _ _ _ H _ I h=>wpAny_Constant_int ⟨.int i,H,I.tok _,⟨_,rfl⟩,h⟩
theorem LW {b j pos}:PE X (.Constant (.bool b) j pos) (tC (.bl b)):=fun _ _ _ H _ I h=>Constant_bool ⟨.bl b,H,I,rfl,h⟩
theorem Y8 {x j pos}:PE X (.Constant (.str x) j pos) (tC (.str x)):=fun _ _ _ H _ I h=>Calls.Constant_str ⟨.str x,H,I.tok _,⟨_,rfl⟩,h⟩
def Gl (X:Cx) (x:Str):Prop:=X.env.kindOf x=some .globalImplicit
theorem Ma {E:Value->Shared->Prop} {pins:List (Addr×Obj)} {s:Shared} {σ:St} {H:Hp} {x:Str} {u:Value} {pos:Pos} {Q:Value->Shared->Prop} (I:Inv X pins σ H s) (hg:Gl X x) (hm:X.mg x=some u) (h:Q u s)
  (hd:(x == ("__debug__":Str))=false:=by decide):wpAny (model X.prog X.w) X.A (eval (.Name x pos) X.env) Q E s:=
 Calls.Name_function_global I.ok.kind hg (Calls.loadGlobal_global (by rw[I.ok.glob];exact I.mod.glob.keeps I.bk) hm h) hd
theorem Ee {E:Value->Shared->Prop} {pins:List (Addr×Obj)} {s:Shared} {σ:St} {H:Hp} {x:Str} {u:Value} {pos:Pos} {Q:Value->Shared->Prop} (I:Inv X pins σ H s) (hg:Gl X x) (hm:X.mg x=none) (hv:bootBuiltins x=some u) (h:Q u s)
  (hn:x≠"__name__":=by decide) (hd:(x == ("__debug__":Str))=false:=by decide):wpAny (model X.prog X.w) X.A (eval (.Name x pos) X.env) Q E s:=by
 obtain ⟨mb,h1,h2⟩:=I.mod.blt
 exact Calls.Name_function_global I.ok.kind hg (Calls.loadGlobal_builtin (by rw[I.ok.glob];exact I.mod.glob.keeps I.bk) hm (by rw[I.ok.blt];exact h1.keeps I.bk) ((h2 x hn).trans hv) h) hd
theorem QK {x:Str} {v:V} {u:Value} {pos:Pos} (hg:Gl X x) (hm:X.mg x=some u) (r:RelV v u) (hd:(x == ("__debug__":Str))=false:=by decide):PE X (.Name x pos) (tC v):=
 fun _ _ _ H _ I h=>Ma I hg hm ⟨v,H,I,r,h⟩ hd
theorem OL {x:Str} {v:V} {u:Value} {pos:Pos} (hg:Gl X x) (hm:X.mg x=none) (hv:bootBuiltins x=some u) (r:RelV v u) (hn:x≠"__name__":=by decide) (hd:(x == ("__debug__":Str))=false:=by decide):PE X (.Name x pos) (tC v):=
 fun _ _ _ H _ I h=>Ee I hg hm hv ⟨v,H,I,r,h⟩ hn hd
variable {a b:Expr} {ta tb:TE} {pos:Pos}
variable {tA tB':TT} {rest:List Expr}
def XY (t u:TT):TT:=fun σ H Q=>t σ H fun c H1=>if c=true then u σ H1 Q else Q false H1
def tOr (t u:TT):TT:=fun σ H Q=>t σ H fun c H1=>if c=true then Q true H1 else u σ H1 Q
def TB (t:TT):TT:=fun σ H Q=>t σ H fun c H1=>Q (!c) H1
theorem QT (ha:PT X a tA):PW X (.BoolOp .And [a] pos) tA:=by
 intro wh pins s σ H Q I h
 refine isTrue_and (thn (ha pins s σ H Q I h) fun c s1 e=>?_)
 cases c with
 | true=>exact isTrue_and_nil e
 | false=>exact e
theorem PP (ha:PT X a tA):PW X (.BoolOp .Or [a] pos) tA:=by
 intro wh pins s σ H Q I h
 refine isTrue_or (thn (ha pins s σ H Q I h) fun c s1 e=>?_)
 cases c with
 | false=>exact isTrue_or_nil e
 | true=>exact e
theorem V4 (ha:PT X a tA) (hb:PW X (.BoolOp .And (b::rest) pos) tB'):PW X (.BoolOp .And (a::b::rest) pos) (XY tA tB'):=by
 intro wh pins s σ H Q I h
 refine isTrue_and (thn (ha pins s σ H _ I h) fun c s1 hh_=>?_)
 obtain ⟨H1,I1,q1⟩:=hh_
 cases c with
 | true=>exact hb wh pins s1 σ H1 Q I1 q1
 | false=>exact ⟨H1,I1,q1⟩
theorem Mv (ha:PT X a tA) (hb:PW X (.BoolOp .Or (b::rest) pos) tB'):PW X (.BoolOp .Or (a::b::rest) pos) (tOr tA tB'):=by
 intro wh pins s σ H Q I h
 refine isTrue_or (thn (ha pins s σ H _ I h) fun c s1 hh_=>?_)
 obtain ⟨H1,I1,q1⟩:=hh_
 cases c with
 | true=>exact ⟨H1,I1,q1⟩
 | false=>exact hb wh pins s1 σ H1 Q I1 q1
theorem Us (ha:PT X a tA):PT X (.UnaryOp .Not a pos) (TB tA):=by
 intro pins s σ H Q I h
 exact isTrue_not (ha pins s σ H (fun c H1=>Q (!c) H1) I h)
def QN (ta tb:TE):TE:=fun σ H Q=>ta σ H fun x H1=>∃ c,x=.bl c/\if c=true then tb σ H1 Q else Q (.bl false) H1
def Sq (ta:TE):TE:=fun σ H Q=>ta σ H fun x H1=>∃ c,x=.bl c/\Q (.bl (!c)) H1
theorem Wc {op} {t:TE} (h:PE X a t):PE X (.BoolOp op [a] pos) t:=fun pins s σ H Q I hw=>BoolOp_one (h pins s σ H Q I hw)
theorem P6 (ha:PE X a ta) (hb:PE X (.BoolOp .And (b::rest) pos) tb):PE X (.BoolOp .And (a::b::rest) pos) (QN ta tb):=by
 intro pins s σ H Q I h
 refine BoolOp_and (thn (ha pins s σ H _ I h) fun v s1 hh_=>?_)
 obtain ⟨x,H1,I1,r1,q1⟩:=hh_
 obtain ⟨c,rfl,q1⟩:=q1
 cases r1
 refine wpAny_truthy_bool ?_
 cases c with
 | true=>exact hb pins s1 σ H1 Q I1 q1
 | false=>exact ⟨.bl false,H1,I1,rfl,q1⟩
theorem U2 (ha:PE X a ta):PE X (.UnaryOp .Not a pos) (Sq ta):=by
 intro pins s σ H Q I h
 refine UnaryOp_ (thn (ha pins s σ H _ I h) fun v s1 hh_=>?_)
 obtain ⟨x,H1,I1,r1,q1⟩:=hh_
 obtain ⟨c,rfl,q1⟩:=q1
 cases r1
 exact not_of (wpAny_truthy_bool ⟨.bl (!c),H1,I1,rfl,q1⟩)
end
def SqL (K:PySem.W.Frag) (H:Hp) (a:Addr) (xs:List V):Prop:=
 Rd H a (.lst xs) \/
  ∃ (o:Obj) (its:Array Value) (n:Nat),K.lookup a=some o/\o.cls=.type "list"/\o.dict=none/\o.data=.seq its n/\its.size<=sizeLine/\Vals xs its.toList
def SqT (K:PySem.W.Frag) (H:Hp) (a:Addr) (xs:List V):Prop:=
 Rd H a (.tup xs) \/
  ∃ (o:Obj) (its:Array Value) (n:Nat),K.lookup a=some o/\o.cls=.type "tuple"/\o.data=.seq its n/\its.size<=sizeLine/\Vals xs its.toList
def Xv:Value->Option V
 | .none=>some .non
 | .bool b=>some (.bl b)
 | .int i _=>some (.int i)
 | .str x _=>some (.str x)
 | .bytes b _=>some (.byt b)
 | .float b _=>some (.flt b)
 | .ref a=>some (.ref a)
 | .type n=>some (.ty n)
 | _=>none
theorem RelV.abs {x:V} {u:Value} (r:RelV x u):Xv u=some x:=by
 cases x with
 | non=>cases r;rfl
 | bl _=>cases r;rfl
 | int _=>obtain ⟨t,rfl⟩:=r;rfl
 | str _=>obtain ⟨t,rfl⟩:=r;rfl
 | byt _=>obtain ⟨t,rfl⟩:=r;rfl
 | flt _=>obtain ⟨t,rfl⟩:=r;rfl
 | ref _=>cases r;rfl
 | ty _=>cases r;rfl
theorem RelV.inj {x y:V} {u:Value} (r:RelV x u) (q:RelV y u):x=y:=Option.some.inj (r.abs.symm.trans q.abs)
theorem Vals.inj:∀ {xs ys:List V} {us:List Value},Vals xs us->Vals ys us->xs=ys
 | _,_,_,.nil,.nil=>rfl
 | _,_,_,.cons r t,.cons r' t'=>by rw[r.inj r',Vals.inj t t']
section
variable {X:Cx} {pins:List (Addr×Obj)} {σ:St} {H:Hp} {s:Shared} {a:Addr} {xs ys:List V}
theorem SqL.of {K:PySem.W.Frag} (h:H a=some (.lst xs)):SqL K H a xs:=.inl (.inl h)
theorem SqT.of {K:PySem.W.Frag} (h:H a=some (.tup xs)):SqT K H a xs:=.inl (.inl h)
theorem Inv.list (I:Inv X pins σ H s) (h:SqL X.K H a xs):∃ its:List Value,Vals xs its/\PlainL s.heap a its.toArray/\xs.length<=sizeLine:=by
 rcases h with h | ⟨o,its,n,hk,hc,hd,hs,hz,r⟩
 ·obtain ⟨z,its,n,r,e⟩:=h.ok I.hok
  exact ⟨its,r,⟨_,n,e,rfl,rfl,rfl⟩,z⟩
 ·refine ⟨its.toList,r,⟨o,n,I.kIn a o hk,hc,hd,by simpa using hs⟩,?_⟩
  have e:=r.length
  simp only[Array.length_toList] at e
  lia
theorem Inv.tuple (I:Inv X pins σ H s) (h:SqT X.K H a xs):∃ its:List Value,Vals xs its/\IsTup s.heap a its.toArray/\xs.length<=sizeLine:=by
 rcases h with h | ⟨o,its,n,hk,hc,hs,hz,r⟩
 ·obtain ⟨z,its,r,p⟩:=h.ok I.hok
  exact ⟨its,r,p,z⟩
 ·refine ⟨its.toList,r,⟨o,I.kIn a o hk,hc,n,by simpa using hs⟩,?_⟩
  have e:=r.length
  simp only[Array.length_toList] at e
  lia
theorem Inv.list_inj (I:Inv X pins σ H s) (h:SqL X.K H a xs) (h':SqL X.K H a ys):xs=ys:=by
 obtain ⟨its,r,⟨o,n,e,_,_,d⟩,_⟩:=I.list h
 obtain ⟨its',r',⟨o',n',e',_,_,d'⟩,_⟩:=I.list h'
 rw[e] at e';cases e'
 rw[d] at d'
 injection d' with d1 _
 have:its=its':=by simpa using congrArg Array.toList d1
 subst this
 exact r.inj r'
theorem Inv.tuple_inj (I:Inv X pins σ H s) (h:SqT X.K H a xs) (h':SqT X.K H a ys):xs=ys:=by
 obtain ⟨its,r,⟨o,e,_,n,d⟩,_⟩:=I.tuple h
 obtain ⟨its',r',⟨o',e',_,n',d'⟩,_⟩:=I.tuple h'
 rw[e] at e';cases e'
 rw[d] at d'
 injection d' with d1 _
 have:its=its':=by simpa using congrArg Array.toList d1
 subst this
 exact r.inj r'
end
abbrev Cx.wish (X:Cx) (E:Value->Shared->Prop):Cx:={X with xe:=E}
abbrev Cx.nox (X:Cx):Cx:=X.wish fun _ _=>False
theorem Cx.Ok.wish {X:Cx} (ok:X.Ok) (E:Value->Shared->Prop):(X.wish E).Ok:=
 ⟨ok.mod,ok.kind,ok.glob,ok.blt,ok.above,ok.inj,ok.has,ok.cab,ok.hd,ok.frames,ok.stk,ok.exf,ok.bs,ok.bsz,ok.noex,ok.exfs,ok.funs,ok.frf⟩
theorem Cx.Ok.unwish {X:Cx} {E:Value->Shared->Prop} (ok:(X.wish E).Ok):X.Ok:=
 ⟨ok.mod,ok.kind,ok.glob,ok.blt,ok.above,ok.inj,ok.has,ok.cab,ok.hd,ok.frames,ok.stk,ok.exf,ok.bs,ok.bsz,ok.noex,ok.exfs,ok.funs,ok.frf⟩
section
variable {X:Cx} {pins:List (Addr×Obj)} {σ:St} {H:Hp} {s:Shared} {E:Value->Shared->Prop}
theorem Inv.wish (I:Inv X pins σ H s) (E:Value->Shared->Prop):Inv (X.wish E) pins σ H s:=⟨I.ok.wish E,I.os,I.bare,I.base,I.loc,I.cell,I.free,I.freeC,I.pin,I.hok,I.len⟩
theorem Inv.unwish (I:Inv (X.wish E) pins σ H s):Inv X pins σ H s:=⟨I.ok.unwish,I.os,I.bare,I.base,I.loc,I.cell,I.free,I.freeC,I.pin,I.hok,I.len⟩
theorem SP.unwish {D:Ends} {f:Flow} {s':Shared} (h:SP (X.wish E) pins D f s'):SP X pins D f s':=by
 cases f with
 | next=>obtain ⟨σ',H',I,q⟩:=h;exact ⟨σ',H',I.unwish,q⟩
 | brk=>obtain ⟨σ',H',I,q⟩:=h;exact ⟨σ',H',I.unwish,q⟩
 | cont=>obtain ⟨σ',H',I,q⟩:=h;exact ⟨σ',H',I.unwish,q⟩
 | ret u=>obtain ⟨v,σ',H',I,r,q⟩:=h;exact ⟨v,σ',H',I.unwish,r,q⟩
theorem PSs.nox {st:List Stmt} {t:TS} (h:PSs X.nox st t):PSs X st t:=fun pins s σ H D I hw=>
 wpAny_mono (h pins s σ H D (I.wish _) hw) (fun _ _ q=>q.unwish) fun _ _ z=>False.elim z
end
section
variable {X:Cx} {st:Stmt} {rest:List Stmt} {t u:TS} {e:Expr} {te:TE} {pos:Pos}
def Rq:TS:=fun D σ H=>D.nx σ H
def Dy (t u:TS):TS:=fun D σ H=>t {D with nx:=u D} σ H
theorem MZ:PSs X [] Rq:=fun _ _ σ H _ I h=>wpAny_execs_nil ⟨σ,H,I,h⟩
theorem EJ (h1:PS X st t) (h2:PSs X rest u):PSs X (st::rest) (Dy t u):=by
 intro pins s σ H D I h
 refine wpAny_execs_cons (thn (h1 pins s σ H {D with nx:=u D} I h) fun f s1 q=>?_)
 cases f with
 | next=>
  obtain ⟨σ',H',I',q⟩:=q
  exact h2 pins s1 σ' H' D I' q
 | ret v=>exact q
 | brk=>exact q
 | cont=>exact q
theorem FA (h1:PS X st t):PSs X [st] t:=by
 intro pins s σ H D I h
 refine wpAny_execs_cons (thn (h1 pins s σ H D I h) fun f s1 q=>?_)
 cases f with
 | next=>exact wpAny_execs_nil q
 | ret v=>exact q
 | brk=>exact q
 | cont=>exact q
theorem Inv.quiet {pins:List (Addr×Obj)} {σ:St} {H:Hp} {s:Shared} (I:Inv X pins σ H s):interactive X.env=false:=by simp[interactive,I.ok.kind]
def To (te:TE):TS:=fun D σ H=>te σ H fun _ H1=>D.nx σ H1
theorem ZJ (he:PE X e te) (hs:swapsWith e none pos.line X.env=pure false:=by rfl):PS X (.Expr e pos) (To te):=by
 intro pins s σ H D I h
 exact wpAny_Expr_any (thn (he pins s σ H _ I h) fun v s1 ⟨x,H1,I1,r1,q1⟩=>⟨σ,H1,I1,q1⟩) I.quiet hs
def Qd (te:TE):TS:=fun D σ H=>te σ H D.rt
theorem GX (he:PE X e te):PS X (.Return (some e) pos) (Qd te):=by
 intro pins s σ H D I h
 exact wpAny_Return_some (thn (he pins s σ H _ I h) fun v s1 ⟨x,H1,I1,r1,q1⟩=>⟨x,σ,H1,I1,r1,q1⟩)
def Qf (c:TT) (t u:TS):TS:=fun D σ H=>c σ H fun b H1=>if b=true then t D σ H1 else u D σ H1
theorem NX {c:Expr} {a b:List Stmt} {tc:TT} (hc:PT X c tc) (ha:PSs X a t) (hb:PSs X b u):PS X (.If c a b pos) (Qf tc t u):=by
 intro pins s σ H D I h
 refine wpAny_If (thn (hc pins s σ H _ I h) fun d s1 hh_=>?_)
 obtain ⟨H1,I1,q1⟩:=hh_
 cases d with
 | true=>exact ha pins s1 σ H1 D I1 q1
 | false=>exact hb pins s1 σ H1 D I1 q1
def Up:TS:=fun _ _ _=>False
theorem QO:PS X st Up:=fun _ _ _ _ _ _ h=>h.elim
end
abbrev TG:=V->St->Hp->(St->Hp->Prop)->Prop
abbrev TGs:=List V->St->Hp->(St->Hp->Prop)->Prop
def PG (X:Cx) (target:Expr) (t:TG):Prop:=
 ∀ (pins:List (Addr×Obj)) (s:Shared) (σ:St) (H:Hp) (v:V) (u:Value) (Q:St->Hp->Prop),Inv X pins σ H s->RelV v u->t v σ H Q ->
  wpAny (model X.prog X.w) X.A (assign target X.env u) (fun _ s'=>∃ σ' H',Inv X pins σ' H' s'/\Q σ' H') X.xe s
def PGs (X:Cx) (ts:List Expr) (t:TGs):Prop:=
 ∀ (pins:List (Addr×Obj)) (s:Shared) (σ:St) (H:Hp) (vs:List V) (us:List Value) (Q:St->Hp->Prop),Inv X pins σ H s->Vals vs us->t vs σ H Q ->
  wpAny (model X.prog X.w) X.A (assignInOrder ((assignEach ts X.env).map (·.2)) us) (fun _ s'=>∃ σ' H',Inv X pins σ' H' s'/\Q σ' H') X.xe s
abbrev JN:=V->V->V->Hp->(Hp->Prop)->Prop
def Mf (X:Cx) (t:JN):Prop:=
 ∀ (pins:List (Addr×Obj)) (s:Shared) (σ:St) (H:Hp) (o i v:V) (ov iv u:Value) (Q:Hp->Prop),Inv X pins σ H s->RelV o ov->RelV i iv->RelV v u->t o i v H Q ->
  wpAny (model X.prog X.w) X.A (setItem ov iv u) (fun _ s'=>∃ H',Inv X pins σ H' s'/\Q H') X.xe s
abbrev TIp:=V->V->Hp->VK->Prop
def PIp (X:Cx) (op:Operator) (t:TIp):Prop:=
 ∀ (pins:List (Addr×Obj)) (s:Shared) (σ:St) (H:Hp) (x y:V) (v u:Value) (Q:VK),Inv X pins σ H s->RelV x v->RelV y u->t x y H Q ->
  wpAny (model X.prog X.w) X.A (inplaceOp op v u) (EP X pins σ Q) X.xe s
section
variable {X:Cx} {pos:Pos}
def DJ (i:Nat):TG:=fun v σ H Q=>Q (σ.set i (some v)) H
theorem An {i:Nat} {x:Str} (hN:X.N.Nodup) (hi:X.N[i]?=some x) (hx:Loc X.env.scope x) (hf:X.fn x=true\/X.env.scope.names.lookup x=some .local:=by first | exact .inl rfl | exact .inr rfl | assumption):PG X (.Name x pos) (DJ i):=by
 intro pins s σ H v u Q I r h
 exact wpAny_assign_Name (Lq I hN hi hx r (fun s' I'=>⟨_,H,I',h⟩) hf)
def Ox:TGs:=fun vs σ H Q=>vs=[]/\Q σ H
def M3 (t:TG) (u:TGs):TGs:=fun vs σ H Q=>∃ v r,vs=v::r/\t v σ H fun σ' H'=>u r σ' H' Q
theorem Dh:PGs X [] Ox:=by
 intro pins s σ H vs us Q I r h
 obtain ⟨e,h⟩:=h
 subst e
 cases r
 exact assignInOrder_nil ⟨σ,H,I,h⟩
theorem Bk {e:Expr} {es:List Expr} {t:TG} {u:TGs} (h1:PG X e t) (h2:PGs X es u)
  (hs:(assignEach (e::es) X.env).map (·.2)=assign e X.env::(assignEach es X.env).map (·.2):=by rfl):PGs X (e::es) (M3 t u):=by
 intro pins s σ H vs us Q I r h
 obtain ⟨v,vr,e1,h⟩:=h
 subst e1
 cases r with
 | cons r rr=>
  rw[hs]
  refine assignInOrder_cons (thn (h1 pins s σ H _ _ _ I r h) fun _ s1 hh_=>?_)
  obtain ⟨σ1,H1,I1,q1⟩:=hh_
  exact h2 pins s1 σ1 H1 _ _ Q I1 rr q1
def Cf (K:PySem.W.Frag) (n:Nat) (t:TGs):TG:=fun v σ H Q=>∃ a xs,v=.ref a/\SqT K H a xs/\xs.length=n/\t xs σ H Q
theorem VO {es:List Expr} {k:Nat} {t:TGs} {n:Nat} (hc:X.calm=true) (h:PGs X es t)
  (hn:(assignEach es X.env).length=n:=by rfl) (hst:(assignEach es X.env).findIdx? (·.1)=none:=by rfl):PG X (.Tuple es k pos) (Cf X.K n t):=by
 intro pins s σ H v u Q I r hw
 obtain ⟨a,xs,e1,hq,hl,hw⟩:=hw
 subst e1
 cases r
 obtain ⟨its,rv,ht,hz⟩:=I.tuple hq
 refine assign_Tuple_tuple (I.ok.hd hc) ht (by simp[hn,<-hl,rv.length]) hst fun h' hx=>?_
 have I1:Inv X pins σ H {s with heap:=h'}:=I.kept (t':=s.toks) fun b o e=>hx b o (Nat.ne_of_lt (Heap.lt_size e)) e
 exact h pins _ σ H xs _ Q I1 (by simpa using rv) hw
def JQ (te:TE) (g:TG):TS:=fun D σ H=>te σ H fun x H1=>g x σ H1 D.nx
theorem Ai {i:Nat} {x:Str} {e:Expr} {te:TE} {pos':Pos} (hN:X.N.Nodup) (hi:X.N[i]?=some x) (hx:Loc X.env.scope x) (he:PE X e te) (hs:swapsWith e (some (.Name x pos')) pos.line X.env=pure false:=by rfl) (hf:X.fn x=true\/X.env.scope.names.lookup x=some .local:=by first | exact .inl rfl | exact .inr rfl | assumption) :
  PS X (.Assign [.Name x pos'] e pos) (JQ te (DJ i)):=by
 intro pins s σ H D I h
 refine wpAny_Assign_Name (thn (he pins s σ H _ I h) fun v s1 hh_=>?_) hs
 obtain ⟨y,H1,I1,r1,q1⟩:=hh_
 exact Lq I1 hN hi hx r1 (fun s2 I2=>⟨_,H1,I2,q1⟩) hf
def XE (to ti te:TE) (tget:V->V->Hp->VK->Prop) (tip:TIp) (tset:JN):TS:=fun D σ H=>to σ H fun o H1=>ti σ H1 fun i H2=>tget o i H2 fun x H3=>te σ H3 fun y H4=>tip x y H4 fun z H5=>tset o i z H5 fun H6=>D.nx σ H6
def Ov (X:Cx) (t:V->V->Hp->VK->Prop):Prop:=
 ∀ (pins:List (Addr×Obj)) (s:Shared) (σ:St) (H:Hp) (o i:V) (ov iv:Value) (Q:VK),Inv X pins σ H s->RelV o ov->RelV i iv->t o i H Q ->
  wpAny (model X.prog X.w) X.A (getItem ov iv) (EP X pins σ Q) X.xe s
theorem Vg {o i e:Expr} {to ti te:TE} {tget:V->V->Hp->VK->Prop} {tip:TIp} {tset:JN} {op:Operator} {tpos:Pos} (ho:PE X o to) (hi:PE X i ti) (hg:Ov X tget) (he:PE X e te) (hp:PIp X op tip) (hs:Mf X tset)
  (ha:∀ ov iv new,augStore i ov iv new=(do holding [new,ov,iv] (setItem ov iv new);release [new,ov,iv] [];pure .next):=by intros;rfl):PS X (.AugAssign (.Subscript o i tpos) op e pos) (XE to ti te tget tip tset):=by
 intro pins s σ H D I h
 refine wpAny_AugAssign_SubscriptAny (thn (ho pins s σ H _ I h) fun ov s1 hh_=>?_) ha
 obtain ⟨x1,H1,I1,r1,q1⟩:=hh_
 refine thn (hi pins s1 σ H1 _ I1 q1) fun iv s2 hh_=>?_
 obtain ⟨x2,H2,I2,r2,q2⟩:=hh_
 refine thn (hg pins s2 σ H2 x1 x2 ov iv _ I2 r1 r2 q2) fun old s3 hh_=>?_
 obtain ⟨x3,H3,I3,r3,q3⟩:=hh_
 refine thn (he pins s3 σ H3 _ I3 q3) fun v s4 hh_=>?_
 obtain ⟨x4,H4,I4,r4,q4⟩:=hh_
 refine thn (hp pins s4 σ H4 x3 x4 old v _ I4 r3 r4 q4) fun new s5 hh_=>?_
 obtain ⟨x5,H5,I5,r5,q5⟩:=hh_
 exact thn (hs pins s5 σ H5 x1 x2 x5 ov iv new _ I5 r1 r2 r5 q5) fun _ s6 ⟨H6,I6,q6⟩=>⟨σ,H6,I6,q6⟩
def ipI (f:Int->Int->Int):TIp:=fun x y H Q=>∃ i j,x=.int i/\y=.int j/\Q (.int (f i j)) H
theorem WK:PIp X .Add (ipI fun i j=>i+j):=by
 intro pins s σ H x y v u Q I r1 r2 h
 obtain ⟨i,j,e1,e2,q⟩:=h
 subst e1;subst e2
 obtain ⟨t,rfl⟩:=r1
 obtain ⟨t',rfl⟩:=r2
 exact iadd_int ⟨.int _,H,I.tok _,⟨_,rfl⟩,q⟩
end
section
variable {X:Cx} {pos:Pos}
end
structure It where
 go:Nat->Hp->Prop
 yld:Nat->Hp->V->Hp->Prop
 stop:Nat->Hp->Prop
def Ce (X:Cx) (pins:List (Addr×Obj)) (H:Hp) (b:Addr):Prop:=
 H b=none/\b≠X.env.locals/\b∉X.fs/\(b∈X.ex\/X.s₀.heap.objs.size<=b)/\(∀ x c,X.env.cells.lookup x=some c->c≠b)/\∀ p∈X.pn++pins,p.1≠b
theorem Inv.fpOk {X:Cx} {pins:List (Addr×Obj)} {σ:St} {H H':Hp} {s:Shared} {b:Addr} (I:Inv X pins σ H s) (hb:s.heap.objs.size<=b) (hn:H' b=none):Ce X pins H' b:=by
 refine ⟨hn,Nat.ne_of_gt (Nat.lt_of_lt_of_le I.lt hb),I.nofs hb,.inr (Nat.le_trans I.sz hb),fun x c e z=>?_,fun p hp z=>?_⟩
 ·obtain ⟨v,q⟩:=I.cell x c e
  exact absurd (Nat.lt_of_lt_of_le q.lt (by rw[z];exact hb)) (Nat.lt_irrefl _)
 ·exact absurd (Nat.lt_of_lt_of_le (Heap.lt_size (I.pin p hp).1) (by rw[z];exact hb)) (Nat.lt_irrefl _)
structure Turn (P:Program) (w:World) (K:PySem.W.Frag) (tg:Expr) (J:It) (fp:List Addr) (it:Addr) (tn:Nat->Heap->Prop):Prop where
 mem:it∈fp
 obj:∀ i h,tn i h->∀ b∈fp,∃ o,h.get? b=some o/\∀ v,o.data≠.cell v
 keep:∀ i h h',tn i h->(∀ b∈fp,∀ o,h.get? b=some o->h'.get? b=some o)->tn i h'
 item:∀ (X:Cx),X.prog=P->X.w=w->X.K=K->X.calm=true->∀ (i:Nat) (pins:List (Addr×Obj)) (s:Shared) (σ:St) (H:Hp) (E:Value->Shared->Prop),Inv X pins σ H s->(∀ b∈fp,Ce X pins H b)->tn i s.heap->J.go i H ->
  wpAny (model P w) X.A (pyNext (.ref it)) (fun r s1=>∃ u,r=some u /\
   wpAny (model P w) X.A (letOwnedTupleGo tg (.ref it) u) (fun _ s2=>∃ x H',Inv X pins σ H' s2/\RelV x u/\J.yld i H x H'/\tn (i+1) s2.heap/\∀ b∈fp,H' b=none) E s1) E s
 done:∀ (X:Cx),X.prog=P->X.w=w->X.K=K->X.calm=true->∀ (i:Nat) (pins:List (Addr×Obj)) (s:Shared) (σ:St) (H:Hp) (E:Value->Shared->Prop),Inv X pins σ H s->(∀ b∈fp,Ce X pins H b)->tn i s.heap->J.stop i H ->
  wpAny (model P w) X.A (pyNext (.ref it)) (fun r s1=>r=none/\Inv X pins σ H s1) E s
 self:∀ (A:Around) (i:Nat) (s:Shared) (Q:Value->Shared->Prop) (E:Value->Shared->Prop),tn i s.heap->Q (.ref it) s->wpAny (model P w) A (pyIter (.ref it)) Q E s
abbrev TI:=St->Hp->(It->Hp->Prop)->Prop
def PIE (X:Cx) (pins:List (Addr×Obj)) (σ:St) (tg:Expr) (R:It->Hp->Prop) (itv:Value) (s2:Shared):Prop:=
 ∃ (it:Addr) (fp:List Addr) (tn:Nat->Heap->Prop) (J:It) (H':Hp),itv=.ref it/\Inv X pins σ H' s2/\Turn X.prog X.w X.K tg J fp it tn/\tn 0 s2.heap/\(∀ b∈fp,Ce X pins H' b)/\R J H'
def PI (X:Cx) (tg iter:Expr) (wi:TI):Prop:=
 ∀ (pins:List (Addr×Obj)) (s:Shared) (σ:St) (H:Hp) (R:It->Hp->Prop),Inv X pins σ H s->wi σ H R ->
  wpAny (model X.prog X.w) X.A (eval iter X.env) (fun v s1=>wpAny (model X.prog X.w) X.A (pyIter v) (PIE X pins σ tg R) X.xe s1) X.xe s
theorem Gw {M:Model} {A:Around} {E:Value->Shared->Prop} {s:Shared} {tg:Expr} {it:Addr} {u:Value} {o:Obj} {n:String} {vs:Array Value} {Q:Unit->Shared->Prop} (ho:s.heap.get? it=some o) (hc:o.cls=.type n) (hd:o.data=.fields vs)
  (hn:["enumerate","zip","dict_itemiterator","dict_reverseitemiterator","odict_iterator","itertools.zip_longest","itertools.pairwise"].contains n=false) (hQ:Q () s):wpAny M A (letOwnedTupleGo tg (.ref it) u) Q E s:=by
 unfold letOwnedTupleGo
 cases tg<;>first
  | exact wpAny_pure hQ
  | (cases u<;>first
    | exact wpAny_pure hQ
    | (refine wpAny_bind (wpAny_load ho ?_)
       rw[hc,hd]
       show wpAny M A (if (["enumerate","zip","dict_itemiterator","dict_reverseitemiterator","odict_iterator","itertools.zip_longest","itertools.pairwise"].contains n && vs[0]? == some (rawInt _))=true then _ else _) Q E s
       rw[if_neg (by intro h;rw[hn,Bool.false_and] at h;cases h)]
       exact wpAny_pure hQ))
def Itl (K:PySem.W.Frag) (a:Addr):It:=
 ⟨fun i H=>∃ xs x,SqL K H a xs/\xs[i]?=some x,fun i H x H'=>H'=H/\∀ xs,SqL K H a xs->xs[i]?=some x,fun i H=>∃ xs,SqL K H a xs/\xs.length<=i⟩
def Itt (K:PySem.W.Frag) (a:Addr):It:=
 ⟨fun i H=>∃ xs x,SqT K H a xs/\xs[i]?=some x,fun i H x H'=>H'=H/\∀ xs,SqT K H a xs->xs[i]?=some x,fun i H=>∃ xs,SqT K H a xs/\xs.length<=i⟩
def Itr (lo:Int) (n:Nat):It:=⟨fun i _=>i<n,fun i H x H'=>H'=H/\x=.int (lo+i),fun i _=>n<=i⟩
theorem YM {P:Program} {w:World} {K:PySem.W.Frag} {tg:Expr} (a it:Addr):Turn P w K tg (Itl K a) [it] it (fun i h=>h.IsListIter it a i) where
 mem:=by simp
 obj:=fun i h st b hb=>by
  have e:b=it:=by simpa using hb
  subst e
  obtain ⟨o,e,c,d⟩:=st
  exact ⟨o,e,fun v z=>by rw[d] at z;cases z⟩
 keep:=fun i h h' st k=>st.at fun o e=>k it (by simp) o e
 item:=by
  intro X hP hw hK hc i pins s σ H E I hf st hg
  subst hP hw hK
  obtain ⟨xs,x,hq,hx⟩:=hg
  obtain ⟨its,rv,p,hz⟩:=I.list hq
  obtain ⟨u,hu,ru⟩:=rv.get hx
  obtain ⟨f0,f1,f2,f3,f4,f5⟩:=hf it (by simp)
  refine wpAny_pyNext_list_item st p.isList (x:=u) (by simpa using hu) fun h' st' sb=>?_
  have I1:Inv X pins σ H {s with heap:=h'}:=I.turned (t':=s.toks) (fun b o hb e=>(sb.2 b hb).trans e) f0 f1 f3 f4 f5
  obtain ⟨o,e,c,d⟩:=id st'
  exact ⟨u,rfl,Gw (s:={s with heap:=h'}) e c d (by decide) ⟨x,H,I1,ru,⟨rfl,fun ys hy=>by rw[I.list_inj hy hq];exact hx⟩,st',fun b hb=>(hf b hb).1⟩⟩
 done:=by
  intro X hP hw hK hc i pins s σ H E I hf st hg
  subst hP hw hK
  obtain ⟨xs,hq,hx⟩:=hg
  obtain ⟨its,rv,p,hz⟩:=I.list hq
  obtain ⟨f0,f1,f2,f3,f4,f5⟩:=hf it (by simp)
  have hl:=rv.length
  exact wpAny_pyNext_list_end (I.ok.hd hc) st p.isList (by simp;lia) fun h' eb=>⟨rfl,I.turned (t':=s.toks) (fun b o hb e=>eb b o hb e) f0 f1 f3 f4 f5⟩
 self:=fun _ _ _ _ _ st h=>wpAny_pyIter_listiter st h
theorem Si {P:Program} {w:World} {K:PySem.W.Frag} {tg:Expr} (a it:Addr):Turn P w K tg (Itt K a) [it] it (fun i h=>h.IsTupleIter it a i) where
 mem:=by simp
 obj:=fun i h st b hb=>by
  have e:b=it:=by simpa using hb
  subst e
  obtain ⟨o,e,c,d⟩:=st
  exact ⟨o,e,fun v z=>by rw[d] at z;cases z⟩
 keep:=fun i h h' st k=>st.at fun o e=>k it (by simp) o e
 item:=by
  intro X hP hw hK hc i pins s σ H E I hf st hg
  subst hP hw hK
  obtain ⟨xs,x,hq,hx⟩:=hg
  obtain ⟨its,rv,p,hz⟩:=I.tuple hq
  obtain ⟨u,hu,ru⟩:=rv.get hx
  obtain ⟨f0,f1,f2,f3,f4,f5⟩:=hf it (by simp)
  refine wpAny_pyNext_tuple_item st (show s.heap.IsTuple a its.toArray from p) (x:=u) (by simpa using hu) fun h' st' sb=>?_
  have I1:Inv X pins σ H {s with heap:=h'}:=I.turned (t':=s.toks) (fun b o hb e=>(sb.2 b hb).trans e) f0 f1 f3 f4 f5
  obtain ⟨o,e,c,d⟩:=id st'
  exact ⟨u,rfl,Gw (s:={s with heap:=h'}) e c d (by decide) ⟨x,H,I1,ru,⟨rfl,fun ys hy=>by rw[I.tuple_inj hy hq];exact hx⟩,st',fun b hb=>(hf b hb).1⟩⟩
 done:=by
  intro X hP hw hK hc i pins s σ H E I hf st hg
  subst hP hw hK
  obtain ⟨xs,hq,hx⟩:=hg
  obtain ⟨its,rv,p,hz⟩:=I.tuple hq
  obtain ⟨f0,f1,f2,f3,f4,f5⟩:=hf it (by simp)
  have hl:=rv.length
  exact wpAny_pyNext_tuple_end (I.ok.hd hc) st (show s.heap.IsTuple a its.toArray from p) (by simp;lia) fun h' eb=>⟨rfl,I.turned (t':=s.toks) (fun b o hb e=>eb b o hb e) f0 f1 f3 f4 f5⟩
 self:=fun _ _ _ _ _ st h=>wpAny_pyIter_tupleiter st h
theorem T5 {P:Program} {w:World} {K:PySem.W.Frag} {tg:Expr} (it:Addr) (lo:Int) (n:Nat):Turn P w K tg (Itr lo n) [it] it (fun i h=>IsRangeIter h it (lo+(i:Nat) * 1) ((n:Int) - (i:Nat)) 1) where
 mem:=by simp
 obj:=fun i h st b hb=>by
  have e:b=it:=by simpa using hb
  subst e
  exact ⟨_,st,fun v z=>by
   have z':Data.fields _=Data.cell v:=z
   cases z'⟩
 keep:=fun i h h' st k=>k it (by simp) _ st
 item:=by
  intro X hP hw hK hc i pins s σ H E I hf st hg
  subst hP hw hK
  obtain ⟨f0,f1,f2,f3,f4,f5⟩:=hf it (by simp)
  have W:=Walks.range (prog:=X.prog) (w:=X.w) (I.ok.hd hc) it lo 1 n
  refine W.item i s _ _ hg st fun v h' tk hv st' kk=>?_
  obtain ⟨t,rfl⟩:=hv
  have I1:Inv X pins σ H {s with heap:=h',toks:=tk}:=I.turned (fun b o hb e=>kk b o (by simpa using hb) e) f0 f1 f3 f4 f5
  refine ⟨_,rfl,Gw (s:={s with heap:=h',toks:=tk}) (n:="range_iterator") st' rfl rfl (by decide) ⟨.int (lo+i),H,I1,⟨t,?_⟩,⟨rfl,rfl⟩,st',fun b hb=>(hf b hb).1⟩⟩
  rw[Int.mul_one]
 done:=by
  intro X hP hw hK hc i pins s σ H E I hf st hg
  subst hP hw hK
  obtain ⟨f0,f1,f2,f3,f4,f5⟩:=hf it (by simp)
  exact wpAny_pyNext_range_end (I.ok.hd hc) st (by have:n<=i:=hg;lia) fun h' eb=>⟨rfl,I.turned (t':=s.toks) (fun b o hb e=>eb b o hb e) f0 f1 f3 f4 f5⟩
 self:=fun _ _ _ _ _ st h=>wpAny_pyIter_rangeiter st h
section
variable {X:Cx} {tg:Expr}
def Ot (K:PySem.W.Frag) (tl:TE):TI:=fun σ H R=>tl σ H fun x H1=>∃ a,x=.ref a/\(∃ xs,SqL K H1 a xs)/\R (Itl K a) H1
def QU (K:PySem.W.Frag) (tl:TE):TI:=fun σ H R=>tl σ H fun x H1=>∃ a,x=.ref a/\(∃ xs,SqT K H1 a xs)/\R (Itt K a) H1
theorem Oa {l:Expr} {tl:TE} (hl:PE X l tl):PI X tg l (Ot X.K tl):=by
 intro pins s σ H R I h
 refine thn (hl pins s σ H _ I h) fun v s1 hh_=>?_
 obtain ⟨x,H1,I1,r1,q1⟩:=hh_
 obtain ⟨a,e,⟨xs,hq⟩,q⟩:=q1
 subst e
 cases r1
 obtain ⟨its,rv,p,hz⟩:=I1.list hq
 refine wpAny_pyIter_list p.isList ?_
 refine ⟨s1.heap.objs.size,[s1.heap.objs.size],_,_,H1,rfl,I1.kept (t':=s1.toks) fun b o e=>Heap.get?_push_of_some _ e,YM a _,⟨_,Heap.get?_push_size _ rfl,rfl,rfl⟩,fun b hb=>?_,q⟩
 have e:b=s1.heap.objs.size:=by simpa using hb
 subst e
 exact I1.fpOk (Nat.le_refl _) (I1.hok.fresh (Nat.le_refl _))
theorem Uj {l:Expr} {tl:TE} (hl:PE X l tl):PI X tg l (QU X.K tl):=by
 intro pins s σ H R I h
 refine thn (hl pins s σ H _ I h) fun v s1 hh_=>?_
 obtain ⟨x,H1,I1,r1,q1⟩:=hh_
 obtain ⟨a,e,⟨xs,hq⟩,q⟩:=q1
 subst e
 cases r1
 obtain ⟨its,rv,p,hz⟩:=I1.tuple hq
 refine wpAny_pyIter_tuple (show s1.heap.IsTuple a its.toArray from p) ?_
 refine ⟨s1.heap.objs.size,[s1.heap.objs.size],_,_,H1,rfl,I1.kept (t':=s1.toks) fun b o e=>Heap.get?_push_of_some _ e,Si a _,⟨_,Heap.get?_push_size _ rfl,rfl,rfl⟩,fun b hb=>?_,q⟩
 have e:b=s1.heap.objs.size:=by simpa using hb
 subst e
 exact I1.fpOk (Nat.le_refl _) (I1.hok.fresh (Nat.le_refl _))
theorem M7 {pins:List (Addr×Obj)} {σ:St} {H:Hp} {s:Shared} {R:It->Hp->Prop} {E:Value->Shared->Prop} {lo hi:Int} {t u v:Tok} {tk:Nat} (I:Inv X pins σ H s) (h1:-(2 ^ 62)<=lo) (h2:lo<2 ^ 62) (h3:-(2 ^ 62)<=hi) (h4:hi<2 ^ 62)
  (q:R (Itr lo (hi - lo).toNat) H):wpAny (model X.prog X.w) X.A (pyIter (.ref s.heap.objs.size)) (PIE X pins σ tg R) E {s with heap:=s.heap.push {cls:=.type "range",data:=.fields #[.int lo t,.int hi u,.int 1 v]},toks:=tk}:=by
 refine wpAny_pyIter_range (IsRange.new ..) (small_one h1 h2 h3 h4) ?_
 have I1:Inv X pins σ H {s with heap:=s.heap.push {cls:=.type "range",data:=.fields #[.int lo t,.int hi u,.int 1 v]},toks:=tk}:=I.kept fun b o e=>Heap.get?_push_of_some _ e
 refine ⟨(s.heap.push {cls:=.type "range",data:=.fields #[.int lo t,.int hi u,.int 1 v]}).objs.size,[(s.heap.push {cls:=.type "range",data:=.fields #[.int lo t,.int hi u,.int 1 v]}).objs.size],_,_,H,rfl,
  I1.kept (t':=tk) fun b o e=>Heap.get?_push_of_some _ e,T5 _ lo (hi - lo).toNat,?_,fun b hb=>?_,q⟩
 ·have e1:lo+((0:Nat):Int) * 1=lo:=by simp
  have e2:(((hi - lo).toNat:Nat):Int) - ((0:Nat):Int)=Builtin.Range.rangeSize lo hi 1:=by rw[rangeSize_one];split<;>lia
  show IsRangeIter _ _ (lo+((0:Nat):Int) * 1) ((((hi - lo).toNat:Nat):Int) - ((0:Nat):Int)) 1
  rw[e1,e2]
  exact Heap.get?_push_size _ rfl
 ·have e:b=(s.heap.push {cls:=.type "range",data:=.fields #[.int lo t,.int hi u,.int 1 v]}).objs.size:=by simpa using hb
  subst e
  exact I1.fpOk (Nat.le_refl _) (I1.hok.fresh (Nat.le_refl _))
def S9 (ta:TA):TI:=fun σ H R=>ta σ H fun vs H1=>∃ j:Int,vs=[.int j]/\-(2 ^ 62)<=j/\j<2 ^ 62/\R (Itr 0 j.toNat) H1
def WH (ta:TA):TI:=fun σ H R=>ta σ H fun vs H1=>∃ i j:Int,vs=[.int i,.int j]/\(-(2 ^ 62)<=i/\i<2 ^ 62/\-(2 ^ 62)<=j/\j<2 ^ 62)/\R (Itr i (j - i).toNat) H1
theorem Jp {a:Expr} {ta:TA} {p pos:Pos} (hg:Gl X "range") (hm:X.mg "range"=none) (ha:PA X [a] ta) (hs:starEach [a] X.env=[(false,eval a X.env)]:=by rfl):PI X tg (.Call (.Name "range" p) [a] [] pos) (S9 ta):=by
 intro pins s σ H R I h
 refine Call_ (Ee I hg hm boot_range (PyProof.Rows.callWith_type1 (thn (ha pos pins s σ H _ I h) fun us s1 hh_=>?_) hs rfl))
 obtain ⟨vs,H1,I1,r1,q1⟩:=hh_
 obtain ⟨j,e,q1,q2,q⟩:=q1
 subst e
 cases r1 with
 | cons r rr=>
  cases rr
  obtain ⟨t,rfl⟩:=r
  exact call_range_1 (M7 I1 (by lia) (by lia) q1 q2 (by simpa using q))
theorem TY {a b:Expr} {ta:TA} {p pos:Pos} (hg:Gl X "range") (hm:X.mg "range"=none) (ha:PA X [a,b] ta) (hs:starEach [a,b] X.env=[(false,eval a X.env),(false,eval b X.env)]:=by rfl) (hs2:starEach [b] X.env=[(false,eval b X.env)]:=by rfl) :
  PI X tg (.Call (.Name "range" p) [a,b] [] pos) (WH ta):=by
 intro pins s σ H R I h
 refine Call_ (Ee I hg hm boot_range (PyProof.Rows.callWith_type1 (thn (ha pos pins s σ H _ I h) fun us s1 hh_=>?_) (by rw[hs,hs2]) (by rw[hs2];rfl)))
 obtain ⟨vs,H1,I1,r1,q1⟩:=hh_
 obtain ⟨i,j,e,⟨q1,q2,q3,q4⟩,q⟩:=q1
 subst e
 cases r1 with
 | cons r rr=>
  cases rr with
  | cons r' rr=>
   cases rr
   obtain ⟨t,rfl⟩:=r
   obtain ⟨t',rfl⟩:=r'
   exact call_range_2 (M7 I1 q1 q2 q3 q4 q)
def YK (wi:TI) (g:TG) (tb:TS):TS:=fun D σ H=>wi σ H fun J H1=>∃ W:Nat->Nat->St->Hp->Prop,(∃ m,W 0 m σ H1)/\∀ i m σ H,W i m σ H ->
 (J.stop i H/\D.nx σ H)\/(J.go i H/\∃ N:St->Hp->Prop,(∀ σ' H',N σ' H'->∃ m',m'<m/\W (i+1) m' σ' H')/\∀ x H',J.yld i H x H'->g x σ H' fun σ2 H2=>tb {D with nx:=N,ct:=N,bk:=D.nx} σ2 H2)
def E6 (fp:List Addr) (h:Heap):List (Addr×Obj):=fp.filterMap fun b=>(h.get? b).map fun o=>(b,o)
theorem GH {fp:List Addr} {h:Heap} {b:Addr} {o:Obj} (hb:b∈fp) (e:h.get? b=some o):(b,o)∈E6 fp h:=List.mem_filterMap.mpr ⟨b,hb,by rw[e];rfl⟩
theorem SA {fp:List Addr} {h:Heap} {p:Addr×Obj} (hp:p∈E6 fp h):p.1∈fp/\h.get? p.1=some p.2:=by
 obtain ⟨b,hb,e⟩:=List.mem_filterMap.mp hp
 cases q:h.get? b with
 | none=>rw[q] at e;cases e
 | some o=>
  rw[q] at e
  have e':(b,o)=p:=Option.some.inj e
  subst e'
  exact ⟨hb,q⟩
theorem Inv.pinned {pins:List (Addr×Obj)} {σ:St} {H:Hp} {s:Shared} {fp:List Addr} (I:Inv X pins σ H s) (hf:∀ b∈fp,Ce X pins H b) (ho:∀ b∈fp,∃ o,s.heap.get? b=some o/\∀ v,o.data≠.cell v):Inv X (pins++E6 fp s.heap) σ H s:=
 I.pins_of fun p hp=>(List.mem_append.mp hp).elim (fun z=>I.pin p (List.mem_append_right _ z)) fun z=>by
  obtain ⟨hb,e⟩:=SA z
  obtain ⟨f0,f1,f2,_⟩:=hf p.1 hb
  obtain ⟨o,e',d⟩:=ho p.1 hb
  rw[e] at e';cases e'
  exact ⟨e,f0,f1,f2,d⟩
theorem Inv.unpinned {pins pl:List (Addr×Obj)} {σ:St} {H:Hp} {s:Shared} (I:Inv X (pins++pl) σ H s):Inv X pins σ H s:=I.pins_of fun p hp=>I.pin p (List.mem_append_right _ (List.mem_append_left _ hp))
theorem Jj {iter:Expr} {body:List Stmt} {wi:TI} {g:TG} {tb:TS} {pos:Pos} (hp:PassesOwn (model X.prog X.w) X.A X.env X.xe) (hc:X.calm=true) (hi:PI X tg iter wi) (hg:PG X tg g) (hb:PSs X body tb)
  (hs:∀ x,foldedSetIterable iter X.env x=pure x:=by intro _;rfl):PS X (.For tg iter body [] pos) (YK wi g tb):=by
 intro pins s σ H D I h
 refine wpAny_For (thn (hi pins s σ H _ I h) fun v s1 h1=>thn h1 fun itv s2 h2=>?_) hs
 obtain ⟨it,fp,tn,J,H2,e,I2,T,st2,f2,W,⟨m0,w0⟩,turn⟩:=h2
 subst e
 have stat:∀ {H':Hp},(∀ b∈fp,H' b=none)->∀ b∈fp,Ce X pins H' b:=fun hn b hb=>⟨hn b hb,(f2 b hb).2⟩
 refine codeAny_forLoop_any (fun n s'=>∃ i σ' H',Inv X pins σ' H' s'/\tn i s'.heap/\(∀ b∈fp,H' b=none)/\W i n σ' H') ?_ m0 ⟨0,σ,H2,I2,st2,fun b hb=>(f2 b hb).1,w0⟩
 rintro n s3 ⟨i,σ3,H3,I3,st3,fr3,w3⟩
 rcases turn i n σ3 H3 w3 with ⟨stop,qn⟩ | ⟨go,N,hN,step⟩
 ·refine wpAny_passesOwn hp (thn (T.done X rfl rfl rfl hc i pins s3 σ3 H3 X.xe I3 (stat fr3) st3 stop) fun r s4 hh_=>?_)
  obtain ⟨hr,I4⟩:=hh_
  subst hr
  exact wpAny_execs_nil ⟨σ3,H3,I4,qn⟩
 ·refine wpAny_passesOwn hp (thn (T.item X rfl rfl rfl hc i pins s3 σ3 H3 X.xe I3 (stat fr3) st3 go) fun r s4 hh_=>?_)
  obtain ⟨u,hr,h4⟩:=hh_
  subst hr
  refine wpAny_passesOwn hp (thn h4 fun _ s5 hh_=>?_)
  obtain ⟨x,H5,I5,r5,y5,st5,fr5⟩:=hh_
  have I5':=I5.pinned (stat fr5) (T.obj _ _ st5)
  refine wpAny_passesOwn hp (thn (hg _ s5 σ3 H5 x u _ I5' r5 (step x H5 y5)) fun _ s6 hh_=>?_)
  obtain ⟨σ6,H6,I6,q6⟩:=hh_
  refine wpAny_passesOwn hp (thn (hb _ s6 σ6 H6 _ I6 q6) fun f s7 q7=>?_)
  have again:∀ {σ7:St} {H7:Hp},Inv X (pins++E6 fp s5.heap) σ7 H7 s7->N σ7 H7->∃ m,m<n/\∃ i σ' H',Inv X pins σ' H' s7/\tn i s7.heap/\(∀ b∈fp,H' b=none)/\W i m σ' H':=fun {σ7 H7} I7 n7=>by
   obtain ⟨m',hm,w7⟩:=hN σ7 H7 n7
   refine ⟨m',hm,i+1,σ7,H7,I7.unpinned,T.keep _ _ _ st5 fun b hb o e=>(I7.pin (b,o) (List.mem_append_right _ (List.mem_append_right _ (GH hb e)))).1,fun b hb=>?_,w7⟩
   obtain ⟨o,e,d⟩:=T.obj _ _ st5 b hb
   exact (I7.pin (b,o) (List.mem_append_right _ (List.mem_append_right _ (GH hb e)))).2.1
  cases f with
  | next=>obtain ⟨σ7,H7,I7,n7⟩:=q7;exact again I7 n7
  | cont=>obtain ⟨σ7,H7,I7,n7⟩:=q7;exact again I7 n7
  | brk=>obtain ⟨σ7,H7,I7,q7⟩:=q7;exact ⟨σ7,H7,I7.unpinned,q7⟩
  | ret v=>obtain ⟨x7,σ7,H7,I7,r7,q7⟩:=q7;exact ⟨x7,σ7,H7,I7.unpinned,r7,q7⟩
end
theorem Wu {K:PySem.W.Frag} {a:Addr} {xs:List V} {g:TG} {tb:TS} {D:Ends} {σ:St} {H:Hp} (Pv:Nat->St->Hp->Prop) (h0:Pv 0 σ H) (hl:∀ i σ H,i<=xs.length->Pv i σ H->SqL K H a xs)
  (hs:∀ i x σ H,xs[i]?=some x->Pv i σ H->g x σ H fun σ2 H2=>tb {D with nx:=Pv (i+1),ct:=Pv (i+1),bk:=D.nx} σ2 H2) (hd:∀ σ H,Pv xs.length σ H->D.nx σ H) :
  ∃ W:Nat->Nat->St->Hp->Prop,(∃ m,W 0 m σ H)/\∀ i m σ H,W i m σ H ->
   ((Itl K a).stop i H/\D.nx σ H)\/((Itl K a).go i H/\∃ N:St->Hp->Prop,(∀ σ' H',N σ' H'->∃ m',m'<m/\W (i+1) m' σ' H')/\∀ x H',(Itl K a).yld i H x H'->g x σ H' fun σ2 H2=>tb {D with nx:=N,ct:=N,bk:=D.nx} σ2 H2):=by
 refine ⟨fun i m σ H=>m=xs.length - i/\i<=xs.length/\Pv i σ H,⟨xs.length,by simp,Nat.zero_le _,h0⟩,?_⟩
 rintro i m σ H ⟨rfl,hi,p⟩
 have q:=hl i σ H hi p
 by_cases hlt:i<xs.length
 ·refine .inr ⟨⟨xs,xs[i],q,by simp[hlt]⟩,Pv (i+1),fun σ' H' p'=>⟨xs.length - (i+1),by lia,rfl,hlt,p'⟩,fun x H' y=>?_⟩
  obtain ⟨e,y⟩:=y
  subst e
  exact hs i x σ _ (y xs q) p
 ·have e:i=xs.length:=by lia
  subst e
  exact .inl ⟨⟨xs,q,Nat.le_refl _⟩,hd σ H p⟩
abbrev R2:=V->V->Hp->VK->Prop
def OpR (X:Cx) (f:Value->Value->Sem Value) (r:R2):Prop:=
 ∀ (pins:List (Addr×Obj)) (s:Shared) (σ:St) (H:Hp) (x y:V) (v u:Value) (Q:VK),Inv X pins σ H s->RelV x v->RelV y u->r x y H Q ->
  wpAny (model X.prog X.w) X.A (f v u) (EP X pins σ Q) X.xe s
def UnR (X:Cx) (f:Value->Sem Value) (r:V->Hp->VK->Prop):Prop:=
 ∀ (pins:List (Addr×Obj)) (s:Shared) (σ:St) (H:Hp) (x:V) (v:Value) (Q:VK),Inv X pins σ H s->RelV x v->r x H Q ->
  wpAny (model X.prog X.w) X.A (f v) (EP X pins σ Q) X.xe s
def CallR (X:Cx) (f:Value) (r:List V->Hp->VK->Prop):Prop:=
 ∀ (pins:List (Addr×Obj)) (s:Shared) (σ:St) (H:Hp) (xs:List V) (us:List Value) (Q:VK),Inv X pins σ H s->Vals xs us->r xs H Q ->
  wpAny (model X.prog X.w) X.A (call f us) (EP X pins σ Q) X.xe s
def RL (X:Cx) (r:V->Hp->(Bool->Hp->Prop)->Prop):Prop:=
 ∀ (pins:List (Addr×Obj)) (s:Shared) (σ:St) (H:Hp) (x:V) (v:Value) (Q:Bool->Hp->Prop),Inv X pins σ H s->RelV x v->r x H Q ->
  wpAny (model X.prog X.w) X.A (truthy v) (TP X pins σ Q) X.xe s
def tOp (r:R2) (ta tb:TE):TE:=fun σ H Q=>ta σ H fun x H1=>tb σ H1 fun y H2=>r x y H2 Q
def tUn (r:V->Hp->VK->Prop) (ta:TE):TE:=fun σ H Q=>ta σ H fun x H1=>r x H1 Q
def rI (C:Int->Int->Prop) (g:Int->Int->V):R2:=fun x y H Q=>∃ i j,x=.int i/\y=.int j/\C i j/\Q (g i j) H
def rI0 (g:Int->Int->V):R2:=fun x y H Q=>∃ i j,x=.int i/\y=.int j/\Q (g i j) H
def rU (g:Int->V):V->Hp->VK->Prop:=fun x H Q=>∃ i,x=.int i/\Q (g i) H
section
variable {X:Cx} {a b c:Expr} {ta tb tc:TE} {pos:Pos}
theorem K9 (ha:PE X a ta) (hb:PE X b tb) {pins:List (Addr×Obj)} {s:Shared} {σ:St} {H:Hp} {R:V->V->Hp->Prop} (I:Inv X pins σ H s)
  (h:ta σ H fun x H1=>tb σ H1 fun y H2=>R x y H2) {Q:Value->Shared->Prop} {f:Value->Value->Sem Value}
  (hf:∀ v u s2 x y H2,Inv X pins σ H2 s2->RelV x v->RelV y u->R x y H2->wpAny (model X.prog X.w) X.A (f v u) Q X.xe s2) :
  wpAny (model X.prog X.w) X.A (eval a X.env) (fun v s₁=>wpAny (model X.prog X.w) X.A (eval b X.env) (fun u s₂=>wpAny (model X.prog X.w) X.A (f v u) Q X.xe s₂) X.xe s₁) X.xe s:=by
 refine thn (ha pins s σ H _ I h) fun v s1 hh_=>?_
 obtain ⟨x,H1,I1,r1,q1⟩:=hh_
 refine thn (hb pins s1 σ H1 _ I1 q1) fun u s2 hh_=>?_
 obtain ⟨y,H2,I2,r2,q2⟩:=hh_
 exact hf v u s2 x y H2 I2 r1 r2 q2
theorem Dr {op:Operator} {r:R2} (ho:OpR X (binaryOp op) r) (ha:PE X a ta) (hb:PE X b tb):PE X (.BinOp a op b pos) (tOp r ta tb):=by
 intro pins s σ H Q I h
 exact wpAny_BinOp (K9 ha hb I h fun v u s2 x y H2 I2 rx ry q=>ho pins s2 σ H2 x y v u Q I2 rx ry q)
theorem RJ {op:UnaryOp} {r:V->Hp->VK->Prop} (ho:UnR X (unaryOp op) r) (ha:PE X a ta):PE X (.UnaryOp op a pos) (tUn r ta):=by
 intro pins s σ H Q I h
 exact UnaryOp_ (thn (ha pins s σ H _ I h) fun v s1 ⟨x,H1,I1,r1,q1⟩=>ho pins s1 σ H1 x v Q I1 r1 q1)
theorem opI {f:Value->Value->Sem Value} {C:Int->Int->Prop} {g:Int->Int->Int}
  (rule:∀ (i j:Int) (t u:Tok) (s:Shared) (Q:Value->Shared->Prop) (E:Value->Shared->Prop),C i j->Q (.int (g i j) s.toks) {s with toks:=s.toks+1}->wpAny (model X.prog X.w) X.A (f (.int i t) (.int j u)) Q E s) :
  OpR X f (rI C fun i j=>.int (g i j)):=by
 intro pins s σ H x y v u Q I rx ry h
 obtain ⟨i,j,rfl,rfl,hc,q⟩:=h
 obtain ⟨t,rfl⟩:=rx
 obtain ⟨t',rfl⟩:=ry
 exact rule i j t t' s _ _ hc ⟨.int (g i j),H,I.tok _,⟨_,rfl⟩,q⟩
theorem Kl {f:Value->Value->Sem Value} {g:Int->Int->Int}
  (rule:∀ (i j:Int) (t u:Tok) (s:Shared) (Q:Value->Shared->Prop) (E:Value->Shared->Prop),Q (.int (g i j) s.toks) {s with toks:=s.toks+1}->wpAny (model X.prog X.w) X.A (f (.int i t) (.int j u)) Q E s) :
  OpR X f (rI0 fun i j=>.int (g i j)):=by
 intro pins s σ H x y v u Q I rx ry h
 obtain ⟨i,j,rfl,rfl,q⟩:=h
 obtain ⟨t,rfl⟩:=rx
 obtain ⟨t',rfl⟩:=ry
 exact rule i j t t' s _ _ ⟨.int (g i j),H,I.tok _,⟨_,rfl⟩,q⟩
theorem GT {f:Value->Value->Sem Value} {g:Int->Int->Bool}
  (rule:∀ (i j:Int) (t u:Tok) (s:Shared) (Q:Value->Shared->Prop) (E:Value->Shared->Prop),Q (.bool (g i j)) s->wpAny (model X.prog X.w) X.A (f (.int i t) (.int j u)) Q E s) :
  OpR X f (rI0 fun i j=>.bl (g i j)):=by
 intro pins s σ H x y v u Q I rx ry h
 obtain ⟨i,j,rfl,rfl,q⟩:=h
 obtain ⟨t,rfl⟩:=rx
 obtain ⟨t',rfl⟩:=ry
 exact rule i j t t' s _ _ ⟨.bl (g i j),H,I,rfl,q⟩
def JS (i j:Int):Prop:=0<=j/\j<=1000000/\i.natAbs<2 ^ 64
def CMul (i j:Int):Prop:=(-(2 ^ 64)<i/\i<2 ^ 64)\/(-(2 ^ 64)<j/\j<2 ^ 64)
theorem CMul.ok {i j:Int} (h:CMul i j):IntMulOk i j:=by
 rcases h with ⟨h1,h2⟩ | ⟨h1,h2⟩
 ·exact .of_left (intBits_le_64 h1 h2)
 ·exact .of_right (intBits_le_64 h1 h2)
theorem op_add:OpR X (binaryOp .Add) (rI0 fun i j=>.int (i+j)):=Kl fun _ _ _ _ _ _ _ q=>add_int q
theorem Pb:OpR X (binaryOp .Sub) (rI0 fun i j=>.int (i - j)):=Kl fun _ _ _ _ _ _ _ q=>sub_int q
theorem L1:OpR X (binaryOp .Mult) (rI CMul fun i j=>.int (i * j)):=opI fun _ _ _ _ _ _ _ hc q=>mul_int q hc.ok
theorem P1:OpR X (binaryOp .Mod) (rI (fun _ j=>0<j) fun i j=>.int (i % j)):=opI fun i j _ _ _ _ _ hc q=>by
 have h1:(0:Int)<j:=hc
 exact mod_int' (by lia) (by rw[Int.fmod_eq_emod_of_nonneg i (by lia)];exact q)
theorem Rx:OpR X (binaryOp .Pow) (rI JS fun i j=>.int (i ^ j.toNat)):=opI fun _ _ _ _ _ _ _ hc q=>pow_int_small hc.1 hc.2.1 hc.2.2 q
theorem unI {f:Value->Sem Value} {g:Int->Int}
  (rule:∀ (i:Int) (t:Tok) (s:Shared) (Q:Value->Shared->Prop) (E:Value->Shared->Prop),Q (.int (g i) s.toks) {s with toks:=s.toks+1}->wpAny (model X.prog X.w) X.A (f (.int i t)) Q E s) :
  UnR X f (rU fun i=>.int (g i)):=by
 intro pins s σ H x v Q I rx h
 obtain ⟨i,rfl,q⟩:=h
 obtain ⟨t,rfl⟩:=rx
 exact rule i t s _ _ ⟨.int (g i),H,I.tok _,⟨_,rfl⟩,q⟩
theorem Ya:UnR X (unaryOp .USub) (rU fun i=>.int (-i)):=unI fun _ _ _ _ _ q=>neg_int q
end
def Ig:V->V->Bool
 | .non,.non=>true | .non,.int _=>true | .int _,.non=>true | .non,.bl _=>true | .bl _,.non=>true | .non,.str _=>true | .str _,.non=>true
 | .int _,.int _=>true | .bl _,.bl _=>true | .str _,.str _=>true | .byt _,.byt _=>true
 | .int _,.str _=>true | .str _,.int _=>true | .bl _,.str _=>true | .str _,.bl _=>true
 | _,_=>false
def rEq:R2:=fun x y H Q=>Ig x y=true/\Q (.bl (decide (x=y))) H
def rNe:R2:=fun x y H Q=>Ig x y=true/\Q (.bl (!decide (x=y))) H
theorem OX {i j:Int}:decide (V.int i=V.int j)=(i == j):=by
 rw[Bool.eq_iff_iff]
 simp
theorem L3 {i j:Bool}:decide (V.bl i=V.bl j)=(i == j):=by
 rw[Bool.eq_iff_iff]
 simp
theorem Nc {i j:Str}:decide (V.str i=V.str j)=(i == j):=by
 rw[Bool.eq_iff_iff]
 simp
theorem Lw {i j:Array UInt8}:decide (V.byt i=V.byt j)=(i.toList == j.toList):=by
 rw[Bool.eq_iff_iff]
 cases i
 cases j
 simp
section
variable {X:Cx} {a b c:Expr} {ta tb tc:TE} {pos:Pos}
theorem A1 {pins:List (Addr×Obj)} {σ:St} {H:Hp} {s:Shared} {Q:VK} {k k':Bool} (I:Inv X pins σ H s) (q:Q (.bl k) H) (e:k=k'):EP X pins σ Q (.bool k') s:=by
 subst e
 exact ⟨.bl k,H,I,rfl,q⟩
theorem op_eq:OpR X (compareOp .Eq) rEq:=by
 intro pins s σ H x y v u Q I rx ry h
 obtain ⟨hs,q⟩:=h
 cases x with
 | non=>
  cases rx
  cases y with
  | non=>cases ry;exact PySem.EqNone.eq_none_none (A1 I q (by simp))
  | bl j=>cases ry;exact PySem.EqNone.eq_none_bool (A1 I q (by simp))
  | int j=>obtain ⟨t',rfl⟩:=ry;exact PySem.EqNone.eq_none_int (A1 I q (by simp))
  | str j=>obtain ⟨t',rfl⟩:=ry;exact PySem.EqNone.eq_none_str (A1 I q (by simp))
  | _=>exact absurd (show false=true from hs) Bool.false_ne_true
 | bl i=>
  cases rx
  cases y with
  | non=>cases ry;exact PySem.EqNone.eq_bool_none (A1 I q (by simp))
  | bl j=>cases ry;exact eq_bool (A1 I q L3)
  | str j=>obtain ⟨t',rfl⟩:=ry;exact PySem.EqMixed.eq_bool_str (A1 I q (by simp))
  | _=>exact absurd (show false=true from hs) Bool.false_ne_true
 | int i=>
  obtain ⟨t,rfl⟩:=rx
  cases y with
  | non=>cases ry;exact PySem.EqNone.eq_int_none (A1 I q (by simp))
  | int j=>obtain ⟨t',rfl⟩:=ry;exact eq_int (A1 I q OX)
  | str j=>obtain ⟨t',rfl⟩:=ry;exact PySem.EqMixed.eq_int_str (A1 I q (by simp))
  | _=>exact absurd (show false=true from hs) Bool.false_ne_true
 | str i=>
  obtain ⟨t,rfl⟩:=rx
  cases y with
  | non=>cases ry;exact PySem.EqNone.eq_str_none (A1 I q (by simp))
  | bl j=>cases ry;exact PySem.EqMixed.eq_str_bool (A1 I q (by simp))
  | int j=>obtain ⟨t',rfl⟩:=ry;exact PySem.EqMixed.eq_str_int (A1 I q (by simp))
  | str j=>obtain ⟨t',rfl⟩:=ry;exact eq_str (A1 I q Nc)
  | _=>exact absurd (show false=true from hs) Bool.false_ne_true
 | byt i=>
  obtain ⟨t,rfl⟩:=rx
  cases y with
  | byt j=>obtain ⟨t',rfl⟩:=ry;exact PySem.W.eq_bytes (A1 I q Lw)
  | _=>exact absurd (show false=true from hs) Bool.false_ne_true
 | _=>cases y<;>exact absurd (show false=true from hs) Bool.false_ne_true
theorem op_ne:OpR X (compareOp .NotEq) rNe:=by
 intro pins s σ H x y v u Q I rx ry h
 obtain ⟨hs,q⟩:=h
 cases x with
 | non=>
  cases rx
  cases y with
  | non=>cases ry;exact PySem.EqNone.ne_none_none (A1 I q (by simp))
  | bl j=>cases ry;exact PySem.EqNone.ne_none_bool (A1 I q (by simp))
  | int j=>obtain ⟨t',rfl⟩:=ry;exact PySem.EqNone.ne_none_int (A1 I q (by simp))
  | str j=>obtain ⟨t',rfl⟩:=ry;exact PySem.EqNone.ne_none_str (A1 I q (by simp))
  | _=>exact absurd (show false=true from hs) Bool.false_ne_true
 | bl i=>
  cases rx
  cases y with
  | non=>cases ry;exact PySem.EqNone.ne_bool_none (A1 I q (by simp))
  | bl j=>cases ry;exact ne_bool (A1 I q (congrArg not L3))
  | str j=>obtain ⟨t',rfl⟩:=ry;exact PySem.EqMixed.ne_bool_str (A1 I q (by simp))
  | _=>exact absurd (show false=true from hs) Bool.false_ne_true
 | int i=>
  obtain ⟨t,rfl⟩:=rx
  cases y with
  | non=>cases ry;exact PySem.EqNone.ne_int_none (A1 I q (by simp))
  | int j=>obtain ⟨t',rfl⟩:=ry;exact ne_int (A1 I q (congrArg not OX))
  | str j=>obtain ⟨t',rfl⟩:=ry;exact PySem.EqMixed.ne_int_str (A1 I q (by simp))
  | _=>exact absurd (show false=true from hs) Bool.false_ne_true
 | str i=>
  obtain ⟨t,rfl⟩:=rx
  cases y with
  | non=>cases ry;exact PySem.EqNone.ne_str_none (A1 I q (by simp))
  | bl j=>cases ry;exact PySem.EqMixed.ne_str_bool (A1 I q (by simp))
  | int j=>obtain ⟨t',rfl⟩:=ry;exact PySem.EqMixed.ne_str_int (A1 I q (by simp))
  | str j=>obtain ⟨t',rfl⟩:=ry;exact ne_str (A1 I q (congrArg not Nc))
  | _=>exact absurd (show false=true from hs) Bool.false_ne_true
 | byt i=>
  obtain ⟨t,rfl⟩:=rx
  cases y with
  | byt j=>obtain ⟨t',rfl⟩:=ry;exact PySem.W.ne_bytes (A1 I q (congrArg not Lw))
  | _=>exact absurd (show false=true from hs) Bool.false_ne_true
 | _=>cases y<;>exact absurd (show false=true from hs) Bool.false_ne_true
theorem op_lt:OpR X (compareOp .Lt) (rI0 fun i j=>.bl (decide (i<j))):=GT fun _ _ _ _ _ _ _ q=>lt_int q
theorem op_le:OpR X (compareOp .LtE) (rI0 fun i j=>.bl (decide (i<=j))):=GT fun _ _ _ _ _ _ _ q=>le_int q
theorem Vs:OpR X (compareOp .Gt) (rI0 fun i j=>.bl (decide (j<i))):=GT fun _ _ _ _ _ _ _ q=>gt_int q
theorem op_ge:OpR X (compareOp .GtE) (rI0 fun i j=>.bl (decide (j<=i))):=GT fun _ _ _ _ _ _ _ q=>ge_int q
theorem OpR.or {f:Value->Value->Sem Value} {r r':R2} (h:OpR X f r) (h':OpR X f r'):OpR X f (fun x y H Q=>r x y H Q\/r' x y H Q):=by
 intro pins s σ H x y v u Q I rx ry q
 rcases q with q | q
 ·exact h pins s σ H x y v u Q I rx ry q
 ·exact h' pins s σ H x y v u Q I rx ry q
theorem Fg (b:Expr) {op:CmpOp} (h:op≠.In:=by decide) (h2:op≠.NotIn:=by decide):behindInMarks op b=false:=by
 have e1:(op == CmpOp.In)=false:=by cases op<;>first | rfl | exact absurd rfl h
 have e2:(op == CmpOp.NotIn)=false:=by cases op<;>first | rfl | exact absurd rfl h2
 cases b<;>simp[behindInMarks,e1,e2]
def Li (t:TE):TT:=fun σ H Q=>t σ H fun x H'=>∃ k,x=.bl k/\Q k H'
theorem N3 {op:CmpOp} {r:R2} (ho:OpR X (compareOp op) r) (ha:PE X a ta) (hb:PE X b tb) (hm:behindInMarks op b=false):PT X (.Compare a [op] [b] pos) (Li (tOp r ta tb)):=by
 intro pins s σ H Q I h
 refine wpAny_isTrue_Compare1 (thn (ha pins s σ H _ I h) fun v s1 ⟨x,H1,I1,r1,q1⟩=>thn (hb pins s1 σ H1 _ I1 q1) fun u s2 ⟨y,H2,I2,r2,q2⟩=>
  thn (ho pins s2 σ H2 x y v u _ I2 r1 r2 q2) fun c s3 ⟨z,H3,I3,r3,k,e,q3⟩=>?_) hm
 subst e
 cases r3
 exact wpAny_truthy_bool ⟨H3,I3,q3⟩
def K0 (r r':R2) (ta tb tc:TE):TE:=fun σ H Q=>ta σ H fun x H1=>tb σ H1 fun y H2=>r x y H2 fun z H3=>∃ k,z=.bl k /\
 (if k=true then tc σ H3 fun w' H4=>r' y w' H4 Q else Q (.bl false) H3)
theorem Xe {op op':CmpOp} {r r':R2} (ho:OpR X (compareOp op) r) (ho':OpR X (compareOp op') r') (ha:PE X a ta) (hb:PE X b tb) (hc:PE X c tc)
  (hm:lastMarks [op,op'] [b,c]=false:=by with_unfolding_all rfl):PT X (.Compare a [op,op'] [b,c] pos) (Li (K0 r r' ta tb tc)):=by
 intro pins s σ H Q I h
 refine isTrue_chain (thn (ha pins s σ H _ I h) fun v s1 ⟨x,H1,I1,r1,q1⟩=>test_link (thn (hb pins s1 σ H1 _ I1 q1) fun u s2 ⟨y,H2,I2,r2,q2⟩=>
  thn (ho pins s2 σ H2 x y v u _ I2 r1 r2 q2) fun d s3 ⟨z,H3,I3,r3,k,e,q3⟩=>?_)) hm
 subst e
 cases r3
 refine wpAny_truthy_bool ?_
 cases k with
 | false=>
  obtain ⟨k',e',q'⟩:=q3
  cases e'
  exact ite_ff ⟨H3,I3,q'⟩
 | true=>
  refine ite_tt (test_last (thn (hc pins s3 σ H3 _ I3 q3) fun w' s4 ⟨z',H4,I4,r4,q4⟩=>thn (ho' pins s4 σ H4 y z' u w' _ I4 r2 r4 q4) fun d' s5 hh_=>?_))
  obtain ⟨z2,H5,I5,r5,k2,e2,q5⟩:=hh_
  subst e2
  cases r5
  exact wpAny_truthy_bool ⟨H5,I5,q5⟩
def Je (K:PySem.W.Frag) (x:V) (H:Hp) (k:Bool):Prop:=
 match x with
 | .non=>k=false
 | .bl b=>k=b
 | .int i=>k=(i != 0)
 | .str y=>y.length<=sizeLine/\k=((y.length:Int) != 0)
 | .byt y=>y.size<=sizeLine/\k=((y.size:Int) != 0)
 | .ref p=>(∃ xs,SqL K H p xs/\k=!xs.isEmpty)\/(∃ xs,SqT K H p xs/\k=!xs.isEmpty)\/∃ kvs,H p=some (.dK kvs)/\k=!kvs.isEmpty
 | _=>False
theorem Xd {κ:Type} {kvs:List (κ×V)} {vs:List (κ×Value)} (r:KV kvs vs):(!vs.isEmpty)=!kvs.isEmpty:=by
 cases r<;>rfl
theorem Nk {xs:List V} {its:List Value} (r:Vals xs its):(!its.toArray.isEmpty)=!xs.isEmpty:=by
 cases r<;>simp
theorem EK:(sizeLine:Nat)<2 ^ 63:=by rw[sizeLine_eq];decide
theorem Ql:RL X (fun x H Q=>∃ k,Je X.K x H k/\Q k H):=by
 intro pins s σ H x v Q I rx h
 obtain ⟨k,e,q⟩:=h
 have hl:=EK
 have hs:sizeLine=16777216:=sizeLine_eq
 cases x with
 | non=>
  cases rx
  have e':k=false:=e
  subst e'
  exact truthy_none ⟨H,I,q⟩
 | bl b=>
  cases rx
  have e':k=b:=e
  subst e'
  exact wpAny_truthy_bool ⟨H,I,q⟩
 | int i=>
  obtain ⟨t,rfl⟩:=rx
  have e':k=(i != 0):=e
  subst e'
  exact PySem.P.truthy_int ⟨H,I,q⟩
 | str y=>
  obtain ⟨t,rfl⟩:=rx
  obtain ⟨hy,e'⟩:y.length<=sizeLine/\k=((y.length:Int) != 0):=e
  subst e'
  exact PySem.P.truthy_str (by lia) ⟨H,I.tok _,q⟩
 | byt y=>
  obtain ⟨t,rfl⟩:=rx
  obtain ⟨hy,e'⟩:y.size<=sizeLine/\k=((y.size:Int) != 0):=e
  subst e'
  exact PySem.W.truthy_bytes (by lia) ⟨H,I.tok _,q⟩
 | ref p=>
  cases rx
  have e':(∃ xs,SqL X.K H p xs/\k=!xs.isEmpty)\/(∃ xs,SqT X.K H p xs/\k=!xs.isEmpty)\/∃ kvs,H p=some (.dK kvs)/\k=!kvs.isEmpty:=e
  rcases e' with ⟨xs,hx,e'⟩ | ⟨xs,hx,e'⟩ | ⟨kvs,hx,e'⟩
  ·subst e'
   obtain ⟨its,r,pl,hz⟩:=I.list hx
   have hlen:=r.length
   exact wpAny_truthy_list pl.isList (by simp only[List.size_toArray];lia) ⟨H,I.tok _,by rw[Nk r];exact q⟩
  ·subst e'
   obtain ⟨its,r,pl,hz⟩:=I.tuple hx
   have hlen:=r.length
   exact truthy_tuple pl (by simp only[List.size_toArray];lia) ⟨H,I.tok _,by rw[Nk r];exact q⟩
  ·subst e'
   obtain ⟨hz,hS,vs,r,m⟩:kvs.length<=sizeLine/\(p == sysModules)=false/\∃ vs,KV kvs vs/\s.heap.DictOf (Bq X.prog X.w) p vs:=I.hok p _ hx
   have hlen:kvs.length=vs.length:=Paired.length r
   exact wpAny_truthy_dict hS m (by lia) ⟨H,I.tok _,by rw[Xd r];exact q⟩
 | _=>exact (show False from e).elim
theorem Ue (ha:PE X a ta) (he:∀ whole,isTrue a X.env whole=(do let v <-whole;standAt a.pos;holding [v] (truthy v))) :
  PT X a (fun σ H Q=>ta σ H fun x H'=>∃ k,Je X.K x H' k/\Q k H'):=by
 intro pins s σ H Q I h
 exact isTrue_plain (thn (ha pins s σ H _ I h) fun v s1 ⟨x,H1,I1,r1,q1⟩=>Ql pins s1 σ H1 x v Q I1 r1 q1) (he _)
theorem op_add_str:OpR X (binaryOp .Add) (fun x y H Q=>∃ i j,x=.str i/\y=.str j/\i.length+j.length<=sizeLine/\Q (.str (i++j)) H):=by
 intro pins s σ H x y v u Q I rx ry h
 obtain ⟨i,j,rfl,rfl,hz,q⟩:=h
 obtain ⟨t,rfl⟩:=rx
 obtain ⟨t',rfl⟩:=ry
 exact add_str (fun t' tk=>⟨.str (i++j),H,I.tok _,⟨_,rfl⟩,q⟩) hz
theorem vals1 {x:V} {us:List Value} (r:Vals [x] us):∃ u,us=[u]/\RelV x u:=by
 cases r with
 | cons r1 r2=>cases r2;exact ⟨_,rfl,r1⟩
theorem vals2 {x y:V} {us:List Value} (r:Vals [x,y] us):∃ u w',us=[u,w']/\RelV x u/\RelV y w':=by
 cases r with
 | cons r1 r2=>
  cases r2 with
  | cons r3 r4=>cases r4;exact ⟨_,_,rfl,r1,r3⟩
theorem YD (hc:X.calm=true):CallR X (.builtin "max") (fun xs H Q=>∃ i j,xs=[.int i,.int j]/\Q (.int (if j > i then j else i)) H):=by
 intro pins s σ H xs us Q I r h
 obtain ⟨i,j,rfl,q⟩:=h
 obtain ⟨u,w',rfl,⟨t,rfl⟩,⟨t',rfl⟩⟩:=vals2 r
 refine max_two_ints (I.ok.hd hc) fun h' tk k=>⟨_,H,I.kept k,?_,q⟩
 by_cases hj:j > i
 ·rw[if_pos hj,if_pos hj];exact ⟨_,rfl⟩
 ·rw[if_neg hj,if_neg hj];exact ⟨_,rfl⟩
theorem QE (hc:X.calm=true):CallR X (.builtin "min") (fun xs H Q=>∃ i j,xs=[.int i,.int j]/\Q (.int (if j<i then j else i)) H):=by
 intro pins s σ H xs us Q I r h
 obtain ⟨i,j,rfl,q⟩:=h
 obtain ⟨u,w',rfl,⟨t,rfl⟩,⟨t',rfl⟩⟩:=vals2 r
 refine min_two_ints (I.ok.hd hc) fun h' tk k=>⟨_,H,I.kept k,?_,q⟩
 by_cases hj:j<i
 ·rw[if_pos hj,if_pos hj];exact ⟨_,rfl⟩
 ·rw[if_neg hj,if_neg hj];exact ⟨_,rfl⟩
def PX (K:PySem.W.Frag) (x:V) (H:Hp) (n:Nat):Prop:=
 match x with
 | .str y=>y.length<=sizeLine/\n=y.length
 | .byt y=>y.size<=sizeLine/\n=y.size
 | .ref p=>(∃ xs,SqL K H p xs/\n=xs.length)\/∃ xs,SqT K H p xs/\n=xs.length
 | _=>False
theorem Wv:CallR X (.builtin "len") (fun xs H Q=>∃ x n,xs=[x]/\PX X.K x H n/\Q (.int n) H):=by
 intro pins s σ H xs us Q I r h
 obtain ⟨x,n,rfl,e,q⟩:=h
 obtain ⟨u,rfl,rx⟩:=vals1 r
 have hl:=EK
 have hs:sizeLine=16777216:=sizeLine_eq
 cases x with
 | str y=>
  obtain ⟨t,rfl⟩:=rx
  obtain ⟨hy,e'⟩:y.length<=sizeLine/\n=y.length:=e
  subst e'
  exact len_str (by lia) ⟨.int _,H,I.tok _,⟨_,rfl⟩,q⟩
 | byt y=>
  obtain ⟨t,rfl⟩:=rx
  obtain ⟨hy,e'⟩:y.size<=sizeLine/\n=y.size:=e
  subst e'
  exact PySem.W.len_bytes (by lia) ⟨.int _,H,I.tok _,⟨_,rfl⟩,q⟩
 | ref p=>
  cases rx
  have e':(∃ xs,SqL X.K H p xs/\n=xs.length)\/∃ xs,SqT X.K H p xs/\n=xs.length:=e
  rcases e' with ⟨xs,hx,e'⟩ | ⟨xs,hx,e'⟩
  ·subst e'
   obtain ⟨its,r',pl,hz⟩:=I.list hx
   have hlen:=r'.length
   exact Calls.call_len_list pl.isList (by simp only[List.size_toArray];lia) ⟨.int xs.length,H,I.tok _,⟨_,by simp only[List.size_toArray];rw[hlen]⟩,q⟩
  ·subst e'
   obtain ⟨its,r',pl,hz⟩:=I.tuple hx
   have hlen:=r'.length
   exact len_tuple pl (by simp only[List.size_toArray];lia) ⟨.int xs.length,H,I.tok _,⟨_,by simp only[List.size_toArray];rw[hlen]⟩,q⟩
 | _=>exact (show False from e).elim
end
structure ObjM (h:Heap) (x dx C:Addr) (mA:Str->Option Value):Prop where
 obj:h.get? x=some (PySem.W.instObj C dx)
 ns:h.Ns1 dx mA
 ne:dx≠x
theorem Wy {h:Heap} {dx:Addr} {mA:Str->Option Value} (n:h.Ns1 dx mA):∃ od,h.get? dx=some od/\∀ name,PySem.W.lookIn name od=some (mA name):=by
 obtain ⟨o,es,ep,ho,hd,hk,_,hm⟩:=n
 refine ⟨o,ho,fun name=>?_⟩
 have e:=hm name
 unfold nsFind findBy at e
 rw[<-Array.find?_toList] at e
 unfold PySem.W.lookIn
 rw[hd]
 dsimp only
 split
 ·rename_i y q
  rw[q] at e
  exact congrArg some e
 ·rename_i q
  rw[q] at e
  have a:es.toList.any (·.refKey)=false:=by
   rw[List.any_eq_false]
   intro y hy
   obtain ⟨z,t,hkey⟩:=hk y (Array.mem_toList_iff.mp hy)
   simp[DictEntry.refKey,hkey]
  have a':¬es.toList.any (·.refKey)=true:=by rw[a];exact Bool.false_ne_true
  rw[if_neg a']
  exact congrArg some e
theorem ObjM.look {h:Heap} {x dx C:Addr} {mA:Str->Option Value} (I:ObjM h x dx C mA):∃ od,PySem.W.InstAt h x (PySem.W.instObj C dx) C (some od)/\∀ name,PySem.W.lookIn name od=some (mA name):=
 let ⟨od,ho,hl⟩:=Wy I.ns
 ⟨od,⟨I.obj,rfl,rfl,ho⟩,hl⟩
section
variable {prog:Program} {w:World} {A:Around} {E:Value->Shared->Prop} {s:Shared} {K:PySem.W.Frag} {x dx C f:Addr} {mA:Str->Option Value} {name:Str} {v:Value}
end
theorem RelO.some_of {v:V} {o:Option Value} (r:RelO (some v) o):∃ u,o=some u/\RelV v u:=by
 cases o with
 | none=>exact (show False from r).elim
 | some u=>exact ⟨u,rfl,r⟩
section
variable {P:Program} {w:World} {H H':Hp} {h h':Heap} {a C dx:Addr} {fs fs':List (Str×V)}
theorem YG (hok:HOk P w H h) (e:H a=some (.ins C dx fs)):∃ mA,ObjM h a dx C mA/\(∀ f,RelO (fs.lookup f) (mA f))/\PySem.Within mA (fs.map (·.1))/\fs.length<=1000/\H dx=some (.own a):=by
 obtain ⟨d,z,ne,ob,mA,n,r,q⟩:=(show ObjOk P w H h a (.ins C dx fs) from hok a _ e)
 exact ⟨mA,⟨ob,n,ne⟩,r,q,z,d⟩
end
structure Cls (K:PySem.W.Frag) (C:Addr):Prop where
 pg:PySem.W.plainGet K C Str.empty=true
 hd:PySem.W.hasDictIn K C=true
 po:PySem.W.plainOver K C=true
 sa:PySem.W.findIn K (.ref C) "__setattr__"=some (some (.builtin "object.__setattr__"))
theorem Cls.get {K:PySem.W.Frag} {C:Addr} (c:Cls K C) (f:Str):PySem.W.plainGet K C f=true:=c.pg
structure Con (K:PySem.W.Frag) (C:Addr) (f:Str) (v:V) (u:Value):Prop where
 at_:PySem.W.findIn K (.ref C) f=some (some u)
 rel:RelV v u
 get:PySem.W.specialIn K u "__get__"=some none
 cp:PySem.W.copiedNames.contains f=false
structure Meth (K:PySem.W.Frag) (C:Addr) (m:Str) (f:Addr):Prop where
 at_:PySem.W.findIn K (.ref C) m=some (some (.ref f))
 fn:PySem.W.isFn K (.ref f)=true
 kp:PySem.W.keepIn K (.ref f)=true
section
variable {X:Cx} {pins:List (Addr×Obj)} {σ:St} {H:Hp} {s:Shared} {a C dx:Addr} {fs:List (Str×V)} {f:Str} {v:V} {A:Around} {E:Value->Shared->Prop}
end
section
variable {X:Cx} {o e value:Expr} {f:Str} {pos pos' tpos:Pos} {ta tv:TE}
end
section
variable {X:Cx} {pins:List (Addr×Obj)} {σ:St} {H:Hp} {s:Shared} {A:Around} {E:Value->Shared->Prop} {Q:Value->Shared->Prop} {c:Value} {b:Bool}
inductive TyOf (K:PySem.W.Frag) (H:Hp):V->Value->Prop where
 | non:TyOf K H .non (.type "NoneType")
 | bl (x:Bool):TyOf K H (.bl x) (.type "bool")
 | int (i:Int):TyOf K H (.int i) (.type "int")
 | str (x:Str):TyOf K H (.str x) (.type "str")
 | flt (x:UInt64):TyOf K H (.flt x) (.type "float")
 | lst {a:Addr} {xs:List V} (e:H a=some (.lst xs)):TyOf K H (.ref a) (.type "list")
 | frz {a:Addr} {o:Obj} {xs:List V} (e:H a=some (.frz o (.lst xs))):TyOf K H (.ref a) (.type "list")
 | tup {a:Addr} {xs:List V} (e:H a=some (.tup xs)):TyOf K H (.ref a) (.type "tuple")
 | dK {a:Addr} {kvs:List (Key×V)} (e:H a=some (.dK kvs)):TyOf K H (.ref a) (.type "dict")
 | dT {a:Addr} {kvs:List (List Key×V)} (e:H a=some (.dT kvs)):TyOf K H (.ref a) (.type "dict")
 | ins {a C dx:Addr} {fs:List (Str×V)} (e:H a=some (.ins C dx fs)) (cl:Cls K C) (ha:PySem.W.findIn K (.ref C) "__class__"=some (some (.builtin "object.__class__")))
   (hn:PySem.W.specialIn K (.builtin "object.__class__") "__get__"=some (some (.builtin "getset_descriptor.__get__"))) (htk:PySem.W.takesIn K (.builtin "object.__class__")=some true)
   (hm:PySem.W.mroIn K C (.type "object")=some true):TyOf K H (.ref a) (.ref C)
theorem WB {x:V} {u t:Value} (I:Inv X pins σ H s) (rx:RelV x u) (ty:TyOf X.K H x t) (e:PySem.W.kitOne X.K t c=some b) (h:∀ tk,Q (.bool b) {s with toks:=tk}) :
  wpAny (model X.prog X.w) A (call (.builtin "isinstance") [u,c]) Q E s:=by
 cases ty with
 | non=>cases (show u=Value.none from rx);exact PySem.W.kia_one PySem.W.kitx_none I.kIn True.intro e (fun z=>nomatch z) h
 | bl y=>cases (show u=Value.bool y from rx);exact PySem.W.kia_one PySem.W.kitx_bool I.kIn True.intro e (fun z=>nomatch z) h
 | int i=>obtain ⟨t,q⟩:=(show ∃ t,u=Value.int i t from rx);cases q;exact PySem.W.kia_one PySem.W.kitx_int I.kIn True.intro e (fun z=>nomatch z) h
 | str y=>obtain ⟨t,q⟩:=(show ∃ t,u=Value.str y t from rx);cases q;exact PySem.W.kia_one PySem.W.kitx_str I.kIn True.intro e (fun z=>nomatch z) h
 | flt y=>obtain ⟨t,q⟩:=(show ∃ t,u=Value.float y t from rx);cases q;exact PySem.W.kia_one PySem.W.kitx_float I.kIn True.intro e (fun z=>nomatch z) h
 | @lst a xs ea=>
  cases (show u=Value.ref a from rx)
  obtain ⟨_,_,n,_,h1⟩:=(show ObjOk X.prog X.w H s.heap a (.lst xs) from I.hok a _ ea)
  exact PySem.W.kia_one PySem.W.kitx_list I.kIn ⟨_,h1,rfl⟩ e (fun z=>nomatch z) h
 | @frz a ob xs ea=>
  cases (show u=Value.ref a from rx)
  obtain ⟨_,_,_,n,_,h1⟩:=(show ObjOk X.prog X.w H s.heap a (.frz ob (.lst xs)) from I.hok a _ ea)
  exact PySem.W.kia_one PySem.W.kitx_list I.kIn ⟨_,h1,rfl⟩ e (fun z=>nomatch z) h
 | @tup a xs ea=>
  cases (show u=Value.ref a from rx)
  obtain ⟨_,_,_,p⟩:=(show ObjOk X.prog X.w H s.heap a (.tup xs) from I.hok a _ ea)
  obtain ⟨o,h1,h2,_⟩:=p
  exact PySem.W.kia_one PySem.W.kitx_tuple I.kIn ⟨o,h1,h2⟩ e (fun z=>nomatch z) h
 | @dK a kvs ea=>
  cases (show u=Value.ref a from rx)
  obtain ⟨_,_,vs,_,p⟩:=(show ObjOk X.prog X.w H s.heap a (.dK kvs) from I.hok a _ ea)
  obtain ⟨o,es,ep,h1,h2,_⟩:=p
  exact PySem.W.kia_one PySem.W.kitx_dict I.kIn ⟨o,h1,h2.1⟩ e (fun z=>nomatch z) h
 | @dT a kvs ea=>
  cases (show u=Value.ref a from rx)
  obtain ⟨_,_,xs,_,o,es,ep,h1,h2,_⟩:=(show ObjOk X.prog X.w H s.heap a (.dT kvs) from I.hok a _ ea)
  exact PySem.W.kia_one PySem.W.kitx_dict I.kIn ⟨o,h1,h2.1⟩ e (fun z=>nomatch z) h
 | @ins a C dx fs ea cl ha hn htk hm=>
  cases (show u=Value.ref a from rx)
  obtain ⟨mA,O,_⟩:=YG I.hok ea
  obtain ⟨od,J,_⟩:=O.look
  exact PySem.W.kia_one (PySem.W.kitx_own (cl.get _) cl.hd ha hn htk hm) I.kIn J e (fun z=>nomatch z) h
end
structure Room (k:Nat) (A:Around):Prop where
 hd:A.handled=none
 dp:A.depth+3 * k+5<recursionLimit
 un:A.units+16 * k+200<cLine
theorem Room.mono {j k:Nat} {A:Around} (r:Room k A) (h:j<=k):Room j A:=⟨r.hd,by have:=r.dp;lia,by have:=r.un;lia⟩
theorem Room.deeper {k:Nat} {A:Around} (r:Room (k+1) A) (env:Env):Room k (A.deeper env):=
 ⟨r.hd,by have:=r.dp;show A.depth+1+3 * k+5<_;lia,by have:=r.un;show A.units+3+16 * k+200<_;lia⟩
theorem Room.depth {k:Nat} {A:Around} (r:Room k A):A.depth<recursionLimit:=by have:=r.dp;lia
theorem Room.units {k:Nat} {A:Around} (r:Room k A):A.units+64<cLine:=by have:=r.un;lia
theorem Room.units0 {k:Nat} {A:Around} (r:Room k A):A.units<cLine:=by have:=r.un;lia
def NS:TA:=fun _ H Q=>Q [] H
def OE (ta:TE) (tr:TA):TA:=fun σ H Q=>ta σ H fun x H1=>tr σ H1 fun xs H2=>Q (x::xs) H2
section
variable {X:Cx} {e:Expr} {es:List Expr} {te:TE} {t:TA} {pos:Pos}
theorem Ca:PA X [] NS:=fun _ _ _ _ H Q I h=>Calls.spliced_nil ⟨[],H,I,.nil,h⟩
theorem Bs (ha:PE X e te) (hr:PA X es t) (hs:starEach (e::es) X.env=(false,eval e X.env)::starEach es X.env:=by rfl):PA X (e::es) (OE te t):=by
 intro pos pins s σ H Q I h
 rw[hs]
 show wpAny _ _ (spliced ((false,eval e X.env)::backTo pos (starEach es X.env))) _ _ s
 refine Calls.spliced_cons (thn (ha pins s σ H _ I h) fun u s1 hh_=>?_)
 obtain ⟨x,H1,I1,r1,q1⟩:=hh_
 exact thn (hr pos pins s1 σ H1 _ I1 q1) fun us s2 ⟨xs,H2,I2,r2,q2⟩=>⟨x::xs,H2,I2,.cons r1 r2,q2⟩
def VR (t:TA):TE:=fun σ H Q=>t σ H fun xs H1=>xs.length<=sizeLine/\∀ p,H1 p=none->Q (.ref p) (upd H1 p (.tup xs))
def Qc (t:TA):TE:=fun σ H Q=>t σ H fun xs H1=>xs.length<=sizeLine/\∀ p,H1 p=none->Q (.ref p) (upd H1 p (.lst xs))
theorem Jk {x1} (h:PA X es t):PE X (.Tuple es x1 pos) (VR t):=by
 intro pins s σ H Q I hq
 refine wpAny_Tuple_spliced (thn (h pos pins s σ H _ I hq) fun us s1 ⟨xs,H1,I1,r,z,q⟩=>⟨by rw[<-r.length];exact z,?_⟩)
 have hf:H1 s1.heap.objs.size=none:=I1.hok.fresh (Nat.le_refl _)
 refine ⟨.ref s1.heap.objs.size,upd H1 s1.heap.objs.size (.tup xs),I1.laid (t':=s1.toks) (fun b u e=>Heap.get?_push_of_some _ e) (Nat.le_refl _) ?_,rfl,q _ hf⟩
 exact ⟨z,us,r,⟨_,Heap.get?_push_size _ rfl,rfl,_,rfl⟩⟩
theorem OZ (h:PA X es t):PE X (.List es pos) (Qc t):=by
 intro pins s σ H Q I hq
 refine wpAny_List_spliced (thn (h pos pins s σ H _ I hq) fun us s1 ⟨xs,H1,I1,r,z,q⟩=>⟨by rw[<-r.length];exact z,?_⟩)
 have hf:H1 s1.heap.objs.size=none:=I1.hok.fresh (Nat.le_refl _)
 refine ⟨.ref s1.heap.objs.size,upd H1 s1.heap.objs.size (.lst xs),I1.laid (t':=s1.toks) (fun b u e=>Heap.get?_push_of_some _ e) (Nat.le_refl _) ?_,rfl,q _ hf⟩
 exact ⟨z,us,0,r,Heap.get?_push_size _ rfl⟩
end
abbrev Sp:=List V->Hp->VK->XK->Prop
abbrev CXT:=List Env->Hp->Shared->XK->Value->Shared->Prop
structure Env0 (P:Program) (w:World) (K:PySem.W.Frag) (mg:Str->Option Value) (base:Heap) (A:Around) (outer:List Env) (s:Shared) (H:Hp):Prop where
 frames:A.frames=some outer
 mod:Mod K mg base
 bs:∀ b o,base.get? b=some o->s.heap.get? b=some o/\H b=none
 bsz:base.objs.size<=s.heap.objs.size
 funs:s.heap.FunFrames base outer
 frf:∀ b∈frs outer,H b=none
 hok:HOk P w H s.heap
 bare:AllBare s.gens
def CE (outer:List Env) (P:Program) (w:World) (H:Hp) (s:Shared) (Q:VK) (u:Value) (s':Shared):Prop:=
 ∃ v H',s'.os=s.os/\AllBare s'.gens/\Un (frs outer) [] H H' s.heap s'.heap/\HOk P w H' s'.heap/\RelV v u/\Q v H'
def CR (CX:CXT) (outer:List Env) (P:Program) (w:World) (H:Hp) (s:Shared) (Q:VK) (E:XK) (r:Result) (s':Shared):Prop:=
 match r with
 | .ok (.ret u)=>CE outer P w H s Q u s'
 | .ok _=>False
 | .error e=>CX outer H s E e s'
structure FnOk (P:Program) (w:World) (K:PySem.W.Frag) (mg:Str->Option Value) (base:Heap) (CX:CXT) (k:Nat) (f:Addr) (fd:FuncData) (ps:List Str) (sp:Sp):Prop where
 len:∀ vs H Q E,sp vs H Q E->vs.length=ps.length
 run:∀ (A:Around) (outer:List Env) (s:Shared) (H:Hp) (args:Args) (us:List Value) (vs:List V) (Q:VK) (E:XK),Room k A->Env0 P w K mg base A outer s H->BindsTo s fd args (ps.zip us)->Vals vs us->sp vs H Q E ->
  codeAny (model P w) A (.call (.ref f) args) (CR CX outer P w H s Q E) s
section
variable {X:Cx} {pins:List (Addr×Obj)} {σ:St} {H:Hp} {s s':Shared}
theorem Inv.env0 (I:Inv X pins σ H s):Env0 X.prog X.w X.K X.mg X.base X.A X.stack s H:=
 ⟨I.ok.frames,I.ok.mod,I.bs,Nat.le_trans I.ok.bsz I.sz,I.stack,I.stkFree,I.hok,I.bare⟩
theorem Inv.after {Q:VK} {u:Value} (I:Inv X pins σ H s) (h:CE X.stack X.prog X.w H s Q u s'):EP X pins σ Q u s':=by
 obtain ⟨v,H',os,bare,un,hok,r,q⟩:=h
 obtain ⟨hh,g,d,t,os'⟩:=s'
 obtain rfl:os'=s.os:=os
 exact ⟨v,H',I.call (h':=hh) (g':=g) (d':=d) (t':=t) (ch:=[]) un hok bare (fun b z=>absurd z (by simp)),r,q⟩
end
def QX (sp:Sp) (dvs:List V) (E:XK) (t:TA):TE:=fun σ H Q=>t σ H fun vs H1=>sp (vs++dvs) H1 Q E
def Binds (K:PySem.W.Frag) (fd:FuncData) (ps:List Str) (ds:List Value):Prop:=
 ∀ (s:Shared) (us:List Value),K.In s.heap->(us++ds).length=ps.length->BindsTo s fd ⟨us,[]⟩ (ps.zip (us++ds))
theorem Binds.all {K:PySem.W.Frag} {fd:FuncData} {ps:List Str} (h:∀ us:List Value,us.length=ps.length->bindArgs fd ⟨us,[]⟩=pure (ps.zip us)):Binds K fd ps []:=fun s us _ hl=>by
 rw[List.append_nil] at hl ⊢
 exact .of_eq (h us hl)
def Jz (CX:CXT) (X:Cx) (E:XK):Prop:=∀ (pins:List (Addr×Obj)) (σ:St) (H:Hp) (s:Shared) (e:Value) (s':Shared),Inv X pins σ H s->CX X.stack H s E e s'->X.xe e s'
section
variable {X:Cx} {CX:CXT} {k:Nat} {f C:Addr} {fd:FuncData} {ps:List Str} {sp:Sp} {dvs:List V} {ds:List Value} {E:XK} {x m:Str} {p pos apos:Pos} {e o:Expr} {es:List Expr} {ta:TE} {t:TA}
theorem Yj {pins:List (Addr×Obj)} {σ:St} {H:Hp} {s:Shared} {Q:VK} {us:List Value} {vs:List V} (F:FnOk X.prog X.w X.K X.mg X.base CX k f fd ps sp) (hr:Room k X.A) (hb:Binds X.K fd ps ds) (hd:Vals dvs ds) (hx:Jz CX X E)
  (I:Inv X pins σ H s) (r:Vals vs us) (h:sp (vs++dvs) H Q E):wpAny (model X.prog X.w) X.A (call (.ref f) us) (EP X pins σ Q) X.xe s:=by
 have r2:Vals (vs++dvs) (us++ds):=r.append hd
 have hl:(us++ds).length=ps.length:=by rw[<-r2.length];exact F.len _ _ _ _ h
 refine wpAny_call (codeAny_mono (F.run X.A X.stack s H ⟨us,[]⟩ (us++ds) (vs++dvs) Q E hr I.env0 (hb s us I.kIn hl) r2 h) fun r s' hq=>?_)
 cases r with
 | error e=>exact hx pins σ H s e s' I hq
 | ok fl=>
  cases fl with
  | ret u=>exact I.after hq
  | next=>exact False.elim hq
  | brk=>exact False.elim hq
  | cont=>exact False.elim hq
theorem KZ (F:FnOk X.prog X.w X.K X.mg X.base CX k f fd ps sp) (hr:Room k X.A) (hg:Gl X x) (hm:X.mg x=some (.ref f)) (hk:PySem.W.keepIn X.K (.ref f)=true) (hb:Binds X.K fd ps ds) (hd:Vals dvs ds) (hx:Jz CX X E)
  (ha:PA X (e::es) t) (hdb:(x == ("__debug__":Str))=false:=by decide) (he:starEach (e::es) X.env=(false,eval e X.env)::starEach es X.env:=by rfl) (hpl:(backTo pos (starEach es X.env)).any (·.1)=false:=by rfl) :
  PE X (.Call (.Name x p) (e::es) [] pos) (QX sp dvs E t):=by
 intro pins s σ H Q I h
 refine wpAny_Call_Name_kw (Ma I hg hm ?_ hdb)
 refine PySem.W.callWith_K (h₀:=X.base) I.ok.mod.kin hk (thn (ha pos pins s σ H _ I h) fun us s1 ⟨vs,H1,I1,r,q⟩=>⟨I1.kIn,?_⟩) he hpl
 exact Yj F hr hb hd hx I1 r q
structure Mk (K:PySem.W.Frag) (C f:Addr):Prop where
 makes:PySem.W.makesIn K C=true
 init:PySem.W.findIn K (.ref C) "__init__"=some (some (.ref f))
 fn:PySem.W.isFn K (.ref f)=true
 kp:PySem.W.keepIn K (.ref C)=true
end
section
variable {X:Cx} {CX:CXT} {k:Nat} {f C:Addr} {fd:FuncData} {ps ks:List Str} {sp:Sp} {E:XK} {x m:Str} {p pos apos kpos:Pos} {e o:Expr} {es:List Expr} {kws:List Keyword} {te ta:TE} {t tk:TA} {nm:Option Str}
structure KBinds (K:PySem.W.Frag) (fd:FuncData) (ps ks:List Str) (g:List Value->List Value->List Value) (gV:List V->List V->List V):Prop where
 to:∀ (s:Shared) (us ws:List Value),K.In s.heap->(g us ws).length=ps.length->BindsTo s fd ⟨us,ks.zip ws⟩ (ps.zip (g us ws))
 rel:∀ {vs:List V} {us:List Value} {zs:List V} {ws:List Value},Vals vs us->Vals zs ws->Vals (gV vs zs) (g us ws)
variable {g:List Value->List Value->List Value} {gV:List V->List V->List V}
end
structure FnScope (N P:List Str) (sc:Scope):Prop where
 kind:sc.kind=.function
 co:sc.isCoroutine=false
 gen:sc.isGenerator=false
 nd:N.Nodup
 pre:N.take P.length=P
 par:∀ x∈P,sc.names.lookup x=some .local\/sc.names.lookup x=some .cell
 nofree:∀ y∈sc.names,y.2≠.free
theorem N1 {kindOf:Str->Option NameKind} {x:Str}:∀ {binds:List (Str×Value)} {m:Str->Option Value},(∀ v,(x,v)∉binds)->bindL kindOf binds m x=m x
 | [],_,_=>rfl
 | (n,v)::r,m,h=>by
  unfold bindL
  rw[N1 fun w hw=>h w (List.mem_cons_of_mem _ hw)]
  split
  ·have:x≠n:=by rintro rfl;exact h v List.mem_cons_self
   simp[this]
  ·rfl
theorem N6 {kindOf:Str->Option NameKind} {x:Str}:∀ {binds:List (Str×Value)} {m:Str->Option Value},(∀ v,(x,v)∉binds)->bindC kindOf binds m x=m x
 | [],_,_=>rfl
 | (n,v)::r,m,h=>by
  unfold bindC
  rw[N6 fun w hw=>h w (List.mem_cons_of_mem _ hw)]
  split
  ·rfl
  ·have:x≠n:=by rintro rfl;exact h v List.mem_cons_self
   simp[this]
theorem Pe {kindOf:Str->Option NameKind} {x:Str} {v:Value}:∀ {P:List Str} {vs:List Value} {i:Nat} {m:Str->Option Value},P.Nodup->P[i]?=some x->vs[i]?=some v->kindOf x=some .local ->
  bindL kindOf (P.zip vs) m x=some v
 | [],_,_,_,_,h,_,_=>by simp at h
 | _::_,[],_,_,_,_,h,_=>by simp at h
 | p::P,w::vs,0,m,nd,h1,h2,hk=>by
  simp at h1 h2;subst h1;subst h2
  show bindL kindOf ((p,w)::P.zip vs) m p=_
  unfold bindL
  rw[N1 fun v hv=>(List.nodup_cons.mp nd).1 (List.of_mem_zip hv).1,if_pos hk]
  simp
 | p::P,w::vs,i+1,m,nd,h1,h2,hk=>by
  show bindL kindOf ((p,w)::P.zip vs) m x=_
  unfold bindL
  exact Pe (i:=i) (List.nodup_cons.mp nd).2 (by simpa using h1) (by simpa using h2) hk
theorem Od {kindOf:Str->Option NameKind} {x:Str} {v:Value}:∀ {P:List Str} {vs:List Value} {i:Nat} {m:Str->Option Value},P.Nodup->P[i]?=some x->vs[i]?=some v->kindOf x≠some .local ->
  bindC kindOf (P.zip vs) m x=some v
 | [],_,_,_,_,h,_,_=>by simp at h
 | _::_,[],_,_,_,_,h,_=>by simp at h
 | p::P,w::vs,0,m,nd,h1,h2,hk=>by
  simp at h1 h2;subst h1;subst h2
  show bindC kindOf ((p,w)::P.zip vs) m p=_
  unfold bindC
  rw[N6 fun v hv=>(List.nodup_cons.mp nd).1 (List.of_mem_zip hv).1,if_neg hk]
  simp
 | p::P,w::vs,i+1,m,nd,h1,h2,hk=>by
  show bindC kindOf ((p,w)::P.zip vs) m x=_
  unfold bindC
  exact Od (i:=i) (List.nodup_cons.mp nd).2 (by simpa using h1) (by simpa using h2) hk
def start (N:List Str) (vs:List V):St:=vs.map some++List.replicate (N.length - vs.length) none
def Di (CX:CXT) (P:Program) (w:World) (K:PySem.W.Frag) (mg:Str->Option Value) (base:Heap) (N:List Str) (qual:Str) (scope:Scope) (f:Addr) (cd:Value) (A:Around) (outer:List Env) (s:Shared) (H:Hp) (E:XK):Cx where
 prog:=P
 w:=w
 K:=K
 mg:=mg
 base:=base
 A:=A.deeper (envOfC qual scope s.heap.objs.size f cd)
 N:=N
 s₀:=s
 H₀:=H
 env:=envOfC qual scope s.heap.objs.size f cd
 outer:=outer
 stack:=envOfC qual scope s.heap.objs.size f cd::outer
 ex:=[]
 calm:=true
 fn:=fun _=>true
 pn:=[]
 xe:=fun e s'=>wpAny (model P w) (A.deeper (envOfC qual scope s.heap.objs.size f cd)) (leaving (envOfC qual scope s.heap.objs.size f cd) e) (fun _ s''=>CX outer H s E e s'') (fun e' s''=>CX outer H s E e' s'') s'
theorem Mi {sc:Scope} {n:Nat} {x:Str} (h:sc.names.lookup x=some .cell):∃ c,(cellsFrom n sc.names []).lookup x=some c:=by
 have q:=PySem.W.cellsFrom_some sc.names n [] (.inl h)
 exact Option.isSome_iff_exists.mp q
theorem Ss {CX:CXT} {P:Program} {w:World} {K:PySem.W.Frag} {mg:Str->Option Value} {base:Heap} {N ps:List Str} {qual:Str} {scope:Scope} {f:Addr} {cd:Value} {A:Around} {outer:List Env} {s s1:Shared} {H:Hp} {E:XK} {us:List Value} {vs:List V}
  (S:FnScope N ps scope) (hd:A.handled=none) (e0:Env0 P w K mg base A outer s H) (hl:vs.length=ps.length) (r:Vals vs us)
  (x:InCallC s s.heap.objs.size (bindL (envOfC qual scope s.heap.objs.size f cd).kindOf (ps.zip us) fun _=>none) (cellsFrom (s.heap.objs.size+1) scope.names []) (bindC (envOfC qual scope s.heap.objs.size f cd).kindOf (ps.zip us) fun _=>none) s1) :
  Inv (Di CX P w K mg base N qual scope f cd A outer s H E) [] (start N vs) H s1:=by
 have hpl:ps.length<=N.length:=by have:=congrArg List.length S.pre;rw[List.length_take] at this;lia
 obtain ⟨h1,tk,rfl,hk⟩:=x.done
 have noA:∀ b:Addr,b∉(Di CX P w K mg base N qual scope f cd A outer s H E).ex:=fun b z=>absurd (show b∈([]:List Addr) from z) (by simp)
 refine ⟨⟨e0.mod,S.kind,rfl,rfl,Nat.le_refl _,fun y z c h1 h2=>?_,fun y hy=>?_,fun y c _ h=>?_,fun _=>hd,Around.frames_deeper e0.frames,.inr ⟨rfl,rfl⟩,fun b z=>absurd z (noA b),e0.bs,e0.bsz,fun b _ _=>noA b,fun b z=>absurd z (noA b),e0.funs,e0.frf⟩,
  rfl,e0.bare,Un.kept hk,⟨_,x.toInCall.ns,fun i y v h1 h2 h3=>?_⟩,fun y c h=>⟨_,x.cell y c h⟩,e0.hok.fresh (Nat.le_refl _),fun y c h=>?_,fun p hp=>absurd (show p∈([]:List (Addr×Obj)) from hp) (by simp),e0.hok.kept hk,?_⟩
 ·exact name_of_addr x.apart (PySem.mem_of_lookup h1) (PySem.mem_of_lookup h2)
 ·have hy:scope.names.lookup y=some .cell\/scope.names.lookup y=some .free:=hy
  rcases hy with hy | hy
  ·exact Mi hy
  ·exact absurd rfl (S.nofree _ (PySem.mem_of_lookup hy))
 ·exact Nat.le_of_lt (x.above y c (PySem.mem_of_lookup h))
 ·have hi:i<vs.length:=by
   unfold start at h2
   by_cases hi:i<vs.length
   ·exact hi
   ·rw[List.getElem?_append_right (by simpa using hi)] at h2
    rw[List.getElem?_replicate] at h2
    split at h2<;>cases h2
  have ha:vs[i]?=some v:=by
   unfold start at h2
   rw[List.getElem?_append_left (by simpa using hi),List.getElem?_map] at h2
   cases e:vs[i]? with
   | none=>rw[e] at h2;cases h2
   | some a=>rw[e] at h2;cases h2;rfl
  obtain ⟨u,hu,rv⟩:=r.get ha
  have hp:ps[i]?=some y:=by
   rw[<-S.pre,List.getElem?_take_of_lt (by lia)];exact h1
  have ndP:ps.Nodup:=by rw[<-S.pre];exact S.nd.sublist (List.take_sublist _ _)
  refine ⟨u,rv,?_⟩
  rcases S.par y (List.mem_of_getElem? hp) with k | k
  ·exact .inl ⟨k,Pe ndP hp hu k⟩
  ·obtain ⟨c,e⟩:=Mi (n:=s.heap.objs.size+1) k
   refine .inr ⟨.inl k,c,e,?_⟩
   have q:=x.cell y c e
   rw[Od ndP hp hu (by show scope.names.lookup y≠_;rw[k];decide)] at q
   exact q
 ·exact e0.hok.fresh (Nat.le_of_lt (x.above y c (PySem.mem_of_lookup h)))
 ·unfold start
  show _=N.length
  rw[List.length_append,List.length_map,List.length_replicate]
  lia
theorem U5 {CX:CXT} {P:Program} {w:World} {K:PySem.W.Frag} {mg:Str->Option Value} {base:Heap} {k:Nat} {f:Addr} {name qual:Str} {params:Arguments} {body:List Stmt} {scope:Scope} {dV kV doc pm cdv ct oc:Value} {an od:Option Addr}
  {osl:Array (Option Value)} {N ps:List Str} {sp:Sp} (lk:K.lookup f=some ⟨oc,od,.func (PySem.W.fnOf name qual params body scope dV kV doc pm an cdv ct),osl⟩) (hcd:PySem.W.codeIn K cdv qual=true) (S:FnScope N ps scope)
  (len:∀ vs H Q E,sp vs H Q E->vs.length=ps.length)
  (hbody:∀ (A:Around) (outer:List Env) (s:Shared) (H:Hp) (vs:List V) (Q:VK) (E:XK),Room k (A.deeper (envOfC qual scope s.heap.objs.size f cdv))->sp vs H Q E ->
   ∃ t,PSs (Di CX P w K mg base N qual scope f cdv A outer s H E) body t/\t {nx:=fun _ H'=>Q .non H',rt:=Q} (start N vs) H) :
  FnOk P w K mg base CX (k+1) f (PySem.W.fnOf name qual params body scope dV kV doc pm an cdv ct) ps sp:=by
 refine ⟨len,fun A outer s H args us vs Q E hr e0 hb r hsp=>?_⟩
 have hl:=len _ _ _ _ hsp
 have KX:K.In s.heap:=e0.mod.kin.keeps fun b o e=>(e0.bs b o e).1
 have lim:s.heap.NoLimit:=e0.mod.nolimit.keeps fun b o e=>(e0.bs b o e).1
 have hkind:∀ y∈ps.zip us,scope.names.lookup y.1=some .local\/(scope.names.lookup y.1=some .cell/\((cellsFrom (s.heap.objs.size+1) scope.names []).lookup y.1).isSome=true):=fun ⟨n,v⟩ hy=>by
  rcases S.par n (List.of_mem_zip hy).1 with q | q
  ·exact .inl q
  ·exact .inr ⟨q,PySem.W.cellsFrom_some _ _ _ (.inl q)⟩
 refine codeAny_call_function hr.depth (KX _ _ lk) rfl S.co S.gen rfl (PySem.W.codeRec_of KX hcd) (hb _ _ _ _ ?_)
 refine wpAny_newFunctionEnv_cells S.kind hkind fun env he s1 x=>?_
 subst he
 refine ⟨lim.keeps x.toInCall.keep,codeAny_func ?_⟩
 obtain ⟨t,ht,hq⟩:=hbody A outer s H vs Q E (hr.deeper _) hsp
 have I:Inv (Di CX P w K mg base N qual scope f cdv A outer s H E) [] (start N vs) H s1:=Ss S hr.hd e0 hl r x
 refine wpAny_mono (ht [] s1 (start N vs) H _ I hq) (fun fl s' hs=>?_) fun e s' hs=>hs
 have fin:∀ {σ':St} {H':Hp} {v:V} {u:Value},Inv (Di CX P w K mg base N qual scope f cdv A outer s H E) [] σ' H' s'->RelV v u->Q v H'->CE outer P w H s Q u s':=
  fun {σ' H' v u} J rv q=>⟨v,H',J.os,J.bare,J.base,J.hok,rv,q⟩
 cases fl with
 | ret u=>
  obtain ⟨v,σ',H',J,rv,q⟩:=hs
  exact fin J rv q
 | next=>
  obtain ⟨σ',H',J,q⟩:=hs
  exact fin (v:=V.non) (u:=Value.none) J rfl q
 | brk=>
  obtain ⟨_,_,_,q⟩:=hs
  exact False.elim q
 | cont=>
  obtain ⟨_,_,_,q⟩:=hs
  exact False.elim q
section
variable {X:Cx} {x:Str} {p pos:Pos} {e:Expr} {es:List Expr} {t:TA} {id T:String} {r:List V->Hp->VK->Prop}
def tCB (r:List V->Hp->VK->Prop) (t:TA):TE:=fun σ H Q=>t σ H fun vs H1=>r vs H1 Q
theorem FB (hc:CallR X (.builtin id) r) (hg:Gl X x) (hm:X.mg x=none) (hv:bootBuiltins x=some (.builtin id)) (ha:PA X (e::es) t) (hn:x≠"__name__":=by decide) (hdb:(x == ("__debug__":Str))=false:=by decide)
  (he:starEach (e::es) X.env=(false,eval e X.env)::starEach es X.env:=by rfl) (hpl:(backTo pos (starEach es X.env)).any (·.1)=false:=by rfl):PE X (.Call (.Name x p) (e::es) [] pos) (tCB r t):=by
 intro pins s σ H Q I h
 refine wpAny_Call_Name_kw (Ee I hg hm hv ?_ hn hdb)
 exact PyProof.Rows.callWith_builtin1 (thn (ha pos pins s σ H _ I h) fun us s1 ⟨vs,H1,I1,r1,q1⟩=>hc pins s1 σ H1 vs us Q I1 r1 q1) he hpl
theorem YR (hc:CallR X (.type T) r) (hg:Gl X x) (hm:X.mg x=none) (hv:bootBuiltins x=some (.type T)) (ha:PA X (e::es) t) (hn:x≠"__name__":=by decide) (hdb:(x == ("__debug__":Str))=false:=by decide)
  (he:starEach (e::es) X.env=(false,eval e X.env)::starEach es X.env:=by rfl) (hpl:(backTo pos (starEach es X.env)).any (·.1)=false:=by rfl):PE X (.Call (.Name x p) (e::es) [] pos) (tCB r t):=by
 intro pins s σ H Q I h
 refine wpAny_Call_Name_kw (Ee I hg hm hv ?_ hn hdb)
 exact PyProof.Rows.callWith_type1 (thn (ha pos pins s σ H _ I h) fun us s1 ⟨vs,H1,I1,r1,q1⟩=>hc pins s1 σ H1 vs us Q I1 r1 q1) he hpl
end
end L2
namespace HT
open PySem PyProof.Rows
def lexLt:List Int->List Int->Bool
 | [],[]=>false
 | [],_::_=>true
 | _::_,[]=>false
 | x::xs,y::ys=>if x=y then lexLt xs ys else decide (x<y)
theorem Bz (x y:Int) (xs ys:List Int):lexLt (x::xs) (y::ys)=if x=y then lexLt xs ys else decide (x<y):=rfl
theorem Pl:lexLt [] []=false:=rfl
theorem LR (y:Int) (ys:List Int):lexLt [] (y::ys)=true:=rfl
theorem Kc (x:Int) (xs:List Int):lexLt (x::xs) []=false:=rfl
theorem U3 (A:Around) (s:Shared) (a:Int) (t:Tok) (c:Int) (u:Tok):∃ e,SeqAt.EqAt A s (.int a t) (.int c u) e/\(e=true↔a=c):=
 ⟨(a == c),SeqAt.EqAt.int_int a t c u,by simp⟩
theorem Tp (A:Around) (s:Shared) (a:Int) (t:Tok) (c:Int) (u:Tok) (prog:Program) (w:World) (E:Value->Shared->Prop) (Q:Value->Shared->Prop) (h:Q (.bool (decide (a<c))) s) :
  wpAny (model prog w) A (richCompare .Lt (.int a t) (.int c u)) Q E s:=
 (PyProof.Rows.lt_int h:wpAny (model prog w) A (compareOp .Lt (.int a t) (.int c u)) Q E s)
section
open PySem.SeqAt
open PySem.AutoSeq1 (wpAny_loadPart')
open PySem.MeetsSeq PySem.MeetsSeq2 PySem.MeetsSeq3
theorem RB (l b:Addr) (items items2:Array Value) (n n2:Nat) (dd dd2:Option Addr) (sl sl2:Array (Option Value)) (ns ms:List Int) (hi:IntsAre items.toList ns) (hj:IntsAre items2.toList ms) :
  Meets (Builtin.«tuple.__lt__» ⟨[.ref l,.ref b],[]⟩)
   (fun _ R s=>s.heap.get? l=some {cls:=.type "tuple",dict:=dd,data:=.seq items n,slots:=sl}/\s.heap.get? b=some {cls:=.type "tuple",dict:=dd2,data:=.seq items2 n2,slots:=sl2} /\
    R (.ok (.ret (.bool (lexLt ns ms)))) s):=
 .of_wp fun prog w A R s h=>by
  obtain ⟨hp,g,d,tk,os⟩:=s;obtain ⟨hl,hb,h⟩:=h
  have f2:=AutoSeq1.sub_tuple_tuple
  have z1:items.size=ns.length:=by rw[<-hi.length];simp
  have z2:items2.size=ms.length:=by rw[<-hj.length];simp
  wp_walk using wpAny_loadPart' hl,wpAny_loadPart' hb,wpAny_forIn_list _ (fun rest b s'=>b.1=none/\s'=⟨hp,g,d,tk,os⟩/\∃ (vs ws:List Value) (ns' ms':List Int),rest=vs.zip ws /\
   IntsAre vs ns'/\IntsAre ws ms'/\ns'.length+items2.size=ms'.length+items.size/\R (.ok (.ret (.bool (lexLt ns' ms')))) ⟨hp,g,d,tk,os⟩) _
  case turn=>
   rintro ⟨y,x⟩ rest b s' ⟨hb',rfl,vs,ws,ns',ms',hz,hvi,hwi,hlen,hR⟩
   cases hvi with
   | nil=>rw[List.zip_nil_left] at hz;cases hz
   | cons a t hvi'=>
    cases hwi with
    | nil=>rw[List.zip_nil_right] at hz;cases hz
    | cons c u hwi'=>
     rw[List.zip_cons_cons] at hz
     injection hz with hyx hrest
     injection hyx with hy hx
     subst hy hx
     rw[Bz] at hR
     simp only[List.length_cons] at hlen
     obtain ⟨e,he,hiff⟩:=U3 A.in1 ⟨hp,g,d,tk,os⟩ a t c u
     refine wpAny_bind (he prog w _ _ ?_)
     cases e with
     | true=>
      rw[if_pos (hiff.mp rfl)] at hR
      wp_walk
      exact ⟨rfl,rfl,_,_,_,_,hrest,hvi',hwi',by lia,hR⟩
     | false=>
      rw[if_neg (fun q=>absurd (hiff.mpr q) Bool.false_ne_true)] at hR
      have hri:=Tp A.in1 ⟨hp,g,d,tk,os⟩ a t c u prog w
      wp_walk using hri
      exact ⟨_,rfl,by simpa using hR⟩
  case fin=>
   rintro ⟨b1,b2⟩ s' ⟨hb',rfl,vs,ws,ns',ms',hz,hvi,hwi,hlen,hR⟩
   simp only at hb'
   subst hb'
   have hv:lexLt ns' ms'=decide (items.size<items2.size):=by
    cases hvi with
    | nil=>
     cases hwi with
     | nil=>
      simp only[List.length_nil] at hlen
      rw[Pl]
      exact (decide_eq_false (by lia)).symm
     | cons c u hw=>
      simp only[List.length_nil,List.length_cons] at hlen
      rw[LR]
      exact (decide_eq_true (by lia)).symm
    | cons a t hv=>
     cases hwi with
     | nil=>
      simp only[List.length_nil,List.length_cons] at hlen
      rw[Kc]
      exact (decide_eq_false (by lia)).symm
     | cons c u hw=>
      rw[List.zip_cons_cons] at hz
      cases hz
   rw[hv] at hR
   wp_walk
   exact ⟨_,rfl,by simpa [Builtin.Tuple.tupleCompareSizes] using hR⟩
  case h=>
   exact ⟨rfl,rfl,items.toList,items2.toList,ns,ms,rfl,hi,hj,by lia,h⟩
end
section
variable {prog:Program} {w:World} {A:Around} {E:Value->Shared->Prop} {s:Shared}
theorem Wt {l b:Addr} {items items2:Array Value} {ns ms:List Int} {Q:Value->Shared->Prop} (hl:IsTup s.heap l items) (hb:IsTup s.heap b items2) (hi:IntsAre items.toList ns) (hj:IntsAre items2.toList ms)
  (hu:A.units<cLine) (h:Q (.bool (lexLt ns ms)) s):wpAny (model prog w) A (compareOp .Lt (.ref l) (.ref b)) Q E s:=by
 obtain ⟨⟨cls,dd,data,sl⟩,ho,hc,n,hd⟩:=id hl
 obtain ⟨⟨cls2,dd2,data2,sl2⟩,ho2,hc2,n2,hd2⟩:=id hb
 simp only at hc hd hc2 hd2
 subst hc hd hc2 hd2
 exact richCompare_meets_room (op:=.Lt) ⟨_,ho,rfl⟩ ⟨_,ho2,rfl⟩ PySem.F.slot_tuple_lt PySem.F.entry_tuple_lt (PySem.F.args_tuple_lt_2 _ _) (RB l b items items2 n n2 dd dd2 sl sl2 ns ms hi hj)
  ⟨ho,ho2,show Value.bool (lexLt ns ms)≠Value.notImplemented/\Q (.bool (lexLt ns ms)) s from ⟨(fun x=>nomatch x),h⟩⟩ hu
def sIx (n d:Nat):Option Int->Nat
 | none=>d
 | some v=>if v<0 then (v+(n:Int)).toNat else min v.toNat n
theorem Qw (n d:Nat) (hd:d<=n) (o:Option Int):sIx n d o<=n:=by
 cases o with
 | none=>exact hd
 | some v=>
  show (if v<0 then (v+(n:Int)).toNat else min v.toNat n)<=n
  by_cases hv:v<0
  ·rw[if_pos hv];lia
  ·rw[if_neg hv];exact Nat.min_le_right _ _
theorem Kx (v:Int) (n d:Nat):(if v<0 then max (v+(n:Int)) 0 else min v (n:Int))=((sIx n d (some v):Nat):Int):=by
 show (if v<0 then max (v+(n:Int)) 0 else min v (n:Int))=(((if v<0 then (v+(n:Int)).toNat else min v.toNat n):Nat):Int)
 by_cases hv:v<0
 ·simp only[if_pos hv];lia
 ·simp only[if_neg hv];lia
theorem Ud (lo hi:Option Int) (n:Nat):Builtin.Slice.sliceAdjust lo hi 1 (n:Int)=(((sIx n 0 lo:Nat):Int),((sIx n n hi:Nat):Int)):=by
 have h1:¬((1:Int)<0):=by lia
 unfold Builtin.Slice.sliceAdjust
 simp only[h1,if_false]
 refine Prod.ext ?_ ?_
 ·cases lo with
  | none=>rfl
  | some v=>exact Kx v n 0
 ·cases hi with
  | none=>rfl
  | some v=>exact Kx v n n
theorem YN (i j:Nat):Builtin.Slice.slicePlaces (i:Int) (j:Int) 1=j - i:=by
 unfold Builtin.Slice.slicePlaces
 have h1:(1:Int) > 0:=by lia
 simp only[h1,if_true,Int.ediv_one]
 split<;>lia
theorem Ni {v:Value} {o:Option Int} {Q:Option Int->Shared->Prop} (p:IsPart v o) (h:Q o s):wpAny (model prog w) A (Builtin.Slice.slicePartIndex v) Q E s:=by
 cases p with
 | none=>exact slicePart_none h
 | int i t=>exact slicePart_int h
theorem Wj {sl:Addr} {vl vu:Value} {lo hi:Option Int} {n:Nat} {Q:Int×Int×Nat->Shared->Prop} (hs:s.heap.IsSliceOf sl vl vu .none) (pl:IsPart vl lo) (pu:IsPart vu hi)
  (h:Q (((sIx n 0 lo:Nat):Int),1,sIx n n hi - sIx n 0 lo) s):wpAny (model prog w) A (Builtin.Slice.sliceApplied (.ref sl) (pure (n:Int))) Q E s:=by
 obtain ⟨os,hos,hcs,hds⟩:=id hs
 unfold Builtin.Slice.sliceApplied Builtin.Slice.sliceFields
 refine wpAny_bind (wpAny_bind (wpAny_field hos hds (x:=vl) rfl (wpAny_bind (wpAny_field hos hds (x:=vu) rfl (wpAny_bind (wpAny_field hos hds (x:=.none) rfl (wpAny_pure ?_)))))))
 refine wpAny_bind (slicePart_none ?_)
 show wpAny _ _ (if ((1:Int) == 0)=true then _ else _) _ _ s
 rw[if_neg (by decide)]
 refine wpAny_bind (Ni pl (wpAny_bind (Ni pu (wpAny_bind (wpAny_pure ?_)))))
 show wpAny _ _ (match Builtin.Slice.sliceAdjust lo hi 1 (n:Int) with | (lo,hi)=>pure (lo,(1:Int),Builtin.Slice.slicePlaces lo hi 1)) _ _ s
 rw[Ud lo hi n]
 show wpAny _ _ (pure (((sIx n 0 lo:Nat):Int),(1:Int),Builtin.Slice.slicePlaces ((sIx n 0 lo:Nat):Int) ((sIx n n hi:Nat):Int) 1)) _ _ s
 rw[YN]
 exact wpAny_pure h
theorem Rm (xs:Array Value) (i k:Nat):((List.range k).filterMap fun (m:Nat)=>xs[((i:Int)+(m:Int) * 1).toNat]?).toArray=((xs.toList.drop i).take k).toArray:=by
 have e:(fun (m:Nat)=>xs[((i:Int)+(m:Int) * 1).toNat]?)=fun m=>xs[i+m]?:=by
  funext m
  have:((i:Int)+(m:Int) * 1).toNat=i+m:=by lia
  rw[this]
 rw[e]
 have:=pick_run xs i k
 rw[List.filterMap_map] at this
 have e2:((fun x=>xs[x]?)∘fun x=>i+x)=fun m=>xs[i+m]?:=rfl
 rw[e2] at this
 rw[this]
theorem TN {t sl:Addr} {items:Array Value} {vl vu:Value} {lo hi:Option Int} {Q:Value->Shared->Prop} (ht:IsTup s.heap t items) (hs:s.heap.IsSliceOf sl vl vu .none) (pl:IsPart vl lo) (pu:IsPart vu hi)
  (hw:¬(sIx items.size 0 lo=0/\sIx items.size items.size hi=items.size))
  (h:Q (.ref s.heap.objs.size) {s with heap:=s.heap.push {cls:=.type "tuple",data:=.seq ((items.toList.drop (sIx items.size 0 lo)).take (sIx items.size items.size hi - sIx items.size 0 lo)).toArray}})
  (hsz:items.size<=sizeLine):wpAny (model prog w) A (getItem (.ref t) (.ref sl)) Q E s:=by
 have htake:sizeOk (.seq ((items.toList.drop (sIx items.size 0 lo)).take (sIx items.size items.size hi - sIx items.size 0 lo)).toArray):=by
  show ((items.toList.drop (sIx items.size 0 lo)).take (sIx items.size items.size hi - sIx items.size 0 lo)).toArray.size<=sizeLine
  rw[List.size_toArray,List.length_take,List.length_drop,Array.length_toList]
  lia
 have hj:sIx items.size items.size hi<=items.size:=Qw _ _ (Nat.le_refl _) hi
 obtain ⟨os,hos,hcs,hds⟩:=id hs
 have hTs:s.TypeIs (.ref sl) "slice":=⟨os,hos,hcs⟩
 unfold getItem
 try with_reducible refine wpAny_holding ?_
 first | refine wpAny_bind (wpAny_pure ?_) | skip
 refine wpAny_bind (wpAny_sequenceKey ht.typeIs (by decide) ?_)
 refine wpAny_bind (wpAny_callSpecial?_slot (name:=Str.ofString "__getitem__") ht.typeIs PyProof.Rows.slot_tuple_getitem
  (wpAny_call_entry PyProof.Rows.slot_tuple_getitem ht.typeIs entry_tuple_getitem ?_ (args_tuple_getitem _ _)))
 show wpAny _ _ (Builtin.Tuple.tupleItemsOf (.ref t) >>= _) _ _ s
 refine wpAny_bind (tupleItemsOf_ ht ?_)
 refine wpAny_bind (wpAny_typeOf hTs ?_)
 rw[if_pos (by decide)]
 refine wpAny_bind (Wj hs pl pu ?_)
 have hno:¬((((sIx items.size 0 lo:Nat):Int) == 0 && (1:Int) == 1 && (sIx items.size items.size hi - sIx items.size 0 lo) == items.size)=true):=by
  intro q
  rw[Bool.and_eq_true,Bool.and_eq_true] at q
  have q1:((sIx items.size 0 lo:Nat):Int)=0:=eq_of_beq q.1.1
  have q2:sIx items.size items.size hi - sIx items.size 0 lo=items.size:=eq_of_beq q.2
  exact hw ⟨by lia,by lia⟩
 show wpAny _ _ (if (((sIx items.size 0 lo:Nat):Int) == 0 && (1:Int) == 1 && (sIx items.size items.size hi - sIx items.size 0 lo) == items.size)=true then _ else _) _ _ s
 rw[if_neg hno,Rm]
 first
  | exact wpAny_bind (m:=Builtin.Tuple.tupleExact _) (wpAny_newObj_type (wpAny_pure ⟨_,rfl,wpAny_pure h⟩) htake)
  | exact wpAny_bind (m:=Builtin.Tuple.tupleExact _) (wpAny_newObj_type (wpAny_bind (wpAny_pure (wpAny_pure ⟨_,rfl,wpAny_pure h⟩))) htake)
  | exact wpAny_bind (wpAny_bind (m:=Builtin.Tuple.tupleExact _) (wpAny_newObj_type (wpAny_pure (wpAny_pure ⟨_,rfl,wpAny_pure h⟩)) htake))
  | exact wpAny_bind (wpAny_bind (m:=Builtin.Tuple.tupleExact _) (wpAny_newObj_type (wpAny_pure ⟨_,rfl,wpAny_pure h⟩) htake))
end
end HT
namespace L2
open PySem PySem.Spec PyProof.Rows
abbrev TO:=St->Hp->(Option Int->Hp->Prop)->Prop
def PO (X:Cx) (e:Option Expr) (t:TO):Prop:=
 ∀ (pins:List (Addr×Obj)) (s:Shared) (σ:St) (H:Hp) (Q:Option Int->Hp->Prop),Inv X pins σ H s->t σ H Q ->
  wpAny (model X.prog X.w) X.A (evalPart e X.env) (fun u s'=>∃ o H',Inv X pins σ H' s'/\IsPart u o/\Q o H') X.xe s
def QL:TO:=fun _ H Q=>Q none H
def Ws (t:TE):TO:=fun σ H Q=>t σ H fun x H1=>∃ i,x=.int i/\Q (some i) H1
theorem intsAre_of {ns:List Int}:∀ {us:List Value},Vals (ns.map V.int) us->IntsAre us ns:=by
 induction ns with
 | nil=>intro us r;rw[List.map_nil] at r;cases r;exact .nil
 | cons n ns ih=>
  intro us r
  rw[List.map_cons] at r
  cases r with
  | cons r1 r2=>
   obtain ⟨t,e⟩:=r1
   subst e
   exact .cons n t (ih r2)
section
variable {X:Cx} {e:Expr} {te:TE} {lo hi:Option Expr} {tl th:TO} {pos p2:Pos}
theorem OI:PO X none QL:=by
 intro pins s σ H Q I h
 rw[evalPart_none]
 exact wpAny_pure ⟨none,H,I,.none,h⟩
theorem Pp (h:PE X e te):PO X (some e) (Ws te):=by
 intro pins s σ H Q I hw
 rw[evalPart_some]
 refine thn (h pins s σ H _ I hw) fun u s1 hh_=>?_
 obtain ⟨x,H1,I1,r1,q1⟩:=hh_
 obtain ⟨i,rfl,q⟩:=q1
 obtain ⟨t,rfl⟩:=r1
 exact ⟨some i,H1,I1,.int i t,q⟩
def SlR (X:Cx) (r:V->Option Int->Option Int->Hp->VK->Prop):Prop:=
 ∀ (pins:List (Addr×Obj)) (s:Shared) (σ:St) (H:Hp) (x:V) (v vl vu:Value) (lo hi:Option Int) (sl:Addr) (Q:VK),Inv X pins σ H s->RelV x v->s.heap.IsSliceOf sl vl vu .none->IsPart vl lo->IsPart vu hi->r x lo hi H Q ->
  ∃ T id,typeLookup (.type T) "__getitem__"=pure (some (.builtin id))/\s.TypeIs v T/\wpAny (model X.prog X.w) X.A (getItem v (.ref sl)) (EP X pins σ Q) X.xe s
theorem SlR.or {r r':V->Option Int->Option Int->Hp->VK->Prop} (h:SlR X r) (h':SlR X r'):SlR X (fun x lo hi H Q=>r x lo hi H Q\/r' x lo hi H Q):=by
 intro pins s σ H x v vl vu lo hi sl Q I rx hs pl pu q
 rcases q with q | q
 ·exact h pins s σ H x v vl vu lo hi sl Q I rx hs pl pu q
 ·exact h' pins s σ H x v vl vu lo hi sl Q I rx hs pl pu q
def tSl (r:V->Option Int->Option Int->Hp->VK->Prop) (te:TE) (tl th:TO):TE:=fun σ H Q=>te σ H fun x H1=>tl σ H1 fun l H2=>th σ H2 fun u H3=>r x l u H3 Q
theorem N4 {r:V->Option Int->Option Int->Hp->VK->Prop} (hr:SlR X r) (he:PE X e te) (hl:PO X lo tl) (hu:PO X hi th):PE X (.Subscript e (.Slice lo hi none p2) pos) (tSl r te tl th):=by
 intro pins s σ H Q I h
 refine Subscript_ (thn (he pins s σ H _ I h) fun v s1 hh_=>?_)
 obtain ⟨x,H1,I1,r1,q1⟩:=hh_
 refine wpAny_Slice (thn (hl pins s1 σ H1 _ I1 q1) fun vl s2 ⟨l,H2,I2,pl,q2⟩=>thn (hu pins s2 σ H2 _ I2 q2) fun vu s3 hh_=>?_)
 obtain ⟨u,H3,I3,pu,q3⟩:=hh_
 rw[evalPart_none]
 refine wpAny_pure ?_
 have I4:Inv X pins σ H3 {s3 with heap:=s3.heap.push {cls:=.type "slice",data:=.fields #[vl,vu,.none]}}:=I3.kept (t':=s3.toks) fun b ob q=>Heap.get?_push_of_some _ q
 obtain ⟨T,id,hT,ht,hg⟩:=hr pins {s3 with heap:=s3.heap.push {cls:=.type "slice",data:=.fields #[vl,vu,.none]}} σ H3 x v vl vu l u s3.heap.objs.size Q I4 r1 (Heap.IsSliceOf.new ..) pl pu q3
 show wpAny (model X.prog X.w) X.A (subscriptTail e (.Slice lo hi none p2) v (.ref s3.heap.objs.size)) (EP X pins σ Q) X.xe {s3 with heap:=s3.heap.push {cls:=.type "slice",data:=.fields #[vl,vu,.none]}}
 exact tail_any (ops:=[.ref s3.heap.objs.size,v]) ht hT hg (by with_unfolding_all rfl)
def Dm (xs:List V) (lo hi:Option Int):List V:=(xs.drop (HT.sIx xs.length 0 lo)).take (HT.sIx xs.length xs.length hi - HT.sIx xs.length 0 lo)
theorem Kt (xs:List V) (lo hi:Option Int):(Dm xs lo hi).length<=xs.length:=by
 unfold Dm
 rw[List.length_take,List.length_drop]
 lia
def Lj (K:PySem.W.Frag):V->Option Int->Option Int->Hp->VK->Prop:=fun x lo hi H Q=>∃ a xs,x=.ref a/\SqT K H a xs /\
 ¬(HT.sIx xs.length 0 lo=0/\HT.sIx xs.length xs.length hi=xs.length)/\∀ p,H p=none->Q (.ref p) (upd H p (.tup (Dm xs lo hi)))
theorem XW:SlR X (Lj X.K):=by
 intro pins s σ H x v vl vu lo hi sl Q I rx hs pl pu h
 obtain ⟨a,xs,rfl,hx,hw,q⟩:=h
 cases rx
 obtain ⟨its,r,ht,hz⟩:=I.tuple hx
 have hlen:its.toArray.size=xs.length:=by rw[List.size_toArray];exact r.length.symm
 refine ⟨"tuple",_,PyProof.Rows.slot_tuple_getitem.lookup,ht.typeIs,?_⟩
 refine HT.TN ht hs pl pu (by rw[hlen];exact hw) ?_ (by rw[hlen];exact hz)
 rw[hlen]
 refine ⟨.ref s.heap.objs.size,_,I.laid (t':=s.toks) (o:=.tup (Dm xs lo hi)) (fun b ob q=>Heap.get?_push_of_some _ q) (Nat.le_refl _) ?_,rfl,q _ (I.hok.fresh (Nat.le_refl _))⟩
 exact ⟨Nat.le_trans (Kt xs lo hi) hz,_,(r.drop (HT.sIx xs.length 0 lo)).take (HT.sIx xs.length xs.length hi - HT.sIx xs.length 0 lo),IsTup.new _ _⟩
def OF (K:PySem.W.Frag):R2:=fun x y H Q=>∃ a b ns ms,x=.ref a/\y=.ref b/\SqT K H a (ns.map V.int)/\SqT K H b (ms.map V.int)/\Q (.bl (HT.lexLt ns ms)) H
theorem RC (hu:X.A.units<cLine):OpR X (compareOp .Lt) (OF X.K):=by
 intro pins s σ H x y v u Q I rx ry h
 obtain ⟨a,b,ns,ms,rfl,rfl,ha,hb,q⟩:=h
 cases rx
 cases ry
 obtain ⟨its,r1,p1,_⟩:=I.tuple ha
 obtain ⟨its2,r2,p2,_⟩:=I.tuple hb
 have i1:IntsAre its.toArray.toList ns:=intsAre_of r1
 have i2:IntsAre its2.toArray.toList ms:=intsAre_of r2
 exact HT.Wt p1 p2 i1 i2 hu ⟨.bl (HT.lexLt ns ms),H,I,rfl,q⟩
end
def ixN (n:Nat) (i:Int):Option Nat:=if 0<=i then (if i<n then some i.toNat else none) else if -(n:Int)<=i then some (i+n).toNat else none
def atI {α:Type} (xs:List α) (i:Int):Option α:=(ixN xs.length i).bind fun j=>xs[j]?
theorem Nt {n:Nat} {i:Int} {j:Nat} (h:ixN n i=some j):seqIndex? i n=some j/\j<n/\-(n:Int)<=i/\i<n:=by
 unfold ixN at h
 by_cases h0:0<=i
 ·rw[if_pos h0] at h
  by_cases h1:i<n
  ·rw[if_pos h1] at h
   have e:i.toNat=j:=Option.some.inj h
   exact ⟨by rw[seqIndex_of h0 h1,e],by lia,by lia,h1⟩
  ·rw[if_neg h1] at h;cases h
 ·rw[if_neg h0] at h
  by_cases h1:-(n:Int)<=i
  ·rw[if_pos h1] at h
   have e:(i+n).toNat=j:=Option.some.inj h
   exact ⟨by rw[seqIndex_neg (by lia) h1,e],by lia,h1,by lia⟩
  ·rw[if_neg h1] at h;cases h
theorem Fv {α:Type} {xs:List α} {i:Int} {v:α} (h:atI xs i=some v):∃ j,seqIndex? i xs.length=some j/\xs[j]?=some v/\j<xs.length/\-(xs.length:Int)<=i/\i<xs.length:=by
 unfold atI at h
 cases e:ixN xs.length i with
 | none=>rw[e] at h;cases h
 | some j=>
  rw[e] at h
  obtain ⟨h1,h2,h3,h4⟩:=Nt e
  exact ⟨j,h1,h,h2,h3,h4⟩
theorem Ji {α:Type} {xs:List α} {j:Nat} {v:α} (h:xs[j]?=some v):atI xs (j:Int)=some v:=by
 have hj:j<xs.length:=(List.getElem?_eq_some_iff.mp h).1
 have e:ixN xs.length (j:Int)=some j:=by
  unfold ixN
  rw[if_pos (by lia),if_pos (by lia)];simp
 unfold atI;rw[e];exact h
def Jn (b:Expr):Prop:=∀ o i,subscripted b false o i=operate [o,i] (getItem o i)
def IxR (X:Cx) (r:R2):Prop:=
 ∀ (value slice:Expr) (pins:List (Addr×Obj)) (s:Shared) (σ:St) (H:Hp) (x y:V) (v u:Value) (Q:VK),Inv X pins σ H s->RelV x v->RelV y u->r x y H Q ->
  subscripted slice false v u=operate [v,u] (getItem v u)->wpAny (model X.prog X.w) X.A (subscriptTail value slice v u) (EP X pins σ Q) X.xe s
def MtR (X:Cx) (id:String) (r:V->List V->Hp->VK->Prop):Prop:=
 ∀ (pins:List (Addr×Obj)) (s:Shared) (σ:St) (H:Hp) (x:V) (xs:List V) (v:Value) (us:List Value) (Q:VK),Inv X pins σ H s->RelV x v->Vals xs us->r x xs H Q ->
  wpAny (model X.prog X.w) X.A (call (.builtin id) (v::us)) (EP X pins σ Q) X.xe s
section
variable {X:Cx} {a b:Expr} {ta tb:TE} {pos:Pos}
theorem IxR.or {r r':R2} (h:IxR X r) (h':IxR X r'):IxR X (fun x y H Q=>r x y H Q\/r' x y H Q):=by
 intro value slice pins s σ H x y v u Q I rx ry q hs
 rcases q with q | q
 ·exact h value slice pins s σ H x y v u Q I rx ry q hs
 ·exact h' value slice pins s σ H x y v u Q I rx ry q hs
theorem R9 {r:R2} (hr:IxR X r) (ha:PE X a ta) (hb:PE X b tb) (hs:Jn b):PE X (.Subscript a b pos) (tOp r ta tb):=by
 intro pins s σ H Q I h
 exact Subscript_ (K9 ha hb I h fun v u s2 x y H2 I2 rx ry q=>hr a b pins s2 σ H2 x y v u Q I2 rx ry q (hs _ _))
def PR (K:PySem.W.Frag):R2:=fun x y H Q=>∃ p xs i v,x=.ref p/\y=.int i/\SqL K H p xs/\atI xs i=some v/\Q v H
def OJ (K:PySem.W.Frag):R2:=fun x y H Q=>∃ p xs i v,x=.ref p/\y=.int i/\SqT K H p xs/\atI xs i=some v/\Q v H
def L9:R2:=fun x y H Q=>∃ z i c,x=.str z/\y=.int i/\z.length<=sizeLine/\atI z.cps.toList i=some c/\Q (.str ⟨#[c]⟩) H
theorem ix_list:IxR X (PR X.K):=by
 intro value slice pins s σ H x y v u Q I rx ry h hs
 obtain ⟨p,xs,i,z,rfl,rfl,hq,he,q⟩:=h
 cases rx
 obtain ⟨t,rfl⟩:=ry
 obtain ⟨its,r,pl,hz⟩:=I.list hq
 obtain ⟨j,h1,h2,h3,h4,h5⟩:=Fv he
 obtain ⟨w,ew,rw'⟩:=r.get h2
 have hl:=r.length
 have hn:=EK
 have fin:EP X pins σ Q w s:=⟨z,H,I,rw',q⟩
 by_cases h0:0<=i
 ·have hj:i.toNat=j:=by
   rw[seqIndex_of h0 h5] at h1
   exact Option.some.inj h1
  exact item_listR pl.isList h0 (by lia) (by rw[hj];simpa using ew) fin hs
 ·have hj:(i+(its.toArray.size:Int)).toNat=j:=by
   rw[seqIndex_neg (by lia) h4] at h1
   rw[List.size_toArray,<-hl]
   exact Option.some.inj h1
  exact subscriptTail_builtinR (x:=w) pl.isList.typeIs slot_list_getitem.lookup
   (wpAny_getItem_list_neg (Q:=fun r s'=>r=w/\EP X pins σ Q r s') pl.isList (by lia) (by rw[List.size_toArray]<;>lia) (by lia) (by rw[hj];simpa using ew) ⟨rfl,fin⟩) hs
theorem ix_tup:IxR X (OJ X.K):=by
 intro value slice pins s σ H x y v u Q I rx ry h hs
 obtain ⟨p,xs,i,z,rfl,rfl,hq,he,q⟩:=h
 cases rx
 obtain ⟨t,rfl⟩:=ry
 obtain ⟨its,r,pl,hz⟩:=I.tuple hq
 obtain ⟨j,h1,h2,h3,h4,h5⟩:=Fv he
 obtain ⟨w,ew,rw'⟩:=r.get h2
 have hl:=r.length
 have hn:=EK
 have fin:EP X pins σ Q w s:=⟨z,H,I,rw',q⟩
 exact subscriptTail_builtinR (x:=w) pl.typeIs slot_tuple_getitem.lookup
  (getItem_tuple (j:=j) (Q:=fun r s'=>r=w/\EP X pins σ Q r s') pl (by lia) (by lia) (by rw[List.size_toArray,<-hl];exact h1) (by simpa using ew) ⟨rfl,fin⟩) hs
theorem Sk:IxR X L9:=by
 intro value slice pins s σ H x y v u Q I rx ry h hs
 obtain ⟨z,i,c,rfl,rfl,hz,he,q⟩:=h
 obtain ⟨t,rfl⟩:=rx
 obtain ⟨t',rfl⟩:=ry
 obtain ⟨j,h1,h2,h3,h4,h5⟩:=Fv he
 have hl:z.cps.toList.length=z.length:=by simp[Str.length]
 rw[hl] at h1 h4 h5
 have hn:=EK
 exact tail_any (typeIs_str s z t) slot_str_getitem.lookup (getItem_str (c:=c) (by
  have e1:decide (i < -(2 ^ 63:Int))=false:=decide_eq_false (by lia)
  have e2:decide (i>=2 ^ 63)=false:=decide_eq_false (by lia)
  rw[e1,e2,Bool.or_false]) (by rw[h1];simpa using h2) ⟨.str ⟨#[c]⟩,H,I.tok _,⟨_,rfl⟩,q⟩) hs
def rIx (K:PySem.W.Frag):R2:=fun x y H Q=>PR K x y H Q\/OJ K x y H Q\/L9 x y H Q
theorem Qu:IxR X (rIx X.K):=ix_list.or (ix_tup.or Sk)
theorem P9 (its:List Value) (n j:Nat) (u:Value):Obj.mapSeq (·.setIfInBounds j u) {cls:=.type "list",data:=.seq its.toArray n}={cls:=.type "list",data:=.seq (its.set j u).toArray n}:=by
 simp[Obj.mapSeq]
theorem Inv.lst {pins:List (Addr×Obj)} {σ:St} {H:Hp} {s:Shared} {p:Addr} {xs:List V} (I:Inv X pins σ H s) (h:H p=some (.lst xs)) :
  ∃ (its:List Value) (n:Nat),Vals xs its/\s.heap.get? p=some {cls:=.type "list",data:=.seq its.toArray n}/\xs.length<=sizeLine:=by
 obtain ⟨z,its,n,r,e⟩:=I.hok p _ h
 exact ⟨its,n,r,e,z⟩
theorem Inv.lstUpd {pins:List (Addr×Obj)} {σ:St} {H:Hp} {s:Shared} {p:Addr} {xs ys:List V} {its its':List Value} {n n':Nat} {f:Obj->Obj} (I:Inv X pins σ H s) (h:H p=some (.lst xs))
  (ho:s.heap.get? p=some {cls:=.type "list",data:=.seq its.toArray n}) (hf:f {cls:=.type "list",data:=.seq its.toArray n}={cls:=.type "list",data:=.seq its'.toArray n'}) (r:Vals ys its') (hz:ys.length<=sizeLine) (t:Nat) :
  Inv X pins σ (upd H p (.lst ys)) {s with heap:=s.heap.update p f,toks:=t}:=by
 have e:(s.heap.update p f).get? p=some {cls:=.type "list",data:=.seq its'.toArray n'}:=by
  rw[Heap.get?_update_self f ho (by rw[hf]<;>rfl),hf]
 refine I.write (x:=p) (e:=p) (by rw[h];trivial) (.inl rfl) (fun b u hb q=>(Heap.get?_update_other _ _ (Ne.symm hb)).trans q) ⟨_,e⟩ ?_
 exact ⟨hz,its',n',r,e⟩
def WX:V->V->V->Hp->(Hp->Prop)->Prop:=fun o i v H Q=>∃ p xs k j,o=.ref p/\i=.int k/\H p=some (.lst xs)/\ixN xs.length k=some j/\Q (upd H p (.lst (xs.set j v)))
theorem set_list:Mf X WX:=by
 intro pins s σ H o i v ov iv u Q I ro ri rv h
 obtain ⟨p,xs,k,j,rfl,rfl,hp,hj,q⟩:=h
 cases ro
 obtain ⟨t,rfl⟩:=ri
 obtain ⟨its,n,r,ho,hz⟩:=I.lst hp
 obtain ⟨h1,h2,h3,h4⟩:=Nt hj
 have hl:=r.length
 have hn:=EK
 have I':Inv X pins σ (upd H p (.lst (xs.set j v))) {s with heap:=s.heap.update p (Obj.mapSeq (·.setIfInBounds j u))}:=
  I.lstUpd hp ho (P9 its n j u) (r.set rv j) (by rw[List.length_set];exact hz) s.toks
 by_cases h0:0<=k
 ·have hk:k.toNat=j:=by
   rw[seqIndex_of h0 h4] at h1
   exact Option.some.inj h1
  exact PySem.W.ki_setAt ho h0 (by lia) (by rw[List.size_toArray,<-hl];exact h4) (by rw[hk];exact ⟨_,I',q⟩)
 ·have hk:(k+(its.toArray.size:Int)).toNat=j:=by
   rw[seqIndex_neg (by lia) h3] at h1
   rw[List.size_toArray,<-hl]
   exact Option.some.inj h1
  exact PySem.W.ki_setBack ho (by lia) (by rw[List.size_toArray,<-hl];exact h3) (by lia) (by rw[hk];exact ⟨_,I',q⟩)
theorem Yd (lo hi:Option Int) (n:Nat):(sliceBounds lo hi none n).1=((HT.sIx n 0 lo:Nat):Int)/\(sliceBounds lo hi none n).2.1=((HT.sIx n n hi:Nat):Int)/\(sliceBounds lo hi none n).2.2=1:=by
 refine ⟨?_,?_,rfl⟩
 ·cases lo with
  | none=>simp[sliceBounds,HT.sIx]
  | some i=>
   simp only[sliceBounds,HT.sIx,Option.getD_none,show (1:Int) > 0 by decide,if_true]
   by_cases h:i<0
   ·simp only[h,if_true]<;>lia
   ·simp only[h,if_false]<;>lia
 ·cases hi with
  | none=>simp[sliceBounds,HT.sIx]
  | some i=>
   simp only[sliceBounds,HT.sIx,Option.getD_none,show (1:Int) > 0 by decide,if_true]
   by_cases h:i<0
   ·simp only[h,if_true]<;>lia
   ·simp only[h,if_false]<;>lia
theorem ZC (its:List Value) (lo hi:Option Int):slicePick its.toArray lo hi none=((its.drop (HT.sIx its.length 0 lo)).take (HT.sIx its.length its.length hi - HT.sIx its.length 0 lo)).toArray:=by
 obtain ⟨h1,h2,h3⟩:=Yd lo hi its.toArray.size
 unfold slicePick
 rw[h1,h2,h3]
 simp only[sliceRange_one,pick_run,List.size_toArray]<;>rfl
def Rl (K:PySem.W.Frag):V->Option Int->Option Int->Hp->VK->Prop:=fun x lo hi H Q=>∃ a xs,x=.ref a/\SqL K H a xs/\∀ p,H p=none->Q (.ref p) (upd H p (.lst (Dm xs lo hi)))
theorem sl_list:SlR X (Rl X.K):=by
 intro pins s σ H x v vl vu lo hi sl Q I rx hs pl pu h
 obtain ⟨a,xs,rfl,hx,q⟩:=h
 cases rx
 obtain ⟨its,r,ht,hz⟩:=I.list hx
 have hlen:=r.length
 refine ⟨"list",_,slot_list_getitem.lookup,ht.isList.typeIs,?_⟩
 refine wpAny_getItem_list_slice ht.isList hs pl pu .none (by simp) ?_ (by rw[List.size_toArray]<;>lia)
 rw[ZC,<-hlen]
 refine ⟨.ref s.heap.objs.size,_,I.laid (t':=s.toks) (o:=.lst (Dm xs lo hi)) (fun b ob q=>Heap.get?_push_of_some _ q) (Nat.le_refl _) ?_,rfl,q _ (I.hok.fresh (Nat.le_refl _))⟩
 exact ⟨Nat.le_trans (Kt xs lo hi) hz,_,0,(r.drop (HT.sIx xs.length 0 lo)).take (HT.sIx xs.length xs.length hi - HT.sIx xs.length 0 lo),Heap.get?_push_size _ rfl⟩
theorem CallR.or {f:Value} {r r':List V->Hp->VK->Prop} (h:CallR X f r) (h':CallR X f r'):CallR X f (fun xs H Q=>r xs H Q\/r' xs H Q):=by
 intro pins s σ H xs us Q I rs q
 rcases q with q | q
 ·exact h pins s σ H xs us Q I rs q
 ·exact h' pins s σ H xs us Q I rs q
def tyV (K:PySem.W.Frag) (T:String) (x:V) (H:Hp):Prop:=match x with
 | .str _=>T="str"
 | .int _=>T="int"
 | .ref p=>(T="list"/\∃ xs,SqL K H p xs)\/(T="tuple"/\∃ o,K.lookup p=some o/\o.cls=.type "tuple"/\o.dict=none) \/
   (T="dict"/\((∃ kvs,H p=some (.dK kvs))\/∃ kvs,H p=some (.dT kvs)))\/(T="set"/\∃ S n,H p=some (.set S n))
 | _=>False
theorem Nd {pins:List (Addr×Obj)} {σ:St} {H:Hp} {s:Shared} {T:String} {x:V} {v:Value} (I:Inv X pins σ H s) (r:RelV x v) (ty:tyV X.K T x H) :
  s.TypeIs v T/\∀ a,v=.ref a->∃ ob,s.heap.get? a=some ob/\ob.dict=none:=by
 cases x with
 | str z=>
  obtain ⟨t,rfl⟩:=r
  cases (show T="str" from ty)
  exact ⟨typeIs_str s z t,fun _ e=>nomatch e⟩
 | int i=>
  obtain ⟨t,rfl⟩:=r
  cases (show T="int" from ty)
  exact ⟨typeIs_int s i t,fun _ e=>nomatch e⟩
 | ref p=>
  cases r
  rcases ty with ⟨rfl,xs,hq⟩ | ⟨rfl,o,hk,hc,hd⟩ | ⟨rfl,hk⟩ | ⟨rfl,S,n,hk⟩
  ·obtain ⟨its,_,pl,_⟩:=I.list hq
   refine ⟨pl.isList.typeIs,fun a e=>?_⟩
   cases e
   obtain ⟨o,n,e,c,hd,_⟩:=pl
   exact ⟨o,e,hd⟩
  ·refine ⟨⟨o,I.kIn p o hk,hc⟩,fun a e=>?_⟩
   cases e
   exact ⟨o,I.kIn _ o hk,hd⟩
  ·have z:∃ o,s.heap.get? p=some o/\o.ExactDict:=by
    rcases hk with ⟨kvs,hk⟩ | ⟨kvs,hk⟩
    ·obtain ⟨_,_,_,_,o,_,_,e,ex,_⟩:=I.hok p _ hk
     exact ⟨o,e,ex⟩
    ·obtain ⟨_,_,_,_,o,_,_,e,ex,_⟩:=I.hok p _ hk
     exact ⟨o,e,ex⟩
   obtain ⟨o,e,ex⟩:=z
   refine ⟨⟨o,e,ex.1⟩,fun a e2=>?_⟩
   cases e2
   exact ⟨o,e,ex.2.1⟩
  ·obtain ⟨o,_,_,_,e,ex,_⟩:=I.hok p _ hk
   refine ⟨⟨o,e,ex.1⟩,fun a e2=>?_⟩
   cases e2
   exact ⟨o,e,ex.2.1⟩
 | _=>exact False.elim ty
def Tt (K:PySem.W.Frag) (T:String) (r:V->List V->Hp->VK->Prop) (to:TE):TE:=fun σ H Q=>to σ H fun x H1=>tyV K T x H1/\r x [] H1 Q
def tBM (K:PySem.W.Frag) (T:String) (r:V->List V->Hp->VK->Prop) (to:TE) (t:TA):TE:=fun σ H Q=>to σ H fun x H1=>tyV K T x H1/\t σ H1 fun xs H2=>r x xs H2 Q
variable {o e:Expr} {es:List Expr} {to:TE} {t:TA} {name:Str} {apos cpos:Pos} {T id:String} {r:V->List V->Hp->VK->Prop}
theorem Um (pa:PlainAttrs T) (slot:Slot T name id) (hty:typeOf (.builtin id)=pure (.type "method_descriptor")) (hm:MtR X id r) (ho:PE X o to)
  (hbase:attributeBase o name X.env (eval o X.env)=eval o X.env:=by rfl) (hline:(apos.endLine == cpos.line)=true:=by rfl):PE X (.Call (.Attribute o name apos) [] [] cpos) (Tt X.K T r to):=by
 intro pins s σ H Q I h
 refine wpAny_Call_method0_late hbase hline (thn (ho pins s σ H _ I h) fun v s1 hh_=>?_)
 obtain ⟨x,H1,I1,r1,ty,q1⟩:=hh_
 obtain ⟨h1,h2⟩:=Nd I1 r1 ty
 exact ⟨T,id,pa,slot,hty,h1,h2,Calls.callWith_builtin rfl (PySem.evalArgs_none (hm pins s1 σ H1 x [] v [] Q I1 r1 .nil q1))⟩
theorem Pd (pa:PlainAttrs T) (slot:Slot T name id) (hty:typeOf (.builtin id)=pure (.type "method_descriptor")) (hm:MtR X id r) (ho:PE X o to) (ha:PA X (e::es) t)
  (hbase:attributeBase o name X.env (eval o X.env)=eval o X.env:=by rfl)
  (hfew:((backTo cpos (starEach (e::es) X.env)).all (fun x=>!x.1) && (backToKw cpos (keywordEach [] X.env)).all (fun x=>x.1.isSome)
   && decide ((e::es).length+([]:List Keyword).length+(if ([]:List Keyword).isEmpty then 0 else 1)<30))=true:=by rfl)
  (hline:(apos.endLine == cpos.line)=true:=by rfl) (hs:starEach (e::es) X.env=(false,eval e X.env)::starEach es X.env:=by rfl) (hplain:(backTo cpos (starEach es X.env)).any (·.1)=false:=by rfl) :
  PE X (.Call (.Attribute o name apos) (e::es) [] cpos) (tBM X.K T r to t):=by
 intro pins s σ H Q I h
 refine wpAny_Call_method_late hbase hfew hline rfl (thn (ho pins s σ H _ I h) fun v s1 hh_=>?_)
 obtain ⟨x,H1,I1,r1,ty,q1⟩:=hh_
 obtain ⟨h1,h2⟩:=Nd I1 r1 ty
 refine ⟨T,id,pa,slot,hty,h1,h2,?_⟩
 have hA:=ha cpos pins s1 σ H1 _ I1 q1
 rw[hs] at hA ⊢
 refine Calls.callWith_builtin (by show (false || (backTo cpos (starEach es X.env)).any (·.1))=false;rw[hplain]<;>rfl) (Calls.evalArgs_plain ?_)
 exact thn hA fun us s2 ⟨vs,H2,I2,r2,q2⟩=>hm pins s2 σ H2 x vs v us Q I2 r1 r2 q2
end
def MtM (X:Cx) (id:String) (r:V->List V->Hp->VK->Prop):Prop:=
 ∀ (pins:List (Addr×Obj)) (s:Shared) (σ:St) (H:Hp) (x:V) (xs:List V) (v:Value) (us:List Value) (Q:VK),Inv X pins σ H s->RelV x v->Vals xs us->r x xs H Q ->
  wpAny (model X.prog X.w) X.A (call (.builtin id) (v::us)) (EP X pins σ Q) X.xe s
theorem Vals.one:∀ {x:V} {us:List Value},Vals [x] us->∃ u,us=[u]/\RelV x u
 | _,_,.cons r .nil=>⟨_,rfl,r⟩
theorem Vals.zero:∀ {us:List Value},Vals [] us->us=[]
 | _,.nil=>rfl
theorem Vals.dropLast {xs:List V} {us:List Value} (h:Vals xs us):Vals xs.dropLast us.dropLast:=by
 induction h with
 | nil=>exact .nil
 | cons r t ih=>
  cases t with
  | nil=>exact .nil
  | cons q t'=>exact .cons r ih
theorem Vals.reverse {xs:List V} {us:List Value} (h:Vals xs us):Vals xs.reverse us.reverse:=by
 induction h with
 | nil=>exact .nil
 | cons r t ih=>rw[List.reverse_cons,List.reverse_cons];exact Vals.append ih (.cons r .nil)
theorem Vals.rep {xs:List V} {us:List Value} (h:Vals xs us):∀ k:Nat,Vals (List.replicate k xs).flatten (List.replicate k us).flatten
 | 0=>.nil
 | k+1=>by
  rw[List.replicate_succ,List.replicate_succ,List.flatten_cons,List.flatten_cons]
  exact Vals.append h (Vals.rep h k)
theorem VH {α:Type} (l:List α):l.eraseIdx (l.length - 1)=l.dropLast:=by
 induction l with
 | nil=>rfl
 | cons a r ih=>
  cases r with
  | nil=>rfl
  | cons b r=>
   have e:(a::b::r).length - 1=((b::r).length - 1)+1:=by
    have h1:(a::b::r).length=r.length+2:=rfl
    have h2:(b::r).length=r.length+1:=rfl
    lia
   rw[e,List.eraseIdx_cons_succ,ih]
   all_goals rfl
theorem foldl_rep (its:List Value):∀ (k:Nat) (acc:List Value),
  List.foldl (fun x1 x2=>x1++x2) acc.toArray (List.replicate k its.toArray)=(acc++(List.replicate k its).flatten).toArray
 | 0,acc=>by simp
 | k+1,acc=>by
  have e:acc.toArray++its.toArray=(acc++its).toArray:=by simp
  have e2:(acc++its)++(List.replicate k its).flatten=acc++(List.replicate (k+1) its).flatten:=by
   rw[List.replicate_succ,List.flatten_cons,List.append_assoc]
  rw[<-e2,<-foldl_rep its k (acc++its),<-e,List.replicate_succ,List.foldl_cons]
section
variable {X:Cx} {pins:List (Addr×Obj)} {σ:St} {H:Hp} {s:Shared} {l b:Addr} {xs ys zs:List V}
theorem Inv.lset {its its':List Value} {n:Nat} {f:Array Value->Array Value} {t':Nat} (I:Inv X pins σ H s) (hH:H l=some (.lst xs))
  (e:s.heap.get? l=some {cls:=.type "list",data:=.seq its.toArray n}) (hf:f its.toArray=its'.toArray) (hv:Vals ys its') (hz:ys.length<=sizeLine) :
  Inv X pins σ (upd H l (.lst ys)) {s with heap:=s.heap.update l (Obj.mapSeq f),toks:=t'}:=by
 have q:=PySem.IsL.update e f
 rw[hf] at q
 refine I.write (x:=l) (e:=l) (by rw[hH];exact trivial) (.inl rfl) (fun b' u hb hu=>(Heap.get?_update_other s.heap (Obj.mapSeq f) (Ne.symm hb)).trans hu) ⟨_,q⟩ ?_
 exact ⟨hz,its',_,hv,q⟩
theorem Inv.lnew {its:List Value} {t':Nat} (I:Inv X pins σ H s) (hv:Vals ys its) (hz:ys.length<=sizeLine) :
  Inv X pins σ (upd H s.heap.objs.size (.lst ys)) {s with heap:=s.heap.push {cls:=.type "list",data:=.seq its.toArray},toks:=t'}:=
 I.laid (fun _ _ q=>Heap.get?_push_of_some _ q) (Nat.le_refl _) ⟨hz,its,0,hv,Heap.get?_push_size _ rfl⟩
theorem Inv.fresh (I:Inv X pins σ H s):H s.heap.objs.size=none:=I.hok.fresh (Nat.le_refl _)
theorem Inv.lstM (I:Inv X pins σ H s) (hH:H l=some (.lst xs)):xs.length<=sizeLine/\∃ (its:List Value) (n:Nat),Vals xs its/\xs.length=its.length/\s.heap.get? l=some {cls:=.type "list",data:=.seq its.toArray n}:=by
 obtain ⟨z,its,n,r,e⟩:=I.hok l _ hH
 exact ⟨z,its,n,r,r.length,e⟩
theorem Nz {n:Nat} (h:n<=sizeLine):Builtin.List.listTooLong n=false:=by
 unfold Builtin.List.listTooLong
 exact decide_eq_false (by lia)
end
section
variable {X:Cx}
def MU:V->List V->Hp->VK->Prop:=fun x vs H Q=>∃ l xs y,x=.ref l/\vs=[y]/\H l=some (.lst xs)/\xs.length<sizeLine/\Q .non (upd H l (.lst (xs++[y])))
theorem La:MtM X "list.append" MU:=by
 intro pins s σ H x vs v us Q I rx rv h
 obtain ⟨l,xs,y,rfl,rfl,hH,hz,q⟩:=h
 cases rx
 obtain ⟨u,rfl,ru⟩:=rv.one
 obtain ⟨z,its,n,r,hl,e⟩:=I.lstM hH
 refine call_meets F.slot_list_append ⟨_,e,rfl⟩ F.entry_list_append (F.args_list_append_2 _ _) (PySem.list_append l its.toArray n u (by rw[List.size_toArray];lia)) ⟨e,?_⟩
 refine ⟨.non,_,I.lset (its':=its++[u]) hH e (by simp) (r.append (.cons ru .nil)) ?_,rfl,q⟩
 rw[List.length_append,List.length_singleton]
 lia
def Qv:V->List V->Hp->VK->Prop:=fun x vs H Q=>∃ l b xs zs,x=.ref l/\vs=[.ref b]/\H l=some (.lst xs)/\H b=some (.lst zs)/\xs.length+zs.length<=sizeLine/\Q .non (upd H l (.lst (xs++zs)))
theorem UN:MtM X "list.extend" Qv:=by
 intro pins s σ H x vs v us Q I rx rv h
 obtain ⟨l,b,xs,zs,rfl,rfl,hH,hB,hz,q⟩:=h
 cases rx
 obtain ⟨u,rfl,ru⟩:=rv.one
 cases ru
 obtain ⟨z,its,n,r,hl,e⟩:=I.lstM hH
 obtain ⟨z2,its2,n2,r2,hl2,e2⟩:=I.lstM hB
 have hsz:its.toArray.size+its2.toArray.size<=sizeLine:=by rw[List.size_toArray,List.size_toArray];lia
 have hlong:¬(!its.toArray.isEmpty && Builtin.List.listTooLong (its.toArray.size+its2.toArray.size))=true:=by
  rw[Nz hsz,Bool.and_false]
  exact Bool.false_ne_true
 refine call_meets F.slot_list_extend ⟨_,e,rfl⟩ F.entry_list_extend (F.args_list_extend_2 _ _)
  (AutoSeq1.list_extend_list_list_0 l its.toArray n b its2.toArray n2 hlong (by rw[List.size_toArray];lia) (by lia)) ⟨e,e2,?_⟩
 refine ⟨.non,_,I.lset (its':=its++its2) hH e (by simp) (r.append r2) ?_,rfl,q⟩
 rw[List.length_append]
 lia
def VF:V->List V->Hp->VK->Prop:=fun x vs H Q=>∃ l xs y,x=.ref l/\vs=[]/\H l=some (.lst xs)/\xs[xs.length - 1]?=some y/\Q y (upd H l (.lst xs.dropLast))
theorem Qg:MtM X "list.pop" VF:=by
 intro pins s σ H x vs v us Q I rx rv h
 obtain ⟨l,xs,y,rfl,rfl,hH,hy,q⟩:=h
 cases rx
 have hus:=rv.zero
 subst hus
 obtain ⟨z,its,n,r,hl,e⟩:=I.lstM hH
 obtain ⟨u,hu,ru⟩:=r.get hy
 have hy':its.toArray[its.toArray.size - 1]?=some u:=by
  show its.toArray[its.length - 1]?=some u
  rw[<-Array.getElem?_toList,<-hl]
  exact hu
 refine call_meets F.slot_list_pop ⟨_,e,rfl⟩ F.entry_list_pop (F.args_list_pop_1 _) (MeetsSeq.list_pop_last l its.toArray n u hy' (by rw[List.size_toArray];lia)) ⟨e,?_⟩
 refine ⟨y,_,I.lset (its':=its.dropLast) hH e ?_ r.dropLast ?_,ru,q⟩
 ·show its.toArray.eraseIdxIfInBounds (its.toArray.size - 1)=its.dropLast.toArray
  rw[List.size_toArray,List.eraseIdxIfInBounds_toArray,VH]
 ·rw[List.length_dropLast]
  lia
def IL:R2:=fun x y H Q=>∃ l b xs zs,x=.ref l/\y=.ref b/\H l=some (.lst xs)/\H b=some (.lst zs)/\xs.length+zs.length<=sizeLine/\∀ p,H p=none->Q (.ref p) (upd H p (.lst (xs++zs)))
theorem JG:OpR X (binaryOp .Add) IL:=by
 intro pins s σ H x y v u Q I rx ry h
 obtain ⟨l,b,xs,zs,rfl,rfl,hH,hB,hz,q⟩:=h
 cases rx
 cases ry
 obtain ⟨z,its,n,r,hl,e⟩:=I.lstM hH
 obtain ⟨z2,its2,n2,r2,hl2,e2⟩:=I.lstM hB
 refine PySem.P.add_list e e2 ?_ (by rw[List.size_toArray,List.size_toArray];lia)
 have ea:its.toArray++its2.toArray=(its++its2).toArray:=by simp
 rw[ea]
 exact ⟨.ref _,_,I.lnew (t':=s.toks) (r.append r2) (by rw[List.length_append];lia),rfl,q _ I.fresh⟩
def Kq:R2:=fun x y H Q=>∃ l k xs,x=.ref l/\y=.int k/\H l=some (.lst xs)/\-(2 ^ 63)<=k/\k<2 ^ 63/\xs.length * k.toNat<=sizeLine /\
 ∀ p,H p=none->Q (.ref p) (upd H p (.lst (List.replicate k.toNat xs).flatten))
theorem len_rep {α:Type} (xs:List α) (k:Nat):(List.replicate k xs).flatten.length=k * xs.length:=by
 induction k with
 | zero=>simp
 | succ k ih=>rw[List.replicate_succ,List.flatten_cons,List.length_append,ih,Nat.succ_mul,Nat.add_comm]
theorem R7:OpR X (binaryOp .Mult) Kq:=by
 intro pins s σ H x y v u Q I rx ry h
 obtain ⟨l,k,xs,rfl,rfl,hH,h1,h2,hz,q⟩:=h
 cases rx
 obtain ⟨t,rfl⟩:=ry
 obtain ⟨z,its,n,r,hl,e⟩:=I.lstM hH
 have hlen:its.toArray.size * k.toNat<=sizeLine:=by rw[List.size_toArray,<-hl];exact hz
 have hcap:¬its.toArray.size * k.toNat > (2 ^ 63 - 1) / 8:=by
  have:(sizeLine:Nat)<=(2 ^ 63 - 1) / 8:=by decide
  lia
 have hfit:¬(!Builtin.List.listFitsIndex k)=true:=by
  rw[fitsIndex_both h1 h2]
  exact Bool.false_ne_true
 have hlong:¬Builtin.List.listTooLong (its.toArray.size * k.toNat)=true:=by
  rw[Nz hlen]
  exact Bool.false_ne_true
 have hnew:List.foldl (fun x1 x2=>x1++x2) #[] (List.replicate (if its.toArray.isEmpty=true then 0 else k.toNat) its.toArray)=(List.replicate k.toNat its).flatten.toArray:=by
  have f0:∀ m:Nat,List.foldl (fun x1 x2=>x1++x2) #[] (List.replicate m its.toArray)=(List.replicate m its).flatten.toArray:=fun m=>by
   have:=foldl_rep its m []
   rw[List.nil_append] at this
   exact this
  rw[f0]
  cases its with
  | nil=>simp
  | cons a r'=>rw[if_neg (by simp)]
 refine wpAny_binaryOp_repeat_ref (T:="list") (U:="int") (by decide) ⟨_,e,rfl⟩ (fun s'=>typeIs_int s' k t) noFill_list_mul F.fills_int_mul F.slot_int_rmul repeat_list F.slot_int_index.lookup
  (call_meets F.slot_int_rmul (typeIs_int s k t) F.entry_int_rmul (F.args_int_rmul_2 _ _) (int___rmul___int_list k t l its.toArray n)
   ⟨e,rfl,⟨_,e,rfl⟩,call_meets F.slot_list_mul ⟨_,e,rfl⟩ F.entry_list_mul (F.args_list_mul_2 _ _) (AutoListH.list___mul___list_int_3 l its.toArray n k t hfit hcap hlong) ⟨e,?_⟩⟩)
 rw[hnew]
 exact ⟨.ref _,_,I.lnew (t':=s.toks) (r.rep k.toNat) (by rw[len_rep,Nat.mul_comm];exact hz),rfl,q _ I.fresh⟩
end
section
variable {prog:Program} {w:World} {A:Around} {E:Value->Shared->Prop} {s:Shared}
end
section
variable {X:Cx}
end
end L2
namespace Att
open PySem PySem.W PySem.Calls PyProof.Rows
theorem RZ {P:Params} {h:Heap}:∀ (ns:List Int) (vs:List Value),WellAll P h vs (ns.map WData.int)->IntsAre vs ns:=by
 intro ns
 induction ns with
 | nil=>
  intro vs w
  rw[List.map_nil] at w
  cases w
  exact .nil
 | cons n ns ih=>
  intro vs w
  rw[List.map_cons] at w
  cases w with
  | cons a b=>
   cases a
   exact .cons _ _ (ih _ b)
theorem RI {l:OpenLaw} {n:Nat} (hn:l.most=some n) {P:Params} {h:Heap} {args:List WData} {vals:List Value}
  (hpre:l.row.toRowW.claim.pre args=true) (hwl:WellAll P h vals args) :
  ∃ a vs ns,vals=[Value.ref a]/\args=[WData.list (ns.map WData.int)]/\h.get? a=some {cls:=.type "list",data:=.seq vs.toArray}/\IntsAre vs ns/\ns.length<=n:=by
 have hsh:WShape.hasAll [] args [.list .int]=true:=(pre_splitW hpre).1
 have hc:l.pre.holds [] {args:=args}=true:=(pre_splitW hpre).2
 obtain ⟨d,r,rfl,h1,h2⟩:=hasAllW_cons hsh
 obtain rfl:=hasAllW_nil h2
 obtain ⟨xs,rfl,h3⟩:=hasW_list h1
 obtain ⟨ns,rfl⟩:=items_int h3
 have hlen:ns.length<=n:=by
  unfold OpenLaw.pre at hc
  have h4:(WTm.not (.lt (.lit (.int (n:Int))) (.len (.arg 0)))).holds [] {args:=[.list (ns.map .int)]}=true:=by
   have h4:=(holds_andW hc).1
   rw[hn] at h4
   exact h4
  have h5:=condW_of h4 (w_not (w_lt w_lit (w_len_list (w_arg rfl))))
  rw[List.length_map] at h5
  refine Nat.le_of_not_lt fun q=>?_
  have q':(n:Int)<((ns.length:Nat):Int):=by lia
  first
   | (rw[decide_eq_true q'] at h5;exact absurd h5 (by decide))
   | (simp at h5;lia)
 cases hwl with
 | cons w1 w2=>
  cases w2
  cases w1 with
  | list ho hall=>exact ⟨_,_,ns,rfl,rfl,ho,RZ ns _ hall,hlen⟩
theorem QI (l:OpenLaw) (args:List WData):l.row.toRowW.claim.post args (.bool true) args=true:=
 postW_of (r:=l.row.toRowW) (X:=(true == true))
  (show WShape.has [] (.bool true) .bool=true by first | rfl | decide | simp[WShape.has,WShape.arms,WShape.armsAll])
  (show (WTm.eq .res (.lit (.bool true))).value [] {args:=args,res:=some (.bool true),after:=args}=some (.bool (true == true)) from w_eq_bool (w_res rfl) w_lit) rfl
theorem SC {l:OpenLaw} {n:Nat} {q:Program} {loose:List Str} {XP:(Str->Option Value)->Heap->Prop} {YP:World->Heap->Prop} {d:DefRec}
  (hn:l.most=some n) (hdf:d.params.defaults=[])
  (call:∀ (w:World) (s₀ s₁:Shared) (mg mb:Str->Option Value) (fa:Addr) (o:Obj) (pm cd doc:Value) (a:Addr) (vs:List Value) (ns:List Int),
   Ground q loose [] XP w s₀ mg mb s₁.heap->YP w s₁.heap ->
   s₁.heap.get? fa=some o->o.data=.func (docDef d.name d.params d.body d.scope pm cd doc)->s₁.heap.CodeRec cd d.name->mg d.name=some (.ref fa) ->
   s₁.heap.get? a=some {cls:=.type "list",data:=.seq vs.toArray}->IntsAre vs ns->ns.length<=n->s₁.gens=#[] ->
   codeAny (model l.prog w) callerA (.call (.ref fa) ⟨[.ref a],[]⟩) (fun r s'=>r=.ok (.ret (.bool true))/\OldK s₁.heap s'.heap/\s'.os=s₁.os/\AllBare s'.gens) s₁) :
  WalkO q loose XP YP l.row.toRowW d [] (fun f vs=>PySem.call f vs):=by
 intro w s₀ s₁ mg mb G Y fa o pm cd doc dV kV ho hd hcd hD hmg hg args vals as hpre hlay hrd hwl hlo
 obtain rfl:dV=.none:=Dflts.none hD hdf
 obtain rfl:kV=.none:=Dflts.noKw hD
 obtain ⟨a,vs,ns,rfl,rfl,hobj,hints,hlen⟩:=RI hn hpre hwl
 refine enter_call (codeAny_mono (call w s₀ s₁ mg mb fa o pm cd doc a vs ns G Y ho (fd_plain hd) hcd hmg hobj hints hlen hg) fun r s' hq=>?_)
 obtain ⟨rfl,h2,h3,h4⟩:=hq
 exact ⟨.inl ⟨.bool true,.bool true,[],rfl,fun _=>rfl,.bool true,QI l _,fun _=>⟨List.Pairwise.nil,fun _ hm=>(nomatch hm)⟩⟩,h2,h3,h4⟩
section
variable {prog:Program} {w:World} {A:Around} {E:Value->Shared->Prop} {s:Shared} {K:Frag}
end
end Att
namespace L2
open PySem PySem.Spec PyProof.Rows
theorem Hz:∀ {vs:List Value} {ns:List Int},IntsAre vs ns->Vals (ns.map V.int) vs
 | _,_,.nil=>.nil
 | _,_,.cons n t h=>.cons ⟨t,rfl⟩ (Hz h)
def KM (H:Hp):Prop:=∀ b,H b=none\/∃ o xs,H b=some (.frz o (.lst xs))
theorem Ub {P:Program} {w:World} {K:PySem.W.Frag} {mg mb:Str->Option Value} {CX:CXT} {k:Nat} {fa a:Addr} {fd:FuncData} {x:Str} {sp:Sp} {s₁:Shared} {vs:List Value} {ns:List Int}
  (KX:K.In s₁.heap) (hns:s₁.heap.Ns mainGlobals mg) (hb:s₁.heap.Ns builtinsNs mb) (hbb:∀ x:Str,x≠"__name__"->mb x=bootBuiltins x) (hlim:s₁.heap.NoLimit) (hg:s₁.gens=#[])
  (ha:s₁.heap.get? a=some {cls:=.type "list",data:=.seq vs.toArray}) (hi:IntsAre vs ns) (hl:ns.length<=sizeLine) (hr:Room k callerA)
  (F:∀ base:Heap,K.In base->base.Ns mainGlobals mg->FnOk P w K mg base CX k fa fd [x] sp) (hbind:∀ (s:Shared) (u:Value),BindsTo s fd ⟨[u],[]⟩ [(x,u)])
  (hsp:∀ H:Hp,KM H->SqL K H a (ns.map V.int)->sp [.ref a] H (fun v _=>v=.bl true) fun _ _ _=>False)
  (hCX:∀ H e s',CX [] H s₁ (fun _ _ _=>False) e s'->False) :
  codeAny (model P w) callerA (.call (.ref fa) ⟨[.ref a],[]⟩) (fun r s'=>r=.ok (.ret (.bool true))/\OldK s₁.heap s'.heap/\s'.os=s₁.os/\AllBare s'.gens) s₁:=by
 have rv:=Hz hi
 have lenV:=hi.length
 have core:∀ H:Hp,KM H->SqL K H a (ns.map V.int)->HOk P w H s₁.heap->(∀ b,H b≠none->b=a)->(H a≠none->K.lookup a=none) ->
   codeAny (model P w) callerA (.call (.ref fa) ⟨[.ref a],[]⟩) (fun r s'=>r=.ok (.ret (.bool true))/\OldK s₁.heap s'.heap/\s'.os=s₁.os/\AllBare s'.gens) s₁:=by
  intro H hO hS hok hA hK
  have base_of:∀ {b:Addr} {o:Obj},s₁.heap.get? b=some o->H b=none->(DB s₁.heap H).get? b=some o:=fun e n=>Rb e n
  have noA:∀ {b:Addr} {o:Obj} {es:Array DictEntry} {ep:Nat},s₁.heap.get? b=some o->o.data=.dict es ep->H b=none:=fun {b o es ep} e d=>by
   cases q:H b with
   | none=>rfl
   | some u=>
    have e':b=a:=hA b (by rw[q];simp)
    subst e'
    rw[ha] at e;cases e
    have d':Data.seq vs.toArray _=Data.dict es ep:=d
    cases d'
  have nsK:∀ {b:Addr} {m:Str->Option Value},s₁.heap.Ns b m->(DB s₁.heap H).Ns b m:=fun {b m} ⟨o,es,ep,e,d,r⟩=>⟨o,es,ep,base_of e (noA e d),d,r⟩
  have hKb:K.In (DB s₁.heap H):=fun b o e=>base_of (KX b o e) (by
   cases q:H b with
   | none=>rfl
   | some u=>
    have e':b=a:=hA b (by rw[q];simp)
    subst e'
    rw[hK (by rw[q];simp)] at e;cases e)
  have hM:Mod K mg (DB s₁.heap H):=⟨hKb,nsK hns,⟨mb,nsK hb,hbb⟩,let ⟨mc,h1,h2⟩:=hlim;⟨mc,nsK h1,h2⟩⟩
  have e0:Env0 P w K mg (DB s₁.heap H) callerA [] s₁ H:=⟨rfl,hM,fun b o e=>ZI e,Nat.le_of_eq (Yb _ _),trivial,fun b hb=>absurd (show b∈([]:List Addr) from hb) (by simp),hok,.of_eq hg⟩
  refine codeAny_mono ((F _ hKb (nsK hns)).run callerA [] s₁ H ⟨[.ref a],[]⟩ [.ref a] [.ref a] _ _ hr e0 (hbind s₁ (.ref a)) (.cons rfl .nil) (hsp H hO hS)) fun r s' h=>?_
  cases r with
  | error e=>exact (hCX H e s' h).elim
  | ok fl=>
   cases fl with
   | next=>exact False.elim h
   | brk=>exact False.elim h
   | cont=>exact False.elim h
   | ret u=>
    obtain ⟨v,H',os,bare,un,hok',r',q⟩:=h
    have q':v=.bl true:=q
    subst q'
    obtain rfl:u=Value.bool true:=r'
    refine ⟨rfl,OldK.of_keep fun b o e=>?_,os,bare⟩
    cases q:H b with
    | none=>exact un.keep b o e q (by intro z;exact absurd (show b∈([]:List Addr) from z) (by simp)) (by simp)
    | some u=>
     rcases hO b with z | ⟨ob,xs,z⟩
     ·rw[q] at z;cases z
     ·have z2:=un.frzs b ob _ z
      obtain ⟨e1,_⟩:=hok b _ z
      obtain ⟨e2,_⟩:=hok' b _ z2
      rw[e] at e1;cases e1
      exact e2
 cases hk:K.lookup a with
 | some o=>
  have e:=KX a o hk
  rw[ha] at e
  cases e
  refine core (fun _=>none) (fun _=>.inl rfl) (.inr ⟨_,vs.toArray,_,hk,rfl,rfl,rfl,by rw[List.size_toArray,lenV];exact hl,by simpa using rv⟩) (fun b u z=>by have z':(none:Option HO)=some u:=z;cases z') (fun b z=>absurd rfl z) fun z=>absurd rfl z
 | none=>
  refine core (fun b=>if b=a then some (.frz {cls:=.type "list",data:=.seq vs.toArray} (.lst (ns.map V.int))) else none) (fun b=>?_) (.inl (.inr ⟨{cls:=.type "list",data:=.seq vs.toArray},if_pos rfl⟩)) (fun b u z=>?_) (fun b z=>?_) fun _=>hk
  ·by_cases hb:b=a
   ·exact .inr ⟨_,_,if_pos hb⟩
   ·exact .inl (if_neg hb)
  ·by_cases hb:b=a
   ·have z':=(if_pos hb).symm.trans z
    cases z'
    subst hb
    exact ⟨ha,by rw[List.length_map];exact hl,vs,_,rv,ha⟩
   ·have z':=(if_neg hb).symm.trans z
    cases z'
  ·by_cases hb:b=a
   ·exact hb
   ·exact absurd (if_neg hb) z
def Dt (s:Stmt):Arguments:=match s with
 | .FunctionDef _ a _ _ _ _ _ _ _ _=>a
 | _=>{posonlyargs:=[],args:=[],vararg:=none,kwonlyargs:=[],kw_defaults:=[],kwarg:=none,defaults:=[]}
def C2 (s:Stmt):List Stmt:=match s with
 | .FunctionDef _ _ b _ _ _ _ _ _ _=>b
 | _=>[]
def AY (s:Stmt):Scope:=match s with
 | .FunctionDef _ _ _ _ _ _ sc _ _ _=>sc
 | _=>{kind:=.function,names:=[],isGenerator:=false,isCoroutine:=false}
abbrev CX0:CXT:=fun _ _ _ _ _ _=>False
abbrev E0:XK:=fun _ _ _=>False
theorem MN {X:Cx}:Jz CX0 X E0:=fun _ _ _ _ _ _ _ h=>h.elim
structure Fun (K:PySem.W.Frag) (x qual:Str) (st:Stmt) (f:Addr) (fd:FuncData):Prop where
 ex:∃ (oc:Value) (od:Option Addr) (kV doc pm:Value) (an:Option Addr) (cdv ct:Value) (osl:Array (Option Value)),
  fd=PySem.W.fnOf x qual (Dt st) (C2 st) (AY st) .none kV doc pm an cdv ct/\K.lookup f=some ⟨oc,od,.func fd,osl⟩/\PySem.W.codeIn K cdv qual=true
 kp:PySem.W.keepIn K (.ref f)=true
section
variable {P:Program} {w:World} {K:PySem.W.Frag} {mg:Str->Option Value} {base:Heap}
theorem Fun.ok {x qual:Str} {st:Stmt} {f:Addr} {fd:FuncData} {N ps:List Str} {k:Nat} {sp:Sp} (F:Fun K x qual st f fd) (S:FnScope N ps (AY st)) (len:∀ vs H Q E,sp vs H Q E->vs.length=ps.length)
  (hbody:∀ (cdv:Value) (A:Around) (outer:List Env) (s:Shared) (H:Hp) (vs:List V) (Q:VK) (E:XK),Room k (A.deeper (envOfC qual (AY st) s.heap.objs.size f cdv))->sp vs H Q E ->
   ∃ t,PSs (Di CX0 P w K mg base N qual (AY st) f cdv A outer s H E).nox (C2 st) t/\t {nx:=fun _ H'=>Q .non H',rt:=Q} (start N vs) H):FnOk P w K mg base CX0 (k+1) f fd ps sp:=by
 obtain ⟨oc,od,kV,doc,pm,an,cdv,ct,osl,rfl,lk,hcd⟩:=F.ex
 refine U5 lk hcd S len fun A outer s H vs Q E hr hsp=>?_
 obtain ⟨t,h,q⟩:=hbody cdv A outer s H vs Q E hr hsp
 exact ⟨t,h.nox,q⟩
theorem Fun.binds {x qual:Str} {st:Stmt} {f:Addr} {fd:FuncData} {ps:List Str} (F:Fun K x qual st f fd)
  (h:∀ (kV doc pm:Value) (an:Option Addr) (cdv ct:Value) (us:List Value),us.length=ps.length->bindArgs (PySem.W.fnOf x qual (Dt st) (C2 st) (AY st) .none kV doc pm an cdv ct) ⟨us,[]⟩=pure (ps.zip us)):Binds K fd ps []:=by
 obtain ⟨oc,od,kV,doc,pm,an,cdv,ct,osl,rfl,lk,hcd⟩:=F.ex
 exact .all (h kV doc pm an cdv ct)
end
theorem FW {A:Around} {k:Nat} (hr:Room k A):A.units+1<cLine:=Nat.lt_of_le_of_lt (Nat.add_le_add_left (by decide:1<=64) _) hr.units
section
variable {X:Cx}
theorem pv (i:Nat) {x:Str} {pos:Pos} (hN:X.N[i]?=some x:=by rfl) (hv:Vis X.env.scope x:=by first | exact Or.inl rfl | exact Or.inr (Or.inl rfl) | exact Or.inr (Or.inr rfl)) (hd:(x == ("__debug__":Str))=false:=by decide)
  (hcd:(x == ("__classdict__":Str))=false:=by decide):PE X (.Name x pos) (HF i):=Wp hN hv hd hcd
end
end L2
namespace HD
open PySem PySem.W PySem.Calls PyProof.Rows L2
def FR (h:Heap):Frag:=(List.range h.objs.size).filterMap fun a=>(h.get? a).map fun o=>(a,o)
theorem NV {β:Type} {a:Nat} {o:β}:∀ {l:List (Nat×β)},l.lookup a=some o->(a,o)∈l
 | [],h=>by cases h
 | (b,x)::l,h=>by
  rw[List.lookup_cons] at h
  by_cases e:a=b
  ·subst e
   rw[beq_self_eq_true] at h
   cases h
   exact .head _
  ·rw[beq_false_of_ne e] at h
   exact .tail _ (NV h)
theorem Yn (h:Heap):(FR h).In h:=by
 intro a o e
 obtain ⟨b,_,hb⟩:=List.mem_filterMap.mp (NV e)
 obtain ⟨o',h1,h2⟩:=Option.map_eq_some_iff.mp hb
 cases h2
 exact h1
abbrev Sn:=Option (Str×Str×Arguments×FuncBody×Scope×Addr×List (Str×Addr)×Value×Addr×Bool)
def G8 (K:Frag) (x:Str):Sn:=match nsIn K mainGlobals x with
 | some (some (.ref f))=>(match K.lookup f with
  | some ⟨_,_,.func d,_⟩=>some (d.name,d.qualname,d.params,d.body,d.scope,d.globals,d.closure,d.defaults,d.builtins,codeIn K d.code x)
  | _=>none)
 | _=>none
def GK (p:Str×Stmt):Sn:=some (p.1,p.1,Dt p.2,.stmts (C2 p.2),AY p.2,mainGlobals,[],.none,builtinsNs,true)
theorem BC {K:Frag} {x:Str} {st:Stmt} (h:G8 K x=GK (x,st)):∃ (f:Addr) (fd:FuncData),nsIn K mainGlobals x=some (some (.ref f))/\Fun K x x st f fd:=by
 unfold G8 at h
 split at h
 ·rename_i f hn
  split at h
  ·rename_i oc od d sl hl
   simp only[GK,Option.some.injEq,Prod.mk.injEq] at h
   obtain ⟨d1,d2,d3,d4,d5,d6,d7,d8,d9,c⟩:=h
   have z:d=fnOf x x (Dt st) (C2 st) (AY st) .none d.kwdefaults d.doc d.pyModule d.annotations d.code d.closureTuple:=by
    cases d
    simp only[FuncData.mk.injEq]
    exact ⟨d1,d2,d3,d4,d5,d6,d7,d8,trivial,trivial,trivial,trivial,trivial,trivial,d9⟩
   refine ⟨f,d,hn,⟨?_,?_⟩⟩
   ·exact ⟨oc,od,d.kwdefaults,d.doc,d.pyModule,d.annotations,d.code,d.closureTuple,sl,z,hl,c⟩
   ·show (match K.lookup f with | some ⟨_,_,.func _,_⟩=>true | some ⟨_,_,.cls _,_⟩=>_ | _=>false)=true
    rw[hl]
  ·cases h
 ·cases h
theorem A5 {α β:Type} {g h:α->β}:∀ {L:List α} {i:Nat} {x:α},L.map g=L.map h->L[i]?=some x->g x=h x
 | [],_,_,_,e=>by cases e
 | y::L,0,x,m,e=>by cases e;exact (List.cons.inj m).1
 | y::L,i+1,x,m,e=>A5 (List.cons.inj m).2 e
def Hm (K:Frag) (x:Str):Option Int:=match nsIn K mainGlobals x with
 | some (some (.int n _))=>some n
 | _=>none
theorem int_at {K:Frag} {x:Str} {n:Int} (h:Hm K x=some n):∃ ty,nsIn K mainGlobals x=some (some (.int n ty)):=by
 unfold Hm at h
 split at h
 ·cases h;rename_i ty e;exact ⟨ty,e⟩
 ·cases h
def stp (p:Program) (N:Nat) (w:World) (os:OsState):Option Shared:=
 topRun treeTable p w (boot_heap w.params).objs.size ((boot_heap w.params).nsMap mainGlobals "__annotations__") N ⟨boot_heap w.params,Array.mk [],boot_drawn,boot_toks,os⟩ (topStub p)
theorem Sa:(fun P=>(boot_heap P).isNs mainGlobals && (Array.mk []:Array GenState).size == 0)=fun _=>true:=by kernel_rfl
def PH (p q:Program) (loose:List Str) (N:Nat) (w:World) (os:OsState):=(stp p N w os).map fun s=>openSeen q loose (importedModules p.main.body) (fun _=>true) true s
def PB {α:Type} (p:Program) (N:Nat) (obs:Frag->α) (w:World) (os:OsState):=(stp p N w os).map fun s=>obs (FR s.heap)
def runC (p:Program) (N:Nat) (w:World) (os:OsState):=(stp p N w os).map fun s=>staticsOk (importedModules p.main.body) (boot_heap w.params) s.heap && namesBound p s.heap && gensDone s && laidKept (boot_heap w.params) s.heap
theorem Vb {α:Type} {p q:Program} {loose:List Str} {N:Nat} {obs:Frag->α} {val:α} (e:opening p=plainProg p.main.scope.names) (hN:Nat.ble 600 N=true) (f:∀ s,fenceModules? p s=some s)
  (hA:∀ w os,PH p q loose N w os=some (openGood q loose)) (hB:∀ w os,PB p N obs w os=some val) (hC:∀ w os,runC p N w os=some true):LeftO p q loose (fun _=>true) (fun s=>obs (FR s.heap)) (fun _=>val) N:=fun w=>by
 obtain ⟨⟨H,gs,d,k,os⟩,e1,e2⟩:=Option.map_eq_some_iff.mp (boot_open e hN f w)
 simp only[Prod.mk.injEq] at e2
 obtain ⟨rfl,rfl,rfl,rfl⟩:=e2
 obtain ⟨s,h1,h2⟩:=Option.map_eq_some_iff.mp (hA w os)
 obtain ⟨s',h3,h4⟩:=Option.map_eq_some_iff.mp (hB w os)
 obtain ⟨s2,h5,h6⟩:=Option.map_eq_some_iff.mp (hC w os)
 rw[h1] at h3 h5
 cases h3
 cases h5
 unfold openEnds
 rw[e1]
 have z:topFrom treeTable p w N ⟨boot_heap w.params,Array.mk [],boot_drawn,boot_toks,os⟩=some s:=by
  unfold topFrom
  dsimp only
  rw[congrFun Sa w.params]
  show (stp p N w os).bind _=_
  rw[h1]
  show (match _ with | true=>some s | false=>none)=_
  rw[h6]
 show (topFrom treeTable p w N _).map _=_
 rw[z,Option.map_some,h2]
 exact congrArg (fun z=>some (openGood q loose,z)) h4
theorem Vu {α:Type} {l:OpenLaw} {n k:Nat} {q:Program} {loose:List Str} {XP:(Str->Option Value)->Heap->Prop} {d:DefRec} {obs:Frag->α} {val:α} {x:Str} {sp:Frag->Sp}
  (hn:l.most=some n) (hn2:n<=sizeLine) (hdf:d.params.defaults=[]) (hr:Room k callerA)
  (F:∀ (w:World) (K:Frag) (mg:Str->Option Value) (fa:Addr) (h:Heap),obs K=val->K.In h->h.Ns mainGlobals mg->mg d.name=some (.ref fa) ->
   ∃ fd:FuncData,(∀ (s:Shared) (u:Value),BindsTo s fd ⟨[u],[]⟩ [(x,u)])/\∀ base:Heap,K.In base->base.Ns mainGlobals mg->FnOk l.prog w K mg base CX0 k fa fd [x] (sp K))
  (hsp:∀ (K:Frag) (H:Hp) (a:Addr) (ns:List Int),ns.length<=n->KM H->SqL K H a (ns.map V.int)->sp K [.ref a] H (fun v _=>v=.bl true) fun _ _ _=>False) :
  WalkO q loose XP (fun _ h=>∃ K:Frag,obs K=val/\K.In h) l.row.toRowW d [] (fun f vs=>PySem.call f vs):=by
 refine Att.SC hn hdf fun w s0 s1 mg mb fa o pm cd doc a vs ns G Y ho hd hcd hmg hobj hints hlen hg=>?_
 obtain ⟨K,hK,KX⟩:=Y
 obtain ⟨fd,hb,hF⟩:=F w K mg fa _ hK KX G.T.g hmg
 exact Ub KX G.T.g G.T.b G.T.builtins G.T.nolimit hg hobj hints (Nat.le_trans hlen hn2) hr hF hb (fun H hO hS=>hsp K H a ns hlen hO hS) fun _ _ _ z=>z
theorem RK {α:Type} {l:OpenLaw} {q:Program} {loose:List Str} {N:Nat} {obs:Frag->α} {val:α} {d:DefRec} {kwd:List (Str×Expr)} (said:l.row.wellSaid=true)
  (e:opening l.prog=plainProg l.prog.main.scope.names) (hN:Nat.ble 600 N=true) (f:∀ s,fenceModules? l.prog s=some s) (hA:∀ w os,PH l.prog q loose N w os=some (openGood q loose)) (hB:∀ w os,PB l.prog N obs w os=some val) (hC:∀ w os,runC l.prog N w os=some true)
  (hdef:defOf q l.name=some (d,kwd)) (hp:l.prog.theDef l.name=some (d.params,d.body,d.scope)) (hk:kwWritten? d.params.kwonlyargs d.params.kw_defaults=some kwd)
  (hwr:(!l.row.writes || l.row.records.isEmpty)=true) (ok:(chainsOk q && opensWell l.prog && (frees l.row.toRowW && l.row.within.isEmpty))=true) (hb:l.prog.bare) (hw:l.row.toRowW.promised)
  (call:WalkO q loose (fun _ _=>True) (fun _ h=>∃ K:Frag,obs K=val/\K.In h) l.row.toRowW d kwd fun f vs=>PySem.call f vs):l.row.Holds:=
 holds_open (r:=l.row) (q:=q) (loose:=loose) (Xt:=fun _=>true) (XP:=fun _ _=>True) (YP:=fun _ h=>∃ K:Frag,obs K=val/\K.In h) (N:=N) (Vb e hN f hA hB hC)
  (fun _ s y=>⟨_,y,Yn s.heap⟩) (fun _ _ _ ⟨K,a,b⟩ k=>⟨K,a,b.keeps k⟩) (fun _ _=>trivial) (fun _ _ _ _ _=>trivial) hdef hp hk (fun _ _=>⟨fun _ z=>(nomatch z),fun _ z=>(nomatch z),fun _ _ _ z=>(nomatch z),fun _ _ z=>(nomatch z)⟩) hwr said ok hb hw call
end HD
namespace DL
open PySem L2 HD PySem.W
def tp (i:Nat):Stmt:=PySem.Challenge.pw_evenlots_k22_whole_keys_and_names.main.body.getD i (.Pass ⟨0,0,0,0⟩)
def qv:Program:={PySem.Challenge.pw_evenlots_k22_whole_keys_and_names with main:={PySem.Challenge.pw_evenlots_k22_whole_keys_and_names.main with body:=[tp 33]}}
def lse:List Str:=(PySem.Challenge.pw_evenlots_k22_whole_keys_and_names.main.scope.names.map (·.1)).filter fun x=>!(x == "law")
def fns:List (Str×Stmt):=[("_law_stir",tp 27),("_law_deck",tp 28),("_law_cell_at",tp 26),("_law_next",tp 29),("_law_rows",tp 30),("keys_of",tp 23),("posts_among",tp 13),("is_whole",tp 4),("check_asked",tp 10),("samples_of_hand",tp 11),("names_of_hand",tp 5),("samples_of",tp 12),("posts_of",tp 14),("count_below",tp 18),("ends_by_posts",tp 19),("sizes_by_ends",tp 20),("key_lot_sizes",tp 24),("names_plainly",tp 6),("sorted_plainly",tp 7),("rounded_up",tp 15),("lot_bound",tp 16),("_law_hands",tp 31),("_law_unlike",tp 32),("lot_ends",tp 21),("lot_sizes",tp 22),("law",tp 33)]
def bls:List Str:=["len","range","isinstance","bool","int","str","list","tuple","zip","enumerate","sorted","max","min","abs","sum","all","any","set"]
def nts:List (Str×Int):=[("MOST_SAMPLES",8)]
def ob (K:Frag):=(fns.map fun p=>G8 K p.1,bls.map fun x=>nsIn K mainGlobals x,nts.map fun p=>Hm K p.1,())
def vl:List Sn×List (Option (Option Value))×List (Option Int)×Unit:=(fns.map GK,bls.map fun _=>some none,nts.map fun p=>some p.2,())
def RUA (w:World) (os:OsState):=(topRun treeTable PySem.Challenge.pw_evenlots_k22_whole_keys_and_names w (boot_heap w.params).objs.size ((boot_heap w.params).nsMap mainGlobals "__annotations__") 100000 ⟨boot_heap w.params,Array.mk [],boot_drawn,boot_toks,os⟩ (topStub PySem.Challenge.pw_evenlots_k22_whole_keys_and_names)).map fun (s:Shared)=>openSeen qv lse (importedModules PySem.Challenge.pw_evenlots_k22_whole_keys_and_names.main.body) (fun _=>true) true s
def RUB (w:World) (os:OsState):=(topRun treeTable PySem.Challenge.pw_evenlots_k22_whole_keys_and_names w (boot_heap w.params).objs.size ((boot_heap w.params).nsMap mainGlobals "__annotations__") 100000 ⟨boot_heap w.params,Array.mk [],boot_drawn,boot_toks,os⟩ (topStub PySem.Challenge.pw_evenlots_k22_whole_keys_and_names)).map fun (s:Shared)=>ob (FR s.heap)
def RUC (w:World) (os:OsState):=(topRun treeTable PySem.Challenge.pw_evenlots_k22_whole_keys_and_names w (boot_heap w.params).objs.size ((boot_heap w.params).nsMap mainGlobals "__annotations__") 100000 ⟨boot_heap w.params,Array.mk [],boot_drawn,boot_toks,os⟩ (topStub PySem.Challenge.pw_evenlots_k22_whole_keys_and_names)).map fun (s:Shared)=>staticsOk (importedModules PySem.Challenge.pw_evenlots_k22_whole_keys_and_names.main.body) (boot_heap w.params) s.heap && namesBound PySem.Challenge.pw_evenlots_k22_whole_keys_and_names s.heap && gensDone s && laidKept (boot_heap w.params) s.heap
theorem SR:RUA=fun _ _=>some (openGood qv lse):=by
 have h0:Function.const _ true RUA=true:=by k_qdec
 clear h0
 rw[PySem.W.Fast.te7901502448135333141,PySem.W.Fast.te17113634627043827754,PySem.W.Fast.te11101308186888466343]
 kernel_rfl
theorem Yx:RUB=fun _ _=>some vl:=by
 have h0:Function.const _ true RUB=true:=by k_qdec
 have h1:Function.const _ true vl=true:=by k_qdec
 clear h0 h1
 rw[PySem.W.Fast.te2813855401462900763,PySem.W.Fast.te15028064660855214787]
 kernel_rfl
theorem Qk:RUC=fun _ _=>some true:=by
 have h0:Function.const _ true RUC=true:=by k_qdec
 clear h0
 rw[PySem.W.Fast.te7225883687914735966]
 kernel_rfl
end DL
namespace EvS
open PySem PyProof.Rows
abbrev SM:=StateT SortSt Sem
def gal:Bool->Keyed->Array Keyed->Nat->Nat->Nat->SM (Option Nat):=sortPriv% PySem.Builtin.gallop
def mLo:Array Keyed->Array Keyed->SM (Array Keyed):=sortPriv% PySem.Builtin.mergeLo
def mHi:Array Keyed->Array Keyed->SM (Array Keyed):=sortPriv% PySem.Builtin.mergeHi
abbrev setG (st:SortSt) (g:Nat):SortSt:=SortSt.mk' (kindOf st) (arrOf st) (pendingOf st) g (failedOf st)
def byd (left:Bool) (key:Keyed) (xs:Array Keyed) (b i:Nat):SM (Option Bool):=do
 let x <-elem' xs (b+i)
 if left then lt' x key else return (<-lt' key x).map (!·)
def NA (left:Bool) (key:Keyed) (xs:Array Keyed) (b n lo0 hi0:Nat):SM (Option Nat):=do
 let mut lo:=lo0
 let mut hi:=hi0
 for _ in [0:n] do
  if lo>=hi then break
  let m:=lo+(hi - lo) / 2
  let some mo <-byd left key xs b m | return none
  if mo then lo:=m+1 else hi:=m
 return some hi
theorem WR (left:Bool) (key:Keyed) (xs:Array Keyed) (b n h:Nat):gal left key xs b n h=(do
 let mut la:=0
 let mut of:=1
 let mut lo:=0
 let mut hi:=0
 let some right <-byd left key xs b h | return none
 if right then
  let mx:=n - h
  for _ in [0:n] do
   if of>=mx then break
   let some mo <-byd left key xs b (h+of) | return none
   if !mo then break
   la:=of
   of:=2 * of+1
  lo:=h+la+1
  hi:=h+min of mx
 else
  let mx:=h+1
  for _ in [0:n] do
   if of>=mx then break
   let some fo <-byd left key xs b (h - of) | return none
   if fo then break
   la:=of
   of:=2 * of+1
  lo:=h+1 - min of mx
  hi:=h - la
 for _ in [0:n] do
  if lo>=hi then break
  let m:=lo+(hi - lo) / 2
  let some mo <-byd left key xs b m | return none
  if mo then lo:=m+1 else hi:=m
 return some hi):=rfl
structure Cmp (prog:Program) (w:World) (A:Around) (E:Value->Shared->Prop) (s:Shared) (kd:SortKind) (good:Keyed->Prop) (lt:Keyed->Keyed->Bool):Prop where
 run:∀ {st:SortSt} {x y:Keyed} {Q:Option Bool->SortSt->Prop},kindOf st=kd->good x->good y->Q (some (lt x y)) st->wpS (model prog w) A E s (lt' x y) Q st
def bq (lt:Keyed->Keyed->Bool) (left:Bool) (key x:Keyed):Bool:=if left then lt x key else !lt key x
section
variable {prog:Program} {w:World} {A:Around} {E:Value->Shared->Prop} {s:Shared} {kd:SortKind} {good:Keyed->Prop} {lt:Keyed->Keyed->Bool} {st:SortSt}
theorem BQ {xs:Array Keyed} {i:Nat} {x:Keyed} {Q:Keyed->SortSt->Prop} (hx:xs[i]?=some x) (h:Q x st):wpS (model prog w) A E s (elem' xs i) Q st:=by
 rw[elem'_eq,hx]
 exact wpS_pure h
theorem Ft (C:Cmp prog w A E s kd good lt) {left:Bool} {key x:Keyed} {xs:Array Keyed} {b i:Nat} {Q:Option Bool->SortSt->Prop} (hk:kindOf st=kd) (hg:good key) (hx:xs[b+i]?=some x) (hgx:good x)
  (h:Q (some (bq lt left key x)) st):wpS (model prog w) A E s (byd left key xs b i) Q st:=by
 unfold byd
 refine wpS_bind (BQ hx ?_)
 cases left with
 | true=>
  simp only[if_true]
  exact C.run hk hgx hg h
 | false=>
  simp only[Bool.false_eq_true,if_false]
  exact wpS_bind (C.run hk hg hgx (wpS_pure h))
variable {left:Bool} {key:Keyed} {xs:Array Keyed} {b n:Nat} {B:Nat->Bool} {Q:Option Nat->SortSt->Prop}
theorem NO (C:Cmp prog w A E s kd good lt) (hk:kindOf st=kd) (hg:good key) (hall:∀ i,i<n->∃ x,xs[b+i]?=some x/\good x/\bq lt left key x=B i)
  (hB:∀ i j,i<=j->j<n->B j=true->B i=true) {lo hi:Nat} (h1:lo<=hi) (h2:hi<=n) (hlo:∀ i,i<lo->B i=true) (hhi:∀ i,hi<=i->i<n->B i=false)
  (hQ:∀ k,k<=n->(∀ i,i<k->B i=true)->(∀ i,k<=i->i<n->B i=false)->Q (some k) st):wpS (model prog w) A E s (NA left key xs b n lo hi) Q st:=by
 unfold NA
 refine wpS_bind (wpS_mono (wpS_forRange (I:=fun x c st'=>st'=st/\∃ l r,c=(none,l,r)/\l<=r/\r<=n/\r - l<=n - x/\(∀ i,i<l->B i=true)/\(∀ i,r<=i->i<n->B i=false))
  (Q:=fun c st'=>st'=st/\∃ r,c.1=none/\c.2.2=r/\r<=n/\(∀ i,i<r->B i=true)/\(∀ i,r<=i->i<n->B i=false)) ?step ?fin ⟨rfl,lo,hi,rfl,h1,h2,by lia,hlo,hhi⟩) ?post)
 case fin=>
  rintro c st' ⟨rfl,l,r,rfl,a1,a2,a3,a4,a5⟩
  have:l=r:=by lia
  subst this
  exact ⟨rfl,l,rfl,rfl,a2,a4,a5⟩
 case step=>
  rintro x c st' _ hx ⟨rfl,l,r,rfl,a1,a2,a3,a4,a5⟩
  dsimp only
  by_cases hge:l>=r
  ·rw[if_pos hge]
   have:l=r:=by lia
   subst this
   exact wpS_pure ⟨rfl,l,rfl,rfl,a2,a4,a5⟩
  ·rw[if_neg hge]
   obtain ⟨y,e1,e2,e3⟩:=hall (l+(r - l) / 2) (by lia)
   refine wpS_bind (Ft C hk hg e1 e2 ?_)
   rw[e3]
   cases hb:B (l+(r - l) / 2) with
   | true=>
    simp only[if_true]
    refine wpS_pure ⟨rfl,_,r,rfl,by lia,a2,by lia,fun i hi=>?_,a5⟩
    exact hB i (l+(r - l) / 2) (by lia) (by lia) hb
   | false=>
    simp only[Bool.false_eq_true,if_false]
    refine wpS_pure ⟨rfl,l,_,rfl,by lia,by lia,by lia,a4,fun i hi1 hi2=>?_⟩
    cases hbi:B i with
    | false=>rfl
    | true=>rw[hB _ i hi1 hi2 hbi] at hb;cases hb
 case post=>
  rintro ⟨c1,c2,c3⟩ st' ⟨rfl,r,e1,e2,a2,a4,a5⟩
  dsimp only at e1 e2
  subst e1 e2
  exact wpS_pure (hQ _ a2 a4 a5)
theorem Sw (C:Cmp prog w A E s kd good lt) (hk:kindOf st=kd) (hg:good key) (hall:∀ i,i<n->∃ x,xs[b+i]?=some x/\good x/\bq lt left key x=B i)
  (hB:∀ i j,i<=j->j<n->B j=true->B i=true) {h:Nat} (hh:h<n)
  (hQ:∀ k,k<=n->(∀ i,i<k->B i=true)->(∀ i,k<=i->i<n->B i=false)->Q (some k) st):wpS (model prog w) A E s (gal left key xs b n h) Q st:=by
 rw[WR]
 dsimp only
 have hF:∀ i j,i<=j->j<n->B i=false->B j=false:=fun i j h1 h2 h3=>by
  cases hbj:B j with
  | false=>rfl
  | true=>rw[hB i j h1 h2 hbj] at h3;cases h3
 obtain ⟨y,e1,e2,e3⟩:=hall h hh
 refine wpS_bind (Ft C hk hg e1 e2 ?_)
 rw[e3]
 cases hbh:B h with
 | true=>
  simp only[if_true]
  refine wpS_bind (wpS_mono (wpS_forRange (I:=fun x c st'=>st'=st/\∃ la of,c=(none,la,of)/\la<of/\x+1<=of/\h+la<n/\B (h+la)=true)
   (Q:=fun c st'=>st'=st/\∃ la of,c=(none,la,of)/\la<of/\h+la<n/\B (h+la)=true/\(n - h<=of\/(h+of<n/\B (h+of)=false))) ?step ?fin ⟨rfl,0,1,rfl,by lia,by lia,by lia,hbh⟩) ?post)
  case fin=>
   rintro c st' ⟨rfl,la,of,rfl,a1,a2,a3,a4⟩
   exact ⟨rfl,la,of,rfl,a1,a3,a4,.inl (by lia)⟩
  case step=>
   rintro x c st' _ hx ⟨rfl,la,of,rfl,a1,a2,a3,a4⟩
   dsimp only
   by_cases hge:of>=n - h
   ·rw[if_pos hge]
    exact wpS_pure ⟨rfl,la,of,rfl,a1,a3,a4,.inl hge⟩
   ·rw[if_neg hge]
    obtain ⟨z,f1,f2,f3⟩:=hall (h+of) (by lia)
    refine wpS_bind (Ft C hk hg f1 f2 ?_)
    rw[f3]
    cases hb:B (h+of) with
    | true=>
     simp only[Bool.not_true,Bool.false_eq_true,if_false]
     exact wpS_pure ⟨rfl,of,2 * of+1,rfl,by lia,by lia,by lia,hb⟩
    | false=>
     simp only[Bool.not_false,if_true]
     exact wpS_pure ⟨rfl,la,of,rfl,a1,a3,a4,.inr ⟨by lia,hb⟩⟩
  case post=>
   rintro c st' ⟨rfl,la,of,rfl,a1,a3,a4,a5⟩
   dsimp only
   refine NO (lo:=h+la+1) (hi:=h+min of (n - h)) C hk hg hall hB (by lia) (by lia) (fun i hi=>hB i (h+la) (by lia) a3 a4) (fun i h1 h2=>?_) hQ
   rcases a5 with z | ⟨z1,z2⟩
   ·lia
   ·exact hF (h+of) i (by lia) h2 z2
 | false=>
  simp only[Bool.false_eq_true,if_false]
  refine wpS_bind (wpS_mono (wpS_forRange (I:=fun x c st'=>st'=st/\∃ la of,c=(none,la,of)/\la<of/\x+1<=of/\la<=h/\B (h - la)=false)
   (Q:=fun c st'=>st'=st/\∃ la of,c=(none,la,of)/\la<of/\la<=h/\B (h - la)=false/\(h+1<=of\/(of<=h/\B (h - of)=true))) ?step ?fin ⟨rfl,0,1,rfl,by lia,by lia,by lia,hbh⟩) ?post)
  case fin=>
   rintro c st' ⟨rfl,la,of,rfl,a1,a2,a3,a4⟩
   exact ⟨rfl,la,of,rfl,a1,a3,a4,.inl (by lia)⟩
  case step=>
   rintro x c st' _ hx ⟨rfl,la,of,rfl,a1,a2,a3,a4⟩
   dsimp only
   by_cases hge:of>=h+1
   ·rw[if_pos hge]
    exact wpS_pure ⟨rfl,la,of,rfl,a1,a3,a4,.inl hge⟩
   ·rw[if_neg hge]
    obtain ⟨z,f1,f2,f3⟩:=hall (h - of) (by lia)
    refine wpS_bind (Ft C hk hg f1 f2 ?_)
    rw[f3]
    cases hb:B (h - of) with
    | true=>
     simp only[if_true]
     exact wpS_pure ⟨rfl,la,of,rfl,a1,a3,a4,.inr ⟨by lia,hb⟩⟩
    | false=>
     simp only[Bool.false_eq_true,if_false]
     exact wpS_pure ⟨rfl,of,2 * of+1,rfl,by lia,by lia,by lia,hb⟩
  case post=>
   rintro c st' ⟨rfl,la,of,rfl,a1,a3,a4,a5⟩
   dsimp only
   refine NO (lo:=h+1 - min of (h+1)) (hi:=h - la) C hk hg hall hB (by lia) (by lia) (fun i hi=>?_) (fun i h1 h2=>hF (h - la) i h1 h2 a4) hQ
   rcases a5 with z | ⟨z1,z2⟩
   ·lia
   ·exact hB i (h - of) (by lia) (by lia) z2
end
def DM:Nat->SM Unit:=sortPriv% PySem.Builtin.setMinGallop
theorem G0 (g:Nat):DM g=modify fun s=>setG s g:=rfl
abbrev dnA (a b o:Array Keyed) (p q:Nat):Array Keyed:=o++a.extract p a.size++b.extract q b.size
abbrev lAA (a b o:Array Keyed) (p q:Nat):Array Keyed:=o++b.extract q b.size++a.extract p a.size
theorem Vz (a b:Array Keyed):mLo a b=(do
 rule "list.sort.merge-lo"
 let mut o:Array Keyed:=#[<-elem' b 0]
 let mut p:=0
 let mut q:=1
 if q == b.size then return dnA a b o p q
 if p+1 == a.size then return lAA a b o p q
 let mut mg:=gallopOf (<-get)
 for _ in [0:a.size+b.size] do
  let mut ac:=0
  let mut bc:=0
  for _ in [0:a.size+b.size] do
   let some bw <-lt' (<-elem' b q) (<-elem' a p) | return dnA a b o p q
   if bw then
    o:=o.push (<-elem' b q);q:=q+1;bc:=bc+1;ac:=0
    if q == b.size then return dnA a b o p q
    if bc>=mg then break
   else
    o:=o.push (<-elem' a p);p:=p+1;ac:=ac+1;bc:=0
    if p+1 == a.size then return lAA a b o p q
    if ac>=mg then break
  rule "list.sort.gallop"
  mg:=mg+1
  for _ in [0:a.size+b.size] do
   if mg > 1 then mg:=mg - 1
   DM mg
   let some k <-gal false (<-elem' b q) a p (a.size - p) 0 | return dnA a b o p q
   ac:=k
   if k > 0 then
    o:=o++a.extract p (p+k);p:=p+k
    if p+1 == a.size then return lAA a b o p q
    if p == a.size then return dnA a b o p q
   o:=o.push (<-elem' b q);q:=q+1
   if q == b.size then return dnA a b o p q
   let some k <-gal true (<-elem' a p) b q (b.size - q) 0 | return dnA a b o p q
   bc:=k
   if k > 0 then
    o:=o++b.extract q (q+k);q:=q+k
    if q == b.size then return dnA a b o p q
   o:=o.push (<-elem' a p);p:=p+1
   if p+1 == a.size then return lAA a b o p q
   if ac<7 && bc<7 then break
  mg:=mg+1
  DM mg
 unsupported "internal:list.sort.merge-bound"):=rfl
structure Ord (good:Keyed->Prop) (lt:Keyed->Keyed->Bool):Prop where
 tr:∀ {x y z},good x->good y->good z->lt y x=false->lt z y=false->lt z x=false
 tot:∀ {x y},good x->good y->lt x y=true->lt y x=false
abbrev LE (lt:Keyed->Keyed->Bool) (x y:Keyed):Prop:=lt y x=false
structure SL (good:Keyed->Prop) (lt:Keyed->Keyed->Bool) (l:List Keyed):Prop where
 all:∀ x∈l,good x
 srt:l.Pairwise (LE lt)
structure MI (good:Keyed->Prop) (lt:Keyed->Keyed->Bool) (a b o:List Keyed) (p q:Nat):Prop where
 perm:(o++(a.drop p++b.drop q)).Perm (a++b)
 srt:o.Pairwise (LE lt)
 low:∀ x∈o,∀ y∈a.drop p++b.drop q,LE lt x y
 pa:p<=a.length
 qb:q<=b.length
section
variable {good:Keyed->Prop} {lt:Keyed->Keyed->Bool} {a b o:List Keyed} {p q k:Nat} {x:Keyed}
theorem MI.size (m:MI good lt a b o p q):o.length=p+q:=by
 have e:=m.perm.length_eq
 have:=m.pa
 have:=m.qb
 rw[List.length_append,List.length_append,List.length_append,List.length_drop,List.length_drop] at e
 lia
theorem EU {l:List Keyed} {i:Nat} (h:l[i]?=some x):l.drop i=x::l.drop (i+1):=by
 obtain ⟨hi,e⟩:=List.getElem?_eq_some_iff.mp h
 rw[List.drop_eq_getElem_cons hi,e]
theorem SL.from (s:SL good lt a) {i:Nat} (h:a[i]?=some x):∀ y∈a.drop i,y=x\/LE lt x y:=fun y hy=>by
 rw[EU h] at hy
 rcases List.mem_cons.mp hy with z | z
 ·exact .inl z
 ·have hp:(a.drop i).Pairwise (LE lt):=s.srt.sublist (List.drop_sublist _ _)
  rw[EU h] at hp
  exact .inr ((List.pairwise_cons.mp hp).1 y z)
theorem SL.up (s:SL good lt a) {i j:Nat} {y:Keyed} (h:a[i]?=some x) (h':a[j]?=some y) (hij:i<j):LE lt x y:=by
 obtain ⟨hi,e⟩:=List.getElem?_eq_some_iff.mp h
 obtain ⟨hj,e'⟩:=List.getElem?_eq_some_iff.mp h'
 rw[<-e,<-e']
 exact List.pairwise_iff_getElem.mp s.srt i j hi hj hij
theorem SL.good_at (s:SL good lt a) {i:Nat} (h:a[i]?=some x):good x:=s.all x (List.mem_of_getElem? h)
theorem MI.pushA (m:MI good lt a b o p q) (sa:SL good lt a) (h:a[p]?=some x) (hb:∀ y∈b.drop q,LE lt x y):MI good lt a b (o++[x]) (p+1) q:=by
 have hd:=EU h
 obtain ⟨hp,_⟩:=List.getElem?_eq_some_iff.mp h
 refine ⟨?_,?_,?_,hp,m.qb⟩
 ·have e:=m.perm
  rw[hd] at e
  simpa [List.append_assoc] using e
 ·refine List.pairwise_append.mpr ⟨m.srt,List.pairwise_singleton _ _,fun y hy z hz=>?_⟩
  rw[List.mem_singleton] at hz
  subst hz
  exact m.low y hy z (by rw[hd];simp)
 ·intro y hy z hz
  rcases List.mem_append.mp hy with hy | hy
  ·exact m.low y hy z (by rw[hd];rcases List.mem_append.mp hz with w | w<;>simp[w])
  ·rw[List.mem_singleton] at hy
   subst hy
   rcases List.mem_append.mp hz with w | w
   ·have hp2:(a.drop p).Pairwise (LE lt):=sa.srt.sublist (List.drop_sublist _ _)
    rw[hd] at hp2
    exact (List.pairwise_cons.mp hp2).1 z w
   ·exact hb z w
theorem MI.pushB (m:MI good lt a b o p q) (sb:SL good lt b) (h:b[q]?=some x) (ha:∀ y∈a.drop p,LE lt x y):MI good lt a b (o++[x]) p (q+1):=by
 have hd:=EU h
 obtain ⟨hq,_⟩:=List.getElem?_eq_some_iff.mp h
 refine ⟨?_,?_,?_,m.pa,hq⟩
 ·have e:=m.perm
  rw[hd] at e
  refine List.Perm.trans ?_ e
  rw[List.append_assoc]
  refine List.Perm.append_left _ ?_
  show (x::(a.drop p++b.drop (q+1))).Perm (a.drop p++x::b.drop (q+1))
  exact List.perm_middle.symm
 ·refine List.pairwise_append.mpr ⟨m.srt,List.pairwise_singleton _ _,fun y hy z hz=>?_⟩
  rw[List.mem_singleton] at hz
  subst hz
  exact m.low y hy z (by rw[hd];simp)
 ·intro y hy z hz
  rcases List.mem_append.mp hy with hy | hy
  ·exact m.low y hy z (by rw[hd];rcases List.mem_append.mp hz with w | w<;>simp[w])
  ·rw[List.mem_singleton] at hy
   subst hy
   rcases List.mem_append.mp hz with w | w
   ·exact ha z w
   ·have hp2:(b.drop q).Pairwise (LE lt):=sb.srt.sublist (List.drop_sublist _ _)
    rw[hd] at hp2
    exact (List.pairwise_cons.mp hp2).1 z w
theorem Mx {l:List Keyed} {i k:Nat} {x:Keyed} (h:l[i+k]?=some x):(l.drop i).take (k+1)=(l.drop i).take k++[x]:=by
 rw[List.take_add_one,List.getElem?_drop,h]
 rfl
theorem MI.blockA (m:MI good lt a b o p q) (sa:SL good lt a):∀ k,p+k<=a.length->(∀ i y,i<k->a[p+i]?=some y->∀ z∈b.drop q,LE lt y z)->MI good lt a b (o++(a.drop p).take k) (p+k) q
 | 0,_,_=>by simpa using m
 | k+1,hk,h=>by
  have ih:=MI.blockA m sa k (by lia) fun i y hi=>h i y (by lia)
  have e:a[p+k]?=some a[p+k]:=List.getElem?_eq_getElem (by lia)
  have r:=ih.pushA sa e (h k _ (by lia) e)
  rw[List.append_assoc,<-Mx e] at r
  exact r
theorem MI.blockB (m:MI good lt a b o p q) (sb:SL good lt b):∀ k,q+k<=b.length->(∀ i y,i<k->b[q+i]?=some y->∀ z∈a.drop p,LE lt y z)->MI good lt a b (o++(b.drop q).take k) p (q+k)
 | 0,_,_=>by simpa using m
 | k+1,hk,h=>by
  have ih:=MI.blockB m sb k (by lia) fun i y hi=>h i y (by lia)
  have e:b[q+k]?=some b[q+k]:=List.getElem?_eq_getElem (by lia)
  have r:=ih.pushB sb e (h k _ (by lia) e)
  rw[List.append_assoc,<-Mx e] at r
  exact r
def Good (lt:Keyed->Keyed->Bool) (a b:List Keyed) (r:List Keyed):Prop:=r.Perm (a++b)/\r.Pairwise (LE lt)
theorem MI.done (m:MI good lt a b o p q) (sa:SL good lt a) (sb:SL good lt b) (h:a.drop p=[]\/b.drop q=[]):Good lt a b (o++a.drop p++b.drop q):=by
 refine ⟨by rw[List.append_assoc];exact m.perm,?_⟩
 rw[List.append_assoc]
 refine List.pairwise_append.mpr ⟨m.srt,?_,m.low⟩
 rcases h with h | h
 ·rw[h,List.nil_append];exact sb.srt.sublist (List.drop_sublist _ _)
 ·rw[h,List.append_nil];exact sa.srt.sublist (List.drop_sublist _ _)
theorem MI.last (m:MI good lt a b o p q) (sb:SL good lt b) (h:a[p]?=some x) (hp:p+1=a.length) (hx:∀ y∈b,LE lt y x):Good lt a b (o++b.drop q++a.drop p):=by
 have hd:a.drop p=[x]:=by rw[EU h,List.drop_eq_nil_of_le (by lia)]
 constructor
 ·refine List.Perm.trans ?_ m.perm
  rw[List.append_assoc]
  exact List.Perm.append_left _ List.perm_append_comm
 ·rw[List.append_assoc]
  refine List.pairwise_append.mpr ⟨m.srt,?_,fun y hy z hz=>m.low y hy z (by rcases List.mem_append.mp hz with w | w<;>simp[w])⟩
  refine List.pairwise_append.mpr ⟨sb.srt.sublist (List.drop_sublist _ _),by rw[hd];exact List.pairwise_singleton _ _,fun y hy z hz=>?_⟩
  rw[hd,List.mem_singleton] at hz
  subst hz
  exact hx y (List.mem_of_mem_drop hy)
end
structure SG (st st':SortSt):Prop where
 kind:kindOf st'=kindOf st
 arr:arrOf st'=arrOf st
 pend:pendingOf st'=pendingOf st
 fail:failedOf st'=failedOf st
theorem SG.refl (st:SortSt):SG st st:=⟨rfl,rfl,rfl,rfl⟩
theorem SG.setG {st st':SortSt} (h:SG st st') (g:Nat):SG st (setG st' g):=⟨h.kind,h.arr,h.pend,h.fail⟩
theorem Gz (xs:Array Keyed) (i:Nat):(xs.extract i xs.size).toList=xs.toList.drop i:=by
 rw[Array.toList_extract]
 exact List.take_of_length_le (by rw[List.length_drop,Array.length_toList];exact Nat.le_refl _)
theorem MJ (xs:Array Keyed) (i k:Nat):(xs.extract i (i+k)).toList=(xs.toList.drop i).take k:=by simp[List.extract]
abbrev LoS:=Option (Array Keyed)×Array Keyed×Nat×Nat×Nat×Nat×Nat
def Gb (a b:Array Keyed) (p mg ac bc:Nat) (o:Array Keyed) (q:Nat):SM (ForInStep LoS):=do
 let x <-elem' a p
 if (p+1+1 == a.size)=true then pure (.done (some (lAA a b (o.push x) (p+1) q),o.push x,p+1,q,mg,ac,bc))
 else if (decide (ac<7) && decide (bc<7))=true then pure (.done (none,o.push x,p+1,q,mg,ac,bc))
 else pure (.yield (none,o.push x,p+1,q,mg,ac,bc))
def HW (a b:Array Keyed) (q mg ac bc:Nat) (o:Array Keyed) (p:Nat):SM (ForInStep LoS):=do
 let x <-elem' b q
 if (q+1 == b.size)=true then pure (.done (some (dnA a b (o.push x) p (q+1)),o.push x,p,q+1,mg,ac,bc))
 else do
  let y <-elem' a p
  let r <-gal true y b (q+1) (b.size - (q+1)) 0
  match r with
  | some k=>
   if k > 0 then
    if (q+1+k == b.size)=true then pure (.done (some (dnA a b (o.push x++b.extract (q+1) (q+1+k)) p (q+1+k)),o.push x++b.extract (q+1) (q+1+k),p,q+1+k,mg,ac,k))
    else Gb a b p mg ac k (o.push x++b.extract (q+1) (q+1+k)) (q+1+k)
   else Gb a b p mg ac k (o.push x) (q+1)
  | _=>pure (.done (some (dnA a b (o.push x) p (q+1)),o.push x,p,q+1,mg,ac,bc))
def Ha (a b:Array Keyed) (q ac bc:Nat) (o:Array Keyed) (p mg:Nat):SM (ForInStep LoS):=do
 DM mg
 let x <-elem' b q
 let r <-gal false x a p (a.size - p) 0
 match r with
 | some k=>
  if k > 0 then
   if (p+k+1 == a.size)=true then pure (.done (some (lAA a b (o++a.extract p (p+k)) (p+k) q),o++a.extract p (p+k),p+k,q,mg,k,bc))
   else if (p+k == a.size)=true then pure (.done (some (dnA a b (o++a.extract p (p+k)) (p+k) q),o++a.extract p (p+k),p+k,q,mg,k,bc))
   else HW a b q mg k bc (o++a.extract p (p+k)) (p+k)
  else HW a b q mg k bc o p
 | _=>pure (.done (some (dnA a b o p q),o,p,q,mg,ac,bc))
def loG (a b o:Array Keyed) (p q mg ac bc:Nat):SM (ForInStep LoS):=if mg > 1 then Ha a b q ac bc o p (mg - 1) else Ha a b q ac bc o p mg
abbrev LoI:=Option (Array Keyed)×Array Keyed×Nat×Nat×Nat×Nat
abbrev LoO:=Option (Array Keyed)×Array Keyed×Nat×Nat×Nat
def loI (a b:Array Keyed) (mg:Nat) (o:Array Keyed) (p q ac bc:Nat):SM (ForInStep LoI):=do
 let y <-elem' b q
 let x <-elem' a p
 let r <-lt' y x
 match r with
 | some bw=>
  if bw=true then do
   let z <-elem' b q
   if (q+1 == b.size)=true then pure (.done (some (dnA a b (o.push z) p (q+1)),o.push z,p,q+1,0,bc+1))
   else if bc+1>=mg then pure (.done (none,o.push z,p,q+1,0,bc+1)) else pure (.yield (none,o.push z,p,q+1,0,bc+1))
  else do
   let z <-elem' a p
   if (p+1+1 == a.size)=true then pure (.done (some (lAA a b (o.push z) (p+1) q),o.push z,p+1,q,ac+1,0))
   else if ac+1>=mg then pure (.done (none,o.push z,p+1,q,ac+1,0)) else pure (.yield (none,o.push z,p+1,q,ac+1,0))
 | _=>pure (.done (some (dnA a b o p q),o,p,q,ac,bc))
def loO (a b o:Array Keyed) (p q mg:Nat):SM (ForInStep LoO):=do
 let s <-forIn [0:a.size+b.size] ((none,o,p,q,0,0):LoI) fun _ c=>loI a b mg c.2.1 c.2.2.1 c.2.2.2.1 c.2.2.2.2.1 c.2.2.2.2.2
 match s.1 with
 | some r=>pure (.done (some r,s.2.1,s.2.2.1,s.2.2.2.1,mg))
 | none=>do
  rule "list.sort.gallop"
  let t <-forIn [0:a.size+b.size] ((none,s.2.1,s.2.2.1,s.2.2.2.1,mg+1,s.2.2.2.2.1,s.2.2.2.2.2):LoS) fun _ c=>loG a b c.2.1 c.2.2.1 c.2.2.2.1 c.2.2.2.2.1 c.2.2.2.2.2.1 c.2.2.2.2.2.2
  match t.1 with
  | some r=>pure (.done (some r,t.2.1,t.2.2.1,t.2.2.2.1,t.2.2.2.2.1))
  | none=>do
   DM (t.2.2.2.2.1+1)
   pure (.yield (none,t.2.1,t.2.2.1,t.2.2.2.1,t.2.2.2.2.1+1))
def KB (a b:Array Keyed):SM (Array Keyed):=do
 rule "list.sort.merge-lo"
 let x <-elem' b 0
 if (1 == b.size)=true then pure (dnA a b #[x] 0 1)
 else if (0+1 == a.size)=true then pure (lAA a b #[x] 0 1)
 else do
  let st <-get
  let s <-forIn [0:a.size+b.size] ((none,#[x],0,1,gallopOf st):LoO) fun _ c=>loO a b c.2.1 c.2.2.1 c.2.2.2.1 c.2.2.2.2
  match s.1 with
  | some r=>pure r
  | none=>unsupported "internal:list.sort.merge-bound"
theorem Vd (a b:Array Keyed):mLo a b=KB a b:=by
 rw[Vz]
 unfold KB
 refine congrArg (fun k=>(liftM (rule "list.sort.merge-lo"):SM _) >>= k) (funext fun _=>?_)
 refine congrArg (fun k=>elem' b 0 >>= k) (funext fun x=>?_)
 dsimp only
 refine congrArg (fun k=>ite _ _ (ite _ _ k)) ?_
 refine congrArg (fun k=>get >>= k) (funext fun st=>?_)
 refine congr (congrArg (fun f k=>forIn _ _ f >>= k) (funext fun _=>funext fun c=>?_)) (funext fun s=>?_)
 ·unfold loO
  refine congr (congrArg (fun f k=>forIn _ _ f >>= k) (funext fun _=>funext fun d=>?_)) (funext fun s=>?_)
  ·unfold loI
   rfl
  ·cases h:s.1 with
   | some r=>rfl
   | none=>
    refine congrArg (fun k=>(liftM (rule "list.sort.gallop"):SM _) >>= k) (funext fun _=>?_)
    refine congr (congrArg (fun f k=>forIn _ _ f >>= k) (funext fun _=>funext fun d=>?_)) (funext fun t=>?_)
    ·rfl
    ·cases t.1<;>rfl
 ·cases s.1<;>rfl
section
variable {prog:Program} {w:World} {A:Around} {E:Value->Shared->Prop} {s:Shared} {kd:SortKind} {good:Keyed->Prop} {lt:Keyed->Keyed->Bool} {st:SortSt} {a b:Array Keyed} {Q:Array Keyed->SortSt->Prop}
theorem at_of {xs:Array Keyed} {i:Nat} (h:i<xs.size):xs[i]?=some xs[i]/\xs.toList[i]?=some xs[i]:=⟨Array.getElem?_eq_getElem h,by simp[h]⟩
theorem EV (C:Cmp prog w A E s kd good lt) (O:Ord good lt) (hk:kindOf st=kd) {left:Bool} {key:Keyed} {xs:Array Keyed} {bs n h:Nat} {Q:Option Nat->SortSt->Prop} (hg:good key) (hn:bs+n<=xs.size)
  (hgs:∀ i,i<n->∀ x,xs.toList[bs+i]?=some x->good x) (hsrt:∀ i j x y,i<j->j<n->xs.toList[bs+i]?=some x->xs.toList[bs+j]?=some y->LE lt x y) (hh:h<n)
  (hQ:∀ k,k<=n->(∀ i x,i<k->xs.toList[bs+i]?=some x->LE lt x key)->(∀ i x,k<=i->i<n->xs.toList[bs+i]?=some x->LE lt key x)->Q (some k) st):wpS (model prog w) A E s (gal left key xs bs n h) Q st:=by
 refine Sw (B:=fun i=>bq lt left key (xs[bs+i]?.getD key)) C hk hg (fun i hi=>?_) (fun i j hij hj hb=>?_) hh fun k k1 k2 k3=>hQ k k1 (fun i x hi hx=>?_) fun i x hi1 hi2 hx=>?_
 ·obtain ⟨e,l⟩:=at_of (xs:=xs) (i:=bs+i) (by lia)
  exact ⟨_,e,hgs i hi _ l,by rw[e];rfl⟩
 ·obtain ⟨e1,l1⟩:=at_of (xs:=xs) (i:=bs+i) (by lia)
  obtain ⟨e2,l2⟩:=at_of (xs:=xs) (i:=bs+j) (by lia)
  rw[e1,Option.getD_some]
  rw[e2,Option.getD_some] at hb
  by_cases hh:i=j
  ·subst hh;exact hb
  have hs:=hsrt i j _ _ (by lia) hj l1 l2
  have g1:=hgs i (by lia) _ l1
  have g2:=hgs j hj _ l2
  cases left with
  | true=>
   have hb':lt xs[bs+j] key=true:=hb
   show lt xs[bs+i] key=true
   cases q:lt xs[bs+i] key with
   | true=>rfl
   | false=>
    have:=O.tr hg g1 g2 q hs
    rw[hb'] at this
    cases this
  | false=>
   have hb':(!lt key xs[bs+j])=true:=hb
   show (!lt key xs[bs+i])=true
   rw[Bool.not_eq_true'] at hb' ⊢
   exact O.tr g1 g2 hg hs hb'
 ·have hlt:bs+i<xs.size:=by
   have:=(List.getElem?_eq_some_iff.mp hx).1
   simpa using this
  obtain ⟨e,l⟩:=at_of hlt
  rw[l] at hx
  have z:=k2 i hi
  rw[e,Option.getD_some] at z
  have hx':xs[bs+i]=x:=Option.some.inj hx
  rw[hx'] at z l
  have gx:=hgs i (by lia) _ l
  cases left with
  | true=>exact O.tot gx hg z
  | false=>
   have z':(!lt key x)=true:=z
   rwa [Bool.not_eq_true'] at z'
 ·have hlt:bs+i<xs.size:=by lia
  obtain ⟨e,l⟩:=at_of hlt
  rw[l] at hx
  have z:=k3 i hi1 hi2
  rw[e,Option.getD_some] at z
  have hx':xs[bs+i]=x:=Option.some.inj hx
  rw[hx'] at z l
  have gx:=hgs i hi2 _ l
  cases left with
  | true=>exact z
  | false=>
   have z':(!lt key x)=false:=z
   rw[Bool.not_eq_false'] at z'
   exact O.tot hg gx z'
theorem Nw {l:List Keyed} {i:Nat} {z:Keyed} (h:z∈l.drop i):∃ j,l[i+j]?=some z:=by
 obtain ⟨j,hj⟩:=List.mem_iff_getElem?.mp h
 exact ⟨j,by rw[<-List.getElem?_drop];exact hj⟩
theorem DH {l:List Keyed} {i:Nat} {z:Keyed} (h:l[i]?=some z):i<l.length:=(List.getElem?_eq_some_iff.mp h).1
structure LoL (good:Keyed->Prop) (lt:Keyed->Keyed->Bool) (a b:Array Keyed):Prop where
 sa:SL good lt a.toList
 sb:SL good lt b.toList
 lowB:∀ {p q:Nat} {x y:Keyed},a.toList[p]?=some x->b.toList[q]?=some y->LE lt y x->∀ z∈a.toList.drop p,LE lt y z
 lowA:∀ {p q:Nat} {x y:Keyed},a.toList[p]?=some x->b.toList[q]?=some y->LE lt x y->∀ z∈b.toList.drop q,LE lt x z
structure LoR (good:Keyed->Prop) (lt:Keyed->Keyed->Bool) (a b:Array Keyed) (n:Nat) (R:ForInStep LoS->SortSt->Prop) (st:SortSt):Prop where
 fin:∀ {o:Array Keyed} {p q:Nat} {z},MI good lt a.toList b.toList o.toList p q->(p=a.size\/q=b.size)->R (.done (some (dnA a b o p q),z)) st
 las:∀ {o:Array Keyed} {p q:Nat} {z},MI good lt a.toList b.toList o.toList p q->p+1=a.size->R (.done (some (lAA a b o p q),z)) st
 don:∀ {o:Array Keyed} {p q mg ac bc:Nat},MI good lt a.toList b.toList o.toList p q->p+1<a.size->q<b.size->n<=o.size->R (.done (none,o,p,q,mg,ac,bc)) st
 yie:∀ {o:Array Keyed} {p q mg ac bc:Nat},MI good lt a.toList b.toList o.toList p q->p+1<a.size->q<b.size->n<=o.size->R (.yield (none,o,p,q,mg,ac,bc)) st
theorem B9 {i j:Nat} (h:¬(i == j)=true):¬i=j:=fun z=>h (by rw[z];simp)
theorem Lc {R:ForInStep LoS->SortSt->Prop} {n p q mg ac bc:Nat} {o:Array Keyed} (L:LoR good lt a b n R st) (sa:SL good lt a.toList) (hp:p+1<a.size) {x:Keyed} (ex:a[p]?=some x) (lx:a.toList[p]?=some x)
  (m:MI good lt a.toList b.toList o.toList p q) (al:∀ z∈b.toList.drop q,LE lt x z) (hq:q<b.size) (hn:n<=o.size):wpS (model prog w) A E s (Gb a b p mg ac bc o q) R st:=by
 unfold Gb
 refine wpS_bind (BQ ex ?_)
 have mc:MI good lt a.toList b.toList (o.push x).toList (p+1) q:=by rw[Array.toList_push];exact m.pushA sa lx al
 have hn':n<=(o.push x).size:=by rw[Array.size_push];lia
 by_cases f1:(p+1+1 == a.size)=true
 ·rw[if_pos f1]
  exact wpS_pure (L.las mc (eq_of_beq f1))
 rw[if_neg f1]
 have f2:=B9 f1
 split
 ·exact wpS_pure (L.don mc (by lia) hq hn')
 ·exact wpS_pure (L.yie mc (by lia) hq hn')
theorem O6 {R:ForInStep LoS->SortSt->Prop} {n p q mg ac bc:Nat} {o:Array Keyed} (C:Cmp prog w A E s kd good lt) (O:Ord good lt) (hk:kindOf st=kd) (L:LoR good lt a b n R st) (W:LoL good lt a b)
  (hp:p+1<a.size) (hq:q<b.size) {y:Keyed} (ey:b[q]?=some y) (ly:b.toList[q]?=some y) (m:MI good lt a.toList b.toList o.toList p q) (bl:∀ z∈a.toList.drop p,LE lt y z) (hn:n<=o.size) :
  wpS (model prog w) A E s (HW a b q mg ac bc o p) R st:=by
 unfold HW
 obtain ⟨sa,sb,lowB,lowA⟩:=id W
 refine wpS_bind (BQ ey ?_)
 have mb:MI good lt a.toList b.toList (o.push y).toList p (q+1):=by rw[Array.toList_push];exact m.pushB sb ly bl
 have hn':n<=(o.push y).size:=by rw[Array.size_push];lia
 by_cases d1:(q+1 == b.size)=true
 ·rw[if_pos d1]
  exact wpS_pure (L.fin mb (.inr (eq_of_beq d1)))
 rw[if_neg d1]
 have d2:=B9 d1
 obtain ⟨eaX,laX⟩:=at_of (xs:=a) (i:=p) (by lia)
 refine wpS_bind (BQ eaX (wpS_bind (EV (xs:=b) (bs:=q+1) (n:=b.size - (q+1)) (h:=0) C O hk (sa.good_at laX) (by lia) (fun i _ x hx=>sb.good_at hx) (fun i j x y hij _ hx hy=>sb.up hx hy (by lia)) (by lia) fun k j1 j2 j3=>?_)))
 have al:∀ z∈b.toList.drop (q+1+k),LE lt a[p] z:=fun z hz=>by
  obtain ⟨j,hj⟩:=Nw hz
  rw[Nat.add_assoc (q+1)] at hj
  have:=DH hj
  rw[Array.length_toList] at this
  exact j3 (k+j) z (by lia) (by lia) hj
 dsimp only
 by_cases e3:k > 0
 ·rw[if_pos e3]
  have mk2:MI good lt a.toList b.toList (o.push y++b.extract (q+1) (q+1+k)).toList p (q+1+k):=by
   rw[Array.toList_append,MJ]
   exact mb.blockB sb k (by rw[Array.length_toList];lia) fun i y hi hy=>lowB laX hy (j2 i y hi hy)
  by_cases e4:(q+1+k == b.size)=true
  ·rw[if_pos e4]
   exact wpS_pure (L.fin mk2 (.inr (eq_of_beq e4)))
  rw[if_neg e4]
  have e5:=B9 e4
  exact Lc L sa hp eaX laX mk2 al (by lia) (by rw[Array.size_append];lia)
 ·rw[if_neg e3]
  have k0:k=0:=by lia
  rw[k0] at al
  exact Lc L sa hp eaX laX mb al (by lia) hn'
theorem Ly {R:ForInStep LoS->SortSt->Prop} {n p q mg ac bc:Nat} {o:Array Keyed} (C:Cmp prog w A E s kd good lt) (O:Ord good lt) (hk:kindOf (setG st mg)=kd) (L:LoR good lt a b n R (setG st mg)) (W:LoL good lt a b)
  (hp:p+1<a.size) (hq:q<b.size) (m:MI good lt a.toList b.toList o.toList p q) (hn:n<=o.size) :
  wpS (model prog w) A E s (Ha a b q ac bc o p mg) R st:=by
 unfold Ha
 obtain ⟨sa,sb,lowB,lowA⟩:=id W
 rw[G0]
 refine wpS_bind (wpS_modify ?_)
 obtain ⟨eb,lb⟩:=at_of hq
 refine wpS_bind (BQ eb (wpS_bind (EV (xs:=a) (bs:=p) (n:=a.size - p) (h:=0) C O hk (sb.good_at lb) (by lia) (fun i _ x hx=>sa.good_at hx) (fun i j x y hij _ hx hy=>sa.up hx hy (by lia)) (by lia) fun k k1 k2 k3=>?_)))
 have bl:∀ z∈a.toList.drop (p+k),LE lt b[q] z:=fun z hz=>by
  obtain ⟨j,hj⟩:=Nw hz
  rw[Nat.add_assoc] at hj
  have:=DH hj
  rw[Array.length_toList] at this
  exact k3 (k+j) z (by lia) (by lia) hj
 dsimp only
 by_cases c3:k > 0
 ·rw[if_pos c3]
  have mk:MI good lt a.toList b.toList (o++a.extract p (p+k)).toList (p+k) q:=by
   rw[Array.toList_append,MJ]
   exact m.blockA sa k (by rw[Array.length_toList];lia) fun i x hi hx=>lowA hx lb (k2 i x hi hx)
  by_cases c4:(p+k+1 == a.size)=true
  ·rw[if_pos c4]
   exact wpS_pure (L.las mk (eq_of_beq c4))
  rw[if_neg c4]
  have c4':=B9 c4
  by_cases c5:(p+k == a.size)=true
  ·rw[if_pos c5]
   exact wpS_pure (L.fin mk (.inl (eq_of_beq c5)))
  rw[if_neg c5]
  have c5':=B9 c5
  exact O6 C O hk L W (by lia) hq eb lb mk bl (by rw[Array.size_append];lia)
 ·rw[if_neg c3]
  have k0:k=0:=by lia
  rw[k0] at bl
  exact O6 C O hk L W hp hq eb lb m bl hn
theorem Xg {R:ForInStep LoS->SortSt->Prop} {n p q mg ac bc:Nat} {o:Array Keyed} (C:Cmp prog w A E s kd good lt) (O:Ord good lt) (hk:∀ g,kindOf (setG st g)=kd) (L:∀ g,LoR good lt a b n R (setG st g)) (W:LoL good lt a b)
  (hp:p+1<a.size) (hq:q<b.size) (m:MI good lt a.toList b.toList o.toList p q) (hn:n<=o.size) :
  wpS (model prog w) A E s (loG a b o p q mg ac bc) R st:=by
 unfold loG
 split
 ·exact Ly C O (hk _) (L _) W hp hq m hn
 ·exact Ly C O (hk _) (L _) W hp hq m hn
theorem Y7 {R:ForInStep LoI->SortSt->Prop} {n mg p q ac bc:Nat} {o:Array Keyed} (C:Cmp prog w A E s kd good lt) (O:Ord good lt) (hk:kindOf st=kd) (W:LoL good lt a b)
  (fin:∀ {o:Array Keyed} {p q:Nat} {z},MI good lt a.toList b.toList o.toList p q->(p=a.size\/q=b.size)->R (.done (some (dnA a b o p q),z)) st)
  (las:∀ {o:Array Keyed} {p q:Nat} {z},MI good lt a.toList b.toList o.toList p q->p+1=a.size->R (.done (some (lAA a b o p q),z)) st)
  (don:∀ {o:Array Keyed} {p q ac bc:Nat},MI good lt a.toList b.toList o.toList p q->p+1<a.size->q<b.size->n+1<=o.size->R (.done (none,o,p,q,ac,bc)) st)
  (yie:∀ {o:Array Keyed} {p q ac bc:Nat},MI good lt a.toList b.toList o.toList p q->p+1<a.size->q<b.size->n+1<=o.size->R (.yield (none,o,p,q,ac,bc)) st)
  (hp:p+1<a.size) (hq:q<b.size) (m:MI good lt a.toList b.toList o.toList p q) (hn:n<=o.size):wpS (model prog w) A E s (loI a b mg o p q ac bc) R st:=by
 unfold loI
 obtain ⟨sa,sb,lowB,lowA⟩:=id W
 obtain ⟨eb,lb⟩:=at_of hq
 obtain ⟨ea,la⟩:=at_of (xs:=a) (i:=p) (by lia)
 refine wpS_bind (BQ eb (wpS_bind (BQ ea (wpS_bind (C.run hk (sb.good_at lb) (sa.good_at la) ?_)))))
 dsimp only
 cases hlt:lt b[q] a[p] with
 | true=>
  rw[if_pos rfl]
  have mm:MI good lt a.toList b.toList (o.push b[q]).toList p (q+1):=by rw[Array.toList_push];exact m.pushB sb lb (lowB la lb (O.tot (sb.good_at lb) (sa.good_at la) hlt))
  have hn':n+1<=(o.push b[q]).size:=by rw[Array.size_push];lia
  refine wpS_bind (BQ eb ?_)
  by_cases d1:(q+1 == b.size)=true
  ·rw[if_pos d1]
   exact wpS_pure (fin mm (.inr (eq_of_beq d1)))
  ·rw[if_neg d1]
   have d2:=B9 d1
   split
   ·exact wpS_pure (don mm hp (by lia) hn')
   ·exact wpS_pure (yie mm hp (by lia) hn')
 | false=>
  rw[if_neg Bool.false_ne_true]
  have mm:MI good lt a.toList b.toList (o.push a[p]).toList (p+1) q:=by rw[Array.toList_push];exact m.pushA sa la (lowA la lb hlt)
  have hn':n+1<=(o.push a[p]).size:=by rw[Array.size_push];lia
  refine wpS_bind (BQ ea ?_)
  by_cases d1:(p+1+1 == a.size)=true
  ·rw[if_pos d1]
   exact wpS_pure (las mm (eq_of_beq d1))
  ·rw[if_neg d1]
   have d2:=B9 d1
   split
   ·exact wpS_pure (don mm (by lia) hq hn')
   ·exact wpS_pure (yie mm (by lia) hq hn')
theorem Su {R:ForInStep LoO->SortSt->Prop} {st1:SortSt} {mg p q:Nat} {o:Array Keyed} (C:Cmp prog w A E s kd good lt) (O:Ord good lt) (hk:kindOf st=kd) (W:LoL good lt a b)
  (fin:∀ {st':SortSt} {o:Array Keyed} {p q:Nat},SG st st'->MI good lt a.toList b.toList o.toList p q->(p=a.size\/q=b.size)->Q (dnA a b o p q) st')
  (las:∀ {st':SortSt} {o:Array Keyed} {p q:Nat},SG st st'->MI good lt a.toList b.toList o.toList p q->p+1=a.size->Q (lAA a b o p q) st')
  (r1:∀ {st':SortSt} {r z},SG st st'->Q r st'->R (.done (some r,z)) st')
  (r2:∀ {st':SortSt} {o':Array Keyed} {p q mg:Nat},SG st st'->MI good lt a.toList b.toList o'.toList p q->p+1<a.size->q<b.size->o.size+1<=o'.size->R (.yield (none,o',p,q,mg)) st')
  (g1:SG st st1) (hp:p+1<a.size) (hq:q<b.size) (m:MI good lt a.toList b.toList o.toList p q):wpS (model prog w) A E s (loO a b o p q mg) R st1:=by
 unfold loO
 refine wpS_bind (wpS_mono (wpS_forRange
  (I:=fun y c st2=>SG st st2/\∃ o' p' q' ac bc,c=(none,o',p',q',ac,bc)/\MI good lt a.toList b.toList o'.toList p' q'/\p'+1<a.size/\q'<b.size/\o.size+y<=o'.size)
  (Q:=fun c st2=>SG st st2/\((∃ r z,c=(some r,z)/\Q r st2)\/∃ o' p' q' ac bc,c=(none,o',p',q',ac,bc)/\MI good lt a.toList b.toList o'.toList p' q'/\p'+1<a.size/\q'<b.size/\o.size+1<=o'.size))
  ?istep ?ifin ⟨g1,o,p,q,0,0,rfl,m,hp,hq,Nat.le_refl _⟩) ?ipost)
 case ifin=>
  rintro c st2 ⟨g2,o',p',q',ac,bc,rfl,m',hp',hq',ho'⟩
  exact ⟨g2,.inr ⟨o',p',q',ac,bc,rfl,m',hp',hq',by lia⟩⟩
 case istep=>
  rintro y c st2 _ hy ⟨g2,o',p',q',ac,bc,rfl,m',hp',hq',ho'⟩
  exact Y7 (n:=o.size+y) C O (g2.kind.trans hk) W (fun m h=>⟨g2,.inl ⟨_,_,rfl,fin g2 m h⟩⟩) (fun m h=>⟨g2,.inl ⟨_,_,rfl,las g2 m h⟩⟩) (fun m h1 h2 h3=>⟨g2,.inr ⟨_,_,_,_,_,rfl,m,h1,h2,by lia⟩⟩) (fun m h1 h2 h3=>⟨g2,_,_,_,_,_,rfl,m,h1,h2,h3⟩) hp' hq' m' ho'
 case ipost=>
  rintro c st2 ⟨g2,⟨r,z,rfl,hr⟩ | ⟨o',p',q',ac,bc,rfl,m',hp',hq',ho'⟩⟩
  ·exact wpS_pure (r1 g2 hr)
  ·refine wpS_bind (wpS_lift (wpAny_rule ⟨rfl,?_⟩))
   refine wpS_bind (wpS_mono (wpS_forRange
    (I:=fun y c st3=>SG st st3/\∃ o2 p2 q2 mg2 ac2 bc2,c=(none,o2,p2,q2,mg2,ac2,bc2)/\MI good lt a.toList b.toList o2.toList p2 q2/\p2+1<a.size/\q2<b.size/\o'.size<=o2.size)
    (Q:=fun c st3=>SG st st3/\((∃ r z,c=(some r,z)/\Q r st3)\/∃ o2 p2 q2 mg2 ac2 bc2,c=(none,o2,p2,q2,mg2,ac2,bc2)/\MI good lt a.toList b.toList o2.toList p2 q2/\p2+1<a.size/\q2<b.size/\o'.size<=o2.size))
    ?gstep ?gfin ⟨g2,o',p',q',_,ac,bc,rfl,m',hp',hq',Nat.le_refl _⟩) ?gpost)
   case gfin=>
    rintro c st3 ⟨g3,o2,p2,q2,mg2,ac2,bc2,rfl,m2,hp2,hq2,ho2⟩
    exact ⟨g3,.inr ⟨o2,p2,q2,mg2,ac2,bc2,rfl,m2,hp2,hq2,ho2⟩⟩
   case gpost=>
    rintro c st3 ⟨g3,⟨r,z,rfl,hr⟩ | ⟨o2,p2,q2,mg2,ac2,bc2,rfl,m2,hp2,hq2,ho2⟩⟩
    ·exact wpS_pure (r1 g3 hr)
    ·dsimp only
     rw[G0]
     exact wpS_bind (wpS_modify (wpS_pure (r2 (g3.setG _) m2 hp2 hq2 (by lia))))
   case gstep=>
    rintro y c st3 _ hy ⟨g3,o2,p2,q2,mg2,ac2,bc2,rfl,m2,hp2,hq2,ho2⟩
    exact Xg C O (fun g=>(g3.setG g).kind.trans hk) (fun g=>⟨fun m h=>⟨g3.setG _,.inl ⟨_,_,rfl,fin (g3.setG _) m h⟩⟩,fun m h=>⟨g3.setG _,.inl ⟨_,_,rfl,las (g3.setG _) m h⟩⟩,fun m h1 h2 h3=>⟨g3.setG _,.inr ⟨_,_,_,_,_,_,rfl,m,h1,h2,h3⟩⟩,fun m h1 h2 h3=>⟨g3.setG _,_,_,_,_,_,_,rfl,m,h1,h2,h3⟩⟩) W hp2 hq2 m2 ho2
theorem Vo (C:Cmp prog w A E s kd good lt) (O:Ord good lt) (hk:kindOf st=kd) (sa:SL good lt a.toList) (sb:SL good lt b.toList) (ha:0<a.size) (hb:0<b.size)
  (h0:∀ x y,a.toList[0]?=some x->b.toList[0]?=some y->LE lt y x) (h1:∀ x,a.toList[a.size - 1]?=some x->∀ y∈b.toList,LE lt y x)
  (hQ:∀ r st',SG st st'->Good lt a.toList b.toList r.toList->Q r st'):wpS (model prog w) A E s (mLo a b) Q st:=by
 rw[Vd]
 unfold KB
 refine wpS_bind (wpS_lift (wpAny_rule ⟨rfl,?_⟩))
 obtain ⟨eb0,lb0⟩:=at_of hb
 obtain ⟨ea0,la0⟩:=at_of ha
 refine wpS_bind (BQ eb0 ?_)
 have m0:MI good lt a.toList b.toList [] 0 0:=⟨by simp,List.Pairwise.nil,fun x hx=>(nomatch hx),Nat.zero_le _,Nat.zero_le _⟩
 have lowB:∀ {p q:Nat} {x y:Keyed},a.toList[p]?=some x->b.toList[q]?=some y->LE lt y x->∀ z∈a.toList.drop p,LE lt y z:=fun {p q x y} hx hy hl z hz=>by
  rcases sa.from hx z hz with e | e
  ·rw[e];exact hl
  ·exact O.tr (sb.good_at hy) (sa.good_at hx) (sa.all z (List.mem_of_mem_drop hz)) hl e
 have lowA:∀ {p q:Nat} {x y:Keyed},a.toList[p]?=some x->b.toList[q]?=some y->LE lt x y->∀ z∈b.toList.drop q,LE lt x z:=fun {p q x y} hx hy hl z hz=>by
  rcases sb.from hy z hz with e | e
  ·rw[e];exact hl
  ·exact O.tr (sa.good_at hx) (sb.good_at hy) (sb.all z (List.mem_of_mem_drop hz)) hl e
 have W:LoL good lt a b:=⟨sa,sb,lowB,lowA⟩
 have m1:MI good lt a.toList b.toList [b[0]] 0 1:=m0.pushB sb lb0 (lowB la0 lb0 (h0 _ _ la0 lb0))
 have fin:∀ {st':SortSt} {o:Array Keyed} {p q:Nat},SG st st'->MI good lt a.toList b.toList o.toList p q->(p=a.size\/q=b.size)->Q (o++a.extract p a.size++b.extract q b.size) st':=fun {st' o p q} g m h=>by
  refine hQ _ st' g ?_
  rw[Array.toList_append,Array.toList_append,Gz,Gz]
  refine m.done sa sb ?_
  rcases h with h | h
  ·exact .inl (List.drop_eq_nil_of_le (by rw[h];simp))
  ·exact .inr (List.drop_eq_nil_of_le (by rw[h];simp))
 have las:∀ {st':SortSt} {o:Array Keyed} {p q:Nat},SG st st'->MI good lt a.toList b.toList o.toList p q->p+1=a.size->Q (o++b.extract q b.size++a.extract p a.size) st':=fun {st' o p q} g m h=>by
  refine hQ _ st' g ?_
  rw[Array.toList_append,Array.toList_append,Gz,Gz]
  obtain ⟨_,l⟩:=at_of (xs:=a) (i:=p) (by lia)
  refine m.last sb l (by simpa using h) (h1 _ ?_)
  rw[show a.size - 1=p by lia]
  exact l
 by_cases c1:(1 == b.size)=true
 ·rw[if_pos c1]
  exact wpS_pure (fin (SG.refl _) m1 (.inr (eq_of_beq c1)))
 rw[if_neg c1]
 have nb:1<b.size:=by
  have:¬1=b.size:=fun z=>c1 (by rw[<-z];rfl)
  lia
 by_cases c2:(0+1 == a.size)=true
 ·rw[if_pos c2]
  exact wpS_pure (las (SG.refl _) m1 (eq_of_beq c2))
 rw[if_neg c2]
 have na:1<a.size:=by
  have:¬0+1=a.size:=fun z=>c2 (by rw[<-z];rfl)
  lia
 refine wpS_bind (wpS_get ?_)
 refine wpS_bind (wpS_mono (wpS_forRange
  (I:=fun x c st'=>SG st st'/\∃ o p q mg,c=(none,o,p,q,mg)/\MI good lt a.toList b.toList o.toList p q/\p+1<a.size/\q<b.size/\x+1<=o.size)
  (Q:=fun c st'=>SG st st'/\∃ r o,c=(some r,o)/\Q r st') ?ostep ?ofin ⟨SG.refl _,#[b[0]],0,1,_,rfl,m1,by lia,nb,by simp⟩) ?opost)
 case ofin=>
  rintro c st' ⟨g,o,p,q,mg,rfl,m,hp,hq,ho⟩
  have:=m.size
  rw[Array.length_toList] at this
  lia
 case opost=>
  rintro c st' ⟨g,r,o,rfl,hq⟩
  exact wpS_pure hq
 case ostep=>
  rintro x c st1 _ hx ⟨g1,o,p,q,mg,rfl,m,hp,hq,ho⟩
  exact Su C O hk W fin las (fun g h=>⟨g,_,_,rfl,h⟩) (fun g m h1 h2 h3=>⟨g,_,_,_,_,rfl,m,h1,h2,Nat.le_trans (Nat.succ_le_succ ho) h3⟩) g1 hp hq m
end
abbrev dnB (a b o:Array Keyed) (p q:Nat):Array Keyed:=a.extract 0 p++b.extract 0 q++o.reverse
abbrev fBB (a b o:Array Keyed) (p q:Nat):Array Keyed:=b.extract 0 q++a.extract 0 p++o.reverse
theorem VQ (a b:Array Keyed):mHi a b=(do
 rule "list.sort.merge-hi"
 let mut p:=a.size - 1
 let mut q:=b.size
 let mut o:Array Keyed:=#[<-elem' a p]
 if p == 0 then return dnB a b o p q
 if q == 1 then return fBB a b o p q
 let mut mg:=gallopOf (<-get)
 for _ in [0:a.size+b.size] do
  let mut ac:=0
  let mut bc:=0
  for _ in [0:a.size+b.size] do
   let some aw <-lt' (<-elem' b (q - 1)) (<-elem' a (p - 1)) | return dnB a b o p q
   if aw then
    p:=p - 1;o:=o.push (<-elem' a p);ac:=ac+1;bc:=0
    if p == 0 then return dnB a b o p q
    if ac>=mg then break
   else
    q:=q - 1;o:=o.push (<-elem' b q);bc:=bc+1;ac:=0
    if q == 1 then return fBB a b o p q
    if bc>=mg then break
  rule "list.sort.gallop"
  mg:=mg+1
  for _ in [0:a.size+b.size] do
   if mg > 1 then mg:=mg - 1
   DM mg
   let some u <-gal false (<-elem' b (q - 1)) a 0 p (p - 1) | return dnB a b o p q
   let k:=p - u
   ac:=k
   if k > 0 then
    o:=o++(a.extract u p).reverse;p:=u
    if p == 0 then return dnB a b o p q
   q:=q - 1;o:=o.push (<-elem' b q)
   if q == 1 then return fBB a b o p q
   let some u <-gal true (<-elem' a (p - 1)) b 0 q (q - 1) | return dnB a b o p q
   let k:=q - u
   bc:=k
   if k > 0 then
    o:=o++(b.extract u q).reverse;q:=u
    if q == 1 then return fBB a b o p q
    if q == 0 then return dnB a b o p q
   p:=p - 1;o:=o.push (<-elem' a p)
   if p == 0 then return dnB a b o p q
   if ac<7 && bc<7 then break
  mg:=mg+1
  DM mg
 unsupported "internal:list.sort.merge-bound"):=rfl
structure MH (good:Keyed->Prop) (lt:Keyed->Keyed->Bool) (a b o:List Keyed) (p q:Nat):Prop where
 perm:(a.take p++(b.take q++o.reverse)).Perm (a++b)
 srt:o.reverse.Pairwise (LE lt)
 low:∀ x∈o,∀ y∈a.take p++b.take q,LE lt y x
 pa:p<=a.length
 qb:q<=b.length
section
variable {good:Keyed->Prop} {lt:Keyed->Keyed->Bool} {a b o:List Keyed} {p q k:Nat} {x:Keyed}
theorem MH.size (m:MH good lt a b o p q):o.length+p+q=a.length+b.length:=by
 have e:=m.perm.length_eq
 have:=m.pa
 have:=m.qb
 rw[List.length_append,List.length_append,List.length_append,List.length_take,List.length_take,List.length_reverse] at e
 lia
theorem Ii {l:List Keyed} {i:Nat} (h:l[i]?=some x):l.take (i+1)=l.take i++[x]:=by
 rw[List.take_add_one,h]
 rfl
theorem SL.under (s:SL good lt a) (h:a[p]?=some x):∀ y∈a.take p,LE lt y x:=fun y hy=>by
 obtain ⟨j,hj⟩:=List.mem_iff_getElem?.mp hy
 have hlt:j<p:=by
  have:=DH hj
  rw[List.length_take] at this
  lia
 rw[List.getElem?_take_of_lt hlt] at hj
 exact s.up hj h hlt
theorem MH.pushA (m:MH good lt a b o (p+1) q) (sa:SL good lt a) (h:a[p]?=some x) (hb:∀ y∈b.take q,LE lt y x):MH good lt a b (o++[x]) p q:=by
 have hd:=Ii h
 have hp:=DH h
 refine ⟨?_,?_,?_,by lia,m.qb⟩
 ·have e:=m.perm
  rw[hd] at e
  refine List.Perm.trans ?_ e
  rw[List.reverse_append,List.append_assoc]
  refine List.Perm.append_left _ ?_
  show (b.take q++x::o.reverse).Perm (x::(b.take q++o.reverse))
  exact List.perm_middle
 ·rw[List.reverse_append]
  refine List.pairwise_cons.mpr ⟨fun y hy=>m.low y (List.mem_reverse.mp hy) x (by rw[hd];simp),m.srt⟩
 ·intro y hy z hz
  rcases List.mem_append.mp hy with hy | hy
  ·exact m.low y hy z (by rw[hd];rcases List.mem_append.mp hz with w | w<;>simp[w])
  ·rw[List.mem_singleton] at hy
   subst hy
   rcases List.mem_append.mp hz with w | w
   ·exact sa.under h z w
   ·exact hb z w
theorem MH.pushB (m:MH good lt a b o p (q+1)) (sb:SL good lt b) (h:b[q]?=some x) (ha:∀ y∈a.take p,LE lt y x):MH good lt a b (o++[x]) p q:=by
 have hd:=Ii h
 have hq:=DH h
 refine ⟨?_,?_,?_,m.pa,by lia⟩
 ·have e:=m.perm
  rw[hd] at e
  refine List.Perm.trans ?_ e
  rw[List.reverse_append,List.append_assoc (b.take q)]
  exact List.Perm.refl _
 ·rw[List.reverse_append]
  refine List.pairwise_cons.mpr ⟨fun y hy=>m.low y (List.mem_reverse.mp hy) x (by rw[hd];simp),m.srt⟩
 ·intro y hy z hz
  rcases List.mem_append.mp hy with hy | hy
  ·exact m.low y hy z (by rw[hd];rcases List.mem_append.mp hz with w | w<;>simp[w])
  ·rw[List.mem_singleton] at hy
   subst hy
   rcases List.mem_append.mp hz with w | w
   ·exact ha z w
   ·exact sb.under h z w
theorem M4 {l:List Keyed} {u k:Nat} (h:l[u]?=some x):(l.drop u).take (k+1)=x::(l.drop (u+1)).take k:=by rw[EU h,List.take_succ_cons]
theorem MH.blockA (sa:SL good lt a):∀ (k u:Nat) (o:List Keyed),MH good lt a b o (u+k) q->(∀ i y,u<=i->i<u+k->a[i]?=some y->∀ z∈b.take q,LE lt z y)->MH good lt a b (o++((a.drop u).take k).reverse) u q
 | 0,u,o,m,_=>by simpa using m
 | k+1,u,o,m,h=>by
  have hlen:=m.pa
  have ih:=MH.blockA sa k (u+1) o (by rw[show u+1+k=u+(k+1) by lia];exact m) fun i y h1 h2=>h i y (by lia) (by lia)
  have e:a[u]?=some a[u]:=List.getElem?_eq_getElem (by lia)
  have r:=ih.pushA sa e (h u _ (Nat.le_refl _) (by lia) e)
  rw[M4 e,List.reverse_cons,<-List.append_assoc]
  exact r
theorem MH.blockB (sb:SL good lt b):∀ (k u:Nat) (o:List Keyed),MH good lt a b o p (u+k)->(∀ i y,u<=i->i<u+k->b[i]?=some y->∀ z∈a.take p,LE lt z y)->MH good lt a b (o++((b.drop u).take k).reverse) p u
 | 0,u,o,m,_=>by simpa using m
 | k+1,u,o,m,h=>by
  have hlen:=m.qb
  have ih:=MH.blockB sb k (u+1) o (by rw[show u+1+k=u+(k+1) by lia];exact m) fun i y h1 h2=>h i y (by lia) (by lia)
  have e:b[u]?=some b[u]:=List.getElem?_eq_getElem (by lia)
  have r:=ih.pushB sb e (h u _ (Nat.le_refl _) (by lia) e)
  rw[M4 e,List.reverse_cons,<-List.append_assoc]
  exact r
theorem MH.done (m:MH good lt a b o p q) (sa:SL good lt a) (sb:SL good lt b) (h:a.take p=[]\/b.take q=[]):Good lt a b (a.take p++b.take q++o.reverse):=by
 refine ⟨by rw[List.append_assoc];exact m.perm,?_⟩
 refine List.pairwise_append.mpr ⟨?_,m.srt,fun x hx y hy=>m.low y (List.mem_reverse.mp hy) x hx⟩
 rcases h with h | h
 ·rw[h,List.nil_append];exact sb.srt.sublist (List.take_sublist _ _)
 ·rw[h,List.append_nil];exact sa.srt.sublist (List.take_sublist _ _)
theorem MH.first (m:MH good lt a b o p 1) (sa:SL good lt a) (h:b[0]?=some x) (hx:∀ y∈a,LE lt x y):Good lt a b (b.take 1++a.take p++o.reverse):=by
 have hd:b.take 1=[x]:=Ii (i:=0) h
 constructor
 ·refine List.Perm.trans ?_ m.perm
  rw[List.append_assoc]
  exact List.perm_append_comm_assoc _ _ _
 ·refine List.pairwise_append.mpr ⟨?_,m.srt,fun y hy z hz=>m.low z (List.mem_reverse.mp hz) y (by rcases List.mem_append.mp hy with w | w<;>simp[w])⟩
  refine List.pairwise_append.mpr ⟨by rw[hd];exact List.pairwise_singleton _ _,sa.srt.sublist (List.take_sublist _ _),fun y hy z hz=>?_⟩
  rw[hd,List.mem_singleton] at hy
  subst hy
  exact hx z (List.mem_of_mem_take hz)
end
theorem Hn (xs:Array Keyed) (i:Nat):(xs.extract 0 i).toList=xs.toList.take i:=by simp[List.extract]
theorem Dv (xs:Array Keyed) (u p:Nat):(xs.extract u p).toList=(xs.toList.drop u).take (p - u):=by simp[List.extract]
section
variable {good:Keyed->Prop} {lt:Keyed->Keyed->Bool} {a b o:List Keyed} {p q u:Nat} {x:Keyed}
theorem MH.pushA' (m:MH good lt a b o p q) (hp:0<p) (sa:SL good lt a) (h:a[p - 1]?=some x) (hb:∀ y∈b.take q,LE lt y x):MH good lt a b (o++[x]) (p - 1) q:=
 MH.pushA (by rw[show p - 1+1=p by lia];exact m) sa h hb
theorem MH.pushB' (m:MH good lt a b o p q) (hq:0<q) (sb:SL good lt b) (h:b[q - 1]?=some x) (ha:∀ y∈a.take p,LE lt y x):MH good lt a b (o++[x]) p (q - 1):=
 MH.pushB (by rw[show q - 1+1=q by lia];exact m) sb h ha
theorem MH.blockA' (m:MH good lt a b o p q) (hu:u<=p) (sa:SL good lt a) (h:∀ i y,u<=i->i<p->a[i]?=some y->∀ z∈b.take q,LE lt z y):MH good lt a b (o++((a.drop u).take (p - u)).reverse) u q:=
 MH.blockA sa (p - u) u o (by rw[show u+(p - u)=p by lia];exact m) fun i y h1 h2=>h i y h1 (by lia)
theorem MH.blockB' (m:MH good lt a b o p q) (hu:u<=q) (sb:SL good lt b) (h:∀ i y,u<=i->i<q->b[i]?=some y->∀ z∈a.take p,LE lt z y):MH good lt a b (o++((b.drop u).take (q - u)).reverse) p u:=
 MH.blockB sb (q - u) u o (by rw[show u+(q - u)=q by lia];exact m) fun i y h1 h2=>h i y h1 (by lia)
theorem GP {l:List Keyed} {i:Nat} {z:Keyed} (h:z∈l.take i):∃ j,j<i/\l[j]?=some z:=by
 obtain ⟨j,hj⟩:=List.mem_iff_getElem?.mp h
 have hlt:j<i:=by
  have:=DH hj
  rw[List.length_take] at this
  lia
 exact ⟨j,hlt,by rwa [List.getElem?_take_of_lt hlt] at hj⟩
end
abbrev HiS:=Option (Array Keyed)×Nat×Nat×Array Keyed×Nat×Nat×Nat
abbrev HiI:=Option (Array Keyed)×Nat×Nat×Array Keyed×Nat×Nat
abbrev HiO:=Option (Array Keyed)×Nat×Nat×Array Keyed×Nat
def Hw (a b:Array Keyed) (p mg ac bc:Nat) (o:Array Keyed) (q:Nat):SM (ForInStep HiS):=do
 let x <-elem' a (p - 1)
 if (p - 1 == 0)=true then pure (.done (some (dnB a b (o.push x) (p - 1) q),p - 1,q,o.push x,mg,ac,bc))
 else if (decide (ac<7) && decide (bc<7))=true then pure (.done (none,p - 1,q,o.push x,mg,ac,bc))
 else pure (.yield (none,p - 1,q,o.push x,mg,ac,bc))
def Gc (a b:Array Keyed) (q mg ac bc:Nat) (o:Array Keyed) (p:Nat):SM (ForInStep HiS):=do
 let x <-elem' b (q - 1)
 if (q - 1 == 1)=true then pure (.done (some (fBB a b (o.push x) p (q - 1)),p,q - 1,o.push x,mg,ac,bc))
 else do
  let y <-elem' a (p - 1)
  let r <-gal true y b 0 (q - 1) (q - 1 - 1)
  match r with
  | some u=>
   if q - 1 - u > 0 then
    if (u == 1)=true then pure (.done (some (fBB a b (o.push x++(b.extract u (q - 1)).reverse) p u),p,u,o.push x++(b.extract u (q - 1)).reverse,mg,ac,q - 1 - u))
    else if (u == 0)=true then pure (.done (some (dnB a b (o.push x++(b.extract u (q - 1)).reverse) p u),p,u,o.push x++(b.extract u (q - 1)).reverse,mg,ac,q - 1 - u))
    else Hw a b p mg ac (q - 1 - u) (o.push x++(b.extract u (q - 1)).reverse) u
   else Hw a b p mg ac (q - 1 - u) (o.push x) (q - 1)
  | _=>pure (.done (some (dnB a b (o.push x) p (q - 1)),p,q - 1,o.push x,mg,ac,bc))
def HZ (a b:Array Keyed) (q ac bc:Nat) (o:Array Keyed) (p mg:Nat):SM (ForInStep HiS):=do
 DM mg
 let x <-elem' b (q - 1)
 let r <-gal false x a 0 p (p - 1)
 match r with
 | some u=>
  if p - u > 0 then
   if (u == 0)=true then pure (.done (some (dnB a b (o++(a.extract u p).reverse) u q),u,q,o++(a.extract u p).reverse,mg,p - u,bc))
   else Gc a b q mg (p - u) bc (o++(a.extract u p).reverse) u
  else Gc a b q mg (p - u) bc o p
 | _=>pure (.done (some (dnB a b o p q),p,q,o,mg,ac,bc))
def hiG (a b o:Array Keyed) (p q mg ac bc:Nat):SM (ForInStep HiS):=if mg > 1 then HZ a b q ac bc o p (mg - 1) else HZ a b q ac bc o p mg
def hiI (a b:Array Keyed) (mg:Nat) (o:Array Keyed) (p q ac bc:Nat):SM (ForInStep HiI):=do
 let y <-elem' b (q - 1)
 let x <-elem' a (p - 1)
 let r <-lt' y x
 match r with
 | some aw=>
  if aw=true then do
   let z <-elem' a (p - 1)
   if (p - 1 == 0)=true then pure (.done (some (dnB a b (o.push z) (p - 1) q),p - 1,q,o.push z,ac+1,0))
   else if ac+1>=mg then pure (.done (none,p - 1,q,o.push z,ac+1,0)) else pure (.yield (none,p - 1,q,o.push z,ac+1,0))
  else do
   let z <-elem' b (q - 1)
   if (q - 1 == 1)=true then pure (.done (some (fBB a b (o.push z) p (q - 1)),p,q - 1,o.push z,0,bc+1))
   else if bc+1>=mg then pure (.done (none,p,q - 1,o.push z,0,bc+1)) else pure (.yield (none,p,q - 1,o.push z,0,bc+1))
 | _=>pure (.done (some (dnB a b o p q),p,q,o,ac,bc))
def hiO (a b o:Array Keyed) (p q mg:Nat):SM (ForInStep HiO):=do
 let s <-forIn [0:a.size+b.size] ((none,p,q,o,0,0):HiI) fun _ c=>hiI a b mg c.2.2.2.1 c.2.1 c.2.2.1 c.2.2.2.2.1 c.2.2.2.2.2
 match s.1 with
 | some r=>pure (.done (some r,s.2.1,s.2.2.1,s.2.2.2.1,mg))
 | none=>do
  rule "list.sort.gallop"
  let t <-forIn [0:a.size+b.size] ((none,s.2.1,s.2.2.1,s.2.2.2.1,mg+1,s.2.2.2.2.1,s.2.2.2.2.2):HiS) fun _ c=>hiG a b c.2.2.2.1 c.2.1 c.2.2.1 c.2.2.2.2.1 c.2.2.2.2.2.1 c.2.2.2.2.2.2
  match t.1 with
  | some r=>pure (.done (some r,t.2.1,t.2.2.1,t.2.2.2.1,t.2.2.2.2.1))
  | none=>do
   DM (t.2.2.2.2.1+1)
   pure (.yield (none,t.2.1,t.2.2.1,t.2.2.2.1,t.2.2.2.2.1+1))
def Jd (a b:Array Keyed):SM (Array Keyed):=do
 rule "list.sort.merge-hi"
 let x <-elem' a (a.size - 1)
 if (a.size - 1 == 0)=true then pure (dnB a b #[x] (a.size - 1) b.size)
 else if (b.size == 1)=true then pure (fBB a b #[x] (a.size - 1) b.size)
 else do
  let st <-get
  let s <-forIn [0:a.size+b.size] ((none,a.size - 1,b.size,#[x],gallopOf st):HiO) fun _ c=>hiO a b c.2.2.2.1 c.2.1 c.2.2.1 c.2.2.2.2
  match s.1 with
  | some r=>pure r
  | none=>unsupported "internal:list.sort.merge-bound"
theorem VL (a b:Array Keyed):mHi a b=Jd a b:=by
 rw[VQ]
 unfold Jd
 refine congrArg (fun k=>(liftM (rule "list.sort.merge-hi"):SM _) >>= k) (funext fun _=>?_)
 refine congrArg (fun k=>elem' a (a.size - 1) >>= k) (funext fun x=>?_)
 dsimp only
 refine congrArg (fun k=>ite _ _ (ite _ _ k)) ?_
 refine congrArg (fun k=>get >>= k) (funext fun st=>?_)
 refine congr (congrArg (fun f k=>forIn _ _ f >>= k) (funext fun _=>funext fun c=>?_)) (funext fun s=>?_)
 ·unfold hiO
  refine congr (congrArg (fun f k=>forIn _ _ f >>= k) (funext fun _=>funext fun d=>?_)) (funext fun s=>?_)
  ·unfold hiI
   rfl
  ·cases h:s.1 with
   | some r=>rfl
   | none=>
    refine congrArg (fun k=>(liftM (rule "list.sort.gallop"):SM _) >>= k) (funext fun _=>?_)
    refine congr (congrArg (fun f k=>forIn _ _ f >>= k) (funext fun _=>funext fun d=>?_)) (funext fun t=>?_)
    ·rfl
    ·cases t.1<;>rfl
 ·cases s.1<;>rfl
section
variable {prog:Program} {w:World} {A:Around} {E:Value->Shared->Prop} {s:Shared} {kd:SortKind} {good:Keyed->Prop} {lt:Keyed->Keyed->Bool} {st:SortSt} {a b:Array Keyed} {Q:Array Keyed->SortSt->Prop}
structure HiL (good:Keyed->Prop) (lt:Keyed->Keyed->Bool) (a b:Array Keyed):Prop where
 sa:SL good lt a.toList
 sb:SL good lt b.toList
 upA:∀ {p q:Nat} {x y:Keyed},0<q->a.toList[p]?=some x->b.toList[q - 1]?=some y->LE lt y x->∀ z∈b.toList.take q,LE lt z x
 upB:∀ {p q:Nat} {x y:Keyed},0<p->a.toList[p - 1]?=some x->b.toList[q]?=some y->LE lt x y->∀ z∈a.toList.take p,LE lt z y
structure HiR (good:Keyed->Prop) (lt:Keyed->Keyed->Bool) (a b:Array Keyed) (n:Nat) (R:ForInStep HiS->SortSt->Prop) (st:SortSt):Prop where
 fin:∀ {o:Array Keyed} {p q:Nat} {z},MH good lt a.toList b.toList o.toList p q->(p=0\/q=0)->R (.done (some (dnB a b o p q),z)) st
 fst:∀ {o:Array Keyed} {p q:Nat} {z},MH good lt a.toList b.toList o.toList p q->q=1->R (.done (some (fBB a b o p q),z)) st
 don:∀ {o:Array Keyed} {p q mg ac bc:Nat},MH good lt a.toList b.toList o.toList p q->0<p->1<q->n<=o.size->R (.done (none,p,q,o,mg,ac,bc)) st
 yie:∀ {o:Array Keyed} {p q mg ac bc:Nat},MH good lt a.toList b.toList o.toList p q->0<p->1<q->n<=o.size->R (.yield (none,p,q,o,mg,ac,bc)) st
theorem PV {R:ForInStep HiS->SortSt->Prop} {n p q mg ac bc:Nat} {o:Array Keyed} (L:HiR good lt a b n R st) (sa:SL good lt a.toList) (hp:0<p) {x:Keyed} (ex:a[p - 1]?=some x) (lx:a.toList[p - 1]?=some x)
  (m:MH good lt a.toList b.toList o.toList p q) (al:∀ z∈b.toList.take q,LE lt z x) (hq:1<q) (hn:n<=o.size):wpS (model prog w) A E s (Hw a b p mg ac bc o q) R st:=by
 unfold Hw
 refine wpS_bind (BQ ex ?_)
 have mc:MH good lt a.toList b.toList (o.push x).toList (p - 1) q:=by rw[Array.toList_push];exact m.pushA' hp sa lx al
 have hn':n<=(o.push x).size:=by rw[Array.size_push];lia
 by_cases f1:(p - 1 == 0)=true
 ·rw[if_pos f1]
  exact wpS_pure (L.fin mc (.inl (eq_of_beq f1)))
 rw[if_neg f1]
 have f2:=B9 f1
 split
 ·exact wpS_pure (L.don mc (by lia) hq hn')
 ·exact wpS_pure (L.yie mc (by lia) hq hn')
theorem Oi {R:ForInStep HiS->SortSt->Prop} {n p q mg ac bc:Nat} {o:Array Keyed} (C:Cmp prog w A E s kd good lt) (O:Ord good lt) (hk:kindOf st=kd) (L:HiR good lt a b n R st) (W:HiL good lt a b)
  (hp:0<p) (hq:1<q) {y:Keyed} (ey:b[q - 1]?=some y) (ly:b.toList[q - 1]?=some y) (m:MH good lt a.toList b.toList o.toList p q) (bl:∀ z∈a.toList.take p,LE lt z y) (hn:n<=o.size) :
  wpS (model prog w) A E s (Gc a b q mg ac bc o p) R st:=by
 unfold Gc
 obtain ⟨sa,sb,upA,upB⟩:=id W
 have hpl:=m.pa
 have hql:=m.qb
 rw[Array.length_toList] at hpl hql
 refine wpS_bind (BQ ey ?_)
 have mb:MH good lt a.toList b.toList (o.push y).toList p (q - 1):=by rw[Array.toList_push];exact m.pushB' (by lia) sb ly bl
 have hn':n<=(o.push y).size:=by rw[Array.size_push];lia
 by_cases d1:(q - 1 == 1)=true
 ·rw[if_pos d1]
  exact wpS_pure (L.fst mb (eq_of_beq d1))
 rw[if_neg d1]
 have d2:=B9 d1
 obtain ⟨eaX,laX⟩:=at_of (xs:=a) (i:=p - 1) (by lia)
 refine wpS_bind (BQ eaX (wpS_bind (EV (xs:=b) (bs:=0) (n:=q - 1) (h:=q - 1 - 1) C O hk (sa.good_at laX) (by lia) (fun i _ x hx=>sb.good_at hx) (fun i j x y hij _ hx hy=>sb.up hx hy (by lia)) (by lia) fun v j1 j2 j3=>?_)))
 simp only[Nat.zero_add] at j2 j3
 have al:∀ z∈b.toList.take v,LE lt z a[p - 1]:=fun z hz=>by
  obtain ⟨j,hj,ej⟩:=GP hz
  exact j2 j z hj ej
 dsimp only
 by_cases e3:q - 1 - v > 0
 ·rw[if_pos e3]
  have mk2:MH good lt a.toList b.toList (o.push y++(b.extract v (q - 1)).reverse).toList p v:=by
   rw[Array.toList_append,Array.toList_reverse,Dv]
   exact mb.blockB' j1 sb fun i x h1 h2 hx=>upB hp laX hx (j3 i x h1 h2 hx)
  by_cases e4:(v == 1)=true
  ·rw[if_pos e4]
   exact wpS_pure (L.fst mk2 (eq_of_beq e4))
  rw[if_neg e4]
  by_cases e5:(v == 0)=true
  ·rw[if_pos e5]
   exact wpS_pure (L.fin mk2 (.inr (eq_of_beq e5)))
  rw[if_neg e5]
  have e6:=B9 e4
  have e7:=B9 e5
  exact PV L sa hp eaX laX mk2 al (by lia) (by rw[Array.size_append];lia)
 ·rw[if_neg e3]
  have k0:v=q - 1:=by lia
  rw[k0] at al
  exact PV L sa hp eaX laX mb al (by lia) hn'
theorem MX {R:ForInStep HiS->SortSt->Prop} {n p q mg ac bc:Nat} {o:Array Keyed} (C:Cmp prog w A E s kd good lt) (O:Ord good lt) (hk:kindOf (setG st mg)=kd) (L:HiR good lt a b n R (setG st mg)) (W:HiL good lt a b)
  (hp:0<p) (hq:1<q) (m:MH good lt a.toList b.toList o.toList p q) (hn:n<=o.size):wpS (model prog w) A E s (HZ a b q ac bc o p mg) R st:=by
 unfold HZ
 obtain ⟨sa,sb,upA,upB⟩:=id W
 have hpl:=m.pa
 have hql:=m.qb
 rw[Array.length_toList] at hpl hql
 rw[G0]
 refine wpS_bind (wpS_modify ?_)
 obtain ⟨eb,lb⟩:=at_of (xs:=b) (i:=q - 1) (by lia)
 refine wpS_bind (BQ eb (wpS_bind (EV (xs:=a) (bs:=0) (n:=p) (h:=p - 1) C O hk (sb.good_at lb) (by lia) (fun i _ x hx=>sa.good_at hx) (fun i j x y hij _ hx hy=>sa.up hx hy (by lia)) (by lia) fun u k1 k2 k3=>?_)))
 simp only[Nat.zero_add] at k2 k3
 have bl:∀ z∈a.toList.take u,LE lt z b[q - 1]:=fun z hz=>by
  obtain ⟨j,hj,ej⟩:=GP hz
  exact k2 j z hj ej
 dsimp only
 by_cases c3:p - u > 0
 ·rw[if_pos c3]
  have mk:MH good lt a.toList b.toList (o++(a.extract u p).reverse).toList u q:=by
   rw[Array.toList_append,Array.toList_reverse,Dv]
   exact m.blockA' k1 sa fun i x h1 h2 hx=>upA (by lia) hx lb (k3 i x h1 h2 hx)
  by_cases c4:(u == 0)=true
  ·rw[if_pos c4]
   exact wpS_pure (L.fin mk (.inl (eq_of_beq c4)))
  rw[if_neg c4]
  have c5:=B9 c4
  exact Oi C O hk L W (by lia) hq eb lb mk bl (by rw[Array.size_append];lia)
 ·rw[if_neg c3]
  have k0:u=p:=by lia
  rw[k0] at bl
  exact Oi C O hk L W hp hq eb lb m bl hn
theorem QP {R:ForInStep HiS->SortSt->Prop} {n p q mg ac bc:Nat} {o:Array Keyed} (C:Cmp prog w A E s kd good lt) (O:Ord good lt) (hk:∀ g,kindOf (setG st g)=kd) (L:∀ g,HiR good lt a b n R (setG st g)) (W:HiL good lt a b)
  (hp:0<p) (hq:1<q) (m:MH good lt a.toList b.toList o.toList p q) (hn:n<=o.size):wpS (model prog w) A E s (hiG a b o p q mg ac bc) R st:=by
 unfold hiG
 split
 ·exact MX C O (hk _) (L _) W hp hq m hn
 ·exact MX C O (hk _) (L _) W hp hq m hn
theorem U7 {R:ForInStep HiI->SortSt->Prop} {n mg p q ac bc:Nat} {o:Array Keyed} (C:Cmp prog w A E s kd good lt) (O:Ord good lt) (hk:kindOf st=kd) (W:HiL good lt a b)
  (fin:∀ {o:Array Keyed} {p q:Nat} {z},MH good lt a.toList b.toList o.toList p q->(p=0\/q=0)->R (.done (some (dnB a b o p q),z)) st)
  (fst:∀ {o:Array Keyed} {p q:Nat} {z},MH good lt a.toList b.toList o.toList p q->q=1->R (.done (some (fBB a b o p q),z)) st)
  (don:∀ {o:Array Keyed} {p q ac bc:Nat},MH good lt a.toList b.toList o.toList p q->0<p->1<q->n+1<=o.size->R (.done (none,p,q,o,ac,bc)) st)
  (yie:∀ {o:Array Keyed} {p q ac bc:Nat},MH good lt a.toList b.toList o.toList p q->0<p->1<q->n+1<=o.size->R (.yield (none,p,q,o,ac,bc)) st)
  (hp:0<p) (hq:1<q) (m:MH good lt a.toList b.toList o.toList p q) (hn:n<=o.size):wpS (model prog w) A E s (hiI a b mg o p q ac bc) R st:=by
 unfold hiI
 obtain ⟨sa,sb,upA,upB⟩:=id W
 have hpl:=m.pa
 have hql:=m.qb
 rw[Array.length_toList] at hpl hql
 obtain ⟨eb,lb⟩:=at_of (xs:=b) (i:=q - 1) (by lia)
 obtain ⟨ea,la⟩:=at_of (xs:=a) (i:=p - 1) (by lia)
 refine wpS_bind (BQ eb (wpS_bind (BQ ea (wpS_bind (C.run hk (sb.good_at lb) (sa.good_at la) ?_)))))
 dsimp only
 cases hlt:lt b[q - 1] a[p - 1] with
 | true=>
  rw[if_pos rfl]
  have mm:MH good lt a.toList b.toList (o.push a[p - 1]).toList (p - 1) q:=by rw[Array.toList_push];exact m.pushA' hp sa la (upA (by lia) la lb (O.tot (sb.good_at lb) (sa.good_at la) hlt))
  have hn':n+1<=(o.push a[p - 1]).size:=by rw[Array.size_push];lia
  refine wpS_bind (BQ ea ?_)
  by_cases d1:(p - 1 == 0)=true
  ·rw[if_pos d1]
   exact wpS_pure (fin mm (.inl (eq_of_beq d1)))
  ·rw[if_neg d1]
   have d2:=B9 d1
   split
   ·exact wpS_pure (don mm (by lia) hq hn')
   ·exact wpS_pure (yie mm (by lia) hq hn')
 | false=>
  rw[if_neg Bool.false_ne_true]
  have mm:MH good lt a.toList b.toList (o.push b[q - 1]).toList p (q - 1):=by rw[Array.toList_push];exact m.pushB' (by lia) sb lb (upB hp la lb hlt)
  have hn':n+1<=(o.push b[q - 1]).size:=by rw[Array.size_push];lia
  refine wpS_bind (BQ eb ?_)
  by_cases d1:(q - 1 == 1)=true
  ·rw[if_pos d1]
   exact wpS_pure (fst mm (eq_of_beq d1))
  ·rw[if_neg d1]
   have d2:=B9 d1
   split
   ·exact wpS_pure (don mm hp (by lia) hn')
   ·exact wpS_pure (yie mm hp (by lia) hn')
theorem VT {R:ForInStep HiO->SortSt->Prop} {st1:SortSt} {mg p q:Nat} {o:Array Keyed} (C:Cmp prog w A E s kd good lt) (O:Ord good lt) (hk:kindOf st=kd) (W:HiL good lt a b)
  (fin:∀ {st':SortSt} {o:Array Keyed} {p q:Nat},SG st st'->MH good lt a.toList b.toList o.toList p q->(p=0\/q=0)->Q (dnB a b o p q) st')
  (fst:∀ {st':SortSt} {o:Array Keyed} {p q:Nat},SG st st'->MH good lt a.toList b.toList o.toList p q->q=1->Q (fBB a b o p q) st')
  (r1:∀ {st':SortSt} {r z},SG st st'->Q r st'->R (.done (some r,z)) st')
  (r2:∀ {st':SortSt} {o':Array Keyed} {p q mg:Nat},SG st st'->MH good lt a.toList b.toList o'.toList p q->0<p->1<q->o.size+1<=o'.size->R (.yield (none,p,q,o',mg)) st')
  (g1:SG st st1) (hp:0<p) (hq:1<q) (m:MH good lt a.toList b.toList o.toList p q):wpS (model prog w) A E s (hiO a b o p q mg) R st1:=by
 unfold hiO
 refine wpS_bind (wpS_mono (wpS_forRange
  (I:=fun y c st2=>SG st st2/\∃ p' q' o' ac bc,c=(none,p',q',o',ac,bc)/\MH good lt a.toList b.toList o'.toList p' q'/\0<p'/\1<q'/\o.size+y<=o'.size)
  (Q:=fun c st2=>SG st st2/\((∃ r z,c=(some r,z)/\Q r st2)\/∃ p' q' o' ac bc,c=(none,p',q',o',ac,bc)/\MH good lt a.toList b.toList o'.toList p' q'/\0<p'/\1<q'/\o.size+1<=o'.size))
  ?istep ?ifin ⟨g1,p,q,o,0,0,rfl,m,hp,hq,Nat.le_refl _⟩) ?ipost)
 case ifin=>
  rintro c st2 ⟨g2,p',q',o',ac,bc,rfl,m',hp',hq',ho'⟩
  have hpl:=m.pa
  rw[Array.length_toList] at hpl
  exact ⟨g2,.inr ⟨p',q',o',ac,bc,rfl,m',hp',hq',by lia⟩⟩
 case istep=>
  rintro y c st2 _ hy ⟨g2,p',q',o',ac,bc,rfl,m',hp',hq',ho'⟩
  exact U7 (n:=o.size+y) C O (g2.kind.trans hk) W (fun m h=>⟨g2,.inl ⟨_,_,rfl,fin g2 m h⟩⟩) (fun m h=>⟨g2,.inl ⟨_,_,rfl,fst g2 m h⟩⟩) (fun m h1 h2 h3=>⟨g2,.inr ⟨_,_,_,_,_,rfl,m,h1,h2,by lia⟩⟩) (fun m h1 h2 h3=>⟨g2,_,_,_,_,_,rfl,m,h1,h2,h3⟩) hp' hq' m' ho'
 case ipost=>
  rintro c st2 ⟨g2,⟨r,z,rfl,hr⟩ | ⟨p',q',o',ac,bc,rfl,m',hp',hq',ho'⟩⟩
  ·exact wpS_pure (r1 g2 hr)
  ·refine wpS_bind (wpS_lift (wpAny_rule ⟨rfl,?_⟩))
   refine wpS_bind (wpS_mono (wpS_forRange
    (I:=fun y c st3=>SG st st3/\∃ p2 q2 o2 mg2 ac2 bc2,c=(none,p2,q2,o2,mg2,ac2,bc2)/\MH good lt a.toList b.toList o2.toList p2 q2/\0<p2/\1<q2/\o'.size<=o2.size)
    (Q:=fun c st3=>SG st st3/\((∃ r z,c=(some r,z)/\Q r st3)\/∃ p2 q2 o2 mg2 ac2 bc2,c=(none,p2,q2,o2,mg2,ac2,bc2)/\MH good lt a.toList b.toList o2.toList p2 q2/\0<p2/\1<q2/\o'.size<=o2.size))
    ?gstep ?gfin ⟨g2,p',q',o',_,ac,bc,rfl,m',hp',hq',Nat.le_refl _⟩) ?gpost)
   case gfin=>
    rintro c st3 ⟨g3,p2,q2,o2,mg2,ac2,bc2,rfl,m2,hp2,hq2,ho2⟩
    exact ⟨g3,.inr ⟨p2,q2,o2,mg2,ac2,bc2,rfl,m2,hp2,hq2,ho2⟩⟩
   case gpost=>
    rintro c st3 ⟨g3,⟨r,z,rfl,hr⟩ | ⟨p2,q2,o2,mg2,ac2,bc2,rfl,m2,hp2,hq2,ho2⟩⟩
    ·exact wpS_pure (r1 g3 hr)
    ·dsimp only
     rw[G0]
     exact wpS_bind (wpS_modify (wpS_pure (r2 (g3.setG _) m2 hp2 hq2 (by lia))))
   case gstep=>
    rintro y c st3 _ hy ⟨g3,p2,q2,o2,mg2,ac2,bc2,rfl,m2,hp2,hq2,ho2⟩
    exact QP C O (fun g=>(g3.setG g).kind.trans hk) (fun g=>⟨fun m h=>⟨g3.setG _,.inl ⟨_,_,rfl,fin (g3.setG _) m h⟩⟩,fun m h=>⟨g3.setG _,.inl ⟨_,_,rfl,fst (g3.setG _) m h⟩⟩,fun m h1 h2 h3=>⟨g3.setG _,.inr ⟨_,_,_,_,_,_,rfl,m,h1,h2,h3⟩⟩,fun m h1 h2 h3=>⟨g3.setG _,_,_,_,_,_,_,rfl,m,h1,h2,h3⟩⟩) W hp2 hq2 m2 ho2
theorem XT (C:Cmp prog w A E s kd good lt) (O:Ord good lt) (hk:kindOf st=kd) (sa:SL good lt a.toList) (sb:SL good lt b.toList) (ha:0<a.size) (hb:0<b.size)
  (h0:∀ y,b.toList[0]?=some y->∀ x∈a.toList,LE lt y x) (h1:∀ x,a.toList[a.size - 1]?=some x->∀ y∈b.toList,LE lt y x)
  (hQ:∀ r st',SG st st'->Good lt a.toList b.toList r.toList->Q r st'):wpS (model prog w) A E s (mHi a b) Q st:=by
 rw[VL]
 unfold Jd
 refine wpS_bind (wpS_lift (wpAny_rule ⟨rfl,?_⟩))
 obtain ⟨ea1,la1⟩:=at_of (xs:=a) (i:=a.size - 1) (by lia)
 obtain ⟨eb0,lb0⟩:=at_of hb
 refine wpS_bind (BQ ea1 ?_)
 have upA:∀ {p q:Nat} {x y:Keyed},0<q->a.toList[p]?=some x->b.toList[q - 1]?=some y->LE lt y x->∀ z∈b.toList.take q,LE lt z x:=fun {p q x y} hq hx hy hl z hz=>by
  obtain ⟨j,hj,ej⟩:=GP hz
  by_cases e:j=q - 1
  ·rw[e,hy] at ej;cases ej;exact hl
  ·exact O.tr (sb.good_at ej) (sb.good_at hy) (sa.good_at hx) (sb.up ej hy (by lia)) hl
 have upB:∀ {p q:Nat} {x y:Keyed},0<p->a.toList[p - 1]?=some x->b.toList[q]?=some y->LE lt x y->∀ z∈a.toList.take p,LE lt z y:=fun {p q x y} hp hx hy hl z hz=>by
  obtain ⟨j,hj,ej⟩:=GP hz
  by_cases e:j=p - 1
  ·rw[e,hx] at ej;cases ej;exact hl
  ·exact O.tr (sa.good_at ej) (sa.good_at hx) (sb.good_at hy) (sa.up ej hx (by lia)) hl
 have W:HiL good lt a b:=⟨sa,sb,upA,upB⟩
 have m0:MH good lt a.toList b.toList [] a.size b.size:=⟨by rw[List.take_of_length_le (by simp),List.take_of_length_le (by simp)];simp,List.Pairwise.nil,fun x hx=>(nomatch hx),by simp,by simp⟩
 have m1:MH good lt a.toList b.toList [a[a.size - 1]] (a.size - 1) b.size:=m0.pushA' ha sa la1 fun y hy=>h1 _ la1 y (List.mem_of_mem_take hy)
 have fin:∀ {st':SortSt} {o:Array Keyed} {p q:Nat},SG st st'->MH good lt a.toList b.toList o.toList p q->(p=0\/q=0)->Q (a.extract 0 p++b.extract 0 q++o.reverse) st':=fun {st' o p q} g m h=>by
  refine hQ _ st' g ?_
  rw[Array.toList_append,Array.toList_append,Hn,Hn,Array.toList_reverse]
  refine m.done sa sb ?_
  rcases h with h | h
  ·exact .inl (by rw[h];rfl)
  ·exact .inr (by rw[h];rfl)
 have fst:∀ {st':SortSt} {o:Array Keyed} {p q:Nat},SG st st'->MH good lt a.toList b.toList o.toList p q->q=1->Q (b.extract 0 q++a.extract 0 p++o.reverse) st':=fun {st' o p q} g m h=>by
  subst h
  refine hQ _ st' g ?_
  rw[Array.toList_append,Array.toList_append,Hn,Hn,Array.toList_reverse]
  exact m.first sa lb0 (h0 _ lb0)
 by_cases c1:(a.size - 1 == 0)=true
 ·rw[if_pos c1]
  exact wpS_pure (fin (SG.refl _) m1 (.inl (eq_of_beq c1)))
 rw[if_neg c1]
 have na:0<a.size - 1:=by
  have:¬a.size - 1=0:=fun z=>c1 (by rw[z];rfl)
  lia
 by_cases c2:(b.size == 1)=true
 ·rw[if_pos c2]
  exact wpS_pure (fst (SG.refl _) m1 (eq_of_beq c2))
 rw[if_neg c2]
 have nb:1<b.size:=by
  have:¬b.size=1:=fun z=>c2 (by rw[z];rfl)
  lia
 refine wpS_bind (wpS_get ?_)
 refine wpS_bind (wpS_mono (wpS_forRange
  (I:=fun x c st'=>SG st st'/\∃ p q o mg,c=(none,p,q,o,mg)/\MH good lt a.toList b.toList o.toList p q/\0<p/\1<q/\x+1<=o.size)
  (Q:=fun c st'=>SG st st'/\∃ r o,c=(some r,o)/\Q r st') ?ostep ?ofin ⟨SG.refl _,a.size - 1,b.size,#[a[a.size - 1]],_,rfl,m1,na,nb,by simp⟩) ?opost)
 case ofin=>
  rintro c st' ⟨g,p,q,o,mg,rfl,m,hp,hq,ho⟩
  have:=m.size
  rw[Array.length_toList,Array.length_toList,Array.length_toList] at this
  lia
 case opost=>
  rintro c st' ⟨g,r,o,rfl,hq⟩
  exact wpS_pure hq
 case ostep=>
  rintro x c st1 _ hx ⟨g1,p,q,o,mg,rfl,m,hp,hq,ho⟩
  exact VT C O hk W fin fst (fun g h=>⟨g,_,_,rfl,h⟩) (fun g m h1 h2 h3=>⟨g,_,_,_,_,rfl,m,h1,h2,Nat.le_trans (Nat.succ_le_succ ho) h3⟩) g1 hp hq m
end
def G (xs:Array Keyed) (k:Nat):Keyed:=xs[k]?.getD (.none,.none)
theorem Cr {xs ys:Array Keyed} {i j:Nat} (h:xs[i]?=ys[j]?):G xs i=G ys j:=by unfold G;rw[h]
theorem E2 {xs:Array Keyed} {i:Nat} (h:i<xs.size):xs[i]?=some (G xs i):=by
 unfold G
 rw[Array.getElem?_eq_getElem h]
 rfl
def Out (lo hi:Nat) (xs ys:Array Keyed):Prop:=∀ k,(k<lo\/hi<=k)->ys[k]?=xs[k]?
theorem Out.refl {lo hi:Nat} (xs:Array Keyed):Out lo hi xs xs:=fun _ _=>rfl
theorem Out.trans {lo hi:Nat} {xs ys zs:Array Keyed} (a:Out lo hi xs ys) (b:Out lo hi ys zs):Out lo hi xs zs:=fun k h=>(b k h).trans (a k h)
structure SB (kd:SortKind) (a₀:Array Keyed) (st:SortSt):Prop where
 perm:(arrOf st).Perm a₀
 kind:kindOf st=kd
 fail:failedOf st=none
theorem SB.size {kd:SortKind} {a₀:Array Keyed} {st:SortSt} (h:SB kd a₀ st):(arrOf st).size=a₀.size:=h.perm.size_eq
theorem SB.put {kd:SortKind} {a₀:Array Keyed} {st:SortSt} (h:SB kd a₀ st) {xs:Array Keyed} (hp:xs.Perm (arrOf st)):SB kd a₀ (setArr st xs):=⟨hp.trans h.perm,h.kind,h.fail⟩
section
variable {prog:Program} {w:World} {A:Around} {E:Value->Shared->Prop} {s:Shared} {kd:SortKind} {good:Keyed->Prop} {lt:Keyed->Keyed->Bool} {st:SortSt} {a₀:Array Keyed}
theorem SB.ok (h:SB kd a₀ st) (hg:∀ x∈a₀.toList,good x) {i:Nat} (hi:i<a₀.size):good (G (arrOf st) i):=by
 have hi':i<(arrOf st).size:=by rw[h.size];exact hi
 have e:G (arrOf st) i=(arrOf st)[i]:=by unfold G;rw[Array.getElem?_eq_getElem hi'];rfl
 rw[e]
 exact hg _ ((Array.perm_iff_toList_perm.mp h.perm).mem_iff.mp (by simp))
theorem Eo (C:Cmp prog w A E s kd good lt) (h:SB kd a₀ st) (hg:∀ x∈a₀.toList,good x) {i j:Nat} {Q:Option Bool->SortSt->Prop} (hi:i<a₀.size) (hj:j<a₀.size)
  (hQ:Q (some (lt (G (arrOf st) i) (G (arrOf st) j))) st):wpS (model prog w) A E s (ltAt' i j) Q st:=by
 rw[ltAt'_eq]
 refine wpS_bind (wpS_get ?_)
 exact wpS_bind (BQ (E2 (by rw[h.size];exact hi)) (wpS_bind (BQ (E2 (by rw[h.size];exact hj)) (C.run h.kind (h.ok hg hi) (h.ok hg hj) hQ))))
def Asc (lt:Keyed->Keyed->Bool) (xs:Array Keyed) (lo n:Nat):Prop:=∀ i j,lo<=i->i<=j->j<lo+n->LE lt (G xs i) (G xs j)
def Dsc (lt:Keyed->Keyed->Bool) (xs:Array Keyed) (lo n:Nat):Prop:=∀ i j,lo<=i->i<=j->j<lo+n->LE lt (G xs j) (G xs i)
theorem Ord.rf (O:Ord good lt) {x:Keyed} (h:good x):LE lt x x:=by
 show lt x x=false
 cases q:lt x x with
 | false=>rfl
 | true=>
  have z:=O.tot h h q
  rw[q] at z
  cases z
theorem Asc.more (O:Ord good lt) (h:SB kd a₀ st) (hg:∀ x∈a₀.toList,good x) {lo n:Nat} (hn:1<=n) (hs:lo+n<a₀.size) (a:Asc lt (arrOf st) lo n) (hl:LE lt (G (arrOf st) (lo+n - 1)) (G (arrOf st) (lo+n))):Asc lt (arrOf st) lo (n+1):=fun i j h1 h2 h3=>by
 by_cases e:j<lo+n
 ·exact a i j h1 h2 e
 have e':j=lo+n:=by lia
 subst e'
 by_cases e:i=lo+n
 ·subst e;exact O.rf (h.ok hg (by lia))
 ·exact O.tr (h.ok hg (by lia)) (h.ok hg (by lia)) (h.ok hg (by lia)) (a i (lo+n - 1) h1 (by lia) (by lia)) hl
theorem Dsc.more (O:Ord good lt) (h:SB kd a₀ st) (hg:∀ x∈a₀.toList,good x) {lo n:Nat} (hn:1<=n) (hs:lo+n<a₀.size) (a:Dsc lt (arrOf st) lo n) (hl:LE lt (G (arrOf st) (lo+n)) (G (arrOf st) (lo+n - 1))):Dsc lt (arrOf st) lo (n+1):=fun i j h1 h2 h3=>by
 by_cases e:j<lo+n
 ·exact a i j h1 h2 e
 have e':j=lo+n:=by lia
 subst e'
 by_cases e:i=lo+n
 ·subst e;exact O.rf (h.ok hg (by lia))
 ·exact O.tr (h.ok hg (by lia)) (h.ok hg (by lia)) (h.ok hg (by lia)) hl (a i (lo+n - 1) h1 (by lia) (by lia))
theorem Im {xs:Array Keyed} {i j:Nat} (hj:j<=xs.size) (k:Nat):G (mirror xs i j ((j - i) / 2)) k=if i<=k/\k<j then G xs (i+j - 1 - k) else G xs k:=by
 have e:=getElem?_mirror_all (i:=i) hj k
 by_cases h1:i<=k/\k<j
 ·rw[if_pos h1] at e ⊢;exact Cr e
 ·rw[if_neg h1] at e ⊢;exact Cr e
theorem FE {xs:Array Keyed} {i j lo hi:Nat} (hj:j<=xs.size) (h1:lo<=i) (h2:j<=hi):Out lo hi xs (mirror xs i j ((j - i) / 2)):=fun k hk=>by
 rw[getElem?_mirror_all hj,if_neg (by lia)]
theorem Dsc.same (O:Ord good lt) {xs:Array Keyed} {lo n i j:Nat} (hj:j<=xs.size) (hg:∀ k,k<xs.size->good (G xs k)) (d:Dsc lt xs lo n) (hlo:lo<=i) (hjn:j<=lo+n) (hn:lo+n<=xs.size)
  (eq:∀ p q,i<=p->p<j->i<=q->q<j->LE lt (G xs p) (G xs q)):Dsc lt (mirror xs i j ((j - i) / 2)) lo n:=fun p q h1 h2 h3=>by
 have like:∀ k,k<lo+n->LE lt (G xs k) (G (mirror xs i j ((j - i) / 2)) k)/\LE lt (G (mirror xs i j ((j - i) / 2)) k) (G xs k)/\good (G (mirror xs i j ((j - i) / 2)) k):=fun k hk=>by
  rw[Im hj]
  by_cases c:i<=k/\k<j
  ·rw[if_pos c]
   exact ⟨eq _ _ c.1 c.2 (by lia) (by lia),eq _ _ (by lia) (by lia) c.1 c.2,hg _ (by lia)⟩
  ·rw[if_neg c]
   exact ⟨O.rf (hg _ (by lia)),O.rf (hg _ (by lia)),hg _ (by lia)⟩
 obtain ⟨a1,a2,a3⟩:=like p (by lia)
 obtain ⟨b1,b2,b3⟩:=like q (by lia)
 exact O.tr b3 (hg _ (by lia)) a3 b2 (O.tr (hg _ (by lia)) (hg _ (by lia)) a3 (d p q h1 h2 h3) a1)
theorem Dsc.turn {xs:Array Keyed} {lo n:Nat} (hn:lo+n<=xs.size) (d:Dsc lt xs lo n):Asc lt (mirror xs lo (lo+n) ((lo+n - lo) / 2)) lo n:=fun p q h1 h2 h3=>by
 rw[Im hn,Im hn,if_pos (by lia),if_pos (by lia)]
 exact d _ _ (by lia) (by lia) (by lia)
end
def NM (lo n1 nrem:Nat):SM (Option Nat):=do
 let mut n:=n1
 for _ in [n:nrem] do
  let some sm <-ltAt' (lo+n) (lo+n - 1) | return none
  if sm then break
  n:=n+1
 return some n
def Pk (lo n0 nrem:Nat):SM (Option Nat):=do
 rule "list.sort.descending-run"
 let mut n:=n0+1
 let mut e:=0
 for _ in [n:nrem] do
  let some sm <-ltAt' (lo+n) (lo+n - 1) | return none
  if sm then
   if e > 0 then reverseSlice' (lo+n - (e+1)) (lo+n)
   e:=0
  else
   let some la <-ltAt' (lo+n - 1) (lo+n) | return none
   if la then break
   e:=e+1
  n:=n+1
 if e > 0 then reverseSlice' (lo+n - (e+1)) (lo+n)
 reverseSlice' lo (lo+n)
 for _ in [n:nrem] do
  let some sm <-ltAt' (lo+n) (lo+n - 1) | return none
  if sm then break
  n:=n+1
 return some n
section
variable {prog:Program} {w:World} {A:Around} {E:Value->Shared->Prop} {s:Shared} {kd:SortKind} {good:Keyed->Prop} {lt:Keyed->Keyed->Bool} {st:SortSt} {a₀:Array Keyed} {lo nrem:Nat} {Q:Option Nat->SortSt->Prop}
theorem SB.gs (h:SB kd a₀ st) (hg:∀ x∈a₀.toList,good x):∀ k,k<(arrOf st).size->good (G (arrOf st) k):=fun k hk=>h.ok hg (by rw[<-h.size];exact hk)
theorem Kk (C:Cmp prog w A E s kd good lt) (O:Ord good lt) (h:SB kd a₀ st) (hg:∀ x∈a₀.toList,good x) (hs:lo+nrem<=a₀.size) {n0:Nat} (h1:1<=n0) (h2:n0+1<=nrem) (hd:Dsc lt (arrOf st) lo (n0+1))
  (hQ:∀ n st',SB kd a₀ st'->pendingOf st'=pendingOf st->1<=n->n<=nrem->Asc lt (arrOf st') lo n->Out lo (lo+nrem) (arrOf st) (arrOf st')->Q (some n) st'):wpS (model prog w) A E s (Pk lo n0 nrem) Q st:=by
 unfold Pk
 dsimp only
 refine wpS_bind (wpS_lift (wpAny_rule ⟨rfl,?_⟩))
 have asc:∀ {st':SortSt} {n1:Nat},SB kd a₀ st'->pendingOf st'=pendingOf st->1<=n1->n1<=nrem->Asc lt (arrOf st') lo n1->Out lo (lo+nrem) (arrOf st) (arrOf st') ->
   wpS (model prog w) A E s (NM lo n1 nrem) Q st':=fun {st' n1} B p0 p1 p2 p3 p4=>by
  unfold NM
  dsimp only
  refine wpS_bind (wpS_mono (wpS_forRange (I:=fun x c st''=>st''=st'/\c=(none,x)/\1<=x/\x<=nrem/\Asc lt (arrOf st') lo x) (Q:=fun c st''=>st''=st'/\∃ n,c=(none,n)/\1<=n/\n<=nrem/\Asc lt (arrOf st') lo n) ?step ?fin ⟨rfl,rfl,p1,p2,p3⟩) ?post)
  case fin=>
   rintro c st'' ⟨rfl,rfl,a1,a2,a3⟩
   exact ⟨rfl,_,rfl,a1,a2,a3⟩
  case post=>
   rintro c st'' ⟨rfl,n,rfl,a1,a2,a3⟩
   exact wpS_pure (hQ n _ B p0 a1 a2 a3 p4)
  case step=>
   rintro x c st'' h3 h4 ⟨rfl,rfl,a1,a2,a3⟩
   dsimp only
   refine wpS_bind (Eo C B hg (by lia) (by lia) ?_)
   cases q:lt (G (arrOf st'') (lo+x)) (G (arrOf st'') (lo+x - 1)) with
   | true=>
    simp only[if_true]
    exact wpS_pure ⟨rfl,x,rfl,a1,a2,a3⟩
   | false=>
    simp only[Bool.false_eq_true,if_false]
    exact wpS_pure ⟨rfl,rfl,by lia,h4,a3.more O B hg a1 (by lia) q⟩
 refine wpS_bind (wpS_mono (wpS_forRange
  (I:=fun x c st'=>SB kd a₀ st'/\pendingOf st'=pendingOf st/\Out lo (lo+nrem) (arrOf st) (arrOf st')/\∃ e,c=(none,x,e)/\2<=x/\x<=nrem/\e+2<=x/\Dsc lt (arrOf st') lo x/\∀ p q,lo+x - (e+1)<=p->p<lo+x->lo+x - (e+1)<=q->q<lo+x->LE lt (G (arrOf st') p) (G (arrOf st') q))
  (Q:=fun c st'=>SB kd a₀ st'/\pendingOf st'=pendingOf st/\Out lo (lo+nrem) (arrOf st) (arrOf st')/\∃ x e,c=(none,x,e)/\2<=x/\x<=nrem/\e+2<=x/\Dsc lt (arrOf st') lo x/\∀ p q,lo+x - (e+1)<=p->p<lo+x->lo+x - (e+1)<=q->q<lo+x->LE lt (G (arrOf st') p) (G (arrOf st') q)) ?step ?fin ?init) ?post)
 case init=>
  refine ⟨h,rfl,Out.refl _,0,rfl,by lia,by lia,by lia,hd,fun p q a1 a2 a3 a4=>?_⟩
  have:p=q:=by lia
  subst this
  exact O.rf (h.ok hg (by lia))
 case fin=>
  rintro c st' ⟨B,p0,ou,e,rfl,a1,a2,a3,a4,a5⟩
  exact ⟨B,p0,ou,_,e,rfl,a1,a2,a3,a4,a5⟩
 case post=>
  rintro c st' ⟨B,p0,ou,x,e,rfl,a1,a2,a3,a4,a5⟩
  dsimp only
  have sz:=B.size
  by_cases c1:e > 0
  ·rw[if_pos c1,reverseSlice'_eq,reverseSlice'_eq]
   refine wpS_bind (wpS_modify (wpS_bind (wpS_modify ?_)))
   have d1:=a4.same O (i:=lo+x - (e+1)) (j:=lo+x) (by lia) (B.gs hg) (by lia) (by lia) (by lia) a5
   have B1:=B.put (mirror_perm (arrOf st') (lo+x - (e+1)) (lo+x) ((lo+x - (lo+x - (e+1))) / 2))
   have d2:=d1.turn (by rw[mirror_size];lia)
   exact asc (B1.put (mirror_perm _ _ _ _)) p0 (by lia) a2 d2 ((ou.trans (FE (by lia) (by lia) (by lia))).trans (FE (by rw[mirror_size];lia) (by lia) (by lia)))
  ·rw[if_neg c1,reverseSlice'_eq]
   refine wpS_bind (wpS_modify ?_)
   exact asc (B.put (mirror_perm _ _ _ _)) p0 (by lia) a2 (a4.turn (by lia)) (ou.trans (FE (by lia) (by lia) (by lia)))
 case step=>
  rintro x c st' h3 h4 ⟨B,p0,ou,e,rfl,a1,a2,a3,a4,a5⟩
  dsimp only
  have sz:=B.size
  refine wpS_bind (Eo C B hg (by lia) (by lia) ?_)
  cases q:lt (G (arrOf st') (lo+x)) (G (arrOf st') (lo+x - 1)) with
  | true=>
   simp only[if_true]
   have le1:=O.tot (B.ok hg (by lia)) (B.ok hg (by lia)) q
   by_cases c1:e > 0
   ·rw[if_pos c1,reverseSlice'_eq]
    refine wpS_bind (wpS_modify (wpS_pure ?_))
    have d0:=a4.more O B hg (by lia) (by lia) le1
    have d1:=d0.same O (i:=lo+x - (e+1)) (j:=lo+x) (by lia) (B.gs hg) (by lia) (by lia) (by lia) a5
    have B1:=B.put (mirror_perm (arrOf st') (lo+x - (e+1)) (lo+x) ((lo+x - (lo+x - (e+1))) / 2))
    refine ⟨B1,p0,ou.trans (FE (by lia) (by lia) (by lia)),0,rfl,by lia,h4,by lia,d1,fun p q b1 b2 b3 b4=>?_⟩
    have:p=q:=by lia
    subst this
    exact O.rf (B1.ok hg (by lia))
   ·rw[if_neg c1]
    refine wpS_pure ⟨B,p0,ou,0,rfl,by lia,h4,by lia,a4.more O B hg (by lia) (by lia) le1,fun p q b1 b2 b3 b4=>?_⟩
    have:p=q:=by lia
    subst this
    exact O.rf (B.ok hg (by lia))
  | false=>
   simp only[Bool.false_eq_true,if_false]
   refine wpS_bind (Eo C B hg (by lia) (by lia) ?_)
   cases q2:lt (G (arrOf st') (lo+x - 1)) (G (arrOf st') (lo+x)) with
   | true=>
    simp only[if_true]
    exact wpS_pure ⟨B,p0,ou,x,e,rfl,a1,a2,a3,a4,a5⟩
   | false=>
    simp only[Bool.false_eq_true,if_false]
    refine wpS_pure ⟨B,p0,ou,e+1,rfl,by lia,h4,by lia,a4.more O B hg (by lia) (by lia) q2,fun p q' b1 b2 b3 b4=>?_⟩
    by_cases f1:p=lo+x
    ·subst f1
     by_cases f2:q'=lo+x
     ·subst f2;exact O.rf (B.ok hg (by lia))
     ·exact O.tr (B.ok hg (by lia)) (B.ok hg (by lia)) (B.ok hg (by lia)) q2 (a5 _ _ (by lia) (by lia) (by lia) (by lia))
    ·by_cases f2:q'=lo+x
     ·subst f2
      exact O.tr (B.ok hg (by lia)) (B.ok hg (by lia)) (B.ok hg (by lia)) (a5 p (lo+x - 1) (by lia) (by lia) (by lia) (by lia)) q
     ·exact a5 _ _ (by lia) (by lia) (by lia) (by lia)
end
section
variable {prog:Program} {w:World} {A:Around} {E:Value->Shared->Prop} {s:Shared} {kd:SortKind} {good:Keyed->Prop} {lt:Keyed->Keyed->Bool} {st:SortSt} {a₀:Array Keyed} {lo nrem:Nat}
theorem Ti {Q:Option Nat->SortSt->Prop} (C:Cmp prog w A E s kd good lt) (O:Ord good lt) (h:SB kd a₀ st) (hg:∀ x∈a₀.toList,good x) (hs:lo+nrem<=a₀.size) (h1:1<=nrem)
  (hQ:∀ n st',SB kd a₀ st'->pendingOf st'=pendingOf st->1<=n->n<=nrem->Asc lt (arrOf st') lo n->Out lo (lo+nrem) (arrOf st) (arrOf st')->Q (some n) st'):wpS (model prog w) A E s (countRun' lo nrem) Q st:=by
 rw[countRun'_eq]
 dsimp only
 have sz:=h.size
 refine wpS_bind (wpS_mono (wpS_forRange (I:=fun x c st'=>st'=st/\c=(none,x)/\1<=x/\x<=nrem/\Asc lt (arrOf st) lo x)
  (Q:=fun c st'=>st'=st/\∃ n,c=(none,n)/\1<=n/\n<=nrem/\Asc lt (arrOf st) lo n/\(n<nrem->lt (G (arrOf st) (lo+n)) (G (arrOf st) (lo+n - 1))=true)) ?step ?fin ⟨rfl,rfl,Nat.le_refl _,h1,?init⟩) ?post)
 case init=>
  intro i j a1 a2 a3
  have:i=j:=by lia
  subst this
  exact O.rf (h.ok hg (by lia))
 case fin=>
  rintro c st' ⟨rfl,rfl,a1,a2,a3⟩
  exact ⟨rfl,_,rfl,a1,a2,a3,fun z=>by lia⟩
 case step=>
  rintro x c st' h3 h4 ⟨rfl,rfl,a1,a2,a3⟩
  dsimp only
  refine wpS_bind (Eo C h hg (by lia) (by lia) ?_)
  cases q:lt (G (arrOf st') (lo+x)) (G (arrOf st') (lo+x - 1)) with
  | true=>
   simp only[if_true]
   exact wpS_pure ⟨rfl,x,rfl,a1,a2,a3,fun _=>q⟩
  | false=>
   simp only[Bool.false_eq_true,if_false]
   exact wpS_pure ⟨rfl,rfl,by lia,h4,a3.more O h hg a1 (by lia) q⟩
 case post=>
  rintro c st' ⟨rfl,n,rfl,a1,a2,a3,a4⟩
  dsimp only
  by_cases c1:(n == nrem)=true
  ·rw[if_pos c1]
   exact wpS_pure (hQ n _ h rfl a1 a2 a3 (Out.refl _))
  rw[if_neg c1]
  have hn:n<nrem:=by
   have:¬n=nrem:=fun z=>c1 (by rw[z];simp)
   lia
  have sm:=a4 hn
  have sm':=O.tot (h.ok hg (by lia)) (h.ok hg (by lia)) sm
  by_cases c2:n > 1
  ·rw[if_pos c2]
   refine wpS_bind (Eo C h hg (by lia) (by lia) ?_)
   cases q:lt (G (arrOf st') lo) (G (arrOf st') (lo+n - 1)) with
   | true=>
    simp only[if_true]
    exact wpS_pure (hQ n _ h rfl a1 a2 a3 (Out.refl _))
   | false=>
    simp only[Bool.false_eq_true,if_false]
    rw[reverseSlice'_eq]
    refine wpS_bind (wpS_modify ?_)
    have like:∀ p q',lo<=p->p<lo+n->lo<=q'->q'<lo+n->LE lt (G (arrOf st') p) (G (arrOf st') q'):=fun p q' b1 b2 b3 b4=>
     O.tr (h.ok hg (by lia)) (h.ok hg (by lia)) (h.ok hg (by lia)) (a3 p (lo+n - 1) b1 (by lia) (by lia)) (O.tr (h.ok hg (by lia)) (h.ok hg (by lia)) (h.ok hg (by lia)) q (a3 lo q' (Nat.le_refl _) b3 b4))
    have d0:Dsc lt (arrOf st') lo n:=fun p q' b1 b2 b3=>like q' p (by lia) (by lia) b1 (by lia)
    have d1:Dsc lt (arrOf st') lo (n+1):=d0.more O h hg a1 (by lia) sm'
    have d2:=d1.same O (i:=lo) (j:=lo+n) (by lia) (h.gs hg) (Nat.le_refl _) (by lia) (by lia) fun p q' b1 b2 b3 b4=>like p q' b1 b2 b3 b4
    refine Kk (st:=setArr st' (mirror (arrOf st') lo (lo+n) ((lo+n - lo) / 2))) C O (h.put (mirror_perm _ _ _ _)) hg hs a1 hn d2 fun m st2 B p0 p1 p2 p3 p4=>hQ m st2 B p0 p1 p2 p3 ?_
    exact (FE (hi:=lo+nrem) (by lia) (Nat.le_refl _) (by lia)).trans p4
  ·rw[if_neg c2]
   have e:n=1:=by lia
   subst e
   have d0:Dsc lt (arrOf st') lo 1:=fun p q' b1 b2 b3=>by
    have:p=q':=by lia
    subst this
    exact O.rf (h.ok hg (by lia))
   exact Kk C O h hg hs (Nat.le_refl _) hn (d0.more O h hg (Nat.le_refl _) (by lia) sm') hQ
theorem Nf {xs:Array Keyed} {src d:Nat} (hs:src<xs.size) (hd:d<=src) (k:Nat):G (bubble xs src d) k=if k=src - d then G xs src else if src - d<k/\k<=src then G xs (k - 1) else G xs k:=by
 have e:=getElem?_bubble hs d hd k
 by_cases h1:k=src - d
 ·rw[if_pos h1] at e ⊢;exact Cr e
 ·rw[if_neg h1] at e ⊢
  by_cases h2:src - d<k/\k<=src
  ·rw[if_pos h2] at e ⊢;exact Cr e
  ·rw[if_neg h2] at e ⊢;exact Cr e
theorem TL {xs:Array Keyed} {src d lo hi:Nat} (hs:src<xs.size) (hd:d<=src) (h1:lo<=src - d) (h2:src<hi):Out lo hi xs (bubble xs src d):=fun k hk=>by
 rw[getElem?_bubble hs d hd,if_neg (by lia),if_neg (by lia)]
theorem Q4 {Q:Bool->SortSt->Prop} (C:Cmp prog w A E s kd good lt) (O:Ord good lt) (h:SB kd a₀ st) (hg:∀ x∈a₀.toList,good x) {n ok:Nat} (hs:lo+n<=a₀.size) (h1:1<=ok) (h2:ok<=n) (ha:Asc lt (arrOf st) lo ok)
  (hQ:∀ st',SB kd a₀ st'->pendingOf st'=pendingOf st->Asc lt (arrOf st') lo n->Out lo (lo+n) (arrOf st) (arrOf st')->Q true st'):wpS (model prog w) A E s (binarySort' lo n ok) Q st:=by
 rw[binarySort'_eq]
 refine wpS_bind (wpS_mono (wpS_forRange (I:=fun k c st'=>c=(none,())/\SB kd a₀ st'/\pendingOf st'=pendingOf st/\Asc lt (arrOf st') lo k/\Out lo (lo+n) (arrOf st) (arrOf st'))
  (Q:=fun c st'=>c=(none,())/\SB kd a₀ st'/\pendingOf st'=pendingOf st/\Asc lt (arrOf st') lo n/\Out lo (lo+n) (arrOf st) (arrOf st')) ?step ?fin ?init) ?post)
 case post=>
  rintro c st' ⟨rfl,B,p0,a,ou⟩
  exact wpS_pure (hQ st' B p0 a ou)
 case init=>
  refine ⟨rfl,h,rfl,?_,Out.refl _⟩
  rwa [show max ok 1=ok by lia]
 case fin=>
  rintro c st' ⟨hc,B,p0,a,ou⟩
  refine ⟨hc,B,p0,?_,ou⟩
  rwa [show max (max ok 1) n=n by lia] at a
 case step=>
  rintro k c st' hak hkn ⟨rfl,B,p0,a,ou⟩
  have sz:=B.size
  refine wpS_bind (wpS_mono (wpS_forRange (I:=fun x c st''=>st''=st'/\∃ l r,c=(none,l,r)/\l<=r/\r<=k/\r - l<=k - x /\
    (∀ i,i<l->LE lt (G (arrOf st') (lo+i)) (G (arrOf st') (lo+k)))/\(∀ i,r<=i->i<k->LE lt (G (arrOf st') (lo+k)) (G (arrOf st') (lo+i))))
   (Q:=fun c st''=>st''=st'/\∃ l r,c=(none,l,r)/\l<=k /\
    (∀ i,i<l->LE lt (G (arrOf st') (lo+i)) (G (arrOf st') (lo+k)))/\(∀ i,l<=i->i<k->LE lt (G (arrOf st') (lo+k)) (G (arrOf st') (lo+i)))) ?istep ?ifin ?iinit) ?ipost)
  case iinit=>exact ⟨rfl,0,k,rfl,by lia,by lia,by lia,fun i hi=>by lia,fun i b1 b2=>by lia⟩
  case ifin=>
   rintro c st'' ⟨rfl,l,r,rfl,b1,b2,b3,b4,b5⟩
   have:l=r:=by lia
   subst this
   exact ⟨rfl,l,l,rfl,b2,b4,b5⟩
  case istep=>
   rintro x c st'' _ hxk ⟨rfl,l,r,rfl,b1,b2,b3,b4,b5⟩
   dsimp only
   by_cases hge:l>=r
   ·rw[if_pos hge]
    have:l=r:=by lia
    subst this
    exact wpS_pure ⟨rfl,l,l,rfl,b2,b4,b5⟩
   ·rw[if_neg hge]
    refine wpS_bind (Eo C B hg (by lia) (by lia) ?_)
    cases q:lt (G (arrOf st'') (lo+k)) (G (arrOf st'') (lo+(l+r) / 2)) with
    | true=>
     simp only[if_true]
     have q':=O.tot (B.ok hg (by lia)) (B.ok hg (by lia)) q
     exact wpS_pure ⟨rfl,l,(l+r) / 2,rfl,by lia,by lia,by lia,b4,fun i c1 c2=>O.tr (B.ok hg (by lia)) (B.ok hg (by lia)) (B.ok hg (by lia)) q' (a _ _ (by lia) (by lia) (by lia))⟩
    | false=>
     simp only[Bool.false_eq_true,if_false]
     exact wpS_pure ⟨rfl,(l+r) / 2+1,r,rfl,by lia,by lia,by lia,fun i c1=>O.tr (B.ok hg (by lia)) (B.ok hg (by lia)) (B.ok hg (by lia)) (a (lo+i) (lo+(l+r) / 2) (by lia) (by lia) (by lia)) q,b5⟩
  case ipost=>
   rintro c st'' ⟨rfl,l,r,rfl,b1,b4,b5⟩
   show wpS _ _ _ _ (do moveDown' (lo+k) (lo+l);pure (ForInStep.yield (none,()))) _ _
   rw[moveDown'_eq]
   have hks:lo+k<(arrOf st'').size:=by lia
   refine wpS_bind (wpS_modify (wpS_pure ⟨rfl,B.put (bubble_perm _ _ _),p0,?_,ou.trans (TL hks (by lia) (by lia) (by lia))⟩))
   intro i j hi hij hj
   show LE lt (G (bubble (arrOf st'') (lo+k) (lo+k - (lo+l))) i) (G (bubble (arrOf st'') (lo+k) (lo+k - (lo+l))) j)
   rw[Nf hks (by lia),Nf hks (by lia),show lo+k - (lo+k - (lo+l))=lo+l by lia]
   have e4:∀ m,lo<=m->m<lo+l->LE lt (G (arrOf st'') m) (G (arrOf st'') (lo+k)):=fun m m1 m2=>by
    have:=b4 (m - lo) (by lia)
    rwa [show lo+(m - lo)=m by lia] at this
   have e5:∀ m,lo+l<=m->m<lo+k->LE lt (G (arrOf st'') (lo+k)) (G (arrOf st'') m):=fun m m1 m2=>by
    have:=b5 (m - lo) (by lia) (by lia)
    rwa [show lo+(m - lo)=m by lia] at this
   repeat' split
   all_goals first
    | (exfalso;lia)
    | exact O.rf (B.ok hg (by lia))
    | exact e4 _ (by lia) (by lia)
    | exact e5 _ (by lia) (by lia)
    | exact a _ _ (by lia) (by lia) (by lia)
end
theorem QY (i:Nat):mergeAt' i=(do
 let s <-get
 let (some (sa,na,pw),some (sb,nb,_)):=((pendingOf s)[i]?,(pendingOf s)[i+1]?) | unsupported "internal:list.sort.pending"
 set (setPending s (((pendingOf s).setIfInBounds i (sa,na+nb,pw)).eraseIdxIfInBounds (i+1)))
 let some k <-gal false (<-elem' (arrOf s) sb) (arrOf s) sa na 0 | return false
 let (sa,na):=(sa+k,na - k)
 if na == 0 then return true
 let some nb <-gal true (<-elem' (arrOf s) (sa+na - 1)) (arrOf s) sb nb (nb - 1) | return false
 if nb == 0 then return true
 let x:=(arrOf s).extract sa sb
 let y:=(arrOf s).extract sb (sb+nb)
 let m <-if na<=nb then mLo x y else mHi x y
 modify fun s=>setArr s (m.toList.zipIdx.foldl (fun a (p,j)=>a.setIfInBounds (sa+j) p) (arrOf s))
 return (failedOf (<-get)).isNone):=rfl
theorem L5 {f:Array Keyed->Keyed×Nat->Array Keyed} {o:Nat} (hf:∀ a p j,f a (p,j)=a.setIfInBounds (o+j) p):∀ (m:List Keyed) (j0:Nat) (xs:Array Keyed),o+j0+m.length<=xs.size ->
  ((m.zipIdx j0).foldl f xs).size=xs.size/\∀ k,((m.zipIdx j0).foldl f xs)[k]?=if o+j0<=k/\k<o+j0+m.length then m[k - (o+j0)]? else xs[k]?
 | [],j0,xs,_=>⟨rfl,fun k=>by rw[if_neg (by rw[List.length_nil];lia)];rfl⟩
 | x::m,j0,xs,h=>by
  rw[List.length_cons] at h
  have ih:=L5 hf m (j0+1) (f xs (x,j0)) (by rw[hf,Array.size_setIfInBounds];lia)
  rw[List.zipIdx_cons,List.foldl_cons]
  refine ⟨by rw[ih.1,hf,Array.size_setIfInBounds],fun k=>?_⟩
  rw[ih.2 k,hf,List.length_cons]
  by_cases c:k=o+j0
  ·subst c
   rw[if_neg (by lia),if_pos (by lia),Nat.sub_self,Array.getElem?_setIfInBounds_self_of_lt (by lia)]
   rfl
  ·rw[Array.getElem?_setIfInBounds_ne (by lia)]
   by_cases c2:o+(j0+1)<=k/\k<o+(j0+1)+m.length
   ·rw[if_pos c2,if_pos (by lia),show k - (o+j0)=(k - (o+(j0+1)))+1 by lia,List.getElem?_cons_succ]
   ·rw[if_neg c2,if_neg (by lia)]
section
variable {prog:Program} {w:World} {A:Around} {E:Value->Shared->Prop} {s:Shared} {kd:SortKind} {good:Keyed->Prop} {lt:Keyed->Keyed->Bool} {st:SortSt} {a₀:Array Keyed}
theorem C5 {xs:Array Keyed} {i:Nat} {x:Keyed} (h:xs.toList[i]?=some x):G xs i=x:=by
 unfold G
 rw[<-Array.getElem?_toList,h]
 rfl
theorem HC {xs:Array Keyed} {i:Nat} (h:i<xs.size):xs.toList[i]?=some (G xs i):=by
 rw[Array.getElem?_toList]
 exact E2 h
theorem Asc.sl {lo n u v:Nat} {xs:Array Keyed} (hg:∀ k,k<xs.size->good (G xs k)) (a:Asc lt xs lo n) (h1:lo<=u) (h2:v<=lo+n) (h3:v<=xs.size):SL good lt (xs.extract u v).toList:=by
 have at_:∀ i x,(xs.extract u v).toList[i]?=some x->x=G xs (u+i)/\u+i<v:=fun i x hx=>by
  rw[Dv] at hx
  have hl:=DH hx
  rw[List.length_take,List.length_drop,Array.length_toList] at hl
  rw[List.getElem?_take_of_lt (by lia),List.getElem?_drop] at hx
  exact ⟨(C5 hx).symm,by lia⟩
 refine ⟨fun x hx=>?_,List.pairwise_iff_getElem.mpr fun i j hi hj hij=>?_⟩
 ·obtain ⟨i,hi⟩:=List.mem_iff_getElem?.mp hx
  obtain ⟨e,l⟩:=at_ i x hi
  rw[e]
  exact hg _ (by lia)
 ·obtain ⟨e1,l1⟩:=at_ i _ (List.getElem?_eq_getElem hi)
  obtain ⟨e2,l2⟩:=at_ j _ (List.getElem?_eq_getElem hj)
  rw[e1,e2]
  exact a _ _ (by lia) (by lia) (by lia)
theorem RN {Q:Bool->SortSt->Prop} (C:Cmp prog w A E s kd good lt) (O:Ord good lt) (h:SB kd a₀ st) (hg:∀ x∈a₀.toList,good x) {i s1 n1 p1 n2 p2:Nat} (e1:(pendingOf st)[i]?=some (s1,n1,p1)) (e2:(pendingOf st)[i+1]?=some (s1+n1,n2,p2))
  (l1:1<=n1) (l2:1<=n2) (hs:s1+n1+n2<=a₀.size) (a1:Asc lt (arrOf st) s1 n1) (a2:Asc lt (arrOf st) (s1+n1) n2)
  (hQ:∀ st',SB kd a₀ st'->pendingOf st'=((pendingOf st).setIfInBounds i (s1,n1+n2,p1)).eraseIdxIfInBounds (i+1)->Asc lt (arrOf st') s1 (n1+n2)->Out s1 (s1+n1+n2) (arrOf st) (arrOf st')->Q true st') :
  wpS (model prog w) A E s (mergeAt' i) Q st:=by
 rw[QY]
 refine wpS_bind (wpS_get ?_)
 rw[e1,e2]
 dsimp only
 have sz:=h.size
 have gs:=h.gs hg
 refine wpS_bind (m:=set _) ?_
 show wpS (model prog w) A E s (modify fun _=>setPending st (((pendingOf st).setIfInBounds i (s1,n1+n2,p1)).eraseIdxIfInBounds (i+1))) _ st
 refine wpS_modify ?_
 have B1:SB kd a₀ (setPending st (((pendingOf st).setIfInBounds i (s1,n1+n2,p1)).eraseIdxIfInBounds (i+1))):=⟨h.perm,h.kind,h.fail⟩
 refine wpS_bind (BQ (E2 (by lia)) (wpS_bind (EV (xs:=arrOf st) (bs:=s1) (n:=n1) (h:=0) C O B1.kind (gs _ (by lia)) (by lia) (fun i hi x hx=>?_) (fun i j x y hij hj hx hy=>?_) (by lia) fun k k1 k2 k3=>?_)))
 ·rw[<-C5 hx];exact gs _ (by lia)
 ·rw[<-C5 hx,<-C5 hy];exact a1 _ _ (by lia) (by lia) (by lia)
 have k2':∀ m,s1<=m->m<s1+k->LE lt (G (arrOf st) m) (G (arrOf st) (s1+n1)):=fun m m1 m2=>k2 (m - s1) _ (by lia) (by rw[show s1+(m - s1)=m by lia];exact HC (by lia))
 have k3':∀ m,s1+k<=m->m<s1+n1->LE lt (G (arrOf st) (s1+n1)) (G (arrOf st) m):=fun m m1 m2=>k3 (m - s1) _ (by lia) (by lia) (by rw[show s1+(m - s1)=m by lia];exact HC (by lia))
 dsimp only
 by_cases c1:(n1 - k == 0)=true
 ·rw[if_pos c1]
  have c1':n1 - k=0:=eq_of_beq c1
  refine wpS_pure (hQ _ B1 rfl (fun p q b1 b2 b3=>?_) (Out.refl _))
  by_cases d1:q<s1+n1
  ·exact a1 p q b1 b2 d1
  ·by_cases d2:p<s1+n1
   ·exact O.tr (gs _ (by lia)) (gs _ (by lia)) (gs _ (by lia)) (k2' p b1 (by lia)) (a2 _ q (Nat.le_refl _) (by lia) (by lia))
   ·exact a2 p q (by lia) b2 (by lia)
 rw[if_neg c1]
 have c1':k<n1:=by
  have:¬n1 - k=0:=fun z=>c1 (by rw[z];rfl)
  lia
 rw[show s1+k+(n1 - k) - 1=s1+n1 - 1 by lia]
 refine wpS_bind (BQ (E2 (by lia)) (wpS_bind (EV (xs:=arrOf st) (bs:=s1+n1) (n:=n2) (h:=n2 - 1) C O B1.kind (gs _ (by lia)) (by lia) (fun i hi x hx=>?_) (fun i j x y hij hj hx hy=>?_) (by lia) fun u j1 j2 j3=>?_)))
 ·rw[<-C5 hx];exact gs _ (by lia)
 ·rw[<-C5 hx,<-C5 hy];exact a2 _ _ (by lia) (by lia) (by lia)
 have j2':∀ m,s1+n1<=m->m<s1+n1+u->LE lt (G (arrOf st) m) (G (arrOf st) (s1+n1 - 1)):=fun m m1 m2=>j2 (m - (s1+n1)) _ (by lia) (by rw[show s1+n1+(m - (s1+n1))=m by lia];exact HC (by lia))
 have j3':∀ m,s1+n1+u<=m->m<s1+n1+n2->LE lt (G (arrOf st) (s1+n1 - 1)) (G (arrOf st) m):=fun m m1 m2=>j3 (m - (s1+n1)) _ (by lia) (by lia) (by rw[show s1+n1+(m - (s1+n1))=m by lia];exact HC (by lia))
 dsimp only
 by_cases c2:(u == 0)=true
 ·rw[if_pos c2]
  have c2':u=0:=eq_of_beq c2
  refine wpS_pure (hQ _ B1 rfl (fun p q b1 b2 b3=>?_) (Out.refl _))
  by_cases d1:q<s1+n1
  ·exact a1 p q b1 b2 d1
  ·by_cases d2:p<s1+n1
   ·exact O.tr (gs _ (by lia)) (gs _ (by lia)) (gs _ (by lia)) (a1 p (s1+n1 - 1) b1 (by lia) (by lia)) (j3' q (by lia) (by lia))
   ·exact a2 p q (by lia) b2 (by lia)
 rw[if_neg c2]
 have c2':0<u:=by
  have:¬u=0:=fun z=>c2 (by rw[z];rfl)
  lia
 have sx:SL good lt ((arrOf st).extract (s1+k) (s1+n1)).toList:=a1.sl gs (by lia) (by lia) (by lia)
 have sy:SL good lt ((arrOf st).extract (s1+n1) (s1+n1+u)).toList:=a2.sl gs (by lia) (by lia) (by lia)
 have zx:((arrOf st).extract (s1+k) (s1+n1)).size=n1 - k:=by rw[Array.size_extract];lia
 have zy:((arrOf st).extract (s1+n1) (s1+n1+u)).size=u:=by rw[Array.size_extract];lia
 have gx:∀ i x,((arrOf st).extract (s1+k) (s1+n1)).toList[i]?=some x->x=G (arrOf st) (s1+k+i)/\s1+k+i<s1+n1:=fun i x hx=>by
  have hl:=DH hx
  rw[Array.length_toList,zx] at hl
  rw[Dv,List.getElem?_take_of_lt (by lia),List.getElem?_drop] at hx
  exact ⟨(C5 hx).symm,by lia⟩
 have gy:∀ i x,((arrOf st).extract (s1+n1) (s1+n1+u)).toList[i]?=some x->x=G (arrOf st) (s1+n1+i)/\i<u:=fun i x hx=>by
  have hl:=DH hx
  rw[Array.length_toList,zy] at hl
  rw[Dv,List.getElem?_take_of_lt (by lia),List.getElem?_drop] at hx
  exact ⟨(C5 hx).symm,hl⟩
 have fin:∀ (m:Array Keyed) (st2:SortSt),SG (setPending st (((pendingOf st).setIfInBounds i (s1,n1+n2,p1)).eraseIdxIfInBounds (i+1))) st2 ->
   Good lt ((arrOf st).extract (s1+k) (s1+n1)).toList ((arrOf st).extract (s1+n1) (s1+n1+u)).toList m.toList ->
   wpS (model prog w) A E s (do
    modify fun s=>setArr s (m.toList.zipIdx.foldl (fun a (p,j)=>a.setIfInBounds (s1+k+j) p) (arrOf s))
    return (failedOf (<-get)).isNone) Q st2:=fun m st2 g gd=>by
  refine wpS_bind (wpS_modify (wpS_bind (wpS_get (wpS_pure ?_))))
  have hm:m.toList.length=(n1 - k)+u:=by
   have:=gd.1.length_eq
   rw[List.length_append] at this
   simp only[Array.length_toList,zx,zy] at this ⊢
   exact this
  have garr:arrOf st2=arrOf st:=g.arr
  obtain ⟨w1,w2⟩:=L5 (f:=fun a (p,j)=>a.setIfInBounds (s1+k+j) p) (o:=s1+k) (fun _ _ _=>rfl) m.toList 0 (arrOf st2) (by rw[garr,hm];lia)
  rw[garr] at w1 w2
  simp only[Nat.add_zero] at w2
  have hf:(failedOf (setArr st2 (m.toList.zipIdx.foldl (fun a (p,j)=>a.setIfInBounds (s1+k+j) p) (arrOf st2)))).isNone=true:=by
   show (failedOf st2).isNone=true
   rw[g.fail]
   show (failedOf st).isNone=true
   rw[h.fail]
   rfl
  rw[hf]
  have elist:(m.toList.zipIdx.foldl (fun a (p,j)=>a.setIfInBounds (s1+k+j) p) (arrOf st)).toList=(arrOf st).toList.take (s1+k)++(m.toList++(arrOf st).toList.drop (s1+n1+u)):=by
   refine List.ext_getElem? fun j=>?_
   rw[Array.getElem?_toList,w2 j]
   have ht:((arrOf st).toList.take (s1+k)).length=s1+k:=by rw[List.length_take,Array.length_toList];lia
   by_cases d1:j<s1+k
   ·rw[if_neg (by lia),List.getElem?_append_left (by lia),List.getElem?_take_of_lt d1,Array.getElem?_toList]
   ·rw[List.getElem?_append_right (by lia),ht]
    by_cases d2:j<s1+k+m.toList.length
    ·rw[if_pos (by lia),List.getElem?_append_left (by lia)]
    ·rw[if_neg (by lia),List.getElem?_append_right (by lia),List.getElem?_drop,Array.getElem?_toList]
     congr 1
     lia
  have orig:(arrOf st).toList=(arrOf st).toList.take (s1+k)++((((arrOf st).extract (s1+k) (s1+n1)).toList++((arrOf st).extract (s1+n1) (s1+n1+u)).toList)++(arrOf st).toList.drop (s1+n1+u)):=by
   refine List.ext_getElem? fun j=>?_
   have ht:((arrOf st).toList.take (s1+k)).length=s1+k:=by rw[List.length_take,Array.length_toList];lia
   by_cases d1:j<s1+k
   ·rw[List.getElem?_append_left (by lia),List.getElem?_take_of_lt d1]
   ·rw[List.getElem?_append_right (by lia),ht,List.append_assoc]
    by_cases d2:j<s1+n1
    ·rw[List.getElem?_append_left (by rw[Array.length_toList,zx];lia),Dv,List.getElem?_take_of_lt (by lia),List.getElem?_drop]
     congr 1
     lia
    ·rw[List.getElem?_append_right (by rw[Array.length_toList,zx];lia),Array.length_toList,zx]
     by_cases d3:j<s1+n1+u
     ·rw[List.getElem?_append_left (by rw[Array.length_toList,zy];lia),Dv,List.getElem?_take_of_lt (by lia),List.getElem?_drop]
      congr 1
      lia
     ·rw[List.getElem?_append_right (by rw[Array.length_toList,zy];lia),Array.length_toList,zy,List.getElem?_drop]
      congr 1
      lia
  have hp:(m.toList.zipIdx.foldl (fun a (p,j)=>a.setIfInBounds (s1+k+j) p) (arrOf st)).Perm (arrOf st):=by
   refine Array.perm_iff_toList_perm.mpr ?_
   rw[elist]
   exact List.Perm.trans (List.Perm.append_left _ (List.Perm.append_right _ gd.1)) (List.Perm.of_eq orig.symm)
  have nw:arrOf (setArr st2 (m.toList.zipIdx.foldl (fun a (p,j)=>a.setIfInBounds (s1+k+j) p) (arrOf st2)))=m.toList.zipIdx.foldl (fun a (p,j)=>a.setIfInBounds (s1+k+j) p) (arrOf st):=by rw[garr]
  refine hQ _ ⟨?_,g.kind.trans h.kind,g.fail.trans h.fail⟩ g.pend ?_ ?_
  ·rw[nw]
   exact hp.trans h.perm
  ·rw[nw]
   have gm:∀ j,s1+k<=j->j<s1+n1+u->∃ z,m.toList[j - (s1+k)]?=some z/\G (m.toList.zipIdx.foldl (fun a (p,j)=>a.setIfInBounds (s1+k+j) p) (arrOf st)) j=z/\z∈m.toList:=fun j b1 b2=>by
    have e:m.toList[j - (s1+k)]?=some m.toList[j - (s1+k)]:=List.getElem?_eq_getElem (by lia)
    refine ⟨_,e,?_,List.mem_of_getElem? e⟩
    unfold G
    rw[w2 j,if_pos (by lia),e]
    rfl
   have go:∀ j,(j<s1+k\/s1+n1+u<=j)->G (m.toList.zipIdx.foldl (fun a (p,j)=>a.setIfInBounds (s1+k+j) p) (arrOf st)) j=G (arrOf st) j:=fun j b=>Cr (by rw[w2 j,if_neg (by lia)])
   have mem:∀ z∈m.toList,good z/\(∀ j,s1<=j->j<s1+k->LE lt (G (arrOf st) j) z)/\∀ j,s1+n1+u<=j->j<s1+n1+n2->LE lt z (G (arrOf st) j):=fun z hz=>by
    rcases List.mem_append.mp (gd.1.mem_iff.mp hz) with hz | hz
    ·obtain ⟨i',hi'⟩:=List.mem_iff_getElem?.mp hz
     obtain ⟨rfl,l⟩:=gx i' z hi'
     refine ⟨gs _ (by lia),fun j b1 b2=>a1 _ _ b1 (by lia) (by lia),fun j b1 b2=>?_⟩
     exact O.tr (gs _ (by lia)) (gs _ (by lia)) (gs _ (by lia)) (a1 _ (s1+n1 - 1) (by lia) (by lia) (by lia)) (j3' j b1 b2)
    ·obtain ⟨i',hi'⟩:=List.mem_iff_getElem?.mp hz
     obtain ⟨rfl,l⟩:=gy i' z hi'
     refine ⟨gs _ (by lia),fun j b1 b2=>?_,fun j b1 b2=>a2 _ _ (by lia) (by lia) (by lia)⟩
     exact O.tr (gs _ (by lia)) (gs _ (by lia)) (gs _ (by lia)) (k2' j b1 b2) (a2 _ _ (Nat.le_refl _) (by lia) (by lia))
   intro p q b1 b2 b3
   by_cases d1:p<s1+k
   ·rw[go p (.inl d1)]
    by_cases d2:q<s1+k
    ·rw[go q (.inl d2)];exact a1 _ _ b1 b2 (by lia)
    by_cases d3:q<s1+n1+u
    ·obtain ⟨z,_,e,hz⟩:=gm q (by lia) d3
     rw[e];exact (mem z hz).2.1 p b1 d1
    ·rw[go q (.inr (by lia))]
     exact O.tr (gs _ (by lia)) (gs _ (by lia)) (gs _ (by lia)) (k2' p b1 d1) (a2 _ _ (Nat.le_refl _) (by lia) (by lia))
   by_cases d3:p<s1+n1+u
   ·obtain ⟨z,ez,e,hz⟩:=gm p (by lia) d3
    rw[e]
    by_cases d4:q<s1+n1+u
    ·obtain ⟨z',ez',e',hz'⟩:=gm q (by lia) d4
     rw[e']
     by_cases d5:p=q
     ·subst d5
      rw[ez] at ez'
      cases ez'
      exact O.rf (mem z hz).1
     ·obtain ⟨h1',q1⟩:=List.getElem?_eq_some_iff.mp ez
      obtain ⟨h2',q2⟩:=List.getElem?_eq_some_iff.mp ez'
      rw[<-q1,<-q2]
      exact List.pairwise_iff_getElem.mp gd.2 _ _ h1' h2' (by lia)
    ·rw[go q (.inr (by lia))]
     exact (mem z hz).2.2 q (by lia) (by lia)
   ·rw[go p (.inr (by lia)),go q (.inr (by lia))]
    exact a2 _ _ (by lia) b2 (by lia)
  ·intro j hj
   rw[nw,w2 j,if_neg (by lia)]
 have h1':∀ x,((arrOf st).extract (s1+k) (s1+n1)).toList[((arrOf st).extract (s1+k) (s1+n1)).size - 1]?=some x->∀ y∈((arrOf st).extract (s1+n1) (s1+n1+u)).toList,LE lt y x:=fun x hx y hy=>by
  obtain ⟨rfl,l⟩:=gx _ x hx
  obtain ⟨i',hi'⟩:=List.mem_iff_getElem?.mp hy
  obtain ⟨rfl,l'⟩:=gy i' y hi'
  rw[zx,show s1+k+(n1 - k - 1)=s1+n1 - 1 by lia]
  exact j2' _ (by lia) (by lia)
 have h0':∀ y,((arrOf st).extract (s1+n1) (s1+n1+u)).toList[0]?=some y->∀ x∈((arrOf st).extract (s1+k) (s1+n1)).toList,LE lt y x:=fun y hy x hx=>by
  obtain ⟨rfl,l⟩:=gy _ y hy
  obtain ⟨i',hi'⟩:=List.mem_iff_getElem?.mp hx
  obtain ⟨rfl,l'⟩:=gx i' x hi'
  exact k3' _ (by lia) (by lia)
 by_cases c3:n1 - k<=u
 ·rw[if_pos c3]
  exact wpS_bind (Vo C O B1.kind sx sy (by lia) (by lia) (fun x y hx hy=>h0' y hy x (List.mem_of_getElem? hx)) h1' fun r st' g gd=>fin r st' g gd)
 ·rw[if_neg c3]
  exact wpS_bind (XT C O B1.kind sx sy (by lia) (by lia) h0' h1' fun r st' g gd=>fin r st' g gd)
end
def Ch (lt:Keyed->Keyed->Bool) (xs:Array Keyed):Nat->List (Nat×Nat×Nat)->Nat->Prop
 | s,[],e=>s=e
 | s,(t,n,_)::r,e=>t=s/\1<=n/\Asc lt xs s n/\Ch lt xs (s+n) r e
section
variable {lt:Keyed->Keyed->Bool} {xs ys:Array Keyed}
theorem Ch.app:∀ {P R:List (Nat×Nat×Nat)} {s e:Nat},Ch lt xs s (P++R) e->∃ m,Ch lt xs s P m/\Ch lt xs m R e
 | [],_,s,_,h=>⟨s,rfl,h⟩
 | (t,n,p)::P,R,s,e,h=>by
  obtain ⟨h1,h2,h3,h4⟩:=h
  obtain ⟨m,a,b⟩:=Ch.app (P:=P) h4
  exact ⟨m,⟨h1,h2,h3,a⟩,b⟩
theorem Ch.join:∀ {P R:List (Nat×Nat×Nat)} {s m e:Nat},Ch lt xs s P m->Ch lt xs m R e->Ch lt xs s (P++R) e
 | [],_,s,m,_,h,k=>by
  have h':s=m:=h
  subst h'
  exact k
 | (t,n,p)::P,R,s,m,e,h,k=>by
  obtain ⟨h1,h2,h3,h4⟩:=h
  exact ⟨h1,h2,h3,Ch.join (P:=P) h4 k⟩
theorem Ch.le:∀ {P:List (Nat×Nat×Nat)} {s e:Nat},Ch lt xs s P e->s+P.length<=e
 | [],s,e,h=>by
  have h':s=e:=h
  simp[h']
 | (t,n,p)::P,s,e,h=>by
  obtain ⟨h1,h2,h3,h4⟩:=h
  have:=Ch.le (P:=P) h4
  rw[List.length_cons]
  lia
theorem Asc.keep {lo n:Nat} (a:Asc lt xs lo n) (h:∀ k,lo<=k->k<lo+n->G ys k=G xs k):Asc lt ys lo n:=fun i j h1 h2 h3=>by
 rw[h i h1 (by lia),h j (by lia) h3]
 exact a i j h1 h2 h3
theorem Ch.keep:∀ {P:List (Nat×Nat×Nat)} {s e:Nat},Ch lt xs s P e->(∀ k,s<=k->k<e->G ys k=G xs k)->Ch lt ys s P e
 | [],_,_,h,_=>h
 | (t,n,p)::P,s,e,h,k=>by
  obtain ⟨h1,h2,h3,h4⟩:=h
  have:=Ch.le h4
  exact ⟨h1,h2,h3.keep fun i a b=>k i a (by lia),Ch.keep (P:=P) h4 fun i a b=>k i (by lia) b⟩
end
theorem Lf {α:Type} (a b x:α) (l2:List α):∀ l1:List α,((l1++a::b::l2).set l1.length x).eraseIdx (l1.length+1)=l1++x::l2
 | []=>rfl
 | c::l1=>by
  show c::(((l1++a::b::l2).set l1.length x).eraseIdx (l1.length+1))=c::(l1++x::l2)
  rw[Lf a b x l2 l1]
section
variable {prog:Program} {w:World} {A:Around} {E:Value->Shared->Prop} {s:Shared} {kd:SortKind} {good:Keyed->Prop} {lt:Keyed->Keyed->Bool} {st:SortSt} {a₀:Array Keyed}
theorem PN {Q:Bool->SortSt->Prop} (C:Cmp prog w A E s kd good lt) (O:Ord good lt) (h:SB kd a₀ st) (hg:∀ x∈a₀.toList,good x) {i e:Nat} (hc:Ch lt (arrOf st) 0 (pendingOf st).toList e) (he:e<=a₀.size) (hi:i+1<(pendingOf st).size)
  (hQ:∀ st',SB kd a₀ st'->Ch lt (arrOf st') 0 (pendingOf st').toList e->(pendingOf st').size+1=(pendingOf st).size->(∀ k,e<=k->G (arrOf st') k=G (arrOf st) k)->Q true st'):wpS (model prog w) A E s (mergeAt' i) Q st:=by
 obtain ⟨x,d1⟩:∃ x,(pendingOf st).toList[i]?=some x:=⟨_,List.getElem?_eq_getElem (by rw[Array.length_toList];lia)⟩
 obtain ⟨y,d2⟩:∃ x,(pendingOf st).toList[i+1]?=some x:=⟨_,List.getElem?_eq_getElem (by rw[Array.length_toList];lia)⟩
 have split:(pendingOf st).toList=(pendingOf st).toList.take i++x::y::(pendingOf st).toList.drop (i+2):=by
  obtain ⟨g1,e1⟩:=List.getElem?_eq_some_iff.mp d1
  obtain ⟨g2,e2⟩:=List.getElem?_eq_some_iff.mp d2
  rw[<-e1,<-e2,<-List.drop_eq_getElem_cons g2,<-List.drop_eq_getElem_cons g1,List.take_append_drop]
 have lt1:((pendingOf st).toList.take i).length=i:=by rw[List.length_take,Array.length_toList];lia
 obtain ⟨s1,n1,p1⟩:=x
 obtain ⟨s2,n2,p2⟩:=y
 have hc':=hc
 rw[split] at hc'
 obtain ⟨m,c1,c2⟩:=Ch.app hc'
 obtain ⟨rfl,l1,a1,rfl,l2,a2,c3⟩:=c2
 have hle:=Ch.le c3
 refine RN C O h hg (by rw[<-Array.getElem?_toList];exact d1) (by rw[<-Array.getElem?_toList];exact d2) l1 l2 (by lia) a1 a2 fun st' B pe as ou=>?_
 have ep:(pendingOf st').toList=(pendingOf st).toList.take i++(s1,n1+n2,p1)::(pendingOf st).toList.drop (i+2):=by
  rw[pe,Array.toList_eraseIdxIfInBounds,Array.toList_setIfInBounds]
  have q:=Lf (s1,n1,p1) (s1+n1,n2,p2) (s1,n1+n2,p1) ((pendingOf st).toList.drop (i+2)) ((pendingOf st).toList.take i)
  rw[<-split,lt1] at q
  exact q
 refine hQ st' B ?_ ?_ fun k hk=>Cr (ou k (.inr (by lia)))
 ·rw[ep]
  have hm:=Ch.le c1
  refine Ch.join (m:=s1) (c1.keep fun k b1 b2=>Cr (ou k (.inl b2))) ⟨rfl,by lia,as,?_⟩
  rw[<-Nat.add_assoc]
  exact c3.keep fun k b1 b2=>Cr (ou k (.inr b1))
 ·have z1:=congrArg List.length ep
  have z2:=congrArg List.length split
  rw[List.length_append,List.length_cons] at z1 z2
  rw[List.length_cons] at z2
  rw[Array.length_toList] at z1 z2
  lia
theorem Ch.last {xs:Array Keyed} {P:List (Nat×Nat×Nat)} {e:Nat} {f:Nat×Nat×Nat->Nat×Nat×Nat} (hf:∀ t n p,∃ q,f (t,n,p)=(t,n,q)):∀ {s:Nat} (i:Nat),Ch lt xs s P e->Ch lt xs s (P.modify i f) e:=by
 induction P with
 | nil=>intro s i h;cases i<;>exact h
 | cons x P ih=>
  intro s i h
  obtain ⟨t,n,p⟩:=x
  obtain ⟨h1,h2,h3,h4⟩:=h
  cases i with
  | zero=>
   obtain ⟨q,e⟩:=hf t n p
   show Ch lt xs s (f (t,n,p)::P) _
   rw[e]
   exact ⟨h1,h2,h3,h4⟩
  | succ i=>exact ⟨h1,h2,h3,ih i h4⟩
theorem Jv {Q:Unit->SortSt->Prop} (C:Cmp prog w A E s kd good lt) (O:Ord good lt) (h:SB kd a₀ st) (hp:pendingOf st=#[]) (hg:∀ x∈a₀.toList,good x) (h2:2<=a₀.size)
  (hQ:∀ st',SB kd a₀ st'->Asc lt (arrOf st') 0 a₀.size->Q () st'):wpS (model prog w) A E s sortRuns' Q st:=by
 rw[sortRuns'_eq]
 refine wpS_bind (wpS_get ?_)
 dsimp only
 have sz:=h.size
 rw[sz]
 generalize minRun' a₀.size a₀.size 0=mr
 refine wpS_bind (wpS_mono (wpS_forRange
  (I:=fun x c st'=>∃ lo,c=(none,lo)/\x<=lo/\lo<=a₀.size/\SB kd a₀ st'/\Ch lt (arrOf st') 0 (pendingOf st').toList lo)
  (Q:=fun c st'=>∃ lo,c=(none,lo)/\lo=a₀.size/\SB kd a₀ st'/\Ch lt (arrOf st') 0 (pendingOf st').toList lo) ?step ?fin ⟨0,rfl,Nat.le_refl _,Nat.zero_le _,h,by rw[hp];rfl⟩) ?post)
 case fin=>
  rintro c st' ⟨lo,rfl,a1,a2,B,hc⟩
  exact ⟨lo,rfl,by lia,B,hc⟩
 case step=>
  rintro x c st1 _ hx ⟨lo,rfl,a1,a2,B,hc⟩
  dsimp only
  by_cases c1:lo>=a₀.size
  ·rw[if_pos c1]
   exact wpS_pure ⟨lo,rfl,by lia,B,hc⟩
  rw[if_neg c1]
  refine wpS_bind (Ti C O B hg (by lia) (by lia) fun n st2 B2 p0 q1 q2 q3 q4=>?_)
  have hc2:Ch lt (arrOf st2) 0 (pendingOf st2).toList lo:=by
   rw[p0]
   exact hc.keep fun k _ b2=>Cr (q4 k (.inl b2))
  dsimp only
  have rest:∀ (n:Nat) (st3:SortSt),SB kd a₀ st3->Ch lt (arrOf st3) 0 (pendingOf st3).toList lo->1<=n->lo+n<=a₀.size->Asc lt (arrOf st3) lo n ->
    (∃ lo',(none,lo+n)=((none,lo'):Option Unit×Nat)/\x+1<=lo'/\lo'<=a₀.size/\SB kd a₀ (setPending st3 ((pendingOf st3).push (lo,n,0)))/\Ch lt (arrOf st3) 0 ((pendingOf st3).push (lo,n,0)).toList lo'):=fun n st3 B3 hc3 r1 r2 r3=>by
   refine ⟨lo+n,rfl,by lia,r2,⟨B3.perm,B3.kind,B3.fail⟩,?_⟩
   rw[Array.toList_push]
   exact Ch.join hc3 ⟨rfl,r1,r3,rfl⟩
  by_cases c2:n<mr
  case' pos=>
   rw[if_pos c2]
   refine wpS_bind (wpS_lift (wpAny_rule ⟨rfl,?_⟩))
   refine wpS_bind (Q4 (n:=min (a₀.size - lo) mr) C O B2 hg (by lia) q1 (by lia) q3 fun st2 B2 p3 q3 ou=>?_)
   simp only[Bool.not_true,Bool.false_eq_true,if_false]
   replace hc2:Ch lt (arrOf st2) 0 (pendingOf st2).toList lo:=by
    rw[p3]
    exact hc2.keep fun k _ b=>Cr (ou k (.inl b))
   have q1:1<=min (a₀.size - lo) mr:=by lia
   have q2':lo+min (a₀.size - lo) mr<=a₀.size:=by lia
   clear ou
   revert q3 q1 q2'
   generalize min (a₀.size - lo) mr=n
   intro q3 q1 q2'
  case' neg=>
   rw[if_neg c2]
   have q2':lo+n<=a₀.size:=by lia
  all_goals
   refine wpS_bind (wpS_get ?_)
   cases eb:(pendingOf st2).back? with
   | none=>
    dsimp only
    exact wpS_bind (wpS_modify (wpS_pure (rest n st2 B2 hc2 q1 q2' q3)))
   | some y=>
    obtain ⟨s1,n1,pz⟩:=y
    dsimp only
    generalize power' a₀.size (2 * s1+n1) (2 * s1+n1+n1+n) a₀.size=pw
    refine wpS_bind (wpS_mono (wpS_forRange
     (I:=fun _ c st3=>c=(none,())/\SB kd a₀ st3/\Ch lt (arrOf st3) 0 (pendingOf st3).toList lo/\Asc lt (arrOf st3) lo n)
     (Q:=fun c st3=>c=(none,())/\SB kd a₀ st3/\Ch lt (arrOf st3) 0 (pendingOf st3).toList lo/\Asc lt (arrOf st3) lo n) ?istep ?ifin ⟨rfl,B2,hc2,q3⟩) ?ipost)
    case ifin=>exact fun c st3 z=>z
    case ipost=>
     rintro c st3 ⟨rfl,B3,hc3,as3⟩
     refine wpS_bind (wpS_modify (wpS_bind (wpS_modify (wpS_pure ?_))))
     refine rest n (setPending st3 ((pendingOf st3).modify ((pendingOf st3).size - 1) fun x=>(x.fst,x.2.fst,pw))) ⟨B3.perm,B3.kind,B3.fail⟩ ?_ q1 q2' as3
     show Ch lt (arrOf st3) 0 ((pendingOf st3).modify ((pendingOf st3).size - 1) fun x=>(x.fst,x.2.fst,pw)).toList lo
     rw[Array.toList_modify]
     exact Ch.last (fun t n p=>⟨_,rfl⟩) _ hc3
    case istep=>
     rintro z c st3 _ hz ⟨rfl,B3,hc3,as3⟩
     refine wpS_bind (wpS_get ?_)
     by_cases c3:(pendingOf st3).size > 1
     ·rw[if_pos c3]
      have e3:(pendingOf st3)[(pendingOf st3).size - 2]?=some (pendingOf st3)[(pendingOf st3).size - 2]:=Array.getElem?_eq_getElem (by lia)
      rw[e3]
      generalize (pendingOf st3)[(pendingOf st3).size - 2]=y3
      obtain ⟨t3,n3,p3'⟩:=y3
      dsimp only
      by_cases c4:p3'<=pw
      ·rw[if_pos c4]
       exact wpS_pure ⟨rfl,B3,hc3,as3⟩
      ·rw[if_neg c4]
       refine wpS_bind (PN C O B3 hg hc3 a2 (by lia) fun st4 B4 hc4 _ kp=>?_)
       simp only[Bool.not_true,Bool.false_eq_true,if_false]
       exact wpS_pure ⟨rfl,B4,hc4,as3.keep fun k b1 _=>kp k b1⟩
     ·rw[if_neg c3]
      exact wpS_pure ⟨rfl,B3,hc3,as3⟩
 case post=>
  rintro c st' ⟨lo,rfl,rfl,B,hc⟩
  dsimp only
  have hl:=Ch.le hc
  rw[Array.length_toList] at hl
  refine wpS_bind (wpS_mono (wpS_forRange
   (I:=fun x c st''=>c=(none,())/\SB kd a₀ st''/\Ch lt (arrOf st'') 0 (pendingOf st'').toList a₀.size/\(pendingOf st'').size+x<=a₀.size)
   (Q:=fun c st''=>c=(none,())/\SB kd a₀ st''/\Ch lt (arrOf st'') 0 (pendingOf st'').toList a₀.size/\(pendingOf st'').size<=1) ?step ?fin ⟨rfl,B,hc,by lia⟩) ?post)
  case fin=>
   rintro c st'' ⟨rfl,B',hc',l'⟩
   exact ⟨rfl,B',hc',by lia⟩
  case post=>
   rintro c st'' ⟨rfl,B',hc',l'⟩
   refine wpS_pure (hQ st'' B' ?_)
   cases e:(pendingOf st'').toList with
   | nil=>
    rw[e] at hc'
    have z:0=a₀.size:=hc'
    lia
   | cons y r=>
    have hr:r=[]:=by
     have z:=congrArg List.length e
     rw[Array.length_toList,List.length_cons] at z
     cases r with
     | nil=>rfl
     | cons _ _=>rw[List.length_cons] at z;lia
    subst hr
    obtain ⟨t,n,p⟩:=y
    rw[e] at hc'
    obtain ⟨_,_,b3,b4⟩:=hc'
    have z:0+n=a₀.size:=b4
    rw[<-z,Nat.zero_add]
    exact b3
  case step=>
   rintro x c st'' _ hx ⟨rfl,B',hc',l'⟩
   refine wpS_bind (wpS_get ?_)
   by_cases c1:(pendingOf st'').size<=1
   ·rw[if_pos c1]
    exact wpS_pure ⟨rfl,B',hc',c1⟩
   ·rw[if_neg c1]
    refine wpS_bind (PN C O B' hg hc' (Nat.le_refl _) ?_ fun st3 B3 hc3 l3 _=>?_)
    ·have hidx:∀ c:Bool,(if c=true then (pendingOf st'').size - 2 - 1 else (pendingOf st'').size - 2)+1<(pendingOf st'').size:=fun c=>by
      cases c with
      | true=>rw[if_pos rfl];lia
      | false=>rw[if_neg Bool.false_ne_true];lia
     exact hidx _
    ·simp only[Bool.not_true,Bool.false_eq_true,if_false]
     exact wpS_pure ⟨rfl,B3,hc3,by lia⟩
end
section
variable {prog:Program} {w:World} {A:Around} {E:Value->Shared->Prop} {s:Shared}
def LC (x:Keyed):Prop:=∃ n t,x.1=Value.int n t
def Dc (x y:Keyed):Bool:=decide (numOf x.1<numOf y.1)
theorem VM:Cmp prog w A E s oneType' LC Dc where
 run:=fun {st x y Q} hk gx gy hq=>by
  obtain ⟨n,t,e1⟩:=gx
  obtain ⟨m,u,e2⟩:=gy
  unfold Dc at hq
  rw[e1,e2] at hq
  rw[lt'_eq]
  refine wpS_bind (wpS_get ?_)
  rw[hk,keyLt'_oneType,e1,e2]
  exact wpS_bind (wpS_lift (wpAny_attempt (oneLt_int ⟨rfl,wpS_pure hq⟩)))
theorem TF:Ord LC Dc where
 tr:=fun {x y z} _ _ _ h1 h2=>by
  unfold Dc at *
  rw[decide_eq_false_iff_not] at *
  lia
 tot:=fun {x y} _ _ h=>by
  unfold Dc at *
  rw[decide_eq_true_iff] at h
  rw[decide_eq_false_iff_not]
  lia
theorem K_G (xs:Array Keyed) (i:Nat):K xs i=numOf (G xs i).1:=by
 unfold K G
 cases xs[i]? with
 | none=>rfl
 | some p=>rfl
theorem LO {a:Addr} {vs:List Value} {ns:List Int} {n:Nat} {P:Fin->Shared->Prop} (ho:s.heap.get? a=some (seqObj "list" vs.toArray n)) (hI:IntsAre vs ns) (hz:vs.length<=sizeLine)
  (hP:∀ (out:Array Value) (ms:List Int),IntsAre out.toList ms->ms.Perm ns->ms.Pairwise (·<=·)->P (.done (.ret .none)) {s with heap:=sortedHeap s.heap a vs out}):wpAny (model prog w) A (Builtin.«list.sort» ⟨[.ref a],[]⟩) P E s:=by
 rw[list_sort_plain]
 have la:a<s.heap.objs.size:=Heap.lt_size ho
 refine wpAny_bind (listItems_at ho rfl (wpAny_bind (listUpdate_at ho rfl ?_ (by rw[List.size_toArray];exact hz))))
 obtain ⟨c1,o1⟩:∃ c1,(s.heap.update a (Obj.mapSeq fun _=>#[])).get? a=some (seqObj "list" #[] c1):=⟨_,get?_update_seq ho (fun _=>#[])⟩
 refine wpAny_bind (seqEpoch_at o1 rfl (wpAny_bind (wpAny_newTuple (wpAny_bind (wpAny_newList (wpAny_holding ?_))))))
 have o6:(((s.heap.update a (Obj.mapSeq fun _=>#[])).push (seqObj "tuple" vs.toArray 0)).push (seqObj "list" #[] 0)).get? a=some (seqObj "list" #[] c1):=by
  rw[Heap.get?_push_ne _ _ _ (by rw[size_push',Heap.size_update];exact Nat.ne_of_lt (Nat.lt_succ_of_lt la)),Heap.get?_push_ne _ _ _ (by rw[Heap.size_update];exact Nat.ne_of_lt la)]
  exact o1
 show wpAny (model prog w) A _ P E {s with heap:=((s.heap.update a (Obj.mapSeq fun _=>#[])).push (seqObj "tuple" vs.toArray 0)).push (seqObj "list" #[] 0)}
 dsimp only
 have zs:vs.toArray.size=vs.length:=by simp
 have fin:∀ st':SortSt,(arrOf st').Perm (pairsOf vs)->SortedTo (arrOf st') (pairsOf vs).size->P (.done (.ret .none)) {s with heap:=sortedHeap s.heap a vs ((arrOf st').map (·.2))}:=fun st' hp hs=>by
  obtain ⟨ms,q1,q2,q3⟩:=sorted_out hI hp hs
  exact hP _ ms q1 q2 q3
 by_cases h2:vs.toArray.size<2
 ·rw[if_pos h2,if_pos h2]
  refine wpAny_bind (wpAny_pure ?_)
  rw[StateT.run_pure]
  refine wpAny_bind (wpAny_pure ?_)
  dsimp only
  refine wpAny_bind (seqEpoch_at o6 rfl (wpAny_bind (listUpdate_at o6 rfl ?_ (hsz2:=by rw[Array.size_map];show (pairsOf vs).size<=_;rw[pairsOf_size];lia))))
  simp only[bne_self_eq_false,Bool.false_eq_true,if_false]
  refine wpAny_pure (fin (SortSt.mk' general' (vs.toArray.zip vs.toArray) #[] 7 none) (Array.Perm.refl _) fun i j hij hj=>?_)
  have:i=j:=by rw[pairsOf_size] at hj;lia
  subst this
  exact Int.le_refl _
 ·rw[if_neg h2,if_neg h2]
  obtain ⟨v,v',r,rfl⟩:∃ v v' r,vs=v::v'::r:=by
   cases vs with
   | nil=>simp at h2
   | cons v r=>
    cases r with
    | nil=>simp at h2
    | cons v' r=>exact ⟨v,v',r,rfl⟩
  rw[keyKind_ints hI]
  refine wpAny_bind (wpAny_pure ?_)
  refine wpAny_bind (wpAny_mono (Jv (a₀:=pairsOf (v::v'::r)) (st:=SortSt.mk' oneType' ((v::v'::r).toArray.zip (v::v'::r).toArray) #[] 7 none)
   (Q:=fun _ st'=>SB oneType' (pairsOf (v::v'::r)) st'/\Asc Dc (arrOf st') 0 (pairsOf (v::v'::r)).size)
   VM TF ⟨Array.Perm.refl _,rfl,rfl⟩ rfl (fun x hx=>hI.intKeys x hx) (by rw[pairsOf_size];simp) fun st' B as=>⟨B,as⟩) ?_ fun _ _ e=>e)
  rintro ⟨⟨⟩,st'⟩ s' ⟨rfl,B,as⟩
  dsimp only
  refine wpAny_bind (seqEpoch_at o6 rfl (wpAny_bind (listUpdate_at o6 rfl ?_ (hsz2:=by refine Nat.le_trans (Nat.le_of_eq ((Array.size_map ..).trans (B.perm.size_eq.trans (pairsOf_size _)))) ?_;lia))))
  rw[B.fail]
  simp only[bne_self_eq_false,Bool.false_eq_true,if_false]
  refine wpAny_pure (fin st' B.perm fun i j hij hj=>?_)
  have q:Dc (G (arrOf st') j) (G (arrOf st') i)=false:=as i j (Nat.zero_le _) hij (by lia)
  unfold Dc at q
  rw[decide_eq_false_iff_not] at q
  rw[K_G,K_G]
  lia
theorem YA {l:Addr} {vs:List Value} {ns:List Int} {Q:Value->Shared->Prop} (hl:s.heap.IsList l vs.toArray) (hI:IntsAre vs ns) (hz:vs.length<=sizeLine)
  (h:∀ (out:Array Value) (ms:List Int),IntsAre out.toList ms->ms.Perm ns->ms.Pairwise (·<=·)->Q (.ref (s.heap.objs.size+1)) {s with heap:=sortedAll s.heap vs out}):wpAny (model prog w) A (call (.builtin "sorted") [.ref l]) Q E s:=by
 refine Calls.call_function_entry kind_sorted plain_sorted entry_sorted (args_sorted1 _) ?_
 unfold Builtin.«sorted»
 refine wpAny_bind (m:=checkCount "sorted" 1 1 _) (wpAny_pure (wpAny_bind (collect_list hl ?_ hz)))
 refine wpAny_bind (wpAny_newList ?_)
 have sz:((s.heap.push (seqObj "list" #[] 0)).update s.heap.objs.size (Obj.mapSeq (·++vs.toArray))).objs.size=s.heap.objs.size+1:=by rw[Heap.size_update,size_push']
 have oL:(((s.heap.push (seqObj "list" #[] 0)).update s.heap.objs.size (Obj.mapSeq (·++vs.toArray))).push (seqObj "list" vs.toArray 0)).get? (s.heap.objs.size+1)=some (seqObj "list" vs.toArray 0):=by
  rw[<-sz]
  exact Heap.get?_push_size _ rfl
 show wpAny _ _ _ _ _ {s with heap:=((s.heap.push (seqObj "list" #[] 0)).update s.heap.objs.size (Obj.mapSeq (·++vs.toArray))).push (seqObj "list" vs.toArray 0)}
 rw[sz]
 refine wpAny_bind (wpAny_holding (wpAny_call_entry slot_list_sort ⟨_,oL,rfl⟩ entry_list_sort (LO oL hI hz fun out ms b1 b2 b3=>⟨_,rfl,?_⟩) (args_list_sort _)))
 exact wpAny_pure ⟨_,rfl,h out ms b1 b2 b3⟩
end
theorem JH:∀ ns:List Int,HT.lexLt ns ns=false
 | []=>rfl
 | n::ns=>by rw[HT.Bz,if_pos rfl,JH ns]
theorem Ds:∀ {ns ms:List Int},HT.lexLt ns ms=true->HT.lexLt ms ns=false
 | [],[],h=>by cases h
 | [],_::_,_=>rfl
 | _::_,[],h=>by cases h
 | n::ns,m::ms,h=>by
  rw[HT.Bz] at *
  split at h
  ·rename_i e
   rw[if_pos e.symm]
   exact Ds h
  ·rename_i e
   rw[if_neg (fun z=>e z.symm)]
   have:=of_decide_eq_true h
   exact decide_eq_false (by lia)
theorem E4:∀ {x y z:List Int},HT.lexLt y x=false->HT.lexLt z y=false->HT.lexLt z x=false
 | [],y,z,_,_=>by cases z<;>rfl
 | _::_,[],z,h,_=>by cases h
 | x::xs,y::ys,[],_,h=>by cases h
 | x::xs,y::ys,z::zs,h1,h2=>by
  rw[HT.Bz] at *
  split at h1
  ·rename_i e1
   subst e1
   split at h2
   ·rename_i e2
    rw[if_pos e2]
    exact E4 h1 h2
   ·rename_i e2
    rw[if_neg e2]
    exact h2
  ·rename_i e1
   have a1:=of_decide_eq_false h1
   split at h2
   ·rename_i e2
    subst e2
    rw[if_neg e1]
    exact h1
   ·rename_i e2
    have a2:=of_decide_eq_false h2
    rw[if_neg (by lia)]
    exact decide_eq_false (by lia)
theorem JK:∀ {x y:List Int},HT.lexLt y x=false->HT.lexLt x y=false->x=y
 | [],[],_,_=>rfl
 | [],_::_,_,h=>by cases h
 | _::_,[],h,_=>by cases h
 | x::xs,y::ys,h1,h2=>by
  rw[HT.Bz] at *
  split at h1
  ·rename_i e
   subst e
   rw[if_pos rfl] at h2
   rw[JK h1 h2]
  ·rename_i e
   rw[if_neg (fun z=>e z.symm)] at h2
   have:=of_decide_eq_false h1
   have:=of_decide_eq_false h2
   exact absurd (by lia:y=x) e
section
variable {prog:Program} {w:World} {A:Around} {E:Value->Shared->Prop} {s:Shared}
def Cf (h:Heap) (ν:Value->List Int) (v:Value):Prop:=∃ a o xs n,v=.ref a/\h.get? a=some o/\o.cls=.type "tuple"/\o.data=.seq xs n/\IntsAre xs.toList (ν v)/\ν v≠[]
def Ho (ν:Value->List Int) (x y:Keyed):Bool:=HT.lexLt (ν x.1) (ν y.1)
theorem MC {b:Bool} {Q:Bool->Shared->Prop}:∀ {xs ys:List Value} {ns ms:List Int} {i:Nat} {fin:Bool},IntsAre xs ns->IntsAre ys ms->fin=decide (ns.length<ms.length)->Q (HT.lexLt ns ms) s->PySem.W.KatLex prog w A b fin Q (xs.zip ys) i s
 | _,_,_,_,_,_,.nil,.nil,hf,h=>by subst hf;exact PySem.W.kat_nil h
 | _,_,_,_,_,_,.nil,.cons c u hw,hf,h=>by subst hf;exact PySem.W.kat_nil h
 | _,_,_,_,_,_,.cons a t hv,.nil,hf,h=>by subst hf;exact PySem.W.kat_nil h
 | _,_,_,_,i,fin,.cons a t hv,.cons c u hw,hf,h=>by
  rw[List.zip_cons_cons]
  refine PySem.W.kat_cons (wpAny_eqBool_int ?_)
  by_cases e:a=c
  ·subst e
   rw[show (a == a)=true by simp]
   refine PySem.W.kat_yes (MC hv hw (by rw[hf];simp) ?_)
   rw[HT.Bz,if_pos rfl] at h
   exact h
  ·rw[show (a == c)=false by simpa using e]
   refine PySem.W.kat_no ?_
   have hq:=h
   rw[HT.Bz,if_neg e] at hq
   cases hb:(b && i == 0) with
   | false=>exact PySem.W.kat_one _ _ (lt_int hq)
   | true=>exact oneLt_int hq
theorem V0 {ν:Value->List Int}:Cmp prog w A E s (tuples' true) (fun x=>Cf s.heap ν x.1) (Ho ν) where
 run:=fun {st x y Q} hk gx gy hq=>by
  obtain ⟨a,o,xs,n,e1,ho,hc,hd,hi,_⟩:=gx
  obtain ⟨a',o',xs',n',e1',ho',hc',hd',hi',_⟩:=gy
  unfold Ho at hq
  rw[lt'_eq]
  refine wpS_bind (wpS_get ?_)
  rw[hk,e1,e1']
  refine wpS_bind (wpS_lift (wpAny_attempt (PySem.W.kat_lt ho hd ho' hd' ?_)))
  exact MC hi hi' (by rw[<-hi.length,<-hi'.length];simp) ⟨rfl,wpS_pure hq⟩
theorem V1 {h:Heap} {ν:Value->List Int}:Ord (fun x=>Cf h ν x.1) (Ho ν) where
 tr:=fun {x y z} _ _ _ h1 h2=>E4 h1 h2
 tot:=fun {x y} _ _ h=>Ds h
theorem Pt {h:Heap} {ν:Value->List Int}:∀ {vs:List Value},(∀ v∈vs,Cf h ν v)->∃ fs,PySem.W.KatTups h vs fs/\fs.length=vs.length/\∀ v∈fs,∃ n t,v=Value.int n t
 | [],_=>⟨[],.nil,rfl,fun _ h=>nomatch h⟩
 | v::vs,hg=>by
  obtain ⟨fs,h1,h2,h3⟩:=Pt (vs:=vs) fun u hu=>hg u (List.mem_cons_of_mem _ hu)
  obtain ⟨a,o,xs,n,rfl,ho,hc,hd,hi,hne⟩:=hg v List.mem_cons_self
  cases hx:xs.toList with
  | nil=>
   rw[hx] at hi
   cases hq:ν (.ref a) with
   | nil=>exact absurd hq hne
   | cons m ms=>rw[hq] at hi;cases hi
  | cons y ys=>
   rw[hx] at hi
   cases hq:ν (.ref a) with
   | nil=>exact absurd hq hne
   | cons m ms=>
    rw[hq] at hi
    cases hi with
    | cons _ t hi'=>
     have h0:xs[0]?=some (Value.int m t):=by
      have:xs.toList[0]?=some (Value.int m t):=by rw[hx];rfl
      simpa using this
     exact ⟨.int m t::fs,.cons ho hc hd h0 h1,by simp[h2],fun u hu=>by
      rcases List.mem_cons.mp hu with rfl | hu
      ·exact ⟨m,t,rfl⟩
      ·exact h3 u hu⟩
theorem UY {a:Addr} {vs:List Value} {n:Nat} {P:Fin->Shared->Prop} (ν:Value->List Int) (ho:s.heap.get? a=some (seqObj "list" vs.toArray n)) (hI:∀ v∈vs,Cf s.heap ν v) (hz:vs.length<=sizeLine)
  (hP:∀ (out:Array Value),out.toList.Perm vs->out.toList.Pairwise (fun u v=>HT.lexLt (ν v) (ν u)=false)->P (.done (.ret .none)) {s with heap:=sortedHeap s.heap a vs out}):wpAny (model prog w) A (Builtin.«list.sort» ⟨[.ref a],[]⟩) P E s:=by
 rw[list_sort_plain]
 have la:a<s.heap.objs.size:=Heap.lt_size ho
 refine wpAny_bind (listItems_at ho rfl (wpAny_bind (listUpdate_at ho rfl ?_ (by rw[List.size_toArray];exact hz))))
 obtain ⟨c1,o1⟩:∃ c1,(s.heap.update a (Obj.mapSeq fun _=>#[])).get? a=some (seqObj "list" #[] c1):=⟨_,get?_update_seq ho (fun _=>#[])⟩
 refine wpAny_bind (seqEpoch_at o1 rfl (wpAny_bind (wpAny_newTuple (wpAny_bind (wpAny_newList (wpAny_holding ?_))))))
 have o6:(((s.heap.update a (Obj.mapSeq fun _=>#[])).push (seqObj "tuple" vs.toArray 0)).push (seqObj "list" #[] 0)).get? a=some (seqObj "list" #[] c1):=by
  rw[Heap.get?_push_ne _ _ _ (by rw[size_push',Heap.size_update];exact Nat.ne_of_lt (Nat.lt_succ_of_lt la)),Heap.get?_push_ne _ _ _ (by rw[Heap.size_update];exact Nat.ne_of_lt la)]
  exact o1
 show wpAny (model prog w) A _ P E {s with heap:=((s.heap.update a (Obj.mapSeq fun _=>#[])).push (seqObj "tuple" vs.toArray 0)).push (seqObj "list" #[] 0)}
 dsimp only
 have hI6:∀ v∈vs,Cf (((s.heap.update a (Obj.mapSeq fun _=>#[])).push (seqObj "tuple" vs.toArray 0)).push (seqObj "list" #[] 0)) ν v:=fun v hv=>by
  obtain ⟨b,o,xs,n',rfl,hb,hc,hd,hi,hne⟩:=hI v hv
  have nb:b≠a:=fun z=>by
   rw[z,ho] at hb
   cases hb
   have hc':Value.type "list"=Value.type "tuple":=hc
   exact absurd hc' (by decide)
  refine ⟨b,o,xs,n',rfl,?_,hc,hd,hi,hne⟩
  refine Heap.get?_push_of_some _ (Heap.get?_push_of_some _ ?_)
  rw[Heap.get?_update_ne _ _ _ _ nb]
  exact hb
 have zs:vs.toArray.size=vs.length:=by simp
 have fin:∀ st':SortSt,(arrOf st').Perm (pairsOf vs)->(∀ i j:Nat,i<j->j<(arrOf st').size->HT.lexLt (ν (G (arrOf st') j).1) (ν (G (arrOf st') i).1)=false)->P (.done (.ret .none)) {s with heap:=sortedHeap s.heap a vs ((arrOf st').map (·.2))}:=fun st' hp hs=>by
  have hl:(arrOf st').toList.Perm (vs.zip vs):=by rw[<-pairsOf_toList];exact Array.perm_iff_toList_perm.mp hp
  have hmem:∀ p,p∈(arrOf st').toList->p.1=p.2/\p.1∈vs:=fun p hp'=>mem_zip_self (hl.mem_iff.mp hp')
  have e:((arrOf st').map (·.2)).toList=(arrOf st').toList.map (·.1):=by
   rw[Array.toList_map];exact List.map_congr_left fun p hp'=>(hmem p hp').1.symm
  refine hP _ ?_ ?_
  ·rw[e]
   have h1:=hl.map Prod.fst
   rwa [List.map_fst_zip (Nat.le_refl _)] at h1
  ·rw[e,List.pairwise_iff_getElem]
   intro i j hi hj hij
   rw[List.getElem_map,List.getElem_map]
   have hj':j<(arrOf st').size:=by simpa using hj
   have hi':i<(arrOf st').size:=by lia
   have q:=hs i j hij hj'
   have gi:G (arrOf st') i=(arrOf st')[i]:=by unfold G;rw[getElem?_pos _ i hi'];rfl
   have gj:G (arrOf st') j=(arrOf st')[j]:=by unfold G;rw[getElem?_pos _ j hj'];rfl
   rw[gi,gj] at q
   simpa using q
 by_cases h2:vs.toArray.size<2
 ·rw[if_pos h2,if_pos h2]
  refine wpAny_bind (wpAny_pure ?_)
  rw[StateT.run_pure]
  refine wpAny_bind (wpAny_pure ?_)
  dsimp only
  refine wpAny_bind (seqEpoch_at o6 rfl (wpAny_bind (listUpdate_at o6 rfl ?_ (hsz2:=by rw[Array.size_map];show (pairsOf vs).size<=_;rw[pairsOf_size];lia))))
  simp only[bne_self_eq_false,Bool.false_eq_true,if_false]
  refine wpAny_pure (fin (SortSt.mk' general' (vs.toArray.zip vs.toArray) #[] 7 none) (Array.Perm.refl _) fun i j hij hj=>?_)
  have hj':j<(pairsOf vs).size:=hj
  rw[pairsOf_size] at hj'
  lia
 ·rw[if_neg h2,if_neg h2]
  obtain ⟨fs,t1,t2,t3⟩:=Pt hI6
  refine wpAny_bind (PySem.W.kat_kind (T:=Value.type "int") t1 (by lia) (fun v hv=>by obtain ⟨k,t,rfl⟩:=t3 v hv;exact .of_pure rfl) (by decide) ?_)
  have kd:tuples' ((Value.type "int") != Value.type "tuple")=tuples' true:=by congr 1
  rw[kd]
  refine wpAny_bind (wpAny_mono (Jv (a₀:=pairsOf vs) (st:=SortSt.mk' (tuples' true) (vs.toArray.zip vs.toArray) #[] 7 none)
   (Q:=fun _ st'=>SB (tuples' true) (pairsOf vs) st'/\Asc (Ho ν) (arrOf st') 0 (pairsOf vs).size)
   V0 V1 ⟨Array.Perm.refl _,rfl,rfl⟩ rfl (fun x hx=>by
    have hx':x∈vs.zip vs:=by rw[<-pairsOf_toList];exact hx
    exact hI6 _ (mem_zip_self hx').2) (by rw[pairsOf_size];lia) fun st' B as=>⟨B,as⟩) ?_ fun _ _ e=>e)
  rintro ⟨⟨⟩,st'⟩ s' ⟨rfl,B,as⟩
  dsimp only
  refine wpAny_bind (seqEpoch_at o6 rfl (wpAny_bind (listUpdate_at o6 rfl ?_ (hsz2:=by refine Nat.le_trans (Nat.le_of_eq ((Array.size_map ..).trans (B.perm.size_eq.trans (pairsOf_size _)))) ?_;lia))))
  rw[B.fail]
  simp only[bne_self_eq_false,Bool.false_eq_true,if_false]
  refine wpAny_pure (fin st' B.perm fun i j hij hj=>?_)
  exact as i j (Nat.zero_le _) (by lia) (by have z:(arrOf st').size=(pairsOf vs).size:=B.perm.size_eq;lia)
theorem XC {l:Addr} {vs:List Value} {Q:Value->Shared->Prop} (ν:Value->List Int) (hl:s.heap.IsList l vs.toArray) (hI:∀ v∈vs,Cf s.heap ν v) (hz:vs.length<=sizeLine)
  (h:∀ (out:Array Value),out.toList.Perm vs->out.toList.Pairwise (fun u v=>HT.lexLt (ν v) (ν u)=false)->Q (.ref (s.heap.objs.size+1)) {s with heap:=sortedAll s.heap vs out}):wpAny (model prog w) A (call (.builtin "sorted") [.ref l]) Q E s:=by
 refine Calls.call_function_entry kind_sorted plain_sorted entry_sorted (args_sorted1 _) ?_
 unfold Builtin.«sorted»
 refine wpAny_bind (m:=checkCount "sorted" 1 1 _) (wpAny_pure (wpAny_bind (collect_list hl ?_ hz)))
 refine wpAny_bind (wpAny_newList ?_)
 have sz:((s.heap.push (seqObj "list" #[] 0)).update s.heap.objs.size (Obj.mapSeq (·++vs.toArray))).objs.size=s.heap.objs.size+1:=by rw[Heap.size_update,size_push']
 have oL:(((s.heap.push (seqObj "list" #[] 0)).update s.heap.objs.size (Obj.mapSeq (·++vs.toArray))).push (seqObj "list" vs.toArray 0)).get? (s.heap.objs.size+1)=some (seqObj "list" vs.toArray 0):=by
  rw[<-sz]
  exact Heap.get?_push_size _ rfl
 have hI2:∀ v∈vs,Cf (((s.heap.push (seqObj "list" #[] 0)).update s.heap.objs.size (Obj.mapSeq (·++vs.toArray))).push (seqObj "list" vs.toArray 0)) ν v:=fun v hv=>by
  obtain ⟨b,o,xs,n',rfl,hb,hc,hd,hi,hne⟩:=hI v hv
  have lb:b<s.heap.objs.size:=Heap.lt_size hb
  refine ⟨b,o,xs,n',rfl,?_,hc,hd,hi,hne⟩
  refine Heap.get?_push_of_some _ ?_
  rw[Heap.get?_update_ne _ _ _ _ (Nat.ne_of_lt lb)]
  exact Heap.get?_push_of_some _ hb
 show wpAny _ _ _ _ _ {s with heap:=((s.heap.push (seqObj "list" #[] 0)).update s.heap.objs.size (Obj.mapSeq (·++vs.toArray))).push (seqObj "list" vs.toArray 0)}
 rw[sz]
 refine wpAny_bind (wpAny_holding (wpAny_call_entry slot_list_sort ⟨_,oL,rfl⟩ entry_list_sort (UY ν oL hI2 hz fun out b1 b2=>⟨_,rfl,?_⟩) (args_list_sort _)))
 exact wpAny_pure ⟨_,rfl,h out b1 b2⟩
end
end EvS
namespace EvS
open PySem PySem.Spec PyProof.Rows
def sLt (a b:Str):Bool:=decide (a.cps.toList<b.cps.toList)
def BU (x y:Int×Str):Bool:=if x.1=y.1 then sLt x.2 y.2 else decide (x.1<y.1)
theorem Qn {a b:Str} (h1:sLt a b=false) (h2:sLt b a=false):a=b:=by
 have h1:=of_decide_eq_false h1
 have h2:=of_decide_eq_false h2
 have e:a.cps.toList=b.cps.toList:=List.le_antisymm (List.not_lt.mp h2) (List.not_lt.mp h1)
 cases a;cases b
 simp only at e
 rw[Array.toList_inj.mp e]
theorem WY {a b:Str} (h:sLt a b=true):sLt b a=false:=decide_eq_false (List.lt_asymm (of_decide_eq_true h))
theorem Uw {x y z:Str} (h1:sLt y x=false) (h2:sLt z y=false):sLt z x=false:=decide_eq_false (List.not_lt.mpr (List.le_trans (List.not_lt.mp (of_decide_eq_false h1)) (List.not_lt.mp (of_decide_eq_false h2))))
theorem V5 (x:Str):sLt x x=false:=decide_eq_false (List.lt_irrefl _)
theorem NJ {x y:Int×Str} (h:BU x y=true):BU y x=false:=by
 unfold BU at *
 split at h
 ·rename_i e
  rw[if_pos e.symm]
  exact WY h
 ·rename_i e
  rw[if_neg (fun z=>e z.symm)]
  have:=of_decide_eq_true h
  exact decide_eq_false (by lia)
theorem NL {x y z:Int×Str} (h1:BU y x=false) (h2:BU z y=false):BU z x=false:=by
 unfold BU at *
 split at h1
 ·rename_i e1
  split at h2
  ·rename_i e2
   rw[if_pos (e2.trans e1)]
   exact Uw h1 h2
  ·rename_i e2
   rw[if_neg (by lia)]
   have:=of_decide_eq_false h2
   exact decide_eq_false (by lia)
 ·rename_i e1
  have a1:=of_decide_eq_false h1
  split at h2
  ·rename_i e2
   rw[if_neg (by lia)]
   exact decide_eq_false (by lia)
  ·rename_i e2
   have a2:=of_decide_eq_false h2
   rw[if_neg (by lia)]
   exact decide_eq_false (by lia)
theorem Vv {x y:Int×Str} (h1:BU y x=false) (h2:BU x y=false):x=y:=by
 unfold BU at *
 split at h1
 ·rename_i e
  rw[if_pos e.symm] at h2
  exact Prod.ext e.symm (Qn h2 h1)
 ·rename_i e
  rw[if_neg (fun z=>e z.symm)] at h2
  have:=of_decide_eq_false h1
  have:=of_decide_eq_false h2
  exact absurd (by lia) e
section
variable {prog:Program} {w:World} {A:Around} {E:Value->Shared->Prop} {s:Shared}
def gTh (h:Heap) (ν:Value->Int×Str) (v:Value):Prop:=∃ a o n t u,v=.ref a/\h.get? a=some o/\o.cls=.type "tuple"/\o.data=.seq #[.int (ν v).1 t,.str (ν v).2 u] n
def lTh (ν:Value->Int×Str) (x y:Keyed):Bool:=BU (ν x.1) (ν y.1)
theorem Uc {Q:Bool->Shared->Prop} {a c:Int} {x y:Str} {t u t' u':Tok} (h:Q (BU (a,x) (c,y)) s):PySem.W.KatLex prog w A true false Q [(.int a t,.int c t'),(.str x u,.str y u')] 0 s:=by
 refine PySem.W.kat_cons (wpAny_eqBool_int ?_)
 by_cases e:a=c
 ·subst e
  rw[show (a == a)=true by simp]
  refine PySem.W.kat_yes (PySem.W.kat_cons (wpAny_eqBool_str ?_))
  have h:Q (sLt x y) s:=by unfold BU at h;rw[if_pos rfl] at h;exact h
  by_cases e2:x=y
  ·subst e2
   rw[decide_eq_true rfl]
   rw[V5] at h
   exact PySem.W.kat_yes (PySem.W.kat_nil h)
  ·rw[decide_eq_false e2]
   exact PySem.W.kat_no (PySem.W.kat_one _ _ (P.lt_str h))
 ·rw[show (a == c)=false by simpa using e]
  refine PySem.W.kat_no ?_
  have h:Q (decide (a<c)) s:=by unfold BU at h;rw[if_neg e] at h;exact h
  exact oneLt_int h
theorem Se {ν:Value->Int×Str}:Cmp prog w A E s (tuples' true) (fun x=>gTh s.heap ν x.1) (lTh ν) where
 run:=fun {st x y Q} hk gx gy hq=>by
  obtain ⟨a,o,n,t,u,e1,ho,hc,hd⟩:=gx
  obtain ⟨a',o',n',t',u',e1',ho',hc',hd'⟩:=gy
  unfold lTh at hq
  rw[lt'_eq]
  refine wpS_bind (wpS_get ?_)
  rw[hk,e1,e1']
  refine wpS_bind (wpS_lift (wpAny_attempt (PySem.W.kat_lt ho hd ho' hd' ?_)))
  exact Uc ⟨rfl,wpS_pure hq⟩
theorem SK {h:Heap} {ν:Value->Int×Str}:Ord (fun x=>gTh h ν x.1) (lTh ν) where
 tr:=fun {x y z} _ _ _ h1 h2=>NL h1 h2
 tot:=fun {x y} _ _ h=>NJ h
theorem Pi {h:Heap} {ν:Value->Int×Str}:∀ {vs:List Value},(∀ v∈vs,gTh h ν v)->∃ fs,PySem.W.KatTups h vs fs/\fs.length=vs.length/\∀ v∈fs,∃ n t,v=Value.int n t
 | [],_=>⟨[],.nil,rfl,fun _ h=>nomatch h⟩
 | v::vs,hg=>by
  obtain ⟨fs,h1,h2,h3⟩:=Pi (vs:=vs) fun u hu=>hg u (List.mem_cons_of_mem _ hu)
  obtain ⟨a,o,n,t,u,rfl,ho,hc,hd⟩:=hg v List.mem_cons_self
  exact ⟨.int _ t::fs,.cons ho hc hd rfl h1,by simp[h2],fun u hu=>by
   rcases List.mem_cons.mp hu with rfl | hu
   ·exact ⟨_,t,rfl⟩
   ·exact h3 u hu⟩
theorem UD {a:Addr} {vs:List Value} {n:Nat} {P:Fin->Shared->Prop} (ν:Value->Int×Str) (ho:s.heap.get? a=some (seqObj "list" vs.toArray n)) (hI:∀ v∈vs,gTh s.heap ν v) (hz:vs.length<=sizeLine)
  (hP:∀ (out:Array Value),out.toList.Perm vs->out.toList.Pairwise (fun u v=>BU (ν v) (ν u)=false)->P (.done (.ret .none)) {s with heap:=sortedHeap s.heap a vs out}):wpAny (model prog w) A (Builtin.«list.sort» ⟨[.ref a],[]⟩) P E s:=by
 rw[list_sort_plain]
 have la:a<s.heap.objs.size:=Heap.lt_size ho
 refine wpAny_bind (listItems_at ho rfl (wpAny_bind (listUpdate_at ho rfl ?_ (by rw[List.size_toArray];exact hz))))
 obtain ⟨c1,o1⟩:∃ c1,(s.heap.update a (Obj.mapSeq fun _=>#[])).get? a=some (seqObj "list" #[] c1):=⟨_,get?_update_seq ho (fun _=>#[])⟩
 refine wpAny_bind (seqEpoch_at o1 rfl (wpAny_bind (wpAny_newTuple (wpAny_bind (wpAny_newList (wpAny_holding ?_))))))
 have o6:(((s.heap.update a (Obj.mapSeq fun _=>#[])).push (seqObj "tuple" vs.toArray 0)).push (seqObj "list" #[] 0)).get? a=some (seqObj "list" #[] c1):=by
  rw[Heap.get?_push_ne _ _ _ (by rw[size_push',Heap.size_update];exact Nat.ne_of_lt (Nat.lt_succ_of_lt la)),Heap.get?_push_ne _ _ _ (by rw[Heap.size_update];exact Nat.ne_of_lt la)]
  exact o1
 show wpAny (model prog w) A _ P E {s with heap:=((s.heap.update a (Obj.mapSeq fun _=>#[])).push (seqObj "tuple" vs.toArray 0)).push (seqObj "list" #[] 0)}
 dsimp only
 have hI6:∀ v∈vs,gTh (((s.heap.update a (Obj.mapSeq fun _=>#[])).push (seqObj "tuple" vs.toArray 0)).push (seqObj "list" #[] 0)) ν v:=fun v hv=>by
  obtain ⟨b,o,n',t,u,rfl,hb,hc,hd⟩:=hI v hv
  have nb:b≠a:=fun z=>by
   rw[z,ho] at hb
   cases hb
   have hc':Value.type "list"=Value.type "tuple":=hc
   exact absurd hc' (by decide)
  refine ⟨b,o,n',t,u,rfl,?_,hc,hd⟩
  refine Heap.get?_push_of_some _ (Heap.get?_push_of_some _ ?_)
  rw[Heap.get?_update_ne _ _ _ _ nb]
  exact hb
 have zs:vs.toArray.size=vs.length:=by simp
 have fin:∀ st':SortSt,(arrOf st').Perm (pairsOf vs)->(∀ i j:Nat,i<j->j<(arrOf st').size->BU (ν (G (arrOf st') j).1) (ν (G (arrOf st') i).1)=false)->P (.done (.ret .none)) {s with heap:=sortedHeap s.heap a vs ((arrOf st').map (·.2))}:=fun st' hp hs=>by
  have hl:(arrOf st').toList.Perm (vs.zip vs):=by rw[<-pairsOf_toList];exact Array.perm_iff_toList_perm.mp hp
  have hmem:∀ p,p∈(arrOf st').toList->p.1=p.2/\p.1∈vs:=fun p hp'=>mem_zip_self (hl.mem_iff.mp hp')
  have e:((arrOf st').map (·.2)).toList=(arrOf st').toList.map (·.1):=by
   rw[Array.toList_map];exact List.map_congr_left fun p hp'=>(hmem p hp').1.symm
  refine hP _ ?_ ?_
  ·rw[e]
   have h1:=hl.map Prod.fst
   rwa [List.map_fst_zip (Nat.le_refl _)] at h1
  ·rw[e,List.pairwise_iff_getElem]
   intro i j hi hj hij
   rw[List.getElem_map,List.getElem_map]
   have hj':j<(arrOf st').size:=by simpa using hj
   have hi':i<(arrOf st').size:=by lia
   have q:=hs i j hij hj'
   have gi:G (arrOf st') i=(arrOf st')[i]:=by unfold G;rw[getElem?_pos _ i hi'];rfl
   have gj:G (arrOf st') j=(arrOf st')[j]:=by unfold G;rw[getElem?_pos _ j hj'];rfl
   rw[gi,gj] at q
   simpa using q
 by_cases h2:vs.toArray.size<2
 ·rw[if_pos h2,if_pos h2]
  refine wpAny_bind (wpAny_pure ?_)
  rw[StateT.run_pure]
  refine wpAny_bind (wpAny_pure ?_)
  dsimp only
  refine wpAny_bind (seqEpoch_at o6 rfl (wpAny_bind (listUpdate_at o6 rfl ?_ (hsz2:=by rw[Array.size_map];show (pairsOf vs).size<=_;rw[pairsOf_size];lia))))
  simp only[bne_self_eq_false,Bool.false_eq_true,if_false]
  refine wpAny_pure (fin (SortSt.mk' general' (vs.toArray.zip vs.toArray) #[] 7 none) (Array.Perm.refl _) fun i j hij hj=>?_)
  have hj':j<(pairsOf vs).size:=hj
  rw[pairsOf_size] at hj'
  lia
 ·rw[if_neg h2,if_neg h2]
  obtain ⟨fs,t1,t2,t3⟩:=Pi hI6
  refine wpAny_bind (PySem.W.kat_kind (T:=Value.type "int") t1 (by lia) (fun v hv=>by obtain ⟨k,t,rfl⟩:=t3 v hv;exact .of_pure rfl) (by decide) ?_)
  have kd:tuples' ((Value.type "int") != Value.type "tuple")=tuples' true:=by congr 1
  rw[kd]
  refine wpAny_bind (wpAny_mono (Jv (a₀:=pairsOf vs) (st:=SortSt.mk' (tuples' true) (vs.toArray.zip vs.toArray) #[] 7 none)
   (Q:=fun _ st'=>SB (tuples' true) (pairsOf vs) st'/\Asc (lTh ν) (arrOf st') 0 (pairsOf vs).size)
   Se SK ⟨Array.Perm.refl _,rfl,rfl⟩ rfl (fun x hx=>by
    have hx':x∈vs.zip vs:=by rw[<-pairsOf_toList];exact hx
    exact hI6 _ (mem_zip_self hx').2) (by rw[pairsOf_size];lia) fun st' B as=>⟨B,as⟩) ?_ fun _ _ e=>e)
  rintro ⟨⟨⟩,st'⟩ s' ⟨rfl,B,as⟩
  dsimp only
  refine wpAny_bind (seqEpoch_at o6 rfl (wpAny_bind (listUpdate_at o6 rfl ?_ (hsz2:=by refine Nat.le_trans (Nat.le_of_eq ((Array.size_map ..).trans (B.perm.size_eq.trans (pairsOf_size _)))) ?_;lia))))
  rw[B.fail]
  simp only[bne_self_eq_false,Bool.false_eq_true,if_false]
  refine wpAny_pure (fin st' B.perm fun i j hij hj=>?_)
  exact as i j (Nat.zero_le _) (by lia) (by have z:(arrOf st').size=(pairsOf vs).size:=B.perm.size_eq;lia)
theorem Ta {l:Addr} {vs:List Value} {Q:Value->Shared->Prop} (ν:Value->Int×Str) (hl:s.heap.IsList l vs.toArray) (hI:∀ v∈vs,gTh s.heap ν v) (hz:vs.length<=sizeLine)
  (h:∀ (out:Array Value),out.toList.Perm vs->out.toList.Pairwise (fun u v=>BU (ν v) (ν u)=false)->Q (.ref (s.heap.objs.size+1)) {s with heap:=sortedAll s.heap vs out}):wpAny (model prog w) A (call (.builtin "sorted") [.ref l]) Q E s:=by
 refine Calls.call_function_entry kind_sorted plain_sorted entry_sorted (args_sorted1 _) ?_
 unfold Builtin.«sorted»
 refine wpAny_bind (m:=checkCount "sorted" 1 1 _) (wpAny_pure (wpAny_bind (collect_list hl ?_ hz)))
 refine wpAny_bind (wpAny_newList ?_)
 have sz:((s.heap.push (seqObj "list" #[] 0)).update s.heap.objs.size (Obj.mapSeq (·++vs.toArray))).objs.size=s.heap.objs.size+1:=by rw[Heap.size_update,size_push']
 have oL:(((s.heap.push (seqObj "list" #[] 0)).update s.heap.objs.size (Obj.mapSeq (·++vs.toArray))).push (seqObj "list" vs.toArray 0)).get? (s.heap.objs.size+1)=some (seqObj "list" vs.toArray 0):=by
  rw[<-sz]
  exact Heap.get?_push_size _ rfl
 have hI2:∀ v∈vs,gTh (((s.heap.push (seqObj "list" #[] 0)).update s.heap.objs.size (Obj.mapSeq (·++vs.toArray))).push (seqObj "list" vs.toArray 0)) ν v:=fun v hv=>by
  obtain ⟨b,o,n',t,u,rfl,hb,hc,hd⟩:=hI v hv
  have lb:b<s.heap.objs.size:=Heap.lt_size hb
  refine ⟨b,o,n',t,u,rfl,?_,hc,hd⟩
  refine Heap.get?_push_of_some _ ?_
  rw[Heap.get?_update_ne _ _ _ _ (Nat.ne_of_lt lb)]
  exact Heap.get?_push_of_some _ hb
 show wpAny _ _ _ _ _ {s with heap:=((s.heap.push (seqObj "list" #[] 0)).update s.heap.objs.size (Obj.mapSeq (·++vs.toArray))).push (seqObj "list" vs.toArray 0)}
 rw[sz]
 refine wpAny_bind (wpAny_holding (wpAny_call_entry slot_list_sort ⟨_,oL,rfl⟩ entry_list_sort (UD ν oL hI2 hz fun out b1 b2=>⟨_,rfl,?_⟩) (args_list_sort _)))
 exact wpAny_pure ⟨_,rfl,h out b1 b2⟩
end
end EvS
namespace L2
open PySem PySem.Spec PyProof.Rows
section
variable {prog:Program} {w:World} {A:Around} {R:Result->Shared->Prop} {s:Shared}
theorem V8 {elt tg src:Expr} {tests:List Expr} {sc:Scope} {cp:Pos} {it acc:Value} {ev:Env} (J:Nat->Shared->Prop)
  (turn:∀ n s,J n s->wpAny (model prog w) A (pyNext it) (fun r s1=>match r with
   | none=>R (.ok .next) s1
   | some v=>wpAny (model prog w) A (letOwnedTupleGo tg it v) (fun _ s2=>wpAny (model prog w) A (assign tg ev v) (fun _ s3=>
     wpAny (model prog w) A (forIn tests true fun c r=>if r=true then do let ok <-isTrue c ev (eval c ev);pure (ForInStep.yield ok) else pure (ForInStep.yield r)) (fun ok s4=>
      if ok=true then wpAny (model prog w) A (eval elt ev) (fun x s5=>wpAny (model prog w) A (call (.builtin "list.append") [acc,x]) (fun _ s6=>∃ m,m<n/\J m s6) (fun _ _=>False) s5) (fun _ _=>False) s4
      else ∃ m,m<n/\J m s4) (fun _ _=>False) s3) (fun _ _=>False) s2) (fun _ _=>False) s1) (fun _ _=>False) s)
  (n:Nat) (h:J n s):codeAny (model prog w) A (.compLoop (.ListComp elt [⟨tg,src,tests,0⟩] sc cp) 0 it acc ev) R s:=by
 refine codeAny_loop rfl J (fun n s hJ=>?_) n h
 show wpAny _ A ((compTurn (.ListComp elt [⟨tg,src,tests,0⟩] sc cp) 0 it acc ev).onRaise (fun x=>do noteFrame x ev;theTreesLotGoes x)) _ _ s
 refine wpAny_noted ?_
 rw[compTurn_list]
 refine wpAny_bind (wpAny_standAt (wpAny_bind (wpAny_mono (turn n s hJ) (fun r s1 h1=>?_) fun _ _ f=>f.elim)))
 cases r with
 | none=>exact wpAny_pure h1
 | some v=>
  refine wpAny_bind (wpAny_mono h1 (fun _ s2 h2=>?_) fun _ _ f=>f.elim)
  refine wpAny_bind (wpAny_mono h2 (fun _ s3 h3=>wpAny_bind (wpAny_mono h3 (fun ok s4 h4=>?_) fun _ _ f=>f.elim)) fun _ _ f=>f.elim)
  cases ok with
  | false=>exact wpAny_pure ⟨rfl,h4⟩
  | true=>exact wpAny_bind (wpAny_bind (wpAny_mono h4 (fun x s5 h5=>wpAny_bind (wpAny_mono h5 (fun _ s6 h6=>wpAny_pure (wpAny_pure ⟨rfl,h6⟩)) fun _ _ f=>f.elim)) fun _ _ f=>f.elim))
end
theorem JP {ev:Env} {F:Str×NameKind->List (Str×Addr)->Sem (ForInStep (List (Str×Addr)))}
  (hF:∀ n k cs,F (n,k) cs=if (k == NameKind.free)=true then (do let c <-cellOf ev n;pure (ForInStep.yield ((n,c)::cs))) else pure (ForInStep.yield cs)) :
  ∀ (ns:List (Str×NameKind)) (cs:List (Str×Addr)),(∀ x c,cs.lookup x=some c->ev.cells.lookup x=some c)->(∀ x∈ns,x.2=.free->∃ c,ev.cells.lookup x.1=some c) ->
   ∃ cl,(forIn ns cs F:Sem (List (Str×Addr)))=pure cl/\(∀ x c,cl.lookup x=some c->ev.cells.lookup x=some c)/\(∀ x c,cs.lookup x=some c->∃ d,cl.lookup x=some d) /\
    ∀ x∈ns,x.2=.free->∃ c,cl.lookup x.1=some c
 | [],cs,h1,_=>⟨cs,by rw[List.forIn_nil],h1,fun _ c e=>⟨c,e⟩,fun _ hx=>nomatch hx⟩
 | (n,k)::ns,cs,h1,h2=>by
  have h2':∀ x∈ns,x.2=.free->∃ c,ev.cells.lookup x.1=some c:=fun x hx=>h2 x (List.mem_cons_of_mem _ hx)
  by_cases hk:k=NameKind.free
  ·subst hk
   obtain ⟨c,hc⟩:=h2 (n,.free) List.mem_cons_self rfl
   have h1':∀ x d,((n,c)::cs).lookup x=some d->ev.cells.lookup x=some d:=fun x d e=>by
    rw[List.lookup_cons] at e
    cases hx:x == n with
    | true=>rw[hx] at e;cases e;rw[eq_of_beq hx];exact hc
    | false=>rw[hx] at e;exact h1 x d e
   obtain ⟨cl,e1,e2,e3,e4⟩:=JP hF ns ((n,c)::cs) h1' h2'
   refine ⟨cl,?_,e2,fun x d e=>?_,fun x hx hf=>?_⟩
   ·rw[List.forIn_cons,hF]
    have hcell:cellOf ev n=pure c:=by unfold cellOf;rw[hc]
    rw[if_pos (by decide),hcell]
    exact e1
   ·cases hx:x == n with
    | true=>exact e3 x c (by rw[List.lookup_cons,hx])
    | false=>exact e3 x d (by rw[List.lookup_cons,hx];exact e)
   ·rcases List.mem_cons.mp hx with rfl | hx
    ·exact e3 n c (by rw[List.lookup_cons,beq_self_eq_true])
    ·exact e4 x hx hf
  ·obtain ⟨cl,e1,e2,e3,e4⟩:=JP hF ns cs h1 h2'
   refine ⟨cl,?_,e2,e3,fun x hx hf=>?_⟩
   ·rw[List.forIn_cons,hF,if_neg (fun z=>hk (eq_of_beq z))]
    exact e1
   ·rcases List.mem_cons.mp hx with rfl | hx
    ·exact absurd hf hk
    ·exact e4 x hx hf
theorem PY {sc:Scope} {ev:Env} (h:∀ x∈sc.names,x.2=.free->∃ c,ev.cells.lookup x.1=some c) :
  ∃ cl,closureFor sc ev=pure cl/\(∀ x c,cl.lookup x=some c->ev.cells.lookup x=some c)/\∀ x∈sc.names,x.2=.free->∃ c,cl.lookup x.1=some c:=by
 obtain ⟨cl,e1,e2,_,e4⟩:=JP (ev:=ev) (F:=fun x cs=>match x with
  | (n,k)=>if (k == NameKind.free)=true then (do let c <-cellOf ev n;pure (ForInStep.yield ((n,c)::cs))) else pure (ForInStep.yield cs)) (fun _ _ _=>rfl) sc.names [] (fun x c e=>nomatch e) h
 refine ⟨cl,?_,e2,e4⟩
 show ((forIn sc.names [] (fun x cs=>match x with
  | (n,k)=>if (k == NameKind.free)=true then (do let c <-cellOf ev n;pure (ForInStep.yield ((n,c)::cs))) else pure (ForInStep.yield cs)):Sem (List (Str×Addr))) >>= fun z=>pure z)=pure cl
 rw[e1]
 rfl
theorem lookup_map2 (g:Str->NameKind->NameKind):∀ (l:List (Str×NameKind)) (x:Str),(l.map fun p=>(p.1,g p.1 p.2)).lookup x=(l.lookup x).map (g x)
 | [],_=>rfl
 | (n,k)::l,x=>by
  rw[List.map_cons,List.lookup_cons,List.lookup_cons]
  cases hx:x == n with
  | true=>rw[eq_of_beq hx];rfl
  | false=>exact lookup_map2 g l x
theorem KO:∀ {l:List (Str×NameKind)} {x:Str} {k:NameKind},l.lookup x=some k->(x,k)∈l
 | (n,k')::l,x,k,h=>by
  rw[List.lookup_cons] at h
  cases hx:x == n with
  | true=>rw[hx] at h;cases h;rw[eq_of_beq hx];exact List.mem_cons_self
  | false=>rw[hx] at h;exact List.mem_cons_of_mem _ (KO h)
def EF (ev:Env) (n:Str) (k:NameKind):NameKind:=if (k == .free && ev.scope.kind == .function && ev.kindOf n == some .cell)=true then .cell else k
theorem LA (sc:Scope) (ev:Env) (x:Str):(relabel sc ev).names.lookup x=(sc.names.lookup x).map (EF ev x):=by
 have e:(relabel sc ev).names=sc.names.map fun p=>(p.1,EF ev p.1 p.2):=by
  unfold relabel
  refine List.map_congr_left fun p _=>?_
  obtain ⟨n,k⟩:=p
  show (if (k == .free && ev.scope.kind == .function && ev.kindOf n == some .cell)=true then (n,NameKind.cell) else (n,k))=(n,EF ev n k)
  unfold EF
  split<;>rfl
 rw[e]
 exact lookup_map2 _ _ _
structure CompOk (sc esc:Scope) (N fn:List Str) (ix:List Nat):Prop where
 kind:sc.kind=.function
 cells:∀ x∈sc.names,x.2=.cell->sc.names.lookup x.1=some .cell
 locs:∀ x∈sc.names,x.2=.local->sc.names.lookup x.1=some .local
 frees:∀ x∈sc.names,x.2=.free->esc.names.lookup x.1=some .cell\/esc.names.lookup x.1=some .free
 ixs:ix.map (fun i=>N[i]?)=fn.map some
 fns:∀ x∈fn,sc.names.lookup x=some .free
def Cs (sc:Scope) (C:Addr):List (Str×Addr):=cellsFrom (C+1) sc.names []
theorem Ju:∀ (names:List (Str×NameKind)) (n:Nat) (a b:List (Str×Addr)),cellsFrom n names (a++b)=cellsFrom n names a++b
 | [],_,_,_=>rfl
 | (x,k)::r,n,a,b=>by
  unfold cellsFrom
  split
  ·exact Ju r (n+1) ((x,n)::a) b
  ·exact Ju r n a b
theorem JV:∀ (names:List (Str×NameKind)) (n:Nat) (acc:List (Str×Addr)) (x:Str) (c:Addr),(x,c)∈cellsFrom n names acc->(x,c)∈acc\/(x,NameKind.cell)∈names
 | [],_,_,_,_,h=>.inl h
 | (y,k)::r,n,acc,x,c,h=>by
  unfold cellsFrom at h
  by_cases hk:(k == .cell)=true
  ·rw[if_pos hk] at h
   rcases JV r (n+1) _ x c h with h | h
   ·rcases List.mem_cons.mp h with h | h
    ·cases h
     rw[beq_iff_eq.mp hk]
     exact .inr List.mem_cons_self
    ·exact .inl h
   ·exact .inr (List.mem_cons_of_mem _ h)
  ·rw[if_neg hk] at h
   rcases JV r n acc x c h with h | h
   ·exact .inl h
   ·exact .inr (List.mem_cons_of_mem _ h)
theorem Ld {α:Type}:∀ {l:List (Str×α)} {x:Str},(∀ c,(x,c)∉l)->l.lookup x=none
 | [],_,_=>rfl
 | (y,v)::r,x,h=>by
  have hne:(x == y)=false:=by
   cases z:(x == y) with
   | false=>rfl
   | true=>
    have e:=beq_iff_eq.mp z
    subst e
    exact absurd List.mem_cons_self (h v)
  rw[List.lookup_cons,hne]
  exact Ld fun c hc=>h c (List.mem_cons_of_mem _ hc)
theorem JX {α:Type}:∀ {a b:List (Str×α)} {x:Str},a.lookup x=none->(a++b).lookup x=b.lookup x
 | [],_,_,_=>rfl
 | (y,v)::r,b,x,h=>by
  rw[List.lookup_cons] at h
  rw[List.cons_append,List.lookup_cons]
  cases z:(x == y) with
  | true=>rw[z] at h;cases h
  | false=>
   rw[z] at h
   exact JX (a:=r) h
theorem Dw {α:Type}:∀ {a b:List (Str×α)} {x:Str} {c:α},(a++b).lookup x=some c->a.lookup x=some c\/(a.lookup x=none/\b.lookup x=some c)
 | [],_,_,_,h=>.inr ⟨rfl,h⟩
 | (y,v)::r,b,x,c,h=>by
  rw[List.cons_append,List.lookup_cons] at h
  rw[List.lookup_cons]
  cases z:(x == y) with
  | true=>rw[z] at h;exact .inl h
  | false=>
   rw[z] at h
   exact Dw (a:=r) h
theorem O3 {α:Type}:∀ {a b:List (Str×α)} {x:Str} {c:α},a.lookup x=some c->(a++b).lookup x=some c
 | (y,v)::r,b,x,c,h=>by
  rw[List.lookup_cons] at h
  rw[List.cons_append,List.lookup_cons]
  cases z:(x == y) with
  | true=>rw[z] at h;exact h
  | false=>
   rw[z] at h
   exact O3 (a:=r) h
theorem Kr {sc esc:Scope} {N fn:List Str} {ix:List Nat} {x:Str} {k:NameKind} {C:Addr} (ok:CompOk sc esc N fn ix) (h:sc.names.lookup x=some k) (hk:k≠.cell):(Cs sc C).lookup x=none:=
 Ld fun c hc=>by
  rcases JV _ _ _ _ _ hc with z | z
  ·cases z
  ·rw[ok.cells _ z rfl] at h
   exact hk (Option.some.inj h).symm
section
variable {M:Model} {A:Around} {E:Value->Shared->Prop} {s:Shared}
theorem T4 {scope:Scope} {globals:Addr} {cl:List (Str×Addr)} {qual:Str} {code:Value} {env:Env} {Q:Env->Shared->Prop} (hk:scope.kind=.function)
  (h:Q {scope,locals:=s.heap.objs.size,globals,cells:=Cs scope s.heap.objs.size++cl,qual,func:=none,code:=env.code,frame:=env.frame,builtins:=env.builtins} {s with heap:=pushCells (s.heap.push {cls:=.type "dict",data:=.dict #[]}) scope.names}) :
  wpAny M A (newFunctionEnv scope globals cl [] qual none code (some env)) Q E s:=by
 simp only[newFunctionEnv,Option.isSome_some,if_true]
 refine wpAny_bind (wpAny_alloc ?_)
 refine wpAny_bind (wpAny_layCells _ (fun name kind cells=>by cases hkc:kind == NameKind.cell<;>simp[hkc]) _ _ _ _ ?_)
 rw[show ({s with heap:=s.heap.push {cls:=.type "dict",data:=.dict #[]}}:Shared).heap.objs.size=s.heap.objs.size+1 from Heap.size_push ..]
 have e:cellsFrom (s.heap.objs.size+1) scope.names cl=Cs scope s.heap.objs.size++cl:=Ju scope.names _ [] cl
 rw[e]
 refine wpAny_bind ?_
 rw[List.forIn_nil]
 exact wpAny_pure (wpAny_pure h)
end
def BK (X:Cx) (N':List Str) (sc:Scope) (s2:Shared) (H2:Hp) (cl:List (Str×Addr)) (C:Addr) (fp:List Addr):Cx where
 prog:=X.prog
 w:=X.w
 K:=X.K
 mg:=X.mg
 base:=X.base
 A:=X.A
 N:=N'
 s₀:=s2
 H₀:=H2
 env:=compEnvC sc (Cs sc C++cl) C X.env
 outer:=X.stack
 stack:=X.stack
 ex:=fp
 fn:=fun x=>sc.names.lookup x == some .cell
 calm:=X.calm
 pn:=[]
 xe:=fun _ _=>False
def cSt (nt:Nat) (ix:List Nat) (σ:St):St:=List.replicate nt none++ix.map fun k=>(σ[k]?).join
def IE (J:It) (g:TG) (tc:TT) (te:TE) (l:Addr) (q:Hp->Prop) (σ0:St) (H0:Hp):Prop:=
 ∃ W:Nat->Nat->St->Hp->Prop,(∃ m,W 0 m σ0 H0)/\∀ i m σ H,W i m σ H ->
  (J.stop i H/\q H)\/(J.go i H/\∃ N:St->Hp->Prop,(∀ σ' H',N σ' H'->∃ m',m'<m/\W (i+1) m' σ' H')/\∀ x H',J.yld i H x H'->g x σ H' fun σ2 H2=>tc σ2 H2 fun b H3=>
   if b=true then te σ2 H3 fun v H4=>∃ xs,H4 l=some (.lst xs)/\xs.length<sizeLine/\N σ2 (upd H4 l (.lst (xs++[v]))) else N σ2 H3)
def J1 (wi:TI) (nt:Nat) (ix:List Nat) (g:TG) (tc:TT) (te:TE):TE:=fun σ H Q=>wi σ H fun J H1=>∀ l,H1 l=none->IE J g tc te l (fun H'=>Q (.ref l) H') (cSt nt ix σ) (upd H1 l (.lst []))
def PTs (X:Cx) (tests:List Expr) (tc:TT):Prop:=
 ∀ (pins:List (Addr×Obj)) (s:Shared) (σ:St) (H:Hp) (Q:Bool->Hp->Prop),Inv X pins σ H s->tc σ H Q ->
  wpAny (model X.prog X.w) X.A (forIn tests true fun c r=>if r=true then do let ok <-isTrue c X.env (eval c X.env);pure (ForInStep.yield ok) else pure (ForInStep.yield r)) (TP X pins σ Q) X.xe s
def HN:TT:=fun _ H Q=>Q true H
theorem Gs {X:Cx}:PTs X [] HN:=fun _ _ _ H _ I h=>wpAny_tests_nil ⟨H,I,h⟩
theorem QV {X:Cx} {c:Expr} {tc:TT} (h:PT X c tc):PTs X [c] tc:=fun pins s σ H Q I hw=>wpAny_tests_one (h pins s σ H Q I hw)
section
variable {X:Cx} {elt tg src:Expr} {tests:List Expr} {sc esc:Scope} {cp:Pos} {g:TG} {tc:TT} {te:TE} {N tn fn:List Str} {ix:List Nat}
theorem YE {cl:List (Str×Addr)} {pins:List (Addr×Obj)} {σ:St} {s2:Shared} {H2:Hp} {C:Addr} {fp:List Addr} (hsc:X.env.scope=esc) (ok:CompOk sc esc N fn ix)
  (hsub:∀ x c,cl.lookup x=some c->X.env.cells.lookup x=some c) (hall:∀ x∈sc.names,x.2=.free->∃ c,cl.lookup x.1=some c)
  (I2:Inv X pins σ H2 s2) (f2:∀ b∈fp,Ce X pins H2 b) (lt:∀ b∈fp,b<s2.heap.objs.size) (hC:s2.heap.objs.size<=C)
  (own:∀ x c,(Cs sc C).lookup x=some c->C+1<=c) (apart:(Cs sc C).Pairwise fun x y=>x.2≠y.2):(BK X (tn++fn) sc s2 H2 cl C fp).Ok where
 mod:=I2.ok.mod
 kind:=ok.kind
 glob:=I2.ok.glob
 blt:=I2.ok.blt
 above:=hC
 inj:=fun x y c e1 e2=>by
  have low:∀ x c,cl.lookup x=some c->c<s2.heap.objs.size:=fun x c e=>by
   obtain ⟨v,hv⟩:=I2.cell x c (hsub x c e)
   exact hv.lt
  rcases Dw e1 with a | ⟨_,a⟩<;>rcases Dw e2 with b | ⟨_,b⟩
  ·exact name_of_addr apart (PySem.mem_of_lookup a) (PySem.mem_of_lookup b)
  ·exact absurd (low _ _ b) (Nat.not_lt.mpr (Nat.le_trans hC (Nat.le_trans (Nat.le_succ _) (own _ _ a))))
  ·exact absurd (low _ _ a) (Nat.not_lt.mpr (Nat.le_trans hC (Nat.le_trans (Nat.le_succ _) (own _ _ b))))
  ·exact I2.ok.inj x y c (hsub x c a) (hsub y c b)
 has:=fun x hx=>by
  have hx':(relabel sc X.env).names.lookup x=some .cell\/(relabel sc X.env).names.lookup x=some .free:=hx
  rw[LA] at hx'
  show ∃ c,(Cs sc C++cl).lookup x=some c
  cases e:sc.names.lookup x with
  | none=>rw[e] at hx';rcases hx' with z | z<;>cases z
  | some k=>
   have hm:=KO e
   by_cases hkc:k=.cell
   ·subst hkc
    obtain ⟨c,hc⟩:=Option.isSome_iff_exists.mp (PySem.W.cellsFrom_some (x:=x) sc.names (C+1) [] (.inl e))
    exact ⟨c,O3 hc⟩
   have hk:k=.free:=by
    by_cases z:k=.free
    ·exact z
    ·exfalso
     have hr:EF X.env x k=k:=by
      unfold EF
      rw[if_neg]
      intro q
      rw[Bool.and_eq_true,Bool.and_eq_true] at q
      exact z (eq_of_beq q.1.1)
     rw[e,Option.map_some,hr] at hx'
     rcases hx' with q | q
     ·exact hkc (Option.some.inj q)
     ·exact z (Option.some.inj q)
   subst hk
   obtain ⟨c,hc⟩:=hall _ hm rfl
   exact ⟨c,by rw[JX (Kr ok e (fun z=>nomatch z))];exact hc⟩
 cab:=fun x c e hc=>by
  have e:sc.names.lookup x=some .cell:=beq_iff_eq.mp e
  rcases Dw hc with a | ⟨a,_⟩
  ·exact Nat.le_trans hC (Nat.le_trans (Nat.le_succ _) (own _ _ a))
  ·obtain ⟨c',hc'⟩:=Option.isSome_iff_exists.mp (PySem.W.cellsFrom_some (x:=x) sc.names (C+1) [] (.inl e))
   have a:(cellsFrom (C+1) sc.names []).lookup x=none:=a
   rw[a] at hc'
   cases hc'
 hd:=I2.ok.hd
 frames:=I2.ok.frames
 stk:=.inl rfl
 exf:=fun b hb=>⟨Nat.ne_of_lt (Nat.lt_of_lt_of_le (lt b hb) hC),fun x c e=>by
  rcases Dw e with a | ⟨_,a⟩
  ·exact Nat.ne_of_gt (Nat.lt_of_lt_of_le (lt b hb) (Nat.le_trans hC (Nat.le_trans (Nat.le_succ _) (own _ _ a))))
  ·exact (f2 b hb).2.2.2.2.1 x c (hsub x c a)⟩
 bs:=I2.bs
 bsz:=Nat.le_trans I2.ok.bsz I2.sz
 noex:=fun b o e hb=>by
  rcases (f2 b hb).2.2.2.1 with z | z
  ·exact I2.ok.noex b o e z
  ·exact absurd (Nat.lt_of_lt_of_le (Heap.lt_size e) (Nat.le_trans I2.ok.bsz z)) (Nat.lt_irrefl _)
 exfs:=fun b hb hf=>by
  rcases List.mem_cons.mp (I2.stkSub b hf) with z | z
  ·exact (f2 b hb).2.1 z
  ·exact (f2 b hb).2.2.1 z
 funs:=I2.stack
 frf:=I2.stkFree
theorem V2 (nt:Nat) (ix:List Nat) (σ:St):(cSt nt ix σ).length=nt+ix.length:=by
 unfold cSt
 rw[List.length_append,List.length_replicate,List.length_map]
theorem LY {cl:List (Str×Addr)} {pins:List (Addr×Obj)} {σ:St} {s2:Shared} {H2:Hp} {it:Addr} {fp:List Addr} {tu:Nat->Heap->Prop} {J:It} {E:Value->Shared->Prop} {q:Addr->Hp->Prop}
  {RR:Value->Addr->Result->Shared->Prop} (hc:X.calm=true) (hsc:X.env.scope=esc) (hN:X.N=N) (ok:CompOk sc esc N fn ix)
  (hsub:∀ x c,cl.lookup x=some c->X.env.cells.lookup x=some c) (hall:∀ x∈sc.names,x.2=.free->∃ c,cl.lookup x.1=some c)
  (hg:∀ s2 H2 cl C fp,PG (BK X (tn++fn) sc s2 H2 cl C fp) tg g)
  (ht:∀ s2 H2 cl C fp,PTs (BK X (tn++fn) sc s2 H2 cl C fp) tests tc)
  (he:∀ s2 H2 cl C fp,PE (BK X (tn++fn) sc s2 H2 cl C fp) elt te)
  (I2:Inv X pins σ H2 s2) (T:Turn X.prog X.w X.K tg J fp it tu) (st2:tu 0 s2.heap) (f2:∀ b∈fp,Ce X pins H2 b)
  (h:∀ l,H2 l=none->IE J g tc te l (q l) (cSt tn.length ix σ) (upd H2 l (.lst [])))
  (hRR:∀ (C l:Addr) (s4:Shared) (H3:Hp) (m:Str->Option Value),Inv X pins σ H3 s4->s4.heap.Ns C m->Ce X pins H3 C->q l H3->RR (.ref l) C (.ok .next) s4) :
  wpAny (model X.prog X.w) X.A (newList []) (fun acc s3=>wpAny (model X.prog X.w) X.A (newFunctionEnv sc X.env.globals cl [] X.env.qual none .none (some X.env)) (fun cenv s4=>
   codeAny (model X.prog X.w) X.A (.compStart (.ListComp elt [⟨tg,src,tests,0⟩] sc cp) 0 (.ref it) acc {cenv with scope:=relabel sc X.env}) (RR acc cenv.locals) s4) E s3) E s2:=by
 refine wpAny_newObj_type (T4 ok.kind ?_)
 dsimp only
 generalize hL:s2.heap.push {cls:=.type "list",dict:=none,data:=.seq ([]:List Value).toArray}=g1
 have hC:g1.objs.size=s2.heap.objs.size+1:=by rw[<-hL,Heap.size_push]
 have hlC:s2.heap.objs.size≠g1.objs.size:=by rw[hC];exact Nat.ne_of_lt (Nat.lt_succ_self _)
 have hCle:s2.heap.objs.size<=g1.objs.size:=by rw[hC];exact Nat.le_succ _
 have okc:CellsOk (pushCells (g1.push {cls:=.type "dict",data:=.dict #[]}) sc.names) (g1.objs.size+1) (Cs sc g1.objs.size):=by
  have z:=cellsFrom_ok sc.names (g1.push {cls:=.type "dict",data:=.dict #[]}) (g1.objs.size+1) [] ⟨fun _ _ hm=>(nomatch hm),List.Pairwise.nil⟩ (by rw[Heap.size_push];exact Nat.le_refl _)
  rw[Heap.size_push] at z
  exact z
 have hns:(pushCells (g1.push {cls:=.type "dict",data:=.dict #[]}) sc.names).Ns g1.objs.size fun _=>none:=(Heap.Ns.new g1 (.type "dict")).keeps (pushCells_keeps _ _)
 have old1:∀ b o,g1.get? b=some o->(pushCells (g1.push {cls:=.type "dict",data:=.dict #[]}) sc.names).get? b=some o:=fun b o e=>pushCells_keeps _ _ b o (Heap.get?_push_of_some _ e)
 generalize pushCells (g1.push {cls:=.type "dict",data:=.dict #[]}) sc.names=h1 at okc hns old1
 have old:∀ b o,s2.heap.get? b=some o->h1.get? b=some o:=fun b o e=>old1 b o (hL▸Heap.get?_push_of_some _ e)
 have hnew:h1.get? s2.heap.objs.size=some {cls:=.type "list",data:=.seq ([]:List Value).toArray}:=old1 _ _ (hL▸Heap.get?_push_size _ rfl)
 have lt:∀ b∈fp,b<s2.heap.objs.size:=fun b hb=>by
  obtain ⟨o,e,_⟩:=T.obj 0 _ st2 b hb
  exact Heap.lt_size e
 have hl0:H2 s2.heap.objs.size=none:=I2.fresh
 have cok:(BK X (tn++fn) sc s2 H2 cl g1.objs.size fp).Ok:=YE hsc ok hsub hall I2 f2 lt hCle (fun x c e=>(okc.empty x c (PySem.mem_of_lookup e)).2) okc.apart
 have hixl:ix.length=fn.length:=by
  have z:=congrArg List.length ok.ixs
  rwa [List.length_map,List.length_map] at z
 have YI:Inv (BK X (tn++fn) sc s2 H2 cl g1.objs.size fp) [] (cSt tn.length ix σ) (upd H2 s2.heap.objs.size (.lst [])) {s2 with heap:=h1}:=by
  refine ⟨cok,rfl,I2.bare,Un.laid old (Nat.le_refl _) hl0,⟨_,hns,fun i x v e1 e2 e3=>?_⟩,fun x c e=>?_,?_,fun x c e=>?_,fun p hp=>?_,?_,?_⟩
  ·
   have hi:tn.length<=i:=by
    by_cases z:i<tn.length
    ·exfalso
     have e2':(cSt tn.length ix σ)[i]?=some none:=by
      unfold cSt
      rw[List.getElem?_append_left (by rw[List.length_replicate];exact z),List.getElem?_replicate,if_pos z]
     rw[e2'] at e2
     cases e2
    ·lia
   have e1':fn[i - tn.length]?=some x:=by
    have z:(tn++fn)[i]?=some x:=e1
    rwa [List.getElem?_append_right hi] at z
   have e2':(ix.map fun k=>(σ[k]?).join)[i - tn.length]?=some (some v):=by
    unfold cSt at e2
    rwa [List.getElem?_append_right (by rw[List.length_replicate];exact hi),List.length_replicate] at e2
   rw[List.getElem?_map] at e2'
   cases ek:ix[i - tn.length]? with
   | none=>rw[ek] at e2';cases e2'
   | some k=>
    rw[ek] at e2'
    have ev:(σ[k]?).join=some v:=Option.some.inj e2'
    have ev':σ[k]?=some (some v):=by
     cases z:σ[k]? with
     | none=>rw[z] at ev;cases ev
     | some w'=>rw[z] at ev;exact congrArg some ev
    have eN:X.N[k]?=some x:=by
     have z:=congrArg (fun l=>l[i - tn.length]?) ok.ixs
     rw[List.getElem?_map,List.getElem?_map,ek,e1'] at z
     rw[hN]
     exact Option.some.inj z
    have hfx:sc.names.lookup x=some .free:=ok.fns x (List.mem_of_getElem? e1')
    have hmem:=KO hfx
    have hkind:X.env.scope.names.lookup x=some .cell\/X.env.scope.names.lookup x=some .free:=by rw[hsc];exact ok.frees _ hmem rfl
    obtain ⟨m,hn,hl⟩:=I2.loc
    obtain ⟨u,r,lk⟩:=hl k x v eN ev' (.inr hkind)
    refine ⟨u,r,.inr ⟨?_,?_⟩⟩
    ·show (relabel sc X.env).names.lookup x=some .cell\/(relabel sc X.env).names.lookup x=some .free
     rw[LA,hfx,Option.map_some]
     unfold EF
     split
     ·exact .inl rfl
     ·exact .inr rfl
    ·rcases lk with ⟨z,_⟩ | ⟨_,c,ec,o,ho,hd⟩
     ·have z':X.env.scope.names.lookup x=some .local:=z
      rw[z'] at hkind
      rcases hkind with w' | w'<;>cases w'
     ·obtain ⟨c',hc'⟩:=hall _ hmem rfl
      have ecc:=hsub _ _ hc'
      rw[ec] at ecc
      cases ecc
      refine ⟨c,?_,o,old _ _ ho,hd⟩
      show (Cs sc g1.objs.size++cl).lookup x=some c
      rw[JX (Kr ok hfx (fun z=>nomatch z))]
      exact hc'
  ·rcases Dw e with e | ⟨_,e⟩
   ·exact ⟨_,(okc.empty x c (PySem.mem_of_lookup e)).1⟩
   ·obtain ⟨v,o,ho,hd⟩:=I2.cell x c (hsub x c e)
    exact ⟨v,o,old _ _ ho,hd⟩
  ·show (upd H2 s2.heap.objs.size (.lst [])) g1.objs.size=none
   rw[AJ (Ne.symm hlC)]
   exact I2.hok.fresh hCle
  ·show (upd H2 s2.heap.objs.size (.lst [])) c=none
   rcases Dw e with e | ⟨_,e⟩
   ·have hc:=(okc.empty x c (PySem.mem_of_lookup e)).2
    rw[hC] at hc
    rw[AJ (Nat.ne_of_gt (Nat.lt_of_lt_of_le (Nat.lt_of_lt_of_le (Nat.lt_succ_self _) (Nat.le_succ _)) hc))]
    exact I2.hok.fresh (Nat.le_trans (Nat.le_trans (Nat.le_succ _) (Nat.le_succ _)) hc)
   ·have hfc:=I2.freeC x c (hsub x c e)
    obtain ⟨v,o,ho,_⟩:=I2.cell x c (hsub x c e)
    rw[AJ (Nat.ne_of_lt (Heap.lt_size ho))]
    exact hfc
  ·exact nomatch hp
  ·exact I2.hok.laid old (Nat.le_refl _) ⟨Nat.zero_le _,[],_,.nil,hnew⟩
  ·rw[V2,hixl]
   show _=(tn++fn).length
   rw[List.length_append]
 have fpY:∀ {H':Hp},(∀ b∈fp,H' b=none)->∀ b∈fp,Ce (BK X (tn++fn) sc s2 H2 cl g1.objs.size fp) [] H' b:=fun hn b hb=>
  ⟨hn b hb,(cok.exf b hb).1,cok.exfs b hb,.inl hb,fun x c e=>(cok.exf b hb).2 x c e,fun p hp=>nomatch hp⟩
 have fr0:∀ b∈fp,(upd H2 s2.heap.objs.size (.lst [])) b=none:=fun b hb=>by
  rw[AJ (Nat.ne_of_lt (lt b hb))]
  exact (f2 b hb).1
 have loop:codeAny (model X.prog X.w) X.A (.compLoop (.ListComp elt [⟨tg,src,tests,0⟩] sc cp) 0 (.ref it) (.ref s2.heap.objs.size) (compEnvC sc (Cs sc g1.objs.size++cl) g1.objs.size X.env)) (RR (.ref s2.heap.objs.size) g1.objs.size)
   {s2 with heap:=h1}:=by
  obtain ⟨W,⟨m0,w0⟩,turn⟩:=h s2.heap.objs.size hl0
  refine V8 (fun n s'=>∃ i σ' H',Inv (BK X (tn++fn) sc s2 H2 cl g1.objs.size fp) [] σ' H' s'/\tu i s'.heap/\(∀ b∈fp,H' b=none)/\W i n σ' H') ?_ m0
   ⟨0,_,_,YI,T.keep _ _ _ st2 fun b _ o e=>old b o e,fr0,w0⟩
  rintro n s3 ⟨i,σ3,H3,I3,st3,fr3,w3⟩
  rcases turn i n σ3 H3 w3 with ⟨stop,qn⟩ | ⟨go,Nx,hNx,step⟩
  ·refine thn (T.done (BK X (tn++fn) sc s2 H2 cl g1.objs.size fp) rfl rfl rfl hc i [] s3 σ3 H3 _ I3 (fpY fr3) st3 stop) fun r s4 hh_=>?_
   obtain ⟨hr,I4⟩:=hh_
   subst hr
   obtain ⟨m,hn,_⟩:=I4.loc
   have IX:Inv X pins σ H3 s4:=I2.call' (ch:=fp) I4.os I4.base I4.hok I4.bare fun b hb=>by
    obtain ⟨_,a1,_,a3,a4,a5⟩:=f2 b hb
    exact ⟨a3,a1,a4,a5⟩
   exact hRR _ _ s4 H3 m IX hn (I2.fpOk hCle I4.free) qn
  ·refine thn (T.item (BK X (tn++fn) sc s2 H2 cl g1.objs.size fp) rfl rfl rfl hc i [] s3 σ3 H3 _ I3 (fpY fr3) st3 go) fun r s4 hh_=>?_
   obtain ⟨u,hr,h4⟩:=hh_
   subst hr
   refine thn h4 fun _ s5 hh_=>?_
   obtain ⟨x,H5,I5,r5,y5,st5,fr5⟩:=hh_
   have I5':=I5.pinned (fpY fr5) (T.obj _ _ st5)
   refine thn (hg _ _ _ _ _ _ s5 σ3 H5 x u _ I5' r5 (step x H5 y5)) fun _ s6 hh_=>?_
   obtain ⟨σ6,H6,I6,q6⟩:=hh_
   refine thn (ht _ _ _ _ _ _ s6 σ6 H6 _ I6 q6) fun b s7 hh_=>?_
   obtain ⟨H7,I7,q7⟩:=hh_
   have again:∀ {s8:Shared} {H8:Hp},Inv (BK X (tn++fn) sc s2 H2 cl g1.objs.size fp) ([]++E6 fp s5.heap) σ6 H8 s8->Nx σ6 H8 ->
     ∃ m,m<n/\∃ i σ' H',Inv (BK X (tn++fn) sc s2 H2 cl g1.objs.size fp) [] σ' H' s8/\tu i s8.heap/\(∀ b∈fp,H' b=none)/\W i m σ' H':=fun {s8 H8} I8 n8=>by
    obtain ⟨m',hm,w8⟩:=hNx σ6 H8 n8
    refine ⟨m',hm,i+1,σ6,H8,I8.unpinned,T.keep _ _ _ st5 fun b hb o e=>(I8.pin (b,o) (List.mem_append_right _ (List.mem_append_right _ (GH hb e)))).1,fun b hb=>?_,w8⟩
    obtain ⟨o,e,_⟩:=T.obj _ _ st5 b hb
    exact (I8.pin (b,o) (List.mem_append_right _ (List.mem_append_right _ (GH hb e)))).2.1
   cases b with
   | false=>
    rw[if_neg Bool.false_ne_true] at q7 ⊢
    exact again I7 q7
   | true=>
    rw[if_pos rfl] at q7 ⊢
    refine thn (he _ _ _ _ _ _ s7 σ6 H7 _ I7 q7) fun y s8 hh_=>?_
    obtain ⟨v,H8,I8,r8,xs,hx,hz,n8⟩:=hh_
    refine thn (La _ s8 σ6 H8 (.ref s2.heap.objs.size) [v] (.ref s2.heap.objs.size) [y] (fun _ H9=>Nx σ6 H9) I8 rfl (.cons r8 .nil) ⟨_,xs,v,rfl,rfl,hx,hz,n8⟩) fun _ s9 ⟨_,H9,I9,_,q9⟩=>again I9 q9
 exact codeAny_compStart_list loop (T.self _ 0 _ _ _ (T.keep _ _ _ st2 fun b _ o e=>old b o e) loop)
variable {wi:TI}
theorem Hu (hc:X.calm=true) (hsc:X.env.scope=esc) (hN:X.N=N) (ok:CompOk sc esc N fn ix) (hi:PI X tg src wi)
  (hg:∀ s2 H2 cl C fp,PG (BK X (tn++fn) sc s2 H2 cl C fp) tg g)
  (ht:∀ s2 H2 cl C fp,PTs (BK X (tn++fn) sc s2 H2 cl C fp) tests tc)
  (he:∀ s2 H2 cl C fp,PE (BK X (tn++fn) sc s2 H2 cl C fp) elt te)
  (hs:∀ x,foldedSetIterable src X.env x=pure x:=by intro _;rfl):PE X (.ListComp elt [⟨tg,src,tests,0⟩] sc cp) (J1 wi tn.length ix g tc te):=by
 intro pins s σ H Q I h
 rw[eval_ListComp]
 obtain ⟨cl,hcl,hsub,hall⟩:=PY (sc:=sc) (ev:=X.env) fun x hx hf=>I.ok.has x.1 (by have z:=ok.frees x hx hf;rw[<-hsc] at z;exact z)
 refine wpAny_comprehension_free (use:=none) rfl hs hcl ok.kind ok.locs (thn (hi pins s σ H _ I h) fun xv s1 h1=>thn h1 fun itv s2 h2=>?_)
 obtain ⟨it,fp,tu,J,H2,e,I2,T,st2,f2,hq⟩:=h2
 subst e
 refine LY (q:=fun l H'=>Q (.ref l) H') (RR:=fun acc C=>compPost (model X.prog X.w) X.A X.xe none (EP X pins σ Q) acc C) hc hsc hN ok hsub hall hg ht he I2 T st2 f2 hq fun C l s4 H3 m I4 hn fC q4=>?_
 obtain ⟨a0,a1,_,a3,a4,a5⟩:=fC
 exact ⟨m,hn,fun h' sb=>⟨.ref l,H3,I4.turned (t':=s4.toks) (fun b o hb e=>(sb.2 b hb).trans e) a0 a1 a3 a4 a5,rfl,q4⟩⟩
theorem XU {i:Nat} {y:Str} {py sp:Pos} (hnd:X.N.Nodup) (hiy:X.N[i]?=some y) (hy:X.env.scope.names.lookup y=some .local) (hc:X.calm=true) (hsc:X.env.scope=esc) (hN:X.N=N) (ok:CompOk sc esc N fn ix) (hi:PI X tg src wi)
  (hg:∀ s2 H2 cl C fp,PG (BK X (tn++fn) sc s2 H2 cl C fp) tg g)
  (ht:∀ s2 H2 cl C fp,PTs (BK X (tn++fn) sc s2 H2 cl C fp) tests tc)
  (he:∀ s2 H2 cl C fp,PE (BK X (tn++fn) sc s2 H2 cl C fp) elt te)
  (hsw:swapsWith (.ListComp elt [⟨tg,src,tests,0⟩] sc cp) (some (.Name y py)) sp.line X.env=pure true:=by rfl)
  (hs:∀ x,foldedSetIterable src X.env x=pure x:=by intro _;rfl) :
  PS X (.Assign [.Name y py] (.ListComp elt [⟨tg,src,tests,0⟩] sc cp) sp) (fun D σ H=>J1 wi tn.length ix g tc te σ H fun v H'=>D.nx (σ.set i (some v)) H'):=by
 intro pins s σ H D I h
 rw[exec_Assign_Name_used _ _ _ _ hsw]
 obtain ⟨cl,hcl,hsub,hall⟩:=PY (sc:=sc) (ev:=X.env) fun x hx hf=>I.ok.has x.1 (by have z:=ok.frees x hx hf;rw[<-hsc] at z;exact z)
 refine wpAny_bind (wpAny_standAt (wpAny_bind ?_))
 show wpAny _ X.A (do let _ <-comprehension (.ListComp elt [⟨tg,src,tests,0⟩] sc cp) sc X.env _ (newList []) false (eval src X.env) (some (assign (.Name y py) X.env))) _ _ s
 refine wpAny_bind (wpAny_mono (wpAny_comprehension_free (use:=some (assign (.Name y py) X.env)) (Q:=fun _ s'=>SP X pins D .next s') rfl hs hcl ok.kind ok.locs
  (thn (hi pins s σ H _ I h) fun xv s1 h1=>thn h1 fun itv s2 h2=>?_)) (fun _ s' hq=>wpAny_pure (wpAny_pure hq)) fun _ _ e=>e)
 obtain ⟨it,fp,tu,J,H2,e,I2,T,st2,f2,hq⟩:=h2
 subst e
 refine LY (q:=fun l H'=>D.nx (σ.set i (some (.ref l))) H') (RR:=fun acc C=>compPost (model X.prog X.w) X.A X.xe (some (assign (.Name y py) X.env)) (fun _ s'=>SP X pins D .next s') acc C) hc hsc hN ok hsub hall hg ht he I2 T st2 f2 hq fun C l s4 H3 m I4 hn fC q4=>?_
 obtain ⟨a0,a1,_,a3,a4,a5⟩:=fC
 refine wpAny_assign_Name (Pu I4 hnd hiy (.inl hy) (v:=.ref l) rfl (fun s5 I5 hh_=>?_) (.inr hy))
 obtain ⟨a,sb,ha⟩:=hh_
 have hCa:C≠a:=by
  rcases ha with z | z
  ·rw[z];exact a1
  ·exact Ne.symm (a4 y a z)
 refine ⟨m,hn.sameBut sb hCa,fun h' sb'=>⟨_,H3,I5.turned (t':=s5.toks) (fun b o hb e=>(sb'.2 b hb).trans e) a0 a1 a3 a4 a5,q4⟩⟩
end
theorem HI {J:It} {g:TG} {tc:TT} {te:TE} {l:Addr} {q:Hp->Prop} {σ:St} {H:Hp} (n:Nat) (Pv:Nat->St->Hp->Prop) (h0:Pv 0 σ H) (hgo:∀ i σ H,i<n->Pv i σ H->J.go i H) (hstop:∀ σ H,Pv n σ H->J.stop n H)
  (hs:∀ i x σ H H',i<n->Pv i σ H->J.yld i H x H'->g x σ H' fun σ2 H2=>tc σ2 H2 fun b H3=>
   if b=true then te σ2 H3 fun v H4=>∃ xs,H4 l=some (.lst xs)/\xs.length<sizeLine/\Pv (i+1) σ2 (upd H4 l (.lst (xs++[v]))) else Pv (i+1) σ2 H3)
  (hd:∀ σ H,Pv n σ H->q H):IE J g tc te l q σ H:=by
 refine ⟨fun i m σ H=>m=n - i/\i<=n/\Pv i σ H,⟨n,by simp,Nat.zero_le _,h0⟩,?_⟩
 rintro i m σ H ⟨rfl,hi,p⟩
 by_cases hlt:i<n
 ·exact .inr ⟨hgo i σ H hlt p,Pv (i+1),fun σ' H' p'=>⟨n - (i+1),by lia,rfl,hlt,p'⟩,fun x H' y=>hs i x σ H H' hlt p y⟩
 ·have e:i=n:=by lia
  subst e
  exact .inl ⟨hstop σ H p,hd σ H p⟩
theorem NQ {J:It} {g:TG} {tb:TS} {D:Ends} {σ:St} {H:Hp} (n:Nat) (Pv:Nat->St->Hp->Prop) (h0:Pv 0 σ H) (hgo:∀ i σ H,i<n->Pv i σ H->J.go i H) (hstop:∀ σ H,Pv n σ H->J.stop n H)
  (hs:∀ i x σ H H',i<n->Pv i σ H->J.yld i H x H'->g x σ H' fun σ2 H2=>tb {D with nx:=Pv (i+1),ct:=Pv (i+1),bk:=D.nx} σ2 H2) (hd:∀ σ H,Pv n σ H->D.nx σ H) :
  ∃ W:Nat->Nat->St->Hp->Prop,(∃ m,W 0 m σ H)/\∀ i m σ H,W i m σ H ->
   (J.stop i H/\D.nx σ H)\/(J.go i H/\∃ N:St->Hp->Prop,(∀ σ' H',N σ' H'->∃ m',m'<m/\W (i+1) m' σ' H')/\∀ x H',J.yld i H x H'->g x σ H' fun σ2 H2=>tb {D with nx:=N,ct:=N,bk:=D.nx} σ2 H2):=by
 refine ⟨fun i m σ H=>m=n - i/\i<=n/\Pv i σ H,⟨n,by simp,Nat.zero_le _,h0⟩,?_⟩
 rintro i m σ H ⟨rfl,hi,p⟩
 by_cases hlt:i<n
 ·exact .inr ⟨hgo i σ H hlt p,Pv (i+1),fun σ' H' p'=>⟨n - (i+1),by lia,rfl,hlt,p'⟩,fun x H' y=>hs i x σ H H' hlt p y⟩
 ·have e:i=n:=by lia
  subst e
  exact .inl ⟨hstop σ H p,hd σ H p⟩
section
variable {X:Cx} {pins:List (Addr×Obj)} {σ:St} {H:Hp} {s:Shared} {g:Heap}
theorem Inv.turnL {ch:List Addr} {t':Nat} (I:Inv X pins σ H s) (hf:∀ b∈ch,Ce X pins H b) (k:∀ b o,b∉ch->s.heap.get? b=some o->g.get? b=some o):Inv X pins σ H {s with heap:=g,toks:=t'}:=by
 refine I.step (g':=s.gens) (d':=s.drawn) (ch:=ch) (fun b hb=>?_) (fun b o _ _ hc e _=>k b o hc e) (fun b o _ _ hc e _=>⟨o.slots,k b o hc e⟩) (fun _ _ _ _ n=>n)
  (fun b o hc e=>⟨o,k b o hc e⟩) (fun _ _ e=>e) (fun _ _ _ e=>e) (fun b ps e=>⟨#[],by rw[e];simp⟩) (fun m hm=>?_) (fun b u e=>?_) I.bare
 ·obtain ⟨_,a1,_,a3,a4,a5⟩:=hf b hb
  exact ⟨a3,a1,a4,a5⟩
 ·obtain ⟨o,es,ep,ho,r⟩:=hm
  exact ⟨o,es,ep,k _ o (fun z=>(hf _ z).2.1 rfl) ho,r⟩
 ·refine (I.hok b u e).stay (fun c v hc q=>k c v (fun z=>?_) q) (fun _ q=>q) fun _ _ q=>q
  have n:=(hf c z).1
  rcases hc with y | y
  ·rw[y,e] at n;cases n
  ·rw[n] at y;cases y
theorem Inv.turnLay {ch:List Addr} {T:Addr} {o:HO} {t':Nat} (I:Inv X pins σ H s) (hf:∀ b∈ch,Ce X pins H b) (k:∀ b u,b∉ch->s.heap.get? b=some u->g.get? b=some u) (hT:s.heap.objs.size<=T)
  (new:ObjOk X.prog X.w (upd H T o) g T o):Inv X pins σ (upd H T o) {s with heap:=g,toks:=t'}:=by
 have hn:H T=none:=I.hok.fresh hT
 have lt:∀ b u,s.heap.get? b=some u->b≠T:=fun b u e=>Nat.ne_of_lt (Nat.lt_of_lt_of_le (Heap.lt_size e) hT)
 refine I.step (g':=s.gens) (d':=s.drawn) (ch:=ch) (fun b hb=>?_) (fun b o _ _ hc e _=>k b o hc e) (fun b o _ _ hc e _=>⟨o.slots,k b o hc e⟩) (fun b u _ e n=>by rw[AJ (lt b u e)];exact n)
  (fun b o hc e=>⟨o,k b o hc e⟩) (fun b xs e=>by rw[AJ (As e hn)];exact e) (fun b _ xs e=>by rw[AJ (As e hn)];exact e) (fun b ps e=>⟨#[],by rw[AJ (As e hn),e];simp⟩) (fun m hm=>?_) (fun b u e=>?_) I.bare
 ·obtain ⟨_,a1,_,a3,a4,a5⟩:=hf b hb
  exact ⟨a3,a1,a4,a5⟩
 ·obtain ⟨o,es,ep,ho,r⟩:=hm
  exact ⟨o,es,ep,k _ o (fun z=>(hf _ z).2.1 rfl) ho,r⟩
 ·by_cases hb:b=T
  ·subst hb;rw[Am] at e;cases e;exact new
  ·rw[AJ hb] at e
   refine (I.hok b u e).stay (fun c v hc q=>k c v (fun z=>?_) q) (fun c q=>by rw[AJ (As q hn)];exact q) fun c xs q=>by rw[AJ (As q hn)];exact q
   have n:=(hf c z).1
   rcases hc with y | y
   ·rw[y,e] at n;cases n
   ·rw[n] at y;cases y
theorem WA:(2:Nat)<=sizeLine:=by decide
theorem PI.or {tg src:Expr} {w1 w2:TI} (a:PI X tg src w1) (b:PI X tg src w2):PI X tg src (fun σ H R=>w1 σ H R\/w2 σ H R):=fun pins s σ H R I h=>
 h.elim (fun z=>a pins s σ H R I z) fun z=>b pins s σ H R I z
end
def Ite (K:PySem.W.Frag) (l:Addr):It:=
 ⟨fun i H=>∃ xs x,SqL K H l xs/\xs[i]?=some x,fun i H v H'=>∃ T x,H T=none/\v=.ref T/\H'=upd H T (.tup [.int i,x])/\∀ xs,SqL K H l xs->xs[i]?=some x,fun i H=>∃ xs,SqL K H l xs/\xs.length<=i⟩
theorem Vt {P:Program} {w:World} {K:PySem.W.Frag} {elts:List Expr} {k:Nat} {tp:Pos} (l e it:Addr) (hne:e≠it) :
  Turn P w K (.Tuple elts k tp) (Ite K l) [e,it] e (fun i h=>(∃ old,IsEnum h e it (i:Nat) old)/\h.IsListIter it l i) where
 mem:=by simp
 obj:=fun i h st b hb=>by
  obtain ⟨⟨old,he⟩,hi⟩:=st
  rcases List.mem_cons.mp hb with z | z
  ·subst z
   exact ⟨_,he,fun v q=>by
    have q':Data.fields _=Data.cell v:=q
    cases q'⟩
  ·have z':b=it:=by simpa using z
   subst z'
   obtain ⟨o,e,c,d⟩:=hi
   exact ⟨o,e,fun v q=>by rw[d] at q;cases q⟩
 keep:=fun i h h' st kk=>by
  obtain ⟨⟨old,he⟩,hi⟩:=st
  exact ⟨⟨old,kk e (by simp) _ he⟩,hi.at fun o q=>kk it (by simp) o q⟩
 item:=by
  intro X hP hw hK hc i pins s σ H E I hf st hg
  subst hP hw hK
  obtain ⟨xs,x,hq,hx⟩:=hg
  obtain ⟨its,rv,p,hz⟩:=I.list hq
  obtain ⟨u,hu,ru⟩:=rv.get hx
  obtain ⟨⟨old,he⟩,hit⟩:=st
  have le:e<s.heap.objs.size:=Heap.lt_size he
  have li:it<s.heap.objs.size:=by obtain ⟨_,q,_⟩:=hit;exact Heap.lt_size q
  refine wpAny_pyNext_enum_item he hit p.isList (x:=u) (by simpa using hu) hne fun h1 ho hit1 hT hsz hk=>?_
  refine ⟨_,rfl,wpAny_letOwnedTupleGo_enum ho fun h2 he2 hs2=>?_⟩
  replace hs2:Heap.SameBut e h1 h2:=hs2
  have up:∀ b o,b∉[e,it]->s.heap.get? b=some o->h2.get? b=some o:=fun b o hb q=>(hs2.2 b (fun z=>hb (by simp[z]))).trans (hk b o (fun z=>hb (by simp[z])) (fun z=>hb (by simp[z])) q)
  have hT2:h2.get? s.heap.objs.size=some {cls:=.type "tuple",data:=.seq #[.int i s.toks,u]}:=(hs2.2 _ (Nat.ne_of_gt le)).trans hT
  refine ⟨.ref s.heap.objs.size,upd H s.heap.objs.size (.tup [.int i,x]),I.turnLay (ch:=[e,it]) (t':=s.toks+1) hf up (Nat.le_refl _) ⟨WA,[.int i s.toks,u],.cons ⟨_,rfl⟩ (.cons ru .nil),⟨_,hT2,rfl,_,rfl⟩⟩,rfl,
   ⟨_,x,I.fresh,rfl,rfl,fun ys hy=>by rw[I.list_inj hy hq];exact hx⟩,⟨⟨u,by simpa using he2⟩,hit1.at fun o q=>(hs2.2 it (Ne.symm hne)).trans q⟩,fun b hb=>?_⟩
  have hlt:b<s.heap.objs.size:=by
   rcases List.mem_cons.mp hb with z | z
   ·rw[z];exact le
   ·have z':b=it:=by simpa using z
    rw[z'];exact li
  rw[AJ (Nat.ne_of_lt hlt)]
  exact (hf b hb).1
 done:=by
  intro X hP hw hK hc i pins s σ H E I hf st hg
  subst hP hw hK
  obtain ⟨xs,hq,hx⟩:=hg
  obtain ⟨its,rv,p,hz⟩:=I.list hq
  obtain ⟨⟨old,he⟩,hit⟩:=st
  have hl:=rv.length
  exact wpAny_pyNext_enum_end (I.ok.hd hc) he hit p.isList (by simp;lia) fun h1 eb=>⟨rfl,I.turnL (ch:=[e,it]) (t':=s.toks) hf fun b o hb q=>eb b o (fun z=>hb (by simp[z])) q⟩
 self:=fun A i s Q E st h=>by
  obtain ⟨⟨old,he⟩,_⟩:=st
  exact wpAny_pyIter_enum he h
def Xy (K:PySem.W.Frag) (ta:TA):TI:=fun σ H R=>ta σ H fun vs H1=>∃ l xs,vs=[.ref l]/\SqL K H1 l xs/\R (Ite K l) H1
theorem O2 {X:Cx} {a:Expr} {ta:TA} {p cp tp:Pos} {elts:List Expr} {k:Nat} (hg:Gl X "enumerate") (hm:X.mg "enumerate"=none) (ha:PA X [a] ta) (hs:starEach [a] X.env=[(false,eval a X.env)]:=by rfl) :
  PI X (.Tuple elts k tp) (.Call (.Name "enumerate" p) [a] [] cp) (Xy X.K ta):=by
 intro pins s σ H R I h
 refine Call_ (Ee I hg hm boot_enumerate (PyProof.Rows.callWith_type1 (thn (ha cp pins s σ H _ I h) fun us s1 hh_=>?_) hs rfl))
 obtain ⟨vs,H1,I1,r1,q1⟩:=hh_
 obtain ⟨l,xs,e,hq,q⟩:=q1
 subst e
 cases r1 with
 | cons r rr=>
  cases rr
  cases r
  obtain ⟨its,rv,pl,hz⟩:=I1.list hq
  refine call_enumerate_list pl.isList fun h1 he hit hsz hk=>wpAny_pyIter_enum he ?_
  refine ⟨s1.heap.objs.size+1,[s1.heap.objs.size+1,s1.heap.objs.size],_,_,H1,rfl,I1.kept (t':=s1.toks) hk,Vt l _ _ (Nat.succ_ne_self _),⟨⟨_,by simpa using he⟩,hit⟩,fun b hb=>?_,q⟩
  have hle:s1.heap.objs.size<=b:=by
   rcases List.mem_cons.mp hb with z | z
   ·rw[z];exact Nat.le_succ _
   ·have z':b=s1.heap.objs.size:=by simpa using z
    rw[z'];exact Nat.le_refl _
  exact I1.fpOk hle (I1.hok.fresh hle)
section
variable {prog:Program} {w:World} {A:Around} {E:Value->Shared->Prop} {s:Shared}
end
section
variable {prog:Program} {w:World} {A:Around} {E:Value->Shared->Prop} {s:Shared}
end
structure SeqK (P:Program) (w:World) (c:List V->HO) (IsS:Heap->Addr->Array Value->Prop) (IsI:Heap->Addr->Addr->Nat->Prop):Prop where
 inj:∀ xs ys,c xs=c ys->xs=ys
 rd:∀ {H:Hp} {h:Heap} {a:Addr} {xs:List V},HOk P w H h->H a=some (c xs)->∃ its:List Value,Vals xs its/\IsS h a its.toArray
 at_:∀ {h g:Heap} {a:Addr} {v:Array Value},IsS h a v->(∀ o,h.get? a=some o->g.get? a=some o)->IsS g a v
 iat:∀ {h g:Heap} {a l:Addr} {i:Nat},IsI h a l i->(∀ o,h.get? a=some o->g.get? a=some o)->IsI g a l i
 iob:∀ {h:Heap} {a l:Addr} {i:Nat},IsI h a l i->∃ o,h.get? a=some o/\∀ v,o.data≠.cell v
 nx:∀ {A:Around} {s:Shared} {E:Value->Shared->Prop} {Q:Value->Shared->Prop} {it l:Addr} {i:Nat} {its:Array Value} {x:Value},IsI s.heap it l i->IsS s.heap l its->its[i]?=some x ->
  (∀ g,IsI g it l (i+1)->Heap.SameBut it s.heap g->Q x {s with heap:=g})->wpAny (model P w) A (Builtin.SmallTypes.nextOf (.ref it)) Q E s
 nd:∀ {A:Around} {s:Shared} {E:Value->Shared->Prop} {Q:Value->Shared->Prop} {it l:Addr} {i:Nat} {its:Array Value},A.handled=none->IsI s.heap it l i->IsS s.heap l its->its[i]?=none ->
  (∀ g e,Heap.ExtBut it s.heap g->(∃ o,g.get? e=some o/\o.cls=.type "StopIteration")->E (.ref e) {s with heap:=g})->wpAny (model P w) A (Builtin.SmallTypes.nextOf (.ref it)) Q E s
section
variable {prog:Program} {w:World} {A:Around} {E:Value->Shared->Prop} {s:Shared}
end
section
variable {X:Cx}
theorem call_sorted:CallR X (.builtin "sorted") (fun xs H Q=>∃ p ns,xs=[.ref p]/\SqL X.K H p (ns.map V.int)/\∀ l (ms:List Int),H l=none->ms.Perm ns->ms.Pairwise (·<=·)->Q (.ref l) (upd H l (.lst (ms.map V.int)))):=by
 intro pins s σ H xs us Q I r h
 obtain ⟨p,ns,rfl,hq,q⟩:=h
 obtain ⟨u,rfl,ru⟩:=vals1 r
 cases ru
 obtain ⟨its,rv,pl,hz⟩:=I.list hq
 have hl:=rv.length
 refine EvS.YA pl.isList (intsAre_of rv) (by lia) fun out ms b1 b2 b3=>?_
 obtain ⟨e,he⟩:=sortedAll_at s.heap its out
 have hn:H (s.heap.objs.size+1)=none:=I.hok.fresh (Nat.le_succ _)
 refine ⟨.ref (s.heap.objs.size+1),_,I.laid (t':=s.toks) (o:=.lst (ms.map V.int)) (fun b u q=>sortedAll_old q) (Nat.le_succ _) ⟨?_,out.toList,e,Hz b1,?_⟩,rfl,q _ ms hn b2 b3⟩
 ·rw[List.length_map,b2.length_eq]
  rw[List.length_map] at hz
  exact hz
 ·simpa using he
def Q7 (K:PySem.W.Frag):List V->Hp->VK->Prop:=fun xs H Q=>∃ x T t b,xs=[x,.ty T]/\TyOf K H x (.type t)/\PySem.W.kitOne K (.type t) (.type T)=some b/\Q (.bl b) H
theorem Yo:CallR X (.builtin "isinstance") (Q7 X.K):=by
 intro pins s σ H xs us Q I r h
 obtain ⟨x,T,t,b,rfl,ty,e,q⟩:=h
 obtain ⟨u,u',rfl,ru,ru'⟩:=vals2 r
 cases (show u'=Value.type T from ru')
 exact WB I ru ty e fun tk=>⟨.bl b,H,I.tok tk,rfl,q⟩
def Lo (K:PySem.W.Frag):R2:=fun x y H Q=>∃ p q xs ys,x=.ref p/\y=.ref q/\SqL K H p xs/\SqL K H q ys/\(xs=[]\/ys=[])/\Q (.bl (decide (xs=ys))) H
theorem UK (hu:X.A.units<cLine):OpR X (compareOp .Eq) (Lo X.K):=by
 intro pins s σ H x y v u Q I rx ry h
 obtain ⟨p,q,xs,ys,rfl,rfl,hp,hq,hor,k⟩:=h
 cases rx
 cases ry
 obtain ⟨i1,r1,l1,z1⟩:=I.list hp
 obtain ⟨i2,r2,l2,z2⟩:=I.list hq
 have e1:=r1.length
 have e2:=r2.length
 by_cases c:xs.length=ys.length
 ·have exy:xs=ys:=by
   rcases hor with z | z
   ·subst z;exact (List.eq_nil_of_length_eq_zero (by rw[<-c];rfl)).symm
   ·subst z;exact List.eq_nil_of_length_eq_zero (by rw[c];rfl)
  have x0:xs.length=0:=by
   rcases hor with z | z
   ·rw[z];rfl
   ·rw[c,z];rfl
  refine SeqAt.eq_listAt (e:=fun _=>true) l1.isList l2.isList (by rw[List.size_toArray,List.size_toArray];lia) hu (fun j h1 _=>?_) ?_
  ·rw[List.size_toArray] at h1;lia
  ·rw[decide_eq_true exy] at k
   refine ⟨.bl true,H,I,?_,k⟩
   have:(List.range i1.toArray.size).all (fun _=>true)=true:=List.all_eq_true.mpr fun _ _=>rfl
   rw[this]
   rfl
 ·refine SeqAt.eq_list_lengthsAt l1.isList l2.isList (by rw[List.size_toArray,List.size_toArray];exact bne_iff_ne.mpr (by lia)) hu ?_
  rw[decide_eq_false (fun z=>c (by rw[z]))] at k
  exact ⟨.bl false,H,I,rfl,k⟩
theorem NF {α β:Type} {f:α->Option β} {g:α->β}:∀ {l:List α},(∀ x∈l,f x=some (g x))->l.filterMap f=l.map g
 | [],_=>rfl
 | a::l,h=>by rw[List.filterMap_cons,h a List.mem_cons_self,List.map_cons,NF fun x hx=>h x (List.mem_cons_of_mem _ hx)]
theorem Rk (items:List Value):slicePick items.toArray none none (some (-1))=items.reverse.toArray:=by
 have hc:(sliceRange ((items.length:Int) - 1) (-1) (-1))=(List.range items.length).map fun (k:Nat)=>items.length - 1 - k:=by
  unfold sliceRange
  rw[if_neg (by decide)]
  have e:(if (items.length:Int) - 1 > -1 then ((items.length:Int) - 1 - -1 - -1 - 1) / - -1 else 0)=(items.length:Int):=by
   split
   ·rw[show (- -1:Int)=1 by rfl,Int.ediv_one];lia
   ·lia
  dsimp only
  rw[e]
  refine List.map_congr_left fun k hk=>?_
  have:=List.mem_range.mp hk
  lia
 have hb:slicePick items.toArray none none (some (-1))=((sliceRange ((items.length:Int) - 1) (-1) (-1)).filterMap (items.toArray[·]?)).toArray:=by
  unfold slicePick sliceBounds
  simp
 rw[hb,hc]
 congr 1
 rw[List.filterMap_map]
 have hf:(List.range items.length).filterMap ((fun x=>items.toArray[x]?)∘fun (k:Nat)=>items.length - 1 - k)=(List.range items.length).map fun (k:Nat)=>items.getD (items.length - 1 - k) .none:=by
  refine NF fun k hk=>?_
  have:=List.mem_range.mp hk
  show items.toArray[items.length - 1 - k]?=some (items.getD (items.length - 1 - k) .none)
  rw[List.getElem?_toArray,List.getD_eq_getElem?_getD,List.getElem?_eq_getElem (by lia)]
  rfl
 rw[hf]
 refine List.ext_getElem? fun j=>?_
 rw[List.getElem?_map]
 by_cases hj:j<items.length
 ·rw[List.getElem?_range hj,List.getElem?_reverse hj,Option.map_some,List.getD_eq_getElem?_getD,List.getElem?_eq_getElem (by lia)]
  rfl
 ·rw[List.getElem?_eq_none (by rw[List.length_range];lia),List.getElem?_eq_none (by rw[List.length_reverse];lia)]
  rfl
def Yh (K:PySem.W.Frag) (te ts:TE):TE:=fun σ H Q=>te σ H fun x H1=>ts σ H1 fun y H2=>∃ a xs,x=.ref a/\y=.int (-1)/\SqL K H2 a xs/\∀ p,H2 p=none->Q (.ref p) (upd H2 p (.lst xs.reverse))
theorem SF {e st:Expr} {te ts:TE} {p2 ep:Pos} (he:PE X e te) (hst:PE X st ts):PE X (.Subscript e (.Slice none none (some st) p2) ep) (Yh X.K te ts):=by
 intro pins s σ H Q I h
 refine Subscript_ (thn (he pins s σ H _ I h) fun v s1 hh_=>?_)
 obtain ⟨x,H1,I1,r1,q1⟩:=hh_
 refine wpAny_Slice ?_
 rw[evalPart_none]
 refine wpAny_pure (wpAny_pure ?_)
 rw[evalPart_some]
 refine thn (hst pins s1 σ H1 _ I1 q1) fun w s3 hh_=>?_
 obtain ⟨y,H3,I3,r3,a,xs,ex,ey,hq,q3⟩:=hh_
 subst ex ey
 cases r1
 obtain ⟨tk,rfl⟩:=r3
 have I4:Inv X pins σ H3 {s3 with heap:=s3.heap.push {cls:=.type "slice",data:=.fields #[.none,.none,.int (-1) tk]}}:=I3.kept (t':=s3.toks) fun b ob q=>Heap.get?_push_of_some _ q
 obtain ⟨its,r,ht,hz⟩:=I4.list hq
 have hlen:=r.length
 show wpAny (model X.prog X.w) X.A (subscriptTail e (.Slice none none (some st) p2) (.ref a) (.ref s3.heap.objs.size)) (EP X pins σ Q) X.xe {s3 with heap:=s3.heap.push {cls:=.type "slice",data:=.fields #[.none,.none,.int (-1) tk]}}
 refine tail_any (ops:=[.ref a,.ref s3.heap.objs.size]) ht.isList.typeIs slot_list_getitem.lookup (wpAny_getItem_list_slice ht.isList (Heap.IsSliceOf.new ..) .none .none (.int (-1) tk) (by decide) ?_ (by rw[List.size_toArray];lia)) (by with_unfolding_all rfl)
 rw[Rk]
 refine ⟨.ref _,_,I4.laid (t':=s3.toks) (o:=.lst xs.reverse) (fun b ob q=>Heap.get?_push_of_some _ q) (Nat.le_refl _) ?_,rfl,q3 _ (I4.hok.fresh (Nat.le_refl _))⟩
 exact ⟨by rw[List.length_reverse];exact hz,_,0,r.reverse,Heap.get?_push_size _ rfl⟩
theorem SO:OpR X (binaryOp .FloorDiv) (rI (fun _ j=>0<j/\j<2 ^ 64) fun i j=>.int (i / j)):=opI fun i j _ _ _ _ _ hc q=>by
 have h1:(0:Int)<j:=hc.1
 refine floordiv_int (by lia) (by rw[Int.fdiv_eq_ediv_of_nonneg i (by lia)];exact q) (.inl (PyProof.noPylong_of_log2 ?_))
 have h2:j.natAbs<2 ^ 64:=by have:=hc.2;lia
 have h3:j.natAbs.log2<64:=(Nat.log2_lt (by lia)).mpr h2
 lia
end
end L2
namespace Ev
open PySem L2
theorem small {n:Nat} (h:n<=1000000):n<=sizeLine:=Nat.le_trans h (by decide)
theorem Du {n:Nat} (h:n<=1000000):n<sizeLine:=Nat.lt_of_le_of_lt h (by decide)
structure Nm (mg:Str->Option Value):Prop where
 len:mg "len"=none
 range:mg "range"=none
 isi:mg "isinstance"=none
 bool:mg "bool"=none
 int:mg "int"=none
 str:mg "str"=none
 list:mg "list"=none
 tuple:mg "tuple"=none
 zip:mg "zip"=none
 enum:mg "enumerate"=none
 sorted:mg "sorted"=none
 max:mg "max"=none
 min:mg "min"=none
 abs:mg "abs"=none
 sum:mg "sum"=none
 all:mg "all"=none
 any:mg "any"=none
 set:mg "set"=none
end Ev
namespace L2
open PySem
variable {X:Cx} {K:PySem.W.Frag}
theorem DV {es:List Expr} {k:Nat} {t:TGs} {n:Nat} {tp:Pos} (hk:X.K=K) (hc:X.calm=true) (h:PGs X es t) (hn:(assignEach es X.env).length=n:=by rfl) (hst:(assignEach es X.env).findIdx? (·.1)=none:=by rfl):PG X (.Tuple es k tp) (Cf K n t):=hk▸VO hc h hn hst
theorem P8 {tg l:Expr} {tl:TE} (h:X.K=K) (hl:PE X l tl):PI X tg l (Ot K tl):=h▸Oa hl
end L2
namespace L2
open PySem PySem.Spec PyProof.Rows
section
variable {X:Cx}
def N7 (K:PySem.W.Frag):R2:=fun x y H Q=>∃ p q xs ys,x=.ref p/\y=.ref q/\SqL K H p xs/\SqL K H q ys/\(xs=[]\/ys=[])/\Q (.bl (!decide (xs=ys))) H
theorem RO (hu:X.A.units<cLine):OpR X (compareOp .NotEq) (N7 X.K):=by
 intro pins s σ H x y v u Q I rx ry h
 obtain ⟨p,q,xs,ys,rfl,rfl,hp,hq,hor,k⟩:=h
 cases rx
 cases ry
 obtain ⟨i1,r1,l1,z1⟩:=I.list hp
 obtain ⟨i2,r2,l2,z2⟩:=I.list hq
 have e1:=r1.length
 have e2:=r2.length
 by_cases c:xs.length=ys.length
 ·have exy:xs=ys:=by
   rcases hor with z | z
   ·subst z;exact (List.eq_nil_of_length_eq_zero (by rw[<-c];rfl)).symm
   ·subst z;exact List.eq_nil_of_length_eq_zero (by rw[c];rfl)
  have x0:xs.length=0:=by
   rcases hor with z | z
   ·rw[z];rfl
   ·rw[c,z];rfl
  rw[decide_eq_true exy] at k
  refine SeqAt.RcNeAt.lists (e:=fun _=>true) l1.isList l2.isList (by rw[List.size_toArray,List.size_toArray];lia) hu (fun j h1 _=>?_) X.prog X.w _ _ ?_
  ·rw[List.size_toArray] at h1;lia
  ·refine ⟨.bl false,H,I,?_,k⟩
   have:(List.range i1.toArray.size).all (fun _=>true)=true:=List.all_eq_true.mpr fun _ _=>rfl
   rw[this]
   rfl
 ·rw[decide_eq_false (fun z=>c (by rw[z]))] at k
  exact SeqAt.RcNeAt.lists_lengths l1.isList l2.isList (by rw[List.size_toArray,List.size_toArray];exact bne_iff_ne.mpr (by lia)) hu X.prog X.w _ _ ⟨.bl true,H,I,rfl,k⟩
end
section
variable {X:Cx}
def HG:V->Int
 | .int i=>i
 | _=>0
def Ci (H:Hp):V->List Int
 | .ref a=>match H a with
  | some (.tup xs)=>xs.map HG
  | _=>[]
 | _=>[]
theorem Nr (ns:List Int):(ns.map V.int).map HG=ns:=by
 rw[List.map_map]
 exact (List.map_congr_left fun _ _=>rfl).trans (List.map_id ns)
def addrOf:Value->V
 | .ref a=>.ref a
 | _=>.non
theorem JJ:∀ {vs:List V} {its:List Value},Vals vs its->(∀ v∈vs,∃ a,v=.ref a)->vs=its.map addrOf/\∀ u∈its,∃ a,u=.ref a
 | [],_,.nil,_=>⟨rfl,fun _ h=>nomatch h⟩
 | v::vs,_,.cons (b:=u) r t,h=>by
  obtain ⟨a,rfl⟩:=h v List.mem_cons_self
  cases r
  obtain ⟨h1,h2⟩:=JJ t fun w hw=>h w (List.mem_cons_of_mem _ hw)
  refine ⟨by rw[List.map_cons,<-h1];rfl,fun w hw=>?_⟩
  rcases List.mem_cons.mp hw with rfl | hw
  ·exact ⟨a,rfl⟩
  ·exact h2 w hw
theorem Jc:∀ {its:List Value},(∀ u∈its,∃ a,u=.ref a)->Vals (its.map addrOf) its
 | [],_=>.nil
 | u::us,h=>by
  obtain ⟨a,rfl⟩:=h u List.mem_cons_self
  exact .cons rfl (Jc fun w hw=>h w (List.mem_cons_of_mem _ hw))
def Pg (K:PySem.W.Frag):List V->Hp->VK->Prop:=fun xs H Q=>∃ p vs,xs=[.ref p]/\SqL K H p vs/\(∀ v∈vs,∃ a ns,v=.ref a/\H a=some (.tup (ns.map V.int))/\ns≠[]) /\
 ∀ l (ws:List V),H l=none->ws.Perm vs->ws.Pairwise (fun u v=>HT.lexLt (Ci H v) (Ci H u)=false)->Q (.ref l) (upd H l (.lst ws))
theorem SY:CallR X (.builtin "sorted") (Pg X.K):=by
 intro pins s σ H xs us Q I r h
 obtain ⟨p,vs,rfl,hq,hv,q⟩:=h
 obtain ⟨u,rfl,ru⟩:=vals1 r
 cases ru
 obtain ⟨its,rv,pl,hz⟩:=I.list hq
 have hl:=rv.length
 obtain ⟨e1,e2⟩:=JJ rv fun v hvm=>let ⟨a,ns,e,_⟩:=hv v hvm;⟨a,e⟩
 refine EvS.XC (fun u=>Ci H (addrOf u)) pl.isList (fun u hu=>?_) (by lia) fun out b1 b2=>?_
 ·have hm:addrOf u∈vs:=by rw[e1];exact List.mem_map.mpr ⟨u,hu,rfl⟩
  obtain ⟨a,ns,e3,e4,e5⟩:=hv _ hm
  obtain ⟨b,rfl⟩:=e2 u hu
  have:b=a:=by injection e3
  subst this
  obtain ⟨_,its2,r2,o,ho,hc,n,hd⟩:=I.hok b _ e4
  have en:Ci H (addrOf (.ref b))=ns:=by
   show (match H b with | some (.tup xs)=>xs.map HG | _=>[])=ns
   rw[e4]
   exact Nr ns
  exact ⟨b,o,_,n,rfl,ho,hc,hd,by dsimp only;rw[en];exact intsAre_of r2,by dsimp only;rw[en];exact e5⟩
 ·obtain ⟨e,he⟩:=sortedAll_at s.heap its out
  have hn:H (s.heap.objs.size+1)=none:=I.hok.fresh (Nat.le_succ _)
  have er:∀ u∈out.toList,∃ a,u=.ref a:=fun u hu=>e2 u (b1.mem_iff.mp hu)
  have pw:(out.toList.map addrOf).Perm vs:=by rw[e1];exact b1.map addrOf
  refine ⟨.ref (s.heap.objs.size+1),_,I.laid (t':=s.toks) (o:=.lst (out.toList.map addrOf)) (fun b u q=>sortedAll_old q) (Nat.le_succ _) ⟨?_,out.toList,e,Jc er,?_⟩,rfl,q _ _ hn pw ?_⟩
  ·rw[pw.length_eq];exact hz
  ·simpa using he
  ·rw[List.pairwise_map]
   exact b2
end
end L2
namespace DL
open PySem L2
inductive D where
 | non | bl (b:Bool) | int (i:Int) | str (x:Str) | lst (xs:List D) | tup (xs:List D) | scr (ns:List Int)
inductive SV where
 | v (d:D) | b (n:Nat) | p (n:Nat) (d:D)
structure Wd where
 K:PySem.W.Frag
 B:Addr->Prop
 H:Hp
mutual
def Rep (W:Wd):D->V->Prop
 | .non,v=>v=.non
 | .bl b,v=>v=.bl b
 | .int i,v=>v=.int i
 | .str x,v=>v=.str x
 | .lst xs,v=>∃ a vs,v=.ref a/\¬W.B a/\W.H a=some (.lst vs)/\Reps W xs vs
 | .tup xs,v=>∃ a vs,v=.ref a/\¬W.B a/\W.H a=some (.tup vs)/\Reps W xs vs
 | .scr ns,v=>∃ a,v=.ref a/\((¬W.B a/\Rd W.H a (.lst (ns.map V.int)))\/∀ H,SqL W.K H a (ns.map V.int))
def Reps (W:Wd):List D->List V->Prop
 | [],vs=>vs=[]
 | d::ds,vs=>∃ v r,vs=v::r/\Rep W d v/\Reps W ds r
end
structure Kw (W W':Wd):Prop where
 k:W'.K=W.K
 keep:∀ a o,¬W.B a->W.H a=some o->W'.H a=some o/\¬W'.B a
theorem Kw.refl (W:Wd):Kw W W:=⟨rfl,fun _ _ n e=>⟨e,n⟩⟩
theorem Kw.trans {W W1 W2:Wd} (a:Kw W W1) (b:Kw W1 W2):Kw W W2:=⟨b.k.trans a.k,fun c o n e=>let ⟨h,n'⟩:=a.keep c o n e;b.keep c o n' h⟩
mutual
theorem Rep.kw {W W':Wd} (k:Kw W W'):∀ {d:D} {v:V},Rep W d v->Rep W' d v
 | .non,v,h=>by unfold Rep at *;exact h
 | .bl b,v,h=>by unfold Rep at *;exact h
 | .int i,v,h=>by unfold Rep at *;exact h
 | .str x,v,h=>by unfold Rep at *;exact h
 | .lst xs,v,h=>by
  unfold Rep at *
  obtain ⟨a,vs,e,n,h1,h2⟩:=h
  obtain ⟨h3,n'⟩:=k.keep a _ n h1
  exact ⟨a,vs,e,n',h3,Reps.kw k h2⟩
 | .tup xs,v,h=>by
  unfold Rep at *
  obtain ⟨a,vs,e,n,h1,h2⟩:=h
  obtain ⟨h3,n'⟩:=k.keep a _ n h1
  exact ⟨a,vs,e,n',h3,Reps.kw k h2⟩
 | .scr ns,v,h=>by
  unfold Rep at *
  obtain ⟨a,e,h⟩:=h
  refine ⟨a,e,?_⟩
  rcases h with ⟨n,h | ⟨o,h⟩⟩ | h
  ·obtain ⟨h3,n'⟩:=k.keep a _ n h
   exact .inl ⟨n',.inl h3⟩
  ·obtain ⟨h3,n'⟩:=k.keep a _ n h
   exact .inl ⟨n',.inr ⟨o,h3⟩⟩
  ·exact .inr (by rw[k.k];exact h)
theorem Reps.kw {W W':Wd} (k:Kw W W'):∀ {ds:List D} {vs:List V},Reps W ds vs->Reps W' ds vs
 | [],vs,h=>by unfold Reps at *;exact h
 | d::ds,vs,h=>by
  unfold Reps at *
  obtain ⟨v,r,e,h1,h2⟩:=h
  exact ⟨v,r,e,Rep.kw k h1,Reps.kw k h2⟩
end
theorem Reps.len {W:Wd}:∀ {ds:List D} {vs:List V},Reps W ds vs->vs.length=ds.length
 | [],vs,h=>by unfold Reps at h;subst h;rfl
 | d::ds,vs,h=>by
  unfold Reps at h
  obtain ⟨v,r,rfl,_,h⟩:=h
  rw[List.length_cons,List.length_cons,h.len]
theorem Reps.nil {W:Wd}:Reps W [] []:=by unfold Reps;rfl
theorem Reps.cons {W:Wd} {d:D} {v:V} {ds:List D} {vs:List V} (h:Rep W d v) (t:Reps W ds vs):Reps W (d::ds) (v::vs):=by unfold Reps;exact ⟨v,vs,rfl,h,t⟩
theorem Reps.nil_inv {W:Wd} {vs:List V} (h:Reps W [] vs):vs=[]:=by unfold Reps at h;exact h
theorem Reps.cons_inv {W:Wd} {d:D} {ds:List D} {vs:List V} (h:Reps W (d::ds) vs):∃ v r,vs=v::r/\Rep W d v/\Reps W ds r:=by unfold Reps at h;exact h
theorem Reps.append {W:Wd}:∀ {ds es:List D} {vs us:List V},Reps W ds vs->Reps W es us->Reps W (ds++es) (vs++us)
 | [],es,vs,us,h,g=>by rw[h.nil_inv];exact g
 | d::ds,es,vs,us,h,g=>by
  obtain ⟨v,r,rfl,h1,h2⟩:=h.cons_inv
  exact .cons h1 (h2.append g)
theorem Reps.get {W:Wd}:∀ {ds:List D} {vs:List V} {i:Nat} {d:D},Reps W ds vs->ds[i]?=some d->∃ v,vs[i]?=some v/\Rep W d v
 | [],_,_,_,_,e=>by cases e
 | c::ds,vs,0,d,h,e=>by
  obtain ⟨v,r,rfl,h1,h2⟩:=h.cons_inv
  cases e
  exact ⟨v,rfl,h1⟩
 | c::ds,vs,i+1,d,h,e=>by
  obtain ⟨v,r,rfl,h1,h2⟩:=h.cons_inv
  obtain ⟨u,a,b⟩:=h2.get (i:=i) (d:=d) (by simpa using e)
  exact ⟨u,by simpa using a,b⟩
theorem Reps.get' {W:Wd} {ds:List D} {vs:List V} {i:Nat} {v:V} (h:Reps W ds vs) (e:vs[i]?=some v):∃ d,ds[i]?=some d/\Rep W d v:=by
 have hi:i<ds.length:=by
  have:=h.len
  have:=(List.getElem?_eq_some_iff.mp e).1
  lia
 obtain ⟨u,a,b⟩:=h.get (List.getElem?_eq_getElem hi)
 rw[e] at a
 cases a
 exact ⟨_,List.getElem?_eq_getElem hi,b⟩
theorem Reps.take {W:Wd}:∀ {ds:List D} {vs:List V} (n:Nat),Reps W ds vs->Reps W (ds.take n) (vs.take n)
 | [],vs,n,h=>by rw[h.nil_inv];simp;exact .nil
 | d::ds,vs,0,h=>by simp;exact .nil
 | d::ds,vs,n+1,h=>by
  obtain ⟨v,r,rfl,h1,h2⟩:=h.cons_inv
  exact .cons h1 (h2.take n)
theorem Reps.drop {W:Wd}:∀ {ds:List D} {vs:List V} (n:Nat),Reps W ds vs->Reps W (ds.drop n) (vs.drop n)
 | [],vs,n,h=>by rw[h.nil_inv];simp;exact .nil
 | d::ds,vs,0,h=>h
 | d::ds,vs,n+1,h=>by
  obtain ⟨v,r,rfl,h1,h2⟩:=h.cons_inv
  exact h2.drop n
theorem Reps.reverse {W:Wd}:∀ {ds:List D} {vs:List V},Reps W ds vs->Reps W ds.reverse vs.reverse
 | [],vs,h=>by rw[h.nil_inv];exact .nil
 | d::ds,vs,h=>by
  obtain ⟨v,r,rfl,h1,h2⟩:=h.cons_inv
  rw[List.reverse_cons,List.reverse_cons]
  exact h2.reverse.append (.cons h1 .nil)
theorem Reps.set {W:Wd} {d:D} {v:V} (r:Rep W d v):∀ {ds:List D} {vs:List V} (i:Nat),Reps W ds vs->Reps W (ds.set i d) (vs.set i v)
 | [],vs,i,h=>by rw[h.nil_inv];exact .nil
 | c::ds,vs,0,h=>by
  obtain ⟨u,q,rfl,h1,h2⟩:=h.cons_inv
  exact .cons r h2
 | c::ds,vs,i+1,h=>by
  obtain ⟨u,q,rfl,h1,h2⟩:=h.cons_inv
  exact .cons h1 (Reps.set r i h2)
theorem Reps.ints {W:Wd}:∀ {ns:List Int} {vs:List V},Reps W (ns.map D.int) vs->vs=ns.map V.int
 | [],vs,h=>h.nil_inv
 | n::ns,vs,h=>by
  obtain ⟨v,r,rfl,h1,h2⟩:=Reps.cons_inv (d:=D.int n) (ds:=ns.map D.int) h
  unfold Rep at h1
  rw[h1,h2.ints]
  rfl
theorem Reps.of_ints {W:Wd}:∀ {ns:List Int},Reps W (ns.map D.int) (ns.map V.int)
 | []=>.nil
 | n::ns=>.cons (by unfold Rep;rfl) Reps.of_ints
abbrev Gm:=List (Option (List D))
structure DS where
 σ:List (Option SV)
 Γ:Gm
 lo:Nat
structure Fr where
 K:PySem.W.Frag
 H₀:Hp
 F:Addr->Prop
 L:Addr->Prop
 sub:∀ a,L a->F a
 dom:∀ a,F a->H₀ a≠none
def Be (Γ:Gm) (α:Nat->Addr) (a:Addr):Prop:=∃ (n:Nat) (xs:List D),Γ[n]?=some (some xs)/\α n=a
abbrev wd (f:Fr) (α:Nat->Addr) (Γ:Gm) (H:Hp):Wd:=⟨f.K,fun a=>f.F a\/Be Γ α a,H⟩
def RepV (f:Fr) (α:Nat->Addr) (Γ:Gm) (H:Hp):SV->V->Prop
 | .v d,v=>Rep (wd f α Γ H) d v
 | .b n,v=>n<Γ.length/\v=.ref (α n)
 | .p n d,v=>n<Γ.length/\∃ a w,v=.ref a/\¬(f.F a\/Be Γ α a)/\H a=some (.tup [.ref (α n),w])/\Rep (wd f α Γ H) d w
structure RS (f:Fr) (α:Nat->Addr) (s:DS) (σ:St) (H:Hp):Prop where
 len:s.σ.length=σ.length
 slot:∀ (i:Nat) (d:SV),s.σ[i]?=some (some d)->∃ v,σ[i]?=some (some v)/\RepV f α s.Γ H d v
 box:∀ (n:Nat) (xs:List D),s.Γ[n]?=some (some xs)->∃ vs,H (α n)=some (.lst vs)/\Reps (wd f α s.Γ H) xs vs
 own:∀ (n:Nat) (xs:List D),s.Γ[n]?=some (some xs)->if n<s.lo then f.L (α n) else f.H₀ (α n)=none
 inj:∀ (n m:Nat) (xs ys:List D),s.Γ[n]?=some (some xs)->s.Γ[m]?=some (some ys)->α n=α m->n=m
 fr:∀ (b:Addr) (o:HO),f.H₀ b=some o->¬f.L b->H b=some o
 forb:∀ a,f.F a->H a≠none
structure Ext (f:Fr) (α α':Nat->Addr) (Γ Γ':Gm) (H H':Hp):Prop where
 kw:Kw (wd f α Γ H) (wd f α' Γ' H')
 m:Γ.length<=Γ'.length
 al:∀ n,n<Γ.length->α' n=α n
 lv:∀ (n:Nat) (xs:List D),n<Γ.length->Γ'[n]?=some (some xs)->∃ ys,Γ[n]?=some (some ys)
section
variable {f:Fr} {α α' α'':Nat->Addr} {Γ Γ' Γ'':Gm} {H H' H'':Hp} {s s':DS} {σ σ':St}
theorem Ext.refl:Ext f α α Γ Γ H H:=⟨.refl _,Nat.le_refl _,fun _ _=>rfl,fun _ xs _ e=>⟨xs,e⟩⟩
theorem Ext.trans (a:Ext f α α' Γ Γ' H H') (b:Ext f α' α'' Γ' Γ'' H' H''):Ext f α α'' Γ Γ'' H H'':=
 ⟨a.kw.trans b.kw,Nat.le_trans a.m b.m,fun n h=>(b.al n (Nat.lt_of_lt_of_le h a.m)).trans (a.al n h),fun n xs h e=>let ⟨ys,e'⟩:=b.lv n xs (Nat.lt_of_lt_of_le h a.m) e;a.lv n ys h e'⟩
theorem RepV.ext (e:Ext f α α' Γ Γ' H H'):∀ {d:SV} {v:V},RepV f α Γ H d v->RepV f α' Γ' H' d v
 | .v d,v,h=>Rep.kw e.kw (show Rep (wd f α Γ H) d v from h)
 | .b n,v,h=>⟨Nat.lt_of_lt_of_le h.1 e.m,by rw[e.al n h.1];exact h.2⟩
 | .p n d,v,⟨h,a,w,h1,h2,h3,h4⟩=>⟨Nat.lt_of_lt_of_le h e.m,a,w,h1,(e.kw.keep a _ h2 h3).2,by rw[e.al n h];exact (e.kw.keep a _ h2 h3).1,h4.kw e.kw⟩
theorem RS.live (r:RS f α s σ H) {a:Addr} (h:Be s.Γ α a):H a≠none:=by
 obtain ⟨n,xs,e,rfl⟩:=h
 obtain ⟨vs,h,_⟩:=r.box n xs e
 rw[h]
 exact fun z=>nomatch z
theorem RS.fresh (r:RS f α s σ H) {a:Addr} (h:H a=none):¬(f.F a\/Be s.Γ α a):=fun z=>by
 rcases z with z | z
 ·exact r.forb a z h
 ·exact r.live z h
theorem RS.fresh0 (r:RS f α s σ H) {a:Addr} (h:H a=none):f.H₀ a=none:=by
 cases e:f.H₀ a with
 | none=>rfl
 | some o=>
  by_cases c:f.L a
  ·exact absurd h (r.forb a (f.sub a c))
  ·rw[r.fr a o e c] at h
   cases h
theorem Ext.new (r:RS f α s σ H) {p:Addr} {o:HO} (h:H p=none):Ext f α α s.Γ s.Γ H (upd H p o):=
 ⟨⟨rfl,fun a u n e=>⟨by show upd H p o a=some u;rw[AJ (As e h)];exact e,n⟩⟩,Nat.le_refl _,fun _ _=>rfl,fun _ xs _ e=>⟨xs,e⟩⟩
theorem RS.mv (r:RS f α s σ H) (e:Ext f α α s.Γ s.Γ H H') (k:∀ b o,H b=some o->H' b=some o):RS f α s σ H' where
 len:=r.len
 slot:=fun i d h=>let ⟨v,a,b⟩:=r.slot i d h;⟨v,a,b.ext e⟩
 box:=fun n xs h=>let ⟨vs,a,b⟩:=r.box n xs h;⟨vs,k _ _ a,b.kw e.kw⟩
 own:=r.own
 inj:=r.inj
 fr:=fun b o h n=>k _ _ (r.fr b o h n)
 forb:=fun a h=>by
  cases e:H a with
  | none=>exact absurd e (r.forb a h)
  | some o=>rw[k _ _ e];exact fun z=>nomatch z
theorem RS.new (r:RS f α s σ H) {p:Addr} {o:HO} (h:H p=none):RS f α s σ (upd H p o):=
 r.mv (.new r h) fun b u e=>by rw[AJ (As e h)];exact e
theorem RS.set (r:RS f α s σ H) {i:Nat} {d:SV} {v:V} (h:RepV f α s.Γ H d v):RS f α {s with σ:=s.σ.set i (some d)} (σ.set i (some v)) H where
 len:=by rw[List.length_set,List.length_set];exact r.len
 slot:=fun j c e=>by
  have e:(s.σ.set i (some d))[j]?=some (some c):=e
  rw[List.getElem?_set] at e
  rw[List.getElem?_set]
  by_cases hij:i=j
  ·rw[if_pos hij] at e ⊢
   by_cases hl:i<s.σ.length
   ·rw[if_pos hl] at e
    cases e
    rw[if_pos (by rw[<-r.len];exact hl)]
    exact ⟨v,rfl,h⟩
   ·rw[if_neg hl] at e
    cases e
  ·rw[if_neg hij] at e ⊢
   exact r.slot j c e
 box:=r.box
 own:=r.own
 inj:=r.inj
 fr:=r.fr
 forb:=r.forb
theorem RS.slots (r:RS f α s σ H) {τ:List (Option SV)} {τ':St} (h:τ.length=τ'.length) (k:∀ (i:Nat) (d:SV),τ[i]?=some (some d)->∃ v,τ'[i]?=some (some v)/\RepV f α s.Γ H d v):RS f α {s with σ:=τ} τ' H:=
 ⟨h,k,r.box,r.own,r.inj,r.fr,r.forb⟩
theorem Ext.put {n:Nat} {xs ys:List D} {o:HO} (hn:Γ[n]?=some (some xs)):Ext f α α Γ (Γ.set n (some ys)) H (upd H (α n) o) where
 kw:=⟨rfl,fun a u h e=>by
  have na:a≠α n:=fun z=>h (.inr ⟨n,xs,hn,z.symm⟩)
  refine ⟨by show upd H (α n) o a=some u;rw[AJ na];exact e,fun z=>?_⟩
  rcases z with z | ⟨m,zs,e1,e2⟩
  ·exact h (.inl z)
  ·rw[List.getElem?_set] at e1
   by_cases hm:n=m
   ·subst hm
    exact na e2.symm
   ·rw[if_neg hm] at e1
    exact h (.inr ⟨m,zs,e1,e2⟩)⟩
 m:=by rw[List.length_set];exact Nat.le_refl _
 al:=fun _ _=>rfl
 lv:=fun m zs _ e=>by
  rw[List.getElem?_set] at e
  by_cases hm:n=m
  ·subst hm;exact ⟨xs,hn⟩
  ·rw[if_neg hm] at e;exact ⟨zs,e⟩
theorem C8 {n:Nat} {xs:List D} {y:Option (List D)} {m:Nat} {z:Option (List D)} (hn:Γ[n]?=some (some xs)) (h:(Γ.set n y)[m]?=some z):(m=n/\z=y)\/(m≠n/\Γ[m]?=some z):=by
 rw[List.getElem?_set] at h
 by_cases hm:n=m
 ·rw[if_pos hm] at h
  subst hm
  rw[if_pos (List.getElem?_eq_some_iff.mp hn).1] at h
  cases h
  exact .inl ⟨rfl,rfl⟩
 ·rw[if_neg hm] at h
  exact .inr ⟨fun z=>hm z.symm,h⟩
theorem RS.put (r:RS f α s σ H) {n:Nat} {xs ys:List D} {vs:List V} (hn:s.Γ[n]?=some (some xs)) (h:Reps (wd f α s.Γ H) ys vs) :
  RS f α {s with Γ:=s.Γ.set n (some ys)} σ (upd H (α n) (.lst vs)):=by
 have e:Ext f α α s.Γ (s.Γ.set n (some ys)) H (upd H (α n) (.lst vs)):=.put hn
 refine ⟨r.len,fun i d h=>let ⟨v,a,b⟩:=r.slot i d h;⟨v,a,b.ext e⟩,fun m zs hm=>?_,fun m zs hm=>?_,fun m k zs us hm hk q=>?_,fun b o h1 h2=>?_,fun a h1=>?_⟩
 ·rcases C8 hn hm with ⟨rfl,z⟩ | ⟨hne,hm⟩
  ·cases z
   exact ⟨vs,Am,h.kw e.kw⟩
  ·obtain ⟨us,a,b⟩:=r.box m zs hm
   exact ⟨us,by rw[AJ (fun z=>hne (r.inj m n _ _ hm hn z))];exact a,b.kw e.kw⟩
 ·rcases C8 hn hm with ⟨rfl,z⟩ | ⟨hne,hm⟩
  ·exact r.own _ _ hn
  ·exact r.own _ _ hm
 ·have g:∀ {m zs},(s.Γ.set n (some ys))[m]?=some (some zs)->∃ ws,s.Γ[m]?=some (some ws):=fun {m zs} hm=>by
   rcases C8 hn hm with ⟨rfl,z⟩ | ⟨hne,hm⟩
   ·exact ⟨_,hn⟩
   ·exact ⟨_,hm⟩
  obtain ⟨_,g1⟩:=g hm
  obtain ⟨_,g2⟩:=g hk
  exact r.inj _ _ _ _ g1 g2 q
 ·have hb:=r.fr b o h1 h2
  rw[AJ ?_]
  ·exact hb
  ·intro z
   have ow:=r.own n xs hn
   split at ow
   ·exact h2 (z▸ow)
   ·rw[<-z,h1] at ow;cases ow
 ·by_cases z:a=α n
  ·rw[z,Am];exact fun z=>nomatch z
  ·rw[AJ z];exact r.forb a h1
def CG (α:Nat->Addr) (n:Nat) (a:Addr):Nat->Addr:=fun k=>if k=n then a else α k
theorem Ext.add (r:RS f α s σ H) {a:Addr} {xs:List D} {o:HO} (h:H a=none):Ext f α (CG α s.Γ.length a) s.Γ (s.Γ++[some xs]) H (upd H a o) where
 kw:=⟨rfl,fun b u n e=>by
  have nb:b≠a:=As e h
  refine ⟨by show upd H a o b=some u;rw[AJ nb];exact e,fun z=>?_⟩
  rcases z with z | ⟨m,zs,e1,e2⟩
  ·exact n (.inl z)
  ·by_cases hm:m<s.Γ.length
   ·rw[List.getElem?_append_left hm] at e1
    have e2:CG α s.Γ.length a m=b:=e2
    unfold CG at e2
    rw[if_neg (Nat.ne_of_lt hm)] at e2
    exact n (.inr ⟨m,zs,e1,e2⟩)
   ·have:m=s.Γ.length:=by
     have:=(List.getElem?_eq_some_iff.mp e1).1
     rw[List.length_append] at this
     simp at this
     lia
    subst this
    have e2:CG α s.Γ.length a s.Γ.length=b:=e2
    unfold CG at e2
    rw[if_pos rfl] at e2
    exact nb e2.symm⟩
 m:=by rw[List.length_append];lia
 al:=fun n h=>by unfold CG;rw[if_neg (Nat.ne_of_lt h)]
 lv:=fun n zs h e=>by rw[List.getElem?_append_left h] at e;exact ⟨zs,e⟩
theorem RS.add (r:RS f α s σ H) (hlo:s.lo<=s.Γ.length) {a:Addr} {xs:List D} {vs:List V} (h:H a=none) (hx:Reps (wd f α s.Γ H) xs vs) :
  RS f (CG α s.Γ.length a) {s with Γ:=s.Γ++[some xs]} σ (upd H a (.lst vs)):=by
 have e:Ext f α (CG α s.Γ.length a) s.Γ (s.Γ++[some xs]) H (upd H a (.lst vs)):=.add r h
 have old:∀ {m zs},(s.Γ++[some xs])[m]?=some (some zs)->(m<s.Γ.length/\s.Γ[m]?=some (some zs)/\CG α s.Γ.length a m=α m)\/(m=s.Γ.length/\zs=xs/\CG α s.Γ.length a m=a):=fun {m zs} hm=>by
  by_cases c:m<s.Γ.length
  ·rw[List.getElem?_append_left c] at hm
   exact .inl ⟨c,hm,e.al m c⟩
  ·have hl:=(List.getElem?_eq_some_iff.mp hm).1
   rw[List.length_append] at hl
   simp at hl
   have:m=s.Γ.length:=by lia
   subst this
   rw[List.getElem?_append_right (Nat.le_refl _)] at hm
   simp at hm
   exact .inr ⟨rfl,hm.symm,by unfold CG;rw[if_pos rfl]⟩
 refine ⟨r.len,fun i d h=>let ⟨v,a,b⟩:=r.slot i d h;⟨v,a,b.ext e⟩,fun m zs hm=>?_,fun m zs hm=>?_,fun m k zs us hm hk q=>?_,fun b o h1 h2=>?_,fun b h1=>?_⟩
 ·rcases old hm with ⟨c,g,z⟩ | ⟨c,rfl,z⟩
  ·obtain ⟨us,g1,g2⟩:=r.box m zs g
   refine ⟨us,?_,g2.kw e.kw⟩
   rw[z,AJ (As g1 h)]
   exact g1
  ·exact ⟨vs,by rw[z,Am],hx.kw e.kw⟩
 ·rcases old hm with ⟨c,g,z⟩ | ⟨c,_,z⟩
  ·rw[z];exact r.own m zs g
  ·rw[z,if_neg (by show ¬m<s.lo;lia)];exact r.fresh0 h
 ·rcases old hm with ⟨c,g,z⟩ | ⟨c,_,z⟩<;>rcases old hk with ⟨c',g',z'⟩ | ⟨c',_,z'⟩
  ·rw[z,z'] at q;exact r.inj _ _ _ _ g g' q
  ·rw[z,z'] at q
   obtain ⟨us,g1,_⟩:=r.box m _ g
   rw[q,h] at g1;cases g1
  ·rw[z,z'] at q
   obtain ⟨us,g1,_⟩:=r.box k _ g'
   rw[<-q,h] at g1;cases g1
  ·rw[c,c']
 ·have hb:=r.fr b o h1 h2
  rw[AJ (As hb h)]
  exact hb
 ·by_cases z:b=a
  ·rw[z,Am];exact fun z=>nomatch z
  ·rw[AJ z];exact r.forb b h1
theorem RS.frz (r:RS f α s σ H) {n:Nat} {xs:List D} (hn:s.Γ[n]?=some (some xs)) (hlo:s.lo<=n) :
  RS f α {s with Γ:=s.Γ.set n none} σ H/\Ext f α α s.Γ (s.Γ.set n none) H H/\Rep (wd f α (s.Γ.set n none) H) (.lst xs) (.ref (α n)):=by
 have lv:∀ {a},Be (s.Γ.set n none) α a->Be s.Γ α a/\a≠α n:=fun {a} hh_=>by
  obtain ⟨m,zs,e1,e2⟩:=hh_
  rcases C8 hn e1 with ⟨_,z⟩ | ⟨hne,hm⟩
  ·cases z
  ·exact ⟨⟨m,zs,hm,e2⟩,fun z=>hne (r.inj m n _ _ hm hn (e2.trans z))⟩
 have e:Ext f α α s.Γ (s.Γ.set n none) H H:=⟨⟨rfl,fun a u h e=>⟨e,fun z=>by
  rcases z with z | z
  ·exact h (.inl z)
  ·exact h (.inr (lv z).1)⟩⟩,by rw[List.length_set];exact Nat.le_refl _,fun _ _=>rfl,fun m zs _ e1=>by
  rcases C8 hn e1 with ⟨_,z⟩ | ⟨_,hm⟩
  ·cases z
  ·exact ⟨zs,hm⟩⟩
 have old:∀ {m zs},(s.Γ.set n none)[m]?=some (some zs)->s.Γ[m]?=some (some zs):=fun {m zs} hm=>by
  rcases C8 hn hm with ⟨_,z⟩ | ⟨_,hm⟩
  ·cases z
  ·exact hm
 refine ⟨⟨r.len,fun i d h=>let ⟨v,a,b⟩:=r.slot i d h;⟨v,a,b.ext e⟩,fun m zs hm=>let ⟨us,a,b⟩:=r.box m zs (old hm);⟨us,a,b.kw e.kw⟩,fun m zs hm=>r.own m zs (old hm),fun m k zs us hm hk q=>r.inj m k _ _ (old hm) (old hk) q,r.fr,r.forb⟩,e,?_⟩
 obtain ⟨vs,h1,h2⟩:=r.box n xs hn
 unfold Rep
 refine ⟨α n,vs,rfl,fun z=>?_,h1,h2.kw e.kw⟩
 rcases z with z | z
 ·have ow:=r.own n xs hn
  rw[if_neg (Nat.not_lt.mpr hlo)] at ow
  exact f.dom _ z ow
 ·exact (lv z).2 rfl
end
end DL
namespace DL
open PySem L2
abbrev ME:=DS->Option (SV×DS)
abbrev MF:=DS->Option (List D×DS)
abbrev MT:=DS->Option (Bool×DS)
abbrev MA:=DS->Option (List SV×DS)
def RepVs (f:Fr) (α:Nat->Addr) (Γ:Gm) (H:Hp):List SV->List V->Prop
 | [],vs=>vs=[]
 | d::ds,vs=>∃ v r,vs=v::r/\RepV f α Γ H d v/\RepVs f α Γ H ds r
def tD (f:Fr) (m:ME):TE:=fun σ H Q=>∃ α s r,RS f α s σ H/\s.lo<=s.Γ.length/\m s=some r/\∀ α' v H',RS f α' r.2 σ H'->r.2.lo=s.lo->Ext f α α' s.Γ r.2.Γ H H'->RepV f α' r.2.Γ H' r.1 v->Q v H'
def tDF (f:Fr) (m:MF):TE:=fun σ H Q=>∃ α s r,RS f α s σ H/\s.lo<=s.Γ.length/\m s=some r/\∀ α' a vs H',RS f α' r.2 σ H'->r.2.lo=s.lo->Ext f α α' s.Γ r.2.Γ H H'->H' a=none->Reps (wd f α' r.2.Γ H') r.1 vs->Q (.ref a) (upd H' a (.lst vs))
def tDT (f:Fr) (m:MT):TT:=fun σ H Q=>∃ α s r,RS f α s σ H/\s.lo<=s.Γ.length/\m s=some r/\∀ α' H',RS f α' r.2 σ H'->r.2.lo=s.lo->Ext f α α' s.Γ r.2.Γ H H'->Q r.1 H'
def tDA (f:Fr) (m:MA):TA:=fun σ H Q=>∃ α s r,RS f α s σ H/\s.lo<=s.Γ.length/\m s=some r/\∀ α' vs H',RS f α' r.2 σ H'->r.2.lo=s.lo->Ext f α α' s.Γ r.2.Γ H H'->RepVs f α' r.2.Γ H' r.1 vs->Q vs H'
def DE (X:Cx) (e:Expr) (m:ME):Prop:=∀ f:Fr,f.K=X.K->PE X e (tD f m)
def DF (X:Cx) (e:Expr) (m:MF):Prop:=∀ f:Fr,f.K=X.K->PE X e (tDF f m)
def DT (X:Cx) (e:Expr) (m:MT):Prop:=∀ f:Fr,f.K=X.K->PT X e (tDT f m)
def DW (X:Cx) (e:Expr) (m:MT):Prop:=∀ f:Fr,f.K=X.K->PW X e (tDT f m)
def DA (X:Cx) (es:List Expr) (m:MA):Prop:=∀ f:Fr,f.K=X.K->PA X es (tDA f m)
section
variable {X:Cx} {e a b c:Expr} {t t':TE} {pos:Pos}
theorem PE.imp (h:PE X e t) (k:∀ σ H Q,t' σ H Q->t σ H Q):PE X e t':=fun pins s σ H Q I q=>h pins s σ H Q I (k _ _ _ q)
theorem PT.imp {t t':TT} (h:PT X e t) (k:∀ σ H Q,t' σ H Q->t σ H Q):PT X e t':=fun pins s σ H Q I q=>h pins s σ H Q I (k _ _ _ q)
theorem PW.imp {t t':TT} (h:PW X e t) (k:∀ σ H Q,t' σ H Q->t σ H Q):PW X e t':=fun wh pins s σ H Q I q=>h wh pins s σ H Q I (k _ _ _ q)
theorem PA.imp {es:List Expr} {t t':TA} (h:PA X es t) (k:∀ σ H Q,t' σ H Q->t σ H Q):PA X es t':=fun pos pins s σ H Q I q=>h pos pins s σ H Q I (k _ _ _ q)
@[simp] def AA (i:Nat):ME:=fun s=>match s.σ[i]? with
 | some (some d)=>some (d,s)
 | _=>none
theorem AD {i:Nat} {x:Str} (h:PE X (.Name x pos) (HF i)):DE X (.Name x pos) (AA i):=fun f hf=>PE.imp h fun σ H Q hh_=>by
 obtain ⟨α,s,r,rs,lo,e,q⟩:=hh_
 unfold AA at e
 split at e
 ·rename_i d hd
  cases e
  obtain ⟨v,h1,h2⟩:=rs.slot i d hd
  exact ⟨v,h1,q α v H rs rfl .refl h2⟩
 ·cases e
@[simp] def Cn (i:Nat):MF:=fun s=>match s.σ[i]? with
 | some (some (.b n))=>match s.Γ[n]? with
  | some (some xs)=>if s.lo<=n then some (xs,{s with σ:=s.σ.set i none,Γ:=s.Γ.set n none}) else none
  | _=>none
 | _=>none
@[simp] def mC (d:D):ME:=fun s=>some (.v d,s)
theorem Gj {d:D} {v:V} (h:PE X e (tC v)) (r:∀ W,Rep W d v):DE X e (mC d):=fun f hf=>PE.imp h fun σ H Q hh_=>by
 obtain ⟨α,s,r',rs,lo,e,q⟩:=hh_
 cases e
 exact q α v H rs rfl .refl (r _)
theorem AR {i j}:DE X (.Constant (.int i) j pos) (mC (.int i)):=Gj DX fun W=>by unfold Rep;rfl
theorem IY {i j}:DE X (.Constant (.bool i) j pos) (mC (.bl i)):=Gj LW fun W=>by unfold Rep;rfl
theorem Qp {i j}:DE X (.Constant (.str i) j pos) (mC (.str i)):=Gj Y8 fun W=>by unfold Rep;rfl
theorem Ez {f:Fr} {α:Nat->Addr} {s:DS} {σ:St} {H:Hp} {p:Addr} {xs:List D} {vs:List V} (r:RS f α s σ H) (h:H p=none) (hx:Reps (wd f α s.Γ H) xs vs):Rep (wd f α s.Γ (upd H p (.lst vs))) (.lst xs) (.ref p):=by
 unfold Rep
 exact ⟨p,vs,rfl,r.fresh h,Am,hx.kw (Ext.new r h).kw⟩
theorem ID {f:Fr} {α:Nat->Addr} {s:DS} {σ:St} {H:Hp} {p:Addr} {xs:List D} {vs:List V} (r:RS f α s σ H) (h:H p=none) (hx:Reps (wd f α s.Γ H) xs vs):Rep (wd f α s.Γ (upd H p (.tup vs))) (.tup xs) (.ref p):=by
 unfold Rep
 exact ⟨p,vs,rfl,r.fresh h,Am,hx.kw (Ext.new r h).kw⟩
@[simp] def AH (m:MF):ME:=fun s=>(m s).map fun r=>(.v (.lst r.1),r.2)
theorem Al {m:MF} (h:DF X e m):DE X e (AH m):=fun f hf=>PE.imp (h f hf) fun σ H Q hh_=>by
 obtain ⟨α,s,r,rs,lo,e,q⟩:=hh_
 unfold AH at e
 cases hm:m s with
 | none=>rw[hm] at e;cases e
 | some r'=>
  rw[hm] at e
  cases e
  exact ⟨α,s,r',rs,lo,hm,fun α' p vs H' rs' l' ex hp hx=>q α' _ _ (rs'.new hp) l' (ex.trans (.new rs' hp)) (Ez rs' hp hx)⟩
@[simp] def AC:MA:=fun s=>some ([],s)
@[simp] def AB (m:ME) (ms:MA):MA:=fun s=>(m s).bind fun r=>(ms r.2).map fun q=>(r.1::q.1,q.2)
theorem RepVs.nil {f:Fr} {α:Nat->Addr} {Γ:Gm} {H:Hp}:RepVs f α Γ H [] []:=by unfold RepVs;rfl
theorem RepVs.cons {f:Fr} {α:Nat->Addr} {Γ:Gm} {H:Hp} {d:SV} {v:V} {ds:List SV} {vs:List V} (h:RepV f α Γ H d v) (t:RepVs f α Γ H ds vs):RepVs f α Γ H (d::ds) (v::vs):=by unfold RepVs;exact ⟨v,vs,rfl,h,t⟩
theorem RepVs.cons_inv {f:Fr} {α:Nat->Addr} {Γ:Gm} {H:Hp} {d:SV} {ds:List SV} {vs:List V} (h:RepVs f α Γ H (d::ds) vs):∃ v r,vs=v::r/\RepV f α Γ H d v/\RepVs f α Γ H ds r:=by unfold RepVs at h;exact h
theorem RepVs.nil_inv {f:Fr} {α:Nat->Addr} {Γ:Gm} {H:Hp} {vs:List V} (h:RepVs f α Γ H [] vs):vs=[]:=by unfold RepVs at h;exact h
theorem RepVs.len {f:Fr} {α:Nat->Addr} {Γ:Gm} {H:Hp}:∀ {ds:List SV} {vs:List V},RepVs f α Γ H ds vs->vs.length=ds.length
 | [],vs,h=>by rw[h.nil_inv];rfl
 | d::ds,vs,h=>by
  obtain ⟨v,r,rfl,_,h2⟩:=h.cons_inv
  rw[List.length_cons,List.length_cons,h2.len]
theorem AG:DA X [] AC:=fun f hf=>PA.imp Ca fun σ H Q hh_=>by
 obtain ⟨α,s,r,rs,lo,e,q⟩:=hh_
 cases e
 exact q α [] H rs rfl .refl .nil
theorem AE {es:List Expr} {m:ME} {ms:MA} (h:DE X e m) (hs:DA X es ms) (hst:starEach (e::es) X.env=(false,eval e X.env)::starEach es X.env:=by rfl):DA X (e::es) (AB m ms):=fun f hf=>
 PA.imp (Bs (h f hf) (hs f hf) hst) fun σ H Q hh_=>by
  obtain ⟨α,s,r,rs,lo,e,q⟩:=hh_
  unfold AB at e
  cases h1:m s with
  | none=>rw[h1] at e;cases e
  | some r1=>
   rw[h1] at e
   cases h2:ms r1.2 with
   | none=>simp[h2] at e
   | some r2=>
    simp[h2] at e
    subst e
    refine ⟨α,s,r1,rs,lo,h1,fun α1 v H1 rs1 l1 e1 hv=>⟨α1,r1.2,r2,rs1,by rw[l1];exact Nat.le_trans lo e1.m,h2,fun α2 vs H2 rs2 l2 e2 hvs=>?_⟩⟩
    exact q α2 _ H2 rs2 (l2.trans l1) (e1.trans e2) (.cons (hv.ext e2) hvs)
@[simp] def trees:List SV->Option (List D)
 | []=>some []
 | .v d::r=>(trees r).map (d::·)
 | _=>none
theorem Ir {f:Fr} {α:Nat->Addr} {Γ:Gm} {H:Hp}:∀ {ds:List SV} {xs:List D} {vs:List V},trees ds=some xs->RepVs f α Γ H ds vs->Reps (wd f α Γ H) xs vs
 | [],xs,vs,e,h=>by cases e;rw[h.nil_inv];exact .nil
 | .v d::r,xs,vs,e,h=>by
  obtain ⟨v,q,rfl,h1,h2⟩:=h.cons_inv
  unfold trees at e
  cases ht:trees r with
  | none=>rw[ht] at e;cases e
  | some ys=>
   rw[ht] at e
   cases e
   exact .cons h1 (Ir ht h2)
 | .b n::r,xs,vs,e,h=>by unfold trees at e;cases e
 | .p n d::r,xs,vs,e,h=>by unfold trees at e;cases e
def big:Nat:=1000000
theorem Cy {n:Nat} (h:n<=big):n<=sizeLine:=Ev.small h
theorem Wb {n:Nat} (h:n<=big):n<sizeLine:=Ev.Du h
@[simp] def Ap (ms:MA):MF:=fun s=>(ms s).bind fun r=>(trees r.1).bind fun xs=>if xs.length<=big then some (xs,r.2) else none
@[simp] def B6 (ms:MA):ME:=fun s=>(ms s).bind fun r=>(trees r.1).bind fun xs=>if xs.length<=big then some (.v (.tup xs),r.2) else none
theorem bind_some {α β:Type} {o:Option α} {g:α->Option β} {z:β} (h:o.bind g=some z):∃ y,o=some y/\g y=some z:=by
 cases o with
 | none=>cases h
 | some y=>exact ⟨y,rfl,h⟩
theorem Ag {α β:Type} {o:Option α} {g:α->β} {z:β} (h:o.map g=some z):∃ y,o=some y/\g y=z:=by
 cases o with
 | none=>cases h
 | some y=>exact ⟨y,rfl,Option.some.inj h⟩
theorem Bw {es:List Expr} {ms:MA} (h:DA X es ms):DF X (.List es pos) (Ap ms):=fun f hf=>PE.imp (OZ (h f hf)) fun σ H Q hh_=>by
 obtain ⟨α,s,r,rs,lo,e,q⟩:=hh_
 obtain ⟨r1,h1,e⟩:=bind_some e
 obtain ⟨xs,h2,e⟩:=bind_some e
 split at e
 ·rename_i hz
  cases e
  refine ⟨α,s,r1,rs,lo,h1,fun α1 vs H1 rs1 l1 e1 hvs=>?_⟩
  have hx:=Ir h2 hvs
  have hz':vs.length<=sizeLine:=by rw[hx.len];exact Cy hz
  exact ⟨hz',fun p hp=>q α1 p vs H1 rs1 l1 e1 hp hx⟩
 ·cases e
theorem J5 {es:List Expr} {ms:MA} {k} (h:DA X es ms):DE X (.Tuple es k pos) (B6 ms):=fun f hf=>PE.imp (Jk (h f hf)) fun σ H Q hh_=>by
 obtain ⟨α,s,r,rs,lo,e,q⟩:=hh_
 obtain ⟨r1,h1,e⟩:=bind_some e
 obtain ⟨xs,h2,e⟩:=bind_some e
 split at e
 ·rename_i hz
  cases e
  refine ⟨α,s,r1,rs,lo,h1,fun α1 vs H1 rs1 l1 e1 hvs=>?_⟩
  have hx:=Ir h2 hvs
  exact ⟨by rw[hx.len];exact Cy hz,fun p hp=>q α1 _ _ (rs1.new hp) l1 (e1.trans (.new rs1 hp)) (ID rs1 hp hx)⟩
 ·cases e
def OpD (X:Cx) (g:Gm->SV->SV->Option D) (r:R2):Prop:=∀ (f:Fr) (α:Nat->Addr) (s:DS) (σ:St) (H:Hp) (x y:SV) (u v:V) (z:D) (Q:VK),f.K=X.K->RS f α s σ H->RepV f α s.Γ H x u->RepV f α s.Γ H y v->g s.Γ x y=some z ->
 (∀ w H',RS f α s σ H'->Ext f α α s.Γ s.Γ H H'->Rep (wd f α s.Γ H') z w->Q w H')->r u v H Q
def OpF (X:Cx) (g:Gm->SV->SV->Option (List D)) (r:R2):Prop:=∀ (f:Fr) (α:Nat->Addr) (s:DS) (σ:St) (H:Hp) (x y:SV) (u v:V) (z:List D) (Q:VK),f.K=X.K->RS f α s σ H->RepV f α s.Γ H x u->RepV f α s.Γ H y v->g s.Γ x y=some z ->
 (∀ a vs,H a=none->Reps (wd f α s.Γ H) z vs->Q (.ref a) (upd H a (.lst vs)))->r u v H Q
@[simp] def mOp (g:Gm->SV->SV->Option D) (ma mb:ME):ME:=fun s=>(ma s).bind fun x=>(mb x.2).bind fun y=>(g y.2.Γ x.1 y.1).map fun z=>(.v z,y.2)
@[simp] def CV (g:Gm->SV->SV->Option (List D)) (ma mb:ME):MF:=fun s=>(ma s).bind fun x=>(mb x.2).bind fun y=>(g y.2.Γ x.1 y.1).map fun z=>(z,y.2)
variable {g:Gm->SV->SV->Option D} {gF:Gm->SV->SV->Option (List D)} {r:R2} {ma mb mc:ME}
theorem KH {f:Fr} {σ:St} {H:Hp} {Q:VK} (hf:f.K=X.K) (hg:OpD X g r) (h:tD f (mOp g ma mb) σ H Q):tOp r (tD f ma) (tD f mb) σ H Q:=by
 obtain ⟨α,s,r',rs,lo,e,q⟩:=h
 obtain ⟨x,h1,e⟩:=bind_some e
 obtain ⟨y,h2,e⟩:=bind_some e
 obtain ⟨z,h3,rfl⟩:=Ag e
 refine ⟨α,s,x,rs,lo,h1,fun α1 u H1 rs1 l1 e1 hu=>⟨α1,x.2,y,rs1,by rw[l1];exact Nat.le_trans lo e1.m,h2,fun α2 v H2 rs2 l2 e2 hv=>?_⟩⟩
 exact hg f α2 y.2 σ H2 x.1 y.1 u v z Q hf rs2 (hu.ext e2) hv h3 fun w H3 rs3 e3 hw=>q α2 w H3 rs3 (l2.trans l1) ((e1.trans e2).trans e3) hw
theorem XI {f:Fr} {σ:St} {H:Hp} {Q:VK} (hf:f.K=X.K) (hg:OpF X gF r) (h:tDF f (CV gF ma mb) σ H Q):tOp r (tD f ma) (tD f mb) σ H Q:=by
 obtain ⟨α,s,r',rs,lo,e,q⟩:=h
 obtain ⟨x,h1,e⟩:=bind_some e
 obtain ⟨y,h2,e⟩:=bind_some e
 obtain ⟨z,h3,rfl⟩:=Ag e
 refine ⟨α,s,x,rs,lo,h1,fun α1 u H1 rs1 l1 e1 hu=>⟨α1,x.2,y,rs1,by rw[l1];exact Nat.le_trans lo e1.m,h2,fun α2 v H2 rs2 l2 e2 hv=>?_⟩⟩
 exact hg f α2 y.2 σ H2 x.1 y.1 u v z Q hf rs2 (hu.ext e2) hv h3 fun a vs ha hx=>q α2 a vs H2 rs2 (l2.trans l1) (e1.trans e2) ha hx
theorem EO {op:Operator} (ho:OpR X (binaryOp op) r) (hg:OpD X g r) (ha:DE X a ma) (hb:DE X b mb):DE X (.BinOp a op b pos) (mOp g ma mb):=fun f hf=>PE.imp (Dr ho (ha f hf) (hb f hf)) fun σ H Q h=>KH hf hg h
theorem MR {op:Operator} (ho:OpR X (binaryOp op) r) (hg:OpF X gF r) (ha:DE X a ma) (hb:DE X b mb):DF X (.BinOp a op b pos) (CV gF ma mb):=fun f hf=>PE.imp (Dr ho (ha f hf) (hb f hf)) fun σ H Q h=>XI hf hg h
theorem VZ (ho:IxR X r) (hg:OpD X g r) (ha:DE X a ma) (hb:DE X b mb) (hs:Jn b):DE X (.Subscript a b pos) (mOp g ma mb):=fun f hf=>PE.imp (R9 ho (ha f hf) (hb f hf) hs) fun σ H Q h=>KH hf hg h
@[simp] def FK:SV->Option Bool
 | .v (.bl b)=>some b
 | _=>none
@[simp] def Ao (m:ME):MT:=fun s=>(m s).bind fun x=>(FK x.1).map fun b=>(b,x.2)
theorem Gh {f:Fr} {α:Nat->Addr} {Γ:Gm} {H:Hp} {d:SV} {b:Bool} {v:V} (h:FK d=some b) (r:RepV f α Γ H d v):v=.bl b:=by
 unfold FK at h
 split at h
 ·cases h
  have r:Rep (wd f α Γ H) (.bl b) v:=r
  unfold Rep at r
  exact r
 ·cases h
theorem Fq {op:CmpOp} (ho:OpR X (compareOp op) r) (hg:OpD X g r) (ha:DE X a ma) (hb:DE X b mb) (hm:behindInMarks op b=false):DT X (.Compare a [op] [b] pos) (Ao (mOp g ma mb)):=fun f hf=>PT.imp (N3 ho (ha f hf) (hb f hf) hm) fun σ H Q hh_=>by
 obtain ⟨α,s,r',rs,lo,e,q⟩:=hh_
 obtain ⟨x,h1,e⟩:=bind_some e
 obtain ⟨k,h2,rfl⟩:=Ag e
 exact KH hf hg ⟨α,s,x,rs,lo,h1,fun α' v H' rs' l' ex hv=>⟨k,Gh h2 hv,q α' H' rs' l' ex⟩⟩
@[simp] def elems (Γ:Gm):SV->Option (List D)
 | .v (.lst xs)=>some xs
 | .b n=>(Γ[n]?).join
 | _=>none
theorem BW {f:Fr} {α:Nat->Addr} {s:DS} {σ:St} {H:Hp} {d:SV} {xs:List D} {v:V} (rs:RS f α s σ H) (h:elems s.Γ d=some xs) (r:RepV f α s.Γ H d v):∃ a vs,v=.ref a/\H a=some (.lst vs)/\Reps (wd f α s.Γ H) xs vs:=by
 unfold elems at h
 split at h
 ·rename_i ys
  cases h
  have r:Rep (wd f α s.Γ H) (.lst xs) v:=r
  unfold Rep at r
  obtain ⟨a,vs,e,_,h1,h2⟩:=r
  exact ⟨a,vs,e,h1,h2⟩
 ·rename_i n
  have h:s.Γ[n]?=some (some xs):=by
   cases hg:s.Γ[n]? with
   | none=>rw[hg] at h;cases h
   | some o=>rw[hg] at h;exact congrArg some h
  obtain ⟨vs,h1,h2⟩:=rs.box n xs h
  exact ⟨α n,vs,r.2,h1,h2⟩
 ·cases h
@[simp] def Iz (Γ:Gm):SV->Option Bool
 | .v .non=>some false
 | .v (.bl b)=>some b
 | .v (.int i)=>some (i != 0)
 | .v (.tup xs)=>some (!xs.isEmpty)
 | d=>(elems Γ d).map fun xs=>!xs.isEmpty
theorem isE {W:Wd} {xs:List D} {vs:List V} (h:Reps W xs vs):(!xs.isEmpty)=!vs.isEmpty:=by
 cases xs with
 | nil=>rw[h.nil_inv];rfl
 | cons d ds=>obtain ⟨v,r,rfl,_⟩:=h.cons_inv;rfl
theorem Y3 {f:Fr} {α:Nat->Addr} {s:DS} {σ:St} {H:Hp} {d:SV} {b:Bool} {v:V} (rs:RS f α s σ H) (h:Iz s.Γ d=some b) (r:RepV f α s.Γ H d v):Je f.K v H b:=by
 unfold Iz at h
 split at h
 ·cases h
  have r:Rep (wd f α s.Γ H) .non v:=r
  unfold Rep at r
  rw[r];rfl
 ·cases h
  have r:Rep (wd f α s.Γ H) (.bl b) v:=r
  unfold Rep at r
  rw[r];rfl
 ·rename_i i
  cases h
  have r:Rep (wd f α s.Γ H) (.int i) v:=r
  unfold Rep at r
  rw[r];rfl
 ·rename_i xs
  cases h
  have r:Rep (wd f α s.Γ H) (.tup xs) v:=r
  unfold Rep at r
  obtain ⟨a,vs,e,_,h1,h2⟩:=r
  rw[e]
  exact .inr (.inl ⟨vs,SqT.of h1,isE h2⟩)
 ·obtain ⟨xs,h1,rfl⟩:=Ag h
  obtain ⟨a,vs,e,h2,h3⟩:=BW rs h1 r
  rw[e]
  exact .inl ⟨vs,SqL.of h2,isE h3⟩
@[simp] def ET (m:ME):MT:=fun s=>(m s).bind fun x=>(Iz x.2.Γ x.1).map fun b=>(b,x.2)
theorem Ny (h:DE X e ma) (he:∀ whole,isTrue e X.env whole=(do let v <-whole;standAt e.pos;holding [v] (truthy v)):=by intro _;rfl):DT X e (ET ma):=fun f hf=>PT.imp (Ue (h f hf) he) fun σ H Q hh_=>by
 obtain ⟨α,s,r',rs,lo,e,q⟩:=hh_
 obtain ⟨x,h1,e⟩:=bind_some e
 obtain ⟨k,h2,rfl⟩:=Ag e
 exact ⟨α,s,x,rs,lo,h1,fun α' v H' rs' l' ex hv=>⟨k,by rw[<-hf];exact Y3 rs' h2 hv,q α' H' rs' l' ex⟩⟩
@[simp] def D8 (m:MT):MT:=fun s=>(m s).map fun x=>(!x.1,x.2)
@[simp] def Gp (m n:MT):MT:=fun s=>(m s).bind fun x=>if x.1=true then n x.2 else some (false,x.2)
@[simp] def mOr (m n:MT):MT:=fun s=>(m s).bind fun x=>if x.1=true then some (true,x.2) else n x.2
variable {ta tb:MT}
theorem KL (h:DT X e ta):DT X (.UnaryOp .Not e pos) (D8 ta):=fun f hf=>PT.imp (Us (h f hf)) fun σ H Q hh_=>by
 obtain ⟨α,s,r',rs,lo,e,q⟩:=hh_
 obtain ⟨x,h1,rfl⟩:=Ag e
 exact ⟨α,s,x,rs,lo,h1,fun α' H' rs' l' ex=>q α' H' rs' l' ex⟩
theorem YJ (h:DT X a ta):DW X (.BoolOp .And [a] pos) ta:=fun f hf=>QT (h f hf)
theorem Ky (h:DT X a ta):DW X (.BoolOp .Or [a] pos) ta:=fun f hf=>PP (h f hf)
theorem ZG {rest:List Expr} (h:DT X a ta) (h2:DW X (.BoolOp .And (b::rest) pos) tb):DW X (.BoolOp .And (a::b::rest) pos) (Gp ta tb):=fun f hf=>PW.imp (V4 (h f hf) (h2 f hf)) fun σ H Q hh_=>by
 obtain ⟨α,s,r',rs,lo,e,q⟩:=hh_
 obtain ⟨x,h1,e⟩:=bind_some e
 refine ⟨α,s,x,rs,lo,h1,fun α' H' rs' l' ex=>?_⟩
 split at e
 ·rename_i c
  rw[if_pos c]
  exact ⟨α',x.2,r',rs',by rw[l'];exact Nat.le_trans lo ex.m,e,fun α2 H2 rs2 l2 e2=>q α2 H2 rs2 (l2.trans l') (ex.trans e2)⟩
 ·rename_i c
  cases e
  rw[if_neg c]
  exact q α' H' rs' l' ex
theorem O0 {rest:List Expr} (h:DT X a ta) (h2:DW X (.BoolOp .Or (b::rest) pos) tb):DW X (.BoolOp .Or (a::b::rest) pos) (mOr ta tb):=fun f hf=>PW.imp (Mv (h f hf) (h2 f hf)) fun σ H Q hh_=>by
 obtain ⟨α,s,r',rs,lo,e,q⟩:=hh_
 obtain ⟨x,h1,e⟩:=bind_some e
 refine ⟨α,s,x,rs,lo,h1,fun α' H' rs' l' ex=>?_⟩
 split at e
 ·rename_i c
  cases e
  rw[if_pos c]
  exact q α' H' rs' l' ex
 ·rename_i c
  rw[if_neg c]
  exact ⟨α',x.2,r',rs',by rw[l'];exact Nat.le_trans lo ex.m,e,fun α2 H2 rs2 l2 e2=>q α2 H2 rs2 (l2.trans l') (ex.trans e2)⟩
theorem JC (h:DW X e ta):DT X e ta:=fun f hf=>PW.pt (h f hf)
@[simp] def Pm (m:ME):ME:=fun s=>(m s).bind fun x=>(FK x.1).map fun b=>(.v (.bl (!b)),x.2)
@[simp] def PJ (m n:ME):ME:=fun s=>(m s).bind fun x=>(FK x.1).bind fun b=>if b=true then n x.2 else some (.v (.bl false),x.2)
theorem IJ {f:Fr} {α:Nat->Addr} {Γ:Gm} {H:Hp} {b:Bool}:RepV f α Γ H (.v (.bl b)) (.bl b):=by show Rep _ _ _;unfold Rep;rfl
theorem WT (h:DE X e ma):DE X (.UnaryOp .Not e pos) (Pm ma):=fun f hf=>PE.imp (U2 (h f hf)) fun σ H Q hh_=>by
 obtain ⟨α,s,r',rs,lo,e,q⟩:=hh_
 obtain ⟨x,h1,e⟩:=bind_some e
 obtain ⟨k,h2,rfl⟩:=Ag e
 exact ⟨α,s,x,rs,lo,h1,fun α' v H' rs' l' ex hv=>⟨k,Gh h2 hv,q α' _ H' rs' l' ex IJ⟩⟩
theorem Ui {op} (h:DE X a ma):DE X (.BoolOp op [a] pos) ma:=fun f hf=>Wc (h f hf)
theorem UZ {rest:List Expr} (h:DE X a ma) (h2:DE X (.BoolOp .And (b::rest) pos) mb):DE X (.BoolOp .And (a::b::rest) pos) (PJ ma mb):=fun f hf=>PE.imp (P6 (h f hf) (h2 f hf)) fun σ H Q hh_=>by
 obtain ⟨α,s,r',rs,lo,e,q⟩:=hh_
 obtain ⟨x,h1,e⟩:=bind_some e
 obtain ⟨k,h2,e⟩:=bind_some e
 refine ⟨α,s,x,rs,lo,h1,fun α' v H' rs' l' ex hv=>⟨k,Gh h2 hv,?_⟩⟩
 split at e
 ·rename_i c
  rw[if_pos c]
  exact ⟨α',x.2,r',rs',by rw[l'];exact Nat.le_trans lo ex.m,e,fun α2 v2 H2 rs2 l2 e2=>q α2 v2 H2 rs2 (l2.trans l') (ex.trans e2)⟩
 ·rename_i c
  cases e
  rw[if_neg c]
  exact q α' _ H' rs' l' ex IJ
def CaD (X:Cx) (g:Gm->List SV->Option D) (r:List V->Hp->VK->Prop):Prop:=∀ (f:Fr) (α:Nat->Addr) (s:DS) (σ:St) (H:Hp) (xs:List SV) (us:List V) (z:D) (Q:VK),f.K=X.K->RS f α s σ H->RepVs f α s.Γ H xs us->g s.Γ xs=some z ->
 (∀ w H',RS f α s σ H'->Ext f α α s.Γ s.Γ H H'->Rep (wd f α s.Γ H') z w->Q w H')->r us H Q
def CaF (X:Cx) (g:Gm->List SV->Option (List D)) (r:List V->Hp->VK->Prop):Prop:=∀ (f:Fr) (α:Nat->Addr) (s:DS) (σ:St) (H:Hp) (xs:List SV) (us:List V) (z:List D) (Q:VK),f.K=X.K->RS f α s σ H->RepVs f α s.Γ H xs us->g s.Γ xs=some z ->
 (∀ a vs,H a=none->Reps (wd f α s.Γ H) z vs->Q (.ref a) (upd H a (.lst vs)))->r us H Q
@[simp] def AN (g:Gm->List SV->Option D) (ms:MA):ME:=fun s=>(ms s).bind fun x=>(g x.2.Γ x.1).map fun z=>(.v z,x.2)
@[simp] def A3 (g:Gm->List SV->Option (List D)) (ms:MA):MF:=fun s=>(ms s).bind fun x=>(g x.2.Γ x.1).map fun z=>(z,x.2)
variable {gc:Gm->List SV->Option D} {gcF:Gm->List SV->Option (List D)} {rc:List V->Hp->VK->Prop} {ms:MA} {es:List Expr} {x:Str} {p:Pos} {id T:String}
theorem Ve {f:Fr} {σ:St} {H:Hp} {Q:VK} (hf:f.K=X.K) (hg:CaD X gc rc) (h:tD f (AN gc ms) σ H Q):tCB rc (tDA f ms) σ H Q:=by
 obtain ⟨α,s,r',rs,lo,e,q⟩:=h
 obtain ⟨x,h1,e⟩:=bind_some e
 obtain ⟨z,h3,rfl⟩:=Ag e
 refine ⟨α,s,x,rs,lo,h1,fun α1 us H1 rs1 l1 e1 hu=>?_⟩
 exact hg f α1 x.2 σ H1 x.1 us z Q hf rs1 hu h3 fun w H3 rs3 e3 hw=>q α1 w H3 rs3 l1 (e1.trans e3) hw
theorem Ru {f:Fr} {σ:St} {H:Hp} {Q:VK} (hf:f.K=X.K) (hg:CaF X gcF rc) (h:tDF f (A3 gcF ms) σ H Q):tCB rc (tDA f ms) σ H Q:=by
 obtain ⟨α,s,r',rs,lo,e,q⟩:=h
 obtain ⟨x,h1,e⟩:=bind_some e
 obtain ⟨z,h3,rfl⟩:=Ag e
 refine ⟨α,s,x,rs,lo,h1,fun α1 us H1 rs1 l1 e1 hu=>?_⟩
 exact hg f α1 x.2 σ H1 x.1 us z Q hf rs1 hu h3 fun a vs ha hx=>q α1 a vs H1 rs1 l1 e1 ha hx
theorem FS (hc:CallR X (.builtin id) rc) (hgc:CaD X gc rc) (hg:Gl X x) (hm:X.mg x=none) (hv:bootBuiltins x=some (.builtin id)) (ha:DA X (e::es) ms) (hn:x≠"__name__":=by decide) (hdb:(x == ("__debug__":Str))=false:=by decide)
  (he:starEach (e::es) X.env=(false,eval e X.env)::starEach es X.env:=by rfl) (hpl:(backTo pos (starEach es X.env)).any (·.1)=false:=by rfl):DE X (.Call (.Name x p) (e::es) [] pos) (AN gc ms):=fun f hf=>
 PE.imp (FB hc hg hm hv (ha f hf) hn hdb he hpl) fun σ H Q h=>Ve hf hgc h
theorem PK (hc:CallR X (.builtin id) rc) (hgc:CaF X gcF rc) (hg:Gl X x) (hm:X.mg x=none) (hv:bootBuiltins x=some (.builtin id)) (ha:DA X (e::es) ms) (hn:x≠"__name__":=by decide) (hdb:(x == ("__debug__":Str))=false:=by decide)
  (he:starEach (e::es) X.env=(false,eval e X.env)::starEach es X.env:=by rfl) (hpl:(backTo pos (starEach es X.env)).any (·.1)=false:=by rfl):DF X (.Call (.Name x p) (e::es) [] pos) (A3 gcF ms):=fun f hf=>
 PE.imp (FB hc hg hm hv (ha f hf) hn hdb he hpl) fun σ H Q h=>Ru hf hgc h
end
section
variable {f:Fr} {α α':Nat->Addr} {s s':DS} {σ σ':St} {H H' Hh H1:Hp}
def inn (f:Fr) (α:Nat->Addr) (Γ:Gm) (E:Addr->Prop) (Hh:Hp) (hd:∀ a,f.F a\/Be Γ α a\/E a->Hh a≠none):Fr where
 K:=f.K
 H₀:=Hh
 F:=fun a=>f.F a\/Be Γ α a\/E a
 L:=Be Γ α
 sub:=fun a h=>.inr (.inl h)
 dom:=hd
structure Over (E:Addr->Prop) (H Hh:Hp):Prop where
 out:∀ a,¬E a->Hh a=H a
 new:∀ a,E a->H a=none
 there:∀ a,E a->Hh a≠none
theorem Over.sup {E:Addr->Prop} (o:Over E H Hh) {a:Addr} {u:HO} (h:H a=some u):Hh a=some u:=by
 rw[o.out a fun z=>by rw[o.new a z] at h;cases h]
 exact h
theorem Bi (r:RS f α s σ H) {E:Addr->Prop} (o:Over E H Hh):∀ a,f.F a\/Be s.Γ α a\/E a->Hh a≠none:=fun a h=>by
 have up:H a≠none->Hh a≠none:=fun h=>by
  cases e:H a with
  | none=>exact absurd e h
  | some u=>rw[o.sup e];exact fun z=>nomatch z
 rcases h with h | h | h
 ·exact up (r.forb a h)
 ·exact up (r.live h)
 ·exact o.there a h
theorem Ff (r:RS f α s σ H) {E:Addr->Prop} (o:Over E H Hh):Kw (wd f α s.Γ H) (wd (inn f α s.Γ E Hh (Bi r o)) α s.Γ Hh):=⟨rfl,fun a u n e=>⟨o.sup e,fun z=>by
 rcases z with (z | z | z) | z
 ·exact n (.inl z)
 ·exact n (.inr z)
 ·have e':H a=some u:=e
  rw[o.new a z] at e'
  cases e'
 ·exact n (.inr z)⟩⟩
theorem TQ (r:RS f α s σ H) {E:Addr->Prop} (o:Over E H Hh) {d:SV} {v:V} (h:RepV f α s.Γ H d v):RepV (inn f α s.Γ E Hh (Bi r o)) α s.Γ Hh d v:=by
 cases d with
 | v d=>exact Rep.kw (Ff r o) (show Rep _ d v from h)
 | b n=>exact h
 | p n d=>
  obtain ⟨h0,a,w,h1,h2,h3,h4⟩:=h
  obtain ⟨k1,k2⟩:=(Ff r o).keep a _ h2 h3
  exact ⟨h0,a,w,h1,k2,k1,h4.kw (Ff r o)⟩
theorem RS.enter (r:RS f α s σ H) {E:Addr->Prop} (o:Over E H Hh) {τ:List (Option SV)} {τ':St} (hl:τ.length=τ'.length) (hs:∀ (i:Nat) (d:SV),τ[i]?=some (some d)->∃ v,τ'[i]?=some (some v)/\RepV f α s.Γ H d v) :
  RS (inn f α s.Γ E Hh (Bi r o)) α ⟨τ,s.Γ,s.Γ.length⟩ τ' Hh where
 len:=hl
 slot:=fun i d h=>let ⟨v,a,b⟩:=hs i d h;⟨v,a,TQ r o b⟩
 box:=fun n xs h=>let ⟨vs,a,b⟩:=r.box n xs h;⟨vs,o.sup a,b.kw (Ff r o)⟩
 own:=fun n xs h=>by
  rw[if_pos (show n<s.Γ.length from (List.getElem?_eq_some_iff.mp h).1)]
  exact ⟨n,xs,h,rfl⟩
 inj:=r.inj
 fr:=fun b u h _=>h
 forb:=Bi r o
theorem RS.leave (r:RS f α s σ H) {E:Addr->Prop} (o:Over E H Hh) (q:RS (inn f α s.Γ E Hh (Bi r o)) α' s' σ' H') (hlo:s'.lo=s.Γ.length) (ex:Ext (inn f α s.Γ E Hh (Bi r o)) α α' s.Γ s'.Γ Hh H')
  (h1:∀ a,¬E a->H1 a=H' a) :
  RS f α' {s with Γ:=s'.Γ.take s.Γ.length} σ H1/\Ext f α α' s.Γ (s'.Γ.take s.Γ.length) H H1/\Kw (wd (inn f α s.Γ E Hh (Bi r o)) α' s'.Γ H') (wd f α' (s'.Γ.take s.Γ.length) H1):=by
 have tk:∀ {n:Nat} {z:Option (List D)},(s'.Γ.take s.Γ.length)[n]?=some z->n<s.Γ.length/\s'.Γ[n]?=some z:=fun {n z} h=>by
  rw[List.getElem?_take] at h
  split at h
  ·rename_i c;exact ⟨c,h⟩
  ·cases h
 have lv:∀ {a},Be (s'.Γ.take s.Γ.length) α' a->Be s.Γ α a/\Be s'.Γ α' a:=fun {a} hh_=>by
  obtain ⟨n,xs,e1,e2⟩:=hh_
  obtain ⟨c,e⟩:=tk e1
  obtain ⟨ys,e3⟩:=ex.lv n xs c e
  exact ⟨⟨n,ys,e3,by rw[<-ex.al n c];exact e2⟩,n,xs,e,e2⟩
 have kept:∀ b u,H b=some u->¬Be s.Γ α b->H1 b=some u:=fun b u e n=>by
  have ne:¬E b:=fun z=>by rw[o.new b z] at e;cases e
  rw[h1 b ne]
  exact q.fr b u (o.sup e) n
 have kw1:Kw (wd f α s.Γ H) (wd f α' (s'.Γ.take s.Γ.length) H1):=⟨rfl,fun a u n e=>⟨kept a u e fun z=>n (.inr z),fun z=>by
  rcases z with z | z
  ·exact n (.inl z)
  ·exact n (.inr (lv z).1)⟩⟩
 have kw2:Kw (wd (inn f α s.Γ E Hh (Bi r o)) α' s'.Γ H') (wd f α' (s'.Γ.take s.Γ.length) H1):=⟨rfl,fun a u n e=>⟨by
  show H1 a=some u
  rw[h1 a fun z=>n (.inl (.inr (.inr z)))]
  exact e,fun z=>by
  rcases z with z | z
  ·exact n (.inl (.inl z))
  ·exact n (.inr (lv z).2)⟩⟩
 have ex1:Ext f α α' s.Γ (s'.Γ.take s.Γ.length) H H1:=⟨kw1,by rw[List.length_take];have:=ex.m;lia,ex.al,fun n xs c e=>ex.lv n xs c (tk e).2⟩
 refine ⟨⟨r.len,fun i d h=>let ⟨v,a,b⟩:=r.slot i d h;⟨v,a,b.ext ex1⟩,fun n xs h=>?_,fun n xs h=>?_,fun n m xs ys hn hm e=>?_,fun b u h n=>?_,fun a h=>?_⟩,ex1,kw2⟩
 ·obtain ⟨c,e⟩:=tk h
  obtain ⟨vs,a,b⟩:=q.box n xs e
  refine ⟨vs,?_,b.kw kw2⟩
  have ne:¬E (α' n):=fun z=>by
   obtain ⟨ys,e3⟩:=ex.lv n xs c e
   obtain ⟨us,g,_⟩:=r.box n ys e3
   have:=o.new _ z
   rw[ex.al n c,g] at this
   cases this
  rw[h1 _ ne]
  exact a
 ·obtain ⟨c,e⟩:=tk h
  obtain ⟨ys,e3⟩:=ex.lv n xs c e
  rw[ex.al n c]
  exact r.own n ys e3
 ·exact q.inj n m xs ys (tk hn).2 (tk hm).2 e
 ·refine kept b u (r.fr b u h n) fun hh_=>?_
  obtain ⟨m,ys,e1,e2⟩:=hh_
  have ow:=r.own m ys e1
  rw[e2] at ow
  split at ow
  ·exact n ow
  ·rw[h] at ow;cases ow
 ·have hb:=r.forb a h
  have ne:¬E a:=fun z=>hb (o.new a z)
  rw[h1 a ne]
  exact q.forb a (.inl h)
end
section
variable {f:Fr} {α α':Nat->Addr} {s s':DS} {σ σ':St} {H H':Hp} {X:Cx} {pos:Pos}
def del (H:Hp) (a:Addr):Hp:=fun b=>if b=a then none else H b
theorem J4 {H:Hp} {a:Addr}:del H a a=none:=by unfold del;rw[if_pos rfl]
theorem D9 {H:Hp} {a b:Addr} (h:b≠a):del H a b=H b:=by unfold del;rw[if_neg h]
theorem Np {H:Hp} {a:Addr} {o:HO} (h:H a=some o):upd (del H a) a o=H:=by
 funext b
 by_cases e:b=a
 ·subst e;rw[Am,h]
 ·rw[AJ e,D9 e]
theorem RS.cut (r:RS f α s σ H) {n:Nat} {xs:List D} (hn:s.Γ[n]?=some (some xs)) (hlo:s.lo<=n) {τ:List (Option SV)} (hl:τ.length=s.σ.length) (hτ:∀ (i:Nat) (d:SV),τ[i]?=some (some d)->s.σ[i]?=some (some d)) :
  RS f α {s with σ:=τ,Γ:=s.Γ.set n none} σ (del H (α n))/\Ext f α α s.Γ (s.Γ.set n none) H (del H (α n)):=by
 have lv:∀ {a},Be (s.Γ.set n none) α a->Be s.Γ α a:=fun {a} hh_=>by
  obtain ⟨m,zs,e1,e2⟩:=hh_
  rcases C8 hn e1 with ⟨_,z⟩ | ⟨_,hm⟩
  ·cases z
  ·exact ⟨m,zs,hm,e2⟩
 have me:Be s.Γ α (α n):=⟨n,xs,hn,rfl⟩
 have e:Ext f α α s.Γ (s.Γ.set n none) H (del H (α n)):=⟨⟨rfl,fun a u h e=>⟨by show del H (α n) a=some u;rw[D9 fun (z:a=α n)=>h (.inr (by rw[z];exact me))];exact e,fun z=>by
  rcases z with z | z
  ·exact h (.inl z)
  ·exact h (.inr (lv z))⟩⟩,by rw[List.length_set];exact Nat.le_refl _,fun _ _=>rfl,fun m zs _ e1=>by
  rcases C8 hn e1 with ⟨_,z⟩ | ⟨_,hm⟩
  ·cases z
  ·exact ⟨zs,hm⟩⟩
 have old:∀ {m zs},(s.Γ.set n none)[m]?=some (some zs)->m≠n/\s.Γ[m]?=some (some zs):=fun {m zs} hm=>by
  rcases C8 hn hm with ⟨_,z⟩ | h
  ·cases z
  ·exact h
 have ow0:f.H₀ (α n)=none:=by
  have ow:=r.own n xs hn
  rw[if_neg (Nat.not_lt.mpr hlo)] at ow
  exact ow
 refine ⟨⟨hl.trans r.len,fun i d h=>let ⟨v,a,b⟩:=r.slot i d (hτ i d h);⟨v,a,b.ext e⟩,fun m zs hm=>?_,fun m zs hm=>r.own m zs (old hm).2,fun m k zs us hm hk q=>r.inj m k _ _ (old hm).2 (old hk).2 q,fun b o h1 h2=>?_,fun a h1=>?_⟩,e⟩
 ·obtain ⟨us,a,b⟩:=r.box m zs (old hm).2
  exact ⟨us,by rw[D9 fun z=>(old hm).1 (r.inj m n _ _ (old hm).2 hn z)];exact a,b.kw e.kw⟩
 ·rw[D9 fun z=>by rw[z,ow0] at h1;cases h1]
  exact r.fr b o h1 h2
 ·rw[D9 fun z=>f.dom a h1 (by rw[z];exact ow0)]
  exact r.forb a h1
theorem HA {i:Nat} {x:Str} (h:PE X (.Name x pos) (HF i)):DF X (.Name x pos) (Cn i):=fun f hf=>PE.imp h fun σ H Q hh_=>by
 obtain ⟨α,s,r,rs,lo,e,q⟩:=hh_
 unfold Cn at e
 split at e
 ·rename_i n hd
  split at e
  ·rename_i xs hn
   split at e
   ·rename_i hlo
    cases e
    obtain ⟨v,h1,h2⟩:=rs.slot i _ hd
    obtain ⟨vs,h3,h4⟩:=rs.box n xs hn
    obtain ⟨c1,c2⟩:=rs.cut hn hlo (τ:=s.σ.set i none) (List.length_set ..) fun j d hj=>by
     rw[List.getElem?_set] at hj
     by_cases z:i=j
     ·rw[if_pos z] at hj
      split at hj<;>cases hj
     ·rw[if_neg z] at hj;exact hj
    refine ⟨v,h1,?_⟩
    have hq:=q α (α n) vs (del H (α n)) c1 rfl c2 J4 (h4.kw c2.kw)
    rw[Np h3] at hq
    rw[h2.2]
    exact hq
   ·cases e
  ·cases e
 ·cases e
end
inductive Out where
 | nx (s:DS) | rt (d:D) (s:DS) | rf (xs:List D) (s:DS) | rp (xs:List D) (d:D) (s:DS) | bk (s:DS) | ct (s:DS)
abbrev MS:=DS->Option Out
def Post (f:Fr) (α:Nat->Addr) (s:DS) (H:Hp) (E:Ends):Out->Prop
 | .nx s'=>∀ α' σ' H',RS f α' s' σ' H'->s'.lo=s.lo->Ext f α α' s.Γ s'.Γ H H'->E.nx σ' H'
 | .rt d s'=>∀ α' σ' v H',RS f α' s' σ' H'->s'.lo=s.lo->Ext f α α' s.Γ s'.Γ H H'->Rep (wd f α' s'.Γ H') d v->E.rt v H'
 | .rf xs s'=>∀ α' σ' a vs H',RS f α' s' σ' H'->s'.lo=s.lo->Ext f α α' s.Γ s'.Γ H H'->H' a=none->Reps (wd f α' s'.Γ H') xs vs->E.rt (.ref a) (upd H' a (.lst vs))
 | .rp xs d s'=>∀ α' σ' a t vs w H',RS f α' s' σ' H'->s'.lo=s.lo->Ext f α α' s.Γ s'.Γ H H'->H' a=none->Reps (wd f α' s'.Γ H') xs vs->Rep (wd f α' s'.Γ H') d w->H' t=none->t≠a->E.rt (.ref t) (upd (upd H' a (.lst vs)) t (.tup [.ref a,w]))
 | .bk s'=>∀ α' σ' H',RS f α' s' σ' H'->s'.lo=s.lo->Ext f α α' s.Γ s'.Γ H H'->E.bk σ' H'
 | .ct s'=>∀ α' σ' H',RS f α' s' σ' H'->s'.lo=s.lo->Ext f α α' s.Γ s'.Γ H H'->E.ct σ' H'
def tDS (f:Fr) (m:MS):TS:=fun E σ H=>∃ α s o,RS f α s σ H/\s.lo<=s.Γ.length/\m s=some o/\Post f α s H E o
def DSt (X:Cx) (st:Stmt) (m:MS):Prop:=∀ f:Fr,f.K=X.K->PS X st (tDS f m)
def DSs (X:Cx) (sts:List Stmt) (m:MS):Prop:=∀ f:Fr,f.K=X.K->PSs X sts (tDS f m)
section
variable {X:Cx} {st:Stmt} {sts:List Stmt} {f:Fr} {α α':Nat->Addr} {s s':DS} {σ:St} {H H':Hp} {E:Ends} {pos:Pos} {e:Expr}
theorem PS.imp {t t':TS} (h:PS X st t) (k:∀ E σ H,t' E σ H->t E σ H):PS X st t':=fun pins s σ H D I q=>h pins s σ H D I (k _ _ _ q)
theorem PSs.imp {t t':TS} (h:PSs X sts t) (k:∀ E σ H,t' E σ H->t E σ H):PSs X sts t':=fun pins s σ H D I q=>h pins s σ H D I (k _ _ _ q)
theorem Post.ext {o:Out} (h:Post f α s H E o) (hl:s'.lo=s.lo) (e:Ext f α α' s.Γ s'.Γ H H'):Post f α' s' H' E o:=by
 cases o with
 | nx t=>exact fun α2 σ2 H2 r l x=>h α2 σ2 H2 r (l.trans hl) (e.trans x)
 | rt d t=>exact fun α2 σ2 v H2 r l x w=>h α2 σ2 v H2 r (l.trans hl) (e.trans x) w
 | rf xs t=>exact fun α2 σ2 a vs H2 r l x w y=>h α2 σ2 a vs H2 r (l.trans hl) (e.trans x) w y
 | rp xs d t=>exact fun α2 σ2 a t vs w H2 r l x=>h α2 σ2 a t vs w H2 r (l.trans hl) (e.trans x)
 | bk t=>exact fun α2 σ2 H2 r l x=>h α2 σ2 H2 r (l.trans hl) (e.trans x)
 | ct t=>exact fun α2 σ2 H2 r l x=>h α2 σ2 H2 r (l.trans hl) (e.trans x)
theorem lo_le {f:Fr} (lo:s.lo<=s.Γ.length) (hl:s'.lo=s.lo) (e:Ext f α α' s.Γ s'.Γ H H'):s'.lo<=s'.Γ.length:=by rw[hl];exact Nat.le_trans lo e.m
@[simp] def BO:MS:=fun s=>some (.nx s)
@[simp] def AI (m n:MS):MS:=fun s=>(m s).bind fun o=>match o with
 | .nx s'=>n s'
 | .rt d s'=>some (.rt d s')
 | .rf d s'=>some (.rf d s')
 | .rp xs d s'=>some (.rp xs d s')
 | .bk s'=>some (.bk s')
 | .ct s'=>some (.ct s')
variable {m n:MS}
theorem CU:DSs X [] BO:=fun f hf=>PSs.imp MZ fun E σ H hh_=>by
 obtain ⟨α,s,o,rs,lo,e,q⟩:=hh_
 cases e
 exact q α σ H rs rfl .refl
theorem AW (h1:DSt X st m) (h2:DSs X sts n):DSs X (st::sts) (AI m n):=fun f hf=>PSs.imp (EJ (h1 f hf) (h2 f hf)) fun E σ H hh_=>by
 obtain ⟨α,s,o,rs,lo,e,q⟩:=hh_
 obtain ⟨o1,e1,e⟩:=bind_some e
 refine ⟨α,s,o1,rs,lo,e1,?_⟩
 cases o1 with
 | nx s1=>exact fun α' σ' H' rs' l' x=>⟨α',s1,o,rs',lo_le lo l' x,e,q.ext l' x⟩
 | rt d s1=>cases e;exact q
 | rf d s1=>cases e;exact q
 | rp xs d s1=>cases e;exact q
 | bk s1=>cases e;exact q
 | ct s1=>cases e;exact q
theorem Ae (h1:DSt X st m):DSs X [st] m:=fun f hf=>FA (h1 f hf)
@[simp] def BR (m:ME):MS:=fun s=>(m s).map fun r=>.nx r.2
theorem DR {m:ME} (he:DE X e m) (hs:swapsWith e none pos.line X.env=pure false:=by rfl):DSt X (.Expr e pos) (BR m):=fun f hf=>PS.imp (ZJ (he f hf) hs) fun E σ H hh_=>by
 obtain ⟨α,s,o,rs,lo,e,q⟩:=hh_
 obtain ⟨r,h1,rfl⟩:=Ag e
 exact ⟨α,s,r,rs,lo,h1,fun α' v H' rs' l' x _=>q α' σ H' rs' l' x⟩
@[simp] def Bb (m:ME):MS:=fun s=>(m s).bind fun r=>match r.1 with
 | .v d=>some (.rt d r.2)
 | _=>none
theorem Cb {m:ME} (he:DE X e m):DSt X (.Return (some e) pos) (Bb m):=fun f hf=>PS.imp (GX (he f hf)) fun E σ H hh_=>by
 obtain ⟨α,s,o,rs,lo,e,q⟩:=hh_
 obtain ⟨⟨x,r⟩,h1,e⟩:=bind_some e
 cases x with
 | b n=>cases e
 | p n d=>cases e
 | v d=>
  cases e
  exact ⟨α,s,_,rs,lo,h1,fun α' v H' rs' l' x hv=>q α' σ v H' rs' l' x hv⟩
@[simp] def Ah (m:MF):MS:=fun s=>(m s).map fun r=>.rf r.1 r.2
theorem Bd {m:MF} (he:DF X e m):DSt X (.Return (some e) pos) (Ah m):=fun f hf=>PS.imp (GX (he f hf)) fun E σ H hh_=>by
 obtain ⟨α,s,o,rs,lo,e,q⟩:=hh_
 obtain ⟨r,h1,rfl⟩:=Ag e
 exact ⟨α,s,r,rs,lo,h1,fun α' a vs H' rs' l' x ha hx=>q α' σ a vs H' rs' l' x ha hx⟩
@[simp] def mIf (c:MT) (m n:MS):MS:=fun s=>(c s).bind fun b=>if b.1=true then m b.2 else n b.2
theorem CW {c:Expr} {mc:MT} {a b:List Stmt} (hc:DT X c mc) (ha:DSs X a m) (hb:DSs X b n):DSt X (.If c a b pos) (mIf mc m n):=fun f hf=>PS.imp (NX (hc f hf) (ha f hf) (hb f hf)) fun E σ H hh_=>by
 obtain ⟨α,s,o,rs,lo,e,q⟩:=hh_
 obtain ⟨k,h1,e⟩:=bind_some e
 refine ⟨α,s,k,rs,lo,h1,fun α' H' rs' l' x=>?_⟩
 split at e
 ·rename_i c
  rw[if_pos c]
  exact ⟨α',k.2,o,rs',lo_le lo l' x,e,q.ext l' x⟩
 ·rename_i c
  rw[if_neg c]
  exact ⟨α',k.2,o,rs',lo_le lo l' x,e,q.ext l' x⟩
@[simp] def AS (i:Nat) (m:ME):MS:=fun s=>(m s).map fun r=>.nx {r.2 with σ:=r.2.σ.set i (some r.1)}
theorem A0 {i:Nat} {tg:Expr} {m:ME} (h:∀ te,PE X e te->PS X (.Assign [tg] e pos) (JQ te (DJ i))) (he:DE X e m):DSt X (.Assign [tg] e pos) (AS i m):=fun f hf=>PS.imp (h _ (he f hf)) fun E σ H hh_=>by
 obtain ⟨α,s,o,rs,lo,e,q⟩:=hh_
 obtain ⟨r,h1,rfl⟩:=Ag e
 exact ⟨α,s,r,rs,lo,h1,fun α' v H' rs' l' x hv=>q α' _ H' (rs'.set hv) l' x⟩
@[simp] def BB (i:Nat) (m:MF):MS:=fun s=>(m s).map fun r=>.nx {r.2 with σ:=r.2.σ.set i (some (.b r.2.Γ.length)),Γ:=r.2.Γ++[some r.1]}
theorem Cm {i:Nat} {tg:Expr} {m:MF} (h:∀ te,PE X e te->PS X (.Assign [tg] e pos) (JQ te (DJ i))) (he:DF X e m):DSt X (.Assign [tg] e pos) (BB i m):=fun f hf=>PS.imp (h _ (he f hf)) fun E σ H hh_=>by
 obtain ⟨α,s,o,rs,lo,e,q⟩:=hh_
 obtain ⟨r,h1,rfl⟩:=Ag e
 refine ⟨α,s,r,rs,lo,h1,fun α' a vs H' rs' l' x ha hx=>?_⟩
 have x2:=Ext.add (xs:=r.1) (o:=.lst vs) rs' ha
 refine q (CG α' r.2.Γ.length a) _ _ (RS.set (rs'.add (lo_le lo l' x) ha hx) (d:=.b r.2.Γ.length) ⟨by show r.2.Γ.length<(r.2.Γ++[some r.1]).length;rw[List.length_append];simp,by unfold CG;rw[if_pos rfl]⟩) l' (x.trans x2)
@[simp] def JY (σ:List (Option SV)):List Nat->List D->List (Option SV)
 | i::is,d::ds=>JY (σ.set i (some (.v d))) is ds
 | _,_=>σ
abbrev MG:=D->DS->Option DS
def IT:List Nat->TGs
 | []=>Ox
 | i::is=>M3 (DJ i) (IT is)
def tDG (f:Fr) (m:MG):TG:=fun v σ H Q=>∃ α s d s',RS f α s σ H/\s.lo<=s.Γ.length/\Rep (wd f α s.Γ H) d v/\m d s=some s'/\∀ σ',RS f α s' σ' H->s'.lo=s.lo->s'.Γ=s.Γ->Q σ' H
def DG (X:Cx) (tg:Expr) (m:MG):Prop:=∀ f:Fr,f.K=X.K->PG X tg (tDG f m)
theorem PG.imp {tg:Expr} {t t':TG} (h:PG X tg t) (k:∀ v σ H Q,t' v σ H Q->t v σ H Q):PG X tg t':=fun pins s σ H v u Q I r q=>h pins s σ H v u Q I r (k _ _ _ _ q)
@[simp] def AZ (i:Nat):MG:=fun d s=>some {s with σ:=s.σ.set i (some (.v d))}
theorem Bf {i:Nat} {tg:Expr} (h:PG X tg (DJ i)):DG X tg (AZ i):=fun f hf=>PG.imp h fun v σ H Q hh_=>by
 obtain ⟨α,s,d,s',rs,lo,hd,e,q⟩:=hh_
 cases e
 exact q _ (rs.set (d:=.v d) hd) rfl rfl
@[simp] def BX (is:List Nat):MG:=fun d s=>match d with
 | .tup xs=>if xs.length=is.length then some {s with σ:=JY s.σ is xs} else none
 | _=>none
theorem PL {H:Hp} {Q:St->Hp->Prop}:∀ {is:List Nat} {xs:List D} {vs:List V} {s:DS} {σ:St},RS f α s σ H->Reps (wd f α s.Γ H) xs vs->xs.length=is.length->(∀ σ',RS f α {s with σ:=JY s.σ is xs} σ' H->Q σ' H)->IT is vs σ H Q
 | [],xs,vs,s,σ,rs,hx,hl,q=>by
  have:xs=[]:=List.eq_nil_of_length_eq_zero hl
  subst this
  exact ⟨hx.nil_inv,q σ rs⟩
 | i::is,[],vs,s,σ,rs,hx,hl,q=>by cases hl
 | i::is,x::xs,vs,s,σ,rs,hx,hl,q=>by
  obtain ⟨v,r,rfl,h1,h2⟩:=hx.cons_inv
  exact ⟨v,r,rfl,PL (rs.set (i:=i) (d:=.v x) (v:=v) h1) h2 (Nat.succ.inj hl) q⟩
theorem EA {is:List Nat} {tg:Expr} {n:Nat} (hn:is.length=n) (h:PG X tg (Cf X.K n (IT is))):DG X tg (BX is):=fun f hf=>PG.imp h fun v σ H Q hh_=>by
 obtain ⟨α,s,d,s',rs,lo,hd,e,q⟩:=hh_
 unfold BX at e
 split at e
 ·rename_i xs
  split at e
  ·rename_i hl
   cases e
   unfold Rep at hd
   obtain ⟨a,vs,rfl,_,h1,h2⟩:=hd
   exact ⟨a,vs,rfl,SqT.of h1,by rw[h2.len,hl,hn],PL rs h2 hl fun σ' r=>q σ' r rfl rfl⟩
  ·cases e
 ·cases e
structure DIt (f:Fr) (J:It) (items:List D) (α0:Nat->Addr) (Γ0:Gm) (H0:Hp):Prop where
 go:∀ i α s σ H Hh,i<items.length->RS f α s σ H->Ext f α0 α Γ0 s.Γ H0 H->(∀ a o,H a=some o->Hh a=some o)->J.go i Hh
 yl:∀ i d x α s σ H Hh H',items[i]?=some d->RS f α s σ H->Ext f α0 α Γ0 s.Γ H0 H->(∀ a o,H a=some o->Hh a=some o)->J.yld i Hh x H' ->
  (H'=Hh/\Rep (wd f α s.Γ H) d x)\/∃ T o,Hh T=none/\H'=upd Hh T o/\Rep (wd f α s.Γ (upd H T o)) d x
 stop:∀ α s σ H Hh,RS f α s σ H->Ext f α0 α Γ0 s.Γ H0 H->(∀ a o,H a=some o->Hh a=some o)->J.stop items.length Hh
def tDI (f:Fr) (m:MF):TI:=fun σ H R=>∃ α s r,RS f α s σ H/\s.lo<=s.Γ.length/\m s=some r/\∀ J α' H',RS f α' r.2 σ H'->r.2.lo=s.lo->Ext f α α' s.Γ r.2.Γ H H'->DIt f J r.1 α' r.2.Γ H'->R J H'
def DI (X:Cx) (tg src:Expr) (m:MF):Prop:=∀ f:Fr,f.K=X.K->PI X tg src (tDI f m)
def C1 (g:MG) (b:MS):List D->DS->Option Out
 | [],s=>some (.nx s)
 | d::r,s=>(g d s).bind fun s1=>(b s1).bind fun o=>match o with
  | .nx s2=>C1 g b r s2
  | .ct s2=>C1 g b r s2
  | .bk s2=>some (.nx s2)
  | .rt d s2=>some (.rt d s2)
  | .rf d s2=>some (.rf d s2)
  | .rp xs d s2=>some (.rp xs d s2)
@[simp] def BP (mi:MF) (g:MG) (b:MS):MS:=fun s=>(mi s).bind fun r=>C1 g b r.1 r.2
theorem Co {tg iter:Expr} {body:List Stmt} {mi:MF} {g:MG} {b:MS} (hp:PassesOwn (model X.prog X.w) X.A X.env X.xe) (hc:X.calm=true) (hi:DI X tg iter mi) (hg:DG X tg g) (hb:DSs X body b)
  (hs:∀ x,foldedSetIterable iter X.env x=pure x:=by intro _;rfl):DSt X (.For tg iter body [] pos) (BP mi g b):=fun f hf=>PS.imp (Jj hp hc (hi f hf) (hg f hf) (hb f hf) hs) fun E σ H hh_=>by
 obtain ⟨α,s,o,rs,lo,e,q⟩:=hh_
 obtain ⟨⟨items,s1⟩,h1,e⟩:=bind_some e
 refine ⟨α,s,_,rs,lo,h1,fun J α1 H1 rs1 l1 x1 it=>?_⟩
 refine NQ items.length (fun i σ H=>∃ αi si,RS f αi si σ H/\si.lo=s1.lo/\Ext f α1 αi s1.Γ si.Γ H1 H/\C1 g b (items.drop i) si=some o) ⟨α1,s1,rs1,rfl,.refl,e⟩ ?_ ?_ ?_ ?_
 ·rintro i σ2 H2 hi ⟨αi,si,ri,li,xi,ei⟩
  exact it.go i αi si σ2 H2 H2 hi ri xi fun _ _ h=>h
 ·rintro σ2 H2 ⟨αi,si,ri,li,xi,ei⟩
  exact it.stop αi si σ2 H2 H2 ri xi fun _ _ h=>h
 ·rintro i x σ2 H2 H3 hi ⟨αi,si,ri,li,xi,ei⟩ y
  have hd:items[i]?=some items[i]:=List.getElem?_eq_getElem hi
  rw[List.drop_eq_getElem_cons hi] at ei
  obtain ⟨s2,g2,ei⟩:=bind_some ei
  obtain ⟨o2,b2,ei⟩:=bind_some ei
  have fin:∀ {H3},RS f αi si σ2 H3->Ext f αi αi si.Γ si.Γ H2 H3->Rep (wd f αi si.Γ H3) items[i] x->tDG f g x σ2 H3 fun σ4 H4=>tDS f b {E with nx:=fun σ H=>∃ αi si,RS f αi si σ H/\si.lo=s1.lo/\Ext f α1 αi s1.Γ si.Γ H1 H/\C1 g b (items.drop (i+1)) si=some o,ct:=fun σ H=>∃ αi si,RS f αi si σ H/\si.lo=s1.lo/\Ext f α1 αi s1.Γ si.Γ H1 H/\C1 g b (items.drop (i+1)) si=some o,bk:=E.nx} σ4 H4:=fun {H3} r3 x3 hr=>by
   refine ⟨αi,si,_,s2,r3,by rw[li];exact Nat.le_trans (lo_le lo l1 x1) xi.m,hr,g2,fun σ4 r4 l4 G4=>⟨αi,s2,o2,r4,by rw[l4,li,G4];exact Nat.le_trans (lo_le lo l1 x1) xi.m,b2,?_⟩⟩
   have x13:Ext f α1 αi s1.Γ s2.Γ H1 H3:=by rw[G4];exact xi.trans x3
   cases o2 with
   | nx s5=>exact fun α5 σ5 H5 r5 l5 x5=>⟨α5,s5,r5,l5.trans (l4.trans li),x13.trans x5,ei⟩
   | ct s5=>exact fun α5 σ5 H5 r5 l5 x5=>⟨α5,s5,r5,l5.trans (l4.trans li),x13.trans x5,ei⟩
   | bk s5=>cases ei;exact fun α5 σ5 H5 r5 l5 x5=>q α5 σ5 H5 r5 (l5.trans (l4.trans (li.trans l1))) (x1.trans (x13.trans x5))
   | rt d s5=>cases ei;exact fun α5 σ5 v H5 r5 l5 x5 w=>q α5 σ5 v H5 r5 (l5.trans (l4.trans (li.trans l1))) (x1.trans (x13.trans x5)) w
   | rf d s5=>cases ei;exact fun α5 σ5 a vs H5 r5 l5 x5 w y=>q α5 σ5 a vs H5 r5 (l5.trans (l4.trans (li.trans l1))) (x1.trans (x13.trans x5)) w y
   | rp xs d s5=>cases ei;exact fun α5 σ5 a t vs w H5 r5 l5 x5=>q α5 σ5 a t vs w H5 r5 (l5.trans (l4.trans (li.trans l1))) (x1.trans (x13.trans x5))
  rcases it.yl i _ x αi si σ2 H2 H2 H3 hd ri xi (fun _ _ h=>h) y with ⟨rfl,hr⟩ | ⟨T,u,hT,rfl,hr⟩
  ·exact fin ri .refl hr
  ·exact fin (ri.new hT) (.new ri hT) hr
 ·rintro σ2 H2 ⟨αi,si,ri,li,xi,ei⟩
  rw[List.drop_length] at ei
  cases ei
  exact q αi σ2 H2 ri (li.trans l1) (x1.trans xi)
end
def xD (K:PySem.W.Frag) (m:ME):TE:=fun σ H Q=>∃ f:Fr,f.K=K/\tD f m σ H Q
def xT (K:PySem.W.Frag) (m:MT):TT:=fun σ H Q=>∃ f:Fr,f.K=K/\tDT f m σ H Q
def xG (K:PySem.W.Frag) (m:MG):TG:=fun v σ H Q=>∃ f:Fr,f.K=K/\tDG f m v σ H Q
theorem DE.x {X:Cx} {e:Expr} {m:ME} (h:DE X e m):PE X e (xD X.K m):=fun pins s σ H Q I ⟨f,hf,q⟩=>h f hf pins s σ H Q I q
theorem DG.x {X:Cx} {e:Expr} {m:MG} (h:DG X e m):PG X e (xG X.K m):=fun pins s σ H v u Q I r ⟨f,hf,q⟩=>h f hf pins s σ H v u Q I r q
def DTs (X:Cx) (tests:List Expr) (m:MT):Prop:=∀ f:Fr,f.K=X.K->PTs X tests (tDT f m)
theorem DTs.x {X:Cx} {e:List Expr} {m:MT} (h:DTs X e m):PTs X e (xT X.K m):=fun pins s σ H Q I ⟨f,hf,q⟩=>h f hf pins s σ H Q I q
@[simp] def mTT:MT:=fun s=>some (true,s)
theorem B5 {X:Cx}:DTs X [] mTT:=fun f hf pins s σ H Q I hh_=>by
 obtain ⟨α,s',r,rs,lo,e,q⟩:=hh_
 cases e
 exact Gs pins s σ H Q I (q α H rs rfl .refl)
theorem U8 {X:Cx} {c:Expr} {m:MT} (h:DT X c m):DTs X [c] m:=fun f hf=>QV (h f hf)
def Au (g:MG) (t:MT) (e:ME):List D->List (Option SV)->Gm->Option (List D×Gm)
 | [],_,Γ=>some ([],Γ)
 | d::r,τ,Γ=>(g d ⟨τ,Γ,Γ.length⟩).bind fun s1=>(t s1).bind fun b=>
  if b.1=true then (e b.2).bind fun x=>match x.1 with
   | .v y=>if x.2.Γ.length=Γ.length then (Au g t e r x.2.σ x.2.Γ).map fun q=>(y::q.1,q.2) else none
   | _=>none
  else if b.2.Γ.length=Γ.length then Au g t e r b.2.σ b.2.Γ else none
@[simp] def EB (nt:Nat) (ix:List Nat) (σ:List (Option SV)):List (Option SV):=List.replicate nt none++ix.map fun k=>(σ[k]?).join
@[simp] def Aw (mi:MF) (nt:Nat) (ix:List Nat) (g:MG) (t:MT) (e:ME):MF:=fun s=>(mi s).bind fun r=>
 if r.1.length<=big then (Au g t e r.1 (EB nt ix r.2.σ) r.2.Γ).map fun q=>(q.1,{r.2 with Γ:=q.2}) else none
section
variable {f:Fr} {α α':Nat->Addr} {s s':DS} {σ σ':St} {H H' Hh H1:Hp} {X:Cx} {pos:Pos}
theorem take_all {Γ:Gm} {n:Nat} (h:Γ.length=n):Γ.take n=Γ:=by rw[<-h];exact List.take_length
theorem NH (rs:RS f α s σ H) (nt:Nat) (ix:List Nat):(EB nt ix s.σ).length=(cSt nt ix σ).length/\∀ (i:Nat) (d:SV),(EB nt ix s.σ)[i]?=some (some d)->∃ v,(cSt nt ix σ)[i]?=some (some v)/\RepV f α s.Γ H d v:=by
 unfold EB cSt
 refine ⟨by simp,fun i d h=>?_⟩
 by_cases c:i<nt
 ·rw[List.getElem?_append_left (by simpa using c)] at h
  simp[c] at h
 ·rw[List.getElem?_append_right (by simpa using c)] at h ⊢
  simp only[List.length_replicate,List.getElem?_map] at h ⊢
  cases e:ix[i - nt]? with
  | none=>rw[e] at h;cases h
  | some k=>
   rw[e] at h
   simp only[Option.map_some] at h ⊢
   have hk:s.σ[k]?=some (some d):=by
    cases hz:s.σ[k]? with
    | none=>rw[hz] at h;cases h
    | some o=>rw[hz] at h;exact congrArg some (Option.some.inj h)
   obtain ⟨v,h1,h2⟩:=rs.slot k d hk
   exact ⟨v,by rw[h1];rfl,h2⟩
inductive CI (f:Fr) (α1:Nat->Addr) (s1:DS) (σ:St) (H1:Hp) (g:MG) (t:MT) (e:ME) (items ys:List D) (Γ':Gm) (l:Addr) (i:Nat) (τ':St) (Hi:Hp):Prop
 | mk (αi:Nat->Addr) (Γi:Gm) (τ:List (Option SV)) (H2:Hp) (acc:List D) (vs:List V) (rest:List D):Hi=upd H2 l (.lst vs)->H2 l=none->RS f αi {s1 with Γ:=Γi} σ H2->Ext f α1 αi s1.Γ Γi H1 H2->Γi.length=s1.Γ.length->Reps (wd f αi Γi H2) acc vs->acc.length<=i ->
   τ.length=τ'.length->(∀ (j:Nat) (d:SV),τ[j]?=some (some d)->∃ v,τ'[j]?=some (some v)/\RepV f αi Γi H2 d v)->Au g t e (items.drop i) τ Γi=some (rest,Γ')->ys=acc++rest->CI f α1 s1 σ H1 g t e items ys Γ' l i τ' Hi
theorem LJ {mi:MF} {nt:Nat} {ix:List Nat} {g:MG} {t:MT} {e:ME} {Q:VK} (h:tDF f (Aw mi nt ix g t e) σ H Q):J1 (tDI f mi) nt ix (xG f.K g) (xT f.K t) (xD f.K e) σ H Q:=by
 obtain ⟨α,s,r,rs,lo,e0,q⟩:=h
 obtain ⟨⟨items,s1⟩,h1,e0⟩:=bind_some e0
 split at e0
 case isFalse=>cases e0
 rename_i hbig
 obtain ⟨⟨ys,Γ'⟩,h2,rfl⟩:=Ag e0
 refine ⟨α,s,_,rs,lo,h1,fun J α1 H1 rs1 l1 x1 it l hl=>?_⟩
 refine HI items.length (fun i τ' Hi=>CI f α1 s1 σ H1 g t e items ys Γ' l i τ' Hi) ?_ ?_ ?_ ?_ ?_
 ·exact ⟨α1,s1.Γ,EB nt ix s1.σ,H1,[],[],ys,rfl,hl,rs1,.refl,rfl,.nil,Nat.le_refl _,(NH rs1 nt ix).1,(NH rs1 nt ix).2,h2,rfl⟩
 ·rintro i τ' Hi hi ⟨αi,Γi,τ,H2,acc,vs,rest,rfl,hl2,ri,xi,lenΓ,hacc,hai,hτl,hτ,hgo,hys⟩
  exact it.go i αi _ σ H2 _ hi ri xi fun a o h=>by rw[AJ (As h hl2)];exact h
 ·rintro τ' Hi ⟨αi,Γi,τ,H2,acc,vs,rest,rfl,hl2,ri,xi,lenΓ,hacc,hai,hτl,hτ,hgo,hys⟩
  exact it.stop αi _ σ H2 _ ri xi fun a o h=>by rw[AJ (As h hl2)];exact h
 ·rintro i x τ' Hi H3 hi ⟨αi,Γi,τ,H2,acc,vs,rest,rfl,hl2,ri,xi,lenΓ,hacc,hai,hτl,hτ,hgo,hys⟩ y
  have hd:items[i]?=some items[i]:=List.getElem?_eq_getElem hi
  rw[List.drop_eq_getElem_cons hi] at hgo
  obtain ⟨s2,g2,hgo⟩:=bind_some hgo
  obtain ⟨b,t2,hgo⟩:=bind_some hgo
  have fin:∀ {H2':Hp},H2' l=none->RS f αi {s1 with Γ:=Γi} σ H2'->Ext f αi αi Γi Γi H2 H2'->Rep (wd f αi Γi H2') items[i] x ->
    xG f.K g x τ' (upd H2' l (.lst vs)) fun σ2 H2=>xT f.K t σ2 H2 fun b H3=>if b=true then xD f.K e σ2 H3 fun v H4=>∃ xs,H4 l=some (.lst xs)/\xs.length<sizeLine/\CI f α1 s1 σ H1 g t e items ys Γ' l (i+1) σ2 (upd H4 l (.lst (xs++[v]))) else CI f α1 s1 σ H1 g t e items ys Γ' l (i+1) σ2 H3:=fun {H2'} hl2' ri' x2' hr=>by
   have ov:Over (fun a=>a=l) H2' (upd H2' l (.lst vs)):=⟨fun a h=>AJ h,fun a h=>by rw[h];exact hl2',fun a h=>by rw[h,Am];exact fun z=>nomatch z⟩
   have en:=ri'.enter ov hτl fun j d h=>let ⟨v,a,b⟩:=hτ j d h;⟨v,a,b.ext x2'⟩
   have back:∀ {s5:DS} {α5:Nat->Addr} {σ5:St} {H5:Hp},RS (inn f αi Γi (fun a=>a=l) (upd H2' l (.lst vs)) (Bi ri' ov)) α5 s5 σ5 H5->s5.lo=Γi.length->Ext (inn f αi Γi (fun a=>a=l) (upd H2' l (.lst vs)) (Bi ri' ov)) αi α5 Γi s5.Γ (upd H2' l (.lst vs)) H5->s5.Γ.length=Γi.length ->
     H5 l=some (.lst vs)/\RS f α5 {s1 with Γ:=s5.Γ} σ (del H5 l)/\Ext f α1 α5 s1.Γ s5.Γ H1 (del H5 l)/\Reps (wd f α5 s5.Γ (del H5 l)) acc vs/\(∀ (j:Nat) (d:SV),s5.σ[j]?=some (some d)->∃ v,σ5[j]?=some (some v)/\RepV f α5 s5.Γ (del H5 l) d v) /\
     ∀ d v,Rep (wd (inn f αi Γi (fun a=>a=l) (upd H2' l (.lst vs)) (Bi ri' ov)) α5 s5.Γ H5) d v->Rep (wd f α5 s5.Γ (del H5 l)) d v:=fun {s5 α5 σ5 H5} r5 l5 x5 len5=>by
    obtain ⟨lv1,lv2,lv3⟩:=ri'.leave ov r5 l5 x5 (H1:=del H5 l) fun a h=>D9 h
    have tk:s5.Γ.take Γi.length=s5.Γ:=take_all len5
    simp only at lv1 lv2 lv3
    rw[tk] at lv1 lv2 lv3
    refine ⟨r5.fr l _ Am fun ⟨n,xs,e1,e2⟩=>?_,lv1,(xi.trans x2').trans lv2,(hacc.kw x2'.kw).kw lv2.kw,fun j d h=>?_,fun d v h=>h.kw lv3⟩
    ·obtain ⟨us,z,_⟩:=ri'.box n xs e1
     rw[e2,hl2'] at z
     cases z
    ·obtain ⟨v,a,b⟩:=r5.slot j d h
     refine ⟨v,a,?_⟩
     cases d with
     | v d=>exact Rep.kw lv3 (show Rep _ d v from b)
     | b n=>exact b
     | p n d=>
      obtain ⟨h0,a',w,h1,h2,h3,h4⟩:=b
      obtain ⟨k1,k2⟩:=lv3.keep a' _ h2 h3
      exact ⟨h0,a',w,h1,k2,k1,h4.kw lv3⟩
   refine ⟨(inn f αi Γi (fun a=>a=l) (upd H2' l (.lst vs)) (Bi ri' ov)),rfl,αi,_,_,s2,en,Nat.le_refl _,Rep.kw (Ff ri' ov) hr,g2,fun σ2 r2 l2 G2=>?_⟩
   refine ⟨(inn f αi Γi (fun a=>a=l) (upd H2' l (.lst vs)) (Bi ri' ov)),rfl,αi,s2,b,r2,by rw[l2,G2];exact Nat.le_refl _,t2,fun α3 H3 r3 l3 x3=>?_⟩
   have x3':Ext (inn f αi Γi (fun a=>a=l) (upd H2' l (.lst vs)) (Bi ri' ov)) αi α3 Γi b.2.Γ (upd H2' l (.lst vs)) H3:=by
    have z:=x3
    rw[G2] at z
    exact z
   split at hgo
   ·rename_i cb
    dsimp only
    rw[if_pos cb]
    obtain ⟨⟨xv,s4⟩,e4,hgo⟩:=bind_some hgo
    refine ⟨(inn f αi Γi (fun a=>a=l) (upd H2' l (.lst vs)) (Bi ri' ov)),rfl,α3,b.2,_,r3,by rw[l3,l2];exact x3'.m,e4,fun α4 v H4 r4 l4 x4 hv=>?_⟩
    cases xv with
    | b n=>cases hgo
    | p n d=>cases hgo
    | v yv=>
     simp only at hgo
     split at hgo
     case isFalse=>cases hgo
     rename_i len4
     obtain ⟨⟨rest2,_⟩,h5,e5⟩:=Ag hgo
     cases e5
     obtain ⟨b1,b2,b3,b4,b5,b6⟩:=back r4 (l4.trans (l3.trans l2)) (x3'.trans x4) len4
     refine ⟨vs,b1,Nat.lt_of_le_of_lt (by rw[hacc.len];exact Nat.le_of_lt (Nat.lt_of_le_of_lt hai hi)) (Wb hbig),α4,s4.Γ,s4.σ,del H4 l,acc++[yv],vs++[v],rest2,?_,J4,b2,b3,len4.trans lenΓ,b4.append (.cons (b6 _ _ hv) .nil),by rw[List.length_append];simpa using hai,r4.len,b5,h5,by rw[hys];simp⟩
     funext a
     by_cases z:a=l
     ·rw[z,Am,Am]
     ·rw[AJ z,AJ z,D9 z]
   ·rename_i cb
    dsimp only
    rw[if_neg cb]
    split at hgo
    case isFalse=>cases hgo
    rename_i len4
    obtain ⟨b1,b2,b3,b4,b5,b6⟩:=back r3 (l3.trans l2) x3' len4
    exact ⟨α3,b.2.Γ,b.2.σ,del H3 l,acc,vs,rest,(Np b1).symm,J4,b2,b3,len4.trans lenΓ,b4,Nat.le_succ_of_le hai,r3.len,b5,hgo,hys⟩
  rcases it.yl i _ x αi _ σ H2 _ H3 hd ri xi (fun a o h=>by rw[AJ (As h hl2)];exact h) y with ⟨rfl,hr⟩ | ⟨T,u,hT,rfl,hr⟩
  ·exact fin hl2 ri .refl hr
  ·have lT:l≠T:=fun z=>by rw[<-z,Am] at hT;cases hT
   have hT2:H2 T=none:=by rw[AJ (Ne.symm lT)] at hT;exact hT
   have z:=fin (H2':=upd H2 T u) (by rw[AJ lT];exact hl2) (ri.new hT2) (.new ri hT2) hr
   have e2:upd (upd H2 l (.lst vs)) T u=upd (upd H2 T u) l (.lst vs):=by
    funext a
    by_cases z1:a=T
    ·rw[z1,Am,AJ (Ne.symm lT),Am]
    ·by_cases z2:a=l
     ·rw[z2,AJ lT,Am,Am]
     ·rw[AJ z1,AJ z2,AJ z2,AJ z1]
   rw[e2]
   exact z
 ·rintro τ' Hi ⟨αi,Γi,τ,H2,acc,vs,rest,rfl,hl2,ri,xi,lenΓ,hacc,hai,hτl,hτ,hgo,hys⟩
  rw[List.drop_length] at hgo
  cases hgo
  rw[List.append_nil] at hys
  subst hys
  exact q αi l vs H2 ri l1 (x1.trans xi) hl2 hacc
theorem CB {elt tg src:Expr} {tests:List Expr} {sc esc:Scope} {cp:Pos} {N tn fn:List Str} {ix:List Nat} {mi:MF} {g:MG} {t:MT} {e:ME} (hc:X.calm=true) (hsc:X.env.scope=esc) (hN:X.N=N) (ok:CompOk sc esc N fn ix) (hi:DI X tg src mi)
  (hg:∀ s2 H2 cl C fp,DG (BK X (tn++fn) sc s2 H2 cl C fp) tg g)
  (ht:∀ s2 H2 cl C fp,DTs (BK X (tn++fn) sc s2 H2 cl C fp) tests t)
  (he:∀ s2 H2 cl C fp,DE (BK X (tn++fn) sc s2 H2 cl C fp) elt e)
  (hs:∀ x,foldedSetIterable src X.env x=pure x:=by intro _;rfl):DF X (.ListComp elt [⟨tg,src,tests,0⟩] sc cp) (Aw mi tn.length ix g t e):=fun f hf=>
 PE.imp (Hu (g:=xG X.K g) (tc:=xT X.K t) (te:=xD X.K e) hc hsc hN ok (hi f hf) (fun s2 H2 cl C fp=>(hg s2 H2 cl C fp).x) (fun s2 H2 cl C fp=>(ht s2 H2 cl C fp).x) (fun s2 H2 cl C fp=>(he s2 H2 cl C fp).x) hs) fun σ H Q h=>by
  rw[<-hf]
  exact LJ h
theorem Ku {i:Nat} {y:Str} {py sp:Pos} {elt tg src:Expr} {tests:List Expr} {sc esc:Scope} {cp:Pos} {N tn fn:List Str} {ix:List Nat} {mi:MF} {g:MG} {t:MT} {e:ME} (hnd:X.N.Nodup) (hiy:X.N[i]?=some y) (hy:X.env.scope.names.lookup y=some .local) (hc:X.calm=true) (hsc:X.env.scope=esc) (hN:X.N=N) (ok:CompOk sc esc N fn ix) (hi:DI X tg src mi)
  (hg:∀ s2 H2 cl C fp,DG (BK X (tn++fn) sc s2 H2 cl C fp) tg g)
  (ht:∀ s2 H2 cl C fp,DTs (BK X (tn++fn) sc s2 H2 cl C fp) tests t)
  (he:∀ s2 H2 cl C fp,DE (BK X (tn++fn) sc s2 H2 cl C fp) elt e)
  (hsw:swapsWith (.ListComp elt [⟨tg,src,tests,0⟩] sc cp) (some (.Name y py)) sp.line X.env=pure true:=by rfl)
  (hs:∀ x,foldedSetIterable src X.env x=pure x:=by intro _;rfl):DSt X (.Assign [.Name y py] (.ListComp elt [⟨tg,src,tests,0⟩] sc cp) sp) (AS i (AH (Aw mi tn.length ix g t e))):=fun f hf=>
 PS.imp (XU (g:=xG X.K g) (tc:=xT X.K t) (te:=xD X.K e) hnd hiy hy hc hsc hN ok (hi f hf) (fun s2 H2 cl C fp=>(hg s2 H2 cl C fp).x) (fun s2 H2 cl C fp=>(ht s2 H2 cl C fp).x) (fun s2 H2 cl C fp=>(he s2 H2 cl C fp).x) hsw hs) fun E σ H hh_=>by
  obtain ⟨α,s,o,rs,lo,e0,q⟩:=hh_
  rw[<-hf]
  obtain ⟨r,h1,rfl⟩:=Ag e0
  obtain ⟨r2,h2,rfl⟩:=Ag h1
  exact LJ ⟨α,s,r2,rs,lo,h2,fun α' a vs H' rs' l' x ha hx=>q α' _ _ ((rs'.new ha).set (d:=.v (.lst r2.1)) (Ez rs' ha hx)) l' (x.trans (.new rs' ha))⟩
end
abbrev MD:=List SV->Gm->Option (D×Gm)
abbrev MDF:=List SV->Gm->Option (List D×Gm)
def spD (K:PySem.W.Frag) (np:Nat) (M:MD):Sp:=fun vs H Q _=>∃ (f:Fr) (α:Nat->Addr) (s:DS) (σ:St) (ds:List SV) (r:D×Gm),f.K=K/\ds.length=np/\RS f α s σ H/\RepVs f α s.Γ H ds vs/\M ds s.Γ=some r /\
 ∀ α' v H',RS f α' {s with Γ:=r.2} σ H'->Ext f α α' s.Γ r.2 H H'->Rep (wd f α' r.2 H') r.1 v->Q v H'
def spF (K:PySem.W.Frag) (np:Nat) (M:MDF):Sp:=fun vs H Q _=>∃ (f:Fr) (α:Nat->Addr) (s:DS) (σ:St) (ds:List SV) (r:List D×Gm),f.K=K/\ds.length=np/\RS f α s σ H/\RepVs f α s.Γ H ds vs/\M ds s.Γ=some r /\
 ∀ α' a vs H',RS f α' {s with Γ:=r.2} σ H'->Ext f α α' s.Γ r.2 H H'->H' a=none->Reps (wd f α' r.2 H') r.1 vs->Q (.ref a) (upd H' a (.lst vs))
@[simp] def D0 (n:Nat) (ds:List SV):List (Option SV):=ds.map some++List.replicate (n - ds.length) none
@[simp] def mFn (n:Nat) (m:MS):MD:=fun ds Γ=>(m ⟨D0 n ds,Γ,Γ.length⟩).bind fun o=>match o with
 | .rt d s=>some (d,s.Γ.take Γ.length)
 | .rf xs s=>some (.lst xs,s.Γ.take Γ.length)
 | .rp xs d s=>some (.tup [.lst xs,d],s.Γ.take Γ.length)
 | .nx s=>some (.non,s.Γ.take Γ.length)
 | .bk _=>none
 | .ct _=>none
@[simp] def AU (n:Nat) (m:MS):MDF:=fun ds Γ=>(m ⟨D0 n ds,Γ,Γ.length⟩).bind fun o=>match o with
 | .rf xs s=>some (xs,s.Γ.take Γ.length)
 | _=>none
section
variable {P:Program} {w:World} {K:PySem.W.Frag} {mg:Str->Option Value} {base:Heap} {f:Fr} {α α':Nat->Addr} {s s':DS} {σ σ':St} {H H':Hp} {X:Cx} {pos:Pos}
theorem Ug {ds:List SV} {vs:List V}:RepVs f α s.Γ H ds vs->∀ (i:Nat) (d:SV),(ds.map some)[i]?=some (some d)->∃ v,(vs.map some)[i]?=some (some v)/\RepV f α s.Γ H d v:=by
 induction ds generalizing vs with
 | nil=>intro _ i d h;cases h
 | cons c ds ih=>
  intro h i d hi
  obtain ⟨v,r,rfl,h1,h2⟩:=h.cons_inv
  cases i with
  | zero=>cases hi;exact ⟨v,rfl,h1⟩
  | succ i=>exact ih h2 i d hi
theorem DU:Over (fun _=>False) H H:=⟨fun _ _=>rfl,fun _ h=>h.elim,fun _ h=>h.elim⟩
theorem Kb {N:List Str} {ds:List SV} {vs:List V} (rs:RS f α s σ H) (h:RepVs f α s.Γ H ds vs):RS (inn f α s.Γ (fun _=>False) H (Bi rs DU)) α ⟨D0 N.length ds,s.Γ,s.Γ.length⟩ (L2.start N vs) H:=by
 have hl:=h.len
 refine rs.enter DU (by unfold D0 L2.start;simp[hl]) fun i d e=>?_
 unfold D0 at e
 unfold L2.start
 by_cases c:i<ds.length
 ·rw[List.getElem?_append_left (by simpa using c)] at e
  rw[List.getElem?_append_left (by rw[List.length_map,hl];exact c)]
  exact Ug h i d e
 ·rw[List.getElem?_append_right (by simpa using c)] at e
  rw[List.getElem?_replicate] at e
  split at e<;>cases e
theorem DC {x qual:Str} {st:Stmt} {fa:Addr} {fd:FuncData} {N ps:List Str} {k:Nat} {m:MS} (F:Fun K x qual st fa fd) (S:FnScope N ps (AY st))
  (hb:∀ (cdv:Value) (A:Around) (outer:List Env) (s:Shared) (H:Hp) (E:XK),Room k (A.deeper (PyProof.Rows.envOfC qual (AY st) s.heap.objs.size fa cdv))->DSs (Di CX0 P w K mg base N qual (AY st) fa cdv A outer s H E).nox (C2 st) m) :
  FnOk P w K mg base CX0 (k+1) fa fd ps (spD K ps.length (mFn N.length m)):=by
 refine F.ok S (fun vs H Q E h=>?_) (fun cdv A outer sh H vs Q E hr h=>?_)
 ·obtain ⟨f,α,s,σ,ds,r,_,hl,_,hv,_⟩:=h
  rw[hv.len,hl]
 obtain ⟨f,α,s,σ,ds,r,hK,hl,rs,hv,hM,q⟩:=h
 obtain ⟨o,h1,h2⟩:=bind_some hM
 refine ⟨_,hb cdv A outer sh H E hr (inn f α s.Γ (fun _=>False) H (Bi rs DU)) hK,α,_,o,Kb rs hv,Nat.le_refl _,h1,?_⟩
 cases o with
 | bk s'=>cases h2
 | ct s'=>cases h2
 | nx s'=>
  cases h2
  intro α' σ' H' r' l' x'
  obtain ⟨a1,a2,a3⟩:=rs.leave DU r' l' x' (H1:=H') fun _ _=>rfl
  exact q α' .non H' a1 a2 (by unfold Rep;rfl)
 | rt d s'=>
  cases h2
  intro α' σ' v H' r' l' x' hw
  obtain ⟨a1,a2,a3⟩:=rs.leave DU r' l' x' (H1:=H') fun _ _=>rfl
  exact q α' v H' a1 a2 (hw.kw a3)
 | rf xs s'=>
  cases h2
  intro α' σ' a vs' H' r' l' x' ha hx
  obtain ⟨a1,a2,a3⟩:=rs.leave DU r' l' x' (H1:=H') fun _ _=>rfl
  exact q α' _ _ (a1.new ha) (a2.trans (.new a1 ha)) (Ez a1 ha (hx.kw a3))
 | rp xs d s'=>
  cases h2
  intro α' σ' a t vs' w H' r' l' x' ha hx hw ht hta
  obtain ⟨a1,a2,a3⟩:=rs.leave DU r' l' x' (H1:=H') fun _ _=>rfl
  have ht':(upd H' a (.lst vs')) t=none:=by rw[AJ hta];exact ht
  have r1:=a1.new (o:=.lst vs') ha
  have e1:=Ext.new (o:=.lst vs') a1 ha
  exact q α' _ _ (r1.new ht') ((a2.trans e1).trans (.new r1 ht')) (ID r1 ht' (.cons (Ez a1 ha (hx.kw a3)) (.cons ((hw.kw a3).kw e1.kw) .nil)))
theorem Bn {x qual:Str} {st:Stmt} {fa:Addr} {fd:FuncData} {N ps:List Str} {k:Nat} {m:MS} (F:Fun K x qual st fa fd) (S:FnScope N ps (AY st))
  (hb:∀ (cdv:Value) (A:Around) (outer:List Env) (s:Shared) (H:Hp) (E:XK),Room k (A.deeper (PyProof.Rows.envOfC qual (AY st) s.heap.objs.size fa cdv))->DSs (Di CX0 P w K mg base N qual (AY st) fa cdv A outer s H E).nox (C2 st) m) :
  FnOk P w K mg base CX0 (k+1) fa fd ps (spF K ps.length (AU N.length m)):=by
 refine F.ok S (fun vs H Q E h=>?_) (fun cdv A outer sh H vs Q E hr h=>?_)
 ·obtain ⟨f,α,s,σ,ds,r,_,hl,_,hv,_⟩:=h
  rw[hv.len,hl]
 obtain ⟨f,α,s,σ,ds,r,hK,hl,rs,hv,hM,q⟩:=h
 obtain ⟨o,h1,h2⟩:=bind_some hM
 refine ⟨_,hb cdv A outer sh H E hr (inn f α s.Γ (fun _=>False) H (Bi rs DU)) hK,α,_,o,Kb rs hv,Nat.le_refl _,h1,?_⟩
 cases o with
 | bk s'=>cases h2
 | ct s'=>cases h2
 | nx s'=>cases h2
 | rt d s'=>cases h2
 | rp xs d s'=>cases h2
 | rf xs s'=>
  cases h2
  intro α' σ' a vs' H' r' l' x' ha hx
  obtain ⟨a1,a2,a3⟩:=rs.leave DU r' l' x' (H1:=H') fun _ _=>rfl
  exact q α' _ _ _ a1 a2 ha (hx.kw a3)
@[simp] def Ab (M:MD) (ms:MA):ME:=fun s=>(ms s).bind fun x=>(M x.1 x.2.Γ).map fun r=>(.v r.1,{x.2 with Γ:=r.2})
@[simp] def AX (M:MDF) (ms:MA):MF:=fun s=>(ms s).bind fun x=>(M x.1 x.2.Γ).map fun r=>(r.1,{x.2 with Γ:=r.2})
def Ar (ms:MA) (n:Nat):Prop:=∀ s r,ms s=some r->r.1.length=n
theorem Aj:Ar AC 0:=fun s r e=>by cases e;rfl
theorem AL {m:ME} {ms:MA} {n:Nat} (h:Ar ms n):Ar (AB m ms) (n+1):=fun s r e=>by
 obtain ⟨x,h1,e⟩:=bind_some e
 obtain ⟨y,h2,rfl⟩:=Ag e
 show (x.1::y.1).length=n+1
 rw[List.length_cons,h _ _ h2]
theorem Bj {x:Str} {p:Pos} {e:Expr} {es:List Expr} {fa:Addr} {fd:FuncData} {ps:List Str} {k np:Nat} {M:MD} {ms:MA} (F:FnOk X.prog X.w X.K X.mg X.base CX0 k fa fd ps (spD X.K np M)) (hr:Room k X.A) (hg:Gl X x) (hm:X.mg x=some (.ref fa)) (hk:PySem.W.keepIn X.K (.ref fa)=true) (hb:Binds X.K fd ps [])
  (ha:DA X (e::es) ms) (hn:Ar ms np) (hdb:(x == ("__debug__":Str))=false:=by decide) (he:starEach (e::es) X.env=(false,eval e X.env)::starEach es X.env:=by rfl) (hpl:(backTo pos (starEach es X.env)).any (·.1)=false:=by rfl) :
  DE X (.Call (.Name x p) (e::es) [] pos) (Ab M ms):=fun f hf=>PE.imp (KZ F hr hg hm hk hb .nil MN (ha f hf) hdb he hpl) fun σ H Q hh_=>by
 obtain ⟨α,s,r,rs,lo,e0,q⟩:=hh_
 obtain ⟨y,h1,e0⟩:=bind_some e0
 obtain ⟨z,h2,rfl⟩:=Ag e0
 refine ⟨α,s,y,rs,lo,h1,fun α1 vs H1 rs1 l1 x1 hv=>?_⟩
 dsimp only
 rw[List.append_nil]
 exact ⟨f,α1,y.2,σ,y.1,z,hf,hn _ _ h1,rs1,hv,h2,fun α2 v H2 rs2 x2 hw=>q α2 v H2 rs2 l1 (x1.trans x2) hw⟩
theorem BE {x:Str} {p:Pos} {e:Expr} {es:List Expr} {fa:Addr} {fd:FuncData} {ps:List Str} {k np:Nat} {M:MDF} {ms:MA} (F:FnOk X.prog X.w X.K X.mg X.base CX0 k fa fd ps (spF X.K np M)) (hr:Room k X.A) (hg:Gl X x) (hm:X.mg x=some (.ref fa)) (hk:PySem.W.keepIn X.K (.ref fa)=true) (hb:Binds X.K fd ps [])
  (ha:DA X (e::es) ms) (hn:Ar ms np) (hdb:(x == ("__debug__":Str))=false:=by decide) (he:starEach (e::es) X.env=(false,eval e X.env)::starEach es X.env:=by rfl) (hpl:(backTo pos (starEach es X.env)).any (·.1)=false:=by rfl) :
  DF X (.Call (.Name x p) (e::es) [] pos) (AX M ms):=fun f hf=>PE.imp (KZ F hr hg hm hk hb .nil MN (ha f hf) hdb he hpl) fun σ H Q hh_=>by
 obtain ⟨α,s,r,rs,lo,e0,q⟩:=hh_
 obtain ⟨y,h1,e0⟩:=bind_some e0
 obtain ⟨z,h2,rfl⟩:=Ag e0
 refine ⟨α,s,y,rs,lo,h1,fun α1 vs H1 rs1 l1 x1 hv=>?_⟩
 dsimp only
 rw[List.append_nil]
 exact ⟨f,α1,y.2,σ,y.1,z,hf,hn _ _ h1,rs1,hv,h2,fun α2 a us H2 rs2 x2 ha hx=>q α2 a us H2 rs2 l1 (x1.trans x2) ha hx⟩
end
section
variable {X:Cx} {f:Fr} {α:Nat->Addr} {s:DS} {σ:St} {H:Hp} {K:PySem.W.Frag}
theorem Az {Γ:Gm} {i:Int} {v:V} (h:RepV f α Γ H (.v (.int i)) v):v=.int i:=by
 have h:Rep (wd f α Γ H) (.int i) v:=h
 unfold Rep at h;exact h
theorem C4 {Γ:Gm} {i:Str} {v:V} (h:RepV f α Γ H (.v (.str i)) v):v=.str i:=by
 have h:Rep (wd f α Γ H) (.str i) v:=h
 unfold Rep at h;exact h
theorem KC {Γ:Gm} {i:Bool} {v:V} (h:RepV f α Γ H (.v (.bl i)) v):v=.bl i:=by
 have h:Rep (wd f α Γ H) (.bl i) v:=h
 unfold Rep at h;exact h
theorem Vc {Γ:Gm} {v:V} (h:RepV f α Γ H (.v .non) v):v=.non:=by
 have h:Rep (wd f α Γ H) .non v:=h
 unfold Rep at h;exact h
theorem Dq {Γ:Gm} {xs:List D} {v:V} (h:RepV f α Γ H (.v (.tup xs)) v):∃ a vs,v=.ref a/\H a=some (.tup vs)/\Reps (wd f α Γ H) xs vs:=by
 have h:Rep (wd f α Γ H) (.tup xs) v:=h
 unfold Rep at h
 obtain ⟨a,vs,e,_,h1,h2⟩:=h
 exact ⟨a,vs,e,h1,h2⟩
theorem B8 {W:Wd} {i:Int}:Rep W (.int i) (.int i):=by unfold Rep;rfl
theorem CC {W:Wd} {i:Bool}:Rep W (.bl i) (.bl i):=by unfold Rep;rfl
theorem LD {W:Wd} {i:Str}:Rep W (.str i) (.str i):=by unfold Rep;rfl
theorem L8 {Γ:Gm}:RepV f α Γ H (.v .non) .non:=by show Rep (wd f α Γ H) .non .non;unfold Rep;rfl
@[simp] def gI (c:Int->Int->Bool) (h:Int->Int->Int):Gm->SV->SV->Option D:=fun _ x y=>match x,y with
 | .v (.int i),.v (.int j)=>if c i j=true then some (.int (h i j)) else none
 | _,_=>none
theorem GI {C:Int->Int->Prop} {c:Int->Int->Bool} {h:Int->Int->Int} (hc:∀ i j,c i j=true->C i j):OpD X (gI c h) (rI C fun i j=>.int (h i j)):=by
 intro f α s σ H x y u v z Q hf rs hu hv e q
 unfold gI at e
 split at e
 ·rename_i i j
  split at e
  ·rename_i hk
   cases e
   exact ⟨i,j,Az hu,Az hv,hc i j hk,q _ H rs .refl B8⟩
  ·cases e
 ·cases e
@[simp] def gI0 (h:Int->Int->Int):Gm->SV->SV->Option D:=fun _ x y=>match x,y with
 | .v (.int i),.v (.int j)=>some (.int (h i j))
 | _,_=>none
theorem VD {h:Int->Int->Int}:OpD X (gI0 h) (rI0 fun i j=>.int (h i j)):=by
 intro f α s σ H x y u v z Q hf rs hu hv e q
 unfold gI0 at e
 split at e
 ·rename_i i j
  cases e
  exact ⟨i,j,Az hu,Az hv,q _ H rs .refl B8⟩
 ·cases e
abbrev CJ:=gI0 fun i j=>i - j
def CF (i j:Int):Bool:=decide ((-(2 ^ 64)<i/\i<2 ^ 64)\/(-(2 ^ 64)<j/\j<2 ^ 64))
def EN (i j:Int):Bool:=decide (0<j/\j<2 ^ 64)
def B7 (i j:Int):Bool:=decide (0<j)
def FO (i j:Int):Bool:=decide (0<=j/\j<=1000000/\i.natAbs<2 ^ 64)
abbrev BI:=gI CF fun i j=>i * j
abbrev Bt:=gI EN fun i j=>i / j
abbrev A8:=gI B7 fun i j=>i % j
abbrev Df:=gI FO fun i j=>i ^ j.toNat
theorem R1:OpD X BI (rI CMul fun i j=>.int (i * j)):=GI fun i j h=>by unfold CF at h;unfold CMul;exact of_decide_eq_true h
theorem WU:OpD X Bt (rI (fun _ j=>0<j/\j<2 ^ 64) fun i j=>.int (i / j)):=GI fun i j h=>of_decide_eq_true h
theorem P4:OpD X A8 (rI (fun _ j=>0<j) fun i j=>.int (i % j)):=GI fun i j h=>of_decide_eq_true h
theorem Vl:OpD X Df (rI JS fun i j=>.int (i ^ j.toNat)):=GI fun i j h=>by unfold FO at h;unfold JS;exact of_decide_eq_true h
@[simp] def BG:Gm->SV->SV->Option D:=fun Γ x y=>match x,y with
 | .v (.int i),.v (.int j)=>some (.int (i+j))
 | .v (.str a),.v (.str b)=>if a.length+b.length<=big then some (.str (a++b)) else none
 | x,y=>match elems Γ x,elems Γ y with
  | some xs,some ys=>if xs.length+ys.length<=big then some (.lst (xs++ys)) else none
  | _,_=>none
@[simp] def Ea:Gm->SV->SV->Option (List D):=fun Γ x y=>match elems Γ x,elems Γ y with
 | some xs,some ys=>if xs.length+ys.length<=big then some (xs++ys) else none
 | _,_=>none
def Os:R2:=fun x y H Q=>rI0 (fun i j=>.int (i+j)) x y H Q\/(∃ i j,x=.str i/\y=.str j/\i.length+j.length<=sizeLine/\Q (.str (i++j)) H)\/IL x y H Q
theorem Xw:OpR X (binaryOp .Add) Os:=op_add.or (op_add_str.or JG)
theorem UC:OpF X Ea IL:=by
 intro f α s σ H x y u v z Q hf rs hu hv e q
 unfold Ea at e
 split at e
 ·rename_i xs ys h1 h2
  split at e
  ·rename_i hz
   cases e
   obtain ⟨a,vs,rfl,a1,a2⟩:=BW rs h1 hu
   obtain ⟨b,us,rfl,b1,b2⟩:=BW rs h2 hv
   exact ⟨a,b,vs,us,rfl,rfl,a1,b1,by rw[a2.len,b2.len];exact Cy hz,fun p hp=>q p _ hp (a2.append b2)⟩
  ·cases e
 ·cases e
theorem YX:OpD X BG Os:=by
 intro f α s σ H x y u v z Q hf rs hu hv e q
 unfold BG at e
 split at e
 ·rename_i i j
  cases e
  exact .inl ⟨i,j,Az hu,Az hv,q _ H rs .refl B8⟩
 ·rename_i a b
  split at e
  ·rename_i hz
   cases e
   exact .inr (.inl ⟨a,b,C4 hu,C4 hv,Cy hz,q _ H rs .refl LD⟩)
  ·cases e
 ·split at e
  ·rename_i xs ys h1 h2
   split at e
   ·rename_i hz
    cases e
    obtain ⟨a,vs,rfl,a1,a2⟩:=BW rs h1 hu
    obtain ⟨b,us,rfl,b1,b2⟩:=BW rs h2 hv
    exact .inr (.inr ⟨a,b,vs,us,rfl,rfl,a1,b1,by rw[a2.len,b2.len];exact Cy hz,fun p hp=>q _ _ (rs.new hp) (.new rs hp) (Ez rs hp (a2.append b2))⟩)
   ·cases e
  ·cases e
@[simp] def Ei:SV->SV->Option Bool:=fun x y=>match x,y with
 | .v (.int i),.v (.int j)=>some (decide (i=j))
 | .v (.str i),.v (.str j)=>some (decide (i=j))
 | .v (.bl i),.v (.bl j)=>some (decide (i=j))
 | _,_=>none
@[simp] def Er:Gm->SV->SV->Option Bool:=fun Γ x y=>match elems Γ x,elems Γ y with
 | some [],some ys=>some ys.isEmpty
 | some xs,some []=>some xs.isEmpty
 | _,_=>none
@[simp] def gEq:Gm->SV->SV->Option D:=fun Γ x y=>match Ei x y with
 | some b=>some (.bl b)
 | none=>(Er Γ x y).map .bl
@[simp] def gNe:Gm->SV->SV->Option D:=fun Γ x y=>match Ei x y with
 | some b=>some (.bl !b)
 | none=>(Er Γ x y).map fun b=>.bl !b
theorem Nq {Γ:Gm} {x y:SV} {u v:V} {b:Bool} (h:Ei x y=some b) (hu:RepV f α Γ H x u) (hv:RepV f α Γ H y v):Ig u v=true/\decide (u=v)=b:=by
 unfold Ei at h
 split at h
 ·cases h;rw[Az hu,Az hv];exact ⟨rfl,by simp⟩
 ·cases h;rw[C4 hu,C4 hv];exact ⟨rfl,by simp⟩
 ·cases h;rw[KC hu,KC hv];exact ⟨rfl,by simp⟩
 ·cases h
theorem OD {x y:SV} {u v:V} {b:Bool} (rs:RS f α s σ H) (h:Er s.Γ x y=some b) (hu:RepV f α s.Γ H x u) (hv:RepV f α s.Γ H y v):∃ p q xs ys,u=.ref p/\v=.ref q/\H p=some (.lst xs)/\H q=some (.lst ys)/\(xs=[]\/ys=[])/\decide (xs=ys)=b:=by
 unfold Er at h
 split at h
 ·rename_i ys h1 h2
  cases h
  obtain ⟨a,vs,rfl,a1,a2⟩:=BW rs h1 hu
  obtain ⟨c,us,rfl,b1,b2⟩:=BW rs h2 hv
  refine ⟨a,c,vs,us,rfl,rfl,a1,b1,.inl a2.nil_inv,?_⟩
  rw[a2.nil_inv]
  cases ys with
  | nil=>rw[b2.nil_inv];rfl
  | cons d ds=>obtain ⟨w,r,rfl,_⟩:=b2.cons_inv;rfl
 ·rename_i xs _ h1 h2
  cases h
  obtain ⟨a,vs,rfl,a1,a2⟩:=BW rs h1 hu
  obtain ⟨c,us,rfl,b1,b2⟩:=BW rs h2 hv
  refine ⟨a,c,vs,us,rfl,rfl,a1,b1,.inr b2.nil_inv,?_⟩
  rw[b2.nil_inv]
  cases xs with
  | nil=>rw[a2.nil_inv];rfl
  | cons d ds=>obtain ⟨w,r,rfl,_⟩:=a2.cons_inv;rfl
 ·cases h
def Gf (K:PySem.W.Frag):R2:=fun x y H Q=>rEq x y H Q\/Lo K x y H Q
def Fy (K:PySem.W.Frag):R2:=fun x y H Q=>rNe x y H Q\/N7 K x y H Q
theorem Yq (hu:X.A.units<cLine):OpR X (compareOp .Eq) (Gf X.K):=op_eq.or (UK hu)
theorem WQ (hu:X.A.units<cLine):OpR X (compareOp .NotEq) (Fy X.K):=op_ne.or (RO hu)
theorem VG:OpD X gEq (Gf X.K):=by
 intro f α s σ H x y u v z Q hf rs hu hv e q
 unfold gEq at e
 split at e
 ·rename_i b hb
  cases e
  obtain ⟨h1,h2⟩:=Nq hb hu hv
  exact .inl ⟨h1,by rw[h2];exact q _ H rs .refl CC⟩
 ·obtain ⟨b,hb,rfl⟩:=Ag e
  obtain ⟨p,q',xs,ys,rfl,rfl,h1,h2,h3,h4⟩:=OD rs hb hu hv
  exact .inr ⟨p,q',xs,ys,rfl,rfl,SqL.of h1,SqL.of h2,h3,by rw[h4];exact q _ H rs .refl CC⟩
theorem UP:OpD X gNe (Fy X.K):=by
 intro f α s σ H x y u v z Q hf rs hu hv e q
 unfold gNe at e
 split at e
 ·rename_i b hb
  cases e
  obtain ⟨h1,h2⟩:=Nq hb hu hv
  exact .inl ⟨h1,by rw[h2];exact q _ H rs .refl CC⟩
 ·obtain ⟨b,hb,rfl⟩:=Ag e
  obtain ⟨p,q',xs,ys,rfl,rfl,h1,h2,h3,h4⟩:=OD rs hb hu hv
  exact .inr ⟨p,q',xs,ys,rfl,rfl,SqL.of h1,SqL.of h2,h3,by rw[h4];exact q _ H rs .refl CC⟩
def intsOf:List D->Option (List Int)
 | []=>some []
 | .int i::r=>(intsOf r).map (i::·)
 | _=>none
theorem Cz:∀ {xs:List D} {ns:List Int},intsOf xs=some ns->xs=ns.map .int
 | [],ns,e=>by cases e;rfl
 | .int i::r,ns,e=>by
  obtain ⟨ms,h,rfl⟩:=Ag (show (intsOf r).map (i::·)=some ns from e)
  rw[Cz h];rfl
theorem HM:∀ {ns:List Int},intsOf (ns.map .int)=some ns
 | []=>rfl
 | i::r=>by show (intsOf (r.map D.int)).map (i::·)=_;rw[HM];rfl
@[simp] def BN:Gm->SV->SV->Option D:=fun _ x y=>match x,y with
 | .v (.int i),.v (.int j)=>some (.bl (decide (i<j)))
 | .v (.tup xs),.v (.tup ys)=>(intsOf xs).bind fun ns=>(intsOf ys).map fun ms=>.bl (HT.lexLt ns ms)
 | _,_=>none
def Pj (K:PySem.W.Frag):R2:=fun x y H Q=>rI0 (fun i j=>.bl (decide (i<j))) x y H Q\/OF K x y H Q
theorem J9 (hu:X.A.units<cLine):OpR X (compareOp .Lt) (Pj X.K):=op_lt.or (RC hu)
theorem KS:OpD X BN (Pj X.K):=by
 intro f α s σ H x y u v z Q hf rs hu hv e q
 unfold BN at e
 split at e
 ·rename_i i j
  cases e
  exact .inl ⟨i,j,Az hu,Az hv,q _ H rs .refl CC⟩
 ·rename_i xs ys
  obtain ⟨ns,h1,e⟩:=bind_some e
  obtain ⟨ms,h2,rfl⟩:=Ag e
  have:=Cz h1
  subst this
  have:=Cz h2
  subst this
  obtain ⟨a,vs,rfl,a1,a2⟩:=Dq hu
  obtain ⟨b,us,rfl,b1,b2⟩:=Dq hv
  rw[a2.ints] at a1
  rw[b2.ints] at b1
  exact .inr ⟨a,b,ns,ms,rfl,rfl,SqT.of a1,SqT.of b1,q _ H rs .refl CC⟩
 ·cases e
@[simp] def gIx:Gm->SV->SV->Option D:=fun Γ x y=>match y with
 | .v (.int i)=>match x with
  | .v (.tup xs)=>atI xs i
  | .v (.str z)=>if z.length<=big then (atI z.cps.toList i).map fun c=>.str ⟨#[c]⟩ else none
  | .v (.scr ns)=>(atI ns i).map .int
  | x=>(elems Γ x).bind fun xs=>atI xs i
 | _=>none
theorem Jr {W:Wd} {xs:List D} {vs:List V} {i:Int} {d:D} (h:Reps W xs vs) (e:atI xs i=some d):∃ v,atI vs i=some v/\Rep W d v:=by
 unfold atI at *
 rw[h.len]
 obtain ⟨j,h1,h2⟩:=bind_some e
 obtain ⟨v,h3,h4⟩:=h.get h2
 exact ⟨v,by rw[h1];exact h3,h4⟩
theorem Q6 {ns:List Int} {i n:Int} (e:atI ns i=some n):atI (ns.map V.int) i=some (.int n):=by
 unfold atI at *
 rw[List.length_map]
 obtain ⟨j,h1,h2⟩:=bind_some e
 rw[h1]
 show (ns.map V.int)[j]?=_
 rw[List.getElem?_map,h2]
 rfl
theorem K3 {Γ:Gm} {ns:List Int} {v:V} (h:RepV f α Γ H (.v (.scr ns)) v):∃ a,v=.ref a/\SqL f.K H a (ns.map V.int):=by
 have h:Rep (wd f α Γ H) (.scr ns) v:=h
 unfold Rep at h
 obtain ⟨a,e,h⟩:=h
 refine ⟨a,e,?_⟩
 rcases h with ⟨_,h⟩ | h
 ·exact .inl h
 ·exact h H
theorem Vp:OpD X gIx (rIx X.K):=by
 intro f α s σ H x y u v z Q hf rs hu hv e q
 unfold gIx at e
 split at e
 ·rename_i i
  split at e
  ·rename_i xs
   obtain ⟨a,vs,rfl,h1,h2⟩:=Dq hu
   obtain ⟨w,h3,h4⟩:=Jr h2 e
   exact .inr (.inl ⟨a,vs,i,w,rfl,Az hv,SqT.of h1,h3,q w H rs .refl h4⟩)
  ·rename_i str
   split at e
   ·rename_i hz
    obtain ⟨c,h1,rfl⟩:=Ag e
    exact .inr (.inr ⟨str,i,c,C4 hu,Az hv,Cy hz,h1,q _ H rs .refl LD⟩)
   ·cases e
  ·rename_i ns
   obtain ⟨n,h1,rfl⟩:=Ag e
   obtain ⟨a,rfl,h2⟩:=K3 hu
   exact .inl ⟨a,_,i,_,rfl,Az hv,by rw[<-hf];exact h2,Q6 h1,q _ H rs .refl B8⟩
  ·obtain ⟨xs,h1,e⟩:=bind_some e
   obtain ⟨a,vs,rfl,h3,h2⟩:=BW rs h1 hu
   obtain ⟨w,h4,h5⟩:=Jr h2 e
   exact .inl ⟨a,vs,i,w,rfl,Az hv,SqL.of h3,h4,q w H rs .refl h5⟩
 ·cases e
@[simp] def Ad:Gm->List SV->Option D:=fun Γ xs=>match xs with
 | [.v (.tup xs)]=>some (.int xs.length)
 | [.v (.str z)]=>if z.length<=big then some (.int z.length) else none
 | [.v (.scr ns)]=>some (.int ns.length)
 | [x]=>(elems Γ x).map fun xs=>.int xs.length
 | _=>none
theorem Uh:CaD X Ad (fun xs H Q=>∃ x n,xs=[x]/\PX X.K x H n/\Q (.int n) H):=by
 intro f α s σ H xs us z Q hf rs hu e q
 unfold Ad at e
 split at e
 ·rename_i xs
  cases e
  obtain ⟨v,r,rfl,h1,h2⟩:=hu.cons_inv
  rw[h2.nil_inv]
  obtain ⟨a,vs,rfl,h3,h4⟩:=Dq h1
  exact ⟨_,xs.length,rfl,.inr ⟨vs,SqT.of h3,h4.len.symm⟩,q _ H rs .refl B8⟩
 ·rename_i z
  split at e
  ·rename_i hz
   cases e
   obtain ⟨v,r,rfl,h1,h2⟩:=hu.cons_inv
   rw[h2.nil_inv,C4 h1]
   exact ⟨_,z.length,rfl,⟨Cy hz,rfl⟩,q _ H rs .refl B8⟩
  ·cases e
 ·rename_i ns
  cases e
  obtain ⟨v,r,rfl,h1,h2⟩:=hu.cons_inv
  rw[h2.nil_inv]
  obtain ⟨a,rfl,h3⟩:=K3 h1
  exact ⟨_,ns.length,rfl,.inl ⟨_,by rw[<-hf];exact h3,by rw[List.length_map]⟩,q _ H rs .refl B8⟩
 ·rename_i x _ _ _
  obtain ⟨xs,h0,rfl⟩:=Ag e
  obtain ⟨v,r,rfl,h1,h2⟩:=hu.cons_inv
  rw[h2.nil_inv]
  obtain ⟨a,vs,rfl,h3,h4⟩:=BW rs h0 h1
  exact ⟨_,xs.length,rfl,.inl ⟨vs,SqL.of h3,h4.len.symm⟩,q _ H rs .refl B8⟩
 ·cases e
@[simp] def ER:Gm->List SV->Option D:=fun _ xs=>match xs with
 | [.v (.int i),.v (.int j)]=>some (.int (if j > i then j else i))
 | _=>none
@[simp] def C6:Gm->List SV->Option D:=fun _ xs=>match xs with
 | [.v (.int i),.v (.int j)]=>some (.int (if j<i then j else i))
 | _=>none
theorem Ut:CaD X ER (fun xs H Q=>∃ i j,xs=[.int i,.int j]/\Q (.int (if j > i then j else i)) H):=by
 intro f α s σ H xs us z Q hf rs hu e q
 unfold ER at e
 split at e
 ·rename_i i j
  cases e
  obtain ⟨v,r,rfl,h1,h2⟩:=hu.cons_inv
  obtain ⟨v',r',rfl,h3,h4⟩:=h2.cons_inv
  rw[h4.nil_inv,Az h1,Az h3]
  exact ⟨i,j,rfl,q _ H rs .refl B8⟩
 ·cases e
theorem Y0:CaD X C6 (fun xs H Q=>∃ i j,xs=[.int i,.int j]/\Q (.int (if j<i then j else i)) H):=by
 intro f α s σ H xs us z Q hf rs hu e q
 unfold C6 at e
 split at e
 ·rename_i i j
  cases e
  obtain ⟨v,r,rfl,h1,h2⟩:=hu.cons_inv
  obtain ⟨v',r',rfl,h3,h4⟩:=h2.cons_inv
  rw[h4.nil_inv,Az h1,Az h3]
  exact ⟨i,j,rfl,q _ H rs .refl B8⟩
 ·cases e
def insI (i:Int):List Int->List Int
 | []=>[i]
 | j::r=>if i<=j then i::j::r else j::insI i r
def sortI:List Int->List Int
 | []=>[]
 | i::r=>insI i (sortI r)
theorem insI_perm (i:Int):∀ r:List Int,(insI i r).Perm (i::r)
 | []=>.refl _
 | j::r=>by
  unfold insI
  split
  ·exact .refl _
  ·exact ((insI_perm i r).cons j).trans (.swap i j r)
theorem sortI_perm:∀ r:List Int,(sortI r).Perm r
 | []=>.refl _
 | i::r=>(insI_perm i _).trans ((sortI_perm r).cons i)
theorem NU (i:Int):∀ r:List Int,r.Pairwise (·<=·)->(insI i r).Pairwise (·<=·)
 | [],_=>List.pairwise_singleton _ _
 | j::r,h=>by
  unfold insI
  obtain ⟨h1,h2⟩:=List.pairwise_cons.mp h
  split
  ·rename_i c
   refine List.pairwise_cons.mpr ⟨fun k hk=>?_,h⟩
   rcases List.mem_cons.mp hk with rfl | hk
   ·exact c
   ·have:=h1 k hk;lia
  ·rename_i c
   refine List.pairwise_cons.mpr ⟨fun k hk=>?_,NU i r h2⟩
   rcases List.mem_cons.mp ((insI_perm i r).mem_iff.mp hk) with rfl | hk
   ·lia
   ·exact h1 k hk
theorem Hd:∀ r:List Int,(sortI r).Pairwise (·<=·)
 | []=>.nil
 | i::r=>NU i _ (Hd r)
theorem KU {xs ys:List Int} (p:xs.Perm ys) (hx:xs.Pairwise (·<=·)) (hy:ys.Pairwise (·<=·)):xs=ys:=
 p.eq_of_pairwise (fun a b _ _ h1 h2=>by lia) hx hy
def tupI (ns:List Int):D:=.tup (ns.map .int)
def Fw:List D->Option (List (List Int))
 | []=>some []
 | .tup xs::r=>(intsOf xs).bind fun ns=>if ns=[] then none else (Fw r).map (ns::·)
 | _=>none
theorem Oz:∀ {xs:List D} {nss:List (List Int)},Fw xs=some nss->xs=nss.map tupI/\∀ ns∈nss,ns≠[]
 | [],nss,e=>by cases e;exact ⟨rfl,fun _ h=>nomatch h⟩
 | .tup xs::r,nss,e=>by
  obtain ⟨ns,h1,e⟩:=bind_some (show (intsOf xs).bind _=some nss from e)
  split at e
  ·cases e
  ·rename_i hne
   obtain ⟨mss,h2,rfl⟩:=Ag e
   obtain ⟨h3,h4⟩:=Oz h2
   refine ⟨by rw[h3,Cz h1];rfl,fun ks hk=>?_⟩
   rcases List.mem_cons.mp hk with rfl | hk
   ·exact hne
   ·exact h4 ks hk
 | .non::r,nss,e=>by cases e
 | .bl _::r,nss,e=>by cases e
 | .int _::r,nss,e=>by cases e
 | .str _::r,nss,e=>by cases e
 | .lst _::r,nss,e=>by cases e
 | .scr _::r,nss,e=>by cases e
theorem L6:∀ {nss:List (List Int)},(∀ ns∈nss,ns≠[])->Fw (nss.map tupI)=some nss
 | [],_=>rfl
 | ns::r,h=>by
  show (intsOf (ns.map .int)).bind _=_
  rw[HM]
  show (if ns=[] then none else _)=_
  rw[if_neg (h ns List.mem_cons_self),L6 fun ks hk=>h ks (List.mem_cons_of_mem _ hk)]
  rfl
def Eu (x:List Int):List (List Int)->List (List Int)
 | []=>[x]
 | y::r=>if HT.lexLt y x=true then y::Eu x r else x::y::r
def AO:List (List Int)->List (List Int)
 | []=>[]
 | x::r=>Eu x (AO r)
theorem KW (x:List Int):∀ r,(Eu x r).Perm (x::r)
 | []=>.refl _
 | y::r=>by
  unfold Eu
  split
  ·exact ((KW x r).cons y).trans (.swap x y r)
  ·exact .refl _
theorem Av:∀ r,(AO r).Perm r
 | []=>.refl _
 | x::r=>(KW x _).trans ((Av r).cons x)
abbrev Bl (r:List (List Int)):Prop:=r.Pairwise fun u v=>HT.lexLt v u=false
theorem Lx (x:List Int):∀ r,Bl r->Bl (Eu x r)
 | [],_=>List.pairwise_singleton _ _
 | y::r,h=>by
  unfold Eu
  obtain ⟨h1,h2⟩:=List.pairwise_cons.mp h
  split
  ·rename_i c
   refine List.pairwise_cons.mpr ⟨fun k hk=>?_,Lx x r h2⟩
   rcases List.mem_cons.mp ((KW x r).mem_iff.mp hk) with rfl | hk
   ·exact EvS.Ds c
   ·exact h1 k hk
  ·rename_i c
   have c':HT.lexLt y x=false:=by cases hc:HT.lexLt y x with | false=>rfl | true=>exact absurd hc c
   refine List.pairwise_cons.mpr ⟨fun k hk=>?_,h⟩
   rcases List.mem_cons.mp hk with rfl | hk
   ·exact c'
   ·exact EvS.E4 c' (h1 k hk)
theorem By:∀ r,Bl (AO r)
 | []=>.nil
 | x::r=>Lx x _ (By r)
theorem Fs {xs ys:List (List Int)} (p:xs.Perm ys) (hx:Bl xs) (hy:Bl ys):xs=ys:=
 p.eq_of_pairwise (fun a b _ _ h1 h2=>EvS.JK h1 h2) hx hy
@[simp] def CQ:Gm->List SV->Option (List D):=fun Γ xs=>match xs with
 | [x]=>(elems Γ x).bind fun xs=>match intsOf xs with
  | some ns=>some ((sortI ns).map .int)
  | none=>(Fw xs).map fun nss=>(AO nss).map tupI
 | _=>none
def GJ (K:PySem.W.Frag):List V->Hp->VK->Prop:=fun xs H Q=>(∃ p ns,xs=[.ref p]/\SqL K H p (ns.map V.int)/\∀ l (ms:List Int),H l=none->ms.Perm ns->ms.Pairwise (·<=·)->Q (.ref l) (upd H l (.lst (ms.map V.int))))\/Pg K xs H Q
theorem call_sortedA:CallR X (.builtin "sorted") (GJ X.K):=call_sorted.or SY
theorem Ih {W:Wd} {ns:List Int} {v:V} (h:Rep W (tupI ns) v):∃ a,v=.ref a/\W.H a=some (.tup (ns.map V.int)):=by
 unfold tupI Rep at h
 obtain ⟨a,vs,e,_,h1,h2⟩:=h
 rw[h2.ints] at h1
 exact ⟨a,e,h1⟩
theorem NC {W:Wd} {ns:List Int} {v:V} (h:Rep W (tupI ns) v):Ci W.H v=ns:=by
 obtain ⟨a,rfl,h1⟩:=Ih h
 show (match W.H a with | some (.tup xs)=>xs.map HG | _=>[])=ns
 rw[h1]
 exact Nr ns
theorem ND {W:Wd}:∀ {nss:List (List Int)} {vs:List V},Reps W (nss.map tupI) vs->vs.map (Ci W.H)=nss/\∀ v∈vs,Rep W (tupI (Ci W.H v)) v
 | [],vs,h=>by rw[h.nil_inv];exact ⟨rfl,fun _ h=>nomatch h⟩
 | ns::r,vs,h=>by
  obtain ⟨v,q,rfl,h1,h2⟩:=Reps.cons_inv (d:=tupI ns) (ds:=r.map tupI) h
  obtain ⟨h3,h4⟩:=ND h2
  refine ⟨by rw[List.map_cons,h3,NC h1],fun u hu=>?_⟩
  rcases List.mem_cons.mp hu with rfl | hu
  ·rw[NC h1];exact h1
  ·exact h4 u hu
theorem OP {W:Wd}:∀ {ws:List V},(∀ v∈ws,Rep W (tupI (Ci W.H v)) v)->Reps W ((ws.map (Ci W.H)).map tupI) ws
 | [],_=>.nil
 | w::ws,h=>.cons (h w List.mem_cons_self) (OP fun v hv=>h v (List.mem_cons_of_mem _ hv))
theorem NT:CaF X CQ (GJ X.K):=by
 intro f α s σ H xs us z Q hf rs hu e q
 unfold CQ at e
 split at e
 ·obtain ⟨xs,h0,e⟩:=bind_some e
  obtain ⟨v,r,rfl,h1,h2⟩:=hu.cons_inv
  rw[h2.nil_inv]
  obtain ⟨a,vs,rfl,h3,h4⟩:=BW rs h0 h1
  split at e
  ·rename_i ns h00
   cases e
   have:=Cz h00
   subst this
   have:=h4.ints
   subst this
   refine .inl ⟨a,ns,rfl,SqL.of h3,fun l ms hl hp hs=>q l _ hl ?_⟩
   rw[KU (hp.trans (sortI_perm ns).symm) hs (Hd ns)]
   exact Reps.of_ints
  ·obtain ⟨nss,h5,rfl⟩:=Ag e
   obtain ⟨h6,h7⟩:=Oz h5
   subst h6
   obtain ⟨n1,n2⟩:=ND h4
   refine .inr ⟨a,vs,rfl,SqL.of h3,fun v hv=>?_,fun l ws hl hp hs=>q l _ hl ?_⟩
   ·obtain ⟨b,e1,e2⟩:=Ih (n2 v hv)
    exact ⟨b,_,e1,e2,h7 _ (by rw[<-n1];exact List.mem_map.mpr ⟨v,hv,rfl⟩)⟩
   ·have e1:ws.map (Ci H)=AO nss:=Fs (((hp.map (Ci H)).trans (by rw[n1])).trans (Av nss).symm) (by rw[Bl,List.pairwise_map];exact hs) (By nss)
    rw[<-e1]
    exact OP fun v hv=>n2 v (hp.mem_iff.mp hv)
 ·cases e
@[simp] def Ax (m:ME):MF:=fun s=>(m s).bind fun r=>match r.1 with
 | .v (.lst xs)=>some (xs,r.2)
 | .v (.tup xs)=>some (xs,r.2)
 | _=>none
variable {tg a b:Expr} {pos:Pos}
theorem PI.imp {src:Expr} {t t':TI} (h:PI X tg src t) (k:∀ σ H R,t' σ H R->t σ H R):PI X tg src t':=fun pins s σ H R I q=>h pins s σ H R I (k _ _ _ q)
theorem Ey {f:Fr} {α0 α:Nat->Addr} {Γ0 Γ:Gm} {H0 H Hh:Hp} {p:Addr} {vs:List V} {xs:List D} (x:Ext f α0 α Γ0 Γ H0 H) (hb:¬(f.F p\/Be Γ0 α0 p)) (h:H0 p=some (.lst vs)) (hx:Reps (wd f α0 Γ0 H0) xs vs) (sup:∀ a o,H a=some o->Hh a=some o) :
  Hh p=some (.lst vs)/\Reps (wd f α Γ H) xs vs:=⟨sup _ _ (x.kw.keep p _ hb h).1,hx.kw x.kw⟩
theorem IG {f:Fr} {α0 α:Nat->Addr} {Γ0 Γ:Gm} {H0 H Hh:Hp} {p:Addr} {vs:List V} {xs:List D} (x:Ext f α0 α Γ0 Γ H0 H) (hb:¬(f.F p\/Be Γ0 α0 p)) (h:H0 p=some (.tup vs)) (hx:Reps (wd f α0 Γ0 H0) xs vs) (sup:∀ a o,H a=some o->Hh a=some o) :
  Hh p=some (.tup vs)/\Reps (wd f α Γ H) xs vs:=⟨sup _ _ (x.kw.keep p _ hb h).1,hx.kw x.kw⟩
theorem CL {m:ME} (h:DE X a m):DI X tg a (Ax m):=fun f hf=>PI.imp (L2.PI.or (Oa (h f hf)) (Uj (h f hf))) fun σ H R hh_=>by
 obtain ⟨α,s,r,rs,lo,e,q⟩:=hh_
 obtain ⟨⟨x,s1⟩,h1,e⟩:=bind_some e
 simp only at e
 split at e
 ·rename_i xs
  cases e
  refine .inl ⟨α,s,_,rs,lo,h1,fun α' v H' rs' l' x' hv=>?_⟩
  have hv:Rep (wd f α' s1.Γ H') (.lst xs) v:=hv
  unfold Rep at hv
  obtain ⟨p,vs,rfl,hb,h2,h3⟩:=hv
  refine ⟨p,rfl,⟨vs,SqL.of h2⟩,q _ α' H' rs' l' x' ⟨?_,?_,?_⟩⟩
  ·intro i α2 s2 σ2 H2 Hh hi r2 x2 sup
   obtain ⟨g1,_⟩:=Ey x2 hb h2 h3 sup
   exact ⟨vs,vs[i]'(by rw[h3.len];exact hi),SqL.of g1,List.getElem?_eq_getElem _⟩
  ·intro i d y α2 s2 σ2 H2 Hh H3 hd r2 x2 sup yl
   obtain ⟨g1,g2⟩:=Ey x2 hb h2 h3 sup
   obtain ⟨rfl,yl⟩:=yl
   obtain ⟨w,w1,w2⟩:=g2.get hd
   have:=yl vs (SqL.of g1)
   rw[w1] at this
   cases this
   exact .inl ⟨rfl,w2⟩
  ·intro α2 s2 σ2 H2 Hh r2 x2 sup
   obtain ⟨g1,_⟩:=Ey x2 hb h2 h3 sup
   exact ⟨vs,SqL.of g1,by rw[h3.len];exact Nat.le_refl _⟩
 ·rename_i xs
  cases e
  refine .inr ⟨α,s,_,rs,lo,h1,fun α' v H' rs' l' x' hv=>?_⟩
  have hv:Rep (wd f α' s1.Γ H') (.tup xs) v:=hv
  unfold Rep at hv
  obtain ⟨p,vs,rfl,hb,h2,h3⟩:=hv
  refine ⟨p,rfl,⟨vs,SqT.of h2⟩,q _ α' H' rs' l' x' ⟨?_,?_,?_⟩⟩
  ·intro i α2 s2 σ2 H2 Hh hi r2 x2 sup
   obtain ⟨g1,_⟩:=IG x2 hb h2 h3 sup
   exact ⟨vs,vs[i]'(by rw[h3.len];exact hi),SqT.of g1,List.getElem?_eq_getElem _⟩
  ·intro i d y α2 s2 σ2 H2 Hh H3 hd r2 x2 sup yl
   obtain ⟨g1,g2⟩:=IG x2 hb h2 h3 sup
   obtain ⟨rfl,yl⟩:=yl
   obtain ⟨w,w1,w2⟩:=g2.get hd
   have:=yl vs (SqT.of g1)
   rw[w1] at this
   cases this
   exact .inl ⟨rfl,w2⟩
  ·intro α2 s2 σ2 H2 Hh r2 x2 sup
   obtain ⟨g1,_⟩:=IG x2 hb h2 h3 sup
   exact ⟨vs,SqT.of g1,by rw[h3.len];exact Nat.le_refl _⟩
 ·cases e
def upTo (lo:Int):Nat->List D
 | 0=>[]
 | n+1=>.int lo::upTo (lo+1) n
theorem CH (lo:Int):∀ n,(upTo lo n).length=n:=by
 intro n
 induction n generalizing lo with
 | zero=>rfl
 | succ n ih=>unfold upTo;rw[List.length_cons,ih]
theorem K1 (lo:Int):∀ (n i:Nat),i<n->(upTo lo n)[i]?=some (.int (lo+i)):=by
 intro n
 induction n generalizing lo with
 | zero=>intro i h;exact absurd h (Nat.not_lt_zero _)
 | succ n ih=>
  intro i h
  cases i with
  | zero=>unfold upTo;simp
  | succ i=>
   unfold upTo
   rw[List.getElem?_cons_succ,ih (lo+1) i (Nat.lt_of_succ_lt_succ h)]
   congr 2
   lia
theorem OB {α0:Nat->Addr} {Γ0:Gm} {H0:Hp} (lo:Int) (n:Nat):DIt f (Itr lo n) (upTo lo n) α0 Γ0 H0:=by
 refine ⟨fun i _ _ _ _ _ hi _ _ _=>by rw[CH] at hi;exact hi,fun i d y α2 s2 σ2 H2 Hh H3 hd r2 x2 sup yl=>?_,fun _ _ _ _ _ _ _ _=>by show n<=(upTo lo n).length;rw[CH];exact Nat.le_refl _⟩
 obtain ⟨rfl,rfl⟩:=yl
 have hi:=(List.getElem?_eq_some_iff.mp hd).1
 rw[CH] at hi
 rw[K1 lo n i hi] at hd
 cases hd
 exact .inl ⟨rfl,B8⟩
def okR (j:Int):Bool:=decide (j<2 ^ 62/\-(2 ^ 62)<=j)
theorem E1 {j:Int} (h:-1000000<=j) (h2:j<=1000000):okR j=true:=decide_eq_true ⟨by lia,by lia⟩
@[simp] def BF (ms:MA):MF:=fun s=>(ms s).bind fun r=>match r.1 with
 | [.v (.int j)]=>if okR j=true then some (upTo 0 j.toNat,r.2) else none
 | _=>none
@[simp] def EY (ms:MA):MF:=fun s=>(ms s).bind fun r=>match r.1 with
 | [.v (.int i),.v (.int j)]=>if okR j=true/\okR i=true then some (upTo i (j - i).toNat,r.2) else none
 | _=>none
theorem EC {ms:MA} {p:Pos} (hg:Gl X "range") (hm:X.mg "range"=none) (ha:DA X [a] ms) (hs:starEach [a] X.env=[(false,eval a X.env)]:=by rfl):DI X tg (.Call (.Name "range" p) [a] [] pos) (BF ms):=fun f hf=>PI.imp (Jp hg hm (ha f hf) hs) fun σ H R hh_=>by
 obtain ⟨α,s,r,rs,lo,e,q⟩:=hh_
 obtain ⟨⟨x,s1⟩,h1,e⟩:=bind_some e
 simp only at e
 split at e
 ·rename_i j
  split at e
  ·rename_i hj
   cases e
   refine ⟨α,s,_,rs,lo,h1,fun α' vs H' rs' l' x' hv=>?_⟩
   obtain ⟨v,r,rfl,h2,h3⟩:=hv.cons_inv
   rw[h3.nil_inv,Az h2]
   have hj:=of_decide_eq_true hj
   exact ⟨j,rfl,hj.2,hj.1,q _ α' H' rs' l' x' (OB 0 _)⟩
  ·cases e
 ·cases e
theorem We {ms:MA} {p:Pos} (hg:Gl X "range") (hm:X.mg "range"=none) (ha:DA X [a,b] ms) (hs:starEach [a,b] X.env=[(false,eval a X.env),(false,eval b X.env)]:=by rfl) (hs2:starEach [b] X.env=[(false,eval b X.env)]:=by rfl):DI X tg (.Call (.Name "range" p) [a,b] [] pos) (EY ms):=fun f hf=>PI.imp (TY hg hm (ha f hf) hs hs2) fun σ H R hh_=>by
 obtain ⟨α,s,r,rs,lo,e,q⟩:=hh_
 obtain ⟨⟨x,s1⟩,h1,e⟩:=bind_some e
 simp only at e
 split at e
 ·rename_i i j
  split at e
  ·rename_i hj
   cases e
   refine ⟨α,s,_,rs,lo,h1,fun α' vs H' rs' l' x' hv=>?_⟩
   obtain ⟨v,r,rfl,h2,h3⟩:=hv.cons_inv
   obtain ⟨v',r',rfl,h4,h5⟩:=h3.cons_inv
   rw[h5.nil_inv,Az h2,Az h4]
   have hj:=And.intro (of_decide_eq_true hj.1) (of_decide_eq_true hj.2)
   exact ⟨i,j,rfl,⟨hj.2.2,hj.2.1,hj.1.2,hj.1.1⟩,q _ α' H' rs' l' x' (OB i _)⟩
  ·cases e
 ·cases e
def Bc (i:Int):List D->List D
 | []=>[]
 | d::r=>.tup [.int i,d]::Bc (i+1) r
theorem Hf (i:Int):∀ xs,(Bc i xs).length=xs.length:=by
 intro xs
 induction xs generalizing i with
 | nil=>rfl
 | cons d r ih=>unfold Bc;rw[List.length_cons,List.length_cons,ih]
theorem E3 (i:Int):∀ (xs:List D) (k:Nat) (d:D),(Bc i xs)[k]?=some d->∃ x,xs[k]?=some x/\d=.tup [.int (i+k),x]:=by
 intro xs
 induction xs generalizing i with
 | nil=>intro k d h;cases h
 | cons c r ih=>
  intro k d h
  cases k with
  | zero=>cases h;exact ⟨c,rfl,by simp⟩
  | succ k=>
   unfold Bc at h
   rw[List.getElem?_cons_succ] at h
   obtain ⟨x,h1,h2⟩:=ih (i+1) k d h
   refine ⟨x,h1,?_⟩
   rw[h2]
   congr 3
   lia
@[simp] def Cp (ms:MA):MF:=fun s=>(ms s).bind fun r=>match r.1 with
 | [.v (.lst xs)]=>some (Bc 0 xs,r.2)
 | _=>none
theorem Fb {ms:MA} {p cp tp:Pos} {elts:List Expr} {k:Nat} (hg:Gl X "enumerate") (hm:X.mg "enumerate"=none) (ha:DA X [a] ms) (hs:starEach [a] X.env=[(false,eval a X.env)]:=by rfl):DI X (.Tuple elts k tp) (.Call (.Name "enumerate" p) [a] [] cp) (Cp ms):=fun f hf=>PI.imp (O2 hg hm (ha f hf) hs) fun σ H R hh_=>by
 obtain ⟨α,s,r,rs,lo,e,q⟩:=hh_
 obtain ⟨⟨x,s1⟩,h1,e⟩:=bind_some e
 simp only at e
 split at e
 ·rename_i xs
  cases e
  refine ⟨α,s,_,rs,lo,h1,fun α' vs H' rs' l' x' hv=>?_⟩
  obtain ⟨v,r,rfl,hv,h3⟩:=hv.cons_inv
  rw[h3.nil_inv]
  have hv:Rep (wd f α' s1.Γ H') (.lst xs) v:=hv
  unfold Rep at hv
  obtain ⟨p,vs,rfl,hb,h2,h3⟩:=hv
  refine ⟨p,vs,rfl,SqL.of h2,q _ α' H' rs' l' x' ⟨?_,?_,?_⟩⟩
  ·intro i α2 s2 σ2 H2 Hh hi r2 x2 sup
   obtain ⟨g1,_⟩:=Ey x2 hb h2 h3 sup
   rw[Hf] at hi
   exact ⟨vs,vs[i]'(by rw[h3.len];exact hi),SqL.of g1,List.getElem?_eq_getElem _⟩
  ·intro i d y α2 s2 σ2 H2 Hh H3 hd r2 x2 sup yl
   obtain ⟨g1,g2⟩:=Ey x2 hb h2 h3 sup
   obtain ⟨T,w,hT,rfl,rfl,yl⟩:=yl
   obtain ⟨c,hc,rfl⟩:=E3 0 xs i d hd
   obtain ⟨w',w1,w2⟩:=g2.get hc
   have:=yl vs (SqL.of g1)
   rw[w1] at this
   cases this
   have hT2:H2 T=none:=by
    cases z:H2 T with
    | none=>rfl
    | some o=>rw[sup _ _ z] at hT;cases hT
   refine .inr ⟨T,_,hT,rfl,ID r2 hT2 (.cons ?_ (.cons w2 .nil))⟩
   unfold Rep
   simp
  ·intro α2 s2 σ2 H2 Hh r2 x2 sup
   obtain ⟨g1,_⟩:=Ey x2 hb h2 h3 sup
   exact ⟨vs,SqL.of g1,by rw[Hf,h3.len];exact Nat.le_refl _⟩
 ·cases e
@[simp] def Cw (mo me:ME):ME:=fun s=>(mo s).bind fun x=>match x.1 with
 | .b n=>match x.2.Γ[n]? with
  | some (some _)=>(me x.2).bind fun y=>match y.1 with
   | .v d=>match y.2.Γ[n]? with
    | some (some xs)=>if xs.length<big then some (.v .non,{y.2 with Γ:=y.2.Γ.set n (some (xs++[d]))}) else none
    | _=>none
   | _=>none
  | _=>none
 | _=>none
theorem Xs {mo me:ME} {Q:VK} (hf:f.K=X.K) (h:tD f (Cw mo me) σ H Q):tBM X.K "list" MU (tD f mo) (OE (tD f me) NS) σ H Q:=by
 obtain ⟨α,s,r,rs,lo,e,q⟩:=h
 obtain ⟨⟨x,s1⟩,h1,e⟩:=bind_some e
 simp only at e
 split at e
 case h_2=>cases e
 rename_i n
 split at e
 case h_2=>cases e
 rename_i ys hys
 obtain ⟨⟨y,s2⟩,h2,e⟩:=bind_some e
 simp only at e
 split at e
 case h_2=>cases e
 rename_i d
 split at e
 case h_2=>cases e
 rename_i xs hxs
 split at e
 case isFalse=>cases e
 rename_i hz
 cases e
 refine ⟨α,s,_,rs,lo,h1,fun α1 u H1 rs1 l1 x1 hu=>?_⟩
 obtain ⟨us,g1,g2⟩:=rs1.box n ys hys
 refine ⟨?_,α1,s1,_,rs1,lo_le lo l1 x1,h2,fun α2 v H2 rs2 l2 x2 hv=>?_⟩
 ·rw[hu.2]
  exact .inl ⟨rfl,us,SqL.of g1⟩
 ·have hn:n<s1.Γ.length:=hu.1
  obtain ⟨ws,g3,g4⟩:=rs2.box n xs hxs
  refine ⟨α2 n,ws,v,by rw[hu.2,x2.al n hn],rfl,g3,by rw[g4.len];exact Ev.Du (Nat.le_of_lt hz),?_⟩
  exact q α2 .non _ (rs2.put hxs (g4.append (.cons hv .nil))) (l2.trans l1) ((x1.trans x2).trans (.put hxs)) (show RepV f α2 _ _ (.v .non) .non from L8)
end
section
variable {X:Cx} {f:Fr} {α:Nat->Addr} {s:DS} {σ:St} {H:Hp} {K:PySem.W.Frag} {a b c e:Expr} {ma mb mc:ME} {pos p cp apos:Pos} {es:List Expr} {ms:MA}
theorem CO (ha:DE X a ma) (hb:DE X b mb):DE X (.BinOp a .Add b pos) (mOp BG ma mb):=EO Xw YX ha hb
theorem FQ (ha:DE X a ma) (hb:DE X b mb):DE X (.BinOp a .Sub b pos) (mOp CJ ma mb):=EO Pb VD ha hb
theorem C0 (ha:DE X a ma) (hb:DE X b mb):DE X (.BinOp a .Mult b pos) (mOp BI ma mb):=EO L1 R1 ha hb
theorem E7 (ha:DE X a ma) (hb:DE X b mb):DE X (.BinOp a .FloorDiv b pos) (mOp Bt ma mb):=EO SO WU ha hb
theorem CD (ha:DE X a ma) (hb:DE X b mb):DE X (.BinOp a .Mod b pos) (mOp A8 ma mb):=EO P1 P4 ha hb
theorem IZ (ha:DE X a ma) (hb:DE X b mb):DE X (.BinOp a .Pow b pos) (mOp Df ma mb):=EO Rx Vl ha hb
theorem ZL (ha:DE X a ma) (hb:DE X b mb):DF X (.BinOp a .Add b pos) (CV Ea ma mb):=MR JG UC ha hb
theorem JE (hu:X.A.units<cLine) (ha:DE X a ma) (hb:DE X b mb):DT X (.Compare a [.Lt] [b] pos) (Ao (mOp BN ma mb)):=Fq (J9 hu) KS ha hb (Fg _)
theorem Ba (ha:DE X a ma) (hb:DE X b mb) (hs:Jn b:=by exact fun _ _=>rfl):DE X (.Subscript a b pos) (mOp gIx ma mb):=VZ Qu Vp ha hb hs
open Ev (Nm)
variable {mg:Str->Option Value}
theorem QM (T:Nm X.mg) (ha:DA X (e::es) ms) (hg:Gl X "sorted":=by rfl) (he:starEach (e::es) X.env=(false,eval e X.env)::starEach es X.env:=by rfl) (hpl:(backTo pos (starEach es X.env)).any (·.1)=false:=by rfl):DF X (.Call (.Name "sorted" p) (e::es) [] pos) (A3 CQ ms):=
 PK call_sortedA NT hg T.sorted PyProof.Rows.boot_sorted ha (by decide) (by decide) he hpl
theorem BY (T:Nm X.mg) (ha:DA X (e::es) ms) (hg:Gl X "len":=by rfl) (he:starEach (e::es) X.env=(false,eval e X.env)::starEach es X.env:=by rfl) (hpl:(backTo pos (starEach es X.env)).any (·.1)=false:=by rfl):DE X (.Call (.Name "len" p) (e::es) [] pos) (AN Ad ms):=
 FS Wv Uh hg T.len PySem.boot_len ha (by decide) (by decide) he hpl
theorem Sr (T:Nm X.mg) (ha:DA X (e::es) ms) (hc:X.calm=true:=by rfl) (hg:Gl X "max":=by rfl) (he:starEach (e::es) X.env=(false,eval e X.env)::starEach es X.env:=by rfl) (hpl:(backTo pos (starEach es X.env)).any (·.1)=false:=by rfl):DE X (.Call (.Name "max" p) (e::es) [] pos) (AN ER ms):=
 FS (YD hc) Ut hg T.max PyProof.Rows.boot_max ha (by decide) (by decide) he hpl
theorem LP (T:Nm X.mg) (ha:DA X (e::es) ms) (hc:X.calm=true:=by rfl) (hg:Gl X "min":=by rfl) (he:starEach (e::es) X.env=(false,eval e X.env)::starEach es X.env:=by rfl) (hpl:(backTo pos (starEach es X.env)).any (·.1)=false:=by rfl):DE X (.Call (.Name "min" p) (e::es) [] pos) (AN C6 ms):=
 FS (QE hc) Y0 hg T.min PyProof.Rows.boot_min ha (by decide) (by decide) he hpl
theorem HH {o:Expr} {mo me:ME} (ho:DE X o mo) (he:DE X e me) (hbase:attributeBase o "append" X.env (eval o X.env)=eval o X.env:=by rfl)
  (hfew:((backTo cp (starEach [e] X.env)).all (fun x=>!x.1) && (backToKw cp (keywordEach [] X.env)).all (fun x=>x.1.isSome)
   && decide ([e].length+([]:List Keyword).length+(if ([]:List Keyword).isEmpty then 0 else 1)<30))=true:=by rfl)
  (hline:(apos.endLine == cp.line)=true:=by rfl) (hs:starEach [e] X.env=(false,eval e X.env)::starEach [] X.env:=by rfl):DE X (.Call (.Attribute o "append" apos) [e] [] cp) (Cw mo me):=fun f hf=>
 PE.imp (Pd PySem.F.plainAttrs_list PySem.F.slot_list_append PySem.F.type_list_append La (ho f hf) (Bs (he f hf) Ca hs) hbase hfew hline hs rfl) fun σ H Q h=>Xs hf h
@[simp] def Ol (mo:ME):ME:=fun s=>(mo s).bind fun x=>match x.1 with
 | .b n=>match x.2.Γ[n]? with
  | some (some xs)=>(xs[xs.length - 1]?).map fun d=>(.v d,{x.2 with Γ:=x.2.Γ.set n (some xs.dropLast)})
  | _=>none
 | _=>none
theorem Yk {W:Wd} {xs:List D} {vs:List V} (h:Reps W xs vs):Reps W xs.dropLast vs.dropLast:=by
 rw[List.dropLast_eq_take,List.dropLast_eq_take,h.len]
 exact h.take _
theorem R4 {o:Expr} {mo:ME} (ho:DE X o mo) (hbase:attributeBase o "pop" X.env (eval o X.env)=eval o X.env:=by rfl) (hline:(apos.endLine == cp.line)=true:=by rfl):DE X (.Call (.Attribute o "pop" apos) [] [] cp) (Ol mo):=fun f hf=>
 PE.imp (Um PySem.F.plainAttrs_list PySem.F.slot_list_pop PySem.F.type_list_pop Qg (ho f hf) hbase hline) fun σ H Q hh_=>by
  obtain ⟨α,s,r,rs,lo,e,q⟩:=hh_
  obtain ⟨⟨x,s1⟩,h1,e⟩:=bind_some e
  simp only at e
  split at e
  case h_2=>cases e
  rename_i n
  split at e
  case h_2=>cases e
  rename_i xs hxs
  obtain ⟨d,hd,rfl⟩:=Ag e
  refine ⟨α,s,_,rs,lo,h1,fun α1 u H1 rs1 l1 x1 hu=>?_⟩
  obtain ⟨us,g1,g2⟩:=rs1.box n xs hxs
  obtain ⟨v,w1,w2⟩:=g2.get hd
  rw[hu.2]
  refine ⟨.inl ⟨rfl,us,SqL.of g1⟩,α1 n,us,v,rfl,rfl,g1,by rw[g2.len];exact w1,?_⟩
  exact q α1 v _ (rs1.put hxs (Yk g2)) l1 (x1.trans (.put hxs)) (w2.kw (Ext.put hxs).kw)
end
section
variable {X:Cx} {f:Fr} {α:Nat->Addr} {s:DS} {σ:St} {H:Hp} {o i e:Expr} {mo mi me:ME} {pos p:Pos}
end
def emp:DS:=⟨[],[],0⟩
def frQ (K:PySem.W.Frag) (H:Hp):Fr:=⟨K,H,fun _=>False,fun _=>False,fun _ h=>h,fun _ h=>h.elim⟩
section
variable {P:Program} {w:World} {K:PySem.W.Frag} {mg:Str->Option Value} {base:Heap} {X:Cx} {pos:Pos}
theorem UX {H:Hp}:RS (frQ K H) (fun _=>0) emp [] H where
 len:=rfl
 slot:=fun i d h=>by cases h
 box:=fun n xs h=>by cases h
 own:=fun n xs h=>by cases h
 inj:=fun n m xs ys h=>by cases h
 fr:=fun b o h _=>h
 forb:=fun a h=>h.elim
theorem join_some {o:Option (Option (List D))} {xs:List D} (h:o.join=some xs):o=some (some xs):=by
 cases o with
 | none=>cases h
 | some o=>exact congrArg some h
end
section
variable {P:Program} {w:World} {K:PySem.W.Frag} {mg:Str->Option Value} {base:Heap} {f:Fr} {α α':Nat->Addr} {s s':DS} {σ σ':St} {H H':Hp} {X:Cx} {pos:Pos} {e:Expr}
end
section
variable {X:Cx} {f:Fr} {α:Nat->Addr} {s:DS} {σ:St} {H:Hp} {K:PySem.W.Frag} {a b c e:Expr} {ma mb mc:ME} {pos p p2 cp apos:Pos} {es:List Expr} {ms:MA} {lo hi:Option Expr} {ml mh:Option ME}
abbrev MO:=DS->Option (Option Int×DS)
@[simp] def HB (o:Option ME):MO:=fun s=>match o with
 | none=>some (none,s)
 | some m=>(m s).bind fun x=>match x.1 with
  | .v (.int i)=>some (some i,x.2)
  | _=>none
def tDO (f:Fr) (m:MO):TO:=fun σ H Q=>∃ α s r,RS f α s σ H/\s.lo<=s.Γ.length/\m s=some r/\∀ α' H',RS f α' r.2 σ H'->r.2.lo=s.lo->Ext f α α' s.Γ r.2.Γ H H'->Q r.1 H'
def DO (X:Cx) (e:Option Expr) (m:Option ME):Prop:=∀ f:Fr,f.K=X.K->PO X e (tDO f (HB m))
theorem PO.imp {o:Option Expr} {t t':TO} (h:PO X o t) (k:∀ σ H Q,t' σ H Q->t σ H Q):PO X o t':=fun pins s σ H Q I q=>h pins s σ H Q I (k _ _ _ q)
theorem Qe:DO X none none:=fun f hf=>PO.imp OI fun σ H Q hh_=>by
 obtain ⟨α,s,r,rs,lo,e0,q⟩:=hh_
 cases e0
 exact q α H rs rfl .refl
theorem WC (h:DE X e ma):DO X (some e) (some ma):=fun f hf=>PO.imp (Pp (h f hf)) fun σ H Q hh_=>by
 obtain ⟨α,s,r,rs,lo,e0,q⟩:=hh_
 obtain ⟨⟨x,s1⟩,h1,e0⟩:=bind_some (show (ma s).bind _=some r from e0)
 simp only at e0
 split at e0
 ·rename_i i
  cases e0
  exact ⟨α,s,_,rs,lo,h1,fun α' v H' rs' l' x' hv=>⟨i,Az hv,q α' H' rs' l' x'⟩⟩
 ·cases e0
def CZ (z:Str) (l u:Option Int):Str:=if ((Builtin.Str.strSliceIndices l u 1 z.length).length == z.length)=true then z else ⟨((Builtin.Str.strSliceIndices l u 1 z.length).filterMap (z.cps[·]?)).toArray⟩
theorem Mj (z:Str) (l u:Option Int):(CZ z l u).length<=z.length:=by
 unfold CZ
 split
 ·exact Nat.le_refl _
 ·show ((Builtin.Str.strSliceIndices l u 1 z.length).filterMap (z.cps[·]?)).toArray.size<=z.length
  rw[List.size_toArray]
  exact Nat.le_trans (List.length_filterMap_le _ _) (PyProof.Rows.indices_len_le _ _ z.length)
def V3:V->Option Int->Option Int->Hp->VK->Prop:=fun x l u H Q=>∃ z,x=.str z/\z.length<=sizeLine/\Q (.str (CZ z l u)) H
theorem LQ {v:Value} {o:Option Int} (h:IsPart v o):∃ l:Option (Int×Tok),v=partValue l/\l.map (·.1)=o:=by
 cases h with
 | none=>exact ⟨none,rfl,rfl⟩
 | int i t=>exact ⟨some (i,t),rfl,rfl⟩
theorem Ro:SlR X V3:=by
 intro pins s σ H x v vl vu lo hi sl Q I rx hs pl pu h
 obtain ⟨z,rfl,hz,q⟩:=h
 obtain ⟨t,rfl⟩:=rx
 obtain ⟨l,rfl,hl⟩:=LQ pl
 obtain ⟨u,rfl,hu⟩:=LQ pu
 obtain ⟨o,ho,hc,hd⟩:=hs
 refine ⟨"str",_,F.slot_str_getitem.lookup,typeIs_str s z t,wpAny_getItem_str_slice (l:=l) (u:=u) (st:=none) ⟨o,ho,hc,hd⟩ rfl ?_⟩
 unfold sliceMade
 have e1:slicePicked z l u none=Builtin.Str.strSliceIndices lo hi 1 z.length:=by unfold slicePicked;rw[hl,hu];rfl
 rw[e1]
 have e2:CZ z lo hi=if ((Builtin.Str.strSliceIndices lo hi 1 z.length).length == z.length)=true then z else ⟨((Builtin.Str.strSliceIndices lo hi 1 z.length).filterMap (z.cps[·]?)).toArray⟩:=rfl
 rw[e2] at q
 by_cases c:((Builtin.Str.strSliceIndices lo hi 1 z.length).length == z.length)=true
 ·rw[if_pos c] at q
  rw[if_pos (by simpa using c)]
  exact ⟨.str z,H,I,⟨_,rfl⟩,q⟩
 ·rw[if_neg c] at q
  rw[if_neg (by simpa using c)]
  refine ⟨?_,.str _,H,I.tok _,⟨_,rfl⟩,q⟩
  have:=Mj z lo hi
  rw[e2,if_neg c] at this
  exact Nat.le_trans this hz
def cutD (xs:List D) (l u:Option Int):List D:=(xs.drop (HT.sIx xs.length 0 l)).take (HT.sIx xs.length xs.length u - HT.sIx xs.length 0 l)
theorem Uu {W:Wd} {xs:List D} {vs:List V} (h:Reps W xs vs) (l u:Option Int):Reps W (cutD xs l u) (Dm vs l u):=by
 unfold cutD Dm
 rw[h.len]
 exact (h.drop _).take _
@[simp] def gSl (Γ:Gm) (x:SV) (l u:Option Int):Option D:=match x with
 | .v (.str z)=>if z.length<=big then some (.str (CZ z l u)) else none
 | x=>(elems Γ x).map fun xs=>.lst (cutD xs l u)
@[simp] def mSl (m:ME) (l u:Option ME):ME:=fun s=>(m s).bind fun x=>(HB l x.2).bind fun y=>(HB u y.2).bind fun z=>(gSl z.2.Γ x.1 y.1 z.1).map fun d=>(.v d,z.2)
theorem WW (ha:DE X a ma) (hl:DO X lo ml) (hh:DO X hi mh):DE X (.Subscript a (.Slice lo hi none p2) pos) (mSl ma ml mh):=fun f hf=>
 PE.imp (N4 (sl_list.or Ro) (ha f hf) (hl f hf) (hh f hf)) fun σ H Q hh_=>by
  obtain ⟨α,s,r,rs,lo,e0,q⟩:=hh_
  obtain ⟨x,h1,e0⟩:=bind_some e0
  obtain ⟨y,h2,e0⟩:=bind_some e0
  obtain ⟨z,h3,e0⟩:=bind_some e0
  obtain ⟨d,h4,rfl⟩:=Ag e0
  refine ⟨α,s,x,rs,lo,h1,fun α1 v H1 rs1 l1 x1 hv=>⟨α1,x.2,y,rs1,lo_le lo l1 x1,h2,fun α2 H2 rs2 l2 x2=>⟨α2,y.2,z,rs2,lo_le (lo_le lo l1 x1) l2 x2,h3,fun α3 H3 rs3 l3 x3=>?_⟩⟩⟩
  have hv3:=(hv.ext x2).ext x3
  unfold gSl at h4
  split at h4
  ·rename_i str hs
   split at h4
   case isFalse=>cases h4
   rename_i hz
   cases h4
   rw[hs] at hv3
   exact .inr ⟨str,C4 hv3,Cy hz,q α3 _ H3 rs3 (l3.trans (l2.trans l1)) ((x1.trans x2).trans x3) (by show Rep (wd f α3 z.2.Γ H3) (.str _) (.str _);unfold Rep;rfl)⟩
  ·obtain ⟨xs,h5,rfl⟩:=Ag h4
   obtain ⟨p,vs,rfl,g1,g2⟩:=BW rs3 h5 hv3
   exact .inl ⟨p,vs,rfl,SqL.of g1,fun t ht=>q α3 _ _ (rs3.new ht) (l3.trans (l2.trans l1)) (((x1.trans x2).trans x3).trans (.new rs3 ht)) (Ez rs3 ht (Uu g2 _ _))⟩
@[simp] def E9 (m:ME):MF:=fun s=>(m s).bind fun x=>(elems x.2.Γ x.1).map fun xs=>(xs.reverse,x.2)
theorem M8 {i} {p3:Pos} (ha:DE X a ma):DF X (.Subscript a (.Slice none none (some (.UnaryOp .USub (.Constant (.int 1) i p3) p2)) p) pos) (E9 ma):=fun f hf=>
 PE.imp (SF (ha f hf) (RJ Ya DX)) fun σ H Q hh_=>by
  obtain ⟨α,s,r,rs,lo,e0,q⟩:=hh_
  obtain ⟨x,h1,e0⟩:=bind_some e0
  obtain ⟨xs,h2,rfl⟩:=Ag e0
  refine ⟨α,s,x,rs,lo,h1,fun α1 v H1 rs1 l1 x1 hv=>?_⟩
  obtain ⟨p,vs,rfl,g1,g2⟩:=BW rs1 h2 hv
  exact ⟨1,rfl,p,vs,rfl,rfl,SqL.of g1,fun t ht=>q α1 t _ H1 rs1 l1 x1 ht g2.reverse⟩
end
end DL
namespace DL
open PySem L2
open Ev (Nm)
section
variable {X:Cx} {f:Fr} {α:Nat->Addr} {s:DS} {σ:St} {H:Hp} {K:PySem.W.Frag} {a b c e o tg:Expr} {ma mb mc mo me:ME} {pos p p2 cp apos tp:Pos} {es:List Expr} {ms:MA}
@[simp] def tyD:SV->String
 | .v .non=>"NoneType" | .v (.bl _)=>"bool" | .v (.int _)=>"int" | .v (.str _)=>"str" | .v (.lst _)=>"list" | .v (.tup _)=>"tuple" | .v (.scr _)=>"list" | .b _=>"list" | .p _ _=>"tuple"
theorem W9 {x:SV} {v:V} (rs:RS f α s σ H) (h:RepV f α s.Γ H x v) (hl:∀ n,x=.b n->∃ xs,s.Γ[n]?=some (some xs)) (hs:∀ ns,x≠.v (.scr ns)):TyOf f.K H v (.type (tyD x)):=by
 cases x with
 | v d=>
  cases d with
  | non=>rw[Vc h];exact .non
  | bl b=>rw[KC h];exact .bl b
  | int i=>rw[Az h];exact .int i
  | str z=>rw[C4 h];exact .str z
  | lst xs=>
   have h:Rep (wd f α s.Γ H) (.lst xs) v:=h
   unfold Rep at h
   obtain ⟨a,vs,rfl,_,h1,_⟩:=h
   exact .lst h1
  | tup xs=>
   obtain ⟨a,vs,rfl,h1,_⟩:=Dq h
   exact .tup h1
  | scr ns=>exact absurd rfl (hs ns)
 | b n=>
  obtain ⟨xs,hx⟩:=hl n rfl
  obtain ⟨vs,h1,_⟩:=rs.box n xs hx
  rw[h.2]
  exact .lst h1
 | p n d=>
  obtain ⟨_,a,w,rfl,_,h1,_⟩:=h
  exact .tup h1
@[simp] def O5 (Γ:Gm):SV->Bool
 | .b n=>(Γ[n]?).join.isSome
 | .v (.scr _)=>false
 | _=>true
theorem Pw {Γ:Gm} {x:SV} (h:O5 Γ x=true):(∀ n,x=.b n->∃ xs,Γ[n]?=some (some xs))/\∀ ns,x≠.v (.scr ns):=by
 refine ⟨fun n e=>?_,fun ns e=>?_⟩
 ·subst e
  obtain ⟨xs,hx⟩:=Option.isSome_iff_exists.mp (show (Γ[n]?).join.isSome=true from h)
  exact ⟨xs,join_some hx⟩
 ·subst e;cases h
@[simp] def isT (T t:String):Option Bool:=
 if T="bool" then some (t == "bool") else if T="int" then some (t == "int" || t == "bool") else if T="str" then some (t == "str") else if T="list" then some (t == "list") else if T="tuple" then some (t == "tuple") else none
theorem RM (K:PySem.W.Frag) (x:SV):∀ (T:String) (b:Bool),isT T (tyD x)=some b->PySem.W.kitOne K (.type (tyD x)) (.type T)=some b:=by
 intro T b h
 unfold isT at h
 have all:∀ t∈["NoneType","bool","int","str","list","tuple"],PySem.W.kitOne K (.type t) (.type "bool")=some (t == "bool")/\PySem.W.kitOne K (.type t) (.type "int")=some (t == "int" || t == "bool")/\PySem.W.kitOne K (.type t) (.type "str")=some (t == "str")/\PySem.W.kitOne K (.type t) (.type "list")=some (t == "list")/\PySem.W.kitOne K (.type t) (.type "tuple")=some (t == "tuple"):=by
  intro t ht
  simp only[List.mem_cons,List.not_mem_nil,or_false] at ht
  rcases ht with rfl | rfl | rfl | rfl | rfl | rfl<;>exact ⟨by kernel_rfl,by kernel_rfl,by kernel_rfl,by kernel_rfl,by kernel_rfl⟩
 have mem:tyD x∈["NoneType","bool","int","str","list","tuple"]:=by
  cases x with
  | v d=>cases d<;>simp[tyD]
  | b n=>simp[tyD]
  | p n d=>simp[tyD]
 obtain ⟨h1,h2,h3,h4,h5⟩:=all _ mem
 split at h
 ·rename_i e;subst e;cases h;exact h1
 ·split at h
  ·rename_i e;subst e;cases h;exact h2
  ·split at h
   ·rename_i e;subst e;cases h;exact h3
   ·split at h
    ·rename_i e;subst e;cases h;exact h4
    ·split at h
     ·rename_i e;subst e;cases h;exact h5
     ·cases h
@[simp] def FF (T:String) (m:ME):ME:=fun s=>(m s).bind fun x=>if O5 x.2.Γ x.1=true then (isT T (tyD x.1)).map fun b=>(.v (.bl b),x.2) else none
theorem Oo (T:String) {y:Str} (N:Nm X.mg) (ha:DE X a ma) (hT:PE X (.Name y p2) (tC (.ty T))) (hg:Gl X "isinstance":=by rfl) (he:starEach [a,.Name y p2] X.env=(false,eval a X.env)::starEach [.Name y p2] X.env:=by rfl) (he2:starEach [.Name y p2] X.env=(false,eval (.Name y p2) X.env)::starEach [] X.env:=by rfl) (hpl:(backTo pos (starEach [.Name y p2] X.env)).any (·.1)=false:=by rfl) :
  DE X (.Call (.Name "isinstance" p) [a,.Name y p2] [] pos) (FF T ma):=fun f hf=>
 PE.imp (FB Yo hg N.isi PyProof.Rows.boot_isinstance (Bs (ha f hf) (Bs hT Ca he2) he) (by decide) (by decide) he hpl) fun σ H Q hh_=>by
  obtain ⟨α,s,r,rs,lo,e0,q⟩:=hh_
  obtain ⟨x,h1,e0⟩:=bind_some e0
  split at e0
  case isFalse=>cases e0
  rename_i hl
  obtain ⟨k,h2,rfl⟩:=Ag e0
  refine ⟨α,s,x,rs,lo,h1,fun α1 v H1 rs1 l1 x1 hv=>?_⟩
  refine ⟨v,T,tyD x.1,k,rfl,?_,RM X.K x.1 T k h2,q α1 _ H1 rs1 l1 x1 IJ⟩
  rw[<-hf]
  exact W9 rs1 hv (Pw hl).1 (Pw hl).2
theorem Wf (N:Nm X.mg) (ha:DE X a ma) (hg:Gl X "isinstance":=by rfl) (hg2:Gl X "bool":=by rfl) (he:starEach [a,.Name "bool" p2] X.env=(false,eval a X.env)::starEach [.Name "bool" p2] X.env:=by rfl) (he2:starEach [.Name "bool" p2] X.env=(false,eval (.Name "bool" p2) X.env)::starEach [] X.env:=by rfl) (hpl:(backTo pos (starEach [.Name "bool" p2] X.env)).any (·.1)=false:=by rfl):DE X (.Call (.Name "isinstance" p) [a,.Name "bool" p2] [] pos) (FF "bool" ma):=Oo "bool" N ha (OL (v:=.ty "bool") hg2 N.bool PyProof.Rows.boot_bool rfl) hg he he2 hpl
theorem Q8 (N:Nm X.mg) (ha:DE X a ma) (hg:Gl X "isinstance":=by rfl) (hg2:Gl X "int":=by rfl) (he:starEach [a,.Name "int" p2] X.env=(false,eval a X.env)::starEach [.Name "int" p2] X.env:=by rfl) (he2:starEach [.Name "int" p2] X.env=(false,eval (.Name "int" p2) X.env)::starEach [] X.env:=by rfl) (hpl:(backTo pos (starEach [.Name "int" p2] X.env)).any (·.1)=false:=by rfl):DE X (.Call (.Name "isinstance" p) [a,.Name "int" p2] [] pos) (FF "int" ma):=Oo "int" N ha (OL (v:=.ty "int") hg2 N.int PyProof.Rows.boot_int rfl) hg he he2 hpl
@[simp] def De (mo me:ME):ME:=fun s=>(mo s).bind fun x=>match x.1 with
 | .b n=>match x.2.Γ[n]? with
  | some (some _)=>(me x.2).bind fun y=>match y.1 with
   | .v (.lst zs)=>match y.2.Γ[n]? with
    | some (some xs)=>if xs.length+zs.length<=big then some (.v .non,{y.2 with Γ:=y.2.Γ.set n (some (xs++zs))}) else none
    | _=>none
   | _=>none
  | _=>none
 | _=>none
theorem J6 (ho:DE X o mo) (he:DE X e me) (hbase:attributeBase o "extend" X.env (eval o X.env)=eval o X.env:=by rfl)
  (hfew:((backTo cp (starEach [e] X.env)).all (fun x=>!x.1) && (backToKw cp (keywordEach [] X.env)).all (fun x=>x.1.isSome)
   && decide ([e].length+([]:List Keyword).length+(if ([]:List Keyword).isEmpty then 0 else 1)<30))=true:=by rfl)
  (hline:(apos.endLine == cp.line)=true:=by rfl) (hs:starEach [e] X.env=(false,eval e X.env)::starEach [] X.env:=by rfl):DE X (.Call (.Attribute o "extend" apos) [e] [] cp) (De mo me):=fun f hf=>
 PE.imp (Pd PySem.F.plainAttrs_list PySem.F.slot_list_extend PySem.F.type_list_extend UN (ho f hf) (Bs (he f hf) Ca hs) hbase hfew hline hs rfl) fun σ H Q hh_=>by
  obtain ⟨α,s,r,rs,lo,e0,q⟩:=hh_
  obtain ⟨⟨x,s1⟩,h1,e0⟩:=bind_some e0
  simp only at e0
  split at e0
  case h_2=>cases e0
  rename_i n
  split at e0
  case h_2=>cases e0
  rename_i ys hys
  obtain ⟨⟨y,s2⟩,h2,e0⟩:=bind_some e0
  simp only at e0
  split at e0
  case h_2=>cases e0
  rename_i zs
  split at e0
  case h_2=>cases e0
  rename_i xs hxs
  split at e0
  case isFalse=>cases e0
  rename_i hz
  cases e0
  refine ⟨α,s,_,rs,lo,h1,fun α1 u H1 rs1 l1 x1 hu=>?_⟩
  obtain ⟨us,g1,g2⟩:=rs1.box n ys hys
  refine ⟨?_,α1,s1,_,rs1,lo_le lo l1 x1,h2,fun α2 v H2 rs2 l2 x2 hv=>?_⟩
  ·rw[hu.2]
   exact .inl ⟨rfl,us,SqL.of g1⟩
  ·have hn:n<s1.Γ.length:=hu.1
   obtain ⟨ws,g3,g4⟩:=rs2.box n xs hxs
   have hv:Rep (wd f α2 s2.Γ H2) (.lst zs) v:=hv
   unfold Rep at hv
   obtain ⟨b,bs,rfl,_,b1,b2⟩:=hv
   refine ⟨α2 n,b,ws,bs,by rw[hu.2,x2.al n hn],rfl,g3,b1,by rw[g4.len,b2.len];exact Cy hz,?_⟩
   exact q α2 .non _ (rs2.put hxs (g4.append b2)) (l2.trans l1) ((x1.trans x2).trans (.put hxs)) L8
def Ex (mo mi me:ME):MS:=fun s=>(mo s).bind fun x=>match x.1 with
 | .b n=>(mi x.2).bind fun y=>match y.1 with
  | .v (.int k)=>match y.2.Γ[n]? with
   | some (some xs)=>match atI xs k with
    | some (.int c)=>(me y.2).bind fun z=>match z.1 with
     | .v (.int d)=>match z.2.Γ[n]? with
      | some (some ws)=>(ixN ws.length k).map fun j=>.nx {z.2 with Γ:=z.2.Γ.set n (some (ws.set j (.int (c+d))))}
      | _=>none
     | _=>none
    | _=>none
   | _=>none
  | _=>none
 | _=>none
end
mutual
def toP:D->PyData
 | .non=>.none
 | .bl b=>.bool b
 | .int i=>.int i
 | .str x=>.str x
 | .lst xs=>.list (CY xs)
 | .tup xs=>.tuple (CY xs)
 | .scr ns=>.list (ns.map .int)
def CY:List D->List PyData
 | []=>[]
 | d::ds=>toP d::CY ds
end
def BM:Nat->D->Bool
 | _,.non=>true
 | _,.bl _=>true
 | _,.int _=>true
 | _,.str x=>PyData.canLay0 (.str x)
 | 0,.lst _=>false
 | 0,.tup _=>false
 | 0,.scr _=>false
 | n+1,.lst xs=>xs.all (BM n)
 | n+1,.tup xs=>xs.all (BM n)
 | _+1,.scr _=>true
theorem Lm:∀ ns:List Int,PyData.canLayAll0 (ns.map .int)=true/\PyData.depthAll (ns.map .int)=0
 | []=>⟨by simp[PyData.canLayAll0],by simp[PyData.depthAll]⟩
 | n::ns=>by
  obtain ⟨h1,h2⟩:=Lm ns
  exact ⟨by simp[PyData.canLayAll0,PyData.canLay0,h1],by simp[PyData.depthAll,PyData.depth,h2]⟩
theorem Iv {n:Nat} (ih:∀ d,BM n d=true->(toP d).canLay0=true/\(toP d).depth<=n):∀ xs:List D,xs.all (BM n)=true->PyData.canLayAll0 (CY xs)=true/\PyData.depthAll (CY xs)<=n
 | [],_=>⟨by simp[CY,PyData.canLayAll0],by simp[CY,PyData.depthAll]⟩
 | d::ds,h=>by
  rw[List.all_cons,Bool.and_eq_true] at h
  obtain ⟨a1,a2⟩:=ih d h.1
  obtain ⟨b1,b2⟩:=Iv ih ds h.2
  exact ⟨by simp[CY,PyData.canLayAll0,a1,b1],by simp only[CY,PyData.depthAll];lia⟩
theorem Dz:∀ (n:Nat) (d:D),BM n d=true->(toP d).canLay0=true/\(toP d).depth<=n
 | n,.non,_=>⟨by simp[toP,PyData.canLay0],by simp[toP,PyData.depth]⟩
 | n,.bl _,_=>⟨by simp[toP,PyData.canLay0],by simp[toP,PyData.depth]⟩
 | n,.int _,_=>⟨by simp[toP,PyData.canLay0],by simp[toP,PyData.depth]⟩
 | n,.str x,h=>⟨by unfold BM at h;unfold toP;exact h,by simp[toP,PyData.depth]⟩
 | 0,.lst _,h=>by unfold BM at h;cases h
 | 0,.tup _,h=>by unfold BM at h;cases h
 | 0,.scr _,h=>by unfold BM at h;cases h
 | n+1,.lst xs,h=>by
  unfold BM at h
  obtain ⟨a,b⟩:=Iv (Dz n) xs h
  exact ⟨by simpa [toP,PyData.canLay0] using a,by simp only[toP,PyData.depth];lia⟩
 | n+1,.tup xs,h=>by
  unfold BM at h
  obtain ⟨a,b⟩:=Iv (Dz n) xs h
  exact ⟨by simpa [toP,PyData.canLay0] using a,by simp only[toP,PyData.depth];lia⟩
 | n+1,.scr ns,h=>by
  obtain ⟨a,b⟩:=Lm ns
  exact ⟨by simpa [toP,PyData.canLay0] using a,by simp only[toP,PyData.depth];lia⟩
section
variable {X:Cx} {pins:List (Addr×Obj)} {σ:St} {s:Shared} {W:Wd}
theorem OC:∀ {ns:List Int} {us:List Value},Vals (ns.map V.int) us->∃ as,ReadsAll s.heap us (ns.map PyData.int) as
 | [],_,h=>by cases h;exact ⟨_,.nil⟩
 | n::ns,_,h=>by
  cases h with
  | cons r t=>
   obtain ⟨k,rfl⟩:=r
   obtain ⟨as,h⟩:=OC t
   exact ⟨_,.cons (.int n k) h⟩
mutual
theorem FH (I:Inv X pins σ W.H s) (hk:W.K=X.K):∀ {d:D} {v:V} {u:Value},Rep W d v->RelV v u->∃ as,Reads s.heap u (toP d) as
 | .non,v,u,h,r=>by
  unfold Rep at h;subst h;cases (show u=_ from r);unfold toP;exact ⟨_,.none⟩
 | .bl b,v,u,h,r=>by
  unfold Rep at h;subst h;cases (show u=_ from r);unfold toP;exact ⟨_,.bool b⟩
 | .int i,v,u,h,r=>by
  unfold Rep at h;subst h;obtain ⟨t,rfl⟩:=(show ∃ t,u=Value.int i t from r);unfold toP;exact ⟨_,.int i t⟩
 | .str i,v,u,h,r=>by
  unfold Rep at h;subst h;obtain ⟨t,rfl⟩:=(show ∃ t,u=Value.str i t from r);unfold toP;exact ⟨_,.str i t⟩
 | .lst xs,v,u,h,r=>by
  unfold Rep at h
  obtain ⟨a,vs,rfl,_,h1,h2⟩:=h
  cases (show u=_ from r)
  obtain ⟨its,ri,⟨o,n,e1,e2,_,e3⟩,_⟩:=I.list (SqL.of h1)
  obtain ⟨as,q⟩:=JR I hk h2 ri
  unfold toP
  exact ⟨_,.list e1 e2 e3 q⟩
 | .tup xs,v,u,h,r=>by
  unfold Rep at h
  obtain ⟨a,vs,rfl,_,h1,h2⟩:=h
  cases (show u=_ from r)
  obtain ⟨its,ri,⟨o,e1,e2,n,e3⟩,_⟩:=I.tuple (SqT.of h1)
  obtain ⟨as,q⟩:=JR I hk h2 ri
  unfold toP
  exact ⟨_,.tuple e1 e2 e3 q⟩
 | .scr ns,v,u,h,r=>by
  unfold Rep at h
  obtain ⟨a,rfl,h⟩:=h
  cases (show u=_ from r)
  have hs:SqL X.K W.H a (ns.map V.int):=by
   rcases h with ⟨_,h⟩ | h
   ·exact .inl h
   ·rw[<-hk];exact h _
  obtain ⟨its,ri,⟨o,n,e1,e2,_,e3⟩,_⟩:=I.list hs
  obtain ⟨as,q⟩:=OC (s:=s) ri
  unfold toP
  exact ⟨_,.list e1 e2 e3 q⟩
theorem JR (I:Inv X pins σ W.H s) (hk:W.K=X.K):∀ {ds:List D} {vs:List V} {us:List Value},Reps W ds vs->Vals vs us->∃ as,ReadsAll s.heap us (CY ds) as
 | [],vs,us,h,r=>by
  cases h.nil_inv;cases r;unfold CY;exact ⟨_,.nil⟩
 | d::ds,vs,us,h,r=>by
  obtain ⟨v,q,rfl,h1,h2⟩:=h.cons_inv
  cases r with
  | cons r1 r2=>
   obtain ⟨as,a⟩:=FH I hk h1 r1
   obtain ⟨bs,b⟩:=JR I hk h2 r2
   unfold CY
   exact ⟨_,.cons a b⟩
end
end
def deq (d e:D):Bool:=PyData.eqv (toP d) (toP e)
@[simp] def treeOf (Γ:Gm):SV->Option D
 | .v d=>some d
 | .b n=>((Γ[n]?).join).map .lst
 | .p n d=>((Γ[n]?).join).map fun xs=>.tup [.lst xs,d]
@[simp] def Fi:Gm->SV->SV->Option Bool:=fun Γ x y=>match treeOf Γ x,treeOf Γ y with
 | some d,some e=>if BM 6 d && BM 6 e then some (deq d e) else none
 | _,_=>none
@[simp] def Ow:Gm->SV->SV->Option D:=fun Γ x y=>(Fi Γ x y).map .bl
@[simp] def KA:Gm->SV->SV->Option D:=fun Γ x y=>(Fi Γ x y).map fun b=>.bl !b
def GB (K:PySem.W.Frag):R2:=fun x y H Q=>∃ (W:Wd) (d e:D),W.K=K/\W.H=H/\Rep W d x/\Rep W e y/\BM 6 d=true/\BM 6 e=true/\Q (.bl (deq d e)) H
def Ge (K:PySem.W.Frag):R2:=fun x y H Q=>∃ (W:Wd) (d e:D),W.K=K/\W.H=H/\Rep W d x/\Rep W e y/\BM 6 d=true/\BM 6 e=true/\Q (.bl (!deq d e)) H
section
variable {X:Cx} {f:Fr} {α:Nat->Addr} {s:DS} {σ:St} {H:Hp} {a b:Expr} {ma mb:ME} {pos:Pos}
theorem P0 (hu:X.A.units+64<cLine):OpR X (compareOp .Eq) (GB X.K):=by
 intro pins s σ H x y v u Q I rx ry h
 obtain ⟨W,d,e,hk,rfl,hd,he,s1,s2,k⟩:=h
 obtain ⟨as,r1⟩:=FH I hk hd rx
 obtain ⟨bs,r2⟩:=FH I hk he ry
 obtain ⟨a1,a2⟩:=Dz _ _ s1
 obtain ⟨b1,b2⟩:=Dz _ _ s2
 exact SeqAt.compareEq_reads r1 r2 a1 b1 (by lia) ⟨.bl (deq d e),W.H,I,rfl,k⟩
theorem V7 (hu:X.A.units+64<cLine):OpR X (compareOp .NotEq) (Ge X.K):=by
 intro pins s σ H x y v u Q I rx ry h
 obtain ⟨W,d,e,hk,rfl,hd,he,s1,s2,k⟩:=h
 obtain ⟨as,r1⟩:=FH I hk hd rx
 obtain ⟨bs,r2⟩:=FH I hk he ry
 obtain ⟨a1,a2⟩:=Dz _ _ s1
 obtain ⟨b1,b2⟩:=Dz _ _ s2
 exact SeqAt.rcNeAt_reads r1 r2 a1 b1 (by lia) X.prog X.w _ _ ⟨.bl (!deq d e),W.H,I,rfl,k⟩
theorem HJ (W:Wd):Kw W ⟨W.K,fun _=>False,W.H⟩:=⟨rfl,fun _ _ _ e=>⟨e,fun h=>h⟩⟩
theorem OR {x:SV} {d:D} {v:V} (rs:RS f α s σ H) (h:treeOf s.Γ x=some d) (r:RepV f α s.Γ H x v):Rep ⟨f.K,fun _=>False,H⟩ d v:=by
 unfold treeOf at h
 split at h
 ·cases h
  exact Rep.kw (HJ (wd f α s.Γ H)) r
 ·rename_i n
  obtain ⟨xs,hx,rfl⟩:=Ag h
  obtain ⟨p,vs,rfl,h1,h2⟩:=BW (d:=.b n) rs hx r
  unfold Rep
  exact ⟨p,vs,rfl,fun h=>h,h1,Reps.kw (HJ (wd f α s.Γ H)) h2⟩
 ·rename_i n e
  obtain ⟨xs,hx,rfl⟩:=Ag h
  obtain ⟨hn,p,w,rfl,_,h1,h2⟩:=r
  obtain ⟨q,vs,hq,h3,h4⟩:=BW (d:=.b n) rs hx ⟨hn,rfl⟩
  unfold Rep
  refine ⟨p,_,rfl,fun h=>h,h1,.cons ?_ (.cons (Rep.kw (HJ (wd f α s.Γ H)) h2) .nil)⟩
  unfold Rep
  exact ⟨q,vs,hq,fun h=>h,h3,Reps.kw (HJ (wd f α s.Γ H)) h4⟩
theorem MY {x y:SV} {b:Bool} {u v:V} (hf:f.K=X.K) (rs:RS f α s σ H) (hu:RepV f α s.Γ H x u) (hv:RepV f α s.Γ H y v) (h:Fi s.Γ x y=some b) :
  ∃ (W:Wd) (d e:D),W.K=X.K/\W.H=H/\Rep W d u/\Rep W e v/\BM 6 d=true/\BM 6 e=true/\deq d e=b:=by
 unfold Fi at h
 split at h
 ·rename_i d e h1 h2
  split at h
  ·rename_i hs
   cases h
   rw[Bool.and_eq_true] at hs
   exact ⟨_,d,e,hf,rfl,OR rs h1 hu,OR rs h2 hv,hs.1,hs.2,rfl⟩
  ·cases h
 ·cases h
theorem ZA:OpD X Ow (GB X.K):=by
 intro f α s σ H x y u v z Q hf rs hu hv e q
 obtain ⟨b,hb,rfl⟩:=Ag e
 obtain ⟨W,d,c,h1,h2,h3,h4,h5,h6,rfl⟩:=MY hf rs hu hv hb
 exact ⟨W,d,c,h1,h2,h3,h4,h5,h6,q _ H rs .refl CC⟩
theorem QC:OpD X KA (Ge X.K):=by
 intro f α s σ H x y u v z Q hf rs hu hv e q
 obtain ⟨b,hb,rfl⟩:=Ag e
 obtain ⟨W,d,c,h1,h2,h3,h4,h5,h6,rfl⟩:=MY hf rs hu hv hb
 exact ⟨W,d,c,h1,h2,h3,h4,h5,h6,q _ H rs .refl CC⟩
@[simp] def Bh:Gm->SV->SV->Option D:=fun Γ x y=>match gEq Γ x y with
 | some z=>some z
 | none=>Ow Γ x y
@[simp] def Dj:Gm->SV->SV->Option D:=fun Γ x y=>match gNe Γ x y with
 | some z=>some z
 | none=>KA Γ x y
theorem QH:OpD X Bh (fun x y H Q=>Gf X.K x y H Q\/GB X.K x y H Q):=by
 intro f α s σ H x y u v z Q hf rs hu hv e q
 unfold Bh at e
 split at e
 ·rename_i z' hz
  cases e
  exact .inl (VG f α s σ H x y u v z Q hf rs hu hv hz q)
 ·exact .inr (ZA f α s σ H x y u v z Q hf rs hu hv e q)
theorem Y5:OpD X Dj (fun x y H Q=>Fy X.K x y H Q\/Ge X.K x y H Q):=by
 intro f α s σ H x y u v z Q hf rs hu hv e q
 unfold Dj at e
 split at e
 ·rename_i z' hz
  cases e
  exact .inl (UP f α s σ H x y u v z Q hf rs hu hv hz q)
 ·exact .inr (QC f α s σ H x y u v z Q hf rs hu hv e q)
theorem Q5 (hu:X.A.units+64<cLine):OpR X (compareOp .Eq) (fun x y H Q=>Gf X.K x y H Q\/GB X.K x y H Q):=(Yq (by lia)).or (P0 hu)
theorem VU (hu:X.A.units+64<cLine):OpR X (compareOp .NotEq) (fun x y H Q=>Fy X.K x y H Q\/Ge X.K x y H Q):=(WQ (by lia)).or (V7 hu)
theorem Eh (hu:X.A.units+64<cLine) (ha:DE X a ma) (hb:DE X b mb):DT X (.Compare a [.Eq] [b] pos) (Ao (mOp Bh ma mb)):=Fq (Q5 hu) QH ha hb (Fg _)
theorem IS (hu:X.A.units+64<cLine) (ha:DE X a ma) (hb:DE X b mb):DT X (.Compare a [.NotEq] [b] pos) (Ao (mOp Dj ma mb)):=Fq (VU hu) Y5 ha hb (Fg _)
end
theorem Xa {n:Nat} {d:D} (h:BM n d=true):deq d d=true:=SeqAt.eqv_refl _ (Dz n d h).1
end DL
namespace DL
open PySem L2
open Ev (Nm)
section
variable {X:Cx} {f:Fr} {α:Nat->Addr} {s:DS} {σ:St} {H:Hp} {a b e:Expr} {ma mb:ME} {pos p:Pos} {es:List Expr} {ms:MA}
end
end DL
namespace DL
open PySem L2
open PyProof.Rows (IntsAre boot_sum)
section
variable {X:Cx} {f:Fr} {α:Nat->Addr} {s:DS} {σ:St} {H:Hp} {a b e:Expr} {ma mb:ME} {pos p:Pos} {es:List Expr} {ms:MA}
theorem intsAre_of:∀ {ns:List Int} {us:List Value},Vals (ns.map V.int) us->IntsAre us ns
 | [],_,h=>by cases h;exact .nil
 | n::ns,_,h=>by
  cases h with
  | cons r t=>
   obtain ⟨k,rfl⟩:=r
   exact .cons n k (intsAre_of t)
theorem TX (hc:X.calm=true):CallR X (.builtin "sum") (fun xs H Q=>∃ (p:Addr) (ns:List Int),xs=[.ref p]/\SqL X.K H p (ns.map V.int)/\Q (.int ns.sum) H):=by
 intro pins s σ H xs us Q I r h
 obtain ⟨p,ns,rfl,hq,q⟩:=h
 obtain ⟨u,rfl,rx⟩:=vals1 r
 cases rx
 obtain ⟨its,ri,pl,hz⟩:=I.list hq
 have hi:=intsAre_of ri
 have hn:=hi.numsOf
 obtain ⟨xs,hx⟩:=hi.allInts.items
 have hl:=pl.isList
 rw[hx] at hl
 refine sum_intListG (I.ok.hd hc) hl fun h' tk t' hk=>⟨.int ns.sum,H,I.kept hk,⟨t',?_⟩,q⟩
 rw[preSum_eq,List.take_of_length_le (by simp),<-hn]
 have:its=(intItems xs).toList:=by rw[<-hx]
 rw[this,nums_intItems]
@[simp] def Dl:Gm->List SV->Option D:=fun Γ xs=>match xs with
 | [x]=>match elems Γ x with
  | some xs=>(intsOf xs).map fun ns=>.int ns.sum
  | _=>none
 | _=>none
theorem Vj:CaD X Dl (fun xs H Q=>∃ (p:Addr) (ns:List Int),xs=[.ref p]/\SqL X.K H p (ns.map V.int)/\Q (.int ns.sum) H):=by
 intro f α s σ H xs us z Q hf rs hu e q
 unfold Dl at e
 split at e
 ·rename_i x
  split at e
  ·rename_i ys hy
   obtain ⟨ns,hn,rfl⟩:=Ag e
   obtain ⟨v,r,rfl,h1,h2⟩:=hu.cons_inv
   rw[h2.nil_inv]
   obtain ⟨a,vs,rfl,h3,h4⟩:=BW rs hy h1
   rw[Cz hn] at h4
   rw[h4.ints] at h3
   exact ⟨a,ns,rfl,SqL.of h3,q _ H rs .refl B8⟩
  ·cases e
 ·cases e
theorem ML (hn:X.mg "sum"=none) (ha:DA X (e::es) ms) (hc:X.calm=true:=by rfl) (hg:Gl X "sum":=by rfl) (he:starEach (e::es) X.env=(false,eval e X.env)::starEach es X.env:=by rfl) (hpl:(backTo pos (starEach es X.env)).any (·.1)=false:=by rfl):DE X (.Call (.Name "sum" p) (e::es) [] pos) (AN Dl ms):=
 FS (TX hc) Vj hg hn boot_sum ha (by decide) (by decide) he hpl
end
end DL
namespace L2
open PySem PySem.SeqAt
open PySem.AutoSeq1 (wpAny_loadPart')
open PySem.MeetsSeq PySem.MeetsSeq2 PySem.MeetsSeq3
open PyProof.Rows (IntsAre IsTup)
theorem XF (l b:Addr) (items items2:Array Value) (n n2:Nat) (dd dd2:Option Addr) (sl sl2:Array (Option Value)) (ns ms:List Int) (hi:IntsAre items.toList ns) (hj:IntsAre items2.toList ms) :
  Meets (Builtin.«tuple.__ge__» ⟨[.ref l,.ref b],[]⟩)
   (fun _ R s=>s.heap.get? l=some {cls:=.type "tuple",dict:=dd,data:=.seq items n,slots:=sl}/\s.heap.get? b=some {cls:=.type "tuple",dict:=dd2,data:=.seq items2 n2,slots:=sl2} /\
    R (.ok (.ret (.bool (!HT.lexLt ns ms)))) s):=
 .of_wp fun prog w A R s h=>by
  obtain ⟨hp,g,d,tk,os⟩:=s
  obtain ⟨hl,hb,h⟩:=h
  have f2:=AutoSeq1.sub_tuple_tuple
  have z1:ns.length=items.size:=by rw[<-hi.length];simp
  have z2:ms.length=items2.size:=by rw[<-hj.length];simp
  wp_walk using wpAny_loadPart' hl,wpAny_loadPart' hb,wpAny_forIn_list _ (fun left r s'=>∃ (us vs:List Value) (ps qs:List Int),left=us.zip vs/\IntsAre us ps/\IntsAre vs qs /\
   ps.length+ms.length=qs.length+ns.length/\R (.ok (.ret (.bool (!HT.lexLt ps qs)))) ⟨hp,g,d,tk,os⟩/\r.1=none/\s'=⟨hp,g,d,tk,os⟩) _
  case turn=>
   rintro ⟨y,x⟩ left r s' ⟨us,vs,ps,qs,hz,iu,iv,hn,hR,hr,rfl⟩
   cases iu with
   | nil=>cases hz
   | cons i t iu=>
    cases iv with
    | nil=>cases hz
    | cons j k iv=>
     obtain ⟨⟨rfl,rfl⟩,rfl⟩:(y=.int i t/\x=.int j k)/\left=_:=by
      rw[List.zip_cons_cons] at hz
      injection hz with p q
      injection p with p1 p2
      exact ⟨⟨p1,p2⟩,q⟩
     rw[HT.Bz] at hR
     simp only[List.length_cons] at hn
     refine wpAny_bind (SeqAt.EqAt.int_int i t j k prog w _ _ ?_)
     by_cases c:i=j
     ·rw[if_pos c] at hR
      subst c
      rw[beq_self_eq_true]
      wp_walk
      exact ⟨_,_,_,_,rfl,iu,iv,by lia,hR,rfl,rfl⟩
     ·rw[if_neg c] at hR
      rw[show (i == j)=false from beq_false_of_ne c]
      have hge:∀ (E:Value->Shared->Prop) (Q:Value->Shared->Prop),Q (.bool (decide (j<=i))) ⟨hp,g,d,tk,os⟩->wpAny (model prog w) A.in1 (richCompare .GtE (.int i t) (.int j k)) Q E ⟨hp,g,d,tk,os⟩:=
       fun E Q h=>(PyProof.Rows.ge_int h:wpAny (model prog w) A.in1 (compareOp .GtE (.int i t) (.int j k)) Q E _)
      wp_walk using hge
      refine ⟨_,rfl,?_⟩
      have e:(!decide (i<j))=decide (j<=i):=by
       by_cases c':i<j
       ·rw[decide_eq_true c',decide_eq_false (by lia)];rfl
       ·rw[decide_eq_false c',decide_eq_true (by lia)];rfl
      rw[e] at hR
      simpa using hR
  case fin=>
   rintro ⟨b1,b2⟩ s' ⟨us,vs,ps,qs,hz,iu,iv,hn,hR,hr,rfl⟩
   simp only at hr
   subst hr
   have e:(!HT.lexLt ps qs)=decide (items2.size<=items.size):=by
    cases iu with
    | nil=>
     cases iv with
     | nil=>rw[HT.Pl,decide_eq_true (by simp at hn;lia)];rfl
     | cons _ _ _=>rw[HT.LR,decide_eq_false (by simp at hn;lia)];rfl
    | cons _ _ _=>
     cases iv with
     | nil=>rw[HT.Kc,decide_eq_true (by simp at hn;lia)];rfl
     | cons _ _ _=>cases hz
   rw[e] at hR
   wp_walk
   exact ⟨_,rfl,by simpa [Builtin.Tuple.tupleCompareSizes] using hR⟩
  case h=>
   exact ⟨_,_,ns,ms,rfl,hi,hj,by lia,h,rfl,rfl⟩
section
variable {X:Cx}
def O4 (K:PySem.W.Frag):R2:=fun x y H Q=>∃ (a b:Addr) (ns ms:List Int),x=.ref a/\y=.ref b/\SqT K H a (ns.map V.int)/\SqT K H b (ms.map V.int)/\Q (.bl (!HT.lexLt ns ms)) H
theorem Wo (hu:X.A.units<cLine):OpR X (compareOp .GtE) (O4 X.K):=by
 intro pins s σ H x y v u Q I rx ry h
 obtain ⟨a,b,ns,ms,rfl,rfl,ha,hb,q⟩:=h
 cases rx
 cases ry
 obtain ⟨is,r1,⟨⟨cls,dd,data,sl⟩,e1,e2,n,e3⟩,_⟩:=I.tuple ha
 obtain ⟨js,r2,⟨⟨cls',dd',data',sl'⟩,e1',e2',n',e3'⟩,_⟩:=I.tuple hb
 simp only at e2 e3 e2' e3'
 subst e2 e3 e2' e3'
 have i1:IntsAre is.toArray.toList ns:=DL.intsAre_of r1
 have i2:IntsAre js.toArray.toList ms:=DL.intsAre_of r2
 refine richCompare_meets_room (op:=.GtE) ⟨_,e1,rfl⟩ ⟨_,e1',rfl⟩ PySem.F.slot_tuple_ge PySem.F.entry_tuple_ge (PySem.F.args_tuple_ge_2 _ _) (XF a b _ _ n n' dd dd' sl sl' ns ms i1 i2) ⟨e1,e1',?_⟩ hu
 exact (show Value.bool (!HT.lexLt ns ms)≠Value.notImplemented/\EP X pins σ Q (.bool (!HT.lexLt ns ms)) s from ⟨fun z=>(nomatch z),.bl (!HT.lexLt ns ms),H,I,rfl,q⟩)
end
end L2
namespace DL
open PySem L2
section
variable {X:Cx} {a b:Expr} {ma mb:ME} {pos:Pos}
@[simp] def G5:Gm->SV->SV->Option D:=fun _ x y=>match x,y with
 | .v (.int i),.v (.int j)=>some (.bl (decide (j<=i)))
 | .v (.tup xs),.v (.tup ys)=>(intsOf xs).bind fun ns=>(intsOf ys).map fun ms=>.bl (!HT.lexLt ns ms)
 | _,_=>none
def L4 (K:PySem.W.Frag):R2:=fun x y H Q=>rI0 (fun i j=>.bl (decide (j<=i))) x y H Q\/O4 K x y H Q
theorem XO (hu:X.A.units<cLine):OpR X (compareOp .GtE) (L4 X.K):=op_ge.or (Wo hu)
theorem XH:OpD X G5 (L4 X.K):=by
 intro f α s σ H x y u v z Q hf rs hu hv e q
 unfold G5 at e
 split at e
 ·rename_i i j
  cases e
  exact .inl ⟨i,j,Az hu,Az hv,q _ H rs .refl CC⟩
 ·rename_i xs ys
  obtain ⟨ns,h1,e⟩:=bind_some e
  obtain ⟨ms,h2,rfl⟩:=Ag e
  have:=Cz h1
  subst this
  have:=Cz h2
  subst this
  obtain ⟨a,vs,rfl,a1,a2⟩:=Dq hu
  obtain ⟨b,us,rfl,b1,b2⟩:=Dq hv
  rw[a2.ints] at a1
  rw[b2.ints] at b1
  exact .inr ⟨a,b,ns,ms,rfl,rfl,SqT.of a1,SqT.of b1,q _ H rs .refl CC⟩
 ·cases e
theorem P2 (hu:X.A.units<cLine) (ha:DE X a ma) (hb:DE X b mb):DT X (.Compare a [.GtE] [b] pos) (Ao (mOp G5 ma mb)):=Fq (XO hu) XH ha hb (Fg _)
end
section
variable {X:Cx} {f:Fr} {α:Nat->Addr} {s:DS} {σ:St} {H:Hp} {a b:Expr} {p cp tp:Pos} {ms:MA}
end
section
variable {X:Cx} {f:Fr} {a b c:Expr} {ma mb mc:ME} {pos:Pos} {r r':R2} {g g':Gm->SV->SV->Option D}
@[simp] def Cd (g g':Gm->SV->SV->Option D) (ma mb mc:ME):ME:=fun s=>(ma s).bind fun x=>(mb x.2).bind fun y=>(g y.2.Γ x.1 y.1).bind fun z=>match z with
 | .bl true=>(mc y.2).bind fun w=>(g' w.2.Γ y.1 w.1).map fun z=>(.v z,w.2)
 | .bl false=>some (.v (.bl false),y.2)
 | _=>none
theorem W3 {σ:St} {H:Hp} {Q:VK} (hf:f.K=X.K) (hg:OpD X g r) (hg':OpD X g' r') (h:tD f (Cd g g' ma mb mc) σ H Q):K0 r r' (tD f ma) (tD f mb) (tD f mc) σ H Q:=by
 obtain ⟨α,s,out,rs,lo,e,q⟩:=h
 obtain ⟨⟨x,s1⟩,h1,e⟩:=bind_some e
 obtain ⟨⟨y,s2⟩,h2,e⟩:=bind_some e
 obtain ⟨z,hz,e⟩:=bind_some e
 refine ⟨α,s,_,rs,lo,h1,fun α1 u H1 rs1 l1 x1 hu=>⟨α1,s1,_,rs1,lo_le lo l1 x1,h2,fun α2 v H2 rs2 l2 x2 hv=>?_⟩⟩
 refine hg f α2 s2 σ H2 x y u v z _ hf rs2 (hu.ext x2) hv hz fun w H3 rs3 x3 hw=>?_
 split at e
 ·have hw':w=.bl true:=by unfold Rep at hw;exact hw
  refine ⟨true,hw',?_⟩
  rw[if_pos rfl]
  obtain ⟨⟨t,s4⟩,h4,e⟩:=bind_some e
  obtain ⟨z',hz',rfl⟩:=Ag e
  have lo2:=lo_le (lo_le lo l1 x1) l2 x2
  refine ⟨α2,s2,_,rs3,lo2,h4,fun α4 v4 H4 rs4 l4 x4 hv4=>?_⟩
  refine hg' f α4 s4 σ H4 y t v v4 z' _ hf rs4 ((hv.ext x3).ext x4) hv4 hz' fun w5 H5 rs5 x5 hw5=>?_
  exact q α4 w5 H5 rs5 (l4.trans (l2.trans l1)) ((((x1.trans x2).trans x3).trans x4).trans x5) hw5
 ·have hw':w=.bl false:=by unfold Rep at hw;exact hw
  cases e
  refine ⟨false,hw',?_⟩
  rw[if_neg Bool.false_ne_true]
  exact q α2 _ H3 rs3 (l2.trans l1) ((x1.trans x2).trans x3) (show Rep (wd f α2 s2.Γ H3) (.bl false) (.bl false) from CC)
 ·cases e
theorem Lv {op op':CmpOp} (ho:OpR X (compareOp op) r) (ho':OpR X (compareOp op') r') (hg:OpD X g r) (hg':OpD X g' r') (ha:DE X a ma) (hb:DE X b mb) (hc:DE X c mc) (hm:lastMarks [op,op'] [b,c]=false):DT X (.Compare a [op,op'] [b,c] pos) (Ao (Cd g g' ma mb mc)):=fun f hf=>
 PT.imp (Xe ho ho' (ha f hf) (hb f hf) (hc f hf) hm) fun σ H Q hh_=>by
  obtain ⟨α,s,r',rs,lo,e,q⟩:=hh_
  obtain ⟨x,h1,e⟩:=bind_some e
  obtain ⟨k,h2,rfl⟩:=Ag e
  exact W3 hf hg hg' ⟨α,s,x,rs,lo,h1,fun α' v H' rs' l' ex hv=>⟨k,Gh h2 hv,q α' H' rs' l' ex⟩⟩
end
section
variable {X:Cx} {f:Fr} {e:Expr} {pos p:Pos} {es:List Expr} {ms:MA}
end
section
variable {X:Cx} {f:Fr} {a b c:Expr} {ma mb mc:ME} {pos:Pos} {x:Str} {i:Int}
theorem Wr (h:∃ t,X.mg x=some (.int i t)) (hg:Gl X x:=by rfl) (hd:(x == ("__debug__":Str))=false:=by decide):DE X (.Name x pos) (mC (.int i)):=by
 obtain ⟨t,h⟩:=h
 exact Gj (QK (v:=.int i) hg h ⟨t,rfl⟩ hd) fun W=>by unfold Rep;rfl
theorem S8:OpR X (compareOp .LtE) (fun x y H Q=>∃ i j:Str,x=.str i/\y=.str j/\Q (.bl (!decide (j.cps.toList<i.cps.toList))) H):=by
 intro pins s σ H x y v u Q I rx ry h
 obtain ⟨i,j,rfl,rfl,q⟩:=h
 obtain ⟨t,rfl⟩:=rx
 obtain ⟨t',rfl⟩:=ry
 exact PySem.P.le_str (A1 I q rfl)
@[simp] def Eg:Gm->SV->SV->Option D:=fun _ x y=>match x,y with
 | .v (.int i),.v (.int j)=>some (.bl (decide (i<=j)))
 | .v (.str i),.v (.str j)=>some (.bl (!decide (j.cps.toList<i.cps.toList)))
 | _,_=>none
abbrev Mw:R2:=fun x y H Q=>rI0 (fun i j=>.bl (decide (i<=j))) x y H Q\/(∃ i j:Str,x=.str i/\y=.str j/\Q (.bl (!decide (j.cps.toList<i.cps.toList))) H)
theorem MV:OpR X (compareOp .LtE) Mw:=op_le.or S8
theorem O9:OpD X Eg Mw:=by
 intro f α s σ H x y u v z Q hf rs hu hv e q
 unfold Eg at e
 split at e
 ·rename_i i j
  cases e
  exact .inl ⟨i,j,Az hu,Az hv,q _ H rs .refl CC⟩
 ·rename_i i j
  cases e
  exact .inr ⟨i,j,C4 hu,C4 hv,q _ H rs .refl CC⟩
 ·cases e
theorem TH (ha:DE X a ma) (hb:DE X b mb) (hc:DE X c mc) (hm:lastMarks [.LtE,.LtE] [b,c]=false:=by with_unfolding_all rfl):DT X (.Compare a [.LtE,.LtE] [b,c] pos) (Ao (Cd Eg Eg ma mb mc)):=Lv MV MV O9 O9 ha hb hc hm
theorem VA (hu:X.A.units<cLine) (ha:DE X a ma) (hb:DE X b mb) (hc:DE X c mc) (hm:lastMarks [.Lt,.Lt] [b,c]=false:=by with_unfolding_all rfl):DT X (.Compare a [.Lt,.Lt] [b,c] pos) (Ao (Cd BN BN ma mb mc)):=Lv (J9 hu) (J9 hu) KS KS ha hb hc hm
end
end DL
namespace L2
open PySem
end L2
namespace DL
open PySem L2
section
variable {X:Cx} {f:Fr} {a tg:Expr}
end
end DL
namespace L2
open PySem PySem.Spec PyProof.Rows
section
variable {X:Cx} {tg:Expr}
end
end L2
namespace DL
open PySem L2
section
variable {X:Cx} {f:Fr} {a b c tg:Expr} {pos:Pos}
end
end DL
namespace L2
open PySem PySem.Spec PyProof.Rows
section
variable {X:Cx}
def thV (H:Hp):V->Int×Str
 | .ref a=>match H a with
  | some (.tup [.int k,.str x])=>(k,x)
  | _=>(0,"")
 | _=>(0,"")
def IB (K:PySem.W.Frag):List V->Hp->VK->Prop:=fun xs H Q=>∃ p vs,xs=[.ref p]/\SqL K H p vs/\(∀ v∈vs,∃ a k x,v=.ref a/\H a=some (.tup [.int k,.str x])) /\
 ∀ l (ws:List V),H l=none->ws.Perm vs->ws.Pairwise (fun u v=>EvS.BU (thV H v) (thV H u)=false)->Q (.ref l) (upd H l (.lst ws))
theorem P7:CallR X (.builtin "sorted") (IB X.K):=by
 intro pins s σ H xs us Q I r h
 obtain ⟨p,vs,rfl,hq,hv,q⟩:=h
 obtain ⟨u,rfl,ru⟩:=vals1 r
 cases ru
 obtain ⟨its,rv,pl,hz⟩:=I.list hq
 have hl:=rv.length
 obtain ⟨e1,e2⟩:=JJ rv fun v hvm=>let ⟨a,k,x,e,_⟩:=hv v hvm;⟨a,e⟩
 refine EvS.Ta (fun u=>thV H (addrOf u)) pl.isList (fun u hu=>?_) (by lia) fun out b1 b2=>?_
 ·have hm:addrOf u∈vs:=by rw[e1];exact List.mem_map.mpr ⟨u,hu,rfl⟩
  obtain ⟨a,k,x,e3,e4⟩:=hv _ hm
  obtain ⟨b,rfl⟩:=e2 u hu
  have:b=a:=by injection e3
  subst this
  obtain ⟨_,its2,r2,o,ho,hc,n,hd⟩:=I.hok b _ e4
  have en:thV H (addrOf (.ref b))=(k,x):=by
   show (match H b with | some (.tup [.int k,.str x])=>(k,x) | _=>(0,""))=(k,x)
   rw[e4]
  cases r2 with
  | cons r1 r3=>
   cases r3 with
   | cons r4 r5=>
    cases r5
    obtain ⟨t,rfl⟩:=r1
    obtain ⟨t',rfl⟩:=r4
    exact ⟨b,o,n,t,t',rfl,ho,hc,by dsimp only;rw[en];exact hd⟩
 ·obtain ⟨e,he⟩:=sortedAll_at s.heap its out
  have hn:H (s.heap.objs.size+1)=none:=I.hok.fresh (Nat.le_succ _)
  have er:∀ u∈out.toList,∃ a,u=.ref a:=fun u hu=>e2 u (b1.mem_iff.mp hu)
  have pw:(out.toList.map addrOf).Perm vs:=by rw[e1];exact b1.map addrOf
  refine ⟨.ref (s.heap.objs.size+1),_,I.laid (t':=s.toks) (o:=.lst (out.toList.map addrOf)) (fun b u q=>sortedAll_old q) (Nat.le_succ _) ⟨?_,out.toList,e,Jc er,?_⟩,rfl,q _ _ hn pw ?_⟩
  ·rw[pw.length_eq];exact hz
  ·simpa using he
  ·rw[List.pairwise_map]
   exact b2
theorem MB (hc:X.calm=true):CallR X (.builtin "max") (fun xs H Q=>∃ (p:Addr) (ns:List Int),xs=[.ref p]/\SqL X.K H p (ns.map V.int)/\ns≠[]/\∀ M,M∈ns->(∀ a∈ns,a<=M)->Q (.int M) H):=by
 intro pins s σ H xs us Q I r h
 obtain ⟨p,ns,rfl,hq,hne,q⟩:=h
 obtain ⟨u,rfl,rx⟩:=vals1 r
 cases rx
 obtain ⟨its,ri,pl,hz⟩:=I.list hq
 have hi:=intsAre_of ri
 have hn:=hi.numsOf
 obtain ⟨xs,hx⟩:=hi.allInts.items
 have hl:=pl.isList
 rw[hx] at hl
 have hnum:numsOf (intItems xs).toList=ns:=by rw[<-hn,<-hx]
 rw[nums_intItems] at hnum
 have hsz:0<xs.size:=by
  have:=congrArg List.length hnum
  rw[List.length_map,Array.length_toList] at this
  have:=List.length_pos_iff.mpr hne
  lia
 refine max_intList (I.ok.hd hc) hl hsz fun v h' tk hv hk=>?_
 obtain ⟨t,rfl⟩:=intItems_at hv
 obtain ⟨h1,h2⟩:=argBest_gt (numAt xs) (xs.size - 1)
 refine ⟨.int _,H,I.kept hk,⟨t,rfl⟩,q _ ?_ fun a ha=>?_⟩
 ·rw[<-hnum,numAt_eq];exact getD_mem (by rw[List.length_map,Array.length_toList];lia)
 ·rw[<-hnum] at ha
  obtain ⟨j,hj,rfl⟩:=mem_getD ha
  rw[List.length_map,Array.length_toList] at hj
  rw[<-numAt_eq];exact h2 j (by lia)
end
end L2
namespace DL
open PySem L2
open PyProof.Rows (boot_max)
section
variable {X:Cx} {f:Fr} {α:Nat->Addr} {s:DS} {σ:St} {H:Hp} {a b e:Expr} {ma mb:ME} {pos p:Pos} {es:List Expr} {ms:MA}
def thW (t:Int×Str):D:=.tup [.int t.1,.str t.2]
def Dx:List D->Option (List (Int×Str))
 | []=>some []
 | .tup [.int k,.str x]::r=>(Dx r).map ((k,x)::·)
 | _=>none
theorem Km:∀ {xs:List D} {ts:List (Int×Str)},Dx xs=some ts->xs=ts.map thW
 | [],ts,e=>by cases e;rfl
 | d::r,ts,e=>by
  unfold Dx at e
  split at e
  ·rename_i h;cases h
  ·rename_i k x r' h
   cases h
   obtain ⟨us,h1,rfl⟩:=Ag e
   rw[Km h1]
   rfl
  ·cases e
theorem MK:∀ ts:List (Int×Str),Dx (ts.map thW)=some ts
 | []=>rfl
 | t::ts=>by
  show (Dx (ts.map thW)).map _=_
  rw[MK ts]
  rfl
def Ec (x:Int×Str):List (Int×Str)->List (Int×Str)
 | []=>[x]
 | y::r=>if EvS.BU y x=true then y::Ec x r else x::y::r
def Cv:List (Int×Str)->List (Int×Str)
 | []=>[]
 | x::r=>Ec x (Cv r)
theorem Ja (x:Int×Str):∀ r,(Ec x r).Perm (x::r)
 | []=>.refl _
 | y::r=>by
  unfold Ec
  split
  ·exact ((Ja x r).cons y).trans (.swap x y r)
  ·exact .refl _
theorem GS:∀ r,(Cv r).Perm r
 | []=>.refl _
 | x::r=>(Ja x _).trans ((GS r).cons x)
abbrev Es (r:List (Int×Str)):Prop:=r.Pairwise fun u v=>EvS.BU v u=false
theorem Oc (x:Int×Str):∀ r,Es r->Es (Ec x r)
 | [],_=>List.pairwise_singleton _ _
 | y::r,h=>by
  unfold Ec
  obtain ⟨h1,h2⟩:=List.pairwise_cons.mp h
  split
  ·rename_i c
   refine List.pairwise_cons.mpr ⟨fun k hk=>?_,Oc x r h2⟩
   rcases List.mem_cons.mp ((Ja x r).mem_iff.mp hk) with rfl | hk
   ·exact EvS.NJ c
   ·exact h1 k hk
  ·rename_i c
   have c':EvS.BU y x=false:=by cases hc:EvS.BU y x with | false=>rfl | true=>exact absurd hc c
   refine List.pairwise_cons.mpr ⟨fun k hk=>?_,h⟩
   rcases List.mem_cons.mp hk with rfl | hk
   ·exact c'
   ·exact EvS.NL c' (h1 k hk)
theorem Oy:∀ r,Es (Cv r)
 | []=>.nil
 | x::r=>Oc x _ (Oy r)
theorem Vr {xs ys:List (Int×Str)} (p:xs.Perm ys) (hx:Es xs) (hy:Es ys):xs=ys:=
 p.eq_of_pairwise (fun a b _ _ h1 h2=>EvS.Vv h1 h2) hx hy
@[simp] def BH:Gm->List SV->Option (List D):=fun Γ xs=>match CQ Γ xs with
 | some z=>some z
 | none=>match xs with
  | [x]=>(elems Γ x).bind fun xs=>(Dx xs).map fun ts=>(Cv ts).map thW
  | _=>none
theorem XS:CallR X (.builtin "sorted") (fun xs H Q=>GJ X.K xs H Q\/IB X.K xs H Q):=call_sortedA.or P7
theorem Nh {W:Wd} {t:Int×Str} {v:V} (h:Rep W (thW t) v):∃ a,v=.ref a/\W.H a=some (.tup [.int t.1,.str t.2]):=by
 unfold thW Rep at h
 obtain ⟨a,vs,e,_,h1,h2⟩:=h
 obtain ⟨v1,r1,rfl,q1,q2⟩:=h2.cons_inv
 obtain ⟨v2,r2,rfl,q3,q4⟩:=q2.cons_inv
 rw[q4.nil_inv] at h1
 unfold Rep at q1 q3
 subst q1 q3
 exact ⟨a,e,h1⟩
theorem Lg {W:Wd} {t:Int×Str} {v:V} (h:Rep W (thW t) v):thV W.H v=t:=by
 obtain ⟨a,rfl,h1⟩:=Nh h
 show (match W.H a with | some (.tup [.int k,.str x])=>(k,x) | _=>(0,""))=t
 rw[h1]
theorem PD {W:Wd}:∀ {ts:List (Int×Str)} {vs:List V},Reps W (ts.map thW) vs->vs.map (thV W.H)=ts/\∀ v∈vs,Rep W (thW (thV W.H v)) v
 | [],vs,h=>by rw[h.nil_inv];exact ⟨rfl,fun _ h=>nomatch h⟩
 | t::r,vs,h=>by
  obtain ⟨v,q,rfl,h1,h2⟩:=Reps.cons_inv (d:=thW t) (ds:=r.map thW) h
  obtain ⟨h3,h4⟩:=PD h2
  refine ⟨by rw[List.map_cons,h3,Lg h1],fun u hu=>?_⟩
  rcases List.mem_cons.mp hu with rfl | hu
  ·rw[Lg h1];exact h1
  ·exact h4 u hu
theorem M9 {W:Wd}:∀ {ws:List V},(∀ v∈ws,Rep W (thW (thV W.H v)) v)->Reps W ((ws.map (thV W.H)).map thW) ws
 | [],_=>.nil
 | w::ws,h=>.cons (h w List.mem_cons_self) (M9 fun v hv=>h v (List.mem_cons_of_mem _ hv))
theorem Uz:CaF X BH (fun xs H Q=>GJ X.K xs H Q\/IB X.K xs H Q):=by
 intro f α s σ H xs us z Q hf rs hu e q
 unfold BH at e
 split at e
 ·rename_i z' h0
  cases e
  exact .inl (NT f α s σ H xs us z Q hf rs hu h0 q)
 ·split at e
  ·obtain ⟨xs,h0,e⟩:=bind_some e
   obtain ⟨ts,h5,rfl⟩:=Ag e
   obtain ⟨v,r,rfl,h1,h2⟩:=hu.cons_inv
   rw[h2.nil_inv]
   obtain ⟨a,vs,rfl,h3,h4⟩:=BW rs h0 h1
   have h6:=Km h5
   subst h6
   obtain ⟨n1,n2⟩:=PD h4
   refine .inr ⟨a,vs,rfl,SqL.of h3,fun v hv=>?_,fun l ws hl hp hs=>q l _ hl ?_⟩
   ·obtain ⟨b,e1,e2⟩:=Nh (n2 v hv)
    exact ⟨b,_,_,e1,e2⟩
   ·have e1:ws.map (thV H)=Cv ts:=Vr (((hp.map (thV H)).trans (by rw[n1])).trans (GS ts).symm) (by rw[Es,List.pairwise_map];exact hs) (Oy ts)
    rw[<-e1]
    exact M9 fun v hv=>n2 v (hp.mem_iff.mp hv)
  ·cases e
def BA:List Int->Int
 | []=>0
 | [x]=>x
 | x::y::r=>if BA (y::r) > x then BA (y::r) else x
theorem E8:∀ {ns:List Int},ns≠[]->BA ns∈ns/\∀ a∈ns,a<=BA ns
 | [],h=>absurd rfl h
 | [x],_=>⟨by simp[BA],fun a ha=>by rw[List.mem_singleton] at ha;subst ha;exact Int.le_refl _⟩
 | x::y::r,_=>by
  obtain ⟨h1,h2⟩:=E8 (ns:=y::r) (by simp)
  unfold BA
  split
  ·rename_i c
   refine ⟨List.mem_cons_of_mem _ h1,fun a ha=>?_⟩
   rcases List.mem_cons.mp ha with rfl | ha
   ·lia
   ·exact h2 a ha
  ·rename_i c
   refine ⟨List.mem_cons_self,fun a ha=>?_⟩
   rcases List.mem_cons.mp ha with rfl | ha
   ·exact Int.le_refl _
   ·have:=h2 a ha;lia
@[simp] def DZ:Gm->List SV->Option D:=fun Γ xs=>match xs with
 | [x]=>match elems Γ x with
  | some xs=>(intsOf xs).bind fun ns=>if ns=[] then none else some (.int (BA ns))
  | _=>none
 | _=>none
theorem SN:CaD X DZ (fun xs H Q=>∃ (p:Addr) (ns:List Int),xs=[.ref p]/\SqL X.K H p (ns.map V.int)/\ns≠[]/\∀ M,M∈ns->(∀ a∈ns,a<=M)->Q (.int M) H):=by
 intro f α s σ H xs us z Q hf rs hu e q
 unfold DZ at e
 split at e
 ·rename_i x
  split at e
  ·rename_i ys hy
   obtain ⟨ns,hn,e⟩:=bind_some e
   split at e
   ·cases e
   ·rename_i hne
    cases e
    obtain ⟨v,r,rfl,h1,h2⟩:=hu.cons_inv
    rw[h2.nil_inv]
    obtain ⟨a,vs,rfl,h3,h4⟩:=BW rs hy h1
    rw[Cz hn] at h4
    rw[h4.ints] at h3
    refine ⟨a,ns,rfl,SqL.of h3,hne,fun M hM hle=>?_⟩
    obtain ⟨g1,g2⟩:=E8 hne
    have:M=BA ns:=Int.le_antisymm (g2 M hM) (hle _ g1)
    subst this
    exact q _ H rs .refl B8
  ·cases e
 ·cases e
theorem Oh (hn:X.mg "max"=none) (ha:DA X (e::es) ms) (hc:X.calm=true:=by rfl) (hg:Gl X "max":=by rfl) (he:starEach (e::es) X.env=(false,eval e X.env)::starEach es X.env:=by rfl) (hpl:(backTo pos (starEach es X.env)).any (·.1)=false:=by rfl):DE X (.Call (.Name "max" p) (e::es) [] pos) (AN DZ ms):=
 FS (MB hc) SN hg hn boot_max ha (by decide) (by decide) he hpl
end
end DL
namespace DL
open PySem L2 Ev
section
variable {X:Cx} {st:Stmt} {pos p:Pos} {e:Expr} {es:List Expr} {ms:MA}
theorem ES (T:Nm X.mg) (ha:DA X (e::es) ms) (hg:Gl X "sorted":=by rfl) (he:starEach (e::es) X.env=(false,eval e X.env)::starEach es X.env:=by rfl) (hpl:(backTo pos (starEach es X.env)).any (·.1)=false:=by rfl):DF X (.Call (.Name "sorted" p) (e::es) [] pos) (A3 BH ms):=
 PK XS Uz hg T.sorted PyProof.Rows.boot_sorted ha (by decide) (by decide) he hpl
theorem VV:DSt X st fun _=>none:=fun f hf=>PS.imp QO fun E σ H ⟨α,s,o,rs,lo,e,q⟩=>by cases e
end
end DL
namespace L2
open PySem PySem.SeqAt
open PySem.AutoSeq1 (wpAny_loadPart')
open PySem.MeetsSeq PySem.MeetsSeq2 PySem.MeetsSeq3
open PyProof.Rows (IntsAre IsTup)
section
variable {X:Cx}
end
end L2
namespace DL
open PySem L2
section
variable {X:Cx} {a b:Expr} {ma mb:ME} {pos:Pos}
@[simp] def ZP:Gm->SV->SV->Option D:=fun _ x y=>match x,y with
 | .v (.int i),.v (.int j)=>some (.bl (decide (j<i)))
 | .v (.tup xs),.v (.tup ys)=>(intsOf xs).bind fun ns=>(intsOf ys).map fun ms=>.bl (HT.lexLt ms ns)
 | _,_=>none
variable {c:Expr} {mc:ME}
end
end DL
namespace SL
open PySem
def Ris (t:SetTable):Prop:=t.plain=true->t.place.toList.Pairwise (·<·)
theorem Ga {xs:Array Nat} (h:xs.toList.Pairwise (·<·)) {i j:Nat} (hij:i<j) (hj:j<xs.size):xs.getD i 0<xs.getD j 0:=by
 have hi:i<xs.size:=by lia
 have:=List.pairwise_iff_getElem.mp h i j (by simpa using hi) (by simpa using hj) hij
 simpa [Array.getD,hi,hj] using this
theorem Rr {xs:Array Nat} (h:xs.toList.Pairwise (·<·)) (j:Nat):∀ (fuel lo hi:Nat),hi - lo<=fuel->lo<=hi->hi<=xs.size->(∀ i,i<lo->xs.getD i 0<j)->(∀ i,hi<=i->i<xs.size->j<=xs.getD i 0) ->
  (∀ i,i<SetTable.below.go xs j fuel lo hi->xs.getD i 0<j)/\(∀ i,SetTable.below.go xs j fuel lo hi<=i->i<xs.size->j<=xs.getD i 0)/\SetTable.below.go xs j fuel lo hi<=xs.size:=by
 intro fuel
 induction fuel with
 | zero=>
  intro lo hi h1 h2 h3 h4 h5
  have:lo=hi:=by lia
  subst this
  unfold SetTable.below.go
  exact ⟨h4,h5,h3⟩
 | succ n ih=>
  intro lo hi h1 h2 h3 h4 h5
  unfold SetTable.below.go
  by_cases c:lo<hi
  ·rw[if_pos c]
   have hm:(lo+hi) / 2<xs.size:=by lia
   have hg:xs.getD ((lo+hi) / 2) j=xs.getD ((lo+hi) / 2) 0:=by simp[Array.getD,hm]
   dsimp only
   rw[hg]
   by_cases c2:xs.getD ((lo+hi) / 2) 0<j
   ·rw[if_pos c2]
    refine ih ((lo+hi) / 2+1) hi (by lia) (by lia) h3 (fun i hi'=>?_) h5
    by_cases e:i=(lo+hi) / 2
    ·rw[e];exact c2
    ·exact Nat.lt_trans (Ga h (by lia) hm) c2
   ·rw[if_neg c2]
    refine ih lo ((lo+hi) / 2) (by lia) (by lia) (by lia) h4 fun i hi' hs=>?_
    by_cases e:i=(lo+hi) / 2
    ·rw[e];lia
    ·have:=Ga h (i:=(lo+hi) / 2) (j:=i) (by lia) hs
     lia
  ·rw[if_neg c]
   have:lo=hi:=by lia
   subst this
   exact ⟨h4,h5,h3⟩
theorem Ic {xs:Array Nat} (h:xs.toList.Pairwise (·<·)) (j:Nat):(∀ i,i<SetTable.below xs j->xs.getD i 0<j)/\(∀ i,SetTable.below xs j<=i->i<xs.size->j<=xs.getD i 0)/\SetTable.below xs j<=xs.size:=
 Rr h j xs.size 0 xs.size (by lia) (by lia) (Nat.le_refl _) (fun i h=>by lia) (fun i h h'=>by lia)
theorem Xx {xs:Array Nat} (h:xs.toList.Pairwise (·<·)) {i:Nat} (hi:i<xs.size):SetTable.below xs (xs.getD i 0+1)=i+1:=by
 obtain ⟨h1,h2,h3⟩:=Ic h (xs.getD i 0+1)
 generalize SetTable.below xs (xs.getD i 0+1)=b at *
 by_cases c:b<=i
 ·have:=h2 i c hi;lia
 ·by_cases c2:b=i+1
  ·exact c2
  ·have:=h1 (i+1) (by lia)
   have:=Ga h (i:=i) (j:=i+1) (by lia) (by lia)
   lia
theorem Wm {xs:Array Nat} (h:xs.toList.Pairwise (·<·)):SetTable.below xs 0=0:=by
 obtain ⟨h1,h2,h3⟩:=Ic h 0
 generalize SetTable.below xs 0=b at *
 by_cases c:b=0
 ·exact c
 ·have:=h1 0 (by lia);lia
theorem WO {xs:Array Nat} (h:xs.toList.Pairwise (·<·)) {j:Nat} (hj:xs[SetTable.below xs j]?≠some j):(SetTable.insertAt xs (SetTable.below xs j) j).toList.Pairwise (·<·):=by
 obtain ⟨h1,h2,h3⟩:=Ic h j
 rw[SetTable.toList_insertAt]
 generalize hb:SetTable.below xs j=b at *
 have e:=List.take_append_drop b xs.toList
 have hp:=h
 rw[<-e,List.pairwise_append] at hp
 obtain ⟨p1,p2,p3⟩:=hp
 have lo:∀ x∈xs.toList.take b,x<j:=fun x hx=>by
  obtain ⟨i,hi,rfl⟩:=List.mem_take_iff_getElem.mp hx
  have hi2:i<xs.size:=by have:i<xs.toList.length:=by lia
                         simpa using this
  have:=h1 i (by lia)
  simpa [Array.getD,hi2] using this
 have hi:∀ x∈xs.toList.drop b,j<x:=fun x hx=>by
  obtain ⟨i,hi,rfl⟩:=List.mem_drop_iff_getElem.mp hx
  have hi2:i+b<xs.size:=by simpa using hi
  have hb2:b<xs.size:=by lia
  have q:=h2 b (Nat.le_refl _) hb2
  have qe:xs[b]?=some (xs.getD b 0):=by simp[Array.getD,hb2]
  have qn:xs.getD b 0≠j:=fun z=>hj (by rw[qe,z])
  have g:xs.getD b 0<=xs.getD (b+i) 0:=by
   by_cases c:i=0
   ·subst c;exact Nat.le_refl _
   ·exact Nat.le_of_lt (Ga h (by lia) (by lia))
  have hget:xs.getD (b+i) 0=xs.toList[b+i]'(by simp;lia):=by simp[Array.getD,show b+i<xs.size by lia]
  rw[hget] at g
  lia
 rw[List.pairwise_append]
 refine ⟨p1,List.pairwise_cons.mpr ⟨hi,p2⟩,fun x hx y hy=>?_⟩
 rcases List.mem_cons.mp hy with rfl | hy
 ·exact lo x hx
 ·exact Nat.lt_trans (lo x hx) (hi y hy)
theorem Pn {t:SetTable} {j:Nat} (h:t.slot j=.empty\/t.slot j=.dummy):t.place[SetTable.below t.place j]?≠some j:=by
 intro e
 have:t.slot j=.live (SetTable.below t.place j):=by
  unfold SetTable.slot
  dsimp only
  rw[if_pos (by rw[e];simp)]
 rcases h with h | h<;>rw[this] at h<;>cases h
theorem Yv {t:SetTable} {f:Nat->Int} {h:Int}:∀ (fuel:Nat) (p:SetTable.Probe) {j:Nat} {d:Option Nat},(∀ d',p.dummy=some d'->t.slot d'=.dummy)->SetTable.probe.go t f h fuel p=some (.empty j d)->t.slot j=.empty/\∀ d',d=some d'->t.slot d'=.dummy:=by
 have adv:∀ p:SetTable.Probe,(t.advance p).dummy=p.dummy:=fun p=>by
  unfold SetTable.advance
  split<;>rfl
 intro fuel
 induction fuel with
 | zero=>intro p j d _ e;cases e
 | succ n ih=>
  intro p j d hp e
  unfold SetTable.probe.go at e
  split at e
  ·rename_i hs
   cases e
   exact ⟨hs,hp⟩
  ·rename_i hs
   refine ih _ (fun d' hd=>?_) e
   rw[adv] at hd
   cases hd
   exact hs
  ·split at e
   ·cases e
   ·exact ih _ (fun d' hd=>hp d' (by rw[adv] at hd;exact hd)) e
theorem Y9 {t:SetTable} {h:Int} {j:Nat} {b:Bool} (e:t.freeSlot h=some (j,b)):t.place[SetTable.below t.place j]?≠some j:=by
 unfold SetTable.freeSlot at e
 split at e
 case h_2=>cases e
 rename_i j' d he
 obtain ⟨q1,q2⟩:=Yv _ _ (fun d' hd=>by cases hd) he
 cases e
 cases d with
 | none=>exact Pn (.inl q1)
 | some d'=>exact Pn (.inr (q2 d' rfl))
theorem GL (t:SetTable) (n:Nat):Ris (t.standIn n)/\(t.standIn n).led=t.led:=⟨(fun z=>by cases z),rfl⟩
theorem YB {t:SetTable} {es:Array (Int×Value)} {h:Int} {x:Value} (r:Ris t):Ris (layNew t es h x).2.1/\(layNew t es h x).2.1.led=t.led:=by
 unfold layNew
 split
 ·rename_i slot w he
  dsimp only
  unfold SetTable.orStandIn
  split
  ·exact ⟨fun z=>WO (r z) (Y9 he),rfl⟩
  ·exact GL _ _
 ·exact GL _ _
theorem S3 {t:SetTable} {es:Array (Int×Value)} {n:Nat}:Ris (relayAll t es n).2.1/\(relayAll t es n).2.1.led=t.led:=by
 unfold relayAll
 split
 ·rename_i t' order he
  dsimp only
  split
  ·unfold SetTable.relaid SetTable.laid at he
   cases hl:SetTable.layClean (SetTable.sizeAbove n - 1) (es.map (·.1)) with
   | none=>rw[hl] at he;cases he
   | some owner=>
    rw[hl] at he
    cases he
    refine ⟨fun _=>?_,rfl⟩
    show (List.map (fun x:Nat×Nat=>x.1) (List.filterMap (fun j=>Option.map (fun x=>(j,x)) (owner.getD j none)) (List.range (SetTable.sizeAbove n - 1+1)))).Pairwise (·<·)
    rw[List.map_filterMap]
    refine List.Pairwise.filterMap _ (S:=(·<·)) (R:=(·<·)) (fun a a' haa b hb b' hb'=>?_) List.pairwise_lt_range
    have g:∀ (c:Nat) (d:Nat),(Option.map (fun x:Nat×Nat=>x.1) (Option.map (fun q=>(c,q)) (owner.getD c none)))=some d->d=c:=fun c d z=>by
     cases y:owner.getD c none with
     | none=>rw[y] at z;cases z
     | some q=>rw[y] at z;cases z;rfl
    rw[g a b hb,g a' b' hb']
    exact haa
  ·exact GL _ _
 ·exact GL _ _
end SL
namespace SL
open PySem PySem.Spec PyProof.Rows
def kv:Value->Int
 | .int k _=>k
 | _=>0
structure SG (prog:Program) (w:World) (o:Obj) (ns:List Int) (es:Array (Int×Value)) (ep:Nat) (t:SetTable):Prop where
 ex:o.ExactSet
 dat:o.data=.set es ep t
 el:ElemsOf (intKind prog w) es.toList
 pm:(es.toList.map fun e=>kv e.2).Perm ns
 sz:es.size<scanBound
 fit:t.fits es.size=true
 ris:Ris t
 led:t.led=!w.params.followText "set-order"
def Bp (prog:Program) (w:World) (h:Heap) (a:Addr) (ns:List Int):Prop:=∃ o es ep t,h.get? a=some o/\SG prog w o ns es ep t
def Bm (ns:List Int) (k:Int):List Int:=if k∈ns then ns else ns++[k]
section
variable {prog:Program} {w:World} {A:Around} {E:Value->Shared->Prop} {s:Shared}
theorem OW {l:List (Int×Value)} (h:ElemsOf (intKind prog w) l) {e:Int×Value} (he:e∈l):∃ t,e.2=.int (kv e.2) t:=by
 obtain ⟨⟨k,hk,_⟩,_⟩:=h e he
 obtain ⟨t,e2⟩:=Value.isInt_shape hk
 exact ⟨t,by rw[e2];rfl⟩
theorem OT {l:List (Int×Value)} (h:ElemsOf (intKind prog w) l) {e:Int×Value} (he:e∈l) {k:Int}:(intKind prog w).is k e.2=true↔kv e.2=k:=by
 obtain ⟨t,q⟩:=OW h he
 constructor
 ·intro z
  obtain ⟨t2,e2⟩:=Value.isInt_shape z
  rw[e2];rfl
 ·intro z
  rw[q,z]
  exact intKind_is _ _ _ _
theorem stored {h:Heap} {a:Addr} {o:Obj} {es es2:Array (Int×Value)} {ep:Nat} {t t2:SetTable} (ho:h.get? a=some o) (hd:o.data=.set es ep t):(h.update a (Obj.putSet es2 t2)).get? a=some {o with data:=.set es2 (ep+1) t2}:=by
 have q:=Heap.get?_update_self (Obj.putSet es2 t2) ho (by rw[putSet_of es2 t2 hd];rfl)
 rw[putSet_of es2 t2 hd] at q
 exact q
theorem ZM {b:Bool} {s₁:Shared} {Q':Unit->Shared->Prop} (hq:Q' () s₁):wpAny (model prog w) A (match b with | true=>rule "set.scan.the-table-gave-way" | false=>pure ()) Q' E s₁:=by
 cases b
 ·exact wpAny_pure hq
 ·exact wpAny_rule hq
theorem O1 {g:Bool->Sem Unit} (hg:∀ (b:Bool) (s₁:Shared) (Q':Unit->Shared->Prop),Q' () s₁->wpAny (model prog w) A (g b) Q' E s₁) {a:Addr} {o:Obj} {es es1:Array (Int×Value)} {ep:Nat} {t t1:SetTable} {ns:List Int} {dm:Bool} {R:Option Bool->Shared->Prop}
  (ho:s.heap.get? a=some o) (hd:o.data=.set es ep t) (g1:SG prog w {o with data:=.set es1 (ep+1) t1} ns es1 (ep+1) t1) (h:∀ h',Heap.SameBut a s.heap h'->Bp prog w h' a ns->R (some true) {s with heap:=h'}) :
  wpAny (model prog w) A (do
    storeSet a es1 t1
    if (!dm && t1.tooFull)=true then do
      g (relayAll t1 es1 (SetTable.grown es1.size)).2.2
      storeSet a (relayAll t1 es1 (SetTable.grown es1.size)).1 (relayAll t1 es1 (SetTable.grown es1.size)).2.1
      pure (some true)
     else pure (some true)) R E s:=by
 have ho1:=stored (es2:=es1) (t2:=t1) ho hd
 refine wpAny_bind (wpAny_storeSet_of ho hd ?_ (fits_of_scanBound g1.sz))
 by_cases c:(!dm && t1.tooFull)=true
 ·rw[if_pos c]
  have p:=relayAll_perm t1 es1 (SetTable.grown es1.size)
  have f:=relayAll_fits t1 es1 (SetTable.grown es1.size)
  obtain ⟨r1,r2⟩:=S3 (t:=t1) (es:=es1) (n:=SetTable.grown es1.size)
  generalize relayAll t1 es1 (SetTable.grown es1.size)=L at p f r1 r2 ⊢
  obtain ⟨es2,t2,gv⟩:=L
  dsimp only at p f r1 r2 ⊢
  have z:es2.size=es1.size:=by rw[<-Array.length_toList,p.length_eq,Array.length_toList]
  have b2:es2.size<scanBound:=by rw[z];exact g1.sz
  have ho2:=stored (es2:=es2) (t2:=t2) ho1 rfl
  refine wpAny_bind (hg _ _ _ (wpAny_bind (wpAny_storeSet_of ho1 rfl ?_ (fits_of_scanBound b2))))
  exact wpAny_pure (h _ ((Heap.SameBut.update s.heap a _).trans (Heap.SameBut.update _ a _)) ⟨_,es2,_,t2,ho2,g1.ex,rfl,g1.el.perm p,(p.map _).trans g1.pm,b2,f,r1,by rw[r2];exact g1.led⟩)
 ·rw[if_neg c]
  exact wpAny_pure (h _ (Heap.SameBut.update s.heap a _) ⟨_,es1,_,t1,ho1,g1⟩)
theorem Tn {a:Addr} {ns:List Int} {k:Int} {tk:Tok} {Q:Bool->Shared->Prop} (hS:Bp prog w s.heap a ns) (hroom:ns.length+1<scanBound) (h:∀ h' b,Heap.SameBut a s.heap h'->Bp prog w h' a (Bm ns k)->Q b {s with heap:=h'}) :
  wpAny (model prog w) A (setAddHashed a (.int k tk) ((intKind prog w).hash k)) Q E s:=by
 obtain ⟨o,es,ep,t,ho,g⟩:=hS
 have hkey:(intKind prog w).is k (.int k tk)=true:=intKind_is _ _ _ _
 have hsz:es.size=ns.length:=by have:=g.pm.length_eq;rw[List.length_map,Array.length_toList] at this;exact this
 have hb1:es.size+1<scanBound:=by rw[hsz];exact hroom
 unfold setAddHashed setAddHashedIn
 refine wpAny_holding (wpAny_bind (wpAny_setState_of ho g.dat g.fit ?_))
 dsimp only
 rw[byScan_of (knd:=intKind prog w) rfl g.sz g.el]
 simp only[↓reduceIte]
 unfold setAddByScan
 refine wpAny_bind (wpAny_bind (wpAny_rule (wpAny_bind (wpAny_setScan_of hkey ho g.dat g.fit g.el ?_))))
 cases hr:List.findIdx? (fun e=>(intKind prog w).is k e.2) es.toList with
 | some j=>
  dsimp only
  obtain ⟨hj,hpj,_⟩:=List.findIdx?_eq_some_iff_getElem.mp hr
  have hm:k∈ns:=g.pm.mem_iff.mp (List.mem_map.mpr ⟨_,List.getElem_mem hj,(OT g.el (List.getElem_mem hj)).mp hpj⟩)
  have q:=h s.heap false (Heap.SameBut.refl a s.heap) (by unfold Bm;rw[if_pos hm];exact ⟨o,es,ep,t,ho,g⟩)
  refine wpAny_pure (wpAny_pure ?_)
  cases s
  exact q
 | none=>
  dsimp only
  have hm:k∉ns:=fun z=>by
   obtain ⟨e,he,ek⟩:=List.mem_map.mp (g.pm.mem_iff.mpr z)
   have:=List.findIdx?_eq_none_iff.mp hr e he
   rw[(OT g.el he).mpr ek] at this
   cases this
  have p:=layNew_perm t es ((intKind prog w).hash k) (.int k tk)
  have f:=layNew_fits t es ((intKind prog w).hash k) (.int k tk)
  obtain ⟨r1,r2⟩:=YB (t:=t) (es:=es) (h:=(intKind prog w).hash k) (x:=.int k tk) g.ris
  generalize layNew t es ((intKind prog w).hash k) (.int k tk)=L at p f r1 r2 ⊢
  obtain ⟨es1,t1,dm,gv⟩:=L
  dsimp only at p f r1 r2 ⊢
  rw[Array.toList_push] at p
  have b1:es1.size<scanBound:=by rw[<-Array.length_toList,p.length_eq,List.length_append,Array.length_toList];simpa using hb1
  have e1:ElemsOf (intKind prog w) es1.toList:=(g.el.push hkey rfl).perm p
  have q1:(es1.toList.map fun e=>kv e.2).Perm (Bm ns k):=by
   unfold Bm
   rw[if_neg hm]
   refine (p.map _).trans ?_
   rw[List.map_append]
   exact g.pm.append_right _
  have fin:∀ h',Heap.SameBut a s.heap h'->Bp prog w h' a (Bm ns k)->Q true {s with heap:=h'}:=fun h' a1 a2=>h h' true a1 a2
  refine wpAny_bind (ZM ?_)
  have go:∀ t2:SetTable,t2.fits es1.size=true->Ris t2->t2.led=t1.led->SG prog w {o with data:=.set es1 (ep+1) t2} (Bm ns k) es1 (ep+1) t2:=fun t2 z1 z2 z3=>⟨g.ex,rfl,e1,q1,b1,z1,z2,by rw[z3,r2];exact g.led⟩
  split
  ·refine wpAny_bind ?_
   rw[hashByValue_scannable 8 rfl]
   refine wpAny_pure ?_
   refine O1 (fun b s₁ Q' hq=>by cases b<;>first | exact wpAny_pure hq | exact wpAny_rule hq) ho g.dat (go t1 f r1 rfl) ?_
   intro h' a1 a2
   dsimp only
   exact wpAny_pure (fin h' a1 a2)
  ·refine wpAny_bind (wpAny_pure ?_)
   simp only[↓reduceIte]
   refine O1 (fun b s₁ Q' hq=>by cases b<;>first | exact wpAny_pure hq | exact wpAny_rule hq) ho g.dat (go t1 f r1 rfl) ?_
   intro h' a1 a2
   dsimp only
   exact wpAny_pure (fin h' a1 a2)
end
def Cg (val:Nat->Int) (i:Nat):List Int:=((List.range i).map val).foldl Bm []
theorem Ln (val:Nat->Int) (i:Nat):Cg val (i+1)=Bm (Cg val i) (val i):=by
 unfold Cg
 rw[List.range_succ,List.map_append,List.foldl_append]
 rfl
theorem Jt (val:Nat->Int):∀ i,(Cg val i).length<=i
 | 0=>Nat.le_refl _
 | i+1=>by
  have:=Jt val i
  rw[Ln]
  unfold Bm
  split
  ·lia
  ·rw[List.length_append,List.length_singleton];lia
theorem SG.mv {prog:Program} {w:World} {h h':Heap} {a:Addr} {ns:List Int} (x:Bp prog w h a ns) (k:∀ o,h.get? a=some o->h'.get? a=some o):Bp prog w h' a ns:=by
 obtain ⟨o,es,ep,t,ho,g⟩:=x
 exact ⟨o,es,ep,t,k o ho,g⟩
section
variable {prog:Program} {w:World} {A:Around} {E:Value->Shared->Prop} {s:Shared}
theorem RU {R:Result->Shared->Prop} {I:Addr} {fp wr:List Addr} {G:Array GenState->Array GenState->Prop} {n:Nat} {P:Nat->Value->Prop} {St:Nat->Shared->Prop} (W:WalksS prog w A.in1 I fp wr G n P St) (a:Addr) (ha:a∉fp) (val:Nat->Int) (hv:∀ i v,P i v->∃ t,v=.int (val i) t) (hb:n+1<scanBound) :
  ∀ (d i:Nat) (s:Shared),n - i=d->i<=n->St i s->Bp prog w s.heap a (Cg val i)->(∀ s',Moved (a::wr) G s s'->Bp prog w s'.heap a (Cg val n)->R (.ok (.ret .none)) s')->codeAny (model prog w) A (.builtin "set.update.loop" ⟨[.ref a,.ref I],[]⟩) R s:=by
 have haw:a∉wr:=fun z=>ha (W.sub _ z)
 have sub:∀ b∈wr,b∈a::wr:=fun b z=>List.mem_cons_of_mem _ z
 intro d
 induction d with
 | zero=>
  intro i s hd hi st hS hR
  obtain rfl:i=n:=by lia
  refine codeAny_builtin PyProof.Rows.F.entry_set_update_loop (by
   rw[Around.under_plainId PyProof.Rows.F.plain_set_update_loop _]
   show wpAny _ A.in1 (pyNext (.ref I) >>= _) _ _ s
   refine wpAny_bind (W.done s _ _ st fun s' hm=>?_)
   exact wpAny_pure (hR s' (hm.mono sub) (SG.mv hS fun o e=>hm.heap a o haw e)))
 | succ d ih=>
  intro i s hd hi st hS hR
  have hlt:i<n:=by lia
  refine codeAny_builtin PyProof.Rows.F.entry_set_update_loop (by
   rw[Around.under_plainId PyProof.Rows.F.plain_set_update_loop _]
   show wpAny _ A.in1 (pyNext (.ref I) >>= _) _ _ s
   refine wpAny_bind (W.item i s _ _ hlt st fun v s' hP st' hm=>?_)
   obtain ⟨t,rfl⟩:=hv i v hP
   have hS':=SG.mv hS fun o e=>hm.heap a o haw e
   show wpAny _ A.in1 (holding [Value.int (val i) t] (setAdd a (.int (val i) t)) >>= _) _ _ s'
   refine wpAny_bind (wpAny_holding ?_)
   unfold setAdd
   refine wpAny_holding (wpAny_bind ((intKind prog w).pyHash (k:=val i) (intKind_is _ _ _ _) ?_))
   have hr:=Jt val i
   refine Tn (s:={s' with toks:=s'.toks+1}) hS' (by lia) fun h' b hsb hS2=>?_
   rw[<-Ln] at hS2
   refine wpAny_pure ⟨plainId_quiet PyProof.Rows.F.plain_set_update_loop _,ih (i+1) _ (by lia) hlt (W.frame _ s' _ _ st' (Nat.le_succ _) fun c hc o e=>?_) hS2 fun s2 hm2 hS3=>?_⟩
   ·rw[hsb.2 c (fun z:c=a=>ha (by rw[<-z];exact hc))];exact e
   ·refine hR s2 (Moved.trans W.gtrans ((hm.mono sub).then_heap (Nat.le_succ _) fun c o hc e=>?_) hm2) hS3
    rw[hsb.2 c (fun z:c=a=>hc (by rw[z];exact List.mem_cons_self))];exact e)
theorem Rj (x:Value) {Q:Value->Shared->Prop} (h:∀ o:Obj,SG prog w o [] #[] 0 (.fresh 0 0 (!w.params.followText "set-order"))->o={cls:=.type "set",dict:=none,data:=.set #[] 0 (.fresh 0 0 (!w.params.followText "set-order"))}->Q (.ref s.heap.objs.size) {s with heap:=s.heap.push o}) :
  codeAny (model prog w) A (.call (.builtin "set.__new__") ⟨[.type "set",x],[]⟩) (wants Q E) s:=by
 refine codeAny_of_tree ?_
 show wpAny _ A.in1 (checkBuiltinCall "set.__new__" ⟨[.type "set",x],[]⟩ >>= fun _=>again (.builtin "set.__new__" ⟨[.type "set",x],[]⟩)) _ _ s
 refine wpAny_bind (wpAny_of_eq (PySem.F.newCall_set_1 x) (wpAny_pure ⟨plainId_quiet PySem.F.plain_set_new _,codeAny_builtin PySem.F.entry_set_new ?_⟩))
 rw[Around.under_plainId PySem.F.plain_set_new _]
 unfold Builtin.«set.__new__» Builtin.Frozenset.newClass
 have hs:=sub_set_self
 obtain ⟨hp,g,d,tk,os⟩:=s
 dsimp only at h ⊢
 wp_walk
 refine wpAny_askSetting (wpAny_pure ?_)
 dsimp only
 simp only[newObj]
 refine wpAny_bind (wpAny_alloc (wpAny_pure (wpAny_pure ?_)))
 exact h _ ⟨⟨rfl,rfl,rfl⟩,rfl,(fun e he=>by simp at he),by simp,by decide,rfl,(fun _=>by simp[SetTable.fresh]),rfl⟩ rfl
end
section
variable {prog:Program} {w:World} {A:Around} {E:Value->Shared->Prop} {s:Shared}
theorem VN {l:Addr} {items:Array Value} {ns:List Int} {Q:Value->Shared->Prop} (hh:A.handled=none) (hl:s.heap.IsList l items) (hi:IntsAre items.toList ns) (hb:items.size+1<scanBound)
  (h:∀ (h':Heap) (tk:Nat),Bp prog w h' s.heap.objs.size (Cg (fun i=>ns.getD i 0) items.size)->(∀ b o,s.heap.get? b=some o->h'.get? b=some o)->Q (.ref s.heap.objs.size) {s with heap:=h',toks:=tk}) :
  wpAny (model prog w) A (call (.type "set") [.ref l]) Q E s:=by
 obtain ⟨c,tl,hmro⟩:=PySem.F.called_set.mro
 have u1:=PySem.F.called_set.made
 have u2:=PySem.F.called_set.sub
 refine wpAny_call (codeAny_of_tree ?_)
 show wpAny _ _ (callAny (.type "set") _) _ _ _
 refine wpAny_pure ⟨Code.quiet_builtin _ (by decide +kernel),codeAny_builtin PySem.F.entry_type_call ?_⟩
 rw[Around.under_plain (weight_type_call_type "set" [.ref l] []) rfl]
 have u3:=PySem.F.called_set.notType
 have u4:=PySem.F.called_set.canCreate
 have u5:=PySem.F.typeCall_set_1 (.ref l)
 repeat (any_goals (first | assumption | wp_step))
 let o0:Obj:={cls:=.type "set",dict:=none,data:=.set #[] 0 (.fresh 0 0 (!w.params.followText "set-order"))}
 refine codeAny_mono (Rj (.ref l) (E:=E) (Q:=fun v s₁=>v=.ref s.heap.objs.size/\s₁={s with heap:=s.heap.push o0}/\SG prog w o0 [] #[] 0 (.fresh 0 0 (!w.params.followText "set-order"))) fun o g e=>by subst e;exact ⟨rfl,rfl,g⟩) fun r s₁ hr=>?_
 cases r with
 | error e=>exact hr
 | ok fl=>
  cases fl with
  | ret obj=>
   obtain ⟨rfl,rfl,g0⟩:=hr
   have hS:(s.heap.push o0).get? s.heap.objs.size=some o0:=Heap.get?_push_size _ rfl
   have hT:Shared.TypeIs {s with heap:=s.heap.push o0} (.ref s.heap.objs.size) "set":=⟨_,hS,rfl⟩
   have v1:=PySem.F.called_set.init.lookup
   have v2:=PySem.F.called_set.init.bind (.ref s.heap.objs.size)
   repeat (any_goals (first | assumption | wp_step))
   refine codeAny_mono (codeAny_call_builtin (R:=wants (fun r s₂=>r=.none/\∃ h' tk,s₂={s with heap:=h',toks:=tk}/\Bp prog w h' s.heap.objs.size (Cg (fun i=>ns.getD i 0) items.size)/\(∀ b o,s.heap.get? b=some o->h'.get? b=some o)) E) PySem.F.called_set.init.plain PySem.F.entry_set_init (check_set_init_1 hT ?_)) fun r₂ s₂ hr₂=>?_
   ·obtain ⟨ol,hol,hcl,nl,hdl⟩:=hl
    obtain ⟨ocls,odict,odata,oslots⟩:=ol
    simp only at hcl hdl
    subst hcl;subst hdl
    have hol':=Heap.get?_push_of_some o0 hol
    have x1:=PySem.F.sub_list_set
    have x2:=PySem.F.sub_list_frozenset
    have x3:(Value.type "list" == Value.type "dict")=false:=by decide
    have hl1:(s.heap.push o0).IsList l items:=⟨_,hol',rfl,nl,rfl⟩
    unfold Builtin.«set.__init__» noKeywords Builtin.Frozenset.updateFrom
    generalize hPI:pyIter=PI
    wp_walk
    subst hPI
    refine wpAny_pyIter_list hl1 (wpAny_bind (wpAny_runValue ?_))
    have hlS:l<s.heap.objs.size:=Heap.lt_size hol
    have hh3:A.in1.in1.in1.handled=none:=by simp[hh]
    have hsz:(s.heap.push o0).objs.size=s.heap.objs.size+1:=by rw[Heap.size_push]
    have hneI:l≠(s.heap.push o0).objs.size:=by rw[hsz];exact Nat.ne_of_lt (Nat.lt_succ_of_lt hlS)
    have hSf:s.heap.objs.size∉[(s.heap.push o0).objs.size,l]:=by
     rw[hsz]
     simp only[List.mem_cons,List.not_mem_nil,or_false,not_or]
     exact ⟨Nat.ne_of_lt (Nat.lt_succ_self _),Nat.ne_of_gt hlS⟩
    have hval:∀ (i:Nat) (v:Value),items[i]?=some v->∃ t,v=.int ((fun i=>ns.getD i 0) i) t:=fun i v hv=>IntsAre.int_at hi i v (by rw[Array.getElem?_toList];exact hv)
    refine RU ((Walks.list hh3 _ l hneI items).toS) s.heap.objs.size hSf (fun i=>ns.getD i 0) hval hb (items.size - 0) 0 _ (by lia) (Nat.zero_le _) ⟨⟨_,Heap.get?_push_size _ rfl,rfl,rfl⟩,hl1.push _⟩ ?S0 ?R0
    case S0=>exact ⟨o0,#[],0,_,Heap.get?_push_of_some _ hS,g0⟩
    case R0=>
     intro s' hm hS'
     obtain ⟨h',g',d',tk',os'⟩:=s'
     obtain rfl:g'=s.gens:=hm.gens
     obtain rfl:d'=s.drawn:=hm.drawn
     obtain rfl:os'=s.os:=hm.os
     show wpAny _ _ _ _ _ _
     refine wpAny_pure ?_
     show wpAny _ _ (ret Value.none) _ _ _
     refine wpAny_pure ⟨rfl,h',tk',rfl,hS',fun b o e=>?_⟩
     have hb1:b<s.heap.objs.size:=Heap.lt_size e
     refine hm.heap b o ?_ (Heap.get?_push_of_some _ (Heap.get?_push_of_some _ e))
     rw[hsz]
     simp only[List.mem_cons,List.not_mem_nil,or_false,not_or]
     exact ⟨Nat.ne_of_lt hb1,Nat.ne_of_lt (Nat.lt_succ_of_lt hb1)⟩
   ·cases r₂ with
    | error e=>exact hr₂
    | ok fl₂=>
     cases fl₂ with
     | ret r=>
      obtain ⟨rfl,h',tk,rfl,hS',hk'⟩:=hr₂
      repeat (any_goals (first | assumption | wp_step))
      exact h _ _ hS' hk'
     | next=>exact False.elim hr₂
     | brk=>exact False.elim hr₂
     | cont=>exact False.elim hr₂
  | next=>exact False.elim hr
  | brk=>exact False.elim hr
  | cont=>exact False.elim hr
end
theorem slot_next:Slot "set_iterator" "__next__" "set_iterator.__next__":=by
 refine .of (owner:="set_iterator") (n:="__next__") ?_ (by decide +kernel) (by decide +kernel) (by decide +kernel) ?_ ?_
 ·rw[typeLookup_type,builtinLookup_eq_fast];kernel_rfl
 ·first | exact .inl (by decide +kernel) | exact .inr (by decide +kernel)
 ·rw[isSubtype_type];kernel_rfl
theorem entry_next:entryFor table "set_iterator.__next__"=some Builtin.«set_iterator.__next__»:=entryFor_of_tree (by kernel_rfl)
theorem Vq:entryFor table "set.__iter__"=some Builtin.«frozenset.__iter__»:=entryFor_alias (id':="frozenset.__iter__") (by kernel_rfl) rfl (by decide +kernel) (by kernel_rfl)
theorem args_next (a:Value):argsOk "set_iterator.__next__" ⟨[a],[]⟩:=by
 unfold argsOk
 rw[show Manifest.signature? "set_iterator.__next__"=Manifest.signature? "set_iterator.__next__" from rfl]
 with_unfolding_all kernel_rfl
def ItAt (h:Heap) (it:Addr) (first:Value) (i:Nat) (a:Addr) (n ep:Nat):Prop:=∃ o,h.get? it=some o/\o.cls=.type "set_iterator"/\o.data=.fields #[first,.int i 0,.ref a,.int n 0,.int ep 0]
section
variable {prog:Program} {w:World} {A:Around} {E:Value->Shared->Prop} {s:Shared} {it a:Addr} {first:Value} {i n ep:Nat}
theorem ItAt.ty (x:ItAt s.heap it first i a n ep):s.TypeIs (.ref it) "set_iterator":=let ⟨o,ho,hc,_⟩:=x;⟨o,ho,hc⟩
theorem Om {Q:Option Value->Shared->Prop} {slot:Nat} {o:Obj} {es:Array (Int×Value)} {t:SetTable} {r:Option (Value×Nat)} (hh:A.handled=none) (x:ItAt s.heap it (.int slot 0) i a es.size ep) (ho:s.heap.get? a=some o) (hd:o.data=.set es ep t) (hf:t.fits es.size=true)
  (hr:∀ {A:Around} {E:Value->Shared->Prop} {Q:Option (Value×Nat)->Shared->Prop},Q r s->wpAny (model prog w) A (setNext a slot i ep) Q E s)
  (h1:∀ v k h',r=some (v,k)->ItAt h' it (.int k 0) (i+1) a es.size ep->Heap.SameBut it s.heap h'->Q (some v) {s with heap:=h'}) (h2:∀ h',r=none->Heap.ExtBut it s.heap h'->Q none {s with heap:=h'}):wpAny (model prog w) A (pyNext (.ref it)) Q E s:=by
 obtain ⟨oi,hoi,hc,hdi⟩:=id x
 unfold pyNext
 refine wpAny_bind (wpAny_attempt (wpAny_callSpecial?_slot (name:=Str.ofString "__next__") x.ty slot_next (wpAny_call_entry slot_next x.ty entry_next ?_ (args_next _))))
 unfold Builtin.«set_iterator.__next__» slotArgs
 simp only[List.isEmpty_nil,Bool.not_true,Bool.false_eq_true,↓reduceIte,bind_assoc,List.length_nil,bne_self_eq_false]
 refine wpAny_bind (wpAny_pure (wpAny_bind (wpAny_fieldsOf hoi hdi ?_)))
 dsimp only
 refine wpAny_bind (wpAny_setEntries_of ho hd hf ?_)
 simp only[bne_self_eq_false,Bool.false_eq_true,↓reduceIte]
 simp only[Int.toNat_natCast]
 refine wpAny_bind (hr ?_)
 cases r with
 | some p=>
  obtain ⟨v,k⟩:=p
  dsimp only
  refine wpAny_bind (wpAny_setField hoi hdi (by simp) ?_)
  have g1:(s.heap.update it (Obj.mapFields (·.setIfInBounds 0 (rawInt (k:Int))))).get? it=some (Obj.mapFields (·.setIfInBounds 0 (rawInt (k:Int))) oi):=Heap.get?_update_self _ hoi (Obj.isFreed_of_fields (Obj.data_mapFields hdi _))
  refine wpAny_bind (wpAny_setField g1 (Obj.data_mapFields hdi _) (by simp) ?_)
  refine wpAny_pure ⟨_,rfl,wpAny_pure (h1 v k _ rfl ⟨_,Heap.get?_update_self _ g1 (Obj.isFreed_of_fields (Obj.data_mapFields (Obj.data_mapFields hdi _) _)),?_,?_⟩ ((Heap.SameBut.update ..).trans (Heap.SameBut.update ..)))⟩
  ·exact (Obj.cls_mapFields ..).trans ((Obj.cls_mapFields ..).trans hc)
  ·rw[Obj.data_mapFields (Obj.data_mapFields hdi _)]
   simp[rawInt]
 | none=>
  dsimp only
  refine wpAny_bind (wpAny_setField hoi hdi (by simp) ?_)
  refine wpAny_bind ?_
  simp only[newExc,newTuple]
  refine wpAny_bind (wpAny_newObj_type ?_ (by size_fits))
  refine wpAny_bind (m:=firstArgMember _ _) (wpAny_of_eq (a:=Value.none) (by first | rfl | (simp only[firstArgMember];rfl)) (wpAny_newObj_type ?_ (by size_fits)))
  simp only[raiseNew]
  refine wpAny_bind (wpAny_handled ?_)
  rw[show A.in1.handled=none from hh]
  refine wpAny_bind (wpAny_pure (wpAny_throw ?_)) ;refine wpAny_bind (wpAny_isInstance (b:=true) (T:="StopIteration") ⟨_,Heap.get?_push_size _ rfl,rfl⟩ isSubtype_stop ?_)
  exact wpAny_pure (h2 _ rfl (((Heap.SameBut.update ..).extBut.push _).push _))
end
theorem Oj {α:Type} (next:Nat->Nat):∀ (fuel k:Nat) (left:List α) (out:Array α),left.length=fuel->(pickOrder.go next fuel k left out).toList.Perm (out.toList++left)
 | 0,k,left,out,h=>by
  rw[List.length_eq_zero_iff.mp h,List.append_nil]
  exact .refl _
 | n+1,k,left,out,h=>by
  have hl:next k % left.length<left.length:=Nat.mod_lt _ (by lia)
  unfold pickOrder.go
  rw[List.getElem?_eq_getElem hl]
  dsimp only
  refine (Oj next n (k+1) _ _ (by rw[List.length_eraseIdx_of_lt hl];lia)).trans ?_
  rw[Array.toList_push,List.append_assoc]
  refine List.Perm.append_left _ ?_
  rw[List.eraseIdx_eq_take_drop_succ]
  have e:left=left.take (next k % left.length)++left[next k % left.length]::left.drop (next k % left.length+1):=by
   rw[List.getElem_cons_drop,List.take_append_drop]
  generalize left[next k % left.length]=x at e ⊢
  generalize next k % left.length=j at e ⊢
  rw[List.singleton_append]
  refine (List.perm_middle (a:=x) (l₁:=left.take j) (l₂:=left.drop (j+1))).symm.trans ?_
  rw[<-e]
theorem Uv {α:Type} (next:Nat->Nat) (xs:Array α):(pickOrder next xs).toList.Perm xs.toList:=by
 unfold pickOrder
 have:=Oj next xs.size 0 xs.toList #[] (by simp)
 simpa using this
section
variable {prog:Program} {w:World} {A:Around} {E:Value->Shared->Prop} {s:Shared} {a:Addr} {o:Obj} {es:Array (Int×Value)} {t:SetTable} {slot i ep:Nat}
theorem Gv {Q:Bool->Shared->Prop} (h:Q (w.params.followText "set-order") s):wpAny (model prog w) A setsByText Q E s:=by
 unfold setsByText
 exact wpAny_bind (wpAny_askSetting (wpAny_pure h))
theorem UM (hw:w.params.followText "set-order"=true) (ho:s.heap.get? a=some o) (hd:o.data=.set es ep t) (hf:t.fits es.size=true) {Q:Option (Value×Nat)->Shared->Prop} (h:Q (((pickOrder (w.params.setOrder a ep) es)[i]?).map fun e=>(e.2,slot)) s) :
  wpAny (model prog w) A (setNext a slot i ep) Q E s:=by
 unfold setNext
 refine wpAny_bind (wpAny_setState_of ho hd hf ?_)
 dsimp only
 refine wpAny_bind (Gv ?_)
 rw[hw]
 simp only[↓reduceIte,bne_self_eq_false,Bool.false_eq_true]
 unfold setWalk
 refine wpAny_bind (wpAny_bind (wpAny_setState_of ho hd hf (wpAny_bind (Gv ?_))))
 rw[hw]
 simp only[↓reduceIte]
 exact wpAny_bind (wpAny_askSetting (wpAny_pure (wpAny_pure h)))
theorem Yp (hw:w.params.followText "set-order"=false) (hl:t.led=true) (hp:t.plain=true\/es.size<=1) (ho:s.heap.get? a=some o) (hd:o.data=.set es ep t) (hf:t.fits es.size=true) {Q:Option (Value×Nat)->Shared->Prop}
  (h:Q (match es[SetTable.below t.place slot]?,t.place[SetTable.below t.place slot]? with | some (_,x),some j=>some (x,j+1) | _,_=>none) s) :
  wpAny (model prog w) A (setNext a slot i ep) Q E s:=by
 unfold setNext
 refine wpAny_bind (wpAny_setState_of ho hd hf ?_)
 dsimp only
 refine wpAny_bind (Gv ?_)
 rw[hw]
 simp only[Bool.false_eq_true,↓reduceIte]
 have c1:(!t.plain && decide (es.size > 1))=false:=by
  rcases hp with hp | hp
  ·rw[hp];rfl
  ·rw[decide_eq_false (by lia),Bool.and_false]
 show wpAny _ _ (if (!t.plain && decide (es.size > 1))=true then _ else _) _ _ s
 rw[c1]
 simp only[Bool.false_eq_true,↓reduceIte]
 refine wpAny_bind ?_
 show wpAny _ _ (if (!t.led && !es.isEmpty)=true then _ else pure ()) _ _ s
 rw[hl]
 simp only[Bool.not_true,Bool.false_and,Bool.false_eq_true,↓reduceIte]
 exact wpAny_pure (wpAny_pure h)
end
section
variable {prog:Program} {w:World} {A:Around} {E:Value->Shared->Prop} {s:Shared} {a it:Addr} {o:Obj} {es:Array (Int×Value)} {t:SetTable} {i ep:Nat}
theorem Qj {src:Source} {n:Nat} {Q:Nat->Shared->Prop} (hn:n≠0) (h:∀ k d,k<n->Q k {s with drawn:=d}):wpAny (model prog w) A (choose src n) Q E s:=by
 intro Γ p hΓ
 unfold choose
 rw[Sem.wp_choose]
 exact ⟨hn,h _ _ (Nat.mod_lt _ (Nat.pos_of_ne_zero hn))⟩
theorem K2 {α:Type}:∀ (n:Nat) (xs:List α) (s:Shared) {Q:List α->Shared->Prop},xs.length=n->(∀ ys d,ys.Perm xs->Q ys {s with drawn:=d})->wpAny (model prog w) A (drawOrder n xs) Q E s
 | 0,xs,s,Q,hn,h=>by
  unfold drawOrder
  rw[List.length_eq_zero_iff.mp hn] at h
  cases s
  exact wpAny_pure (h [] _ (.refl _))
 | n+1,[],s,Q,hn,h=>by cases hn
 | n+1,x::xs,s,Q,hn,h=>by
  unfold drawOrder
  refine wpAny_bind (Qj (by simp) fun k d hk=>?_)
  rw[List.getElem?_eq_getElem hk]
  dsimp only
  refine wpAny_bind (K2 n ((x::xs).eraseIdx k) _ (by rw[List.length_eraseIdx_of_lt hk];lia) fun ys d' hp=>?_)
  refine wpAny_pure (h _ d' ?_)
  refine (hp.cons _).trans ?_
  rw[List.eraseIdx_eq_take_drop_succ]
  have e:(x::xs)=(x::xs).take k++(x::xs)[k]::(x::xs).drop (k+1):=by
   rw[List.getElem_cons_drop,List.take_append_drop]
  generalize (x::xs)[k]=y at e ⊢
  refine (List.perm_middle (a:=y) (l₁:=(x::xs).take k) (l₂:=(x::xs).drop (k+1))).symm.trans ?_
  rw[<-e]
end
section
variable {prog:Program} {w:World} {A:Around} {E:Value->Shared->Prop} {s:Shared} {a it p:Addr} {o op:Obj} {es:Array (Int×Value)} {t:SetTable} {i ep m:Nat} {ps:Array Value}
theorem Ob {Q:Option Value->Shared->Prop} (hh:A.handled=none) (x:ItAt s.heap it (.ref p) i a es.size ep) (htp:s.heap.get? p=some op) (hdp:op.data=.seq ps m) (ho:s.heap.get? a=some o) (hd:o.data=.set es ep t) (hf:t.fits es.size=true)
  (hi:∀ v,ps[i]?=some v->∃ (k:Nat) (u:Tok) (e:Int×Value),v=.int k u/\es[k]?=some e) (h1:∀ (k:Nat) u e h',ps[i]?=some (.int k u)->es[k]?=some e->ItAt h' it (.ref p) (i+1) a es.size ep->Heap.SameBut it s.heap h'->Q (some e.2) {s with heap:=h'}) (h2:∀ h',ps[i]?=none->Heap.ExtBut it s.heap h'->Q none {s with heap:=h'}):wpAny (model prog w) A (pyNext (.ref it)) Q E s:=by
 obtain ⟨oi,hoi,hc,hdi⟩:=id x
 unfold pyNext
 refine wpAny_bind (wpAny_attempt (wpAny_callSpecial?_slot (name:=Str.ofString "__next__") x.ty slot_next (wpAny_call_entry slot_next x.ty entry_next ?_ (args_next _))))
 unfold Builtin.«set_iterator.__next__» slotArgs
 simp only[List.isEmpty_nil,Bool.not_true,Bool.false_eq_true,↓reduceIte,bind_assoc,List.length_nil,bne_self_eq_false]
 refine wpAny_bind (wpAny_pure (wpAny_bind (wpAny_fieldsOf hoi hdi ?_)))
 dsimp only
 refine wpAny_bind (wpAny_setEntries_of ho hd hf ?_)
 simp only[bne_self_eq_false,Bool.false_eq_true,↓reduceIte]
 simp only[Int.toNat_natCast]
 refine wpAny_bind ?_
 unfold seqItems?
 refine wpAny_bind (wpAny_load htp ?_)
 rw[hdp]
 refine wpAny_pure ?_
 dsimp only
 cases hx:ps[i]? with
 | some v=>
  obtain ⟨k,u,e,rfl,he⟩:=hi v hx
  dsimp only
  refine wpAny_bind ?_
  unfold setNextDrawn
  refine wpAny_bind (wpAny_setState_of ho hd hf ?_)
  simp only[bne_self_eq_false,Bool.false_eq_true,↓reduceIte,Int.toNat_natCast,he]
  refine wpAny_pure (wpAny_bind (wpAny_setField hoi hdi (by simp) ?_))
  refine wpAny_pure ⟨_,rfl,wpAny_pure (h1 k u e _ hx he ⟨_,Heap.get?_update_self _ hoi (Obj.isFreed_of_fields (Obj.data_mapFields hdi _)),(Obj.cls_mapFields ..).trans hc,?_⟩ (Heap.SameBut.update ..))⟩
  rw[Obj.data_mapFields hdi]
  simp[rawInt]
 | none=>
  dsimp only
  refine wpAny_bind (wpAny_setField hoi hdi (by simp) ?_)
  have g1:(s.heap.update it (Obj.mapFields (·.setIfInBounds 0 (rawInt 0)))).get? it=some (Obj.mapFields (·.setIfInBounds 0 (rawInt 0)) oi):=Heap.get?_update_self _ hoi (Obj.isFreed_of_fields (Obj.data_mapFields hdi _))
  refine wpAny_bind (wpAny_setField g1 (Obj.data_mapFields hdi _) (by simp) ?_)
  refine wpAny_bind ?_
  simp only[newExc,newTuple]
  refine wpAny_bind (wpAny_newObj_type ?_ (by size_fits))
  refine wpAny_bind (m:=firstArgMember _ _) (wpAny_of_eq (a:=Value.none) (by first | rfl | (simp only[firstArgMember];rfl)) (wpAny_newObj_type ?_ (by size_fits)))
  simp only[raiseNew]
  refine wpAny_bind (wpAny_handled ?_)
  rw[show A.in1.handled=none from hh]
  refine wpAny_bind (wpAny_pure (wpAny_throw ?_)) ;refine wpAny_bind (wpAny_isInstance (b:=true) (T:="StopIteration") ⟨_,Heap.get?_push_size _ rfl,rfl⟩ isSubtype_stop ?_)
  exact wpAny_pure (h2 _ hx ((((Heap.SameBut.update ..).trans (Heap.SameBut.update ..)).extBut.push _).push _))
theorem WG {Q:Value->Shared->Prop} (hs:o.cls=.type "set") (ho:s.heap.get? a=some o) (hd:o.data=.set es ep t) (hf:t.fits es.size=true) (hz:es.size<=1000)
  (h1:(w.params.followText "set-order"=true\/t.plain=true\/es.size<=1)->∀ h',ItAt h' s.heap.objs.size (.int 0 0) 0 a es.size ep->(∀ b o,s.heap.get? b=some o->h'.get? b=some o)->h'.objs.size=s.heap.objs.size+1->Q (.ref s.heap.objs.size) {s with heap:=h'})
  (h2:∀ (ks:List Nat) h' d,ks.Perm (List.range es.size)->(∃ op,h'.get? s.heap.objs.size=some op/\op.data=.seq (ks.map fun i=>Value.int (i:Nat) 0).toArray 0)->ItAt h' (s.heap.objs.size+1) (.ref s.heap.objs.size) 0 a es.size ep->(∀ b o,s.heap.get? b=some o->h'.get? b=some o)->h'.objs.size=s.heap.objs.size+2->Q (.ref (s.heap.objs.size+1)) {s with heap:=h',drawn:=d}) :
  wpAny (model prog w) A (pyIter (.ref a)) Q E s:=by
 have hT:s.TypeIs (.ref a) "set":=⟨o,ho,hs⟩
 refine wpAny_pyIter_slot hT PySem.F.slot_set_iter (wpAny_call_entry PySem.F.slot_set_iter hT Vq ?_ (PySem.F.args_set_iter_1 _))
 unfold Builtin.«frozenset.__iter__» Builtin.Frozenset.slot0 slotArgs
 simp only[List.isEmpty_nil,Bool.not_true,Bool.false_eq_true,↓reduceIte,bind_assoc,List.length_nil,bne_self_eq_false]
 unfold Builtin.Frozenset.addrOf Builtin.Frozenset.sizeOf
 refine wpAny_bind (wpAny_pure ?_)
 try dsimp only
 refine wpAny_bind (wpAny_pure ?_)
 refine wpAny_bind (wpAny_bind (wpAny_setEntries_of ho hd hf (wpAny_pure ?_)))
 unfold setDrawn
 refine wpAny_bind (wpAny_bind (wpAny_setState_of ho hd hf (wpAny_bind (Gv (wpAny_pure ?_)))))
 by_cases c:(!w.params.followText "set-order" && (!t.plain && decide (es.size > 1)))=true
 ·show wpAny _ _ (if (!w.params.followText "set-order" && (!t.plain && decide (es.size > 1)))=true then _ else _) _ _ _
  rw[if_pos c]
  refine wpAny_bind (K2 es.size (List.range es.size) s (by simp) fun ks d hp=>?_)
  have hkl:ks.length=es.size:=by rw[hp.length_eq,List.length_range]
  have big:(1000:Nat)<=sizeLine:=by decide
  refine wpAny_bind (wpAny_newObj_type ?_ (by show (ks.map fun (i:Nat)=>rawInt (i:Int)).toArray.size<=sizeLine;rw[List.size_toArray,List.length_map];lia))
  let o1:Obj:={cls:=.type "tuple",data:=.seq (ks.map fun (i:Nat)=>rawInt (i:Int)).toArray}
  have g1:(s.heap.push o1).get? a=some o:=Heap.get?_push_of_some _ ho
  refine wpAny_bind (wpAny_setEpoch_of (s:={s with heap:=s.heap.push o1,drawn:=d}) g1 hd hf ?_)
  refine wpAny_bind (wpAny_newObj_type ?_)
  have sz1:(s.heap.push o1).objs.size=s.heap.objs.size+1:=Heap.size_push ..
  refine wpAny_pure ⟨_,rfl,"set_iterator",_,⟨_,Heap.get?_push_size _ rfl,rfl⟩,slot_next.lookup,?_⟩
  have hq:=h2 ks ((s.heap.push o1).push {cls:=.type "set_iterator",data:=.fields #[.ref s.heap.objs.size,.int (0:Nat) 0,.ref a,.int es.size 0,.int ep 0]}) d hp ⟨o1,Heap.get?_push_of_some _ (Heap.get?_push_size _ rfl),rfl⟩ ⟨_,by rw[<-sz1];exact Heap.get?_push_size _ rfl,rfl,rfl⟩ (fun b o e=>Heap.get?_push_of_some _ (Heap.get?_push_of_some _ e)) (by rw[Heap.size_push,sz1])
  rw[<-sz1] at hq
  exact hq
 ·show wpAny _ _ (if (!w.params.followText "set-order" && (!t.plain && decide (es.size > 1)))=true then _ else _) _ _ _
  rw[if_neg c]
  have hc:w.params.followText "set-order"=true\/t.plain=true\/es.size<=1:=by
   cases h3:w.params.followText "set-order" with
   | true=>exact .inl rfl
   | false=>
    cases h4:t.plain with
    | true=>exact .inr (.inl rfl)
    | false=>
     refine .inr (.inr (Nat.le_of_not_lt fun z=>c ?_))
     rw[h3,h4,decide_eq_true z]
     rfl
  refine wpAny_bind (wpAny_pure (wpAny_bind (wpAny_setEpoch_of ho hd hf (wpAny_bind (wpAny_newObj_type ?_)))))
  refine wpAny_pure ⟨_,rfl,"set_iterator",_,⟨_,Heap.get?_push_size _ rfl,rfl⟩,slot_next.lookup,?_⟩
  exact h1 hc _ ⟨_,Heap.get?_push_size _ rfl,rfl,rfl⟩ (fun b o e=>Heap.get?_push_of_some _ e) (Heap.size_push ..)
end
theorem slot_self:Slot "set_iterator" "__iter__" "set_iterator.__iter__":=by
 refine .of (owner:="set_iterator") (n:="__iter__") ?_ (by decide +kernel) (by decide +kernel) (by decide +kernel) ?_ ?_
 ·rw[typeLookup_type,builtinLookup_eq_fast];kernel_rfl
 ·first | exact .inl (by decide +kernel) | exact .inr (by decide +kernel)
 ·rw[isSubtype_type];kernel_rfl
theorem entry_self:entryFor table "set_iterator.__iter__"=some Builtin.«dict_keyiterator.__iter__»:=entryFor_alias (id':="dict_keyiterator.__iter__") (by kernel_rfl) rfl (by decide +kernel) (by kernel_rfl)
theorem args_self (a:Value):argsOk "set_iterator.__iter__" ⟨[a],[]⟩:=by
 unfold argsOk
 rw[show Manifest.signature? "set_iterator.__iter__"=Manifest.signature? "set_iterator.__iter__" from rfl]
 with_unfolding_all kernel_rfl
section
variable {prog:Program} {w:World} {A:Around} {E:Value->Shared->Prop} {s:Shared} {a it p:Addr} {o op:Obj} {es:Array (Int×Value)} {t:SetTable} {i ep m:Nat} {ps:Array Value} {first:Value}
theorem NZ {Q:Value->Shared->Prop} {n:Nat} (x:ItAt s.heap it first i a n ep) (h:Q (.ref it) s):wpAny (model prog w) A (pyIter (.ref it)) Q E s:=by
 refine wpAny_pyIter_slot x.ty slot_self (wpAny_call_entry slot_self x.ty entry_self ?_ (args_self _))
 show wpAny _ _ (ret (.ref it)) _ _ s
 exact wpAny_pure ⟨_,rfl,"set_iterator",_,x.ty,slot_next.lookup,h⟩
theorem ItAt.mv {h h':Heap} {n:Nat} (x:ItAt h it first i a n ep) (k:∀ o,h.get? it=some o->h'.get? it=some o):ItAt h' it first i a n ep:=let ⟨o,e,r⟩:=x;⟨o,k o e,r⟩
theorem PF (hh:A.handled=none) (hne:a≠it) (hd:o.data=.set es ep t) (hf:t.fits es.size=true) (sl:Nat->Nat) (vs:Array Value) (hv:vs.size=es.size)
  (hx:∀ (i:Nat) (s:Shared),s.heap.get? a=some o->∀ {A:Around} {E:Value->Shared->Prop} {Q:Option (Value×Nat)->Shared->Prop},i<=es.size->Q ((vs[i]?).map fun v=>(v,sl (i+1))) s->wpAny (model prog w) A (setNext a (sl i) i ep) Q E s) :
  Walks prog w A it [it,a] [it] vs.size (fun i v=>vs[i]?=some v) (fun i h=>ItAt h it (.int (sl i) 0) i a es.size ep/\h.get? a=some o) where
 sub:=fun b hb=>by simp at hb;simp[hb]
 frame:=fun _ _ _ st hk=>⟨st.1.mv fun o e=>hk it (by simp) o e,hk a (by simp) _ st.2⟩
 item:=fun i s Q E hi st hQ=>by
  have e:vs[i]?=some vs[i]:=Array.getElem?_eq_getElem hi
  refine Om hh st.1 st.2 hd hf (hx i s st.2 (by lia)) (fun v k h' z it' sb=>?_) (fun h' z _=>?_)
  ·rw[e] at z
   cases z
   exact hQ _ h' s.toks e ⟨it',(sb.2 a hne).trans st.2⟩ fun b o hb e=>(sb.2 b (fun z=>hb (by simp[z]))).trans e
  ·rw[e] at z
   cases z
 done:=fun s Q E st hQ=>by
  have e:vs[vs.size]?=none:=by simp
  refine Om hh st.1 st.2 hd hf (hx vs.size s st.2 (by lia)) (fun v k h' z it' sb=>?_) (fun h' z eb=>?_)
  ·rw[e] at z
   cases z
  ·exact hQ h' s.toks fun b o hb e=>eb b o (fun z=>hb (by simp[z])) e
 self:=fun _ _ _ _ st hQ=>NZ st.1 hQ
theorem Tc (hh:A.handled=none) (hne:a≠it) (hpn:p≠it) (hd:o.data=.set es ep t) (hf:t.fits es.size=true) (hdp:op.data=.seq ps m) (vs:Array Value) (hv:vs.size=ps.size) (hi:∀ (i:Nat) v,ps[i]?=some v->∃ (k:Nat) (u:Tok) (e:Int×Value),v=.int k u/\es[k]?=some e/\vs[i]?=some e.2) :
  Walks prog w A it [it,a,p] [it] vs.size (fun i v=>vs[i]?=some v) (fun i h=>ItAt h it (.ref p) i a es.size ep/\h.get? a=some o/\h.get? p=some op) where
 sub:=fun b hb=>by simp at hb;simp[hb]
 frame:=fun _ _ _ st hk=>⟨st.1.mv fun o e=>hk it (by simp) o e,hk a (by simp) _ st.2.1,hk p (by simp) _ st.2.2⟩
 item:=fun i s Q E hlt st hQ=>by
  have hlt':i<ps.size:=by lia
  have e:ps[i]?=some ps[i]:=Array.getElem?_eq_getElem hlt'
  refine Ob hh st.1 st.2.2 hdp st.2.1 hd hf (fun v z=>let ⟨k,u,e,q1,q2,_⟩:=hi i v z;⟨k,u,e,q1,q2⟩) (fun k u e2 h' z1 z2 it' sb=>?_) (fun h' z _=>?_)
  ·obtain ⟨k',u',e',q1,q2,q3⟩:=hi i _ z1
   simp only[Value.int.injEq,Int.natCast_inj] at q1
   obtain ⟨rfl,rfl⟩:=q1
   rw[z2] at q2
   cases q2
   exact hQ _ h' s.toks q3 ⟨it',(sb.2 a hne).trans st.2.1,(sb.2 p hpn).trans st.2.2⟩ fun b o hb e=>(sb.2 b (fun z=>hb (by simp[z]))).trans e
  ·rw[e] at z
   cases z
 done:=fun s Q E st hQ=>by
  have e:ps[vs.size]?=none:=by rw[hv];simp
  refine Ob hh st.1 st.2.2 hdp st.2.1 hd hf (fun v z=>by rw[e] at z;cases z) (fun k u e2 h' z1 z2 it' sb=>?_) (fun h' z eb=>?_)
  ·rw[e] at z1
   cases z1
  ·exact hQ h' s.toks fun b o hb e=>eb b o (fun z=>hb (by simp[z])) e
 self:=fun _ _ _ _ st hQ=>NZ st.1 hQ
end
section
variable {prog:Program} {w:World} {A A':Around} {E:Value->Shared->Prop} {s:Shared} {a:Addr}
theorem J2 {l:List (Int×Value)} {ns:List Int} (el:ElemsOf (intKind prog w) l) {vs:List Value} (h:vs.Perm (l.map (·.2))) (pm:(l.map fun e=>kv e.2).Perm ns):(∀ v∈vs,∃ t,v=.int (kv v) t)/\(vs.map kv).Perm ns:=by
 refine ⟨fun v hv=>?_,?_⟩
 ·obtain ⟨e,he,rfl⟩:=List.mem_map.mp (h.mem_iff.mp hv)
  exact OW el he
 ·refine (h.map kv).trans ?_
  rw[List.map_map]
  exact pm
theorem Yg {ns:List Int} {Q:Value->Shared->Prop} (hh:A'.handled=none) (hS:Bp prog w s.heap a ns) (hz:ns.length<=1000)
  (h:∀ (s1:Shared) (it:Addr) (fp:List Addr) (vs:Array Value) (St:Nat->Heap->Prop),Walks prog w A' it fp [it] vs.size (fun i v=>vs[i]?=some v) St->St 0 s1.heap->(∀ b∈fp,b=a\/s.heap.objs.size<=b)->(∀ v∈vs.toList,∃ t,v=.int (kv v) t)->(vs.toList.map kv).Perm ns->s1.os=s.os->s1.gens=s.gens->(∀ b o,s.heap.get? b=some o->s1.heap.get? b=some o)->s.heap.objs.size<=it->Q (.ref it) s1) :
  wpAny (model prog w) A (pyIter (.ref a)) Q E s:=by
 obtain ⟨o,es,ep,t,ho,g⟩:=hS
 have hsz:es.size=ns.length:=by have:=g.pm.length_eq;rw[List.length_map,Array.length_toList] at this;exact this
 have hlt:a<s.heap.objs.size:=Heap.lt_size ho
 have hps:t.place.size=es.size:=by
  have:=g.fit
  simp only[SetTable.fits,Bool.and_eq_true,beq_iff_eq] at this
  exact this.1
 refine WG g.ex.1 ho g.dat g.fit (by lia) (fun hc h' it' hk hs'=>?_) (fun ks h' d hp tp it' hk hs'=>?_)
 ·have ho':=hk a o ho
  have fpx:∀ b∈[s.heap.objs.size,a],b=a\/s.heap.objs.size<=b:=fun b hb=>by
   simp only[List.mem_cons,List.not_mem_nil,or_false] at hb
   rcases hb with rfl | rfl
   ·exact .inr (Nat.le_refl _)
   ·exact .inl rfl
  cases hw:w.params.followText "set-order" with
  | true=>
   have pp:=Uv (w.params.setOrder a ep) es
   have hv:((pickOrder (w.params.setOrder a ep) es).map (·.2)).size=es.size:=by
    rw[Array.size_map,<-Array.length_toList,pp.length_eq,Array.length_toList]
   obtain ⟨v1,v2⟩:=J2 g.el (vs:=((pickOrder (w.params.setOrder a ep) es).map (·.2)).toList) (by rw[Array.toList_map];exact pp.map _) g.pm
   refine h {s with heap:=h'} _ _ _ _ (PF hh (Nat.ne_of_lt hlt) g.dat g.fit (fun _=>0) ((pickOrder (w.params.setOrder a ep) es).map (·.2)) hv fun i s2 ho2 {A E Q} hi hq=>?_) ⟨it',ho'⟩ fpx v1 v2 rfl rfl hk (Nat.le_refl _)
   refine UM hw ho2 g.dat g.fit ?_
   rw[Array.getElem?_map,Option.map_map] at hq
   exact hq
  | false=>
   have hris:t.place.toList.Pairwise (·<·):=by
    rcases hc with hc | hc | hc
    ·rw[hw] at hc;cases hc
    ·exact g.ris hc
    ·have:t.place.toList.length<=1:=by rw[Array.length_toList];lia
     match t.place.toList,this with
     | [],_=>exact List.Pairwise.nil
     | [x],_=>exact List.pairwise_singleton _ _
   have hpl:t.plain=true\/es.size<=1:=by
    rcases hc with hc | hc | hc
    ·rw[hw] at hc;cases hc
    ·exact .inl hc
    ·exact .inr hc
   obtain ⟨v1,v2⟩:=J2 g.el (vs:=(es.map (·.2)).toList) (by rw[Array.toList_map]) g.pm
   refine h {s with heap:=h'} _ _ _ _ (PF hh (Nat.ne_of_lt hlt) g.dat g.fit (fun i=>if i=0 then 0 else t.place.getD (i - 1) 0+1) (es.map (·.2)) (by rw[Array.size_map]) fun i s2 ho2 {A E Q} hi hq=>?_) ⟨it',ho'⟩ fpx v1 v2 rfl rfl hk (Nat.le_refl _)
   have hb:SetTable.below t.place (if i=0 then 0 else t.place.getD (i - 1) 0+1)=i:=by
    by_cases c0:i=0
    ·rw[if_pos c0,Wm hris,c0]
    ·rw[if_neg c0,Xx hris (by lia)];lia
   refine Yp hw (by rw[g.led,hw];rfl) hpl ho2 g.dat g.fit ?_
   rw[hb]
   rw[Array.getElem?_map,Option.map_map] at hq
   by_cases c1:i<es.size
   ·have c2:i<t.place.size:=by lia
    rw[Array.getElem?_eq_getElem c1] at hq ⊢
    rw[Array.getElem?_eq_getElem c2]
    dsimp only
    have e:t.place.getD i 0=t.place[i]:=by simp[Array.getD,c2]
    simp only[Option.map_some,Function.comp,Nat.add_one_sub_one,if_neg (Nat.succ_ne_zero i),e] at hq
    exact hq
   ·rw[Array.getElem?_eq_none (by lia)] at hq ⊢
    exact hq
 ·obtain ⟨op,e1,e2⟩:=tp
  have ho':=hk a o ho
  have hkl:ks.length=es.size:=by rw[hp.length_eq,List.length_range]
  have hmem:∀ k∈ks,k<es.size:=fun k hk=>List.mem_range.mp (hp.mem_iff.mp hk)
  have pv:(ks.filterMap fun k=>es[k]?).Perm es.toList:=(hp.filterMap _).trans (by rw[filterMap_getElem?_range])
  have gm:∀ l:List Nat,(∀ k∈l,k<es.size)->(l.filterMap fun k=>es[k]?)=l.map fun k=>es.getD k (0,.none):=by
   intro l
   induction l with
   | nil=>intro _;rfl
   | cons k l ih=>
    intro hl
    have hk:=hl k List.mem_cons_self
    rw[List.filterMap_cons,Array.getElem?_eq_getElem hk,List.map_cons,ih fun q hq=>hl q (List.mem_cons_of_mem _ hq)]
    simp[Array.getD,hk]
  rw[gm ks hmem] at pv
  obtain ⟨v1,v2⟩:=J2 g.el (vs:=((ks.map fun k=>(es.getD k (0,.none)).2).toArray).toList) (by
   rw[List.toList_toArray]
   have:=pv.map (·.2)
   rw[List.map_map] at this
   exact this) g.pm
  refine h {s with heap:=h',drawn:=d} _ _ _ _ (Tc hh (Nat.ne_of_lt (Nat.lt_succ_of_lt hlt)) (Nat.ne_of_lt (Nat.lt_succ_self _)) g.dat g.fit e2 ((ks.map fun k=>(es.getD k (0,.none)).2).toArray) (by simp) fun i v hv=>?_) ⟨it',ho',e1⟩ (fun b hb=>?_) v1 v2 rfl rfl hk (Nat.le_succ _)
  ·rw[List.getElem?_toArray,List.getElem?_map] at hv
   cases hki:ks[i]? with
   | none=>rw[hki] at hv;cases hv
   | some k=>
    rw[hki] at hv
    cases hv
    have hk:=hmem k (List.mem_of_getElem? hki)
    refine ⟨k,0,es[k],rfl,Array.getElem?_eq_getElem hk,?_⟩
    rw[List.getElem?_toArray,List.getElem?_map,hki]
    simp[Array.getD,hk]
  ·simp only[List.mem_cons,List.not_mem_nil,or_false] at hb
   rcases hb with rfl | rfl | rfl
   ·exact .inr (Nat.le_succ _)
   ·exact .inl rfl
   ·exact .inr (Nat.le_refl _)
end
section
variable {prog:Program} {w:World} {A:Around} {E:Value->Shared->Prop} {s:Shared} {a:Addr}
theorem P5 {ns:List Int} {Q:List Value->Shared->Prop} (hh:A.handled=none) (hS:Bp prog w s.heap a ns) (hz:ns.length<=1000)
  (h:∀ (s1:Shared) (vs:List Value),(∀ v∈vs,∃ t,v=.int (kv v) t)->(vs.map kv).Perm ns->s1.os=s.os->s1.gens=s.gens->(∀ b o,s.heap.get? b=some o->s1.heap.get? b=some o)->s.heap.objs.size<=s1.heap.objs.size->Q vs s1):wpAny (model prog w) A (collect (.ref a)) Q E s:=by
 let o1:Obj:={cls:=.type "list",data:=.seq ([]:List Value).toArray}
 have hlt:a<s.heap.objs.size:=let ⟨_,_,_,_,e,_⟩:=hS;Heap.lt_size e
 have hS1:Bp prog w (s.heap.push o1) a ns:=SG.mv hS fun o e=>Heap.get?_push_of_some _ e
 have hT1:Shared.TypeIs {s with heap:=s.heap.push o1} (.ref a) "set":=let ⟨o,_,_,_,e,g⟩:=hS1;⟨o,e,g.ex.1⟩
 have sz1:(s.heap.push o1).objs.size=s.heap.objs.size+1:=Heap.size_push ..
 unfold collect
 refine wpAny_bind (wpAny_runValue (codeAny_builtin PySem.F.entry_proto_collect (by
  rw[Around.under_plainId PySem.F.plain_proto_collect _]
  show wpAny _ A.in1 (newList [] >>= fun l=>again (.builtin "list.__iadd__" ⟨[l,.ref a],[]⟩)) _ _ s
  refine wpAny_bind (wpAny_newObj_type (wpAny_pure ⟨plainId_quiet PySem.F.plain_list_iadd _,codeAny_builtin PySem.F.entry_list_iadd ?_⟩))
  rw[Around.under_plainId PySem.F.plain_list_iadd _]
  show wpAny _ A.in1 (Builtin.List.listExtendWith (.ref s.heap.objs.size) (.ref a) (.ref s.heap.objs.size)) _ _ _
  unfold Builtin.List.listExtendWith
  refine wpAny_bind (wpAny_typeOf hT1 ?_)
  have c1:Builtin.List.listSameRef (.ref s.heap.objs.size) (.ref a)=false:=by simp[Builtin.List.listSameRef,Nat.ne_of_gt hlt]
  have c2:(Value.type "set" == Value.type "list")=false:=by decide
  have c3:(Value.type "set" == Value.type "tuple")=false:=by decide
  simp only[c1,c2,c3,Bool.or_false,Bool.false_eq_true,if_false]
  refine wpAny_bind (Yg (A':=A.in1) (by simpa using hh) hS1 hz fun s1 it fp vs St W st hfp hv hp e1 e2 hk hit=>?_)
  have hk0:∀ b o,s.heap.get? b=some o->s1.heap.get? b=some o:=fun b o e=>hk b o (Heap.get?_push_of_some _ e)
  have hLf:s.heap.objs.size∉fp:=fun z=>by
   rcases hfp _ z with q | q
   ·exact absurd q (Nat.ne_of_gt hlt)
   ·dsimp only at q
    rw[sz1] at q
    exact absurd q (Nat.not_succ_le_self _)
  have hL:s1.heap.get? s.heap.objs.size=some o1:=hk _ _ (Heap.get?_push_size _ rfl)
  have hT2:s1.TypeIs (.ref a) "set":=let ⟨o,_,_,_,e,g⟩:=hS;⟨o,hk0 a o e,g.ex.1⟩
  refine wpAny_bind (wpAny_holding ?_)
  unfold Builtin.List.listLengthHint
  refine wpAny_bind (wpAny_specialOf hT2 PySem.F.slot_set_len.lookup ?_)
  generalize hid:("set.__len__":String)=id0
  dsimp only
  rw[show splitId id0=some ("set","__len__") from by subst hid;decide +kernel]
  dsimp only
  refine wpAny_bind (wpAny_isInstance (b:=true) hT2 sub_set_self ?_)
  subst hid
  refine wpAny_ite_false rfl ?_
  refine wpAny_ite_true (by decide +kernel) ?_
  refine wpAny_bind (wpAny_typeOf hT2 (wpAny_pure ?_))
  refine wpAny_ite_true (by decide +kernel) ?_
  refine wpAny_bind (wpAny_rule (wpAny_bind ?_))
  show wpAny _ A.in1 (updateSeq s.heap.objs.size (·.push .none) >>= fun _=>updateSeq s.heap.objs.size (·.pop)) _ _ s1
  refine wpAny_bind (wpAny_updateSeq hL rfl ?_)
  have hL2:=Heap.get?_update_self (Obj.mapSeq (·.push Value.none)) hL rfl
  refine wpAny_updateSeq hL2 rfl ?_
  have hL3:=Heap.get?_update_self (Obj.mapSeq (·.pop)) hL2 rfl
  have oth:∀ b o,b≠s.heap.objs.size->s1.heap.get? b=some o->((s1.heap.update s.heap.objs.size (Obj.mapSeq (·.push Value.none))).update s.heap.objs.size (Obj.mapSeq (·.pop))).get? b=some o:=fun b o hb e=>(Heap.get?_update_other _ _ (Ne.symm hb)).trans ((Heap.get?_update_other _ _ (Ne.symm hb)).trans e)
  have hvl:vs.size<=sizeLine:=by
   have q1:=hp.length_eq
   rw[List.length_map,Array.length_toList] at q1
   have q2:(1000:Nat)<=sizeLine:=by decide
   lia
  refine wpAny_pure ⟨plainId_quiet PySem.F.plain_extend_loop _,codeAny_extend_loopS W.toS hvl _ hLf _ vs.size 0 _ _ _ rfl (Nat.zero_le _) (W.frame 0 s1.heap _ st fun b hb o e=>oth b o (fun z=>hLf (z▸hb)) e) hL3 (ItemsOf.nil _) fun s' acc' c' hm hS' hacc=>?_⟩
  show wpAny _ A (load s.heap.objs.size >>= _) _ _ s'
  refine wpAny_bind (wpAny_load hS' (wpAny_pure ?_))
  have ea:acc'=vs:=by
   refine Array.ext hacc.1 fun i h1 h2=>?_
   have this:vs[i]?=some acc'[i]:=hacc.2 i acc'[i] (Array.getElem?_eq_getElem h1)
   rw[Array.getElem?_eq_getElem h2] at this
   exact (Option.some.inj this).symm
  rw[ea]
  refine h s' vs.toList hv hp (hm.os.trans e1) (hm.gens.trans e2) (fun b o e=>?_) (Nat.le_of_lt (Heap.lt_size hS'))
  have hb:b<s.heap.objs.size:=Heap.lt_size e
  refine hm.heap b o ?_ (oth b o (Nat.ne_of_lt hb) (hk0 b o e))
  simp only[List.mem_cons,List.not_mem_nil,or_false,not_or]
  refine ⟨Nat.ne_of_lt hb,fun z=>?_⟩
  have q:s.heap.objs.size+1<=it:=by rw[<-sz1];exact hit
  rw[<-z] at q
  exact absurd hb (Nat.not_lt.mpr (Nat.le_of_succ_le q)))))
end
end SL
namespace SL
open PySem PySem.Spec PyProof.Rows EvS
theorem MM:∀ {vs:List Value},(∀ v∈vs,∃ t,v=.int (kv v) t)->IntsAre vs (vs.map kv)
 | [],_=>.nil
 | v::vs,h=>by
  obtain ⟨t,e⟩:=h v List.mem_cons_self
  rw[List.map_cons]
  generalize kv v=k at e ⊢
  subst e
  exact .cons k t (MM fun u hu=>h u (List.mem_cons_of_mem _ hu))
section
variable {prog:Program} {w:World} {A:Around} {E:Value->Shared->Prop} {s:Shared} {a:Addr}
theorem U9 {ns:List Int} {Q:Value->Shared->Prop} (hh:A.handled=none) (hS:Bp prog w s.heap a ns) (hz:ns.length<=1000)
  (h:∀ (s1:Shared) (l:Addr) (out:Array Value) (ms:List Int) (c:Nat),s1.os=s.os->s1.gens=s.gens->(∀ b o,s.heap.get? b=some o->s1.heap.get? b=some o)->s.heap.objs.size<=l->s1.heap.get? l=some {cls:=.type "list",dict:=none,data:=.seq out c,slots:=#[]}->IntsAre out.toList ms->ms.Perm ns->ms.Pairwise (·<=·)->Q (.ref l) s1) :
  wpAny (model prog w) A (call (.builtin "sorted") [.ref a]) Q E s:=by
 have hh1:A.in1.handled=none:=by simpa using hh
 refine Calls.call_function_entry kind_sorted plain_sorted entry_sorted (args_sorted1 _) ?_
 unfold Builtin.«sorted»
 refine wpAny_bind (m:=checkCount "sorted" 1 1 _) (wpAny_pure (wpAny_bind (P5 hh1 hS hz fun s1 vs hv hp e1 e2 hk hsz=>?_)))
 have hvl:vs.length<=1000:=by
  have q:=hp.length_eq
  rw[List.length_map] at q
  lia
 have big:(1000:Nat)<=sizeLine:=by decide
 refine wpAny_bind (wpAny_newList ?_)
 have oL:(s1.heap.push (seqObj "list" vs.toArray 0)).get? s1.heap.objs.size=some (seqObj "list" vs.toArray 0):=Heap.get?_push_size _ rfl
 refine wpAny_bind (wpAny_holding (wpAny_call_entry slot_list_sort ⟨_,oL,rfl⟩ entry_list_sort (LO oL (MM hv) (by lia) fun out ms b1 b2 b3=>⟨_,rfl,?_⟩) (args_list_sort _)))
 refine wpAny_pure ⟨_,rfl,?_⟩
 obtain ⟨c,hc⟩:=sortedHeap_at (out:=out) oL
 refine h _ s1.heap.objs.size out ms c e1 e2 (fun b o e=>?_) hsz hc b1 (b2.trans hp) b3
 have q:=hk b o e
 have hb:b<s1.heap.objs.size:=Heap.lt_size q
 show (sortedHeap (s1.heap.push (seqObj "list" vs.toArray 0)) s1.heap.objs.size vs out).get? b=some o
 rw[sortedHeap_old (Nat.ne_of_lt hb) (by rw[size_push'];exact Nat.lt_succ_of_lt hb)]
 exact Heap.get?_push_of_some _ q
end
end SL
namespace SL
open PySem PySem.Spec PyProof.Rows L2 Ev DL
def FL (P:Program) (w:World) (a:Addr) (ns:List Int):HO:=.ext fun h=>Bp P w h a ns
def dd (ns:List Int):List Int:=ns.foldl Bm []
theorem range_getD:∀ ns:List Int,(List.range ns.length).map (fun i=>ns.getD i 0)=ns:=fun ns=>by
 refine List.ext_getElem (by simp) fun i h1 h2=>?_
 simp[List.getD_eq_getElem?_getD,h2]
theorem Po (ns:List Int):Cg (fun i=>ns.getD i 0) ns.length=dd ns:=by
 unfold Cg dd
 rw[range_getD]
theorem WV (ns:List Int):(dd ns).length<=ns.length:=by
 rw[<-Po]
 exact Jt _ _
section
variable {X:Cx} {pins:List (Addr×Obj)} {σ:L2.St} {H:Hp} {s:Shared}
theorem SD {l:Addr} {o:HO} (I:Inv X pins σ H s) {s':Shared} (ho:s'.os=s.os) (hg:s'.gens=s.gens) (k:∀ b u,s.heap.get? b=some u->s'.heap.get? b=some u) (hp:s.heap.objs.size<=l) (new:ObjOk X.prog X.w (upd H l o) s'.heap l o):Inv X pins σ (upd H l o) s':=
 I.call' (ch:=[]) ho (Un.laid k hp (I.hok.fresh hp)) (I.hok.laid k hp new) (by rw[hg];exact I.bare) fun b hb=>absurd hb (by simp)
abbrev Qz (X:Cx):List V->Hp->VK->Prop:=fun xs H Q=>∃ p ns,xs=[.ref p]/\SqL X.K H p (ns.map V.int)/\ns.length<=1000/\∀ a,H a=none->Q (.ref a) (upd H a (FL X.prog X.w a (dd ns)))
abbrev Uq (X:Cx):List V->Hp->VK->Prop:=fun xs H Q=>∃ p ns,xs=[.ref p]/\H p=some (FL X.prog X.w p ns)/\ns.length<=1000/\∀ l (ms:List Int),H l=none->ms.Perm ns->ms.Pairwise (·<=·)->Q (.ref l) (upd H l (.lst (ms.map V.int)))
theorem TR (hc:X.calm=true):CallR X (.type "set") (Qz X):=by
 intro pins s σ H xs us Q I r h
 obtain ⟨p,ns,rfl,hq,hn,q⟩:=h
 obtain ⟨u,rfl,ru⟩:=vals1 r
 cases ru
 obtain ⟨its,rv,pl,hz⟩:=I.list hq
 have hl:=rv.length
 rw[List.length_map] at hl
 refine VN (I.ok.hd hc) pl.isList (L2.intsAre_of rv) (by show its.toArray.size+1<4096;simp;lia) fun h' tk g k=>?_
 have e:Cg (fun i=>ns.getD i 0) its.toArray.size=dd ns:=by rw[List.size_toArray,<-hl,Po]
 rw[e] at g
 obtain ⟨o,es,ep,t,ho,gg⟩:=id g
 exact ⟨.ref s.heap.objs.size,_,I.laid (t':=tk) (o:=FL X.prog X.w s.heap.objs.size (dd ns)) k (Nat.le_refl _) ⟨g,⟨o,ho⟩,fun h1 h2 x kk=>SG.mv x kk⟩,rfl,q _ (I.hok.fresh (Nat.le_refl _))⟩
theorem X9 (hc:X.calm=true):CallR X (.builtin "sorted") (Uq X):=by
 intro pins s σ H xs us Q I r h
 obtain ⟨p,ns,rfl,hp,hn,q⟩:=h
 obtain ⟨u,rfl,ru⟩:=vals1 r
 cases ru
 have hS:Bp X.prog X.w s.heap p ns:=(I.hok p _ hp).1
 refine U9 (I.ok.hd hc) hS hn fun s1 l out ms c e1 e2 k hl ho b1 b2 b3=>?_
 refine ⟨.ref l,_,SD (o:=.lst (ms.map V.int)) I e1 e2 k hl ⟨?_,out.toList,c,Hz b1,by simpa using ho⟩,rfl,q l ms (I.hok.fresh hl) b2 b3⟩
 rw[List.length_map,b2.length_eq]
 exact Nat.le_trans hn (by decide)
end
def El:Gm->List SV->Option (List D):=fun Γ xs=>match xs with
 | [x]=>(elems Γ x).bind fun ds=>(intsOf ds).bind fun ns=>if ns.length<=1000 then some ((sortI (dd ns)).map .int) else none
 | _=>none
section
variable {X:Cx} {e:Expr} {es:List Expr} {ms:MA} {p p2 pos pos2:Pos}
theorem Sb (T:Nm X.mg) (ha:DA X (e::es) ms) (hc:X.calm=true:=by rfl) (hg:Gl X "sorted":=by rfl) (hg2:Gl X "set":=by rfl) (he:starEach (e::es) X.env=(false,eval e X.env)::starEach es X.env:=by rfl) (hpl:(backTo pos2 (starEach es X.env)).any (·.1)=false:=by rfl)
  (he2:starEach [.Call (.Name "set" p2) (e::es) [] pos2] X.env=(false,eval (.Call (.Name "set" p2) (e::es) [] pos2) X.env)::starEach [] X.env:=by rfl) :
  DF X (.Call (.Name "sorted" p) [.Call (.Name "set" p2) (e::es) [] pos2] [] pos) (A3 El ms):=fun f hf=>
 PE.imp (FB (X9 hc) hg T.sorted PyProof.Rows.boot_sorted (Bs (YR (TR hc) hg2 T.set PyProof.Rows.boot_set (ha f hf) (by decide) (by decide) he hpl) Ca) (by decide) (by decide) he2 rfl) fun σ H Q hh_=>by
  obtain ⟨α,s,r,rs,lo,e0,q⟩:=hh_
  obtain ⟨y,h1,e0⟩:=bind_some e0
  obtain ⟨z,h2,rfl⟩:=Ag e0
  refine ⟨α,s,y,rs,lo,h1,fun α1 vs H1 rs1 l1 x1 hv=>?_⟩
  unfold El at h2
  split at h2
  case h_2=>cases h2
  rename_i x hx
  obtain ⟨ds,h3,h2⟩:=bind_some h2
  obtain ⟨ns,h4,h2⟩:=bind_some h2
  split at h2
  case isFalse=>cases h2
  rename_i hn
  cases h2
  rw[hx] at hv
  obtain ⟨v,r2,rfl,g1,g2⟩:=hv.cons_inv
  rw[g2.nil_inv]
  obtain ⟨a,us,rfl,g3,g4⟩:=BW rs1 h3 g1
  have e1:=Cz h4
  subst e1
  have e2:=g4.ints
  subst e2
  refine ⟨a,ns,rfl,SqL.of g3,hn,fun b hb=>⟨b,dd ns,rfl,Am,Nat.le_trans (WV ns) hn,fun l ms hl hp hs=>?_⟩⟩
  have rs2:=rs1.new (o:=FL X.prog X.w b (dd ns)) hb
  have x2:=Ext.new (o:=FL X.prog X.w b (dd ns)) rs1 hb
  refine q α1 l _ _ rs2 l1 (x1.trans x2) hl ?_
  rw[KU (hp.trans (sortI_perm (dd ns)).symm) hs (Hd (dd ns))]
  exact Reps.of_ints
end
end SL
namespace L2
open PySem PyProof PyProof.Rows
section
variable {X:Cx}
def Rw (K:PySem.W.Frag):V->V->Hp->VK->Prop:=fun x y H Q=>∃ p xs i v,x=.ref p/\y=.int i/\SqL K H p xs/\atI xs i=some v/\Q v H
theorem Tx:Ov X (Rw X.K):=by
 intro pins s σ H x y v u Q I rx ry h
 obtain ⟨p,xs,i,z,rfl,rfl,hq,he,q⟩:=h
 cases rx
 obtain ⟨t,rfl⟩:=ry
 obtain ⟨its,r,pl,hz⟩:=I.list hq
 obtain ⟨j,h1,h2,h3,h4,h5⟩:=Fv he
 obtain ⟨w,ew,rw'⟩:=r.get h2
 have hl:=r.length
 have hn:=EK
 have fin:EP X pins σ Q w s:=⟨z,H,I,rw',q⟩
 by_cases h0:0<=i
 ·have hj:i.toNat=j:=by
   rw[seqIndex_of h0 h5] at h1
   exact Option.some.inj h1
  exact wpAny_getItem_list pl.isList h0 (by lia) (by rw[hj];simpa using ew) fin
 ·have hj:(i+(its.toArray.size:Int)).toNat=j:=by
   rw[seqIndex_neg (by lia) h4] at h1
   rw[List.size_toArray,<-hl]
   exact Option.some.inj h1
  exact wpAny_getItem_list_neg pl.isList (by lia) (by rw[List.size_toArray]<;>lia) (by lia) (by rw[hj];simpa using ew) fin
end
end L2
namespace DL
open PySem L2
@[simp] def DY:Gm->SV->SV->Option (List D):=fun Γ x y=>match elems Γ x,y with
 | some xs,.v (.int k)=>if k<=100000/\-100000<=k/\xs.length * k.toNat<=big then some (List.replicate k.toNat xs).flatten else none
 | _,_=>none
section
variable {X:Cx} {a b o i e:Expr} {ma mb mo mi me:ME} {pos p:Pos}
theorem Kn {W:Wd} {xs:List D} {vs:List V} (h:Reps W xs vs):∀ k:Nat,Reps W (List.replicate k xs).flatten (List.replicate k vs).flatten
 | 0=>.nil
 | k+1=>by
  rw[List.replicate_succ,List.replicate_succ,List.flatten_cons,List.flatten_cons]
  exact h.append (Kn h k)
theorem SX:OpF X DY Kq:=by
 intro f α s σ H x y u v z Q hf rs hu hv e q
 unfold DY at e
 split at e
 ·rename_i xs k h1
  split at e
  ·rename_i hz
   cases e
   obtain ⟨a,vs,rfl,a1,a2⟩:=BW rs h1 hu
   exact ⟨a,k,vs,rfl,Az hv,a1,by lia,by lia,by rw[a2.len];exact Cy hz.2.2,fun p hp=>q p _ hp (Kn a2 _)⟩
  ·cases e
 ·cases e
theorem LH (ha:DE X a ma) (hb:DE X b mb):DF X (.BinOp a .Mult b pos) (CV DY ma mb):=MR R7 SX ha hb
theorem Q9 (ho:DE X o mo) (hi:DE X i mi) (he:DE X e me) (ha:∀ ov iv new,augStore i ov iv new=(do holding [new,ov,iv] (setItem ov iv new);release [new,ov,iv] [];pure .next):=by intros;rfl):DSt X (.AugAssign (.Subscript o i p) .Add e pos) (Ex mo mi me):=fun f hf=>
 PS.imp (Vg (ho f hf) (hi f hf) Tx (he f hf) WK set_list ha) fun E σ H hh_=>by
  obtain ⟨α,s,out,rs,lo,e0,q⟩:=hh_
  unfold Ex at e0
  obtain ⟨⟨x,s1⟩,h1,e0⟩:=bind_some e0
  simp only at e0
  split at e0
  case h_2=>cases e0
  rename_i n
  obtain ⟨⟨y,s2⟩,h2,e0⟩:=bind_some e0
  simp only at e0
  split at e0
  case h_2=>cases e0
  rename_i k
  split at e0
  case h_2=>cases e0
  rename_i xs hxs
  split at e0
  case h_2=>cases e0
  rename_i c hc
  obtain ⟨⟨z,s3⟩,h3,e0⟩:=bind_some e0
  simp only at e0
  split at e0
  case h_2=>cases e0
  rename_i d
  split at e0
  case h_2=>cases e0
  rename_i ws hws
  obtain ⟨j,hj,rfl⟩:=Ag e0
  refine ⟨α,s,_,rs,lo,h1,fun α1 u H1 rs1 l1 x1 hu=>⟨α1,s1,_,rs1,lo_le lo l1 x1,h2,fun α2 v H2 rs2 l2 x2 hv=>?_⟩⟩
  obtain ⟨us,g1,g2⟩:=rs2.box n xs hxs
  obtain ⟨cv,c1,c2⟩:=Jr g2 hc
  refine ⟨α2 n,us,k,cv,by rw[hu.2,x2.al n hu.1],Az hv,SqL.of g1,c1,α2,s2,_,rs2,lo_le (lo_le lo l1 x1) l2 x2,h3,fun α3 w H3 rs3 l3 x3 hw=>?_⟩
  refine ⟨c,d,by unfold Rep at c2;exact c2,Az hw,?_⟩
  obtain ⟨us3,g3,g4⟩:=rs3.box n ws hws
  refine ⟨α3 n,us3,k,j,by rw[hu.2,(x2.trans x3).al n hu.1],Az hv,g3,by rw[g4.len];exact hj,?_⟩
  exact q α3 σ _ (rs3.put hws (Reps.set B8 j g4)) (l3.trans (l2.trans l1)) (((x1.trans x2).trans x3).trans (.put hws))
end
section
variable {X:Cx} {st:Stmt}
def EW (i:Nat) (m:MS):MS:=fun s=>match s.σ[i]? with
 | some (some (.b n))=>match s.Γ[n]? with
  | some (some xs)=>if s.lo<=n then m ⟨s.σ.set i (some (.v (.lst xs))),s.Γ.set n none,s.lo⟩ else none
  | _=>none
 | _=>none
theorem pre_of {i n:Nat} {m:MS} {s:DS} {xs:List D} (h1:s.σ[i]?=some (some (.b n))) (h2:s.Γ[n]?=some (some xs)) (h3:s.lo<=n):EW i m s=m ⟨s.σ.set i (some (.v (.lst xs))),s.Γ.set n none,s.lo⟩:=by
 unfold EW
 rw[h1]
 simp only[]
 rw[h2]
 simp only[]
 rw[if_pos h3]
end
theorem Xj {X:Cx} {sts:List Stmt} {i:Nat} {m:MS} (h:DSs X sts m):DSs X sts (EW i m):=fun f hf=>PSs.imp (h f hf) fun E σ H hh_=>by
 obtain ⟨α,s,o,rs,lo,e,q⟩:=hh_
 unfold EW at e
 split at e
 case h_2=>cases e
 rename_i n hn
 split at e
 case h_2=>cases e
 rename_i xs hx
 split at e
 case isFalse=>cases e
 rename_i hlo
 obtain ⟨r1,x1,hr⟩:=rs.frz hx hlo
 obtain ⟨v,hv,hnl,rfl⟩:=rs.slot i _ hn
 refine ⟨α,_,o,r1.slots (τ:=s.σ.set i (some (.v (.lst xs)))) (by rw[List.length_set];exact rs.len) fun j d hj=>?_,by
  show s.lo<=(s.Γ.set n none).length
  rw[List.length_set];exact lo,e,q.ext rfl x1⟩
 rw[List.getElem?_set] at hj
 by_cases z:i=j
 ·rw[if_pos z] at hj
  split at hj
  ·cases hj
   subst z
   exact ⟨_,hv,hr⟩
  ·cases hj
 ·rw[if_neg z] at hj
  exact r1.slot j d hj
end DL
namespace L2
open PySem PySem.Spec PyProof.Rows
section
variable {κ:Type} [DecidableEq κ]
def A7 (kvs:List (κ×V)) (k:κ):Option V:=(kvs.find? fun kv=>decide (kv.1=k)).map (·.2)
def putK (kvs:List (κ×V)) (k:κ) (v:V):List (κ×V):=
 if (kvs.any fun kv=>decide (kv.1=k))=true then kvs.map (fun kv=>if kv.1=k then (kv.1,v) else kv) else kvs++[(k,v)]
theorem Cj {p:κ×V} {r:List (κ×V)} {k:κ} (e:p.1=k):A7 (p::r) k=some p.2:=by simp[A7,List.find?_cons,e]
theorem Cq {p:κ×V} {r:List (κ×V)} {k:κ} (e:¬p.1=k):A7 (p::r) k=A7 r k:=by simp[A7,List.find?_cons,e]
theorem Do (k:κ):∀ kvs:List (κ×V),(kvs.any fun kv=>decide (kv.1=k))=(A7 kvs k).isSome
 | []=>rfl
 | p::r=>by
  rw[List.any_cons]
  by_cases e:p.1=k
  ·simp only[Cj e,decide_eq_true e,Bool.true_or,Option.isSome_some]
  ·rw[Cq e,decide_eq_false e,Bool.false_or];exact Do k r
theorem NI (k j:κ) (y:V):∀ kvs:List (κ×V),A7 (kvs.map fun kv=>if kv.1=k then (kv.1,y) else kv) j=(A7 kvs j).map fun x=>if j=k then y else x
 | []=>rfl
 | p::r=>by
  have ih:=NI k j y r
  rw[List.map_cons]
  by_cases h:p.1=k
  ·rw[if_pos h]
   by_cases e:p.1=j
   ·rw[Cj (p:=(p.1,y)) e,Cj e,Option.map_some,if_pos (e.symm.trans h)]
   ·rw[Cq (p:=(p.1,y)) e,Cq e,ih]
  ·rw[if_neg h]
   by_cases e:p.1=j
   ·rw[Cj (p:=p) e,Cj e,Option.map_some,if_neg (fun z=>h (e.trans z))]
   ·rw[Cq (p:=p) e,Cq e,ih]
theorem Ng (k j:κ) (y:V):∀ kvs:List (κ×V),A7 kvs k=none->A7 (kvs++[(k,y)]) j=if j=k then some y else A7 kvs j
 | [],_=>by
  by_cases e:k=j
  ·rw[if_pos e.symm];exact Cj (p:=(k,y)) e
  ·rw[if_neg (fun z=>e z.symm)];exact Cq (p:=(k,y)) e
 | p::r,hn=>by
  rw[List.cons_append]
  have hk:¬p.1=k:=fun z=>by rw[Cj z] at hn;cases hn
  rw[Cq hk] at hn
  have ih:=Ng k j y r hn
  by_cases e:p.1=j
  ·rw[Cj e,Cj e,if_neg (fun z=>hk (e.trans z))]
  ·rw[Cq e,Cq e,ih]
theorem OH (kvs:List (κ×V)) (k j:κ) (y:V):A7 (putK kvs k y) j=if j=k then some y else A7 kvs j:=by
 unfold putK
 by_cases a:(kvs.any fun kv=>decide (kv.1=k))=true
 ·rw[if_pos a,NI]
  rw[Do] at a
  by_cases e:j=k
  ·obtain ⟨x,hx⟩:=Option.isSome_iff_exists.mp a
   rw[if_pos e,e,hx,Option.map_some,if_pos rfl]
  ·rw[if_neg e]
   cases A7 kvs j with
   | none=>rfl
   | some x=>rw[Option.map_some,if_neg e]
 ·rw[if_neg a]
  refine Ng k j y kvs ?_
  rw[Do] at a
  cases q:A7 kvs k with
  | none=>rfl
  | some x=>rw[q] at a;exact (a rfl).elim
theorem Gx (kvs:List (κ×V)) (k:κ) (v:V):(putK kvs k v).length<=kvs.length+1:=by
 unfold putK
 split
 ·rw[List.length_map];lia
 ·rw[List.length_append,List.length_cons,List.length_nil];lia
theorem Ri {kvs:List (κ×V)} {k:κ} (v:V) (h:A7 kvs k=none):putK kvs k v=kvs++[(k,v)]:=by
 unfold putK
 rw[Do,h]
 exact if_neg (by decide)
theorem RelO.isSome_eq {o:Option V} {u:Option Value} (r:RelO o u):o.isSome=u.isSome:=by
 cases o with
 | none=>cases u with
  | none=>rfl
  | some _=>exact (show False from r).elim
 | some _=>cases u with
  | none=>exact (show False from r).elim
  | some _=>rfl
theorem RelO.getD {o:Option V} {u:Option Value} {d:V} {d':Value} (r:RelO o u) (rd:RelV d d'):RelV (o.getD d) (u.getD d'):=by
 cases o with
 | none=>cases u with
  | none=>exact rd
  | some _=>exact (show False from r).elim
 | some _=>cases u with
  | none=>exact (show False from r).elim
  | some _=>exact r
theorem KV.val {kvs:List (κ×V)} {vs:List (κ×Value)} (r:KV kvs vs) (k:κ):RelO (A7 kvs k) (valueAt vs k):=by
 unfold KV at r
 induction r with
 | nil=>exact True.intro
 | @cons p q ps qs h t ih=>
  obtain ⟨h1,h2⟩:=h
  by_cases e:p.1=k
  ·have e':q.1=k:=h1.symm.trans e
   have b:valueAt (q::qs) k=some q.2:=by simp[valueAt,List.find?_cons,e']
   rw[Cj e,b];exact h2
  ·have e':¬q.1=k:=fun z=>e (h1.trans z)
   have b:valueAt (q::qs) k=valueAt qs k:=by simp[valueAt,List.find?_cons,e']
   rw[Cq e,b];exact ih
theorem KV.any {kvs:List (κ×V)} {vs:List (κ×Value)} (r:KV kvs vs) (k:κ):(kvs.any fun kv=>decide (kv.1=k))=vs.any fun kv=>decide (kv.1=k):=by
 unfold KV at r
 induction r with
 | nil=>rfl
 | cons h t ih=>rw[List.any_cons,List.any_cons,ih,h.1]
theorem KV.repl {kvs:List (κ×V)} {vs:List (κ×Value)} (r:KV kvs vs) (k:κ) {y:V} {u:Value} (ry:RelV y u) :
  KV (kvs.map fun kv=>if kv.1=k then (kv.1,y) else kv) (vs.map fun kv=>if kv.1=k then (kv.1,u) else kv):=by
 unfold KV at r ⊢
 induction r with
 | nil=>exact .nil
 | @cons p q ps qs h t ih=>
  rw[List.map_cons,List.map_cons]
  refine .cons ?_ ih
  obtain ⟨h1,h2⟩:=h
  by_cases e:p.1=k
  ·rw[if_pos e,if_pos (h1.symm.trans e)];exact ⟨h1,ry⟩
  ·rw[if_neg e,if_neg (fun z=>e (h1.trans z))];exact ⟨h1,h2⟩
theorem KV.put {kvs:List (κ×V)} {vs:List (κ×Value)} (r:KV kvs vs) (k:κ) {y:V} {u:Value} (ry:RelV y u):KV (putK kvs k y) (stored vs k u):=by
 unfold putK stored
 rw[r.any k]
 by_cases e:(vs.any fun kv=>decide (kv.1=k))=true
 ·rw[if_pos e,if_pos e];exact r.repl k ry
 ·rw[if_neg e,if_neg e];exact Paired.snoc r ⟨rfl,ry⟩
theorem KV.length {kvs:List (κ×V)} {vs:List (κ×Value)} (r:KV kvs vs):kvs.length=vs.length:=Paired.length r
end
theorem Hs {P:Program} {w:World} {k:Key} {u:Value} (r:RelV (kV k) u):(Bq P w).is k u=true:=by
 cases k with
 | inl i=>obtain ⟨t,e⟩:=(show ∃ t,u=Value.int i t from r);subst e;exact Rf P w i t
 | inr x=>obtain ⟨t,e⟩:=(show ∃ t,u=Value.str x t from r);subst e;exact X3 P w x t
theorem LX {P:Program} {w:World}:∀ {ks:List Key} {us:List Value},Vals (ks.map kV) us->ItemsAre (Bq P w) ks us
 | [],_,r=>by rw[List.map_nil] at r;cases r;exact .nil
 | k::ks,_,r=>by
  rw[List.map_cons] at r
  cases r with
  | cons h t=>exact .cons (Hs h) (LX t)
abbrev KT (H:Hp):List (List Key×V)->List (List Key×Addr×Value)->Prop:=Paired fun p q=>p.1=q.1/\H q.2.1=some (.tup (p.1.map kV))/\RelV p.2 q.2.2
theorem KT.val {H:Hp} {kvs:List (List Key×V)} {xs:List (List Key×Addr×Value)} (r:KT H kvs xs) (k:List Key):RelO (A7 kvs k) ((atKey xs k).map (·.2)):=by
 induction r with
 | nil=>exact True.intro
 | @cons p q ps qs h t ih=>
  obtain ⟨h1,_,h2⟩:=h
  by_cases e:p.1=k
  ·have e':q.1=k:=h1.symm.trans e
   have b:atKey (q::qs) k=some q.2:=by simp[atKey,List.find?_cons,e']
   rw[Cj e,b];exact h2
  ·have e':¬q.1=k:=fun z=>e (h1.trans z)
   have b:atKey (q::qs) k=atKey qs k:=by simp[atKey,List.find?_cons,e']
   rw[Cq e,b];exact ih
theorem KT.repl {H:Hp} {kvs:List (List Key×V)} {xs:List (List Key×Addr×Value)} (r:KT H kvs xs) (k:List Key) {y:V} {u:Value} (ry:RelV y u) :
  KT H (kvs.map fun kv=>if kv.1=k then (kv.1,y) else kv) (xs.map (putAt k u)):=by
 induction r with
 | nil=>exact .nil
 | @cons p q ps qs h t ih=>
  rw[List.map_cons,List.map_cons]
  refine .cons ?_ ih
  obtain ⟨h1,h2,h3⟩:=h
  unfold putAt
  by_cases e:p.1=k
  ·rw[if_pos e,if_pos (h1.symm.trans e)];exact ⟨h1,h2,ry⟩
  ·rw[if_neg e,if_neg (fun z=>e (h1.trans z))];exact ⟨h1,h2,h3⟩
theorem KT.put {H:Hp} {kvs:List (List Key×V)} {xs:List (List Key×Addr×Value)} (r:KT H kvs xs) (k:List Key) {b:Addr} {y:V} {u:Value} (hb:H b=some (.tup (k.map kV))) (ry:RelV y u) :
  KT H (putK kvs k y) (storedH xs k b u):=by
 have e:(kvs.any fun kv=>decide (kv.1=k))=(atKey xs k).isSome:=by
  rw[Do,(r.val k).isSome_eq,Option.isSome_map]
 unfold putK storedH
 rw[e]
 by_cases q:(atKey xs k).isSome=true
 ·rw[if_pos q,if_pos q];exact r.repl k ry
 ·rw[if_neg q,if_neg q];exact Paired.snoc r ⟨rfl,hb,ry⟩
theorem KT.keeps {H H':Hp} {kvs:List (List Key×V)} {xs:List (List Key×Addr×Value)} (r:KT H kvs xs) (ht:∀ b ys,H b=some (.tup ys)->H' b=some (.tup ys)):KT H' kvs xs:=
 Paired.mapP r fun _ _ z=>⟨z.1,ht _ _ z.2.1,z.2.2⟩
section
variable {P:Program} {w:World} {H:Hp} {h:Heap} {a:Addr}
theorem Nj {u:HO} (ok:HOk P w H h) (e:Rd H a u):ObjOk P w H h a u:=e.ok ok
theorem FI {kvs:List (Key×V)} (ok:HOk P w H h) (e:Rd H a (.dK kvs)):kvs.length<=sizeLine/\(a == sysModules)=false/\∃ vs,KV kvs vs/\h.DictOf (Bq P w) a vs:=
 show ObjOk P w H h a (.dK kvs) from Nj ok e
theorem QJ {kvs:List (Key×V)} (ok:HOk P w H h) (e:H a=some (.dK kvs)):kvs.length<=sizeLine/\(a == sysModules)=false/\∃ vs,KV kvs vs/\h.DictOf (Bq P w) a vs:=FI ok (.inl e)
theorem GN {ks:List Key} (ok:HOk P w H h) (e:H a=some (.tup (ks.map kV))):(tupleKind (Bq P w)).is h ks a:=by
 obtain ⟨_,its,r,o,h1,h2,n,h3⟩:=(show ObjOk P w H h a (.tup (ks.map kV)) from ok a _ e)
 exact ⟨o,its.toArray,n,h1,h2,h3,by simpa using LX r⟩
theorem FD {kvs:List (List Key×V)} (ok:HOk P w H h) (e:Rd H a (.dT kvs)):kvs.length<=sizeLine/\(a == sysModules)=false /\
  ∃ xs,KT H kvs xs/\h.DictOfH (tupleKind (Bq P w)) a xs:=by
 obtain ⟨z,y,xs,r,o,es,ep,h1,h2,h3,h4,h5⟩:=(show ObjOk P w H h a (.dT kvs) from Nj ok e)
 refine ⟨z,y,xs,r,o,es,ep,h1,h2,h3,h4,fun x hx=>?_,h5⟩
 have all:∀ {l:List (List Key×V)} {m:List (List Key×Addr×Value)},KT H l m->∀ x∈m,(tupleKind (Bq P w)).is h x.1 x.2.1:=by
  intro l m q
  induction q with
  | nil=>intro x hx;exact nomatch hx
  | @cons p q ps qs hq t ih=>
   intro x hx
   rcases List.mem_cons.mp hx with e | hx
   ·subst e
    exact GN ok (by rw[<-hq.1];exact hq.2.1)
   ·exact ih x hx
 exact all r x hx
theorem Y1 {kvs:List (List Key×V)} (ok:HOk P w H h) (e:H a=some (.dT kvs)):kvs.length<=sizeLine/\(a == sysModules)=false /\
  ∃ xs,KT H kvs xs/\h.DictOfH (tupleKind (Bq P w)) a xs:=FD ok (.inl e)
end
def DGet (H:Hp) (a:Addr) (y:V) (r:Option V):Prop:=
 (∃ kvs k,Rd H a (.dK kvs)/\y=kV k/\r=A7 kvs k)\/∃ kvs k b,Rd H a (.dT kvs)/\y=.ref b/\H b=some (.tup (k.map kV))/\r=A7 kvs k
def DPut (H:Hp) (a:Addr) (y v:V) (H':Hp):Prop:=
 (∃ kvs k,H a=some (.dK kvs)/\y=kV k/\kvs.length<sizeLine/\H'=upd H a (.dK (putK kvs k v))) \/
 ∃ kvs k b,H a=some (.dT kvs)/\y=.ref b/\H b=some (.tup (k.map kV))/\kvs.length<sizeLine/\H'=upd H a (.dT (putK kvs k v))
theorem DGet.k {H:Hp} {a:Addr} {kvs:List (Key×V)} {k:Key} (e:H a=some (.dK kvs)):DGet H a (kV k) (A7 kvs k):=.inl ⟨kvs,k,.inl e,rfl,rfl⟩
theorem DGet.t {H:Hp} {a b:Addr} {kvs:List (List Key×V)} {k:List Key} (e:H a=some (.dT kvs)) (eb:H b=some (.tup (k.map kV))):DGet H a (.ref b) (A7 kvs k):=.inr ⟨kvs,k,b,.inl e,rfl,eb,rfl⟩
theorem DPut.k {H:Hp} {a:Addr} {kvs:List (Key×V)} {k:Key} {v:V} (e:H a=some (.dK kvs)) (hl:kvs.length<sizeLine):DPut H a (kV k) v (upd H a (.dK (putK kvs k v))):=.inl ⟨kvs,k,e,rfl,hl,rfl⟩
theorem DPut.t {H:Hp} {a b:Addr} {kvs:List (List Key×V)} {k:List Key} {v:V} (e:H a=some (.dT kvs)) (eb:H b=some (.tup (k.map kV))) (hl:kvs.length<sizeLine) :
  DPut H a (.ref b) v (upd H a (.dT (putK kvs k v))):=.inr ⟨kvs,k,b,e,rfl,eb,hl,rfl⟩
section
variable {X:Cx} {pins:List (Addr×Obj)} {σ:St} {H:Hp} {s:Shared} {a:Addr} {y v:V} {u r:Value} {o:Option V} {A:Around} {E:Value->Shared->Prop}
theorem Inv.big (I:Inv X pins σ H s):sysModules<s.heap.objs.size:=by
 have h:mainGlobals<s.heap.objs.size:=(I.mod.glob.keeps I.bk).lt
 exact Nat.lt_trans (by decide) h
theorem Tf {Q:Value->Shared->Prop} (hu:A.units+1<cLine) (I:Inv X pins σ H s) (g:DGet H a y (some v)) (ry:RelV y u) (h:∀ w' s',Inv X pins σ H s'->RelV v w'->Q w' s') :
  wpAny (model X.prog X.w) A (getItem (.ref a) u) Q E s:=by
 rcases g with ⟨kvs,k,e,ey,l⟩ | ⟨kvs,k,b,e,ey,eb,l⟩
 ·subst ey
  obtain ⟨z,hd,vs,rel,dd⟩:=FI I.hok e
  obtain ⟨w',hw,rw'⟩:=RelO.some_of (v:=v) (o:=valueAt vs k) (by rw[l];exact rel.val k)
  exact wpAny_getItem_of (Hs ry) dd.mapOf hw (h w' _ (I.tok _) rw')
 ·subst ey
  cases (show u=Value.ref b from ry)
  obtain ⟨z,hd,xs,rel,dd⟩:=FD I.hok e
  obtain ⟨w',hw,rw'⟩:=RelO.some_of (v:=v) (o:=(atKey xs k).map (·.2)) (by rw[l];exact rel.val k)
  obtain ⟨p,hp,hp2⟩:=Option.map_eq_some_iff.mp hw
  refine wpAny_getItem_heap (tupleKind_room_in1 hu) (GN I.hok eb) dd hp ?_
  rw[hp2]
  exact h w' _ (I.tok _) rw'
theorem K5 {h':Heap} {t':Nat} {ob:HO} (I:Inv X pins σ H s) (mu:Mut (H a)) (hs:Heap.SameBut a s.heap h') (he:∃ q,h'.get? a=some q) (new:ObjOk X.prog X.w (upd H a ob) h' a ob) :
  Inv X pins σ (upd H a ob) {s with heap:=h',toks:=t'}:=
 I.write (x:=a) (e:=a) mu (.inl rfl) (fun b q hb z=>(hs.2 b hb).trans z) he new
theorem Y2 {P:Program} {w:World} {H':Hp} {h':Heap} {kvs:List (Key×V)} {vs:List (Key×Value)} (z:kvs.length<=sizeLine) (hd:(a == sysModules)=false) (rel:KV kvs vs) (dd:h'.DictOf (Bq P w) a vs) :
  ObjOk P w H' h' a (.dK kvs):=⟨z,hd,vs,rel,dd⟩
theorem R8 {H':Hp} {Q:Unit->Shared->Prop} (hu:A.units+1<cLine) (I:Inv X pins σ H s) (g:DPut H a y v H') (ry:RelV y u) (rv:RelV v r) (h:∀ s',Inv X pins σ H' s'->Q () s') :
  wpAny (model X.prog X.w) A (setItem (.ref a) u r) Q E s:=by
 rcases g with ⟨kvs,k,e,ey,l,eH⟩ | ⟨kvs,k,b,e,ey,eb,l,eH⟩
 ·subst ey eH
  obtain ⟨z,hd,vs,rel,dd⟩:=QJ I.hok e
  have hz:vs.length<=sizeLine:=by rw[<-rel.length];exact z
  have hl:(putK kvs k v).length<=sizeLine:=by have:=Gx kvs k v;lia
  refine wpAny_setItem_pairs (hsz:=hz) (Hs ry) dd fun h' dd' hs=>h _ ?_
  have he:∃ q,h'.get? a=some q:=let ⟨q,_,_,hq,_⟩:=dd';⟨q,hq⟩
  exact K5 I (by rw[e];exact True.intro) hs he (Y2 hl hd (rel.put k rv) dd')
 ·subst ey eH
  cases (show u=Value.ref b from ry)
  obtain ⟨z,hd,xs,rel,dd⟩:=Y1 I.hok e
  have hz:xs.length<=sizeLine:=by rw[<-Paired.length rel];exact z
  have hl:(putK kvs k v).length<=sizeLine:=by have:=Gx kvs k v;lia
  refine wpAny_setItem_heap (hsz:=hz) (tupleKind_room_in1 hu) (GN I.hok eb) dd fun h' dd' hs=>h _ ?_
  obtain ⟨q,es,ep,hq,h2,h3,h4,_,h5⟩:=dd'
  refine K5 I (by rw[e];exact True.intro) hs ⟨q,hq⟩ ⟨hl,hd,_,(rel.put k eb rv).keeps fun c ys ec=>?_,q,es,ep,hq,h2,h3,h4,h5⟩
  rw[AJ (GR ec e (fun z=>nomatch z))]
  exact ec
end
section
variable {X:Cx} {pins:List (Addr×Obj)} {σ:St} {H:Hp} {s:Shared} {a:Addr} {kvs:List (Key×V)} {k:Key} {u:Value} {A:Around} {E:Value->Shared->Prop}
end
def MQ (i:Expr):Prop:=∀ ov iv,subscripted i false ov iv=operate [ov,iv] (getItem ov iv)
theorem Wg {prog:Program} {w:World} {A:Around} {E:Value->Shared->Prop} {s:Shared} {env:Env} {value slice:Expr} {pos:Pos} {T id:String} {Q:Value->Shared->Prop}
  (hl:typeLookup (.type T) "__getitem__"=pure (some (.builtin id))) (hs:MQ slice)
  (h:wpAny (model prog w) A (eval value env) (fun o s₁=>wpAny (model prog w) A (eval slice env) (fun i s₂=>s₂.TypeIs o T/\wpAny (model prog w) A (getItem o i) Q E s₂) E s₁) E s) :
  wpAny (model prog w) A (eval (.Subscript value slice pos) env) Q E s:=by
 refine Subscript_ (wpAny_mono h (fun o s₁ h₁=>wpAny_mono h₁ (fun i s₂ h₂=>?_) fun _ _ x=>x) fun _ _ x=>x)
 obtain ⟨hT,h₂⟩:=h₂
 unfold subscriptTail
 refine wpAny_bind ?_
 rw[getitemInPython_of_ne hT.not_modules]
 refine wpAny_bind (wpAny_specialOf hT hl ?_)
 have fin:wpAny (model prog w) A (subscripted slice false o i) (fun r s₃=>wpAny (model prog w) A (letTemporaryGo value o r >>= fun _=>pure r) Q E s₃) E s₂:=by
  rw[hs o i]
  exact wpAny_operating (wpAny_mono h₂ (fun r s₃ h₃=>wpAny_bind (wpAny_letTemporaryGo (wpAny_pure h₃))) fun _ _ x=>x)
 first
  | exact wpAny_pure (wpAny_bind fin)
  | exact wpAny_bind (wpAny_pure (wpAny_bind fin))
  | exact wpAny_bind fin
theorem Sg {X:Cx} {pins:List (Addr×Obj)} {σ:St} {H:Hp} {s:Shared} {a:Addr} {y:V} {o:Option V} (I:Inv X pins σ H s) (g:DGet H a y o):s.TypeIs (.ref a) "dict":=by
 rcases g with ⟨kvs,k,e,_,_⟩ | ⟨kvs,k,b,e,_,_,_⟩
 ·obtain ⟨_,_,vs,_,dd⟩:=FI I.hok e
  exact dd.typeIs
 ·obtain ⟨_,_,xs,_,dd⟩:=FD I.hok e
  exact dd.typeIs
def VB (td ty:TE):TE:=fun σ H Q=>td σ H fun x H1=>ty σ H1 fun y H2=>∃ a v,x=.ref a/\DGet H2 a y (some v)/\Q v H2
def Rn (td ty tv:TE):TS:=fun D σ H=>tv σ H fun v H1=>td σ H1 fun x H2=>ty σ H2 fun y H3=>∃ a H4,x=.ref a/\DPut H3 a y v H4/\D.nx σ H4
section
variable {X:Cx} {o i e value:Expr} {pos pos' tpos:Pos} {td ty tv:TE}
theorem OA (hu:X.A.units+1<cLine) (ho:PE X o td) (hi:PE X i ty) (hs:MQ i):PE X (.Subscript o i pos) (VB td ty):=by
 intro pins s σ H Q I h
 refine Wg PySem.F.slot_dict_getitem.lookup hs (thn (ho pins s σ H _ I h) fun u s1 ⟨x,H1,I1,rx,q1⟩=>thn (hi pins s1 σ H1 _ I1 q1) fun iv s2 hh_=>?_)
 obtain ⟨y,H2,I2,ry,a,v,ex,g,q2⟩:=hh_
 subst ex
 obtain rfl:u=Value.ref a:=rx
 exact ⟨Sg I2 g,Tf hu I2 g ry fun w' s3 I3 rw'=>⟨v,H2,I3,rw',q2⟩⟩
theorem Kv (hu:X.A.units+1<cLine) (ho:PE X o td) (hi:PE X i ty) (hv:PE X value tv) (hs:swapsWith value (some (.Subscript o i pos')) pos.line X.env=pure false) :
  PS X (.Assign [.Subscript o i pos'] value pos) (Rn td ty tv):=by
 intro pins s σ H D I h
 refine wpAny_Assign_Subscript (thn (hv pins s σ H _ I h) fun r s1 ⟨v,H1,I1,rv,q1⟩=>thn (ho pins s1 σ H1 _ I1 q1) fun u s2 ⟨x,H2,I2,rx,q2⟩=>thn (hi pins s2 σ H2 _ I2 q2) fun iv s3 hh_=>?_) hs
 obtain ⟨y,H3,I3,ry,a,H4,ex,g,q3⟩:=hh_
 subst ex
 obtain rfl:u=Value.ref a:=rx
 exact R8 hu I3 g ry rv fun s4 I4=>⟨σ,H4,I4,q3⟩
end
theorem YV {P:Program} {w:World} {H:Hp} (h:Heap) (hb:sysModules<h.objs.size):ObjOk P w H (h.push {cls:=.type "dict",data:=.dict #[]}) h.objs.size (.dK []):=
 ⟨Nat.zero_le _,beq_eq_false_iff_ne.mpr (Ne.symm (Nat.ne_of_lt hb)),[],.nil,Heap.DictOf.new h⟩
theorem U6 {P:Program} {w:World} {H:Hp} (h:Heap) (hb:sysModules<h.objs.size):ObjOk P w H (h.push {cls:=.type "dict",data:=.dict #[]}) h.objs.size (.dT []):=
 ⟨Nat.zero_le _,beq_eq_false_iff_ne.mpr (Ne.symm (Nat.ne_of_lt hb)),[],.nil,_,#[],0,Heap.get?_push_size _ rfl,⟨rfl,rfl,rfl⟩,rfl,rfl,List.nodup_nil⟩
def Vn:TE:=fun _ H Q=>∀ p,H p=none->Q (.ref p) (upd H p (.dK []))
def QD:TE:=fun _ H Q=>∀ p,H p=none->Q (.ref p) (upd H p (.dT []))
section
variable {X:Cx} {pos:Pos}
theorem WD:PE X (.Dict [] [] pos) Vn:=fun pins s σ H Q I h=>
 wpAny_Dict_empty ⟨.ref s.heap.objs.size,_,I.laid (a:=s.heap.objs.size) (o:=.dK []) (t':=s.toks) (fun _ _ q=>Heap.get?_push_of_some _ q) (Nat.le_refl _) (YV s.heap I.big),rfl,h _ (I.hok.fresh (Nat.le_refl _))⟩
theorem X7:PE X (.Dict [] [] pos) QD:=fun pins s σ H Q I h=>
 wpAny_Dict_empty ⟨.ref s.heap.objs.size,_,I.laid (a:=s.heap.objs.size) (o:=.dT []) (t':=s.toks) (fun _ _ q=>Heap.get?_push_of_some _ q) (Nat.le_refl _) (U6 s.heap I.big),rfl,h _ (I.hok.fresh (Nat.le_refl _))⟩
end
structure M1 (X:Cx) (o:Expr) (m:Str) (apos:Pos) (e:Expr) (cpos:Pos):Prop where
 base:attributeBase o m X.env (eval o X.env)=eval o X.env
 few:((backTo cpos (starEach [e] X.env)).all (fun x=>!x.1) && (backToKw cpos (keywordEach [] X.env)).all (fun x=>x.1.isSome)
  && decide (([e]:List Expr).length+([]:List Keyword).length+(if ([]:List Keyword).isEmpty then 0 else 1)<30))=true
 line:(apos.endLine == cpos.line)=true
 trees:backTo cpos (starEach [e] X.env)=[(false,eval e X.env)]
structure M2 (X:Cx) (o:Expr) (m:Str) (apos:Pos) (e f:Expr) (cpos:Pos):Prop where
 base:attributeBase o m X.env (eval o X.env)=eval o X.env
 few:((backTo cpos (starEach [e,f] X.env)).all (fun x=>!x.1) && (backToKw cpos (keywordEach [] X.env)).all (fun x=>x.1.isSome)
  && decide (([e,f]:List Expr).length+([]:List Keyword).length+(if ([]:List Keyword).isEmpty then 0 else 1)<30))=true
 line:(apos.endLine == cpos.line)=true
 trees:backTo cpos (starEach [e,f] X.env)=[(false,eval e X.env),(false,eval f X.env)]
def IsD (H:Hp) (a:Addr):Prop:=(∃ kvs,Rd H a (.dK kvs))\/∃ kvs,Rd H a (.dT kvs)
theorem RY {X:Cx} {pins:List (Addr×Obj)} {σ:St} {H:Hp} {s:Shared} {a:Addr} (I:Inv X pins σ H s) (d:IsD H a) :
  s.TypeIs (.ref a) "dict"/\(∀ b,Value.ref a=.ref b->∃ ob,s.heap.get? b=some ob/\ob.dict=none)/\(a == sysModules)=false:=by
 rcases d with ⟨kvs,e⟩ | ⟨kvs,e⟩
 ·obtain ⟨_,hd,vs,_,dd⟩:=FI I.hok e
  refine ⟨dd.typeIs,fun b q=>?_,hd⟩
  cases q
  obtain ⟨ob,_,_,h1,h2,_⟩:=dd
  exact ⟨ob,h1,h2.2.1⟩
 ·obtain ⟨_,hd,xs,_,dd⟩:=FD I.hok e
  refine ⟨dd.typeIs,fun b q=>?_,hd⟩
  cases q
  obtain ⟨ob,_,_,h1,h2,_⟩:=dd
  exact ⟨ob,h1,h2.2.1⟩
section
variable {X:Cx} {pins:List (Addr×Obj)} {σ:St} {H:Hp} {s:Shared} {a:Addr} {y d:V} {u r:Value} {o:Option V} {A:Around} {E:Value->Shared->Prop}
theorem RP {Q:Value->Shared->Prop} (hu:A.units+1<cLine) (I:Inv X pins σ H s) (g:DGet H a y o) (ry:RelV y u) (rd:RelV d r) (h:∀ w' s',Inv X pins σ H s'->RelV (o.getD d) w'->Q w' s') :
  wpAny (model X.prog X.w) A (call (.builtin "dict.get") [.ref a,u,r]) Q E s:=by
 rcases g with ⟨kvs,k,e,ey,l⟩ | ⟨kvs,k,b,e,ey,eb,l⟩
 ·subst ey
  obtain ⟨z,hd,vs,rel,dd⟩:=FI I.hok e
  refine call_meetsIn PySem.F.slot_dict_get dd.typeIs PySem.F.entry_dict_get (PySem.F.args_dict_get_3 _ _ _) (meets_dict_get_default (Bq X.prog X.w) a (Hs ry) hd r) ⟨_,dd.mapOf,h _ _ (I.tok _) ?_⟩
  rw[l]
  exact (rel.val k).getD rd
 ·subst ey
  cases (show u=Value.ref b from ry)
  obtain ⟨z,hd,xs,rel,dd⟩:=FD I.hok e
  refine call_meetsIn PySem.F.slot_dict_get dd.typeIs PySem.F.entry_dict_get (PySem.F.args_dict_get_3 _ _ _) (meetsH_dict_get_default (tupleKind (Bq X.prog X.w)) a b hd r) ⟨tupleKind_room_in1 hu,k,xs,GN I.hok eb,dd,h _ _ (I.tok _) ?_⟩
  rw[l]
  exact (rel.val k).getD rd
end
def Rc (td ty tx:TE):TE:=fun σ H Q=>td σ H fun x H1=>∃ a,x=.ref a/\IsD H1 a/\ty σ H1 fun y H2=>tx σ H2 fun z H3=>∃ o,DGet H3 a y o/\Q (o.getD z) H3
section
variable {X:Cx} {o e f:Expr} {apos cpos:Pos} {td ty tx:TE}
theorem Yr (hu:X.A.units+1<cLine) (ho:PE X o td) (he:PE X e ty) (hf:PE X f tx) (m:M2 X o "get" apos e f cpos):PE X (.Call (.Attribute o "get" apos) [e,f] [] cpos) (Rc td ty tx):=by
 intro pins s σ H Q I h
 refine wpAny_Call_method m.base m.few m.line PySem.F.plainAttrs_dict PySem.F.slot_dict_get PySem.F.type_dict_get (thn (ho pins s σ H _ I h) fun u s1 hh_=>?_)
 obtain ⟨x,H1,I1,rx,a,ex,d,q1⟩:=hh_
 subst ex
 obtain rfl:u=Value.ref a:=rx
 obtain ⟨t1,t2,_⟩:=RY I1 d
 refine ⟨t1,t2,?_⟩
 rw[m.trees]
 refine Calls.callWith_builtin rfl (Calls.evalArgs_plain (Calls.spliced_cons (thn (he pins s1 σ H1 _ I1 q1) fun iv s2 ⟨y,H2,I2,ry,q2⟩=>
  Calls.spliced_cons (thn (hf pins s2 σ H2 _ I2 q2) fun fv s3 ⟨z,H3,I3,rz,ov,g,q3⟩=>Calls.spliced_nil ?_))))
 exact RP hu I3 g ry rz fun w' s4 I4 rw'=>⟨_,H3,I4,rw',q3⟩
end
section
variable {X:Cx} {pins:List (Addr×Obj)} {σ:St} {H:Hp} {s:Shared} {a:Addr} {kvs:List (Key×V)} {A:Around} {E:Value->Shared->Prop}
end
section
variable {X:Cx} {pins:List (Addr×Obj)} {σ:St} {H:Hp} {s:Shared} {a:Addr} {y:V} {u:Value} {A:Around} {E:Value->Shared->Prop}
end
end L2
namespace Att
open PySem PySem.W PySem.Calls PyProof.Rows
end Att
namespace L2
open PySem PySem.Spec PyProof.Rows
section
variable {X:Cx}
end
section
variable {κ:Type} [DecidableEq κ]
theorem RW {kvs:List (κ×V)} {k:κ} {v:V} (h:A7 kvs k=some v):k∈kvs.map (·.1):=by
 have q:(kvs.any fun kv=>decide (kv.1=k))=true:=by
  rw[Do,h]
  all_goals rfl
 obtain ⟨p,hp,e⟩:=List.any_eq_true.mp q
 exact List.mem_map.mpr ⟨p,hp,of_decide_eq_true e⟩
end
end L2
namespace SL
open PySem PySem.Spec PyProof.Rows L2 EvS
section
variable {prog:Program} {w:World} {A:Around} {E:Value->Shared->Prop} {s:Shared} {a:Addr}
end
section
variable {X:Cx}
end
end SL
namespace SL
open PySem PySem.Spec PyProof.Rows L2 EvS Ev
section
variable {X:Cx}
variable {e:Expr} {es:List Expr} {ms:DL.MA} {p p2 pos pos2:Pos}
end
end SL
namespace SL
open PySem PySem.Spec PyProof.Rows L2
section
variable {prog:Program} {w:World} {A:Around} {E:Value->Shared->Prop} {s:Shared}
theorem YU {d:Addr} {o:Obj} {es:Array DictEntry} {ep:Nat} {Q:Value->Shared->Prop} (hd:(d == sysModules)=false) (ho:s.heap.get? d=some o) (hc:o.ExactDict) (hdat:o.data=.dict es ep)
  (hQ:Q (.ref s.heap.objs.size) {s with heap:=s.heap.push {cls:=.type "dict_keyiterator",data:=.fields #[.ref d,.int 0 0,.int es.size 0,.int ep 0]}}) :
  wpAny (model prog w) A (pyIter (.ref d)) Q E s:=by
 have hT:s.TypeIs (.ref d) "dict":=⟨o,ho,hc.1⟩
 refine wpAny_pyIter_slot hT F.slot_dict_iter (wpAny_call_entry F.slot_dict_iter hT F.entry_dict_iter ?_ (F.args_dict_iter_1 _))
 unfold Builtin.«dict.__iter__» Builtin.Dict.dictSlotNone
 refine wpAny_bind (wpAny_bind (wpAny_notOrdered_dict hT ?_))
 show wpAny _ _ (pure (Value.ref d)) _ _ s
 refine wpAny_pure ?_
 show wpAny _ _ (Builtin.Dict.showsAll d >>= _) _ _ s
 unfold Builtin.Dict.showsAll
 rw[if_neg (by rw[hd];exact Bool.false_ne_true)]
 refine wpAny_bind (wpAny_pure (wpAny_bind (wpAny_dictEntries ho hdat (wpAny_bind (wpAny_dictEpoch ho hdat ?_)))))
 refine wpAny_bind (wpAny_newObj_type (wpAny_pure ⟨_,rfl,"dict_keyiterator",_,⟨_,Heap.get?_push_size _ rfl,rfl⟩,F.slot_dict_keyiterator_next.lookup,?_⟩))
 simpa [rawInt] using hQ
theorem Qa {it d:Addr} {i ep:Nat} {od:Obj} {es:Array DictEntry} {en:DictEntry} {Q:Option Value->Shared->Prop} (hit:s.heap.IsKeyIter it d i es.size ep) (hod:s.heap.get? d=some od) (hdd:od.data=.dict es ep) (hx:es[i]?=some en)
  (hQ:∀ h',h'.IsKeyIter it d (i+1) es.size ep->Heap.SameBut it s.heap h'->Q (some en.key) {s with heap:=h'}):wpAny (model prog w) A (pyNext (.ref it)) Q E s:=by
 obtain ⟨o,ho,hc,hd⟩:=id hit
 unfold pyNext
 refine wpAny_bind (wpAny_attempt (wpAny_callSpecial?_slot (name:=Str.ofString "__next__") hit.typeIs F.slot_dict_keyiterator_next
  (wpAny_call_entry F.slot_dict_keyiterator_next hit.typeIs F.entry_dict_keyiterator_next ?_ (F.args_dict_keyiterator_next_1 _))))
 refine wpAny_bind (wpAny_pure (wpAny_bind (wpAny_bind (wpAny_bind (wpAny_typeNameOfWhole_keyiter hit.typeIs (wpAny_pure (wpAny_bind (wpAny_fieldsOf ho hd ?_))))))))
 simp only[show Builtin.Dict_items.ownsTuple "dict_keyiterator"=false from by decide,Bool.false_eq_true,if_false]
 show wpAny _ _ (if (Value.ref d == Value.none)=true then _ else _) _ _ s
 rw[if_neg (show ¬((Value.ref d == Value.none)=true) from Bool.false_ne_true)]
 refine wpAny_bind (wpAny_pure (wpAny_bind (wpAny_dictEntries hod hdd ?_)))
 rw[if_neg (by simp)]
 refine wpAny_bind (wpAny_pure (wpAny_bind (wpAny_dictEpoch hod hdd ?_)))
 rw[if_neg (by simp)]
 refine wpAny_pure ?_
 simp only[show ¬((i:Int)<0) from by lia,if_false,Int.toNat_natCast,hx]
 refine wpAny_bind (wpAny_bind (wpAny_typeNameOfWhole_keyiter hit.typeIs (wpAny_pure (wpAny_bind (wpAny_isOneOf_keyiter hit.typeIs ?_)))))
 show wpAny _ _ (setField (.ref it) 1 (rawInt ((i:Int)+1)) >>= _) _ _ s
 refine wpAny_bind (wpAny_setField ho hd (by simp) ?_)
 have hit':(s.heap.update it (Obj.mapFields (·.setIfInBounds 1 (rawInt ((i:Int)+1))))).IsKeyIter it d (i+1) es.size ep:=
  ⟨_,Heap.get?_update_self _ ho (Obj.isFreed_of_fields (Obj.data_mapFields hd _)),(Obj.cls_mapFields ..).trans hc,by rw[Obj.data_mapFields hd];simp[rawInt]⟩
 refine wpAny_bind (wpAny_holding (wpAny_bind (wpAny_isOneOf_keyiter (s:={s with heap:=s.heap.update it (Obj.mapFields (·.setIfInBounds 1 (rawInt ((i:Int)+1))))}) hit'.typeIs ?_)))
 show wpAny _ _ (pure en.key) _ _ _
 exact wpAny_pure (wpAny_pure ⟨_,rfl,wpAny_pure (hQ _ hit' (Heap.SameBut.update ..))⟩)
theorem Yt {it d:Addr} {i ep:Nat} {od:Obj} {es:Array DictEntry} {Q:Option Value->Shared->Prop} (hh:A.handled=none) (hit:s.heap.IsKeyIter it d i es.size ep) (hod:s.heap.get? d=some od) (hdd:od.data=.dict es ep) (hx:es.size<=i)
  (hQ:∀ h',Heap.ExtBut it s.heap h'->Q none {s with heap:=h'}):wpAny (model prog w) A (pyNext (.ref it)) Q E s:=by
 obtain ⟨o,ho,hc,hd⟩:=id hit
 unfold pyNext
 refine wpAny_bind (wpAny_attempt (wpAny_callSpecial?_slot (name:=Str.ofString "__next__") hit.typeIs F.slot_dict_keyiterator_next
  (wpAny_call_entry F.slot_dict_keyiterator_next hit.typeIs F.entry_dict_keyiterator_next ?_ (F.args_dict_keyiterator_next_1 _))))
 refine wpAny_bind (wpAny_pure (wpAny_bind (wpAny_bind (wpAny_bind (wpAny_typeNameOfWhole_keyiter hit.typeIs (wpAny_pure (wpAny_bind (wpAny_fieldsOf ho hd ?_))))))))
 simp only[show Builtin.Dict_items.ownsTuple "dict_keyiterator"=false from by decide,Bool.false_eq_true,if_false]
 show wpAny _ _ (if (Value.ref d == Value.none)=true then _ else _) _ _ s
 rw[if_neg (show ¬((Value.ref d == Value.none)=true) from Bool.false_ne_true)]
 refine wpAny_bind (wpAny_pure (wpAny_bind (wpAny_dictEntries hod hdd ?_)))
 rw[if_neg (by simp)]
 refine wpAny_bind (wpAny_pure (wpAny_bind (wpAny_dictEpoch hod hdd ?_)))
 rw[if_neg (by simp)]
 refine wpAny_pure ?_
 simp only[show ¬((i:Int)<0) from by lia,if_false,Int.toNat_natCast,Array.getElem?_eq_none hx]
 refine wpAny_bind (wpAny_bind (wpAny_typeNameOfWhole_keyiter hit.typeIs (wpAny_pure ?_)))
 show wpAny _ _ (setField (.ref it) 0 .none >>= _) _ _ s
 refine wpAny_bind (wpAny_setField ho hd (by simp) ?_)
 show wpAny _ _ (newExc (.type "StopIteration") [] >>= _) _ _ _
 refine wpAny_bind ?_
 simp only[newExc,newTuple]
 refine wpAny_bind (wpAny_newObj_type ?_ (by size_fits))
 refine wpAny_bind (m:=firstArgMember _ _) (wpAny_of_eq (a:=Value.none) (by first | rfl | (simp only[firstArgMember];rfl)) ?_)
 refine wpAny_newObj_type ?_ (by size_fits)
 simp only[raiseNew]
 refine wpAny_bind (wpAny_handled ?_)
 rw[show A.in1.handled=none from hh]
 refine wpAny_bind (wpAny_pure (wpAny_throw ?_))
 refine wpAny_bind (wpAny_isInstance (T:="StopIteration") (b:=true) ⟨_,Heap.get?_push_size _ rfl,rfl⟩ isSubtype_stop ?_)
 exact wpAny_pure (hQ _ (((Heap.SameBut.update ..).extBut.push _).push _))
end
def Hy:HO->Nat
 | .dK kvs=>kvs.length
 | .dT kvs=>kvs.length
 | _=>0
def Kz (H:Hp):HO->Nat->V->Prop
 | .dK kvs,i,x=>∃ k v,kvs[i]?=some (k,v)/\x=kV k
 | .dT kvs,i,x=>∃ k v b,kvs[i]?=some (k,v)/\x=.ref b/\H b=some (.tup (k.map kV))
 | _,_,_=>False
def IK:HO->Prop
 | .dK _=>True
 | .dT _=>True
 | _=>False
theorem My {α β:Type} {R:α->β->Prop}:∀ {xs:List α} {ys:List β} {i:Nat} {y:β},Paired R xs ys->ys[i]?=some y->∃ x,xs[i]?=some x/\R x y:=by
 intro xs ys i y r
 induction r generalizing i with
 | nil=>intro e;cases e
 | cons h t ih=>
  intro e
  cases i with
  | zero=>cases e;exact ⟨_,rfl,h⟩
  | succ i=>exact ih (by simpa using e)
theorem N2 {P:Program} {w:World} {H:Hp} {h:Heap} {a:Addr} {u:HO} (hu:IK u) (x:ObjOk P w H h a u) :
  (a == sysModules)=false/\∃ o es ep,h.get? a=some o/\o.ExactDict/\o.data=.dict es ep/\es.size=Hy u/\∀ i en,es[i]?=some en->∃ x,RelV x en.key/\Kz H u i x:=by
 cases u<;>first | exact hu.elim | skip
 case dK kvs=>
  obtain ⟨_,hy,vs,rv,o,es,ep,h1,h2,h3,_,h4,_⟩:=(show _ from x)
  refine ⟨hy,o,es,ep,h1,h2,h3,?_,fun i en e=>?_⟩
  ·show es.size=kvs.length
   rw[rv.length,<-h4.length]
   simp
  ·have e':es.toList[i]?=some en:=by simpa using e
   obtain ⟨⟨k,v⟩,hk⟩:∃ q,vs[i]?=some q:=by
    have hl:=h4.length
    have:i<es.toList.length:=(List.getElem?_eq_some_iff.mp e').1
    exact ⟨vs[i]'(by lia),List.getElem?_eq_getElem _⟩
   obtain ⟨hi,_⟩:=h4.get? e' hk
   obtain ⟨⟨k',v'⟩,hk',r1,_⟩:=My rv hk
   have r1:k'=k:=r1
   subst r1
   refine ⟨kV k',?_,k',v',hk',rfl⟩
   rcases C3 (show EG k' en.key=true from hi) with ⟨j,t,z1,z2⟩ | ⟨y,t,z1,z2⟩
   ·rw[z1,z2];exact ⟨t,rfl⟩
   ·rw[z1,z2];exact ⟨t,rfl⟩
 case dT kvs=>
  obtain ⟨_,hy,xs,rv,o,es,ep,h1,h2,h3,h4,_⟩:=(show _ from x)
  refine ⟨hy,o,es,ep,h1,h2,h3,?_,fun i en e=>?_⟩
  ·show es.size=kvs.length
   rw[size_of_entries h4,Paired.length rv]
  ·rw[entry_at h4] at e
   obtain ⟨q,hq,rfl⟩:=Option.map_eq_some_iff.mp e
   obtain ⟨p,hp,r1,r2,r3⟩:=My rv hq
   exact ⟨.ref q.2.1,rfl,p.1,p.2,q.2.1,hp,rfl,r2⟩
def Itd (a:Addr) (o:Obj) (u:HO):It:=
 ⟨fun i H=>H a=some (.frz o u)/\i<Hy u,fun i H x H'=>H'=H/\Kz H u i x,fun i H=>H a=some (.frz o u)/\Hy u<=i⟩
theorem SU {P:Program} {w:World} {K:PySem.W.Frag} {tg:Expr} {a it:Addr} {o:Obj} {u:HO} {es:Array DictEntry} {ep:Nat} (hu:IK u) (hdat:o.data=.dict es ep) (hsz:es.size=Hy u):Turn P w K tg (Itd a o u) [it] it (fun i h=>h.IsKeyIter it a i es.size ep) where
 mem:=by simp
 obj:=fun i h st b hb=>by
  have e:b=it:=by simpa using hb
  subst e
  obtain ⟨o,e,c,d⟩:=st
  exact ⟨o,e,fun v z=>by rw[d] at z;cases z⟩
 keep:=fun i h h' st k=>by
  obtain ⟨o,e,r⟩:=st
  exact ⟨o,k it (by simp) o e,r⟩
 item:=by
  intro X hP hw hK hc i pins s σ H E I hf st hg
  subst hP hw hK
  obtain ⟨ha,hi⟩:=hg
  obtain ⟨h0,q⟩:=I.hok a _ ha
  obtain ⟨_,o',es',ep',h1,h2,h3,h4,h5⟩:=N2 hu q
  rw[h0] at h1
  cases h1
  rw[hdat] at h3
  cases h3
  obtain ⟨f0,f1,f2,f3,f4,f5⟩:=hf it (by simp)
  have hlt:i<es.size:=by rw[hsz];exact hi
  obtain ⟨x,rx,kx⟩:=h5 i es[i] (Array.getElem?_eq_getElem hlt)
  refine Qa st h0 hdat (Array.getElem?_eq_getElem hlt) fun h' st' sb=>?_
  have I1:Inv X pins σ H {s with heap:=h'}:=I.turned (t':=s.toks) (fun b o hb e=>(sb.2 b hb).trans e) f0 f1 f3 f4 f5
  obtain ⟨o2,e,c,d⟩:=id st'
  exact ⟨_,rfl,Gw (s:={s with heap:=h'}) e c d (by decide) ⟨x,H,I1,rx,⟨rfl,kx⟩,st',fun b hb=>(hf b hb).1⟩⟩
 done:=by
  intro X hP hw hK hc i pins s σ H E I hf st hg
  subst hP hw hK
  obtain ⟨ha,hi⟩:=hg
  obtain ⟨h0,q⟩:=I.hok a _ ha
  obtain ⟨f0,f1,f2,f3,f4,f5⟩:=hf it (by simp)
  exact Yt (I.ok.hd hc) st h0 hdat (by rw[hsz];exact hi) fun h' eb=>⟨rfl,I.turned (t':=s.toks) (fun b o hb e=>eb b o hb e) f0 f1 f3 f4 f5⟩
 self:=fun _ _ _ _ _ st h=>wpAny_pyIter_keyiter st h
section
variable {X:Cx} {tg:Expr}
def TZ (tl:TE):TI:=fun σ H R=>tl σ H fun x H1=>∃ a u,x=.ref a/\H1 a=some u/\IK u/\∀ o,R (Itd a o u) (upd H1 a (.frz o u))
theorem Ra {l:Expr} {tl:TE} (hl:PE X l tl):PI X tg l (TZ tl):=by
 intro pins s σ H R I h
 refine thn (hl pins s σ H _ I h) fun v s1 hh_=>?_
 obtain ⟨x,H1,I1,r1,q1⟩:=hh_
 obtain ⟨a,u,e,ha,hu,q⟩:=q1
 subst e
 cases r1
 have ok:=I1.hok a u ha
 obtain ⟨hy,o,es,ep,h1,h2,h3,h4,h5⟩:=N2 hu ok
 refine YU hy h1 h2 h3 ?_
 have mu:Mut (H1 a):=by
  rw[ha]
  cases u<;>first | exact hu.elim | exact trivial
 have I2:Inv X pins σ (upd H1 a (.frz o u)) s1:=I1.write (x:=a) (e:=a) (h':=s1.heap) (t':=s1.toks) mu (.inl rfl) (fun b u' _ e=>e) ⟨o,h1⟩ ⟨h1,ok.stay (fun b u' _ e=>e) (fun b hb=>by
   rw[AJ (fun z=>by rw[z,ha] at hb;cases hb;exact hu.elim)];exact hb) fun b xs hb=>by
   rw[AJ (fun z=>by rw[z,ha] at hb;cases hb;exact hu.elim)];exact hb⟩
 refine ⟨s1.heap.objs.size,[s1.heap.objs.size],_,_,upd H1 a (.frz o u),rfl,I2.kept (t':=s1.toks) fun b o e=>Heap.get?_push_of_some _ e,SU hu h3 h4,⟨_,Heap.get?_push_size _ rfl,rfl,rfl⟩,fun b hb=>?_,q o⟩
 have e:b=s1.heap.objs.size:=by simpa using hb
 subst e
 exact I2.fpOk (Nat.le_refl _) (I2.hok.fresh (Nat.le_refl _))
end
end SL
namespace DL
open PySem L2
def wQ (K:PySem.W.Frag) (H:Hp):Wd:=⟨K,fun _=>False,H⟩
def Grow (H H':Hp):Prop:=∀ b o,H b=some o->H' b=some o
theorem Grow.trans {H H1 H2:Hp} (a:Grow H H1) (b:Grow H1 H2):Grow H H2:=fun c o e=>b c o (a c o e)
theorem Grow.new {H:Hp} {a:Addr} {o:HO} (h:H a=none):Grow H (upd H a o):=fun b u e=>by rw[AJ (As e h)];exact e
theorem Grow.none {H H':Hp} {a:Addr} (g:Grow H H') (h:H' a=none):H a=none:=by
 cases e:H a with
 | none=>rfl
 | some o=>rw[g a o e] at h;cases h
theorem Grow.kw {K:PySem.W.Frag} {H H':Hp} (g:Grow H H'):Kw (wQ K H) (wQ K H'):=⟨rfl,fun a o _ e=>⟨g a o e,fun z=>z⟩⟩
theorem OQ {f:Fr} {α:Nat->Addr} {Γ:Gm} {H:Hp}:Kw (wd f α Γ H) (wQ f.K H):=⟨rfl,fun a o _ e=>⟨e,fun z=>z⟩⟩
theorem Yw {K:PySem.W.Frag} {α:Nat->Addr} {H H0:Hp}:Kw (wQ K H) (wd (frQ K H0) α [] H):=⟨rfl,fun a o _ e=>⟨e,fun z=>by
 rcases z with z | ⟨n,xs,z,_⟩
 ·exact z
 ·cases z⟩⟩
structure Sl (K:PySem.W.Frag) (H:Hp) (ds:List (Option D)) (σ:St):Prop where
 len:ds.length=σ.length
 slot:∀ (i:Nat) (d:D),ds[i]?=some (some d)->∃ v,σ[i]?=some (some v)/\Rep (wQ K H) d v
theorem Sl.nil {K:PySem.W.Frag} {H:Hp}:Sl K H [] []:=⟨rfl,fun i d e=>by cases e⟩
theorem Sl.cons {K:PySem.W.Frag} {H:Hp} {ds:List (Option D)} {σ:St} {d:D} {v:V} (r:Rep (wQ K H) d v) (h:Sl K H ds σ):Sl K H (some d::ds) (some v::σ):=⟨by rw[List.length_cons,List.length_cons,h.len],fun i c e=>by
 cases i with
 | zero=>cases e;exact ⟨v,rfl,r⟩
 | succ i=>exact h.slot i c e⟩
theorem Sl.skip {K:PySem.W.Frag} {H:Hp} {ds:List (Option D)} {σ:St} {v:Option V} (h:Sl K H ds σ):Sl K H (none::ds) (v::σ):=⟨by rw[List.length_cons,List.length_cons,h.len],fun i c e=>by
 cases i with
 | zero=>cases e
 | succ i=>exact h.slot i c e⟩
abbrev slD (ds:List (Option D)):DS:=⟨ds.map (Option.map .v),[],0⟩
theorem Sl.rs {K:PySem.W.Frag} {H:Hp} {ds:List (Option D)} {σ:St} (h:Sl K H ds σ):RS (frQ K H) (fun _=>0) (slD ds) σ H where
 len:=by rw[List.length_map];exact h.len
 slot:=fun i d e=>by
  rw[List.getElem?_map] at e
  cases hd:ds[i]? with
  | none=>rw[hd] at e;cases e
  | some o=>
   cases o with
   | none=>rw[hd] at e;cases e
   | some d'=>
    rw[hd] at e
    cases e
    obtain ⟨v,a,b⟩:=h.slot i d' hd
    exact ⟨v,a,b.kw Yw⟩
 box:=fun n xs h=>by cases h
 own:=fun n xs h=>by cases h
 inj:=fun n m xs ys h=>by cases h
 fr:=fun b o h _=>h
 forb:=fun a h=>h.elim
theorem DT.x {X:Cx} {e:Expr} {m:MT} (h:DT X e m):PT X e (xT X.K m):=fun pins s σ H Q I ⟨f,hf,q⟩=>h f hf pins s σ H Q I q
theorem DE.xK {X:Cx} {K:PySem.W.Frag} {e:Expr} {m:ME} (hk:X.K=K) (h:DE X e m):PE X e (xD K m):=hk▸DE.x h
theorem DT.xK {X:Cx} {K:PySem.W.Frag} {e:Expr} {m:MT} (hk:X.K=K) (h:DT X e m):PT X e (xT K m):=hk▸DT.x h
theorem Ew {K:PySem.W.Frag} {m:ME} {σ:St} {H:Hp} {Q:VK} {ds:List (Option D)} {d:D} {s':DS} (hs:Sl K H ds σ) (e:m (slD ds)=some (.v d,s')) (q:∀ v H',Grow H H'->Rep (wQ K H') d v->Q v H'):xD K m σ H Q:=
 ⟨frQ K H,rfl,fun _=>0,slD ds,(.v d,s'),hs.rs,Nat.le_refl _,e,fun α' v H' rs' _ _ hv=>q v H' (fun b o z=>rs'.fr b o z fun y=>y) (Rep.kw OQ (show Rep _ d v from hv))⟩
theorem U0 {K:PySem.W.Frag} {m:MT} {σ:St} {H:Hp} {Q:Bool->Hp->Prop} {ds:List (Option D)} {b:Bool} {s':DS} (hs:Sl K H ds σ) (e:m (slD ds)=some (b,s')) (q:∀ H',Grow H H'->Q b H'):xT K m σ H Q:=
 ⟨frQ K H,rfl,fun _=>0,slD ds,(b,s'),hs.rs,Nat.le_refl _,e,fun α' H' rs' _ _=>q H' (fun b o z=>rs'.fr b o z fun y=>y)⟩
theorem RS.grow {f:Fr} {α:Nat->Addr} {s:DS} {σ:St} {H H':Hp} (r:RS f α s σ H) (g:Grow H H'):RS f α s σ H'/\Ext f α α s.Γ s.Γ H H':=by
 have e:Ext f α α s.Γ s.Γ H H':=⟨⟨rfl,fun a u n z=>⟨g a u z,n⟩⟩,Nat.le_refl _,fun _ _=>rfl,fun _ xs _ z=>⟨xs,z⟩⟩
 exact ⟨r.mv e g,e⟩
theorem RS.tree {f:Fr} {α:Nat->Addr} {s:DS} {σ:St} {H:Hp} (r:RS f α s σ H) {i:Nat} {d:D} (h:s.σ[i]?=some (some (.v d))):∃ v,σ[i]?=some (some v)/\Rep (wQ f.K H) d v:=by
 obtain ⟨v,a,b⟩:=r.slot i _ h
 exact ⟨v,a,Rep.kw OQ (show Rep _ d v from b)⟩
end DL
namespace Ev
open PySem
def top (i:Nat):Stmt:=PySem.Challenge.pw_evenlots_k22_whole_keys_and_names.main.body.getD i (.Pass ⟨0,0,0,0⟩)
structure Cal (P:Program) (w:World) (K:PySem.W.Frag) (mg:Str->Option Value) (base:Heap) (x:Str) (lv:Nat) (f:Addr) (fd:FuncData) (ps:List Str) (sp:L2.Sp):Prop where
 G:L2.FnOk P w K mg base L2.CX0 lv f fd ps sp
 b:L2.Binds K fd ps []
 k:PySem.W.keepIn K (.ref f)=true
 m:mg x=some (.ref f)
end Ev
namespace DL
open PySem L2 Ev
abbrev GM:Stmt:=top 5
abbrev PZ:List Str:=["row","hand"]
def Jy:MS:=(Ah (A3 CQ (AB (AH (Aw (Cp (AB (AA 0) AC)) 2 [1] (BX [0,1]) mTT (B6 (AB (mOp gIx (AA 1) (mC (.int 0))) (AB (AA 2) (AB (AA 0) AC)))))) AC)))
theorem SW:FnScope PZ ["row","hand"] (AY GM):=⟨rfl,rfl,rfl,by decide +kernel,rfl,by decide +kernel,by decide +kernel⟩
theorem Ur {P:Program} {w:World} {K:PySem.W.Frag} {mg:Str->Option Value} {base:Heap} {fa:Addr} {fd:FuncData} (F:Fun K "names_of_hand" "names_of_hand" GM fa fd) (T:Nm mg):FnOk P w K mg base CX0 1 fa fd ["row","hand"] (spF K 2 (AU 2 (Jy))):=
 Bn F SW fun cdv A outer s H E hr=>(Ae (Bd (QM T (AE (Al (CB (esc:=(AY GM)) (N:=PZ) (tn:=["place","thing"]) (fn:=["hand"]) (ix:=[1]) rfl rfl rfl ⟨rfl,by decide +kernel,by decide +kernel,by decide +kernel,rfl,by decide +kernel⟩ (Fb rfl T.enum (AE (AD (pv 0)) AG)) (fun _ _ _ _ _=>(EA (is:=[0,1]) (n:=2) rfl (DV rfl rfl (Bk (An (i:=0) (show (["place","thing","hand"]:List Str).Nodup by decide +kernel) rfl (Or.inl rfl)) (Bk (An (i:=1) (show (["place","thing","hand"]:List Str).Nodup by decide +kernel) rfl (Or.inl rfl)) Dh))))) (fun _ _ _ _ _=>B5) (fun _ _ _ _ _=>(J5 (AE (Ba (AD (pv 1)) AR) (AE (AD (pv 2)) (AE (AD (pv 0)) AG))))))) AG))))
abbrev Ia:Stmt:=top 4
abbrev QB:List Str:=["thing"]
def IF:MS:=(Bb (PJ (FF "int" (AA 0)) (Pm (FF "bool" (AA 0)))))
theorem QR:FnScope QB ["thing"] (AY Ia):=⟨rfl,rfl,rfl,by decide +kernel,rfl,by decide +kernel,by decide +kernel⟩
theorem SI {P:Program} {w:World} {K:PySem.W.Frag} {mg:Str->Option Value} {base:Heap} {fa:Addr} {fd:FuncData} (F:Fun K "is_whole" "is_whole" Ia fa fd) (T:Nm mg):FnOk P w K mg base CX0 1 fa fd ["thing"] (spD K 1 (mFn 1 (IF))):=
 DC F QR fun cdv A outer s H E hr=>(Ae (Cb (UZ (Q8 T (AD (pv 0))) (Ui (WT (Wf T (AD (pv 0))))))))
abbrev Jh:Stmt:=top 6
abbrev Yi:List Str:=["rows","names","hand","row"]
def LU (zC:MDF):MS:=(BR (De (AA 1) (AH (AX zC (AB (AA 3) (AB (AA 2) AC))))))
def HY (zC:MDF):MS:=(AI (BB 1 (Ap AC))
 (AI (BP (Cp (AB (AA 0) AC)) (BX [2,3]) (LU zC))
 (Ah (A3 BH (AB (AA 1) AC)))))
theorem sc_names_plainly:FnScope Yi ["rows"] (AY Jh):=⟨rfl,rfl,rfl,by decide +kernel,rfl,by decide +kernel,by decide +kernel⟩
theorem Xf {P:Program} {w:World} {K:PySem.W.Frag} {mg:Str->Option Value} {base:Heap} {fa:Addr} {fd:FuncData} (F:Fun K "names_plainly" "names_plainly" Jh fa fd) (T:Nm mg) {yA:Addr} {yB:FuncData} {zC:MDF} (zE:Cal P w K mg base "names_of_hand" 1 yA yB ["row","hand"] (spF K 2 zC)):FnOk P w K mg base CX0 2 fa fd ["rows"] (spF K 1 (AU 4 (HY zC))):=
 Bn F sc_names_plainly fun cdv A outer s H E hr=>(AW (Cm (fun te h=>Ai (i:=1) sc_names_plainly.nd rfl (Or.inl rfl) h) (Bw AG))
 (AW (Co PassesOwn.never rfl (Fb rfl T.enum (AE (AD (pv 0)) AG)) (EA (is:=[2,3]) (n:=2) rfl (DV rfl rfl (Bk (An (i:=2) sc_names_plainly.nd rfl (Or.inl rfl)) (Bk (An (i:=3) sc_names_plainly.nd rfl (Or.inl rfl)) Dh)))) (Ae (DR (J6 (AD (pv 1)) (Al (BE zE.G hr rfl zE.m zE.k zE.b (AE (AD (pv 3)) (AE (AD (pv 2)) AG)) (AL (AL Aj))))))))
 (Ae (Bd (ES T (AE (AD (pv 1)) AG))))))
abbrev GW:Stmt:=top 7
abbrev Oq:List Str:=["rows"]
def GA (yE:MDF):MS:=(Ah (Aw (Ax (AH (AX yE (AB (AA 0) AC)))) 3 [0] (BX [0,1,2]) mTT (mOp gIx (mOp gIx (AA 3) (AA 1)) (AA 2))))
theorem Ry:FnScope Oq ["rows"] (AY GW):=⟨rfl,rfl,rfl,by decide +kernel,rfl,by decide +kernel,by decide +kernel⟩
theorem TC {P:Program} {w:World} {K:PySem.W.Frag} {mg:Str->Option Value} {base:Heap} {fa:Addr} {fd:FuncData} (F:Fun K "sorted_plainly" "sorted_plainly" GW fa fd) (T:Nm mg) {xN:Addr} {xO:FuncData} {yE:MDF} (yF:Cal P w K mg base "names_plainly" 2 xN xO ["rows"] (spF K 1 yE)):FnOk P w K mg base CX0 3 fa fd ["rows"] (spF K 1 (AU 1 (GA yE))):=
 Bn F Ry fun cdv A outer s H E hr=>(Ae (Bd (CB (esc:=(AY GW)) (N:=Oq) (tn:=["key","hand","place"]) (fn:=["rows"]) (ix:=[0]) rfl rfl rfl ⟨rfl,by decide +kernel,by decide +kernel,by decide +kernel,rfl,by decide +kernel⟩ (CL (Al (BE yF.G hr rfl yF.m yF.k yF.b (AE (AD (pv 0)) AG) (AL Aj)))) (fun _ _ _ _ _=>(EA (is:=[0,1,2]) (n:=3) rfl (DV rfl rfl (Bk (An (i:=0) (show (["key","hand","place","rows"]:List Str).Nodup by decide +kernel) rfl (Or.inl rfl)) (Bk (An (i:=1) (show (["key","hand","place","rows"]:List Str).Nodup by decide +kernel) rfl (Or.inl rfl)) (Bk (An (i:=2) (show (["key","hand","place","rows"]:List Str).Nodup by decide +kernel) rfl (Or.inl rfl)) Dh)))))) (fun _ _ _ _ _=>B5) (fun _ _ _ _ _=>(Ba (Ba (AD (pv 3)) (AD (pv 1))) (AD (pv 2)))))))
abbrev JM:Stmt:=top 10
abbrev Re:List Str:=["s"]
def JO (yG:MD):MS:=(mIf (mOr (D8 (ET (Ab yG (AB (AA 0) AC)))) (D8 (Ao (Cd Eg Eg (mC (.int 1)) (AA 0) (mC (.int 8)))))) (fun _=>none) BO)
theorem U1:FnScope Re ["s"] (AY JM):=⟨rfl,rfl,rfl,by decide +kernel,rfl,by decide +kernel,by decide +kernel⟩
theorem Y4 {P:Program} {w:World} {K:PySem.W.Frag} {mg:Str->Option Value} {base:Heap} {fa:Addr} {fd:FuncData} (F:Fun K "check_asked" "check_asked" JM fa fd) (T:Nm mg) {xP:Addr} {xQ:FuncData} {yG:MD} (yH:Cal P w K mg base "is_whole" 1 xP xQ ["thing"] (spD K 1 yG)) (g_MOST_SAMPLES:∃ t,mg "MOST_SAMPLES"=some (.int 8 t)):FnOk P w K mg base CX0 2 fa fd ["s"] (spD K 1 (mFn 1 (JO yG))):=
 DC F U1 fun cdv A outer s H E hr=>(Ae (CW (JC (O0 (KL (Ny (Bj yH.G hr rfl yH.m yH.k yH.b (AE (AD (pv 0)) AG) (AL Aj)))) (Ky (KL (TH AR (AD (pv 0)) (Wr g_MOST_SAMPLES)))))) (Ae VV) CU))
abbrev FP:Stmt:=top 11
abbrev Iu:List Str:=["names","s","many","places"]
def Jx:MS:=(AI (AS 2 (AN Ad (AB (AA 0) AC)))
 (AI (mIf (Ao (mOp Bh (AA 2) (mC (.int 0)))) (Ah (Ap AC)) BO)
 (AI (AS 3 (AH (A3 SL.El (AB (AH (Aw (BF (AB (AA 1) AC)) 1 [2,1] (AZ 0) mTT (mOp Bt (mOp BI (AA 0) (AA 1)) (AA 2)))) AC))))
 (Ah (Aw (Ax (AA 3)) 1 [0] (AZ 0) mTT (mOp gIx (AA 1) (AA 0)))))))
theorem sc_samples_of_hand:FnScope Iu ["names","s"] (AY FP):=⟨rfl,rfl,rfl,by decide +kernel,rfl,by decide +kernel,by decide +kernel⟩
theorem Xu {P:Program} {w:World} {K:PySem.W.Frag} {mg:Str->Option Value} {base:Heap} {fa:Addr} {fd:FuncData} (F:Fun K "samples_of_hand" "samples_of_hand" FP fa fd) (T:Nm mg):FnOk P w K mg base CX0 1 fa fd ["names","s"] (spF K 2 (AU 4 (Jx))):=
 Bn F sc_samples_of_hand fun cdv A outer s H E hr=>(AW (A0 (fun te h=>Ai (i:=2) sc_samples_of_hand.nd rfl (Or.inr rfl) h) (BY T (AE (AD (pv 0)) AG)))
 (AW (CW (Eh hr.units (AD (pv 2)) AR) (Ae (Bd (Bw AG))) CU)
 (AW (A0 (fun te h=>Ai (i:=3) sc_samples_of_hand.nd rfl (Or.inl rfl) h) (Al (SL.Sb T (AE (Al (CB (esc:=(AY FP)) (N:=Iu) (tn:=["turn"]) (fn:=["many","s"]) (ix:=[2,1]) rfl rfl rfl ⟨rfl,by decide +kernel,by decide +kernel,by decide +kernel,rfl,by decide +kernel⟩ (EC rfl T.range (AE (AD (pv 1)) AG)) (fun _ _ _ _ _=>(Bf (An (i:=0) (show (["turn","many","s"]:List Str).Nodup by decide +kernel) rfl (Or.inl rfl)))) (fun _ _ _ _ _=>B5) (fun _ _ _ _ _=>(E7 (C0 (AD (pv 0)) (AD (pv 1))) (AD (pv 2)))))) AG))))
 (Ae (Bd (CB (esc:=(AY FP)) (N:=Iu) (tn:=["place"]) (fn:=["names"]) (ix:=[0]) rfl rfl rfl ⟨rfl,by decide +kernel,by decide +kernel,by decide +kernel,rfl,by decide +kernel⟩ (CL (AD (pv 3))) (fun _ _ _ _ _=>(Bf (An (i:=0) (show (["place","names"]:List Str).Nodup by decide +kernel) rfl (Or.inl rfl)))) (fun _ _ _ _ _=>B5) (fun _ _ _ _ _=>(Ba (AD (pv 1)) (AD (pv 0))))))))))
abbrev Jb:Stmt:=top 12
abbrev Rv:List Str:=["rows","s","samples","hand","row"]
def N5 (zH:MD) (zZ:MDF) (zC:MDF):MS:=(BR (De (AA 2) (AH (AX zZ (AB (AH (AX zC (AB (AA 4) (AB (AA 3) AC)))) (AB (AA 1) AC))))))
def GG (zH:MD) (zZ:MDF) (zC:MDF):MS:=(AI (BR (Ab zH (AB (AA 1) AC)))
 (AI (BB 2 (Ap AC))
 (AI (BP (Cp (AB (AA 0) AC)) (BX [3,4]) (N5 zH zZ zC))
 (Ah (A3 BH (AB (AA 2) AC))))))
theorem sc_samples_of:FnScope Rv ["rows","s"] (AY Jb):=⟨rfl,rfl,rfl,by decide +kernel,rfl,by decide +kernel,by decide +kernel⟩
theorem Yz {P:Program} {w:World} {K:PySem.W.Frag} {mg:Str->Option Value} {base:Heap} {fa:Addr} {fd:FuncData} (F:Fun K "samples_of" "samples_of" Jb fa fd) (T:Nm mg) {yZ:Addr} {y6:FuncData} {zH:MD} (zJ:Cal P w K mg base "check_asked" 2 yZ y6 ["s"] (spD K 1 zH)) {xR:Addr} {xS:FuncData} {zZ:MDF} (yI:Cal P w K mg base "samples_of_hand" 1 xR xS ["names","s"] (spF K 2 zZ)) {yA:Addr} {yB:FuncData} {zC:MDF} (zE:Cal P w K mg base "names_of_hand" 1 yA yB ["row","hand"] (spF K 2 zC)):FnOk P w K mg base CX0 3 fa fd ["rows","s"] (spF K 2 (AU 5 (GG zH zZ zC))):=
 Bn F sc_samples_of fun cdv A outer s H E hr=>(AW (DR (Bj zJ.G hr rfl zJ.m zJ.k zJ.b (AE (AD (pv 1)) AG) (AL Aj)))
 (AW (Cm (fun te h=>Ai (i:=2) sc_samples_of.nd rfl (Or.inl rfl) h) (Bw AG))
 (AW (Co PassesOwn.never rfl (Fb rfl T.enum (AE (AD (pv 0)) AG)) (EA (is:=[3,4]) (n:=2) rfl (DV rfl rfl (Bk (An (i:=3) sc_samples_of.nd rfl (Or.inl rfl)) (Bk (An (i:=4) sc_samples_of.nd rfl (Or.inl rfl)) Dh)))) (Ae (DR (J6 (AD (pv 2)) (Al (BE yI.G (hr.mono (by decide)) rfl yI.m yI.k yI.b (AE (Al (BE zE.G (hr.mono (by decide)) rfl zE.m zE.k zE.b (AE (AD (pv 4)) (AE (AD (pv 3)) AG)) (AL (AL Aj)))) (AE (AD (pv 1)) AG)) (AL (AL Aj))))))))
 (Ae (Bd (ES T (AE (AD (pv 2)) AG)))))))
abbrev Ht:Stmt:=top 13
abbrev PC:List Str:=["samples","hands","many"]
def KY:MS:=(AI (AS 2 (AN Ad (AB (AA 0) AC)))
 (AI (mIf (Ao (mOp Bh (AA 2) (mC (.int 0)))) (Ah (Ap AC)) BO)
 (Ah (Aw (EY (AB (mC (.int 1)) (AB (AA 1) AC))) 1 [0,2,1] (AZ 0) mTT (mOp gIx (AA 1) (mOp Bt (mOp BI (AA 0) (AA 2)) (AA 3)))))))
theorem sc_posts_among:FnScope PC ["samples","hands"] (AY Ht):=⟨rfl,rfl,rfl,by decide +kernel,rfl,by decide +kernel,by decide +kernel⟩
theorem Q0 {P:Program} {w:World} {K:PySem.W.Frag} {mg:Str->Option Value} {base:Heap} {fa:Addr} {fd:FuncData} (F:Fun K "posts_among" "posts_among" Ht fa fd) (T:Nm mg):FnOk P w K mg base CX0 1 fa fd ["samples","hands"] (spF K 2 (AU 3 (KY))):=
 Bn F sc_posts_among fun cdv A outer s H E hr=>(AW (A0 (fun te h=>Ai (i:=2) sc_posts_among.nd rfl (Or.inr rfl) h) (BY T (AE (AD (pv 0)) AG)))
 (AW (CW (Eh hr.units (AD (pv 2)) AR) (Ae (Bd (Bw AG))) CU)
 (Ae (Bd (CB (esc:=(AY Ht)) (N:=PC) (tn:=["turn"]) (fn:=["samples","many","hands"]) (ix:=[0,2,1]) rfl rfl rfl ⟨rfl,by decide +kernel,by decide +kernel,by decide +kernel,rfl,by decide +kernel⟩ (We rfl T.range (AE AR (AE (AD (pv 1)) AG))) (fun _ _ _ _ _=>(Bf (An (i:=0) (show (["turn","samples","many","hands"]:List Str).Nodup by decide +kernel) rfl (Or.inl rfl)))) (fun _ _ _ _ _=>B5) (fun _ _ _ _ _=>(Ba (AD (pv 1)) (E7 (C0 (AD (pv 0)) (AD (pv 2))) (AD (pv 3))))))))))
abbrev JU:Stmt:=top 14
abbrev Ts:List Str:=["rows","s"]
def Hr (yJ:MDF) (yK:MDF):MS:=(Ah (AX yJ (AB (AH (AX yK (AB (AA 0) (AB (AA 1) AC)))) (AB (AN Ad (AB (AA 0) AC)) AC))))
theorem QS:FnScope Ts ["rows","s"] (AY JU):=⟨rfl,rfl,rfl,by decide +kernel,rfl,by decide +kernel,by decide +kernel⟩
theorem YF {P:Program} {w:World} {K:PySem.W.Frag} {mg:Str->Option Value} {base:Heap} {fa:Addr} {fd:FuncData} (F:Fun K "posts_of" "posts_of" JU fa fd) (T:Nm mg) {xU:Addr} {xV:FuncData} {yJ:MDF} (yL:Cal P w K mg base "posts_among" 1 xU xV ["samples","hands"] (spF K 2 yJ)) {xW:Addr} {xX:FuncData} {yK:MDF} (yM:Cal P w K mg base "samples_of" 3 xW xX ["rows","s"] (spF K 2 yK)):FnOk P w K mg base CX0 4 fa fd ["rows","s"] (spF K 2 (AU 2 (Hr yJ yK))):=
 Bn F QS fun cdv A outer s H E hr=>(Ae (Bd (BE yL.G (hr.mono (by decide)) rfl yL.m yL.k yL.b (AE (Al (BE yM.G hr rfl yM.m yM.k yM.b (AE (AD (pv 0)) (AE (AD (pv 1)) AG)) (AL (AL Aj)))) (AE (BY T (AE (AD (pv 0)) AG)) AG)) (AL (AL Aj)))))
abbrev J3:Stmt:=top 15
abbrev Vy:List Str:=["many","parts"]
def Jl:MS:=(Bb (mOp Bt (mOp CJ (mOp BG (AA 0) (AA 1)) (mC (.int 1))) (AA 1)))
theorem VP:FnScope Vy ["many","parts"] (AY J3):=⟨rfl,rfl,rfl,by decide +kernel,rfl,by decide +kernel,by decide +kernel⟩
theorem W4 {P:Program} {w:World} {K:PySem.W.Frag} {mg:Str->Option Value} {base:Heap} {fa:Addr} {fd:FuncData} (F:Fun K "rounded_up" "rounded_up" J3 fa fd) (T:Nm mg):FnOk P w K mg base CX0 1 fa fd ["many","parts"] (spD K 2 (mFn 2 (Jl))):=
 DC F VP fun cdv A outer s H E hr=>(Ae (Cb (E7 (FQ (CO (AD (pv 0)) (AD (pv 1))) AR) (AD (pv 1)))))
abbrev FU:Stmt:=top 16
abbrev IA:List Str:=["sizes","s","hands","greatest","samples"]
def HX (zH:MD) (yC:MD):MS:=(AI (BR (Ab zH (AB (AA 1) AC)))
 (AI (AS 2 (AN Ad (AB (AA 0) AC)))
 (AI (AS 3 (AN DZ (AB (AH (Aw (Ax (AA 0)) 1 [1] (AZ 0) mTT (Ab yC (AB (AA 0) (AB (AA 1) AC))))) AC)))
 (AI (AS 4 (AN Dl (AB (AH (Aw (Ax (AA 0)) 1 [1] (AZ 0) mTT (AN C6 (AB (AA 0) (AB (AA 1) AC))))) AC)))
 (Bb (mOp BI (mOp BG (Ab yC (AB (AA 4) (AB (AA 2) AC))) (AA 2)) (AA 3)))))))
theorem sc_lot_bound:FnScope IA ["sizes","s"] (AY FU):=⟨rfl,rfl,rfl,by decide +kernel,rfl,by decide +kernel,by decide +kernel⟩
theorem Qx {P:Program} {w:World} {K:PySem.W.Frag} {mg:Str->Option Value} {base:Heap} {fa:Addr} {fd:FuncData} (F:Fun K "lot_bound" "lot_bound" FU fa fd) (T:Nm mg) {yZ:Addr} {y6:FuncData} {zH:MD} (zJ:Cal P w K mg base "check_asked" 2 yZ y6 ["s"] (spD K 1 zH)) {xY:Addr} {xZ:FuncData} {yC:MD} (zR:Cal P w K mg base "rounded_up" 1 xY xZ ["many","parts"] (spD K 2 yC)):FnOk P w K mg base CX0 3 fa fd ["sizes","s"] (spD K 2 (mFn 5 (HX zH yC))):=
 DC F sc_lot_bound fun cdv A outer s H E hr=>(AW (DR (Bj zJ.G hr rfl zJ.m zJ.k zJ.b (AE (AD (pv 1)) AG) (AL Aj)))
 (AW (A0 (fun te h=>Ai (i:=2) sc_lot_bound.nd rfl (Or.inl rfl) h) (BY T (AE (AD (pv 0)) AG)))
 (AW (A0 (fun te h=>Ai (i:=3) sc_lot_bound.nd rfl (Or.inl rfl) h) (Oh T.max (AE (Al (CB (esc:=(AY FU)) (N:=IA) (tn:=["size"]) (fn:=["s"]) (ix:=[1]) rfl rfl rfl ⟨rfl,by decide +kernel,by decide +kernel,by decide +kernel,rfl,by decide +kernel⟩ (CL (AD (pv 0))) (fun _ _ _ _ _=>(Bf (An (i:=0) (show (["size","s"]:List Str).Nodup by decide +kernel) rfl (Or.inl rfl)))) (fun _ _ _ _ _=>B5) (fun _ _ _ _ _=>(Bj zR.G (hr.mono (by decide)) rfl zR.m zR.k zR.b (AE (AD (pv 0)) (AE (AD (pv 1)) AG)) (AL (AL Aj)))))) AG)))
 (AW (A0 (fun te h=>Ai (i:=4) sc_lot_bound.nd rfl (Or.inl rfl) h) (ML T.sum (AE (Al (CB (esc:=(AY FU)) (N:=IA) (tn:=["size"]) (fn:=["s"]) (ix:=[1]) rfl rfl rfl ⟨rfl,by decide +kernel,by decide +kernel,by decide +kernel,rfl,by decide +kernel⟩ (CL (AD (pv 0))) (fun _ _ _ _ _=>(Bf (An (i:=0) (show (["size","s"]:List Str).Nodup by decide +kernel) rfl (Or.inl rfl)))) (fun _ _ _ _ _=>B5) (fun _ _ _ _ _=>(LP T (AE (AD (pv 0)) (AE (AD (pv 1)) AG)))))) AG)))
 (Ae (Cb (C0 (CO (Bj zR.G (hr.mono (by decide)) rfl zR.m zR.k zR.b (AE (AD (pv 4)) (AE (AD (pv 2)) AG)) (AL (AL Aj))) (AD (pv 2))) (AD (pv 3)))))))))
abbrev HL:Stmt:=top 18
abbrev M0:List Str:=["parts","post"]
def KQ:MS:=(Bb (AN Ad (AB (AH (Aw (Ax (AA 0)) 1 [1] (AZ 0) (Ao (mOp BN (AA 0) (AA 1))) (AA 0))) AC)))
theorem X2:FnScope M0 ["parts","post"] (AY HL):=⟨rfl,rfl,rfl,by decide +kernel,rfl,by decide +kernel,by decide +kernel⟩
theorem Xl {P:Program} {w:World} {K:PySem.W.Frag} {mg:Str->Option Value} {base:Heap} {fa:Addr} {fd:FuncData} (F:Fun K "count_below" "count_below" HL fa fd) (T:Nm mg):FnOk P w K mg base CX0 1 fa fd ["parts","post"] (spD K 2 (mFn 2 (KQ))):=
 DC F X2 fun cdv A outer s H E hr=>(Ae (Cb (BY T (AE (Al (CB (esc:=(AY HL)) (N:=M0) (tn:=["part"]) (fn:=["post"]) (ix:=[1]) rfl rfl rfl ⟨rfl,by decide +kernel,by decide +kernel,by decide +kernel,rfl,by decide +kernel⟩ (CL (AD (pv 0))) (fun _ _ _ _ _=>(Bf (An (i:=0) (show (["part","post"]:List Str).Nodup by decide +kernel) rfl (Or.inl rfl)))) (fun _ _ _ _ _=>(U8 (JE hr.units0 (AD (pv 0)) (AD (pv 1))))) (fun _ _ _ _ _=>(AD (pv 0))))) AG))))
abbrev Gy:Stmt:=top 19
abbrev N9:List Str:=["parts","posts","hands"]
def Gu (yN:MD):MS:=(AI (mIf (D8 (ET (AA 1))) (Ah (CV DY (AH (Ap (AB (AN Ad (AB (AA 0) AC)) AC))) (AA 2))) BO)
 (Ah (CV Ea (AH (Aw (Ax (AA 1)) 1 [0] (AZ 0) mTT (Ab yN (AB (AA 1) (AB (AA 0) AC))))) (AH (Ap (AB (AN Ad (AB (AA 0) AC)) AC))))))
theorem Va:FnScope N9 ["parts","posts","hands"] (AY Gy):=⟨rfl,rfl,rfl,by decide +kernel,rfl,by decide +kernel,by decide +kernel⟩
theorem QZ {P:Program} {w:World} {K:PySem.W.Frag} {mg:Str->Option Value} {base:Heap} {fa:Addr} {fd:FuncData} (F:Fun K "ends_by_posts" "ends_by_posts" Gy fa fd) (T:Nm mg) {x6:Addr} {x8:FuncData} {yN:MD} (yO:Cal P w K mg base "count_below" 1 x6 x8 ["parts","post"] (spD K 2 yN)):FnOk P w K mg base CX0 2 fa fd ["parts","posts","hands"] (spF K 3 (AU 3 (Gu yN))):=
 Bn F Va fun cdv A outer s H E hr=>(AW (CW (KL (Ny (AD (pv 1)))) (Ae (Bd (LH (Al (Bw (AE (BY T (AE (AD (pv 0)) AG)) AG))) (AD (pv 2))))) CU)
 (Ae (Bd (ZL (Al (CB (esc:=(AY Gy)) (N:=N9) (tn:=["post"]) (fn:=["parts"]) (ix:=[0]) rfl rfl rfl ⟨rfl,by decide +kernel,by decide +kernel,by decide +kernel,rfl,by decide +kernel⟩ (CL (AD (pv 1))) (fun _ _ _ _ _=>(Bf (An (i:=0) (show (["post","parts"]:List Str).Nodup by decide +kernel) rfl (Or.inl rfl)))) (fun _ _ _ _ _=>B5) (fun _ _ _ _ _=>(Bj yO.G hr rfl yO.m yO.k yO.b (AE (AD (pv 1)) (AE (AD (pv 0)) AG)) (AL (AL Aj)))))) (Al (Bw (AE (BY T (AE (AD (pv 0)) AG)) AG)))))))
abbrev KI:Stmt:=top 20
abbrev Ym:List Str:=["ends_of_hands","hands","sizes","ends","start","lot","end"]
def NP:MS:=(AI (Ex (AA 2) (AA 5) (mOp CJ (AA 6) (AA 4)))
 (AS 4 (AA 6)))
def LN:MS:=(AI (AS 4 (mC (.int 0)))
 (BP (Cp (AB (AA 3) AC)) (BX [5,6]) (NP)))
def J7:MS:=(AI (BB 2 (CV DY (AH (Ap (AB (mC (.int 0)) AC))) (AA 1)))
 (AI (BP (Ax (AA 0)) (AZ 3) (LN))
 (Ah (Cn 2))))
theorem sc_sizes_by_ends:FnScope Ym ["ends_of_hands","hands"] (AY KI):=⟨rfl,rfl,rfl,by decide +kernel,rfl,by decide +kernel,by decide +kernel⟩
theorem ZO {P:Program} {w:World} {K:PySem.W.Frag} {mg:Str->Option Value} {base:Heap} {fa:Addr} {fd:FuncData} (F:Fun K "sizes_by_ends" "sizes_by_ends" KI fa fd) (T:Nm mg):FnOk P w K mg base CX0 1 fa fd ["ends_of_hands","hands"] (spF K 2 (AU 7 (J7))):=
 Bn F sc_sizes_by_ends fun cdv A outer s H E hr=>(AW (Cm (fun te h=>Ai (i:=2) sc_sizes_by_ends.nd rfl (Or.inl rfl) h) (LH (Al (Bw (AE AR AG))) (AD (pv 1))))
 (AW (Co PassesOwn.never rfl (CL (AD (pv 0))) (Bf (An (i:=3) sc_sizes_by_ends.nd rfl (Or.inl rfl))) (AW (A0 (fun te h=>Ai (i:=4) sc_sizes_by_ends.nd rfl (Or.inl rfl) h) AR)
 (Ae (Co PassesOwn.never rfl (Fb rfl T.enum (AE (AD (pv 3)) AG)) (EA (is:=[5,6]) (n:=2) rfl (DV rfl rfl (Bk (An (i:=5) sc_sizes_by_ends.nd rfl (Or.inl rfl)) (Bk (An (i:=6) sc_sizes_by_ends.nd rfl (Or.inl rfl)) Dh)))) (AW (Q9 (AD (pv 2)) (AD (pv 5)) (FQ (AD (pv 6)) (AD (pv 4))))
 (Ae (A0 (fun te h=>Ai (i:=4) sc_sizes_by_ends.nd rfl (Or.inl rfl) h) (AD (pv 6)))))))))
 (Ae (Bd (HA (pv 2))))))
abbrev Gr:Stmt:=top 21
abbrev PM:List Str:=["rows","s","posts"]
def Hg (zK:MDF) (zL:MDF) (zC:MDF):MS:=(AI (AS 2 (AH (AX zK (AB (AA 0) (AB (AA 1) AC)))))
 (Ah (Aw (Cp (AB (AA 0) AC)) 2 [2,0] (BX [0,1]) mTT (AH (AX zL (AB (AH (AX zC (AB (AA 1) (AB (AA 0) AC)))) (AB (AA 2) (AB (AN Ad (AB (AA 3) AC)) AC))))))))
theorem sc_lot_ends:FnScope PM ["rows","s"] (AY Gr):=⟨rfl,rfl,rfl,by decide +kernel,rfl,by decide +kernel,by decide +kernel⟩
theorem Te {P:Program} {w:World} {K:PySem.W.Frag} {mg:Str->Option Value} {base:Heap} {fa:Addr} {fd:FuncData} (F:Fun K "lot_ends" "lot_ends" Gr fa fd) (T:Nm mg) {xA:Addr} {xB:FuncData} {zK:MDF} (zM:Cal P w K mg base "posts_of" 4 xA xB ["rows","s"] (spF K 2 zK)) {xC:Addr} {xE:FuncData} {zL:MDF} (zN:Cal P w K mg base "ends_by_posts" 2 xC xE ["parts","posts","hands"] (spF K 3 zL)) {yA:Addr} {yB:FuncData} {zC:MDF} (zE:Cal P w K mg base "names_of_hand" 1 yA yB ["row","hand"] (spF K 2 zC)):FnOk P w K mg base CX0 5 fa fd ["rows","s"] (spF K 2 (AU 3 (Hg zK zL zC))):=
 Bn F sc_lot_ends fun cdv A outer s H E hr=>(AW (A0 (fun te h=>Ai (i:=2) sc_lot_ends.nd rfl (Or.inr rfl) h) (Al (BE zM.G hr rfl zM.m zM.k zM.b (AE (AD (pv 0)) (AE (AD (pv 1)) AG)) (AL (AL Aj)))))
 (Ae (Bd (CB (esc:=(AY Gr)) (N:=PM) (tn:=["hand","row"]) (fn:=["posts","rows"]) (ix:=[2,0]) rfl rfl rfl ⟨rfl,by decide +kernel,by decide +kernel,by decide +kernel,rfl,by decide +kernel⟩ (Fb rfl T.enum (AE (AD (pv 0)) AG)) (fun _ _ _ _ _=>(EA (is:=[0,1]) (n:=2) rfl (DV rfl rfl (Bk (An (i:=0) (show (["hand","row","posts","rows"]:List Str).Nodup by decide +kernel) rfl (Or.inl rfl)) (Bk (An (i:=1) (show (["hand","row","posts","rows"]:List Str).Nodup by decide +kernel) rfl (Or.inl rfl)) Dh))))) (fun _ _ _ _ _=>B5) (fun _ _ _ _ _=>(Al (BE zN.G (hr.mono (by decide)) rfl zN.m zN.k zN.b (AE (Al (BE zE.G (hr.mono (by decide)) rfl zE.m zE.k zE.b (AE (AD (pv 1)) (AE (AD (pv 0)) AG)) (AL (AL Aj)))) (AE (AD (pv 2)) (AE (BY T (AE (AD (pv 3)) AG)) AG))) (AL (AL (AL Aj))))))))))
abbrev JI:Stmt:=top 22
abbrev US:List Str:=["rows","s"]
def GV (zO:MDF) (yP:MDF):MS:=(Ah (AX zO (AB (AH (AX yP (AB (AA 0) (AB (AA 1) AC)))) (AB (AN Ad (AB (AA 0) AC)) AC))))
theorem UB:FnScope US ["rows","s"] (AY JI):=⟨rfl,rfl,rfl,by decide +kernel,rfl,by decide +kernel,by decide +kernel⟩
theorem UO {P:Program} {w:World} {K:PySem.W.Frag} {mg:Str->Option Value} {base:Heap} {fa:Addr} {fd:FuncData} (F:Fun K "lot_sizes" "lot_sizes" JI fa fd) (T:Nm mg) {xF:Addr} {xH:FuncData} {zO:MDF} (zP:Cal P w K mg base "sizes_by_ends" 1 xF xH ["ends_of_hands","hands"] (spF K 2 zO)) {x9:Addr} {wA:FuncData} {yP:MDF} (yQ:Cal P w K mg base "lot_ends" 5 x9 wA ["rows","s"] (spF K 2 yP)):FnOk P w K mg base CX0 6 fa fd ["rows","s"] (spF K 2 (AU 2 (GV zO yP))):=
 Bn F UB fun cdv A outer s H E hr=>(Ae (Bd (BE zP.G (hr.mono (by decide)) rfl zP.m zP.k zP.b (AE (Al (BE yQ.G hr rfl yQ.m yQ.k yQ.b (AE (AD (pv 0)) (AE (AD (pv 1)) AG)) (AL (AL Aj)))) (AE (BY T (AE (AD (pv 0)) AG)) AG)) (AL (AL Aj)))))
abbrev GY:Stmt:=top 23
abbrev K4:List Str:=["parts"]
def Jq:MS:=(Ah (Aw (Ax (AA 0)) 1 [] (AZ 0) mTT (mOp gIx (AA 0) (mC (.int 0)))))
theorem Vf:FnScope K4 ["parts"] (AY GY):=⟨rfl,rfl,rfl,by decide +kernel,rfl,by decide +kernel,by decide +kernel⟩
theorem Sz {P:Program} {w:World} {K:PySem.W.Frag} {mg:Str->Option Value} {base:Heap} {fa:Addr} {fd:FuncData} (F:Fun K "keys_of" "keys_of" GY fa fd) (T:Nm mg):FnOk P w K mg base CX0 1 fa fd ["parts"] (spF K 1 (AU 1 (Jq))):=
 Bn F Vf fun cdv A outer s H E hr=>(Ae (Bd (CB (esc:=(AY GY)) (N:=K4) (tn:=["part"]) (fn:=[]) (ix:=[]) rfl rfl rfl ⟨rfl,by decide +kernel,by decide +kernel,by decide +kernel,rfl,by decide +kernel⟩ (CL (AD (pv 0))) (fun _ _ _ _ _=>(Bf (An (i:=0) (show (["part"]:List Str).Nodup by decide +kernel) rfl (Or.inl rfl)))) (fun _ _ _ _ _=>B5) (fun _ _ _ _ _=>(Ba (AD (pv 0)) AR)))))
abbrev HK:Stmt:=top 24
abbrev K6:List Str:=["rows","s","posts","ends_of_hands"]
def HQ (yD:MDF) (zK:MDF) (zL:MDF) (zO:MDF):MS:=(AI (AS 2 (AH (AX yD (AB (AH (AX zK (AB (AA 0) (AB (AA 1) AC)))) AC))))
 (AI (AS 3 (AH (Aw (Ax (AA 0)) 1 [2,0] (AZ 0) mTT (AH (AX zL (AB (AH (AX yD (AB (AA 0) AC))) (AB (AA 1) (AB (AN Ad (AB (AA 2) AC)) AC))))))))
 (Ah (AX zO (AB (AA 3) (AB (AN Ad (AB (AA 0) AC)) AC))))))
theorem sc_key_lot_sizes:FnScope K6 ["rows","s"] (AY HK):=⟨rfl,rfl,rfl,by decide +kernel,rfl,by decide +kernel,by decide +kernel⟩
theorem VC {P:Program} {w:World} {K:PySem.W.Frag} {mg:Str->Option Value} {base:Heap} {fa:Addr} {fd:FuncData} (F:Fun K "key_lot_sizes" "key_lot_sizes" HK fa fd) (T:Nm mg) {wB:Addr} {wC:FuncData} {yD:MDF} (zS:Cal P w K mg base "keys_of" 1 wB wC ["parts"] (spF K 1 yD)) {xA:Addr} {xB:FuncData} {zK:MDF} (zM:Cal P w K mg base "posts_of" 4 xA xB ["rows","s"] (spF K 2 zK)) {xC:Addr} {xE:FuncData} {zL:MDF} (zN:Cal P w K mg base "ends_by_posts" 2 xC xE ["parts","posts","hands"] (spF K 3 zL)) {xF:Addr} {xH:FuncData} {zO:MDF} (zP:Cal P w K mg base "sizes_by_ends" 1 xF xH ["ends_of_hands","hands"] (spF K 2 zO)):FnOk P w K mg base CX0 5 fa fd ["rows","s"] (spF K 2 (AU 4 (HQ yD zK zL zO))):=
 Bn F sc_key_lot_sizes fun cdv A outer s H E hr=>(AW (A0 (fun te h=>Ai (i:=2) sc_key_lot_sizes.nd rfl (Or.inr rfl) h) (Al (BE zS.G (hr.mono (by decide)) rfl zS.m zS.k zS.b (AE (Al (BE zM.G hr rfl zM.m zM.k zM.b (AE (AD (pv 0)) (AE (AD (pv 1)) AG)) (AL (AL Aj)))) AG) (AL Aj))))
 (AW (Ku (i:=3) sc_key_lot_sizes.nd rfl rfl (esc:=(AY HK)) (N:=K6) (tn:=["row"]) (fn:=["posts","rows"]) (ix:=[2,0]) rfl rfl rfl ⟨rfl,by decide +kernel,by decide +kernel,by decide +kernel,rfl,by decide +kernel⟩ (CL (AD (pv 0))) (fun _ _ _ _ _=>(Bf (An (i:=0) (show (["row","posts","rows"]:List Str).Nodup by decide +kernel) rfl (Or.inl rfl)))) (fun _ _ _ _ _=>B5) (fun _ _ _ _ _=>(Al (BE zN.G (hr.mono (by decide)) rfl zN.m zN.k zN.b (AE (Al (BE zS.G (hr.mono (by decide)) rfl zS.m zS.k zS.b (AE (AD (pv 0)) AG) (AL Aj))) (AE (AD (pv 1)) (AE (BY T (AE (AD (pv 2)) AG)) AG))) (AL (AL (AL Aj)))))))
 (Ae (Bd (BE zP.G (hr.mono (by decide)) rfl zP.m zP.k zP.b (AE (AD (pv 3)) (AE (BY T (AE (AD (pv 0)) AG)) AG)) (AL (AL Aj)))))))
abbrev Ik:Stmt:=top 26
abbrev XM:List Str:=["script","k"]
def GQ:MS:=(AI (mIf (Ao (mOp BN (AA 1) (AN Ad (AB (AA 0) AC)))) (Bb (mOp gIx (AA 0) (AA 1))) BO)
 (Bb (mC (.int 0))))
theorem UA:FnScope XM ["script","k"] (AY Ik):=⟨rfl,rfl,rfl,by decide +kernel,rfl,by decide +kernel,by decide +kernel⟩
theorem Xr {P:Program} {w:World} {K:PySem.W.Frag} {mg:Str->Option Value} {base:Heap} {fa:Addr} {fd:FuncData} (F:Fun K "_law_cell_at" "_law_cell_at" Ik fa fd) (T:Nm mg):FnOk P w K mg base CX0 1 fa fd ["script","k"] (spD K 2 (mFn 2 (GQ))):=
 DC F UA fun cdv A outer s H E hr=>(AW (CW (JE hr.units0 (AD (pv 1)) (BY T (AE (AD (pv 0)) AG))) (Ae (Cb (Ba (AD (pv 0)) (AD (pv 1))))) CU)
 (Ae (Cb AR)))
abbrev JT:Stmt:=top 27
abbrev UI:List Str:=["cell","k","one"]
def Iy:MS:=(AI (AS 2 (mOp A8 (mOp BI (mOp BG (mOp BG (mOp A8 (AA 0) (mC (.int 2147483629))) (mOp BI (mC (.int 9973)) (AA 1))) (mC (.int 5))) (mC (.int 48271))) (mC (.int 2147483647))))
 (AI (AS 2 (mOp A8 (mOp BI (AA 2) (AA 2)) (mC (.int 2147483587))))
 (Bb (mOp Bt (mOp A8 (mOp BI (mOp BG (AA 2) (mOp BI (mC (.int 7919)) (AA 1))) (mC (.int 16807))) (mC (.int 2147483563))) (mC (.int 8))))))
theorem sc__law_stir:FnScope UI ["cell","k"] (AY JT):=⟨rfl,rfl,rfl,by decide +kernel,rfl,by decide +kernel,by decide +kernel⟩
theorem SQ {P:Program} {w:World} {K:PySem.W.Frag} {mg:Str->Option Value} {base:Heap} {fa:Addr} {fd:FuncData} (F:Fun K "_law_stir" "_law_stir" JT fa fd) (T:Nm mg):FnOk P w K mg base CX0 1 fa fd ["cell","k"] (spD K 2 (mFn 3 (Iy))):=
 DC F sc__law_stir fun cdv A outer s H E hr=>(AW (A0 (fun te h=>Ai (i:=2) sc__law_stir.nd rfl (Or.inl rfl) h) (CD (C0 (CO (CO (CD (AD (pv 0)) AR) (C0 AR (AD (pv 1)))) AR) AR) AR))
 (AW (A0 (fun te h=>Ai (i:=2) sc__law_stir.nd rfl (Or.inl rfl) h) (CD (C0 (AD (pv 2)) (AD (pv 2))) AR))
 (Ae (Cb (E7 (CD (C0 (CO (AD (pv 2)) (C0 AR (AD (pv 1)))) AR) AR) AR)))))
abbrev IU:Stmt:=top 28
abbrev Td:List Str:=["cell","many","found","digits","k","number"]
def Fj (zD:MD):MS:=(AI (AS 5 (Ab zD (AB (AA 0) (AB (AA 4) AC))))
 (AI (mIf (Ao (mOp G5 (AA 0) (mOp Df (mC (.int 10)) (mC (.int 18))))) (AS 5 (mOp A8 (AA 3) (mC (.int 720720)))) BO)
 (AI (AS 3 (mOp Bt (AA 3) (mC (.int 720720))))
 (BR (Cw (AA 2) (AA 5))))))
def Gg (zD:MD):MS:=(AI (BB 2 (Ap AC))
 (AI (AS 3 (AA 0))
 (AI (BP (BF (AB (AA 1) AC)) (AZ 4) (Fj zD))
 (Ah (E9 (AA 2))))))
theorem sc__law_deck:FnScope Td ["cell","many"] (AY IU):=⟨rfl,rfl,rfl,by decide +kernel,rfl,by decide +kernel,by decide +kernel⟩
theorem Yl {P:Program} {w:World} {K:PySem.W.Frag} {mg:Str->Option Value} {base:Heap} {fa:Addr} {fd:FuncData} (F:Fun K "_law_deck" "_law_deck" IU fa fd) (T:Nm mg) {xI:Addr} {xJ:FuncData} {zD:MD} (zF:Cal P w K mg base "_law_stir" 1 xI xJ ["cell","k"] (spD K 2 zD)):FnOk P w K mg base CX0 2 fa fd ["cell","many"] (spF K 2 (AU 6 (Gg zD))):=
 Bn F sc__law_deck fun cdv A outer s H E hr=>(AW (Cm (fun te h=>Ai (i:=2) sc__law_deck.nd rfl (Or.inl rfl) h) (Bw AG))
 (AW (A0 (fun te h=>Ai (i:=3) sc__law_deck.nd rfl (Or.inl rfl) h) (AD (pv 0)))
 (AW (Co PassesOwn.never rfl (EC rfl T.range (AE (AD (pv 1)) AG)) (Bf (An (i:=4) sc__law_deck.nd rfl (Or.inl rfl))) (AW (A0 (fun te h=>Ai (i:=5) sc__law_deck.nd rfl (Or.inl rfl) h) (Bj zF.G hr rfl zF.m zF.k zF.b (AE (AD (pv 0)) (AE (AD (pv 4)) AG)) (AL (AL Aj))))
 (AW (CW (P2 hr.units0 (AD (pv 0)) (IZ AR AR)) (Ae (A0 (fun te h=>Ai (i:=5) sc__law_deck.nd rfl (Or.inl rfl) h) (CD (AD (pv 3)) AR))) CU)
 (AW (A0 (fun te h=>Ai (i:=3) sc__law_deck.nd rfl (Or.inl rfl) h) (E7 (AD (pv 3)) AR))
 (Ae (DR (HH (AD (pv 2)) (AD (pv 5)))))))))
 (Ae (Bd (M8 (AD (pv 2))))))))
abbrev IR:Stmt:=top 29
abbrev YZ:List Str:=["deck"]
def Gd:MS:=(AI (mIf (Ao (mOp Bh (AA 0) (AH (Ap AC)))) (Bb (mC (.int 0))) BO)
 (Bb (Ol (AA 0))))
theorem RT:FnScope YZ ["deck"] (AY IR):=⟨rfl,rfl,rfl,by decide +kernel,rfl,by decide +kernel,by decide +kernel⟩
theorem TM {P:Program} {w:World} {K:PySem.W.Frag} {mg:Str->Option Value} {base:Heap} {fa:Addr} {fd:FuncData} (F:Fun K "_law_next" "_law_next" IR fa fd) (T:Nm mg):FnOk P w K mg base CX0 1 fa fd ["deck"] (spD K 1 (mFn 1 (Gd))):=
 DC F RT fun cdv A outer s H E hr=>(AW (CW (Eh hr.units (AD (pv 0)) (Al (Bw AG))) (Ae (Cb AR)) CU)
 (Ae (Cb (R4 (AD (pv 0))))))
abbrev KJ:Stmt:=top 30
abbrev WE:List Str:=["deck","hands","most","base","rows","h","many","seed","row","k","number","key","way"]
def Ef (zB:MD) (zD:MD):MS:=(AI (AS 10 (Ab zD (AB (AA 7) (AB (AA 9) AC))))
 (AI (mIf (Ao (mOp BN (AA 2) (mC (.int 10)))) (AS 10 (Ab zB (AB (AA 0) AC))) BO)
 (AI (AS 11 (mOp BG (mOp CJ (mOp A8 (mOp BI (AA 10) (mOp BG (mOp Df (mC (.int 10)) (mC (.int 22))) (mC (.int 9)))) (mOp CJ (mOp BI (mC (.int 2)) (AA 3)) (mC (.int 1)))) (AA 3)) (mC (.int 1))))
 (BR (Cw (AA 8) (B6 (AB (AA 11) (AB (mSl (mC (.str "abcdefgh")) none (some (mOp BG (mC (.int 1)) (mOp A8 (Ab zD (AB (AA 7) (AB (AA 9) AC))) (mC (.int 8)))))) AC))))))))
def Fd (zB:MD) (zD:MD):MS:=(AI (AS 6 (mOp A8 (Ab zB (AB (AA 0) AC)) (mOp BG (AA 2) (mC (.int 1)))))
 (AI (AS 7 (Ab zB (AB (AA 0) AC)))
 (AI (BB 8 (Ap AC))
 (AI (BP (BF (AB (AA 6) AC)) (AZ 9) (Ef zB zD))
 (AI (AS 12 (mOp A8 (AA 7) (mC (.int 5))))
 (AI (mIf (Ao (mOp Bh (AA 12) (mC (.int 1)))) (BB 8 (A3 BH (AB (AA 8) AC))) BO)
 (AI (mIf (Ao (mOp Bh (AA 12) (mC (.int 2)))) (BB 8 (E9 (AH (A3 BH (AB (AA 8) AC))))) BO)
 (BR (Cw (AA 4) (AH (Cn 8)))))))))))
def Hq (zB:MD) (zD:MD):MS:=(AI (AS 1 (mOp BG (mC (.int 1)) (mOp A8 (Ab zB (AB (AA 0) AC)) (mC (.int 6)))))
 (AI (AS 2 (mOp gIx (AH (Ap (AB (mC (.int 3)) (AB (mC (.int 6)) (AB (mC (.int 9)) (AB (mC (.int 9)) (AB (mC (.int 20)) (AB (mC (.int 20)) (AB (mC (.int 40)) (AB (mC (.int 200)) AC)))))))))) (mOp A8 (Ab zB (AB (AA 0) AC)) (mC (.int 8)))))
 (AI (AS 3 (mOp gIx (AH (Ap (AB (mC (.int 2)) (AB (mC (.int 4)) (AB (mC (.int 50)) (AB (mOp Df (mC (.int 10)) (mC (.int 30))) AC)))))) (mOp A8 (Ab zB (AB (AA 0) AC)) (mC (.int 4)))))
 (AI (BB 4 (Ap AC))
 (AI (BP (BF (AB (AA 1) AC)) (AZ 5) (Fd zB zD))
 (Ah (Cn 4)))))))
theorem sc__law_rows:FnScope WE ["deck"] (AY KJ):=⟨rfl,rfl,rfl,by decide +kernel,rfl,by decide +kernel,by decide +kernel⟩
theorem ZF {P:Program} {w:World} {K:PySem.W.Frag} {mg:Str->Option Value} {base:Heap} {fa:Addr} {fd:FuncData} (F:Fun K "_law_rows" "_law_rows" KJ fa fd) (T:Nm mg) {xL:Addr} {xM:FuncData} {zB:MD} (zA:Cal P w K mg base "_law_next" 1 xL xM ["deck"] (spD K 1 zB)) {xI:Addr} {xJ:FuncData} {zD:MD} (zF:Cal P w K mg base "_law_stir" 1 xI xJ ["cell","k"] (spD K 2 zD)):FnOk P w K mg base CX0 2 fa fd ["deck"] (spF K 1 (AU 13 (Hq zB zD))):=
 Bn F sc__law_rows fun cdv A outer s H E hr=>(AW (A0 (fun te h=>Ai (i:=1) sc__law_rows.nd rfl (Or.inl rfl) h) (CO AR (CD (Bj zA.G hr rfl zA.m zA.k zA.b (AE (AD (pv 0)) AG) (AL Aj)) AR)))
 (AW (A0 (fun te h=>Ai (i:=2) sc__law_rows.nd rfl (Or.inl rfl) h) (Ba (Al (Bw (AE AR (AE AR (AE AR (AE AR (AE AR (AE AR (AE AR (AE AR AG)))))))))) (CD (Bj zA.G hr rfl zA.m zA.k zA.b (AE (AD (pv 0)) AG) (AL Aj)) AR)))
 (AW (A0 (fun te h=>Ai (i:=3) sc__law_rows.nd rfl (Or.inl rfl) h) (Ba (Al (Bw (AE AR (AE AR (AE AR (AE (IZ AR AR) AG)))))) (CD (Bj zA.G hr rfl zA.m zA.k zA.b (AE (AD (pv 0)) AG) (AL Aj)) AR)))
 (AW (Cm (fun te h=>Ai (i:=4) sc__law_rows.nd rfl (Or.inl rfl) h) (Bw AG))
 (AW (Co PassesOwn.never rfl (EC rfl T.range (AE (AD (pv 1)) AG)) (Bf (An (i:=5) sc__law_rows.nd rfl (Or.inl rfl))) (AW (A0 (fun te h=>Ai (i:=6) sc__law_rows.nd rfl (Or.inl rfl) h) (CD (Bj zA.G hr rfl zA.m zA.k zA.b (AE (AD (pv 0)) AG) (AL Aj)) (CO (AD (pv 2)) AR)))
 (AW (A0 (fun te h=>Ai (i:=7) sc__law_rows.nd rfl (Or.inl rfl) h) (Bj zA.G hr rfl zA.m zA.k zA.b (AE (AD (pv 0)) AG) (AL Aj)))
 (AW (Cm (fun te h=>Ai (i:=8) sc__law_rows.nd rfl (Or.inl rfl) h) (Bw AG))
 (AW (Co PassesOwn.never rfl (EC rfl T.range (AE (AD (pv 6)) AG)) (Bf (An (i:=9) sc__law_rows.nd rfl (Or.inl rfl))) (AW (A0 (fun te h=>Ai (i:=10) sc__law_rows.nd rfl (Or.inl rfl) h) (Bj zF.G hr rfl zF.m zF.k zF.b (AE (AD (pv 7)) (AE (AD (pv 9)) AG)) (AL (AL Aj))))
 (AW (CW (JE hr.units0 (AD (pv 2)) AR) (Ae (A0 (fun te h=>Ai (i:=10) sc__law_rows.nd rfl (Or.inl rfl) h) (Bj zA.G hr rfl zA.m zA.k zA.b (AE (AD (pv 0)) AG) (AL Aj)))) CU)
 (AW (A0 (fun te h=>Ai (i:=11) sc__law_rows.nd rfl (Or.inl rfl) h) (CO (FQ (CD (C0 (AD (pv 10)) (CO (IZ AR AR) AR)) (FQ (C0 AR (AD (pv 3))) AR)) (AD (pv 3))) AR))
 (Ae (DR (HH (AD (pv 8)) (J5 (AE (AD (pv 11)) (AE (WW Qp Qe (WC (CO AR (CD (Bj zF.G hr rfl zF.m zF.k zF.b (AE (AD (pv 7)) (AE (AD (pv 9)) AG)) (AL (AL Aj))) AR)))) AG))))))))))
 (AW (A0 (fun te h=>Ai (i:=12) sc__law_rows.nd rfl (Or.inl rfl) h) (CD (AD (pv 7)) AR))
 (AW (CW (Eh hr.units (AD (pv 12)) AR) (Ae (Cm (fun te h=>Ai (i:=8) sc__law_rows.nd rfl (Or.inl rfl) h) (ES T (AE (AD (pv 8)) AG)))) CU)
 (AW (CW (Eh hr.units (AD (pv 12)) AR) (Ae (Cm (fun te h=>Ai (i:=8) sc__law_rows.nd rfl (Or.inl rfl) h) (M8 (Al (ES T (AE (AD (pv 8)) AG)))))) CU)
 (Ae (DR (HH (AD (pv 4)) (Al (HA (pv 8))))))))))))))
 (Ae (Bd (HA (pv 4)))))))))
abbrev Gn:Stmt:=top 31
abbrev Ph:List Str:=["rows","found","h"]
def NB:MS:=(BR (Cw (AA 1) (AH (A3 BH (AB (AH (Aw (BF (AB (AN Ad (AB (mOp gIx (AA 0) (AA 2)) AC)) AC)) 1 [0,2] (AZ 0) mTT (B6 (AB (mOp gIx (mOp gIx (mOp gIx (AA 1) (AA 2)) (AA 0)) (mC (.int 0))) (AB (AA 2) (AB (AA 0) AC)))))) AC)))))
def JL:MS:=(AI (BB 1 (Ap AC))
 (AI (BP (BF (AB (AN Ad (AB (AA 0) AC)) AC)) (AZ 2) (NB))
 (Ah (Cn 1))))
theorem sc__law_hands:FnScope Ph ["rows"] (AY Gn):=⟨rfl,rfl,rfl,by decide +kernel,rfl,by decide +kernel,by decide +kernel⟩
theorem SS {P:Program} {w:World} {K:PySem.W.Frag} {mg:Str->Option Value} {base:Heap} {fa:Addr} {fd:FuncData} (F:Fun K "_law_hands" "_law_hands" Gn fa fd) (T:Nm mg):FnOk P w K mg base CX0 1 fa fd ["rows"] (spF K 1 (AU 3 (JL))):=
 Bn F sc__law_hands fun cdv A outer s H E hr=>(AW (Cm (fun te h=>Ai (i:=1) sc__law_hands.nd rfl (Or.inl rfl) h) (Bw AG))
 (AW (Co PassesOwn.never rfl (EC rfl T.range (AE (BY T (AE (AD (pv 0)) AG)) AG)) (Bf (An (i:=2) sc__law_hands.nd rfl (Or.inr rfl))) (Ae (DR (HH (AD (pv 1)) (Al (ES T (AE (Al (CB (esc:=(AY Gn)) (N:=Ph) (tn:=["k"]) (fn:=["rows","h"]) (ix:=[0,2]) rfl rfl rfl ⟨rfl,by decide +kernel,by decide +kernel,by decide +kernel,rfl,by decide +kernel⟩ (EC rfl T.range (AE (BY T (AE (Ba (AD (pv 0)) (AD (pv 2))) AG)) AG)) (fun _ _ _ _ _=>(Bf (An (i:=0) (show (["k","rows","h"]:List Str).Nodup by decide +kernel) rfl (Or.inl rfl)))) (fun _ _ _ _ _=>B5) (fun _ _ _ _ _=>(J5 (AE (Ba (Ba (Ba (AD (pv 1)) (AD (pv 2))) (AD (pv 0))) AR) (AE (AD (pv 2)) (AE (AD (pv 0)) AG))))))) AG)))))))
 (Ae (Bd (HA (pv 1))))))
end DL
namespace DL
open PySem L2
theorem Ck {g:MG} {b:MS} {items:List D} (P:Nat->DS->Prop) (hs:∀ i d s,items[i]?=some d->P i s->∃ s1 s2,g d s=some s1/\b s1=some (.nx s2)/\P (i+1) s2) {s:DS} (h0:P 0 s):∃ s',C1 g b items s=some (.nx s')/\P items.length s':=by
 have go:∀ (k:Nat) (s:DS),k<=items.length->P k s->∃ s',C1 g b (items.drop k) s=some (.nx s')/\P items.length s':=by
  intro k
  generalize hj:items.length - k=j
  induction j generalizing k with
  | zero=>
   intro s hk p
   have e:k=items.length:=by lia
   subst e
   exact ⟨s,by rw[List.drop_length];rfl,p⟩
  | succ j ih=>
   intro s hk p
   have hlt:k<items.length:=by lia
   obtain ⟨s1,s2,h1,h2,h3⟩:=hs k _ s (List.getElem?_eq_getElem hlt) p
   obtain ⟨s',h4,h5⟩:=ih (k+1) (by lia) s2 hlt h3
   refine ⟨s',?_,h5⟩
   rw[List.drop_eq_getElem_cons hlt]
   show (g _ s).bind _=_
   rw[h1]
   show (b s1).bind _=_
   rw[h2]
   exact h4
 exact go 0 s (Nat.zero_le _) h0
theorem JD {g:MG} {t:MT} {e:ME} {items:List D} (P:Nat->List D->List (Option SV)->Gm->Prop)
  (hs:∀ i d acc τ Γ,items[i]?=some d->P i acc τ Γ->∃ s1 b,g d ⟨τ,Γ,Γ.length⟩=some s1/\t s1=some b/\((b.1=true/\∃ y s2,e b.2=some (.v y,s2)/\s2.Γ.length=Γ.length/\P (i+1) (acc++[y]) s2.σ s2.Γ)\/(b.1=false/\b.2.Γ.length=Γ.length/\P (i+1) acc b.2.σ b.2.Γ)))
  {τ:List (Option SV)} {Γ:Gm} (h0:P 0 [] τ Γ):∃ ys τ' Γ',Au g t e items τ Γ=some (ys,Γ')/\P items.length ys τ' Γ':=by
 have go:∀ (k:Nat) (acc:List D) (τ:List (Option SV)) (Γ:Gm),k<=items.length->P k acc τ Γ->∃ ys τ' Γ',Au g t e (items.drop k) τ Γ=some (ys,Γ')/\P items.length (acc++ys) τ' Γ':=by
  intro k
  generalize hj:items.length - k=j
  induction j generalizing k with
  | zero=>
   intro acc τ Γ hk p
   have e:k=items.length:=by lia
   subst e
   exact ⟨[],τ,Γ,by rw[List.drop_length];rfl,by rw[List.append_nil];exact p⟩
  | succ j ih=>
   intro acc τ Γ hk p
   have hlt:k<items.length:=by lia
   obtain ⟨s1,b,h1,h2,h3⟩:=hs k _ acc τ Γ (List.getElem?_eq_getElem hlt) p
   rw[List.drop_eq_getElem_cons hlt]
   rcases h3 with ⟨hb,y,s2,h4,h5,h6⟩ | ⟨hb,h5,h6⟩
   ·obtain ⟨ys,τ',Γ',h7,h8⟩:=ih (k+1) (by lia) (acc++[y]) s2.σ s2.Γ hlt h6
    refine ⟨y::ys,τ',Γ',?_,by simpa using h8⟩
    show (g _ _).bind _=_
    rw[h1]
    show (t s1).bind _=_
    rw[h2]
    show (if b.1=true then _ else _)=_
    rw[if_pos hb,h4]
    show (if s2.Γ.length=Γ.length then _ else _)=_
    rw[if_pos h5,h7]
    rfl
   ·obtain ⟨ys,τ',Γ',h7,h8⟩:=ih (k+1) (by lia) acc b.2.σ b.2.Γ hlt h6
    refine ⟨ys,τ',Γ',?_,h8⟩
    show (g _ _).bind _=_
    rw[h1]
    show (t s1).bind _=_
    rw[h2]
    show (if b.1=true then _ else _)=_
    rw[if_neg (by rw[hb];exact Bool.false_ne_true),if_pos h5]
    exact h7
 obtain ⟨ys,τ',Γ',h1,h2⟩:=go 0 [] τ Γ (Nat.zero_le _) h0
 exact ⟨ys,τ',Γ',h1,by simpa using h2⟩
theorem D7 {lo:Int} {n i:Nat} {d:D} (h:(upTo lo n)[i]?=some d):i<n/\d=.int (lo+i):=by
 have hi:=(List.getElem?_eq_some_iff.mp h).1
 rw[CH] at hi
 rw[K1 lo n i hi] at h
 exact ⟨hi,(Option.some.inj h).symm⟩
def Tg (t:Str):Prop:=1<=t.length/\t.length<=8/\∀ c∈t.cps.toList,97<=c/\c<=122
theorem QW {z:Str} {l u:Option Int} {c:Nat} (h:c∈(CZ z l u).cps.toList):c∈z.cps.toList:=by
 unfold CZ at h
 split at h
 ·exact h
 ·obtain ⟨j,_,hj⟩:=List.mem_filterMap.mp (by simpa using h)
  exact Array.mem_toList_iff.mpr (Array.mem_of_getElem? hj)
theorem Rh {z:Str} {b:Int} (h:1<=z.length) (hb:0<=b):1<=(CZ z none (some (1+b))).length:=by
 unfold CZ
 split
 ·exact h
 ·have hz:0<z.cps.size:=h
  have h0:(0:Nat)∈Builtin.Str.strSliceIndices none (some (1+b)) 1 z.length:=by
   unfold Builtin.Str.strSliceIndices
   simp only[show ¬(1+b<0) by lia,if_false,show ((1:Int) > 0)=True by simp,if_true]
   unfold sliceRange
   simp only[show ((1:Int) > 0)=True by simp,if_true]
   rw[if_pos (by lia)]
   refine List.mem_map.mpr ⟨0,List.mem_range.mpr ?_,by simp⟩
   have:(0:Int)<(max 0 (min (1+b) (z.length:Int)) - 0+1 - 1) / 1:=by lia
   lia
  have hm:z.cps[0]∈(Builtin.Str.strSliceIndices none (some (1+b)) 1 z.length).filterMap (z.cps[·]?):=List.mem_filterMap.mpr ⟨0,h0,Array.getElem?_eq_getElem hz⟩
  show 1<=((Builtin.Str.strSliceIndices none (some (1+b)) 1 z.length).filterMap (z.cps[·]?)).toArray.size
  rw[List.size_toArray]
  exact List.length_pos_of_mem hm
theorem Xh {t:Str} {b:Int} (h:Tg t) (hb:0<=b):Tg (CZ t none (some (1+b))):=⟨Rh h.1 hb,Nat.le_trans (Mj _ _ _) h.2.1,fun c hc=>h.2.2 c (QW hc)⟩
def thD (t:Int×Str):D:=.tup [.int t.1,.str t.2]
def AK (ts:List (Int×Str)):D:=.lst (ts.map thD)
theorem Aa {m n:MS} {s s1:DS} (h:m s=some (.nx s1)):AI m n s=n s1:=by unfold AI;rw[h];rfl
theorem Cu {α β:Type} {f:α->β} {xs:List α} {i:Nat} {d:β} (h:(xs.map f)[i]?=some d):∃ a,xs[i]?=some a/\d=f a:=by
 rw[List.getElem?_map] at h
 cases e:xs[i]? with
 | none=>rw[e] at h;cases h
 | some a=>rw[e] at h;exact ⟨a,rfl,(Option.some.inj h).symm⟩
abbrev Th:=Int×Str
theorem CP {α:Type} {f:α->D} {xs:List α} {i:Nat} {a:α} (h:xs[i]?=some a):atI (xs.map f) (i:Int)=some (f a):=Ji (by rw[List.getElem?_map,h];rfl)
theorem at0 {x y:D}:atI [x,y] 0=some x:=rfl
theorem Cc {Γ:Gm} {x:Option (List D)}:(Γ++[x])[Γ.length]?=some x:=by simp
theorem EZ {Γ:Gm} {x y:Option (List D)}:(Γ++[x]).set Γ.length y=Γ++[y]:=by simp
theorem J8 {Γ:Gm} {x:List (Option (List D))}:(Γ++x).take Γ.length=Γ:=by simp
theorem EE {c:MT} {m n:MS} {s s':DS} (h:c s=some (false,s')):mIf c m n s=n s':=by unfold mIf;rw[h];rfl
theorem Fp {c:MT} {m n:MS} {s s':DS} (h:c s=some (true,s')):mIf c m n s=m s':=by unfold mIf;rw[h];rfl
theorem CS {m:ME} {s s':DS} {b:Bool} (h:m s=some (.v (.bl b),s')):Ao m s=some (b,s'):=by unfold Ao;rw[h];rfl
theorem Ak {g:Gm->SV->SV->Option D} {a b:ME} {s s1 s2:DS} {x y:SV} {z:D} (h1:a s=some (x,s1)) (h2:b s1=some (y,s2)) (h3:g s2.Γ x y=some z):mOp g a b s=some (.v z,s2):=by
 unfold mOp;rw[h1];show (b s1).bind _=_;rw[h2];show (g s2.Γ x y).map _=_;rw[h3];rfl
theorem O7 {g:Gm->SV->SV->Option (List D)} {a b:ME} {s s1 s2:DS} {x y:SV} {z:List D} (h1:a s=some (x,s1)) (h2:b s1=some (y,s2)) (h3:g s2.Γ x y=some z):CV g a b s=some (z,s2):=by
 unfold CV;rw[h1];show (b s1).bind _=_;rw[h2];show (g s2.Γ x y).map _=_;rw[h3];rfl
theorem Ay {m:MF} {s s':DS} {xs:List D} (h:m s=some (xs,s')):AH m s=some (.v (.lst xs),s'):=by unfold AH;rw[h];rfl
theorem B0 {mi:MF} {nt:Nat} {ix:List Nat} {g:MG} {t:MT} {e:ME} {s s':DS} {items ys:List D} {Γ':Gm} (h1:mi s=some (items,s')) (hl:items.length<=big) (h2:Au g t e items (EB nt ix s'.σ) s'.Γ=some (ys,Γ')):Aw mi nt ix g t e s=some (ys,{s' with Γ:=Γ'}):=by
 unfold Aw;rw[h1,Option.bind_some,if_pos hl,h2];rfl
theorem Bg {g:Gm->List SV->Option D} {m:ME} {s s':DS} {x:SV} {z:D} (h:m s=some (x,s')) (hg:g s'.Γ [x]=some z):AN g (AB m AC) s=some (.v z,s'):=by
 unfold AN AB AC;rw[h];show (g s'.Γ [x]).map _=_;rw[hg];rfl
theorem DQ {M:MD} {m:ME} {s s':DS} {x:SV} {z:D} {Γ':Gm} (h:m s=some (x,s')) (hg:M [x] s'.Γ=some (z,Γ')):Ab M (AB m AC) s=some (.v z,{s' with Γ:=Γ'}):=by
 unfold Ab AB AC;rw[h];show (M [x] s'.Γ).map _=_;rw[hg];rfl
theorem EH {M:MDF} {m:ME} {s s':DS} {x:SV} {z:List D} {Γ':Gm} (h:m s=some (x,s')) (hg:M [x] s'.Γ=some (z,Γ')):AX M (AB m AC) s=some (z,{s' with Γ:=Γ'}):=by
 unfold AX AB AC;rw[h];show (M [x] s'.Γ).map _=_;rw[hg];rfl
theorem EL {M:MD} {m n:ME} {s s1 s2:DS} {x y:SV} {z:D} {Γ':Gm} (h:m s=some (x,s1)) (h2:n s1=some (y,s2)) (hg:M [x,y] s2.Γ=some (z,Γ')):Ab M (AB m (AB n AC)) s=some (.v z,{s2 with Γ:=Γ'}):=by
 unfold Ab AB AC;rw[h];show (((n s1).bind _).map _).bind _=_;rw[h2];show (M [x,y] s2.Γ).map _=_;rw[hg];rfl
theorem BJ {i:Nat} {m:ME} {s s':DS} {x:SV} (h:m s=some (x,s')):AS i m s=some (.nx {s' with σ:=s'.σ.set i (some x)}):=by unfold AS;rw[h];rfl
theorem RV {m n:ME} {s s1 s2:DS} {x y:D} (h1:m s=some (.v x,s1)) (h2:n s1=some (.v y,s2)):B6 (AB m (AB n AC)) s=some (.v (.tup [x,y]),s2):=by
 unfold B6 AB AC
 rw[h1]
 show (((n s1).bind _).map _).bind _=_
 rw[h2]
 show (if (2:Nat)<=big then some (SV.v (D.tup [x,y]),s2) else none)=_
 rw[if_pos (by decide)]
theorem Lr {m:ME} {s s':DS} {d:D} (h:m s=some (.v d,s')):Bb m s=some (.rt d s'):=by unfold Bb;rw[h];rfl
theorem BL:big=1000000:=rfl
def Fk:MD:=mFn 3 Iy
theorem LB {Γ:Gm} {c k:Int} (h0:0<=k) (h1:k<=1000000):∃ r:Int,Fk [.v (.int c),.v (.int k)] Γ=some (.int r,Γ)/\0<=r/\r<2 ^ 30:=by
 have tk:Γ.take Γ.length=Γ:=List.take_length
 have a0:0<=c % 2147483629:=Int.emod_nonneg _ (by decide)
 have a1:c % 2147483629<2147483629:=Int.emod_lt_of_pos _ (by decide)
 have m1:B7 c 2147483629=true:=rfl
 have m2:CF 9973 k=true:=decide_eq_true (.inl (by decide))
 have m3:∀ x:Int,CF x 48271=true:=fun x=>decide_eq_true (.inr ⟨by decide,by decide⟩)
 have m4:∀ x:Int,B7 x 2147483647=true:=fun _=>rfl
 have m5:∀ x:Int,CF (x % 2147483647) (x % 2147483647)=true:=fun x=>decide_eq_true (.inl ⟨by have:=Int.emod_nonneg x (show (2147483647:Int)≠0 by decide);lia,by have:=Int.emod_lt_of_pos x (show (0:Int)<2147483647 by decide);lia⟩)
 have m6:∀ x:Int,B7 x 2147483587=true:=fun _=>rfl
 have m7:CF 7919 k=true:=decide_eq_true (.inl (by decide))
 have m8:∀ x:Int,CF x 16807=true:=fun x=>decide_eq_true (.inr ⟨by decide,by decide⟩)
 have m9:∀ x:Int,B7 x 2147483563=true:=fun _=>rfl
 have m10:∀ x:Int,EN x 8=true:=fun _=>rfl
 let u:Int:=(c % 2147483629+9973 * k+5) * 48271
 let v:Int:=(u % 2147483647) * (u % 2147483647)
 let w:Int:=(v % 2147483587+7919 * k) * 16807
 refine ⟨w % 2147483563 / 8,?_,?_,?_⟩
 ·simp[Fk,Iy,m1,m2,m3,m4,m5,m6,m7,m8,m9,m10,tk,u,v,w]
 ·have:=Int.emod_nonneg w (show (2147483563:Int)≠0 by decide)
  lia
 ·have:=Int.emod_lt_of_pos w (show (0:Int)<2147483563 by decide)
  have:=Int.emod_nonneg w (show (2147483563:Int)≠0 by decide)
  lia
abbrev DkL (l:List Int):Prop:=∀ x∈l,0<=x/\x<2 ^ 30
def Dk (Γ:Gm) (n:Nat):Prop:=∃ l:List Int,Γ[n]?=some (some (l.map .int))/\DkL l
def Dd (n:Nat) (Γ Γ':Gm):Prop:=∃ l:List Int,Γ'=Γ.set n (some (l.map .int))/\DkL l
theorem Dk.lt {Γ:Gm} {n:Nat} (h:Dk Γ n):n<Γ.length:=by
 obtain ⟨l,e,_⟩:=h
 exact (List.getElem?_eq_some_iff.mp e).1
theorem Dd.dk {Γ Γ':Gm} {n:Nat} (p:Dk Γ n) (h:Dd n Γ Γ'):Dk Γ' n:=by
 obtain ⟨l,rfl,hl⟩:=h
 exact ⟨l,by rw[List.getElem?_set_self p.lt],hl⟩
theorem Dd.trans {Γ Γ' Γ'':Gm} {n:Nat} (a:Dd n Γ Γ') (b:Dd n Γ' Γ''):Dd n Γ Γ'':=by
 obtain ⟨l,rfl,_⟩:=a
 obtain ⟨l',rfl,h⟩:=b
 exact ⟨l',by rw[List.set_set],h⟩
theorem Dd.refl {Γ:Gm} {n:Nat} (p:Dk Γ n):Dd n Γ Γ:=by
 obtain ⟨l,e,hl⟩:=p
 refine ⟨l,?_,hl⟩
 obtain ⟨h,e⟩:=List.getElem?_eq_some_iff.mp e
 rw[<-e,List.set_getElem_self]
theorem Dd.len {Γ Γ':Gm} {n:Nat} (a:Dd n Γ Γ'):Γ'.length=Γ.length:=by
 obtain ⟨l,rfl,_⟩:=a
 rw[List.length_set]
def DK:MD:=mFn 1 Gd
theorem Ka {Γ:Gm} {n:Nat} (p:Dk Γ n):∃ r Γ',DK [.b n] Γ=some (.int r,Γ')/\0<=r/\r<2 ^ 30/\Dd n Γ Γ':=by
 have hn:=p.lt
 have p':=p
 obtain ⟨l,e,hl⟩:=p
 have b0:(0:Nat)<=big:=Nat.zero_le _
 have tk:Γ.take Γ.length=Γ:=List.take_length
 rcases List.eq_nil_or_concat l with rfl | ⟨l',x,rfl⟩
 ·refine ⟨0,Γ,?_,by decide,by decide,Dd.refl p'⟩
  simp[DK,Gd,e,b0,tk]
 ·rw[List.concat_eq_append] at e hl
  have hx:=hl x (by simp)
  refine ⟨x,Γ.set n (some (l'.map .int)),?_,hx.1,hx.2,l',rfl,fun y hy=>hl y (by simp[hy])⟩
  have tk2:(Γ.set n (some (l'.map .int))).take Γ.length=Γ.set n (some (l'.map .int)):=List.take_of_length_le (by rw[List.length_set];exact Nat.le_refl _)
  rw[List.map_append] at e
  have e':Γ[n]?=some (some (l'.map .int++[.int x])):=e
  have ne:l'.map D.int++[D.int x]≠[]:=by simp
  simp[DK,Gd,e',b0,tk2]
def EM:MDF:=AU 6 (Gg Fk)
theorem VX {Ms:MD} (F:∀ {Γ:Gm} {c k:Int},0<=k->k<=1000000->∃ r:Int,Ms [.v (.int c),.v (.int k)] Γ=some (.int r,Γ)/\0<=r/\r<2 ^ 30) {Γ:Gm} {c:Int}:∃ l:List Int,AU 6 (Gg Ms) [.v (.int c),.v (.int 90)] Γ=some (l.map .int,Γ)/\DkL l:=by
 have b0:(0:Nat)<=big:=Nat.zero_le _
 have bp:FO 10 18=true:=rfl
 have bd:∀ x:Int,EN x 720720=true:=fun _=>rfl
 have bm:∀ x:Int,B7 x 720720=true:=fun _=>rfl
 obtain ⟨s',e1,l,dg,v4,v5,rfl,hl,hlen⟩:=Ck (g:=AZ 4) (b:=Fj Ms) (items:=upTo 0 90)
  (fun i s=>∃ (l:List Int) (dg:Int) (v4 v5:Option SV),s=⟨[some (.v (.int c)),some (.v (.int 90)),some (.b Γ.length),some (.v (.int dg)),v4,v5],Γ++[some (l.map .int)],Γ.length⟩/\DkL l/\l.length=i) (by
   rintro i d s hd ⟨l,dg,v4,v5,rfl,hl,hlen⟩
   obtain ⟨hi,rfl⟩:=D7 hd
   obtain ⟨r,e,r0,r1⟩:=F (Γ:=Γ++[some (l.map .int)]) (c:=c) (k:=0+i) (by lia) (by lia)
   have hb:l.length<big:=by rw[hlen,BL];lia
   by_cases h:(10:Int) ^ 18<=c
   ·have h':(1000000000000000000:Int)<=c:=h
    refine ⟨_,⟨[some (.v (.int c)),some (.v (.int 90)),some (.b Γ.length),some (.v (.int (dg / 720720))),some (.v (.int (0+i))),some (.v (.int (dg % 720720)))],Γ++[some ((l++[dg % 720720]).map .int)],Γ.length⟩,rfl,?_,_,_,_,_,rfl,?_,by simp[hlen]⟩
    ·simp[Fj,show Ms [.v (.int c),.v (.int (i:Int))] (Γ++[some (l.map .int)])=some (.int r,Γ++[some (l.map .int)]) by simpa using e,bp,h',bd,bm,hb]
    ·intro x hx
     rcases List.mem_append.mp hx with hx | hx
     ·exact hl x hx
     ·rw[List.mem_singleton] at hx
      subst hx
      have:=Int.emod_nonneg dg (show (720720:Int)≠0 by decide)
      have:=Int.emod_lt_of_pos dg (show (0:Int)<720720 by decide)
      lia
   ·have h':¬(1000000000000000000:Int)<=c:=h
    refine ⟨_,⟨[some (.v (.int c)),some (.v (.int 90)),some (.b Γ.length),some (.v (.int (dg / 720720))),some (.v (.int (0+i))),some (.v (.int r))],Γ++[some ((l++[r]).map .int)],Γ.length⟩,rfl,?_,_,_,_,_,rfl,?_,by simp[hlen]⟩
    ·simp[Fj,show Ms [.v (.int c),.v (.int (i:Int))] (Γ++[some (l.map .int)])=some (.int r,Γ++[some (l.map .int)]) by simpa using e,bp,h',bd,bm,hb]
    ·intro x hx
     rcases List.mem_append.mp hx with hx | hx
     ·exact hl x hx
     ·rw[List.mem_singleton] at hx
      subst hx
      exact ⟨r0,r1⟩) (s:=⟨[some (.v (.int c)),some (.v (.int 90)),some (.b Γ.length),some (.v (.int c)),none,none],Γ++[some []],Γ.length⟩) ⟨[],c,none,none,rfl,(fun x h=>nomatch h),rfl⟩
 have hr:okR 90=true:=rfl
 refine ⟨l.reverse,?_,fun x hx=>hl x (List.mem_reverse.mp hx)⟩
 unfold AU Gg
 show (AI _ _ ⟨[some (.v (.int c)),some (.v (.int 90)),none,none,none,none],Γ,Γ.length⟩).bind _=_
 rw[Aa (s1:=⟨[some (.v (.int c)),some (.v (.int 90)),some (.b Γ.length),none,none,none],Γ++[some []],Γ.length⟩) (by simp[b0]),
  Aa (s1:=⟨[some (.v (.int c)),some (.v (.int 90)),some (.b Γ.length),some (.v (.int c)),none,none],Γ++[some []],Γ.length⟩) rfl,
  Aa (show BP (BF (AB (AA 1) AC)) (AZ 4) (Fj Ms) ⟨[some (.v (.int c)),some (.v (.int 90)),some (.b Γ.length),some (.v (.int c)),none,none],Γ++[some []],Γ.length⟩=_ by
   unfold BP
   rw[show BF (AB (AA 1) AC) ⟨[some (.v (.int c)),some (.v (.int 90)),some (.b Γ.length),some (.v (.int c)),none,none],Γ++[some []],Γ.length⟩=some (upTo 0 90,⟨[some (.v (.int c)),some (.v (.int 90)),some (.b Γ.length),some (.v (.int c)),none,none],Γ++[some []],Γ.length⟩) by simp[hr],Option.bind_some]
   exact e1)]
 simp
theorem Yf {Γ:Gm} {c:Int}:∃ l:List Int,EM [.v (.int c),.v (.int 90)] Γ=some (l.map .int,Γ)/\DkL l:=VX LB
def Da:MD:=mFn 2 GQ
theorem Xb {Γ:Gm} {ns:List Int} {k:Nat}:∃ c:Int,Da [.v (.scr ns),.v (.int k)] Γ=some (.int c,Γ):=by
 have tk:Γ.take Γ.length=Γ:=List.take_length
 by_cases h:k<ns.length
 ·have e:atI ns (k:Int)=some ns[k]:=Ji (List.getElem?_eq_getElem h)
  exact ⟨ns[k],by simp[Da,GQ,h,e,tk]⟩
 ·exact ⟨0,by simp[Da,GQ,h,tk]⟩
abbrev TgR (ts:List Th):Prop:=∀ t∈ts,Tg t.2
theorem Dd.app {n:Nat} {Γd R G:Gm} (hn:n<Γd.length) (h:Dd n (Γd++R) G):∃ Γd',Dd n Γd Γd'/\G=Γd'++R:=by
 obtain ⟨l,rfl,hl⟩:=h
 exact ⟨Γd.set n (some (l.map .int)),⟨l,rfl,hl⟩,by rw[List.set_append_left _ _ hn]⟩
theorem Dk.app {n:Nat} {Γ R:Gm} (h:Dk Γ n):Dk (Γ++R) n:=by
 have hn:=h.lt
 obtain ⟨l,e,hl⟩:=h
 exact ⟨l,by rw[List.getElem?_append_left hn];exact e,hl⟩
theorem VS:Tg "abcdefgh":=⟨by decide +kernel,by decide +kernel,by decide +kernel⟩
theorem X8:("abcdefgh":Str).length<=big:=by decide +kernel
theorem XA {Γ:Gm} {x:SV} {ts:List Th} (h:elems Γ x=some (ts.map thD)):BH Γ [x]=some ((Cv ts).map thD):=by
 cases ts with
 | nil=>
  have e:CQ Γ [x]=some []:=by unfold CQ;simp only[h];rfl
  unfold BH
  rw[e]
  rfl
 | cons t r=>
  have e:CQ Γ [x]=none:=by
   unfold CQ
   simp only[h,Option.bind_some]
   rw[List.map_cons]
   rfl
  unfold BH
  rw[e]
  show (elems Γ x).bind _=_
  rw[h,Option.bind_some]
  show (Dx ((t::r).map thW)).map _=_
  rw[MK]
  rfl
structure FactsD (Mn Ms:MD):Prop where
 next:∀ {Γ:Gm} {n:Nat},Dk Γ n->∃ r Γ',Mn [.b n] Γ=some (.int r,Γ')/\0<=r/\r<2 ^ 30/\Dd n Γ Γ'
 stir:∀ {Γ:Gm} {c k:Int},0<=k->k<=1000000->∃ r:Int,Ms [.v (.int c),.v (.int k)] Γ=some (.int r,Γ)/\0<=r/\r<2 ^ 30
section
variable {Mn Ms:MD} (F:FactsD Mn Ms)
include F
theorem Sh {n:Nat} {Γd R:Gm} {lo M:Nat} {s1 s4 s5 s6 v10 v11 v12:Option SV} {most base seed:Int} {i:Nat} {ts:List Th} (hM:M=(Γd++R).length) (hd:Dk Γd n) (hb:2<=base) (hb2:base<=10 ^ 30) (hi:i<1000) (hl:ts.length<big) (ht:TgR ts) :
  ∃ (Γd':Gm) (t:Th) (w10 w11:Option SV),Ef Mn Ms ⟨[some (.b n),s1,some (.v (.int most)),some (.v (.int base)),s4,s5,s6,some (.v (.int seed)),some (.b M),some (.v (.int (0+i))),v10,v11,v12],Γd++R++[some (ts.map thD)],lo⟩
   = some (.nx ⟨[some (.b n),s1,some (.v (.int most)),some (.v (.int base)),s4,s5,s6,some (.v (.int seed)),some (.b M),some (.v (.int (0+i))),w10,w11,v12],Γd'++R++[some ((ts++[t]).map thD)],lo⟩)/\Dd n Γd Γd'/\Tg t.2:=by
 obtain ⟨x,e1,x0,x1⟩:=F.stir (Γ:=Γd++R++[some (ts.map thD)]) (c:=seed) (k:=0+i) (by lia) (by lia)
 obtain ⟨Γd',y,f1,hy0,hy1,dd⟩:∃ (Γd':Gm) (y:Int),(mIf (Ao (mOp BN (AA 2) (mC (.int 10)))) (AS 10 (Ab Mn (AB (AA 0) AC))) BO) ⟨[some (.b n),s1,some (.v (.int most)),some (.v (.int base)),s4,s5,s6,some (.v (.int seed)),some (.b M),some (.v (.int (0+i))),some (.v (.int x)),v11,v12],Γd++R++[some (ts.map thD)],lo⟩=some (.nx ⟨[some (.b n),s1,some (.v (.int most)),some (.v (.int base)),s4,s5,s6,some (.v (.int seed)),some (.b M),some (.v (.int (0+i))),some (.v (.int y)),v11,v12],Γd'++R++[some (ts.map thD)],lo⟩)/\0<=y/\y<2 ^ 30/\Dd n Γd Γd':=by
  by_cases c:most<10
  ·obtain ⟨y,G,e2,y0,y1,d2⟩:=F.next (Γ:=Γd++R++[some (ts.map thD)]) (n:=n) (by rw[List.append_assoc];exact hd.app)
   rw[List.append_assoc] at d2
   obtain ⟨Γd',d3,rfl⟩:=Dd.app hd.lt d2
   refine ⟨Γd',y,?_,y0,y1,d3⟩
   have g:=BJ (i:=10) (DQ (s:=⟨[some (.b n),s1,some (.v (.int most)),some (.v (.int base)),s4,s5,s6,some (.v (.int seed)),some (.b M),some (.v (.int (0+i))),some (.v (.int x)),v11,v12],Γd++R++[some (ts.map thD)],lo⟩) (m:=AA 0) rfl e2)
   rw[Fp (s':=⟨[some (.b n),s1,some (.v (.int most)),some (.v (.int base)),s4,s5,s6,some (.v (.int seed)),some (.b M),some (.v (.int (0+i))),some (.v (.int x)),v11,v12],Γd++R++[some (ts.map thD)],lo⟩) (CS (Ak rfl rfl (by show some (D.bl (decide (most<10)))=_;rw[decide_eq_true c]))),g]
   simp
  ·refine ⟨Γd,x,?_,x0,x1,Dd.refl hd⟩
   rw[EE (s':=⟨[some (.b n),s1,some (.v (.int most)),some (.v (.int base)),s4,s5,s6,some (.v (.int seed)),some (.b M),some (.v (.int (0+i))),some (.v (.int x)),v11,v12],Γd++R++[some (ts.map thD)],lo⟩) (CS (Ak rfl rfl (by show some (D.bl (decide (most<10)))=_;rw[decide_eq_false c])))]
   rfl
 have hM':M=(Γd'++R).length:=by rw[hM,List.length_append,List.length_append,dd.len]
 obtain ⟨x',e3,_,_⟩:=F.stir (Γ:=Γd'++R++[some (ts.map thD)]) (c:=seed) (k:=0+i) (by lia) (by lia)
 have h8:0<=x' % 8:=Int.emod_nonneg _ (by decide)
 have g0:(AS 10 (Ab Ms (AB (AA 7) (AB (AA 9) AC)))) ⟨[some (.b n),s1,some (.v (.int most)),some (.v (.int base)),s4,s5,s6,some (.v (.int seed)),some (.b M),some (.v (.int (0+i))),v10,v11,v12],Γd++R++[some (ts.map thD)],lo⟩=some (.nx ⟨[some (.b n),s1,some (.v (.int most)),some (.v (.int base)),s4,s5,s6,some (.v (.int seed)),some (.b M),some (.v (.int (0+i))),some (.v (.int x)),v11,v12],Γd++R++[some (ts.map thD)],lo⟩):=
  BJ (EL (s2:=⟨[some (.b n),s1,some (.v (.int most)),some (.v (.int base)),s4,s5,s6,some (.v (.int seed)),some (.b M),some (.v (.int (0+i))),v10,v11,v12],Γd++R++[some (ts.map thD)],lo⟩) rfl rfl e1)
 let S:DS:=⟨[some (.b n),s1,some (.v (.int most)),some (.v (.int base)),s4,s5,s6,some (.v (.int seed)),some (.b M),some (.v (.int (0+i))),some (.v (.int y)),v11,v12],Γd'++R++[some (ts.map thD)],lo⟩
 have bp:FO 10 22=true:=rfl
 have m1:CF y 10000000000000000000009=true:=decide_eq_true (.inl ⟨by lia,by lia⟩)
 have m2:CF 2 base=true:=decide_eq_true (.inl (by decide))
 have m3:∀ z:Int,B7 z (2 * base - 1)=true:=fun z=>decide_eq_true (by lia)
 let key:Int:=y * 10000000000000000000009 % (2 * base - 1) - base+1
 have g1:AS 11 (mOp BG (mOp CJ (mOp A8 (mOp BI (AA 10) (mOp BG (mOp Df (mC (.int 10)) (mC (.int 22))) (mC (.int 9)))) (mOp CJ (mOp BI (mC (.int 2)) (AA 3)) (mC (.int 1)))) (AA 3)) (mC (.int 1))) S=some (.nx ⟨[some (.b n),s1,some (.v (.int most)),some (.v (.int base)),s4,s5,s6,some (.v (.int seed)),some (.b M),some (.v (.int (0+i))),some (.v (.int y)),some (.v (.int key)),v12],Γd'++R++[some (ts.map thD)],lo⟩):=by
  simp[S,key,bp,m1,m2,m3]
 let S2:DS:=⟨[some (.b n),s1,some (.v (.int most)),some (.v (.int base)),s4,s5,s6,some (.v (.int seed)),some (.b M),some (.v (.int (0+i))),some (.v (.int y)),some (.v (.int key)),v12],Γd'++R++[some (ts.map thD)],lo⟩
 have q1:Ab Ms (AB (AA 7) (AB (AA 9) AC)) S2=some (.v (.int x'),S2):=EL (s2:=S2) rfl rfl e3
 have q2:mOp BG (mC (.int 1)) (mOp A8 (Ab Ms (AB (AA 7) (AB (AA 9) AC))) (mC (.int 8))) S2=some (.v (.int (1+x' % 8)),S2):=Ak (x:=.v (.int 1)) (y:=.v (.int (x' % 8))) rfl (Ak q1 (y:=.v (.int 8)) rfl (by simp[show ∀ z:Int,B7 z 8=true from fun _=>rfl])) rfl
 have q3:mSl (mC (.str "abcdefgh")) none (some (mOp BG (mC (.int 1)) (mOp A8 (Ab Ms (AB (AA 7) (AB (AA 9) AC))) (mC (.int 8))))) S2=some (.v (.str (CZ "abcdefgh" none (some (1+x' % 8)))),S2):=by
  unfold mSl HB
  simp only[mC,Option.bind_some]
  rw[q2]
  simp[X8]
 have q4:=RV (m:=AA 11) (x:=.int key) (s:=S2) (s1:=S2) rfl q3
 have eg:(Γd'++R++[some (ts.map thD)])[M]?=some (some (ts.map thD)):=by rw[hM'];simp
 have es:∀ z,(Γd'++R++[some (ts.map thD)]).set M z=Γd'++R++[z]:=fun z=>by rw[hM'];simp
 refine ⟨Γd',(key,CZ "abcdefgh" none (some (1+x' % 8))),some (.v (.int y)),some (.v (.int key)),?_,dd,Xh VS h8⟩
 unfold Ef
 rw[Aa g0,Aa f1,Aa g1]
 unfold BR Cw
 rw[show AA 8 S2=some (.b M,S2) from rfl,Option.bind_some]
 simp only[q4,Option.bind_some]
 simp only[S2,eg,List.length_map,hl,if_true,Option.map_some,es]
 simp[thD]
theorem Py {n:Nat} {Γd R:Gm} {lo M:Nat} {s1 s4 s5 s6 v9 v10 v11 v12:Option SV} {most base seed:Int} {m:Nat} (hM:M=(Γd++R).length) (hd:Dk Γd n) (hb:2<=base) (hb2:base<=10 ^ 30) (hm:m<=200) :
  ∃ (Γd':Gm) (ts:List Th) (w9 w10 w11:Option SV),C1 (AZ 9) (Ef Mn Ms) (upTo 0 m) ⟨[some (.b n),s1,some (.v (.int most)),some (.v (.int base)),s4,s5,s6,some (.v (.int seed)),some (.b M),v9,v10,v11,v12],Γd++R++[some []],lo⟩
   = some (.nx ⟨[some (.b n),s1,some (.v (.int most)),some (.v (.int base)),s4,s5,s6,some (.v (.int seed)),some (.b M),w9,w10,w11,v12],Γd'++R++[some (ts.map thD)],lo⟩)/\Dd n Γd Γd'/\TgR ts/\ts.length=m:=by
 obtain ⟨s',e1,Γd',ts,w9,w10,w11,rfl,dd,tg,hl⟩:=Ck (g:=AZ 9) (b:=Ef Mn Ms) (items:=upTo 0 m)
  (fun i s=>∃ (Γd':Gm) (ts:List Th) (w9 w10 w11:Option SV),s=⟨[some (.b n),s1,some (.v (.int most)),some (.v (.int base)),s4,s5,s6,some (.v (.int seed)),some (.b M),w9,w10,w11,v12],Γd'++R++[some (ts.map thD)],lo⟩/\Dd n Γd Γd'/\TgR ts/\ts.length=i) (by
   rintro i d s hdd ⟨Γd',ts,w9,w10,w11,rfl,dd,tg,hl⟩
   obtain ⟨hi,rfl⟩:=D7 hdd
   obtain ⟨Γ2,t,u10,u11,e,d2,ht⟩:=Sh F (n:=n) (Γd:=Γd') (R:=R) (lo:=lo) (M:=M) (s1:=s1) (s4:=s4) (s5:=s5) (s6:=s6) (v10:=w10) (v11:=w11) (v12:=v12) (most:=most) (base:=base) (seed:=seed) (i:=i) (ts:=ts) (by rw[hM,List.length_append,List.length_append,dd.len]) (dd.dk hd) hb hb2 (by lia) (by rw[hl,BL];lia) tg
   refine ⟨_,_,rfl,e,Γ2,ts++[t],_,_,_,rfl,dd.trans d2,fun x hx=>?_,by simp[hl]⟩
   rcases List.mem_append.mp hx with hx | hx
   ·exact tg x hx
   ·rw[List.mem_singleton.mp hx];exact ht) (s:=⟨[some (.b n),s1,some (.v (.int most)),some (.v (.int base)),s4,s5,s6,some (.v (.int seed)),some (.b M),v9,v10,v11,v12],Γd++R++[some []],lo⟩) ⟨Γd,[],v9,v10,v11,rfl,Dd.refl hd,(fun x h=>nomatch h),rfl⟩
 rw[CH] at hl
 exact ⟨Γd',ts,w9,w10,w11,e1,dd,tg,hl⟩
omit F in
theorem Pr {ts:List Th} (h:TgR ts):TgR (Cv ts):=fun t ht=>h t ((GS ts).mem_iff.mp ht)
omit F in
theorem OV {way:Int} {n:Nat} {G:Gm} {lo M:Nat} {s1 s2 s3 s4 s5 s6 s7 s9 s10 s11:Option SV} {ts:List Th} (hM:M=G.length) (tg:TgR ts) (w:Int) (rev:Bool) :
  ∃ (M':Nat) (G':Gm) (ts':List Th),(mIf (Ao (mOp Bh (AA 12) (mC (.int w)))) (if rev=true then BB 8 (E9 (AH (A3 BH (AB (AA 8) AC)))) else BB 8 (A3 BH (AB (AA 8) AC))) BO) ⟨[some (.b n),s1,s2,s3,s4,s5,s6,s7,some (.b M),s9,s10,s11,some (.v (.int way))],G++[some (ts.map thD)],lo⟩
   = some (.nx ⟨[some (.b n),s1,s2,s3,s4,s5,s6,s7,some (.b M'),s9,s10,s11,some (.v (.int way))],G++G'++[some (ts'.map thD)],lo⟩)/\M'=(G++G').length/\TgR ts'/\ts'.length=ts.length:=by
 let S:DS:=⟨[some (.b n),s1,s2,s3,s4,s5,s6,s7,some (.b M),s9,s10,s11,some (.v (.int way))],G++[some (ts.map thD)],lo⟩
 have t:Ao (mOp Bh (AA 12) (mC (.int w))) S=some (decide (way=w),S):=CS (Ak (x:=.v (.int way)) (y:=.v (.int w)) (s1:=S) (s2:=S) rfl rfl rfl)
 have el:elems S.Γ (.b M)=some (ts.map thD):=by
  show ((G++[some (ts.map thD)])[M]?).join=_
  rw[hM]
  simp
 have sl:=(GS ts).length_eq
 by_cases c:way=w
 ·rw[decide_eq_true c] at t
  have q:A3 BH (AB (AA 8) AC) S=some ((Cv ts).map thD,S):=by
   unfold A3 AB AC
   rw[show AA 8 S=some (.b M,S) from rfl]
   show (BH S.Γ [.b M]).map _=_
   rw[XA el]
   rfl
  refine ⟨M+1,[some (ts.map thD)],if rev=true then (Cv ts).reverse else Cv ts,?_,by rw[hM];simp,?_,?_⟩
  ·show mIf _ _ _ S=_
   rw[Fp t]
   cases rev with
   | true=>
    rw[if_pos rfl,if_pos rfl]
    unfold BB E9 AH
    rw[q]
    simp[S,hM]
   | false=>
    rw[if_neg (by decide),if_neg (by decide)]
    unfold BB
    rw[q]
    simp[S,hM]
  ·cases rev with
   | true=>rw[if_pos rfl];exact fun x hx=>Pr tg x (List.mem_reverse.mp hx)
   | false=>rw[if_neg (by decide)];exact Pr tg
  ·cases rev with
   | true=>rw[if_pos rfl,List.length_reverse,sl]
   | false=>rw[if_neg (by decide),sl]
 ·rw[decide_eq_false c] at t
  refine ⟨M,[],ts,?_,by rw[hM];simp,tg,rfl⟩
  show mIf _ _ _ S=_
  rw[EE t]
  simp[S]
theorem Xq {n:Nat} {Γ Γd J:Gm} {rows:List (List Th)} {s1 v6 v7 v8 v9 v10 v11 v12:Option SV} {most base:Int} {h:Int} (hd:Dk Γd n) (hl:Γd.length=Γ.length) (hm0:0<=most) (hm1:most<=200) (hb:2<=base) (hb2:base<=10 ^ 30) (hr:rows.length<big) :
  ∃ (Γd' J':Gm) (r:List Th) (w6 w7 w8 w9 w10 w11 w12:Option SV),Fd Mn Ms ⟨[some (.b n),s1,some (.v (.int most)),some (.v (.int base)),some (.b Γ.length),some (.v (.int h)),v6,v7,v8,v9,v10,v11,v12],Γd++([some (rows.map AK)]++J),Γ.length⟩
   = some (.nx ⟨[some (.b n),s1,some (.v (.int most)),some (.v (.int base)),some (.b Γ.length),some (.v (.int h)),w6,w7,w8,w9,w10,w11,w12],Γd'++([some ((rows++[r]).map AK)]++J'),Γ.length⟩)/\Dd n Γd Γd'/\TgR r/\(r.length:Int)<=most:=by
 have b0:(0:Nat)<=big:=Nat.zero_le _
 obtain ⟨x1,G1,e1,x10,x11,d1⟩:=F.next (Γ:=Γd++([some (rows.map AK)]++J)) hd.app
 obtain ⟨Γ1,dd1,rfl⟩:=Dd.app hd.lt d1
 have hd1:=dd1.dk hd
 obtain ⟨x2,G2,e2,x20,x21,d2⟩:=F.next (Γ:=Γ1++([some (rows.map AK)]++J)) hd1.app
 obtain ⟨Γ2,dd2,rfl⟩:=Dd.app hd1.lt d2
 have hd2:=dd2.dk hd1
 have D2:=dd1.trans dd2
 let m:Int:=x1 % (most+1)
 have m0:0<=m:=Int.emod_nonneg _ (by lia)
 have m1:m<most+1:=Int.emod_lt_of_pos _ (by lia)
 let R:Gm:=[some (rows.map AK)]++J
 have g1:AS 6 (mOp A8 (Ab Mn (AB (AA 0) AC)) (mOp BG (AA 2) (mC (.int 1)))) ⟨[some (.b n),s1,some (.v (.int most)),some (.v (.int base)),some (.b Γ.length),some (.v (.int h)),v6,v7,v8,v9,v10,v11,v12],Γd++R,Γ.length⟩=some (.nx ⟨[some (.b n),s1,some (.v (.int most)),some (.v (.int base)),some (.b Γ.length),some (.v (.int h)),some (.v (.int m)),v7,v8,v9,v10,v11,v12],Γ1++R,Γ.length⟩):=by
  have bm:∀ z:Int,B7 z (most+1)=true:=fun z=>decide_eq_true (by lia)
  have q:Ab Mn (AB (AA 0) AC) ⟨[some (.b n),s1,some (.v (.int most)),some (.v (.int base)),some (.b Γ.length),some (.v (.int h)),v6,v7,v8,v9,v10,v11,v12],Γd++R,Γ.length⟩=some (.v (.int x1),⟨[some (.b n),s1,some (.v (.int most)),some (.v (.int base)),some (.b Γ.length),some (.v (.int h)),v6,v7,v8,v9,v10,v11,v12],Γ1++R,Γ.length⟩):=DQ (s':=⟨[some (.b n),s1,some (.v (.int most)),some (.v (.int base)),some (.b Γ.length),some (.v (.int h)),v6,v7,v8,v9,v10,v11,v12],Γd++R,Γ.length⟩) (x:=.b n) rfl e1
  have q2:mOp BG (AA 2) (mC (.int 1)) ⟨[some (.b n),s1,some (.v (.int most)),some (.v (.int base)),some (.b Γ.length),some (.v (.int h)),v6,v7,v8,v9,v10,v11,v12],Γ1++R,Γ.length⟩=some (.v (.int (most+1)),⟨[some (.b n),s1,some (.v (.int most)),some (.v (.int base)),some (.b Γ.length),some (.v (.int h)),v6,v7,v8,v9,v10,v11,v12],Γ1++R,Γ.length⟩):=rfl
  refine BJ (Ak q q2 ?_)
  show (if B7 x1 (most+1)=true then some (D.int (x1 % (most+1))) else none)=_
  rw[if_pos (bm x1)]
 have g2:AS 7 (Ab Mn (AB (AA 0) AC)) ⟨[some (.b n),s1,some (.v (.int most)),some (.v (.int base)),some (.b Γ.length),some (.v (.int h)),some (.v (.int m)),v7,v8,v9,v10,v11,v12],Γ1++R,Γ.length⟩=some (.nx ⟨[some (.b n),s1,some (.v (.int most)),some (.v (.int base)),some (.b Γ.length),some (.v (.int h)),some (.v (.int m)),some (.v (.int x2)),v8,v9,v10,v11,v12],Γ2++R,Γ.length⟩):=
  BJ (DQ (s':=⟨[some (.b n),s1,some (.v (.int most)),some (.v (.int base)),some (.b Γ.length),some (.v (.int h)),some (.v (.int m)),v7,v8,v9,v10,v11,v12],Γ1++R,Γ.length⟩) (x:=.b n) rfl e2)
 let M:Nat:=(Γ2++R).length
 have g3:BB 8 (Ap AC) ⟨[some (.b n),s1,some (.v (.int most)),some (.v (.int base)),some (.b Γ.length),some (.v (.int h)),some (.v (.int m)),some (.v (.int x2)),v8,v9,v10,v11,v12],Γ2++R,Γ.length⟩=some (.nx ⟨[some (.b n),s1,some (.v (.int most)),some (.v (.int base)),some (.b Γ.length),some (.v (.int h)),some (.v (.int m)),some (.v (.int x2)),some (.b M),v9,v10,v11,v12],Γ2++R++[some []],Γ.length⟩):=by simp[b0,M]
 obtain ⟨Γ3,ts,w9,w10,w11,e4,d4,tg,lt⟩:=Py F (n:=n) (Γd:=Γ2) (R:=R) (lo:=Γ.length) (M:=M) (s1:=s1) (s4:=some (.b Γ.length)) (s5:=some (.v (.int h))) (s6:=some (.v (.int m))) (v9:=v9) (v10:=v10) (v11:=v11) (v12:=v12) (most:=most) (base:=base) (seed:=x2) (m:=m.toNat) rfl hd2 hb hb2 (by lia)
 have D4:=D2.trans d4
 have g4:BP (BF (AB (AA 6) AC)) (AZ 9) (Ef Mn Ms) ⟨[some (.b n),s1,some (.v (.int most)),some (.v (.int base)),some (.b Γ.length),some (.v (.int h)),some (.v (.int m)),some (.v (.int x2)),some (.b M),v9,v10,v11,v12],Γ2++R++[some []],Γ.length⟩=some (.nx ⟨[some (.b n),s1,some (.v (.int most)),some (.v (.int base)),some (.b Γ.length),some (.v (.int h)),some (.v (.int m)),some (.v (.int x2)),some (.b M),w9,w10,w11,v12],Γ3++R++[some (ts.map thD)],Γ.length⟩):=by
  have hr:okR m=true:=E1 (by lia) (by lia)
  unfold BP
  rw[show BF (AB (AA 6) AC) ⟨[some (.b n),s1,some (.v (.int most)),some (.v (.int base)),some (.b Γ.length),some (.v (.int h)),some (.v (.int m)),some (.v (.int x2)),some (.b M),v9,v10,v11,v12],Γ2++R++[some []],Γ.length⟩=some (upTo 0 m.toNat,⟨[some (.b n),s1,some (.v (.int most)),some (.v (.int base)),some (.b Γ.length),some (.v (.int h)),some (.v (.int m)),some (.v (.int x2)),some (.b M),v9,v10,v11,v12],Γ2++R++[some []],Γ.length⟩) by
   show (if okR m=true then _ else _)=_
   rw[if_pos hr],Option.bind_some]
  exact e4
 have hM3:M=(Γ3++R).length:=by simp only[M,List.length_append,d4.len]
 have g5:AS 12 (mOp A8 (AA 7) (mC (.int 5))) ⟨[some (.b n),s1,some (.v (.int most)),some (.v (.int base)),some (.b Γ.length),some (.v (.int h)),some (.v (.int m)),some (.v (.int x2)),some (.b M),w9,w10,w11,v12],Γ3++R++[some (ts.map thD)],Γ.length⟩=some (.nx ⟨[some (.b n),s1,some (.v (.int most)),some (.v (.int base)),some (.b Γ.length),some (.v (.int h)),some (.v (.int m)),some (.v (.int x2)),some (.b M),w9,w10,w11,some (.v (.int (x2 % 5)))],Γ3++R++[some (ts.map thD)],Γ.length⟩):=
  BJ (Ak (x:=.v (.int x2)) (y:=.v (.int 5)) (s2:=⟨[some (.b n),s1,some (.v (.int most)),some (.v (.int base)),some (.b Γ.length),some (.v (.int h)),some (.v (.int m)),some (.v (.int x2)),some (.b M),w9,w10,w11,v12],Γ3++R++[some (ts.map thD)],Γ.length⟩) rfl rfl rfl)
 obtain ⟨M1,G1,t1,f1,hM1,tg1,l1⟩:=OV (way:=x2 % 5) (n:=n) (G:=Γ3++R) (lo:=Γ.length) (M:=M) (s1:=s1) (s2:=some (.v (.int most))) (s3:=some (.v (.int base))) (s4:=some (.b Γ.length)) (s5:=some (.v (.int h))) (s6:=some (.v (.int m))) (s7:=some (.v (.int x2))) (s9:=w9) (s10:=w10) (s11:=w11) hM3 tg 1 false
 obtain ⟨M2,G2,t2,f2,hM2,tg2,l2⟩:=OV (way:=x2 % 5) (n:=n) (G:=Γ3++R++G1) (lo:=Γ.length) (M:=M1) (s1:=s1) (s2:=some (.v (.int most))) (s3:=some (.v (.int base))) (s4:=some (.b Γ.length)) (s5:=some (.v (.int h))) (s6:=some (.v (.int m))) (s7:=some (.v (.int x2))) (s9:=w9) (s10:=w10) (s11:=w11) hM1 tg1 2 true
 rw[if_neg (by decide)] at f1
 rw[if_pos rfl] at f2
 have h3:Γ3.length=Γ.length:=by rw[D4.len,hl]
 have hlo:Γ.length<=M2:=by rw[hM2];simp only[List.length_append,h3];lia
 have en:(Γ3++R++G1++G2++[some (t2.map thD)])[M2]?=some (some (t2.map thD)):=by rw[hM2];simp
 have es:∀ z,(Γ3++R++G1++G2++[some (t2.map thD)]).set M2 z=Γ3++R++G1++G2++[z]:=fun z=>by rw[hM2];simp
 have eN:∀ z:Option (List D),(Γ3++R++G1++G2++[z])[Γ.length]?=some (some (rows.map AK)):=fun z=>by
  rw[<-h3]
  simp[R]
 have eS:∀ z y:Option (List D),(Γ3++R++G1++G2++[z]).set Γ.length y=Γ3++([y]++(J++G1++G2++[z])):=fun z y=>by
  rw[<-h3]
  simp[R]
 refine ⟨Γ3,J++G1++G2++[none],t2,some (.v (.int m)),some (.v (.int x2)),none,w9,w10,w11,some (.v (.int (x2 % 5))),?_,D4,tg2,by lia⟩
 unfold Fd
 show AI _ _ ⟨[some (.b n),s1,some (.v (.int most)),some (.v (.int base)),some (.b Γ.length),some (.v (.int h)),v6,v7,v8,v9,v10,v11,v12],Γd++R,Γ.length⟩=_
 rw[Aa g1,Aa g2,Aa g3,Aa g4,Aa g5,Aa f1,Aa f2]
 have fin:AH (Cn 8) ⟨[some (.b n),s1,some (.v (.int most)),some (.v (.int base)),some (.b Γ.length),some (.v (.int h)),some (.v (.int m)),some (.v (.int x2)),some (.b M2),w9,w10,w11,some (.v (.int (x2 % 5)))],Γ3++R++G1++G2++[some (t2.map thD)],Γ.length⟩=some (.v (AK t2),⟨[some (.b n),s1,some (.v (.int most)),some (.v (.int base)),some (.b Γ.length),some (.v (.int h)),some (.v (.int m)),some (.v (.int x2)),none,w9,w10,w11,some (.v (.int (x2 % 5)))],Γ3++R++G1++G2++[none],Γ.length⟩):=by
  refine Ay ?_
  unfold Cn
  simp only[List.getElem?_cons_succ,List.getElem?_cons_zero,en,hlo,if_true,es,List.set_cons_succ,List.set_cons_zero]
 unfold BR Cw
 rw[show AA 4 ⟨[some (.b n),s1,some (.v (.int most)),some (.v (.int base)),some (.b Γ.length),some (.v (.int h)),some (.v (.int m)),some (.v (.int x2)),some (.b M2),w9,w10,w11,some (.v (.int (x2 % 5)))],Γ3++R++G1++G2++[some (t2.map thD)],Γ.length⟩=some (.b Γ.length,⟨[some (.b n),s1,some (.v (.int most)),some (.v (.int base)),some (.b Γ.length),some (.v (.int h)),some (.v (.int m)),some (.v (.int x2)),some (.b M2),w9,w10,w11,some (.v (.int (x2 % 5)))],Γ3++R++G1++G2++[some (t2.map thD)],Γ.length⟩) from rfl,Option.bind_some]
 simp only[eN,fin,Option.bind_some,List.length_map,hr,if_true,Option.map_some,eS]
 simp
theorem Qt {n:Nat} {Γ:Gm} (hd:Dk Γ n):∃ (rs:List (List Th)) (Γ':Gm),AU 13 (Hq Mn Ms) [.b n] Γ=some (rs.map AK,Γ')/\1<=rs.length/\rs.length<=6/\(∀ r∈rs,r.length<=200/\TgR r)/\Dd n Γ Γ':=by
 have b0:(0:Nat)<=big:=Nat.zero_le _
 have b8:(8:Nat)<=big:=by decide
 have b4:(4:Nat)<=big:=by decide
 have bp:FO 10 30=true:=rfl
 obtain ⟨x1,Γ1,e1,x10,x11,d1⟩:=F.next hd
 have hd1:=d1.dk hd
 obtain ⟨x2,Γ2,e2,x20,x21,d2⟩:=F.next hd1
 have hd2:=d2.dk hd1
 obtain ⟨x3,Γ3,e3,x30,x31,d3⟩:=F.next hd2
 have hd3:=d3.dk hd2
 have D3:=(d1.trans d2).trans d3
 have bm:∀ z:Int,B7 z 6=true/\B7 z 8=true/\B7 z 4=true:=fun _=>⟨rfl,rfl,rfl⟩
 have p6:0<=x1 % 6/\x1 % 6<6:=⟨Int.emod_nonneg _ (by decide),Int.emod_lt_of_pos _ (by decide)⟩
 obtain ⟨most,hmo,hm0,hm1⟩:∃ most:Int,atI ([.int 3,.int 6,.int 9,.int 9,.int 20,.int 20,.int 40,.int 200]:List D) (x2 % 8)=some (.int most)/\0<=most/\most<=200:=by
  have h0:=Int.emod_nonneg x2 (show (8:Int)≠0 by decide)
  have h1:=Int.emod_lt_of_pos x2 (show (0:Int)<8 by decide)
  have:x2 % 8=0\/x2 % 8=1\/x2 % 8=2\/x2 % 8=3\/x2 % 8=4\/x2 % 8=5\/x2 % 8=6\/x2 % 8=7:=by lia
  rcases this with e | e | e | e | e | e | e | e<;>rw[e]
  ·exact ⟨3,rfl,by decide,by decide⟩
  ·exact ⟨6,rfl,by decide,by decide⟩
  ·exact ⟨9,rfl,by decide,by decide⟩
  ·exact ⟨9,rfl,by decide,by decide⟩
  ·exact ⟨20,rfl,by decide,by decide⟩
  ·exact ⟨20,rfl,by decide,by decide⟩
  ·exact ⟨40,rfl,by decide,by decide⟩
  ·exact ⟨200,rfl,by decide,by decide⟩
 obtain ⟨base,hba,hb1,hb2⟩:∃ base:Int,atI ([.int 2,.int 4,.int 50,.int (10 ^ 30)]:List D) (x3 % 4)=some (.int base)/\2<=base/\base<=10 ^ 30:=by
  have h0:=Int.emod_nonneg x3 (show (4:Int)≠0 by decide)
  have h1:=Int.emod_lt_of_pos x3 (show (0:Int)<4 by decide)
  have:x3 % 4=0\/x3 % 4=1\/x3 % 4=2\/x3 % 4=3:=by lia
  rcases this with e | e | e | e<;>rw[e]
  ·exact ⟨2,rfl,by decide,by decide⟩
  ·exact ⟨4,rfl,by decide,by decide⟩
  ·exact ⟨50,rfl,by decide,by decide⟩
  ·exact ⟨10 ^ 30,rfl,by decide,by decide⟩
 let N:List (Option SV):=[none,none,none,none,none,none,none,none]
 have g1:AS 1 (mOp BG (mC (.int 1)) (mOp A8 (Ab Mn (AB (AA 0) AC)) (mC (.int 6)))) ⟨[some (.b n),none,none,none,none,none,none,none,none,none,none,none,none],Γ,Γ.length⟩=some (.nx ⟨[some (.b n),some (.v (.int (1+x1 % 6))),none,none,none,none,none,none,none,none,none,none,none],Γ1,Γ.length⟩):=
  by
  have q:Ab Mn (AB (AA 0) AC) ⟨[some (.b n),none,none,none,none,none,none,none,none,none,none,none,none],Γ,Γ.length⟩=some (.v (.int x1),⟨[some (.b n),none,none,none,none,none,none,none,none,none,none,none,none],Γ1,Γ.length⟩):=DQ (s':=⟨[some (.b n),none,none,none,none,none,none,none,none,none,none,none,none],Γ,Γ.length⟩) (x:=.b n) rfl e1
  have q2:mOp A8 (Ab Mn (AB (AA 0) AC)) (mC (.int 6)) ⟨[some (.b n),none,none,none,none,none,none,none,none,none,none,none,none],Γ,Γ.length⟩=some (.v (.int (x1 % 6)),⟨[some (.b n),none,none,none,none,none,none,none,none,none,none,none,none],Γ1,Γ.length⟩):=Ak q (y:=.v (.int 6)) rfl rfl
  exact BJ (Ak (x:=.v (.int 1)) (s1:=⟨[some (.b n),none,none,none,none,none,none,none,none,none,none,none,none],Γ,Γ.length⟩) rfl q2 rfl)
 have l8:∀ {s:DS},AH (Ap (AB (mC (.int 3)) (AB (mC (.int 6)) (AB (mC (.int 9)) (AB (mC (.int 9)) (AB (mC (.int 20)) (AB (mC (.int 20)) (AB (mC (.int 40)) (AB (mC (.int 200)) AC))))))))) s=some (.v (.lst [.int 3,.int 6,.int 9,.int 9,.int 20,.int 20,.int 40,.int 200]),s):=by intro s;simp[b8]
 have l4:∀ {s:DS},AH (Ap (AB (mC (.int 2)) (AB (mC (.int 4)) (AB (mC (.int 50)) (AB (mOp Df (mC (.int 10)) (mC (.int 30))) AC))))) s=some (.v (.lst [.int 2,.int 4,.int 50,.int (10 ^ 30)]),s):=by intro s;simp[b4,bp]
 let S1:DS:=⟨[some (.b n),some (.v (.int (1+x1 % 6))),none,none,none,none,none,none,none,none,none,none,none],Γ1,Γ.length⟩
 have g2:AS 2 (mOp gIx (AH (Ap (AB (mC (.int 3)) (AB (mC (.int 6)) (AB (mC (.int 9)) (AB (mC (.int 9)) (AB (mC (.int 20)) (AB (mC (.int 20)) (AB (mC (.int 40)) (AB (mC (.int 200)) AC)))))))))) (mOp A8 (Ab Mn (AB (AA 0) AC)) (mC (.int 8)))) S1=some (.nx ⟨[some (.b n),some (.v (.int (1+x1 % 6))),some (.v (.int most)),none,none,none,none,none,none,none,none,none,none],Γ2,Γ.length⟩):=
  by
  have q:Ab Mn (AB (AA 0) AC) S1=some (.v (.int x2),⟨[some (.b n),some (.v (.int (1+x1 % 6))),none,none,none,none,none,none,none,none,none,none,none],Γ2,Γ.length⟩):=DQ (s':=S1) (x:=.b n) rfl e2
  have q2:mOp A8 (Ab Mn (AB (AA 0) AC)) (mC (.int 8)) S1=some (.v (.int (x2 % 8)),⟨[some (.b n),some (.v (.int (1+x1 % 6))),none,none,none,none,none,none,none,none,none,none,none],Γ2,Γ.length⟩):=Ak q (y:=.v (.int 8)) rfl rfl
  exact BJ (Ak (s1:=S1) l8 q2 hmo)
 let S2:DS:=⟨[some (.b n),some (.v (.int (1+x1 % 6))),some (.v (.int most)),none,none,none,none,none,none,none,none,none,none],Γ2,Γ.length⟩
 have g3:AS 3 (mOp gIx (AH (Ap (AB (mC (.int 2)) (AB (mC (.int 4)) (AB (mC (.int 50)) (AB (mOp Df (mC (.int 10)) (mC (.int 30))) AC)))))) (mOp A8 (Ab Mn (AB (AA 0) AC)) (mC (.int 4)))) S2=some (.nx ⟨[some (.b n),some (.v (.int (1+x1 % 6))),some (.v (.int most)),some (.v (.int base)),none,none,none,none,none,none,none,none,none],Γ3,Γ.length⟩):=
  by
  have q:Ab Mn (AB (AA 0) AC) S2=some (.v (.int x3),⟨[some (.b n),some (.v (.int (1+x1 % 6))),some (.v (.int most)),none,none,none,none,none,none,none,none,none,none],Γ3,Γ.length⟩):=DQ (s':=S2) (x:=.b n) rfl e3
  have q2:mOp A8 (Ab Mn (AB (AA 0) AC)) (mC (.int 4)) S2=some (.v (.int (x3 % 4)),⟨[some (.b n),some (.v (.int (1+x1 % 6))),some (.v (.int most)),none,none,none,none,none,none,none,none,none,none],Γ3,Γ.length⟩):=Ak q (y:=.v (.int 4)) rfl rfl
  exact BJ (Ak (s1:=S2) l4 q2 hba)
 have h3:Γ3.length=Γ.length:=D3.len
 have g4:BB 4 (Ap AC) ⟨[some (.b n),some (.v (.int (1+x1 % 6))),some (.v (.int most)),some (.v (.int base)),none,none,none,none,none,none,none,none,none],Γ3,Γ.length⟩=some (.nx ⟨[some (.b n),some (.v (.int (1+x1 % 6))),some (.v (.int most)),some (.v (.int base)),some (.b Γ.length),none,none,none,none,none,none,none,none],Γ3++([some []]++[]),Γ.length⟩):=by simp[b0,h3]
 obtain ⟨s',e5,Γ4,J,rs,w5,w6,w7,w8,w9,w10,w11,w12,rfl,d5,hrl,hrs⟩:=Ck (g:=AZ 5) (b:=Fd Mn Ms) (items:=upTo 0 (1+x1 % 6).toNat)
  (fun i s=>∃ (Γ4 J:Gm) (rs:List (List Th)) (w5 w6 w7 w8 w9 w10 w11 w12:Option SV),s=⟨[some (.b n),some (.v (.int (1+x1 % 6))),some (.v (.int most)),some (.v (.int base)),some (.b Γ.length),w5,w6,w7,w8,w9,w10,w11,w12],Γ4++([some (rs.map AK)]++J),Γ.length⟩/\Dd n Γ3 Γ4/\(∀ r∈rs,r.length<=200/\TgR r)/\rs.length=i) (by
   rintro i d s hdd ⟨Γ4,J,rs,w5,w6,w7,w8,w9,w10,w11,w12,rfl,d5,hrl,hrs⟩
   obtain ⟨hi,rfl⟩:=D7 hdd
   obtain ⟨Γ5,J',r,u6,u7,u8,u9,u10,u11,u12,e,d6,tr,lr⟩:=Xq F (n:=n) (Γ:=Γ) (Γd:=Γ4) (J:=J) (rows:=rs) (s1:=some (.v (.int (1+x1 % 6)))) (v6:=w6) (v7:=w7) (v8:=w8) (v9:=w9) (v10:=w10) (v11:=w11) (v12:=w12) (most:=most) (base:=base) (h:=0+i) (d5.dk hd3) (by rw[d5.len,h3]) hm0 hm1 hb1 hb2 (by rw[hrs,BL];lia)
   refine ⟨_,_,rfl,e,Γ5,J',rs++[r],_,_,_,_,_,_,_,_,rfl,d5.trans d6,fun q hq=>?_,by simp[hrs]⟩
   rcases List.mem_append.mp hq with hq | hq
   ·exact hrl q hq
   ·rw[List.mem_singleton.mp hq];exact ⟨by lia,tr⟩) (s:=⟨[some (.b n),some (.v (.int (1+x1 % 6))),some (.v (.int most)),some (.v (.int base)),some (.b Γ.length),none,none,none,none,none,none,none,none],Γ3++([some []]++[]),Γ.length⟩) ⟨Γ3,[],[],_,_,_,_,_,_,_,_,rfl,Dd.refl hd3,(fun q h=>nomatch h),rfl⟩
 rw[CH] at hrs
 have g5:BP (BF (AB (AA 1) AC)) (AZ 5) (Fd Mn Ms) ⟨[some (.b n),some (.v (.int (1+x1 % 6))),some (.v (.int most)),some (.v (.int base)),some (.b Γ.length),none,none,none,none,none,none,none,none],Γ3++([some []]++[]),Γ.length⟩=some (.nx ⟨[some (.b n),some (.v (.int (1+x1 % 6))),some (.v (.int most)),some (.v (.int base)),some (.b Γ.length),w5,w6,w7,w8,w9,w10,w11,w12],Γ4++([some (rs.map AK)]++J),Γ.length⟩):=by
  have hr:okR (1+x1 % 6)=true:=E1 (by lia) (by lia)
  unfold BP
  rw[show BF (AB (AA 1) AC) ⟨[some (.b n),some (.v (.int (1+x1 % 6))),some (.v (.int most)),some (.v (.int base)),some (.b Γ.length),none,none,none,none,none,none,none,none],Γ3++([some []]++[]),Γ.length⟩=some (upTo 0 (1+x1 % 6).toNat,⟨[some (.b n),some (.v (.int (1+x1 % 6))),some (.v (.int most)),some (.v (.int base)),some (.b Γ.length),none,none,none,none,none,none,none,none],Γ3++([some []]++[]),Γ.length⟩) by
   show (if okR (1+x1 % 6)=true then _ else _)=_
   rw[if_pos hr],Option.bind_some]
  exact e5
 have D5:=D3.trans d5
 have h4:Γ4.length=Γ.length:=D5.len
 refine ⟨rs,Γ4,?_,by lia,by lia,hrl,D5⟩
 unfold AU Hq
 show (AI _ _ ⟨[some (.b n),none,none,none,none,none,none,none,none,none,none,none,none],Γ,Γ.length⟩).bind _=_
 rw[Aa g1,Aa g2,Aa g3,Aa g4,Aa g5]
 have en:(Γ4++([some (rs.map AK)]++J))[Γ.length]?=some (some (rs.map AK)):=by rw[<-h4];simp
 have et:((Γ4++([some (rs.map AK)]++J)).set Γ.length none).take Γ.length=Γ4:=by rw[<-h4];simp
 unfold Ah Cn
 simp only[List.getElem?_cons_succ,List.getElem?_cons_zero,en,Nat.le_refl,if_true,Option.map_some,Option.bind_some,et]
end
def Ep:MDF:=AU 13 (Hq DK Fk)
theorem XZ {n:Nat} {Γ:Gm} (hd:Dk Γ n):∃ (rs:List (List Th)) (Γ':Gm),Ep [.b n] Γ=some (rs.map AK,Γ')/\1<=rs.length/\rs.length<=6/\(∀ r∈rs,r.length<=200/\TgR r)/\Dd n Γ Γ':=Qt ⟨Ka,LB⟩ hd
def AF (rs:List (List Th)):D:=.lst (rs.map AK)
def Af (h:Int):Int->List Th->List (List Int)
 | _,[]=>[]
 | i,t::r=>[t.1,h,i]::Af h (i+1) r
theorem DN (h:Int):∀ (i:Int) (ts:List Th),(Af h i ts).length=ts.length
 | _,[]=>rfl
 | i,t::r=>by unfold Af;rw[List.length_cons,List.length_cons,DN]
theorem JZ (h:Int):∀ (i:Int) (ts:List Th) (k:Nat) (t:Th),ts[k]?=some t->(Af h i ts)[k]?=some [t.1,h,i+k]
 | _,[],_,_,e=>by cases e
 | i,c::r,0,t,e=>by cases e;unfold Af;simp
 | i,c::r,k+1,t,e=>by
  unfold Af
  rw[List.getElem?_cons_succ,JZ h (i+1) r k t (by simpa using e),show i+1+(k:Int)=i+((k+1:Nat):Int) by lia]
theorem JF {h i:Int} {ts:List Th}:∀ ns∈Af h i ts,ns≠[]:=by
 induction ts generalizing i with
 | nil=>intro ns hn;cases hn
 | cons t r ih=>
  intro ns hn
  unfold Af at hn
  rcases List.mem_cons.mp hn with rfl | hn
  ·simp
  ·exact ih ns hn
theorem GC {h:Int}:∀ {i:Int} {ts:List Th} {ns:List Int},ns∈Af h i ts->∃ (k:Nat) (t:Th),ts[k]?=some t/\ns=[t.1,h,i+k]
 | i,[],ns,hn=>by cases hn
 | i,t::r,ns,hn=>by
  unfold Af at hn
  rcases List.mem_cons.mp hn with rfl | hn
  ·exact ⟨0,t,rfl,by simp⟩
  ·obtain ⟨k,u,h1,rfl⟩:=GC hn
   exact ⟨k+1,u,by simpa using h1,by congr 3;lia⟩
def AM:Int->List (List Th)->List (List Int)
 | _,[]=>[]
 | h,r::rs=>Af h 0 r++AM (h+1) rs
theorem Il:∀ {h:Int} {rs:List (List Th)} (ns:List Int),ns∈AM h rs->ns≠[]
 | h,[],ns,hn=>by cases hn
 | h,r::rs,ns,hn=>by
  unfold AM at hn
  rcases List.mem_append.mp hn with hn | hn
  ·exact JF ns hn
  ·exact Il ns hn
theorem FY:∀ {h:Int} {rs:List (List Th)} {ns:List Int},ns∈AM h rs->∃ (j k:Nat) (r:List Th) (t:Th),rs[j]?=some r/\r[k]?=some t/\ns=[t.1,h+j,(k:Int)]
 | h,[],ns,hn=>by cases hn
 | h,r::rs,ns,hn=>by
  unfold AM at hn
  rcases List.mem_append.mp hn with hn | hn
  ·obtain ⟨k,t,h1,rfl⟩:=GC hn
   exact ⟨0,k,r,t,rfl,h1,by simp⟩
  ·obtain ⟨j,k,r',t,h1,h2,rfl⟩:=FY hn
   exact ⟨j+1,k,r',t,by simpa using h1,h2,by congr 2;lia⟩
def total (rs:List (List Th)):Nat:=(rs.map List.length).sum
theorem Dp:∀ (h:Int) (rs:List (List Th)),(AM h rs).length=total rs
 | _,[]=>rfl
 | h,r::rs=>by unfold AM;rw[List.length_append,DN,Dp];simp[total]
theorem TJ {ns:List Int} {r:List (List Int)}:intsOf ((ns::r).map tupI)=none:=rfl
theorem Iw {Γ:Gm} {nss:List (List Int)} (hn:∀ ns∈nss,ns≠[]) {x:SV} (hx:elems Γ x=some (nss.map tupI)):CQ Γ [x]=some ((AO nss).map tupI):=by
 unfold CQ
 simp only[hx,Option.bind_some]
 cases nss with
 | nil=>rfl
 | cons ns r=>
  rw[TJ]
  simp only
  rw[L6 hn]
  rfl
def Ej:MDF:=AU 2 Jy
theorem FJ {α:Type} (f:α->D) (xs:List α):(Bc 0 (xs.map f)).length=xs.length:=by rw[Hf,List.length_map]
theorem IC {Γ:Gm} {ts:List Th} {h:Int} (hz:ts.length<=big):Ej [.v (AK ts),.v (.int h)] Γ=some ((AO (Af h 0 ts)).map tupI,Γ):=by
 have b3:(3:Nat)<=big:=by decide
 obtain ⟨ys,τ2,Γ2,e2,a2,hΓ,_⟩:=JD (g:=BX [0,1]) (t:=mTT) (e:=B6 (AB (mOp gIx (AA 1) (mC (.int 0))) (AB (AA 2) (AB (AA 0) AC)))) (items:=Bc 0 (ts.map thD))
  (fun i acc τ Γi=>acc=((Af h 0 ts).take i).map tupI/\Γi=Γ/\∃ a b,τ=[a,b,some (.v (.int h))]) (by
   rintro i d acc τ Γi hd ⟨rfl,hΓ,a,b,rfl⟩
   subst Γi
   obtain ⟨x,hx,rfl⟩:=E3 0 _ i d hd
   obtain ⟨t,ht,rfl⟩:=Cu hx
   refine ⟨⟨[some (.v (.int (0+i))),some (.v (thD t)),some (.v (.int h))],Γ,Γ.length⟩,_,rfl,rfl,.inl ⟨rfl,tupI [t.1,h,0+i],⟨[some (.v (.int (0+i))),some (.v (thD t)),some (.v (.int h))],Γ,Γ.length⟩,?_,rfl,?_,rfl,_,_,rfl⟩⟩
   ·simp[thD,at0,b3,tupI]
   ·rw[List.take_add_one,JZ h 0 ts i t ht]
    simp) (τ:=[none,none,some (.v (.int h))]) (Γ:=Γ) ⟨rfl,rfl,none,none,rfl⟩
 rw[FJ,<-DN h 0 ts,List.take_length] at a2
 subst a2
 rw[hΓ] at e2
 have hl:(Bc 0 (ts.map thD)).length<=big:=by rw[FJ];exact hz
 have tk:Γ.take Γ.length=Γ:=List.take_length
 have hs:=Iw (Γ:=Γ) (x:=.v (.lst ((Af h 0 ts).map tupI))) (JF (h:=h) (i:=0) (ts:=ts)) rfl
 unfold Ej AU Jy
 simp only[Ah,A3,AB,AH,Aw,Cp,AA,AC,D0,AK]
 simp[hl,EB,e2,hs,tk,-CQ]
theorem WJ {xs ys:List (List Int)} (p:xs.Perm ys):AO xs=AO ys:=Fs ((Av xs).trans (p.trans (Av ys).symm)) (By _) (By _)
def Bu:Int->List (List Th)->List (List Int)
 | _,[]=>[]
 | h,r::rs=>AO (Af h 0 r)++Bu (h+1) rs
theorem HV:∀ (h:Int) (rs:List (List Th)),(Bu h rs).Perm (AM h rs)
 | _,[]=>.refl _
 | h,r::rs=>(Av _).append (HV (h+1) rs)
theorem LS (h:Int):∀ (rs:List (List Th)) (i:Nat) (r:List Th),rs[i]?=some r->Bu h (rs.take (i+1))=Bu h (rs.take i)++AO (Af (h+i) 0 r)
 | [],i,r,e=>by cases e
 | c::rs,0,r,e=>by cases e;simp[Bu]
 | c::rs,i+1,r,e=>by
  have:=LS (h+1) rs i r (by simpa using e)
  rw[List.take_succ_cons,List.take_succ_cons]
  unfold Bu
  rw[this,List.append_assoc,show h+1+(i:Int)=h+((i+1:Nat):Int) by lia]
theorem Tq (a b:List (List Th)):total (a++b)=total a+total b:=by simp[total]
theorem Ls (rs:List (List Th)) (i:Nat):total (rs.take i)<=total rs:=by
 have:=Tq (rs.take i) (rs.drop i)
 rw[List.take_append_drop] at this
 lia
theorem YS (h:Int) (rs:List (List Th)):(Bu h rs).length=total rs:=(HV h rs).length_eq.trans (Dp h rs)
theorem Fo {rs:List (List Th)} {r:List Th} (h:r∈rs):r.length<=total rs:=by
 induction rs with
 | nil=>cases h
 | cons c rs ih=>
  rcases List.mem_cons.mp h with rfl | h
  ·simp[total]
  ·have:=ih h
   simp[total] at *
   lia
theorem Ed {rs:List (List Th)}:(AO (AM 0 rs)).length=total rs:=(Av _).length_eq.trans (Dp 0 rs)
theorem Ib {rs:List (List Th)} {ns:List Int} (h:ns∈AO (AM 0 rs)):∃ (j k:Nat) (r:List Th) (t:Th),rs[j]?=some r/\r[k]?=some t/\ns=[t.1,(j:Int),(k:Int)]:=by
 obtain ⟨j,k,r,t,h1,h2,rfl⟩:=FY ((Av _).mem_iff.mp h)
 exact ⟨j,k,r,t,h1,h2,by simp⟩
def Em (rs:List (List Th)):List Int->Th
 | [_,h,p]=>((rs[h.toNat]?).bind (·[p.toNat]?)).getD (0,"")
 | _=>(0,"")
def plainT (rs:List (List Th)):List Th:=(AO (AM 0 rs)).map (Em rs)
theorem L0 {rs:List (List Th)}:(plainT rs).length=total rs:=by unfold plainT;rw[List.length_map,Ed]
theorem Qq {rs:List (List Th)} {Γ:Gm}:Au (BX [0,1,2]) mTT (mOp gIx (mOp gIx (AA 3) (AA 1)) (AA 2)) ((AO (AM 0 rs)).map tupI) [none,none,none,some (.v (AF rs))] Γ=some ((plainT rs).map thD,Γ):=by
 obtain ⟨ys,τ',Γ',e,a,b,c,rfl,hΓ,_⟩:=JD (g:=BX [0,1,2]) (t:=mTT) (e:=mOp gIx (mOp gIx (AA 3) (AA 1)) (AA 2)) (items:=(AO (AM 0 rs)).map tupI)
  (fun i acc τ Γi=>∃ (a b c:Option SV),acc=((plainT rs).take i).map thD/\Γi=Γ/\τ=[a,b,c,some (.v (AF rs))]) (by
   rintro i d acc τ Γi hd ⟨a,b,c,rfl,hΓ,rfl⟩
   subst Γi
   obtain ⟨nm,hnm,rfl⟩:=Cu hd
   obtain ⟨j,k,r,t,h1,h2,rfl⟩:=Ib (List.mem_of_getElem? hnm)
   have e1:=CP (f:=AK) h1
   have e2:=CP (f:=thD) h2
   have et:Em rs [t.1,(j:Int),(k:Int)]=t:=by unfold Em;simp[h1,h2]
   refine ⟨⟨[some (.v (.int t.1)),some (.v (.int j)),some (.v (.int k)),some (.v (AF rs))],Γ,Γ.length⟩,_,rfl,rfl,.inl ⟨rfl,thD t,⟨[some (.v (.int t.1)),some (.v (.int j)),some (.v (.int k)),some (.v (AF rs))],Γ,Γ.length⟩,?_,rfl,_,_,_,?_,rfl,rfl⟩⟩
   ·simp[AF,e1]
    simp[AK,e2]
   ·have hp:(plainT rs)[i]?=some t:=by unfold plainT;rw[List.getElem?_map,hnm];exact congrArg some et
    rw[List.take_add_one,hp]
    simp) (τ:=[none,none,none,some (.v (AF rs))]) (Γ:=Γ) ⟨none,none,none,rfl,rfl,rfl⟩
 rw[e,hΓ,List.length_map,Ed,<-L0,List.take_length]
theorem sort_map {φ:List Int->List Int} {xs:List (List Int)} (h:∀ x∈xs,∀ y∈xs,HT.lexLt y x=false->HT.lexLt (φ y) (φ x)=false):AO (xs.map φ)=(AO xs).map φ:=by
 refine Fs ((Av _).trans ((Av xs).map φ).symm) (By _) ?_
 show List.Pairwise _ _
 rw[List.pairwise_map]
 exact (By xs).imp_of_mem fun ha hb hab=>h _ ((Av xs).mem_iff.mp ha) _ ((Av xs).mem_iff.mp hb) hab
theorem Tv (a b c a' b' c':Int):HT.lexLt [a,b,c] [a',b',c']=decide (a<a'\/a=a'/\(b<b'\/b=b'/\c<c')):=by
 rw[HT.Bz,HT.Bz,HT.Bz]
 show (if a=a' then if b=b' then if c=c' then false else decide (c<c') else decide (b<b') else decide (a<a'))=_
 by_cases h1:a=a'
 ·rw[if_pos h1]
  by_cases h2:b=b'
  ·rw[if_pos h2]
   by_cases h3:c=c'
   ·rw[if_pos h3];symm;apply decide_eq_false;lia
   ·rw[if_neg h3];apply decide_eq_decide.mpr;lia
  ·rw[if_neg h2];apply decide_eq_decide.mpr;lia
 ·rw[if_neg h1];apply decide_eq_decide.mpr;lia
theorem FT (h i:Int) (t:Th) (r:List Th):Af h i (t::r)=[t.1,h,i]::Af h (i+1) r:=rfl
theorem SH {rs:List (List Th)} {j k:Nat} {r:List Th} {t:Th} {x:Int} (h1:rs[j]?=some r) (h2:r[k]?=some t):Em rs [x,(j:Int),(k:Int)]=t:=by unfold Em;simp[h1,h2]
theorem LZ (h:Int):∀ (i:Int) (ts:List Th),(Af h i ts).Nodup
 | _,[]=>List.nodup_nil
 | i,t::r=>by
  unfold Af
  refine List.nodup_cons.mpr ⟨fun hm=>?_,LZ h (i+1) r⟩
  obtain ⟨k,u,_,e⟩:=GC hm
  simp at e
  lia
theorem KD:∀ (h:Int) (rs:List (List Th)),(AM h rs).Nodup
 | _,[]=>List.nodup_nil
 | h,r::rs=>by
  unfold AM
  refine List.nodup_append.mpr ⟨LZ h 0 r,KD (h+1) rs,fun x hx y hy e=>?_⟩
  subst e
  obtain ⟨k,u,_,rfl⟩:=GC hx
  obtain ⟨j,k',r',u',_,_,e⟩:=FY hy
  simp at e
  lia
abbrev Nam:=List Int
abbrev D1 (φ:Nam->Nam) (F:List Nam):Prop:=∀ x∈F,∀ y∈F,HT.lexLt (φ x) (φ y)=HT.lexLt x y
def AQ:Int->List (List Th)->List (List Nam)
 | _,[]=>[]
 | h,r::rs=>AO (Af h 0 r)::AQ (h+1) rs
theorem DP:∀ (h:Int) (rs:List (List Th)),(AQ h rs).flatten.Perm (AM h rs)
 | _,[]=>.refl _
 | h,r::rs=>by
  show (AO (Af h 0 r)++(AQ (h+1) rs).flatten).Perm _
  exact (Av _).append (DP (h+1) rs)
theorem VJ (rs:List (List Th)):(AQ 0 rs).flatten.Nodup:=(DP 0 rs).nodup_iff.mpr (KD 0 rs)
theorem Mg {rs:List (List Th)} {x:Nam} (h:x∈(AQ 0 rs).flatten):x∈AM 0 rs:=(DP 0 rs).mem_iff.mp h
def AV (l:List Nam):D:=.lst (l.map tupI)
def Hb:MD:=mFn 1 IF
theorem XQ {i:Int} {Γ:Gm}:Hb [.v (.int i)] Γ=some (.bl true,Γ):=by
 have tk:Γ.take Γ.length=Γ:=List.take_length
 simp[Hb,IF,tk]
theorem Jg {Γ:Gm} {nss:List (List Int)} (hn:∀ ns∈nss,ns≠[]) {x:SV} (hx:elems Γ x=some (nss.map tupI)):BH Γ [x]=some ((AO nss).map tupI):=by
 unfold BH
 rw[Iw hn hx]
theorem JB {c:ME} {s s':DS} {n:Nat} (h:c s=some (.v (.int n),s')) (hn:n<=1000000):BF (AB c AC) s=some (upTo 0 n,s'):=by
 have hh:∀ j:Int,c s=some (.v (.int j),s')->okR j=true->BF (AB c AC) s=some (upTo 0 j.toNat,s'):=fun j g hr=>by
  unfold BF
  rw[show AB c AC s=some ([.v (.int j)],s') by
   show ((c s).bind _)=_
   rw[g]
   rfl,Option.bind_some]
  show (if okR j=true then _ else _)=_
  rw[if_pos hr]
 have:=hh n h (E1 (by lia) (by lia))
 rw[Int.toNat_natCast] at this
 exact this
theorem D6 {mi:MF} {g:MG} {b:MS} {s s':DS} {items:List D} {o:Option Out} (h:mi s=some (items,s')) (e:C1 g b items s'=o):BP mi g b s=o:=by
 unfold BP
 rw[h]
 exact e
theorem Br {M:MDF} {m n:ME} {s s1 s2:DS} {x y:SV} {z:List D} {Γ':Gm} (h:m s=some (x,s1)) (h2:n s1=some (y,s2)) (hg:M [x,y] s2.Γ=some (z,Γ')):AX M (AB m (AB n AC)) s=some (z,{s2 with Γ:=Γ'}):=by
 unfold AX AB AC;rw[h];show ((((n s1).bind _).map _).bind _)=_;rw[h2];show ((M [x,y] s2.Γ).map _)=_;rw[hg];rfl
theorem Wq {i n:Nat} {me:ME} {s s':DS} {d:D} {xs ys:List D} (h1:s.σ[i]?=some (some (.b n))) (h2:s.Γ[n]?=some (some ys)) (h3:me s=some (.v d,s')) (h4:s'.Γ[n]?=some (some xs)) (hl:xs.length<big):BR (Cw (AA i) me) s=some (.nx {s' with Γ:=s'.Γ.set n (some (xs++[d]))}):=by
 unfold BR Cw AA
 rw[h1]
 simp only[Option.bind_some]
 rw[h2]
 simp only[]
 rw[h3]
 simp only[Option.bind_some]
 rw[h4]
 simp only[]
 rw[if_pos hl]
 rfl
theorem W5 {m n k:ME} {s s1 s2 s3:DS} {x y z:D} (h1:m s=some (.v x,s1)) (h2:n s1=some (.v y,s2)) (h3:k s2=some (.v z,s3)):B6 (AB m (AB n (AB k AC))) s=some (.v (.tup [x,y,z]),s3):=by
 unfold B6 AB AC
 rw[h1]
 simp[h2,h3,trees]
 decide
theorem EI {α:Type} {e:ME} {f G:α->D} {tl:List (Option SV)} {Γ:Gm} (xs:List α) (h:∀ x∈xs,e ⟨some (.v (f x))::tl,Γ,Γ.length⟩=some (.v (G x),⟨some (.v (f x))::tl,Γ,Γ.length⟩)) (v:Option SV):Au (AZ 0) mTT e (xs.map f) (v::tl) Γ=some (xs.map G,Γ):=by
 induction xs generalizing v with
 | nil=>rfl
 | cons x xs ih=>
  have i:=ih (fun y hy=>h y (List.mem_cons_of_mem _ hy)) (some (.v (f x)))
  have q:=h x List.mem_cons_self
  rw[List.map_cons,List.map_cons]
  unfold Au
  simp only[AZ,Option.bind_some,List.set_cons_zero,mTT,if_true,q,i,Option.map_some]
theorem YW {α:Type} {t:MT} {e:ME} {f G:α->D} {q:α->Bool} {tl:List (Option SV)} {Γ:Gm} (xs:List α) (ht:∀ x∈xs,t ⟨some (.v (f x))::tl,Γ,Γ.length⟩=some (q x,⟨some (.v (f x))::tl,Γ,Γ.length⟩)) (h:∀ x∈xs,q x=true->e ⟨some (.v (f x))::tl,Γ,Γ.length⟩=some (.v (G x),⟨some (.v (f x))::tl,Γ,Γ.length⟩)) (v:Option SV):Au (AZ 0) t e (xs.map f) (v::tl) Γ=some ((xs.filter q).map G,Γ):=by
 induction xs generalizing v with
 | nil=>rfl
 | cons x xs ih=>
  have i:=ih (fun y hy=>ht y (List.mem_cons_of_mem _ hy)) (fun y hy=>h y (List.mem_cons_of_mem _ hy)) (some (.v (f x)))
  have t1:=ht x List.mem_cons_self
  rw[List.map_cons]
  unfold Au
  simp only[AZ,Option.bind_some,List.set_cons_zero,t1]
  cases c:q x with
  | true=>
   have w:=h x List.mem_cons_self c
   rw[List.filter_cons_of_pos c]
   simp only[if_true,w,Option.bind_some,i,Option.map_some,List.map_cons]
  | false=>
   rw[List.filter_cons_of_neg (by rw[c];decide)]
   simp only[Bool.false_eq_true,if_false,if_true,i]
theorem RQ {n i:Nat} (h:i<n):(upTo 0 n)[i]?=some (.int (i:Int)):=by
 cases e:(upTo 0 n)[i]? with
 | none=>
  have:=List.getElem?_eq_none_iff.mp e
  rw[CH] at this
  lia
 | some d=>
  obtain ⟨_,rfl⟩:=D7 e
  rw[show (0:Int)+(i:Int)=(i:Int) by lia]
theorem Xo (n:Nat):upTo 0 n=(List.range n).map fun (t:Nat)=>D.int (t:Int):=by
 refine List.ext_getElem? fun i=>?_
 by_cases h:i<n
 ·rw[RQ h,List.getElem?_map,List.getElem?_range h]
  rfl
 ·rw[List.getElem?_eq_none (by rw[CH];lia),List.getElem?_eq_none (by simp;lia)]
theorem Ie:∀ (ns acc:List Int),acc.Nodup->(ns.foldl SL.Bm acc).Nodup/\∀ k,k∈ns.foldl SL.Bm acc↔k∈acc\/k∈ns
 | [],acc,h=>⟨h,fun k=>by simp⟩
 | n::ns,acc,h=>by
  have hn:(SL.Bm acc n).Nodup:=by
   unfold SL.Bm
   split
   ·exact h
   ·rename_i c
    refine List.nodup_append.mpr ⟨h,List.pairwise_singleton _ n,fun a ha b hb=>?_⟩
    rw[List.mem_singleton] at hb
    subst hb
    exact fun z=>c (z▸ha)
  obtain ⟨i1,i2⟩:=Ie ns (SL.Bm acc n) hn
  refine ⟨i1,fun k=>?_⟩
  rw[List.foldl_cons,i2 k]
  have:k∈SL.Bm acc n↔k∈acc\/k=n:=by
   unfold SL.Bm
   split
   ·rename_i c
    constructor
    ·exact .inl
    ·rintro (z | rfl)
     ·exact z
     ·exact c
   ·simp
  rw[this,List.mem_cons]
  constructor
  ·rintro ((z | z) | z)
   ·exact .inl z
   ·exact .inr (.inl z)
   ·exact .inr (.inr z)
  ·rintro (z | z | z)
   ·exact .inl (.inl z)
   ·exact .inl (.inr z)
   ·exact .inr z
theorem Tr (ns:List Int):(SL.dd ns).Nodup:=(Ie ns [] List.nodup_nil).1
theorem X1 (ns:List Int) (k:Int):k∈SL.dd ns↔k∈ns:=by
 have:=(Ie ns [] List.nodup_nil).2 k
 simpa [SL.dd] using this
def CM (n s:Nat):List Int:=(List.range s).map fun t=>((t * n / s:Nat):Int)
theorem N8 {n s:Nat} (hn:0<n) {k:Int} (h:k∈CM n s):0<=k/\k<n:=by
 unfold CM at h
 obtain ⟨t,ht,rfl⟩:=List.mem_map.mp h
 have ht:=List.mem_range.mp ht
 refine ⟨Int.natCast_nonneg _,?_⟩
 have:t * n / s<n:=by
  rw[Nat.div_lt_iff_lt_mul (by lia),Nat.mul_comm n s]
  exact Nat.mul_lt_mul_of_pos_right ht hn
 exact Int.ofNat_lt.mpr this
def BS (n s:Nat):List Nat:=(List.range n).filter fun k=>decide ((k:Int)∈CM n s)
theorem RX {n s:Nat} (hn:0<n):sortI (SL.dd (CM n s))=(BS n s).map fun (k:Nat)=>(k:Int):=by
 have pw:((BS n s).map fun (k:Nat)=>(k:Int)).Pairwise (·<·):=by
  rw[List.pairwise_map]
  refine List.Pairwise.imp (fun {a b} h=>?_) ((List.pairwise_lt_range (n:=n)).filter _)
  lia
 refine KU ((sortI_perm _).trans ?_) (Hd _) (pw.imp fun h=>Int.le_of_lt h)
 refine (List.perm_ext_iff_of_nodup (Tr _) (pw.imp fun h=>Int.ne_of_lt h)).mpr fun k=>?_
 rw[X1]
 constructor
 ·intro h
  obtain ⟨h0,h1⟩:=N8 hn h
  refine List.mem_map.mpr ⟨k.toNat,List.mem_filter.mpr ⟨List.mem_range.mpr (by lia),?_⟩,by lia⟩
  rw[Int.toNat_of_nonneg h0]
  exact decide_eq_true h
 ·intro h
  obtain ⟨j,hj,rfl⟩:=List.mem_map.mp h
  exact of_decide_eq_true (List.mem_filter.mp hj).2
def A2 (l:List Nam) (s:Nat):List Nam:=(BS l.length s).map fun k=>l.getD k []
theorem XG {l:List Nam} {s:Nat} {x:Nam} (h:x∈A2 l s):x∈l:=by
 unfold A2 at h
 obtain ⟨k,hk,rfl⟩:=List.mem_map.mp h
 have hk:=List.mem_range.mp (List.mem_filter.mp hk).1
 rw[List.getD_eq_getElem?_getD,List.getElem?_eq_getElem hk]
 exact List.getElem_mem hk
theorem Xm (l:List Nam) (s:Nat):(A2 l s).length<=l.length:=by
 unfold A2 BS
 rw[List.length_map]
 exact Nat.le_trans (List.length_filter_le _ _) (by simp)
def Fz:MDF:=AU 4 Jx
theorem Sf {l:List Nam} {s:Nat} {Γ:Gm} (h1:1<=s) (h8:s<=8) (hl:l.length<=100000):Fz [.v (AV l),.v (.int s)] Γ=some ((A2 l s).map tupI,Γ):=by
 have tk:Γ.take Γ.length=Γ:=List.take_length
 let S0:DS:=⟨[some (.v (AV l)),some (.v (.int s)),none,none],Γ,Γ.length⟩
 let S1:DS:=⟨[some (.v (AV l)),some (.v (.int s)),some (.v (.int l.length)),none],Γ,Γ.length⟩
 have g1:AS 2 (AN Ad (AB (AA 0) AC)) S0=some (.nx S1):=BJ (Bg (s':=S0) (x:=.v (AV l)) rfl (by show some (D.int ((l.map tupI).length:Nat))=_;rw[List.length_map]))
 have t2:Ao (mOp Bh (AA 2) (mC (.int 0))) S1=some (decide ((l.length:Int)=0),S1):=CS (Ak (x:=.v (.int l.length)) (y:=.v (.int 0)) (s1:=S1) (s2:=S1) rfl rfl rfl)
 unfold Fz AU Jx
 show (AI _ _ S0).bind _=_
 rw[Aa g1]
 by_cases c:l=[]
 ·subst c
  rw[decide_eq_true (by rfl)] at t2
  have:(mIf (Ao (mOp Bh (AA 2) (mC (.int 0)))) (Ah (Ap AC)) BO) S1=some (.rf [] S1):=(Fp t2).trans (by simp[S1,show (0:Nat)<=big from Nat.zero_le _])
  unfold AI
  rw[this]
  show some ([],Γ.take Γ.length)=_
  rw[tk]
  rfl
 ·have hn:0<l.length:=List.length_pos_iff.mpr c
  rw[decide_eq_false (by lia)] at t2
  have sk:(mIf (Ao (mOp Bh (AA 2) (mC (.int 0)))) (Ah (Ap AC)) BO) S1=some (.nx S1):=(EE t2).trans rfl
  have q0:BF (AB (AA 1) AC) S1=some (upTo 0 s,S1):=JB rfl (by lia)
  have e1:Au (AZ 0) mTT (mOp Bt (mOp BI (AA 0) (AA 1)) (AA 2)) (upTo 0 s) [none,some (.v (.int l.length)),some (.v (.int s))] Γ=some ((CM l.length s).map .int,Γ):=by
   rw[Xo]
   refine (EI (f:=fun (t:Nat)=>D.int (t:Int)) (G:=fun (t:Nat)=>D.int ((t * l.length / s:Nat):Int)) (tl:=[some (.v (.int l.length)),some (.v (.int s))]) (Γ:=Γ) (List.range s) (fun t ht=>?_) none).trans ?_
   ·let S:DS:=⟨[some (.v (.int (t:Int))),some (.v (.int l.length)),some (.v (.int s))],Γ,Γ.length⟩
    have ht:=List.mem_range.mp ht
    have gm:∀ i j:Int,0<=i->i<8->BI Γ (.v (.int i)) (.v (.int j))=some (.int (i * j)):=fun i j a b=>by simp[show CF i j=true from decide_eq_true (.inl ⟨by lia,by lia⟩)]
    have gd:∀ i j:Int,0<j->j<9->Bt Γ (.v (.int i)) (.v (.int j))=some (.int (i / j)):=fun i j a b=>by simp[show EN i j=true from decide_eq_true ⟨by lia,by lia⟩]
    have w1:mOp BI (AA 0) (AA 1) S=some (.v (.int ((t:Int) * (l.length:Int))),S):=Ak (x:=.v (.int (t:Int))) (y:=.v (.int l.length)) (s1:=S) (s2:=S) rfl rfl (gm _ _ (by lia) (by lia))
    refine (Ak w1 (y:=.v (.int s)) (s2:=S) rfl (gd _ _ (by lia) (by lia))).trans ?_
    have:((t:Int) * (l.length:Int) / (s:Int))=((t * l.length / s:Nat):Int):=by
     rw[Int.natCast_ediv,Int.natCast_mul]
    rw[this]
   ·unfold CM
    rw[List.map_map]
    rfl
  have q1:=Ay (B0 (nt:=1) (ix:=[2,1]) q0 (by rw[CH,BL];lia) e1)
  have q2:A3 SL.El (AB (AH (Aw (BF (AB (AA 1) AC)) 1 [2,1] (AZ 0) mTT (mOp Bt (mOp BI (AA 0) (AA 1)) (AA 2)))) AC) S1=some (((BS l.length s).map fun (k:Nat)=>(k:Int)).map .int,S1):=by
   unfold A3
   rw[show AB (AH (Aw (BF (AB (AA 1) AC)) 1 [2,1] (AZ 0) mTT (mOp Bt (mOp BI (AA 0) (AA 1)) (AA 2)))) AC S1=some ([.v (.lst ((CM l.length s).map .int))],S1) by
    show ((AH _ S1).bind _)=_
    rw[q1]
    rfl,Option.bind_some]
   have hpl:(CM l.length s).length<=1000:=by unfold CM;simp;lia
   have:SL.El S1.Γ [.v (.lst ((CM l.length s).map .int))]=some ((sortI (SL.dd (CM l.length s))).map .int):=by
    show (intsOf ((CM l.length s).map D.int)).bind _=_
    rw[HM,Option.bind_some,if_pos hpl]
   rw[this,RX hn]
   rfl
  let S2:DS:=⟨[some (.v (AV l)),some (.v (.int s)),some (.v (.int l.length)),some (.v (.lst (((BS l.length s).map fun (k:Nat)=>(k:Int)).map .int)))],Γ,Γ.length⟩
  have g3:AS 3 (AH (A3 SL.El (AB (AH (Aw (BF (AB (AA 1) AC)) 1 [2,1] (AZ 0) mTT (mOp Bt (mOp BI (AA 0) (AA 1)) (AA 2)))) AC))) S1=some (.nx S2):=BJ (Ay q2)
  have e2:Au (AZ 0) mTT (mOp gIx (AA 1) (AA 0)) (((BS l.length s).map fun (k:Nat)=>(k:Int)).map .int) [none,some (.v (AV l))] Γ=some ((A2 l s).map tupI,Γ):=by
   rw[List.map_map]
   refine (EI (f:=fun (k:Nat)=>D.int (k:Int)) (G:=fun (k:Nat)=>tupI (l.getD k [])) (tl:=[some (.v (AV l))]) (Γ:=Γ) (BS l.length s) (fun k hk=>?_) none).trans ?_
   ·have hk:=List.mem_range.mp (List.mem_filter.mp hk).1
    refine Ak (x:=.v (AV l)) (y:=.v (.int (k:Int))) (s1:=⟨[some (.v (.int (k:Int))),some (.v (AV l))],Γ,Γ.length⟩) (s2:=⟨[some (.v (.int (k:Int))),some (.v (AV l))],Γ,Γ.length⟩) rfl rfl ?_
    refine CP (f:=tupI) ?_
    rw[List.getD_eq_getElem?_getD,List.getElem?_eq_getElem hk]
    rfl
   ·unfold A2
    rw[List.map_map]
    rfl
  have hfl:(((BS l.length s).map fun (k:Nat)=>(k:Int)).map D.int).length<=big:=by
   rw[List.length_map,List.length_map,BL]
   have:(BS l.length s).length<=l.length:=by
    unfold BS
    exact Nat.le_trans (List.length_filter_le _ _) (by simp)
   lia
  rw[Aa sk,Aa g3]
  unfold Ah
  rw[B0 (s':=S2) (nt:=1) (ix:=[0]) rfl hfl e2]
  show some (_,Γ.take Γ.length)=_
  rw[tk]
theorem MP {i n:Nat} {me:ME} {s s':DS} {zs xs ys:List D} (h1:s.σ[i]?=some (some (.b n))) (h2:s.Γ[n]?=some (some ys)) (h3:me s=some (.v (.lst zs),s')) (h4:s'.Γ[n]?=some (some xs)) (hl:xs.length+zs.length<=big):BR (De (AA i) me) s=some (.nx {s' with Γ:=s'.Γ.set n (some (xs++zs))}):=by
 unfold BR De AA
 rw[h1]
 simp only[Option.bind_some]
 rw[h2]
 simp only[]
 rw[h3]
 simp only[Option.bind_some]
 rw[h4]
 simp only[]
 rw[if_pos hl]
 rfl
def Mask:MD:=mFn 1 (JO Hb)
theorem Og {Γ:Gm} {i:Int} (h:1<=i/\i<=8):Mask [.v (.int i)] Γ=some (.non,Γ):=by
 have tk:Γ.take Γ.length=Γ:=List.take_length
 simp[Mask,JO,XQ,h.1,h.2,tk]
def Ac:Int->List (List Th)->Nat->List Nam
 | _,[],_=>[]
 | h,r::rs,s=>A2 (AO (Af h 0 r)) s++Ac (h+1) rs s
theorem O8 (h:Int):∀ (rs:List (List Th)) (s:Nat) (i:Nat) (r:List Th),rs[i]?=some r->Ac h (rs.take (i+1)) s=Ac h (rs.take i) s++A2 (AO (Af (h+i) 0 r)) s
 | [],_,i,r,e=>by cases e
 | c::rs,s,0,r,e=>by cases e;simp[Ac]
 | c::rs,s,i+1,r,e=>by
  have:=O8 (h+1) rs s i r (by simpa using e)
  rw[List.take_succ_cons,List.take_succ_cons]
  unfold Ac
  rw[this,List.append_assoc,show h+1+(i:Int)=h+((i+1:Nat):Int) by lia]
theorem FC:∀ {h:Int} {rs:List (List Th)} {s:Nat} {x:Nam},x∈Ac h rs s->x∈AM h rs
 | _,[],_,_,e=>by cases e
 | h,r::rs,s,x,e=>by
  unfold Ac at e
  show x∈Af h 0 r++AM (h+1) rs
  rcases List.mem_append.mp e with e | e
  ·exact List.mem_append_left _ ((Av _).mem_iff.mp (XG e))
  ·exact List.mem_append_right _ (FC e)
theorem IP:∀ (h:Int) (rs:List (List Th)) (s:Nat),(Ac h rs s).length<=total rs
 | _,[],_=>Nat.le_refl _
 | h,r::rs,s=>by
  have i:=IP (h+1) rs s
  have j:=Xm (AO (Af h 0 r)) s
  rw[(Av _).length_eq,DN] at j
  unfold Ac
  rw[List.length_append]
  have:total (r::rs)=r.length+total rs:=by simp[total]
  lia
theorem TV {Mc:MD} {Mh Mn:MDF} {rs:List (List Th)} {s:Nat} {Γ:Gm} (hc:∀ {Γ:Gm} {i:Int},1<=i/\i<=8->Mc [.v (.int i)] Γ=some (.non,Γ)) (hh:∀ {l:List Nam} {s:Nat} {Γ:Gm},1<=s->s<=8->l.length<=100000->Mh [.v (AV l),.v (.int s)] Γ=some ((A2 l s).map tupI,Γ)) (hm:∀ {Γ:Gm} {ts:List Th} {h:Int},ts.length<=big->Mn [.v (AK ts),.v (.int h)] Γ=some ((AO (Af h 0 ts)).map tupI,Γ))
  (h1:1<=s) (h8:s<=8) (hn:rs.length<=1000) (hz:total rs<=100000):AU 5 (GG Mc Mh Mn) [.v (AF rs),.v (.int s)] Γ=some ((AO (Ac 0 rs s)).map tupI,Γ):=by
 let S0:DS:=⟨[some (.v (AF rs)),some (.v (.int s)),none,none,none],Γ,Γ.length⟩
 let S:List Nam->Option SV->Option SV->DS:=fun xs v w=>⟨[some (.v (AF rs)),some (.v (.int s)),some (.b Γ.length),v,w],Γ++[some (xs.map tupI)],Γ.length⟩
 have g1:BR (Ab Mc (AB (AA 1) AC)) S0=some (.nx S0):=by
  unfold BR
  rw[DQ (s':=S0) (x:=.v (.int s)) rfl (hc ⟨by lia,by lia⟩)]
  rfl
 have g2:BB 2 (Ap AC) S0=some (.nx (S [] none none)):=by simp[S,S0,show (0:Nat)<=big from Nat.zero_le _]
 have q:Cp (AB (AA 0) AC) (S [] none none)=some (Bc 0 (rs.map AK),S [] none none):=rfl
 obtain ⟨s',e1,v',w',rfl⟩:=Ck (g:=BX [3,4]) (b:=N5 Mc Mh Mn) (items:=Bc 0 (rs.map AK)) (fun i st=>∃ v w,st=S (Ac 0 (rs.take i) s) v w) (by
   rintro i d st hd ⟨v,w,rfl⟩
   obtain ⟨x,hx,rfl⟩:=E3 0 _ i d hd
   obtain ⟨r,hr,rfl⟩:=Cu hx
   have hrt:=Fo (List.mem_of_getElem? hr)
   let T:DS:=S (Ac 0 (rs.take i) s) (some (.v (.int (0+i)))) (some (.v (AK r)))
   have hb:r.length<=big:=by rw[BL];lia
   have w1:AH (AX Mn (AB (AA 4) (AB (AA 3) AC))) T=some (.v (AV (AO (Af (0+(i:Int)) 0 r))),T):=Ay (Br (x:=.v (AK r)) (y:=.v (.int (0+i))) (s1:=T) (s2:=T) rfl rfl (hm hb))
   have w2:AH (AX Mh (AB (AH (AX Mn (AB (AA 4) (AB (AA 3) AC)))) (AB (AA 1) AC))) T=some (.v (.lst ((A2 (AO (Af (0+(i:Int)) 0 r)) s).map tupI)),T):=Ay (Br w1 (y:=.v (.int s)) (s2:=T) rfl (hh h1 h8 (by rw[(Av _).length_eq,DN];lia)))
   have hlen:=IP 0 (rs.take (i+1)) s
   have htt:=Ls rs (i+1)
   have et:=O8 0 rs s i r hr
   have hl:((Ac 0 (rs.take i) s).map tupI).length+((A2 (AO (Af (0+(i:Int)) 0 r)) s).map tupI).length<=big:=by
    rw[et,List.length_append] at hlen
    rw[List.length_map,List.length_map,BL]
    lia
   refine ⟨T,_,rfl,MP (n:=Γ.length) (s:=T) (s':=T) rfl Cc w2 Cc hl,some (.v (.int (0+i))),some (.v (AK r)),?_⟩
   show (⟨_,(Γ++[_]).set Γ.length _,_⟩:DS)=_
   rw[EZ,et,<-List.map_append])
  (s:=S [] none none) ⟨none,none,rfl⟩
 rw[FJ,List.take_length] at e1
 have hs:=Jg (Γ:=Γ++[some ((Ac 0 rs s).map tupI)]) (x:=.b Γ.length) (nss:=Ac 0 rs s) (fun ns hn=>Il ns (FC hn)) (by simp)
 have q3:A3 BH (AB (AA 2) AC) (S (Ac 0 rs s) v' w')=some ((AO (Ac 0 rs s)).map tupI,S (Ac 0 rs s) v' w'):=by
  unfold A3
  show (BH (Γ++[some ((Ac 0 rs s).map tupI)]) [.b Γ.length]).map _=_
  rw[hs]
  rfl
 unfold AU GG
 show (AI _ _ S0).bind _=_
 rw[Aa g1,Aa g2,Aa (D6 q e1)]
 unfold Ah
 rw[q3]
 show some (_,(Γ++[_]).take Γ.length)=_
 rw[J8]
def KN:MDF:=AU 5 (GG Mask Fz Ej)
theorem R3 {rs:List (List Th)} {s:Nat} {Γ:Gm} (h1:1<=s) (h8:s<=8) (hn:rs.length<=1000) (hz:total rs<=100000):KN [.v (AF rs),.v (.int s)] Γ=some ((AO (Ac 0 rs s)).map tupI,Γ):=TV Og Sf IC h1 h8 hn hz
theorem Vk (n:Nat):upTo 1 n=(List.range n).map fun (t:Nat)=>D.int ((t+1:Nat):Int):=by
 have go:∀ (n:Nat) (lo:Int),upTo lo n=(List.range n).map fun (t:Nat)=>D.int (lo+t):=by
  intro n
  induction n with
  | zero=>intro lo;rfl
  | succ n ih=>
   intro lo
   show D.int lo::upTo (lo+1) n=_
   rw[ih (lo+1),List.range_succ_eq_map,List.map_cons,List.map_map]
   congr 1
   ·simp
   ·refine List.map_congr_left fun t _=>?_
    show D.int (lo+1+(t:Int))=D.int (lo+((t+1:Nat):Int))
    congr 1
    lia
 rw[go n 1]
 refine List.map_congr_left fun t _=>?_
 congr 1
 lia
theorem T6 {c:ME} {s s':DS} {p:Nat} (h:c s=some (.v (.int p),s')) (hp:1<=p) (hb:p<=1000000):EY (AB (mC (.int 1)) (AB c AC)) s=some (upTo 1 (p - 1),s'):=by
 have hh:∀ j:Int,c s=some (.v (.int j),s')->okR j=true->EY (AB (mC (.int 1)) (AB c AC)) s=some (upTo 1 (j - 1).toNat,s'):=fun j g hr=>by
  unfold EY
  rw[show AB (mC (.int 1)) (AB c AC) s=some ([.v (.int 1),.v (.int j)],s') by
   show (((c s).bind _).map _)=_
   rw[g]
   rfl,Option.bind_some]
  have h1:okR 1=true:=E1 (by decide) (by decide)
  simp[h1,hr]
 have:=hh p h (E1 (by lia) (by lia))
 rw[show ((p:Int) - 1).toNat=p - 1 by lia] at this
 exact this
def BD (l:List Nam) (p:Nat):List Nam:=if l=[] then [] else (List.range (p - 1)).map fun j=>l.getD ((j+1) * l.length / p) []
theorem Eb {n p j:Nat} (hn:0<n) (hj:j<p - 1):(j+1) * n / p<n:=by
 rw[Nat.div_lt_iff_lt_mul (by lia),Nat.mul_comm n p]
 exact Nat.mul_lt_mul_of_pos_right (by lia) hn
theorem Qh {l:List Nam} {p j:Nat} (hl:l≠[]) (hj:j<p - 1):atI (l.map tupI) (((j+1) * l.length / p:Nat):Int)=some (tupI (l.getD ((j+1) * l.length / p) [])):=by
 have h:=Eb (p:=p) (List.length_pos_iff.mpr hl) hj
 refine CP (f:=tupI) ?_
 rw[List.getD_eq_getElem?_getD,List.getElem?_eq_getElem h]
 rfl
theorem RA {Γ:Gm} {i j:Int} (h:0<=i) (h2:i<1000):BI Γ (.v (.int i)) (.v (.int j))=some (.int (i * j)):=by simp[show CF i j=true from decide_eq_true (.inl ⟨by lia,by lia⟩)]
theorem Uo {Γ:Gm} {i j:Int} (h:0<j) (h2:j<1000):Bt Γ (.v (.int i)) (.v (.int j))=some (.int (i / j)):=by simp[show EN i j=true from decide_eq_true ⟨by lia,by lia⟩]
def Mpa:MDF:=AU 3 KY
theorem Ww {l:List Nam} {p:Nat} {Γ:Gm} (h1:1<=p) (h6:p<=100) (hl:l.length<=100000):Mpa [.v (AV l),.v (.int p)] Γ=some ((BD l p).map tupI,Γ):=by
 have tk:Γ.take Γ.length=Γ:=List.take_length
 let S0:DS:=⟨[some (.v (AV l)),some (.v (.int p)),none],Γ,Γ.length⟩
 let S1:DS:=⟨[some (.v (AV l)),some (.v (.int p)),some (.v (.int l.length))],Γ,Γ.length⟩
 have g1:AS 2 (AN Ad (AB (AA 0) AC)) S0=some (.nx S1):=BJ (Bg (s':=S0) (x:=.v (AV l)) rfl (by show some (D.int ((l.map tupI).length:Nat))=_;rw[List.length_map]))
 have t2:Ao (mOp Bh (AA 2) (mC (.int 0))) S1=some (decide ((l.length:Int)=0),S1):=CS (Ak (x:=.v (.int l.length)) (y:=.v (.int 0)) (s1:=S1) (s2:=S1) rfl rfl rfl)
 unfold Mpa AU KY
 show (AI _ _ S0).bind _=_
 rw[Aa g1]
 by_cases c:l=[]
 ·subst c
  rw[decide_eq_true (by rfl)] at t2
  have:(mIf (Ao (mOp Bh (AA 2) (mC (.int 0)))) (Ah (Ap AC)) BO) S1=some (.rf [] S1):=(Fp t2).trans (by simp[S1,show (0:Nat)<=big from Nat.zero_le _])
  unfold AI
  rw[this]
  show some ([],Γ.take Γ.length)=_
  rw[tk]
  rfl
 ·have hn:0<l.length:=List.length_pos_iff.mpr c
  rw[decide_eq_false (by lia)] at t2
  have sk:(mIf (Ao (mOp Bh (AA 2) (mC (.int 0)))) (Ah (Ap AC)) BO) S1=some (.nx S1):=(EE t2).trans rfl
  have q0:EY (AB (mC (.int 1)) (AB (AA 1) AC)) S1=some (upTo 1 (p - 1),S1):=T6 rfl h1 (by lia)
  have e1:Au (AZ 0) mTT (mOp gIx (AA 1) (mOp Bt (mOp BI (AA 0) (AA 2)) (AA 3))) (upTo 1 (p - 1)) [none,some (.v (AV l)),some (.v (.int l.length)),some (.v (.int p))] Γ=some ((BD l p).map tupI,Γ):=by
   rw[Vk]
   refine (EI (f:=fun (t:Nat)=>D.int ((t+1:Nat):Int)) (G:=fun (t:Nat)=>tupI (l.getD ((t+1) * l.length / p) [])) (tl:=[some (.v (AV l)),some (.v (.int l.length)),some (.v (.int p))]) (Γ:=Γ) (List.range (p - 1)) (fun t ht=>?_) none).trans ?_
   ·let S:DS:=⟨[some (.v (.int ((t+1:Nat):Int))),some (.v (AV l)),some (.v (.int l.length)),some (.v (.int p))],Γ,Γ.length⟩
    have ht:=List.mem_range.mp ht
    have w1:mOp BI (AA 0) (AA 2) S=some (.v (.int (((t+1:Nat):Int) * (l.length:Int))),S):=Ak (x:=.v (.int ((t+1:Nat):Int))) (y:=.v (.int l.length)) (s1:=S) (s2:=S) rfl rfl (RA (by lia) (by lia))
    have w2:mOp Bt (mOp BI (AA 0) (AA 2)) (AA 3) S=some (.v (.int (((t+1) * l.length / p:Nat):Int)),S):=by
     refine (Ak w1 (y:=.v (.int p)) (s2:=S) rfl (Uo (by lia) (by lia))).trans ?_
     rw[Int.natCast_ediv,Int.natCast_mul]
    exact Ak (x:=.v (AV l)) (s1:=S) rfl w2 (Qh c ht)
   ·unfold BD
    rw[if_neg c,List.map_map]
    rfl
  rw[Aa sk]
  unfold Ah
  rw[B0 (nt:=1) (ix:=[0,2,1]) q0 (by rw[CH,BL];lia) e1]
  show some (_,Γ.take Γ.length)=_
  rw[tk]
theorem Xc {l:List Nam} {p:Nat} {x:Nam} (h:x∈BD l p):x∈l:=by
 unfold BD at h
 split at h
 ·cases h
 ·rename_i c
  obtain ⟨j,hj,rfl⟩:=List.mem_map.mp h
  have hk:=Eb (p:=p) (List.length_pos_iff.mpr c) (List.mem_range.mp hj)
  rw[List.getD_eq_getElem?_getD,List.getElem?_eq_getElem hk]
  exact List.getElem_mem hk
theorem XX (l:List Nam) (p:Nat):(BD l p).length<=p:=by
 unfold BD
 split
 ·exact Nat.zero_le _
 ·rw[List.length_map,List.length_range];lia
def A6 (rs:List (List Th)) (s:Nat):List Nam:=BD (AO (Ac 0 rs s)) rs.length
theorem J0 {rs:List (List Th)} {s:Nat} {x:Nam} (h:x∈A6 rs s):x∈AM 0 rs:=FC ((Av _).mem_iff.mp (Xc h))
theorem Nb (rs:List (List Th)) (s:Nat):(A6 rs s).length<=rs.length:=XX _ _
theorem Qi (rs:List (List Th)) (s:Nat):(AO (Ac 0 rs s)).length<=total rs:=by
 rw[(Av _).length_eq]
 exact IP 0 rs s
def Mps:MDF:=AU 2 (Hr Mpa KN)
theorem Rz {Mq Mm:MDF} {rs:List (List Th)} {s:Nat} {Γ:Gm} (hq:∀ {l:List Nam} {p:Nat} {Γ:Gm},1<=p->p<=100->l.length<=100000->Mq [.v (AV l),.v (.int p)] Γ=some ((BD l p).map tupI,Γ)) (hm:∀ {Γ:Gm},Mm [.v (AF rs),.v (.int s)] Γ=some ((AO (Ac 0 rs s)).map tupI,Γ)) (h1:1<=rs.length) (h6:rs.length<=100) (hz:total rs<=100000):AU 2 (Hr Mq Mm) [.v (AF rs),.v (.int s)] Γ=some ((A6 rs s).map tupI,Γ):=by
 have tk:Γ.take Γ.length=Γ:=List.take_length
 let S:DS:=⟨[some (.v (AF rs)),some (.v (.int s))],Γ,Γ.length⟩
 have w1:AH (AX Mm (AB (AA 0) (AB (AA 1) AC))) S=some (.v (AV (AO (Ac 0 rs s))),S):=Ay (Br (x:=.v (AF rs)) (y:=.v (.int s)) (s1:=S) (s2:=S) rfl rfl hm)
 have w2:AN Ad (AB (AA 0) AC) S=some (.v (.int rs.length),S):=Bg (s':=S) (x:=.v (AF rs)) rfl (by show some (D.int ((rs.map AK).length:Nat))=_;rw[List.length_map])
 have w3:=Br w1 w2 (hq h1 h6 (by have:=Qi rs s;lia))
 unfold AU Hr
 show (Ah _ S).bind _=_
 unfold Ah
 rw[w3]
 show some (_,Γ.take Γ.length)=_
 rw[tk]
 rfl
theorem Lk {rs:List (List Th)} {s:Nat} {Γ:Gm} (h1:1<=s) (h8:s<=8) (hn:1<=rs.length) (hn6:rs.length<=100) (hz:total rs<=100000):Mps [.v (AF rs),.v (.int s)] Γ=some ((A6 rs s).map tupI,Γ):=Rz Ww (fun {Γ}=>R3 h1 h8 (by lia) hz) hn hn6 hz
def Cut {α:Type} (le:α->α->Prop) (q:α->Bool):Prop:=∀ x y,le x y->q y=true->q x=true
def cb {α:Type} (q:α->Bool) (l:List α):Nat:=(l.filter q).length
theorem Bx {α:Type} {q:α->Bool} {x:α} {l:List α} (c:q x=true):cb q (x::l)=cb q l+1:=by
 unfold cb
 rw[List.filter_cons_of_pos c,List.length_cons]
theorem CT {α:Type} {q:α->Bool} {x:α} {l:List α} (c:¬q x=true):cb q (x::l)=cb q l:=by
 unfold cb
 rw[List.filter_cons_of_neg c]
theorem Pa {α:Type} {le:α->α->Prop} {q:α->Bool} (hq:Cut le q) {x:α} {l:List α} (h:(x::l).Pairwise le) (c:¬q x=true):(x::l).filter q=[]:=by
 rw[List.filter_cons_of_neg c]
 exact List.filter_eq_nil_iff.mpr fun y hy z=>c (hq x y ((List.pairwise_cons.mp h).1 y hy) z)
theorem Ct {α:Type} {le:α->α->Prop} {q:α->Bool} (hq:Cut le q):∀ {l:List α} {k:Nat} {x:α},l.Pairwise le->l[k]?=some x->q x=decide (k<cb q l)
 | [],_,_,_,hx=>by cases hx
 | x::l,0,y,h,hx=>by
  cases hx
  by_cases c:q x=true
  ·rw[c,Bx c]
   simp
  ·unfold cb
   rw[Pa hq h c]
   simpa using c
 | x::l,k+1,y,h,hx=>by
  have hx':l[k]?=some y:=by simpa using hx
  by_cases c:q x=true
  ·have i:=Ct hq (List.pairwise_cons.mp h).2 hx'
   rw[i,Bx c]
   simp
  ·have:¬q y=true:=fun z=>c (hq x y ((List.pairwise_cons.mp h).1 y (List.mem_of_getElem? hx')) z)
   unfold cb
   rw[Pa hq h c]
   simpa using this
theorem Et {α:Type} {q:α->Bool} {xs ys:List α} (p:xs.Perm ys):cb q xs=cb q ys:=(p.filter q).length_eq
theorem Fl {α:Type} (q:α->Bool) (xs ys:List α):cb q (xs++ys)=cb q xs+cb q ys:=by
 show ((xs++ys).filter q).length=_
 rw[List.filter_append,List.length_append]
 rfl
theorem Io {α:Type} (q:α->Bool) (xs:List α):cb q xs<=xs.length:=List.length_filter_le _ _
theorem Hl {α:Type} {q r:α->Bool} (h:∀ x,q x=true->r x=true):∀ xs:List α,cb q xs<=cb r xs
 | []=>Nat.le_refl _
 | x::xs=>by
  have i:=Hl h xs
  show ((x::xs).filter q).length<=((x::xs).filter r).length
  by_cases c:q x=true
  ·rw[List.filter_cons_of_pos c,List.filter_cons_of_pos (h x c),List.length_cons,List.length_cons]
   exact Nat.succ_le_succ i
  ·rw[List.filter_cons_of_neg c]
   by_cases d:r x=true
   ·rw[List.filter_cons_of_pos d,List.length_cons]
    exact Nat.le_succ_of_le i
   ·rw[List.filter_cons_of_neg d]
    exact i
abbrev leN:Nam->Nam->Prop:=fun x y=>HT.lexLt y x=false
theorem M6 {x a b:Nam} (h:HT.lexLt x a=true) (h2:HT.lexLt b a=false):HT.lexLt x b=true:=by
 cases c:HT.lexLt x b with
 | true=>rfl
 | false=>
  have:=EvS.E4 h2 c
  rw[h] at this
  cases this
theorem L7 {x a b:Nam} (h:HT.lexLt a x=false) (h2:HT.lexLt a b=true):HT.lexLt x b=true:=by
 cases c:HT.lexLt x b with
 | true=>rfl
 | false=>
  have:=EvS.E4 c h
  rw[h2] at this
  cases this
theorem OK (p:Nam):Cut leN (fun x=>HT.lexLt x p):=fun _ _ h1 h2=>L7 h1 h2
def bel (n s c:Nat):Nat:=cb (fun k=>decide (k<c)) (BS n s)
theorem Yy {n s c d:Nat} (h:c<=d):bel n s c<=bel n s d:=Hl (fun x hx=>decide_eq_true (Nat.lt_of_lt_of_le (of_decide_eq_true hx) h)) _
theorem TU {n s a b k:Nat} (hk:k∈BS n s) (ha:a<=k) (hb:k<b):bel n s a+1<=bel n s b:=by
 have e:(BS n s).filter (fun k=>decide (k<a))=((BS n s).filter (fun k=>decide (k<b))).filter (fun k=>decide (k<a)):=by
  rw[List.filter_filter]
  refine List.filter_congr fun x _=>?_
  by_cases c:x<a
  ·simp[c,show x<b by lia]
  ·simp[c]
 unfold bel cb
 rw[e]
 exact List.length_filter_lt_length_iff_exists.mpr ⟨k,List.mem_filter.mpr ⟨hk,decide_eq_true hb⟩,by simp;exact ha⟩
theorem Nn (n s:Nat) (hs:1<=s):n<=(n+s - 1) / s * s:=by
 have h:=Nat.div_add_mod (n+s - 1) s
 have h2:=Nat.mod_lt (n+s - 1) (show s > 0 by lia)
 rw[Nat.mul_comm] at h
 lia
theorem N0 {n s a:Nat} (hs:1<=s) (hn:0<n) (h:a+(n+s - 1) / s<=n):∃ k∈BS n s,a<=k/\k<a+(n+s - 1) / s:=by
 have hg:=Nn n s hs
 generalize (n+s - 1) / s=g at h hg
 let t:=(a * s+n - 1) / n
 have h1:=Nat.div_add_mod (a * s+n - 1) n
 have h2:=Nat.mod_lt (a * s+n - 1) hn
 have e:n * ((a * s+n - 1) / n)=t * n:=Nat.mul_comm _ _
 rw[e] at h1
 have k0:a<=t * n / s:=(Nat.le_div_iff_mul_le (by lia)).mpr (by lia)
 have k1:t * n / s<a+g:=(Nat.div_lt_iff_lt_mul (by lia)).mpr (by rw[Nat.add_mul];lia)
 have ht:t<s:=by
  refine Nat.lt_of_not_le fun c=>?_
  have:n<=t * n / s:=(Nat.le_div_iff_mul_le (by lia)).mpr (by rw[Nat.mul_comm];exact Nat.mul_le_mul_right n c)
  lia
 exact ⟨t * n / s,List.mem_filter.mpr ⟨List.mem_range.mpr (by lia),decide_eq_true (List.mem_map.mpr ⟨t,List.mem_range.mpr ht,rfl⟩)⟩,k0,k1⟩
theorem MW {n s g:Nat} (hs:1<=s) (hn:0<n) (hg:(n+s - 1) / s<=g):∀ (d a b:Nat),b - a<=d->a<=b->b<=n->b+bel n s a * g<=a+(bel n s b+1) * g
 | 0,a,b,h1,h2,h3=>by
  have e:a=b:=by lia
  subst e
  rw[Nat.add_mul]
  lia
 | d+1,a,b,h1,h2,h3=>by
  have g1:1<=(n+s - 1) / s:=(Nat.le_div_iff_mul_le (by lia)).mpr (by lia)
  have hm:=Nat.mul_le_mul_right g (Yy (n:=n) (s:=s) h2)
  by_cases c:b - a<=(n+s - 1) / s
  ·rw[Nat.add_mul]
   lia
  ·obtain ⟨k,hk,k0,k1⟩:=N0 hs hn (a:=a) (by lia)
   have ih:=MW hs hn hg d (a+(n+s - 1) / s) b (by lia) (by lia) h3
   have hh:=Nat.mul_le_mul_right g (TU hk k0 k1)
   rw[Nat.add_mul] at hh
   lia
theorem VW {n s:Nat} (hn:0<n) (hs:1<=s):0∈BS n s:=List.mem_filter.mpr ⟨List.mem_range.mpr hn,decide_eq_true (List.mem_map.mpr ⟨0,List.mem_range.mpr (by lia),by simp⟩)⟩
theorem Ll {q:Nam->Bool} (hq:Cut leN q) {l:List Nam} (h:Bl l) (s:Nat):cb q (A2 l s)=bel l.length s (cb q l):=by
 unfold A2 bel cb
 rw[List.filter_map,List.length_map]
 congr 1
 refine List.filter_congr fun k hk=>?_
 have hk:=List.mem_range.mp (List.mem_filter.mp hk).1
 show q (l.getD k [])=_
 rw[List.getD_eq_getElem?_getD,List.getElem?_eq_getElem hk]
 exact Ct hq h (List.getElem?_eq_getElem hk)
theorem QF {q r:Nam->Bool} (hq:Cut leN q) (hr:Cut leN r) (hqr:∀ x,q x=true->r x=true) {l:List Nam} (h:Bl l) {s g:Nat} (hs:1<=s) (hg:(l.length+s - 1) / s<=g) :
  cb r l+cb q (A2 l s) * g<=cb q l+(cb r (A2 l s)+1) * g:=by
 cases l with
 | nil=>
  have:A2 [] s=[]:=rfl
  rw[this]
  show 0+0 * g<=0+(0+1) * g
  lia
 | cons x l=>
  rw[Ll hq h,Ll hr h]
  exact MW hs (Nat.zero_lt_succ _) hg _ _ _ (Nat.le_refl _) (Hl hqr _) (Io _ _)
theorem Lu {q r:Nam->Bool} (hq:Cut leN q) (hr:Cut leN r) (hqr:∀ x,q x=true->r x=true) {s g:Nat} (hs:1<=s):∀ (L:List (List Nam)),(∀ l∈L,Bl l/\(l.length+s - 1) / s<=g) ->
  cb r L.flatten+cb q (L.map fun l=>A2 l s).flatten * g<=cb q L.flatten+(cb r (L.map fun l=>A2 l s).flatten+L.length) * g
 | [],_=>by
  show 0+0 * g<=0+(0+0) * g
  lia
 | l::L,h=>by
  have ih:=Lu hq hr hqr hs L fun x hx=>h x (List.mem_cons_of_mem _ hx)
  have i:=QF hq hr hqr (h l List.mem_cons_self).1 hs (h l List.mem_cons_self).2
  rw[List.map_cons,List.flatten_cons,List.flatten_cons,Fl,Fl,Fl,Fl,List.length_cons]
  simp only[Nat.add_mul] at ih i ⊢
  lia
theorem below_at {l:List Nam} (h:Bl l) (hn:l.Nodup) {i:Nat} {p:Nam} (hp:l[i]?=some p):cb (fun x=>HT.lexLt x p) l=i:=by
 have e:=Ct (OK p) h hp
 have e1:¬i<cb (fun x=>HT.lexLt x p) l:=by
  intro z
  rw[decide_eq_true z] at e
  rw[EvS.JH] at e
  cases e
 cases i with
 | zero=>lia
 | succ i=>
  obtain ⟨hi,rfl⟩:=List.getElem?_eq_some_iff.mp hp
  have hx:l[i]?=some l[i]:=List.getElem?_eq_getElem (by lia)
  have e2:=Ct (OK l[i+1]) h hx
  have ne:l[i]≠l[i+1]:=fun z=>by
   have:=(List.pairwise_iff_getElem.mp hn) i (i+1) (by lia) hi (by lia)
   exact this z
  have le:HT.lexLt l[i+1] l[i]=false:=(List.pairwise_iff_getElem.mp h) i (i+1) (by lia) hi (by lia)
  have lt:HT.lexLt l[i] l[i+1]=true:=by
   cases c:HT.lexLt l[i] l[i+1] with
   | true=>rfl
   | false=>exact (ne (EvS.JK le c)).elim
  rw[lt] at e2
  exact Nat.le_antisymm (Nat.le_of_not_lt e1) (of_decide_eq_true e2.symm)
def atP (ps:List Nam) (x:Nam):Nat:=cb (fun p=>!HT.lexLt x p) ps
theorem Sm (ps:List Nam) (x:Nam):atP ps x<=ps.length:=Io _ _
def qc (ps:List Nam) (j:Nat):Nam->Bool:=fun x=>decide (atP ps x<j)
theorem Lz (x:Nam):Cut leN (fun p=>!HT.lexLt x p):=fun a b h1 h2=>by
 show (!HT.lexLt x a)=true
 have h2:(!HT.lexLt x b)=true:=h2
 cases c:HT.lexLt x a with
 | false=>rfl
 | true=>
  rw[M6 c h1] at h2
  cases h2
theorem ON {ps:List Nam} (h:Bl ps) {j:Nat} {p:Nam} (hp:ps[j]?=some p) (x:Nam):qc ps (j+1) x=HT.lexLt x p:=by
 have e:=Ct (Lz x) h hp
 unfold qc atP
 cases c:HT.lexLt x p with
 | true=>
  rw[c] at e
  exact decide_eq_true (Nat.lt_succ_of_le (Nat.le_of_not_lt (of_decide_eq_false e.symm)))
 | false=>
  rw[c] at e
  exact decide_eq_false (Nat.not_lt.mpr (of_decide_eq_true e.symm))
theorem Nl {ps:List Nam} {j:Nat} (hp:ps.length<j) (x:Nam):qc ps j x=true:=decide_eq_true (by have:=Sm ps x;lia)
theorem Ki (ps:List Nam) (x:Nam):qc ps 0 x=false:=decide_eq_false (Nat.not_lt_zero _)
theorem Tu {ps:List Nam} {j:Nat} (x:Nam) (h:qc ps j x=true):qc ps (j+1) x=true:=decide_eq_true (Nat.lt_succ_of_lt (of_decide_eq_true h))
theorem Of {ps:List Nam} (h:Bl ps):∀ j,Cut leN (qc ps j)
 | 0=>fun x y _ z=>by rw[Ki] at z;cases z
 | j+1=>by
  cases c:ps[j]? with
  | none=>exact fun x y _ _=>Nl (by have:=List.getElem?_eq_none_iff.mp c;lia) x
  | some p=>
   intro x y h1 h2
   rw[ON h c] at h2 ⊢
   exact L7 h1 h2
def cnt (ps:List Nam) (j:Nat) (l:List Nam):Nat:=cb (fun x=>decide (atP ps x=j)) l
theorem Pc (ps:List Nam) (j:Nat):∀ l:List Nam,cb (qc ps (j+1)) l=cb (qc ps j) l+cnt ps j l
 | []=>rfl
 | x::l=>by
  have i:=Pc ps j l
  show ((x::l).filter (qc ps (j+1))).length=((x::l).filter (qc ps j)).length+((x::l).filter fun x=>decide (atP ps x=j)).length
  have i':(l.filter (qc ps (j+1))).length=(l.filter (qc ps j)).length+(l.filter fun x=>decide (atP ps x=j)).length:=i
  rw[List.filter_cons,List.filter_cons,List.filter_cons]
  unfold qc at i' ⊢
  by_cases c:atP ps x<j
  ·rw[if_pos (decide_eq_true (by lia)),if_pos (decide_eq_true c),if_neg (by simp;lia),List.length_cons,List.length_cons]
   lia
  ·by_cases d:atP ps x=j
   ·rw[if_pos (decide_eq_true (by lia)),if_neg (by simpa using c),if_pos (decide_eq_true d),List.length_cons,List.length_cons]
    lia
   ·rw[if_neg (by simp;lia),if_neg (by simpa using c),if_neg (by simpa using d)]
    lia
theorem YQ {l:List Nam} {p j:Nat} (hl:l≠[]) (hj:j<p - 1):(BD l p)[j]?=some (l.getD ((j+1) * l.length / p) []):=by
 unfold BD
 rw[if_neg hl,List.getElem?_map,List.getElem?_range hj]
 rfl
theorem M5 {l:List Nam} {p:Nat} (hl:l≠[]):(BD l p).length=p - 1:=by
 unfold BD
 rw[if_neg hl,List.length_map,List.length_range]
theorem Jf {l:List Nam} (h:Bl l) (p:Nat):Bl (BD l p):=by
 unfold BD
 split
 ·exact List.Pairwise.nil
 ·rename_i c
  have hl:0<l.length:=List.length_pos_iff.mpr c
  refine List.pairwise_map.mpr (List.Pairwise.imp_of_mem (fun {a b} ha hb hab=>?_) List.pairwise_lt_range)
  have ka:=Eb (p:=p) hl (List.mem_range.mp ha)
  have kb:=Eb (p:=p) hl (List.mem_range.mp hb)
  have le:(a+1) * l.length / p<=(b+1) * l.length / p:=Nat.div_le_div_right (Nat.mul_le_mul_right _ (by lia))
  rw[List.getD_eq_getElem?_getD,List.getD_eq_getElem?_getD,List.getElem?_eq_getElem ka,List.getElem?_eq_getElem kb]
  show HT.lexLt _ _=false
  rcases Nat.lt_or_eq_of_le le with z | z
  ·exact (List.pairwise_iff_getElem.mp h) _ _ ka kb z
  ·simp only[z,Option.getD_some]
   exact EvS.JH _
theorem Oe {l:List Nam} (h:Bl l) (hn:l.Nodup) (hl:l≠[]) {p:Nat} (hp:1<=p) {j:Nat} (hj:j<=p):cb (qc (BD l p) j) l=j * l.length / p:=by
 have h0:0<l.length:=List.length_pos_iff.mpr hl
 cases j with
 | zero=>
  have:l.filter (qc (BD l p) 0)=[]:=List.filter_eq_nil_iff.mpr fun x _ z=>by rw[Ki] at z;cases z
  show (l.filter (qc (BD l p) 0)).length=_
  rw[this]
  simp
 | succ j=>
  by_cases c:j<p - 1
  ·have e:=YQ hl c
   have:l.filter (qc (BD l p) (j+1))=l.filter (fun x=>HT.lexLt x (l.getD ((j+1) * l.length / p) [])):=List.filter_congr fun x _=>ON (Jf h p) e x
   show (l.filter (qc (BD l p) (j+1))).length=_
   rw[this]
   have hk:=Eb (p:=p) h0 c
   refine below_at h hn ?_
   rw[List.getD_eq_getElem?_getD,List.getElem?_eq_getElem hk]
   rfl
  ·have:l.filter (qc (BD l p) (j+1))=l:=List.filter_eq_self.mpr fun x _=>Nl (by rw[M5 hl];lia) x
   show (l.filter (qc (BD l p) (j+1))).length=_
   rw[this,show j+1=p by lia,Nat.mul_div_cancel_left _ (by lia)]
theorem Wx (x m p:Nat) (hp:1<=p):(x+m) / p<=x / p+(m+p - 1) / p:=by
 have h1:=Nat.div_add_mod x p
 have h2:=Nat.mod_lt x (show p > 0 by lia)
 have h3:=Nn m p hp
 rw[Nat.mul_comm] at h1
 refine Nat.le_of_lt_succ ((Nat.div_lt_iff_lt_mul (by lia)).mpr ?_)
 rw[Nat.succ_mul,Nat.add_mul]
 lia
theorem Ek:∀ (h:Int) (rs:List (List Th)) (s:Nat),Ac h rs s=((AQ h rs).map fun l=>A2 l s).flatten
 | _,[],_=>rfl
 | h,r::rs,s=>by
  unfold Ac AQ
  rw[Ek (h+1) rs s,List.map_cons,List.flatten_cons]
theorem LK:∀ {h:Int} {rs:List (List Th)} {l:List Nam},l∈AQ h rs->Bl l
 | _,[],_,e=>by cases e
 | h,r::rs,l,e=>by
  unfold AQ at e
  rcases List.mem_cons.mp e with rfl | e
  ·exact By _
  ·exact LK e
theorem GD:∀ (h:Int) (rs:List (List Th)),(AQ h rs).length=rs.length
 | _,[]=>rfl
 | h,r::rs=>by
  unfold AQ
  rw[List.length_cons,List.length_cons,GD (h+1) rs]
theorem Mo:∀ (h:Int) (rs:List (List Th)),(AQ h rs).map List.length=rs.map List.length
 | _,[]=>rfl
 | h,r::rs=>by
  unfold AQ
  rw[List.map_cons,List.map_cons,Mo (h+1) rs,(Av _).length_eq,DN]
theorem YT {l:List Nam} {s:Nat} (hs:1<=s) (h:A2 l s=[]):l=[]:=by
 cases l with
 | nil=>rfl
 | cons x l=>
  have:=VW (n:=(x::l).length) (Nat.zero_lt_succ _) hs
  unfold A2 at h
  rw[List.map_eq_nil_iff] at h
  rw[h] at this
  cases this
theorem W0 (l:List Nam) (s:Nat):(A2 l s).Sublist l:=by
 unfold A2
 have e:l=(List.range l.length).map fun k=>l.getD k []:=by
  refine List.ext_getElem? fun i=>?_
  rw[List.getElem?_map]
  by_cases c:i<l.length
  ·rw[List.getElem?_range c,Option.map_some,List.getD_eq_getElem?_getD,List.getElem?_eq_getElem c]
   rfl
  ·rw[List.getElem?_eq_none (by lia),List.getElem?_eq_none (by simp;lia)]
   rfl
 have h:(BS l.length s).Sublist (List.range l.length):=List.filter_sublist
 have:=h.map fun k=>l.getD k []
 rw[<-e] at this
 exact this
theorem Rt (rs:List (List Th)) (s:Nat):(Ac 0 rs s).Nodup:=by
 have go:∀ L:List (List Nam),((L.map fun l=>A2 l s).flatten).Sublist L.flatten:=by
  intro L
  induction L with
  | nil=>exact List.Sublist.refl _
  | cons l L ih=>
   rw[List.map_cons,List.flatten_cons,List.flatten_cons]
   exact (W0 l s).append ih
 rw[Ek]
 exact (go _).nodup (VJ rs)
theorem On (rs:List (List Th)) (s:Nat):(AO (Ac 0 rs s)).Nodup:=(Av _).nodup_iff.mpr (Rt rs s)
theorem ZE {rs:List (List Th)} {s:Nat} (hs:1<=s) (h:AO (Ac 0 rs s)=[]):AM 0 rs=[]:=by
 have e:Ac 0 rs s=[]:=by
  have:=(Av (Ac 0 rs s)).length_eq
  rw[h] at this
  exact List.eq_nil_of_length_eq_zero this.symm
 rw[Ek] at e
 have:(AQ 0 rs).flatten=[]:=by
  rw[List.flatten_eq_nil_iff] at e ⊢
  intro l hl
  exact YT hs (e _ (List.mem_map.mpr ⟨l,hl,rfl⟩))
 have p:=DP 0 rs
 rw[this] at p
 exact p.nil_eq.symm
theorem XD {rs:List (List Th)} {s g:Nat} (hs:1<=s) (hp:1<=rs.length) (hg:∀ r∈rs,(r.length+s - 1) / s<=g) {j:Nat} (hj:j<rs.length) :
  cnt (A6 rs s) j (AM 0 rs)<=(((Ac 0 rs s).length+rs.length - 1) / rs.length+rs.length) * g:=by
 have hS:=By (Ac 0 rs s)
 have hps:Bl (A6 rs s):=Jf hS _
 by_cases c:AO (Ac 0 rs s)=[]
 ·rw[ZE hs c]
  exact Nat.zero_le _
 ·have e1:=Oe hS (On rs s) c hp (j:=j) (by lia)
  have e2:=Oe hS (On rs s) c hp (j:=j+1) (by lia)
  have i:=Lu (Of hps j) (Of hps (j+1)) Tu hs (g:=g) (AQ 0 rs) fun l hl=>⟨LK hl,by
   have:l.length∈rs.map List.length:=by rw[<-Mo 0 rs];exact List.mem_map.mpr ⟨l,hl,rfl⟩
   obtain ⟨r,hr,e⟩:=List.mem_map.mp this
   rw[<-e]
   exact hg r hr⟩
  rw[<-Ek,GD,Et (DP 0 rs),Et (DP 0 rs),<-Et (Av (Ac 0 rs s)),<-Et (Av (Ac 0 rs s)),Pc] at i
  unfold A6 at i ⊢
  rw[e1,e2] at i
  have d:=Wx (j * (AO (Ac 0 rs s)).length) (AO (Ac 0 rs s)).length rs.length hp
  rw[<-Nat.succ_mul] at d
  rw[<-(Av (Ac 0 rs s)).length_eq]
  have d2:=Nat.mul_le_mul_right g d
  simp only[Nat.succ_eq_add_one] at d d2
  generalize (j+1) * (AO (Ac 0 rs s)).length / rs.length=B at i d d2
  generalize j * (AO (Ac 0 rs s)).length / rs.length=A at i d d2
  generalize ((AO (Ac 0 rs s)).length+rs.length - 1) / rs.length=C at i d d2 ⊢
  rw[Nat.add_mul] at i d2 ⊢
  lia
def HU:MD:=mFn 2 Jl
theorem Qo {Γ:Gm} {a b:Int} (h0:0<b) (h1:b<1000):HU [.v (.int a),.v (.int b)] Γ=some (.int ((a+b - 1) / b),Γ):=by
 have tk:Γ.take Γ.length=Γ:=List.take_length
 have hb:∀ x,EN x b=true:=fun x=>decide_eq_true ⟨h0,by lia⟩
 simp[HU,Jl,hb,tk]
theorem JA {e:ME} {τ:List (Option SV)} {Γ:Gm} {g:Int->Int}:∀ (ns:List Int) (v:Option SV),(∀ n∈ns,e ⟨some (.v (.int n))::τ,Γ,Γ.length⟩=some (.v (.int (g n)),⟨some (.v (.int n))::τ,Γ,Γ.length⟩))->Au (AZ 0) mTT e (ns.map .int) (v::τ) Γ=some ((ns.map g).map .int,Γ)
 | [],v,_=>rfl
 | n::ns,v,h=>by
  have ih:=JA ns (some (.v (.int n))) fun m hm=>h m (List.mem_cons_of_mem _ hm)
  have h1:=h n List.mem_cons_self
  show Au _ _ _ (.int n::ns.map .int) _ _=_
  unfold Au
  simp[h1,ih]
theorem Fh:∀ ns:List Int,intsOf (ns.map .int)=some ns
 | []=>rfl
 | n::ns=>by
  have:=Fh ns
  simp[intsOf,this]
def rup (s n:Int):Int:=(n+s - 1) / s
def mn (s n:Int):Int:=if s<n then s else n
def bnd (ns:List Int) (s:Int):Int:=(((ns.map (mn s)).sum+ns.length - 1) / ns.length+ns.length) * BA (ns.map (rup s))
theorem Ko {s n:Int} (h0:1<=s) (h1:s<=8) (hn:0<=n):0<=rup s n/\rup s n<=n:=by
 unfold rup
 have:s=1\/s=2\/s=3\/s=4\/s=5\/s=6\/s=7\/s=8:=by lia
 rcases this with rfl | rfl | rfl | rfl | rfl | rfl | rfl | rfl<;>lia
theorem WN {ns:List Int} {s:Int} (h0:1<=s) (h1:s<=8) (hne:ns≠[]) (hn:∀ n∈ns,0<=n/\n<=2000):0<=BA (ns.map (rup s))/\BA (ns.map (rup s))<=2000:=by
 obtain ⟨m1,m2⟩:=E8 (ns:=ns.map (rup s)) (by simpa using hne)
 obtain ⟨n,hm,e⟩:=List.mem_map.mp m1
 rw[<-e]
 have:=hn n hm
 have:=Ko h0 h1 this.1
 lia
def GO:MD:=mFn 5 (HX Mask HU)
theorem ZK {Mc Mr:MD} (Fc:∀ {Γ:Gm} {i:Int},1<=i/\i<=8->Mc [.v (.int i)] Γ=some (.non,Γ)) (Fr:∀ {Γ:Gm} {a b:Int},0<b->b<1000->Mr [.v (.int a),.v (.int b)] Γ=some (.int ((a+b - 1) / b),Γ)) {ns:List Int} {s:Int} {Γ:Gm} (h0:1<=s) (h1:s<=8) (hne:ns≠[]) (hl:ns.length<=6) (hn:∀ n∈ns,0<=n/\n<=2000):mFn 5 (HX Mc Mr) [.v (.lst (ns.map .int)),.v (.int s)] Γ=some (.int (bnd ns s),Γ):=by
 have tk:Γ.take Γ.length=Γ:=List.take_length
 have hlb:ns.length<=big:=by unfold big;lia
 have hp:0<ns.length:=List.length_pos_iff.mpr hne
 have e1:=JA (e:=Ab Mr (AB (AA 0) (AB (AA 1) AC))) (τ:=[some (.v (.int s))]) (Γ:=Γ) (g:=rup s) ns none fun n _=>EL (x:=.v (.int n)) (y:=.v (.int s)) (s1:=⟨[some (.v (.int n)),some (.v (.int s))],Γ,Γ.length⟩) (s2:=⟨[some (.v (.int n)),some (.v (.int s))],Γ,Γ.length⟩) rfl rfl (Fr (by lia) (by lia))
 have e2:=JA (e:=AN C6 (AB (AA 0) (AB (AA 1) AC))) (τ:=[some (.v (.int s))]) (Γ:=Γ) (g:=mn s) ns none fun n _=>rfl
 have hne2:ns.map (rup s)≠[]:=by simpa using hne
 obtain ⟨x0,x1⟩:=WN h0 h1 hne hn
 have hm:∀ x,CF x (BA (ns.map (rup s)))=true:=fun x=>decide_eq_true (.inr ⟨by lia,by lia⟩)
 let S:List (Option SV)->DS:=fun τ=>⟨some (.v (.lst (ns.map .int)))::some (.v (.int s))::τ,Γ,Γ.length⟩
 have g1:BR (Ab Mc (AB (AA 1) AC)) (S [none,none,none])=some (.nx (S [none,none,none])):=by
  unfold BR
  rw[DQ (x:=.v (.int s)) (s':=S [none,none,none]) rfl (Fc ⟨h0,h1⟩)]
  rfl
 have g2:AS 2 (AN Ad (AB (AA 0) AC)) (S [none,none,none])=some (.nx (S [some (.v (.int ns.length)),none,none])):=
  BJ (Bg (x:=.v (.lst (ns.map .int))) (s':=S [none,none,none]) rfl (by show some (D.int ((ns.map D.int).length:Nat))=_;rw[List.length_map]))
 have g3:AS 3 (AN DZ (AB (AH (Aw (Ax (AA 0)) 1 [1] (AZ 0) mTT (Ab Mr (AB (AA 0) (AB (AA 1) AC))))) AC)) (S [some (.v (.int ns.length)),none,none])=some (.nx (S [some (.v (.int ns.length)),some (.v (.int (BA (ns.map (rup s))))),none])):=
  BJ (Bg (Ay (B0 (mi:=Ax (AA 0)) (nt:=1) (ix:=[1]) (items:=ns.map .int) (s':=S [some (.v (.int ns.length)),none,none]) rfl (by rw[List.length_map];exact hlb) e1)) (by
   show ((intsOf ((ns.map (rup s)).map D.int)).bind fun ns=>if ns=[] then none else some (D.int (BA ns)))=_
   rw[Fh,Option.bind_some,if_neg hne2]))
 have g4:AS 4 (AN Dl (AB (AH (Aw (Ax (AA 0)) 1 [1] (AZ 0) mTT (AN C6 (AB (AA 0) (AB (AA 1) AC))))) AC)) (S [some (.v (.int ns.length)),some (.v (.int (BA (ns.map (rup s))))),none])=some (.nx (S [some (.v (.int ns.length)),some (.v (.int (BA (ns.map (rup s))))),some (.v (.int (ns.map (mn s)).sum))])):=
  BJ (Bg (Ay (B0 (mi:=Ax (AA 0)) (nt:=1) (ix:=[1]) (items:=ns.map .int) (s':=S [some (.v (.int ns.length)),some (.v (.int (BA (ns.map (rup s))))),none]) rfl (by rw[List.length_map];exact hlb) e2)) (by
   show ((intsOf ((ns.map (mn s)).map D.int)).map fun ns=>D.int ns.sum)=_
   rw[Fh];rfl))
 have g5:Bb (mOp BI (mOp BG (Ab Mr (AB (AA 4) (AB (AA 2) AC))) (AA 2)) (AA 3)) (S [some (.v (.int ns.length)),some (.v (.int (BA (ns.map (rup s))))),some (.v (.int (ns.map (mn s)).sum))])=some (.rt (.int (bnd ns s)) (S [some (.v (.int ns.length)),some (.v (.int (BA (ns.map (rup s))))),some (.v (.int (ns.map (mn s)).sum))])):=by
  let S5:=S [some (.v (.int ns.length)),some (.v (.int (BA (ns.map (rup s))))),some (.v (.int (ns.map (mn s)).sum))]
  have a1:Ab Mr (AB (AA 4) (AB (AA 2) AC)) S5=some (.v (.int (((ns.map (mn s)).sum+ns.length - 1) / ns.length)),S5):=EL (x:=.v (.int (ns.map (mn s)).sum)) (y:=.v (.int ns.length)) (s1:=S5) (s2:=S5) rfl rfl (Fr (by lia) (by lia))
  refine Lr (Ak (Ak a1 (y:=.v (.int ns.length)) (s2:=S5) rfl rfl) (y:=.v (.int (BA (ns.map (rup s))))) (s2:=S5) rfl ?_)
  show (if CF _ _=true then _ else _)=_
  rw[hm,if_pos rfl]
  rfl
 unfold mFn HX
 show (AI _ _ (S [none,none,none])).bind _=_
 rw[Aa g1,Aa g2,Aa g3,Aa g4,g5]
 show some (_,Γ.take Γ.length)=_
 rw[tk]
theorem Q3 {ns:List Int} {s:Int} {Γ:Gm} (h0:1<=s) (h1:s<=8) (hne:ns≠[]) (hl:ns.length<=6) (hn:∀ n∈ns,0<=n/\n<=2000):GO [.v (.lst (ns.map .int)),.v (.int s)] Γ=some (.int (bnd ns s),Γ):=ZK Og Qo h0 h1 hne hl hn
def Mnp:MDF:=AU 4 (HY Ej)
theorem SZ {Mn:MDF} {rs:List (List Th)} {Γ:Gm} (hm:∀ {Γ:Gm} {ts:List Th} {h:Int},ts.length<=big->Mn [.v (AK ts),.v (.int h)] Γ=some ((AO (Af h 0 ts)).map tupI,Γ)) (hz:total rs<=100000):AU 4 (HY Mn) [.v (AF rs)] Γ=some ((AO (AM 0 rs)).map tupI,Γ):=by
 let S0:DS:=⟨[some (.v (AF rs)),none,none,none],Γ,Γ.length⟩
 let S:List Nam->Option SV->Option SV->DS:=fun xs v w=>⟨[some (.v (AF rs)),some (.b Γ.length),v,w],Γ++[some (xs.map tupI)],Γ.length⟩
 have g2:BB 1 (Ap AC) S0=some (.nx (S [] none none)):=by simp[S,S0,show (0:Nat)<=big from Nat.zero_le _]
 have q:Cp (AB (AA 0) AC) (S [] none none)=some (Bc 0 (rs.map AK),S [] none none):=rfl
 obtain ⟨s',e1,v',w',rfl⟩:=Ck (g:=BX [2,3]) (b:=LU Mn) (items:=Bc 0 (rs.map AK)) (fun i st=>∃ v w,st=S (Bu 0 (rs.take i)) v w) (by
   rintro i d st hd ⟨v,w,rfl⟩
   obtain ⟨x,hx,rfl⟩:=E3 0 _ i d hd
   obtain ⟨r,hr,rfl⟩:=Cu hx
   have hrt:=Fo (List.mem_of_getElem? hr)
   let T:DS:=S (Bu 0 (rs.take i)) (some (.v (.int (0+i)))) (some (.v (AK r)))
   have hb:r.length<=big:=by rw[BL];lia
   have w1:AH (AX Mn (AB (AA 3) (AB (AA 2) AC))) T=some (.v (.lst ((AO (Af (0+(i:Int)) 0 r)).map tupI)),T):=Ay (Br (x:=.v (AK r)) (y:=.v (.int (0+i))) (s1:=T) (s2:=T) rfl rfl (hm hb))
   have hlen:=YS 0 (rs.take (i+1))
   have htt:=Ls rs (i+1)
   have et:=LS 0 rs i r hr
   have hl:((Bu 0 (rs.take i)).map tupI).length+((AO (Af (0+(i:Int)) 0 r)).map tupI).length<=big:=by
    rw[et,List.length_append] at hlen
    rw[List.length_map,List.length_map,BL]
    lia
   refine ⟨T,_,rfl,MP (n:=Γ.length) (s:=T) (s':=T) rfl Cc w1 Cc hl,some (.v (.int (0+i))),some (.v (AK r)),?_⟩
   show (⟨_,(Γ++[_]).set Γ.length _,_⟩:DS)=_
   rw[EZ,et,<-List.map_append])
  (s:=S [] none none) ⟨none,none,rfl⟩
 rw[FJ,List.take_length] at e1
 have hs:=Jg (Γ:=Γ++[some ((Bu 0 rs).map tupI)]) (x:=.b Γ.length) (nss:=Bu 0 rs) (fun ns hn=>Il ns ((HV 0 rs).mem_iff.mp hn)) (by simp)
 rw[WJ (HV 0 rs)] at hs
 have q3:A3 BH (AB (AA 1) AC) (S (Bu 0 rs) v' w')=some ((AO (AM 0 rs)).map tupI,S (Bu 0 rs) v' w'):=by
  unfold A3
  show (BH (Γ++[some ((Bu 0 rs).map tupI)]) [.b Γ.length]).map _=_
  rw[hs]
  rfl
 unfold AU HY
 show (AI _ _ S0).bind _=_
 rw[Aa g2,Aa (D6 q e1)]
 unfold Ah
 rw[q3]
 show some (_,(Γ++[_]).take Γ.length)=_
 rw[J8]
theorem Q1 {rs:List (List Th)} {Γ:Gm} (hz:total rs<=100000):Mnp [.v (AF rs)] Γ=some ((AO (AM 0 rs)).map tupI,Γ):=SZ IC hz
theorem Ij {m:MF} {S S':DS} {xs:List D} (h:m S=some (xs,S')):Ax (AH m) S=some (xs,S'):=by
 unfold Ax
 rw[Ay h]
 rfl
def Mpl:MDF:=AU 1 (GA Mnp)
theorem Wi {Mn:MDF} {rs:List (List Th)} {Γ:Gm} (hn:∀ {Γ:Gm},Mn [.v (AF rs)] Γ=some ((AO (AM 0 rs)).map tupI,Γ)) (hz:total rs<=100000):AU 1 (GA Mn) [.v (AF rs)] Γ=some ((plainT rs).map thD,Γ):=by
 have tk:Γ.take Γ.length=Γ:=List.take_length
 let S:DS:=⟨[some (.v (AF rs))],Γ,Γ.length⟩
 have w:=Ij (EH (M:=Mn) (m:=AA 0) (x:=.v (AF rs)) (s:=S) (s':=S) rfl hn)
 unfold AU GA
 show (Ah _ S).bind _=_
 unfold Ah
 rw[B0 (nt:=3) (ix:=[0]) w (by rw[List.length_map,Ed,BL];lia) Qq]
 show some (_,Γ.take Γ.length)=_
 rw[tk]
theorem WI {rs:List (List Th)} {Γ:Gm} (hz:total rs<=100000):Mpl [.v (AF rs)] Γ=some ((plainT rs).map thD,Γ):=Wi (fun {Γ}=>Q1 hz) hz
theorem UH {n s:Nat} (hs:1<=s) (h:n<=s):BS n s=List.range n:=by
 unfold BS
 refine List.filter_eq_self.mpr fun k hk=>?_
 have hk:=List.mem_range.mp hk
 have e:(n+s - 1) / s=1:=Nat.div_eq_of_lt_le (by lia) (by lia)
 obtain ⟨k',h1,h2,h3⟩:=N0 hs (a:=k) (show 0<n by lia) (by lia)
 rw[e] at h3
 have:k'=k:=by lia
 subst this
 exact (List.mem_filter.mp h1).2
theorem UV {n s:Nat} (hs:1<=s):(BS n s).length=min n s:=by
 by_cases c:n<=s
 ·rw[UH hs c,List.length_range]
  lia
 ·have pw:((List.range s).map fun t=>t * n / s).Pairwise (·<·):=by
   refine List.pairwise_map.mpr (List.Pairwise.imp (fun {a b} h=>?_) List.pairwise_lt_range)
   have h1:(a * n+s) / s<=b * n / s:=Nat.div_le_div_right (by
    have:=Nat.mul_le_mul_right n (show a+1<=b by lia)
    rw[Nat.add_mul] at this
    lia)
   rw[Nat.add_div_right _ (by lia)] at h1
   lia
  have p:(BS n s).Perm ((List.range s).map fun t=>t * n / s):=by
   refine (List.perm_ext_iff_of_nodup ((List.nodup_range (n:=n)).filter _) (pw.imp fun h=>Nat.ne_of_lt h)).mpr fun k=>?_
   rw[List.mem_filter,List.mem_range,List.mem_map,decide_eq_true_iff]
   constructor
   ·rintro ⟨_,h⟩
    obtain ⟨t,ht,e⟩:=List.mem_map.mp h
    exact ⟨t,ht,by lia⟩
   ·rintro ⟨t,ht,rfl⟩
    have hm:(((t * n / s:Nat):Int))∈CM n s:=List.mem_map.mpr ⟨t,ht,rfl⟩
    have:=N8 (by lia) hm
    exact ⟨by lia,hm⟩
  rw[p.length_eq,List.length_map,List.length_range]
  lia
theorem WZ {l:List Nam} {s:Nat} (hs:1<=s):(A2 l s).length=min l.length s:=by
 unfold A2
 rw[List.length_map,UV hs]
theorem K8 {s:Nat} (hs:1<=s):∀ (h:Int) (rs:List (List Th)),(Ac h rs s).length=(rs.map fun r=>min r.length s).sum
 | _,[]=>rfl
 | h,r::rs=>by
  unfold Ac
  rw[List.length_append,K8 hs (h+1) rs,WZ hs,(Av _).length_eq,DN,List.map_cons,List.sum_cons]
def szI (rs:List (List Th)):List Int:=rs.map fun r=>(r.length:Int)
theorem NK {s:Nat}:∀ (rs:List (List Th)),((szI rs).map (mn (s:Int))).sum=(((rs.map fun r=>min r.length s).sum:Nat):Int)
 | []=>rfl
 | r::rs=>by
  have i:=NK (s:=s) rs
  unfold szI at i ⊢
  rw[List.map_cons,List.map_cons,List.sum_cons,i,List.map_cons,List.sum_cons]
  unfold mn
  split<;>lia
theorem Qr {rs:List (List Th)} {s:Nat} (hs:1<=s) (h8:s<=8) (hp:1<=rs.length) {j:Nat} (hj:j<rs.length):((cnt (A6 rs s) j (AM 0 rs):Nat):Int)<=bnd (szI rs) s:=by
 have hne:szI rs≠[]:=fun e=>by
  have:=congrArg List.length e
  unfold szI at this
  rw[List.length_map] at this
  have:rs.length=0:=this
  lia
 obtain ⟨m1,m2⟩:=E8 (ns:=(szI rs).map (rup s)) (by simpa using hne)
 obtain ⟨n,hn,e⟩:=List.mem_map.mp m1
 have hn0:0<=n:=by
  obtain ⟨r,_,rfl⟩:=List.mem_map.mp hn
  lia
 have g0:=(Ko (s:=s) (by lia) (by lia) hn0).1
 rw[e] at g0
 have hg:∀ r∈rs,(r.length+s - 1) / s<=(BA ((szI rs).map (rup s))).toNat:=fun r hr=>by
  have h:=m2 (rup s r.length) (List.mem_map.mpr ⟨(r.length:Int),List.mem_map.mpr ⟨r,hr,rfl⟩,rfl⟩)
  unfold rup at h
  rw[show ((r.length:Int)+(s:Int) - 1)=((r.length+s - 1:Nat):Int) by lia,<-Int.natCast_ediv] at h
  unfold rup
  lia
 have i:=XD hs hp hg hj
 rw[K8 hs] at i
 unfold bnd
 rw[NK,show (szI rs).length=rs.length from List.length_map _]
 generalize (rs.map fun r=>min r.length s).sum=m at i ⊢
 rw[show ((m:Int)+(rs.length:Int) - 1)=((m+rs.length - 1:Nat):Int) by lia,<-Int.natCast_ediv,<-Int.natCast_add]
 generalize (m+rs.length - 1) / rs.length+rs.length=A at i ⊢
 generalize BA ((szI rs).map (rup s))=G at i g0 ⊢
 have:(A:Int) * G=((A * G.toNat:Nat):Int):=by rw[Int.natCast_mul,Int.toNat_of_nonneg g0]
 rw[this]
 exact Int.ofNat_le.mpr i
theorem Tb {mo mi me:ME} {s s1 s2 s3:DS} {n:Nat} {k c d:Int} {xs ws:List D} {j:Nat} (h1:mo s=some (.b n,s1)) (h2:mi s1=some (.v (.int k),s2)) (h3:s2.Γ[n]?=some (some xs)) (h4:atI xs k=some (.int c)) (h5:me s2=some (.v (.int d),s3)) (h6:s3.Γ[n]?=some (some ws)) (h7:ixN ws.length k=some j) :
  Ex mo mi me s=some (.nx {s3 with Γ:=s3.Γ.set n (some (ws.set j (.int (c+d))))}):=by
 unfold Ex
 rw[h1]
 show (mi s1).bind _=_
 rw[h2]
 simp only[Option.bind_some]
 rw[h3]
 simp only[]
 rw[h4]
 simp only[]
 rw[h5]
 simp only[Option.bind_some]
 rw[h6]
 simp only[]
 rw[h7]
 rfl
theorem YY {n k:Nat} (h:k<n):ixN n (k:Int)=some k:=by
 unfold ixN
 rw[if_pos (by lia),if_pos (by lia)]
 rfl
theorem UE {Γ:Gm} {x p:Nam}:BN Γ (.v (tupI x)) (.v (tupI p))=some (.bl (HT.lexLt x p)):=by simp[tupI,HM]
theorem HS {rs:List (List Th)} {S:DS} {i:Nat} (h:AA i S=some (.v (AF rs),S)):AN Ad (AB (AA i) AC) S=some (.v (.int rs.length),S):=Bg (s':=S) (x:=.v (AF rs)) h (by show some (D.int ((rs.map AK).length:Nat))=_;rw[List.length_map])
theorem Ke {m:ME} {S S':DS} {d:D} (h:m S=some (.v d,S')):AH (Ap (AB m AC)) S=some (.v (.lst [d]),S'):=by
 unfold AH Ap AB AC
 rw[h]
 simp[trees,show (1:Nat)<=big by decide]
theorem Pq {m c:ME} {S S1 S2:DS} {d:D} {n:Nat} (h:m S=some (.v d,S1)) (hc:c S1=some (.v (.int n),S2)) (hn:n<=1000):CV DY (AH (Ap (AB m AC))) c S=some (List.replicate n d,S2):=by
 refine O7 (Ke h) hc ?_
 show (if (n:Int)<=100000/\-100000<=(n:Int)/\([d]:List D).length * ((n:Int)).toNat<=big then some (List.replicate ((n:Int)).toNat [d]).flatten else none)=_
 rw[if_pos ⟨by lia,by lia,by rw[Int.toNat_natCast,BL];simp;lia⟩,Int.toNat_natCast]
 simp
theorem Ye {rs:List (List Th)} {i:Nat} {S:DS} (h:AA i S=some (.v (AF rs),S)) (hn:rs.length<=1000):AH (Aw (Ax (AA i)) 1 [] (AZ 0) mTT (AN Ad (AB (AA 0) AC))) S=some (.v (.lst ((szI rs).map .int)),S):=by
 have q:Ax (AA i) S=some (rs.map AK,S):=by
  unfold Ax
  rw[h]
  rfl
 have e:Au (AZ 0) mTT (AN Ad (AB (AA 0) AC)) (rs.map AK) [none] S.Γ=some (rs.map (fun r=>D.int (r.length:Int)),S.Γ):=
  EI (f:=AK) (G:=fun r=>D.int (r.length:Int)) (tl:=[]) (Γ:=S.Γ) rs (fun r _=>Bg (s':=⟨[some (.v (AK r))],S.Γ,S.Γ.length⟩) (x:=.v (AK r)) rfl (by show some (D.int ((r.map thD).length:Nat))=_;rw[List.length_map])) none
 rw[Ay (B0 (nt:=1) (ix:=[]) q (by rw[List.length_map,BL];lia) e)]
 unfold szI
 rw[List.map_map]
 rfl
theorem Xz {m:ME} {S S':DS} {ns:List Int} {x:SV} (h:m S=some (x,S')) (hx:elems S'.Γ x=some (ns.map .int)) (hne:ns≠[]):AN DZ (AB m AC) S=some (.v (.int (BA ns)),S'):=by
 refine Bg h ?_
 unfold DZ
 simp only[hx,Option.bind_some,Fh,if_neg hne]
theorem gt_int {Γ:Gm} {i j:Int}:ZP Γ (.v (.int i)) (.v (.int j))=some (.bl (decide (i > j))):=rfl
structure Drw (Mc:MD) (Md:MDF) (Mn:MD) (Mr:MDF):Prop where
 cell:∀ {Γ:Gm} {ns:List Int} {k:Nat},∃ c:Int,Mc [.v (.scr ns),.v (.int k)] Γ=some (.int c,Γ)
 deck:∀ {Γ:Gm} {c:Int},∃ l:List Int,Md [.v (.int c),.v (.int 90)] Γ=some (l.map .int,Γ)/\DkL l
 next:∀ {Γ:Gm} {n:Nat},Dk Γ n->∃ r Γ',Mn [.b n] Γ=some (.int r,Γ')/\0<=r/\r<2 ^ 30/\Dd n Γ Γ'
 rows:∀ {n:Nat} {Γ:Gm},Dk Γ n->∃ (rs:List (List Th)) (Γ':Gm),Mr [.b n] Γ=some (rs.map AK,Γ')/\1<=rs.length/\rs.length<=6/\(∀ r∈rs,r.length<=200/\TgR r)/\Dd n Γ Γ'
theorem drw:Drw Da EM DK Ep:=⟨Xb,Yf,Ka,XZ⟩
theorem NR {i:Nat} {m:MF} {s s':DS} {xs:List D} (h:m s=some (xs,s')):BB i m s=some (.nx ⟨s'.σ.set i (some (.b s'.Γ.length)),s'.Γ++[some xs],s'.lo⟩):=by unfold BB;rw[h];rfl
theorem Xp {Γ:Gm} {j m:Int} (h:0<m):A8 Γ (.v (.int j)) (.v (.int m))=some (.int (j % m)):=by simp[show B7 j m=true from decide_eq_true h]
theorem PU {rs:List (List Th)} {m:Nat} (h:∀ r∈rs,r.length<=m):total rs<=rs.length * m:=by
 induction rs with
 | nil=>simp[total]
 | cons r rs ih=>
  have i:=ih fun q hq=>h q (List.mem_cons_of_mem _ hq)
  have:=h r List.mem_cons_self
  show (List.map List.length (r::rs)).sum<=(rs.length+1) * m
  rw[List.map_cons,List.sum_cons,Nat.add_mul]
  have e:total rs=(List.map List.length rs).sum:=rfl
  lia
section
variable {Mc:MD} {Md:MDF} {Mn:MD} {Mr:MDF} (F:Drw Mc Md Mn Mr)
include F
theorem X4 {ns:List Int} {k:Nat} {v:Option SV} {τ:List (Option SV)} {Γ:Gm}:∃ Γ0:Gm,BB 2 (AX Md (AB (Ab Mc (AB (AA 0) (AB (AA 1) AC))) (AB (mC (.int 90)) AC))) ⟨some (.v (.scr ns))::some (.v (.int k))::v::τ,Γ,0⟩=some (.nx ⟨some (.v (.scr ns))::some (.v (.int k))::some (.b Γ.length)::τ,Γ0,0⟩)/\Dk Γ0 Γ.length:=by
 obtain ⟨c,e0⟩:=F.cell (Γ:=Γ) (ns:=ns) (k:=k)
 obtain ⟨l,e1,hl⟩:=F.deck (Γ:=Γ) (c:=c)
 let S:DS:=⟨some (.v (.scr ns))::some (.v (.int k))::v::τ,Γ,0⟩
 have w1:Ab Mc (AB (AA 0) (AB (AA 1) AC)) S=some (.v (.int c),S):=EL (x:=.v (.scr ns)) (y:=.v (.int k)) (s1:=S) (s2:=S) rfl rfl e0
 exact ⟨_,NR (Br w1 (y:=.v (.int 90)) (s2:=S) rfl e1),l,Cc,hl⟩
theorem YO {n i d:Nat} {S:DS} (hi:S.σ[d]?=some (some (.b n))) (dk:Dk S.Γ n):∃ (s:Nat) (Γ':Gm),1<=s/\s<=8/\Dd n S.Γ Γ'/\AS i (mOp BG (mC (.int 1)) (mOp A8 (Ab Mn (AB (AA d) AC)) (mC (.int 8)))) S=some (.nx ⟨S.σ.set i (some (.v (.int s))),Γ',S.lo⟩):=by
 obtain ⟨x1,Γ1,f1,x10,x11,dd1⟩:=F.next dk
 obtain ⟨s,hs⟩:∃ s:Nat,(s:Int)=1+x1 % 8:=⟨(1+x1 % 8).toNat,by lia⟩
 have w0:AA d S=some (.b n,S):=by unfold AA;rw[hi]
 refine ⟨s,Γ1,by lia,by lia,dd1,?_⟩
 refine BJ (Ak (x:=.v (.int 1)) (y:=.v (.int (x1 % 8))) (s1:=S) (s2:=⟨S.σ,Γ1,S.lo⟩) rfl (Ak (DQ w0 f1) (y:=.v (.int 8)) (s2:=⟨S.σ,Γ1,S.lo⟩) rfl (Xp (by decide))) ?_)
 rw[hs]
 rfl
theorem XN {n i d:Nat} {S:DS} (hi:S.σ[d]?=some (some (.b n))) (dk:Dk S.Γ n):∃ (rs:List (List Th)) (Γ':Gm),1<=rs.length/\rs.length<=6/\(∀ r∈rs,r.length<=200)/\(∀ r∈rs,∀ t∈r,Tg t.2)/\total rs<=1200/\Dd n S.Γ Γ'/\AS i (AH (AX Mr (AB (AA d) AC))) S=some (.nx ⟨S.σ.set i (some (.v (AF rs))),Γ',S.lo⟩):=by
 obtain ⟨rs,Γ3,f3,h1,h6,hr,dd3⟩:=F.rows dk
 have w0:AA d S=some (.b n,S):=by unfold AA;rw[hi]
 have ht:=PU fun r h=>(hr r h).1
 exact ⟨rs,Γ3,h1,h6,fun r h=>(hr r h).1,fun r h=>(hr r h).2,by lia,dd3,BJ (Ay (EH w0 f3))⟩
end
theorem UU {N:Int} (h1:1<=N) (h2:N<=10) {m:Nat} {b:MS} {ns:List Int} (hl:ns.length<=63) (once:∀ (k:Nat) (τ:List (Option SV)) (Γ:Gm),τ.length=m->∃ τ' Γ',b ⟨some (.v (.scr ns))::some (.v (.int k))::τ,Γ,0⟩=some (.nx ⟨some (.v (.scr ns))::τ',Γ',0⟩)/\τ'.length=m+1) :
  mFn (m+2) (AI (BP (BF (AB (AN ER (AB (mC (.int 1)) (AB (AN C6 (AB (AN Ad (AB (AA 0) AC)) (AB (mC (.int N)) AC))) AC))) AC)) (AZ 1) b) (Bb (mC (.bl true)))) [.v (.scr ns)] []=some (.bl true,[]):=by
 let S0:DS:=⟨some (.v (.scr ns))::List.replicate (m+1) none,[],0⟩
 have hJ:∃ J:Int,BF (AB (AN ER (AB (mC (.int 1)) (AB (AN C6 (AB (AN Ad (AB (AA 0) AC)) (AB (mC (.int N)) AC))) AC))) AC) S0=some (upTo 0 J.toNat,S0):=by
  have hr:okR (if (if N<(ns.length:Int) then N else (ns.length:Int)) > 1 then (if N<(ns.length:Int) then N else (ns.length:Int)) else 1)=true:=E1 (by split<;>split<;>lia) (by split<;>split<;>lia)
  refine ⟨if (if N<(ns.length:Int) then N else (ns.length:Int)) > 1 then (if N<(ns.length:Int) then N else (ns.length:Int)) else 1,?_⟩
  simp only[gt_iff_lt] at hr
  simp[S0,hr]
 obtain ⟨J,hJ⟩:=hJ
 obtain ⟨s',e1,τ,Γ',rfl,_⟩:=Ck (g:=AZ 1) (b:=b) (items:=upTo 0 J.toNat) (fun _ s=>∃ (τ:List (Option SV)) (Γ':Gm),s=⟨some (.v (.scr ns))::τ,Γ',0⟩/\τ.length=m+1) (by
   rintro i d s hd ⟨τ,Γ',rfl,hτ⟩
   obtain ⟨hi,rfl⟩:=D7 hd
   cases τ with
   | nil=>cases hτ
   | cons v τ=>
    obtain ⟨τ2,Γ2,e2,h2⟩:=once i τ Γ' (by simpa using hτ)
    exact ⟨_,_,rfl,by rw[show ((0:Int)+i)=i by lia];exact e2,τ2,Γ2,rfl,h2⟩)
  (s:=S0) ⟨_,[],rfl,by simp⟩
 unfold mFn
 have e0:(⟨D0 (m+2) [.v (.scr ns)],[],([]:Gm).length⟩:DS)=S0:=by
  show (⟨[some (.v (.scr ns))]++List.replicate (m+2 - 1) none,[],0⟩:DS)=_
  rfl
 rw[e0,Aa (D6 hJ e1)]
 rfl
theorem SJ {d:D} {b:Bool} (h:Ei (.v d) (.v d)=some b):b=true:=by
 cases d<;>simp at h<;>exact h
theorem UT {Γ:Gm} {d:D} {b:Bool} (h:Er Γ (.v d) (.v d)=some b):b=true:=by
 cases d with
 | lst xs=>cases xs<;>simp at h<;>exact h
 | _=>simp at h
theorem UL {Γ:Gm} {d:D} (h:BM 6 d=true):Fi Γ (.v d) (.v d)=some true:=by simp[h,Xa h]
theorem IW {Γ:Gm} {d:D} (h:BM 6 d=true):Dj Γ (.v d) (.v d)=some (.bl false):=by
 have e:=UL (Γ:=Γ) h
 unfold Dj gNe KA
 cases h1:Ei (.v d) (.v d) with
 | some b=>rw[SJ h1];rfl
 | none=>
  cases h2:Er Γ (.v d) (.v d) with
  | some b=>rw[UT h2];rfl
  | none=>rw[e];rfl
theorem Sx {φ:Nam->Nam} (l:List Nam) (s:Nat):A2 (l.map φ) s=(A2 l s).map φ:=by
 unfold A2
 rw[List.length_map,List.map_map]
 refine List.map_congr_left fun k hk=>?_
 have hk:=List.mem_range.mp (List.mem_filter.mp hk).1
 show (l.map φ).getD k []=φ (l.getD k [])
 rw[List.getD_eq_getElem?_getD,List.getD_eq_getElem?_getD,List.getElem?_map,List.getElem?_eq_getElem hk]
 rfl
theorem Rg {φ:Nam->Nam} (l:List Nam) (p:Nat):BD (l.map φ) p=(BD l p).map φ:=by
 unfold BD
 by_cases c:l=[]
 ·subst c
  rfl
 ·rw[if_neg (by simpa using c),if_neg c,List.map_map,List.length_map]
  refine List.map_congr_left fun j hj=>?_
  have hk:=Eb (p:=p) (List.length_pos_iff.mpr c) (List.mem_range.mp hj)
  show (l.map φ).getD _ []=φ (l.getD _ [])
  rw[List.getD_eq_getElem?_getD,List.getD_eq_getElem?_getD,List.getElem?_map,List.getElem?_eq_getElem hk]
  rfl
theorem TK {φ:Nam->Nam} {rs rs':List (List Th)} (hl:AQ 0 rs'=(AQ 0 rs).map (List.map φ)) (s:Nat):Ac 0 rs' s=(Ac 0 rs s).map φ:=by
 rw[Ek,Ek,hl,List.map_map,List.map_flatten,List.map_map]
 congr 1
 exact List.map_congr_left fun l _=>Sx l s
theorem Xk {φ:Nam->Nam} {rs rs':List (List Th)} (hl:AQ 0 rs'=(AQ 0 rs).map (List.map φ)) (m:D1 φ (AM 0 rs)) (s:Nat):AO (Ac 0 rs' s)=(AO (Ac 0 rs s)).map φ:=by
 rw[TK hl]
 exact sort_map fun x hx y hy h=>by rw[m y (FC hy) x (FC hx)];exact h
theorem Fu {rs rs':List (List Th)} {φ:Nam->Nam} (hl:AQ 0 rs'=(AQ 0 rs).map (List.map φ)):rs'.length=rs.length:=by
 rw[<-GD 0 rs',hl,List.length_map,GD]
theorem Wl {φ:Nam->Nam} {rs rs':List (List Th)} (hl:AQ 0 rs'=(AQ 0 rs).map (List.map φ)) (m:D1 φ (AM 0 rs)) (s:Nat):A6 rs' s=(A6 rs s).map φ:=by
 unfold A6
 rw[Xk hl m,Rg,Fu hl]
def atG {α:Type} (lt:α->α->Bool) (ps:List α) (x:α):Nat:=cb (fun p=>!lt x p) ps
def qcG {α:Type} (lt:α->α->Bool) (ps:List α) (j:Nat):α->Bool:=fun x=>decide (atG lt ps x<j)
def Bo {α:Type} (lt:α->α->Bool) (ps:List α) (j:Nat) (l:List α):Nat:=cb (fun x=>decide (atG lt ps x=j)) l
abbrev TrL {α:Type} (lt:α->α->Bool):Prop:=∀ x a b,lt x a=true->lt b a=false->lt x b=true
abbrev Hx {α:Type} (lt:α->α->Bool) (l:List α):Prop:=l.Pairwise fun x y=>lt y x=false
theorem XB:TrL HT.lexLt:=fun _ _ _ h1 h2=>M6 h1 h2
abbrev ltI:Int->Int->Bool:=fun a b=>decide (a<b)
theorem WL:TrL ltI:=fun x a b h1 h2=>by
 have h1:=of_decide_eq_true h1
 have h2:=of_decide_eq_false h2
 exact decide_eq_true (by lia)
theorem NY {α:Type} (lt:α->α->Bool) (ps:List α) (x:α):atG lt ps x<=ps.length:=Io _ _
theorem Ys {α:Type} {lt:α->α->Bool} (tr:TrL lt) {ps:List α} (h:Hx lt ps) {j:Nat} {p:α} (hp:ps[j]?=some p) (x:α):qcG lt ps (j+1) x=lt x p:=by
 have cut:Cut (fun x y=>lt y x=false) (fun p=>!lt x p):=fun a b h1 h2=>by
  show (!lt x a)=true
  have h2:(!lt x b)=true:=h2
  cases c:lt x a with
  | false=>rfl
  | true=>
   rw[tr x a b c h1] at h2
   cases h2
 have e:=Ct cut h hp
 unfold qcG atG
 cases c:lt x p with
 | true=>
  rw[c] at e
  exact decide_eq_true (Nat.lt_succ_of_le (Nat.le_of_not_lt (of_decide_eq_false e.symm)))
 | false=>
  rw[c] at e
  exact decide_eq_false (Nat.not_lt.mpr (of_decide_eq_true e.symm))
theorem Js {α:Type} {lt:α->α->Bool} {ps:List α} {j:Nat} (hp:ps.length<j) (x:α):qcG lt ps j x=true:=decide_eq_true (by have:=NY lt ps x;lia)
theorem Jw {α:Type} (lt:α->α->Bool) (ps:List α) (j:Nat):∀ l:List α,cb (qcG lt ps (j+1)) l=cb (qcG lt ps j) l+Bo lt ps j l
 | []=>rfl
 | x::l=>by
  have i:=Jw lt ps j l
  unfold Bo at i ⊢
  by_cases c:atG lt ps x<j
  ·rw[Bx (q:=qcG lt ps (j+1)) (decide_eq_true (by lia)),Bx (q:=qcG lt ps j) (decide_eq_true c),CT (by simp;lia),i]
   lia
  ·by_cases d:atG lt ps x=j
   ·rw[Bx (q:=qcG lt ps (j+1)) (decide_eq_true (by lia)),CT (q:=qcG lt ps j) (by simpa [qcG] using c),Bx (q:=fun x=>decide (atG lt ps x=j)) (decide_eq_true d),i]
    lia
   ·rw[CT (q:=qcG lt ps (j+1)) (by simp[qcG];lia),CT (q:=qcG lt ps j) (by simpa [qcG] using c),CT (by simpa using d),i]
theorem Le {α:Type} (lt:α->α->Bool) (ps:List α) (l:List α):cb (qcG lt ps 0) l=0:=by
 unfold cb
 have:l.filter (qcG lt ps 0)=[]:=List.filter_eq_nil_iff.mpr fun x _ z=>Nat.not_lt_zero _ (of_decide_eq_true z)
 rw[this]
 rfl
theorem UW {α:Type} (lt:α->α->Bool) (ps:List α) (j:Nat) (xs ys:List α):Bo lt ps j (xs++ys)=Bo lt ps j xs+Bo lt ps j ys:=Fl _ _ _
def BZ {α:Type} (lt:α->α->Bool) (ps:List α) (p:Nat) (l:List α):List Nat:=(List.range p).map fun j=>cb (qcG lt ps (j+1)) l
def FV {α:Type} (lt:α->α->Bool) (ps:List α) (p:Nat) (l:List α):List Nat:=if ps=[] then List.replicate p l.length else ps.map (fun q=>cb (fun x=>lt x q) l)++[l.length]
abbrev Hv {α:Type} (ps:List α) (p:Nat):Prop:=ps=[]\/ps.length+1=p
theorem Jm {α:Type} {q:α->Bool} {l:List α} (h:∀ x,q x=true):cb q l=l.length:=by
 unfold cb
 rw[List.filter_eq_self.mpr fun x _=>h x]
theorem OO {α:Type} {lt:α->α->Bool} (tr:TrL lt) {ps:List α} (h:Hx lt ps) {p:Nat} (hp:Hv ps p) (l:List α):FV lt ps p l=BZ lt ps p l:=by
 unfold FV BZ
 by_cases c:ps=[]
 ·rw[if_pos c]
  refine List.ext_getElem? fun i=>?_
  rw[List.getElem?_map,List.getElem?_replicate]
  by_cases d:i<p
  ·rw[if_pos d,List.getElem?_range d,Option.map_some,Jm fun x=>Js (by rw[c];simp) x]
  ·rw[if_neg d,List.getElem?_eq_none (by simp;lia)]
   rfl
 ·rw[if_neg c]
  have hp:ps.length+1=p:=hp.resolve_left c
  refine List.ext_getElem? fun i=>?_
  rw[List.getElem?_map]
  by_cases d:i<ps.length
  ·rw[List.getElem?_append_left (by rw[List.length_map];exact d),List.getElem?_map,List.getElem?_eq_getElem d,List.getElem?_range (by lia),Option.map_some,Option.map_some]
   congr 1
   unfold cb
   congr 1
   exact List.filter_congr fun x _=>(Ys tr h (List.getElem?_eq_getElem d) x).symm
  ·by_cases d2:i=ps.length
   ·subst d2
    rw[List.getElem?_append_right (by rw[List.length_map];exact Nat.le_refl _),List.length_map,Nat.sub_self,List.getElem?_range (by lia),Option.map_some,Jm fun x=>Js (by lia) x]
    rfl
   ·rw[List.getElem?_eq_none (by rw[List.length_append,List.length_map,List.length_singleton];lia),List.getElem?_eq_none (by simp;lia)]
    rfl
theorem NW {α:Type} (lt:α->α->Bool) (ps:List α) (p:Nat) (l:List α):(BZ lt ps p l).length=p:=by unfold BZ;rw[List.length_map,List.length_range]
theorem Kf {M:MDF} {a b c:ME} {s s1 s2 s3:DS} {x y w:SV} {z:List D} {Γ':Gm} (h1:a s=some (x,s1)) (h2:b s1=some (y,s2)) (h3:c s2=some (w,s3)) (hg:M [x,y,w] s3.Γ=some (z,Γ')):AX M (AB a (AB b (AB c AC))) s=some (z,{s3 with Γ:=Γ'}):=by
 unfold AX AB AC;rw[h1];show (((b s1).bind _).map _).bind _=_;rw[h2];show ((((c s2).bind _).map _).map _).bind _=_;rw[h3];show (M [x,y,w] s3.Γ).map _=_;rw[hg];rfl
def CA (l:List Nat):List D:=l.map fun (n:Nat)=>D.int (n:Int)
def Mcb:MD:=mFn 2 KQ
theorem Xi {α:Type} {f:α->D} {lt:α->α->Bool} (hlt:∀ {Γ:Gm} {x p:α},BN Γ (.v (f x)) (.v (f p))=some (.bl (lt x p))) {l:List α} {p:α} {Γ:Gm} (hl:l.length<=100000):Mcb [.v (.lst (l.map f)),.v (f p)] Γ=some (.int (cb (fun x=>lt x p) l:Nat),Γ):=by
 have tk:Γ.take Γ.length=Γ:=List.take_length
 let S:DS:=⟨[some (.v (.lst (l.map f))),some (.v (f p))],Γ,Γ.length⟩
 have e:Au (AZ 0) (Ao (mOp BN (AA 0) (AA 1))) (AA 0) (l.map f) [none,some (.v (f p))] Γ=some ((l.filter fun x=>lt x p).map f,Γ):=
  YW (f:=f) (G:=f) (q:=fun x=>lt x p) (tl:=[some (.v (f p))]) (Γ:=Γ) l (fun x _=>CS (Ak (x:=.v (f x)) (y:=.v (f p)) (s1:=⟨[some (.v (f x)),some (.v (f p))],Γ,Γ.length⟩) (s2:=⟨[some (.v (f x)),some (.v (f p))],Γ,Γ.length⟩) rfl rfl hlt)) (fun x _ _=>rfl) none
 have q:=Bg (g:=Ad) (z:=.int (cb (fun x=>lt x p) l:Nat)) (Ay (B0 (mi:=Ax (AA 0)) (nt:=1) (ix:=[1]) (s:=S) (s':=S) (items:=l.map f) rfl (by rw[List.length_map,BL];lia) e)) (by show some (D.int (((l.filter fun x=>lt x p).map f).length:Nat))=_;rw[List.length_map];rfl)
 unfold Mcb mFn KQ
 show (Bb _ S).bind _=_
 rw[Lr q]
 show some (_,Γ.take Γ.length)=_
 rw[tk]
def Meb:MDF:=AU 3 (Gu Mcb)
theorem W6 {i:Nat} {S:DS} {xs:List D} (h:AA i S=some (.v (.lst xs),S)):D8 (ET (AA i)) S=some (decide (xs=[]),S):=by
 unfold D8 ET
 rw[h]
 cases xs<;>rfl
theorem Uy {Mb:MD} {α:Type} {f:α->D} {lt:α->α->Bool} (hb:∀ {l:List α} {p:α} {Γ:Gm},l.length<=100000->Mb [.v (.lst (l.map f)),.v (f p)] Γ=some (.int (cb (fun x=>lt x p) l:Nat),Γ)) {l ps:List α} {p:Nat} {Γ:Gm} (hl:l.length<=100000) (hps:ps.length<=1000) (hp:p<=1000) :
  AU 3 (Gu Mb) [.v (.lst (l.map f)),.v (.lst (ps.map f)),.v (.int p)] Γ=some (CA (FV lt ps p l),Γ):=by
 have tk:Γ.take Γ.length=Γ:=List.take_length
 let S:DS:=⟨[some (.v (.lst (l.map f))),some (.v (.lst (ps.map f))),some (.v (.int p))],Γ,Γ.length⟩
 have ll:AN Ad (AB (AA 0) AC) S=some (.v (.int l.length),S):=Bg (s':=S) (x:=.v (.lst (l.map f))) rfl (by show some (D.int ((l.map f).length:Nat))=_;rw[List.length_map])
 have t1:=W6 (i:=1) (S:=S) (xs:=ps.map f) rfl
 unfold AU Gu
 show (AI _ _ S).bind _=_
 unfold FV
 by_cases c:ps=[]
 ·rw[if_pos c]
  rw[decide_eq_true (by rw[c];rfl)] at t1
  have w:(mIf (D8 (ET (AA 1))) (Ah (CV DY (AH (Ap (AB (AN Ad (AB (AA 0) AC)) AC))) (AA 2))) BO) S=some (.rf (List.replicate p (.int l.length)) S):=by
   refine (Fp t1).trans ?_
   unfold Ah
   rw[Pq ll (c:=AA 2) (S2:=S) rfl hp]
   rfl
  unfold AI
  rw[w]
  show some (_,Γ.take Γ.length)=_
  rw[tk]
  unfold CA
  rw[List.map_replicate]
 ·rw[if_neg c]
  rw[decide_eq_false (by simpa using c)] at t1
  have e:Au (AZ 0) mTT (Ab Mb (AB (AA 1) (AB (AA 0) AC))) (ps.map f) [none,some (.v (.lst (l.map f)))] Γ=some (ps.map (fun q=>D.int (cb (fun x=>lt x q) l:Nat)),Γ):=
   EI (f:=f) (G:=fun q=>D.int (cb (fun x=>lt x q) l:Nat)) (tl:=[some (.v (.lst (l.map f)))]) (Γ:=Γ) ps (fun q _=>EL (x:=.v (.lst (l.map f))) (y:=.v (f q)) (s1:=⟨[some (.v (f q)),some (.v (.lst (l.map f)))],Γ,Γ.length⟩) (s2:=⟨[some (.v (f q)),some (.v (.lst (l.map f)))],Γ,Γ.length⟩) rfl rfl (hb hl)) none
  have q:=Ay (B0 (mi:=Ax (AA 1)) (nt:=1) (ix:=[0]) (s:=S) (s':=S) (items:=ps.map f) rfl (by rw[List.length_map,BL];lia) e)
  have q2:=O7 (g:=Ea) (z:=CA (ps.map (fun q=>cb (fun x=>lt x q) l)++[l.length])) q (Ke ll) (by
   simp only[Ea,elems]
   rw[if_pos (by rw[List.length_map,List.length_singleton,BL];lia)]
   unfold CA
   rw[List.map_append,List.map_map]
   rfl)
  rw[Aa ((EE t1).trans (show BO S=_ from rfl))]
  unfold Ah
  rw[q2]
  show some (_,Γ.take Γ.length)=_
  rw[tk]
theorem Kd {α:Type} {f:α->D} {lt:α->α->Bool} (hlt:∀ {Γ:Gm} {x p:α},BN Γ (.v (f x)) (.v (f p))=some (.bl (lt x p))) {l ps:List α} {p:Nat} {Γ:Gm} (hl:l.length<=100000) (hps:ps.length<=1000) (hp:p<=1000):Meb [.v (.lst (l.map f)),.v (.lst (ps.map f)),.v (.int p)] Γ=some (CA (FV lt ps p l),Γ):=Uy (fun h=>Xi hlt h) hl hps hp
theorem IM (rs:List (List Th)) (s:Nat):Hx HT.lexLt (A6 rs s):=Jf (By _) _
theorem Lb {rs:List (List Th)} (s:Nat) (h:1<=rs.length):Hv (A6 rs s) rs.length:=by
 unfold A6
 by_cases c:AO (Ac 0 rs s)=[]
 ·left
  unfold BD
  rw[if_pos c]
 ·right
  rw[M5 c]
  lia
def DD (rs:List (List Th)) (s:Nat):List (List Nat):=(AQ 0 rs).map (BZ HT.lexLt (A6 rs s) rs.length)
def A9 (e:List Nat):D:=.lst (CA e)
def IQ:MDF:=AU 3 (Hg Mps Meb Ej)
theorem OY {Me Mn:MDF} {rs0:List (List Th)} {ps:List Nam} {Γ:Gm} (hm:∀ {Γ:Gm} {ts:List Th} {h:Int},ts.length<=big->Mn [.v (AK ts),.v (.int h)] Γ=some ((AO (Af h 0 ts)).map tupI,Γ)) (he:∀ {l:List Nam} {Γ:Gm},l.length<=100000->Me [.v (AV l),.v (AV ps),.v (.int rs0.length)] Γ=some (CA (BZ HT.lexLt ps rs0.length l),Γ)) :
  ∀ (rs:List (List Th)) (h:Int) (v w:Option SV),(∀ r∈rs,r.length<=100000)->Au (BX [0,1]) mTT (AH (AX Me (AB (AH (AX Mn (AB (AA 1) (AB (AA 0) AC)))) (AB (AA 2) (AB (AN Ad (AB (AA 3) AC)) AC))))) (Bc h (rs.map AK)) [v,w,some (.v (AV ps)),some (.v (AF rs0))] Γ=some (((AQ h rs).map (BZ HT.lexLt ps rs0.length)).map A9,Γ)
 | [],_,_,_,_=>rfl
 | r::rs,h,v,w,hr=>by
  have i:=OY (Γ:=Γ) hm he rs (h+1) (some (.v (.int h))) (some (.v (AK r))) fun q hq=>hr q (List.mem_cons_of_mem _ hq)
  let S:DS:=⟨[some (.v (.int h)),some (.v (AK r)),some (.v (AV ps)),some (.v (AF rs0))],Γ,Γ.length⟩
  have hrl:=hr r List.mem_cons_self
  have w1:AH (AX Mn (AB (AA 1) (AB (AA 0) AC))) S=some (.v (AV (AO (Af h 0 r))),S):=Ay (Br (x:=.v (AK r)) (y:=.v (.int h)) (s1:=S) (s2:=S) rfl rfl (hm (by rw[BL];lia)))
  have w2:AN Ad (AB (AA 3) AC) S=some (.v (.int rs0.length),S):=HS rfl
  have w3:=Ay (Kf (M:=Me) w1 (b:=AA 2) (y:=.v (AV ps)) (s2:=S) rfl w2 (he (by rw[(Av _).length_eq,DN];exact hrl)))
  rw[List.map_cons]
  show Au _ _ _ (.tup [.int h,AK r]::Bc (h+1) (rs.map AK)) _ _=_
  unfold Au
  rw[show BX [0,1] (.tup [.int h,AK r]) ⟨[v,w,some (.v (AV ps)),some (.v (AF rs0))],Γ,Γ.length⟩=some S from rfl]
  simp only[Option.bind_some,mTT,if_true,w3]
  rw[show Au _ _ _ _ S.σ S.Γ=_ from i,if_pos rfl]
  rfl
theorem Px {Mp Me Mn:MDF} {rs:List (List Th)} {s:Nat} {Γ:Gm} (hp:∀ {Γ:Gm},Mp [.v (AF rs),.v (.int s)] Γ=some ((A6 rs s).map tupI,Γ)) (hm:∀ {Γ:Gm} {ts:List Th} {h:Int},ts.length<=big->Mn [.v (AK ts),.v (.int h)] Γ=some ((AO (Af h 0 ts)).map tupI,Γ))
  (he:∀ {l:List Nam} {Γ:Gm},l.length<=100000->Me [.v (AV l),.v (AV (A6 rs s)),.v (.int rs.length)] Γ=some (CA (BZ HT.lexLt (A6 rs s) rs.length l),Γ)) (hn:rs.length<=1000) (hz:total rs<=100000):AU 3 (Hg Mp Me Mn) [.v (AF rs),.v (.int s)] Γ=some ((DD rs s).map A9,Γ):=by
 have tk:Γ.take Γ.length=Γ:=List.take_length
 let S0:DS:=⟨[some (.v (AF rs)),some (.v (.int s)),none],Γ,Γ.length⟩
 let S1:DS:=⟨[some (.v (AF rs)),some (.v (.int s)),some (.v (AV (A6 rs s)))],Γ,Γ.length⟩
 have g1:AS 2 (AH (AX Mp (AB (AA 0) (AB (AA 1) AC)))) S0=some (.nx S1):=BJ (Ay (Br (x:=.v (AF rs)) (y:=.v (.int s)) (s1:=S0) (s2:=S0) rfl rfl hp))
 have e:=OY (rs0:=rs) (Γ:=Γ) hm he rs 0 none none fun r hr=>by have:=Fo hr;lia
 have q:=B0 (mi:=Cp (AB (AA 0) AC)) (nt:=2) (ix:=[2,0]) (s:=S1) (s':=S1) (items:=Bc 0 (rs.map AK)) rfl (by rw[FJ,BL];lia) e
 unfold AU Hg
 show (AI _ _ S0).bind _=_
 rw[Aa g1]
 unfold Ah
 rw[q]
 show some (_,Γ.take Γ.length)=_
 rw[tk]
 rfl
theorem So {rs:List (List Th)} {s:Nat} {Γ:Gm} (h1:1<=s) (h8:s<=8) (hn:1<=rs.length) (hn6:rs.length<=100) (hz:total rs<=100000):IQ [.v (AF rs),.v (.int s)] Γ=some ((DD rs s).map A9,Γ):=
 Px (fun {Γ}=>Lk h1 h8 hn hn6 hz) IC (fun {l Γ} hl=>by rw[<-OO XB (IM rs s) (Lb s hn)];exact Kd (f:=tupI) UE hl (by have:=Nb rs s;lia) (by lia)) (by lia) hz
def Dn (e:List Nat) (j:Nat):Int:=((e.getD j 0:Nat):Int) - (if j=0 then 0 else ((e.getD (j - 1) 0:Nat):Int))
def szE (E:List (List Nat)) (j:Nat):Int:=(E.map fun e=>Dn e j).sum
def szD (p:Nat) (g:Nat->Int):List D:=(List.range p).map fun j=>D.int (g j)
theorem FZ (p:Nat) (g:Nat->Int):(szD p g).length=p:=by unfold szD;rw[List.length_map,List.length_range]
theorem HR {p j:Nat} {g:Nat->Int} (h:j<p):(szD p g)[j]?=some (D.int (g j)):=by
 unfold szD
 rw[List.getElem?_map,List.getElem?_range h]
 rfl
theorem Qm {p j:Nat} {g g':Nat->Int} {c:Int} (h:j<p) (hj:g' j=c) (ho:∀ i,i≠j->g' i=g i):(szD p g).set j (.int c)=szD p g':=by
 refine List.ext_getElem? fun i=>?_
 rw[List.getElem?_set]
 by_cases d:i<p
 ·rw[HR d,HR d]
  by_cases e:j=i
  ·subst e
   rw[if_pos rfl,if_pos (by rw[FZ];exact h),hj]
  ·rw[if_neg e,ho i fun z=>e z.symm]
 ·rw[if_neg (by lia),List.getElem?_eq_none (by rw[FZ];lia),List.getElem?_eq_none (by rw[FZ];lia)]
def FM:MDF:=AU 7 J7
theorem Ou {E:List (List Nat)} {p:Nat} {Γ:Gm} (hp:p<=1000) (hE:∀ e∈E,e.length=p):FM [.v (.lst (E.map A9)),.v (.int p)] Γ=some (szD p (szE E),Γ):=by
 let A:SV:=.v (.lst (E.map A9))
 let S0:DS:=⟨[some A,some (.v (.int p)),none,none,none,none,none],Γ,Γ.length⟩
 let S:(Nat->Int)->Option SV->Option SV->Option SV->Option SV->DS:=fun g a b c d=>⟨[some A,some (.v (.int p)),some (.b Γ.length),a,b,c,d],Γ++[some (szD p g)],Γ.length⟩
 have z0:List.replicate p (D.int 0)=szD p (szE []):=by
  refine List.ext_getElem? fun i=>?_
  by_cases c:i<p
  ·rw[HR c,List.getElem?_replicate,if_pos c]
   rfl
  ·rw[List.getElem?_eq_none (by simp;lia),List.getElem?_eq_none (by rw[FZ];lia)]
 have g1:BB 2 (CV DY (AH (Ap (AB (mC (.int 0)) AC))) (AA 1)) S0=some (.nx (S (szE []) none none none none)):=by
  have w:=Pq (m:=mC (.int 0)) (c:=AA 1) (S:=S0) (S1:=S0) (S2:=S0) (d:=.int 0) (n:=p) rfl rfl hp
  rw[z0] at w
  unfold BB
  rw[w]
  rfl
 have q:Ax (AA 0) (S (szE []) none none none none)=some (E.map A9,S (szE []) none none none none):=rfl
 obtain ⟨s',e1,a',b',c',d',rfl⟩:=Ck (g:=AZ 3) (b:=LN) (items:=E.map A9) (fun i st=>∃ a b c d,st=S (szE (E.take i)) a b c d) (by
   rintro i d st hd ⟨a0,b0,c0,d0,rfl⟩
   obtain ⟨e,he,rfl⟩:=Cu hd
   have hel:=hE e (List.mem_of_getElem? he)
   let gi:Nat->Nat->Int:=fun k j=>szE (E.take i) j+if j<k then Dn e j else 0
   let T:DS:=S (gi 0) (some (.v (A9 e))) b0 c0 d0
   have e0:gi 0=szE (E.take i):=by funext j;show _+(if j<0 then _ else 0)=_;rw[if_neg (Nat.not_lt_zero _)];lia
   let st0:Nat->SV:=fun k=>.v (.int (if k=0 then 0 else ((e.getD (k - 1) 0:Nat):Int)))
   have w1:AS 4 (mC (.int 0)) T=some (.nx (S (gi 0) (some (.v (A9 e))) (some (st0 0)) c0 d0)):=rfl
   have q2:Cp (AB (AA 3) AC) (S (gi 0) (some (.v (A9 e))) (some (st0 0)) c0 d0)=some (Bc 0 (CA e),S (gi 0) (some (.v (A9 e))) (some (st0 0)) c0 d0):=rfl
   obtain ⟨s2,e2,c2,d2,rfl⟩:=Ck (g:=BX [5,6]) (b:=NP) (items:=Bc 0 (CA e)) (fun k st=>∃ c d,st=S (gi k) (some (.v (A9 e))) (some (st0 k)) c d) (by
     rintro k d st hd ⟨c1,d1,rfl⟩
     obtain ⟨x,hx,rfl⟩:=E3 0 _ k d hd
     obtain ⟨v,hv,rfl⟩:=Cu hx
     have hk:k<p:=by rw[<-hel];exact (List.getElem?_eq_some_iff.mp hv).1
     have ev:e.getD k 0=v:=by rw[List.getD_eq_getElem?_getD,hv];rfl
     rw[show (0:Int)+(k:Int)=(k:Int) by lia]
     let U:DS:=S (gi k) (some (.v (A9 e))) (some (st0 k)) (some (.v (.int (k:Int)))) (some (.v (.int (v:Int))))
     have w:mOp CJ (AA 6) (AA 4) U=some (.v (.int ((v:Int) - (if k=0 then 0 else ((e.getD (k - 1) 0:Nat):Int)))),U):=Ak (x:=.v (.int (v:Int))) (y:=st0 k) (s1:=U) (s2:=U) rfl rfl rfl
     have a:=Tb (mo:=AA 2) (mi:=AA 5) (s:=U) (s1:=U) (s2:=U) (s3:=U) (n:=Γ.length) (k:=(k:Int)) rfl rfl (show U.Γ[Γ.length]?=some (some (szD p (gi k))) from Cc) (Ji (HR hk)) w (show U.Γ[Γ.length]?=some (some (szD p (gi k))) from Cc) (by rw[FZ];exact YY hk)
     have a':Ex (AA 2) (AA 5) (mOp CJ (AA 6) (AA 4)) U=some (.nx (S (gi (k+1)) (some (.v (A9 e))) (some (st0 k)) (some (.v (.int (k:Int)))) (some (.v (.int (v:Int)))))):=by
      rw[a]
      show some (Out.nx (⟨_,(Γ++[_]).set Γ.length _,_⟩:DS))=_
      rw[EZ]
      rw[Qm (g':=gi (k+1)) hk]
      ·show szE (E.take i) k+(if k<k+1 then Dn e k else 0)=szE (E.take i) k+(if k<k then Dn e k else 0)+_
       rw[if_pos (Nat.lt_succ_self k),if_neg (Nat.lt_irrefl k)]
       unfold Dn
       rw[ev]
       lia
      ·intro j hj
       show _+(if j<k+1 then _ else _)=_+(if j<k then _ else _)
       by_cases c:j<k
       ·rw[if_pos c,if_pos (by lia)]
       ·rw[if_neg c,if_neg (by lia)]
     refine ⟨U,_,rfl,(Aa a').trans rfl,some (.v (.int (k:Int))),some (.v (.int (v:Int))),?_⟩
     show S (gi (k+1)) (some (.v (A9 e))) (some (.v (.int (v:Int)))) _ _=S (gi (k+1)) (some (.v (A9 e))) (some (st0 (k+1))) _ _
     have:st0 (k+1)=.v (.int (v:Int)):=by
      show SV.v (D.int (if k+1=0 then 0 else ((e.getD (k+1 - 1) 0:Nat):Int)))=_
      rw[if_neg (Nat.succ_ne_zero k),Nat.add_sub_cancel,ev]
     rw[this])
    (s:=S (gi 0) (some (.v (A9 e))) (some (st0 0)) c0 d0) ⟨c0,d0,rfl⟩
   have hlen:(Bc 0 (CA e)).length=p:=by rw[Hf];unfold CA;rw[List.length_map,hel]
   rw[hlen] at e2
   have egp:szD p (gi p)=szD p (szE (E.take (i+1))):=by
    unfold szD
    refine List.map_congr_left fun j hj=>?_
    have hj:=List.mem_range.mp hj
    congr 1
    show szE (E.take i) j+(if j<p then Dn e j else 0)=_
    rw[if_pos hj]
    unfold szE
    rw[List.take_add_one,he,List.map_append,List.sum_append]
    simp
   refine ⟨T,S (gi p) (some (.v (A9 e))) (some (st0 p)) c2 d2,by rw[<-e0];rfl,(Aa w1).trans (D6 q2 e2),some (.v (A9 e)),some (st0 p),c2,d2,?_⟩
   show (⟨_,Γ++[some (szD p (gi p))],_⟩:DS)=_
   rw[egp])
  (s:=S (szE []) none none none none) ⟨none,none,none,none,rfl⟩
 rw[List.length_map,List.take_length] at e1
 unfold FM AU J7
 show (AI _ _ S0).bind _=_
 rw[Aa g1,Aa (D6 q e1)]
 simp[S,Ah,Cn]
theorem Ip {α:Type} (lt:α->α->Bool) (ps:List α) (p:Nat) {j:Nat} (hj:j<p):∀ (L:List (List α)),szE (L.map (BZ lt ps p)) j=((Bo lt ps j L.flatten:Nat):Int)
 | []=>rfl
 | l::L=>by
  have i:=Ip lt ps p hj L
  have hg:∀ k,k<p->(BZ lt ps p l).getD k 0=cb (qcG lt ps (k+1)) l:=fun k hk=>by
   unfold BZ
   rw[List.getD_eq_getElem?_getD,List.getElem?_map,List.getElem?_range hk]
   rfl
  have d:Dn (BZ lt ps p l) j=((Bo lt ps j l:Nat):Int):=by
   unfold Dn
   rw[hg j hj,Jw]
   cases j with
   | zero=>rw[if_pos rfl,Le];lia
   | succ j=>rw[if_neg (Nat.succ_ne_zero j),Nat.add_sub_cancel,hg j (by lia)];lia
  unfold szE at i ⊢
  rw[List.map_cons,List.map_cons,List.sum_cons,i,d,List.flatten_cons,UW]
  lia
def CN (rs:List (List Th)) (s:Nat):Nat->Int:=fun j=>((cnt (A6 rs s) j (AM 0 rs):Nat):Int)
def Fe:MDF:=AU 2 (GV FM IQ)
theorem KF {rs:List (List Th)} {s:Nat}:szD rs.length (szE (DD rs s))=szD rs.length (CN rs s):=by
 unfold szD
 refine List.map_congr_left fun j hj=>?_
 congr 1
 unfold DD CN
 rw[Ip _ _ _ (List.mem_range.mp hj)]
 congr 1
 exact Et (DP 0 rs)
theorem UG {Mz Me:MDF} {rs:List (List Th)} {s:Nat} {Γ:Gm} (hz:∀ {E:List (List Nat)} {Γ:Gm},(∀ e∈E,e.length=rs.length)->Mz [.v (.lst (E.map A9)),.v (.int rs.length)] Γ=some (szD rs.length (szE E),Γ)) (he:∀ {Γ:Gm},Me [.v (AF rs),.v (.int s)] Γ=some ((DD rs s).map A9,Γ)) :
  AU 2 (GV Mz Me) [.v (AF rs),.v (.int s)] Γ=some (szD rs.length (CN rs s),Γ):=by
 have tk:Γ.take Γ.length=Γ:=List.take_length
 let S:DS:=⟨[some (.v (AF rs)),some (.v (.int s))],Γ,Γ.length⟩
 have w1:AH (AX Me (AB (AA 0) (AB (AA 1) AC))) S=some (.v (.lst ((DD rs s).map A9)),S):=Ay (Br (x:=.v (AF rs)) (y:=.v (.int s)) (s1:=S) (s2:=S) rfl rfl he)
 have w3:=Br (M:=Mz) w1 (HS (rs:=rs) (i:=0) rfl) (hz fun e h=>by
  obtain ⟨l,_,rfl⟩:=List.mem_map.mp h
  exact NW _ _ _ _)
 rw[KF] at w3
 unfold AU GV
 show (Ah _ S).bind _=_
 unfold Ah
 rw[w3]
 show some (_,Γ.take Γ.length)=_
 rw[tk]
theorem Wk {rs:List (List Th)} {s:Nat} {Γ:Gm} (h1:1<=s) (h8:s<=8) (hn:1<=rs.length) (hn6:rs.length<=100) (hz:total rs<=100000):Fe [.v (AF rs),.v (.int s)] Γ=some (szD rs.length (CN rs s),Γ):=UG (fun {E Γ} h=>Ou (by lia) h) (fun {Γ}=>So h1 h8 hn hn6 hz)
theorem lt_int {Γ:Gm} {x p:Int}:BN Γ (.v (.int x)) (.v (.int p))=some (.bl (ltI x p)):=rfl
def Mko:MDF:=AU 1 Jq
theorem LM {α:Type} {f:α->D} {key:α->Int} {l:List α} {Γ:Gm} (hf:∀ x∈l,∀ {Γ:Gm},gIx Γ (.v (f x)) (.v (.int 0))=some (.int (key x))) (hl:l.length<=100000):Mko [.v (.lst (l.map f))] Γ=some ((l.map key).map .int,Γ):=by
 have tk:Γ.take Γ.length=Γ:=List.take_length
 let S:DS:=⟨[some (.v (.lst (l.map f)))],Γ,Γ.length⟩
 have e:Au (AZ 0) mTT (mOp gIx (AA 0) (mC (.int 0))) (l.map f) [none] Γ=some ((l.map fun x=>D.int (key x)),Γ):=EI (f:=f) (G:=fun x=>D.int (key x)) (tl:=[]) (Γ:=Γ) l (fun x hx=>Ak (x:=.v (f x)) (y:=.v (.int 0)) (s1:=⟨[some (.v (f x))],Γ,Γ.length⟩) (s2:=⟨[some (.v (f x))],Γ,Γ.length⟩) rfl rfl (hf x hx)) none
 unfold Mko AU Jq
 show (Ah _ S).bind _=_
 unfold Ah
 rw[B0 (mi:=Ax (AA 0)) (nt:=1) (ix:=[]) (s:=S) (s':=S) (items:=l.map f) rfl (by rw[List.length_map,BL];lia) e]
 show some (_,Γ.take Γ.length)=_
 rw[tk,List.map_map]
 rfl
def A4 (x:Nam):Int:=x.getD 0 0
theorem ZD {x:Nam} (h:∃ a b c:Int,x=[a,b,c]) {Γ:Gm}:gIx Γ (.v (tupI x)) (.v (.int 0))=some (.int (A4 x)):=by
 obtain ⟨a,b,c,rfl⟩:=h
 rfl
theorem NG {x y:Nam} (hx:∃ a b c:Int,x=[a,b,c]) (hy:∃ a b c:Int,y=[a,b,c]) (h:HT.lexLt y x=false):ltI (A4 y) (A4 x)=false:=by
 obtain ⟨a,b,c,rfl⟩:=hx
 obtain ⟨a',b',c',rfl⟩:=hy
 rw[Tv] at h
 have h:=of_decide_eq_false h
 exact decide_eq_false (show ¬a'<a by lia)
def kpR (rs:List (List Th)) (s:Nat):List Int:=(A6 rs s).map A4
theorem Fn {rs:List (List Th)} {s:Nat} {x:Nam} (h:x∈A6 rs s):∃ a b c:Int,x=[a,b,c]:=by
 obtain ⟨j,k,r,t,_,_,rfl⟩:=FY (J0 h)
 exact ⟨_,_,_,rfl⟩
theorem Kj (rs:List (List Th)) (s:Nat):Hx ltI (kpR rs s):=by
 unfold kpR
 exact List.pairwise_map.mpr (List.Pairwise.imp_of_mem (fun {x y} hx hy h=>NG (Fn hx) (Fn hy) h) (IM rs s))
theorem Nv {rs:List (List Th)} (s:Nat) (h:1<=rs.length):Hv (kpR rs s) rs.length:=by
 unfold kpR
 rcases Lb s h with e | e
 ·left
  rw[e]
  rfl
 ·right
  rw[List.length_map]
  exact e
def CK (rs:List (List Th)):List (List Int):=rs.map (List.map Prod.fst)
def Aq (rs:List (List Th)) (s:Nat):Nat->Int:=fun j=>((Bo ltI (kpR rs s) j (CK rs).flatten:Nat):Int)
def FG:MDF:=AU 4 (HQ Mko Mps Meb FM)
structure KszF (Mk Mp Me Mz:MDF) (rs:List (List Th)) (s:Nat):Prop where
 kn:∀ {Γ:Gm},Mk [.v (AV (A6 rs s))] Γ=some ((kpR rs s).map .int,Γ)
 kr:∀ {r:List Th} {Γ:Gm},r.length<=100000->Mk [.v (AK r)] Γ=some ((r.map Prod.fst).map .int,Γ)
 ps:∀ {Γ:Gm},Mp [.v (AF rs),.v (.int s)] Γ=some ((A6 rs s).map tupI,Γ)
 eb:∀ {l:List Int} {Γ:Gm},l.length<=100000->Me [.v (.lst (l.map .int)),.v (.lst ((kpR rs s).map .int)),.v (.int rs.length)] Γ=some (CA (BZ ltI (kpR rs s) rs.length l),Γ)
 sz:∀ {E:List (List Nat)} {Γ:Gm},(∀ e∈E,e.length=rs.length)->Mz [.v (.lst (E.map A9)),.v (.int rs.length)] Γ=some (szD rs.length (szE E),Γ)
theorem Ul {Mk Mp Me Mz:MDF} {rs:List (List Th)} {s:Nat} {Γ:Gm} (F:KszF Mk Mp Me Mz rs s) (hn:rs.length<=1000) (hz:total rs<=100000):AU 4 (HQ Mk Mp Me Mz) [.v (AF rs),.v (.int s)] Γ=some (szD rs.length (Aq rs s),Γ):=by
 have tk:Γ.take Γ.length=Γ:=List.take_length
 let R:Option SV:=some (.v (AF rs))
 let Sv:Option SV:=some (.v (.int s))
 let P:Option SV:=some (.v (.lst ((kpR rs s).map .int)))
 let E:List (List Nat):=(CK rs).map (BZ ltI (kpR rs s) rs.length)
 let S0:DS:=⟨[R,Sv,none,none],Γ,Γ.length⟩
 let S1:DS:=⟨[R,Sv,P,none],Γ,Γ.length⟩
 let S2:DS:=⟨[R,Sv,P,some (.v (.lst (E.map A9)))],Γ,Γ.length⟩
 have w1:AH (AX Mp (AB (AA 0) (AB (AA 1) AC))) S0=some (.v (AV (A6 rs s)),S0):=Ay (Br (x:=.v (AF rs)) (y:=.v (.int s)) (s1:=S0) (s2:=S0) rfl rfl F.ps)
 have g1:AS 2 (AH (AX Mk (AB (AH (AX Mp (AB (AA 0) (AB (AA 1) AC)))) AC))) S0=some (.nx S1):=BJ (Ay (EH w1 F.kn))
 have e:Au (AZ 0) mTT (AH (AX Me (AB (AH (AX Mk (AB (AA 0) AC))) (AB (AA 1) (AB (AN Ad (AB (AA 2) AC)) AC))))) (rs.map AK) [none,P,R] Γ=some (rs.map (fun r=>A9 (BZ ltI (kpR rs s) rs.length (r.map Prod.fst))),Γ):=
  EI (f:=AK) (G:=fun r=>A9 (BZ ltI (kpR rs s) rs.length (r.map Prod.fst))) (tl:=[P,R]) (Γ:=Γ) rs (fun r hr=>by
   let S:DS:=⟨[some (.v (AK r)),P,R],Γ,Γ.length⟩
   have hrl:r.length<=100000:=by have:=Fo hr;lia
   have a1:AH (AX Mk (AB (AA 0) AC)) S=some (.v (.lst ((r.map Prod.fst).map .int)),S):=Ay (EH (x:=.v (AK r)) (s':=S) rfl (F.kr hrl))
   exact Ay (Kf (M:=Me) a1 (b:=AA 1) (y:=.v (.lst ((kpR rs s).map .int))) (s2:=S) rfl (HS (rs:=rs) (i:=2) rfl) (F.eb (by rw[List.length_map];exact hrl)))) none
 have g2:AS 3 (AH (Aw (Ax (AA 0)) 1 [2,0] (AZ 0) mTT (AH (AX Me (AB (AH (AX Mk (AB (AA 0) AC))) (AB (AA 1) (AB (AN Ad (AB (AA 2) AC)) AC))))))) S1=some (.nx S2):=by
  refine (BJ (Ay (B0 (mi:=Ax (AA 0)) (s':=S1) (items:=rs.map AK) rfl (by rw[List.length_map,BL];lia) e))).trans ?_
  simp only[S2,E,CK,List.map_map]
  rfl
 have w3:=Br (M:=Mz) (m:=AA 3) (x:=.v (.lst (E.map A9))) (s:=S2) (s1:=S2) rfl (HS (rs:=rs) (i:=0) rfl) (F.sz (E:=E) fun e h=>by
  obtain ⟨l,_,rfl⟩:=List.mem_map.mp h
  exact NW _ _ _ _)
 have ez:szD rs.length (szE E)=szD rs.length (Aq rs s):=by
  unfold szD
  refine List.map_congr_left fun j hj=>?_
  exact congrArg D.int (Ip _ _ _ (List.mem_range.mp hj) _)
 rw[ez] at w3
 unfold AU HQ
 show (AI _ _ S0).bind _=_
 rw[Aa g1,Aa g2]
 unfold Ah
 rw[w3]
 show some (_,Γ.take Γ.length)=_
 rw[tk]
theorem WM {rs:List (List Th)} {s:Nat} {Γ:Gm} (h1:1<=s) (h8:s<=8) (hn:1<=rs.length) (hn6:rs.length<=100) (hz:total rs<=100000):FG [.v (AF rs),.v (.int s)] Γ=some (szD rs.length (Aq rs s),Γ):=by
 have hpl:=Nb rs s
 exact Ul ⟨fun {Γ}=>LM (f:=tupI) (key:=A4) (fun x hx {Γ}=>ZD (Fn hx)) (by lia),fun {r Γ} hr=>LM (f:=thD) (key:=Prod.fst) (fun x _ {Γ}=>rfl) hr,fun {Γ}=>Lk h1 h8 hn hn6 hz,fun {l Γ} hl=>by rw[<-OO WL (Kj rs s) (Nv s hn)];exact Kd (f:=D.int) lt_int hl (by unfold kpR;rw[List.length_map];lia) (by lia),fun {E Γ} h=>Ou (by lia) h⟩ (by lia) hz
theorem Tw {φ:Nam->Nam} {F:List Nam} (m:D1 φ F) {ps:List Nam} (hp:∀ p∈ps,p∈F) {x:Nam} (hx:x∈F):atG HT.lexLt (ps.map φ) (φ x)=atG HT.lexLt ps x:=by
 unfold atG cb
 rw[List.filter_map,List.length_map]
 congr 1
 refine List.filter_congr fun p h=>?_
 show (!HT.lexLt (φ x) (φ p))=_
 rw[m x hx p (hp p h)]
theorem P3 {φ:Nam->Nam} {F:List Nam} (m:D1 φ F) {ps l:List Nam} (hp:∀ p∈ps,p∈F) (hl:∀ x∈l,x∈F) (p:Nat):BZ HT.lexLt (ps.map φ) p (l.map φ)=BZ HT.lexLt ps p l:=by
 unfold BZ
 refine List.map_congr_left fun j _=>?_
 unfold cb
 rw[List.filter_map,List.length_map]
 congr 1
 refine List.filter_congr fun x h=>?_
 show qcG HT.lexLt (ps.map φ) (j+1) (φ x)=_
 unfold qcG
 rw[Tw m hp (hl x h)]
theorem Vh {φ:Nam->Nam} {rs rs':List (List Th)} (hl:AQ 0 rs'=(AQ 0 rs).map (List.map φ)) (m:D1 φ (AM 0 rs)) (s:Nat):DD rs' s=DD rs s:=by
 unfold DD
 rw[hl,Wl hl m,Fu hl,List.map_map]
 exact List.map_congr_left fun l h=>P3 m (fun p h=>J0 h) (fun x hx=>Mg (List.mem_flatten.mpr ⟨l,h,hx⟩)) _
theorem OU {φ:Nam->Nam} {rs rs':List (List Th)} (hl:AQ 0 rs'=(AQ 0 rs).map (List.map φ)) (m:D1 φ (AM 0 rs)) (s:Nat):szD rs'.length (CN rs' s)=szD rs.length (CN rs s):=by
 rw[<-KF,<-KF,Vh hl m,Fu hl]
theorem PQ (h:Int):∀ (i:Int) (r:List Th),(Af h i r).map A4=r.map Prod.fst
 | _,[]=>rfl
 | i,t::r=>by rw[FT,List.map_cons,PQ h (i+1) r,List.map_cons];rfl
theorem FN:∀ (h:Int) (rs:List (List Th)),(AM h rs).map A4=(CK rs).flatten
 | _,[]=>rfl
 | h,r::rs=>by
  unfold AM CK
  rw[List.map_append,PQ,FN (h+1) rs,List.map_cons,List.flatten_cons]
  rfl
theorem Dg {rs:List (List Th)} {x:Nam} (hx:x∈AM 0 rs):∃ a b c:Int,x=[a,b,c]:=by
 obtain ⟨j,k,r,t,_,_,rfl⟩:=FY hx
 exact ⟨_,_,_,rfl⟩
theorem E5 {α:Type} (lt:α->α->Bool) (ps l:List α):∀ p:Nat,((List.range p).map fun j=>((Bo lt ps j l:Nat):Int)).sum=((cb (qcG lt ps p) l:Nat):Int)
 | 0=>by rw[Le];rfl
 | p+1=>by
  rw[List.range_succ,List.map_append,List.sum_append,E5 lt ps l p,Jw]
  simp
theorem Tz {α:Type} {ps:List α} {p:Nat} (hp:1<=p) (h:Hv ps p):ps.length<p:=by
 rcases h with h | h
 ·rw[h];exact hp
 ·lia
theorem R6 (rs:List (List Th)):(CK rs).flatten.length=total rs:=by rw[<-FN 0 rs,List.length_map,Dp]
theorem V9 {rs:List (List Th)} (s:Nat) (h1:1<=rs.length):((List.range rs.length).map (Aq rs s)).sum=(total rs:Int):=by
 have:=E5 ltI (kpR rs s) (CK rs).flatten rs.length
 rw[Jm (fun x=>Js (Tz h1 (Nv s h1)) x),R6] at this
 exact this
theorem KR {α:Type} {q r t:α->Bool}:∀ {l:List α},(∀ x∈l,q x=true->r x=true\/t x=true)->cb q l<=cb r l+cb t l
 | [],_=>Nat.zero_le _
 | x::l,h=>by
  have i:=KR (l:=l) fun y hy=>h y (List.mem_cons_of_mem _ hy)
  have hx:=h x List.mem_cons_self
  by_cases cq:q x=true
  ·rw[Bx cq]
   rcases hx cq with c | c
   ·rw[Bx c]
    by_cases ct:t x=true
    ·rw[Bx ct];lia
    ·rw[CT ct];lia
   ·rw[Bx c]
    by_cases cr:r x=true
    ·rw[Bx cr];lia
    ·rw[CT cr];lia
  ·rw[CT cq]
   by_cases cr:r x=true
   ·by_cases ct:t x=true
    ·rw[Bx cr,Bx ct];lia
    ·rw[Bx cr,CT ct];lia
   ·by_cases ct:t x=true
    ·rw[CT cr,Bx ct];lia
    ·rw[CT cr,CT ct];lia
theorem Gq {α β:Type} (f:α->β) (q:β->Bool) (l:List α):cb q (l.map f)=cb (fun x=>q (f x)) l:=by
 unfold cb
 rw[List.filter_map,List.length_map]
 rfl
theorem GZ {a b:Nam} (ha:∃ i j k:Int,a=[i,j,k]) (hb:∃ i j k:Int,b=[i,j,k]) (h:HT.lexLt a b=true):A4 a<=A4 b:=by
 obtain ⟨i,j,k,rfl⟩:=ha
 obtain ⟨i',j',k',rfl⟩:=hb
 rw[HT.Bz] at h
 show i<=i'
 split at h
 ·lia
 ·have:=of_decide_eq_true h;lia
theorem UF (k:Int):Cut (fun a b=>ltI b a=false) (fun p=>!ltI k p):=fun x y h1 h2=>by
 have h1:=of_decide_eq_false h1
 have h2:¬k<y:=by simpa using h2
 simp
 lia
theorem Wh {rs:List (List Th)} {s j:Nat} {mx:Int} (hs:1<=s) (h8:s<=8) (hp:1<=rs.length) (hj:j<rs.length) (hm0:0<=mx) (hm:∀ a,(((CK rs).flatten.count a:Nat):Int)<=mx):Aq rs s j<=bnd (szI rs) s+mx:=by
 have hb:=Qr (rs:=rs) (s:=s) hs h8 hp hj
 let ps:=A6 rs s
 let a:=A4 (ps.getD (j - 1) [])
 have hc:Bo ltI (kpR rs s) j (CK rs).flatten<=cnt ps j (AM 0 rs)+(CK rs).flatten.count a:=by
  rw[<-FN 0 rs]
  unfold Bo
  rw[Gq]
  have e2:((AM 0 rs).map A4).count a=cb (fun x=>A4 x == a) (AM 0 rs):=by
   rw[List.count_eq_countP,List.countP_map,List.countP_eq_length_filter]
   rfl
  rw[e2]
  unfold cnt
  refine KR fun x hx hq=>?_
  have hq:atG ltI (kpR rs s) (A4 x)=j:=of_decide_eq_true hq
  by_cases c:atP ps x=j
  ·exact .inl (decide_eq_true c)
  right
  have x3:=Dg hx
  have le:atP ps x<=j:=by
   rw[<-hq]
   unfold atG kpR
   rw[Gq]
   unfold atP
   have:cb (fun p=>!HT.lexLt x p) ps<=cb (fun p=>!ltI (A4 x) (A4 p)) ps+cb (fun _=>false) ps:=KR fun p hpm hh=>.inl (by
    have p3:=Fn hpm
    have:=NG p3 x3 (by simpa using hh)
    rw[this]
    rfl)
   have e0:cb (fun _:Nam=>false) ps=0:=by unfold cb;simp
   rw[e0,Nat.add_zero] at this
   exact this
  have hj1:1<=j:=by lia
  have hjl:j<=ps.length:=by
   rw[<-hq]
   have:=NY ltI (kpR rs s) (A4 x)
   unfold kpR at this ⊢
   rw[List.length_map] at this
   exact this
  have hp1:ps[j - 1]?=some (ps.getD (j - 1) []):=by
   rw[List.getD_eq_getElem?_getD,List.getElem?_eq_getElem (show j - 1<ps.length by lia)]
   rfl
  have q1:=Ct (Lz x) (IM rs s) hp1
  have q1':HT.lexLt x (ps.getD (j - 1) [])=true:=by
   have:decide (j - 1<cb (fun p=>!HT.lexLt x p) (A6 rs s))=false:=decide_eq_false (by show ¬j - 1<atP ps x;lia)
   rw[this] at q1
   simpa using q1
  have hk1:(kpR rs s)[j - 1]?=some a:=by
   unfold kpR
   rw[List.getElem?_map,show (A6 rs s)[j - 1]?=_ from hp1]
   rfl
  have q2:=Ct (UF (A4 x)) (Kj rs s) hk1
  have q2':¬A4 x<a:=by
   have:decide (j - 1<cb (fun p=>!ltI (A4 x) p) (kpR rs s))=true:=decide_eq_true (by show j - 1<atG ltI (kpR rs s) (A4 x);lia)
   rw[this] at q2
   simpa using q2
  have:=GZ x3 (Fn (List.mem_of_getElem? hp1)) q1'
  have:A4 x=a:=by
   show A4 x=A4 (ps.getD (j - 1) [])
   have q3:¬A4 x<A4 (ps.getD (j - 1) []):=q2'
   lia
  rw[this]
  simp
 have hm':=hm a
 show ((Bo ltI (kpR rs s) j (CK rs).flatten:Nat):Int)<=_
 have hb':((cnt ps j (AM 0 rs):Nat):Int)<=bnd (szI rs) s:=hb
 lia
theorem R5 {kp ks:List Int} {i:Nat} {x y:Int} (hs:ks.Pairwise (·<=·)) (j:Nat) (h0:0<cb (qcG ltI kp j) ks) (hx:ks[cb (qcG ltI kp j) ks - 1]?=some x) (hy:ks[cb (qcG ltI kp j) ks]?=some y):x≠y:=by
 have cut:Cut (fun a b:Int=>a<=b) (qcG ltI kp j):=fun a b h1 h2=>by
  have h2:=of_decide_eq_true h2
  refine decide_eq_true (Nat.lt_of_le_of_lt ?_ h2)
  unfold atG
  refine Hl (fun p hp=>?_) _
  have hp:¬a<p:=by simpa using hp
  simp
  lia
 have e1:=Ct cut hs hx
 have e2:=Ct cut hs hy
 intro z
 rw[z,e2] at e1
 have:decide (cb (qcG ltI kp j) ks - 1<cb (qcG ltI kp j) ks)=true:=decide_eq_true (by lia)
 rw[this] at e1
 have:=of_decide_eq_true e1
 lia
theorem He:∀ x:Nam,HT.lexLt x x=false
 | []=>rfl
 | a::x=>by rw[HT.Bz,if_pos rfl];exact He x
theorem Ds {x y:Nam} (hx:∃ a b c:Int,x=[a,b,c]) (hy:∃ a b c:Int,y=[a,b,c]) (h1:HT.lexLt x y=false) (h2:HT.lexLt y x=false):x=y:=by
 obtain ⟨a,b,c,rfl⟩:=hx
 obtain ⟨a',b',c',rfl⟩:=hy
 simp only[HT.lexLt] at h1 h2
 by_cases e1:a=a'
 ·subst e1
  rw[if_pos rfl] at h1 h2
  by_cases e2:b=b'
  ·subst e2
   rw[if_pos rfl] at h1 h2
   by_cases e3:c=c'
   ·rw[e3]
   ·rw[if_neg e3] at h1
    rw[if_neg (Ne.symm e3)] at h2
    have:=of_decide_eq_false h1
    have:=of_decide_eq_false h2
    lia
  ·rw[if_neg e2] at h1
   rw[if_neg (Ne.symm e2)] at h2
   have:=of_decide_eq_false h1
   have:=of_decide_eq_false h2
   lia
 ·rw[if_neg e1] at h1
  rw[if_neg (Ne.symm e1)] at h2
  have:=of_decide_eq_false h1
  have:=of_decide_eq_false h2
  lia
theorem X5 {rs:List (List Th)} {s:Nat} (inj:∀ x∈AM 0 rs,∀ y∈AM 0 rs,A4 x=A4 y->x=y):Aq rs s=CN rs s:=by
 funext j
 unfold Aq CN
 rw[<-FN 0 rs]
 unfold Bo cnt
 rw[Gq]
 congr 1
 unfold cb
 congr 1
 refine List.filter_congr fun x hx=>?_
 have e:atG ltI (kpR rs s) (A4 x)=atP (A6 rs s) x:=by
  unfold atG atP kpR
  rw[Gq]
  unfold cb
  congr 1
  refine List.filter_congr fun p hp=>?_
  have hpm:=J0 hp
  have x3:=Dg hx
  have p3:=Dg hpm
  congr 1
  cases h:HT.lexLt x p with
  | true=>
   have h1:=GZ x3 p3 h
   refine decide_eq_true ?_
   rcases Int.lt_or_eq_of_le h1 with c | c
   ·exact c
   ·rw[inj x hx p hpm c,He] at h
    cases h
  | false=>
   refine decide_eq_false fun c=>?_
   have h2:HT.lexLt p x=true:=by
    cases h2:HT.lexLt p x with
    | true=>rfl
    | false=>
     rw[Ds x3 p3 h h2] at c
     lia
   have:=GZ p3 x3 h2
   lia
 rw[e]
def rk (rs:List (List Th)) (x:Nam):Nat:=cb (fun y=>HT.lexLt y x) (AM 0 rs)
theorem LF {rs:List (List Th)} {i:Nat} {x:Nam} (h:(AO (AM 0 rs))[i]?=some x):rk rs x=i:=by
 unfold rk
 rw[<-Et (Av (AM 0 rs))]
 exact below_at (By _) ((Av _).nodup_iff.mpr (KD 0 rs)) h
theorem Fm {rs:List (List Th)} {x:Nam} (h:x∈AM 0 rs):(AO (AM 0 rs))[rk rs x]?=some x:=by
 obtain ⟨i,hi⟩:=List.mem_iff_getElem?.mp ((Av _).mem_iff.mpr h)
 rw[LF hi]
 exact hi
theorem GU {rs:List (List Th)} {x y:Nam} (hx:x∈AM 0 rs) (hy:y∈AM 0 rs) (h:rk rs x=rk rs y):x=y:=by
 have a:=Fm hx
 rw[h,Fm hy] at a
 exact (Option.some.inj a).symm
theorem Ua {rs:List (List Th)} {x y:Nam} (hx:x∈AM 0 rs) (hy:y∈AM 0 rs):HT.lexLt x y=decide (rk rs x<rk rs y):=by
 have key:∀ {u v:Nam},u∈AM 0 rs->v∈AM 0 rs->rk rs u<rk rs v->HT.lexLt v u=false:=fun {u v} hu hv h=>by
  obtain ⟨h1,e1⟩:=List.getElem?_eq_some_iff.mp (Fm hu)
  obtain ⟨h2,e2⟩:=List.getElem?_eq_some_iff.mp (Fm hv)
  have:=List.pairwise_iff_getElem.mp (By (AM 0 rs)) _ _ h1 h2 h
  rw[e1,e2] at this
  exact this
 rcases Nat.lt_trichotomy (rk rs x) (rk rs y) with c | c | c
 ·rw[decide_eq_true c]
  cases h:HT.lexLt x y with
  | true=>rfl
  | false=>
   have:=Ds (Dg hx) (Dg hy) h (key hx hy c)
   rw[this] at c
   lia
 ·rw[GU hx hy c,He]
  exact (decide_eq_false (by lia)).symm
 ·rw[key hy hx c]
  exact (decide_eq_false (by lia)).symm
def phi (rs:List (List Th)) (x:Nam):Nam:=(7 * (rk rs x:Int) - 300)::x.drop 1
theorem Iq (rs:List (List Th)):D1 (phi rs) (AM 0 rs):=fun x hx y hy=>by
 unfold phi
 rw[HT.Bz,Ua hx hy]
 by_cases c:rk rs x=rk rs y
 ·rw[GU hx hy c,if_pos rfl,He]
  exact (decide_eq_false (by lia)).symm
 ·rw[if_neg (by lia)]
  by_cases d:rk rs x<rk rs y
  ·rw[decide_eq_true d];exact decide_eq_true (by lia)
  ·rw[decide_eq_false d];exact decide_eq_false (by lia)
def Bv (rs:List (List Th)) (h:Int):Int->List Th->List Th
 | _,[]=>[]
 | i,t::r=>(7 * (rk rs [t.1,h,i]:Int) - 300,t.2)::Bv rs h (i+1) r
def C9 (rs:List (List Th)):Int->List (List Th)->List (List Th)
 | _,[]=>[]
 | h,r::qs=>Bv rs h 0 r::C9 rs (h+1) qs
theorem KP (rs:List (List Th)) (h:Int):∀ (i:Int) (r:List Th),Af h i (Bv rs h i r)=(Af h i r).map (phi rs)
 | _,[]=>rfl
 | i,t::r=>by
  unfold Bv
  rw[FT,KP rs h (i+1) r,FT,List.map_cons]
  rfl
theorem II (rs:List (List Th)):∀ (h:Int) (qs:List (List Th)),AM h (C9 rs h qs)=(AM h qs).map (phi rs)
 | _,[]=>rfl
 | h,r::qs=>by
  unfold C9 AM
  rw[KP,II rs (h+1) qs,List.map_append]
theorem Kg (rs:List (List Th)):∀ (h:Int) (qs:List (List Th)),(∀ x∈AM h qs,x∈AM 0 rs)->AQ h (C9 rs h qs)=(AQ h qs).map (List.map (phi rs))
 | _,[],_=>rfl
 | h,r::qs,hm=>by
  have i:=Kg rs (h+1) qs fun x hx=>hm x (by unfold AM;exact List.mem_append_right _ hx)
  unfold C9 AQ
  rw[i,KP,List.map_cons]
  congr 1
  refine sort_map fun x hx y hy h2=>?_
  have hx':=hm x (by unfold AM;exact List.mem_append_left _ hx)
  have hy':=hm y (by unfold AM;exact List.mem_append_left _ hy)
  rw[Iq rs y hy' x hx']
  exact h2
def BV (rs:List (List Th)):List (List Th):=C9 rs 0 rs
theorem I0 (rs:List (List Th)):AQ 0 (BV rs)=(AQ 0 rs).map (List.map (phi rs)):=Kg rs 0 rs fun x hx=>hx
theorem Jo (rs:List (List Th)):(BV rs).length=rs.length:=Fu (I0 rs)
theorem Rp (rs:List (List Th)) (s:Nat):Aq (BV rs) s=CN (BV rs) s:=X5 fun x hx y hy h=>by
 unfold BV at hx hy
 rw[II] at hx hy
 obtain ⟨x',hx',rfl⟩:=List.mem_map.mp hx
 obtain ⟨y',hy',rfl⟩:=List.mem_map.mp hy
 have h:7 * (rk rs x':Int) - 300=7 * (rk rs y':Int) - 300:=h
 have e:rk rs x'=rk rs y':=by lia
 rw[GU hx' hy' e]
theorem Uk (rs:List (List Th)):total (BV rs)=total rs:=by
 rw[<-Dp 0 (BV rs),<-Dp 0 rs]
 unfold BV
 rw[II,List.length_map]
def F0:MDF:=AU 3 JL
theorem QA {rs:List (List Th)} {h:Nat} {r:List Th} {Γ:Gm} (hr:rs[h]?=some r) (hl:r.length<=1000):Au (AZ 0) mTT (B6 (AB (mOp gIx (mOp gIx (mOp gIx (AA 1) (AA 2)) (AA 0)) (mC (.int 0))) (AB (AA 2) (AB (AA 0) AC)))) (upTo 0 r.length) [none,some (.v (AF rs)),some (.v (.int (h:Nat)))] Γ=some ((Af (h:Int) 0 r).map tupI,Γ):=by
 obtain ⟨ys,τ',Γ',e1,h1,hΓ,_⟩:=JD (g:=AZ 0) (t:=mTT) (e:=B6 (AB (mOp gIx (mOp gIx (mOp gIx (AA 1) (AA 2)) (AA 0)) (mC (.int 0))) (AB (AA 2) (AB (AA 0) AC)))) (items:=upTo 0 r.length)
  (fun i acc τ Γi=>acc=((Af (h:Int) 0 r).take i).map tupI/\Γi=Γ/\∃ a,τ=[a,some (.v (AF rs)),some (.v (.int (h:Nat)))]) (by
   rintro i d acc τ Γi hd ⟨rfl,hΓ,u,rfl⟩
   subst Γi
   obtain ⟨hi,rfl⟩:=D7 hd
   have ht:r[i]?=some r[i]:=List.getElem?_eq_getElem hi
   have ea:=CP (f:=thD) ht
   rw[show ((i:Nat):Int)=0+(i:Int) by lia] at ea
   let S:DS:=⟨[some (.v (.int (0+i))),some (.v (AF rs)),some (.v (.int (h:Nat)))],Γ,Γ.length⟩
   have w0:mOp gIx (AA 1) (AA 2) S=some (.v (AK r),S):=Ak (x:=.v (AF rs)) (y:=.v (.int (h:Nat))) (s1:=S) (s2:=S) rfl rfl (CP (f:=AK) hr)
   have w:mOp gIx (mOp gIx (mOp gIx (AA 1) (AA 2)) (AA 0)) (mC (.int 0)) S=some (.v (.int r[i].1),S):=Ak (Ak w0 (y:=.v (.int (0+i))) (s2:=S) rfl ea) rfl rfl
   refine ⟨S,_,rfl,rfl,.inl ⟨rfl,_,_,W5 w (y:=.int (h:Nat)) (z:=.int (0+i)) (s2:=S) (s3:=S) rfl rfl,rfl,?_,rfl,_,rfl⟩⟩
   rw[List.take_add_one,JZ (h:Int) 0 r i _ ht]
   simp[tupI]) (τ:=[none,some (.v (AF rs)),some (.v (.int (h:Nat)))]) (Γ:=Γ) ⟨by simp,rfl,none,rfl⟩
 rw[CH,<-DN (h:Int) 0 r,List.take_length] at h1
 rw[e1,h1,hΓ]
theorem LI (h:Int):∀ (rs:List (List Th)) (i:Nat) (r:List Th),rs[i]?=some r->AQ h (rs.take (i+1))=AQ h (rs.take i)++[AO (Af (h+i) 0 r)]
 | [],_,_,e=>by cases e
 | c::rs,0,r,e=>by cases e;simp[AQ]
 | c::rs,i+1,r,e=>by
  have:=LI (h+1) rs i r (by simpa using e)
  rw[List.take_succ_cons,List.take_succ_cons]
  show AO (Af h 0 c)::AQ (h+1) (rs.take (i+1))=AO (Af h 0 c)::AQ (h+1) (rs.take i)++_
  rw[this,show h+1+(i:Int)=h+((i+1:Nat):Int) by lia]
  rfl
theorem OG {rs:List (List Th)} {Γ:Gm} (hn:rs.length<=1000) (hr:∀ r∈rs,r.length<=1000):F0 [.v (AF rs)] Γ=some ((AQ 0 rs).map AV,Γ):=by
 let S:List D->Option SV->DS:=fun xs v=>⟨[some (.v (AF rs)),some (.b Γ.length),v],Γ++[some xs],Γ.length⟩
 have g1:BB 1 (Ap AC) ⟨[some (.v (AF rs)),none,none],Γ,Γ.length⟩=some (.nx (S [] none)):=by simp[S,show (0:Nat)<=big from Nat.zero_le _]
 have q0:AN Ad (AB (AA 0) AC) (S [] none)=some (.v (.int rs.length),S [] none):=Bg (s':=S [] none) (x:=.v (AF rs)) rfl (by show some (D.int ((rs.map AK).length:Nat))=_;rw[List.length_map])
 have q1:=JB q0 (by lia)
 obtain ⟨s',e1,v',rfl⟩:=Ck (g:=AZ 2) (b:=NB) (items:=upTo 0 rs.length) (fun i s=>∃ v,s=S ((AQ 0 (rs.take i)).map AV) v) (by
   rintro i d s hd ⟨v,rfl⟩
   obtain ⟨hi,rfl⟩:=D7 hd
   have hri:rs[i]?=some rs[i]:=List.getElem?_eq_getElem hi
   have hl:=hr _ (List.getElem_mem hi)
   let G:Gm:=Γ++[some ((AQ 0 (rs.take i)).map AV)]
   let T:DS:=S ((AQ 0 (rs.take i)).map AV) (some (.v (.int (0+i))))
   rw[show (0:Int)+(i:Int)=((i:Nat):Int) by lia] at *
   have w0:mOp gIx (AA 0) (AA 2) T=some (.v (AK rs[i]),T):=Ak (x:=.v (AF rs)) (y:=.v (.int (i:Nat))) (s1:=T) (s2:=T) rfl (by show some (SV.v (.int (0+i)),T)=_;rw[show (0:Int)+(i:Int)=((i:Nat):Int) by lia]) (CP (f:=AK) hri)
   have w1:AN Ad (AB (mOp gIx (AA 0) (AA 2)) AC) T=some (.v (.int (rs[i]).length),T):=Bg w0 (by show some (D.int ((rs[i].map thD).length:Nat))=_;rw[List.length_map])
   have w2:=JB w1 (by lia)
   have e:=QA (Γ:=G) hri hl
   have w3:AH (Aw (BF (AB (AN Ad (AB (mOp gIx (AA 0) (AA 2)) AC)) AC)) 1 [0,2] (AZ 0) mTT (B6 (AB (mOp gIx (mOp gIx (mOp gIx (AA 1) (AA 2)) (AA 0)) (mC (.int 0))) (AB (AA 2) (AB (AA 0) AC))))) T=some (.v (.lst ((Af (i:Int) 0 rs[i]).map tupI)),T):=Ay (B0 w2 (by rw[CH,BL];lia) (by
    show Au _ _ _ _ [none,some (.v (AF rs)),some (.v (.int (0+i)))] G=_
    rw[show (0:Int)+(i:Int)=((i:Nat):Int) by lia];exact e))
   have w4:A3 BH (AB (AH (Aw (BF (AB (AN Ad (AB (mOp gIx (AA 0) (AA 2)) AC)) AC)) 1 [0,2] (AZ 0) mTT (B6 (AB (mOp gIx (mOp gIx (mOp gIx (AA 1) (AA 2)) (AA 0)) (mC (.int 0))) (AB (AA 2) (AB (AA 0) AC)))))) AC) T=some ((AO (Af (i:Int) 0 rs[i])).map tupI,T):=by
    unfold A3
    rw[show AB (AH (Aw (BF (AB (AN Ad (AB (mOp gIx (AA 0) (AA 2)) AC)) AC)) 1 [0,2] (AZ 0) mTT (B6 (AB (mOp gIx (mOp gIx (mOp gIx (AA 1) (AA 2)) (AA 0)) (mC (.int 0))) (AB (AA 2) (AB (AA 0) AC)))))) AC T=some ([.v (.lst ((Af (i:Int) 0 rs[i]).map tupI))],T) by
     show ((AH _ T).bind _)=_
     rw[w3]
     rfl,Option.bind_some]
    rw[Jg (fun x hx=>JF x hx) rfl]
    rfl
   have w5:=Ay w4
   refine ⟨T,_,?_,?_,some (.v (.int (0+i))),rfl⟩
   ·show some _=some _
    simp[S,T]
   ·have et:=LI 0 rs i _ hri
    rw[show (0:Int)+(i:Int)=((i:Nat):Int) by lia] at et
    have hlen:((AQ 0 (rs.take i)).map AV).length<big:=by
     have:∀ (h:Int) (rs:List (List Th)),(AQ h rs).length=rs.length:=by
      intro h rs
      induction rs generalizing h with
      | nil=>rfl
      | cons r rs ih=>show (AQ (h+1) rs).length+1=_;rw[ih];rfl
     rw[List.length_map,this,List.length_take,BL];lia
    refine (Wq (n:=Γ.length) (s:=T) (s':=T) rfl Cc w5 Cc hlen).trans ?_
    show some (Out.nx (⟨_,(Γ++[_]).set Γ.length _,_⟩:DS))=_
    rw[EZ,et,List.map_append]
    rfl)
  (s:=S [] none) ⟨none,by simp[AQ]⟩
 rw[CH,List.take_length] at e1
 unfold F0 AU JL
 show (AI _ _ ⟨[some (.v (AF rs)),none,none],Γ,Γ.length⟩).bind _=_
 rw[Aa g1,Aa (show BP _ _ _ _=_ by unfold BP;rw[q1,Option.bind_some];exact e1)]
 simp[S,Ah,Cn]
end DL
namespace DL
open PySem L2 Ev
abbrev HP:Stmt:=top 32
abbrev LV:List Str:=["rows","names","some","places","k","name"]
theorem sc__law_unlike:FnScope LV ["rows"] (AY HP):=⟨rfl,rfl,rfl,by decide +kernel,rfl,by decide +kernel,by decide +kernel⟩
theorem V6 {g:Gm->List SV->Option (List D)} {m:ME} {s s1:DS} {x:SV} {z:List D} (h:m s=some (x,s1)) (hg:g s1.Γ [x]=some z):A3 g (AB m AC) s=some (z,s1):=by
 unfold A3 AB AC;rw[h];show ((g s1.Γ [x]).map _)=_;rw[hg];rfl
theorem QG {Γ:Gm} {nss:List (List Int)} (hn:∀ ns∈nss,ns≠[]) {x:SV} (hx:elems Γ x=some (nss.map tupI)):BH Γ [x]=some ((AO nss).map tupI):=by
 unfold BH
 rw[Iw hn hx]
theorem RE {X:Cx} {K:PySem.W.Frag} (h:X.K=K):SlR X (Lj K):=h▸XW
theorem Lh (h:Int):∀ (i:Int) (r:List Th) (k:Nat) (t:Th),r[k]?=some t->[t.1,h,i+(k:Int)]∈Af h i r
 | _,[],_,_,e=>by cases e
 | i,c::r,0,t,e=>by
  cases e
  rw[FT,show i+((0:Nat):Int)=i by lia]
  exact List.mem_cons_self
 | i,c::r,k+1,t,e=>by
  rw[FT,show i+((k+1:Nat):Int)=i+1+(k:Int) by lia]
  exact List.mem_cons_of_mem _ (Lh h (i+1) r k t (by simpa using e))
theorem Kp:∀ {h:Int} {rs:List (List Th)} {j k:Nat} {r:List Th} {t:Th},rs[j]?=some r->r[k]?=some t->[t.1,h+(j:Int),(k:Int)]∈AM h rs
 | _,[],_,_,_,_,e,_=>by cases e
 | h,c::rs,0,k,r,t,e,e2=>by
  cases e
  unfold AM
  have:=Lh h 0 c k t e2
  rw[show (0:Int)+(k:Int)=(k:Int) by lia] at this
  rw[show h+((0:Nat):Int)=h by lia]
  exact List.mem_append_left _ this
 | h,c::rs,j+1,k,r,t,e,e2=>by
  unfold AM
  have:=Kp (h:=h+1) (rs:=rs) (j:=j) (by simpa using e) e2
  rw[show h+((j+1:Nat):Int)=h+1+(j:Int) by lia]
  exact List.mem_append_right _ this
abbrev kT (x:Nat×Nat):List Key:=[Sum.inl (x.1:Int),Sum.inl (x.2:Int)]
theorem UR {x y:Nat×Nat} (h:kT x=kT y):x=y:=by
 have h1:=List.cons.inj h
 have h2:=List.cons.inj h1.2
 have e1:=Sum.inl.inj h1.1
 have e2:=Sum.inl.inj h2.1
 exact Prod.ext (by lia) (by lia)
structure PlD (rs:List (List Th)) (i:Nat) (kvs:List (List Key×V)):Prop where
 val:∀ (j k:Nat) (r:List Th) (t:Th),rs[j]?=some r->r[k]?=some t->rk rs [t.1,(j:Int),(k:Int)]<i->A7 kvs (kT (j,k))=some (.int (rk rs [t.1,(j:Int),(k:Int)]:Nat))
 len:kvs.length<=i
theorem IH {rs:List (List Th)} {j k:Nat} {r:List Th} {t:Th} (h1:rs[j]?=some r) (h2:r[k]?=some t):[t.1,(j:Int),(k:Int)]∈AM 0 rs:=by
 have e:=(Kp (h:=0) h1 h2)
 rw[show (0:Int)+(j:Int)=(j:Int) by lia] at e
 exact e
theorem PlD.put {rs:List (List Th)} {i:Nat} {kvs:List (List Key×V)} (h:PlD rs i kvs) {j k:Nat} {r:List Th} {t:Th} (h1:rs[j]?=some r) (h2:r[k]?=some t) (hi:rk rs [t.1,(j:Int),(k:Int)]=i):PlD rs (i+1) (putK kvs (kT (j,k)) (.int (i:Nat))):=by
 refine ⟨fun j' k' r' t' e1 e2 hl=>?_,?_⟩
 ·rw[OH]
  by_cases c:(j',k')=(j,k)
  ·cases c
   rw[h1] at e1
   cases e1
   rw[h2] at e2
   cases e2
   rw[if_pos rfl,hi]
  ·rw[if_neg (fun z=>c (UR z))]
   refine h.val j' k' r' t' e1 e2 ?_
   by_cases d:rk rs [t'.1,(j':Int),(k':Int)]=i
   ·have e:=GU (IH e1 e2) (IH h1 h2) (d.trans hi.symm)
    have e3:=(List.cons.inj (List.cons.inj e).2).1
    have e4:=(List.cons.inj (List.cons.inj (List.cons.inj e).2).2).1
    exact absurd (Prod.ext (by lia) (by lia)) c
   ·lia
 ·have:=Gx kvs (kT (j,k)) (.int (i:Nat))
  have:=h.len
  lia
theorem OS (rs:List (List Th)) (h:Int):∀ (i:Int) (r:List Th) (k:Nat) (t:Th),r[k]?=some t->(Bv rs h i r)[k]?=some (7 * (rk rs [t.1,h,i+(k:Int)]:Int) - 300,t.2)
 | _,[],_,_,e=>by cases e
 | i,c::r,0,t,e=>by
  cases e
  unfold Bv
  rw[show i+((0:Nat):Int)=i by lia]
  rfl
 | i,c::r,k+1,t,e=>by
  unfold Bv
  rw[List.getElem?_cons_succ,OS rs h (i+1) r k t (by simpa using e),show i+1+(k:Int)=i+((k+1:Nat):Int) by lia]
theorem Na (rs:List (List Th)) (h:Int):∀ (i:Int) (r:List Th),(Bv rs h i r).length=r.length
 | _,[]=>rfl
 | i,c::r=>by unfold Bv;rw[List.length_cons,List.length_cons,Na rs h (i+1) r]
theorem Kh (rs:List (List Th)):∀ (h:Int) (qs:List (List Th)) (j:Nat) (r:List Th),qs[j]?=some r->(C9 rs h qs)[j]?=some (Bv rs (h+(j:Int)) 0 r)
 | _,[],_,_,e=>by cases e
 | h,c::qs,0,r,e=>by
  cases e
  unfold C9
  rw[show h+((0:Nat):Int)=h by lia]
  rfl
 | h,c::qs,j+1,r,e=>by
  unfold C9
  rw[List.getElem?_cons_succ,Kh rs (h+1) qs j r (by simpa using e),show h+1+(j:Int)=h+((j+1:Nat):Int) by lia]
theorem W7 {rs:List (List Th)} {j:Nat} {r:List Th} (h:rs[j]?=some r):(BV rs)[j]?=some (Bv rs (j:Int) 0 r):=by
 unfold BV
 rw[Kh rs 0 rs j r h,show (0:Int)+(j:Int)=(j:Int) by lia]
open Classical in
def ED:MS:=fun s=>match s.σ with
 | [some (.v R),some (.v N),y2,_,_,_]=>
  if ∃ rs:List (List Th),R=AF rs/\N=AV (AQ 0 rs).flatten/\rs.length<=100/\total rs<=5000 then
   some (.rf ((BV (Classical.epsilon fun rs:List (List Th)=>R=AF rs/\N=AV (AQ 0 rs).flatten/\rs.length<=100/\total rs<=5000)).map AK) {s with σ:=[some (.v R),some (.v N),y2,none,none,none]}) else none
 | _=>none
theorem K7 {a b:List (List Th)} (h:AF a=AF b):a=b:=by
 unfold AF at h
 have h:=D.lst.inj h
 have inj:Function.Injective AK:=fun x y e=>by
  unfold AK at e
  have e:=D.lst.inj e
  have inj2:Function.Injective thD:=fun u v e=>by
   unfold thD at e
   have e:=D.tup.inj e
   have e1:=D.int.inj (List.cons.inj e).1
   have e2:=D.str.inj (List.cons.inj (List.cons.inj e).2).1
   exact Prod.ext e1 e2
  exact (List.map_inj_right inj2).mp e
 exact (List.map_inj_right (fun x y e=>inj e)).mp h
theorem Vi {rs:List (List Th)} {y2 y3 y4 y5:Option SV} {Γ:Gm} {lo:Nat} (h6:rs.length<=100) (hz:total rs<=5000):ED ⟨[some (.v (AF rs)),some (.v (AV (AQ 0 rs).flatten)),y2,y3,y4,y5],Γ,lo⟩=some (.rf ((BV rs).map AK) ⟨[some (.v (AF rs)),some (.v (AV (AQ 0 rs).flatten)),y2,none,none,none],Γ,lo⟩):=by
 have ex:∃ rs':List (List Th),AF rs=AF rs'/\AV (AQ 0 rs).flatten=AV (AQ 0 rs').flatten/\rs'.length<=100/\total rs'<=5000:=⟨rs,rfl,rfl,h6,hz⟩
 unfold ED
 simp only[]
 rw[if_pos ex,<-K7 (Classical.epsilon_spec ex).1]
theorem Lp {x y:V}:([x,y]:List V).length<=sizeLine:=Ev.small (show 2<=1000000 by decide)
theorem RF {X:Cx} {a b c:Stmt} {ta tb tc:TS} {m:MS} (ha:PS X a ta) (hb:PS X b tb) (hc:PS X c tc)
  (k:∀ (f:Fr),f.K=X.K->∀ E σ H,tDS f m E σ H->Dy ta (Dy tb tc) E σ H):DSs X [a,b,c] m:=
 fun f hf=>PSs.imp (EJ ha (EJ hb (FA hc))) (k f hf)
def C7 (H:Hp) (l:Addr):Hp:=fun b=>if b=l then none else H b
theorem YL {H:Hp} {l:Addr} {o:HO} (h:H l=some o):upd (C7 H l) l o=H:=by
 funext b
 by_cases c:b=l
 ·rw[c,Am,h]
 ·rw[AJ c]
  unfold C7
  rw[if_neg c]
def Ks:MS:=(BR (De (AA 1) (AA 2)))
def Hj (yR:MDF):MS:=(AI (BB 1 (Ap AC))
 (AI (BP (Ax (AH (AX yR (AB (AA 0) AC)))) (AZ 2) (Ks))
 (EW 1 ED)))
abbrev scU:Scope:=({kind:=.function,names:=[(".0",.local),("h",.cell),("range",.globalImplicit),("len",.globalImplicit),("places",.cell),("rows",.cell)],isGenerator:=false,isCoroutine:=false}:Scope)
theorem Qy {rs:List (List Th)} {a b c d:Option D} (hz:total rs<=5000):AH (A3 BH (AB (AA 1) AC)) (slD [some (AF rs),some (AV (AQ 0 rs).flatten),a,b,c,d])=some (.v (AV (AO (AM 0 rs))),slD [some (AF rs),some (AV (AQ 0 rs).flatten),a,b,c,d]):=by
 let S:DS:=slD [some (AF rs),some (AV (AQ 0 rs).flatten),a,b,c,d]
 have e:AO (AQ 0 rs).flatten=AO (AM 0 rs):=Fs ((Av _).trans (DP 0 rs) |>.trans (Av _).symm) (By _) (By _)
 have:=QG (Γ:=S.Γ) (nss:=(AQ 0 rs).flatten) (fun ns hn=>by
  obtain ⟨a,b,c,rfl⟩:=Dg (Mg hn)
  exact fun z=>nomatch z) (x:=.v (AV (AQ 0 rs).flatten)) rfl
 rw[e] at this
 exact Ay (V6 (x:=.v (AV (AQ 0 rs).flatten)) (s1:=S) rfl this)
theorem Vm {rs:List (List Th)} {j k:Nat} {r:List Th} {t:Th} (h1:rs[j]?=some r) (h2:r[k]?=some t):mOp gIx (mOp gIx (mOp gIx (AA 3) (AA 2)) (AA 0)) (mC (.int 1)) (slD [some (.int (k:Int)),none,some (.int (j:Int)),some (AF rs)])=some (.v (.str t.2),slD [some (.int (k:Int)),none,some (.int (j:Int)),some (AF rs)]):=by
 let S:DS:=slD [some (.int (k:Int)),none,some (.int (j:Int)),some (AF rs)]
 have w1:mOp gIx (AA 3) (AA 2) S=some (.v (AK r),S):=Ak (x:=.v (AF rs)) (y:=.v (.int (j:Int))) (s1:=S) (s2:=S) rfl rfl (by show atI (rs.map AK) (j:Int)=_;exact CP h1)
 have w2:mOp gIx (mOp gIx (AA 3) (AA 2)) (AA 0) S=some (.v (thD t),S):=Ak w1 (y:=.v (.int (k:Int))) (s2:=S) rfl (by show atI (r.map thD) (k:Int)=_;exact CP h2)
 exact Ak w2 (y:=.v (.int 1)) (s2:=S) rfl rfl
theorem Vx {rs:List (List Th)} {j:Nat} {r:List Th} (h1:rs[j]?=some r):AN Ad (AB (mOp gIx (AA 1) (AA 0)) AC) (slD [some (.int (j:Int)),some (AF rs),none])=some (.v (.int (r.length:Nat)),slD [some (.int (j:Int)),some (AF rs),none]):=by
 let S:DS:=slD [some (.int (j:Int)),some (AF rs),none]
 have w1:mOp gIx (AA 1) (AA 0) S=some (.v (AK r),S):=Ak (x:=.v (AF rs)) (y:=.v (.int (j:Int))) (s1:=S) (s2:=S) rfl rfl (by show atI (rs.map AK) (j:Int)=_;exact CP h1)
 exact Bg w1 (by show some (D.int ((r.map thD).length:Nat))=_;rw[List.length_map])
theorem Tj {rs:List (List Th)} {a b c d e:Option D}:AN Ad (AB (AA 0) AC) (slD [some (AF rs),a,b,c,d,e])=some (.v (.int (rs.length:Nat)),slD [some (AF rs),a,b,c,d,e]):=by
 let S:DS:=slD [some (AF rs),a,b,c,d,e]
 exact Bg (x:=.v (AF rs)) (s':=S) rfl (by show some (D.int ((rs.map AK).length:Nat))=_;rw[List.length_map])
theorem VI {P:Program} {w:World} {K:PySem.W.Frag} {mg:Str->Option Value} {base:Heap} {fa:Addr} {fd:FuncData} (F:Fun K "_law_unlike" "_law_unlike" HP fa fd) (T:Nm mg) {wD:Addr} {wE:FuncData} {yR:MDF} (yS:Cal P w K mg base "_law_hands" 1 wD wE ["rows"] (spF K 1 yR)):FnOk P w K mg base CX0 2 fa fd ["rows"] (spF K 1 (AU 6 (Hj yR))):=
 Bn F sc__law_unlike fun cdv A outer s H E hr=>(AW (Cm (fun te h=>Ai (i:=1) sc__law_unlike.nd rfl (Or.inl rfl) h) (Bw AG))
 (AW (Co PassesOwn.never rfl (CL (Al (BE yS.G hr rfl yS.m yS.k yS.b (AE (AD (pv 0)) AG) (AL Aj)))) (Bf (An (i:=2) sc__law_unlike.nd rfl (Or.inl rfl))) (Ae (DR (J6 (AD (pv 1)) (AD (pv 2))))))
 (Xj (RF (m:=ED)
  (Ai (i:=3) sc__law_unlike.nd rfl (Or.inr rfl) X7)
  (Jj PassesOwn.never rfl (O2 rfl T.enum (Bs (DE.xK (K:=K) rfl (Al (ES T (AE (AD (pv 1)) AG)))) Ca)) (DV (K:=K) (n:=2) rfl rfl (Bk (An (i:=4) sc__law_unlike.nd rfl (Or.inl rfl)) (Bk (An (i:=5) sc__law_unlike.nd rfl (Or.inl rfl)) Dh)))
   (FA (Kv (FW hr) (pv 3) (N4 (RE (K:=K) rfl) (pv 5) (Pp DX) OI) (pv 4) rfl)))
  (GX (Hu (esc:=(AY HP)) (N:=LV) (tn:=["h"]) (fn:=["rows","places"]) (ix:=[0,3]) rfl rfl rfl ⟨rfl,by decide +kernel,by decide +kernel,by decide +kernel,rfl,by decide +kernel⟩
   (Jp rfl T.range (Bs (DE.xK (K:=K) rfl (BY T (AE (AD (pv 0)) AG))) Ca))
   (fun _ _ _ _ _=>An (i:=0) (show (["h","rows","places"]:List Str).Nodup by decide +kernel) rfl (Or.inr rfl) (Or.inl rfl)) (fun _ _ _ _ _=>Gs)
   (fun _ _ _ _ _=>Hu (esc:=scU) (N:=["h","rows","places"]) (tn:=["k"]) (fn:=["places","h","rows"]) (ix:=[2,0,1]) rfl (by rfl) rfl ⟨rfl,by decide +kernel,by decide +kernel,by decide +kernel,rfl,by decide +kernel⟩
    (Jp rfl T.range (Bs (DE.xK (K:=K) rfl (BY T (AE (Ba (AD (pv 1)) (AD (pv 0))) AG))) Ca))
    (fun _ _ _ _ _=>An (i:=0) (show (["k","places","h","rows"]:List Str).Nodup by decide +kernel) rfl (Or.inl rfl)) (fun _ _ _ _ _=>Gs)
    (fun _ _ _ _ _=>Jk (Bs (Dr Pb (Dr L1 DX (OA (FW hr) (pv 1) (Jk (Bs (pv 2) (Bs (pv 0) Ca))) (fun _ _=>rfl))) DX) (Bs (DE.xK (K:=K) rfl (Ba (Ba (Ba (AD (pv 3)) (AD (pv 2))) (AD (pv 0))) AR)) Ca))))))
  (by
   intro f hf E' σ' H' h
   obtain ⟨α,S,o,rS,lo,e,q⟩:=h
   unfold ED at e
   split at e
   case h_2=>cases e
   rename_i R N y2 y3 y4 y5 hS
   split at e
   case isFalse=>cases e
   rename_i hx
   obtain ⟨rs,rfl,rfl,h6,hz⟩:=id hx
   rw[<-K7 (Classical.epsilon_spec hx).1] at e
   cases e
   have hfK:f.K=K:=hf
   have hl6:σ'.length=6:=by rw[<-rS.len,hS];rfl
   obtain ⟨z0,z1,z2,z3,z4,z5,rfl⟩:∃ z0 z1 z2 z3 z4 z5,σ'=[z0,z1,z2,z3,z4,z5]:=by
    match σ',hl6 with
    | [z0,z1,z2,z3,z4,z5],_=>exact ⟨_,_,_,_,_,_,rfl⟩
   obtain ⟨v0,hv0,rv0⟩:=rS.tree (i:=0) (d:=AF rs) (by rw[hS];rfl)
   obtain ⟨v1,hv1,rv1⟩:=rS.tree (i:=1) (d:=AV (AQ 0 rs).flatten) (by rw[hS];rfl)
   rw[hfK] at rv0 rv1
   cases hv0
   cases hv1
   intro m hm
   have g0:Grow H' (upd H' m (.dT [])):=.new hm
   refine Ew (ds:=[some (AF rs),some (AV (AQ 0 rs).flatten),none,none,none,none]) (.cons (rv0.kw g0.kw) (.cons (rv1.kw g0.kw) (.skip (.skip (.skip (.skip .nil)))))) (Qy hz) fun sv H1 g1 rsv=>?_
   have hm1:H1 m=some (.dT []):=g1 _ _ Am
   unfold AV Rep at rsv
   obtain ⟨sa,svs,rfl,-,hsa,hsv⟩:=rsv
   have hsa:H1 sa=some (.lst svs):=hsa
   have hsl:svs.length=total rs:=by rw[hsv.len,List.length_map,Ed]
   have hms:sa≠m:=GR hsa hm1 (fun z=>nomatch z)
   have offM:∀ {Hi:Hp} {b:Addr} {o:HO},(∀ b o,b≠m->H1 b=some o->Hi b=some o)->H' b=some o->Hi b=some o:=fun {Hi b o} g e=>g b o (As e hm) (g1 b o (g0 b o e))
   refine ⟨sa,svs,rfl,SqL.of hsa,?_⟩
   refine NQ (total rs) (fun i σ Hi=>∃ (kvs:List (List Key×V)) (u4 u5:Option V),σ=[some v0,some v1,z2,some (.ref m),u4,u5]/\(∀ b o,b≠m->H1 b=some o->Hi b=some o)/\Hi m=some (.dT kvs)/\PlD rs i kvs) ?_ ?_ ?_ ?_ ?_
   ·exact ⟨[],_,_,rfl,fun b o _ e=>e,hm1,⟨fun j k r t _ _ z=>absurd z (Nat.not_lt_zero _),Nat.le_refl _⟩⟩
   ·rintro i σ Hi hi ⟨kvs,u4,u5,rfl,g,hmi,pd⟩
    exact ⟨svs,svs[i]'(by lia),SqL.of (g _ _ hms hsa),List.getElem?_eq_getElem _⟩
   ·rintro σ Hi ⟨kvs,u4,u5,rfl,g,hmi,pd⟩
    exact ⟨svs,SqL.of (g _ _ hms hsa),by lia⟩
   ·rintro i v σ Hi H'' hi ⟨kvs,u4,u5,rfl,g,hmi,pd⟩ ⟨T',z,hT,rfl,rfl,hzz⟩
    have hz1:=hzz _ (SqL.of (g _ _ hms hsa))
    obtain ⟨d,hd1,hd2⟩:=hsv.get' hz1
    obtain ⟨x,hx,rfl⟩:=Cu hd1
    obtain ⟨j,k,r,t,e1,e2,rfl⟩:=Ib (List.mem_of_getElem? hx)
    have hrk:=LF hx
    obtain ⟨b,rfl,hb⟩:=Ih hd2
    have hb:H1 b=some (.tup [.int t.1,.int (j:Int),.int (k:Int)]):=hb
    have hbm:b≠m:=GR hb hm1 (fun z=>nomatch z)
    have g2:Grow Hi (upd Hi T' (.tup [.int i,.ref b])):=.new hT
    refine ⟨T',_,rfl,SqT.of Am,rfl,_,_,rfl,_,_,rfl,rfl,?_⟩
    refine ⟨_,rfl,_,rfl,_,rfl,_,rfl,b,_,rfl,SqT.of (g2 _ _ (g _ _ hbm hb)),fun z=>absurd (show HT.sIx 3 0 (some 1)=0 from z.1) (by decide),fun T2 hT2=>?_⟩
    have g3:Grow (upd Hi T' (.tup [.int i,.ref b])) (upd (upd Hi T' (.tup [.int i,.ref b])) T2 (.tup [.int (j:Int),.int (k:Int)])):=.new hT2
    have hT2':(upd (upd Hi T' (.tup [.int i,.ref b])) T2 (.tup [.int (j:Int),.int (k:Int)])) T2=some (.tup ((kT (j,k)).map kV)):=Am
    have G:=g2.trans g3
    have hle:=pd.len
    refine ⟨m,_,rfl,DPut.t (k:=kT (j,k)) (G _ _ hmi) hT2' (Du (by lia)),_,_,_,rfl,fun b' o nb eb=>?_,Am,pd.put e1 e2 hrk⟩
    rw[AJ nb]
    exact G _ _ (g b' o nb eb)
   rintro σ H2 ⟨kvs,u4,u5,rfl,g2,hm2,pd⟩
   have G2:Grow H' H2:=fun b o e=>offM g2 e
   refine Ew (ds:=[some (AF rs),none,none,none,none,none]) (.cons (rv0.kw G2.kw) (.skip (.skip (.skip (.skip (.skip .nil)))))) Tj fun nv H3 g3 rn=>?_
   unfold Rep at rn
   subst rn
   refine ⟨_,rfl,by lia,by lia,fun l hl=>?_⟩
   rw[show ((rs.length:Nat):Int).toNat=rs.length by lia]
   have hm3:H3 m=some (.dT kvs):=g3 _ _ hm2
   have hml:m≠l:=As hm3 hl
   have G3:=G2.trans g3
   have hl':H' l=none:=G3.none hl
   refine HI rs.length (fun i τ Hi=>∃ (ws:List V) (u:Option V),τ=[u,some v0,some (.ref m)]/\Hi l=some (.lst ws)/\(∀ b o,b≠l->H3 b=some o->Hi b=some o)/\Reps ⟨K,fun a=>H' a≠none\/a=l,Hi⟩ (((BV rs).take i).map AK) ws) ?_ ?_ ?_ ?_ ?_
   ·exact ⟨[],none,rfl,Am,fun b o nb e=>by rw[AJ nb];exact e,.nil⟩
   ·rintro i τ Hi hi _
    exact hi
   ·rintro τ Hi _
    exact Nat.le_refl _
   ·rintro i x τ Hi Hi' hi ⟨ws,u,rfl,hli,gi,hr⟩ ⟨rfl,rfl⟩
    have hri:rs[i]?=some rs[i]:=List.getElem?_eq_getElem hi
    have Gi:Grow H' Hi':=fun b o e=>gi b o (fun z=>by rw[z,hl'] at e;cases e) (G3 b o e)
    have hwl:ws.length<=rs.length:=by
     rw[hr.len,List.length_map,List.length_take,Jo]
     lia
    dsimp only[DJ,HN]
    rw[if_pos rfl,show (0:Int)+(i:Int)=(i:Int) by lia]
    refine Ew (ds:=[some (.int (i:Int)),some (AF rs),none]) (.cons (by unfold Rep;rfl) (.cons (rv0.kw Gi.kw) (.skip .nil))) (Vx hri) fun nv H4 g4 rn=>?_
    unfold Rep at rn
    subst rn
    have hrl:rs[i].length<=5000:=by have:=Fo (List.getElem_mem hi);lia
    refine ⟨_,rfl,by lia,by lia,fun l2 hl2=>?_⟩
    rw[show ((rs[i].length:Nat):Int).toNat=rs[i].length by lia]
    have hl4:H4 l=some (.lst ws):=g4 _ _ hli
    have hll:l≠l2:=As hl4 hl2
    have hm4:H4 m=some (.dT kvs):=g4 _ _ (gi _ _ hml hm3)
    have hml2:m≠l2:=As hm4 hl2
    have G4:=Gi.trans g4
    have hl2':H' l2=none:=G4.none hl2
    refine HI rs[i].length (fun k τ Hk=>∃ (us:List V) (u:Option V),τ=[u,some (.ref m),some (.int (i:Int)),some v0]/\Hk l2=some (.lst us)/\us.length=k/\(∀ b o,b≠l2->H4 b=some o->Hk b=some o)/\Reps ⟨K,fun a=>H' a≠none\/a=l\/a=l2,Hk⟩ (((Bv rs (i:Int) 0 rs[i]).take k).map thD) us) ?_ ?_ ?_ ?_ ?_
    ·exact ⟨[],none,rfl,Am,rfl,fun b o nb e=>by rw[AJ nb];exact e,.nil⟩
    ·rintro k τ Hk hk _
     exact hk
    ·rintro τ Hk _
     exact Nat.le_refl _
    ·rintro k x τ Hk Hk' hk ⟨us,u,rfl,hlk,hul,gk,hrk⟩ ⟨rfl,rfl⟩
     have htk:rs[i][k]?=some rs[i][k]:=List.getElem?_eq_getElem hk
     dsimp only[DJ,HN]
     rw[if_pos rfl,show (0:Int)+(k:Int)=(k:Int) by lia]
     have hmk:Hk' m=some (.dT kvs):=gk _ _ hml2 hm4
     have Gk:Grow H' Hk':=fun b o e=>gk b o (fun z=>by rw[z,hl2'] at e;cases e) (G4 b o e)
     refine ⟨_,rfl,_,rfl,_,rfl,Lp,fun T1 hT1=>?_⟩
     have g5:Grow Hk' (upd Hk' T1 (.tup [.int (i:Int),.int (k:Int)])):=.new hT1
     have hT1':(upd Hk' T1 (.tup [.int (i:Int),.int (k:Int)])) T1=some (.tup ((kT (i,k)).map kV)):=Am
     generalize upd Hk' T1 (.tup [.int (i:Int),.int (k:Int)])=H5 at g5 hT1'
     have hin:=IH hri htk
     have hlt:rk rs [rs[i][k].1,(i:Int),(k:Int)]<total rs:=by
      have:=(List.getElem?_eq_some_iff.mp (Fm hin)).1
      rw[Ed] at this
      exact this
     have hv:=pd.val i k _ _ hri htk hlt
     have hget:DGet H5 m (.ref T1) (some (.int (rk rs [rs[i][k].1,(i:Int),(k:Int)]:Nat))):=by
      rw[<-hv]
      exact DGet.t (k:=kT (i,k)) (g5 _ _ hmk) hT1'
     refine ⟨m,_,rfl,hget,_,_,rfl,rfl,.inl ⟨by decide,by decide⟩,_,_,rfl,rfl,?_⟩
     refine Ew (ds:=[some (.int (k:Int)),none,some (.int (i:Int)),some (AF rs)]) (.cons (by unfold Rep;rfl) (.skip (.cons (by unfold Rep;rfl) (.cons (rv0.kw (Gk.trans g5).kw) .nil)))) (Vm hri htk) fun tv H6 g6 rt=>?_
     unfold Rep at rt
     subst rt
     refine ⟨Lp,fun T2 hT2=>?_⟩
     have G6:=g5.trans g6
     have hl6:H6 l2=some (.lst us):=G6 _ _ hlk
     have hT2l:l2≠T2:=As hl6 hT2
     have hT26:l≠T2:=As (G6 _ _ (gk _ _ hll hl4)) hT2
     have hT2H:H' T2=none:=(Gk.trans G6).none hT2
     refine ⟨us,by rw[AJ hT2l];exact hl6,Du (by lia),us++[.ref T2],_,rfl,Am,by rw[List.length_append,hul];rfl,fun b o nb eb=>?_,?_⟩
     ·rw[AJ nb]
      have:=G6 _ _ (gk b o nb eb)
      rw[AJ (As this hT2)]
      exact this
     ·have ht:(Bv rs (i:Int) 0 rs[i])[k]?=some (7 * (rk rs [rs[i][k].1,(i:Int),(k:Int)]:Int) - 300,rs[i][k].2):=by
       rw[OS rs (i:Int) 0 rs[i] k _ htk,show (0:Int)+(k:Int)=(k:Int) by lia]
      rw[List.take_add_one,ht]
      simp only[Option.toList_some,List.map_append,List.map_cons,List.map_nil]
      have kw:Kw ⟨K,fun a=>H' a≠none\/a=l\/a=l2,Hk'⟩ ⟨K,fun a=>H' a≠none\/a=l\/a=l2,upd (upd H6 T2 (.tup [.int (7 * ((rk rs [rs[i][k].1,(i:Int),(k:Int)]:Nat):Int) - 300),.str rs[i][k].2])) l2 (.lst (us++[.ref T2]))⟩:=⟨rfl,fun a o na ea=>⟨by
       show (upd _ l2 _) a=_
       rw[AJ (fun z=>na (.inr (.inr z)))]
       have:=G6 _ _ ea
       rw[AJ (As this hT2)]
       exact this,na⟩⟩
      refine (hrk.kw kw).append (.cons ?_ .nil)
      unfold thD Rep
      refine ⟨T2,_,rfl,fun z=>?_,?_,.cons (by unfold Rep;rfl) (.cons (by unfold Rep;rfl) .nil)⟩
      ·rcases z with z | z | z
       ·exact z hT2H
       ·exact hT26 z.symm
       ·exact hT2l z.symm
      ·show (upd _ l2 _) T2=_
       rw[AJ (Ne.symm hT2l),Am]
    ·rintro τ Hk ⟨us,u,rfl,hlk,hul,gk,hrk⟩
     have eu:(Bv rs (i:Int) 0 rs[i]).take rs[i].length=Bv rs (i:Int) 0 rs[i]:=List.take_of_length_le (by rw[Na];exact Nat.le_refl _)
     rw[eu] at hrk
     have hlk':Hk l=some (.lst ws):=gk _ _ hll hl4
     refine ⟨ws,hlk',Du (by lia),ws++[.ref l2],_,rfl,Am,fun b o nb eb=>?_,?_⟩
     ·rw[AJ nb]
      exact gk b o (fun z=>by rw[z] at eb;have:=g4 _ _ (gi _ _ (fun y=>nb (by rw[z];exact y)) eb);rw[hl2] at this;cases this) (g4 _ _ (gi b o nb eb))
     ·rw[List.take_add_one,W7 hri]
      simp only[Option.toList_some,List.map_append,List.map_cons,List.map_nil]
      have kw1:Kw ⟨K,fun a=>H' a≠none\/a=l,Hi'⟩ ⟨K,fun a=>H' a≠none\/a=l,upd Hk l (.lst (ws++[.ref l2]))⟩:=⟨rfl,fun a o na ea=>⟨by
       show (upd _ l _) a=_
       rw[AJ (fun z=>na (.inr z))]
       have ea4:=g4 _ _ ea
       exact gk a o (As ea4 hl2) ea4,na⟩⟩
      have kw2:Kw ⟨K,fun a=>H' a≠none\/a=l\/a=l2,Hk⟩ ⟨K,fun a=>H' a≠none\/a=l,upd Hk l (.lst (ws++[.ref l2]))⟩:=⟨rfl,fun a o na ea=>⟨by
       show (upd _ l _) a=_
       rw[AJ (fun z=>na (.inr (.inl z)))]
       exact ea,fun z=>na (by rcases z with z | z;exact .inl z;exact .inr (.inl z))⟩⟩
      refine (hr.kw kw1).append (.cons ?_ .nil)
      unfold AK Rep
      refine ⟨l2,us,rfl,fun z=>?_,?_,hrk.kw kw2⟩
      ·rcases z with z | z
       ·exact z hl2'
       ·exact hll z.symm
      ·show (upd _ l _) l2=_
       rw[AJ (Ne.symm hll)]
       exact hlk
   rintro τ Hc ⟨ws,u,rfl,hlc,gc,hr⟩
   rw[List.take_of_length_le (by rw[Jo];exact Nat.le_refl _)] at hr
   have GF:Grow H' (C7 Hc l):=fun b o e=>by
    have nb:b≠l:=fun z=>by rw[z,hl'] at e;cases e
    unfold C7
    rw[if_neg nb]
    exact gc b o nb (G3 b o e)
   obtain ⟨rS5,ex5⟩:=rS.grow GF
   have kwf:Kw ⟨K,fun a=>H' a≠none\/a=l,Hc⟩ (wd f α S.Γ (C7 Hc l)):=⟨hfK,fun a o na ea=>⟨by
    show C7 Hc l a=_
    unfold C7
    rw[if_neg (fun z=>na (.inr z))]
    exact ea,fun z=>by
    have h':H' a=none:=by
     cases e7:H' a with
     | none=>rfl
     | some o=>exact absurd (.inl (by rw[e7];exact fun z=>nomatch z)) na
    rcases z with z | ⟨n,xs,z1,z2⟩
    ·exact rS.forb a z h'
    ·obtain ⟨vs,z3,_⟩:=rS.box n xs z1
     rw[z2,h'] at z3
     cases z3⟩⟩
   have fin:=q α [some v0,some v1,z2,some (.ref m),u4,u5] l ws (C7 Hc l) (rS5.slots (τ:=[some (.v (AF rs)),some (.v (AV (AQ 0 rs).flatten)),y2,none,none,none]) rfl (by
    intro i d hd
    have hs:=fun (hh:S.σ[i]?=some (some d))=>rS5.slot i d hh
    rw[hS] at hs
    match i,hd with
    | 0,hd=>exact hs hd
    | 1,hd=>exact hs hd
    | 2,hd=>exact hs hd
    | 3,hd=>cases hd
    | 4,hd=>cases hd
    | 5,hd=>cases hd
    | i+6,hd=>cases hd)) rfl ex5 (by unfold C7;rw[if_pos rfl]) (hr.kw kwf)
   rw[YL hlc] at fin
   exact fin)))))
def ksR (rs:List (List Th)):List Int:=(AO (AM 0 rs)).map A4
theorem Mt (rs:List (List Th)):(ksR rs).Perm (CK rs).flatten:=by
 unfold ksR
 rw[<-FN 0 rs]
 exact (Av _).map _
theorem HE (rs:List (List Th)):(ksR rs).length=total rs:=by unfold ksR;rw[List.length_map,Ed]
theorem Vw (rs:List (List Th)):(ksR rs).Pairwise (·<=·):=by
 unfold ksR
 rw[List.pairwise_map]
 refine (List.Pairwise.and_mem.mp (By (AM 0 rs))).imp fun {a b} h=>?_
 obtain ⟨ha,hb,h⟩:=h
 have ha:=Dg ((Av _).mem_iff.mp ha)
 have hb:=Dg ((Av _).mem_iff.mp hb)
 by_cases c:HT.lexLt a b=true
 ·exact GZ ha hb c
 ·have c:HT.lexLt a b=false:=by simpa using c
  rw[Ds ha hb c h]
  exact Int.le_refl _
theorem ZH {rs:List (List Th)}:(plainT rs).map Prod.fst=ksR rs:=by
 unfold plainT ksR
 rw[List.map_map]
 refine List.map_congr_left fun x hx=>?_
 obtain ⟨j,k,r,t,h1,h2,rfl⟩:=Ib hx
 show (Em rs [t.1,(j:Int),(k:Int)]).1=_
 rw[SH h1 h2]
 rfl
structure DokI (kvs:List (Key×V)) (L:List Int):Prop where
 val:∀ x:Int,A7 kvs (Sum.inl x)=if L.count x=0 then none else some (.int (L.count x:Nat))
 key:∀ k∈kvs.map (·.1),∃ x∈L,k=Sum.inl x
 len:kvs.length<=L.length
theorem DokI.nil:DokI [] []:=⟨fun r=>rfl,fun k h=>(nomatch h),Nat.le_refl _⟩
theorem Wn {kvs:List (Key×V)} {k:Key} {v w:V} (h:A7 kvs k=some w):(putK kvs k v).map (·.1)=kvs.map (·.1):=by
 unfold putK
 rw[if_pos (by rw[Do,h];rfl),List.map_map]
 refine List.map_congr_left fun p _=>?_
 show (if p.1=k then (p.1,v) else p).1=p.1
 split<;>rfl
theorem DokI.put {kvs:List (Key×V)} {L:List Int} (h:DokI kvs L) (r:Int):DokI (putK kvs (Sum.inl r) (.int ((L.count r:Nat)+1))) (L++[r]):=by
 have cnt:∀ j,(L++[r]).count j=L.count j+if r=j then 1 else 0:=fun j=>by
  rw[List.count_append,List.count_cons,List.count_nil]
  by_cases e:r=j
  ·rw[if_pos e,if_pos (by simp[e])]
  ·rw[if_neg e,if_neg (by simpa using e)]
 refine ⟨fun j=>?_,?_,?_⟩
 ·rw[OH,cnt]
  by_cases e:r=j
  ·subst e
   rw[if_pos rfl,if_pos rfl,if_neg (by lia)]
   rfl
  ·rw[if_neg (fun z=>e (Sum.inl.inj z).symm),if_neg e,Nat.add_zero]
   exact h.val j
 ·intro k hk
  cases hv:A7 kvs (Sum.inl r) with
  | none=>
   rw[Ri _ hv,List.map_append] at hk
   rcases List.mem_append.mp hk with hk | hk
   ·obtain ⟨q,hq,e⟩:=h.key k hk
    exact ⟨q,List.mem_append_left _ hq,e⟩
   ·rw[List.map_cons,List.map_nil,List.mem_singleton] at hk
    exact ⟨r,List.mem_append_right _ (List.mem_singleton.mpr rfl),hk⟩
  | some w=>
   rw[Wn hv] at hk
   obtain ⟨q,hq,e⟩:=h.key k hk
   exact ⟨q,List.mem_append_left _ hq,e⟩
 ·have:=Gx kvs (Sum.inl r) (.int ((L.count r:Nat)+1))
  have:=h.len
  rw[List.length_append]
  simp
  lia
def FX:MDF:=AU 6 (Hj F0)
theorem Sj {i n:Nat} {me:ME} {s s':DS} {zs xs ys:List D} (h1:s.σ[i]?=some (some (.b n))) (h2:s.Γ[n]?=some (some ys)) (h3:me s=some (.v (.lst zs),s')) (h4:s'.Γ[n]?=some (some xs)) (hl:xs.length+zs.length<=big):BR (De (AA i) me) s=some (.nx {s' with Γ:=s'.Γ.set n (some (xs++zs))}):=by
 unfold BR De AA
 rw[h1]
 simp only[Option.bind_some]
 rw[h2]
 simp only[]
 rw[h3]
 simp only[Option.bind_some]
 rw[h4]
 simp only[]
 rw[if_pos hl]
 rfl
theorem Sy {Mh:MDF} {rs:List (List Th)} {Γ:Gm} (hh:Mh [.v (AF rs)] Γ=some ((AQ 0 rs).map AV,Γ)) (hh2:∀ {x},Mh [.v (AF rs)] (Γ++[x])=some ((AQ 0 rs).map AV,Γ++[x])) (hn:rs.length<=100) (hz:total rs<=5000):AU 6 (Hj Mh) [.v (AF rs)] Γ=some ((BV rs).map AK,Γ):=by
 let A:Option SV:=some (.v (AF rs))
 let S0:DS:=⟨[A,none,none,none,none,none],Γ,Γ.length⟩
 let L:=AQ 0 rs
 let S:Nat->Option SV->DS:=fun i v=>⟨[A,some (.b Γ.length),v,none,none,none],Γ++[some ((L.take i).flatten.map tupI)],Γ.length⟩
 have g1:BB 1 (Ap AC) S0=some (.nx (S 0 none)):=NR (by simp[show (0:Nat)<=big from Nat.zero_le _]:Ap AC S0=some ([],S0))
 have hL:L.flatten.length=total rs:=by rw[(DP 0 rs).length_eq,Dp]
 have tl:∀ i,(L.take i).flatten.length<=total rs:=fun i=>by
  rw[<-hL]
  have:L.flatten=(L.take i).flatten++(L.drop i).flatten:=by rw[<-List.flatten_append,List.take_append_drop]
  rw[this,List.length_append]
  lia
 obtain ⟨s',e1,v',rfl⟩:=Ck (g:=AZ 2) (b:=Ks) (items:=L.map AV) (fun i st=>∃ v,st=S i v) (by
   rintro i d st hd ⟨v,rfl⟩
   obtain ⟨r,hr,rfl⟩:=Cu hd
   let T:DS:=S i (some (.v (AV r)))
   have et:(L.take (i+1)).flatten=(L.take i).flatten++r:=by rw[List.take_add_one,hr,List.flatten_append];simp
   have ht:=tl (i+1)
   rw[et,List.length_append] at ht
   refine ⟨T,_,rfl,Sj (n:=Γ.length) (s:=T) (s':=T) rfl Cc (zs:=r.map tupI) rfl Cc (by rw[List.length_map,List.length_map,BL];lia),some (.v (AV r)),?_⟩
   show (⟨_,(Γ++[_]).set Γ.length _,_⟩:DS)=_
   rw[EZ,<-List.map_append,<-et])
  (s:=S 0 none) ⟨none,rfl⟩
 rw[List.length_map] at e1
 have eL:S L.length v'=⟨[A,some (.b Γ.length),v',none,none,none],Γ++[some (L.flatten.map tupI)],Γ.length⟩:=by simp only[S,List.take_length]
 rw[eL] at e1
 have g2:=D6 (mi:=Ax (AH (AX Mh (AB (AA 0) AC)))) (s:=S 0 none) (s':=S 0 none) (Ij (EH (M:=Mh) (m:=AA 0) (x:=.v (AF rs)) (s:=S 0 none) (s':=S 0 none) rfl hh2)) e1
 unfold AU Hj
 show ((AI _ _ S0).bind _)=_
 have e3:EW 1 ED (⟨[A,some (.b Γ.length),v',none,none,none],Γ++[some (L.flatten.map tupI)],Γ.length⟩:DS)=some (.rf ((BV rs).map AK) ⟨[A,some (.v (AV L.flatten)),v',none,none,none],Γ++[none],Γ.length⟩):=by
  rw[pre_of (n:=Γ.length) rfl Cc (Nat.le_refl _)]
  show ED ⟨[A,some (.v (AV L.flatten)),v',none,none,none],(Γ++[some _]).set Γ.length none,Γ.length⟩=_
  rw[EZ]
  exact Vi hn hz
 rw[(Aa g1).trans ((Aa g2).trans e3)]
 show some (_,(Γ++[none]).take Γ.length)=_
 rw[J8]
theorem T3 {rs:List (List Th)} {Γ:Gm} (hn:rs.length<=100) (hr:∀ r∈rs,r.length<=1000) (hz:total rs<=5000):FX [.v (AF rs)] Γ=some ((BV rs).map AK,Γ):=Sy (OG (by lia) hr) (fun {x}=>OG (by lia) hr) hn hz
def C22 (rs:List (List Th)) (n:Nat):Prop:=1<=n/\n<=8/\1<=rs.length/\rs.length<=6/\∀ r∈rs,r.length<=200
theorem C22.tot {rs:List (List Th)} {n:Nat} (C:C22 rs n):total rs<=1200:=by
 have:=PU C.2.2.2.2
 have:=C.2.2.2.1
 lia
open Classical in
def EX:MS:=fun s=>match s.σ with
 | [y0,y1,y2,some (.v (.int k)),some (.v R),some (.v Z),some (.v Q),_,_,_,y10,y11,y12]=>
  if ∃ (rs:List (List Th)) (n:Nat),k=(n:Int)/\R=AF rs/\Z=.lst (szD rs.length (Aq rs n))/\Q=.lst ((ksR rs).map .int)/\C22 rs n then
   some (.nx {s with σ:=[y0,y1,y2,some (.v (.int k)),some (.v R),some (.v Z),some (.v Q),none,none,none,y10,y11,y12]}) else none
 | _=>none
theorem XR {X:Cx} {a b c d:Stmt} {rest:List Stmt} {ta tb tc td:TS} {m n:MS} (ha:PS X a ta) (hb:PS X b tb) (hc:PS X c tc) (hd:PS X d td) (hr:DSs X rest n)
  (k:∀ (f:Fr),f.K=X.K->∀ E σ H,tDS f (AI m n) E σ H->Dy ta (Dy tb (Dy tc (Dy td (tDS f n)))) E σ H):DSs X (a::b::c::d::rest) (AI m n):=
 fun f hf=>PSs.imp (EJ ha (EJ hb (EJ hc (EJ hd (hr f hf))))) (k f hf)
theorem OM {p q:Prop} (h:q):if false=true then p else q:=by rw[if_neg Bool.false_ne_true];exact h
abbrev dsC (rs:List (List Th)) (n:Nat):List (Option D):=[none,none,none,some (.int (n:Int)),some (AF rs),some (.lst (szD rs.length (Aq rs n))),some (.lst ((ksR rs).map .int)),none,none,none,none,none,none]
theorem Y6 {rs:List (List Th)} (h:1<=rs.length):szI rs≠[]:=fun e=>by
 have:=congrArg List.length e
 unfold szI at this
 rw[List.length_map] at this
 have:rs.length=0:=this
 lia
theorem YC {rs:List (List Th)} {n:Nat} (C:C22 rs n):Ab GO (AB (AH (Aw (Ax (AA 4)) 1 [] (AZ 0) mTT (AN Ad (AB (AA 0) AC)))) (AB (AA 3) AC)) (slD (dsC rs n))=some (.v (.int (bnd (szI rs) n)),slD (dsC rs n)):=by
 let S:DS:=slD (dsC rs n)
 have h4:=C.2.2.2.1
 have w1:=Ye (rs:=rs) (i:=4) (S:=S) rfl (by lia)
 have hn1:=C.1
 have hn2:=C.2.1
 exact EL w1 (y:=.v (.int (n:Int))) (s2:=S) rfl (Q3 (by lia) (by lia) (Y6 C.2.2.1) (by unfold szI;rw[List.length_map];exact h4) fun x hx=>by
  obtain ⟨r,hr,rfl⟩:=List.mem_map.mp hx
  have:=C.2.2.2.2 r hr
  lia)
def szK (rs:List (List Th)) (n:Nat):List Int:=(List.range rs.length).map (Aq rs n)
theorem Nu (rs:List (List Th)) (n:Nat):szD rs.length (Aq rs n)=(szK rs n).map .int:=by unfold szD szK;rw[List.map_map];rfl
theorem VE (ns:List Int):intsOf (ns.map .int)=some ns:=Fh ns
theorem Xn {rs:List (List Th)} {n:Nat} (C:C22 rs n):Ao (mOp Dj (AN Dl (AB (AA 5) AC)) (AN Ad (AB (AA 6) AC))) (slD (dsC rs n))=some (false,slD (dsC rs n)):=by
 let S:DS:=slD (dsC rs n)
 have w1:AN Dl (AB (AA 5) AC) S=some (.v (.int (total rs:Int)),S):=Bg (x:=.v (.lst (szD rs.length (Aq rs n)))) (s':=S) rfl (by
  unfold Dl
  show ((intsOf (szD rs.length (Aq rs n))).map fun ns=>D.int ns.sum)=_
  rw[Nu,VE]
  show some (D.int (szK rs n).sum)=_
  unfold szK
  rw[V9 n C.2.2.1])
 have w2:AN Ad (AB (AA 6) AC) S=some (.v (.int (total rs:Int)),S):=Bg (x:=.v (.lst ((ksR rs).map .int))) (s':=S) rfl (by
  show some (D.int (((ksR rs).map D.int).length:Nat))=_
  rw[List.length_map,HE])
 exact CS (Ak w1 w2 (IW rfl))
theorem XJ {rs:List (List Th)} {n:Nat} (C:C22 rs n):AN DZ (AB (AA 5) AC) (slD (dsC rs n))=some (.v (.int (BA (szK rs n))),slD (dsC rs n)):=by
 let S:DS:=slD (dsC rs n)
 have hne:szK rs n≠[]:=fun e=>by
  have:=congrArg List.length e
  unfold szK at this
  rw[List.length_map,List.length_range] at this
  have h1:=C.2.2.1
  rw[this] at h1
  exact absurd h1 (by decide)
 exact Xz (x:=.v (.lst (szD rs.length (Aq rs n)))) (S':=S) rfl (by rw[Nu];rfl) hne
theorem RG {rs:List (List Th)} {n:Nat} (C:C22 rs n) {mx:Int} (h0:0<=mx) (h:∀ a∈ksR rs,(((ksR rs).count a:Nat):Int)<=mx):BA (szK rs n)<=bnd (szI rs) n+mx:=by
 have hne:szK rs n≠[]:=fun e=>by
  have:=congrArg List.length e
  unfold szK at this
  rw[List.length_map,List.length_range] at this
  have h1:=C.2.2.1
  rw[this] at h1
  exact absurd h1 (by decide)
 obtain ⟨j,hj,e⟩:=List.mem_map.mp (E8 hne).1
 rw[<-e]
 refine Wh C.1 C.2.1 C.2.2.1 (List.mem_range.mp hj) h0 fun a=>?_
 rw[<-(Mt rs).count_eq]
 by_cases c:a∈ksR rs
 ·exact h a c
 ·rw[List.count_eq_zero.mpr c]
  exact h0
theorem SE {X:Cx} {K:PySem.W.Frag} (h:X.K=K) (hc:X.calm=true):CallR X (.builtin "max") (fun xs H Q=>∃ (p:Addr) (ns:List Int),xs=[.ref p]/\SqL K H p (ns.map V.int)/\ns≠[]/\∀ M,M∈ns->(∀ a∈ns,a<=M)->Q (.int M) H):=h▸MB hc
abbrev En:Stmt:=top 33
abbrev Fx:List Str:=["script","k","deck","s","rows","sizes","keys","counts","key","bound","end","size","unlike"]
theorem sc_law:FnScope Fx ["script"] (AY En):=⟨rfl,rfl,rfl,by decide +kernel,rfl,by decide +kernel,by decide +kernel⟩
def GE (zT:MDF) (zU:MD) (zB:MD) (zV:MDF) (zQ:MDF) (zW:MDF) (zX:MDF) (zI:MDF):MS:=(AI (AS 10 (mOp BG (AA 10) (AA 11)))
 (mIf (Gp (Ao (Cd BN BN (mC (.int 0)) (AA 10) (AN Ad (AB (AA 6) AC)))) (Ao (mOp Bh (mOp gIx (AA 6) (mOp CJ (AA 10) (mC (.int 1)))) (mOp gIx (AA 6) (AA 10))))) (Bb (mC (.bl false))) BO))
def JW (zT:MDF) (zU:MD) (zB:MD) (zV:MDF) (zQ:MDF) (zW:MDF) (zX:MDF) (zI:MDF):MS:=(AI (BB 2 (AX zT (AB (Ab zU (AB (AA 0) (AB (AA 1) AC))) (AB (mC (.int 90)) AC))))
 (AI (AS 3 (mOp BG (mC (.int 1)) (mOp A8 (Ab zB (AB (AA 2) AC)) (mC (.int 8)))))
 (AI (AS 4 (AH (AX zV (AB (AA 2) AC))))
 (AI (AS 5 (AH (AX zQ (AB (AA 4) (AB (AA 3) AC)))))
 (AI (AS 6 (AH (Aw (Ax (AH (AX zW (AB (AA 4) AC)))) 2 [] (BX [0,1]) mTT (AA 0))))
 (AI EX
 (AI (AS 10 (mC (.int 0)))
 (AI (BP (Ax (AA 5)) (AZ 11) (GE zT zU zB zV zQ zW zX zI))
 (AI (AS 12 (AH (AX zX (AB (AA 4) AC))))
 (mIf (mOr (Ao (mOp Dj (AH (AX zQ (AB (AA 12) (AB (AA 3) AC)))) (AH (AX zI (AB (AA 12) (AB (AA 3) AC)))))) (Ao (mOp Dj (AH (AX zI (AB (AA 12) (AB (AA 3) AC)))) (AH (AX zI (AB (AA 4) (AB (AA 3) AC))))))) (Bb (mC (.bl false))) BO))))))))))
def IV (zT:MDF) (zU:MD) (zB:MD) (zV:MDF) (zQ:MDF) (zW:MDF) (zX:MDF) (zI:MDF):MS:=(AI (BP (BF (AB (AN ER (AB (mC (.int 1)) (AB (AN C6 (AB (AN Ad (AB (AA 0) AC)) (AB (mC (.int 6)) AC))) AC))) AC)) (AZ 1) (JW zT zU zB zV zQ zW zX zI))
 (Bb (mC (.bl true))))
theorem Wa {P:Program} {w:World} {K:PySem.W.Frag} {mg:Str->Option Value} {base:Heap} {fa:Addr} {fd:FuncData} (F:Fun K "law" "law" En fa fd) (T:Nm mg) {wF:Addr} {wG:FuncData} {zT:MDF} (yT:Cal P w K mg base "_law_deck" 2 wF wG ["cell","many"] (spF K 2 zT)) {wH:Addr} {wI:FuncData} {zU:MD} (yU:Cal P w K mg base "_law_cell_at" 1 wH wI ["script","k"] (spD K 2 zU)) {xL:Addr} {xM:FuncData} {zB:MD} (zA:Cal P w K mg base "_law_next" 1 xL xM ["deck"] (spD K 1 zB)) {wJ:Addr} {wK:FuncData} {zV:MDF} (yV:Cal P w K mg base "_law_rows" 2 wJ wK ["deck"] (spF K 1 zV)) {wL:Addr} {wM:FuncData} {zQ:MDF} (zY:Cal P w K mg base "key_lot_sizes" 5 wL wM ["rows","s"] (spF K 2 zQ)) {wN:Addr} {wO:FuncData} {zW:MDF} (yW:Cal P w K mg base "sorted_plainly" 3 wN wO ["rows"] (spF K 1 zW)) {wP:Addr} {wR:FuncData} (yX:Cal P w K mg base "lot_bound" 3 wP wR ["sizes","s"] (spD K 2 GO)) {wS:Addr} {wT:FuncData} {zX:MDF} (yY:Cal P w K mg base "_law_unlike" 2 wS wT ["rows"] (spF K 1 zX)) {wU:Addr} {wV:FuncData} {zI:MDF} (zG:Cal P w K mg base "lot_sizes" 6 wU wV ["rows","s"] (spF K 2 zI)):FnOk P w K mg base CX0 7 fa fd ["script"] (spD K 1 (mFn 13 (IV zT zU zB zV zQ zW zX zI))):=
 DC F sc_law fun cdv A outer s H E hr=>(AW (Co PassesOwn.never rfl (EC rfl T.range (AE (Sr T (AE AR (AE (LP T (AE (BY T (AE (AD (pv 0)) AG)) (AE AR AG))) AG))) AG)) (Bf (An (i:=1) sc_law.nd rfl (Or.inl rfl))) (AW (Cm (fun te h=>Ai (i:=2) sc_law.nd rfl (Or.inl rfl) h) (BE yT.G (hr.mono (by decide)) rfl yT.m yT.k yT.b (AE (Bj yU.G (hr.mono (by decide)) rfl yU.m yU.k yU.b (AE (AD (pv 0)) (AE (AD (pv 1)) AG)) (AL (AL Aj))) (AE AR AG)) (AL (AL Aj))))
 (AW (A0 (fun te h=>Ai (i:=3) sc_law.nd rfl (Or.inl rfl) h) (CO AR (CD (Bj zA.G (hr.mono (by decide)) rfl zA.m zA.k zA.b (AE (AD (pv 2)) AG) (AL Aj)) AR)))
 (AW (A0 (fun te h=>Ai (i:=4) sc_law.nd rfl (Or.inl rfl) h) (Al (BE yV.G (hr.mono (by decide)) rfl yV.m yV.k yV.b (AE (AD (pv 2)) AG) (AL Aj))))
 (AW (A0 (fun te h=>Ai (i:=5) sc_law.nd rfl (Or.inl rfl) h) (Al (BE zY.G (hr.mono (by decide)) rfl zY.m zY.k zY.b (AE (AD (pv 4)) (AE (AD (pv 3)) AG)) (AL (AL Aj)))))
 (AW (Ku (i:=6) sc_law.nd rfl rfl (esc:=(AY En)) (N:=Fx) (tn:=["key","tag"]) (fn:=[]) (ix:=[]) rfl rfl rfl ⟨rfl,by decide +kernel,by decide +kernel,by decide +kernel,rfl,by decide +kernel⟩ (CL (Al (BE yW.G (hr.mono (by decide)) rfl yW.m yW.k yW.b (AE (AD (pv 4)) AG) (AL Aj)))) (fun _ _ _ _ _=>(EA (is:=[0,1]) (n:=2) rfl (DV rfl rfl (Bk (An (i:=0) (show (["key","tag"]:List Str).Nodup by decide +kernel) rfl (Or.inl rfl)) (Bk (An (i:=1) (show (["key","tag"]:List Str).Nodup by decide +kernel) rfl (Or.inl rfl)) Dh))))) (fun _ _ _ _ _=>B5) (fun _ _ _ _ _=>(AD (pv 0))))
 (XR (m:=EX)
  (Ai (i:=7) sc_law.nd rfl (Or.inr rfl) WD)
  (Jj PassesOwn.never rfl (P8 (K:=K) rfl (pv 6)) (An (i:=8) sc_law.nd rfl (Or.inl rfl)) (FA (Kv (FW hr) (pv 7) (pv 8) (Dr op_add (Yr (FW hr) (pv 7) (pv 8) DX ⟨rfl,rfl,rfl,rfl⟩) DX) rfl)))
  (Ai (i:=9) sc_law.nd rfl (Or.inl rfl) (DE.xK (K:=K) rfl (Bj yX.G (hr.mono (by decide)) rfl yX.m yX.k yX.b (AE (Al (CB (esc:=(AY En)) (N:=Fx) (tn:=["row"]) (fn:=[]) (ix:=[]) rfl rfl rfl ⟨rfl,by decide +kernel,by decide +kernel,by decide +kernel,rfl,by decide +kernel⟩ (CL (AD (pv 4))) (fun _ _ _ _ _=>(Bf (An (i:=0) (show (["row"]:List Str).Nodup by decide +kernel) rfl (Or.inl rfl)))) (fun _ _ _ _ _=>B5) (fun _ _ _ _ _=>(BY T (AE (AD (pv 0)) AG))))) (AE (AD (pv 3)) AG)) (AL (AL Aj)))))
  (NX (PW.pt (Mv (DT.xK (K:=K) rfl (IS hr.units (ML T.sum (AE (AD (pv 5)) AG)) (BY T (AE (AD (pv 6)) AG)))) (PP (N3 Vs (DE.xK (K:=K) rfl (Oh T.max (AE (AD (pv 5)) AG))) (Dr op_add (pv 9) (FB (SE (K:=K) rfl rfl) (by rfl) T.max PyProof.Rows.boot_max (Bs (Dr JG (OZ (Bs DX Ca)) (Hu (esc:=(AY En)) (N:=Fx) (tn:=["key"]) (fn:=["counts"]) (ix:=[7]) rfl rfl rfl ⟨rfl,by decide +kernel,by decide +kernel,by decide +kernel,rfl,by decide +kernel⟩ (SL.Ra (pv 7)) (fun _ _ _ _ _=>An (i:=0) (show (["key","counts"]:List Str).Nodup by decide +kernel) rfl (Or.inl rfl)) (fun _ _ _ _ _=>Gs) (fun _ _ _ _ _=>OA (FW hr) (pv 1) (pv 0) (fun _ _=>rfl)))) Ca))) (Fg _))))) (FA (GX LW)) MZ)
 (AW (A0 (fun te h=>Ai (i:=10) sc_law.nd rfl (Or.inl rfl) h) AR)
 (AW (Co PassesOwn.never rfl (CL (AD (pv 5))) (Bf (An (i:=11) sc_law.nd rfl (Or.inl rfl))) (AW (A0 (fun te h=>Ai (i:=10) sc_law.nd rfl (Or.inl rfl) h) (CO (AD (pv 10)) (AD (pv 11))))
 (Ae (CW (JC (ZG (VA hr.units0 AR (AD (pv 10)) (BY T (AE (AD (pv 6)) AG))) (YJ (Eh hr.units (Ba (AD (pv 6)) (FQ (AD (pv 10)) AR)) (Ba (AD (pv 6)) (AD (pv 10))))))) (Ae (Cb IY)) CU))))
 (AW (A0 (fun te h=>Ai (i:=12) sc_law.nd rfl (Or.inl rfl) h) (Al (BE yY.G (hr.mono (by decide)) rfl yY.m yY.k yY.b (AE (AD (pv 4)) AG) (AL Aj))))
 (Ae (CW (JC (O0 (IS hr.units (Al (BE zY.G (hr.mono (by decide)) rfl zY.m zY.k zY.b (AE (AD (pv 12)) (AE (AD (pv 3)) AG)) (AL (AL Aj)))) (Al (BE zG.G hr rfl zG.m zG.k zG.b (AE (AD (pv 12)) (AE (AD (pv 3)) AG)) (AL (AL Aj))))) (Ky (IS hr.units (Al (BE zG.G hr rfl zG.m zG.k zG.b (AE (AD (pv 12)) (AE (AD (pv 3)) AG)) (AL (AL Aj)))) (Al (BE zG.G hr rfl zG.m zG.k zG.b (AE (AD (pv 4)) (AE (AD (pv 3)) AG)) (AL (AL Aj)))))))) (Ae (Cb IY)) CU)))))
  (by
   intro f hf E' σ' H' h
   obtain ⟨α,S,o,rS,lo,e,q⟩:=h
   obtain ⟨o1,e1,e⟩:=bind_some e
   unfold EX at e1
   split at e1
   case h_2=>cases e1
   rename_i y0 y1 y2 k R Z Q y7 y8 y9 y10 y11 y12 hS
   split at e1
   case isFalse=>cases e1
   rename_i hx
   cases e1
   obtain ⟨rs,n,rfl,rfl,rfl,rfl,C⟩:=hx
   have hfK:f.K=K:=hf
   have hl13:σ'.length=13:=by rw[<-rS.len,hS];rfl
   obtain ⟨z0,z1,z2,z3,z4,z5,z6,z7,z8,z9,z10,z11,z12,rfl⟩:∃ z0 z1 z2 z3 z4 z5 z6 z7 z8 z9 z10 z11 z12,σ'=[z0,z1,z2,z3,z4,z5,z6,z7,z8,z9,z10,z11,z12]:=by
    match σ',hl13 with
    | [z0,z1,z2,z3,z4,z5,z6,z7,z8,z9,z10,z11,z12],_=>exact ⟨_,_,_,_,_,_,_,_,_,_,_,_,_,rfl⟩
   obtain ⟨v3,hv3,rv3⟩:=rS.tree (i:=3) (d:=.int (n:Int)) (by rw[hS];rfl)
   obtain ⟨v4,hv4,rv4⟩:=rS.tree (i:=4) (d:=AF rs) (by rw[hS];rfl)
   obtain ⟨v5,hv5,rv5⟩:=rS.tree (i:=5) (d:=.lst (szD rs.length (Aq rs n))) (by rw[hS];rfl)
   obtain ⟨v6,hv6,rv6⟩:=rS.tree (i:=6) (d:=.lst ((ksR rs).map .int)) (by rw[hS];rfl)
   rw[hfK] at rv3 rv4 rv5 rv6
   cases hv3
   cases hv4
   cases hv5
   cases hv6
   unfold Rep at rv3
   subst rv3
   have rv6':=rv6
   unfold Rep at rv6'
   obtain ⟨ka,kvs0,rfl,-,hka,hkv⟩:=rv6'
   have ek:=hkv.ints
   subst ek
   have hka:H' ka=some (.lst ((ksR rs).map V.int)):=hka
   have htot:=C.tot
   intro m hm
   have hkp:∀ u b o,H' b=some o->upd H' m u b=some o:=fun u b o e=>by rw[AJ (As e hm)];exact e
   refine ⟨_,rfl,ka,rfl,⟨_,SqL.of (hkp _ _ _ hka)⟩,?_⟩
   refine Wu (xs:=(ksR rs).map V.int) (fun i σ Hi=>∃ (kvs:List (Key×V)) (u8:Option V),σ=[z0,z1,z2,some (.int (n:Int)),some v4,some v5,some (.ref ka),some (.ref m),u8,z9,z10,z11,z12]/\Hi=upd H' m (.dK kvs)/\DokI kvs ((ksR rs).take i)) ?_ ?_ ?_ ?_
   ·exact ⟨[],_,rfl,rfl,.nil⟩
   ·rintro i σ Hi _ ⟨kvs,u8,rfl,rfl,dk⟩
    exact SqL.of (hkp _ _ _ hka)
   ·rintro i x σ Hi hx ⟨kvs,u8,rfl,rfl,dk⟩
    obtain ⟨a,ha,rfl⟩:=Cu hx
    have hget:(A7 kvs (Sum.inl a)).getD (.int 0)=.int (((ksR rs).take i).count a:Nat):=by
     rw[dk.val]
     by_cases c0:((ksR rs).take i).count a=0
     ·rw[if_pos c0,c0];rfl
     ·rw[if_neg c0];rfl
    have hkl:kvs.length<=1200:=by have:=dk.len;rw[List.length_take,HE] at this;lia
    refine ⟨_,rfl,m,rfl,.inl ⟨kvs,.inl Am⟩,_,rfl,_,DGet.k (k:=Sum.inl a) Am,_,_,hget,rfl,_,rfl,_,rfl,m,_,rfl,DPut.k (k:=Sum.inl a) Am (Du (by lia)),?_⟩
    refine ⟨_,_,rfl,LG,?_⟩
    rw[List.take_add_one,ha]
    exact dk.put a
   rintro σ Hi ⟨kvs,u8,rfl,rfl,dk⟩
   rw[List.length_map,List.take_length] at dk
   have g1:Grow H' (upd H' m (.dK kvs)):=.new hm
   have mk:∀ {H2:Hp} {a7 a8 a9:Option V},Grow H' H2->Sl K H2 (dsC rs n) [z0,z1,z2,some (.int (n:Int)),some v4,some v5,some (.ref ka),a7,a8,a9,z10,z11,z12]:=fun {H2 a7 a8 a9} g=>
    .skip (.skip (.skip (.cons (by unfold Rep;rfl) (.cons (rv4.kw g.kw) (.cons (rv5.kw g.kw) (.cons (rv6.kw g.kw) (.skip (.skip (.skip (.skip (.skip (.skip .nil))))))))))))
   refine Ew (mk g1) (YC C) fun bv H2 g2 rb=>?_
   unfold Rep at rb
   subst rb
   have G2:=g1.trans g2
   have hm2:H2 m=some (.dK kvs):=g2 _ _ Am
   refine U0 (mk G2) (Xn C) fun H3 g3=>OM ?_
   have G3:=G2.trans g3
   refine Ew (mk G3) (XJ C) fun xv H4 g4 rx=>?_
   unfold Rep at rx
   subst rx
   have G4:=G3.trans g4
   have hm4:H4 m=some (.dK kvs):=g4 _ _ (g3 _ _ hm2)
   refine ⟨_,rfl,Ev.small (show 1<=1000000 by decide),fun l1 hl1=>?_⟩
   have g5:Grow H4 (upd H4 l1 (.lst [.int 0])):=.new hl1
   have hl1':(upd H4 l1 (.lst [.int 0])) l1=some (.lst [.int 0]):=Am
   generalize upd H4 l1 (.lst [.int 0])=H5 at g5 hl1'
   have hm5:H5 m=some (.dK kvs):=g5 _ _ hm4
   refine ⟨_,rfl,m,_,rfl,hm5,trivial,fun ob l2 hl2=>?_⟩
   have hml:m≠l2:=fun z=>by rw[<-z,Am] at hl2;cases hl2
   have hl1m:l1≠m:=GR hl1' hm5 (fun z=>nomatch z)
   have hm7:(upd H5 m (.frz ob (.dK kvs))) m=some (.frz ob (.dK kvs)):=Am
   have hl17:(upd H5 m (.frz ob (.dK kvs))) l1=some (.lst [.int 0]):=by rw[AJ hl1m];exact hl1'
   have G7:Grow H' (upd H5 m (.frz ob (.dK kvs))):=fun b o eb=>by
    rw[AJ (As eb hm)]
    exact g5 _ _ (G4 b o eb)
   generalize upd H5 m (.frz ob (.dK kvs))=H7 at hl2 hm7 hl17 G7
   have hl12:l1≠l2:=As hl17 hl2
   refine HI kvs.length (fun i τ Hc=>∃ (cs:List Int) (u0:Option V),τ=[u0,some (.ref m)]/\Hc=upd H7 l2 (.lst (cs.map V.int))/\cs.length=i/\∀ (j:Nat) (x:Int) (v:V),j<i->kvs[j]?=some (Sum.inl x,v)->(((ksR rs).count x:Nat):Int)∈cs) ?_ ?_ ?_ ?_ ?_
   ·exact ⟨[],none,rfl,rfl,rfl,fun j x v z=>absurd z (Nat.not_lt_zero _)⟩
   ·rintro i τ Hc hi ⟨cs,u0,rfl,rfl,hcl,hcs⟩
    exact ⟨by rw[AJ hml];exact hm7,hi⟩
   ·rintro τ Hc ⟨cs,u0,rfl,rfl,hcl,hcs⟩
    exact ⟨by rw[AJ hml];exact hm7,Nat.le_refl _⟩
   ·rintro i x τ Hc H8 hi ⟨cs,u0,rfl,rfl,hcl,hcs⟩ ⟨rfl,k,v,hk,rfl⟩
    obtain ⟨a,haL,rfl⟩:=dk.key k (List.mem_map.mpr ⟨(k,v),List.mem_of_getElem? hk,rfl⟩)
    have hv:A7 kvs (Sum.inl a)=some (.int ((ksR rs).count a:Nat)):=by
     rw[dk.val,if_neg (Nat.ne_of_gt (List.count_pos_iff.mpr haL))]
    have hkl:kvs.length<=1200:=by have:=dk.len;rw[HE] at this;lia
    dsimp only[DJ,HN]
    rw[if_pos rfl]
    refine ⟨_,rfl,_,rfl,m,_,rfl,.inl ⟨kvs,Sum.inl a,.inr ⟨ob,by rw[AJ hml];exact hm7⟩,rfl,hv.symm⟩,cs.map V.int,Am,Du (by rw[List.length_map];lia),cs++[(((ksR rs).count a:Nat):Int)],_,rfl,?_,by rw[List.length_append,hcl];rfl,fun j y w hj hjk=>?_⟩
    ·rw[LG,List.map_append]
     rfl
    ·by_cases c:j<i
     ·exact List.mem_append_left _ (hcs j y w c hjk)
     ·have:j=i:=by lia
      subst this
      rw[hk] at hjk
      cases hjk
      exact List.mem_append_right _ (List.mem_singleton.mpr rfl)
   rintro τ Hc ⟨cs,u0,rfl,rfl,hcl,hcs⟩
   have hkl:kvs.length<=1200:=by have:=dk.len;rw[HE] at this;lia
   refine ⟨l1,l2,_,_,rfl,rfl,by rw[AJ hl12];exact hl17,Am,Ev.small (by rw[List.length_map];simp;lia),fun p hp=>?_⟩
   refine ⟨p,0::cs,rfl,SqL.of Am,by simp,fun M hM hMx=>?_⟩
   refine ⟨_,_,rfl,rfl,_,_,rfl,rfl,_,rfl,?_⟩
   have h0:0<=M:=hMx 0 List.mem_cons_self
   have hcount:∀ a∈ksR rs,(((ksR rs).count a:Nat):Int)<=M:=fun a ha=>by
    have hv:=dk.val a
    rw[if_neg (Nat.ne_of_gt (List.count_pos_iff.mpr ha))] at hv
    obtain ⟨⟨k',v'⟩,hkv',hk'⟩:=List.mem_map.mp (RW hv)
    obtain ⟨j,hj⟩:=List.getElem?_of_mem hkv'
    have hk':k'=Sum.inl a:=hk'
    subst hk'
    exact hMx _ (List.mem_cons_of_mem _ (hcs j a v' (List.getElem?_eq_some_iff.mp hj).1 hj))
   have hle:=RG C h0 hcount
   rw[show decide (bnd (szI rs) (n:Int)+M<BA (szK rs n))=false from decide_eq_false (by lia)]
   refine OM ?_
   have G9:Grow H' (upd (upd H7 l2 (.lst (cs.map V.int))) p (.lst ((0::cs).map V.int))):=fun b o eb=>by
    have e7:=G7 b o eb
    have e8:(upd H7 l2 (.lst (cs.map V.int))) b=some o:=by rw[AJ (As e7 hl2)];exact e7
    rw[AJ (As e8 hp)]
    exact e8
   obtain ⟨rS5,ex5⟩:=rS.grow G9
   refine ⟨α,_,o,rS5.slots (τ:=[y0,y1,y2,some (.v (.int (n:Int))),some (.v (AF rs)),some (.v (.lst (szD rs.length (Aq rs n)))),some (.v (.lst ((ksR rs).map .int))),none,none,none,y10,y11,y12]) rfl ?_,lo,e,q.ext rfl ex5⟩
   intro i d hd
   have hs:=fun (hh:S.σ[i]?=some (some d))=>rS5.slot i d hh
   rw[hS] at hs
   match i,hd with
   | 0,hd=>exact hs hd
   | 1,hd=>exact hs hd
   | 2,hd=>exact hs hd
   | 3,hd=>exact hs hd
   | 4,hd=>exact hs hd
   | 5,hd=>exact hs hd
   | 6,hd=>exact hs hd
   | 7,hd=>cases hd
   | 8,hd=>cases hd
   | 9,hd=>cases hd
   | 10,hd=>exact hs hd
   | 11,hd=>exact hs hd
   | 12,hd=>exact hs hd
   | i+13,hd=>cases hd))))))))
 (Ae (Cb IY)))
theorem NN (p:Nat) (g:Nat->Int):BM 6 (.lst (szD p g))=true:=by
 unfold szD BM
 rw[List.all_eq_true]
 intro x hx
 obtain ⟨j,_,rfl⟩:=List.mem_map.mp hx
 rfl
theorem LL {Γ:Gm}:∀ (ts:List Th) (u v:Option SV),Au (BX [0,1]) mTT (AA 0) (ts.map thD) [u,v] Γ=some ((ts.map Prod.fst).map .int,Γ)
 | [],_,_=>rfl
 | t::ts,u,v=>by
  have i:=LL (Γ:=Γ) ts (some (.v (.int t.1))) (some (.v (.str t.2)))
  let T:DS:=⟨[some (.v (.int t.1)),some (.v (.str t.2))],Γ,Γ.length⟩
  have w:AA 0 T=some (.v (.int t.1),T):=rfl
  rw[List.map_cons]
  show Au _ _ _ (thD t::ts.map thD) _ _=_
  unfold Au
  rw[show BX [0,1] (thD t) (⟨[u,v],Γ,Γ.length⟩:DS)=some T from rfl]
  simp only[Option.bind_some,mTT,if_true,w]
  rw[show Au _ _ _ _ T.σ T.Γ=_ from i,if_pos rfl]
  rfl
theorem Sd {a b:MT} {S S1 S2:DS} (h1:a S=some (false,S1)) (h2:b S1=some (false,S2)):mOr a b S=some (false,S2):=by
 unfold mOr
 rw[h1]
 exact h2
theorem Q2 {y0 y1 y2 y7 y8 y9 y10 y11 y12:Option SV} {rs:List (List Th)} {n:Nat} {Γ:Gm} (C:C22 rs n):EX ⟨[y0,y1,y2,some (.v (.int (n:Int))),some (.v (AF rs)),some (.v (.lst (szD rs.length (Aq rs n)))),some (.v (.lst ((ksR rs).map .int))),y7,y8,y9,y10,y11,y12],Γ,0⟩=some (.nx ⟨[y0,y1,y2,some (.v (.int (n:Int))),some (.v (AF rs)),some (.v (.lst (szD rs.length (Aq rs n)))),some (.v (.lst ((ksR rs).map .int))),none,none,none,y10,y11,y12],Γ,0⟩):=by
 unfold EX
 simp only[]
 rw[if_pos ⟨rs,n,rfl,rfl,rfl,rfl,C⟩]
def enR (rs:List (List Th)) (n i:Nat):Nat:=cb (qcG ltI (kpR rs n) i) (ksR rs)
theorem Yc {q:Int->Bool} {a b:List Int} (h:a.Perm b):cb q a=cb q b:=by
 unfold cb
 exact (h.filter q).length_eq
theorem Yu {g g':Gm->SV->SV->Option D} {a b c:ME} {S:DS} {x y w:SV} {z:D} (h1:a S=some (x,S)) (h2:b S=some (y,S)) (h3:g S.Γ x y=some (.bl true)) (h4:c S=some (w,S)) (h5:g' S.Γ y w=some z):Cd g g' a b c S=some (.v z,S):=by
 unfold Cd
 rw[h1,Option.bind_some,h2,Option.bind_some,h3,Option.bind_some]
 simp only[]
 rw[h4,Option.bind_some,h5]
 rfl
theorem RH {g g':Gm->SV->SV->Option D} {a b c:ME} {S:DS} {x y:SV} (h1:a S=some (x,S)) (h2:b S=some (y,S)) (h3:g S.Γ x y=some (.bl false)):Cd g g' a b c S=some (.v (.bl false),S):=by
 unfold Cd
 rw[h1,Option.bind_some,h2,Option.bind_some,h3,Option.bind_some]
theorem UJ (rs:List (List Th)) (n:Nat):enR rs n 0=0:=by
 have:=E5 ltI (kpR rs n) (ksR rs) 0
 show cb _ _=0
 simp at this
 lia
theorem Ux (rs:List (List Th)) (n i:Nat):((enR rs n (i+1):Nat):Int)=(enR rs n i:Nat)+Aq rs n i:=by
 have h1:=E5 ltI (kpR rs n) (ksR rs) i
 have h2:=E5 ltI (kpR rs n) (ksR rs) (i+1)
 rw[List.range_succ,List.map_append,List.sum_append,h1] at h2
 have e:Aq rs n i=((Bo ltI (kpR rs n) i (ksR rs):Nat):Int):=by
  show ((Bo ltI (kpR rs n) i (CK rs).flatten:Nat):Int)=_
  unfold Bo
  rw[Yc (Mt rs)]
 rw[e]
 simp at h2
 unfold enR
 lia
theorem YH {τ:List (Option SV)} (h:τ.length=11):∃ v2 v3 v4 v5 v6 v7 v8 v9 v10 v11 v12,τ=[v2,v3,v4,v5,v6,v7,v8,v9,v10,v11,v12]:=by
 match τ,h with
 | [v2,v3,v4,v5,v6,v7,v8,v9,v10,v11,v12],_=>exact ⟨_,_,_,_,_,_,_,_,_,_,_,rfl⟩
structure F22 (Mc:MD) (Md:MDF) (Mn:MD) (Mr Mk Ml Mu Mz:MDF):Prop where
 dr:Drw Mc Md Mn Mr
 ks:∀ {rs:List (List Th)} {s:Nat} {Γ:Gm},1<=s->s<=8->1<=rs.length->rs.length<=100->total rs<=100000->Mk [.v (AF rs),.v (.int s)] Γ=some (szD rs.length (Aq rs s),Γ)
 lz:∀ {rs:List (List Th)} {s:Nat} {Γ:Gm},1<=s->s<=8->1<=rs.length->rs.length<=100->total rs<=100000->Mz [.v (AF rs),.v (.int s)] Γ=some (szD rs.length (CN rs s),Γ)
 pl:∀ {rs:List (List Th)} {Γ:Gm},total rs<=100000->Ml [.v (AF rs)] Γ=some ((plainT rs).map thD,Γ)
 ul:∀ {rs:List (List Th)} {Γ:Gm},rs.length<=100->(∀ r∈rs,r.length<=1000)->total rs<=5000->Mu [.v (AF rs)] Γ=some ((BV rs).map AK,Γ)
section
variable (ns:List Int) {Mc:MD} {Md:MDF} {Mn:MD} {Mr Mk Ml Mu Mz:MDF}
theorem QQ {K I B T7 T8 T9 v12:Option SV} {Γ:Gm} {rs:List (List Th)} {n i:Nat} (hi:i<rs.length):GE Md Mc Mn Mr Mk Ml Mu Mz ⟨[K,I,B,some (.v (.int (n:Int))),some (.v (AF rs)),some (.v (.lst (szD rs.length (Aq rs n)))),some (.v (.lst ((ksR rs).map .int))),T7,T8,T9,some (.v (.int (enR rs n i:Nat))),some (.v (.int (Aq rs n i))),v12],Γ,0⟩ =
  some (.nx ⟨[K,I,B,some (.v (.int (n:Int))),some (.v (AF rs)),some (.v (.lst (szD rs.length (Aq rs n)))),some (.v (.lst ((ksR rs).map .int))),T7,T8,T9,some (.v (.int (enR rs n (i+1):Nat))),some (.v (.int (Aq rs n i))),v12],Γ,0⟩):=by
 let S:Int->DS:=fun e=>⟨[K,I,B,some (.v (.int (n:Int))),some (.v (AF rs)),some (.v (.lst (szD rs.length (Aq rs n)))),some (.v (.lst ((ksR rs).map .int))),T7,T8,T9,some (.v (.int e)),some (.v (.int (Aq rs n i))),v12],Γ,0⟩
 let e:Nat:=enR rs n (i+1)
 let T:DS:=S (e:Int)
 have g1:AS 10 (mOp BG (AA 10) (AA 11)) (S (enR rs n i:Nat))=some (.nx T):=(BJ (Ak (x:=.v (.int (enR rs n i:Nat))) (y:=.v (.int (Aq rs n i))) (s1:=S (enR rs n i:Nat)) (s2:=S (enR rs n i:Nat)) rfl rfl rfl)).trans (by
  show some (Out.nx (S (((enR rs n i:Nat):Int)+Aq rs n i)))=_
  rw[<-Ux])
 have wl:AN Ad (AB (AA 6) AC) T=some (.v (.int ((ksR rs).length:Nat)),T):=Bg (x:=.v (.lst ((ksR rs).map .int))) (s':=T) rfl (by
  show some (D.int (((ksR rs).map D.int).length:Nat))=_
  rw[List.length_map])
 have wc:Ao (Cd BN BN (mC (.int 0)) (AA 10) (AN Ad (AB (AA 6) AC))) T=some (decide (0<e/\e<(ksR rs).length),T):=by
  by_cases c0:0<e
  ·have a1:BN T.Γ (.v (.int 0)) (.v (.int (e:Int)))=some (.bl true):=by
    show some (D.bl (decide ((0:Int)<(e:Int))))=_
    rw[decide_eq_true (by lia)]
   have a2:BN T.Γ (.v (.int (e:Int))) (.v (.int ((ksR rs).length:Nat)))=some (.bl (decide (0<e/\e<(ksR rs).length))):=by
    show some (D.bl (decide ((e:Int)<((ksR rs).length:Nat))))=_
    congr 2
    exact decide_eq_decide.mpr ⟨fun h=>⟨c0,by lia⟩,fun h=>by lia⟩
   exact CS (Yu (x:=.v (.int 0)) (y:=.v (.int (e:Int))) rfl rfl a1 wl a2)
  ·have a1:BN T.Γ (.v (.int 0)) (.v (.int (e:Int)))=some (.bl false):=by
    show some (D.bl (decide ((0:Int)<(e:Int))))=_
    rw[decide_eq_false (by lia)]
   rw[decide_eq_false (fun h=>c0 h.1)]
   exact CS (RH (x:=.v (.int 0)) (y:=.v (.int (e:Int))) rfl rfl a1)
 have t:Gp (Ao (Cd BN BN (mC (.int 0)) (AA 10) (AN Ad (AB (AA 6) AC)))) (Ao (mOp Bh (mOp gIx (AA 6) (mOp CJ (AA 10) (mC (.int 1)))) (mOp gIx (AA 6) (AA 10)))) T=some (false,T):=by
  unfold Gp
  rw[wc]
  by_cases c:0<e/\e<(ksR rs).length
  ·rw[decide_eq_true c]
   show Ao _ T=_
   obtain ⟨c0,c1⟩:=c
   obtain ⟨x,hx⟩:∃ x,(ksR rs)[e - 1]?=some x:=⟨_,List.getElem?_eq_getElem (by lia)⟩
   obtain ⟨y,hy⟩:∃ y,(ksR rs)[e]?=some y:=⟨_,List.getElem?_eq_getElem c1⟩
   have hne:x≠y:=R5 (kp:=kpR rs n) (ks:=ksR rs) (i:=i) (Vw rs) (i+1) c0 hx hy
   have w1:mOp CJ (AA 10) (mC (.int 1)) T=some (.v (.int ((e - 1:Nat):Int)),T):=Ak (x:=.v (.int (e:Int))) (y:=.v (.int 1)) (s1:=T) (s2:=T) rfl rfl (by
    show some (D.int ((e:Int) - 1))=_
    rw[show (e:Int) - 1=((e - 1:Nat):Int) by lia])
   have w2:mOp gIx (AA 6) (mOp CJ (AA 10) (mC (.int 1))) T=some (.v (.int x),T):=Ak (x:=.v (.lst ((ksR rs).map .int))) (s1:=T) rfl w1 (by show atI ((ksR rs).map D.int) ((e - 1:Nat):Int)=_;exact CP hx)
   have w3:mOp gIx (AA 6) (AA 10) T=some (.v (.int y),T):=Ak (x:=.v (.lst ((ksR rs).map .int))) (y:=.v (.int (e:Int))) (s1:=T) (s2:=T) rfl rfl (by show atI ((ksR rs).map D.int) (e:Int)=_;exact CP hy)
   refine CS (Ak w2 w3 ?_)
   show some (D.bl (decide (x=y)))=_
   rw[decide_eq_false hne]
  ·rw[decide_eq_false c]
   rfl
 unfold GE
 exact (Aa g1).trans ((EE t).trans rfl)
variable (F:F22 Mc Md Mn Mr Mk Ml Mu Mz)
include F
theorem WS (k:Nat) (τ:List (Option SV)) (Γ:Gm) (hτ:τ.length=11) :
  ∃ τ' Γ',(JW Md Mc Mn Mr Mk Ml Mu Mz) ⟨some (.v (.scr ns))::some (.v (.int k))::τ,Γ,0⟩=some (.nx ⟨some (.v (.scr ns))::τ',Γ',0⟩)/\τ'.length=11+1:=by
 obtain ⟨v2,v3,v4,v5,v6,v7,v8,v9,v10,v11,v12,rfl⟩:=YH hτ
 obtain ⟨Γ0,g1,d0⟩:=X4 F.dr (ns:=ns) (k:=k) (v:=v2) (τ:=[v3,v4,v5,v6,v7,v8,v9,v10,v11,v12]) (Γ:=Γ)
 let K:Option SV:=some (.v (.scr ns))
 let I:Option SV:=some (.v (.int k))
 let B:Option SV:=some (.b Γ.length)
 obtain ⟨s,Γ1,s1,s8,dd1,g2⟩:=YO F.dr (i:=3) (d:=2) (S:=⟨[K,I,B,v3,v4,v5,v6,v7,v8,v9,v10,v11,v12],Γ0,0⟩) rfl d0
 let Sv:Option SV:=some (.v (.int s))
 obtain ⟨rs,Γ2,h1,h6,hrl,hrt,ht,dd2,g3⟩:=XN F.dr (i:=4) (d:=2) (S:=⟨[K,I,B,Sv,v4,v5,v6,v7,v8,v9,v10,v11,v12],Γ1,0⟩) rfl (dd1.dk d0)
 have C:C22 rs s:=⟨s1,s8,h1,h6,hrl⟩
 let R:Option SV:=some (.v (AF rs))
 let Z:Option SV:=some (.v (.lst (szD rs.length (Aq rs s))))
 let Q:Option SV:=some (.v (.lst ((ksR rs).map .int)))
 let S4:DS:=⟨[K,I,B,Sv,R,v5,v6,v7,v8,v9,v10,v11,v12],Γ2,0⟩
 let S5:DS:=⟨[K,I,B,Sv,R,Z,v6,v7,v8,v9,v10,v11,v12],Γ2,0⟩
 let S6:DS:=⟨[K,I,B,Sv,R,Z,Q,v7,v8,v9,v10,v11,v12],Γ2,0⟩
 let S7:Option SV->Option SV->Option SV->DS:=fun a b c=>⟨[K,I,B,Sv,R,Z,Q,none,none,none,a,b,c],Γ2,0⟩
 have g4:AS 5 (AH (AX Mk (AB (AA 4) (AB (AA 3) AC)))) S4=some (.nx S5):=BJ (Ay (Br (x:=.v (AF rs)) (y:=.v (.int s)) (s1:=S4) (s2:=S4) rfl rfl (F.ks s1 s8 h1 (by lia) (by lia))))
 have g5:AS 6 (AH (Aw (Ax (AH (AX Ml (AB (AA 4) AC)))) 2 [] (BX [0,1]) mTT (AA 0))) S5=some (.nx S6):=by
  have w:=Ij (EH (M:=Ml) (m:=AA 4) (s:=S5) (s':=S5) (x:=.v (AF rs)) rfl (F.pl (by lia)))
  have e:=LL (Γ:=Γ2) (plainT rs) none none
  rw[ZH] at e
  exact BJ (Ay (B0 (nt:=2) (ix:=[]) w (by rw[List.length_map,L0,BL];lia) e))
 have g6:EX S6=some (.nx (S7 v10 v11 v12)):=Q2 C
 have g7:AS 10 (mC (.int 0)) (S7 v10 v11 v12)=some (.nx (S7 (some (.v (.int (enR rs s 0:Nat)))) v11 v12)):=by
  rw[UJ]
  exact BJ (s':=S7 v10 v11 v12) rfl
 obtain ⟨st,e8,b,rfl⟩:=Ck (g:=AZ 11) (b:=GE Md Mc Mn Mr Mk Ml Mu Mz) (items:=szD rs.length (Aq rs s)) (fun i st=>∃ b,st=S7 (some (.v (.int (enR rs s i:Nat)))) b v12) (by
   rintro i d st hd ⟨b,rfl⟩
   unfold szD at hd
   obtain ⟨j,hj,rfl⟩:=Cu hd
   have hji:=(List.getElem?_eq_some_iff.mp hj)
   obtain ⟨hl,he⟩:=hji
   rw[List.getElem_range] at he
   subst he
   rw[List.length_range] at hl
   exact ⟨S7 (some (.v (.int (enR rs s i:Nat)))) (some (.v (.int (Aq rs s i)))) v12,_,rfl,QQ hl,_,rfl⟩)
  (s:=S7 (some (.v (.int (enR rs s 0:Nat)))) v11 v12) ⟨v11,rfl⟩
 have g8:=D6 (mi:=Ax (AA 5)) (s:=S7 (some (.v (.int (enR rs s 0:Nat)))) v11 v12) (s':=S7 (some (.v (.int (enR rs s 0:Nat)))) v11 v12) rfl e8
 let E:Option SV:=some (.v (.int (enR rs s (szD rs.length (Aq rs s)).length:Nat)))
 let T:DS:=S7 E b (some (.v (AF (BV rs))))
 have g9:AS 12 (AH (AX Mu (AB (AA 4) AC))) (S7 E b v12)=some (.nx T):=BJ (Ay (EH (M:=Mu) (m:=AA 4) (s:=S7 E b v12) (s':=S7 E b v12) (x:=.v (AF rs)) rfl (F.ul (by lia) (fun r hr=>by have:=hrl r hr;lia) (by lia))))
 have hul:=Jo rs
 have hut:=Uk rs
 have wk:AH (AX Mk (AB (AA 12) (AB (AA 3) AC))) T=some (.v (.lst (szD rs.length (CN rs s))),T):=by
  have w:=Ay (Br (M:=Mk) (m:=AA 12) (n:=AA 3) (x:=.v (AF (BV rs))) (y:=.v (.int s)) (s:=T) (s1:=T) (s2:=T) rfl rfl (F.ks (Γ:=T.Γ) s1 s8 (by lia) (by lia) (by lia)))
  rw[Rp,OU (I0 rs) (Iq rs) s] at w
  exact w
 have wz:AH (AX Mz (AB (AA 12) (AB (AA 3) AC))) T=some (.v (.lst (szD rs.length (CN rs s))),T):=by
  have w:=Ay (Br (M:=Mz) (m:=AA 12) (n:=AA 3) (x:=.v (AF (BV rs))) (y:=.v (.int s)) (s:=T) (s1:=T) (s2:=T) rfl rfl (F.lz (Γ:=T.Γ) s1 s8 (by lia) (by lia) (by lia)))
  rw[OU (I0 rs) (Iq rs) s] at w
  exact w
 have wr:AH (AX Mz (AB (AA 4) (AB (AA 3) AC))) T=some (.v (.lst (szD rs.length (CN rs s))),T):=Ay (Br (M:=Mz) (m:=AA 4) (n:=AA 3) (x:=.v (AF rs)) (y:=.v (.int s)) (s:=T) (s1:=T) (s2:=T) rfl rfl (F.lz (Γ:=T.Γ) s1 s8 (by lia) (by lia) (by lia)))
 have t10:=Sd (CS (Ak wk wz (IW (NN _ _)))) (CS (Ak wz wr (IW (NN _ _))))
 have g10:=(EE (m:=Bb (mC (.bl false))) (n:=BO) t10).trans (show BO T=some (.nx T) from rfl)
 refine ⟨[I,B,Sv,R,Z,Q,none,none,none,E,b,some (.v (AF (BV rs)))],Γ2,?_,rfl⟩
 unfold JW
 exact (Aa (g1)).trans ((Aa (g2)).trans ((Aa (g3)).trans ((Aa (g4)).trans ((Aa (g5)).trans ((Aa (g6)).trans ((Aa (g7)).trans ((Aa (g8)).trans ((Aa (g9)).trans (g10)))))))))
end
theorem Wz:F22 Da EM DK Ep FG Mpl FX Fe:=⟨drw,WM,Wk,WI,T3⟩
theorem VY (ns:List Int) (hl:ns.length<=63):mFn 13 (IV EM Da DK Ep FG Mpl FX Fe) [.v (.scr ns)] []=some (.bl true,[]):=UU (by decide) (by decide) hl (WS ns Wz)
end DL
namespace DL
open PySem L2
theorem RD {K:PySem.W.Frag} {M:MD} {ns:List Int} {H:Hp} {a:Addr} {Γ:Gm} (h:M [.v (.scr ns)] []=some (.bl true,Γ)) (hS:SqL K H a (ns.map V.int)):spD K 1 M [.ref a] H (fun v _=>v=.bl true) fun _ _ _=>False:=by
 refine ⟨frQ K H,fun _=>0,emp,[],[.v (.scr ns)],_,rfl,rfl,UX,.cons ?_ .nil,h,fun α' v H' _ _ hv=>?_⟩
 ·show Rep _ (.scr ns) (.ref a)
  unfold Rep
  refine ⟨a,rfl,?_⟩
  rcases hS with h | h
  ·refine .inl ⟨fun z=>?_,h⟩
   rcases z with z | ⟨n,xs,z,_⟩
   ·exact z
   ·cases z
  ·exact .inr fun H'=>.inr h
 ·unfold Rep at hv
  exact hv
def KG:MD:=mFn 13 (IV EM Da DK Ep FG Mpl FX Fe)
theorem Pz (ns:List Int) (hl:ns.length<=63):KG [.v (.scr ns)] []=some (.bl true,[]):=VY ns hl
end DL
namespace L2
open PySem
theorem Fun.bi1 {K:PySem.W.Frag} {x qual:Str} {st:Stmt} {f:Addr} {fd:FuncData} {p1:Str} (F:Fun K x qual st f fd) (h:∀ (kV doc pm:Value) (an:Option Addr) (cdv ct a1:Value),bindArgs (PySem.W.fnOf x qual (Dt st) (C2 st) (AY st) .none kV doc pm an cdv ct) ⟨[a1],[]⟩=pure [(p1,a1)]):Binds K fd [p1] []:=
 F.binds fun kV doc pm an cdv ct us hl=>match us,hl with | [a1],_=>h kV doc pm an cdv ct a1
theorem Fun.bi2 {K:PySem.W.Frag} {x qual:Str} {st:Stmt} {f:Addr} {fd:FuncData} {p1 p2:Str} (F:Fun K x qual st f fd) (h:∀ (kV doc pm:Value) (an:Option Addr) (cdv ct a1 a2:Value),bindArgs (PySem.W.fnOf x qual (Dt st) (C2 st) (AY st) .none kV doc pm an cdv ct) ⟨[a1,a2],[]⟩=pure [(p1,a1),(p2,a2)]):Binds K fd [p1,p2] []:=
 F.binds fun kV doc pm an cdv ct us hl=>match us,hl with | [a1,a2],_=>h kV doc pm an cdv ct a1 a2
theorem Fun.bi3 {K:PySem.W.Frag} {x qual:Str} {st:Stmt} {f:Addr} {fd:FuncData} {p1 p2 p3:Str} (F:Fun K x qual st f fd) (h:∀ (kV doc pm:Value) (an:Option Addr) (cdv ct a1 a2 a3:Value),bindArgs (PySem.W.fnOf x qual (Dt st) (C2 st) (AY st) .none kV doc pm an cdv ct) ⟨[a1,a2,a3],[]⟩=pure [(p1,a1),(p2,a2),(p3,a3)]):Binds K fd [p1,p2,p3] []:=
 F.binds fun kV doc pm an cdv ct us hl=>match us,hl with | [a1,a2,a3],_=>h kV doc pm an cdv ct a1 a2 a3
end L2
namespace DL
open PySem L2 Ev HD PySem.W
theorem all_mk {l:OpenLaw} {w:World} {K:Frag} {h:Heap} {mg:Str->Option Value} {fa:Addr} (O:ob K=vl) (X:K.In h) (G:h.Ns mainGlobals mg) (hfa:mg "law"=some (.ref fa)) :
  ∃ fd:FuncData,(∀ (s:Shared) (v:Value),BindsTo s fd ⟨[v],[]⟩ [("script",v)])/\∀ base:Heap,K.In base->base.Ns mainGlobals mg->FnOk l.prog w K mg base CX0 7 fa fd ["script"] (spD K 1 KG):=by
 have oF:fns.map (fun p=>G8 K p.1)=fns.map GK:=congrArg Prod.fst O
 have oB:bls.map (fun x=>nsIn K mainGlobals x)=bls.map fun _=>some none:=congrArg (·.2.1) O
 have oN:nts.map (fun p=>Hm K p.1)=nts.map fun p=>some p.2:=congrArg (·.2.2.1) O
 obtain ⟨f1,d1,a1,F1⟩:=BC (x:="_law_stir") (st:=JT) (A5 (i:=0) oF rfl)
 obtain ⟨f2,d2,a2,F2⟩:=BC (x:="_law_deck") (st:=IU) (A5 (i:=1) oF rfl)
 obtain ⟨f3,d3,a3,F3⟩:=BC (x:="_law_cell_at") (st:=Ik) (A5 (i:=2) oF rfl)
 obtain ⟨f4,d4,a4,F4⟩:=BC (x:="_law_next") (st:=IR) (A5 (i:=3) oF rfl)
 obtain ⟨f5,d5,a5,F5⟩:=BC (x:="_law_rows") (st:=KJ) (A5 (i:=4) oF rfl)
 obtain ⟨f6,d6,a6,F6⟩:=BC (x:="keys_of") (st:=GY) (A5 (i:=5) oF rfl)
 obtain ⟨f7,d7,a7,F7⟩:=BC (x:="posts_among") (st:=Ht) (A5 (i:=6) oF rfl)
 obtain ⟨f8,d8,a8,F8⟩:=BC (x:="is_whole") (st:=Ia) (A5 (i:=7) oF rfl)
 obtain ⟨f9,d9,a9,F9⟩:=BC (x:="check_asked") (st:=JM) (A5 (i:=8) oF rfl)
 obtain ⟨f10,d10,a10,F10⟩:=BC (x:="samples_of_hand") (st:=FP) (A5 (i:=9) oF rfl)
 obtain ⟨f11,d11,a11,F11⟩:=BC (x:="names_of_hand") (st:=GM) (A5 (i:=10) oF rfl)
 obtain ⟨f12,d12,a12,F12⟩:=BC (x:="samples_of") (st:=Jb) (A5 (i:=11) oF rfl)
 obtain ⟨f13,d13,a13,F13⟩:=BC (x:="posts_of") (st:=JU) (A5 (i:=12) oF rfl)
 obtain ⟨f14,d14,a14,F14⟩:=BC (x:="count_below") (st:=HL) (A5 (i:=13) oF rfl)
 obtain ⟨f15,d15,a15,F15⟩:=BC (x:="ends_by_posts") (st:=Gy) (A5 (i:=14) oF rfl)
 obtain ⟨f16,d16,a16,F16⟩:=BC (x:="sizes_by_ends") (st:=KI) (A5 (i:=15) oF rfl)
 obtain ⟨f17,d17,a17,F17⟩:=BC (x:="key_lot_sizes") (st:=HK) (A5 (i:=16) oF rfl)
 obtain ⟨f18,d18,a18,F18⟩:=BC (x:="names_plainly") (st:=Jh) (A5 (i:=17) oF rfl)
 obtain ⟨f19,d19,a19,F19⟩:=BC (x:="sorted_plainly") (st:=GW) (A5 (i:=18) oF rfl)
 obtain ⟨f20,d20,a20,F20⟩:=BC (x:="rounded_up") (st:=J3) (A5 (i:=19) oF rfl)
 obtain ⟨f21,d21,a21,F21⟩:=BC (x:="lot_bound") (st:=FU) (A5 (i:=20) oF rfl)
 obtain ⟨f22,d22,a22,F22⟩:=BC (x:="_law_hands") (st:=Gn) (A5 (i:=21) oF rfl)
 obtain ⟨f23,d23,a23,F23⟩:=BC (x:="_law_unlike") (st:=HP) (A5 (i:=22) oF rfl)
 obtain ⟨f24,d24,a24,F24⟩:=BC (x:="lot_ends") (st:=Gr) (A5 (i:=23) oF rfl)
 obtain ⟨f25,d25,a25,F25⟩:=BC (x:="lot_sizes") (st:=JI) (A5 (i:=24) oF rfl)
 obtain ⟨f26,d26,a26,F26⟩:=BC (x:="law") (st:=En) (A5 (i:=25) oF rfl)
 have e:=hfa.symm.trans (mg_of X G a26)
 cases e
 have b1:=F1.bi2 (p1:="cell") (p2:="k") fun _ _ _ _ _ _ _ _=>rfl
 have m1:=mg_of X G a1
 have k1:=F1.kp
 have b2:=F2.bi2 (p1:="cell") (p2:="many") fun _ _ _ _ _ _ _ _=>rfl
 have m2:=mg_of X G a2
 have k2:=F2.kp
 have b3:=F3.bi2 (p1:="script") (p2:="k") fun _ _ _ _ _ _ _ _=>rfl
 have m3:=mg_of X G a3
 have k3:=F3.kp
 have b4:=F4.bi1 (p1:="deck") fun _ _ _ _ _ _ _=>rfl
 have m4:=mg_of X G a4
 have k4:=F4.kp
 have b5:=F5.bi1 (p1:="deck") fun _ _ _ _ _ _ _=>rfl
 have m5:=mg_of X G a5
 have k5:=F5.kp
 have b6:=F6.bi1 (p1:="parts") fun _ _ _ _ _ _ _=>rfl
 have m6:=mg_of X G a6
 have k6:=F6.kp
 have b7:=F7.bi2 (p1:="samples") (p2:="hands") fun _ _ _ _ _ _ _ _=>rfl
 have m7:=mg_of X G a7
 have k7:=F7.kp
 have b8:=F8.bi1 (p1:="thing") fun _ _ _ _ _ _ _=>rfl
 have m8:=mg_of X G a8
 have k8:=F8.kp
 have b9:=F9.bi1 (p1:="s") fun _ _ _ _ _ _ _=>rfl
 have m9:=mg_of X G a9
 have k9:=F9.kp
 have b10:=F10.bi2 (p1:="names") (p2:="s") fun _ _ _ _ _ _ _ _=>rfl
 have m10:=mg_of X G a10
 have k10:=F10.kp
 have b11:=F11.bi2 (p1:="row") (p2:="hand") fun _ _ _ _ _ _ _ _=>rfl
 have m11:=mg_of X G a11
 have k11:=F11.kp
 have b12:=F12.bi2 (p1:="rows") (p2:="s") fun _ _ _ _ _ _ _ _=>rfl
 have m12:=mg_of X G a12
 have k12:=F12.kp
 have b13:=F13.bi2 (p1:="rows") (p2:="s") fun _ _ _ _ _ _ _ _=>rfl
 have m13:=mg_of X G a13
 have k13:=F13.kp
 have b14:=F14.bi2 (p1:="parts") (p2:="post") fun _ _ _ _ _ _ _ _=>rfl
 have m14:=mg_of X G a14
 have k14:=F14.kp
 have b15:=F15.bi3 (p1:="parts") (p2:="posts") (p3:="hands") fun _ _ _ _ _ _ _ _ _=>rfl
 have m15:=mg_of X G a15
 have k15:=F15.kp
 have b16:=F16.bi2 (p1:="ends_of_hands") (p2:="hands") fun _ _ _ _ _ _ _ _=>rfl
 have m16:=mg_of X G a16
 have k16:=F16.kp
 have b17:=F17.bi2 (p1:="rows") (p2:="s") fun _ _ _ _ _ _ _ _=>rfl
 have m17:=mg_of X G a17
 have k17:=F17.kp
 have b18:=F18.bi1 (p1:="rows") fun _ _ _ _ _ _ _=>rfl
 have m18:=mg_of X G a18
 have k18:=F18.kp
 have b19:=F19.bi1 (p1:="rows") fun _ _ _ _ _ _ _=>rfl
 have m19:=mg_of X G a19
 have k19:=F19.kp
 have b20:=F20.bi2 (p1:="many") (p2:="parts") fun _ _ _ _ _ _ _ _=>rfl
 have m20:=mg_of X G a20
 have k20:=F20.kp
 have b21:=F21.bi2 (p1:="sizes") (p2:="s") fun _ _ _ _ _ _ _ _=>rfl
 have m21:=mg_of X G a21
 have k21:=F21.kp
 have b22:=F22.bi1 (p1:="rows") fun _ _ _ _ _ _ _=>rfl
 have m22:=mg_of X G a22
 have k22:=F22.kp
 have b23:=F23.bi1 (p1:="rows") fun _ _ _ _ _ _ _=>rfl
 have m23:=mg_of X G a23
 have k23:=F23.kp
 have b24:=F24.bi2 (p1:="rows") (p2:="s") fun _ _ _ _ _ _ _ _=>rfl
 have m24:=mg_of X G a24
 have k24:=F24.kp
 have b25:=F25.bi2 (p1:="rows") (p2:="s") fun _ _ _ _ _ _ _ _=>rfl
 have m25:=mg_of X G a25
 have k25:=F25.kp
 have b26:=F26.bi1 (p1:="script") fun _ _ _ _ _ _ _=>rfl
 have B:=fun i x (z:bls[i]?=some x)=>mg_none_of X G (A5 oB z)
 have T:Nm mg:=⟨B 0 _ rfl,B 1 _ rfl,B 2 _ rfl,B 3 _ rfl,B 4 _ rfl,B 5 _ rfl,B 6 _ rfl,B 7 _ rfl,B 8 _ rfl,B 9 _ rfl,B 10 _ rfl,B 11 _ rfl,B 12 _ rfl,B 13 _ rfl,B 14 _ rfl,B 15 _ rfl,B 16 _ rfl,B 17 _ rfl⟩
 obtain ⟨ty1,y1⟩:=int_at (x:="MOST_SAMPLES") (n:=8) (A5 (i:=0) oN rfl)
 refine ⟨d26,fun s v=>?_,fun base _ _=>?_⟩
 ·obtain ⟨_,_,_,_,_,_,_,_,_,z,_⟩:=F26.ex
  subst z
  exact .of_eq rfl
 have h1:Cal l.prog w K mg base "_law_stir" 1 f1 _ ["cell","k"] (spD K 2 Fk):=⟨SQ F1 T,b1,k1,m1⟩
 have h2:Cal l.prog w K mg base "_law_deck" 2 f2 _ ["cell","many"] (spF K 2 EM):=⟨Yl F2 T h1,b2,k2,m2⟩
 have h3:Cal l.prog w K mg base "_law_cell_at" 1 f3 _ ["script","k"] (spD K 2 Da):=⟨Xr F3 T,b3,k3,m3⟩
 have h4:Cal l.prog w K mg base "_law_next" 1 f4 _ ["deck"] (spD K 1 DK):=⟨TM F4 T,b4,k4,m4⟩
 have h5:Cal l.prog w K mg base "_law_rows" 2 f5 _ ["deck"] (spF K 1 Ep):=⟨ZF F5 T h4 h1,b5,k5,m5⟩
 have h6:Cal l.prog w K mg base "keys_of" 1 f6 _ ["parts"] (spF K 1 Mko):=⟨Sz F6 T,b6,k6,m6⟩
 have h7:Cal l.prog w K mg base "posts_among" 1 f7 _ ["samples","hands"] (spF K 2 Mpa):=⟨Q0 F7 T,b7,k7,m7⟩
 have h8:Cal l.prog w K mg base "is_whole" 1 f8 _ ["thing"] (spD K 1 Hb):=⟨SI F8 T,b8,k8,m8⟩
 have h9:Cal l.prog w K mg base "check_asked" 2 f9 _ ["s"] (spD K 1 Mask):=⟨Y4 F9 T h8 ⟨ty1,mg_of X G y1⟩,b9,k9,m9⟩
 have h10:Cal l.prog w K mg base "samples_of_hand" 1 f10 _ ["names","s"] (spF K 2 Fz):=⟨Xu F10 T,b10,k10,m10⟩
 have h11:Cal l.prog w K mg base "names_of_hand" 1 f11 _ ["row","hand"] (spF K 2 Ej):=⟨Ur F11 T,b11,k11,m11⟩
 have h12:Cal l.prog w K mg base "samples_of" 3 f12 _ ["rows","s"] (spF K 2 KN):=⟨Yz F12 T h9 h10 h11,b12,k12,m12⟩
 have h13:Cal l.prog w K mg base "posts_of" 4 f13 _ ["rows","s"] (spF K 2 Mps):=⟨YF F13 T h7 h12,b13,k13,m13⟩
 have h14:Cal l.prog w K mg base "count_below" 1 f14 _ ["parts","post"] (spD K 2 Mcb):=⟨Xl F14 T,b14,k14,m14⟩
 have h15:Cal l.prog w K mg base "ends_by_posts" 2 f15 _ ["parts","posts","hands"] (spF K 3 Meb):=⟨QZ F15 T h14,b15,k15,m15⟩
 have h16:Cal l.prog w K mg base "sizes_by_ends" 1 f16 _ ["ends_of_hands","hands"] (spF K 2 FM):=⟨ZO F16 T,b16,k16,m16⟩
 have h17:Cal l.prog w K mg base "key_lot_sizes" 5 f17 _ ["rows","s"] (spF K 2 FG):=⟨VC F17 T h6 h13 h15 h16,b17,k17,m17⟩
 have h18:Cal l.prog w K mg base "names_plainly" 2 f18 _ ["rows"] (spF K 1 Mnp):=⟨Xf F18 T h11,b18,k18,m18⟩
 have h19:Cal l.prog w K mg base "sorted_plainly" 3 f19 _ ["rows"] (spF K 1 Mpl):=⟨TC F19 T h18,b19,k19,m19⟩
 have h20:Cal l.prog w K mg base "rounded_up" 1 f20 _ ["many","parts"] (spD K 2 HU):=⟨W4 F20 T,b20,k20,m20⟩
 have h21:Cal l.prog w K mg base "lot_bound" 3 f21 _ ["sizes","s"] (spD K 2 GO):=⟨Qx F21 T h9 h20,b21,k21,m21⟩
 have h22:Cal l.prog w K mg base "_law_hands" 1 f22 _ ["rows"] (spF K 1 F0):=⟨SS F22 T,b22,k22,m22⟩
 have h23:Cal l.prog w K mg base "_law_unlike" 2 f23 _ ["rows"] (spF K 1 FX):=⟨VI F23 T h22,b23,k23,m23⟩
 have h24:Cal l.prog w K mg base "lot_ends" 5 f24 _ ["rows","s"] (spF K 2 IQ):=⟨Te F24 T h13 h15 h11,b24,k24,m24⟩
 have h25:Cal l.prog w K mg base "lot_sizes" 6 f25 _ ["rows","s"] (spF K 2 Fe):=⟨UO F25 T h16 h24,b25,k25,m25⟩
 exact Wa F26 T h2 h3 h4 h5 h17 h19 h21 h23 h25
end DL
open PySem PySem.W PyProof.Rows
theorem PySem.Challenge.cw_evenlots_k22_whole_keys_and_names_holds : PySem.Challenge.rw_evenlots_k22_whole_keys_and_names.Holds := by
 w_on
 o_law
 refine HD.RK (l:=PySem.Challenge.rw_evenlots_k22_whole_keys_and_names) (q:=DL.qv) (loose:=DL.lse) (N:=100000) (obs:=DL.ob) (val:=DL.vl) (by assumption) rfl rfl (fun _=>rfl) (fun w os=>congrFun (congrFun DL.SR w) os) (fun w os=>congrFun (congrFun DL.Yx w) os) (fun w os=>congrFun (congrFun DL.Qk w) os) (by rfl) (by rfl) (by rfl) rfl (by decide +kernel) ⟨rfl,rfl,rfl,rfl,rfl,by decide +kernel⟩ ?hw ?hc
 case hw=>w_witness2
 case hc=>exact HD.Vu (n:=63) (k:=7) (x:="script") (sp:=fun K=>DL.spD K 1 DL.KG) rfl (by decide) rfl ⟨rfl,by decide,by decide⟩ (fun _ _ _ _ _ O X G m=>DL.all_mk O X G m) fun _ _ _ ns hl _ hS=>DL.RD (DL.Pz ns hl) hS
